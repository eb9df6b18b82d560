import PyProof.Rows.All
import Wide.All
import OpenK.AllK
import Wide.FinOn
import Lean
import PyProof.EqAt
import PyProof.EqKinds
import PyProof.TupleCall
import PyProof.NeData
import KE.IntBitsLaws
import KE.KDictList
import PyProof.DictIter
import PyProof.DictItems
import PyProof.DictWalks
import PyProof.StrLoop
import KE.KPairComp
import PyProof.StrWalks
import KE.KSortKey
import KE.KDictOf
import PyProof.Rows.TupDisplay
import PyProof.DictCompW
import PySem.Challenge.RW_crookroad_k50_whole_goings
set_option Elab.async false
set_option linter.all false
set_option maxRecDepth 100000
local macro_rules|`(tactic|lia)=>`(tactic|first|lia +splitIte|omega)
def aa:=@PySem.wpAny_bind
def ac:=@PySem.Heap.get?_push_of_some
def ae:=@List.length_map
def af:=@Nat.le_refl
def ag:=@PySem.wpAny_pure
def ah:=@List.drop_eq_getElem_cons
def ai:=@PySem.Heap.lt_size
def aj:=@if_neg
def ak:=@if_pos
def al:=@List.getElem?_eq_getElem
def am:=@PySem.Heap.get?_push_size
def ao:=@Nat.ne_of_lt
def aq:=@List.mem_cons
def ar:=@List.getD_eq_getElem?_getD
def au:=@List.mem_singleton
def av:=@Option.some.inj
def aw:=@List.mem_append_right
def ax:=@List.lookup_cons
def ay:=@List.not_mem_nil
def az:=@Nat.lt_of_lt_of_le
def aA:=@Bool.false_ne_true
def aB:=@Nat.zero_le
def aC:=@List.length_range
def aD:=@List.map_cons
def aE:=@beq_eq_false_iff_ne
def aF:=@PySem.W.mg_of
def aG:=@Int.mul_le_mul_of_nonneg_right
def aH:=@PySem.W.mg_none_of
def aI:=@List.getElem?_map
def aJ:=@List.size_toArray
def aK:=@PySem.wpAny_mono
def aL:=@List.mem_range
def aM:=@PySem.boot_len
def aN:=@List.mem_map
def aO:=@Array.length_toList
def aP:=@decide_eq_true
def aQ:=@List.length_cons
def aR:=@Int.emod_nonneg
def aS:=@Int.emod_lt_of_pos
def aT:=@List.map_append
def aU:=@List.length_append
def aV:=@decide_eq_false
def aW:=@Bool.and_eq_true
def aX:=@Nat.lt_irrefl
def aY:=@PySem.PassesOwn.leaving
def aZ:=@List.mem_of_getElem?
def ba:=@List.mem_append
def bb:=@PySem.Paired.length
def bc:=@List.mem_cons_of_mem
def bd:=@List.getElem?_append_right
def be:=@PySem.W.kia_one
def bf:=@List.nodup_cons
def bg:=@Ne.symm
def bh:=@List.getElem?_eq_some_iff
def bi:=@Int.mul_le_mul_of_nonneg_left
def bj:=@List.getElem?_eq_none
def bn:=@Nat.le_of_ble_eq_true
def bo:=@Nat.lt_trans
def bp:=@PySem.F.slot_dict_keyiterator_next
def bq:=@List.all_eq_true
def br:=@Nat.le_trans
def bt:=@List.getElem?_append_left
def bu:=@Array.getElem?_eq_getElem
def bv:=@PySem.F.slot_dict_get
def bw:=@Nat.le_of_lt
def bx:=@List.Pairwise.imp_of_mem
def bz:=@PySem.F.slot_list_append
def bA:=@PySem.F.type_list_append
def bB:=@congrArg
def bC:=@PySem.wpAny_typeNameOfWhole_keyiter
def bD:=@PySem.wpAny_newObj_type
def bE:=@PySem.wpAny_dictEntries
def bF:=@List.pairwise_map
def bG:=@PySem.F.plainAttrs_list
def bH:=@List.find?_cons
def bI:=@PyProof.Rows.boot_isinstance
def bJ:=@Array.getElem?_eq_none
def bK:=@List.length_take
def bL:=@PySem.tupleKind_room_in1
def bM:=@List.nodup_nil
def bN:=@Bool.false_eq_true
def bO:=@Classical.byContradiction
def bP:=@PySem.wpAny_passesOwn
def bQ:=@List.range_succ
def bR:=@PySem.wpAny_truthy_bool
def bT:=@Int.lt_or_le
def bU:=@or_false
def bV:=@PySem.wpAny_typeNameOf_keyiter
def bW:=@PySem.mem_of_lookup
def bX:=@List.map_congr_left
def bY:=@List.filter_cons
def bZ:=@PySem.wpAny_getItem_str_slice
def ca:=@PySem.wpAny_Call_Name_kw
def cb:=@List.map_nil
def ce:=@PySem.Calls.callWith_builtin
def cf:=@PySem.F.entry_dict_get
def cg:=@PyProof.Rows.boot_list
def ck:=@List.mem_filter
def cm:=@Bool.eq_iff_iff
def cn:=@List.append_nil
def cu:=@Int.mul_ediv_mul_of_pos_left
def cv:=@Option.map_some
def cw:=@List.length_filter_le
def cx:=@Array.getElem?_toList
def cy:=@PyProof.Rows.callWith_type1
def cz:=@PySem.Calls.evalArgs_plain
def cA:=@Array.size_map
def cB:=@Nat.mod_lt
def cC:=@List.getElem_mem
def cD:=@PySem.call_meetsIn
def cE:=@List.map_map
def cF:=@List.filterMap_cons
def cG:=@Int.toNat_of_nonneg
def cH:=@PySem.Heap.SameBut.update
def cI:=@List.getElem?_range
def cJ:=@PySem.wpAny_comprehension_free
def cK:=@PySem.wpAny_holding
def cL:=@List.length_nil
def cM:=@List.mem_cons_self
def cN:=@PySem.Calls.spliced_cons
def cO:=@Nat.lt_of_le_of_lt
def cP:=@List.pairwise_cons
def cQ:=@PySem.F.plainAttrs_dict
def cR:=@PySem.wpAny_callSpecial?_slot
def cS:=@PySem.Heap.size_push
def cT:=@Int.toNat_natCast
def cU:=@Int.mul_nonneg
def cV:=@List.pairwise_lt_range
def cW:=@PyProof.Rows.boot_min
def cX:=@PyProof.Rows.boot_max
def cY:=@beq_iff_eq
def cZ:=@PySem.wpAny_call_entry
def da:=@PySem.F.args_dict_keyiterator_next_1
def dc:=@List.take_length
def de:=@PySem.wpAny_standAt
def df:=@List.mem_append_left
def dh:=@Int.mul_ediv_cancel'
def di:=@PySem.wpAny_newFunctionEnv
def dj:=@PySem.lookup_relabel_local
def dk:=@PySem.F.entry_dict_keyiterator_next
def dm:=@Nat.div_lt_of_lt_mul
def dn:=@PySem.wpAny_execs_nil
def dq:=@Int.lt_ediv_add_one_mul_self
def dt:=@List.foldl_cons
def du:=@PySem.post_val_or_str
def dv:=@PySem.W.plainGet_of
def dz:=@List.getElem_of_mem
def dA:=@Nat.ne_of_gt
def dB:=@PySem.codeAny_mono
def dC:=@Array.getD_eq_getD_getElem?
def dE:=@PyProof.Rows.assignInOrder_cons
def dF:=@List.mem_filterMap
def dG:=@PySem.W.callWith_K
def dH:=@PySem.F.excBase_ValueError
def dI:=@Int.mul_lt_mul_of_pos_left
def dJ:=@if_false
def dL:=@Array.getElem?_eq_some_iff
def dM:=@List.find?_eq_none
def dN:=@PySem.F.slot_dict_delitem
def dP:=@PySem.Calls.spliced_nil
def dQ:=@Option.isSome_map
def dR:=@List.length_erase
def dS:=@of_decide_eq_true
def dU:=@List.take_add_one
def dW:=@Option.isSome_iff_exists
def dX:=@List.getElem_inj
def dY:=@PySem.wpAny_execs_cons
def dZ:=@Int.natCast_dvd_natCast
def d6:=@PySem.F.args_dict_get_2
def d7:=@PySem.F.args_dict_get_3
def d8:=@PySem.F.slot_dict_items
def ed:=@List.pairwise_singleton
def ee:=@Int.mul_comm
def ef:=@Nat.lt_or_ge
def eh:=@List.of_mem_zip
def el:=@Int.natCast_mul
def eo:=@Int.ediv_nonneg
def eu:=@Int.ediv_mul_le
def eA:=@PySem.wpAny_specialOf
def eB:=@PySem.wpAny_dictEpoch
def eC:=@Nat.not_lt_zero
def eF:=@List.any_cons
section
open PySem PySem.Spec PyProof.Rows
abbrev Aa:=PySem.W.Frag
abbrev Ab:=PySem.Shared
abbrev Ac:=PySem.Program
abbrev Ad:=PySem.FuncData
abbrev Ae:=Around
abbrev Af:=SortSt
abbrev Ag:=Value
abbrev Ah:=World
abbrev Ai:=Keyed
abbrev Aj:=Addr
end
namespace L2
theorem exI {α:Sort _}{A K:α→Prop}{v:α}(e:A v)(h:K v):∃x,A x∧K x:=⟨v,e,h⟩
theorem wr {α β:Sort _}{A:α→Prop}{B:β→Prop}{K:α→β→Prop}{u:α}{v:β}(a:A u)(b:B v)(h:K u v):∃x y,A x∧B y∧K x y:=⟨u,v,a,b,h⟩
theorem exX {α β γ δ:Sort _}{A:α→Prop}{B:γ→Prop}{C:α→β→Prop}{D:β→γ→δ→Prop}{K:δ→Prop}{p:α}{xs:β}{i:γ}{v:δ}(a:A p)(b:B i)(c:C p xs)(d:D xs i v)(h:K v):∃p xs i v,A p∧B i∧C p xs∧D xs i v∧K v:=⟨p,xs,i,v,a,b,c,d,h⟩
end L2
namespace L2
open PySem PySem.Spec PyProof.Rows
abbrev Key:=Sum Int Str
def Ym:Key→Ag→Bool
 |.inl k,v=>Value.isInt k v
 |.inr x,v=>Value.isStrOf x v
def keyH (w:Ah):Key→Int
 |.inl k=>hashInt k
 |.inr x=>hashStr w x
theorem zy:∀ {k:Key} {v:Ag},Ym k v=true→(∃i t,k=Sum.inl i∧v=Value.int i t)∨(∃x t,k=Sum.inr x∧v=Value.str x t)
 |.inl i,v,h=>by
  obtain ⟨t,e⟩:=Value.isInt_shape (k:=i) (v:=v) h
  exact .inl ⟨i,t,rfl,e⟩
 |.inr x,v,h=>by
  obtain ⟨t,e⟩:=Value.isStrOf_shape (x:=x) (v:=v) h
  exact .inr ⟨x,t,rfl,e⟩
theorem qjk (i:Int)(t:Tok):Ym (.inl i) (.int i t)=true:=by simp [Ym,Value.isInt]
theorem qj2 (x:Str)(t:Tok):Ym (.inr x) (.str x t)=true:=by simp [Ym,Value.isStrOf]
theorem key_ll (a b:Int):decide ((Sum.inl a:Key)=Sum.inl b)=(a==b):=by
 by_cases e:a=b
 ·subst e;simp
 ·have h:¬ (Sum.inl a:Key)=Sum.inl b:=λq=>e (Sum.inl.inj q)
  rw [aV h]
  exact (aE.mpr e).symm
theorem key_rr (a b:Str):decide ((Sum.inr a:Key)=Sum.inr b)=decide (a=b):=by
 by_cases e:a=b
 ·subst e;simp
 ·have h:¬ (Sum.inr a:Key)=Sum.inr b:=λq=>e (Sum.inr.inj q)
  rw [aV h,aV e]
theorem key_lr (a:Int)(b:Str):decide ((Sum.inl a:Key)=Sum.inr b)=false:=aV (λq=>nomatch q)
theorem key_rl (a:Str)(b:Int):decide ((Sum.inr a:Key)=Sum.inl b)=false:=aV (λq=>nomatch q)
def xj (prog:Ac)(w:Ah):PySem.KeyKind prog w Key where
 is:=Ym
 hash:=keyH w
 inj:=λv a b ha hb=>by
  rcases zy ha with ⟨i,t,rfl,rfl⟩|⟨x,t,rfl,rfl⟩
  ·rcases zy hb with ⟨j,u,rfl,e⟩|⟨y,u,rfl,e⟩
   ·injection e with e1 _;rw [e1]
   ·exact nomatch e
  ·rcases zy hb with ⟨j,u,rfl,e⟩|⟨y,u,rfl,e⟩
   ·exact nomatch e
   ·injection e with e1 _;rw [e1]
 byValue:=λk v h=>by
  rcases zy h with ⟨i,t,rfl,rfl⟩|⟨x,t,rfl,rfl⟩ <;> rfl
 pyHash:=λhv h=>by
  rcases zy hv with ⟨i,t,rfl,rfl⟩|⟨x,t,rfl,rfl⟩
  ·exact wpAny_pyHash_int h
  ·exact wpAny_pyHash_str h
 eqBool:=λhu hv h=>by
  rcases zy hu with ⟨i,t,rfl,rfl⟩|⟨x,t,rfl,rfl⟩
  ·rcases zy hv with ⟨j,u,rfl,rfl⟩|⟨y,u,rfl,rfl⟩
   ·rw [key_ll] at h;exact wpAny_eqBool_int h
   ·rw [key_lr] at h;exact SeqAt.EqAt.int_str i t y u _ _ _ _ h
  ·rcases zy hv with ⟨j,u,rfl,rfl⟩|⟨y,u,rfl,rfl⟩
   ·rw [key_rl] at h;exact SeqAt.EqAt.str_int x t j u _ _ _ _ h
   ·rw [key_rr] at h;exact wpAny_eqBool_str h
 «strs»:=λk x t v h=>by
  rcases zy h with ⟨i,u,rfl,e⟩|⟨y,u,rfl,e⟩
  ·exact nomatch e
  ·injection e with e1 _
   subst e1
   cases v <;> rfl
theorem qzy (prog:Ac)(w:Ah)(i:Int)(t:Tok):(xj prog w).is (.inl i) (.int i t)=true:=qjk i t
theorem qw8 (prog:Ac)(w:Ah)(x:Str)(t:Tok):(xj prog w).is (.inr x) (.str x t)=true:=qj2 x t
inductive V where
 |non|bl (b:Bool)|int (i:Int)|str (x:Str)|byt (b:Array UInt8)|flt (b:UInt64)|ref (a:Aj)|ty (n:String)
 deriving DecidableEq
def RelV:V→Ag→Prop
 |.non,u=>u=Value.none
 |.bl b,u=>u=Value.bool b
 |.int i,u=>∃t,u=Value.int i t
 |.str x,u=>∃t,u=Value.str x t
 |.byt b,u=>∃t,u=Value.bytes b t
 |.flt b,u=>∃t,u=Value.float b t
 |.ref a,u=>u=Value.ref a
 |.ty n,u=>u=Value.type n
abbrev Vals:List V→List Ag→Prop:=Paired RelV
theorem Vals.length {xs:List V}{us:List Ag}(r:Vals xs us):xs.length=us.length:=bb r
theorem Vals.get:∀ {xs:List V} {us:List Ag} {i:Nat} {x:V},Vals xs us→xs[i]?=some x→∃u,us[i]?=some u∧RelV x u
 |_,_,_,_,.nil,e=>by simp at e
 |_,_,0,_,.cons r _,e=>by simp at e;subst e;exact ⟨_,rfl,r⟩
 |_,_,i+1,x,.cons _ t,e=>by
  obtain ⟨u,h1,h2⟩:=Vals.get (i:=i) (x:=x) t (by simpa using e)
  exact ⟨u,by simpa using h1,h2⟩
theorem Vals.append:∀ {xs ys:List V} {us ws:List Ag},Vals xs us→Vals ys ws→Vals (xs++ys) (us++ws)
 |_,_,_,_,.nil,s=>s
 |_,_,_,_,.cons r t,s=>.cons r (Vals.append t s)
def RelO:Option V→Option Ag→Prop
 |some v,some u=>RelV v u
 |none,none=>True
 |_,_=>False
def KV {κ:Type}:List (κ×V)→List (κ×Ag)→Prop:=Paired λ(p:κ×V) (q:κ×Ag)=>p.1=q.1∧RelV p.2 q.2
def kV:Key→V
 |.inl i=>.int i
 |.inr x=>.str x
inductive HO where
 |lst (xs:List V)
 |tup (xs:List V)
 |dK (kvs:List (Key×V))|dT (kvs:List (List Key×V))
 |set (S:Int→Bool) (n:Nat)
 |ins (C dx:Aj) (fs:List (Str×V))
 |own (x:Aj)
 |xd (fs:List (Str×V))
 |met (f x:Aj)
 |rng (lo hi:Int)
 |frz (o:Obj) (u:HO)
 |tbl (ps:Array Ag)
 |ext (φ:Heap→Prop)
abbrev Hp:=Aj→Option HO
def upd (H:Hp)(a:Aj)(o:HO):Hp:=λb=>if b=a then some o else H b
theorem qt {H:Hp}{a:Aj}{o:HO}:upd H a o a=some o:=by unfold upd;rw [ak rfl]
theorem wc {H:Hp}{a b:Aj}{o:HO}(h:b≠a):upd H a o b=H b:=by unfold upd;rw [aj h]
theorem Qv {H:Hp}{a:Aj}{o u:HO}:upd (upd H a o) a u=upd H a u:=by
 funext b;unfold upd;split <;> rfl
theorem ne_of {H:Hp}{a b:Aj}{o u:HO}(h:H a=some o)(h':H b=some u)(d:o≠u):a≠b:=by
 intro e;subst e;rw [h] at h';exact d (av h')
theorem qg {H:Hp}{a b:Aj}{o:HO}(h:H a=some o)(h':H b=none):a≠b:=by
 intro e;subst e;rw [h] at h';cases h'
section
variable (P:Ac)(w:Ah)
def ObjOk (H:Hp)(h:Heap)(a:Aj):HO→Prop
 |.lst xs=>xs.length≤sizeLine∧∃(its:List Ag) (n:Nat),Vals xs its∧h.get? a=some { cls:=.type "list",data:=.seq its.toArray n }
 |.tup xs=>xs.length≤sizeLine∧∃its:List Ag,Vals xs its∧IsTup h a its.toArray
 |.dK kvs=>kvs.length≤sizeLine∧(a==sysModules)=false∧∃vs,KV kvs vs∧h.DictOf (xj P w) a vs
 |.dT kvs=>kvs.length≤sizeLine∧(a==sysModules)=false∧∃xs:List (List Key×Aj×Ag),
   Paired (λ(p:List Key×V) (q:List Key×Aj×Ag)=>p.1=q.1∧H q.2.1=some (.tup (p.1.map kV))∧RelV p.2 q.2.2) kvs xs ∧
   ∃o es ep,h.get? a=some o∧o.ExactDict∧o.data=.dict es ep∧es.toList=xs.map (entryOfKey (tupleKind (xj P w)))∧(xs.map (·.1)).Nodup
 |.set S n=>h.SetOf (intKind P w) a S n
 |.ins C dx fs=>H dx=some (.own a)∧fs.length≤1000∧dx≠a∧h.get? a=some (PySem.W.instObj C dx) ∧
   ∃mA,h.Ns1 dx mA∧(∀f,RelO (fs.lookup f) (mA f))∧PySem.Within mA (fs.map (·.1))
 |.own _=>∃o,h.get? a=some o
 |.xd fs=>∃mA,h.Ns1 a mA∧∀f,RelO (fs.lookup f) (mA f)
 |.rng lo hi=>∃t u v,h.get? a=some { cls:=.type "range",data:=.fields #[.int lo t,.int hi u,.int 1 v] }
 |.frz o u=>h.get? a=some o∧ObjOk H h a u
 |.tbl ps=>h.get? a=some { cls:=.none,data:=.fields ps }
 |.met f x=>h.get? a=some (PySem.W.methodObj (.ref f) (.ref x))
 |.ext φ=>φ h∧(∃o,h.get? a=some o)∧∀h1 h2:Heap,φ h1→(∀o,h1.get? a=some o→h2.get? a=some o)→φ h2
def HOk (H:Hp)(h:Heap):Prop:=∀a o,H a=some o→ObjOk P w H h a o
end
section
variable {P:Ac}{w:Ah}{H H':Hp}{h h':Heap}{a:Aj}{o:HO}
theorem ObjOk.lt (x:ObjOk P w H h a o):a<h.objs.size:=by
 cases o with
 |lst xs=>obtain ⟨_,_,_,_,e⟩:=x;exact ai e
 |tup xs=>obtain ⟨_,_,_,p⟩:=x;exact p.lt
 |dK kvs=>obtain ⟨_,_,_,_,o,_,_,e,_⟩:=x;exact ai e
 |dT kvs=>obtain ⟨_,_,_,_,o,_,_,e,_⟩:=x;exact ai e
 |set S n=>obtain ⟨o,_,_,_,e,_⟩:=x;exact ai e
 |ins C dx fs=>obtain ⟨_,_,_,e,_⟩:=x;exact ai e
 |own y=>obtain ⟨_,e⟩:=x;exact ai e
 |xd fs=>obtain ⟨_,⟨_,_,_,e,_⟩,_⟩:=x;exact ai e
 |rng lo hi=>obtain ⟨_,_,_,e⟩:=x;exact ai e
 |frz ob u=>obtain ⟨e,_⟩:=x;exact ai e
 |tbl ps=>exact ai (show h.get? a=some _ from x)
 |met f y=>exact ai (show h.get? a=some _ from x)
 |ext φ=>obtain ⟨_,⟨_,e⟩,_⟩:=x;exact ai e
theorem Paired.mapP {α β:Type}{F G:α→β→Prop}:∀ {l₁:List α} {l₂:List β},Paired F l₁ l₂→(∀a b,F a b→G a b)→Paired G l₁ l₂
 |_,_,.nil,_=>.nil
 |_,_,.cons r t,f=>.cons (f _ _ r) (Paired.mapP t f)
theorem ObjOk.stay (x:ObjOk P w H h a o)(k:∀b u,(b=a∨H b=some (.own a))→h.get? b=some u→h'.get? b=some u)
  (ho:∀b,H b=some (.own a)→H' b=some (.own a)) (ht:∀b xs,H b=some (.tup xs)→H' b=some (.tup xs)):ObjOk P w H' h' a o:=by
 induction o with
 |lst xs=>obtain ⟨z,its,n,r,e⟩:=x;exact ⟨z,its,n,r,k _ _ (.inl rfl) e⟩
 |tup xs=>obtain ⟨z,its,r,ob,e,c⟩:=x;exact ⟨z,its,r,ob,k _ _ (.inl rfl) e,c⟩
 |dK kvs=>obtain ⟨z,y,vs,r,ob,es,ep,e,c⟩:=x;exact ⟨z,y,vs,r,ob,es,ep,k _ _ (.inl rfl) e,c⟩
 |dT kvs =>
  obtain ⟨z,y,xs,r,ob,es,ep,e,c⟩:=x
  exact ⟨z,y,xs,Paired.mapP r λp q z=>⟨z.1,ht _ _ z.2.1,z.2.2⟩,ob,es,ep,k _ _ (.inl rfl) e,c⟩
 |set S n=>obtain ⟨ob,es,ep,t,e,c⟩:=x;exact ⟨ob,es,ep,t,k _ _ (.inl rfl) e,c⟩
 |ins C dx fs =>
  obtain ⟨d,z,ne,e,mA,⟨od,es,ep,e2,c⟩,r⟩:=x
  exact ⟨ho _ d,z,ne,k _ _ (.inl rfl) e,mA,⟨od,es,ep,k _ _ (.inr d) e2,c⟩,r⟩
 |own y=>obtain ⟨ob,e⟩:=x;exact ⟨ob,k _ _ (.inl rfl) e⟩
 |xd fs=>obtain ⟨mA,⟨od,es,ep,e,c⟩,r⟩:=x;exact ⟨mA,⟨od,es,ep,k _ _ (.inl rfl) e,c⟩,r⟩
 |rng lo hi=>obtain ⟨t,u,v,e⟩:=x;exact ⟨t,u,v,k _ _ (.inl rfl) e⟩
 |frz ob u ih=>obtain ⟨e,q⟩:=x;exact ⟨k _ _ (.inl rfl) e,ih q⟩
 |tbl ps =>
  have e:h.get? a=some { cls:=.none,data:=.fields ps }:=x
  show h'.get? a=some { cls:=.none,data:=.fields ps }
  exact k a _ (.inl rfl) e
 |met f y =>
  have e:h.get? a=some (PySem.W.methodObj (.ref f) (.ref y)):=x
  show h'.get? a=some (PySem.W.methodObj (.ref f) (.ref y))
  exact k a _ (.inl rfl) e
 |ext φ=>obtain ⟨p,⟨o,e⟩,st⟩:=x;exact ⟨st _ _ p λo q=>k _ _ (.inl rfl) q,⟨o,k _ _ (.inl rfl) e⟩,st⟩
theorem HOk.lt (x:HOk P w H h)(e:H a=some o):a<h.objs.size:=(x a o e).lt
theorem HOk.fresh (x:HOk P w H h)(e:h.objs.size≤a):H a=none:=by
 cases q:H a with
 |none=>rfl
 |some u=>exact absurd (az (x.lt q) e) (aX _)
theorem HOk.kept (x:HOk P w H h)(k:∀b u,h.get? b=some u→h'.get? b=some u):HOk P w H h':=λa o e =>
 (x a o e).stay (λb u _ q=>k b u q) (λ_ q=>q) λ_ _ q=>q
theorem HOk.laid (x:HOk P w H h)(k:∀b u,h.get? b=some u→h'.get? b=some u)(hp:h.objs.size≤a)(new:ObjOk P w (upd H a o) h' a o):HOk P w (upd H a o) h':=λb u e=>by
 have hn:=x.fresh hp
 by_cases hb:b=a
 ·subst hb;rw [qt] at e;cases e;exact new
 ·rw [wc hb] at e
  exact (x b u e).stay (λc v _ q=>k c v q) (λc q=>by rw [wc (qg q hn)];exact q) λc xs q=>by rw [wc (qg q hn)];exact q
end
def Rd (H:Hp)(a:Aj)(u:HO):Prop:=H a=some u∨∃o,H a=some (.frz o u)
theorem Rd.ok {P:Ac}{w:Ah}{H:Hp}{h:Heap}{a:Aj}{u:HO}(r:Rd H a u)(x:HOk P w H h):ObjOk P w H h a u:=by
 rcases r with r|⟨o,r⟩
 ·exact x a u r
 ·obtain ⟨_,q⟩:=x a _ r
  exact q
def Mut:Option HO→Prop
 |some (.lst _)=>True
 |some (.dK _)=>True
 |some (.dT _)=>True
 |some (.set _ _)=>True
 |some (.ins _ _ _)=>True
 |some (.ext _)=>True
 |_=>False
section
variable {P:Ac}{w:Ah}{H:Hp}{h h':Heap}{x e:Aj}{o':HO}
theorem HOk.write (ok:HOk P w H h)(mu:Mut (H x))(he:e=x∨H e=some (.own x))(k:∀b u,b≠e→h.get? b=some u→h'.get? b=some u)(heo:∃u,h'.get? e=some u)
  (new:ObjOk P w (upd H x o') h' x o'):HOk P w (upd H x o') h':=λb u q=>by
 have nown:∀c y,H c=some (.own y)→c≠x:=λc y r z=>by subst z;rw [r] at mu;exact mu
 have ntup:∀c xs,H c=some (.tup xs)→c≠x:=λc xs r z=>by subst z;rw [r] at mu;exact mu
 by_cases hb:b=x
 ·subst hb;rw [qt] at q;cases q;exact new
 ·rw [wc hb] at q
  by_cases hbe:b=e
  ·have q':H b=some (.own x):=by
    rcases he with z|z
    ·exact absurd (hbe.trans z) hb
    ·rw [hbe];exact z
   rw [q] at q';cases q'
   obtain ⟨v,hv⟩:=heo
   exact ⟨v,by rw [hbe];exact hv⟩
  ·refine (ok b u q).stay (λc v hc r=>k c v ?_ r) (λc r=>by rw [wc (nown c b r)];exact r) λc xs r=>by rw [wc (ntup c xs r)];exact r
   rcases hc with rfl|hc
   ·exact hbe
   ·rintro rfl
    rcases he with z|z
    ·exact nown c b hc z
    ·rw [hc] at z;cases z;exact hb rfl
end
structure Un (fs ex:List Aj)(H H':Hp)(h h':Heap):Prop where
 keep:∀b o,h.get? b=some o→H b=none→b∉fs→b∉ex→h'.get? b=some o
 slot:∀b o,h.get? b=some o→H b=none→b∈fs→b∉ex→∃sl,h'.get? b=some { o with slots:=sl }
 free:∀b o,h.get? b=some o→H b=none→b∉ex→H' b=none
 there:∀b o,h.get? b=some o→b∉ex→∃o',h'.get? b=some o'
 tups:∀b xs,H b=some (.tup xs)→H' b=some (.tup xs)
 frzs:∀b o u,H b=some (.frz o u)→H' b=some (.frz o u)
 tbls:∀b ps,H b=some (.tbl ps)→∃more,H' b=some (.tbl (ps++more))
section
variable {fs fs' ex ex':List Aj}{H H1 H2:Hp}{h h1 h2 h':Heap}{a x e:Aj}{o:HO}
theorem Un.any (u:Un fs ex H H1 h h1){b:Aj}{ob:Obj}(q:h.get? b=some ob)(n:H b=none)(hx:b∉ex):∃sl,h1.get? b=some { ob with slots:=sl }:=by
 by_cases hb:b∈fs
 ·exact u.slot b ob q n hb hx
 ·exact ⟨ob.slots,u.keep b ob q n hb hx⟩
theorem Un.kept (k:∀b u,h.get? b=some u→h'.get? b=some u):Un fs ex H H h h' :=
 ⟨λb ob q _ _ _=>k b ob q,λb ob q _ _ _=>⟨ob.slots,k b ob q⟩,λ_ _ _ n _=>n,λb ob q _=>⟨ob,k b ob q⟩,λ_ _ q=>q,λ_ _ _ q=>q,λ_ ps q=>⟨#[],by rw [q];simp⟩⟩
theorem Un.refl:Un fs ex H H h h:=Un.kept λ_ _ q=>q
theorem Un.laid (k:∀b u,h.get? b=some u→h'.get? b=some u)(hp:h.objs.size≤a)(hn:H a=none):Un fs ex H (upd H a o) h h' where
 keep:=λb u q _ _ _=>k b u q
 slot:=λb u q _ _ _=>⟨u.slots,k b u q⟩
 free:=λb u q n _=>by rw [wc (ao (az (ai q) hp))];exact n
 there:=λb u q _=>⟨u,k b u q⟩
 tups:=λb xs q=>by rw [wc (qg q hn)];exact q
 frzs:=λb u xs q=>by rw [wc (qg q hn)];exact q
 tbls:=λb ps q=>⟨#[],by rw [wc (qg q hn),q];simp⟩
theorem Un.write (mu:Mut (H x))(he:e=x∨H e=some (.own x))(k:∀b u,b≠e→h.get? b=some u→h'.get? b=some u)(heo:∃u,h'.get? e=some u):Un fs ex H (upd H x o) h h':=by
 have hx:∀b,H b=none→b≠x:=λb n z=>by subst z;rw [n] at mu;exact mu
 have hb:∀b,H b=none→b≠e:=λb n z=>by
  subst z
  rcases he with r|r
  ·exact hx b n r
  ·rw [n] at r;cases r
 have hm:∀b u,H b=some u→¬ Mut (some u)→b≠x:=λb u q nm z=>by subst z;rw [q] at mu;exact nm mu
 refine ⟨λb u q n _ _=>k b u (hb b n) q,λb u q n _ _=>⟨u.slots,k b u (hb b n) q⟩,λb u q n _=>by rw [wc (hx b n)];exact n,λb u q _=>?_,
  λb xs q=>by rw [wc (hm b _ q λz=>z)];exact q,λb u xs q=>by rw [wc (hm b _ q λz=>z)];exact q,λb ps q=>⟨#[],by rw [wc (hm b _ q λz=>z),q];simp⟩⟩
 by_cases hbe:b=e
 ·subst hbe;exact heo
 ·exact ⟨u,k b u hbe q⟩
end
def trk (h:Heap)(H:Hp):List Aj:=(List.range h.objs.size).filter λa=>(H a).isSome
def qwp (h:Heap)(H:Hp):Heap:=PySem.W.hideAll h (trk h H)
theorem qjn (h:Heap)(H:Hp):(qwp h H).objs.size=h.objs.size:=PySem.W.hideAll_size _ _
theorem wqh {h:Heap}{H:Hp}{b:Aj}{o:Obj}(e:h.get? b=some o)(n:H b=none):(qwp h H).get? b=some o :=
 PySem.W.hideAll_get _ e λhm=>by
  have q:(H b).isSome=true:=(ck.mp hm).2
  rw [n] at q;simp at q
theorem wx8 {h:Heap}{H:Hp}{b:Aj}{o:Obj}(e:(qwp h H).get? b=some o):h.get? b=some o∧H b=none:=by
 have e':h.get? b=some o:=PySem.W.of_hideAll (trk h H) e
 refine ⟨e',?_⟩
 cases q:H b with
 |none=>rfl
 |some x =>
  have hm:b∈trk h H:=ck.mpr ⟨aL.mpr (ai e'),by simp [q]⟩
  have z:(qwp h H).get? b=none:=PySem.W.hideAll_none (trk h H) hm
  rw [z] at e;cases e
def wxm (g h:Heap)(L:Aj):List (Aj×Obj):=(List.range h.objs.size).filterMap λa=>if a=L∨(g.get? a).isSome=true then none else (h.get? a).map λo=>(a,o)
def rest (g h:Heap)(L d:Aj):List (Aj×Obj):=(wxm g h L).filter λp=>decide (p.1≠d)
structure Mod (K:Aa)(mg:Str→Option Ag)(base:Heap):Prop where
 kin:K.In base
 glob:base.Ns mainGlobals mg
 blt:∃mb,base.Ns builtinsNs mb∧∀x:Str,x ≠ "__name__" → mb x=bootBuiltins x
 nolimit:base.NoLimit
structure Cx where
 prog:Ac
 w:Ah
 K:Aa
 mg:Str→Option Ag
 base:Heap
 A:Ae
 N:List Str
 s₀:Ab
 H₀:Hp
 env:Env
 outer:List Env
 stack:List Env
 ex:List Aj
 fn:Str→Bool
 calm:Bool
 pn:List (Aj×Obj)
 xe:Ag→Ab→Prop
def frs (l:List Env):List Aj:=l.filterMap (·.frame)
abbrev Cx.fs (X:Cx):List Aj:=frs X.outer
def Vis (sc:Scope)(x:Str):Prop:=sc.names.lookup x=some .local∨sc.names.lookup x=some .cell∨sc.names.lookup x=some .free
def Loc (sc:Scope)(x:Str):Prop:=sc.names.lookup x=some .local∨sc.names.lookup x=some .cell
def Look (env:Env)(h:Heap)(m:Str→Option Ag)(x:Str)(u:Ag):Prop :=
 (env.kindOf x=some .local∧m x=some u)∨((env.kindOf x=some .cell∨env.kindOf x=some .free)∧∃c,env.cells.lookup x=some c∧h.IsCell c (some u))
structure Cx.Ok (X:Cx):Prop where
 mod:Mod X.K X.mg X.base
 kind:X.env.scope.kind=.function
 glob:X.env.globals=mainGlobals
 blt:X.env.builtins=builtinsNs
 above:X.s₀.heap.objs.size≤X.env.locals
 inj:∀x y c,X.env.cells.lookup x=some c→X.env.cells.lookup y=some c→x=y
 has:∀x,(X.env.kindOf x=some .cell∨X.env.kindOf x=some .free)→∃c,X.env.cells.lookup x=some c
 cab:∀x c,X.fn x=true→X.env.cells.lookup x=some c→X.s₀.heap.objs.size≤c
 hd:X.calm=true→X.A.handled=none
 frames:X.A.frames=some X.stack
 stk:X.stack=X.outer∨(X.stack=X.env::X.outer∧X.env.frame=some X.env.locals)
 exf:∀b∈X.ex,b≠X.env.locals∧∀x c,X.env.cells.lookup x=some c→c≠b
 bs:∀b o,X.base.get? b=some o→X.s₀.heap.get? b=some o∧X.H₀ b=none
 bsz:X.base.objs.size≤X.s₀.heap.objs.size
 noex:∀b o,X.base.get? b=some o→b∉X.ex
 exfs:∀b∈X.ex,b∉X.fs
 funs:X.s₀.heap.FunFrames X.base X.outer
 frf:∀b∈X.fs,X.H₀ b=none
structure Inv (X:Cx)(pins:List (Aj×Obj))(σ:List (Option V))(H:Hp)(s:Ab):Prop where
 ok:X.Ok
 os:s.os=X.s₀.os
 bare:AllBare s.gens
 base:Un X.fs X.ex X.H₀ H X.s₀.heap s.heap
 loc:∃m,s.heap.Ns X.env.locals m∧∀(i:Nat) (x:Str) (v:V),X.N[i]?=some x→σ[i]?=some (some v)→Vis X.env.scope x→∃u,RelV v u∧Look X.env s.heap m x u
 cell:∀x c,X.env.cells.lookup x=some c→∃v,s.heap.IsCell c v
 free:H X.env.locals=none
 freeC:∀x c,X.env.cells.lookup x=some c→H c=none
 pin:∀p∈X.pn++pins,s.heap.get? p.1=some p.2∧H p.1=none∧p.1≠X.env.locals∧p.1∉X.fs∧∀v,p.2.data≠.cell v
 hok:HOk X.prog X.w H s.heap
 len:σ.length=X.N.length
section
variable {X:Cx}{pins:List (Aj×Obj)}{σ:List (Option V)}{H H':Hp}{s:Ab}{h':Heap}
theorem Cx.Ok.nofr (ok:X.Ok){b:Aj}{o:Obj}(e:X.base.get? b=some o):b∉X.fs:=λhb=>by
 have:=(ok.funs.mem hb).1
 rw [e] at this;cases this
theorem Inv.bs (I:Inv X pins σ H s):∀b o,X.base.get? b=some o→s.heap.get? b=some o∧H b=none:=λb o e =>
 ⟨I.base.keep b o (I.ok.bs b o e).1 (I.ok.bs b o e).2 (I.ok.nofr e) (I.ok.noex b o e),I.base.free b o (I.ok.bs b o e).1 (I.ok.bs b o e).2 (I.ok.noex b o e)⟩
theorem Inv.bk (I:Inv X pins σ H s):∀b o,X.base.get? b=some o→s.heap.get? b=some o:=λb o e=>(I.bs b o e).1
theorem Inv.mod (I:Inv X pins σ H s):Mod X.K X.mg X.base:=I.ok.mod
theorem Inv.kIn (I:Inv X pins σ H s):X.K.In s.heap:=I.ok.mod.kin.keeps I.bk
theorem Inv.lt (I:Inv X pins σ H s):X.env.locals<s.heap.objs.size:=let ⟨_,hn,_⟩:=I.loc;hn.lt
theorem Inv.sz (I:Inv X pins σ H s):X.s₀.heap.objs.size≤s.heap.objs.size:=br I.ok.above (bw I.lt)
theorem Inv.nofs (I:Inv X pins σ H s){a:Aj}(h:s.heap.objs.size≤a):a∉X.fs:=λhb=>by
 obtain ⟨_,o,ho,_⟩:=I.ok.funs.mem hb
 exact absurd (az (ai ho) (br I.sz h)) (aX _)
theorem Inv.cne (I:Inv X pins σ H s):∀x c,X.env.cells.lookup x=some c→c≠X.env.locals:=λx c e z=>by
 obtain ⟨v,o,ho,hd⟩:=I.cell x c e
 obtain ⟨m,⟨o',es,ep,ho',hd',_⟩,_⟩:=I.loc
 rw [z,ho'] at ho;cases ho;rw [hd'] at hd;cases hd
theorem Inv.funs (I:Inv X pins σ H s):s.heap.FunFrames X.base X.outer:=by
 have all:∀(l:List Env),(∀b∈frs l,b∈X.fs)→X.s₀.heap.FunFrames X.base l→s.heap.FunFrames X.base l:=by
  intro l
  induction l with
  |nil=>intro _ _;trivial
  |cons env r ih =>
   intro hs hl
   obtain ⟨hk,⟨L,o,hf,hn,ho,hd⟩,hr⟩:=hl
   have hL:L∈X.fs:=hs L (by unfold frs;rw [cF,hf];exact cM)
   obtain ⟨sl,e⟩:=I.base.slot L o ho (I.ok.frf L hL) hL λz=>I.ok.exfs L z hL
   exact ⟨hk,⟨L,_,hf,hn,e,hd⟩,ih (λb hb=>hs b (by unfold frs;rw [cF,hf];exact bc _ hb)) hr⟩
 exact all X.outer (λ_ hb=>hb) I.ok.funs
theorem Inv.stack (I:Inv X pins σ H s):s.heap.FunFrames X.base X.stack:=by
 rcases I.ok.stk with e|⟨e,hf⟩
 ·rw [e];exact I.funs
 ·rw [e]
  obtain ⟨m,hn,_⟩:=I.loc
  refine .cons (by rw [I.ok.kind];decide) hf hn ?_ I.funs
  exact Heap.get?_none_of_le (br I.ok.bsz I.ok.above)
theorem Inv.stkSub (I:Inv X pins σ H s):∀b∈frs X.stack,b∈X.env.locals::X.fs:=λb hb=>by
 rcases I.ok.stk with e|⟨e,hf⟩
 ·rw [e] at hb;exact bc _ hb
 ·rw [e] at hb
  unfold frs at hb
  rw [cF,hf] at hb
  exact hb
theorem Inv.stkFree (I:Inv X pins σ H s):∀b∈frs X.stack,H b=none:=λb hb=>by
 rcases aq.mp (I.stkSub b hb) with e|hb
 ·rw [e];exact I.free
 ·obtain ⟨_,o,ho,_⟩:=I.ok.funs.mem hb
  exact I.base.free b o ho (I.ok.frf b hb) λz=>I.ok.exfs b z hb
theorem Inv.step {g':Array GenState}{t':Nat}{d':Drawn}{ch:List Aj}(I:Inv X pins σ H s)
  (hch:∀b∈ch,(b∈X.ex∨X.s₀.heap.objs.size≤b)∧b≠X.env.locals∧(∀x c,X.env.cells.lookup x=some c→c≠b)∧∀p∈X.pn++pins,p.1≠b)
  (keep:∀b o,b≠X.env.locals→b∉X.fs→b∉ch→s.heap.get? b=some o→H b=none→h'.get? b=some o)
  (slot:∀b o,b≠X.env.locals→b∈X.fs→b∉ch→s.heap.get? b=some o→H b=none→∃sl,h'.get? b=some { o with slots:=sl }) (free:∀b o,b∉ch→s.heap.get? b=some o→H b=none→H' b=none)
  (there:∀b o,b∉ch→s.heap.get? b=some o→∃o',h'.get? b=some o')
  (tups:∀b xs,H b=some (.tup xs)→H' b=some (.tup xs)) (frzs:∀b o u,H b=some (.frz o u)→H' b=some (.frz o u)) (tbls:∀b ps,H b=some (.tbl ps)→∃more,H' b=some (.tbl (ps++more)))
  (ns:∀m,s.heap.Ns X.env.locals m→h'.Ns X.env.locals m) (hok:HOk X.prog X.w H' h') (hg:AllBare g') :
  Inv X pins σ H' { s with heap:=h',gens:=g',drawn:=d',toks:=t' }:=by
 have neL:∀b o,X.s₀.heap.get? b=some o→b≠X.env.locals:=λb o e=>ao (az (ai e) I.ok.above)
 have neC:∀b o,X.s₀.heap.get? b=some o→b∉X.ex→b∉ch:=λb o e hx hb=>by
  rcases (hch b hb).1 with z|z
  ·exact hx z
  ·exact absurd (az (ai e) z) (aX _)
 have cellK:∀x c,X.env.cells.lookup x=some c→∀v,s.heap.IsCell c v→h'.IsCell c v:=λx c e v ⟨o,ho,hd⟩=>by
  have nch:c∉ch:=λz=>(hch c z).2.2.1 x c e rfl
  by_cases hc:c∈X.fs
  ·obtain ⟨sl,q⟩:=slot c o (I.cne x c e) hc nch ho (I.freeC x c e)
   exact ⟨_,q,hd⟩
  ·exact ⟨o,keep c o (I.cne x c e) hc nch ho (I.freeC x c e),hd⟩
 refine ⟨I.ok,I.os,hg,⟨λb o e n hb hx=>?_,λb o e n hb hx=>?_,λb o e n hx=>?_,λb o e hx=>?_,λb xs e=>tups b xs (I.base.tups b xs e),λb o xs e=>frzs b o xs (I.base.frzs b o xs e),λb ps e=>?_⟩,?_,λx c e=>?_,?_,λx c e=>?_,λp hp=>?_,hok,I.len⟩
 ·exact keep b o (neL b o e) hb (neC b o e hx) (I.base.keep b o e n hb hx) (I.base.free b o e n hx)
 ·obtain ⟨sl,e1⟩:=I.base.slot b o e n hb hx
  obtain ⟨sl',e2⟩:=slot b _ (neL b o e) hb (neC b o e hx) e1 (I.base.free b o e n hx)
  exact ⟨sl',e2⟩
 ·obtain ⟨o',e1⟩:=I.base.there b o e hx
  exact free b o' (neC b o e hx) e1 (I.base.free b o e n hx)
 ·obtain ⟨o',e1⟩:=I.base.there b o e hx
  exact there b o' (neC b o e hx) e1
 ·obtain ⟨m1,e1⟩:=I.base.tbls b ps e
  obtain ⟨m2,e2⟩:=tbls b _ e1
  exact ⟨m1++m2,by rw [e2,Array.append_assoc]⟩
 ·obtain ⟨m,hn,hl⟩:=I.loc
  refine ⟨m,ns m hn,λi x v e1 e2 e3=>?_⟩
  obtain ⟨u,r,l⟩:=hl i x v e1 e2 e3
  refine ⟨u,r,?_⟩
  rcases l with l|⟨k,c,e,z⟩
  ·exact .inl l
  ·exact .inr ⟨k,c,e,cellK x c e _ z⟩
 ·obtain ⟨v,z⟩:=I.cell x c e
  exact ⟨v,cellK x c e v z⟩
 ·obtain ⟨m,⟨o,_,_,ho,_⟩,_⟩:=I.loc
  exact free _ o (λz=>(hch _ z).2.1 rfl) ho I.free
 ·obtain ⟨v,o,ho,hd⟩:=I.cell x c e
  exact free c o (λz=>(hch c z).2.2.1 x c e rfl) ho (I.freeC x c e)
 ·obtain ⟨e,n,ne,nf,d⟩:=I.pin p hp
  have nch:p.1∉ch:=λz=>(hch p.1 z).2.2.2 p hp rfl
  exact ⟨keep p.1 p.2 ne nf nch e n,free p.1 p.2 nch e n,ne,nf,d⟩
theorem Inv.un {t':Nat}(I:Inv X pins σ H s)(u:Un X.fs [] H H' s.heap h')(hok:HOk X.prog X.w H' h'):Inv X pins σ H' { s with heap:=h',toks:=t' }:=by
 obtain ⟨m,⟨o,es,ep,ho,r⟩,_⟩:=id I.loc
 obtain ⟨sl,hL⟩:=u.any ho I.free (by simp)
 exact I.step (g':=s.gens) (d':=s.drawn) (ch:=[]) (λ_ z=>nomatch z) (λb o _ hb _ e n=>u.keep b o e n hb (by simp)) (λb o _ hb _ e n=>u.slot b o e n hb (by simp)) (λb o _ e n=>u.free b o e n (by simp)) (λb o _ e=>u.there b o e (by simp)) u.tups u.frzs u.tbls (λm' hm=>by
  obtain ⟨o',es',ep',ho',r'⟩:=hm
  rw [ho] at ho';cases ho'
  exact ⟨_,es',ep',hL,r'⟩) hok I.bare
theorem Inv.call {g':Array GenState}{t':Nat}{d':Drawn}{ch:List Aj}(I:Inv X pins σ H s)(u:Un (frs X.stack) ch H H' s.heap h')(hok:HOk X.prog X.w H' h')(hg:AllBare g')
  (hch:∀b∈ch,(b∈X.ex∨X.s₀.heap.objs.size≤b)∧b≠X.env.locals∧(∀x c,X.env.cells.lookup x=some c→c≠b)∧∀p∈X.pn++pins,p.1≠b) :
  Inv X pins σ H' { s with heap:=h',gens:=g',drawn:=d',toks:=t' }:=by
 obtain ⟨m,⟨o,es,ep,ho,r⟩,_⟩:=id I.loc
 obtain ⟨sl,hL⟩:=u.any ho I.free λz=>(hch _ z).2.1 rfl
 exact I.step (ch:=ch) hch (λb o hL hb hc e n=>u.keep b o e n (λz=>(aq.mp (I.stkSub b z)).elim hL hb) hc) (λb o _ _ hc e n=>u.any e n hc) (λb o hc e n=>u.free b o e n hc) (λb o hc e=>u.there b o e hc) u.tups u.frzs u.tbls (λm' hm=>by
  obtain ⟨o',es',ep',ho',r'⟩:=hm
  rw [ho] at ho';cases ho'
  exact ⟨_,es',ep',hL,r'⟩) hok hg
theorem Inv.turned {t':Nat}{it:Aj}(I:Inv X pins σ H s)(k:∀b o,b≠it→s.heap.get? b=some o→h'.get? b=some o)(hn:H it=none)(hL:it≠X.env.locals)
  (h1:it∈X.ex∨X.s₀.heap.objs.size≤it) (h2:∀x c,X.env.cells.lookup x=some c→c≠it) (h3:∀p∈X.pn++pins,p.1≠it):Inv X pins σ H { s with heap:=h',toks:=t' }:=by
 have nit:∀b u,H b=some u→b≠it:=λb u e z=>by rw [z,hn] at e;cases e
 refine I.step (g':=s.gens) (d':=s.drawn) (ch:=[it]) (λb hb=>?_) (λb o _ _ hc e _=>k b o (λz=>hc (by simp [z])) e) (λb o _ _ hc e _=>⟨o.slots,k b o (λz=>hc (by simp [z])) e⟩) (λ_ _ _ _ n=>n)
  (λb o hc e=>⟨o,k b o (λz=>hc (by simp [z])) e⟩) (λ_ _ e=>e) (λ_ _ _ e=>e) (λb ps e=>⟨#[],by rw [e];simp⟩) (λm hm=>?_) (λb u e=>?_) I.bare
 ·have e:b=it:=by simpa using hb
  subst e
  exact ⟨h1,hL,h2,h3⟩
 ·obtain ⟨o,es,ep,ho,r⟩:=hm
  exact ⟨o,es,ep,k _ o (bg hL) ho,r⟩
 ·refine (I.hok b u e).stay (λc v hc q=>k c v ?_ q) (λ_ q=>q) λ_ _ q=>q
  rcases hc with z|z
  ·rw [z];exact nit b u e
  ·exact nit c _ z
theorem Inv.tok (I:Inv X pins σ H s)(t:Nat):Inv X pins σ H { s with toks:=t }:=I.un (h':=s.heap) (t':=t) Un.refl I.hok
theorem Inv.kept {t':Nat}(I:Inv X pins σ H s)(k:∀b u,s.heap.get? b=some u→h'.get? b=some u):Inv X pins σ H { s with heap:=h',toks:=t' }:=I.un (Un.kept k) (I.hok.kept k)
theorem Inv.laid {a:Aj}{o:HO}{t':Nat}(I:Inv X pins σ H s)(k:∀b u,s.heap.get? b=some u→h'.get? b=some u)(hp:s.heap.objs.size≤a)(new:ObjOk X.prog X.w (upd H a o) h' a o) :
  Inv X pins σ (upd H a o) { s with heap:=h',toks:=t' }:=I.un (Un.laid k hp (I.hok.fresh hp)) (I.hok.laid k hp new)
theorem Inv.write {x e:Aj}{o:HO}{t':Nat}(I:Inv X pins σ H s)(mu:Mut (H x))(he:e=x∨H e=some (.own x))(k:∀b u,b≠e→s.heap.get? b=some u→h'.get? b=some u)(heo:∃u,h'.get? e=some u)
  (new:ObjOk X.prog X.w (upd H x o) h' x o):Inv X pins σ (upd H x o) { s with heap:=h',toks:=t' }:=I.un (Un.write mu he k heo) (I.hok.write mu he k heo new)
theorem Inv.weak {σ':List (Option V)}(I:Inv X pins σ H s)(hl:σ'.length=σ.length)(w:∀(i:Nat) v,σ'[i]?=some (some v)→σ[i]?=some (some v)):Inv X pins σ' H s :=
 ⟨I.ok,I.os,I.bare,I.base,let ⟨m,hn,hl'⟩:=I.loc;⟨m,hn,λi x v e1 e2 e3=>hl' i x v e1 (w i v e2) e3⟩,I.cell,I.free,I.freeC,I.pin,I.hok,hl.trans I.len⟩
theorem Inv.pins_of {pins':List (Aj×Obj)}(I:Inv X pins σ H s)(h:∀p∈pins',s.heap.get? p.1=some p.2∧H p.1=none∧p.1≠X.env.locals∧p.1∉X.fs∧∀v,p.2.data≠.cell v):Inv X pins' σ H s :=
 ⟨I.ok,I.os,I.bare,I.base,I.loc,I.cell,I.free,I.freeC,λp hp=>(ba.mp hp).elim (λz=>I.pin p (df _ z)) (h p),I.hok,I.len⟩
theorem qzd {N:List Str}(hN:N.Nodup){i j:Nat}{x:Str}(a:N[i]?=some x)(b:N[j]?=some x):i=j:=by
 obtain ⟨h1,e1⟩:=bh.mp a
 obtain ⟨h2,e2⟩:=bh.mp b
 exact (dX hN).mp (e1.trans e2.symm)
theorem qyg {M:Model}{A:Ae}{E:Ag→Ab→Prop}{i:Nat}{x:Str}{v:V}{u:Ag}{Q:Unit→Ab→Prop}(I:Inv X pins σ H s)(hN:X.N.Nodup)(hi:X.N[i]?=some x)(hx:Loc X.env.scope x)(r:RelV v u)
  (h:∀s',Inv X pins (σ.set i (some v)) H s'→(∃a,Heap.SameBut a s.heap s'.heap∧(a=X.env.locals∨X.env.cells.lookup x=some a))→Q () s') (hf:X.fn x=true∨X.env.scope.names.lookup x=some .local:=by first | exact .inl rfl | exact .inr rfl | assumption):wpAny M A (storeName X.env x u) Q E s:=by
 obtain ⟨m,hn,hl⟩:=id I.loc
 have hcls:(X.env.scope.kind==.class||(X.env.scope.kind==.module&&X.env.locals != X.env.globals))=false:=by rw [I.ok.kind];rfl
 have hiσ:i<σ.length:=by rw [I.len];exact (bh.mp hi).1
 have cne:=I.cne
 have tracked:∀ {a:Aj} {h':Heap},(∃o,s.heap.get? a=some o∧H a=none)→Heap.SameBut a s.heap h'→HOk X.prog X.w H h':=λ{a h'} ha hs b ob e=>by
  obtain ⟨_,_,hfree⟩:=ha
  refine (I.hok b ob e).stay (λc w' hc q=>(hs.2 c ?_).trans q) (λ_ q=>q) λ_ _ q=>q
  rintro rfl
  rcases hc with rfl|hc
  ·rw [hfree] at e;cases e
  ·rw [hfree] at hc;cases hc
 rcases hx with hk|hk
 ·refine wpAny_storeName_local hk hn (λh' hn' hs=>?_) hcls
  obtain ⟨oL,_,_,hoL,_⟩:=id hn
  refine h _ ⟨I.ok,I.os,I.bare,⟨λb o e n hb hx=>?_,λb o e n hb hx=>?_,I.base.free,λb o e hx=>?_,I.base.tups,I.base.frzs,I.base.tbls⟩,⟨_,hn',λj y v' e1 e2 e3=>?_⟩,λy c e=>?_,I.free,I.freeC,λp hp=>?_,tracked ⟨oL,hoL,I.free⟩ hs,by simpa using I.len⟩ ⟨_,hs,.inl rfl⟩
  ·exact (hs.2 b (ao (az (ai e) I.ok.above))).trans (I.base.keep b o e n hb hx)
  ·obtain ⟨sl,e1⟩:=I.base.slot b o e n hb hx
   exact ⟨sl,(hs.2 b (ao (az (ai e) I.ok.above))).trans e1⟩
  ·obtain ⟨o',e1⟩:=I.base.there b o e hx
   exact ⟨o',(hs.2 b (ao (az (ai e) I.ok.above))).trans e1⟩
  ·by_cases hj:j=i
   ·subst hj
    rw [hi] at e1;cases e1
    rw [List.getElem?_set_self hiσ] at e2
    cases e2
    exact ⟨u,r,.inl ⟨hk,by simp⟩⟩
   ·rw [List.getElem?_set_ne (bg hj)] at e2
    obtain ⟨u',r',q⟩:=hl j y v' e1 e2 e3
    refine ⟨u',r',?_⟩
    rcases q with ⟨k,e⟩|⟨k,c,e,z⟩
    ·refine .inl ⟨k,?_⟩
     have:y≠x:=λe=>hj (qzd hN e1 (e▸hi))
     simp [this,e]
    ·exact .inr ⟨k,c,e,z.sameBut hs (cne y c e)⟩
  ·obtain ⟨w',z⟩:=I.cell y c e
   exact ⟨w',z.sameBut hs (cne y c e)⟩
  ·obtain ⟨e,n,ne,nf,d⟩:=I.pin p hp
   exact ⟨(hs.2 p.1 ne).trans e,n,ne,nf,d⟩
 ·have hfn:X.fn x=true:=by
   rcases hf with z|z
   ·exact z
   ·rw [z] at hk;cases hk
  obtain ⟨c,hc⟩:=I.ok.has x (.inl hk)
  obtain ⟨w',z⟩:=I.cell x c hc
  refine wpAny_storeName_cell I.ok.kind hk hc z (λh' hc' hs=>?_)
  obtain ⟨oc,hoc,hocd⟩:=id z
  refine h { s with heap:=h' } ⟨I.ok,I.os,I.bare,⟨λb o e n hb hx=>?_,λb o e n hb hx=>?_,I.base.free,λb o e hx=>?_,I.base.tups,I.base.frzs,I.base.tbls⟩,⟨m,hn.sameBut hs (bg (cne x c hc)),λj y v' e1 e2 e3=>?_⟩,λy c' e=>?_,I.free,I.freeC,λp hp=>?_,tracked ⟨oc,hoc,I.freeC x c hc⟩ hs,by simpa using I.len⟩ ⟨c,hs,.inr hc⟩
  ·exact (hs.2 b (ao (az (ai e) (I.ok.cab x c hfn hc)))).trans (I.base.keep b o e n hb hx)
  ·obtain ⟨sl,e1⟩:=I.base.slot b o e n hb hx
   exact ⟨sl,(hs.2 b (ao (az (ai e) (I.ok.cab x c hfn hc)))).trans e1⟩
  ·obtain ⟨o',e1⟩:=I.base.there b o e hx
   exact ⟨o',(hs.2 b (ao (az (ai e) (I.ok.cab x c hfn hc)))).trans e1⟩
  ·by_cases hj:j=i
   ·subst hj
    rw [hi] at e1;cases e1
    rw [List.getElem?_set_self hiσ] at e2
    cases e2
    exact ⟨u,r,.inr ⟨.inl hk,c,hc,hc'⟩⟩
   ·rw [List.getElem?_set_ne (bg hj)] at e2
    obtain ⟨u',r',q⟩:=hl j y v' e1 e2 e3
    refine ⟨u',r',?_⟩
    rcases q with q|⟨k,c',e,z'⟩
    ·exact .inl q
    ·refine .inr ⟨k,c',e,z'.sameBut hs ?_⟩
     rintro rfl
     exact hj (qzd hN e1 (I.ok.inj _ _ _ e hc▸hi))
  ·by_cases hcc:c'=c
   ·subst hcc;exact ⟨_,hc'⟩
   ·obtain ⟨w2,z2⟩:=I.cell y c' e
    exact ⟨w2,z2.sameBut hs hcc⟩
  ·obtain ⟨e,n,ne,nf,d⟩:=I.pin p hp
   refine ⟨(hs.2 p.1 ?_).trans e,n,ne,nf,d⟩
   intro q
   rw [q,hoc] at e
   have q':oc=p.2:=av e
   exact d w' (by rw [←q'];exact hocd)
theorem j5 {M:Model}{A:Ae}{E:Ag→Ab→Prop}{i:Nat}{x:Str}{v:V}{u:Ag}{Q:Unit→Ab→Prop}(I:Inv X pins σ H s)(hN:X.N.Nodup)(hi:X.N[i]?=some x)(hx:Loc X.env.scope x)(r:RelV v u)
  (h:∀s',Inv X pins (σ.set i (some v)) H s'→Q () s') (hf:X.fn x=true∨X.env.scope.names.lookup x=some .local:=by first | exact .inl rfl | exact .inr rfl | assumption):wpAny M A (storeName X.env x u) Q E s :=
 qyg I hN hi hx r (λs' I' _=>h s' I') hf
theorem Inv.call' {s':Ab}{ch:List Aj}(I:Inv X pins σ H s)(ho:s'.os=s.os)(u:Un (frs X.stack) ch H H' s.heap s'.heap)(hok:HOk X.prog X.w H' s'.heap)(hg:AllBare s'.gens)
  (hch:∀b∈ch,(b∈X.ex∨X.s₀.heap.objs.size≤b)∧b≠X.env.locals∧(∀x c,X.env.cells.lookup x=some c→c≠b)∧∀p∈X.pn++pins,p.1≠b):Inv X pins σ H' s':=by
 obtain ⟨h',g',d',t',o'⟩:=s'
 have e:o'=s.os:=ho
 subst e
 exact I.call (g':=g') (t':=t') (d':=d') u hok hg hch
end
abbrev XK:=Ag→Option Aj→Hp→Prop
abbrev St:=List (Option V)
abbrev VK:=V→Hp→Prop
abbrev TE:=St→Hp→VK→Prop
abbrev TT:=St→Hp→(Bool→Hp→Prop)→Prop
abbrev TA:=St→Hp→(List V→Hp→Prop)→Prop
structure Ends where
 nx:St→Hp→Prop
 rt:VK
 bk:St→Hp→Prop:=λ_ _=>False
 ct:St→Hp→Prop:=λ_ _=>False
abbrev TS:=Ends→St→Hp→Prop
def EP (X:Cx)(pins:List (Aj×Obj))(σ:St)(Q:VK)(u:Ag)(s':Ab):Prop:=∃v H',Inv X pins σ H' s'∧RelV v u∧Q v H'
def TP (X:Cx)(pins:List (Aj×Obj))(σ:St)(Q:Bool→Hp→Prop)(b:Bool)(s':Ab):Prop:=∃H',Inv X pins σ H' s'∧Q b H'
def AP (X:Cx)(pins:List (Aj×Obj))(σ:St)(Q:List V→Hp→Prop)(us:List Ag)(s':Ab):Prop:=∃vs H',Inv X pins σ H' s'∧Vals vs us∧Q vs H'
def SP (X:Cx)(pins:List (Aj×Obj))(D:Ends)(f:Flow)(s':Ab):Prop :=
 match f with
 |.next=>∃σ' H',Inv X pins σ' H' s'∧D.nx σ' H'
 |.brk=>∃σ' H',Inv X pins σ' H' s'∧D.bk σ' H'
 |.cont=>∃σ' H',Inv X pins σ' H' s'∧D.ct σ' H'
 |.ret u=>∃v σ' H',Inv X pins σ' H' s'∧RelV v u∧D.rt v H'
def PE (X:Cx)(e:Expr)(t:TE):Prop :=
 ∀(pins:List (Aj×Obj)) (s:Ab) (σ:St) (H:Hp) (Q:VK),Inv X pins σ H s→t σ H Q→wpAny (model X.prog X.w) X.A (eval e X.env) (EP X pins σ Q) X.xe s
def PT (X:Cx)(e:Expr)(t:TT):Prop :=
 ∀(pins:List (Aj×Obj)) (s:Ab) (σ:St) (H:Hp) (Q:Bool→Hp→Prop),Inv X pins σ H s→t σ H Q→wpAny (model X.prog X.w) X.A (isTrue e X.env (eval e X.env)) (TP X pins σ Q) X.xe s
def PW (X:Cx)(e:Expr)(t:TT):Prop :=
 ∀(whole:Sem Ag) (pins:List (Aj×Obj)) (s:Ab) (σ:St) (H:Hp) (Q:Bool→Hp→Prop),Inv X pins σ H s→t σ H Q→wpAny (model X.prog X.w) X.A (isTrue e X.env whole) (TP X pins σ Q) X.xe s
theorem PW.pt {X:Cx}{e:Expr}{t:TT}(h:PW X e t):PT X e t:=h _
def PA (X:Cx)(es:List Expr)(t:TA):Prop :=
 ∀(pos:Pos) (pins:List (Aj×Obj)) (s:Ab) (σ:St) (H:Hp) (Q:List V→Hp→Prop),Inv X pins σ H s→t σ H Q→wpAny (model X.prog X.w) X.A (spliced (backTo pos (starEach es X.env))) (AP X pins σ Q) X.xe s
def PS (X:Cx)(st:Stmt)(t:TS):Prop :=
 ∀(pins:List (Aj×Obj)) (s:Ab) (σ:St) (H:Hp) (D:Ends),Inv X pins σ H s→t D σ H→wpAny (model X.prog X.w) X.A (exec st X.env) (SP X pins D) X.xe s
def PSs (X:Cx)(st:List Stmt)(t:TS):Prop :=
 ∀(pins:List (Aj×Obj)) (s:Ab) (σ:St) (H:Hp) (D:Ends),Inv X pins σ H s→t D σ H→wpAny (model X.prog X.w) X.A (execs st X.env) (SP X pins D) X.xe s
theorem thn {α:Type}{t:Sem α}{Q Q':α→Ab→Prop}{M:Model}{A:Ae}{E:Ag→Ab→Prop}{s:Ab}(h:wpAny M A t Q E s)(hQ:∀a s,Q a s→Q' a s):wpAny M A t Q' E s:=aK h hQ λ_ _ x=>x
section
variable {X:Cx}
def uh (i:Nat):TE:=λσ H Q=>∃v,σ[i]?=some (some v)∧Q v H
def tC (v:V):TE:=λ_ H Q=>Q v H
theorem pe_var {i:Nat}{x:Str}{pos:Pos}(hN:X.N[i]?=some x)(hv:Vis X.env.scope x)(hd:(x==("__debug__" : Str))=false:=by decide)(hcd:(x==("__classdict__" : Str))=false:=by decide):PE X (.Name x pos) (uh i):=by
 intro pins s σ H Q I h
 obtain ⟨v,e,h⟩:=h
 obtain ⟨m,hn,hl⟩:=I.loc
 obtain ⟨u,r,l⟩:=hl i x v hN e hv
 have fin:EP X pins σ Q u s:=⟨v,H,I,r,h⟩
 rcases l with ⟨hk,hm⟩|⟨hk,c,hc,hcell⟩
 ·exact wpAny_Name (wpAny_loadName_local I.ok.kind hk hn hm fin) hd
 ·rcases hk with hk|hk
  ·exact wpAny_Name (wpAny_loadName_cell I.ok.kind hk hc hcell fin) hd
  ·exact wpAny_Name (wpAny_loadName_free I.ok.kind hk hc hcell fin hcd) hd
theorem qy {i j pos}:PE X (.Constant (.int i) j pos) (tC (.int i)):=λ_ _ _ H _ I h=>wpAny_Constant_int ⟨.int i,H,I.tok _,⟨_,rfl⟩,h⟩
theorem Wc {b j pos}:PE X (.Constant (.bool b) j pos) (tC (.bl b)):=λ_ _ _ H _ I h=>Constant_bool ⟨.bl b,H,I,rfl,h⟩
theorem wqr {j pos}:PE X (.Constant .none j pos) (tC .non):=λ_ _ _ H _ I h=>Constant_none ⟨.non,H,I,rfl,h⟩
theorem vp {x j pos}:PE X (.Constant (.str x) j pos) (tC (.str x)):=λ_ _ _ H _ I h=>Calls.Constant_str ⟨.str x,H,I.tok _,⟨_,rfl⟩,h⟩
def Gl (X:Cx)(x:Str):Prop:=X.env.kindOf x=some .globalImplicit
theorem Qy {E:Ag→Ab→Prop}{pins:List (Aj×Obj)}{s:Ab}{σ:St}{H:Hp}{x:Str}{u:Ag}{pos:Pos}{Q:Ag→Ab→Prop}(I:Inv X pins σ H s)(hg:Gl X x)(hm:X.mg x=some u)(h:Q u s)
  (hd:(x==("__debug__" : Str))=false:=by decide):wpAny (model X.prog X.w) X.A (eval (.Name x pos) X.env) Q E s :=
 Calls.Name_function_global I.ok.kind hg (Calls.loadGlobal_global (by rw [I.ok.glob];exact I.mod.glob.keeps I.bk) hm h) hd
theorem Yf {E:Ag→Ab→Prop}{pins:List (Aj×Obj)}{s:Ab}{σ:St}{H:Hp}{x:Str}{u:Ag}{pos:Pos}{Q:Ag→Ab→Prop}(I:Inv X pins σ H s)(hg:Gl X x)(hm:X.mg x=none)(hv:bootBuiltins x=some u)(h:Q u s)
  (hn:x ≠ "__name__" := by decide) (hd:(x==("__debug__" : Str))=false:=by decide):wpAny (model X.prog X.w) X.A (eval (.Name x pos) X.env) Q E s:=by
 obtain ⟨mb,h1,h2⟩:=I.mod.blt
 exact Calls.Name_function_global I.ok.kind hg (Calls.loadGlobal_builtin (by rw [I.ok.glob];exact I.mod.glob.keeps I.bk) hm (by rw [I.ok.blt];exact h1.keeps I.bk) ((h2 x hn).trans hv) h) hd
theorem jm {x:Str}{v:V}{u:Ag}{pos:Pos}(hg:Gl X x)(hm:X.mg x=some u)(r:RelV v u)(hd:(x==("__debug__" : Str))=false:=by decide):PE X (.Name x pos) (tC v) :=
 λ_ _ _ H _ I h=>Qy I hg hm ⟨v,H,I,r,h⟩ hd
theorem Zq {x:Str}{v:V}{u:Ag}{pos:Pos}(hg:Gl X x)(hm:X.mg x=none)(hv:bootBuiltins x=some u)(r:RelV v u)(hn:x ≠ "__name__" := by decide)(hd:(x==("__debug__" : Str))=false:=by decide):PE X (.Name x pos) (tC v) :=
 λ_ _ _ H _ I h=>Yf I hg hm hv ⟨v,H,I,r,h⟩ hn hd
variable {a b:Expr}{ta tb:TE}{pos:Pos}
def PC (X:Cx)(op:CmpOp)(a b:Expr)(t:TE):Prop :=
 ∀(pins:List (Aj×Obj)) (s:Ab) (σ:St) (H:Hp) (Q:VK),Inv X pins σ H s→t σ H Q →
  wpAny (model X.prog X.w) X.A (eval a X.env) (λv s₁=>wpAny (model X.prog X.w) X.A (eval b X.env) (λu s₂=>wpAny (model X.prog X.w) X.A (compareOp op v u) (EP X pins σ Q) X.xe s₂) X.xe s₁) X.xe s
def tB (t:TE):TT:=λσ H Q=>t σ H λx H1=>∃c,x=.bl c∧Q c H1
theorem Yk {op:CmpOp}{t:TE}(h:PC X op a b t)(h1:behindInMarks op b=false:=by first | exact nobehind _ (by decide) (by decide) | rfl):PT X (.Compare a [op] [b] pos) (tB t):=by
 intro pins s σ H Q I hw
 refine wpAny_isTrue_Compare1 (thn (h pins s σ H _ I hw) λv s1 h1=>thn h1 λu s2 h2=>thn h2 λc s3 ⟨x,H1,I1,r1,q1⟩=>?_) h1
 obtain ⟨d,rfl,q⟩:=q1
 cases r1
 exact bR ⟨H1,I1,q⟩
theorem y8 {e:Expr}{t:TE}(h:PE X e t)(he:∀whole,isTrue e X.env whole=(do let v ←whole;standAt e.pos;holding [v] (truthy v)):=by intro _;rfl):PT X e (tB t):=by
 intro pins s σ H Q I hw
 refine isTrue_plain (thn (h pins s σ H _ I hw) λv s1 ⟨x,H1,I1,r1,q1⟩=>?_) (he _)
 obtain ⟨d,rfl,q⟩:=q1
 cases r1
 exact bR ⟨H1,I1,q⟩
variable {tA tB':TT}{rest:List Expr}
def tAnd (t u:TT):TT:=λσ H Q=>t σ H λc H1=>if c=true then u σ H1 Q else Q false H1
def tOr (t u:TT):TT:=λσ H Q=>t σ H λc H1=>if c=true then Q true H1 else u σ H1 Q
def tNot (t:TT):TT:=λσ H Q=>t σ H λc H1=>Q (!c) H1
theorem wxu (ha:PT X a tA):PW X (.BoolOp .And [a] pos) tA:=by
 intro wh pins s σ H Q I h
 refine isTrue_and (thn (ha pins s σ H Q I h) λc s1 e=>?_)
 cases c with
 |true=>exact isTrue_and_nil e
 |false=>exact e
theorem jz (ha:PT X a tA):PW X (.BoolOp .Or [a] pos) tA:=by
 intro wh pins s σ H Q I h
 refine isTrue_or (thn (ha pins s σ H Q I h) λc s1 e=>?_)
 cases c with
 |false=>exact isTrue_or_nil e
 |true=>exact e
theorem pw_and (ha:PT X a tA)(hb:PW X (.BoolOp .And (b::rest) pos) tB'):PW X (.BoolOp .And (a::b::rest) pos) (tAnd tA tB'):=by
 intro wh pins s σ H Q I h
 refine isTrue_and (thn (ha pins s σ H _ I h) λc s1 ⟨H1,I1,q1⟩=>?_)
 cases c with
 |true=>exact hb wh pins s1 σ H1 Q I1 q1
 |false=>exact ⟨H1,I1,q1⟩
theorem jy (ha:PT X a tA)(hb:PW X (.BoolOp .Or (b::rest) pos) tB'):PW X (.BoolOp .Or (a::b::rest) pos) (tOr tA tB'):=by
 intro wh pins s σ H Q I h
 refine isTrue_or (thn (ha pins s σ H _ I h) λc s1 ⟨H1,I1,q1⟩=>?_)
 cases c with
 |true=>exact ⟨H1,I1,q1⟩
 |false=>exact hb wh pins s1 σ H1 Q I1 q1
theorem uw (ha:PT X a tA):PT X (.UnaryOp .Not a pos) (tNot tA):=by
 intro pins s σ H Q I h
 exact isTrue_not (ha pins s σ H (λc H1=>Q (!c) H1) I h)
def tAndV (ta tb:TE):TE:=λσ H Q=>ta σ H λx H1=>∃c,x=.bl c∧if c=true then tb σ H1 Q else Q (.bl false) H1
def tNotV (ta:TE):TE:=λσ H Q=>ta σ H λx H1=>∃c,x=.bl c∧Q (.bl (!c)) H1
theorem qvn {op}{t:TE}(h:PE X a t):PE X (.BoolOp op [a] pos) t:=λpins s σ H Q I hw=>BoolOp_one (h pins s σ H Q I hw)
theorem qv9 (ha:PE X a ta)(hb:PE X (.BoolOp .And (b::rest) pos) tb):PE X (.BoolOp .And (a::b::rest) pos) (tAndV ta tb):=by
 intro pins s σ H Q I h
 refine BoolOp_and (thn (ha pins s σ H _ I h) λv s1 ⟨x,H1,I1,r1,q1⟩=>?_)
 obtain ⟨c,rfl,q1⟩:=q1
 cases r1
 refine bR ?_
 cases c with
 |true=>exact hb pins s1 σ H1 Q I1 q1
 |false=>exact ⟨.bl false,H1,I1,rfl,q1⟩
theorem pe_not (ha:PE X a ta):PE X (.UnaryOp .Not a pos) (tNotV ta):=by
 intro pins s σ H Q I h
 refine UnaryOp_ (thn (ha pins s σ H _ I h) λv s1 ⟨x,H1,I1,r1,q1⟩=>?_)
 obtain ⟨c,rfl,q1⟩:=q1
 cases r1
 exact not_of (bR ⟨.bl (!c),H1,I1,rfl,q1⟩)
def tIf (t:TT)(ta tb:TE):TE:=λσ H Q=>t σ H λc H1=>if c=true then ta σ H1 Q else tb σ H1 Q
theorem qxb {c:Expr}(hc:PT X c tA)(ha:PE X a ta)(hb:PE X b tb):PE X (.IfExp c a b pos) (tIf tA ta tb):=by
 intro pins s σ H Q I h
 refine wpAny_IfExp (thn (hc pins s σ H _ I h) λd s1 ⟨H1,I1,q1⟩=>?_)
 cases d with
 |true=>exact ha pins s1 σ H1 Q I1 q1
 |false=>exact hb pins s1 σ H1 Q I1 q1
end
def SqL (K:Aa)(H:Hp)(a:Aj)(xs:List V):Prop :=
 Rd H a (.lst xs) ∨
  ∃(o:Obj) (its:Array Ag) (n:Nat),K.lookup a=some o∧o.cls=.type "list" ∧ o.dict=none∧o.data=.seq its n∧its.size≤sizeLine∧Vals xs its.toList
def SqT (K:Aa)(H:Hp)(a:Aj)(xs:List V):Prop :=
 Rd H a (.tup xs) ∨
  ∃(o:Obj) (its:Array Ag) (n:Nat),K.lookup a=some o∧o.cls=.type "tuple" ∧ o.data=.seq its n∧its.size≤sizeLine∧Vals xs its.toList
def absV:Ag→Option V
 |.none=>some .non
 |.bool b=>some (.bl b)
 |.int i _=>some (.int i)
 |.str x _=>some (.str x)
 |.bytes b _=>some (.byt b)
 |.float b _=>some (.flt b)
 |.ref a=>some (.ref a)
 |.type n=>some (.ty n)
 |_=>none
theorem RelV.abs {x:V}{u:Ag}(r:RelV x u):absV u=some x:=by
 cases x with
 |non=>cases r;rfl
 |bl _=>cases r;rfl
 |int _=>obtain ⟨t,rfl⟩:=r;rfl
 |str _=>obtain ⟨t,rfl⟩:=r;rfl
 |byt _=>obtain ⟨t,rfl⟩:=r;rfl
 |flt _=>obtain ⟨t,rfl⟩:=r;rfl
 |ref _=>cases r;rfl
 |ty _=>cases r;rfl
theorem RelV.inj {x y:V}{u:Ag}(r:RelV x u)(q:RelV y u):x=y:=av (r.abs.symm.trans q.abs)
theorem Vals.inj:∀ {xs ys:List V} {us:List Ag},Vals xs us→Vals ys us→xs=ys
 |_,_,_,.nil,.nil=>rfl
 |_,_,_,.cons r t,.cons r' t'=>by rw [r.inj r',Vals.inj t t']
section
variable {X:Cx}{pins:List (Aj×Obj)}{σ:St}{H:Hp}{s:Ab}{a:Aj}{xs ys:List V}
theorem SqL.of {K:Aa}(h:H a=some (.lst xs)):SqL K H a xs:=.inl (.inl h)
theorem SqT.of {K:Aa}(h:H a=some (.tup xs)):SqT K H a xs:=.inl (.inl h)
theorem Inv.list (I:Inv X pins σ H s)(h:SqL X.K H a xs):∃its:List Ag,Vals xs its∧PlainL s.heap a its.toArray∧xs.length≤sizeLine:=by
 rcases h with h|⟨o,its,n,hk,hc,hd,hs,hz,r⟩
 ·obtain ⟨z,its,n,r,e⟩:=h.ok I.hok
  exact ⟨its,r,⟨_,n,e,rfl,rfl,rfl⟩,z⟩
 ·refine ⟨its.toList,r,⟨o,n,I.kIn a o hk,hc,hd,by simpa using hs⟩,?_⟩
  have e:=r.length
  simp only [aO] at e
  lia
theorem Inv.tuple (I:Inv X pins σ H s)(h:SqT X.K H a xs):∃its:List Ag,Vals xs its∧IsTup s.heap a its.toArray∧xs.length≤sizeLine:=by
 rcases h with h|⟨o,its,n,hk,hc,hs,hz,r⟩
 ·obtain ⟨z,its,r,p⟩:=h.ok I.hok
  exact ⟨its,r,p,z⟩
 ·refine ⟨its.toList,r,⟨o,I.kIn a o hk,hc,n,by simpa using hs⟩,?_⟩
  have e:=r.length
  simp only [aO] at e
  lia
theorem Inv.list_inj (I:Inv X pins σ H s)(h:SqL X.K H a xs)(h':SqL X.K H a ys):xs=ys:=by
 obtain ⟨its,r,⟨o,n,e,_,_,d⟩,_⟩:=I.list h
 obtain ⟨its',r',⟨o',n',e',_,_,d'⟩,_⟩:=I.list h'
 rw [e] at e';cases e'
 rw [d] at d'
 injection d' with d1 _
 have:its=its':=by simpa using bB Array.toList d1
 subst this
 exact r.inj r'
end
abbrev Cx.wish (X:Cx)(E:Ag→Ab→Prop):Cx:={ X with xe:=E }
section
variable {X:Cx}{pins:List (Aj×Obj)}{σ:St}{H:Hp}{s:Ab}{E:Ag→Ab→Prop}
end
section
variable {X:Cx}{st:Stmt}{rest:List Stmt}{t u:TS}{e:Expr}{te:TE}{pos:Pos}
def tNext:TS:=λD σ H=>D.nx σ H
def tSeq (t u:TS):TS:=λD σ H=>t { D with nx:=u D } σ H
theorem xx:PSs X [] tNext:=λ_ _ σ H _ I h=>dn ⟨σ,H,I,h⟩
theorem qk (h1:PS X st t)(h2:PSs X rest u):PSs X (st::rest) (tSeq t u):=by
 intro pins s σ H D I h
 refine dY (thn (h1 pins s σ H { D with nx:=u D } I h) λf s1 q=>?_)
 cases f with
 |next =>
  obtain ⟨σ',H',I',q⟩:=q
  exact h2 pins s1 σ' H' D I' q
 |ret v=>exact q
 |brk=>exact q
 |cont=>exact q
theorem wj (h1:PS X st t):PSs X [st] t:=by
 intro pins s σ H D I h
 refine dY (thn (h1 pins s σ H D I h) λf s1 q=>?_)
 cases f with
 |next=>exact dn q
 |ret v=>exact q
 |brk=>exact q
 |cont=>exact q
theorem Inv.quiet {pins:List (Aj×Obj)}{σ:St}{H:Hp}{s:Ab}(I:Inv X pins σ H s):interactive X.env=false:=by simp [interactive,I.ok.kind]
def tDrop (te:TE):TS:=λD σ H=>te σ H λ_ H1=>D.nx σ H1
theorem zd (he:PE X e te)(hs:swapsWith e none pos.line X.env=pure false:=by rfl):PS X (.Expr e pos) (tDrop te):=by
 intro pins s σ H D I h
 exact wpAny_Expr_any (thn (he pins s σ H _ I h) λv s1 ⟨x,H1,I1,r1,q1⟩=>⟨σ,H1,I1,q1⟩) I.quiet hs
def tRet (te:TE):TS:=λD σ H=>te σ H D.rt
theorem w8 (he:PE X e te):PS X (.Return (some e) pos) (tRet te):=by
 intro pins s σ H D I h
 exact wpAny_Return_some (thn (he pins s σ H _ I h) λv s1 ⟨x,H1,I1,r1,q1⟩=>⟨x,σ,H1,I1,r1,q1⟩)
def tIfS (c:TT)(t u:TS):TS:=λD σ H=>c σ H λb H1=>if b=true then t D σ H1 else u D σ H1
theorem x9 {c:Expr}{a b:List Stmt}{tc:TT}(hc:PT X c tc)(ha:PSs X a t)(hb:PSs X b u):PS X (.If c a b pos) (tIfS tc t u):=by
 intro pins s σ H D I h
 refine wpAny_If (thn (hc pins s σ H _ I h) λd s1 ⟨H1,I1,q1⟩=>?_)
 cases d with
 |true=>exact ha pins s1 σ H1 D I1 q1
 |false=>exact hb pins s1 σ H1 D I1 q1
end
abbrev TG:=V→St→Hp→(St→Hp→Prop)→Prop
abbrev TGs:=List V→St→Hp→(St→Hp→Prop)→Prop
def PG (X:Cx)(target:Expr)(t:TG):Prop :=
 ∀(pins:List (Aj×Obj)) (s:Ab) (σ:St) (H:Hp) (v:V) (u:Ag) (Q:St→Hp→Prop),Inv X pins σ H s→RelV v u→t v σ H Q →
  wpAny (model X.prog X.w) X.A (assign target X.env u) (λ_ s'=>∃σ' H',Inv X pins σ' H' s'∧Q σ' H') X.xe s
def PGs (X:Cx)(ts:List Expr)(t:TGs):Prop :=
 ∀(pins:List (Aj×Obj)) (s:Ab) (σ:St) (H:Hp) (vs:List V) (us:List Ag) (Q:St→Hp→Prop),Inv X pins σ H s→Vals vs us→t vs σ H Q →
  wpAny (model X.prog X.w) X.A (assignInOrder ((assignEach ts X.env).map (·.2)) us) (λ_ s'=>∃σ' H',Inv X pins σ' H' s'∧Q σ' H') X.xe s
section
variable {X:Cx}{pos:Pos}
def wqj (i:Nat):TG:=λv σ H Q=>Q (σ.set i (some v)) H
theorem xp {i:Nat}{x:Str}(hN:X.N.Nodup)(hi:X.N[i]?=some x)(hx:Loc X.env.scope x)(hf:X.fn x=true∨X.env.scope.names.lookup x=some .local:=by first | exact .inl rfl | exact .inr rfl | assumption):PG X (.Name x pos) (wqj i):=by
 intro pins s σ H v u Q I r h
 exact wpAny_assign_Name (j5 I hN hi hx r (λs' I'=>⟨_,H,I',h⟩) hf)
def gNil:TGs:=λvs σ H Q=>vs=[]∧Q σ H
def gCons (t:TG)(u:TGs):TGs:=λvs σ H Q=>∃v r,vs=v::r∧t v σ H λσ' H'=>u r σ' H' Q
theorem k4:PGs X [] gNil:=by
 intro pins s σ H vs us Q I r h
 obtain ⟨e,h⟩:=h
 subst e
 cases r
 exact assignInOrder_nil ⟨σ,H,I,h⟩
theorem zw {e:Expr}{es:List Expr}{t:TG}{u:TGs}(h1:PG X e t)(h2:PGs X es u)
  (hs:(assignEach (e::es) X.env).map (·.2)=assign e X.env::(assignEach es X.env).map (·.2):=by rfl):PGs X (e::es) (gCons t u):=by
 intro pins s σ H vs us Q I r h
 obtain ⟨v,vr,e1,h⟩:=h
 subst e1
 cases r with
 |cons r rr =>
  rw [hs]
  refine dE (thn (h1 pins s σ H _ _ _ I r h) λ_ s1 ⟨σ1,H1,I1,q1⟩=>?_)
  exact h2 pins s1 σ1 H1 _ _ Q I1 rr q1
def gTup (K:Aa)(n:Nat)(t:TGs):TG:=λv σ H Q=>∃a xs,v=.ref a∧SqT K H a xs∧xs.length=n∧t xs σ H Q
theorem jn {es:List Expr}{k:Nat}{t:TGs}{n:Nat}(hc:X.calm=true)(h:PGs X es t)
  (hn:(assignEach es X.env).length=n:=by rfl) (hst:(assignEach es X.env).findIdx? (·.1)=none:=by rfl):PG X (.Tuple es k pos) (gTup X.K n t):=by
 intro pins s σ H v u Q I r hw
 obtain ⟨a,xs,e1,hq,hl,hw⟩:=hw
 subst e1
 cases r
 obtain ⟨its,rv,ht,hz⟩:=I.tuple hq
 refine assign_Tuple_tuple (I.ok.hd hc) ht (by simp [hn,←hl,rv.length]) hst λh' hx=>?_
 have I1:Inv X pins σ H { s with heap:=h' }:=I.kept (t':=s.toks) λb o e=>hx b o (ao (ai e)) e
 exact h pins _ σ H xs _ Q I1 (by simpa using rv) hw
def tAsg (te:TE)(g:TG):TS:=λD σ H=>te σ H λx H1=>g x σ H1 D.nx
theorem Q9 {tg e:Expr}{te:TE}{g:TG}(he:PE X e te)(hg:PG X tg g)(hs:swapsWithSole [tg] e pos.line X.env=pure false:=by rfl)(hw:swappedStores [tg] e X.env=pure none:=by rfl)
  (h1:(assignEach [tg] X.env).map (·.2)=[assign tg X.env]:=by rfl):PS X (.Assign [tg] e pos) (tAsg te g):=by
 intro pins s σ H D I h
 refine wpAny_Assign_stores (thn (he pins s σ H _ I h) λv s1 ⟨x,H1,I1,r1,q1⟩=>?_) hs hw
 rw [h1]
 exact thn (hg pins s1 σ H1 x v _ I1 r1 q1) λ_ s2 q=>q
theorem wt {i:Nat}{x:Str}{e:Expr}{te:TE}{pos':Pos}(hN:X.N.Nodup)(hi:X.N[i]?=some x)(hx:Loc X.env.scope x)(he:PE X e te)(hs:swapsWith e (some (.Name x pos')) pos.line X.env=pure false:=by rfl)(hf:X.fn x=true∨X.env.scope.names.lookup x=some .local:=by first | exact .inl rfl | exact .inr rfl | assumption) :
  PS X (.Assign [.Name x pos'] e pos) (tAsg te (wqj i)):=by
 intro pins s σ H D I h
 refine wpAny_Assign_Name (thn (he pins s σ H _ I h) λv s1 ⟨y,H1,I1,r1,q1⟩=>?_) hs
 exact j5 I1 hN hi hx r1 (λs2 I2=>⟨_,H1,I2,q1⟩) hf
def tPar (i j:Nat)(ta:TA):TS:=λD σ H=>ta σ H λvs H1=>∃v w,vs=[v,w]∧D.nx ((σ.set i (some v)).set j (some w)) H1
theorem quv {i j:Nat}{x y:Str}{a b:Expr}{ta:TA}{px py pt:Pos}{kt k2 pt2}(hc:X.calm=true)(hN:X.N.Nodup)(hi:X.N[i]?=some x)(hj:X.N[j]?=some y)(hij:i≠j)
  (hx:X.env.scope.names.lookup x=some .local) (hy:X.env.scope.names.lookup y=some .local) (ha:PA X [a,b] ta)
  (hw:swappedStores [.Tuple [.Name x px,.Name y py] kt pt] (.Tuple [a,b] k2 pt2) X.env=pure (some [x,y]))
  (hs:swapsWithSole [.Tuple [.Name x px,.Name y py] kt pt] (.Tuple [a,b] k2 pt2) pos.line X.env=pure false:=by rfl) :
  PS X (.Assign [.Tuple [.Name x px,.Name y py] kt pt] (.Tuple [a,b] k2 pt2) pos) (tPar i j ta):=by
 intro pins s σ H D I h
 rw [exec_Assign_arm]
 refine aa (de ?_)
 rw [hs]
 refine aa (ag ?_)
 rw [aj (by decide)]
 refine aa (Tuple_ (thn (ha _ pins s σ H _ I h) λus s1 ⟨vs,H1,I1,r1,q1⟩=>?_))
 obtain ⟨v,w,e1,q1⟩:=q1
 subst e1
 obtain ⟨u1,u2,rfl,rv,rw'⟩:∃u1 u2,us=[u1,u2]∧RelV v u1∧RelV w u2:=by
  cases r1 with
  |cons p q =>
   cases q with
   |cons p' q' =>
    cases q'
    exact ⟨_,_,rfl,p,p'⟩
 refine bD ?_ (by show 2≤sizeLine;decide)
 have I2:Inv X pins σ H1 { s1 with heap:=s1.heap.push { cls:=.type "tuple",data:=.seq [u1,u2].toArray } }:=I1.kept (t':=s1.toks) λb o e=>ac _ e
 rw [hw]
 refine aa (ag ?_)
 show wpAny (model X.prog X.w) X.A (do rule "assign.swapped-stores";let items ←unpackItems (.ref s1.heap.objs.size) 2 none;assignInOrder [λv=>bindName X.env y v,λv=>bindName X.env x v] items.reverse;pure Flow.next) _ _ _
 refine aa (wpAny_rule (aa (unpackItems_tuple (items:=#[u1,u2]) (I.ok.hd hc) (IsTup.new s1.heap _) λh' hx'=>?_)))
 have I3:=I2.kept (h':=h') (t':=s1.toks) λb o e=>hx' b o (ao (ai e)) e
 show wpAny _ _ (assignInOrder [λv=>bindName X.env y v,λv=>bindName X.env x v] [u2,u1] >>= λ_=>pure Flow.next) _ _ _
 refine aa (dE (wpAny_bindName (j5 I3 hN hj (.inl hy) rw' (λs2 I4=>?_) (.inr hy))))
 refine dE (wpAny_bindName (j5 I4 hN hi (.inl hx) rv (λs3 I5=>assignInOrder_nil (ag ?_)) (.inr hx)))
 rw [List.set_comm _ _ (bg hij)] at I5
 exact ⟨_,H1,I5,q1⟩
end
section
variable {X:Cx}{pos:Pos}
def qzm (c:TT)(tb:TS):TS:=λD σ H=>∃W:Nat→St→Hp→Prop,(∃m,W m σ H)∧∀m σ H,W m σ H →
 c σ H λb H1=>if b=true then ∃N:St→Hp→Prop,(∀σ' H',N σ' H'→∃m',m'<m∧W m' σ' H')∧tb { D with nx:=N,ct:=N,bk:=D.nx } σ H1 else D.nx σ H1
theorem Qu {c:Expr}{body:List Stmt}{tc:TT}{tb:TS}(hp:PassesOwn (model X.prog X.w) X.A X.env X.xe)(hc:PT X c tc)(hb:PSs X body tb):PS X (.While c body [] pos) (qzm tc tb):=by
 intro pins s σ H D I h
 obtain ⟨W,⟨m0,w0⟩,turn⟩:=h
 refine wpAny_While (codeAny_whileLoop (λn s'=>∃σ' H',Inv X pins σ' H' s'∧W n σ' H') ?_ m0 ⟨σ,H,I,w0⟩)
 rintro n s1 ⟨σ1,H1,I1,w1⟩
 refine bP hp (thn (hc pins s1 σ1 H1 _ I1 (turn n σ1 H1 w1)) λb s2 ⟨H2,I2,q2⟩=>?_)
 cases b with
 |true =>
  obtain ⟨N,hN,q2⟩:=q2
  rw [ak rfl]
  refine bP hp (thn (hb pins s2 σ1 H2 _ I2 q2) λf s3 q3=>?_)
  cases f with
  |next =>
   obtain ⟨σ3,H3,I3,n3⟩:=q3
   obtain ⟨m',hm,w3⟩:=hN σ3 H3 n3
   exact ⟨m',hm,σ3,H3,I3,w3⟩
  |cont =>
   obtain ⟨σ3,H3,I3,n3⟩:=q3
   obtain ⟨m',hm,w3⟩:=hN σ3 H3 n3
   exact ⟨m',hm,σ3,H3,I3,w3⟩
  |brk=>exact q3
  |ret v=>exact q3
 |false =>
  rw [aj aA]
  exact dn ⟨σ1,H2,I2,q2⟩
end
structure It where
 go:Nat→Hp→Prop
 yld:Nat→Hp→V→Hp→Prop
 stop:Nat→Hp→Prop
def km (X:Cx)(pins:List (Aj×Obj))(H:Hp)(b:Aj):Prop :=
 H b=none∧b≠X.env.locals∧b∉X.fs∧(b∈X.ex∨X.s₀.heap.objs.size≤b)∧(∀x c,X.env.cells.lookup x=some c→c≠b)∧∀p∈X.pn++pins,p.1≠b
theorem Inv.fpOk {X:Cx}{pins:List (Aj×Obj)}{σ:St}{H H':Hp}{s:Ab}{b:Aj}(I:Inv X pins σ H s)(hb:s.heap.objs.size≤b)(hn:H' b=none):km X pins H' b:=by
 refine ⟨hn,dA (az I.lt hb),I.nofs hb,.inr (br I.sz hb),λx c e z=>?_,λp hp z=>?_⟩
 ·obtain ⟨v,q⟩:=I.cell x c e
  exact absurd (az q.lt (by rw [z];exact hb)) (aX _)
 ·exact absurd (az (ai (I.pin p hp).1) (by rw [z];exact hb)) (aX _)
structure Turn (P:Ac)(w:Ah)(K:Aa)(tg:Expr)(J:It)(fp:List Aj)(it:Aj)(tn:Nat→Heap→Prop):Prop where
 mem:it∈fp
 obj:∀i h,tn i h→∀b∈fp,∃o,h.get? b=some o∧∀v,o.data≠.cell v
 keep:∀i h h',tn i h→(∀b∈fp,∀o,h.get? b=some o→h'.get? b=some o)→tn i h'
 item:∀(X:Cx),X.prog=P→X.w=w→X.K=K→X.calm=true→∀(i:Nat) (pins:List (Aj×Obj)) (s:Ab) (σ:St) (H:Hp) (E:Ag→Ab→Prop),Inv X pins σ H s→(∀b∈fp,km X pins H b)→tn i s.heap→J.go i H →
  wpAny (model P w) X.A (pyNext (.ref it)) (λr s1=>∃u,r=some u ∧
   wpAny (model P w) X.A (letOwnedTupleGo tg (.ref it) u) (λ_ s2=>∃x H',Inv X pins σ H' s2∧RelV x u∧J.yld i H x H'∧tn (i+1) s2.heap∧∀b∈fp,H' b=none) E s1) E s
 done:∀(X:Cx),X.prog=P→X.w=w→X.K=K→X.calm=true→∀(i:Nat) (pins:List (Aj×Obj)) (s:Ab) (σ:St) (H:Hp) (E:Ag→Ab→Prop),Inv X pins σ H s→(∀b∈fp,km X pins H b)→tn i s.heap→J.stop i H →
  wpAny (model P w) X.A (pyNext (.ref it)) (λr s1=>r=none∧Inv X pins σ H s1) E s
 self:∀(A:Ae) (i:Nat) (s:Ab) (Q:Ag→Ab→Prop) (E:Ag→Ab→Prop),tn i s.heap→Q (.ref it) s→wpAny (model P w) A (pyIter (.ref it)) Q E s
abbrev TI:=St→Hp→(It→Hp→Prop)→Prop
def PIE (X:Cx)(pins:List (Aj×Obj))(σ:St)(tg:Expr)(R:It→Hp→Prop)(itv:Ag)(s2:Ab):Prop :=
 ∃(it:Aj) (fp:List Aj) (tn:Nat→Heap→Prop) (J:It) (H':Hp),itv=.ref it∧Inv X pins σ H' s2∧Turn X.prog X.w X.K tg J fp it tn∧tn 0 s2.heap∧(∀b∈fp,km X pins H' b)∧R J H'
def PI (X:Cx)(tg iter:Expr)(wi:TI):Prop :=
 ∀(pins:List (Aj×Obj)) (s:Ab) (σ:St) (H:Hp) (R:It→Hp→Prop),Inv X pins σ H s→wi σ H R →
  wpAny (model X.prog X.w) X.A (eval iter X.env) (λv s1=>wpAny (model X.prog X.w) X.A (pyIter v) (PIE X pins σ tg R) X.xe s1) X.xe s
theorem qxw {M:Model}{A:Ae}{E:Ag→Ab→Prop}{s:Ab}{tg:Expr}{it:Aj}{u:Ag}{o:Obj}{n:String}{vs:Array Ag}{Q:Unit→Ab→Prop}(ho:s.heap.get? it=some o)(hc:o.cls=.type n)(hd:o.data=.fields vs)
  (hn:["enumerate","zip","dict_itemiterator","dict_reverseitemiterator","odict_iterator","itertools.zip_longest","itertools.pairwise"].contains n=false) (hQ:Q () s):wpAny M A (letOwnedTupleGo tg (.ref it) u) Q E s:=by
 unfold letOwnedTupleGo
 cases tg <;> first
  |exact ag hQ
  |(cases u <;> first
    |exact ag hQ
    |(refine aa (wpAny_load ho ?_)
      rw [hc,hd]
      show wpAny M A (if (["enumerate","zip","dict_itemiterator","dict_reverseitemiterator","odict_iterator","itertools.zip_longest","itertools.pairwise"].contains n&&vs[0]?==some (rawInt _))=true then _ else _) Q E s
      rw [aj (by intro h;rw [hn,Bool.false_and] at h;cases h)]
      exact ag hQ))
def Itl (K:Aa)(a:Aj):It :=
 ⟨λi H=>∃xs x,SqL K H a xs∧xs[i]?=some x,λi H x H'=>H'=H∧∀xs,SqL K H a xs→xs[i]?=some x,λi H=>∃xs,SqL K H a xs∧xs.length≤i⟩
def Itr (lo:Int)(n:Nat):It:=⟨λi _=>i<n,λi H x H'=>H'=H∧x=.int (lo+i),λi _=>n≤i⟩
theorem qjd {P:Ac}{w:Ah}{K:Aa}{tg:Expr}(a it:Aj):Turn P w K tg (Itl K a) [it] it (λi h=>h.IsListIter it a i) where
 mem:=by simp
 obj:=λi h st b hb=>by
  have e:b=it:=by simpa using hb
  subst e
  obtain ⟨o,e,c,d⟩:=st
  exact ⟨o,e,λv z=>by rw [d] at z;cases z⟩
 keep:=λi h h' st k=>st.at λo e=>k it (by simp) o e
 item:=by
  intro X hP hw hK hc i pins s σ H E I hf st hg
  subst hP hw hK
  obtain ⟨xs,x,hq,hx⟩:=hg
  obtain ⟨its,rv,p,hz⟩:=I.list hq
  obtain ⟨u,hu,ru⟩:=rv.get hx
  obtain ⟨f0,f1,f2,f3,f4,f5⟩:=hf it (by simp)
  refine wpAny_pyNext_list_item st p.isList (x:=u) (by simpa using hu) λh' st' sb=>?_
  have I1:Inv X pins σ H { s with heap:=h' }:=I.turned (t':=s.toks) (λb o hb e=>(sb.2 b hb).trans e) f0 f1 f3 f4 f5
  obtain ⟨o,e,c,d⟩:=id st'
  exact ⟨u,rfl,qxw (s:={ s with heap:=h' }) e c d (by decide) ⟨x,H,I1,ru,⟨rfl,λys hy=>by rw [I.list_inj hy hq];exact hx⟩,st',λb hb=>(hf b hb).1⟩⟩
 done:=by
  intro X hP hw hK hc i pins s σ H E I hf st hg
  subst hP hw hK
  obtain ⟨xs,hq,hx⟩:=hg
  obtain ⟨its,rv,p,hz⟩:=I.list hq
  obtain ⟨f0,f1,f2,f3,f4,f5⟩:=hf it (by simp)
  have hl:=rv.length
  exact wpAny_pyNext_list_end (I.ok.hd hc) st p.isList (by simp;lia) λh' eb=>⟨rfl,I.turned (t':=s.toks) (λb o hb e=>eb b o hb e) f0 f1 f3 f4 f5⟩
 self:=λ_ _ _ _ _ st h=>wpAny_pyIter_listiter st h
theorem qzn {P:Ac}{w:Ah}{K:Aa}{tg:Expr}(it:Aj)(lo:Int)(n:Nat):Turn P w K tg (Itr lo n) [it] it (λi h=>IsRangeIter h it (lo+(i:Nat)*1) ((n:Int)-(i:Nat)) 1) where
 mem:=by simp
 obj:=λi h st b hb=>by
  have e:b=it:=by simpa using hb
  subst e
  exact ⟨_,st,λv z=>by
   have z':Data.fields _=Data.cell v:=z
   cases z'⟩
 keep:=λi h h' st k=>k it (by simp) _ st
 item:=by
  intro X hP hw hK hc i pins s σ H E I hf st hg
  subst hP hw hK
  obtain ⟨f0,f1,f2,f3,f4,f5⟩:=hf it (by simp)
  have W:=Walks.range (prog:=X.prog) (w:=X.w) (I.ok.hd hc) it lo 1 n
  refine W.item i s _ _ hg st λv h' tk hv st' kk=>?_
  obtain ⟨t,rfl⟩:=hv
  have I1:Inv X pins σ H { s with heap:=h',toks:=tk }:=I.turned (λb o hb e=>kk b o (by simpa using hb) e) f0 f1 f3 f4 f5
  refine ⟨_,rfl,qxw (s:={ s with heap:=h',toks:=tk }) (n := "range_iterator") st' rfl rfl (by decide) ⟨.int (lo+i),H,I1,⟨t,?_⟩,⟨rfl,rfl⟩,st',λb hb=>(hf b hb).1⟩⟩
  rw [Int.mul_one]
 done:=by
  intro X hP hw hK hc i pins s σ H E I hf st hg
  subst hP hw hK
  obtain ⟨f0,f1,f2,f3,f4,f5⟩:=hf it (by simp)
  exact wpAny_pyNext_range_end (I.ok.hd hc) st (by have:n≤i:=hg;lia) λh' eb=>⟨rfl,I.turned (t':=s.toks) (λb o hb e=>eb b o hb e) f0 f1 f3 f4 f5⟩
 self:=λ_ _ _ _ _ st h=>wpAny_pyIter_rangeiter st h
section
variable {X:Cx}{tg:Expr}
def iList (K:Aa)(tl:TE):TI:=λσ H R=>tl σ H λx H1=>∃a,x=.ref a∧(∃xs,SqL K H1 a xs)∧R (Itl K a) H1
theorem qwb {l:Expr}{tl:TE}(hl:PE X l tl):PI X tg l (iList X.K tl):=by
 intro pins s σ H R I h
 refine thn (hl pins s σ H _ I h) λv s1 ⟨x,H1,I1,r1,q1⟩=>?_
 obtain ⟨a,e,⟨xs,hq⟩,q⟩:=q1
 subst e
 cases r1
 obtain ⟨its,rv,p,hz⟩:=I1.list hq
 refine wpAny_pyIter_list p.isList ?_
 refine ⟨s1.heap.objs.size,[s1.heap.objs.size],_,_,H1,rfl,I1.kept (t':=s1.toks) λb o e=>ac _ e,qjd a _,⟨_,am _ rfl,rfl,rfl⟩,λb hb=>?_,q⟩
 have e:b=s1.heap.objs.size:=by simpa using hb
 subst e
 exact I1.fpOk (af _) (I1.hok.fresh (af _))
theorem qym {pins:List (Aj×Obj)}{σ:St}{H:Hp}{s:Ab}{R:It→Hp→Prop}{E:Ag→Ab→Prop}{lo hi:Int}{t u v:Tok}{tk:Nat}(I:Inv X pins σ H s)(h1:-(2 ^ 62)≤lo)(h2:lo<2 ^ 62)(h3:-(2 ^ 62)≤hi)(h4:hi<2 ^ 62)
  (q:R (Itr lo (hi-lo).toNat) H):wpAny (model X.prog X.w) X.A (pyIter (.ref s.heap.objs.size)) (PIE X pins σ tg R) E { s with heap:=s.heap.push { cls:=.type "range",data:=.fields #[.int lo t,.int hi u,.int 1 v] },toks:=tk }:=by
 refine wpAny_pyIter_range (IsRange.new ..) (small_one h1 h2 h3 h4) ?_
 have I1:Inv X pins σ H { s with heap:=s.heap.push { cls:=.type "range",data:=.fields #[.int lo t,.int hi u,.int 1 v] },toks:=tk }:=I.kept λb o e=>ac _ e
 refine ⟨(s.heap.push { cls:=.type "range",data:=.fields #[.int lo t,.int hi u,.int 1 v] }).objs.size,[(s.heap.push { cls:=.type "range",data:=.fields #[.int lo t,.int hi u,.int 1 v] }).objs.size],_,_,H,rfl,
  I1.kept (t':=tk) λb o e=>ac _ e,qzn _ lo (hi-lo).toNat,?_,λb hb=>?_,q⟩
 ·have e1:lo+((0:Nat):Int)*1=lo:=by simp
  have e2:(((hi-lo).toNat:Nat):Int)-((0:Nat):Int)=Builtin.Range.rangeSize lo hi 1:=by rw [rangeSize_one];split <;> lia
  show IsRangeIter _ _ (lo+((0:Nat):Int)*1) ((((hi-lo).toNat:Nat):Int)-((0:Nat):Int)) 1
  rw [e1,e2]
  exact am _ rfl
 ·have e:b=(s.heap.push { cls:=.type "range",data:=.fields #[.int lo t,.int hi u,.int 1 v] }).objs.size:=by simpa using hb
  subst e
  exact I1.fpOk (af _) (I1.hok.fresh (af _))
def iRng1 (ta:TA):TI:=λσ H R=>ta σ H λvs H1=>∃j:Int,vs=[.int j]∧-(2 ^ 62)≤j∧j<2 ^ 62∧R (Itr 0 j.toNat) H1
theorem vz {a:Expr}{ta:TA}{p pos:Pos}(hg:Gl X "range")(hm:X.mg "range" = none)(ha:PA X [a] ta)(hs:starEach [a] X.env=[(false,eval a X.env)]:=by rfl):PI X tg (.Call (.Name "range" p) [a] [] pos) (iRng1 ta):=by
 intro pins s σ H R I h
 refine Call_ (Yf I hg hm boot_range (cy (thn (ha pos pins s σ H _ I h) λus s1 ⟨vs,H1,I1,r1,q1⟩=>?_) hs rfl))
 obtain ⟨j,e,q1,q2,q⟩:=q1
 subst e
 cases r1 with
 |cons r rr =>
  cases rr
  obtain ⟨t,rfl⟩:=r
  exact call_range_1 (qym I1 (by lia) (by lia) q1 q2 (by simpa using q))
def tFor (wi:TI)(g:TG)(tb:TS):TS:=λD σ H=>wi σ H λJ H1=>∃W:Nat→Nat→St→Hp→Prop,(∃m,W 0 m σ H1)∧∀i m σ H,W i m σ H →
 (J.stop i H∧D.nx σ H)∨(J.go i H∧∃N:St→Hp→Prop,(∀σ' H',N σ' H'→∃m',m'<m∧W (i+1) m' σ' H')∧∀x H',J.yld i H x H'→g x σ H' λσ2 H2=>tb { D with nx:=N,ct:=N,bk:=D.nx } σ2 H2)
def qw5 (fp:List Aj)(h:Heap):List (Aj×Obj):=fp.filterMap λb=>(h.get? b).map λo=>(b,o)
theorem vm {fp:List Aj}{h:Heap}{b:Aj}{o:Obj}(hb:b∈fp)(e:h.get? b=some o):(b,o)∈qw5 fp h:=dF.mpr ⟨b,hb,by rw [e];rfl⟩
theorem qj6 {fp:List Aj}{h:Heap}{p:Aj×Obj}(hp:p∈qw5 fp h):p.1∈fp∧h.get? p.1=some p.2:=by
 obtain ⟨b,hb,e⟩:=dF.mp hp
 cases q:h.get? b with
 |none=>rw [q] at e;cases e
 |some o =>
  rw [q] at e
  have e':(b,o)=p:=av e
  subst e'
  exact ⟨hb,q⟩
theorem Inv.pinned {pins:List (Aj×Obj)}{σ:St}{H:Hp}{s:Ab}{fp:List Aj}(I:Inv X pins σ H s)(hf:∀b∈fp,km X pins H b)(ho:∀b∈fp,∃o,s.heap.get? b=some o∧∀v,o.data≠.cell v):Inv X (pins++qw5 fp s.heap) σ H s :=
 I.pins_of λp hp=>(ba.mp hp).elim (λz=>I.pin p (aw _ z)) λz=>by
  obtain ⟨hb,e⟩:=qj6 z
  obtain ⟨f0,f1,f2,_⟩:=hf p.1 hb
  obtain ⟨o,e',d⟩:=ho p.1 hb
  rw [e] at e';cases e'
  exact ⟨e,f0,f1,f2,d⟩
theorem Inv.unpinned {pins pl:List (Aj×Obj)}{σ:St}{H:Hp}{s:Ab}(I:Inv X (pins++pl) σ H s):Inv X pins σ H s:=I.pins_of λp hp=>I.pin p (aw _ (df _ hp))
theorem uz {iter:Expr}{body:List Stmt}{wi:TI}{g:TG}{tb:TS}{pos:Pos}(hp:PassesOwn (model X.prog X.w) X.A X.env X.xe)(hc:X.calm=true)(hi:PI X tg iter wi)(hg:PG X tg g)(hb:PSs X body tb)
  (hs:∀x,foldedSetIterable iter X.env x=pure x:=by intro _;rfl):PS X (.For tg iter body [] pos) (tFor wi g tb):=by
 intro pins s σ H D I h
 refine wpAny_For (thn (hi pins s σ H _ I h) λv s1 h1=>thn h1 λitv s2 h2=>?_) hs
 obtain ⟨it,fp,tn,J,H2,e,I2,T,st2,f2,W,⟨m0,w0⟩,turn⟩:=h2
 subst e
 have stat:∀ {H':Hp},(∀b∈fp,H' b=none)→∀b∈fp,km X pins H' b:=λhn b hb=>⟨hn b hb,(f2 b hb).2⟩
 refine codeAny_forLoop_any (λn s'=>∃i σ' H',Inv X pins σ' H' s'∧tn i s'.heap∧(∀b∈fp,H' b=none)∧W i n σ' H') ?_ m0 ⟨0,σ,H2,I2,st2,λb hb=>(f2 b hb).1,w0⟩
 rintro n s3 ⟨i,σ3,H3,I3,st3,fr3,w3⟩
 rcases turn i n σ3 H3 w3 with ⟨stop,qn⟩|⟨go,N,hN,step⟩
 ·refine bP hp (thn (T.done X rfl rfl rfl hc i pins s3 σ3 H3 X.xe I3 (stat fr3) st3 stop) λr s4 ⟨hr,I4⟩=>?_)
  subst hr
  exact dn ⟨σ3,H3,I4,qn⟩
 ·refine bP hp (thn (T.item X rfl rfl rfl hc i pins s3 σ3 H3 X.xe I3 (stat fr3) st3 go) λr s4 ⟨u,hr,h4⟩=>?_)
  subst hr
  refine bP hp (thn h4 λ_ s5 ⟨x,H5,I5,r5,y5,st5,fr5⟩=>?_)
  have I5':=I5.pinned (stat fr5) (T.obj _ _ st5)
  refine bP hp (thn (hg _ s5 σ3 H5 x u _ I5' r5 (step x H5 y5)) λ_ s6 ⟨σ6,H6,I6,q6⟩=>?_)
  refine bP hp (thn (hb _ s6 σ6 H6 _ I6 q6) λf s7 q7=>?_)
  have again:∀ {σ7:St} {H7:Hp},Inv X (pins++qw5 fp s5.heap) σ7 H7 s7→N σ7 H7→∃m,m<n∧∃i σ' H',Inv X pins σ' H' s7∧tn i s7.heap∧(∀b∈fp,H' b=none)∧W i m σ' H':=λ{σ7 H7} I7 n7=>by
   obtain ⟨m',hm,w7⟩:=hN σ7 H7 n7
   refine ⟨m',hm,i+1,σ7,H7,I7.unpinned,T.keep _ _ _ st5 λb hb o e=>(I7.pin (b,o) (aw _ (aw _ (vm hb e)))).1,λb hb=>?_,w7⟩
   obtain ⟨o,e,d⟩:=T.obj _ _ st5 b hb
   exact (I7.pin (b,o) (aw _ (aw _ (vm hb e)))).2.1
  cases f with
  |next=>obtain ⟨σ7,H7,I7,n7⟩:=q7;exact again I7 n7
  |cont=>obtain ⟨σ7,H7,I7,n7⟩:=q7;exact again I7 n7
  |brk=>obtain ⟨σ7,H7,I7,q7⟩:=q7;exact ⟨σ7,H7,I7.unpinned,q7⟩
  |ret v=>obtain ⟨x7,σ7,H7,I7,r7,q7⟩:=q7;exact ⟨x7,σ7,H7,I7.unpinned,r7,q7⟩
end
theorem wwv {K:Aa}{a:Aj}{xs:List V}{g:TG}{tb:TS}{D:Ends}{σ:St}{H:Hp}(Pv:Nat→St→Hp→Prop)(h0:Pv 0 σ H)(hl:∀i σ H,i≤xs.length→Pv i σ H→SqL K H a xs)
  (hs:∀i x σ H,xs[i]?=some x→Pv i σ H→g x σ H λσ2 H2=>tb { D with nx:=Pv (i+1),ct:=Pv (i+1),bk:=D.nx } σ2 H2) (hd:∀σ H,Pv xs.length σ H→D.nx σ H) :
  ∃W:Nat→Nat→St→Hp→Prop,(∃m,W 0 m σ H)∧∀i m σ H,W i m σ H →
   ((Itl K a).stop i H∧D.nx σ H)∨((Itl K a).go i H∧∃N:St→Hp→Prop,(∀σ' H',N σ' H'→∃m',m'<m∧W (i+1) m' σ' H')∧∀x H',(Itl K a).yld i H x H'→g x σ H' λσ2 H2=>tb { D with nx:=N,ct:=N,bk:=D.nx } σ2 H2):=by
 refine ⟨λi m σ H=>m=xs.length-i∧i≤xs.length∧Pv i σ H,⟨xs.length,by simp,aB _,h0⟩,?_⟩
 rintro i m σ H ⟨rfl,hi,p⟩
 have q:=hl i σ H hi p
 by_cases hlt:i<xs.length
 ·refine .inr ⟨⟨xs,xs[i],q,by simp [hlt]⟩,Pv (i+1),λσ' H' p'=>⟨xs.length-(i+1),by lia,rfl,hlt,p'⟩,λx H' y=>?_⟩
  obtain ⟨e,y⟩:=y
  subst e
  exact hs i x σ _ (y xs q) p
 ·have e:i=xs.length:=by lia
  subst e
  exact .inl ⟨⟨xs,q,af _⟩,hd σ H p⟩
theorem yg {lo:Int}{n:Nat}{g:TG}{tb:TS}{D:Ends}{σ:St}{H:Hp}(Pv:Nat→St→Hp→Prop)(h0:Pv 0 σ H)
  (hs:∀i σ H,i<n→Pv i σ H→g (.int (lo+i)) σ H λσ2 H2=>tb { D with nx:=Pv (i+1),ct:=Pv (i+1),bk:=D.nx } σ2 H2) (hd:∀σ H,Pv n σ H→D.nx σ H) :
  ∃W:Nat→Nat→St→Hp→Prop,(∃m,W 0 m σ H)∧∀i m σ H,W i m σ H →
   ((Itr lo n).stop i H∧D.nx σ H)∨((Itr lo n).go i H∧∃N:St→Hp→Prop,(∀σ' H',N σ' H'→∃m',m'<m∧W (i+1) m' σ' H')∧∀x H',(Itr lo n).yld i H x H'→g x σ H' λσ2 H2=>tb { D with nx:=N,ct:=N,bk:=D.nx } σ2 H2):=by
 refine ⟨λi m σ H=>m=n-i∧i≤n∧Pv i σ H,⟨n,by simp,aB _,h0⟩,?_⟩
 rintro i m σ H ⟨rfl,hi,p⟩
 by_cases hlt:i<n
 ·refine .inr ⟨hlt,Pv (i+1),λσ' H' p'=>⟨n-(i+1),by lia,rfl,hlt,p'⟩,λx H' y=>?_⟩
  obtain ⟨e,y⟩:=y
  subst e y
  exact hs i σ _ hlt p
 ·have e:i=n:=by lia
  subst e
  exact .inl ⟨af _,hd σ H p⟩
theorem Yq {c:TT}{tb:TS}{D:Ends}{σ:St}{H:Hp}(Pv:St→Hp→Prop)(μ:St→Hp→Nat)(h0:Pv σ H)
  (hs:∀σ H,Pv σ H→c σ H λb H1=>if b=true then tb { D with nx:=λσ' H'=>Pv σ' H'∧μ σ' H'<μ σ H,ct:=λσ' H'=>Pv σ' H'∧μ σ' H'<μ σ H,bk:=D.nx } σ H1 else D.nx σ H1)
  (mono:∀σ H Q Q',(∀b H1,Q b H1→Q' b H1)→c σ H Q→c σ H Q'):qzm c tb D σ H:=by
 refine ⟨λm σ H=>m=μ σ H∧Pv σ H,⟨_,rfl,h0⟩,?_⟩
 rintro m σ H ⟨rfl,p⟩
 refine mono σ H _ _ (λb H1 q=>?_) (hs σ H p)
 cases b with
 |true=>exact ⟨_,λσ' H' ⟨p',l⟩=>⟨_,l,rfl,p'⟩,q⟩
 |false=>exact q
abbrev R2:=V→V→Hp→VK→Prop
def OpR (X:Cx)(f:Ag→Ag→Sem Ag)(r:R2):Prop :=
 ∀(pins:List (Aj×Obj)) (s:Ab) (σ:St) (H:Hp) (x y:V) (v u:Ag) (Q:VK),Inv X pins σ H s→RelV x v→RelV y u→r x y H Q →
  wpAny (model X.prog X.w) X.A (f v u) (EP X pins σ Q) X.xe s
def UnR (X:Cx)(f:Ag→Sem Ag)(r:V→Hp→VK→Prop):Prop :=
 ∀(pins:List (Aj×Obj)) (s:Ab) (σ:St) (H:Hp) (x:V) (v:Ag) (Q:VK),Inv X pins σ H s→RelV x v→r x H Q →
  wpAny (model X.prog X.w) X.A (f v) (EP X pins σ Q) X.xe s
def kf (X:Cx)(f:Ag)(r:List V→Hp→VK→Prop):Prop :=
 ∀(pins:List (Aj×Obj)) (s:Ab) (σ:St) (H:Hp) (xs:List V) (us:List Ag) (Q:VK),Inv X pins σ H s→Vals xs us→r xs H Q →
  wpAny (model X.prog X.w) X.A (call f us) (EP X pins σ Q) X.xe s
def tOp (r:R2)(ta tb:TE):TE:=λσ H Q=>ta σ H λx H1=>tb σ H1 λy H2=>r x y H2 Q
def tUn (r:V→Hp→VK→Prop)(ta:TE):TE:=λσ H Q=>ta σ H λx H1=>r x H1 Q
def rI (C:Int→Int→Prop)(g:Int→Int→V):R2:=λx y H Q=>∃i j,x=.int i∧y=.int j∧C i j∧Q (g i j) H
def rI0 (g:Int→Int→V):R2:=λx y H Q=>∃i j,x=.int i∧y=.int j∧Q (g i j) H
def rU (g:Int→V):V→Hp→VK→Prop:=λx H Q=>∃i,x=.int i∧Q (g i) H
section
variable {X:Cx}{a b c:Expr}{ta tb tc:TE}{pos:Pos}
theorem binT (ha:PE X a ta)(hb:PE X b tb){pins:List (Aj×Obj)}{s:Ab}{σ:St}{H:Hp}{R:V→V→Hp→Prop}(I:Inv X pins σ H s)
  (h:ta σ H λx H1=>tb σ H1 λy H2=>R x y H2) {Q:Ag→Ab→Prop} {f:Ag→Ag→Sem Ag}
  (hf:∀v u s2 x y H2,Inv X pins σ H2 s2→RelV x v→RelV y u→R x y H2→wpAny (model X.prog X.w) X.A (f v u) Q X.xe s2) :
  wpAny (model X.prog X.w) X.A (eval a X.env) (λv s₁=>wpAny (model X.prog X.w) X.A (eval b X.env) (λu s₂=>wpAny (model X.prog X.w) X.A (f v u) Q X.xe s₂) X.xe s₁) X.xe s:=by
 refine thn (ha pins s σ H _ I h) λv s1 ⟨x,H1,I1,r1,q1⟩=>?_
 refine thn (hb pins s1 σ H1 _ I1 q1) λu s2 ⟨y,H2,I2,r2,q2⟩=>?_
 exact hf v u s2 x y H2 I2 r1 r2 q2
theorem wg {op:Operator}{r:R2}(ho:OpR X (binaryOp op) r)(ha:PE X a ta)(hb:PE X b tb):PE X (.BinOp a op b pos) (tOp r ta tb):=by
 intro pins s σ H Q I h
 exact wpAny_BinOp (binT ha hb I h λv u s2 x y H2 I2 rx ry q=>ho pins s2 σ H2 x y v u Q I2 rx ry q)
theorem pe_un {op:UnaryOp}{r:V→Hp→VK→Prop}(ho:UnR X (unaryOp op) r)(ha:PE X a ta):PE X (.UnaryOp op a pos) (tUn r ta):=by
 intro pins s σ H Q I h
 exact UnaryOp_ (thn (ha pins s σ H _ I h) λv s1 ⟨x,H1,I1,r1,q1⟩=>ho pins s1 σ H1 x v Q I1 r1 q1)
theorem opI {f:Ag→Ag→Sem Ag}{C:Int→Int→Prop}{g:Int→Int→Int}
  (rule:∀(i j:Int) (t u:Tok) (s:Ab) (Q:Ag→Ab→Prop) (E:Ag→Ab→Prop),C i j→Q (.int (g i j) s.toks) { s with toks:=s.toks+1 }→wpAny (model X.prog X.w) X.A (f (.int i t) (.int j u)) Q E s) :
  OpR X f (rI C λi j=>.int (g i j)):=by
 intro pins s σ H x y v u Q I rx ry h
 obtain ⟨i,j,rfl,rfl,hc,q⟩:=h
 obtain ⟨t,rfl⟩:=rx
 obtain ⟨t',rfl⟩:=ry
 exact rule i j t t' s _ _ hc ⟨.int (g i j),H,I.tok _,⟨_,rfl⟩,q⟩
theorem opI0 {f:Ag→Ag→Sem Ag}{g:Int→Int→Int}
  (rule:∀(i j:Int) (t u:Tok) (s:Ab) (Q:Ag→Ab→Prop) (E:Ag→Ab→Prop),Q (.int (g i j) s.toks) { s with toks:=s.toks+1 }→wpAny (model X.prog X.w) X.A (f (.int i t) (.int j u)) Q E s) :
  OpR X f (rI0 λi j=>.int (g i j)):=by
 intro pins s σ H x y v u Q I rx ry h
 obtain ⟨i,j,rfl,rfl,q⟩:=h
 obtain ⟨t,rfl⟩:=rx
 obtain ⟨t',rfl⟩:=ry
 exact rule i j t t' s _ _ ⟨.int (g i j),H,I.tok _,⟨_,rfl⟩,q⟩
theorem opB0 {f:Ag→Ag→Sem Ag}{g:Int→Int→Bool}
  (rule:∀(i j:Int) (t u:Tok) (s:Ab) (Q:Ag→Ab→Prop) (E:Ag→Ab→Prop),Q (.bool (g i j)) s→wpAny (model X.prog X.w) X.A (f (.int i t) (.int j u)) Q E s) :
  OpR X f (rI0 λi j=>.bl (g i j)):=by
 intro pins s σ H x y v u Q I rx ry h
 obtain ⟨i,j,rfl,rfl,q⟩:=h
 obtain ⟨t,rfl⟩:=rx
 obtain ⟨t',rfl⟩:=ry
 exact rule i j t t' s _ _ ⟨.bl (g i j),H,I,rfl,q⟩
def CPow (i j:Int):Prop:=0≤j∧j≤1000000∧i.natAbs<2 ^ 64
theorem xz:OpR X (binaryOp .Add) (rI0 λi j=>.int (i+j)):=opI0 λ_ _ _ _ _ _ _ q=>add_int q
theorem zh:OpR X (binaryOp .Sub) (rI0 λi j=>.int (i-j)):=opI0 λ_ _ _ _ _ _ _ q=>sub_int q
theorem zm:OpR X (binaryOp .Mod) (rI (λ_ j=>0<j) λi j=>.int (i%j)):=opI λi j _ _ _ _ _ hc q=>by
 have h1:(0:Int)<j:=hc
 exact mod_int' (by lia) (by rw [Int.fmod_eq_emod_of_nonneg i (by lia)];exact q)
theorem qkq:OpR X (binaryOp .Pow) (rI CPow λi j=>.int (i ^ j.toNat)):=opI λ_ _ _ _ _ _ _ hc q=>pow_int_small hc.1 hc.2.1 hc.2.2 q
theorem unI {f:Ag→Sem Ag}{g:Int→Int}
  (rule:∀(i:Int) (t:Tok) (s:Ab) (Q:Ag→Ab→Prop) (E:Ag→Ab→Prop),Q (.int (g i) s.toks) { s with toks:=s.toks+1 }→wpAny (model X.prog X.w) X.A (f (.int i t)) Q E s) :
  UnR X f (rU λi=>.int (g i)):=by
 intro pins s σ H x v Q I rx h
 obtain ⟨i,rfl,q⟩:=h
 obtain ⟨t,rfl⟩:=rx
 exact rule i t s _ _ ⟨.int (g i),H,I.tok _,⟨_,rfl⟩,q⟩
theorem un_neg:UnR X (unaryOp .USub) (rU λi=>.int (-i)):=unI λ_ _ _ _ _ q=>neg_int q
end
def scal:V→V→Bool
 |.non,.non=>true|.non,.int _=>true|.int _,.non=>true|.non,.bl _=>true|.bl _,.non=>true|.non,.str _=>true|.str _,.non=>true
 |.int _,.int _=>true|.bl _,.bl _=>true|.str _,.str _=>true|.byt _,.byt _=>true
 |.int _,.str _=>true|.str _,.int _=>true|.bl _,.str _=>true|.str _,.bl _=>true
 |_,_=>false
def rEq:R2:=λx y H Q=>scal x y=true∧Q (.bl (decide (x=y))) H
def rNe:R2:=λx y H Q=>scal x y=true∧Q (.bl (!decide (x=y))) H
theorem qkx {i j:Int}:decide (V.int i=V.int j)=(i==j):=by
 rw [cm]
 simp
theorem qyr {i j:Bool}:decide (V.bl i=V.bl j)=(i==j):=by
 rw [cm]
 simp
theorem qkp {i j:Str}:decide (V.str i=V.str j)=(i==j):=by
 rw [cm]
 simp
theorem qku {i j:Array UInt8}:decide (V.byt i=V.byt j)=(i.toList==j.toList):=by
 rw [cm]
 cases i
 cases j
 simp
section
variable {X:Cx}{a b c:Expr}{ta tb tc:TE}{pos:Pos}
theorem xn {pins:List (Aj×Obj)}{σ:St}{H:Hp}{s:Ab}{Q:VK}{k k':Bool}(I:Inv X pins σ H s)(q:Q (.bl k) H)(e:k=k'):EP X pins σ Q (.bool k') s:=by
 subst e
 exact ⟨.bl k,H,I,rfl,q⟩
theorem kh:OpR X (compareOp .Eq) rEq:=by
 intro pins s σ H x y v u Q I rx ry h
 obtain ⟨hs,q⟩:=h
 cases x with
 |non =>
  cases rx
  cases y with
  |non=>cases ry;exact PySem.EqNone.eq_none_none (xn I q (by simp))
  |bl j=>cases ry;exact PySem.EqNone.eq_none_bool (xn I q (by simp))
  |int j=>obtain ⟨t',rfl⟩:=ry;exact PySem.EqNone.eq_none_int (xn I q (by simp))
  |str j=>obtain ⟨t',rfl⟩:=ry;exact PySem.EqNone.eq_none_str (xn I q (by simp))
  |_=>exact absurd (show false=true from hs) aA
 |bl i =>
  cases rx
  cases y with
  |non=>cases ry;exact PySem.EqNone.eq_bool_none (xn I q (by simp))
  |bl j=>cases ry;exact eq_bool (xn I q qyr)
  |str j=>obtain ⟨t',rfl⟩:=ry;exact PySem.EqMixed.eq_bool_str (xn I q (by simp))
  |_=>exact absurd (show false=true from hs) aA
 |int i =>
  obtain ⟨t,rfl⟩:=rx
  cases y with
  |non=>cases ry;exact PySem.EqNone.eq_int_none (xn I q (by simp))
  |int j=>obtain ⟨t',rfl⟩:=ry;exact eq_int (xn I q qkx)
  |str j=>obtain ⟨t',rfl⟩:=ry;exact PySem.EqMixed.eq_int_str (xn I q (by simp))
  |_=>exact absurd (show false=true from hs) aA
 |str i =>
  obtain ⟨t,rfl⟩:=rx
  cases y with
  |non=>cases ry;exact PySem.EqNone.eq_str_none (xn I q (by simp))
  |bl j=>cases ry;exact PySem.EqMixed.eq_str_bool (xn I q (by simp))
  |int j=>obtain ⟨t',rfl⟩:=ry;exact PySem.EqMixed.eq_str_int (xn I q (by simp))
  |str j=>obtain ⟨t',rfl⟩:=ry;exact eq_str (xn I q qkp)
  |_=>exact absurd (show false=true from hs) aA
 |byt i =>
  obtain ⟨t,rfl⟩:=rx
  cases y with
  |byt j=>obtain ⟨t',rfl⟩:=ry;exact PySem.W.eq_bytes (xn I q qku)
  |_=>exact absurd (show false=true from hs) aA
 |_=>cases y <;> exact absurd (show false=true from hs) aA
theorem op_ne:OpR X (compareOp .NotEq) rNe:=by
 intro pins s σ H x y v u Q I rx ry h
 obtain ⟨hs,q⟩:=h
 cases x with
 |non =>
  cases rx
  cases y with
  |non=>cases ry;exact PySem.EqNone.ne_none_none (xn I q (by simp))
  |bl j=>cases ry;exact PySem.EqNone.ne_none_bool (xn I q (by simp))
  |int j=>obtain ⟨t',rfl⟩:=ry;exact PySem.EqNone.ne_none_int (xn I q (by simp))
  |str j=>obtain ⟨t',rfl⟩:=ry;exact PySem.EqNone.ne_none_str (xn I q (by simp))
  |_=>exact absurd (show false=true from hs) aA
 |bl i =>
  cases rx
  cases y with
  |non=>cases ry;exact PySem.EqNone.ne_bool_none (xn I q (by simp))
  |bl j=>cases ry;exact ne_bool (xn I q (bB not qyr))
  |str j=>obtain ⟨t',rfl⟩:=ry;exact PySem.EqMixed.ne_bool_str (xn I q (by simp))
  |_=>exact absurd (show false=true from hs) aA
 |int i =>
  obtain ⟨t,rfl⟩:=rx
  cases y with
  |non=>cases ry;exact PySem.EqNone.ne_int_none (xn I q (by simp))
  |int j=>obtain ⟨t',rfl⟩:=ry;exact ne_int (xn I q (bB not qkx))
  |str j=>obtain ⟨t',rfl⟩:=ry;exact PySem.EqMixed.ne_int_str (xn I q (by simp))
  |_=>exact absurd (show false=true from hs) aA
 |str i =>
  obtain ⟨t,rfl⟩:=rx
  cases y with
  |non=>cases ry;exact PySem.EqNone.ne_str_none (xn I q (by simp))
  |bl j=>cases ry;exact PySem.EqMixed.ne_str_bool (xn I q (by simp))
  |int j=>obtain ⟨t',rfl⟩:=ry;exact PySem.EqMixed.ne_str_int (xn I q (by simp))
  |str j=>obtain ⟨t',rfl⟩:=ry;exact ne_str (xn I q (bB not qkp))
  |_=>exact absurd (show false=true from hs) aA
 |byt i =>
  obtain ⟨t,rfl⟩:=rx
  cases y with
  |byt j=>obtain ⟨t',rfl⟩:=ry;exact PySem.W.ne_bytes (xn I q (bB not qku))
  |_=>exact absurd (show false=true from hs) aA
 |_=>cases y <;> exact absurd (show false=true from hs) aA
theorem jr:OpR X (compareOp .Lt) (rI0 λi j=>.bl (decide (i<j))):=opB0 λ_ _ _ _ _ _ _ q=>lt_int q
theorem op_le:OpR X (compareOp .LtE) (rI0 λi j=>.bl (decide (i≤j))):=opB0 λ_ _ _ _ _ _ _ q=>le_int q
theorem uy:OpR X (compareOp .Gt) (rI0 λi j=>.bl (decide (j<i))):=opB0 λ_ _ _ _ _ _ _ q=>gt_int q
theorem wwj:OpR X (compareOp .GtE) (rI0 λi j=>.bl (decide (j≤i))):=opB0 λ_ _ _ _ _ _ _ q=>ge_int q
theorem qjb:OpR X (compareOp .Lt) (λx y H Q=>∃i j,x=.str i∧y=.str j∧Q (.bl (decide (i.cps.toList<j.cps.toList))) H):=by
 intro pins s σ H x y v u Q I rx ry h
 obtain ⟨i,j,rfl,rfl,q⟩:=h
 obtain ⟨t,rfl⟩:=rx
 obtain ⟨t',rfl⟩:=ry
 exact lt_str (xn I q rfl)
theorem qyu:OpR X (compareOp .In) (λx y H Q=>∃i j,x=.str i∧y=.str j∧Q (.bl (!(Builtin.Str.occurrences j i 0 j.length 1).isEmpty)) H):=by
 intro pins s σ H x y v u Q I rx ry h
 obtain ⟨i,j,rfl,rfl,q⟩:=h
 obtain ⟨t,rfl⟩:=rx
 obtain ⟨t',rfl⟩:=ry
 exact in_str (xn I q rfl)
theorem op_isN:OpR X (compareOp .Is) (λx y H Q=>y=.non∧Q (.bl (decide (x=.non))) H):=by
 intro pins s σ H x y v u Q I rx ry h
 obtain ⟨rfl,q⟩:=h
 cases ry
 refine is_none_gen (xn I q ?_)
 cases x <;> first
  |(cases rx;rfl)
  |(obtain ⟨t,rfl⟩:=rx;rfl)
theorem wwm:OpR X (compareOp .IsNot) (λx y H Q=>y=.non∧Q (.bl (!decide (x=.non))) H):=by
 intro pins s σ H x y v u Q I rx ry h
 obtain ⟨rfl,q⟩:=h
 cases ry
 refine isnot_none_gen (xn I q ?_)
 cases x <;> first
  |(cases rx;rfl)
  |(obtain ⟨t,rfl⟩:=rx;rfl)
theorem w9 (b:Expr){op:CmpOp}(h:op≠.In:=by decide)(h2:op≠.NotIn:=by decide):behindInMarks op b=false:=by
 have e1:(op==CmpOp.In)=false:=by cases op <;> first | rfl | exact absurd rfl h
 have e2:(op==CmpOp.NotIn)=false:=by cases op <;> first | rfl | exact absurd rfl h2
 cases b <;> simp [behindInMarks,e1,e2]
theorem yy {op:CmpOp}{r:R2}(ho:OpR X (compareOp op) r)(ha:PE X a ta)(hb:PE X b tb)(hm:behindInMarks op b=false):PE X (.Compare a [op] [b] pos) (tOp r ta tb):=by
 intro pins s σ H Q I h
 exact wpAny_Compare1 (binT ha hb I h λv u s2 x y H2 I2 rx ry q=>ho pins s2 σ H2 x y v u Q I2 rx ry q) hm
def tTest (t:TE):TT:=λσ H Q=>t σ H λx H'=>∃k,x=.bl k∧Q k H'
theorem w6 {op:CmpOp}{r:R2}(ho:OpR X (compareOp op) r)(ha:PE X a ta)(hb:PE X b tb)(hm:behindInMarks op b=false):PT X (.Compare a [op] [b] pos) (tTest (tOp r ta tb)):=by
 intro pins s σ H Q I h
 refine wpAny_isTrue_Compare1 (thn (ha pins s σ H _ I h) λv s1 ⟨x,H1,I1,r1,q1⟩=>thn (hb pins s1 σ H1 _ I1 q1) λu s2 ⟨y,H2,I2,r2,q2⟩ =>
  thn (ho pins s2 σ H2 x y v u _ I2 r1 r2 q2) λc s3 ⟨z,H3,I3,r3,k,e,q3⟩=>?_) hm
 subst e
 cases r3
 exact bR ⟨H3,I3,q3⟩
theorem Wv:(sizeLine:Nat)<2 ^ 63:=by rw [sizeLine_eq];decide
theorem qvw:OpR X (binaryOp .Add) (λx y H Q=>∃i j,x=.str i∧y=.str j∧i.length+j.length≤sizeLine∧Q (.str (i++j)) H):=by
 intro pins s σ H x y v u Q I rx ry h
 obtain ⟨i,j,rfl,rfl,hz,q⟩:=h
 obtain ⟨t,rfl⟩:=rx
 obtain ⟨t',rfl⟩:=ry
 exact add_str (λt' tk=>⟨.str (i++j),H,I.tok _,⟨_,rfl⟩,q⟩) hz
theorem yk {x:V}{us:List Ag}(r:Vals [x] us):∃u,us=[u]∧RelV x u:=by
 cases r with
 |cons r1 r2=>cases r2;exact ⟨_,rfl,r1⟩
theorem qyp {x y:V}{us:List Ag}(r:Vals [x,y] us):∃u w',us=[u,w']∧RelV x u∧RelV y w':=by
 cases r with
 |cons r1 r2 =>
  cases r2 with
  |cons r3 r4=>cases r4;exact ⟨_,_,rfl,r1,r3⟩
theorem j4:kf X (.builtin "abs") (λxs H Q=>∃i,xs=[.int i]∧Q (.int (if i<0 then -i else i)) H):=by
 intro pins s σ H xs us Q I r h
 obtain ⟨i,rfl,q⟩:=h
 obtain ⟨u,rfl,t,rfl⟩:=yk r
 exact call_abs_int λu tk=>⟨.int (if i<0 then -i else i),H,I.tok _,⟨_,rfl⟩,q⟩
theorem Jn (hc:X.calm=true):kf X (.builtin "max") (λxs H Q=>∃i j,xs=[.int i,.int j]∧Q (.int (if j>i then j else i)) H):=by
 intro pins s σ H xs us Q I r h
 obtain ⟨i,j,rfl,q⟩:=h
 obtain ⟨u,w',rfl,⟨t,rfl⟩,⟨t',rfl⟩⟩:=qyp r
 refine max_two_ints (I.ok.hd hc) λh' tk k=>⟨_,H,I.kept k,?_,q⟩
 by_cases hj:j>i
 ·rw [ak hj,ak hj];exact ⟨_,rfl⟩
 ·rw [aj hj,aj hj];exact ⟨_,rfl⟩
theorem Jh (hc:X.calm=true):kf X (.builtin "min") (λxs H Q=>∃i j,xs=[.int i,.int j]∧Q (.int (if j<i then j else i)) H):=by
 intro pins s σ H xs us Q I r h
 obtain ⟨i,j,rfl,q⟩:=h
 obtain ⟨u,w',rfl,⟨t,rfl⟩,⟨t',rfl⟩⟩:=qyp r
 refine min_two_ints (I.ok.hd hc) λh' tk k=>⟨_,H,I.kept k,?_,q⟩
 by_cases hj:j<i
 ·rw [ak hj,ak hj];exact ⟨_,rfl⟩
 ·rw [aj hj,aj hj];exact ⟨_,rfl⟩
end
structure ObjM (h:Heap)(x dx C:Aj)(mA:Str→Option Ag):Prop where
 obj:h.get? x=some (PySem.W.instObj C dx)
 ns:h.Ns1 dx mA
 ne:dx≠x
theorem qj4 {h:Heap}{dx:Aj}{mA:Str→Option Ag}(n:h.Ns1 dx mA):∃od,h.get? dx=some od∧∀name,PySem.W.lookIn name od=some (mA name):=by
 obtain ⟨o,es,ep,ho,hd,hk,_,hm⟩:=n
 refine ⟨o,ho,λname=>?_⟩
 have e:=hm name
 unfold nsFind findBy at e
 rw [←Array.find?_toList] at e
 unfold PySem.W.lookIn
 rw [hd]
 dsimp only
 split
 ·rename_i y q
  rw [q] at e
  exact bB some e
 ·rename_i q
  rw [q] at e
  have a:es.toList.any (·.refKey)=false:=by
   rw [List.any_eq_false]
   intro y hy
   obtain ⟨z,t,hkey⟩:=hk y (Array.mem_toList_iff.mp hy)
   simp [DictEntry.refKey,hkey]
  have a':¬ es.toList.any (·.refKey)=true:=by rw [a];exact aA
  rw [aj a']
  exact bB some e
theorem ObjM.look {h:Heap}{x dx C:Aj}{mA:Str→Option Ag}(I:ObjM h x dx C mA):∃od,PySem.W.InstAt h x (PySem.W.instObj C dx) C (some od)∧∀name,PySem.W.lookIn name od=some (mA name) :=
 let ⟨od,ho,hl⟩:=qj4 I.ns
 ⟨od,⟨I.obj,rfl,rfl,ho⟩,hl⟩
section
variable {prog:Ac}{w:Ah}{A:Ae}{E:Ag→Ab→Prop}{s:Ab}{K:Aa}{x dx C f:Aj}{mA:Str→Option Ag}{name:Str}{v:Ag}
theorem wxn {expr:Bool}{Q:Ag→Ab→Prop}(X:K.In s.heap)(I:ObjM s.heap x dx C mA)(hg:PySem.W.plainGet K C name=true)(hh:PySem.W.hasDictIn K C=true)
  (ha:PySem.W.findIn K (.ref C) name=some none) (hv:mA name=some v) (hv':PySem.W.handedIn v=true) (h:Q v { s with toks:=s.toks+1 }) :
  wpAny (model prog w) A (getAttr (.ref x) name expr) Q E s:=by
 obtain ⟨od,J,hl⟩:=I.look
 exact PySem.W.get_value X J (dv hg).1 (PySem.W.findObj_own hh ha rfl (by rw [hl,hv])) hv' h
theorem qu1 {pl:Sem Bool}{Q:Ag×List Ag→Ab→Prop}(X:K.In s.heap)(I:ObjM s.heap x dx C mA)(hg:PySem.W.plainGet K C name=true)
  (hf:PySem.W.findIn K (.ref C) name=some (some (.ref f))) (ht:PySem.W.isFn K (.ref f)=true) (hv:mA name=none) (h:Q (.ref f,[.ref x]) s) :
  wpAny (model prog w) A (getMethod (.ref x) name pl) Q E s:=by
 obtain ⟨od,J,hl⟩:=I.look
 exact PySem.W.method_fn X J (dv hg).1 (dv hg).2 hf (cY.mp ht) (by show (PySem.W.lookIn name od).map (·.isSome)=some false;rw [hl,hv];rfl) h
theorem ww9 {ns:List Str}{Q:Unit→Ab→Prop}(X:K.In s.heap)(I:ObjM s.heap x dx C mA)
  (hs:PySem.W.findIn K (.ref C) "__setattr__" = some (some (.builtin "object.__setattr__"))) (hp:PySem.W.plainOver K C=true) (ht:PySem.W.takerIn K C name=some none) (hh:PySem.W.hasDictIn K C=true)
  (hw:PySem.Within mA ns) (hsz:ns.length≤sizeLine)
  (h:∀h',ObjM h' x dx C (λy=>if y=name then some v else mA y)→Heap.SameBut dx s.heap h'→Q () { s with heap:=h',toks:=s.toks+2 }) :
  wpAny (model prog w) A (setAttr (.ref x) name v) Q E s:=by
 obtain ⟨od,J,hl⟩:=I.look
 refine PySem.W.set_plain X J hs (PySem.W.osa_open (s:={ s with toks:=s.toks+1 }) (r:=none) X J hp ht λb=>?_)
 obtain ⟨cd,hc,hd'⟩:=PySem.W.any_some hh
 have hx:s.heap.get? x=some ⟨.ref C,some dx,.plain,#[]⟩:=I.obj
 refine aa (ag (aa (aa (wpAny_loadPart hx (aa (PySem.W.Looks.here (s:={ s with toks:=s.toks+1 }) (PySem.W.looks_clsIn X hc) ?_))))))
 rw [hd']
 refine ag (a:=some dx) (aa (ag (aa ?_)))
 refine wpAny_nsSet1 (s:={ s with toks:=s.toks+1 }) I.ns λh' hn2 hs2=>?_
 obtain ⟨oD,esD,epD,hoD,hdD,hcD⟩:=hn2.count (PySem.Within.cons name v hw)
 refine aa (wpAny_lookBehind hoD (by rw [hdD];exact pastItsLine_dict (br hcD (by rw [aQ];lia))) ?_)
 exact ag (h _ ⟨(hs2.2 _ (bg I.ne)).trans I.obj,hn2,I.ne⟩ hs2)
theorem wqz {R:Result→Ab→Prop}{vs:List Ag}{kw:List (Str×Ag)}(X:K.In s.heap)(hm:PySem.W.makesIn K C=true)
  (hi:PySem.W.findIn K (.ref C) "__init__" = some (some (.ref f))) (hf:PySem.W.typeIn K (.ref f)=some (.type "function"))
  (h:codeAny (model prog w) (A.under (.builtin "type.__call__" ⟨.ref C::vs,kw⟩)) (.call (.ref f) ⟨.ref (s.heap.objs.size+1)::vs,kw⟩) (PySem.W.InitBack (s.heap.objs.size+1) R)
   { s with heap:=(s.heap.push PySem.W.emptyDict).push (PySem.W.instObj C s.heap.objs.size) }) :
  codeAny (model prog w) A (.call (.ref C) ⟨vs,kw⟩) R s:=by
 obtain ⟨hh,g,d,t,os⟩:=s
 exact PySem.W.make_core (PySem.W.makes_of X hm) (PySem.W.looks_findIn X hi) (λself=>PySem.W.bind_fn X self hf) (.inl rfl) h
end
def vw (f:Str)(v:V):List (Str×V)→List (Str×V)
 |[]=>[(f,v)]
 |(g,x)::r=>if g=f then (g,v)::r else (g,x)::vw f v r
theorem Wd (f g:Str)(v:V):∀fs:List (Str×V),(vw f v fs).lookup g=if g=f then some v else fs.lookup g
 |[]=>by
  show List.lookup g [(f,v)]=_
  by_cases h:g=f
  ·have hb:(g==f)=true:=cY.mpr h
   simp only [List.lookup,hb,ak h]
  ·have hb:(g==f)=false:=aE.mpr h
   simp only [List.lookup,hb,aj h]
 |(k,x)::r=>by
  have ih:=Wd f g v r
  rw [show vw f v ((k,x)::r)=(if k=f then (k,v)::r else (k,x)::vw f v r) from rfl]
  by_cases hk:k=f
  ·rw [ak hk]
   by_cases h:g=k
   ·have hb:(g==k)=true:=cY.mpr h
    simp only [List.lookup,hb,ak (h.trans hk)]
   ·have hb:(g==k)=false:=aE.mpr h
    simp only [List.lookup,hb,aj (λe:g=f=>h (e.trans hk.symm))]
  ·rw [aj hk]
   by_cases h:g=k
   ·have hb:(g==k)=true:=cY.mpr h
    simp only [List.lookup,hb,aj (λe:g=f=>hk (h.symm.trans e))]
   ·have hb:(g==k)=false:=aE.mpr h
    simp only [List.lookup,hb]
    exact ih
theorem Q4 (f:Str)(v:V):∀fs:List (Str×V),f∈(vw f v fs).map (·.1)∧∀g,g∈fs.map (·.1)→g∈(vw f v fs).map (·.1)
 |[]=>⟨by simp [vw],λg h=>by simp at h⟩
 |(k,x)::r=>by
  obtain ⟨i1,i2⟩:=Q4 f v r
  rw [show vw f v ((k,x)::r)=(if k=f then (k,v)::r else (k,x)::vw f v r) from rfl]
  by_cases hk:k=f
  ·rw [ak hk]
   subst hk
   exact ⟨by simp,λg h=>by simpa using h⟩
  ·rw [aj hk]
   refine ⟨?_,λg h=>?_⟩
   ·rw [aD]
    exact bc _ i1
   ·rw [aD] at h ⊢
    rcases aq.mp h with e|e
    ·exact aq.mpr (.inl e)
    ·exact bc _ (i2 g e)
theorem Wb (f:Str)(v:V):∀fs:List (Str×V),(vw f v fs).length≤fs.length+1
 |[]=>by simp [vw]
 |(k,x)::r=>by
  have ih:=Wb f v r
  rw [show vw f v ((k,x)::r)=(if k=f then (k,v)::r else (k,x)::vw f v r) from rfl]
  by_cases hk:k=f
  ·rw [ak hk,aQ,aQ];lia
  ·rw [aj hk,aQ,aQ];lia
theorem RelO.some_of {v:V}{o:Option Ag}(r:RelO (some v) o):∃u,o=some u∧RelV v u:=by
 cases o with
 |none=>exact (show False from r).elim
 |some u=>exact ⟨u,rfl,r⟩
theorem RelO.none_of {o:Option Ag}(r:RelO none o):o=none:=by
 cases o with
 |none=>rfl
 |some u=>exact (show False from r).elim
theorem qjy {v:V}{u:Ag}(r:RelV v u):PySem.W.handedIn u=true:=by
 cases v with
 |non=>cases (show u=Value.none from r);rfl
 |bl b=>cases (show u=Value.bool b from r);rfl
 |int i=>obtain ⟨t,e⟩:=(show ∃t,u=Value.int i t from r);cases e;rfl
 |str x=>obtain ⟨t,e⟩:=(show ∃t,u=Value.str x t from r);cases e;rfl
 |byt b=>obtain ⟨t,e⟩:=(show ∃t,u=Value.bytes b t from r);cases e;rfl
 |flt b=>obtain ⟨t,e⟩:=(show ∃t,u=Value.float b t from r);cases e;rfl
 |ref a=>cases (show u=Value.ref a from r);rfl
 |ty n=>cases (show u=Value.type n from r);rfl
section
variable {P:Ac}{w:Ah}{H H':Hp}{h h':Heap}{a C dx:Aj}{fs fs':List (Str×V)}
theorem W9 (hok:HOk P w H h)(e:H a=some (.ins C dx fs)):∃mA,ObjM h a dx C mA∧(∀f,RelO (fs.lookup f) (mA f))∧PySem.Within mA (fs.map (·.1))∧fs.length≤1000∧H dx=some (.own a):=by
 obtain ⟨d,z,ne,ob,mA,n,r,q⟩:=(show ObjOk P w H h a (.ins C dx fs) from hok a _ e)
 exact ⟨mA,⟨ob,n,ne⟩,r,q,z,d⟩
end
structure Cls (K:Aa)(C:Aj):Prop where
 pg:PySem.W.plainGet K C Str.empty=true
 hd:PySem.W.hasDictIn K C=true
 po:PySem.W.plainOver K C=true
 sa:PySem.W.findIn K (.ref C) "__setattr__" = some (some (.builtin "object.__setattr__"))
theorem Cls.get {K:Aa}{C:Aj}(c:Cls K C)(f:Str):PySem.W.plainGet K C f=true:=c.pg
def NoAttr (K:Aa)(C:Aj)(f:Str):Prop:=PySem.W.findIn K (.ref C) f=some none
theorem NoAttr.taker {K:Aa}{C:Aj}{f:Str}(n:NoAttr K C f):PySem.W.takerIn K C f=some none:=by
 unfold PySem.W.takerIn
 rw [show PySem.W.findIn K (.ref C) f=some none from n]
 rfl
structure Con (K:Aa)(C:Aj)(f:Str)(v:V)(u:Ag):Prop where
 at_:PySem.W.findIn K (.ref C) f=some (some u)
 rel:RelV v u
 get:PySem.W.specialIn K u "__get__" = some none
 cp:PySem.W.copiedNames.contains f=false
structure Meth (K:Aa)(C:Aj)(m:Str)(f:Aj):Prop where
 at_:PySem.W.findIn K (.ref C) m=some (some (.ref f))
 fn:PySem.W.isFn K (.ref f)=true
 kp:PySem.W.keepIn K (.ref f)=true
section
variable {X:Cx}{pins:List (Aj×Obj)}{σ:St}{H:Hp}{s:Ab}{a C dx:Aj}{fs:List (Str×V)}{f:Str}{v:V}{A:Ae}{E:Ag→Ab→Prop}
theorem qv5 {b:Bool}{Q:Ag→Ab→Prop}(I:Inv X pins σ H s)(e:H a=some (.ins C dx fs))(c:Cls X.K C)(n:NoAttr X.K C f)(l:fs.lookup f=some v)
  (h:∀u s',Inv X pins σ H s'→RelV v u→Q u s'):wpAny (model X.prog X.w) A (getAttr (.ref a) f b) Q E s:=by
 obtain ⟨mA,O,r,_,_,_⟩:=W9 I.hok e
 obtain ⟨u,hu,ru⟩:=RelO.some_of (v:=v) (o:=mA f) (by rw [←l];exact r f)
 exact wxn I.kIn O (c.get f) c.hd n hu (qjy ru) (h u _ (I.tok _) ru)
theorem Yp {m:Str}{g:Aj}{pl:Sem Bool}{Q:Ag×List Ag→Ab→Prop}(I:Inv X pins σ H s)(e:H a=some (.ins C dx fs))(c:Cls X.K C)(k:Meth X.K C m g)(l:fs.lookup m=none)
  (h:Q (.ref g,[.ref a]) s):wpAny (model X.prog X.w) A (getMethod (.ref a) m pl) Q E s:=by
 obtain ⟨mA,O,r,_,_,_⟩:=W9 I.hok e
 have hn:mA m=none:=RelO.none_of (by rw [←l];exact r m)
 exact qu1 I.kIn O (c.get m) k.at_ k.fn hn h
theorem qz8 {y:V}{u:Ag}{Q:Unit→Ab→Prop}(I:Inv X pins σ H s)(e:H a=some (.ins C dx fs))(c:Cls X.K C)(n:NoAttr X.K C f)(hl:fs.length<1000)(ry:RelV y u)
  (h:∀s',Inv X pins σ (upd H a (.ins C dx (vw f y fs))) s'→Q () s'):wpAny (model X.prog X.w) A (setAttr (.ref a) f u) Q E s:=by
 obtain ⟨mA,O,r,wi,_,ho⟩:=W9 I.hok e
 have hz:(fs.map (·.1)).length≤sizeLine:=by rw [ae,sizeLine_eq];lia
 refine ww9 I.kIn O c.sa c.po n.taker c.hd wi hz λh' O' sb=>h _ ?_
 have hd:∃o,h'.get? dx=some o:=let ⟨o,_,_,e',_⟩:=O'.ns;⟨o,e'⟩
 refine I.write (x:=a) (e:=dx) (by rw [e];exact True.intro) (.inr ho) (λb q hb z=>(sb.2 b hb).trans z) hd ?_
 refine ⟨by rw [wc O.ne];exact ho,?_,O.ne,O'.obj,_,O'.ns,λg=>?_,λg hg=>?_⟩
 ·have:=Wb f y fs;lia
 ·show RelO ((vw f y fs).lookup g) (if g=f then some u else mA g)
  rw [Wd]
  by_cases q:g=f
  ·rw [ak q,ak q];exact ry
  ·rw [aj q,aj q];exact r g
 ·by_cases q:g=f
  ·rw [q];exact (Q4 f y fs).1
  ·refine (Q4 f y fs).2 g (wi g λz=>hg ?_)
   show (if g=f then some u else mA g)=none
   rw [aj q];exact z
theorem Inv.made (I:Inv X pins σ H s):Inv X pins σ (upd (upd H s.heap.objs.size (.own (s.heap.objs.size+1))) (s.heap.objs.size+1) (.ins C s.heap.objs.size []))
  { s with heap:=(s.heap.push PySem.W.emptyDict).push (PySem.W.instObj C s.heap.objs.size) }:=by
 have e1:(s.heap.push PySem.W.emptyDict).get? s.heap.objs.size=some PySem.W.emptyDict:=am s.heap rfl
 have e2:((s.heap.push PySem.W.emptyDict).push (PySem.W.instObj C s.heap.objs.size)).get? (s.heap.objs.size+1)=some (PySem.W.instObj C s.heap.objs.size):=by
  have:=am (s.heap.push PySem.W.emptyDict) (o:=PySem.W.instObj C s.heap.objs.size) rfl
  rwa [cS] at this
 have e3:(s.heap.push PySem.W.emptyDict).Ns s.heap.objs.size (λ_=>none):=⟨PySem.W.emptyDict,#[],_,e1,rfl,(λe he=>absurd he (by simp)),λ_=>rfl⟩
 have I1:=I.laid (a:=s.heap.objs.size) (o:=.own (s.heap.objs.size+1)) (h':=s.heap.push PySem.W.emptyDict) (t':=s.toks) (λb u q=>ac _ q) (af _) ⟨_,e1⟩
 refine I1.laid (a:=s.heap.objs.size+1) (o:=.ins C s.heap.objs.size []) (t':=s.toks) (λb u q=>ac _ q) (Nat.le_of_eq (cS _ _)) ?_
 have ne:s.heap.objs.size≠s.heap.objs.size+1:=ao (Nat.lt_succ_self _)
 refine ⟨by rw [wc ne,qt],aB _,ne,e2,λ_=>none,(Heap.Ns1.of_empty e3).at λo q=>ac _ q,λ_=>True.intro,λy hy=>absurd rfl hy⟩
theorem ww5 {prog:Ac}{w:Ah}{env:Env}{e:Expr}{f:Str}{pos:Pos}{s:Ab}{Q:Ag→Ab→Prop}(hb:attributeBase e f env (eval e env)=eval e env)
  (h:wpAny (model prog w) A (eval e env) (λo s₁=>wpAny (model prog w) A (getAttr o f true) Q E s₁) E s):wpAny (model prog w) A (eval (.Attribute e f pos) env) Q E s :=
 Attribute_any_ h (by rw [arm_eval_Attribute,hb])
end
def tFld (K:Aa)(ta:TE)(f:Str):TE:=λσ H Q=>ta σ H λx H1=>∃a C dx fs v,x=.ref a∧H1 a=some (.ins C dx fs)∧Cls K C∧NoAttr K C f∧fs.lookup f=some v∧Q v H1
def sFld (K:Aa)(ta tv:TE)(f:Str):TS:=λD σ H=>tv σ H λy H1=>ta σ H1 λx H2=>∃a C dx fs,x=.ref a∧H2 a=some (.ins C dx fs)∧Cls K C∧NoAttr K C f∧fs.length<1000 ∧
 D.nx σ (upd H2 a (.ins C dx (vw f y fs)))
section
variable {X:Cx}{o e value:Expr}{f:Str}{pos pos' tpos:Pos}{ta tv:TE}
theorem zb (he:PE X e ta)(hb:attributeBase e f X.env (eval e X.env)=eval e X.env):PE X (.Attribute e f pos) (tFld X.K ta f):=by
 intro pins s σ H Q I h
 refine ww5 hb (thn (he pins s σ H _ I h) λu s1 ⟨x,H1,I1,rx,a,C,dx,fs,v,ex,ea,c,n,l,q⟩=>?_)
 subst ex
 obtain rfl:u=Value.ref a:=rx
 exact qv5 I1 ea c n l λu' s2 I2 ru=>⟨v,H1,I2,ru,q⟩
theorem ux (ha:PE X o ta)(hv:PE X value tv)(hs:swapsWith value (some (.Attribute o f pos')) pos.line X.env=pure false):PS X (.Assign [.Attribute o f pos'] value pos) (sFld X.K ta tv f):=by
 intro pins s σ H D I h
 refine plainObj_wpAny_Assign_Attribute (thn (hv pins s σ H _ I h) λu s1 ⟨y,H1,I1,ry,q⟩=>thn (ha pins s1 σ H1 _ I1 q) λov s2 ⟨x,H2,I2,rx,a,C,dx,fs,ex,ea,c,n,l,q2⟩=>?_) hs
 subst ex
 obtain rfl:ov=Value.ref a:=rx
 exact qz8 I2 ea c n l ry λs3 I3=>⟨σ,_,I3,q2⟩
end
section
variable {X:Cx}{pins:List (Aj×Obj)}{σ:St}{H:Hp}{s:Ab}{A:Ae}{E:Ag→Ab→Prop}{Q:Ag→Ab→Prop}{c:Ag}{b:Bool}
inductive TyOf (K:Aa) (H:Hp):V→Ag→Prop where
 |non:TyOf K H .non (.type "NoneType")
 |bl (x:Bool):TyOf K H (.bl x) (.type "bool")
 |int (i:Int):TyOf K H (.int i) (.type "int")
 |str (x:Str):TyOf K H (.str x) (.type "str")
 |flt (x:UInt64):TyOf K H (.flt x) (.type "float")
 |lst {a:Aj} {xs:List V} (e:H a=some (.lst xs)):TyOf K H (.ref a) (.type "list")
 |frz {a:Aj} {o:Obj} {xs:List V} (e:H a=some (.frz o (.lst xs))):TyOf K H (.ref a) (.type "list")
 |tup {a:Aj} {xs:List V} (e:H a=some (.tup xs)):TyOf K H (.ref a) (.type "tuple")
 |dK {a:Aj} {kvs:List (Key×V)} (e:H a=some (.dK kvs)):TyOf K H (.ref a) (.type "dict")
 |dT {a:Aj} {kvs:List (List Key×V)} (e:H a=some (.dT kvs)):TyOf K H (.ref a) (.type "dict")
 |ins {a C dx:Aj} {fs:List (Str×V)} (e:H a=some (.ins C dx fs)) (cl:Cls K C) (ha:PySem.W.findIn K (.ref C) "__class__" = some (some (.builtin "object.__class__")))
   (hn:PySem.W.specialIn K (.builtin "object.__class__") "__get__" = some (some (.builtin "getset_descriptor.__get__"))) (htk:PySem.W.takesIn K (.builtin "object.__class__")=some true)
   (hm:PySem.W.mroIn K C (.type "object")=some true):TyOf K H (.ref a) (.ref C)
theorem qjp {x:V}{u t:Ag}(I:Inv X pins σ H s)(rx:RelV x u)(ty:TyOf X.K H x t)(e:PySem.W.kitOne X.K t c=some b)(h:∀tk,Q (.bool b) { s with toks:=tk }) :
  wpAny (model X.prog X.w) A (call (.builtin "isinstance") [u,c]) Q E s:=by
 cases ty with
 |non=>cases (show u=Value.none from rx);exact be PySem.W.kitx_none I.kIn True.intro e (λz=>nomatch z) h
 |bl y=>cases (show u=Value.bool y from rx);exact be PySem.W.kitx_bool I.kIn True.intro e (λz=>nomatch z) h
 |int i=>obtain ⟨t,q⟩:=(show ∃t,u=Value.int i t from rx);cases q;exact be PySem.W.kitx_int I.kIn True.intro e (λz=>nomatch z) h
 |str y=>obtain ⟨t,q⟩:=(show ∃t,u=Value.str y t from rx);cases q;exact be PySem.W.kitx_str I.kIn True.intro e (λz=>nomatch z) h
 |flt y=>obtain ⟨t,q⟩:=(show ∃t,u=Value.float y t from rx);cases q;exact be PySem.W.kitx_float I.kIn True.intro e (λz=>nomatch z) h
 |@lst a xs ea =>
  cases (show u=Value.ref a from rx)
  obtain ⟨_,_,n,_,h1⟩:=(show ObjOk X.prog X.w H s.heap a (.lst xs) from I.hok a _ ea)
  exact be PySem.W.kitx_list I.kIn ⟨_,h1,rfl⟩ e (λz=>nomatch z) h
 |@frz a ob xs ea =>
  cases (show u=Value.ref a from rx)
  obtain ⟨_,_,_,n,_,h1⟩:=(show ObjOk X.prog X.w H s.heap a (.frz ob (.lst xs)) from I.hok a _ ea)
  exact be PySem.W.kitx_list I.kIn ⟨_,h1,rfl⟩ e (λz=>nomatch z) h
 |@tup a xs ea =>
  cases (show u=Value.ref a from rx)
  obtain ⟨_,_,_,p⟩:=(show ObjOk X.prog X.w H s.heap a (.tup xs) from I.hok a _ ea)
  obtain ⟨o,h1,h2,_⟩:=p
  exact be PySem.W.kitx_tuple I.kIn ⟨o,h1,h2⟩ e (λz=>nomatch z) h
 |@dK a kvs ea =>
  cases (show u=Value.ref a from rx)
  obtain ⟨_,_,vs,_,p⟩:=(show ObjOk X.prog X.w H s.heap a (.dK kvs) from I.hok a _ ea)
  obtain ⟨o,es,ep,h1,h2,_⟩:=p
  exact be PySem.W.kitx_dict I.kIn ⟨o,h1,h2.1⟩ e (λz=>nomatch z) h
 |@dT a kvs ea =>
  cases (show u=Value.ref a from rx)
  obtain ⟨_,_,xs,_,o,es,ep,h1,h2,_⟩:=(show ObjOk X.prog X.w H s.heap a (.dT kvs) from I.hok a _ ea)
  exact be PySem.W.kitx_dict I.kIn ⟨o,h1,h2.1⟩ e (λz=>nomatch z) h
 |@ins a C dx fs ea cl ha hn htk hm =>
  cases (show u=Value.ref a from rx)
  obtain ⟨mA,O,_⟩:=W9 I.hok ea
  obtain ⟨od,J,_⟩:=O.look
  exact be (PySem.W.kitx_own (cl.get _) cl.hd ha hn htk hm) I.kIn J e (λz=>nomatch z) h
end
structure Room (k:Nat)(A:Ae):Prop where
 hd:A.handled=none
 dp:A.depth+3*k+5<recursionLimit
 un:A.units+16*k+200<cLine
theorem Room.mono {j k:Nat}{A:Ae}(r:Room k A)(h:j≤k):Room j A:=⟨r.hd,by have:=r.dp;lia,by have:=r.un;lia⟩
theorem Room.deeper {k:Nat}{A:Ae}(r:Room (k+1) A)(env:Env):Room k (A.deeper env) :=
 ⟨r.hd,by have:=r.dp;show A.depth+1+3*k+5<_;lia,by have:=r.un;show A.units+3+16*k+200<_;lia⟩
theorem qvk {A:Ae}{C:Aj}{us:List Ag}{kw:List (Str×Ag)}:(A.under (.builtin "type.__call__" ⟨.ref C::us,kw⟩)).depth=A.depth+1:=by
 first | rfl | simp [Around.under,Code.weight,Code.isCreation,Code.isGuard,Code.isCaller,Code.frames,Code.isFrame,guardIds]
theorem qz6 {A:Ae}{C:Aj}{us:List Ag}{kw:List (Str×Ag)}:(A.under (.builtin "type.__call__" ⟨.ref C::us,kw⟩)).units=A.units+1:=by
 first | rfl | simp [Around.under,Code.cUnits,Code.frames,Code.isFrame]
theorem Room.make {k:Nat}{A:Ae}(r:Room (k+1) A)(C:Aj)(us:List Ag)(kw:List (Str×Ag)):Room k (A.under (.builtin "type.__call__" ⟨.ref C::us,kw⟩)) :=
 ⟨r.hd,by have:=r.dp;rw [qvk];lia,by have:=r.un;rw [qz6];lia⟩
theorem Room.depth {k:Nat}{A:Ae}(r:Room k A):A.depth<recursionLimit:=by have:=r.dp;lia
theorem Room.units {k:Nat}{A:Ae}(r:Room k A):A.units+64<cLine:=by have:=r.un;lia
theorem Room.units0 {k:Nat}{A:Ae}(r:Room k A):A.units<cLine:=by have:=r.un;lia
def Jc:TA:=λ_ H Q=>Q [] H
def v4 (ta:TE)(tr:TA):TA:=λσ H Q=>ta σ H λx H1=>tr σ H1 λxs H2=>Q (x::xs) H2
section
variable {X:Cx}{e:Expr}{es:List Expr}{te:TE}{t:TA}{pos:Pos}
theorem qz:PA X [] Jc:=λ_ _ _ _ H Q I h=>dP ⟨[],H,I,.nil,h⟩
theorem xh (ha:PE X e te)(hr:PA X es t)(hs:starEach (e::es) X.env=(false,eval e X.env)::starEach es X.env:=by rfl):PA X (e::es) (v4 te t):=by
 intro pos pins s σ H Q I h
 rw [hs]
 show wpAny _ _ (spliced ((false,eval e X.env)::backTo pos (starEach es X.env))) _ _ s
 refine cN (thn (ha pins s σ H _ I h) λu s1 ⟨x,H1,I1,r1,q1⟩=>?_)
 exact thn (hr pos pins s1 σ H1 _ I1 q1) λus s2 ⟨xs,H2,I2,r2,q2⟩=>⟨x::xs,H2,I2,.cons r1 r2,q2⟩
def tTup (t:TA):TE:=λσ H Q=>t σ H λxs H1=>xs.length≤sizeLine∧∀p,H1 p=none→Q (.ref p) (upd H1 p (.tup xs))
def tLst (t:TA):TE:=λσ H Q=>t σ H λxs H1=>xs.length≤sizeLine∧∀p,H1 p=none→Q (.ref p) (upd H1 p (.lst xs))
theorem z9 {x1}(h:PA X es t):PE X (.Tuple es x1 pos) (tTup t):=by
 intro pins s σ H Q I hq
 refine wpAny_Tuple_spliced (thn (h pos pins s σ H _ I hq) λus s1 ⟨xs,H1,I1,r,z,q⟩=>⟨by rw [←r.length];exact z,?_⟩)
 have hf:H1 s1.heap.objs.size=none:=I1.hok.fresh (af _)
 refine ⟨.ref s1.heap.objs.size,upd H1 s1.heap.objs.size (.tup xs),I1.laid (t':=s1.toks) (λb u e=>ac _ e) (af _) ?_,rfl,q _ hf⟩
 exact ⟨z,us,r,⟨_,am _ rfl,rfl,_,rfl⟩⟩
theorem uq (h:PA X es t):PE X (.List es pos) (tLst t):=by
 intro pins s σ H Q I hq
 refine wpAny_List_spliced (thn (h pos pins s σ H _ I hq) λus s1 ⟨xs,H1,I1,r,z,q⟩=>⟨by rw [←r.length];exact z,?_⟩)
 have hf:H1 s1.heap.objs.size=none:=I1.hok.fresh (af _)
 refine ⟨.ref s1.heap.objs.size,upd H1 s1.heap.objs.size (.lst xs),I1.laid (t':=s1.toks) (λb u e=>ac _ e) (af _) ?_,rfl,q _ hf⟩
 exact ⟨z,us,0,r,am _ rfl⟩
end
abbrev Sp:=List V→Hp→VK→XK→Prop
abbrev CXT:=List Env→Hp→Ab→XK→Ag→Ab→Prop
structure Env0 (P:Ac)(w:Ah)(K:Aa)(mg:Str→Option Ag)(base:Heap)(A:Ae)(outer:List Env)(s:Ab)(H:Hp):Prop where
 frames:A.frames=some outer
 mod:Mod K mg base
 bs:∀b o,base.get? b=some o→s.heap.get? b=some o∧H b=none
 bsz:base.objs.size≤s.heap.objs.size
 funs:s.heap.FunFrames base outer
 frf:∀b∈frs outer,H b=none
 hok:HOk P w H s.heap
 bare:AllBare s.gens
def CE (outer:List Env)(P:Ac)(w:Ah)(H:Hp)(s:Ab)(Q:VK)(u:Ag)(s':Ab):Prop :=
 ∃v H',s'.os=s.os∧AllBare s'.gens∧Un (frs outer) [] H H' s.heap s'.heap∧HOk P w H' s'.heap∧RelV v u∧Q v H'
def CR (CX:CXT)(outer:List Env)(P:Ac)(w:Ah)(H:Hp)(s:Ab)(Q:VK)(E:XK)(r:Result)(s':Ab):Prop :=
 match r with
 |.ok (.ret u)=>CE outer P w H s Q u s'
 |.ok _=>False
 |.error e=>CX outer H s E e s'
structure FnOk (P:Ac)(w:Ah)(K:Aa)(mg:Str→Option Ag)(base:Heap)(CX:CXT)(k:Nat)(f:Aj)(fd:Ad)(ps:List Str)(sp:Sp):Prop where
 len:∀vs H Q E,sp vs H Q E→vs.length=ps.length
 run:∀(A:Ae) (outer:List Env) (s:Ab) (H:Hp) (args:Args) (us:List Ag) (vs:List V) (Q:VK) (E:XK),Room k A→Env0 P w K mg base A outer s H→BindsTo s fd args (ps.zip us)→Vals vs us→sp vs H Q E →
  codeAny (model P w) A (.call (.ref f) args) (CR CX outer P w H s Q E) s
theorem Env0.make {P:Ac}{w:Ah}{K:Aa}{mg:Str→Option Ag}{base:Heap}{A:Ae}{outer:List Env}{s:Ab}{H:Hp}(e:Env0 P w K mg base A outer s H)(C:Aj)(us:List Ag)(kw:List (Str×Ag)) :
  Env0 P w K mg base (A.under (.builtin "type.__call__" ⟨.ref C::us,kw⟩)) outer s H:=⟨by first | exact e.frames | (simpa [Around.under,Code.envs,Code.isFrame,pushEnvs] using e.frames),e.mod,e.bs,e.bsz,e.funs,e.frf,e.hok,e.bare⟩
section
variable {X:Cx}{pins:List (Aj×Obj)}{σ:St}{H:Hp}{s s':Ab}
theorem Inv.env0 (I:Inv X pins σ H s):Env0 X.prog X.w X.K X.mg X.base X.A X.stack s H :=
 ⟨I.ok.frames,I.ok.mod,I.bs,br I.ok.bsz I.sz,I.stack,I.stkFree,I.hok,I.bare⟩
theorem Inv.after {Q:VK}{u:Ag}(I:Inv X pins σ H s)(h:CE X.stack X.prog X.w H s Q u s'):EP X pins σ Q u s':=by
 obtain ⟨v,H',os,bare,un,hok,r,q⟩:=h
 obtain ⟨hh,g,d,t,os'⟩:=s'
 obtain rfl:os'=s.os:=os
 exact ⟨v,H',I.call (h':=hh) (g':=g) (d':=d) (t':=t) (ch:=[]) un hok bare (λb z=>absurd z (by simp)),r,q⟩
end
def Binds (K:Aa)(fd:Ad)(ps:List Str)(ds:List Ag):Prop :=
 ∀(s:Ab) (us:List Ag),K.In s.heap→(us++ds).length=ps.length→BindsTo s fd ⟨us,[]⟩ (ps.zip (us++ds))
theorem Binds.all {K:Aa}{fd:Ad}{ps:List Str}(h:∀us:List Ag,us.length=ps.length→bindArgs fd ⟨us,[]⟩=pure (ps.zip us)):Binds K fd ps []:=λs us _ hl=>by
 rw [cn] at hl ⊢
 exact .of_eq (h us hl)
section
variable {X:Cx}{CX:CXT}{k:Nat}{f C:Aj}{fd:Ad}{ps:List Str}{sp:Sp}{dvs:List V}{ds:List Ag}{E:XK}{x m:Str}{p pos apos:Pos}{e o:Expr}{es:List Expr}{ta:TE}{t:TA}
structure Mk (K:Aa)(C f:Aj):Prop where
 makes:PySem.W.makesIn K C=true
 init:PySem.W.findIn K (.ref C) "__init__" = some (some (.ref f))
 fn:PySem.W.isFn K (.ref f)=true
 kp:PySem.W.keepIn K (.ref C)=true
end
section
variable {X:Cx}{CX:CXT}{k:Nat}{f C:Aj}{fd:Ad}{ps ks:List Str}{sp:Sp}{E:XK}{x m:Str}{p pos apos kpos:Pos}{e o:Expr}{es:List Expr}{kws:List Keyword}{te ta:TE}{t tk:TA}{nm:Option Str}
structure KBinds (K:Aa)(fd:Ad)(ps ks:List Str)(g:List Ag→List Ag→List Ag)(gV:List V→List V→List V):Prop where
 to:∀(s:Ab) (us ws:List Ag),K.In s.heap→(g us ws).length=ps.length→BindsTo s fd ⟨us,ks.zip ws⟩ (ps.zip (g us ws))
 rel:∀ {vs:List V} {us:List Ag} {zs:List V} {ws:List Ag},Vals vs us→Vals zs ws→Vals (gV vs zs) (g us ws)
variable {g:List Ag→List Ag→List Ag}{gV:List V→List V→List V}
end
structure FnScope (N P:List Str)(sc:Scope):Prop where
 kind:sc.kind=.function
 co:sc.isCoroutine=false
 gen:sc.isGenerator=false
 nd:N.Nodup
 pre:N.take P.length=P
 par:∀x∈P,sc.names.lookup x=some .local∨sc.names.lookup x=some .cell
 nofree:∀y∈sc.names,y.2≠.free
theorem qqx {kindOf:Str→Option NameKind}{x:Str}:∀ {binds:List (Str×Ag)} {m:Str→Option Ag},(∀v,(x,v)∉binds)→bindL kindOf binds m x=m x
 |[],_,_=>rfl
 |(n,v)::r,m,h=>by
  unfold bindL
  rw [qqx λw hw=>h w (bc _ hw)]
  split
  ·have:x≠n:=by rintro rfl;exact h v cM
   simp [this]
  ·rfl
theorem Jp {kindOf:Str→Option NameKind}{x:Str}:∀ {binds:List (Str×Ag)} {m:Str→Option Ag},(∀v,(x,v)∉binds)→bindC kindOf binds m x=m x
 |[],_,_=>rfl
 |(n,v)::r,m,h=>by
  unfold bindC
  rw [Jp λw hw=>h w (bc _ hw)]
  split
  ·rfl
  ·have:x≠n:=by rintro rfl;exact h v cM
   simp [this]
theorem qqf {kindOf:Str→Option NameKind}{x:Str}{v:Ag}:∀ {P:List Str} {vs:List Ag} {i:Nat} {m:Str→Option Ag},P.Nodup→P[i]?=some x→vs[i]?=some v→kindOf x=some .local →
  bindL kindOf (P.zip vs) m x=some v
 |[],_,_,_,_,h,_,_=>by simp at h
 |_::_,[],_,_,_,_,h,_=>by simp at h
 |p::P,w::vs,0,m,nd,h1,h2,hk=>by
  simp at h1 h2;subst h1;subst h2
  show bindL kindOf ((p,w)::P.zip vs) m p=_
  unfold bindL
  rw [qqx λv hv=>(bf.mp nd).1 (eh hv).1,ak hk]
  simp
 |p::P,w::vs,i+1,m,nd,h1,h2,hk=>by
  show bindL kindOf ((p,w)::P.zip vs) m x=_
  unfold bindL
  exact qqf (i:=i) (bf.mp nd).2 (by simpa using h1) (by simpa using h2) hk
theorem J9 {kindOf:Str→Option NameKind}{x:Str}{v:Ag}:∀ {P:List Str} {vs:List Ag} {i:Nat} {m:Str→Option Ag},P.Nodup→P[i]?=some x→vs[i]?=some v→kindOf x≠some .local →
  bindC kindOf (P.zip vs) m x=some v
 |[],_,_,_,_,h,_,_=>by simp at h
 |_::_,[],_,_,_,_,h,_=>by simp at h
 |p::P,w::vs,0,m,nd,h1,h2,hk=>by
  simp at h1 h2;subst h1;subst h2
  show bindC kindOf ((p,w)::P.zip vs) m p=_
  unfold bindC
  rw [Jp λv hv=>(bf.mp nd).1 (eh hv).1,aj hk]
  simp
 |p::P,w::vs,i+1,m,nd,h1,h2,hk=>by
  show bindC kindOf ((p,w)::P.zip vs) m x=_
  unfold bindC
  exact J9 (i:=i) (bf.mp nd).2 (by simpa using h1) (by simpa using h2) hk
def uc (N:List Str)(vs:List V):St:=vs.map some++List.replicate (N.length-vs.length) none
def Qq (CX:CXT)(P:Ac)(w:Ah)(K:Aa)(mg:Str→Option Ag)(base:Heap)(N:List Str)(qual:Str)(scope:Scope)(f:Aj)(cd:Ag)(A:Ae)(outer:List Env)(s:Ab)(H:Hp)(E:XK):Cx where
 prog:=P
 w:=w
 K:=K
 mg:=mg
 base:=base
 A:=A.deeper (envOfC qual scope s.heap.objs.size f cd)
 N:=N
 s₀:=s
 H₀:=H
 env:=envOfC qual scope s.heap.objs.size f cd
 outer:=outer
 stack:=envOfC qual scope s.heap.objs.size f cd::outer
 ex:=[]
 calm:=true
 fn:=λ_=>true
 pn:=[]
 xe:=λe s'=>wpAny (model P w) (A.deeper (envOfC qual scope s.heap.objs.size f cd)) (leaving (envOfC qual scope s.heap.objs.size f cd) e) (λ_ s''=>CX outer H s E e s'') (λe' s''=>CX outer H s E e' s'') s'
theorem qxp {sc:Scope}{n:Nat}{x:Str}(h:sc.names.lookup x=some .cell):∃c,(cellsFrom n sc.names []).lookup x=some c:=by
 have q:=PySem.W.cellsFrom_some sc.names n [] (.inl h)
 exact dW.mp q
theorem qjf {CX:CXT}{P:Ac}{w:Ah}{K:Aa}{mg:Str→Option Ag}{base:Heap}{N ps:List Str}{qual:Str}{scope:Scope}{f:Aj}{cd:Ag}{A:Ae}{outer:List Env}{s s1:Ab}{H:Hp}{E:XK}{us:List Ag}{vs:List V}
  (S:FnScope N ps scope) (hd:A.handled=none) (e0:Env0 P w K mg base A outer s H) (hl:vs.length=ps.length) (r:Vals vs us)
  (x:InCallC s s.heap.objs.size (bindL (envOfC qual scope s.heap.objs.size f cd).kindOf (ps.zip us) λ_=>none) (cellsFrom (s.heap.objs.size+1) scope.names []) (bindC (envOfC qual scope s.heap.objs.size f cd).kindOf (ps.zip us) λ_=>none) s1) :
  Inv (Qq CX P w K mg base N qual scope f cd A outer s H E) [] (uc N vs) H s1:=by
 have hpl:ps.length≤N.length:=by have:=bB List.length S.pre;rw [bK] at this;lia
 obtain ⟨h1,tk,rfl,hk⟩:=x.done
 have noA:∀b:Aj,b∉(Qq CX P w K mg base N qual scope f cd A outer s H E).ex:=λb z=>absurd (show b∈([]:List Aj) from z) (by simp)
 refine ⟨⟨e0.mod,S.kind,rfl,rfl,af _,λy z c h1 h2=>?_,λy hy=>?_,λy c _ h=>?_,λ_=>hd,Around.frames_deeper e0.frames,.inr ⟨rfl,rfl⟩,λb z=>absurd z (noA b),e0.bs,e0.bsz,λb _ _=>noA b,λb z=>absurd z (noA b),e0.funs,e0.frf⟩,
  rfl,e0.bare,Un.kept hk,⟨_,x.toInCall.ns,λi y v h1 h2 h3=>?_⟩,λy c h=>⟨_,x.cell y c h⟩,e0.hok.fresh (af _),λy c h=>?_,λp hp=>absurd (show p∈([]:List (Aj×Obj)) from hp) (by simp),e0.hok.kept hk,?_⟩
 ·exact name_of_addr x.apart (bW h1) (bW h2)
 ·have hy:scope.names.lookup y=some .cell∨scope.names.lookup y=some .free:=hy
  rcases hy with hy|hy
  ·exact qxp hy
  ·exact absurd rfl (S.nofree _ (bW hy))
 ·exact bw (x.above y c (bW h))
 ·have hi:i<vs.length:=by
   unfold uc at h2
   by_cases hi:i<vs.length
   ·exact hi
   ·rw [bd (by simpa using hi)] at h2
    rw [List.getElem?_replicate] at h2
    split at h2 <;> cases h2
  have ha:vs[i]?=some v:=by
   unfold uc at h2
   rw [bt (by simpa using hi),aI] at h2
   cases e:vs[i]? with
   |none=>rw [e] at h2;cases h2
   |some a=>rw [e] at h2;cases h2;rfl
  obtain ⟨u,hu,rv⟩:=r.get ha
  have hp:ps[i]?=some y:=by
   rw [←S.pre,List.getElem?_take_of_lt (by lia)];exact h1
  have ndP:ps.Nodup:=by rw [←S.pre];exact S.nd.sublist (List.take_sublist _ _)
  refine ⟨u,rv,?_⟩
  rcases S.par y (aZ hp) with k|k
  ·exact .inl ⟨k,qqf ndP hp hu k⟩
  ·obtain ⟨c,e⟩:=qxp (n:=s.heap.objs.size+1) k
   refine .inr ⟨.inl k,c,e,?_⟩
   have q:=x.cell y c e
   rw [J9 ndP hp hu (by show scope.names.lookup y≠_;rw [k];decide)] at q
   exact q
 ·exact e0.hok.fresh (bw (x.above y c (bW h)))
 ·unfold uc
  show _=N.length
  rw [aU,ae,List.length_replicate]
  lia
theorem fn_of {CX:CXT}{P:Ac}{w:Ah}{K:Aa}{mg:Str→Option Ag}{base:Heap}{k:Nat}{f:Aj}{name qual:Str}{params:Arguments}{body:List Stmt}{scope:Scope}{dV kV doc pm cdv ct oc:Ag}{an od:Option Aj}
  {osl:Array (Option Ag)} {N ps:List Str} {sp:Sp} (lk:K.lookup f=some ⟨oc,od,.func (PySem.W.fnOf name qual params body scope dV kV doc pm an cdv ct),osl⟩) (hcd:PySem.W.codeIn K cdv qual=true) (S:FnScope N ps scope)
  (len:∀vs H Q E,sp vs H Q E→vs.length=ps.length)
  (hbody:∀(A:Ae) (outer:List Env) (s:Ab) (H:Hp) (vs:List V) (Q:VK) (E:XK),Room k (A.deeper (envOfC qual scope s.heap.objs.size f cdv))→sp vs H Q E →
   ∃t,PSs (Qq CX P w K mg base N qual scope f cdv A outer s H E) body t∧t { nx:=λ_ H'=>Q .non H',rt:=Q } (uc N vs) H) :
  FnOk P w K mg base CX (k+1) f (PySem.W.fnOf name qual params body scope dV kV doc pm an cdv ct) ps sp:=by
 refine ⟨len,λA outer s H args us vs Q E hr e0 hb r hsp=>?_⟩
 have hl:=len _ _ _ _ hsp
 have KX:K.In s.heap:=e0.mod.kin.keeps λb o e=>(e0.bs b o e).1
 have lim:s.heap.NoLimit:=e0.mod.nolimit.keeps λb o e=>(e0.bs b o e).1
 have hkind:∀y∈ps.zip us,scope.names.lookup y.1=some .local∨(scope.names.lookup y.1=some .cell∧((cellsFrom (s.heap.objs.size+1) scope.names []).lookup y.1).isSome=true):=λ⟨n,v⟩ hy=>by
  rcases S.par n (eh hy).1 with q|q
  ·exact .inl q
  ·exact .inr ⟨q,PySem.W.cellsFrom_some _ _ _ (.inl q)⟩
 refine codeAny_call_function hr.depth (KX _ _ lk) rfl S.co S.gen rfl (PySem.W.codeRec_of KX hcd) (hb _ _ _ _ ?_)
 refine wpAny_newFunctionEnv_cells S.kind hkind λenv he s1 x=>?_
 subst he
 refine ⟨lim.keeps x.toInCall.keep,codeAny_func ?_⟩
 obtain ⟨t,ht,hq⟩:=hbody A outer s H vs Q E (hr.deeper _) hsp
 have I:Inv (Qq CX P w K mg base N qual scope f cdv A outer s H E) [] (uc N vs) H s1:=qjf S hr.hd e0 hl r x
 refine aK (ht [] s1 (uc N vs) H _ I hq) (λfl s' hs=>?_) λe s' hs=>hs
 have fin:∀ {σ':St} {H':Hp} {v:V} {u:Ag},Inv (Qq CX P w K mg base N qual scope f cdv A outer s H E) [] σ' H' s'→RelV v u→Q v H'→CE outer P w H s Q u s' :=
  λ{σ' H' v u} J rv q=>⟨v,H',J.os,J.bare,J.base,J.hok,rv,q⟩
 cases fl with
 |ret u =>
  obtain ⟨v,σ',H',J,rv,q⟩:=hs
  exact fin J rv q
 |next =>
  obtain ⟨σ',H',J,q⟩:=hs
  exact fin (v:=V.non) (u:=Value.none) J rfl q
 |brk =>
  obtain ⟨_,_,_,q⟩:=hs
  exact False.elim q
 |cont =>
  obtain ⟨_,_,_,q⟩:=hs
  exact False.elim q
section
variable {X:Cx}{x:Str}{p pos:Pos}{e:Expr}{es:List Expr}{t:TA}{id T:String}{r:List V→Hp→VK→Prop}
def tCB (r:List V→Hp→VK→Prop)(t:TA):TE:=λσ H Q=>t σ H λvs H1=>r vs H1 Q
theorem xq (hc:kf X (.builtin id) r)(hg:Gl X x)(hm:X.mg x=none)(hv:bootBuiltins x=some (.builtin id))(ha:PA X (e::es) t)(hn:x ≠ "__name__" := by decide)(hdb:(x==("__debug__" : Str))=false:=by decide)
  (he:starEach (e::es) X.env=(false,eval e X.env)::starEach es X.env:=by rfl) (hpl:(backTo pos (starEach es X.env)).any (·.1)=false:=by rfl):PE X (.Call (.Name x p) (e::es) [] pos) (tCB r t):=by
 intro pins s σ H Q I h
 refine ca (Yf I hg hm hv ?_ hn hdb)
 exact PyProof.Rows.callWith_builtin1 (thn (ha pos pins s σ H _ I h) λus s1 ⟨vs,H1,I1,r1,q1⟩=>hc pins s1 σ H1 vs us Q I1 r1 q1) he hpl
theorem yb (hc:kf X (.type T) r)(hg:Gl X x)(hm:X.mg x=none)(hv:bootBuiltins x=some (.type T))(ha:PA X (e::es) t)(hn:x ≠ "__name__" := by decide)(hdb:(x==("__debug__" : Str))=false:=by decide)
  (he:starEach (e::es) X.env=(false,eval e X.env)::starEach es X.env:=by rfl) (hpl:(backTo pos (starEach es X.env)).any (·.1)=false:=by rfl):PE X (.Call (.Name x p) (e::es) [] pos) (tCB r t):=by
 intro pins s σ H Q I h
 refine ca (Yf I hg hm hv ?_ hn hdb)
 exact cy (thn (ha pos pins s σ H _ I h) λus s1 ⟨vs,H1,I1,r1,q1⟩=>hc pins s1 σ H1 vs us Q I1 r1 q1) he hpl
end
end L2
namespace HT
open PySem PyProof.Rows
section
open PySem.SeqAt
open PySem.AutoSeq1 (wpAny_loadPart')
open PySem.MeetsSeq PySem.MeetsSeq2 PySem.MeetsSeq3
end
section
variable {prog:Ac}{w:Ah}{A:Ae}{E:Ag→Ab→Prop}{s:Ab}
end
end HT
namespace L2
open PySem PySem.Spec PyProof.Rows
abbrev TO:=St→Hp→(Option Int→Hp→Prop)→Prop
def PO (X:Cx)(e:Option Expr)(t:TO):Prop :=
 ∀(pins:List (Aj×Obj)) (s:Ab) (σ:St) (H:Hp) (Q:Option Int→Hp→Prop),Inv X pins σ H s→t σ H Q →
  wpAny (model X.prog X.w) X.A (evalPart e X.env) (λu s'=>∃o H',Inv X pins σ H' s'∧IsPart u o∧Q o H') X.xe s
def wzq:TO:=λ_ H Q=>Q none H
def tPart (t:TE):TO:=λσ H Q=>t σ H λx H1=>∃i,x=.int i∧Q (some i) H1
theorem qvx {ns:List Int}:∀ {us:List Ag},Vals (ns.map V.int) us→IntsAre us ns:=by
 induction ns with
 |nil=>intro us r;rw [cb] at r;cases r;exact .nil
 |cons n ns ih =>
  intro us r
  rw [aD] at r
  cases r with
  |cons r1 r2 =>
   obtain ⟨t,e⟩:=r1
   subst e
   exact .cons n t (ih r2)
section
variable {X:Cx}{e:Expr}{te:TE}{lo hi:Option Expr}{tl th:TO}{pos p2:Pos}
theorem ww6:PO X none wzq:=by
 intro pins s σ H Q I h
 rw [evalPart_none]
 exact ag ⟨none,H,I,.none,h⟩
theorem ww1 (h:PE X e te):PO X (some e) (tPart te):=by
 intro pins s σ H Q I hw
 rw [evalPart_some]
 refine thn (h pins s σ H _ I hw) λu s1 ⟨x,H1,I1,r1,q1⟩=>?_
 obtain ⟨i,rfl,q⟩:=q1
 obtain ⟨t,rfl⟩:=r1
 exact ⟨some i,H1,I1,.int i t,q⟩
def SlR (X:Cx)(r:V→Option Int→Option Int→Hp→VK→Prop):Prop :=
 ∀(pins:List (Aj×Obj)) (s:Ab) (σ:St) (H:Hp) (x:V) (v vl vu:Ag) (lo hi:Option Int) (sl:Aj) (Q:VK),Inv X pins σ H s→RelV x v→s.heap.IsSliceOf sl vl vu .none→IsPart vl lo→IsPart vu hi→r x lo hi H Q →
  ∃T id,typeLookup (.type T) "__getitem__" = pure (some (.builtin id))∧s.TypeIs v T∧wpAny (model X.prog X.w) X.A (getItem v (.ref sl)) (EP X pins σ Q) X.xe s
def tSl (r:V→Option Int→Option Int→Hp→VK→Prop)(te:TE)(tl th:TO):TE:=λσ H Q=>te σ H λx H1=>tl σ H1 λl H2=>th σ H2 λu H3=>r x l u H3 Q
theorem qub {r:V→Option Int→Option Int→Hp→VK→Prop}(hr:SlR X r)(he:PE X e te)(hl:PO X lo tl)(hu:PO X hi th):PE X (.Subscript e (.Slice lo hi none p2) pos) (tSl r te tl th):=by
 intro pins s σ H Q I h
 refine Subscript_ (thn (he pins s σ H _ I h) λv s1 ⟨x,H1,I1,r1,q1⟩=>?_)
 refine wpAny_Slice (thn (hl pins s1 σ H1 _ I1 q1) λvl s2 ⟨l,H2,I2,pl,q2⟩=>thn (hu pins s2 σ H2 _ I2 q2) λvu s3 ⟨u,H3,I3,pu,q3⟩=>?_)
 rw [evalPart_none]
 refine ag ?_
 have I4:Inv X pins σ H3 { s3 with heap:=s3.heap.push { cls:=.type "slice",data:=.fields #[vl,vu,.none] } }:=I3.kept (t':=s3.toks) λb ob q=>ac _ q
 obtain ⟨T,id,hT,ht,hg⟩:=hr pins { s3 with heap:=s3.heap.push { cls:=.type "slice",data:=.fields #[vl,vu,.none] } } σ H3 x v vl vu l u s3.heap.objs.size Q I4 r1 (Heap.IsSliceOf.new ..) pl pu q3
 show wpAny (model X.prog X.w) X.A (subscriptTail e (.Slice lo hi none p2) v (.ref s3.heap.objs.size)) (EP X pins σ Q) X.xe { s3 with heap:=s3.heap.push { cls:=.type "slice",data:=.fields #[vl,vu,.none] } }
 exact tail_any (ops:=[.ref s3.heap.objs.size,v]) ht hT hg (by with_unfolding_all rfl)
end
def ixN (n:Nat)(i:Int):Option Nat:=if 0≤i then (if i<n then some i.toNat else none) else if -(n:Int)≤i then some (i+n).toNat else none
def atI {α:Type}(xs:List α)(i:Int):Option α:=(ixN xs.length i).bind λj=>xs[j]?
theorem wx1 {n:Nat}{i:Int}{j:Nat}(h:ixN n i=some j):seqIndex? i n=some j∧j<n∧-(n:Int)≤i∧i<n:=by
 unfold ixN at h
 by_cases h0:0≤i
 ·rw [ak h0] at h
  by_cases h1:i<n
  ·rw [ak h1] at h
   have e:i.toNat=j:=av h
   exact ⟨by rw [seqIndex_of h0 h1,e],by lia,by lia,h1⟩
  ·rw [aj h1] at h;cases h
 ·rw [aj h0] at h
  by_cases h1:-(n:Int)≤i
  ·rw [ak h1] at h
   have e:(i+n).toNat=j:=av h
   exact ⟨by rw [seqIndex_neg (by lia) h1,e],by lia,h1,by lia⟩
  ·rw [aj h1] at h;cases h
theorem qwu {α:Type}{xs:List α}{i:Int}{v:α}(h:atI xs i=some v):∃j,seqIndex? i xs.length=some j∧xs[j]?=some v∧j<xs.length∧-(xs.length:Int)≤i∧i<xs.length:=by
 unfold atI at h
 cases e:ixN xs.length i with
 |none=>rw [e] at h;cases h
 |some j =>
  rw [e] at h
  obtain ⟨h1,h2,h3,h4⟩:=wx1 e
  exact ⟨j,h1,h,h2,h3,h4⟩
theorem xt {α:Type}{xs:List α}{j:Nat}{v:α}(h:xs[j]?=some v):atI xs (j:Int)=some v:=by
 have hj:j<xs.length:=(bh.mp h).1
 have e:ixN xs.length (j:Int)=some j:=by
  unfold ixN
  rw [ak (by lia),ak (by lia)];simp
 unfold atI;rw [e];exact h
theorem qys {α:Type}(xs:List α)(v:α):atI (xs++[v]) (-1)=some v:=by
 have hl:(xs++[v]).length=xs.length+1:=by simp
 have e:ixN (xs++[v]).length (-1)=some xs.length:=by
  unfold ixN
  rw [hl,aj (by decide),ak (by lia)]
  congr 1
  lia
 unfold atI
 rw [e]
 show (xs++[v])[xs.length]?=some v
 simp
def wxd (b:Expr):Prop:=∀o i,subscripted b false o i=operate [o,i] (getItem o i)
def IxR (X:Cx)(r:R2):Prop :=
 ∀(value slice:Expr) (pins:List (Aj×Obj)) (s:Ab) (σ:St) (H:Hp) (x y:V) (v u:Ag) (Q:VK),Inv X pins σ H s→RelV x v→RelV y u→r x y H Q →
  subscripted slice false v u=operate [v,u] (getItem v u)→wpAny (model X.prog X.w) X.A (subscriptTail value slice v u) (EP X pins σ Q) X.xe s
def MtR (X:Cx)(id:String)(r:V→List V→Hp→VK→Prop):Prop :=
 ∀(pins:List (Aj×Obj)) (s:Ab) (σ:St) (H:Hp) (x:V) (xs:List V) (v:Ag) (us:List Ag) (Q:VK),Inv X pins σ H s→RelV x v→Vals xs us→r x xs H Q →
  wpAny (model X.prog X.w) X.A (call (.builtin id) (v::us)) (EP X pins σ Q) X.xe s
section
variable {X:Cx}{a b:Expr}{ta tb:TE}{pos:Pos}
theorem xm {r:R2}(hr:IxR X r)(ha:PE X a ta)(hb:PE X b tb)(hs:wxd b):PE X (.Subscript a b pos) (tOp r ta tb):=by
 intro pins s σ H Q I h
 exact Subscript_ (binT ha hb I h λv u s2 x y H2 I2 rx ry q=>hr a b pins s2 σ H2 x y v u Q I2 rx ry q (hs _ _))
def rIxL (K:Aa):R2:=λx y H Q=>∃p xs i v,x=.ref p∧y=.int i∧SqL K H p xs∧atI xs i=some v∧Q v H
def rIxT (K:Aa):R2:=λx y H Q=>∃p xs i v,x=.ref p∧y=.int i∧SqT K H p xs∧atI xs i=some v∧Q v H
def rIxS:R2:=λx y H Q=>∃z i c,x=.str z∧y=.int i∧z.length≤sizeLine∧atI z.cps.toList i=some c∧Q (.str ⟨#[c]⟩) H
theorem xk:IxR X (rIxL X.K):=by
 intro value slice pins s σ H x y v u Q I rx ry h hs
 obtain ⟨p,xs,i,z,rfl,rfl,hq,he,q⟩:=h
 cases rx
 obtain ⟨t,rfl⟩:=ry
 obtain ⟨its,r,pl,hz⟩:=I.list hq
 obtain ⟨j,h1,h2,h3,h4,h5⟩:=qwu he
 obtain ⟨w,ew,rw'⟩:=r.get h2
 have hl:=r.length
 have hn:=Wv
 have fin:EP X pins σ Q w s:=⟨z,H,I,rw',q⟩
 by_cases h0:0≤i
 ·have hj:i.toNat=j:=by
   rw [seqIndex_of h0 h5] at h1
   exact av h1
  exact item_listR pl.isList h0 (by lia) (by rw [hj];simpa using ew) fin hs
 ·have hj:(i+(its.toArray.size:Int)).toNat=j:=by
   rw [seqIndex_neg (by lia) h4] at h1
   rw [aJ,←hl]
   exact av h1
  exact subscriptTail_builtinR (x:=w) pl.isList.typeIs slot_list_getitem.lookup
   (wpAny_getItem_list_neg (Q:=λr s'=>r=w∧EP X pins σ Q r s') pl.isList (by lia) (by rw [aJ] <;> lia) (by lia) (by rw [hj];simpa using ew) ⟨rfl,fin⟩) hs
theorem kj:IxR X (rIxT X.K):=by
 intro value slice pins s σ H x y v u Q I rx ry h hs
 obtain ⟨p,xs,i,z,rfl,rfl,hq,he,q⟩:=h
 cases rx
 obtain ⟨t,rfl⟩:=ry
 obtain ⟨its,r,pl,hz⟩:=I.tuple hq
 obtain ⟨j,h1,h2,h3,h4,h5⟩:=qwu he
 obtain ⟨w,ew,rw'⟩:=r.get h2
 have hl:=r.length
 have hn:=Wv
 have fin:EP X pins σ Q w s:=⟨z,H,I,rw',q⟩
 exact subscriptTail_builtinR (x:=w) pl.typeIs slot_tuple_getitem.lookup
  (getItem_tuple (j:=j) (Q:=λr s'=>r=w∧EP X pins σ Q r s') pl (by lia) (by lia) (by rw [aJ,←hl];exact h1) (by simpa using ew) ⟨rfl,fin⟩) hs
theorem ix_str:IxR X rIxS:=by
 intro value slice pins s σ H x y v u Q I rx ry h hs
 obtain ⟨z,i,c,rfl,rfl,hz,he,q⟩:=h
 obtain ⟨t,rfl⟩:=rx
 obtain ⟨t',rfl⟩:=ry
 obtain ⟨j,h1,h2,h3,h4,h5⟩:=qwu he
 have hl:z.cps.toList.length=z.length:=by simp [Str.length]
 rw [hl] at h1 h4 h5
 have hn:=Wv
 exact tail_any (typeIs_str s z t) slot_str_getitem.lookup (getItem_str (c:=c) (by
  have e1:decide (i < -(2 ^ 63:Int))=false:=aV (by lia)
  have e2:decide (i≥2 ^ 63)=false:=aV (by lia)
  rw [e1,e2,Bool.or_false]) (by rw [h1];simpa using h2) ⟨.str ⟨#[c]⟩,H,I.tok _,⟨_,rfl⟩,q⟩) hs
theorem xf:kf X (.builtin "len") (λxs H Q=>∃p ys,xs=[.ref p]∧(SqL X.K H p ys∨SqT X.K H p ys)∧Q (.int ys.length) H):=by
 intro pins s σ H xs us Q I r h
 obtain ⟨p,ys,rfl,hq,q⟩:=h
 obtain ⟨u,rfl,rx⟩:=yk r
 cases rx
 have hn:=Wv
 rcases hq with hq|hq
 ·obtain ⟨its,r',pl,hz⟩:=I.list hq
  have hlen:=r'.length
  exact Calls.call_len_list pl.isList (by simp only [aJ] <;> lia) ⟨.int ys.length,H,I.tok _,⟨s.toks+1,by rw [aJ,hlen]⟩,q⟩
 ·obtain ⟨its,r',pl,hz⟩:=I.tuple hq
  have hlen:=r'.length
  exact len_tuple pl (by simp only [aJ] <;> lia) ⟨.int ys.length,H,I.tok _,⟨s.toks+1,by rw [aJ,hlen]⟩,q⟩
theorem Qp:kf X (.builtin "len") (λxs H Q=>∃z,xs=[.str z]∧z.length≤sizeLine∧Q (.int z.length) H):=by
 intro pins s σ H xs us Q I r h
 obtain ⟨z,rfl,hz,q⟩:=h
 obtain ⟨u,rfl,t,rfl⟩:=yk r
 have hn:=Wv
 exact len_str (by lia) ⟨.int z.length,H,I.tok _,⟨_,rfl⟩,q⟩
theorem Qg:kf X (.type "list") (λxs H Q=>∃p ys,xs=[.ref p]∧(SqL X.K H p ys∨SqT X.K H p ys)∧∀l,H l=none→Q (.ref l) (upd H l (.lst ys))):=by
 intro pins s σ H xs us Q I r h
 obtain ⟨p,ys,rfl,hq,q⟩:=h
 obtain ⟨u,rfl,rx⟩:=yk r
 cases rx
 have fin:∀(its:List Ag),Vals ys its→ys.length≤sizeLine→∀(h':Heap) (c':Nat),(∀b o',s.heap.get? b=some o'→h'.get? b=some o') →
   h'.get? s.heap.objs.size=some { cls:=.type "list",dict:=none,data:=.seq its.toArray c',slots:=#[] }→EP X pins σ Q (.ref s.heap.objs.size) { s with heap:=h' }:=λits r' hz h' c' kp e =>
  ⟨.ref s.heap.objs.size,_,I.laid (t':=s.toks) kp (af _) (show ObjOk X.prog X.w _ h' _ (.lst ys) from ⟨hz,its,c',r',e⟩),rfl,q _ (I.hok.fresh (af _))⟩
 rcases hq with hq|hq
 ·obtain ⟨its,r',pl,hz⟩:=I.list hq
  have hlen:=r'.length
  obtain ⟨o,ho,hc,n,hd⟩:=pl.isList
  exact call_list_seq p (.inl rfl) ho hc hd (λh' c' kp e=>fin its r' hz h' c' kp e) (by simp only [aJ] <;> lia)
 ·obtain ⟨its,r',pl,hz⟩:=I.tuple hq
  have hlen:=r'.length
  obtain ⟨o,ho,hc,n,hd⟩:=pl
  exact call_list_seq p (.inr rfl) ho hc hd (λh' c' kp e=>fin its r' hz h' c' kp e) (by simp only [aJ] <;> lia)
def tyV (K:Aa)(T:String)(x:V)(H:Hp):Prop:=match x with
 |.str _=>T = "str"
 |.int _=>T = "int"
 |.ref p=>(T = "list" ∧ ∃xs,SqL K H p xs)∨(T = "tuple" ∧ ∃o,K.lookup p=some o∧o.cls=.type "tuple" ∧ o.dict=none) ∨
   (T = "dict" ∧ ((∃kvs,H p=some (.dK kvs))∨∃kvs,H p=some (.dT kvs)))∨(T = "set" ∧ ∃S n,H p=some (.set S n))
 |_=>False
theorem tyV_is {pins:List (Aj×Obj)}{σ:St}{H:Hp}{s:Ab}{T:String}{x:V}{v:Ag}(I:Inv X pins σ H s)(r:RelV x v)(ty:tyV X.K T x H) :
  s.TypeIs v T∧∀a,v=.ref a→∃ob,s.heap.get? a=some ob∧ob.dict=none:=by
 cases x with
 |str z =>
  obtain ⟨t,rfl⟩:=r
  cases (show T = "str" from ty)
  exact ⟨typeIs_str s z t,λ_ e=>nomatch e⟩
 |int i =>
  obtain ⟨t,rfl⟩:=r
  cases (show T = "int" from ty)
  exact ⟨typeIs_int s i t,λ_ e=>nomatch e⟩
 |ref p =>
  cases r
  rcases ty with ⟨rfl,xs,hq⟩|⟨rfl,o,hk,hc,hd⟩|⟨rfl,hk⟩|⟨rfl,S,n,hk⟩
  ·obtain ⟨its,_,pl,_⟩:=I.list hq
   refine ⟨pl.isList.typeIs,λa e=>?_⟩
   cases e
   obtain ⟨o,n,e,c,hd,_⟩:=pl
   exact ⟨o,e,hd⟩
  ·refine ⟨⟨o,I.kIn p o hk,hc⟩,λa e=>?_⟩
   cases e
   exact ⟨o,I.kIn _ o hk,hd⟩
  ·have z:∃o,s.heap.get? p=some o∧o.ExactDict:=by
    rcases hk with ⟨kvs,hk⟩|⟨kvs,hk⟩
    ·obtain ⟨_,_,_,_,o,_,_,e,ex,_⟩:=I.hok p _ hk
     exact ⟨o,e,ex⟩
    ·obtain ⟨_,_,_,_,o,_,_,e,ex,_⟩:=I.hok p _ hk
     exact ⟨o,e,ex⟩
   obtain ⟨o,e,ex⟩:=z
   refine ⟨⟨o,e,ex.1⟩,λa e2=>?_⟩
   cases e2
   exact ⟨o,e,ex.2.1⟩
  ·obtain ⟨o,_,_,_,e,ex,_⟩:=I.hok p _ hk
   refine ⟨⟨o,e,ex.1⟩,λa e2=>?_⟩
   cases e2
   exact ⟨o,e,ex.2.1⟩
 |_=>exact False.elim ty
def tBM (K:Aa)(T:String)(r:V→List V→Hp→VK→Prop)(to:TE)(t:TA):TE:=λσ H Q=>to σ H λx H1=>tyV K T x H1∧t σ H1 λxs H2=>r x xs H2 Q
variable {o e:Expr}{es:List Expr}{to:TE}{t:TA}{name:Str}{apos cpos:Pos}{T id:String}{r:V→List V→Hp→VK→Prop}
theorem qxk (pa:PlainAttrs T)(slot:Slot T name id)(hty:typeOf (.builtin id)=pure (.type "method_descriptor"))(hm:MtR X id r)(ho:PE X o to)(ha:PA X (e::es) t)
  (hbase:attributeBase o name X.env (eval o X.env)=eval o X.env:=by rfl)
  (hfew:((backTo cpos (starEach (e::es) X.env)).all (λx=>!x.1)&&(backToKw cpos (keywordEach [] X.env)).all (λx=>x.1.isSome)
   && decide ((e::es).length+([]:List Keyword).length+(if ([]:List Keyword).isEmpty then 0 else 1)<30))=true:=by rfl)
  (hline:(apos.endLine==cpos.line)=true:=by rfl) (hs:starEach (e::es) X.env=(false,eval e X.env)::starEach es X.env:=by rfl) (hplain:(backTo cpos (starEach es X.env)).any (·.1)=false:=by rfl) :
  PE X (.Call (.Attribute o name apos) (e::es) [] cpos) (tBM X.K T r to t):=by
 intro pins s σ H Q I h
 refine wpAny_Call_method_late hbase hfew hline rfl (thn (ho pins s σ H _ I h) λv s1 ⟨x,H1,I1,r1,ty,q1⟩=>?_)
 obtain ⟨h1,h2⟩:=tyV_is I1 r1 ty
 refine ⟨T,id,pa,slot,hty,h1,h2,?_⟩
 have hA:=ha cpos pins s1 σ H1 _ I1 q1
 rw [hs] at hA ⊢
 refine ce (by show (false||(backTo cpos (starEach es X.env)).any (·.1))=false;rw [hplain] <;> rfl) (cz ?_)
 exact thn hA λus s2 ⟨vs,H2,I2,r2,q2⟩=>hm pins s2 σ H2 x vs v us Q I2 r1 r2 q2
end
def MtM (X:Cx)(id:String)(r:V→List V→Hp→VK→Prop):Prop :=
 ∀(pins:List (Aj×Obj)) (s:Ab) (σ:St) (H:Hp) (x:V) (xs:List V) (v:Ag) (us:List Ag) (Q:VK),Inv X pins σ H s→RelV x v→Vals xs us→r x xs H Q →
  wpAny (model X.prog X.w) X.A (call (.builtin id) (v::us)) (EP X pins σ Q) X.xe s
theorem Vals.one:∀ {x:V} {us:List Ag},Vals [x] us→∃u,us=[u]∧RelV x u
 |_,_,.cons r .nil=>⟨_,rfl,r⟩
section
variable {X:Cx}{pins:List (Aj×Obj)}{σ:St}{H:Hp}{s:Ab}{l b:Aj}{xs ys zs:List V}
theorem Inv.lset {its its':List Ag}{n:Nat}{f:Array Ag→Array Ag}{t':Nat}(I:Inv X pins σ H s)(hH:H l=some (.lst xs))
  (e:s.heap.get? l=some { cls:=.type "list",data:=.seq its.toArray n }) (hf:f its.toArray=its'.toArray) (hv:Vals ys its') (hz:ys.length≤sizeLine) :
  Inv X pins σ (upd H l (.lst ys)) { s with heap:=s.heap.update l (Obj.mapSeq f),toks:=t' }:=by
 have q:=PySem.IsL.update e f
 rw [hf] at q
 refine I.write (x:=l) (e:=l) (by rw [hH];exact trivial) (.inl rfl) (λb' u hb hu=>(Heap.get?_update_other s.heap (Obj.mapSeq f) (bg hb)).trans hu) ⟨_,q⟩ ?_
 exact ⟨hz,its',_,hv,q⟩
theorem Inv.lstM (I:Inv X pins σ H s)(hH:H l=some (.lst xs)):xs.length≤sizeLine∧∃(its:List Ag) (n:Nat),Vals xs its∧xs.length=its.length∧s.heap.get? l=some { cls:=.type "list",data:=.seq its.toArray n }:=by
 obtain ⟨z,its,n,r,e⟩:=I.hok l _ hH
 exact ⟨z,its,n,r,r.length,e⟩
end
section
variable {X:Cx}
def ww0:V→List V→Hp→VK→Prop:=λx vs H Q=>∃l xs y,x=.ref l∧vs=[y]∧H l=some (.lst xs)∧xs.length<sizeLine∧Q .non (upd H l (.lst (xs++[y])))
theorem vh:MtM X "list.append" ww0:=by
 intro pins s σ H x vs v us Q I rx rv h
 obtain ⟨l,xs,y,rfl,rfl,hH,hz,q⟩:=h
 cases rx
 obtain ⟨u,rfl,ru⟩:=rv.one
 obtain ⟨z,its,n,r,hl,e⟩:=I.lstM hH
 refine call_meets F.slot_list_append ⟨_,e,rfl⟩ F.entry_list_append (F.args_list_append_2 _ _) (PySem.list_append l its.toArray n u (by rw [aJ];lia)) ⟨e,?_⟩
 refine ⟨.non,_,I.lset (its':=its++[u]) hH e (by simp) (r.append (.cons ru .nil)) ?_,rfl,q⟩
 rw [aU,List.length_singleton]
 lia
end
section
variable {prog:Ac}{w:Ah}{A:Ae}{E:Ag→Ab→Prop}{s:Ab}
end
section
variable {X:Cx}
end
end L2
namespace Att
open PySem PySem.W PySem.Calls PyProof.Rows
theorem Wg {P:Params}{h:Heap}:∀(ns:List Int) (vs:List Ag),WellAll P h vs (ns.map WData.int)→IntsAre vs ns:=by
 intro ns
 induction ns with
 |nil =>
  intro vs w
  rw [cb] at w
  cases w
  exact .nil
 |cons n ns ih =>
  intro vs w
  rw [aD] at w
  cases w with
  |cons a b =>
   cases a
   exact .cons _ _ (ih _ b)
theorem qjh {l:OpenLaw}{n:Nat}(hn:l.most=some n){P:Params}{h:Heap}{args:List WData}{vals:List Ag}
  (hpre:l.row.toRowW.claim.pre args=true) (hwl:WellAll P h vals args) :
  ∃a vs ns,vals=[Value.ref a]∧args=[WData.list (ns.map WData.int)]∧h.get? a=some { cls:=.type "list",data:=.seq vs.toArray }∧IntsAre vs ns∧ns.length≤n:=by
 have hsh:WShape.hasAll [] args [.list .int]=true:=(pre_splitW hpre).1
 have hc:l.pre.holds [] { args:=args }=true:=(pre_splitW hpre).2
 obtain ⟨d,r,rfl,h1,h2⟩:=hasAllW_cons hsh
 obtain rfl:=hasAllW_nil h2
 obtain ⟨xs,rfl,h3⟩:=hasW_list h1
 obtain ⟨ns,rfl⟩:=items_int h3
 have hlen:ns.length≤n:=by
  unfold OpenLaw.pre at hc
  have h4:(WTm.not (.lt (.lit (.int (n:Int))) (.len (.arg 0)))).holds [] { args:=[.list (ns.map .int)] }=true:=by
   have h4:=(holds_andW hc).1
   rw [hn] at h4
   exact h4
  have h5:=condW_of h4 (w_not (w_lt w_lit (w_len_list (w_arg rfl))))
  rw [ae] at h5
  refine Nat.le_of_not_lt λq=>?_
  have q':(n:Int)<((ns.length:Nat):Int):=by lia
  first
   |(rw [aP q'] at h5;exact absurd h5 (by decide))
   |(simp at h5;lia)
 cases hwl with
 |cons w1 w2 =>
  cases w2
  cases w1 with
  |list ho hall=>exact ⟨_,_,ns,rfl,rfl,ho,Wg ns _ hall,hlen⟩
theorem qjj (l:OpenLaw)(args:List WData):l.row.toRowW.claim.post args (.bool true) args=true :=
 postW_of (r:=l.row.toRowW) (X:=(true==true))
  (show WShape.has [] (.bool true) .bool=true by first | rfl | decide | simp [WShape.has,WShape.arms,WShape.armsAll])
  (show (WTm.eq .res (.lit (.bool true))).value [] { args:=args,res:=some (.bool true),after:=args }=some (.bool (true==true)) from w_eq_bool (w_res rfl) w_lit) rfl
theorem attach_call {l:OpenLaw}{n:Nat}{q:Ac}{loose:List Str}{XP:(Str→Option Ag)→Heap→Prop}{YP:Ah→Heap→Prop}{d:DefRec}
  (hn:l.most=some n) (hdf:d.params.defaults=[])
  (call:∀(w:Ah) (s₀ s₁:Ab) (mg mb:Str→Option Ag) (fa:Aj) (o:Obj) (pm cd doc:Ag) (a:Aj) (vs:List Ag) (ns:List Int),
   Ground q loose [] XP w s₀ mg mb s₁.heap→YP w s₁.heap →
   s₁.heap.get? fa=some o→o.data=.func (docDef d.name d.params d.body d.scope pm cd doc)→s₁.heap.CodeRec cd d.name→mg d.name=some (.ref fa) →
   s₁.heap.get? a=some { cls:=.type "list",data:=.seq vs.toArray }→IntsAre vs ns→ns.length≤n→s₁.gens=#[] →
   codeAny (model l.prog w) callerA (.call (.ref fa) ⟨[.ref a],[]⟩) (λr s'=>r=.ok (.ret (.bool true))∧OldK s₁.heap s'.heap∧s'.os=s₁.os∧AllBare s'.gens) s₁) :
  WalkO q loose XP YP l.row.toRowW d [] (λf vs=>PySem.call f vs):=by
 intro w s₀ s₁ mg mb G Y fa o pm cd doc dV kV ho hd hcd hD hmg hg args vals as hpre hlay hrd hwl hlo
 obtain rfl:dV=.none:=Dflts.none hD hdf
 obtain rfl:kV=.none:=Dflts.noKw hD
 obtain ⟨a,vs,ns,rfl,rfl,hobj,hints,hlen⟩:=qjh hn hpre hwl
 refine enter_call (dB (call w s₀ s₁ mg mb fa o pm cd doc a vs ns G Y ho (fd_plain hd) hcd hmg hobj hints hlen hg) λr s' hq=>?_)
 obtain ⟨rfl,h2,h3,h4⟩:=hq
 exact ⟨.inl ⟨.bool true,.bool true,[],rfl,λ_=>rfl,.bool true,qjj l _,λ_=>⟨List.Pairwise.nil,λ_ hm=>(nomatch hm)⟩⟩,h2,h3,h4⟩
section
variable {prog:Ac}{w:Ah}{A:Ae}{E:Ag→Ab→Prop}{s:Ab}{K:Frag}
end
end Att
namespace L2
open PySem PySem.Spec PyProof.Rows
theorem qqj:∀ {vs:List Ag} {ns:List Int},IntsAre vs ns→Vals (ns.map V.int) vs
 |_,_,.nil=>.nil
 |_,_,.cons n t h=>.cons ⟨t,rfl⟩ (qqj h)
def Only (H:Hp):Prop:=∀b,H b=none∨∃o xs,H b=some (.frz o (.lst xs))
theorem wq0 {P:Ac}{w:Ah}{K:Aa}{mg mb:Str→Option Ag}{CX:CXT}{k:Nat}{fa a:Aj}{fd:Ad}{x:Str}{sp:Sp}{s₁:Ab}{vs:List Ag}{ns:List Int}
  (KX:K.In s₁.heap) (hns:s₁.heap.Ns mainGlobals mg) (hb:s₁.heap.Ns builtinsNs mb) (hbb:∀x:Str,x ≠ "__name__" → mb x=bootBuiltins x) (hlim:s₁.heap.NoLimit) (hg:s₁.gens=#[])
  (ha:s₁.heap.get? a=some { cls:=.type "list",data:=.seq vs.toArray }) (hi:IntsAre vs ns) (hl:ns.length≤sizeLine) (hr:Room k callerA)
  (F:∀base:Heap,K.In base→base.Ns mainGlobals mg→FnOk P w K mg base CX k fa fd [x] sp) (hbind:∀(s:Ab) (u:Ag),BindsTo s fd ⟨[u],[]⟩ [(x,u)])
  (hsp:∀H:Hp,Only H→SqL K H a (ns.map V.int)→sp [.ref a] H (λv _=>v=.bl true) λ_ _ _=>False)
  (hCX:∀H e s',CX [] H s₁ (λ_ _ _=>False) e s'→False) :
  codeAny (model P w) callerA (.call (.ref fa) ⟨[.ref a],[]⟩) (λr s'=>r=.ok (.ret (.bool true))∧OldK s₁.heap s'.heap∧s'.os=s₁.os∧AllBare s'.gens) s₁:=by
 have rv:=qqj hi
 have lenV:=hi.length
 have core:∀H:Hp,Only H→SqL K H a (ns.map V.int)→HOk P w H s₁.heap→(∀b,H b≠none→b=a)→(H a≠none→K.lookup a=none) →
   codeAny (model P w) callerA (.call (.ref fa) ⟨[.ref a],[]⟩) (λr s'=>r=.ok (.ret (.bool true))∧OldK s₁.heap s'.heap∧s'.os=s₁.os∧AllBare s'.gens) s₁:=by
  intro H hO hS hok hA hK
  have base_of:∀ {b:Aj} {o:Obj},s₁.heap.get? b=some o→H b=none→(qwp s₁.heap H).get? b=some o:=λe n=>wqh e n
  have noA:∀ {b:Aj} {o:Obj} {es:Array DictEntry} {ep:Nat},s₁.heap.get? b=some o→o.data=.dict es ep→H b=none:=λ{b o es ep} e d=>by
   cases q:H b with
   |none=>rfl
   |some u =>
    have e':b=a:=hA b (by rw [q];simp)
    subst e'
    rw [ha] at e;cases e
    have d':Data.seq vs.toArray _=Data.dict es ep:=d
    cases d'
  have nsK:∀ {b:Aj} {m:Str→Option Ag},s₁.heap.Ns b m→(qwp s₁.heap H).Ns b m:=λ{b m} ⟨o,es,ep,e,d,r⟩=>⟨o,es,ep,base_of e (noA e d),d,r⟩
  have hKb:K.In (qwp s₁.heap H):=λb o e=>base_of (KX b o e) (by
   cases q:H b with
   |none=>rfl
   |some u =>
    have e':b=a:=hA b (by rw [q];simp)
    subst e'
    rw [hK (by rw [q];simp)] at e;cases e)
  have hM:Mod K mg (qwp s₁.heap H):=⟨hKb,nsK hns,⟨mb,nsK hb,hbb⟩,let ⟨mc,h1,h2⟩:=hlim;⟨mc,nsK h1,h2⟩⟩
  have e0:Env0 P w K mg (qwp s₁.heap H) callerA [] s₁ H:=⟨rfl,hM,λb o e=>wx8 e,Nat.le_of_eq (qjn _ _),trivial,λb hb=>absurd (show b∈([]:List Aj) from hb) (by simp),hok,.of_eq hg⟩
  refine dB ((F _ hKb (nsK hns)).run callerA [] s₁ H ⟨[.ref a],[]⟩ [.ref a] [.ref a] _ _ hr e0 (hbind s₁ (.ref a)) (.cons rfl .nil) (hsp H hO hS)) λr s' h=>?_
  cases r with
  |error e=>exact (hCX H e s' h).elim
  |ok fl =>
   cases fl with
   |next=>exact False.elim h
   |brk=>exact False.elim h
   |cont=>exact False.elim h
   |ret u =>
    obtain ⟨v,H',os,bare,un,hok',r',q⟩:=h
    have q':v=.bl true:=q
    subst q'
    obtain rfl:u=Value.bool true:=r'
    refine ⟨rfl,OldK.of_keep λb o e=>?_,os,bare⟩
    cases q:H b with
    |none=>exact un.keep b o e q (by intro z;exact absurd (show b∈([]:List Aj) from z) (by simp)) (by simp)
    |some u =>
     rcases hO b with z|⟨ob,xs,z⟩
     ·rw [q] at z;cases z
     ·have z2:=un.frzs b ob _ z
      obtain ⟨e1,_⟩:=hok b _ z
      obtain ⟨e2,_⟩:=hok' b _ z2
      rw [e] at e1;cases e1
      exact e2
 cases hk:K.lookup a with
 |some o =>
  have e:=KX a o hk
  rw [ha] at e
  cases e
  refine core (λ_=>none) (λ_=>.inl rfl) (.inr ⟨_,vs.toArray,_,hk,rfl,rfl,rfl,by rw [aJ,lenV];exact hl,by simpa using rv⟩) (λb u z=>by have z':(none:Option HO)=some u:=z;cases z') (λb z=>absurd rfl z) λz=>absurd rfl z
 |none =>
  refine core (λb=>if b=a then some (.frz { cls:=.type "list",data:=.seq vs.toArray } (.lst (ns.map V.int))) else none) (λb=>?_) (.inl (.inr ⟨{ cls:=.type "list",data:=.seq vs.toArray },ak rfl⟩)) (λb u z=>?_) (λb z=>?_) λ_=>hk
  ·by_cases hb:b=a
   ·exact .inr ⟨_,_,ak hb⟩
   ·exact .inl (aj hb)
  ·by_cases hb:b=a
   ·have z':=(ak hb).symm.trans z
    cases z'
    subst hb
    exact ⟨ha,by rw [ae];exact hl,vs,_,rv,ha⟩
   ·have z':=(aj hb).symm.trans z
    cases z'
  ·by_cases hb:b=a
   ·exact hb
   ·exact absurd (aj hb) z
theorem wx9 {l:PySem.W.OpenLaw}{n k:Nat}{q:Ac}{loose:List Str}{XP:(Str→Option Ag)→Heap→Prop}{YP:Ah→Heap→Prop}{d:DefRec}{K:Params→Aa}{CX:Ah→CXT}{sp:Ah→Sp}{x:Str}
  (hn:l.most=some n) (hn2:n≤sizeLine) (hdf:d.params.defaults=[]) (hr:Room k callerA)
  (hY:∀(w:Ah) (h:Heap),YP w h→(K w.params).In h)
  (F:∀(w:Ah) (mg:Str→Option Ag) (fa:Aj) (h:Heap),(K w.params).In h→h.Ns mainGlobals mg→mg d.name=some (.ref fa) →
   ∃fd:Ad,(∀(s:Ab) (u:Ag),BindsTo s fd ⟨[u],[]⟩ [(x,u)]) ∧
    ∀base:Heap,(K w.params).In base→base.Ns mainGlobals mg→FnOk l.prog w (K w.params) mg base (CX w) k fa fd [x] (sp w))
  (hsp:∀(w:Ah) (H:Hp) (a:Aj) (ns:List Int),ns.length≤n→Only H→SqL (K w.params) H a (ns.map V.int)→sp w [.ref a] H (λv _=>v=.bl true) λ_ _ _=>False)
  (hCX:∀(w:Ah) (H:Hp) (s:Ab) (e:Ag) (s':Ab),CX w [] H s (λ_ _ _=>False) e s'→False) :
  PySem.W.WalkO q loose XP YP l.row.toRowW d [] (λf vs=>PySem.call f vs):=by
 refine Att.attach_call hn hdf λw s₀ s₁ mg mb fa o pm cd doc a vs ns G Y ho hd hcd hmg hobj hints hlen hg=>?_
 have KX:=hY w _ Y
 obtain ⟨fd,hb,hF⟩:=F w mg fa _ KX G.T.g hmg
 exact wq0 KX G.T.g G.T.b G.T.builtins G.T.nolimit hg hobj hints (br hlen hn2) hr hF hb (λH hO hS=>hsp w H a ns hlen hO hS) λH e s'=>hCX w H s₁ e s'
def zc (s:Stmt)(j:Nat):Stmt:=match s with
 |.ClassDef _ _ _ body _ _ _ _ _ _ _=>body.getD j (.Pass ⟨0,0,0,0⟩)
 |_=>.Pass ⟨0,0,0,0⟩
def vc (s:Stmt):Arguments:=match s with
 |.FunctionDef _ a _ _ _ _ _ _ _ _=>a
 |_=>{ posonlyargs:=[],args:=[],vararg:=none,kwonlyargs:=[],kw_defaults:=[],kwarg:=none,defaults:=[] }
def wz (s:Stmt):List Stmt:=match s with
 |.FunctionDef _ _ b _ _ _ _ _ _ _=>b
 |_=>[]
def wb (s:Stmt):Scope:=match s with
 |.FunctionDef _ _ _ _ _ _ sc _ _ _=>sc
 |_=>{ kind:=.function,names:=[],isGenerator:=false,isCoroutine:=false }
abbrev E0:XK:=λ_ _ _=>False
structure Fun (K:Aa)(x qual:Str)(st:Stmt)(f:Aj)(fd:Ad):Prop where
 ex:∃(oc:Ag) (od:Option Aj) (kV doc pm:Ag) (an:Option Aj) (cdv ct:Ag) (osl:Array (Option Ag)),
  fd=PySem.W.fnOf x qual (vc st) (wz st) (wb st) .none kV doc pm an cdv ct∧K.lookup f=some ⟨oc,od,.func fd,osl⟩∧PySem.W.codeIn K cdv qual=true
 kp:PySem.W.keepIn K (.ref f)=true
section
variable {P:Ac}{w:Ah}{K:Aa}{mg:Str→Option Ag}{base:Heap}
theorem Fun.binds {x qual:Str}{st:Stmt}{f:Aj}{fd:Ad}{ps:List Str}(F:Fun K x qual st f fd)
  (h:∀(kV doc pm:Ag) (an:Option Aj) (cdv ct:Ag) (us:List Ag),us.length=ps.length→bindArgs (PySem.W.fnOf x qual (vc st) (wz st) (wb st) .none kV doc pm an cdv ct) ⟨us,[]⟩=pure (ps.zip us)):Binds K fd ps []:=by
 obtain ⟨oc,od,kV,doc,pm,an,cdv,ct,osl,rfl,lk,hcd⟩:=F.ex
 exact .all (h kV doc pm an cdv ct)
theorem qu5 {x qual:Str}{st:Stmt}{f:Aj}{oc:Ag}{od an:Option Aj}{osl:Array (Option Ag)}{kV doc pm cdv ct:Ag}(l:K.lookup f=some ⟨oc,od,.func (PySem.W.fnOf x qual (vc st) (wz st) (wb st) .none kV doc pm an cdv ct),osl⟩)
  (c:PySem.W.codeIn K cdv qual=true) (k:PySem.W.keepIn K (.ref f)=true):Fun K x qual st f (PySem.W.fnOf x qual (vc st) (wz st) (wb st) .none kV doc pm an cdv ct):=⟨⟨oc,od,kV,doc,pm,an,cdv,ct,osl,rfl,l,c⟩,k⟩
end
theorem vf {A:Ae}{k:Nat}(hr:Room k A):A.units+1<cLine:=cO (Nat.add_le_add_left (by decide:1≤64) _) hr.units
theorem qjg {n:Nat}(h:n≤1000):n<sizeLine:=cO h (by decide)
section
variable {X:Cx}
theorem pv (i:Nat){x:Str}{pos:Pos}(hN:X.N[i]?=some x:=by rfl)(hv:Vis X.env.scope x:=by first | exact Or.inl rfl | exact Or.inr (Or.inl rfl) | exact Or.inr (Or.inr rfl))(hd:(x==("__debug__" : Str))=false:=by decide)
  (hcd:(x==("__classdict__" : Str))=false:=by decide):PE X (.Name x pos) (uh i):=pe_var hN hv hd hcd
end
theorem yw {A B:Prop}(h:B):if false=true then A else B:=by
 rw [aj aA]
 exact h
theorem jt {A B:Prop}(h:A):if true=true then A else B:=by
 rw [ak rfl]
 exact h
def Same (H H':Hp):Prop:=∀b o,H b=some o→H' b=some o
theorem Same.refl (H:Hp):Same H H:=λ_ _ h=>h
theorem Same.trans {H H1 H2:Hp}(a:Same H H1)(b:Same H1 H2):Same H H2:=λc o h=>b c o (a c o h)
theorem Same.seq {K:Aa}{H H':Hp}{a:Aj}{xs:List V}(e:Same H H')(h:SqL K H a xs):SqL K H' a xs:=by
 rcases h with (h|⟨o,h⟩)|h
 ·exact .inl (.inl (e _ _ h))
 ·exact .inl (.inr ⟨o,e _ _ h⟩)
 ·exact .inr h
set_option maxHeartbeats 4000000
theorem nin {b:Aj}:b∉([]:List Aj):=λz=>nomatch z
theorem wx0 {K:Aa}{h:Heap}{C:Aj}{bmB:List Ag}{newId:String}(X:K.In h)(q:PySem.W.excIn K C bmB newId=true) :
  ∃tl N a1 a2 a3 a4 a5 a6 a7 a8 a9 b0 b1 b2 b3 b5 mN,h.get? C=some (excClassObj a1 a2 C N a3 tl a4 a5 a6 a7 a8 a9 b0 b1 b2 b3 b5 newId) ∧
   h.Ns N mN∧mN "__init__" = none∧OwnTail h bmB tl:=by
 unfold PySem.W.excIn at q
 split at q
 ·next dd cd sl ho =>
  split at q
  ·next C1 tl x0 x1 x2 x3 nn x5 hm hs =>
   rw [aW,aW,aW,aW,aW] at q
   obtain ⟨⟨⟨⟨⟨p1,p2⟩,p3⟩,p4⟩,p5⟩,p6⟩:=q
   have p1':=eq_of_beq p1
   have p2':=eq_of_beq p2
   have p6':=eq_of_beq p6
   have p3':cd.hasDel=false:=by simpa using p3
   subst p1' p2'
   obtain ⟨f1,f2,f3,f4,f5,f6,f7,f8,f9,f10,f11⟩:=cd
   have hm':f3=Value.ref C1::tl:=hm
   have p3'':f11=false:=p3'
   subst hm' p3''
   have hsl:sl=#[x0,x1,x2,x3,some (.builtin nn),x5]:=by
    cases sl with
    |mk l =>
     have:l=[x0,x1,x2,x3,some (.builtin nn),x5]:=hs
     rw [this]
   subst hsl
   have nsok:=PySem.W.isNs_of_in X p5
   exact ⟨tl,f4,f1,f5,f2,f6,f7,f8,f9,f10,dd,x0,x1,x2,x3,x5,_,X _ _ ho,.of_isNs nsok,PySem.W.nsMap_none_of_in X p5 p6',PySem.W.tail_of_in X p4⟩
  ·exact absurd q (by decide)
 ·exact absurd q (by decide)
def CXE (P:Ac)(w:Ah):CXT:=λouter H s E e s' =>
 ∃(a C:Aj) (a0:Ag) (B:Heap) (H':Hp),e=.ref a∧s'.os=s.os∧AllBare s'.gens∧Un (frs outer) [] H H' s.heap s'.heap∧HOk P w H' B ∧
  Heap.FlyingW B outer a (.ref C) a0 s'.heap∧(∀b o,s.heap.get? b=some o→b∉frs outer→∃o',B.get? b=some o'∧(H b=none→o'=o))∧E (.ref C) none H'
theorem CXE.no {P:Ac}{w:Ah}{outer:List Env}{H:Hp}{s s':Ab}{e:Ag}(h:CXE P w outer H s E0 e s'):False:=by
 obtain ⟨_,_,_,_,_,_,_,_,_,_,_,_,q⟩:=h
 exact q
def k7 (X:Cx)(E:St→XK):Prop:=∀(pins:List (Aj×Obj)) (σ:St) (H:Hp) (s:Ab) (e:Ag) (s':Ab),Inv X pins σ H s→CXE X.prog X.w X.stack H s (E σ) e s'→X.xe e s'
theorem quh {X:Cx}:k7 X (λ_=>E0):=λ_ _ _ _ _ _ _ h=>h.no.elim
def qu6 (X:Cx)(E:St→XK):Prop:=∀(pins:List (Aj×Obj)) (σ:St) (H:Hp) (s:Ab) (h':Heap) (e C:Aj) (vs:List Ag),Inv X pins σ H s→Heap.MadeExcOf s.heap h' e (.ref C) vs→E σ (.ref C) none H→X.xe (.ref e) { s with heap:=h' }
theorem qzb {env:Env}{L:Aj}{outer:List Env}(h:env.frame=some L):frs (env::outer)=L::frs outer:=by
 unfold frs
 rw [cF,h]
section
variable {P:Ac}{w:Ah}{K:Aa}{mg:Str→Option Ag}{base:Heap}{N:List Str}{qual:Str}{scope:Scope}{f:Aj}{cdv:Ag}{A:Ae}{outer:List Env}{s0:Ab}{H0:Hp}{E:XK}
theorem qf:k7 (Qq (CXE P w) P w K mg base N qual scope f cdv A outer s0 H0 E) (λ_=>E):=by
 intro pins σ H s e s' I hx
 obtain ⟨a,C,a0,B,H',rfl,hos,hba,un,hokB,hfl,old,q⟩:=hx
 have ub:=I.base
 have hL:∀b o,s0.heap.get? b=some o→b≠s0.heap.objs.size:=λb o e z=>aX _ (z▸ai e)
 have hfs:frs (envOfC qual scope s0.heap.objs.size f cdv::outer)=s0.heap.objs.size::frs outer:=qzb rfl
 have hmem:∀b o,s0.heap.get? b=some o→b∉frs outer→b∉frs (envOfC qual scope s0.heap.objs.size f cdv::outer):=λb o e n=>by
  rw [hfs]
  intro z
  rcases aq.mp z with z|z
  ·exact hL b o e z
  ·exact n z
 have hold:∀b o,s0.heap.get? b=some o→b∉frs outer→∃o',B.get? b=some o'∧(H0 b=none→o'=o):=λb o e n=>by
  obtain ⟨o1,e1⟩:=ub.there b o e nin
  obtain ⟨o2,e2,e3⟩:=old b o1 e1 (hmem b o e n)
  refine ⟨o2,e2,λz=>?_⟩
  have e4:=ub.keep b o e z n nin
  have e5:=ub.free b o e z nin
  rw [e1] at e4
  rw [e3 e5]
  exact av e4
 refine wpAny_leaves_onW I.ok.frames rfl hfl λh' hf' hup=>?_
 have toH:∀b,b∈frs outer→∀o,s0.heap.get? b=some o→H0 b=none→∃sl,h'.get? b=some { o with slots:=sl }:=λb hb o e n=>by
  obtain ⟨sl,e1⟩:=ub.slot b o e n hb nin
  obtain ⟨sl2,e2⟩:=un.slot b _ e1 (ub.free b o e n nin) (by show b∈frs (envOfC qual scope s0.heap.objs.size f cdv::outer);rw [hfs];exact .tail _ hb) nin
  obtain ⟨_,o3,e3,nf⟩:=hfl.2.2.1.mem (b:=b) (by show b∈frs (envOfC qual scope s0.heap.objs.size f cdv::outer);rw [hfs];exact .tail _ hb)
  obtain ⟨sl4,e4⟩:=hup b o3 e3 nf
  rw [e2] at e3
  have e5:=av e3
  exact ⟨sl4,by rw [e4,←e5]⟩
 refine ⟨a,C,a0,B,H',rfl,hos.trans I.os,hba,⟨λb o e n nb _=>?_,λb o e n hb _=>toH b hb o e n,λb o e n _=>?_,λb o e _=>?_,λb xs e=>un.tups b xs (ub.tups b xs e),λb o u e=>un.frzs b o u (ub.frzs b o u e),λb ps e=>?_⟩,hokB,hf',hold,q⟩
 ·obtain ⟨o',e1,e2⟩:=hold b o e nb
  rw [e2 n] at e1
  exact hf'.1 b o e1
 ·obtain ⟨o1,e1⟩:=ub.there b o e nin
  exact un.free b o1 e1 (ub.free b o e n nin) nin
 ·by_cases hb:b∈frs outer
  ·obtain ⟨o1,e1⟩:=ub.there b o e nin
   obtain ⟨o2,e2⟩:=un.there b o1 e1 nin
   obtain ⟨_,o3,e3,nf⟩:=hfl.2.2.1.mem (b:=b) (by show b∈frs (envOfC qual scope s0.heap.objs.size f cdv::outer);rw [hfs];exact .tail _ hb)
   obtain ⟨sl4,e4⟩:=hup b o3 e3 nf
   exact ⟨_,e4⟩
  ·obtain ⟨o',e1,_⟩:=hold b o e hb
   exact ⟨o',hf'.1 b o' e1⟩
 ·obtain ⟨m1,e1⟩:=ub.tbls b ps e
  obtain ⟨m2,e2⟩:=un.tbls b _ e1
  exact ⟨m1++m2,by rw [e2,Array.append_assoc]⟩
theorem zu:qu6 (Qq (CXE P w) P w K mg base N qual scope f cdv A outer s0 H0 E) (λ_=>E):=by
 intro pins σ H s h' e C vs I hx q
 have ub:=I.base
 have hfs:frs (envOfC qual scope s0.heap.objs.size f cdv::outer)=s0.heap.objs.size::frs outer:=qzb rfl
 have hmem:∀b o,s0.heap.get? b=some o→b∉frs outer→b∉frs (envOfC qual scope s0.heap.objs.size f cdv::outer):=λb o e n=>by
  rw [hfs]
  intro z
  rcases aq.mp z with z|z
  ·exact aX _ (z▸ai e)
  ·exact n z
 have hfree:∀b∈frs (envOfC qual scope s0.heap.objs.size f cdv::outer),H b=none:=I.stkFree
 have hB:∀b o,s.heap.get? b=some o→b∉frs (envOfC qual scope s0.heap.objs.size f cdv::outer)→(PySem.W.hideAll s.heap (frs (envOfC qual scope s0.heap.objs.size f cdv::outer))).get? b=some o:=λb o e n=>PySem.W.hideAll_get _ e n
 have hokB:HOk P w H (PySem.W.hideAll s.heap (frs (envOfC qual scope s0.heap.objs.size f cdv::outer))):=λb u hb=>by
  refine (I.hok b u hb).stay (λc v hc ec=>hB c v ec λhm=>?_) (λ_ z=>z) (λ_ _ z=>z)
  have hn:=hfree c hm
  rcases hc with rfl|hc
  ·rw [hn] at hb;cases hb
  ·rw [hn] at hc;cases hc
 have hold:∀b o,s0.heap.get? b=some o→b∉frs outer→∃o',(PySem.W.hideAll s.heap (frs (envOfC qual scope s0.heap.objs.size f cdv::outer))).get? b=some o'∧(H0 b=none→o'=o):=λb o e n=>by
  obtain ⟨o1,e1⟩:=ub.there b o e nin
  refine ⟨o1,hB b o1 e1 (hmem b o e n),λz=>?_⟩
  have e4:=ub.keep b o e z n nin
  rw [e1] at e4
  exact av e4
 have hst:s.heap.FunFrames base (envOfC qual scope s0.heap.objs.size f cdv::outer):=I.stack
 have hff:=PySem.W.funFrames_hide (as:=frs (envOfC qual scope s0.heap.objs.size f cdv::outer)) hst (λenv he b hb=>dF.mpr ⟨env,he,hb⟩)
 refine wpAny_leaves_madeW (base:=PySem.W.hideAll s.heap (frs (envOfC qual scope s0.heap.objs.size f cdv::outer))) (h:=s.heap) I.ok.frames rfl (λb o e=>PySem.W.of_hideAll _ e) hff hx λh'' t hf' _ _ hup=>?_
 have toF:∀b,b∈frs outer→∃o,s.heap.get? b=some o∧∃sl,h''.get? b=some { o with slots:=sl }:=λb hb=>by
  obtain ⟨_,o3,e3,nf⟩:=hst.mem (b:=b) (by show b∈frs (envOfC qual scope s0.heap.objs.size f cdv::outer);rw [hfs];exact .tail _ hb)
  exact ⟨o3,e3,hup b o3 (hx.keeps b o3 e3) nf⟩
 refine ⟨e,C,.ref t,_,H,rfl,I.os,I.bare,⟨λb o e1 n nb _=>?_,λb o e1 n hb _=>?_,λb o e1 n _=>ub.free b o e1 n nin,λb o e1 _=>?_,ub.tups,ub.frzs,ub.tbls⟩,hokB,hf',hold,q⟩
 ·obtain ⟨o',e2,e3⟩:=hold b o e1 nb
  rw [e3 n] at e2
  exact hf'.1 b o e2
 ·obtain ⟨sl,e2⟩:=ub.slot b o e1 n hb nin
  obtain ⟨o3,e3,sl3,e4⟩:=toF b hb
  rw [e2] at e3
  have e5:=av e3
  exact ⟨sl3,by rw [e4,←e5]⟩
 ·by_cases hb:b∈frs outer
  ·obtain ⟨o3,e3,sl3,e4⟩:=toF b hb
   exact ⟨_,e4⟩
  ·obtain ⟨o',e2,_⟩:=hold b o e1 hb
   exact ⟨o',hf'.1 b o' e2⟩
end
section
variable {P:Ac}{w:Ah}{K:Aa}{mg:Str→Option Ag}{base:Heap}
end
def Yg (sp:Sp)(E:St→XK)(t:TA):TE:=λσ H Q=>t σ H λvs H1=>sp vs H1 Q (E σ)
def Zn (C:Aj)(m:Str)(sp:Sp)(E:St→XK)(ta:TE)(t:TA):TE:=λσ H Q=>ta σ H λx H1=>∃a dx fs,x=.ref a∧H1 a=some (.ins C dx fs)∧fs.lookup m=none ∧
 t σ H1 λvs H2=>sp (x::vs) H2 Q (E σ)
def qv0 (C:Aj)(sp:Sp)(E:St→XK)(t:TA):TE:=λσ H Q=>t σ H λvs H1=>∀x dx,H1 x=none→H1 dx=none→dx≠x →
 sp (.ref x::vs) (upd (upd H1 dx (.own x)) x (.ins C dx [])) (λv H2=>v=.non∧Q (.ref x) H2) (E σ)
section
variable {X:Cx}{k:Nat}{f C:Aj}{fd:Ad}{ps:List Str}{sp:Sp}{E:St→XK}{x m:Str}{p pos apos:Pos}{e o:Expr}{es:List Expr}{ta:TE}{t:TA}
theorem qwz {pins:List (Aj×Obj)}{σ:St}{H:Hp}{s:Ab}{Q:VK}{us:List Ag}{vs:List V}(F:FnOk X.prog X.w X.K X.mg X.base (CXE X.prog X.w) k f fd ps sp)(hr:Room k X.A)(hb:Binds X.K fd ps [])(hx:k7 X E)
  (I:Inv X pins σ H s) (r:Vals vs us) (h:sp vs H Q (E σ)):wpAny (model X.prog X.w) X.A (call (.ref f) us) (EP X pins σ Q) X.xe s:=by
 have hl:(us++[]).length=ps.length:=by rw [cn,←r.length];exact F.len _ _ _ _ h
 have hb':=hb s us I.kIn hl
 rw [cn] at hb'
 refine wpAny_call (dB (F.run X.A X.stack s H ⟨us,[]⟩ us vs Q (E σ) hr I.env0 hb' r h) λr s' hq=>?_)
 cases r with
 |error e=>exact hx pins σ H s e s' I hq
 |ok fl =>
  cases fl with
  |ret u=>exact I.after hq
  |next=>exact False.elim hq
  |brk=>exact False.elim hq
  |cont=>exact False.elim hq
theorem wwz (F:FnOk X.prog X.w X.K X.mg X.base (CXE X.prog X.w) k f fd ps sp)(hr:Room k X.A)(hg:Gl X x)(hm:X.mg x=some (.ref f))(hk:PySem.W.keepIn X.K (.ref f)=true)(hb:Binds X.K fd ps [])(hx:k7 X E)
  (ha:PA X (e::es) t) (hdb:(x==("__debug__" : Str))=false:=by decide) (he:starEach (e::es) X.env=(false,eval e X.env)::starEach es X.env:=by rfl) (hpl:(backTo pos (starEach es X.env)).any (·.1)=false:=by rfl) :
  PE X (.Call (.Name x p) (e::es) [] pos) (Yg sp E t):=by
 intro pins s σ H Q I h
 refine ca (Qy I hg hm ?_ hdb)
 refine dG (h₀:=X.base) I.ok.mod.kin hk (thn (ha pos pins s σ H _ I h) λus s1 ⟨vs,H1,I1,r,q⟩=>⟨I1.kIn,?_⟩) he hpl
 exact qwz F hr hb hx I1 r q
theorem wqf {pl:Sem Bool}(he:PE X o ta)(c:Cls X.K C)(hm:Meth X.K C m f)(F:FnOk X.prog X.w X.K X.mg X.base (CXE X.prog X.w) k f fd ps sp)(hr:Room k X.A)(hb:Binds X.K fd ps [])(hx:k7 X E)(ha:PA X (e::es) t)
  (hst:starEach (e::es) X.env=(false,eval e X.env)::starEach es X.env:=by rfl) (hpl:(backTo pos (starEach es X.env)).any (·.1)=false:=by rfl)
  (ht:eval (.Call (.Attribute o m apos) (e::es) [] pos) X.env=(do
   let ov ←eval o X.env
   standAt apos.atName
   let (f,first) ←holding [ov] (getMethod ov m pl)
   callWith pos f first (backTo pos (starEach (e::es) X.env)) (backToKw pos (keywordEach [] X.env))):=by rfl) :
  PE X (.Call (.Attribute o m apos) (e::es) [] pos) (Zn C m sp E ta t):=by
 intro pins s σ H Q I h
 refine PySem.W.methodCall_KW (pl:=pl) (thn (he pins s σ H _ I h) λu s1 ⟨x,H1,I1,rx,a,dx,fs,ex,ea,l,q⟩=>?_) ht
 subst ex
 obtain rfl:u=Value.ref a:=rx
 refine Yp I1 ea c hm l ?_
 refine dG (first:=[.ref a]) (h₀:=X.base) I.ok.mod.kin hm.kp (thn (ha pos pins s1 σ H1 _ I1 q) λus s2 ⟨vs,H2,I2,r,q2⟩=>⟨I2.kIn,?_⟩) hst hpl
 exact qwz (us:=.ref a::us) (vs:=.ref a::vs) F hr hb hx I2 (.cons rfl r) q2
theorem qjx {pl:Sem Bool}(he:PE X o ta)(c:Cls X.K C)(hm:Meth X.K C m f)(F:FnOk X.prog X.w X.K X.mg X.base (CXE X.prog X.w) k f fd ps sp)(hr:Room k X.A)(hb:Binds X.K fd ps [])(hx:k7 X E)
  (ht:eval (.Call (.Attribute o m apos) [] [] pos) X.env=(do
   let ov ←eval o X.env
   standAt apos.atName
   let (f,first) ←holding [ov] (getMethod ov m pl)
   callWith pos f first (backTo pos (starEach [] X.env)) (backToKw pos (keywordEach [] X.env))):=by rfl) :
  PE X (.Call (.Attribute o m apos) [] [] pos) (Zn C m sp E ta Jc):=by
 intro pins s σ H Q I h
 refine PySem.W.methodCall_KW (pl:=pl) (thn (he pins s σ H _ I h) λu s1 ⟨x,H1,I1,rx,a,dx,fs,ex,ea,l,q⟩=>?_) ht
 subst ex
 obtain rfl:u=Value.ref a:=rx
 refine Yp I1 ea c hm l ?_
 exact PySem.W.callWith_K0 (first:=[.ref a]) I1.kIn hm.kp (qwz (us:=[.ref a]) (vs:=[.ref a]) F hr hb hx I1 (.cons rfl .nil) q)
theorem J3 {pins:List (Aj×Obj)}{σ:St}{H:Hp}{s:Ab}{Q:VK}{us:List Ag}{vs:List V}(M:Mk X.K C f)(F:FnOk X.prog X.w X.K X.mg X.base (CXE X.prog X.w) k f fd ps sp)(hr:Room (k+1) X.A)(hb:Binds X.K fd ps [])
  (hx:k7 X E) (I:Inv X pins σ H s) (r:Vals vs us)
  (h:∀x dx,H x=none→H dx=none→dx≠x→sp (.ref x::vs) (upd (upd H dx (.own x)) x (.ins C dx [])) (λv H2=>v=.non∧Q (.ref x) H2) (E σ)) :
  wpAny (model X.prog X.w) X.A (call (.ref C) us) (EP X pins σ Q) X.xe s:=by
 have hq:=h (s.heap.objs.size+1) s.heap.objs.size (I.hok.fresh (Nat.le_succ _)) (I.hok.fresh (af _)) (ao (Nat.lt_succ_self _))
 have I2:=Inv.made (C:=C) I
 have r2:Vals (V.ref (s.heap.objs.size+1)::vs) (Value.ref (s.heap.objs.size+1)::us):=.cons rfl r
 have hl:((Value.ref (s.heap.objs.size+1)::us)++[]).length=ps.length:=by
  rw [cn,←r2.length]
  exact F.len _ _ _ _ hq
 have hb':=hb _ (Value.ref (s.heap.objs.size+1)::us) I2.kIn hl
 rw [cn] at hb'
 refine wpAny_call (wqz (f:=f) I.kIn M.makes M.init (cY.mp M.fn) (dB (F.run _ X.stack _ _ ⟨Value.ref (s.heap.objs.size+1)::us,[]⟩ (Value.ref (s.heap.objs.size+1)::us) _ _ (E σ) (hr.make C us [])
  (I2.env0.make C us []) hb' r2 hq) λr s' hq'=>?_))
 cases r with
 |error e=>exact hx pins σ _ _ e s' I2 hq'
 |ok fl =>
  cases fl with
  |ret u =>
   obtain ⟨v,H',I3,rv,ev,q3⟩:=I2.after hq'
   subst ev
   exact ⟨rv,⟨V.ref (s.heap.objs.size+1),H',I3,rfl,q3⟩⟩
  |next=>exact False.elim hq'
  |brk=>exact False.elim hq'
  |cont=>exact False.elim hq'
theorem wqx (M:Mk X.K C f)(F:FnOk X.prog X.w X.K X.mg X.base (CXE X.prog X.w) k f fd ps sp)(hr:Room (k+1) X.A)(hg:Gl X x)(hm:X.mg x=some (.ref C))(hb:Binds X.K fd ps [])(hx:k7 X E)
  (ha:PA X (e::es) t) (hdb:(x==("__debug__" : Str))=false:=by decide) (he:starEach (e::es) X.env=(false,eval e X.env)::starEach es X.env:=by rfl) (hpl:(backTo pos (starEach es X.env)).any (·.1)=false:=by rfl) :
  PE X (.Call (.Name x p) (e::es) [] pos) (qv0 C sp E t):=by
 intro pins s σ H Q I h
 refine ca (Qy I hg hm ?_ hdb)
 refine dG (h₀:=X.base) I.ok.mod.kin M.kp (thn (ha pos pins s σ H _ I h) λus s1 ⟨vs,H1,I1,r,q⟩=>⟨I1.kIn,?_⟩) he hpl
 exact J3 M F hr hb hx I1 r q
end
structure ExcC (K:Aa)(C:Aj):Prop where
 q:PySem.W.excIn K C [.type "ValueError",.type "Exception",.type "BaseException",.type "object"] "ValueError.__new__" = true
def tRaise (C:Aj)(E:St→XK)(t:TA):TS:=λD σ H=>t σ H λvs H1=>vs.length≤sizeLine∧E σ (.ref C) none H1
section
variable {X:Cx}{C:Aj}{E:St→XK}{x:Str}{np cpos pos:Pos}{e:Expr}{es:List Expr}{t:TA}
theorem z0 (hc:X.calm=true)(c:ExcC X.K C)(hR:qu6 X E)(hg:Gl X x)(hm:X.mg x=some (.ref C))(ha:PA X (e::es) t)(hdb:(x==("__debug__" : Str))=false:=by decide)
  (he:starEach (e::es) X.env=(false,eval e X.env)::starEach es X.env:=by rfl) (hpl:(backTo cpos (starEach es X.env)).any (·.1)=false:=by rfl) :
  PS X (.Raise (some (.Call (.Name x np) (e::es) [] cpos)) none pos) (tRaise C E t):=by
 intro pins s σ H D I h
 obtain ⟨tl,N,a1,a2,a3,a4,a5,a6,a7,a8,a9,b0,b1,b2,b3,b5,mN,hC,hN,hni,T⟩:=wx0 I.ok.mod.kin c.q
 refine wpAny_Raise_call_subT (C:=C) (nm:=a1) (q:=a2) (N:=N) (bs:=a3) (bm:=tl) (hdct:=a4) (sn:=a5) (sub:=a6) (ab:=a7) (col:=a8) (dd:=a9) (k0:=b0) (k1:=b1) (k2:=b2) (k3:=b3) (k5:=b5)
  dH (mN:=mN) (T.hasType dH.hasBase) (I.ok.hd hc) (by rw [he];show (false||(backTo cpos (starEach es X.env)).any (·.1))=false;rw [hpl];rfl) hni (Qy I hg hm ⟨rfl,?_⟩ hdb)
 have hw:=ha cpos pins s σ H _ I h
 rw [he] at hw ⊢
 refine cz (aK hw (λus s1 ⟨vs,H1,I1,r,hl,q⟩=>⟨rfl,by rw [←r.length];exact hl,I1.bk _ _ hC,hN.keeps I1.bk,T.keeps I1.bk,λh' e hx=>hR pins σ H1 s1 h' e C us I1 hx q⟩) λ_ _ z=>z)
end
def Sm (n:Nat)(i:Int):Prop:=i.natAbs<2 ^ n
theorem Sm.bits {n:Nat}{i:Int}(h:Sm n i):Builtin.Int.intBits i≤n:=PyProof.Rows.intBits_le h
theorem Sm.mono {n m:Nat}{i:Int}(h:Sm n i)(hm:n≤m):Sm m i:=az h (Nat.pow_le_pow_right (by decide) hm)
theorem Sm.of_le {n:Nat}{i j:Int}(h:Sm n j)(e:i.natAbs≤j.natAbs):Sm n i:=cO e h
theorem Sm.ok {n m:Nat}{i j:Int}(h:Sm n i)(h':Sm m j)(e:n+m≤134217728):IntMulOk i j:=IntMulOk.of_le h.bits h'.bits e
theorem Sm.log {n:Nat}{i:Int}(h:Sm n i)(hn:n≤9000):i.natAbs.log2<9000:=by
 by_cases h0:i.natAbs=0
 ·rw [h0]
  decide
 ·exact az ((Nat.log2_lt h0).mpr h) hn
theorem Sm.noPl {n:Nat}{i j:Int}(h:Sm n j)(hn:n≤9000):Builtin.divisionGoesByPylong i j=false:=PyProof.noPylong_of_log2 (h.log hn)
section
variable {X:Cx}
theorem xg:OpR X (binaryOp .Mult) (rI IntMulOk λi j=>.int (i*j)):=opI λ_ _ _ _ _ _ _ hc q=>mul_int q hc
theorem v5:OpR X (binaryOp .FloorDiv) (rI (λ_ j=>0<j∧Sm 9000 j) λi j=>.int (i/j)):=opI λi j _ _ _ _ _ hc q =>
 floordiv_int (by lia) (by rw [Int.fdiv_eq_ediv_of_nonneg i (Int.le_of_lt hc.1)];exact q) (.inl (hc.2.noPl (af _)))
theorem jv:kf X (.builtin "isinstance") (λxs H Q=>∃x T t b,xs=[x,.ty T]∧TyOf X.K H x t∧PySem.W.kitOne X.K t (.type T)=some b∧Q (.bl b) H):=by
 intro pins s σ H xs us Q I r h
 obtain ⟨x,T,t,b,rfl,ty,e,q⟩:=h
 obtain ⟨u,u',rfl,r1,r2⟩:=qyp r
 cases r2
 exact qjp I r1 ty e λtk=>⟨.bl b,H,I.tok tk,rfl,q⟩
end
mutual
def RD (K:Aa)(H:Hp):PyData→V→Prop
 |.none,v=>v=.non
 |.bool b,v=>v=.bl b
 |.int i,v=>v=.int i
 |.str x,v=>v=.str x
 |.list ds,v=>∃a xs,v=.ref a∧SqL K H a xs∧RDs K H ds xs
 |.tuple ds,v=>∃a xs,v=.ref a∧SqT K H a xs∧RDs K H ds xs
 |.dict _,_=>False
def RDs (K:Aa)(H:Hp):List PyData→List V→Prop
 |[],xs=>xs=[]
 |d::ds,xs=>∃y ys,xs=y::ys∧RD K H d y∧RDs K H ds ys
end
section
variable {X:Cx}{pins:List (Aj×Obj)}{σ:St}{H:Hp}{s:Ab}
mutual
theorem yq (I:Inv X pins σ H s):∀(d:PyData) (v:V) (u:Ag),RD X.K H d v→RelV v u→∃as,Reads s.heap u d as
 |.none,v,u,h,r=>by
  rw [RD] at h;subst h
  cases (show u=Value.none from r)
  exact ⟨_,.none⟩
 |.bool b,v,u,h,r=>by
  rw [RD] at h;subst h
  cases (show u=Value.bool b from r)
  exact ⟨_,.bool b⟩
 |.int i,v,u,h,r=>by
  rw [RD] at h;subst h
  obtain ⟨t,rfl⟩:=(show ∃t,u=Value.int i t from r)
  exact ⟨_,.int i t⟩
 |.str x,v,u,h,r=>by
  rw [RD] at h;subst h
  obtain ⟨t,rfl⟩:=(show ∃t,u=Value.str x t from r)
  exact ⟨_,.str x t⟩
 |.list ds,v,u,h,r=>by
  rw [RD] at h
  obtain ⟨a,xs,rfl,hs,hd⟩:=h
  cases (show u=Value.ref a from r)
  obtain ⟨its,rv,⟨o,n,e1,e2,_,e3⟩,_⟩:=I.list hs
  obtain ⟨as,ha⟩:=Ww I ds xs its hd rv
  exact ⟨_,.list e1 e2 e3 (by simpa using ha)⟩
 |.tuple ds,v,u,h,r=>by
  rw [RD] at h
  obtain ⟨a,xs,rfl,hs,hd⟩:=h
  cases (show u=Value.ref a from r)
  obtain ⟨its,rv,⟨o,e1,e2,n,e3⟩,_⟩:=I.tuple hs
  obtain ⟨as,ha⟩:=Ww I ds xs its hd rv
  exact ⟨_,.tuple e1 e2 e3 (by simpa using ha)⟩
 |.dict _,_,_,h,_=>by
  rw [RD] at h
  exact h.elim
theorem Ww (I:Inv X pins σ H s):∀(ds:List PyData) (vs:List V) (us:List Ag),RDs X.K H ds vs→Vals vs us→∃as,ReadsAll s.heap us ds as
 |[],vs,us,h,r=>by
  rw [RDs] at h;subst h
  cases r
  exact ⟨_,.nil⟩
 |d::ds,vs,us,h,r=>by
  rw [RDs] at h
  obtain ⟨y,ys,rfl,h1,h2⟩:=h
  cases r with
  |cons r1 r2 =>
   obtain ⟨as,a1⟩:=yq I d y _ h1 r1
   obtain ⟨bs,a2⟩:=Ww I ds ys _ h2 r2
   exact ⟨_,.cons a1 a2⟩
end
def rEqD (K:Aa)(neg:Bool):R2:=λx y H Q=>∃d e,RD K H d x∧RD K H e y∧d.canLay0=true∧e.canLay0=true∧min d.depth e.depth≤60∧Q (.bl (if neg then !PyData.eqv d e else PyData.eqv d e)) H
theorem qup (hu:X.A.units+64<cLine):OpR X (compareOp .Eq) (rEqD X.K false):=by
 intro pins s σ H x y v u Q I rx ry h
 obtain ⟨d,e,h1,h2,c1,c2,dp,q⟩:=h
 obtain ⟨as,a1⟩:=yq I d x v h1 rx
 obtain ⟨bs,a2⟩:=yq I e y u h2 ry
 exact PySem.SeqAt.compareEq_reads a1 a2 c1 c2 (by lia) ⟨.bl _,H,I,rfl,q⟩
theorem Zh (hu:X.A.units+64<cLine):OpR X (compareOp .NotEq) (rEqD X.K true):=by
 intro pins s σ H x y v u Q I rx ry h
 obtain ⟨d,e,h1,h2,c1,c2,dp,q⟩:=h
 obtain ⟨as,a1⟩:=yq I d x v h1 rx
 obtain ⟨bs,a2⟩:=yq I e y u h2 ry
 exact PySem.SeqAt.compareNe_reads a1 a2 c1 c2 (by lia) ⟨.bl _,H,I,rfl,q⟩
end
def ptD (p:Int×Int):PyData:=.tuple [.int p.1,.int p.2]
theorem qxs:∀(xs ys:List Int),PyData.eqvAll (xs.map .int) (ys.map .int)=decide (xs=ys)
 |[],[]=>rfl
 |[],_::_=>rfl
 |_::_,[]=>rfl
 |x::xs,y::ys=>by
  rw [aD,aD,PyData.eqvAll,qxs xs ys,PyData.eqv]
  by_cases h:x=y
  ·subst h;simp
  ·simp [h]
theorem qw0 (p q:Int×Int):PyData.eqv (ptD p) (ptD q)=decide (p=q):=by
 obtain ⟨a,b⟩:=p
 obtain ⟨c,d⟩:=q
 unfold ptD
 rw [PyData.eqv]
 have:=qxs [a,b] [c,d]
 rw [aD,aD,cb,aD,aD,cb] at this
 rw [this]
 simp
end L2
namespace L2
open PySem PySem.Spec PyProof.Rows
section
variable {P:Ac}{w:Ah}{K:Aa}{mg:Str→Option Ag}{base:Heap}
theorem Fun.okX {x qual:Str}{st:Stmt}{f:Aj}{fd:Ad}{N ps:List Str}{k:Nat}{sp:Sp}(F:Fun K x qual st f fd)(S:FnScope N ps (wb st))(len:∀vs H Q E,sp vs H Q E→vs.length=ps.length)
  (body:∀(cdv:Ag) (A:Ae) (outer:List Env) (s:Ab) (H:Hp) (vs:List V) (Q:VK) (E:XK),Room k (A.deeper (envOfC qual (wb st) s.heap.objs.size f cdv))→sp vs H Q E →
   ∃t,PSs (Qq (CXE P w) P w K mg base N qual (wb st) f cdv A outer s H E) (wz st) t∧t { nx:=λ_ H'=>Q .non H',rt:=Q } (uc N vs) H):FnOk P w K mg base (CXE P w) (k+1) f fd ps sp:=by
 obtain ⟨oc,od,kV,doc,pm,an,cdv,ct,osl,rfl,lk,hcd⟩:=F.ex
 exact fn_of lk hcd S len λA outer s H vs Q E hr hsp=>body cdv A outer s H vs Q E hr hsp
structure DefIn (K:Aa)(x:Str)(st:Stmt):Prop where
 ex:∃f fd,PySem.W.nsIn K mainGlobals x=some (some (.ref f))∧Fun K x x st f fd
theorem def_mk {x:Str}{st:Stmt}{f:Aj}{oc:Ag}{od an:Option Aj}{osl:Array (Option Ag)}{kV doc pm cdv ct:Ag}(a:PySem.W.nsIn K mainGlobals x=some (some (.ref f)))
  (l:K.lookup f=some ⟨oc,od,.func (PySem.W.fnOf x x (vc st) (wz st) (wb st) .none kV doc pm an cdv ct),osl⟩) (c:PySem.W.codeIn K cdv x=true) (k:PySem.W.keepIn K (.ref f)=true):DefIn K x st:=⟨_,_,a,qu5 l c k⟩
def zx (x:Str)(st:Stmt)(ps:List Str):Prop:=∀(kV doc pm:Ag) (an:Option Aj) (cdv ct:Ag) (us:List Ag),us.length=ps.length→bindArgs (PySem.W.fnOf x x (vc st) (wz st) (wb st) .none kV doc pm an cdv ct) ⟨us,[]⟩=pure (ps.zip us)
structure Cal (P:Ac)(w:Ah)(K:Aa)(mg:Str→Option Ag)(base:Heap)(x:Str)(k:Nat)(sp:Sp):Prop where
 ex:∃f fd ps,mg x=some (.ref f)∧FnOk P w K mg base (CXE P w) k f fd ps sp∧PySem.W.keepIn K (.ref f)=true∧Binds K fd ps []
theorem DefIn.cal {x:Str}{st:Stmt}{ps:List Str}{k:Nat}{sp:Sp}{h:Heap}(d:DefIn K x st)(KX:K.In h)(G:h.Ns mainGlobals mg)(b:zx x st ps)(ok:∀f fd,Fun K x x st f fd→FnOk P w K mg base (CXE P w) k f fd ps sp):Cal P w K mg base x k sp:=by
 obtain ⟨f,fd,a,F⟩:=d.ex
 exact ⟨f,fd,ps,aF KX G a,ok f fd F,F.kp,F.binds b⟩
end
section
variable {X:Cx}{x:Str}{k:Nat}{sp:Sp}{E:St→XK}{p pos:Pos}{e:Expr}{es:List Expr}{t:TA}
theorem Z3 (c:Cal X.prog X.w X.K X.mg X.base x k sp)(hr:Room k X.A)(hg:Gl X x)(hx:k7 X E)
  (ha:PA X (e::es) t) (hdb:(x==("__debug__" : Str))=false:=by decide) (he:starEach (e::es) X.env=(false,eval e X.env)::starEach es X.env:=by rfl) (hpl:(backTo pos (starEach es X.env)).any (·.1)=false:=by rfl) :
  PE X (.Call (.Name x p) (e::es) [] pos) (Yg sp E t):=by
 obtain ⟨f,fd,ps,hm,F,kp,b⟩:=c.ex
 exact wwz F hr hg hm kp b hx ha hdb he hpl
end
def tCut (t u:TS):TS:=λD σ H=>∃R:St→Hp→Prop,t { D with nx:=R } σ H∧∀σ' H',R σ' H'→u D σ' H'
theorem u9 {X:Cx}{st:Stmt}{rest:List Stmt}{t u:TS}(h1:PS X st t)(h2:PSs X rest u):PSs X (st::rest) (tCut t u):=by
 intro pins s σ H D I ⟨R,h,hR⟩
 refine dY (thn (h1 pins s σ H { D with nx:=R } I h) λf s1 q=>?_)
 cases f with
 |next =>
  obtain ⟨σ1,H1,I1,q1⟩:=q
  exact h2 pins s1 σ1 H1 D I1 (hR σ1 H1 q1)
 |brk=>exact q
 |cont=>exact q
 |ret u=>exact q
theorem ku {c A B:Prop}[Decidable c](h1:c→A)(h2:¬ c→B):if decide c=true then A else B:=by
 by_cases h:c
 ·rw [aP h]
  exact jt (h1 h)
 ·rw [aV h]
  exact yw (h2 h)
theorem iteND {c A B:Prop}[Decidable c](h1:¬ c→A)(h2:c→B):if (!decide c)=true then A else B:=by
 by_cases h:c
 ·rw [aP h]
  exact yw (h2 h)
 ·rw [aV h]
  exact jt (h1 h)
theorem deqI {i j:Int}:decide (V.int i=V.int j)=decide (i=j):=by
 by_cases h:i=j
 ·subst h;simp
 ·simp [h]
theorem k8 {i j:Int}{A B:Prop}(h1:i=j→A)(h2:i≠j→B):if decide (V.int i=V.int j)=true then A else B:=by
 rw [deqI]
 exact ku h1 h2
theorem iteNDV {i j:Int}{A B:Prop}(h1:i≠j→A)(h2:i=j→B):if (!decide (V.int i=V.int j))=true then A else B:=by
 rw [deqI]
 exact iteND h1 h2
theorem Same.upd {H:Hp}{p:Aj}{o:HO}(n:H p=none):Same H (upd H p o):=λb u e=>by
 rw [wc (qg e n)]
 exact e
theorem Same.sql {K:Aa}{H H':Hp}{a:Aj}{xs:List V}(h:Same H H')(s:SqL K H a xs):SqL K H' a xs:=h.seq s
theorem SqT.new {K:Aa}{H:Hp}{p:Aj}{xs:List V}:SqT K (upd H p (.tup xs)) p xs:=SqT.of qt
theorem SqL.new {K:Aa}{H:Hp}{p:Aj}{xs:List V}:SqL K (upd H p (.lst xs)) p xs:=SqL.of qt
theorem j3:bootBuiltins "abs" = some (.builtin "abs"):=by decide +kernel
theorem qy3:bootBuiltins "all" = some (.builtin "all"):=by decide +kernel
theorem W5 {ns:List Int}{i:Int}(h0:0≤i)(h1:i<ns.length):atI (ns.map V.int) i=some (V.int (ns.getD i.toNat 0)):=by
 have hl:i.toNat<ns.length:=by lia
 have e:(ns.map V.int)[i.toNat]?=some (V.int (ns.getD i.toNat 0)):=by
  rw [aI,ar,al hl]
  rfl
 have:=xt e
 rwa [cG h0] at this
def qw9 (ns:List Int)(i:Int):Int:=if i<ns.length then ns.getD i.toNat 0 else if (ns.length:Int)=0 then 7*i+3 else ns.getD (i%ns.length).toNat 0+1009*i
def divs (c:Int):Nat→Int
 |0=>c
 |n+1=>divs c n/1000
def qwd (K:Aa):Sp:=λvs H Q _=>∃(a:Aj) (ns:List Int) (i:Int),vs=[.ref a,.int i]∧SqL K H a (ns.map V.int)∧0≤i∧∀r,r=qw9 ns i→Q (.int r) H
def ju (c:Int):Int:=if c<0 then -c else c
def qq0 (c t:Int):Int:=(c%1000003*48271+t*7919+101)%999983
def qxn (c t:Int):Int:=(qq0 c t*qq0 c t+c%1000003*31+t*104729)%1000033
def qx6 (c t:Int):Int:=if 10 ^ 18≤ju c then (if c<0 then divs (ju c) t.toNat%1000 else divs (ju c) t.toNat) else (qxn c t*qxn c t+qq0 c t*17+t*30011)%999979
def qx0 (ns:List Int)(i t m:Int):Int:=qx6 (qw9 ns i) t%m
theorem qu0 (ns:List Int)(i t m:Int)(h:0<m):0≤qx0 ns i t m:=aR _ (by lia)
theorem qy8 (ns:List Int)(i t m:Int)(h:0<m):qx0 ns i t m<m:=aS _ h
theorem qy7 {c t:Int}(h:10 ^ 18≤ju c)(n:c<0):qx6 c t=divs (ju c) t.toNat%1000:=by rw [qx6,ak h,ak n]
theorem qjc {c t:Int}(h:10 ^ 18≤ju c)(n:¬ c<0):qx6 c t=divs (ju c) t.toNat:=by rw [qx6,ak h,aj n]
theorem quc {c t:Int}(h:¬ 10 ^ 18≤ju c):qx6 c t=(qxn c t*qxn c t+qq0 c t*17+t*30011)%999979:=by rw [qx6,aj h]
def yx (K:Aa):Sp:=λvs H Q _=>∃(a:Aj) (ns:List Int) (i t m:Int),vs=[.ref a,.int i,.int t,.int m]∧SqL K H a (ns.map V.int)∧0≤i∧0≤t∧t<1000000∧0<m ∧
 ∀r,r=qx0 ns i t m→0≤r→r<m→Q (.int r) H
theorem Sm.small {n:Nat}{i:Int}(h1:-(2 ^ 64)≤i)(h2:i≤2 ^ 64)(hn:65≤n):Sm n i:=by
 refine Sm.mono (n:=65) ?_ hn
 unfold Sm
 lia
def qkf (K:Aa):Sp:=λvs H Q _=>∃(a:Aj) (ns:List Int),vs=[.ref a]∧SqL K H a (ns.map V.int)∧ns.length≤63∧∀H',Q (.bl true) H'
theorem sz1 {x:V}:[x].length≤sizeLine:=by show 1≤sizeLine;decide
theorem sz2 {x y:V}:[x,y].length≤sizeLine:=by show 2≤sizeLine;decide
theorem sz0:([]:List V).length≤sizeLine:=by show 0≤sizeLine;decide
end L2
namespace L2
open PySem
def Wy (x y:Int):Int:=((Nat.gcd x.toNat y.toNat:Nat):Int)
theorem qj5 {x:Int}(h:0≤x):Wy x 0=x:=by
 unfold Wy
 have:(0:Int).toNat=0:=rfl
 rw [this,Nat.gcd_zero_right]
 lia
theorem qyx {x y:Int}(hx:0≤x)(hy:0<y):Wy y (x%y)=Wy x y:=by
 unfold Wy
 have e:(x%y).toNat=x.toNat%y.toNat:=by
  have h1:x=(x.toNat:Int):=by lia
  have h2:y=(y.toNat:Int):=by lia
  have h3:x%y=((x.toNat%y.toNat:Nat):Int):=by
   conv=>lhs;rw [h1,h2]
   exact (Int.natCast_emod _ _).symm
  rw [h3]
  exact cT _
 rw [e,Nat.gcd_comm y.toNat,←Nat.gcd_rec,Nat.gcd_comm]
theorem qk6 (t:Int):ju t=(t.natAbs:Int):=by
 unfold ju
 split <;> lia
theorem qwx (t:Int):0≤ju t:=by
 rw [qk6]
 lia
theorem vj (t b:Int):Wy (ju t) b=((Nat.gcd t.natAbs b.toNat:Nat):Int):=by
 unfold Wy
 rw [qk6,cT]
def gOf (t b:Int):Int:=Wy (ju t) b
def wp (t b:Int):Int×Int:=(t/gOf t b,b/gOf t b)
theorem k6 {t b:Int}(h:1≤b):1≤gOf t b:=by
 unfold gOf
 rw [vj]
 have:0<Nat.gcd t.natAbs b.toNat:=Nat.gcd_pos_of_pos_right _ (by lia)
 lia
theorem qud {t b:Int}(h:1≤b):gOf t b≤b:=by
 unfold gOf
 rw [vj]
 have:Nat.gcd t.natAbs b.toNat≤b.toNat:=Nat.gcd_le_right _ (by lia)
 lia
theorem qjv {t b:Int}(h:1≤b):gOf t b∣b:=by
 unfold gOf
 rw [vj]
 have h1:((Nat.gcd t.natAbs b.toNat:Nat):Int)∣(b.toNat:Int):=dZ.mpr (Nat.gcd_dvd_right _ _)
 have h2:(b.toNat:Int)=b:=by lia
 rwa [h2] at h1
theorem qjz {t b:Int}:gOf t b∣t:=by
 unfold gOf
 rw [vj]
 have h1:((Nat.gcd t.natAbs b.toNat:Nat):Int)∣(t.natAbs:Int):=dZ.mpr (Nat.gcd_dvd_left _ _)
 exact Int.dvd_natAbs.mp h1
theorem qx2 {t b:Int}:gOf t b*(t/gOf t b)=t:=dh qjz
theorem Zt {t b:Int}(h:1≤b):gOf t b*(b/gOf t b)=b:=dh (qjv h)
theorem qju {t b:Int}(h:1≤b):(wp t b).1*b=t*(wp t b).2:=by
 unfold wp
 dsimp only
 have h1:=qx2 (t:=t) (b:=b)
 have h2:=Zt (t:=t) (b:=b) h
 conv=>lhs;rw [←h2]
 conv=>rhs;rw [←h1]
 rw [h1,h2]
 have e1:t/gOf t b*b=t/gOf t b*(gOf t b*(b/gOf t b)):=by rw [h2]
 have e2:t*(b/gOf t b)=gOf t b*(t/gOf t b)*(b/gOf t b):=by rw [h1]
 rw [e1,e2,←Int.mul_assoc,ee (t/gOf t b)]
theorem Qm {t b:Int}(h:1≤b):1≤(wp t b).2:=by
 show 1≤b/gOf t b
 have h2:=Zt (t:=t) (b:=b) h
 have h3:=k6 (t:=t) h
 have:0<b/gOf t b:=by
  rcases bT 0 (b/gOf t b) with z|z
  ·exact z
  ·have:=bi z (show 0≤gOf t b by lia)
   rw [h2,Int.mul_zero] at this
   lia
 lia
theorem qzt {t b:Int}(h:1≤b):(wp t b).2≤b:=Int.ediv_le_self _ (by lia)
theorem qqp {t b:Int}(h:1≤b):gOf (wp t b).1 (wp t b).2=1:=by
 have h3:=k6 (t:=t) h
 have hb:=Qm (t:=t) h
 obtain ⟨g,hg⟩:∃g:Nat,gOf t b=(g:Int):=⟨_,by unfold gOf;exact vj t b⟩
 have g1:0<g:=by lia
 have hgg:g=Nat.gcd t.natAbs b.toNat:=by
  have:(g:Int)=((Nat.gcd t.natAbs b.toNat:Nat):Int):=by rw [←hg];unfold gOf;exact vj t b
  lia
 have et:g*(wp t b).1.natAbs=t.natAbs:=by
  have:=qx2 (t:=t) (b:=b)
  have e:=bB Int.natAbs this
  rw [Int.natAbs_mul,hg] at e
  simpa [wp,hg] using e
 have eb:g*(wp t b).2.toNat=b.toNat:=by
  have:=Zt (t:=t) (b:=b) h
  rw [hg] at this
  have q:(wp t b).2=b/(g:Int):=by unfold wp;rw [hg]
  have q2:b/(g:Int)=((b/(g:Int)).toNat:Int):=by rw [←q];lia
  rw [q]
  rw [q2] at this
  have:((g*(b/(g:Int)).toNat:Nat):Int)=b:=by rw [el];exact this
  lia
 unfold gOf
 rw [vj]
 have key:g*Nat.gcd (wp t b).1.natAbs (wp t b).2.toNat=g*1:=by
  rw [←Nat.gcd_mul_left,et,eb,←hgg,Nat.mul_one]
 have:=Nat.eq_of_mul_eq_mul_left g1 key
 rw [this]
 rfl
theorem wwf {t b c:Int}(h:1≤b)(hc:1≤c):gOf (t*c) (b*c)=gOf t b*c:=by
 unfold gOf
 rw [vj,vj]
 have e1:(t*c).natAbs=t.natAbs*c.toNat:=by
  rw [Int.natAbs_mul]
  have:c.natAbs=c.toNat:=by lia
  rw [this]
 have e2:(b*c).toNat=b.toNat*c.toNat:=by
  have hb:b=(b.toNat:Int):=by lia
  have hc':c=(c.toNat:Int):=by lia
  have:b*c=((b.toNat*c.toNat:Nat):Int):=by
   rw [el,←hb,←hc']
  lia
 rw [e1,e2,Nat.gcd_mul_right,el]
 have:(c.toNat:Int)=c:=by lia
 rw [this]
theorem qkh {t b c:Int}(h:1≤b)(hc:1≤c):wp (t*c) (b*c)=wp t b:=by
 unfold wp
 rw [wwf h hc]
 have hg:=k6 (t:=t) h
 rw [cu _ _ (show 0<c by lia),cu _ _ (show 0<c by lia)]
end L2
namespace L2
open PySem PySem.Spec PyProof.Rows
def CapAll (env:Env):List (Str×Aj)→Prop
 |[]=>True
 |(y,c)::r=>env.cells.lookup y=some c∧CapAll env r
theorem CapAll.look {env:Env}:∀ {cl:List (Str×Aj)},CapAll env cl→∀ {y:Str} {c:Aj},cl.lookup y=some c→env.cells.lookup y=some c
 |[],_,_,_,e=>by cases e
 |(z,d)::r,h,y,c,e=>by
  rw [ax] at e
  cases hb:y==z with
  |true =>
   rw [hb] at e
   rw [eq_of_beq hb]
   exact h.1.trans e
  |false =>
   rw [hb] at e
   exact CapAll.look h.2 e
def HasAll (cl:List (Str×Aj)):List (Str×NameKind)→Prop
 |[]=>True
 |(n,k)::r=>(k=.free→∃c,cl.lookup n=some c)∧k≠.cell∧HasAll cl r
theorem HasAll.nocell {cl:List (Str×Aj)}:∀ {ns:List (Str×NameKind)},HasAll cl ns→∀y∈ns,y.2≠.cell
 |(n,k)::r,h,y,hy=>by
  rcases aq.mp hy with rfl|hy
  ·exact h.2.1
  ·exact HasAll.nocell h.2.2 y hy
theorem HasAll.has {cl:List (Str×Aj)}{env:Env}:∀ {ns:List (Str×NameKind)},HasAll cl ns→∀ {x:Str} {q:NameKind},q=.cell∨q=.free →
  (ns.map λ(n,k)=>if (k==NameKind.free&&env.scope.kind==.function&&env.kindOf n==some .cell) then (n,NameKind.cell) else (n,k)).lookup x=some q→∃c,cl.lookup x=some c
 |[],_,_,_,_,e=>by cases e
 |(n,k)::r,h,x,q,hq,e=>by
  have ih:=HasAll.has (env:=env) h.2.2 (x:=x) hq
  rw [aD] at e
  by_cases hc:(k==NameKind.free&&env.scope.kind==.function&&env.kindOf n==some .cell)=true
  ·have e':=e
   dsimp only at e'
   rw [ak hc,ax] at e'
   cases hb:x==n with
   |true =>
    rw [aW,aW] at hc
    obtain ⟨c,hcc⟩:=h.1 (eq_of_beq hc.1.1)
    exact ⟨c,by rw [eq_of_beq hb];exact hcc⟩
   |false =>
    rw [hb] at e'
    exact ih e'
  ·have e':=e
   dsimp only at e'
   rw [aj hc,ax] at e'
   cases hb:x==n with
   |true =>
    rw [hb] at e'
    have ek:k=q:=av e'
    rcases hq with rfl|rfl
    ·exact absurd ek h.2.1
    ·obtain ⟨c,hcc⟩:=h.1 ek
     exact ⟨c,by rw [eq_of_beq hb];exact hcc⟩
   |false =>
    rw [hb] at e'
    exact ih e'
def CapIx (X:Cx)(scope:Scope)(cl:List (Str×Aj)):List Nat→Prop
 |[]=>True
 |j::r=>(∃y c,X.N[j]?=some y∧X.env.scope.names.lookup y=some .cell∧(relabel scope X.env).names.lookup y=some .cell∧cl.lookup y=some c)∧CapIx X scope cl r
theorem CapIx.get {X:Cx}{scope:Scope}{cl:List (Str×Aj)}:∀ {M:List Nat},CapIx X scope cl M→∀ {k j:Nat},M[k]?=some j →
  ∃y c,X.N[j]?=some y∧X.env.scope.names.lookup y=some .cell∧(relabel scope X.env).names.lookup y=some .cell∧cl.lookup y=some c
 |[],_,k,j,e=>by cases e
 |i::r,h,0,j,e=>by
  cases e
  exact h.1
 |i::r,h,k+1,j,e=>CapIx.get h.2 (k:=k) e
def Yv (X:Cx)(x:Str)(M:List Nat):List Str:=x::M.map λj=>X.N.getD j Str.empty
def zp (M:List Nat)(σ:St)(o:Option V):St:=o::M.map λj=>(σ[j]?).join
abbrev zg (X:Cx)(scope:Scope)(cl:List (Str×Aj))(x:Str)(M:List Nat)(C:Aj)(s2:Ab)(H2:Hp)(fp:List Aj)(pn:List (Aj×Obj)):Cx :=
 { X with N:=Yv X x M,s₀:=s2,H₀:=H2,env:=compEnvC scope cl C X.env,outer:=X.stack,ex:=fp,fn:=λ_=>false,pn:=pn,xe:=λ_ _=>False }
section
variable {X:Cx}{pins:List (Aj×Obj)}{σ:St}{H:Hp}{s2:Ab}{scope:Scope}{cl:List (Str×Aj)}{x:Str}{M:List Nat}{fp:List Aj}{C:Aj}{h1:Heap}{tk:Nat}
theorem Inv.compG {oo:HO}{xs:List Str}(I:Inv X pins σ H s2)(hc:CapAll X.env cl)(hh:HasAll cl scope.names)(hm:CapIx X scope cl M)(hk:scope.kind=.function)(hC:s2.heap.objs.size<C)
  (keep:∀b o,s2.heap.get? b=some o→h1.get? b=some o) (hn:h1.Ns C λ_=>none) (hD:ObjOk X.prog X.w (upd H s2.heap.objs.size oo) h1 s2.heap.objs.size oo)
  (hfp:∀b∈fp,km X pins H b) (hob:∀b∈fp,∃o,s2.heap.get? b=some o) :
  Inv { X with N:=xs++M.map λj=>X.N.getD j Str.empty,s₀:=s2,H₀:=H,env:=compEnvC scope cl C X.env,outer:=X.stack,ex:=fp,fn:=λ_=>false,pn:=X.pn++pins,xe:=λ_ _=>False } [] ((xs.map λ_=>none)++M.map λj=>(σ[j]?).join) (upd H s2.heap.objs.size oo) { s2 with heap:=h1,toks:=tk }:=by
 have hfr:=I.hok.fresh (a:=s2.heap.objs.size) (af _)
 have o:=I.ok
 have hcc:∀y c,cl.lookup y=some c→X.env.cells.lookup y=some c:=λy c e=>hc.look e
 have hlt:∀b∈fp,b<s2.heap.objs.size:=λb hb=>by
  obtain ⟨ob,e⟩:=hob b hb
  exact ai e
 have hstk:∀b∈fp,b∉frs X.stack:=λb hb z=>by
  rcases aq.mp (I.stkSub b z) with z|z
  ·exact (hfp b hb).2.1 z
  ·exact (hfp b hb).2.2.1 z
 have hCn:H C=none:=I.hok.fresh (bw hC)
 refine ⟨⟨o.mod,hk,o.glob,o.blt,bw hC,λy z c e1 e2=>o.inj y z c (hcc y c e1) (hcc z c e2),λy hy=>?_,λy c z=>(aA z).elim,o.hd,o.frames,.inl rfl,λb hb=>⟨ao (bo (hlt b hb) hC),λy c e=>(hfp b hb).2.2.2.2.1 y c (hcc y c e)⟩,
  λb ob e=>I.bs b ob e,br o.bsz I.sz,λb ob e z=>?_,hstk,I.stack,I.stkFree⟩,rfl,I.bare,?_,?_,λy c e=>?_,?_,λy c e=>?_,λp hp=>?_,?_,?_⟩
 ·rcases hy with hy|hy
  ·exact hh.has (.inl rfl) hy
  ·exact hh.has (.inr rfl) hy
 ·obtain ⟨e1,e2⟩:=I.bs b ob e
  exact (hfp b z).2.2.2.1.elim (λq=>o.noex b ob e q) λq=>by
   have:=o.bs b ob e
   exact aX _ (az (ai this.1) q)
 ·exact (Un.laid (fs:=frs X.stack) (ex:=fp) (o:=oo) keep (af _) hfr)
 ·refine ⟨_,hn,λi z v e1 e2 e3=>?_⟩
  rcases ef i xs.length with hi|hi
  ·have e2:((xs.map λ_=>(none:Option V))++M.map λj=>(σ[j]?).join)[i]?=some (some v):=e2
   rw [bt (by rw [ae];exact hi),aI,al hi] at e2
   cases e2
  have e1':(xs++M.map λj=>X.N.getD j Str.empty)[i]?=some z:=e1
  have e2':((xs.map λ_=>(none:Option V))++M.map λj=>(σ[j]?).join)[i]?=some (some v):=e2
  rw [bd hi] at e1'
  rw [bd (by rw [ae];exact hi),ae] at e2'
  generalize i-xs.length=k at e1' e2'
  rw [aI] at e1' e2'
  cases hj:M[k]? with
  |none=>rw [hj] at e1';cases e1'
  |some j =>
   rw [hj] at e1' e2'
   obtain ⟨y,c,f1,f2,f3,f4⟩:=hm.get hj
   have ez:X.N.getD j Str.empty=z:=av e1'
   rw [ar,f1] at ez
   have ez':y=z:=ez
   subst ez'
   have ev:(σ[j]?).join=some v:=av e2'
   have ev':σ[j]?=some (some v):=by
    cases hs:σ[j]? with
    |none=>rw [hs] at ev;cases ev
    |some w' =>
     rw [hs] at ev
     have:w'=some v:=ev
     rw [this]
   obtain ⟨m,hns,hl⟩:=I.loc
   obtain ⟨u,r,l⟩:=hl j y v f1 ev' (.inr (.inl f2))
   refine ⟨u,r,.inr ⟨.inl f3,c,f4,?_⟩⟩
   rcases l with ⟨lk,_⟩|⟨_,c',lc,li⟩
   ·have:X.env.scope.names.lookup y=some .local:=lk
    rw [f2] at this
    cases this
   ·rw [hcc y c f4] at lc
    have:=av lc
    subst this
    exact li.keeps keep
 ·obtain ⟨v,hv⟩:=I.cell y c (hcc y c e)
  exact ⟨v,hv.keeps keep⟩
 ·show upd H s2.heap.objs.size oo C=none
  rw [wc (dA hC)]
  exact hCn
 ·show upd H s2.heap.objs.size oo c=none
  obtain ⟨v,ob,e1,e2⟩:=I.cell y c (hcc y c e)
  rw [wc (ao (ai e1))]
  exact I.freeC y c (hcc y c e)
 ·have hp':p∈X.pn++pins:=(ba.mp hp).elim (λz=>z) λz=>nomatch z
  obtain ⟨e1,e2,e3,e4,e5⟩:=I.pin p hp'
  refine ⟨keep _ _ e1,?_,ao (bo (ai e1) hC),λz=>?_,e5⟩
  ·rw [wc (ao (ai e1))]
   exact e2
  ·rcases aq.mp (I.stkSub p.1 z) with z|z
   ·exact e3 z
   ·exact e4 z
 ·exact I.hok.laid keep (af _) hD
 ·show ((xs.map λ_=>(none:Option V))++M.map λj=>(σ[j]?).join).length=(xs++M.map λj=>X.N.getD j Str.empty).length
  simp only [aU,ae]
theorem Inv.comp (I:Inv X pins σ H s2)(hc:CapAll X.env cl)(hh:HasAll cl scope.names)(hm:CapIx X scope cl M)(hk:scope.kind=.function)(hC:s2.heap.objs.size<C)
  (keep:∀b o,s2.heap.get? b=some o→h1.get? b=some o) (hn:h1.Ns C λ_=>none) (hD:h1.get? s2.heap.objs.size=some { cls:=.type "list",data:=.seq #[] 0 })
  (hfp:∀b∈fp,km X pins H b) (hob:∀b∈fp,∃o,s2.heap.get? b=some o) :
  Inv (zg X scope cl x M C s2 H fp (X.pn++pins)) [] (zp M σ none) (upd H s2.heap.objs.size (.lst [])) { s2 with heap:=h1,toks:=tk }:=I.compG (xs:=[x]) hc hh hm hk hC keep hn ⟨aB _,[],0,.nil,hD⟩ hfp hob
theorem Inv.uncomp {pins':List (Aj×Obj)}{σ':St}{H':Hp}{s':Ab}{h':Heap}(I:Inv X pins σ H s2)(hC:s2.heap.objs.size≤C)(hfp:∀b∈fp,km X pins H b)
  (J:Inv (zg X scope cl x M C s2 H fp (X.pn++pins)) pins' σ' H' s') (hs:Heap.SameBut C s'.heap h'):Inv X pins σ H' { s' with heap:=h' }:=by
 have hb:=J.base
 have nC:∀b o,s2.heap.get? b=some o→b≠C:=λb o e=>ao (az (ai e) hC)
 have st:∀b o,b≠C→s'.heap.get? b=some o→h'.get? b=some o:=λb o n e=>(hs.2 b n).trans e
 refine I.call' (s':={ s' with heap:=h' }) (ch:=fp) J.os ⟨λb o e n nb nx=>st b o (nC b o e) (hb.keep b o e n nb nx),λb o e n hb' nx=>?_,hb.free,λb o e nx=>?_,hb.tups,hb.frzs,hb.tbls⟩ ?_ J.bare λb hbf=>?_
 ·obtain ⟨sl,e1⟩:=hb.slot b o e n hb' nx
  exact ⟨sl,st b _ (nC b o e) e1⟩
 ·obtain ⟨o',e1⟩:=hb.there b o e nx
  exact ⟨o',st b _ (nC b o e) e1⟩
 ·intro b u hu
  have fr:H' C=none:=J.free
  refine (J.hok b u hu).stay (λc v hc e=>st c v ?_ e) (λ_ z=>z) λ_ _ z=>z
  rcases hc with rfl|hc
  ·intro z;rw [z,fr] at hu;cases hu
  ·intro z;rw [z,fr] at hc;cases hc
 ·obtain ⟨q1,q2,q3,q4,q5,q6⟩:=hfp b hbf
  exact ⟨q4,q2,q5,q6⟩
end
def qk7 (J:It)(M:List Nat)(te:TE)(σ:St)(H1:Hp)(Q:VK):Prop:=∀p,H1 p=none→∃W:Nat→Nat→List V→Hp→Prop,(∃m,W 0 m [] (upd H1 p (.lst []))) ∧
 ∀i m ys H2,W i m ys H2→H2 p=some (.lst ys)∧ys.length<sizeLine∧((J.stop i H2∧Q (.ref p) H2)∨(J.go i H2∧∀v H3,J.yld i H2 v H3 →
  te (zp M σ (some v)) H3 λy H4=>H4 p=some (.lst ys)∧∃m',m'<m∧W (i+1) m' (ys++[y]) (upd H4 p (.lst (ys++[y])))))
def tComp (M:List Nat)(wi:TI)(te:TE):TE:=λσ H Q=>wi σ H λJ H1=>qk7 J M te σ H1 Q
theorem Q6 {Y:Cx}{tg e:Expr}{k:Nat}{acc:Ag}{it:Aj}{fp:List Aj}{tn:Nat→Heap→Prop}{J:It}{ps:Pos}{REST:Sem PySem.Fin}{post:Result→Ab→Prop}{gg:TG}{pins:List (Aj×Obj)}{σ:St}{V:Nat→Nat→Hp→Prop}{Qd:Hp→Prop}{s0:Ab}{H0:Hp}{n0:Nat}
  (T:Turn Y.prog Y.w Y.K tg J fp it tn) (hc:Y.calm=true) (hx:∀v s,Y.xe v s→False)
  (hturn:compTurn e k (.ref it) acc Y.env=(standAt ps >>= λ_=>pyNext (.ref it) >>= λr=>match r with|none=>pure (.done .next)|some v=>letOwnedTupleGo tg (.ref it) v >>= λ_=>assign tg Y.env v >>= λ_=>REST))
  (hun:Y.A.under (.compLoop e k (.ref it) acc Y.env)=Y.A) (hden:(model Y.prog Y.w).den (.compLoop e k (.ref it) acc Y.env)=((compTurn e k (.ref it) acc Y.env).onRaise λz=>do noteFrame z Y.env;theTreesLotGoes z))
  (hg:PG Y tg gg) (fok:∀H2:Hp,(∀b∈fp,H2 b=none)→∀b∈fp,km Y pins H2 b)
  (hV:∀i n H2,V i n H2→(J.stop i H2∧Qd H2)∨(J.go i H2∧∀v H3,J.yld i H2 v H3→∃Z:St→Hp→Prop,gg v σ H3 Z∧∀σ4 H4,Z σ4 H4→(σ.length=σ4.length∧∀(k:Nat) z,σ[k]?=some (some z)→σ4[k]?=some (some z))∧∀pins' s',Inv Y pins' σ4 H4 s' →
   wpAny (model Y.prog Y.w) Y.A REST (λr s5=>r=Fin.again (.compLoop e k (.ref it) acc Y.env)∧∃H5,Inv Y pins' σ4 H5 s5∧∃n',n'<n∧V (i+1) n' H5) Y.xe s'))
  (fin:∀H2 s4,Inv Y pins σ H2 s4→Qd H2→post (.ok .next) s4) (I:Inv Y pins σ H0 s0) (v0:V 0 n0 H0) (t0:tn 0 s0.heap) (nf:∀b∈fp,H0 b=none) :
  codeAny (model Y.prog Y.w) Y.A (.compLoop e k (.ref it) acc Y.env) post s0:=by
 refine codeAny_loop rfl (λn s3=>∃i H2,V i n H2∧Inv Y pins σ H2 s3∧tn i s3.heap∧∀b∈fp,H2 b=none) (λn s3 hI=>?_) n0 ⟨0,H0,v0,I,t0,nf⟩
 obtain ⟨i,H2,w,J2,t,nf2⟩:=hI
 rw [hun,hden]
 refine wpAny_noted ?_
 rw [hturn]
 refine aa (de (aa ?_))
 rcases hV i n H2 w with ⟨hst,hq⟩|⟨hgo,hy⟩
 ·refine aK (T.done Y rfl rfl rfl hc i pins s3 _ H2 (λ_ _=>False) J2 (fok H2 nf2) t hst) (λr s4 hr=>?_) λ_ _ z=>z.elim
  obtain ⟨rfl,J4⟩:=hr
  exact ag (fin H2 s4 J4 hq)
 ·refine aK (T.item Y rfl rfl rfl hc i pins s3 _ H2 (λ_ _=>False) J2 (fok H2 nf2) t hgo) (λr s4 hr=>?_) λ_ _ z=>z.elim
  obtain ⟨u,rfl,hw⟩:=hr
  refine aa (aK hw (λ_ s5 hr5=>?_) λ_ _ z=>z.elim)
  obtain ⟨v,H3,J5,rv,yl,t5,nf⟩:=hr5
  obtain ⟨Z,hz,hZ⟩:=hy v H3 yl
  refine aa (aK (hg _ s5 _ H3 v u _ (J5.pinned (fok H3 nf) (T.obj _ _ t5)) rv hz) (λ_ s6 hr6=>?_) λv s z=>(hx v s z).elim)
  obtain ⟨σ6,H6,J6,z6⟩:=hr6
  obtain ⟨⟨hl,hw6⟩,hR⟩:=hZ σ6 H6 z6
  refine aK (hR _ s6 J6) (λr s7 hr7=>?_) λv s z=>(hx v s z).elim
  obtain ⟨rfl,H7,J7,n',hn',v7⟩:=hr7
  refine ⟨rfl,n',hn',i+1,H7,v7,(J7.unpinned (pins:=pins)).weak hl hw6,?_,?_⟩
  ·exact T.keep _ _ _ t5 λb hb o e=>(J7.pin (b,o) (aw _ (aw _ (vm hb e)))).1
  ·intro b hb
   obtain ⟨o,e,_⟩:=T.obj _ _ t5 b hb
   exact (J7.pin (b,o) (aw _ (aw _ (vm hb e)))).2.1
section
variable {Y:Cx}{elt cd:Expr}{te:TE}{tt:TT}{c:Code}{p:Aj}{σ:St}{H:Hp}{pins:List (Aj×Obj)}{s:Ab}
def appS (elt:Expr)(acc:Ag)(env:Env)(c:Code):Sem PySem.Fin:=(eval elt env >>= λx=>call (.builtin "list.append") [acc,x] >>= λ_=>pure ()) >>= λ_=>again c
theorem qx4 {ys:List V}{N:List V→Hp→Prop}(hx:∀v s,Y.xe v s→False)(he:PE Y elt te)(J:Inv Y pins σ H s)(hz:ys.length<sizeLine)(h:te σ H λy H4=>H4 p=some (.lst ys)∧N (ys++[y]) (upd H4 p (.lst (ys++[y])))) :
  wpAny (model Y.prog Y.w) Y.A (appS elt (.ref p) Y.env c) (λr s5=>r=Fin.again c∧∃H5,Inv Y pins σ H5 s5∧∃zs,N zs H5) Y.xe s:=by
 refine aa (aa (aK (he _ s _ H _ J h) (λyv s7 hr7=>?_) λ_ _ z=>z))
 obtain ⟨y,H4,J7,ry,hp4,n4⟩:=hr7
 refine aa (aK (vh (X:=Y) _ s7 _ H4 (.ref p) [y] (.ref p) [yv] (λ_ H8=>H8=upd H4 p (.lst (ys++[y]))) J7 rfl (.cons ry .nil) ⟨_,ys,y,rfl,rfl,hp4,hz,rfl⟩) (λ_ s8 hr8=>?_) λ_ _ z=>z)
 obtain ⟨_,H8,J8,_,rfl⟩:=hr8
 exact ag (ag ⟨rfl,_,J8,_,n4⟩)
def tstS (cd:Expr)(env:Env)(a b:Sem PySem.Fin):Sem PySem.Fin:=(forIn [cd] true λc r=>if r=true then do let ok ←isTrue c env (eval c env);pure (ForInStep.yield ok) else pure (ForInStep.yield r)) >>= λok=>if ok=true then a else b
theorem www {a b:Sem PySem.Fin}{F:Hp→Prop}{G:Hp→Prop}{R:PySem.Fin→Ab→Prop}(ht:PT Y cd tt)(J:Inv Y pins σ H s)(h:tt σ H λok H4=>if ok=true then F H4 else G H4)
  (ha:∀s' H4,Inv Y pins σ H4 s'→F H4→wpAny (model Y.prog Y.w) Y.A a R Y.xe s') (hb:∀s' H4,Inv Y pins σ H4 s'→G H4→wpAny (model Y.prog Y.w) Y.A b R Y.xe s') :
  wpAny (model Y.prog Y.w) Y.A (tstS cd Y.env a b) R Y.xe s:=by
 refine aa (wpAny_tests_one (aK (ht _ s _ H _ J h) (λok s6 hr6=>?_) λ_ _ z=>z))
 obtain ⟨H6,J6,hok⟩:=hr6
 cases ok with
 |false=>exact hb s6 H6 J6 hok
 |true=>exact ha s6 H6 J6 hok
end
section
variable {X:Cx}{elt iter cd:Expr}{x:Str}{px pos:Pos}{scope:Scope}{cl:List (Str×Aj)}{M:List Nat}{wi:TI}{te:TE}{tt:TT}{pins:List (Aj×Obj)}{σ:St}
theorem qwm {N:List Str}{C:Aj}{s2:Ab}{H1:Hp}{fp:List Aj}(hcap:CapAll X.env cl)(I2:Inv X pins σ H1 s2)(hlt:s2.heap.objs.size<C)(hfp:∀b∈fp,km X pins H1 b)(hbl:∀b∈fp,b<s2.heap.objs.size)(H2:Hp)(hn:∀b∈fp,H2 b=none) :
  ∀b∈fp,km { X with N:=N,s₀:=s2,H₀:=H1,env:=compEnvC scope cl C X.env,outer:=X.stack,ex:=fp,fn:=λ_=>false,pn:=X.pn++pins,xe:=λ_ _=>False } [] H2 b:=λb hb=>by
 obtain ⟨q1,q2,q3,q4,q5,q6⟩:=hfp b hb
 refine ⟨hn b hb,ao (bo (hbl b hb) hlt),λz=>?_,.inl hb,λy c e=>q5 y c (hcap.look e),λp hp=>q6 p ((ba.mp hp).elim (λz=>z) λz=>nomatch z)⟩
 rcases aq.mp (I2.stkSub b z) with z|z
 ·exact q2 z
 ·exact q3 z
theorem Jt {tg:Expr}{ifs:List Expr}{rest:List Comprehension}(hclos:closureFor scope X.env=pure cl)(hhas:HasAll cl scope.names)(hk:scope.kind=.function)
  (hnames:∀y∈scope.names,y.2=.local→scope.names.lookup y.1=some .local) (hi:PI X tg iter wi) (hs:∀z,foldedSetIterable iter X.env z=pure z)
  {use:Option (Ag→Sem Unit)} {QQ:Ag→Ab→Prop} {s:Ab} {H:Hp} {ps:Pos} {R:It→Hp→Prop} (I:Inv X pins σ H s) (h:wi σ H R)
  (go:∀(it:Aj) (fp:List Aj) (tn:Nat→Heap→Prop) (J:It) (H1:Hp) (s2:Ab) (C:Aj) (h3:Heap) (tk:Nat),Inv X pins σ H1 s2→Turn X.prog X.w X.K tg J fp it tn→tn 0 h3→(∀b∈fp,km X pins H1 b)→(∀b∈fp,b<s2.heap.objs.size)→(∀b∈fp,∃o,s2.heap.get? b=some o)→R J H1→s2.heap.objs.size<C →
   (∀b o,s2.heap.get? b=some o→h3.get? b=some o)→(h3.Ns C λ_=>none)→h3.get? s2.heap.objs.size=some { cls:=.type "list",data:=.seq #[] 0 } →
   codeAny (model X.prog X.w) X.A (.compLoop (.ListComp elt (⟨tg,iter,ifs,0⟩::rest) scope pos) 0 (.ref it) (.ref s2.heap.objs.size) (compEnvC scope cl C X.env)) (compPost (model X.prog X.w) X.A X.xe use QQ (.ref s2.heap.objs.size) C) { s2 with heap:=h3,toks:=tk }) :
  wpAny (model X.prog X.w) X.A (comprehension (.ListComp elt (⟨tg,iter,ifs,0⟩::rest) scope pos) scope X.env ps (newList []) false (eval iter X.env) use) QQ X.xe s:=by
 refine cJ (use:=use) rfl hs hclos hk hnames ?_
 refine thn (hi pins s σ H _ I h) λv s1 h1=>thn h1 λitv s2 h2=>?_
 obtain ⟨it,fp,tn,J,H1,rfl,I2,T,t0,hfp,hR⟩:=h2
 refine bD ?_
 refine di hhas.nocell (by intro y hy;cases hy) (λh3 hns hsb=>?_) hk
 dsimp only at hns hsb ⊢
 generalize hH2:s2.heap.push { cls:=.type "list",dict:=none,data:=.seq ([]:List Ag).toArray }=G2 at hns hsb ⊢
 have hC:G2.objs.size=s2.heap.objs.size+1:=by rw [←hH2,cS]
 have hlt:s2.heap.objs.size<G2.objs.size:=by lia
 have keep:∀b o,s2.heap.get? b=some o→h3.get? b=some o:=λb o e=>by
  rw [hsb.2 b (ao (bo (ai e) hlt))]
  exact ac _ (hH2▸ac _ e)
 have hD:h3.get? s2.heap.objs.size=some { cls:=.type "list",data:=.seq #[] 0 }:=by
  rw [hsb.2 _ (ao hlt)]
  exact ac _ (hH2▸am _ rfl)
 have t3:=T.keep 0 _ _ t0 λb _ o e=>keep b o e
 have loop:=λtk=>go it fp tn J H1 s2 G2.objs.size h3 tk I2 T t3 hfp (λb hb=>let ⟨o,e,_⟩:=T.obj 0 _ t0 b hb;ai e) (λb hb=>let ⟨o,e,_⟩:=T.obj 0 _ t0 b hb;⟨o,e⟩) hR hlt keep hns hD
 exact codeAny_compStart_list (loop _) (T.self _ 0 _ _ _ t3 (loop _))
theorem y7 (M:List Nat)(σ:St)(v:V):(zp M σ none).length=(zp M σ (some v)).length∧∀(k:Nat) z,(zp M σ none)[k]?=some (some z)→(zp M σ (some v))[k]?=some (some z):=⟨rfl,λk z ez=>by
 cases k with
 |zero=>cases ez
 |succ k=>exact ez⟩
end
section
variable {X:Cx}{elt iter:Expr}{x:Str}{px pos:Pos}{scope:Scope}{cl:List (Str×Aj)}{M:List Nat}{wi:TI}{te:TE}
theorem quu (hc:X.calm=true)(hclos:closureFor scope X.env=pure cl)(hcap:CapAll X.env cl)(hhas:HasAll cl scope.names)(hix:CapIx X scope cl M)(hk:scope.kind=.function)
  (hnames:∀y∈scope.names,y.2=.local→scope.names.lookup y.1=some .local) (hx:scope.names.lookup x=some .local) (hnd:(Yv X x M).Nodup) (hi:PI X (.Name x px) iter wi)
  (he:∀C s2 H2 fp pn,PE (zg X scope cl x M C s2 H2 fp pn) elt te) (hs:∀z,foldedSetIterable iter X.env z=pure z)
  {use:Option (Ag→Sem Unit)} {QQ:Ag→Ab→Prop} {pins:List (Aj×Obj)} {s:Ab} {σ:St} {H:Hp} {Q:VK} {ps:Pos} (I:Inv X pins σ H s) (h:wi σ H λJ H1=>qk7 J M te σ H1 Q)
  (fin:∀(C:Aj) (s2 s4:Ab) (H1 H2:Hp) (fp:List Aj),Inv X pins σ H1 s2→s2.heap.objs.size<C→(∀b∈fp,km X pins H1 b)→Inv (zg X scope cl x M C s2 H1 fp (X.pn++pins)) [] (zp M σ none) H2 s4→Q (.ref s2.heap.objs.size) H2 →
   compPost (model X.prog X.w) X.A X.xe use QQ (.ref s2.heap.objs.size) C (.ok .next) s4) :
  wpAny (model X.prog X.w) X.A (comprehension (.ListComp elt [⟨.Name x px,iter,[],0⟩] scope pos) scope X.env ps (newList []) false (eval iter X.env) use) QQ X.xe s:=by
 refine Jt hclos hhas hk hnames hi hs I h λit fp tn J H1 s2 C h3 tk I2 T t3 hfp hbl hob hR hlt keep hns hD=>?_
 obtain ⟨W,⟨m0,w0⟩,hW⟩:=hR s2.heap.objs.size (I2.hok.fresh (af _))
 have hxl:(relabel scope X.env).names.lookup x=some .local:=dj hx
 refine Q6 (Y:=zg X scope cl x M C s2 H1 fp (X.pn++pins)) (V:=λi n H2=>∃ys,W i n ys H2) (Qd:=Q (.ref s2.heap.objs.size)) (REST:=appS elt (.ref s2.heap.objs.size) (compEnvC scope cl C X.env) _) T hc (λ_ _ z=>z) (compTurn_list1 ..) rfl rfl (xp (i:=0) hnd rfl (.inl hxl) (.inr hxl)) (qwm hcap I2 hlt hfp hbl) (λi n H2 ⟨ys,w⟩=>?_) (λH2 s4 J4 q=>fin C s2 s4 H1 H2 fp I2 hlt hfp J4 q) (I2.comp hcap hhas hix hk hlt keep hns hD hfp hob) ⟨[],w0⟩ t3 λb hb=>by rw [wc (ao (hbl b hb))];exact (hfp b hb).1
 obtain ⟨hp,hz,hcase⟩:=hW i n ys H2 w
 refine hcase.imp id λ⟨hgo,hy⟩=>⟨hgo,λv H3 yl=>⟨λσ4 H4=>σ4=zp M σ (some v)∧H3=H4,⟨rfl,rfl⟩,λ_ _ e=>?_⟩⟩
 obtain ⟨rfl,rfl⟩:=e
 refine ⟨y7 M σ v,λpins' s' J=>?_⟩
 refine aK (qx4 (N:=λzs H5=>∃m',m'<n∧W (i+1) m' zs H5) (λ_ _ z=>z) (he _ _ _ _ _) J hz (hy v H3 yl)) (λr s5 ⟨e,H5,J5,zs,m',hm,w'⟩=>⟨e,H5,J5,m',hm,zs,w'⟩) λ_ _ z=>z
theorem yd (hc:X.calm=true)(hclos:closureFor scope X.env=pure cl)(hcap:CapAll X.env cl)(hhas:HasAll cl scope.names)(hix:CapIx X scope cl M)(hk:scope.kind=.function)
  (hnames:∀y∈scope.names,y.2=.local→scope.names.lookup y.1=some .local) (hx:scope.names.lookup x=some .local) (hnd:(Yv X x M).Nodup) (hi:PI X (.Name x px) iter wi)
  (he:∀C s2 H2 fp pn,PE (zg X scope cl x M C s2 H2 fp pn) elt te) (hs:∀z,foldedSetIterable iter X.env z=pure z:=by intro _;rfl) :
  PE X (.ListComp elt [⟨.Name x px,iter,[],0⟩] scope pos) (tComp M wi te):=by
 intro pins s σ H Q I h
 rw [eval_ListComp]
 refine quu hc hclos hcap hhas hix hk hnames hx hnd hi he hs (use:=none) I h λC s2 s4 H1 H2 fp I2 hlt hfp J4 hq=>?_
 obtain ⟨m,hn,_⟩:=J4.loc
 exact ⟨m,hn,λh' hs'=>⟨.ref s2.heap.objs.size,H2,I2.uncomp (bw hlt) hfp J4 hs',rfl,hq⟩⟩
theorem Inv.but {pins:List (Aj×Obj)}{σ:St}{H:Hp}{s:Ab}{h':Heap}{C:Aj}(I:Inv X pins σ H s)(hn:H C=none)(h1:X.s₀.heap.objs.size≤C)(h2:C≠X.env.locals)(h3:∀y c,X.env.cells.lookup y=some c→c≠C)(h4:∀p∈X.pn++pins,p.1≠C)
  (hs:Heap.SameBut C s.heap h'):Inv X pins σ H { s with heap:=h' }:=by
 have st:∀b o,b≠C→s.heap.get? b=some o→h'.get? b=some o:=λb o n e=>(hs.2 b n).trans e
 have nc:∀b,b∉[C]→b≠C:=λb z e=>z (by rw [e];exact .head _)
 refine I.call' (s':={ s with heap:=h' }) (ch:=[C]) rfl ⟨λb o e n _ nx=>st b o (nc b nx) e,λb o e n _ nx=>⟨o.slots,st b o (nc b nx) e⟩,λb o e n _=>n,λb o e nx=>⟨o,st b o (nc b nx) e⟩,λ_ _ e=>e,λ_ _ _ e=>e,λb ps e=>⟨#[],by rw [e];simp⟩⟩ ?_ I.bare λb hb=>?_
 ·intro b u hu
  refine (I.hok b u hu).stay (λc v hc e=>st c v ?_ e) (λ_ z=>z) λ_ _ z=>z
  rcases hc with rfl|hc
  ·intro z;rw [z,hn] at hu;cases hu
  ·intro z;rw [z,hn] at hc;cases hc
 ·rw [au.mp hb]
  exact ⟨.inr h1,h2,h3,h4⟩
end
theorem jx {M:List Nat}{lo:Int}{n:Nat}{te:TE}{σ:St}{H:Hp}{Q:VK}(f:Nat→V)(hn:n≤1000000)(he:∀(i:Nat) (H':Hp) (R:VK),i<n→Same H H'→R (f i) H'→te (zp M σ (some (.int (lo+i)))) H' R)
  (k:∀p,H p=none→Q (.ref p) (upd H p (.lst ((List.range n).map f)))):qk7 (Itr lo n) M te σ H Q:=by
 intro p np
 refine ⟨λi m ys H2=>i≤n∧m=n-i∧ys=(List.range i).map f∧H2=upd H p (.lst ys),⟨n,aB _,rfl,rfl,rfl⟩,?_⟩
 rintro i m ys H2 ⟨hi,rfl,rfl,rfl⟩
 refine ⟨qt,?_,?_⟩
 ·rw [ae,aC]
  have:(1000000:Nat)<sizeLine:=by decide
  lia
 ·by_cases hlt:i<n
  ·refine .inr ⟨hlt,?_⟩
   rintro v H3 ⟨rfl,rfl⟩
   refine he i (upd H p (.lst ((List.range i).map f))) _ hlt (Same.upd np) ⟨qt,n-(i+1),by lia,by lia,rfl,?_,?_⟩
   ·rw [bQ,aT]
    rfl
   ·rw [Qv]
  ·have:i=n:=by lia
   subst this
   exact .inl ⟨af _,k p np⟩
end L2
namespace L2
open PySem PySem.Spec PyProof.Rows
section
variable {X:Cx}
theorem Jr {pins:List (Aj×Obj)}{σ:St}{H:Hp}{s:Ab}{p:Aj}{ns:List Int}(I:Inv X pins σ H s)(hS:SqL X.K H p (ns.map V.int)) :
  ∃ts:Array (Int×Tok),s.heap.IsList p (intItems ts)∧ns=ts.toList.map (·.1):=by
 obtain ⟨its,rv,⟨o,n,e1,e2,e3,e4⟩,hz⟩:=I.list hS
 have hi:=qvx rv
 obtain ⟨ts,ht⟩:=hi.allInts.items
 refine ⟨ts,⟨o,e1,e2,n,by rw [←ht];exact e4⟩,?_⟩
 have a1:=hi.numsOf
 have a2:=nums_intItems (xs:=ts)
 rw [←ht] at a2
 exact a1.symm.trans a2
theorem Jq (hc:X.calm=true):kf X (.builtin "min") (λxs H Q=>∃(p:Aj) (ns:List Int),xs=[.ref p]∧SqL X.K H p (ns.map V.int)∧0<ns.length∧∀m,m∈ns→(∀a∈ns,m≤a)→Q (.int m) H):=by
 intro pins s σ H xs us Q I r h
 obtain ⟨p,ns,rfl,hS,hne,q⟩:=h
 obtain ⟨u,rfl,ru⟩:=yk r
 cases (show u=Value.ref p from ru)
 obtain ⟨ts,hl,he⟩:=Jr I hS
 have hsz:ts.size=ns.length:=by rw [he,ae,aO]
 refine min_intList (I.ok.hd hc) hl (by lia) λv h' tk hv hk=>?_
 obtain ⟨t,rfl⟩:=intItems_at hv
 obtain ⟨b1,b2⟩:=argBest_lt (numAt ts) (ts.size-1)
 refine ⟨.int _,H,I.kept hk,⟨t,rfl⟩,q _ ?_ λa ha=>?_⟩
 ·rw [he,numAt_eq]
  refine getD_mem ?_
  rw [←he,←hsz]
  lia
 ·rw [he] at ha
  obtain ⟨j,hj,rfl⟩:=mem_getD ha
  rw [←he,←hsz] at hj
  rw [←numAt_eq]
  exact b2 j (by lia)
theorem Y9 (hc:X.calm=true):kf X (.builtin "max") (λxs H Q=>∃(p:Aj) (ns:List Int),xs=[.ref p]∧SqL X.K H p (ns.map V.int)∧0<ns.length∧∀m,m∈ns→(∀a∈ns,a≤m)→Q (.int m) H):=by
 intro pins s σ H xs us Q I r h
 obtain ⟨p,ns,rfl,hS,hne,q⟩:=h
 obtain ⟨u,rfl,ru⟩:=yk r
 cases (show u=Value.ref p from ru)
 obtain ⟨ts,hl,he⟩:=Jr I hS
 have hsz:ts.size=ns.length:=by rw [he,ae,aO]
 refine max_intList (I.ok.hd hc) hl (by lia) λv h' tk hv hk=>?_
 obtain ⟨t,rfl⟩:=intItems_at hv
 obtain ⟨b1,b2⟩:=argBest_gt (numAt ts) (ts.size-1)
 refine ⟨.int _,H,I.kept hk,⟨t,rfl⟩,q _ ?_ λa ha=>?_⟩
 ·rw [he,numAt_eq]
  refine getD_mem ?_
  rw [←he,←hsz]
  lia
 ·rw [he] at ha
  obtain ⟨j,hj,rfl⟩:=mem_getD ha
  rw [←he,←hsz] at hj
  rw [←numAt_eq]
  exact b2 j (by lia)
theorem qxt:∀ {bs:List Bool} {its:List Ag},Vals (bs.map V.bl) its→its=bs.map Value.bool
 |[],_,.nil=>rfl
 |b::bs,_,.cons r t=>by
  have e:_=Value.bool b:=r
  rw [aD,←qxt t,e]
theorem qyj (bs:List Bool):(List.range bs.length).all (λi=>bs.getD i true)=bs.all id:=by
 rw [cm,bq,bq]
 constructor
 ·intro h b hb
  obtain ⟨i,hi,rfl⟩:=dz hb
  have:=h i (aL.mpr hi)
  rw [ar,al hi] at this
  exact this
 ·intro h i hi
  have hi':=aL.mp hi
  rw [ar,al hi']
  exact h _ (cC hi')
theorem Y5 (hc:X.calm=true):kf X (.builtin "all") (λxs H Q=>∃(p:Aj) (bs:List Bool),xs=[.ref p]∧SqL X.K H p (bs.map V.bl)∧Q (.bl (bs.all id)) H):=by
 intro pins s σ H xs us Q I r h
 obtain ⟨p,bs,rfl,hS,q⟩:=h
 obtain ⟨u,rfl,ru⟩:=yk r
 cases (show u=Value.ref p from ru)
 obtain ⟨its,rv,⟨o,n,e1,e2,e3,e4⟩,hz⟩:=I.list hS
 have hits:=qxt rv
 have hl:s.heap.IsList p its.toArray:=⟨o,e1,e2,n,e4⟩
 have hlt:p<s.heap.objs.size:=ai e1
 refine call_all_walk (wpAny_pyIter_list hl ?_)
 refine ⟨s.heap.objs.size,_,_,_,_,_,λi=>bs.getD i true,rfl,Walks.list (A:=X.A.in1) (I.ok.hd hc) _ p (ao hlt) its.toArray,⟨⟨_,am _ rfl,rfl,rfl⟩,hl.push _⟩,λi v s' Q' E' hP hQ=>?_,λh' tk hk=>?_⟩
 ·have hv:its[i]?=some v:=by simpa using hP
  rw [hits,aI] at hv
  cases hb:bs[i]? with
  |none=>rw [hb] at hv;cases hv
  |some b =>
   rw [hb] at hv
   have ev:Value.bool b=v:=av hv
   subst ev
   refine bR ?_
   have e2:bs.getD i true=b:=by rw [ar,hb];rfl
   have hQ':Q' (bs.getD i true) s':=hQ
   rw [e2] at hQ'
   exact hQ'
 ·have hlen:its.toArray.size=bs.length:=by rw [hits];simp
  rw [hlen,qyj]
  refine ⟨.bl _,H,I.kept λb ob e=>hk b ob (λhm=>?_) (ac _ e),rfl,q⟩
  have z:b=s.heap.objs.size:=by simpa using hm
  exact aX _ (z▸ai e)
end
structure MCal (P:Ac)(w:Ah)(K:Aa)(mg:Str→Option Ag)(base:Heap)(C:Aj)(m:Str)(k:Nat)(sp:Sp):Prop where
 ex:∃f fd ps,Meth K C m f∧FnOk P w K mg base (CXE P w) k f fd ps sp∧Binds K fd ps []
structure CCal (P:Ac)(w:Ah)(K:Aa)(mg:Str→Option Ag)(base:Heap)(x:Str)(C:Aj)(k:Nat)(sp:Sp):Prop where
 ex:∃f fd ps,mg x=some (.ref C)∧Mk K C f∧FnOk P w K mg base (CXE P w) k f fd ps sp∧Binds K fd ps []
structure MethIn (K:Aa)(C:Aj)(m qual:Str)(st:Stmt):Prop where
 ex:∃f fd,PySem.W.findIn K (.ref C) m=some (some (.ref f))∧PySem.W.isFn K (.ref f)=true∧Fun K m qual st f fd
theorem wwd {K:Aa}{C:Aj}{m qual:Str}{st:Stmt}{f:Aj}{oc:Ag}{od an:Option Aj}{osl:Array (Option Ag)}{kV doc pm cdv ct:Ag}(a:PySem.W.findIn K (.ref C) m=some (some (.ref f)))(i:PySem.W.isFn K (.ref f)=true)
  (l:K.lookup f=some ⟨oc,od,.func (PySem.W.fnOf m qual (vc st) (wz st) (wb st) .none kV doc pm an cdv ct),osl⟩) (c:PySem.W.codeIn K cdv qual=true) (k:PySem.W.keepIn K (.ref f)=true):MethIn K C m qual st:=⟨_,_,a,i,qu5 l c k⟩
def zk (x qual:Str)(st:Stmt)(ps:List Str):Prop:=∀(kV doc pm:Ag) (an:Option Aj) (cdv ct:Ag) (us:List Ag),us.length=ps.length→bindArgs (PySem.W.fnOf x qual (vc st) (wz st) (wb st) .none kV doc pm an cdv ct) ⟨us,[]⟩=pure (ps.zip us)
section
variable {P:Ac}{w:Ah}{K:Aa}{mg:Str→Option Ag}{base:Heap}{C:Aj}
theorem MethIn.cal {m qual:Str}{st:Stmt}{ps:List Str}{k:Nat}{sp:Sp}(d:MethIn K C m qual st)(b:zk m qual st ps)(ok:∀f fd,Fun K m qual st f fd→FnOk P w K mg base (CXE P w) k f fd ps sp):MCal P w K mg base C m k sp:=by
 obtain ⟨f,fd,a,i,F⟩:=d.ex
 exact ⟨f,fd,ps,⟨a,i,F.kp⟩,ok f fd F,F.binds b⟩
theorem MethIn.ccal {x qual:Str}{st:Stmt}{ps:List Str}{k:Nat}{sp:Sp}(d:MethIn K C "__init__" qual st)(hm:mg x=some (.ref C))(mk:PySem.W.makesIn K C=true)(kc:PySem.W.keepIn K (.ref C)=true)(b:zk "__init__" qual st ps)
  (ok:∀f fd,Fun K "__init__" qual st f fd→FnOk P w K mg base (CXE P w) k f fd ps sp):CCal P w K mg base x C k sp:=by
 obtain ⟨f,fd,a,i,F⟩:=d.ex
 exact ⟨f,fd,ps,hm,⟨mk,a,i,kc⟩,ok f fd F,F.binds b⟩
end
section
variable {X:Cx}{C:Aj}{x m:Str}{k:Nat}{sp:Sp}{E:St→XK}{p pos apos:Pos}{e o:Expr}{es:List Expr}{ta:TE}{t:TA}
theorem Z1 (c:CCal X.prog X.w X.K X.mg X.base x C k sp)(hr:Room (k+1) X.A)(hg:Gl X x)(hx:k7 X E)
  (ha:PA X (e::es) t) (hdb:(x==("__debug__" : Str))=false:=by decide) (he:starEach (e::es) X.env=(false,eval e X.env)::starEach es X.env:=by rfl) (hpl:(backTo pos (starEach es X.env)).any (·.1)=false:=by rfl) :
  PE X (.Call (.Name x p) (e::es) [] pos) (qv0 C sp E t):=by
 obtain ⟨f,fd,ps,hm,M,F,b⟩:=c.ex
 exact wqx M F hr hg hm b hx ha hdb he hpl
theorem wqw {pl:Sem Bool}(he:PE X o ta)(cl:Cls X.K C)(c:MCal X.prog X.w X.K X.mg X.base C m k sp)(hr:Room k X.A)(hx:k7 X E)(ha:PA X (e::es) t)
  (hst:starEach (e::es) X.env=(false,eval e X.env)::starEach es X.env:=by rfl) (hpl:(backTo pos (starEach es X.env)).any (·.1)=false:=by rfl)
  (ht:eval (.Call (.Attribute o m apos) (e::es) [] pos) X.env=(do
   let ov ←eval o X.env
   standAt apos.atName
   let (f,first) ←holding [ov] (getMethod ov m pl)
   callWith pos f first (backTo pos (starEach (e::es) X.env)) (backToKw pos (keywordEach [] X.env))):=by rfl) :
  PE X (.Call (.Attribute o m apos) (e::es) [] pos) (Zn C m sp E ta t):=by
 obtain ⟨f,fd,ps,hm,F,b⟩:=c.ex
 exact wqf he cl hm F hr b hx ha hst hpl ht
theorem yf {pl:Sem Bool}(he:PE X o ta)(cl:Cls X.K C)(c:MCal X.prog X.w X.K X.mg X.base C m k sp)(hr:Room k X.A)(hx:k7 X E)
  (ht:eval (.Call (.Attribute o m apos) [] [] pos) X.env=(do
   let ov ←eval o X.env
   standAt apos.atName
   let (f,first) ←holding [ov] (getMethod ov m pl)
   callWith pos f first (backTo pos (starEach [] X.env)) (backToKw pos (keywordEach [] X.env))):=by rfl) :
  PE X (.Call (.Attribute o m apos) [] [] pos) (Zn C m sp E ta Jc):=by
 obtain ⟨f,fd,ps,hm,F,b⟩:=c.ex
 exact qjx he cl hm F hr b hx ht
end
end L2
namespace L2
open PySem
def hAt (hs:List Int)(k:Int):Int:=hs.getD k.toNat 0
def kF (hs:List Int)(t b:Int):Int:=if (hs.length:Int)-1-1<t/b then (hs.length:Int)-1-1 else t/b
def v9 (hs:List Int)(t b:Int):Int:=hAt hs (kF hs t b)*b+(hAt hs (kF hs t b+1)-hAt hs (kF hs t b))*(t-kF hs t b*b)
theorem quq {hs:List Int}{t b:Int}(hl:2≤hs.length)(hb:1≤b)(h0:0≤t):0≤kF hs t b∧kF hs t b<(hs.length:Int)-1:=by
 have h:=eo h0 (show (0:Int)≤b by lia)
 unfold kF
 split <;> lia
theorem qyt {hs:List Int}{t b c:Int}(hc:1≤c):kF hs (t*c) (b*c)=kF hs t b:=by
 unfold kF
 rw [cu _ _ (show 0<c by lia)]
theorem qxf {hs:List Int}{t b c:Int}(hc:1≤c):v9 hs (t*c) (b*c)=v9 hs t b*c:=by
 unfold v9
 rw [qyt hc]
 generalize hAt hs (kF hs t b)=u
 generalize hAt hs (kF hs t b+1)=v
 generalize kF hs t b=k
 grind
theorem div_in {k t b:Int}(hb:1≤b)(h1:k*b≤t)(h2:t<(k+1)*b):t/b=k:=by
 have a1:k≤t/b:=(Int.le_ediv_iff_mul_le (by lia)).mpr h1
 have a2:t/b<k+1:=(Int.ediv_lt_iff_lt_mul (by lia)).mpr h2
 lia
theorem qzk {hs:List Int}{k t b:Int}(hk:0≤k)(hk2:k<(hs.length:Int)-1)(hb:1≤b)(h1:k*b≤t)(h2:t≤(k+1)*b) :
  v9 hs t b=hAt hs k*b+(hAt hs (k+1)-hAt hs k)*(t-k*b):=by
 by_cases hlt:t<(k+1)*b
 ·have e:=div_in hb h1 hlt
  have ek:kF hs t b=k:=by
   unfold kF
   rw [e]
   split <;> lia
  unfold v9
  rw [ek]
 ·have et:t=(k+1)*b:=by lia
  have e:t/b=k+1:=by
   rw [et]
   exact Int.mul_ediv_cancel _ (by lia)
  by_cases hn:(hs.length:Int)-1-1<k+1
  ·have ek:kF hs t b=k:=by
    unfold kF
    rw [e,ak hn]
    lia
   unfold v9
   rw [ek]
  ·have ek:kF hs t b=k+1:=by
    unfold kF
    rw [e,aj hn]
   unfold v9
   rw [ek,et]
   generalize hAt hs k=u
   generalize hAt hs (k+1)=v
   generalize hAt hs (k+1+1)=z
   grind
def js (hs:List Int)(t b:Int):Int×Int:=wp (v9 hs t b) b
theorem qqw {hs:List Int}{t b:Int}(hb:1≤b):js hs (wp t b).1 (wp t b).2=js hs t b:=by
 unfold js
 have hg:=k6 (t:=t) hb
 have e1:(wp t b).1*gOf t b=t:=by rw [ee];exact qx2
 have e2:(wp t b).2*gOf t b=b:=by rw [ee];exact Zt hb
 have h:=qxf (hs:=hs) (t:=(wp t b).1) (b:=(wp t b).2) hg
 rw [e1,e2] at h
 rw [h]
 conv=>rhs;rw [←e2]
 rw [e2]
 have:=qkh (t:=v9 hs (wp t b).1 (wp t b).2) (b:=(wp t b).2) (Qm hb) hg
 rw [e2] at this
 exact this.symm
theorem Zw {t b:Int}(hb:1≤b):(wp t b).1<0↔t<0:=by
 have hg:=k6 (t:=t) hb
 have e1:gOf t b*(wp t b).1=t:=qx2
 constructor
 ·intro h
  have:=dI h (show 0<gOf t b by lia)
  rw [e1,Int.mul_zero] at this
  exact this
 ·intro h
  rcases bT (wp t b).1 0 with z|z
  ·exact z
  ·have:=bi z (show 0≤gOf t b by lia)
   rw [e1,Int.mul_zero] at this
   lia
theorem qvt {t b n:Int}(hb:1≤b):n*(wp t b).2<(wp t b).1↔n*b<t:=by
 have hg:=k6 (t:=t) hb
 have e1:gOf t b*(wp t b).1=t:=qx2
 have e2:gOf t b*(wp t b).2=b:=Zt hb
 have e3:gOf t b*(n*(wp t b).2)=n*b:=by
  generalize gOf t b=g at *
  generalize (wp t b).2=y at *
  grind
 constructor
 ·intro h
  have:=dI h (show 0<gOf t b by lia)
  rw [e1,e3] at this
  exact this
 ·intro h
  rcases bT (n*(wp t b).2) (wp t b).1 with z|z
  ·exact z
  ·have:=bi z (show 0≤gOf t b by lia)
   rw [e1,e3] at this
   lia
theorem qqy {N b:Int}(hb:1≤b):b%(wp N b).2=0∧(wp N b).1*(b/(wp N b).2)=N:=by
 have hy:=Qm (t:=N) hb
 have cr:=qju (t:=N) hb
 have hd:(wp N b).2∣b:=⟨gOf N b,by rw [ee];exact (Zt hb).symm⟩
 refine ⟨Int.emod_eq_zero_of_dvd hd,?_⟩
 have e:=dh hd
 generalize b/(wp N b).2=q at *
 generalize (wp N b).1=x at *
 generalize (wp N b).2=y at *
 have:y*(x*q-N)=0:=by grind
 rcases Int.mul_eq_zero.mp this with h|h <;> lia
def qkb (hs:List Int)(t b:Int):Int:=if t/b*b=t then hAt hs (t/b)*b else hAt hs (t/b)*b+(hAt hs (t/b+1)-hAt hs (t/b))*(t-t/b*b)
theorem wqq {hs:List Int}{t b:Int}(hl:2≤hs.length)(hb:1≤b)(h0:0≤t)(h1:t≤((hs.length:Int)-1)*b):qkb hs t b=v9 hs t b:=by
 have k0:=eo h0 (show (0:Int)≤b by lia)
 have k1:t/b*b≤t:=eu t (by lia)
 have k2:t<(t/b+1)*b:=by
  have:=dq t (show 0<b by lia)
  exact this
 unfold qkb
 by_cases hlt:t/b<(hs.length:Int)-1
 ·rw [qzk k0 hlt hb k1 (Int.le_of_lt k2)]
  split
  ·next e=>rw [e];simp
  ·rfl
 ·have ge:(hs.length:Int)-1≤t/b:=by lia
  have m1:=aG ge (show 0≤b by lia)
  have et:t/b*b=t:=by lia
  have ek:t/b=(hs.length:Int)-1:=by
   have:t/b*b=((hs.length:Int)-1)*b:=by lia
   exact Int.eq_of_mul_eq_mul_right (by lia) this
  rw [ak et]
  have et2:t=((hs.length:Int)-1)*b:=by rw [←ek];exact et.symm
  rw [qzk (k:=(hs.length:Int)-1-1) (by lia) (by lia) hb (by rw [et2];exact aG (by lia) (by lia)) (by rw [et2];exact aG (by lia) (by lia)),ek]
  have e5:(hs.length:Int)-1-1+1=(hs.length:Int)-1:=by lia
  rw [e5,et2]
  generalize hAt hs ((hs.length:Int)-1)=u
  generalize hAt hs ((hs.length:Int)-1-1)=v
  generalize (hs.length:Int)-1=n
  grind
theorem qy9 {u v b d:Int}(hb:0≤d)(hd:d≤b):(if v<u then v else u)*b≤u*b+(v-u)*d∧u*b+(v-u)*d≤(if v>u then v else u)*b:=by
 by_cases h:v<u
 ·rw [ak h,aj (by lia)]
  have a1:=bi hd (show 0≤u-v by lia)
  have a2:=cU (show 0≤u-v by lia) hb
  constructor <;> grind
 ·rw [aj h]
  have a1:=bi hd (show 0≤v-u by lia)
  have a2:=cU (show 0≤v-u by lia) hb
  by_cases h2:v>u
  ·rw [ak h2]
   constructor <;> grind
  ·rw [aj h2]
   have:v=u:=by lia
   subst this
   constructor <;> grind
end L2
namespace L2
open PySem PySem.Spec PyProof.Rows
def qkw (J:It)(M:List Nat)(tt:TT)(te:TE)(σ:St)(H1:Hp)(Q:VK):Prop:=∀p,H1 p=none→∃W:Nat→Nat→List V→Hp→Prop,(∃m,W 0 m [] (upd H1 p (.lst []))) ∧
 ∀i m ys H2,W i m ys H2→H2 p=some (.lst ys)∧ys.length<sizeLine∧((J.stop i H2∧Q (.ref p) H2)∨(J.go i H2∧∀v H3,J.yld i H2 v H3 →
  tt (zp M σ (some v)) H3 λb H4=>if b=true then te (zp M σ (some v)) H4 (λy H5=>H5 p=some (.lst ys)∧∃m',m'<m∧W (i+1) m' (ys++[y]) (upd H5 p (.lst (ys++[y])))) else H4 p=some (.lst ys)∧∃m',m'<m∧W (i+1) m' ys H4))
def tCompI (M:List Nat)(wi:TI)(tt:TT)(te:TE):TE:=λσ H Q=>wi σ H λJ H1=>qkw J M tt te σ H1 Q
section
variable {X:Cx}{elt iter cd:Expr}{x:Str}{px pos:Pos}{scope:Scope}{cl:List (Str×Aj)}{M:List Nat}{wi:TI}{tt:TT}{te:TE}
theorem qj8 (hc:X.calm=true)(hclos:closureFor scope X.env=pure cl)(hcap:CapAll X.env cl)(hhas:HasAll cl scope.names)(hix:CapIx X scope cl M)(hk:scope.kind=.function)
  (hnames:∀y∈scope.names,y.2=.local→scope.names.lookup y.1=some .local) (hx:scope.names.lookup x=some .local) (hnd:(Yv X x M).Nodup) (hi:PI X (.Name x px) iter wi)
  (ht:∀C s2 H2 fp pn,PT (zg X scope cl x M C s2 H2 fp pn) cd tt) (he:∀C s2 H2 fp pn,PE (zg X scope cl x M C s2 H2 fp pn) elt te) (hs:∀z,foldedSetIterable iter X.env z=pure z)
  {use:Option (Ag→Sem Unit)} {QQ:Ag→Ab→Prop} {pins:List (Aj×Obj)} {s:Ab} {σ:St} {H:Hp} {Q:VK} {ps:Pos} (I:Inv X pins σ H s) (h:wi σ H λJ H1=>qkw J M tt te σ H1 Q)
  (fin:∀(C:Aj) (s2 s4:Ab) (H1 H2:Hp) (fp:List Aj),Inv X pins σ H1 s2→s2.heap.objs.size<C→(∀b∈fp,km X pins H1 b)→Inv (zg X scope cl x M C s2 H1 fp (X.pn++pins)) [] (zp M σ none) H2 s4→Q (.ref s2.heap.objs.size) H2 →
   compPost (model X.prog X.w) X.A X.xe use QQ (.ref s2.heap.objs.size) C (.ok .next) s4) :
  wpAny (model X.prog X.w) X.A (comprehension (.ListComp elt [⟨.Name x px,iter,[cd],0⟩] scope pos) scope X.env ps (newList []) false (eval iter X.env) use) QQ X.xe s:=by
 refine Jt hclos hhas hk hnames hi hs I h λit fp tn J H1 s2 C h3 tk I2 T t3 hfp hbl hob hR hlt keep hns hD=>?_
 obtain ⟨W,⟨m0,w0⟩,hW⟩:=hR s2.heap.objs.size (I2.hok.fresh (af _))
 have hxl:(relabel scope X.env).names.lookup x=some .local:=dj hx
 refine Q6 (Y:=zg X scope cl x M C s2 H1 fp (X.pn++pins)) (V:=λi n H2=>∃ys,W i n ys H2) (Qd:=Q (.ref s2.heap.objs.size)) (REST:=tstS cd (compEnvC scope cl C X.env) (appS elt (.ref s2.heap.objs.size) (compEnvC scope cl C X.env) _) (again _)) T hc (λ_ _ z=>z) (compTurn_list ..) rfl rfl (xp (i:=0) hnd rfl (.inl hxl) (.inr hxl)) (qwm hcap I2 hlt hfp hbl) (λi n H2 ⟨ys,w⟩=>?_) (λH2 s4 J4 q=>fin C s2 s4 H1 H2 fp I2 hlt hfp J4 q) (I2.comp hcap hhas hix hk hlt keep hns hD hfp hob) ⟨[],w0⟩ t3 λb hb=>by rw [wc (ao (hbl b hb))];exact (hfp b hb).1
 obtain ⟨hp,hz,hcase⟩:=hW i n ys H2 w
 refine hcase.imp id λ⟨hgo,hy⟩=>⟨hgo,λv H3 yl=>⟨λσ4 H4=>σ4=zp M σ (some v)∧H3=H4,⟨rfl,rfl⟩,λ_ _ e=>?_⟩⟩
 obtain ⟨rfl,rfl⟩:=e
 refine ⟨y7 M σ v,λpins' s' J=>?_⟩
 exact www (ht _ _ _ _ _) J (hy v H3 yl) (λs6 H6 J6 h6=>aK (qx4 (N:=λzs H5=>∃m',m'<n∧W (i+1) m' zs H5) (λ_ _ z=>z) (he _ _ _ _ _) J6 hz h6) (λr s5 ⟨e,H5,J5,zs,m',hm,w'⟩=>⟨e,H5,J5,m',hm,zs,w'⟩) λ_ _ z=>z)
  λs6 H6 J6 ⟨_,m',hm,w'⟩=>ag ⟨rfl,H6,J6,m',hm,ys,w'⟩
theorem qy5 (hc:X.calm=true)(hclos:closureFor scope X.env=pure cl)(hcap:CapAll X.env cl)(hhas:HasAll cl scope.names)(hix:CapIx X scope cl M)(hk:scope.kind=.function)
  (hnames:∀y∈scope.names,y.2=.local→scope.names.lookup y.1=some .local) (hx:scope.names.lookup x=some .local) (hnd:(Yv X x M).Nodup) (hi:PI X (.Name x px) iter wi)
  (ht:∀C s2 H2 fp pn,PT (zg X scope cl x M C s2 H2 fp pn) cd tt) (he:∀C s2 H2 fp pn,PE (zg X scope cl x M C s2 H2 fp pn) elt te) (hs:∀z,foldedSetIterable iter X.env z=pure z:=by intro _;rfl) :
  PE X (.ListComp elt [⟨.Name x px,iter,[cd],0⟩] scope pos) (tCompI M wi tt te):=by
 intro pins s σ H Q I h
 rw [eval_ListComp]
 refine qj8 hc hclos hcap hhas hix hk hnames hx hnd hi ht he hs (use:=none) I h λC s2 s4 H1 H2 fp I2 hlt hfp J4 hq=>?_
 obtain ⟨m,hn,_⟩:=J4.loc
 exact ⟨m,hn,λh' hs'=>⟨.ref s2.heap.objs.size,H2,I2.uncomp (bw hlt) hfp J4 hs',rfl,hq⟩⟩
end
end L2
namespace L2
open PySem PySem.Spec PyProof.Rows
structure FunD (K:Aa)(x:Str)(st:Stmt)(f:Aj)(fd:Ad):Prop where
 ex:∃(oc:Ag) (od:Option Aj) (T:Aj) (kV doc pm:Ag) (an:Option Aj) (cdv ct:Ag) (osl:Array (Option Ag)),
  fd=PySem.W.fnOf x x (vc st) (wz st) (wb st) (.ref T) kV doc pm an cdv ct∧K.lookup f=some ⟨oc,od,.func fd,osl⟩∧PySem.W.codeIn K cdv x=true∧∃o n,K.lookup T=some o∧o.data=.seq #[.none] n
 kp:PySem.W.keepIn K (.ref f)=true
structure DefInD (K:Aa)(x:Str)(st:Stmt):Prop where
 ex:∃f fd,PySem.W.nsIn K mainGlobals x=some (some (.ref f))∧FunD K x st f fd
section
variable {P:Ac}{w:Ah}{K:Aa}{mg:Str→Option Ag}{base:Heap}
theorem wzx {x:Str}{st:Stmt}{f T:Aj}{oc:Ag}{od an:Option Aj}{osl:Array (Option Ag)}{kV doc pm cdv ct:Ag}(a:PySem.W.nsIn K mainGlobals x=some (some (.ref f)))
  (l:K.lookup f=some ⟨oc,od,.func (PySem.W.fnOf x x (vc st) (wz st) (wb st) (.ref T) kV doc pm an cdv ct),osl⟩) (c:PySem.W.codeIn K cdv x=true) (k:PySem.W.keepIn K (.ref f)=true) {tc:Ag} {td:Option Aj} {tn:Nat} {ts:Array (Option Ag)} (t:K.lookup T=some ⟨tc,td,.seq #[.none] tn,ts⟩):DefInD K x st:=⟨_,_,a,⟨oc,od,T,kV,doc,pm,an,cdv,ct,osl,rfl,l,c,_,_,t,rfl⟩,k⟩
theorem FunD.okX {x:Str}{st:Stmt}{f:Aj}{fd:Ad}{N ps:List Str}{k:Nat}{sp:Sp}(F:FunD K x st f fd)(S:FnScope N ps (wb st))(len:∀vs H Q E,sp vs H Q E→vs.length=ps.length)
  (body:∀(cdv:Ag) (A:Ae) (outer:List Env) (s:Ab) (H:Hp) (vs:List V) (Q:VK) (E:XK),Room k (A.deeper (envOfC x (wb st) s.heap.objs.size f cdv))→sp vs H Q E →
   ∃t,PSs (Qq (CXE P w) P w K mg base N x (wb st) f cdv A outer s H E) (wz st) t∧t { nx:=λ_ H'=>Q .non H',rt:=Q } (uc N vs) H):FnOk P w K mg base (CXE P w) (k+1) f fd ps sp:=by
 obtain ⟨oc,od,T,kV,doc,pm,an,cdv,ct,osl,rfl,lk,hcd,_⟩:=F.ex
 exact fn_of lk hcd S len λA outer s H vs Q E hr hsp=>body cdv A outer s H vs Q E hr hsp
def Qc (x:Str)(st:Stmt)(ps:List Str)(ds:List Ag):Prop:=∀(T:Aj) (kV doc pm:Ag) (an:Option Aj) (cdv ct:Ag) (us:List Ag),(us++ds).length=ps.length →
 ∃kk,bindArgs (PySem.W.fnOf x x (vc st) (wz st) (wb st) (.ref T) kV doc pm an cdv ct) ⟨us,[]⟩=seqItems? (.ref T) >>= kk∧kk (some #[.none])=pure (ps.zip (us++ds))
structure CalD (P:Ac)(w:Ah)(K:Aa)(mg:Str→Option Ag)(base:Heap)(x:Str)(k:Nat)(sp:Sp):Prop where
 ex:∃f fd ps,mg x=some (.ref f)∧FnOk P w K mg base (CXE P w) k f fd ps sp∧PySem.W.keepIn K (.ref f)=true∧Binds K fd ps []∧Binds K fd ps [.none]
theorem FunD.binds {x:Str}{st:Stmt}{f:Aj}{fd:Ad}{ps:List Str}{ds:List Ag}(F:FunD K x st f fd)(b:Qc x st ps ds):Binds K fd ps ds:=by
 obtain ⟨oc,od,T,kV,doc,pm,an,cdv,ct,osl,rfl,lk,hcd,o,n,e1,e2⟩:=F.ex
 intro s us X hl
 obtain ⟨kk,h1,h2⟩:=b T kV doc pm an cdv ct us hl
 exact PySem.W.binds_K X rfl e1 e2 h1 h2
theorem DefInD.cal {x:Str}{st:Stmt}{ps:List Str}{k:Nat}{sp:Sp}{h:Heap}(d:DefInD K x st)(KX:K.In h)(G:h.Ns mainGlobals mg)(b:Qc x st ps [])(b':Qc x st ps [.none])(ok:∀f fd,FunD K x st f fd→FnOk P w K mg base (CXE P w) k f fd ps sp):CalD P w K mg base x k sp:=by
 obtain ⟨f,fd,a,F⟩:=d.ex
 exact ⟨f,fd,ps,aF KX G a,ok f fd F,F.kp,F.binds b,F.binds b'⟩
theorem CalD.all {x:Str}{k:Nat}{sp:Sp}(c:CalD P w K mg base x k sp):Cal P w K mg base x k sp:=by
 obtain ⟨f,fd,ps,h1,h2,h3,h4,_⟩:=c.ex
 exact ⟨f,fd,ps,h1,h2,h3,h4⟩
end
section
variable {X:Cx}{x:Str}{k:Nat}{sp:Sp}{E:St→XK}{p pos:Pos}{e:Expr}{es:List Expr}{t:TA}
end
end L2
namespace L2
open PySem PySem.Spec PyProof.Rows
section
variable {κ:Type}[DecidableEq κ]
def xv (kvs:List (κ×V))(k:κ):Option V:=(kvs.find? λkv=>decide (kv.1=k)).map (·.2)
def zf (kvs:List (κ×V))(k:κ)(v:V):List (κ×V) :=
 if (kvs.any λkv=>decide (kv.1=k))=true then kvs.map (λkv=>if kv.1=k then (kv.1,v) else kv) else kvs++[(k,v)]
def qqb (kvs:List (κ×V))(k:κ):List (κ×V):=kvs.filter λkv=>decide (kv.1≠k)
theorem z5 {p:κ×V}{r:List (κ×V)}{k:κ}(e:p.1=k):xv (p::r) k=some p.2:=by simp [xv,bH,e]
theorem zt {p:κ×V}{r:List (κ×V)}{k:κ}(e:¬ p.1=k):xv (p::r) k=xv r k:=by simp [xv,bH,e]
theorem j0 (k:κ):∀kvs:List (κ×V),(kvs.any λkv=>decide (kv.1=k))=(xv kvs k).isSome
 |[]=>rfl
 |p::r=>by
  rw [eF]
  by_cases e:p.1=k
  ·simp only [z5 e,aP e,Bool.true_or,Option.isSome_some]
  ·rw [zt e,aV e,Bool.false_or];exact j0 k r
theorem qxh (k j:κ)(y:V):∀kvs:List (κ×V),xv (kvs.map λkv=>if kv.1=k then (kv.1,y) else kv) j=(xv kvs j).map λx=>if j=k then y else x
 |[]=>rfl
 |p::r=>by
  have ih:=qxh k j y r
  rw [aD]
  by_cases h:p.1=k
  ·rw [ak h]
   by_cases e:p.1=j
   ·rw [z5 (p:=(p.1,y)) e,z5 e,cv,ak (e.symm.trans h)]
   ·rw [zt (p:=(p.1,y)) e,zt e,ih]
  ·rw [aj h]
   by_cases e:p.1=j
   ·rw [z5 (p:=p) e,z5 e,cv,aj (λz=>h (e.trans z))]
   ·rw [zt (p:=p) e,zt e,ih]
theorem Wz (k j:κ)(y:V):∀kvs:List (κ×V),xv kvs k=none→xv (kvs++[(k,y)]) j=if j=k then some y else xv kvs j
 |[],_=>by
  by_cases e:k=j
  ·rw [ak e.symm];exact z5 (p:=(k,y)) e
  ·rw [aj (λz=>e z.symm)];exact zt (p:=(k,y)) e
 |p::r,hn=>by
  rw [List.cons_append]
  have hk:¬ p.1=k:=λz=>by rw [z5 z] at hn;cases hn
  rw [zt hk] at hn
  have ih:=Wz k j y r hn
  by_cases e:p.1=j
  ·rw [z5 e,z5 e,aj (λz=>hk (e.trans z))]
  ·rw [zt e,zt e,ih]
theorem yz (kvs:List (κ×V))(k j:κ)(y:V):xv (zf kvs k y) j=if j=k then some y else xv kvs j:=by
 unfold zf
 by_cases a:(kvs.any λkv=>decide (kv.1=k))=true
 ·rw [ak a,qxh]
  rw [j0] at a
  by_cases e:j=k
  ·obtain ⟨x,hx⟩:=dW.mp a
   rw [ak e,e,hx,cv,ak rfl]
  ·rw [aj e]
   cases xv kvs j with
   |none=>rfl
   |some x=>rw [cv,aj e]
 ·rw [aj a]
  refine Wz k j y kvs ?_
  rw [j0] at a
  cases q:xv kvs k with
  |none=>rfl
  |some x=>rw [q] at a;exact (a rfl).elim
theorem v3 (kvs:List (κ×V))(k:κ)(v:V):(zf kvs k v).length≤kvs.length+1:=by
 unfold zf
 split
 ·rw [ae];lia
 ·rw [aU,aQ,cL];lia
theorem jw {kvs:List (κ×V)}{k:κ}(v:V)(h:xv kvs k=none):zf kvs k v=kvs++[(k,v)]:=by
 unfold zf
 rw [j0,h]
 exact aj (by decide)
theorem RelO.isSome_eq {o:Option V}{u:Option Ag}(r:RelO o u):o.isSome=u.isSome:=by
 cases o with
 |none=>cases u with
  |none=>rfl
  |some _=>exact (show False from r).elim
 |some _=>cases u with
  |none=>exact (show False from r).elim
  |some _=>rfl
theorem RelO.getD {o:Option V}{u:Option Ag}{d:V}{d':Ag}(r:RelO o u)(rd:RelV d d'):RelV (o.getD d) (u.getD d'):=by
 cases o with
 |none=>cases u with
  |none=>exact rd
  |some _=>exact (show False from r).elim
 |some _=>cases u with
  |none=>exact (show False from r).elim
  |some _=>exact r
theorem KV.val {kvs:List (κ×V)}{vs:List (κ×Ag)}(r:KV kvs vs)(k:κ):RelO (xv kvs k) (valueAt vs k):=by
 unfold KV at r
 induction r with
 |nil=>exact True.intro
 |@cons p q ps qs h t ih =>
  obtain ⟨h1,h2⟩:=h
  by_cases e:p.1=k
  ·have e':q.1=k:=h1.symm.trans e
   have b:valueAt (q::qs) k=some q.2:=by simp [valueAt,bH,e']
   rw [z5 e,b];exact h2
  ·have e':¬ q.1=k:=λz=>e (h1.trans z)
   have b:valueAt (q::qs) k=valueAt qs k:=by simp [valueAt,bH,e']
   rw [zt e,b];exact ih
theorem KV.any {kvs:List (κ×V)}{vs:List (κ×Ag)}(r:KV kvs vs)(k:κ):(kvs.any λkv=>decide (kv.1=k))=vs.any λkv=>decide (kv.1=k):=by
 unfold KV at r
 induction r with
 |nil=>rfl
 |cons h t ih=>rw [eF,eF,ih,h.1]
theorem KV.repl {kvs:List (κ×V)}{vs:List (κ×Ag)}(r:KV kvs vs)(k:κ){y:V}{u:Ag}(ry:RelV y u) :
  KV (kvs.map λkv=>if kv.1=k then (kv.1,y) else kv) (vs.map λkv=>if kv.1=k then (kv.1,u) else kv):=by
 unfold KV at r ⊢
 induction r with
 |nil=>exact .nil
 |@cons p q ps qs h t ih =>
  rw [aD,aD]
  refine .cons ?_ ih
  obtain ⟨h1,h2⟩:=h
  by_cases e:p.1=k
  ·rw [ak e,ak (h1.symm.trans e)];exact ⟨h1,ry⟩
  ·rw [aj e,aj (λz=>e (h1.trans z))];exact ⟨h1,h2⟩
theorem KV.put {kvs:List (κ×V)}{vs:List (κ×Ag)}(r:KV kvs vs)(k:κ){y:V}{u:Ag}(ry:RelV y u):KV (zf kvs k y) (stored vs k u):=by
 unfold zf stored
 rw [r.any k]
 by_cases e:(vs.any λkv=>decide (kv.1=k))=true
 ·rw [ak e,ak e];exact r.repl k ry
 ·rw [aj e,aj e];exact Paired.snoc r ⟨rfl,ry⟩
theorem KV.drop {kvs:List (κ×V)}{vs:List (κ×Ag)}(r:KV kvs vs)(k:κ):KV (qqb kvs k) (without vs k):=by
 unfold KV at r ⊢
 unfold qqb without
 induction r with
 |nil=>exact .nil
 |@cons p q ps qs h t ih =>
  obtain ⟨h1,h2⟩:=h
  rw [bY,bY]
  by_cases e:p.1=k
  ·have a:¬ decide (p.1≠k)=true:=by simp [e]
   have b:¬ decide (q.1≠k)=true:=by simp [h1.symm.trans e]
   rw [aj a,aj b];exact ih
  ·have e':¬ q.1=k:=λz=>e (h1.trans z)
   have a:decide (p.1≠k)=true:=by simp [e]
   have b:decide (q.1≠k)=true:=by simp [e']
   rw [ak a,ak b];exact .cons ⟨h1,h2⟩ ih
theorem KV.length {kvs:List (κ×V)}{vs:List (κ×Ag)}(r:KV kvs vs):kvs.length=vs.length:=bb r
theorem qxm (kvs:List (κ×V))(k:κ):(qqb kvs k).length≤kvs.length:=cw _ _
end
theorem y0 {P:Ac}{w:Ah}{k:Key}{u:Ag}(r:RelV (kV k) u):(xj P w).is k u=true:=by
 cases k with
 |inl i=>obtain ⟨t,e⟩:=(show ∃t,u=Value.int i t from r);subst e;exact qzy P w i t
 |inr x=>obtain ⟨t,e⟩:=(show ∃t,u=Value.str x t from r);subst e;exact qw8 P w x t
theorem Jm {P:Ac}{w:Ah}:∀ {ks:List Key} {us:List Ag},Vals (ks.map kV) us→ItemsAre (xj P w) ks us
 |[],_,r=>by rw [cb] at r;cases r;exact .nil
 |k::ks,_,r=>by
  rw [aD] at r
  cases r with
  |cons h t=>exact .cons (y0 h) (Jm t)
abbrev KT (H:Hp):List (List Key×V)→List (List Key×Aj×Ag)→Prop:=Paired λp q=>p.1=q.1∧H q.2.1=some (.tup (p.1.map kV))∧RelV p.2 q.2.2
theorem KT.val {H:Hp}{kvs:List (List Key×V)}{xs:List (List Key×Aj×Ag)}(r:KT H kvs xs)(k:List Key):RelO (xv kvs k) ((atKey xs k).map (·.2)):=by
 induction r with
 |nil=>exact True.intro
 |@cons p q ps qs h t ih =>
  obtain ⟨h1,_,h2⟩:=h
  by_cases e:p.1=k
  ·have e':q.1=k:=h1.symm.trans e
   have b:atKey (q::qs) k=some q.2:=by simp [atKey,bH,e']
   rw [z5 e,b];exact h2
  ·have e':¬ q.1=k:=λz=>e (h1.trans z)
   have b:atKey (q::qs) k=atKey qs k:=by simp [atKey,bH,e']
   rw [zt e,b];exact ih
theorem KT.repl {H:Hp}{kvs:List (List Key×V)}{xs:List (List Key×Aj×Ag)}(r:KT H kvs xs)(k:List Key){y:V}{u:Ag}(ry:RelV y u) :
  KT H (kvs.map λkv=>if kv.1=k then (kv.1,y) else kv) (xs.map (putAt k u)):=by
 induction r with
 |nil=>exact .nil
 |@cons p q ps qs h t ih =>
  rw [aD,aD]
  refine .cons ?_ ih
  obtain ⟨h1,h2,h3⟩:=h
  unfold putAt
  by_cases e:p.1=k
  ·rw [ak e,ak (h1.symm.trans e)];exact ⟨h1,h2,ry⟩
  ·rw [aj e,aj (λz=>e (h1.trans z))];exact ⟨h1,h2,h3⟩
theorem KT.put {H:Hp}{kvs:List (List Key×V)}{xs:List (List Key×Aj×Ag)}(r:KT H kvs xs)(k:List Key){b:Aj}{y:V}{u:Ag}(hb:H b=some (.tup (k.map kV)))(ry:RelV y u) :
  KT H (zf kvs k y) (storedH xs k b u):=by
 have e:(kvs.any λkv=>decide (kv.1=k))=(atKey xs k).isSome:=by
  rw [j0,(r.val k).isSome_eq,dQ]
 unfold zf storedH
 rw [e]
 by_cases q:(atKey xs k).isSome=true
 ·rw [ak q,ak q];exact r.repl k ry
 ·rw [aj q,aj q];exact Paired.snoc r ⟨rfl,hb,ry⟩
theorem KT.keeps {H H':Hp}{kvs:List (List Key×V)}{xs:List (List Key×Aj×Ag)}(r:KT H kvs xs)(ht:∀b ys,H b=some (.tup ys)→H' b=some (.tup ys)):KT H' kvs xs :=
 Paired.mapP r λ_ _ z=>⟨z.1,ht _ _ z.2.1,z.2.2⟩
section
variable {P:Ac}{w:Ah}{H:Hp}{h:Heap}{a:Aj}
theorem rd_of {u:HO}(ok:HOk P w H h)(e:Rd H a u):ObjOk P w H h a u:=e.ok ok
theorem ud {kvs:List (Key×V)}(ok:HOk P w H h)(e:Rd H a (.dK kvs)):kvs.length≤sizeLine∧(a==sysModules)=false∧∃vs,KV kvs vs∧h.DictOf (xj P w) a vs :=
 show ObjOk P w H h a (.dK kvs) from rd_of ok e
theorem qqz {kvs:List (Key×V)}(ok:HOk P w H h)(e:H a=some (.dK kvs)):kvs.length≤sizeLine∧(a==sysModules)=false∧∃vs,KV kvs vs∧h.DictOf (xj P w) a vs:=ud ok (.inl e)
theorem j9 {ks:List Key}(ok:HOk P w H h)(e:H a=some (.tup (ks.map kV))):(tupleKind (xj P w)).is h ks a:=by
 obtain ⟨_,its,r,o,h1,h2,n,h3⟩:=(show ObjOk P w H h a (.tup (ks.map kV)) from ok a _ e)
 exact ⟨o,its.toArray,n,h1,h2,h3,by simpa using Jm r⟩
theorem Qf {kvs:List (List Key×V)}(ok:HOk P w H h)(e:Rd H a (.dT kvs)):kvs.length≤sizeLine∧(a==sysModules)=false ∧
  ∃xs,KT H kvs xs∧h.DictOfH (tupleKind (xj P w)) a xs:=by
 obtain ⟨z,y,xs,r,o,es,ep,h1,h2,h3,h4,h5⟩:=(show ObjOk P w H h a (.dT kvs) from rd_of ok e)
 refine ⟨z,y,xs,r,o,es,ep,h1,h2,h3,h4,λx hx=>?_,h5⟩
 have all:∀ {l:List (List Key×V)} {m:List (List Key×Aj×Ag)},KT H l m→∀x∈m,(tupleKind (xj P w)).is h x.1 x.2.1:=by
  intro l m q
  induction q with
  |nil=>intro x hx;exact nomatch hx
  |@cons p q ps qs hq t ih =>
   intro x hx
   rcases aq.mp hx with e|hx
   ·subst e
    exact j9 ok (by rw [←hq.1];exact hq.2.1)
   ·exact ih x hx
 exact all r x hx
theorem dt_of {kvs:List (List Key×V)}(ok:HOk P w H h)(e:H a=some (.dT kvs)):kvs.length≤sizeLine∧(a==sysModules)=false ∧
  ∃xs,KT H kvs xs∧h.DictOfH (tupleKind (xj P w)) a xs:=Qf ok (.inl e)
end
def DGet (H:Hp)(a:Aj)(y:V)(r:Option V):Prop :=
 (∃kvs k,Rd H a (.dK kvs)∧y=kV k∧r=xv kvs k)∨∃kvs k b,Rd H a (.dT kvs)∧y=.ref b∧H b=some (.tup (k.map kV))∧r=xv kvs k
def DPut (H:Hp)(a:Aj)(y v:V)(H':Hp):Prop :=
 (∃kvs k,H a=some (.dK kvs)∧y=kV k∧kvs.length<sizeLine∧H'=upd H a (.dK (zf kvs k v))) ∨
 ∃kvs k b,H a=some (.dT kvs)∧y=.ref b∧H b=some (.tup (k.map kV))∧kvs.length<sizeLine∧H'=upd H a (.dT (zf kvs k v))
theorem DGet.k {H:Hp}{a:Aj}{kvs:List (Key×V)}{k:Key}(e:H a=some (.dK kvs)):DGet H a (kV k) (xv kvs k):=.inl ⟨kvs,k,.inl e,rfl,rfl⟩
theorem DGet.t {H:Hp}{a b:Aj}{kvs:List (List Key×V)}{k:List Key}(e:H a=some (.dT kvs))(eb:H b=some (.tup (k.map kV))):DGet H a (.ref b) (xv kvs k):=.inr ⟨kvs,k,b,.inl e,rfl,eb,rfl⟩
theorem DPut.k {H:Hp}{a:Aj}{kvs:List (Key×V)}{k:Key}{v:V}(e:H a=some (.dK kvs))(hl:kvs.length<sizeLine):DPut H a (kV k) v (upd H a (.dK (zf kvs k v))):=.inl ⟨kvs,k,e,rfl,hl,rfl⟩
theorem DPut.t {H:Hp}{a b:Aj}{kvs:List (List Key×V)}{k:List Key}{v:V}(e:H a=some (.dT kvs))(eb:H b=some (.tup (k.map kV)))(hl:kvs.length<sizeLine) :
  DPut H a (.ref b) v (upd H a (.dT (zf kvs k v))):=.inr ⟨kvs,k,b,e,rfl,eb,hl,rfl⟩
section
variable {X:Cx}{pins:List (Aj×Obj)}{σ:St}{H:Hp}{s:Ab}{a:Aj}{y v:V}{u r:Ag}{o:Option V}{A:Ae}{E:Ag→Ab→Prop}
theorem Inv.big (I:Inv X pins σ H s):sysModules<s.heap.objs.size:=by
 have h:mainGlobals<s.heap.objs.size:=(I.mod.glob.keeps I.bk).lt
 exact bo (by decide) h
theorem qj3 {Q:Ag→Ab→Prop}(hu:A.units+1<cLine)(I:Inv X pins σ H s)(g:DGet H a y (some v))(ry:RelV y u)(h:∀w' s',Inv X pins σ H s'→RelV v w'→Q w' s') :
  wpAny (model X.prog X.w) A (getItem (.ref a) u) Q E s:=by
 rcases g with ⟨kvs,k,e,ey,l⟩|⟨kvs,k,b,e,ey,eb,l⟩
 ·subst ey
  obtain ⟨z,hd,vs,rel,dd⟩:=ud I.hok e
  obtain ⟨w',hw,rw'⟩:=RelO.some_of (v:=v) (o:=valueAt vs k) (by rw [l];exact rel.val k)
  exact wpAny_getItem_of (y0 ry) dd.mapOf hw (h w' _ (I.tok _) rw')
 ·subst ey
  cases (show u=Value.ref b from ry)
  obtain ⟨z,hd,xs,rel,dd⟩:=Qf I.hok e
  obtain ⟨w',hw,rw'⟩:=RelO.some_of (v:=v) (o:=(atKey xs k).map (·.2)) (by rw [l];exact rel.val k)
  obtain ⟨p,hp,hp2⟩:=Option.map_eq_some_iff.mp hw
  refine wpAny_getItem_heap (bL hu) (j9 I.hok eb) dd hp ?_
  rw [hp2]
  exact h w' _ (I.tok _) rw'
theorem d_in {Q:Ag→Ab→Prop}(hu:A.units+1<cLine)(I:Inv X pins σ H s)(g:DGet H a y o)(ry:RelV y u)(h:∀s',Inv X pins σ H s'→Q (.bool o.isSome) s') :
  wpAny (model X.prog X.w) A (compareOp .In u (.ref a)) Q E s:=by
 rcases g with ⟨kvs,k,e,ey,l⟩|⟨kvs,k,b,e,ey,eb,l⟩
 ·subst ey
  obtain ⟨z,hd,vs,rel,dd⟩:=ud I.hok e
  refine wpAny_in_of (y0 ry) hd dd.mapOf ?_
  rw [← (rel.val k).isSome_eq,←l]
  exact h _ (I.tok _)
 ·subst ey
  cases (show u=Value.ref b from ry)
  obtain ⟨z,hd,xs,rel,dd⟩:=Qf I.hok e
  refine wpAny_in_heap (bL hu) (j9 I.hok eb) hd dd ?_
  have q:=(rel.val k).isSome_eq
  rw [dQ] at q
  rw [←q,←l]
  exact h _ (I.tok _)
theorem ww8 {Q:Ag→Ab→Prop}(hu:A.units+1<cLine)(I:Inv X pins σ H s)(g:DGet H a y o)(ry:RelV y u)(h:∀s',Inv X pins σ H s'→Q (.bool (!o.isSome)) s') :
  wpAny (model X.prog X.w) A (compareOp .NotIn u (.ref a)) Q E s:=by
 rcases g with ⟨kvs,k,e,ey,l⟩|⟨kvs,k,b,e,ey,eb,l⟩
 ·subst ey
  obtain ⟨z,hd,vs,rel,dd⟩:=ud I.hok e
  refine wpAny_notIn_of (y0 ry) hd dd.mapOf ?_
  rw [← (rel.val k).isSome_eq,←l]
  exact h _ (I.tok _)
 ·subst ey
  cases (show u=Value.ref b from ry)
  obtain ⟨z,hd,xs,rel,dd⟩:=Qf I.hok e
  refine wpAny_notIn_heap (bL hu) (j9 I.hok eb) hd dd ?_
  have q:=(rel.val k).isSome_eq
  rw [dQ] at q
  rw [←q,←l]
  exact h _ (I.tok _)
theorem yh {h':Heap}{t':Nat}{ob:HO}(I:Inv X pins σ H s)(mu:Mut (H a))(hs:Heap.SameBut a s.heap h')(he:∃q,h'.get? a=some q)(new:ObjOk X.prog X.w (upd H a ob) h' a ob) :
  Inv X pins σ (upd H a ob) { s with heap:=h',toks:=t' } :=
 I.write (x:=a) (e:=a) mu (.inl rfl) (λb q hb z=>(hs.2 b hb).trans z) he new
theorem Zs {P:Ac}{w:Ah}{H':Hp}{h':Heap}{kvs:List (Key×V)}{vs:List (Key×Ag)}(z:kvs.length≤sizeLine)(hd:(a==sysModules)=false)(rel:KV kvs vs)(dd:h'.DictOf (xj P w) a vs) :
  ObjOk P w H' h' a (.dK kvs):=⟨z,hd,vs,rel,dd⟩
theorem qyy {H':Hp}{Q:Unit→Ab→Prop}(hu:A.units+1<cLine)(I:Inv X pins σ H s)(g:DPut H a y v H')(ry:RelV y u)(rv:RelV v r)(h:∀s',Inv X pins σ H' s'→Q () s') :
  wpAny (model X.prog X.w) A (setItem (.ref a) u r) Q E s:=by
 rcases g with ⟨kvs,k,e,ey,l,eH⟩|⟨kvs,k,b,e,ey,eb,l,eH⟩
 ·subst ey eH
  obtain ⟨z,hd,vs,rel,dd⟩:=qqz I.hok e
  have hz:vs.length≤sizeLine:=by rw [←rel.length];exact z
  have hl:(zf kvs k v).length≤sizeLine:=by have:=v3 kvs k v;lia
  refine wpAny_setItem_pairs (hsz:=hz) (y0 ry) dd λh' dd' hs=>h _ ?_
  have he:∃q,h'.get? a=some q:=let ⟨q,_,_,hq,_⟩:=dd';⟨q,hq⟩
  exact yh I (by rw [e];exact True.intro) hs he (Zs hl hd (rel.put k rv) dd')
 ·subst ey eH
  cases (show u=Value.ref b from ry)
  obtain ⟨z,hd,xs,rel,dd⟩:=dt_of I.hok e
  have hz:xs.length≤sizeLine:=by rw [←bb rel];exact z
  have hl:(zf kvs k v).length≤sizeLine:=by have:=v3 kvs k v;lia
  refine wpAny_setItem_heap (hsz:=hz) (bL hu) (j9 I.hok eb) dd λh' dd' hs=>h _ ?_
  obtain ⟨q,es,ep,hq,h2,h3,h4,_,h5⟩:=dd'
  refine yh I (by rw [e];exact True.intro) hs ⟨q,hq⟩ ⟨hl,hd,_,(rel.put k eb rv).keeps λc ys ec=>?_,q,es,ep,hq,h2,h3,h4,h5⟩
  rw [wc (ne_of ec e (λz=>nomatch z))]
  exact ec
end
section
variable {X:Cx}{pins:List (Aj×Obj)}{σ:St}{H:Hp}{s:Ab}{a:Aj}{kvs:List (Key×V)}{k:Key}{u:Ag}{A:Ae}{E:Ag→Ab→Prop}
theorem qj9 {Q:Unit→Ab→Prop}(I:Inv X pins σ H s)(e:H a=some (.dK kvs))(ry:RelV (kV k) u)(l:(xv kvs k).isSome=true)(h:∀s',Inv X pins σ (upd H a (.dK (qqb kvs k))) s'→Q () s') :
  wpAny (model X.prog X.w) A (delItem (.ref a) u) Q E s:=by
 obtain ⟨z,hd,vs,rel,dd⟩:=qqz I.hok e
 refine wpAny_delItem_slot dd.typeIs (by decide) dN
  (cD dN dd.typeIs PySem.F.entry_dict_delitem (PySem.F.args_dict_delitem_2 _ _) (meets_dict_delitem_pairs (xj X.prog X.w) a (y0 ry)) ⟨vs,dd,by rw [←rel.length];exact z,by rw [← (rel.val k).isSome_eq];exact l,λh' dd' hs=>h _ ?_⟩)
 have he:∃q,h'.get? a=some q:=let ⟨q,_,_,hq,_⟩:=dd';⟨q,hq⟩
 exact yh I (by rw [e];exact True.intro) hs he (Zs (br (qxm kvs k) z) hd (rel.drop k) dd')
end
def NoSl (i:Expr):Prop:=∀ov iv,subscripted i false ov iv=operate [ov,iv] (getItem ov iv)
theorem wwy {prog:Ac}{w:Ah}{A:Ae}{E:Ag→Ab→Prop}{s:Ab}{env:Env}{value slice:Expr}{pos:Pos}{T id:String}{Q:Ag→Ab→Prop}
  (hl:typeLookup (.type T) "__getitem__" = pure (some (.builtin id))) (hs:NoSl slice)
  (h:wpAny (model prog w) A (eval value env) (λo s₁=>wpAny (model prog w) A (eval slice env) (λi s₂=>s₂.TypeIs o T∧wpAny (model prog w) A (getItem o i) Q E s₂) E s₁) E s) :
  wpAny (model prog w) A (eval (.Subscript value slice pos) env) Q E s:=by
 refine Subscript_ (aK h (λo s₁ h₁=>aK h₁ (λi s₂ h₂=>?_) λ_ _ x=>x) λ_ _ x=>x)
 obtain ⟨hT,h₂⟩:=h₂
 unfold subscriptTail
 refine aa ?_
 rw [getitemInPython_of_ne hT.not_modules]
 refine aa (eA hT hl ?_)
 have fin:wpAny (model prog w) A (subscripted slice false o i) (λr s₃=>wpAny (model prog w) A (letTemporaryGo value o r >>= λ_=>pure r) Q E s₃) E s₂:=by
  rw [hs o i]
  exact wpAny_operating (aK h₂ (λr s₃ h₃=>aa (wpAny_letTemporaryGo (ag h₃))) λ_ _ x=>x)
 first
  |exact ag (aa fin)
  |exact aa (ag (aa fin))
  |exact aa fin
theorem qxj {X:Cx}{pins:List (Aj×Obj)}{σ:St}{H:Hp}{s:Ab}{a:Aj}{y:V}{o:Option V}(I:Inv X pins σ H s)(g:DGet H a y o):s.TypeIs (.ref a) "dict" := by
 rcases g with ⟨kvs,k,e,_,_⟩|⟨kvs,k,b,e,_,_,_⟩
 ·obtain ⟨_,_,vs,_,dd⟩:=ud I.hok e
  exact dd.typeIs
 ·obtain ⟨_,_,xs,_,dd⟩:=Qf I.hok e
  exact dd.typeIs
def tDGet (td ty:TE):TE:=λσ H Q=>td σ H λx H1=>ty σ H1 λy H2=>∃a v,x=.ref a∧DGet H2 a y (some v)∧Q v H2
def tDIn (ty td:TE):TE:=λσ H Q=>ty σ H λy H1=>td σ H1 λx H2=>∃a o,x=.ref a∧DGet H2 a y o∧Q (.bl o.isSome) H2
def wx6 (ty td:TE):TE:=λσ H Q=>ty σ H λy H1=>td σ H1 λx H2=>∃a o,x=.ref a∧DGet H2 a y o∧Q (.bl (!o.isSome)) H2
def sDPut (td ty tv:TE):TS:=λD σ H=>tv σ H λv H1=>td σ H1 λx H2=>ty σ H2 λy H3=>∃a H4,x=.ref a∧DPut H3 a y v H4∧D.nx σ H4
def sDDel (td ty:TE):TS:=λD σ H=>td σ H λx H1=>ty σ H1 λy H2=>∃a kvs k,x=.ref a∧H2 a=some (.dK kvs)∧y=kV k∧(xv kvs k).isSome=true∧D.nx σ (upd H2 a (.dK (qqb kvs k)))
section
variable {X:Cx}{o i e value:Expr}{pos pos' tpos:Pos}{td ty tv:TE}
theorem jh (hu:X.A.units+1<cLine)(ho:PE X o td)(hi:PE X i ty)(hs:NoSl i):PE X (.Subscript o i pos) (tDGet td ty):=by
 intro pins s σ H Q I h
 refine wwy PySem.F.slot_dict_getitem.lookup hs (thn (ho pins s σ H _ I h) λu s1 ⟨x,H1,I1,rx,q1⟩=>thn (hi pins s1 σ H1 _ I1 q1) λiv s2 ⟨y,H2,I2,ry,a,v,ex,g,q2⟩=>?_)
 subst ex
 obtain rfl:u=Value.ref a:=rx
 exact ⟨qxj I2 g,qj3 hu I2 g ry λw' s3 I3 rw'=>⟨v,H2,I3,rw',q2⟩⟩
theorem pc_din (hu:X.A.units+1<cLine)(hi:PE X i ty)(ho:PE X o td):PC X .In i o (tDIn ty td):=by
 intro pins s σ H Q I h
 refine thn (hi pins s σ H _ I h) λiv s1 ⟨y,H1,I1,ry,q1⟩=>thn (ho pins s1 σ H1 _ I1 q1) λu s2 ⟨x,H2,I2,rx,a,ov,ex,g,q2⟩=>?_
 subst ex
 obtain rfl:u=Value.ref a:=rx
 exact d_in hu I2 g ry λs3 I3=>⟨.bl ov.isSome,H2,I3,rfl,q2⟩
theorem yc (hu:X.A.units+1<cLine)(hi:PE X i ty)(ho:PE X o td):PC X .NotIn i o (wx6 ty td):=by
 intro pins s σ H Q I h
 refine thn (hi pins s σ H _ I h) λiv s1 ⟨y,H1,I1,ry,q1⟩=>thn (ho pins s1 σ H1 _ I1 q1) λu s2 ⟨x,H2,I2,rx,a,ov,ex,g,q2⟩=>?_
 subst ex
 obtain rfl:u=Value.ref a:=rx
 exact ww8 hu I2 g ry λs3 I3=>⟨.bl (!ov.isSome),H2,I3,rfl,q2⟩
theorem Zx (hu:X.A.units+1<cLine)(ho:PE X o td)(hi:PE X i ty)(hv:PE X value tv)(hs:swapsWith value (some (.Subscript o i pos')) pos.line X.env=pure false) :
  PS X (.Assign [.Subscript o i pos'] value pos) (sDPut td ty tv):=by
 intro pins s σ H D I h
 refine wpAny_Assign_Subscript (thn (hv pins s σ H _ I h) λr s1 ⟨v,H1,I1,rv,q1⟩=>thn (ho pins s1 σ H1 _ I1 q1) λu s2 ⟨x,H2,I2,rx,q2⟩=>thn (hi pins s2 σ H2 _ I2 q2) λiv s3 ⟨y,H3,I3,ry,a,H4,ex,g,q3⟩=>?_) hs
 subst ex
 obtain rfl:u=Value.ref a:=rx
 exact qyy hu I3 g ry rv λs4 I4=>⟨σ,H4,I4,q3⟩
theorem ww7 (ho:PE X o td)(hi:PE X i ty):PS X (.Delete [.Subscript o i tpos] pos) (sDDel td ty):=by
 intro pins s σ H D I h
 refine wpAny_Delete (wpAny_deleteEach_cons (wpAny_delete_Subscript (thn (ho pins s σ H _ I h) λu s1 ⟨x,H1,I1,rx,q1⟩=>thn (hi pins s1 σ H1 _ I1 q1) λiv s2 ⟨y,H2,I2,ry,a,kvs,k,ex,e,ey,l,q2⟩=>?_)))
 subst ex ey
 obtain rfl:u=Value.ref a:=rx
 exact qj9 I2 e ry l λs3 I3=>wpAny_deleteEach_nil ⟨σ,_,I3,q2⟩
end
theorem qxr {P:Ac}{w:Ah}{H:Hp}(h:Heap)(hb:sysModules<h.objs.size):ObjOk P w H (h.push { cls:=.type "dict",data:=.dict #[] }) h.objs.size (.dK []) :=
 ⟨aB _,aE.mpr (bg (ao hb)),[],.nil,Heap.DictOf.new h⟩
theorem qzu {P:Ac}{w:Ah}{H:Hp}(h:Heap)(hb:sysModules<h.objs.size):ObjOk P w H (h.push { cls:=.type "dict",data:=.dict #[] }) h.objs.size (.dT []) :=
 ⟨aB _,aE.mpr (bg (ao hb)),[],.nil,_,#[],0,am _ rfl,⟨rfl,rfl,rfl⟩,rfl,rfl,bM⟩
def tDNewK:TE:=λ_ H Q=>∀p,H p=none→Q (.ref p) (upd H p (.dK []))
def tDNewT:TE:=λ_ H Q=>∀p,H p=none→Q (.ref p) (upd H p (.dT []))
section
variable {X:Cx}{pos:Pos}
theorem jq:PE X (.Dict [] [] pos) tDNewK:=λpins s σ H Q I h =>
 wpAny_Dict_empty ⟨.ref s.heap.objs.size,_,I.laid (a:=s.heap.objs.size) (o:=.dK []) (t':=s.toks) (λ_ _ q=>ac _ q) (af _) (qxr s.heap I.big),rfl,h _ (I.hok.fresh (af _))⟩
theorem wqp:PE X (.Dict [] [] pos) tDNewT:=λpins s σ H Q I h =>
 wpAny_Dict_empty ⟨.ref s.heap.objs.size,_,I.laid (a:=s.heap.objs.size) (o:=.dT []) (t':=s.toks) (λ_ _ q=>ac _ q) (af _) (qzu s.heap I.big),rfl,h _ (I.hok.fresh (af _))⟩
end
end L2
namespace L2
open PySem PySem.Spec PyProof.Rows
def qvr:List (TE×TE)→St→Hp→(List (V×V)→Hp→Prop)→Prop
 |[],_,H,Q=>Q [] H
 |(tk,tv)::r,σ,H,Q=>tk σ H λx H1=>tv σ H1 λy H2=>qvr r σ H2 λps H3=>Q ((x,y)::ps) H3
abbrev VV:List (V×V)→List (Ag×Ag)→Prop:=Paired λp q=>RelV p.1 q.1∧RelV p.2 q.2
def PPs (X:Cx)(pos:Pos)(keys:List (Option Expr))(values:List Expr)(trs:List (TE×TE)):Prop :=
 ∀(pins:List (Aj×Obj)) (s:Ab) (σ:St) (H:Hp) (Q:List (V×V)→Hp→Prop),Inv X pins σ H s→qvr trs σ H Q →
  wpAny (model X.prog X.w) X.A (evalPairs (pairTrees keys values X.env pos)) (λvs s'=>∃ps H',Inv X pins σ H' s'∧VV ps vs∧Q ps H') X.xe s
theorem qwk {X:Cx}{pos:Pos}:PPs X pos [] [] []:=λpins s σ H Q I h=>pairTrees_nil_walk ⟨[],H,I,.nil,h⟩
theorem Zd {X:Cx}{pos:Pos}{k v:Expr}{ks:List (Option Expr)}{vs:List Expr}{tk tv:TE}{trs:List (TE×TE)}(hk:PE X k tk)(hv:PE X v tv)(hr:PPs X pos ks vs trs) :
  PPs X pos (some k::ks) (v::vs) ((tk,tv)::trs):=λpins s σ H Q I h =>
 pairTrees_cons_walk (thn (hk pins s σ H _ I h) λu s1 ⟨x,H1,I1,rx,q1⟩=>thn (hv pins s1 σ H1 _ I1 q1) λw2 s2 ⟨y,H2,I2,ry,q2⟩ =>
  thn (hr pins s2 σ H2 _ I2 q2) λws s3 ⟨ps,H3,I3,rel,q3⟩=>⟨(x,y)::ps,H3,I3,.cons ⟨rx,ry⟩ rel,q3⟩)
def Qt (kvs more:List (Key×V)):List (Key×V):=more.foldl (λacc kv=>zf acc kv.1 kv.2) kvs
theorem KV.merge:∀ {more:List (Key×V)} {rs:List (Key×Ag)} {kvs:List (Key×V)} {vs:List (Key×Ag)},KV more rs→KV kvs vs→KV (Qt kvs more) (merged vs rs):=by
 intro more rs kvs vs r
 unfold KV at r
 induction r generalizing kvs vs with
 |nil=>intro q;exact q
 |@cons p q ps qs h t ih =>
  intro r0
  have e:KV (zf kvs p.1 p.2) (stored vs q.1 q.2):=by
   have:=r0.put p.1 h.2
   rw [←h.1];exact this
  exact ih e
theorem yt:∀(more kvs:List (Key×V)),(Qt kvs more).length≤kvs.length+more.length
 |[],kvs=>by show kvs.length≤kvs.length+0;lia
 |p::r,kvs=>by
  have h1:=yt r (zf kvs p.1 p.2)
  have h2:=v3 kvs p.1 p.2
  show (Qt (zf kvs p.1 p.2) r).length≤_
  rw [aQ];lia
theorem Z2 {P:Ac}{w:Ah}:∀ {kvs:List (Key×V)} {ws:List (Ag×Ag)},VV (kvs.map λkv=>(kV kv.1,kv.2)) ws→∃rs,Carries (xj P w) ws rs∧KV kvs rs
 |[],_,r=>by rw [cb] at r;cases r;exact ⟨[],True.intro,.nil⟩
 |p::kvs,_,r=>by
  rw [aD] at r
  cases r with
  |@cons a b as bs h t =>
   obtain ⟨rs,c,q⟩:=Z2 (P:=P) (w:=w) t
   obtain ⟨b1,b2⟩:=b
   exact ⟨(p.1,b2)::rs,⟨y0 h.1,rfl,c⟩,.cons ⟨rfl,h.2⟩ q⟩
def tDisp (trs:List (TE×TE)):TE:=λσ H Q=>∀p,H p=none→qvr trs σ (upd H p (.dK [])) λps H2=>H2 p=some (.dK [])∧∃kvs:List (Key×V),ps=kvs.map (λkv=>(kV kv.1,kv.2))∧kvs.length≤15∧Q (.ref p) (upd H2 p (.dK (Qt [] kvs)))
theorem qq9 {X:Cx}{pos:Pos}{keys:List (Option Expr)}{values:List Expr}{trs:List (TE×TE)}(h:PPs X pos keys values trs)(hall:keys.all (·.isSome)=true)(hl:keys.length=values.length)(h0:keys≠[])
  (h15:keys.length≤15):PE X (.Dict keys values pos) (tDisp trs):=by
 intro pins s σ H Q I q
 have hn:=I.hok.fresh (af s.heap.objs.size)
 have I1:=I.laid (a:=s.heap.objs.size) (o:=.dK []) (h':=s.heap.push { cls:=.type "dict",data:=.dict #[] }) (t':=s.toks) (λ_ _ q=>ac _ q) (af _) (qxr s.heap I.big)
 refine wpAny_Dict_walk (knd:=xj X.prog X.w) hall hl h0 h15 (thn (h pins _ σ _ _ I1 (q _ hn)) λws s2 ⟨ps,H2,I2,rel,e,kvs,ep,lk,q2⟩=>?_)
 subst ep
 obtain ⟨rs,c,rk⟩:=Z2 (P:=X.prog) (w:=X.w) rel
 obtain ⟨z,hd,vs0,r0,dd⟩:=qqz I2.hok e
 cases r0
 refine ⟨rs,c,dd,λh' dd' hs=>⟨.ref s.heap.objs.size,_,?_,rfl,q2⟩⟩
 have hz:(Qt [] kvs).length≤sizeLine:=by
  have h1:=yt kvs []
  rw [cL] at h1
  rw [sizeLine_eq];lia
 have he:∃q,h'.get? s.heap.objs.size=some q:=let ⟨q,_,_,hq,_⟩:=dd';⟨q,hq⟩
 exact yh I2 (by rw [e];exact True.intro) hs he (Zs hz hd (rk.merge .nil) dd')
structure M1 (X:Cx)(o:Expr)(m:Str)(apos:Pos)(e:Expr)(cpos:Pos):Prop where
 base:attributeBase o m X.env (eval o X.env)=eval o X.env
 few:((backTo cpos (starEach [e] X.env)).all (λx=>!x.1)&&(backToKw cpos (keywordEach [] X.env)).all (λx=>x.1.isSome)
  && decide (([e]:List Expr).length+([]:List Keyword).length+(if ([]:List Keyword).isEmpty then 0 else 1)<30))=true
 line:(apos.endLine==cpos.line)=true
 trees:backTo cpos (starEach [e] X.env)=[(false,eval e X.env)]
structure M2 (X:Cx)(o:Expr)(m:Str)(apos:Pos)(e f:Expr)(cpos:Pos):Prop where
 base:attributeBase o m X.env (eval o X.env)=eval o X.env
 few:((backTo cpos (starEach [e,f] X.env)).all (λx=>!x.1)&&(backToKw cpos (keywordEach [] X.env)).all (λx=>x.1.isSome)
  && decide (([e,f]:List Expr).length+([]:List Keyword).length+(if ([]:List Keyword).isEmpty then 0 else 1)<30))=true
 line:(apos.endLine==cpos.line)=true
 trees:backTo cpos (starEach [e,f] X.env)=[(false,eval e X.env),(false,eval f X.env)]
def IsD (H:Hp)(a:Aj):Prop:=(∃kvs,Rd H a (.dK kvs))∨∃kvs,Rd H a (.dT kvs)
theorem qz9 {X:Cx}{pins:List (Aj×Obj)}{σ:St}{H:Hp}{s:Ab}{a:Aj}(I:Inv X pins σ H s)(d:IsD H a) :
  s.TypeIs (.ref a) "dict" ∧ (∀b,Value.ref a=.ref b→∃ob,s.heap.get? b=some ob∧ob.dict=none)∧(a==sysModules)=false:=by
 rcases d with ⟨kvs,e⟩|⟨kvs,e⟩
 ·obtain ⟨_,hd,vs,_,dd⟩:=ud I.hok e
  refine ⟨dd.typeIs,λb q=>?_,hd⟩
  cases q
  obtain ⟨ob,_,_,h1,h2,_⟩:=dd
  exact ⟨ob,h1,h2.2.1⟩
 ·obtain ⟨_,hd,xs,_,dd⟩:=Qf I.hok e
  refine ⟨dd.typeIs,λb q=>?_,hd⟩
  cases q
  obtain ⟨ob,_,_,h1,h2,_⟩:=dd
  exact ⟨ob,h1,h2.2.1⟩
section
variable {X:Cx}{pins:List (Aj×Obj)}{σ:St}{H:Hp}{s:Ab}{a:Aj}{y d:V}{u r:Ag}{o:Option V}{A:Ae}{E:Ag→Ab→Prop}
theorem d_get1 {Q:Ag→Ab→Prop}(hu:A.units+1<cLine)(I:Inv X pins σ H s)(g:DGet H a y o)(ry:RelV y u)(h:∀w' s',Inv X pins σ H s'→RelV (o.getD .non) w'→Q w' s') :
  wpAny (model X.prog X.w) A (call (.builtin "dict.get") [.ref a,u]) Q E s:=by
 rcases g with ⟨kvs,k,e,ey,l⟩|⟨kvs,k,b,e,ey,eb,l⟩
 ·subst ey
  obtain ⟨z,hd,vs,rel,dd⟩:=ud I.hok e
  refine cD bv dd.typeIs cf (d6 _ _) (meets_dict_get (xj X.prog X.w) a (y0 ry) hd) ⟨_,dd.mapOf,h _ _ (I.tok _) ?_⟩
  rw [l]
  exact (rel.val k).getD rfl
 ·subst ey
  cases (show u=Value.ref b from ry)
  obtain ⟨z,hd,xs,rel,dd⟩:=Qf I.hok e
  refine cD bv dd.typeIs cf (d6 _ _) (meetsH_dict_get (tupleKind (xj X.prog X.w)) a b hd) ⟨bL hu,k,xs,j9 I.hok eb,dd,h _ _ (I.tok _) ?_⟩
  rw [l]
  exact (rel.val k).getD rfl
theorem d_get2 {Q:Ag→Ab→Prop}(hu:A.units+1<cLine)(I:Inv X pins σ H s)(g:DGet H a y o)(ry:RelV y u)(rd:RelV d r)(h:∀w' s',Inv X pins σ H s'→RelV (o.getD d) w'→Q w' s') :
  wpAny (model X.prog X.w) A (call (.builtin "dict.get") [.ref a,u,r]) Q E s:=by
 rcases g with ⟨kvs,k,e,ey,l⟩|⟨kvs,k,b,e,ey,eb,l⟩
 ·subst ey
  obtain ⟨z,hd,vs,rel,dd⟩:=ud I.hok e
  refine cD bv dd.typeIs cf (d7 _ _ _) (meets_dict_get_default (xj X.prog X.w) a (y0 ry) hd r) ⟨_,dd.mapOf,h _ _ (I.tok _) ?_⟩
  rw [l]
  exact (rel.val k).getD rd
 ·subst ey
  cases (show u=Value.ref b from ry)
  obtain ⟨z,hd,xs,rel,dd⟩:=Qf I.hok e
  refine cD bv dd.typeIs cf (d7 _ _ _) (meetsH_dict_get_default (tupleKind (xj X.prog X.w)) a b hd r) ⟨bL hu,k,xs,j9 I.hok eb,dd,h _ _ (I.tok _) ?_⟩
  rw [l]
  exact (rel.val k).getD rd
end
def tDGet1 (td ty:TE):TE:=λσ H Q=>td σ H λx H1=>∃a,x=.ref a∧IsD H1 a∧ty σ H1 λy H2=>∃o,DGet H2 a y o∧Q (o.getD .non) H2
def tDGet2 (td ty tx:TE):TE:=λσ H Q=>td σ H λx H1=>∃a,x=.ref a∧IsD H1 a∧ty σ H1 λy H2=>tx σ H2 λz H3=>∃o,DGet H3 a y o∧Q (o.getD z) H3
section
variable {X:Cx}{o e f:Expr}{apos cpos:Pos}{td ty tx:TE}
theorem quk (hu:X.A.units+1<cLine)(ho:PE X o td)(he:PE X e ty)(m:M1 X o "get" apos e cpos):PE X (.Call (.Attribute o "get" apos) [e] [] cpos) (tDGet1 td ty):=by
 intro pins s σ H Q I h
 refine wpAny_Call_method m.base m.few m.line cQ bv PySem.F.type_dict_get (thn (ho pins s σ H _ I h) λu s1 ⟨x,H1,I1,rx,a,ex,d,q1⟩=>?_)
 subst ex
 obtain rfl:u=Value.ref a:=rx
 obtain ⟨t1,t2,_⟩:=qz9 I1 d
 refine ⟨t1,t2,?_⟩
 rw [m.trees]
 refine ce rfl (cz (cN (thn (he pins s1 σ H1 _ I1 q1) λiv s2 ⟨y,H2,I2,ry,ov,g,q2⟩=>dP ?_)))
 exact d_get1 hu I2 g ry λw' s3 I3 rw'=>⟨_,H2,I3,rw',q2⟩
theorem wqd (hu:X.A.units+1<cLine)(ho:PE X o td)(he:PE X e ty)(hf:PE X f tx)(m:M2 X o "get" apos e f cpos):PE X (.Call (.Attribute o "get" apos) [e,f] [] cpos) (tDGet2 td ty tx):=by
 intro pins s σ H Q I h
 refine wpAny_Call_method m.base m.few m.line cQ bv PySem.F.type_dict_get (thn (ho pins s σ H _ I h) λu s1 ⟨x,H1,I1,rx,a,ex,d,q1⟩=>?_)
 subst ex
 obtain rfl:u=Value.ref a:=rx
 obtain ⟨t1,t2,_⟩:=qz9 I1 d
 refine ⟨t1,t2,?_⟩
 rw [m.trees]
 refine ce rfl (cz (cN (thn (he pins s1 σ H1 _ I1 q1) λiv s2 ⟨y,H2,I2,ry,q2⟩ =>
  cN (thn (hf pins s2 σ H2 _ I2 q2) λfv s3 ⟨z,H3,I3,rz,ov,g,q3⟩=>dP ?_))))
 exact d_get2 hu I3 g ry rz λw' s4 I4 rw'=>⟨_,H3,I4,rw',q3⟩
end
section
variable {X:Cx}{pins:List (Aj×Obj)}{σ:St}{H:Hp}{s:Ab}{a:Aj}{kvs:List (Key×V)}{A:Ae}{E:Ag→Ab→Prop}
end
section
variable {X:Cx}{pins:List (Aj×Obj)}{σ:St}{H:Hp}{s:Ab}{a:Aj}{y:V}{u:Ag}{A:Ae}{E:Ag→Ab→Prop}
end
end L2
namespace L2
open PySem PySem.Spec PyProof.Rows PySem.W
def RawD (h:Heap)(d:Aj)(es:Array DictEntry)(ep:Nat):Prop:=∃o,h.get? d=some o∧o.ExactDict∧o.data=.dict es ep
section
variable {prog:Ac}{w:Ah}{A:Ae}{E:Ag→Ab→Prop}{s:Ab}{d:Aj}{es:Array DictEntry}{ep:Nat}
theorem RawD.ty {s:Ab}(x:RawD s.heap d es ep):s.TypeIs (.ref d) "dict" := let ⟨o,ho,hc,_⟩:=x;⟨o,ho,hc.1⟩
theorem RawD.lt {h:Heap}(x:RawD h d es ep):d<h.objs.size:=let ⟨_,ho,_⟩:=x;ai ho
theorem RawD.at {h h':Heap}(x:RawD h d es ep)(k:∀o,h.get? d=some o→h'.get? d=some o):RawD h' d es ep:=let ⟨o,ho,r⟩:=x;⟨o,k o ho,r⟩
theorem wwx {Q:Ag→Ab→Prop}(hd:(d==sysModules)=false)(hm:RawD s.heap d es ep)
  (hQ:Q (.ref s.heap.objs.size) { s with heap:=s.heap.push { cls:=.type "dict_keyiterator",data:=.fields #[.ref d,.int 0 0,.int es.size 0,.int ep 0] } }):wpAny (model prog w) A (pyIter (.ref d)) Q E s:=by
 obtain ⟨o,ho,hc,hdat⟩:=id hm
 (refine wpAny_pyIter_slot hm.ty F.slot_dict_iter (cZ F.slot_dict_iter hm.ty F.entry_dict_iter ?_ (F.args_dict_iter_1 _)) ;unfold Builtin.«dict.__iter__» ;refine aa ?_ ;unfold Builtin.Dict.dictSlotNone ;refine aa (wpAny_notOrdered_dict hm.ty ?_))
 (show wpAny _ _ (pure (Value.ref d)) _ _ s ;refine ag ?_ ;show wpAny _ _ (Builtin.Dict.showsAll d >>= _) _ _ s ;unfold Builtin.Dict.showsAll ;rw [aj (by rw [hd];exact aA)])
 (refine aa (ag ?_) ;refine aa (bE ho hdat ?_) ;refine aa (eB ho hdat ?_))
 refine aa (bD (ag ⟨_,rfl,"dict_keyiterator",_,⟨_,am _ rfl,rfl⟩,bp.lookup,?_⟩)) ;simpa [rawInt] using hQ
theorem wqc {it:Aj}{i:Nat}{e:DictEntry}{Q:Option Ag→Ab→Prop}(hit:s.heap.IsKeyIter it d i es.size ep)(hm:RawD s.heap d es ep)(hx:es[i]?=some e)
  (hQ:∀h',h'.IsKeyIter it d (i+1) es.size ep→Heap.SameBut it s.heap h'→Q (some e.key) { s with heap:=h' }):wpAny (model prog w) A (pyNext (.ref it)) Q E s:=by
 obtain ⟨o,ho,hc,hd⟩:=id hit ;obtain ⟨od,hod,hcd,hdd⟩:=id hm
 (unfold pyNext ;refine aa (wpAny_attempt (cR (name:=Str.ofString "__next__") hit.typeIs bp (cZ bp hit.typeIs dk ?_ (da _)))) ;refine aa (ag ?_) ;refine aa ?_ ;refine aa ?_)
 ((first | refine aa (bC hit.typeIs (ag ?_)) | refine aa (bV hit.typeIs (ag ?_))) ;refine aa (wpAny_fieldsOf ho hd ?_) ;simp only [show Builtin.Dict_items.ownsTuple "dict_keyiterator" = false by decide,bN,dJ] ;show wpAny _ _ (if (Value.ref d==Value.none)=true then _ else _) _ _ s ;rw [aj (show ¬ ((Value.ref d==Value.none)=true) from aA)] ;refine aa (ag ?_) ;refine aa (bE hod hdd ?_) ;rw [aj (by simp)] ;refine aa (ag ?_) ;refine aa (eB hod hdd ?_) ;rw [aj (by simp)] ;refine ag ?_)
 have hlt:i<es.size:=(dL.mp hx).1 ;have he:es[i]=e:=(dL.mp hx).2
 (simp only [show ¬ ((i:Int)<0) from by lia,dJ,cT,bu hlt] ;refine aa ?_ ;(first | refine aa (bC hit.typeIs (ag ?_)) | refine aa (bV hit.typeIs (ag ?_))) ;refine aa (wpAny_isOneOf_keyiter hit.typeIs ?_) ;show wpAny _ _ (setField (.ref it) 1 (rawInt ((i:Int)+1)) >>= _) _ _ s ;refine aa (wpAny_setField ho hd (by simp) ?_))
 have hit':(s.heap.update it (Obj.mapFields (·.setIfInBounds 1 (rawInt ((i:Int)+1))))).IsKeyIter it d (i+1) es.size ep:=⟨_,Heap.get?_update_self _ ho (Obj.isFreed_of_fields (Obj.data_mapFields hd _)),(Obj.cls_mapFields ..).trans hc,by rw [Obj.data_mapFields hd];simp [rawInt]⟩
 (refine aa (cK ?_) ;refine aa (wpAny_isOneOf_keyiter (s:={ s with heap:=s.heap.update it (Obj.mapFields (·.setIfInBounds 1 (rawInt ((i:Int)+1)))) }) hit'.typeIs ?_) ;show wpAny _ _ (pure es[i].key) _ _ _ ;rw [he])
 exact ag (ag ⟨_,rfl,ag (hQ _ hit' (cH ..))⟩)
theorem wwh {it:Aj}{i:Nat}{Q:Option Ag→Ab→Prop}(hh:A.handled=none)(hit:s.heap.IsKeyIter it d i es.size ep)(hm:RawD s.heap d es ep)(hx:es.size≤i)(hQ:∀h',Heap.ExtBut it s.heap h'→Q none { s with heap:=h' }):wpAny (model prog w) A (pyNext (.ref it)) Q E s:=by
 obtain ⟨o,ho,hc,hd⟩:=id hit ;obtain ⟨od,hod,hcd,hdd⟩:=id hm
 (unfold pyNext ;refine aa (wpAny_attempt (cR (name:=Str.ofString "__next__") hit.typeIs bp (cZ bp hit.typeIs dk ?_ (da _)))) ;refine aa (ag ?_) ;refine aa ?_ ;refine aa ?_)
 ((first | refine aa (bC hit.typeIs (ag ?_)) | refine aa (bV hit.typeIs (ag ?_))) ;refine aa (wpAny_fieldsOf ho hd ?_) ;simp only [show Builtin.Dict_items.ownsTuple "dict_keyiterator" = false by decide,bN,dJ] ;show wpAny _ _ (if (Value.ref d==Value.none)=true then _ else _) _ _ s ;rw [aj (show ¬ ((Value.ref d==Value.none)=true) from aA)] ;refine aa (ag ?_) ;refine aa (bE hod hdd ?_) ;rw [aj (by simp)] ;refine aa (ag ?_) ;refine aa (eB hod hdd ?_) ;rw [aj (by simp)] ;refine ag ?_)
 (simp only [show ¬ ((i:Int)<0) from by lia,dJ,cT,bJ hx] ;refine aa ?_ ;(first | refine aa (bC hit.typeIs (ag ?_)) | refine aa (bV hit.typeIs (ag ?_))) ;show wpAny _ _ (setField (.ref it) 0 .none >>= _) _ _ s ;refine aa (wpAny_setField ho hd (by simp) ?_) ;show wpAny _ _ (newExc (.type "StopIteration") [] >>= _) _ _ _ ;refine aa ?_ ;simp only [newExc,newTuple])
 (refine aa (bD ?_ (by size_fits)) ;refine aa (m:=firstArgMember _ _) (wpAny_of_eq (a:=Value.none) (by first | rfl | (simp only [firstArgMember];rfl)) ?_) ;refine bD ?_ (by size_fits) ;simp only [raiseNew] ;refine aa (wpAny_handled ?_) ;rw [show A.in1.handled=none from hh] ;refine aa (ag (wpAny_throw ?_)))
 refine aa (wpAny_isInstance (T := "StopIteration") (b:=true) ⟨_,am _ rfl,rfl⟩ isSubtype_stop (ag (hQ _ (((cH ..).extBut.push _).push _))))
theorem qk8 (hh:A.handled=none)(I:Aj)(hne:d≠I):Walks prog w A I [I,d] [I] es.size (λi v=>∃e,es[i]?=some e∧v=e.key) (λi h=>h.IsKeyIter I d i es.size ep∧RawD h d es ep) where
 sub:=λb hb=>by simp at hb;simp [hb]
 frame:=λ_ _ _ st hk=>⟨st.1.at λo e=>hk I (by simp) o e,st.2.at λo e=>hk d (by simp) o e⟩
 item:=λi s Q E hi st hQ=>wqc st.1 st.2 (bu hi) λh' it' sb=>hQ _ h' s.toks ⟨_,bu hi,rfl⟩ ⟨it',st.2.at λo e=>sb.extBut d o hne e⟩ λb o hb e=>sb.extBut b o (λh=>hb (by simp [h])) e
 done:=λs Q E st hQ=>wwh hh st.1 st.2 (af _) λh' eb=>hQ h' s.toks λb o hb e=>eb b o (λh=>hb (by simp [h])) e
 self:=λ_ _ _ _ st hQ=>wpAny_pyIter_keyiter st.1 hQ
theorem wwb (lo:(d==sysModules)=false):KdlSrc prog w "dict" d d es.size (λi v=>∃e,es[i]?=some e∧v=e.key) (λh=>RawD h d es ep) where
 type:=λ_ hm=>hm.ty
 there:=λ_ hm=>⟨hm.lt,hm.lt⟩
 keep:=λ_ _ hm hk=>hm.at λo e=>hk d (.inl rfl) o e
 notList:=by decide
 notTuple:=by decide
 hint:=λ_ _ _ _ hm hq=>kdl_hint_dict hm.ty hq
 iter:=λ_ _ hh hm=>⟨_,_,(λ_ _ hq=>wwx lo hm hq),qk8 hh _ (ao hm.lt),⟨⟨_,am _ rfl,rfl,rfl⟩,hm.at λo e=>ac _ e⟩⟩
theorem Jv (hd:(d==sysModules)=false):MeetsIn prog w (Builtin.«dict.__len__» ⟨[.ref d],[]⟩) (λ_ R s=>∃es ep,RawD s.heap d es ep∧R (.ok (.ret (.int es.size s.toks))) { s with toks:=s.toks+1 }) :=
 .of_wp λA R s ⟨es,ep,hm,h⟩=>by
  obtain ⟨o,ho,hc,hdat⟩:=hm
  (show wpAny _ _ (dictSize d >>= _) _ _ s ;unfold dictSize ;refine aa (aa (bE ho hdat (ag ?_))) ;show wpAny _ _ (Builtin.Dict.pendingCount d >>= _) _ _ s ;refine aa (wpAny_pendingCount_other hd ?_) ;refine wpAny_ret_mkInt ?_ ;rw [Nat.add_zero] ;exact h)
theorem wxf {Q:Ag→Ab→Prop}(hd:(d==sysModules)=false)(hm:RawD s.heap d es ep)(hfit:(es.size:Int)<2 ^ 63)(h:Q (.int es.size (s.toks+1)) { s with toks:=s.toks+1+1 }):wpAny (model prog w) A (call (.builtin "len") [.ref d]) Q E s:=by
 refine Calls.call_function_entry kind_len plain_len entry_len (args_len1 _) ?_ ;unfold Builtin.«len» ;refine aa (m:=oneArg "len" _) (ag ?_)
 refine aa (m:=callSpecial? (.ref d) (Str.ofString "__len__")) (cR (name:=Str.ofString "__len__") hm.ty F.slot_dict_len (cD F.slot_dict_len hm.ty F.entry_dict_len (F.args_dict_len_1 _) (Jv hd) ⟨es,ep,hm,?_⟩))
 (show wpAny _ _ _ _ _ { s with toks:=s.toks+1 } ;refine aa (cK (ag ?_)) ;refine aa (wpAny_letGo ?_) ;show wpAny _ _ (if ((es.size:Nat):Int)<0 then _ else _) _ _ _ ;rw [aj (by lia)] ;show wpAny _ _ (if ((es.size:Nat):Int)≥2 ^ 63 then _ else _) _ _ _ ;rw [aj (by lia)])
 exact aa (wpAny_mkInt (ag ⟨_,rfl,h⟩))
end
section
variable {X:Cx}
theorem qu9 {P:Ac}{w:Ah}{H:Hp}{h:Heap}{a:Aj}{kvs:List (List Key×V)}(ok:HOk P w H h)(e:H a=some (.dT kvs)) :
  kvs.length≤sizeLine∧(a==sysModules)=false∧∃(xs:List (List Key×Aj×Ag)) (es:Array DictEntry) (ep:Nat),KT H kvs xs∧RawD h a es ep∧es.toList=xs.map (entryOfKey (tupleKind (xj P w))):=by
 obtain ⟨z,y,xs,r,o,es,ep,h1,h2,h3,h4,h5⟩:=(show ObjOk P w H h a (.dT kvs) from ok a _ e)
 exact ⟨z,y,xs,es,ep,r,⟨o,h1,h2,h3⟩,h4⟩
theorem Js:kf X (.builtin "len") (λxs H Q=>∃a kvs,xs=[V.ref a]∧H a=some (.dT kvs)∧Q (.int kvs.length) H):=by
 intro pins s σ H xs us Q I r h
 obtain ⟨a,kvs,rfl,e,q⟩:=h
 obtain ⟨u,rfl,rx⟩:=yk r
 cases rx
 obtain ⟨z,hd,ys,es,ep,rel,raw,hes⟩:=qu9 I.hok e
 have hl:es.size=kvs.length:=by rw [←aO,hes,ae,bb rel]
 have hn:=Wv
 exact wxf hd raw (by rw [hl];lia) ⟨.int kvs.length,H,I.tok _,⟨_,by rw [hl]⟩,q⟩
def wqu (H:Hp)(kvs:List (List Key×V))(vs:List V):Prop:=Paired (λv (p:List Key×V)=>∃b,v=V.ref b∧H b=some (.tup (p.1.map kV))) vs kvs
theorem qz0 (hc:X.calm=true):kf X (.type "list") (λxs H Q=>∃a kvs,xs=[V.ref a]∧H a=some (.dT kvs)∧∀p vs,H p=none→wqu H kvs vs→Q (.ref p) (upd H p (.lst vs))):=by
 intro pins s σ H xs us Q I r h
 obtain ⟨a,kvs,rfl,e,q⟩:=h
 obtain ⟨u,rfl,rx⟩:=yk r
 cases rx
 obtain ⟨z,hd,ys,es,ep,rel,raw,hes⟩:=qu9 I.hok e
 have hl:es.size=kvs.length:=by rw [←aO,hes,ae,bb rel]
 refine kdl_call (wwb hd) (I.ok.hd hc) raw (by rw [hl];exact z) λh' tk acc' c' hk hD hacc=>?_
 have key:∀(l:List Ag) (kvs':List (List Key×V)) (ys':List (List Key×Aj×Ag)),KT H kvs' ys'→l.length=kvs'.length→(∀(j:Nat) v,l[j]?=some v→∃y,ys'[j]?=some y∧v=.ref y.2.1)→∃vs,Vals vs l∧wqu H kvs' vs:=by
  intro l kvs' ys' rr
  induction rr generalizing l with
  |nil =>
   intro hl' _
   cases l with
   |nil=>exact ⟨[],.nil,.nil⟩
   |cons _ _=>simp at hl'
  |@cons p y ps yss hp t ih =>
   intro hl' hj
   cases l with
   |nil=>simp at hl'
   |cons v l =>
    obtain ⟨y',ey,rfl⟩:=hj 0 v rfl
    cases ey
    obtain ⟨vs,v1,v2⟩:=ih l (by simpa using hl') λj u hu=>by
     obtain ⟨y2,e2,e3⟩:=hj (j+1) u (by simpa using hu)
     exact ⟨y2,by simpa using e2,e3⟩
    exact ⟨.ref y.2.1::vs,.cons rfl v1,.cons ⟨_,rfl,hp.2.1⟩ v2⟩
 obtain ⟨vs,v1,v2⟩:=key acc'.toList kvs ys rel (by rw [aO,hacc.1,hl]) λj v ev=>by
  obtain ⟨en,e1,rfl⟩:=hacc.2 j v (by rw [←cx];exact ev)
  rw [←cx,hes,aI] at e1
  cases hy:ys[j]? with
  |none=>rw [hy] at e1;cases e1
  |some y =>
   rw [hy] at e1
   have e2:=av e1
   exact ⟨y,rfl,by rw [←e2];rfl⟩
 have hv:vs.length≤sizeLine:=by rw [v1.length,aO,hacc.1,hl];exact z
 exact ⟨.ref _,_,I.laid (t':=tk) hk (af _) (show ObjOk X.prog X.w _ h' _ (.lst vs) from ⟨hv,acc'.toList,c',v1,by simpa using hD⟩),rfl,q _ _ (I.hok.fresh (af _)) v2⟩
end
end L2
namespace L2
open PySem PySem.Spec PyProof.Rows
def compN2 (X:Cx)(x y:Str)(M:List Nat):List Str:=x::y::M.map λj=>X.N.getD j Str.empty
def yj (M:List Nat)(σ:St)(o o':Option V):St:=o::o'::M.map λj=>(σ[j]?).join
abbrev vq (X:Cx)(scope:Scope)(cl:List (Str×Aj))(x y:Str)(M:List Nat)(C:Aj)(s2:Ab)(H2:Hp)(fp:List Aj)(pn:List (Aj×Obj)):Cx :=
 { X with N:=compN2 X x y M,s₀:=s2,H₀:=H2,env:=compEnvC scope cl C X.env,outer:=X.stack,ex:=fp,fn:=λ_=>false,pn:=pn,xe:=λ_ _=>False }
section
variable {X:Cx}{pins:List (Aj×Obj)}{σ:St}{H:Hp}{s2:Ab}{scope:Scope}{cl:List (Str×Aj)}{x y:Str}{M:List Nat}{fp:List Aj}{C:Aj}{h1:Heap}{tk:Nat}
theorem Inv.comp2 (I:Inv X pins σ H s2)(hc:CapAll X.env cl)(hh:HasAll cl scope.names)(hm:CapIx X scope cl M)(hk:scope.kind=.function)(hC:s2.heap.objs.size<C)
  (keep:∀b o,s2.heap.get? b=some o→h1.get? b=some o) (hn:h1.Ns C λ_=>none) (hD:h1.get? s2.heap.objs.size=some { cls:=.type "list",data:=.seq #[] 0 })
  (hfp:∀b∈fp,km X pins H b) (hob:∀b∈fp,∃o,s2.heap.get? b=some o) :
  Inv (vq X scope cl x y M C s2 H fp (X.pn++pins)) [] (yj M σ none none) (upd H s2.heap.objs.size (.lst [])) { s2 with heap:=h1,toks:=tk }:=I.compG (xs:=[x,y]) hc hh hm hk hC keep hn ⟨aB _,[],0,.nil,hD⟩ hfp hob
theorem Inv.uncomp2 {pins':List (Aj×Obj)}{σ':St}{H':Hp}{s':Ab}{h':Heap}(I:Inv X pins σ H s2)(hC:s2.heap.objs.size≤C)(hfp:∀b∈fp,km X pins H b)
  (J:Inv (vq X scope cl x y M C s2 H fp (X.pn++pins)) pins' σ' H' s') (hs:Heap.SameBut C s'.heap h'):Inv X pins σ H' { s' with heap:=h' }:=by
 have hb:=J.base
 have nC:∀b o,s2.heap.get? b=some o→b≠C:=λb o e=>ao (az (ai e) hC)
 have st:∀b o,b≠C→s'.heap.get? b=some o→h'.get? b=some o:=λb o n e=>(hs.2 b n).trans e
 refine I.call' (s':={ s' with heap:=h' }) (ch:=fp) J.os ⟨λb o e n nb nx=>st b o (nC b o e) (hb.keep b o e n nb nx),λb o e n hb' nx=>?_,hb.free,λb o e nx=>?_,hb.tups,hb.frzs,hb.tbls⟩ ?_ J.bare λb hbf=>?_
 ·obtain ⟨sl,e1⟩:=hb.slot b o e n hb' nx
  exact ⟨sl,st b _ (nC b o e) e1⟩
 ·obtain ⟨o',e1⟩:=hb.there b o e nx
  exact ⟨o',st b _ (nC b o e) e1⟩
 ·intro b u hu
  have fr:H' C=none:=J.free
  refine (J.hok b u hu).stay (λc v hc e=>st c v ?_ e) (λ_ z=>z) λ_ _ z=>z
  rcases hc with rfl|hc
  ·intro z;rw [z,fr] at hu;cases hu
  ·intro z;rw [z,fr] at hc;cases hc
 ·obtain ⟨q1,q2,q3,q4,q5,q6⟩:=hfp b hbf
  exact ⟨q4,q2,q5,q6⟩
end
section
variable {X:Cx}{elt iter iter2:Expr}{x y:Str}{px py pos:Pos}{scope:Scope}{cl:List (Str×Aj)}{M:List Nat}{wi wi2:TI}{te:TE}
end
section
variable {X:Cx}{elt iter iter2:Expr}{x y2:Str}{px py2 pos:Pos}{scope:Scope}{cl:List (Str×Aj)}{M:List Nat}{wi wi2:TI}{te:TE}
end
end L2
namespace L2
open PySem PySem.Spec PyProof.Rows
end L2
namespace L2
open PySem PySem.Spec PyProof.Rows
section
variable {X:Cx}{pins:List (Aj×Obj)}{σ:St}{H:Hp}{s:Ab}{h':Heap}{ch:List Aj}
theorem Inv.turnedL {tk:Nat}(I:Inv X pins σ H s)(hk:∀b u,b∉ch→s.heap.get? b=some u→h'.get? b=some u)(hf:∀b∈ch,km X pins H b):Inv X pins σ H { s with heap:=h',toks:=tk }:=by
 refine I.call' (s':={ s with heap:=h',toks:=tk }) (ch:=ch) rfl ⟨λb o e n _ nx=>hk b o nx e,λb o e n _ nx=>⟨o.slots,hk b o nx e⟩,λb o e n _=>n,λb o e nx=>⟨o,hk b o nx e⟩,λ_ _ e=>e,λ_ _ _ e=>e,λb ps e=>⟨#[],by rw [e];simp⟩⟩ ?_ I.bare λb hb=>?_
 ·intro b u hu
  refine (I.hok b u hu).stay (λc v hc e=>hk c v (λz=>?_) e) (λ_ z=>z) λ_ _ z=>z
  have:=(hf c z).1
  rcases hc with rfl|hc
  ·rw [this] at hu;cases hu
  ·rw [this] at hc;cases hc
 ·obtain ⟨q1,q2,q3,q4,q5,q6⟩:=hf b hb
  exact ⟨q4,q2,q5,q6⟩
theorem Inv.turnedT {tk:Nat}{o:HO}{ob:Obj}(I:Inv X pins σ H s)(hk:∀b u,b∉ch→s.heap.get? b=some u→h'.get? b=some u)(hn:h'.get? s.heap.objs.size=some ob)(hf:∀b∈ch,km X pins H b)(hc:∀b∈ch,b≠s.heap.objs.size)
  (ok:ObjOk X.prog X.w (upd H s.heap.objs.size o) (s.heap.push ob) s.heap.objs.size o) (fr:ob.isFreed=false):Inv X pins σ (upd H s.heap.objs.size o) { s with heap:=h',toks:=tk }:=by
 have I1:Inv X pins σ (upd H s.heap.objs.size o) { s with heap:=s.heap.push ob,toks:=tk }:=I.laid (t':=tk) (λb u e=>ac _ e) (af _) ok
 refine Inv.turnedL (s:={ s with heap:=s.heap.push ob,toks:=tk }) (ch:=ch) I1 (λb u nb e=>?_) λb hb=>?_
 ·rcases Heap.get?_push_cases e with ⟨rfl,rfl⟩|e
  ·exact hn
  ·exact hk b u nb e
 ·obtain ⟨q1,q⟩:=hf b hb
  exact ⟨by rw [wc (hc b hb)];exact q1,q⟩
theorem qkc {x y:V}{u v:Ag}(I:Inv X pins σ H s)(rx:RelV x u)(ry:RelV y v):ObjOk X.prog X.w (upd H s.heap.objs.size (.tup [x,y])) (s.heap.push { cls:=.type "tuple",data:=.seq #[u,v] }) s.heap.objs.size (.tup [x,y]):=by
 refine ⟨by show 2≤sizeLine;decide,[u,v],.cons rx (.cons ry .nil),?_⟩
 exact ⟨_,am _ rfl,rfl,_,rfl⟩
end
section
variable {X:Cx}
end
def ItE (K:Aa)(a:Aj)(xs:List V):It :=
 ⟨λi H=>SqL K H a xs∧i<xs.length,λi H v H'=>∃q x,H q=none∧v=.ref q∧xs[i]?=some x∧H'=upd H q (.tup [.int (i:Nat),x]),λi H=>SqL K H a xs∧xs.length≤i⟩
theorem qyw {P:Ac}{w:Ah}{K:Aa}{es:List Expr}{k:Nat}{pos:Pos}(a z it:Aj)(xs:List V)(ap:z≠it):Turn P w K (.Tuple es k pos) (ItE K a xs) [z,it] z
  (λi h=>i≤xs.length∧(∃old,IsEnum h z it (i:Nat) old)∧h.IsListIter it a i) where
 mem:=by simp
 obj:=λi h st c hc=>by
  obtain ⟨_,⟨old,h1⟩,⟨o4,h4,c4,d4⟩⟩:=st
  have hc':c=z∨c=it:=by simpa using hc
  rcases hc' with rfl|rfl
  ·exact ⟨_,h1,λv z=>by cases z⟩
  ·exact ⟨_,h4,λv z=>by rw [d4] at z;cases z⟩
 keep:=λi h h' st k=>by
  obtain ⟨l,⟨old,h1⟩,h4⟩:=st
  exact ⟨l,⟨old,k z (by simp) _ h1⟩,h4.at λo e=>k it (by simp) o e⟩
 item:=by
  intro X hP hw hK hc i pins s σ H E I hf st hg
  subst hP hw hK
  obtain ⟨hq1,l1⟩:=hg
  obtain ⟨its,rv,p,hz⟩:=I.list hq1
  have e1:xs[i]?=some xs[i]:=al l1
  obtain ⟨u,hu,ru⟩:=rv.get e1
  obtain ⟨_,⟨old,h1⟩,h4⟩:=st
  refine wpAny_pyNext_enum_item h1 h4 p.isList (x:=u) (by simpa using hu) ap λh' g1 g2 g3 g4 g5=>?_
  refine ⟨_,rfl,wpAny_letOwnedTupleGo_enum (s:={ s with heap:=h',toks:=s.toks+1 }) g1 λh'' f1 f2=>?_⟩
  have hsz:∀c,c∈[z,it]→c≠s.heap.objs.size:=λc hc e=>by
   have hc':c=z∨c=it:=by simpa using hc
   have hlt:c<s.heap.objs.size:=by
    rcases hc' with rfl|rfl
    ·exact ai h1
    ·obtain ⟨o,e,_⟩:=h4;exact ai e
   exact aX _ (e▸hlt)
  have keepz:∀c o,c≠z→h'.get? c=some o→h''.get? c=some o:=λc o nc e=>(f2.2 c nc).trans e
  have keep:∀c o,c∉[z,it]→s.heap.get? c=some o→h''.get? c=some o:=λc o nc e=>by
   simp only [aq,ay,bU,not_or] at nc
   exact keepz c o nc.1 (g5 c o nc.1 nc.2 e)
  have new:h''.get? s.heap.objs.size=some { cls:=.type "tuple",data:=.seq #[.int (i:Nat) s.toks,u] }:=keepz _ _ (bg (hsz z (by simp))) g3
  refine ⟨.ref s.heap.objs.size,_,Inv.turnedT (s:=s) (ch:=[z,it]) (tk:=s.toks+1) I keep new hf hsz (qkc I (show RelV (.int (i:Nat)) (.int (i:Nat) s.toks) from ⟨_,rfl⟩) ru) rfl,rfl,⟨_,_,I.hok.fresh (af _),rfl,e1,rfl⟩,⟨by lia,⟨u,?_⟩,g2.at λo e=>keepz _ _ (bg ap) e⟩,λc hc=>?_⟩
  ·rw [show (((i+1:Nat):Nat):Int)=(i:Int)+1 by lia]
   exact f1
  ·rw [wc (hsz c hc)]
   exact (hf c hc).1
 done:=by
  intro X hP hw hK hc i pins s σ H E I hf st hg
  subst hP hw hK
  obtain ⟨hq1,le⟩:=hg
  obtain ⟨its,rv,p,hz⟩:=I.list hq1
  have hl:=rv.length
  obtain ⟨_,⟨old,h1⟩,h4⟩:=st
  refine wpAny_pyNext_enum_end (I.ok.hd hc) h1 h4 p.isList (bJ (by rw [aJ];lia)) λh' g=>⟨rfl,Inv.turnedL (ch:=[z,it]) (tk:=s.toks) I (λc o nc e=>?_) hf⟩
  simp only [aq,ay,bU,not_or] at nc
  exact g c o nc.2 e
 self:=λ_ _ _ _ _ st h=>let ⟨_,⟨_,e⟩,_⟩:=st;wpAny_pyIter_enum e h
section
variable {X:Cx}
def iEnum (K:Aa)(ta:TA):TI:=λσ H R=>ta σ H λvs H1=>∃a xs,vs=[.ref a]∧SqL K H1 a xs∧R (ItE K a xs) H1
theorem wwt {a:Expr}{ta:TA}{p pos:Pos}{es:List Expr}{k:Nat}{tpos:Pos}(hg:Gl X "enumerate")(hm:X.mg "enumerate" = none)(ha:PA X [a] ta)(hv:bootBuiltins "enumerate" = some (.type "enumerate"):=by rfl)
  (hs:starEach [a] X.env=[(false,eval a X.env)]:=by rfl):PI X (.Tuple es k tpos) (.Call (.Name "enumerate" p) [a] [] pos) (iEnum X.K ta):=by
 intro pins s σ H R I h
 refine Call_ (Yf I hg hm hv (cy (thn (ha pos pins s σ H _ I h) λus s1 ⟨vs,H1,I1,r1,q1⟩=>?_) hs rfl))
 obtain ⟨a,xs,e,hq1,q⟩:=q1
 subst e
 cases r1 with
 |cons r rr =>
   cases rr
   cases r
   obtain ⟨its,rv,p,hz⟩:=I1.list hq1
   refine call_enumerate_list p.isList λh' g1 g4 g6 g7=>?_
   refine wpAny_pyIter_enum g1 ?_
   have I2:Inv X pins σ H1 { s1 with heap:=h' }:=I1.kept (t':=s1.toks) g7
   refine ⟨s1.heap.objs.size+1,[s1.heap.objs.size+1,s1.heap.objs.size],_,_,H1,rfl,I2,qyw a _ _ xs (Nat.succ_ne_self _),⟨aB _,⟨_,g1⟩,g4⟩,λc hc=>?_,q⟩
   have hc':s1.heap.objs.size≤c:=by
    have:c=s1.heap.objs.size+1∨c=s1.heap.objs.size:=by simpa using hc
    rcases this with e | e <;> (rw [e];first | exact af _ | exact Nat.le_add_right _ _)
   exact I1.fpOk hc' (I1.hok.fresh hc')
end
def qz2 (J:It)(M:List Nat)(gg:TG)(te:TE)(σ:St)(H1:Hp)(Q:VK):Prop:=∀p,H1 p=none→∃W:Nat→Nat→List V→Hp→Prop,(∃m,W 0 m [] (upd H1 p (.lst []))) ∧
 ∀i m ys H2,W i m ys H2→H2 p=some (.lst ys)∧ys.length<sizeLine∧((J.stop i H2∧Q (.ref p) H2)∨(J.go i H2∧∀v H3,J.yld i H2 v H3 →
  gg v (yj M σ none none) H3 λσ4 H4=>(∃a b,σ4=yj M σ (some a) (some b))∧te σ4 H4 λy H5=>H5 p=some (.lst ys)∧∃m',m'<m∧W (i+1) m' (ys++[y]) (upd H5 p (.lst (ys++[y])))))
def tCompP (M:List Nat)(wi:TI)(gg:TG)(te:TE):TE:=λσ H Q=>wi σ H λJ H1=>qz2 J M gg te σ H1 Q
section
variable {X:Cx}{elt iter tg:Expr}{x y2:Str}{pos:Pos}{scope:Scope}{cl:List (Str×Aj)}{M:List Nat}{wi:TI}{gg:TG}{te:TE}
theorem qjm (hc:X.calm=true)(hclos:closureFor scope X.env=pure cl)(hcap:CapAll X.env cl)(hhas:HasAll cl scope.names)(hix:CapIx X scope cl M)(hk:scope.kind=.function)
  (hnames:∀y∈scope.names,y.2=.local→scope.names.lookup y.1=some .local) (hg:∀C s2 H2 fp pn,PG (vq X scope cl x y2 M C s2 H2 fp pn) tg gg) (hi:PI X tg iter wi)
  (he:∀C s2 H2 fp pn,PE (vq X scope cl x y2 M C s2 H2 fp pn) elt te) (hs:∀z,foldedSetIterable iter X.env z=pure z)
  {use:Option (Ag→Sem Unit)} {QQ:Ag→Ab→Prop} {pins:List (Aj×Obj)} {s:Ab} {σ:St} {H:Hp} {Q:VK} {ps:Pos} (I:Inv X pins σ H s) (h:wi σ H λJ H1=>qz2 J M gg te σ H1 Q)
  (fin:∀(C:Aj) (s2 s4:Ab) (H1 H2:Hp) (fp:List Aj),Inv X pins σ H1 s2→s2.heap.objs.size<C→(∀b∈fp,km X pins H1 b)→Inv (vq X scope cl x y2 M C s2 H1 fp (X.pn++pins)) [] (yj M σ none none) H2 s4→Q (.ref s2.heap.objs.size) H2 →
   compPost (model X.prog X.w) X.A X.xe use QQ (.ref s2.heap.objs.size) C (.ok .next) s4) :
  wpAny (model X.prog X.w) X.A (comprehension (.ListComp elt [⟨tg,iter,[],0⟩] scope pos) scope X.env ps (newList []) false (eval iter X.env) use) QQ X.xe s:=by
 refine cJ (use:=use) rfl hs hclos hk hnames ?_
 refine thn (hi pins s σ H _ I h) λv s1 h1=>thn h1 λitv s2 h2=>?_
 obtain ⟨it,fp,tn,J,H1,rfl,I2,T,t0,hfp,hR⟩:=h2
 have hob:∀b∈fp,∃o,s2.heap.get? b=some o∧∀v,o.data≠.cell v:=T.obj 0 _ t0
 obtain ⟨W,⟨m0,w0⟩,hW⟩:=hR s2.heap.objs.size (I2.hok.fresh (af _))
 refine bD ?_
 refine di hhas.nocell (by intro y hy;cases hy) (λh3 hns hsb=>?_) hk
 dsimp only at hns hsb ⊢
 generalize hH2:s2.heap.push { cls:=.type "list",dict:=none,data:=.seq ([]:List Ag).toArray }=G2 at hns hsb ⊢
 have hC:G2.objs.size=s2.heap.objs.size+1:=by rw [←hH2,cS]
 have hlt:s2.heap.objs.size<G2.objs.size:=by lia
 have keep:∀b o,s2.heap.get? b=some o→h3.get? b=some o:=λb o e=>by
  have hb:b≠G2.objs.size:=ao (bo (ai e) hlt)
  rw [hsb.2 b hb]
  exact ac _ (hH2▸ac _ e)
 have hD:h3.get? s2.heap.objs.size=some { cls:=.type "list",data:=.seq #[] 0 }:=by
  rw [hsb.2 _ (ao hlt)]
  exact ac _ (hH2▸am _ rfl)
 have hns':h3.Ns G2.objs.size λ_=>none:=hns
 have J0:∀tk,Inv (vq X scope cl x y2 M G2.objs.size s2 H1 fp (X.pn++pins)) [] (yj M σ none none) (upd H1 s2.heap.objs.size (.lst [])) { s2 with heap:=h3,toks:=tk }:=λtk =>
  I2.comp2 hcap hhas hix hk hlt keep hns' hD hfp λb hb=>let ⟨o,e,_⟩:=hob b hb;⟨o,e⟩
 have hbl:∀b∈fp,b<s2.heap.objs.size:=λb hb=>let ⟨o,e,_⟩:=hob b hb;ai e
 have fok:∀(H2:Hp),(∀b∈fp,H2 b=none)→∀b∈fp,km (vq X scope cl x y2 M G2.objs.size s2 H1 fp (X.pn++pins)) [] H2 b:=λH2 hn b hb=>by
  obtain ⟨q1,q2,q3,q4,q5,q6⟩:=hfp b hb
  refine ⟨hn b hb,ao (bo (hbl b hb) hlt),λz=>?_,.inl hb,λy c e=>q5 y c (hcap.look e),λp hp=>q6 p ((ba.mp hp).elim (λz=>z) λz=>nomatch z)⟩
  rcases aq.mp (I2.stkSub b z) with z|z
  ·exact q2 z
  ·exact q3 z
 have loop:∀tk,codeAny (model X.prog X.w) X.A (.compLoop (.ListComp elt [⟨tg,iter,[],0⟩] scope pos) 0 (.ref it) (.ref s2.heap.objs.size) (compEnvC scope cl G2.objs.size X.env))
   (compPost (model X.prog X.w) X.A X.xe use QQ (.ref s2.heap.objs.size) G2.objs.size) { s2 with heap:=h3,toks:=tk }:=λtk=>by
  refine codeAny_loop rfl (λn s3=>∃i ys H2,W i n ys H2∧Inv (vq X scope cl x y2 M G2.objs.size s2 H1 fp (X.pn++pins)) [] (yj M σ none none) H2 s3∧tn i s3.heap∧∀b∈fp,H2 b=none) (λn s3 hI=>?_) m0
   ⟨0,[],_,w0,J0 tk,T.keep 0 _ _ t0 λb _ o e=>keep b o e,λb hb=>by rw [wc (ao (hbl b hb))];exact (hfp b hb).1⟩
  obtain ⟨i,ys,H2,w,J2,t,nf2⟩:=hI
  show wpAny _ _ ((compTurn (.ListComp elt [⟨tg,iter,[],0⟩] scope pos) 0 (.ref it) (.ref s2.heap.objs.size) (compEnvC scope cl G2.objs.size X.env)).onRaise λz=>do noteFrame z (compEnvC scope cl G2.objs.size X.env);theTreesLotGoes z) _ _ s3
  refine wpAny_noted ?_
  rw [compTurn_list1]
  refine aa (de (aa ?_))
  obtain ⟨hp,hz,hcase⟩:=hW i n ys H2 w
  rcases hcase with ⟨hst,hq⟩|⟨hgo,hy⟩
  ·refine aK (T.done (vq X scope cl x y2 M G2.objs.size s2 H1 fp (X.pn++pins)) rfl rfl rfl hc i [] s3 _ H2 (λ_ _=>False) J2 (fok H2 nf2) t hst) (λr s4 hr=>?_) λ_ _ z=>z.elim
   obtain ⟨rfl,J4⟩:=hr
   refine ag ?_
   exact fin G2.objs.size s2 s4 H1 H2 fp I2 hlt hfp J4 hq
  ·refine aK (T.item (vq X scope cl x y2 M G2.objs.size s2 H1 fp (X.pn++pins)) rfl rfl rfl hc i [] s3 _ H2 (λ_ _=>False) J2 (fok H2 nf2) t hgo) (λr s4 hr=>?_) λ_ _ z=>z.elim
   obtain ⟨u,rfl,hw⟩:=hr
   refine aa (aK hw (λ_ s5 hr5=>?_) λ_ _ z=>z.elim)
   obtain ⟨v,H3,J5,rv,yl,t5,nf⟩:=hr5
   have J5p:=J5.pinned (fok H3 nf) (T.obj _ _ t5)
   refine aa (aK (hg G2.objs.size s2 H1 fp (X.pn++pins) _ s5 _ H3 v u _ J5p rv (hy v H3 yl)) (λ_ s6 hr6=>?_) λ_ _ z=>z.elim)
   obtain ⟨σ6,H6,J6,⟨a6,b6,rfl⟩,hte⟩:=hr6
   refine aa (aa (aK (he _ _ _ _ _ _ s6 _ H6 _ J6 hte) (λyv s7 hr7=>?_) λ_ _ z=>z.elim))
   obtain ⟨y,H4,J7,ry,hp4,m',hm',w'⟩:=hr7
   refine aa (aK (vh (X:=vq X scope cl x y2 M G2.objs.size s2 H1 fp (X.pn++pins)) _ s7 _ H4 (.ref s2.heap.objs.size) [y] (.ref s2.heap.objs.size) [yv] (λ_ H8=>H8=upd H4 s2.heap.objs.size (.lst (ys++[y]))) J7 rfl (.cons ry .nil) ⟨_,ys,y,rfl,rfl,hp4,hz,rfl⟩) (λ_ s8 hr8=>?_) λ_ _ z=>z.elim)
   obtain ⟨_,H8,J8,_,rfl⟩:=hr8
   refine ag (ag ⟨rfl,m',hm',i+1,ys++[y],_,w',?_,?_,?_⟩)
   ·refine (J8.unpinned (pins:=[])).weak rfl λk z ez=>?_
    match k,ez with
    |0,ez=>cases ez
    |1,ez=>cases ez
    |k+2,ez=>exact ez
   ·exact T.keep _ _ _ t5 λb hb o e=>(J8.pin (b,o) (aw _ (aw _ (vm hb e)))).1
   ·intro b hb
    obtain ⟨o,e,_⟩:=T.obj _ _ t5 b hb
    exact (J8.pin (b,o) (aw _ (aw _ (vm hb e)))).2.1
 exact codeAny_compStart_list (loop _) (T.self _ 0 _ _ _ (T.keep 0 _ _ t0 λb _ o e=>keep b o e) (loop _))
theorem wq4 (hc:X.calm=true)(hclos:closureFor scope X.env=pure cl)(hcap:CapAll X.env cl)(hhas:HasAll cl scope.names)(hix:CapIx X scope cl M)(hk:scope.kind=.function)
  (hnames:∀y∈scope.names,y.2=.local→scope.names.lookup y.1=some .local) (hg:∀C s2 H2 fp pn,PG (vq X scope cl x y2 M C s2 H2 fp pn) tg gg) (hi:PI X tg iter wi)
  (he:∀C s2 H2 fp pn,PE (vq X scope cl x y2 M C s2 H2 fp pn) elt te) (hs:∀z,foldedSetIterable iter X.env z=pure z:=by intro _;rfl) :
  PE X (.ListComp elt [⟨tg,iter,[],0⟩] scope pos) (tCompP M wi gg te):=by
 intro pins s σ H Q I h
 rw [eval_ListComp]
 refine qjm hc hclos hcap hhas hix hk hnames hg hi he hs (use:=none) I h λC s2 s4 H1 H2 fp I2 hlt hfp J4 hq=>?_
 obtain ⟨m,hn,_⟩:=J4.loc
 exact ⟨m,hn,λh' hs'=>⟨.ref s2.heap.objs.size,H2,I2.uncomp2 (bw hlt) hfp J4 hs',rfl,hq⟩⟩
end
theorem wxj {X:Cx}{K:Aa}{pos:Pos}{es:List Expr}{k:Nat}{t:TGs}{n:Nat}(hK:X.K=K)(hc:X.calm=true)(h:PGs X es t)(h1:(assignEach es X.env).length=n:=by rfl)(h2:List.findIdx? (λx=>x.fst) (assignEach es X.env)=none:=by rfl):PG X (.Tuple es k pos) (gTup K n t):=by
 subst hK
 exact jn hc h h1 h2
end L2
namespace L2
open PySem PySem.Spec PyProof.Rows PySem.W
def Fz (H:Hp)(d:Aj)(o:Obj)(kvs:List (Key×V))(H':Hp):Prop:=H' d=some (.frz o (.dK kvs))∧∀b,b≠d→H' b=H b
section
variable {X:Cx}{pins:List (Aj×Obj)}{σ:St}{H:Hp}{s:Ab}{d:Aj}{kvs:List (Key×V)}
theorem Inv.freeze {o:Obj}(I:Inv X pins σ H s)(e:H d=some (.dK kvs))(ho:s.heap.get? d=some o):Inv X pins σ (upd H d (.frz o (.dK kvs))) s:=by
 obtain ⟨z,hd,vs,rel,dd⟩:=qqz I.hok e
 exact Inv.write (t':=s.toks) (h':=s.heap) I (by rw [e];exact trivial) (.inl rfl) (λ_ _ _ e=>e) ⟨o,ho⟩ ⟨ho,Zs z hd rel dd⟩
theorem Q1 {o:Obj}(I:Inv X pins σ H s)(e:H d=some (.frz o (.dK kvs))):kvs.length≤sizeLine∧(d==sysModules)=false∧s.heap.get? d=some o∧∃vs es ep,KV kvs vs∧o.data=.dict es ep∧s.heap.DictAt (xj X.prog X.w) d vs ep:=by
 obtain ⟨ho,z,hd,vs,rel,dd⟩:=(show ObjOk X.prog X.w H s.heap d (.frz o (.dK kvs)) from I.hok d _ e)
 obtain ⟨o',es,ep,h1,h2,h3,h4⟩:=id dd
 have:o'=o:=av (h1.symm.trans ho)
 subst this
 exact ⟨z,hd,ho,vs,es,ep,rel,h3,o',es,h1,h2,h3,h4⟩
theorem Inv.freezeRd (I:Inv X pins σ H s)(e:Rd H d (.dK kvs)):∃o H',Fz H d o kvs H'∧Inv X pins σ H' s:=by
 rcases e with e|⟨o,e⟩
 ·obtain ⟨z,hd,vs,rel,o,es,ep,ho,r⟩:=qqz I.hok e
  exact ⟨o,_,⟨qt,λb nb=>wc nb⟩,I.freeze e ho⟩
 ·exact ⟨o,H,⟨e,λ_ _=>rfl⟩,I⟩
theorem wqy {P:Ac}{w:Ah}{k:Key}{u:Ag}(h:(xj P w).is k u=true):RelV (kV k) u:=by
 rcases zy (show Ym k u=true from h) with ⟨i,t,rfl,rfl⟩|⟨x,t,rfl,rfl⟩
 ·exact ⟨t,rfl⟩
 ·exact ⟨t,rfl⟩
end
def ItD (d:Aj)(o:Obj)(kvs:List (Key×V)):It :=
 ⟨λi H=>H d=some (.frz o (.dK kvs))∧i<kvs.length,λi H v H'=>H'=H∧∃p,kvs[i]?=some p∧v=kV p.1,λi H=>H d=some (.frz o (.dK kvs))∧kvs.length≤i⟩
theorem qzr {kvs:List (Key×V)}{vs:List (Key×Ag)}(r:KV kvs vs){i:Nat}{p:Key×V}(e:kvs[i]?=some p):∃q,vs[i]?=some (p.1,q)∧RelV p.2 q:=by
 induction r generalizing i with
 |nil=>cases e
 |cons h t ih =>
  cases i with
  |zero =>
   cases e
   obtain ⟨h1,h2⟩:=h
   rename_i b _ _
   exact ⟨b.2,by show some b=some (_,b.2);rw [h1],h2⟩
  |succ i=>exact ih e
theorem wxr {P:Ac}{w:Ah}{K:Aa}{tg:Expr}{d it:Aj}{o:Obj}{kvs:List (Key×V)}{ep:Nat}(hep:∃es,o.data=.dict es ep):Turn P w K tg (ItD d o kvs) [it] it (λi h=>h.IsKeyIter it d i kvs.length ep) where
 mem:=by simp
 obj:=λi h st b hb=>by
  have e:b=it:=by simpa using hb
  subst e
  obtain ⟨ob,e,c,dd⟩:=st
  exact ⟨ob,e,λv z=>by rw [dd] at z;cases z⟩
 keep:=λi h h' st k=>st.at λob e=>k it (by simp) ob e
 item:=by
  intro X hP hw hK hc i pins s σ H E I hf st hg
  subst hP hw hK
  obtain ⟨hq,hi⟩:=hg
  obtain ⟨z,hd,ho,vs,es,ep',rel,h3,dd⟩:=Q1 I hq
  obtain ⟨es2,h4⟩:=hep
  have:ep'=ep:=by rw [h3] at h4;cases h4;rfl
  subst this
  have e1:kvs[i]?=some kvs[i]:=al hi
  obtain ⟨q,eq,rq⟩:=qzr rel e1
  have hl:vs.length=kvs.length:=(bb rel).symm
  obtain ⟨f0,f1,f2,f3,f4,f5⟩:=hf it (by simp)
  refine wpAny_pyNext_dict_item (by rw [hl];exact st) dd eq λkey h' hk st' sb=>?_
  have I1:Inv X pins σ H { s with heap:=h' }:=I.turned (t':=s.toks) (λb o hb e=>(sb.2 b hb).trans e) f0 f1 f3 f4 f5
  rw [hl] at st'
  obtain ⟨ob,e,c,d'⟩:=id st'
  exact ⟨key,rfl,qxw (s:={ s with heap:=h' }) e c d' (by decide) ⟨_,H,I1,wqy hk,⟨rfl,_,e1,rfl⟩,st',λb hb=>(hf b hb).1⟩⟩
 done:=by
  intro X hP hw hK hc i pins s σ H E I hf st hg
  subst hP hw hK
  obtain ⟨hq,hi⟩:=hg
  obtain ⟨z,hd,ho,vs,es,ep',rel,h3,dd⟩:=Q1 I hq
  obtain ⟨es2,h4⟩:=hep
  have:ep'=ep:=by rw [h3] at h4;cases h4;rfl
  subst this
  have hl:vs.length=kvs.length:=(bb rel).symm
  obtain ⟨f0,f1,f2,f3,f4,f5⟩:=hf it (by simp)
  exact wpAny_pyNext_dict_end (I.ok.hd hc) (by rw [hl];exact st) dd (bj (by lia)) λh' eb=>⟨rfl,I.turned (t':=s.toks) (λb o hb e=>eb b o hb e) f0 f1 f3 f4 f5⟩
 self:=λ_ _ _ _ _ st h=>wpAny_pyIter_keyiter st h
def ItDI (d:Aj)(o:Obj)(kvs:List (Key×V)):It :=
 ⟨λi H=>H d=some (.frz o (.dK kvs))∧i<kvs.length,λi H v H'=>∃q p,H q=none∧v=.ref q∧kvs[i]?=some p∧H'=upd H q (.tup [kV p.1,p.2]),λi H=>H d=some (.frz o (.dK kvs))∧kvs.length≤i⟩
theorem wxp {P:Ac}{w:Ah}{K:Aa}{xs:List Expr}{k:Nat}{pos:Pos}{d it:Aj}{o:Obj}{kvs:List (Key×V)}{ep:Nat}(hep:∃es,o.data=.dict es ep):Turn P w K (.Tuple xs k pos) (ItDI d o kvs) [it] it (λi h=>∃ok ov,IsItemIter h it d i kvs.length ep ok ov) where
 mem:=by simp
 obj:=λi h st b hb=>by
  have e:b=it:=by simpa using hb
  subst e
  obtain ⟨ok,ov,e⟩:=st
  exact ⟨_,e,λv z=>by cases z⟩
 keep:=λi h h' st k=>by
  obtain ⟨ok,ov,e⟩:=st
  exact ⟨ok,ov,k it (by simp) _ e⟩
 item:=by
  intro X hP hw hK hc i pins s σ H E I hf st hg
  subst hP hw hK
  obtain ⟨hq,hi⟩:=hg
  obtain ⟨z,hd,ho,vs,es,ep',rel,h3,dd⟩:=Q1 I hq
  obtain ⟨es2,h4⟩:=hep
  have:ep'=ep:=by rw [h3] at h4;cases h4;rfl
  subst this
  have e1:kvs[i]?=some kvs[i]:=al hi
  obtain ⟨q,eq,rq⟩:=qzr rel e1
  have hl:vs.length=kvs.length:=(bb rel).symm
  obtain ⟨ok,ov,st⟩:=st
  refine wpAny_pyNext_items_item (by rw [hl];exact st) dd eq λkey h' hk g1 g2 g3 g4=>?_
  refine ⟨_,rfl,wpAny_letOwnedTupleGo_items (s:={ s with heap:=h' }) g1 λh'' j1 j2=>?_⟩
  have ne:it≠s.heap.objs.size:=ao (ai st)
  have new:h''.get? s.heap.objs.size=some { cls:=.type "tuple",data:=.seq #[key,q] }:=(j2.2 _ (bg ne)).trans g2
  refine ⟨.ref s.heap.objs.size,_,Inv.turnedT (s:=s) (ch:=[it]) (tk:=s.toks) I (λb u nb e=>?_) new hf (λb hb=>?_) (qkc I (wqy hk) rq) rfl,rfl,⟨_,_,I.hok.fresh (af _),rfl,e1,rfl⟩,⟨_,_,by rw [←hl];exact j1⟩,λb hb=>?_⟩
  ·have nb:b≠it:=by simpa using nb
   exact (j2.2 b nb).trans (g4 b u nb e)
  ·have e:b=it:=by simpa using hb
   rw [e];exact ne
  ·have e:b=it:=by simpa using hb
   rw [e,wc ne];exact (hf it (by simp)).1
 done:=by
  intro X hP hw hK hc i pins s σ H E I hf st hg
  subst hP hw hK
  obtain ⟨hq,hi⟩:=hg
  obtain ⟨z,hd,ho,vs,es,ep',rel,h3,dd⟩:=Q1 I hq
  obtain ⟨es2,h4⟩:=hep
  have:ep'=ep:=by rw [h3] at h4;cases h4;rfl
  subst this
  have hl:vs.length=kvs.length:=(bb rel).symm
  obtain ⟨f0,f1,f2,f3,f4,f5⟩:=hf it (by simp)
  obtain ⟨ok,ov,st⟩:=st
  exact wpAny_pyNext_items_end (I.ok.hd hc) (by rw [hl];exact st) dd (bj (by lia)) λh' eb=>⟨rfl,I.turned (t':=s.toks) (λb o hb e=>eb b o hb e) f0 f1 f3 f4 f5⟩
 self:=λ_ _ _ _ _ st h=>by
  obtain ⟨ok,ov,e⟩:=st
  exact kcp_self e h
section
variable {X:Cx}{tg l:Expr}{tl:TE}
def iDk (tl:TE):TI:=λσ H R=>tl σ H λx H1=>∃d kvs,x=.ref d∧Rd H1 d (.dK kvs)∧∀o H2,Fz H1 d o kvs H2→R (ItD d o kvs) H2
theorem pi_dk (hl:PE X l tl):PI X tg l (iDk tl):=by
 intro pins s σ H R I h
 refine thn (hl pins s σ H _ I h) λv s1 ⟨x,H1,I1,r1,q1⟩=>?_
 obtain ⟨d,kvs,e,rd,q⟩:=q1
 subst e
 cases r1
 obtain ⟨o,H2,fz,I2⟩:=I1.freezeRd rd
 obtain ⟨z,hd,ho,vs,es,ep,rel,h3,dd⟩:=Q1 I2 fz.1
 have hl:vs.length=kvs.length:=(bb rel).symm
 refine wpAny_pyIter_dict hd dd ?_
 refine ⟨s1.heap.objs.size,[s1.heap.objs.size],_,_,H2,rfl,I2.kept (t':=s1.toks) λb o e=>ac _ e,wxr ⟨es,h3⟩,⟨_,am _ rfl,rfl,by rw [hl];rfl⟩,λb hb=>?_,q o H2 fz⟩
 have e:b=s1.heap.objs.size:=by simpa using hb
 subst e
 exact I2.fpOk (af _) (I2.hok.fresh (af _))
def iDi (tl:TE):TI:=λσ H R=>tl σ H λx H1=>∃d kvs,x=.ref d∧Rd H1 d (.dK kvs)∧∀o H2,Fz H1 d o kvs H2→R (ItDI d o kvs) H2
theorem pi_di {apos cpos tpos:Pos}{xs:List Expr}{k:Nat}(hl:PE X l tl)(hbase:attributeBase l "items" X.env (eval l X.env)=eval l X.env:=by rfl)(hline:(apos.endLine==cpos.line)=true:=by rfl) :
  PI X (.Tuple xs k tpos) (.Call (.Attribute l "items" apos) [] [] cpos) (iDi tl):=by
 intro pins s σ H R I h
 refine wpAny_Call_method0_late hbase hline (thn (hl pins s σ H _ I h) λv s1 ⟨x,H1,I1,r1,q1⟩=>?_)
 obtain ⟨d,kvs,e,rd,q⟩:=q1
 subst e
 cases r1
 obtain ⟨o,H2,fz,I2⟩:=I1.freezeRd rd
 obtain ⟨t1,t2,_⟩:=qz9 I1 (.inl ⟨kvs,rd⟩)
 obtain ⟨z,hd,ho,vs,es,ep,rel,h3,dd⟩:=Q1 I2 fz.1
 have hl:vs.length=kvs.length:=(bb rel).symm
 refine ⟨"dict","dict.items",cQ,d8,PySem.F.type_dict_items,t1,t2,ce rfl (PySem.evalArgs_none ?_)⟩
 refine cD d8 t1 PySem.F.entry_dict_items (PySem.F.args_dict_items_1 _) (meets_dict_items (xj X.prog X.w) d hd) ⟨⟨vs,dd.dictOf⟩,?_⟩
 have I3:Inv X pins σ H2 { s1 with heap:=s1.heap.push { cls:=.type "dict_items",data:=.fields #[.ref d] } }:=I2.kept (t':=s1.toks) λb o e=>ac _ e
 refine wpAny_pyIter_items (s:={ s1 with heap:=s1.heap.push { cls:=.type "dict_items",data:=.fields #[.ref d] } }) ⟨_,am _ rfl,rfl,rfl⟩ (dd.push _) ?_
 refine ⟨_,[_],_,_,H2,rfl,I3.kept (t':=s1.toks) λb o e=>ac _ e,wxp ⟨es,h3⟩,⟨.none,.none,?_⟩,λb hb=>?_,q o H2 fz⟩
 ·rw [hl]
  exact am _ rfl
 ·have e:=au.mp hb
  subst e
  exact I3.fpOk (af _) (I3.hok.fresh (af _))
def ItS (x:Str):It:=⟨λi _=>i<x.cps.size,λi H v H'=>H'=H∧v=.str ⟨#[x.cps.getD i 0]⟩,λi _=>x.cps.size≤i⟩
theorem qjs {P:Ac}{w:Ah}{K:Aa}{it:Aj}{x:Str}{t:Tok}:Turn P w K tg (ItS x) [it] it (λi h=>h.IsStrIter it "str_ascii_iterator" x t i) where
 mem:=by simp
 obj:=λi h st b hb=>by
  have e:b=it:=by simpa using hb
  subst e
  obtain ⟨ob,e,c,dd⟩:=st
  exact ⟨ob,e,λv z=>by rw [dd] at z;cases z⟩
 keep:=λi h h' st k=>by
  obtain ⟨ob,e,r⟩:=st
  exact ⟨ob,k it (by simp) ob e,r⟩
 item:=by
  intro X hP hw hK hc i pins s σ H E I hf st hg
  subst hP hw hK
  have hg:i<x.cps.size:=hg
  obtain ⟨f0,f1,f2,f3,f4,f5⟩:=hf it (by simp)
  refine wpAny_pyNext_ascii_item st (c:=x.cps.getD i 0) (by rw [dC,bu hg];rfl) λh' st' sb=>?_
  have I1:Inv X pins σ H { s with heap:=h',toks:=s.toks+1 }:=I.turned (t':=s.toks+1) (λb o hb e=>(sb.2 b hb).trans e) f0 f1 f3 f4 f5
  obtain ⟨ob,e,c,d'⟩:=id st'
  exact ⟨_,rfl,qxw (s:={ s with heap:=h',toks:=s.toks+1 }) e c d' (by decide) ⟨.str ⟨#[x.cps.getD i 0]⟩,H,I1,⟨_,rfl⟩,⟨rfl,rfl⟩,st',λb hb=>(hf b hb).1⟩⟩
 done:=by
  intro X hP hw hK hc i pins s σ H E I hf st hg
  subst hP hw hK
  obtain ⟨f0,f1,f2,f3,f4,f5⟩:=hf it (by simp)
  exact wpAny_pyNext_ascii_end (I.ok.hd hc) st (bJ hg) λh' eb=>⟨rfl,I.turned (t':=s.toks) (λb o hb e=>eb b o hb e) f0 f1 f3 f4 f5⟩
 self:=λ_ _ _ _ _ st h=>wpAny_pyIter_striter_ascii st h
theorem qyc {P:Ac}{w:Ah}{K:Aa}{it:Aj}{x:Str}{t:Tok}:Turn P w K tg (ItS x) [it] it (λi h=>h.IsStrIter it "str_iterator" x t i) where
 mem:=by simp
 obj:=λi h st b hb=>by
  have e:b=it:=by simpa using hb
  subst e
  obtain ⟨ob,e,c,dd⟩:=st
  exact ⟨ob,e,λv z=>by rw [dd] at z;cases z⟩
 keep:=λi h h' st k=>by
  obtain ⟨ob,e,r⟩:=st
  exact ⟨ob,k it (by simp) ob e,r⟩
 item:=by
  intro X hP hw hK hc i pins s σ H E I hf st hg
  subst hP hw hK
  have hg:i<x.cps.size:=hg
  obtain ⟨f0,f1,f2,f3,f4,f5⟩:=hf it (by simp)
  refine wpAny_pyNext_wide_item st (c:=x.cps.getD i 0) (by rw [dC,bu hg];rfl) λh' st' sb=>?_
  have I1:Inv X pins σ H { s with heap:=h',toks:=s.toks+1 }:=I.turned (t':=s.toks+1) (λb o hb e=>(sb.2 b hb).trans e) f0 f1 f3 f4 f5
  obtain ⟨ob,e,c,d'⟩:=id st'
  exact ⟨_,rfl,qxw (s:={ s with heap:=h',toks:=s.toks+1 }) e c d' (by decide) ⟨.str ⟨#[x.cps.getD i 0]⟩,H,I1,⟨_,rfl⟩,⟨rfl,rfl⟩,st',λb hb=>(hf b hb).1⟩⟩
 done:=by
  intro X hP hw hK hc i pins s σ H E I hf st hg
  subst hP hw hK
  obtain ⟨f0,f1,f2,f3,f4,f5⟩:=hf it (by simp)
  exact wpAny_pyNext_wide_end (I.ok.hd hc) st (bJ hg) λh' eb=>⟨rfl,I.turned (t':=s.toks) (λb o hb e=>eb b o hb e) f0 f1 f3 f4 f5⟩
 self:=λ_ _ _ _ _ st h=>wpAny_pyIter_striter_wide st h
def iStr (tl:TE):TI:=λσ H R=>tl σ H λv H1=>∃x,v=.str x∧R (ItS x) H1
theorem pi_str (hl:PE X l tl):PI X tg l (iStr tl):=by
 intro pins s σ H R I h
 refine thn (hl pins s σ H _ I h) λv s1 ⟨v',H1,I1,r1,x,e,q⟩=>?_
 subst e
 obtain ⟨t,rfl⟩:=(show ∃t,v=Value.str x t from r1)
 cases ha:x.cps.all (·<128)
 ·refine wpAny_pyIter_wide ha ⟨s1.heap.objs.size,[s1.heap.objs.size],_,_,H1,rfl,I1.kept (t':=s1.toks) λb o e=>ac _ e,qyc (t:=t),⟨_,am _ rfl,rfl,rfl⟩,λb hb=>?_,q⟩
  have e:=au.mp hb
  subst e
  exact I1.fpOk (af _) (I1.hok.fresh (af _))
 ·refine wpAny_pyIter_ascii ha ⟨s1.heap.objs.size,[s1.heap.objs.size],_,_,H1,rfl,I1.kept (t':=s1.toks) λb o e=>ac _ e,qjs (t:=t),⟨_,am _ rfl,rfl,rfl⟩,λb hb=>?_,q⟩
  have e:=au.mp hb
  subst e
  exact I1.fpOk (af _) (I1.hok.fresh (af _))
end
end L2
namespace L2
open PySem
def advN (t:SetTable):Nat→SetTable.Probe→SetTable.Probe
 |0,p=>p
 |n+1,p=>advN t n (t.advance p)
def rs (mask:Nat)(q:Nat×Nat):SetTable.Probe:={ j:=q.1,more:=SetTable.runEnd mask q.1-q.1,i:=q.1,perturb:=q.2,dummy:=none }
theorem qqm:∀(l l':List Nat),l.Nodup→(∀a∈l,a∈l')→l.length≤l'.length
 |[],_,_,_=>aB _
 |a::l,l',hn,hs=>by
  have hn':=bf.mp hn
  have ha:=hs a (.head _)
  have:=qqm l (l'.erase a) hn'.2 λb hb=>(List.mem_erase_of_ne (λz=>by subst z;exact hn'.1 hb)).mpr (hs b (.tail _ hb))
  rw [dR,ak ha] at this
  have hp:0<l'.length:=List.length_pos_of_mem ha
  rw [aQ]
  lia
inductive MetOk (t:SetTable) (p:SetTable.Probe) (N:Nat):SetTable.Met→Prop
 |empty (j:Nat):MetOk t p N (.empty j none)
 |cand (m i:Nat) (hm:m<N) (hs:t.slot (advN t m p).j=.live i):MetOk t p N (.candidate (advN t m p).j i (advN t (m+1) p))
def liveL (mask:Nat)(owner:Array (Option Nat)):List (Nat×Nat):=(List.range (mask+1)).filterMap λj=>(owner.getD j none).map (j,·)
structure OwnI (mask:Nat)(owner:Array (Option Nat))(k:Nat):Prop where
 size:owner.size=mask+1
 len:(liveL mask owner).length=k
 low:∀j v:Nat,owner[j]?=some (some v)→v<k
end L2
namespace L2
open PySem PySem.Spec PyProof.Rows
def Rows (q:Aj)(B:Hp)(L:List (List V))(ys:List V)(H:Hp):Prop:=Paired (λv xs=>∃a,v=.ref a∧a≠q∧B a=none∧H a=some (.lst xs)) ys L
theorem xu {H H':Hp}(s:Same H H'){a:Aj}(n:H' a=none):H a=none:=by
 cases e:H a with
 |none=>rfl
 |some o=>rw [s _ _ e] at n;cases n
def Zu (c:Nat→Bool)(xs:List V)(n:Nat):List V:=((List.range n).filter c).map λi=>xs.getD i .non
theorem qz1 {K:Aa}{M:List Nat}{a:Aj}{xs:List V}{tt:TT}{te:TE}{σ:St}{H:Hp}{Q:VK}(c:Nat→Bool)(hS:SqL K H a xs)(hn:xs.length≤1000000)
  (ht:∀(i:Nat) (x:V) (H':Hp) (R:Bool→Hp→Prop),xs[i]?=some x→Same H H'→(∀H'',Same H' H''→R (c i) H'')→tt (zp M σ (some x)) H' R)
  (he:∀(i:Nat) (x:V) (H':Hp) (R:VK),xs[i]?=some x→c i=true→Same H H'→(∀H'',Same H' H''→R x H'')→te (zp M σ (some x)) H' R)
  (k:∀p H',H p=none→Same H H'→H' p=some (.lst (Zu c xs xs.length))→Q (.ref p) H'):qkw (Itl K a) M tt te σ H Q:=by
 intro p np
 refine ⟨λi m ys H2=>i≤xs.length∧m=xs.length-i∧ys=Zu c xs i∧Same H H2∧H2 p=some (.lst ys),⟨xs.length,aB _,rfl,rfl,Same.upd np,qt⟩,?_⟩
 rintro i m ys H2 ⟨hi,rfl,rfl,sm,hp⟩
 refine ⟨hp,?_,?_⟩
 ·unfold Zu
  rw [ae]
  have:=cw c (List.range i)
  rw [aC] at this
  have:(1000000:Nat)<sizeLine:=by decide
  lia
 ·by_cases hlt:i<xs.length
  ·have hx:xs[i]?=some xs[i]:=al hlt
   refine .inr ⟨⟨xs,_,sm.sql hS,hx⟩,?_⟩
   rintro v H3 ⟨rfl,hv⟩
   have e:=av (hx.symm.trans (hv xs (sm.sql hS)))
   subst e
   refine ht i _ _ _ hx sm λH4 s4=>?_
   have hp4:=s4 _ _ hp
   have hg:xs.getD i .non=xs[i]:=by rw [ar,hx];rfl
   cases hc:c i with
   |true =>
    refine jt ?_
    refine he i _ _ _ hx hc (sm.trans s4) λH5 s5=>⟨s5 _ _ hp4,xs.length-(i+1),by lia,by lia,rfl,?_,λb o e=>?_,qt⟩
    ·unfold Zu
     rw [bQ,List.filter_append,aT]
     simp only [bY,hc,if_true,List.filter_nil,aD,cb,hg]
    ·rw [wc (qg e np)]
     exact s5 _ _ (s4 _ _ (sm _ _ e))
   |false =>
    refine yw ?_
    refine ⟨hp4,xs.length-(i+1),by lia,by lia,rfl,?_,sm.trans s4,hp4⟩
    unfold Zu
    rw [bQ,List.filter_append,aT]
    simp only [bY,hc,bN,dJ,List.filter_nil,cb,cn]
  ·have:i=xs.length:=by lia
   subst this
   exact .inl ⟨⟨xs,sm.sql hS,af _⟩,k p H2 np sm hp⟩
end L2
namespace L2
open PySem PySem.Spec PyProof.Rows
def Bef (a:Array Ai)(p q:Nat):Prop:=K a p<K a q∨(K a p=K a q∧p<q)
structure From (a xs:Array Ai)(k:Nat)(ix:Nat→Nat):Prop where
 at_:∀i,xs[i]?=a[ix i]?
 rest:∀i,k≤i→ix i=i
 low:∀i,i<k→ix i<k
theorem From.key {a xs:Array Ai}{k:Nat}{ix:Nat→Nat}(f:From a xs k ix)(i:Nat):K xs i=K a (ix i):=K_congr (f.at_ i)
theorem From.more {a xs:Array Ai}{k:Nat}{ix:Nat→Nat}(f:From a xs k ix):From a xs (k+1) ix :=
 ⟨f.at_,λi h=>f.rest i (by lia),λi h=>by
  by_cases e:i<k
  ·have:=f.low i e;lia
  ·have:=f.rest i (by lia);lia⟩
theorem From.mirror {a xs:Array Ai}{k b:Nat}{ix:Nat→Nat}(f:From a xs k ix)(hk:k≤xs.size):From a (mirror xs b k ((k-b)/2)) k (λi=>if b≤i∧i<k then ix (b+k-1-i) else ix i):=by
 refine ⟨λi=>?_,λi h=>?_,λi h=>?_⟩
 ·rw [getElem?_mirror_all hk]
  by_cases c:b≤i∧i<k
  ·simp only [ak c]
   exact f.at_ _
  ·simp only [aj c]
   exact f.at_ _
 ·simp only [aj (show ¬ (b≤i∧i<k) by lia)]
  exact f.rest i h
 ·by_cases c:b≤i∧i<k
  ·simp only [ak c]
   exact f.low _ (by lia)
  ·simp only [aj c]
   exact f.low i h
def Up (a xs:Array Ai)(k:Nat):Prop:=∃ix,From a xs k ix∧∀i j,i<j→j<k→Bef a (ix i) (ix j)
def Dr (a xs:Array Ai)(k:Nat):Prop:=∃ix,From a xs k ix∧∀i j,i<j→j<k→Bef a (ix j) (ix i)
def Dn (a xs:Array Ai)(k e:Nat):Prop:=e+1≤k∧∃ix,From a xs k ix∧(∀i j,i<j→j<k-(e+1)→Bef a (ix j) (ix i))∧(∀i j,i<k-(e+1)→k-(e+1)≤j→j<k→K a (ix j)<K a (ix i)) ∧
 ∀i j,k-(e+1)≤i→i<j→j<k→K a (ix i)=K a (ix j)∧ix i<ix j
section
variable {a xs:Array Ai}{k e:Nat}
theorem Up.le (h:Up a xs k){i j:Nat}(hij:i≤j)(hj:j<k):K xs i≤K xs j:=by
 obtain ⟨ix,f,o⟩:=h
 rw [f.key,f.key]
 by_cases c:i=j
 ·subst c;exact Int.le_refl _
 ·rcases o i j (by lia) hj with h|h <;> lia
theorem Up.grow (h:Up a xs k)(hk:1≤k)(hn:¬ K xs k<K xs (k-1)):Up a xs (k+1):=by
 obtain ⟨ix,f,o⟩:=h
 rw [f.key,f.key,f.rest k (af _)] at hn
 refine ⟨ix,f.more,λi j hij hj=>?_⟩
 by_cases c:j<k
 ·exact o i j hij c
 ·obtain rfl:j=k:=by lia
  have hl:=f.low i hij
  rw [f.rest j (af _)]
  unfold Bef
  by_cases c2:i=j-1
  ·subst c2;lia
  ·rcases o i (j-1) (by lia) (by lia) with h|h <;> lia
theorem Dr.up (h:Dr a xs k)(hk:k≤xs.size):Up a (mirror xs 0 k ((k-0)/2)) k:=by
 obtain ⟨ix,f,o⟩:=h
 refine ⟨_,f.mirror hk,λi j hij hj=>?_⟩
 simp only [ak (show 0≤i∧i<k by lia),ak (show 0≤j∧j<k by lia)]
 exact o _ _ (by lia) (by lia)
theorem Dn.flat (h:Dn a xs k 0):Dr a xs k:=by
 obtain ⟨h0,ix,f,o1,o2,o3⟩:=h
 refine ⟨ix,f,λi j hij hj=>?_⟩
 by_cases c:j<k-(0+1)
 ·exact o1 i j hij c
 ·exact .inl (o2 i j (by lia) (by lia) hj)
theorem Dn.turn (h:Dn a xs k e)(hk:k≤xs.size):Dr a (mirror xs (k-(e+1)) k ((k-(k-(e+1)))/2)) k:=by
 obtain ⟨h0,ix,f,o1,o2,o3⟩:=h
 refine ⟨_,f.mirror hk,λi j hij hj=>?_⟩
 by_cases c1:k-(e+1)≤i
 ·simp only [ak (show k-(e+1)≤i∧i<k by lia),ak (show k-(e+1)≤j∧j<k by lia)]
  exact .inr (o3 _ _ (by lia) (by lia) (by lia))
 ·simp only [aj (show ¬ (k-(e+1)≤i∧i<k) by lia)]
  by_cases c2:k-(e+1)≤j
  ·simp only [ak (show k-(e+1)≤j∧j<k by lia)]
   exact .inl (o2 _ _ (by lia) (by lia) (by lia))
  ·simp only [aj (show ¬ (k-(e+1)≤j∧j<k) by lia)]
   exact o1 i j hij (by lia)
theorem Dr.grow (h:Dr a xs k)(hk:1≤k)(hn:K xs k<K xs (k-1)):Dn a xs (k+1) 0:=by
 obtain ⟨ix,f,o⟩:=h
 rw [f.key,f.key,f.rest k (af _)] at hn
 refine ⟨by lia,ix,f.more,λi j hij hj=>o i j hij (by lia),λi j hi h1 h2=>?_,λi j h1 h2 h3=>by lia⟩
 obtain rfl:j=k:=by lia
 rw [f.rest j (af _)]
 by_cases c:i=j-1
 ·subst c;exact hn
 ·rcases o i (j-1) (by lia) (by lia) with h|h <;> lia
theorem Dn.grow (h:Dn a xs k e)(h1:¬ K xs k<K xs (k-1))(h2:¬ K xs (k-1)<K xs k):Dn a xs (k+1) (e+1):=by
 obtain ⟨h0,ix,f,o1,o2,o3⟩:=h
 rw [f.key,f.key,f.rest k (af _)] at h1 h2
 have hk1:k+1-(e+1+1)=k-(e+1):=by lia
 refine ⟨by lia,ix,f.more,?_,?_,?_⟩
 ·rw [hk1];exact o1
 ·rw [hk1]
  intro i j hi hj1 hj2
  by_cases c:j<k
  ·exact o2 i j hi hj1 c
  ·obtain rfl:j=k:=by lia
   rw [f.rest j (af _)]
   have:=o2 i (j-1) hi (by lia) (by lia)
   lia
 ·rw [hk1]
  intro i j hi hij hj
  by_cases c:j<k
  ·exact o3 i j hi hij c
  ·obtain rfl:j=k:=by lia
   rw [f.rest j (af _)]
   refine ⟨?_,f.low i hij⟩
   by_cases c2:i=j-1
   ·subst c2;lia
   ·have:=(o3 i (j-1) hi (by lia) (by lia)).1
    lia
theorem Up.even (h:Up a xs k)(hk:1≤k)(hz:k≤xs.size)(hr:¬ K xs 0<K xs (k-1)):Dr a (mirror xs 0 k ((k-0)/2)) k:=by
 have hle:=@Up.le a xs k h
 obtain ⟨ix,f,o⟩:=h
 have hall:∀i,i<k→K a (ix i)=K a (ix 0):=λi hi=>by
  have e1:=hle (i:=0) (j:=i) (by lia) hi
  have e2:=hle (i:=i) (j:=k-1) (by lia) (by lia)
  rw [f.key,f.key] at e1 e2 hr
  lia
 refine ⟨_,f.mirror hz,λi j hij hj=>?_⟩
 simp only [ak (show 0≤i∧i<k by lia),ak (show 0≤j∧j<k by lia)]
 have e1:=hall (0+k-1-i) (by lia)
 have e2:=hall (0+k-1-j) (by lia)
 rcases o (0+k-1-j) (0+k-1-i) (by lia) (by lia) with h|h
 ·exact .inl h
 ·exact .inr h
theorem Up.put (h:Up a xs k)(hk:k<xs.size){l:Nat}(hl:l≤k)(h1:∀i,i<l→K xs i≤K xs k)(h2:∀i,l≤i→i<k→K xs k<K xs i):Up a (bubble xs k (k-l)) (k+1):=by
 obtain ⟨ix,f,o⟩:=h
 have hkk:k-(k-l)=l:=by lia
 have hr:=f.rest k (af _)
 refine ⟨λi=>if i=l then k else if l<i∧i≤k then ix (i-1) else ix i,⟨λi=>?_,λi hi=>?_,λi hi=>?_⟩,λi j hij hj=>?_⟩
 ·rw [getElem?_bubble hk _ (by lia),hkk]
  by_cases c:i=l
  ·simp only [ak c]
   rw [f.at_,hr]
  ·simp only [aj c]
   by_cases c2:l<i∧i≤k
   ·simp only [ak c2]
    exact f.at_ _
   ·simp only [aj c2]
    exact f.at_ _
 ·simp only [aj (show ¬ i=l by lia),aj (show ¬ (l<i∧i≤k) by lia)]
  exact f.rest i (by lia)
 ·by_cases c:i=l
  ·simp only [ak c];lia
  ·simp only [aj c]
   by_cases c2:l<i∧i≤k
   ·simp only [ak c2]
    have:=f.low (i-1) (by lia)
    lia
   ·simp only [aj c2]
    have:=f.low i (by lia)
    lia
 ·have key:∀i,i<k→(i<l→K a (ix i)≤K a k)∧(l≤i→K a k<K a (ix i)):=λi hi=>by
   refine ⟨λc=>?_,λc=>?_⟩
   ·have:=h1 i c
    rw [f.key,f.key,hr] at this
    exact this
   ·have:=h2 i c hi
    rw [f.key,f.key,hr] at this
    exact this
  by_cases ci:i=l
  ·simp only [ak ci,aj (show ¬ j=l by lia),ak (show l<j∧j≤k by lia)]
   exact .inl ((key (j-1) (by lia)).2 (by lia))
  ·by_cases cj:j=l
   ·simp only [aj ci,ak cj,aj (show ¬ (l<i∧i≤k) by lia)]
    have a1:=(key i (by lia)).1 (by lia)
    have a2:=f.low i (by lia)
    unfold Bef
    lia
   ·simp only [aj ci,aj cj]
    by_cases c3:l<i
    ·simp only [ak (show l<i∧i≤k by lia),ak (show l<j∧j≤k by lia)]
     exact o _ _ (by lia) (by lia)
    ·simp only [aj (show ¬ (l<i∧i≤k) by lia)]
     by_cases c4:l<j
     ·simp only [ak (show l<j∧j≤k by lia)]
      exact o _ _ (by lia) (by lia)
     ·simp only [aj (show ¬ (l<j∧j≤k) by lia)]
      exact o _ _ hij (by lia)
end
section
variable {prog:Ac}{w:Ah}{A:Ae}{E:Ag→Ab→Prop}{s:Ab}{a₀:Array Ai}
end
end L2
namespace L2
open PySem PySem.Spec PyProof.Rows
theorem qqu:∀(n:Nat) (l:List Nat),l.Nodup→(∀x∈l,x<n)→l.length≤n
 |0,l,_,h=>by
  cases l with
  |nil=>exact af _
  |cons x l=>exact absurd (h x (cM ..)) (eC _)
 |n+1,l,hn,h=>by
  have a1:=qqu n (l.erase n) (hn.erase n) λx hx=>by
   have hm:=List.mem_of_mem_erase hx
   have:=h x hm
   by_cases e:x=n
   ·subst e
    exact absurd hx (hn.not_mem_erase)
   ·lia
  have a2:l.length≤(l.erase n).length+1:=by
   rw [dR]
   split <;> lia
  lia
theorem Jg:∀(n:Nat) (l:List Nat),l.Nodup→(∀x∈l,x<n)→l.length=n→l.Perm (List.range n)
 |0,l,_,_,e=>by rw [List.length_eq_zero_iff.mp e];exact List.Perm.refl _
 |n+1,l,hn,h,e=>by
  have hm:n∈l:=by
   apply bO
   intro c
   have:=qqu n l hn λx hx=>by
    have:=h x hx
    by_cases e:x=n
    ·subst e;exact absurd hx c
    ·lia
   lia
  have a1:=Jg n (l.erase n) (hn.erase n) (λx hx=>by
   have:=h x (List.mem_of_mem_erase hx)
   by_cases e:x=n
   ·subst e;exact absurd hx hn.not_mem_erase
   ·lia) (by rw [dR,ak (by simpa using hm)];lia)
  rw [bQ]
  exact (List.perm_cons_erase hm).trans ((a1.cons n).trans (List.perm_append_comm (l₁:=[n])))
theorem Up.places {a xs:Array Ai}(h:Up a xs a.size)(hz:xs.size=a.size):∃il:List Nat,il.Perm (List.range a.size)∧il.Pairwise (Bef a)∧xs.toList=il.map λi=>a.getD i (.none,.none):=by
 obtain ⟨ix,f,o⟩:=h
 have pw:((List.range a.size).map ix).Pairwise (Bef a):=by
  rw [bF]
  refine bx (R:=(·<·)) (λ{i j} hi hj hij=>?_) cV
  exact o i j hij (aL.mp hj)
 refine ⟨(List.range a.size).map ix,Jg _ _ ?_ ?_ (by rw [ae,aC]),pw,?_⟩
 ·refine pw.imp λ{i j} h e=>?_
  subst e
  unfold Bef at h
  lia
 ·intro x hx
  obtain ⟨i,hi,rfl⟩:=aN.mp hx
  exact f.low i (aL.mp hi)
 ·refine List.ext_getElem? λi=>?_
  rw [cE,aI,cx,f.at_]
  by_cases c:i<a.size
  ·rw [cI c]
   have:=f.low i c
   simp [Array.getD,this]
  ·rw [f.rest i (by lia),bJ (by lia),bj (by rw [aC];lia)]
   rfl
end L2
namespace L2
open PySem PySem.Spec PySem.W PyProof.Rows
section
variable {n:Nat}{im:Nat→Ai}{kz:Nat→Int}{ask:Nat→Nat→(Bool→Ab→Prop)→Ab→Prop}{s:Ab}
def Gd (n:Nat)(p:Array Nat):Prop:=p.Perm (List.toArray (List.range n))
theorem Gd.size {p:Array Nat}(h:Gd n p):p.size=n:=by
 have:=Array.Perm.size_eq h
 simpa using this
theorem Gd.lt {p:Array Nat}(h:Gd n p){i:Nat}(hi:i<n):p.getD i 0<n:=by
 have hs:=h.size
 have m:p[i]'(by lia)∈p:=Array.getElem_mem _
 have:=(Array.Perm.mem_iff h).mp m
 have e:p.getD i 0=p[i]'(by lia):=by simp [Array.getD,hs,hi]
 rw [e]
 simpa using this
theorem Gd.rev {p:Array Nat}(h:Gd n p)(i j:Nat):Gd n (kas_rev p i j):=(mirror_perm _ _ _ _).trans h
theorem Gd.bub {p:Array Nat}(h:Gd n p)(i j:Nat):Gd n (bubble p i j):=(bubble_perm _ _ _).trans h
def ixA (n:Nat)(im:Nat→Ai):Array Ai:=(List.toArray (List.range n)).map im
theorem W0 (p:Array Nat)(i j:Nat):(kas_rev p i j).map im=mirror (p.map im) i j ((j-i)/2):=by
 unfold kas_rev mirror
 exact (kas_swaps_map im _ _ _ p).symm
theorem wx3 (p:Array Nat)(i j:Nat):(bubble p i j).map im=bubble (p.map im) i j:=by
 unfold bubble
 exact (kas_swaps_map im _ _ _ p).symm
def KyI (im:Nat→Ai)(kz:Nat→Int):Prop:=∀(p:Array Nat) i,i<p.size→K (p.map im) i=kz (p.getD i 0)
def Yh (n:Nat)(kz:Nat→Int)(ask:Nat→Nat→(Bool→Ab→Prop)→Ab→Prop)(s:Ab):Prop:=∀i j C,i<n→j<n→C (decide (kz i<kz j)) s→ask i j C s
theorem Yw {p:Array Nat}{i j:Nat}{C:Bool→Ab→Prop}(ha:Yh n kz ask s)(hk:KyI im kz)(g:Gd n p)(hi:i<n)(hj:j<n)
  (h1:K (p.map im) i<K (p.map im) j→C true s) (h2:¬ K (p.map im) i<K (p.map im) j→C false s):ask (p.getD i 0) (p.getD j 0) C s:=by
 refine ha _ _ _ (g.lt hi) (g.lt hj) ?_
 rw [hk p i (by rw [g.size];exact hi),hk p j (by rw [g.size];exact hj)] at h1 h2
 by_cases c:kz (p.getD i 0)<kz (p.getD j 0)
 ·simp only [c,decide_true];exact h1 c
 ·simp only [c,decide_false];exact h2 c
theorem qv8 {p:Array Nat}{e:Nat}{Q:Nat→Ab→Prop}(ha:Yh n kz ask s)(hk:KyI im kz)(g:Gd n p)(he:e≤n):∀(f b:Nat),1≤b→b+f=e→Up (ixA n im) (p.map im) b →
  (∀m,b≤m→m≤e→Up (ixA n im) (p.map im) m→(m=e∨K (p.map im) m<K (p.map im) (m-1))→Q m s)→(kas_asc p f b).kasWp ask Q s
 |0,b,_,hb,u,h=>h b (af _) (by lia) u (.inl (by lia))
 |f+1,b,h1,hb,u,h=>by
  refine Yw ha hk g (by lia) (by lia) (λc=>?_) λc=>?_
  ·exact h b (af _) (by lia) u (.inr c)
  ·exact qv8 ha hk g he f (b+1) (by lia) (by lia) (u.grow h1 c) λm a1 a2 a3 a4=>h m (by lia) a2 a3 a4
theorem qk2 {p:Array Nat}{k e:Nat}{Q:Nat×Array Nat→Ab→Prop}(ha:Yh n kz ask s)(hk:KyI im kz)(g:Gd n p)(he:e≤n)(h1:1≤k)(hke:k≤e)(d:Dr (ixA n im) (p.map im) k)
  (h:∀m q,Gd n q→1≤m→m≤e→Up (ixA n im) (q.map im) m→Q (m,q) s):(kas_tail3 k e p).kasWp ask Q s:=by
 unfold kas_tail3
 rw [KasT.kasWp_bind]
 refine qv8 ha hk (g.rev 0 k) he (e-k) k h1 (by lia) ?_ λm a1 a2 a3 _=>h m _ (g.rev 0 k) (by lia) a2 a3
 rw [W0]
 exact d.up (by rw [cA,g.size];lia)
theorem Wt {e:Nat}{Q:Array Nat×Nat×Nat→Ab→Prop}(ha:Yh n kz ask s)(hk:KyI im kz)(he:e≤n):∀(f:Nat) (p:Array Nat) (x q:Nat),Gd n p→x+f=e→Dn (ixA n im) (p.map im) x q →
  (∀m r p',Gd n p'→x≤m→m≤e→Dn (ixA n im) (p'.map im) m r→Q (p',m,r) s)→(kas_desc f p x q).kasWp ask Q s
 |0,p,x,q,g,hx,d,h=>h x q p g (af _) (by lia) d
 |f+1,p,x,q,g,hx,d,h=>by
  have hx1:1≤x:=by have:=d.1;lia
  have hz:x≤(p.map im).size:=by rw [cA,g.size];lia
  refine Yw ha hk g (by lia) (by lia) (λc=>?_) λc=>?_
  ·show KasT.kasWp ask (if q>0 then kas_desc f (kas_rev p (x-(q+1)) x) (x+1) 0 else kas_desc f p (x+1) 0) Q s
   by_cases c2:q>0
   ·rw [ak c2]
    refine Wt ha hk he f _ (x+1) 0 (g.rev _ _) (by lia) ?_ λm r p' a1 a2 a3 a4=>h m r p' a1 (by lia) a3 a4
    rw [W0]
    refine (d.turn hz).grow hx1 ?_
    rw [K_mirror hz,K_mirror hz,aj (by lia),ak (by have:=d.1;lia)]
    obtain ⟨hq,ix,f',_,_,o3⟩:=id d
    by_cases c3:x-(q+1)+x-1-(x-1)=x-1
    ·rw [c3];exact c
    ·have:=(o3 (x-(q+1)+x-1-(x-1)) (x-1) (by lia) (by lia) (by lia)).1
     rw [←f'.key,←f'.key] at this
     lia
   ·rw [aj c2]
    obtain rfl:q=0:=by lia
    exact Wt ha hk he f p (x+1) 0 g (by lia) (d.flat.grow hx1 c) λm r p' a1 a2 a3 a4=>h m r p' a1 (by lia) a3 a4
  ·refine Yw ha hk g (by lia) (by lia) (λc2=>?_) λc2=>?_
   ·exact h x q p g (af _) (by lia) d
   ·exact Wt ha hk he f p (x+1) (q+1) g (by lia) (d.grow c c2) λm r p' a1 a2 a3 a4=>h m r p' a1 (by lia) a3 a4
theorem qkt {p:Array Nat}{k e:Nat}{Q:Nat×Array Nat→Ab→Prop}(ha:Yh n kz ask s)(hk:KyI im kz)(g:Gd n p)(he:e≤n)(hke:k+1≤e)(d:Dn (ixA n im) (p.map im) (k+1) 0)
  (h:∀m q,Gd n q→1≤m→m≤e→Up (ixA n im) (q.map im) m→Q (m,q) s):(kas_descPart k e p).kasWp ask Q s:=by
 unfold kas_descPart
 rw [KasT.kasWp_bind]
 refine Wt ha hk he (e-(k+1)) p (k+1) 0 g (by lia) d λm r p' g' a1 a2 d'=>?_
 have hz:m≤(p'.map im).size:=by rw [cA,g'.size];lia
 dsimp only
 by_cases c:r>0
 ·rw [ak c]
  refine qk2 ha hk (g'.rev _ _) he (by lia) a2 ?_ h
  rw [W0]
  exact d'.turn hz
 ·rw [aj c]
  obtain rfl:r=0:=by lia
  exact qk2 ha hk g' he (by lia) a2 d'.flat h
theorem wq2 {e:Nat}{Q:Nat×Array Nat→Ab→Prop}(ha:Yh n kz ask s)(hk:KyI im kz)(he:e≤n)(h1:1≤e)
  (h:∀m q,Gd n q→1≤m→m≤e→Up (ixA n im) (q.map im) m→Q (m,q) s):(kas_count e (List.toArray (List.range n))).kasWp ask Q s:=by
 have g:Gd n (List.toArray (List.range n)):=Array.Perm.refl _
 have u1:Up (ixA n im) ((List.toArray (List.range n)).map im) 1:=⟨id,⟨λi=>rfl,λi _=>rfl,λi z=>z⟩,λi j a b=>by lia⟩
 unfold kas_count
 rw [KasT.kasWp_bind]
 refine qv8 ha hk g he (e-1) 1 (af _) (by lia) u1 λm m1 m2 u hor=>?_
 have hz:m≤((List.toArray (List.range n)).map im).size:=by rw [cA,g.size];lia
 by_cases c:m=e
 ·rw [ak (cY.mpr c)]
  exact h m _ g m1 m2 u
 ·have hlt:=hor.resolve_left c
  rw [aj (λz=>c (cY.mp z))]
  by_cases c2:m>1
  ·rw [ak c2]
   refine Yw ha hk g (by lia) (by lia) (λc3=>?_) λc3=>?_
   ·exact h m _ g m1 m2 u
   ·refine qkt ha hk (g.rev 0 m) he (by lia) ?_ h
    rw [W0]
    refine (u.even m1 hz c3).grow m1 ?_
    rw [K_mirror hz,K_mirror hz,aj (by lia),ak (by lia)]
    have e1:=u.le (i:=0) (j:=0+m-1-(m-1)) (by lia) (by lia)
    have e2:=u.le (i:=0+m-1-(m-1)) (j:=m-1) (by lia) (by lia)
    lia
  ·rw [aj c2]
   obtain rfl:m=1:=by lia
   obtain ⟨ix,f,o⟩:=u
   exact qkt ha hk g he (by lia) (Dr.grow ⟨ix,f,λi j a b=>by lia⟩ (by lia) hlt) h
theorem Zf {p:Array Nat}{k:Nat}{Q:Nat→Ab→Prop}(ha:Yh n kz ask s)(hk:KyI im kz)(g:Gd n p)(hkn:k<n)(u:Up (ixA n im) (p.map im) k)
  (h:∀l,l≤k→(∀i,i<l→K (p.map im) i≤K (p.map im) k)→(∀i,l≤i→i<k→K (p.map im) k<K (p.map im) i)→Q l s):∀(f l r:Nat),l≤r→r≤k→r-l≤f→(∀i,i<l→K (p.map im) i≤K (p.map im) k)→(∀i,r≤i→i<k→K (p.map im) k<K (p.map im) i) →
  (kas_place p k f l r).kasWp ask Q s
 |0,l,r,a1,a2,a3,a4,a5=>by
  obtain rfl:l=r:=by lia
  exact h l a2 a4 a5
 |f+1,l,r,a1,a2,a3,a4,a5=>by
  unfold kas_place
  by_cases c1:l≥r
  ·rw [ak c1]
   obtain rfl:l=r:=by lia
   exact h l a2 a4 a5
  ·rw [aj c1]
   refine Yw ha hk g (by lia) (by lia) (λc2=>?_) λc2=>?_
   ·exact Zf ha hk g hkn u h f l ((l+r)/2) (by lia) (by lia) (by lia) a4 λi z1 z2=>by have:=u.le z1 z2;lia
   ·exact Zf ha hk g hkn u h f ((l+r)/2+1) r (by lia) (by lia) (by lia) (λi z=>by have:=u.le (i:=i) (j:=(l+r)/2) (by lia) (by lia);lia) a5
theorem qu8 {Q:Array Nat→Ab→Prop}(ha:Yh n kz ask s)(hk:KyI im kz)(h:∀q,Gd n q→Up (ixA n im) (q.map im) n→Q q s):∀(f:Nat) (p:Array Nat) (k:Nat),Gd n p→1≤k→k+f=n→Up (ixA n im) (p.map im) k →
  (kas_bin f p k).kasWp ask Q s
 |0,p,k,g,_,e,u=>by
  obtain rfl:k=n:=by lia
  exact h p g u
 |f+1,p,k,g,k1,e,u=>by
  unfold kas_bin
  rw [KasT.kasWp_bind]
  refine Zf ha hk g (by lia) u (λl a2 a4 a5=>?_) k 0 k (aB _) (af _) (by lia) (λi z=>by lia) λi z1 z2=>by lia
  refine qu8 ha hk h f _ (k+1) (g.bub _ _) (by lia) (by lia) ?_
  rw [wx3]
  exact u.put (by rw [cA,g.size];lia) a2 a4 a5
theorem wwg {Q:Array Nat→Ab→Prop}(ha:Yh n kz ask s)(hk:KyI im kz)(h1:1≤n)(h:∀q,Gd n q→Up (ixA n im) (q.map im) n→Q q s):(kas_sort n).kasWp ask Q s:=by
 unfold kas_sort
 rw [KasT.kasWp_bind]
 refine wq2 ha hk (af _) h1 λm q g m1 m2 u=>?_
 dsimp only
 have em:max m 1=m:=by lia
 by_cases c:m<n
 ·rw [ak c,em]
  exact qu8 ha hk h (n-m) q m g m1 (by lia) u
 ·rw [aj c]
  obtain rfl:m=n:=by lia
  exact h q g u
def imI (kz:Nat→Int)(t:Tok)(i:Nat):Ai:=(.int (kz i) t,.int (i:Int) t)
theorem imI_ky (kz:Nat→Int)(t:Tok):KyI (imI kz t) kz:=λp i hi=>by
 unfold K
 simp [hi,imI,numOf,Array.getD]
theorem tr_out {t:Tok}{Q:Array Nat→Ab→Prop}(ha:Yh n kz ask s)(h1:1≤n)
  (h:∀il:List Nat,il.Perm (List.range n)→il.Pairwise (λi j=>kz i<kz j∨(kz i=kz j∧i<j))→Q il.toArray s):(kas_sort n).kasWp ask Q s:=by
 refine wwg ha (imI_ky kz t) h1 λq g u=>?_
 have hz:(ixA n (imI kz t)).size=n:=by simp [ixA]
 have hzq:(q.map (imI kz t)).size=(ixA n (imI kz t)).size:=by rw [hz,cA,g.size]
 obtain ⟨il,p,o,e⟩:=Up.places (by rw [hz];exact u) hzq
 rw [hz] at p
 have hin:∀i∈il,i<n:=λi hi=>aL.mp (p.mem_iff.mp hi)
 have at_:∀i,i<n→(ixA n (imI kz t)).getD i (.none,.none)=imI kz t i:=λi hi=>by
  simp [ixA,Array.getD,hi]
 have ky:∀i,i<n→K (ixA n (imI kz t)) i=kz i:=λi hi=>by
  unfold K
  simp [ixA,hi,imI,numOf]
 have e2:q.toList.map (imI kz t)=il.map (imI kz t):=by
  rw [←Array.toList_map,e]
  exact bX λi hi=>at_ i (hin i hi)
 have inj:∀i j,imI kz t i=imI kz t j→i=j:=λi j e=>by
  simp only [imI,Prod.mk.injEq,Value.int.injEq] at e
  lia
 have e3:q.toList=il:=(List.map_inj_right (λi j e=>inj i j e)).mp e2
 have e4:q=il.toArray:=by rw [←e3]
 rw [e4]
 exact h il p (o.imp_of_mem λ{i j} hi hj hb=>by
  unfold Bef at hb
  rw [ky i (hin i hi),ky j (hin j hj)] at hb
  exact hb)
end
end L2
namespace L2
open PySem PySem.Spec PySem.Calls PySem.W PyProof.Rows
section
variable {prog:Ac}{w:Ah}{A:Ae}{E:Ag→Ab→Prop}{s:Ab}
theorem Y6 {h:Heap}{a:Aj}{vs:List Ag}{k:Nat}(ho:h.get? a=some (seqObj "list" vs.toArray k))(out:Array Ag):∃e,(sortedHeap h a vs out).get? a=some (seqObj "list" out e):=by
 obtain ⟨e1,ho1⟩:∃e1,(h.update a (Obj.mapSeq λ_=>(#[]:Array Ag))).get? a=some (seqObj "list" #[] e1):=⟨_,get?_update_seq ho λ_=>#[]⟩
 exact ⟨_,get?_update_seq (ac _ (ac _ ho1)) λ_=>out⟩
theorem Yn {h:Heap}{a b:Aj}{vs:List Ag}{o:Obj}(e:h.get? b=some o)(hb:b≠a)(out:Array Ag):(sortedHeap h a vs out).get? b=some o:=by
 unfold sortedHeap
 rw [Heap.get?_update_ne _ _ _ _ hb]
 refine ac _ (ac _ ?_)
 rw [Heap.get?_update_ne _ _ _ _ hb]
 exact e
end
section
variable {X:Cx}
end
end L2
namespace L2
open PySem PySem.Spec PySem.Calls PySem.W PyProof.Rows
def kzS (ss:List Str)(x:Str):Int:=((ss.filter λy=>decide (y.cps.toList<x.cps.toList)).length:Nat)
theorem wqt {ss:List Str}{x y:Str}(h:¬ y.cps.toList<x.cps.toList):kzS ss x≤kzS ss y:=by
 unfold kzS
 have:(ss.filter λz=>decide (z.cps.toList<x.cps.toList)).length≤(ss.filter λz=>decide (z.cps.toList<y.cps.toList)).length:=by
  refine (List.Sublist.length_le ?_)
  have e:(ss.filter λz=>decide (z.cps.toList<x.cps.toList))=(ss.filter λz=>decide (z.cps.toList<y.cps.toList)).filter λz=>decide (z.cps.toList<x.cps.toList):=by
   rw [List.filter_filter]
   refine List.filter_congr λz _=>?_
   by_cases c:z.cps.toList<x.cps.toList
   ·have:z.cps.toList<y.cps.toList:=by
     apply bO
     intro n
     exact absurd c (List.not_lt.mpr (List.le_trans (List.not_lt.mp h) (List.not_lt.mp n)))
    simp [c,this]
   ·simp [c]
  rw [e]
  exact List.filter_sublist
 lia
theorem qu3 {ss:List Str}{x y:Str}(hx:x∈ss)(h:x.cps.toList<y.cps.toList):kzS ss x<kzS ss y:=by
 unfold kzS
 have sub:(ss.filter λz=>decide (z.cps.toList<x.cps.toList)).length<(ss.filter λz=>decide (z.cps.toList<y.cps.toList)).length:=by
  have e:(ss.filter λz=>decide (z.cps.toList<x.cps.toList))=(ss.filter λz=>decide (z.cps.toList<y.cps.toList)).filter λz=>decide (z.cps.toList<x.cps.toList):=by
   rw [List.filter_filter]
   refine List.filter_congr λz _=>?_
   by_cases c:z.cps.toList<x.cps.toList
   ·have:z.cps.toList<y.cps.toList:=List.lt_trans c h
    simp [c,this]
   ·simp [c]
  rw [e]
  have mem:x∈ss.filter λz=>decide (z.cps.toList<y.cps.toList):=ck.mpr ⟨hx,aP h⟩
  refine Nat.lt_of_le_of_ne (cw _ _) λz=>?_
  have:=(List.length_filter_eq_length_iff).mp z x mem
  exact List.lt_irrefl _ (dS this)
 lia
theorem wwu {ss:List Str}{x y:Str}(hx:x∈ss):kzS ss x<kzS ss y↔x.cps.toList<y.cps.toList:=by
 constructor
 ·intro h
  apply bO
  intro n
  have:=wqt (ss:=ss) n
  lia
 ·exact qu3 hx
section
variable {prog:Ac}{w:Ah}{A:Ae}{E:Ag→Ab→Prop}{s:Ab}
def StrsR (vs:List Ag)(ss:List Str):Prop:=Paired (λv x=>∃t,v=Value.str x t) vs ss
theorem StrsR.at {vs:List Ag}{ss:List Str}(h:StrsR vs ss):∀ {i:Nat},i<ss.length→∃x t,ss[i]?=some x∧vs.getD i Value.none=Value.str x t:=by
 induction h with
 |nil=>intro i hi;exact absurd hi (eC _)
 |@cons a b l m hd tl ih =>
  intro i hi
  cases i with
  |zero=>obtain ⟨t,rfl⟩:=hd;exact ⟨b,t,rfl,rfl⟩
  |succ i=>exact ih (i:=i) (by simpa using hi)
theorem StrsR.mem {vs:List Ag}{ss:List Str}(h:StrsR vs ss):∀v∈vs,∃x t,v=Value.str x t:=by
 induction h with
 |nil=>intro v hv;cases hv
 |@cons a b l m hd tl ih =>
  intro v hv
  rcases aq.mp hv with rfl|hv
  ·obtain ⟨t,e⟩:=hd;exact ⟨b,t,e⟩
  ·exact ih v hv
theorem qvc {a:Aj}{vs:List Ag}{k:Nat}{ss:List Str}{P:PySem.Fin→Ab→Prop}(ho:s.heap.get? a=some (seqObj "list" vs.toArray k))(h64:vs.length<64)(t:StrsR vs ss)
  (h:∀il:List Nat,il.Perm (List.range vs.length)→il.Pairwise (λi j=>¬ (ss.getD j Str.empty).cps.toList<(ss.getD i Str.empty).cps.toList)→P (.done (.ret .none)) { s with heap:=sortedHeap s.heap a vs (il.map λi=>vs.getD i Value.none).toArray }) :
  wpAny (model prog w) A (Builtin.«list.sort» ⟨[.ref a],[]⟩) P E s:=by
 have hkl:vs.length=ss.length:=bb t
 have ha:a<s.heap.objs.size:=ai ho
 obtain ⟨e1,ho1⟩:∃e1,(s.heap.update a (Obj.mapSeq λ_=>(#[]:Array Ag))).get? a=some (seqObj "list" #[] e1):=⟨_,get?_update_seq ho λ_=>#[]⟩
 have sz:(1000001:Nat)<sizeLine:=by decide
 rw [list_sort_plain]
 refine aa (listItems_at ho rfl ?_)
 refine aa (listUpdate_at ho rfl ?_ (by rw [aJ];lia) (aB _))
 refine aa (seqEpoch_at ho1 rfl ?_)
 refine aa (wpAny_newTuple ?_ (by show vs.length≤_;lia))
 refine aa (wpAny_newList ?_ (aB _))
 refine cK ?_
 show wpAny (model prog w) A _ P E { s with heap:=((s.heap.update a (Obj.mapSeq λ_=>(#[]:Array Ag))).push (seqObj "tuple" vs.toArray 0)).push (seqObj "list" #[] 0) }
 have ho6:(((s.heap.update a (Obj.mapSeq λ_=>(#[]:Array Ag))).push (seqObj "tuple" vs.toArray 0)).push (seqObj "list" #[] 0)).get? a=some (seqObj "list" #[] e1):=ac _ (ac _ ho1)
 have fin:∀(h':Heap) (il:List Nat),h'=((s.heap.update a (Obj.mapSeq λ_=>(#[]:Array Ag))).push (seqObj "tuple" vs.toArray 0)).push (seqObj "list" #[] 0)→il.Perm (List.range vs.length)→il.Pairwise (λi j=>¬ (ss.getD j Str.empty).cps.toList<(ss.getD i Str.empty).cps.toList)→P (.done (.ret .none)) { s with heap:=h'.update a (Obj.mapSeq λ_=>(il.map λi=>vs.getD i Value.none).toArray) }:=λh' il e a1 a2=>by
  subst e
  exact h il a1 a2
 generalize ((s.heap.update a (Obj.mapSeq λ_=>(#[]:Array Ag))).push (seqObj "tuple" vs.toArray 0)).push (seqObj "list" #[] 0)=h6' at ho6 fin ⊢
 have fin:=λil=>fin h6' il rfl
 dsimp only
 by_cases h2:vs.toArray.size<2
 ·rw [ak h2,ak h2]
  refine aa (ag ?_)
  rw [StateT.run_pure]
  refine aa (ag ?_)
  dsimp only
  have h2':vs.length<2:=by simpa using h2
  have e:(arrOf (SortSt.mk' general' (vs.toArray.zip vs.toArray) #[] 7 none)).map (·.2)=((List.range vs.length).map λi=>vs.getD i Value.none).toArray:=by
   show (vs.toArray.zip vs.toArray).map (·.2)=_
   match vs,h2' with
   |[],_=>simp
   |[v],_=>simp
   |_::_::_,h2=>simp at h2;lia
  rw [e]
  refine aa (seqEpoch_at ho6 rfl ?_)
  refine aa (listUpdate_at ho6 rfl ?_ (aB _) (by rw [aJ,ae,aC];lia))
  simp only [bne_self_eq_false,bN,dJ]
  refine ag (fin (List.range vs.length) (.refl _) ?_)
  rcases (by lia:vs.length=0∨vs.length=1) with z|z
  ·rw [z];exact .nil
  ·rw [z];exact ed _ _
 ·rw [aj h2,aj h2]
  have hv2:2≤vs.length:=by simpa using h2
  refine aa (kas_kind (T:=.type "str") hv2 (λv hv=>?_) rfl rfl ?_)
  ·obtain ⟨x,tk,rfl⟩:=t.mem v hv
   exact Looks.of_pure rfl
  let kz:Nat→Int:=λi=>kzS ss (ss.getD i Str.empty)
  have gd:∀ {i x},ss[i]?=some x→ss.getD i Str.empty=x:=λe=>by rw [ar,e];rfl
  have ask:Yh vs.length kz (kas_ask prog w A oneType' vs) { s with heap:=h6' }:=λi j C hi hj hC=>by
   obtain ⟨x,tx,ex,vx⟩:=t.at (i:=i) (by lia)
   obtain ⟨y,ty,ey,vy⟩:=t.at (i:=j) (by lia)
   unfold kas_ask
   rw [vx,vy]
   refine kas_lt_str ?_
   have e:decide (kz i<kz j)=decide (x.cps.toList<y.cps.toList):=by
    rw [cm,decide_eq_true_eq,decide_eq_true_eq]
    show kzS ss (ss.getD i Str.empty)<kzS ss (ss.getD j Str.empty)↔_
    rw [gd ex,gd ey]
    exact wwu (aZ ex)
   rw [←e]
   exact hC
  have tree:(kas_sort vs.length).kasWp (kas_cmp prog w A oneType' (pairsOf vs)) (λp s'=>s'={ s with heap:=h6' }∧p.toList.Perm (List.range vs.length)∧p.toList.Pairwise (λi j=>¬ (ss.getD j Str.empty).cps.toList<(ss.getD i Str.empty).cps.toList)) { s with heap:=h6' }:=by
   rw [←kas_ask_eq]
   refine tr_out (t:=0) ask (by lia) λil pm up=>⟨rfl,pm,up.imp_of_mem λ{i j} hi hj hb n=>?_⟩
   have hj:=aL.mp (pm.mem_iff.mp hj)
   obtain ⟨y,ty,ey,vy⟩:=t.at (i:=j) (by lia)
   have:kz j<kz i:=by
    show kzS ss (ss.getD j Str.empty)<kzS ss (ss.getD i Str.empty)
    rw [gd ey] at n ⊢
    exact qu3 (aZ ey) n
   lia
  have est:SortSt.mk' oneType' (vs.toArray.zip vs.toArray) #[] 7 none=kas_st oneType' (pairsOf vs) (List.toArray (List.range vs.length)):=by
   have e:=kas_range (pairsOf vs)
   rw [pairsOf_size] at e
   show SortSt.mk' oneType' (pairsOf vs) #[] 7 none=SortSt.mk' oneType' ((List.toArray (List.range vs.length)).map (kas_item (pairsOf vs))) #[] 7 none
   rw [e]
  have run:=kas_runs (E:=E) (Q:=λ_ st' s'=>∃p:Array Nat,p.size=vs.length∧arrOf st'=p.map (kas_item (pairsOf vs))∧failedOf st'=none∧s'={ s with heap:=h6' }∧p.toList.Perm (List.range vs.length)∧p.toList.Pairwise (λi j=>¬ (ss.getD j Str.empty).cps.toList<(ss.getD i Str.empty).cps.toList))
   hv2 h64 (λp' st' s' a1 a2 a3 a4=>⟨p',a1,a2,a3,a4⟩) tree
  rw [←est] at run
  refine aa (aK run ?_ λ_ _ e=>e)
  rintro ⟨⟨⟩,st'⟩ s' ⟨p,hp,har,hf,rfl,pm,up⟩
  dsimp only
  have hout:(arrOf st').map (·.2)=List.toArray (p.toList.map λi=>vs.getD i Value.none):=by
   apply Array.toList_inj.mp
   rw [har,Array.map_map,Array.toList_map]
   exact bX λi _=>by show (kas_item (pairsOf vs) i).2=_;rw [kas_item_eq]
  rw [hout]
  refine aa (seqEpoch_at ho6 rfl ?_)
  refine aa (listUpdate_at ho6 rfl ?_ (aB _) (by rw [aJ,ae,aO];lia))
  rw [hf]
  simp only [bne_self_eq_false,bN,dJ]
  exact ag (fin p.toList pm up)
theorem qq8 {d:Aj}{vs:List (Key×Ag)}{ep:Nat}{Q:List Ag→Ab→Prop}(hh:A.handled=none)(lo:(d==sysModules)=false)(dd:s.heap.DictAt (xj prog w) d vs ep)(hn:vs.length≤sizeLine)
  (h:∀h' tk (qs:List Ag),(∀b o,s.heap.get? b=some o→h'.get? b=some o)→qs.length=vs.length→(∀(i:Nat) v,qs[i]?=some v→∃k x,vs[i]?=some (k,x)∧(xj prog w).is k v=true)→s.heap.objs.size≤h'.objs.size→Q qs { s with heap:=h',toks:=tk }):wpAny (model prog w) A (collect (.ref d)) Q E s:=by
 have hS:d<s.heap.objs.size:=dd.lt_size
 have R:(s.heap.push (seqObj "list" #[] 0)).DictAt (xj prog w) d vs ep:=dd.push _
 have run:codeAny (model prog w) A (.builtin "proto.collect" ⟨[.ref d],[]⟩) (λr s'=>r=.ok (.ret (.ref s.heap.objs.size))∧∃h' tk acc' c',s'={ s with heap:=h',toks:=tk }∧(∀b o,b≠s.heap.objs.size→(s.heap.push (seqObj "list" #[] 0)).get? b=some o→h'.get? b=some o) ∧
   h'.get? s.heap.objs.size=some { cls:=.type "list",dict:=none,data:=.seq acc' c',slots:=#[] }∧ItemsOf (λi v=>∃k x,vs[i]?=some (k,x)∧(xj prog w).is k v=true) acc' vs.length) s:=by
  refine codeAny_builtin entry_proto_collect' ?_
  show wpAny _ _ (do again (.builtin "list.__iadd__" ⟨[←newList [],.ref d],[]⟩)) _ _ s
  (refine aa (wpAny_newList (ag ⟨Code.quiet_builtin _ (by decide +kernel),codeAny_builtin entry_list_iadd' ?_⟩)) ;rw [Around.under_plainId (show plainId "list.__iadd__" = true by decide +kernel) _])
  show wpAny _ _ (Builtin.List.listExtendWith (.ref s.heap.objs.size) (.ref d) (.ref s.heap.objs.size)) _ _ _
  exact kdl_extend (s:={ s with heap:=s.heap.push (seqObj "list" #[] 0) }) (R:=λr s'=>r=.ok (.ret (.ref s.heap.objs.size))∧∃h' tk acc' c',s'={ s with heap:=h',toks:=tk }∧(∀b o,b≠s.heap.objs.size→(s.heap.push (seqObj "list" #[] 0)).get? b=some o→h'.get? b=some o) ∧
   h'.get? s.heap.objs.size=some { cls:=.type "list",dict:=none,data:=.seq acc' c',slots:=#[] }∧ItemsOf (λi v=>∃k x,vs[i]?=some (k,x)∧(xj prog w).is k v=true) acc' vs.length) (kdl_dict lo) (by simpa using hh) R s.heap.objs.size (dA hS) (dA hS) (.ref s.heap.objs.size) 0 (am _ rfl) (λh' tk acc' c' hk hS' hacc=>⟨rfl,h',tk,acc',c',rfl,hk,hS',hacc⟩) hn
 unfold collect
 refine aa (wpAny_runValue (dB run λr s' hr=>?_))
 obtain ⟨rfl,h',tk,acc',c',rfl,hk,hS',hacc⟩:=hr
 dsimp only
 refine aa (wpAny_load hS' ?_)
 refine ag ?_
 refine h h' tk _ (λb o e=>hk b o (ao (ai e)) (ac _ e)) (by rw [aO];exact hacc.1) (λi v e=>hacc.2 i v (by rw [←cx];exact e)) ?_
 exact bw (ai hS')
end
section
variable {X:Cx}
theorem Jw (hc:X.calm=true):kf X (.builtin "sorted") (λxs H Q=>∃(d:Aj) (kvs:List (Key×V)) (ss:List Str),xs=[.ref d]∧Rd H d (.dK kvs)∧kvs.map (·.1)=ss.map Sum.inr∧kvs.length<64 ∧
  ∀(l:Aj) (ms:List Str),H l=none→ms.Perm ss→ms.Pairwise (λx y=>¬ y.cps.toList<x.cps.toList)→Q (.ref l) (upd H l (.lst (ms.map V.str)))):=by
 intro pins s σ H xs us Q I r h
 obtain ⟨d,kvs,ss,rfl,hd,hk,hn,q⟩:=h
 obtain ⟨u,rfl,ru⟩:=yk r
 cases (show u=Value.ref d from ru)
 have sz:(100001:Nat)<sizeLine:=by decide
 obtain ⟨z,lo,vs,rel,dd⟩:=ud I.hok hd
 obtain ⟨ep,dd⟩:=dd.dictAt
 have hl:vs.length=kvs.length:=(bb rel).symm
 have hls:kvs.length=ss.length:=by have:=bB List.length hk;simpa using this
 refine Calls.call_function_entry kind_sorted plain_sorted entry_sorted (args_sorted1 _) ?_
 unfold Builtin.«sorted»
 refine aa (m:=checkCount "sorted" 1 1 _) (ag ?_)
 refine aa (qq8 (by simpa using I.ok.hd hc) lo dd (by lia) λh' tk qs hk' hlq hq hz=>?_)
 refine aa (wpAny_newList ?_ (by lia))
 have hoL:(h'.push (seqObj "list" qs.toArray 0)).get? h'.objs.size=some (seqObj "list" qs.toArray 0):=am _ rfl
 have tS:StrsR qs ss:=by
  have key:∀(qs:List Ag) (ss:List Str),qs.length=ss.length→(∀(i:Nat) v,qs[i]?=some v→∃x t,ss[i]?=some x∧v=Value.str x t)→StrsR qs ss:=by
   intro qs
   induction qs with
   |nil =>
    intro ss e _
    cases ss with
    |nil=>exact .nil
    |cons _ _=>simp at e
   |cons v qs ih =>
    intro ss e hh
    cases ss with
    |nil=>simp at e
    |cons x ss =>
     obtain ⟨x',t,e1,e2⟩:=hh 0 v rfl
     cases e1
     exact .cons ⟨t,e2⟩ (ih ss (by simpa using e) λi v ev=>hh (i+1) v ev)
  refine key qs ss (by lia) λi v ev=>?_
  obtain ⟨k,x,e1,e2⟩:=hq i v ev
  have hi:=(bh.mp e1).1
  have ek:kvs[i]?=some kvs[i]:=al (by lia)
  obtain ⟨qv,e3,_⟩:=qzr rel ek
  rw [e1] at e3
  have e4:=bB (λl=>l[i]?) hk
  simp only [aI,ek,cv] at e4
  have hs:ss[i]?=some ss[i]:=al (by lia)
  rw [hs,cv] at e4
  have e5:=av e4
  have e6:k=kvs[i].1:=bB Prod.fst (av e3)
  rw [e6,e5] at e2
  obtain ⟨t,rfl⟩:=(show ∃t,v=Value.str ss[i] t from wqy e2)
  exact ⟨ss[i],t,hs,rfl⟩
 refine aa (cK (cZ slot_list_sort ⟨_,hoL,rfl⟩ entry_list_sort ?_ (args_list_sort _)))
 refine qvc (s:={ s with heap:=h'.push (seqObj "list" qs.toArray 0),toks:=tk }) hoL (by lia) tS λil pm up=>⟨_,rfl,ag ⟨_,rfl,?_⟩⟩
 obtain ⟨e,he⟩:=Y6 hoL (il.map λi=>qs.getD i Value.none).toArray
 have nl:H h'.objs.size=none:=I.hok.fresh hz
 have hin:∀i∈il,i<ss.length:=λi hi=>by have:=aL.mp (pm.mem_iff.mp hi);lia
 have vals:∀(il:List Nat),(∀i∈il,i<ss.length)→Vals ((il.map λi=>ss.getD i Str.empty).map V.str) (il.map λi=>qs.getD i Value.none):=by
  intro il
  induction il with
  |nil=>intro _;exact .nil
  |cons i il ih =>
   intro hh
   obtain ⟨x,t,e1,e2⟩:=tS.at (hh i (.head _))
   refine .cons ?_ (ih λj hj=>hh j (.tail _ hj))
   show RelV (V.str (ss.getD i Str.empty)) (qs.getD i Value.none)
   rw [e2,ar,e1]
   exact ⟨t,rfl⟩
 have pms:(il.map λi=>ss.getD i Str.empty).Perm ss:=by
  have h1:=pm.map λi=>ss.getD i Str.empty
  have h2:((List.range qs.length).map λi=>ss.getD i Str.empty)=ss:=by
   refine List.ext_getElem? λi=>?_
   rw [aI]
   by_cases c:i<ss.length
   ·rw [cI (by lia),al c]
    show some (ss.getD i Str.empty)=_
    rw [ar,al c]
    rfl
   ·rw [bj (by rw [aC];lia),bj (by lia)]
    rfl
  rw [h2] at h1
  exact h1
 refine ⟨.ref _,_,I.laid (t':=tk) (λb u hb=>Yn (ac _ (hk' b u hb)) (ao (az (ai hb) hz)) _) hz (show ObjOk X.prog X.w _ _ _ (.lst ((il.map λi=>ss.getD i Str.empty).map V.str)) from ⟨?_,_,e,vals il hin,he⟩),rfl,q _ _ nl pms (bF.mpr up)⟩
 rw [ae,pms.length_eq]
 lia
end
end L2
namespace L2
open PySem PySem.Spec PySem.Calls PyProof.Rows PySem.W
section
variable {prog:Ac}{w:Ah}{A:Ae}{E:Ag→Ab→Prop}{s:Ab}{K:Type}[DecidableEq K]{knd:KeyKind prog w K}
theorem Yx {α:Type}{f:α→Int}:∀ {l:List α} (x:Int),(l.map f).Nodup→(l.filter λe=>f e==x).length≤1
 |[],_,_=>aB _
 |a::l,x,h=>by
  rw [aD,bf] at h
  have ih:=Yx (l:=l) x h.2
  by_cases c:(f a==x)=true
  ·rw [bY,ak c]
   have:l.filter (λe=>f e==x)=[]:=List.filter_eq_nil_iff.mpr λe he hx=>h.1 (aN.mpr ⟨e,he,by rw [eq_of_beq hx,eq_of_beq c]⟩)
   rw [this]
   exact af _
  ·rw [bY,aj c]
   exact ih
theorem qxv {id:String}{d:Aj}{o:Obj}{es:Array DictEntry}{ep:Nat}{xs:List (List K×Aj×Ag)}{Q:Array DictEntry→Ab→Prop}(ho:s.heap.get? d=some o)(hd:o.data=.dict es ep)
  (he:es.toList=xs.map (entryOfKey (tupleKind knd))) (his:∀x∈xs,(tupleKind knd).is s.heap x.1 x.2.1) (hh:(xs.map λx=>(tupleKind knd).hash x.1).Nodup) (h:Q es s) :
  wpAny (model prog w) A (Builtin.Dict.entriesForEmpty id d) Q E s:=by
 unfold Builtin.Dict.entriesForEmpty
 refine aa (bE ho hd ?_)
 refine aa (aK (Q:=λ_ s'=>s'=s) ?_ (λ_ s' e=>by subst e;exact ag h) λ_ _ e=>e)
 rw [←Array.forIn_toList]
 refine wpAny_forIn_list _ (λrest _ s'=>s'=s∧∀e∈rest,e∈es.toList) _ ?_ (λ_ _ e=>e.1) _ _ ⟨rfl,λ_ h=>h⟩
 rintro e rest b s' ⟨rfl,hr⟩
 obtain ⟨x,hx,ex⟩:=aN.mp (he▸hr e (.head _))
 have hi:=his x hx
 have tl:s'.TypeIs (.ref x.2.1) "tuple" := by
  obtain ⟨o',its,n,h1,h2,_⟩:=hi
  exact ⟨o',h1,h2⟩
 have ek:e.key=.ref x.2.1:=by rw [←ex];rfl
 have hsz:¬ (es.filter (·.hash==e.hash)).size>1:=by
  have h1:=Yx (f:=λe:DictEntry=>e.hash) (l:=es.toList) e.hash (by rw [he,cE];exact hh)
  have h2:(es.filter (·.hash==e.hash)).size=(es.toList.filter (·.hash==e.hash)).length:=by rw [←aO,Array.toList_filter]
  lia
 have tailok:∀e∈rest,e∈es.toList:=λe h=>hr e (.tail _ h)
 unfold Builtin.Dict.quietEq
 rw [ek]
 dsimp only
 refine aa (aa (eA tl PySem.F.slot_tuple_eq.lookup (ag ?_)))
 rw [aj hsz]
 show wpAny _ _ (if (!(_:Bool))=true then _ else _) _ _ _
 split
 ·exact ag ⟨rfl,tailok⟩
 ·exact ag ⟨rfl,tailok⟩
theorem wwk {o:Aj}{xs:List (List K×Aj×Ag)}{Q:Ag→Ab→Prop}(hoS:(o==sysModules)=false)(ho:s.heap.DictOfH (tupleKind knd) o xs)(hsz:xs.length≤sizeLine)(h0:xs≠[])(hh:(xs.map λx=>(tupleKind knd).hash x.1).Nodup)
  (h:∀h',h'.DictOfH (tupleKind knd) s.heap.objs.size xs→Heap.SameBut s.heap.objs.size (s.heap.push { cls:=.type "dict",data:=.dict #[] }) h'→Q (.ref s.heap.objs.size) { s with heap:=h' }) :
  wpAny (model prog w) A (call (.type "dict") [.ref o]) Q E s:=by
 refine callType_codes (Q₁:=λobj s₁=>obj=.ref s.heap.objs.size∧s₁={ s with heap:=s.heap.push { cls:=.type "dict",data:=.dict #[] } }) PySem.F.kt_called_dict (PySem.F.kt_typeCall_dict_1 _) PySem.F.entry_dict_init (kt_code_dict_new _ ⟨rfl,rfl⟩) ?_
 rintro obj s₁ ⟨rfl,rfl⟩
 obtain ⟨oo,es,ep,hoo,hc,hd,he,his,hn⟩:=ho
 have hlt:o<s.heap.objs.size:=ai hoo
 have hnew:(s.heap.push { cls:=.type "dict",data:=.dict #[] }).get? s.heap.objs.size=some { cls:=.type "dict",data:=.dict #[] }:=am _ rfl
 have tn:Shared.TypeIs { s with heap:=s.heap.push { cls:=.type "dict",data:=.dict #[] } } (.ref s.heap.objs.size) "dict" := ⟨_,hnew,rfl⟩
 have hoo':(s.heap.push { cls:=.type "dict",data:=.dict #[] }).get? o=some oo:=ac _ hoo
 have to:Shared.TypeIs { s with heap:=s.heap.push { cls:=.type "dict",data:=.dict #[] } } (.ref o) "dict" := ⟨_,hoo',hc.1⟩
 have hdo:s.heap.objs.size≠o:=dA hlt
 refine ⟨tn,PySem.F.args_dict_init_2 _ _,?_⟩
 unfold Builtin.«dict.__init__»
 refine aa ?_
 unfold Builtin.Dict.selfAndRest
 refine aa (wpAny_notOrdered_dict tn ?_)
 show wpAny _ _ (pure (s.heap.objs.size,[Value.ref o])) _ _ _
 refine ag ?_
 show wpAny _ _ (Builtin.Dict.updateFrom "dict.__init__" s.heap.objs.size (.ref o) [] .none) _ _ _
 unfold Builtin.Dict.updateFrom
 refine aa (wpAny_typeOf to ?_)
 rw [aj (by decide)]
 refine aa ?_
 unfold Builtin.Dict.merge
 refine aa ?_
 unfold Builtin.Dict.readDirectly
 refine aa (wpAny_isInstance to isSubtype_dict_dict ?_)
 simp only [Bool.not_true,bN,dJ]
 refine aa (eA to PySem.F.slot_dict_iter.lookup (ag ?_))
 simp only [beq_self_eq_true,if_true]
 refine aa (ag ?_)
 unfold Builtin.Dict.mergeDict
 rw [aj (by simpa using hdo)]
 unfold Builtin.Dict.showsAll
 rw [aj (by rw [hoS];exact aA)]
 refine aa (ag ?_)
 refine aa (bE hoo' hd ?_)
 have hne:es.toList≠[]:=by rw [he];intro z;exact h0 (List.map_eq_nil_iff.mp z)
 have hall:(es.all λe=>(keyPart e.key).isSome)=false:=by
  obtain ⟨x,ys,rfl⟩:∃x ys,xs=x::ys:=by
   cases xs with
   |nil=>exact absurd rfl h0
   |cons x ys=>exact ⟨x,ys,rfl⟩
  rw [←Array.all_toList,he]
  rfl
 have his':∀x∈xs,(tupleKind knd).is (s.heap.push { cls:=.type "dict",data:=.dict #[] }) x.1 x.2.1:=λx hx=>by
  obtain ⟨o',its,n,h1,r⟩:=his x hx
  exact ⟨o',its,n,ac _ h1,r⟩
 dsimp only
 rw [hall,Bool.and_false]
 simp only [Bool.not_false,if_true]
 refine aa (bE hnew rfl ?_)
 rw [ak (show (#[]:Array DictEntry).isEmpty=true from rfl)]
 refine aa (qxv (knd:=knd) hoo' hd he his' hh ?_)
 have hem:es.isEmpty=false:=by
  rw [←Array.isEmpty_toList]
  cases hz:es.toList with
  |nil=>exact absurd hz hne
  |cons _ _=>rfl
 rw [hem]
 simp only [Bool.not_false,if_true]
 have hsize:es.size=xs.length:=by rw [←aO,he,ae]
 refine aa (wpAny_updateDictKeysTo hnew rfl (ag ?_) (by show es.size≤_;lia))
 show wpAny _ _ (Builtin.Dict.addKeywords s.heap.objs.size [] >>= _) _ _ _
 refine aa (ag (ag ⟨rfl,h _ ⟨_,es,1,Heap.get?_update_self _ hnew (Obj.isFreed_of_dict (Obj.data_mapDictKeys rfl _)),⟨rfl,rfl,rfl⟩,rfl,he,λx hx=>?_,hn⟩ (cH ..)⟩))
 exact (tupleKind knd).keeps (his' x hx) hnew rfl (cH ..)
end
section
variable {X:Cx}
def yr (P:Ac)(w:Ah)(k:List Key):Int:=(tupleKind (xj P w)).hash k
theorem qvs:kf X (.type "dict") (λxs H Q=>∃a kvs,xs=[V.ref a]∧H a=some (.dT kvs)∧kvs≠[]∧(kvs.map λp=>yr X.prog X.w p.1).Nodup∧∀p,H p=none→Q (.ref p) (upd H p (.dT kvs))):=by
 intro pins s σ H xs us Q I r h
 obtain ⟨a,kvs,rfl,e,h0,hh,q⟩:=h
 obtain ⟨u,rfl,rx⟩:=yk r
 cases rx
 obtain ⟨z,hd,xs,rel,dd⟩:=Qf I.hok (.inl e)
 have hl:xs.length=kvs.length:=(bb rel).symm
 have hm:∀ {kvs:List (List Key×V)} {xs:List (List Key×Aj×Ag)},KT H kvs xs→xs.map (λx=>(tupleKind (xj X.prog X.w)).hash x.1)=kvs.map λp=>yr X.prog X.w p.1:=by
  intro kvs xs r
  induction r with
  |nil=>rfl
  |cons h t ih=>rw [aD,aD,ih,h.1];rfl
 refine wwk hd dd (by rw [hl];exact z) (λz=>h0 (List.eq_nil_of_length_eq_zero (by rw [←hl,z];rfl))) (by rw [hm rel];exact hh) λh' dd' hs=>?_
 obtain ⟨o',es,ep,h1,h2,h3,h4,h5,h6⟩:=dd'
 refine ⟨.ref _,_,I.laid (a:=s.heap.objs.size) (o:=.dT kvs) (t':=s.toks) (λb q hq=>?_) (af _) ⟨z,aE.mpr (bg (ao I.big)),xs,rel.keeps λc ys ec=>?_,o',es,ep,h1,h2,h3,h4,h6⟩,rfl,q _ (I.hok.fresh (af _))⟩
 ·exact (hs.2 b (ao (ai hq))).trans (ac _ hq)
 ·rw [wc (qg ec (I.hok.fresh (af _)))]
  exact ec
def tDispT (tk tv:TE):TE:=λσ H Q=>∀p,H p=none→tk σ (upd H p (.dT [])) λx H1=>tv σ H1 λv H2=>∃b ks,x=.ref b∧H2 b=some (.tup (ks.map kV))∧H2 p=some (.dT [])∧Q (.ref p) (upd H2 p (.dT [(ks,v)]))
theorem quw {k v:Expr}{pos:Pos}{tk tv:TE}(hu:X.A.units<cLine)(hk:PE X k tk)(hv:PE X v tv):PE X (.Dict [some k] [v] pos) (tDispT tk tv):=by
 intro pins s σ H Q I q
 have hn:=I.hok.fresh (af s.heap.objs.size)
 have I1:=I.laid (a:=s.heap.objs.size) (o:=.dT []) (h':=s.heap.push { cls:=.type "dict",data:=.dict #[] }) (t':=s.toks) (λ_ _ q=>ac _ q) (af _) (qzu s.heap I.big)
 refine wpAny_Dict_any rfl rfl (λz=>by cases z) (show 1≤15 by decide) ?_
 refine pairTrees_cons_walk (thn (hk pins _ σ _ _ I1 (q _ hn)) λu s1 ⟨x,H1,I2,rx,q1⟩=>thn (hv pins s1 σ H1 _ I2 q1) λw2 s2 ⟨y,H2,I3,ry,b,ks,ex,eb,ep,q2⟩=>pairTrees_nil_walk ?_)
 subst ex
 cases (show u=Value.ref b from rx)
 obtain ⟨z,hd,xs,rel,dd⟩:=dt_of I3.hok ep
 cases rel
 unfold storeAll
 rw [List.forIn_cons]
 refine aa (aa (wpAny_dictSet_heap (knd:=tupleKind (xj X.prog X.w)) (hsz:=aB _) hu (j9 I3.hok eb) dd λh' dd' hs=>ag ?_))
 refine ag ?_
 obtain ⟨o',es,ep',h1,h2,h3,h4,_,h6⟩:=dd'
 refine ⟨.ref _,_,yh I3 (by rw [ep];exact True.intro) hs ⟨o',h1⟩ (show ObjOk X.prog X.w (upd H2 s.heap.objs.size (.dT [(ks,y)])) h' s.heap.objs.size (.dT [(ks,y)]) from ⟨by show 1≤sizeLine;decide,hd,[(ks,b,w2)],.cons ⟨rfl,?_,ry⟩ .nil,o',es,ep',h1,h2,h3,h4,h6⟩),rfl,q2⟩
 rw [wc (ne_of eb ep (λz=>nomatch z))]
 exact eb
theorem W7 {K:Aa}(hK:X.K=K){e:Expr}{f:Str}{pos:Pos}{ta:TE}(he:PE X e ta)(hb:attributeBase e f X.env (eval e X.env)=eval e X.env):PE X (.Attribute e f pos) (tFld K ta f):=by
 subst hK
 exact zb he hb
end
end L2
namespace L2
open PySem
namespace Hs
def rot (a:Nat):Nat:=(a*2 ^ 31)%18446744073709551616+a/2 ^ 33
def lane (a x:Nat):Nat:=(rot ((a+x*14029467366897019727)%18446744073709551616)*11400714785074694791)%18446744073709551616
def dOf (x:Nat):Nat:=(lane 2870177450012600261 x*839798700976720815)%18446744073709551616
def byD:List Nat:=[732,925,295,798,488,178,681,694,887,760,450,140,643,849,722,412,915,102,605,928,811,684,374,877,64,567,257,130,13,956,646,336,839,26,529,219,92,918,608,298,801,491,181,54,247,570,260,763,453,326,143,16,209,532,222,725,415,288,171,494,687,377,880,250,443,133,959,649,339,842,405,95,921,611,804,677,367,57,560,883,573,766,639,456,329,19,522,212,845,911,728,601,291,794,484,174,807,873,690,563,253,756,446,136,9,525,215,718,408,98,924,487,177,680,370,60,886,449,952,139,642,332,835,205,22,88,914,101,604,294,797,50,876,566,256,759,322,12,838,528,218,721,411,284,167,800,490,683,556,373,246,439,129,762,452,955,645,518,335,208,401,91,724,917,607,480,170,363,53,686,879,569,442,132,635,325,15,648,841,404,94,597,287,803,869,56,559,249,752,765,958,831,18,521,211,714,920,793,483,173,676,366,882,755,445,948,135,638,328,201,84,717,407,910,97,600,290,163,46,679,369,872,562,252,125,318,8,641,331,834,524,397,214,87,280,603,293,796,486,359,49,242,565,758,448,951,11,514,204,720,410,913,476,166,682,875,748,438,128,631,321,954,644,837,710,527,400,90,593,283,916,799,672,362,865,52,555,245,878,944,761,634,324,827,14,517,207,596,286,789,479,169,42,558,248,751,441,131,4,957,520,210,713,403,906,93,159,172,675,365,868,55,121,947,637,327,830,393,83,276,909,599,289,792,482,355,45,238,871,561,754,627,444,317,7,510,200,833,523,716,589,406,279,472,162,795,678,551,241,434,124,757,950,640,513,203,706,396,86,719,912,475,165,668,358,48,874,940,127,630,320,823,10,836,902,89,592,282,785,38,864,554,244,747,437,0,953,826,516,206,709,399,272,155,788,478,168,671,361,234,51,117,750,440,943,633,323,196,389,79,712,402,905,595,468,285,158,351,41,674,364,867,557,430,120,313,3,829,519,82,585,275,791,481,44,547,237,753,946,819,636,509,199,702,392,715,908,781,598,471,161,664,354,870,743,433,936,123,626,316,6,949,832,705,395,898,85,588,278,34,667,357,860,47,550,240,113,629,319,822,512,202,75,281,784,474,164,37,230,243,746,436,939,126,192,708,398,901,591,464,154,347,670,360,863,553,426,116,309,942,632,825,698,515,388,78,581,271,904,594,787,660,477,350,40,543,233,866,749,622,312,2,505,195,828,711,584,274,777,467,157,673,236,739,429,119,945,198,701,391,894,81,907,790,160,663,353,856,43,546,109,935,625,315,818,5,508,71,897,587,277,780,470,343,33,226,859,549,239,742,432,305,122,188,821,511,704,394,267,460,150,783,473,666,539,356,229,422,112,435,938,628,191,384,74,900,590,153,656,346,36,862,552,745,115,618,308,501,824,890,707,580,270,773,463,786,852,669,542,232,735,425,941,814,504,194,697,387,77,903,776,466,156,659,349,39,105,738,428,931,118,621,311,184,1,67,390,893,80,583,273,146,29,352,855,545,235,108,301,314,817,507,197,700,70,263,779,469,662,535,225,418,741,431,934,624,497,187,380,703,896,769,586,459,149,652,342,32,665,858,731,548,421,111,614,304,937,820,693,383,73,576,266,899,782,345,848,35,538,228,744,307,810,500,190,63,269,772,462,152,655,25,861,734,424,927,114,617,180,696,386,889,76,579,142,658,348,851,541,414,231,104,297,930,620,310,813,503,376,193,66,259,892,582,775,465,338,28,531,221,854,544,737,610,427,300,493,183,506,699,262,455,145,661,224,727,417,107,933,623,816,689,379,69,572,895,778,651,341,844,31,534,857,923,740,613,303,806,496,186,59,885,575,265,768,458,148,21,847,537,227,730,420,110,176,809,499,189,692,382,255,72,138,461,151,654,344,217,100,423,926,616,306,179,372,62,385,888,578,268,771,334,24,850,540,733,606,296,489,812,502,695,568,258,451,141,774,840,657,530,220,723,413,103,736,929,802,619,492,182,685,375,65,891,764,454,144,647,337,27,853,416,919,106,609,299,815,378,881,68,571,261,134,17,340,843,30,533,223,726,932,805,495,185,688,251,767,457,960,147,650,213,96,729,419,922,612,485,302,175,368,58,691,381,884,574,447,264,137,330,20,653,846,536,409,99,602,292,615,808,498,371,61,564,254,577,770,333,23,526,216]
def apart:List Nat→Bool
 |[]=>true
 |[_]=>true
 |x::y::l=>Nat.ble (dOf x+40) (dOf y)&&apart (y::l)
theorem J1:apart byD=true:=by decide +kernel
theorem byD_lt:(byD.all λx=>Nat.blt x 961)=true:=by decide +kernel
theorem wzw:byD.length=961:=by decide +kernel
theorem Yb:(byD.all λx=>Nat.ble 40 (dOf x)&&Nat.ble (dOf x+40) 18446744073709551616&&!(Nat.ble (dOf x) 15746002411462551884&&Nat.ble 15746002411462551884 (dOf x+40)))=true:=by decide +kernel
theorem Zy:∀ {l:List Nat},apart l=true→l.Pairwise λx y=>dOf x+40≤dOf y
 |[],_=>.nil
 |[_],_=>ed _ _
 |x::y::l,h=>by
  have h:(Nat.ble (dOf x+40) (dOf y)&&apart (y::l))=true:=h
  rw [aW] at h
  have ih:=Zy h.2
  have a:=bn h.1
  refine cP.mpr ⟨λz hz=>?_,ih⟩
  rcases aq.mp hz with rfl|hz
  ·exact a
  ·have:=(cP.mp ih).1 z hz
   lia
theorem pw_two {l:List Nat}(h:l.Pairwise λx y=>dOf x+40≤dOf y):∀x∈l,∀y∈l,x≠y→dOf x+40≤dOf y∨dOf y+40≤dOf x:=by
 induction h with
 |nil=>intro x hx;cases hx
 |@cons b l a t ih =>
  intro x hx y hy ne
  rcases aq.mp hx with hx|hx
  ·rcases aq.mp hy with hy|hy
   ·exact absurd (hx.trans hy.symm) ne
   ·rw [hx];exact .inl (a y hy)
  ·rcases aq.mp hy with hy|hy
   ·rw [hy];exact .inr (a x hx)
   ·exact ih x hx y hy ne
theorem Z0 {x:Nat}(h:x<961):x∈byD:=by
 apply bO
 intro n
 have nd:byD.Nodup:=(Zy J1).imp λ{a b} q e=>by rw [e] at q;lia
 have:=L2.qqm (x::byD) (List.range 961) (bf.mpr ⟨n,nd⟩) λv hv=>by
  rcases aq.mp hv with rfl|hv
  ·exact aL.mpr h
  ·exact aL.mpr (Nat.blt_eq.mp (bq.mp byD_lt v hv))
 rw [aQ,wzw,aC] at this
 lia
theorem qz3 (a:Nat):rot a=(a%8589934592)*2147483648+a/8589934592:=by
 unfold rot
 rw [show (18446744073709551616:Nat)=8589934592*2147483648 from rfl,show (2:Nat) ^ 31=2147483648 from rfl,Nat.mul_mod_mul_right]
theorem wxq {a b:Nat}(ha:a<18446744073709551616)(hb:b<18446744073709551616)(h:rot a=rot b):a=b:=by
 rw [qz3,qz3] at h
 have a1:a/8589934592<2147483648:=dm ha
 have b1:b/8589934592<2147483648:=dm hb
 have a2:=Nat.div_add_mod a 8589934592
 have b2:=Nat.div_add_mod b 8589934592
 generalize a/8589934592=q at *
 generalize b/8589934592=q' at *
 generalize a%8589934592=r at *
 generalize b%8589934592=r' at *
 lia
theorem wq6 {a:Nat}(ha:a<18446744073709551616):rot a<18446744073709551616:=by
 rw [qz3]
 have a1:a/8589934592<2147483648:=dm ha
 have a2:=cB a (show 0<8589934592 by decide)
 lia
theorem qw7 {a:Nat}(ha:a<18446744073709551616):((a*11400714785074694791)%18446744073709551616*614540362697595703)%18446744073709551616=a:=by
 have h:(a*11400714785074694791*614540362697595703)%18446744073709551616=a:=by
  rw [Nat.mul_assoc,show 11400714785074694791*614540362697595703=1+18446744073709551616*379806830464837242 from rfl,Nat.mul_add,Nat.mul_one,show a*(18446744073709551616*379806830464837242)=18446744073709551616*(a*379806830464837242) by rw [Nat.mul_left_comm],Nat.add_mul_mod_self_left]
  exact Nat.mod_eq_of_lt ha
 rw [Nat.mul_mod,Nat.mod_mod,←Nat.mul_mod]
 exact h
theorem wws {a b:Nat}(ha:a<18446744073709551616)(hb:b<18446744073709551616)(h:(a*11400714785074694791)%18446744073709551616=(b*11400714785074694791)%18446744073709551616):a=b:=by
 rw [←qw7 ha,←qw7 hb,h]
theorem qk1 {u x:Nat}:((u+x*14029467366897019727)%18446744073709551616*839798700976720815)%18446744073709551616=((u*839798700976720815)%18446744073709551616+x)%18446744073709551616:=by lia
theorem qzz {u v x y:Nat}(h:lane u x=lane v y):(u+x*14029467366897019727)%18446744073709551616=(v+y*14029467366897019727)%18446744073709551616:=by
 unfold lane at h
 have a:=cB (u+x*14029467366897019727) (show 0<18446744073709551616 by decide)
 have b:=cB (v+y*14029467366897019727) (show 0<18446744073709551616 by decide)
 exact wxq a b (wws (wq6 a) (wq6 b) h)
theorem two_inj {x y x' y':Nat}(hx:x<961)(hx':x'<961)(hy:y≤40)(hy':y'≤40)(y1:1≤y)(y1':1≤y')(h:lane (lane 2870177450012600261 x) y=lane (lane 2870177450012600261 x') y'):x=x'∧y=y':=by
 have e:=qzz h
 have e1:=qk1 (u:=lane 2870177450012600261 x) (x:=y)
 have e2:=qk1 (u:=lane 2870177450012600261 x') (x:=y')
 have d1:dOf x=(lane 2870177450012600261 x*839798700976720815)%18446744073709551616:=by unfold dOf;rfl
 have d2:dOf x'=(lane 2870177450012600261 x'*839798700976720815)%18446744073709551616:=by unfold dOf;rfl
 rw [e,e2,←d1,←d2] at e1
 clear e e2 h d1 d2
 have q:=bq.mp Yb x (Z0 hx)
 have q':=bq.mp Yb x' (Z0 hx')
 rw [aW,aW] at q q'
 have q1:=bn q.1.1
 have q2:=bn q.1.2
 have q1':=bn q'.1.1
 have q2':=bn q'.1.2
 by_cases ne:x=x'
 ·subst ne
  exact ⟨rfl,by lia⟩
 ·have:=pw_two (Zy J1) x (Z0 hx) x' (Z0 hx') ne
  lia
theorem not_end {x y:Nat}(hx:x<961)(y1:1≤y)(hy:y≤40):(lane (lane 2870177450012600261 x) y+2870177450013471924)%18446744073709551616≠18446744073709551615:=by
 intro h
 have l1:lane (lane 2870177450012600261 x) y<18446744073709551616:=cB _ (by decide)
 have l2:lane (lane 2870177450012600261 x) y=lane 9148689060682678900 0:=by
  have:lane 9148689060682678900 0=15576566623696079691:=by decide +kernel
  rw [this]
  lia
 have e:=qzz l2
 have e1:=qk1 (u:=lane 2870177450012600261 x) (x:=y)
 have e2:=qk1 (u:=9148689060682678900) (x:=0)
 have d1:dOf x=(lane 2870177450012600261 x*839798700976720815)%18446744073709551616:=by unfold dOf;rfl
 rw [e,e2,←d1,show (9148689060682678900*839798700976720815)%18446744073709551616=15746002411462551884 by decide +kernel] at e1
 clear e e2 h d1 l1 l2
 have q:=bq.mp Yb x (Z0 hx)
 rw [aW,aW] at q
 have q1:=bn q.1.1
 have q2:=bn q.1.2
 have q3:=q.2
 have a:Nat.ble (dOf x) 15746002411462551884=true:=Nat.ble_eq_true_of_le (by lia)
 have b:Nat.ble 15746002411462551884 (dOf x+40)=true:=Nat.ble_eq_true_of_le (by lia)
 rw [a,b] at q3
 cases q3
end Hs
def thG (M P1 P2 P5 C:Nat)(hashes:List Int):Int:=(λacc:Nat=>if acc==M-1 then 1546275796 else if acc<2 ^ 63 then (acc:Int) else (acc:Int)-M) ((hashes.foldl (λacc h=>((((acc+(h%(M:Int)).toNat*P2)%M)*2 ^ 31)%M+((acc+(h%(M:Int)).toNat*P2)%M)/2 ^ 33)*P1%M) P5+(hashes.length ^^^ (P5 ^^^ C)))%M)
theorem th_eq (hs:List Int):Builtin.Tuple.tupleHashOf hs=thG (2 ^ 64) 11400714785074694791 14029467366897019727 2870177450012600261 3527539 hs:=rfl
def laM (M P1 P2 a x:Nat):Nat:=(((a+x*P2)%M)*2 ^ 31%M+((a+x*P2)%M)/2 ^ 33)*P1%M
def finM (M:Nat)(acc:Nat):Int:=if acc==M-1 then (1546275796:Int) else if acc<2 ^ 63 then (acc:Int) else (acc:Int)-M
theorem wwc (M P1 P2 P5 C:Nat)(a b:Int):thG M P1 P2 P5 C [a,b]=finM M ((laM M P1 P2 (laM M P1 P2 P5 (a%(M:Int)).toNat) (b%(M:Int)).toNat+([a,b].length ^^^ (P5 ^^^ C)))%M):=by
 unfold thG laM finM
 rw [dt,dt,List.foldl_nil]
theorem p64:(2:Nat) ^ 64=18446744073709551616:=rfl
theorem wq5 (a x:Nat):laM (2 ^ 64) 11400714785074694791 14029467366897019727 a x=Hs.lane a x:=by
 unfold laM Hs.lane Hs.rot
 rw [p64]
theorem xc:(0+1+1 ^^^ (2870177450012600261 ^^^ 3527539):Nat)=2870177450013471924:=by decide +kernel
theorem wxg {u:Nat}(ne:u≠18446744073709551615)(lu:u<18446744073709551616):reduceHash (finM (2 ^ 64) u)=if u<9223372036854775808 then (u:Int) else (u:Int)-18446744073709551616:=by
 unfold finM
 rw [p64,aj (by simpa using ne),show (2:Nat) ^ 63=9223372036854775808 from rfl]
 unfold reduceHash
 by_cases c:u<9223372036854775808
 ·rw [ak c,ak (by simp;lia),aj (by simp),ak c]
 ·rw [aj c,ak (by simp;lia),aj (by simp;lia),aj c]
  lia
theorem hashI:∀x:Int,0≤x→x≤960→hashInt x=x:=λx h1 h2=>by
 have r:rawHash x=x:=by
  unfold rawHash
  dsimp only
  have e:((x.natAbs:Int)%((2 ^ 61-1:Nat):Int))=x:=by
   rw [show (2 ^ 61-1:Nat)=2305843009213693951 from rfl]
   lia
  rw [e,aj (show ¬ x<0 by lia),aj (by simp;lia)]
 unfold hashInt
 rw [r,aj (by simp;lia)]
theorem qzf {P:Ac}{w:Ah}{a b:Int}(a0:0≤a)(a1:a≤960)(b0:1≤b)(b1:b≤40):yr P w [.inl a,.inl b] =
  if (Hs.lane (Hs.lane 2870177450012600261 a.toNat) b.toNat+2870177450013471924)%18446744073709551616<9223372036854775808 then (((Hs.lane (Hs.lane 2870177450012600261 a.toNat) b.toNat+2870177450013471924)%18446744073709551616:Nat):Int) else (((Hs.lane (Hs.lane 2870177450012600261 a.toNat) b.toNat+2870177450013471924)%18446744073709551616:Nat):Int)-18446744073709551616:=by
 have ne:=Hs.not_end (x:=a.toNat) (y:=b.toNat) (by lia) (by lia) (by lia)
 have e0:yr P w [.inl a,.inl b]=reduceHash (Builtin.Tuple.tupleHashOf [hashInt a,hashInt b]):=by
  unfold yr
  rfl
 have ea:(a%((2 ^ 64:Nat):Int)).toNat=a.toNat:=by rw [p64];lia
 have eb:(b%((2 ^ 64:Nat):Int)).toNat=b.toNat:=by rw [p64];lia
 rw [e0,hashI a a0 a1,hashI b (by lia) (by lia),th_eq,wwc,ea,eb,wq5,wq5,aQ,aQ,cL,xc]
 have lu:=cB (Hs.lane (Hs.lane 2870177450012600261 a.toNat) b.toNat+2870177450013471924) (show 0<18446744073709551616 by decide)
 rw [show (Hs.lane (Hs.lane 2870177450012600261 a.toNat) b.toNat+2870177450013471924)%2 ^ 64=(Hs.lane (Hs.lane 2870177450012600261 a.toNat) b.toNat+2870177450013471924)%18446744073709551616 by rw [p64]]
 exact wxg ne lu
theorem quy {P:Ac}{w:Ah}{a b a' b':Int}(a0:0≤a)(a1:a≤960)(b0:1≤b)(b1:b≤40)(a0':0≤a')(a1':a'≤960)(b0':1≤b')(b1':b'≤40)
  (h:yr P w [.inl a,.inl b]=yr P w [.inl a',.inl b']):a=a'∧b=b':=by
 rw [qzf a0 a1 b0 b1,qzf a0' a1' b0' b1'] at h
 have l1:Hs.lane (Hs.lane 2870177450012600261 a.toNat) b.toNat<18446744073709551616:=cB _ (by decide)
 have l2:Hs.lane (Hs.lane 2870177450012600261 a'.toNat) b'.toNat<18446744073709551616:=cB _ (by decide)
 have e:Hs.lane (Hs.lane 2870177450012600261 a.toNat) b.toNat=Hs.lane (Hs.lane 2870177450012600261 a'.toNat) b'.toNat:=by
  generalize Hs.lane (Hs.lane 2870177450012600261 a.toNat) b.toNat=u at *
  generalize Hs.lane (Hs.lane 2870177450012600261 a'.toNat) b'.toNat=v at *
  split at h <;> split at h <;> lia
 have:=Hs.two_inj (x:=a.toNat) (x':=a'.toNat) (y:=b.toNat) (y':=b'.toNat) (by lia) (by lia) (by lia) (by lia) (by lia) (by lia) e
 lia
end L2
namespace L2
open PySem PySem.Spec PySem.Calls PyProof.Rows
section
variable {Y:Cx}{kx vx:Expr}{tk te:TE}{c:Code}{p:Aj}{σ:St}{H:Hp}{pins:List (Aj×Obj)}{s:Ab}
def dctS (kx vx:Expr)(D:Aj)(env:Env)(c:Code):Sem PySem.Fin:=(eval kx env >>= λkv=>holding [kv] (eval vx env) >>= λvv=>standAt { kx.pos with endLine:=vx.pos.endLine,endCol:=vx.pos.endCol } >>= λ_=>holding [kv,vv] (dictSet D kv vv)) >>= λ_=>again c
theorem quj (kx vx target iter:Expr)(scope:Scope)(pos:Pos)(it:Ag)(D:Aj)(env:Env) :
  compTurn (.DictComp kx vx [⟨target,iter,[],0⟩] scope pos) 0 it (.ref D) env=(standAt iter.pos >>= λ_=>pyNext it >>= λr=>match r with|none=>pure (.done .next)|some v=>letOwnedTupleGo target it v >>= λ_=>assign target env v >>= λ_=>dctS kx vx D env (.compLoop (.DictComp kx vx [⟨target,iter,[],0⟩] scope pos) 0 it (.ref D) env)):=by rfl
theorem qy6 {ys:List (Key×V)}{N:List (Key×V)→Hp→Prop}(hk:PE Y kx tk)(hv:PE Y vx te)(J:Inv Y pins σ H s)(hz:ys.length<sizeLine)
  (h:tk σ H λy H4=>te σ H4 λz H5=>∃k,y=kV k∧H5 p=some (.dK ys)∧N (zf ys k z) (upd H5 p (.dK (zf ys k z)))) :
  wpAny (model Y.prog Y.w) Y.A (dctS kx vx p Y.env c) (λr s5=>r=Fin.again c∧∃H5,Inv Y pins σ H5 s5∧∃zs,N zs H5) Y.xe s:=by
 refine aa (aa (aK (hk _ s _ H _ J h) (λkv s6 hr6=>?_) λ_ _ z=>z))
 obtain ⟨y,H4,J6,ry,h4⟩:=hr6
 refine aa (cK (aK (hv _ s6 _ H4 _ J6 h4) (λvv s7 hr7=>?_) λ_ _ z=>z))
 obtain ⟨z,H5,J7,rz,k,rfl,e5,n5⟩:=hr7
 refine aa (de (cK ?_))
 obtain ⟨zz,hd,vs,rel,dd⟩:=qqz J7.hok e5
 have hl:(zf ys k z).length≤sizeLine:=by have:=v3 ys k z;lia
 refine wpAny_dictSet_pairs (hsz:=by rw [←rel.length];exact zz) (y0 ry) dd λh' dd' hs=>ag ⟨rfl,_,?_,_,n5⟩
 have he:∃q,h'.get? p=some q:=let ⟨q,_,_,hq,_⟩:=dd';⟨q,hq⟩
 exact yh J7 (by rw [e5];exact True.intro) hs he (Zs hl hd (rel.put k rz) dd')
end
section
variable {X:Cx}{pins:List (Aj×Obj)}{σ:St}{H:Hp}{s2:Ab}{scope:Scope}{cl:List (Str×Aj)}{x:Str}{M:List Nat}{fp:List Aj}{C:Aj}{h1:Heap}{tk:Nat}
theorem Inv.compD (I:Inv X pins σ H s2)(hc:CapAll X.env cl)(hh:HasAll cl scope.names)(hm:CapIx X scope cl M)(hk:scope.kind=.function)(hC:s2.heap.objs.size<C)
  (keep:∀b o,s2.heap.get? b=some o→h1.get? b=some o) (hn:h1.Ns C λ_=>none) (hD:h1.get? s2.heap.objs.size=some { cls:=.type "dict",data:=.dict #[] })
  (hfp:∀b∈fp,km X pins H b) (hob:∀b∈fp,∃o,s2.heap.get? b=some o) :
  Inv (zg X scope cl x M C s2 H fp (X.pn++pins)) [] (zp M σ none) (upd H s2.heap.objs.size (.dK [])) { s2 with heap:=h1,toks:=tk } :=
 I.compG (xs:=[x]) hc hh hm hk hC keep hn ⟨aB _,aE.mpr (bg (ao I.big)),[],.nil,by
  obtain ⟨o,es,ep,ho,r⟩:=Heap.DictOf.new (knd:=xj X.prog X.w) s2.heap
  have:o={ cls:=.type "dict",data:=.dict #[] }:=av (ho.symm.trans (am _ rfl))
  exact ⟨o,es,ep,by rw [this];exact hD,r⟩⟩ hfp hob
end
def qwn (J:It)(M:List Nat)(tk te:TE)(σ:St)(H1:Hp)(Q:VK):Prop:=∀p,H1 p=none→∃W:Nat→Nat→List (Key×V)→Hp→Prop,(∃m,W 0 m [] (upd H1 p (.dK []))) ∧
 ∀i m ys H2,W i m ys H2→H2 p=some (.dK ys)∧ys.length<sizeLine∧((J.stop i H2∧Q (.ref p) H2)∨(J.go i H2∧∀v H3,J.yld i H2 v H3 →
  tk (zp M σ (some v)) H3 λy H4=>te (zp M σ (some v)) H4 λz H5=>∃k,y=kV k∧H5 p=some (.dK ys)∧∃m',m'<m∧W (i+1) m' (zf ys k z) (upd H5 p (.dK (zf ys k z)))))
def tDComp (M:List Nat)(wi:TI)(tk te:TE):TE:=λσ H Q=>wi σ H λJ H1=>qwn J M tk te σ H1 Q
section
variable {X:Cx}{kx vx iter:Expr}{x:Str}{px pos:Pos}{scope:Scope}{cl:List (Str×Aj)}{M:List Nat}{wi:TI}{tk te:TE}{pins:List (Aj×Obj)}{σ:St}
theorem qv2 {tg:Expr}(hclos:closureFor scope X.env=pure cl)(hhas:HasAll cl scope.names)(hk:scope.kind=.function)
  (hnames:∀y∈scope.names,y.2=.local→scope.names.lookup y.1=some .local) (hi:PI X tg iter wi) (hs:∀z,foldedSetIterable iter X.env z=pure z)
  {use:Option (Ag→Sem Unit)} {QQ:Ag→Ab→Prop} {s:Ab} {H:Hp} {ps:Pos} {R:It→Hp→Prop} (I:Inv X pins σ H s) (h:wi σ H R)
  (go:∀(it:Aj) (fp:List Aj) (tn:Nat→Heap→Prop) (J:It) (H1:Hp) (s2:Ab) (C:Aj) (h3:Heap) (tn2:Nat),Inv X pins σ H1 s2→Turn X.prog X.w X.K tg J fp it tn→tn 0 h3→(∀b∈fp,km X pins H1 b)→(∀b∈fp,b<s2.heap.objs.size)→(∀b∈fp,∃o,s2.heap.get? b=some o)→R J H1→s2.heap.objs.size<C →
   (∀b o,s2.heap.get? b=some o→h3.get? b=some o)→(h3.Ns C λ_=>none)→h3.get? s2.heap.objs.size=some { cls:=.type "dict",data:=.dict #[] } →
   codeAny (model X.prog X.w) X.A (.compLoop (.DictComp kx vx [⟨tg,iter,[],0⟩] scope pos) 0 (.ref it) (.ref s2.heap.objs.size) (compEnvC scope cl C X.env)) (compPost (model X.prog X.w) X.A X.xe use QQ (.ref s2.heap.objs.size) C) { s2 with heap:=h3,toks:=tn2 }) :
  wpAny (model X.prog X.w) X.A (comprehension (.DictComp kx vx [⟨tg,iter,[],0⟩] scope pos) scope X.env ps newDict false (eval iter X.env) use) QQ X.xe s:=by
 refine cJ (use:=use) rfl hs hclos hk hnames ?_
 refine thn (hi pins s σ H _ I h) λv s1 h1=>thn h1 λitv s2 h2=>?_
 obtain ⟨it,fp,tn,J,H1,rfl,I2,T,t0,hfp,hR⟩:=h2
 refine bD ?_
 refine di hhas.nocell (by intro y hy;cases hy) (λh3 hns hsb=>?_) hk
 dsimp only at hns hsb ⊢
 generalize hH2:s2.heap.push { cls:=.type "dict",dict:=none,data:=.dict #[] }=G2 at hns hsb ⊢
 have hC:G2.objs.size=s2.heap.objs.size+1:=by rw [←hH2,cS]
 have hlt:s2.heap.objs.size<G2.objs.size:=by lia
 have keep:∀b o,s2.heap.get? b=some o→h3.get? b=some o:=λb o e=>by
  rw [hsb.2 b (ao (bo (ai e) hlt))]
  exact ac _ (hH2▸ac _ e)
 have hD:h3.get? s2.heap.objs.size=some { cls:=.type "dict",data:=.dict #[] }:=by
  rw [hsb.2 _ (ao hlt)]
  exact ac _ (hH2▸am _ rfl)
 have t3:=T.keep 0 _ _ t0 λb _ o e=>keep b o e
 have loop:=λtn2=>go it fp tn J H1 s2 G2.objs.size h3 tn2 I2 T t3 hfp (λb hb=>let ⟨o,e,_⟩:=T.obj 0 _ t0 b hb;ai e) (λb hb=>let ⟨o,e,_⟩:=T.obj 0 _ t0 b hb;⟨o,e⟩) hR hlt keep hns hD
 exact codeAny_compStart_dict (loop _) (T.self _ 0 _ _ _ t3 (loop _))
end
section
variable {X:Cx}{kx vx iter:Expr}{x:Str}{px pos:Pos}{scope:Scope}{cl:List (Str×Aj)}{M:List Nat}{wi:TI}{tk te:TE}
theorem qyv (hc:X.calm=true)(hclos:closureFor scope X.env=pure cl)(hcap:CapAll X.env cl)(hhas:HasAll cl scope.names)(hix:CapIx X scope cl M)(hk:scope.kind=.function)
  (hnames:∀y∈scope.names,y.2=.local→scope.names.lookup y.1=some .local) (hx:scope.names.lookup x=some .local) (hnd:(Yv X x M).Nodup) (hi:PI X (.Name x px) iter wi)
  (hkx:∀C s2 H2 fp pn,PE (zg X scope cl x M C s2 H2 fp pn) kx tk) (he:∀C s2 H2 fp pn,PE (zg X scope cl x M C s2 H2 fp pn) vx te) (hs:∀z,foldedSetIterable iter X.env z=pure z)
  {use:Option (Ag→Sem Unit)} {QQ:Ag→Ab→Prop} {pins:List (Aj×Obj)} {s:Ab} {σ:St} {H:Hp} {Q:VK} {ps:Pos} (I:Inv X pins σ H s) (h:wi σ H λJ H1=>qwn J M tk te σ H1 Q)
  (fin:∀(C:Aj) (s2 s4:Ab) (H1 H2:Hp) (fp:List Aj),Inv X pins σ H1 s2→s2.heap.objs.size<C→(∀b∈fp,km X pins H1 b)→Inv (zg X scope cl x M C s2 H1 fp (X.pn++pins)) [] (zp M σ none) H2 s4→Q (.ref s2.heap.objs.size) H2 →
   compPost (model X.prog X.w) X.A X.xe use QQ (.ref s2.heap.objs.size) C (.ok .next) s4) :
  wpAny (model X.prog X.w) X.A (comprehension (.DictComp kx vx [⟨.Name x px,iter,[],0⟩] scope pos) scope X.env ps newDict false (eval iter X.env) use) QQ X.xe s:=by
 refine qv2 hclos hhas hk hnames hi hs I h λit fp tn J H1 s2 C h3 tn2 I2 T t3 hfp hbl hob hR hlt keep hns hD=>?_
 obtain ⟨W,⟨m0,w0⟩,hW⟩:=hR s2.heap.objs.size (I2.hok.fresh (af _))
 have hxl:(relabel scope X.env).names.lookup x=some .local:=dj hx
 refine Q6 (Y:=zg X scope cl x M C s2 H1 fp (X.pn++pins)) (V:=λi n H2=>∃ys,W i n ys H2) (Qd:=Q (.ref s2.heap.objs.size)) (REST:=dctS kx vx s2.heap.objs.size (compEnvC scope cl C X.env) _) T hc (λ_ _ z=>z) (quj ..) rfl rfl (xp (i:=0) hnd rfl (.inl hxl) (.inr hxl)) (qwm hcap I2 hlt hfp hbl) (λi n H2 ⟨ys,w⟩=>?_) (λH2 s4 J4 q=>fin C s2 s4 H1 H2 fp I2 hlt hfp J4 q) (I2.compD hcap hhas hix hk hlt keep hns hD hfp hob) ⟨[],w0⟩ t3 λb hb=>by rw [wc (ao (hbl b hb))];exact (hfp b hb).1
 obtain ⟨hp,hz,hcase⟩:=hW i n ys H2 w
 refine hcase.imp id λ⟨hgo,hy⟩=>⟨hgo,λv H3 yl=>⟨λσ4 H4=>σ4=zp M σ (some v)∧H3=H4,⟨rfl,rfl⟩,λ_ _ e=>?_⟩⟩
 obtain ⟨rfl,rfl⟩:=e
 refine ⟨y7 M σ v,λpins' s' J=>?_⟩
 refine aK (qy6 (N:=λzs H5=>∃m',m'<n∧W (i+1) m' zs H5) (hkx _ _ _ _ _) (he _ _ _ _ _) J hz (hy v H3 yl)) (λr s5 ⟨e,H5,J5,zs,m',hm,w'⟩=>⟨e,H5,J5,m',hm,zs,w'⟩) λ_ _ z=>z
theorem Wu {i:Nat}{y:Str}{py spos:Pos}(hN:X.N.Nodup)(hyi:X.N[i]?=some y)(hyl:Loc X.env.scope y)(hc:X.calm=true)(hclos:closureFor scope X.env=pure cl)(hcap:CapAll X.env cl)(hhas:HasAll cl scope.names)(hix:CapIx X scope cl M)(hk:scope.kind=.function)
  (hnames:∀y∈scope.names,y.2=.local→scope.names.lookup y.1=some .local) (hx:scope.names.lookup x=some .local) (hnd:(Yv X x M).Nodup) (hi:PI X (.Name x px) iter wi)
  (hkx:∀C s2 H2 fp pn,PE (zg X scope cl x M C s2 H2 fp pn) kx tk) (he:∀C s2 H2 fp pn,PE (zg X scope cl x M C s2 H2 fp pn) vx te) (hs:∀z,foldedSetIterable iter X.env z=pure z:=by intro _;rfl)
  (hsw:swapsWith (.DictComp kx vx [⟨.Name x px,iter,[],0⟩] scope pos) (some (.Name y py)) spos.line X.env=pure true:=by rfl) (hyf:X.fn y=true∨X.env.scope.names.lookup y=some .local:=by first | exact .inl rfl | exact .inr rfl | assumption) :
  PS X (.Assign [.Name y py] (.DictComp kx vx [⟨.Name x px,iter,[],0⟩] scope pos) spos) (tAsg (tDComp M wi tk te) (wqj i)):=by
 intro pins s σ H D I h
 rw [exec_Assign_Name_used _ _ _ _ hsw]
 refine aa (de (aa ?_))
 refine aa (aK (qyv hc hclos hcap hhas hix hk hnames hx hnd hi hkx he hs (use:=some (assign (.Name y py) X.env)) (QQ:=λ_ s'=>SP X pins D .next s') I h λC s2 s4 H1 H2 fp I2 hlt hfp J4 hq=>?_) (λ_ s' hq=>ag (ag hq)) λ_ _ e=>e)
 have I4:Inv X pins σ H2 s4:=I2.uncomp (h':=s4.heap) (bw hlt) hfp J4 (Heap.SameBut.refl _ _)
 have hCn:H2 C=none:=J4.free
 obtain ⟨mC,hnC,_⟩:=J4.loc
 obtain ⟨oC,esC,epC,hoC,hdC⟩:=id hnC
 have hCl:C≠X.env.locals:=λz=>aX _ (bo hlt (z▸I2.lt))
 have hCs:X.s₀.heap.objs.size≤C:=br I2.sz (bw hlt)
 have hCc:∀y c,X.env.cells.lookup y=some c→c≠C:=λy c e z=>by
  obtain ⟨v,o,e1,_⟩:=I2.cell y c e
  exact aX _ (bo hlt (z▸ai e1))
 have hCp:∀p∈X.pn++pins,p.1≠C:=λp hp z=>aX _ (bo hlt (z▸ai (I2.pin p hp).1))
 have hCf:C∉frs X.stack:=λz=>by
  rcases aq.mp (I2.stkSub C z) with q|q
  ·exact hCl q
  ·obtain ⟨_,o,e1,_⟩:=I2.funs.mem (b:=C) q
   exact aX _ (bo hlt (ai e1))
 have hCx:C∉X.fs:=λz=>by
  obtain ⟨_,o,e1,_⟩:=I2.funs.mem (b:=C) z
  exact aX _ (bo hlt (ai e1))
 have I4p:Inv X (pins++[(C,oC)]) σ H2 s4:=⟨I4.ok,I4.os,I4.bare,I4.base,I4.loc,I4.cell,I4.free,I4.freeC,λp hp=>by
  rcases ba.mp hp with q|q
  ·exact I4.pin p (df _ q)
  ·rcases ba.mp q with q|q
   ·exact I4.pin p (aw _ q)
   ·rw [au.mp q]
    exact ⟨hoC,hCn,hCl,hCx,λv z=>by rw [hdC.1] at z;cases z⟩,I4.hok,I4.len⟩
 show wpAny _ _ (assign (.Name y py) X.env (.ref s2.heap.objs.size)) _ _ _
 refine wpAny_assign_Name (j5 I4p hN hyi hyl (show RelV (.ref s2.heap.objs.size) (.ref s2.heap.objs.size) from rfl) (λs5 I5=>?_) hyf)
 have hC5:=(I5.pin (C,oC) (aw _ (aw _ (.head _)))).1
 exact ⟨mC,⟨oC,esC,epC,hC5,hdC⟩,λh' hs'=>⟨_,H2,I5.unpinned.but hCn hCs hCl hCc hCp hs',hq⟩⟩
end
end L2
namespace L2
open PySem
theorem qy0 {M:List Nat}{x:Str}{te:TE}{σ:St}{H:Hp}{Q:VK}(f:Nat→V)(hn:x.cps.size≤1000000)(he:∀(i:Nat) (H':Hp) (R:VK),i<x.cps.size→Same H H'→R (f i) H'→te (zp M σ (some (.str ⟨#[x.cps.getD i 0]⟩))) H' R)
  (k:∀p,H p=none→Q (.ref p) (upd H p (.lst ((List.range x.cps.size).map f)))):qk7 (ItS x) M te σ H Q:=by
 intro p np
 refine ⟨λi m ys H2=>i≤x.cps.size∧m=x.cps.size-i∧ys=(List.range i).map f∧H2=upd H p (.lst ys),⟨x.cps.size,aB _,rfl,rfl,rfl⟩,?_⟩
 rintro i m ys H2 ⟨hi,rfl,rfl,rfl⟩
 refine ⟨qt,?_,?_⟩
 ·rw [ae,aC]
  have:(1000000:Nat)<sizeLine:=by decide
  lia
 ·by_cases hlt:i<x.cps.size
  ·refine .inr ⟨hlt,?_⟩
   rintro v H3 ⟨rfl,rfl⟩
   refine he i (upd H p (.lst ((List.range i).map f))) _ hlt (Same.upd np) ⟨qt,x.cps.size-(i+1),by lia,by lia,rfl,?_,?_⟩
   ·rw [bQ,aT]
    rfl
   ·rw [Qv]
  ·refine .inl ⟨by show x.cps.size≤i;lia,?_⟩
   have:i=x.cps.size:=by lia
   subst this
   exact k p np
theorem wqn {M:List Nat}{d:Aj}{o:Obj}{cs:List (Key×V)}{tk te:TE}{σ:St}{H:Hp}{Q:VK}(f:Key→V)(hz:cs.length≤1000000)(nd:(cs.map (·.1)).Nodup)(hd:H d=some (.frz o (.dK cs)))
  (he:∀(k:Key) (H':Hp) (R:V→V→Hp→Prop),Same H H'→R (kV k) (f k) H'→tk (zp M σ (some (kV k))) H' λy H4=>te (zp M σ (some (kV k))) H4 λz H5=>R y z H5)
  (k:∀p,H p=none→Q (.ref p) (upd H p (.dK (cs.map λc=>(c.1,f c.1))))):qwn (ItD d o cs) M tk te σ H Q:=by
 intro p np
 have big:(1000000:Nat)<sizeLine:=by decide
 refine ⟨λi m ys H2=>i≤cs.length∧m=cs.length-i∧ys=(cs.take i).map (λc=>(c.1,f c.1))∧H2=upd H p (.dK ys),⟨cs.length,aB _,rfl,rfl,rfl⟩,?_⟩
 rintro i m ys H2 ⟨hi,rfl,rfl,rfl⟩
 have dp:d≠p:=qg hd np
 refine ⟨qt,by rw [ae,bK];lia,?_⟩
 by_cases hlt:i<cs.length
 ·refine .inr ⟨⟨by rw [wc dp];exact hd,hlt⟩,?_⟩
  rintro v H3 ⟨rfl,c,ec,rfl⟩
  refine he c.1 _ _ (Same.upd np) ⟨c.1,rfl,qt,cs.length-(i+1),by lia,by lia,rfl,?_,?_⟩
  ·have hn:xv ((cs.take i).map λc=>(c.1,f c.1)) c.1=none:=by
    unfold xv
    rw [dM.mpr]
    ·rfl
    ·intro x hx
     obtain ⟨y,hy,rfl⟩:=aN.mp hx
     have hy2:y.1∈(cs.map (·.1)).take i:=by rw [←List.map_take];exact aN.mpr ⟨y,hy,rfl⟩
     intro z
     have z:y.1=c.1:=by simpa using z
     obtain ⟨j,hj,ej⟩:=dz hy2
     rw [bK,ae] at hj
     rw [List.getElem_take] at ej
     have e2:(cs.map (·.1))[i]'(by rw [ae];exact hlt)=c.1:=by
      rw [List.getElem_map]
      rw [al hlt] at ec
      rw [av ec]
     have:=(dX nd).mp (ej.trans (z.trans e2.symm))
     lia
   rw [jw _ hn,dU,aT,ec]
   rfl
  ·rw [Qv]
 ·refine .inl ⟨⟨by rw [wc dp];exact hd,by lia⟩,?_⟩
  have:i=cs.length:=by lia
  subst this
  rw [dc]
  exact k p np
theorem for_di {d:Aj}{o:Obj}{cs:List (Key×V)}{g:TG}{tb:TS}{D:Ends}{σ:St}{H:Hp}(Pv:Nat→St→Hp→Prop)(h0:Pv 0 σ H)(hl:∀i σ H,i≤cs.length→Pv i σ H→H d=some (.frz o (.dK cs)))
  (hs:∀i c q σ H,cs[i]?=some c→H q=none→Pv i σ H→g (.ref q) σ (upd H q (.tup [kV c.1,c.2])) λσ2 H2=>tb { D with nx:=Pv (i+1),ct:=Pv (i+1),bk:=D.nx } σ2 H2) (hd:∀σ H,Pv cs.length σ H→D.nx σ H) :
  ∃W:Nat→Nat→St→Hp→Prop,(∃m,W 0 m σ H)∧∀i m σ H,W i m σ H →
   ((ItDI d o cs).stop i H∧D.nx σ H)∨((ItDI d o cs).go i H∧∃N:St→Hp→Prop,(∀σ' H',N σ' H'→∃m',m'<m∧W (i+1) m' σ' H')∧∀x H',(ItDI d o cs).yld i H x H'→g x σ H' λσ2 H2=>tb { D with nx:=N,ct:=N,bk:=D.nx } σ2 H2):=by
 refine ⟨λi m σ H=>m=cs.length-i∧i≤cs.length∧Pv i σ H,⟨cs.length,by simp,aB _,h0⟩,?_⟩
 rintro i m σ H ⟨rfl,hi,p⟩
 have q:=hl i σ H hi p
 by_cases hlt:i<cs.length
 ·refine .inr ⟨⟨q,hlt⟩,Pv (i+1),λσ' H' p'=>⟨cs.length-(i+1),by lia,rfl,hlt,p'⟩,?_⟩
  rintro x H' ⟨z,c,nz,rfl,ec,rfl⟩
  exact hs i c z σ H ec nz p
 ·have e:i=cs.length:=by lia
  subst e
  exact .inl ⟨⟨q,af _⟩,hd σ H p⟩
def ex1 (R:List (Key×V))(c:Key×V):List (Key×V):=if c.2=.non then qqb R c.1 else zf R c.1 c.2
def exK (R cs:List (Key×V)):List (Key×V):=cs.foldl ex1 R
def bfK (R cs:List (Key×V)):List (Key×V):=cs.map λc=>(c.1,(xv R c.1).getD .non)
def ExOk (R cs:List (Key×V)):Prop:=∀(i:Nat) c,cs[i]?=some c→c.2=.non→(xv (exK R (cs.take i)) c.1).isSome=true
theorem wxk (R:List (Key×V)){cs:List (Key×V)}{i:Nat}{c:Key×V}(h:cs[i]?=some c):exK R (cs.take (i+1))=ex1 (exK R (cs.take i)) c:=by
 unfold exK
 rw [dU,h,List.foldl_append]
 rfl
theorem ww4 (R:List (Key×V))(c:Key×V):(ex1 R c).length≤R.length+1:=by
 unfold ex1
 split
 ·have:=qxm R c.1
  lia
 ·exact v3 R c.1 c.2
theorem wxs (R cs:List (Key×V)):(exK R cs).length≤R.length+cs.length:=by
 induction cs generalizing R with
 |nil=>exact af _
 |cons c cs ih =>
  have h1:=ih (ex1 R c)
  have h2:=ww4 R c
  show (exK (ex1 R c) cs).length≤_
  rw [aQ]
  lia
def Kb (ch:List Aj)(H H':Hp):Prop:=∀b o,b∉ch→H b=some o→H' b=some o
section
variable {X:Cx}{C:Aj}{x:Str}{k:Nat}{sp:Sp}{E:St→XK}{p pos:Pos}
theorem qk9 (c:CCal X.prog X.w X.K X.mg X.base x C k sp)(hr:Room (k+1) X.A)(hg:Gl X x)(hx:k7 X E)(hdb:(x==("__debug__" : Str))=false:=by decide) :
  PE X (.Call (.Name x p) [] [] pos) (qv0 C sp E Jc):=by
 obtain ⟨f,fd,ps,hm,M,F,b⟩:=c.ex
 intro pins s σ H Q I h
 refine ca (Qy I hg hm ?_ hdb)
 exact PySem.W.callWith_K0 I.kIn M.kp (J3 (us:=[]) M F hr b hx I .nil h)
end
theorem Kb.rd {ch:List Aj}{H H':Hp}(k:Kb ch H H'){d:Aj}{kvs:List (Key×V)}(n:d∉ch)(h:Rd H d (.dK kvs)):Rd H' d (.dK kvs):=by
 rcases h with h|⟨o,h⟩
 ·exact .inl (k _ _ n h)
 ·exact .inr ⟨o,k _ _ n h⟩
theorem Kb.trans {ch:List Aj}{H H' H'':Hp}(a:Kb ch H H')(b:Kb ch H' H''):Kb ch H H'':=λc o n e=>b c o n (a c o n e)
theorem Kb.of {ch:List Aj}{H H':Hp}(s:Same H H'):Kb ch H H':=λc o _ e=>s c o e
theorem for_en {K:Aa}{a:Aj}{xs:List V}{g:TG}{tb:TS}{D:Ends}{σ:St}{H:Hp}(Pv:Nat→St→Hp→Prop)(h0:Pv 0 σ H)(hl:∀i σ H,i≤xs.length→Pv i σ H→SqL K H a xs)
  (hs:∀i x q σ H,xs[i]?=some x→H q=none→Pv i σ H→g (.ref q) σ (upd H q (.tup [.int (i:Nat),x])) λσ2 H2=>tb { D with nx:=Pv (i+1),ct:=Pv (i+1),bk:=D.nx } σ2 H2) (hd:∀σ H,Pv xs.length σ H→D.nx σ H) :
  ∃W:Nat→Nat→St→Hp→Prop,(∃m,W 0 m σ H)∧∀i m σ H,W i m σ H →
   ((ItE K a xs).stop i H∧D.nx σ H)∨((ItE K a xs).go i H∧∃N:St→Hp→Prop,(∀σ' H',N σ' H'→∃m',m'<m∧W (i+1) m' σ' H')∧∀x H',(ItE K a xs).yld i H x H'→g x σ H' λσ2 H2=>tb { D with nx:=N,ct:=N,bk:=D.nx } σ2 H2):=by
 refine ⟨λi m σ H=>m=xs.length-i∧i≤xs.length∧Pv i σ H,⟨xs.length,by simp,aB _,h0⟩,?_⟩
 rintro i m σ H ⟨rfl,hi,p⟩
 have q:=hl i σ H hi p
 by_cases hlt:i<xs.length
 ·refine .inr ⟨⟨q,hlt⟩,Pv (i+1),λσ' H' p'=>⟨xs.length-(i+1),by lia,rfl,hlt,p'⟩,?_⟩
  rintro x H' ⟨z,c,nz,rfl,ec,rfl⟩
  exact hs i c z σ H ec nz p
 ·have e:i=xs.length:=by lia
  subst e
  exact .inl ⟨⟨q,af _⟩,hd σ H p⟩
end L2
namespace L2
open PySem PySem.Spec PyProof.Rows
theorem ht_gen {o:Expr}{m:Str}{apos pos:Pos}{e:Expr}{es:List Expr}{env:Env}(hb:attributeBase o m env (eval o env)=eval o env)(hf:methodCallForm ((e::es).length+0) (backTo pos (starEach (e::es) env)) (backToKw pos (keywordEach [] env))=true)(hp:methodCallPos true o env apos pos=pure pos) :
  eval (.Call (.Attribute o m apos) (e::es) [] pos) env=(do
   let ov ←eval o env
   standAt apos.atName
   let (f,first) ←holding [ov] (getMethod ov m (do return (←importBound o env).getD true))
   callWith pos f first (backTo pos (starEach (e::es) env)) (backToKw pos (keywordEach [] env))):=by
 rw [arm_eval_Call,hb]
 unfold methodCall
 rw [show (e::es).length+([]:List Keyword).length=(e::es).length+0 from rfl,hf,hp]
 rfl
section
variable {X:Cx}{C:Aj}{x m:Str}{k:Nat}{sp:Sp}{E:St→XK}{p pos apos:Pos}{e o:Expr}{es:List Expr}{ta te:TE}{t:TA}
theorem xy {v j p'}(ha:PE X (.Constant v j p') te)(hr:PA X es t):PA X (.Constant v j p'::es) (v4 te t):=xh ha hr rfl
theorem ww {v p'}(ha:PE X (.Name v p') te)(hr:PA X es t):PA X (.Name v p'::es) (v4 te t):=xh ha hr rfl
theorem qzg {v j p'}(ha:PE X (.Tuple v j p') te)(hr:PA X es t):PA X (.Tuple v j p'::es) (v4 te t):=xh ha hr rfl
theorem jj {a b c p'}(ha:PE X (.Call a b c p') te)(hr:PA X es t):PA X (.Call a b c p'::es) (v4 te t):=xh ha hr rfl
theorem zj {a b c p'}(ha:PE X (.BinOp a b c p') te)(hr:PA X es t):PA X (.BinOp a b c p'::es) (v4 te t):=xh ha hr rfl
theorem zv {a b p'}(ha:PE X (.Subscript a b p') te)(hr:PA X es t):PA X (.Subscript a b p'::es) (v4 te t):=xh ha hr rfl
def qq4:List Expr→Bool
 |[]=>true
 |.Starred _ _::_=>false
 |_::r=>qq4 r
theorem Qr {env:Env}:∀ {es:List Expr},qq4 es=true→starEach es env=es.map λe=>(false,eval e env)
 |[],_=>rfl
 |e::r,h=>by
  cases e
  case Starred=>cases h
  all_goals exact bB _ (Qr (es:=r) h)
theorem Q0 {pos:Pos}:∀ {l:List (Bool×Sem Ag)},(∀q∈l,q.1=false)→(backTo pos l).all (!·.1)=true∧(backTo pos l).any (·.1)=false:=by
 intro l h
 have key:∀q∈backTo pos l,q.1=false:=by
  intro q hq
  unfold backTo at hq
  obtain ⟨q',hq',rfl⟩:=aN.mp hq
  exact h q' hq'
 exact ⟨bq.mpr λq hq=>by rw [key q hq];rfl,List.any_eq_false.mpr λq hq=>by rw [key q hq];decide⟩
theorem xb (he:PE X o ta)(cl:Cls X.K C)(c:MCal X.prog X.w X.K X.mg X.base C m k sp)(hr:Room k X.A)(hx:k7 X E)(ha:PA X (e::es) t)(hn:qq4 (e::es)=true:=by rfl)(hl:(e::es).length+0<30:=by decide)
  (hb:∀z,attributeBase o m X.env z=z:=by intro _;rfl) (hp:methodCallPos true o X.env apos pos=pure pos:=by rfl):PE X (.Call (.Attribute o m apos) (e::es) [] pos) (Zn C m sp E ta t):=by
 have h1:starEach (e::es) X.env=(false,eval e X.env)::starEach es X.env:=by
  cases e
  case Starred=>cases hn
  all_goals rfl
 have h2:∀q∈starEach (e::es) X.env,q.1=false:=λq hq=>by
  rw [Qr hn] at hq
  obtain ⟨z,_,rfl⟩:=aN.mp hq
  rfl
 refine wqw he cl c hr hx ha h1 (Q0 λq hq=>h2 q (by rw [h1];exact bc _ hq)).2 (ht_gen (hb _) ?_ hp)
 unfold methodCallForm
 rw [(Q0 (pos:=pos) h2).1]
 exact aP hl
theorem wm (c:Cal X.prog X.w X.K X.mg X.base x k sp)(hr:Room k X.A)(hg:Gl X x)(hx:k7 X E)(ha:PA X (e::es) t)(hn:qq4 (e::es)=true:=by rfl)(hdb:(x==("__debug__" : Str))=false:=by decide):PE X (.Call (.Name x p) (e::es) [] pos) (Yg sp E t):=by
 have h1:starEach (e::es) X.env=(false,eval e X.env)::starEach es X.env:=by
  cases e
  case Starred=>cases hn
  all_goals rfl
 have h2:∀q∈starEach (e::es) X.env,q.1=false:=λq hq=>by
  rw [Qr hn] at hq
  obtain ⟨z,_,rfl⟩:=aN.mp hq
  rfl
 exact Z3 c hr hg hx ha hdb h1 (Q0 λq hq=>h2 q (by rw [h1];exact bc _ hq)).2
end
end L2
namespace L2
open PySem PySem.Spec PyProof.Rows
def rSlS:V→Option Int→Option Int→Hp→VK→Prop:=λx lo hi H Q=>∃z,x=.str z∧z.length≤sizeLine∧Q (.str (Txt.slice z lo hi)) H
theorem sl_str {X:Cx}:SlR X rSlS:=by
 intro pins s σ H x v vl vu lo hi sl Q I rx hs pl pu h
 obtain ⟨z,rfl,hz,q⟩:=h
 obtain ⟨t,rfl⟩:=rx
 have fin:∀t' k,EP X pins σ Q (.str (Txt.slice z lo hi) t') { s with toks:=k }:=λt' k=>⟨.str (Txt.slice z lo hi),H,I.tok _,⟨_,rfl⟩,q⟩
 have le:=br (Txt.slice_le z lo hi) hz
 obtain ⟨o,ho,hc,hd⟩:=hs
 refine ⟨"str",_,F.slot_str_getitem.lookup,typeIs_str _ _ _,?_⟩
 cases pl with
 |none =>
  cases pu with
  |none=>exact bZ (l:=none) (u:=none) (st:=none) ⟨o,ho,hc,hd⟩ rfl (du ⟨le,fin⟩)
  |int j uj=>exact bZ (l:=none) (u:=some (j,uj)) (st:=none) ⟨o,ho,hc,hd⟩ rfl (du ⟨le,fin⟩)
 |int i ui =>
  cases pu with
  |none=>exact bZ (l:=some (i,ui)) (u:=none) (st:=none) ⟨o,ho,hc,hd⟩ rfl (du ⟨le,fin⟩)
  |int j uj=>exact bZ (l:=some (i,ui)) (u:=some (j,uj)) (st:=none) ⟨o,ho,hc,hd⟩ rfl (du ⟨le,fin⟩)
end L2
namespace My
open PySem L2
def top (i:Nat):Stmt:=PySem.Challenge.pw_crookroad_k50_whole_goings.main.body.getD i (.Pass ⟨0,0,0,0⟩)
abbrev s_check_count:Stmt:=top 14
theorem Yy:FnScope ["number","fewest","most"] ["number","fewest","most"] (wb s_check_count):=⟨rfl,rfl,rfl,by decide +kernel,rfl,by decide +kernel,by decide +kernel⟩
theorem Zr:Qc "check_count" s_check_count ["number","fewest","most"] []:=λ_ _ _ _ _ _ _ us hl=>match us,hl with | [_,_,_],_=>exI rfl rfl
theorem Zc:Qc "check_count" s_check_count ["number","fewest","most"] [.none]:=λ_ _ _ _ _ _ _ us hl=>by
 have h2:us.length=2:=by simpa using hl
 match us,h2 with
 |[_,_],_=>exact exI rfl rfl
abbrev s_check_bottom:Stmt:=top 16
theorem Wm:FnScope ["bottom"] ["bottom"] (wb s_check_bottom):=⟨rfl,rfl,rfl,by decide +kernel,rfl,by decide +kernel,by decide +kernel⟩
theorem Wn:zx "check_bottom" s_check_bottom ["bottom"]:=λ_ _ _ _ _ _ us hl=>match us,hl with | [_],_=>rfl
abbrev s_common_divisor:Stmt:=top 17
theorem um:FnScope ["one","other"] ["one","other"] (wb s_common_divisor):=⟨rfl,rfl,rfl,by decide +kernel,rfl,by decide +kernel,by decide +kernel⟩
theorem Qn:zx "common_divisor" s_common_divisor ["one","other"]:=λ_ _ _ _ _ _ us hl=>match us,hl with | [_,_],_=>rfl
abbrev s_lowest:Stmt:=top 18
theorem qjt:FnScope ["top","bottom","divisor"] ["top","bottom"] (wb s_lowest):=⟨rfl,rfl,rfl,by decide +kernel,rfl,by decide +kernel,by decide +kernel⟩
theorem qj0:zx "lowest" s_lowest ["top","bottom"]:=λ_ _ _ _ _ _ us hl=>match us,hl with | [_,_],_=>rfl
abbrev s_trace:Stmt:=top 22
theorem wq9:FnScope ["road","start","places","here"] ["road","start"] (wb s_trace):=⟨rfl,rfl,rfl,by decide +kernel,rfl,by decide +kernel,by decide +kernel⟩
theorem qyh:zx "trace" s_trace ["road","start"]:=λ_ _ _ _ _ _ us hl=>match us,hl with | [_,_],_=>rfl
abbrev s_spot:Stmt:=top 23
theorem wwr:FnScope ["points","turn","many"] ["points","turn","many"] (wb s_spot):=⟨rfl,rfl,rfl,by decide +kernel,rfl,by decide +kernel,by decide +kernel⟩
theorem wxh:zx "spot" s_spot ["points","turn","many"]:=λ_ _ _ _ _ _ us hl=>match us,hl with | [_,_,_],_=>rfl
abbrev s_led_to:Stmt:=top 24
theorem qyz:FnScope ["place","turn","size","many","times"] ["place","turn","size","many"] (wb s_led_to):=⟨rfl,rfl,rfl,by decide +kernel,rfl,by decide +kernel,by decide +kernel⟩
theorem qjq:zx "led_to" s_led_to ["place","turn","size","many"]:=λ_ _ _ _ _ _ us hl=>match us,hl with | [_,_,_,_],_=>rfl
abbrev s_is_line:Stmt:=top 27
theorem qzp:FnScope ["heights","width"] ["heights"] (wb s_is_line):=⟨rfl,rfl,rfl,by decide +kernel,rfl,by decide +kernel,by decide +kernel⟩
theorem qvv:zx "is_line" s_is_line ["heights"]:=λ_ _ _ _ _ _ us hl=>match us,hl with | [_],_=>rfl
abbrev s_Road___init__:Stmt:=zc (top 28) 0
theorem Q5:FnScope ["self","heights"] ["self","heights"] (wb s_Road___init__):=⟨rfl,rfl,rfl,by decide +kernel,rfl,by decide +kernel,by decide +kernel⟩
theorem Wq:zk "__init__" "Road.__init__" s_Road___init__ ["self","heights"]:=λ_ _ _ _ _ _ us hl=>match us,hl with | [_,_],_=>rfl
abbrev s_Road_width:Stmt:=zc (top 28) 1
theorem Jj:FnScope ["self"] ["self"] (wb s_Road_width):=⟨rfl,rfl,rfl,by decide +kernel,rfl,by decide +kernel,by decide +kernel⟩
theorem Jx:zk "width" "Road.width" s_Road_width ["self"]:=λ_ _ _ _ _ _ us hl=>match us,hl with | [_],_=>rfl
abbrev s_Road_ends:Stmt:=zc (top 28) 3
theorem qw4:FnScope ["self","stretch"] ["self","stretch"] (wb s_Road_ends):=⟨rfl,rfl,rfl,by decide +kernel,rfl,by decide +kernel,by decide +kernel⟩
theorem qq6:zk "ends" "Road.ends" s_Road_ends ["self","stretch"]:=λ_ _ _ _ _ _ us hl=>match us,hl with | [_,_],_=>rfl
abbrev s_Road_on_road:Stmt:=zc (top 28) 6
theorem Wp:FnScope ["self","point","top","bottom"] ["self","point"] (wb s_Road_on_road):=⟨rfl,rfl,rfl,by decide +kernel,rfl,by decide +kernel,by decide +kernel⟩
theorem Wf:zk "on_road" "Road.on_road" s_Road_on_road ["self","point"]:=λ_ _ _ _ _ _ us hl=>match us,hl with | [_,_],_=>rfl
abbrev s_Road_at:Stmt:=zc (top 28) 7
theorem qv1:FnScope ["self","point","top","bottom","stretch","left","right","beyond"] ["self","point"] (wb s_Road_at):=⟨rfl,rfl,rfl,by decide +kernel,rfl,by decide +kernel,by decide +kernel⟩
theorem qvm:zk "at" "Road.at" s_Road_at ["self","point"]:=λ_ _ _ _ _ _ us hl=>match us,hl with | [_,_],_=>rfl
abbrev s_Walker___init__:Stmt:=zc (top 30) 0
theorem y9:FnScope ["self","whose","point","times"] ["self","whose","point","times"] (wb s_Walker___init__):=⟨rfl,rfl,rfl,by decide +kernel,rfl,by decide +kernel,by decide +kernel⟩
theorem uk:zk "__init__" "Walker.__init__" s_Walker___init__ ["self","whose","point","times"]:=λ_ _ _ _ _ _ us hl=>match us,hl with | [_,_,_,_],_=>rfl
abbrev s_Walker_gone:Stmt:=zc (top 30) 1
theorem Z5:FnScope ["self","road","many","points","turn","times","place","point","led"] ["self","road","many"] (wb s_Walker_gone):=⟨rfl,rfl,rfl,by decide +kernel,rfl,by decide +kernel,by decide +kernel⟩
theorem Yr:zk "gone" "Walker.gone" s_Walker_gone ["self","road","many"]:=λ_ _ _ _ _ _ us hl=>match us,hl with | [_,_,_],_=>rfl
abbrev s_set_down:Stmt:=top 31
theorem qzh:FnScope ["whose","point"] ["whose","point"] (wb s_set_down):=⟨rfl,rfl,rfl,by decide +kernel,rfl,by decide +kernel,by decide +kernel⟩
theorem qzq:zx "set_down" s_set_down ["whose","point"]:=λ_ _ _ _ _ _ us hl=>match us,hl with | [_,_],_=>rfl
abbrev s_is_name:Stmt:=top 36
theorem qvp:FnScope ["name"] ["name"] (wb s_is_name):=⟨rfl,rfl,rfl,by decide +kernel,rfl,by decide +kernel,by decide +kernel⟩
theorem qvq:zx "is_name" s_is_name ["name"]:=λ_ _ _ _ _ _ us hl=>match us,hl with | [_],_=>rfl
abbrev s_check_new_name:Stmt:=top 37
theorem u7:FnScope ["name","things"] ["name","things"] (wb s_check_new_name):=⟨rfl,rfl,rfl,by decide +kernel,rfl,by decide +kernel,by decide +kernel⟩
theorem Qh:zx "check_new_name" s_check_new_name ["name","things"]:=λ_ _ _ _ _ _ us hl=>match us,hl with | [_,_],_=>rfl
abbrev s_exchange:Stmt:=top 38
theorem qx1:FnScope ["things","changes","before","name","thing"] ["things","changes"] (wb s_exchange):=⟨rfl,rfl,rfl,by decide +kernel,rfl,by decide +kernel,by decide +kernel⟩
theorem qzc:zx "exchange" s_exchange ["things","changes"]:=λ_ _ _ _ _ _ us hl=>match us,hl with | [_,_],_=>rfl
abbrev s_House___init__:Stmt:=zc (top 39) 0
theorem ut:FnScope ["self"] ["self"] (wb s_House___init__):=⟨rfl,rfl,rfl,by decide +kernel,rfl,by decide +kernel,by decide +kernel⟩
theorem Qb:zk "__init__" "House.__init__" s_House___init__ ["self"]:=λ_ _ _ _ _ _ us hl=>match us,hl with | [_],_=>rfl
abbrev s_House_road_called:Stmt:=zc (top 39) 1
theorem j6:FnScope ["self","name"] ["self","name"] (wb s_House_road_called):=⟨rfl,rfl,rfl,by decide +kernel,rfl,by decide +kernel,by decide +kernel⟩
theorem j8:zk "road_called" "House.road_called" s_House_road_called ["self","name"]:=λ_ _ _ _ _ _ us hl=>match us,hl with | [_,_],_=>rfl
abbrev s_House_walker_called:Stmt:=zc (top 39) 2
theorem jb:FnScope ["self","name"] ["self","name"] (wb s_House_walker_called):=⟨rfl,rfl,rfl,by decide +kernel,rfl,by decide +kernel,by decide +kernel⟩
theorem jp:zk "walker_called" "House.walker_called" s_House_walker_called ["self","name"]:=λ_ _ _ _ _ _ us hl=>match us,hl with | [_,_],_=>rfl
abbrev s_House_walkers_on:Stmt:=zc (top 39) 3
theorem yn:FnScope ["self","whose"] ["self","whose"] (wb s_House_walkers_on):=⟨rfl,rfl,rfl,by decide +kernel,rfl,by decide +kernel,by decide +kernel⟩
theorem yp:zk "walkers_on" "House.walkers_on" s_House_walkers_on ["self","whose"]:=λ_ _ _ _ _ _ us hl=>match us,hl with | [_,_],_=>rfl
abbrev s_House_do:Stmt:=zc (top 39) 4
theorem qx8:FnScope ["self","roads","walkers"] ["self","roads","walkers"] (wb s_House_do):=⟨rfl,rfl,rfl,by decide +kernel,rfl,by decide +kernel,by decide +kernel⟩
theorem qzv:zk "do" "House.do" s_House_do ["self","roads","walkers"]:=λ_ _ _ _ _ _ us hl=>match us,hl with | [_,_,_],_=>rfl
abbrev s_House_lay:Stmt:=zc (top 39) 5
theorem qwg:FnScope ["self","name","heights"] ["self","name","heights"] (wb s_House_lay):=⟨rfl,rfl,rfl,by decide +kernel,rfl,by decide +kernel,by decide +kernel⟩
theorem qwt:zk "lay" "House.lay" s_House_lay ["self","name","heights"]:=λ_ _ _ _ _ _ us hl=>match us,hl with | [_,_,_],_=>rfl
abbrev s_House_place:Stmt:=zc (top 39) 10
theorem Yz:FnScope ["self","name","whose","point","road","here"] ["self","name","whose","point"] (wb s_House_place):=⟨rfl,rfl,rfl,by decide +kernel,rfl,by decide +kernel,by decide +kernel⟩
theorem Z9:zk "place" "House.place" s_House_place ["self","name","whose","point"]:=λ_ _ _ _ _ _ us hl=>match us,hl with | [_,_,_,_],_=>rfl
abbrev s_House_go:Stmt:=zc (top 39) 12
theorem qxg:FnScope ["self","name","many","walker","gone"] ["self","name","many"] (wb s_House_go):=⟨rfl,rfl,rfl,by decide +kernel,rfl,by decide +kernel,by decide +kernel⟩
theorem qxy:zk "go" "House.go" s_House_go ["self","name","many"]:=λ_ _ _ _ _ _ us hl=>match us,hl with | [_,_,_],_=>rfl
abbrev s_House_together:Stmt:=zc (top 39) 13
theorem Qw:FnScope ["self","whose","many","road","gone"] ["self","whose","many"] (wb s_House_together):=⟨rfl,rfl,rfl,by decide +kernel,rfl,by decide +kernel,by decide +kernel⟩
theorem u6:zk "together" "House.together" s_House_together ["self","whose","many"]:=λ_ _ _ _ _ _ us hl=>match us,hl with | [_,_,_],_=>rfl
abbrev s_House_deeds:Stmt:=zc (top 39) 16
theorem Zk:FnScope ["self"] ["self"] (wb s_House_deeds):=⟨rfl,rfl,rfl,by decide +kernel,rfl,by decide +kernel,by decide +kernel⟩
theorem Yj:zk "deeds" "House.deeds" s_House_deeds ["self"]:=λ_ _ _ _ _ _ us hl=>match us,hl with | [_],_=>rfl
abbrev s_House_where:Stmt:=zc (top 39) 19
theorem Z4:FnScope ["self","name","walker"] ["self","name"] (wb s_House_where):=⟨rfl,rfl,rfl,by decide +kernel,rfl,by decide +kernel,by decide +kernel⟩
theorem Z8:zk "where" "House.where" s_House_where ["self","name"]:=λ_ _ _ _ _ _ us hl=>match us,hl with | [_,_],_=>rfl
abbrev s__law_cell:Stmt:=top 41
theorem qwv:FnScope ["_law_script","_law_at"] ["_law_script","_law_at"] (wb s__law_cell):=⟨rfl,rfl,rfl,by decide +kernel,rfl,by decide +kernel,by decide +kernel⟩
theorem qw2:zx "_law_cell" s__law_cell ["_law_script","_law_at"]:=λ_ _ _ _ _ _ us hl=>match us,hl with | [_,_],_=>rfl
abbrev s__law_pick:Stmt:=top 42
theorem qq7:FnScope ["_law_script","_law_at","_law_turn","_law_many","_law_cell_here","_law_left","_law_k","_law_low_here","_law_one","_law_two"] ["_law_script","_law_at","_law_turn","_law_many"] (wb s__law_pick):=⟨rfl,rfl,rfl,by decide +kernel,rfl,by decide +kernel,by decide +kernel⟩
theorem qww:zx "_law_pick" s__law_pick ["_law_script","_law_at","_law_turn","_law_many"]:=λ_ _ _ _ _ _ us hl=>match us,hl with | [_,_,_,_],_=>rfl
abbrev s__law_climb:Stmt:=top 43
theorem Jb:FnScope ["_law_script","_law_at","_law_wide","_law_row","_law_k"] ["_law_script","_law_at","_law_wide"] (wb s__law_climb):=⟨rfl,rfl,rfl,by decide +kernel,rfl,by decide +kernel,by decide +kernel⟩
theorem Y2:zx "_law_climb" s__law_climb ["_law_script","_law_at","_law_wide"]:=λ_ _ _ _ _ _ us hl=>match us,hl with | [_,_,_],_=>rfl
abbrev s__law_heights:Stmt:=top 44
theorem Wh:FnScope ["_law_script","_law_at","_law_most","_law_wide","_law_kind"] ["_law_script","_law_at","_law_most"] (wb s__law_heights):=⟨rfl,rfl,rfl,by decide +kernel,rfl,by decide +kernel,by decide +kernel⟩
theorem Wr:zx "_law_heights" s__law_heights ["_law_script","_law_at","_law_most"]:=λ_ _ _ _ _ _ us hl=>match us,hl with | [_,_,_],_=>rfl
abbrev s__law_names:Stmt:=top 45
theorem Y0:FnScope ["_law_script","_law_at","_law_letters","_law_size","_law_place","_law_shift","_law_made","_law_j","_law_name","_law_k","_law_sign"] ["_law_script","_law_at"] (wb s__law_names):=⟨rfl,rfl,rfl,by decide +kernel,rfl,by decide +kernel,by decide +kernel⟩
theorem Jf:zx "_law_names" s__law_names ["_law_script","_law_at"]:=λ_ _ _ _ _ _ us hl=>match us,hl with | [_,_],_=>rfl
abbrev s__law_spot:Stmt:=top 46
theorem qwc:FnScope ["_law_script","_law_at","_law_wide","_law_most","_law_bottom","_law_top","_law_by"] ["_law_script","_law_at","_law_wide","_law_most"] (wb s__law_spot):=⟨rfl,rfl,rfl,by decide +kernel,rfl,by decide +kernel,by decide +kernel⟩
theorem qwj:zx "_law_spot" s__law_spot ["_law_script","_law_at","_law_wide","_law_most"]:=λ_ _ _ _ _ _ us hl=>match us,hl with | [_,_,_,_],_=>rfl
abbrev s__law_step:Stmt:=top 47
theorem qwr:FnScope ["_law_heights_here","_law_top","_law_bottom","_law_k"] ["_law_heights_here","_law_top","_law_bottom"] (wb s__law_step):=⟨rfl,rfl,rfl,by decide +kernel,rfl,by decide +kernel,by decide +kernel⟩
theorem qwy:zx "_law_step" s__law_step ["_law_heights_here","_law_top","_law_bottom"]:=λ_ _ _ _ _ _ us hl=>match us,hl with | [_,_,_],_=>rfl
abbrev s__law_trace:Stmt:=top 48
theorem Y1:FnScope ["_law_heights_here","_law_top","_law_bottom","_law_seen","_law_tops"] ["_law_heights_here","_law_top","_law_bottom"] (wb s__law_trace):=⟨rfl,rfl,rfl,by decide +kernel,rfl,by decide +kernel,by decide +kernel⟩
theorem Jk:zx "_law_trace" s__law_trace ["_law_heights_here","_law_top","_law_bottom"]:=λ_ _ _ _ _ _ us hl=>match us,hl with | [_,_,_],_=>rfl
abbrev s__law_after:Stmt:=top 49
theorem Yt:FnScope ["_law_tops","_law_start","_law_many"] ["_law_tops","_law_start","_law_many"] (wb s__law_after):=⟨rfl,rfl,rfl,by decide +kernel,rfl,by decide +kernel,by decide +kernel⟩
theorem Jy:zx "_law_after" s__law_after ["_law_tops","_law_start","_law_many"]:=λ_ _ _ _ _ _ us hl=>match us,hl with | [_,_,_],_=>rfl
abbrev s__law_whole:Stmt:=top 50
theorem Y3:FnScope ["_law_found"] ["_law_found"] (wb s__law_whole):=⟨rfl,rfl,rfl,by decide +kernel,rfl,by decide +kernel,by decide +kernel⟩
theorem Y8:zx "_law_whole" s__law_whole ["_law_found"]:=λ_ _ _ _ _ _ us hl=>match us,hl with | [_],_=>rfl
abbrev s__law_common:Stmt:=top 51
theorem Zm:FnScope ["_law_one","_law_other"] ["_law_one","_law_other"] (wb s__law_common):=⟨rfl,rfl,rfl,by decide +kernel,rfl,by decide +kernel,by decide +kernel⟩
theorem Yc:zx "_law_common" s__law_common ["_law_one","_law_other"]:=λ_ _ _ _ _ _ us hl=>match us,hl with | [_,_],_=>rfl
abbrev s__law_low:Stmt:=top 52
theorem qxu:FnScope ["_law_top","_law_bottom","_law_by"] ["_law_top","_law_bottom"] (wb s__law_low):=⟨rfl,rfl,rfl,by decide +kernel,rfl,by decide +kernel,by decide +kernel⟩
theorem qxx:zx "_law_low" s__law_low ["_law_top","_law_bottom"]:=λ_ _ _ _ _ _ us hl=>match us,hl with | [_,_],_=>rfl
abbrev s__law_point:Stmt:=top 53
theorem Jz:FnScope ["_law_found"] ["_law_found"] (wb s__law_point):=⟨rfl,rfl,rfl,by decide +kernel,rfl,by decide +kernel,by decide +kernel⟩
theorem Jd:zx "_law_point" s__law_point ["_law_found"]:=λ_ _ _ _ _ _ us hl=>match us,hl with | [_],_=>rfl
abbrev s__law_led:Stmt:=top 54
theorem qzw:FnScope ["_law_heights_here","_law_point_here","_law_many","_law_top","_law_bottom","_law_tops","_law_start"] ["_law_heights_here","_law_point_here","_law_many"] (wb s__law_led):=⟨rfl,rfl,rfl,by decide +kernel,rfl,by decide +kernel,by decide +kernel⟩
theorem qx7:zx "_law_led" s__law_led ["_law_heights_here","_law_point_here","_law_many"]:=λ_ _ _ _ _ _ us hl=>match us,hl with | [_,_,_],_=>rfl
abbrev s_law:Stmt:=top 55
theorem qwf:FnScope ["_law_script","_law_names_here","_law_heights_here","_law_one","_law_two","_law_some","_law_more","_law_house","_law_first","_law_second","_law_third","_law_found","_law_told","_law_left","_law_right","_law_due"] ["_law_script"] (wb s_law):=⟨rfl,rfl,rfl,by decide +kernel,rfl,by decide +kernel,by decide +kernel⟩
local macro_rules | `(tactic| walk_at "sq")=>`(tactic| first | assumption | exact SqT.new | exact SqL.new | ((with_reducible refine Same.sqt (Same.upd (by assumption)) ?_);walk_at "sq") | ((with_reducible refine Same.sql (Same.upd (by assumption)) ?_);walk_at "sq"))
local macro_rules | `(tactic| walk_at "at")=>`(tactic| first | rfl | exact W5 (by lia) (by lia))
local macro_rules | `(tactic| walk_at "mul")=>`(tactic| first | assumption | exact IntMulOk.of_left (intBits_le_64 (by lia) (by lia)) | exact IntMulOk.of_right (intBits_le_64 (by lia) (by lia)) | exact Sm.ok (by assumption) (by assumption) (by decide))
local macro_rules | `(tactic| walk_at "pos")=>`(tactic| first | lia | decide +kernel)
local macro_rules | `(tactic| walk_at "div")=>`(tactic| exact ⟨by first | lia | decide +kernel,by unfold Sm;decide +kernel⟩)
local macro_rules | `(tactic| walk_at "loc")=>`(tactic| first | exact Or.inl rfl | exact Or.inr rfl)
local macro_rules | `(tactic| walk_at "cap")=>`(tactic| repeat (first | exact trivial | refine ⟨rfl,?_⟩))
local macro_rules | `(tactic| walk_at "has")=>`(tactic| repeat (first | exact trivial | (refine ⟨λz=>?_,by decide,?_⟩;(first | exact ⟨_,rfl⟩ | cases z))))
local macro_rules | `(tactic| walk_at "cix")=>`(tactic| repeat (first | exact trivial | refine ⟨⟨_,_,rfl,rfl,rfl,rfl⟩,?_⟩))
local macro_rules | `(tactic| walk_at "hasK")=>`(tactic| repeat (first | exact trivial | (refine ⟨λz=>?_,λz=>?_,?_⟩;(first | exact ⟨_,rfl⟩ | cases z);(first | rfl | cases z))))
structure Txt (K:Aa)(mg:Str→Option Ag)(qc:Aj)(qr:Aj)(qx:Aj)(qm:Aj)(qu:Aj)(wq:Aj)(wy:Aj)(qh:Aj)(wf:Aj)(wx:Aj)(qj:Aj)(qp:Aj)(qw:Aj)(qq:Aj):Prop where
 len_:mg "len" = none
 abs_:mg "abs" = none
 range_:mg "range" = none
 list_:mg "list" = none
 min_:mg "min" = none
 max_:mg "max" = none
 all_:mg "all" = none
 any_:mg "any" = none
 sorted_:mg "sorted" = none
 enumerate_:mg "enumerate" = none
 dict_:mg "dict" = none
 isinstance_:mg "isinstance" = none
 int_:mg "int" = none
 bool_:mg "bool" = none
 tuple_:mg "tuple" = none
 g_RoadError:mg "RoadError" = some (.ref qc)
 x_RoadError:ExcC K qc
 g_BadLine:mg "BadLine" = some (.ref qr)
 x_BadLine:ExcC K qr
 g_BadBottom:mg "BadBottom" = some (.ref qx)
 x_BadBottom:ExcC K qx
 g_OffRoad:mg "OffRoad" = some (.ref qm)
 x_OffRoad:ExcC K qm
 g_BadCount:mg "BadCount" = some (.ref qu)
 x_BadCount:ExcC K qu
 g_TooLong:mg "TooLong" = some (.ref wq)
 x_TooLong:ExcC K wq
 g_BadRow:mg "BadRow" = some (.ref wy)
 x_BadRow:ExcC K wy
 g_BadName:mg "BadName" = some (.ref qh)
 x_BadName:ExcC K qh
 g_Taken:mg "Taken" = some (.ref wf)
 x_Taken:ExcC K wf
 g_NoRoad:mg "NoRoad" = some (.ref wx)
 x_NoRoad:ExcC K wx
 g_NoWalker:mg "NoWalker" = some (.ref qj)
 x_NoWalker:ExcC K qj
 cl:Cls K qp
 na:NoAttr K qp "heights"
 g_WIDEST:∃t,mg "WIDEST" = some (.int 24 t)
 g_Road:mg "Road" = some (.ref qp)
 clW:Cls K qw
 clH:Cls K qq
 naWw:NoAttr K qw "whose"
 naWp:NoAttr K qw "point"
 naWt:NoAttr K qw "times"
 naHr:NoAttr K qq "roads"
 naHw:NoAttr K qq "walkers"
 naHd:NoAttr K qq "done"
 g_Walker:mg "Walker" = some (.ref qw)
 g_House:mg "House" = some (.ref qq)
 g_LONGEST_TRACE:∃t,mg "LONGEST_TRACE" = some (.int 1000 t)
 g_FARTHEST:∃t,mg "FARTHEST" = some (.int 1000000000000000000000000000000000000000000000000000000000000 t)
 g_LONGEST_NAME:∃t,mg "LONGEST_NAME" = some (.int 12 t)
 g_GREATEST_BOTTOM:∃t,mg "GREATEST_BOTTOM" = some (.int 40 t)
 g_LETTERS:∃t,mg "LETTERS" = some (.str "abcdefghijklmnopqrstuvwxyz" t)
section
variable {P:Ac}{w:Ah}{K:Aa}{mg:Str→Option Ag}{base:Heap}{qc:Aj}{qr:Aj}{qx:Aj}{qm:Aj}{qu:Aj}{wq:Aj}{wy:Aj}{qh:Aj}{wf:Aj}{wx:Aj}{qj:Aj}{qp:Aj}{qw:Aj}{qq:Aj}
def qqg (C:Aj):Sp:=λvs H Q E=>∃b:Int,vs=[.int b]∧(1≤b→Q .non H)∧(b<1→E (.ref C) none H)
theorem wq3 {f:Aj}{fd:Ad}(F:Fun K "check_bottom" "check_bottom" s_check_bottom f fd)(T:Txt K mg qc qr qx qm qu wq wy qh wf wx qj qp qw qq):FnOk P w K mg base (CXE P w) 1 f fd ["bottom"] (qqg qx):=by
 have sc:=Wm
 refine F.okX sc (λvs H Q E h=>by obtain ⟨b,rfl,_⟩:=h;rfl) (λcdv A outer s H vs Q E hr h=>?_)
 obtain ⟨b,rfl,h1,h2⟩:=h
 refine ⟨_,(wj (x9 (w6 jr (pv 0) qy (w9 _)) (wj (z0 rfl T.x_BadBottom zu rfl T.g_BadBottom (xy vp qz))) xx)),?_⟩
 refine exI rfl (wr rfl rfl (exI rfl ?_))
 refine ku (λq1=>?_) (λq1=>?_)
 ·exact ⟨by decide,h2 q1⟩
 ·exact h1 (by lia)
theorem wx5 {f:Aj}{fd:Ad}(F:Fun K "_law_cell" "_law_cell" s__law_cell f fd)(T:Txt K mg qc qr qx qm qu wq wy qh wf wx qj qp qw qq):FnOk P w K mg base (CXE P w) 1 f fd ["_law_script","_law_at"] (qwd K):=by
 have sc:=qwv
 refine F.okX sc (λvs H Q E h=>by obtain ⟨a,ns,i,rfl,_⟩:=h;rfl) (λcdv A outer s H vs Q E hr h=>?_)
 obtain ⟨a,ns,i,rfl,hS,h0,k⟩:=h
 have hlen:(ns.map V.int).length=ns.length:=ae _
 refine ⟨_,(qk (x9 (w6 jr (pv 1) (xq xf rfl T.len_ aM (ww (pv 0) qz)) (w9 _)) (wj (w8 (xm xk (pv 0) (pv 1) (λ_ _=>rfl)))) xx)
   (qk (x9 (w6 kh (xq xf rfl T.len_ aM (ww (pv 0) qz)) qy (w9 _)) (wj (w8 (wg xz (wg xg qy (pv 1)) qy))) xx)
   (wj (w8 (wg xz (xm xk (pv 0) (wg zm (pv 1) (xq xf rfl T.len_ aM (ww (pv 0) qz))) (λ_ _=>rfl)) (wg xg qy (pv 1))))))),?_⟩
 refine exI rfl (exI rfl ⟨_,_,rfl,.inl hS,wr rfl rfl (exI rfl ?_)⟩)
 refine ku (λq1=>?_) (λq1=>?_)
 ·rw [hlen] at q1
  refine exI rfl (exI rfl (exX rfl rfl hS (W5 h0 q1) ?_))
  exact k _ (by rw [qw9,ak q1])
 ·rw [hlen] at q1
  refine exI rfl ⟨_,_,rfl,.inl hS,rfl,_,rfl,?_⟩
  rw [hlen]
  refine k8 (λq2=>?_) (λq2=>?_)
  ·refine exI rfl (wr rfl rfl ⟨(by walk_at "mul"),wr rfl rfl ?_⟩)
   exact k _ (by rw [qw9,aj q1,ak q2])
  ·refine exI rfl (exI rfl (exI rfl ⟨_,_,rfl,.inl hS,wr rfl rfl ⟨(by rw [hlen];lia),?_⟩⟩))
   rw [hlen]
   refine exX rfl rfl hS (W5 (aR _ q2) (aS _ (by lia))) (exI rfl (wr rfl rfl ⟨(by walk_at "mul"),wr rfl rfl ?_⟩))
   exact k _ (by rw [qw9,aj q1,aj q2])
theorem wxb {f:Aj}{fd:Ad}(F:Fun K "_law_pick" "_law_pick" s__law_pick f fd)(T:Txt K mg qc qr qx qm qu wq wy qh wf wx qj qp qw qq)(c__law_cell:Cal P w K mg base "_law_cell" 1 (qwd K)):FnOk P w K mg base (CXE P w) 2 f fd ["_law_script","_law_at","_law_turn","_law_many"] (yx K):=by
 have sc:=qq7
 refine F.okX sc (λvs H Q E h=>by obtain ⟨a,ns,i,t,m,rfl,_⟩:=h;rfl) (λcdv A outer s H vs Q E hr h=>?_)
 obtain ⟨a,ns,i,t,m,rfl,hS,h0,t0,t1,m0,k⟩:=h
 refine ⟨_,(qk (wt (i:=4) sc.nd rfl (by walk_at "loc") (wm c__law_cell (hr.mono (by decide)) rfl qf (ww (pv 0) (ww (pv 1) qz))))
   (qk (x9 (w6 wwj (xq j4 rfl T.abs_ j3 (ww (pv 4) qz)) (wg qkq qy qy) (w9 _)) (qk (wt (i:=5) sc.nd rfl (by walk_at "loc") (xq j4 rfl T.abs_ j3 (ww (pv 4) qz)))
   (qk (uz aY rfl (vz rfl T.range_ (ww (pv 2) qz)) (xp (i:=6) sc.nd rfl (by walk_at "loc")) (wj (wt (i:=5) sc.nd rfl (by walk_at "loc") (wg v5 (pv 5) qy))))
   (qk (x9 (w6 jr (pv 4) qy (w9 _)) (wj (wt (i:=5) sc.nd rfl (by walk_at "loc") (wg zm (pv 5) qy))) xx)
   (wj (w8 (wg zm (pv 5) (pv 3))))))) xx)
   (qk (wt (i:=7) sc.nd rfl (by walk_at "loc") (wg zm (pv 4) qy))
   (qk (wt (i:=8) sc.nd rfl (by walk_at "loc") (wg zm (wg xz (wg xz (wg xg (pv 7) qy) (wg xg (pv 2) qy)) qy) qy))
   (qk (wt (i:=9) sc.nd rfl (by walk_at "loc") (wg zm (wg xz (wg xz (wg xg (pv 8) (pv 8)) (wg xg (pv 7) qy)) (wg xg (pv 2) qy)) qy))
   (wj (w8 (wg zm (wg zm (wg xz (wg xz (wg xg (pv 9) (pv 9)) (wg xg (pv 8) qy)) (wg xg (pv 2) qy)) qy) (pv 3))))))))),?_⟩
 refine exI rfl (exI rfl ?_)
 refine ⟨a,ns,i,rfl,hS,h0,λc hc=>?_⟩
 have fin:∀v,v=qx6 c t%m→Q (.int v) H:=λv hv=>by
  refine k v (by rw [hv,qx0,hc]) ?_ ?_
  ·rw [hv];exact aR _ (by lia)
  ·rw [hv];exact aS _ m0
 refine exI rfl (exI rfl (wr rfl rfl ⟨⟨by decide,by decide,by decide⟩,wr rfl rfl (exI rfl ?_)⟩))
 refine ku (λq1=>?_) (λq1=>?_)
 ·have q1':10 ^ 18≤ju c:=q1
  refine exI rfl (exI rfl ?_)
  refine exI rfl ⟨t,rfl,(by lia),(by lia),yg (λj σ H1=>H1=H∧∃z,σ=[some (.ref a),some (.int i),some (.int t),some (.int m),some (.int c),some (.int (divs (ju c) j)),z,none,none,none]) ⟨rfl,_,rfl⟩ ?_ ?_⟩
  ·rintro j σ H1 hj ⟨rfl,z,rfl⟩
   exact exI rfl (wr rfl rfl ⟨(by walk_at "div"),rfl,_,rfl⟩)
  ·rintro σ H1 ⟨rfl,z,rfl⟩
   refine exI rfl (wr rfl rfl (exI rfl ?_))
   refine ku (λq2=>?_) (λq2=>?_)
   ·refine exI rfl (wr rfl rfl ⟨(by walk_at "pos"),exI rfl (exI rfl (wr rfl rfl ⟨(by walk_at "pos"),?_⟩))⟩)
    exact fin _ (by rw [qy7 q1' q2])
   ·refine exI rfl (exI rfl (wr rfl rfl ⟨(by walk_at "pos"),?_⟩))
    exact fin _ (by rw [qjc q1' q2])
 ·have q1':¬ 10 ^ 18≤ju c:=q1
  have l0:=aR c (show (1000003:Int)≠0 by decide)
  have l1:=aS c (show (0:Int)<1000003 by decide)
  refine exI rfl (wr rfl rfl ⟨(by walk_at "pos"),exI rfl (wr rfl rfl ⟨(by walk_at "mul"),exI rfl (wr rfl rfl ⟨(by walk_at "mul"),wr rfl rfl (wr rfl rfl (wr rfl rfl ⟨(by walk_at "pos"),?_⟩))⟩)⟩)⟩)
  have o0:0≤qq0 c t:=aR _ (by decide)
  have o1:qq0 c t<999983:=aS _ (by decide)
  refine ⟨V.int (qq0 c t),rfl,V.int (qq0 c t),rfl,wr rfl rfl ⟨(by walk_at "mul"),exI rfl (wr rfl rfl ⟨(by walk_at "mul"),wr rfl rfl (exI rfl (wr rfl rfl ⟨(by walk_at "mul"),wr rfl rfl (wr rfl rfl ⟨(by walk_at "pos"),?_⟩)⟩))⟩)⟩⟩
  have w0:0≤qxn c t:=aR _ (by decide)
  have w1:qxn c t<1000033:=aS _ (by decide)
  refine ⟨V.int (qxn c t),rfl,V.int (qxn c t),rfl,wr rfl rfl ⟨(by walk_at "mul"),V.int (qq0 c t),rfl,wr rfl rfl ⟨(by walk_at "mul"),wr rfl rfl (exI rfl (wr rfl rfl ⟨(by walk_at "mul"),wr rfl rfl (wr rfl rfl ⟨(by walk_at "pos"),exI rfl (wr rfl rfl ⟨(by walk_at "pos"),?_⟩)⟩)⟩))⟩⟩⟩
  exact fin _ (by rw [quc q1'])
def Within (n f:Int)(m:Option Int):Prop:=f≤n∧∀b,m=some b→n≤b
def W1 (C:Aj):Sp:=λvs H Q E=>∃(n f:Int) (m:V) (o:Option Int),vs=[.int n,.int f,m]∧(m=.non∧o=none∨∃b,m=.int b∧o=some b)∧(Within n f o→Q .non H)∧(¬ Within n f o→E (.ref C) none H)
theorem wq1 {f:Aj}{fd:Ad}(F:FunD K "check_count" s_check_count f fd)(T:Txt K mg qc qr qx qm qu wq wy qh wf wx qj qp qw qq):FnOk P w K mg base (CXE P w) 1 f fd ["number","fewest","most"] (W1 qu):=by
 have sc:=Yy
 refine F.okX sc (λvs H Q E h=>by obtain ⟨n,f,m,o,rfl,_⟩:=h;rfl) (λcdv A outer s H vs Q E hr h=>?_)
 obtain ⟨n,fe,m,o,rfl,hm,k,x⟩:=h
 refine ⟨_,(wj (x9 (PW.pt (jy (w6 jr (pv 0) (pv 1) (w9 _)) (jz (PW.pt (pw_and (w6 wwm (pv 2) wqr (w9 _)) (wxu (w6 uy (pv 0) (pv 2) (w9 _)))))))) (wj (z0 rfl T.x_BadCount zu rfl T.g_BadCount (xy vp qz))) xx)),?_⟩
 refine exI rfl (exI rfl (wr rfl rfl (exI rfl ?_)))
 refine ku (λq1=>?_) (λq1=>?_)
 ·refine jt ?_
  exact ⟨sz1,x (λz=>by have:=z.1;lia)⟩
 ·rcases hm with ⟨rfl,rfl⟩|⟨b,rfl,rfl⟩
  ·refine exI rfl ⟨rfl,_,rfl,?_⟩
   refine yw ?_
   exact k ⟨by lia,λb e=>nomatch e⟩
  ·refine exI rfl ⟨rfl,_,rfl,?_⟩
   refine jt ?_
   refine exI rfl (exI rfl (wr rfl rfl (exI rfl ?_)))
   refine ku (λq2=>?_) (λq2=>?_)
   ·exact ⟨sz1,x (λz=>by have:=z.2 b rfl;lia)⟩
   ·exact k ⟨by lia,λb' e=>by cases e;lia⟩
def zq (ns:List Int):Prop:=2≤ns.length∧ns.length≤25∧∀h∈ns,0≤h∧h≤(ns.length:Int)-1
def Ys (K:Aa):Sp:=λvs H Q _=>∃(p:Aj) (ns:List Int),vs=[.ref p]∧SqL K H p (ns.map V.int)∧(zq ns→Q (.bl true) H)∧(¬ zq ns→Q (.bl false) H)
theorem qv4 {f:Aj}{fd:Ad}(F:Fun K "is_line" "is_line" s_is_line f fd)(T:Txt K mg qc qr qx qm qu wq wy qh wf wx qj qp qw qq):FnOk P w K mg base (CXE P w) 1 f fd ["heights"] (Ys K):=by
 have sc:=qzp
 refine F.okX sc (λvs H Q E h=>by obtain ⟨p,ns,rfl,_⟩:=h;rfl) (λcdv A outer s H vs Q E hr h=>?_)
 obtain ⟨p,ns,rfl,hS,k1,k2⟩:=h
 have hlen:(ns.map V.int).length=ns.length:=ae _
 obtain ⟨tw,g_WIDEST⟩:=T.g_WIDEST
 refine ⟨_,(qk (wt (i:=1) sc.nd rfl (by walk_at "loc") (wg zh (xq xf rfl T.len_ aM (ww (pv 0) qz)) qy))
   (qk (x9 (PW.pt (jy (w6 jr (pv 1) qy (w9 _)) (jz (w6 uy (pv 1) (jm (v:=V.int 24) rfl g_WIDEST ⟨_,rfl⟩) (w9 _))))) (wj (w8 Wc)) xx)
   (wj (w8 (qv9 (yy wwj (xq (Jq rfl) rfl T.min_ cW (ww (pv 0) qz)) qy (w9 _)) (qvn (yy op_le (xq (Y9 rfl) rfl T.max_ cX (ww (pv 0) qz)) (pv 1) (w9 _)))))))),?_⟩
 refine exI rfl ⟨_,_,rfl,.inl hS,wr rfl rfl ?_⟩
 refine exI rfl (wr rfl rfl (exI rfl ?_))
 rw [hlen]
 refine ku (λq1=>?_) (λq1=>?_)
 ·refine jt ?_
  exact k2 (λz=>by have:=z.1;lia)
 ·refine exI rfl (wr rfl rfl (exI rfl ?_))
  refine ku (λq2=>?_) (λq2=>?_)
  ·exact k2 (λz=>by have:=z.2.1;lia)
  ·refine exI rfl ⟨p,ns,rfl,hS,(by lia),λm hm hle=>(wr rfl rfl (exI rfl ?_))⟩
   refine ku (λq3=>?_) (λq3=>?_)
   ·refine exI rfl ⟨p,ns,rfl,hS,(by lia),λm2 hm2 hle2=>(exI rfl (wr rfl rfl ?_))⟩
    show Q (.bl (decide (m2≤(ns.length:Int)-1))) H
    by_cases q4:m2≤(ns.length:Int)-1
    ·rw [aP q4]
     exact k1 ⟨by lia,by lia,λh hh=>by have:=hle h hh;have:=hle2 h hh;lia⟩
    ·rw [aV q4]
     exact k2 (λz=>q4 (z.2.2 m2 hm2).2)
   ·exact k2 (λz=>q3 (z.2.2 m hm).1)
def RoadAt (C:Aj)(H:Hp)(r:Aj)(ns:List Int):Prop:=∃dx q,H r=some (.ins C dx [("heights",.ref q)])∧H q=some (.lst (ns.map V.int))
theorem RoadAt.same {C:Aj}{H H':Hp}{r:Aj}{ns:List Int}(h:RoadAt C H r ns)(s:Same H H'):RoadAt C H' r ns:=by
 obtain ⟨dx,q,h1,h2⟩:=h
 exact ⟨dx,q,s _ _ h1,s _ _ h2⟩
theorem jd {q:Aj}:([("heights",V.ref q)]:List (Str×V)).lookup ("heights" : Str)=some (.ref q):=by
 rw [ax]
 simp
theorem vk {q:Aj}{m:Str}(h:¬ m = "heights"):([("heights",V.ref q)]:List (Str×V)).lookup m=none:=by
 rw [ax]
 have:(m==("heights" : Str))=false:=aE.mpr h
 rw [this]
 rfl
def qqs (K:Aa)(CB C:Aj):Sp:=λvs H Q E=>∃(r dx p:Aj) (ns:List Int),vs=[.ref r,.ref p]∧H r=some (.ins C dx [])∧SqL K H p (ns.map V.int) ∧
 (zq ns→∀H' q,H q=none→(∀b o,H b=some o→b≠r→H' b=some o)→H' r=some (.ins C dx [("heights",.ref q)])→H' q=some (.lst (ns.map V.int))→Q .non H')∧(¬ zq ns→E (.ref CB) none H)
theorem wxw {f:Aj}{fd:Ad}(F:Fun K "__init__" "Road.__init__" s_Road___init__ f fd)(T:Txt K mg qc qr qx qm qu wq wy qh wf wx qj qp qw qq)(c_is_line:Cal P w K mg base "is_line" 1 (Ys K)):FnOk P w K mg base (CXE P w) 2 f fd ["self","heights"] (qqs K qr qp):=by
 have sc:=Q5
 refine F.okX sc (λvs H Q E h=>by obtain ⟨r,dx,p,ns,rfl,_⟩:=h;rfl) (λcdv A outer s H vs Q E hr h=>?_)
 obtain ⟨r,dx,p,ns,rfl,hr0,hS,k,x⟩:=h
 refine ⟨_,(qk (x9 (uw (y8 (wm c_is_line (hr.mono (by decide)) rfl qf (ww (pv 1) qz)))) (wj (z0 rfl T.x_BadLine zu rfl T.g_BadLine (xy vp qz))) xx)
   (wj (ux (pv 0) (yb Qg rfl T.list_ cg (ww (pv 1) qz)) rfl))),?_⟩
 refine ⟨_,rfl,p,ns,rfl,hS,λok=>(exI rfl ?_),λbad=>(exI rfl ?_)⟩
 ·refine yw ?_
  refine exI rfl ⟨_,_,rfl,.inl hS,λq nq=>?_⟩
  have hr1:upd H q (.lst (ns.map V.int)) r=some (.ins qp dx []):=by rw [wc (qg hr0 nq)];exact hr0
  refine exI rfl ⟨r,qp,dx,[],rfl,hr1,T.cl,T.na,(by show 0<1000;decide),?_⟩
  refine k ok _ q nq (λb o e n=>?_) qt ?_
  ·rw [wc n,wc (qg e nq)]
   exact e
  ·rw [wc (qg hr0 nq).symm,qt]
 ·refine jt ?_
  exact ⟨sz1,x bad⟩
def Qk (C:Aj):Sp:=λvs H Q _=>∃(r:Aj) (ns:List Int),vs=[.ref r]∧RoadAt C H r ns∧Q (.int ((ns.length:Int)-1)) H
theorem qut {f:Aj}{fd:Ad}(F:Fun K "width" "Road.width" s_Road_width f fd)(T:Txt K mg qc qr qx qm qu wq wy qh wf wx qj qp qw qq):FnOk P w K mg base (CXE P w) 1 f fd ["self"] (Qk qp):=by
 have sc:=Jj
 refine F.okX sc (λvs H Q E h=>by obtain ⟨r,ns,rfl,_⟩:=h;rfl) (λcdv A outer s H vs Q E hr h=>?_)
 obtain ⟨r,ns,rfl,⟨dx,q,h1,h2⟩,k⟩:=h
 refine ⟨_,(wj (w8 (wg zh (xq xf rfl T.len_ aM (xh (zb (pv 0) rfl) qz)) qy))),?_⟩
 refine exI rfl ⟨r,qp,dx,_,_,rfl,h1,T.cl,T.na,jd,q,exI rfl ⟨.inl (SqL.of h2),wr rfl rfl ?_⟩⟩
 rw [ae]
 exact k
def InW (ns:List Int)(wd:Int):Prop:=(ns.length:Int)=wd+1∧∀h∈ns,0≤h∧h≤wd
def Zv (K:Aa):Sp:=λvs H Q _=>∃(a:Aj) (ns:List Int) (i wd:Int),vs=[.ref a,.int i,.int wd]∧SqL K H a (ns.map V.int)∧0≤i∧1≤wd∧wd≤24 ∧
 ∀p hs,H p=none→InW hs wd→Q (.ref p) (upd H p (.lst (hs.map V.int)))
theorem qy1 {f:Aj}{fd:Ad}(F:Fun K "_law_climb" "_law_climb" s__law_climb f fd)(T:Txt K mg qc qr qx qm qu wq wy qh wf wx qj qp qw qq)(c__law_pick:Cal P w K mg base "_law_pick" 2 (yx K)):FnOk P w K mg base (CXE P w) 3 f fd ["_law_script","_law_at","_law_wide"] (Zv K):=by
 have sc:=Jb
 refine F.okX sc (λvs H Q E h=>by obtain ⟨a,ns,i,wd,rfl,_⟩:=h;rfl) (λcdv A outer s H vs Q E hr h=>?_)
 obtain ⟨a,ns,i,wd,rfl,hS,h0,w1,w2,k⟩:=h
 refine ⟨_,(qk (wt (i:=3) sc.nd rfl (by walk_at "loc") (uq (jj (wm c__law_pick (hr.mono (by decide)) rfl qf (ww (pv 0) (ww (pv 1) (xy qy (zj (wg xz (pv 2) qy) qz))))) qz)))
   (qk (uz aY rfl (vz rfl T.range_ (ww (pv 2) qz)) (xp (i:=4) sc.nd rfl (by walk_at "loc")) (wj (zd (qxk bG bz bA vh (pv 3) (jj (xq (Jn rfl) rfl T.max_ cX (xy qy (jj (xq (Jh rfl) rfl T.min_ cW (ww (pv 2) (zj (wg zh (wg xz (xm xk (pv 3) (pe_un un_neg qy) (λ_ _=>rfl)) (wg xg qy (wm c__law_pick (hr.mono (by decide)) rfl qf (ww (pv 0) (ww (pv 1) (zj (wg xz qy (pv 4)) (xy qy qz))))))) qy) qz))) qz))) qz)))))
   (wj (w8 (pv 3))))),?_⟩
 refine exI rfl (exI rfl (exI rfl (wr rfl rfl ⟨a,ns,_,_,_,rfl,hS,h0,(by lia),(by lia),(by lia),λr1 _ l1 u1=>⟨sz1,λp np=>?_⟩⟩)))
 refine ⟨_,rfl,wd,rfl,(by lia),(by lia),yg (λj σ H1=>∃(ys:List Int) (l:Int) (z:Option V),ys.length=j∧(∀h∈ys++[l],0≤h∧h≤wd)∧H1=upd H p (.lst ((ys++[l]).map V.int))∧σ=[some (.ref a),some (.int i),some (.int wd),some (.ref p),z])
  ⟨[],r1,none,rfl,(λh hh=>by have e:=au.mp hh;subst e;lia),rfl,rfl⟩ ?_ ?_⟩
 ·rintro j σ H1 hj ⟨ys,l,z,hy,hb,rfl,rfl⟩
  have hp:upd H p (.lst ((ys++[l]).map V.int)) p=some (.lst ((ys++[l]).map V.int)):=qt
  have hS1:SqL K (upd H p (.lst ((ys++[l]).map V.int))) a (ns.map V.int):=Same.sql (Same.upd np) hS
  have hlast:atI ((ys++[l]).map V.int) (-1)=some (V.int l):=by
   rw [aT]
   exact qys _ _
  have hl:=hb l (by simp)
  refine exI rfl ⟨.inl ⟨rfl,_,SqL.of hp⟩,exI rfl (exI rfl (exI rfl (exX rfl rfl (SqL.of hp) hlast (exI rfl (exI rfl (exI rfl (wr rfl rfl ⟨a,ns,_,_,_,rfl,hS1,h0,(by lia),(by lia),(by lia),λr2 _ l2 u2=>?_⟩)))))))⟩
  refine wr rfl rfl ⟨(by walk_at "mul"),wr rfl rfl (wr rfl rfl ⟨_,_,rfl,_,_,rfl,_,_,_,rfl,rfl,hp,?_,?_⟩)⟩
  ·rw [ae,aU,hy]
   have:(1000000:Nat)<sizeLine:=by decide
   simp only [aQ,cL]
   lia
  ·refine ⟨ys++[l],(if (if l+2*r2-1<wd then l+2*r2-1 else wd)>0 then (if l+2*r2-1<wd then l+2*r2-1 else wd) else 0),_,by rw [aU,hy];rfl,λh hh=>?_,?_,rfl⟩
   ·rcases ba.mp hh with hh|hh
    ·exact hb h hh
    ·have e:=au.mp hh
     subst e
     by_cases g1:l+2*r2-1<wd
     ·rw [ak g1]
      by_cases g2:l+2*r2-1>0
      ·rw [ak g2];lia
      ·rw [aj g2];lia
     ·rw [aj g1,ak (show wd>0 by lia)];lia
   ·rw [Qv,aT (l₁:=ys++[l])]
    rfl
 ·rintro σ H1 ⟨ys,l,z,hy,hb,rfl,rfl⟩
  refine exI rfl (k p _ np ⟨?_,hb⟩)
  rw [aU,hy]
  simp only [aQ,cL]
  lia
def Qs (K:Aa):Sp:=λvs H Q _=>∃(a:Aj) (ns:List Int) (i m:Int),vs=[.ref a,.int i,.int m]∧SqL K H a (ns.map V.int)∧0≤i∧1≤m∧m≤24 ∧
 ∀p hs wd,H p=none→1≤wd→wd≤m→InW hs wd→Q (.ref p) (upd H p (.lst (hs.map V.int)))
theorem qyb {wd:Int}{n:Nat}(g:Nat→Int)(h1:(n:Int)=wd+1)(h2:∀i,i<n→0≤g i∧g i≤wd):InW ((List.range n).map g) wd:=by
 refine ⟨by rw [ae,aC];exact h1,λh hh=>?_⟩
 obtain ⟨i,hi,rfl⟩:=aN.mp hh
 exact h2 i (aL.mp hi)
theorem Y7 (n:Nat)(g:Nat→Int):(List.range n).map (λi=>V.int (g i))=((List.range n).map g).map V.int:=by
 rw [cE]
 rfl
theorem qv3 {f:Aj}{fd:Ad}(F:Fun K "_law_heights" "_law_heights" s__law_heights f fd)(T:Txt K mg qc qr qx qm qu wq wy qh wf wx qj qp qw qq)(c__law_pick:Cal P w K mg base "_law_pick" 2 (yx K))(c__law_climb:Cal P w K mg base "_law_climb" 3 (Zv K)) :
  FnOk P w K mg base (CXE P w) 4 f fd ["_law_script","_law_at","_law_most"] (Qs K):=by
 have sc:=Wh
 refine F.okX sc (λvs H Q E h=>by obtain ⟨a,ns,i,m,rfl,_⟩:=h;rfl) (λcdv A outer s H vs Q E hr h=>?_)
 obtain ⟨a,ns,i,m,rfl,hS,h0,m1,m2,k⟩:=h
 refine ⟨_,(qk (wt (i:=3) sc.nd rfl (by walk_at "loc") (wg xz qy (wm c__law_pick (hr.mono (by decide)) rfl qf (ww (pv 0) (ww (pv 1) (xy qy (ww (pv 2) qz)))))))
   (qk (wt (i:=4) sc.nd rfl (by walk_at "loc") (wm c__law_pick (hr.mono (by decide)) rfl qf (ww (pv 0) (ww (pv 1) (xy qy (xy qy qz))))))
   (qk (x9 (w6 kh (pv 4) qy (w9 _)) (wj (w8 (yd (M:=[3]) rfl rfl (by walk_at "cap") (by walk_at "has") (by walk_at "cix") rfl (by decide +kernel) rfl (show List.Nodup (["_law_k","_law_wide"]:List Str) by decide +kernel) (vz rfl T.range_ (zj (wg xz (pv 3) qy) qz)) (λ_ _ _ _ _=>(wg xg (pv 1) (wg zm (pv 0) qy)))))) xx)
   (qk (x9 (w6 kh (pv 4) qy (w9 _)) (wj (w8 (yd (M:=[]) rfl rfl (by walk_at "cap") (by walk_at "has") (by walk_at "cix") rfl (by decide +kernel) rfl (show List.Nodup (["_law_k"]:List Str) by decide +kernel) (vz rfl T.range_ (zj (wg xz (pv 3) qy) qz)) (λ_ _ _ _ _=>(pv 0))))) xx)
   (qk (x9 (w6 kh (pv 4) qy (w9 _)) (wj (w8 (yd (M:=[3]) rfl rfl (by walk_at "cap") (by walk_at "has") (by walk_at "cix") rfl (by decide +kernel) rfl (show List.Nodup (["_law_k","_law_wide"]:List Str) by decide +kernel) (vz rfl T.range_ (zj (wg xz (pv 3) qy) qz)) (λ_ _ _ _ _=>(wg zh (pv 1) (pv 0)))))) xx)
   (qk (x9 (w6 kh (pv 4) qy (w9 _)) (wj (w8 (yd (M:=[3]) rfl rfl (by walk_at "cap") (by walk_at "has") (by walk_at "cix") rfl (by decide +kernel) rfl (show List.Nodup (["_law_k","_law_wide"]:List Str) by decide +kernel) (vz rfl T.range_ (zj (wg xz (pv 3) qy) qz)) (λ_ _ _ _ _=>(wg zm (wg xz (wg xg qy (pv 0)) qy) (wg xz (pv 1) qy)))))) xx)
   (qk (x9 (PW.pt (jy (w6 kh (pv 4) qy (w9 _)) (jz (w6 kh (pv 4) qy (w9 _))))) (wj (w8 (wm c__law_climb (hr.mono (by decide)) rfl qf (ww (pv 0) (ww (pv 1) (ww (pv 3) qz)))))) xx)
   (wj (w8 (yd (M:=[0,1,3]) rfl rfl (by walk_at "cap") (by walk_at "has") (by walk_at "cix") rfl (by decide +kernel) rfl (show List.Nodup (["_law_k","_law_script","_law_at","_law_wide"]:List Str) by decide +kernel) (vz rfl T.range_ (zj (wg xz (pv 3) qy) qz)) (λ_ _ _ _ _=>(wm c__law_pick (hr.mono (by decide)) rfl quh (ww (pv 1) (ww (pv 2) (zj (wg xz qy (pv 0)) (zj (wg xz (pv 3) qy) qz)))))))))))))))),?_⟩
 refine exI rfl (exI rfl (exI rfl ⟨a,ns,_,_,_,rfl,hS,h0,(by lia),(by lia),(by lia),λr1 _ l1 u1=>?_⟩))
 refine wr rfl rfl (exI rfl (exI rfl ⟨a,ns,_,_,_,rfl,hS,h0,(by lia),(by lia),(by lia),λkd _ l2 u2=>?_⟩))
 have hn:((1+r1+1).toNat:Int)=1+r1+1:=by lia
 have hn2:(1+r1+1).toNat≤1000000:=by lia
 have fin:∀(g:Nat→Int) (p:Aj),(∀j,j<(1+r1+1).toNat→0≤g j∧g j≤1+r1)→H p=none→Q (.ref p) (upd H p (.lst ((List.range (1+r1+1).toNat).map λj=>V.int (g j)))):=λg p hg np=>by
  rw [Y7]
  exact k p _ (1+r1) np (by lia) (by lia) (qyb g hn hg)
 refine exI rfl ⟨rfl,_,rfl,k8 (λq1=>?_) (λq1=>?_)⟩
 ·refine exI rfl (wr rfl rfl ⟨1+r1+1,rfl,(by lia),(by lia),jx (λj=>V.int ((1+r1)*(((0:Int)+j)%2))) hn2 (λj H' R hj hs hR=>?_) λp np=>fin _ p (λj hj=>?_) np⟩)
  ·exact exI rfl (exI rfl (wr rfl rfl ⟨(by walk_at "pos"),wr rfl rfl ⟨(by walk_at "mul"),hR⟩⟩))
  ·have a1:=aR ((0:Int)+j) (show (2:Int)≠0 by decide)
   have a2:=aS ((0:Int)+j) (show (0:Int)<2 by decide)
   rcases (by lia:((0:Int)+j)%2=0∨((0:Int)+j)%2=1) with e|e <;> rw [e] <;> lia
 ·refine exI rfl ⟨rfl,_,rfl,k8 (λq2=>?_) (λq2=>?_)⟩
  ·refine exI rfl (wr rfl rfl ⟨1+r1+1,rfl,(by lia),(by lia),jx (λj=>V.int ((0:Int)+j)) hn2 (λj H' R hj hs hR=>?_) λp np=>fin _ p (λj hj=>by lia) np⟩)
   exact exI rfl hR
  ·refine exI rfl ⟨rfl,_,rfl,k8 (λq3=>?_) (λq3=>?_)⟩
   ·refine exI rfl (wr rfl rfl ⟨1+r1+1,rfl,(by lia),(by lia),jx (λj=>V.int (1+r1-((0:Int)+j))) hn2 (λj H' R hj hs hR=>?_) λp np=>fin _ p (λj hj=>by lia) np⟩)
    exact exI rfl (exI rfl (wr rfl rfl hR))
   ·refine exI rfl ⟨rfl,_,rfl,k8 (λq4=>?_) (λq4=>?_)⟩
    ·refine exI rfl (wr rfl rfl ⟨1+r1+1,rfl,(by lia),(by lia),jx (λj=>V.int ((2*((0:Int)+j)+1)%(1+r1+1))) hn2 (λj H' R hj hs hR=>?_) λp np=>fin _ p (λj hj=>?_) np⟩)
     ·exact exI rfl (wr rfl rfl ⟨(by walk_at "mul"),wr rfl rfl (exI rfl (wr rfl rfl (wr rfl rfl ⟨(by walk_at "pos"),hR⟩)))⟩)
     ·have a1:=aR (2*((0:Int)+j)+1) (show 1+r1+1≠0 by lia)
      have a2:=aS (2*((0:Int)+j)+1) (show 0<1+r1+1 by lia)
      lia
    ·have last:tRet (tComp [0,1,3] (iRng1 (v4 (tOp (rI0 λi j=>.int (i+j)) (uh 3) (tC (.int 1))) Jc)) (Yg (yx K) (λ_=>E0) (v4 (uh 1) (v4 (uh 2) (v4 (tOp (rI0 λi j=>.int (i+j)) (tC (.int 3)) (uh 0)) (v4 (tOp (rI0 λi j=>.int (i+j)) (uh 3) (tC (.int 1))) Jc))))))
       { nx:=λ_ H'=>Q .non H',rt:=Q } [some (.ref a),some (.int i),some (.int m),some (.int (1+r1)),some (.int kd)] H:=by
      refine exI rfl (wr rfl rfl ⟨1+r1+1,rfl,(by lia),(by lia),jx (λj=>V.int (qx0 ns i (3+((0:Int)+j)) (1+r1+1))) hn2 (λj H' R hj hs hR=>?_) λp np=>fin _ p (λj hj=>?_) np⟩)
      ·refine exI rfl (exI rfl (exI rfl (wr rfl rfl (exI rfl (wr rfl rfl ⟨a,ns,_,_,_,rfl,Same.sql hs hS,h0,(by lia),(by lia),(by lia),λr e _ _=>?_⟩)))))
       rw [e]
       exact hR
      ·have a1:=qu0 ns i (3+((0:Int)+j)) (1+r1+1) (by lia)
       have a2:=qy8 ns i (3+((0:Int)+j)) (1+r1+1) (by lia)
       lia
     have climb:tRet (Yg (Zv K) (λ_=>E) (v4 (uh 0) (v4 (uh 1) (v4 (uh 3) Jc)))) { nx:=λ_ H'=>Q .non H',rt:=Q } [some (.ref a),some (.int i),some (.int m),some (.int (1+r1)),some (.int kd)] H :=
      (exI rfl (exI rfl (exI rfl ⟨a,ns,i,1+r1,rfl,hS,h0,(by lia),(by lia),λp hs np hw=>k p hs (1+r1) np (by lia) (by lia) hw⟩)))
     refine exI rfl ⟨rfl,_,rfl,k8 (λq5=>jt climb) (λq5=>?_)⟩
     exact exI rfl ⟨rfl,_,rfl,k8 (λq6=>climb) (λq6=>last)⟩
def Zj:Sp:=λvs H Q _=>∃x y:Int,vs=[.int x,.int y]∧0≤x∧0≤y∧Q (.int (Wy x y)) H
theorem qxc {tb:TS}{c:TT}{D:Ends}{H:Hp}{x y:Int}(hx:0≤x)(hy:0≤y)(hc:c=tTest (tOp (rI0 λi j=>.bl (decide (j<i))) (uh 1) (tC (.int 0))))(hb:tb=tPar 0 1 (v4 (uh 1) (v4 (tOp (rI (λ_ j=>0<j) λi j=>.int (i%j)) (uh 0) (uh 1)) Jc)))
  (hD:D.nx [some (.int (Wy x y)),some (.int 0)] H):qzm c tb D [some (.int x),some (.int y)] H:=by
 subst hc hb
 refine Yq (λσ H1=>H1=H∧∃u v:Int,σ=[some (.int u),some (.int v)]∧0≤u∧0≤v∧Wy u v=Wy x y) (λσ _=>match σ with|[_,some (.int v)]=>v.toNat|_=>0) ⟨rfl,x,y,rfl,hx,hy,rfl⟩ ?_ λσ H Q Q' h ⟨v,e,i,j,e1,e2,k,e3,q⟩=>⟨v,e,i,j,e1,e2,k,e3,h _ _ q⟩
 rintro σ H1 ⟨rfl,u,v,rfl,hu,hv,e⟩
 refine exI rfl (wr rfl rfl (exI rfl ?_))
 refine ku (λq=>?_) (λq=>?_)
 ·have h1:=aR u (show v≠0 by lia)
  have h2:=aS u q
  refine exI rfl (exI rfl (exI rfl (wr rfl rfl ⟨q,_,_,rfl,⟨rfl,v,u%v,rfl,hv,h1,?_⟩,?_⟩)))
  ·rw [qyx hu q,e]
  ·show (u%v).toNat<v.toNat
   lia
 ·have z:v=0:=by lia
  subst z
  rw [qj5 hu] at e
  subst e
  exact hD
theorem ok_gcd {f:Aj}{fd:Ad}(F:Fun K "common_divisor" "common_divisor" s_common_divisor f fd)(T:Txt K mg qc qr qx qm qu wq wy qh wf wx qj qp qw qq):FnOk P w K mg base (CXE P w) 1 f fd ["one","other"] Zj:=by
 have sc:=um
 refine F.okX sc (λvs H Q E h=>by obtain ⟨x,y,rfl,_⟩:=h;rfl) (λcdv A outer s H vs Q E hr h=>?_)
 obtain ⟨x,y,rfl,hx,hy,k⟩:=h
 refine ⟨_,(qk (Qu aY (w6 uy (pv 1) qy (w9 _)) (wj (quv (i:=0) (j:=1) rfl sc.nd rfl rfl (by decide) rfl rfl (ww (pv 1) (zj (wg zm (pv 0) (pv 1)) qz)) rfl)))
   (wj (w8 (pv 0)))),?_⟩
 exact qxc hx hy rfl rfl (exI rfl k)
theorem qyd {f:Aj}{fd:Ad}(F:Fun K "_law_common" "_law_common" s__law_common f fd)(T:Txt K mg qc qr qx qm qu wq wy qh wf wx qj qp qw qq):FnOk P w K mg base (CXE P w) 1 f fd ["_law_one","_law_other"] Zj:=by
 have sc:=Zm
 refine F.okX sc (λvs H Q E h=>by obtain ⟨x,y,rfl,_⟩:=h;rfl) (λcdv A outer s H vs Q E hr h=>?_)
 obtain ⟨x,y,rfl,hx,hy,k⟩:=h
 refine ⟨_,(qk (Qu aY (w6 uy (pv 1) qy (w9 _)) (wj (quv (i:=0) (j:=1) rfl sc.nd rfl rfl (by decide) rfl rfl (ww (pv 1) (zj (wg zm (pv 0) (pv 1)) qz)) rfl)))
   (wj (w8 (pv 0)))),?_⟩
 exact qxc hx hy rfl rfl (exI rfl k)
def ptV (p:Int×Int):List V:=[.int p.1,.int p.2]
def j7 (C:Aj):Sp:=λvs H Q E=>∃t b:Int,vs=[.int t,.int b]∧(1≤b→Sm 9000 b∧∀p,H p=none→Q (.ref p) (upd H p (.tup (ptV (wp t b)))))∧(b<1→E (.ref C) none H)
theorem qyf {f:Aj}{fd:Ad}(F:Fun K "lowest" "lowest" s_lowest f fd)(T:Txt K mg qc qr qx qm qu wq wy qh wf wx qj qp qw qq)(c_check_bottom:Cal P w K mg base "check_bottom" 1 (qqg qx))(c_common_divisor:Cal P w K mg base "common_divisor" 1 Zj) :
  FnOk P w K mg base (CXE P w) 2 f fd ["top","bottom"] (j7 qx):=by
 have sc:=qjt
 refine F.okX sc (λvs H Q E h=>by obtain ⟨t,b,rfl,_⟩:=h;rfl) (λcdv A outer s H vs Q E hr h=>?_)
 obtain ⟨t,b,rfl,k,x⟩:=h
 refine ⟨_,(qk (zd (wm c_check_bottom (hr.mono (by decide)) rfl qf (ww (pv 1) qz)))
   (qk (wt (i:=2) sc.nd rfl (by walk_at "loc") (wm c_common_divisor (hr.mono (by decide)) rfl qf (jj (xq j4 rfl T.abs_ j3 (ww (pv 0) qz)) (ww (pv 1) qz))))
   (wj (w8 (z9 (zj (wg v5 (pv 0) (pv 2)) (zj (wg v5 (pv 1) (pv 2)) qz))))))),?_⟩
 refine ⟨_,rfl,b,rfl,λg1=>?_,λg1=>x g1⟩
 obtain ⟨sb,k⟩:=k g1
 have hg:=k6 (t:=t) g1
 have hs:Sm 9000 (gOf t b):=sb.of_le (by have:=qud (t:=t) g1;lia)
 refine exI rfl (exI rfl (exI rfl ⟨ju t,b,rfl,qwx t,(by lia),?_⟩))
 refine exI rfl ⟨V.int (gOf t b),rfl,wr rfl rfl ⟨⟨by lia,hs⟩,exI rfl ⟨V.int (gOf t b),rfl,wr rfl rfl ⟨⟨by lia,hs⟩,sz2,λp n=>?_⟩⟩⟩⟩
 exact k p n
def wqb:Sp:=λvs H Q _=>∃t b:Int,vs=[.int t,.int b]∧1≤b∧Sm 9000 b∧∀p,H p=none→Q (.ref p) (upd H p (.tup (ptV (wp t b))))
theorem ok_low {f:Aj}{fd:Ad}(F:Fun K "_law_low" "_law_low" s__law_low f fd)(T:Txt K mg qc qr qx qm qu wq wy qh wf wx qj qp qw qq)(c__law_common:Cal P w K mg base "_law_common" 1 Zj):FnOk P w K mg base (CXE P w) 2 f fd ["_law_top","_law_bottom"] wqb:=by
 have sc:=qxu
 refine F.okX sc (λvs H Q E h=>by obtain ⟨t,b,rfl,_⟩:=h;rfl) (λcdv A outer s H vs Q E hr h=>?_)
 obtain ⟨t,b,rfl,g1,sb,k⟩:=h
 have hg:=k6 (t:=t) g1
 have hs:Sm 9000 (gOf t b):=sb.of_le (by have:=qud (t:=t) g1;lia)
 refine ⟨_,(qk (wt (i:=2) sc.nd rfl (by walk_at "loc") (wm c__law_common (hr.mono (by decide)) rfl qf (jj (xq j4 rfl T.abs_ j3 (ww (pv 0) qz)) (ww (pv 1) qz))))
   (wj (w8 (z9 (zj (wg v5 (pv 0) (pv 2)) (zj (wg v5 (pv 1) (pv 2)) qz)))))),?_⟩
 refine exI rfl (exI rfl (exI rfl ⟨ju t,b,rfl,qwx t,(by lia),?_⟩))
 refine exI rfl ⟨V.int (gOf t b),rfl,wr rfl rfl ⟨⟨by lia,hs⟩,exI rfl ⟨V.int (gOf t b),rfl,wr rfl rfl ⟨⟨by lia,hs⟩,sz2,λp n=>?_⟩⟩⟩⟩
 exact k p n
theorem at_h {hs:List Int}{k:Int}(h0:0≤k)(h1:k<hs.length):atI (hs.map V.int) k=some (V.int (hAt hs k)):=W5 h0 h1
theorem qkg {hs:List Int}(ok:zq hs)(k:Int):0≤hAt hs k∧hAt hs k≤24:=by
 unfold hAt
 rw [ar]
 cases e:hs[k.toNat]? with
 |none=>exact ⟨by decide,by decide⟩
 |some v =>
  have hm:=ok.2.2 v (aZ e)
  have:=ok.2.1
  show 0≤v∧v≤24
  lia
def qvj (C CR:Aj):Sp:=λvs H Q E=>∃(r:Aj) (hs:List Int) (k:Int),vs=[.ref r,.int k]∧RoadAt C H r hs∧(0≤k→k<(hs.length:Int)-1→∀p,H p=none→Q (.ref p) (upd H p (.tup [.int (hAt hs k),.int (hAt hs (k+1))]))) ∧
 (k<0∨(hs.length:Int)-1≤k→E (.ref CR) none H)
theorem wxc {f:Aj}{fd:Ad}(F:Fun K "ends" "Road.ends" s_Road_ends f fd)(T:Txt K mg qc qr qx qm qu wq wy qh wf wx qj qp qw qq)(c_width:MCal P w K mg base qp "width" 1 (Qk qp)):FnOk P w K mg base (CXE P w) 2 f fd ["self","stretch"] (qvj qp wy):=by
 have sc:=qw4
 refine F.okX sc (λvs H Q E h=>by obtain ⟨r,hs,k,rfl,_⟩:=h;rfl) (λcdv A outer s H vs Q E hr h=>?_)
 obtain ⟨r,hs,k,rfl,hR,kq,x⟩:=h
 obtain ⟨dx,q,h1,h2⟩:=id hR
 refine ⟨_,(qk (x9 (PW.pt (jy (w6 jr (pv 1) qy (w9 _)) (jz (w6 wwj (pv 1) (yf (pv 0) T.cl c_width (hr.mono (by decide)) qf) (w9 _))))) (wj (z0 rfl T.x_BadRow zu rfl T.g_BadRow (xy vp qz))) xx)
   (wj (w8 (z9 (zv (xm xk (zb (pv 0) rfl) (pv 1) (λ_ _=>rfl)) (zv (xm xk (zb (pv 0) rfl) (wg xz (pv 1) qy) (λ_ _=>rfl)) qz)))))),?_⟩
 refine exI rfl (wr rfl rfl (exI rfl ?_))
 refine ku (λq1=>?_) (λq1=>?_)
 ·refine jt ?_
  exact ⟨sz1,x (.inl q1)⟩
 ·refine exI rfl (exI rfl ⟨r,dx,exI rfl ⟨h1,vk (by decide +kernel),r,hs,rfl,hR,wr rfl rfl (exI rfl ?_)⟩⟩)
  refine ku (λq2=>?_) (λq2=>?_)
  ·exact ⟨sz1,x (.inr q2)⟩
  ·refine exI rfl ⟨r,qp,dx,_,_,rfl,h1,T.cl,T.na,jd,exI rfl (exX rfl rfl (SqL.of h2) (at_h (by lia) (by lia)) (exI rfl ⟨r,qp,dx,_,_,rfl,h1,T.cl,T.na,jd,exI rfl (wr rfl rfl (exX rfl rfl (SqL.of h2) (at_h (by lia) (by lia)) ⟨sz2,λp np=>?_⟩))⟩))⟩
   exact kq (by lia) (by lia) p np
def zr (hs:List Int)(t b:Int):Prop:=0≤t∧t≤((hs.length:Int)-1)*b
def Qx (K:Aa)(C CB CO:Aj):Sp:=λvs H Q E=>∃(r p:Aj) (hs:List Int) (t b:Int),vs=[.ref r,.ref p]∧RoadAt C H r hs∧zq hs∧SqT K H p [.int t,.int b] ∧
 (1≤b→Sm 8000 b∧(zr hs t b→∀q H',Same H H'→H' q=some (.tup (ptV (wp t b)))→Q (.ref q) H')∧(¬ zr hs t b→∀H',Same H H'→E (.ref CO) none H'))∧(b<1→E (.ref CB) none H)
theorem qv6 {f:Aj}{fd:Ad}(F:Fun K "on_road" "Road.on_road" s_Road_on_road f fd)(T:Txt K mg qc qr qx qm qu wq wy qh wf wx qj qp qw qq)(c_width:MCal P w K mg base qp "width" 1 (Qk qp))(c_lowest:Cal P w K mg base "lowest" 2 (j7 qx)) :
  FnOk P w K mg base (CXE P w) 3 f fd ["self","point"] (Qx K qp qx qm):=by
 have sc:=Wp
 refine F.okX sc (λvs H Q E h=>by obtain ⟨r,p,hs,t,b,rfl,_⟩:=h;rfl) (λcdv A outer s H vs Q E hr h=>?_)
 obtain ⟨r,p,hs,t,b,rfl,hR,hok,hp,kq,x⟩:=h
 obtain ⟨dx,q,h1,h2⟩:=id hR
 refine ⟨_,(qk (Q9 (wm c_lowest (hr.mono (by decide)) rfl qf (zv (xm kj (pv 1) qy (λ_ _=>rfl)) (zv (xm kj (pv 1) qy (λ_ _=>rfl)) qz))) (jn rfl (zw (xp (i:=2) sc.nd rfl (by walk_at "loc")) (zw (xp (i:=3) sc.nd rfl (by walk_at "loc")) k4))))
   (qk (x9 (PW.pt (jy (w6 jr (pv 2) qy (w9 _)) (jz (w6 uy (pv 2) (wg xg (yf (pv 0) T.cl c_width (hr.mono (by decide)) qf) (pv 3)) (w9 _))))) (wj (z0 rfl T.x_OffRoad zu rfl T.g_OffRoad (xy vp qz))) xx)
   (wj (w8 (z9 (ww (pv 2) (ww (pv 3) qz))))))),?_⟩
 refine ⟨_,rfl,_,_,_,_,rfl,rfl,hp,rfl,_,rfl,_,_,_,_,rfl,rfl,hp,rfl,t,b,rfl,λhb=>⟨(kq hb).1.mono (by decide),λp1 n1=>?_⟩,λz=>x z⟩
 obtain ⟨sb,k1,k2⟩:=kq hb
 have s1:Same H (upd H p1 (.tup (ptV (wp t b)))):=Same.upd n1
 have hl:=hok.2.1
 refine ⟨p1,exI rfl ⟨SqT.new,rfl,_,_,rfl,_,_,rfl,rfl,?_⟩⟩
 refine exI rfl (wr rfl rfl (exI rfl ?_))
 refine ku (λq1=>?_) (λq1=>?_)
 ·refine jt ?_
  exact ⟨sz1,k2 (λz=>by have:=(Zw hb).mp q1;have:=z.1;lia) _ s1⟩
 ·refine exI rfl (exI rfl ⟨r,dx,exI rfl ⟨s1 _ _ h1,vk (by decide +kernel),r,hs,rfl,hR.same s1,exI rfl (wr rfl rfl ⟨IntMulOk.of_left (intBits_le_64 (by lia) (by lia)),wr rfl rfl (exI rfl ?_)⟩)⟩⟩)
  refine ku (λq2=>?_) (λq2=>?_)
  ·exact ⟨sz1,k2 (λz=>by have:=(qvt hb).mp q2;have:=z.2;lia) _ s1⟩
  ·refine exI rfl (exI rfl ⟨sz2,λp2 n2=>?_⟩)
   refine k1 ⟨?_,?_⟩ p2 _ (s1.trans (Same.upd n2)) qt
   ·rcases bT t 0 with z|z
    ·exact absurd ((Zw hb).mpr z) q1
    ·exact z
   ·rcases bT (((hs.length:Int)-1)*b) t with z|z
    ·exact absurd ((qvt hb).mpr z) q2
    ·exact z
def spAt (K:Aa)(C CB CO:Aj):Sp:=λvs H Q E=>∃(r p:Aj) (hs:List Int) (t b:Int),vs=[.ref r,.ref p]∧RoadAt C H r hs∧zq hs∧SqT K H p [.int t,.int b] ∧
 (1≤b→Sm 8000 b∧(zr hs t b→∀q H',Same H H'→H' q=some (.tup (ptV (js hs t b)))→Q (.ref q) H')∧(¬ zr hs t b→∀H',Same H H'→E (.ref CO) none H'))∧(b<1→E (.ref CB) none H)
theorem ok_at {f:Aj}{fd:Ad}(F:Fun K "at" "Road.at" s_Road_at f fd)(T:Txt K mg qc qr qx qm qu wq wy qh wf wx qj qp qw qq)(c_width:MCal P w K mg base qp "width" 1 (Qk qp))(c_lowest:Cal P w K mg base "lowest" 2 (j7 qx))(c_ends:MCal P w K mg base qp "ends" 2 (qvj qp wy))
  (c_on_road:MCal P w K mg base qp "on_road" 3 (Qx K qp qx qm)):FnOk P w K mg base (CXE P w) 4 f fd ["self","point"] (spAt K qp qx qm):=by
 have sc:=qv1
 refine F.okX sc (λvs H Q E h=>by obtain ⟨r,p,hs,t,b,rfl,_⟩:=h;rfl) (λcdv A outer s H vs Q E hr h=>?_)
 obtain ⟨r,p,hs,t,b,rfl,hR,hok,hp,kq,x⟩:=h
 obtain ⟨dx,q,h1,h2⟩:=id hR
 refine ⟨_,(qk (Q9 (xb (pv 0) T.cl c_on_road (hr.mono (by decide)) qf (ww (pv 1) qz)) (jn rfl (zw (xp (i:=2) sc.nd rfl (by walk_at "loc")) (zw (xp (i:=3) sc.nd rfl (by walk_at "loc")) k4))))
   (qk (wt (i:=4) sc.nd rfl (by walk_at "loc") (xq (Jh rfl) rfl T.min_ cW (zj (wg v5 (pv 2) (pv 3)) (zj (wg zh (yf (pv 0) T.cl c_width (hr.mono (by decide)) qf) qy) qz))))
   (qk (Q9 (xb (pv 0) T.cl c_ends (hr.mono (by decide)) qf (ww (pv 4) qz)) (jn rfl (zw (xp (i:=5) sc.nd rfl (by walk_at "loc")) (zw (xp (i:=6) sc.nd rfl (by walk_at "loc")) k4))))
   (qk (wt (i:=7) sc.nd rfl (by walk_at "loc") (wg zh (pv 2) (wg xg (pv 4) (pv 3))))
   (wj (w8 (wm c_lowest (hr.mono (by decide)) rfl qf (zj (wg xz (wg xg (pv 5) (pv 3)) (wg xg (wg zh (pv 6) (pv 5)) (pv 7))) (ww (pv 3) qz))))))))),?_⟩
 refine ⟨_,rfl,r,dx,_,rfl,h1,vk (by decide +kernel),_,rfl,r,p,hs,t,b,rfl,hR,hok,hp,λhb=>⟨(kq hb).1,λhon p1 H1 s1 f1=>?_,λhoff H1 s1=>(kq hb).2.2 hoff H1 s1⟩,λz=>x z⟩
 obtain ⟨sb,k1,k2⟩:=kq hb
 have hl1:=hok.1
 have hl2:=hok.2.1
 have hy:=Qm (t:=t) hb
 have hyb:=qzt (t:=t) hb
 have hx:0≤(wp t b).1:=by
  rcases bT (wp t b).1 0 with z|z
  ·have:=(Zw hb).mp z
   have:=hon.1
   lia
  ·exact z
 have hk:=quq (hs:=hs) hl1 hy hx
 have sy:Sm 9000 (wp t b).2:=(sb.of_le (by lia)).mono (by decide)
 refine ⟨p1,exI rfl ⟨SqT.of f1,rfl,_,_,rfl,_,_,rfl,rfl,?_⟩⟩
 refine exI rfl (exI rfl (wr rfl rfl ⟨⟨by lia,sy⟩,exI rfl ⟨r,dx,exI rfl ⟨s1 _ _ h1,vk (by decide +kernel),r,hs,rfl,hR.same s1,wr rfl rfl ⟨_,_,rfl,?_⟩⟩⟩⟩))
 refine ⟨_,rfl,r,dx,_,rfl,s1 _ _ h1,vk (by decide +kernel),V.int (kF hs (wp t b).1 (wp t b).2),rfl,r,hs,kF hs (wp t b).1 (wp t b).2,rfl,hR.same s1,λ_ _ p2 n2=>?_,λz=>absurd z (by lia)⟩
 have g1:=qkg hok (kF hs (wp t b).1 (wp t b).2)
 have g2:=qkg hok (kF hs (wp t b).1 (wp t b).2+1)
 refine ⟨p2,exI rfl ⟨SqT.new,rfl,_,_,rfl,_,_,rfl,rfl,?_⟩⟩
 refine exI rfl ⟨V.int (kF hs (wp t b).1 (wp t b).2),rfl,exI rfl (wr rfl rfl ⟨IntMulOk.of_left (intBits_le_64 (by lia) (by lia)),wr rfl rfl ?_⟩)⟩
 refine exI rfl (exI rfl (wr rfl rfl ⟨IntMulOk.of_left (intBits_le_64 (by lia) (by lia)),exI rfl (exI rfl (wr rfl rfl (exI rfl (wr rfl rfl ⟨IntMulOk.of_left (intBits_le_64 (by lia) (by lia)),wr rfl rfl (exI rfl ?_)⟩))))⟩))
 refine ⟨v9 hs (wp t b).1 (wp t b).2,(wp t b).2,rfl,λ_=>⟨sy,λp3 n3=>?_⟩,λz=>absurd z (by lia)⟩
 have e:wp (v9 hs (wp t b).1 (wp t b).2) (wp t b).2=js hs t b:=qqw hb
 rw [e]
 exact k1 hon p3 _ (s1.trans ((Same.upd n2).trans (Same.upd n3))) qt
theorem wx2 {hs:List Int}{wd:Int}(h:InW hs wd)(w1:1≤wd)(w2:wd≤24):zq hs:=by
 refine ⟨by have:=h.1;lia,by have:=h.1;lia,λx hx=>?_⟩
 have h1:=h.1
 have h2:=h.2 x hx
 lia
theorem qjr {H H':Hp}{x dx C:Aj}(nx:H x=none)(nd:H dx=none)(h:∀b o,upd (upd H dx (.own x)) x (.ins C dx []) b=some o→b≠x→H' b=some o):Same H H':=λb o e =>
 h b o (by rw [wc (qg e nx),wc (qg e nd)];exact e) (qg e nx)
theorem Same.upd2 {H H':Hp}{p:Aj}{o:HO}(s:Same H H')(n:H p=none):Same H (L2.upd H' p o):=λb u e=>by
 rw [wc (qg e n)]
 exact s b u e
theorem Z7 {K:Aa}{H:Hp}{p:Aj}{q:Int×Int}(h:SqT K H p [.int q.1,.int q.2]):RD K H (ptD q) (.ref p):=by
 unfold ptD
 rw [RD]
 exact ⟨p,exI rfl ⟨h,by rw [RDs];exact ⟨_,_,rfl,by rw [RD],by rw [RDs];exact ⟨_,_,rfl,by rw [RD],by rw [RDs]⟩⟩⟩⟩
theorem qvb {p q:Int×Int}:min (ptD p).depth (ptD q).depth≤60:=by simp [ptD,PyData.depth,PyData.depthAll]
theorem wxx {CB C:Aj}{H:Hp}{p x dx:Aj}{hs:List Int}{Pp:Hp→Prop}{E:XK}(f:H p=some (.lst (hs.map V.int)))(nx:H x=none)(nd:H dx=none)(k:zq hs→∀H',Same H H'→RoadAt C H' x hs→Pp H')(bad:¬ zq hs→∀H',Same H H'→E (.ref CB) none H') :
  qqs K CB C [.ref x,.ref p] (upd (upd H dx (.own x)) x (.ins C dx [])) (λr H2=>r=.non∧Pp H2) E:=by
 refine ⟨x,dx,p,hs,rfl,qt,SqL.of (by rw [wc (qg f nx),wc (qg f nd)];exact f),λok H4 q nq kp r l=>⟨rfl,k ok H4 (qjr nx nd kp) ⟨dx,q,r,l⟩⟩,λz=>bad z _ ?_⟩
 exact λb o e=>by rw [wc (qg e nx),wc (qg e nd)];exact e
theorem qus {hs:List Int}(ok:zq hs)(k:Int):0≤hAt hs k∧hAt hs k≤(hs.length:Int)-1:=by
 unfold hAt
 rw [ar]
 have:=ok.1
 cases e:hs[k.toNat]? with
 |none=>exact ⟨by decide,by show (0:Int)≤_;lia⟩
 |some v=>exact ok.2.2 v (aZ e)
theorem qky {hs:List Int}{t b:Int}(hok:zq hs)(hb:1≤b)(hon:zr hs t b):zr hs (v9 hs t b) b:=by
 have hl1:=hok.1
 have hk:=quq (hs:=hs) hl1 hb hon.1
 have g1:=qus hok (kF hs t b)
 have g2:=qus hok (kF hs t b+1)
 have e1:0≤t-kF hs t b*b∧t-kF hs t b*b≤b:=by
  have h1:t/b*b≤t:=eu t (by lia)
  have h2:=dq t (show 0<b by lia)
  unfold kF
  split
  ·next z =>
   have h3:=aG (show (hs.length:Int)-1-1≤t/b by lia) (show 0≤b by lia)
   have h4:=hon.2
   constructor
   ·lia
   ·have:((hs.length:Int)-1)*b=((hs.length:Int)-1-1)*b+b:=by grind
    lia
  ·have:(t/b+1)*b=t/b*b+b:=by grind
   constructor <;> lia
 have r:=qy9 (u:=hAt hs (kF hs t b)) (v:=hAt hs (kF hs t b+1)) e1.1 e1.2
 refine ⟨Int.le_trans ?_ r.1,Int.le_trans r.2 ?_⟩
 ·refine cU ?_ (by lia)
  split <;> lia
 ·refine aG ?_ (by lia)
  split <;> lia
theorem qvf {hs:List Int}{t b:Int}(hb:1≤b)(hon:zr hs t b):zr hs (wp t b).1 (wp t b).2:=by
 constructor
 ·rcases bT (wp t b).1 0 with z|z
  ·have:=(Zw hb).mp z
   have:=hon.1
   lia
  ·exact z
 ·rcases bT (((hs.length:Int)-1)*(wp t b).2) (wp t b).1 with z|z
  ·have:=(qvt hb).mp z
   have:=hon.2
   lia
  ·exact z
def itP (hs:List Int)(p:Int×Int):Nat→Int×Int
 |0=>p
 |n+1=>js hs (itP hs p n).1 (itP hs p n).2
def Pt (hs:List Int)(c:Int)(p:Int×Int):Prop:=1≤p.2∧p.2≤c∧gOf p.1 p.2=1∧zr hs p.1 p.2
theorem pt_low {hs:List Int}{t b:Int}(hb:1≤b)(hon:zr hs t b):Pt hs b (wp t b):=⟨Qm hb,qzt hb,qqp hb,qvf hb hon⟩
theorem wxy {hs:List Int}{c:Int}{p:Int×Int}(hok:zq hs)(h:Pt hs c p):Pt hs c (js hs p.1 p.2):=by
 have a:=pt_low h.1 (qky hok h.1 h.2.2.2)
 exact ⟨a.1,Int.le_trans a.2.1 h.2.1,a.2.2.1,a.2.2.2⟩
theorem qux {hs:List Int}{c:Int}{p:Int×Int}(hok:zq hs)(h:Pt hs c p):∀n,Pt hs c (itP hs p n)
 |0=>h
 |n+1=>wxy hok (qux hok h n)
def trT (hs:List Int)(t b:Int):Nat→Int
 |0=>t
 |n+1=>v9 hs (trT hs t b n) b
theorem Q7 {hs:List Int}{t b:Int}(hok:zq hs)(hb:1≤b)(hon:zr hs t b):∀n,zr hs (trT hs t b n) b
 |0=>hon
 |n+1=>qky hok hb (Q7 hok hb hon n)
theorem qq3 {hs:List Int}{t b:Int}(hb:1≤b):∀n,wp (trT hs t b n) b=itP hs (wp t b) n
 |0=>rfl
 |n+1=>by
  show js hs (trT hs t b n) b=js hs (itP hs (wp t b) n).1 (itP hs (wp t b) n).2
  rw [←qq3 hb n,qqw hb]
def ptsL (hs:List Int)(p:Int×Int)(n:Nat):List (Int×Int):=(List.range n).map (itP hs p)
theorem qzx (hs:List Int)(p:Int×Int)(n:Nat):(ptsL hs p n).length=n:=by
 unfold ptsL
 rw [ae,aC]
def PtR (H:Hp)(v:V)(p:Int×Int):Prop:=∃a,v=.ref a∧H a=some (.tup [.int p.1,.int p.2])
theorem PtR.same {H H':Hp}{v:V}{p:Int×Int}(h:PtR H v p)(s:Same H H'):PtR H' v p:=by
 obtain ⟨a,e,f⟩:=h
 exact ⟨a,e,s _ _ f⟩
theorem qx3 {α β:Type}{F G:α→β→Prop}(h:∀a b,F a b→G a b):∀ {l:List α} {m:List β},Paired F l m→Paired G l m
 |_,_,.nil=>.nil
 |_,_,.cons a t=>.cons (h _ _ a) (qx3 h t)
theorem qqc {α β:Type}{F:α→β→Prop}:∀ {l:List α} {m:List β} {i:Nat} {b:β},Paired F l m→m[i]?=some b→∃a,l[i]?=some a∧F a b
 |_,_,0,_,.cons a _,e=>by cases e;exact exI rfl a
 |_,_,i+1,_,.cons _ t,e=>qqc (i:=i) t e
def PtsAt (H:Hp)(q:Aj)(ps:List (Int×Int)):Prop:=∃vs,H q=some (.lst vs)∧Paired (PtR H) vs ps
theorem PtsAt.same {H H':Hp}{q:Aj}{ps:List (Int×Int)}(h:PtsAt H q ps)(s:Same H H'):PtsAt H' q ps:=by
 obtain ⟨vs,f,r⟩:=h
 exact ⟨vs,s _ _ f,qx3 (λ_ _ z=>z.same s) r⟩
def Dist {α:Type}(f:Nat→α)(n:Nat):Prop:=∀i j,i<j→j<n→f i≠f j
theorem Dist.mono {α:Type}{f:Nat→α}{m n:Nat}(h:Dist f n)(le:m≤n):Dist f m:=λi j a b=>h i j a (by lia)
theorem Dist.succ {α:Type}{f:Nat→α}{n:Nat}(h:Dist f n)(h':∀j,j<n→f j≠f n):Dist f (n+1):=λi j a b=>by
 rcases (by lia:j<n∨j=n) with z|z
 ·exact h i j a z
 ·subst z
  exact h' i a
theorem shift {α:Type}{f:Nat→α}(st:∀i j,f i=f j→f (i+1)=f (j+1)){n u:Nat}(e:f n=f u):∀k,f (n+k)=f (u+k)
 |0=>e
 |k+1=>st _ _ (shift st e k)
theorem per {α:Type}{f:Nat→α}(st:∀i j,f i=f j→f (i+1)=f (j+1)){n u:Nat}(hu:u<n)(e:f n=f u)(m:Nat):u≤m→f m=f (u+(m-u)%(n-u)):=by
 induction m using Nat.strongRecOn with
 |_ m ih =>
  intro hm
  rcases ef m n with z|z
  ·rw [Nat.mod_eq_of_lt (by lia)]
   congr 1
   lia
  ·have h1:=shift st e (m-n)
   rw [show n+(m-n)=m by lia] at h1
   have h2:=ih (u+(m-n)) (by lia) (by lia)
   rw [h1,h2,show u+(m-n)-u=m-u-(n-u) by lia,←Nat.mod_eq_sub_mod (by lia)]
theorem qkk {m:Int}{n u:Nat}(h:(u:Int)≤m)(hu:u<n):(u:Int)+(m-u)%((n:Int)-u)=((u+(m.toNat-u)%(n-u):Nat):Int):=by
 have e1:m-(u:Int)=((m.toNat-u:Nat):Int):=by lia
 have e2:(n:Int)-(u:Int)=((n-u:Nat):Int):=by lia
 rw [e1,e2]
 push_cast
 rfl
theorem pig (N:Nat):∀l:List Nat,l.Nodup→(∀x∈l,x<N)→l.length≤N:=by
 induction N with
 |zero =>
  intro l _ h
  cases l with
  |nil=>exact af _
  |cons a r=>exact absurd (h a (.head _)) (by lia)
 |succ N ih =>
  intro l nd h
  by_cases m:N∈l
  ·have h1:=ih (l.erase N) (nd.erase N) λx hx=>by
    have a:=(nd.mem_erase_iff.mp hx)
    have b:=h x a.2
    lia
   rw [List.length_erase_of_mem m] at h1
   lia
  ·have:=ih l nd λx hx=>by
    have b:=h x hx
    have:x≠N:=λz=>m (z▸hx)
    lia
   lia
theorem pigI {f:Nat→Int}{n:Nat}{B:Int}(h:Dist f n)(b:∀i,0≤f i∧f i≤B):(n:Int)≤B+1:=by
 have h1:=pig (B+1).toNat ((List.range n).map λi=>(f i).toNat) (by
  rw [List.nodup_iff_pairwise_ne,bF]
  refine bx ?_ (cV (n:=n))
  intro i j hi hj hij e
  have:=b i
  have:=b j
  exact h i j hij (aL.mp hj) (by lia)) λx hx=>by
   obtain ⟨i,_,rfl⟩:=aN.mp hx
   have:=b i
   lia
 rw [ae,aC] at h1
 have:=b 0
 lia
theorem it_st {hs:List Int}{p:Int×Int}:∀i j,itP hs p i=itP hs p j→itP hs p (i+1)=itP hs p (j+1):=λi j e=>by
 show js hs (itP hs p i).1 (itP hs p i).2=js hs (itP hs p j).1 (itP hs p j).2
 rw [e]
theorem qvy {hs:List Int}{p:Int×Int}(m:Nat):∀n,itP hs (itP hs p m) n=itP hs p (m+n)
 |0=>rfl
 |n+1=>by
  show js hs (itP hs (itP hs p m) n).1 (itP hs (itP hs p m) n).2=_
  rw [qvy m n]
  rfl
theorem qqt {t b:Int}(hb:1≤b)(g:gOf t b=1):wp t b=(t,b):=by
 unfold wp
 rw [g,Int.ediv_one,Int.ediv_one]
theorem it_tr {hs:List Int}{c:Int}{p:Int×Int}(h:Pt hs c p)(n:Nat):itP hs p n=wp (trT hs p.1 p.2 n) p.2:=by
 rw [qq3 h.1,qqt h.1 h.2.2.1]
theorem wwp {x y b:Int}(hb:1≤b)(e:wp x b=wp y b):x=y:=by
 have h1:=(qqy (N:=x) hb).2
 have h2:=(qqy (N:=y) hb).2
 rw [e] at h1
 lia
theorem it_eq {hs:List Int}{c:Int}{p:Int×Int}(h:Pt hs c p)(i j:Nat):itP hs p i=itP hs p j↔trT hs p.1 p.2 i=trT hs p.1 p.2 j:=by
 rw [it_tr h,it_tr h]
 exact ⟨λe=>wwp h.1 e,λe=>by rw [e]⟩
def jf (p:Int×Int):List Key:=[.inl p.1,.inl p.2]
theorem qw6 {p q:Int×Int}(e:jf p=jf q):p=q:=by
 unfold jf at e
 simp only [List.cons.injEq,Sum.inl.injEq,and_true] at e
 exact Prod.ext e.1 e.2
def vd {κ:Type}(k:Nat→κ)(n:Nat):List (κ×V):=(List.range n).map λi=>(k i,V.int i)
theorem Wx {κ:Type}(k:Nat→κ)(n:Nat):vd k (n+1)=vd k n++[(k n,V.int n)]:=by
 unfold vd
 rw [bQ,aT]
 rfl
theorem v6 {κ:Type}(k:Nat→κ)(n:Nat):(vd k n).length=n:=by
 unfold vd
 rw [ae,aC]
theorem Q2 {κ:Type}[DecidableEq κ]{k:Nat→κ}{q:κ}{n:Nat}(h:∀j,j<n→k j≠q):xv (vd k n) q=none:=by
 unfold xv vd
 rw [dM.mpr]
 ·rfl
 ·intro x hx
  obtain ⟨i,hi,rfl⟩:=aN.mp hx
  simpa using h i (aL.mp hi)
theorem Q3 {κ:Type}[DecidableEq κ]{k:Nat→κ}{j:Nat}:∀ {n:Nat},Dist k n→j<n→xv (vd k n) (k j)=some (.int j)
 |0,_,h=>absurd h (by lia)
 |n+1,d,h=>by
  rw [Wx,Wz _ _ _ _ (Q2 λi hi=>d i n hi (by lia))]
  rcases (by lia:j<n∨j=n) with z|z
  ·rw [aj (d j n z (by lia)),Q3 (d.mono (by lia)) z]
  ·subst z
   rw [ak rfl]
theorem qkm {α β γ δ:Type}{F:α→β→Prop}{G:α→γ→Prop}(g:δ→β)(f:δ→γ)(h:∀a x,F a (g x)→G a (f x)):∀ {l:List δ} {vs:List α},Paired F vs (l.map g)→Paired G vs (l.map f)
 |[],_,.nil=>.nil
 |_::_,_,.cons a t=>.cons (h _ _ a) (qkm g f h t)
def qq2:Sp:=λvs H Q _=>∃i:Int,vs=[.int i]∧Q (.bl true) H
theorem quf {f:Aj}{fd:Ad}(F:Fun K "_law_whole" "_law_whole" s__law_whole f fd)(T:Txt K mg qc qr qx qm qu wq wy qh wf wx qj qp qw qq):FnOk P w K mg base (CXE P w) 1 f fd ["_law_found"] qq2:=by
 have sc:=Y3
 refine F.okX sc (λvs H Q E h=>by obtain ⟨i,rfl,_⟩:=h;rfl) (λcdv A outer s H vs Q E hr h=>?_)
 obtain ⟨i,rfl,k⟩:=h
 refine ⟨_,(wj (w8 (qv9 (xq jv rfl T.isinstance_ bI (ww (pv 0) (ww (Zq (v:=V.ty "int") rfl T.int_ PyProof.Rows.boot_int rfl) qz))) (qvn (pe_not (xq jv rfl T.isinstance_ bI (ww (pv 0) (ww (Zq (v:=V.ty "bool") rfl T.bool_ PyProof.Rows.boot_bool rfl) qz)))))))),?_⟩
 refine exI rfl ⟨_,_,_,_,rfl,TyOf.int i,rfl,_,rfl,?_⟩
 refine jt ?_
 refine exI rfl ⟨_,_,_,_,rfl,TyOf.int i,rfl,_,rfl,?_⟩
 exact k
def W8 (K:Aa):Sp:=λvs H Q _=>∃p x y,vs=[.ref p]∧H p=some (.tup [.int x,.int y])∧1≤y∧gOf x y=1∧Q (.bl true) H
theorem wq8 {f:Aj}{fd:Ad}(F:Fun K "_law_point" "_law_point" s__law_point f fd)(T:Txt K mg qc qr qx qm qu wq wy qh wf wx qj qp qw qq)(c__law_whole:Cal P w K mg base "_law_whole" 1 qq2)(c__law_common:Cal P w K mg base "_law_common" 1 Zj) :
  FnOk P w K mg base (CXE P w) 2 f fd ["_law_found"] (W8 K):=by
 have sc:=Jz
 refine F.okX sc (λvs H Q E h=>by obtain ⟨p,x,y,rfl,_⟩:=h;rfl) (λcdv A outer s H vs Q E hr h=>?_)
 obtain ⟨p,x,y,rfl,hp,y1,hg,k⟩:=h
 have hq:SqT K H p [.int x,.int y]:=SqT.of hp
 refine ⟨_,(qk (x9 (PW.pt (jy (uw (y8 (xq jv rfl T.isinstance_ bI (ww (pv 0) (ww (Zq (v:=V.ty "tuple") rfl T.tuple_ PyProof.Rows.boot_tuple rfl) qz))))) (jz (w6 op_ne (xq xf rfl T.len_ aM (ww (pv 0) qz)) qy (w9 _))))) (wj (w8 Wc)) xx)
   (qk (x9 (PW.pt (jy (uw (y8 (wm c__law_whole (hr.mono (by decide)) rfl qf (zv (xm kj (pv 0) qy (λ_ _=>rfl)) qz)))) (jy (uw (y8 (wm c__law_whole (hr.mono (by decide)) rfl qf (zv (xm kj (pv 0) qy (λ_ _=>rfl)) qz)))) (jz (w6 jr (xm kj (pv 0) qy (λ_ _=>rfl)) qy (w9 _)))))) (wj (w8 Wc)) xx)
   (wj (w8 (yy kh (wm c__law_common (hr.mono (by decide)) rfl qf (jj (xq j4 rfl T.abs_ j3 (zv (xm kj (pv 0) qy (λ_ _=>rfl)) qz)) (zv (xm kj (pv 0) qy (λ_ _=>rfl)) qz))) qy (w9 _)))))),?_⟩
 refine exI rfl ⟨_,_,_,_,rfl,TyOf.tup hp,rfl,_,rfl,?_⟩
 refine yw ?_
 refine exI rfl ⟨_,_,rfl,.inr hq,rfl,_,rfl,?_⟩
 refine yw ?_
 refine exI rfl (exX rfl rfl hq rfl ⟨x,rfl,_,rfl,?_⟩)
 refine yw ?_
 refine exI rfl (exX rfl rfl hq rfl ⟨y,rfl,_,rfl,?_⟩)
 refine yw ?_
 refine exI rfl (exX rfl rfl hq rfl (wr rfl rfl (exI rfl ?_)))
 refine ku (λq2=>absurd q2 (by lia)) (λq2=>?_)
 refine exI rfl (exX rfl rfl hq rfl (exI rfl (exI rfl (exX rfl rfl hq rfl ⟨ju x,y,rfl,qwx x,(by lia),rfl,?_⟩))))
 have e:Wy (ju x) y=1:=hg
 rw [e]
 exact k
end
section
variable {P:Ac}{w:Ah}{K:Aa}{mg:Str→Option Ag}{base:Heap}{qc:Aj}{qr:Aj}{qx:Aj}{qm:Aj}{qu:Aj}{wq:Aj}{wy:Aj}{qh:Aj}{wf:Aj}{wx:Aj}{qj:Aj}{qp:Aj}{qw:Aj}{qq:Aj}
def qw3 (C CT:Aj):Sp:=λvs H Q E=>∃(r a:Aj) (hs:List Int) (p:Int×Int) (c:Int),vs=[.ref r,.ref a]∧RoadAt C H r hs∧zq hs∧H a=some (.tup [.int p.1,.int p.2])∧Pt hs c p∧Sm 8000 c ∧
 (∀n u q l H',n≤1000→Dist (itP hs p) n→u<n→itP hs p n=itP hs p u→Same H H'→H l=none→H' q=some (.tup [.ref l,.int ((u:Nat):Int)])→PtsAt H' l (ptsL hs p n)→Q (.ref q) H')∧(Dist (itP hs p) 1001→∀H',Same H H'→E (.ref CT) none H')
theorem wqk {f:Aj}{fd:Ad}(F:Fun K "trace" "trace" s_trace f fd)(T:Txt K mg qc qr qx qm qu wq wy qh wf wx qj qp qw qq)(c_at:MCal P w K mg base qp "at" 4 (spAt K qp qx qm)):FnOk P w K mg base (CXE P w) 5 f fd ["road","start"] (qw3 qp wq):=by
 have sc:=wq9
 refine F.okX sc (λvs H Q E h=>by obtain ⟨r,a,hs,p,c,rfl,_⟩:=h;rfl) (λcdv A outer s H vs Q E hr h=>?_)
 obtain ⟨r,a,hs,p,c,rfl,hR,hok,ha,hP,sc8,k,x⟩:=h
 obtain ⟨dx,q0,h1,h2⟩:=id hR
 obtain ⟨tm,g_LONGEST_TRACE⟩:=T.g_LONGEST_TRACE
 refine ⟨_,(qk (wt (i:=2) sc.nd rfl (by walk_at "loc") wqp)
   (qk (wt (i:=3) sc.nd rfl (by walk_at "loc") (pv 1))
   (qk (Qu aY (Yk (yc (vf hr) (pv 3) (pv 2))) (qk (x9 (w6 kh (xq Js rfl T.len_ aM (ww (pv 2) qz)) (jm (v:=V.int 1000) rfl g_LONGEST_TRACE ⟨_,rfl⟩) (w9 _)) (wj (z0 rfl T.x_TooLong zu rfl T.g_TooLong (xy vp qz))) xx)
   (qk (Zx (vf hr) (pv 2) (pv 3) (xq Js rfl T.len_ aM (ww (pv 2) qz)) rfl)
   (wj (wt (i:=3) sc.nd rfl (by walk_at "loc") (xb (pv 0) T.cl c_at (hr.mono (by decide)) qf (ww (pv 3) qz)))))))
   (wj (w8 (z9 (jj (yb (qz0 rfl) rfl T.list_ cg (ww (pv 2) qz)) (zv (jh (vf hr) (pv 2) (pv 3) (λ_ _=>rfl)) qz)))))))),?_⟩
 refine λD nD=>exI rfl ?_
 refine Yq (λσ H2=>∃(i:Nat) (b:Aj),σ=[some (.ref r),some (.ref a),some (.ref D),some (.ref b)]∧i≤1000∧Dist (itP hs p) i∧Same H H2∧H2 D=some (.dT (vd (λj=>jf (itP hs p j)) i))∧H2 b=some (.tup [.int (itP hs p i).1,.int (itP hs p i).2]))
  (λ_ H2=>match H2 D with|some (.dT kvs)=>1001-kvs.length|_=>0) ⟨0,a,rfl,by lia,λi j _ z=>absurd z (by lia),Same.upd nD,qt,by rw [wc (qg ha nD)];exact ha⟩ ?_ λσ H Q Q' h ⟨v,e,v2,e2,a',o,e3,g,kk,e4,q⟩=>⟨v,e,v2,e2,a',o,e3,g,kk,e4,h _ _ q⟩
 rintro σ H2 ⟨i,b,rfl,hi,hd,s2,f2,fb⟩
 have hd':Dist (λj=>jf (itP hs p j)) i:=λu v uv vi e=>hd u v uv vi (qw6 e)
 have fb':H2 b=some (.tup ((jf (itP hs p i)).map kV)):=fb
 by_cases hj:∃j,j<i∧itP hs p j=itP hs p i
 ·obtain ⟨j,ji,je⟩:=hj
  have hv:xv (vd (λj=>jf (itP hs p j)) i) (jf (itP hs p i))=some (.int j):=by
   rw [←je]
   exact Q3 hd' ji
  have dg:DGet H2 D (.ref b) (some (.int j)):=by
   have:=DGet.t f2 fb'
   rwa [hv] at this
  refine exI rfl (exI rfl ⟨D,exI rfl ⟨dg,_,rfl,?_⟩⟩)
  refine yw ?_
  refine exI rfl ⟨D,exI rfl ⟨f2,λl vs nl kat=>?_⟩⟩
  have s3:=Same.upd (o:=.lst vs) nl
  have dg3:DGet (upd H2 l (.lst vs)) D (.ref b) (some (.int j)):=by
   have:=DGet.t (s3 _ _ f2) (s3 _ _ fb')
   rwa [hv] at this
  refine exI rfl (exI rfl ⟨D,exI rfl ⟨dg3,sz2,λq nq=>?_⟩⟩)
  have s4:=s3.trans (Same.upd (o:=.tup [.ref l,.int j]) nq)
  have nl0:H l=none:=by
   cases e:H l with
   |none=>rfl
   |some o=>rw [s2 _ _ e] at nl;cases nl
  refine k i j q l _ hi hd ji je.symm (s2.trans s4) nl0 qt ⟨vs,Same.upd nq _ _ qt,?_⟩
  refine qkm (l:=List.range i) (λj=>(jf (itP hs p j),V.int j)) (itP hs p) (λv j hv=>?_) kat
  obtain ⟨b',rfl,fb2⟩:=hv
  exact ⟨b',rfl,s4 _ _ fb2⟩
 ·have hn:∀j,j<i→itP hs p j≠itP hs p i:=λj a b=>hj ⟨j,a,b⟩
  have hv:xv (vd (λj=>jf (itP hs p j)) i) (jf (itP hs p i))=none:=Q2 λj a b=>hn j a (qw6 b)
  have dg:DGet H2 D (.ref b) none:=by
   have:=DGet.t f2 fb'
   rwa [hv] at this
  have hd1:=hd.succ hn
  refine exI rfl (exI rfl ⟨D,exI rfl ⟨dg,_,rfl,?_⟩⟩)
  refine jt ?_
  refine exI rfl ⟨D,exI rfl ⟨f2,rfl,_,rfl,?_⟩⟩
  rw [v6]
  refine k8 (λq1=>?_) (λq1=>?_)
  ·have:i=1000:=by lia
   subst this
   exact ⟨sz1,x hd1 _ s2⟩
  ·refine exI rfl ⟨D,exI rfl ⟨f2,exI rfl (exI rfl ⟨D,exI rfl ⟨DPut.t f2 fb' (qjg (by rw [v6];lia)),?_⟩⟩)⟩⟩
   rw [jw _ hv,v6,←Wx (λj=>jf (itP hs p j)) i]
   have s3:Same H (upd H2 D (.dT (vd (λj=>jf (itP hs p j)) (i+1)))):=Same.upd2 s2 nD
   have db:b≠D:=λz=>by rw [z,f2] at fb;cases fb
   have fb3:upd H2 D (.dT (vd (λj=>jf (itP hs p j)) (i+1))) b=some (.tup [.int (itP hs p i).1,.int (itP hs p i).2]):=by rw [wc db];exact fb
   have f3:upd H2 D (.dT (vd (λj=>jf (itP hs p j)) (i+1))) D=some (.dT (vd (λj=>jf (itP hs p j)) (i+1))):=qt
   generalize upd H2 D (.dT (vd (λj=>jf (itP hs p j)) (i+1)))=H3 at s3 fb3 f3
   have Pn:=qux hok hP i
   refine ⟨_,rfl,r,dx,_,rfl,s3 _ _ h1,vk (by decide +kernel),_,rfl,r,b,hs,(itP hs p i).1,(itP hs p i).2,rfl,hR.same s3,hok,SqT.of fb3,λ_=>⟨(sc8.of_le (by have:=Pn.2.1;have:=Pn.1;lia)),λ_ p4 H4 s4 f4=>?_,λz=>absurd Pn.2.2.2 z⟩,λz=>absurd Pn.1 (by lia)⟩
   refine ⟨⟨i+1,p4,rfl,by lia,hd1,s3.trans s4,s4 _ _ f3,f4⟩,?_⟩
   show (match H4 D with|some (.dT kvs)=>1001-kvs.length|_=>0)<(match H2 D with|some (.dT kvs)=>1001-kvs.length|_=>0)
   rw [s4 _ _ f3,f2]
   show 1001-(vd (λj=>jf (itP hs p j)) (i+1)).length<1001-(vd (λj=>jf (itP hs p j)) i).length
   rw [v6,v6]
   lia
def TrAt (H:Hp)(l:Aj)(hs:List Int)(p:Int×Int)(n u:Nat):Prop:=n≤1000∧Dist (itP hs p) n∧u<n∧itP hs p n=itP hs p u∧PtsAt H l (ptsL hs p n)
def qz5:Sp:=λvs H Q _=>∃(l:Aj) (hs:List Int) (p:Int×Int) (n u:Nat) (m:Int),vs=[.ref l,.int u,.int m]∧TrAt H l hs p n u∧0≤m∧∀a,H a=some (.tup [.int (itP hs p m.toNat).1,.int (itP hs p m.toNat).2])→Q (.ref a) H
theorem qz4 {H:Hp}{hs:List Int}{p:Int×Int}{n i:Nat}{vs:List V}(h:Paired (PtR H) vs (ptsL hs p n))(hi:i<n):∃a,vs[i]?=some (.ref a)∧H a=some (.tup [.int (itP hs p i).1,.int (itP hs p i).2]):=by
 obtain ⟨v,ev,⟨a,rfl,fa⟩⟩:=qqc (i:=i) (b:=itP hs p i) h (by
  unfold ptsL
  rw [aI,cI hi]
  rfl)
 exact ⟨a,ev,fa⟩
theorem wwn {f:Aj}{fd:Ad}(F:Fun K "spot" "spot" s_spot f fd)(T:Txt K mg qc qr qx qm qu wq wy qh wf wx qj qp qw qq):FnOk P w K mg base (CXE P w) 1 f fd ["points","turn","many"] qz5:=by
 have sc:=wwr
 refine F.okX sc (λvs H Q E h=>by obtain ⟨l,hs,p,n,u,m,rfl,_⟩:=h;rfl) (λcdv A outer s H vs Q E hr h=>?_)
 obtain ⟨l,hs,p,n,u,m,rfl,⟨n1,hd,hu,e,vs,fl,pr⟩,m0,k⟩:=h
 have hlen:vs.length=n:=by rw [pr.length,qzx]
 refine ⟨_,(qk (x9 (w6 jr (pv 2) (pv 1) (w9 _)) (wj (w8 (xm xk (pv 0) (pv 2) (λ_ _=>rfl)))) xx)
   (wj (w8 (xm xk (pv 0) (wg xz (pv 1) (wg zm (wg zh (pv 2) (pv 1)) (wg zh (xq xf rfl T.len_ aM (ww (pv 0) qz)) (pv 1)))) (λ_ _=>rfl))))),?_⟩
 refine exI rfl (exI rfl (wr rfl rfl (exI rfl ?_)))
 refine ku (λq1=>?_) (λq1=>?_)
 ·obtain ⟨a,ea,fa⟩:=qz4 (i:=m.toNat) pr (by lia)
  refine exI rfl (exI rfl (exX rfl rfl (SqL.of fl) ?_ (k a fa)))
  have:=xt ea
  rwa [cG m0] at this
 ·have hm:(u:Int)≤m:=by lia
  have lt:=cB (m.toNat-u) (show 0<n-u by lia)
  obtain ⟨a,ea,fa⟩:=qz4 (i:=u+(m.toNat-u)%(n-u)) pr (by lia)
  rw [←per it_st hu e m.toNat (by lia)] at fa
  refine exI rfl (exI rfl (exI rfl (exI rfl (wr rfl rfl (exI rfl ⟨_,_,rfl,.inl (SqL.of fl),exI rfl (wr rfl rfl (wr rfl rfl ⟨?_,wr rfl rfl (exX rfl rfl (SqL.of fl) ?_ (k a fa))⟩))⟩)))))
  ·rw [hlen]
   show (0:Int)<(n:Int)-u
   lia
  ·rw [hlen,qkk hm hu]
   exact xt ea
def qvd (K:Aa):Sp:=λvs H Q _=>∃(p:Aj) (hs:List Int) (t b:Int),vs=[.ref p,.int t,.int b]∧SqL K H p (hs.map V.int)∧zq hs∧1≤b∧Sm 4000 b∧zr hs t b∧Q (.int (v9 hs t b)) H
theorem ww2 {f:Aj}{fd:Ad}(F:Fun K "_law_step" "_law_step" s__law_step f fd)(T:Txt K mg qc qr qx qm qu wq wy qh wf wx qj qp qw qq):FnOk P w K mg base (CXE P w) 1 f fd ["_law_heights_here","_law_top","_law_bottom"] (qvd K):=by
 have sc:=qwr
 refine F.okX sc (λvs H Q E h=>by obtain ⟨p,hs,t,b,rfl,_⟩:=h;rfl) (λcdv A outer s H vs Q E hr h=>?_)
 obtain ⟨p,hs,t,b,rfl,hS,hok,hb,sb,hon,k⟩:=h
 rw [←wqq hok.1 hb hon.1 hon.2] at k
 have hl:=hok.2.1
 have k0:=eo hon.1 (show (0:Int)≤b by lia)
 have k1:t/b≤(hs.length:Int)-1:=by
  have:=Int.ediv_le_ediv (show 0<b by lia) hon.2
  rwa [Int.mul_ediv_cancel _ (show b≠0 by lia)] at this
 have g1:=qkg hok (t/b)
 have g2:=qkg hok (t/b+1)
 refine ⟨_,(qk (wt (i:=3) sc.nd rfl (by walk_at "loc") (wg v5 (pv 1) (pv 2)))
   (qk (x9 (w6 kh (wg xg (pv 3) (pv 2)) (pv 1) (w9 _)) (wj (w8 (wg xg (xm xk (pv 0) (pv 3) (λ_ _=>rfl)) (pv 2)))) xx)
   (wj (w8 (wg xz (wg xg (xm xk (pv 0) (pv 3) (λ_ _=>rfl)) (pv 2)) (wg xg (wg zh (xm xk (pv 0) (wg xz (pv 3) qy) (λ_ _=>rfl)) (xm xk (pv 0) (pv 3) (λ_ _=>rfl))) (wg zh (pv 1) (wg xg (pv 3) (pv 2))))))))),?_⟩
 refine exI rfl (exI rfl (wr rfl rfl ⟨⟨by lia,sb.mono (by decide)⟩,exI rfl (exI rfl (wr rfl rfl ⟨IntMulOk.of_left (intBits_le_64 (by lia) (by lia)),exI rfl ⟨rfl,_,rfl,?_⟩⟩))⟩))
 refine k8 (λq1=>?_) (λq1=>?_)
 ·refine exI rfl (exI rfl (exX rfl rfl hS (at_h k0 (by lia)) (exI rfl (wr rfl rfl ⟨IntMulOk.of_left (intBits_le_64 (by lia) (by lia)),?_⟩))))
  rw [qkb,ak q1] at k
  exact k
 ·have k2:t/b<(hs.length:Int)-1:=by
   rcases bT (t/b) ((hs.length:Int)-1) with z|z
   ·exact z
   ·have e:t/b=(hs.length:Int)-1:=by lia
    have h1:t/b*b≤t:=eu t (by lia)
    have h2:=hon.2
    rw [←e] at h2
    exact absurd (by lia) q1
  refine exI rfl (exI rfl (exX rfl rfl hS (at_h k0 (by lia)) (exI rfl (wr rfl rfl ⟨IntMulOk.of_left (intBits_le_64 (by lia) (by lia)),exI rfl (exI rfl (wr rfl rfl (exX rfl rfl hS (at_h (by lia) (by lia)) (exI rfl (exI rfl (exX rfl rfl hS (at_h k0 (by lia)) (wr rfl rfl (exI rfl (exI rfl (exI rfl (wr rfl rfl ⟨IntMulOk.of_left (intBits_le_64 (by lia) (by lia)),wr rfl rfl (wr rfl rfl ⟨IntMulOk.of_left (intBits_le_64 (by lia) (by lia)),wr rfl rfl ?_⟩)⟩)))))))))))⟩))))
  rw [qkb,aj q1] at k
  exact k
theorem Zp {H:Hp}{D:Aj}{kvs:List (Key×V)}{i:Int}{o:Option V}(f:H D=some (.dK kvs))(e:xv kvs (.inl i)=o):DGet H D (.int i) o:=by
 have:=DGet.k (k:=.inl i) f
 rwa [e] at this
def Zb (K:Aa):Sp:=λvs H Q _=>∃(p:Aj) (hs:List Int) (t b:Int),vs=[.ref p,.int t,.int b]∧SqL K H p (hs.map V.int)∧zq hs∧1≤b∧b≤10000∧zr hs t b ∧
 (∀n u q l H',Dist (trT hs t b) n→u<n→trT hs t b n=trT hs t b u→n≤300000→Same H H'→H l=none→H' q=some (.tup [.ref l,.int ((u:Nat):Int)])→H' l=some (.lst (((List.range n).map (trT hs t b)).map V.int))→Q (.ref q) H')
theorem qqk {n:Nat}(h:n≤1000000):n<sizeLine:=cO h (by decide)
theorem qj7 {f:Aj}{fd:Ad}(F:Fun K "_law_trace" "_law_trace" s__law_trace f fd)(T:Txt K mg qc qr qx qm qu wq wy qh wf wx qj qp qw qq)(c__law_step:Cal P w K mg base "_law_step" 1 (qvd K)):FnOk P w K mg base (CXE P w) 2 f fd ["_law_heights_here","_law_top","_law_bottom"] (Zb K):=by
 have sc:=Y1
 refine F.okX sc (λvs H Q E h=>by obtain ⟨p,hs,t,b,rfl,_⟩:=h;rfl) (λcdv A outer s H vs Q E hr h=>?_)
 obtain ⟨p,hs,t,b,rfl,hS,hok,hb,hb2,hon,k⟩:=h
 have hl:=hok.2.1
 have sb:Sm 4000 b:=(Sm.small (n:=65) (by lia) (by lia) (by decide)).mono (by decide)
 have bnd:∀n,Dist (trT hs t b) n→n≤250000:=λn d=>by
  have h1:=pigI d λi=>Q7 hok hb hon i
  have h2:=Int.mul_le_mul (show (hs.length:Int)-1≤24 by lia) hb2 (by lia) (by decide)
  lia
 refine ⟨_,(qk (wt (i:=3) sc.nd rfl (by walk_at "loc") jq)
   (qk (wt (i:=4) sc.nd rfl (by walk_at "loc") (uq qz))
   (qk (Qu aY (Yk (yc (vf hr) (pv 1) (pv 3))) (qk (Zx (vf hr) (pv 3) (pv 1) (xq xf rfl T.len_ aM (ww (pv 4) qz)) rfl)
   (qk (zd (qxk bG bz bA vh (pv 4) (ww (pv 1) qz)))
   (wj (wt (i:=1) sc.nd rfl (by walk_at "loc") (wm c__law_step (hr.mono (by decide)) rfl qf (ww (pv 0) (ww (pv 1) (ww (pv 2) qz)))))))))
   (wj (w8 (z9 (ww (pv 4) (zv (jh (vf hr) (pv 3) (pv 1) (λ_ _=>rfl)) qz)))))))),?_⟩
 refine λD nD=>⟨sz0,λl nl=>?_⟩
 have dDl:D≠l:=qg (show upd H D (.dK []) D=some (.dK []) from qt) nl
 have nl0:H l=none:=by
  cases e:H l with
  |none=>rfl
  |some o=>rw [Same.upd nD _ _ e] at nl;cases nl
 refine Yq (λσ H2=>∃(i:Nat),σ=[some (.ref p),some (.int (trT hs t b i)),some (.int b),some (.ref D),some (.ref l)]∧Dist (trT hs t b) i∧Same H H2∧H2 D=some (.dK (vd (λj=>Sum.inl (trT hs t b j)) i))∧H2 l=some (.lst (((List.range i).map (trT hs t b)).map V.int)))
  (λ_ H2=>match H2 D with|some (.dK kvs)=>250001-kvs.length|_=>0) ⟨0,rfl,λi j _ z=>absurd z (by lia),(Same.upd nD).trans (Same.upd nl),by rw [wc dDl,qt];rfl,qt⟩ ?_ λσ H Q Q' h ⟨v,e,v2,e2,a',o,e3,g,kk,e4,q⟩=>⟨v,e,v2,e2,a',o,e3,g,kk,e4,h _ _ q⟩
 rintro σ H2 ⟨i,rfl,hd,s2,f2,fl⟩
 have hd':Dist (λj=>(Sum.inl (trT hs t b j):Key)) i:=λu v uv vi e=>hd u v uv vi (Sum.inl.inj e)
 have hbi:=bnd i hd
 have hlen:(((List.range i).map (trT hs t b)).map V.int).length=i:=by rw [ae,ae,aC]
 by_cases hj:∃j,j<i∧trT hs t b j=trT hs t b i
 ·obtain ⟨j,ji,je⟩:=hj
  have hv:xv (vd (λj=>(Sum.inl (trT hs t b j):Key)) i) (.inl (trT hs t b i))=some (.int j):=by
   rw [←je]
   exact Q3 hd' ji
  refine exI rfl (exI rfl ⟨D,exI rfl ⟨Zp f2 hv,_,rfl,?_⟩⟩)
  refine yw ?_
  refine exI rfl (exI rfl (exI rfl ⟨D,exI rfl ⟨Zp f2 hv,sz2,λq nq=>?_⟩⟩))
  have s3:=Same.upd (o:=.tup [.ref l,.int j]) nq
  exact k i j q l _ hd ji je.symm (by lia) (s2.trans s3) nl0 qt (s3 _ _ fl)
 ·have hn:∀j,j<i→trT hs t b j≠trT hs t b i:=λj a b=>hj ⟨j,a,b⟩
  have hv:xv (vd (λj=>(Sum.inl (trT hs t b j):Key)) i) (.inl (trT hs t b i))=none:=Q2 λj a b=>hn j a (Sum.inl.inj b)
  have hd1:=hd.succ hn
  have hb1:=bnd (i+1) hd1
  refine exI rfl (exI rfl ⟨D,exI rfl ⟨Zp f2 hv,_,rfl,?_⟩⟩)
  refine jt ?_
  refine exI rfl ⟨_,_,rfl,.inl (SqL.of fl),exI rfl (exI rfl ⟨D,exI rfl ⟨DPut.k (k:=.inl (trT hs t b i)) f2 (qqk (by rw [v6];lia)),?_⟩⟩)⟩
  rw [jw _ hv,hlen,←Wx (λj=>(Sum.inl (trT hs t b j):Key)) i]
  have s3:Same H (upd H2 D (.dK (vd (λj=>(Sum.inl (trT hs t b j):Key)) (i+1)))):=Same.upd2 s2 nD
  have fl3:upd H2 D (.dK (vd (λj=>(Sum.inl (trT hs t b j):Key)) (i+1))) l=some (.lst (((List.range i).map (trT hs t b)).map V.int)):=by rw [wc dDl.symm];exact fl
  have f3:upd H2 D (.dK (vd (λj=>(Sum.inl (trT hs t b j):Key)) (i+1))) D=some (.dK (vd (λj=>(Sum.inl (trT hs t b j):Key)) (i+1))):=qt
  generalize upd H2 D (.dK (vd (λj=>(Sum.inl (trT hs t b j):Key)) (i+1)))=H3 at s3 fl3 f3
  refine exI rfl ⟨.inl ⟨rfl,_,SqL.of fl3⟩,exI rfl ⟨_,_,_,rfl,rfl,fl3,qqk (by rw [hlen];lia),?_⟩⟩
  have s4:Same H (upd H3 l (.lst (((List.range i).map (trT hs t b)).map V.int++[V.int (trT hs t b i)]))):=Same.upd2 s3 nl0
  refine exI rfl (exI rfl (exI rfl ⟨p,hs,trT hs t b i,b,rfl,s4.sql hS,hok,hb,sb,Q7 hok hb hon i,⟨i+1,rfl,hd1,s4,by rw [wc dDl];exact f3,?_⟩,?_⟩))
  ·rw [qt,bQ,aT,aT]
   rfl
  ·show (match upd H3 l (.lst (((List.range i).map (trT hs t b)).map V.int++[V.int (trT hs t b i)])) D with|some (.dK kvs)=>250001-kvs.length|_=>0)<(match H2 D with|some (.dK kvs)=>250001-kvs.length|_=>0)
   rw [wc dDl,f3,f2]
   show 250001-(vd (λj=>(Sum.inl (trT hs t b j):Key)) (i+1)).length<250001-(vd (λj=>(Sum.inl (trT hs t b j):Key)) i).length
   rw [v6,v6]
   lia
def qq1 (K:Aa):Sp:=λvs H Q _=>∃(l:Aj) (g:Nat→Int) (n u:Nat) (m:Int),vs=[.ref l,.int u,.int m]∧H l=some (.lst (((List.range n).map g).map V.int))∧u<n∧g n=g u∧(∀i j,g i=g j→g (i+1)=g (j+1))∧0≤m∧Q (.int (g m.toNat)) H
theorem qk5 {g:Nat→Int}{n i:Nat}(h:i<n):atI (((List.range n).map g).map V.int) ((i:Nat):Int)=some (V.int (g i)):=by
 refine xt ?_
 rw [aI,aI,cI h]
 rfl
theorem wqv {f:Aj}{fd:Ad}(F:Fun K "_law_after" "_law_after" s__law_after f fd)(T:Txt K mg qc qr qx qm qu wq wy qh wf wx qj qp qw qq):FnOk P w K mg base (CXE P w) 1 f fd ["_law_tops","_law_start","_law_many"] (qq1 K):=by
 have sc:=Yt
 refine F.okX sc (λvs H Q E h=>by obtain ⟨l,g,n,u,m,rfl,_⟩:=h;rfl) (λcdv A outer s H vs Q E hr h=>?_)
 obtain ⟨l,g,n,u,m,rfl,fl,hu,e,st,m0,k⟩:=h
 have hlen:(((List.range n).map g).map V.int).length=n:=by rw [ae,ae,aC]
 refine ⟨_,(qk (x9 (w6 jr (pv 2) (xq xf rfl T.len_ aM (ww (pv 0) qz)) (w9 _)) (wj (w8 (xm xk (pv 0) (pv 2) (λ_ _=>rfl)))) xx)
   (wj (w8 (xm xk (pv 0) (wg xz (pv 1) (wg zm (wg zh (pv 2) (pv 1)) (wg zh (xq xf rfl T.len_ aM (ww (pv 0) qz)) (pv 1)))) (λ_ _=>rfl))))),?_⟩
 refine exI rfl (exI rfl ⟨_,_,rfl,.inl (SqL.of fl),wr rfl rfl (exI rfl ?_)⟩)
 rw [hlen]
 refine ku (λq1=>?_) (λq1=>?_)
 ·have ea:=qk5 (g:=g) (n:=n) (i:=m.toNat) (by lia)
  rw [cG m0] at ea
  exact exI rfl (exI rfl (exX rfl rfl (SqL.of fl) ea k))
 ·have hm:(u:Int)≤m:=by lia
  have lt:=cB (m.toNat-u) (show 0<n-u by lia)
  have ea:=qk5 (g:=g) (n:=n) (i:=u+(m.toNat-u)%(n-u)) (by lia)
  rw [←per st hu e m.toNat (by lia)] at ea
  refine exI rfl (exI rfl (exI rfl (exI rfl (wr rfl rfl (exI rfl ⟨_,_,rfl,.inl (SqL.of fl),exI rfl (wr rfl rfl (wr rfl rfl ⟨?_,wr rfl rfl (exX rfl rfl (SqL.of fl) ?_ k)⟩))⟩)))))
  ·rw [hlen]
   show (0:Int)<(n:Int)-u
   lia
  ·rw [hlen,qkk hm hu]
   exact ea
def qwh (K:Aa):Sp:=λvs H Q _=>∃(a:Aj) (ns:List Int) (i wd mo:Int),vs=[.ref a,.int i,.int wd,.int mo]∧SqL K H a (ns.map V.int)∧0≤i∧1≤wd∧wd≤24∧6≤mo∧mo≤1000 ∧
 ∀p t b c,H p=none→1≤b→b≤mo→1≤c→c≤3→0≤t→t≤wd*b→Q (.ref p) (upd H p (.tup [.int (t*c),.int (b*c)]))
theorem qy4 {f:Aj}{fd:Ad}(F:Fun K "_law_spot" "_law_spot" s__law_spot f fd)(T:Txt K mg qc qr qx qm qu wq wy qh wf wx qj qp qw qq)(c__law_pick:Cal P w K mg base "_law_pick" 2 (yx K)):FnOk P w K mg base (CXE P w) 3 f fd ["_law_script","_law_at","_law_wide","_law_most"] (qwh K):=by
 have sc:=qwc
 refine F.okX sc (λvs H Q E h=>by obtain ⟨a,ns,i,wd,mo,rfl,_⟩:=h;rfl) (λcdv A outer s H vs Q E hr h=>?_)
 obtain ⟨a,ns,i,wd,mo,rfl,hS,i0,w1,w2,o1,o2,k⟩:=h
 refine ⟨_,(qk (wt (i:=4) sc.nd rfl (by walk_at "loc") (wg xz qy (wm c__law_pick (hr.mono (by decide)) rfl qf (ww (pv 0) (ww (pv 1) (xy qy (ww (pv 3) qz)))))))
   (u9 (x9 (w6 kh (wm c__law_pick (hr.mono (by decide)) rfl qf (ww (pv 0) (ww (pv 1) (xy qy (xy qy qz))))) qy (w9 _)) (wj (wt (i:=4) sc.nd rfl (by walk_at "loc") (wg xz qy (wg zm (pv 4) qy)))) xx)
   (qk (wt (i:=5) sc.nd rfl (by walk_at "loc") (wg xz (wg xg (wm c__law_pick (hr.mono (by decide)) rfl qf (ww (pv 0) (ww (pv 1) (xy qy (ww (pv 2) qz))))) (pv 4)) (wm c__law_pick (hr.mono (by decide)) rfl qf (ww (pv 0) (ww (pv 1) (xy qy (zj (wg xz (pv 4) qy) qz)))))))
   (qk (wt (i:=6) sc.nd rfl (by walk_at "loc") (wg xz qy (wm c__law_pick (hr.mono (by decide)) rfl qf (ww (pv 0) (ww (pv 1) (xy qy (xy qy qz)))))))
   (wj (w8 (z9 (zj (wg xg (pv 5) (pv 6)) (zj (wg xg (pv 4) (pv 6)) qz))))))))),?_⟩
 refine exI rfl (exI rfl (exI rfl ⟨a,ns,_,_,_,rfl,hS,i0,(by lia),(by lia),(by lia),λr1 _ l1 u1=>?_⟩))
 refine ⟨_,_,rfl,rfl,λσ H'=>∃b,σ=[some (.ref a),some (.int i),some (.int wd),some (.int mo),some (.int b),none,none]∧1≤b∧b≤mo∧H'=H,?_,?_⟩
 ·refine exI rfl (exI rfl ⟨a,ns,_,_,_,rfl,hS,i0,(by lia),(by lia),(by lia),λr2 _ l2 u2=>?_⟩)
  refine ⟨rfl,_,rfl,k8 (λq1=>?_) (λq1=>?_)⟩
  ·have e1:=aR (1+r1) (show (6:Int)≠0 by decide)
   have e2:=aS (1+r1) (show (0:Int)<6 by decide)
   exact ⟨_,rfl,_,_,rfl,rfl,(by walk_at "pos"),_,_,rfl,rfl,_,rfl,by lia,by lia,rfl⟩
  ·exact ⟨_,rfl,by lia,by lia,rfl⟩
 ·rintro σ Hx ⟨b,rfl,b1,b2,rfl⟩
  refine exI rfl (exI rfl (exI rfl ⟨a,ns,_,_,_,rfl,hS,i0,(by lia),(by lia),(by lia),λr3 _ l3 u3=>?_⟩))
  refine exI rfl (wr rfl rfl ⟨(by walk_at "mul"),exI rfl (exI rfl (exI rfl (wr rfl rfl ⟨a,ns,_,_,_,rfl,hS,i0,(by lia),(by lia),(by lia),λr4 _ l4 u4=>?_⟩)))⟩)
  refine wr rfl rfl ?_
  refine exI rfl (exI rfl ⟨a,ns,_,_,_,rfl,hS,i0,(by lia),(by lia),(by lia),λr5 _ l5 u5=>?_⟩)
  refine wr rfl rfl ?_
  have h1:=aG (show r3≤wd-1 by lia) (show 0≤b by lia)
  have h2:(wd-1)*b=wd*b-b:=by rw [Int.sub_mul,Int.one_mul]
  have h3:=cU l3 (show 0≤b by lia)
  refine exI rfl ⟨V.int (1+r5),rfl,wr rfl rfl ⟨(by walk_at "mul"),exI rfl ⟨V.int (1+r5),rfl,wr rfl rfl ⟨(by walk_at "mul"),sz2,λp np=>?_⟩⟩⟩⟩
  exact k p _ b (1+r5) np b1 b2 (by lia) (by lia) (by lia) (by lia)
end
section
variable {P:Ac}{w:Ah}{K:Aa}{mg:Str→Option Ag}{base:Heap}{qc:Aj}{qr:Aj}{qx:Aj}{qm:Aj}{qu:Aj}{wq:Aj}{wy:Aj}{qh:Aj}{wf:Aj}{wx:Aj}{qj:Aj}{qp:Aj}{qw:Aj}{qq:Aj}
def qx5 (c:Nat):Bool:=!(Builtin.Str.occurrences (Str.ofString "abcdefghijklmnopqrstuvwxyz") ⟨#[c]⟩ 0 (Str.ofString "abcdefghijklmnopqrstuvwxyz").length 1).isEmpty
def vg (x:Str):Bool:=decide (1≤x.length∧x.length≤12)&&(List.range x.cps.size).all λi=>qx5 (x.cps.getD i 0)
def Z6:Sp:=λvs H Q _=>∃x:Str,vs=[.str x]∧x.length≤1000∧∀H',Same H H'→Q (.bl (vg x)) H'
theorem qvz {f:Aj}{fd:Ad}(F:Fun K "is_name" "is_name" s_is_name f fd)(T:Txt K mg qc qr qx qm qu wq wy qh wf wx qj qp qw qq):FnOk P w K mg base (CXE P w) 1 f fd ["name"] Z6:=by
 have sc:=qvp
 refine F.okX sc (λvs H Q E h=>by obtain ⟨x,rfl,_⟩:=h;rfl) (λcdv A outer s H vs Q E hr h=>?_)
 obtain ⟨x,rfl,hx,k⟩:=h
 obtain ⟨tn,g_LONGEST_NAME⟩:=T.g_LONGEST_NAME
 obtain ⟨tl,g_LETTERS⟩:=T.g_LETTERS
 have big:(1000000:Nat)<sizeLine:=by decide
 refine ⟨_,(qk (x9 (PW.pt (jy (w6 jr (xq Qp rfl T.len_ aM (ww (pv 0) qz)) qy (w9 _)) (jz (w6 uy (xq Qp rfl T.len_ aM (ww (pv 0) qz)) (jm (v:=V.int 12) rfl g_LONGEST_NAME ⟨_,rfl⟩) (w9 _))))) (wj (w8 Wc)) xx)
   (wj (w8 (xq (Y5 rfl) rfl T.all_ qy3 (xh (yd (M:=[]) rfl rfl (by walk_at "cap") (by walk_at "has") (by walk_at "cix") rfl (by decide +kernel) rfl (show List.Nodup (["sign"]:List Str) by decide +kernel) (pi_str (pv 0)) (λ_ _ _ _ _=>(yy qyu (pv 0) (jm (v:=V.str "abcdefghijklmnopqrstuvwxyz") rfl g_LETTERS ⟨_,rfl⟩) rfl))) qz))))),?_⟩
 refine ⟨_,rfl,x,rfl,by lia,_,_,rfl,rfl,_,rfl,?_⟩
 have no:∀z:¬ (1≤x.length∧x.length≤12),vg x=false:=λz=>by unfold vg;rw [aV z];rfl
 refine ku (λq1=>?_) (λq1=>?_)
 ·refine jt ?_
  have:=k H (Same.refl _)
  rw [no (by lia)] at this
  exact this
 ·refine ⟨_,rfl,x,rfl,by lia,_,_,rfl,rfl,_,rfl,ku (λq2=>?_) (λq2=>?_)⟩
  ·have:=k H (Same.refl _)
   rw [no (by lia)] at this
   exact this
  ·refine exI rfl ⟨x,rfl,qy0 (λi=>.bl (qx5 (x.cps.getD i 0))) (by show x.length≤1000000;lia) (λi H' R hi hs hR=>?_) λp np=>?_⟩
   ·exact exI rfl (wr rfl rfl hR)
   ·have e:vg x=((List.range x.cps.size).map λi=>qx5 (x.cps.getD i 0)).all id:=by
     unfold vg
     rw [aP (show 1≤x.length∧x.length≤12 by lia),List.all_map]
     rfl
    refine ⟨p,(List.range x.cps.size).map λi=>qx5 (x.cps.getD i 0),rfl,?_,?_⟩
    ·rw [cE]
     exact SqL.new
    ·rw [←e]
     exact k _ (Same.upd np)
def ym (CN CT:Aj):Sp:=λvs H Q E=>∃(x:Str) (d:Aj) (kvs:List (Key×V)),vs=[.str x,.ref d]∧x.length≤1000∧H d=some (.dK kvs) ∧
 (vg x=true→xv kvs (.inr x)=none→∀H',Same H H'→Q .non H')∧(vg x=false→∀H',Same H H'→E (.ref CN) none H')∧(vg x=true→(xv kvs (.inr x)).isSome=true→∀H',Same H H'→E (.ref CT) none H')
theorem qx9 {f:Aj}{fd:Ad}(F:Fun K "check_new_name" "check_new_name" s_check_new_name f fd)(T:Txt K mg qc qr qx qm qu wq wy qh wf wx qj qp qw qq)(c_is_name:Cal P w K mg base "is_name" 1 Z6):FnOk P w K mg base (CXE P w) 2 f fd ["name","things"] (ym qh wf):=by
 have sc:=u7
 refine F.okX sc (λvs H Q E h=>by obtain ⟨x,d,kvs,rfl,_⟩:=h;rfl) (λcdv A outer s H vs Q E hr h=>?_)
 obtain ⟨x,d,kvs,rfl,hx,hd,k,kn,kt⟩:=h
 refine ⟨_,(qk (x9 (uw (y8 (wm c_is_name (hr.mono (by decide)) rfl qf (ww (pv 0) qz)))) (wj (z0 rfl T.x_BadName zu rfl T.g_BadName (xy vp qz))) xx)
   (wj (x9 (Yk (pc_din (vf hr) (pv 0) (pv 1))) (wj (z0 rfl T.x_Taken zu rfl T.g_Taken (xy vp qz))) xx))),?_⟩
 refine exI rfl ⟨x,rfl,hx,λH1 s1=>(exI rfl ?_)⟩
 have dg:DGet H1 d (.str x) (xv kvs (.inr x)):=DGet.k (k:=.inr x) (s1 _ _ hd)
 cases hn:vg x with
 |false=>exact jt ⟨sz1,kn hn H1 s1⟩
 |true =>
  refine yw (exI rfl (exI rfl ⟨d,exI rfl ⟨dg,_,rfl,?_⟩⟩))
  cases hv:xv kvs (.inr x) with
  |none=>exact yw (k hn hv H1 s1)
  |some v=>exact jt ⟨sz1,kt hn (by rw [hv];rfl) H1 s1⟩
def qzs:Sp:=λvs H Q _=>∃(t c:Aj) (R cs:List (Key×V)),vs=[.ref t,.ref c]∧t≠c∧H t=some (.dK R)∧Rd H c (.dK cs)∧(cs.map (·.1)).Nodup∧R.length≤1000∧cs.length≤1000∧ExOk R cs ∧
 ∀q H',H q=none→H' q=some (.dK (bfK R cs))→H' t=some (.dK (exK R cs))→Rd H' c (.dK cs)→Kb [t,c] H H'→Q (.ref q) H'
theorem ww3 {f:Aj}{fd:Ad}(F:Fun K "exchange" "exchange" s_exchange f fd)(T:Txt K mg qc qr qx qm qu wq wy qh wf wx qj qp qw qq):FnOk P w K mg base (CXE P w) 1 f fd ["things","changes"] qzs:=by
 have sc:=qx1
 refine F.okX sc (λvs H Q E h=>by obtain ⟨t,c,R,cs,rfl,_⟩:=h;rfl) (λcdv A outer s H vs Q E hr h=>?_)
 obtain ⟨t,c,R,cs,rfl,tc,ht,hc,nd,lR,lc,ok,k⟩:=h
 have big:(1000000:Nat)<sizeLine:=by decide
 refine ⟨_,(qk (Wu (i:=2) (M:=[0]) sc.nd rfl (by walk_at "loc") rfl rfl (by walk_at "cap") (by walk_at "has") (by walk_at "cix") rfl (by decide +kernel) rfl (show List.Nodup (["name","things"]:List Str) by decide +kernel) (pi_dk (pv 1)) (λ_ _ _ _ _=>(pv 0)) (λ_ _ _ _ _=>(quk (vf hr) (pv 1) (pv 0) ⟨rfl,rfl,rfl,rfl⟩)))
   (qk (uz aY rfl (pi_di (pv 1)) (jn rfl (zw (xp (i:=3) sc.nd rfl (by walk_at "loc")) (zw (xp (i:=4) sc.nd rfl (by walk_at "loc")) k4))) (wj (x9 (w6 op_isN (pv 4) wqr (w9 _)) (wj (ww7 (pv 0) (pv 3))) (wj (Zx (vf hr) (pv 0) (pv 3) (pv 4) rfl)))))
   (wj (w8 (pv 2))))),?_⟩
 refine exI rfl ⟨c,cs,rfl,hc,λo H1 fz=>?_⟩
 have ht1:H1 t=some (.dK R):=by rw [fz.2 t tc];exact ht
 refine wqn (λk=>(xv R k).getD .non) (by lia) nd fz.1 (λk H' RR s' hR=>(exI rfl (exI rfl ⟨t,rfl,.inl ⟨R,.inl (s' _ _ ht1)⟩,exI rfl ⟨_,DGet.k (k:=k) (s' _ _ ht1),hR⟩⟩))) λq nq=>?_
 have nq0:H q=none:=by
  cases e:H q with
  |none=>rfl
  |some ob =>
   by_cases z:q=c
   ·rw [z,fz.1] at nq;cases nq
   ·rw [fz.2 q z,e] at nq;cases nq
 have s2:Same H1 (upd H1 q (.dK (bfK R cs))):=Same.upd nq
 have fq:upd H1 q (.dK (bfK R cs)) q=some (.dK (bfK R cs)):=qt
 have c2:upd H1 q (.dK (bfK R cs)) c=some (.frz o (.dK cs)):=s2 _ _ fz.1
 have t2:upd H1 q (.dK (bfK R cs)) t=some (.dK R):=s2 _ _ ht1
 have tq:t≠q:=qg ht1 nq
 have kb:Kb [t,c] H (upd H1 q (.dK (bfK R cs))):=λb ob nb e=>s2 _ _ (by rw [fz.2 b (λz=>nb (by simp [z]))];exact e)
 have sel:(cs.map λc=>(c.1,(xv R c.1).getD .non))=bfK R cs:=rfl
 rw [sel]
 generalize upd H1 q (.dK (bfK R cs))=H2 at fq c2 t2 kb
 refine exI rfl ⟨c,cs,rfl,.inr ⟨o,c2⟩,λo' H3 fz3=>?_⟩
 have cq:q≠c:=λz=>by rw [z,c2] at fq;cases fq
 have t3:H3 t=some (.dK R):=by rw [fz3.2 t tc];exact t2
 have q3:H3 q=some (.dK (bfK R cs)):=by rw [fz3.2 q cq];exact fq
 have kb3:Kb [t,c] H H3:=λb ob nb e=>by rw [fz3.2 b (λz=>nb (by simp [z]))];exact kb b ob nb e
 refine for_di (λi σ H'=>(∃z3 z4,σ=[some (.ref t),some (.ref c),some (.ref q),z3,z4])∧H' c=some (.frz o' (.dK cs))∧H' q=some (.dK (bfK R cs))∧H' t=some (.dK (exK R (cs.take i)))∧Kb [t,c] H H') ⟨⟨_,_,rfl⟩,fz3.1,q3,t3,kb3⟩ (λi σ H' hi h=>h.2.1) ?_ ?_
 ·rintro i cc z σ H' ec nz ⟨⟨z3,z4,rfl⟩,a1,a2,a3,a4⟩
  have s4:Same H' (upd H' z (.tup [kV cc.1,cc.2])):=Same.upd nz
  refine ⟨z,exI rfl ⟨SqT.new,rfl,_,_,rfl,_,_,rfl,rfl,?_⟩⟩
  have b1:=s4 _ _ a1
  have b2:=s4 _ _ a2
  have b3:=s4 _ _ a3
  have b4:Kb [t,c] H (upd H' z (.tup [kV cc.1,cc.2])):=λb ob nb e=>s4 _ _ (a4 b ob nb e)
  generalize upd H' z (.tup [kV cc.1,cc.2])=H4 at b1 b2 b3 b4
  have le:=wxs R (cs.take i)
  have lt:(cs.take i).length≤1000:=by rw [bK];lia
  have et:=wxk R ec
  have tq':t≠q:=tq
  have step:∀R',ex1 (exK R (cs.take i)) cc=R'→(∃z3' z4',[some (V.ref t),some (V.ref c),some (V.ref q),some (kV cc.1),some cc.2]=[some (V.ref t),some (V.ref c),some (V.ref q),z3',z4'])∧upd H4 t (.dK R') c=some (.frz o' (.dK cs))∧upd H4 t (.dK R') q=some (.dK (bfK R cs))∧upd H4 t (.dK R') t=some (.dK (exK R (cs.take (i+1))))∧Kb [t,c] H (upd H4 t (.dK R')):=λR' e=>by
   refine ⟨⟨_,_,rfl⟩,?_,?_,?_,λb ob nb e'=>?_⟩
   ·rw [wc (bg tc)];exact b1
   ·rw [wc (bg tq')];exact b2
   ·rw [qt,et,e]
   ·rw [wc (λz=>nb (by simp [z]))];exact b4 b ob nb e'
  refine exI rfl ⟨rfl,_,rfl,ku (λhn=>?_) (λhn=>?_)⟩
  ·exact exI rfl (exI rfl ⟨t,_,cc.1,rfl,b3,rfl,ok i cc ec hn,step _ (by unfold ex1;rw [ak hn])⟩)
  ·exact exI rfl (exI rfl (exI rfl ⟨t,exI rfl ⟨DPut.k (k:=cc.1) b3 (by lia),step _ (by unfold ex1;rw [aj hn])⟩⟩))
 ·rintro σ H' ⟨⟨z3,z4,rfl⟩,a1,a2,a3,a4⟩
  rw [dc] at a3
  exact exI rfl (k q H' nq0 a2 a3 (.inr ⟨o',a1⟩) a4)
end
section
variable {P:Ac}{w:Ah}{K:Aa}{mg:Str→Option Ag}{base:Heap}{qc:Aj}{qr:Aj}{qx:Aj}{qm:Aj}{qu:Aj}{wq:Aj}{wy:Aj}{qh:Aj}{wf:Aj}{wx:Aj}{qj:Aj}{qp:Aj}{qw:Aj}{qq:Aj}
def hF (dr dw dd:Aj):List (Str×V):=[("roads",.ref dr),("walkers",.ref dw),("done",.ref dd)]
theorem k9 {dr dw dd:Aj}:(hF dr dw dd).lookup ("roads" : Str)=some (.ref dr):=by unfold hF;rw [ax];simp
theorem zn {dr dw dd:Aj}:(hF dr dw dd).lookup ("walkers" : Str)=some (.ref dw):=by
 unfold hF
 rw [ax,show (("walkers" : Str)==("roads" : Str))=false by decide +kernel]
 dsimp only
 rw [ax]
 simp
theorem qqd {dr dw dd:Aj}:(hF dr dw dd).lookup ("done" : Str)=some (.ref dd):=by
 unfold hF
 rw [ax,show (("done" : Str)==("roads" : Str))=false by decide +kernel]
 dsimp only
 rw [ax,show (("done" : Str)==("walkers" : Str))=false by decide +kernel]
 dsimp only
 rw [ax]
 simp
theorem x8 {dr dw dd:Aj}{m:Str}(h1:¬ m = "roads")(h2:¬ m = "walkers")(h3:¬ m = "done"):(hF dr dw dd).lookup m=none:=by
 unfold hF
 rw [ax,aE.mpr h1]
 dsimp only
 rw [ax,aE.mpr h2]
 dsimp only
 rw [ax,aE.mpr h3]
 rfl
structure Hse (C:Aj)(H:Hp)(x dr dw dd:Aj)(R W:List (Key×V))(D:List V):Prop where
 ob:∃dx,H x=some (.ins C dx (hF dr dw dd))
 r:H dr=some (.dK R)
 w:H dw=some (.dK W)
 d:H dd=some (.lst D)
 ne:dr≠dw
theorem Hse.kb {C:Aj}{H H':Hp}{x dr dw dd:Aj}{R W:List (Key×V)}{D:List V}(h:Hse C H x dr dw dd R W D){ch:List Aj}(k:Kb ch H H')(n:x∉ch∧dr∉ch∧dw∉ch∧dd∉ch):Hse C H' x dr dw dd R W D:=by
 obtain ⟨dx,e⟩:=h.ob
 exact ⟨⟨dx,k _ _ n.1 e⟩,k _ _ n.2.1 h.r,k _ _ n.2.2.1 h.w,k _ _ n.2.2.2 h.d,h.ne⟩
theorem Hse.same {C:Aj}{H H':Hp}{x dr dw dd:Aj}{R W:List (Key×V)}{D:List V}(h:Hse C H x dr dw dd R W D)(s:Same H H'):Hse C H' x dr dw dd R W D:=h.kb (ch:=[]) (Kb.of s) ⟨ay,ay,ay,ay⟩
def Ws (C:Aj):Sp:=λvs H Q _=>∃x dx,vs=[.ref x]∧H x=some (.ins C dx [])∧∀H' dr dw dd,H dr=none→H dw=none→H dd=none→Hse C H' x dr dw dd [] [] []→Kb [x] H H'→Q .non H'
theorem qyn {f:Aj}{fd:Ad}(F:Fun K "__init__" "House.__init__" s_House___init__ f fd)(T:Txt K mg qc qr qx qm qu wq wy qh wf wx qj qp qw qq):FnOk P w K mg base (CXE P w) 1 f fd ["self"] (Ws qq):=by
 have sc:=ut
 refine F.okX sc (λvs H Q E h=>by obtain ⟨x,dx,rfl,_⟩:=h;rfl) (λcdv A outer s H vs Q E hr h=>?_)
 obtain ⟨x,dx,rfl,hx,k⟩:=h
 refine ⟨_,(qk (ux (pv 0) jq rfl)
   (qk (ux (pv 0) jq rfl)
   (wj (ux (pv 0) (uq qz) rfl)))),?_⟩
 refine λdr n1=>exI rfl ⟨x,qq,dx,[],rfl,(by rw [wc (qg hx n1)];exact hx),T.clH,T.naHr,(by show 0<1000;decide),?_⟩
 have e1:∀b o,b≠x→H b=some o→upd (upd H dr (.dK [])) x (.ins qq dx (vw "roads" (.ref dr) [])) b=some o:=λb o nb e=>by rw [wc nb,wc (qg e n1)];exact e
 have x1:upd (upd H dr (.dK [])) x (.ins qq dx (vw "roads" (.ref dr) [])) x=some (.ins qq dx (vw "roads" (.ref dr) [])):=qt
 have r1:upd (upd H dr (.dK [])) x (.ins qq dx (vw "roads" (.ref dr) [])) dr=some (.dK []):=by rw [wc (qg hx n1).symm,qt]
 generalize upd (upd H dr (.dK [])) x (.ins qq dx (vw "roads" (.ref dr) []))=H1 at e1 x1 r1
 refine λdw n2=>exI rfl ⟨x,qq,dx,exI rfl ⟨(by rw [wc (qg x1 n2)];exact x1),T.clH,T.naHw,(by show 1<1000;decide),?_⟩⟩
 have xr:x≠dr:=qg hx n1
 have e2:∀b o,b≠x→H1 b=some o→upd (upd H1 dw (.dK [])) x (.ins qq dx (vw "walkers" (.ref dw) (vw "roads" (.ref dr) []))) b=some o:=λb o nb e=>by rw [wc nb,wc (qg e n2)];exact e
 have x2:upd (upd H1 dw (.dK [])) x (.ins qq dx (vw "walkers" (.ref dw) (vw "roads" (.ref dr) []))) x=some (.ins qq dx (vw "walkers" (.ref dw) (vw "roads" (.ref dr) []))):=qt
 have w2:upd (upd H1 dw (.dK [])) x (.ins qq dx (vw "walkers" (.ref dw) (vw "roads" (.ref dr) []))) dw=some (.dK []):=by rw [wc (qg x1 n2).symm,qt]
 have r2:=e2 dr _ xr.symm r1
 generalize upd (upd H1 dw (.dK [])) x (.ins qq dx (vw "walkers" (.ref dw) (vw "roads" (.ref dr) [])))=H2 at e2 x2 w2 r2
 have xw:x≠dw:=qg x1 n2
 refine ⟨sz0,λdd n3=>(exI rfl ⟨x,qq,dx,exI rfl ⟨(by rw [wc (qg x2 n3)];exact x2),T.clH,T.naHd,(by show 2<1000;decide),?_⟩⟩)⟩
 have xd:x≠dd:=qg x2 n3
 have e3:∀b o,b≠x→H2 b=some o→upd (upd H2 dd (.lst [])) x (.ins qq dx (vw "done" (.ref dd) (vw "walkers" (.ref dw) (vw "roads" (.ref dr) [])))) b=some o:=λb o nb e=>by rw [wc nb,wc (qg e n3)];exact e
 have old:∀b o,b≠x→H b=some o→H2 b=some o:=λb o nb e=>e2 b o nb (e1 b o nb e)
 have non:∀b,b≠x→H2 b=none→H b=none:=λb nb e=>by
  cases q:H b with
  |none=>rfl
  |some o=>rw [old b o nb q] at e;cases e
 refine k _ dr dw dd n1 (by
  cases q:H dw with
  |none=>rfl
  |some o=>rw [e1 dw o xw.symm q] at n2;cases n2) (non dd xd.symm n3) ⟨⟨dx,qt⟩,e3 _ _ xr.symm r2,e3 _ _ xw.symm w2,?_,qg r1 n2⟩ λb o nb e=>e3 b o (λz=>nb (by simp [z])) (old b o (λz=>nb (by simp [z])) e)
 rw [wc xd.symm,qt]
def vt (C CN:Aj)(roads:Bool):Sp:=λvs H Q E=>∃(x dr dw dd:Aj) (R W:List (Key×V)) (D:List V) (n:Str),vs=[.ref x,.str n]∧Hse C H x dr dw dd R W D ∧
 (∀v,xv (if roads then R else W) (.inr n)=some v→Q v H)∧(xv (if roads then R else W) (.inr n)=none→E (.ref CN) none H)
theorem Yd {f:Aj}{fd:Ad}(F:Fun K "road_called" "House.road_called" s_House_road_called f fd)(T:Txt K mg qc qr qx qm qu wq wy qh wf wx qj qp qw qq):FnOk P w K mg base (CXE P w) 1 f fd ["self","name"] (vt qq wx true):=by
 have sc:=j6
 refine F.okX sc (λvs H Q E h=>by obtain ⟨x,dr,dw,dd,R,W,D,n,rfl,_⟩:=h;rfl) (λcdv A outer s H vs Q E hr h=>?_)
 obtain ⟨x,dr,dw,dd,R,W,D,n,rfl,hh,k,kx⟩:=h
 obtain ⟨dx,hx⟩:=hh.ob
 have dg:DGet H dr (.str n) (xv R (.inr n)):=DGet.k (k:=.inr n) hh.r
 refine ⟨_,(qk (x9 (Yk (yc (vf hr) (pv 1) (zb (pv 0) rfl))) (wj (z0 rfl T.x_NoRoad zu rfl T.g_NoRoad (xy vp qz))) xx)
   (wj (w8 (jh (vf hr) (zb (pv 0) rfl) (pv 1) (λ_ _=>rfl))))),?_⟩
 refine exI rfl (exI rfl ⟨x,qq,dx,_,_,rfl,hx,T.clH,T.naHr,k9,dr,exI rfl ⟨dg,_,rfl,?_⟩⟩)
 cases e:xv R (.inr n) with
 |none=>exact jt ⟨sz1,kx e⟩
 |some v =>
  rw [e] at dg
  exact yw (exI rfl ⟨x,qq,dx,_,_,rfl,hx,T.clH,T.naHr,k9,exI rfl ⟨dr,v,rfl,dg,k v e⟩⟩)
theorem Wk {f:Aj}{fd:Ad}(F:Fun K "walker_called" "House.walker_called" s_House_walker_called f fd)(T:Txt K mg qc qr qx qm qu wq wy qh wf wx qj qp qw qq):FnOk P w K mg base (CXE P w) 1 f fd ["self","name"] (vt qq qj false):=by
 have sc:=jb
 refine F.okX sc (λvs H Q E h=>by obtain ⟨x,dr,dw,dd,R,W,D,n,rfl,_⟩:=h;rfl) (λcdv A outer s H vs Q E hr h=>?_)
 obtain ⟨x,dr,dw,dd,R,W,D,n,rfl,hh,k,kx⟩:=h
 obtain ⟨dx,hx⟩:=hh.ob
 have dg:DGet H dw (.str n) (xv W (.inr n)):=DGet.k (k:=.inr n) hh.w
 refine ⟨_,(qk (x9 (Yk (yc (vf hr) (pv 1) (zb (pv 0) rfl))) (wj (z0 rfl T.x_NoWalker zu rfl T.g_NoWalker (xy vp qz))) xx)
   (wj (w8 (jh (vf hr) (zb (pv 0) rfl) (pv 1) (λ_ _=>rfl))))),?_⟩
 refine exI rfl (exI rfl ⟨x,qq,dx,_,_,rfl,hx,T.clH,T.naHw,zn,dw,exI rfl ⟨dg,_,rfl,?_⟩⟩)
 cases e:xv W (.inr n) with
 |none=>exact jt ⟨sz1,kx e⟩
 |some v =>
  rw [e] at dg
  exact yw (exI rfl ⟨x,qq,dx,_,_,rfl,hx,T.clH,T.naHw,zn,exI rfl ⟨dw,v,rfl,dg,k v e⟩⟩)
def qw1 (C:Aj):Sp:=λvs H Q _=>∃(x dr dw dd c1 c2:Aj) (R W cs1 cs2:List (Key×V)) (D:List V),vs=[.ref x,.ref c1,.ref c2]∧Hse C H x dr dw dd R W D∧Rd H c1 (.dK cs1)∧Rd H c2 (.dK cs2)∧c1≠c2∧c1≠dr∧c1≠dw∧c2≠dr∧c2≠dw ∧
 (cs1.map (·.1)).Nodup∧(cs2.map (·.1)).Nodup∧R.length≤1000∧W.length≤1000∧cs1.length≤1000∧cs2.length≤1000∧D.length≤1000000∧ExOk R cs1∧ExOk W cs2 ∧
 ∀H' tp q1 q2,H tp=none→H q1=none→H q2=none→Hse C H' x dr dw dd (exK R cs1) (exK W cs2) (D++[.ref tp])→H' tp=some (.tup [.ref q1,.ref q2])→H' q1=some (.dK (bfK R cs1))→H' q2=some (.dK (bfK W cs2))→q1≠q2→Rd H' c2 (.dK cs2)→Kb [dr,dw,dd,c1,c2] H H'→Q .non H'
theorem ok_do {f:Aj}{fd:Ad}(F:Fun K "do" "House.do" s_House_do f fd)(T:Txt K mg qc qr qx qm qu wq wy qh wf wx qj qp qw qq)(c_exchange:Cal P w K mg base "exchange" 1 qzs):FnOk P w K mg base (CXE P w) 2 f fd ["self","roads","walkers"] (qw1 qq):=by
 have sc:=qx8
 refine F.okX sc (λvs H Q E h=>by obtain ⟨x,dr,dw,dd,c1,c2,R,W,cs1,cs2,D,rfl,_⟩:=h;rfl) (λcdv A outer s H vs Q E hr h=>?_)
 obtain ⟨x,dr,dw,dd,c1,c2,R,W,cs1,cs2,D,rfl,hh,h1,h2,n12,n1r,n1w,n2r,n2w,nd1,nd2,lR,lW,l1,l2,lD,ok1,ok2,k⟩:=h
 obtain ⟨dx,hx⟩:=hh.ob
 have big:(1000000:Nat)<sizeLine:=by decide
 have isI:∀ {b o},Rd H b (.dK o)→x≠b:=λ{b o} hb z=>by
  rcases hb with hb|⟨u,hb⟩ <;> (rw [←z,hx] at hb;cases hb)
 have isD:∀ {b o},Rd H b (.dK o)→dd≠b:=λ{b o} hb z=>by
  rcases hb with hb|⟨u,hb⟩ <;> (rw [←z,hh.d] at hb;cases hb)
 have xr:=isI (.inl hh.r)
 have xw:=isI (.inl hh.w)
 have x1:=isI h1
 have x2:=isI h2
 have dr':=isD (.inl hh.r)
 have dw':=isD (.inl hh.w)
 have d1:=isD h1
 have d2:=isD h2
 refine ⟨_,(wj (zd (qxk bG bz bA vh (zb (pv 0) rfl) (qzg (z9 (jj (wm c_exchange (hr.mono (by decide)) rfl qf (xh (zb (pv 0) rfl) (ww (pv 1) qz))) (jj (wm c_exchange (hr.mono (by decide)) rfl qf (xh (zb (pv 0) rfl) (ww (pv 2) qz))) qz))) qz)))),?_⟩
 refine exI rfl ⟨x,qq,dx,_,_,rfl,hx,T.clH,T.naHd,qqd,.inl ⟨rfl,_,SqL.of hh.d⟩,?_⟩
 refine exI rfl ⟨x,qq,dx,_,_,rfl,hx,T.clH,T.naHr,k9,exI rfl ⟨dr,c1,R,cs1,rfl,bg n1r,hh.r,h1,nd1,lR,l1,ok1,λq1 H1 nq1 fq1 fr1 fc1 kb1=>?_⟩⟩
 have m1:∀b,b≠dr→b≠c1→b∉[dr,c1]:=λb a1 a2 z=>by
  rcases aq.mp z with z|z
  ·exact a1 z
  ·exact a2 (au.mp z)
 have hx1:=kb1 _ _ (m1 x xr x1) hx
 have hw1:=kb1 _ _ (m1 dw (bg hh.ne) (bg n1w)) hh.w
 have hd1:=kb1 _ _ (m1 dd dr' d1) hh.d
 have hc2:=kb1.rd (m1 c2 n2r (bg n12)) h2
 refine exI rfl ⟨x,qq,dx,_,_,rfl,hx1,T.clH,T.naHw,zn,exI rfl ⟨dw,c2,W,cs2,rfl,bg n2w,hw1,hc2,nd2,lW,l2,ok2,λq2 H2 nq2 fq2 fw2 fc2 kb2=>?_⟩⟩
 have m2:∀b,b≠dw→b≠c2→b∉[dw,c2]:=λb a1 a2 z=>by
  rcases aq.mp z with z|z
  ·exact a1 z
  ·exact a2 (au.mp z)
 have q1w:q1≠dw:=λz=>by rw [z,hh.w] at nq1;cases nq1
 have q1c:q1≠c2:=λz=>by rcases h2 with h2|⟨u,h2⟩ <;> (rw [z,h2] at nq1;cases nq1)
 have fq1':=kb2 _ _ (m2 q1 q1w q1c) fq1
 have q12:q1≠q2:=qg fq1 nq2
 have nq2':H q2=none:=by
  cases e:H q2 with
  |none=>rfl
  |some o =>
   by_cases z:q2=dr∨q2=c1
   ·rcases z with z|z
    ·rw [z,fr1] at nq2;cases nq2
    ·rcases fc1 with g|⟨u,g⟩ <;> (rw [z,g] at nq2;cases nq2)
   ·rw [kb1 _ _ (m1 q2 (λy=>z (.inl y)) (λy=>z (.inr y))) e] at nq2;cases nq2
 refine ⟨sz2,λtp ntp=>?_⟩
 have hx2:=kb2 _ _ (m2 x xw x2) hx1
 have hr2:=kb2 _ _ (m2 dr hh.ne (bg n2r)) fr1
 have hd2:=kb2 _ _ (m2 dd dw' d2) hd1
 have old:∀b o,b∉[dr,dw,dd,c1,c2]→H b=some o→H2 b=some o:=λb o nb e=>by
  simp only [aq,ay,bU,not_or] at nb
  exact kb2 _ _ (m2 b nb.2.1 nb.2.2.2.2) (kb1 _ _ (m1 b nb.1 nb.2.2.2.1) e)
 have rd2:∀b,b=dr∨b=dw∨b=dd∨b=c1∨b=c2→H2 b≠none:=λb h z=>by
  rcases h with h|h|h|h|h
  ·rw [h,hr2] at z;cases z
  ·rw [h,fw2] at z;cases z
  ·rw [h,hd2] at z;cases z
  ·by_cases y:c1=dw
   ·exact n1w y
   ·rcases fc1 with g|⟨u,g⟩ <;> (rw [h,kb2 _ _ (m2 c1 n1w n12) g] at z;cases z)
  ·rcases fc2 with g|⟨u,g⟩ <;> (rw [h,g] at z;cases z)
 have ntp0:H tp=none:=by
  cases e:H tp with
  |none=>rfl
  |some o =>
   by_cases z:tp=dr∨tp=dw∨tp=dd∨tp=c1∨tp=c2
   ·exact absurd ntp (rd2 tp z)
   ·rw [old tp o (by simp only [aq,ay,bU];exact z) e] at ntp;cases ntp
 have s3:Same H2 (upd H2 tp (.tup [.ref q1,.ref q2])):=Same.upd ntp
 have ft:upd H2 tp (.tup [.ref q1,.ref q2]) tp=some (.tup [.ref q1,.ref q2]):=qt
 generalize upd H2 tp (.tup [.ref q1,.ref q2])=H3 at s3 ft
 have hd3:=s3 _ _ hd2
 refine ⟨dd,D,_,rfl,rfl,hd3,by lia,?_⟩
 have ne3:∀b o,b≠dd→H3 b=some o→upd H3 dd (.lst (D++[.ref tp])) b=some o:=λb o nb e=>by rw [wc nb];exact e
 have kq:∀b kv,H3 b=some (.dK kv)→b≠dd:=λb kv e z=>by rw [z,hd3] at e;cases e
 have rd3:Rd (upd H3 dd (.lst (D++[.ref tp]))) c2 (.dK cs2):=by
  rcases fc2 with e|⟨u,e⟩
  ·exact .inl (ne3 _ _ (bg d2) (s3 _ _ e))
  ·exact .inr ⟨u,ne3 _ _ (bg d2) (s3 _ _ e)⟩
 refine k _ tp q1 q2 ntp0 nq1 nq2' ⟨⟨dx,ne3 _ _ (λz=>by rw [z] at hx;rw [hh.d] at hx;cases hx) (s3 _ _ hx2)⟩,ne3 _ _ (bg dr') (s3 _ _ hr2),ne3 _ _ (bg dw') (s3 _ _ fw2),qt,hh.ne⟩ (ne3 _ _ (λz=>by rw [z,hd3] at ft;cases ft) ft) (ne3 _ _ (kq _ _ (s3 _ _ fq1')) (s3 _ _ fq1')) (ne3 _ _ (kq _ _ (s3 _ _ fq2)) (s3 _ _ fq2)) q12 rd3 λb o nb e=>?_
 exact ne3 _ _ (λz=>nb (by simp [z])) (s3 _ _ (old b o nb e))
def W6 (C:Aj):Sp:=λvs H Q _=>∃(x dr dw dd:Aj) (R W:List (Key×V)) (D:List V),vs=[.ref x]∧Hse C H x dr dw dd R W D∧Q (.int D.length) H
theorem wwq {f:Aj}{fd:Ad}(F:Fun K "deeds" "House.deeds" s_House_deeds f fd)(T:Txt K mg qc qr qx qm qu wq wy qh wf wx qj qp qw qq):FnOk P w K mg base (CXE P w) 1 f fd ["self"] (W6 qq):=by
 have sc:=Zk
 refine F.okX sc (λvs H Q E h=>by obtain ⟨x,dr,dw,dd,R,W,D,rfl,_⟩:=h;rfl) (λcdv A outer s H vs Q E hr h=>?_)
 obtain ⟨x,dr,dw,dd,R,W,D,rfl,hh,k⟩:=h
 obtain ⟨dx,hx⟩:=hh.ob
 refine ⟨_,(wj (w8 (xq xf rfl T.len_ aM (xh (zb (pv 0) rfl) qz)))),?_⟩
 exact exI rfl ⟨x,qq,dx,_,_,rfl,hx,T.clH,T.naHd,qqd,dd,exI rfl ⟨.inl (SqL.of hh.d),k⟩⟩
end
section
variable {P:Ac}{w:Ah}{K:Aa}{mg:Str→Option Ag}{base:Heap}{qc:Aj}{qr:Aj}{qx:Aj}{qm:Aj}{qu:Aj}{wq:Aj}{wy:Aj}{qh:Aj}{wf:Aj}{wx:Aj}{qj:Aj}{qp:Aj}{qw:Aj}{qq:Aj}
def Refs (D:List V):Prop:=∀v∈D,∃a,v=V.ref a
theorem Refs.add {D:List V}(h:Refs D)(a:Aj):Refs (D++[.ref a]):=λv hv=>by
 rcases ba.mp hv with hv|hv
 ·exact h v hv
 ·exact ⟨a,au.mp hv⟩
theorem RoadAt.kb {C CH:Aj}{H H':Hp}{r:Aj}{hs:List Int}(h:RoadAt C H r hs)(ok:zq hs){ch:List Aj}{D:List V}(k:Kb ch H H')(rf:Refs D)(hc:∀b∈ch,(∃kv,Rd H b (.dK kv))∨H b=some (.lst D)):RoadAt C H' r hs:=by
 obtain ⟨dx,q,h1,h2⟩:=h
 refine ⟨dx,q,k _ _ (λz=>?_) h1,k _ _ (λz=>?_) h2⟩
 ·rcases hc r z with ⟨kv,e|⟨o,e⟩⟩|e <;> (rw [h1] at e;cases e)
 ·rcases hc q z with ⟨kv,e|⟨o,e⟩⟩|e
  ·rw [h2] at e;cases e
  ·rw [h2] at e;cases e
  ·rw [h2] at e
   have e:hs.map V.int=D:=by cases e;rfl
   have l:=ok.1
   have m:V.int (hs[0]'(by lia))∈hs.map V.int:=aN.mpr ⟨_,cC _,rfl⟩
   rw [e] at m
   obtain ⟨a,ea⟩:=rf _ m
   cases ea
theorem qy2 {H H3:Hp}{c1 c2:Aj}{o1 o2 o3:HO}(n1:H c1=none)(s3:Same (upd H c1 o1) H3)(n2:upd H3 c1 o2 c2=none):Same H (upd (upd H3 c1 o2) c2 o3):=λb o e=>by
 have b1:b≠c1:=qg e n1
 have e3:H3 b=some o:=s3 _ _ (by rw [wc b1];exact e)
 have e4:upd H3 c1 o2 b=some o:=by rw [wc b1];exact e3
 rw [wc (qg e4 n2)]
 exact e4
theorem wx4 {C CR:Aj}{H H3:Hp}{x dr dw dd c1 r:Aj}{R W:List (Key×V)}{D:List V}{n:Str}{hs:List Int}{Q:VK}{E:XK}(hh:Hse C H x dr dw dd R W D)(n1:H c1=none)(s3:Same (upd H c1 (.dK [])) H3)(R3:RoadAt CR H3 r hs)(okl:zq hs)(rf:Refs D)(lR:R.length≤1000)(lW:W.length≤1000)(lD:D.length≤1000000)
  (k:∀H' tp q1 q2,H tp=none→H q1=none→H q2=none→Hse C H' x dr dw dd (zf R (.inr n) (.ref r)) W (D++[.ref tp])→H' tp=some (.tup [.ref q1,.ref q2])→H' q1=some (.dK [(.inr n,(xv R (.inr n)).getD .non)])→H' q2=some (.dK [])→q1≠q2→RoadAt CR H' r hs→Kb [dr,dw,dd] H H'→Q .non H') :
  ∀c2,upd H3 c1 (.dK [(.inr n,.ref r)]) c2=none→qw1 C [.ref x,.ref c1,.ref c2] (upd (upd H3 c1 (.dK [(.inr n,.ref r)])) c2 (.dK [])) Q E:=by
 intro c2 n2
 have s4:Same H (upd (upd H3 c1 (.dK [(.inr n,.ref r)])) c2 (.dK [])):=qy2 n1 s3 n2
 have c12:c1≠c2:=λz=>by rw [←z,qt] at n2;cases n2
 have e1:upd (upd H3 c1 (.dK [(.inr n,.ref r)])) c2 (.dK []) c1=some (.dK [(.inr n,.ref r)]):=by rw [wc c12,qt]
 have e2:upd (upd H3 c1 (.dK [(.inr n,.ref r)])) c2 (.dK []) c2=some (.dK []):=qt
 have h31:H3 c1=some (.dK []):=s3 _ _ qt
 have R4:RoadAt CR (upd (upd H3 c1 (.dK [(.inr n,.ref r)])) c2 (.dK [])) r hs:=by
  obtain ⟨dx,q,a1,a2⟩:=R3
  have keep:∀b o,(∀kv,o≠HO.dK kv)→H3 b=some o→upd (upd H3 c1 (.dK [(.inr n,.ref r)])) c2 (.dK []) b=some o:=λb o no e=>by
   have b1:b≠c1:=λz=>by rw [z,h31] at e;cases e;exact no _ rfl
   have e4:upd H3 c1 (.dK [(.inr n,.ref r)]) b=some o:=by rw [wc b1];exact e
   rw [wc (qg e4 n2)]
   exact e4
  exact ⟨dx,q,keep _ _ (λkv z=>by cases z) a1,keep _ _ (λkv z=>by cases z) a2⟩
 have n20:H c2=none:=by
  cases q:H c2 with
  |none=>rfl
  |some o =>
   have b1:c2≠c1:=bg c12
   rw [wc b1,s3 _ _ (show upd H c1 (.dK []) c2=some o by rw [wc b1];exact q)] at n2
   cases n2
 generalize upd (upd H3 c1 (.dK [(.inr n,.ref r)])) c2 (.dK [])=H4 at s4 e1 e2 R4
 have hh4:=hh.same s4
 refine ⟨x,dr,dw,dd,c1,c2,R,W,[(.inr n,.ref r)],[],D,rfl,hh4,.inl e1,.inl e2,c12,(qg hh.r n1).symm,(qg hh.w n1).symm,(qg hh.r n20).symm,(qg hh.w n20).symm,bf.mpr ⟨ay,bM⟩,bM,lR,lW,by show 1≤1000;decide,aB _,lD,λi c ec hc=>?_,(λi c ec hc=>nomatch ec),λH' tp q1 q2 a1 a2 a3 a4 a5 a6 a7 a8 _ a9=>?_⟩
 ·cases i with
  |zero=>cases ec;cases hc
  |succ i=>cases ec
 ·have no:∀b,H4 b=none→H b=none:=λb e=>xu s4 e
  have rd:RoadAt CR H' r hs:=R4.kb (CH:=C) okl a9 rf λb hb=>by
   simp only [aq,ay,bU] at hb
   rcases hb with rfl|rfl|rfl|rfl|rfl
   ·exact .inl ⟨_,.inl hh4.r⟩
   ·exact .inl ⟨_,.inl hh4.w⟩
   ·exact .inr hh4.d
   ·exact .inl ⟨_,.inl e1⟩
   ·exact .inl ⟨_,.inl e2⟩
  refine k H' tp q1 q2 (no _ a1) (no _ a2) (no _ a3) a4 a5 a6 a7 a8 rd λb o nb e=>a9 b o (λz=>?_) (s4 _ _ e)
  simp only [aq,ay,bU] at z nb
  rcases z with z|z|z|z|z
  ·exact nb (.inl z)
  ·exact nb (.inr (.inl z))
  ·exact nb (.inr (.inr z))
  ·rw [z,n1] at e;cases e
  ·rw [z,n20] at e;cases e
def RDeed (C CR:Aj)(H H':Hp)(x dr dw dd:Aj)(R W:List (Key×V))(D:List V)(n:Str)(hs:List Int):Prop:=∃r tp q1 q2,H tp=none∧H q1=none∧H q2=none∧Hse C H' x dr dw dd (zf R (.inr n) (.ref r)) W (D++[.ref tp])∧H' tp=some (.tup [.ref q1,.ref q2])∧H' q1=some (.dK [(.inr n,(xv R (.inr n)).getD .non)])∧H' q2=some (.dK [])∧q1≠q2∧RoadAt CR H' r hs∧Kb [dr,dw,dd] H H'
theorem RDeed.pre {C CR:Aj}{H0 H H':Hp}{x dr dw dd:Aj}{R W:List (Key×V)}{D:List V}{n:Str}{hs:List Int}(h:RDeed C CR H H' x dr dw dd R W D n hs)(s:Same H0 H):RDeed C CR H0 H' x dr dw dd R W D n hs:=by
 obtain ⟨r,tp,q1,q2,a1,a2,a3,a4,a5,a6,a7,a8,a9,b1⟩:=h
 exact ⟨r,tp,q1,q2,xu s a1,xu s a2,xu s a3,a4,a5,a6,a7,a8,a9,λb o nb e=>b1 b o nb (s _ _ e)⟩
def qkn (K:Aa)(C CR CN CT CL:Aj):Sp:=λvs H Q E=>∃(x dr dw dd p:Aj) (R W:List (Key×V)) (D:List V) (n:Str) (hs:List Int),vs=[.ref x,.str n,.ref p]∧Hse C H x dr dw dd R W D∧Refs D∧R.length≤1000∧W.length≤1000∧D.length≤1000000∧n.length≤1000∧H p=some (.lst (hs.map V.int)) ∧
 (vg n=true→xv R (.inr n)=none→zq hs→∀H',RDeed C CR H H' x dr dw dd R W D n hs→Q .non H')∧(vg n=false→∀H',Same H H'→E (.ref CN) none H')∧(vg n=true→(xv R (.inr n)).isSome=true→∀H',Same H H'→E (.ref CT) none H')∧(vg n=true→xv R (.inr n)=none→¬ zq hs→∀H',Same H H'→E (.ref CL) none H')
theorem ok_lay {f:Aj}{fd:Ad}(F:Fun K "lay" "House.lay" s_House_lay f fd)(T:Txt K mg qc qr qx qm qu wq wy qh wf wx qj qp qw qq)(c_check_new_name:Cal P w K mg base "check_new_name" 2 (ym qh wf))(c_Road:CCal P w K mg base "Road" qp 2 (qqs K qr qp))(c_do:MCal P w K mg base qq "do" 2 (qw1 qq)) :
  FnOk P w K mg base (CXE P w) 4 f fd ["self","name","heights"] (qkn K qq qp qh wf qr):=by
 have sc:=qwg
 refine F.okX sc (λvs H Q E h=>by obtain ⟨x,dr,dw,dd,p,R,W,D,n,hs,rfl,_⟩:=h;rfl) (λcdv A outer s H vs Q E hr h=>?_)
 obtain ⟨x,dr,dw,dd,p,R,W,D,n,hs,rfl,hh,rf,lR,lW,lD,ln,hp,k,kn,kt,kl⟩:=h
 obtain ⟨dx,hx⟩:=hh.ob
 refine ⟨_,(qk (zd (wm c_check_new_name (hr.mono (by decide)) rfl qf (ww (pv 1) (xh (zb (pv 0) rfl) qz))))
   (wj (zd (xb (pv 0) T.clH c_do (hr.mono (by decide)) qf (xh (qq9 (Zd (pv 1) (Z1 c_Road (hr.mono (by decide)) rfl qf (ww (pv 2) qz)) qwk) rfl rfl (λz=>nomatch z) (by decide)) (xh jq qz)))))),?_⟩
 refine ⟨_,rfl,_,rfl,x,qq,dx,_,_,rfl,hx,T.clH,T.naHr,k9,n,dr,R,rfl,ln,hh.r,λa1 a2 H1 s1=>?_,kn,kt⟩
 have hh1:=hh.same s1
 refine exI rfl ⟨x,dx,exI rfl ⟨s1 _ _ hx,x8 (by decide +kernel) (by decide +kernel) (by decide +kernel),λc1 n1=>(exI rfl (exI rfl (λr d0 nr nd0 ne0=>wxx (H:=upd H1 c1 (.dK [])) (hs:=hs) (by rw [wc (qg (s1 _ _ hp) n1)];exact s1 _ _ hp) nr nd0 (λokl H3 s3 R3=>?_) λz H3 s3=>kl a1 a2 z H3 (s1.trans (λb o e=>s3 _ _ (by rw [wc (qg e n1)];exact e))))))⟩⟩
 refine ⟨s3 _ _ qt,[(.inr n,.ref r)],rfl,(show 1≤15 by decide),?_⟩
 exact wx4 (E:=E) hh1 n1 s3 R3 okl rf lR lW lD λH' tp q1 q2 b1 b2 b3 b4 b5 b6 b7 b8 b9 kb=>k a1 a2 okl H' (RDeed.pre ⟨r,tp,q1,q2,b1,b2,b3,b4,b5,b6,b7,b8,b9,kb⟩ s1)
end
section
variable {P:Ac}{w:Ah}{K:Aa}{mg:Str→Option Ag}{base:Heap}{qc:Aj}{qr:Aj}{qx:Aj}{qm:Aj}{qu:Aj}{wq:Aj}{wy:Aj}{qh:Aj}{wf:Aj}{wx:Aj}{qj:Aj}{qp:Aj}{qw:Aj}{qq:Aj}
def wF (n:Str)(p t:Aj):List (Str×V):=[("whose",.str n),("point",.ref p),("times",.ref t)]
theorem jg {n:Str}{p t:Aj}:(wF n p t).lookup ("whose" : Str)=some (.str n):=by unfold wF;rw [ax];simp
theorem jc {n:Str}{p t:Aj}:(wF n p t).lookup ("point" : Str)=some (.ref p):=by
 unfold wF
 rw [ax,show (("point" : Str)==("whose" : Str))=false by decide +kernel]
 dsimp only
 rw [ax]
 simp
theorem qz7 {n:Str}{p t:Aj}:(wF n p t).lookup ("times" : Str)=some (.ref t):=by
 unfold wF
 rw [ax,show (("times" : Str)==("whose" : Str))=false by decide +kernel]
 dsimp only
 rw [ax,show (("times" : Str)==("point" : Str))=false by decide +kernel]
 dsimp only
 rw [ax]
 simp
theorem qzj {n:Str}{p t:Aj}{m:Str}(h1:¬ m = "whose")(h2:¬ m = "point")(h3:¬ m = "times"):(wF n p t).lookup m=none:=by
 unfold wF
 rw [ax,aE.mpr h1]
 dsimp only
 rw [ax,aE.mpr h2]
 dsimp only
 rw [ax,aE.mpr h3]
 rfl
structure WkAt (C:Aj)(H:Hp)(y:Aj)(n:Str)(p:Aj)(pt:Int×Int)(t:Aj)(tv:List (List Key×V)):Prop where
 ob:∃dx,H y=some (.ins C dx (wF n p t))
 pt:H p=some (.tup [.int pt.1,.int pt.2])
 tm:H t=some (.dT tv)
theorem WkAt.kb {C:Aj}{H H':Hp}{y:Aj}{n:Str}{p:Aj}{pt:Int×Int}{t:Aj}{tv:List (List Key×V)}(h:WkAt C H y n p pt t tv){ch:List Aj}(k:Kb ch H H')(hc:∀b∈ch,(∃kv,Rd H b (.dK kv))∨∃D,H b=some (.lst D)):WkAt C H' y n p pt t tv:=by
 have no:∀b o,(∀kv,o≠HO.dK kv)→(∀u kv,o≠HO.frz u (.dK kv))→(∀D,o≠HO.lst D)→H b=some o→H' b=some o:=λb o a1 a2 a3 e=>k _ _ (λz=>by
  rcases hc b z with ⟨kv,q|⟨u,q⟩⟩|⟨D,q⟩
  ·rw [e] at q;cases q;exact a1 _ rfl
  ·rw [e] at q;cases q;exact a2 _ _ rfl
  ·rw [e] at q;cases q;exact a3 _ rfl) e
 obtain ⟨dx,e⟩:=h.ob
 exact ⟨⟨dx,no _ _ (λ_ z=>by cases z) (λ_ _ z=>by cases z) (λ_ z=>by cases z) e⟩,no _ _ (λ_ z=>by cases z) (λ_ _ z=>by cases z) (λ_ z=>by cases z) h.pt,no _ _ (λ_ z=>by cases z) (λ_ _ z=>by cases z) (λ_ z=>by cases z) h.tm⟩
theorem WkAt.same {C:Aj}{H H':Hp}{y:Aj}{n:Str}{p:Aj}{pt:Int×Int}{t:Aj}{tv:List (List Key×V)}(h:WkAt C H y n p pt t tv)(s:Same H H'):WkAt C H' y n p pt t tv:=h.kb (ch:=[]) (Kb.of s) λb z=>nomatch z
def TmOk (tv:List (List Key×V)):Prop:=tv≠[]∧(tv.map (·.1)).Nodup∧∀q∈tv,∃a b c:Int,q=([.inl a,.inl b],.int c)∧0≤a∧a≤960∧1≤b∧b≤40
theorem TmOk.hash {P:Ac}{w:Ah}{tv:List (List Key×V)}(h:TmOk tv):(tv.map λp=>yr P w p.1).Nodup:=by
 obtain ⟨_,nd,all⟩:=h
 have e:(tv.map λp=>yr P w p.1)=(tv.map (·.1)).map (yr P w):=by rw [cE];rfl
 rw [e]
 refine bF.mpr (bx (λ{x y} hx hy hne z=>hne ?_) nd)
 obtain ⟨p,hp,rfl⟩:=aN.mp hx
 obtain ⟨q,hq,rfl⟩:=aN.mp hy
 obtain ⟨a,b,c,rfl,a0,a1,b0,b1⟩:=all p hp
 obtain ⟨a',b',c',rfl,a0',a1',b0',b1'⟩:=all q hq
 obtain ⟨e1,e2⟩:=quy a0 a1 b0 b1 a0' a1' b0' b1' z
 show ([.inl a,.inl b]:List Key)=[.inl a',.inl b']
 rw [e1,e2]
theorem TmOk.len {tv:List (List Key×V)}(h:TmOk tv):tv.length≤40000:=by
 obtain ⟨_,nd,all⟩:=h
 let g:List Key→Nat:=λk=>match k with|[.inl a,.inl b]=>a.toNat*41+b.toNat|_=>0
 have m:∀x∈tv.map (·.1),∃a b:Int,x=[.inl a,.inl b]∧0≤a∧a≤960∧1≤b∧b≤40:=λx hx=>by
  obtain ⟨p,hp,rfl⟩:=aN.mp hx
  obtain ⟨a,b,c,rfl,r⟩:=all p hp
  exact ⟨a,b,rfl,r⟩
 have nd2:((tv.map (·.1)).map g).Nodup:=by
  refine bF.mpr (bx (λ{x y} hx hy hne z=>hne ?_) nd)
  obtain ⟨a,b,rfl,a0,a1,b0,b1⟩:=m x hx
  obtain ⟨a',b',rfl,a0',a1',b0',b1'⟩:=m y hy
  have z:a.toNat*41+b.toNat=a'.toNat*41+b'.toNat:=z
  have e1:a=a':=by lia
  have e2:b=b':=by lia
  rw [e1,e2]
 have:=L2.qqm ((tv.map (·.1)).map g) (List.range 39401) nd2 λv hv=>?_
 ·rw [ae,ae,aC] at this
  lia
 ·obtain ⟨x,hx,rfl⟩:=aN.mp hv
  obtain ⟨a,b,rfl,a0,a1,b0,b1⟩:=m x hx
  refine aL.mpr ?_
  show a.toNat*41+b.toNat<39401
  lia
theorem TmOk.one {a b:Int}(a0:0≤a)(a1:a≤960)(b0:1≤b)(b1:b≤40):TmOk [([.inl a,.inl b],.int 1)]:=⟨λz=>(nomatch z),bf.mpr ⟨ay,bM⟩,λq hq=>⟨a,b,1,au.mp hq,a0,a1,b0,b1⟩⟩
theorem TmOk.put {tv:List (List Key×V)}(h:TmOk tv){a b c:Int}(a0:0≤a)(a1:a≤960)(b0:1≤b)(b1:b≤40):TmOk (zf tv [.inl a,.inl b] (.int c)):=by
 obtain ⟨ne,nd,all⟩:=h
 unfold zf
 split
 ·refine ⟨λz=>ne (List.map_eq_nil_iff.mp z),?_,λq hq=>?_⟩
  ·have:(tv.map λkv=>if kv.1=[Sum.inl a,Sum.inl b] then (kv.1,V.int c) else kv).map (·.1)=tv.map (·.1):=by
    rw [cE]
    refine bX λx _=>?_
    show (if x.1=[Sum.inl a,Sum.inl b] then (x.1,V.int c) else x).1=x.1
    split <;> rfl
   rw [this]
   exact nd
  ·obtain ⟨x,hx,rfl⟩:=aN.mp hq
   obtain ⟨a',b',c',rfl,r⟩:=all x hx
   show ∃a_1 b_1 c_1:Int,(if ([Sum.inl a',Sum.inl b']:List Key)=[Sum.inl a,Sum.inl b] then (([Sum.inl a',Sum.inl b']:List Key),V.int c) else ([Sum.inl a',Sum.inl b'],V.int c'))=([.inl a_1,.inl b_1],.int c_1)∧_
   split
   ·exact ⟨a',b',c,rfl,r⟩
   ·exact ⟨a',b',c',rfl,r⟩
 ·rename_i hn
  refine ⟨List.append_ne_nil_of_right_ne_nil _ (List.cons_ne_nil _ _),?_,λq hq=>?_⟩
  ·rw [aT,List.nodup_append]
   refine ⟨nd,bf.mpr ⟨ay,bM⟩,λx hx y hy z=>hn ?_⟩
   obtain ⟨p,hp,rfl⟩:=aN.mp hx
   have hy:y=[Sum.inl a,Sum.inl b]:=au.mp hy
   exact List.any_eq_true.mpr ⟨p,hp,aP (z.trans hy)⟩
  ·rcases ba.mp hq with hq|hq
   ·exact all q hq
   ·exact ⟨a,b,c,au.mp hq,a0,a1,b0,b1⟩
end
section
variable {P:Ac}{w:Ah}{K:Aa}{mg:Str→Option Ag}{base:Heap}{qc:Aj}{qr:Aj}{qx:Aj}{qm:Aj}{qu:Aj}{wq:Aj}{wy:Aj}{qh:Aj}{wf:Aj}{wx:Aj}{qj:Aj}{qp:Aj}{qw:Aj}{qq:Aj}
def stN (n u m f:Nat):Nat:=if m<f then 0 else (if f<u then 1 else (m-f)/(n-u)+1)-(if f=0 then 1 else 0)
theorem quz {m:Int}{t L:Nat}(h:(t:Int)≤m):(m-t)/(L:Int)=(((m.toNat-t)/L:Nat):Int):=by
 rw [show m-(t:Int)=((m.toNat-t:Nat):Int) by lia]
 push_cast
 rfl
def wqs:Sp:=λvs H Q _=>∃(f u n:Nat) (m:Int),vs=[.int f,.int u,.int n,.int m]∧f<n∧u<n∧n≤1000∧0≤m∧Q (.int (stN n u m.toNat f)) H
theorem ok_led {f:Aj}{fd:Ad}(F:Fun K "led_to" "led_to" s_led_to f fd)(T:Txt K mg qc qr qx qm qu wq wy qh wf wx qj qp qw qq):FnOk P w K mg base (CXE P w) 1 f fd ["place","turn","size","many"] wqs:=by
 have sc:=qyz
 refine F.okX sc (λvs H Q E h=>by obtain ⟨f,u,n,m,rfl,_⟩:=h;rfl) (λcdv A outer s H vs Q E hr h=>?_)
 obtain ⟨f,u,n,m,rfl,hf,u1,n1,m0,k⟩:=h
 refine ⟨_,(qk (x9 (w6 uy (pv 0) (pv 3) (w9 _)) (wj (w8 qy)) xx)
   (qk (wt (i:=4) sc.nd rfl (by walk_at "loc") (qxb (w6 jr (pv 0) (pv 1) (w9 _)) qy (wg xz (wg v5 (wg zh (pv 3) (pv 0)) (wg zh (pv 2) (pv 1))) qy)))
   (wj (w8 (qxb (w6 kh (pv 0) qy (w9 _)) (wg zh (pv 4) qy) (pv 4)))))),?_⟩
 refine exI rfl (exI rfl (wr rfl rfl (exI rfl (ku (λz=>?_) (λz=>?_)))))
 ·unfold stN at k
  rw [ak (by lia)] at k
  exact k
 ·have fm:(f:Int)≤m:=by lia
  have res:∀x:Int,x=(if f<u then 1 else (((m.toNat-f)/(n-u):Nat):Int)+1)-(if f=0 then 1 else 0)→Q (.int x) H:=λx hx=>by
   have e:x=(stN n u m.toNat f:Nat):=by
    unfold stN
    rw [aj (by lia),hx]
    generalize (m.toNat-f)/(n-u)=D
    by_cases y1:f<u <;> by_cases y2:f=0
    ·simp only [ak y1,ak y2];lia
    ·simp only [ak y1,aj y2];lia
    ·simp only [aj y1,ak y2];lia
    ·simp only [aj y1,aj y2];lia
   rw [e]
   exact k
  refine exI rfl (exI rfl (wr rfl rfl (exI rfl (ku (λy1=>?_) (λy1=>?_)))))
  ·refine exI rfl ⟨rfl,_,rfl,k8 (λy2=>?_) (λy2=>?_)⟩
   ·refine exI rfl (wr rfl rfl (res _ ?_))
    rw [ak (by lia),ak (by lia)]
   ·refine exI rfl (res _ ?_)
    rw [ak (by lia),aj (by lia)]
    rfl
  ·refine exI rfl (exI rfl (wr rfl rfl (exI rfl (exI rfl (wr rfl rfl ?_)))))
   refine wr rfl rfl ⟨⟨(by lia),(Sm.small (n:=65) (by lia) (by lia) (by decide)).mono (by decide)⟩,wr rfl rfl ?_⟩
   have ev:(m-(f:Int))/((n:Int)-u)=(((m.toNat-f)/(n-u):Nat):Int):=by
    rw [←quz fm,show ((n-u:Nat):Int)=(n:Int)-u by lia]
   rw [ev]
   refine exI rfl ⟨rfl,_,rfl,k8 (λy2=>?_) (λy2=>?_)⟩
   ·refine exI rfl (wr rfl rfl (res _ ?_))
    rw [aj (by lia),ak (by lia)]
   ·refine exI rfl (res _ ?_)
    rw [aj (by lia),aj (by lia)]
    lia
def ur (C:Aj):Sp:=λvs H Q _=>∃(y dx p t:Aj) (n:Str),vs=[.ref y,.str n,.ref p,.ref t]∧H y=some (.ins C dx [])∧∀H',H' y=some (.ins C dx (wF n p t))→Kb [y] H H'→Q .non H'
theorem qum {f:Aj}{fd:Ad}(F:Fun K "__init__" "Walker.__init__" s_Walker___init__ f fd)(T:Txt K mg qc qr qx qm qu wq wy qh wf wx qj qp qw qq):FnOk P w K mg base (CXE P w) 1 f fd ["self","whose","point","times"] (ur qw):=by
 have sc:=y9
 refine F.okX sc (λvs H Q E h=>by obtain ⟨y,dx,p,t,n,rfl,_⟩:=h;rfl) (λcdv A outer s H vs Q E hr h=>?_)
 obtain ⟨y,dx,p,t,n,rfl,hy,k⟩:=h
 refine ⟨_,(qk (ux (pv 0) (pv 1) rfl)
   (qk (ux (pv 0) (pv 2) rfl)
   (wj (ux (pv 0) (pv 3) rfl)))),?_⟩
 refine exI rfl (exI rfl ⟨y,qw,dx,[],rfl,hy,T.clW,T.naWw,(by show 0<1000;decide),?_⟩)
 refine exI rfl (exI rfl ⟨y,qw,dx,exI rfl ⟨qt,T.clW,T.naWp,(by show 1<1000;decide),?_⟩⟩)
 refine exI rfl (exI rfl ⟨y,qw,dx,exI rfl ⟨qt,T.clW,T.naWt,(by show 2<1000;decide),?_⟩⟩)
 refine k _ qt λb o nb e=>?_
 have nb:b≠y:=λz=>nb (by simp [z])
 rw [wc nb,wc nb,wc nb]
 exact e
theorem qqv {C:Aj}{H:Hp}{n:Str}{p t y dx:Aj}{Pp:Hp→Prop}{E:XK}(ny:H y=none)(nd:H dx=none)(k:∀H',Same H H'→(∃dx,H' y=some (.ins C dx (wF n p t)))→Pp H') :
  ur C [.ref y,.str n,.ref p,.ref t] (upd (upd H dx (.own y)) y (.ins C dx [])) (λr H2=>r=.non∧Pp H2) E:=by
 refine ⟨y,dx,p,t,n,rfl,qt,λH' e kb=>⟨rfl,k H' (λb o eb=>kb b o (λz=>?_) ?_) ⟨dx,e⟩⟩⟩
 ·rw [au.mp z,ny] at eb;cases eb
 ·rw [wc (qg eb ny),wc (qg eb nd)]
  exact eb
def Q8 (C:Aj):Sp:=λvs H Q _=>∃(n:Str) (p:Aj) (pt:Int×Int),vs=[.str n,.ref p]∧H p=some (.tup [.int pt.1,.int pt.2])∧∀H' y t,H y=none→Same H H'→WkAt C H' y n p pt t [([.inl pt.1,.inl pt.2],.int 1)]→Q (.ref y) H'
theorem qxz {f:Aj}{fd:Ad}(F:Fun K "set_down" "set_down" s_set_down f fd)(T:Txt K mg qc qr qx qm qu wq wy qh wf wx qj qp qw qq)(c_Walker:CCal P w K mg base "Walker" qw 1 (ur qw)):FnOk P w K mg base (CXE P w) 3 f fd ["whose","point"] (Q8 qw):=by
 have sc:=qzh
 refine F.okX sc (λvs H Q E h=>by obtain ⟨n,p,pt,rfl,_⟩:=h;rfl) (λcdv A outer s H vs Q E hr h=>?_)
 obtain ⟨n,p,pt,rfl,hp,k⟩:=h
 refine ⟨_,(wj (w8 (Z1 c_Walker (hr.mono (by decide)) rfl qf (ww (pv 0) (ww (pv 1) (xh (quw hr.units0 (pv 1) qy) qz)))))),?_⟩
 refine exI rfl (exI rfl (λt nt=>(exI rfl ⟨p,[.inl pt.1,.inl pt.2],rfl,(by rw [wc (qg hp nt)];exact hp),qt,?_⟩)))
 have s1:Same H (upd (upd H t (.dT [])) t (.dT [([.inl pt.1,.inl pt.2],.int 1)])):=by
  rw [Qv]
  exact Same.upd nt
 have f1:upd (upd H t (.dT [])) t (.dT [([.inl pt.1,.inl pt.2],.int 1)]) t=some (.dT [([.inl pt.1,.inl pt.2],.int 1)]):=qt
 generalize upd (upd H t (.dT [])) t (.dT [([.inl pt.1,.inl pt.2],.int 1)])=H1 at s1 f1
 exact λy dx ny nd ne=>qqv ny nd λH' s2 e=>k H' y t (xu s1 ny) (s1.trans s2) ⟨e,s2 _ _ (s1 _ _ hp),s2 _ _ f1⟩
def HPt (hs:List Int)(pt:Int×Int):Prop:=zq hs∧Pt hs pt.2 pt∧pt.2≤40
theorem HPt.rng {hs:List Int}{pt:Int×Int}(h:HPt hs pt):0≤pt.1∧pt.1≤960∧1≤pt.2∧pt.2≤40:=by
 obtain ⟨ok,⟨h1,_,_,h0,h2⟩,h3⟩:=h
 have ol:=ok.2.1
 have o1:=ok.1
 have:((hs.length:Int)-1)*pt.2≤24*pt.2:=aG (by lia) (by lia)
 lia
theorem HPt.it {hs:List Int}{pt:Int×Int}(h:HPt hs pt)(n:Nat):HPt hs (itP hs pt n):=by
 have a:=qux h.1 h.2.1 n
 have:=h.2.2
 have:=a.2.1
 exact ⟨h.1,⟨a.1,Int.le_refl _,a.2.2.1,a.2.2.2⟩,by lia⟩
theorem HPt.short {hs:List Int}{pt:Int×Int}(h:HPt hs pt):¬ Dist (itP hs pt) 1001:=λd=>by
 have r:=h.rng
 obtain ⟨ok,hp,h3⟩:=h
 have ol:=ok.2.1
 have o1:=ok.1
 have inj:∀i j,trT hs pt.1 pt.2 i=trT hs pt.1 pt.2 j→itP hs pt i=itP hs pt j:=λi j e=>(it_eq hp i j).mpr e
 have nd:((List.range 1001).map λi=>(trT hs pt.1 pt.2 i).toNat).Nodup:=by
  refine bF.mpr (bx (λ{i j} hi hj hij z=>?_) (cV (n:=1001)))
  have a:=Q7 ok hp.1 hp.2.2.2 i
  have b:=Q7 ok hp.1 hp.2.2.2 j
  have a0:=a.1
  have b0:=b.1
  exact d i j hij (aL.mp hj) (inj i j (by lia))
 have:=L2.qqm _ (List.range 961) nd λv hv=>by
  obtain ⟨i,_,rfl⟩:=aN.mp hv
  have a:=Q7 ok hp.1 hp.2.2.2 i
  have a0:=a.1
  have a1:=a.2
  have:((hs.length:Int)-1)*pt.2≤24*pt.2:=aG (by lia) (by lia)
  exact aL.mpr (by lia)
 rw [ae,aC,aC] at this
 lia
def qq5 (tv:List (List Key×V))(q:Int×Int):Int:=match (xv tv [.inl q.1,.inl q.2]).getD (.int 0) with|.int c=>c|_=>0
def HitI (hs:List Int)(pt:Int×Int)(n u m i:Nat)(tv tv':List (List Key×V)):Prop:=(∀f,f<i→qq5 tv' (itP hs pt f)=qq5 tv (itP hs pt f)+stN n u m f)∧∀q,(∀f,f<i→itP hs pt f≠q)→qq5 tv' q=qq5 tv q
def Hits (hs:List Int)(pt:Int×Int)(m:Nat)(tv tv':List (List Key×V)):Prop:=∃n u,n≤1000∧Dist (itP hs pt) n∧u<n∧itP hs pt n=itP hs pt u∧HitI hs pt n u m n tv tv'
theorem qk3 {tv:List (List Key×V)}{q q':Int×Int}{c:Int}:qq5 (zf tv [.inl q.1,.inl q.2] (.int c)) q'=if q=q' then c else qq5 tv q':=by
 unfold qq5
 by_cases h:q=q'
 ·subst h
  rw [ak rfl,yz,ak rfl]
  rfl
 ·rw [aj h,yz,aj]
  intro z
  apply h
  injection z with z1 z2
  injection z2 with z2 _
  injection z1 with z1
  injection z2 with z2
  exact Prod.ext z1.symm z2.symm
theorem HitI.next {hs:List Int}{pt:Int×Int}{n u m i:Nat}{tv tv':List (List Key×V)}(h:HitI hs pt n u m i tv tv')(d:Dist (itP hs pt) n)(hi:i<n)(e:stN n u m i=0):HitI hs pt n u m (i+1) tv tv':=by
 have ne:∀f,f<i→itP hs pt f≠itP hs pt i:=λf hf=>d f i hf hi
 refine ⟨λf hf=>?_,λq hq=>h.2 q λf hf=>hq f (by lia)⟩
 by_cases z:f=i
 ·subst z
  rw [h.2 _ ne,e]
  lia
 ·exact h.1 f (by lia)
theorem HitI.put {hs:List Int}{pt:Int×Int}{n u m i:Nat}{tv tv':List (List Key×V)}{c:Int}(h:HitI hs pt n u m i tv tv')(d:Dist (itP hs pt) n)(hi:i<n)(ec:(xv tv' [.inl (itP hs pt i).1,.inl (itP hs pt i).2]).getD (.int 0)=.int c):HitI hs pt n u m (i+1) tv (zf tv' [.inl (itP hs pt i).1,.inl (itP hs pt i).2] (.int (c+stN n u m i))):=by
 have ne:∀f,f<i→itP hs pt f≠itP hs pt i:=λf hf=>d f i hf hi
 have e0:qq5 tv' (itP hs pt i)=c:=by unfold qq5;rw [ec]
 have e1:=h.2 _ ne
 refine ⟨λf hf=>?_,λq hq=>?_⟩
 ·rw [qk3]
  by_cases z:f=i
  ·subst z
   rw [ak rfl,←e1,e0]
  ·rw [aj (λy=>ne f (by lia) y.symm)]
   exact h.1 f (by lia)
 ·rw [qk3,aj (hq i (by lia))]
  exact h.2 q λf hf=>hq f (by lia)
def qqn (C CR:Aj):Sp:=λvs H Q _=>∃(y r p t:Aj) (n:Str) (hs:List Int) (pt:Int×Int) (tv:List (List Key×V)) (m:Int),vs=[.ref y,.ref r,.int m]∧WkAt C H y n p pt t tv∧TmOk tv∧RoadAt CR H r hs∧HPt hs pt∧0≤m ∧
 ∀H' y' p' t' tv',H y'=none→Same H H'→WkAt C H' y' n p' (itP hs pt m.toNat) t' tv'→TmOk tv'→Hits hs pt m.toNat tv tv'→Q (.ref y') H'
theorem wxv {f:Aj}{fd:Ad}(F:Fun K "gone" "Walker.gone" s_Walker_gone f fd)(T:Txt K mg qc qr qx qm qu wq wy qh wf wx qj qp qw qq)(c_trace:Cal P w K mg base "trace" 5 (qw3 qp wq))(c_led_to:Cal P w K mg base "led_to" 1 wqs)(c_spot:Cal P w K mg base "spot" 1 qz5)(c_Walker:CCal P w K mg base "Walker" qw 1 (ur qw)) :
  FnOk P w K mg base (CXE P w) 6 f fd ["self","road","many"] (qqn qw qp):=by
 have sc:=Z5
 refine F.okX sc (λvs H Q E h=>by obtain ⟨y,r,p,t,n,hs,pt,tv,m,rfl,_⟩:=h;rfl) (λcdv A outer s H vs Q E hr h=>?_)
 obtain ⟨y,r,p,t,n,hs,pt,tv,m,rfl,hW,hT,hR,hP,m0,k⟩:=h
 obtain ⟨dy,hy⟩:=hW.ob
 have rg:=hP.rng
 have big:(1000000:Nat)<sizeLine:=by decide
 refine ⟨_,(qk (Q9 (wm c_trace (hr.mono (by decide)) rfl qf (ww (pv 1) (xh (zb (pv 0) rfl) qz))) (jn rfl (zw (xp (i:=3) sc.nd rfl (by walk_at "loc")) (zw (xp (i:=4) sc.nd rfl (by walk_at "loc")) k4))))
   (qk (wt (i:=5) sc.nd rfl (by walk_at "loc") (yb qvs rfl T.dict_ PyProof.Rows.boot_dict (xh (zb (pv 0) rfl) qz)))
   (qk (uz aY rfl (wwt rfl T.enumerate_ (ww (pv 3) qz)) (jn rfl (zw (xp (i:=6) sc.nd rfl (by walk_at "loc")) (zw (xp (i:=7) sc.nd rfl (by walk_at "loc")) k4))) (qk (wt (i:=8) sc.nd rfl (by walk_at "loc") (wm c_led_to (hr.mono (by decide)) rfl qf (ww (pv 6) (ww (pv 4) (jj (xq xf rfl T.len_ aM (ww (pv 3) qz)) (ww (pv 2) qz))))))
   (wj (x9 (w6 uy (pv 8) qy (w9 _)) (wj (Zx (vf hr) (pv 5) (pv 7) (wg xz (wqd (vf hr) (pv 5) (pv 7) qy ⟨rfl,rfl,rfl,rfl⟩) (pv 8)) rfl)) xx))))
   (wj (w8 (Z1 c_Walker (hr.mono (by decide)) rfl qf (xh (zb (pv 0) rfl) (jj (wm c_spot (hr.mono (by decide)) rfl qf (ww (pv 3) (ww (pv 4) (ww (pv 2) qz)))) (ww (pv 5) qz))))))))),?_⟩
 refine ⟨_,rfl,_,rfl,y,qw,dy,_,_,rfl,hy,T.clW,T.naWp,jc,r,p,hs,pt,pt.2,rfl,hR,hP.1,hW.pt,hP.2.1,(Sm.small (n:=65) (by lia) (by lia) (by decide)).mono (by decide),λnn u q l H1 n1 d1 u1 e1 s1 nl fq pa=>?_,λd=>absurd d hP.short⟩
 refine ⟨q,exI rfl ⟨SqT.of fq,rfl,_,_,rfl,_,_,rfl,rfl,?_⟩⟩
 obtain ⟨ys,fl,pr⟩:=id pa
 have hl:ys.length=nn:=by rw [pr.length,qzx]
 have y1:=s1 _ _ hy
 refine exI rfl ⟨y,qw,dy,_,_,rfl,y1,T.clW,T.naWt,qz7,t,tv,rfl,s1 _ _ hW.tm,hT.1,hT.hash,λt2 nt2=>?_⟩
 have s2:Same H1 (upd H1 t2 (.dT tv)):=Same.upd nt2
 have f2:upd H1 t2 (.dT tv) t2=some (.dT tv):=qt
 have nt20:H t2=none:=xu s1 nt2
 have tl:t2≠l:=(qg fl nt2).symm
 generalize hH2:upd H1 t2 (.dT tv)=H2 at s2 f2
 refine exI rfl ⟨l,ys,rfl,SqL.of (s2 _ _ fl),?_⟩
 refine for_en (λi σ H'=>(∃z6 z7 z8,σ=[some (.ref y),some (.ref r),some (.int m),some (.ref l),some (.int ((u:Nat):Int)),some (.ref t2),z6,z7,z8])∧(∃tv',H' t2=some (.dT tv')∧TmOk tv'∧HitI hs pt nn u m.toNat i tv tv')∧Kb [t2] H1 H') ⟨⟨_,_,_,rfl⟩,⟨tv,f2,hT,(λf z=>absurd z (eC _)),λ_ _=>rfl⟩,Kb.of s2⟩ (λi σ H' hi h=>SqL.of (h.2.2 _ _ (by simpa using tl.symm) fl)) ?_ ?_
 ·rintro i v z σ H' ev nz ⟨⟨z6,z7,z8,rfl⟩,⟨tv',ft,hT',hit⟩,kb⟩
  have hi:i<nn:=by rw [←hl];exact (bh.mp ev).1
  obtain ⟨a,ea,fa⟩:=qz4 (i:=i) pr hi
  rw [ev] at ea
  cases ea
  have sz:Same H' (upd H' z (.tup [.int ((i:Nat):Int),.ref a])):=Same.upd nz
  refine ⟨z,exI rfl ⟨SqT.new,rfl,_,_,rfl,_,_,rfl,rfl,?_⟩⟩
  have ft3:=sz _ _ ft
  have kb3:Kb [t2] H1 (upd H' z (.tup [.int ((i:Nat):Int),.ref a])):=kb.trans (Kb.of sz)
  generalize upd H' z (.tup [.int ((i:Nat):Int),.ref a])=H3 at ft3 kb3
  have at2:a≠t2:=qg fa nt2
  have fl3:=kb3 _ _ (by simpa using tl.symm) fl
  have fa3:H3 a=some (.tup (([.inl (itP hs pt i).1,.inl (itP hs pt i).2]:List Key).map kV)):=kb3 _ _ (by simpa using at2) fa
  have rgi:=(hP.it i).rng
  refine exI rfl (exI rfl (exI rfl ⟨_,_,rfl,.inl (SqL.of fl3),exI rfl ⟨i,u,nn,m,?_,hi,u1,n1,m0,exI rfl (wr rfl rfl (exI rfl (ku (λg=>?_) (λg=>?_))))⟩⟩))
  ·rw [hl]
  ·have dg:=DGet.t ft3 fa3
   have key:∃c:Int,(xv tv' [.inl (itP hs pt i).1,.inl (itP hs pt i).2]).getD (.int 0)=.int c:=by
    cases e:xv tv' [.inl (itP hs pt i).1,.inl (itP hs pt i).2] with
    |none=>exact ⟨0,rfl⟩
    |some v =>
     have hm:∃kv∈tv',kv.2=v:=by
      unfold xv at e
      cases hf:tv'.find? λkv=>decide (kv.1=[Sum.inl (itP hs pt i).1,Sum.inl (itP hs pt i).2]) with
      |none=>rw [hf] at e;cases e
      |some kv =>
       rw [hf] at e
       exact ⟨kv,List.mem_of_find?_eq_some hf,av e⟩
     obtain ⟨kv,hk,rfl⟩:=hm
     obtain ⟨a',b',c',rfl,_⟩:=hT'.2.2 kv hk
     exact ⟨c',rfl⟩
   obtain ⟨c,ec⟩:=key
   refine exI rfl ⟨t2,rfl,.inr ⟨_,.inl ft3⟩,exI rfl ⟨_,dg,_,rfl,?_⟩⟩
   rw [ec]
   refine wr rfl rfl (exI rfl (exI rfl ⟨t2,exI rfl ⟨DPut.t ft3 fa3 (by have:=hT'.len;lia),⟨_,_,_,rfl⟩,⟨_,qt,hT'.put rgi.1 rgi.2.1 rgi.2.2.1 rgi.2.2.2,hit.put d1 hi ec⟩,λb o nb e=>?_⟩⟩))
   rw [wc (by simpa using nb)]
   exact kb3 b o nb e
  ·exact ⟨⟨_,_,_,rfl⟩,⟨tv',ft3,hT',hit.next d1 hi (by lia)⟩,kb3⟩
 ·rintro σ H' ⟨⟨z6,z7,z8,rfl⟩,⟨tv',ft,hT',hit⟩,kb⟩
  rw [hl] at hit
  have keep:∀b o,H1 b=some o→H' b=some o:=λb o e=>kb b o (by simpa using qg e nt2) e
  refine exI rfl ⟨y,qw,dy,_,_,rfl,keep _ _ y1,T.clW,T.naWw,jg,exI rfl (exI rfl (exI rfl ⟨l,hs,pt,nn,u,m,rfl,⟨n1,d1,u1,e1,pa.same keep⟩,m0,λa fa=>(exI rfl (λy' dx' ny' nd' ne'=>qqv ny' nd' λH4 s4 e4=>?_))⟩))⟩
  have sk:Same H H':=s1.trans keep
  exact k H4 y' a t2 tv' (xu sk ny') (sk.trans s4) ⟨e4,s4 _ _ fa,s4 _ _ ft⟩ hT' ⟨nn,u,n1,d1,u1,e1,hit⟩
end
section
variable {P:Ac}{w:Ah}{K:Aa}{mg:Str→Option Ag}{base:Heap}{qc:Aj}{qr:Aj}{qx:Aj}{qm:Aj}{qu:Aj}{wq:Aj}{wy:Aj}{qh:Aj}{wf:Aj}{wx:Aj}{qj:Aj}{qp:Aj}{qw:Aj}{qq:Aj}
theorem qqq {C CW:Aj}{H H3:Hp}{x dr dw dd c1 c2 y:Aj}{R W:List (Key×V)}{D:List V}{n whose:Str}{p t:Aj}{pt:Int×Int}{tv:List (List Key×V)}{Q:VK}{E:XK}(hh:Hse C H x dr dw dd R W D)(n1:H c1=none)(n2:upd H c1 (.dK []) c2=none)(s3:Same (upd (upd H c1 (.dK [])) c2 (.dK [])) H3)(W3:WkAt CW H3 y whose p pt t tv)(lR:R.length≤1000)(lW:W.length≤1000)(lD:D.length≤1000000)
  (k:∀H' tp q1 q2,H tp=none→H q1=none→H q2=none→Hse C H' x dr dw dd R (zf W (.inr n) (.ref y)) (D++[.ref tp])→H' tp=some (.tup [.ref q1,.ref q2])→H' q1=some (.dK [])→H' q2=some (.dK [(.inr n,(xv W (.inr n)).getD .non)])→q1≠q2→WkAt CW H' y whose p pt t tv→Kb [dr,dw,dd] H H'→Q .non H') :
  qw1 C [.ref x,.ref c1,.ref c2] (upd H3 c2 (.dK [(.inr n,.ref y)])) Q E:=by
 have c12:c1≠c2:=λz=>by rw [←z,qt] at n2;cases n2
 have n20:H c2=none:=by rw [←n2,wc (bg c12)]
 have s03:Same H H3:=λb o e=>s3 _ _ (by rw [wc (qg e n20),wc (qg e n1)];exact e)
 have h32:H3 c2=some (.dK []):=s3 _ _ qt
 have h31:H3 c1=some (.dK []):=s3 _ _ (by rw [wc c12,qt])
 have keep:∀b o,(∀kv,o≠HO.dK kv)→H3 b=some o→upd H3 c2 (.dK [(.inr n,.ref y)]) b=some o:=λb o no e=>by
  rw [wc (λz=>by rw [z,h32] at e;cases e;exact no _ rfl)]
  exact e
 have W4:WkAt CW (upd H3 c2 (.dK [(.inr n,.ref y)])) y whose p pt t tv:=by
  obtain ⟨dx,e⟩:=W3.ob
  exact ⟨⟨dx,keep _ _ (λkv z=>by cases z) e⟩,keep _ _ (λkv z=>by cases z) W3.pt,keep _ _ (λkv z=>by cases z) W3.tm⟩
 have s4:Same H (upd H3 c2 (.dK [(.inr n,.ref y)])):=λb o e=>by rw [wc (qg e n20)];exact s03 _ _ e
 have e1:upd H3 c2 (.dK [(.inr n,.ref y)]) c1=some (.dK []):=by rw [wc c12];exact h31
 have e2:upd H3 c2 (.dK [(.inr n,.ref y)]) c2=some (.dK [(.inr n,.ref y)]):=qt
 generalize upd H3 c2 (.dK [(.inr n,.ref y)])=H4 at s4 e1 e2 W4
 have hh4:=hh.same s4
 refine ⟨x,dr,dw,dd,c1,c2,R,W,[],[(.inr n,.ref y)],D,rfl,hh4,.inl e1,.inl e2,c12,(qg hh.r n1).symm,(qg hh.w n1).symm,(qg hh.r n20).symm,(qg hh.w n20).symm,bM,bf.mpr ⟨ay,bM⟩,lR,lW,aB _,by show 1≤1000;decide,lD,(λi c ec hc=>nomatch ec),λi c ec hc=>?_,λH' tp q1 q2 a1 a2 a3 a4 a5 a6 a7 a8 _ a9=>?_⟩
 ·cases i with
  |zero=>cases ec;cases hc
  |succ i=>cases ec
 ·have no:∀b,H4 b=none→H b=none:=λb e=>xu s4 e
  have wk:WkAt CW H' y whose p pt t tv:=W4.kb a9 λb hb=>by
   simp only [aq,ay,bU] at hb
   rcases hb with rfl|rfl|rfl|rfl|rfl
   ·exact .inl ⟨_,.inl hh4.r⟩
   ·exact .inl ⟨_,.inl hh4.w⟩
   ·exact .inr ⟨_,hh4.d⟩
   ·exact .inl ⟨_,.inl e1⟩
   ·exact .inl ⟨_,.inl e2⟩
  refine k H' tp q1 q2 (no _ a1) (no _ a2) (no _ a3) a4 a5 a6 a7 a8 wk λb o nb e=>a9 b o (λz=>?_) (s4 _ _ e)
  simp only [aq,ay,bU] at z nb
  rcases z with z|z|z|z|z
  ·exact nb (.inl z)
  ·exact nb (.inr (.inl z))
  ·exact nb (.inr (.inr z))
  ·rw [z,n1] at e;cases e
  ·rw [z,n20] at e;cases e
def WDeed (C CW:Aj)(H H':Hp)(x dr dw dd:Aj)(R W:List (Key×V))(D:List V)(n whose:Str)(p:Aj)(pt:Int×Int)(t:Aj)(tv:List (List Key×V)):Prop:=∃y tp q1 q2,H tp=none∧H q1=none∧H q2=none∧Hse C H' x dr dw dd R (zf W (.inr n) (.ref y)) (D++[.ref tp])∧H' tp=some (.tup [.ref q1,.ref q2])∧H' q1=some (.dK [])∧H' q2=some (.dK [(.inr n,(xv W (.inr n)).getD .non)])∧q1≠q2∧WkAt CW H' y whose p pt t tv∧Kb [dr,dw,dd] H H'
theorem WDeed.pre {C CW:Aj}{H0 H H':Hp}{x dr dw dd:Aj}{R W:List (Key×V)}{D:List V}{n whose:Str}{p:Aj}{pt:Int×Int}{t:Aj}{tv:List (List Key×V)}(h:WDeed C CW H H' x dr dw dd R W D n whose p pt t tv)(s:Same H0 H):WDeed C CW H0 H' x dr dw dd R W D n whose p pt t tv:=by
 obtain ⟨y,tp,q1,q2,a1,a2,a3,a4,a5,a6,a7,a8,a9,b1⟩:=h
 exact ⟨y,tp,q1,q2,xu s a1,xu s a2,xu s a3,a4,a5,a6,a7,a8,a9,λb o nb e=>b1 b o nb (s _ _ e)⟩
def uu (C CW CN:Aj):Sp:=λvs H Q E=>∃(x dr dw dd:Aj) (R W:List (Key×V)) (D:List V) (n:Str),vs=[.ref x,.str n]∧Hse C H x dr dw dd R W D∧(xv W (.inr n)=none→E (.ref CN) none H) ∧
 (∀v,xv W (.inr n)=some v→∃y whose p pt t tv,v=.ref y∧WkAt CW H y whose p pt t tv∧∀q,H q=none→Q (.ref q) (upd H q (.tup [.str whose,.ref p])))
theorem qu4 {f:Aj}{fd:Ad}(F:Fun K "where" "House.where" s_House_where f fd)(T:Txt K mg qc qr qx qm qu wq wy qh wf wx qj qp qw qq)(c_walker_called:MCal P w K mg base qq "walker_called" 1 (vt qq qj false)) :
  FnOk P w K mg base (CXE P w) 2 f fd ["self","name"] (uu qq qw qj):=by
 have sc:=Z4
 refine F.okX sc (λvs H Q E h=>by obtain ⟨x,dr,dw,dd,R,W,D,n,rfl,_⟩:=h;rfl) (λcdv A outer s H vs Q E hr h=>?_)
 obtain ⟨x,dr,dw,dd,R,W,D,n,rfl,hh,kx,k⟩:=h
 obtain ⟨dx,hx⟩:=hh.ob
 refine ⟨_,(qk (wt (i:=2) sc.nd rfl (by walk_at "loc") (xb (pv 0) T.clH c_walker_called (hr.mono (by decide)) qf (ww (pv 1) qz)))
   (wj (w8 (z9 (xh (zb (pv 2) rfl) (xh (zb (pv 2) rfl) qz)))))),?_⟩
 refine ⟨_,rfl,x,dx,_,rfl,hx,x8 (by decide +kernel) (by decide +kernel) (by decide +kernel),_,rfl,x,dr,dw,dd,R,W,D,n,rfl,hh,λv e=>?_,kx⟩
 obtain ⟨y,whose,p,pt,t,tv,rfl,hW,q⟩:=k v e
 obtain ⟨dy,hy⟩:=hW.ob
 exact exI rfl ⟨y,qw,dy,_,_,rfl,hy,T.clW,T.naWw,jg,exI rfl ⟨y,qw,dy,_,_,rfl,hy,T.clW,T.naWp,jc,sz2,q⟩⟩
def Zz (K:Aa)(C CR CW CN CT CNR CB CO:Aj):Sp:=λvs H Q E=>∃(x dr dw dd a:Aj) (R W:List (Key×V)) (D:List V) (n whose:Str) (t b:Int),vs=[.ref x,.str n,.str whose,.ref a]∧Hse C H x dr dw dd R W D∧R.length≤1000∧W.length≤1000∧D.length≤1000000∧n.length≤1000∧H a=some (.tup [.int t,.int b]) ∧
 (vg n=false→∀H',Same H H'→E (.ref CN) none H')∧(vg n=true→(xv W (.inr n)).isSome=true→∀H',Same H H'→E (.ref CT) none H')∧(vg n=true→xv W (.inr n)=none→(xv R (.inr whose)=none→∀H',Same H H'→E (.ref CNR) none H') ∧
  ∀v,xv R (.inr whose)=some v→∃r hs,v=.ref r∧RoadAt CR H r hs∧zq hs∧(b<1→∀H',Same H H'→E (.ref CB) none H')∧(1≤b→Sm 8000 b∧(40<(wp t b).2→∀H',Same H H'→E (.ref CB) none H')∧((wp t b).2≤40 →
   (¬ zr hs (wp t b).1 (wp t b).2→∀H',Same H H'→E (.ref CO) none H')∧(zr hs (wp t b).1 (wp t b).2→∀H' p t',WDeed C CW H H' x dr dw dd R W D n whose p (wp t b) t' [([.inl (wp t b).1,.inl (wp t b).2],.int 1)]→Q .non H'))))
theorem low1 {t b:Int}(h:1≤b):1≤(wp t b).2:=by
 have e:=Zt (t:=t) h
 have g:=k6 (t:=t) h
 show 1≤b/gOf t b
 by_cases z:1≤b/gOf t b
 ·exact z
 ·have:gOf t b*(b/gOf t b)≤0:=Int.mul_nonpos_of_nonneg_of_nonpos (by lia) (by lia)
  lia
theorem wqg {f:Aj}{fd:Ad}(F:Fun K "place" "House.place" s_House_place f fd)(T:Txt K mg qc qr qx qm qu wq wy qh wf wx qj qp qw qq)(c_check_new_name:Cal P w K mg base "check_new_name" 2 (ym qh wf))(c_road_called:MCal P w K mg base qq "road_called" 1 (vt qq wx true))(c_lowest:Cal P w K mg base "lowest" 2 (j7 qx))(c_on_road:MCal P w K mg base qp "on_road" 3 (Qx K qp qx qm))(c_set_down:Cal P w K mg base "set_down" 3 (Q8 qw))(c_do:MCal P w K mg base qq "do" 2 (qw1 qq)) :
  FnOk P w K mg base (CXE P w) 5 f fd ["self","name","whose","point"] (Zz K qq qp qw qh wf wx qx qm):=by
 have sc:=Yz
 refine F.okX sc (λvs H Q E h=>by obtain ⟨x,dr,dw,dd,a,R,W,D,n,whose,t,b,rfl,_⟩:=h;rfl) (λcdv A outer s H vs Q E hr h=>?_)
 obtain ⟨x,dr,dw,dd,a,R,W,D,n,whose,t,b,rfl,hh,lR,lW,lD,ln,ha,kn,kt,k⟩:=h
 obtain ⟨dx,hx⟩:=hh.ob
 obtain ⟨tg,g_GREATEST_BOTTOM⟩:=T.g_GREATEST_BOTTOM
 refine ⟨_,(qk (zd (wm c_check_new_name (hr.mono (by decide)) rfl qf (ww (pv 1) (xh (zb (pv 0) rfl) qz))))
   (qk (wt (i:=4) sc.nd rfl (by walk_at "loc") (xb (pv 0) T.clH c_road_called (hr.mono (by decide)) qf (ww (pv 2) qz)))
   (qk (wt (i:=5) sc.nd rfl (by walk_at "loc") (wm c_lowest (hr.mono (by decide)) rfl qf (zv (xm kj (pv 3) qy (λ_ _=>rfl)) (zv (xm kj (pv 3) qy (λ_ _=>rfl)) qz))))
   (qk (x9 (w6 uy (xm kj (pv 5) qy (λ_ _=>rfl)) (jm (v:=V.int 40) rfl g_GREATEST_BOTTOM ⟨_,rfl⟩) (w9 _)) (wj (z0 rfl T.x_BadBottom zu rfl T.g_BadBottom (xy vp qz))) xx)
   (wj (zd (xb (pv 0) T.clH c_do (hr.mono (by decide)) qf (xh jq (xh (qq9 (Zd (pv 1) (wm c_set_down (hr.mono (by decide)) rfl qf (ww (pv 2) (jj (xb (pv 4) T.cl c_on_road (hr.mono (by decide)) qf (ww (pv 5) qz)) qz))) qwk) rfl rfl (λz=>nomatch z) (by decide)) qz))))))))),?_⟩
 refine ⟨_,rfl,_,rfl,x,qq,dx,_,_,rfl,hx,T.clH,T.naHw,zn,n,dw,W,rfl,ln,hh.w,λa1 a2 H1 s1=>?_,kn,kt⟩
 obtain ⟨kr,k⟩:=k a1 a2
 have hh1:=hh.same s1
 refine ⟨_,rfl,x,dx,_,rfl,s1 _ _ hx,x8 (by decide +kernel) (by decide +kernel) (by decide +kernel),_,rfl,x,dr,dw,dd,R,W,D,whose,rfl,hh1,λv e=>?_,λe=>kr e H1 s1⟩
 obtain ⟨r,hs,rfl,hR,okl,kb,k⟩:=k v e
 refine ⟨_,rfl,_,_,_,_,rfl,rfl,SqT.of (s1 _ _ ha),rfl,_,rfl,_,_,_,_,rfl,rfl,SqT.of (s1 _ _ ha),rfl,t,b,rfl,λb1=>?_,λb1=>kb b1 H1 s1⟩
 obtain ⟨sm,kg,k⟩:=k b1
 refine ⟨sm.mono (by decide),λp np=>?_⟩
 have s2:Same H (upd H1 p (.tup (ptV (wp t b)))):=s1.trans (Same.upd np)
 have f2:upd H1 p (.tup (ptV (wp t b))) p=some (.tup [.int (wp t b).1,.int (wp t b).2]):=qt
 generalize upd H1 p (.tup (ptV (wp t b)))=H2 at s2 f2
 have l1:=low1 (t:=t) b1
 refine exI rfl (exX rfl rfl (SqT.of f2) rfl (wr rfl rfl (exI rfl (ku (λz=>⟨sz1,kg (by lia) H2 s2⟩) (λz=>?_)))))
 obtain ⟨ko,k⟩:=k (by lia)
 refine exI rfl ⟨x,dx,exI rfl ⟨s2 _ _ hx,x8 (by decide +kernel) (by decide +kernel) (by decide +kernel),λc1 n1=>λc2 n2=>(exI rfl (exI rfl (exI rfl ?_)))⟩⟩
 obtain ⟨dy,l,h1,h2⟩:=id hR
 have sc2:Same H2 (upd (upd H2 c1 (.dK [])) c2 (.dK [])):=λb o e=>by
  have e4:upd H2 c1 (.dK []) b=some o:=by rw [wc (qg e n1)];exact e
  rw [wc (qg e4 n2)]
  exact e4
 have s3:=s2.trans sc2
 refine ⟨r,dy,_,rfl,s3 _ _ h1,vk (by decide +kernel),_,rfl,r,p,hs,(wp t b).1,(wp t b).2,rfl,hR.same s3,okl,SqT.of (sc2 _ _ f2),λ_=>⟨(Sm.small (n:=65) (by lia) (by lia) (by decide)).mono (by decide),λon q H3 s4 fq=>?_,λon H3 s4=>ko on H3 (s3.trans s4)⟩,λz=>absurd z (by lia)⟩
 have e3:wp (wp t b).1 (wp t b).2=wp t b:=qqt l1 (qqp b1)
 rw [e3] at fq
 refine ⟨whose,q,wp t b,rfl,fq,λH4 y t' ny s5 w5=>?_⟩
 refine ⟨s5 _ _ (s4 _ _ qt),[(.inr n,.ref y)],rfl,(show 1≤15 by decide),?_⟩
 exact qqq (E:=E) (hh.same s2) n1 n2 (s4.trans s5) w5 lR lW lD λH' tp q1 q2 b1 b2 b3 b4 b5 b6 b7 b8 b9 kb=>k on H' q t' (WDeed.pre ⟨y,tp,q1,q2,b1,b2,b3,b4,b5,b6,b7,b8,b9,kb⟩ s2)
def spGo (C CR CW CN CC:Aj):Sp:=λvs H Q E=>∃(x dr dw dd:Aj) (R W:List (Key×V)) (D:List V) (n:Str) (m:Int),vs=[.ref x,.str n,.int m]∧Hse C H x dr dw dd R W D∧R.length≤1000∧W.length≤1000∧D.length≤1000000∧(xv W (.inr n)=none→E (.ref CN) none H) ∧
 (∀v,xv W (.inr n)=some v→∃y whose p pt t tv r hs,v=.ref y∧WkAt CW H y whose p pt t tv∧TmOk tv∧xv R (.inr whose)=some (.ref r)∧RoadAt CR H r hs∧HPt hs pt∧(¬ Within m 0 (some 1000000000000000000000000000000000000000000000000000000000000)→E (.ref CC) none H) ∧
  (Within m 0 (some 1000000000000000000000000000000000000000000000000000000000000)→∀H' p' t' tv',WDeed C CW H H' x dr dw dd R W D n whose p' (itP hs pt m.toNat) t' tv'→TmOk tv'→Hits hs pt m.toNat tv tv'→Q (.ref p') H'))
theorem ok_go {f:Aj}{fd:Ad}(F:Fun K "go" "House.go" s_House_go f fd)(T:Txt K mg qc qr qx qm qu wq wy qh wf wx qj qp qw qq)(c_walker_called:MCal P w K mg base qq "walker_called" 1 (vt qq qj false))(c_check_count:CalD P w K mg base "check_count" 1 (W1 qu))(c_gone:MCal P w K mg base qw "gone" 6 (qqn qw qp))(c_do:MCal P w K mg base qq "do" 2 (qw1 qq)) :
  FnOk P w K mg base (CXE P w) 8 f fd ["self","name","many"] (spGo qq qp qw qj qu):=by
 have sc:=qxg
 refine F.okX sc (λvs H Q E h=>by obtain ⟨x,dr,dw,dd,R,W,D,n,m,rfl,_⟩:=h;rfl) (λcdv A outer s H vs Q E hr h=>?_)
 obtain ⟨x,dr,dw,dd,R,W,D,n,m,rfl,hh,lR,lW,lD,kx,k⟩:=h
 obtain ⟨dx,hx⟩:=hh.ob
 obtain ⟨tg,g_FARTHEST⟩:=T.g_FARTHEST
 refine ⟨_,(qk (wt (i:=3) sc.nd rfl (by walk_at "loc") (xb (pv 0) T.clH c_walker_called (hr.mono (by decide)) qf (ww (pv 1) qz)))
   (qk (zd (Z3 c_check_count.all (hr.mono (by decide)) rfl qf (ww (pv 2) (xy qy (ww (jm (v:=V.int 1000000000000000000000000000000000000000000000000000000000000) rfl g_FARTHEST ⟨_,rfl⟩) qz)))))
   (qk (wt (i:=4) sc.nd rfl (by walk_at "loc") (xb (pv 3) T.clW c_gone (hr.mono (by decide)) qf (zv (jh (vf hr) (zb (pv 0) rfl) (zb (pv 3) rfl) (λ_ _=>rfl)) (ww (pv 2) qz))))
   (qk (zd (xb (pv 0) T.clH c_do (hr.mono (by decide)) qf (xh jq (xh (qq9 (Zd (pv 1) (pv 4) qwk) rfl rfl (λz=>nomatch z) (by decide)) qz))))
   (wj (w8 (zb (pv 4) rfl))))))),?_⟩
 refine ⟨_,rfl,x,dx,_,rfl,hx,x8 (by decide +kernel) (by decide +kernel) (by decide +kernel),_,rfl,x,dr,dw,dd,R,W,D,n,rfl,hh,λv e=>?_,kx⟩
 obtain ⟨y,whose,p,pt,t,tv,r,hs,rfl,hW,hT,er,hR,hP,kc,k⟩:=k v e
 obtain ⟨dy,hy⟩:=hW.ob
 refine ⟨_,rfl,m,0,.int (1000000000000000000000000000000000000000000000000000000000000),some (1000000000000000000000000000000000000000000000000000000000000),rfl,.inr ⟨1000000000000000000000000000000000000000000000000000000000000,rfl,rfl⟩,λwi=>?_,kc⟩
 have dg:DGet H dr (.str whose) (xv R (.inr whose)):=DGet.k (k:=.inr whose) hh.r
 rw [er] at dg
 refine exI rfl ⟨y,dy,exI rfl ⟨hy,qzj (by decide +kernel) (by decide +kernel) (by decide +kernel),exI rfl ⟨x,qq,dx,_,_,rfl,hx,T.clH,T.naHr,k9,exI rfl ⟨y,qw,dy,_,_,rfl,hy,T.clW,T.naWw,jg,dr,exI rfl ⟨dg,exI rfl ⟨y,r,p,t,whose,hs,pt,tv,m,rfl,hW,hT,hR,hP,wi.1,λH1 y' p' t' tv' ny s1 w1 hT' hit=>?_⟩⟩⟩⟩⟩⟩
 refine exI rfl ⟨x,dx,exI rfl ⟨s1 _ _ hx,x8 (by decide +kernel) (by decide +kernel) (by decide +kernel),λc1 n1=>λc2 n2=>(exI rfl (exI rfl ⟨qt,[(.inr n,.ref y')],rfl,(show 1≤15 by decide),?_⟩))⟩⟩
 have sc2:Same H1 (upd (upd H1 c1 (.dK [])) c2 (.dK [])):=λb o e=>by
  have e4:upd H1 c1 (.dK []) b=some o:=by rw [wc (qg e n1)];exact e
  rw [wc (qg e4 n2)]
  exact e4
 have w3:=w1.same sc2
 obtain ⟨H3,hH3⟩:∃H3,H3=upd (upd H1 c1 (.dK [])) c2 (.dK []):=⟨_,rfl⟩
 have s3:Same (upd (upd H1 c1 (.dK [])) c2 (.dK [])) H3:=by rw [hH3];exact Same.refl _
 rw [←hH3] at w3 ⊢
 have e0:Qt [] [((Sum.inr n:Key),V.ref y')]=[((Sum.inr n:Key),V.ref y')]:=rfl
 rw [e0]
 dsimp only [Jc]
 refine qqq (n:=n) (E:=E) (hh.same s1) n1 n2 s3 w3 lR lW lD λH' tp q1 q2 b1 b2 b3 b4 b5 b6 b7 b8 b9 kb=>?_
 obtain ⟨dy',hy'⟩:=b9.ob
 exact exI rfl ⟨y',qw,dy',_,_,rfl,hy',T.clW,T.naWp,jc,k wi H' p' t' tv' (WDeed.pre ⟨y',tp,q1,q2,b1,b2,b3,b4,b5,b6,b7,b8,b9,kb⟩ s1) hT' hit⟩
end
section
variable {P:Ac}{w:Ah}{K:Aa}{mg:Str→Option Ag}{base:Heap}{qc:Aj}{qr:Aj}{qx:Aj}{qm:Aj}{qu:Aj}{wq:Aj}{wy:Aj}{qh:Aj}{wf:Aj}{wx:Aj}{qj:Aj}{qp:Aj}{qw:Aj}{qq:Aj}
theorem qxd {α:Type}(ms:List α)(d:α)(f:α→V)(p:α→Bool):Zu (λi=>p (ms.getD i d)) (ms.map f) (ms.map f).length=(ms.filter p).map f:=by
 unfold Zu
 rw [ae]
 have e:ms=(List.range ms.length).map λi=>ms.getD i d:=by
  refine List.ext_getElem (by rw [ae,aC]) λi h1 h2=>?_
  rw [List.getElem_map,List.getElem_range,ar,al h1]
  rfl
 have e2:(ms.filter p).map f=(((List.range ms.length).map λi=>ms.getD i d).filter p).map f:=by rw [←e]
 rw [e2,List.filter_map,cE]
 refine bX λi hi=>?_
 have hi:=aL.mp (ck.mp hi).1
 show (ms.map f).getD i .non=f (ms.getD i d)
 rw [ar,ar,aI,al hi]
 rfl
def WksAt (CW:Aj)(H:Hp)(W:List (Key×V))(ss:List Str)(wh:Str→Str)(ps:Str→Int×Int):Prop:=W.map (·.1)=ss.map Sum.inr∧W.length<64∧∀s∈ss,∃y p t tv,xv W (.inr s)=some (.ref y)∧WkAt CW H y (wh s) p (ps s) t tv
def spOn (C CW:Aj):Sp:=λvs H Q _=>∃(x dr dw dd:Aj) (R W:List (Key×V)) (D:List V) (n:Str) (ss:List Str) (wh:Str→Str) (ps:Str→Int×Int),vs=[.ref x,.str n]∧Hse C H x dr dw dd R W D∧WksAt CW H W ss wh ps ∧
 ∀(l:Aj) (H':Hp) (ms:List Str),H l=none→Same H H'→ms.Perm ss→ms.Pairwise (λx y=>¬ y.cps.toList<x.cps.toList)→H' l=some (.lst ((ms.filter λs=>decide (V.str (wh s)=V.str n)).map V.str))→Q (.ref l) H'
theorem Ju {f:Aj}{fd:Ad}(F:Fun K "walkers_on" "House.walkers_on" s_House_walkers_on f fd)(T:Txt K mg qc qr qx qm qu wq wy qh wf wx qj qp qw qq):FnOk P w K mg base (CXE P w) 1 f fd ["self","whose"] (spOn qq qw):=by
 have sc:=yn
 refine F.okX sc (λvs H Q E h=>by obtain ⟨x,dr,dw,dd,R,W,D,n,ss,wh,ps,rfl,_⟩:=h;rfl) (λcdv A outer s H vs Q E hr h=>?_)
 obtain ⟨x,dr,dw,dd,R,W,D,n,ss,wh,ps,rfl,hh,hw,k⟩:=h
 obtain ⟨dx,hx⟩:=hh.ob
 refine ⟨_,(wj (w8 (qy5 (M:=[0,1]) rfl rfl (by walk_at "cap") (by walk_at "has") (by walk_at "cix") rfl (by decide +kernel) rfl (show List.Nodup (["name","self","whose"]:List Str) by decide +kernel) (qwb (xq (Jw rfl) rfl T.sorted_ PyProof.Rows.boot_sorted (xh (zb (pv 0) rfl) qz))) (λ_ _ _ _ _=>(w6 kh (W7 (K:=K) rfl (jh (vf hr) (W7 (K:=K) rfl (pv 1) rfl) (pv 0) (λ_ _=>rfl)) rfl) (pv 2) (w9 _))) (λ_ _ _ _ _=>(pv 0))))),?_⟩
 refine exI rfl ⟨x,qq,dx,_,_,rfl,hx,T.clH,T.naHw,zn,dw,W,ss,rfl,.inl hh.w,hw.1,hw.2.1,λl ms nl pm srt=>?_⟩
 have s1:Same H (upd H l (.lst (ms.map V.str))):=Same.upd nl
 have f1:upd H l (.lst (ms.map V.str)) l=some (.lst (ms.map V.str)):=qt
 have lm:ms.length<64:=by
  have a:=bB List.length hw.1
  rw [ae,ae] at a
  have b:=pm.length_eq
  have c:=hw.2.1
  lia
 generalize upd H l (.lst (ms.map V.str))=H1 at s1 f1
 refine ⟨l,rfl,⟨_,SqL.of f1⟩,qz1 (λi=>decide (V.str (wh (ms.getD i ""))=V.str n)) (SqL.of f1) (by rw [ae];lia) (λi v H' RR ev s' hR=>?_) (λi v H' RR ev ci s' hR=>(exI rfl (hR H' (Same.refl _)))) λp H' np s' fp=>?_⟩
 ·rw [aI] at ev
  cases em:ms[i]? with
  |none=>rw [em] at ev;cases ev
  |some m =>
   rw [em] at ev
   cases ev
   have eg:ms.getD i "" = m:=by rw [ar,em];rfl
   obtain ⟨y,p,t,tv,e,a⟩:=hw.2.2 m (pm.mem_iff.mp (aZ em))
   obtain ⟨dy,hy⟩:=a.ob
   have sa:=s1.trans s'
   have dg:DGet H' dw (.str m) (xv W (.inr m)):=DGet.k (k:=.inr m) (sa _ _ hh.w)
   rw [e] at dg
   rw [eg] at hR
   exact exI rfl ⟨x,qq,dx,_,_,rfl,sa _ _ hx,T.clH,T.naHw,zn,exI rfl ⟨dw,exI rfl ⟨dg,y,qw,dy,_,_,rfl,sa _ _ hy,T.clW,T.naWw,jg,exI rfl ⟨rfl,_,rfl,hR H' (Same.refl _)⟩⟩⟩⟩
 ·rw [qxd ms "" V.str λs=>decide (V.str (wh s)=V.str n)] at fp
  exact k p H' ms (xu s1 np) (s1.trans s') pm srt fp
end
section
variable {P:Ac}{w:Ah}{K:Aa}{mg:Str→Option Ag}{base:Heap}{qc:Aj}{qr:Aj}{qx:Aj}{qm:Aj}{qu:Aj}{wq:Aj}{wy:Aj}{qh:Aj}{wf:Aj}{wx:Aj}{qj:Aj}{qp:Aj}{qw:Aj}{qq:Aj}
def qu2 (C:Aj)(H H':Hp)(x dr dw dd:Aj)(R W:List (Key×V))(D:List V)(cs1 cs2:List (Key×V)):Prop:=∃tp q1 q2,H tp=none∧H q1=none∧H q2=none∧Hse C H' x dr dw dd (exK R cs1) (exK W cs2) (D++[.ref tp])∧H' tp=some (.tup [.ref q1,.ref q2])∧H' q1=some (.dK (bfK R cs1))∧H' q2=some (.dK (bfK W cs2))∧q1≠q2∧Kb [dr,dw,dd] H H'
theorem do_gen {C:Aj}{H H4:Hp}{x dr dw dd c1 c2:Aj}{R W cs1 cs2:List (Key×V)}{D:List V}{Q:VK}{E:XK}(hh:Hse C H x dr dw dd R W D)(s4:Same H H4)(n1:H c1=none)(n2:H c2=none)(e1:H4 c1=some (.dK cs1))(e2:H4 c2=some (.dK cs2))(c12:c1≠c2)(nd1:(cs1.map (·.1)).Nodup)(nd2:(cs2.map (·.1)).Nodup)(lR:R.length≤1000)(lW:W.length≤1000)(l1:cs1.length≤1000)(l2:cs2.length≤1000)(lD:D.length≤1000000)(ok1:ExOk R cs1)(ok2:ExOk W cs2)
  (k:∀H',qu2 C H H' x dr dw dd R W D cs1 cs2→Kb [dr,dw,dd,c1,c2] H4 H'→Rd H' c2 (.dK cs2)→(∀H5,Kb [c2] H' H5→qu2 C H H5 x dr dw dd R W D cs1 cs2)→Q .non H'):qw1 C [.ref x,.ref c1,.ref c2] H4 Q E:=by
 have hh4:=hh.same s4
 refine ⟨x,dr,dw,dd,c1,c2,R,W,cs1,cs2,D,rfl,hh4,.inl e1,.inl e2,c12,(qg hh.r n1).symm,(qg hh.w n1).symm,(qg hh.r n2).symm,(qg hh.w n2).symm,nd1,nd2,lR,lW,l1,l2,lD,ok1,ok2,λH' tp q1 q2 a1 a2 a3 a4 a5 a6 a7 a8 rd a9=>?_⟩
 have no:∀b,H4 b=none→H b=none:=λb e=>xu s4 e
 have kb:Kb [dr,dw,dd] H H':=λb o nb e=>a9 b o (λz=>by
  simp only [aq,ay,bU] at z nb
  rcases z with z|z|z|z|z
  ·exact nb (.inl z)
  ·exact nb (.inr (.inl z))
  ·exact nb (.inr (.inr z))
  ·rw [z,n1] at e;cases e
  ·rw [z,n2] at e;cases e) (s4 _ _ e)
 have ne4:∀b,H4 b=none→b∉[c2]:=λb e z=>by rw [au.mp z,e2] at e;cases e
 have neH:∀b o,H b=some o→b∉[c2]:=λb o e z=>by rw [au.mp z,n2] at e;cases e
 refine k H' ⟨tp,q1,q2,no _ a1,no _ a2,no _ a3,a4,a5,a6,a7,a8,kb⟩ a9 rd λH5 k5=>?_
 obtain ⟨dx,ex⟩:=hh.ob
 exact ⟨tp,q1,q2,no _ a1,no _ a2,no _ a3,a4.kb k5 ⟨neH _ _ ex,neH _ _ hh.r,neH _ _ hh.w,neH _ _ hh.d⟩,k5 _ _ (ne4 _ a1) a5,k5 _ _ (ne4 _ a2) a6,k5 _ _ (ne4 _ a3) a7,a8,λb o nb e=>k5 _ _ (neH _ _ e) (kb b o nb e)⟩
end
section
variable {P:Ac}{w:Ah}{K:Aa}{mg:Str→Option Ag}{base:Heap}{qc:Aj}{qr:Aj}{qx:Aj}{qm:Aj}{qu:Aj}{wq:Aj}{wy:Aj}{qh:Aj}{wf:Aj}{wx:Aj}{qj:Aj}{qp:Aj}{qw:Aj}{qq:Aj}
def KnD (H H':Hp):Prop:=∀b o,(∀kv,o≠HO.dK kv)→H b=some o→H' b=some o
def KnL (H H':Hp):Prop:=∀b o,(∀L,o≠HO.lst L)→H b=some o→H' b=some o
theorem qvg {K:Aa}{M:List Nat}{a:Aj}{ms:List Str}{tk te:TE}{σ:St}{H:Hp}{Q:VK}(G:Str→V→Hp→Prop)(gs:∀s v H H',G s v H→KnD H H'→G s v H')(hS:H a=some (.lst (ms.map V.str)))(hz:ms.length≤1000000)(nd:ms.Nodup)
  (he:∀(s:Str) (H':Hp) (R:V→V→Hp→Prop),s∈ms→Same H H'→(∀v H'',Same H' H''→G s v H''→R (.str s) v H'')→tk (zp M σ (some (.str s))) H' λy H4=>te (zp M σ (some (.str s))) H4 λz H5=>R y z H5)
  (k:∀p kvs H',H p=none→Same H H'→H' p=some (.dK kvs)→kvs.map (·.1)=ms.map Sum.inr→(∀kv∈kvs,∃s,s∈ms∧kv.1=.inr s∧G s kv.2 H')→Q (.ref p) H'):qwn (Itl K a) M tk te σ H Q:=by
 intro p np
 have big:(1000000:Nat)<sizeLine:=by decide
 refine ⟨λi m ys H2=>i≤ms.length∧m=ms.length-i∧ys.map (·.1)=(ms.take i).map Sum.inr∧(∀kv∈ys,∃s,s∈ms∧kv.1=.inr s∧G s kv.2 H2)∧Same H H2∧H2 p=some (.dK ys),⟨ms.length,aB _,rfl,rfl,(λkv z=>nomatch z),Same.upd np,qt⟩,?_⟩
 rintro i m ys H2 ⟨hi,rfl,hk,hG,sm,hp⟩
 have hl:ys.length=i:=by
  have:=bB List.length hk
  rw [ae,ae,bK] at this
  lia
 refine ⟨hp,by lia,?_⟩
 by_cases hlt:i<ms.length
 ·have em:(ms.map V.str)[i]?=some (.str ms[i]):=by rw [aI,al hlt];rfl
  refine .inr ⟨⟨_,_,SqL.of (sm _ _ hS),em⟩,?_⟩
  rintro v H3 ⟨rfl,hv⟩
  have ev:=hv _ (SqL.of (sm _ _ hS))
  rw [em] at ev
  cases ev
  refine he ms[i] _ _ (cC _) sm λv H4 s4 g4=>⟨.inr ms[i],rfl,s4 _ _ hp,ms.length-(i+1),by lia,by lia,rfl,?_⟩
  have hn:xv ys (.inr ms[i])=none:=by
   unfold xv
   rw [dM.mpr]
   ·rfl
   ·intro x hx z
    have z:x.1=.inr ms[i]:=by simpa using z
    have hx2:x.1∈(ms.take i).map (Sum.inr:Str→Key):=by rw [←hk];exact aN.mpr ⟨x,hx,rfl⟩
    rw [z] at hx2
    obtain ⟨s,hs,es⟩:=aN.mp hx2
    injection es with es
    obtain ⟨j,hj,ej⟩:=dz hs
    rw [bK] at hj
    rw [List.getElem_take] at ej
    have:=(dX nd).mp (ej.trans es)
    lia
  have kn:KnD H4 (upd H4 p (.dK (zf ys (.inr ms[i]) v))):=λb ob no e=>by
   rw [wc (λz=>by rw [z,s4 _ _ hp] at e;cases e;exact no _ rfl)]
   exact e
  rw [jw _ hn] at kn ⊢
  refine ⟨?_,λkv hkv=>?_,?_,qt⟩
  ·rw [aT,hk,dU,al hlt,aT]
   rfl
  ·rcases ba.mp hkv with hkv|hkv
   ·obtain ⟨s,h1,h2,h3⟩:=hG kv hkv
    exact ⟨s,h1,h2,gs _ _ _ _ (gs _ _ _ _ h3 λb ob _ e=>s4 _ _ e) kn⟩
   ·rw [au.mp hkv]
    exact ⟨ms[i],cC _,rfl,gs _ _ _ _ g4 kn⟩
  ·intro b ob e
   rw [wc (qg e np)]
   exact s4 _ _ (sm _ _ e)
 ·have:i=ms.length:=by lia
  subst this
  rw [dc] at hk
  exact .inl ⟨⟨_,SqL.of (sm _ _ hS),by rw [ae];exact af _⟩,k p ys H2 np sm hp hk hG⟩
theorem wqm {M:List Nat}{d:Aj}{o:Obj}{cs:List (Key×V)}{gg:TG}{te:TE}{σ:St}{H:Hp}{Q:VK}(G:Nat→V→Hp→Prop)(gs:∀i v H H',G i v H→KnL H H'→G i v H')(hz:cs.length≤1000000)(hd:H d=some (.frz o (.dK cs)))
  (he:∀(i:Nat) (c:Key×V) (q:Aj) (H':Hp) (R:VK),cs[i]?=some c→Same H H'→H' q=none→(∀v H'',Same H' H''→G i v H''→R v H'')→gg (.ref q) (yj M σ none none) (upd H' q (.tup [kV c.1,c.2])) λσ4 H4=>(∃a b,σ4=yj M σ (some a) (some b))∧te σ4 H4 R)
  (k:∀p ys H',H p=none→Same H H'→H' p=some (.lst ys)→ys.length=cs.length→(∀j v,ys[j]?=some v→G j v H')→Q (.ref p) H'):qz2 (ItDI d o cs) M gg te σ H Q:=by
 intro p np
 have big:(1000000:Nat)<sizeLine:=by decide
 refine ⟨λi m ys H2=>i≤cs.length∧m=cs.length-i∧ys.length=i∧Same H H2∧H2 p=some (.lst ys)∧∀j v,ys[j]?=some v→G j v H2,⟨cs.length,aB _,rfl,rfl,Same.upd np,qt,λj v e=>by cases e⟩,?_⟩
 rintro i m ys H2 ⟨hi,rfl,hl,sm,hp,hG⟩
 refine ⟨hp,by lia,?_⟩
 by_cases hlt:i<cs.length
 ·refine .inr ⟨⟨sm _ _ hd,hlt⟩,?_⟩
  rintro v H3 ⟨q,c,nq,rfl,ec,rfl⟩
  refine he i c q H2 _ ec sm nq λv H4 s4 g4=>⟨s4 _ _ hp,cs.length-(i+1),by lia,by lia,rfl,by rw [aU];show ys.length+1=_;lia,?_,qt,λj v' ej=>?_⟩
  ·intro b ob e
   rw [wc (qg e np)]
   exact s4 _ _ (sm _ _ e)
  ·have kn:KnL H4 (upd H4 p (.lst (ys++[v]))):=λb ob no e=>by
    rw [wc (λz=>by rw [z,s4 _ _ hp] at e;cases e;exact no _ rfl)]
    exact e
   rcases ef j ys.length with hj|hj
   ·rw [bt hj] at ej
    exact gs _ _ _ _ (gs _ _ _ _ (hG j v' ej) λb ob _ e=>s4 _ _ e) kn
   ·rw [bd hj] at ej
    have:j-ys.length=0:=by
     rcases Nat.eq_zero_or_pos (j-ys.length) with z|z
     ·exact z
     ·rw [bj (by show 1≤_;lia)] at ej;cases ej
    rw [this] at ej
    cases ej
    have:j=i:=by lia
    subst this
    exact gs _ _ _ _ g4 kn
 ·have:i=cs.length:=by lia
  subst this
  exact .inl ⟨⟨sm _ _ hd,af _⟩,k p ys H2 np sm hp hl hG⟩
end
section
variable {P:Ac}{w:Ah}{K:Aa}{mg:Str→Option Ag}{base:Heap}{qc:Aj}{qr:Aj}{qx:Aj}{qm:Aj}{qu:Aj}{wq:Aj}{wy:Aj}{qh:Aj}{wf:Aj}{wx:Aj}{qj:Aj}{qp:Aj}{qw:Aj}{qq:Aj}
def WksT (CW:Aj)(H:Hp)(W:List (Key×V))(ss:List Str)(wh:Str→Str)(ps:Str→Int×Int)(tvs:Str→List (List Key×V)):Prop:=W.map (·.1)=ss.map Sum.inr∧W.length<64∧ss.Nodup∧∀s∈ss,TmOk (tvs s)∧∃y p t,xv W (.inr s)=some (.ref y)∧WkAt CW H y (wh s) p (ps s) t (tvs s)
theorem WksT.at {CW:Aj}{H:Hp}{W:List (Key×V)}{ss:List Str}{wh:Str→Str}{ps:Str→Int×Int}{tvs:Str→List (List Key×V)}(h:WksT CW H W ss wh ps tvs):WksAt CW H W ss wh ps:=⟨h.1,h.2.1,λs hs=>by
 obtain ⟨_,y,p,t,e,a⟩:=h.2.2.2 s hs
 exact ⟨y,p,t,tvs s,e,a⟩⟩
def GoneAt (CW:Aj)(hs:List Int)(m:Nat)(whose:Str)(ps:Str→Int×Int)(tvs:Str→List (List Key×V))(s:Str)(v:V)(H:Hp):Prop:=∃y p t tv,v=.ref y∧WkAt CW H y whose p (itP hs (ps s) m) t tv∧TmOk tv∧Hits hs (ps s) m (tvs s) tv
def KnW (H H':Hp):Prop:=∀b o,(∀kv,o≠HO.dK kv)→(∀u kv,o≠HO.frz u (.dK kv))→(∀L,o≠HO.lst L)→H b=some o→H' b=some o
theorem GoneAt.kn {CW:Aj}{hs:List Int}{m:Nat}{whose:Str}{ps:Str→Int×Int}{tvs:Str→List (List Key×V)}{s:Str}{v:V}{H H':Hp}(h:GoneAt CW hs m whose ps tvs s v H)(k:KnW H H'):GoneAt CW hs m whose ps tvs s v H':=by
 obtain ⟨y,p,t,tv,e,w,a,b⟩:=h
 obtain ⟨dx,ob⟩:=w.ob
 exact ⟨y,p,t,tv,e,⟨⟨dx,k _ _ (λ_ z=>by cases z) (λ_ _ z=>by cases z) (λ_ z=>by cases z) ob⟩,k _ _ (λ_ z=>by cases z) (λ_ _ z=>by cases z) (λ_ z=>by cases z) w.pt,k _ _ (λ_ z=>by cases z) (λ_ _ z=>by cases z) (λ_ z=>by cases z) w.tm⟩,a,b⟩
def qkz (C CR CW CN CC:Aj):Sp:=λvs H Q E=>∃(x dr dw dd:Aj) (R W:List (Key×V)) (D:List V) (whose:Str) (m:Int),vs=[.ref x,.str whose,.int m]∧Hse C H x dr dw dd R W D∧R.length≤1000∧D.length≤1000000∧(xv R (.inr whose)=none→E (.ref CN) none H) ∧
 (∀v,xv R (.inr whose)=some v→∃r hs,v=.ref r∧RoadAt CR H r hs∧(¬ Within m 0 (some 1000000000000000000000000000000000000000000000000000000000000)→E (.ref CC) none H) ∧
  (Within m 0 (some 1000000000000000000000000000000000000000000000000000000000000)→∃ss wh ps tvs,WksT CW H W ss wh ps tvs∧(∀s∈ss,wh s=whose→HPt hs (ps s)) ∧
   ∀(H':Hp) (l:Aj) (cs:List (Key×V)) (ms:List Str) (ys:List V),ms.Perm ss→ms.Pairwise (λx y=>¬ y.cps.toList<x.cps.toList)→qu2 C H H' x dr dw dd R W D [] cs→cs.map (·.1)=(ms.filter λs=>decide (V.str (wh s)=V.str whose)).map Sum.inr→(∀kv∈cs,∃s,s∈ss∧wh s=whose∧kv.1=.inr s∧GoneAt CW hs m.toNat whose ps tvs s kv.2 H') →
    H l=none→H' l=some (.lst ys)→ys.length=cs.length→(∀(j:Nat) v,ys[j]?=some v→∃kv a y p pt t tv,cs[j]?=some kv∧v=.ref a∧H' a=some (.tup [kV kv.1,.ref p])∧kv.2=.ref y∧WkAt CW H' y whose p pt t tv)→Q (.ref l) H'))
theorem qxq {f:Aj}{fd:Ad}(F:Fun K "together" "House.together" s_House_together f fd)(T:Txt K mg qc qr qx qm qu wq wy qh wf wx qj qp qw qq)(c_road_called:MCal P w K mg base qq "road_called" 1 (vt qq wx true))(c_check_count:CalD P w K mg base "check_count" 1 (W1 qu))(c_walkers_on:MCal P w K mg base qq "walkers_on" 1 (spOn qq qw))(c_gone:MCal P w K mg base qw "gone" 6 (qqn qw qp))(c_do:MCal P w K mg base qq "do" 2 (qw1 qq)) :
  FnOk P w K mg base (CXE P w) 8 f fd ["self","whose","many"] (qkz qq qp qw wx qu):=by
 have sc:=Qw
 refine F.okX sc (λvs H Q E h=>by obtain ⟨x,dr,dw,dd,R,W,D,whose,m,rfl,_⟩:=h;rfl) (λcdv A outer s H vs Q E hr h=>?_)
 obtain ⟨x,dr,dw,dd,R,W,D,whose,m,rfl,hh,lR,lD,kx,k⟩:=h
 obtain ⟨dx,hx⟩:=hh.ob
 obtain ⟨tg,g_FARTHEST⟩:=T.g_FARTHEST
 refine ⟨_,(qk (wt (i:=3) sc.nd rfl (by walk_at "loc") (xb (pv 0) T.clH c_road_called (hr.mono (by decide)) qf (ww (pv 1) qz)))
   (qk (zd (Z3 c_check_count.all (hr.mono (by decide)) rfl qf (ww (pv 2) (xy qy (ww (jm (v:=V.int 1000000000000000000000000000000000000000000000000000000000000) rfl g_FARTHEST ⟨_,rfl⟩) qz)))))
   (qk (Wu (i:=4) (M:=[0,2,3]) sc.nd rfl (by walk_at "loc") rfl rfl (by walk_at "cap") (by walk_at "has") (by walk_at "cix") rfl (by decide +kernel) rfl (show List.Nodup (["name","self","many","road"]:List Str) by decide +kernel) (qwb (xb (pv 0) T.clH c_walkers_on (hr.mono (by decide)) qf (ww (pv 1) qz))) (λ_ _ _ _ _=>(pv 0)) (λ_ _ _ _ _=>(xb (jh (vf hr) (W7 (K:=K) rfl (pv 1) rfl) (pv 0) (λ_ _=>rfl)) T.clW c_gone (hr.mono (by decide)) quh (ww (pv 3) (ww (pv 2) qz)))))
   (qk (zd (xb (pv 0) T.clH c_do (hr.mono (by decide)) qf (xh jq (ww (pv 4) qz))))
   (wj (w8 (wq4 (x := "name") (y2 := "walker") (M:=[]) rfl rfl (by walk_at "cap") (by walk_at "has") (by walk_at "cix") rfl (by decide +kernel) (λ_ _ _ _ _=>wxj (K:=K) (n:=2) rfl rfl (zw (xp (i:=0) (show List.Nodup (["name","walker"]:List Str) by decide +kernel) rfl (by walk_at "loc")) (zw (xp (i:=1) (show List.Nodup (["name","walker"]:List Str) by decide +kernel) rfl (by walk_at "loc")) k4))) (pi_di (pv 4)) (λ_ _ _ _ _=>(z9 (ww (pv 0) (xh (W7 (K:=K) rfl (pv 1) rfl) qz))))))))))),?_⟩
 refine ⟨_,rfl,x,dx,_,rfl,hx,x8 (by decide +kernel) (by decide +kernel) (by decide +kernel),_,rfl,x,dr,dw,dd,R,W,D,whose,rfl,hh,λv e=>?_,kx⟩
 obtain ⟨r,hs,rfl,hR,kc,k⟩:=k v e
 refine ⟨_,rfl,m,0,.int (1000000000000000000000000000000000000000000000000000000000000),some (1000000000000000000000000000000000000000000000000000000000000),rfl,.inr ⟨1000000000000000000000000000000000000000000000000000000000000,rfl,rfl⟩,λwi=>?_,kc⟩
 obtain ⟨ss,wh,ps,tvs,hw,hps,k⟩:=k wi
 refine exI rfl ⟨x,dx,exI rfl ⟨hx,x8 (by decide +kernel) (by decide +kernel) (by decide +kernel),exI rfl ⟨x,dr,dw,dd,R,W,D,whose,ss,wh,ps,rfl,hh,hw.at,λl H1 ms nl s1 pm srt fl=>?_⟩⟩⟩
 have nd:ms.Nodup:=pm.nodup_iff.mpr hw.2.2.1
 have ndf:=nd.filter λs=>decide (V.str (wh s)=V.str whose)
 have lm:ms.length<64:=by
  have a:=bB List.length hw.1
  rw [ae,ae] at a
  have b:=pm.length_eq
  have c:=hw.2.1
  lia
 have lf:=cw (λs=>decide (V.str (wh s)=V.str whose)) ms
 refine ⟨l,rfl,⟨_,SqL.of fl⟩,qvg (GoneAt qw hs m.toNat whose ps tvs) (λs v H H' g kn=>g.kn λb o n1 _ _ e=>kn b o n1 e) fl (by lia) ndf (λs H' RR hs' sm kR=>?_) λc2 cs H2 n2 s2 f2 ec hG=>?_⟩
 ·obtain ⟨hm,hq⟩:=ck.mp hs'
  have hq:wh s=whose:=by
   have:=dS hq
   injection this
  have hss:=pm.mem_iff.mp hm
  obtain ⟨tm,y,p,t,ey,wk⟩:=hw.2.2.2 s hss
  rw [hq] at wk
  obtain ⟨dy,hy⟩:=wk.ob
  have sa:=s1.trans sm
  have dg:DGet H' dw (.str s) (xv W (.inr s)):=DGet.k (k:=.inr s) (sa _ _ hh.w)
  rw [ey] at dg
  refine exI rfl (exI rfl ⟨x,qq,dx,_,_,rfl,sa _ _ hx,T.clH,T.naHw,zn,exI rfl ⟨dw,exI rfl ⟨dg,y,dy,exI rfl ⟨sa _ _ hy,qzj (by decide +kernel) (by decide +kernel) (by decide +kernel),exI rfl (exI rfl ⟨y,r,p,t,whose,hs,ps s,tvs s,m,rfl,wk.same sa,tm,hR.same sa,hps s hss hq,wi.1,λH'' y' p' t' tv' ny s'' w'' tm' hit=>kR _ _ s'' ⟨y',p',t',tv',rfl,w'',tm',hit⟩⟩)⟩⟩⟩⟩)
 ·have s02:=s1.trans s2
  have n20:H c2=none:=xu s1 n2
  have ndk:(cs.map (·.1)).Nodup:=by
   rw [ec]
   exact bF.mpr (ndf.imp λ{a b} h z=>h (by injection z))
  have lc:cs.length<64:=by
   have:=bB List.length ec
   rw [ae,ae] at this
   lia
  refine exI rfl ⟨x,dx,exI rfl ⟨s02 _ _ hx,x8 (by decide +kernel) (by decide +kernel) (by decide +kernel),λc1 n1=>(exI rfl ?_)⟩⟩
  have s4:Same H2 (upd H2 c1 (.dK [])):=Same.upd n1
  have f1:upd H2 c1 (.dK []) c1=some (.dK []):=qt
  have c12:c1≠c2:=(qg f2 n1).symm
  have f24:=s4 _ _ f2
  generalize upd H2 c1 (.dK [])=H4 at s4 f1 f24
  dsimp only [Jc]
  have lW:W.length≤1000:=by have:=hw.2.1;lia
  refine do_gen (E:=E) hh (s02.trans s4) (xu s02 n1) n20 f1 f24 c12 bM ndk lR lW (aB _) (by lia) lD (λi c ec hc=>nomatch ec) (λi c ec' hc=>?_) λH5 gd kb5 rd5 gp=>?_
  ·obtain ⟨_,_,_,y,_,_,_,ey,_⟩:=hG c (aZ ec')
   rw [ey] at hc
   cases hc
  ·refine exI rfl ⟨c2,cs,rfl,rd5,λo H6 fz=>?_⟩
   have kn56:KnW H5 H6:=λb ob m1 m2 _ e=>by
    by_cases z:b=c2
    ·rcases rd5 with g|⟨u,g⟩ <;> (rw [z,g] at e;cases e)
     ·exact absurd rfl (m1 _)
     ·exact absurd rfl (m2 _ _)
    ·rw [fz.2 b z];exact e
   have hd4:=(s02.trans s4) _ _ hh.d
   have kn25:KnW H4 H5:=λb ob m1 m2 m3 e=>kb5 b ob (λz=>by
    simp only [aq,ay,bU] at z
    rcases z with z|z|z|z|z
    ·rw [z,(s02.trans s4) _ _ hh.r] at e;cases e;exact m1 _ rfl
    ·rw [z,(s02.trans s4) _ _ hh.w] at e;cases e;exact m1 _ rfl
    ·rw [z,hd4] at e;cases e;exact m3 _ rfl
    ·rw [z,f1] at e;cases e;exact m1 _ rfl
    ·rw [z,f24] at e;cases e;exact m1 _ rfl) e
   have hG6:∀kv∈cs,∃s,s∈ss∧wh s=whose∧kv.1=.inr s∧GoneAt qw hs m.toNat whose ps tvs s kv.2 H6:=λkv hkv=>by
    obtain ⟨s,hs1,hs2,g⟩:=hG kv hkv
    obtain ⟨hm,hq⟩:=ck.mp hs1
    have hq:wh s=whose:=by
     have:=dS hq
     injection this
    exact ⟨s,pm.mem_iff.mp hm,hq,hs2,((g.kn λb o _ _ _ e=>s4 _ _ e).kn kn25).kn kn56⟩
   refine wqm (λj v H=>∃kv a y p pt t tv,cs[j]?=some kv∧v=.ref a∧H a=some (.tup [kV kv.1,.ref p])∧kv.2=.ref y∧WkAt qw H y whose p pt t tv) (λj v H H' g kn=>?_) (by lia) fz.1 (λi c q H' RR ei sm nq kR=>?_) λl6 ys H7 n6 s7 f7 ly hy=>?_
   ·obtain ⟨kv,a,y,p,pt,t,tv,g1,g2,g3,g4,g5⟩:=g
    obtain ⟨d5,o5⟩:=g5.ob
    exact ⟨kv,a,y,p,pt,t,tv,g1,g2,kn _ _ (λ_ z=>by cases z) g3,g4,⟨⟨d5,kn _ _ (λ_ z=>by cases z) o5⟩,kn _ _ (λ_ z=>by cases z) g5.pt,kn _ _ (λ_ z=>by cases z) g5.tm⟩⟩
   ·obtain ⟨s,_,_,e1,y,p,t,tv,e2,wk,_,_⟩:=hG6 c (aZ ei)
    have sq:Same H' (upd H' q (.tup [kV c.1,c.2])):=Same.upd nq
    refine ⟨q,exI rfl ⟨SqT.new,rfl,_,_,rfl,_,_,rfl,rfl,⟨_,_,rfl⟩,?_⟩⟩
    have wk':=wk.same (sm.trans sq)
    obtain ⟨dy,oy⟩:=wk'.ob
    generalize upd H' q (.tup [kV c.1,c.2])=H8 at sq wk' oy
    refine exI rfl (exI rfl ⟨y,qw,dy,_,_,e2,oy,T.clW,T.naWp,jc,sz2,λa na=>?_⟩)
    have sa:=sq.trans (Same.upd (o:=.tup [kV c.1,.ref p]) na)
    exact kR _ _ sa ⟨c,a,y,p,_,t,tv,ei,rfl,qt,e2,wk'.same (Same.upd na)⟩
   ·have kb7:Kb [c2] H5 H7:=λb ob nb e=>s7 _ _ (by rw [fz.2 b (λz=>nb (by simp [z]))];exact e)
    refine k H7 l6 cs ms ys pm srt (gp H7 kb7) ec (λkv hkv=>?_) ?_ f7 ly hy
    ·obtain ⟨s,a1,a2,a3,a4⟩:=hG6 kv hkv
     exact ⟨s,a1,a2,a3,a4.kn λb o _ _ _ e=>s7 _ _ e⟩
    ·cases q:H l6 with
     |none=>rfl
     |some o6 =>
      exfalso
      have nc:l6≠c2:=qg q n20
      obtain ⟨tp,q1,q2,_,_,_,hs5,_,_,_,_,kb⟩:=gd
      rw [fz.2 l6 nc] at n6
      by_cases z:l6∈[dr,dw,dd]
      ·simp only [aq,ay,bU] at z
       rcases z with z|z|z
       ·rw [z,hs5.r] at n6;cases n6
       ·rw [z,hs5.w] at n6;cases n6
       ·rw [z,hs5.d] at n6;cases n6
      ·rw [kb _ _ z q] at n6;cases n6
end
section
variable {P:Ac}{w:Ah}{K:Aa}{mg:Str→Option Ag}{base:Heap}{qc:Aj}{qr:Aj}{qx:Aj}{qm:Aj}{qu:Aj}{wq:Aj}{wy:Aj}{qh:Aj}{wf:Aj}{wx:Aj}{qj:Aj}{qp:Aj}{qw:Aj}{qq:Aj}
def wn (cs:List Nat):Str:=⟨cs.toArray⟩
def qvu (cs:List Nat):Prop:=∀c∈cs,97≤c∧c<123
theorem let_at:∀i:Nat,i<26→atI (("abcdefghijklmnopqrstuvwxyz" : Str)).cps.toList (i:Int)=some (97+i):=by decide +kernel
theorem let_sz:(("abcdefghijklmnopqrstuvwxyz" : Str)).length≤sizeLine:=br (show _≤1000 by decide +kernel) (by decide)
theorem qug:∀i:Nat,i<26→qx5 (97+i)=true:=by decide +kernel
theorem qu7 (cs:List Nat)(c:Nat):wn cs++(⟨#[c]⟩:Str)=wn (cs++[c]):=by
 show (⟨cs.toArray++#[c]⟩:Str)=⟨(cs++[c]).toArray⟩
 simp
theorem v8 (cs:List Nat):(wn cs).length=cs.length:=by
 show cs.toArray.size=_
 simp
theorem Qj {cs ds:List Nat}(h:wn cs=wn ds):cs=ds:=by
 have:cs.toArray=ds.toArray:=bB Str.cps h
 simpa using this
theorem qks {cs:List Nat}(h:qvu cs)(l1:1≤cs.length)(l2:cs.length≤12):vg (wn cs)=true:=by
 unfold vg
 rw [v8,aP ⟨l1,l2⟩,Bool.true_and]
 refine bq.mpr λi hi=>?_
 have hi:i<cs.length:=by
  have:=aL.mp hi
  rw [show (wn cs).cps.size=cs.length from v8 cs] at this
  exact this
 have e:(wn cs).cps.getD i 0=cs[i]:=by
  show cs.toArray.getD i 0=_
  simp [Array.getD,hi]
 rw [e]
 have:=h _ (cC hi)
 rw [show cs[i]=97+(cs[i]-97) by lia]
 exact qug _ (by lia)
theorem qvh (cs:List Nat){n:Nat}(hn:n≤cs.length):Txt.slice (wn cs) none (some (n:Int))=wn (cs.take n):=by
 have e0:Builtin.Str.strSliceIndices none (some (n:Int)) 1 (wn cs).length=Builtin.Str.strSliceIndices (some ((0:Nat):Int)) (some (n:Int)) 1 (wn cs).length:=by
  unfold Builtin.Str.strSliceIndices
  simp
  rw [show max (0:Int) (min 0 ((wn cs).length:Int))=0 by lia]
 have hn':n≤(wn cs).length:=by rw [v8];exact hn
 have e1:=StrLaws.sliced_plain (wn cs) (aB n) hn'
 have e2:=StrLaws.strSliceIndices_plain (aB n) hn'
 have e3:(wn cs).cps.toList=cs:=by
  show cs.toArray.toList=cs
  simp
 unfold Txt.slice
 rw [e0]
 split
 ·next h =>
  rw [e2] at h
  have:n=cs.length:=by simpa [v8] using h
  rw [this,dc]
 ·rw [e1,e3,List.drop_zero,Nat.sub_zero]
  rfl
def NmOk (place:Nat)(v:Nat)(cs:List Nat):Prop:=qvu cs∧1≤cs.length∧cs.length≤12∧cs[place]?=some (97+v)
def Yu (K:Aa):Sp:=λvs H Q _=>∃(a:Aj) (ns:List Int) (i:Int),vs=[.ref a,.int i]∧SqL K H a (ns.map V.int)∧0≤i∧∀(q:Aj) (L:List (List Nat)) (H':Hp),Same H H'→H q=none→H' q=some (.lst (L.map λcs=>V.str (wn cs)))→L.length=5→(∀cs∈L,qvu cs∧1≤cs.length∧cs.length≤12)→L.Nodup→Q (.ref q) H'
theorem qyq {f:Aj}{fd:Ad}(F:Fun K "_law_names" "_law_names" s__law_names f fd)(T:Txt K mg qc qr qx qm qu wq wy qh wf wx qj qp qw qq)(c__law_pick:Cal P w K mg base "_law_pick" 2 (yx K)):FnOk P w K mg base (CXE P w) 3 f fd ["_law_script","_law_at"] (Yu K):=by
 have sc:=Y0
 refine F.okX sc (λvs H Q E h=>by obtain ⟨a,ns,i,rfl,_⟩:=h;rfl) (λcdv A outer s H vs Q E hr h=>?_)
 obtain ⟨a,ns,i,rfl,hS,h0,kk⟩:=h
 have big:(1000000:Nat)<sizeLine:=by decide
 have sm:∀z:Int,-(2 ^ 64)≤z→z≤2 ^ 64→Sm 65 z:=λz z1 z2=>Sm.small z1 z2 (by decide)
 refine ⟨_,(qk (wt (i:=2) sc.nd rfl (by walk_at "loc") vp)
   (qk (wt (i:=3) sc.nd rfl (by walk_at "loc") (wg xz qy (wm c__law_pick (hr.mono (by decide)) rfl qf (ww (pv 0) (ww (pv 1) (xy qy (xy qy qz)))))))
   (qk (wt (i:=4) sc.nd rfl (by walk_at "loc") (wm c__law_pick (hr.mono (by decide)) rfl qf (ww (pv 0) (ww (pv 1) (xy qy (ww (pv 3) qz))))))
   (qk (wt (i:=5) sc.nd rfl (by walk_at "loc") (wm c__law_pick (hr.mono (by decide)) rfl qf (ww (pv 0) (ww (pv 1) (xy qy (xy qy qz))))))
   (qk (wt (i:=6) sc.nd rfl (by walk_at "loc") (uq qz))
   (qk (uz aY rfl (vz rfl T.range_ (xy qy qz)) (xp (i:=7) sc.nd rfl (by walk_at "loc")) (qk (wt (i:=8) sc.nd rfl (by walk_at "loc") vp)
   (qk (uz aY rfl (vz rfl T.range_ (ww (pv 3) qz)) (xp (i:=9) sc.nd rfl (by walk_at "loc")) (qk (wt (i:=10) sc.nd rfl (by walk_at "loc") (wm c__law_pick (hr.mono (by decide)) rfl qf (ww (pv 0) (ww (pv 1) (zj (wg xz qy (pv 9)) (xy qy qz))))))
   (u9 (x9 (w6 kh (pv 9) (pv 4) (w9 _)) (wj (wt (i:=10) sc.nd rfl (by walk_at "loc") (wg zm (wg xz (pv 5) (wg xg qy (pv 7))) qy))) xx)
   (wj (wt (i:=8) sc.nd rfl (by walk_at "loc") (wg qvw (pv 8) (xm ix_str (pv 2) (pv 10) (λ_ _=>rfl))))))))
   (u9 (x9 (w6 kh (wm c__law_pick (hr.mono (by decide)) rfl qf (ww (pv 0) (ww (pv 1) (xy qy (xy qy qz))))) qy (w9 _)) (wj (wt (i:=8) sc.nd rfl (by walk_at "loc") (qub sl_str (pv 8) ww6 (ww1 (xq (Jn rfl) rfl T.max_ cX (zj (wg xz (pv 4) qy) (zj (wg zh (pv 3) (wg zm (wg xg qy (pv 7)) qy)) qz))))))) xx)
   (wj (zd (qxk bG bz bA vh (pv 6) (ww (pv 8) qz))))))))
   (wj (w8 (pv 6))))))))),?_⟩
 refine exI rfl (exI rfl ⟨a,ns,_,_,_,rfl,hS,h0,(by lia),(by lia),(by lia),λr0 _ l0 u0=>(wr rfl rfl ?_)⟩)
 refine exI rfl (exI rfl (exI rfl ⟨a,ns,_,_,_,rfl,hS,h0,(by lia),(by lia),(by lia),λpl _ l1 u1=>?_⟩))
 refine exI rfl (exI rfl ⟨a,ns,_,_,_,rfl,hS,h0,(by lia),(by lia),(by lia),λsf _ l2 u2=>?_⟩)
 refine ⟨sz0,λp np=>?_⟩
 refine ⟨_,rfl,(by decide),(by decide),yg (n:=(5:Int).toNat) (λj σ H'=>∃(L:List (List Nat)) (z1 z2 z3 z4:Option V),L.length=j∧(∀(t:Nat) cs,L[t]?=some cs→NmOk pl.toNat ((sf+5*t)%26).toNat cs)∧Same H H'∧H' p=some (.lst (L.map λcs=>V.str (wn cs)))∧σ=[some (.ref a),some (.int i),some (.str "abcdefghijklmnopqrstuvwxyz"),some (.int (1+r0)),some (.int pl),some (.int sf),some (.ref p),z1,z2,z3,z4])
  ⟨[],_,_,_,_,rfl,(λt cs e=>by cases e),Same.upd np,qt,rfl⟩ ?_ ?_⟩
 ·rintro j σ H1 hj ⟨L,z1,z2,z3,z4,lL,hL,s1,f1,rfl⟩
  have hj:j<5:=hj
  have m0:=aR (sf+5*((0:Int)+j)) (show (26:Int)≠0 by decide)
  have m1:=aS (sf+5*((0:Int)+j)) (show (0:Int)<26 by decide)
  refine ⟨_,rfl,1+r0,rfl,(by lia),(by lia),yg (n:=(1+r0).toNat) (λk σ H'=>∃(cs:List Nat) (z3 z4:Option V),cs.length=k∧qvu cs∧(pl.toNat<k→cs[pl.toNat]?=some (97+((sf+5*((0:Int)+j))%26).toNat))∧H'=H1∧σ=[some (.ref a),some (.int i),some (.str "abcdefghijklmnopqrstuvwxyz"),some (.int (1+r0)),some (.int pl),some (.int sf),some (.ref p),some (.int ((0:Int)+j)),some (.str (wn cs)),z3,z4])
   ⟨[],_,_,rfl,(λc hc=>nomatch hc),(λz=>absurd z (by lia)),rfl,rfl⟩ ?_ ?_⟩
  ·rintro k σ H2 hk ⟨cs,z3,z4,lc,hc,hp,rfl,rfl⟩
   refine exI rfl (exI rfl (exI rfl (wr rfl rfl ⟨a,ns,_,_,_,rfl,s1.sql hS,h0,(by lia),(by lia),(by lia),λsg _ g0 g1=>?_⟩)))
   refine ⟨λσ H'=>∃v:Int,0≤v∧v<26∧((0:Int)+k=pl→v=(sf+5*((0:Int)+j))%26)∧H'=H2∧σ=[some (.ref a),some (.int i),some (.str "abcdefghijklmnopqrstuvwxyz"),some (.int (1+r0)),some (.int pl),some (.int sf),some (.ref p),some (.int ((0:Int)+j)),some (.str (wn cs)),some (.int ((0:Int)+k)),some (.int v)],?_,?_⟩
   ·refine exI rfl (exI rfl ⟨rfl,_,rfl,k8 (λe=>?_) (λe=>⟨sg,g0,g1,λz=>absurd z e,rfl,rfl⟩)⟩)
    exact ⟨_,rfl,_,rfl,_,_,rfl,rfl,(sm _ (by lia) (by lia)).ok (sm _ (by lia) (by lia)) (by decide),_,_,rfl,rfl,_,_,rfl,rfl,(by walk_at "pos"),_,m0,m1,λ_=>rfl,rfl,rfl⟩
   ·rintro σ H3 ⟨v,v0,v1,ve,rfl,rfl⟩
    have ea:=let_at v.toNat (by lia)
    rw [cG v0] at ea
    refine exI rfl (exI rfl (exI rfl ⟨_,_,_,rfl,rfl,let_sz,ea,wr rfl rfl ⟨?_,?_⟩⟩))
    ·rw [v8]
     show cs.length+1≤_
     lia
    ·refine ⟨cs++[97+v.toNat],_,_,by rw [aU,lc];rfl,λc hc'=>?_,λz=>?_,rfl,by rw [←qu7];rfl⟩
     ·rcases ba.mp hc' with q|q
      ·exact hc c q
      ·rw [au.mp q]
       lia
     ·rcases (by lia:pl.toNat<k∨pl.toNat=k) with q|q
      ·rw [bt (by lia)]
       exact hp q
      ·rw [bd (by lia),lc,q,Nat.sub_self,ve (by lia)]
       rfl
  ·rintro σ H2 ⟨cs,z3,z4,lc,hc,hp,rfl,rfl⟩
   have lc:cs.length=(1+r0).toNat:=lc
   have hp:=hp (by lia)
   refine ⟨λσ H'=>∃(ds:List Nat),NmOk pl.toNat ((sf+5*((0:Int)+j))%26).toNat ds∧H'=H2∧σ=[some (.ref a),some (.int i),some (.str "abcdefghijklmnopqrstuvwxyz"),some (.int (1+r0)),some (.int pl),some (.int sf),some (.ref p),some (.int ((0:Int)+j)),some (.str (wn ds)),z3,z4],?_,?_⟩
   ·refine exI rfl (exI rfl ⟨a,ns,_,_,_,rfl,s1.sql hS,h0,(by lia),(by lia),(by lia),λr3 _ l3 u3=>?_⟩)
    refine ⟨rfl,_,rfl,k8 (λe=>?_) (λe=>⟨cs,⟨hc,by lia,by lia,hp⟩,rfl,rfl⟩)⟩
    have q0:=aR (2*((0:Int)+j)) (show (7:Int)≠0 by decide)
    refine exI rfl (exI rfl (wr rfl rfl (exI rfl (exI rfl (wr rfl rfl ⟨(sm _ (by lia) (by lia)).ok (sm _ (by lia) (by lia)) (by decide),wr rfl rfl ⟨(by walk_at "pos"),wr rfl rfl ⟨_,_,rfl,_,rfl,?_⟩⟩⟩)))))
    obtain ⟨n,hn,n1,n2⟩:∃n:Nat,(if 1+r0-2*((0:Int)+j)%7>pl+1 then 1+r0-2*((0:Int)+j)%7 else pl+1)=(n:Int)∧pl.toNat<n∧n≤cs.length:=by
     refine ⟨(if 1+r0-2*((0:Int)+j)%7>pl+1 then 1+r0-2*((0:Int)+j)%7 else pl+1).toNat,?_,?_,?_⟩ <;> split <;> lia
    have e8:Txt.slice (wn cs) none (some (if 1+r0-2*((0:Int)+j)%7>pl+1 then 1+r0-2*((0:Int)+j)%7 else pl+1))=wn (cs.take n):=by
     rw [hn]
     exact qvh cs n2
    have lt:(cs.take n).length=n:=by rw [bK];lia
    refine ⟨wn cs,rfl,by rw [v8];lia,cs.take n,⟨λc hc'=>hc c (List.mem_of_mem_take hc'),by lia,by lia,?_⟩,rfl,by rw [←e8];rfl⟩
    rw [List.getElem?_take,ak n1]
    exact hp
   ·rintro σ H3 ⟨ds,hd,rfl,rfl⟩
    refine exI rfl ⟨.inl ⟨rfl,_,SqL.of f1⟩,exI rfl ⟨_,_,_,rfl,rfl,f1,?_,?_⟩⟩
    ·rw [ae,lL]
     lia
    ·refine ⟨L++[ds],_,_,_,_,by rw [aU,lL];rfl,λt cs' et=>?_,Same.upd2 s1 np,?_,rfl⟩
     ·rcases ef t L.length with q|q
      ·rw [bt q] at et
       exact hL t cs' et
      ·rw [bd q] at et
       have:t=L.length:=by
        rcases (by lia:t-L.length=0∨1≤t-L.length) with y|y
        ·lia
        ·rw [bj (by simpa using y)] at et
         cases et
       subst this
       rw [Nat.sub_self] at et
       cases et
       rw [Int.zero_add] at hd
       rw [lL]
       exact hd
     ·rw [aT]
      exact qt
 ·rintro σ H1 ⟨L,z1,z2,z3,z4,lL,hL,s1,f1,rfl⟩
  have lL:L.length=5:=lL
  refine exI rfl (kk p L H1 s1 np f1 lL (λcs hcs=>?_) ?_)
  ·obtain ⟨t,ht,rfl⟩:=List.mem_iff_getElem.mp hcs
   obtain ⟨q1,q2,q3,_⟩:=hL t _ (al ht)
   exact ⟨q1,q2,q3⟩
  ·refine List.pairwise_iff_getElem.mpr λx y hx hy hxy e=>?_
   have e1:=(hL x _ (al hx)).2.2.2
   have e2:=(hL y _ (al hy)).2.2.2
   rw [e,e2] at e1
   have e3:=av e1
   have a0:=aR (sf+5*(x:Int)) (show (26:Int)≠0 by decide)
   have b0:=aR (sf+5*(y:Int)) (show (26:Int)≠0 by decide)
   have:(sf+5*(x:Int))%26=(sf+5*(y:Int))%26:=by lia
   lia
def Zg (K:Aa):Sp:=λvs H Q _=>∃(p a:Aj) (hs:List Int) (t b m:Int),vs=[.ref p,.ref a,.int m]∧SqL K H p (hs.map V.int)∧zq hs∧H a=some (.tup [.int t,.int b])∧1≤b∧b≤1000∧zr hs t b∧(wp t b).2≤40∧0≤m ∧
 ∀q H',Same H H'→H' q=some (.tup (ptV (itP hs (wp t b) m.toNat)))→Q (.ref q) H'
theorem wxt {f:Aj}{fd:Ad}(F:Fun K "_law_led" "_law_led" s__law_led f fd)(T:Txt K mg qc qr qx qm qu wq wy qh wf wx qj qp qw qq)(c__law_trace:Cal P w K mg base "_law_trace" 2 (Zb K))(c__law_after:Cal P w K mg base "_law_after" 1 (qq1 K))(c__law_low:Cal P w K mg base "_law_low" 2 wqb) :
  FnOk P w K mg base (CXE P w) 3 f fd ["_law_heights_here","_law_point_here","_law_many"] (Zg K):=by
 have sc:=qzw
 refine F.okX sc (λvs H Q E h=>by obtain ⟨p,a,hs,t,b,m,rfl,_⟩:=h;rfl) (λcdv A outer s H vs Q E hr h=>?_)
 obtain ⟨p,a,hs,t,b,m,rfl,hp,ok,ha,b1,b2,on,b40,m0,k⟩:=h
 have sm:∀z:Int,-(2 ^ 64)≤z→z≤2 ^ 64→Sm 65 z:=λz z1 z2=>Sm.small z1 z2 (by decide)
 refine ⟨_,(qk (Q9 (wm c__law_low (hr.mono (by decide)) rfl qf (zv (xm kj (pv 1) qy (λ_ _=>rfl)) (zv (xm kj (pv 1) qy (λ_ _=>rfl)) qz))) (jn rfl (zw (xp (i:=3) sc.nd rfl (by walk_at "loc")) (zw (xp (i:=4) sc.nd rfl (by walk_at "loc")) k4))))
   (qk (Q9 (wm c__law_trace (hr.mono (by decide)) rfl qf (ww (pv 0) (ww (pv 3) (ww (pv 4) qz)))) (jn rfl (zw (xp (i:=5) sc.nd rfl (by walk_at "loc")) (zw (xp (i:=6) sc.nd rfl (by walk_at "loc")) k4))))
   (wj (w8 (wm c__law_low (hr.mono (by decide)) rfl qf (jj (wm c__law_after (hr.mono (by decide)) rfl qf (ww (pv 5) (ww (pv 6) (ww (pv 2) qz)))) (ww (pv 4) qz))))))),?_⟩
 refine exI rfl (exX rfl rfl (SqT.of ha) rfl (exI rfl (exX rfl rfl (SqT.of ha) rfl ⟨t,b,rfl,b1,(sm b (by lia) (by lia)).mono (by decide),λp1 n1=>?_⟩)))
 have s1:=Same.upd (H:=H) (o:=.tup (ptV (wp t b))) n1
 have f1:upd H p1 (.tup (ptV (wp t b))) p1=some (.tup [.int (wp t b).1,.int (wp t b).2]):=qt
 generalize upd H p1 (.tup (ptV (wp t b)))=H1 at s1 f1
 refine ⟨p1,exI rfl ⟨SqT.of f1,rfl,_,_,rfl,_,_,rfl,rfl,?_⟩⟩
 have c1:=low1 (t:=t) b1
 have lon:=qvf b1 on
 have ll:wp (wp t b).1 (wp t b).2=wp t b:=qqt c1 (qqp b1)
 have key:∀n,wp (trT hs (wp t b).1 (wp t b).2 n) (wp t b).2=itP hs (wp t b) n:=λn=>by
  rw [qq3 c1,ll]
 generalize (wp t b).1=t' at f1 c1 lon ll key
 generalize (wp t b).2=b' at f1 c1 lon ll key b40
 refine ⟨_,rfl,_,rfl,_,rfl,p,hs,t',b',rfl,s1.sql hp,ok,c1,by lia,lon,λn u q l H2 d1 u1 e1 nl s2 ll2 fq fl=>?_⟩
 refine ⟨q,exI rfl ⟨SqT.of fq,rfl,_,_,rfl,_,_,rfl,rfl,?_⟩⟩
 refine ⟨_,rfl,_,rfl,_,rfl,l,trT hs t' b',n,u,m,rfl,fl,u1,e1,λi j e=>?_,m0,?_⟩
 ·show v9 hs (trT hs t' b' i) b'=v9 hs (trT hs t' b' j) b'
  rw [e]
 ·refine exI rfl ⟨_,_,rfl,c1,(sm b' (by lia) (by lia)).mono (by decide),λp3 n3=>?_⟩
  refine k p3 _ ((s1.trans s2).trans (Same.upd n3)) ?_
  rw [qt,key]
end
section
variable {P:Ac}{w:Ah}{K:Aa}{mg:Str→Option Ag}{base:Heap}{qc:Aj}{qr:Aj}{qx:Aj}{qm:Aj}{qu:Aj}{wq:Aj}{wy:Aj}{qh:Aj}{wf:Aj}{wx:Aj}{qj:Aj}{qp:Aj}{qw:Aj}{qq:Aj}
theorem qws {X:Cx}{ss:List Stmt}{t t':TS}(h:PSs X ss t)(k:∀D σ H,t' D σ H→t D σ H):PSs X ss t':=λpins s σ H D I q=>h pins s σ H D I (k D σ H q)
theorem Wj {k:Key}{v:V}{t:List (Key×V)}:xv ((k,v)::t) k=some v:=by
 unfold xv
 rw [bH,aP rfl]
 rfl
theorem qv7 {k k':Key}{v:V}{t:List (Key×V)}(h:k≠k'):xv ((k,v)::t) k'=xv t k':=by
 unfold xv
 rw [bH,aV h]
theorem put_hd {k:Key}{v v':V}{t:List (Key×V)}(h:∀kv∈t,kv.1≠k):zf ((k,v)::t) k v'=(k,v')::t:=by
 unfold zf
 rw [ak (by simp)]
 simp only [aD,ak]
 congr 1
 rw [bX (g:=id) λkv hkv=>by rw [aj (h kv hkv)];rfl,List.map_id]
theorem put_tl {k k':Key}{v v' w:V}(h:k'≠k):zf [(k',w),(k,v)] k v'=[(k',w),(k,v')]:=by
 unfold zf
 rw [ak (by simp)]
 simp [h]
theorem qqr {C:Aj}{H H':Hp}{x dr dw dd:Aj}{R W:List (Key×V)}{D:List V}(hh:Hse C H x dr dw dd R W D)(k:Kb [dr,dw,dd] H H'){a:Aj}{xs:List V}(e:H a=some (.tup xs)):H' a=some (.tup xs):=k _ _ (λz=>by
 simp only [aq,ay,bU] at z
 rcases z with rfl|rfl|rfl
 ·rw [hh.r] at e;cases e
 ·rw [hh.w] at e;cases e
 ·rw [hh.d] at e;cases e) e
theorem ug {C CR:Aj}{H H':Hp}{x dr dw dd:Aj}{R W:List (Key×V)}{D:List V}(hh:Hse C H x dr dw dd R W D)(rf:Refs D)(k:Kb [dr,dw,dd] H H'){r:Aj}{hs:List Int}(h:RoadAt CR H r hs)(ok:zq hs):RoadAt CR H' r hs:=h.kb (CH:=CR) ok k rf λb hb=>by
 simp only [aq,ay,bU] at hb
 rcases hb with rfl|rfl|rfl
 ·exact .inl ⟨_,.inl hh.r⟩
 ·exact .inl ⟨_,.inl hh.w⟩
 ·exact .inr hh.d
theorem qun {C:Aj}{H H':Hp}{x dr dw dd:Aj}{R W:List (Key×V)}{D:List V}(hh:Hse C H x dr dw dd R W D)(k:Kb [dr,dw,dd] H H'){a:Aj}{xs:List V}(e:H a=some (.lst xs))(n:a≠dd):H' a=some (.lst xs):=k _ _ (λz=>by
 simp only [aq,ay,bU] at z
 rcases z with rfl|rfl|rfl
 ·rw [hh.r] at e;cases e
 ·rw [hh.w] at e;cases e
 ·exact n rfl) e
theorem qkv {C CW:Aj}{H H':Hp}{x dr dw dd:Aj}{R W:List (Key×V)}{D:List V}(hh:Hse C H x dr dw dd R W D)(k:Kb [dr,dw,dd] H H'){y:Aj}{n:Str}{p:Aj}{pt:Int×Int}{t:Aj}{tv:List (List Key×V)}(h:WkAt CW H y n p pt t tv):WkAt CW H' y n p pt t tv:=h.kb k λb hb=>by
 simp only [aq,ay,bU] at hb
 rcases hb with rfl|rfl|rfl
 ·exact .inl ⟨_,.inl hh.r⟩
 ·exact .inl ⟨_,.inl hh.w⟩
 ·exact .inr ⟨_,hh.d⟩
def F60:Int:=1000000000000000000000000000000000000000000000000000000000000
def Spot (H:Hp)(a:Aj)(hs:List Int)(t b:Int):Prop:=H a=some (.tup [.int t,.int b])∧1≤b∧b≤1000∧zr hs t b∧(wp t b).2≤40
theorem Spot.hpt {H:Hp}{a:Aj}{hs:List Int}{t b:Int}(h:Spot H a hs t b)(ok:zq hs):HPt hs (wp t b):=⟨ok,⟨low1 h.2.1,Int.le_refl _,qqp h.2.1,qvf h.2.1 h.2.2.2.1⟩,h.2.2.2.2⟩
structure AtA (H:Hp)(q0 p1 pa pb:Aj)(c0 c1:List Nat)(cr:List (List Nat))(hs:List Int)(t1 b1 t2 b2 S M:Int):Prop where
 nm:H q0=some (.lst ((c0::c1::cr).map λcs=>V.str (wn cs)))
 n0:qvu c0∧1≤c0.length∧c0.length≤12
 n1:qvu c1∧1≤c1.length∧c1.length≤12
 ne:c0≠c1
 hp:H p1=some (.lst (hs.map V.int))
 ok:zq hs
 sa:Spot H pa hs t1 b1
 sb:Spot H pb hs t2 b2
 s0:0≤S
 m0:0≤M
 sm:S+M≤F60
theorem AtA.same {H H':Hp}{q0 p1 pa pb:Aj}{c0 c1:List Nat}{cr:List (List Nat)}{hs:List Int}{t1 b1 t2 b2 S M:Int}(h:AtA H q0 p1 pa pb c0 c1 cr hs t1 b1 t2 b2 S M)(s:Same H H'):AtA H' q0 p1 pa pb c0 c1 cr hs t1 b1 t2 b2 S M :=
 ⟨s _ _ h.nm,h.n0,h.n1,h.ne,s _ _ h.hp,h.ok,⟨s _ _ h.sa.1,h.sa.2⟩,⟨s _ _ h.sb.1,h.sb.2⟩,h.s0,h.m0,h.sm⟩
theorem AtA.kb {C:Aj}{H H':Hp}{x dr dw dd:Aj}{R W:List (Key×V)}{D:List V}{q0 p1 pa pb:Aj}{c0 c1:List Nat}{cr:List (List Nat)}{hs:List Int}{t1 b1 t2 b2 S M:Int}(h:AtA H q0 p1 pa pb c0 c1 cr hs t1 b1 t2 b2 S M)(hh:Hse C H x dr dw dd R W D)(k:Kb [dr,dw,dd] H H')(nq:q0≠dd)(np:p1≠dd):AtA H' q0 p1 pa pb c0 c1 cr hs t1 b1 t2 b2 S M :=
 ⟨qun hh k h.nm nq,h.n0,h.n1,h.ne,qun hh k h.hp np,h.ok,⟨qqr hh k h.sa.1,h.sa.2⟩,⟨qqr hh k h.sb.1,h.sb.2⟩,h.s0,h.m0,h.sm⟩
def TailA (D:Ends)(σ:St)(H:Hp):Prop:=∃(a q0 p1 pa pb:Aj) (c0 c1:List Nat) (cr:List (List Nat)) (hs:List Int) (t1 b1 t2 b2 S M:Int),σ=[some (.ref a),some (.ref q0),some (.ref p1),some (.ref pa),some (.ref pb),some (.int S),some (.int M),none,none,none,none,none,none,none,none,none]∧AtA H q0 p1 pa pb c0 c1 cr hs t1 b1 t2 b2 S M∧∀H',D.rt (.bl true) H'
def W2 (c0 c1:List Nat)(y1 y2:Aj):List (Key×V):=[(.inr (wn c1),.ref y1),(.inr (wn c0),.ref y2)]
def TailB (C CR CW:Aj)(D:Ends)(σ:St)(H:Hp):Prop:=∃(a q0 p1 pa pb x dr dw dd r y1 y2 f1 f2 f3 w2 tm1 tm2:Aj) (tv1 tv2:List (List Key×V)) (Ds:List V) (c0 c1:List Nat) (cr:List (List Nat)) (hs:List Int) (t1 b1 t2 b2 S M:Int),σ=[some (.ref a),some (.ref q0),some (.ref p1),some (.ref pa),some (.ref pb),some (.int S),some (.int M),some (.ref x),some (.ref f1),some (.ref f2),some (.ref f3),none,none,none,none,none]∧AtA H q0 p1 pa pb c0 c1 cr hs t1 b1 t2 b2 S M ∧
 Hse C H x dr dw dd [(.inr (wn c0),.ref r)] (W2 c0 c1 y1 y2) Ds∧Refs Ds∧Ds.length=6∧q0≠dd∧p1≠dd∧RoadAt CR H r hs∧WkAt CW H y1 (wn c0) f2 (itP hs (wp t1 b1) (S+M).toNat) tm1 tv1∧TmOk tv1∧WkAt CW H y2 (wn c0) f3 (itP hs (wp t2 b2) (S+M).toNat) tm2 tv2∧TmOk tv2∧H f1=some (.tup [.int (itP hs (wp t1 b1) S.toNat).1,.int (itP hs (wp t1 b1) S.toNat).2])∧w2=f2∧∀H',D.rt (.bl true) H'
set_option maxHeartbeats 0 in
theorem qj1 {f:Aj}{cdv:Ag}{A:Ae}{outer:List Env}{s:Ab}{H:Hp}{E:XK}(T:Txt K mg qc qr qx qm qu wq wy qh wf wx qj qp qw qq)(c_House:CCal P w K mg base "House" qq 1 (Ws qq))(c_lay:MCal P w K mg base qq "lay" 4 (qkn K qq qp qh wf qr))(c_place:MCal P w K mg base qq "place" 5 (Zz K qq qp qw qh wf wx qx qm))(c_go:MCal P w K mg base qq "go" 8 (spGo qq qp qw qj qu))
  (hr:Room 9 (A.deeper (PyProof.Rows.envOfC "law" (wb s_law) s.heap.objs.size f cdv))) {rest7 rest:List Stmt} (h7:(wz s_law).drop 7=rest7) (h14:(wz s_law).drop 14=rest) (hC:PSs (Qq (CXE P w) P w K mg base ["_law_script","_law_names_here","_law_heights_here","_law_one","_law_two","_law_some","_law_more","_law_house","_law_first","_law_second","_law_third","_law_found","_law_told","_law_left","_law_right","_law_due"] "law" (wb s_law) f cdv A outer s H E) rest (TailB qq qp qw)) :
  PSs (Qq (CXE P w) P w K mg base ["_law_script","_law_names_here","_law_heights_here","_law_one","_law_two","_law_some","_law_more","_law_house","_law_first","_law_second","_law_third","_law_found","_law_told","_law_left","_law_right","_law_due"] "law" (wb s_law) f cdv A outer s H E) rest7 TailA:=by
 have sc:=qwf
 have e7:(wz s_law).drop 7=(wz s_law)[7]'(by decide +kernel)::(wz s_law).drop 8:=ah (by decide +kernel)
 have e8:(wz s_law).drop 8=(wz s_law)[8]'(by decide +kernel)::(wz s_law).drop 9:=ah (by decide +kernel)
 have e9:(wz s_law).drop 9=(wz s_law)[9]'(by decide +kernel)::(wz s_law).drop 10:=ah (by decide +kernel)
 have e10:(wz s_law).drop 10=(wz s_law)[10]'(by decide +kernel)::(wz s_law).drop 11:=ah (by decide +kernel)
 have e11:(wz s_law).drop 11=(wz s_law)[11]'(by decide +kernel)::(wz s_law).drop 12:=ah (by decide +kernel)
 have e12:(wz s_law).drop 12=(wz s_law)[12]'(by decide +kernel)::(wz s_law).drop 13:=ah (by decide +kernel)
 have e13:(wz s_law).drop 13=(wz s_law)[13]'(by decide +kernel)::(wz s_law).drop 14:=ah (by decide +kernel)
 rw [←h7,e7,e8,e9,e10,e11,e12,e13,h14]
 clear e7 e8 e9 e10 e11 e12 e13 h7 h14
 have sm:∀z:Int,-(2 ^ 64)≤z→z≤2 ^ 64→Sm 65 z:=λz z1 z2=>Sm.small z1 z2 (by decide)
 refine qws (qk (wt (i:=7) sc.nd rfl (by walk_at "loc") (qk9 c_House (hr.mono (by decide)) rfl qf))
   (qk (zd (xb (pv 7) T.clH c_lay (hr.mono (by decide)) qf (zv (xm xk (pv 1) qy (λ_ _=>rfl)) (jj (yb Qg rfl T.list_ cg (ww (pv 2) qz)) qz))))
   (qk (zd (xb (pv 7) T.clH c_place (hr.mono (by decide)) qf (zv (xm xk (pv 1) qy (λ_ _=>rfl)) (zv (xm xk (pv 1) qy (λ_ _=>rfl)) (ww (pv 3) qz)))))
   (qk (zd (xb (pv 7) T.clH c_place (hr.mono (by decide)) qf (zv (xm xk (pv 1) qy (λ_ _=>rfl)) (zv (xm xk (pv 1) qy (λ_ _=>rfl)) (ww (pv 4) qz)))))
   (qk (wt (i:=8) sc.nd rfl (by walk_at "loc") (xb (pv 7) T.clH c_go (hr.mono (by decide)) qf (zv (xm xk (pv 1) qy (λ_ _=>rfl)) (ww (pv 5) qz))))
   (qk (wt (i:=9) sc.nd rfl (by walk_at "loc") (xb (pv 7) T.clH c_go (hr.mono (by decide)) qf (zv (xm xk (pv 1) qy (λ_ _=>rfl)) (ww (pv 6) qz))))
   (qk (wt (i:=10) sc.nd rfl (by walk_at "loc") (xb (pv 7) T.clH c_go (hr.mono (by decide)) qf (zv (xm xk (pv 1) qy (λ_ _=>rfl)) (zj (wg xz (pv 5) (pv 6)) qz))))
   hC))))))) ?_
 rintro D σ H0 ⟨a,q0,p1,pa,pb,c0,c1,cr,hs,t1,b1,t2,b2,S,M,rfl,A0,k⟩
 have ne10:(Sum.inr (wn c1):Key)≠.inr (wn c0):=λz=>A0.ne (Qj (by injection z)).symm
 have nm0:=qks A0.n0.1 A0.n0.2.1 A0.n0.2.2
 have nm1:=qks A0.n1.1 A0.n1.2.1 A0.n1.2.2
 have ln0:(wn c0).length≤1000:=by rw [v8];have:=A0.n0.2.2;lia
 have ln1:(wn c1).length≤1000:=by rw [v8];have:=A0.n1.2.2;lia
 have ok:=A0.ok
 have s0:=A0.s0
 have m0:=A0.m0
 have smx:=A0.sm
 have hA:=A0.sa.hpt ok
 have hB:=A0.sb.hpt ok
 refine λx d9 nx nd9 ne9=>⟨x,d9,rfl,qt,λH1 dr dw dd m1 m2 m3 hse kb1=>⟨rfl,?_⟩⟩
 have s1:Same H0 H1:=λz o e=>kb1 z o (λy=>by rw [au.mp y,nx] at e;cases e) (by rw [wc (qg e nx),wc (qg e nd9)];exact e)
 have m3':H0 dd=none:=by
  cases e:H0 dd with
  |none=>rfl
  |some o=>rw [wc (qg e nx),wc (qg e nd9),e] at m3;cases m3
 have qd:q0≠dd:=qg A0.nm m3'
 have pd:p1≠dd:=qg A0.hp m3'
 have A1:=A0.same s1
 clear s1 kb1 m1 m2 m3 m3'
 obtain ⟨dx,hx⟩:=hse.ob
 refine exI rfl ⟨x,dx,exI rfl ⟨hx,x8 (by decide +kernel) (by decide +kernel) (by decide +kernel),exI rfl (exX rfl rfl (SqL.of A1.nm) (xt (j:=0) rfl) (exI rfl ⟨p1,exI rfl ⟨.inl (SqL.of A1.hp),λp2 n2=>?_⟩⟩))⟩⟩
 have s2:=Same.upd (H:=H1) (o:=.lst (hs.map V.int)) n2
 have f2:upd H1 p2 (.lst (hs.map V.int)) p2=some (.lst (hs.map V.int)):=qt
 generalize upd H1 p2 (.lst (hs.map V.int))=H2 at s2 f2
 have A2:=A1.same s2
 have h2:=hse.same s2
 refine ⟨x,dr,dw,dd,p2,[],[],[],wn c0,hs,rfl,h2,(λv hv=>nomatch hv),aB _,aB _,aB _,ln0,f2,λ_ _ _ H3 rd=>?_,(λz=>by rw [nm0] at z;cases z),(λ_ z=>by cases z),λ_ _ z=>absurd ok z⟩
 obtain ⟨r,tp,q1,q2,_,_,_,h3,_,_,_,_,r3,kb3⟩:=rd
 have A3:=A2.kb h2 kb3 qd pd
 have rf1:Refs ([]++[V.ref tp]):=Refs.add (D:=[]) (λv hv=>nomatch hv) tp
 rw [jw (kvs:=[]) _ rfl,List.nil_append] at h3
 clear A1 A2 h2 hse hx s2 f2 kb3
 obtain ⟨dx,hx⟩:=h3.ob
 have vr:xv [((Sum.inr (wn c0):Key),V.ref r)] (.inr (wn c0))=some (.ref r):=Wj
 refine exI rfl ⟨x,dx,exI rfl ⟨hx,x8 (by decide +kernel) (by decide +kernel) (by decide +kernel),exI rfl (exX rfl rfl (SqL.of A3.nm) (xt (j:=1) rfl) (exI rfl (exX rfl rfl (SqL.of A3.nm) (xt (j:=0) rfl) (exI rfl ⟨x,dr,dw,dd,pa,_,[],_,wn c1,wn c0,t1,b1,rfl,h3,(show 1≤1000 by decide),aB _,(show 1≤1000000 by decide),ln1,A3.sa.1,(λz=>by rw [nm1] at z;cases z),(λ_ z=>by cases z),λ_ _=>⟨(λz=>by rw [vr] at z;cases z),λv e=>?_⟩⟩))))⟩⟩
 rw [vr] at e
 cases e
 refine ⟨r,hs,rfl,r3,ok,(λz=>absurd z (by have:=A3.sa.2.1;lia)),λ_=>⟨(sm b1 (by have:=A3.sa.2.1;lia) (by have:=A3.sa.2.2.1;lia)).mono (by decide),(λz=>absurd z (by have:=A3.sa.2.2.2.2;lia)),λ_=>⟨(λz=>absurd hA.2.1.2.2.2 z),λ_ H4 w4 t4 wd4=>?_⟩⟩⟩
 obtain ⟨y1,tp4,_,_,_,_,_,h4,_,_,_,_,wk4,kb4⟩:=wd4
 have A4:=A3.kb h3 kb4 qd pd
 have r4:=ug h3 rf1 kb4 r3 ok
 have rf2:=rf1.add tp4
 rw [jw (kvs:=[]) _ rfl,List.nil_append] at h4
 clear A3 h3 hx kb4 r3
 obtain ⟨dx,hx⟩:=h4.ob
 have vn:xv [((Sum.inr (wn c1):Key),V.ref y1)] (.inr (wn c0))=none:=by rw [qv7 ne10];rfl
 refine exI rfl ⟨x,dx,exI rfl ⟨hx,x8 (by decide +kernel) (by decide +kernel) (by decide +kernel),exI rfl (exX rfl rfl (SqL.of A4.nm) (xt (j:=0) rfl) (exI rfl (exX rfl rfl (SqL.of A4.nm) (xt (j:=0) rfl) (exI rfl ⟨x,dr,dw,dd,pb,_,_,_,wn c0,wn c0,t2,b2,rfl,h4,(show 1≤1000 by decide),(show 1≤1000 by decide),(show 2≤1000000 by decide),ln0,A4.sb.1,(λz=>by rw [nm0] at z;cases z),(λ_ z=>by rw [vn] at z;cases z),λ_ _=>⟨(λz=>by rw [vr] at z;cases z),λv e=>?_⟩⟩))))⟩⟩
 rw [vr] at e
 cases e
 refine ⟨r,hs,rfl,r4,ok,(λz=>absurd z (by have:=A4.sb.2.1;lia)),λ_=>⟨(sm b2 (by have:=A4.sb.2.1;lia) (by have:=A4.sb.2.2.1;lia)).mono (by decide),(λz=>absurd z (by have:=A4.sb.2.2.2.2;lia)),λ_=>⟨(λz=>absurd hB.2.1.2.2.2 z),λ_ H5 w5 t5 wd5=>?_⟩⟩⟩
 obtain ⟨y2,tp5,_,_,_,_,_,h5,_,_,_,_,wk5,kb5⟩:=wd5
 have A5:=A4.kb h4 kb5 qd pd
 have r5:=ug h4 rf2 kb5 r4 ok
 have wa5:=qkv h4 kb5 wk4
 have rf3:=rf2.add tp5
 rw [jw _ vn] at h5
 have h5:Hse qq H5 x dr dw dd _ (W2 c0 c1 y1 y2) _:=h5
 clear A4 h4 hx kb5 r4 wk4
 obtain ⟨dx,hx⟩:=h5.ob
 have v1:∀y1 y2,xv (W2 c0 c1 y1 y2) (.inr (wn c1))=some (.ref y1):=λ_ _=>Wj
 have v0:∀y1 y2,xv (W2 c0 c1 y1 y2) (.inr (wn c0))=some (.ref y2):=λ_ _=>by
  unfold W2
  rw [qv7 ne10]
  exact Wj
 have p1':∀y1 y2 y,zf (W2 c0 c1 y1 y2) (.inr (wn c1)) (.ref y)=W2 c0 c1 y y2:=λ_ _ _=>put_hd λkv hkv=>by
  rw [au.mp hkv]
  exact ne10.symm
 have p0':∀y1 y2 y,zf (W2 c0 c1 y1 y2) (.inr (wn c0)) (.ref y)=W2 c0 c1 y1 y:=λ_ _ _=>put_tl ne10
 have tmA:TmOk [([.inl (wp t1 b1).1,.inl (wp t1 b1).2],.int 1)]:=TmOk.one hA.rng.1 hA.rng.2.1 hA.rng.2.2.1 hA.rng.2.2.2
 have tmB:TmOk [([.inl (wp t2 b2).1,.inl (wp t2 b2).2],.int 1)]:=TmOk.one hB.rng.1 hB.rng.2.1 hB.rng.2.2.1 hB.rng.2.2.2
 have wi:∀z,0≤z→z≤S+M→Within z 0 (some F60):=λz z1 z2=>⟨z1,λb e=>by cases e;lia⟩
 have it:∀(pt:Int×Int),itP hs (itP hs pt S.toNat) M.toNat=itP hs pt (S+M).toNat:=λpt=>by
  rw [show (S+M).toNat=S.toNat+M.toNat by lia]
  exact qvy S.toNat M.toNat
 have hit:∀ {pt:Int×Int},HPt hs pt→∀n,HPt hs (itP hs pt n):=λh n=>h.it n
 refine exI rfl ⟨x,dx,exI rfl ⟨hx,x8 (by decide +kernel) (by decide +kernel) (by decide +kernel),exI rfl (exX rfl rfl (SqL.of A5.nm) (xt (j:=1) rfl) (exI rfl ⟨x,dr,dw,dd,_,_,_,wn c1,S,rfl,h5,(show 1≤1000 by decide),(show 2≤1000 by decide),(show 3≤1000000 by decide),(λe=>by rw [v1] at e;cases e),λv e=>?_⟩))⟩⟩
 rw [v1] at e
 cases e
 refine ⟨y1,wn c0,w4,wp t1 b1,t4,_,r,hs,rfl,wa5,tmA,vr,r5,hA,(λz=>absurd (wi S s0 (by lia)) z),λ_ H6 g1 tm6 tv6 wd6 ok6 _=>?_⟩
 obtain ⟨y1,tp6,_,_,_,_,_,h6,_,_,_,_,wk6,kb6⟩:=wd6
 rw [p1'] at h6
 have A6:=A5.kb h5 kb6 qd pd
 have r6:=ug h5 rf3 kb6 r5 ok
 have wb6:=qkv h5 kb6 wk5
 have rf4:=rf3.add tp6
 clear A5 h5 hx kb6 r5 wk5 wa5
 obtain ⟨dx,hx⟩:=h6.ob
 refine exI rfl ⟨x,dx,exI rfl ⟨hx,x8 (by decide +kernel) (by decide +kernel) (by decide +kernel),exI rfl (exX rfl rfl (SqL.of A6.nm) (xt (j:=1) rfl) (exI rfl ⟨x,dr,dw,dd,_,_,_,wn c1,M,rfl,h6,(show 1≤1000 by decide),(show 2≤1000 by decide),(show 4≤1000000 by decide),(λe=>by rw [v1] at e;cases e),λv e=>?_⟩))⟩⟩
 rw [v1] at e
 cases e
 refine ⟨y1,wn c0,g1,_,tm6,_,r,hs,rfl,wk6,ok6,vr,r6,hit hA _,(λz=>absurd (wi M m0 (by lia)) z),λ_ H7 g2 tm7 tv7 wd7 ok7 _=>?_⟩
 obtain ⟨y1',tp7,_,_,_,_,_,h7,_,_,_,_,wk7,kb7⟩:=wd7
 rw [p1'] at h7
 rw [it] at wk7
 have A7:=A6.kb h6 kb7 qd pd
 have r7:=ug h6 rf4 kb7 r6 ok
 have wb7:=qkv h6 kb7 wb6
 have g17:=qqr h6 kb7 wk6.pt
 have rf5:=rf4.add tp7
 clear A6 h6 hx kb7 r6 wb6 wk6
 obtain ⟨dx,hx⟩:=h7.ob
 refine exI rfl ⟨x,dx,exI rfl ⟨hx,x8 (by decide +kernel) (by decide +kernel) (by decide +kernel),exI rfl (exX rfl rfl (SqL.of A7.nm) (xt (j:=0) rfl) (exI rfl (exI rfl (wr rfl rfl ⟨x,dr,dw,dd,_,_,_,wn c0,S+M,rfl,h7,(show 1≤1000 by decide),(show 2≤1000 by decide),(show 5≤1000000 by decide),(λe=>by rw [v0] at e;cases e),λv e=>?_⟩))))⟩⟩
 rw [v0] at e
 cases e
 refine ⟨y2,wn c0,w5,wp t2 b2,t5,_,r,hs,rfl,wb7,tmB,vr,r7,hB,(λz=>absurd (wi (S+M) (by lia) (by lia)) z),λ_ H8 g3 tm8 tv8 wd8 ok8 _=>?_⟩
 obtain ⟨y2',tp8,_,_,_,_,_,h8,_,_,_,_,wk8,kb8⟩:=wd8
 rw [p0'] at h8
 have A8:=A7.kb h7 kb8 qd pd
 have r8:=ug h7 rf5 kb8 r7 ok
 exact ⟨a,q0,p1,pa,pb,x,dr,dw,dd,r,y1',y2',g1,g2,g3,g2,tm7,tm8,tv7,tv8,_,c0,c1,cr,hs,t1,b1,t2,b2,S,M,rfl,A8,h8,rf5.add tp8,rfl,qd,pd,r8,qkv h7 kb8 wk7,ok7,wk8,ok8,qqr h7 kb8 g17,rfl,k⟩
end
section
variable {P:Ac}{w:Ah}{K:Aa}{mg:Str→Option Ag}{base:Heap}{qc:Aj}{qr:Aj}{qx:Aj}{qm:Aj}{qu:Aj}{wq:Aj}{wy:Aj}{qh:Aj}{wf:Aj}{wx:Aj}{qj:Aj}{qp:Aj}{qw:Aj}{qq:Aj}
def whN (n:Str)(pt:Int×Int):PyData:=.tuple [.str n,ptD pt]
theorem vb {K:Aa}{H:Hp}{n:Str}{q p:Aj}{pt:Int×Int}(h:H q=some (.tup [.str n,.ref p]))(h2:H p=some (.tup [.int pt.1,.int pt.2])):RD K H (whN n pt) (.ref q):=by
 unfold whN
 rw [RD]
 refine ⟨q,exI rfl ⟨SqT.of h,?_⟩⟩
 rw [RDs]
 refine ⟨_,_,rfl,?_,?_⟩
 ·rw [RD]
 ·rw [RDs]
  exact ⟨_,_,rfl,Z7 (SqT.of h2),by rw [RDs]⟩
theorem uf (n:Str)(pt:Int×Int):PyData.eqv (whN n pt) (whN n pt)=true:=by
 unfold whN
 rw [PyData.eqv,PyData.eqvAll,PyData.eqvAll,PyData.eqvAll,qw0,aP rfl,PyData.eqv]
 simp
theorem jk {n:Str}(h:PyData.strOk n=true)(pt:Int×Int):(whN n pt).canLay0=true:=by
 simp [whN,ptD,PyData.canLay0,PyData.canLayAll0,h]
theorem qqh (n:Str)(pt:Int×Int):min (whN n pt).depth (whN n pt).depth≤60:=by
 simp [whN,ptD,PyData.depth,PyData.depthAll]
theorem Qz {A B:Prop}{d e:PyData}(h:PyData.eqv d e=true)(k:B):if (if true=true then !PyData.eqv d e else PyData.eqv d e)=true then A else B:=by
 rw [h]
 exact k
def Y4 (n:Str)(pt:Int×Int)(n':Str)(pt':Int×Int):PyData:=.list [whN n pt,whN n' pt']
theorem qwq {K:Aa}{H:Hp}{n n':Str}{l a b:Aj}{pt pt':Int×Int}(h:H l=some (.lst [.ref a,.ref b]))(ha:RD K H (whN n pt) (.ref a))(hb:RD K H (whN n' pt') (.ref b)):RD K H (Y4 n pt n' pt') (.ref l):=by
 unfold Y4
 rw [RD]
 refine ⟨l,exI rfl ⟨SqL.of h,?_⟩⟩
 rw [RDs]
 refine ⟨_,_,rfl,ha,?_⟩
 rw [RDs]
 exact ⟨_,_,rfl,hb,by rw [RDs]⟩
theorem qk0 (n:Str)(pt:Int×Int)(n':Str)(pt':Int×Int):PyData.eqv (Y4 n pt n' pt') (Y4 n pt n' pt')=true:=by
 unfold Y4
 rw [PyData.eqv,PyData.eqvAll,PyData.eqvAll,PyData.eqvAll,uf,uf]
 rfl
theorem qkr {n n':Str}(h:PyData.strOk n=true)(h':PyData.strOk n'=true)(pt pt':Int×Int):(Y4 n pt n' pt').canLay0=true:=by
 have a:=jk h pt
 have b:=jk h' pt'
 simp [Y4,PyData.canLay0,PyData.canLayAll0,a,b]
theorem qkj (n:Str)(pt:Int×Int)(n':Str)(pt':Int×Int):min (Y4 n pt n' pt').depth (Y4 n pt n' pt').depth≤60:=by
 simp [Y4,whN,ptD,PyData.depth,PyData.depthAll]
theorem u8 {cs:List Nat}(h:qvu cs):PyData.strOk (wn cs)=true:=by
 unfold PyData.strOk wn
 simp only [List.all_toArray]
 exact bq.mpr λc hc=>aP (by have:=h c hc;lia)
theorem wxz {u v:Str}(ne:u≠v){ms:List Str}(pm:ms.Perm [u,v])(srt:ms.Pairwise (λx y=>¬ y.cps.toList<x.cps.toList)):(ms=[u,v]∧¬ v.cps.toList<u.cps.toList)∨(ms=[v,u]∧¬ u.cps.toList<v.cps.toList):=by
 have hl:ms.length=2:=pm.length_eq
 match ms,hl with
 |[a,b],_ =>
  have ha:a=u∨a=v:=by simpa using pm.mem_iff.mp (show a∈[a,b] by simp)
  have hb:b=u∨b=v:=by simpa using pm.mem_iff.mp (show b∈[a,b] by simp)
  have nd:a≠b:=by
   have:=pm.nodup_iff.mpr (show [u,v].Nodup by simpa using ne)
   simpa using this
  have s:=(cP.mp srt).1 b (by simp)
  rcases ha with rfl|rfl <;> rcases hb with rfl|rfl
  ·exact absurd rfl nd
  ·exact .inl ⟨rfl,s⟩
  ·exact .inr ⟨rfl,s⟩
  ·exact absurd rfl nd
def TailD (C CW:Aj)(D:Ends)(σ:St)(H:Hp):Prop:=∃(a q0 p1 pa pb x dr dw dd y1 y2 f1 f2 f3 l u v w1 w2 tm1 tm2:Aj) (z:Option V) (tv1 tv2:List (List Key×V)) (R W:List (Key×V)) (Ds:List V) (c0 c1:List Nat) (cr:List (List Nat)) (hs:List Int) (t1 b1 t2 b2 S M:Int),σ=[some (.ref a),some (.ref q0),some (.ref p1),some (.ref pa),some (.ref pb),some (.int S),some (.int M),some (.ref x),some (.ref f1),some (.ref f2),some (.ref f3),z,some (.ref l),none,none,none]∧AtA H q0 p1 pa pb c0 c1 cr hs t1 b1 t2 b2 S M ∧
 Hse C H x dr dw dd R W Ds∧Ds.length=7∧xv W (.inr (wn c1))=some (.ref y1)∧xv W (.inr (wn c0))=some (.ref y2)∧WkAt CW H y1 (wn c0) w1 (itP hs (wp t1 b1) (S+M+M).toNat) tm1 tv1∧WkAt CW H y2 (wn c0) w2 (itP hs (wp t2 b2) (S+M+M).toNat) tm2 tv2∧l≠q0∧l≠p1∧l≠dd ∧
 ((H l=some (.lst [.ref u,.ref v])∧H u=some (.tup [.str (wn c1),.ref w1])∧H v=some (.tup [.str (wn c0),.ref w2])∧¬ (wn c0).cps.toList<(wn c1).cps.toList)∨(H l=some (.lst [.ref u,.ref v])∧H u=some (.tup [.str (wn c0),.ref w2])∧H v=some (.tup [.str (wn c1),.ref w1])∧¬ (wn c1).cps.toList<(wn c0).cps.toList))∧∀H',D.rt (.bl true) H'
theorem WkAt.one {C:Aj}{H:Hp}{y:Aj}{n:Str}{p p':Aj}{pt pt':Int×Int}{t t':Aj}{tv tv':List (List Key×V)}(h:WkAt C H y n p pt t tv)(h':WkAt C H y n p' pt' t' tv'):p'=p:=by
 obtain ⟨dx,e⟩:=h.ob
 obtain ⟨dx',e'⟩:=h'.ob
 rw [e] at e'
 injection e' with e'
 injection e' with _ _ e'
 unfold wF at e'
 simp at e'
 exact e'.1.symm
theorem qkd {CW:Aj}{H:Hp}{ys:List V}{cs:List (Key×V)}{u v c:Str}{hs:List Int}{m:Nat}{ps:Str→Int×Int}{tvs:Str→List (List Key×V)}{ss:List Str}{wh:Str→Str}(ec:cs.map (·.1)=[.inr u,.inr v])(hG:∀kv∈cs,∃s,s∈ss∧wh s=c∧kv.1=.inr s∧GoneAt CW hs m c ps tvs s kv.2 H)(ly:ys.length=cs.length)
  (hy:∀(j:Nat) (v:V),ys[j]?=some v→∃kv a y p pt t tv,cs[j]?=some kv∧v=.ref a∧H a=some (.tup [kV kv.1,.ref p])∧kv.2=.ref y∧WkAt CW H y c p pt t tv) :
  ∃yu yv a b wu wv tmu tmv tvu tvv,cs=[(.inr u,.ref yu),(.inr v,.ref yv)]∧ys=[.ref a,.ref b]∧WkAt CW H yu c wu (itP hs (ps u) m) tmu tvu∧WkAt CW H yv c wv (itP hs (ps v) m) tmv tvv∧H a=some (.tup [.str u,.ref wu])∧H b=some (.tup [.str v,.ref wv]):=by
 match cs,ec,ys,ly with
 |[(k1,v1),(k2,v2)],ec,[z1,z2],_ =>
  have e1:k1=.inr u:=by injection ec
  have e2:k2=.inr v:=by
   injection ec with _ ec
   injection ec
  subst e1 e2
  obtain ⟨s1,_,_,q1,g1⟩:=hG (.inr u,v1) (by simp)
  obtain ⟨s2,_,_,q2,g2⟩:=hG (.inr v,v2) (by simp)
  have q1:u=s1:=by injection q1
  have q2:v=s2:=by injection q2
  subst q1 q2
  obtain ⟨yu,wu,tmu,tvu,ev1,wk1,_⟩:=g1
  obtain ⟨yv,wv,tmv,tvv,ev2,wk2,_⟩:=g2
  cases ev1
  cases ev2
  obtain ⟨kv,a,y,p,pt,t,tv,ek,ez,ha,ey,wk⟩:=hy 0 z1 rfl
  cases ek
  cases ez
  cases ey
  obtain ⟨kv,b,y',p',pt',t',tv',ek,ez,hb,ey,wk'⟩:=hy 1 z2 rfl
  cases ek
  cases ez
  cases ey
  have n1:=wk1.one wk
  have n2:=wk2.one wk'
  subst n1 n2
  exact ⟨yu,yv,a,b,_,_,tmu,tmv,tvu,tvv,rfl,rfl,wk1,wk2,ha,hb⟩
theorem qur {W:List (Key×V)}{u v:Str}(ne:u≠v){yu yv:Aj}:xv (exK W [(.inr u,.ref yu),(.inr v,.ref yv)]) (.inr u)=some (.ref yu)∧xv (exK W [(.inr u,.ref yu),(.inr v,.ref yv)]) (.inr v)=some (.ref yv):=by
 have e:exK W [(.inr u,.ref yu),(.inr v,.ref yv)]=zf (zf W (.inr u) (.ref yu)) (.inr v) (.ref yv):=by
  unfold exK
  rw [dt,dt,List.foldl_nil]
  unfold ex1
  rw [aj (λz=>by cases z),aj (λz=>by cases z)]
 rw [e,yz,yz,yz,aj (λz=>ne (by injection z)),ak rfl,ak rfl]
 exact ⟨rfl,rfl⟩
set_option maxHeartbeats 0 in
theorem qyk {f:Aj}{cdv:Ag}{A:Ae}{outer:List Env}{s:Ab}{H:Hp}{E:XK}(T:Txt K mg qc qr qx qm qu wq wy qh wf wx qj qp qw qq)(c__law_point:Cal P w K mg base "_law_point" 2 (W8 K))(c__law_led:Cal P w K mg base "_law_led" 3 (Zg K))(c_where:MCal P w K mg base qq "where" 2 (uu qq qw qj))(c_together:MCal P w K mg base qq "together" 8 (qkz qq qp qw wx qu))
  (hr:Room 9 (A.deeper (PyProof.Rows.envOfC "law" (wb s_law) s.heap.objs.size f cdv))) {rest rest18:List Stmt} (h14:(wz s_law).drop 14=rest) (h18:(wz s_law).drop 18=rest18) (hD:PSs (Qq (CXE P w) P w K mg base ["_law_script","_law_names_here","_law_heights_here","_law_one","_law_two","_law_some","_law_more","_law_house","_law_first","_law_second","_law_third","_law_found","_law_told","_law_left","_law_right","_law_due"] "law" (wb s_law) f cdv A outer s H E) rest18 (TailD qq qw)) :
  PSs (Qq (CXE P w) P w K mg base ["_law_script","_law_names_here","_law_heights_here","_law_one","_law_two","_law_some","_law_more","_law_house","_law_first","_law_second","_law_third","_law_found","_law_told","_law_left","_law_right","_law_due"] "law" (wb s_law) f cdv A outer s H E) rest (TailB qq qp qw):=by
 have sc:=qwf
 have e14:(wz s_law).drop 14=(wz s_law)[14]'(by decide +kernel)::(wz s_law).drop 15:=ah (by decide +kernel)
 have e15:(wz s_law).drop 15=(wz s_law)[15]'(by decide +kernel)::(wz s_law).drop 16:=ah (by decide +kernel)
 have e16:(wz s_law).drop 16=(wz s_law)[16]'(by decide +kernel)::(wz s_law).drop 17:=ah (by decide +kernel)
 have e17:(wz s_law).drop 17=(wz s_law)[17]'(by decide +kernel)::(wz s_law).drop 18:=ah (by decide +kernel)
 rw [←h14,e14,e15,e16,e17,h18]
 clear e14 e15 e16 e17 h14 h18
 refine qws (qk (uz aY rfl (qwb (uq (ww (pv 8) (ww (pv 9) (ww (pv 10) qz))))) (xp (i:=11) sc.nd rfl (by walk_at "loc")) (wj (x9 (uw (y8 (wm c__law_point (hr.mono (by decide)) rfl qf (ww (pv 11) qz)))) (wj (w8 Wc)) xx)))
   (qk (x9 (PW.pt (jy (w6 (Zh hr.units) (pv 8) (wm c__law_led (hr.mono (by decide)) rfl qf (ww (pv 2) (ww (pv 3) (ww (pv 5) qz)))) (w9 _)) (jz (w6 (Zh hr.units) (pv 9) (wm c__law_led (hr.mono (by decide)) rfl qf (ww (pv 2) (ww (pv 3) (zj (wg xz (pv 5) (pv 6)) qz)))) (w9 _))))) (wj (w8 Wc)) xx)
   (qk (x9 (PW.pt (jy (w6 (Zh hr.units) (pv 10) (wm c__law_led (hr.mono (by decide)) rfl qf (ww (pv 2) (ww (pv 4) (zj (wg xz (pv 5) (pv 6)) qz)))) (w9 _)) (jz (w6 (Zh hr.units) (xb (pv 7) T.clH c_where (hr.mono (by decide)) qf (zv (xm xk (pv 1) qy (λ_ _=>rfl)) qz)) (z9 (zv (xm xk (pv 1) qy (λ_ _=>rfl)) (ww (pv 10) qz))) (w9 _))))) (wj (w8 Wc)) xx)
   (qk (wt (i:=12) sc.nd rfl (by walk_at "loc") (xb (pv 7) T.clH c_together (hr.mono (by decide)) qf (zv (xm xk (pv 1) qy (λ_ _=>rfl)) (ww (pv 6) qz))))
   hD)))) ?_
 rintro D σ H0 ⟨a,q0,p1,pa,pb,x,dr,dw,dd,r,y1,y2,f1,fx,f3,f2,tm1,tm2,tv1,tv2,Ds,c0,c1,cr,hs,t1,b1,t2,b2,S,M,rfl,A0,hh,rf,lD,qd,pd,hR,wk1,ok1,wk2,ok2,g1,rfl,k⟩
 have ne10:(Sum.inr (wn c1):Key)≠.inr (wn c0):=λz=>A0.ne (Qj (by injection z)).symm
 have nes:wn c1≠wn c0:=λz=>A0.ne (Qj z).symm
 have so0:=u8 A0.n0.1
 have so1:=u8 A0.n1.1
 have ok:=A0.ok
 have s0:=A0.s0
 have m0:=A0.m0
 have smx:=A0.sm
 have hA:=A0.sa.hpt ok
 have hB:=A0.sb.hpt ok
 have ptA:=λn=>(hA.it n).2.1
 have ptB:=λn=>(hB.it n).2.1
 have v1:xv (W2 c0 c1 y1 y2) (.inr (wn c1))=some (.ref y1):=Wj
 have v0:xv (W2 c0 c1 y1 y2) (.inr (wn c0))=some (.ref y2):=by
  unfold W2
  rw [qv7 ne10]
  exact Wj
 have vr:xv [((Sum.inr (wn c0):Key),V.ref r)] (.inr (wn c0))=some (.ref r):=Wj
 refine exI rfl (exI rfl (exI rfl ⟨(show 3≤sizeLine by decide),λl nl=>⟨l,rfl,⟨_,SqL.new⟩,?_⟩⟩))
 have s1:=Same.upd (H:=H0) (o:=.lst [.ref f1,.ref f2,.ref f3]) nl
 have fl1:upd H0 l (.lst [.ref f1,.ref f2,.ref f3]) l=some (.lst [.ref f1,.ref f2,.ref f3]):=qt
 generalize upd H0 l (.lst [.ref f1,.ref f2,.ref f3])=H1 at s1 fl1
 have A1:=A0.same s1
 have h1:=hh.same s1
 have k1:=wk1.same s1
 have k2:=wk2.same s1
 have g11:=s1 _ _ g1
 have R1:=hR.same s1
 clear A0 hh wk1 wk2 g1 hR s1
 refine wwv (K:=K) (a:=l) (xs:=[.ref f1,.ref f2,.ref f3]) (λj σ H'=>H'=H1∧∃z,σ=[some (.ref a),some (.ref q0),some (.ref p1),some (.ref pa),some (.ref pb),some (.int S),some (.int M),some (.ref x),some (.ref f1),some (.ref f2),some (.ref f3),z,none,none,none,none]) ⟨rfl,_,rfl⟩ ?_ ?_ ?_
 ·rintro j σ H' hj ⟨rfl,_⟩
  exact SqL.of fl1
 ·rintro j v σ H' ev ⟨rfl,z,rfl⟩
  have hp:∃(p:Aj) (pt:Int×Int),v=.ref p∧H' p=some (.tup [.int pt.1,.int pt.2])∧1≤pt.2∧gOf pt.1 pt.2=1:=by
   have hv:v=.ref f1∨v=.ref f2∨v=.ref f3:=by simpa using aZ ev
   rcases hv with rfl|rfl|rfl
   ·exact ⟨f1,exI rfl ⟨g11,(ptA _).1,(ptA _).2.2.1⟩⟩
   ·exact ⟨f2,exI rfl ⟨k1.pt,(ptA _).1,(ptA _).2.2.1⟩⟩
   ·exact ⟨f3,exI rfl ⟨k2.pt,(ptB _).1,(ptB _).2.2.1⟩⟩
  obtain ⟨p,pt,rfl,fp,p1',p2'⟩:=hp
  exact exI rfl ⟨p,pt.1,pt.2,rfl,fp,p1',p2',_,rfl,yw ⟨rfl,_,rfl⟩⟩
 rintro σ H' ⟨rfl,z,rfl⟩
 clear fl1
 obtain ⟨sa1,sa2,sa3,sa4,sa5⟩:=A1.sa
 obtain ⟨sb1,sb2,sb3,sb4,sb5⟩:=A1.sb
 refine exI rfl (exI rfl (exI rfl (exI rfl ⟨p1,pa,hs,t1,b1,S,rfl,SqL.of A1.hp,ok,sa1,sa2,sa3,sa4,sa5,s0,λq2 H2 s2 fq2=>?_⟩)))
 refine ⟨_,_,Z7 (q:=itP hs (wp t1 b1) S.toNat) (SqT.of (s2 _ _ g11)),Z7 (q:=itP hs (wp t1 b1) S.toNat) (SqT.of fq2),rfl,rfl,qvb,_,rfl,Qz (by rw [qw0];exact aP rfl) ?_⟩
 have A2:=A1.same s2
 refine ⟨_,rfl,_,rfl,_,rfl,_,rfl,_,rfl,_,_,rfl,rfl,p1,pa,hs,t1,b1,S+M,rfl,SqL.of A2.hp,ok,A2.sa.1,sa2,sa3,sa4,sa5,by lia,λq3 H3 s3 fq3=>?_⟩
 have s23:=s2.trans s3
 refine ⟨_,_,Z7 (q:=itP hs (wp t1 b1) (S+M).toNat) (SqT.of (s23 _ _ k1.pt)),Z7 (q:=itP hs (wp t1 b1) (S+M).toNat) (SqT.of fq3),rfl,rfl,qvb,_,rfl,Qz (by rw [qw0];exact aP rfl) ?_⟩
 have A3:=A1.same s23
 clear A2 s2 s3 fq2 fq3
 refine ⟨_,rfl,_,rfl,_,rfl,_,rfl,_,rfl,_,_,rfl,rfl,p1,pb,hs,t2,b2,S+M,rfl,SqL.of A3.hp,ok,A3.sb.1,sb2,sb3,sb4,sb5,by lia,λq4 H4 s4' fq4=>?_⟩
 have s4:=s23.trans s4'
 refine ⟨_,_,Z7 (q:=itP hs (wp t2 b2) (S+M).toNat) (SqT.of (s4 _ _ k2.pt)),Z7 (q:=itP hs (wp t2 b2) (S+M).toNat) (SqT.of fq4),rfl,rfl,qvb,_,rfl,Qz (by rw [qw0];exact aP rfl) ?_⟩
 have A4:=A1.same s4
 have h4:=h1.same s4
 have k24:=k2.same s4
 obtain ⟨dx,hx⟩:=h4.ob
 refine exI rfl ⟨x,dx,exI rfl ⟨hx,x8 (by decide +kernel) (by decide +kernel) (by decide +kernel),exI rfl (exX rfl rfl (SqL.of A4.nm) (xt (j:=0) rfl) ⟨x,dr,dw,dd,_,_,_,wn c0,rfl,h4,(λe=>by rw [v0] at e;cases e),λv e=>?_⟩)⟩⟩
 rw [v0] at e
 cases e
 refine ⟨y2,wn c0,f3,_,tm2,tv2,rfl,k24,λq5 n5=>?_⟩
 have s5':=Same.upd (H:=H4) (o:=.tup [.str (wn c0),.ref f3]) n5
 have f5:upd H4 q5 (.tup [.str (wn c0),.ref f3]) q5=some (.tup [.str (wn c0),.ref f3]):=qt
 generalize upd H4 q5 (.tup [.str (wn c0),.ref f3])=H5 at s5' f5
 have A5:=A4.same s5'
 refine exI rfl (exX rfl rfl (SqL.of A5.nm) (xt (j:=0) rfl) (exI rfl ⟨sz2,λq6 n6=>?_⟩))
 have s6':=Same.upd (H:=H5) (o:=.tup [.str (wn c0),.ref f3]) n6
 have f6:upd H5 q6 (.tup [.str (wn c0),.ref f3]) q6=some (.tup [.str (wn c0),.ref f3]):=qt
 generalize upd H5 q6 (.tup [.str (wn c0),.ref f3])=H6 at s6' f6
 have s56:=s5'.trans s6'
 refine ⟨_,_,vb (s6' _ _ f5) (s56 _ _ k24.pt),vb f6 (s56 _ _ k24.pt),jk so0 _,jk so0 _,qqh _ _,_,rfl,Qz (uf _ _) ?_⟩
 have s6:=s4.trans s56
 have A6:=A1.same s6
 have h6:=h1.same s6
 have k16:=k1.same s6
 have k26:=k2.same s6
 have R6:=R1.same s6
 clear A1 A3 A4 A5 h1 h4 k1 k2 k24 R1 s6 s56 s6' s5' s4 s4' s23 hx fq4 f5 f6 g11
 obtain ⟨dx,hx⟩:=h6.ob
 refine exI rfl ⟨x,dx,exI rfl ⟨hx,x8 (by decide +kernel) (by decide +kernel) (by decide +kernel),exI rfl (exX rfl rfl (SqL.of A6.nm) (xt (j:=0) rfl) (exI rfl ⟨x,dr,dw,dd,_,_,_,wn c0,M,rfl,h6,(show 1≤1000 by decide),(by lia),(λe=>by rw [vr] at e;cases e),λv e=>?_⟩))⟩⟩
 rw [vr] at e
 cases e
 have hit:∀(pt:Int×Int),itP hs (itP hs pt (S+M).toNat) M.toNat=itP hs pt (S+M+M).toNat:=λpt=>by
  rw [show (S+M+M).toNat=(S+M).toNat+M.toNat by lia]
  exact qvy _ _
 refine ⟨r,hs,rfl,R6,(λz=>absurd ⟨m0,λb e=>by cases e;unfold F60 at smx;lia⟩ z),λ_=>⟨[wn c1,wn c0],λ_=>wn c0,λs=>if s=wn c1 then itP hs (wp t1 b1) (S+M).toNat else itP hs (wp t2 b2) (S+M).toNat,λs=>if s=wn c1 then tv1 else tv2,⟨rfl,(show 2<64 by decide),by simpa using nes,λs hs'=>?_⟩,λs hs' _=>?_,λH7 l7 cs ms ys pm srt gd ec hG nl7 fl7 ly hy=>?_⟩⟩
 ·have hs':s=wn c1∨s=wn c0:=by simpa using hs'
  rcases hs' with rfl|rfl
  ·dsimp only
   rw [ak rfl,ak rfl]
   exact ⟨ok1,y1,f2,tm1,v1,k16⟩
  ·dsimp only
   rw [aj nes.symm,aj nes.symm]
   exact ⟨ok2,y2,f3,tm2,v0,k26⟩
 ·dsimp only
  split
  ·exact hA.it _
  ·exact hB.it _
 obtain ⟨tp,d1,d2,ntp,_,_,h7,_,_,_,_,kb⟩:=gd
 have A7:=A6.kb h6 kb qd pd
 have nlq:l7≠q0:=λz=>by rw [z,A6.nm] at nl7;cases nl7
 have nlp:l7≠p1:=λz=>by rw [z,A6.hp] at nl7;cases nl7
 have nld:l7≠dd:=λz=>by rw [z,h6.d] at nl7;cases nl7
 have lD7:(Ds++[V.ref tp]).length=7:=by rw [aU,lD];rfl
 rcases wxz nes pm srt with ⟨rfl,o⟩|⟨rfl,o⟩
 ·obtain ⟨yu,yv,a',b',wu,wv,tmu,tmv,tvu,tvv,rfl,rfl,ka,kb',ha,hb⟩:=qkd (u:=wn c1) (v:=wn c0) (ec.trans (by simp)) hG ly hy
  rw [ak rfl,hit] at ka
  rw [aj nes.symm,hit] at kb'
  have ev:=qur (W:=W2 c0 c1 y1 y2) nes (yu:=yu) (yv:=yv)
  exact ⟨a,q0,p1,pa,pb,x,dr,dw,dd,yu,yv,f1,f2,f3,l7,a',b',wu,wv,tmu,tmv,z,tvu,tvv,_,_,_,c0,c1,cr,hs,t1,b1,t2,b2,S,M,rfl,A7,h7,lD7,ev.1,ev.2,ka,kb',nlq,nlp,nld,.inl ⟨fl7,ha,hb,o⟩,k⟩
 ·obtain ⟨yu,yv,a',b',wu,wv,tmu,tmv,tvu,tvv,rfl,rfl,ka,kb',ha,hb⟩:=qkd (u:=wn c0) (v:=wn c1) (ec.trans (by simp)) hG ly hy
  rw [aj nes.symm,hit] at ka
  rw [ak rfl,hit] at kb'
  have ev:=qur (W:=W2 c0 c1 y1 y2) nes.symm (yu:=yu) (yv:=yv)
  exact ⟨a,q0,p1,pa,pb,x,dr,dw,dd,yv,yu,f1,f2,f3,l7,a',b',wv,wu,tmv,tmu,z,tvv,tvu,_,_,_,c0,c1,cr,hs,t1,b1,t2,b2,S,M,rfl,A7,h7,lD7,ev.2,ev.1,kb',ka,nlq,nlp,nld,.inr ⟨fl7,ha,hb,o⟩,k⟩
end
section
variable {P:Ac}{w:Ah}{K:Aa}{mg:Str→Option Ag}{base:Heap}{qc:Aj}{qr:Aj}{qx:Aj}{qm:Aj}{qu:Aj}{wq:Aj}{wy:Aj}{qh:Aj}{wf:Aj}{wx:Aj}{qj:Aj}{qp:Aj}{qw:Aj}{qq:Aj}
theorem iteC {c A B:Prop}[Decidable c](h1:c→A)(h2:¬ c→B):if decide c=true then A else B:=by
 by_cases h:c
 ·rw [ak (aP h)];exact h1 h
 ·rw [aj (by simpa using h)];exact h2 h
theorem wx7 {A B:Prop}{d e:PyData}(h:PyData.eqv d e=true)(k:A):if (if false=true then !PyData.eqv d e else PyData.eqv d e)=true then A else B:=by
 rw [h]
 exact k
set_option maxHeartbeats 0 in
theorem qjw {f:Aj}{cdv:Ag}{A:Ae}{outer:List Env}{s:Ab}{H:Hp}{E:XK}(T:Txt K mg qc qr qx qm qu wq wy qh wf wx qj qp qw qq)(c__law_led:Cal P w K mg base "_law_led" 3 (Zg K))(c_where:MCal P w K mg base qq "where" 2 (uu qq qw qj))(c_deeds:MCal P w K mg base qq "deeds" 1 (W6 qq))
  (hr:Room 9 (A.deeper (PyProof.Rows.envOfC "law" (wb s_law) s.heap.objs.size f cdv))) {rest18:List Stmt} (h18:(wz s_law).drop 18=rest18) :
  PSs (Qq (CXE P w) P w K mg base ["_law_script","_law_names_here","_law_heights_here","_law_one","_law_two","_law_some","_law_more","_law_house","_law_first","_law_second","_law_third","_law_found","_law_told","_law_left","_law_right","_law_due"] "law" (wb s_law) f cdv A outer s H E) rest18 (TailD qq qw):=by
 have sc:=qwf
 have e18:(wz s_law).drop 18=(wz s_law)[18]'(by decide +kernel)::(wz s_law).drop 19:=ah (by decide +kernel)
 have e19:(wz s_law).drop 19=(wz s_law)[19]'(by decide +kernel)::(wz s_law).drop 20:=ah (by decide +kernel)
 have e20:(wz s_law).drop 20=(wz s_law)[20]'(by decide +kernel)::(wz s_law).drop 21:=ah (by decide +kernel)
 have e21:(wz s_law).drop 21=(wz s_law)[21]'(by decide +kernel)::(wz s_law).drop 22:=ah (by decide +kernel)
 have e22:(wz s_law).drop 22=(wz s_law)[22]'(by decide +kernel)::(wz s_law).drop 23:=ah (by decide +kernel)
 have e23:(wz s_law).drop 23=(wz s_law)[23]'(by decide +kernel)::(wz s_law).drop 24:=ah (by decide +kernel)
 have e24:(wz s_law).drop 24=(wz s_law)[24]'(by decide +kernel)::(wz s_law).drop 25:=ah (by decide +kernel)
 have e25:(wz s_law).drop 25=[]:=List.drop_eq_nil_of_le (by decide +kernel)
 rw [←h18,e18,e19,e20,e21,e22,e23,e24,e25]
 clear e18 e19 e20 e21 e22 e23 e24 e25 h18
 refine qws (qk (wt (i:=13) sc.nd rfl (by walk_at "loc") (wm c__law_led (hr.mono (by decide)) rfl qf (ww (pv 2) (ww (pv 3) (zj (wg xz (wg xz (pv 5) (pv 6)) (pv 6)) qz)))))
   (qk (wt (i:=14) sc.nd rfl (by walk_at "loc") (wm c__law_led (hr.mono (by decide)) rfl qf (ww (pv 2) (ww (pv 4) (zj (wg xz (wg xz (pv 5) (pv 6)) (pv 6)) qz)))))
   (qk (wt (i:=15) sc.nd rfl (by walk_at "loc") (uq (qzg (z9 (zv (xm xk (pv 1) qy (λ_ _=>rfl)) (ww (pv 14) qz))) (qzg (z9 (zv (xm xk (pv 1) qy (λ_ _=>rfl)) (ww (pv 13) qz))) qz))))
   (u9 (x9 (w6 qjb (xm xk (pv 1) qy (λ_ _=>rfl)) (xm xk (pv 1) qy (λ_ _=>rfl)) (w9 _)) (wj (wt (i:=15) sc.nd rfl (by walk_at "loc") (uq (qzg (z9 (zv (xm xk (pv 1) qy (λ_ _=>rfl)) (ww (pv 13) qz))) (qzg (z9 (zv (xm xk (pv 1) qy (λ_ _=>rfl)) (ww (pv 14) qz))) qz))))) xx)
   (qk (x9 (PW.pt (jy (uw (y8 (xq jv rfl T.isinstance_ bI (ww (pv 12) (ww (Zq (v:=V.ty "list") rfl T.list_ cg rfl) qz))))) (jy (w6 (Zh hr.units) (pv 12) (pv 15) (w9 _)) (jz (w6 op_ne (yf (pv 7) T.clH c_deeds (hr.mono (by decide)) qf) qy (w9 _)))))) (wj (w8 Wc)) xx)
   (qk (zd (qxk bG bz bA vh (pv 12) (xy qy qz)))
   (wj (w8 (qv9 (yy (qup hr.units) (xb (pv 7) T.clH c_where (hr.mono (by decide)) qf (zv (xm xk (pv 1) qy (λ_ _=>rfl)) qz)) (z9 (zv (xm xk (pv 1) qy (λ_ _=>rfl)) (ww (pv 13) qz))) (w9 _)) (qvn (yy (qup hr.units) (xb (pv 7) T.clH c_where (hr.mono (by decide)) qf (zv (xm xk (pv 1) qy (λ_ _=>rfl)) qz)) (z9 (zv (xm xk (pv 1) qy (λ_ _=>rfl)) (ww (pv 14) qz))) (w9 _)))))))))))) ?_
 rintro D σ H0 ⟨a,q0,p1,pa,pb,x,dr,dw,dd,y1,y2,f1,f2,f3,l,u,v,w1,w2,tm1,tm2,z,tv1,tv2,R,W,Ds,c0,c1,cr,hs,t1,b1,t2,b2,S,M,rfl,A0,h0,lD,v1,v0,k1,k2,nlq,nlp,nld,ho,k⟩
 have so0:=u8 A0.n0.1
 have so1:=u8 A0.n1.1
 have ok:=A0.ok
 have s0:=A0.s0
 have m0:=A0.m0
 obtain ⟨sa1,sa2,sa3,sa4,sa5⟩:=A0.sa
 obtain ⟨sb1,sb2,sb3,sb4,sb5⟩:=A0.sb
 refine ⟨_,rfl,_,rfl,_,rfl,_,rfl,_,_,rfl,rfl,_,rfl,_,_,rfl,rfl,p1,pa,hs,t1,b1,S+M+M,rfl,SqL.of A0.hp,ok,sa1,sa2,sa3,sa4,sa5,by lia,λq1 H1 s1 fq1=>?_⟩
 have A1:=A0.same s1
 refine ⟨_,rfl,_,rfl,_,rfl,_,rfl,_,_,rfl,rfl,_,rfl,_,_,rfl,rfl,p1,pb,hs,t2,b2,S+M+M,rfl,SqL.of A1.hp,ok,A1.sb.1,sb2,sb3,sb4,sb5,by lia,λq2 H2 s2 fq2=>?_⟩
 have g1:=s2 _ _ fq1
 have A2:=A1.same s2
 have h2:=(h0.same s1).same s2
 have k12:=(k1.same s1).same s2
 have k22:=(k2.same s1).same s2
 have ho2:(H2 l=some (.lst [.ref u,.ref v])∧H2 u=some (.tup [.str (wn c1),.ref w1])∧H2 v=some (.tup [.str (wn c0),.ref w2])∧¬ (wn c0).cps.toList<(wn c1).cps.toList)∨(H2 l=some (.lst [.ref u,.ref v])∧H2 u=some (.tup [.str (wn c0),.ref w2])∧H2 v=some (.tup [.str (wn c1),.ref w1])∧¬ (wn c1).cps.toList<(wn c0).cps.toList):=by
  rcases ho with ⟨a1,a2,a3,a4⟩|⟨a1,a2,a3,a4⟩
  ·exact .inl ⟨s2 _ _ (s1 _ _ a1),s2 _ _ (s1 _ _ a2),s2 _ _ (s1 _ _ a3),a4⟩
  ·exact .inr ⟨s2 _ _ (s1 _ _ a1),s2 _ _ (s1 _ _ a2),s2 _ _ (s1 _ _ a3),a4⟩
 clear ho k1 k2 A0 A1 h0 fq1
 refine exI rfl (exX rfl rfl (SqL.of A2.nm) (xt (j:=0) rfl) (exI rfl ⟨sz2,λq3 n3=>?_⟩))
 have s3:=Same.upd (H:=H2) (o:=.tup [.str (wn c0),.ref q2]) n3
 have f3':upd H2 q3 (.tup [.str (wn c0),.ref q2]) q3=some (.tup [.str (wn c0),.ref q2]):=qt
 generalize upd H2 q3 (.tup [.str (wn c0),.ref q2])=H3 at s3 f3'
 have A3:=A2.same s3
 refine exI rfl (exX rfl rfl (SqL.of A3.nm) (xt (j:=1) rfl) (exI rfl ⟨sz2,λq4 n4=>?_⟩))
 have s4:=Same.upd (H:=H3) (o:=.tup [.str (wn c1),.ref q1]) n4
 have f4:upd H3 q4 (.tup [.str (wn c1),.ref q1]) q4=some (.tup [.str (wn c1),.ref q1]):=qt
 generalize upd H3 q4 (.tup [.str (wn c1),.ref q1])=H4 at s4 f4
 refine ⟨(show 2≤sizeLine by decide),λl5 n5=>?_⟩
 have s5:=Same.upd (H:=H4) (o:=.lst [.ref q3,.ref q4]) n5
 have f5:upd H4 l5 (.lst [.ref q3,.ref q4]) l5=some (.lst [.ref q3,.ref q4]):=qt
 generalize upd H4 l5 (.lst [.ref q3,.ref q4])=H5 at s5 f5
 have s25:=(s3.trans s4).trans s5
 have A5:=A2.same s25
 refine ⟨λσ H'=>∃(dl ua ub:Aj),σ=[some (.ref a),some (.ref q0),some (.ref p1),some (.ref pa),some (.ref pb),some (.int S),some (.int M),some (.ref x),some (.ref f1),some (.ref f2),some (.ref f3),z,some (.ref l),some (.ref q1),some (.ref q2),some (.ref dl)]∧Same H2 H'∧((H' dl=some (.lst [.ref ua,.ref ub])∧H' ua=some (.tup [.str (wn c1),.ref q1])∧H' ub=some (.tup [.str (wn c0),.ref q2])∧(wn c1).cps.toList<(wn c0).cps.toList)∨(H' dl=some (.lst [.ref ua,.ref ub])∧H' ua=some (.tup [.str (wn c0),.ref q2])∧H' ub=some (.tup [.str (wn c1),.ref q1])∧¬ (wn c1).cps.toList<(wn c0).cps.toList)),?_,?_⟩
 ·refine exI rfl (exX rfl rfl (SqL.of A5.nm) (xt (j:=1) rfl) (exI rfl (exX rfl rfl (SqL.of A5.nm) (xt (j:=0) rfl) (wr rfl rfl (exI rfl (iteC (λlt=>?_) (λlt=>?_)))))))
  ·refine exI rfl (exX rfl rfl (SqL.of A5.nm) (xt (j:=1) rfl) (exI rfl ⟨sz2,λq6 n6=>?_⟩))
   have s6:=Same.upd (H:=H5) (o:=.tup [.str (wn c1),.ref q1]) n6
   have f6:upd H5 q6 (.tup [.str (wn c1),.ref q1]) q6=some (.tup [.str (wn c1),.ref q1]):=qt
   generalize upd H5 q6 (.tup [.str (wn c1),.ref q1])=H6 at s6 f6
   have A6:=A5.same s6
   refine exI rfl (exX rfl rfl (SqL.of A6.nm) (xt (j:=0) rfl) (exI rfl ⟨sz2,λq7 n7=>?_⟩))
   have s7:=Same.upd (H:=H6) (o:=.tup [.str (wn c0),.ref q2]) n7
   have f7:upd H6 q7 (.tup [.str (wn c0),.ref q2]) q7=some (.tup [.str (wn c0),.ref q2]):=qt
   generalize upd H6 q7 (.tup [.str (wn c0),.ref q2])=H7 at s7 f7
   refine ⟨(show 2≤sizeLine by decide),λl8 n8=>?_⟩
   have s8:=Same.upd (H:=H7) (o:=.lst [.ref q6,.ref q7]) n8
   exact ⟨l8,q6,q7,rfl,((s25.trans s6).trans s7).trans s8,.inl ⟨qt,s8 _ _ (s7 _ _ f6),s8 _ _ f7,lt⟩⟩
  ·exact ⟨l5,q3,q4,rfl,s25,.inr ⟨f5,s5 _ _ (s4 _ _ f3'),s5 _ _ f4,lt⟩⟩
 rintro σ H6 ⟨dl,ua,ub,rfl,s6,hd⟩
 have A6:=A2.same s6
 have h6:=h2.same s6
 have k16:=k12.same s6
 have k26:=k22.same s6
 have g16:=s6 _ _ g1
 have g26:=s6 _ _ fq2
 have ho6:(H6 l=some (.lst [.ref u,.ref v])∧H6 u=some (.tup [.str (wn c1),.ref w1])∧H6 v=some (.tup [.str (wn c0),.ref w2])∧¬ (wn c0).cps.toList<(wn c1).cps.toList)∨(H6 l=some (.lst [.ref u,.ref v])∧H6 u=some (.tup [.str (wn c0),.ref w2])∧H6 v=some (.tup [.str (wn c1),.ref w1])∧¬ (wn c1).cps.toList<(wn c0).cps.toList):=by
  rcases ho2 with ⟨a1,a2,a3,a4⟩|⟨a1,a2,a3,a4⟩
  ·exact .inl ⟨s6 _ _ a1,s6 _ _ a2,s6 _ _ a3,a4⟩
  ·exact .inr ⟨s6 _ _ a1,s6 _ _ a2,s6 _ _ a3,a4⟩
 have fl:H6 l=some (.lst [.ref u,.ref v]):=by
  rcases ho6 with ⟨a1,_⟩|⟨a1,_⟩ <;> exact a1
 have both:∃d,RD K H6 d (.ref l)∧RD K H6 d (.ref dl)∧d.canLay0=true∧min d.depth d.depth≤60∧PyData.eqv d d=true:=by
  rcases ho6 with ⟨a1,a2,a3,a4⟩|⟨a1,a2,a3,a4⟩ <;> rcases hd with ⟨d1,d2,d3,d4⟩|⟨d1,d2,d3,d4⟩
  ·exact ⟨_,qwq a1 (vb a2 k16.pt) (vb a3 k26.pt),qwq d1 (vb d2 g16) (vb d3 g26),qkr so1 so0 _ _,qkj _ _ _ _,qk0 _ _ _ _⟩
  ·have e:=List.le_antisymm (as:=(wn c0).cps.toList) (bs:=(wn c1).cps.toList) d4 a4
   exact absurd (Qj (by cases h1:wn c0;cases h2:wn c1;rw [h1,h2] at e;simpa using e)) A6.ne
  ·exact absurd d4 a4
  ·exact ⟨_,qwq a1 (vb a2 k26.pt) (vb a3 k16.pt),qwq d1 (vb d2 g26) (vb d3 g16),qkr so0 so1 _ _,qkj _ _ _ _,qk0 _ _ _ _⟩
 obtain ⟨d,r1,r2,ly,dp,eq⟩:=both
 obtain ⟨dx,hx⟩:=h6.ob
 refine exI rfl ⟨_,_,_,_,rfl,TyOf.lst fl,rfl,_,rfl,yw ?_⟩
 refine exI rfl (exI rfl ⟨d,d,r1,r2,ly,ly,dp,_,rfl,Qz eq ?_⟩)
 refine exI rfl ⟨x,dx,exI rfl ⟨hx,x8 (by decide +kernel) (by decide +kernel) (by decide +kernel),x,dr,dw,dd,R,W,Ds,rfl,h6,rfl,_,rfl,iteNDV (λne=>absurd (by rw [lD];rfl) ne) (λ_=>?_)⟩⟩
 refine exI rfl ⟨.inl ⟨rfl,_,SqL.of fl⟩,l,wr rfl rfl ⟨fl,(show 2<sizeLine by decide),?_⟩⟩
 have kb:∀b,b≠l→upd H6 l (.lst ([.ref u,.ref v]++[.int 1])) b=H6 b:=λb n=>wc n
 generalize upd H6 l (.lst ([.ref u,.ref v]++[.int 1]))=H7 at kb
 have kl:Kb [l] H6 H7:=λb o n e=>by rw [kb b (λz=>n (by simp [z]))];exact e
 have nx:∀ {b o},H6 b=some o→(∀L,o≠HO.lst L)→b≠l:=λ{b o} e n z=>by
  rw [z,fl] at e
  cases e
  exact n _ rfl
 have h7:Hse qq H7 x dr dw dd R W Ds:=⟨⟨dx,by rw [kb _ (nx hx (λ_ z=>by cases z))];exact hx⟩,by rw [kb _ (nx h6.r (λ_ z=>by cases z))];exact h6.r,by rw [kb _ (nx h6.w (λ_ z=>by cases z))];exact h6.w,by rw [kb _ nld.symm];exact h6.d,h6.ne⟩
 have k17:=k16.kb kl λb hb=>by
  cases au.mp hb
  exact .inr ⟨_,fl⟩
 have k27:=k26.kb kl λb hb=>by
  cases au.mp hb
  exact .inr ⟨_,fl⟩
 have nm7:H7 q0=_:=(kb _ nlq.symm).trans A6.nm
 have g17:H7 q1=_:=(kb _ (nx g16 (λ_ z=>by cases z))).trans g16
 have g27:H7 q2=_:=(kb _ (nx g26 (λ_ z=>by cases z))).trans g26
 obtain ⟨dx,hx⟩:=h7.ob
 refine exI rfl ⟨x,dx,exI rfl ⟨hx,x8 (by decide +kernel) (by decide +kernel) (by decide +kernel),exI rfl (exX rfl rfl (SqL.of nm7) (xt (j:=1) rfl) ⟨x,dr,dw,dd,_,_,_,wn c1,rfl,h7,(λe=>by rw [v1] at e;cases e),λv e=>?_⟩)⟩⟩
 rw [v1] at e
 cases e
 refine ⟨y1,wn c0,w1,_,tm1,tv1,rfl,k17,λq8 n8=>?_⟩
 have s8:=Same.upd (H:=H7) (o:=.tup [.str (wn c0),.ref w1]) n8
 have f8:upd H7 q8 (.tup [.str (wn c0),.ref w1]) q8=some (.tup [.str (wn c0),.ref w1]):=qt
 generalize upd H7 q8 (.tup [.str (wn c0),.ref w1])=H8 at s8 f8
 refine exI rfl (exX rfl rfl (SqL.of (s8 _ _ nm7)) (xt (j:=0) rfl) (exI rfl ⟨sz2,λq9 n9=>?_⟩))
 have s9':=Same.upd (H:=H8) (o:=.tup [.str (wn c0),.ref q1]) n9
 have f9:upd H8 q9 (.tup [.str (wn c0),.ref q1]) q9=some (.tup [.str (wn c0),.ref q1]):=qt
 generalize upd H8 q9 (.tup [.str (wn c0),.ref q1])=H9 at s9' f9
 have s9:=s8.trans s9'
 refine ⟨_,_,vb (s9' _ _ f8) (s9 _ _ k17.pt),vb f9 (s9 _ _ g17),jk so0 _,jk so0 _,qqh _ _,_,rfl,wx7 (uf _ _) ?_⟩
 have h9:=h7.same s9
 have k29:=k27.same s9
 obtain ⟨dx,hx⟩:=h9.ob
 refine exI rfl ⟨x,dx,exI rfl ⟨hx,x8 (by decide +kernel) (by decide +kernel) (by decide +kernel),exI rfl (exX rfl rfl (SqL.of (s9 _ _ nm7)) (xt (j:=0) rfl) ⟨x,dr,dw,dd,_,_,_,wn c0,rfl,h9,(λe=>by rw [v0] at e;cases e),λv e=>?_⟩)⟩⟩
 rw [v0] at e
 cases e
 refine ⟨y2,wn c0,w2,_,tm2,tv2,rfl,k29,λqa na=>?_⟩
 have sa:=Same.upd (H:=H9) (o:=.tup [.str (wn c0),.ref w2]) na
 have fa:upd H9 qa (.tup [.str (wn c0),.ref w2]) qa=some (.tup [.str (wn c0),.ref w2]):=qt
 generalize upd H9 qa (.tup [.str (wn c0),.ref w2])=Ha at sa fa
 refine exI rfl (exX rfl rfl (SqL.of (sa _ _ (s9 _ _ nm7))) (xt (j:=0) rfl) (exI rfl ⟨sz2,λqb nb=>?_⟩))
 have sb':=Same.upd (H:=Ha) (o:=.tup [.str (wn c0),.ref q2]) nb
 have fb:upd Ha qb (.tup [.str (wn c0),.ref q2]) qb=some (.tup [.str (wn c0),.ref q2]):=qt
 generalize upd Ha qb (.tup [.str (wn c0),.ref q2])=Hb at sb' fb
 have sb:=sa.trans sb'
 refine ⟨_,_,vb (sb' _ _ fa) (sb _ _ k29.pt),vb fb (sb _ _ (s9 _ _ g27)),jk so0 _,jk so0 _,qqh _ _,?_⟩
 have e:=uf (wn c0) (itP hs (wp t2 b2) (S+M+M).toNat)
 show D.rt (.bl (PyData.eqv _ _)) _
 rw [e]
 exact k _
end
section
variable {P:Ac}{w:Ah}{K:Aa}{mg:Str→Option Ag}{base:Heap}{qc:Aj}{qr:Aj}{qx:Aj}{qm:Aj}{qu:Aj}{wq:Aj}{wy:Aj}{qh:Aj}{wf:Aj}{wx:Aj}{qj:Aj}{qp:Aj}{qw:Aj}{qq:Aj}
theorem qk4 {H:Hp}{a:Aj}{hs:List Int}{t b c:Int}(f:H a=some (.tup [.int (t*c),.int (b*c)]))(b1:1≤b)(b2:b≤40)(c1:1≤c)(c2:c≤3)(t0:0≤t)(t1:t≤((hs.length:Int)-1)*b):Spot H a hs (t*c) (b*c):=by
 have e1:1≤b*c:=Int.mul_pos (by lia) (by lia)
 have e2:b*c≤40*3:=Int.mul_le_mul b2 c2 (by lia) (by lia)
 have e3:=qzt (t:=t) b1
 refine ⟨f,e1,by lia,⟨cU t0 (by lia),?_⟩,by rw [qkh b1 c1];lia⟩
 rw [←Int.mul_assoc]
 exact aG t1 (by lia)
theorem wq7:5*(10:Int) ^ (59:Int).toNat+1=500000000000000000000000000000000000000000000000000000000001:=by decide +kernel
theorem sm59:Sm 210 ((10:Int) ^ (59:Int).toNat):=by unfold Sm;decide +kernel
set_option maxHeartbeats 0 in
theorem ok_law {f:Aj}{fd:Ad}(F:Fun K "law" "law" s_law f fd)(T:Txt K mg qc qr qx qm qu wq wy qh wf wx qj qp qw qq)(c__law_cell:Cal P w K mg base "_law_cell" 1 (qwd K))(c__law_pick:Cal P w K mg base "_law_pick" 2 (yx K))(c__law_names:Cal P w K mg base "_law_names" 3 (Yu K))(c__law_heights:Cal P w K mg base "_law_heights" 4 (Qs K))(c__law_spot:Cal P w K mg base "_law_spot" 3 (qwh K))
  (c_House:CCal P w K mg base "House" qq 1 (Ws qq)) (c_lay:MCal P w K mg base qq "lay" 4 (qkn K qq qp qh wf qr)) (c_place:MCal P w K mg base qq "place" 5 (Zz K qq qp qw qh wf wx qx qm)) (c_go:MCal P w K mg base qq "go" 8 (spGo qq qp qw qj qu))
  (c_where:MCal P w K mg base qq "where" 2 (uu qq qw qj)) (c_deeds:MCal P w K mg base qq "deeds" 1 (W6 qq)) (c_together:MCal P w K mg base qq "together" 8 (qkz qq qp qw wx qu)) (c__law_point:Cal P w K mg base "_law_point" 2 (W8 K)) (c__law_led:Cal P w K mg base "_law_led" 3 (Zg K)):FnOk P w K mg base (CXE P w) 10 f fd ["_law_script"] (qkf K):=by
 have sc:=qwf
 refine F.okX sc (λvs H Q E h=>by obtain ⟨a,ns,rfl,_⟩:=h;rfl) (λcdv A outer s H vs Q E hr h=>?_)
 obtain ⟨a,ns,rfl,hS,hl,k⟩:=h
 have big:(1000000:Nat)<sizeLine:=by decide
 have sm:∀z:Int,-(2 ^ 64)≤z→z≤2 ^ 64→Sm 65 z:=λz z1 z2=>Sm.small z1 z2 (by decide)
 have e0:(wz s_law).drop 0=(wz s_law)[0]'(by decide +kernel)::(wz s_law).drop 1:=ah (by decide +kernel)
 have e1:(wz s_law).drop 1=(wz s_law)[1]'(by decide +kernel)::(wz s_law).drop 2:=ah (by decide +kernel)
 have e2:(wz s_law).drop 2=(wz s_law)[2]'(by decide +kernel)::(wz s_law).drop 3:=ah (by decide +kernel)
 have e3:(wz s_law).drop 3=(wz s_law)[3]'(by decide +kernel)::(wz s_law).drop 4:=ah (by decide +kernel)
 have e4:(wz s_law).drop 4=(wz s_law)[4]'(by decide +kernel)::(wz s_law).drop 5:=ah (by decide +kernel)
 have e5:(wz s_law).drop 5=(wz s_law)[5]'(by decide +kernel)::(wz s_law).drop 6:=ah (by decide +kernel)
 have e6:(wz s_law).drop 6=(wz s_law)[6]'(by decide +kernel)::(wz s_law).drop 7:=ah (by decide +kernel)
 have e:wz s_law=(wz s_law).drop 0:=rfl
 rw [e0,e1,e2,e3,e4,e5,e6] at e
 rw [e]
 clear e e0 e1 e2 e3 e4 e5 e6
 generalize h7:(wz s_law).drop 7=rest7
 generalize h14:(wz s_law).drop 14=rest at *
 generalize h18:(wz s_law).drop 18=rest18
 refine ⟨_,(qk (wt (i:=1) sc.nd rfl (by walk_at "loc") (wm c__law_names (hr.mono (by decide)) rfl qf (ww (pv 0) (xy qy qz))))
   (qk (wt (i:=2) sc.nd rfl (by walk_at "loc") (wm c__law_heights (hr.mono (by decide)) rfl qf (ww (pv 0) (xy qy (xy qy qz)))))
   (qk (wt (i:=3) sc.nd rfl (by walk_at "loc") (wm c__law_spot (hr.mono (by decide)) rfl qf (ww (pv 0) (xy qy (zj (wg zh (xq xf rfl T.len_ aM (ww (pv 2) qz)) qy) (xy qy qz))))))
   (qk (wt (i:=4) sc.nd rfl (by walk_at "loc") (wm c__law_spot (hr.mono (by decide)) rfl qf (ww (pv 0) (xy qy (zj (wg zh (xq xf rfl T.len_ aM (ww (pv 2) qz)) qy) (xy qy qz))))))
   (qk (wt (i:=5) sc.nd rfl (by walk_at "loc") (wg zm (wm c__law_cell (hr.mono (by decide)) rfl qf (ww (pv 0) (xy qy qz))) (wg xz (wg xg qy (wg qkq qy qy)) qy)))
   (qk (wt (i:=6) sc.nd rfl (by walk_at "loc") (wg zm (wm c__law_cell (hr.mono (by decide)) rfl qf (ww (pv 0) (xy qy qz))) (wg xz (wg xg qy (wg qkq qy qy)) qy)))
   (u9 (x9 (w6 kh (wm c__law_pick (hr.mono (by decide)) rfl qf (ww (pv 0) (xy qy (xy qy (xy qy qz))))) qy (w9 _)) (qk (wt (i:=5) sc.nd rfl (by walk_at "loc") (wm c__law_pick (hr.mono (by decide)) rfl qf (ww (pv 0) (xy qy (xy qy (xy qy qz))))))
   (wj (wt (i:=6) sc.nd rfl (by walk_at "loc") (wm c__law_pick (hr.mono (by decide)) rfl qf (ww (pv 0) (xy qy (xy qy (xy qy qz)))))))) xx)
   (qj1 T c_House c_lay c_place c_go hr h7 h14 (qyk T c__law_point c__law_led c_where c_together hr h14 h18 (qjw T c__law_led c_where c_deeds hr h18)))))))))),?_⟩
 refine exI rfl ⟨a,ns,exI rfl ⟨hS,(by lia),λq0 L H1 s1 nq f1 lL hL nd=>?_⟩⟩
 match L,lL with
 |c0::c1::cr,lL =>
 refine exI rfl ⟨a,ns,_,_,rfl,s1.sql hS,(by lia),(by lia),(by lia),λp1 hs w1 n1 a1 b1 i1=>?_⟩
 have ok:zq hs:=wx2 i1 a1 (by lia)
 have s2':=Same.upd (H:=H1) (o:=.lst (hs.map V.int)) n1
 have f2:upd H1 p1 (.lst (hs.map V.int)) p1=some (.lst (hs.map V.int)):=qt
 generalize upd H1 p1 (.lst (hs.map V.int))=H2 at s2' f2
 have s2:=s1.trans s2'
 have o1:=ok.1
 have o2:=ok.2.1
 have lm:(hs.map V.int).length=hs.length:=ae _
 refine exI rfl (exI rfl ⟨p1,exI rfl ⟨.inl (SqL.of f2),wr rfl rfl ?_⟩⟩)
 rw [lm]
 refine ⟨a,ns,_,_,_,rfl,s2.sql hS,(by lia),(by lia),(by lia),(by lia),(by lia),λpa t0 b0 k0 n3 y1 y2 y3 y4 y5 y6=>?_⟩
 have s3':=Same.upd (H:=H2) (o:=.tup [.int (t0*k0),.int (b0*k0)]) n3
 have f3:upd H2 pa (.tup [.int (t0*k0),.int (b0*k0)]) pa=some (.tup [.int (t0*k0),.int (b0*k0)]):=qt
 generalize upd H2 pa (.tup [.int (t0*k0),.int (b0*k0)])=H3 at s3' f3
 have s3:=s2.trans s3'
 refine exI rfl (exI rfl ⟨p1,exI rfl ⟨.inl (SqL.of (s3' _ _ f2)),wr rfl rfl ?_⟩⟩)
 rw [lm]
 refine ⟨a,ns,_,_,_,rfl,s3.sql hS,(by lia),(by lia),(by lia),(by lia),(by lia),λpb t1 b1' k1 n4 x1 x2 x3 x4 x5 x6=>?_⟩
 have s4':=Same.upd (H:=H3) (o:=.tup [.int (t1*k1),.int (b1'*k1)]) n4
 have f4:upd H3 pb (.tup [.int (t1*k1),.int (b1'*k1)]) pb=some (.tup [.int (t1*k1),.int (b1'*k1)]):=qt
 generalize upd H3 pb (.tup [.int (t1*k1),.int (b1'*k1)])=H4 at s4' f4
 have s4:=s3.trans s4'
 have s24:=s3'.trans s4'
 have at4:∀S M:Int,0≤S→0≤M→S+M≤F60→AtA H4 q0 p1 pa pb c0 c1 cr hs (t0*k0) (b0*k0) (t1*k1) (b1'*k1) S M:=λS M hs0 hm0 hsm =>
  ⟨s24 _ _ (s2' _ _ f1),hL c0 (by simp),hL c1 (by simp),(cP.mp nd).1 c1 (by simp),s24 _ _ f2,ok,qk4 (s4' _ _ f3) y1 (by lia) y3 y4 y5 y6,qk4 f4 x1 (by lia) x3 x4 x5 x6,hs0,hm0,hsm⟩
 refine exI rfl ⟨a,ns,exI rfl ⟨s4.sql hS,(by lia),λd1 _=>?_⟩⟩
 refine wr rfl rfl ⟨⟨by decide,by decide,by decide⟩,wr rfl rfl ⟨(sm 5 (by decide) (by decide)).ok sm59 (by decide),wr rfl rfl (wr rfl rfl ⟨(by rw [wq7];show (0:Int)<500000000000000000000000000000000000000000000000000000000001;decide),?_⟩)⟩⟩
 refine exI rfl ⟨a,ns,exI rfl ⟨s4.sql hS,(by lia),λd2 _=>?_⟩⟩
 refine wr rfl rfl ⟨⟨by decide,by decide,by decide⟩,wr rfl rfl ⟨(sm 5 (by decide) (by decide)).ok sm59 (by decide),wr rfl rfl (wr rfl rfl ⟨(by rw [wq7];show (0:Int)<500000000000000000000000000000000000000000000000000000000001;decide),?_⟩)⟩⟩
 have bS:∀d:Int,0≤d%(5*(10:Int) ^ (59:Int).toNat+1)∧d%(5*(10:Int) ^ (59:Int).toNat+1)≤500000000000000000000000000000000000000000000000000000000000:=λd=>by
  rw [wq7]
  have a1:=aR d (show (500000000000000000000000000000000000000000000000000000000001:Int)≠0 by decide)
  have a2:=aS d (show (0:Int)<500000000000000000000000000000000000000000000000000000000001 by decide)
  lia
 have bd1:=bS d1
 have bd2:=bS d2
 generalize d1%(5*(10:Int) ^ (59:Int).toNat+1)=S0 at bd1
 generalize d2%(5*(10:Int) ^ (59:Int).toNat+1)=M0 at bd2
 refine ⟨λσ H'=>∃S M,σ=[some (.ref a),some (.ref q0),some (.ref p1),some (.ref pa),some (.ref pb),some (.int S),some (.int M),none,none,none,none,none,none,none,none,none]∧H'=H4∧0≤S∧0≤M∧S+M≤F60,?_,?_⟩
 ·refine exI rfl ⟨a,ns,_,_,_,rfl,s4.sql hS,(by lia),(by lia),(by lia),(by lia),λr1 _ l1 u1=>?_⟩
  refine ⟨rfl,_,rfl,k8 (λq1=>?_) (λq1=>⟨_,_,(rfl),(rfl),(bS d1).1,(bS d2).1,?_⟩)⟩
  ·refine exI rfl ⟨a,ns,_,_,_,rfl,s4.sql hS,(by lia),(by lia),(by lia),(by lia),λr2 _ l2 u2=>?_⟩
   refine exI rfl ⟨a,ns,_,_,_,rfl,s4.sql hS,(by lia),(by lia),(by lia),(by lia),λr3 _ l3 u3=>?_⟩
   exact ⟨r2,r3,rfl,rfl,l2,l3,by unfold F60;lia⟩
  ·have:=(bS d1).2
   have:=(bS d2).2
   unfold F60
   lia
 rintro σ H5 ⟨S,M,rfl,rfl,hs0,hm0,hsm⟩
 exact ⟨a,q0,p1,pa,pb,c0,c1,cr,hs,_,_,_,_,S,M,rfl,at4 S M hs0 hm0 hsm,k⟩
end
section
theorem all_mk {l:PySem.W.OpenLaw}{w:Ah}{K:Aa}{h:Heap}{mg:Str→Option Ag}{fa:Aj}{qc:Aj}{qr:Aj}{qx:Aj}{qm:Aj}{qu:Aj}{wq:Aj}{wy:Aj}{qh:Aj}{wf:Aj}{wx:Aj}{qj:Aj}{qp:Aj}{qw:Aj}{qq:Aj}{t_WIDEST:Tok}{t_LONGEST_TRACE:Tok}{t_FARTHEST:Tok}{t_LONGEST_NAME:Tok}{t_GREATEST_BOTTOM:Tok}{t_LETTERS:Tok}(X:K.In h)(G:h.Ns mainGlobals mg)(hfa:mg "law" = some (.ref fa))
  (d__law_cell:DefIn K "_law_cell" s__law_cell)
  (d__law_pick:DefIn K "_law_pick" s__law_pick)
  (d_check_bottom:DefIn K "check_bottom" s_check_bottom)
  (d_common_divisor:DefIn K "common_divisor" s_common_divisor)
  (d_lowest:DefIn K "lowest" s_lowest)
  (d_check_count:DefInD K "check_count" s_check_count)
  (d_is_line:DefIn K "is_line" s_is_line)
  (d_trace:DefIn K "trace" s_trace)
  (d_spot:DefIn K "spot" s_spot)
  (d_led_to:DefIn K "led_to" s_led_to)
  (d_set_down:DefIn K "set_down" s_set_down)
  (d_is_name:DefIn K "is_name" s_is_name)
  (d_check_new_name:DefIn K "check_new_name" s_check_new_name)
  (d_exchange:DefIn K "exchange" s_exchange)
  (d__law_climb:DefIn K "_law_climb" s__law_climb)
  (d__law_heights:DefIn K "_law_heights" s__law_heights)
  (d__law_step:DefIn K "_law_step" s__law_step)
  (d__law_trace:DefIn K "_law_trace" s__law_trace)
  (d__law_after:DefIn K "_law_after" s__law_after)
  (d__law_common:DefIn K "_law_common" s__law_common)
  (d__law_low:DefIn K "_law_low" s__law_low)
  (d__law_spot:DefIn K "_law_spot" s__law_spot)
  (d__law_whole:DefIn K "_law_whole" s__law_whole)
  (d__law_point:DefIn K "_law_point" s__law_point)
  (d__law_names:DefIn K "_law_names" s__law_names)
  (d__law_led:DefIn K "_law_led" s__law_led)
  (d_law:DefIn K "law" s_law)
  (a_RoadError:PySem.W.nsIn K mainGlobals "RoadError" = some (some (.ref qc)))
  (x_RoadError:PySem.W.excIn K qc [.type "ValueError",.type "Exception",.type "BaseException",.type "object"] "ValueError.__new__" = true)
  (a_BadLine:PySem.W.nsIn K mainGlobals "BadLine" = some (some (.ref qr)))
  (x_BadLine:PySem.W.excIn K qr [.type "ValueError",.type "Exception",.type "BaseException",.type "object"] "ValueError.__new__" = true)
  (a_BadBottom:PySem.W.nsIn K mainGlobals "BadBottom" = some (some (.ref qx)))
  (x_BadBottom:PySem.W.excIn K qx [.type "ValueError",.type "Exception",.type "BaseException",.type "object"] "ValueError.__new__" = true)
  (a_OffRoad:PySem.W.nsIn K mainGlobals "OffRoad" = some (some (.ref qm)))
  (x_OffRoad:PySem.W.excIn K qm [.type "ValueError",.type "Exception",.type "BaseException",.type "object"] "ValueError.__new__" = true)
  (a_BadCount:PySem.W.nsIn K mainGlobals "BadCount" = some (some (.ref qu)))
  (x_BadCount:PySem.W.excIn K qu [.type "ValueError",.type "Exception",.type "BaseException",.type "object"] "ValueError.__new__" = true)
  (a_TooLong:PySem.W.nsIn K mainGlobals "TooLong" = some (some (.ref wq)))
  (x_TooLong:PySem.W.excIn K wq [.type "ValueError",.type "Exception",.type "BaseException",.type "object"] "ValueError.__new__" = true)
  (a_BadRow:PySem.W.nsIn K mainGlobals "BadRow" = some (some (.ref wy)))
  (x_BadRow:PySem.W.excIn K wy [.type "ValueError",.type "Exception",.type "BaseException",.type "object"] "ValueError.__new__" = true)
  (a_BadName:PySem.W.nsIn K mainGlobals "BadName" = some (some (.ref qh)))
  (x_BadName:PySem.W.excIn K qh [.type "ValueError",.type "Exception",.type "BaseException",.type "object"] "ValueError.__new__" = true)
  (a_Taken:PySem.W.nsIn K mainGlobals "Taken" = some (some (.ref wf)))
  (x_Taken:PySem.W.excIn K wf [.type "ValueError",.type "Exception",.type "BaseException",.type "object"] "ValueError.__new__" = true)
  (a_NoRoad:PySem.W.nsIn K mainGlobals "NoRoad" = some (some (.ref wx)))
  (x_NoRoad:PySem.W.excIn K wx [.type "ValueError",.type "Exception",.type "BaseException",.type "object"] "ValueError.__new__" = true)
  (a_NoWalker:PySem.W.nsIn K mainGlobals "NoWalker" = some (some (.ref qj)))
  (x_NoWalker:PySem.W.excIn K qj [.type "ValueError",.type "Exception",.type "BaseException",.type "object"] "ValueError.__new__" = true)
  (a_Road:PySem.W.nsIn K mainGlobals "Road" = some (some (.ref qp)))
  (pg_Road:PySem.W.plainGet K qp Str.empty=true)
  (hd_Road:PySem.W.hasDictIn K qp=true)
  (po_Road:PySem.W.plainOver K qp=true)
  (sa_Road:PySem.W.findIn K (.ref qp) "__setattr__" = some (some (.builtin "object.__setattr__")))
  (mk_Road:PySem.W.makesIn K qp=true)
  (kc_Road:PySem.W.keepIn K (.ref qp)=true)
  (m_Road___init__:MethIn K qp "__init__" "Road.__init__" s_Road___init__)
  (m_Road_width:MethIn K qp "width" "Road.width" s_Road_width)
  (m_Road_ends:MethIn K qp "ends" "Road.ends" s_Road_ends)
  (m_Road_on_road:MethIn K qp "on_road" "Road.on_road" s_Road_on_road)
  (m_Road_at:MethIn K qp "at" "Road.at" s_Road_at)
  (a_Walker:PySem.W.nsIn K mainGlobals "Walker" = some (some (.ref qw)))
  (pg_Walker:PySem.W.plainGet K qw Str.empty=true)
  (hd_Walker:PySem.W.hasDictIn K qw=true)
  (po_Walker:PySem.W.plainOver K qw=true)
  (sa_Walker:PySem.W.findIn K (.ref qw) "__setattr__" = some (some (.builtin "object.__setattr__")))
  (mk_Walker:PySem.W.makesIn K qw=true)
  (kc_Walker:PySem.W.keepIn K (.ref qw)=true)
  (m_Walker___init__:MethIn K qw "__init__" "Walker.__init__" s_Walker___init__)
  (m_Walker_gone:MethIn K qw "gone" "Walker.gone" s_Walker_gone)
  (a_House:PySem.W.nsIn K mainGlobals "House" = some (some (.ref qq)))
  (pg_House:PySem.W.plainGet K qq Str.empty=true)
  (hd_House:PySem.W.hasDictIn K qq=true)
  (po_House:PySem.W.plainOver K qq=true)
  (sa_House:PySem.W.findIn K (.ref qq) "__setattr__" = some (some (.builtin "object.__setattr__")))
  (mk_House:PySem.W.makesIn K qq=true)
  (kc_House:PySem.W.keepIn K (.ref qq)=true)
  (m_House___init__:MethIn K qq "__init__" "House.__init__" s_House___init__)
  (m_House_road_called:MethIn K qq "road_called" "House.road_called" s_House_road_called)
  (m_House_walker_called:MethIn K qq "walker_called" "House.walker_called" s_House_walker_called)
  (m_House_deeds:MethIn K qq "deeds" "House.deeds" s_House_deeds)
  (m_House_do:MethIn K qq "do" "House.do" s_House_do)
  (m_House_lay:MethIn K qq "lay" "House.lay" s_House_lay)
  (m_House_where:MethIn K qq "where" "House.where" s_House_where)
  (m_House_place:MethIn K qq "place" "House.place" s_House_place)
  (m_House_go:MethIn K qq "go" "House.go" s_House_go)
  (m_House_walkers_on:MethIn K qq "walkers_on" "House.walkers_on" s_House_walkers_on)
  (m_House_together:MethIn K qq "together" "House.together" s_House_together)
  (na_Road_heights:PySem.W.findIn K (.ref qp) "heights" = some none)
  (na_Walker_whose:PySem.W.findIn K (.ref qw) "whose" = some none)
  (na_Walker_point:PySem.W.findIn K (.ref qw) "point" = some none)
  (na_Walker_times:PySem.W.findIn K (.ref qw) "times" = some none)
  (na_House_roads:PySem.W.findIn K (.ref qq) "roads" = some none)
  (na_House_walkers:PySem.W.findIn K (.ref qq) "walkers" = some none)
  (na_House_done:PySem.W.findIn K (.ref qq) "done" = some none)
  (g_WIDEST:PySem.W.nsIn K mainGlobals "WIDEST" = some (some (.int 24 t_WIDEST)))
  (g_LONGEST_TRACE:PySem.W.nsIn K mainGlobals "LONGEST_TRACE" = some (some (.int 1000 t_LONGEST_TRACE)))
  (g_FARTHEST:PySem.W.nsIn K mainGlobals "FARTHEST" = some (some (.int 1000000000000000000000000000000000000000000000000000000000000 t_FARTHEST)))
  (g_LONGEST_NAME:PySem.W.nsIn K mainGlobals "LONGEST_NAME" = some (some (.int 12 t_LONGEST_NAME)))
  (g_GREATEST_BOTTOM:PySem.W.nsIn K mainGlobals "GREATEST_BOTTOM" = some (some (.int 40 t_GREATEST_BOTTOM)))
  (g_LETTERS:PySem.W.nsIn K mainGlobals "LETTERS" = some (some (.str "abcdefghijklmnopqrstuvwxyz" t_LETTERS)))
  (z_len:PySem.W.nsIn K mainGlobals "len" = some none)
  (z_abs:PySem.W.nsIn K mainGlobals "abs" = some none)
  (z_range:PySem.W.nsIn K mainGlobals "range" = some none)
  (z_list:PySem.W.nsIn K mainGlobals "list" = some none)
  (z_min:PySem.W.nsIn K mainGlobals "min" = some none)
  (z_max:PySem.W.nsIn K mainGlobals "max" = some none)
  (z_all:PySem.W.nsIn K mainGlobals "all" = some none)
  (z_any:PySem.W.nsIn K mainGlobals "any" = some none)
  (z_sorted:PySem.W.nsIn K mainGlobals "sorted" = some none)
  (z_enumerate:PySem.W.nsIn K mainGlobals "enumerate" = some none)
  (z_dict:PySem.W.nsIn K mainGlobals "dict" = some none)
  (z_isinstance:PySem.W.nsIn K mainGlobals "isinstance" = some none)
  (z_int:PySem.W.nsIn K mainGlobals "int" = some none)
  (z_bool:PySem.W.nsIn K mainGlobals "bool" = some none)
  (z_tuple:PySem.W.nsIn K mainGlobals "tuple" = some none) :
  ∃fd:Ad,(∀(s:Ab) (v:Ag),BindsTo s fd ⟨[v],[]⟩ [("_law_script",v)])∧∀base:Heap,K.In base→base.Ns mainGlobals mg→FnOk l.prog w K mg base (CXE l.prog w) 10 fa fd ["_law_script"] (qkf K):=by
 have T:Txt K mg qc qr qx qm qu wq wy qh wf wx qj qp qw qq:=⟨aH X G z_len,aH X G z_abs,aH X G z_range,aH X G z_list,aH X G z_min,aH X G z_max,aH X G z_all,aH X G z_any,aH X G z_sorted,aH X G z_enumerate,aH X G z_dict,aH X G z_isinstance,aH X G z_int,aH X G z_bool,aH X G z_tuple,aF X G a_RoadError,⟨x_RoadError⟩,aF X G a_BadLine,⟨x_BadLine⟩,aF X G a_BadBottom,⟨x_BadBottom⟩,aF X G a_OffRoad,⟨x_OffRoad⟩,aF X G a_BadCount,⟨x_BadCount⟩,aF X G a_TooLong,⟨x_TooLong⟩,aF X G a_BadRow,⟨x_BadRow⟩,aF X G a_BadName,⟨x_BadName⟩,aF X G a_Taken,⟨x_Taken⟩,aF X G a_NoRoad,⟨x_NoRoad⟩,aF X G a_NoWalker,⟨x_NoWalker⟩,⟨pg_Road,hd_Road,po_Road,sa_Road⟩,na_Road_heights,⟨t_WIDEST,aF X G g_WIDEST⟩,aF X G a_Road,⟨pg_Walker,hd_Walker,po_Walker,sa_Walker⟩,⟨pg_House,hd_House,po_House,sa_House⟩,na_Walker_whose,na_Walker_point,na_Walker_times,na_House_roads,na_House_walkers,na_House_done,aF X G a_Walker,aF X G a_House,⟨t_LONGEST_TRACE,aF X G g_LONGEST_TRACE⟩,⟨t_FARTHEST,aF X G g_FARTHEST⟩,⟨t_LONGEST_NAME,aF X G g_LONGEST_NAME⟩,⟨t_GREATEST_BOTTOM,aF X G g_GREATEST_BOTTOM⟩,⟨t_LETTERS,aF X G g_LETTERS⟩⟩
 obtain ⟨f,fd,a,F⟩:=d_law.ex
 have e:=hfa.symm.trans (aF X G a)
 cases e
 refine ⟨fd,λs v=>?_,λbase kb nb=>?_⟩
 ·obtain ⟨oc,od,kV,doc,pm,an,cdv,ct,osl,rfl,lk,hcd⟩:=F.ex
  exact .of_eq rfl
 ·have c1:Cal l.prog w K mg base "_law_cell" 1 (qwd K):=d__law_cell.cal X G qw2 λf fd F=>wx5 F T
  have c2:Cal l.prog w K mg base "_law_pick" 2 (yx K):=d__law_pick.cal X G qww λf fd F=>wxb F T c1
  have c3:Cal l.prog w K mg base "check_bottom" 1 (qqg qx):=d_check_bottom.cal X G Wn λf fd F=>wq3 F T
  have c4:Cal l.prog w K mg base "common_divisor" 1 Zj:=d_common_divisor.cal X G Qn λf fd F=>ok_gcd F T
  have c5:Cal l.prog w K mg base "lowest" 2 (j7 qx):=d_lowest.cal X G qj0 λf fd F=>qyf F T c3 c4
  have c6:CalD l.prog w K mg base "check_count" 1 (W1 qu):=d_check_count.cal X G Zr Zc λf fd F=>wq1 F T
  have c7:Cal l.prog w K mg base "is_line" 1 (Ys K):=d_is_line.cal X G qvv λf fd F=>qv4 F T
  have c8:CCal l.prog w K mg base "Road" qp 2 (qqs K qr qp):=m_Road___init__.ccal T.g_Road mk_Road kc_Road Wq λf fd F=>wxw F T c7
  have c9:MCal l.prog w K mg base qp "width" 1 (Qk qp):=m_Road_width.cal Jx λf fd F=>qut F T
  have c10:MCal l.prog w K mg base qp "ends" 2 (qvj qp wy):=m_Road_ends.cal qq6 λf fd F=>wxc F T c9
  have c11:MCal l.prog w K mg base qp "on_road" 3 (Qx K qp qx qm):=m_Road_on_road.cal Wf λf fd F=>qv6 F T c9 c5
  have c12:MCal l.prog w K mg base qp "at" 4 (spAt K qp qx qm):=m_Road_at.cal qvm λf fd F=>ok_at F T c9 c5 c10 c11
  have c13:Cal l.prog w K mg base "trace" 5 (qw3 qp wq):=d_trace.cal X G qyh λf fd F=>wqk F T c12
  have c14:Cal l.prog w K mg base "spot" 1 qz5:=d_spot.cal X G wxh λf fd F=>wwn F T
  have c15:Cal l.prog w K mg base "led_to" 1 wqs:=d_led_to.cal X G qjq λf fd F=>ok_led F T
  have c16:CCal l.prog w K mg base "Walker" qw 1 (ur qw):=m_Walker___init__.ccal T.g_Walker mk_Walker kc_Walker uk λf fd F=>qum F T
  have c17:Cal l.prog w K mg base "set_down" 3 (Q8 qw):=d_set_down.cal X G qzq λf fd F=>qxz F T c16
  have c18:MCal l.prog w K mg base qw "gone" 6 (qqn qw qp):=m_Walker_gone.cal Yr λf fd F=>wxv F T c13 c15 c14 c16
  have c19:Cal l.prog w K mg base "is_name" 1 Z6:=d_is_name.cal X G qvq λf fd F=>qvz F T
  have c20:Cal l.prog w K mg base "check_new_name" 2 (ym qh wf):=d_check_new_name.cal X G Qh λf fd F=>qx9 F T c19
  have c21:Cal l.prog w K mg base "exchange" 1 qzs:=d_exchange.cal X G qzc λf fd F=>ww3 F T
  have c22:CCal l.prog w K mg base "House" qq 1 (Ws qq):=m_House___init__.ccal T.g_House mk_House kc_House Qb λf fd F=>qyn F T
  have c23:MCal l.prog w K mg base qq "road_called" 1 (vt qq wx true):=m_House_road_called.cal j8 λf fd F=>Yd F T
  have c24:MCal l.prog w K mg base qq "walker_called" 1 (vt qq qj false):=m_House_walker_called.cal jp λf fd F=>Wk F T
  have c25:MCal l.prog w K mg base qq "deeds" 1 (W6 qq):=m_House_deeds.cal Yj λf fd F=>wwq F T
  have c26:MCal l.prog w K mg base qq "do" 2 (qw1 qq):=m_House_do.cal qzv λf fd F=>ok_do F T c21
  have c27:MCal l.prog w K mg base qq "lay" 4 (qkn K qq qp qh wf qr):=m_House_lay.cal qwt λf fd F=>ok_lay F T c20 c8 c26
  have c28:MCal l.prog w K mg base qq "where" 2 (uu qq qw qj):=m_House_where.cal Z8 λf fd F=>qu4 F T c24
  have c29:MCal l.prog w K mg base qq "place" 5 (Zz K qq qp qw qh wf wx qx qm):=m_House_place.cal Z9 λf fd F=>wqg F T c20 c23 c5 c11 c17 c26
  have c30:MCal l.prog w K mg base qq "go" 8 (spGo qq qp qw qj qu):=m_House_go.cal qxy λf fd F=>ok_go F T c24 c6 c18 c26
  have c31:MCal l.prog w K mg base qq "walkers_on" 1 (spOn qq qw):=m_House_walkers_on.cal yp λf fd F=>Ju F T
  have c32:MCal l.prog w K mg base qq "together" 8 (qkz qq qp qw wx qu):=m_House_together.cal u6 λf fd F=>qxq F T c23 c6 c31 c18 c26
  have c33:Cal l.prog w K mg base "_law_climb" 3 (Zv K):=d__law_climb.cal X G Y2 λf fd F=>qy1 F T c2
  have c34:Cal l.prog w K mg base "_law_heights" 4 (Qs K):=d__law_heights.cal X G Wr λf fd F=>qv3 F T c2 c33
  have c35:Cal l.prog w K mg base "_law_step" 1 (qvd K):=d__law_step.cal X G qwy λf fd F=>ww2 F T
  have c36:Cal l.prog w K mg base "_law_trace" 2 (Zb K):=d__law_trace.cal X G Jk λf fd F=>qj7 F T c35
  have c37:Cal l.prog w K mg base "_law_after" 1 (qq1 K):=d__law_after.cal X G Jy λf fd F=>wqv F T
  have c38:Cal l.prog w K mg base "_law_common" 1 Zj:=d__law_common.cal X G Yc λf fd F=>qyd F T
  have c39:Cal l.prog w K mg base "_law_low" 2 wqb:=d__law_low.cal X G qxx λf fd F=>ok_low F T c38
  have c40:Cal l.prog w K mg base "_law_spot" 3 (qwh K):=d__law_spot.cal X G qwj λf fd F=>qy4 F T c2
  have c41:Cal l.prog w K mg base "_law_whole" 1 qq2:=d__law_whole.cal X G Y8 λf fd F=>quf F T
  have c42:Cal l.prog w K mg base "_law_point" 2 (W8 K):=d__law_point.cal X G Jd λf fd F=>wq8 F T c41 c38
  have c43:Cal l.prog w K mg base "_law_names" 3 (Yu K):=d__law_names.cal X G Jf λf fd F=>qyq F T c2
  have c44:Cal l.prog w K mg base "_law_led" 3 (Zg K):=d__law_led.cal X G qx7 λf fd F=>wxt F T c36 c37 c39
  exact ok_law F T c1 c2 c43 c34 c40 c22 c27 c29 c30 c28 c25 c32 c42 c44
theorem walk {l:PySem.W.OpenLaw}{q:Ac}{loose:List Str}{XP:(Str→Option Ag)→Heap→Prop}{YP:Ah→Heap→Prop}{d:DefRec}{K:Params→Aa}(hn:l.most=some 63)(hdf:d.params.defaults=[])
  (hY:∀(w:Ah) (h:Heap),YP w h→(K w.params).In h)
  (F:∀(w:Ah) (mg:Str→Option Ag) (fa:Aj) (h:Heap),(K w.params).In h→h.Ns mainGlobals mg→mg d.name=some (.ref fa) →
   ∃fd:Ad,(∀(s:Ab) (u:Ag),BindsTo s fd ⟨[u],[]⟩ [("_law_script",u)])∧∀base:Heap,(K w.params).In base→base.Ns mainGlobals mg→FnOk l.prog w (K w.params) mg base (CXE l.prog w) 10 fa fd ["_law_script"] (qkf (K w.params))) :
  PySem.W.WalkO q loose XP YP l.row.toRowW d [] (λf vs=>PySem.call f vs) :=
 L2.wx9 (n:=63) (k:=10) (x := "_law_script") (CX:=λw=>CXE l.prog w) (sp:=λw=>qkf (K w.params)) hn (by decide) hdf ⟨rfl,by decide,by decide⟩ hY F (λ_ _ a ns hl _ hS=>⟨a,ns,rfl,hS,hl,λ_=>rfl⟩) λ_ _ _ _ _ z=>CXE.no z
end
end My
open PySem PySem.W PyProof.Rows
local macro_rules | `(tactic| walk_at "def")=>`(tactic| (refine' L2.def_mk ?a ?l ?c ?k;(case a=>k_is);(case l=>k_is);(case c=>k_is);(case k=>k_is)))
local macro_rules | `(tactic| walk_at "defD")=>`(tactic| (refine' L2.wzx ?a ?l ?c ?k ?t;(case a=>k_is);(case l=>k_is);(case c=>k_is);(case k=>k_is);(case t=>k_is)))
local macro_rules | `(tactic| walk_at "meth")=>`(tactic| (refine' L2.wwd ?a ?i ?l ?c ?k;(case a=>k_is);(case i=>k_is);(case l=>k_is);(case c=>k_is);(case k=>k_is)))
namespace PySem.W.Fast
theorem tw13966903934067398241:True:=trivial
theorem tw7885863582835181337:True:=trivial
theorem tw8526760656865207919:True:=trivial
theorem tw1155978362832542420:True:=trivial
theorem tw7576239400503559668:True:=trivial
theorem tw7016922720112158418:True:=trivial
theorem tw2569852180509804692:True:=trivial
theorem tw16003261574259470644:True:=trivial
theorem tw1641822149804024812:True:=trivial
theorem tw18066880917083474316:True:=trivial
theorem tw16415225041085189234:True:=trivial
theorem tw11451789393365313108:True:=trivial
theorem tw17729324395131967541:True:=trivial
theorem tw6158757523822676765:True:=trivial
theorem tw2076770882229734711:True:=trivial
theorem tw11096718316588930528:True:=trivial
theorem tw15960297601214699076:True:=trivial
theorem tw10923387704852337545:True:=trivial
theorem tw468342606029190600:True:=trivial
theorem tw16883552132375983732:True:=trivial
theorem tw6569352129465452788:True:=trivial
theorem tw8636195419555839649:True:=trivial
theorem tw16460844650106855612:True:=trivial
theorem tw7617557728475392050:True:=trivial
theorem tw2181869347142383910:True:=trivial
theorem tw11609355688234683871:True:=trivial
theorem tw7766739686462412606:True:=trivial
theorem tw8987021764206509411:True:=trivial
theorem tw16390466566888418394:True:=trivial
theorem tw15460046912773589404:True:=trivial
theorem tw4586940853873616859:True:=trivial
theorem tw12790906914705369207:True:=trivial
theorem tw281189848278914322:True:=trivial
theorem tw7648491635355499022:True:=trivial
theorem tw12064713008203926292:True:=trivial
theorem tw9120112846612106989:True:=trivial
theorem tw1798712265864689357:True:=trivial
theorem tw11504993743624842250:True:=trivial
theorem tw627222748338422183:True:=trivial
theorem tw4893615972525274712:True:=trivial
theorem tw5523454696921581381:True:=trivial
theorem tw14900106231718380018:True:=trivial
theorem tw10244103752813966395:True:=trivial
theorem tw11618212271869766397:True:=trivial
theorem tw6128482813897792727:True:=trivial
theorem tw17675022335082978055:True:=trivial
theorem tw7129637146699858622:True:=trivial
theorem tw12691271096403141748:True:=trivial
theorem tw8992057662380160917:True:=trivial
theorem tw17289957036496853689:True:=trivial
theorem tw13685178833280211070:True:=trivial
theorem tw5968244595822851651:True:=trivial
theorem tw15197096331566644396:True:=trivial
theorem tw4461456240916889011:True:=trivial
theorem tw8073187313470486875:True:=trivial
theorem tw3429695066179165706:True:=trivial
theorem tw17033742421914343944:True:=trivial
theorem tw14228801123309213606:True:=trivial
theorem tw9197028282382745345:True:=trivial
theorem tw15378843060756567983:True:=trivial
theorem tw9960214043803825839:True:=trivial
theorem tw11953504960768109716:True:=trivial
theorem tw16693090530497629060:True:=trivial
theorem tw11732469590783479734:True:=trivial
theorem tw4328925418879376288:True:=trivial
theorem tw13981594730205105069:True:=trivial
theorem tw14122847653084317902:True:=trivial
theorem tw4571475047590124727:True:=trivial
theorem tw1677635204125113770:True:=trivial
theorem tw12703759917198005375:True:=trivial
theorem tw5242625158834361861:True:=trivial
theorem tw15290545437469115681:True:=trivial
theorem tw2004648692672113465:True:=trivial
theorem tw1153142591371861224:True:=trivial
theorem tw17236330289882044534:True:=trivial
theorem tw18360651972174193070:True:=trivial
theorem tw10761969329169469680:True:=trivial
theorem tw14963161667458253250:True:=trivial
theorem tw14597441306967010842:True:=trivial
theorem tw18302578583501969136:True:=trivial
theorem tw3444531678226392486:True:=trivial
theorem tw5065036673798560659:True:=trivial
theorem tw7422607714748042729:True:=trivial
theorem tw13553232289595335229:True:=trivial
theorem tw13480676248587698519:True:=trivial
theorem tw8093271549670684706:True:=trivial
theorem tw14402046060300988470:True:=trivial
theorem tw14880342995109507257:True:=trivial
theorem tw18176429758667294762:True:=trivial
theorem tw1316049659968459267:True:=trivial
theorem tw16186233108909580293:True:=trivial
theorem tw273051680384196433:True:=trivial
theorem tw3784024171090003929:True:=trivial
theorem tw2041788618927670837:True:=trivial
theorem tw9001399945743557241:True:=trivial
theorem tw6096961503422534501:True:=trivial
theorem tw4128348772249777060:True:=trivial
theorem tw13248743091727208171:True:=trivial
theorem tw3218524049318889209:True:=trivial
theorem tw8116151994590065400:True:=trivial
theorem tw7044852019175122151:True:=trivial
theorem tw6537742055244673461:True:=trivial
theorem tw9576973286795255428:True:=trivial
theorem tw1085396555988343793:True:=trivial
theorem tw14464469050828880282:True:=trivial
theorem tw3139351810566261543:True:=trivial
theorem tw11998322751730711885:True:=trivial
theorem tw689152026660280366:True:=trivial
theorem tw11781887953486316435:True:=trivial
theorem tw6532138804588424676:True:=trivial
theorem tw13026803757775193765:True:=trivial
theorem tw4362324156395925446:True:=trivial
theorem tw5493992606748576565:True:=trivial
theorem tw1085708511300237016:True:=trivial
theorem tw4585729733987256684:True:=trivial
theorem tw1807433333616239349:True:=trivial
theorem tw3211396111242579295:True:=trivial
theorem tw11089150363506659983:True:=trivial
theorem tw1945108056021952314:True:=trivial
theorem tw8009898287920229856:True:=trivial
theorem tw5300984435611381764:True:=trivial
theorem tw10133631920572525721:True:=trivial
theorem tw8466176206850742742:True:=trivial
theorem tw12407031572406451425:True:=trivial
theorem tw16173062128741705581:True:=trivial
theorem tw7411411350933763445:True:=trivial
theorem tw8169694538655860851:True:=trivial
theorem tw3417982023847635003:True:=trivial
theorem tw719137008859790874:True:=trivial
theorem tw17158635818170736880:True:=trivial
theorem tw11312025786117379152:True:=trivial
theorem tw12582239563431645044:True:=trivial
theorem tw16973385379211929909:True:=trivial
theorem tw4790177950303698186:True:=trivial
theorem tw15336084295092664993:True:=trivial
theorem tw3305164700127844168:True:=trivial
theorem tw12330282691159041576:True:=trivial
theorem tw11328355961567207054:True:=trivial
theorem tw16388562400895938111:True:=trivial
theorem tw15560968862264844067:True:=trivial
theorem tw16193543470646171429:True:=trivial
theorem tw6402343151297975668:True:=trivial
theorem tw7193066460629056774:True:=trivial
theorem tw4320311779069750341:True:=trivial
theorem tw11784133275120446707:True:=trivial
theorem tw13638642187497180044:True:=trivial
theorem tw9885911307005537344:True:=trivial
theorem tw6289596921357796678:True:=trivial
theorem tw7948268026195312939:True:=trivial
theorem tw4983582344747081947:True:=trivial
theorem tw8687385131758331849:True:=trivial
theorem tw12771000469879839520:True:=trivial
theorem tw3593585493246619879:True:=trivial
theorem tw16703181838186549567:True:=trivial
theorem tw2477887786320925950:True:=trivial
theorem tw3644468535002878392:True:=trivial
theorem tw5971199891038307216:True:=trivial
theorem tw6296583138583606770:True:=trivial
theorem tw6296786316042844068:True:=trivial
theorem tw10558929615574239066:True:=trivial
theorem tw950875876383707117:True:=trivial
theorem tw495400199190213756:True:=trivial
theorem tw17373036008013623657:True:=trivial
theorem tw13281266777303221993:True:=trivial
theorem tw18211224907830447795:True:=trivial
theorem tw15157111088764175785:True:=trivial
theorem tw1891003502915914500:True:=trivial
theorem tw12172986134692578555:True:=trivial
theorem tw18077076339552034827:True:=trivial
theorem tw2128602403743518549:True:=trivial
theorem tw13766750518885530643:True:=trivial
theorem tw1530847337952639636:True:=trivial
theorem tw15455349159366442377:True:=trivial
theorem tw5237684196470679044:True:=trivial
theorem tw7952025235776409156:True:=trivial
theorem tw17127106042523541976:True:=trivial
theorem tw8342694851203176872:True:=trivial
theorem tw10607838514231067809:True:=trivial
theorem tw15790097262633251822:True:=trivial
theorem tw5791048152383103996:True:=trivial
theorem tw9069080814863639966:True:=trivial
theorem tw4572330400172431316:True:=trivial
theorem tw14377565998607045407:True:=trivial
theorem tw17471477893803166848:True:=trivial
theorem tw10941966547800299515:True:=trivial
theorem tw8405202880544428080:True:=trivial
theorem tw4574959094489301328:True:=trivial
theorem tw12833734123014851154:True:=trivial
theorem tw9017567752254076051:True:=trivial
theorem tw448556565793224090:True:=trivial
theorem tw5852184416783463556:True:=trivial
theorem tw6967305562702627218:True:=trivial
theorem tw13368107857515959348:True:=trivial
theorem tw14095366054331216176:True:=trivial
theorem tw13874186389704408090:True:=trivial
theorem tw1672174542737971364:True:=trivial
theorem tw2973525467550716741:True:=trivial
theorem tw18106286154704224484:True:=trivial
theorem tw2113771005561180281:True:=trivial
theorem tw10865195856794250388:True:=trivial
theorem tw3334435291411306825:True:=trivial
theorem tw10926055655908196525:True:=trivial
theorem tw7884651511775667424:True:=trivial
theorem tw6760277236333625044:True:=trivial
theorem tw3670630675220423098:True:=trivial
theorem tw18301084499284627607:True:=trivial
theorem tw1004366907805511740:True:=trivial
theorem tw13123874053306607347:True:=trivial
theorem tw8722891029586463396:True:=trivial
theorem tw16319473668690892887:True:=trivial
theorem tw13268283721309270141:True:=trivial
theorem tw7915426110088956583:True:=trivial
theorem tw2416897831113168731:True:=trivial
theorem tw9771176818108269563:True:=trivial
theorem tw15418286254132046644:True:=trivial
theorem tw3642643805254700987:True:=trivial
theorem tw8935845181660796144:True:=trivial
theorem tw8083150497533708986:True:=trivial
theorem tw17103268321994940226:True:=trivial
theorem tw15417184731980451308:True:=trivial
theorem tw5202523076704892162:True:=trivial
theorem tw2281433433060818625:True:=trivial
theorem tw4624466169783431580:True:=trivial
theorem tw5809451790445272016:True:=trivial
theorem tw17072787492320426391:True:=trivial
theorem tw3452270742807199960:True:=trivial
theorem tw9348908131772855458:True:=trivial
theorem tw1168704323413808066:True:=trivial
theorem tw4149277795325421506:True:=trivial
theorem tw10642696781189025682:True:=trivial
theorem tw16128675098585055967:True:=trivial
theorem tw5628906591189043235:True:=trivial
theorem tw8516579142626445821:True:=trivial
theorem tw2777831440959703581:True:=trivial
theorem tw10020953630945754729:True:=trivial
theorem tw13249057344915701655:True:=trivial
theorem tw15693245750574221697:True:=trivial
theorem tw3869031141554512818:True:=trivial
theorem tw12106639468533396292:True:=trivial
theorem tw18398948225269538830:True:=trivial
theorem tw12630969721752813524:True:=trivial
theorem tw7407183745169977355:True:=trivial
theorem tw4816695896686911364:True:=trivial
theorem tw12164373689482790975:True:=trivial
theorem tw122783411397554149:True:=trivial
theorem tw8329518537793478172:True:=trivial
theorem tw7161723151976222379:True:=trivial
theorem tw7495536438579149509:True:=trivial
theorem tw1395434616137548210:True:=trivial
theorem tw5866284371746218759:True:=trivial
theorem tw3882891913372497752:True:=trivial
theorem tw14187364179725659982:True:=trivial
theorem tw11455503685881073695:True:=trivial
theorem tw8348005413070005782:True:=trivial
theorem tw8088563939054928382:True:=trivial
theorem tw7097224582067325223:True:=trivial
theorem tw4791171914303140826:True:=trivial
theorem tw10136995358913954254:True:=trivial
theorem tw13063444956216399973:True:=trivial
theorem tw6252308850238813389:True:=trivial
theorem tw7502053677557663322:True:=trivial
theorem tw7488359169412343465:True:=trivial
theorem tw13785886756688719410:True:=trivial
theorem tw17439060565335648358:True:=trivial
theorem tw2105252210799712665:True:=trivial
theorem tw10829716653563480494:True:=trivial
theorem tw8855657571211820347:True:=trivial
theorem tw2242557746962315244:True:=trivial
theorem tw17318284460896394972:True:=trivial
theorem tw15916006848427736229:True:=trivial
theorem tw9490022173048364895:True:=trivial
theorem tw15271882638528212700:True:=trivial
theorem tw15721780588479362801:True:=trivial
theorem tw2401115038633777313:True:=trivial
theorem tw3517330796718738934:True:=trivial
theorem tw2009958059372650404:True:=trivial
theorem tw17205126299602222791:True:=trivial
theorem tw14324318566071600934:True:=trivial
theorem tw17541431379422334600:True:=trivial
theorem tw16548843642432600361:True:=trivial
theorem tw4844924873255486278:True:=trivial
theorem tw8452558649136004570:True:=trivial
theorem tw5179820711593831595:True:=trivial
theorem tw56243862612906029:True:=trivial
theorem tw7853833761131695737:True:=trivial
theorem tw11212239077401926985:True:=trivial
theorem tw6956315019897793356:True:=trivial
theorem tw3592570652109103998:True:=trivial
theorem tw1595598578420689354:True:=trivial
theorem tw7189606553782214341:True:=trivial
theorem tw7284748212288167894:True:=trivial
theorem tw6687542009934103453:True:=trivial
theorem tw5328926393038861157:True:=trivial
theorem tw14700962524756796413:True:=trivial
theorem tw10511235798125181949:True:=trivial
theorem tw18060498460807336971:True:=trivial
theorem tw7894854492884236025:True:=trivial
theorem tw5886231183139357055:True:=trivial
theorem tw11365656756853930079:True:=trivial
theorem tw13159924842825863995:True:=trivial
theorem tw7425553262107764757:True:=trivial
theorem tw2098220982230725771:True:=trivial
theorem tw5758298388778137328:True:=trivial
theorem tw13511746865640366007:True:=trivial
theorem tw13508813176301346152:True:=trivial
theorem tw7947305003358822795:True:=trivial
theorem tw17181060222059168749:True:=trivial
theorem tw18109078143370092310:True:=trivial
theorem tw15742268976086675358:True:=trivial
theorem tw16418277752002670834:True:=trivial
theorem tw14835153933881028615:True:=trivial
theorem tw417425202539963425:True:=trivial
theorem tw1439136592019443401:True:=trivial
theorem tw5249073314393738702:True:=trivial
theorem tw6425563562128040639:True:=trivial
theorem tw17397920820705810169:True:=trivial
theorem tw10557890441074096795:True:=trivial
theorem tw11270838107326113412:True:=trivial
theorem tw5611635041041064302:True:=trivial
theorem tw621455961467746138:True:=trivial
theorem tw10265804253236750739:True:=trivial
theorem tw17430282486680246898:True:=trivial
theorem tw3073862200592000564:True:=trivial
theorem tw14697806606182660944:True:=trivial
theorem tw3858342443684668572:True:=trivial
theorem tw5143908210057896307:True:=trivial
theorem tw950934940616646544:True:=trivial
theorem tw14320598007093368248:True:=trivial
theorem tw4247095420848619833:True:=trivial
theorem tw3994226107984389378:True:=trivial
theorem tw17579395243009702886:True:=trivial
theorem tw5005077275091778995:True:=trivial
theorem tw11688976035462349946:True:=trivial
theorem tw13868635661664041011:True:=trivial
theorem tw7815269059935764454:True:=trivial
theorem tw16975820276612337628:True:=trivial
theorem tw14272981093895133958:True:=trivial
theorem tw7500276999395129802:True:=trivial
theorem tw4781973103466123019:True:=trivial
theorem tw10655006512950790315:True:=trivial
theorem tw15719954273920961964:True:=trivial
theorem tw999907297636552838:True:=trivial
theorem tw11214889271271672545:True:=trivial
theorem tw2283290021156519175:True:=trivial
theorem tw4108136222850191314:True:=trivial
theorem tw13880924215448895408:True:=trivial
theorem tw5999752456779339499:True:=trivial
theorem tw928519892444108848:True:=trivial
theorem tw975274313712718448:True:=trivial
theorem tw6275586475431922125:True:=trivial
theorem tw12329744786499943297:True:=trivial
theorem tw2491435972520683621:True:=trivial
theorem tw201466219049084705:True:=trivial
theorem tw5467502694348171877:True:=trivial
theorem tw12118452623455949734:True:=trivial
theorem tw5735849724329220356:True:=trivial
theorem tw13571240817645321251:True:=trivial
theorem tw17237998573188396912:True:=trivial
theorem tw7601690066903571502:True:=trivial
theorem tw6882245960979961874:True:=trivial
theorem tw6072464412851907785:True:=trivial
theorem tw18167278513586685717:True:=trivial
theorem tw3824072704648469028:True:=trivial
theorem tw3605283918959502665:True:=trivial
theorem tw6930873630146444351:True:=trivial
theorem tw10137236032772663944:True:=trivial
theorem tw13139782086033670194:True:=trivial
theorem tw1864843279693238629:True:=trivial
theorem tw6186871299609111908:True:=trivial
theorem tw9177494398531947767:True:=trivial
theorem tw14409642396326330845:True:=trivial
theorem tw10329944087266389809:True:=trivial
theorem tw13580822707097801971:True:=trivial
theorem tw6653585765798253760:True:=trivial
theorem tw11351802161372978523:True:=trivial
theorem tw17474910033352991895:True:=trivial
theorem tw17343572063366760647:True:=trivial
theorem tw11364351826314570060:True:=trivial
theorem tw1095855301812279100:True:=trivial
theorem tw14101971515645613034:True:=trivial
theorem tw1436450223995460605:True:=trivial
theorem tw11394682030266172164:True:=trivial
theorem tw6681595665363281574:True:=trivial
theorem tw2441982976637128520:True:=trivial
theorem tw14595363553508299396:True:=trivial
theorem tw710224271456663779:True:=trivial
theorem tw18212700835352831940:True:=trivial
theorem tw16711126582552253472:True:=trivial
theorem tw16288966094137126517:True:=trivial
theorem tw17384260992305468234:True:=trivial
theorem tw2946156515579250384:True:=trivial
theorem tw2436351176566478075:True:=trivial
theorem tw835216752320495882:True:=trivial
theorem tw18152584006352365393:True:=trivial
theorem tw1277035354522627965:True:=trivial
theorem tw14402135991197260571:True:=trivial
theorem tw18338332530328619724:True:=trivial
theorem tw17766844340988098013:True:=trivial
theorem tw5299829498812546477:True:=trivial
theorem tw3904010004098456431:True:=trivial
theorem tw12997782301903669281:True:=trivial
theorem tw4211769940935237587:True:=trivial
theorem tw2543928799120100550:True:=trivial
theorem tw4243544352166911173:True:=trivial
theorem tw5162724121683371597:True:=trivial
theorem tw14237198678596930018:True:=trivial
theorem tw8001696670296168081:True:=trivial
theorem tw4335636124836114069:True:=trivial
theorem tw13981660390035163773:True:=trivial
theorem tw541907649080311410:True:=trivial
theorem tw2711849034727951304:True:=trivial
theorem tw14836281569401121201:True:=trivial
theorem tw14165342286978417464:True:=trivial
theorem tw1092865930529087645:True:=trivial
theorem tw1549717902731058967:True:=trivial
theorem tw2805465344505787573:True:=trivial
theorem tw2687005607789138603:True:=trivial
theorem tw9400235064500291559:True:=trivial
theorem tw7256075640105773385:True:=trivial
theorem tw14311096222320044945:True:=trivial
theorem tw8018474245890848287:True:=trivial
theorem tw13681728211764863639:True:=trivial
theorem tw16972093711034636506:True:=trivial
theorem tw2425205137781504376:True:=trivial
theorem tw3811151450256170376:True:=trivial
theorem tw4898599094677812741:True:=trivial
theorem tw3613989550678809604:True:=trivial
theorem tw3928780471992795417:True:=trivial
theorem tw3896039461374208227:True:=trivial
theorem tw2116281647847618217:True:=trivial
theorem tw3859292811999992750:True:=trivial
theorem tw1646199429667797101:True:=trivial
theorem tw6330394048714510607:True:=trivial
theorem tw6718481948756179353:True:=trivial
theorem tw11390838718472727775:True:=trivial
theorem tw5781693290129165959:True:=trivial
theorem tw3025411272121720387:True:=trivial
theorem tw7333835426543982669:True:=trivial
theorem tw16887781470068216017:True:=trivial
theorem tw9964171927215708268:True:=trivial
theorem tw872179568960414376:True:=trivial
theorem tw3219052064992411395:True:=trivial
theorem tw3165517225732508229:True:=trivial
theorem tw10615109143033534711:True:=trivial
theorem tw8458136034028887725:True:=trivial
theorem tw17315006719381213089:True:=trivial
theorem tw17889567129664060042:True:=trivial
theorem tw15023068359527135020:True:=trivial
theorem tw5732752487861846057:True:=trivial
theorem tw337834639240190445:True:=trivial
theorem tw7422779780116143306:True:=trivial
theorem tw8586318364538707564:True:=trivial
theorem tw10464735207409476207:True:=trivial
theorem tw6148935958714316364:True:=trivial
theorem tw11013368330341475390:True:=trivial
theorem tw5972915159636093499:True:=trivial
theorem tw8608721343689067530:True:=trivial
theorem tw2729475625838196644:True:=trivial
theorem tw4650598573025261651:True:=trivial
theorem tw14390659797747912558:True:=trivial
theorem tw10828979690959884713:True:=trivial
theorem tw4514143257794168490:True:=trivial
theorem tw4625253978955944861:True:=trivial
theorem tw6079608477179525088:True:=trivial
theorem tw10145005178824270249:True:=trivial
theorem tw6787993879896585252:True:=trivial
theorem tw7575397713592187054:True:=trivial
theorem tw6125590224647880097:True:=trivial
theorem tw12575492605528324170:True:=trivial
theorem tw15560374286667811892:True:=trivial
theorem tw6282754764412642063:True:=trivial
theorem tw7742451579086602182:True:=trivial
theorem tw3848967890079109328:True:=trivial
theorem tw881702097641800345:True:=trivial
theorem tw3186100546232874890:True:=trivial
theorem tw15969359545367350672:True:=trivial
theorem tw4078228747148210683:True:=trivial
theorem tw2763258969842102412:True:=trivial
theorem tw17628466312475108120:True:=trivial
theorem tw11666546026167810037:True:=trivial
theorem tw14313246108259354108:True:=trivial
theorem tw777566309337962361:True:=trivial
theorem tw5667598208081347761:True:=trivial
theorem tw14220167583963634092:True:=trivial
theorem tw14754245820720774869:True:=trivial
theorem tw14532277795808971900:True:=trivial
theorem tw14918984972941854038:True:=trivial
theorem tw8145682418098771816:True:=trivial
theorem tw17827628424188985647:True:=trivial
theorem tw652611604662736286:True:=trivial
theorem tw18065178198018005238:True:=trivial
theorem tw165599151421847514:True:=trivial
theorem tw13916779332016789050:True:=trivial
theorem tw18270731488561226473:True:=trivial
theorem tw16509588197743135270:True:=trivial
theorem tw274038835666240501:True:=trivial
theorem tw14521588869618397959:True:=trivial
theorem tw6402864536454972929:True:=trivial
theorem tw7162076749262319571:True:=trivial
theorem tw1403029859231304264:True:=trivial
theorem tw16233813687898900326:True:=trivial
theorem tw1703044064511724615:True:=trivial
theorem tw14160494860496957095:True:=trivial
theorem tw14229745764719087012:True:=trivial
theorem tw7789096049588629903:True:=trivial
theorem tw2157920873601674844:True:=trivial
theorem tw5011045424153849928:True:=trivial
theorem tw11097893833762237529:True:=trivial
theorem tw5915241825161526704:True:=trivial
theorem tw5657775111058437236:True:=trivial
theorem tw7035967039513725023:True:=trivial
theorem tw10604123132535372242:True:=trivial
theorem tw10285677139139571733:True:=trivial
theorem tw10937369639710994030:True:=trivial
theorem tw10117033360234320634:True:=trivial
theorem tw5934911547019418818:True:=trivial
theorem tw15449372949585805546:True:=trivial
theorem tw7390856057821447817:True:=trivial
theorem tw18089136828398357131:True:=trivial
theorem tw12739736321323136598:True:=trivial
theorem tw7563916447416184181:True:=trivial
theorem tw3215841637444670805:True:=trivial
theorem tw8520351243912031110:True:=trivial
theorem tw5905441366381447665:True:=trivial
theorem tw5805668976196587130:True:=trivial
theorem tw10541869236155353968:True:=trivial
theorem tw8856641732041089007:True:=trivial
theorem tw5796530057670167186:True:=trivial
theorem tw6243310835696584481:True:=trivial
theorem tw16205985125421986392:True:=trivial
theorem tw17414063762346760255:True:=trivial
theorem tw6020639252749342938:True:=trivial
theorem tw16921293830058047933:True:=trivial
theorem tw9080546482275745421:True:=trivial
theorem tw6903937153845340517:True:=trivial
theorem tw10844132671033639407:True:=trivial
theorem tw2976447398567588705:True:=trivial
theorem tw18102395421471187551:True:=trivial
theorem tw3948620508326494475:True:=trivial
theorem tw10272212670512840124:True:=trivial
theorem tw15762333119605219800:True:=trivial
theorem tw15414818201819663541:True:=trivial
theorem tw112871699475617510:True:=trivial
theorem tw3546563047205379992:True:=trivial
theorem tw8877470251812612263:True:=trivial
theorem tw10043859492233356840:True:=trivial
theorem tw3965340923035814266:True:=trivial
theorem tw11809815324818484127:True:=trivial
theorem tw8031993118760507722:True:=trivial
theorem tw15411554644719956464:True:=trivial
theorem tw9109469810870181906:True:=trivial
theorem tw11473412462568066663:True:=trivial
theorem tw14816247321253098233:True:=trivial
theorem tw15337494465887612411:True:=trivial
theorem tw1133457454725514612:True:=trivial
theorem tw674612390706129848:True:=trivial
theorem tw7905786752468269324:True:=trivial
theorem tw7707645771903250177:True:=trivial
theorem tw320997679183582734:True:=trivial
theorem tw7624900630086121898:True:=trivial
theorem tw1357299942858249061:True:=trivial
theorem tw11362788238639287052:True:=trivial
theorem tw10734623765520421054:True:=trivial
theorem tw2844724254021245315:True:=trivial
theorem tw11299345204626270671:True:=trivial
theorem tw17418341379168210603:True:=trivial
theorem tw10178513397574573326:True:=trivial
theorem tw7099498969673387877:True:=trivial
theorem tw16807697910856826666:True:=trivial
theorem tw15335733771583295069:True:=trivial
theorem tw9914066607892733024:True:=trivial
theorem tw6093840192300403836:True:=trivial
theorem tw2073014639831534223:True:=trivial
theorem tw2357584476590128736:True:=trivial
theorem tw17603732561292841675:True:=trivial
theorem tw7843599495148349103:True:=trivial
theorem tw9559601265208927449:True:=trivial
theorem tw13350361169410663782:True:=trivial
theorem tw11456099856028611436:True:=trivial
theorem tw11430960927484148962:True:=trivial
theorem tw15476819196823444420:True:=trivial
theorem tw12788089688809182195:True:=trivial
theorem tw2567624673824814850:True:=trivial
theorem tw16318158168768661164:True:=trivial
theorem tw15341915681827116932:True:=trivial
theorem tw5784395799430860217:True:=trivial
theorem tw12798416587074780505:True:=trivial
theorem tw3202412252416081110:True:=trivial
theorem tw9531068795328134750:True:=trivial
theorem tw16111841490229539202:True:=trivial
theorem tw10721466914476115058:True:=trivial
theorem tw3038579578466791239:True:=trivial
theorem tw3461770019610479755:True:=trivial
theorem tw5184740954357869577:True:=trivial
theorem tw14363912103084676377:True:=trivial
theorem tw17323846008082334223:True:=trivial
theorem tw7273217539699011978:True:=trivial
theorem tw3342358554334765284:True:=trivial
theorem tw16521813249971815049:True:=trivial
theorem tw1190891963189983472:True:=trivial
theorem tw10969990008011780005:True:=trivial
theorem tw15535606275565205629:True:=trivial
theorem tw10419650873571925962:True:=trivial
theorem tw3411833131242129841:True:=trivial
theorem tw14706943509945456188:True:=trivial
theorem tw11682150395979065385:True:=trivial
theorem tw12028809034747186097:True:=trivial
theorem tw7184868303025370082:True:=trivial
theorem tw2606999932871816437:True:=trivial
theorem tw14503935350596805251:True:=trivial
theorem tw13671947399985382884:True:=trivial
theorem tw3661708109407982407:True:=trivial
theorem tw8639543209713480785:True:=trivial
theorem tw3532616908800767746:True:=trivial
theorem tw3813982490813475732:True:=trivial
theorem tw1689021117787207203:True:=trivial
theorem tw4277027220136721014:True:=trivial
theorem tw11421938674286453247:True:=trivial
theorem tw6777307857114140973:True:=trivial
theorem tw11559253915351754107:True:=trivial
theorem tw9346334129487754127:True:=trivial
theorem tw13300389814214758947:True:=trivial
theorem tw17605897294852178607:True:=trivial
theorem tw2810894876212070747:True:=trivial
theorem tw1856244935329775629:True:=trivial
theorem tw5192520004072398357:True:=trivial
theorem tw12065184976156796534:True:=trivial
theorem tw7950705054256159374:True:=trivial
theorem tw9114732670989095593:True:=trivial
theorem tw11967361185017829075:True:=trivial
theorem tw18383105867865063957:True:=trivial
theorem tw286215968911099973:True:=trivial
theorem tw5322131435256477361:True:=trivial
theorem tw627271355015678018:True:=trivial
theorem tw13714797656537936569:True:=trivial
theorem tw7290869934209562674:True:=trivial
theorem tw13642444477476022224:True:=trivial
theorem tw1165198384719967363:True:=trivial
theorem tw5686040825581309582:True:=trivial
theorem tw10917560895891372296:True:=trivial
theorem tw13482045786240742641:True:=trivial
theorem tw1304841831755758061:True:=trivial
theorem tw15753275044245155420:True:=trivial
theorem tw10778612397058953725:True:=trivial
theorem tw15513297352293069130:True:=trivial
theorem tw15448704016388282800:True:=trivial
theorem tw16067925714316701002:True:=trivial
theorem tw13062044116615149423:True:=trivial
theorem tw7959841093792279050:True:=trivial
theorem tw148863362039444287:True:=trivial
theorem tw16008988331744466482:True:=trivial
theorem tw15948722976628672599:True:=trivial
theorem tw14508279663930674099:True:=trivial
theorem tw6003821355503269021:True:=trivial
theorem tw13560552689800307433:True:=trivial
theorem tw7595146963025775000:True:=trivial
theorem tw9650909130615146765:True:=trivial
theorem tw14549260388588987612:True:=trivial
theorem tw4442190911653547206:True:=trivial
theorem tw10862517522809762626:True:=trivial
theorem tw13773087170405235549:True:=trivial
theorem tw11279310468085188556:True:=trivial
theorem tw15549152247860222868:True:=trivial
theorem tw10009660092490261660:True:=trivial
theorem tw4495267697995040708:True:=trivial
theorem tw17010730793775000155:True:=trivial
theorem tw3363144885669296043:True:=trivial
theorem tw7031444674465609349:True:=trivial
theorem tw2923196881943061448:True:=trivial
theorem tw425867006453093491:True:=trivial
end PySem.W.Fast
set_option maxRecDepth 100000 in
set_option maxHeartbeats 0 in
theorem PySem.Challenge.cw_crookroad_k50_whole_goings_holds : PySem.Challenge.rw_crookroad_k50_whole_goings.Holds := by
 w_on;o_law;k_head;(case hw=>w_witness2)
 k_fill
 refine My.walk (l:=PySem.Challenge.rw_crookroad_k50_whole_goings) rfl rfl (fun w h Y=>PySem.W.kIn_of Y) ?F
 case F =>
  intro w mg fa h KX G hmg
  refine' My.all_mk KX G hmg ?d__law_cell ?d__law_pick ?d_check_bottom ?d_common_divisor ?d_lowest ?d_check_count ?d_is_line ?d_trace ?d_spot ?d_led_to ?d_set_down ?d_is_name ?d_check_new_name ?d_exchange ?d__law_climb ?d__law_heights ?d__law_step ?d__law_trace ?d__law_after ?d__law_common ?d__law_low ?d__law_spot ?d__law_whole ?d__law_point ?d__law_names ?d__law_led ?d_law ?a_RoadError ?x_RoadError ?a_BadLine ?x_BadLine ?a_BadBottom ?x_BadBottom ?a_OffRoad ?x_OffRoad ?a_BadCount ?x_BadCount ?a_TooLong ?x_TooLong ?a_BadRow ?x_BadRow ?a_BadName ?x_BadName ?a_Taken ?x_Taken ?a_NoRoad ?x_NoRoad ?a_NoWalker ?x_NoWalker ?a_Road ?pg_Road ?hd_Road ?po_Road ?sa_Road ?mk_Road ?kc_Road ?m_Road___init__ ?m_Road_width ?m_Road_ends ?m_Road_on_road ?m_Road_at ?a_Walker ?pg_Walker ?hd_Walker ?po_Walker ?sa_Walker ?mk_Walker ?kc_Walker ?m_Walker___init__ ?m_Walker_gone ?a_House ?pg_House ?hd_House ?po_House ?sa_House ?mk_House ?kc_House ?m_House___init__ ?m_House_road_called ?m_House_walker_called ?m_House_deeds ?m_House_do ?m_House_lay ?m_House_where ?m_House_place ?m_House_go ?m_House_walkers_on ?m_House_together ?na_Road_heights ?na_Walker_whose ?na_Walker_point ?na_Walker_times ?na_House_roads ?na_House_walkers ?na_House_done ?g_WIDEST ?g_LONGEST_TRACE ?g_FARTHEST ?g_LONGEST_NAME ?g_GREATEST_BOTTOM ?g_LETTERS ?z_len ?z_abs ?z_range ?z_list ?z_min ?z_max ?z_all ?z_any ?z_sorted ?z_enumerate ?z_dict ?z_isinstance ?z_int ?z_bool ?z_tuple
  (case d__law_cell=>walk_at "def")
  (case d__law_pick=>walk_at "def")
  (case d_check_bottom=>walk_at "def")
  (case d_common_divisor=>walk_at "def")
  (case d_lowest=>walk_at "def")
  (case d_check_count=>walk_at "defD")
  (case d_is_line=>walk_at "def")
  (case d_trace=>walk_at "def")
  (case d_spot=>walk_at "def")
  (case d_led_to=>walk_at "def")
  (case d_set_down=>walk_at "def")
  (case d_is_name=>walk_at "def")
  (case d_check_new_name=>walk_at "def")
  (case d_exchange=>walk_at "def")
  (case d__law_climb=>walk_at "def")
  (case d__law_heights=>walk_at "def")
  (case d__law_step=>walk_at "def")
  (case d__law_trace=>walk_at "def")
  (case d__law_after=>walk_at "def")
  (case d__law_common=>walk_at "def")
  (case d__law_low=>walk_at "def")
  (case d__law_spot=>walk_at "def")
  (case d__law_whole=>walk_at "def")
  (case d__law_point=>walk_at "def")
  (case d__law_names=>walk_at "def")
  (case d__law_led=>walk_at "def")
  (case d_law=>walk_at "def")
  (case a_RoadError=>k_is)
  (case x_RoadError=>k_exc)
  (case a_BadLine=>k_is)
  (case x_BadLine=>k_exc)
  (case a_BadBottom=>k_is)
  (case x_BadBottom=>k_exc)
  (case a_OffRoad=>k_is)
  (case x_OffRoad=>k_exc)
  (case a_BadCount=>k_is)
  (case x_BadCount=>k_exc)
  (case a_TooLong=>k_is)
  (case x_TooLong=>k_exc)
  (case a_BadRow=>k_is)
  (case x_BadRow=>k_exc)
  (case a_BadName=>k_is)
  (case x_BadName=>k_exc)
  (case a_Taken=>k_is)
  (case x_Taken=>k_exc)
  (case a_NoRoad=>k_is)
  (case x_NoRoad=>k_exc)
  (case a_NoWalker=>k_is)
  (case x_NoWalker=>k_exc)
  (case a_Road=>k_is)
  (case pg_Road=>k_is)
  (case hd_Road=>k_is)
  (case po_Road=>k_is)
  (case sa_Road=>k_is)
  (case mk_Road=>k_is)
  (case kc_Road=>k_is)
  (case m_Road___init__=>walk_at "meth")
  (case m_Road_width=>walk_at "meth")
  (case m_Road_ends=>walk_at "meth")
  (case m_Road_on_road=>walk_at "meth")
  (case m_Road_at=>walk_at "meth")
  (case a_Walker=>k_is)
  (case pg_Walker=>k_is)
  (case hd_Walker=>k_is)
  (case po_Walker=>k_is)
  (case sa_Walker=>k_is)
  (case mk_Walker=>k_is)
  (case kc_Walker=>k_is)
  (case m_Walker___init__=>walk_at "meth")
  (case m_Walker_gone=>walk_at "meth")
  (case a_House=>k_is)
  (case pg_House=>k_is)
  (case hd_House=>k_is)
  (case po_House=>k_is)
  (case sa_House=>k_is)
  (case mk_House=>k_is)
  (case kc_House=>k_is)
  (case m_House___init__=>walk_at "meth")
  (case m_House_road_called=>walk_at "meth")
  (case m_House_walker_called=>walk_at "meth")
  (case m_House_deeds=>walk_at "meth")
  (case m_House_do=>walk_at "meth")
  (case m_House_lay=>walk_at "meth")
  (case m_House_where=>walk_at "meth")
  (case m_House_place=>walk_at "meth")
  (case m_House_go=>walk_at "meth")
  (case m_House_walkers_on=>walk_at "meth")
  (case m_House_together=>walk_at "meth")
  (case na_Road_heights=>k_is)
  (case na_Walker_whose=>k_is)
  (case na_Walker_point=>k_is)
  (case na_Walker_times=>k_is)
  (case na_House_roads=>k_is)
  (case na_House_walkers=>k_is)
  (case na_House_done=>k_is)
  (case g_WIDEST=>k_is)
  (case g_LONGEST_TRACE=>k_is)
  (case g_FARTHEST=>k_is)
  (case g_LONGEST_NAME=>k_is)
  (case g_GREATEST_BOTTOM=>k_is)
  (case g_LETTERS=>k_is)
  (case z_len=>k_is)
  (case z_abs=>k_is)
  (case z_range=>k_is)
  (case z_list=>k_is)
  (case z_min=>k_is)
  (case z_max=>k_is)
  (case z_all=>k_is)
  (case z_any=>k_is)
  (case z_sorted=>k_is)
  (case z_enumerate=>k_is)
  (case z_dict=>k_is)
  (case z_isinstance=>k_is)
  (case z_int=>k_is)
  (case z_bool=>k_is)
  (case z_tuple=>k_is)
