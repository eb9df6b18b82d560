import PyProof.Rows.All
import Wide.All
import OpenK.AllK
import Wide.FinOn
import Lean
import PyProof.EqAt
import PyProof.EqKinds
import PyProof.TupleCall
import PyProof.NeData
import KE.IntBitsLaws
import KE.KDictList
import PyProof.DictIter
import PyProof.DictItems
import PyProof.DictWalks
import PyProof.StrLoop
import KE.KPairComp
import PyProof.StrWalks
import KE.KSortKey
import KE.KDictOf
import PyProof.Rows.TupDisplay
import PyProof.DictCompW
import PySem.Challenge.RW_crookroad_k61_whole_stories_apart
set_option Elab.async false
set_option linter.all false
set_option maxRecDepth 100000
local macro_rules|`(tactic|lia)=>`(tactic|first|lia +splitIte|omega)
def aa:=@PySem.wpAny_bind
def ac:=@List.length_map
def ae:=@PySem.Heap.get?_push_of_some
def af:=@Nat.le_refl
def ag:=@if_neg
def ai:=@List.mem_cons
def aj:=@List.not_mem_nil
def ak:=@if_pos
def al:=@PySem.Heap.lt_size
def am:=@PySem.wpAny_pure
def ao:=@List.drop_eq_getElem_cons
def aq:=@List.mem_singleton
def ar:=@List.getElem?_eq_getElem
def au:=@PySem.Heap.get?_push_size
def av:=@Nat.ne_of_lt
def aw:=@List.mem_map
def ax:=@List.mem_append_right
def ay:=@List.getD_eq_getElem?_getD
def az:=@Option.some.inj
def aA:=@Bool.false_ne_true
def aB:=@Nat.zero_le
def aC:=@List.mem_cons_of_mem
def aD:=@List.lookup_cons
def aE:=@Nat.lt_of_lt_of_le
def aF:=@Int.mul_le_mul_of_nonneg_right
def aG:=@List.length_append
def aH:=@List.getElem?_map
def aI:=@List.size_toArray
def aJ:=@List.length_range
def aK:=@beq_eq_false_iff_ne
def aL:=@PySem.W.mg_of
def aM:=@List.getElem?_eq_some_iff
def aN:=@List.mem_of_getElem?
def aO:=@List.mem_cons_self
def aP:=@PySem.wpAny_mono
def aQ:=@Nat.lt_irrefl
def aR:=@PySem.W.mg_none_of
def aS:=@List.nodup_cons
def aT:=@List.map_append
def aU:=@List.nodup_nil
def aV:=@PySem.boot_len
def aW:=@Ne.symm
def aX:=@List.length_cons
def aY:=@PySem.PassesOwn.leaving
def aZ:=@List.map_cons
def bb:=@List.mem_range
def bd:=@Array.length_toList
def be:=@or_false
def bg:=@List.mem_append
def bh:=@Nat.lt_trans
def bi:=@Int.emod_lt_of_pos
def bj:=@List.getElem?_append_right
def bn:=@Bool.and_eq_true
def bo:=@PySem.Paired.length
def bp:=@decide_eq_false
def bq:=@PySem.W.kia_one
def br:=@Int.emod_nonneg
def bt:=@List.filter_cons
def bu:=@List.getElem?_append_left
def bv:=@Int.mul_le_mul_of_nonneg_left
def bw:=@List.pairwise_map
def bx:=@List.getElem?_eq_none
def bz:=@Nat.le_of_ble_eq_true
def bA:=@Nat.le_of_lt
def bB:=@PySem.F.slot_dict_keyiterator_next
def bC:=@List.cons_ne_nil
def bD:=@decide_eq_true
def bE:=@Array.getElem?_eq_getElem
def bF:=@PySem.F.slot_dict_get
def bG:=@List.length_take
def bH:=@Nat.le_trans
def bI:=@List.Pairwise.imp_of_mem
def bJ:=@congrArg
def bK:=@PySem.wpAny_typeNameOfWhole_keyiter
def bL:=@PySem.wpAny_newObj_type
def bM:=@PySem.wpAny_dictEntries
def bN:=@PySem.F.plainAttrs_list
def bO:=@List.map_congr_left
def bP:=@PyProof.Rows.callWith_type1
def bQ:=@PySem.Calls.callWith_builtin
def bR:=@Array.getElem?_eq_none
def bS:=@List.map_map
def bT:=@List.all_eq_true
def bU:=@PySem.tupleKind_room_in1
def bV:=@Bool.false_eq_true
def bW:=@Array.getElem?_toList
def bX:=@Classical.byContradiction
def bY:=@List.mem_filter
def bZ:=@PySem.wpAny_passesOwn
def ca:=@List.append_nil
def cb:=@List.range_succ
def ce:=@PySem.wpAny_truthy_bool
def cf:=@Int.lt_or_le
def cg:=@PySem.wpAny_typeNameOf_keyiter
def ck:=@PySem.F.slot_list_append
def cm:=@PySem.F.type_list_append
def cu:=@PySem.mem_of_lookup
def cv:=@List.getElem?_range
def cw:=@PySem.wpAny_Call_Name_kw
def cx:=@Option.map_eq_some_iff
def cy:=@PySem.F.entry_dict_get
def cz:=@PyProof.Rows.boot_list
def cA:=@Bool.eq_iff_iff
def cB:=@Int.mul_ediv_mul_of_pos_left
def cC:=@List.find?_cons
def cD:=@Option.map_some
def cE:=@List.length_filter_le
def cF:=@Int.toNat_natCast
def cG:=@List.take_add_one
def cH:=@List.mem_append_left
def cI:=@PySem.Calls.evalArgs_plain
def cJ:=@Int.eq_of_mul_eq_mul_right
def cK:=@Array.size_map
def cL:=@Nat.mod_lt
def cM:=@List.getElem_mem
def cN:=@PySem.call_meetsIn
def cO:=@List.take_length
def cP:=@List.mem_of_find?_eq_some
def cQ:=@List.filterMap_cons
def cR:=@List.getElem_of_mem
def cS:=@PySem.Heap.SameBut.update
def cT:=@PySem.wpAny_standAt
def cU:=@Option.isSome_iff_exists
def cV:=@PySem.wpAny_comprehension_free
def cW:=@PySem.wpAny_holding
def cX:=@List.length_nil
def cY:=@PySem.Calls.spliced_cons
def cZ:=@Nat.lt_of_le_of_lt
def dc:=@List.find?_eq_none
def de:=@List.append_ne_nil_of_right_ne_nil
def df:=@PySem.F.plainAttrs_dict
def dh:=@PySem.wpAny_callSpecial?_slot
def di:=@Int.le_refl
def dj:=@List.append_ne_nil_of_left_ne_nil
def dm:=@PySem.Heap.size_push
def dn:=@List.map_nil
def du:=@Int.mul_comm
def dv:=@Int.mul_nonneg
def dz:=@List.pairwise_lt_range
def dA:=@of_decide_eq_true
def dB:=@decide_eq_true_eq
def dC:=@PyProof.Rows.boot_dict
def dD:=@PyProof.Rows.boot_min
def dE:=@List.getElem_inj
def dF:=@beq_iff_eq
def dG:=@PySem.wpAny_call_entry
def dH:=@PySem.F.args_dict_keyiterator_next_1
def dI:=@List.getElem_map
def dJ:=@List.mem_flatMap
def dL:=@Int.mul_ediv_cancel'
def dM:=@PySem.wpAny_newFunctionEnv
def dN:=@PySem.lookup_relabel_local
def dO:=@PySem.F.entry_dict_keyiterator_next
def dP:=@List.eq_nil_of_length_eq_zero
def dQ:=@Nat.div_lt_of_lt_mul
def dR:=@PySem.wpAny_execs_nil
def dS:=@Int.lt_ediv_add_one_mul_self
def dU:=@Nat.not_lt_zero
def dW:=@PyProof.Rows.boot_isinstance
def dX:=@PySem.W.plainGet_of
def dY:=@Int.toNat_of_nonneg
def dZ:=@Nat.ne_of_gt
def d6:=@PySem.codeAny_mono
def d7:=@Nat.lt_or_ge
def d8:=@Array.getD_eq_getD_getElem?
def el:=@PyProof.Rows.assignInOrder_cons
def eo:=@List.mem_filterMap
def eA:=@PySem.W.callWith_K
def eB:=@PySem.F.excBase_ValueError
def eC:=@Int.mul_lt_mul_of_pos_left
def eE:=@if_false
def eI:=@Array.getElem?_eq_some_iff
def eJ:=@List.exists_cons_of_ne_nil
def eK:=@PySem.F.slot_dict_delitem
def eN:=@PySem.wpAny_assign_Name
def eO:=@PySem.Calls.spliced_nil
def eP:=@Option.isSome_map
def eQ:=@List.length_erase
def eR:=@List.getElem_take
def eU:=@Nat.lt_trichotomy
def eV:=@List.length_erase_of_mem
def eW:=@PySem.wpAny_execs_cons
def eY:=@Int.natCast_dvd_natCast
def eZ:=@PySem.F.args_dict_get_2
def ff:=@PySem.F.args_dict_get_3
def fg:=@PySem.F.slot_dict_items
def fh:=@List.pairwise_singleton
def fi:=@List.of_mem_zip
def fj:=@Int.natCast_mul
def fk:=@Int.ediv_nonneg
def fo:=@Int.ediv_mul_le
def fu:=@PySem.wpAny_specialOf
def fw:=@PySem.wpAny_dictEpoch
def fA:=@List.any_cons
section
open PySem PySem.Spec PyProof.Rows
abbrev Aa:=PySem.W.Frag
abbrev Ab:=PySem.Shared
abbrev Ac:=PySem.Program
abbrev Ad:=PySem.FuncData
abbrev Ae:=Around
abbrev Af:=SortSt
abbrev Ag:=Value
abbrev Ah:=World
abbrev Ai:=Keyed
abbrev Aj:=Addr
end
namespace L2
theorem exI {α:Sort _}{A K:α→Prop}{v:α}(e:A v)(h:K v):∃x,A x∧K x:=⟨v,e,h⟩
theorem w6 {α β:Sort _}{A:α→Prop}{B:β→Prop}{K:α→β→Prop}{u:α}{v:β}(a:A u)(b:B v)(h:K u v):∃x y,A x∧B y∧K x y:=⟨u,v,a,b,h⟩
theorem exX {α β γ δ:Sort _}{A:α→Prop}{B:γ→Prop}{C:α→β→Prop}{D:β→γ→δ→Prop}{K:δ→Prop}{p:α}{xs:β}{i:γ}{v:δ}(a:A p)(b:B i)(c:C p xs)(d:D xs i v)(h:K v):∃p xs i v,A p∧B i∧C p xs∧D xs i v∧K v:=⟨p,xs,i,v,a,b,c,d,h⟩
end L2
namespace L2
open PySem PySem.Spec PyProof.Rows
abbrev Key:=Sum Int Str
def Yg:Key→Ag→Bool
 |.inl k,v=>Value.isInt k v
 |.inr x,v=>Value.isStrOf x v
def keyH (w:Ah):Key→Int
 |.inl k=>hashInt k
 |.inr x=>hashStr w x
theorem zm:∀ {k:Key} {v:Ag},Yg k v=true→(∃i t,k=Sum.inl i∧v=Value.int i t)∨(∃x t,k=Sum.inr x∧v=Value.str x t)
 |.inl i,v,h=>by
  obtain ⟨t,e⟩:=Value.isInt_shape (k:=i) (v:=v) h
  exact .inl ⟨i,t,rfl,e⟩
 |.inr x,v,h=>by
  obtain ⟨t,e⟩:=Value.isStrOf_shape (x:=x) (v:=v) h
  exact .inr ⟨x,t,rfl,e⟩
theorem wqq (i:Int)(t:Tok):Yg (.inl i) (.int i t)=true:=by simp [Yg,Value.isInt]
theorem wqm (x:Str)(t:Tok):Yg (.inr x) (.str x t)=true:=by simp [Yg,Value.isStrOf]
theorem key_ll (a b:Int):decide ((Sum.inl a:Key)=Sum.inl b)=(a==b):=by
 by_cases e:a=b
 ·subst e;simp
 ·have h:¬ (Sum.inl a:Key)=Sum.inl b:=λq=>e (Sum.inl.inj q)
  rw [bp h]
  exact (aK.mpr e).symm
theorem key_rr (a b:Str):decide ((Sum.inr a:Key)=Sum.inr b)=decide (a=b):=by
 by_cases e:a=b
 ·subst e;simp
 ·have h:¬ (Sum.inr a:Key)=Sum.inr b:=λq=>e (Sum.inr.inj q)
  rw [bp h,bp e]
theorem key_lr (a:Int)(b:Str):decide ((Sum.inl a:Key)=Sum.inr b)=false:=bp (λq=>nomatch q)
theorem key_rl (a:Str)(b:Int):decide ((Sum.inr a:Key)=Sum.inl b)=false:=bp (λq=>nomatch q)
def xh (prog:Ac)(w:Ah):PySem.KeyKind prog w Key where
 is:=Yg
 hash:=keyH w
 inj:=λv a b ha hb=>by
  rcases zm ha with ⟨i,t,rfl,rfl⟩|⟨x,t,rfl,rfl⟩
  ·rcases zm hb with ⟨j,u,rfl,e⟩|⟨y,u,rfl,e⟩
   ·injection e with e1 _;rw [e1]
   ·exact nomatch e
  ·rcases zm hb with ⟨j,u,rfl,e⟩|⟨y,u,rfl,e⟩
   ·exact nomatch e
   ·injection e with e1 _;rw [e1]
 byValue:=λk v h=>by
  rcases zm h with ⟨i,t,rfl,rfl⟩|⟨x,t,rfl,rfl⟩ <;> rfl
 pyHash:=λhv h=>by
  rcases zm hv with ⟨i,t,rfl,rfl⟩|⟨x,t,rfl,rfl⟩
  ·exact wpAny_pyHash_int h
  ·exact wpAny_pyHash_str h
 eqBool:=λhu hv h=>by
  rcases zm hu with ⟨i,t,rfl,rfl⟩|⟨x,t,rfl,rfl⟩
  ·rcases zm hv with ⟨j,u,rfl,rfl⟩|⟨y,u,rfl,rfl⟩
   ·rw [key_ll] at h;exact wpAny_eqBool_int h
   ·rw [key_lr] at h;exact SeqAt.EqAt.int_str i t y u _ _ _ _ h
  ·rcases zm hv with ⟨j,u,rfl,rfl⟩|⟨y,u,rfl,rfl⟩
   ·rw [key_rl] at h;exact SeqAt.EqAt.str_int x t j u _ _ _ _ h
   ·rw [key_rr] at h;exact wpAny_eqBool_str h
 «strs»:=λk x t v h=>by
  rcases zm h with ⟨i,u,rfl,e⟩|⟨y,u,rfl,e⟩
  ·exact nomatch e
  ·injection e with e1 _
   subst e1
   cases v <;> rfl
theorem qvq (prog:Ac)(w:Ah)(i:Int)(t:Tok):(xh prog w).is (.inl i) (.int i t)=true:=wqq i t
theorem qvp (prog:Ac)(w:Ah)(x:Str)(t:Tok):(xh prog w).is (.inr x) (.str x t)=true:=wqm x t
inductive V where
 |non|bl (b:Bool)|int (i:Int)|str (x:Str)|byt (b:Array UInt8)|flt (b:UInt64)|ref (a:Aj)|ty (n:String)
 deriving DecidableEq
def RelV:V→Ag→Prop
 |.non,u=>u=Value.none
 |.bl b,u=>u=Value.bool b
 |.int i,u=>∃t,u=Value.int i t
 |.str x,u=>∃t,u=Value.str x t
 |.byt b,u=>∃t,u=Value.bytes b t
 |.flt b,u=>∃t,u=Value.float b t
 |.ref a,u=>u=Value.ref a
 |.ty n,u=>u=Value.type n
abbrev Vals:List V→List Ag→Prop:=Paired RelV
theorem Vals.length {xs:List V}{us:List Ag}(r:Vals xs us):xs.length=us.length:=bo r
theorem Vals.get:∀ {xs:List V} {us:List Ag} {i:Nat} {x:V},Vals xs us→xs[i]?=some x→∃u,us[i]?=some u∧RelV x u
 |_,_,_,_,.nil,e=>by simp at e
 |_,_,0,_,.cons r _,e=>by simp at e;subst e;exact ⟨_,rfl,r⟩
 |_,_,i+1,x,.cons _ t,e=>by
  obtain ⟨u,h1,h2⟩:=Vals.get (i:=i) (x:=x) t (by simpa using e)
  exact ⟨u,by simpa using h1,h2⟩
theorem Vals.append:∀ {xs ys:List V} {us ws:List Ag},Vals xs us→Vals ys ws→Vals (xs++ys) (us++ws)
 |_,_,_,_,.nil,s=>s
 |_,_,_,_,.cons r t,s=>.cons r (Vals.append t s)
def RelO:Option V→Option Ag→Prop
 |some v,some u=>RelV v u
 |none,none=>True
 |_,_=>False
def KV {κ:Type}:List (κ×V)→List (κ×Ag)→Prop:=Paired λ(p:κ×V) (q:κ×Ag)=>p.1=q.1∧RelV p.2 q.2
def kV:Key→V
 |.inl i=>.int i
 |.inr x=>.str x
inductive HO where
 |lst (xs:List V)
 |tup (xs:List V)
 |dK (kvs:List (Key×V))|dT (kvs:List (List Key×V))
 |set (S:Int→Bool) (n:Nat)
 |ins (C dx:Aj) (fs:List (Str×V))
 |own (x:Aj)
 |xd (fs:List (Str×V))
 |met (f x:Aj)
 |rng (lo hi:Int)
 |frz (o:Obj) (u:HO)
 |tbl (ps:Array Ag)
 |ext (φ:Heap→Prop)
abbrev Hp:=Aj→Option HO
def upd (H:Hp)(a:Aj)(o:HO):Hp:=λb=>if b=a then some o else H b
theorem q8 {H:Hp}{a:Aj}{o:HO}:upd H a o a=some o:=by unfold upd;rw [ak rfl]
theorem wg {H:Hp}{a b:Aj}{o:HO}(h:b≠a):upd H a o b=H b:=by unfold upd;rw [ag h]
theorem ud {H:Hp}{a:Aj}{o u:HO}:upd (upd H a o) a u=upd H a u:=by
 funext b;unfold upd;split <;> rfl
theorem ne_of {H:Hp}{a b:Aj}{o u:HO}(h:H a=some o)(h':H b=some u)(d:o≠u):a≠b:=by
 intro e;subst e;rw [h] at h';exact d (az h')
theorem qj {H:Hp}{a b:Aj}{o:HO}(h:H a=some o)(h':H b=none):a≠b:=by
 intro e;subst e;rw [h] at h';cases h'
section
variable (P:Ac)(w:Ah)
def ObjOk (H:Hp)(h:Heap)(a:Aj):HO→Prop
 |.lst xs=>xs.length≤sizeLine∧∃(its:List Ag) (n:Nat),Vals xs its∧h.get? a=some { cls:=.type "list",data:=.seq its.toArray n }
 |.tup xs=>xs.length≤sizeLine∧∃its:List Ag,Vals xs its∧IsTup h a its.toArray
 |.dK kvs=>kvs.length≤sizeLine∧(a==sysModules)=false∧∃vs,KV kvs vs∧h.DictOf (xh P w) a vs
 |.dT kvs=>kvs.length≤sizeLine∧(a==sysModules)=false∧∃xs:List (List Key×Aj×Ag),
   Paired (λ(p:List Key×V) (q:List Key×Aj×Ag)=>p.1=q.1∧H q.2.1=some (.tup (p.1.map kV))∧RelV p.2 q.2.2) kvs xs ∧
   ∃o es ep,h.get? a=some o∧o.ExactDict∧o.data=.dict es ep∧es.toList=xs.map (entryOfKey (tupleKind (xh P w)))∧(xs.map (·.1)).Nodup
 |.set S n=>h.SetOf (intKind P w) a S n
 |.ins C dx fs=>H dx=some (.own a)∧fs.length≤1000∧dx≠a∧h.get? a=some (PySem.W.instObj C dx) ∧
   ∃mA,h.Ns1 dx mA∧(∀f,RelO (fs.lookup f) (mA f))∧PySem.Within mA (fs.map (·.1))
 |.own _=>∃o,h.get? a=some o
 |.xd fs=>∃mA,h.Ns1 a mA∧∀f,RelO (fs.lookup f) (mA f)
 |.rng lo hi=>∃t u v,h.get? a=some { cls:=.type "range",data:=.fields #[.int lo t,.int hi u,.int 1 v] }
 |.frz o u=>h.get? a=some o∧ObjOk H h a u
 |.tbl ps=>h.get? a=some { cls:=.none,data:=.fields ps }
 |.met f x=>h.get? a=some (PySem.W.methodObj (.ref f) (.ref x))
 |.ext φ=>φ h∧(∃o,h.get? a=some o)∧∀h1 h2:Heap,φ h1→(∀o,h1.get? a=some o→h2.get? a=some o)→φ h2
def HOk (H:Hp)(h:Heap):Prop:=∀a o,H a=some o→ObjOk P w H h a o
end
section
variable {P:Ac}{w:Ah}{H H':Hp}{h h':Heap}{a:Aj}{o:HO}
theorem ObjOk.lt (x:ObjOk P w H h a o):a<h.objs.size:=by
 cases o with
 |lst xs=>obtain ⟨_,_,_,_,e⟩:=x;exact al e
 |tup xs=>obtain ⟨_,_,_,p⟩:=x;exact p.lt
 |dK kvs=>obtain ⟨_,_,_,_,o,_,_,e,_⟩:=x;exact al e
 |dT kvs=>obtain ⟨_,_,_,_,o,_,_,e,_⟩:=x;exact al e
 |set S n=>obtain ⟨o,_,_,_,e,_⟩:=x;exact al e
 |ins C dx fs=>obtain ⟨_,_,_,e,_⟩:=x;exact al e
 |own y=>obtain ⟨_,e⟩:=x;exact al e
 |xd fs=>obtain ⟨_,⟨_,_,_,e,_⟩,_⟩:=x;exact al e
 |rng lo hi=>obtain ⟨_,_,_,e⟩:=x;exact al e
 |frz ob u=>obtain ⟨e,_⟩:=x;exact al e
 |tbl ps=>exact al (show h.get? a=some _ from x)
 |met f y=>exact al (show h.get? a=some _ from x)
 |ext φ=>obtain ⟨_,⟨_,e⟩,_⟩:=x;exact al e
theorem Paired.mapP {α β:Type}{F G:α→β→Prop}:∀ {l₁:List α} {l₂:List β},Paired F l₁ l₂→(∀a b,F a b→G a b)→Paired G l₁ l₂
 |_,_,.nil,_=>.nil
 |_,_,.cons r t,f=>.cons (f _ _ r) (Paired.mapP t f)
theorem ObjOk.stay (x:ObjOk P w H h a o)(k:∀b u,(b=a∨H b=some (.own a))→h.get? b=some u→h'.get? b=some u)
  (ho:∀b,H b=some (.own a)→H' b=some (.own a)) (ht:∀b xs,H b=some (.tup xs)→H' b=some (.tup xs)):ObjOk P w H' h' a o:=by
 induction o with
 |lst xs=>obtain ⟨z,its,n,r,e⟩:=x;exact ⟨z,its,n,r,k _ _ (.inl rfl) e⟩
 |tup xs=>obtain ⟨z,its,r,ob,e,c⟩:=x;exact ⟨z,its,r,ob,k _ _ (.inl rfl) e,c⟩
 |dK kvs=>obtain ⟨z,y,vs,r,ob,es,ep,e,c⟩:=x;exact ⟨z,y,vs,r,ob,es,ep,k _ _ (.inl rfl) e,c⟩
 |dT kvs =>
  obtain ⟨z,y,xs,r,ob,es,ep,e,c⟩:=x
  exact ⟨z,y,xs,Paired.mapP r λp q z=>⟨z.1,ht _ _ z.2.1,z.2.2⟩,ob,es,ep,k _ _ (.inl rfl) e,c⟩
 |set S n=>obtain ⟨ob,es,ep,t,e,c⟩:=x;exact ⟨ob,es,ep,t,k _ _ (.inl rfl) e,c⟩
 |ins C dx fs =>
  obtain ⟨d,z,ne,e,mA,⟨od,es,ep,e2,c⟩,r⟩:=x
  exact ⟨ho _ d,z,ne,k _ _ (.inl rfl) e,mA,⟨od,es,ep,k _ _ (.inr d) e2,c⟩,r⟩
 |own y=>obtain ⟨ob,e⟩:=x;exact ⟨ob,k _ _ (.inl rfl) e⟩
 |xd fs=>obtain ⟨mA,⟨od,es,ep,e,c⟩,r⟩:=x;exact ⟨mA,⟨od,es,ep,k _ _ (.inl rfl) e,c⟩,r⟩
 |rng lo hi=>obtain ⟨t,u,v,e⟩:=x;exact ⟨t,u,v,k _ _ (.inl rfl) e⟩
 |frz ob u ih=>obtain ⟨e,q⟩:=x;exact ⟨k _ _ (.inl rfl) e,ih q⟩
 |tbl ps =>
  have e:h.get? a=some { cls:=.none,data:=.fields ps }:=x
  show h'.get? a=some { cls:=.none,data:=.fields ps }
  exact k a _ (.inl rfl) e
 |met f y =>
  have e:h.get? a=some (PySem.W.methodObj (.ref f) (.ref y)):=x
  show h'.get? a=some (PySem.W.methodObj (.ref f) (.ref y))
  exact k a _ (.inl rfl) e
 |ext φ=>obtain ⟨p,⟨o,e⟩,st⟩:=x;exact ⟨st _ _ p λo q=>k _ _ (.inl rfl) q,⟨o,k _ _ (.inl rfl) e⟩,st⟩
theorem HOk.lt (x:HOk P w H h)(e:H a=some o):a<h.objs.size:=(x a o e).lt
theorem HOk.fresh (x:HOk P w H h)(e:h.objs.size≤a):H a=none:=by
 cases q:H a with
 |none=>rfl
 |some u=>exact absurd (aE (x.lt q) e) (aQ _)
theorem HOk.kept (x:HOk P w H h)(k:∀b u,h.get? b=some u→h'.get? b=some u):HOk P w H h':=λa o e =>
 (x a o e).stay (λb u _ q=>k b u q) (λ_ q=>q) λ_ _ q=>q
theorem HOk.laid (x:HOk P w H h)(k:∀b u,h.get? b=some u→h'.get? b=some u)(hp:h.objs.size≤a)(new:ObjOk P w (upd H a o) h' a o):HOk P w (upd H a o) h':=λb u e=>by
 have hn:=x.fresh hp
 by_cases hb:b=a
 ·subst hb;rw [q8] at e;cases e;exact new
 ·rw [wg hb] at e
  exact (x b u e).stay (λc v _ q=>k c v q) (λc q=>by rw [wg (qj q hn)];exact q) λc xs q=>by rw [wg (qj q hn)];exact q
end
def Rd (H:Hp)(a:Aj)(u:HO):Prop:=H a=some u∨∃o,H a=some (.frz o u)
theorem Rd.ok {P:Ac}{w:Ah}{H:Hp}{h:Heap}{a:Aj}{u:HO}(r:Rd H a u)(x:HOk P w H h):ObjOk P w H h a u:=by
 rcases r with r|⟨o,r⟩
 ·exact x a u r
 ·obtain ⟨_,q⟩:=x a _ r
  exact q
def Mut:Option HO→Prop
 |some (.lst _)=>True
 |some (.dK _)=>True
 |some (.dT _)=>True
 |some (.set _ _)=>True
 |some (.ins _ _ _)=>True
 |some (.ext _)=>True
 |_=>False
section
variable {P:Ac}{w:Ah}{H:Hp}{h h':Heap}{x e:Aj}{o':HO}
theorem HOk.write (ok:HOk P w H h)(mu:Mut (H x))(he:e=x∨H e=some (.own x))(k:∀b u,b≠e→h.get? b=some u→h'.get? b=some u)(heo:∃u,h'.get? e=some u)
  (new:ObjOk P w (upd H x o') h' x o'):HOk P w (upd H x o') h':=λb u q=>by
 have nown:∀c y,H c=some (.own y)→c≠x:=λc y r z=>by subst z;rw [r] at mu;exact mu
 have ntup:∀c xs,H c=some (.tup xs)→c≠x:=λc xs r z=>by subst z;rw [r] at mu;exact mu
 by_cases hb:b=x
 ·subst hb;rw [q8] at q;cases q;exact new
 ·rw [wg hb] at q
  by_cases hbe:b=e
  ·have q':H b=some (.own x):=by
    rcases he with z|z
    ·exact absurd (hbe.trans z) hb
    ·rw [hbe];exact z
   rw [q] at q';cases q'
   obtain ⟨v,hv⟩:=heo
   exact ⟨v,by rw [hbe];exact hv⟩
  ·refine (ok b u q).stay (λc v hc r=>k c v ?_ r) (λc r=>by rw [wg (nown c b r)];exact r) λc xs r=>by rw [wg (ntup c xs r)];exact r
   rcases hc with rfl|hc
   ·exact hbe
   ·rintro rfl
    rcases he with z|z
    ·exact nown c b hc z
    ·rw [hc] at z;cases z;exact hb rfl
end
structure Un (fs ex:List Aj)(H H':Hp)(h h':Heap):Prop where
 keep:∀b o,h.get? b=some o→H b=none→b∉fs→b∉ex→h'.get? b=some o
 slot:∀b o,h.get? b=some o→H b=none→b∈fs→b∉ex→∃sl,h'.get? b=some { o with slots:=sl }
 free:∀b o,h.get? b=some o→H b=none→b∉ex→H' b=none
 there:∀b o,h.get? b=some o→b∉ex→∃o',h'.get? b=some o'
 tups:∀b xs,H b=some (.tup xs)→H' b=some (.tup xs)
 frzs:∀b o u,H b=some (.frz o u)→H' b=some (.frz o u)
 tbls:∀b ps,H b=some (.tbl ps)→∃more,H' b=some (.tbl (ps++more))
section
variable {fs fs' ex ex':List Aj}{H H1 H2:Hp}{h h1 h2 h':Heap}{a x e:Aj}{o:HO}
theorem Un.any (u:Un fs ex H H1 h h1){b:Aj}{ob:Obj}(q:h.get? b=some ob)(n:H b=none)(hx:b∉ex):∃sl,h1.get? b=some { ob with slots:=sl }:=by
 by_cases hb:b∈fs
 ·exact u.slot b ob q n hb hx
 ·exact ⟨ob.slots,u.keep b ob q n hb hx⟩
theorem Un.kept (k:∀b u,h.get? b=some u→h'.get? b=some u):Un fs ex H H h h' :=
 ⟨λb ob q _ _ _=>k b ob q,λb ob q _ _ _=>⟨ob.slots,k b ob q⟩,λ_ _ _ n _=>n,λb ob q _=>⟨ob,k b ob q⟩,λ_ _ q=>q,λ_ _ _ q=>q,λ_ ps q=>⟨#[],by rw [q];simp⟩⟩
theorem Un.refl:Un fs ex H H h h:=Un.kept λ_ _ q=>q
theorem Un.laid (k:∀b u,h.get? b=some u→h'.get? b=some u)(hp:h.objs.size≤a)(hn:H a=none):Un fs ex H (upd H a o) h h' where
 keep:=λb u q _ _ _=>k b u q
 slot:=λb u q _ _ _=>⟨u.slots,k b u q⟩
 free:=λb u q n _=>by rw [wg (av (aE (al q) hp))];exact n
 there:=λb u q _=>⟨u,k b u q⟩
 tups:=λb xs q=>by rw [wg (qj q hn)];exact q
 frzs:=λb u xs q=>by rw [wg (qj q hn)];exact q
 tbls:=λb ps q=>⟨#[],by rw [wg (qj q hn),q];simp⟩
theorem Un.write (mu:Mut (H x))(he:e=x∨H e=some (.own x))(k:∀b u,b≠e→h.get? b=some u→h'.get? b=some u)(heo:∃u,h'.get? e=some u):Un fs ex H (upd H x o) h h':=by
 have hx:∀b,H b=none→b≠x:=λb n z=>by subst z;rw [n] at mu;exact mu
 have hb:∀b,H b=none→b≠e:=λb n z=>by
  subst z
  rcases he with r|r
  ·exact hx b n r
  ·rw [n] at r;cases r
 have hm:∀b u,H b=some u→¬ Mut (some u)→b≠x:=λb u q nm z=>by subst z;rw [q] at mu;exact nm mu
 refine ⟨λb u q n _ _=>k b u (hb b n) q,λb u q n _ _=>⟨u.slots,k b u (hb b n) q⟩,λb u q n _=>by rw [wg (hx b n)];exact n,λb u q _=>?_,
  λb xs q=>by rw [wg (hm b _ q λz=>z)];exact q,λb u xs q=>by rw [wg (hm b _ q λz=>z)];exact q,λb ps q=>⟨#[],by rw [wg (hm b _ q λz=>z),q];simp⟩⟩
 by_cases hbe:b=e
 ·subst hbe;exact heo
 ·exact ⟨u,k b u hbe q⟩
end
def trk (h:Heap)(H:Hp):List Aj:=(List.range h.objs.size).filter λa=>(H a).isSome
def qxc (h:Heap)(H:Hp):Heap:=PySem.W.hideAll h (trk h H)
theorem qur (h:Heap)(H:Hp):(qxc h H).objs.size=h.objs.size:=PySem.W.hideAll_size _ _
theorem wvq {h:Heap}{H:Hp}{b:Aj}{o:Obj}(e:h.get? b=some o)(n:H b=none):(qxc h H).get? b=some o :=
 PySem.W.hideAll_get _ e λhm=>by
  have q:(H b).isSome=true:=(bY.mp hm).2
  rw [n] at q;simp at q
theorem wkw {h:Heap}{H:Hp}{b:Aj}{o:Obj}(e:(qxc h H).get? b=some o):h.get? b=some o∧H b=none:=by
 have e':h.get? b=some o:=PySem.W.of_hideAll (trk h H) e
 refine ⟨e',?_⟩
 cases q:H b with
 |none=>rfl
 |some x =>
  have hm:b∈trk h H:=bY.mpr ⟨bb.mpr (al e'),by simp [q]⟩
  have z:(qxc h H).get? b=none:=PySem.W.hideAll_none (trk h H) hm
  rw [z] at e;cases e
def wkq (g h:Heap)(L:Aj):List (Aj×Obj):=(List.range h.objs.size).filterMap λa=>if a=L∨(g.get? a).isSome=true then none else (h.get? a).map λo=>(a,o)
def rest (g h:Heap)(L d:Aj):List (Aj×Obj):=(wkq g h L).filter λp=>decide (p.1≠d)
structure Mod (K:Aa)(mg:Str→Option Ag)(base:Heap):Prop where
 kin:K.In base
 glob:base.Ns mainGlobals mg
 blt:∃mb,base.Ns builtinsNs mb∧∀x:Str,x ≠ "__name__" → mb x=bootBuiltins x
 nolimit:base.NoLimit
structure Cx where
 prog:Ac
 w:Ah
 K:Aa
 mg:Str→Option Ag
 base:Heap
 A:Ae
 N:List Str
 s₀:Ab
 H₀:Hp
 env:Env
 outer:List Env
 stack:List Env
 ex:List Aj
 fn:Str→Bool
 calm:Bool
 pn:List (Aj×Obj)
 xe:Ag→Ab→Prop
def frs (l:List Env):List Aj:=l.filterMap (·.frame)
abbrev Cx.fs (X:Cx):List Aj:=frs X.outer
def Vis (sc:Scope)(x:Str):Prop:=sc.names.lookup x=some .local∨sc.names.lookup x=some .cell∨sc.names.lookup x=some .free
def Loc (sc:Scope)(x:Str):Prop:=sc.names.lookup x=some .local∨sc.names.lookup x=some .cell
def Look (env:Env)(h:Heap)(m:Str→Option Ag)(x:Str)(u:Ag):Prop :=
 (env.kindOf x=some .local∧m x=some u)∨((env.kindOf x=some .cell∨env.kindOf x=some .free)∧∃c,env.cells.lookup x=some c∧h.IsCell c (some u))
structure Cx.Ok (X:Cx):Prop where
 mod:Mod X.K X.mg X.base
 kind:X.env.scope.kind=.function
 glob:X.env.globals=mainGlobals
 blt:X.env.builtins=builtinsNs
 above:X.s₀.heap.objs.size≤X.env.locals
 inj:∀x y c,X.env.cells.lookup x=some c→X.env.cells.lookup y=some c→x=y
 has:∀x,(X.env.kindOf x=some .cell∨X.env.kindOf x=some .free)→∃c,X.env.cells.lookup x=some c
 cab:∀x c,X.fn x=true→X.env.cells.lookup x=some c→X.s₀.heap.objs.size≤c
 hd:X.calm=true→X.A.handled=none
 frames:X.A.frames=some X.stack
 stk:X.stack=X.outer∨(X.stack=X.env::X.outer∧X.env.frame=some X.env.locals)
 exf:∀b∈X.ex,b≠X.env.locals∧∀x c,X.env.cells.lookup x=some c→c≠b
 bs:∀b o,X.base.get? b=some o→X.s₀.heap.get? b=some o∧X.H₀ b=none
 bsz:X.base.objs.size≤X.s₀.heap.objs.size
 noex:∀b o,X.base.get? b=some o→b∉X.ex
 exfs:∀b∈X.ex,b∉X.fs
 funs:X.s₀.heap.FunFrames X.base X.outer
 frf:∀b∈X.fs,X.H₀ b=none
structure Inv (X:Cx)(pins:List (Aj×Obj))(σ:List (Option V))(H:Hp)(s:Ab):Prop where
 ok:X.Ok
 os:s.os=X.s₀.os
 bare:AllBare s.gens
 base:Un X.fs X.ex X.H₀ H X.s₀.heap s.heap
 loc:∃m,s.heap.Ns X.env.locals m∧∀(i:Nat) (x:Str) (v:V),X.N[i]?=some x→σ[i]?=some (some v)→Vis X.env.scope x→∃u,RelV v u∧Look X.env s.heap m x u
 cell:∀x c,X.env.cells.lookup x=some c→∃v,s.heap.IsCell c v
 free:H X.env.locals=none
 freeC:∀x c,X.env.cells.lookup x=some c→H c=none
 pin:∀p∈X.pn++pins,s.heap.get? p.1=some p.2∧H p.1=none∧p.1≠X.env.locals∧p.1∉X.fs∧∀v,p.2.data≠.cell v
 hok:HOk X.prog X.w H s.heap
 len:σ.length=X.N.length
section
variable {X:Cx}{pins:List (Aj×Obj)}{σ:List (Option V)}{H H':Hp}{s:Ab}{h':Heap}
theorem Cx.Ok.nofr (ok:X.Ok){b:Aj}{o:Obj}(e:X.base.get? b=some o):b∉X.fs:=λhb=>by
 have:=(ok.funs.mem hb).1
 rw [e] at this;cases this
theorem Inv.bs (I:Inv X pins σ H s):∀b o,X.base.get? b=some o→s.heap.get? b=some o∧H b=none:=λb o e =>
 ⟨I.base.keep b o (I.ok.bs b o e).1 (I.ok.bs b o e).2 (I.ok.nofr e) (I.ok.noex b o e),I.base.free b o (I.ok.bs b o e).1 (I.ok.bs b o e).2 (I.ok.noex b o e)⟩
theorem Inv.bk (I:Inv X pins σ H s):∀b o,X.base.get? b=some o→s.heap.get? b=some o:=λb o e=>(I.bs b o e).1
theorem Inv.mod (I:Inv X pins σ H s):Mod X.K X.mg X.base:=I.ok.mod
theorem Inv.kIn (I:Inv X pins σ H s):X.K.In s.heap:=I.ok.mod.kin.keeps I.bk
theorem Inv.lt (I:Inv X pins σ H s):X.env.locals<s.heap.objs.size:=let ⟨_,hn,_⟩:=I.loc;hn.lt
theorem Inv.sz (I:Inv X pins σ H s):X.s₀.heap.objs.size≤s.heap.objs.size:=bH I.ok.above (bA I.lt)
theorem Inv.nofs (I:Inv X pins σ H s){a:Aj}(h:s.heap.objs.size≤a):a∉X.fs:=λhb=>by
 obtain ⟨_,o,ho,_⟩:=I.ok.funs.mem hb
 exact absurd (aE (al ho) (bH I.sz h)) (aQ _)
theorem Inv.cne (I:Inv X pins σ H s):∀x c,X.env.cells.lookup x=some c→c≠X.env.locals:=λx c e z=>by
 obtain ⟨v,o,ho,hd⟩:=I.cell x c e
 obtain ⟨m,⟨o',es,ep,ho',hd',_⟩,_⟩:=I.loc
 rw [z,ho'] at ho;cases ho;rw [hd'] at hd;cases hd
theorem Inv.funs (I:Inv X pins σ H s):s.heap.FunFrames X.base X.outer:=by
 have all:∀(l:List Env),(∀b∈frs l,b∈X.fs)→X.s₀.heap.FunFrames X.base l→s.heap.FunFrames X.base l:=by
  intro l
  induction l with
  |nil=>intro _ _;trivial
  |cons env r ih =>
   intro hs hl
   obtain ⟨hk,⟨L,o,hf,hn,ho,hd⟩,hr⟩:=hl
   have hL:L∈X.fs:=hs L (by unfold frs;rw [cQ,hf];exact aO)
   obtain ⟨sl,e⟩:=I.base.slot L o ho (I.ok.frf L hL) hL λz=>I.ok.exfs L z hL
   exact ⟨hk,⟨L,_,hf,hn,e,hd⟩,ih (λb hb=>hs b (by unfold frs;rw [cQ,hf];exact aC _ hb)) hr⟩
 exact all X.outer (λ_ hb=>hb) I.ok.funs
theorem Inv.stack (I:Inv X pins σ H s):s.heap.FunFrames X.base X.stack:=by
 rcases I.ok.stk with e|⟨e,hf⟩
 ·rw [e];exact I.funs
 ·rw [e]
  obtain ⟨m,hn,_⟩:=I.loc
  refine .cons (by rw [I.ok.kind];decide) hf hn ?_ I.funs
  exact Heap.get?_none_of_le (bH I.ok.bsz I.ok.above)
theorem Inv.stkSub (I:Inv X pins σ H s):∀b∈frs X.stack,b∈X.env.locals::X.fs:=λb hb=>by
 rcases I.ok.stk with e|⟨e,hf⟩
 ·rw [e] at hb;exact aC _ hb
 ·rw [e] at hb
  unfold frs at hb
  rw [cQ,hf] at hb
  exact hb
theorem Inv.stkFree (I:Inv X pins σ H s):∀b∈frs X.stack,H b=none:=λb hb=>by
 rcases ai.mp (I.stkSub b hb) with e|hb
 ·rw [e];exact I.free
 ·obtain ⟨_,o,ho,_⟩:=I.ok.funs.mem hb
  exact I.base.free b o ho (I.ok.frf b hb) λz=>I.ok.exfs b z hb
theorem Inv.step {g':Array GenState}{t':Nat}{d':Drawn}{ch:List Aj}(I:Inv X pins σ H s)
  (hch:∀b∈ch,(b∈X.ex∨X.s₀.heap.objs.size≤b)∧b≠X.env.locals∧(∀x c,X.env.cells.lookup x=some c→c≠b)∧∀p∈X.pn++pins,p.1≠b)
  (keep:∀b o,b≠X.env.locals→b∉X.fs→b∉ch→s.heap.get? b=some o→H b=none→h'.get? b=some o)
  (slot:∀b o,b≠X.env.locals→b∈X.fs→b∉ch→s.heap.get? b=some o→H b=none→∃sl,h'.get? b=some { o with slots:=sl }) (free:∀b o,b∉ch→s.heap.get? b=some o→H b=none→H' b=none)
  (there:∀b o,b∉ch→s.heap.get? b=some o→∃o',h'.get? b=some o')
  (tups:∀b xs,H b=some (.tup xs)→H' b=some (.tup xs)) (frzs:∀b o u,H b=some (.frz o u)→H' b=some (.frz o u)) (tbls:∀b ps,H b=some (.tbl ps)→∃more,H' b=some (.tbl (ps++more)))
  (ns:∀m,s.heap.Ns X.env.locals m→h'.Ns X.env.locals m) (hok:HOk X.prog X.w H' h') (hg:AllBare g') :
  Inv X pins σ H' { s with heap:=h',gens:=g',drawn:=d',toks:=t' }:=by
 have neL:∀b o,X.s₀.heap.get? b=some o→b≠X.env.locals:=λb o e=>av (aE (al e) I.ok.above)
 have neC:∀b o,X.s₀.heap.get? b=some o→b∉X.ex→b∉ch:=λb o e hx hb=>by
  rcases (hch b hb).1 with z|z
  ·exact hx z
  ·exact absurd (aE (al e) z) (aQ _)
 have cellK:∀x c,X.env.cells.lookup x=some c→∀v,s.heap.IsCell c v→h'.IsCell c v:=λx c e v ⟨o,ho,hd⟩=>by
  have nch:c∉ch:=λz=>(hch c z).2.2.1 x c e rfl
  by_cases hc:c∈X.fs
  ·obtain ⟨sl,q⟩:=slot c o (I.cne x c e) hc nch ho (I.freeC x c e)
   exact ⟨_,q,hd⟩
  ·exact ⟨o,keep c o (I.cne x c e) hc nch ho (I.freeC x c e),hd⟩
 refine ⟨I.ok,I.os,hg,⟨λb o e n hb hx=>?_,λb o e n hb hx=>?_,λb o e n hx=>?_,λb o e hx=>?_,λb xs e=>tups b xs (I.base.tups b xs e),λb o xs e=>frzs b o xs (I.base.frzs b o xs e),λb ps e=>?_⟩,?_,λx c e=>?_,?_,λx c e=>?_,λp hp=>?_,hok,I.len⟩
 ·exact keep b o (neL b o e) hb (neC b o e hx) (I.base.keep b o e n hb hx) (I.base.free b o e n hx)
 ·obtain ⟨sl,e1⟩:=I.base.slot b o e n hb hx
  obtain ⟨sl',e2⟩:=slot b _ (neL b o e) hb (neC b o e hx) e1 (I.base.free b o e n hx)
  exact ⟨sl',e2⟩
 ·obtain ⟨o',e1⟩:=I.base.there b o e hx
  exact free b o' (neC b o e hx) e1 (I.base.free b o e n hx)
 ·obtain ⟨o',e1⟩:=I.base.there b o e hx
  exact there b o' (neC b o e hx) e1
 ·obtain ⟨m1,e1⟩:=I.base.tbls b ps e
  obtain ⟨m2,e2⟩:=tbls b _ e1
  exact ⟨m1++m2,by rw [e2,Array.append_assoc]⟩
 ·obtain ⟨m,hn,hl⟩:=I.loc
  refine ⟨m,ns m hn,λi x v e1 e2 e3=>?_⟩
  obtain ⟨u,r,l⟩:=hl i x v e1 e2 e3
  refine ⟨u,r,?_⟩
  rcases l with l|⟨k,c,e,z⟩
  ·exact .inl l
  ·exact .inr ⟨k,c,e,cellK x c e _ z⟩
 ·obtain ⟨v,z⟩:=I.cell x c e
  exact ⟨v,cellK x c e v z⟩
 ·obtain ⟨m,⟨o,_,_,ho,_⟩,_⟩:=I.loc
  exact free _ o (λz=>(hch _ z).2.1 rfl) ho I.free
 ·obtain ⟨v,o,ho,hd⟩:=I.cell x c e
  exact free c o (λz=>(hch c z).2.2.1 x c e rfl) ho (I.freeC x c e)
 ·obtain ⟨e,n,ne,nf,d⟩:=I.pin p hp
  have nch:p.1∉ch:=λz=>(hch p.1 z).2.2.2 p hp rfl
  exact ⟨keep p.1 p.2 ne nf nch e n,free p.1 p.2 nch e n,ne,nf,d⟩
theorem Inv.un {t':Nat}(I:Inv X pins σ H s)(u:Un X.fs [] H H' s.heap h')(hok:HOk X.prog X.w H' h'):Inv X pins σ H' { s with heap:=h',toks:=t' }:=by
 obtain ⟨m,⟨o,es,ep,ho,r⟩,_⟩:=id I.loc
 obtain ⟨sl,hL⟩:=u.any ho I.free (by simp)
 exact I.step (g':=s.gens) (d':=s.drawn) (ch:=[]) (λ_ z=>nomatch z) (λb o _ hb _ e n=>u.keep b o e n hb (by simp)) (λb o _ hb _ e n=>u.slot b o e n hb (by simp)) (λb o _ e n=>u.free b o e n (by simp)) (λb o _ e=>u.there b o e (by simp)) u.tups u.frzs u.tbls (λm' hm=>by
  obtain ⟨o',es',ep',ho',r'⟩:=hm
  rw [ho] at ho';cases ho'
  exact ⟨_,es',ep',hL,r'⟩) hok I.bare
theorem Inv.call {g':Array GenState}{t':Nat}{d':Drawn}{ch:List Aj}(I:Inv X pins σ H s)(u:Un (frs X.stack) ch H H' s.heap h')(hok:HOk X.prog X.w H' h')(hg:AllBare g')
  (hch:∀b∈ch,(b∈X.ex∨X.s₀.heap.objs.size≤b)∧b≠X.env.locals∧(∀x c,X.env.cells.lookup x=some c→c≠b)∧∀p∈X.pn++pins,p.1≠b) :
  Inv X pins σ H' { s with heap:=h',gens:=g',drawn:=d',toks:=t' }:=by
 obtain ⟨m,⟨o,es,ep,ho,r⟩,_⟩:=id I.loc
 obtain ⟨sl,hL⟩:=u.any ho I.free λz=>(hch _ z).2.1 rfl
 exact I.step (ch:=ch) hch (λb o hL hb hc e n=>u.keep b o e n (λz=>(ai.mp (I.stkSub b z)).elim hL hb) hc) (λb o _ _ hc e n=>u.any e n hc) (λb o hc e n=>u.free b o e n hc) (λb o hc e=>u.there b o e hc) u.tups u.frzs u.tbls (λm' hm=>by
  obtain ⟨o',es',ep',ho',r'⟩:=hm
  rw [ho] at ho';cases ho'
  exact ⟨_,es',ep',hL,r'⟩) hok hg
theorem Inv.turned {t':Nat}{it:Aj}(I:Inv X pins σ H s)(k:∀b o,b≠it→s.heap.get? b=some o→h'.get? b=some o)(hn:H it=none)(hL:it≠X.env.locals)
  (h1:it∈X.ex∨X.s₀.heap.objs.size≤it) (h2:∀x c,X.env.cells.lookup x=some c→c≠it) (h3:∀p∈X.pn++pins,p.1≠it):Inv X pins σ H { s with heap:=h',toks:=t' }:=by
 have nit:∀b u,H b=some u→b≠it:=λb u e z=>by rw [z,hn] at e;cases e
 refine I.step (g':=s.gens) (d':=s.drawn) (ch:=[it]) (λb hb=>?_) (λb o _ _ hc e _=>k b o (λz=>hc (by simp [z])) e) (λb o _ _ hc e _=>⟨o.slots,k b o (λz=>hc (by simp [z])) e⟩) (λ_ _ _ _ n=>n)
  (λb o hc e=>⟨o,k b o (λz=>hc (by simp [z])) e⟩) (λ_ _ e=>e) (λ_ _ _ e=>e) (λb ps e=>⟨#[],by rw [e];simp⟩) (λm hm=>?_) (λb u e=>?_) I.bare
 ·have e:b=it:=by simpa using hb
  subst e
  exact ⟨h1,hL,h2,h3⟩
 ·obtain ⟨o,es,ep,ho,r⟩:=hm
  exact ⟨o,es,ep,k _ o (aW hL) ho,r⟩
 ·refine (I.hok b u e).stay (λc v hc q=>k c v ?_ q) (λ_ q=>q) λ_ _ q=>q
  rcases hc with z|z
  ·rw [z];exact nit b u e
  ·exact nit c _ z
theorem Inv.tok (I:Inv X pins σ H s)(t:Nat):Inv X pins σ H { s with toks:=t }:=I.un (h':=s.heap) (t':=t) Un.refl I.hok
theorem Inv.kept {t':Nat}(I:Inv X pins σ H s)(k:∀b u,s.heap.get? b=some u→h'.get? b=some u):Inv X pins σ H { s with heap:=h',toks:=t' }:=I.un (Un.kept k) (I.hok.kept k)
theorem Inv.laid {a:Aj}{o:HO}{t':Nat}(I:Inv X pins σ H s)(k:∀b u,s.heap.get? b=some u→h'.get? b=some u)(hp:s.heap.objs.size≤a)(new:ObjOk X.prog X.w (upd H a o) h' a o) :
  Inv X pins σ (upd H a o) { s with heap:=h',toks:=t' }:=I.un (Un.laid k hp (I.hok.fresh hp)) (I.hok.laid k hp new)
theorem Inv.write {x e:Aj}{o:HO}{t':Nat}(I:Inv X pins σ H s)(mu:Mut (H x))(he:e=x∨H e=some (.own x))(k:∀b u,b≠e→s.heap.get? b=some u→h'.get? b=some u)(heo:∃u,h'.get? e=some u)
  (new:ObjOk X.prog X.w (upd H x o) h' x o):Inv X pins σ (upd H x o) { s with heap:=h',toks:=t' }:=I.un (Un.write mu he k heo) (I.hok.write mu he k heo new)
theorem Inv.weak {σ':List (Option V)}(I:Inv X pins σ H s)(hl:σ'.length=σ.length)(w:∀(i:Nat) v,σ'[i]?=some (some v)→σ[i]?=some (some v)):Inv X pins σ' H s :=
 ⟨I.ok,I.os,I.bare,I.base,let ⟨m,hn,hl'⟩:=I.loc;⟨m,hn,λi x v e1 e2 e3=>hl' i x v e1 (w i v e2) e3⟩,I.cell,I.free,I.freeC,I.pin,I.hok,hl.trans I.len⟩
theorem Inv.pins_of {pins':List (Aj×Obj)}(I:Inv X pins σ H s)(h:∀p∈pins',s.heap.get? p.1=some p.2∧H p.1=none∧p.1≠X.env.locals∧p.1∉X.fs∧∀v,p.2.data≠.cell v):Inv X pins' σ H s :=
 ⟨I.ok,I.os,I.bare,I.base,I.loc,I.cell,I.free,I.freeC,λp hp=>(bg.mp hp).elim (λz=>I.pin p (cH _ z)) (h p),I.hok,I.len⟩
theorem qkm {N:List Str}(hN:N.Nodup){i j:Nat}{x:Str}(a:N[i]?=some x)(b:N[j]?=some x):i=j:=by
 obtain ⟨h1,e1⟩:=aM.mp a
 obtain ⟨h2,e2⟩:=aM.mp b
 exact (dE hN).mp (e1.trans e2.symm)
theorem qu8 {M:Model}{A:Ae}{E:Ag→Ab→Prop}{i:Nat}{x:Str}{v:V}{u:Ag}{Q:Unit→Ab→Prop}(I:Inv X pins σ H s)(hN:X.N.Nodup)(hi:X.N[i]?=some x)(hx:Loc X.env.scope x)(r:RelV v u)
  (h:∀s',Inv X pins (σ.set i (some v)) H s'→(∃a,Heap.SameBut a s.heap s'.heap∧(a=X.env.locals∨X.env.cells.lookup x=some a))→Q () s') (hf:X.fn x=true∨X.env.scope.names.lookup x=some .local:=by first | exact .inl rfl | exact .inr rfl | assumption):wpAny M A (storeName X.env x u) Q E s:=by
 obtain ⟨m,hn,hl⟩:=id I.loc
 have hcls:(X.env.scope.kind==.class||(X.env.scope.kind==.module&&X.env.locals != X.env.globals))=false:=by rw [I.ok.kind];rfl
 have hiσ:i<σ.length:=by rw [I.len];exact (aM.mp hi).1
 have cne:=I.cne
 have tracked:∀ {a:Aj} {h':Heap},(∃o,s.heap.get? a=some o∧H a=none)→Heap.SameBut a s.heap h'→HOk X.prog X.w H h':=λ{a h'} ha hs b ob e=>by
  obtain ⟨_,_,hfree⟩:=ha
  refine (I.hok b ob e).stay (λc w' hc q=>(hs.2 c ?_).trans q) (λ_ q=>q) λ_ _ q=>q
  rintro rfl
  rcases hc with rfl|hc
  ·rw [hfree] at e;cases e
  ·rw [hfree] at hc;cases hc
 rcases hx with hk|hk
 ·refine wpAny_storeName_local hk hn (λh' hn' hs=>?_) hcls
  obtain ⟨oL,_,_,hoL,_⟩:=id hn
  refine h _ ⟨I.ok,I.os,I.bare,⟨λb o e n hb hx=>?_,λb o e n hb hx=>?_,I.base.free,λb o e hx=>?_,I.base.tups,I.base.frzs,I.base.tbls⟩,⟨_,hn',λj y v' e1 e2 e3=>?_⟩,λy c e=>?_,I.free,I.freeC,λp hp=>?_,tracked ⟨oL,hoL,I.free⟩ hs,by simpa using I.len⟩ ⟨_,hs,.inl rfl⟩
  ·exact (hs.2 b (av (aE (al e) I.ok.above))).trans (I.base.keep b o e n hb hx)
  ·obtain ⟨sl,e1⟩:=I.base.slot b o e n hb hx
   exact ⟨sl,(hs.2 b (av (aE (al e) I.ok.above))).trans e1⟩
  ·obtain ⟨o',e1⟩:=I.base.there b o e hx
   exact ⟨o',(hs.2 b (av (aE (al e) I.ok.above))).trans e1⟩
  ·by_cases hj:j=i
   ·subst hj
    rw [hi] at e1;cases e1
    rw [List.getElem?_set_self hiσ] at e2
    cases e2
    exact ⟨u,r,.inl ⟨hk,by simp⟩⟩
   ·rw [List.getElem?_set_ne (aW hj)] at e2
    obtain ⟨u',r',q⟩:=hl j y v' e1 e2 e3
    refine ⟨u',r',?_⟩
    rcases q with ⟨k,e⟩|⟨k,c,e,z⟩
    ·refine .inl ⟨k,?_⟩
     have:y≠x:=λe=>hj (qkm hN e1 (e▸hi))
     simp [this,e]
    ·exact .inr ⟨k,c,e,z.sameBut hs (cne y c e)⟩
  ·obtain ⟨w',z⟩:=I.cell y c e
   exact ⟨w',z.sameBut hs (cne y c e)⟩
  ·obtain ⟨e,n,ne,nf,d⟩:=I.pin p hp
   exact ⟨(hs.2 p.1 ne).trans e,n,ne,nf,d⟩
 ·have hfn:X.fn x=true:=by
   rcases hf with z|z
   ·exact z
   ·rw [z] at hk;cases hk
  obtain ⟨c,hc⟩:=I.ok.has x (.inl hk)
  obtain ⟨w',z⟩:=I.cell x c hc
  refine wpAny_storeName_cell I.ok.kind hk hc z (λh' hc' hs=>?_)
  obtain ⟨oc,hoc,hocd⟩:=id z
  refine h { s with heap:=h' } ⟨I.ok,I.os,I.bare,⟨λb o e n hb hx=>?_,λb o e n hb hx=>?_,I.base.free,λb o e hx=>?_,I.base.tups,I.base.frzs,I.base.tbls⟩,⟨m,hn.sameBut hs (aW (cne x c hc)),λj y v' e1 e2 e3=>?_⟩,λy c' e=>?_,I.free,I.freeC,λp hp=>?_,tracked ⟨oc,hoc,I.freeC x c hc⟩ hs,by simpa using I.len⟩ ⟨c,hs,.inr hc⟩
  ·exact (hs.2 b (av (aE (al e) (I.ok.cab x c hfn hc)))).trans (I.base.keep b o e n hb hx)
  ·obtain ⟨sl,e1⟩:=I.base.slot b o e n hb hx
   exact ⟨sl,(hs.2 b (av (aE (al e) (I.ok.cab x c hfn hc)))).trans e1⟩
  ·obtain ⟨o',e1⟩:=I.base.there b o e hx
   exact ⟨o',(hs.2 b (av (aE (al e) (I.ok.cab x c hfn hc)))).trans e1⟩
  ·by_cases hj:j=i
   ·subst hj
    rw [hi] at e1;cases e1
    rw [List.getElem?_set_self hiσ] at e2
    cases e2
    exact ⟨u,r,.inr ⟨.inl hk,c,hc,hc'⟩⟩
   ·rw [List.getElem?_set_ne (aW hj)] at e2
    obtain ⟨u',r',q⟩:=hl j y v' e1 e2 e3
    refine ⟨u',r',?_⟩
    rcases q with q|⟨k,c',e,z'⟩
    ·exact .inl q
    ·refine .inr ⟨k,c',e,z'.sameBut hs ?_⟩
     rintro rfl
     exact hj (qkm hN e1 (I.ok.inj _ _ _ e hc▸hi))
  ·by_cases hcc:c'=c
   ·subst hcc;exact ⟨_,hc'⟩
   ·obtain ⟨w2,z2⟩:=I.cell y c' e
    exact ⟨w2,z2.sameBut hs hcc⟩
  ·obtain ⟨e,n,ne,nf,d⟩:=I.pin p hp
   refine ⟨(hs.2 p.1 ?_).trans e,n,ne,nf,d⟩
   intro q
   rw [q,hoc] at e
   have q':oc=p.2:=az e
   exact d w' (by rw [←q'];exact hocd)
theorem jp {M:Model}{A:Ae}{E:Ag→Ab→Prop}{i:Nat}{x:Str}{v:V}{u:Ag}{Q:Unit→Ab→Prop}(I:Inv X pins σ H s)(hN:X.N.Nodup)(hi:X.N[i]?=some x)(hx:Loc X.env.scope x)(r:RelV v u)
  (h:∀s',Inv X pins (σ.set i (some v)) H s'→Q () s') (hf:X.fn x=true∨X.env.scope.names.lookup x=some .local:=by first | exact .inl rfl | exact .inr rfl | assumption):wpAny M A (storeName X.env x u) Q E s :=
 qu8 I hN hi hx r (λs' I' _=>h s' I') hf
theorem Inv.call' {s':Ab}{ch:List Aj}(I:Inv X pins σ H s)(ho:s'.os=s.os)(u:Un (frs X.stack) ch H H' s.heap s'.heap)(hok:HOk X.prog X.w H' s'.heap)(hg:AllBare s'.gens)
  (hch:∀b∈ch,(b∈X.ex∨X.s₀.heap.objs.size≤b)∧b≠X.env.locals∧(∀x c,X.env.cells.lookup x=some c→c≠b)∧∀p∈X.pn++pins,p.1≠b):Inv X pins σ H' s':=by
 obtain ⟨h',g',d',t',o'⟩:=s'
 have e:o'=s.os:=ho
 subst e
 exact I.call (g':=g') (t':=t') (d':=d') u hok hg hch
end
abbrev XK:=Ag→Option Aj→Hp→Prop
abbrev St:=List (Option V)
abbrev VK:=V→Hp→Prop
abbrev TE:=St→Hp→VK→Prop
abbrev TT:=St→Hp→(Bool→Hp→Prop)→Prop
abbrev TA:=St→Hp→(List V→Hp→Prop)→Prop
structure Ends where
 nx:St→Hp→Prop
 rt:VK
 bk:St→Hp→Prop:=λ_ _=>False
 ct:St→Hp→Prop:=λ_ _=>False
abbrev TS:=Ends→St→Hp→Prop
def EP (X:Cx)(pins:List (Aj×Obj))(σ:St)(Q:VK)(u:Ag)(s':Ab):Prop:=∃v H',Inv X pins σ H' s'∧RelV v u∧Q v H'
def TP (X:Cx)(pins:List (Aj×Obj))(σ:St)(Q:Bool→Hp→Prop)(b:Bool)(s':Ab):Prop:=∃H',Inv X pins σ H' s'∧Q b H'
def AP (X:Cx)(pins:List (Aj×Obj))(σ:St)(Q:List V→Hp→Prop)(us:List Ag)(s':Ab):Prop:=∃vs H',Inv X pins σ H' s'∧Vals vs us∧Q vs H'
def SP (X:Cx)(pins:List (Aj×Obj))(D:Ends)(f:Flow)(s':Ab):Prop :=
 match f with
 |.next=>∃σ' H',Inv X pins σ' H' s'∧D.nx σ' H'
 |.brk=>∃σ' H',Inv X pins σ' H' s'∧D.bk σ' H'
 |.cont=>∃σ' H',Inv X pins σ' H' s'∧D.ct σ' H'
 |.ret u=>∃v σ' H',Inv X pins σ' H' s'∧RelV v u∧D.rt v H'
def PE (X:Cx)(e:Expr)(t:TE):Prop :=
 ∀(pins:List (Aj×Obj)) (s:Ab) (σ:St) (H:Hp) (Q:VK),Inv X pins σ H s→t σ H Q→wpAny (model X.prog X.w) X.A (eval e X.env) (EP X pins σ Q) X.xe s
def PT (X:Cx)(e:Expr)(t:TT):Prop :=
 ∀(pins:List (Aj×Obj)) (s:Ab) (σ:St) (H:Hp) (Q:Bool→Hp→Prop),Inv X pins σ H s→t σ H Q→wpAny (model X.prog X.w) X.A (isTrue e X.env (eval e X.env)) (TP X pins σ Q) X.xe s
def PW (X:Cx)(e:Expr)(t:TT):Prop :=
 ∀(whole:Sem Ag) (pins:List (Aj×Obj)) (s:Ab) (σ:St) (H:Hp) (Q:Bool→Hp→Prop),Inv X pins σ H s→t σ H Q→wpAny (model X.prog X.w) X.A (isTrue e X.env whole) (TP X pins σ Q) X.xe s
theorem PW.pt {X:Cx}{e:Expr}{t:TT}(h:PW X e t):PT X e t:=h _
def PA (X:Cx)(es:List Expr)(t:TA):Prop :=
 ∀(pos:Pos) (pins:List (Aj×Obj)) (s:Ab) (σ:St) (H:Hp) (Q:List V→Hp→Prop),Inv X pins σ H s→t σ H Q→wpAny (model X.prog X.w) X.A (spliced (backTo pos (starEach es X.env))) (AP X pins σ Q) X.xe s
def PS (X:Cx)(st:Stmt)(t:TS):Prop :=
 ∀(pins:List (Aj×Obj)) (s:Ab) (σ:St) (H:Hp) (D:Ends),Inv X pins σ H s→t D σ H→wpAny (model X.prog X.w) X.A (exec st X.env) (SP X pins D) X.xe s
def PSs (X:Cx)(st:List Stmt)(t:TS):Prop :=
 ∀(pins:List (Aj×Obj)) (s:Ab) (σ:St) (H:Hp) (D:Ends),Inv X pins σ H s→t D σ H→wpAny (model X.prog X.w) X.A (execs st X.env) (SP X pins D) X.xe s
theorem thn {α:Type}{t:Sem α}{Q Q':α→Ab→Prop}{M:Model}{A:Ae}{E:Ag→Ab→Prop}{s:Ab}(h:wpAny M A t Q E s)(hQ:∀a s,Q a s→Q' a s):wpAny M A t Q' E s:=aP h hQ λ_ _ x=>x
section
variable {X:Cx}
def Q3 (i:Nat):TE:=λσ H Q=>∃v,σ[i]?=some (some v)∧Q v H
def tC (v:V):TE:=λ_ H Q=>Q v H
theorem pe_var {i:Nat}{x:Str}{pos:Pos}(hN:X.N[i]?=some x)(hv:Vis X.env.scope x)(hd:(x==("__debug__" : Str))=false:=by decide)(hcd:(x==("__classdict__" : Str))=false:=by decide):PE X (.Name x pos) (Q3 i):=by
 intro pins s σ H Q I h
 obtain ⟨v,e,h⟩:=h
 obtain ⟨m,hn,hl⟩:=I.loc
 obtain ⟨u,r,l⟩:=hl i x v hN e hv
 have fin:EP X pins σ Q u s:=⟨v,H,I,r,h⟩
 rcases l with ⟨hk,hm⟩|⟨hk,c,hc,hcell⟩
 ·exact wpAny_Name (wpAny_loadName_local I.ok.kind hk hn hm fin) hd
 ·rcases hk with hk|hk
  ·exact wpAny_Name (wpAny_loadName_cell I.ok.kind hk hc hcell fin) hd
  ·exact wpAny_Name (wpAny_loadName_free I.ok.kind hk hc hcell fin hcd) hd
theorem qr {i j pos}:PE X (.Constant (.int i) j pos) (tC (.int i)):=λ_ _ _ H _ I h=>wpAny_Constant_int ⟨.int i,H,I.tok _,⟨_,rfl⟩,h⟩
theorem j3 {b j pos}:PE X (.Constant (.bool b) j pos) (tC (.bl b)):=λ_ _ _ H _ I h=>Constant_bool ⟨.bl b,H,I,rfl,h⟩
theorem qk6 {j pos}:PE X (.Constant .none j pos) (tC .non):=λ_ _ _ H _ I h=>Constant_none ⟨.non,H,I,rfl,h⟩
theorem xt {x j pos}:PE X (.Constant (.str x) j pos) (tC (.str x)):=λ_ _ _ H _ I h=>Calls.Constant_str ⟨.str x,H,I.tok _,⟨_,rfl⟩,h⟩
def Gl (X:Cx)(x:Str):Prop:=X.env.kindOf x=some .globalImplicit
theorem Q8 {E:Ag→Ab→Prop}{pins:List (Aj×Obj)}{s:Ab}{σ:St}{H:Hp}{x:Str}{u:Ag}{pos:Pos}{Q:Ag→Ab→Prop}(I:Inv X pins σ H s)(hg:Gl X x)(hm:X.mg x=some u)(h:Q u s)
  (hd:(x==("__debug__" : Str))=false:=by decide):wpAny (model X.prog X.w) X.A (eval (.Name x pos) X.env) Q E s :=
 Calls.Name_function_global I.ok.kind hg (Calls.loadGlobal_global (by rw [I.ok.glob];exact I.mod.glob.keeps I.bk) hm h) hd
theorem Zx {E:Ag→Ab→Prop}{pins:List (Aj×Obj)}{s:Ab}{σ:St}{H:Hp}{x:Str}{u:Ag}{pos:Pos}{Q:Ag→Ab→Prop}(I:Inv X pins σ H s)(hg:Gl X x)(hm:X.mg x=none)(hv:bootBuiltins x=some u)(h:Q u s)
  (hn:x ≠ "__name__" := by decide) (hd:(x==("__debug__" : Str))=false:=by decide):wpAny (model X.prog X.w) X.A (eval (.Name x pos) X.env) Q E s:=by
 obtain ⟨mb,h1,h2⟩:=I.mod.blt
 exact Calls.Name_function_global I.ok.kind hg (Calls.loadGlobal_builtin (by rw [I.ok.glob];exact I.mod.glob.keeps I.bk) hm (by rw [I.ok.blt];exact h1.keeps I.bk) ((h2 x hn).trans hv) h) hd
theorem yp {x:Str}{v:V}{u:Ag}{pos:Pos}(hg:Gl X x)(hm:X.mg x=some u)(r:RelV v u)(hd:(x==("__debug__" : Str))=false:=by decide):PE X (.Name x pos) (tC v) :=
 λ_ _ _ H _ I h=>Q8 I hg hm ⟨v,H,I,r,h⟩ hd
theorem qyg {x:Str}{v:V}{u:Ag}{pos:Pos}(hg:Gl X x)(hm:X.mg x=none)(hv:bootBuiltins x=some u)(r:RelV v u)(hn:x ≠ "__name__" := by decide)(hd:(x==("__debug__" : Str))=false:=by decide):PE X (.Name x pos) (tC v) :=
 λ_ _ _ H _ I h=>Zx I hg hm hv ⟨v,H,I,r,h⟩ hn hd
variable {a b:Expr}{ta tb:TE}{pos:Pos}
def PC (X:Cx)(op:CmpOp)(a b:Expr)(t:TE):Prop :=
 ∀(pins:List (Aj×Obj)) (s:Ab) (σ:St) (H:Hp) (Q:VK),Inv X pins σ H s→t σ H Q →
  wpAny (model X.prog X.w) X.A (eval a X.env) (λv s₁=>wpAny (model X.prog X.w) X.A (eval b X.env) (λu s₂=>wpAny (model X.prog X.w) X.A (compareOp op v u) (EP X pins σ Q) X.xe s₂) X.xe s₁) X.xe s
def tB (t:TE):TT:=λσ H Q=>t σ H λx H1=>∃c,x=.bl c∧Q c H1
theorem Jb {op:CmpOp}{t:TE}(h:PC X op a b t)(h1:behindInMarks op b=false:=by first | exact nobehind _ (by decide) (by decide) | rfl):PT X (.Compare a [op] [b] pos) (tB t):=by
 intro pins s σ H Q I hw
 refine wpAny_isTrue_Compare1 (thn (h pins s σ H _ I hw) λv s1 h1=>thn h1 λu s2 h2=>thn h2 λc s3 ⟨x,H1,I1,r1,q1⟩=>?_) h1
 obtain ⟨d,rfl,q⟩:=q1
 cases r1
 exact ce ⟨H1,I1,q⟩
theorem vh {e:Expr}{t:TE}(h:PE X e t)(he:∀whole,isTrue e X.env whole=(do let v ←whole;standAt e.pos;holding [v] (truthy v)):=by intro _;rfl):PT X e (tB t):=by
 intro pins s σ H Q I hw
 refine isTrue_plain (thn (h pins s σ H _ I hw) λv s1 ⟨x,H1,I1,r1,q1⟩=>?_) (he _)
 obtain ⟨d,rfl,q⟩:=q1
 cases r1
 exact ce ⟨H1,I1,q⟩
variable {tA tB':TT}{rest:List Expr}
def tAnd (t u:TT):TT:=λσ H Q=>t σ H λc H1=>if c=true then u σ H1 Q else Q false H1
def tOr (t u:TT):TT:=λσ H Q=>t σ H λc H1=>if c=true then Q true H1 else u σ H1 Q
def tNot (t:TT):TT:=λσ H Q=>t σ H λc H1=>Q (!c) H1
theorem quw (ha:PT X a tA):PW X (.BoolOp .And [a] pos) tA:=by
 intro wh pins s σ H Q I h
 refine isTrue_and (thn (ha pins s σ H Q I h) λc s1 e=>?_)
 cases c with
 |true=>exact isTrue_and_nil e
 |false=>exact e
theorem j7 (ha:PT X a tA):PW X (.BoolOp .Or [a] pos) tA:=by
 intro wh pins s σ H Q I h
 refine isTrue_or (thn (ha pins s σ H Q I h) λc s1 e=>?_)
 cases c with
 |false=>exact isTrue_or_nil e
 |true=>exact e
theorem qjw (ha:PT X a tA)(hb:PW X (.BoolOp .And (b::rest) pos) tB'):PW X (.BoolOp .And (a::b::rest) pos) (tAnd tA tB'):=by
 intro wh pins s σ H Q I h
 refine isTrue_and (thn (ha pins s σ H _ I h) λc s1 ⟨H1,I1,q1⟩=>?_)
 cases c with
 |true=>exact hb wh pins s1 σ H1 Q I1 q1
 |false=>exact ⟨H1,I1,q1⟩
theorem u8 (ha:PT X a tA)(hb:PW X (.BoolOp .Or (b::rest) pos) tB'):PW X (.BoolOp .Or (a::b::rest) pos) (tOr tA tB'):=by
 intro wh pins s σ H Q I h
 refine isTrue_or (thn (ha pins s σ H _ I h) λc s1 ⟨H1,I1,q1⟩=>?_)
 cases c with
 |true=>exact ⟨H1,I1,q1⟩
 |false=>exact hb wh pins s1 σ H1 Q I1 q1
theorem vf (ha:PT X a tA):PT X (.UnaryOp .Not a pos) (tNot tA):=by
 intro pins s σ H Q I h
 exact isTrue_not (ha pins s σ H (λc H1=>Q (!c) H1) I h)
def tAndV (ta tb:TE):TE:=λσ H Q=>ta σ H λx H1=>∃c,x=.bl c∧if c=true then tb σ H1 Q else Q (.bl false) H1
def tNotV (ta:TE):TE:=λσ H Q=>ta σ H λx H1=>∃c,x=.bl c∧Q (.bl (!c)) H1
theorem qjt {op}{t:TE}(h:PE X a t):PE X (.BoolOp op [a] pos) t:=λpins s σ H Q I hw=>BoolOp_one (h pins s σ H Q I hw)
theorem qyy (ha:PE X a ta)(hb:PE X (.BoolOp .And (b::rest) pos) tb):PE X (.BoolOp .And (a::b::rest) pos) (tAndV ta tb):=by
 intro pins s σ H Q I h
 refine BoolOp_and (thn (ha pins s σ H _ I h) λv s1 ⟨x,H1,I1,r1,q1⟩=>?_)
 obtain ⟨c,rfl,q1⟩:=q1
 cases r1
 refine ce ?_
 cases c with
 |true=>exact hb pins s1 σ H1 Q I1 q1
 |false=>exact ⟨.bl false,H1,I1,rfl,q1⟩
theorem pe_not (ha:PE X a ta):PE X (.UnaryOp .Not a pos) (tNotV ta):=by
 intro pins s σ H Q I h
 refine UnaryOp_ (thn (ha pins s σ H _ I h) λv s1 ⟨x,H1,I1,r1,q1⟩=>?_)
 obtain ⟨c,rfl,q1⟩:=q1
 cases r1
 exact not_of (ce ⟨.bl (!c),H1,I1,rfl,q1⟩)
def tIf (t:TT)(ta tb:TE):TE:=λσ H Q=>t σ H λc H1=>if c=true then ta σ H1 Q else tb σ H1 Q
theorem qkx {c:Expr}(hc:PT X c tA)(ha:PE X a ta)(hb:PE X b tb):PE X (.IfExp c a b pos) (tIf tA ta tb):=by
 intro pins s σ H Q I h
 refine wpAny_IfExp (thn (hc pins s σ H _ I h) λd s1 ⟨H1,I1,q1⟩=>?_)
 cases d with
 |true=>exact ha pins s1 σ H1 Q I1 q1
 |false=>exact hb pins s1 σ H1 Q I1 q1
end
def SqL (K:Aa)(H:Hp)(a:Aj)(xs:List V):Prop :=
 Rd H a (.lst xs) ∨
  ∃(o:Obj) (its:Array Ag) (n:Nat),K.lookup a=some o∧o.cls=.type "list" ∧ o.dict=none∧o.data=.seq its n∧its.size≤sizeLine∧Vals xs its.toList
def SqT (K:Aa)(H:Hp)(a:Aj)(xs:List V):Prop :=
 Rd H a (.tup xs) ∨
  ∃(o:Obj) (its:Array Ag) (n:Nat),K.lookup a=some o∧o.cls=.type "tuple" ∧ o.data=.seq its n∧its.size≤sizeLine∧Vals xs its.toList
def absV:Ag→Option V
 |.none=>some .non
 |.bool b=>some (.bl b)
 |.int i _=>some (.int i)
 |.str x _=>some (.str x)
 |.bytes b _=>some (.byt b)
 |.float b _=>some (.flt b)
 |.ref a=>some (.ref a)
 |.type n=>some (.ty n)
 |_=>none
theorem RelV.abs {x:V}{u:Ag}(r:RelV x u):absV u=some x:=by
 cases x with
 |non=>cases r;rfl
 |bl _=>cases r;rfl
 |int _=>obtain ⟨t,rfl⟩:=r;rfl
 |str _=>obtain ⟨t,rfl⟩:=r;rfl
 |byt _=>obtain ⟨t,rfl⟩:=r;rfl
 |flt _=>obtain ⟨t,rfl⟩:=r;rfl
 |ref _=>cases r;rfl
 |ty _=>cases r;rfl
theorem RelV.inj {x y:V}{u:Ag}(r:RelV x u)(q:RelV y u):x=y:=az (r.abs.symm.trans q.abs)
theorem Vals.inj:∀ {xs ys:List V} {us:List Ag},Vals xs us→Vals ys us→xs=ys
 |_,_,_,.nil,.nil=>rfl
 |_,_,_,.cons r t,.cons r' t'=>by rw [r.inj r',Vals.inj t t']
section
variable {X:Cx}{pins:List (Aj×Obj)}{σ:St}{H:Hp}{s:Ab}{a:Aj}{xs ys:List V}
theorem SqL.of {K:Aa}(h:H a=some (.lst xs)):SqL K H a xs:=.inl (.inl h)
theorem SqT.of {K:Aa}(h:H a=some (.tup xs)):SqT K H a xs:=.inl (.inl h)
theorem Inv.list (I:Inv X pins σ H s)(h:SqL X.K H a xs):∃its:List Ag,Vals xs its∧PlainL s.heap a its.toArray∧xs.length≤sizeLine:=by
 rcases h with h|⟨o,its,n,hk,hc,hd,hs,hz,r⟩
 ·obtain ⟨z,its,n,r,e⟩:=h.ok I.hok
  exact ⟨its,r,⟨_,n,e,rfl,rfl,rfl⟩,z⟩
 ·refine ⟨its.toList,r,⟨o,n,I.kIn a o hk,hc,hd,by simpa using hs⟩,?_⟩
  have e:=r.length
  simp only [bd] at e
  lia
theorem Inv.tuple (I:Inv X pins σ H s)(h:SqT X.K H a xs):∃its:List Ag,Vals xs its∧IsTup s.heap a its.toArray∧xs.length≤sizeLine:=by
 rcases h with h|⟨o,its,n,hk,hc,hs,hz,r⟩
 ·obtain ⟨z,its,r,p⟩:=h.ok I.hok
  exact ⟨its,r,p,z⟩
 ·refine ⟨its.toList,r,⟨o,I.kIn a o hk,hc,n,by simpa using hs⟩,?_⟩
  have e:=r.length
  simp only [bd] at e
  lia
theorem Inv.list_inj (I:Inv X pins σ H s)(h:SqL X.K H a xs)(h':SqL X.K H a ys):xs=ys:=by
 obtain ⟨its,r,⟨o,n,e,_,_,d⟩,_⟩:=I.list h
 obtain ⟨its',r',⟨o',n',e',_,_,d'⟩,_⟩:=I.list h'
 rw [e] at e';cases e'
 rw [d] at d'
 injection d' with d1 _
 have:its=its':=by simpa using bJ Array.toList d1
 subst this
 exact r.inj r'
end
abbrev Cx.wish (X:Cx)(E:Ag→Ab→Prop):Cx:={ X with xe:=E }
section
variable {X:Cx}{pins:List (Aj×Obj)}{σ:St}{H:Hp}{s:Ab}{E:Ag→Ab→Prop}
end
section
variable {X:Cx}{st:Stmt}{rest:List Stmt}{t u:TS}{e:Expr}{te:TE}{pos:Pos}
def tNext:TS:=λD σ H=>D.nx σ H
def tSeq (t u:TS):TS:=λD σ H=>t { D with nx:=u D } σ H
theorem w9:PSs X [] tNext:=λ_ _ σ H _ I h=>dR ⟨σ,H,I,h⟩
theorem qy (h1:PS X st t)(h2:PSs X rest u):PSs X (st::rest) (tSeq t u):=by
 intro pins s σ H D I h
 refine eW (thn (h1 pins s σ H { D with nx:=u D } I h) λf s1 q=>?_)
 cases f with
 |next =>
  obtain ⟨σ',H',I',q⟩:=q
  exact h2 pins s1 σ' H' D I' q
 |ret v=>exact q
 |brk=>exact q
 |cont=>exact q
theorem wj (h1:PS X st t):PSs X [st] t:=by
 intro pins s σ H D I h
 refine eW (thn (h1 pins s σ H D I h) λf s1 q=>?_)
 cases f with
 |next=>exact dR q
 |ret v=>exact q
 |brk=>exact q
 |cont=>exact q
theorem Inv.quiet {pins:List (Aj×Obj)}{σ:St}{H:Hp}{s:Ab}(I:Inv X pins σ H s):interactive X.env=false:=by simp [interactive,I.ok.kind]
def tDrop (te:TE):TS:=λD σ H=>te σ H λ_ H1=>D.nx σ H1
theorem zw (he:PE X e te)(hs:swapsWith e none pos.line X.env=pure false:=by rfl):PS X (.Expr e pos) (tDrop te):=by
 intro pins s σ H D I h
 exact wpAny_Expr_any (thn (he pins s σ H _ I h) λv s1 ⟨x,H1,I1,r1,q1⟩=>⟨σ,H1,I1,q1⟩) I.quiet hs
def tRet (te:TE):TS:=λD σ H=>te σ H D.rt
theorem w8 (he:PE X e te):PS X (.Return (some e) pos) (tRet te):=by
 intro pins s σ H D I h
 exact wpAny_Return_some (thn (he pins s σ H _ I h) λv s1 ⟨x,H1,I1,r1,q1⟩=>⟨x,σ,H1,I1,r1,q1⟩)
def tIfS (c:TT)(t u:TS):TS:=λD σ H=>c σ H λb H1=>if b=true then t D σ H1 else u D σ H1
theorem zq {c:Expr}{a b:List Stmt}{tc:TT}(hc:PT X c tc)(ha:PSs X a t)(hb:PSs X b u):PS X (.If c a b pos) (tIfS tc t u):=by
 intro pins s σ H D I h
 refine wpAny_If (thn (hc pins s σ H _ I h) λd s1 ⟨H1,I1,q1⟩=>?_)
 cases d with
 |true=>exact ha pins s1 σ H1 D I1 q1
 |false=>exact hb pins s1 σ H1 D I1 q1
end
abbrev TG:=V→St→Hp→(St→Hp→Prop)→Prop
abbrev TGs:=List V→St→Hp→(St→Hp→Prop)→Prop
def PG (X:Cx)(target:Expr)(t:TG):Prop :=
 ∀(pins:List (Aj×Obj)) (s:Ab) (σ:St) (H:Hp) (v:V) (u:Ag) (Q:St→Hp→Prop),Inv X pins σ H s→RelV v u→t v σ H Q →
  wpAny (model X.prog X.w) X.A (assign target X.env u) (λ_ s'=>∃σ' H',Inv X pins σ' H' s'∧Q σ' H') X.xe s
def PGs (X:Cx)(ts:List Expr)(t:TGs):Prop :=
 ∀(pins:List (Aj×Obj)) (s:Ab) (σ:St) (H:Hp) (vs:List V) (us:List Ag) (Q:St→Hp→Prop),Inv X pins σ H s→Vals vs us→t vs σ H Q →
  wpAny (model X.prog X.w) X.A (assignInOrder ((assignEach ts X.env).map (·.2)) us) (λ_ s'=>∃σ' H',Inv X pins σ' H' s'∧Q σ' H') X.xe s
abbrev TIp:=V→V→Hp→VK→Prop
def PIp (X:Cx)(op:Operator)(t:TIp):Prop :=
 ∀(pins:List (Aj×Obj)) (s:Ab) (σ:St) (H:Hp) (x y:V) (v u:Ag) (Q:VK),Inv X pins σ H s→RelV x v→RelV y u→t x y H Q →
  wpAny (model X.prog X.w) X.A (inplaceOp op v u) (EP X pins σ Q) X.xe s
section
variable {X:Cx}{pos:Pos}
def qyf (i:Nat):TG:=λv σ H Q=>Q (σ.set i (some v)) H
theorem xj {i:Nat}{x:Str}(hN:X.N.Nodup)(hi:X.N[i]?=some x)(hx:Loc X.env.scope x)(hf:X.fn x=true∨X.env.scope.names.lookup x=some .local:=by first | exact .inl rfl | exact .inr rfl | assumption):PG X (.Name x pos) (qyf i):=by
 intro pins s σ H v u Q I r h
 exact eN (jp I hN hi hx r (λs' I'=>⟨_,H,I',h⟩) hf)
def gNil:TGs:=λvs σ H Q=>vs=[]∧Q σ H
def gCons (t:TG)(u:TGs):TGs:=λvs σ H Q=>∃v r,vs=v::r∧t v σ H λσ' H'=>u r σ' H' Q
theorem vb:PGs X [] gNil:=by
 intro pins s σ H vs us Q I r h
 obtain ⟨e,h⟩:=h
 subst e
 cases r
 exact assignInOrder_nil ⟨σ,H,I,h⟩
theorem xg {e:Expr}{es:List Expr}{t:TG}{u:TGs}(h1:PG X e t)(h2:PGs X es u)
  (hs:(assignEach (e::es) X.env).map (·.2)=assign e X.env::(assignEach es X.env).map (·.2):=by rfl):PGs X (e::es) (gCons t u):=by
 intro pins s σ H vs us Q I r h
 obtain ⟨v,vr,e1,h⟩:=h
 subst e1
 cases r with
 |cons r rr =>
  rw [hs]
  refine el (thn (h1 pins s σ H _ _ _ I r h) λ_ s1 ⟨σ1,H1,I1,q1⟩=>?_)
  exact h2 pins s1 σ1 H1 _ _ Q I1 rr q1
def gTup (K:Aa)(n:Nat)(t:TGs):TG:=λv σ H Q=>∃a xs,v=.ref a∧SqT K H a xs∧xs.length=n∧t xs σ H Q
theorem k7 {es:List Expr}{k:Nat}{t:TGs}{n:Nat}(hc:X.calm=true)(h:PGs X es t)
  (hn:(assignEach es X.env).length=n:=by rfl) (hst:(assignEach es X.env).findIdx? (·.1)=none:=by rfl):PG X (.Tuple es k pos) (gTup X.K n t):=by
 intro pins s σ H v u Q I r hw
 obtain ⟨a,xs,e1,hq,hl,hw⟩:=hw
 subst e1
 cases r
 obtain ⟨its,rv,ht,hz⟩:=I.tuple hq
 refine assign_Tuple_tuple (I.ok.hd hc) ht (by simp [hn,←hl,rv.length]) hst λh' hx=>?_
 have I1:Inv X pins σ H { s with heap:=h' }:=I.kept (t':=s.toks) λb o e=>hx b o (av (al e)) e
 exact h pins _ σ H xs _ Q I1 (by simpa using rv) hw
def tAsg (te:TE)(g:TG):TS:=λD σ H=>te σ H λx H1=>g x σ H1 D.nx
theorem j6 {tg e:Expr}{te:TE}{g:TG}(he:PE X e te)(hg:PG X tg g)(hs:swapsWithSole [tg] e pos.line X.env=pure false:=by rfl)(hw:swappedStores [tg] e X.env=pure none:=by rfl)
  (h1:(assignEach [tg] X.env).map (·.2)=[assign tg X.env]:=by rfl):PS X (.Assign [tg] e pos) (tAsg te g):=by
 intro pins s σ H D I h
 refine wpAny_Assign_stores (thn (he pins s σ H _ I h) λv s1 ⟨x,H1,I1,r1,q1⟩=>?_) hs hw
 rw [h1]
 exact thn (hg pins s1 σ H1 x v _ I1 r1 q1) λ_ s2 q=>q
theorem xz {i:Nat}{x:Str}{e:Expr}{te:TE}{pos':Pos}(hN:X.N.Nodup)(hi:X.N[i]?=some x)(hx:Loc X.env.scope x)(he:PE X e te)(hs:swapsWith e (some (.Name x pos')) pos.line X.env=pure false:=by rfl)(hf:X.fn x=true∨X.env.scope.names.lookup x=some .local:=by first | exact .inl rfl | exact .inr rfl | assumption) :
  PS X (.Assign [.Name x pos'] e pos) (tAsg te (qyf i)):=by
 intro pins s σ H D I h
 refine wpAny_Assign_Name (thn (he pins s σ H _ I h) λv s1 ⟨y,H1,I1,r1,q1⟩=>?_) hs
 exact jp I1 hN hi hx r1 (λs2 I2=>⟨_,H1,I2,q1⟩) hf
def tPar (i j:Nat)(ta:TA):TS:=λD σ H=>ta σ H λvs H1=>∃v w,vs=[v,w]∧D.nx ((σ.set i (some v)).set j (some w)) H1
theorem wzz {i j:Nat}{x y:Str}{a b:Expr}{ta:TA}{px py pt:Pos}{kt k2 pt2}(hc:X.calm=true)(hN:X.N.Nodup)(hi:X.N[i]?=some x)(hj:X.N[j]?=some y)(hij:i≠j)
  (hx:X.env.scope.names.lookup x=some .local) (hy:X.env.scope.names.lookup y=some .local) (ha:PA X [a,b] ta)
  (hw:swappedStores [.Tuple [.Name x px,.Name y py] kt pt] (.Tuple [a,b] k2 pt2) X.env=pure (some [x,y]))
  (hs:swapsWithSole [.Tuple [.Name x px,.Name y py] kt pt] (.Tuple [a,b] k2 pt2) pos.line X.env=pure false:=by rfl) :
  PS X (.Assign [.Tuple [.Name x px,.Name y py] kt pt] (.Tuple [a,b] k2 pt2) pos) (tPar i j ta):=by
 intro pins s σ H D I h
 rw [exec_Assign_arm]
 refine aa (cT ?_)
 rw [hs]
 refine aa (am ?_)
 rw [ag (by decide)]
 refine aa (Tuple_ (thn (ha _ pins s σ H _ I h) λus s1 ⟨vs,H1,I1,r1,q1⟩=>?_))
 obtain ⟨v,w,e1,q1⟩:=q1
 subst e1
 obtain ⟨u1,u2,rfl,rv,rw'⟩:∃u1 u2,us=[u1,u2]∧RelV v u1∧RelV w u2:=by
  cases r1 with
  |cons p q =>
   cases q with
   |cons p' q' =>
    cases q'
    exact ⟨_,_,rfl,p,p'⟩
 refine bL ?_ (by show 2≤sizeLine;decide)
 have I2:Inv X pins σ H1 { s1 with heap:=s1.heap.push { cls:=.type "tuple",data:=.seq [u1,u2].toArray } }:=I1.kept (t':=s1.toks) λb o e=>ae _ e
 rw [hw]
 refine aa (am ?_)
 show wpAny (model X.prog X.w) X.A (do rule "assign.swapped-stores";let items ←unpackItems (.ref s1.heap.objs.size) 2 none;assignInOrder [λv=>bindName X.env y v,λv=>bindName X.env x v] items.reverse;pure Flow.next) _ _ _
 refine aa (wpAny_rule (aa (unpackItems_tuple (items:=#[u1,u2]) (I.ok.hd hc) (IsTup.new s1.heap _) λh' hx'=>?_)))
 have I3:=I2.kept (h':=h') (t':=s1.toks) λb o e=>hx' b o (av (al e)) e
 show wpAny _ _ (assignInOrder [λv=>bindName X.env y v,λv=>bindName X.env x v] [u2,u1] >>= λ_=>pure Flow.next) _ _ _
 refine aa (el (wpAny_bindName (jp I3 hN hj (.inl hy) rw' (λs2 I4=>?_) (.inr hy))))
 refine el (wpAny_bindName (jp I4 hN hi (.inl hx) rv (λs3 I5=>assignInOrder_nil (am ?_)) (.inr hx)))
 rw [List.set_comm _ _ (aW hij)] at I5
 exact ⟨_,H1,I5,q1⟩
def tAug (i:Nat)(te:TE)(ti:TIp):TS:=λD σ H=>∃x,σ[i]?=some (some x)∧te σ H λy H1=>ti x y H1 λz H2=>D.nx (σ.set i (some z)) H2
theorem qyw {i:Nat}{x:Str}{e:Expr}{te:TE}{op:Operator}{ti:TIp}{pos':Pos}(hN:X.N.Nodup)(hi:X.N[i]?=some x)(hx:Loc X.env.scope x)(he:PE X e te)(ho:PIp X op ti)(hf:X.fn x=true∨X.env.scope.names.lookup x=some .local:=by first | exact .inl rfl | exact .inr rfl | assumption) :
  PS X (.AugAssign (.Name x pos') op e pos) (tAug i te ti):=by
 intro pins s σ H D I h
 obtain ⟨v,e1,h⟩:=h
 obtain ⟨m,hn,hl⟩:=I.loc
 have vis:Vis X.env.scope x:=by rcases hx with k|k;exact .inl k;exact .inr (.inl k)
 obtain ⟨u,r,l⟩:=hl i x v hi e1 vis
 refine wpAny_AugAssign_Name ?_
 have go:wpAny (model X.prog X.w) X.A (eval e X.env) (λw s₂=>wpAny (model X.prog X.w) X.A (inplaceOp op u w) (λr s₃=>wpAny (model X.prog X.w) X.A (storeName X.env x r) (λ_=>SP X pins D .next) X.xe s₃) X.xe s₂) X.xe s:=by
  refine thn (he pins s σ H _ I h) λw s1 ⟨y,H1,I1,r1,q1⟩=>?_
  refine thn (ho pins s1 σ H1 v y u w _ I1 r r1 q1) λz s2 ⟨zv,H2,I2,r2,q2⟩=>?_
  exact jp I2 hN hi hx r2 (λs3 I3=>⟨_,H2,I3,q2⟩) hf
 rcases l with ⟨hk,hm⟩|⟨hk,c,hc,hcell⟩
 ·exact wpAny_loadName_local I.ok.kind hk hn hm go
 ·rcases hk with hk|hk
  ·exact wpAny_loadName_cell I.ok.kind hk hc hcell go
  ·rcases hx with k|k
   ·have:X.env.scope.names.lookup x=some .free:=hk
    rw [k] at this;cases this
   ·have:X.env.scope.names.lookup x=some .free:=hk
    rw [k] at this;cases this
def ipI (f:Int→Int→Int):TIp:=λx y H Q=>∃i j,x=.int i∧y=.int j∧Q (.int (f i j)) H
theorem qjj:PIp X .Add (ipI λi j=>i+j):=by
 intro pins s σ H x y v u Q I r1 r2 h
 obtain ⟨i,j,e1,e2,q⟩:=h
 subst e1;subst e2
 obtain ⟨t,rfl⟩:=r1
 obtain ⟨t',rfl⟩:=r2
 exact iadd_int ⟨.int _,H,I.tok _,⟨_,rfl⟩,q⟩
end
section
variable {X:Cx}{pos:Pos}
def qyj (c:TT)(tb:TS):TS:=λD σ H=>∃W:Nat→St→Hp→Prop,(∃m,W m σ H)∧∀m σ H,W m σ H →
 c σ H λb H1=>if b=true then ∃N:St→Hp→Prop,(∀σ' H',N σ' H'→∃m',m'<m∧W m' σ' H')∧tb { D with nx:=N,ct:=N,bk:=D.nx } σ H1 else D.nx σ H1
theorem Q2 {c:Expr}{body:List Stmt}{tc:TT}{tb:TS}(hp:PassesOwn (model X.prog X.w) X.A X.env X.xe)(hc:PT X c tc)(hb:PSs X body tb):PS X (.While c body [] pos) (qyj tc tb):=by
 intro pins s σ H D I h
 obtain ⟨W,⟨m0,w0⟩,turn⟩:=h
 refine wpAny_While (codeAny_whileLoop (λn s'=>∃σ' H',Inv X pins σ' H' s'∧W n σ' H') ?_ m0 ⟨σ,H,I,w0⟩)
 rintro n s1 ⟨σ1,H1,I1,w1⟩
 refine bZ hp (thn (hc pins s1 σ1 H1 _ I1 (turn n σ1 H1 w1)) λb s2 ⟨H2,I2,q2⟩=>?_)
 cases b with
 |true =>
  obtain ⟨N,hN,q2⟩:=q2
  rw [ak rfl]
  refine bZ hp (thn (hb pins s2 σ1 H2 _ I2 q2) λf s3 q3=>?_)
  cases f with
  |next =>
   obtain ⟨σ3,H3,I3,n3⟩:=q3
   obtain ⟨m',hm,w3⟩:=hN σ3 H3 n3
   exact ⟨m',hm,σ3,H3,I3,w3⟩
  |cont =>
   obtain ⟨σ3,H3,I3,n3⟩:=q3
   obtain ⟨m',hm,w3⟩:=hN σ3 H3 n3
   exact ⟨m',hm,σ3,H3,I3,w3⟩
  |brk=>exact q3
  |ret v=>exact q3
 |false =>
  rw [ag aA]
  exact dR ⟨σ1,H2,I2,q2⟩
end
structure It where
 go:Nat→Hp→Prop
 yld:Nat→Hp→V→Hp→Prop
 stop:Nat→Hp→Prop
def jh (X:Cx)(pins:List (Aj×Obj))(H:Hp)(b:Aj):Prop :=
 H b=none∧b≠X.env.locals∧b∉X.fs∧(b∈X.ex∨X.s₀.heap.objs.size≤b)∧(∀x c,X.env.cells.lookup x=some c→c≠b)∧∀p∈X.pn++pins,p.1≠b
theorem Inv.fpOk {X:Cx}{pins:List (Aj×Obj)}{σ:St}{H H':Hp}{s:Ab}{b:Aj}(I:Inv X pins σ H s)(hb:s.heap.objs.size≤b)(hn:H' b=none):jh X pins H' b:=by
 refine ⟨hn,dZ (aE I.lt hb),I.nofs hb,.inr (bH I.sz hb),λx c e z=>?_,λp hp z=>?_⟩
 ·obtain ⟨v,q⟩:=I.cell x c e
  exact absurd (aE q.lt (by rw [z];exact hb)) (aQ _)
 ·exact absurd (aE (al (I.pin p hp).1) (by rw [z];exact hb)) (aQ _)
structure Turn (P:Ac)(w:Ah)(K:Aa)(tg:Expr)(J:It)(fp:List Aj)(it:Aj)(tn:Nat→Heap→Prop):Prop where
 mem:it∈fp
 obj:∀i h,tn i h→∀b∈fp,∃o,h.get? b=some o∧∀v,o.data≠.cell v
 keep:∀i h h',tn i h→(∀b∈fp,∀o,h.get? b=some o→h'.get? b=some o)→tn i h'
 item:∀(X:Cx),X.prog=P→X.w=w→X.K=K→X.calm=true→∀(i:Nat) (pins:List (Aj×Obj)) (s:Ab) (σ:St) (H:Hp) (E:Ag→Ab→Prop),Inv X pins σ H s→(∀b∈fp,jh X pins H b)→tn i s.heap→J.go i H →
  wpAny (model P w) X.A (pyNext (.ref it)) (λr s1=>∃u,r=some u ∧
   wpAny (model P w) X.A (letOwnedTupleGo tg (.ref it) u) (λ_ s2=>∃x H',Inv X pins σ H' s2∧RelV x u∧J.yld i H x H'∧tn (i+1) s2.heap∧∀b∈fp,H' b=none) E s1) E s
 done:∀(X:Cx),X.prog=P→X.w=w→X.K=K→X.calm=true→∀(i:Nat) (pins:List (Aj×Obj)) (s:Ab) (σ:St) (H:Hp) (E:Ag→Ab→Prop),Inv X pins σ H s→(∀b∈fp,jh X pins H b)→tn i s.heap→J.stop i H →
  wpAny (model P w) X.A (pyNext (.ref it)) (λr s1=>r=none∧Inv X pins σ H s1) E s
 self:∀(A:Ae) (i:Nat) (s:Ab) (Q:Ag→Ab→Prop) (E:Ag→Ab→Prop),tn i s.heap→Q (.ref it) s→wpAny (model P w) A (pyIter (.ref it)) Q E s
abbrev TI:=St→Hp→(It→Hp→Prop)→Prop
def PIE (X:Cx)(pins:List (Aj×Obj))(σ:St)(tg:Expr)(R:It→Hp→Prop)(itv:Ag)(s2:Ab):Prop :=
 ∃(it:Aj) (fp:List Aj) (tn:Nat→Heap→Prop) (J:It) (H':Hp),itv=.ref it∧Inv X pins σ H' s2∧Turn X.prog X.w X.K tg J fp it tn∧tn 0 s2.heap∧(∀b∈fp,jh X pins H' b)∧R J H'
def PI (X:Cx)(tg iter:Expr)(wi:TI):Prop :=
 ∀(pins:List (Aj×Obj)) (s:Ab) (σ:St) (H:Hp) (R:It→Hp→Prop),Inv X pins σ H s→wi σ H R →
  wpAny (model X.prog X.w) X.A (eval iter X.env) (λv s1=>wpAny (model X.prog X.w) X.A (pyIter v) (PIE X pins σ tg R) X.xe s1) X.xe s
theorem qkv {M:Model}{A:Ae}{E:Ag→Ab→Prop}{s:Ab}{tg:Expr}{it:Aj}{u:Ag}{o:Obj}{n:String}{vs:Array Ag}{Q:Unit→Ab→Prop}(ho:s.heap.get? it=some o)(hc:o.cls=.type n)(hd:o.data=.fields vs)
  (hn:["enumerate","zip","dict_itemiterator","dict_reverseitemiterator","odict_iterator","itertools.zip_longest","itertools.pairwise"].contains n=false) (hQ:Q () s):wpAny M A (letOwnedTupleGo tg (.ref it) u) Q E s:=by
 unfold letOwnedTupleGo
 cases tg <;> first
  |exact am hQ
  |(cases u <;> first
    |exact am hQ
    |(refine aa (wpAny_load ho ?_)
      rw [hc,hd]
      show wpAny M A (if (["enumerate","zip","dict_itemiterator","dict_reverseitemiterator","odict_iterator","itertools.zip_longest","itertools.pairwise"].contains n&&vs[0]?==some (rawInt _))=true then _ else _) Q E s
      rw [ag (by intro h;rw [hn,Bool.false_and] at h;cases h)]
      exact am hQ))
def Itl (K:Aa)(a:Aj):It :=
 ⟨λi H=>∃xs x,SqL K H a xs∧xs[i]?=some x,λi H x H'=>H'=H∧∀xs,SqL K H a xs→xs[i]?=some x,λi H=>∃xs,SqL K H a xs∧xs.length≤i⟩
def Itr (lo:Int)(n:Nat):It:=⟨λi _=>i<n,λi H x H'=>H'=H∧x=.int (lo+i),λi _=>n≤i⟩
theorem wqb {P:Ac}{w:Ah}{K:Aa}{tg:Expr}(a it:Aj):Turn P w K tg (Itl K a) [it] it (λi h=>h.IsListIter it a i) where
 mem:=by simp
 obj:=λi h st b hb=>by
  have e:b=it:=by simpa using hb
  subst e
  obtain ⟨o,e,c,d⟩:=st
  exact ⟨o,e,λv z=>by rw [d] at z;cases z⟩
 keep:=λi h h' st k=>st.at λo e=>k it (by simp) o e
 item:=by
  intro X hP hw hK hc i pins s σ H E I hf st hg
  subst hP hw hK
  obtain ⟨xs,x,hq,hx⟩:=hg
  obtain ⟨its,rv,p,hz⟩:=I.list hq
  obtain ⟨u,hu,ru⟩:=rv.get hx
  obtain ⟨f0,f1,f2,f3,f4,f5⟩:=hf it (by simp)
  refine wpAny_pyNext_list_item st p.isList (x:=u) (by simpa using hu) λh' st' sb=>?_
  have I1:Inv X pins σ H { s with heap:=h' }:=I.turned (t':=s.toks) (λb o hb e=>(sb.2 b hb).trans e) f0 f1 f3 f4 f5
  obtain ⟨o,e,c,d⟩:=id st'
  exact ⟨u,rfl,qkv (s:={ s with heap:=h' }) e c d (by decide) ⟨x,H,I1,ru,⟨rfl,λys hy=>by rw [I.list_inj hy hq];exact hx⟩,st',λb hb=>(hf b hb).1⟩⟩
 done:=by
  intro X hP hw hK hc i pins s σ H E I hf st hg
  subst hP hw hK
  obtain ⟨xs,hq,hx⟩:=hg
  obtain ⟨its,rv,p,hz⟩:=I.list hq
  obtain ⟨f0,f1,f2,f3,f4,f5⟩:=hf it (by simp)
  have hl:=rv.length
  exact wpAny_pyNext_list_end (I.ok.hd hc) st p.isList (by simp;lia) λh' eb=>⟨rfl,I.turned (t':=s.toks) (λb o hb e=>eb b o hb e) f0 f1 f3 f4 f5⟩
 self:=λ_ _ _ _ _ st h=>wpAny_pyIter_listiter st h
theorem qjy {P:Ac}{w:Ah}{K:Aa}{tg:Expr}(it:Aj)(lo:Int)(n:Nat):Turn P w K tg (Itr lo n) [it] it (λi h=>IsRangeIter h it (lo+(i:Nat)*1) ((n:Int)-(i:Nat)) 1) where
 mem:=by simp
 obj:=λi h st b hb=>by
  have e:b=it:=by simpa using hb
  subst e
  exact ⟨_,st,λv z=>by
   have z':Data.fields _=Data.cell v:=z
   cases z'⟩
 keep:=λi h h' st k=>k it (by simp) _ st
 item:=by
  intro X hP hw hK hc i pins s σ H E I hf st hg
  subst hP hw hK
  obtain ⟨f0,f1,f2,f3,f4,f5⟩:=hf it (by simp)
  have W:=Walks.range (prog:=X.prog) (w:=X.w) (I.ok.hd hc) it lo 1 n
  refine W.item i s _ _ hg st λv h' tk hv st' kk=>?_
  obtain ⟨t,rfl⟩:=hv
  have I1:Inv X pins σ H { s with heap:=h',toks:=tk }:=I.turned (λb o hb e=>kk b o (by simpa using hb) e) f0 f1 f3 f4 f5
  refine ⟨_,rfl,qkv (s:={ s with heap:=h',toks:=tk }) (n := "range_iterator") st' rfl rfl (by decide) ⟨.int (lo+i),H,I1,⟨t,?_⟩,⟨rfl,rfl⟩,st',λb hb=>(hf b hb).1⟩⟩
  rw [Int.mul_one]
 done:=by
  intro X hP hw hK hc i pins s σ H E I hf st hg
  subst hP hw hK
  obtain ⟨f0,f1,f2,f3,f4,f5⟩:=hf it (by simp)
  exact wpAny_pyNext_range_end (I.ok.hd hc) st (by have:n≤i:=hg;lia) λh' eb=>⟨rfl,I.turned (t':=s.toks) (λb o hb e=>eb b o hb e) f0 f1 f3 f4 f5⟩
 self:=λ_ _ _ _ _ st h=>wpAny_pyIter_rangeiter st h
section
variable {X:Cx}{tg:Expr}
def iList (K:Aa)(tl:TE):TI:=λσ H R=>tl σ H λx H1=>∃a,x=.ref a∧(∃xs,SqL K H1 a xs)∧R (Itl K a) H1
theorem Wb {l:Expr}{tl:TE}(hl:PE X l tl):PI X tg l (iList X.K tl):=by
 intro pins s σ H R I h
 refine thn (hl pins s σ H _ I h) λv s1 ⟨x,H1,I1,r1,q1⟩=>?_
 obtain ⟨a,e,⟨xs,hq⟩,q⟩:=q1
 subst e
 cases r1
 obtain ⟨its,rv,p,hz⟩:=I1.list hq
 refine wpAny_pyIter_list p.isList ?_
 refine ⟨s1.heap.objs.size,[s1.heap.objs.size],_,_,H1,rfl,I1.kept (t':=s1.toks) λb o e=>ae _ e,wqb a _,⟨_,au _ rfl,rfl,rfl⟩,λb hb=>?_,q⟩
 have e:b=s1.heap.objs.size:=by simpa using hb
 subst e
 exact I1.fpOk (af _) (I1.hok.fresh (af _))
theorem qvx {pins:List (Aj×Obj)}{σ:St}{H:Hp}{s:Ab}{R:It→Hp→Prop}{E:Ag→Ab→Prop}{lo hi:Int}{t u v:Tok}{tk:Nat}(I:Inv X pins σ H s)(h1:-(2 ^ 62)≤lo)(h2:lo<2 ^ 62)(h3:-(2 ^ 62)≤hi)(h4:hi<2 ^ 62)
  (q:R (Itr lo (hi-lo).toNat) H):wpAny (model X.prog X.w) X.A (pyIter (.ref s.heap.objs.size)) (PIE X pins σ tg R) E { s with heap:=s.heap.push { cls:=.type "range",data:=.fields #[.int lo t,.int hi u,.int 1 v] },toks:=tk }:=by
 refine wpAny_pyIter_range (IsRange.new ..) (small_one h1 h2 h3 h4) ?_
 have I1:Inv X pins σ H { s with heap:=s.heap.push { cls:=.type "range",data:=.fields #[.int lo t,.int hi u,.int 1 v] },toks:=tk }:=I.kept λb o e=>ae _ e
 refine ⟨(s.heap.push { cls:=.type "range",data:=.fields #[.int lo t,.int hi u,.int 1 v] }).objs.size,[(s.heap.push { cls:=.type "range",data:=.fields #[.int lo t,.int hi u,.int 1 v] }).objs.size],_,_,H,rfl,
  I1.kept (t':=tk) λb o e=>ae _ e,qjy _ lo (hi-lo).toNat,?_,λb hb=>?_,q⟩
 ·have e1:lo+((0:Nat):Int)*1=lo:=by simp
  have e2:(((hi-lo).toNat:Nat):Int)-((0:Nat):Int)=Builtin.Range.rangeSize lo hi 1:=by rw [rangeSize_one];split <;> lia
  show IsRangeIter _ _ (lo+((0:Nat):Int)*1) ((((hi-lo).toNat:Nat):Int)-((0:Nat):Int)) 1
  rw [e1,e2]
  exact au _ rfl
 ·have e:b=(s.heap.push { cls:=.type "range",data:=.fields #[.int lo t,.int hi u,.int 1 v] }).objs.size:=by simpa using hb
  subst e
  exact I1.fpOk (af _) (I1.hok.fresh (af _))
def iRng1 (ta:TA):TI:=λσ H R=>ta σ H λvs H1=>∃j:Int,vs=[.int j]∧-(2 ^ 62)≤j∧j<2 ^ 62∧R (Itr 0 j.toNat) H1
def iRng2 (ta:TA):TI:=λσ H R=>ta σ H λvs H1=>∃i j:Int,vs=[.int i,.int j]∧(-(2 ^ 62)≤i∧i<2 ^ 62∧-(2 ^ 62)≤j∧j<2 ^ 62)∧R (Itr i (j-i).toNat) H1
theorem zr {a:Expr}{ta:TA}{p pos:Pos}(hg:Gl X "range")(hm:X.mg "range" = none)(ha:PA X [a] ta)(hs:starEach [a] X.env=[(false,eval a X.env)]:=by rfl):PI X tg (.Call (.Name "range" p) [a] [] pos) (iRng1 ta):=by
 intro pins s σ H R I h
 refine Call_ (Zx I hg hm boot_range (bP (thn (ha pos pins s σ H _ I h) λus s1 ⟨vs,H1,I1,r1,q1⟩=>?_) hs rfl))
 obtain ⟨j,e,q1,q2,q⟩:=q1
 subst e
 cases r1 with
 |cons r rr =>
  cases rr
  obtain ⟨t,rfl⟩:=r
  exact call_range_1 (qvx I1 (by lia) (by lia) q1 q2 (by simpa using q))
theorem wqk {a b:Expr}{ta:TA}{p pos:Pos}(hg:Gl X "range")(hm:X.mg "range" = none)(ha:PA X [a,b] ta)(hs:starEach [a,b] X.env=[(false,eval a X.env),(false,eval b X.env)]:=by rfl)(hs2:starEach [b] X.env=[(false,eval b X.env)]:=by rfl) :
  PI X tg (.Call (.Name "range" p) [a,b] [] pos) (iRng2 ta):=by
 intro pins s σ H R I h
 refine Call_ (Zx I hg hm boot_range (bP (thn (ha pos pins s σ H _ I h) λus s1 ⟨vs,H1,I1,r1,q1⟩=>?_) (by rw [hs,hs2]) (by rw [hs2];rfl)))
 obtain ⟨i,j,e,⟨q1,q2,q3,q4⟩,q⟩:=q1
 subst e
 cases r1 with
 |cons r rr =>
  cases rr with
  |cons r' rr =>
   cases rr
   obtain ⟨t,rfl⟩:=r
   obtain ⟨t',rfl⟩:=r'
   exact call_range_2 (qvx I1 q1 q2 q3 q4 q)
def tFor (wi:TI)(g:TG)(tb:TS):TS:=λD σ H=>wi σ H λJ H1=>∃W:Nat→Nat→St→Hp→Prop,(∃m,W 0 m σ H1)∧∀i m σ H,W i m σ H →
 (J.stop i H∧D.nx σ H)∨(J.go i H∧∃N:St→Hp→Prop,(∀σ' H',N σ' H'→∃m',m'<m∧W (i+1) m' σ' H')∧∀x H',J.yld i H x H'→g x σ H' λσ2 H2=>tb { D with nx:=N,ct:=N,bk:=D.nx } σ2 H2)
def qzu (fp:List Aj)(h:Heap):List (Aj×Obj):=fp.filterMap λb=>(h.get? b).map λo=>(b,o)
theorem jb {fp:List Aj}{h:Heap}{b:Aj}{o:Obj}(hb:b∈fp)(e:h.get? b=some o):(b,o)∈qzu fp h:=eo.mpr ⟨b,hb,by rw [e];rfl⟩
theorem wwz {fp:List Aj}{h:Heap}{p:Aj×Obj}(hp:p∈qzu fp h):p.1∈fp∧h.get? p.1=some p.2:=by
 obtain ⟨b,hb,e⟩:=eo.mp hp
 cases q:h.get? b with
 |none=>rw [q] at e;cases e
 |some o =>
  rw [q] at e
  have e':(b,o)=p:=az e
  subst e'
  exact ⟨hb,q⟩
theorem Inv.pinned {pins:List (Aj×Obj)}{σ:St}{H:Hp}{s:Ab}{fp:List Aj}(I:Inv X pins σ H s)(hf:∀b∈fp,jh X pins H b)(ho:∀b∈fp,∃o,s.heap.get? b=some o∧∀v,o.data≠.cell v):Inv X (pins++qzu fp s.heap) σ H s :=
 I.pins_of λp hp=>(bg.mp hp).elim (λz=>I.pin p (ax _ z)) λz=>by
  obtain ⟨hb,e⟩:=wwz z
  obtain ⟨f0,f1,f2,_⟩:=hf p.1 hb
  obtain ⟨o,e',d⟩:=ho p.1 hb
  rw [e] at e';cases e'
  exact ⟨e,f0,f1,f2,d⟩
theorem Inv.unpinned {pins pl:List (Aj×Obj)}{σ:St}{H:Hp}{s:Ab}(I:Inv X (pins++pl) σ H s):Inv X pins σ H s:=I.pins_of λp hp=>I.pin p (ax _ (cH _ hp))
theorem yw {iter:Expr}{body:List Stmt}{wi:TI}{g:TG}{tb:TS}{pos:Pos}(hp:PassesOwn (model X.prog X.w) X.A X.env X.xe)(hc:X.calm=true)(hi:PI X tg iter wi)(hg:PG X tg g)(hb:PSs X body tb)
  (hs:∀x,foldedSetIterable iter X.env x=pure x:=by intro _;rfl):PS X (.For tg iter body [] pos) (tFor wi g tb):=by
 intro pins s σ H D I h
 refine wpAny_For (thn (hi pins s σ H _ I h) λv s1 h1=>thn h1 λitv s2 h2=>?_) hs
 obtain ⟨it,fp,tn,J,H2,e,I2,T,st2,f2,W,⟨m0,w0⟩,turn⟩:=h2
 subst e
 have stat:∀ {H':Hp},(∀b∈fp,H' b=none)→∀b∈fp,jh X pins H' b:=λhn b hb=>⟨hn b hb,(f2 b hb).2⟩
 refine codeAny_forLoop_any (λn s'=>∃i σ' H',Inv X pins σ' H' s'∧tn i s'.heap∧(∀b∈fp,H' b=none)∧W i n σ' H') ?_ m0 ⟨0,σ,H2,I2,st2,λb hb=>(f2 b hb).1,w0⟩
 rintro n s3 ⟨i,σ3,H3,I3,st3,fr3,w3⟩
 rcases turn i n σ3 H3 w3 with ⟨stop,qn⟩|⟨go,N,hN,step⟩
 ·refine bZ hp (thn (T.done X rfl rfl rfl hc i pins s3 σ3 H3 X.xe I3 (stat fr3) st3 stop) λr s4 ⟨hr,I4⟩=>?_)
  subst hr
  exact dR ⟨σ3,H3,I4,qn⟩
 ·refine bZ hp (thn (T.item X rfl rfl rfl hc i pins s3 σ3 H3 X.xe I3 (stat fr3) st3 go) λr s4 ⟨u,hr,h4⟩=>?_)
  subst hr
  refine bZ hp (thn h4 λ_ s5 ⟨x,H5,I5,r5,y5,st5,fr5⟩=>?_)
  have I5':=I5.pinned (stat fr5) (T.obj _ _ st5)
  refine bZ hp (thn (hg _ s5 σ3 H5 x u _ I5' r5 (step x H5 y5)) λ_ s6 ⟨σ6,H6,I6,q6⟩=>?_)
  refine bZ hp (thn (hb _ s6 σ6 H6 _ I6 q6) λf s7 q7=>?_)
  have again:∀ {σ7:St} {H7:Hp},Inv X (pins++qzu fp s5.heap) σ7 H7 s7→N σ7 H7→∃m,m<n∧∃i σ' H',Inv X pins σ' H' s7∧tn i s7.heap∧(∀b∈fp,H' b=none)∧W i m σ' H':=λ{σ7 H7} I7 n7=>by
   obtain ⟨m',hm,w7⟩:=hN σ7 H7 n7
   refine ⟨m',hm,i+1,σ7,H7,I7.unpinned,T.keep _ _ _ st5 λb hb o e=>(I7.pin (b,o) (ax _ (ax _ (jb hb e)))).1,λb hb=>?_,w7⟩
   obtain ⟨o,e,d⟩:=T.obj _ _ st5 b hb
   exact (I7.pin (b,o) (ax _ (ax _ (jb hb e)))).2.1
  cases f with
  |next=>obtain ⟨σ7,H7,I7,n7⟩:=q7;exact again I7 n7
  |cont=>obtain ⟨σ7,H7,I7,n7⟩:=q7;exact again I7 n7
  |brk=>obtain ⟨σ7,H7,I7,q7⟩:=q7;exact ⟨σ7,H7,I7.unpinned,q7⟩
  |ret v=>obtain ⟨x7,σ7,H7,I7,r7,q7⟩:=q7;exact ⟨x7,σ7,H7,I7.unpinned,r7,q7⟩
end
theorem qqw {K:Aa}{a:Aj}{xs:List V}{g:TG}{tb:TS}{D:Ends}{σ:St}{H:Hp}(Pv:Nat→St→Hp→Prop)(h0:Pv 0 σ H)(hl:∀i σ H,i≤xs.length→Pv i σ H→SqL K H a xs)
  (hs:∀i x σ H,xs[i]?=some x→Pv i σ H→g x σ H λσ2 H2=>tb { D with nx:=Pv (i+1),ct:=Pv (i+1),bk:=D.nx } σ2 H2) (hd:∀σ H,Pv xs.length σ H→D.nx σ H) :
  ∃W:Nat→Nat→St→Hp→Prop,(∃m,W 0 m σ H)∧∀i m σ H,W i m σ H →
   ((Itl K a).stop i H∧D.nx σ H)∨((Itl K a).go i H∧∃N:St→Hp→Prop,(∀σ' H',N σ' H'→∃m',m'<m∧W (i+1) m' σ' H')∧∀x H',(Itl K a).yld i H x H'→g x σ H' λσ2 H2=>tb { D with nx:=N,ct:=N,bk:=D.nx } σ2 H2):=by
 refine ⟨λi m σ H=>m=xs.length-i∧i≤xs.length∧Pv i σ H,⟨xs.length,by simp,aB _,h0⟩,?_⟩
 rintro i m σ H ⟨rfl,hi,p⟩
 have q:=hl i σ H hi p
 by_cases hlt:i<xs.length
 ·refine .inr ⟨⟨xs,xs[i],q,by simp [hlt]⟩,Pv (i+1),λσ' H' p'=>⟨xs.length-(i+1),by lia,rfl,hlt,p'⟩,λx H' y=>?_⟩
  obtain ⟨e,y⟩:=y
  subst e
  exact hs i x σ _ (y xs q) p
 ·have e:i=xs.length:=by lia
  subst e
  exact .inl ⟨⟨xs,q,af _⟩,hd σ H p⟩
theorem yz {lo:Int}{n:Nat}{g:TG}{tb:TS}{D:Ends}{σ:St}{H:Hp}(Pv:Nat→St→Hp→Prop)(h0:Pv 0 σ H)
  (hs:∀i σ H,i<n→Pv i σ H→g (.int (lo+i)) σ H λσ2 H2=>tb { D with nx:=Pv (i+1),ct:=Pv (i+1),bk:=D.nx } σ2 H2) (hd:∀σ H,Pv n σ H→D.nx σ H) :
  ∃W:Nat→Nat→St→Hp→Prop,(∃m,W 0 m σ H)∧∀i m σ H,W i m σ H →
   ((Itr lo n).stop i H∧D.nx σ H)∨((Itr lo n).go i H∧∃N:St→Hp→Prop,(∀σ' H',N σ' H'→∃m',m'<m∧W (i+1) m' σ' H')∧∀x H',(Itr lo n).yld i H x H'→g x σ H' λσ2 H2=>tb { D with nx:=N,ct:=N,bk:=D.nx } σ2 H2):=by
 refine ⟨λi m σ H=>m=n-i∧i≤n∧Pv i σ H,⟨n,by simp,aB _,h0⟩,?_⟩
 rintro i m σ H ⟨rfl,hi,p⟩
 by_cases hlt:i<n
 ·refine .inr ⟨hlt,Pv (i+1),λσ' H' p'=>⟨n-(i+1),by lia,rfl,hlt,p'⟩,λx H' y=>?_⟩
  obtain ⟨e,y⟩:=y
  subst e y
  exact hs i σ _ hlt p
 ·have e:i=n:=by lia
  subst e
  exact .inl ⟨af _,hd σ H p⟩
theorem Yh {c:TT}{tb:TS}{D:Ends}{σ:St}{H:Hp}(Pv:St→Hp→Prop)(μ:St→Hp→Nat)(h0:Pv σ H)
  (hs:∀σ H,Pv σ H→c σ H λb H1=>if b=true then tb { D with nx:=λσ' H'=>Pv σ' H'∧μ σ' H'<μ σ H,ct:=λσ' H'=>Pv σ' H'∧μ σ' H'<μ σ H,bk:=D.nx } σ H1 else D.nx σ H1)
  (mono:∀σ H Q Q',(∀b H1,Q b H1→Q' b H1)→c σ H Q→c σ H Q'):qyj c tb D σ H:=by
 refine ⟨λm σ H=>m=μ σ H∧Pv σ H,⟨_,rfl,h0⟩,?_⟩
 rintro m σ H ⟨rfl,p⟩
 refine mono σ H _ _ (λb H1 q=>?_) (hs σ H p)
 cases b with
 |true=>exact ⟨_,λσ' H' ⟨p',l⟩=>⟨_,l,rfl,p'⟩,q⟩
 |false=>exact q
abbrev R2:=V→V→Hp→VK→Prop
def OpR (X:Cx)(f:Ag→Ag→Sem Ag)(r:R2):Prop :=
 ∀(pins:List (Aj×Obj)) (s:Ab) (σ:St) (H:Hp) (x y:V) (v u:Ag) (Q:VK),Inv X pins σ H s→RelV x v→RelV y u→r x y H Q →
  wpAny (model X.prog X.w) X.A (f v u) (EP X pins σ Q) X.xe s
def UnR (X:Cx)(f:Ag→Sem Ag)(r:V→Hp→VK→Prop):Prop :=
 ∀(pins:List (Aj×Obj)) (s:Ab) (σ:St) (H:Hp) (x:V) (v:Ag) (Q:VK),Inv X pins σ H s→RelV x v→r x H Q →
  wpAny (model X.prog X.w) X.A (f v) (EP X pins σ Q) X.xe s
def k4 (X:Cx)(f:Ag)(r:List V→Hp→VK→Prop):Prop :=
 ∀(pins:List (Aj×Obj)) (s:Ab) (σ:St) (H:Hp) (xs:List V) (us:List Ag) (Q:VK),Inv X pins σ H s→Vals xs us→r xs H Q →
  wpAny (model X.prog X.w) X.A (call f us) (EP X pins σ Q) X.xe s
def tOp (r:R2)(ta tb:TE):TE:=λσ H Q=>ta σ H λx H1=>tb σ H1 λy H2=>r x y H2 Q
def tUn (r:V→Hp→VK→Prop)(ta:TE):TE:=λσ H Q=>ta σ H λx H1=>r x H1 Q
def rI (C:Int→Int→Prop)(g:Int→Int→V):R2:=λx y H Q=>∃i j,x=.int i∧y=.int j∧C i j∧Q (g i j) H
def rI0 (g:Int→Int→V):R2:=λx y H Q=>∃i j,x=.int i∧y=.int j∧Q (g i j) H
def rU (g:Int→V):V→Hp→VK→Prop:=λx H Q=>∃i,x=.int i∧Q (g i) H
section
variable {X:Cx}{a b c:Expr}{ta tb tc:TE}{pos:Pos}
theorem binT (ha:PE X a ta)(hb:PE X b tb){pins:List (Aj×Obj)}{s:Ab}{σ:St}{H:Hp}{R:V→V→Hp→Prop}(I:Inv X pins σ H s)
  (h:ta σ H λx H1=>tb σ H1 λy H2=>R x y H2) {Q:Ag→Ab→Prop} {f:Ag→Ag→Sem Ag}
  (hf:∀v u s2 x y H2,Inv X pins σ H2 s2→RelV x v→RelV y u→R x y H2→wpAny (model X.prog X.w) X.A (f v u) Q X.xe s2) :
  wpAny (model X.prog X.w) X.A (eval a X.env) (λv s₁=>wpAny (model X.prog X.w) X.A (eval b X.env) (λu s₂=>wpAny (model X.prog X.w) X.A (f v u) Q X.xe s₂) X.xe s₁) X.xe s:=by
 refine thn (ha pins s σ H _ I h) λv s1 ⟨x,H1,I1,r1,q1⟩=>?_
 refine thn (hb pins s1 σ H1 _ I1 q1) λu s2 ⟨y,H2,I2,r2,q2⟩=>?_
 exact hf v u s2 x y H2 I2 r1 r2 q2
theorem w4 {op:Operator}{r:R2}(ho:OpR X (binaryOp op) r)(ha:PE X a ta)(hb:PE X b tb):PE X (.BinOp a op b pos) (tOp r ta tb):=by
 intro pins s σ H Q I h
 exact wpAny_BinOp (binT ha hb I h λv u s2 x y H2 I2 rx ry q=>ho pins s2 σ H2 x y v u Q I2 rx ry q)
theorem pe_un {op:UnaryOp}{r:V→Hp→VK→Prop}(ho:UnR X (unaryOp op) r)(ha:PE X a ta):PE X (.UnaryOp op a pos) (tUn r ta):=by
 intro pins s σ H Q I h
 exact UnaryOp_ (thn (ha pins s σ H _ I h) λv s1 ⟨x,H1,I1,r1,q1⟩=>ho pins s1 σ H1 x v Q I1 r1 q1)
theorem opI {f:Ag→Ag→Sem Ag}{C:Int→Int→Prop}{g:Int→Int→Int}
  (rule:∀(i j:Int) (t u:Tok) (s:Ab) (Q:Ag→Ab→Prop) (E:Ag→Ab→Prop),C i j→Q (.int (g i j) s.toks) { s with toks:=s.toks+1 }→wpAny (model X.prog X.w) X.A (f (.int i t) (.int j u)) Q E s) :
  OpR X f (rI C λi j=>.int (g i j)):=by
 intro pins s σ H x y v u Q I rx ry h
 obtain ⟨i,j,rfl,rfl,hc,q⟩:=h
 obtain ⟨t,rfl⟩:=rx
 obtain ⟨t',rfl⟩:=ry
 exact rule i j t t' s _ _ hc ⟨.int (g i j),H,I.tok _,⟨_,rfl⟩,q⟩
theorem opI0 {f:Ag→Ag→Sem Ag}{g:Int→Int→Int}
  (rule:∀(i j:Int) (t u:Tok) (s:Ab) (Q:Ag→Ab→Prop) (E:Ag→Ab→Prop),Q (.int (g i j) s.toks) { s with toks:=s.toks+1 }→wpAny (model X.prog X.w) X.A (f (.int i t) (.int j u)) Q E s) :
  OpR X f (rI0 λi j=>.int (g i j)):=by
 intro pins s σ H x y v u Q I rx ry h
 obtain ⟨i,j,rfl,rfl,q⟩:=h
 obtain ⟨t,rfl⟩:=rx
 obtain ⟨t',rfl⟩:=ry
 exact rule i j t t' s _ _ ⟨.int (g i j),H,I.tok _,⟨_,rfl⟩,q⟩
theorem opB0 {f:Ag→Ag→Sem Ag}{g:Int→Int→Bool}
  (rule:∀(i j:Int) (t u:Tok) (s:Ab) (Q:Ag→Ab→Prop) (E:Ag→Ab→Prop),Q (.bool (g i j)) s→wpAny (model X.prog X.w) X.A (f (.int i t) (.int j u)) Q E s) :
  OpR X f (rI0 λi j=>.bl (g i j)):=by
 intro pins s σ H x y v u Q I rx ry h
 obtain ⟨i,j,rfl,rfl,q⟩:=h
 obtain ⟨t,rfl⟩:=rx
 obtain ⟨t',rfl⟩:=ry
 exact rule i j t t' s _ _ ⟨.bl (g i j),H,I,rfl,q⟩
def CPow (i j:Int):Prop:=0≤j∧j≤1000000∧i.natAbs<2 ^ 64
theorem xn:OpR X (binaryOp .Add) (rI0 λi j=>.int (i+j)):=opI0 λ_ _ _ _ _ _ _ q=>add_int q
theorem vz:OpR X (binaryOp .Sub) (rI0 λi j=>.int (i-j)):=opI0 λ_ _ _ _ _ _ _ q=>sub_int q
theorem vc:OpR X (binaryOp .Mod) (rI (λ_ j=>0<j) λi j=>.int (i%j)):=opI λi j _ _ _ _ _ hc q=>by
 have h1:(0:Int)<j:=hc
 exact mod_int' (by lia) (by rw [Int.fmod_eq_emod_of_nonneg i (by lia)];exact q)
theorem wwh:OpR X (binaryOp .Pow) (rI CPow λi j=>.int (i ^ j.toNat)):=opI λ_ _ _ _ _ _ _ hc q=>pow_int_small hc.1 hc.2.1 hc.2.2 q
theorem unI {f:Ag→Sem Ag}{g:Int→Int}
  (rule:∀(i:Int) (t:Tok) (s:Ab) (Q:Ag→Ab→Prop) (E:Ag→Ab→Prop),Q (.int (g i) s.toks) { s with toks:=s.toks+1 }→wpAny (model X.prog X.w) X.A (f (.int i t)) Q E s) :
  UnR X f (rU λi=>.int (g i)):=by
 intro pins s σ H x v Q I rx h
 obtain ⟨i,rfl,q⟩:=h
 obtain ⟨t,rfl⟩:=rx
 exact rule i t s _ _ ⟨.int (g i),H,I.tok _,⟨_,rfl⟩,q⟩
theorem un_neg:UnR X (unaryOp .USub) (rU λi=>.int (-i)):=unI λ_ _ _ _ _ q=>neg_int q
end
def scal:V→V→Bool
 |.non,.non=>true|.non,.int _=>true|.int _,.non=>true|.non,.bl _=>true|.bl _,.non=>true|.non,.str _=>true|.str _,.non=>true
 |.int _,.int _=>true|.bl _,.bl _=>true|.str _,.str _=>true|.byt _,.byt _=>true
 |.int _,.str _=>true|.str _,.int _=>true|.bl _,.str _=>true|.str _,.bl _=>true
 |_,_=>false
def rEq:R2:=λx y H Q=>scal x y=true∧Q (.bl (decide (x=y))) H
def rNe:R2:=λx y H Q=>scal x y=true∧Q (.bl (!decide (x=y))) H
theorem quc {i j:Int}:decide (V.int i=V.int j)=(i==j):=by
 rw [cA]
 simp
theorem wwv {i j:Bool}:decide (V.bl i=V.bl j)=(i==j):=by
 rw [cA]
 simp
theorem qyt {i j:Str}:decide (V.str i=V.str j)=(i==j):=by
 rw [cA]
 simp
theorem quz {i j:Array UInt8}:decide (V.byt i=V.byt j)=(i.toList==j.toList):=by
 rw [cA]
 cases i
 cases j
 simp
section
variable {X:Cx}{a b c:Expr}{ta tb tc:TE}{pos:Pos}
theorem zk {pins:List (Aj×Obj)}{σ:St}{H:Hp}{s:Ab}{Q:VK}{k k':Bool}(I:Inv X pins σ H s)(q:Q (.bl k) H)(e:k=k'):EP X pins σ Q (.bool k') s:=by
 subst e
 exact ⟨.bl k,H,I,rfl,q⟩
theorem k9:OpR X (compareOp .Eq) rEq:=by
 intro pins s σ H x y v u Q I rx ry h
 obtain ⟨hs,q⟩:=h
 cases x with
 |non =>
  cases rx
  cases y with
  |non=>cases ry;exact PySem.EqNone.eq_none_none (zk I q (by simp))
  |bl j=>cases ry;exact PySem.EqNone.eq_none_bool (zk I q (by simp))
  |int j=>obtain ⟨t',rfl⟩:=ry;exact PySem.EqNone.eq_none_int (zk I q (by simp))
  |str j=>obtain ⟨t',rfl⟩:=ry;exact PySem.EqNone.eq_none_str (zk I q (by simp))
  |_=>exact absurd (show false=true from hs) aA
 |bl i =>
  cases rx
  cases y with
  |non=>cases ry;exact PySem.EqNone.eq_bool_none (zk I q (by simp))
  |bl j=>cases ry;exact eq_bool (zk I q wwv)
  |str j=>obtain ⟨t',rfl⟩:=ry;exact PySem.EqMixed.eq_bool_str (zk I q (by simp))
  |_=>exact absurd (show false=true from hs) aA
 |int i =>
  obtain ⟨t,rfl⟩:=rx
  cases y with
  |non=>cases ry;exact PySem.EqNone.eq_int_none (zk I q (by simp))
  |int j=>obtain ⟨t',rfl⟩:=ry;exact eq_int (zk I q quc)
  |str j=>obtain ⟨t',rfl⟩:=ry;exact PySem.EqMixed.eq_int_str (zk I q (by simp))
  |_=>exact absurd (show false=true from hs) aA
 |str i =>
  obtain ⟨t,rfl⟩:=rx
  cases y with
  |non=>cases ry;exact PySem.EqNone.eq_str_none (zk I q (by simp))
  |bl j=>cases ry;exact PySem.EqMixed.eq_str_bool (zk I q (by simp))
  |int j=>obtain ⟨t',rfl⟩:=ry;exact PySem.EqMixed.eq_str_int (zk I q (by simp))
  |str j=>obtain ⟨t',rfl⟩:=ry;exact eq_str (zk I q qyt)
  |_=>exact absurd (show false=true from hs) aA
 |byt i =>
  obtain ⟨t,rfl⟩:=rx
  cases y with
  |byt j=>obtain ⟨t',rfl⟩:=ry;exact PySem.W.eq_bytes (zk I q quz)
  |_=>exact absurd (show false=true from hs) aA
 |_=>cases y <;> exact absurd (show false=true from hs) aA
theorem op_ne:OpR X (compareOp .NotEq) rNe:=by
 intro pins s σ H x y v u Q I rx ry h
 obtain ⟨hs,q⟩:=h
 cases x with
 |non =>
  cases rx
  cases y with
  |non=>cases ry;exact PySem.EqNone.ne_none_none (zk I q (by simp))
  |bl j=>cases ry;exact PySem.EqNone.ne_none_bool (zk I q (by simp))
  |int j=>obtain ⟨t',rfl⟩:=ry;exact PySem.EqNone.ne_none_int (zk I q (by simp))
  |str j=>obtain ⟨t',rfl⟩:=ry;exact PySem.EqNone.ne_none_str (zk I q (by simp))
  |_=>exact absurd (show false=true from hs) aA
 |bl i =>
  cases rx
  cases y with
  |non=>cases ry;exact PySem.EqNone.ne_bool_none (zk I q (by simp))
  |bl j=>cases ry;exact ne_bool (zk I q (bJ not wwv))
  |str j=>obtain ⟨t',rfl⟩:=ry;exact PySem.EqMixed.ne_bool_str (zk I q (by simp))
  |_=>exact absurd (show false=true from hs) aA
 |int i =>
  obtain ⟨t,rfl⟩:=rx
  cases y with
  |non=>cases ry;exact PySem.EqNone.ne_int_none (zk I q (by simp))
  |int j=>obtain ⟨t',rfl⟩:=ry;exact ne_int (zk I q (bJ not quc))
  |str j=>obtain ⟨t',rfl⟩:=ry;exact PySem.EqMixed.ne_int_str (zk I q (by simp))
  |_=>exact absurd (show false=true from hs) aA
 |str i =>
  obtain ⟨t,rfl⟩:=rx
  cases y with
  |non=>cases ry;exact PySem.EqNone.ne_str_none (zk I q (by simp))
  |bl j=>cases ry;exact PySem.EqMixed.ne_str_bool (zk I q (by simp))
  |int j=>obtain ⟨t',rfl⟩:=ry;exact PySem.EqMixed.ne_str_int (zk I q (by simp))
  |str j=>obtain ⟨t',rfl⟩:=ry;exact ne_str (zk I q (bJ not qyt))
  |_=>exact absurd (show false=true from hs) aA
 |byt i =>
  obtain ⟨t,rfl⟩:=rx
  cases y with
  |byt j=>obtain ⟨t',rfl⟩:=ry;exact PySem.W.ne_bytes (zk I q (bJ not quz))
  |_=>exact absurd (show false=true from hs) aA
 |_=>cases y <;> exact absurd (show false=true from hs) aA
theorem yt:OpR X (compareOp .Lt) (rI0 λi j=>.bl (decide (i<j))):=opB0 λ_ _ _ _ _ _ _ q=>lt_int q
theorem op_le:OpR X (compareOp .LtE) (rI0 λi j=>.bl (decide (i≤j))):=opB0 λ_ _ _ _ _ _ _ q=>le_int q
theorem Wd:OpR X (compareOp .Gt) (rI0 λi j=>.bl (decide (j<i))):=opB0 λ_ _ _ _ _ _ _ q=>gt_int q
theorem qy2:OpR X (compareOp .GtE) (rI0 λi j=>.bl (decide (j≤i))):=opB0 λ_ _ _ _ _ _ _ q=>ge_int q
theorem qu4:OpR X (compareOp .In) (λx y H Q=>∃i j,x=.str i∧y=.str j∧Q (.bl (!(Builtin.Str.occurrences j i 0 j.length 1).isEmpty)) H):=by
 intro pins s σ H x y v u Q I rx ry h
 obtain ⟨i,j,rfl,rfl,q⟩:=h
 obtain ⟨t,rfl⟩:=rx
 obtain ⟨t',rfl⟩:=ry
 exact in_str (zk I q rfl)
theorem op_isN:OpR X (compareOp .Is) (λx y H Q=>y=.non∧Q (.bl (decide (x=.non))) H):=by
 intro pins s σ H x y v u Q I rx ry h
 obtain ⟨rfl,q⟩:=h
 cases ry
 refine is_none_gen (zk I q ?_)
 cases x <;> first
  |(cases rx;rfl)
  |(obtain ⟨t,rfl⟩:=rx;rfl)
theorem wvb:OpR X (compareOp .IsNot) (λx y H Q=>y=.non∧Q (.bl (!decide (x=.non))) H):=by
 intro pins s σ H x y v u Q I rx ry h
 obtain ⟨rfl,q⟩:=h
 cases ry
 refine isnot_none_gen (zk I q ?_)
 cases x <;> first
  |(cases rx;rfl)
  |(obtain ⟨t,rfl⟩:=rx;rfl)
theorem xk (b:Expr){op:CmpOp}(h:op≠.In:=by decide)(h2:op≠.NotIn:=by decide):behindInMarks op b=false:=by
 have e1:(op==CmpOp.In)=false:=by cases op <;> first | rfl | exact absurd rfl h
 have e2:(op==CmpOp.NotIn)=false:=by cases op <;> first | rfl | exact absurd rfl h2
 cases b <;> simp [behindInMarks,e1,e2]
theorem Yz {op:CmpOp}{r:R2}(ho:OpR X (compareOp op) r)(ha:PE X a ta)(hb:PE X b tb)(hm:behindInMarks op b=false):PE X (.Compare a [op] [b] pos) (tOp r ta tb):=by
 intro pins s σ H Q I h
 exact wpAny_Compare1 (binT ha hb I h λv u s2 x y H2 I2 rx ry q=>ho pins s2 σ H2 x y v u Q I2 rx ry q) hm
def tTest (t:TE):TT:=λσ H Q=>t σ H λx H'=>∃k,x=.bl k∧Q k H'
theorem xq {op:CmpOp}{r:R2}(ho:OpR X (compareOp op) r)(ha:PE X a ta)(hb:PE X b tb)(hm:behindInMarks op b=false):PT X (.Compare a [op] [b] pos) (tTest (tOp r ta tb)):=by
 intro pins s σ H Q I h
 refine wpAny_isTrue_Compare1 (thn (ha pins s σ H _ I h) λv s1 ⟨x,H1,I1,r1,q1⟩=>thn (hb pins s1 σ H1 _ I1 q1) λu s2 ⟨y,H2,I2,r2,q2⟩ =>
  thn (ho pins s2 σ H2 x y v u _ I2 r1 r2 q2) λc s3 ⟨z,H3,I3,r3,k,e,q3⟩=>?_) hm
 subst e
 cases r3
 exact ce ⟨H3,I3,q3⟩
theorem Ju:(sizeLine:Nat)<2 ^ 63:=by rw [sizeLine_eq];decide
theorem j5 {x:V}{us:List Ag}(r:Vals [x] us):∃u,us=[u]∧RelV x u:=by
 cases r with
 |cons r1 r2=>cases r2;exact ⟨_,rfl,r1⟩
theorem wzj {x y:V}{us:List Ag}(r:Vals [x,y] us):∃u w',us=[u,w']∧RelV x u∧RelV y w':=by
 cases r with
 |cons r1 r2 =>
  cases r2 with
  |cons r3 r4=>cases r4;exact ⟨_,_,rfl,r1,r3⟩
theorem Q7:k4 X (.builtin "abs") (λxs H Q=>∃i,xs=[.int i]∧Q (.int (if i<0 then -i else i)) H):=by
 intro pins s σ H xs us Q I r h
 obtain ⟨i,rfl,q⟩:=h
 obtain ⟨u,rfl,t,rfl⟩:=j5 r
 exact call_abs_int λu tk=>⟨.int (if i<0 then -i else i),H,I.tok _,⟨_,rfl⟩,q⟩
theorem wqz (hc:X.calm=true):k4 X (.builtin "max") (λxs H Q=>∃i j,xs=[.int i,.int j]∧Q (.int (if j>i then j else i)) H):=by
 intro pins s σ H xs us Q I r h
 obtain ⟨i,j,rfl,q⟩:=h
 obtain ⟨u,w',rfl,⟨t,rfl⟩,⟨t',rfl⟩⟩:=wzj r
 refine max_two_ints (I.ok.hd hc) λh' tk k=>⟨_,H,I.kept k,?_,q⟩
 by_cases hj:j>i
 ·rw [ak hj,ak hj];exact ⟨_,rfl⟩
 ·rw [ag hj,ag hj];exact ⟨_,rfl⟩
theorem qxv (hc:X.calm=true):k4 X (.builtin "min") (λxs H Q=>∃i j,xs=[.int i,.int j]∧Q (.int (if j<i then j else i)) H):=by
 intro pins s σ H xs us Q I r h
 obtain ⟨i,j,rfl,q⟩:=h
 obtain ⟨u,w',rfl,⟨t,rfl⟩,⟨t',rfl⟩⟩:=wzj r
 refine min_two_ints (I.ok.hd hc) λh' tk k=>⟨_,H,I.kept k,?_,q⟩
 by_cases hj:j<i
 ·rw [ak hj,ak hj];exact ⟨_,rfl⟩
 ·rw [ag hj,ag hj];exact ⟨_,rfl⟩
theorem wqp:k4 X (.type "int") (λxs H Q=>(∃i,xs=[.int i]∧Q (.int i) H)∨∃k,xs=[.bl k]∧Q (.int (if k then 1 else 0)) H):=by
 intro pins s σ H xs us Q I r h
 rcases h with ⟨i,rfl,q⟩|⟨k,rfl,q⟩
 ·obtain ⟨u,rfl,t,rfl⟩:=j5 r
  exact call_int_int ⟨.int i,H,I,⟨_,rfl⟩,q⟩
 ·obtain ⟨u,rfl,r1⟩:=j5 r
  cases r1
  exact call_int_bool ⟨.int (if k then 1 else 0),H,I.tok _,⟨_,rfl⟩,q⟩
end
structure ObjM (h:Heap)(x dx C:Aj)(mA:Str→Option Ag):Prop where
 obj:h.get? x=some (PySem.W.instObj C dx)
 ns:h.Ns1 dx mA
 ne:dx≠x
theorem wqg {h:Heap}{dx:Aj}{mA:Str→Option Ag}(n:h.Ns1 dx mA):∃od,h.get? dx=some od∧∀name,PySem.W.lookIn name od=some (mA name):=by
 obtain ⟨o,es,ep,ho,hd,hk,_,hm⟩:=n
 refine ⟨o,ho,λname=>?_⟩
 have e:=hm name
 unfold nsFind findBy at e
 rw [←Array.find?_toList] at e
 unfold PySem.W.lookIn
 rw [hd]
 dsimp only
 split
 ·rename_i y q
  rw [q] at e
  exact bJ some e
 ·rename_i q
  rw [q] at e
  have a:es.toList.any (·.refKey)=false:=by
   rw [List.any_eq_false]
   intro y hy
   obtain ⟨z,t,hkey⟩:=hk y (Array.mem_toList_iff.mp hy)
   simp [DictEntry.refKey,hkey]
  have a':¬ es.toList.any (·.refKey)=true:=by rw [a];exact aA
  rw [ag a']
  exact bJ some e
theorem ObjM.look {h:Heap}{x dx C:Aj}{mA:Str→Option Ag}(I:ObjM h x dx C mA):∃od,PySem.W.InstAt h x (PySem.W.instObj C dx) C (some od)∧∀name,PySem.W.lookIn name od=some (mA name) :=
 let ⟨od,ho,hl⟩:=wqg I.ns
 ⟨od,⟨I.obj,rfl,rfl,ho⟩,hl⟩
section
variable {prog:Ac}{w:Ah}{A:Ae}{E:Ag→Ab→Prop}{s:Ab}{K:Aa}{x dx C f:Aj}{mA:Str→Option Ag}{name:Str}{v:Ag}
theorem wk4 {expr:Bool}{Q:Ag→Ab→Prop}(X:K.In s.heap)(I:ObjM s.heap x dx C mA)(hg:PySem.W.plainGet K C name=true)(hh:PySem.W.hasDictIn K C=true)
  (ha:PySem.W.findIn K (.ref C) name=some none) (hv:mA name=some v) (hv':PySem.W.handedIn v=true) (h:Q v { s with toks:=s.toks+1 }) :
  wpAny (model prog w) A (getAttr (.ref x) name expr) Q E s:=by
 obtain ⟨od,J,hl⟩:=I.look
 exact PySem.W.get_value X J (dX hg).1 (PySem.W.findObj_own hh ha rfl (by rw [hl,hv])) hv' h
theorem wxr {pl:Sem Bool}{Q:Ag×List Ag→Ab→Prop}(X:K.In s.heap)(I:ObjM s.heap x dx C mA)(hg:PySem.W.plainGet K C name=true)
  (hf:PySem.W.findIn K (.ref C) name=some (some (.ref f))) (ht:PySem.W.isFn K (.ref f)=true) (hv:mA name=none) (h:Q (.ref f,[.ref x]) s) :
  wpAny (model prog w) A (getMethod (.ref x) name pl) Q E s:=by
 obtain ⟨od,J,hl⟩:=I.look
 exact PySem.W.method_fn X J (dX hg).1 (dX hg).2 hf (dF.mp ht) (by show (PySem.W.lookIn name od).map (·.isSome)=some false;rw [hl,hv];rfl) h
theorem wkj {ns:List Str}{Q:Unit→Ab→Prop}(X:K.In s.heap)(I:ObjM s.heap x dx C mA)
  (hs:PySem.W.findIn K (.ref C) "__setattr__" = some (some (.builtin "object.__setattr__"))) (hp:PySem.W.plainOver K C=true) (ht:PySem.W.takerIn K C name=some none) (hh:PySem.W.hasDictIn K C=true)
  (hw:PySem.Within mA ns) (hsz:ns.length≤sizeLine)
  (h:∀h',ObjM h' x dx C (λy=>if y=name then some v else mA y)→Heap.SameBut dx s.heap h'→Q () { s with heap:=h',toks:=s.toks+2 }) :
  wpAny (model prog w) A (setAttr (.ref x) name v) Q E s:=by
 obtain ⟨od,J,hl⟩:=I.look
 refine PySem.W.set_plain X J hs (PySem.W.osa_open (s:={ s with toks:=s.toks+1 }) (r:=none) X J hp ht λb=>?_)
 obtain ⟨cd,hc,hd'⟩:=PySem.W.any_some hh
 have hx:s.heap.get? x=some ⟨.ref C,some dx,.plain,#[]⟩:=I.obj
 refine aa (am (aa (aa (wpAny_loadPart hx (aa (PySem.W.Looks.here (s:={ s with toks:=s.toks+1 }) (PySem.W.looks_clsIn X hc) ?_))))))
 rw [hd']
 refine am (a:=some dx) (aa (am (aa ?_)))
 refine wpAny_nsSet1 (s:={ s with toks:=s.toks+1 }) I.ns λh' hn2 hs2=>?_
 obtain ⟨oD,esD,epD,hoD,hdD,hcD⟩:=hn2.count (PySem.Within.cons name v hw)
 refine aa (wpAny_lookBehind hoD (by rw [hdD];exact pastItsLine_dict (bH hcD (by rw [aX];lia))) ?_)
 exact am (h _ ⟨(hs2.2 _ (aW I.ne)).trans I.obj,hn2,I.ne⟩ hs2)
theorem wx9 {R:Result→Ab→Prop}{vs:List Ag}{kw:List (Str×Ag)}(X:K.In s.heap)(hm:PySem.W.makesIn K C=true)
  (hi:PySem.W.findIn K (.ref C) "__init__" = some (some (.ref f))) (hf:PySem.W.typeIn K (.ref f)=some (.type "function"))
  (h:codeAny (model prog w) (A.under (.builtin "type.__call__" ⟨.ref C::vs,kw⟩)) (.call (.ref f) ⟨.ref (s.heap.objs.size+1)::vs,kw⟩) (PySem.W.InitBack (s.heap.objs.size+1) R)
   { s with heap:=(s.heap.push PySem.W.emptyDict).push (PySem.W.instObj C s.heap.objs.size) }) :
  codeAny (model prog w) A (.call (.ref C) ⟨vs,kw⟩) R s:=by
 obtain ⟨hh,g,d,t,os⟩:=s
 exact PySem.W.make_core (PySem.W.makes_of X hm) (PySem.W.looks_findIn X hi) (λself=>PySem.W.bind_fn X self hf) (.inl rfl) h
end
def z0 (f:Str)(v:V):List (Str×V)→List (Str×V)
 |[]=>[(f,v)]
 |(g,x)::r=>if g=f then (g,v)::r else (g,x)::z0 f v r
theorem Zj (f g:Str)(v:V):∀fs:List (Str×V),(z0 f v fs).lookup g=if g=f then some v else fs.lookup g
 |[]=>by
  show List.lookup g [(f,v)]=_
  by_cases h:g=f
  ·have hb:(g==f)=true:=dF.mpr h
   simp only [List.lookup,hb,ak h]
  ·have hb:(g==f)=false:=aK.mpr h
   simp only [List.lookup,hb,ag h]
 |(k,x)::r=>by
  have ih:=Zj f g v r
  rw [show z0 f v ((k,x)::r)=(if k=f then (k,v)::r else (k,x)::z0 f v r) from rfl]
  by_cases hk:k=f
  ·rw [ak hk]
   by_cases h:g=k
   ·have hb:(g==k)=true:=dF.mpr h
    simp only [List.lookup,hb,ak (h.trans hk)]
   ·have hb:(g==k)=false:=aK.mpr h
    simp only [List.lookup,hb,ag (λe:g=f=>h (e.trans hk.symm))]
  ·rw [ag hk]
   by_cases h:g=k
   ·have hb:(g==k)=true:=dF.mpr h
    simp only [List.lookup,hb,ag (λe:g=f=>hk (h.symm.trans e))]
   ·have hb:(g==k)=false:=aK.mpr h
    simp only [List.lookup,hb]
    exact ih
theorem W1 (f:Str)(v:V):∀fs:List (Str×V),f∈(z0 f v fs).map (·.1)∧∀g,g∈fs.map (·.1)→g∈(z0 f v fs).map (·.1)
 |[]=>⟨by simp [z0],λg h=>by simp at h⟩
 |(k,x)::r=>by
  obtain ⟨i1,i2⟩:=W1 f v r
  rw [show z0 f v ((k,x)::r)=(if k=f then (k,v)::r else (k,x)::z0 f v r) from rfl]
  by_cases hk:k=f
  ·rw [ak hk]
   subst hk
   exact ⟨by simp,λg h=>by simpa using h⟩
  ·rw [ag hk]
   refine ⟨?_,λg h=>?_⟩
   ·rw [aZ]
    exact aC _ i1
   ·rw [aZ] at h ⊢
    rcases ai.mp h with e|e
    ·exact ai.mpr (.inl e)
    ·exact aC _ (i2 g e)
theorem Zu (f:Str)(v:V):∀fs:List (Str×V),(z0 f v fs).length≤fs.length+1
 |[]=>by simp [z0]
 |(k,x)::r=>by
  have ih:=Zu f v r
  rw [show z0 f v ((k,x)::r)=(if k=f then (k,v)::r else (k,x)::z0 f v r) from rfl]
  by_cases hk:k=f
  ·rw [ak hk,aX,aX];lia
  ·rw [ag hk,aX,aX];lia
theorem RelO.some_of {v:V}{o:Option Ag}(r:RelO (some v) o):∃u,o=some u∧RelV v u:=by
 cases o with
 |none=>exact (show False from r).elim
 |some u=>exact ⟨u,rfl,r⟩
theorem RelO.none_of {o:Option Ag}(r:RelO none o):o=none:=by
 cases o with
 |none=>rfl
 |some u=>exact (show False from r).elim
theorem wqs {v:V}{u:Ag}(r:RelV v u):PySem.W.handedIn u=true:=by
 cases v with
 |non=>cases (show u=Value.none from r);rfl
 |bl b=>cases (show u=Value.bool b from r);rfl
 |int i=>obtain ⟨t,e⟩:=(show ∃t,u=Value.int i t from r);cases e;rfl
 |str x=>obtain ⟨t,e⟩:=(show ∃t,u=Value.str x t from r);cases e;rfl
 |byt b=>obtain ⟨t,e⟩:=(show ∃t,u=Value.bytes b t from r);cases e;rfl
 |flt b=>obtain ⟨t,e⟩:=(show ∃t,u=Value.float b t from r);cases e;rfl
 |ref a=>cases (show u=Value.ref a from r);rfl
 |ty n=>cases (show u=Value.type n from r);rfl
section
variable {P:Ac}{w:Ah}{H H':Hp}{h h':Heap}{a C dx:Aj}{fs fs':List (Str×V)}
theorem Z0 (hok:HOk P w H h)(e:H a=some (.ins C dx fs)):∃mA,ObjM h a dx C mA∧(∀f,RelO (fs.lookup f) (mA f))∧PySem.Within mA (fs.map (·.1))∧fs.length≤1000∧H dx=some (.own a):=by
 obtain ⟨d,z,ne,ob,mA,n,r,q⟩:=(show ObjOk P w H h a (.ins C dx fs) from hok a _ e)
 exact ⟨mA,⟨ob,n,ne⟩,r,q,z,d⟩
end
structure Cls (K:Aa)(C:Aj):Prop where
 pg:PySem.W.plainGet K C Str.empty=true
 hd:PySem.W.hasDictIn K C=true
 po:PySem.W.plainOver K C=true
 sa:PySem.W.findIn K (.ref C) "__setattr__" = some (some (.builtin "object.__setattr__"))
theorem Cls.get {K:Aa}{C:Aj}(c:Cls K C)(f:Str):PySem.W.plainGet K C f=true:=c.pg
def NoAttr (K:Aa)(C:Aj)(f:Str):Prop:=PySem.W.findIn K (.ref C) f=some none
theorem NoAttr.taker {K:Aa}{C:Aj}{f:Str}(n:NoAttr K C f):PySem.W.takerIn K C f=some none:=by
 unfold PySem.W.takerIn
 rw [show PySem.W.findIn K (.ref C) f=some none from n]
 rfl
structure Con (K:Aa)(C:Aj)(f:Str)(v:V)(u:Ag):Prop where
 at_:PySem.W.findIn K (.ref C) f=some (some u)
 rel:RelV v u
 get:PySem.W.specialIn K u "__get__" = some none
 cp:PySem.W.copiedNames.contains f=false
structure Meth (K:Aa)(C:Aj)(m:Str)(f:Aj):Prop where
 at_:PySem.W.findIn K (.ref C) m=some (some (.ref f))
 fn:PySem.W.isFn K (.ref f)=true
 kp:PySem.W.keepIn K (.ref f)=true
section
variable {X:Cx}{pins:List (Aj×Obj)}{σ:St}{H:Hp}{s:Ab}{a C dx:Aj}{fs:List (Str×V)}{f:Str}{v:V}{A:Ae}{E:Ag→Ab→Prop}
theorem qj8 {b:Bool}{Q:Ag→Ab→Prop}(I:Inv X pins σ H s)(e:H a=some (.ins C dx fs))(c:Cls X.K C)(n:NoAttr X.K C f)(l:fs.lookup f=some v)
  (h:∀u s',Inv X pins σ H s'→RelV v u→Q u s'):wpAny (model X.prog X.w) A (getAttr (.ref a) f b) Q E s:=by
 obtain ⟨mA,O,r,_,_,_⟩:=Z0 I.hok e
 obtain ⟨u,hu,ru⟩:=RelO.some_of (v:=v) (o:=mA f) (by rw [←l];exact r f)
 exact wk4 I.kIn O (c.get f) c.hd n hu (wqs ru) (h u _ (I.tok _) ru)
theorem Y9 {m:Str}{g:Aj}{pl:Sem Bool}{Q:Ag×List Ag→Ab→Prop}(I:Inv X pins σ H s)(e:H a=some (.ins C dx fs))(c:Cls X.K C)(k:Meth X.K C m g)(l:fs.lookup m=none)
  (h:Q (.ref g,[.ref a]) s):wpAny (model X.prog X.w) A (getMethod (.ref a) m pl) Q E s:=by
 obtain ⟨mA,O,r,_,_,_⟩:=Z0 I.hok e
 have hn:mA m=none:=RelO.none_of (by rw [←l];exact r m)
 exact wxr I.kIn O (c.get m) k.at_ k.fn hn h
theorem qjq {y:V}{u:Ag}{Q:Unit→Ab→Prop}(I:Inv X pins σ H s)(e:H a=some (.ins C dx fs))(c:Cls X.K C)(n:NoAttr X.K C f)(hl:fs.length<1000)(ry:RelV y u)
  (h:∀s',Inv X pins σ (upd H a (.ins C dx (z0 f y fs))) s'→Q () s'):wpAny (model X.prog X.w) A (setAttr (.ref a) f u) Q E s:=by
 obtain ⟨mA,O,r,wi,_,ho⟩:=Z0 I.hok e
 have hz:(fs.map (·.1)).length≤sizeLine:=by rw [ac,sizeLine_eq];lia
 refine wkj I.kIn O c.sa c.po n.taker c.hd wi hz λh' O' sb=>h _ ?_
 have hd:∃o,h'.get? dx=some o:=let ⟨o,_,_,e',_⟩:=O'.ns;⟨o,e'⟩
 refine I.write (x:=a) (e:=dx) (by rw [e];exact True.intro) (.inr ho) (λb q hb z=>(sb.2 b hb).trans z) hd ?_
 refine ⟨by rw [wg O.ne];exact ho,?_,O.ne,O'.obj,_,O'.ns,λg=>?_,λg hg=>?_⟩
 ·have:=Zu f y fs;lia
 ·show RelO ((z0 f y fs).lookup g) (if g=f then some u else mA g)
  rw [Zj]
  by_cases q:g=f
  ·rw [ak q,ak q];exact ry
  ·rw [ag q,ag q];exact r g
 ·by_cases q:g=f
  ·rw [q];exact (W1 f y fs).1
  ·refine (W1 f y fs).2 g (wi g λz=>hg ?_)
   show (if g=f then some u else mA g)=none
   rw [ag q];exact z
theorem Inv.made (I:Inv X pins σ H s):Inv X pins σ (upd (upd H s.heap.objs.size (.own (s.heap.objs.size+1))) (s.heap.objs.size+1) (.ins C s.heap.objs.size []))
  { s with heap:=(s.heap.push PySem.W.emptyDict).push (PySem.W.instObj C s.heap.objs.size) }:=by
 have e1:(s.heap.push PySem.W.emptyDict).get? s.heap.objs.size=some PySem.W.emptyDict:=au s.heap rfl
 have e2:((s.heap.push PySem.W.emptyDict).push (PySem.W.instObj C s.heap.objs.size)).get? (s.heap.objs.size+1)=some (PySem.W.instObj C s.heap.objs.size):=by
  have:=au (s.heap.push PySem.W.emptyDict) (o:=PySem.W.instObj C s.heap.objs.size) rfl
  rwa [dm] at this
 have e3:(s.heap.push PySem.W.emptyDict).Ns s.heap.objs.size (λ_=>none):=⟨PySem.W.emptyDict,#[],_,e1,rfl,(λe he=>absurd he (by simp)),λ_=>rfl⟩
 have I1:=I.laid (a:=s.heap.objs.size) (o:=.own (s.heap.objs.size+1)) (h':=s.heap.push PySem.W.emptyDict) (t':=s.toks) (λb u q=>ae _ q) (af _) ⟨_,e1⟩
 refine I1.laid (a:=s.heap.objs.size+1) (o:=.ins C s.heap.objs.size []) (t':=s.toks) (λb u q=>ae _ q) (Nat.le_of_eq (dm _ _)) ?_
 have ne:s.heap.objs.size≠s.heap.objs.size+1:=av (Nat.lt_succ_self _)
 refine ⟨by rw [wg ne,q8],aB _,ne,e2,λ_=>none,(Heap.Ns1.of_empty e3).at λo q=>ae _ q,λ_=>True.intro,λy hy=>absurd rfl hy⟩
theorem wkc {prog:Ac}{w:Ah}{env:Env}{e:Expr}{f:Str}{pos:Pos}{s:Ab}{Q:Ag→Ab→Prop}(hb:attributeBase e f env (eval e env)=eval e env)
  (h:wpAny (model prog w) A (eval e env) (λo s₁=>wpAny (model prog w) A (getAttr o f true) Q E s₁) E s):wpAny (model prog w) A (eval (.Attribute e f pos) env) Q E s :=
 Attribute_any_ h (by rw [arm_eval_Attribute,hb])
end
def tFld (K:Aa)(ta:TE)(f:Str):TE:=λσ H Q=>ta σ H λx H1=>∃a C dx fs v,x=.ref a∧H1 a=some (.ins C dx fs)∧Cls K C∧NoAttr K C f∧fs.lookup f=some v∧Q v H1
def sFld (K:Aa)(ta tv:TE)(f:Str):TS:=λD σ H=>tv σ H λy H1=>ta σ H1 λx H2=>∃a C dx fs,x=.ref a∧H2 a=some (.ins C dx fs)∧Cls K C∧NoAttr K C f∧fs.length<1000 ∧
 D.nx σ (upd H2 a (.ins C dx (z0 f y fs)))
section
variable {X:Cx}{o e value:Expr}{f:Str}{pos pos' tpos:Pos}{ta tv:TE}
theorem zu (he:PE X e ta)(hb:attributeBase e f X.env (eval e X.env)=eval e X.env):PE X (.Attribute e f pos) (tFld X.K ta f):=by
 intro pins s σ H Q I h
 refine wkc hb (thn (he pins s σ H _ I h) λu s1 ⟨x,H1,I1,rx,a,C,dx,fs,v,ex,ea,c,n,l,q⟩=>?_)
 subst ex
 obtain rfl:u=Value.ref a:=rx
 exact qj8 I1 ea c n l λu' s2 I2 ru=>⟨v,H1,I2,ru,q⟩
theorem yq (ha:PE X o ta)(hv:PE X value tv)(hs:swapsWith value (some (.Attribute o f pos')) pos.line X.env=pure false):PS X (.Assign [.Attribute o f pos'] value pos) (sFld X.K ta tv f):=by
 intro pins s σ H D I h
 refine plainObj_wpAny_Assign_Attribute (thn (hv pins s σ H _ I h) λu s1 ⟨y,H1,I1,ry,q⟩=>thn (ha pins s1 σ H1 _ I1 q) λov s2 ⟨x,H2,I2,rx,a,C,dx,fs,ex,ea,c,n,l,q2⟩=>?_) hs
 subst ex
 obtain rfl:ov=Value.ref a:=rx
 exact qjq I2 ea c n l ry λs3 I3=>⟨σ,_,I3,q2⟩
end
section
variable {X:Cx}{pins:List (Aj×Obj)}{σ:St}{H:Hp}{s:Ab}{A:Ae}{E:Ag→Ab→Prop}{Q:Ag→Ab→Prop}{c:Ag}{b:Bool}
inductive TyOf (K:Aa) (H:Hp):V→Ag→Prop where
 |non:TyOf K H .non (.type "NoneType")
 |bl (x:Bool):TyOf K H (.bl x) (.type "bool")
 |int (i:Int):TyOf K H (.int i) (.type "int")
 |str (x:Str):TyOf K H (.str x) (.type "str")
 |flt (x:UInt64):TyOf K H (.flt x) (.type "float")
 |lst {a:Aj} {xs:List V} (e:H a=some (.lst xs)):TyOf K H (.ref a) (.type "list")
 |frz {a:Aj} {o:Obj} {xs:List V} (e:H a=some (.frz o (.lst xs))):TyOf K H (.ref a) (.type "list")
 |tup {a:Aj} {xs:List V} (e:H a=some (.tup xs)):TyOf K H (.ref a) (.type "tuple")
 |dK {a:Aj} {kvs:List (Key×V)} (e:H a=some (.dK kvs)):TyOf K H (.ref a) (.type "dict")
 |dT {a:Aj} {kvs:List (List Key×V)} (e:H a=some (.dT kvs)):TyOf K H (.ref a) (.type "dict")
 |ins {a C dx:Aj} {fs:List (Str×V)} (e:H a=some (.ins C dx fs)) (cl:Cls K C) (ha:PySem.W.findIn K (.ref C) "__class__" = some (some (.builtin "object.__class__")))
   (hn:PySem.W.specialIn K (.builtin "object.__class__") "__get__" = some (some (.builtin "getset_descriptor.__get__"))) (htk:PySem.W.takesIn K (.builtin "object.__class__")=some true)
   (hm:PySem.W.mroIn K C (.type "object")=some true):TyOf K H (.ref a) (.ref C)
theorem qu5 {x:V}{u t:Ag}(I:Inv X pins σ H s)(rx:RelV x u)(ty:TyOf X.K H x t)(e:PySem.W.kitOne X.K t c=some b)(h:∀tk,Q (.bool b) { s with toks:=tk }) :
  wpAny (model X.prog X.w) A (call (.builtin "isinstance") [u,c]) Q E s:=by
 cases ty with
 |non=>cases (show u=Value.none from rx);exact bq PySem.W.kitx_none I.kIn True.intro e (λz=>nomatch z) h
 |bl y=>cases (show u=Value.bool y from rx);exact bq PySem.W.kitx_bool I.kIn True.intro e (λz=>nomatch z) h
 |int i=>obtain ⟨t,q⟩:=(show ∃t,u=Value.int i t from rx);cases q;exact bq PySem.W.kitx_int I.kIn True.intro e (λz=>nomatch z) h
 |str y=>obtain ⟨t,q⟩:=(show ∃t,u=Value.str y t from rx);cases q;exact bq PySem.W.kitx_str I.kIn True.intro e (λz=>nomatch z) h
 |flt y=>obtain ⟨t,q⟩:=(show ∃t,u=Value.float y t from rx);cases q;exact bq PySem.W.kitx_float I.kIn True.intro e (λz=>nomatch z) h
 |@lst a xs ea =>
  cases (show u=Value.ref a from rx)
  obtain ⟨_,_,n,_,h1⟩:=(show ObjOk X.prog X.w H s.heap a (.lst xs) from I.hok a _ ea)
  exact bq PySem.W.kitx_list I.kIn ⟨_,h1,rfl⟩ e (λz=>nomatch z) h
 |@frz a ob xs ea =>
  cases (show u=Value.ref a from rx)
  obtain ⟨_,_,_,n,_,h1⟩:=(show ObjOk X.prog X.w H s.heap a (.frz ob (.lst xs)) from I.hok a _ ea)
  exact bq PySem.W.kitx_list I.kIn ⟨_,h1,rfl⟩ e (λz=>nomatch z) h
 |@tup a xs ea =>
  cases (show u=Value.ref a from rx)
  obtain ⟨_,_,_,p⟩:=(show ObjOk X.prog X.w H s.heap a (.tup xs) from I.hok a _ ea)
  obtain ⟨o,h1,h2,_⟩:=p
  exact bq PySem.W.kitx_tuple I.kIn ⟨o,h1,h2⟩ e (λz=>nomatch z) h
 |@dK a kvs ea =>
  cases (show u=Value.ref a from rx)
  obtain ⟨_,_,vs,_,p⟩:=(show ObjOk X.prog X.w H s.heap a (.dK kvs) from I.hok a _ ea)
  obtain ⟨o,es,ep,h1,h2,_⟩:=p
  exact bq PySem.W.kitx_dict I.kIn ⟨o,h1,h2.1⟩ e (λz=>nomatch z) h
 |@dT a kvs ea =>
  cases (show u=Value.ref a from rx)
  obtain ⟨_,_,xs,_,o,es,ep,h1,h2,_⟩:=(show ObjOk X.prog X.w H s.heap a (.dT kvs) from I.hok a _ ea)
  exact bq PySem.W.kitx_dict I.kIn ⟨o,h1,h2.1⟩ e (λz=>nomatch z) h
 |@ins a C dx fs ea cl ha hn htk hm =>
  cases (show u=Value.ref a from rx)
  obtain ⟨mA,O,_⟩:=Z0 I.hok ea
  obtain ⟨od,J,_⟩:=O.look
  exact bq (PySem.W.kitx_own (cl.get _) cl.hd ha hn htk hm) I.kIn J e (λz=>nomatch z) h
end
structure Room (k:Nat)(A:Ae):Prop where
 hd:A.handled=none
 dp:A.depth+3*k+5<recursionLimit
 un:A.units+16*k+200<cLine
theorem Room.mono {j k:Nat}{A:Ae}(r:Room k A)(h:j≤k):Room j A:=⟨r.hd,by have:=r.dp;lia,by have:=r.un;lia⟩
theorem Room.deeper {k:Nat}{A:Ae}(r:Room (k+1) A)(env:Env):Room k (A.deeper env) :=
 ⟨r.hd,by have:=r.dp;show A.depth+1+3*k+5<_;lia,by have:=r.un;show A.units+3+16*k+200<_;lia⟩
theorem qk4 {A:Ae}{C:Aj}{us:List Ag}{kw:List (Str×Ag)}:(A.under (.builtin "type.__call__" ⟨.ref C::us,kw⟩)).depth=A.depth+1:=by
 first | rfl | simp [Around.under,Code.weight,Code.isCreation,Code.isGuard,Code.isCaller,Code.frames,Code.isFrame,guardIds]
theorem qjh {A:Ae}{C:Aj}{us:List Ag}{kw:List (Str×Ag)}:(A.under (.builtin "type.__call__" ⟨.ref C::us,kw⟩)).units=A.units+1:=by
 first | rfl | simp [Around.under,Code.cUnits,Code.frames,Code.isFrame]
theorem Room.make {k:Nat}{A:Ae}(r:Room (k+1) A)(C:Aj)(us:List Ag)(kw:List (Str×Ag)):Room k (A.under (.builtin "type.__call__" ⟨.ref C::us,kw⟩)) :=
 ⟨r.hd,by have:=r.dp;rw [qk4];lia,by have:=r.un;rw [qjh];lia⟩
theorem Room.depth {k:Nat}{A:Ae}(r:Room k A):A.depth<recursionLimit:=by have:=r.dp;lia
theorem Room.units {k:Nat}{A:Ae}(r:Room k A):A.units+64<cLine:=by have:=r.un;lia
theorem Room.units0 {k:Nat}{A:Ae}(r:Room k A):A.units<cLine:=by have:=r.un;lia
def j8:TA:=λ_ H Q=>Q [] H
def vu (ta:TE)(tr:TA):TA:=λσ H Q=>ta σ H λx H1=>tr σ H1 λxs H2=>Q (x::xs) H2
section
variable {X:Cx}{e:Expr}{es:List Expr}{te:TE}{t:TA}{pos:Pos}
theorem qu:PA X [] j8:=λ_ _ _ _ H Q I h=>eO ⟨[],H,I,.nil,h⟩
theorem xf (ha:PE X e te)(hr:PA X es t)(hs:starEach (e::es) X.env=(false,eval e X.env)::starEach es X.env:=by rfl):PA X (e::es) (vu te t):=by
 intro pos pins s σ H Q I h
 rw [hs]
 show wpAny _ _ (spliced ((false,eval e X.env)::backTo pos (starEach es X.env))) _ _ s
 refine cY (thn (ha pins s σ H _ I h) λu s1 ⟨x,H1,I1,r1,q1⟩=>?_)
 exact thn (hr pos pins s1 σ H1 _ I1 q1) λus s2 ⟨xs,H2,I2,r2,q2⟩=>⟨x::xs,H2,I2,.cons r1 r2,q2⟩
def tTup (t:TA):TE:=λσ H Q=>t σ H λxs H1=>xs.length≤sizeLine∧∀p,H1 p=none→Q (.ref p) (upd H1 p (.tup xs))
def tLst (t:TA):TE:=λσ H Q=>t σ H λxs H1=>xs.length≤sizeLine∧∀p,H1 p=none→Q (.ref p) (upd H1 p (.lst xs))
theorem vg {x1}(h:PA X es t):PE X (.Tuple es x1 pos) (tTup t):=by
 intro pins s σ H Q I hq
 refine wpAny_Tuple_spliced (thn (h pos pins s σ H _ I hq) λus s1 ⟨xs,H1,I1,r,z,q⟩=>⟨by rw [←r.length];exact z,?_⟩)
 have hf:H1 s1.heap.objs.size=none:=I1.hok.fresh (af _)
 refine ⟨.ref s1.heap.objs.size,upd H1 s1.heap.objs.size (.tup xs),I1.laid (t':=s1.toks) (λb u e=>ae _ e) (af _) ?_,rfl,q _ hf⟩
 exact ⟨z,us,r,⟨_,au _ rfl,rfl,_,rfl⟩⟩
theorem k6 (h:PA X es t):PE X (.List es pos) (tLst t):=by
 intro pins s σ H Q I hq
 refine wpAny_List_spliced (thn (h pos pins s σ H _ I hq) λus s1 ⟨xs,H1,I1,r,z,q⟩=>⟨by rw [←r.length];exact z,?_⟩)
 have hf:H1 s1.heap.objs.size=none:=I1.hok.fresh (af _)
 refine ⟨.ref s1.heap.objs.size,upd H1 s1.heap.objs.size (.lst xs),I1.laid (t':=s1.toks) (λb u e=>ae _ e) (af _) ?_,rfl,q _ hf⟩
 exact ⟨z,us,0,r,au _ rfl⟩
end
abbrev Sp:=List V→Hp→VK→XK→Prop
abbrev CXT:=List Env→Hp→Ab→XK→Ag→Ab→Prop
structure Env0 (P:Ac)(w:Ah)(K:Aa)(mg:Str→Option Ag)(base:Heap)(A:Ae)(outer:List Env)(s:Ab)(H:Hp):Prop where
 frames:A.frames=some outer
 mod:Mod K mg base
 bs:∀b o,base.get? b=some o→s.heap.get? b=some o∧H b=none
 bsz:base.objs.size≤s.heap.objs.size
 funs:s.heap.FunFrames base outer
 frf:∀b∈frs outer,H b=none
 hok:HOk P w H s.heap
 bare:AllBare s.gens
def CE (outer:List Env)(P:Ac)(w:Ah)(H:Hp)(s:Ab)(Q:VK)(u:Ag)(s':Ab):Prop :=
 ∃v H',s'.os=s.os∧AllBare s'.gens∧Un (frs outer) [] H H' s.heap s'.heap∧HOk P w H' s'.heap∧RelV v u∧Q v H'
def CR (CX:CXT)(outer:List Env)(P:Ac)(w:Ah)(H:Hp)(s:Ab)(Q:VK)(E:XK)(r:Result)(s':Ab):Prop :=
 match r with
 |.ok (.ret u)=>CE outer P w H s Q u s'
 |.ok _=>False
 |.error e=>CX outer H s E e s'
structure FnOk (P:Ac)(w:Ah)(K:Aa)(mg:Str→Option Ag)(base:Heap)(CX:CXT)(k:Nat)(f:Aj)(fd:Ad)(ps:List Str)(sp:Sp):Prop where
 len:∀vs H Q E,sp vs H Q E→vs.length=ps.length
 run:∀(A:Ae) (outer:List Env) (s:Ab) (H:Hp) (args:Args) (us:List Ag) (vs:List V) (Q:VK) (E:XK),Room k A→Env0 P w K mg base A outer s H→BindsTo s fd args (ps.zip us)→Vals vs us→sp vs H Q E →
  codeAny (model P w) A (.call (.ref f) args) (CR CX outer P w H s Q E) s
theorem Env0.make {P:Ac}{w:Ah}{K:Aa}{mg:Str→Option Ag}{base:Heap}{A:Ae}{outer:List Env}{s:Ab}{H:Hp}(e:Env0 P w K mg base A outer s H)(C:Aj)(us:List Ag)(kw:List (Str×Ag)) :
  Env0 P w K mg base (A.under (.builtin "type.__call__" ⟨.ref C::us,kw⟩)) outer s H:=⟨by first | exact e.frames | (simpa [Around.under,Code.envs,Code.isFrame,pushEnvs] using e.frames),e.mod,e.bs,e.bsz,e.funs,e.frf,e.hok,e.bare⟩
section
variable {X:Cx}{pins:List (Aj×Obj)}{σ:St}{H:Hp}{s s':Ab}
theorem Inv.env0 (I:Inv X pins σ H s):Env0 X.prog X.w X.K X.mg X.base X.A X.stack s H :=
 ⟨I.ok.frames,I.ok.mod,I.bs,bH I.ok.bsz I.sz,I.stack,I.stkFree,I.hok,I.bare⟩
theorem Inv.after {Q:VK}{u:Ag}(I:Inv X pins σ H s)(h:CE X.stack X.prog X.w H s Q u s'):EP X pins σ Q u s':=by
 obtain ⟨v,H',os,bare,un,hok,r,q⟩:=h
 obtain ⟨hh,g,d,t,os'⟩:=s'
 obtain rfl:os'=s.os:=os
 exact ⟨v,H',I.call (h':=hh) (g':=g) (d':=d) (t':=t) (ch:=[]) un hok bare (λb z=>absurd z (by simp)),r,q⟩
end
def Binds (K:Aa)(fd:Ad)(ps:List Str)(ds:List Ag):Prop :=
 ∀(s:Ab) (us:List Ag),K.In s.heap→(us++ds).length=ps.length→BindsTo s fd ⟨us,[]⟩ (ps.zip (us++ds))
theorem Binds.all {K:Aa}{fd:Ad}{ps:List Str}(h:∀us:List Ag,us.length=ps.length→bindArgs fd ⟨us,[]⟩=pure (ps.zip us)):Binds K fd ps []:=λs us _ hl=>by
 rw [ca] at hl ⊢
 exact .of_eq (h us hl)
section
variable {X:Cx}{CX:CXT}{k:Nat}{f C:Aj}{fd:Ad}{ps:List Str}{sp:Sp}{dvs:List V}{ds:List Ag}{E:XK}{x m:Str}{p pos apos:Pos}{e o:Expr}{es:List Expr}{ta:TE}{t:TA}
structure Mk (K:Aa)(C f:Aj):Prop where
 makes:PySem.W.makesIn K C=true
 init:PySem.W.findIn K (.ref C) "__init__" = some (some (.ref f))
 fn:PySem.W.isFn K (.ref f)=true
 kp:PySem.W.keepIn K (.ref C)=true
end
section
variable {X:Cx}{CX:CXT}{k:Nat}{f C:Aj}{fd:Ad}{ps ks:List Str}{sp:Sp}{E:XK}{x m:Str}{p pos apos kpos:Pos}{e o:Expr}{es:List Expr}{kws:List Keyword}{te ta:TE}{t tk:TA}{nm:Option Str}
structure KBinds (K:Aa)(fd:Ad)(ps ks:List Str)(g:List Ag→List Ag→List Ag)(gV:List V→List V→List V):Prop where
 to:∀(s:Ab) (us ws:List Ag),K.In s.heap→(g us ws).length=ps.length→BindsTo s fd ⟨us,ks.zip ws⟩ (ps.zip (g us ws))
 rel:∀ {vs:List V} {us:List Ag} {zs:List V} {ws:List Ag},Vals vs us→Vals zs ws→Vals (gV vs zs) (g us ws)
variable {g:List Ag→List Ag→List Ag}{gV:List V→List V→List V}
end
structure FnScope (N P:List Str)(sc:Scope):Prop where
 kind:sc.kind=.function
 co:sc.isCoroutine=false
 gen:sc.isGenerator=false
 nd:N.Nodup
 pre:N.take P.length=P
 par:∀x∈P,sc.names.lookup x=some .local∨sc.names.lookup x=some .cell
 nofree:∀y∈sc.names,y.2≠.free
theorem qwh {kindOf:Str→Option NameKind}{x:Str}:∀ {binds:List (Str×Ag)} {m:Str→Option Ag},(∀v,(x,v)∉binds)→bindL kindOf binds m x=m x
 |[],_,_=>rfl
 |(n,v)::r,m,h=>by
  unfold bindL
  rw [qwh λw hw=>h w (aC _ hw)]
  split
  ·have:x≠n:=by rintro rfl;exact h v aO
   simp [this]
  ·rfl
theorem qw1 {kindOf:Str→Option NameKind}{x:Str}:∀ {binds:List (Str×Ag)} {m:Str→Option Ag},(∀v,(x,v)∉binds)→bindC kindOf binds m x=m x
 |[],_,_=>rfl
 |(n,v)::r,m,h=>by
  unfold bindC
  rw [qw1 λw hw=>h w (aC _ hw)]
  split
  ·rfl
  ·have:x≠n:=by rintro rfl;exact h v aO
   simp [this]
theorem qwn {kindOf:Str→Option NameKind}{x:Str}{v:Ag}:∀ {P:List Str} {vs:List Ag} {i:Nat} {m:Str→Option Ag},P.Nodup→P[i]?=some x→vs[i]?=some v→kindOf x=some .local →
  bindL kindOf (P.zip vs) m x=some v
 |[],_,_,_,_,h,_,_=>by simp at h
 |_::_,[],_,_,_,_,h,_=>by simp at h
 |p::P,w::vs,0,m,nd,h1,h2,hk=>by
  simp at h1 h2;subst h1;subst h2
  show bindL kindOf ((p,w)::P.zip vs) m p=_
  unfold bindL
  rw [qwh λv hv=>(aS.mp nd).1 (fi hv).1,ak hk]
  simp
 |p::P,w::vs,i+1,m,nd,h1,h2,hk=>by
  show bindL kindOf ((p,w)::P.zip vs) m x=_
  unfold bindL
  exact qwn (i:=i) (aS.mp nd).2 (by simpa using h1) (by simpa using h2) hk
theorem qwt {kindOf:Str→Option NameKind}{x:Str}{v:Ag}:∀ {P:List Str} {vs:List Ag} {i:Nat} {m:Str→Option Ag},P.Nodup→P[i]?=some x→vs[i]?=some v→kindOf x≠some .local →
  bindC kindOf (P.zip vs) m x=some v
 |[],_,_,_,_,h,_,_=>by simp at h
 |_::_,[],_,_,_,_,h,_=>by simp at h
 |p::P,w::vs,0,m,nd,h1,h2,hk=>by
  simp at h1 h2;subst h1;subst h2
  show bindC kindOf ((p,w)::P.zip vs) m p=_
  unfold bindC
  rw [qw1 λv hv=>(aS.mp nd).1 (fi hv).1,ag hk]
  simp
 |p::P,w::vs,i+1,m,nd,h1,h2,hk=>by
  show bindC kindOf ((p,w)::P.zip vs) m x=_
  unfold bindC
  exact qwt (i:=i) (aS.mp nd).2 (by simpa using h1) (by simpa using h2) hk
def Wv (N:List Str)(vs:List V):St:=vs.map some++List.replicate (N.length-vs.length) none
def Qg (CX:CXT)(P:Ac)(w:Ah)(K:Aa)(mg:Str→Option Ag)(base:Heap)(N:List Str)(qual:Str)(scope:Scope)(f:Aj)(cd:Ag)(A:Ae)(outer:List Env)(s:Ab)(H:Hp)(E:XK):Cx where
 prog:=P
 w:=w
 K:=K
 mg:=mg
 base:=base
 A:=A.deeper (envOfC qual scope s.heap.objs.size f cd)
 N:=N
 s₀:=s
 H₀:=H
 env:=envOfC qual scope s.heap.objs.size f cd
 outer:=outer
 stack:=envOfC qual scope s.heap.objs.size f cd::outer
 ex:=[]
 calm:=true
 fn:=λ_=>true
 pn:=[]
 xe:=λe s'=>wpAny (model P w) (A.deeper (envOfC qual scope s.heap.objs.size f cd)) (leaving (envOfC qual scope s.heap.objs.size f cd) e) (λ_ s''=>CX outer H s E e s'') (λe' s''=>CX outer H s E e' s'') s'
theorem qvk {sc:Scope}{n:Nat}{x:Str}(h:sc.names.lookup x=some .cell):∃c,(cellsFrom n sc.names []).lookup x=some c:=by
 have q:=PySem.W.cellsFrom_some sc.names n [] (.inl h)
 exact cU.mp q
theorem qut {CX:CXT}{P:Ac}{w:Ah}{K:Aa}{mg:Str→Option Ag}{base:Heap}{N ps:List Str}{qual:Str}{scope:Scope}{f:Aj}{cd:Ag}{A:Ae}{outer:List Env}{s s1:Ab}{H:Hp}{E:XK}{us:List Ag}{vs:List V}
  (S:FnScope N ps scope) (hd:A.handled=none) (e0:Env0 P w K mg base A outer s H) (hl:vs.length=ps.length) (r:Vals vs us)
  (x:InCallC s s.heap.objs.size (bindL (envOfC qual scope s.heap.objs.size f cd).kindOf (ps.zip us) λ_=>none) (cellsFrom (s.heap.objs.size+1) scope.names []) (bindC (envOfC qual scope s.heap.objs.size f cd).kindOf (ps.zip us) λ_=>none) s1) :
  Inv (Qg CX P w K mg base N qual scope f cd A outer s H E) [] (Wv N vs) H s1:=by
 have hpl:ps.length≤N.length:=by have:=bJ List.length S.pre;rw [bG] at this;lia
 obtain ⟨h1,tk,rfl,hk⟩:=x.done
 have noA:∀b:Aj,b∉(Qg CX P w K mg base N qual scope f cd A outer s H E).ex:=λb z=>absurd (show b∈([]:List Aj) from z) (by simp)
 refine ⟨⟨e0.mod,S.kind,rfl,rfl,af _,λy z c h1 h2=>?_,λy hy=>?_,λy c _ h=>?_,λ_=>hd,Around.frames_deeper e0.frames,.inr ⟨rfl,rfl⟩,λb z=>absurd z (noA b),e0.bs,e0.bsz,λb _ _=>noA b,λb z=>absurd z (noA b),e0.funs,e0.frf⟩,
  rfl,e0.bare,Un.kept hk,⟨_,x.toInCall.ns,λi y v h1 h2 h3=>?_⟩,λy c h=>⟨_,x.cell y c h⟩,e0.hok.fresh (af _),λy c h=>?_,λp hp=>absurd (show p∈([]:List (Aj×Obj)) from hp) (by simp),e0.hok.kept hk,?_⟩
 ·exact name_of_addr x.apart (cu h1) (cu h2)
 ·have hy:scope.names.lookup y=some .cell∨scope.names.lookup y=some .free:=hy
  rcases hy with hy|hy
  ·exact qvk hy
  ·exact absurd rfl (S.nofree _ (cu hy))
 ·exact bA (x.above y c (cu h))
 ·have hi:i<vs.length:=by
   unfold Wv at h2
   by_cases hi:i<vs.length
   ·exact hi
   ·rw [bj (by simpa using hi)] at h2
    rw [List.getElem?_replicate] at h2
    split at h2 <;> cases h2
  have ha:vs[i]?=some v:=by
   unfold Wv at h2
   rw [bu (by simpa using hi),aH] at h2
   cases e:vs[i]? with
   |none=>rw [e] at h2;cases h2
   |some a=>rw [e] at h2;cases h2;rfl
  obtain ⟨u,hu,rv⟩:=r.get ha
  have hp:ps[i]?=some y:=by
   rw [←S.pre,List.getElem?_take_of_lt (by lia)];exact h1
  have ndP:ps.Nodup:=by rw [←S.pre];exact S.nd.sublist (List.take_sublist _ _)
  refine ⟨u,rv,?_⟩
  rcases S.par y (aN hp) with k|k
  ·exact .inl ⟨k,qwn ndP hp hu k⟩
  ·obtain ⟨c,e⟩:=qvk (n:=s.heap.objs.size+1) k
   refine .inr ⟨.inl k,c,e,?_⟩
   have q:=x.cell y c e
   rw [qwt ndP hp hu (by show scope.names.lookup y≠_;rw [k];decide)] at q
   exact q
 ·exact e0.hok.fresh (bA (x.above y c (cu h)))
 ·unfold Wv
  show _=N.length
  rw [aG,ac,List.length_replicate]
  lia
theorem fn_of {CX:CXT}{P:Ac}{w:Ah}{K:Aa}{mg:Str→Option Ag}{base:Heap}{k:Nat}{f:Aj}{name qual:Str}{params:Arguments}{body:List Stmt}{scope:Scope}{dV kV doc pm cdv ct oc:Ag}{an od:Option Aj}
  {osl:Array (Option Ag)} {N ps:List Str} {sp:Sp} (lk:K.lookup f=some ⟨oc,od,.func (PySem.W.fnOf name qual params body scope dV kV doc pm an cdv ct),osl⟩) (hcd:PySem.W.codeIn K cdv qual=true) (S:FnScope N ps scope)
  (len:∀vs H Q E,sp vs H Q E→vs.length=ps.length)
  (hbody:∀(A:Ae) (outer:List Env) (s:Ab) (H:Hp) (vs:List V) (Q:VK) (E:XK),Room k (A.deeper (envOfC qual scope s.heap.objs.size f cdv))→sp vs H Q E →
   ∃t,PSs (Qg CX P w K mg base N qual scope f cdv A outer s H E) body t∧t { nx:=λ_ H'=>Q .non H',rt:=Q } (Wv N vs) H) :
  FnOk P w K mg base CX (k+1) f (PySem.W.fnOf name qual params body scope dV kV doc pm an cdv ct) ps sp:=by
 refine ⟨len,λA outer s H args us vs Q E hr e0 hb r hsp=>?_⟩
 have hl:=len _ _ _ _ hsp
 have KX:K.In s.heap:=e0.mod.kin.keeps λb o e=>(e0.bs b o e).1
 have lim:s.heap.NoLimit:=e0.mod.nolimit.keeps λb o e=>(e0.bs b o e).1
 have hkind:∀y∈ps.zip us,scope.names.lookup y.1=some .local∨(scope.names.lookup y.1=some .cell∧((cellsFrom (s.heap.objs.size+1) scope.names []).lookup y.1).isSome=true):=λ⟨n,v⟩ hy=>by
  rcases S.par n (fi hy).1 with q|q
  ·exact .inl q
  ·exact .inr ⟨q,PySem.W.cellsFrom_some _ _ _ (.inl q)⟩
 refine codeAny_call_function hr.depth (KX _ _ lk) rfl S.co S.gen rfl (PySem.W.codeRec_of KX hcd) (hb _ _ _ _ ?_)
 refine wpAny_newFunctionEnv_cells S.kind hkind λenv he s1 x=>?_
 subst he
 refine ⟨lim.keeps x.toInCall.keep,codeAny_func ?_⟩
 obtain ⟨t,ht,hq⟩:=hbody A outer s H vs Q E (hr.deeper _) hsp
 have I:Inv (Qg CX P w K mg base N qual scope f cdv A outer s H E) [] (Wv N vs) H s1:=qut S hr.hd e0 hl r x
 refine aP (ht [] s1 (Wv N vs) H _ I hq) (λfl s' hs=>?_) λe s' hs=>hs
 have fin:∀ {σ':St} {H':Hp} {v:V} {u:Ag},Inv (Qg CX P w K mg base N qual scope f cdv A outer s H E) [] σ' H' s'→RelV v u→Q v H'→CE outer P w H s Q u s' :=
  λ{σ' H' v u} J rv q=>⟨v,H',J.os,J.bare,J.base,J.hok,rv,q⟩
 cases fl with
 |ret u =>
  obtain ⟨v,σ',H',J,rv,q⟩:=hs
  exact fin J rv q
 |next =>
  obtain ⟨σ',H',J,q⟩:=hs
  exact fin (v:=V.non) (u:=Value.none) J rfl q
 |brk =>
  obtain ⟨_,_,_,q⟩:=hs
  exact False.elim q
 |cont =>
  obtain ⟨_,_,_,q⟩:=hs
  exact False.elim q
section
variable {X:Cx}{x:Str}{p pos:Pos}{e:Expr}{es:List Expr}{t:TA}{id T:String}{r:List V→Hp→VK→Prop}
def tCB (r:List V→Hp→VK→Prop)(t:TA):TE:=λσ H Q=>t σ H λvs H1=>r vs H1 Q
theorem xu (hc:k4 X (.builtin id) r)(hg:Gl X x)(hm:X.mg x=none)(hv:bootBuiltins x=some (.builtin id))(ha:PA X (e::es) t)(hn:x ≠ "__name__" := by decide)(hdb:(x==("__debug__" : Str))=false:=by decide)
  (he:starEach (e::es) X.env=(false,eval e X.env)::starEach es X.env:=by rfl) (hpl:(backTo pos (starEach es X.env)).any (·.1)=false:=by rfl):PE X (.Call (.Name x p) (e::es) [] pos) (tCB r t):=by
 intro pins s σ H Q I h
 refine cw (Zx I hg hm hv ?_ hn hdb)
 exact PyProof.Rows.callWith_builtin1 (thn (ha pos pins s σ H _ I h) λus s1 ⟨vs,H1,I1,r1,q1⟩=>hc pins s1 σ H1 vs us Q I1 r1 q1) he hpl
theorem kf (hc:k4 X (.type T) r)(hg:Gl X x)(hm:X.mg x=none)(hv:bootBuiltins x=some (.type T))(ha:PA X (e::es) t)(hn:x ≠ "__name__" := by decide)(hdb:(x==("__debug__" : Str))=false:=by decide)
  (he:starEach (e::es) X.env=(false,eval e X.env)::starEach es X.env:=by rfl) (hpl:(backTo pos (starEach es X.env)).any (·.1)=false:=by rfl):PE X (.Call (.Name x p) (e::es) [] pos) (tCB r t):=by
 intro pins s σ H Q I h
 refine cw (Zx I hg hm hv ?_ hn hdb)
 exact bP (thn (ha pos pins s σ H _ I h) λus s1 ⟨vs,H1,I1,r1,q1⟩=>hc pins s1 σ H1 vs us Q I1 r1 q1) he hpl
end
end L2
namespace HT
open PySem PyProof.Rows
section
open PySem.SeqAt
open PySem.AutoSeq1 (wpAny_loadPart')
open PySem.MeetsSeq PySem.MeetsSeq2 PySem.MeetsSeq3
end
section
variable {prog:Ac}{w:Ah}{A:Ae}{E:Ag→Ab→Prop}{s:Ab}
end
end HT
namespace L2
open PySem PySem.Spec PyProof.Rows
theorem qjm {ns:List Int}:∀ {us:List Ag},Vals (ns.map V.int) us→IntsAre us ns:=by
 induction ns with
 |nil=>intro us r;rw [dn] at r;cases r;exact .nil
 |cons n ns ih =>
  intro us r
  rw [aZ] at r
  cases r with
  |cons r1 r2 =>
   obtain ⟨t,e⟩:=r1
   subst e
   exact .cons n t (ih r2)
section
variable {X:Cx}{e:Expr}{te:TE}{lo hi:Option Expr}{tl th:TO}{pos p2:Pos}
end
def ixN (n:Nat)(i:Int):Option Nat:=if 0≤i then (if i<n then some i.toNat else none) else if -(n:Int)≤i then some (i+n).toNat else none
def atI {α:Type}(xs:List α)(i:Int):Option α:=(ixN xs.length i).bind λj=>xs[j]?
theorem wv7 {n:Nat}{i:Int}{j:Nat}(h:ixN n i=some j):seqIndex? i n=some j∧j<n∧-(n:Int)≤i∧i<n:=by
 unfold ixN at h
 by_cases h0:0≤i
 ·rw [ak h0] at h
  by_cases h1:i<n
  ·rw [ak h1] at h
   have e:i.toNat=j:=az h
   exact ⟨by rw [seqIndex_of h0 h1,e],by lia,by lia,h1⟩
  ·rw [ag h1] at h;cases h
 ·rw [ag h0] at h
  by_cases h1:-(n:Int)≤i
  ·rw [ak h1] at h
   have e:(i+n).toNat=j:=az h
   exact ⟨by rw [seqIndex_neg (by lia) h1,e],by lia,h1,by lia⟩
  ·rw [ag h1] at h;cases h
theorem qyc {α:Type}{xs:List α}{i:Int}{v:α}(h:atI xs i=some v):∃j,seqIndex? i xs.length=some j∧xs[j]?=some v∧j<xs.length∧-(xs.length:Int)≤i∧i<xs.length:=by
 unfold atI at h
 cases e:ixN xs.length i with
 |none=>rw [e] at h;cases h
 |some j =>
  rw [e] at h
  obtain ⟨h1,h2,h3,h4⟩:=wv7 e
  exact ⟨j,h1,h,h2,h3,h4⟩
theorem xm {α:Type}{xs:List α}{j:Nat}{v:α}(h:xs[j]?=some v):atI xs (j:Int)=some v:=by
 have hj:j<xs.length:=(aM.mp h).1
 have e:ixN xs.length (j:Int)=some j:=by
  unfold ixN
  rw [ak (by lia),ak (by lia)];simp
 unfold atI;rw [e];exact h
theorem wx4 {α:Type}(xs:List α)(v:α):atI (xs++[v]) (-1)=some v:=by
 have hl:(xs++[v]).length=xs.length+1:=by simp
 have e:ixN (xs++[v]).length (-1)=some xs.length:=by
  unfold ixN
  rw [hl,ag (by decide),ak (by lia)]
  congr 1
  lia
 unfold atI
 rw [e]
 show (xs++[v])[xs.length]?=some v
 simp
def wv4 (b:Expr):Prop:=∀o i,subscripted b false o i=operate [o,i] (getItem o i)
def IxR (X:Cx)(r:R2):Prop :=
 ∀(value slice:Expr) (pins:List (Aj×Obj)) (s:Ab) (σ:St) (H:Hp) (x y:V) (v u:Ag) (Q:VK),Inv X pins σ H s→RelV x v→RelV y u→r x y H Q →
  subscripted slice false v u=operate [v,u] (getItem v u)→wpAny (model X.prog X.w) X.A (subscriptTail value slice v u) (EP X pins σ Q) X.xe s
def MtR (X:Cx)(id:String)(r:V→List V→Hp→VK→Prop):Prop :=
 ∀(pins:List (Aj×Obj)) (s:Ab) (σ:St) (H:Hp) (x:V) (xs:List V) (v:Ag) (us:List Ag) (Q:VK),Inv X pins σ H s→RelV x v→Vals xs us→r x xs H Q →
  wpAny (model X.prog X.w) X.A (call (.builtin id) (v::us)) (EP X pins σ Q) X.xe s
section
variable {X:Cx}{a b:Expr}{ta tb:TE}{pos:Pos}
theorem xy {r:R2}(hr:IxR X r)(ha:PE X a ta)(hb:PE X b tb)(hs:wv4 b):PE X (.Subscript a b pos) (tOp r ta tb):=by
 intro pins s σ H Q I h
 exact Subscript_ (binT ha hb I h λv u s2 x y H2 I2 rx ry q=>hr a b pins s2 σ H2 x y v u Q I2 rx ry q (hs _ _))
def rIxL (K:Aa):R2:=λx y H Q=>∃p xs i v,x=.ref p∧y=.int i∧SqL K H p xs∧atI xs i=some v∧Q v H
def rIxT (K:Aa):R2:=λx y H Q=>∃p xs i v,x=.ref p∧y=.int i∧SqT K H p xs∧atI xs i=some v∧Q v H
theorem xv:IxR X (rIxL X.K):=by
 intro value slice pins s σ H x y v u Q I rx ry h hs
 obtain ⟨p,xs,i,z,rfl,rfl,hq,he,q⟩:=h
 cases rx
 obtain ⟨t,rfl⟩:=ry
 obtain ⟨its,r,pl,hz⟩:=I.list hq
 obtain ⟨j,h1,h2,h3,h4,h5⟩:=qyc he
 obtain ⟨w,ew,rw'⟩:=r.get h2
 have hl:=r.length
 have hn:=Ju
 have fin:EP X pins σ Q w s:=⟨z,H,I,rw',q⟩
 by_cases h0:0≤i
 ·have hj:i.toNat=j:=by
   rw [seqIndex_of h0 h5] at h1
   exact az h1
  exact item_listR pl.isList h0 (by lia) (by rw [hj];simpa using ew) fin hs
 ·have hj:(i+(its.toArray.size:Int)).toNat=j:=by
   rw [seqIndex_neg (by lia) h4] at h1
   rw [aI,←hl]
   exact az h1
  exact subscriptTail_builtinR (x:=w) pl.isList.typeIs slot_list_getitem.lookup
   (wpAny_getItem_list_neg (Q:=λr s'=>r=w∧EP X pins σ Q r s') pl.isList (by lia) (by rw [aI] <;> lia) (by lia) (by rw [hj];simpa using ew) ⟨rfl,fin⟩) hs
theorem zn:IxR X (rIxT X.K):=by
 intro value slice pins s σ H x y v u Q I rx ry h hs
 obtain ⟨p,xs,i,z,rfl,rfl,hq,he,q⟩:=h
 cases rx
 obtain ⟨t,rfl⟩:=ry
 obtain ⟨its,r,pl,hz⟩:=I.tuple hq
 obtain ⟨j,h1,h2,h3,h4,h5⟩:=qyc he
 obtain ⟨w,ew,rw'⟩:=r.get h2
 have hl:=r.length
 have hn:=Ju
 have fin:EP X pins σ Q w s:=⟨z,H,I,rw',q⟩
 exact subscriptTail_builtinR (x:=w) pl.typeIs slot_tuple_getitem.lookup
  (getItem_tuple (j:=j) (Q:=λr s'=>r=w∧EP X pins σ Q r s') pl (by lia) (by lia) (by rw [aI,←hl];exact h1) (by simpa using ew) ⟨rfl,fin⟩) hs
theorem x8:k4 X (.builtin "len") (λxs H Q=>∃p ys,xs=[.ref p]∧(SqL X.K H p ys∨SqT X.K H p ys)∧Q (.int ys.length) H):=by
 intro pins s σ H xs us Q I r h
 obtain ⟨p,ys,rfl,hq,q⟩:=h
 obtain ⟨u,rfl,rx⟩:=j5 r
 cases rx
 have hn:=Ju
 rcases hq with hq|hq
 ·obtain ⟨its,r',pl,hz⟩:=I.list hq
  have hlen:=r'.length
  exact Calls.call_len_list pl.isList (by simp only [aI] <;> lia) ⟨.int ys.length,H,I.tok _,⟨s.toks+1,by rw [aI,hlen]⟩,q⟩
 ·obtain ⟨its,r',pl,hz⟩:=I.tuple hq
  have hlen:=r'.length
  exact len_tuple pl (by simp only [aI] <;> lia) ⟨.int ys.length,H,I.tok _,⟨s.toks+1,by rw [aI,hlen]⟩,q⟩
theorem Wc:k4 X (.builtin "len") (λxs H Q=>∃z,xs=[.str z]∧z.length≤sizeLine∧Q (.int z.length) H):=by
 intro pins s σ H xs us Q I r h
 obtain ⟨z,rfl,hz,q⟩:=h
 obtain ⟨u,rfl,t,rfl⟩:=j5 r
 have hn:=Ju
 exact len_str (by lia) ⟨.int z.length,H,I.tok _,⟨_,rfl⟩,q⟩
theorem yn:k4 X (.type "list") (λxs H Q=>∃p ys,xs=[.ref p]∧(SqL X.K H p ys∨SqT X.K H p ys)∧∀l,H l=none→Q (.ref l) (upd H l (.lst ys))):=by
 intro pins s σ H xs us Q I r h
 obtain ⟨p,ys,rfl,hq,q⟩:=h
 obtain ⟨u,rfl,rx⟩:=j5 r
 cases rx
 have fin:∀(its:List Ag),Vals ys its→ys.length≤sizeLine→∀(h':Heap) (c':Nat),(∀b o',s.heap.get? b=some o'→h'.get? b=some o') →
   h'.get? s.heap.objs.size=some { cls:=.type "list",dict:=none,data:=.seq its.toArray c',slots:=#[] }→EP X pins σ Q (.ref s.heap.objs.size) { s with heap:=h' }:=λits r' hz h' c' kp e =>
  ⟨.ref s.heap.objs.size,_,I.laid (t':=s.toks) kp (af _) (show ObjOk X.prog X.w _ h' _ (.lst ys) from ⟨hz,its,c',r',e⟩),rfl,q _ (I.hok.fresh (af _))⟩
 rcases hq with hq|hq
 ·obtain ⟨its,r',pl,hz⟩:=I.list hq
  have hlen:=r'.length
  obtain ⟨o,ho,hc,n,hd⟩:=pl.isList
  exact call_list_seq p (.inl rfl) ho hc hd (λh' c' kp e=>fin its r' hz h' c' kp e) (by simp only [aI] <;> lia)
 ·obtain ⟨its,r',pl,hz⟩:=I.tuple hq
  have hlen:=r'.length
  obtain ⟨o,ho,hc,n,hd⟩:=pl
  exact call_list_seq p (.inr rfl) ho hc hd (λh' c' kp e=>fin its r' hz h' c' kp e) (by simp only [aI] <;> lia)
def tyV (K:Aa)(T:String)(x:V)(H:Hp):Prop:=match x with
 |.str _=>T = "str"
 |.int _=>T = "int"
 |.ref p=>(T = "list" ∧ ∃xs,SqL K H p xs)∨(T = "tuple" ∧ ∃o,K.lookup p=some o∧o.cls=.type "tuple" ∧ o.dict=none) ∨
   (T = "dict" ∧ ((∃kvs,H p=some (.dK kvs))∨∃kvs,H p=some (.dT kvs)))∨(T = "set" ∧ ∃S n,H p=some (.set S n))
 |_=>False
theorem wxz {pins:List (Aj×Obj)}{σ:St}{H:Hp}{s:Ab}{T:String}{x:V}{v:Ag}(I:Inv X pins σ H s)(r:RelV x v)(ty:tyV X.K T x H) :
  s.TypeIs v T∧∀a,v=.ref a→∃ob,s.heap.get? a=some ob∧ob.dict=none:=by
 cases x with
 |str z =>
  obtain ⟨t,rfl⟩:=r
  cases (show T = "str" from ty)
  exact ⟨typeIs_str s z t,λ_ e=>nomatch e⟩
 |int i =>
  obtain ⟨t,rfl⟩:=r
  cases (show T = "int" from ty)
  exact ⟨typeIs_int s i t,λ_ e=>nomatch e⟩
 |ref p =>
  cases r
  rcases ty with ⟨rfl,xs,hq⟩|⟨rfl,o,hk,hc,hd⟩|⟨rfl,hk⟩|⟨rfl,S,n,hk⟩
  ·obtain ⟨its,_,pl,_⟩:=I.list hq
   refine ⟨pl.isList.typeIs,λa e=>?_⟩
   cases e
   obtain ⟨o,n,e,c,hd,_⟩:=pl
   exact ⟨o,e,hd⟩
  ·refine ⟨⟨o,I.kIn p o hk,hc⟩,λa e=>?_⟩
   cases e
   exact ⟨o,I.kIn _ o hk,hd⟩
  ·have z:∃o,s.heap.get? p=some o∧o.ExactDict:=by
    rcases hk with ⟨kvs,hk⟩|⟨kvs,hk⟩
    ·obtain ⟨_,_,_,_,o,_,_,e,ex,_⟩:=I.hok p _ hk
     exact ⟨o,e,ex⟩
    ·obtain ⟨_,_,_,_,o,_,_,e,ex,_⟩:=I.hok p _ hk
     exact ⟨o,e,ex⟩
   obtain ⟨o,e,ex⟩:=z
   refine ⟨⟨o,e,ex.1⟩,λa e2=>?_⟩
   cases e2
   exact ⟨o,e,ex.2.1⟩
  ·obtain ⟨o,_,_,_,e,ex,_⟩:=I.hok p _ hk
   refine ⟨⟨o,e,ex.1⟩,λa e2=>?_⟩
   cases e2
   exact ⟨o,e,ex.2.1⟩
 |_=>exact False.elim ty
def tBM0 (K:Aa)(T:String)(r:V→List V→Hp→VK→Prop)(to:TE):TE:=λσ H Q=>to σ H λx H1=>tyV K T x H1∧r x [] H1 Q
def tBM (K:Aa)(T:String)(r:V→List V→Hp→VK→Prop)(to:TE)(t:TA):TE:=λσ H Q=>to σ H λx H1=>tyV K T x H1∧t σ H1 λxs H2=>r x xs H2 Q
variable {o e:Expr}{es:List Expr}{to:TE}{t:TA}{name:Str}{apos cpos:Pos}{T id:String}{r:V→List V→Hp→VK→Prop}
theorem pe_bm0 (pa:PlainAttrs T)(slot:Slot T name id)(hty:typeOf (.builtin id)=pure (.type "method_descriptor"))(hm:MtR X id r)(ho:PE X o to)
  (hbase:attributeBase o name X.env (eval o X.env)=eval o X.env:=by rfl) (hline:(apos.endLine==cpos.line)=true:=by rfl):PE X (.Call (.Attribute o name apos) [] [] cpos) (tBM0 X.K T r to):=by
 intro pins s σ H Q I h
 refine wpAny_Call_method0_late hbase hline (thn (ho pins s σ H _ I h) λv s1 ⟨x,H1,I1,r1,ty,q1⟩=>?_)
 obtain ⟨h1,h2⟩:=wxz I1 r1 ty
 exact ⟨T,id,pa,slot,hty,h1,h2,bQ rfl (PySem.evalArgs_none (hm pins s1 σ H1 x [] v [] Q I1 r1 .nil q1))⟩
theorem qy5 (pa:PlainAttrs T)(slot:Slot T name id)(hty:typeOf (.builtin id)=pure (.type "method_descriptor"))(hm:MtR X id r)(ho:PE X o to)(ha:PA X (e::es) t)
  (hbase:attributeBase o name X.env (eval o X.env)=eval o X.env:=by rfl)
  (hfew:((backTo cpos (starEach (e::es) X.env)).all (λx=>!x.1)&&(backToKw cpos (keywordEach [] X.env)).all (λx=>x.1.isSome)
   && decide ((e::es).length+([]:List Keyword).length+(if ([]:List Keyword).isEmpty then 0 else 1)<30))=true:=by rfl)
  (hline:(apos.endLine==cpos.line)=true:=by rfl) (hs:starEach (e::es) X.env=(false,eval e X.env)::starEach es X.env:=by rfl) (hplain:(backTo cpos (starEach es X.env)).any (·.1)=false:=by rfl) :
  PE X (.Call (.Attribute o name apos) (e::es) [] cpos) (tBM X.K T r to t):=by
 intro pins s σ H Q I h
 refine wpAny_Call_method_late hbase hfew hline rfl (thn (ho pins s σ H _ I h) λv s1 ⟨x,H1,I1,r1,ty,q1⟩=>?_)
 obtain ⟨h1,h2⟩:=wxz I1 r1 ty
 refine ⟨T,id,pa,slot,hty,h1,h2,?_⟩
 have hA:=ha cpos pins s1 σ H1 _ I1 q1
 rw [hs] at hA ⊢
 refine bQ (by show (false||(backTo cpos (starEach es X.env)).any (·.1))=false;rw [hplain] <;> rfl) (cI ?_)
 exact thn hA λus s2 ⟨vs,H2,I2,r2,q2⟩=>hm pins s2 σ H2 x vs v us Q I2 r1 r2 q2
end
def MtM (X:Cx)(id:String)(r:V→List V→Hp→VK→Prop):Prop :=
 ∀(pins:List (Aj×Obj)) (s:Ab) (σ:St) (H:Hp) (x:V) (xs:List V) (v:Ag) (us:List Ag) (Q:VK),Inv X pins σ H s→RelV x v→Vals xs us→r x xs H Q →
  wpAny (model X.prog X.w) X.A (call (.builtin id) (v::us)) (EP X pins σ Q) X.xe s
theorem Vals.one:∀ {x:V} {us:List Ag},Vals [x] us→∃u,us=[u]∧RelV x u
 |_,_,.cons r .nil=>⟨_,rfl,r⟩
theorem Vals.zero:∀ {us:List Ag},Vals [] us→us=[]
 |_,.nil=>rfl
theorem Vals.dropLast {xs:List V}{us:List Ag}(h:Vals xs us):Vals xs.dropLast us.dropLast:=by
 induction h with
 |nil=>exact .nil
 |cons r t ih =>
  cases t with
  |nil=>exact .nil
  |cons q t'=>exact .cons r ih
theorem qk9 {α:Type}(l:List α):l.eraseIdx (l.length-1)=l.dropLast:=by
 induction l with
 |nil=>rfl
 |cons a r ih =>
  cases r with
  |nil=>rfl
  |cons b r =>
   have e:(a::b::r).length-1=((b::r).length-1)+1:=by
    have h1:(a::b::r).length=r.length+2:=rfl
    have h2:(b::r).length=r.length+1:=rfl
    lia
   rw [e,List.eraseIdx_cons_succ,ih]
   all_goals rfl
section
variable {X:Cx}{pins:List (Aj×Obj)}{σ:St}{H:Hp}{s:Ab}{l b:Aj}{xs ys zs:List V}
theorem Inv.lset {its its':List Ag}{n:Nat}{f:Array Ag→Array Ag}{t':Nat}(I:Inv X pins σ H s)(hH:H l=some (.lst xs))
  (e:s.heap.get? l=some { cls:=.type "list",data:=.seq its.toArray n }) (hf:f its.toArray=its'.toArray) (hv:Vals ys its') (hz:ys.length≤sizeLine) :
  Inv X pins σ (upd H l (.lst ys)) { s with heap:=s.heap.update l (Obj.mapSeq f),toks:=t' }:=by
 have q:=PySem.IsL.update e f
 rw [hf] at q
 refine I.write (x:=l) (e:=l) (by rw [hH];exact trivial) (.inl rfl) (λb' u hb hu=>(Heap.get?_update_other s.heap (Obj.mapSeq f) (aW hb)).trans hu) ⟨_,q⟩ ?_
 exact ⟨hz,its',_,hv,q⟩
theorem Inv.lnew {its:List Ag}{t':Nat}(I:Inv X pins σ H s)(hv:Vals ys its)(hz:ys.length≤sizeLine) :
  Inv X pins σ (upd H s.heap.objs.size (.lst ys)) { s with heap:=s.heap.push { cls:=.type "list",data:=.seq its.toArray },toks:=t' } :=
 I.laid (λ_ _ q=>ae _ q) (af _) ⟨hz,its,0,hv,au _ rfl⟩
theorem Inv.fresh (I:Inv X pins σ H s):H s.heap.objs.size=none:=I.hok.fresh (af _)
theorem Inv.lstM (I:Inv X pins σ H s)(hH:H l=some (.lst xs)):xs.length≤sizeLine∧∃(its:List Ag) (n:Nat),Vals xs its∧xs.length=its.length∧s.heap.get? l=some { cls:=.type "list",data:=.seq its.toArray n }:=by
 obtain ⟨z,its,n,r,e⟩:=I.hok l _ hH
 exact ⟨z,its,n,r,r.length,e⟩
end
section
variable {X:Cx}
def wku:V→List V→Hp→VK→Prop:=λx vs H Q=>∃l xs y,x=.ref l∧vs=[y]∧H l=some (.lst xs)∧xs.length<sizeLine∧Q .non (upd H l (.lst (xs++[y])))
theorem jn:MtM X "list.append" wku:=by
 intro pins s σ H x vs v us Q I rx rv h
 obtain ⟨l,xs,y,rfl,rfl,hH,hz,q⟩:=h
 cases rx
 obtain ⟨u,rfl,ru⟩:=rv.one
 obtain ⟨z,its,n,r,hl,e⟩:=I.lstM hH
 refine call_meets F.slot_list_append ⟨_,e,rfl⟩ F.entry_list_append (F.args_list_append_2 _ _) (PySem.list_append l its.toArray n u (by rw [aI];lia)) ⟨e,?_⟩
 refine ⟨.non,_,I.lset (its':=its++[u]) hH e (by simp) (r.append (.cons ru .nil)) ?_,rfl,q⟩
 rw [aG,List.length_singleton]
 lia
def rPop:V→List V→Hp→VK→Prop:=λx vs H Q=>∃l xs y,x=.ref l∧vs=[]∧H l=some (.lst xs)∧xs[xs.length-1]?=some y∧Q y (upd H l (.lst xs.dropLast))
theorem mt_pop:MtM X "list.pop" rPop:=by
 intro pins s σ H x vs v us Q I rx rv h
 obtain ⟨l,xs,y,rfl,rfl,hH,hy,q⟩:=h
 cases rx
 have hus:=rv.zero
 subst hus
 obtain ⟨z,its,n,r,hl,e⟩:=I.lstM hH
 obtain ⟨u,hu,ru⟩:=r.get hy
 have hy':its.toArray[its.toArray.size-1]?=some u:=by
  show its.toArray[its.length-1]?=some u
  rw [←bW,←hl]
  exact hu
 refine call_meets F.slot_list_pop ⟨_,e,rfl⟩ F.entry_list_pop (F.args_list_pop_1 _) (MeetsSeq.list_pop_last l its.toArray n u hy' (by rw [aI];lia)) ⟨e,?_⟩
 refine ⟨y,_,I.lset (its':=its.dropLast) hH e ?_ r.dropLast ?_,ru,q⟩
 ·show its.toArray.eraseIdxIfInBounds (its.toArray.size-1)=its.dropLast.toArray
  rw [aI,List.eraseIdxIfInBounds_toArray,qk9]
 ·rw [List.length_dropLast]
  lia
def rCat:R2:=λx y H Q=>∃l b xs zs,x=.ref l∧y=.ref b∧H l=some (.lst xs)∧H b=some (.lst zs)∧xs.length+zs.length≤sizeLine∧∀p,H p=none→Q (.ref p) (upd H p (.lst (xs++zs)))
theorem Y1:OpR X (binaryOp .Add) rCat:=by
 intro pins s σ H x y v u Q I rx ry h
 obtain ⟨l,b,xs,zs,rfl,rfl,hH,hB,hz,q⟩:=h
 cases rx
 cases ry
 obtain ⟨z,its,n,r,hl,e⟩:=I.lstM hH
 obtain ⟨z2,its2,n2,r2,hl2,e2⟩:=I.lstM hB
 refine PySem.P.add_list e e2 ?_ (by rw [aI,aI];lia)
 have ea:its.toArray++its2.toArray=(its++its2).toArray:=by simp
 rw [ea]
 exact ⟨.ref _,_,I.lnew (t':=s.toks) (r.append r2) (by rw [aG];lia),rfl,q _ I.fresh⟩
end
section
variable {prog:Ac}{w:Ah}{A:Ae}{E:Ag→Ab→Prop}{s:Ab}
end
section
variable {X:Cx}
end
end L2
namespace Att
open PySem PySem.W PySem.Calls PyProof.Rows
theorem Zm {P:Params}{h:Heap}:∀(ns:List Int) (vs:List Ag),WellAll P h vs (ns.map WData.int)→IntsAre vs ns:=by
 intro ns
 induction ns with
 |nil =>
  intro vs w
  rw [dn] at w
  cases w
  exact .nil
 |cons n ns ih =>
  intro vs w
  rw [aZ] at w
  cases w with
  |cons a b =>
   cases a
   exact .cons _ _ (ih _ b)
theorem qu2 {l:OpenLaw}{n:Nat}(hn:l.most=some n){P:Params}{h:Heap}{args:List WData}{vals:List Ag}
  (hpre:l.row.toRowW.claim.pre args=true) (hwl:WellAll P h vals args) :
  ∃a vs ns,vals=[Value.ref a]∧args=[WData.list (ns.map WData.int)]∧h.get? a=some { cls:=.type "list",data:=.seq vs.toArray }∧IntsAre vs ns∧ns.length≤n:=by
 have hsh:WShape.hasAll [] args [.list .int]=true:=(pre_splitW hpre).1
 have hc:l.pre.holds [] { args:=args }=true:=(pre_splitW hpre).2
 obtain ⟨d,r,rfl,h1,h2⟩:=hasAllW_cons hsh
 obtain rfl:=hasAllW_nil h2
 obtain ⟨xs,rfl,h3⟩:=hasW_list h1
 obtain ⟨ns,rfl⟩:=items_int h3
 have hlen:ns.length≤n:=by
  unfold OpenLaw.pre at hc
  have h4:(WTm.not (.lt (.lit (.int (n:Int))) (.len (.arg 0)))).holds [] { args:=[.list (ns.map .int)] }=true:=by
   have h4:=(holds_andW hc).1
   rw [hn] at h4
   exact h4
  have h5:=condW_of h4 (w_not (w_lt w_lit (w_len_list (w_arg rfl))))
  rw [ac] at h5
  refine Nat.le_of_not_lt λq=>?_
  have q':(n:Int)<((ns.length:Nat):Int):=by lia
  first
   |(rw [bD q'] at h5;exact absurd h5 (by decide))
   |(simp at h5;lia)
 cases hwl with
 |cons w1 w2 =>
  cases w2
  cases w1 with
  |list ho hall=>exact ⟨_,_,ns,rfl,rfl,ho,Zm ns _ hall,hlen⟩
theorem qum (l:OpenLaw)(args:List WData):l.row.toRowW.claim.post args (.bool true) args=true :=
 postW_of (r:=l.row.toRowW) (X:=(true==true))
  (show WShape.has [] (.bool true) .bool=true by first | rfl | decide | simp [WShape.has,WShape.arms,WShape.armsAll])
  (show (WTm.eq .res (.lit (.bool true))).value [] { args:=args,res:=some (.bool true),after:=args }=some (.bool (true==true)) from w_eq_bool (w_res rfl) w_lit) rfl
theorem attach_call {l:OpenLaw}{n:Nat}{q:Ac}{loose:List Str}{XP:(Str→Option Ag)→Heap→Prop}{YP:Ah→Heap→Prop}{d:DefRec}
  (hn:l.most=some n) (hdf:d.params.defaults=[])
  (call:∀(w:Ah) (s₀ s₁:Ab) (mg mb:Str→Option Ag) (fa:Aj) (o:Obj) (pm cd doc:Ag) (a:Aj) (vs:List Ag) (ns:List Int),
   Ground q loose [] XP w s₀ mg mb s₁.heap→YP w s₁.heap →
   s₁.heap.get? fa=some o→o.data=.func (docDef d.name d.params d.body d.scope pm cd doc)→s₁.heap.CodeRec cd d.name→mg d.name=some (.ref fa) →
   s₁.heap.get? a=some { cls:=.type "list",data:=.seq vs.toArray }→IntsAre vs ns→ns.length≤n→s₁.gens=#[] →
   codeAny (model l.prog w) callerA (.call (.ref fa) ⟨[.ref a],[]⟩) (λr s'=>r=.ok (.ret (.bool true))∧OldK s₁.heap s'.heap∧s'.os=s₁.os∧AllBare s'.gens) s₁) :
  WalkO q loose XP YP l.row.toRowW d [] (λf vs=>PySem.call f vs):=by
 intro w s₀ s₁ mg mb G Y fa o pm cd doc dV kV ho hd hcd hD hmg hg args vals as hpre hlay hrd hwl hlo
 obtain rfl:dV=.none:=Dflts.none hD hdf
 obtain rfl:kV=.none:=Dflts.noKw hD
 obtain ⟨a,vs,ns,rfl,rfl,hobj,hints,hlen⟩:=qu2 hn hpre hwl
 refine enter_call (d6 (call w s₀ s₁ mg mb fa o pm cd doc a vs ns G Y ho (fd_plain hd) hcd hmg hobj hints hlen hg) λr s' hq=>?_)
 obtain ⟨rfl,h2,h3,h4⟩:=hq
 exact ⟨.inl ⟨.bool true,.bool true,[],rfl,λ_=>rfl,.bool true,qum l _,λ_=>⟨List.Pairwise.nil,λ_ hm=>(nomatch hm)⟩⟩,h2,h3,h4⟩
section
variable {prog:Ac}{w:Ah}{A:Ae}{E:Ag→Ab→Prop}{s:Ab}{K:Frag}
end
end Att
namespace L2
open PySem PySem.Spec PyProof.Rows
theorem qwd:∀ {vs:List Ag} {ns:List Int},IntsAre vs ns→Vals (ns.map V.int) vs
 |_,_,.nil=>.nil
 |_,_,.cons n t h=>.cons ⟨t,rfl⟩ (qwd h)
def Only (H:Hp):Prop:=∀b,H b=none∨∃o xs,H b=some (.frz o (.lst xs))
theorem wz1 {P:Ac}{w:Ah}{K:Aa}{mg mb:Str→Option Ag}{CX:CXT}{k:Nat}{fa a:Aj}{fd:Ad}{x:Str}{sp:Sp}{s₁:Ab}{vs:List Ag}{ns:List Int}
  (KX:K.In s₁.heap) (hns:s₁.heap.Ns mainGlobals mg) (hb:s₁.heap.Ns builtinsNs mb) (hbb:∀x:Str,x ≠ "__name__" → mb x=bootBuiltins x) (hlim:s₁.heap.NoLimit) (hg:s₁.gens=#[])
  (ha:s₁.heap.get? a=some { cls:=.type "list",data:=.seq vs.toArray }) (hi:IntsAre vs ns) (hl:ns.length≤sizeLine) (hr:Room k callerA)
  (F:∀base:Heap,K.In base→base.Ns mainGlobals mg→FnOk P w K mg base CX k fa fd [x] sp) (hbind:∀(s:Ab) (u:Ag),BindsTo s fd ⟨[u],[]⟩ [(x,u)])
  (hsp:∀H:Hp,Only H→SqL K H a (ns.map V.int)→sp [.ref a] H (λv _=>v=.bl true) λ_ _ _=>False)
  (hCX:∀H e s',CX [] H s₁ (λ_ _ _=>False) e s'→False) :
  codeAny (model P w) callerA (.call (.ref fa) ⟨[.ref a],[]⟩) (λr s'=>r=.ok (.ret (.bool true))∧OldK s₁.heap s'.heap∧s'.os=s₁.os∧AllBare s'.gens) s₁:=by
 have rv:=qwd hi
 have lenV:=hi.length
 have core:∀H:Hp,Only H→SqL K H a (ns.map V.int)→HOk P w H s₁.heap→(∀b,H b≠none→b=a)→(H a≠none→K.lookup a=none) →
   codeAny (model P w) callerA (.call (.ref fa) ⟨[.ref a],[]⟩) (λr s'=>r=.ok (.ret (.bool true))∧OldK s₁.heap s'.heap∧s'.os=s₁.os∧AllBare s'.gens) s₁:=by
  intro H hO hS hok hA hK
  have base_of:∀ {b:Aj} {o:Obj},s₁.heap.get? b=some o→H b=none→(qxc s₁.heap H).get? b=some o:=λe n=>wvq e n
  have noA:∀ {b:Aj} {o:Obj} {es:Array DictEntry} {ep:Nat},s₁.heap.get? b=some o→o.data=.dict es ep→H b=none:=λ{b o es ep} e d=>by
   cases q:H b with
   |none=>rfl
   |some u =>
    have e':b=a:=hA b (by rw [q];simp)
    subst e'
    rw [ha] at e;cases e
    have d':Data.seq vs.toArray _=Data.dict es ep:=d
    cases d'
  have nsK:∀ {b:Aj} {m:Str→Option Ag},s₁.heap.Ns b m→(qxc s₁.heap H).Ns b m:=λ{b m} ⟨o,es,ep,e,d,r⟩=>⟨o,es,ep,base_of e (noA e d),d,r⟩
  have hKb:K.In (qxc s₁.heap H):=λb o e=>base_of (KX b o e) (by
   cases q:H b with
   |none=>rfl
   |some u =>
    have e':b=a:=hA b (by rw [q];simp)
    subst e'
    rw [hK (by rw [q];simp)] at e;cases e)
  have hM:Mod K mg (qxc s₁.heap H):=⟨hKb,nsK hns,⟨mb,nsK hb,hbb⟩,let ⟨mc,h1,h2⟩:=hlim;⟨mc,nsK h1,h2⟩⟩
  have e0:Env0 P w K mg (qxc s₁.heap H) callerA [] s₁ H:=⟨rfl,hM,λb o e=>wkw e,Nat.le_of_eq (qur _ _),trivial,λb hb=>absurd (show b∈([]:List Aj) from hb) (by simp),hok,.of_eq hg⟩
  refine d6 ((F _ hKb (nsK hns)).run callerA [] s₁ H ⟨[.ref a],[]⟩ [.ref a] [.ref a] _ _ hr e0 (hbind s₁ (.ref a)) (.cons rfl .nil) (hsp H hO hS)) λr s' h=>?_
  cases r with
  |error e=>exact (hCX H e s' h).elim
  |ok fl =>
   cases fl with
   |next=>exact False.elim h
   |brk=>exact False.elim h
   |cont=>exact False.elim h
   |ret u =>
    obtain ⟨v,H',os,bare,un,hok',r',q⟩:=h
    have q':v=.bl true:=q
    subst q'
    obtain rfl:u=Value.bool true:=r'
    refine ⟨rfl,OldK.of_keep λb o e=>?_,os,bare⟩
    cases q:H b with
    |none=>exact un.keep b o e q (by intro z;exact absurd (show b∈([]:List Aj) from z) (by simp)) (by simp)
    |some u =>
     rcases hO b with z|⟨ob,xs,z⟩
     ·rw [q] at z;cases z
     ·have z2:=un.frzs b ob _ z
      obtain ⟨e1,_⟩:=hok b _ z
      obtain ⟨e2,_⟩:=hok' b _ z2
      rw [e] at e1;cases e1
      exact e2
 cases hk:K.lookup a with
 |some o =>
  have e:=KX a o hk
  rw [ha] at e
  cases e
  refine core (λ_=>none) (λ_=>.inl rfl) (.inr ⟨_,vs.toArray,_,hk,rfl,rfl,rfl,by rw [aI,lenV];exact hl,by simpa using rv⟩) (λb u z=>by have z':(none:Option HO)=some u:=z;cases z') (λb z=>absurd rfl z) λz=>absurd rfl z
 |none =>
  refine core (λb=>if b=a then some (.frz { cls:=.type "list",data:=.seq vs.toArray } (.lst (ns.map V.int))) else none) (λb=>?_) (.inl (.inr ⟨{ cls:=.type "list",data:=.seq vs.toArray },ak rfl⟩)) (λb u z=>?_) (λb z=>?_) λ_=>hk
  ·by_cases hb:b=a
   ·exact .inr ⟨_,_,ak hb⟩
   ·exact .inl (ag hb)
  ·by_cases hb:b=a
   ·have z':=(ak hb).symm.trans z
    cases z'
    subst hb
    exact ⟨ha,by rw [ac];exact hl,vs,_,rv,ha⟩
   ·have z':=(ag hb).symm.trans z
    cases z'
  ·by_cases hb:b=a
   ·exact hb
   ·exact absurd (ag hb) z
theorem wvs {l:PySem.W.OpenLaw}{n k:Nat}{q:Ac}{loose:List Str}{XP:(Str→Option Ag)→Heap→Prop}{YP:Ah→Heap→Prop}{d:DefRec}{K:Params→Aa}{CX:Ah→CXT}{sp:Ah→Sp}{x:Str}
  (hn:l.most=some n) (hn2:n≤sizeLine) (hdf:d.params.defaults=[]) (hr:Room k callerA)
  (hY:∀(w:Ah) (h:Heap),YP w h→(K w.params).In h)
  (F:∀(w:Ah) (mg:Str→Option Ag) (fa:Aj) (h:Heap),(K w.params).In h→h.Ns mainGlobals mg→mg d.name=some (.ref fa) →
   ∃fd:Ad,(∀(s:Ab) (u:Ag),BindsTo s fd ⟨[u],[]⟩ [(x,u)]) ∧
    ∀base:Heap,(K w.params).In base→base.Ns mainGlobals mg→FnOk l.prog w (K w.params) mg base (CX w) k fa fd [x] (sp w))
  (hsp:∀(w:Ah) (H:Hp) (a:Aj) (ns:List Int),ns.length≤n→Only H→SqL (K w.params) H a (ns.map V.int)→sp w [.ref a] H (λv _=>v=.bl true) λ_ _ _=>False)
  (hCX:∀(w:Ah) (H:Hp) (s:Ab) (e:Ag) (s':Ab),CX w [] H s (λ_ _ _=>False) e s'→False) :
  PySem.W.WalkO q loose XP YP l.row.toRowW d [] (λf vs=>PySem.call f vs):=by
 refine Att.attach_call hn hdf λw s₀ s₁ mg mb fa o pm cd doc a vs ns G Y ho hd hcd hmg hobj hints hlen hg=>?_
 have KX:=hY w _ Y
 obtain ⟨fd,hb,hF⟩:=F w mg fa _ KX G.T.g hmg
 exact wz1 KX G.T.g G.T.b G.T.builtins G.T.nolimit hg hobj hints (bH hlen hn2) hr hF hb (λH hO hS=>hsp w H a ns hlen hO hS) λH e s'=>hCX w H s₁ e s'
def zd (s:Stmt)(j:Nat):Stmt:=match s with
 |.ClassDef _ _ _ body _ _ _ _ _ _ _=>body.getD j (.Pass ⟨0,0,0,0⟩)
 |_=>.Pass ⟨0,0,0,0⟩
def km (s:Stmt):Arguments:=match s with
 |.FunctionDef _ a _ _ _ _ _ _ _ _=>a
 |_=>{ posonlyargs:=[],args:=[],vararg:=none,kwonlyargs:=[],kw_defaults:=[],kwarg:=none,defaults:=[] }
def wf (s:Stmt):List Stmt:=match s with
 |.FunctionDef _ _ b _ _ _ _ _ _ _=>b
 |_=>[]
def wn (s:Stmt):Scope:=match s with
 |.FunctionDef _ _ _ _ _ _ sc _ _ _=>sc
 |_=>{ kind:=.function,names:=[],isGenerator:=false,isCoroutine:=false }
abbrev E0:XK:=λ_ _ _=>False
structure Fun (K:Aa)(x qual:Str)(st:Stmt)(f:Aj)(fd:Ad):Prop where
 ex:∃(oc:Ag) (od:Option Aj) (kV doc pm:Ag) (an:Option Aj) (cdv ct:Ag) (osl:Array (Option Ag)),
  fd=PySem.W.fnOf x qual (km st) (wf st) (wn st) .none kV doc pm an cdv ct∧K.lookup f=some ⟨oc,od,.func fd,osl⟩∧PySem.W.codeIn K cdv qual=true
 kp:PySem.W.keepIn K (.ref f)=true
section
variable {P:Ac}{w:Ah}{K:Aa}{mg:Str→Option Ag}{base:Heap}
theorem Fun.binds {x qual:Str}{st:Stmt}{f:Aj}{fd:Ad}{ps:List Str}(F:Fun K x qual st f fd)
  (h:∀(kV doc pm:Ag) (an:Option Aj) (cdv ct:Ag) (us:List Ag),us.length=ps.length→bindArgs (PySem.W.fnOf x qual (km st) (wf st) (wn st) .none kV doc pm an cdv ct) ⟨us,[]⟩=pure (ps.zip us)):Binds K fd ps []:=by
 obtain ⟨oc,od,kV,doc,pm,an,cdv,ct,osl,rfl,lk,hcd⟩:=F.ex
 exact .all (h kV doc pm an cdv ct)
theorem wws {x qual:Str}{st:Stmt}{f:Aj}{oc:Ag}{od an:Option Aj}{osl:Array (Option Ag)}{kV doc pm cdv ct:Ag}(l:K.lookup f=some ⟨oc,od,.func (PySem.W.fnOf x qual (km st) (wf st) (wn st) .none kV doc pm an cdv ct),osl⟩)
  (c:PySem.W.codeIn K cdv qual=true) (k:PySem.W.keepIn K (.ref f)=true):Fun K x qual st f (PySem.W.fnOf x qual (km st) (wf st) (wn st) .none kV doc pm an cdv ct):=⟨⟨oc,od,kV,doc,pm,an,cdv,ct,osl,rfl,l,c⟩,k⟩
end
theorem jq {A:Ae}{k:Nat}(hr:Room k A):A.units+1<cLine:=cZ (Nat.add_le_add_left (by decide:1≤64) _) hr.units
theorem wqj {n:Nat}(h:n≤1000):n<sizeLine:=cZ h (by decide)
section
variable {X:Cx}
theorem pv (i:Nat){x:Str}{pos:Pos}(hN:X.N[i]?=some x:=by rfl)(hv:Vis X.env.scope x:=by first | exact Or.inl rfl | exact Or.inr (Or.inl rfl) | exact Or.inr (Or.inr rfl))(hd:(x==("__debug__" : Str))=false:=by decide)
  (hcd:(x==("__classdict__" : Str))=false:=by decide):PE X (.Name x pos) (Q3 i):=pe_var hN hv hd hcd
end
theorem ju {A B:Prop}(h:B):if false=true then A else B:=by
 rw [ag aA]
 exact h
theorem ym {A B:Prop}(h:A):if true=true then A else B:=by
 rw [ak rfl]
 exact h
def Same (H H':Hp):Prop:=∀b o,H b=some o→H' b=some o
theorem Same.refl (H:Hp):Same H H:=λ_ _ h=>h
theorem Same.trans {H H1 H2:Hp}(a:Same H H1)(b:Same H1 H2):Same H H2:=λc o h=>b c o (a c o h)
theorem Same.seq {K:Aa}{H H':Hp}{a:Aj}{xs:List V}(e:Same H H')(h:SqL K H a xs):SqL K H' a xs:=by
 rcases h with (h|⟨o,h⟩)|h
 ·exact .inl (.inl (e _ _ h))
 ·exact .inl (.inr ⟨o,e _ _ h⟩)
 ·exact .inr h
set_option maxHeartbeats 4000000
theorem nin {b:Aj}:b∉([]:List Aj):=λz=>nomatch z
theorem wk7 {K:Aa}{h:Heap}{C:Aj}{bmB:List Ag}{newId:String}(X:K.In h)(q:PySem.W.excIn K C bmB newId=true) :
  ∃tl N a1 a2 a3 a4 a5 a6 a7 a8 a9 b0 b1 b2 b3 b5 mN,h.get? C=some (excClassObj a1 a2 C N a3 tl a4 a5 a6 a7 a8 a9 b0 b1 b2 b3 b5 newId) ∧
   h.Ns N mN∧mN "__init__" = none∧OwnTail h bmB tl:=by
 unfold PySem.W.excIn at q
 split at q
 ·next dd cd sl ho =>
  split at q
  ·next C1 tl x0 x1 x2 x3 nn x5 hm hs =>
   rw [bn,bn,bn,bn,bn] at q
   obtain ⟨⟨⟨⟨⟨p1,p2⟩,p3⟩,p4⟩,p5⟩,p6⟩:=q
   have p1':=eq_of_beq p1
   have p2':=eq_of_beq p2
   have p6':=eq_of_beq p6
   have p3':cd.hasDel=false:=by simpa using p3
   subst p1' p2'
   obtain ⟨f1,f2,f3,f4,f5,f6,f7,f8,f9,f10,f11⟩:=cd
   have hm':f3=Value.ref C1::tl:=hm
   have p3'':f11=false:=p3'
   subst hm' p3''
   have hsl:sl=#[x0,x1,x2,x3,some (.builtin nn),x5]:=by
    cases sl with
    |mk l =>
     have:l=[x0,x1,x2,x3,some (.builtin nn),x5]:=hs
     rw [this]
   subst hsl
   have nsok:=PySem.W.isNs_of_in X p5
   exact ⟨tl,f4,f1,f5,f2,f6,f7,f8,f9,f10,dd,x0,x1,x2,x3,x5,_,X _ _ ho,.of_isNs nsok,PySem.W.nsMap_none_of_in X p5 p6',PySem.W.tail_of_in X p4⟩
  ·exact absurd q (by decide)
 ·exact absurd q (by decide)
def CXE (P:Ac)(w:Ah):CXT:=λouter H s E e s' =>
 ∃(a C:Aj) (a0:Ag) (B:Heap) (H':Hp),e=.ref a∧s'.os=s.os∧AllBare s'.gens∧Un (frs outer) [] H H' s.heap s'.heap∧HOk P w H' B ∧
  Heap.FlyingW B outer a (.ref C) a0 s'.heap∧(∀b o,s.heap.get? b=some o→b∉frs outer→∃o',B.get? b=some o'∧(H b=none→o'=o))∧E (.ref C) none H'
theorem CXE.no {P:Ac}{w:Ah}{outer:List Env}{H:Hp}{s s':Ab}{e:Ag}(h:CXE P w outer H s E0 e s'):False:=by
 obtain ⟨_,_,_,_,_,_,_,_,_,_,_,_,q⟩:=h
 exact q
def jr (X:Cx)(E:St→XK):Prop:=∀(pins:List (Aj×Obj)) (σ:St) (H:Hp) (s:Ab) (e:Ag) (s':Ab),Inv X pins σ H s→CXE X.prog X.w X.stack H s (E σ) e s'→X.xe e s'
theorem qzh {X:Cx}:jr X (λ_=>E0):=λ_ _ _ _ _ _ _ h=>h.no.elim
def wzu (X:Cx)(E:St→XK):Prop:=∀(pins:List (Aj×Obj)) (σ:St) (H:Hp) (s:Ab) (h':Heap) (e C:Aj) (vs:List Ag),Inv X pins σ H s→Heap.MadeExcOf s.heap h' e (.ref C) vs→E σ (.ref C) none H→X.xe (.ref e) { s with heap:=h' }
theorem qvy {env:Env}{L:Aj}{outer:List Env}(h:env.frame=some L):frs (env::outer)=L::frs outer:=by
 unfold frs
 rw [cQ,h]
section
variable {P:Ac}{w:Ah}{K:Aa}{mg:Str→Option Ag}{base:Heap}{N:List Str}{qual:Str}{scope:Scope}{f:Aj}{cdv:Ag}{A:Ae}{outer:List Env}{s0:Ab}{H0:Hp}{E:XK}
theorem qh:jr (Qg (CXE P w) P w K mg base N qual scope f cdv A outer s0 H0 E) (λ_=>E):=by
 intro pins σ H s e s' I hx
 obtain ⟨a,C,a0,B,H',rfl,hos,hba,un,hokB,hfl,old,q⟩:=hx
 have ub:=I.base
 have hL:∀b o,s0.heap.get? b=some o→b≠s0.heap.objs.size:=λb o e z=>aQ _ (z▸al e)
 have hfs:frs (envOfC qual scope s0.heap.objs.size f cdv::outer)=s0.heap.objs.size::frs outer:=qvy rfl
 have hmem:∀b o,s0.heap.get? b=some o→b∉frs outer→b∉frs (envOfC qual scope s0.heap.objs.size f cdv::outer):=λb o e n=>by
  rw [hfs]
  intro z
  rcases ai.mp z with z|z
  ·exact hL b o e z
  ·exact n z
 have hold:∀b o,s0.heap.get? b=some o→b∉frs outer→∃o',B.get? b=some o'∧(H0 b=none→o'=o):=λb o e n=>by
  obtain ⟨o1,e1⟩:=ub.there b o e nin
  obtain ⟨o2,e2,e3⟩:=old b o1 e1 (hmem b o e n)
  refine ⟨o2,e2,λz=>?_⟩
  have e4:=ub.keep b o e z n nin
  have e5:=ub.free b o e z nin
  rw [e1] at e4
  rw [e3 e5]
  exact az e4
 refine wpAny_leaves_onW I.ok.frames rfl hfl λh' hf' hup=>?_
 have toH:∀b,b∈frs outer→∀o,s0.heap.get? b=some o→H0 b=none→∃sl,h'.get? b=some { o with slots:=sl }:=λb hb o e n=>by
  obtain ⟨sl,e1⟩:=ub.slot b o e n hb nin
  obtain ⟨sl2,e2⟩:=un.slot b _ e1 (ub.free b o e n nin) (by show b∈frs (envOfC qual scope s0.heap.objs.size f cdv::outer);rw [hfs];exact .tail _ hb) nin
  obtain ⟨_,o3,e3,nf⟩:=hfl.2.2.1.mem (b:=b) (by show b∈frs (envOfC qual scope s0.heap.objs.size f cdv::outer);rw [hfs];exact .tail _ hb)
  obtain ⟨sl4,e4⟩:=hup b o3 e3 nf
  rw [e2] at e3
  have e5:=az e3
  exact ⟨sl4,by rw [e4,←e5]⟩
 refine ⟨a,C,a0,B,H',rfl,hos.trans I.os,hba,⟨λb o e n nb _=>?_,λb o e n hb _=>toH b hb o e n,λb o e n _=>?_,λb o e _=>?_,λb xs e=>un.tups b xs (ub.tups b xs e),λb o u e=>un.frzs b o u (ub.frzs b o u e),λb ps e=>?_⟩,hokB,hf',hold,q⟩
 ·obtain ⟨o',e1,e2⟩:=hold b o e nb
  rw [e2 n] at e1
  exact hf'.1 b o e1
 ·obtain ⟨o1,e1⟩:=ub.there b o e nin
  exact un.free b o1 e1 (ub.free b o e n nin) nin
 ·by_cases hb:b∈frs outer
  ·obtain ⟨o1,e1⟩:=ub.there b o e nin
   obtain ⟨o2,e2⟩:=un.there b o1 e1 nin
   obtain ⟨_,o3,e3,nf⟩:=hfl.2.2.1.mem (b:=b) (by show b∈frs (envOfC qual scope s0.heap.objs.size f cdv::outer);rw [hfs];exact .tail _ hb)
   obtain ⟨sl4,e4⟩:=hup b o3 e3 nf
   exact ⟨_,e4⟩
  ·obtain ⟨o',e1,_⟩:=hold b o e hb
   exact ⟨o',hf'.1 b o' e1⟩
 ·obtain ⟨m1,e1⟩:=ub.tbls b ps e
  obtain ⟨m2,e2⟩:=un.tbls b _ e1
  exact ⟨m1++m2,by rw [e2,Array.append_assoc]⟩
theorem zg:wzu (Qg (CXE P w) P w K mg base N qual scope f cdv A outer s0 H0 E) (λ_=>E):=by
 intro pins σ H s h' e C vs I hx q
 have ub:=I.base
 have hfs:frs (envOfC qual scope s0.heap.objs.size f cdv::outer)=s0.heap.objs.size::frs outer:=qvy rfl
 have hmem:∀b o,s0.heap.get? b=some o→b∉frs outer→b∉frs (envOfC qual scope s0.heap.objs.size f cdv::outer):=λb o e n=>by
  rw [hfs]
  intro z
  rcases ai.mp z with z|z
  ·exact aQ _ (z▸al e)
  ·exact n z
 have hfree:∀b∈frs (envOfC qual scope s0.heap.objs.size f cdv::outer),H b=none:=I.stkFree
 have hB:∀b o,s.heap.get? b=some o→b∉frs (envOfC qual scope s0.heap.objs.size f cdv::outer)→(PySem.W.hideAll s.heap (frs (envOfC qual scope s0.heap.objs.size f cdv::outer))).get? b=some o:=λb o e n=>PySem.W.hideAll_get _ e n
 have hokB:HOk P w H (PySem.W.hideAll s.heap (frs (envOfC qual scope s0.heap.objs.size f cdv::outer))):=λb u hb=>by
  refine (I.hok b u hb).stay (λc v hc ec=>hB c v ec λhm=>?_) (λ_ z=>z) (λ_ _ z=>z)
  have hn:=hfree c hm
  rcases hc with rfl|hc
  ·rw [hn] at hb;cases hb
  ·rw [hn] at hc;cases hc
 have hold:∀b o,s0.heap.get? b=some o→b∉frs outer→∃o',(PySem.W.hideAll s.heap (frs (envOfC qual scope s0.heap.objs.size f cdv::outer))).get? b=some o'∧(H0 b=none→o'=o):=λb o e n=>by
  obtain ⟨o1,e1⟩:=ub.there b o e nin
  refine ⟨o1,hB b o1 e1 (hmem b o e n),λz=>?_⟩
  have e4:=ub.keep b o e z n nin
  rw [e1] at e4
  exact az e4
 have hst:s.heap.FunFrames base (envOfC qual scope s0.heap.objs.size f cdv::outer):=I.stack
 have hff:=PySem.W.funFrames_hide (as:=frs (envOfC qual scope s0.heap.objs.size f cdv::outer)) hst (λenv he b hb=>eo.mpr ⟨env,he,hb⟩)
 refine wpAny_leaves_madeW (base:=PySem.W.hideAll s.heap (frs (envOfC qual scope s0.heap.objs.size f cdv::outer))) (h:=s.heap) I.ok.frames rfl (λb o e=>PySem.W.of_hideAll _ e) hff hx λh'' t hf' _ _ hup=>?_
 have toF:∀b,b∈frs outer→∃o,s.heap.get? b=some o∧∃sl,h''.get? b=some { o with slots:=sl }:=λb hb=>by
  obtain ⟨_,o3,e3,nf⟩:=hst.mem (b:=b) (by show b∈frs (envOfC qual scope s0.heap.objs.size f cdv::outer);rw [hfs];exact .tail _ hb)
  exact ⟨o3,e3,hup b o3 (hx.keeps b o3 e3) nf⟩
 refine ⟨e,C,.ref t,_,H,rfl,I.os,I.bare,⟨λb o e1 n nb _=>?_,λb o e1 n hb _=>?_,λb o e1 n _=>ub.free b o e1 n nin,λb o e1 _=>?_,ub.tups,ub.frzs,ub.tbls⟩,hokB,hf',hold,q⟩
 ·obtain ⟨o',e2,e3⟩:=hold b o e1 nb
  rw [e3 n] at e2
  exact hf'.1 b o e2
 ·obtain ⟨sl,e2⟩:=ub.slot b o e1 n hb nin
  obtain ⟨o3,e3,sl3,e4⟩:=toF b hb
  rw [e2] at e3
  have e5:=az e3
  exact ⟨sl3,by rw [e4,←e5]⟩
 ·by_cases hb:b∈frs outer
  ·obtain ⟨o3,e3,sl3,e4⟩:=toF b hb
   exact ⟨_,e4⟩
  ·obtain ⟨o',e2,_⟩:=hold b o e1 hb
   exact ⟨o',hf'.1 b o' e2⟩
end
section
variable {P:Ac}{w:Ah}{K:Aa}{mg:Str→Option Ag}{base:Heap}
end
def Jy (sp:Sp)(E:St→XK)(t:TA):TE:=λσ H Q=>t σ H λvs H1=>sp vs H1 Q (E σ)
def qqx (C:Aj)(m:Str)(sp:Sp)(E:St→XK)(ta:TE)(t:TA):TE:=λσ H Q=>ta σ H λx H1=>∃a dx fs,x=.ref a∧H1 a=some (.ins C dx fs)∧fs.lookup m=none ∧
 t σ H1 λvs H2=>sp (x::vs) H2 Q (E σ)
def qj4 (C:Aj)(sp:Sp)(E:St→XK)(t:TA):TE:=λσ H Q=>t σ H λvs H1=>∀x dx,H1 x=none→H1 dx=none→dx≠x →
 sp (.ref x::vs) (upd (upd H1 dx (.own x)) x (.ins C dx [])) (λv H2=>v=.non∧Q (.ref x) H2) (E σ)
section
variable {X:Cx}{k:Nat}{f C:Aj}{fd:Ad}{ps:List Str}{sp:Sp}{E:St→XK}{x m:Str}{p pos apos:Pos}{e o:Expr}{es:List Expr}{ta:TE}{t:TA}
theorem qx3 {pins:List (Aj×Obj)}{σ:St}{H:Hp}{s:Ab}{Q:VK}{us:List Ag}{vs:List V}(F:FnOk X.prog X.w X.K X.mg X.base (CXE X.prog X.w) k f fd ps sp)(hr:Room k X.A)(hb:Binds X.K fd ps [])(hx:jr X E)
  (I:Inv X pins σ H s) (r:Vals vs us) (h:sp vs H Q (E σ)):wpAny (model X.prog X.w) X.A (call (.ref f) us) (EP X pins σ Q) X.xe s:=by
 have hl:(us++[]).length=ps.length:=by rw [ca,←r.length];exact F.len _ _ _ _ h
 have hb':=hb s us I.kIn hl
 rw [ca] at hb'
 refine wpAny_call (d6 (F.run X.A X.stack s H ⟨us,[]⟩ us vs Q (E σ) hr I.env0 hb' r h) λr s' hq=>?_)
 cases r with
 |error e=>exact hx pins σ H s e s' I hq
 |ok fl =>
  cases fl with
  |ret u=>exact I.after hq
  |next=>exact False.elim hq
  |brk=>exact False.elim hq
  |cont=>exact False.elim hq
theorem wzr (F:FnOk X.prog X.w X.K X.mg X.base (CXE X.prog X.w) k f fd ps sp)(hr:Room k X.A)(hg:Gl X x)(hm:X.mg x=some (.ref f))(hk:PySem.W.keepIn X.K (.ref f)=true)(hb:Binds X.K fd ps [])(hx:jr X E)
  (ha:PA X (e::es) t) (hdb:(x==("__debug__" : Str))=false:=by decide) (he:starEach (e::es) X.env=(false,eval e X.env)::starEach es X.env:=by rfl) (hpl:(backTo pos (starEach es X.env)).any (·.1)=false:=by rfl) :
  PE X (.Call (.Name x p) (e::es) [] pos) (Jy sp E t):=by
 intro pins s σ H Q I h
 refine cw (Q8 I hg hm ?_ hdb)
 refine eA (h₀:=X.base) I.ok.mod.kin hk (thn (ha pos pins s σ H _ I h) λus s1 ⟨vs,H1,I1,r,q⟩=>⟨I1.kIn,?_⟩) he hpl
 exact qx3 F hr hb hx I1 r q
theorem wzd {pl:Sem Bool}(he:PE X o ta)(c:Cls X.K C)(hm:Meth X.K C m f)(F:FnOk X.prog X.w X.K X.mg X.base (CXE X.prog X.w) k f fd ps sp)(hr:Room k X.A)(hb:Binds X.K fd ps [])(hx:jr X E)(ha:PA X (e::es) t)
  (hst:starEach (e::es) X.env=(false,eval e X.env)::starEach es X.env:=by rfl) (hpl:(backTo pos (starEach es X.env)).any (·.1)=false:=by rfl)
  (ht:eval (.Call (.Attribute o m apos) (e::es) [] pos) X.env=(do
   let ov ←eval o X.env
   standAt apos.atName
   let (f,first) ←holding [ov] (getMethod ov m pl)
   callWith pos f first (backTo pos (starEach (e::es) X.env)) (backToKw pos (keywordEach [] X.env))):=by rfl) :
  PE X (.Call (.Attribute o m apos) (e::es) [] pos) (qqx C m sp E ta t):=by
 intro pins s σ H Q I h
 refine PySem.W.methodCall_KW (pl:=pl) (thn (he pins s σ H _ I h) λu s1 ⟨x,H1,I1,rx,a,dx,fs,ex,ea,l,q⟩=>?_) ht
 subst ex
 obtain rfl:u=Value.ref a:=rx
 refine Y9 I1 ea c hm l ?_
 refine eA (first:=[.ref a]) (h₀:=X.base) I.ok.mod.kin hm.kp (thn (ha pos pins s1 σ H1 _ I1 q) λus s2 ⟨vs,H2,I2,r,q2⟩=>⟨I2.kIn,?_⟩) hst hpl
 exact qx3 (us:=.ref a::us) (vs:=.ref a::vs) F hr hb hx I2 (.cons rfl r) q2
theorem wqr {pl:Sem Bool}(he:PE X o ta)(c:Cls X.K C)(hm:Meth X.K C m f)(F:FnOk X.prog X.w X.K X.mg X.base (CXE X.prog X.w) k f fd ps sp)(hr:Room k X.A)(hb:Binds X.K fd ps [])(hx:jr X E)
  (ht:eval (.Call (.Attribute o m apos) [] [] pos) X.env=(do
   let ov ←eval o X.env
   standAt apos.atName
   let (f,first) ←holding [ov] (getMethod ov m pl)
   callWith pos f first (backTo pos (starEach [] X.env)) (backToKw pos (keywordEach [] X.env))):=by rfl) :
  PE X (.Call (.Attribute o m apos) [] [] pos) (qqx C m sp E ta j8):=by
 intro pins s σ H Q I h
 refine PySem.W.methodCall_KW (pl:=pl) (thn (he pins s σ H _ I h) λu s1 ⟨x,H1,I1,rx,a,dx,fs,ex,ea,l,q⟩=>?_) ht
 subst ex
 obtain rfl:u=Value.ref a:=rx
 refine Y9 I1 ea c hm l ?_
 exact PySem.W.callWith_K0 (first:=[.ref a]) I1.kIn hm.kp (qx3 (us:=[.ref a]) (vs:=[.ref a]) F hr hb hx I1 (.cons rfl .nil) q)
theorem qw2 {pins:List (Aj×Obj)}{σ:St}{H:Hp}{s:Ab}{Q:VK}{us:List Ag}{vs:List V}(M:Mk X.K C f)(F:FnOk X.prog X.w X.K X.mg X.base (CXE X.prog X.w) k f fd ps sp)(hr:Room (k+1) X.A)(hb:Binds X.K fd ps [])
  (hx:jr X E) (I:Inv X pins σ H s) (r:Vals vs us)
  (h:∀x dx,H x=none→H dx=none→dx≠x→sp (.ref x::vs) (upd (upd H dx (.own x)) x (.ins C dx [])) (λv H2=>v=.non∧Q (.ref x) H2) (E σ)) :
  wpAny (model X.prog X.w) X.A (call (.ref C) us) (EP X pins σ Q) X.xe s:=by
 have hq:=h (s.heap.objs.size+1) s.heap.objs.size (I.hok.fresh (Nat.le_succ _)) (I.hok.fresh (af _)) (av (Nat.lt_succ_self _))
 have I2:=Inv.made (C:=C) I
 have r2:Vals (V.ref (s.heap.objs.size+1)::vs) (Value.ref (s.heap.objs.size+1)::us):=.cons rfl r
 have hl:((Value.ref (s.heap.objs.size+1)::us)++[]).length=ps.length:=by
  rw [ca,←r2.length]
  exact F.len _ _ _ _ hq
 have hb':=hb _ (Value.ref (s.heap.objs.size+1)::us) I2.kIn hl
 rw [ca] at hb'
 refine wpAny_call (wx9 (f:=f) I.kIn M.makes M.init (dF.mp M.fn) (d6 (F.run _ X.stack _ _ ⟨Value.ref (s.heap.objs.size+1)::us,[]⟩ (Value.ref (s.heap.objs.size+1)::us) _ _ (E σ) (hr.make C us [])
  (I2.env0.make C us []) hb' r2 hq) λr s' hq'=>?_))
 cases r with
 |error e=>exact hx pins σ _ _ e s' I2 hq'
 |ok fl =>
  cases fl with
  |ret u =>
   obtain ⟨v,H',I3,rv,ev,q3⟩:=I2.after hq'
   subst ev
   exact ⟨rv,⟨V.ref (s.heap.objs.size+1),H',I3,rfl,q3⟩⟩
  |next=>exact False.elim hq'
  |brk=>exact False.elim hq'
  |cont=>exact False.elim hq'
theorem ww1 (M:Mk X.K C f)(F:FnOk X.prog X.w X.K X.mg X.base (CXE X.prog X.w) k f fd ps sp)(hr:Room (k+1) X.A)(hg:Gl X x)(hm:X.mg x=some (.ref C))(hb:Binds X.K fd ps [])(hx:jr X E)
  (ha:PA X (e::es) t) (hdb:(x==("__debug__" : Str))=false:=by decide) (he:starEach (e::es) X.env=(false,eval e X.env)::starEach es X.env:=by rfl) (hpl:(backTo pos (starEach es X.env)).any (·.1)=false:=by rfl) :
  PE X (.Call (.Name x p) (e::es) [] pos) (qj4 C sp E t):=by
 intro pins s σ H Q I h
 refine cw (Q8 I hg hm ?_ hdb)
 refine eA (h₀:=X.base) I.ok.mod.kin M.kp (thn (ha pos pins s σ H _ I h) λus s1 ⟨vs,H1,I1,r,q⟩=>⟨I1.kIn,?_⟩) he hpl
 exact qw2 M F hr hb hx I1 r q
end
structure ExcC (K:Aa)(C:Aj):Prop where
 q:PySem.W.excIn K C [.type "ValueError",.type "Exception",.type "BaseException",.type "object"] "ValueError.__new__" = true
def tRaise (C:Aj)(E:St→XK)(t:TA):TS:=λD σ H=>t σ H λvs H1=>vs.length≤sizeLine∧E σ (.ref C) none H1
section
variable {X:Cx}{C:Aj}{E:St→XK}{x:Str}{np cpos pos:Pos}{e:Expr}{es:List Expr}{t:TA}
theorem vk (hc:X.calm=true)(c:ExcC X.K C)(hR:wzu X E)(hg:Gl X x)(hm:X.mg x=some (.ref C))(ha:PA X (e::es) t)(hdb:(x==("__debug__" : Str))=false:=by decide)
  (he:starEach (e::es) X.env=(false,eval e X.env)::starEach es X.env:=by rfl) (hpl:(backTo cpos (starEach es X.env)).any (·.1)=false:=by rfl) :
  PS X (.Raise (some (.Call (.Name x np) (e::es) [] cpos)) none pos) (tRaise C E t):=by
 intro pins s σ H D I h
 obtain ⟨tl,N,a1,a2,a3,a4,a5,a6,a7,a8,a9,b0,b1,b2,b3,b5,mN,hC,hN,hni,T⟩:=wk7 I.ok.mod.kin c.q
 refine wpAny_Raise_call_subT (C:=C) (nm:=a1) (q:=a2) (N:=N) (bs:=a3) (bm:=tl) (hdct:=a4) (sn:=a5) (sub:=a6) (ab:=a7) (col:=a8) (dd:=a9) (k0:=b0) (k1:=b1) (k2:=b2) (k3:=b3) (k5:=b5)
  eB (mN:=mN) (T.hasType eB.hasBase) (I.ok.hd hc) (by rw [he];show (false||(backTo cpos (starEach es X.env)).any (·.1))=false;rw [hpl];rfl) hni (Q8 I hg hm ⟨rfl,?_⟩ hdb)
 have hw:=ha cpos pins s σ H _ I h
 rw [he] at hw ⊢
 refine cI (aP hw (λus s1 ⟨vs,H1,I1,r,hl,q⟩=>⟨rfl,by rw [←r.length];exact hl,I1.bk _ _ hC,hN.keeps I1.bk,T.keeps I1.bk,λh' e hx=>hR pins σ H1 s1 h' e C us I1 hx q⟩) λ_ _ z=>z)
end
def Sm (n:Nat)(i:Int):Prop:=i.natAbs<2 ^ n
theorem Sm.mono {n m:Nat}{i:Int}(h:Sm n i)(hm:n≤m):Sm m i:=aE h (Nat.pow_le_pow_right (by decide) hm)
theorem Sm.of_le {n:Nat}{i j:Int}(h:Sm n j)(e:i.natAbs≤j.natAbs):Sm n i:=cZ e h
theorem Sm.log {n:Nat}{i:Int}(h:Sm n i)(hn:n≤9000):i.natAbs.log2<9000:=by
 by_cases h0:i.natAbs=0
 ·rw [h0]
  decide
 ·exact aE ((Nat.log2_lt h0).mpr h) hn
theorem Sm.noPl {n:Nat}{i j:Int}(h:Sm n j)(hn:n≤9000):Builtin.divisionGoesByPylong i j=false:=PyProof.noPylong_of_log2 (h.log hn)
section
variable {X:Cx}
theorem x9:OpR X (binaryOp .Mult) (rI IntMulOk λi j=>.int (i*j)):=opI λ_ _ _ _ _ _ _ hc q=>mul_int q hc
theorem vm:OpR X (binaryOp .FloorDiv) (rI (λ_ j=>0<j∧Sm 9000 j) λi j=>.int (i/j)):=opI λi j _ _ _ _ _ hc q =>
 floordiv_int (by lia) (by rw [Int.fdiv_eq_ediv_of_nonneg i (Int.le_of_lt hc.1)];exact q) (.inl (hc.2.noPl (af _)))
theorem Zb:k4 X (.builtin "isinstance") (λxs H Q=>∃x T t b,xs=[x,.ty T]∧TyOf X.K H x t∧PySem.W.kitOne X.K t (.type T)=some b∧Q (.bl b) H):=by
 intro pins s σ H xs us Q I r h
 obtain ⟨x,T,t,b,rfl,ty,e,q⟩:=h
 obtain ⟨u,u',rfl,r1,r2⟩:=wzj r
 cases r2
 exact qu5 I r1 ty e λtk=>⟨.bl b,H,I.tok tk,rfl,q⟩
end
mutual
def RD (K:Aa)(H:Hp):PyData→V→Prop
 |.none,v=>v=.non
 |.bool b,v=>v=.bl b
 |.int i,v=>v=.int i
 |.str x,v=>v=.str x
 |.list ds,v=>∃a xs,v=.ref a∧SqL K H a xs∧RDs K H ds xs
 |.tuple ds,v=>∃a xs,v=.ref a∧SqT K H a xs∧RDs K H ds xs
 |.dict _,_=>False
def RDs (K:Aa)(H:Hp):List PyData→List V→Prop
 |[],xs=>xs=[]
 |d::ds,xs=>∃y ys,xs=y::ys∧RD K H d y∧RDs K H ds ys
end
section
variable {X:Cx}{pins:List (Aj×Obj)}{σ:St}{H:Hp}{s:Ab}
mutual
theorem wxq (I:Inv X pins σ H s):∀(d:PyData) (v:V) (u:Ag),RD X.K H d v→RelV v u→∃as,Reads s.heap u d as
 |.none,v,u,h,r=>by
  rw [RD] at h;subst h
  cases (show u=Value.none from r)
  exact ⟨_,.none⟩
 |.bool b,v,u,h,r=>by
  rw [RD] at h;subst h
  cases (show u=Value.bool b from r)
  exact ⟨_,.bool b⟩
 |.int i,v,u,h,r=>by
  rw [RD] at h;subst h
  obtain ⟨t,rfl⟩:=(show ∃t,u=Value.int i t from r)
  exact ⟨_,.int i t⟩
 |.str x,v,u,h,r=>by
  rw [RD] at h;subst h
  obtain ⟨t,rfl⟩:=(show ∃t,u=Value.str x t from r)
  exact ⟨_,.str x t⟩
 |.list ds,v,u,h,r=>by
  rw [RD] at h
  obtain ⟨a,xs,rfl,hs,hd⟩:=h
  cases (show u=Value.ref a from r)
  obtain ⟨its,rv,⟨o,n,e1,e2,_,e3⟩,_⟩:=I.list hs
  obtain ⟨as,ha⟩:=Wt I ds xs its hd rv
  exact ⟨_,.list e1 e2 e3 (by simpa using ha)⟩
 |.tuple ds,v,u,h,r=>by
  rw [RD] at h
  obtain ⟨a,xs,rfl,hs,hd⟩:=h
  cases (show u=Value.ref a from r)
  obtain ⟨its,rv,⟨o,e1,e2,n,e3⟩,_⟩:=I.tuple hs
  obtain ⟨as,ha⟩:=Wt I ds xs its hd rv
  exact ⟨_,.tuple e1 e2 e3 (by simpa using ha)⟩
 |.dict _,_,_,h,_=>by
  rw [RD] at h
  exact h.elim
theorem Wt (I:Inv X pins σ H s):∀(ds:List PyData) (vs:List V) (us:List Ag),RDs X.K H ds vs→Vals vs us→∃as,ReadsAll s.heap us ds as
 |[],vs,us,h,r=>by
  rw [RDs] at h;subst h
  cases r
  exact ⟨_,.nil⟩
 |d::ds,vs,us,h,r=>by
  rw [RDs] at h
  obtain ⟨y,ys,rfl,h1,h2⟩:=h
  cases r with
  |cons r1 r2 =>
   obtain ⟨as,a1⟩:=wxq I d y _ h1 r1
   obtain ⟨bs,a2⟩:=Wt I ds ys _ h2 r2
   exact ⟨_,.cons a1 a2⟩
end
end
end L2
namespace L2
open PySem PySem.Spec PyProof.Rows
section
variable {P:Ac}{w:Ah}{K:Aa}{mg:Str→Option Ag}{base:Heap}
theorem Fun.okX {x qual:Str}{st:Stmt}{f:Aj}{fd:Ad}{N ps:List Str}{k:Nat}{sp:Sp}(F:Fun K x qual st f fd)(S:FnScope N ps (wn st))(len:∀vs H Q E,sp vs H Q E→vs.length=ps.length)
  (body:∀(cdv:Ag) (A:Ae) (outer:List Env) (s:Ab) (H:Hp) (vs:List V) (Q:VK) (E:XK),Room k (A.deeper (envOfC qual (wn st) s.heap.objs.size f cdv))→sp vs H Q E →
   ∃t,PSs (Qg (CXE P w) P w K mg base N qual (wn st) f cdv A outer s H E) (wf st) t∧t { nx:=λ_ H'=>Q .non H',rt:=Q } (Wv N vs) H):FnOk P w K mg base (CXE P w) (k+1) f fd ps sp:=by
 obtain ⟨oc,od,kV,doc,pm,an,cdv,ct,osl,rfl,lk,hcd⟩:=F.ex
 exact fn_of lk hcd S len λA outer s H vs Q E hr hsp=>body cdv A outer s H vs Q E hr hsp
structure DefIn (K:Aa)(x:Str)(st:Stmt):Prop where
 ex:∃f fd,PySem.W.nsIn K mainGlobals x=some (some (.ref f))∧Fun K x x st f fd
theorem def_mk {x:Str}{st:Stmt}{f:Aj}{oc:Ag}{od an:Option Aj}{osl:Array (Option Ag)}{kV doc pm cdv ct:Ag}(a:PySem.W.nsIn K mainGlobals x=some (some (.ref f)))
  (l:K.lookup f=some ⟨oc,od,.func (PySem.W.fnOf x x (km st) (wf st) (wn st) .none kV doc pm an cdv ct),osl⟩) (c:PySem.W.codeIn K cdv x=true) (k:PySem.W.keepIn K (.ref f)=true):DefIn K x st:=⟨_,_,a,wws l c k⟩
def zy (x:Str)(st:Stmt)(ps:List Str):Prop:=∀(kV doc pm:Ag) (an:Option Aj) (cdv ct:Ag) (us:List Ag),us.length=ps.length→bindArgs (PySem.W.fnOf x x (km st) (wf st) (wn st) .none kV doc pm an cdv ct) ⟨us,[]⟩=pure (ps.zip us)
structure Cal (P:Ac)(w:Ah)(K:Aa)(mg:Str→Option Ag)(base:Heap)(x:Str)(k:Nat)(sp:Sp):Prop where
 ex:∃f fd ps,mg x=some (.ref f)∧FnOk P w K mg base (CXE P w) k f fd ps sp∧PySem.W.keepIn K (.ref f)=true∧Binds K fd ps []
theorem DefIn.cal {x:Str}{st:Stmt}{ps:List Str}{k:Nat}{sp:Sp}{h:Heap}(d:DefIn K x st)(KX:K.In h)(G:h.Ns mainGlobals mg)(b:zy x st ps)(ok:∀f fd,Fun K x x st f fd→FnOk P w K mg base (CXE P w) k f fd ps sp):Cal P w K mg base x k sp:=by
 obtain ⟨f,fd,a,F⟩:=d.ex
 exact ⟨f,fd,ps,aL KX G a,ok f fd F,F.kp,F.binds b⟩
end
section
variable {X:Cx}{x:Str}{k:Nat}{sp:Sp}{E:St→XK}{p pos:Pos}{e:Expr}{es:List Expr}{t:TA}
theorem Yf (c:Cal X.prog X.w X.K X.mg X.base x k sp)(hr:Room k X.A)(hg:Gl X x)(hx:jr X E)
  (ha:PA X (e::es) t) (hdb:(x==("__debug__" : Str))=false:=by decide) (he:starEach (e::es) X.env=(false,eval e X.env)::starEach es X.env:=by rfl) (hpl:(backTo pos (starEach es X.env)).any (·.1)=false:=by rfl) :
  PE X (.Call (.Name x p) (e::es) [] pos) (Jy sp E t):=by
 obtain ⟨f,fd,ps,hm,F,kp,b⟩:=c.ex
 exact wzr F hr hg hm kp b hx ha hdb he hpl
end
def tCut (t u:TS):TS:=λD σ H=>∃R:St→Hp→Prop,t { D with nx:=R } σ H∧∀σ' H',R σ' H'→u D σ' H'
theorem wvm {X:Cx}{st:Stmt}{rest:List Stmt}{t u:TS}(h1:PS X st t)(h2:PSs X rest u):PSs X (st::rest) (tCut t u):=by
 intro pins s σ H D I ⟨R,h,hR⟩
 refine eW (thn (h1 pins s σ H { D with nx:=R } I h) λf s1 q=>?_)
 cases f with
 |next =>
  obtain ⟨σ1,H1,I1,q1⟩:=q
  exact h2 pins s1 σ1 H1 D I1 (hR σ1 H1 q1)
 |brk=>exact q
 |cont=>exact q
 |ret u=>exact q
theorem jv {c A B:Prop}[Decidable c](h1:c→A)(h2:¬ c→B):if decide c=true then A else B:=by
 by_cases h:c
 ·rw [bD h]
  exact ym (h1 h)
 ·rw [bp h]
  exact ju (h2 h)
theorem iteND {c A B:Prop}[Decidable c](h1:¬ c→A)(h2:c→B):if (!decide c)=true then A else B:=by
 by_cases h:c
 ·rw [bD h]
  exact ju (h2 h)
 ·rw [bp h]
  exact ym (h1 h)
theorem deqI {i j:Int}:decide (V.int i=V.int j)=decide (i=j):=by
 by_cases h:i=j
 ·subst h;simp
 ·simp [h]
theorem jk {i j:Int}{A B:Prop}(h1:i=j→A)(h2:i≠j→B):if decide (V.int i=V.int j)=true then A else B:=by
 rw [deqI]
 exact jv h1 h2
theorem wzw {i j:Int}{A B:Prop}(h1:i≠j→A)(h2:i=j→B):if (!decide (V.int i=V.int j))=true then A else B:=by
 rw [deqI]
 exact iteND h1 h2
theorem Same.upd {H:Hp}{p:Aj}{o:HO}(n:H p=none):Same H (upd H p o):=λb u e=>by
 rw [wg (qj e n)]
 exact e
theorem Same.sql {K:Aa}{H H':Hp}{a:Aj}{xs:List V}(h:Same H H')(s:SqL K H a xs):SqL K H' a xs:=h.seq s
theorem SqT.new {K:Aa}{H:Hp}{p:Aj}{xs:List V}:SqT K (upd H p (.tup xs)) p xs:=SqT.of q8
theorem SqL.new {K:Aa}{H:Hp}{p:Aj}{xs:List V}:SqL K (upd H p (.lst xs)) p xs:=SqL.of q8
theorem Qr:bootBuiltins "abs" = some (.builtin "abs"):=by decide +kernel
theorem wx2:bootBuiltins "all" = some (.builtin "all"):=by decide +kernel
theorem Z9 {ns:List Int}{i:Int}(h0:0≤i)(h1:i<ns.length):atI (ns.map V.int) i=some (V.int (ns.getD i.toNat 0)):=by
 have hl:i.toNat<ns.length:=by lia
 have e:(ns.map V.int)[i.toNat]?=some (V.int (ns.getD i.toNat 0)):=by
  rw [aH,ay,ar hl]
  rfl
 have:=xm e
 rwa [dY h0] at this
def qv6 (ns:List Int)(i:Int):Int:=if i<ns.length then ns.getD i.toNat 0 else if (ns.length:Int)=0 then 7*i+3 else ns.getD (i%ns.length).toNat 0+1009*i
def divs (c:Int):Nat→Int
 |0=>c
 |n+1=>divs c n/1000
def qzb (K:Aa):Sp:=λvs H Q _=>∃(a:Aj) (ns:List Int) (i:Int),vs=[.ref a,.int i]∧SqL K H a (ns.map V.int)∧0≤i∧∀r,r=qv6 ns i→Q (.int r) H
def y0 (c:Int):Int:=if c<0 then -c else c
def qzv (c t:Int):Int:=(c%1000003*48271+t*7919+101)%999983
def qky (c t:Int):Int:=(qzv c t*qzv c t+c%1000003*31+t*104729)%1000033
def qz9 (c t:Int):Int:=if 10 ^ 18≤y0 c then (if c<0 then divs (y0 c) t.toNat%1000 else divs (y0 c) t.toNat) else (qky c t*qky c t+qzv c t*17+t*30011)%999979
def qkz (ns:List Int)(i t m:Int):Int:=qz9 (qv6 ns i) t%m
theorem ww0 (ns:List Int)(i t m:Int)(h:0<m):0≤qkz ns i t m:=br _ (by lia)
theorem wz5 (ns:List Int)(i t m:Int)(h:0<m):qkz ns i t m<m:=bi _ h
theorem wwr {c t:Int}(h:10 ^ 18≤y0 c)(n:c<0):qz9 c t=divs (y0 c) t.toNat%1000:=by rw [qz9,ak h,ak n]
theorem qup {c t:Int}(h:10 ^ 18≤y0 c)(n:¬ c<0):qz9 c t=divs (y0 c) t.toNat:=by rw [qz9,ak h,ag n]
theorem wxv {c t:Int}(h:¬ 10 ^ 18≤y0 c):qz9 c t=(qky c t*qky c t+qzv c t*17+t*30011)%999979:=by rw [qz9,ag h]
def uk (K:Aa):Sp:=λvs H Q _=>∃(a:Aj) (ns:List Int) (i t m:Int),vs=[.ref a,.int i,.int t,.int m]∧SqL K H a (ns.map V.int)∧0≤i∧0≤t∧t<1000000∧0<m ∧
 ∀r,r=qkz ns i t m→0≤r→r<m→Q (.int r) H
theorem Sm.small {n:Nat}{i:Int}(h1:-(2 ^ 64)≤i)(h2:i≤2 ^ 64)(hn:65≤n):Sm n i:=by
 refine Sm.mono (n:=65) ?_ hn
 unfold Sm
 lia
def qyh (K:Aa):Sp:=λvs H Q _=>∃(a:Aj) (ns:List Int),vs=[.ref a]∧SqL K H a (ns.map V.int)∧ns.length≤63∧∀H',Q (.bl true) H'
theorem sz1 {x:V}:[x].length≤sizeLine:=by show 1≤sizeLine;decide
theorem sz2 {x y:V}:[x,y].length≤sizeLine:=by show 2≤sizeLine;decide
theorem sz0:([]:List V).length≤sizeLine:=by show 0≤sizeLine;decide
end L2
namespace L2
open PySem
def Zs (x y:Int):Int:=((Nat.gcd x.toNat y.toNat:Nat):Int)
theorem qu6 {x:Int}(h:0≤x):Zs x 0=x:=by
 unfold Zs
 have:(0:Int).toNat=0:=rfl
 rw [this,Nat.gcd_zero_right]
 lia
theorem wqh {x y:Int}(hx:0≤x)(hy:0<y):Zs y (x%y)=Zs x y:=by
 unfold Zs
 have e:(x%y).toNat=x.toNat%y.toNat:=by
  have h1:x=(x.toNat:Int):=by lia
  have h2:y=(y.toNat:Int):=by lia
  have h3:x%y=((x.toNat%y.toNat:Nat):Int):=by
   conv=>lhs;rw [h1,h2]
   exact (Int.natCast_emod _ _).symm
  rw [h3]
  exact cF _
 rw [e,Nat.gcd_comm y.toNat,←Nat.gcd_rec,Nat.gcd_comm]
theorem quu (t:Int):y0 t=(t.natAbs:Int):=by
 unfold y0
 split <;> lia
theorem qy8 (t:Int):0≤y0 t:=by
 rw [quu]
 lia
theorem k8 (t b:Int):Zs (y0 t) b=((Nat.gcd t.natAbs b.toNat:Nat):Int):=by
 unfold Zs
 rw [quu,cF]
def gOf (t b:Int):Int:=Zs (y0 t) b
def wc (t b:Int):Int×Int:=(t/gOf t b,b/gOf t b)
theorem jm {t b:Int}(h:1≤b):1≤gOf t b:=by
 unfold gOf
 rw [k8]
 have:0<Nat.gcd t.natAbs b.toNat:=Nat.gcd_pos_of_pos_right _ (by lia)
 lia
theorem wwn {t b:Int}(h:1≤b):gOf t b≤b:=by
 unfold gOf
 rw [k8]
 have:Nat.gcd t.natAbs b.toNat≤b.toNat:=Nat.gcd_le_right _ (by lia)
 lia
theorem wqv {t b:Int}(h:1≤b):gOf t b∣b:=by
 unfold gOf
 rw [k8]
 have h1:((Nat.gcd t.natAbs b.toNat:Nat):Int)∣(b.toNat:Int):=eY.mpr (Nat.gcd_dvd_right _ _)
 have h2:(b.toNat:Int)=b:=by lia
 rwa [h2] at h1
theorem wq7 {t b:Int}:gOf t b∣t:=by
 unfold gOf
 rw [k8]
 have h1:((Nat.gcd t.natAbs b.toNat:Nat):Int)∣(t.natAbs:Int):=eY.mpr (Nat.gcd_dvd_left _ _)
 exact Int.dvd_natAbs.mp h1
theorem qvm {t b:Int}:gOf t b*(t/gOf t b)=t:=dL wq7
theorem Jk {t b:Int}(h:1≤b):gOf t b*(b/gOf t b)=b:=dL (wqv h)
theorem Ws {t b:Int}(h:1≤b):(wc t b).1*b=t*(wc t b).2:=by
 unfold wc
 dsimp only
 have h1:=qvm (t:=t) (b:=b)
 have h2:=Jk (t:=t) (b:=b) h
 conv=>lhs;rw [←h2]
 conv=>rhs;rw [←h1]
 rw [h1,h2]
 have e1:t/gOf t b*b=t/gOf t b*(gOf t b*(b/gOf t b)):=by rw [h2]
 have e2:t*(b/gOf t b)=gOf t b*(t/gOf t b)*(b/gOf t b):=by rw [h1]
 rw [e1,e2,←Int.mul_assoc,du (t/gOf t b)]
theorem uh {t b:Int}(h:1≤b):1≤(wc t b).2:=by
 show 1≤b/gOf t b
 have h2:=Jk (t:=t) (b:=b) h
 have h3:=jm (t:=t) h
 have:0<b/gOf t b:=by
  rcases cf 0 (b/gOf t b) with z|z
  ·exact z
  ·have:=bv z (show 0≤gOf t b by lia)
   rw [h2,Int.mul_zero] at this
   lia
 lia
theorem qjd {t b:Int}(h:1≤b):(wc t b).2≤b:=Int.ediv_le_self _ (by lia)
theorem qxt {t b:Int}(h:1≤b):gOf (wc t b).1 (wc t b).2=1:=by
 have h3:=jm (t:=t) h
 have hb:=uh (t:=t) h
 obtain ⟨g,hg⟩:∃g:Nat,gOf t b=(g:Int):=⟨_,by unfold gOf;exact k8 t b⟩
 have g1:0<g:=by lia
 have hgg:g=Nat.gcd t.natAbs b.toNat:=by
  have:(g:Int)=((Nat.gcd t.natAbs b.toNat:Nat):Int):=by rw [←hg];unfold gOf;exact k8 t b
  lia
 have et:g*(wc t b).1.natAbs=t.natAbs:=by
  have:=qvm (t:=t) (b:=b)
  have e:=bJ Int.natAbs this
  rw [Int.natAbs_mul,hg] at e
  simpa [wc,hg] using e
 have eb:g*(wc t b).2.toNat=b.toNat:=by
  have:=Jk (t:=t) (b:=b) h
  rw [hg] at this
  have q:(wc t b).2=b/(g:Int):=by unfold wc;rw [hg]
  have q2:b/(g:Int)=((b/(g:Int)).toNat:Int):=by rw [←q];lia
  rw [q]
  rw [q2] at this
  have:((g*(b/(g:Int)).toNat:Nat):Int)=b:=by rw [fj];exact this
  lia
 unfold gOf
 rw [k8]
 have key:g*Nat.gcd (wc t b).1.natAbs (wc t b).2.toNat=g*1:=by
  rw [←Nat.gcd_mul_left,et,eb,←hgg,Nat.mul_one]
 have:=Nat.eq_of_mul_eq_mul_left g1 key
 rw [this]
 rfl
theorem wv9 {t b c:Int}(h:1≤b)(hc:1≤c):gOf (t*c) (b*c)=gOf t b*c:=by
 unfold gOf
 rw [k8,k8]
 have e1:(t*c).natAbs=t.natAbs*c.toNat:=by
  rw [Int.natAbs_mul]
  have:c.natAbs=c.toNat:=by lia
  rw [this]
 have e2:(b*c).toNat=b.toNat*c.toNat:=by
  have hb:b=(b.toNat:Int):=by lia
  have hc':c=(c.toNat:Int):=by lia
  have:b*c=((b.toNat*c.toNat:Nat):Int):=by
   rw [fj,←hb,←hc']
  lia
 rw [e1,e2,Nat.gcd_mul_right,fj]
 have:(c.toNat:Int)=c:=by lia
 rw [this]
theorem qxj {t b c:Int}(h:1≤b)(hc:1≤c):wc (t*c) (b*c)=wc t b:=by
 unfold wc
 rw [wv9 h hc]
 have hg:=jm (t:=t) h
 rw [cB _ _ (show 0<c by lia),cB _ _ (show 0<c by lia)]
end L2
namespace L2
open PySem PySem.Spec PyProof.Rows
def CapAll (env:Env):List (Str×Aj)→Prop
 |[]=>True
 |(y,c)::r=>env.cells.lookup y=some c∧CapAll env r
theorem CapAll.look {env:Env}:∀ {cl:List (Str×Aj)},CapAll env cl→∀ {y:Str} {c:Aj},cl.lookup y=some c→env.cells.lookup y=some c
 |[],_,_,_,e=>by cases e
 |(z,d)::r,h,y,c,e=>by
  rw [aD] at e
  cases hb:y==z with
  |true =>
   rw [hb] at e
   rw [eq_of_beq hb]
   exact h.1.trans e
  |false =>
   rw [hb] at e
   exact CapAll.look h.2 e
def HasAll (cl:List (Str×Aj)):List (Str×NameKind)→Prop
 |[]=>True
 |(n,k)::r=>(k=.free→∃c,cl.lookup n=some c)∧k≠.cell∧HasAll cl r
theorem HasAll.nocell {cl:List (Str×Aj)}:∀ {ns:List (Str×NameKind)},HasAll cl ns→∀y∈ns,y.2≠.cell
 |(n,k)::r,h,y,hy=>by
  rcases ai.mp hy with rfl|hy
  ·exact h.2.1
  ·exact HasAll.nocell h.2.2 y hy
theorem HasAll.has {cl:List (Str×Aj)}{env:Env}:∀ {ns:List (Str×NameKind)},HasAll cl ns→∀ {x:Str} {q:NameKind},q=.cell∨q=.free →
  (ns.map λ(n,k)=>if (k==NameKind.free&&env.scope.kind==.function&&env.kindOf n==some .cell) then (n,NameKind.cell) else (n,k)).lookup x=some q→∃c,cl.lookup x=some c
 |[],_,_,_,_,e=>by cases e
 |(n,k)::r,h,x,q,hq,e=>by
  have ih:=HasAll.has (env:=env) h.2.2 (x:=x) hq
  rw [aZ] at e
  by_cases hc:(k==NameKind.free&&env.scope.kind==.function&&env.kindOf n==some .cell)=true
  ·have e':=e
   dsimp only at e'
   rw [ak hc,aD] at e'
   cases hb:x==n with
   |true =>
    rw [bn,bn] at hc
    obtain ⟨c,hcc⟩:=h.1 (eq_of_beq hc.1.1)
    exact ⟨c,by rw [eq_of_beq hb];exact hcc⟩
   |false =>
    rw [hb] at e'
    exact ih e'
  ·have e':=e
   dsimp only at e'
   rw [ag hc,aD] at e'
   cases hb:x==n with
   |true =>
    rw [hb] at e'
    have ek:k=q:=az e'
    rcases hq with rfl|rfl
    ·exact absurd ek h.2.1
    ·obtain ⟨c,hcc⟩:=h.1 ek
     exact ⟨c,by rw [eq_of_beq hb];exact hcc⟩
   |false =>
    rw [hb] at e'
    exact ih e'
def CapIx (X:Cx)(scope:Scope)(cl:List (Str×Aj)):List Nat→Prop
 |[]=>True
 |j::r=>(∃y c,X.N[j]?=some y∧X.env.scope.names.lookup y=some .cell∧(relabel scope X.env).names.lookup y=some .cell∧cl.lookup y=some c)∧CapIx X scope cl r
theorem CapIx.get {X:Cx}{scope:Scope}{cl:List (Str×Aj)}:∀ {M:List Nat},CapIx X scope cl M→∀ {k j:Nat},M[k]?=some j →
  ∃y c,X.N[j]?=some y∧X.env.scope.names.lookup y=some .cell∧(relabel scope X.env).names.lookup y=some .cell∧cl.lookup y=some c
 |[],_,k,j,e=>by cases e
 |i::r,h,0,j,e=>by
  cases e
  exact h.1
 |i::r,h,k+1,j,e=>CapIx.get h.2 (k:=k) e
def Zk (X:Cx)(x:Str)(M:List Nat):List Str:=x::M.map λj=>X.N.getD j Str.empty
def vw (M:List Nat)(σ:St)(o:Option V):St:=o::M.map λj=>(σ[j]?).join
abbrev zt (X:Cx)(scope:Scope)(cl:List (Str×Aj))(x:Str)(M:List Nat)(C:Aj)(s2:Ab)(H2:Hp)(fp:List Aj)(pn:List (Aj×Obj)):Cx :=
 { X with N:=Zk X x M,s₀:=s2,H₀:=H2,env:=compEnvC scope cl C X.env,outer:=X.stack,ex:=fp,fn:=λ_=>false,pn:=pn,xe:=λ_ _=>False }
section
variable {X:Cx}{pins:List (Aj×Obj)}{σ:St}{H:Hp}{s2:Ab}{scope:Scope}{cl:List (Str×Aj)}{x:Str}{M:List Nat}{fp:List Aj}{C:Aj}{h1:Heap}{tk:Nat}
theorem Inv.compG {oo:HO}{xs:List Str}(I:Inv X pins σ H s2)(hc:CapAll X.env cl)(hh:HasAll cl scope.names)(hm:CapIx X scope cl M)(hk:scope.kind=.function)(hC:s2.heap.objs.size<C)
  (keep:∀b o,s2.heap.get? b=some o→h1.get? b=some o) (hn:h1.Ns C λ_=>none) (hD:ObjOk X.prog X.w (upd H s2.heap.objs.size oo) h1 s2.heap.objs.size oo)
  (hfp:∀b∈fp,jh X pins H b) (hob:∀b∈fp,∃o,s2.heap.get? b=some o) :
  Inv { X with N:=xs++M.map λj=>X.N.getD j Str.empty,s₀:=s2,H₀:=H,env:=compEnvC scope cl C X.env,outer:=X.stack,ex:=fp,fn:=λ_=>false,pn:=X.pn++pins,xe:=λ_ _=>False } [] ((xs.map λ_=>none)++M.map λj=>(σ[j]?).join) (upd H s2.heap.objs.size oo) { s2 with heap:=h1,toks:=tk }:=by
 have hfr:=I.hok.fresh (a:=s2.heap.objs.size) (af _)
 have o:=I.ok
 have hcc:∀y c,cl.lookup y=some c→X.env.cells.lookup y=some c:=λy c e=>hc.look e
 have hlt:∀b∈fp,b<s2.heap.objs.size:=λb hb=>by
  obtain ⟨ob,e⟩:=hob b hb
  exact al e
 have hstk:∀b∈fp,b∉frs X.stack:=λb hb z=>by
  rcases ai.mp (I.stkSub b z) with z|z
  ·exact (hfp b hb).2.1 z
  ·exact (hfp b hb).2.2.1 z
 have hCn:H C=none:=I.hok.fresh (bA hC)
 refine ⟨⟨o.mod,hk,o.glob,o.blt,bA hC,λy z c e1 e2=>o.inj y z c (hcc y c e1) (hcc z c e2),λy hy=>?_,λy c z=>(aA z).elim,o.hd,o.frames,.inl rfl,λb hb=>⟨av (bh (hlt b hb) hC),λy c e=>(hfp b hb).2.2.2.2.1 y c (hcc y c e)⟩,
  λb ob e=>I.bs b ob e,bH o.bsz I.sz,λb ob e z=>?_,hstk,I.stack,I.stkFree⟩,rfl,I.bare,?_,?_,λy c e=>?_,?_,λy c e=>?_,λp hp=>?_,?_,?_⟩
 ·rcases hy with hy|hy
  ·exact hh.has (.inl rfl) hy
  ·exact hh.has (.inr rfl) hy
 ·obtain ⟨e1,e2⟩:=I.bs b ob e
  exact (hfp b z).2.2.2.1.elim (λq=>o.noex b ob e q) λq=>by
   have:=o.bs b ob e
   exact aQ _ (aE (al this.1) q)
 ·exact (Un.laid (fs:=frs X.stack) (ex:=fp) (o:=oo) keep (af _) hfr)
 ·refine ⟨_,hn,λi z v e1 e2 e3=>?_⟩
  rcases d7 i xs.length with hi|hi
  ·have e2:((xs.map λ_=>(none:Option V))++M.map λj=>(σ[j]?).join)[i]?=some (some v):=e2
   rw [bu (by rw [ac];exact hi),aH,ar hi] at e2
   cases e2
  have e1':(xs++M.map λj=>X.N.getD j Str.empty)[i]?=some z:=e1
  have e2':((xs.map λ_=>(none:Option V))++M.map λj=>(σ[j]?).join)[i]?=some (some v):=e2
  rw [bj hi] at e1'
  rw [bj (by rw [ac];exact hi),ac] at e2'
  generalize i-xs.length=k at e1' e2'
  rw [aH] at e1' e2'
  cases hj:M[k]? with
  |none=>rw [hj] at e1';cases e1'
  |some j =>
   rw [hj] at e1' e2'
   obtain ⟨y,c,f1,f2,f3,f4⟩:=hm.get hj
   have ez:X.N.getD j Str.empty=z:=az e1'
   rw [ay,f1] at ez
   have ez':y=z:=ez
   subst ez'
   have ev:(σ[j]?).join=some v:=az e2'
   have ev':σ[j]?=some (some v):=by
    cases hs:σ[j]? with
    |none=>rw [hs] at ev;cases ev
    |some w' =>
     rw [hs] at ev
     have:w'=some v:=ev
     rw [this]
   obtain ⟨m,hns,hl⟩:=I.loc
   obtain ⟨u,r,l⟩:=hl j y v f1 ev' (.inr (.inl f2))
   refine ⟨u,r,.inr ⟨.inl f3,c,f4,?_⟩⟩
   rcases l with ⟨lk,_⟩|⟨_,c',lc,li⟩
   ·have:X.env.scope.names.lookup y=some .local:=lk
    rw [f2] at this
    cases this
   ·rw [hcc y c f4] at lc
    have:=az lc
    subst this
    exact li.keeps keep
 ·obtain ⟨v,hv⟩:=I.cell y c (hcc y c e)
  exact ⟨v,hv.keeps keep⟩
 ·show upd H s2.heap.objs.size oo C=none
  rw [wg (dZ hC)]
  exact hCn
 ·show upd H s2.heap.objs.size oo c=none
  obtain ⟨v,ob,e1,e2⟩:=I.cell y c (hcc y c e)
  rw [wg (av (al e1))]
  exact I.freeC y c (hcc y c e)
 ·have hp':p∈X.pn++pins:=(bg.mp hp).elim (λz=>z) λz=>nomatch z
  obtain ⟨e1,e2,e3,e4,e5⟩:=I.pin p hp'
  refine ⟨keep _ _ e1,?_,av (bh (al e1) hC),λz=>?_,e5⟩
  ·rw [wg (av (al e1))]
   exact e2
  ·rcases ai.mp (I.stkSub p.1 z) with z|z
   ·exact e3 z
   ·exact e4 z
 ·exact I.hok.laid keep (af _) hD
 ·show ((xs.map λ_=>(none:Option V))++M.map λj=>(σ[j]?).join).length=(xs++M.map λj=>X.N.getD j Str.empty).length
  simp only [aG,ac]
theorem Inv.comp (I:Inv X pins σ H s2)(hc:CapAll X.env cl)(hh:HasAll cl scope.names)(hm:CapIx X scope cl M)(hk:scope.kind=.function)(hC:s2.heap.objs.size<C)
  (keep:∀b o,s2.heap.get? b=some o→h1.get? b=some o) (hn:h1.Ns C λ_=>none) (hD:h1.get? s2.heap.objs.size=some { cls:=.type "list",data:=.seq #[] 0 })
  (hfp:∀b∈fp,jh X pins H b) (hob:∀b∈fp,∃o,s2.heap.get? b=some o) :
  Inv (zt X scope cl x M C s2 H fp (X.pn++pins)) [] (vw M σ none) (upd H s2.heap.objs.size (.lst [])) { s2 with heap:=h1,toks:=tk }:=I.compG (xs:=[x]) hc hh hm hk hC keep hn ⟨aB _,[],0,.nil,hD⟩ hfp hob
theorem Inv.uncomp {pins':List (Aj×Obj)}{σ':St}{H':Hp}{s':Ab}{h':Heap}(I:Inv X pins σ H s2)(hC:s2.heap.objs.size≤C)(hfp:∀b∈fp,jh X pins H b)
  (J:Inv (zt X scope cl x M C s2 H fp (X.pn++pins)) pins' σ' H' s') (hs:Heap.SameBut C s'.heap h'):Inv X pins σ H' { s' with heap:=h' }:=by
 have hb:=J.base
 have nC:∀b o,s2.heap.get? b=some o→b≠C:=λb o e=>av (aE (al e) hC)
 have st:∀b o,b≠C→s'.heap.get? b=some o→h'.get? b=some o:=λb o n e=>(hs.2 b n).trans e
 refine I.call' (s':={ s' with heap:=h' }) (ch:=fp) J.os ⟨λb o e n nb nx=>st b o (nC b o e) (hb.keep b o e n nb nx),λb o e n hb' nx=>?_,hb.free,λb o e nx=>?_,hb.tups,hb.frzs,hb.tbls⟩ ?_ J.bare λb hbf=>?_
 ·obtain ⟨sl,e1⟩:=hb.slot b o e n hb' nx
  exact ⟨sl,st b _ (nC b o e) e1⟩
 ·obtain ⟨o',e1⟩:=hb.there b o e nx
  exact ⟨o',st b _ (nC b o e) e1⟩
 ·intro b u hu
  have fr:H' C=none:=J.free
  refine (J.hok b u hu).stay (λc v hc e=>st c v ?_ e) (λ_ z=>z) λ_ _ z=>z
  rcases hc with rfl|hc
  ·intro z;rw [z,fr] at hu;cases hu
  ·intro z;rw [z,fr] at hc;cases hc
 ·obtain ⟨q1,q2,q3,q4,q5,q6⟩:=hfp b hbf
  exact ⟨q4,q2,q5,q6⟩
end
def qvw (J:It)(M:List Nat)(te:TE)(σ:St)(H1:Hp)(Q:VK):Prop:=∀p,H1 p=none→∃W:Nat→Nat→List V→Hp→Prop,(∃m,W 0 m [] (upd H1 p (.lst []))) ∧
 ∀i m ys H2,W i m ys H2→H2 p=some (.lst ys)∧ys.length<sizeLine∧((J.stop i H2∧Q (.ref p) H2)∨(J.go i H2∧∀v H3,J.yld i H2 v H3 →
  te (vw M σ (some v)) H3 λy H4=>H4 p=some (.lst ys)∧∃m',m'<m∧W (i+1) m' (ys++[y]) (upd H4 p (.lst (ys++[y])))))
def wwg (M:List Nat)(wi:TI)(te:TE):TE:=λσ H Q=>wi σ H λJ H1=>qvw J M te σ H1 Q
theorem W5 {Y:Cx}{tg e:Expr}{k:Nat}{acc:Ag}{it:Aj}{fp:List Aj}{tn:Nat→Heap→Prop}{J:It}{ps:Pos}{REST:Sem PySem.Fin}{post:Result→Ab→Prop}{gg:TG}{pins:List (Aj×Obj)}{σ:St}{V:Nat→Nat→Hp→Prop}{Qd:Hp→Prop}{s0:Ab}{H0:Hp}{n0:Nat}
  (T:Turn Y.prog Y.w Y.K tg J fp it tn) (hc:Y.calm=true) (hx:∀v s,Y.xe v s→False)
  (hturn:compTurn e k (.ref it) acc Y.env=(standAt ps >>= λ_=>pyNext (.ref it) >>= λr=>match r with|none=>pure (.done .next)|some v=>letOwnedTupleGo tg (.ref it) v >>= λ_=>assign tg Y.env v >>= λ_=>REST))
  (hun:Y.A.under (.compLoop e k (.ref it) acc Y.env)=Y.A) (hden:(model Y.prog Y.w).den (.compLoop e k (.ref it) acc Y.env)=((compTurn e k (.ref it) acc Y.env).onRaise λz=>do noteFrame z Y.env;theTreesLotGoes z))
  (hg:PG Y tg gg) (fok:∀H2:Hp,(∀b∈fp,H2 b=none)→∀b∈fp,jh Y pins H2 b)
  (hV:∀i n H2,V i n H2→(J.stop i H2∧Qd H2)∨(J.go i H2∧∀v H3,J.yld i H2 v H3→∃Z:St→Hp→Prop,gg v σ H3 Z∧∀σ4 H4,Z σ4 H4→(σ.length=σ4.length∧∀(k:Nat) z,σ[k]?=some (some z)→σ4[k]?=some (some z))∧∀pins' s',Inv Y pins' σ4 H4 s' →
   wpAny (model Y.prog Y.w) Y.A REST (λr s5=>r=Fin.again (.compLoop e k (.ref it) acc Y.env)∧∃H5,Inv Y pins' σ4 H5 s5∧∃n',n'<n∧V (i+1) n' H5) Y.xe s'))
  (fin:∀H2 s4,Inv Y pins σ H2 s4→Qd H2→post (.ok .next) s4) (I:Inv Y pins σ H0 s0) (v0:V 0 n0 H0) (t0:tn 0 s0.heap) (nf:∀b∈fp,H0 b=none) :
  codeAny (model Y.prog Y.w) Y.A (.compLoop e k (.ref it) acc Y.env) post s0:=by
 refine codeAny_loop rfl (λn s3=>∃i H2,V i n H2∧Inv Y pins σ H2 s3∧tn i s3.heap∧∀b∈fp,H2 b=none) (λn s3 hI=>?_) n0 ⟨0,H0,v0,I,t0,nf⟩
 obtain ⟨i,H2,w,J2,t,nf2⟩:=hI
 rw [hun,hden]
 refine wpAny_noted ?_
 rw [hturn]
 refine aa (cT (aa ?_))
 rcases hV i n H2 w with ⟨hst,hq⟩|⟨hgo,hy⟩
 ·refine aP (T.done Y rfl rfl rfl hc i pins s3 _ H2 (λ_ _=>False) J2 (fok H2 nf2) t hst) (λr s4 hr=>?_) λ_ _ z=>z.elim
  obtain ⟨rfl,J4⟩:=hr
  exact am (fin H2 s4 J4 hq)
 ·refine aP (T.item Y rfl rfl rfl hc i pins s3 _ H2 (λ_ _=>False) J2 (fok H2 nf2) t hgo) (λr s4 hr=>?_) λ_ _ z=>z.elim
  obtain ⟨u,rfl,hw⟩:=hr
  refine aa (aP hw (λ_ s5 hr5=>?_) λ_ _ z=>z.elim)
  obtain ⟨v,H3,J5,rv,yl,t5,nf⟩:=hr5
  obtain ⟨Z,hz,hZ⟩:=hy v H3 yl
  refine aa (aP (hg _ s5 _ H3 v u _ (J5.pinned (fok H3 nf) (T.obj _ _ t5)) rv hz) (λ_ s6 hr6=>?_) λv s z=>(hx v s z).elim)
  obtain ⟨σ6,H6,J6,z6⟩:=hr6
  obtain ⟨⟨hl,hw6⟩,hR⟩:=hZ σ6 H6 z6
  refine aP (hR _ s6 J6) (λr s7 hr7=>?_) λv s z=>(hx v s z).elim
  obtain ⟨rfl,H7,J7,n',hn',v7⟩:=hr7
  refine ⟨rfl,n',hn',i+1,H7,v7,(J7.unpinned (pins:=pins)).weak hl hw6,?_,?_⟩
  ·exact T.keep _ _ _ t5 λb hb o e=>(J7.pin (b,o) (ax _ (ax _ (jb hb e)))).1
  ·intro b hb
   obtain ⟨o,e,_⟩:=T.obj _ _ t5 b hb
   exact (J7.pin (b,o) (ax _ (ax _ (jb hb e)))).2.1
section
variable {Y:Cx}{elt cd:Expr}{te:TE}{tt:TT}{c:Code}{p:Aj}{σ:St}{H:Hp}{pins:List (Aj×Obj)}{s:Ab}
def appS (elt:Expr)(acc:Ag)(env:Env)(c:Code):Sem PySem.Fin:=(eval elt env >>= λx=>call (.builtin "list.append") [acc,x] >>= λ_=>pure ()) >>= λ_=>again c
theorem qvj {ys:List V}{N:List V→Hp→Prop}(hx:∀v s,Y.xe v s→False)(he:PE Y elt te)(J:Inv Y pins σ H s)(hz:ys.length<sizeLine)(h:te σ H λy H4=>H4 p=some (.lst ys)∧N (ys++[y]) (upd H4 p (.lst (ys++[y])))) :
  wpAny (model Y.prog Y.w) Y.A (appS elt (.ref p) Y.env c) (λr s5=>r=Fin.again c∧∃H5,Inv Y pins σ H5 s5∧∃zs,N zs H5) Y.xe s:=by
 refine aa (aa (aP (he _ s _ H _ J h) (λyv s7 hr7=>?_) λ_ _ z=>z))
 obtain ⟨y,H4,J7,ry,hp4,n4⟩:=hr7
 refine aa (aP (jn (X:=Y) _ s7 _ H4 (.ref p) [y] (.ref p) [yv] (λ_ H8=>H8=upd H4 p (.lst (ys++[y]))) J7 rfl (.cons ry .nil) ⟨_,ys,y,rfl,rfl,hp4,hz,rfl⟩) (λ_ s8 hr8=>?_) λ_ _ z=>z)
 obtain ⟨_,H8,J8,_,rfl⟩:=hr8
 exact am (am ⟨rfl,_,J8,_,n4⟩)
def tstS (cd:Expr)(env:Env)(a b:Sem PySem.Fin):Sem PySem.Fin:=(forIn [cd] true λc r=>if r=true then do let ok ←isTrue c env (eval c env);pure (ForInStep.yield ok) else pure (ForInStep.yield r)) >>= λok=>if ok=true then a else b
theorem wxx {a b:Sem PySem.Fin}{F:Hp→Prop}{G:Hp→Prop}{R:PySem.Fin→Ab→Prop}(ht:PT Y cd tt)(J:Inv Y pins σ H s)(h:tt σ H λok H4=>if ok=true then F H4 else G H4)
  (ha:∀s' H4,Inv Y pins σ H4 s'→F H4→wpAny (model Y.prog Y.w) Y.A a R Y.xe s') (hb:∀s' H4,Inv Y pins σ H4 s'→G H4→wpAny (model Y.prog Y.w) Y.A b R Y.xe s') :
  wpAny (model Y.prog Y.w) Y.A (tstS cd Y.env a b) R Y.xe s:=by
 refine aa (wpAny_tests_one (aP (ht _ s _ H _ J h) (λok s6 hr6=>?_) λ_ _ z=>z))
 obtain ⟨H6,J6,hok⟩:=hr6
 cases ok with
 |false=>exact hb s6 H6 J6 hok
 |true=>exact ha s6 H6 J6 hok
end
section
variable {X:Cx}{elt iter cd:Expr}{x:Str}{px pos:Pos}{scope:Scope}{cl:List (Str×Aj)}{M:List Nat}{wi:TI}{te:TE}{tt:TT}{pins:List (Aj×Obj)}{σ:St}
theorem qz4 {N:List Str}{C:Aj}{s2:Ab}{H1:Hp}{fp:List Aj}(hcap:CapAll X.env cl)(I2:Inv X pins σ H1 s2)(hlt:s2.heap.objs.size<C)(hfp:∀b∈fp,jh X pins H1 b)(hbl:∀b∈fp,b<s2.heap.objs.size)(H2:Hp)(hn:∀b∈fp,H2 b=none) :
  ∀b∈fp,jh { X with N:=N,s₀:=s2,H₀:=H1,env:=compEnvC scope cl C X.env,outer:=X.stack,ex:=fp,fn:=λ_=>false,pn:=X.pn++pins,xe:=λ_ _=>False } [] H2 b:=λb hb=>by
 obtain ⟨q1,q2,q3,q4,q5,q6⟩:=hfp b hb
 refine ⟨hn b hb,av (bh (hbl b hb) hlt),λz=>?_,.inl hb,λy c e=>q5 y c (hcap.look e),λp hp=>q6 p ((bg.mp hp).elim (λz=>z) λz=>nomatch z)⟩
 rcases ai.mp (I2.stkSub b z) with z|z
 ·exact q2 z
 ·exact q3 z
theorem qw3 {tg:Expr}{ifs:List Expr}{rest:List Comprehension}(hclos:closureFor scope X.env=pure cl)(hhas:HasAll cl scope.names)(hk:scope.kind=.function)
  (hnames:∀y∈scope.names,y.2=.local→scope.names.lookup y.1=some .local) (hi:PI X tg iter wi) (hs:∀z,foldedSetIterable iter X.env z=pure z)
  {use:Option (Ag→Sem Unit)} {QQ:Ag→Ab→Prop} {s:Ab} {H:Hp} {ps:Pos} {R:It→Hp→Prop} (I:Inv X pins σ H s) (h:wi σ H R)
  (go:∀(it:Aj) (fp:List Aj) (tn:Nat→Heap→Prop) (J:It) (H1:Hp) (s2:Ab) (C:Aj) (h3:Heap) (tk:Nat),Inv X pins σ H1 s2→Turn X.prog X.w X.K tg J fp it tn→tn 0 h3→(∀b∈fp,jh X pins H1 b)→(∀b∈fp,b<s2.heap.objs.size)→(∀b∈fp,∃o,s2.heap.get? b=some o)→R J H1→s2.heap.objs.size<C →
   (∀b o,s2.heap.get? b=some o→h3.get? b=some o)→(h3.Ns C λ_=>none)→h3.get? s2.heap.objs.size=some { cls:=.type "list",data:=.seq #[] 0 } →
   codeAny (model X.prog X.w) X.A (.compLoop (.ListComp elt (⟨tg,iter,ifs,0⟩::rest) scope pos) 0 (.ref it) (.ref s2.heap.objs.size) (compEnvC scope cl C X.env)) (compPost (model X.prog X.w) X.A X.xe use QQ (.ref s2.heap.objs.size) C) { s2 with heap:=h3,toks:=tk }) :
  wpAny (model X.prog X.w) X.A (comprehension (.ListComp elt (⟨tg,iter,ifs,0⟩::rest) scope pos) scope X.env ps (newList []) false (eval iter X.env) use) QQ X.xe s:=by
 refine cV (use:=use) rfl hs hclos hk hnames ?_
 refine thn (hi pins s σ H _ I h) λv s1 h1=>thn h1 λitv s2 h2=>?_
 obtain ⟨it,fp,tn,J,H1,rfl,I2,T,t0,hfp,hR⟩:=h2
 refine bL ?_
 refine dM hhas.nocell (by intro y hy;cases hy) (λh3 hns hsb=>?_) hk
 dsimp only at hns hsb ⊢
 generalize hH2:s2.heap.push { cls:=.type "list",dict:=none,data:=.seq ([]:List Ag).toArray }=G2 at hns hsb ⊢
 have hC:G2.objs.size=s2.heap.objs.size+1:=by rw [←hH2,dm]
 have hlt:s2.heap.objs.size<G2.objs.size:=by lia
 have keep:∀b o,s2.heap.get? b=some o→h3.get? b=some o:=λb o e=>by
  rw [hsb.2 b (av (bh (al e) hlt))]
  exact ae _ (hH2▸ae _ e)
 have hD:h3.get? s2.heap.objs.size=some { cls:=.type "list",data:=.seq #[] 0 }:=by
  rw [hsb.2 _ (av hlt)]
  exact ae _ (hH2▸au _ rfl)
 have t3:=T.keep 0 _ _ t0 λb _ o e=>keep b o e
 have loop:=λtk=>go it fp tn J H1 s2 G2.objs.size h3 tk I2 T t3 hfp (λb hb=>let ⟨o,e,_⟩:=T.obj 0 _ t0 b hb;al e) (λb hb=>let ⟨o,e,_⟩:=T.obj 0 _ t0 b hb;⟨o,e⟩) hR hlt keep hns hD
 exact codeAny_compStart_list (loop _) (T.self _ 0 _ _ _ t3 (loop _))
theorem Qy (M:List Nat)(σ:St)(v:V):(vw M σ none).length=(vw M σ (some v)).length∧∀(k:Nat) z,(vw M σ none)[k]?=some (some z)→(vw M σ (some v))[k]?=some (some z):=⟨rfl,λk z ez=>by
 cases k with
 |zero=>cases ez
 |succ k=>exact ez⟩
end
section
variable {X:Cx}{elt iter:Expr}{x:Str}{px pos:Pos}{scope:Scope}{cl:List (Str×Aj)}{M:List Nat}{wi:TI}{te:TE}
theorem qkd (hc:X.calm=true)(hclos:closureFor scope X.env=pure cl)(hcap:CapAll X.env cl)(hhas:HasAll cl scope.names)(hix:CapIx X scope cl M)(hk:scope.kind=.function)
  (hnames:∀y∈scope.names,y.2=.local→scope.names.lookup y.1=some .local) (hx:scope.names.lookup x=some .local) (hnd:(Zk X x M).Nodup) (hi:PI X (.Name x px) iter wi)
  (he:∀C s2 H2 fp pn,PE (zt X scope cl x M C s2 H2 fp pn) elt te) (hs:∀z,foldedSetIterable iter X.env z=pure z)
  {use:Option (Ag→Sem Unit)} {QQ:Ag→Ab→Prop} {pins:List (Aj×Obj)} {s:Ab} {σ:St} {H:Hp} {Q:VK} {ps:Pos} (I:Inv X pins σ H s) (h:wi σ H λJ H1=>qvw J M te σ H1 Q)
  (fin:∀(C:Aj) (s2 s4:Ab) (H1 H2:Hp) (fp:List Aj),Inv X pins σ H1 s2→s2.heap.objs.size<C→(∀b∈fp,jh X pins H1 b)→Inv (zt X scope cl x M C s2 H1 fp (X.pn++pins)) [] (vw M σ none) H2 s4→Q (.ref s2.heap.objs.size) H2 →
   compPost (model X.prog X.w) X.A X.xe use QQ (.ref s2.heap.objs.size) C (.ok .next) s4) :
  wpAny (model X.prog X.w) X.A (comprehension (.ListComp elt [⟨.Name x px,iter,[],0⟩] scope pos) scope X.env ps (newList []) false (eval iter X.env) use) QQ X.xe s:=by
 refine qw3 hclos hhas hk hnames hi hs I h λit fp tn J H1 s2 C h3 tk I2 T t3 hfp hbl hob hR hlt keep hns hD=>?_
 obtain ⟨W,⟨m0,w0⟩,hW⟩:=hR s2.heap.objs.size (I2.hok.fresh (af _))
 have hxl:(relabel scope X.env).names.lookup x=some .local:=dN hx
 refine W5 (Y:=zt X scope cl x M C s2 H1 fp (X.pn++pins)) (V:=λi n H2=>∃ys,W i n ys H2) (Qd:=Q (.ref s2.heap.objs.size)) (REST:=appS elt (.ref s2.heap.objs.size) (compEnvC scope cl C X.env) _) T hc (λ_ _ z=>z) (compTurn_list1 ..) rfl rfl (xj (i:=0) hnd rfl (.inl hxl) (.inr hxl)) (qz4 hcap I2 hlt hfp hbl) (λi n H2 ⟨ys,w⟩=>?_) (λH2 s4 J4 q=>fin C s2 s4 H1 H2 fp I2 hlt hfp J4 q) (I2.comp hcap hhas hix hk hlt keep hns hD hfp hob) ⟨[],w0⟩ t3 λb hb=>by rw [wg (av (hbl b hb))];exact (hfp b hb).1
 obtain ⟨hp,hz,hcase⟩:=hW i n ys H2 w
 refine hcase.imp id λ⟨hgo,hy⟩=>⟨hgo,λv H3 yl=>⟨λσ4 H4=>σ4=vw M σ (some v)∧H3=H4,⟨rfl,rfl⟩,λ_ _ e=>?_⟩⟩
 obtain ⟨rfl,rfl⟩:=e
 refine ⟨Qy M σ v,λpins' s' J=>?_⟩
 refine aP (qvj (N:=λzs H5=>∃m',m'<n∧W (i+1) m' zs H5) (λ_ _ z=>z) (he _ _ _ _ _) J hz (hy v H3 yl)) (λr s5 ⟨e,H5,J5,zs,m',hm,w'⟩=>⟨e,H5,J5,m',hm,zs,w'⟩) λ_ _ z=>z
theorem uf (hc:X.calm=true)(hclos:closureFor scope X.env=pure cl)(hcap:CapAll X.env cl)(hhas:HasAll cl scope.names)(hix:CapIx X scope cl M)(hk:scope.kind=.function)
  (hnames:∀y∈scope.names,y.2=.local→scope.names.lookup y.1=some .local) (hx:scope.names.lookup x=some .local) (hnd:(Zk X x M).Nodup) (hi:PI X (.Name x px) iter wi)
  (he:∀C s2 H2 fp pn,PE (zt X scope cl x M C s2 H2 fp pn) elt te) (hs:∀z,foldedSetIterable iter X.env z=pure z:=by intro _;rfl) :
  PE X (.ListComp elt [⟨.Name x px,iter,[],0⟩] scope pos) (wwg M wi te):=by
 intro pins s σ H Q I h
 rw [eval_ListComp]
 refine qkd hc hclos hcap hhas hix hk hnames hx hnd hi he hs (use:=none) I h λC s2 s4 H1 H2 fp I2 hlt hfp J4 hq=>?_
 obtain ⟨m,hn,_⟩:=J4.loc
 exact ⟨m,hn,λh' hs'=>⟨.ref s2.heap.objs.size,H2,I2.uncomp (bA hlt) hfp J4 hs',rfl,hq⟩⟩
theorem Inv.but {pins:List (Aj×Obj)}{σ:St}{H:Hp}{s:Ab}{h':Heap}{C:Aj}(I:Inv X pins σ H s)(hn:H C=none)(h1:X.s₀.heap.objs.size≤C)(h2:C≠X.env.locals)(h3:∀y c,X.env.cells.lookup y=some c→c≠C)(h4:∀p∈X.pn++pins,p.1≠C)
  (hs:Heap.SameBut C s.heap h'):Inv X pins σ H { s with heap:=h' }:=by
 have st:∀b o,b≠C→s.heap.get? b=some o→h'.get? b=some o:=λb o n e=>(hs.2 b n).trans e
 have nc:∀b,b∉[C]→b≠C:=λb z e=>z (by rw [e];exact .head _)
 refine I.call' (s':={ s with heap:=h' }) (ch:=[C]) rfl ⟨λb o e n _ nx=>st b o (nc b nx) e,λb o e n _ nx=>⟨o.slots,st b o (nc b nx) e⟩,λb o e n _=>n,λb o e nx=>⟨o,st b o (nc b nx) e⟩,λ_ _ e=>e,λ_ _ _ e=>e,λb ps e=>⟨#[],by rw [e];simp⟩⟩ ?_ I.bare λb hb=>?_
 ·intro b u hu
  refine (I.hok b u hu).stay (λc v hc e=>st c v ?_ e) (λ_ z=>z) λ_ _ z=>z
  rcases hc with rfl|hc
  ·intro z;rw [z,hn] at hu;cases hu
  ·intro z;rw [z,hn] at hc;cases hc
 ·rw [aq.mp hb]
  exact ⟨.inr h1,h2,h3,h4⟩
theorem Ys {i:Nat}{y:Str}{py spos:Pos}(hN:X.N.Nodup)(hyi:X.N[i]?=some y)(hyl:Loc X.env.scope y)(hc:X.calm=true)(hclos:closureFor scope X.env=pure cl)(hcap:CapAll X.env cl)(hhas:HasAll cl scope.names)(hix:CapIx X scope cl M)(hk:scope.kind=.function)
  (hnames:∀y∈scope.names,y.2=.local→scope.names.lookup y.1=some .local) (hx:scope.names.lookup x=some .local) (hnd:(Zk X x M).Nodup) (hi:PI X (.Name x px) iter wi)
  (he:∀C s2 H2 fp pn,PE (zt X scope cl x M C s2 H2 fp pn) elt te) (hs:∀z,foldedSetIterable iter X.env z=pure z:=by intro _;rfl)
  (hsw:swapsWith (.ListComp elt [⟨.Name x px,iter,[],0⟩] scope pos) (some (.Name y py)) spos.line X.env=pure true:=by rfl) (hyf:X.fn y=true∨X.env.scope.names.lookup y=some .local:=by first | exact .inl rfl | exact .inr rfl | assumption) :
  PS X (.Assign [.Name y py] (.ListComp elt [⟨.Name x px,iter,[],0⟩] scope pos) spos) (tAsg (wwg M wi te) (qyf i)):=by
 intro pins s σ H D I h
 rw [exec_Assign_Name_used _ _ _ _ hsw]
 refine aa (cT (aa ?_))
 refine aa (aP (qkd hc hclos hcap hhas hix hk hnames hx hnd hi he hs (use:=some (assign (.Name y py) X.env)) (QQ:=λ_ s'=>SP X pins D .next s') I h λC s2 s4 H1 H2 fp I2 hlt hfp J4 hq=>?_) (λ_ s' hq=>am (am hq)) λ_ _ e=>e)
 have I4:Inv X pins σ H2 s4:=I2.uncomp (h':=s4.heap) (bA hlt) hfp J4 (Heap.SameBut.refl _ _)
 have hCn:H2 C=none:=J4.free
 obtain ⟨mC,hnC,_⟩:=J4.loc
 obtain ⟨oC,esC,epC,hoC,hdC⟩:=id hnC
 have hCl:C≠X.env.locals:=λz=>aQ _ (bh hlt (z▸I2.lt))
 have hCs:X.s₀.heap.objs.size≤C:=bH I2.sz (bA hlt)
 have hCc:∀y c,X.env.cells.lookup y=some c→c≠C:=λy c e z=>by
  obtain ⟨v,o,e1,_⟩:=I2.cell y c e
  exact aQ _ (bh hlt (z▸al e1))
 have hCp:∀p∈X.pn++pins,p.1≠C:=λp hp z=>aQ _ (bh hlt (z▸al (I2.pin p hp).1))
 have hCf:C∉frs X.stack:=λz=>by
  rcases ai.mp (I2.stkSub C z) with q|q
  ·exact hCl q
  ·obtain ⟨_,o,e1,_⟩:=I2.funs.mem (b:=C) q
   exact aQ _ (bh hlt (al e1))
 have hCx:C∉X.fs:=λz=>by
  obtain ⟨_,o,e1,_⟩:=I2.funs.mem (b:=C) z
  exact aQ _ (bh hlt (al e1))
 have I4p:Inv X (pins++[(C,oC)]) σ H2 s4:=⟨I4.ok,I4.os,I4.bare,I4.base,I4.loc,I4.cell,I4.free,I4.freeC,λp hp=>by
  rcases bg.mp hp with q|q
  ·exact I4.pin p (cH _ q)
  ·rcases bg.mp q with q|q
   ·exact I4.pin p (ax _ q)
   ·rw [aq.mp q]
    exact ⟨hoC,hCn,hCl,hCx,λv z=>by rw [hdC.1] at z;cases z⟩,I4.hok,I4.len⟩
 show wpAny _ _ (assign (.Name y py) X.env (.ref s2.heap.objs.size)) _ _ _
 refine eN (jp I4p hN hyi hyl (show RelV (.ref s2.heap.objs.size) (.ref s2.heap.objs.size) from rfl) (λs5 I5=>?_) hyf)
 have hC5:=(I5.pin (C,oC) (ax _ (ax _ (.head _)))).1
 exact ⟨mC,⟨oC,esC,epC,hC5,hdC⟩,λh' hs'=>⟨_,H2,I5.unpinned.but hCn hCs hCl hCc hCp hs',hq⟩⟩
end
theorem jt {M:List Nat}{lo:Int}{n:Nat}{te:TE}{σ:St}{H:Hp}{Q:VK}(f:Nat→V)(hn:n≤1000000)(he:∀(i:Nat) (H':Hp) (R:VK),i<n→Same H H'→R (f i) H'→te (vw M σ (some (.int (lo+i)))) H' R)
  (k:∀p,H p=none→Q (.ref p) (upd H p (.lst ((List.range n).map f)))):qvw (Itr lo n) M te σ H Q:=by
 intro p np
 refine ⟨λi m ys H2=>i≤n∧m=n-i∧ys=(List.range i).map f∧H2=upd H p (.lst ys),⟨n,aB _,rfl,rfl,rfl⟩,?_⟩
 rintro i m ys H2 ⟨hi,rfl,rfl,rfl⟩
 refine ⟨q8,?_,?_⟩
 ·rw [ac,aJ]
  have:(1000000:Nat)<sizeLine:=by decide
  lia
 ·by_cases hlt:i<n
  ·refine .inr ⟨hlt,?_⟩
   rintro v H3 ⟨rfl,rfl⟩
   refine he i (upd H p (.lst ((List.range i).map f))) _ hlt (Same.upd np) ⟨q8,n-(i+1),by lia,by lia,rfl,?_,?_⟩
   ·rw [cb,aT]
    rfl
   ·rw [ud]
  ·have:i=n:=by lia
   subst this
   exact .inl ⟨af _,k p np⟩
end L2
namespace L2
open PySem PySem.Spec PyProof.Rows
section
variable {X:Cx}
theorem qw9 {pins:List (Aj×Obj)}{σ:St}{H:Hp}{s:Ab}{p:Aj}{ns:List Int}(I:Inv X pins σ H s)(hS:SqL X.K H p (ns.map V.int)) :
  ∃ts:Array (Int×Tok),s.heap.IsList p (intItems ts)∧ns=ts.toList.map (·.1):=by
 obtain ⟨its,rv,⟨o,n,e1,e2,e3,e4⟩,hz⟩:=I.list hS
 have hi:=qjm rv
 obtain ⟨ts,ht⟩:=hi.allInts.items
 refine ⟨ts,⟨o,e1,e2,n,by rw [←ht];exact e4⟩,?_⟩
 have a1:=hi.numsOf
 have a2:=nums_intItems (xs:=ts)
 rw [←ht] at a2
 exact a1.symm.trans a2
theorem qqc (hc:X.calm=true):k4 X (.builtin "min") (λxs H Q=>∃(p:Aj) (ns:List Int),xs=[.ref p]∧SqL X.K H p (ns.map V.int)∧0<ns.length∧∀m,m∈ns→(∀a∈ns,m≤a)→Q (.int m) H):=by
 intro pins s σ H xs us Q I r h
 obtain ⟨p,ns,rfl,hS,hne,q⟩:=h
 obtain ⟨u,rfl,ru⟩:=j5 r
 cases (show u=Value.ref p from ru)
 obtain ⟨ts,hl,he⟩:=qw9 I hS
 have hsz:ts.size=ns.length:=by rw [he,ac,bd]
 refine min_intList (I.ok.hd hc) hl (by lia) λv h' tk hv hk=>?_
 obtain ⟨t,rfl⟩:=intItems_at hv
 obtain ⟨b1,b2⟩:=argBest_lt (numAt ts) (ts.size-1)
 refine ⟨.int _,H,I.kept hk,⟨t,rfl⟩,q _ ?_ λa ha=>?_⟩
 ·rw [he,numAt_eq]
  refine getD_mem ?_
  rw [←he,←hsz]
  lia
 ·rw [he] at ha
  obtain ⟨j,hj,rfl⟩:=mem_getD ha
  rw [←he,←hsz] at hj
  rw [←numAt_eq]
  exact b2 j (by lia)
theorem qq7 (hc:X.calm=true):k4 X (.builtin "max") (λxs H Q=>∃(p:Aj) (ns:List Int),xs=[.ref p]∧SqL X.K H p (ns.map V.int)∧0<ns.length∧∀m,m∈ns→(∀a∈ns,a≤m)→Q (.int m) H):=by
 intro pins s σ H xs us Q I r h
 obtain ⟨p,ns,rfl,hS,hne,q⟩:=h
 obtain ⟨u,rfl,ru⟩:=j5 r
 cases (show u=Value.ref p from ru)
 obtain ⟨ts,hl,he⟩:=qw9 I hS
 have hsz:ts.size=ns.length:=by rw [he,ac,bd]
 refine max_intList (I.ok.hd hc) hl (by lia) λv h' tk hv hk=>?_
 obtain ⟨t,rfl⟩:=intItems_at hv
 obtain ⟨b1,b2⟩:=argBest_gt (numAt ts) (ts.size-1)
 refine ⟨.int _,H,I.kept hk,⟨t,rfl⟩,q _ ?_ λa ha=>?_⟩
 ·rw [he,numAt_eq]
  refine getD_mem ?_
  rw [←he,←hsz]
  lia
 ·rw [he] at ha
  obtain ⟨j,hj,rfl⟩:=mem_getD ha
  rw [←he,←hsz] at hj
  rw [←numAt_eq]
  exact b2 j (by lia)
theorem qvh:∀ {bs:List Bool} {its:List Ag},Vals (bs.map V.bl) its→its=bs.map Value.bool
 |[],_,.nil=>rfl
 |b::bs,_,.cons r t=>by
  have e:_=Value.bool b:=r
  rw [aZ,←qvh t,e]
theorem qug (bs:List Bool):(List.range bs.length).all (λi=>bs.getD i true)=bs.all id:=by
 rw [cA,bT,bT]
 constructor
 ·intro h b hb
  obtain ⟨i,hi,rfl⟩:=cR hb
  have:=h i (bb.mpr hi)
  rw [ay,ar hi] at this
  exact this
 ·intro h i hi
  have hi':=bb.mp hi
  rw [ay,ar hi']
  exact h _ (cM hi')
theorem qqt (hc:X.calm=true):k4 X (.builtin "all") (λxs H Q=>∃(p:Aj) (bs:List Bool),xs=[.ref p]∧SqL X.K H p (bs.map V.bl)∧Q (.bl (bs.all id)) H):=by
 intro pins s σ H xs us Q I r h
 obtain ⟨p,bs,rfl,hS,q⟩:=h
 obtain ⟨u,rfl,ru⟩:=j5 r
 cases (show u=Value.ref p from ru)
 obtain ⟨its,rv,⟨o,n,e1,e2,e3,e4⟩,hz⟩:=I.list hS
 have hits:=qvh rv
 have hl:s.heap.IsList p its.toArray:=⟨o,e1,e2,n,e4⟩
 have hlt:p<s.heap.objs.size:=al e1
 refine call_all_walk (wpAny_pyIter_list hl ?_)
 refine ⟨s.heap.objs.size,_,_,_,_,_,λi=>bs.getD i true,rfl,Walks.list (A:=X.A.in1) (I.ok.hd hc) _ p (av hlt) its.toArray,⟨⟨_,au _ rfl,rfl,rfl⟩,hl.push _⟩,λi v s' Q' E' hP hQ=>?_,λh' tk hk=>?_⟩
 ·have hv:its[i]?=some v:=by simpa using hP
  rw [hits,aH] at hv
  cases hb:bs[i]? with
  |none=>rw [hb] at hv;cases hv
  |some b =>
   rw [hb] at hv
   have ev:Value.bool b=v:=az hv
   subst ev
   refine ce ?_
   have e2:bs.getD i true=b:=by rw [ay,hb];rfl
   have hQ':Q' (bs.getD i true) s':=hQ
   rw [e2] at hQ'
   exact hQ'
 ·have hlen:its.toArray.size=bs.length:=by rw [hits];simp
  rw [hlen,qug]
  refine ⟨.bl _,H,I.kept λb ob e=>hk b ob (λhm=>?_) (ae _ e),rfl,q⟩
  have z:b=s.heap.objs.size:=by simpa using hm
  exact aQ _ (z▸al e)
end
structure MCal (P:Ac)(w:Ah)(K:Aa)(mg:Str→Option Ag)(base:Heap)(C:Aj)(m:Str)(k:Nat)(sp:Sp):Prop where
 ex:∃f fd ps,Meth K C m f∧FnOk P w K mg base (CXE P w) k f fd ps sp∧Binds K fd ps []
structure CCal (P:Ac)(w:Ah)(K:Aa)(mg:Str→Option Ag)(base:Heap)(x:Str)(C:Aj)(k:Nat)(sp:Sp):Prop where
 ex:∃f fd ps,mg x=some (.ref C)∧Mk K C f∧FnOk P w K mg base (CXE P w) k f fd ps sp∧Binds K fd ps []
structure MethIn (K:Aa)(C:Aj)(m qual:Str)(st:Stmt):Prop where
 ex:∃f fd,PySem.W.findIn K (.ref C) m=some (some (.ref f))∧PySem.W.isFn K (.ref f)=true∧Fun K m qual st f fd
theorem wvx {K:Aa}{C:Aj}{m qual:Str}{st:Stmt}{f:Aj}{oc:Ag}{od an:Option Aj}{osl:Array (Option Ag)}{kV doc pm cdv ct:Ag}(a:PySem.W.findIn K (.ref C) m=some (some (.ref f)))(i:PySem.W.isFn K (.ref f)=true)
  (l:K.lookup f=some ⟨oc,od,.func (PySem.W.fnOf m qual (km st) (wf st) (wn st) .none kV doc pm an cdv ct),osl⟩) (c:PySem.W.codeIn K cdv qual=true) (k:PySem.W.keepIn K (.ref f)=true):MethIn K C m qual st:=⟨_,_,a,i,wws l c k⟩
def zb (x qual:Str)(st:Stmt)(ps:List Str):Prop:=∀(kV doc pm:Ag) (an:Option Aj) (cdv ct:Ag) (us:List Ag),us.length=ps.length→bindArgs (PySem.W.fnOf x qual (km st) (wf st) (wn st) .none kV doc pm an cdv ct) ⟨us,[]⟩=pure (ps.zip us)
section
variable {P:Ac}{w:Ah}{K:Aa}{mg:Str→Option Ag}{base:Heap}{C:Aj}
theorem MethIn.cal {m qual:Str}{st:Stmt}{ps:List Str}{k:Nat}{sp:Sp}(d:MethIn K C m qual st)(b:zb m qual st ps)(ok:∀f fd,Fun K m qual st f fd→FnOk P w K mg base (CXE P w) k f fd ps sp):MCal P w K mg base C m k sp:=by
 obtain ⟨f,fd,a,i,F⟩:=d.ex
 exact ⟨f,fd,ps,⟨a,i,F.kp⟩,ok f fd F,F.binds b⟩
theorem MethIn.ccal {x qual:Str}{st:Stmt}{ps:List Str}{k:Nat}{sp:Sp}(d:MethIn K C "__init__" qual st)(hm:mg x=some (.ref C))(mk:PySem.W.makesIn K C=true)(kc:PySem.W.keepIn K (.ref C)=true)(b:zb "__init__" qual st ps)
  (ok:∀f fd,Fun K "__init__" qual st f fd→FnOk P w K mg base (CXE P w) k f fd ps sp):CCal P w K mg base x C k sp:=by
 obtain ⟨f,fd,a,i,F⟩:=d.ex
 exact ⟨f,fd,ps,hm,⟨mk,a,i,kc⟩,ok f fd F,F.binds b⟩
end
section
variable {X:Cx}{C:Aj}{x m:Str}{k:Nat}{sp:Sp}{E:St→XK}{p pos apos:Pos}{e o:Expr}{es:List Expr}{ta:TE}{t:TA}
theorem qqq (c:CCal X.prog X.w X.K X.mg X.base x C k sp)(hr:Room (k+1) X.A)(hg:Gl X x)(hx:jr X E)
  (ha:PA X (e::es) t) (hdb:(x==("__debug__" : Str))=false:=by decide) (he:starEach (e::es) X.env=(false,eval e X.env)::starEach es X.env:=by rfl) (hpl:(backTo pos (starEach es X.env)).any (·.1)=false:=by rfl) :
  PE X (.Call (.Name x p) (e::es) [] pos) (qj4 C sp E t):=by
 obtain ⟨f,fd,ps,hm,M,F,b⟩:=c.ex
 exact ww1 M F hr hg hm b hx ha hdb he hpl
theorem wz7 {pl:Sem Bool}(he:PE X o ta)(cl:Cls X.K C)(c:MCal X.prog X.w X.K X.mg X.base C m k sp)(hr:Room k X.A)(hx:jr X E)(ha:PA X (e::es) t)
  (hst:starEach (e::es) X.env=(false,eval e X.env)::starEach es X.env:=by rfl) (hpl:(backTo pos (starEach es X.env)).any (·.1)=false:=by rfl)
  (ht:eval (.Call (.Attribute o m apos) (e::es) [] pos) X.env=(do
   let ov ←eval o X.env
   standAt apos.atName
   let (f,first) ←holding [ov] (getMethod ov m pl)
   callWith pos f first (backTo pos (starEach (e::es) X.env)) (backToKw pos (keywordEach [] X.env))):=by rfl) :
  PE X (.Call (.Attribute o m apos) (e::es) [] pos) (qqx C m sp E ta t):=by
 obtain ⟨f,fd,ps,hm,F,b⟩:=c.ex
 exact wzd he cl hm F hr b hx ha hst hpl ht
theorem kh {pl:Sem Bool}(he:PE X o ta)(cl:Cls X.K C)(c:MCal X.prog X.w X.K X.mg X.base C m k sp)(hr:Room k X.A)(hx:jr X E)
  (ht:eval (.Call (.Attribute o m apos) [] [] pos) X.env=(do
   let ov ←eval o X.env
   standAt apos.atName
   let (f,first) ←holding [ov] (getMethod ov m pl)
   callWith pos f first (backTo pos (starEach [] X.env)) (backToKw pos (keywordEach [] X.env))):=by rfl) :
  PE X (.Call (.Attribute o m apos) [] [] pos) (qqx C m sp E ta j8):=by
 obtain ⟨f,fd,ps,hm,F,b⟩:=c.ex
 exact wqr he cl hm F hr b hx ht
end
end L2
namespace L2
open PySem
def hAt (hs:List Int)(k:Int):Int:=hs.getD k.toNat 0
def kF (hs:List Int)(t b:Int):Int:=if (hs.length:Int)-1-1<t/b then (hs.length:Int)-1-1 else t/b
def jf (hs:List Int)(t b:Int):Int:=hAt hs (kF hs t b)*b+(hAt hs (kF hs t b+1)-hAt hs (kF hs t b))*(t-kF hs t b*b)
theorem wxy {hs:List Int}{t b:Int}(hl:2≤hs.length)(hb:1≤b)(h0:0≤t):0≤kF hs t b∧kF hs t b<(hs.length:Int)-1:=by
 have h:=fk h0 (show (0:Int)≤b by lia)
 unfold kF
 split <;> lia
theorem wxw {hs:List Int}{t b c:Int}(hc:1≤c):kF hs (t*c) (b*c)=kF hs t b:=by
 unfold kF
 rw [cB _ _ (show 0<c by lia)]
theorem qkg {hs:List Int}{t b c:Int}(hc:1≤c):jf hs (t*c) (b*c)=jf hs t b*c:=by
 unfold jf
 rw [wxw hc]
 generalize hAt hs (kF hs t b)=u
 generalize hAt hs (kF hs t b+1)=v
 generalize kF hs t b=k
 grind
theorem div_in {k t b:Int}(hb:1≤b)(h1:k*b≤t)(h2:t<(k+1)*b):t/b=k:=by
 have a1:k≤t/b:=(Int.le_ediv_iff_mul_le (by lia)).mpr h1
 have a2:t/b<k+1:=(Int.ediv_lt_iff_lt_mul (by lia)).mpr h2
 lia
theorem qkb {hs:List Int}{k t b:Int}(hk:0≤k)(hk2:k<(hs.length:Int)-1)(hb:1≤b)(h1:k*b≤t)(h2:t≤(k+1)*b) :
  jf hs t b=hAt hs k*b+(hAt hs (k+1)-hAt hs k)*(t-k*b):=by
 by_cases hlt:t<(k+1)*b
 ·have e:=div_in hb h1 hlt
  have ek:kF hs t b=k:=by
   unfold kF
   rw [e]
   split <;> lia
  unfold jf
  rw [ek]
 ·have et:t=(k+1)*b:=by lia
  have e:t/b=k+1:=by
   rw [et]
   exact Int.mul_ediv_cancel _ (by lia)
  by_cases hn:(hs.length:Int)-1-1<k+1
  ·have ek:kF hs t b=k:=by
    unfold kF
    rw [e,ak hn]
    lia
   unfold jf
   rw [ek]
  ·have ek:kF hs t b=k+1:=by
    unfold kF
    rw [e,ag hn]
   unfold jf
   rw [ek,et]
   generalize hAt hs k=u
   generalize hAt hs (k+1)=v
   generalize hAt hs (k+1+1)=z
   grind
def y7 (hs:List Int)(t b:Int):Int×Int:=wc (jf hs t b) b
theorem qw5 {hs:List Int}{t b:Int}(hb:1≤b):y7 hs (wc t b).1 (wc t b).2=y7 hs t b:=by
 unfold y7
 have hg:=jm (t:=t) hb
 have e1:(wc t b).1*gOf t b=t:=by rw [du];exact qvm
 have e2:(wc t b).2*gOf t b=b:=by rw [du];exact Jk hb
 have h:=qkg (hs:=hs) (t:=(wc t b).1) (b:=(wc t b).2) hg
 rw [e1,e2] at h
 rw [h]
 conv=>rhs;rw [←e2]
 rw [e2]
 have:=qxj (t:=jf hs (wc t b).1 (wc t b).2) (b:=(wc t b).2) (uh hb) hg
 rw [e2] at this
 exact this.symm
theorem Z6 {t b:Int}(hb:1≤b):(wc t b).1<0↔t<0:=by
 have hg:=jm (t:=t) hb
 have e1:gOf t b*(wc t b).1=t:=qvm
 constructor
 ·intro h
  have:=eC h (show 0<gOf t b by lia)
  rw [e1,Int.mul_zero] at this
  exact this
 ·intro h
  rcases cf (wc t b).1 0 with z|z
  ·exact z
  ·have:=bv z (show 0≤gOf t b by lia)
   rw [e1,Int.mul_zero] at this
   lia
theorem qj9 {t b n:Int}(hb:1≤b):n*(wc t b).2<(wc t b).1↔n*b<t:=by
 have hg:=jm (t:=t) hb
 have e1:gOf t b*(wc t b).1=t:=qvm
 have e2:gOf t b*(wc t b).2=b:=Jk hb
 have e3:gOf t b*(n*(wc t b).2)=n*b:=by
  generalize gOf t b=g at *
  generalize (wc t b).2=y at *
  grind
 constructor
 ·intro h
  have:=eC h (show 0<gOf t b by lia)
  rw [e1,e3] at this
  exact this
 ·intro h
  rcases cf (n*(wc t b).2) (wc t b).1 with z|z
  ·exact z
  ·have:=bv z (show 0≤gOf t b by lia)
   rw [e1,e3] at this
   lia
theorem qxx {N b:Int}(hb:1≤b):b%(wc N b).2=0∧(wc N b).1*(b/(wc N b).2)=N:=by
 have hy:=uh (t:=N) hb
 have cr:=Ws (t:=N) hb
 have hd:(wc N b).2∣b:=⟨gOf N b,by rw [du];exact (Jk hb).symm⟩
 refine ⟨Int.emod_eq_zero_of_dvd hd,?_⟩
 have e:=dL hd
 generalize b/(wc N b).2=q at *
 generalize (wc N b).1=x at *
 generalize (wc N b).2=y at *
 have:y*(x*q-N)=0:=by grind
 rcases Int.mul_eq_zero.mp this with h|h <;> lia
def qy3 (hs:List Int)(t b:Int):Int:=if t/b*b=t then hAt hs (t/b)*b else hAt hs (t/b)*b+(hAt hs (t/b+1)-hAt hs (t/b))*(t-t/b*b)
theorem wzm {hs:List Int}{t b:Int}(hl:2≤hs.length)(hb:1≤b)(h0:0≤t)(h1:t≤((hs.length:Int)-1)*b):qy3 hs t b=jf hs t b:=by
 have k0:=fk h0 (show (0:Int)≤b by lia)
 have k1:t/b*b≤t:=fo t (by lia)
 have k2:t<(t/b+1)*b:=by
  have:=dS t (show 0<b by lia)
  exact this
 unfold qy3
 by_cases hlt:t/b<(hs.length:Int)-1
 ·rw [qkb k0 hlt hb k1 (Int.le_of_lt k2)]
  split
  ·next e=>rw [e];simp
  ·rfl
 ·have ge:(hs.length:Int)-1≤t/b:=by lia
  have m1:=aF ge (show 0≤b by lia)
  have et:t/b*b=t:=by lia
  have ek:t/b=(hs.length:Int)-1:=by
   have:t/b*b=((hs.length:Int)-1)*b:=by lia
   exact cJ (by lia) this
  rw [ak et]
  have et2:t=((hs.length:Int)-1)*b:=by rw [←ek];exact et.symm
  rw [qkb (k:=(hs.length:Int)-1-1) (by lia) (by lia) hb (by rw [et2];exact aF (by lia) (by lia)) (by rw [et2];exact aF (by lia) (by lia)),ek]
  have e5:(hs.length:Int)-1-1+1=(hs.length:Int)-1:=by lia
  rw [e5,et2]
  generalize hAt hs ((hs.length:Int)-1)=u
  generalize hAt hs ((hs.length:Int)-1-1)=v
  generalize (hs.length:Int)-1=n
  grind
theorem wzt {u v b d:Int}(hb:0≤d)(hd:d≤b):(if v<u then v else u)*b≤u*b+(v-u)*d∧u*b+(v-u)*d≤(if v>u then v else u)*b:=by
 by_cases h:v<u
 ·rw [ak h,ag (by lia)]
  have a1:=bv hd (show 0≤u-v by lia)
  have a2:=dv (show 0≤u-v by lia) hb
  constructor <;> grind
 ·rw [ag h]
  have a1:=bv hd (show 0≤v-u by lia)
  have a2:=dv (show 0≤v-u by lia) hb
  by_cases h2:v>u
  ·rw [ak h2]
   constructor <;> grind
  ·rw [ag h2]
   have:v=u:=by lia
   subst this
   constructor <;> grind
end L2
namespace L2
open PySem PySem.Spec PyProof.Rows
def qjg (J:It)(M:List Nat)(tt:TT)(te:TE)(σ:St)(H1:Hp)(Q:VK):Prop:=∀p,H1 p=none→∃W:Nat→Nat→List V→Hp→Prop,(∃m,W 0 m [] (upd H1 p (.lst []))) ∧
 ∀i m ys H2,W i m ys H2→H2 p=some (.lst ys)∧ys.length<sizeLine∧((J.stop i H2∧Q (.ref p) H2)∨(J.go i H2∧∀v H3,J.yld i H2 v H3 →
  tt (vw M σ (some v)) H3 λb H4=>if b=true then te (vw M σ (some v)) H4 (λy H5=>H5 p=some (.lst ys)∧∃m',m'<m∧W (i+1) m' (ys++[y]) (upd H5 p (.lst (ys++[y])))) else H4 p=some (.lst ys)∧∃m',m'<m∧W (i+1) m' ys H4))
def tCompI (M:List Nat)(wi:TI)(tt:TT)(te:TE):TE:=λσ H Q=>wi σ H λJ H1=>qjg J M tt te σ H1 Q
section
variable {X:Cx}{elt iter cd:Expr}{x:Str}{px pos:Pos}{scope:Scope}{cl:List (Str×Aj)}{M:List Nat}{wi:TI}{tt:TT}{te:TE}
theorem wq0 (hc:X.calm=true)(hclos:closureFor scope X.env=pure cl)(hcap:CapAll X.env cl)(hhas:HasAll cl scope.names)(hix:CapIx X scope cl M)(hk:scope.kind=.function)
  (hnames:∀y∈scope.names,y.2=.local→scope.names.lookup y.1=some .local) (hx:scope.names.lookup x=some .local) (hnd:(Zk X x M).Nodup) (hi:PI X (.Name x px) iter wi)
  (ht:∀C s2 H2 fp pn,PT (zt X scope cl x M C s2 H2 fp pn) cd tt) (he:∀C s2 H2 fp pn,PE (zt X scope cl x M C s2 H2 fp pn) elt te) (hs:∀z,foldedSetIterable iter X.env z=pure z)
  {use:Option (Ag→Sem Unit)} {QQ:Ag→Ab→Prop} {pins:List (Aj×Obj)} {s:Ab} {σ:St} {H:Hp} {Q:VK} {ps:Pos} (I:Inv X pins σ H s) (h:wi σ H λJ H1=>qjg J M tt te σ H1 Q)
  (fin:∀(C:Aj) (s2 s4:Ab) (H1 H2:Hp) (fp:List Aj),Inv X pins σ H1 s2→s2.heap.objs.size<C→(∀b∈fp,jh X pins H1 b)→Inv (zt X scope cl x M C s2 H1 fp (X.pn++pins)) [] (vw M σ none) H2 s4→Q (.ref s2.heap.objs.size) H2 →
   compPost (model X.prog X.w) X.A X.xe use QQ (.ref s2.heap.objs.size) C (.ok .next) s4) :
  wpAny (model X.prog X.w) X.A (comprehension (.ListComp elt [⟨.Name x px,iter,[cd],0⟩] scope pos) scope X.env ps (newList []) false (eval iter X.env) use) QQ X.xe s:=by
 refine qw3 hclos hhas hk hnames hi hs I h λit fp tn J H1 s2 C h3 tk I2 T t3 hfp hbl hob hR hlt keep hns hD=>?_
 obtain ⟨W,⟨m0,w0⟩,hW⟩:=hR s2.heap.objs.size (I2.hok.fresh (af _))
 have hxl:(relabel scope X.env).names.lookup x=some .local:=dN hx
 refine W5 (Y:=zt X scope cl x M C s2 H1 fp (X.pn++pins)) (V:=λi n H2=>∃ys,W i n ys H2) (Qd:=Q (.ref s2.heap.objs.size)) (REST:=tstS cd (compEnvC scope cl C X.env) (appS elt (.ref s2.heap.objs.size) (compEnvC scope cl C X.env) _) (again _)) T hc (λ_ _ z=>z) (compTurn_list ..) rfl rfl (xj (i:=0) hnd rfl (.inl hxl) (.inr hxl)) (qz4 hcap I2 hlt hfp hbl) (λi n H2 ⟨ys,w⟩=>?_) (λH2 s4 J4 q=>fin C s2 s4 H1 H2 fp I2 hlt hfp J4 q) (I2.comp hcap hhas hix hk hlt keep hns hD hfp hob) ⟨[],w0⟩ t3 λb hb=>by rw [wg (av (hbl b hb))];exact (hfp b hb).1
 obtain ⟨hp,hz,hcase⟩:=hW i n ys H2 w
 refine hcase.imp id λ⟨hgo,hy⟩=>⟨hgo,λv H3 yl=>⟨λσ4 H4=>σ4=vw M σ (some v)∧H3=H4,⟨rfl,rfl⟩,λ_ _ e=>?_⟩⟩
 obtain ⟨rfl,rfl⟩:=e
 refine ⟨Qy M σ v,λpins' s' J=>?_⟩
 exact wxx (ht _ _ _ _ _) J (hy v H3 yl) (λs6 H6 J6 h6=>aP (qvj (N:=λzs H5=>∃m',m'<n∧W (i+1) m' zs H5) (λ_ _ z=>z) (he _ _ _ _ _) J6 hz h6) (λr s5 ⟨e,H5,J5,zs,m',hm,w'⟩=>⟨e,H5,J5,m',hm,zs,w'⟩) λ_ _ z=>z)
  λs6 H6 J6 ⟨_,m',hm,w'⟩=>am ⟨rfl,H6,J6,m',hm,ys,w'⟩
theorem wzy (hc:X.calm=true)(hclos:closureFor scope X.env=pure cl)(hcap:CapAll X.env cl)(hhas:HasAll cl scope.names)(hix:CapIx X scope cl M)(hk:scope.kind=.function)
  (hnames:∀y∈scope.names,y.2=.local→scope.names.lookup y.1=some .local) (hx:scope.names.lookup x=some .local) (hnd:(Zk X x M).Nodup) (hi:PI X (.Name x px) iter wi)
  (ht:∀C s2 H2 fp pn,PT (zt X scope cl x M C s2 H2 fp pn) cd tt) (he:∀C s2 H2 fp pn,PE (zt X scope cl x M C s2 H2 fp pn) elt te) (hs:∀z,foldedSetIterable iter X.env z=pure z:=by intro _;rfl) :
  PE X (.ListComp elt [⟨.Name x px,iter,[cd],0⟩] scope pos) (tCompI M wi tt te):=by
 intro pins s σ H Q I h
 rw [eval_ListComp]
 refine wq0 hc hclos hcap hhas hix hk hnames hx hnd hi ht he hs (use:=none) I h λC s2 s4 H1 H2 fp I2 hlt hfp J4 hq=>?_
 obtain ⟨m,hn,_⟩:=J4.loc
 exact ⟨m,hn,λh' hs'=>⟨.ref s2.heap.objs.size,H2,I2.uncomp (bA hlt) hfp J4 hs',rfl,hq⟩⟩
end
end L2
namespace L2
open PySem PySem.Spec PyProof.Rows
structure FunD (K:Aa)(x:Str)(st:Stmt)(f:Aj)(fd:Ad):Prop where
 ex:∃(oc:Ag) (od:Option Aj) (T:Aj) (kV doc pm:Ag) (an:Option Aj) (cdv ct:Ag) (osl:Array (Option Ag)),
  fd=PySem.W.fnOf x x (km st) (wf st) (wn st) (.ref T) kV doc pm an cdv ct∧K.lookup f=some ⟨oc,od,.func fd,osl⟩∧PySem.W.codeIn K cdv x=true∧∃o n,K.lookup T=some o∧o.data=.seq #[.none] n
 kp:PySem.W.keepIn K (.ref f)=true
structure DefInD (K:Aa)(x:Str)(st:Stmt):Prop where
 ex:∃f fd,PySem.W.nsIn K mainGlobals x=some (some (.ref f))∧FunD K x st f fd
section
variable {P:Ac}{w:Ah}{K:Aa}{mg:Str→Option Ag}{base:Heap}
theorem wvc {x:Str}{st:Stmt}{f T:Aj}{oc:Ag}{od an:Option Aj}{osl:Array (Option Ag)}{kV doc pm cdv ct:Ag}(a:PySem.W.nsIn K mainGlobals x=some (some (.ref f)))
  (l:K.lookup f=some ⟨oc,od,.func (PySem.W.fnOf x x (km st) (wf st) (wn st) (.ref T) kV doc pm an cdv ct),osl⟩) (c:PySem.W.codeIn K cdv x=true) (k:PySem.W.keepIn K (.ref f)=true) {tc:Ag} {td:Option Aj} {tn:Nat} {ts:Array (Option Ag)} (t:K.lookup T=some ⟨tc,td,.seq #[.none] tn,ts⟩):DefInD K x st:=⟨_,_,a,⟨oc,od,T,kV,doc,pm,an,cdv,ct,osl,rfl,l,c,_,_,t,rfl⟩,k⟩
theorem FunD.okX {x:Str}{st:Stmt}{f:Aj}{fd:Ad}{N ps:List Str}{k:Nat}{sp:Sp}(F:FunD K x st f fd)(S:FnScope N ps (wn st))(len:∀vs H Q E,sp vs H Q E→vs.length=ps.length)
  (body:∀(cdv:Ag) (A:Ae) (outer:List Env) (s:Ab) (H:Hp) (vs:List V) (Q:VK) (E:XK),Room k (A.deeper (envOfC x (wn st) s.heap.objs.size f cdv))→sp vs H Q E →
   ∃t,PSs (Qg (CXE P w) P w K mg base N x (wn st) f cdv A outer s H E) (wf st) t∧t { nx:=λ_ H'=>Q .non H',rt:=Q } (Wv N vs) H):FnOk P w K mg base (CXE P w) (k+1) f fd ps sp:=by
 obtain ⟨oc,od,T,kV,doc,pm,an,cdv,ct,osl,rfl,lk,hcd,_⟩:=F.ex
 exact fn_of lk hcd S len λA outer s H vs Q E hr hsp=>body cdv A outer s H vs Q E hr hsp
def Q1 (x:Str)(st:Stmt)(ps:List Str)(ds:List Ag):Prop:=∀(T:Aj) (kV doc pm:Ag) (an:Option Aj) (cdv ct:Ag) (us:List Ag),(us++ds).length=ps.length →
 ∃kk,bindArgs (PySem.W.fnOf x x (km st) (wf st) (wn st) (.ref T) kV doc pm an cdv ct) ⟨us,[]⟩=seqItems? (.ref T) >>= kk∧kk (some #[.none])=pure (ps.zip (us++ds))
structure CalD (P:Ac)(w:Ah)(K:Aa)(mg:Str→Option Ag)(base:Heap)(x:Str)(k:Nat)(sp:Sp):Prop where
 ex:∃f fd ps,mg x=some (.ref f)∧FnOk P w K mg base (CXE P w) k f fd ps sp∧PySem.W.keepIn K (.ref f)=true∧Binds K fd ps []∧Binds K fd ps [.none]
theorem FunD.binds {x:Str}{st:Stmt}{f:Aj}{fd:Ad}{ps:List Str}{ds:List Ag}(F:FunD K x st f fd)(b:Q1 x st ps ds):Binds K fd ps ds:=by
 obtain ⟨oc,od,T,kV,doc,pm,an,cdv,ct,osl,rfl,lk,hcd,o,n,e1,e2⟩:=F.ex
 intro s us X hl
 obtain ⟨kk,h1,h2⟩:=b T kV doc pm an cdv ct us hl
 exact PySem.W.binds_K X rfl e1 e2 h1 h2
theorem DefInD.cal {x:Str}{st:Stmt}{ps:List Str}{k:Nat}{sp:Sp}{h:Heap}(d:DefInD K x st)(KX:K.In h)(G:h.Ns mainGlobals mg)(b:Q1 x st ps [])(b':Q1 x st ps [.none])(ok:∀f fd,FunD K x st f fd→FnOk P w K mg base (CXE P w) k f fd ps sp):CalD P w K mg base x k sp:=by
 obtain ⟨f,fd,a,F⟩:=d.ex
 exact ⟨f,fd,ps,aL KX G a,ok f fd F,F.kp,F.binds b,F.binds b'⟩
theorem CalD.all {x:Str}{k:Nat}{sp:Sp}(c:CalD P w K mg base x k sp):Cal P w K mg base x k sp:=by
 obtain ⟨f,fd,ps,h1,h2,h3,h4,_⟩:=c.ex
 exact ⟨f,fd,ps,h1,h2,h3,h4⟩
end
section
variable {X:Cx}{x:Str}{k:Nat}{sp:Sp}{E:St→XK}{p pos:Pos}{e:Expr}{es:List Expr}{t:TA}
end
end L2
namespace L2
open PySem PySem.Spec PyProof.Rows
section
variable {κ:Type}[DecidableEq κ]
def wt (kvs:List (κ×V))(k:κ):Option V:=(kvs.find? λkv=>decide (kv.1=k)).map (·.2)
def vj (kvs:List (κ×V))(k:κ)(v:V):List (κ×V) :=
 if (kvs.any λkv=>decide (kv.1=k))=true then kvs.map (λkv=>if kv.1=k then (kv.1,v) else kv) else kvs++[(k,v)]
def uq (kvs:List (κ×V))(k:κ):List (κ×V):=kvs.filter λkv=>decide (kv.1≠k)
theorem zc {p:κ×V}{r:List (κ×V)}{k:κ}(e:p.1=k):wt (p::r) k=some p.2:=by simp [wt,cC,e]
theorem zj {p:κ×V}{r:List (κ×V)}{k:κ}(e:¬ p.1=k):wt (p::r) k=wt r k:=by simp [wt,cC,e]
theorem yy (k:κ):∀kvs:List (κ×V),(kvs.any λkv=>decide (kv.1=k))=(wt kvs k).isSome
 |[]=>rfl
 |p::r=>by
  rw [fA]
  by_cases e:p.1=k
  ·simp only [zc e,bD e,Bool.true_or,Option.isSome_some]
  ·rw [zj e,bp e,Bool.false_or];exact yy k r
theorem qv1 (k j:κ)(y:V):∀kvs:List (κ×V),wt (kvs.map λkv=>if kv.1=k then (kv.1,y) else kv) j=(wt kvs j).map λx=>if j=k then y else x
 |[]=>rfl
 |p::r=>by
  have ih:=qv1 k j y r
  rw [aZ]
  by_cases h:p.1=k
  ·rw [ak h]
   by_cases e:p.1=j
   ·rw [zc (p:=(p.1,y)) e,zc e,cD,ak (e.symm.trans h)]
   ·rw [zj (p:=(p.1,y)) e,zj e,ih]
  ·rw [ag h]
   by_cases e:p.1=j
   ·rw [zc (p:=p) e,zc e,cD,ag (λz=>h (e.trans z))]
   ·rw [zj (p:=p) e,zj e,ih]
theorem W9 (k j:κ)(y:V):∀kvs:List (κ×V),wt kvs k=none→wt (kvs++[(k,y)]) j=if j=k then some y else wt kvs j
 |[],_=>by
  by_cases e:k=j
  ·rw [ak e.symm];exact zc (p:=(k,y)) e
  ·rw [ag (λz=>e z.symm)];exact zj (p:=(k,y)) e
 |p::r,hn=>by
  rw [List.cons_append]
  have hk:¬ p.1=k:=λz=>by rw [zc z] at hn;cases hn
  rw [zj hk] at hn
  have ih:=W9 k j y r hn
  by_cases e:p.1=j
  ·rw [zc e,zc e,ag (λz=>hk (e.trans z))]
  ·rw [zj e,zj e,ih]
theorem Jw (kvs:List (κ×V))(k j:κ)(y:V):wt (vj kvs k y) j=if j=k then some y else wt kvs j:=by
 unfold vj
 by_cases a:(kvs.any λkv=>decide (kv.1=k))=true
 ·rw [ak a,qv1]
  rw [yy] at a
  by_cases e:j=k
  ·obtain ⟨x,hx⟩:=cU.mp a
   rw [ak e,e,hx,cD,ak rfl]
  ·rw [ag e]
   cases wt kvs j with
   |none=>rfl
   |some x=>rw [cD,ag e]
 ·rw [ag a]
  refine W9 k j y kvs ?_
  rw [yy] at a
  cases q:wt kvs k with
  |none=>rfl
  |some x=>rw [q] at a;exact (a rfl).elim
theorem jc (kvs:List (κ×V))(k:κ)(v:V):(vj kvs k v).length≤kvs.length+1:=by
 unfold vj
 split
 ·rw [ac];lia
 ·rw [aG,aX,cX];lia
theorem yj {kvs:List (κ×V)}{k:κ}(v:V)(h:wt kvs k=none):vj kvs k v=kvs++[(k,v)]:=by
 unfold vj
 rw [yy,h]
 exact ag (by decide)
theorem RelO.isSome_eq {o:Option V}{u:Option Ag}(r:RelO o u):o.isSome=u.isSome:=by
 cases o with
 |none=>cases u with
  |none=>rfl
  |some _=>exact (show False from r).elim
 |some _=>cases u with
  |none=>exact (show False from r).elim
  |some _=>rfl
theorem RelO.getD {o:Option V}{u:Option Ag}{d:V}{d':Ag}(r:RelO o u)(rd:RelV d d'):RelV (o.getD d) (u.getD d'):=by
 cases o with
 |none=>cases u with
  |none=>exact rd
  |some _=>exact (show False from r).elim
 |some _=>cases u with
  |none=>exact (show False from r).elim
  |some _=>exact r
theorem KV.val {kvs:List (κ×V)}{vs:List (κ×Ag)}(r:KV kvs vs)(k:κ):RelO (wt kvs k) (valueAt vs k):=by
 unfold KV at r
 induction r with
 |nil=>exact True.intro
 |@cons p q ps qs h t ih =>
  obtain ⟨h1,h2⟩:=h
  by_cases e:p.1=k
  ·have e':q.1=k:=h1.symm.trans e
   have b:valueAt (q::qs) k=some q.2:=by simp [valueAt,cC,e']
   rw [zc e,b];exact h2
  ·have e':¬ q.1=k:=λz=>e (h1.trans z)
   have b:valueAt (q::qs) k=valueAt qs k:=by simp [valueAt,cC,e']
   rw [zj e,b];exact ih
theorem KV.any {kvs:List (κ×V)}{vs:List (κ×Ag)}(r:KV kvs vs)(k:κ):(kvs.any λkv=>decide (kv.1=k))=vs.any λkv=>decide (kv.1=k):=by
 unfold KV at r
 induction r with
 |nil=>rfl
 |cons h t ih=>rw [fA,fA,ih,h.1]
theorem KV.repl {kvs:List (κ×V)}{vs:List (κ×Ag)}(r:KV kvs vs)(k:κ){y:V}{u:Ag}(ry:RelV y u) :
  KV (kvs.map λkv=>if kv.1=k then (kv.1,y) else kv) (vs.map λkv=>if kv.1=k then (kv.1,u) else kv):=by
 unfold KV at r ⊢
 induction r with
 |nil=>exact .nil
 |@cons p q ps qs h t ih =>
  rw [aZ,aZ]
  refine .cons ?_ ih
  obtain ⟨h1,h2⟩:=h
  by_cases e:p.1=k
  ·rw [ak e,ak (h1.symm.trans e)];exact ⟨h1,ry⟩
  ·rw [ag e,ag (λz=>e (h1.trans z))];exact ⟨h1,h2⟩
theorem KV.put {kvs:List (κ×V)}{vs:List (κ×Ag)}(r:KV kvs vs)(k:κ){y:V}{u:Ag}(ry:RelV y u):KV (vj kvs k y) (stored vs k u):=by
 unfold vj stored
 rw [r.any k]
 by_cases e:(vs.any λkv=>decide (kv.1=k))=true
 ·rw [ak e,ak e];exact r.repl k ry
 ·rw [ag e,ag e];exact Paired.snoc r ⟨rfl,ry⟩
theorem KV.drop {kvs:List (κ×V)}{vs:List (κ×Ag)}(r:KV kvs vs)(k:κ):KV (uq kvs k) (without vs k):=by
 unfold KV at r ⊢
 unfold uq without
 induction r with
 |nil=>exact .nil
 |@cons p q ps qs h t ih =>
  obtain ⟨h1,h2⟩:=h
  rw [bt,bt]
  by_cases e:p.1=k
  ·have a:¬ decide (p.1≠k)=true:=by simp [e]
   have b:¬ decide (q.1≠k)=true:=by simp [h1.symm.trans e]
   rw [ag a,ag b];exact ih
  ·have e':¬ q.1=k:=λz=>e (h1.trans z)
   have a:decide (p.1≠k)=true:=by simp [e]
   have b:decide (q.1≠k)=true:=by simp [e']
   rw [ak a,ak b];exact .cons ⟨h1,h2⟩ ih
theorem KV.length {kvs:List (κ×V)}{vs:List (κ×Ag)}(r:KV kvs vs):kvs.length=vs.length:=bo r
theorem qvz (kvs:List (κ×V))(k:κ):(uq kvs k).length≤kvs.length:=cE _ _
end
theorem Qq {P:Ac}{w:Ah}{k:Key}{u:Ag}(r:RelV (kV k) u):(xh P w).is k u=true:=by
 cases k with
 |inl i=>obtain ⟨t,e⟩:=(show ∃t,u=Value.int i t from r);subst e;exact qvq P w i t
 |inr x=>obtain ⟨t,e⟩:=(show ∃t,u=Value.str x t from r);subst e;exact qvp P w x t
theorem qwp {P:Ac}{w:Ah}:∀ {ks:List Key} {us:List Ag},Vals (ks.map kV) us→ItemsAre (xh P w) ks us
 |[],_,r=>by rw [dn] at r;cases r;exact .nil
 |k::ks,_,r=>by
  rw [aZ] at r
  cases r with
  |cons h t=>exact .cons (Qq h) (qwp t)
abbrev KT (H:Hp):List (List Key×V)→List (List Key×Aj×Ag)→Prop:=Paired λp q=>p.1=q.1∧H q.2.1=some (.tup (p.1.map kV))∧RelV p.2 q.2.2
theorem KT.val {H:Hp}{kvs:List (List Key×V)}{xs:List (List Key×Aj×Ag)}(r:KT H kvs xs)(k:List Key):RelO (wt kvs k) ((atKey xs k).map (·.2)):=by
 induction r with
 |nil=>exact True.intro
 |@cons p q ps qs h t ih =>
  obtain ⟨h1,_,h2⟩:=h
  by_cases e:p.1=k
  ·have e':q.1=k:=h1.symm.trans e
   have b:atKey (q::qs) k=some q.2:=by simp [atKey,cC,e']
   rw [zc e,b];exact h2
  ·have e':¬ q.1=k:=λz=>e (h1.trans z)
   have b:atKey (q::qs) k=atKey qs k:=by simp [atKey,cC,e']
   rw [zj e,b];exact ih
theorem KT.repl {H:Hp}{kvs:List (List Key×V)}{xs:List (List Key×Aj×Ag)}(r:KT H kvs xs)(k:List Key){y:V}{u:Ag}(ry:RelV y u) :
  KT H (kvs.map λkv=>if kv.1=k then (kv.1,y) else kv) (xs.map (putAt k u)):=by
 induction r with
 |nil=>exact .nil
 |@cons p q ps qs h t ih =>
  rw [aZ,aZ]
  refine .cons ?_ ih
  obtain ⟨h1,h2,h3⟩:=h
  unfold putAt
  by_cases e:p.1=k
  ·rw [ak e,ak (h1.symm.trans e)];exact ⟨h1,h2,ry⟩
  ·rw [ag e,ag (λz=>e (h1.trans z))];exact ⟨h1,h2,h3⟩
theorem KT.put {H:Hp}{kvs:List (List Key×V)}{xs:List (List Key×Aj×Ag)}(r:KT H kvs xs)(k:List Key){b:Aj}{y:V}{u:Ag}(hb:H b=some (.tup (k.map kV)))(ry:RelV y u) :
  KT H (vj kvs k y) (storedH xs k b u):=by
 have e:(kvs.any λkv=>decide (kv.1=k))=(atKey xs k).isSome:=by
  rw [yy,(r.val k).isSome_eq,eP]
 unfold vj storedH
 rw [e]
 by_cases q:(atKey xs k).isSome=true
 ·rw [ak q,ak q];exact r.repl k ry
 ·rw [ag q,ag q];exact Paired.snoc r ⟨rfl,hb,ry⟩
theorem KT.keeps {H H':Hp}{kvs:List (List Key×V)}{xs:List (List Key×Aj×Ag)}(r:KT H kvs xs)(ht:∀b ys,H b=some (.tup ys)→H' b=some (.tup ys)):KT H' kvs xs :=
 Paired.mapP r λ_ _ z=>⟨z.1,ht _ _ z.2.1,z.2.2⟩
section
variable {P:Ac}{w:Ah}{H:Hp}{h:Heap}{a:Aj}
theorem rd_of {u:HO}(ok:HOk P w H h)(e:Rd H a u):ObjOk P w H h a u:=e.ok ok
theorem Qw {kvs:List (Key×V)}(ok:HOk P w H h)(e:Rd H a (.dK kvs)):kvs.length≤sizeLine∧(a==sysModules)=false∧∃vs,KV kvs vs∧h.DictOf (xh P w) a vs :=
 show ObjOk P w H h a (.dK kvs) from rd_of ok e
theorem qw7 {kvs:List (Key×V)}(ok:HOk P w H h)(e:H a=some (.dK kvs)):kvs.length≤sizeLine∧(a==sysModules)=false∧∃vs,KV kvs vs∧h.DictOf (xh P w) a vs:=Qw ok (.inl e)
theorem ux {ks:List Key}(ok:HOk P w H h)(e:H a=some (.tup (ks.map kV))):(tupleKind (xh P w)).is h ks a:=by
 obtain ⟨_,its,r,o,h1,h2,n,h3⟩:=(show ObjOk P w H h a (.tup (ks.map kV)) from ok a _ e)
 exact ⟨o,its.toArray,n,h1,h2,h3,by simpa using qwp r⟩
theorem Qn {kvs:List (List Key×V)}(ok:HOk P w H h)(e:Rd H a (.dT kvs)):kvs.length≤sizeLine∧(a==sysModules)=false ∧
  ∃xs,KT H kvs xs∧h.DictOfH (tupleKind (xh P w)) a xs:=by
 obtain ⟨z,y,xs,r,o,es,ep,h1,h2,h3,h4,h5⟩:=(show ObjOk P w H h a (.dT kvs) from rd_of ok e)
 refine ⟨z,y,xs,r,o,es,ep,h1,h2,h3,h4,λx hx=>?_,h5⟩
 have all:∀ {l:List (List Key×V)} {m:List (List Key×Aj×Ag)},KT H l m→∀x∈m,(tupleKind (xh P w)).is h x.1 x.2.1:=by
  intro l m q
  induction q with
  |nil=>intro x hx;exact nomatch hx
  |@cons p q ps qs hq t ih =>
   intro x hx
   rcases ai.mp hx with e|hx
   ·subst e
    exact ux ok (by rw [←hq.1];exact hq.2.1)
   ·exact ih x hx
 exact all r x hx
theorem dt_of {kvs:List (List Key×V)}(ok:HOk P w H h)(e:H a=some (.dT kvs)):kvs.length≤sizeLine∧(a==sysModules)=false ∧
  ∃xs,KT H kvs xs∧h.DictOfH (tupleKind (xh P w)) a xs:=Qn ok (.inl e)
end
def DGet (H:Hp)(a:Aj)(y:V)(r:Option V):Prop :=
 (∃kvs k,Rd H a (.dK kvs)∧y=kV k∧r=wt kvs k)∨∃kvs k b,Rd H a (.dT kvs)∧y=.ref b∧H b=some (.tup (k.map kV))∧r=wt kvs k
def DPut (H:Hp)(a:Aj)(y v:V)(H':Hp):Prop :=
 (∃kvs k,H a=some (.dK kvs)∧y=kV k∧kvs.length<sizeLine∧H'=upd H a (.dK (vj kvs k v))) ∨
 ∃kvs k b,H a=some (.dT kvs)∧y=.ref b∧H b=some (.tup (k.map kV))∧kvs.length<sizeLine∧H'=upd H a (.dT (vj kvs k v))
theorem DGet.k {H:Hp}{a:Aj}{kvs:List (Key×V)}{k:Key}(e:H a=some (.dK kvs)):DGet H a (kV k) (wt kvs k):=.inl ⟨kvs,k,.inl e,rfl,rfl⟩
theorem DGet.t {H:Hp}{a b:Aj}{kvs:List (List Key×V)}{k:List Key}(e:H a=some (.dT kvs))(eb:H b=some (.tup (k.map kV))):DGet H a (.ref b) (wt kvs k):=.inr ⟨kvs,k,b,.inl e,rfl,eb,rfl⟩
theorem DPut.k {H:Hp}{a:Aj}{kvs:List (Key×V)}{k:Key}{v:V}(e:H a=some (.dK kvs))(hl:kvs.length<sizeLine):DPut H a (kV k) v (upd H a (.dK (vj kvs k v))):=.inl ⟨kvs,k,e,rfl,hl,rfl⟩
theorem DPut.t {H:Hp}{a b:Aj}{kvs:List (List Key×V)}{k:List Key}{v:V}(e:H a=some (.dT kvs))(eb:H b=some (.tup (k.map kV)))(hl:kvs.length<sizeLine) :
  DPut H a (.ref b) v (upd H a (.dT (vj kvs k v))):=.inr ⟨kvs,k,b,e,rfl,eb,hl,rfl⟩
section
variable {X:Cx}{pins:List (Aj×Obj)}{σ:St}{H:Hp}{s:Ab}{a:Aj}{y v:V}{u r:Ag}{o:Option V}{A:Ae}{E:Ag→Ab→Prop}
theorem Inv.big (I:Inv X pins σ H s):sysModules<s.heap.objs.size:=by
 have h:mainGlobals<s.heap.objs.size:=(I.mod.glob.keeps I.bk).lt
 exact bh (by decide) h
theorem wq3 {Q:Ag→Ab→Prop}(hu:A.units+1<cLine)(I:Inv X pins σ H s)(g:DGet H a y (some v))(ry:RelV y u)(h:∀w' s',Inv X pins σ H s'→RelV v w'→Q w' s') :
  wpAny (model X.prog X.w) A (getItem (.ref a) u) Q E s:=by
 rcases g with ⟨kvs,k,e,ey,l⟩|⟨kvs,k,b,e,ey,eb,l⟩
 ·subst ey
  obtain ⟨z,hd,vs,rel,dd⟩:=Qw I.hok e
  obtain ⟨w',hw,rw'⟩:=RelO.some_of (v:=v) (o:=valueAt vs k) (by rw [l];exact rel.val k)
  exact wpAny_getItem_of (Qq ry) dd.mapOf hw (h w' _ (I.tok _) rw')
 ·subst ey
  cases (show u=Value.ref b from ry)
  obtain ⟨z,hd,xs,rel,dd⟩:=Qn I.hok e
  obtain ⟨w',hw,rw'⟩:=RelO.some_of (v:=v) (o:=(atKey xs k).map (·.2)) (by rw [l];exact rel.val k)
  obtain ⟨p,hp,hp2⟩:=cx.mp hw
  refine wpAny_getItem_heap (bU hu) (ux I.hok eb) dd hp ?_
  rw [hp2]
  exact h w' _ (I.tok _) rw'
theorem d_in {Q:Ag→Ab→Prop}(hu:A.units+1<cLine)(I:Inv X pins σ H s)(g:DGet H a y o)(ry:RelV y u)(h:∀s',Inv X pins σ H s'→Q (.bool o.isSome) s') :
  wpAny (model X.prog X.w) A (compareOp .In u (.ref a)) Q E s:=by
 rcases g with ⟨kvs,k,e,ey,l⟩|⟨kvs,k,b,e,ey,eb,l⟩
 ·subst ey
  obtain ⟨z,hd,vs,rel,dd⟩:=Qw I.hok e
  refine wpAny_in_of (Qq ry) hd dd.mapOf ?_
  rw [← (rel.val k).isSome_eq,←l]
  exact h _ (I.tok _)
 ·subst ey
  cases (show u=Value.ref b from ry)
  obtain ⟨z,hd,xs,rel,dd⟩:=Qn I.hok e
  refine wpAny_in_heap (bU hu) (ux I.hok eb) hd dd ?_
  have q:=(rel.val k).isSome_eq
  rw [eP] at q
  rw [←q,←l]
  exact h _ (I.tok _)
theorem wvn {Q:Ag→Ab→Prop}(hu:A.units+1<cLine)(I:Inv X pins σ H s)(g:DGet H a y o)(ry:RelV y u)(h:∀s',Inv X pins σ H s'→Q (.bool (!o.isSome)) s') :
  wpAny (model X.prog X.w) A (compareOp .NotIn u (.ref a)) Q E s:=by
 rcases g with ⟨kvs,k,e,ey,l⟩|⟨kvs,k,b,e,ey,eb,l⟩
 ·subst ey
  obtain ⟨z,hd,vs,rel,dd⟩:=Qw I.hok e
  refine wpAny_notIn_of (Qq ry) hd dd.mapOf ?_
  rw [← (rel.val k).isSome_eq,←l]
  exact h _ (I.tok _)
 ·subst ey
  cases (show u=Value.ref b from ry)
  obtain ⟨z,hd,xs,rel,dd⟩:=Qn I.hok e
  refine wpAny_notIn_heap (bU hu) (ux I.hok eb) hd dd ?_
  have q:=(rel.val k).isSome_eq
  rw [eP] at q
  rw [←q,←l]
  exact h _ (I.tok _)
theorem uy {h':Heap}{t':Nat}{ob:HO}(I:Inv X pins σ H s)(mu:Mut (H a))(hs:Heap.SameBut a s.heap h')(he:∃q,h'.get? a=some q)(new:ObjOk X.prog X.w (upd H a ob) h' a ob) :
  Inv X pins σ (upd H a ob) { s with heap:=h',toks:=t' } :=
 I.write (x:=a) (e:=a) mu (.inl rfl) (λb q hb z=>(hs.2 b hb).trans z) he new
theorem Zq {P:Ac}{w:Ah}{H':Hp}{h':Heap}{kvs:List (Key×V)}{vs:List (Key×Ag)}(z:kvs.length≤sizeLine)(hd:(a==sysModules)=false)(rel:KV kvs vs)(dd:h'.DictOf (xh P w) a vs) :
  ObjOk P w H' h' a (.dK kvs):=⟨z,hd,vs,rel,dd⟩
theorem qu1 {H':Hp}{Q:Unit→Ab→Prop}(hu:A.units+1<cLine)(I:Inv X pins σ H s)(g:DPut H a y v H')(ry:RelV y u)(rv:RelV v r)(h:∀s',Inv X pins σ H' s'→Q () s') :
  wpAny (model X.prog X.w) A (setItem (.ref a) u r) Q E s:=by
 rcases g with ⟨kvs,k,e,ey,l,eH⟩|⟨kvs,k,b,e,ey,eb,l,eH⟩
 ·subst ey eH
  obtain ⟨z,hd,vs,rel,dd⟩:=qw7 I.hok e
  have hz:vs.length≤sizeLine:=by rw [←rel.length];exact z
  have hl:(vj kvs k v).length≤sizeLine:=by have:=jc kvs k v;lia
  refine wpAny_setItem_pairs (hsz:=hz) (Qq ry) dd λh' dd' hs=>h _ ?_
  have he:∃q,h'.get? a=some q:=let ⟨q,_,_,hq,_⟩:=dd';⟨q,hq⟩
  exact uy I (by rw [e];exact True.intro) hs he (Zq hl hd (rel.put k rv) dd')
 ·subst ey eH
  cases (show u=Value.ref b from ry)
  obtain ⟨z,hd,xs,rel,dd⟩:=dt_of I.hok e
  have hz:xs.length≤sizeLine:=by rw [←bo rel];exact z
  have hl:(vj kvs k v).length≤sizeLine:=by have:=jc kvs k v;lia
  refine wpAny_setItem_heap (hsz:=hz) (bU hu) (ux I.hok eb) dd λh' dd' hs=>h _ ?_
  obtain ⟨q,es,ep,hq,h2,h3,h4,_,h5⟩:=dd'
  refine uy I (by rw [e];exact True.intro) hs ⟨q,hq⟩ ⟨hl,hd,_,(rel.put k eb rv).keeps λc ys ec=>?_,q,es,ep,hq,h2,h3,h4,h5⟩
  rw [wg (ne_of ec e (λz=>nomatch z))]
  exact ec
end
section
variable {X:Cx}{pins:List (Aj×Obj)}{σ:St}{H:Hp}{s:Ab}{a:Aj}{kvs:List (Key×V)}{k:Key}{u:Ag}{A:Ae}{E:Ag→Ab→Prop}
theorem wq5 {Q:Unit→Ab→Prop}(I:Inv X pins σ H s)(e:H a=some (.dK kvs))(ry:RelV (kV k) u)(l:(wt kvs k).isSome=true)(h:∀s',Inv X pins σ (upd H a (.dK (uq kvs k))) s'→Q () s') :
  wpAny (model X.prog X.w) A (delItem (.ref a) u) Q E s:=by
 obtain ⟨z,hd,vs,rel,dd⟩:=qw7 I.hok e
 refine wpAny_delItem_slot dd.typeIs (by decide) eK
  (cN eK dd.typeIs PySem.F.entry_dict_delitem (PySem.F.args_dict_delitem_2 _ _) (meets_dict_delitem_pairs (xh X.prog X.w) a (Qq ry)) ⟨vs,dd,by rw [←rel.length];exact z,by rw [← (rel.val k).isSome_eq];exact l,λh' dd' hs=>h _ ?_⟩)
 have he:∃q,h'.get? a=some q:=let ⟨q,_,_,hq,_⟩:=dd';⟨q,hq⟩
 exact uy I (by rw [e];exact True.intro) hs he (Zq (bH (qvz kvs k) z) hd (rel.drop k) dd')
end
def NoSl (i:Expr):Prop:=∀ov iv,subscripted i false ov iv=operate [ov,iv] (getItem ov iv)
theorem wvr {prog:Ac}{w:Ah}{A:Ae}{E:Ag→Ab→Prop}{s:Ab}{env:Env}{value slice:Expr}{pos:Pos}{T id:String}{Q:Ag→Ab→Prop}
  (hl:typeLookup (.type T) "__getitem__" = pure (some (.builtin id))) (hs:NoSl slice)
  (h:wpAny (model prog w) A (eval value env) (λo s₁=>wpAny (model prog w) A (eval slice env) (λi s₂=>s₂.TypeIs o T∧wpAny (model prog w) A (getItem o i) Q E s₂) E s₁) E s) :
  wpAny (model prog w) A (eval (.Subscript value slice pos) env) Q E s:=by
 refine Subscript_ (aP h (λo s₁ h₁=>aP h₁ (λi s₂ h₂=>?_) λ_ _ x=>x) λ_ _ x=>x)
 obtain ⟨hT,h₂⟩:=h₂
 unfold subscriptTail
 refine aa ?_
 rw [getitemInPython_of_ne hT.not_modules]
 refine aa (fu hT hl ?_)
 have fin:wpAny (model prog w) A (subscripted slice false o i) (λr s₃=>wpAny (model prog w) A (letTemporaryGo value o r >>= λ_=>pure r) Q E s₃) E s₂:=by
  rw [hs o i]
  exact wpAny_operating (aP h₂ (λr s₃ h₃=>aa (wpAny_letTemporaryGo (am h₃))) λ_ _ x=>x)
 first
  |exact am (aa fin)
  |exact aa (am (aa fin))
  |exact aa fin
theorem qv9 {X:Cx}{pins:List (Aj×Obj)}{σ:St}{H:Hp}{s:Ab}{a:Aj}{y:V}{o:Option V}(I:Inv X pins σ H s)(g:DGet H a y o):s.TypeIs (.ref a) "dict" := by
 rcases g with ⟨kvs,k,e,_,_⟩|⟨kvs,k,b,e,_,_,_⟩
 ·obtain ⟨_,_,vs,_,dd⟩:=Qw I.hok e
  exact dd.typeIs
 ·obtain ⟨_,_,xs,_,dd⟩:=Qn I.hok e
  exact dd.typeIs
def tDGet (td ty:TE):TE:=λσ H Q=>td σ H λx H1=>ty σ H1 λy H2=>∃a v,x=.ref a∧DGet H2 a y (some v)∧Q v H2
def tDIn (ty td:TE):TE:=λσ H Q=>ty σ H λy H1=>td σ H1 λx H2=>∃a o,x=.ref a∧DGet H2 a y o∧Q (.bl o.isSome) H2
def wvk (ty td:TE):TE:=λσ H Q=>ty σ H λy H1=>td σ H1 λx H2=>∃a o,x=.ref a∧DGet H2 a y o∧Q (.bl (!o.isSome)) H2
def sDPut (td ty tv:TE):TS:=λD σ H=>tv σ H λv H1=>td σ H1 λx H2=>ty σ H2 λy H3=>∃a H4,x=.ref a∧DPut H3 a y v H4∧D.nx σ H4
def sDDel (td ty:TE):TS:=λD σ H=>td σ H λx H1=>ty σ H1 λy H2=>∃a kvs k,x=.ref a∧H2 a=some (.dK kvs)∧y=kV k∧(wt kvs k).isSome=true∧D.nx σ (upd H2 a (.dK (uq kvs k)))
section
variable {X:Cx}{o i e value:Expr}{pos pos' tpos:Pos}{td ty tv:TE}
theorem yd (hu:X.A.units+1<cLine)(ho:PE X o td)(hi:PE X i ty)(hs:NoSl i):PE X (.Subscript o i pos) (tDGet td ty):=by
 intro pins s σ H Q I h
 refine wvr PySem.F.slot_dict_getitem.lookup hs (thn (ho pins s σ H _ I h) λu s1 ⟨x,H1,I1,rx,q1⟩=>thn (hi pins s1 σ H1 _ I1 q1) λiv s2 ⟨y,H2,I2,ry,a,v,ex,g,q2⟩=>?_)
 subst ex
 obtain rfl:u=Value.ref a:=rx
 exact ⟨qv9 I2 g,wq3 hu I2 g ry λw' s3 I3 rw'=>⟨v,H2,I3,rw',q2⟩⟩
theorem pc_din (hu:X.A.units+1<cLine)(hi:PE X i ty)(ho:PE X o td):PC X .In i o (tDIn ty td):=by
 intro pins s σ H Q I h
 refine thn (hi pins s σ H _ I h) λiv s1 ⟨y,H1,I1,ry,q1⟩=>thn (ho pins s1 σ H1 _ I1 q1) λu s2 ⟨x,H2,I2,rx,a,ov,ex,g,q2⟩=>?_
 subst ex
 obtain rfl:u=Value.ref a:=rx
 exact d_in hu I2 g ry λs3 I3=>⟨.bl ov.isSome,H2,I3,rfl,q2⟩
theorem uc (hu:X.A.units+1<cLine)(hi:PE X i ty)(ho:PE X o td):PC X .NotIn i o (wvk ty td):=by
 intro pins s σ H Q I h
 refine thn (hi pins s σ H _ I h) λiv s1 ⟨y,H1,I1,ry,q1⟩=>thn (ho pins s1 σ H1 _ I1 q1) λu s2 ⟨x,H2,I2,rx,a,ov,ex,g,q2⟩=>?_
 subst ex
 obtain rfl:u=Value.ref a:=rx
 exact wvn hu I2 g ry λs3 I3=>⟨.bl (!ov.isSome),H2,I3,rfl,q2⟩
theorem Zt (hu:X.A.units+1<cLine)(ho:PE X o td)(hi:PE X i ty)(hv:PE X value tv)(hs:swapsWith value (some (.Subscript o i pos')) pos.line X.env=pure false) :
  PS X (.Assign [.Subscript o i pos'] value pos) (sDPut td ty tv):=by
 intro pins s σ H D I h
 refine wpAny_Assign_Subscript (thn (hv pins s σ H _ I h) λr s1 ⟨v,H1,I1,rv,q1⟩=>thn (ho pins s1 σ H1 _ I1 q1) λu s2 ⟨x,H2,I2,rx,q2⟩=>thn (hi pins s2 σ H2 _ I2 q2) λiv s3 ⟨y,H3,I3,ry,a,H4,ex,g,q3⟩=>?_) hs
 subst ex
 obtain rfl:u=Value.ref a:=rx
 exact qu1 hu I3 g ry rv λs4 I4=>⟨σ,H4,I4,q3⟩
theorem wkd (ho:PE X o td)(hi:PE X i ty):PS X (.Delete [.Subscript o i tpos] pos) (sDDel td ty):=by
 intro pins s σ H D I h
 refine wpAny_Delete (wpAny_deleteEach_cons (wpAny_delete_Subscript (thn (ho pins s σ H _ I h) λu s1 ⟨x,H1,I1,rx,q1⟩=>thn (hi pins s1 σ H1 _ I1 q1) λiv s2 ⟨y,H2,I2,ry,a,kvs,k,ex,e,ey,l,q2⟩=>?_)))
 subst ex ey
 obtain rfl:u=Value.ref a:=rx
 exact wq5 I2 e ry l λs3 I3=>wpAny_deleteEach_nil ⟨σ,_,I3,q2⟩
end
theorem qv3 {P:Ac}{w:Ah}{H:Hp}(h:Heap)(hb:sysModules<h.objs.size):ObjOk P w H (h.push { cls:=.type "dict",data:=.dict #[] }) h.objs.size (.dK []) :=
 ⟨aB _,aK.mpr (aW (av hb)),[],.nil,Heap.DictOf.new h⟩
theorem qkf {P:Ac}{w:Ah}{H:Hp}(h:Heap)(hb:sysModules<h.objs.size):ObjOk P w H (h.push { cls:=.type "dict",data:=.dict #[] }) h.objs.size (.dT []) :=
 ⟨aB _,aK.mpr (aW (av hb)),[],.nil,_,#[],0,au _ rfl,⟨rfl,rfl,rfl⟩,rfl,rfl,aU⟩
def tDNewK:TE:=λ_ H Q=>∀p,H p=none→Q (.ref p) (upd H p (.dK []))
def tDNewT:TE:=λ_ H Q=>∀p,H p=none→Q (.ref p) (upd H p (.dT []))
section
variable {X:Cx}{pos:Pos}
theorem jd:PE X (.Dict [] [] pos) tDNewK:=λpins s σ H Q I h =>
 wpAny_Dict_empty ⟨.ref s.heap.objs.size,_,I.laid (a:=s.heap.objs.size) (o:=.dK []) (t':=s.toks) (λ_ _ q=>ae _ q) (af _) (qv3 s.heap I.big),rfl,h _ (I.hok.fresh (af _))⟩
theorem wwd:PE X (.Dict [] [] pos) tDNewT:=λpins s σ H Q I h =>
 wpAny_Dict_empty ⟨.ref s.heap.objs.size,_,I.laid (a:=s.heap.objs.size) (o:=.dT []) (t':=s.toks) (λ_ _ q=>ae _ q) (af _) (qkf s.heap I.big),rfl,h _ (I.hok.fresh (af _))⟩
end
end L2
namespace L2
open PySem PySem.Spec PyProof.Rows
def qk8:List (TE×TE)→St→Hp→(List (V×V)→Hp→Prop)→Prop
 |[],_,H,Q=>Q [] H
 |(tk,tv)::r,σ,H,Q=>tk σ H λx H1=>tv σ H1 λy H2=>qk8 r σ H2 λps H3=>Q ((x,y)::ps) H3
abbrev VV:List (V×V)→List (Ag×Ag)→Prop:=Paired λp q=>RelV p.1 q.1∧RelV p.2 q.2
def PPs (X:Cx)(pos:Pos)(keys:List (Option Expr))(values:List Expr)(trs:List (TE×TE)):Prop :=
 ∀(pins:List (Aj×Obj)) (s:Ab) (σ:St) (H:Hp) (Q:List (V×V)→Hp→Prop),Inv X pins σ H s→qk8 trs σ H Q →
  wpAny (model X.prog X.w) X.A (evalPairs (pairTrees keys values X.env pos)) (λvs s'=>∃ps H',Inv X pins σ H' s'∧VV ps vs∧Q ps H') X.xe s
theorem Z4 {X:Cx}{pos:Pos}:PPs X pos [] [] []:=λpins s σ H Q I h=>pairTrees_nil_walk ⟨[],H,I,.nil,h⟩
theorem Wf {X:Cx}{pos:Pos}{k v:Expr}{ks:List (Option Expr)}{vs:List Expr}{tk tv:TE}{trs:List (TE×TE)}(hk:PE X k tk)(hv:PE X v tv)(hr:PPs X pos ks vs trs) :
  PPs X pos (some k::ks) (v::vs) ((tk,tv)::trs):=λpins s σ H Q I h =>
 pairTrees_cons_walk (thn (hk pins s σ H _ I h) λu s1 ⟨x,H1,I1,rx,q1⟩=>thn (hv pins s1 σ H1 _ I1 q1) λw2 s2 ⟨y,H2,I2,ry,q2⟩ =>
  thn (hr pins s2 σ H2 _ I2 q2) λws s3 ⟨ps,H3,I3,rel,q3⟩=>⟨(x,y)::ps,H3,I3,.cons ⟨rx,ry⟩ rel,q3⟩)
def Qj (kvs more:List (Key×V)):List (Key×V):=more.foldl (λacc kv=>vj acc kv.1 kv.2) kvs
theorem KV.merge:∀ {more:List (Key×V)} {rs:List (Key×Ag)} {kvs:List (Key×V)} {vs:List (Key×Ag)},KV more rs→KV kvs vs→KV (Qj kvs more) (merged vs rs):=by
 intro more rs kvs vs r
 unfold KV at r
 induction r generalizing kvs vs with
 |nil=>intro q;exact q
 |@cons p q ps qs h t ih =>
  intro r0
  have e:KV (vj kvs p.1 p.2) (stored vs q.1 q.2):=by
   have:=r0.put p.1 h.2
   rw [←h.1];exact this
  exact ih e
theorem u9:∀(more kvs:List (Key×V)),(Qj kvs more).length≤kvs.length+more.length
 |[],kvs=>by show kvs.length≤kvs.length+0;lia
 |p::r,kvs=>by
  have h1:=u9 r (vj kvs p.1 p.2)
  have h2:=jc kvs p.1 p.2
  show (Qj (vj kvs p.1 p.2) r).length≤_
  rw [aX];lia
theorem qqj {P:Ac}{w:Ah}:∀ {kvs:List (Key×V)} {ws:List (Ag×Ag)},VV (kvs.map λkv=>(kV kv.1,kv.2)) ws→∃rs,Carries (xh P w) ws rs∧KV kvs rs
 |[],_,r=>by rw [dn] at r;cases r;exact ⟨[],True.intro,.nil⟩
 |p::kvs,_,r=>by
  rw [aZ] at r
  cases r with
  |@cons a b as bs h t =>
   obtain ⟨rs,c,q⟩:=qqj (P:=P) (w:=w) t
   obtain ⟨b1,b2⟩:=b
   exact ⟨(p.1,b2)::rs,⟨Qq h.1,rfl,c⟩,.cons ⟨rfl,h.2⟩ q⟩
def tDisp (trs:List (TE×TE)):TE:=λσ H Q=>∀p,H p=none→qk8 trs σ (upd H p (.dK [])) λps H2=>H2 p=some (.dK [])∧∃kvs:List (Key×V),ps=kvs.map (λkv=>(kV kv.1,kv.2))∧kvs.length≤15∧Q (.ref p) (upd H2 p (.dK (Qj [] kvs)))
theorem Z1 {X:Cx}{pos:Pos}{keys:List (Option Expr)}{values:List Expr}{trs:List (TE×TE)}(h:PPs X pos keys values trs)(hall:keys.all (·.isSome)=true)(hl:keys.length=values.length)(h0:keys≠[])
  (h15:keys.length≤15):PE X (.Dict keys values pos) (tDisp trs):=by
 intro pins s σ H Q I q
 have hn:=I.hok.fresh (af s.heap.objs.size)
 have I1:=I.laid (a:=s.heap.objs.size) (o:=.dK []) (h':=s.heap.push { cls:=.type "dict",data:=.dict #[] }) (t':=s.toks) (λ_ _ q=>ae _ q) (af _) (qv3 s.heap I.big)
 refine wpAny_Dict_walk (knd:=xh X.prog X.w) hall hl h0 h15 (thn (h pins _ σ _ _ I1 (q _ hn)) λws s2 ⟨ps,H2,I2,rel,e,kvs,ep,lk,q2⟩=>?_)
 subst ep
 obtain ⟨rs,c,rk⟩:=qqj (P:=X.prog) (w:=X.w) rel
 obtain ⟨z,hd,vs0,r0,dd⟩:=qw7 I2.hok e
 cases r0
 refine ⟨rs,c,dd,λh' dd' hs=>⟨.ref s.heap.objs.size,_,?_,rfl,q2⟩⟩
 have hz:(Qj [] kvs).length≤sizeLine:=by
  have h1:=u9 kvs []
  rw [cX] at h1
  rw [sizeLine_eq];lia
 have he:∃q,h'.get? s.heap.objs.size=some q:=let ⟨q,_,_,hq,_⟩:=dd';⟨q,hq⟩
 exact uy I2 (by rw [e];exact True.intro) hs he (Zq hz hd (rk.merge .nil) dd')
structure M1 (X:Cx)(o:Expr)(m:Str)(apos:Pos)(e:Expr)(cpos:Pos):Prop where
 base:attributeBase o m X.env (eval o X.env)=eval o X.env
 few:((backTo cpos (starEach [e] X.env)).all (λx=>!x.1)&&(backToKw cpos (keywordEach [] X.env)).all (λx=>x.1.isSome)
  && decide (([e]:List Expr).length+([]:List Keyword).length+(if ([]:List Keyword).isEmpty then 0 else 1)<30))=true
 line:(apos.endLine==cpos.line)=true
 trees:backTo cpos (starEach [e] X.env)=[(false,eval e X.env)]
structure M2 (X:Cx)(o:Expr)(m:Str)(apos:Pos)(e f:Expr)(cpos:Pos):Prop where
 base:attributeBase o m X.env (eval o X.env)=eval o X.env
 few:((backTo cpos (starEach [e,f] X.env)).all (λx=>!x.1)&&(backToKw cpos (keywordEach [] X.env)).all (λx=>x.1.isSome)
  && decide (([e,f]:List Expr).length+([]:List Keyword).length+(if ([]:List Keyword).isEmpty then 0 else 1)<30))=true
 line:(apos.endLine==cpos.line)=true
 trees:backTo cpos (starEach [e,f] X.env)=[(false,eval e X.env),(false,eval f X.env)]
def IsD (H:Hp)(a:Aj):Prop:=(∃kvs,Rd H a (.dK kvs))∨∃kvs,Rd H a (.dT kvs)
theorem qyx {X:Cx}{pins:List (Aj×Obj)}{σ:St}{H:Hp}{s:Ab}{a:Aj}(I:Inv X pins σ H s)(d:IsD H a) :
  s.TypeIs (.ref a) "dict" ∧ (∀b,Value.ref a=.ref b→∃ob,s.heap.get? b=some ob∧ob.dict=none)∧(a==sysModules)=false:=by
 rcases d with ⟨kvs,e⟩|⟨kvs,e⟩
 ·obtain ⟨_,hd,vs,_,dd⟩:=Qw I.hok e
  refine ⟨dd.typeIs,λb q=>?_,hd⟩
  cases q
  obtain ⟨ob,_,_,h1,h2,_⟩:=dd
  exact ⟨ob,h1,h2.2.1⟩
 ·obtain ⟨_,hd,xs,_,dd⟩:=Qn I.hok e
  refine ⟨dd.typeIs,λb q=>?_,hd⟩
  cases q
  obtain ⟨ob,_,_,h1,h2,_⟩:=dd
  exact ⟨ob,h1,h2.2.1⟩
section
variable {X:Cx}{pins:List (Aj×Obj)}{σ:St}{H:Hp}{s:Ab}{a:Aj}{y d:V}{u r:Ag}{o:Option V}{A:Ae}{E:Ag→Ab→Prop}
theorem d_get1 {Q:Ag→Ab→Prop}(hu:A.units+1<cLine)(I:Inv X pins σ H s)(g:DGet H a y o)(ry:RelV y u)(h:∀w' s',Inv X pins σ H s'→RelV (o.getD .non) w'→Q w' s') :
  wpAny (model X.prog X.w) A (call (.builtin "dict.get") [.ref a,u]) Q E s:=by
 rcases g with ⟨kvs,k,e,ey,l⟩|⟨kvs,k,b,e,ey,eb,l⟩
 ·subst ey
  obtain ⟨z,hd,vs,rel,dd⟩:=Qw I.hok e
  refine cN bF dd.typeIs cy (eZ _ _) (meets_dict_get (xh X.prog X.w) a (Qq ry) hd) ⟨_,dd.mapOf,h _ _ (I.tok _) ?_⟩
  rw [l]
  exact (rel.val k).getD rfl
 ·subst ey
  cases (show u=Value.ref b from ry)
  obtain ⟨z,hd,xs,rel,dd⟩:=Qn I.hok e
  refine cN bF dd.typeIs cy (eZ _ _) (meetsH_dict_get (tupleKind (xh X.prog X.w)) a b hd) ⟨bU hu,k,xs,ux I.hok eb,dd,h _ _ (I.tok _) ?_⟩
  rw [l]
  exact (rel.val k).getD rfl
theorem d_get2 {Q:Ag→Ab→Prop}(hu:A.units+1<cLine)(I:Inv X pins σ H s)(g:DGet H a y o)(ry:RelV y u)(rd:RelV d r)(h:∀w' s',Inv X pins σ H s'→RelV (o.getD d) w'→Q w' s') :
  wpAny (model X.prog X.w) A (call (.builtin "dict.get") [.ref a,u,r]) Q E s:=by
 rcases g with ⟨kvs,k,e,ey,l⟩|⟨kvs,k,b,e,ey,eb,l⟩
 ·subst ey
  obtain ⟨z,hd,vs,rel,dd⟩:=Qw I.hok e
  refine cN bF dd.typeIs cy (ff _ _ _) (meets_dict_get_default (xh X.prog X.w) a (Qq ry) hd r) ⟨_,dd.mapOf,h _ _ (I.tok _) ?_⟩
  rw [l]
  exact (rel.val k).getD rd
 ·subst ey
  cases (show u=Value.ref b from ry)
  obtain ⟨z,hd,xs,rel,dd⟩:=Qn I.hok e
  refine cN bF dd.typeIs cy (ff _ _ _) (meetsH_dict_get_default (tupleKind (xh X.prog X.w)) a b hd r) ⟨bU hu,k,xs,ux I.hok eb,dd,h _ _ (I.tok _) ?_⟩
  rw [l]
  exact (rel.val k).getD rd
end
def tDGet1 (td ty:TE):TE:=λσ H Q=>td σ H λx H1=>∃a,x=.ref a∧IsD H1 a∧ty σ H1 λy H2=>∃o,DGet H2 a y o∧Q (o.getD .non) H2
def tDGet2 (td ty tx:TE):TE:=λσ H Q=>td σ H λx H1=>∃a,x=.ref a∧IsD H1 a∧ty σ H1 λy H2=>tx σ H2 λz H3=>∃o,DGet H3 a y o∧Q (o.getD z) H3
section
variable {X:Cx}{o e f:Expr}{apos cpos:Pos}{td ty tx:TE}
theorem wxh (hu:X.A.units+1<cLine)(ho:PE X o td)(he:PE X e ty)(m:M1 X o "get" apos e cpos):PE X (.Call (.Attribute o "get" apos) [e] [] cpos) (tDGet1 td ty):=by
 intro pins s σ H Q I h
 refine wpAny_Call_method m.base m.few m.line df bF PySem.F.type_dict_get (thn (ho pins s σ H _ I h) λu s1 ⟨x,H1,I1,rx,a,ex,d,q1⟩=>?_)
 subst ex
 obtain rfl:u=Value.ref a:=rx
 obtain ⟨t1,t2,_⟩:=qyx I1 d
 refine ⟨t1,t2,?_⟩
 rw [m.trees]
 refine bQ rfl (cI (cY (thn (he pins s1 σ H1 _ I1 q1) λiv s2 ⟨y,H2,I2,ry,ov,g,q2⟩=>eO ?_)))
 exact d_get1 hu I2 g ry λw' s3 I3 rw'=>⟨_,H2,I3,rw',q2⟩
theorem qv2 (hu:X.A.units+1<cLine)(ho:PE X o td)(he:PE X e ty)(hf:PE X f tx)(m:M2 X o "get" apos e f cpos):PE X (.Call (.Attribute o "get" apos) [e,f] [] cpos) (tDGet2 td ty tx):=by
 intro pins s σ H Q I h
 refine wpAny_Call_method m.base m.few m.line df bF PySem.F.type_dict_get (thn (ho pins s σ H _ I h) λu s1 ⟨x,H1,I1,rx,a,ex,d,q1⟩=>?_)
 subst ex
 obtain rfl:u=Value.ref a:=rx
 obtain ⟨t1,t2,_⟩:=qyx I1 d
 refine ⟨t1,t2,?_⟩
 rw [m.trees]
 refine bQ rfl (cI (cY (thn (he pins s1 σ H1 _ I1 q1) λiv s2 ⟨y,H2,I2,ry,q2⟩ =>
  cY (thn (hf pins s2 σ H2 _ I2 q2) λfv s3 ⟨z,H3,I3,rz,ov,g,q3⟩=>eO ?_))))
 exact d_get2 hu I3 g ry rz λw' s4 I4 rw'=>⟨_,H3,I4,rw',q3⟩
end
section
variable {X:Cx}{pins:List (Aj×Obj)}{σ:St}{H:Hp}{s:Ab}{a:Aj}{kvs:List (Key×V)}{A:Ae}{E:Ag→Ab→Prop}
theorem ww2 {Q:Ag→Ab→Prop}(I:Inv X pins σ H s)(e:Rd H a (.dK kvs))(h:∀p s',H p=none→Inv X pins σ (upd H p (.dK kvs)) s'→Q (.ref p) s'):wpAny (model X.prog X.w) A (call (.type "dict") [.ref a]) Q E s:=by
 obtain ⟨z,hd,vs,rel,dd⟩:=Qw I.hok e
 refine kt_call_dict hd dd (by rw [←rel.length];exact z) λh' dd' hs=>?_
 refine h _ _ (I.hok.fresh (af _)) (I.laid (a:=s.heap.objs.size) (o:=.dK kvs) (t':=s.toks) (λb q hq=>?_) (af _) (Zq z (aK.mpr (aW (av I.big))) rel dd'))
 exact (hs.2 b (av (al hq))).trans (ae _ hq)
end
section
variable {X:Cx}{pins:List (Aj×Obj)}{σ:St}{H:Hp}{s:Ab}{a:Aj}{y:V}{u:Ag}{A:Ae}{E:Ag→Ab→Prop}
end
end L2
namespace L2
open PySem PySem.Spec PyProof.Rows PySem.W
def RawD (h:Heap)(d:Aj)(es:Array DictEntry)(ep:Nat):Prop:=∃o,h.get? d=some o∧o.ExactDict∧o.data=.dict es ep
section
variable {prog:Ac}{w:Ah}{A:Ae}{E:Ag→Ab→Prop}{s:Ab}{d:Aj}{es:Array DictEntry}{ep:Nat}
theorem RawD.ty {s:Ab}(x:RawD s.heap d es ep):s.TypeIs (.ref d) "dict" := let ⟨o,ho,hc,_⟩:=x;⟨o,ho,hc.1⟩
theorem RawD.lt {h:Heap}(x:RawD h d es ep):d<h.objs.size:=let ⟨_,ho,_⟩:=x;al ho
theorem RawD.at {h h':Heap}(x:RawD h d es ep)(k:∀o,h.get? d=some o→h'.get? d=some o):RawD h' d es ep:=let ⟨o,ho,r⟩:=x;⟨o,k o ho,r⟩
theorem wx7 {Q:Ag→Ab→Prop}(hd:(d==sysModules)=false)(hm:RawD s.heap d es ep)
  (hQ:Q (.ref s.heap.objs.size) { s with heap:=s.heap.push { cls:=.type "dict_keyiterator",data:=.fields #[.ref d,.int 0 0,.int es.size 0,.int ep 0] } }):wpAny (model prog w) A (pyIter (.ref d)) Q E s:=by
 obtain ⟨o,ho,hc,hdat⟩:=id hm
 (refine wpAny_pyIter_slot hm.ty F.slot_dict_iter (dG F.slot_dict_iter hm.ty F.entry_dict_iter ?_ (F.args_dict_iter_1 _)) ;unfold Builtin.«dict.__iter__» ;refine aa ?_ ;unfold Builtin.Dict.dictSlotNone ;refine aa (wpAny_notOrdered_dict hm.ty ?_))
 (show wpAny _ _ (pure (Value.ref d)) _ _ s ;refine am ?_ ;show wpAny _ _ (Builtin.Dict.showsAll d >>= _) _ _ s ;unfold Builtin.Dict.showsAll ;rw [ag (by rw [hd];exact aA)])
 (refine aa (am ?_) ;refine aa (bM ho hdat ?_) ;refine aa (fw ho hdat ?_))
 refine aa (bL (am ⟨_,rfl,"dict_keyiterator",_,⟨_,au _ rfl,rfl⟩,bB.lookup,?_⟩)) ;simpa [rawInt] using hQ
theorem wz2 {it:Aj}{i:Nat}{e:DictEntry}{Q:Option Ag→Ab→Prop}(hit:s.heap.IsKeyIter it d i es.size ep)(hm:RawD s.heap d es ep)(hx:es[i]?=some e)
  (hQ:∀h',h'.IsKeyIter it d (i+1) es.size ep→Heap.SameBut it s.heap h'→Q (some e.key) { s with heap:=h' }):wpAny (model prog w) A (pyNext (.ref it)) Q E s:=by
 obtain ⟨o,ho,hc,hd⟩:=id hit ;obtain ⟨od,hod,hcd,hdd⟩:=id hm
 (unfold pyNext ;refine aa (wpAny_attempt (dh (name:=Str.ofString "__next__") hit.typeIs bB (dG bB hit.typeIs dO ?_ (dH _)))) ;refine aa (am ?_) ;refine aa ?_ ;refine aa ?_)
 ((first | refine aa (bK hit.typeIs (am ?_)) | refine aa (cg hit.typeIs (am ?_))) ;refine aa (wpAny_fieldsOf ho hd ?_) ;simp only [show Builtin.Dict_items.ownsTuple "dict_keyiterator" = false by decide,bV,eE] ;show wpAny _ _ (if (Value.ref d==Value.none)=true then _ else _) _ _ s ;rw [ag (show ¬ ((Value.ref d==Value.none)=true) from aA)] ;refine aa (am ?_) ;refine aa (bM hod hdd ?_) ;rw [ag (by simp)] ;refine aa (am ?_) ;refine aa (fw hod hdd ?_) ;rw [ag (by simp)] ;refine am ?_)
 have hlt:i<es.size:=(eI.mp hx).1 ;have he:es[i]=e:=(eI.mp hx).2
 (simp only [show ¬ ((i:Int)<0) from by lia,eE,cF,bE hlt] ;refine aa ?_ ;(first | refine aa (bK hit.typeIs (am ?_)) | refine aa (cg hit.typeIs (am ?_))) ;refine aa (wpAny_isOneOf_keyiter hit.typeIs ?_) ;show wpAny _ _ (setField (.ref it) 1 (rawInt ((i:Int)+1)) >>= _) _ _ s ;refine aa (wpAny_setField ho hd (by simp) ?_))
 have hit':(s.heap.update it (Obj.mapFields (·.setIfInBounds 1 (rawInt ((i:Int)+1))))).IsKeyIter it d (i+1) es.size ep:=⟨_,Heap.get?_update_self _ ho (Obj.isFreed_of_fields (Obj.data_mapFields hd _)),(Obj.cls_mapFields ..).trans hc,by rw [Obj.data_mapFields hd];simp [rawInt]⟩
 (refine aa (cW ?_) ;refine aa (wpAny_isOneOf_keyiter (s:={ s with heap:=s.heap.update it (Obj.mapFields (·.setIfInBounds 1 (rawInt ((i:Int)+1)))) }) hit'.typeIs ?_) ;show wpAny _ _ (pure es[i].key) _ _ _ ;rw [he])
 exact am (am ⟨_,rfl,am (hQ _ hit' (cS ..))⟩)
theorem wv6 {it:Aj}{i:Nat}{Q:Option Ag→Ab→Prop}(hh:A.handled=none)(hit:s.heap.IsKeyIter it d i es.size ep)(hm:RawD s.heap d es ep)(hx:es.size≤i)(hQ:∀h',Heap.ExtBut it s.heap h'→Q none { s with heap:=h' }):wpAny (model prog w) A (pyNext (.ref it)) Q E s:=by
 obtain ⟨o,ho,hc,hd⟩:=id hit ;obtain ⟨od,hod,hcd,hdd⟩:=id hm
 (unfold pyNext ;refine aa (wpAny_attempt (dh (name:=Str.ofString "__next__") hit.typeIs bB (dG bB hit.typeIs dO ?_ (dH _)))) ;refine aa (am ?_) ;refine aa ?_ ;refine aa ?_)
 ((first | refine aa (bK hit.typeIs (am ?_)) | refine aa (cg hit.typeIs (am ?_))) ;refine aa (wpAny_fieldsOf ho hd ?_) ;simp only [show Builtin.Dict_items.ownsTuple "dict_keyiterator" = false by decide,bV,eE] ;show wpAny _ _ (if (Value.ref d==Value.none)=true then _ else _) _ _ s ;rw [ag (show ¬ ((Value.ref d==Value.none)=true) from aA)] ;refine aa (am ?_) ;refine aa (bM hod hdd ?_) ;rw [ag (by simp)] ;refine aa (am ?_) ;refine aa (fw hod hdd ?_) ;rw [ag (by simp)] ;refine am ?_)
 (simp only [show ¬ ((i:Int)<0) from by lia,eE,cF,bR hx] ;refine aa ?_ ;(first | refine aa (bK hit.typeIs (am ?_)) | refine aa (cg hit.typeIs (am ?_))) ;show wpAny _ _ (setField (.ref it) 0 .none >>= _) _ _ s ;refine aa (wpAny_setField ho hd (by simp) ?_) ;show wpAny _ _ (newExc (.type "StopIteration") [] >>= _) _ _ _ ;refine aa ?_ ;simp only [newExc,newTuple])
 (refine aa (bL ?_ (by size_fits)) ;refine aa (m:=firstArgMember _ _) (wpAny_of_eq (a:=Value.none) (by first | rfl | (simp only [firstArgMember];rfl)) ?_) ;refine bL ?_ (by size_fits) ;simp only [raiseNew] ;refine aa (wpAny_handled ?_) ;rw [show A.in1.handled=none from hh] ;refine aa (am (wpAny_throw ?_)))
 refine aa (wpAny_isInstance (T := "StopIteration") (b:=true) ⟨_,au _ rfl,rfl⟩ isSubtype_stop (am (hQ _ (((cS ..).extBut.push _).push _))))
theorem quh (hh:A.handled=none)(I:Aj)(hne:d≠I):Walks prog w A I [I,d] [I] es.size (λi v=>∃e,es[i]?=some e∧v=e.key) (λi h=>h.IsKeyIter I d i es.size ep∧RawD h d es ep) where
 sub:=λb hb=>by simp at hb;simp [hb]
 frame:=λ_ _ _ st hk=>⟨st.1.at λo e=>hk I (by simp) o e,st.2.at λo e=>hk d (by simp) o e⟩
 item:=λi s Q E hi st hQ=>wz2 st.1 st.2 (bE hi) λh' it' sb=>hQ _ h' s.toks ⟨_,bE hi,rfl⟩ ⟨it',st.2.at λo e=>sb.extBut d o hne e⟩ λb o hb e=>sb.extBut b o (λh=>hb (by simp [h])) e
 done:=λs Q E st hQ=>wv6 hh st.1 st.2 (af _) λh' eb=>hQ h' s.toks λb o hb e=>eb b o (λh=>hb (by simp [h])) e
 self:=λ_ _ _ _ st hQ=>wpAny_pyIter_keyiter st.1 hQ
theorem wkv (lo:(d==sysModules)=false):KdlSrc prog w "dict" d d es.size (λi v=>∃e,es[i]?=some e∧v=e.key) (λh=>RawD h d es ep) where
 type:=λ_ hm=>hm.ty
 there:=λ_ hm=>⟨hm.lt,hm.lt⟩
 keep:=λ_ _ hm hk=>hm.at λo e=>hk d (.inl rfl) o e
 notList:=by decide
 notTuple:=by decide
 hint:=λ_ _ _ _ hm hq=>kdl_hint_dict hm.ty hq
 iter:=λ_ _ hh hm=>⟨_,_,(λ_ _ hq=>wx7 lo hm hq),quh hh _ (av hm.lt),⟨⟨_,au _ rfl,rfl,rfl⟩,hm.at λo e=>ae _ e⟩⟩
theorem qq1 (hd:(d==sysModules)=false):MeetsIn prog w (Builtin.«dict.__len__» ⟨[.ref d],[]⟩) (λ_ R s=>∃es ep,RawD s.heap d es ep∧R (.ok (.ret (.int es.size s.toks))) { s with toks:=s.toks+1 }) :=
 .of_wp λA R s ⟨es,ep,hm,h⟩=>by
  obtain ⟨o,ho,hc,hdat⟩:=hm
  (show wpAny _ _ (dictSize d >>= _) _ _ s ;unfold dictSize ;refine aa (aa (bM ho hdat (am ?_))) ;show wpAny _ _ (Builtin.Dict.pendingCount d >>= _) _ _ s ;refine aa (wpAny_pendingCount_other hd ?_) ;refine wpAny_ret_mkInt ?_ ;rw [Nat.add_zero] ;exact h)
theorem wv8 {Q:Ag→Ab→Prop}(hd:(d==sysModules)=false)(hm:RawD s.heap d es ep)(hfit:(es.size:Int)<2 ^ 63)(h:Q (.int es.size (s.toks+1)) { s with toks:=s.toks+1+1 }):wpAny (model prog w) A (call (.builtin "len") [.ref d]) Q E s:=by
 refine Calls.call_function_entry kind_len plain_len entry_len (args_len1 _) ?_ ;unfold Builtin.«len» ;refine aa (m:=oneArg "len" _) (am ?_)
 refine aa (m:=callSpecial? (.ref d) (Str.ofString "__len__")) (dh (name:=Str.ofString "__len__") hm.ty F.slot_dict_len (cN F.slot_dict_len hm.ty F.entry_dict_len (F.args_dict_len_1 _) (qq1 hd) ⟨es,ep,hm,?_⟩))
 (show wpAny _ _ _ _ _ { s with toks:=s.toks+1 } ;refine aa (cW (am ?_)) ;refine aa (wpAny_letGo ?_) ;show wpAny _ _ (if ((es.size:Nat):Int)<0 then _ else _) _ _ _ ;rw [ag (by lia)] ;show wpAny _ _ (if ((es.size:Nat):Int)≥2 ^ 63 then _ else _) _ _ _ ;rw [ag (by lia)])
 exact aa (wpAny_mkInt (am ⟨_,rfl,h⟩))
end
section
variable {X:Cx}
theorem wz6 {P:Ac}{w:Ah}{H:Hp}{h:Heap}{a:Aj}{kvs:List (List Key×V)}(ok:HOk P w H h)(e:H a=some (.dT kvs)) :
  kvs.length≤sizeLine∧(a==sysModules)=false∧∃(xs:List (List Key×Aj×Ag)) (es:Array DictEntry) (ep:Nat),KT H kvs xs∧RawD h a es ep∧es.toList=xs.map (entryOfKey (tupleKind (xh P w))):=by
 obtain ⟨z,y,xs,r,o,es,ep,h1,h2,h3,h4,h5⟩:=(show ObjOk P w H h a (.dT kvs) from ok a _ e)
 exact ⟨z,y,xs,es,ep,r,⟨o,h1,h2,h3⟩,h4⟩
theorem qwf:k4 X (.builtin "len") (λxs H Q=>∃a kvs,xs=[V.ref a]∧H a=some (.dT kvs)∧Q (.int kvs.length) H):=by
 intro pins s σ H xs us Q I r h
 obtain ⟨a,kvs,rfl,e,q⟩:=h
 obtain ⟨u,rfl,rx⟩:=j5 r
 cases rx
 obtain ⟨z,hd,ys,es,ep,rel,raw,hes⟩:=wz6 I.hok e
 have hl:es.size=kvs.length:=by rw [←bd,hes,ac,bo rel]
 have hn:=Ju
 exact wv8 hd raw (by rw [hl];lia) ⟨.int kvs.length,H,I.tok _,⟨_,by rw [hl]⟩,q⟩
def wz3 (H:Hp)(kvs:List (List Key×V))(vs:List V):Prop:=Paired (λv (p:List Key×V)=>∃b,v=V.ref b∧H b=some (.tup (p.1.map kV))) vs kvs
theorem qjv (hc:X.calm=true):k4 X (.type "list") (λxs H Q=>∃a kvs,xs=[V.ref a]∧H a=some (.dT kvs)∧∀p vs,H p=none→wz3 H kvs vs→Q (.ref p) (upd H p (.lst vs))):=by
 intro pins s σ H xs us Q I r h
 obtain ⟨a,kvs,rfl,e,q⟩:=h
 obtain ⟨u,rfl,rx⟩:=j5 r
 cases rx
 obtain ⟨z,hd,ys,es,ep,rel,raw,hes⟩:=wz6 I.hok e
 have hl:es.size=kvs.length:=by rw [←bd,hes,ac,bo rel]
 refine kdl_call (wkv hd) (I.ok.hd hc) raw (by rw [hl];exact z) λh' tk acc' c' hk hD hacc=>?_
 have key:∀(l:List Ag) (kvs':List (List Key×V)) (ys':List (List Key×Aj×Ag)),KT H kvs' ys'→l.length=kvs'.length→(∀(j:Nat) v,l[j]?=some v→∃y,ys'[j]?=some y∧v=.ref y.2.1)→∃vs,Vals vs l∧wz3 H kvs' vs:=by
  intro l kvs' ys' rr
  induction rr generalizing l with
  |nil =>
   intro hl' _
   cases l with
   |nil=>exact ⟨[],.nil,.nil⟩
   |cons _ _=>simp at hl'
  |@cons p y ps yss hp t ih =>
   intro hl' hj
   cases l with
   |nil=>simp at hl'
   |cons v l =>
    obtain ⟨y',ey,rfl⟩:=hj 0 v rfl
    cases ey
    obtain ⟨vs,v1,v2⟩:=ih l (by simpa using hl') λj u hu=>by
     obtain ⟨y2,e2,e3⟩:=hj (j+1) u (by simpa using hu)
     exact ⟨y2,by simpa using e2,e3⟩
    exact ⟨.ref y.2.1::vs,.cons rfl v1,.cons ⟨_,rfl,hp.2.1⟩ v2⟩
 obtain ⟨vs,v1,v2⟩:=key acc'.toList kvs ys rel (by rw [bd,hacc.1,hl]) λj v ev=>by
  obtain ⟨en,e1,rfl⟩:=hacc.2 j v (by rw [←bW];exact ev)
  rw [←bW,hes,aH] at e1
  cases hy:ys[j]? with
  |none=>rw [hy] at e1;cases e1
  |some y =>
   rw [hy] at e1
   have e2:=az e1
   exact ⟨y,rfl,by rw [←e2];rfl⟩
 have hv:vs.length≤sizeLine:=by rw [v1.length,bd,hacc.1,hl];exact z
 exact ⟨.ref _,_,I.laid (t':=tk) hk (af _) (show ObjOk X.prog X.w _ h' _ (.lst vs) from ⟨hv,acc'.toList,c',v1,by simpa using hD⟩),rfl,q _ _ (I.hok.fresh (af _)) v2⟩
end
end L2
namespace L2
open PySem PySem.Spec PyProof.Rows
def Stay (G:Nat→V→Hp→Prop):Prop:=∀i v H H' p,G i v H→v≠.ref p→(∀b o,b≠p→H b=some o→H' b=some o)→G i v H'
theorem Zy {M:List Nat}{lo:Int}{n:Nat}{te:TE}{σ:St}{H:Hp}{Q:VK}(G:Nat→V→Hp→Prop)(gs:Stay G)(hn:n≤1000000)
  (he:∀(i:Nat) (H':Hp) (R:VK),i<n→Same H H'→(∀v H'',Same H' H''→G i v H''→(∀b,v=.ref b→H' b=none)→R v H'')→te (vw M σ (some (.int (lo+i)))) H' R)
  (k:∀p ys H',H p=none→Same H H'→H' p=some (.lst ys)→ys.length=n→(∀j v,ys[j]?=some v→G j v H'∧v≠.ref p)→Q (.ref p) H'):qvw (Itr lo n) M te σ H Q:=by
 intro p np
 refine ⟨λi m ys H2=>i≤n∧m=n-i∧ys.length=i∧Same H H2∧H2 p=some (.lst ys)∧∀j v,ys[j]?=some v→G j v H2∧v≠.ref p,⟨n,aB _,rfl,rfl,Same.upd np,q8,λj v e=>by cases e⟩,?_⟩
 rintro i m ys H2 ⟨hi,rfl,hy,sm,hp,hG⟩
 refine ⟨hp,?_,?_⟩
 ·have:(1000000:Nat)<sizeLine:=by decide
  lia
 ·by_cases hlt:i<n
  ·refine .inr ⟨hlt,?_⟩
   rintro v H3 ⟨rfl,rfl⟩
   refine he i _ _ hlt sm λv H4 s4 g4 fr=>⟨s4 _ _ hp,n-(i+1),by lia,by lia,rfl,by rw [aG,hy];rfl,λb o e=>?_,q8,λj w e=>?_⟩
   ·rw [wg (qj e np)]
    exact s4 _ _ (sm _ _ e)
   ·have vp:v≠.ref p:=λz=>by
     have:=fr p z
     rw [hp] at this
     cases this
    have st:∀b o,b≠p→H4 b=some o→upd H4 p (.lst (ys++[v])) b=some o:=λb o nb e=>by rw [wg nb];exact e
    rcases (d7 j ys.length) with z|z
    ·rw [bu z] at e
     obtain ⟨g,nw⟩:=hG j w e
     exact ⟨gs j w _ _ p g nw λb o nb e=>st b o nb (s4 b o e),nw⟩
    ·rw [bj z] at e
     have hj:j=i:=by
      rcases d7 (j-ys.length) 1 with y|y
      ·lia
      ·rw [bx (by simpa using y)] at e
       cases e
     subst hj
     rw [show j-ys.length=0 by lia] at e
     have:v=w:=az e
     subst this
     exact ⟨gs j v H4 _ p g4 vp st,vp⟩
  ·have:i=n:=by lia
   subst this
   exact .inl ⟨af _,k p ys _ np sm hp hy hG⟩
end L2
namespace L2
open PySem PySem.Spec PyProof.Rows
section
variable {X:Cx}{K:Aa}
theorem qq8 (hK:X.K=K):k4 X (.builtin "len") (λxs H Q=>∃p ys,xs=[.ref p]∧(SqL K H p ys∨SqT K H p ys)∧Q (.int ys.length) H):=by
 subst hK
 exact x8
end
end L2
namespace L2
open PySem PySem.Spec PyProof.Rows
def compN2 (X:Cx)(x y:Str)(M:List Nat):List Str:=x::y::M.map λj=>X.N.getD j Str.empty
def y9 (M:List Nat)(σ:St)(o o':Option V):St:=o::o'::M.map λj=>(σ[j]?).join
abbrev vd (X:Cx)(scope:Scope)(cl:List (Str×Aj))(x y:Str)(M:List Nat)(C:Aj)(s2:Ab)(H2:Hp)(fp:List Aj)(pn:List (Aj×Obj)):Cx :=
 { X with N:=compN2 X x y M,s₀:=s2,H₀:=H2,env:=compEnvC scope cl C X.env,outer:=X.stack,ex:=fp,fn:=λ_=>false,pn:=pn,xe:=λ_ _=>False }
section
variable {X:Cx}{pins:List (Aj×Obj)}{σ:St}{H:Hp}{s2:Ab}{scope:Scope}{cl:List (Str×Aj)}{x y:Str}{M:List Nat}{fp:List Aj}{C:Aj}{h1:Heap}{tk:Nat}
theorem Inv.comp2 (I:Inv X pins σ H s2)(hc:CapAll X.env cl)(hh:HasAll cl scope.names)(hm:CapIx X scope cl M)(hk:scope.kind=.function)(hC:s2.heap.objs.size<C)
  (keep:∀b o,s2.heap.get? b=some o→h1.get? b=some o) (hn:h1.Ns C λ_=>none) (hD:h1.get? s2.heap.objs.size=some { cls:=.type "list",data:=.seq #[] 0 })
  (hfp:∀b∈fp,jh X pins H b) (hob:∀b∈fp,∃o,s2.heap.get? b=some o) :
  Inv (vd X scope cl x y M C s2 H fp (X.pn++pins)) [] (y9 M σ none none) (upd H s2.heap.objs.size (.lst [])) { s2 with heap:=h1,toks:=tk }:=I.compG (xs:=[x,y]) hc hh hm hk hC keep hn ⟨aB _,[],0,.nil,hD⟩ hfp hob
theorem Inv.uncomp2 {pins':List (Aj×Obj)}{σ':St}{H':Hp}{s':Ab}{h':Heap}(I:Inv X pins σ H s2)(hC:s2.heap.objs.size≤C)(hfp:∀b∈fp,jh X pins H b)
  (J:Inv (vd X scope cl x y M C s2 H fp (X.pn++pins)) pins' σ' H' s') (hs:Heap.SameBut C s'.heap h'):Inv X pins σ H' { s' with heap:=h' }:=by
 have hb:=J.base
 have nC:∀b o,s2.heap.get? b=some o→b≠C:=λb o e=>av (aE (al e) hC)
 have st:∀b o,b≠C→s'.heap.get? b=some o→h'.get? b=some o:=λb o n e=>(hs.2 b n).trans e
 refine I.call' (s':={ s' with heap:=h' }) (ch:=fp) J.os ⟨λb o e n nb nx=>st b o (nC b o e) (hb.keep b o e n nb nx),λb o e n hb' nx=>?_,hb.free,λb o e nx=>?_,hb.tups,hb.frzs,hb.tbls⟩ ?_ J.bare λb hbf=>?_
 ·obtain ⟨sl,e1⟩:=hb.slot b o e n hb' nx
  exact ⟨sl,st b _ (nC b o e) e1⟩
 ·obtain ⟨o',e1⟩:=hb.there b o e nx
  exact ⟨o',st b _ (nC b o e) e1⟩
 ·intro b u hu
  have fr:H' C=none:=J.free
  refine (J.hok b u hu).stay (λc v hc e=>st c v ?_ e) (λ_ z=>z) λ_ _ z=>z
  rcases hc with rfl|hc
  ·intro z;rw [z,fr] at hu;cases hu
  ·intro z;rw [z,fr] at hc;cases hc
 ·obtain ⟨q1,q2,q3,q4,q5,q6⟩:=hfp b hbf
  exact ⟨q4,q2,q5,q6⟩
end
section
variable {X:Cx}{elt iter iter2:Expr}{x y:Str}{px py pos:Pos}{scope:Scope}{cl:List (Str×Aj)}{M:List Nat}{wi wi2:TI}{te:TE}
end
section
variable {X:Cx}{elt iter iter2:Expr}{x y2:Str}{px py2 pos:Pos}{scope:Scope}{cl:List (Str×Aj)}{M:List Nat}{wi wi2:TI}{te:TE}
end
end L2
namespace L2
open PySem PySem.Spec PyProof.Rows
end L2
namespace L2
open PySem PySem.Spec PyProof.Rows
section
variable {X:Cx}{pins:List (Aj×Obj)}{σ:St}{H:Hp}{s:Ab}{h':Heap}{ch:List Aj}
theorem Inv.turnedL {tk:Nat}(I:Inv X pins σ H s)(hk:∀b u,b∉ch→s.heap.get? b=some u→h'.get? b=some u)(hf:∀b∈ch,jh X pins H b):Inv X pins σ H { s with heap:=h',toks:=tk }:=by
 refine I.call' (s':={ s with heap:=h',toks:=tk }) (ch:=ch) rfl ⟨λb o e n _ nx=>hk b o nx e,λb o e n _ nx=>⟨o.slots,hk b o nx e⟩,λb o e n _=>n,λb o e nx=>⟨o,hk b o nx e⟩,λ_ _ e=>e,λ_ _ _ e=>e,λb ps e=>⟨#[],by rw [e];simp⟩⟩ ?_ I.bare λb hb=>?_
 ·intro b u hu
  refine (I.hok b u hu).stay (λc v hc e=>hk c v (λz=>?_) e) (λ_ z=>z) λ_ _ z=>z
  have:=(hf c z).1
  rcases hc with rfl|hc
  ·rw [this] at hu;cases hu
  ·rw [this] at hc;cases hc
 ·obtain ⟨q1,q2,q3,q4,q5,q6⟩:=hf b hb
  exact ⟨q4,q2,q5,q6⟩
theorem Inv.turnedT {tk:Nat}{o:HO}{ob:Obj}(I:Inv X pins σ H s)(hk:∀b u,b∉ch→s.heap.get? b=some u→h'.get? b=some u)(hn:h'.get? s.heap.objs.size=some ob)(hf:∀b∈ch,jh X pins H b)(hc:∀b∈ch,b≠s.heap.objs.size)
  (ok:ObjOk X.prog X.w (upd H s.heap.objs.size o) (s.heap.push ob) s.heap.objs.size o) (fr:ob.isFreed=false):Inv X pins σ (upd H s.heap.objs.size o) { s with heap:=h',toks:=tk }:=by
 have I1:Inv X pins σ (upd H s.heap.objs.size o) { s with heap:=s.heap.push ob,toks:=tk }:=I.laid (t':=tk) (λb u e=>ae _ e) (af _) ok
 refine Inv.turnedL (s:={ s with heap:=s.heap.push ob,toks:=tk }) (ch:=ch) I1 (λb u nb e=>?_) λb hb=>?_
 ·rcases Heap.get?_push_cases e with ⟨rfl,rfl⟩|e
  ·exact hn
  ·exact hk b u nb e
 ·obtain ⟨q1,q⟩:=hf b hb
  exact ⟨by rw [wg (hc b hb)];exact q1,q⟩
theorem quf {x y:V}{u v:Ag}(I:Inv X pins σ H s)(rx:RelV x u)(ry:RelV y v):ObjOk X.prog X.w (upd H s.heap.objs.size (.tup [x,y])) (s.heap.push { cls:=.type "tuple",data:=.seq #[u,v] }) s.heap.objs.size (.tup [x,y]):=by
 refine ⟨by show 2≤sizeLine;decide,[u,v],.cons rx (.cons ry .nil),?_⟩
 exact ⟨_,au _ rfl,rfl,_,rfl⟩
end
section
variable {X:Cx}
end
def ItE (K:Aa)(a:Aj)(xs:List V):It :=
 ⟨λi H=>SqL K H a xs∧i<xs.length,λi H v H'=>∃q x,H q=none∧v=.ref q∧xs[i]?=some x∧H'=upd H q (.tup [.int (i:Nat),x]),λi H=>SqL K H a xs∧xs.length≤i⟩
theorem wqc {P:Ac}{w:Ah}{K:Aa}{es:List Expr}{k:Nat}{pos:Pos}(a z it:Aj)(xs:List V)(ap:z≠it):Turn P w K (.Tuple es k pos) (ItE K a xs) [z,it] z
  (λi h=>i≤xs.length∧(∃old,IsEnum h z it (i:Nat) old)∧h.IsListIter it a i) where
 mem:=by simp
 obj:=λi h st c hc=>by
  obtain ⟨_,⟨old,h1⟩,⟨o4,h4,c4,d4⟩⟩:=st
  have hc':c=z∨c=it:=by simpa using hc
  rcases hc' with rfl|rfl
  ·exact ⟨_,h1,λv z=>by cases z⟩
  ·exact ⟨_,h4,λv z=>by rw [d4] at z;cases z⟩
 keep:=λi h h' st k=>by
  obtain ⟨l,⟨old,h1⟩,h4⟩:=st
  exact ⟨l,⟨old,k z (by simp) _ h1⟩,h4.at λo e=>k it (by simp) o e⟩
 item:=by
  intro X hP hw hK hc i pins s σ H E I hf st hg
  subst hP hw hK
  obtain ⟨hq1,l1⟩:=hg
  obtain ⟨its,rv,p,hz⟩:=I.list hq1
  have e1:xs[i]?=some xs[i]:=ar l1
  obtain ⟨u,hu,ru⟩:=rv.get e1
  obtain ⟨_,⟨old,h1⟩,h4⟩:=st
  refine wpAny_pyNext_enum_item h1 h4 p.isList (x:=u) (by simpa using hu) ap λh' g1 g2 g3 g4 g5=>?_
  refine ⟨_,rfl,wpAny_letOwnedTupleGo_enum (s:={ s with heap:=h',toks:=s.toks+1 }) g1 λh'' f1 f2=>?_⟩
  have hsz:∀c,c∈[z,it]→c≠s.heap.objs.size:=λc hc e=>by
   have hc':c=z∨c=it:=by simpa using hc
   have hlt:c<s.heap.objs.size:=by
    rcases hc' with rfl|rfl
    ·exact al h1
    ·obtain ⟨o,e,_⟩:=h4;exact al e
   exact aQ _ (e▸hlt)
  have keepz:∀c o,c≠z→h'.get? c=some o→h''.get? c=some o:=λc o nc e=>(f2.2 c nc).trans e
  have keep:∀c o,c∉[z,it]→s.heap.get? c=some o→h''.get? c=some o:=λc o nc e=>by
   simp only [ai,aj,be,not_or] at nc
   exact keepz c o nc.1 (g5 c o nc.1 nc.2 e)
  have new:h''.get? s.heap.objs.size=some { cls:=.type "tuple",data:=.seq #[.int (i:Nat) s.toks,u] }:=keepz _ _ (aW (hsz z (by simp))) g3
  refine ⟨.ref s.heap.objs.size,_,Inv.turnedT (s:=s) (ch:=[z,it]) (tk:=s.toks+1) I keep new hf hsz (quf I (show RelV (.int (i:Nat)) (.int (i:Nat) s.toks) from ⟨_,rfl⟩) ru) rfl,rfl,⟨_,_,I.hok.fresh (af _),rfl,e1,rfl⟩,⟨by lia,⟨u,?_⟩,g2.at λo e=>keepz _ _ (aW ap) e⟩,λc hc=>?_⟩
  ·rw [show (((i+1:Nat):Nat):Int)=(i:Int)+1 by lia]
   exact f1
  ·rw [wg (hsz c hc)]
   exact (hf c hc).1
 done:=by
  intro X hP hw hK hc i pins s σ H E I hf st hg
  subst hP hw hK
  obtain ⟨hq1,le⟩:=hg
  obtain ⟨its,rv,p,hz⟩:=I.list hq1
  have hl:=rv.length
  obtain ⟨_,⟨old,h1⟩,h4⟩:=st
  refine wpAny_pyNext_enum_end (I.ok.hd hc) h1 h4 p.isList (bR (by rw [aI];lia)) λh' g=>⟨rfl,Inv.turnedL (ch:=[z,it]) (tk:=s.toks) I (λc o nc e=>?_) hf⟩
  simp only [ai,aj,be,not_or] at nc
  exact g c o nc.2 e
 self:=λ_ _ _ _ _ st h=>let ⟨_,⟨_,e⟩,_⟩:=st;wpAny_pyIter_enum e h
section
variable {X:Cx}
def iEnum (K:Aa)(ta:TA):TI:=λσ H R=>ta σ H λvs H1=>∃a xs,vs=[.ref a]∧SqL K H1 a xs∧R (ItE K a xs) H1
theorem wkp {a:Expr}{ta:TA}{p pos:Pos}{es:List Expr}{k:Nat}{tpos:Pos}(hg:Gl X "enumerate")(hm:X.mg "enumerate" = none)(ha:PA X [a] ta)(hv:bootBuiltins "enumerate" = some (.type "enumerate"):=by rfl)
  (hs:starEach [a] X.env=[(false,eval a X.env)]:=by rfl):PI X (.Tuple es k tpos) (.Call (.Name "enumerate" p) [a] [] pos) (iEnum X.K ta):=by
 intro pins s σ H R I h
 refine Call_ (Zx I hg hm hv (bP (thn (ha pos pins s σ H _ I h) λus s1 ⟨vs,H1,I1,r1,q1⟩=>?_) hs rfl))
 obtain ⟨a,xs,e,hq1,q⟩:=q1
 subst e
 cases r1 with
 |cons r rr =>
   cases rr
   cases r
   obtain ⟨its,rv,p,hz⟩:=I1.list hq1
   refine call_enumerate_list p.isList λh' g1 g4 g6 g7=>?_
   refine wpAny_pyIter_enum g1 ?_
   have I2:Inv X pins σ H1 { s1 with heap:=h' }:=I1.kept (t':=s1.toks) g7
   refine ⟨s1.heap.objs.size+1,[s1.heap.objs.size+1,s1.heap.objs.size],_,_,H1,rfl,I2,wqc a _ _ xs (Nat.succ_ne_self _),⟨aB _,⟨_,g1⟩,g4⟩,λc hc=>?_,q⟩
   have hc':s1.heap.objs.size≤c:=by
    have:c=s1.heap.objs.size+1∨c=s1.heap.objs.size:=by simpa using hc
    rcases this with e | e <;> (rw [e];first | exact af _ | exact Nat.le_add_right _ _)
   exact I1.fpOk hc' (I1.hok.fresh hc')
end
def qj6 (J:It)(M:List Nat)(gg:TG)(te:TE)(σ:St)(H1:Hp)(Q:VK):Prop:=∀p,H1 p=none→∃W:Nat→Nat→List V→Hp→Prop,(∃m,W 0 m [] (upd H1 p (.lst []))) ∧
 ∀i m ys H2,W i m ys H2→H2 p=some (.lst ys)∧ys.length<sizeLine∧((J.stop i H2∧Q (.ref p) H2)∨(J.go i H2∧∀v H3,J.yld i H2 v H3 →
  gg v (y9 M σ none none) H3 λσ4 H4=>(∃a b,σ4=y9 M σ (some a) (some b))∧te σ4 H4 λy H5=>H5 p=some (.lst ys)∧∃m',m'<m∧W (i+1) m' (ys++[y]) (upd H5 p (.lst (ys++[y])))))
def tCompP (M:List Nat)(wi:TI)(gg:TG)(te:TE):TE:=λσ H Q=>wi σ H λJ H1=>qj6 J M gg te σ H1 Q
section
variable {X:Cx}{elt iter tg:Expr}{x y2:Str}{pos:Pos}{scope:Scope}{cl:List (Str×Aj)}{M:List Nat}{wi:TI}{gg:TG}{te:TE}
theorem wqn (hc:X.calm=true)(hclos:closureFor scope X.env=pure cl)(hcap:CapAll X.env cl)(hhas:HasAll cl scope.names)(hix:CapIx X scope cl M)(hk:scope.kind=.function)
  (hnames:∀y∈scope.names,y.2=.local→scope.names.lookup y.1=some .local) (hg:∀C s2 H2 fp pn,PG (vd X scope cl x y2 M C s2 H2 fp pn) tg gg) (hi:PI X tg iter wi)
  (he:∀C s2 H2 fp pn,PE (vd X scope cl x y2 M C s2 H2 fp pn) elt te) (hs:∀z,foldedSetIterable iter X.env z=pure z)
  {use:Option (Ag→Sem Unit)} {QQ:Ag→Ab→Prop} {pins:List (Aj×Obj)} {s:Ab} {σ:St} {H:Hp} {Q:VK} {ps:Pos} (I:Inv X pins σ H s) (h:wi σ H λJ H1=>qj6 J M gg te σ H1 Q)
  (fin:∀(C:Aj) (s2 s4:Ab) (H1 H2:Hp) (fp:List Aj),Inv X pins σ H1 s2→s2.heap.objs.size<C→(∀b∈fp,jh X pins H1 b)→Inv (vd X scope cl x y2 M C s2 H1 fp (X.pn++pins)) [] (y9 M σ none none) H2 s4→Q (.ref s2.heap.objs.size) H2 →
   compPost (model X.prog X.w) X.A X.xe use QQ (.ref s2.heap.objs.size) C (.ok .next) s4) :
  wpAny (model X.prog X.w) X.A (comprehension (.ListComp elt [⟨tg,iter,[],0⟩] scope pos) scope X.env ps (newList []) false (eval iter X.env) use) QQ X.xe s:=by
 refine cV (use:=use) rfl hs hclos hk hnames ?_
 refine thn (hi pins s σ H _ I h) λv s1 h1=>thn h1 λitv s2 h2=>?_
 obtain ⟨it,fp,tn,J,H1,rfl,I2,T,t0,hfp,hR⟩:=h2
 have hob:∀b∈fp,∃o,s2.heap.get? b=some o∧∀v,o.data≠.cell v:=T.obj 0 _ t0
 obtain ⟨W,⟨m0,w0⟩,hW⟩:=hR s2.heap.objs.size (I2.hok.fresh (af _))
 refine bL ?_
 refine dM hhas.nocell (by intro y hy;cases hy) (λh3 hns hsb=>?_) hk
 dsimp only at hns hsb ⊢
 generalize hH2:s2.heap.push { cls:=.type "list",dict:=none,data:=.seq ([]:List Ag).toArray }=G2 at hns hsb ⊢
 have hC:G2.objs.size=s2.heap.objs.size+1:=by rw [←hH2,dm]
 have hlt:s2.heap.objs.size<G2.objs.size:=by lia
 have keep:∀b o,s2.heap.get? b=some o→h3.get? b=some o:=λb o e=>by
  have hb:b≠G2.objs.size:=av (bh (al e) hlt)
  rw [hsb.2 b hb]
  exact ae _ (hH2▸ae _ e)
 have hD:h3.get? s2.heap.objs.size=some { cls:=.type "list",data:=.seq #[] 0 }:=by
  rw [hsb.2 _ (av hlt)]
  exact ae _ (hH2▸au _ rfl)
 have hns':h3.Ns G2.objs.size λ_=>none:=hns
 have J0:∀tk,Inv (vd X scope cl x y2 M G2.objs.size s2 H1 fp (X.pn++pins)) [] (y9 M σ none none) (upd H1 s2.heap.objs.size (.lst [])) { s2 with heap:=h3,toks:=tk }:=λtk =>
  I2.comp2 hcap hhas hix hk hlt keep hns' hD hfp λb hb=>let ⟨o,e,_⟩:=hob b hb;⟨o,e⟩
 have hbl:∀b∈fp,b<s2.heap.objs.size:=λb hb=>let ⟨o,e,_⟩:=hob b hb;al e
 have fok:∀(H2:Hp),(∀b∈fp,H2 b=none)→∀b∈fp,jh (vd X scope cl x y2 M G2.objs.size s2 H1 fp (X.pn++pins)) [] H2 b:=λH2 hn b hb=>by
  obtain ⟨q1,q2,q3,q4,q5,q6⟩:=hfp b hb
  refine ⟨hn b hb,av (bh (hbl b hb) hlt),λz=>?_,.inl hb,λy c e=>q5 y c (hcap.look e),λp hp=>q6 p ((bg.mp hp).elim (λz=>z) λz=>nomatch z)⟩
  rcases ai.mp (I2.stkSub b z) with z|z
  ·exact q2 z
  ·exact q3 z
 have loop:∀tk,codeAny (model X.prog X.w) X.A (.compLoop (.ListComp elt [⟨tg,iter,[],0⟩] scope pos) 0 (.ref it) (.ref s2.heap.objs.size) (compEnvC scope cl G2.objs.size X.env))
   (compPost (model X.prog X.w) X.A X.xe use QQ (.ref s2.heap.objs.size) G2.objs.size) { s2 with heap:=h3,toks:=tk }:=λtk=>by
  refine codeAny_loop rfl (λn s3=>∃i ys H2,W i n ys H2∧Inv (vd X scope cl x y2 M G2.objs.size s2 H1 fp (X.pn++pins)) [] (y9 M σ none none) H2 s3∧tn i s3.heap∧∀b∈fp,H2 b=none) (λn s3 hI=>?_) m0
   ⟨0,[],_,w0,J0 tk,T.keep 0 _ _ t0 λb _ o e=>keep b o e,λb hb=>by rw [wg (av (hbl b hb))];exact (hfp b hb).1⟩
  obtain ⟨i,ys,H2,w,J2,t,nf2⟩:=hI
  show wpAny _ _ ((compTurn (.ListComp elt [⟨tg,iter,[],0⟩] scope pos) 0 (.ref it) (.ref s2.heap.objs.size) (compEnvC scope cl G2.objs.size X.env)).onRaise λz=>do noteFrame z (compEnvC scope cl G2.objs.size X.env);theTreesLotGoes z) _ _ s3
  refine wpAny_noted ?_
  rw [compTurn_list1]
  refine aa (cT (aa ?_))
  obtain ⟨hp,hz,hcase⟩:=hW i n ys H2 w
  rcases hcase with ⟨hst,hq⟩|⟨hgo,hy⟩
  ·refine aP (T.done (vd X scope cl x y2 M G2.objs.size s2 H1 fp (X.pn++pins)) rfl rfl rfl hc i [] s3 _ H2 (λ_ _=>False) J2 (fok H2 nf2) t hst) (λr s4 hr=>?_) λ_ _ z=>z.elim
   obtain ⟨rfl,J4⟩:=hr
   refine am ?_
   exact fin G2.objs.size s2 s4 H1 H2 fp I2 hlt hfp J4 hq
  ·refine aP (T.item (vd X scope cl x y2 M G2.objs.size s2 H1 fp (X.pn++pins)) rfl rfl rfl hc i [] s3 _ H2 (λ_ _=>False) J2 (fok H2 nf2) t hgo) (λr s4 hr=>?_) λ_ _ z=>z.elim
   obtain ⟨u,rfl,hw⟩:=hr
   refine aa (aP hw (λ_ s5 hr5=>?_) λ_ _ z=>z.elim)
   obtain ⟨v,H3,J5,rv,yl,t5,nf⟩:=hr5
   have J5p:=J5.pinned (fok H3 nf) (T.obj _ _ t5)
   refine aa (aP (hg G2.objs.size s2 H1 fp (X.pn++pins) _ s5 _ H3 v u _ J5p rv (hy v H3 yl)) (λ_ s6 hr6=>?_) λ_ _ z=>z.elim)
   obtain ⟨σ6,H6,J6,⟨a6,b6,rfl⟩,hte⟩:=hr6
   refine aa (aa (aP (he _ _ _ _ _ _ s6 _ H6 _ J6 hte) (λyv s7 hr7=>?_) λ_ _ z=>z.elim))
   obtain ⟨y,H4,J7,ry,hp4,m',hm',w'⟩:=hr7
   refine aa (aP (jn (X:=vd X scope cl x y2 M G2.objs.size s2 H1 fp (X.pn++pins)) _ s7 _ H4 (.ref s2.heap.objs.size) [y] (.ref s2.heap.objs.size) [yv] (λ_ H8=>H8=upd H4 s2.heap.objs.size (.lst (ys++[y]))) J7 rfl (.cons ry .nil) ⟨_,ys,y,rfl,rfl,hp4,hz,rfl⟩) (λ_ s8 hr8=>?_) λ_ _ z=>z.elim)
   obtain ⟨_,H8,J8,_,rfl⟩:=hr8
   refine am (am ⟨rfl,m',hm',i+1,ys++[y],_,w',?_,?_,?_⟩)
   ·refine (J8.unpinned (pins:=[])).weak rfl λk z ez=>?_
    match k,ez with
    |0,ez=>cases ez
    |1,ez=>cases ez
    |k+2,ez=>exact ez
   ·exact T.keep _ _ _ t5 λb hb o e=>(J8.pin (b,o) (ax _ (ax _ (jb hb e)))).1
   ·intro b hb
    obtain ⟨o,e,_⟩:=T.obj _ _ t5 b hb
    exact (J8.pin (b,o) (ax _ (ax _ (jb hb e)))).2.1
 exact codeAny_compStart_list (loop _) (T.self _ 0 _ _ _ (T.keep 0 _ _ t0 λb _ o e=>keep b o e) (loop _))
theorem wxm (hc:X.calm=true)(hclos:closureFor scope X.env=pure cl)(hcap:CapAll X.env cl)(hhas:HasAll cl scope.names)(hix:CapIx X scope cl M)(hk:scope.kind=.function)
  (hnames:∀y∈scope.names,y.2=.local→scope.names.lookup y.1=some .local) (hg:∀C s2 H2 fp pn,PG (vd X scope cl x y2 M C s2 H2 fp pn) tg gg) (hi:PI X tg iter wi)
  (he:∀C s2 H2 fp pn,PE (vd X scope cl x y2 M C s2 H2 fp pn) elt te) (hs:∀z,foldedSetIterable iter X.env z=pure z:=by intro _;rfl) :
  PE X (.ListComp elt [⟨tg,iter,[],0⟩] scope pos) (tCompP M wi gg te):=by
 intro pins s σ H Q I h
 rw [eval_ListComp]
 refine wqn hc hclos hcap hhas hix hk hnames hg hi he hs (use:=none) I h λC s2 s4 H1 H2 fp I2 hlt hfp J4 hq=>?_
 obtain ⟨m,hn,_⟩:=J4.loc
 exact ⟨m,hn,λh' hs'=>⟨.ref s2.heap.objs.size,H2,I2.uncomp2 (bA hlt) hfp J4 hs',rfl,hq⟩⟩
end
theorem wv2 {X:Cx}{K:Aa}{pos:Pos}{es:List Expr}{k:Nat}{t:TGs}{n:Nat}(hK:X.K=K)(hc:X.calm=true)(h:PGs X es t)(h1:(assignEach es X.env).length=n:=by rfl)(h2:List.findIdx? (λx=>x.fst) (assignEach es X.env)=none:=by rfl):PG X (.Tuple es k pos) (gTup K n t):=by
 subst hK
 exact k7 hc h h1 h2
end L2
namespace L2
open PySem PySem.Spec PyProof.Rows PySem.W
def Fz (H:Hp)(d:Aj)(o:Obj)(kvs:List (Key×V))(H':Hp):Prop:=H' d=some (.frz o (.dK kvs))∧∀b,b≠d→H' b=H b
section
variable {X:Cx}{pins:List (Aj×Obj)}{σ:St}{H:Hp}{s:Ab}{d:Aj}{kvs:List (Key×V)}
theorem Inv.freeze {o:Obj}(I:Inv X pins σ H s)(e:H d=some (.dK kvs))(ho:s.heap.get? d=some o):Inv X pins σ (upd H d (.frz o (.dK kvs))) s:=by
 obtain ⟨z,hd,vs,rel,dd⟩:=qw7 I.hok e
 exact Inv.write (t':=s.toks) (h':=s.heap) I (by rw [e];exact trivial) (.inl rfl) (λ_ _ _ e=>e) ⟨o,ho⟩ ⟨ho,Zq z hd rel dd⟩
theorem W7 {o:Obj}(I:Inv X pins σ H s)(e:H d=some (.frz o (.dK kvs))):kvs.length≤sizeLine∧(d==sysModules)=false∧s.heap.get? d=some o∧∃vs es ep,KV kvs vs∧o.data=.dict es ep∧s.heap.DictAt (xh X.prog X.w) d vs ep:=by
 obtain ⟨ho,z,hd,vs,rel,dd⟩:=(show ObjOk X.prog X.w H s.heap d (.frz o (.dK kvs)) from I.hok d _ e)
 obtain ⟨o',es,ep,h1,h2,h3,h4⟩:=id dd
 have:o'=o:=az (h1.symm.trans ho)
 subst this
 exact ⟨z,hd,ho,vs,es,ep,rel,h3,o',es,h1,h2,h3,h4⟩
theorem Inv.freezeRd (I:Inv X pins σ H s)(e:Rd H d (.dK kvs)):∃o H',Fz H d o kvs H'∧Inv X pins σ H' s:=by
 rcases e with e|⟨o,e⟩
 ·obtain ⟨z,hd,vs,rel,o,es,ep,ho,r⟩:=qw7 I.hok e
  exact ⟨o,_,⟨q8,λb nb=>wg nb⟩,I.freeze e ho⟩
 ·exact ⟨o,H,⟨e,λ_ _=>rfl⟩,I⟩
theorem wx1 {P:Ac}{w:Ah}{k:Key}{u:Ag}(h:(xh P w).is k u=true):RelV (kV k) u:=by
 rcases zm (show Yg k u=true from h) with ⟨i,t,rfl,rfl⟩|⟨x,t,rfl,rfl⟩
 ·exact ⟨t,rfl⟩
 ·exact ⟨t,rfl⟩
end
def ItD (d:Aj)(o:Obj)(kvs:List (Key×V)):It :=
 ⟨λi H=>H d=some (.frz o (.dK kvs))∧i<kvs.length,λi H v H'=>H'=H∧∃p,kvs[i]?=some p∧v=kV p.1,λi H=>H d=some (.frz o (.dK kvs))∧kvs.length≤i⟩
theorem qyb {kvs:List (Key×V)}{vs:List (Key×Ag)}(r:KV kvs vs){i:Nat}{p:Key×V}(e:kvs[i]?=some p):∃q,vs[i]?=some (p.1,q)∧RelV p.2 q:=by
 induction r generalizing i with
 |nil=>cases e
 |cons h t ih =>
  cases i with
  |zero =>
   cases e
   obtain ⟨h1,h2⟩:=h
   rename_i b _ _
   exact ⟨b.2,by show some b=some (_,b.2);rw [h1],h2⟩
  |succ i=>exact ih e
theorem wkb {P:Ac}{w:Ah}{K:Aa}{tg:Expr}{d it:Aj}{o:Obj}{kvs:List (Key×V)}{ep:Nat}(hep:∃es,o.data=.dict es ep):Turn P w K tg (ItD d o kvs) [it] it (λi h=>h.IsKeyIter it d i kvs.length ep) where
 mem:=by simp
 obj:=λi h st b hb=>by
  have e:b=it:=by simpa using hb
  subst e
  obtain ⟨ob,e,c,dd⟩:=st
  exact ⟨ob,e,λv z=>by rw [dd] at z;cases z⟩
 keep:=λi h h' st k=>st.at λob e=>k it (by simp) ob e
 item:=by
  intro X hP hw hK hc i pins s σ H E I hf st hg
  subst hP hw hK
  obtain ⟨hq,hi⟩:=hg
  obtain ⟨z,hd,ho,vs,es,ep',rel,h3,dd⟩:=W7 I hq
  obtain ⟨es2,h4⟩:=hep
  have:ep'=ep:=by rw [h3] at h4;cases h4;rfl
  subst this
  have e1:kvs[i]?=some kvs[i]:=ar hi
  obtain ⟨q,eq,rq⟩:=qyb rel e1
  have hl:vs.length=kvs.length:=(bo rel).symm
  obtain ⟨f0,f1,f2,f3,f4,f5⟩:=hf it (by simp)
  refine wpAny_pyNext_dict_item (by rw [hl];exact st) dd eq λkey h' hk st' sb=>?_
  have I1:Inv X pins σ H { s with heap:=h' }:=I.turned (t':=s.toks) (λb o hb e=>(sb.2 b hb).trans e) f0 f1 f3 f4 f5
  rw [hl] at st'
  obtain ⟨ob,e,c,d'⟩:=id st'
  exact ⟨key,rfl,qkv (s:={ s with heap:=h' }) e c d' (by decide) ⟨_,H,I1,wx1 hk,⟨rfl,_,e1,rfl⟩,st',λb hb=>(hf b hb).1⟩⟩
 done:=by
  intro X hP hw hK hc i pins s σ H E I hf st hg
  subst hP hw hK
  obtain ⟨hq,hi⟩:=hg
  obtain ⟨z,hd,ho,vs,es,ep',rel,h3,dd⟩:=W7 I hq
  obtain ⟨es2,h4⟩:=hep
  have:ep'=ep:=by rw [h3] at h4;cases h4;rfl
  subst this
  have hl:vs.length=kvs.length:=(bo rel).symm
  obtain ⟨f0,f1,f2,f3,f4,f5⟩:=hf it (by simp)
  exact wpAny_pyNext_dict_end (I.ok.hd hc) (by rw [hl];exact st) dd (bx (by lia)) λh' eb=>⟨rfl,I.turned (t':=s.toks) (λb o hb e=>eb b o hb e) f0 f1 f3 f4 f5⟩
 self:=λ_ _ _ _ _ st h=>wpAny_pyIter_keyiter st h
def ItDI (d:Aj)(o:Obj)(kvs:List (Key×V)):It :=
 ⟨λi H=>H d=some (.frz o (.dK kvs))∧i<kvs.length,λi H v H'=>∃q p,H q=none∧v=.ref q∧kvs[i]?=some p∧H'=upd H q (.tup [kV p.1,p.2]),λi H=>H d=some (.frz o (.dK kvs))∧kvs.length≤i⟩
theorem wkt {P:Ac}{w:Ah}{K:Aa}{xs:List Expr}{k:Nat}{pos:Pos}{d it:Aj}{o:Obj}{kvs:List (Key×V)}{ep:Nat}(hep:∃es,o.data=.dict es ep):Turn P w K (.Tuple xs k pos) (ItDI d o kvs) [it] it (λi h=>∃ok ov,IsItemIter h it d i kvs.length ep ok ov) where
 mem:=by simp
 obj:=λi h st b hb=>by
  have e:b=it:=by simpa using hb
  subst e
  obtain ⟨ok,ov,e⟩:=st
  exact ⟨_,e,λv z=>by cases z⟩
 keep:=λi h h' st k=>by
  obtain ⟨ok,ov,e⟩:=st
  exact ⟨ok,ov,k it (by simp) _ e⟩
 item:=by
  intro X hP hw hK hc i pins s σ H E I hf st hg
  subst hP hw hK
  obtain ⟨hq,hi⟩:=hg
  obtain ⟨z,hd,ho,vs,es,ep',rel,h3,dd⟩:=W7 I hq
  obtain ⟨es2,h4⟩:=hep
  have:ep'=ep:=by rw [h3] at h4;cases h4;rfl
  subst this
  have e1:kvs[i]?=some kvs[i]:=ar hi
  obtain ⟨q,eq,rq⟩:=qyb rel e1
  have hl:vs.length=kvs.length:=(bo rel).symm
  obtain ⟨ok,ov,st⟩:=st
  refine wpAny_pyNext_items_item (by rw [hl];exact st) dd eq λkey h' hk g1 g2 g3 g4=>?_
  refine ⟨_,rfl,wpAny_letOwnedTupleGo_items (s:={ s with heap:=h' }) g1 λh'' j1 j2=>?_⟩
  have ne:it≠s.heap.objs.size:=av (al st)
  have new:h''.get? s.heap.objs.size=some { cls:=.type "tuple",data:=.seq #[key,q] }:=(j2.2 _ (aW ne)).trans g2
  refine ⟨.ref s.heap.objs.size,_,Inv.turnedT (s:=s) (ch:=[it]) (tk:=s.toks) I (λb u nb e=>?_) new hf (λb hb=>?_) (quf I (wx1 hk) rq) rfl,rfl,⟨_,_,I.hok.fresh (af _),rfl,e1,rfl⟩,⟨_,_,by rw [←hl];exact j1⟩,λb hb=>?_⟩
  ·have nb:b≠it:=by simpa using nb
   exact (j2.2 b nb).trans (g4 b u nb e)
  ·have e:b=it:=by simpa using hb
   rw [e];exact ne
  ·have e:b=it:=by simpa using hb
   rw [e,wg ne];exact (hf it (by simp)).1
 done:=by
  intro X hP hw hK hc i pins s σ H E I hf st hg
  subst hP hw hK
  obtain ⟨hq,hi⟩:=hg
  obtain ⟨z,hd,ho,vs,es,ep',rel,h3,dd⟩:=W7 I hq
  obtain ⟨es2,h4⟩:=hep
  have:ep'=ep:=by rw [h3] at h4;cases h4;rfl
  subst this
  have hl:vs.length=kvs.length:=(bo rel).symm
  obtain ⟨f0,f1,f2,f3,f4,f5⟩:=hf it (by simp)
  obtain ⟨ok,ov,st⟩:=st
  exact wpAny_pyNext_items_end (I.ok.hd hc) (by rw [hl];exact st) dd (bx (by lia)) λh' eb=>⟨rfl,I.turned (t':=s.toks) (λb o hb e=>eb b o hb e) f0 f1 f3 f4 f5⟩
 self:=λ_ _ _ _ _ st h=>by
  obtain ⟨ok,ov,e⟩:=st
  exact kcp_self e h
section
variable {X:Cx}{tg l:Expr}{tl:TE}
def iDk (tl:TE):TI:=λσ H R=>tl σ H λx H1=>∃d kvs,x=.ref d∧Rd H1 d (.dK kvs)∧∀o H2,Fz H1 d o kvs H2→R (ItD d o kvs) H2
theorem pi_dk (hl:PE X l tl):PI X tg l (iDk tl):=by
 intro pins s σ H R I h
 refine thn (hl pins s σ H _ I h) λv s1 ⟨x,H1,I1,r1,q1⟩=>?_
 obtain ⟨d,kvs,e,rd,q⟩:=q1
 subst e
 cases r1
 obtain ⟨o,H2,fz,I2⟩:=I1.freezeRd rd
 obtain ⟨z,hd,ho,vs,es,ep,rel,h3,dd⟩:=W7 I2 fz.1
 have hl:vs.length=kvs.length:=(bo rel).symm
 refine wpAny_pyIter_dict hd dd ?_
 refine ⟨s1.heap.objs.size,[s1.heap.objs.size],_,_,H2,rfl,I2.kept (t':=s1.toks) λb o e=>ae _ e,wkb ⟨es,h3⟩,⟨_,au _ rfl,rfl,by rw [hl];rfl⟩,λb hb=>?_,q o H2 fz⟩
 have e:b=s1.heap.objs.size:=by simpa using hb
 subst e
 exact I2.fpOk (af _) (I2.hok.fresh (af _))
def iDi (tl:TE):TI:=λσ H R=>tl σ H λx H1=>∃d kvs,x=.ref d∧Rd H1 d (.dK kvs)∧∀o H2,Fz H1 d o kvs H2→R (ItDI d o kvs) H2
theorem pi_di {apos cpos tpos:Pos}{xs:List Expr}{k:Nat}(hl:PE X l tl)(hbase:attributeBase l "items" X.env (eval l X.env)=eval l X.env:=by rfl)(hline:(apos.endLine==cpos.line)=true:=by rfl) :
  PI X (.Tuple xs k tpos) (.Call (.Attribute l "items" apos) [] [] cpos) (iDi tl):=by
 intro pins s σ H R I h
 refine wpAny_Call_method0_late hbase hline (thn (hl pins s σ H _ I h) λv s1 ⟨x,H1,I1,r1,q1⟩=>?_)
 obtain ⟨d,kvs,e,rd,q⟩:=q1
 subst e
 cases r1
 obtain ⟨o,H2,fz,I2⟩:=I1.freezeRd rd
 obtain ⟨t1,t2,_⟩:=qyx I1 (.inl ⟨kvs,rd⟩)
 obtain ⟨z,hd,ho,vs,es,ep,rel,h3,dd⟩:=W7 I2 fz.1
 have hl:vs.length=kvs.length:=(bo rel).symm
 refine ⟨"dict","dict.items",df,fg,PySem.F.type_dict_items,t1,t2,bQ rfl (PySem.evalArgs_none ?_)⟩
 refine cN fg t1 PySem.F.entry_dict_items (PySem.F.args_dict_items_1 _) (meets_dict_items (xh X.prog X.w) d hd) ⟨⟨vs,dd.dictOf⟩,?_⟩
 have I3:Inv X pins σ H2 { s1 with heap:=s1.heap.push { cls:=.type "dict_items",data:=.fields #[.ref d] } }:=I2.kept (t':=s1.toks) λb o e=>ae _ e
 refine wpAny_pyIter_items (s:={ s1 with heap:=s1.heap.push { cls:=.type "dict_items",data:=.fields #[.ref d] } }) ⟨_,au _ rfl,rfl,rfl⟩ (dd.push _) ?_
 refine ⟨_,[_],_,_,H2,rfl,I3.kept (t':=s1.toks) λb o e=>ae _ e,wkt ⟨es,h3⟩,⟨.none,.none,?_⟩,λb hb=>?_,q o H2 fz⟩
 ·rw [hl]
  exact au _ rfl
 ·have e:=aq.mp hb
  subst e
  exact I3.fpOk (af _) (I3.hok.fresh (af _))
def ItS (x:Str):It:=⟨λi _=>i<x.cps.size,λi H v H'=>H'=H∧v=.str ⟨#[x.cps.getD i 0]⟩,λi _=>x.cps.size≤i⟩
theorem wqy {P:Ac}{w:Ah}{K:Aa}{it:Aj}{x:Str}{t:Tok}:Turn P w K tg (ItS x) [it] it (λi h=>h.IsStrIter it "str_ascii_iterator" x t i) where
 mem:=by simp
 obj:=λi h st b hb=>by
  have e:b=it:=by simpa using hb
  subst e
  obtain ⟨ob,e,c,dd⟩:=st
  exact ⟨ob,e,λv z=>by rw [dd] at z;cases z⟩
 keep:=λi h h' st k=>by
  obtain ⟨ob,e,r⟩:=st
  exact ⟨ob,k it (by simp) ob e,r⟩
 item:=by
  intro X hP hw hK hc i pins s σ H E I hf st hg
  subst hP hw hK
  have hg:i<x.cps.size:=hg
  obtain ⟨f0,f1,f2,f3,f4,f5⟩:=hf it (by simp)
  refine wpAny_pyNext_ascii_item st (c:=x.cps.getD i 0) (by rw [d8,bE hg];rfl) λh' st' sb=>?_
  have I1:Inv X pins σ H { s with heap:=h',toks:=s.toks+1 }:=I.turned (t':=s.toks+1) (λb o hb e=>(sb.2 b hb).trans e) f0 f1 f3 f4 f5
  obtain ⟨ob,e,c,d'⟩:=id st'
  exact ⟨_,rfl,qkv (s:={ s with heap:=h',toks:=s.toks+1 }) e c d' (by decide) ⟨.str ⟨#[x.cps.getD i 0]⟩,H,I1,⟨_,rfl⟩,⟨rfl,rfl⟩,st',λb hb=>(hf b hb).1⟩⟩
 done:=by
  intro X hP hw hK hc i pins s σ H E I hf st hg
  subst hP hw hK
  obtain ⟨f0,f1,f2,f3,f4,f5⟩:=hf it (by simp)
  exact wpAny_pyNext_ascii_end (I.ok.hd hc) st (bR hg) λh' eb=>⟨rfl,I.turned (t':=s.toks) (λb o hb e=>eb b o hb e) f0 f1 f3 f4 f5⟩
 self:=λ_ _ _ _ _ st h=>wpAny_pyIter_striter_ascii st h
theorem wwq {P:Ac}{w:Ah}{K:Aa}{it:Aj}{x:Str}{t:Tok}:Turn P w K tg (ItS x) [it] it (λi h=>h.IsStrIter it "str_iterator" x t i) where
 mem:=by simp
 obj:=λi h st b hb=>by
  have e:b=it:=by simpa using hb
  subst e
  obtain ⟨ob,e,c,dd⟩:=st
  exact ⟨ob,e,λv z=>by rw [dd] at z;cases z⟩
 keep:=λi h h' st k=>by
  obtain ⟨ob,e,r⟩:=st
  exact ⟨ob,k it (by simp) ob e,r⟩
 item:=by
  intro X hP hw hK hc i pins s σ H E I hf st hg
  subst hP hw hK
  have hg:i<x.cps.size:=hg
  obtain ⟨f0,f1,f2,f3,f4,f5⟩:=hf it (by simp)
  refine wpAny_pyNext_wide_item st (c:=x.cps.getD i 0) (by rw [d8,bE hg];rfl) λh' st' sb=>?_
  have I1:Inv X pins σ H { s with heap:=h',toks:=s.toks+1 }:=I.turned (t':=s.toks+1) (λb o hb e=>(sb.2 b hb).trans e) f0 f1 f3 f4 f5
  obtain ⟨ob,e,c,d'⟩:=id st'
  exact ⟨_,rfl,qkv (s:={ s with heap:=h',toks:=s.toks+1 }) e c d' (by decide) ⟨.str ⟨#[x.cps.getD i 0]⟩,H,I1,⟨_,rfl⟩,⟨rfl,rfl⟩,st',λb hb=>(hf b hb).1⟩⟩
 done:=by
  intro X hP hw hK hc i pins s σ H E I hf st hg
  subst hP hw hK
  obtain ⟨f0,f1,f2,f3,f4,f5⟩:=hf it (by simp)
  exact wpAny_pyNext_wide_end (I.ok.hd hc) st (bR hg) λh' eb=>⟨rfl,I.turned (t':=s.toks) (λb o hb e=>eb b o hb e) f0 f1 f3 f4 f5⟩
 self:=λ_ _ _ _ _ st h=>wpAny_pyIter_striter_wide st h
def iStr (tl:TE):TI:=λσ H R=>tl σ H λv H1=>∃x,v=.str x∧R (ItS x) H1
theorem pi_str (hl:PE X l tl):PI X tg l (iStr tl):=by
 intro pins s σ H R I h
 refine thn (hl pins s σ H _ I h) λv s1 ⟨v',H1,I1,r1,x,e,q⟩=>?_
 subst e
 obtain ⟨t,rfl⟩:=(show ∃t,v=Value.str x t from r1)
 cases ha:x.cps.all (·<128)
 ·refine wpAny_pyIter_wide ha ⟨s1.heap.objs.size,[s1.heap.objs.size],_,_,H1,rfl,I1.kept (t':=s1.toks) λb o e=>ae _ e,wwq (t:=t),⟨_,au _ rfl,rfl,rfl⟩,λb hb=>?_,q⟩
  have e:=aq.mp hb
  subst e
  exact I1.fpOk (af _) (I1.hok.fresh (af _))
 ·refine wpAny_pyIter_ascii ha ⟨s1.heap.objs.size,[s1.heap.objs.size],_,_,H1,rfl,I1.kept (t':=s1.toks) λb o e=>ae _ e,wqy (t:=t),⟨_,au _ rfl,rfl,rfl⟩,λb hb=>?_,q⟩
  have e:=aq.mp hb
  subst e
  exact I1.fpOk (af _) (I1.hok.fresh (af _))
end
end L2
namespace L2
open PySem
def advN (t:SetTable):Nat→SetTable.Probe→SetTable.Probe
 |0,p=>p
 |n+1,p=>advN t n (t.advance p)
def rs (mask:Nat)(q:Nat×Nat):SetTable.Probe:={ j:=q.1,more:=SetTable.runEnd mask q.1-q.1,i:=q.1,perturb:=q.2,dummy:=none }
theorem qzs:∀(l l':List Nat),l.Nodup→(∀a∈l,a∈l')→l.length≤l'.length
 |[],_,_,_=>aB _
 |a::l,l',hn,hs=>by
  have hn':=aS.mp hn
  have ha:=hs a (.head _)
  have:=qzs l (l'.erase a) hn'.2 λb hb=>(List.mem_erase_of_ne (λz=>by subst z;exact hn'.1 hb)).mpr (hs b (.tail _ hb))
  rw [eQ,ak ha] at this
  have hp:0<l'.length:=List.length_pos_of_mem ha
  rw [aX]
  lia
inductive MetOk (t:SetTable) (p:SetTable.Probe) (N:Nat):SetTable.Met→Prop
 |empty (j:Nat):MetOk t p N (.empty j none)
 |cand (m i:Nat) (hm:m<N) (hs:t.slot (advN t m p).j=.live i):MetOk t p N (.candidate (advN t m p).j i (advN t (m+1) p))
def liveL (mask:Nat)(owner:Array (Option Nat)):List (Nat×Nat):=(List.range (mask+1)).filterMap λj=>(owner.getD j none).map (j,·)
structure OwnI (mask:Nat)(owner:Array (Option Nat))(k:Nat):Prop where
 size:owner.size=mask+1
 len:(liveL mask owner).length=k
 low:∀j v:Nat,owner[j]?=some (some v)→v<k
end L2
namespace L2
open PySem PySem.Spec PyProof.Rows
def Rows (q:Aj)(B:Hp)(L:List (List V))(ys:List V)(H:Hp):Prop:=Paired (λv xs=>∃a,v=.ref a∧a≠q∧B a=none∧H a=some (.lst xs)) ys L
theorem xb {H H':Hp}(s:Same H H'){a:Aj}(n:H' a=none):H a=none:=by
 cases e:H a with
 |none=>rfl
 |some o=>rw [s _ _ e] at n;cases n
def Yb (c:Nat→Bool)(xs:List V)(n:Nat):List V:=((List.range n).filter c).map λi=>xs.getD i .non
theorem qj5 {K:Aa}{M:List Nat}{a:Aj}{xs:List V}{tt:TT}{te:TE}{σ:St}{H:Hp}{Q:VK}(c:Nat→Bool)(hS:SqL K H a xs)(hn:xs.length≤1000000)
  (ht:∀(i:Nat) (x:V) (H':Hp) (R:Bool→Hp→Prop),xs[i]?=some x→Same H H'→(∀H'',Same H' H''→R (c i) H'')→tt (vw M σ (some x)) H' R)
  (he:∀(i:Nat) (x:V) (H':Hp) (R:VK),xs[i]?=some x→c i=true→Same H H'→(∀H'',Same H' H''→R x H'')→te (vw M σ (some x)) H' R)
  (k:∀p H',H p=none→Same H H'→H' p=some (.lst (Yb c xs xs.length))→Q (.ref p) H'):qjg (Itl K a) M tt te σ H Q:=by
 intro p np
 refine ⟨λi m ys H2=>i≤xs.length∧m=xs.length-i∧ys=Yb c xs i∧Same H H2∧H2 p=some (.lst ys),⟨xs.length,aB _,rfl,rfl,Same.upd np,q8⟩,?_⟩
 rintro i m ys H2 ⟨hi,rfl,rfl,sm,hp⟩
 refine ⟨hp,?_,?_⟩
 ·unfold Yb
  rw [ac]
  have:=cE c (List.range i)
  rw [aJ] at this
  have:(1000000:Nat)<sizeLine:=by decide
  lia
 ·by_cases hlt:i<xs.length
  ·have hx:xs[i]?=some xs[i]:=ar hlt
   refine .inr ⟨⟨xs,_,sm.sql hS,hx⟩,?_⟩
   rintro v H3 ⟨rfl,hv⟩
   have e:=az (hx.symm.trans (hv xs (sm.sql hS)))
   subst e
   refine ht i _ _ _ hx sm λH4 s4=>?_
   have hp4:=s4 _ _ hp
   have hg:xs.getD i .non=xs[i]:=by rw [ay,hx];rfl
   cases hc:c i with
   |true =>
    refine ym ?_
    refine he i _ _ _ hx hc (sm.trans s4) λH5 s5=>⟨s5 _ _ hp4,xs.length-(i+1),by lia,by lia,rfl,?_,λb o e=>?_,q8⟩
    ·unfold Yb
     rw [cb,List.filter_append,aT]
     simp only [bt,hc,if_true,List.filter_nil,aZ,dn,hg]
    ·rw [wg (qj e np)]
     exact s5 _ _ (s4 _ _ (sm _ _ e))
   |false =>
    refine ju ?_
    refine ⟨hp4,xs.length-(i+1),by lia,by lia,rfl,?_,sm.trans s4,hp4⟩
    unfold Yb
    rw [cb,List.filter_append,aT]
    simp only [bt,hc,bV,eE,List.filter_nil,dn,ca]
  ·have:i=xs.length:=by lia
   subst this
   exact .inl ⟨⟨xs,sm.sql hS,af _⟩,k p H2 np sm hp⟩
end L2
namespace L2
open PySem PySem.Spec PyProof.Rows
def Bef (a:Array Ai)(p q:Nat):Prop:=K a p<K a q∨(K a p=K a q∧p<q)
structure From (a xs:Array Ai)(k:Nat)(ix:Nat→Nat):Prop where
 at_:∀i,xs[i]?=a[ix i]?
 rest:∀i,k≤i→ix i=i
 low:∀i,i<k→ix i<k
theorem From.key {a xs:Array Ai}{k:Nat}{ix:Nat→Nat}(f:From a xs k ix)(i:Nat):K xs i=K a (ix i):=K_congr (f.at_ i)
theorem From.more {a xs:Array Ai}{k:Nat}{ix:Nat→Nat}(f:From a xs k ix):From a xs (k+1) ix :=
 ⟨f.at_,λi h=>f.rest i (by lia),λi h=>by
  by_cases e:i<k
  ·have:=f.low i e;lia
  ·have:=f.rest i (by lia);lia⟩
theorem From.mirror {a xs:Array Ai}{k b:Nat}{ix:Nat→Nat}(f:From a xs k ix)(hk:k≤xs.size):From a (mirror xs b k ((k-b)/2)) k (λi=>if b≤i∧i<k then ix (b+k-1-i) else ix i):=by
 refine ⟨λi=>?_,λi h=>?_,λi h=>?_⟩
 ·rw [getElem?_mirror_all hk]
  by_cases c:b≤i∧i<k
  ·simp only [ak c]
   exact f.at_ _
  ·simp only [ag c]
   exact f.at_ _
 ·simp only [ag (show ¬ (b≤i∧i<k) by lia)]
  exact f.rest i h
 ·by_cases c:b≤i∧i<k
  ·simp only [ak c]
   exact f.low _ (by lia)
  ·simp only [ag c]
   exact f.low i h
def Up (a xs:Array Ai)(k:Nat):Prop:=∃ix,From a xs k ix∧∀i j,i<j→j<k→Bef a (ix i) (ix j)
def Dr (a xs:Array Ai)(k:Nat):Prop:=∃ix,From a xs k ix∧∀i j,i<j→j<k→Bef a (ix j) (ix i)
def Dn (a xs:Array Ai)(k e:Nat):Prop:=e+1≤k∧∃ix,From a xs k ix∧(∀i j,i<j→j<k-(e+1)→Bef a (ix j) (ix i))∧(∀i j,i<k-(e+1)→k-(e+1)≤j→j<k→K a (ix j)<K a (ix i)) ∧
 ∀i j,k-(e+1)≤i→i<j→j<k→K a (ix i)=K a (ix j)∧ix i<ix j
section
variable {a xs:Array Ai}{k e:Nat}
theorem Up.le (h:Up a xs k){i j:Nat}(hij:i≤j)(hj:j<k):K xs i≤K xs j:=by
 obtain ⟨ix,f,o⟩:=h
 rw [f.key,f.key]
 by_cases c:i=j
 ·subst c;exact di _
 ·rcases o i j (by lia) hj with h|h <;> lia
theorem Up.grow (h:Up a xs k)(hk:1≤k)(hn:¬ K xs k<K xs (k-1)):Up a xs (k+1):=by
 obtain ⟨ix,f,o⟩:=h
 rw [f.key,f.key,f.rest k (af _)] at hn
 refine ⟨ix,f.more,λi j hij hj=>?_⟩
 by_cases c:j<k
 ·exact o i j hij c
 ·obtain rfl:j=k:=by lia
  have hl:=f.low i hij
  rw [f.rest j (af _)]
  unfold Bef
  by_cases c2:i=j-1
  ·subst c2;lia
  ·rcases o i (j-1) (by lia) (by lia) with h|h <;> lia
theorem Dr.up (h:Dr a xs k)(hk:k≤xs.size):Up a (mirror xs 0 k ((k-0)/2)) k:=by
 obtain ⟨ix,f,o⟩:=h
 refine ⟨_,f.mirror hk,λi j hij hj=>?_⟩
 simp only [ak (show 0≤i∧i<k by lia),ak (show 0≤j∧j<k by lia)]
 exact o _ _ (by lia) (by lia)
theorem Dn.flat (h:Dn a xs k 0):Dr a xs k:=by
 obtain ⟨h0,ix,f,o1,o2,o3⟩:=h
 refine ⟨ix,f,λi j hij hj=>?_⟩
 by_cases c:j<k-(0+1)
 ·exact o1 i j hij c
 ·exact .inl (o2 i j (by lia) (by lia) hj)
theorem Dn.turn (h:Dn a xs k e)(hk:k≤xs.size):Dr a (mirror xs (k-(e+1)) k ((k-(k-(e+1)))/2)) k:=by
 obtain ⟨h0,ix,f,o1,o2,o3⟩:=h
 refine ⟨_,f.mirror hk,λi j hij hj=>?_⟩
 by_cases c1:k-(e+1)≤i
 ·simp only [ak (show k-(e+1)≤i∧i<k by lia),ak (show k-(e+1)≤j∧j<k by lia)]
  exact .inr (o3 _ _ (by lia) (by lia) (by lia))
 ·simp only [ag (show ¬ (k-(e+1)≤i∧i<k) by lia)]
  by_cases c2:k-(e+1)≤j
  ·simp only [ak (show k-(e+1)≤j∧j<k by lia)]
   exact .inl (o2 _ _ (by lia) (by lia) (by lia))
  ·simp only [ag (show ¬ (k-(e+1)≤j∧j<k) by lia)]
   exact o1 i j hij (by lia)
theorem Dr.grow (h:Dr a xs k)(hk:1≤k)(hn:K xs k<K xs (k-1)):Dn a xs (k+1) 0:=by
 obtain ⟨ix,f,o⟩:=h
 rw [f.key,f.key,f.rest k (af _)] at hn
 refine ⟨by lia,ix,f.more,λi j hij hj=>o i j hij (by lia),λi j hi h1 h2=>?_,λi j h1 h2 h3=>by lia⟩
 obtain rfl:j=k:=by lia
 rw [f.rest j (af _)]
 by_cases c:i=j-1
 ·subst c;exact hn
 ·rcases o i (j-1) (by lia) (by lia) with h|h <;> lia
theorem Dn.grow (h:Dn a xs k e)(h1:¬ K xs k<K xs (k-1))(h2:¬ K xs (k-1)<K xs k):Dn a xs (k+1) (e+1):=by
 obtain ⟨h0,ix,f,o1,o2,o3⟩:=h
 rw [f.key,f.key,f.rest k (af _)] at h1 h2
 have hk1:k+1-(e+1+1)=k-(e+1):=by lia
 refine ⟨by lia,ix,f.more,?_,?_,?_⟩
 ·rw [hk1];exact o1
 ·rw [hk1]
  intro i j hi hj1 hj2
  by_cases c:j<k
  ·exact o2 i j hi hj1 c
  ·obtain rfl:j=k:=by lia
   rw [f.rest j (af _)]
   have:=o2 i (j-1) hi (by lia) (by lia)
   lia
 ·rw [hk1]
  intro i j hi hij hj
  by_cases c:j<k
  ·exact o3 i j hi hij c
  ·obtain rfl:j=k:=by lia
   rw [f.rest j (af _)]
   refine ⟨?_,f.low i hij⟩
   by_cases c2:i=j-1
   ·subst c2;lia
   ·have:=(o3 i (j-1) hi (by lia) (by lia)).1
    lia
theorem Up.even (h:Up a xs k)(hk:1≤k)(hz:k≤xs.size)(hr:¬ K xs 0<K xs (k-1)):Dr a (mirror xs 0 k ((k-0)/2)) k:=by
 have hle:=@Up.le a xs k h
 obtain ⟨ix,f,o⟩:=h
 have hall:∀i,i<k→K a (ix i)=K a (ix 0):=λi hi=>by
  have e1:=hle (i:=0) (j:=i) (by lia) hi
  have e2:=hle (i:=i) (j:=k-1) (by lia) (by lia)
  rw [f.key,f.key] at e1 e2 hr
  lia
 refine ⟨_,f.mirror hz,λi j hij hj=>?_⟩
 simp only [ak (show 0≤i∧i<k by lia),ak (show 0≤j∧j<k by lia)]
 have e1:=hall (0+k-1-i) (by lia)
 have e2:=hall (0+k-1-j) (by lia)
 rcases o (0+k-1-j) (0+k-1-i) (by lia) (by lia) with h|h
 ·exact .inl h
 ·exact .inr h
theorem Up.put (h:Up a xs k)(hk:k<xs.size){l:Nat}(hl:l≤k)(h1:∀i,i<l→K xs i≤K xs k)(h2:∀i,l≤i→i<k→K xs k<K xs i):Up a (bubble xs k (k-l)) (k+1):=by
 obtain ⟨ix,f,o⟩:=h
 have hkk:k-(k-l)=l:=by lia
 have hr:=f.rest k (af _)
 refine ⟨λi=>if i=l then k else if l<i∧i≤k then ix (i-1) else ix i,⟨λi=>?_,λi hi=>?_,λi hi=>?_⟩,λi j hij hj=>?_⟩
 ·rw [getElem?_bubble hk _ (by lia),hkk]
  by_cases c:i=l
  ·simp only [ak c]
   rw [f.at_,hr]
  ·simp only [ag c]
   by_cases c2:l<i∧i≤k
   ·simp only [ak c2]
    exact f.at_ _
   ·simp only [ag c2]
    exact f.at_ _
 ·simp only [ag (show ¬ i=l by lia),ag (show ¬ (l<i∧i≤k) by lia)]
  exact f.rest i (by lia)
 ·by_cases c:i=l
  ·simp only [ak c];lia
  ·simp only [ag c]
   by_cases c2:l<i∧i≤k
   ·simp only [ak c2]
    have:=f.low (i-1) (by lia)
    lia
   ·simp only [ag c2]
    have:=f.low i (by lia)
    lia
 ·have key:∀i,i<k→(i<l→K a (ix i)≤K a k)∧(l≤i→K a k<K a (ix i)):=λi hi=>by
   refine ⟨λc=>?_,λc=>?_⟩
   ·have:=h1 i c
    rw [f.key,f.key,hr] at this
    exact this
   ·have:=h2 i c hi
    rw [f.key,f.key,hr] at this
    exact this
  by_cases ci:i=l
  ·simp only [ak ci,ag (show ¬ j=l by lia),ak (show l<j∧j≤k by lia)]
   exact .inl ((key (j-1) (by lia)).2 (by lia))
  ·by_cases cj:j=l
   ·simp only [ag ci,ak cj,ag (show ¬ (l<i∧i≤k) by lia)]
    have a1:=(key i (by lia)).1 (by lia)
    have a2:=f.low i (by lia)
    unfold Bef
    lia
   ·simp only [ag ci,ag cj]
    by_cases c3:l<i
    ·simp only [ak (show l<i∧i≤k by lia),ak (show l<j∧j≤k by lia)]
     exact o _ _ (by lia) (by lia)
    ·simp only [ag (show ¬ (l<i∧i≤k) by lia)]
     by_cases c4:l<j
     ·simp only [ak (show l<j∧j≤k by lia)]
      exact o _ _ (by lia) (by lia)
     ·simp only [ag (show ¬ (l<j∧j≤k) by lia)]
      exact o _ _ hij (by lia)
end
section
variable {prog:Ac}{w:Ah}{A:Ae}{E:Ag→Ab→Prop}{s:Ab}{a₀:Array Ai}
end
end L2
namespace L2
open PySem PySem.Spec PyProof.Rows
theorem qxz:∀(n:Nat) (l:List Nat),l.Nodup→(∀x∈l,x<n)→l.length≤n
 |0,l,_,h=>by
  cases l with
  |nil=>exact af _
  |cons x l=>exact absurd (h x (aO ..)) (dU _)
 |n+1,l,hn,h=>by
  have a1:=qxz n (l.erase n) (hn.erase n) λx hx=>by
   have hm:=List.mem_of_mem_erase hx
   have:=h x hm
   by_cases e:x=n
   ·subst e
    exact absurd hx (hn.not_mem_erase)
   ·lia
  have a2:l.length≤(l.erase n).length+1:=by
   rw [eQ]
   split <;> lia
  lia
theorem qwr:∀(n:Nat) (l:List Nat),l.Nodup→(∀x∈l,x<n)→l.length=n→l.Perm (List.range n)
 |0,l,_,_,e=>by rw [List.length_eq_zero_iff.mp e];exact List.Perm.refl _
 |n+1,l,hn,h,e=>by
  have hm:n∈l:=by
   apply bX
   intro c
   have:=qxz n l hn λx hx=>by
    have:=h x hx
    by_cases e:x=n
    ·subst e;exact absurd hx c
    ·lia
   lia
  have a1:=qwr n (l.erase n) (hn.erase n) (λx hx=>by
   have:=h x (List.mem_of_mem_erase hx)
   by_cases e:x=n
   ·subst e;exact absurd hx hn.not_mem_erase
   ·lia) (by rw [eQ,ak (by simpa using hm)];lia)
  rw [cb]
  exact (List.perm_cons_erase hm).trans ((a1.cons n).trans (List.perm_append_comm (l₁:=[n])))
theorem Up.places {a xs:Array Ai}(h:Up a xs a.size)(hz:xs.size=a.size):∃il:List Nat,il.Perm (List.range a.size)∧il.Pairwise (Bef a)∧xs.toList=il.map λi=>a.getD i (.none,.none):=by
 obtain ⟨ix,f,o⟩:=h
 have pw:((List.range a.size).map ix).Pairwise (Bef a):=by
  rw [bw]
  refine bI (R:=(·<·)) (λ{i j} hi hj hij=>?_) dz
  exact o i j hij (bb.mp hj)
 refine ⟨(List.range a.size).map ix,qwr _ _ ?_ ?_ (by rw [ac,aJ]),pw,?_⟩
 ·refine pw.imp λ{i j} h e=>?_
  subst e
  unfold Bef at h
  lia
 ·intro x hx
  obtain ⟨i,hi,rfl⟩:=aw.mp hx
  exact f.low i (bb.mp hi)
 ·refine List.ext_getElem? λi=>?_
  rw [bS,aH,bW,f.at_]
  by_cases c:i<a.size
  ·rw [cv c]
   have:=f.low i c
   simp [Array.getD,this]
  ·rw [f.rest i (by lia),bR (by lia),bx (by rw [aJ];lia)]
   rfl
end L2
namespace L2
open PySem PySem.Spec PySem.W PyProof.Rows
section
variable {n:Nat}{im:Nat→Ai}{kz:Nat→Int}{ask:Nat→Nat→(Bool→Ab→Prop)→Ab→Prop}{s:Ab}
def Gd (n:Nat)(p:Array Nat):Prop:=p.Perm (List.toArray (List.range n))
theorem Gd.size {p:Array Nat}(h:Gd n p):p.size=n:=by
 have:=Array.Perm.size_eq h
 simpa using this
theorem Gd.lt {p:Array Nat}(h:Gd n p){i:Nat}(hi:i<n):p.getD i 0<n:=by
 have hs:=h.size
 have m:p[i]'(by lia)∈p:=Array.getElem_mem _
 have:=(Array.Perm.mem_iff h).mp m
 have e:p.getD i 0=p[i]'(by lia):=by simp [Array.getD,hs,hi]
 rw [e]
 simpa using this
theorem Gd.rev {p:Array Nat}(h:Gd n p)(i j:Nat):Gd n (kas_rev p i j):=(mirror_perm _ _ _ _).trans h
theorem Gd.bub {p:Array Nat}(h:Gd n p)(i j:Nat):Gd n (bubble p i j):=(bubble_perm _ _ _).trans h
def ixA (n:Nat)(im:Nat→Ai):Array Ai:=(List.toArray (List.range n)).map im
theorem Z7 (p:Array Nat)(i j:Nat):(kas_rev p i j).map im=mirror (p.map im) i j ((j-i)/2):=by
 unfold kas_rev mirror
 exact (kas_swaps_map im _ _ _ p).symm
theorem wvy (p:Array Nat)(i j:Nat):(bubble p i j).map im=bubble (p.map im) i j:=by
 unfold bubble
 exact (kas_swaps_map im _ _ _ p).symm
def KyI (im:Nat→Ai)(kz:Nat→Int):Prop:=∀(p:Array Nat) i,i<p.size→K (p.map im) i=kz (p.getD i 0)
def Jt (n:Nat)(kz:Nat→Int)(ask:Nat→Nat→(Bool→Ab→Prop)→Ab→Prop)(s:Ab):Prop:=∀i j C,i<n→j<n→C (decide (kz i<kz j)) s→ask i j C s
theorem Yv {p:Array Nat}{i j:Nat}{C:Bool→Ab→Prop}(ha:Jt n kz ask s)(hk:KyI im kz)(g:Gd n p)(hi:i<n)(hj:j<n)
  (h1:K (p.map im) i<K (p.map im) j→C true s) (h2:¬ K (p.map im) i<K (p.map im) j→C false s):ask (p.getD i 0) (p.getD j 0) C s:=by
 refine ha _ _ _ (g.lt hi) (g.lt hj) ?_
 rw [hk p i (by rw [g.size];exact hi),hk p j (by rw [g.size];exact hj)] at h1 h2
 by_cases c:kz (p.getD i 0)<kz (p.getD j 0)
 ·simp only [c,decide_true];exact h1 c
 ·simp only [c,decide_false];exact h2 c
theorem qyu {p:Array Nat}{e:Nat}{Q:Nat→Ab→Prop}(ha:Jt n kz ask s)(hk:KyI im kz)(g:Gd n p)(he:e≤n):∀(f b:Nat),1≤b→b+f=e→Up (ixA n im) (p.map im) b →
  (∀m,b≤m→m≤e→Up (ixA n im) (p.map im) m→(m=e∨K (p.map im) m<K (p.map im) (m-1))→Q m s)→(kas_asc p f b).kasWp ask Q s
 |0,b,_,hb,u,h=>h b (af _) (by lia) u (.inl (by lia))
 |f+1,b,h1,hb,u,h=>by
  refine Yv ha hk g (by lia) (by lia) (λc=>?_) λc=>?_
  ·exact h b (af _) (by lia) u (.inr c)
  ·exact qyu ha hk g he f (b+1) (by lia) (by lia) (u.grow h1 c) λm a1 a2 a3 a4=>h m (by lia) a2 a3 a4
theorem qym {p:Array Nat}{k e:Nat}{Q:Nat×Array Nat→Ab→Prop}(ha:Jt n kz ask s)(hk:KyI im kz)(g:Gd n p)(he:e≤n)(h1:1≤k)(hke:k≤e)(d:Dr (ixA n im) (p.map im) k)
  (h:∀m q,Gd n q→1≤m→m≤e→Up (ixA n im) (q.map im) m→Q (m,q) s):(kas_tail3 k e p).kasWp ask Q s:=by
 unfold kas_tail3
 rw [KasT.kasWp_bind]
 refine qyu ha hk (g.rev 0 k) he (e-k) k h1 (by lia) ?_ λm a1 a2 a3 _=>h m _ (g.rev 0 k) (by lia) a2 a3
 rw [Z7]
 exact d.up (by rw [cK,g.size];lia)
theorem Z5 {e:Nat}{Q:Array Nat×Nat×Nat→Ab→Prop}(ha:Jt n kz ask s)(hk:KyI im kz)(he:e≤n):∀(f:Nat) (p:Array Nat) (x q:Nat),Gd n p→x+f=e→Dn (ixA n im) (p.map im) x q →
  (∀m r p',Gd n p'→x≤m→m≤e→Dn (ixA n im) (p'.map im) m r→Q (p',m,r) s)→(kas_desc f p x q).kasWp ask Q s
 |0,p,x,q,g,hx,d,h=>h x q p g (af _) (by lia) d
 |f+1,p,x,q,g,hx,d,h=>by
  have hx1:1≤x:=by have:=d.1;lia
  have hz:x≤(p.map im).size:=by rw [cK,g.size];lia
  refine Yv ha hk g (by lia) (by lia) (λc=>?_) λc=>?_
  ·show KasT.kasWp ask (if q>0 then kas_desc f (kas_rev p (x-(q+1)) x) (x+1) 0 else kas_desc f p (x+1) 0) Q s
   by_cases c2:q>0
   ·rw [ak c2]
    refine Z5 ha hk he f _ (x+1) 0 (g.rev _ _) (by lia) ?_ λm r p' a1 a2 a3 a4=>h m r p' a1 (by lia) a3 a4
    rw [Z7]
    refine (d.turn hz).grow hx1 ?_
    rw [K_mirror hz,K_mirror hz,ag (by lia),ak (by have:=d.1;lia)]
    obtain ⟨hq,ix,f',_,_,o3⟩:=id d
    by_cases c3:x-(q+1)+x-1-(x-1)=x-1
    ·rw [c3];exact c
    ·have:=(o3 (x-(q+1)+x-1-(x-1)) (x-1) (by lia) (by lia) (by lia)).1
     rw [←f'.key,←f'.key] at this
     lia
   ·rw [ag c2]
    obtain rfl:q=0:=by lia
    exact Z5 ha hk he f p (x+1) 0 g (by lia) (d.flat.grow hx1 c) λm r p' a1 a2 a3 a4=>h m r p' a1 (by lia) a3 a4
  ·refine Yv ha hk g (by lia) (by lia) (λc2=>?_) λc2=>?_
   ·exact h x q p g (af _) (by lia) d
   ·exact Z5 ha hk he f p (x+1) (q+1) g (by lia) (d.grow c c2) λm r p' a1 a2 a3 a4=>h m r p' a1 (by lia) a3 a4
theorem qyn {p:Array Nat}{k e:Nat}{Q:Nat×Array Nat→Ab→Prop}(ha:Jt n kz ask s)(hk:KyI im kz)(g:Gd n p)(he:e≤n)(hke:k+1≤e)(d:Dn (ixA n im) (p.map im) (k+1) 0)
  (h:∀m q,Gd n q→1≤m→m≤e→Up (ixA n im) (q.map im) m→Q (m,q) s):(kas_descPart k e p).kasWp ask Q s:=by
 unfold kas_descPart
 rw [KasT.kasWp_bind]
 refine Z5 ha hk he (e-(k+1)) p (k+1) 0 g (by lia) d λm r p' g' a1 a2 d'=>?_
 have hz:m≤(p'.map im).size:=by rw [cK,g'.size];lia
 dsimp only
 by_cases c:r>0
 ·rw [ak c]
  refine qym ha hk (g'.rev _ _) he (by lia) a2 ?_ h
  rw [Z7]
  exact d'.turn hz
 ·rw [ag c]
  obtain rfl:r=0:=by lia
  exact qym ha hk g' he (by lia) a2 d'.flat h
theorem wzp {e:Nat}{Q:Nat×Array Nat→Ab→Prop}(ha:Jt n kz ask s)(hk:KyI im kz)(he:e≤n)(h1:1≤e)
  (h:∀m q,Gd n q→1≤m→m≤e→Up (ixA n im) (q.map im) m→Q (m,q) s):(kas_count e (List.toArray (List.range n))).kasWp ask Q s:=by
 have g:Gd n (List.toArray (List.range n)):=Array.Perm.refl _
 have u1:Up (ixA n im) ((List.toArray (List.range n)).map im) 1:=⟨id,⟨λi=>rfl,λi _=>rfl,λi z=>z⟩,λi j a b=>by lia⟩
 unfold kas_count
 rw [KasT.kasWp_bind]
 refine qyu ha hk g he (e-1) 1 (af _) (by lia) u1 λm m1 m2 u hor=>?_
 have hz:m≤((List.toArray (List.range n)).map im).size:=by rw [cK,g.size];lia
 by_cases c:m=e
 ·rw [ak (dF.mpr c)]
  exact h m _ g m1 m2 u
 ·have hlt:=hor.resolve_left c
  rw [ag (λz=>c (dF.mp z))]
  by_cases c2:m>1
  ·rw [ak c2]
   refine Yv ha hk g (by lia) (by lia) (λc3=>?_) λc3=>?_
   ·exact h m _ g m1 m2 u
   ·refine qyn ha hk (g.rev 0 m) he (by lia) ?_ h
    rw [Z7]
    refine (u.even m1 hz c3).grow m1 ?_
    rw [K_mirror hz,K_mirror hz,ag (by lia),ak (by lia)]
    have e1:=u.le (i:=0) (j:=0+m-1-(m-1)) (by lia) (by lia)
    have e2:=u.le (i:=0+m-1-(m-1)) (j:=m-1) (by lia) (by lia)
    lia
  ·rw [ag c2]
   obtain rfl:m=1:=by lia
   obtain ⟨ix,f,o⟩:=u
   exact qyn ha hk g he (by lia) (Dr.grow ⟨ix,f,λi j a b=>by lia⟩ (by lia) hlt) h
theorem Jv {p:Array Nat}{k:Nat}{Q:Nat→Ab→Prop}(ha:Jt n kz ask s)(hk:KyI im kz)(g:Gd n p)(hkn:k<n)(u:Up (ixA n im) (p.map im) k)
  (h:∀l,l≤k→(∀i,i<l→K (p.map im) i≤K (p.map im) k)→(∀i,l≤i→i<k→K (p.map im) k<K (p.map im) i)→Q l s):∀(f l r:Nat),l≤r→r≤k→r-l≤f→(∀i,i<l→K (p.map im) i≤K (p.map im) k)→(∀i,r≤i→i<k→K (p.map im) k<K (p.map im) i) →
  (kas_place p k f l r).kasWp ask Q s
 |0,l,r,a1,a2,a3,a4,a5=>by
  obtain rfl:l=r:=by lia
  exact h l a2 a4 a5
 |f+1,l,r,a1,a2,a3,a4,a5=>by
  unfold kas_place
  by_cases c1:l≥r
  ·rw [ak c1]
   obtain rfl:l=r:=by lia
   exact h l a2 a4 a5
  ·rw [ag c1]
   refine Yv ha hk g (by lia) (by lia) (λc2=>?_) λc2=>?_
   ·exact Jv ha hk g hkn u h f l ((l+r)/2) (by lia) (by lia) (by lia) a4 λi z1 z2=>by have:=u.le z1 z2;lia
   ·exact Jv ha hk g hkn u h f ((l+r)/2+1) r (by lia) (by lia) (by lia) (λi z=>by have:=u.le (i:=i) (j:=(l+r)/2) (by lia) (by lia);lia) a5
theorem wwb {Q:Array Nat→Ab→Prop}(ha:Jt n kz ask s)(hk:KyI im kz)(h:∀q,Gd n q→Up (ixA n im) (q.map im) n→Q q s):∀(f:Nat) (p:Array Nat) (k:Nat),Gd n p→1≤k→k+f=n→Up (ixA n im) (p.map im) k →
  (kas_bin f p k).kasWp ask Q s
 |0,p,k,g,_,e,u=>by
  obtain rfl:k=n:=by lia
  exact h p g u
 |f+1,p,k,g,k1,e,u=>by
  unfold kas_bin
  rw [KasT.kasWp_bind]
  refine Jv ha hk g (by lia) u (λl a2 a4 a5=>?_) k 0 k (aB _) (af _) (by lia) (λi z=>by lia) λi z1 z2=>by lia
  refine wwb ha hk h f _ (k+1) (g.bub _ _) (by lia) (by lia) ?_
  rw [wvy]
  exact u.put (by rw [cK,g.size];lia) a2 a4 a5
theorem wkg {Q:Array Nat→Ab→Prop}(ha:Jt n kz ask s)(hk:KyI im kz)(h1:1≤n)(h:∀q,Gd n q→Up (ixA n im) (q.map im) n→Q q s):(kas_sort n).kasWp ask Q s:=by
 unfold kas_sort
 rw [KasT.kasWp_bind]
 refine wzp ha hk (af _) h1 λm q g m1 m2 u=>?_
 dsimp only
 have em:max m 1=m:=by lia
 by_cases c:m<n
 ·rw [ak c,em]
  exact wwb ha hk h (n-m) q m g m1 (by lia) u
 ·rw [ag c]
  obtain rfl:m=n:=by lia
  exact h q g u
def imI (kz:Nat→Int)(t:Tok)(i:Nat):Ai:=(.int (kz i) t,.int (i:Int) t)
theorem imI_ky (kz:Nat→Int)(t:Tok):KyI (imI kz t) kz:=λp i hi=>by
 unfold K
 simp [hi,imI,numOf,Array.getD]
theorem tr_out {t:Tok}{Q:Array Nat→Ab→Prop}(ha:Jt n kz ask s)(h1:1≤n)
  (h:∀il:List Nat,il.Perm (List.range n)→il.Pairwise (λi j=>kz i<kz j∨(kz i=kz j∧i<j))→Q il.toArray s):(kas_sort n).kasWp ask Q s:=by
 refine wkg ha (imI_ky kz t) h1 λq g u=>?_
 have hz:(ixA n (imI kz t)).size=n:=by simp [ixA]
 have hzq:(q.map (imI kz t)).size=(ixA n (imI kz t)).size:=by rw [hz,cK,g.size]
 obtain ⟨il,p,o,e⟩:=Up.places (by rw [hz];exact u) hzq
 rw [hz] at p
 have hin:∀i∈il,i<n:=λi hi=>bb.mp (p.mem_iff.mp hi)
 have at_:∀i,i<n→(ixA n (imI kz t)).getD i (.none,.none)=imI kz t i:=λi hi=>by
  simp [ixA,Array.getD,hi]
 have ky:∀i,i<n→K (ixA n (imI kz t)) i=kz i:=λi hi=>by
  unfold K
  simp [ixA,hi,imI,numOf]
 have e2:q.toList.map (imI kz t)=il.map (imI kz t):=by
  rw [←Array.toList_map,e]
  exact bO λi hi=>at_ i (hin i hi)
 have inj:∀i j,imI kz t i=imI kz t j→i=j:=λi j e=>by
  simp only [imI,Prod.mk.injEq,Value.int.injEq] at e
  lia
 have e3:q.toList=il:=(List.map_inj_right (λi j e=>inj i j e)).mp e2
 have e4:q=il.toArray:=by rw [←e3]
 rw [e4]
 exact h il p (o.imp_of_mem λ{i j} hi hj hb=>by
  unfold Bef at hb
  rw [ky i (hin i hi),ky j (hin j hj)] at hb
  exact hb)
end
end L2
namespace L2
open PySem PySem.Spec PySem.Calls PySem.W PyProof.Rows
section
variable {prog:Ac}{w:Ah}{A:Ae}{E:Ag→Ab→Prop}{s:Ab}
theorem qqs {h:Heap}{a:Aj}{vs:List Ag}{k:Nat}(ho:h.get? a=some (seqObj "list" vs.toArray k))(out:Array Ag):∃e,(sortedHeap h a vs out).get? a=some (seqObj "list" out e):=by
 obtain ⟨e1,ho1⟩:∃e1,(h.update a (Obj.mapSeq λ_=>(#[]:Array Ag))).get? a=some (seqObj "list" #[] e1):=⟨_,get?_update_seq ho λ_=>#[]⟩
 exact ⟨_,get?_update_seq (ae _ (ae _ ho1)) λ_=>out⟩
theorem Js {h:Heap}{a b:Aj}{vs:List Ag}{o:Obj}(e:h.get? b=some o)(hb:b≠a)(out:Array Ag):(sortedHeap h a vs out).get? b=some o:=by
 unfold sortedHeap
 rw [Heap.get?_update_ne _ _ _ _ hb]
 refine ae _ (ae _ ?_)
 rw [Heap.get?_update_ne _ _ _ _ hb]
 exact e
end
section
variable {X:Cx}
end
end L2
namespace L2
open PySem PySem.Spec PySem.Calls PySem.W PyProof.Rows
def kzS (ss:List Str)(x:Str):Int:=((ss.filter λy=>decide (y.cps.toList<x.cps.toList)).length:Nat)
theorem wx5 {ss:List Str}{x y:Str}(h:¬ y.cps.toList<x.cps.toList):kzS ss x≤kzS ss y:=by
 unfold kzS
 have:(ss.filter λz=>decide (z.cps.toList<x.cps.toList)).length≤(ss.filter λz=>decide (z.cps.toList<y.cps.toList)).length:=by
  refine (List.Sublist.length_le ?_)
  have e:(ss.filter λz=>decide (z.cps.toList<x.cps.toList))=(ss.filter λz=>decide (z.cps.toList<y.cps.toList)).filter λz=>decide (z.cps.toList<x.cps.toList):=by
   rw [List.filter_filter]
   refine List.filter_congr λz _=>?_
   by_cases c:z.cps.toList<x.cps.toList
   ·have:z.cps.toList<y.cps.toList:=by
     apply bX
     intro n
     exact absurd c (List.not_lt.mpr (List.le_trans (List.not_lt.mp h) (List.not_lt.mp n)))
    simp [c,this]
   ·simp [c]
  rw [e]
  exact List.filter_sublist
 lia
theorem wx0 {ss:List Str}{x y:Str}(hx:x∈ss)(h:x.cps.toList<y.cps.toList):kzS ss x<kzS ss y:=by
 unfold kzS
 have sub:(ss.filter λz=>decide (z.cps.toList<x.cps.toList)).length<(ss.filter λz=>decide (z.cps.toList<y.cps.toList)).length:=by
  have e:(ss.filter λz=>decide (z.cps.toList<x.cps.toList))=(ss.filter λz=>decide (z.cps.toList<y.cps.toList)).filter λz=>decide (z.cps.toList<x.cps.toList):=by
   rw [List.filter_filter]
   refine List.filter_congr λz _=>?_
   by_cases c:z.cps.toList<x.cps.toList
   ·have:z.cps.toList<y.cps.toList:=List.lt_trans c h
    simp [c,this]
   ·simp [c]
  rw [e]
  have mem:x∈ss.filter λz=>decide (z.cps.toList<y.cps.toList):=bY.mpr ⟨hx,bD h⟩
  refine Nat.lt_of_le_of_ne (cE _ _) λz=>?_
  have:=(List.length_filter_eq_length_iff).mp z x mem
  exact List.lt_irrefl _ (dA this)
 lia
theorem wkf {ss:List Str}{x y:Str}(hx:x∈ss):kzS ss x<kzS ss y↔x.cps.toList<y.cps.toList:=by
 constructor
 ·intro h
  apply bX
  intro n
  have:=wx5 (ss:=ss) n
  lia
 ·exact wx0 hx
section
variable {prog:Ac}{w:Ah}{A:Ae}{E:Ag→Ab→Prop}{s:Ab}
def StrsR (vs:List Ag)(ss:List Str):Prop:=Paired (λv x=>∃t,v=Value.str x t) vs ss
theorem StrsR.at {vs:List Ag}{ss:List Str}(h:StrsR vs ss):∀ {i:Nat},i<ss.length→∃x t,ss[i]?=some x∧vs.getD i Value.none=Value.str x t:=by
 induction h with
 |nil=>intro i hi;exact absurd hi (dU _)
 |@cons a b l m hd tl ih =>
  intro i hi
  cases i with
  |zero=>obtain ⟨t,rfl⟩:=hd;exact ⟨b,t,rfl,rfl⟩
  |succ i=>exact ih (i:=i) (by simpa using hi)
theorem StrsR.mem {vs:List Ag}{ss:List Str}(h:StrsR vs ss):∀v∈vs,∃x t,v=Value.str x t:=by
 induction h with
 |nil=>intro v hv;cases hv
 |@cons a b l m hd tl ih =>
  intro v hv
  rcases ai.mp hv with rfl|hv
  ·obtain ⟨t,e⟩:=hd;exact ⟨b,t,e⟩
  ·exact ih v hv
theorem qjk {a:Aj}{vs:List Ag}{k:Nat}{ss:List Str}{P:PySem.Fin→Ab→Prop}(ho:s.heap.get? a=some (seqObj "list" vs.toArray k))(h64:vs.length<64)(t:StrsR vs ss)
  (h:∀il:List Nat,il.Perm (List.range vs.length)→il.Pairwise (λi j=>¬ (ss.getD j Str.empty).cps.toList<(ss.getD i Str.empty).cps.toList)→P (.done (.ret .none)) { s with heap:=sortedHeap s.heap a vs (il.map λi=>vs.getD i Value.none).toArray }) :
  wpAny (model prog w) A (Builtin.«list.sort» ⟨[.ref a],[]⟩) P E s:=by
 have hkl:vs.length=ss.length:=bo t
 have ha:a<s.heap.objs.size:=al ho
 obtain ⟨e1,ho1⟩:∃e1,(s.heap.update a (Obj.mapSeq λ_=>(#[]:Array Ag))).get? a=some (seqObj "list" #[] e1):=⟨_,get?_update_seq ho λ_=>#[]⟩
 have sz:(1000001:Nat)<sizeLine:=by decide
 rw [list_sort_plain]
 refine aa (listItems_at ho rfl ?_)
 refine aa (listUpdate_at ho rfl ?_ (by rw [aI];lia) (aB _))
 refine aa (seqEpoch_at ho1 rfl ?_)
 refine aa (wpAny_newTuple ?_ (by show vs.length≤_;lia))
 refine aa (wpAny_newList ?_ (aB _))
 refine cW ?_
 show wpAny (model prog w) A _ P E { s with heap:=((s.heap.update a (Obj.mapSeq λ_=>(#[]:Array Ag))).push (seqObj "tuple" vs.toArray 0)).push (seqObj "list" #[] 0) }
 have ho6:(((s.heap.update a (Obj.mapSeq λ_=>(#[]:Array Ag))).push (seqObj "tuple" vs.toArray 0)).push (seqObj "list" #[] 0)).get? a=some (seqObj "list" #[] e1):=ae _ (ae _ ho1)
 have fin:∀(h':Heap) (il:List Nat),h'=((s.heap.update a (Obj.mapSeq λ_=>(#[]:Array Ag))).push (seqObj "tuple" vs.toArray 0)).push (seqObj "list" #[] 0)→il.Perm (List.range vs.length)→il.Pairwise (λi j=>¬ (ss.getD j Str.empty).cps.toList<(ss.getD i Str.empty).cps.toList)→P (.done (.ret .none)) { s with heap:=h'.update a (Obj.mapSeq λ_=>(il.map λi=>vs.getD i Value.none).toArray) }:=λh' il e a1 a2=>by
  subst e
  exact h il a1 a2
 generalize ((s.heap.update a (Obj.mapSeq λ_=>(#[]:Array Ag))).push (seqObj "tuple" vs.toArray 0)).push (seqObj "list" #[] 0)=h6' at ho6 fin ⊢
 have fin:=λil=>fin h6' il rfl
 dsimp only
 by_cases h2:vs.toArray.size<2
 ·rw [ak h2,ak h2]
  refine aa (am ?_)
  rw [StateT.run_pure]
  refine aa (am ?_)
  dsimp only
  have h2':vs.length<2:=by simpa using h2
  have e:(arrOf (SortSt.mk' general' (vs.toArray.zip vs.toArray) #[] 7 none)).map (·.2)=((List.range vs.length).map λi=>vs.getD i Value.none).toArray:=by
   show (vs.toArray.zip vs.toArray).map (·.2)=_
   match vs,h2' with
   |[],_=>simp
   |[v],_=>simp
   |_::_::_,h2=>simp at h2;lia
  rw [e]
  refine aa (seqEpoch_at ho6 rfl ?_)
  refine aa (listUpdate_at ho6 rfl ?_ (aB _) (by rw [aI,ac,aJ];lia))
  simp only [bne_self_eq_false,bV,eE]
  refine am (fin (List.range vs.length) (.refl _) ?_)
  rcases (by lia:vs.length=0∨vs.length=1) with z|z
  ·rw [z];exact .nil
  ·rw [z];exact fh _ _
 ·rw [ag h2,ag h2]
  have hv2:2≤vs.length:=by simpa using h2
  refine aa (kas_kind (T:=.type "str") hv2 (λv hv=>?_) rfl rfl ?_)
  ·obtain ⟨x,tk,rfl⟩:=t.mem v hv
   exact Looks.of_pure rfl
  let kz:Nat→Int:=λi=>kzS ss (ss.getD i Str.empty)
  have gd:∀ {i x},ss[i]?=some x→ss.getD i Str.empty=x:=λe=>by rw [ay,e];rfl
  have ask:Jt vs.length kz (kas_ask prog w A oneType' vs) { s with heap:=h6' }:=λi j C hi hj hC=>by
   obtain ⟨x,tx,ex,vx⟩:=t.at (i:=i) (by lia)
   obtain ⟨y,ty,ey,vy⟩:=t.at (i:=j) (by lia)
   unfold kas_ask
   rw [vx,vy]
   refine kas_lt_str ?_
   have e:decide (kz i<kz j)=decide (x.cps.toList<y.cps.toList):=by
    rw [cA,dB,dB]
    show kzS ss (ss.getD i Str.empty)<kzS ss (ss.getD j Str.empty)↔_
    rw [gd ex,gd ey]
    exact wkf (aN ex)
   rw [←e]
   exact hC
  have tree:(kas_sort vs.length).kasWp (kas_cmp prog w A oneType' (pairsOf vs)) (λp s'=>s'={ s with heap:=h6' }∧p.toList.Perm (List.range vs.length)∧p.toList.Pairwise (λi j=>¬ (ss.getD j Str.empty).cps.toList<(ss.getD i Str.empty).cps.toList)) { s with heap:=h6' }:=by
   rw [←kas_ask_eq]
   refine tr_out (t:=0) ask (by lia) λil pm up=>⟨rfl,pm,up.imp_of_mem λ{i j} hi hj hb n=>?_⟩
   have hj:=bb.mp (pm.mem_iff.mp hj)
   obtain ⟨y,ty,ey,vy⟩:=t.at (i:=j) (by lia)
   have:kz j<kz i:=by
    show kzS ss (ss.getD j Str.empty)<kzS ss (ss.getD i Str.empty)
    rw [gd ey] at n ⊢
    exact wx0 (aN ey) n
   lia
  have est:SortSt.mk' oneType' (vs.toArray.zip vs.toArray) #[] 7 none=kas_st oneType' (pairsOf vs) (List.toArray (List.range vs.length)):=by
   have e:=kas_range (pairsOf vs)
   rw [pairsOf_size] at e
   show SortSt.mk' oneType' (pairsOf vs) #[] 7 none=SortSt.mk' oneType' ((List.toArray (List.range vs.length)).map (kas_item (pairsOf vs))) #[] 7 none
   rw [e]
  have run:=kas_runs (E:=E) (Q:=λ_ st' s'=>∃p:Array Nat,p.size=vs.length∧arrOf st'=p.map (kas_item (pairsOf vs))∧failedOf st'=none∧s'={ s with heap:=h6' }∧p.toList.Perm (List.range vs.length)∧p.toList.Pairwise (λi j=>¬ (ss.getD j Str.empty).cps.toList<(ss.getD i Str.empty).cps.toList))
   hv2 h64 (λp' st' s' a1 a2 a3 a4=>⟨p',a1,a2,a3,a4⟩) tree
  rw [←est] at run
  refine aa (aP run ?_ λ_ _ e=>e)
  rintro ⟨⟨⟩,st'⟩ s' ⟨p,hp,har,hf,rfl,pm,up⟩
  dsimp only
  have hout:(arrOf st').map (·.2)=List.toArray (p.toList.map λi=>vs.getD i Value.none):=by
   apply Array.toList_inj.mp
   rw [har,Array.map_map,Array.toList_map]
   exact bO λi _=>by show (kas_item (pairsOf vs) i).2=_;rw [kas_item_eq]
  rw [hout]
  refine aa (seqEpoch_at ho6 rfl ?_)
  refine aa (listUpdate_at ho6 rfl ?_ (aB _) (by rw [aI,ac,bd];lia))
  rw [hf]
  simp only [bne_self_eq_false,bV,eE]
  exact am (fin p.toList pm up)
theorem qzq {d:Aj}{vs:List (Key×Ag)}{ep:Nat}{Q:List Ag→Ab→Prop}(hh:A.handled=none)(lo:(d==sysModules)=false)(dd:s.heap.DictAt (xh prog w) d vs ep)(hn:vs.length≤sizeLine)
  (h:∀h' tk (qs:List Ag),(∀b o,s.heap.get? b=some o→h'.get? b=some o)→qs.length=vs.length→(∀(i:Nat) v,qs[i]?=some v→∃k x,vs[i]?=some (k,x)∧(xh prog w).is k v=true)→s.heap.objs.size≤h'.objs.size→Q qs { s with heap:=h',toks:=tk }):wpAny (model prog w) A (collect (.ref d)) Q E s:=by
 have hS:d<s.heap.objs.size:=dd.lt_size
 have R:(s.heap.push (seqObj "list" #[] 0)).DictAt (xh prog w) d vs ep:=dd.push _
 have run:codeAny (model prog w) A (.builtin "proto.collect" ⟨[.ref d],[]⟩) (λr s'=>r=.ok (.ret (.ref s.heap.objs.size))∧∃h' tk acc' c',s'={ s with heap:=h',toks:=tk }∧(∀b o,b≠s.heap.objs.size→(s.heap.push (seqObj "list" #[] 0)).get? b=some o→h'.get? b=some o) ∧
   h'.get? s.heap.objs.size=some { cls:=.type "list",dict:=none,data:=.seq acc' c',slots:=#[] }∧ItemsOf (λi v=>∃k x,vs[i]?=some (k,x)∧(xh prog w).is k v=true) acc' vs.length) s:=by
  refine codeAny_builtin entry_proto_collect' ?_
  show wpAny _ _ (do again (.builtin "list.__iadd__" ⟨[←newList [],.ref d],[]⟩)) _ _ s
  (refine aa (wpAny_newList (am ⟨Code.quiet_builtin _ (by decide +kernel),codeAny_builtin entry_list_iadd' ?_⟩)) ;rw [Around.under_plainId (show plainId "list.__iadd__" = true by decide +kernel) _])
  show wpAny _ _ (Builtin.List.listExtendWith (.ref s.heap.objs.size) (.ref d) (.ref s.heap.objs.size)) _ _ _
  exact kdl_extend (s:={ s with heap:=s.heap.push (seqObj "list" #[] 0) }) (R:=λr s'=>r=.ok (.ret (.ref s.heap.objs.size))∧∃h' tk acc' c',s'={ s with heap:=h',toks:=tk }∧(∀b o,b≠s.heap.objs.size→(s.heap.push (seqObj "list" #[] 0)).get? b=some o→h'.get? b=some o) ∧
   h'.get? s.heap.objs.size=some { cls:=.type "list",dict:=none,data:=.seq acc' c',slots:=#[] }∧ItemsOf (λi v=>∃k x,vs[i]?=some (k,x)∧(xh prog w).is k v=true) acc' vs.length) (kdl_dict lo) (by simpa using hh) R s.heap.objs.size (dZ hS) (dZ hS) (.ref s.heap.objs.size) 0 (au _ rfl) (λh' tk acc' c' hk hS' hacc=>⟨rfl,h',tk,acc',c',rfl,hk,hS',hacc⟩) hn
 unfold collect
 refine aa (wpAny_runValue (d6 run λr s' hr=>?_))
 obtain ⟨rfl,h',tk,acc',c',rfl,hk,hS',hacc⟩:=hr
 dsimp only
 refine aa (wpAny_load hS' ?_)
 refine am ?_
 refine h h' tk _ (λb o e=>hk b o (av (al e)) (ae _ e)) (by rw [bd];exact hacc.1) (λi v e=>hacc.2 i v (by rw [←bW];exact e)) ?_
 exact bA (al hS')
end
section
variable {X:Cx}
theorem qww (hc:X.calm=true):k4 X (.builtin "sorted") (λxs H Q=>∃(d:Aj) (kvs:List (Key×V)) (ss:List Str),xs=[.ref d]∧Rd H d (.dK kvs)∧kvs.map (·.1)=ss.map Sum.inr∧kvs.length<64 ∧
  ∀(l:Aj) (ms:List Str),H l=none→ms.Perm ss→ms.Pairwise (λx y=>¬ y.cps.toList<x.cps.toList)→Q (.ref l) (upd H l (.lst (ms.map V.str)))):=by
 intro pins s σ H xs us Q I r h
 obtain ⟨d,kvs,ss,rfl,hd,hk,hn,q⟩:=h
 obtain ⟨u,rfl,ru⟩:=j5 r
 cases (show u=Value.ref d from ru)
 have sz:(100001:Nat)<sizeLine:=by decide
 obtain ⟨z,lo,vs,rel,dd⟩:=Qw I.hok hd
 obtain ⟨ep,dd⟩:=dd.dictAt
 have hl:vs.length=kvs.length:=(bo rel).symm
 have hls:kvs.length=ss.length:=by have:=bJ List.length hk;simpa using this
 refine Calls.call_function_entry kind_sorted plain_sorted entry_sorted (args_sorted1 _) ?_
 unfold Builtin.«sorted»
 refine aa (m:=checkCount "sorted" 1 1 _) (am ?_)
 refine aa (qzq (by simpa using I.ok.hd hc) lo dd (by lia) λh' tk qs hk' hlq hq hz=>?_)
 refine aa (wpAny_newList ?_ (by lia))
 have hoL:(h'.push (seqObj "list" qs.toArray 0)).get? h'.objs.size=some (seqObj "list" qs.toArray 0):=au _ rfl
 have tS:StrsR qs ss:=by
  have key:∀(qs:List Ag) (ss:List Str),qs.length=ss.length→(∀(i:Nat) v,qs[i]?=some v→∃x t,ss[i]?=some x∧v=Value.str x t)→StrsR qs ss:=by
   intro qs
   induction qs with
   |nil =>
    intro ss e _
    cases ss with
    |nil=>exact .nil
    |cons _ _=>simp at e
   |cons v qs ih =>
    intro ss e hh
    cases ss with
    |nil=>simp at e
    |cons x ss =>
     obtain ⟨x',t,e1,e2⟩:=hh 0 v rfl
     cases e1
     exact .cons ⟨t,e2⟩ (ih ss (by simpa using e) λi v ev=>hh (i+1) v ev)
  refine key qs ss (by lia) λi v ev=>?_
  obtain ⟨k,x,e1,e2⟩:=hq i v ev
  have hi:=(aM.mp e1).1
  have ek:kvs[i]?=some kvs[i]:=ar (by lia)
  obtain ⟨qv,e3,_⟩:=qyb rel ek
  rw [e1] at e3
  have e4:=bJ (λl=>l[i]?) hk
  simp only [aH,ek,cD] at e4
  have hs:ss[i]?=some ss[i]:=ar (by lia)
  rw [hs,cD] at e4
  have e5:=az e4
  have e6:k=kvs[i].1:=bJ Prod.fst (az e3)
  rw [e6,e5] at e2
  obtain ⟨t,rfl⟩:=(show ∃t,v=Value.str ss[i] t from wx1 e2)
  exact ⟨ss[i],t,hs,rfl⟩
 refine aa (cW (dG slot_list_sort ⟨_,hoL,rfl⟩ entry_list_sort ?_ (args_list_sort _)))
 refine qjk (s:={ s with heap:=h'.push (seqObj "list" qs.toArray 0),toks:=tk }) hoL (by lia) tS λil pm up=>⟨_,rfl,am ⟨_,rfl,?_⟩⟩
 obtain ⟨e,he⟩:=qqs hoL (il.map λi=>qs.getD i Value.none).toArray
 have nl:H h'.objs.size=none:=I.hok.fresh hz
 have hin:∀i∈il,i<ss.length:=λi hi=>by have:=bb.mp (pm.mem_iff.mp hi);lia
 have vals:∀(il:List Nat),(∀i∈il,i<ss.length)→Vals ((il.map λi=>ss.getD i Str.empty).map V.str) (il.map λi=>qs.getD i Value.none):=by
  intro il
  induction il with
  |nil=>intro _;exact .nil
  |cons i il ih =>
   intro hh
   obtain ⟨x,t,e1,e2⟩:=tS.at (hh i (.head _))
   refine .cons ?_ (ih λj hj=>hh j (.tail _ hj))
   show RelV (V.str (ss.getD i Str.empty)) (qs.getD i Value.none)
   rw [e2,ay,e1]
   exact ⟨t,rfl⟩
 have pms:(il.map λi=>ss.getD i Str.empty).Perm ss:=by
  have h1:=pm.map λi=>ss.getD i Str.empty
  have h2:((List.range qs.length).map λi=>ss.getD i Str.empty)=ss:=by
   refine List.ext_getElem? λi=>?_
   rw [aH]
   by_cases c:i<ss.length
   ·rw [cv (by lia),ar c]
    show some (ss.getD i Str.empty)=_
    rw [ay,ar c]
    rfl
   ·rw [bx (by rw [aJ];lia),bx (by lia)]
    rfl
  rw [h2] at h1
  exact h1
 refine ⟨.ref _,_,I.laid (t':=tk) (λb u hb=>Js (ae _ (hk' b u hb)) (av (aE (al hb) hz)) _) hz (show ObjOk X.prog X.w _ _ _ (.lst ((il.map λi=>ss.getD i Str.empty).map V.str)) from ⟨?_,_,e,vals il hin,he⟩),rfl,q _ _ nl pms (bw.mpr up)⟩
 rw [ac,pms.length_eq]
 lia
end
end L2
namespace L2
open PySem PySem.Spec PySem.Calls PyProof.Rows PySem.W
section
variable {prog:Ac}{w:Ah}{A:Ae}{E:Ag→Ab→Prop}{s:Ab}{K:Type}[DecidableEq K]{knd:KeyKind prog w K}
theorem J3 {α:Type}{f:α→Int}:∀ {l:List α} (x:Int),(l.map f).Nodup→(l.filter λe=>f e==x).length≤1
 |[],_,_=>aB _
 |a::l,x,h=>by
  rw [aZ,aS] at h
  have ih:=J3 (l:=l) x h.2
  by_cases c:(f a==x)=true
  ·rw [bt,ak c]
   have:l.filter (λe=>f e==x)=[]:=List.filter_eq_nil_iff.mpr λe he hx=>h.1 (aw.mpr ⟨e,he,by rw [eq_of_beq hx,eq_of_beq c]⟩)
   rw [this]
   exact af _
  ·rw [bt,ag c]
   exact ih
theorem qvd {id:String}{d:Aj}{o:Obj}{es:Array DictEntry}{ep:Nat}{xs:List (List K×Aj×Ag)}{Q:Array DictEntry→Ab→Prop}(ho:s.heap.get? d=some o)(hd:o.data=.dict es ep)
  (he:es.toList=xs.map (entryOfKey (tupleKind knd))) (his:∀x∈xs,(tupleKind knd).is s.heap x.1 x.2.1) (hh:(xs.map λx=>(tupleKind knd).hash x.1).Nodup) (h:Q es s) :
  wpAny (model prog w) A (Builtin.Dict.entriesForEmpty id d) Q E s:=by
 unfold Builtin.Dict.entriesForEmpty
 refine aa (bM ho hd ?_)
 refine aa (aP (Q:=λ_ s'=>s'=s) ?_ (λ_ s' e=>by subst e;exact am h) λ_ _ e=>e)
 rw [←Array.forIn_toList]
 refine wpAny_forIn_list _ (λrest _ s'=>s'=s∧∀e∈rest,e∈es.toList) _ ?_ (λ_ _ e=>e.1) _ _ ⟨rfl,λ_ h=>h⟩
 rintro e rest b s' ⟨rfl,hr⟩
 obtain ⟨x,hx,ex⟩:=aw.mp (he▸hr e (.head _))
 have hi:=his x hx
 have tl:s'.TypeIs (.ref x.2.1) "tuple" := by
  obtain ⟨o',its,n,h1,h2,_⟩:=hi
  exact ⟨o',h1,h2⟩
 have ek:e.key=.ref x.2.1:=by rw [←ex];rfl
 have hsz:¬ (es.filter (·.hash==e.hash)).size>1:=by
  have h1:=J3 (f:=λe:DictEntry=>e.hash) (l:=es.toList) e.hash (by rw [he,bS];exact hh)
  have h2:(es.filter (·.hash==e.hash)).size=(es.toList.filter (·.hash==e.hash)).length:=by rw [←bd,Array.toList_filter]
  lia
 have tailok:∀e∈rest,e∈es.toList:=λe h=>hr e (.tail _ h)
 unfold Builtin.Dict.quietEq
 rw [ek]
 dsimp only
 refine aa (aa (fu tl PySem.F.slot_tuple_eq.lookup (am ?_)))
 rw [ag hsz]
 show wpAny _ _ (if (!(_:Bool))=true then _ else _) _ _ _
 split
 ·exact am ⟨rfl,tailok⟩
 ·exact am ⟨rfl,tailok⟩
theorem wxn {o:Aj}{xs:List (List K×Aj×Ag)}{Q:Ag→Ab→Prop}(hoS:(o==sysModules)=false)(ho:s.heap.DictOfH (tupleKind knd) o xs)(hsz:xs.length≤sizeLine)(h0:xs≠[])(hh:(xs.map λx=>(tupleKind knd).hash x.1).Nodup)
  (h:∀h',h'.DictOfH (tupleKind knd) s.heap.objs.size xs→Heap.SameBut s.heap.objs.size (s.heap.push { cls:=.type "dict",data:=.dict #[] }) h'→Q (.ref s.heap.objs.size) { s with heap:=h' }) :
  wpAny (model prog w) A (call (.type "dict") [.ref o]) Q E s:=by
 refine callType_codes (Q₁:=λobj s₁=>obj=.ref s.heap.objs.size∧s₁={ s with heap:=s.heap.push { cls:=.type "dict",data:=.dict #[] } }) PySem.F.kt_called_dict (PySem.F.kt_typeCall_dict_1 _) PySem.F.entry_dict_init (kt_code_dict_new _ ⟨rfl,rfl⟩) ?_
 rintro obj s₁ ⟨rfl,rfl⟩
 obtain ⟨oo,es,ep,hoo,hc,hd,he,his,hn⟩:=ho
 have hlt:o<s.heap.objs.size:=al hoo
 have hnew:(s.heap.push { cls:=.type "dict",data:=.dict #[] }).get? s.heap.objs.size=some { cls:=.type "dict",data:=.dict #[] }:=au _ rfl
 have tn:Shared.TypeIs { s with heap:=s.heap.push { cls:=.type "dict",data:=.dict #[] } } (.ref s.heap.objs.size) "dict" := ⟨_,hnew,rfl⟩
 have hoo':(s.heap.push { cls:=.type "dict",data:=.dict #[] }).get? o=some oo:=ae _ hoo
 have to:Shared.TypeIs { s with heap:=s.heap.push { cls:=.type "dict",data:=.dict #[] } } (.ref o) "dict" := ⟨_,hoo',hc.1⟩
 have hdo:s.heap.objs.size≠o:=dZ hlt
 refine ⟨tn,PySem.F.args_dict_init_2 _ _,?_⟩
 unfold Builtin.«dict.__init__»
 refine aa ?_
 unfold Builtin.Dict.selfAndRest
 refine aa (wpAny_notOrdered_dict tn ?_)
 show wpAny _ _ (pure (s.heap.objs.size,[Value.ref o])) _ _ _
 refine am ?_
 show wpAny _ _ (Builtin.Dict.updateFrom "dict.__init__" s.heap.objs.size (.ref o) [] .none) _ _ _
 unfold Builtin.Dict.updateFrom
 refine aa (wpAny_typeOf to ?_)
 rw [ag (by decide)]
 refine aa ?_
 unfold Builtin.Dict.merge
 refine aa ?_
 unfold Builtin.Dict.readDirectly
 refine aa (wpAny_isInstance to isSubtype_dict_dict ?_)
 simp only [Bool.not_true,bV,eE]
 refine aa (fu to PySem.F.slot_dict_iter.lookup (am ?_))
 simp only [beq_self_eq_true,if_true]
 refine aa (am ?_)
 unfold Builtin.Dict.mergeDict
 rw [ag (by simpa using hdo)]
 unfold Builtin.Dict.showsAll
 rw [ag (by rw [hoS];exact aA)]
 refine aa (am ?_)
 refine aa (bM hoo' hd ?_)
 have hne:es.toList≠[]:=by rw [he];intro z;exact h0 (List.map_eq_nil_iff.mp z)
 have hall:(es.all λe=>(keyPart e.key).isSome)=false:=by
  obtain ⟨x,ys,rfl⟩:∃x ys,xs=x::ys:=by
   cases xs with
   |nil=>exact absurd rfl h0
   |cons x ys=>exact ⟨x,ys,rfl⟩
  rw [←Array.all_toList,he]
  rfl
 have his':∀x∈xs,(tupleKind knd).is (s.heap.push { cls:=.type "dict",data:=.dict #[] }) x.1 x.2.1:=λx hx=>by
  obtain ⟨o',its,n,h1,r⟩:=his x hx
  exact ⟨o',its,n,ae _ h1,r⟩
 dsimp only
 rw [hall,Bool.and_false]
 simp only [Bool.not_false,if_true]
 refine aa (bM hnew rfl ?_)
 rw [ak (show (#[]:Array DictEntry).isEmpty=true from rfl)]
 refine aa (qvd (knd:=knd) hoo' hd he his' hh ?_)
 have hem:es.isEmpty=false:=by
  rw [←Array.isEmpty_toList]
  cases hz:es.toList with
  |nil=>exact absurd hz hne
  |cons _ _=>rfl
 rw [hem]
 simp only [Bool.not_false,if_true]
 have hsize:es.size=xs.length:=by rw [←bd,he,ac]
 refine aa (wpAny_updateDictKeysTo hnew rfl (am ?_) (by show es.size≤_;lia))
 show wpAny _ _ (Builtin.Dict.addKeywords s.heap.objs.size [] >>= _) _ _ _
 refine aa (am (am ⟨rfl,h _ ⟨_,es,1,Heap.get?_update_self _ hnew (Obj.isFreed_of_dict (Obj.data_mapDictKeys rfl _)),⟨rfl,rfl,rfl⟩,rfl,he,λx hx=>?_,hn⟩ (cS ..)⟩))
 exact (tupleKind knd).keeps (his' x hx) hnew rfl (cS ..)
end
section
variable {X:Cx}
theorem Jd:k4 X (.type "dict") (λxs H Q=>∃a kvs,xs=[V.ref a]∧Rd H a (.dK kvs)∧∀p,H p=none→Q (.ref p) (upd H p (.dK kvs))):=by
 intro pins s σ H xs us Q I r h
 obtain ⟨a,kvs,rfl,e,q⟩:=h
 obtain ⟨u,rfl,rx⟩:=j5 r
 cases rx
 exact ww2 I e λp s' np I'=>⟨.ref p,_,I',rfl,q p np⟩
def u7 (P:Ac)(w:Ah)(k:List Key):Int:=(tupleKind (xh P w)).hash k
theorem qjb:k4 X (.type "dict") (λxs H Q=>∃a kvs,xs=[V.ref a]∧H a=some (.dT kvs)∧kvs≠[]∧(kvs.map λp=>u7 X.prog X.w p.1).Nodup∧∀p,H p=none→Q (.ref p) (upd H p (.dT kvs))):=by
 intro pins s σ H xs us Q I r h
 obtain ⟨a,kvs,rfl,e,h0,hh,q⟩:=h
 obtain ⟨u,rfl,rx⟩:=j5 r
 cases rx
 obtain ⟨z,hd,xs,rel,dd⟩:=Qn I.hok (.inl e)
 have hl:xs.length=kvs.length:=(bo rel).symm
 have hm:∀ {kvs:List (List Key×V)} {xs:List (List Key×Aj×Ag)},KT H kvs xs→xs.map (λx=>(tupleKind (xh X.prog X.w)).hash x.1)=kvs.map λp=>u7 X.prog X.w p.1:=by
  intro kvs xs r
  induction r with
  |nil=>rfl
  |cons h t ih=>rw [aZ,aZ,ih,h.1];rfl
 refine wxn hd dd (by rw [hl];exact z) (λz=>h0 (dP (by rw [←hl,z];rfl))) (by rw [hm rel];exact hh) λh' dd' hs=>?_
 obtain ⟨o',es,ep,h1,h2,h3,h4,h5,h6⟩:=dd'
 refine ⟨.ref _,_,I.laid (a:=s.heap.objs.size) (o:=.dT kvs) (t':=s.toks) (λb q hq=>?_) (af _) ⟨z,aK.mpr (aW (av I.big)),xs,rel.keeps λc ys ec=>?_,o',es,ep,h1,h2,h3,h4,h6⟩,rfl,q _ (I.hok.fresh (af _))⟩
 ·exact (hs.2 b (av (al hq))).trans (ae _ hq)
 ·rw [wg (qj ec (I.hok.fresh (af _)))]
  exact ec
def tDispT (tk tv:TE):TE:=λσ H Q=>∀p,H p=none→tk σ (upd H p (.dT [])) λx H1=>tv σ H1 λv H2=>∃b ks,x=.ref b∧H2 b=some (.tup (ks.map kV))∧H2 p=some (.dT [])∧Q (.ref p) (upd H2 p (.dT [(ks,v)]))
theorem wxg {k v:Expr}{pos:Pos}{tk tv:TE}(hu:X.A.units<cLine)(hk:PE X k tk)(hv:PE X v tv):PE X (.Dict [some k] [v] pos) (tDispT tk tv):=by
 intro pins s σ H Q I q
 have hn:=I.hok.fresh (af s.heap.objs.size)
 have I1:=I.laid (a:=s.heap.objs.size) (o:=.dT []) (h':=s.heap.push { cls:=.type "dict",data:=.dict #[] }) (t':=s.toks) (λ_ _ q=>ae _ q) (af _) (qkf s.heap I.big)
 refine wpAny_Dict_any rfl rfl (λz=>by cases z) (show 1≤15 by decide) ?_
 refine pairTrees_cons_walk (thn (hk pins _ σ _ _ I1 (q _ hn)) λu s1 ⟨x,H1,I2,rx,q1⟩=>thn (hv pins s1 σ H1 _ I2 q1) λw2 s2 ⟨y,H2,I3,ry,b,ks,ex,eb,ep,q2⟩=>pairTrees_nil_walk ?_)
 subst ex
 cases (show u=Value.ref b from rx)
 obtain ⟨z,hd,xs,rel,dd⟩:=dt_of I3.hok ep
 cases rel
 unfold storeAll
 rw [List.forIn_cons]
 refine aa (aa (wpAny_dictSet_heap (knd:=tupleKind (xh X.prog X.w)) (hsz:=aB _) hu (ux I3.hok eb) dd λh' dd' hs=>am ?_))
 refine am ?_
 obtain ⟨o',es,ep',h1,h2,h3,h4,_,h6⟩:=dd'
 refine ⟨.ref _,_,uy I3 (by rw [ep];exact True.intro) hs ⟨o',h1⟩ (show ObjOk X.prog X.w (upd H2 s.heap.objs.size (.dT [(ks,y)])) h' s.heap.objs.size (.dT [(ks,y)]) from ⟨by show 1≤sizeLine;decide,hd,[(ks,b,w2)],.cons ⟨rfl,?_,ry⟩ .nil,o',es,ep',h1,h2,h3,h4,h6⟩),rfl,q2⟩
 rw [wg (ne_of eb ep (λz=>nomatch z))]
 exact eb
theorem Z2 {K:Aa}(hK:X.K=K){e:Expr}{f:Str}{pos:Pos}{ta:TE}(he:PE X e ta)(hb:attributeBase e f X.env (eval e X.env)=eval e X.env):PE X (.Attribute e f pos) (tFld K ta f):=by
 subst hK
 exact zu he hb
end
end L2
namespace L2
open PySem
namespace Hs
def rot (a:Nat):Nat:=(a*2 ^ 31)%18446744073709551616+a/2 ^ 33
def lane (a x:Nat):Nat:=(rot ((a+x*14029467366897019727)%18446744073709551616)*11400714785074694791)%18446744073709551616
def dOf (x:Nat):Nat:=(lane 2870177450012600261 x*839798700976720815)%18446744073709551616
def byD:List Nat:=[732,925,295,798,488,178,681,694,887,760,450,140,643,849,722,412,915,102,605,928,811,684,374,877,64,567,257,130,13,956,646,336,839,26,529,219,92,918,608,298,801,491,181,54,247,570,260,763,453,326,143,16,209,532,222,725,415,288,171,494,687,377,880,250,443,133,959,649,339,842,405,95,921,611,804,677,367,57,560,883,573,766,639,456,329,19,522,212,845,911,728,601,291,794,484,174,807,873,690,563,253,756,446,136,9,525,215,718,408,98,924,487,177,680,370,60,886,449,952,139,642,332,835,205,22,88,914,101,604,294,797,50,876,566,256,759,322,12,838,528,218,721,411,284,167,800,490,683,556,373,246,439,129,762,452,955,645,518,335,208,401,91,724,917,607,480,170,363,53,686,879,569,442,132,635,325,15,648,841,404,94,597,287,803,869,56,559,249,752,765,958,831,18,521,211,714,920,793,483,173,676,366,882,755,445,948,135,638,328,201,84,717,407,910,97,600,290,163,46,679,369,872,562,252,125,318,8,641,331,834,524,397,214,87,280,603,293,796,486,359,49,242,565,758,448,951,11,514,204,720,410,913,476,166,682,875,748,438,128,631,321,954,644,837,710,527,400,90,593,283,916,799,672,362,865,52,555,245,878,944,761,634,324,827,14,517,207,596,286,789,479,169,42,558,248,751,441,131,4,957,520,210,713,403,906,93,159,172,675,365,868,55,121,947,637,327,830,393,83,276,909,599,289,792,482,355,45,238,871,561,754,627,444,317,7,510,200,833,523,716,589,406,279,472,162,795,678,551,241,434,124,757,950,640,513,203,706,396,86,719,912,475,165,668,358,48,874,940,127,630,320,823,10,836,902,89,592,282,785,38,864,554,244,747,437,0,953,826,516,206,709,399,272,155,788,478,168,671,361,234,51,117,750,440,943,633,323,196,389,79,712,402,905,595,468,285,158,351,41,674,364,867,557,430,120,313,3,829,519,82,585,275,791,481,44,547,237,753,946,819,636,509,199,702,392,715,908,781,598,471,161,664,354,870,743,433,936,123,626,316,6,949,832,705,395,898,85,588,278,34,667,357,860,47,550,240,113,629,319,822,512,202,75,281,784,474,164,37,230,243,746,436,939,126,192,708,398,901,591,464,154,347,670,360,863,553,426,116,309,942,632,825,698,515,388,78,581,271,904,594,787,660,477,350,40,543,233,866,749,622,312,2,505,195,828,711,584,274,777,467,157,673,236,739,429,119,945,198,701,391,894,81,907,790,160,663,353,856,43,546,109,935,625,315,818,5,508,71,897,587,277,780,470,343,33,226,859,549,239,742,432,305,122,188,821,511,704,394,267,460,150,783,473,666,539,356,229,422,112,435,938,628,191,384,74,900,590,153,656,346,36,862,552,745,115,618,308,501,824,890,707,580,270,773,463,786,852,669,542,232,735,425,941,814,504,194,697,387,77,903,776,466,156,659,349,39,105,738,428,931,118,621,311,184,1,67,390,893,80,583,273,146,29,352,855,545,235,108,301,314,817,507,197,700,70,263,779,469,662,535,225,418,741,431,934,624,497,187,380,703,896,769,586,459,149,652,342,32,665,858,731,548,421,111,614,304,937,820,693,383,73,576,266,899,782,345,848,35,538,228,744,307,810,500,190,63,269,772,462,152,655,25,861,734,424,927,114,617,180,696,386,889,76,579,142,658,348,851,541,414,231,104,297,930,620,310,813,503,376,193,66,259,892,582,775,465,338,28,531,221,854,544,737,610,427,300,493,183,506,699,262,455,145,661,224,727,417,107,933,623,816,689,379,69,572,895,778,651,341,844,31,534,857,923,740,613,303,806,496,186,59,885,575,265,768,458,148,21,847,537,227,730,420,110,176,809,499,189,692,382,255,72,138,461,151,654,344,217,100,423,926,616,306,179,372,62,385,888,578,268,771,334,24,850,540,733,606,296,489,812,502,695,568,258,451,141,774,840,657,530,220,723,413,103,736,929,802,619,492,182,685,375,65,891,764,454,144,647,337,27,853,416,919,106,609,299,815,378,881,68,571,261,134,17,340,843,30,533,223,726,932,805,495,185,688,251,767,457,960,147,650,213,96,729,419,922,612,485,302,175,368,58,691,381,884,574,447,264,137,330,20,653,846,536,409,99,602,292,615,808,498,371,61,564,254,577,770,333,23,526,216]
def apart:List Nat→Bool
 |[]=>true
 |[_]=>true
 |x::y::l=>Nat.ble (dOf x+40) (dOf y)&&apart (y::l)
theorem qws:apart byD=true:=by decide +kernel
theorem byD_lt:(byD.all λx=>Nat.blt x 961)=true:=by decide +kernel
theorem wk1:byD.length=961:=by decide +kernel
theorem Y2:(byD.all λx=>Nat.ble 40 (dOf x)&&Nat.ble (dOf x+40) 18446744073709551616&&!(Nat.ble (dOf x) 15746002411462551884&&Nat.ble 15746002411462551884 (dOf x+40)))=true:=by decide +kernel
theorem Yn:∀ {l:List Nat},apart l=true→l.Pairwise λx y=>dOf x+40≤dOf y
 |[],_=>.nil
 |[_],_=>fh _ _
 |x::y::l,h=>by
  have h:(Nat.ble (dOf x+40) (dOf y)&&apart (y::l))=true:=h
  rw [bn] at h
  have ih:=Yn h.2
  have a:=bz h.1
  refine List.pairwise_cons.mpr ⟨λz hz=>?_,ih⟩
  rcases ai.mp hz with rfl|hz
  ·exact a
  ·have:=(List.pairwise_cons.mp ih).1 z hz
   lia
theorem pw_two {l:List Nat}(h:l.Pairwise λx y=>dOf x+40≤dOf y):∀x∈l,∀y∈l,x≠y→dOf x+40≤dOf y∨dOf y+40≤dOf x:=by
 induction h with
 |nil=>intro x hx;cases hx
 |@cons b l a t ih =>
  intro x hx y hy ne
  rcases ai.mp hx with hx|hx
  ·rcases ai.mp hy with hy|hy
   ·exact absurd (hx.trans hy.symm) ne
   ·rw [hx];exact .inl (a y hy)
  ·rcases ai.mp hy with hy|hy
   ·rw [hy];exact .inr (a x hx)
   ·exact ih x hx y hy ne
theorem Y6 {x:Nat}(h:x<961):x∈byD:=by
 apply bX
 intro n
 have nd:byD.Nodup:=(Yn qws).imp λ{a b} q e=>by rw [e] at q;lia
 have:=L2.qzs (x::byD) (List.range 961) (aS.mpr ⟨n,nd⟩) λv hv=>by
  rcases ai.mp hv with rfl|hv
  ·exact bb.mpr h
  ·exact bb.mpr (Nat.blt_eq.mp (bT.mp byD_lt v hv))
 rw [aX,wk1,aJ] at this
 lia
theorem qjr (a:Nat):rot a=(a%8589934592)*2147483648+a/8589934592:=by
 unfold rot
 rw [show (18446744073709551616:Nat)=8589934592*2147483648 from rfl,show (2:Nat) ^ 31=2147483648 from rfl,Nat.mul_mod_mul_right]
theorem wv3 {a b:Nat}(ha:a<18446744073709551616)(hb:b<18446744073709551616)(h:rot a=rot b):a=b:=by
 rw [qjr,qjr] at h
 have a1:a/8589934592<2147483648:=dQ ha
 have b1:b/8589934592<2147483648:=dQ hb
 have a2:=Nat.div_add_mod a 8589934592
 have b2:=Nat.div_add_mod b 8589934592
 generalize a/8589934592=q at *
 generalize b/8589934592=q' at *
 generalize a%8589934592=r at *
 generalize b%8589934592=r' at *
 lia
theorem wxp {a:Nat}(ha:a<18446744073709551616):rot a<18446744073709551616:=by
 rw [qjr]
 have a1:a/8589934592<2147483648:=dQ ha
 have a2:=cL a (show 0<8589934592 by decide)
 lia
theorem qku {a:Nat}(ha:a<18446744073709551616):((a*11400714785074694791)%18446744073709551616*614540362697595703)%18446744073709551616=a:=by
 have h:(a*11400714785074694791*614540362697595703)%18446744073709551616=a:=by
  rw [Nat.mul_assoc,show 11400714785074694791*614540362697595703=1+18446744073709551616*379806830464837242 from rfl,Nat.mul_add,Nat.mul_one,show a*(18446744073709551616*379806830464837242)=18446744073709551616*(a*379806830464837242) by rw [Nat.mul_left_comm],Nat.add_mul_mod_self_left]
  exact Nat.mod_eq_of_lt ha
 rw [Nat.mul_mod,Nat.mod_mod,←Nat.mul_mod]
 exact h
theorem wvd {a b:Nat}(ha:a<18446744073709551616)(hb:b<18446744073709551616)(h:(a*11400714785074694791)%18446744073709551616=(b*11400714785074694791)%18446744073709551616):a=b:=by
 rw [←qku ha,←qku hb,h]
theorem qy4 {u x:Nat}:((u+x*14029467366897019727)%18446744073709551616*839798700976720815)%18446744073709551616=((u*839798700976720815)%18446744073709551616+x)%18446744073709551616:=by lia
theorem qkh {u v x y:Nat}(h:lane u x=lane v y):(u+x*14029467366897019727)%18446744073709551616=(v+y*14029467366897019727)%18446744073709551616:=by
 unfold lane at h
 have a:=cL (u+x*14029467366897019727) (show 0<18446744073709551616 by decide)
 have b:=cL (v+y*14029467366897019727) (show 0<18446744073709551616 by decide)
 exact wv3 a b (wvd (wxp a) (wxp b) h)
theorem two_inj {x y x' y':Nat}(hx:x<961)(hx':x'<961)(hy:y≤40)(hy':y'≤40)(y1:1≤y)(y1':1≤y')(h:lane (lane 2870177450012600261 x) y=lane (lane 2870177450012600261 x') y'):x=x'∧y=y':=by
 have e:=qkh h
 have e1:=qy4 (u:=lane 2870177450012600261 x) (x:=y)
 have e2:=qy4 (u:=lane 2870177450012600261 x') (x:=y')
 have d1:dOf x=(lane 2870177450012600261 x*839798700976720815)%18446744073709551616:=by unfold dOf;rfl
 have d2:dOf x'=(lane 2870177450012600261 x'*839798700976720815)%18446744073709551616:=by unfold dOf;rfl
 rw [e,e2,←d1,←d2] at e1
 clear e e2 h d1 d2
 have q:=bT.mp Y2 x (Y6 hx)
 have q':=bT.mp Y2 x' (Y6 hx')
 rw [bn,bn] at q q'
 have q1:=bz q.1.1
 have q2:=bz q.1.2
 have q1':=bz q'.1.1
 have q2':=bz q'.1.2
 by_cases ne:x=x'
 ·subst ne
  exact ⟨rfl,by lia⟩
 ·have:=pw_two (Yn qws) x (Y6 hx) x' (Y6 hx') ne
  lia
theorem not_end {x y:Nat}(hx:x<961)(y1:1≤y)(hy:y≤40):(lane (lane 2870177450012600261 x) y+2870177450013471924)%18446744073709551616≠18446744073709551615:=by
 intro h
 have l1:lane (lane 2870177450012600261 x) y<18446744073709551616:=cL _ (by decide)
 have l2:lane (lane 2870177450012600261 x) y=lane 9148689060682678900 0:=by
  have:lane 9148689060682678900 0=15576566623696079691:=by decide +kernel
  rw [this]
  lia
 have e:=qkh l2
 have e1:=qy4 (u:=lane 2870177450012600261 x) (x:=y)
 have e2:=qy4 (u:=9148689060682678900) (x:=0)
 have d1:dOf x=(lane 2870177450012600261 x*839798700976720815)%18446744073709551616:=by unfold dOf;rfl
 rw [e,e2,←d1,show (9148689060682678900*839798700976720815)%18446744073709551616=15746002411462551884 by decide +kernel] at e1
 clear e e2 h d1 l1 l2
 have q:=bT.mp Y2 x (Y6 hx)
 rw [bn,bn] at q
 have q1:=bz q.1.1
 have q2:=bz q.1.2
 have q3:=q.2
 have a:Nat.ble (dOf x) 15746002411462551884=true:=Nat.ble_eq_true_of_le (by lia)
 have b:Nat.ble 15746002411462551884 (dOf x+40)=true:=Nat.ble_eq_true_of_le (by lia)
 rw [a,b] at q3
 cases q3
end Hs
def thG (M P1 P2 P5 C:Nat)(hashes:List Int):Int:=(λacc:Nat=>if acc==M-1 then 1546275796 else if acc<2 ^ 63 then (acc:Int) else (acc:Int)-M) ((hashes.foldl (λacc h=>((((acc+(h%(M:Int)).toNat*P2)%M)*2 ^ 31)%M+((acc+(h%(M:Int)).toNat*P2)%M)/2 ^ 33)*P1%M) P5+(hashes.length ^^^ (P5 ^^^ C)))%M)
theorem th_eq (hs:List Int):Builtin.Tuple.tupleHashOf hs=thG (2 ^ 64) 11400714785074694791 14029467366897019727 2870177450012600261 3527539 hs:=rfl
def laM (M P1 P2 a x:Nat):Nat:=(((a+x*P2)%M)*2 ^ 31%M+((a+x*P2)%M)/2 ^ 33)*P1%M
def finM (M:Nat)(acc:Nat):Int:=if acc==M-1 then (1546275796:Int) else if acc<2 ^ 63 then (acc:Int) else (acc:Int)-M
theorem wk5 (M P1 P2 P5 C:Nat)(a b:Int):thG M P1 P2 P5 C [a,b]=finM M ((laM M P1 P2 (laM M P1 P2 P5 (a%(M:Int)).toNat) (b%(M:Int)).toNat+([a,b].length ^^^ (P5 ^^^ C)))%M):=by
 unfold thG laM finM
 rw [List.foldl_cons,List.foldl_cons,List.foldl_nil]
theorem p64:(2:Nat) ^ 64=18446744073709551616:=rfl
theorem wwf (a x:Nat):laM (2 ^ 64) 11400714785074694791 14029467366897019727 a x=Hs.lane a x:=by
 unfold laM Hs.lane Hs.rot
 rw [p64]
theorem xc:(0+1+1 ^^^ (2870177450012600261 ^^^ 3527539):Nat)=2870177450013471924:=by decide +kernel
theorem wkh {u:Nat}(ne:u≠18446744073709551615)(lu:u<18446744073709551616):reduceHash (finM (2 ^ 64) u)=if u<9223372036854775808 then (u:Int) else (u:Int)-18446744073709551616:=by
 unfold finM
 rw [p64,ag (by simpa using ne),show (2:Nat) ^ 63=9223372036854775808 from rfl]
 unfold reduceHash
 by_cases c:u<9223372036854775808
 ·rw [ak c,ak (by simp;lia),ag (by simp),ak c]
 ·rw [ag c,ak (by simp;lia),ag (by simp;lia),ag c]
  lia
theorem hashI:∀x:Int,0≤x→x≤960→hashInt x=x:=λx h1 h2=>by
 have r:rawHash x=x:=by
  unfold rawHash
  dsimp only
  have e:((x.natAbs:Int)%((2 ^ 61-1:Nat):Int))=x:=by
   rw [show (2 ^ 61-1:Nat)=2305843009213693951 from rfl]
   lia
  rw [e,ag (show ¬ x<0 by lia),ag (by simp;lia)]
 unfold hashInt
 rw [r,ag (by simp;lia)]
theorem qkk {P:Ac}{w:Ah}{a b:Int}(a0:0≤a)(a1:a≤960)(b0:1≤b)(b1:b≤40):u7 P w [.inl a,.inl b] =
  if (Hs.lane (Hs.lane 2870177450012600261 a.toNat) b.toNat+2870177450013471924)%18446744073709551616<9223372036854775808 then (((Hs.lane (Hs.lane 2870177450012600261 a.toNat) b.toNat+2870177450013471924)%18446744073709551616:Nat):Int) else (((Hs.lane (Hs.lane 2870177450012600261 a.toNat) b.toNat+2870177450013471924)%18446744073709551616:Nat):Int)-18446744073709551616:=by
 have ne:=Hs.not_end (x:=a.toNat) (y:=b.toNat) (by lia) (by lia) (by lia)
 have e0:u7 P w [.inl a,.inl b]=reduceHash (Builtin.Tuple.tupleHashOf [hashInt a,hashInt b]):=by
  unfold u7
  rfl
 have ea:(a%((2 ^ 64:Nat):Int)).toNat=a.toNat:=by rw [p64];lia
 have eb:(b%((2 ^ 64:Nat):Int)).toNat=b.toNat:=by rw [p64];lia
 rw [e0,hashI a a0 a1,hashI b (by lia) (by lia),th_eq,wk5,ea,eb,wwf,wwf,aX,aX,cX,xc]
 have lu:=cL (Hs.lane (Hs.lane 2870177450012600261 a.toNat) b.toNat+2870177450013471924) (show 0<18446744073709551616 by decide)
 rw [show (Hs.lane (Hs.lane 2870177450012600261 a.toNat) b.toNat+2870177450013471924)%2 ^ 64=(Hs.lane (Hs.lane 2870177450012600261 a.toNat) b.toNat+2870177450013471924)%18446744073709551616 by rw [p64]]
 exact wkh ne lu
theorem wx3 {P:Ac}{w:Ah}{a b a' b':Int}(a0:0≤a)(a1:a≤960)(b0:1≤b)(b1:b≤40)(a0':0≤a')(a1':a'≤960)(b0':1≤b')(b1':b'≤40)
  (h:u7 P w [.inl a,.inl b]=u7 P w [.inl a',.inl b']):a=a'∧b=b':=by
 rw [qkk a0 a1 b0 b1,qkk a0' a1' b0' b1'] at h
 have l1:Hs.lane (Hs.lane 2870177450012600261 a.toNat) b.toNat<18446744073709551616:=cL _ (by decide)
 have l2:Hs.lane (Hs.lane 2870177450012600261 a'.toNat) b'.toNat<18446744073709551616:=cL _ (by decide)
 have e:Hs.lane (Hs.lane 2870177450012600261 a.toNat) b.toNat=Hs.lane (Hs.lane 2870177450012600261 a'.toNat) b'.toNat:=by
  generalize Hs.lane (Hs.lane 2870177450012600261 a.toNat) b.toNat=u at *
  generalize Hs.lane (Hs.lane 2870177450012600261 a'.toNat) b'.toNat=v at *
  split at h <;> split at h <;> lia
 have:=Hs.two_inj (x:=a.toNat) (x':=a'.toNat) (y:=b.toNat) (y':=b'.toNat) (by lia) (by lia) (by lia) (by lia) (by lia) (by lia) e
 lia
end L2
namespace L2
open PySem PySem.Spec PySem.Calls PyProof.Rows
section
variable {Y:Cx}{kx vx:Expr}{tk te:TE}{c:Code}{p:Aj}{σ:St}{H:Hp}{pins:List (Aj×Obj)}{s:Ab}
def dctS (kx vx:Expr)(D:Aj)(env:Env)(c:Code):Sem PySem.Fin:=(eval kx env >>= λkv=>holding [kv] (eval vx env) >>= λvv=>standAt { kx.pos with endLine:=vx.pos.endLine,endCol:=vx.pos.endCol } >>= λ_=>holding [kv,vv] (dictSet D kv vv)) >>= λ_=>again c
theorem ww4 (kx vx target iter:Expr)(scope:Scope)(pos:Pos)(it:Ag)(D:Aj)(env:Env) :
  compTurn (.DictComp kx vx [⟨target,iter,[],0⟩] scope pos) 0 it (.ref D) env=(standAt iter.pos >>= λ_=>pyNext it >>= λr=>match r with|none=>pure (.done .next)|some v=>letOwnedTupleGo target it v >>= λ_=>assign target env v >>= λ_=>dctS kx vx D env (.compLoop (.DictComp kx vx [⟨target,iter,[],0⟩] scope pos) 0 it (.ref D) env)):=by rfl
theorem wzg {ys:List (Key×V)}{N:List (Key×V)→Hp→Prop}(hk:PE Y kx tk)(hv:PE Y vx te)(J:Inv Y pins σ H s)(hz:ys.length<sizeLine)
  (h:tk σ H λy H4=>te σ H4 λz H5=>∃k,y=kV k∧H5 p=some (.dK ys)∧N (vj ys k z) (upd H5 p (.dK (vj ys k z)))) :
  wpAny (model Y.prog Y.w) Y.A (dctS kx vx p Y.env c) (λr s5=>r=Fin.again c∧∃H5,Inv Y pins σ H5 s5∧∃zs,N zs H5) Y.xe s:=by
 refine aa (aa (aP (hk _ s _ H _ J h) (λkv s6 hr6=>?_) λ_ _ z=>z))
 obtain ⟨y,H4,J6,ry,h4⟩:=hr6
 refine aa (cW (aP (hv _ s6 _ H4 _ J6 h4) (λvv s7 hr7=>?_) λ_ _ z=>z))
 obtain ⟨z,H5,J7,rz,k,rfl,e5,n5⟩:=hr7
 refine aa (cT (cW ?_))
 obtain ⟨zz,hd,vs,rel,dd⟩:=qw7 J7.hok e5
 have hl:(vj ys k z).length≤sizeLine:=by have:=jc ys k z;lia
 refine wpAny_dictSet_pairs (hsz:=by rw [←rel.length];exact zz) (Qq ry) dd λh' dd' hs=>am ⟨rfl,_,?_,_,n5⟩
 have he:∃q,h'.get? p=some q:=let ⟨q,_,_,hq,_⟩:=dd';⟨q,hq⟩
 exact uy J7 (by rw [e5];exact True.intro) hs he (Zq hl hd (rel.put k rz) dd')
end
section
variable {X:Cx}{pins:List (Aj×Obj)}{σ:St}{H:Hp}{s2:Ab}{scope:Scope}{cl:List (Str×Aj)}{x:Str}{M:List Nat}{fp:List Aj}{C:Aj}{h1:Heap}{tk:Nat}
theorem Inv.compD (I:Inv X pins σ H s2)(hc:CapAll X.env cl)(hh:HasAll cl scope.names)(hm:CapIx X scope cl M)(hk:scope.kind=.function)(hC:s2.heap.objs.size<C)
  (keep:∀b o,s2.heap.get? b=some o→h1.get? b=some o) (hn:h1.Ns C λ_=>none) (hD:h1.get? s2.heap.objs.size=some { cls:=.type "dict",data:=.dict #[] })
  (hfp:∀b∈fp,jh X pins H b) (hob:∀b∈fp,∃o,s2.heap.get? b=some o) :
  Inv (zt X scope cl x M C s2 H fp (X.pn++pins)) [] (vw M σ none) (upd H s2.heap.objs.size (.dK [])) { s2 with heap:=h1,toks:=tk } :=
 I.compG (xs:=[x]) hc hh hm hk hC keep hn ⟨aB _,aK.mpr (aW (av I.big)),[],.nil,by
  obtain ⟨o,es,ep,ho,r⟩:=Heap.DictOf.new (knd:=xh X.prog X.w) s2.heap
  have:o={ cls:=.type "dict",data:=.dict #[] }:=az (ho.symm.trans (au _ rfl))
  exact ⟨o,es,ep,by rw [this];exact hD,r⟩⟩ hfp hob
end
def qx2 (J:It)(M:List Nat)(tk te:TE)(σ:St)(H1:Hp)(Q:VK):Prop:=∀p,H1 p=none→∃W:Nat→Nat→List (Key×V)→Hp→Prop,(∃m,W 0 m [] (upd H1 p (.dK []))) ∧
 ∀i m ys H2,W i m ys H2→H2 p=some (.dK ys)∧ys.length<sizeLine∧((J.stop i H2∧Q (.ref p) H2)∨(J.go i H2∧∀v H3,J.yld i H2 v H3 →
  tk (vw M σ (some v)) H3 λy H4=>te (vw M σ (some v)) H4 λz H5=>∃k,y=kV k∧H5 p=some (.dK ys)∧∃m',m'<m∧W (i+1) m' (vj ys k z) (upd H5 p (.dK (vj ys k z)))))
def tDComp (M:List Nat)(wi:TI)(tk te:TE):TE:=λσ H Q=>wi σ H λJ H1=>qx2 J M tk te σ H1 Q
section
variable {X:Cx}{kx vx iter:Expr}{x:Str}{px pos:Pos}{scope:Scope}{cl:List (Str×Aj)}{M:List Nat}{wi:TI}{tk te:TE}{pins:List (Aj×Obj)}{σ:St}
theorem qk2 {tg:Expr}(hclos:closureFor scope X.env=pure cl)(hhas:HasAll cl scope.names)(hk:scope.kind=.function)
  (hnames:∀y∈scope.names,y.2=.local→scope.names.lookup y.1=some .local) (hi:PI X tg iter wi) (hs:∀z,foldedSetIterable iter X.env z=pure z)
  {use:Option (Ag→Sem Unit)} {QQ:Ag→Ab→Prop} {s:Ab} {H:Hp} {ps:Pos} {R:It→Hp→Prop} (I:Inv X pins σ H s) (h:wi σ H R)
  (go:∀(it:Aj) (fp:List Aj) (tn:Nat→Heap→Prop) (J:It) (H1:Hp) (s2:Ab) (C:Aj) (h3:Heap) (tn2:Nat),Inv X pins σ H1 s2→Turn X.prog X.w X.K tg J fp it tn→tn 0 h3→(∀b∈fp,jh X pins H1 b)→(∀b∈fp,b<s2.heap.objs.size)→(∀b∈fp,∃o,s2.heap.get? b=some o)→R J H1→s2.heap.objs.size<C →
   (∀b o,s2.heap.get? b=some o→h3.get? b=some o)→(h3.Ns C λ_=>none)→h3.get? s2.heap.objs.size=some { cls:=.type "dict",data:=.dict #[] } →
   codeAny (model X.prog X.w) X.A (.compLoop (.DictComp kx vx [⟨tg,iter,[],0⟩] scope pos) 0 (.ref it) (.ref s2.heap.objs.size) (compEnvC scope cl C X.env)) (compPost (model X.prog X.w) X.A X.xe use QQ (.ref s2.heap.objs.size) C) { s2 with heap:=h3,toks:=tn2 }) :
  wpAny (model X.prog X.w) X.A (comprehension (.DictComp kx vx [⟨tg,iter,[],0⟩] scope pos) scope X.env ps newDict false (eval iter X.env) use) QQ X.xe s:=by
 refine cV (use:=use) rfl hs hclos hk hnames ?_
 refine thn (hi pins s σ H _ I h) λv s1 h1=>thn h1 λitv s2 h2=>?_
 obtain ⟨it,fp,tn,J,H1,rfl,I2,T,t0,hfp,hR⟩:=h2
 refine bL ?_
 refine dM hhas.nocell (by intro y hy;cases hy) (λh3 hns hsb=>?_) hk
 dsimp only at hns hsb ⊢
 generalize hH2:s2.heap.push { cls:=.type "dict",dict:=none,data:=.dict #[] }=G2 at hns hsb ⊢
 have hC:G2.objs.size=s2.heap.objs.size+1:=by rw [←hH2,dm]
 have hlt:s2.heap.objs.size<G2.objs.size:=by lia
 have keep:∀b o,s2.heap.get? b=some o→h3.get? b=some o:=λb o e=>by
  rw [hsb.2 b (av (bh (al e) hlt))]
  exact ae _ (hH2▸ae _ e)
 have hD:h3.get? s2.heap.objs.size=some { cls:=.type "dict",data:=.dict #[] }:=by
  rw [hsb.2 _ (av hlt)]
  exact ae _ (hH2▸au _ rfl)
 have t3:=T.keep 0 _ _ t0 λb _ o e=>keep b o e
 have loop:=λtn2=>go it fp tn J H1 s2 G2.objs.size h3 tn2 I2 T t3 hfp (λb hb=>let ⟨o,e,_⟩:=T.obj 0 _ t0 b hb;al e) (λb hb=>let ⟨o,e,_⟩:=T.obj 0 _ t0 b hb;⟨o,e⟩) hR hlt keep hns hD
 exact codeAny_compStart_dict (loop _) (T.self _ 0 _ _ _ t3 (loop _))
end
section
variable {X:Cx}{kx vx iter:Expr}{x:Str}{px pos:Pos}{scope:Scope}{cl:List (Str×Aj)}{M:List Nat}{wi:TI}{tk te:TE}
theorem wq2 (hc:X.calm=true)(hclos:closureFor scope X.env=pure cl)(hcap:CapAll X.env cl)(hhas:HasAll cl scope.names)(hix:CapIx X scope cl M)(hk:scope.kind=.function)
  (hnames:∀y∈scope.names,y.2=.local→scope.names.lookup y.1=some .local) (hx:scope.names.lookup x=some .local) (hnd:(Zk X x M).Nodup) (hi:PI X (.Name x px) iter wi)
  (hkx:∀C s2 H2 fp pn,PE (zt X scope cl x M C s2 H2 fp pn) kx tk) (he:∀C s2 H2 fp pn,PE (zt X scope cl x M C s2 H2 fp pn) vx te) (hs:∀z,foldedSetIterable iter X.env z=pure z)
  {use:Option (Ag→Sem Unit)} {QQ:Ag→Ab→Prop} {pins:List (Aj×Obj)} {s:Ab} {σ:St} {H:Hp} {Q:VK} {ps:Pos} (I:Inv X pins σ H s) (h:wi σ H λJ H1=>qx2 J M tk te σ H1 Q)
  (fin:∀(C:Aj) (s2 s4:Ab) (H1 H2:Hp) (fp:List Aj),Inv X pins σ H1 s2→s2.heap.objs.size<C→(∀b∈fp,jh X pins H1 b)→Inv (zt X scope cl x M C s2 H1 fp (X.pn++pins)) [] (vw M σ none) H2 s4→Q (.ref s2.heap.objs.size) H2 →
   compPost (model X.prog X.w) X.A X.xe use QQ (.ref s2.heap.objs.size) C (.ok .next) s4) :
  wpAny (model X.prog X.w) X.A (comprehension (.DictComp kx vx [⟨.Name x px,iter,[],0⟩] scope pos) scope X.env ps newDict false (eval iter X.env) use) QQ X.xe s:=by
 refine qk2 hclos hhas hk hnames hi hs I h λit fp tn J H1 s2 C h3 tn2 I2 T t3 hfp hbl hob hR hlt keep hns hD=>?_
 obtain ⟨W,⟨m0,w0⟩,hW⟩:=hR s2.heap.objs.size (I2.hok.fresh (af _))
 have hxl:(relabel scope X.env).names.lookup x=some .local:=dN hx
 refine W5 (Y:=zt X scope cl x M C s2 H1 fp (X.pn++pins)) (V:=λi n H2=>∃ys,W i n ys H2) (Qd:=Q (.ref s2.heap.objs.size)) (REST:=dctS kx vx s2.heap.objs.size (compEnvC scope cl C X.env) _) T hc (λ_ _ z=>z) (ww4 ..) rfl rfl (xj (i:=0) hnd rfl (.inl hxl) (.inr hxl)) (qz4 hcap I2 hlt hfp hbl) (λi n H2 ⟨ys,w⟩=>?_) (λH2 s4 J4 q=>fin C s2 s4 H1 H2 fp I2 hlt hfp J4 q) (I2.compD hcap hhas hix hk hlt keep hns hD hfp hob) ⟨[],w0⟩ t3 λb hb=>by rw [wg (av (hbl b hb))];exact (hfp b hb).1
 obtain ⟨hp,hz,hcase⟩:=hW i n ys H2 w
 refine hcase.imp id λ⟨hgo,hy⟩=>⟨hgo,λv H3 yl=>⟨λσ4 H4=>σ4=vw M σ (some v)∧H3=H4,⟨rfl,rfl⟩,λ_ _ e=>?_⟩⟩
 obtain ⟨rfl,rfl⟩:=e
 refine ⟨Qy M σ v,λpins' s' J=>?_⟩
 refine aP (wzg (N:=λzs H5=>∃m',m'<n∧W (i+1) m' zs H5) (hkx _ _ _ _ _) (he _ _ _ _ _) J hz (hy v H3 yl)) (λr s5 ⟨e,H5,J5,zs,m',hm,w'⟩=>⟨e,H5,J5,m',hm,zs,w'⟩) λ_ _ z=>z
theorem Zc {i:Nat}{y:Str}{py spos:Pos}(hN:X.N.Nodup)(hyi:X.N[i]?=some y)(hyl:Loc X.env.scope y)(hc:X.calm=true)(hclos:closureFor scope X.env=pure cl)(hcap:CapAll X.env cl)(hhas:HasAll cl scope.names)(hix:CapIx X scope cl M)(hk:scope.kind=.function)
  (hnames:∀y∈scope.names,y.2=.local→scope.names.lookup y.1=some .local) (hx:scope.names.lookup x=some .local) (hnd:(Zk X x M).Nodup) (hi:PI X (.Name x px) iter wi)
  (hkx:∀C s2 H2 fp pn,PE (zt X scope cl x M C s2 H2 fp pn) kx tk) (he:∀C s2 H2 fp pn,PE (zt X scope cl x M C s2 H2 fp pn) vx te) (hs:∀z,foldedSetIterable iter X.env z=pure z:=by intro _;rfl)
  (hsw:swapsWith (.DictComp kx vx [⟨.Name x px,iter,[],0⟩] scope pos) (some (.Name y py)) spos.line X.env=pure true:=by rfl) (hyf:X.fn y=true∨X.env.scope.names.lookup y=some .local:=by first | exact .inl rfl | exact .inr rfl | assumption) :
  PS X (.Assign [.Name y py] (.DictComp kx vx [⟨.Name x px,iter,[],0⟩] scope pos) spos) (tAsg (tDComp M wi tk te) (qyf i)):=by
 intro pins s σ H D I h
 rw [exec_Assign_Name_used _ _ _ _ hsw]
 refine aa (cT (aa ?_))
 refine aa (aP (wq2 hc hclos hcap hhas hix hk hnames hx hnd hi hkx he hs (use:=some (assign (.Name y py) X.env)) (QQ:=λ_ s'=>SP X pins D .next s') I h λC s2 s4 H1 H2 fp I2 hlt hfp J4 hq=>?_) (λ_ s' hq=>am (am hq)) λ_ _ e=>e)
 have I4:Inv X pins σ H2 s4:=I2.uncomp (h':=s4.heap) (bA hlt) hfp J4 (Heap.SameBut.refl _ _)
 have hCn:H2 C=none:=J4.free
 obtain ⟨mC,hnC,_⟩:=J4.loc
 obtain ⟨oC,esC,epC,hoC,hdC⟩:=id hnC
 have hCl:C≠X.env.locals:=λz=>aQ _ (bh hlt (z▸I2.lt))
 have hCs:X.s₀.heap.objs.size≤C:=bH I2.sz (bA hlt)
 have hCc:∀y c,X.env.cells.lookup y=some c→c≠C:=λy c e z=>by
  obtain ⟨v,o,e1,_⟩:=I2.cell y c e
  exact aQ _ (bh hlt (z▸al e1))
 have hCp:∀p∈X.pn++pins,p.1≠C:=λp hp z=>aQ _ (bh hlt (z▸al (I2.pin p hp).1))
 have hCf:C∉frs X.stack:=λz=>by
  rcases ai.mp (I2.stkSub C z) with q|q
  ·exact hCl q
  ·obtain ⟨_,o,e1,_⟩:=I2.funs.mem (b:=C) q
   exact aQ _ (bh hlt (al e1))
 have hCx:C∉X.fs:=λz=>by
  obtain ⟨_,o,e1,_⟩:=I2.funs.mem (b:=C) z
  exact aQ _ (bh hlt (al e1))
 have I4p:Inv X (pins++[(C,oC)]) σ H2 s4:=⟨I4.ok,I4.os,I4.bare,I4.base,I4.loc,I4.cell,I4.free,I4.freeC,λp hp=>by
  rcases bg.mp hp with q|q
  ·exact I4.pin p (cH _ q)
  ·rcases bg.mp q with q|q
   ·exact I4.pin p (ax _ q)
   ·rw [aq.mp q]
    exact ⟨hoC,hCn,hCl,hCx,λv z=>by rw [hdC.1] at z;cases z⟩,I4.hok,I4.len⟩
 show wpAny _ _ (assign (.Name y py) X.env (.ref s2.heap.objs.size)) _ _ _
 refine eN (jp I4p hN hyi hyl (show RelV (.ref s2.heap.objs.size) (.ref s2.heap.objs.size) from rfl) (λs5 I5=>?_) hyf)
 have hC5:=(I5.pin (C,oC) (ax _ (ax _ (.head _)))).1
 exact ⟨mC,⟨oC,esC,epC,hC5,hdC⟩,λh' hs'=>⟨_,H2,I5.unpinned.but hCn hCs hCl hCc hCp hs',hq⟩⟩
end
end L2
namespace L2
open PySem
theorem wzh {M:List Nat}{x:Str}{te:TE}{σ:St}{H:Hp}{Q:VK}(f:Nat→V)(hn:x.cps.size≤1000000)(he:∀(i:Nat) (H':Hp) (R:VK),i<x.cps.size→Same H H'→R (f i) H'→te (vw M σ (some (.str ⟨#[x.cps.getD i 0]⟩))) H' R)
  (k:∀p,H p=none→Q (.ref p) (upd H p (.lst ((List.range x.cps.size).map f)))):qvw (ItS x) M te σ H Q:=by
 intro p np
 refine ⟨λi m ys H2=>i≤x.cps.size∧m=x.cps.size-i∧ys=(List.range i).map f∧H2=upd H p (.lst ys),⟨x.cps.size,aB _,rfl,rfl,rfl⟩,?_⟩
 rintro i m ys H2 ⟨hi,rfl,rfl,rfl⟩
 refine ⟨q8,?_,?_⟩
 ·rw [ac,aJ]
  have:(1000000:Nat)<sizeLine:=by decide
  lia
 ·by_cases hlt:i<x.cps.size
  ·refine .inr ⟨hlt,?_⟩
   rintro v H3 ⟨rfl,rfl⟩
   refine he i (upd H p (.lst ((List.range i).map f))) _ hlt (Same.upd np) ⟨q8,x.cps.size-(i+1),by lia,by lia,rfl,?_,?_⟩
   ·rw [cb,aT]
    rfl
   ·rw [ud]
  ·refine .inl ⟨by show x.cps.size≤i;lia,?_⟩
   have:i=x.cps.size:=by lia
   subst this
   exact k p np
theorem wz0 {M:List Nat}{d:Aj}{o:Obj}{cs:List (Key×V)}{tk te:TE}{σ:St}{H:Hp}{Q:VK}(f:Key→V)(hz:cs.length≤1000000)(nd:(cs.map (·.1)).Nodup)(hd:H d=some (.frz o (.dK cs)))
  (he:∀(k:Key) (H':Hp) (R:V→V→Hp→Prop),Same H H'→R (kV k) (f k) H'→tk (vw M σ (some (kV k))) H' λy H4=>te (vw M σ (some (kV k))) H4 λz H5=>R y z H5)
  (k:∀p,H p=none→Q (.ref p) (upd H p (.dK (cs.map λc=>(c.1,f c.1))))):qx2 (ItD d o cs) M tk te σ H Q:=by
 intro p np
 have big:(1000000:Nat)<sizeLine:=by decide
 refine ⟨λi m ys H2=>i≤cs.length∧m=cs.length-i∧ys=(cs.take i).map (λc=>(c.1,f c.1))∧H2=upd H p (.dK ys),⟨cs.length,aB _,rfl,rfl,rfl⟩,?_⟩
 rintro i m ys H2 ⟨hi,rfl,rfl,rfl⟩
 have dp:d≠p:=qj hd np
 refine ⟨q8,by rw [ac,bG];lia,?_⟩
 by_cases hlt:i<cs.length
 ·refine .inr ⟨⟨by rw [wg dp];exact hd,hlt⟩,?_⟩
  rintro v H3 ⟨rfl,c,ec,rfl⟩
  refine he c.1 _ _ (Same.upd np) ⟨c.1,rfl,q8,cs.length-(i+1),by lia,by lia,rfl,?_,?_⟩
  ·have hn:wt ((cs.take i).map λc=>(c.1,f c.1)) c.1=none:=by
    unfold wt
    rw [dc.mpr]
    ·rfl
    ·intro x hx
     obtain ⟨y,hy,rfl⟩:=aw.mp hx
     have hy2:y.1∈(cs.map (·.1)).take i:=by rw [←List.map_take];exact aw.mpr ⟨y,hy,rfl⟩
     intro z
     have z:y.1=c.1:=by simpa using z
     obtain ⟨j,hj,ej⟩:=cR hy2
     rw [bG,ac] at hj
     rw [eR] at ej
     have e2:(cs.map (·.1))[i]'(by rw [ac];exact hlt)=c.1:=by
      rw [dI]
      rw [ar hlt] at ec
      rw [az ec]
     have:=(dE nd).mp (ej.trans (z.trans e2.symm))
     lia
   rw [yj _ hn,cG,aT,ec]
   rfl
  ·rw [ud]
 ·refine .inl ⟨⟨by rw [wg dp];exact hd,by lia⟩,?_⟩
  have:i=cs.length:=by lia
  subst this
  rw [cO]
  exact k p np
theorem for_di {d:Aj}{o:Obj}{cs:List (Key×V)}{g:TG}{tb:TS}{D:Ends}{σ:St}{H:Hp}(Pv:Nat→St→Hp→Prop)(h0:Pv 0 σ H)(hl:∀i σ H,i≤cs.length→Pv i σ H→H d=some (.frz o (.dK cs)))
  (hs:∀i c q σ H,cs[i]?=some c→H q=none→Pv i σ H→g (.ref q) σ (upd H q (.tup [kV c.1,c.2])) λσ2 H2=>tb { D with nx:=Pv (i+1),ct:=Pv (i+1),bk:=D.nx } σ2 H2) (hd:∀σ H,Pv cs.length σ H→D.nx σ H) :
  ∃W:Nat→Nat→St→Hp→Prop,(∃m,W 0 m σ H)∧∀i m σ H,W i m σ H →
   ((ItDI d o cs).stop i H∧D.nx σ H)∨((ItDI d o cs).go i H∧∃N:St→Hp→Prop,(∀σ' H',N σ' H'→∃m',m'<m∧W (i+1) m' σ' H')∧∀x H',(ItDI d o cs).yld i H x H'→g x σ H' λσ2 H2=>tb { D with nx:=N,ct:=N,bk:=D.nx } σ2 H2):=by
 refine ⟨λi m σ H=>m=cs.length-i∧i≤cs.length∧Pv i σ H,⟨cs.length,by simp,aB _,h0⟩,?_⟩
 rintro i m σ H ⟨rfl,hi,p⟩
 have q:=hl i σ H hi p
 by_cases hlt:i<cs.length
 ·refine .inr ⟨⟨q,hlt⟩,Pv (i+1),λσ' H' p'=>⟨cs.length-(i+1),by lia,rfl,hlt,p'⟩,?_⟩
  rintro x H' ⟨z,c,nz,rfl,ec,rfl⟩
  exact hs i c z σ H ec nz p
 ·have e:i=cs.length:=by lia
  subst e
  exact .inl ⟨⟨q,af _⟩,hd σ H p⟩
def ex1 (R:List (Key×V))(c:Key×V):List (Key×V):=if c.2=.non then uq R c.1 else vj R c.1 c.2
def exK (R cs:List (Key×V)):List (Key×V):=cs.foldl ex1 R
def bfK (R cs:List (Key×V)):List (Key×V):=cs.map λc=>(c.1,(wt R c.1).getD .non)
def qkw (R cs:List (Key×V)):Prop:=∀(i:Nat) c,cs[i]?=some c→c.2=.non→(wt (exK R (cs.take i)) c.1).isSome=true
theorem wv1 (R:List (Key×V)){cs:List (Key×V)}{i:Nat}{c:Key×V}(h:cs[i]?=some c):exK R (cs.take (i+1))=ex1 (exK R (cs.take i)) c:=by
 unfold exK
 rw [cG,h,List.foldl_append]
 rfl
theorem wkm (R:List (Key×V))(c:Key×V):(ex1 R c).length≤R.length+1:=by
 unfold ex1
 split
 ·have:=qvz R c.1
  lia
 ·exact jc R c.1 c.2
theorem wvz (R cs:List (Key×V)):(exK R cs).length≤R.length+cs.length:=by
 induction cs generalizing R with
 |nil=>exact af _
 |cons c cs ih =>
  have h1:=ih (ex1 R c)
  have h2:=wkm R c
  show (exK (ex1 R c) cs).length≤_
  rw [aX]
  lia
def Kb (ch:List Aj)(H H':Hp):Prop:=∀b o,b∉ch→H b=some o→H' b=some o
section
variable {X:Cx}{C:Aj}{x:Str}{k:Nat}{sp:Sp}{E:St→XK}{p pos:Pos}
theorem qxw (c:CCal X.prog X.w X.K X.mg X.base x C k sp)(hr:Room (k+1) X.A)(hg:Gl X x)(hx:jr X E)(hdb:(x==("__debug__" : Str))=false:=by decide) :
  PE X (.Call (.Name x p) [] [] pos) (qj4 C sp E j8):=by
 obtain ⟨f,fd,ps,hm,M,F,b⟩:=c.ex
 intro pins s σ H Q I h
 refine cw (Q8 I hg hm ?_ hdb)
 exact PySem.W.callWith_K0 I.kIn M.kp (qw2 (us:=[]) M F hr b hx I .nil h)
end
theorem Kb.rd {ch:List Aj}{H H':Hp}(k:Kb ch H H'){d:Aj}{kvs:List (Key×V)}(n:d∉ch)(h:Rd H d (.dK kvs)):Rd H' d (.dK kvs):=by
 rcases h with h|⟨o,h⟩
 ·exact .inl (k _ _ n h)
 ·exact .inr ⟨o,k _ _ n h⟩
theorem Kb.trans {ch:List Aj}{H H' H'':Hp}(a:Kb ch H H')(b:Kb ch H' H''):Kb ch H H'':=λc o n e=>b c o n (a c o n e)
theorem Kb.of {ch:List Aj}{H H':Hp}(s:Same H H'):Kb ch H H':=λc o _ e=>s c o e
theorem for_en {K:Aa}{a:Aj}{xs:List V}{g:TG}{tb:TS}{D:Ends}{σ:St}{H:Hp}(Pv:Nat→St→Hp→Prop)(h0:Pv 0 σ H)(hl:∀i σ H,i≤xs.length→Pv i σ H→SqL K H a xs)
  (hs:∀i x q σ H,xs[i]?=some x→H q=none→Pv i σ H→g (.ref q) σ (upd H q (.tup [.int (i:Nat),x])) λσ2 H2=>tb { D with nx:=Pv (i+1),ct:=Pv (i+1),bk:=D.nx } σ2 H2) (hd:∀σ H,Pv xs.length σ H→D.nx σ H) :
  ∃W:Nat→Nat→St→Hp→Prop,(∃m,W 0 m σ H)∧∀i m σ H,W i m σ H →
   ((ItE K a xs).stop i H∧D.nx σ H)∨((ItE K a xs).go i H∧∃N:St→Hp→Prop,(∀σ' H',N σ' H'→∃m',m'<m∧W (i+1) m' σ' H')∧∀x H',(ItE K a xs).yld i H x H'→g x σ H' λσ2 H2=>tb { D with nx:=N,ct:=N,bk:=D.nx } σ2 H2):=by
 refine ⟨λi m σ H=>m=xs.length-i∧i≤xs.length∧Pv i σ H,⟨xs.length,by simp,aB _,h0⟩,?_⟩
 rintro i m σ H ⟨rfl,hi,p⟩
 have q:=hl i σ H hi p
 by_cases hlt:i<xs.length
 ·refine .inr ⟨⟨q,hlt⟩,Pv (i+1),λσ' H' p'=>⟨xs.length-(i+1),by lia,rfl,hlt,p'⟩,?_⟩
  rintro x H' ⟨z,c,nz,rfl,ec,rfl⟩
  exact hs i c z σ H ec nz p
 ·have e:i=xs.length:=by lia
  subst e
  exact .inl ⟨⟨q,af _⟩,hd σ H p⟩
end L2
namespace L2
open PySem PySem.Spec PyProof.Rows
theorem ht_gen {o:Expr}{m:Str}{apos pos:Pos}{e:Expr}{es:List Expr}{env:Env}(hb:attributeBase o m env (eval o env)=eval o env)(hf:methodCallForm ((e::es).length+0) (backTo pos (starEach (e::es) env)) (backToKw pos (keywordEach [] env))=true)(hp:methodCallPos true o env apos pos=pure pos) :
  eval (.Call (.Attribute o m apos) (e::es) [] pos) env=(do
   let ov ←eval o env
   standAt apos.atName
   let (f,first) ←holding [ov] (getMethod ov m (do return (←importBound o env).getD true))
   callWith pos f first (backTo pos (starEach (e::es) env)) (backToKw pos (keywordEach [] env))):=by
 rw [arm_eval_Call,hb]
 unfold methodCall
 rw [show (e::es).length+([]:List Keyword).length=(e::es).length+0 from rfl,hf,hp]
 rfl
section
variable {X:Cx}{C:Aj}{x m:Str}{k:Nat}{sp:Sp}{E:St→XK}{p pos apos:Pos}{e o:Expr}{es:List Expr}{ta te:TE}{t:TA}
theorem xx {v j p'}(ha:PE X (.Constant v j p') te)(hr:PA X es t):PA X (.Constant v j p'::es) (vu te t):=xf ha hr rfl
theorem wx {v p'}(ha:PE X (.Name v p') te)(hr:PA X es t):PA X (.Name v p'::es) (vu te t):=xf ha hr rfl
theorem wz9 {v p'}(ha:PE X (.List v p') te)(hr:PA X es t):PA X (.List v p'::es) (vu te t):=xf ha hr rfl
theorem qwm {v j p'}(ha:PE X (.Tuple v j p') te)(hr:PA X es t):PA X (.Tuple v j p'::es) (vu te t):=xf ha hr rfl
theorem js {a b c p'}(ha:PE X (.Call a b c p') te)(hr:PA X es t):PA X (.Call a b c p'::es) (vu te t):=xf ha hr rfl
theorem zp {a b c p'}(ha:PE X (.BinOp a b c p') te)(hr:PA X es t):PA X (.BinOp a b c p'::es) (vu te t):=xf ha hr rfl
theorem zx {a b p'}(ha:PE X (.Subscript a b p') te)(hr:PA X es t):PA X (.Subscript a b p'::es) (vu te t):=xf ha hr rfl
def qxg:List Expr→Bool
 |[]=>true
 |.Starred _ _::_=>false
 |_::r=>qxg r
theorem Wm {env:Env}:∀ {es:List Expr},qxg es=true→starEach es env=es.map λe=>(false,eval e env)
 |[],_=>rfl
 |e::r,h=>by
  cases e
  case Starred=>cases h
  all_goals exact bJ _ (Wm (es:=r) h)
theorem Zz {pos:Pos}:∀ {l:List (Bool×Sem Ag)},(∀q∈l,q.1=false)→(backTo pos l).all (!·.1)=true∧(backTo pos l).any (·.1)=false:=by
 intro l h
 have key:∀q∈backTo pos l,q.1=false:=by
  intro q hq
  unfold backTo at hq
  obtain ⟨q',hq',rfl⟩:=aw.mp hq
  exact h q' hq'
 exact ⟨bT.mpr λq hq=>by rw [key q hq];rfl,List.any_eq_false.mpr λq hq=>by rw [key q hq];decide⟩
theorem xp (he:PE X o ta)(cl:Cls X.K C)(c:MCal X.prog X.w X.K X.mg X.base C m k sp)(hr:Room k X.A)(hx:jr X E)(ha:PA X (e::es) t)(hn:qxg (e::es)=true:=by rfl)(hl:(e::es).length+0<30:=by decide)
  (hb:∀z,attributeBase o m X.env z=z:=by intro _;rfl) (hp:methodCallPos true o X.env apos pos=pure pos:=by rfl):PE X (.Call (.Attribute o m apos) (e::es) [] pos) (qqx C m sp E ta t):=by
 have h1:starEach (e::es) X.env=(false,eval e X.env)::starEach es X.env:=by
  cases e
  case Starred=>cases hn
  all_goals rfl
 have h2:∀q∈starEach (e::es) X.env,q.1=false:=λq hq=>by
  rw [Wm hn] at hq
  obtain ⟨z,_,rfl⟩:=aw.mp hq
  rfl
 refine wz7 he cl c hr hx ha h1 (Zz λq hq=>h2 q (by rw [h1];exact aC _ hq)).2 (ht_gen (hb _) ?_ hp)
 unfold methodCallForm
 rw [(Zz (pos:=pos) h2).1]
 exact bD hl
theorem wp (c:Cal X.prog X.w X.K X.mg X.base x k sp)(hr:Room k X.A)(hg:Gl X x)(hx:jr X E)(ha:PA X (e::es) t)(hn:qxg (e::es)=true:=by rfl)(hdb:(x==("__debug__" : Str))=false:=by decide):PE X (.Call (.Name x p) (e::es) [] pos) (Jy sp E t):=by
 have h1:starEach (e::es) X.env=(false,eval e X.env)::starEach es X.env:=by
  cases e
  case Starred=>cases hn
  all_goals rfl
 have h2:∀q∈starEach (e::es) X.env,q.1=false:=λq hq=>by
  rw [Wm hn] at hq
  obtain ⟨z,_,rfl⟩:=aw.mp hq
  rfl
 exact Yf c hr hg hx ha hdb h1 (Zz λq hq=>h2 q (by rw [h1];exact aC _ hq)).2
end
end L2
namespace My
open PySem L2
def top (i:Nat):Stmt:=PySem.Challenge.pw_crookroad_k61_whole_stories_apart.main.body.getD i (.Pass ⟨0,0,0,0⟩)
abbrev s_check_count:Stmt:=top 15
theorem Yr:FnScope ["number","fewest","most"] ["number","fewest","most"] (wn s_check_count):=⟨rfl,rfl,rfl,by decide +kernel,rfl,by decide +kernel,by decide +kernel⟩
theorem Yt:Q1 "check_count" s_check_count ["number","fewest","most"] []:=λ_ _ _ _ _ _ _ us hl=>match us,hl with | [_,_,_],_=>exI rfl rfl
theorem Jn:Q1 "check_count" s_check_count ["number","fewest","most"] [.none]:=λ_ _ _ _ _ _ _ us hl=>by
 have h2:us.length=2:=by simpa using hl
 match us,h2 with
 |[_,_],_=>exact exI rfl rfl
abbrev s_check_bottom:Stmt:=top 17
theorem Zn:FnScope ["bottom"] ["bottom"] (wn s_check_bottom):=⟨rfl,rfl,rfl,by decide +kernel,rfl,by decide +kernel,by decide +kernel⟩
theorem Zg:zy "check_bottom" s_check_bottom ["bottom"]:=λ_ _ _ _ _ _ us hl=>match us,hl with | [_],_=>rfl
abbrev s_common_divisor:Stmt:=top 18
theorem Qm:FnScope ["one","other"] ["one","other"] (wn s_common_divisor):=⟨rfl,rfl,rfl,by decide +kernel,rfl,by decide +kernel,by decide +kernel⟩
theorem Wg:zy "common_divisor" s_common_divisor ["one","other"]:=λ_ _ _ _ _ _ us hl=>match us,hl with | [_,_],_=>rfl
abbrev s_lowest:Stmt:=top 19
theorem wq4:FnScope ["top","bottom","divisor"] ["top","bottom"] (wn s_lowest):=⟨rfl,rfl,rfl,by decide +kernel,rfl,by decide +kernel,by decide +kernel⟩
theorem wqt:zy "lowest" s_lowest ["top","bottom"]:=λ_ _ _ _ _ _ us hl=>match us,hl with | [_,_],_=>rfl
abbrev s_trace:Stmt:=top 23
theorem wxf:FnScope ["road","start","places","here"] ["road","start"] (wn s_trace):=⟨rfl,rfl,rfl,by decide +kernel,rfl,by decide +kernel,by decide +kernel⟩
theorem wwm:zy "trace" s_trace ["road","start"]:=λ_ _ _ _ _ _ us hl=>match us,hl with | [_,_],_=>rfl
abbrev s_spot:Stmt:=top 24
theorem wvv:FnScope ["points","turn","many"] ["points","turn","many"] (wn s_spot):=⟨rfl,rfl,rfl,by decide +kernel,rfl,by decide +kernel,by decide +kernel⟩
theorem wkn:zy "spot" s_spot ["points","turn","many"]:=λ_ _ _ _ _ _ us hl=>match us,hl with | [_,_,_],_=>rfl
abbrev s_led_to:Stmt:=top 25
theorem wq1:FnScope ["place","turn","size","many","times"] ["place","turn","size","many"] (wn s_led_to):=⟨rfl,rfl,rfl,by decide +kernel,rfl,by decide +kernel,by decide +kernel⟩
theorem qu3:zy "led_to" s_led_to ["place","turn","size","many"]:=λ_ _ _ _ _ _ us hl=>match us,hl with | [_,_,_,_],_=>rfl
abbrev s_is_line:Stmt:=top 28
theorem qyq:FnScope ["heights","width"] ["heights"] (wn s_is_line):=⟨rfl,rfl,rfl,by decide +kernel,rfl,by decide +kernel,by decide +kernel⟩
theorem qjp:zy "is_line" s_is_line ["heights"]:=λ_ _ _ _ _ _ us hl=>match us,hl with | [_],_=>rfl
abbrev s_Road___init__:Stmt:=zd (top 29) 0
theorem Wr:FnScope ["self","heights"] ["self","heights"] (wn s_Road___init__):=⟨rfl,rfl,rfl,by decide +kernel,rfl,by decide +kernel,by decide +kernel⟩
theorem W0:zb "__init__" "Road.__init__" s_Road___init__ ["self","heights"]:=λ_ _ _ _ _ _ us hl=>match us,hl with | [_,_],_=>rfl
abbrev s_Road_width:Stmt:=zd (top 29) 1
theorem qwy:FnScope ["self"] ["self"] (wn s_Road_width):=⟨rfl,rfl,rfl,by decide +kernel,rfl,by decide +kernel,by decide +kernel⟩
theorem qq9:zb "width" "Road.width" s_Road_width ["self"]:=λ_ _ _ _ _ _ us hl=>match us,hl with | [_],_=>rfl
abbrev s_Road_ends:Stmt:=zd (top 29) 3
theorem qx7:FnScope ["self","stretch"] ["self","stretch"] (wn s_Road_ends):=⟨rfl,rfl,rfl,by decide +kernel,rfl,by decide +kernel,by decide +kernel⟩
theorem qz6:zb "ends" "Road.ends" s_Road_ends ["self","stretch"]:=λ_ _ _ _ _ _ us hl=>match us,hl with | [_,_],_=>rfl
abbrev s_Road_on_road:Stmt:=zd (top 29) 6
theorem Zp:FnScope ["self","point","top","bottom"] ["self","point"] (wn s_Road_on_road):=⟨rfl,rfl,rfl,by decide +kernel,rfl,by decide +kernel,by decide +kernel⟩
theorem Zh:zb "on_road" "Road.on_road" s_Road_on_road ["self","point"]:=λ_ _ _ _ _ _ us hl=>match us,hl with | [_,_],_=>rfl
abbrev s_Road_at:Stmt:=zd (top 29) 7
theorem qjf:FnScope ["self","point","top","bottom","stretch","left","right","beyond"] ["self","point"] (wn s_Road_at):=⟨rfl,rfl,rfl,by decide +kernel,rfl,by decide +kernel,by decide +kernel⟩
theorem qyv:zb "at" "Road.at" s_Road_at ["self","point"]:=λ_ _ _ _ _ _ us hl=>match us,hl with | [_,_],_=>rfl
abbrev s_Walker___init__:Stmt:=zd (top 31) 0
theorem Qx:FnScope ["self","whose","point","times"] ["self","whose","point","times"] (wn s_Walker___init__):=⟨rfl,rfl,rfl,by decide +kernel,rfl,by decide +kernel,by decide +kernel⟩
theorem Qb:zb "__init__" "Walker.__init__" s_Walker___init__ ["self","whose","point","times"]:=λ_ _ _ _ _ _ us hl=>match us,hl with | [_,_,_,_],_=>rfl
abbrev s_Walker_gone:Stmt:=zd (top 31) 1
theorem Yy:FnScope ["self","road","many","points","turn","times","place","point","led"] ["self","road","many"] (wn s_Walker_gone):=⟨rfl,rfl,rfl,by decide +kernel,rfl,by decide +kernel,by decide +kernel⟩
theorem Yc:zb "gone" "Walker.gone" s_Walker_gone ["self","road","many"]:=λ_ _ _ _ _ _ us hl=>match us,hl with | [_,_,_],_=>rfl
abbrev s_set_down:Stmt:=top 32
theorem qvu:FnScope ["whose","point"] ["whose","point"] (wn s_set_down):=⟨rfl,rfl,rfl,by decide +kernel,rfl,by decide +kernel,by decide +kernel⟩
theorem qv0:zy "set_down" s_set_down ["whose","point"]:=λ_ _ _ _ _ _ us hl=>match us,hl with | [_,_],_=>rfl
abbrev s_is_name:Stmt:=top 37
theorem qju:FnScope ["name"] ["name"] (wn s_is_name):=⟨rfl,rfl,rfl,by decide +kernel,rfl,by decide +kernel,by decide +kernel⟩
theorem qk7:zy "is_name" s_is_name ["name"]:=λ_ _ _ _ _ _ us hl=>match us,hl with | [_],_=>rfl
abbrev s_check_new_name:Stmt:=top 38
theorem Q5:FnScope ["name","things"] ["name","things"] (wn s_check_new_name):=⟨rfl,rfl,rfl,by decide +kernel,rfl,by decide +kernel,by decide +kernel⟩
theorem Qh:zy "check_new_name" s_check_new_name ["name","things"]:=λ_ _ _ _ _ _ us hl=>match us,hl with | [_,_],_=>rfl
abbrev s_exchange:Stmt:=top 39
theorem qvr:FnScope ["things","changes","before","name","thing"] ["things","changes"] (wn s_exchange):=⟨rfl,rfl,rfl,by decide +kernel,rfl,by decide +kernel,by decide +kernel⟩
theorem qkj:zy "exchange" s_exchange ["things","changes"]:=λ_ _ _ _ _ _ us hl=>match us,hl with | [_,_],_=>rfl
abbrev s_House___init__:Stmt:=zd (top 40) 0
theorem Wu:FnScope ["self"] ["self"] (wn s_House___init__):=⟨rfl,rfl,rfl,by decide +kernel,rfl,by decide +kernel,by decide +kernel⟩
theorem Qs:zb "__init__" "House.__init__" s_House___init__ ["self"]:=λ_ _ _ _ _ _ us hl=>match us,hl with | [_],_=>rfl
abbrev s_House_road_called:Stmt:=zd (top 40) 1
theorem y8:FnScope ["self","name"] ["self","name"] (wn s_House_road_called):=⟨rfl,rfl,rfl,by decide +kernel,rfl,by decide +kernel,by decide +kernel⟩
theorem uw:zb "road_called" "House.road_called" s_House_road_called ["self","name"]:=λ_ _ _ _ _ _ us hl=>match us,hl with | [_,_],_=>rfl
abbrev s_House_walker_called:Stmt:=zd (top 40) 2
theorem yb:FnScope ["self","name"] ["self","name"] (wn s_House_walker_called):=⟨rfl,rfl,rfl,by decide +kernel,rfl,by decide +kernel,by decide +kernel⟩
theorem yu:zb "walker_called" "House.walker_called" s_House_walker_called ["self","name"]:=λ_ _ _ _ _ _ us hl=>match us,hl with | [_,_],_=>rfl
abbrev s_House_walkers_on:Stmt:=zd (top 40) 3
theorem ut:FnScope ["self","whose"] ["self","whose"] (wn s_House_walkers_on):=⟨rfl,rfl,rfl,by decide +kernel,rfl,by decide +kernel,by decide +kernel⟩
theorem u6:zb "walkers_on" "House.walkers_on" s_House_walkers_on ["self","whose"]:=λ_ _ _ _ _ _ us hl=>match us,hl with | [_,_],_=>rfl
abbrev s_House_do:Stmt:=zd (top 40) 4
theorem qv7:FnScope ["self","roads","walkers"] ["self","roads","walkers"] (wn s_House_do):=⟨rfl,rfl,rfl,by decide +kernel,rfl,by decide +kernel,by decide +kernel⟩
theorem qkt:zb "do" "House.do" s_House_do ["self","roads","walkers"]:=λ_ _ _ _ _ _ us hl=>match us,hl with | [_,_,_],_=>rfl
abbrev s_House_lay:Stmt:=zd (top 40) 5
theorem qzj:FnScope ["self","name","heights"] ["self","name","heights"] (wn s_House_lay):=⟨rfl,rfl,rfl,by decide +kernel,rfl,by decide +kernel,by decide +kernel⟩
theorem qzg:zb "lay" "House.lay" s_House_lay ["self","name","heights"]:=λ_ _ _ _ _ _ us hl=>match us,hl with | [_,_,_],_=>rfl
abbrev s_House_place:Stmt:=zd (top 40) 10
theorem qqv:FnScope ["self","name","whose","point","road","here"] ["self","name","whose","point"] (wn s_House_place):=⟨rfl,rfl,rfl,by decide +kernel,rfl,by decide +kernel,by decide +kernel⟩
theorem Y4:zb "place" "House.place" s_House_place ["self","name","whose","point"]:=λ_ _ _ _ _ _ us hl=>match us,hl with | [_,_,_,_],_=>rfl
abbrev s_House_leave:Stmt:=zd (top 40) 11
theorem Jj:FnScope ["self","name"] ["self","name"] (wn s_House_leave):=⟨rfl,rfl,rfl,by decide +kernel,rfl,by decide +kernel,by decide +kernel⟩
theorem Yp:zb "leave" "House.leave" s_House_leave ["self","name"]:=λ_ _ _ _ _ _ us hl=>match us,hl with | [_,_],_=>rfl
abbrev s_House_go:Stmt:=zd (top 40) 12
theorem qks:FnScope ["self","name","many","walker","gone"] ["self","name","many"] (wn s_House_go):=⟨rfl,rfl,rfl,by decide +kernel,rfl,by decide +kernel,by decide +kernel⟩
theorem qkc:zb "go" "House.go" s_House_go ["self","name","many"]:=λ_ _ _ _ _ _ us hl=>match us,hl with | [_,_,_],_=>rfl
abbrev s_House_together:Stmt:=zd (top 40) 13
theorem Ww:FnScope ["self","whose","many","road","gone"] ["self","whose","many"] (wn s_House_together):=⟨rfl,rfl,rfl,by decide +kernel,rfl,by decide +kernel,by decide +kernel⟩
theorem Wy:zb "together" "House.together" s_House_together ["self","whose","many"]:=λ_ _ _ _ _ _ us hl=>match us,hl with | [_,_,_],_=>rfl
abbrev s_House_take_back:Stmt:=zd (top 40) 14
theorem Qv:FnScope ["self","roads","walkers"] ["self"] (wn s_House_take_back):=⟨rfl,rfl,rfl,by decide +kernel,rfl,by decide +kernel,by decide +kernel⟩
theorem Qf:zb "take_back" "House.take_back" s_House_take_back ["self"]:=λ_ _ _ _ _ _ us hl=>match us,hl with | [_],_=>rfl
abbrev s_House_stood:Stmt:=zd (top 40) 20
theorem Jc:FnScope ["self","name","point","walker"] ["self","name","point"] (wn s_House_stood):=⟨rfl,rfl,rfl,by decide +kernel,rfl,by decide +kernel,by decide +kernel⟩
theorem Y5:zb "stood" "House.stood" s_House_stood ["self","name","point"]:=λ_ _ _ _ _ _ us hl=>match us,hl with | [_,_,_],_=>rfl
abbrev s_House_twin:Stmt:=zd (top 40) 23
theorem qwz:FnScope ["self","other"] ["self"] (wn s_House_twin):=⟨rfl,rfl,rfl,by decide +kernel,rfl,by decide +kernel,by decide +kernel⟩
theorem qqp:zb "twin" "House.twin" s_House_twin ["self"]:=λ_ _ _ _ _ _ us hl=>match us,hl with | [_],_=>rfl
abbrev s__law_cell:Stmt:=top 42
theorem qzy:FnScope ["_law_script","_law_at"] ["_law_script","_law_at"] (wn s__law_cell):=⟨rfl,rfl,rfl,by decide +kernel,rfl,by decide +kernel,by decide +kernel⟩
theorem qz1:zy "_law_cell" s__law_cell ["_law_script","_law_at"]:=λ_ _ _ _ _ _ us hl=>match us,hl with | [_,_],_=>rfl
abbrev s__law_pick:Stmt:=top 43
theorem qxn:FnScope ["_law_script","_law_at","_law_turn","_law_many","_law_cell_here","_law_left","_law_k","_law_low_here","_law_one","_law_two"] ["_law_script","_law_at","_law_turn","_law_many"] (wn s__law_pick):=⟨rfl,rfl,rfl,by decide +kernel,rfl,by decide +kernel,by decide +kernel⟩
theorem qzw:zy "_law_pick" s__law_pick ["_law_script","_law_at","_law_turn","_law_many"]:=λ_ _ _ _ _ _ us hl=>match us,hl with | [_,_,_,_],_=>rfl
abbrev s__law_climb:Stmt:=top 44
theorem qwu:FnScope ["_law_script","_law_at","_law_wide","_law_row","_law_k"] ["_law_script","_law_at","_law_wide"] (wn s__law_climb):=⟨rfl,rfl,rfl,by decide +kernel,rfl,by decide +kernel,by decide +kernel⟩
theorem qq5:zy "_law_climb" s__law_climb ["_law_script","_law_at","_law_wide"]:=λ_ _ _ _ _ _ us hl=>match us,hl with | [_,_,_],_=>rfl
abbrev s__law_heights:Stmt:=top 45
theorem Zr:FnScope ["_law_script","_law_at","_law_most","_law_wide","_law_kind"] ["_law_script","_law_at","_law_most"] (wn s__law_heights):=⟨rfl,rfl,rfl,by decide +kernel,rfl,by decide +kernel,by decide +kernel⟩
theorem Zd:zy "_law_heights" s__law_heights ["_law_script","_law_at","_law_most"]:=λ_ _ _ _ _ _ us hl=>match us,hl with | [_,_,_],_=>rfl
abbrev s__law_spot:Stmt:=top 46
theorem qxk:FnScope ["_law_script","_law_at","_law_wide","_law_most","_law_bottom","_law_top","_law_by"] ["_law_script","_law_at","_law_wide","_law_most"] (wn s__law_spot):=⟨rfl,rfl,rfl,by decide +kernel,rfl,by decide +kernel,by decide +kernel⟩
theorem qxp:zy "_law_spot" s__law_spot ["_law_script","_law_at","_law_wide","_law_most"]:=λ_ _ _ _ _ _ us hl=>match us,hl with | [_,_,_,_],_=>rfl
abbrev s__law_step:Stmt:=top 47
theorem qzz:FnScope ["_law_heights_here","_law_top","_law_bottom","_law_k"] ["_law_heights_here","_law_top","_law_bottom"] (wn s__law_step):=⟨rfl,rfl,rfl,by decide +kernel,rfl,by decide +kernel,by decide +kernel⟩
theorem qx4:zy "_law_step" s__law_step ["_law_heights_here","_law_top","_law_bottom"]:=λ_ _ _ _ _ _ us hl=>match us,hl with | [_,_,_],_=>rfl
abbrev s__law_trace:Stmt:=top 48
theorem qqd:FnScope ["_law_heights_here","_law_top","_law_bottom","_law_seen","_law_tops"] ["_law_heights_here","_law_top","_law_bottom"] (wn s__law_trace):=⟨rfl,rfl,rfl,by decide +kernel,rfl,by decide +kernel,by decide +kernel⟩
theorem qwj:zy "_law_trace" s__law_trace ["_law_heights_here","_law_top","_law_bottom"]:=λ_ _ _ _ _ _ us hl=>match us,hl with | [_,_,_],_=>rfl
abbrev s__law_after:Stmt:=top 49
theorem qqu:FnScope ["_law_tops","_law_start","_law_many"] ["_law_tops","_law_start","_law_many"] (wn s__law_after):=⟨rfl,rfl,rfl,by decide +kernel,rfl,by decide +kernel,by decide +kernel⟩
theorem qwx:zy "_law_after" s__law_after ["_law_tops","_law_start","_law_many"]:=λ_ _ _ _ _ _ us hl=>match us,hl with | [_,_,_],_=>rfl
abbrev s__law_whole:Stmt:=top 50
theorem qq3:FnScope ["_law_found"] ["_law_found"] (wn s__law_whole):=⟨rfl,rfl,rfl,by decide +kernel,rfl,by decide +kernel,by decide +kernel⟩
theorem qqy:zy "_law_whole" s__law_whole ["_law_found"]:=λ_ _ _ _ _ _ us hl=>match us,hl with | [_],_=>rfl
abbrev s__law_common:Stmt:=top 51
theorem Jp:FnScope ["_law_one","_law_other"] ["_law_one","_law_other"] (wn s__law_common):=⟨rfl,rfl,rfl,by decide +kernel,rfl,by decide +kernel,by decide +kernel⟩
theorem Jq:zy "_law_common" s__law_common ["_law_one","_law_other"]:=λ_ _ _ _ _ _ us hl=>match us,hl with | [_,_],_=>rfl
abbrev s__law_low:Stmt:=top 52
theorem qkn:FnScope ["_law_top","_law_bottom","_law_by"] ["_law_top","_law_bottom"] (wn s__law_low):=⟨rfl,rfl,rfl,by decide +kernel,rfl,by decide +kernel,by decide +kernel⟩
theorem qkr:zy "_law_low" s__law_low ["_law_top","_law_bottom"]:=λ_ _ _ _ _ _ us hl=>match us,hl with | [_,_],_=>rfl
abbrev s__law_count:Stmt:=top 53
theorem qqg:FnScope ["_law_tops","_law_start","_law_many","_law_top","_law_found","_law_k","_law_size","_law_turn"] ["_law_tops","_law_start","_law_many","_law_top"] (wn s__law_count):=⟨rfl,rfl,rfl,by decide +kernel,rfl,by decide +kernel,by decide +kernel⟩
theorem qwk:zy "_law_count" s__law_count ["_law_tops","_law_start","_law_many","_law_top"]:=λ_ _ _ _ _ _ us hl=>match us,hl with | [_,_,_,_],_=>rfl
abbrev s__law_story:Stmt:=top 54
theorem qwv:FnScope ["_law_row","_law_top","_law_goings","_law_story_here","_law_many","_law_tops","_law_start"] ["_law_row","_law_top","_law_goings"] (wn s__law_story):=⟨rfl,rfl,rfl,by decide +kernel,rfl,by decide +kernel,by decide +kernel⟩
theorem qq0:zy "_law_story" s__law_story ["_law_row","_law_top","_law_goings"]:=λ_ _ _ _ _ _ us hl=>match us,hl with | [_,_,_],_=>rfl
abbrev s__law_due:Stmt:=top 55
theorem qvc:FnScope ["_law_row","_law_point","_law_goings","_law_asked","_law_top","_law_bottom","_law_goal","_law_story_here","_law_last","_law_found","_law_tops","_law_start","_law_many"] ["_law_row","_law_point","_law_goings","_law_asked"] (wn s__law_due):=⟨rfl,rfl,rfl,by decide +kernel,rfl,by decide +kernel,by decide +kernel⟩
theorem qvs:zy "_law_due" s__law_due ["_law_row","_law_point","_law_goings","_law_asked"]:=λ_ _ _ _ _ _ us hl=>match us,hl with | [_,_,_,_],_=>rfl
abbrev s__law_right:Stmt:=top 56
theorem qq2:FnScope ["_law_house","_law_name","_law_row","_law_point","_law_goings","_law_top","_law_bottom","_law_story_here","_law_last","_law_asked","_law_found"] ["_law_house","_law_name","_law_row","_law_point","_law_goings"] (wn s__law_right):=⟨rfl,rfl,rfl,by decide +kernel,rfl,by decide +kernel,by decide +kernel⟩
theorem qwq:zy "_law_right" s__law_right ["_law_house","_law_name","_law_row","_law_point","_law_goings"]:=λ_ _ _ _ _ _ us hl=>match us,hl with | [_,_,_,_,_],_=>rfl
abbrev s__law_steps:Stmt:=top 57
theorem qqh:FnScope ["_law_script","_law_at"] ["_law_script","_law_at"] (wn s__law_steps):=⟨rfl,rfl,rfl,by decide +kernel,rfl,by decide +kernel,by decide +kernel⟩
theorem qq4:zy "_law_steps" s__law_steps ["_law_script","_law_at"]:=λ_ _ _ _ _ _ us hl=>match us,hl with | [_,_],_=>rfl
abbrev s__law_going:Stmt:=top 58
theorem qqm:FnScope ["_law_script","_law_at","_law_house","_law_many"] ["_law_script","_law_at","_law_house","_law_many"] (wn s__law_going):=⟨rfl,rfl,rfl,by decide +kernel,rfl,by decide +kernel,by decide +kernel⟩
theorem qq6:zy "_law_going" s__law_going ["_law_script","_law_at","_law_house","_law_many"]:=λ_ _ _ _ _ _ us hl=>match us,hl with | [_,_,_,_],_=>rfl
abbrev s__law_twin_back:Stmt:=top 59
theorem Qt:FnScope ["_law_other","_law_row","_law_points","_law_goings","_law_beside_goings"] ["_law_other","_law_row","_law_points","_law_goings","_law_beside_goings"] (wn s__law_twin_back):=⟨rfl,rfl,rfl,by decide +kernel,rfl,by decide +kernel,by decide +kernel⟩
theorem Q0:zy "_law_twin_back" s__law_twin_back ["_law_other","_law_row","_law_points","_law_goings","_law_beside_goings"]:=λ_ _ _ _ _ _ us hl=>match us,hl with | [_,_,_,_,_],_=>rfl
abbrev s_law:Stmt:=top 60
theorem qzc:FnScope ["_law_script","_law_row","_law_points","_law_steps_here","_law_house","_law_beside_goings","_law_other","_law_twin_goings","_law_goings","_law_later","_law_turn","_law_third"] ["_law_script"] (wn s_law):=⟨rfl,rfl,rfl,by decide +kernel,rfl,by decide +kernel,by decide +kernel⟩
local macro_rules | `(tactic| walk_at "sq")=>`(tactic| first | assumption | exact SqT.new | exact SqL.new | ((with_reducible refine Same.sqt (Same.upd (by assumption)) ?_);walk_at "sq") | ((with_reducible refine Same.sql (Same.upd (by assumption)) ?_);walk_at "sq"))
local macro_rules | `(tactic| walk_at "at")=>`(tactic| first | rfl | exact Z9 (by lia) (by lia))
local macro_rules | `(tactic| walk_at "mul")=>`(tactic| first | assumption | exact IntMulOk.of_left (intBits_le_64 (by lia) (by lia)) | exact IntMulOk.of_right (intBits_le_64 (by lia) (by lia)) | exact Sm.ok (by assumption) (by assumption) (by decide))
local macro_rules | `(tactic| walk_at "pos")=>`(tactic| first | lia | decide +kernel)
local macro_rules | `(tactic| walk_at "div")=>`(tactic| exact ⟨by first | lia | decide +kernel,by unfold Sm;decide +kernel⟩)
local macro_rules | `(tactic| walk_at "loc")=>`(tactic| first | exact Or.inl rfl | exact Or.inr rfl)
local macro_rules | `(tactic| walk_at "cap")=>`(tactic| repeat (first | exact trivial | refine ⟨rfl,?_⟩))
local macro_rules | `(tactic| walk_at "has")=>`(tactic| repeat (first | exact trivial | (refine ⟨λz=>?_,by decide,?_⟩;(first | exact ⟨_,rfl⟩ | cases z))))
local macro_rules | `(tactic| walk_at "cix")=>`(tactic| repeat (first | exact trivial | refine ⟨⟨_,_,rfl,rfl,rfl,rfl⟩,?_⟩))
local macro_rules | `(tactic| walk_at "hasK")=>`(tactic| repeat (first | exact trivial | (refine ⟨λz=>?_,λz=>?_,?_⟩;(first | exact ⟨_,rfl⟩ | cases z);(first | rfl | cases z))))
structure Txt (K:Aa)(mg:Str→Option Ag)(qf:Aj)(wz:Aj)(qk:Aj)(q9:Aj)(qg:Aj)(wv:Aj)(wu:Aj)(wq:Aj)(wm:Aj)(wy:Aj)(qd:Aj)(qz:Aj)(qm:Aj)(qw:Aj)(qq:Aj):Prop where
 len_:mg "len" = none
 abs_:mg "abs" = none
 range_:mg "range" = none
 list_:mg "list" = none
 min_:mg "min" = none
 max_:mg "max" = none
 all_:mg "all" = none
 any_:mg "any" = none
 sorted_:mg "sorted" = none
 enumerate_:mg "enumerate" = none
 dict_:mg "dict" = none
 isinstance_:mg "isinstance" = none
 int_:mg "int" = none
 bool_:mg "bool" = none
 g_RoadError:mg "RoadError" = some (.ref qf)
 x_RoadError:ExcC K qf
 g_BadLine:mg "BadLine" = some (.ref wz)
 x_BadLine:ExcC K wz
 g_BadBottom:mg "BadBottom" = some (.ref qk)
 x_BadBottom:ExcC K qk
 g_OffRoad:mg "OffRoad" = some (.ref q9)
 x_OffRoad:ExcC K q9
 g_BadCount:mg "BadCount" = some (.ref qg)
 x_BadCount:ExcC K qg
 g_TooLong:mg "TooLong" = some (.ref wv)
 x_TooLong:ExcC K wv
 g_BadRow:mg "BadRow" = some (.ref wu)
 x_BadRow:ExcC K wu
 g_BadName:mg "BadName" = some (.ref wq)
 x_BadName:ExcC K wq
 g_Taken:mg "Taken" = some (.ref wm)
 x_Taken:ExcC K wm
 g_NoRoad:mg "NoRoad" = some (.ref wy)
 x_NoRoad:ExcC K wy
 g_NoWalker:mg "NoWalker" = some (.ref qd)
 x_NoWalker:ExcC K qd
 g_NothingDone:mg "NothingDone" = some (.ref qz)
 x_NothingDone:ExcC K qz
 cl:Cls K qm
 na:NoAttr K qm "heights"
 g_WIDEST:∃t,mg "WIDEST" = some (.int 24 t)
 g_Road:mg "Road" = some (.ref qm)
 clW:Cls K qw
 clH:Cls K qq
 naWw:NoAttr K qw "whose"
 naWp:NoAttr K qw "point"
 naWt:NoAttr K qw "times"
 naHr:NoAttr K qq "roads"
 naHw:NoAttr K qq "walkers"
 naHd:NoAttr K qq "done"
 g_Walker:mg "Walker" = some (.ref qw)
 g_House:mg "House" = some (.ref qq)
 g_LONGEST_TRACE:∃t,mg "LONGEST_TRACE" = some (.int 1000 t)
 g_FARTHEST:∃t,mg "FARTHEST" = some (.int 1000000000000000000000000000000000000000000000000000000000000 t)
 g_LONGEST_NAME:∃t,mg "LONGEST_NAME" = some (.int 12 t)
 g_GREATEST_BOTTOM:∃t,mg "GREATEST_BOTTOM" = some (.int 40 t)
 g_LETTERS:∃t,mg "LETTERS" = some (.str "abcdefghijklmnopqrstuvwxyz" t)
section
variable {P:Ac}{w:Ah}{K:Aa}{mg:Str→Option Ag}{base:Heap}{qf:Aj}{wz:Aj}{qk:Aj}{q9:Aj}{qg:Aj}{wv:Aj}{wu:Aj}{wq:Aj}{wm:Aj}{wy:Aj}{qd:Aj}{qz:Aj}{qm:Aj}{qw:Aj}{qq:Aj}
def qz7 (C:Aj):Sp:=λvs H Q E=>∃b:Int,vs=[.int b]∧(1≤b→Q .non H)∧(b<1→E (.ref C) none H)
theorem wzk {f:Aj}{fd:Ad}(F:Fun K "check_bottom" "check_bottom" s_check_bottom f fd)(T:Txt K mg qf wz qk q9 qg wv wu wq wm wy qd qz qm qw qq):FnOk P w K mg base (CXE P w) 1 f fd ["bottom"] (qz7 qk):=by
 have sc:=Zn
 refine F.okX sc (λvs H Q E h=>by obtain ⟨b,rfl,_⟩:=h;rfl) (λcdv A outer s H vs Q E hr h=>?_)
 obtain ⟨b,rfl,h1,h2⟩:=h
 refine ⟨_,(wj (zq (xq yt (pv 0) qr (xk _)) (wj (vk rfl T.x_BadBottom zg rfl T.g_BadBottom (xx xt qu))) w9)),?_⟩
 refine exI rfl (w6 rfl rfl (exI rfl ?_))
 refine jv (λq1=>?_) (λq1=>?_)
 ·exact ⟨by decide,h2 q1⟩
 ·exact h1 (by lia)
theorem wkk {f:Aj}{fd:Ad}(F:Fun K "_law_cell" "_law_cell" s__law_cell f fd)(T:Txt K mg qf wz qk q9 qg wv wu wq wm wy qd qz qm qw qq):FnOk P w K mg base (CXE P w) 1 f fd ["_law_script","_law_at"] (qzb K):=by
 have sc:=qzy
 refine F.okX sc (λvs H Q E h=>by obtain ⟨a,ns,i,rfl,_⟩:=h;rfl) (λcdv A outer s H vs Q E hr h=>?_)
 obtain ⟨a,ns,i,rfl,hS,h0,k⟩:=h
 have hlen:(ns.map V.int).length=ns.length:=ac _
 refine ⟨_,(qy (zq (xq yt (pv 1) (xu x8 rfl T.len_ aV (wx (pv 0) qu)) (xk _)) (wj (w8 (xy xv (pv 0) (pv 1) (λ_ _=>rfl)))) w9)
   (qy (zq (xq k9 (xu x8 rfl T.len_ aV (wx (pv 0) qu)) qr (xk _)) (wj (w8 (w4 xn (w4 x9 qr (pv 1)) qr))) w9)
   (wj (w8 (w4 xn (xy xv (pv 0) (w4 vc (pv 1) (xu x8 rfl T.len_ aV (wx (pv 0) qu))) (λ_ _=>rfl)) (w4 x9 qr (pv 1))))))),?_⟩
 refine exI rfl (exI rfl ⟨_,_,rfl,.inl hS,w6 rfl rfl (exI rfl ?_)⟩)
 refine jv (λq1=>?_) (λq1=>?_)
 ·rw [hlen] at q1
  refine exI rfl (exI rfl (exX rfl rfl hS (Z9 h0 q1) ?_))
  exact k _ (by rw [qv6,ak q1])
 ·rw [hlen] at q1
  refine exI rfl ⟨_,_,rfl,.inl hS,rfl,_,rfl,?_⟩
  rw [hlen]
  refine jk (λq2=>?_) (λq2=>?_)
  ·refine exI rfl (w6 rfl rfl ⟨(by walk_at "mul"),w6 rfl rfl ?_⟩)
   exact k _ (by rw [qv6,ag q1,ak q2])
  ·refine exI rfl (exI rfl (exI rfl ⟨_,_,rfl,.inl hS,w6 rfl rfl ⟨(by rw [hlen];lia),?_⟩⟩))
   rw [hlen]
   refine exX rfl rfl hS (Z9 (br _ q2) (bi _ (by lia))) (exI rfl (w6 rfl rfl ⟨(by walk_at "mul"),w6 rfl rfl ?_⟩))
   exact k _ (by rw [qv6,ag q1,ag q2])
theorem wvf {f:Aj}{fd:Ad}(F:Fun K "_law_pick" "_law_pick" s__law_pick f fd)(T:Txt K mg qf wz qk q9 qg wv wu wq wm wy qd qz qm qw qq)(c__law_cell:Cal P w K mg base "_law_cell" 1 (qzb K)):FnOk P w K mg base (CXE P w) 2 f fd ["_law_script","_law_at","_law_turn","_law_many"] (uk K):=by
 have sc:=qxn
 refine F.okX sc (λvs H Q E h=>by obtain ⟨a,ns,i,t,m,rfl,_⟩:=h;rfl) (λcdv A outer s H vs Q E hr h=>?_)
 obtain ⟨a,ns,i,t,m,rfl,hS,h0,t0,t1,m0,k⟩:=h
 refine ⟨_,(qy (xz (i:=4) sc.nd rfl (by walk_at "loc") (wp c__law_cell (hr.mono (by decide)) rfl qh (wx (pv 0) (wx (pv 1) qu))))
   (qy (zq (xq qy2 (xu Q7 rfl T.abs_ Qr (wx (pv 4) qu)) (w4 wwh qr qr) (xk _)) (qy (xz (i:=5) sc.nd rfl (by walk_at "loc") (xu Q7 rfl T.abs_ Qr (wx (pv 4) qu)))
   (qy (yw aY rfl (zr rfl T.range_ (wx (pv 2) qu)) (xj (i:=6) sc.nd rfl (by walk_at "loc")) (wj (xz (i:=5) sc.nd rfl (by walk_at "loc") (w4 vm (pv 5) qr))))
   (qy (zq (xq yt (pv 4) qr (xk _)) (wj (xz (i:=5) sc.nd rfl (by walk_at "loc") (w4 vc (pv 5) qr))) w9)
   (wj (w8 (w4 vc (pv 5) (pv 3))))))) w9)
   (qy (xz (i:=7) sc.nd rfl (by walk_at "loc") (w4 vc (pv 4) qr))
   (qy (xz (i:=8) sc.nd rfl (by walk_at "loc") (w4 vc (w4 xn (w4 xn (w4 x9 (pv 7) qr) (w4 x9 (pv 2) qr)) qr) qr))
   (qy (xz (i:=9) sc.nd rfl (by walk_at "loc") (w4 vc (w4 xn (w4 xn (w4 x9 (pv 8) (pv 8)) (w4 x9 (pv 7) qr)) (w4 x9 (pv 2) qr)) qr))
   (wj (w8 (w4 vc (w4 vc (w4 xn (w4 xn (w4 x9 (pv 9) (pv 9)) (w4 x9 (pv 8) qr)) (w4 x9 (pv 2) qr)) qr) (pv 3))))))))),?_⟩
 refine exI rfl (exI rfl ?_)
 refine ⟨a,ns,i,rfl,hS,h0,λc hc=>?_⟩
 have fin:∀v,v=qz9 c t%m→Q (.int v) H:=λv hv=>by
  refine k v (by rw [hv,qkz,hc]) ?_ ?_
  ·rw [hv];exact br _ (by lia)
  ·rw [hv];exact bi _ m0
 refine exI rfl (exI rfl (w6 rfl rfl ⟨⟨by decide,by decide,by decide⟩,w6 rfl rfl (exI rfl ?_)⟩))
 refine jv (λq1=>?_) (λq1=>?_)
 ·have q1':10 ^ 18≤y0 c:=q1
  refine exI rfl (exI rfl ?_)
  refine exI rfl ⟨t,rfl,(by lia),(by lia),yz (λj σ H1=>H1=H∧∃z,σ=[some (.ref a),some (.int i),some (.int t),some (.int m),some (.int c),some (.int (divs (y0 c) j)),z,none,none,none]) ⟨rfl,_,rfl⟩ ?_ ?_⟩
  ·rintro j σ H1 hj ⟨rfl,z,rfl⟩
   exact exI rfl (w6 rfl rfl ⟨(by walk_at "div"),rfl,_,rfl⟩)
  ·rintro σ H1 ⟨rfl,z,rfl⟩
   refine exI rfl (w6 rfl rfl (exI rfl ?_))
   refine jv (λq2=>?_) (λq2=>?_)
   ·refine exI rfl (w6 rfl rfl ⟨(by walk_at "pos"),exI rfl (exI rfl (w6 rfl rfl ⟨(by walk_at "pos"),?_⟩))⟩)
    exact fin _ (by rw [wwr q1' q2])
   ·refine exI rfl (exI rfl (w6 rfl rfl ⟨(by walk_at "pos"),?_⟩))
    exact fin _ (by rw [qup q1' q2])
 ·have q1':¬ 10 ^ 18≤y0 c:=q1
  have l0:=br c (show (1000003:Int)≠0 by decide)
  have l1:=bi c (show (0:Int)<1000003 by decide)
  refine exI rfl (w6 rfl rfl ⟨(by walk_at "pos"),exI rfl (w6 rfl rfl ⟨(by walk_at "mul"),exI rfl (w6 rfl rfl ⟨(by walk_at "mul"),w6 rfl rfl (w6 rfl rfl (w6 rfl rfl ⟨(by walk_at "pos"),?_⟩))⟩)⟩)⟩)
  have o0:0≤qzv c t:=br _ (by decide)
  have o1:qzv c t<999983:=bi _ (by decide)
  refine ⟨V.int (qzv c t),rfl,V.int (qzv c t),rfl,w6 rfl rfl ⟨(by walk_at "mul"),exI rfl (w6 rfl rfl ⟨(by walk_at "mul"),w6 rfl rfl (exI rfl (w6 rfl rfl ⟨(by walk_at "mul"),w6 rfl rfl (w6 rfl rfl ⟨(by walk_at "pos"),?_⟩)⟩))⟩)⟩⟩
  have w0:0≤qky c t:=br _ (by decide)
  have w1:qky c t<1000033:=bi _ (by decide)
  refine ⟨V.int (qky c t),rfl,V.int (qky c t),rfl,w6 rfl rfl ⟨(by walk_at "mul"),V.int (qzv c t),rfl,w6 rfl rfl ⟨(by walk_at "mul"),w6 rfl rfl (exI rfl (w6 rfl rfl ⟨(by walk_at "mul"),w6 rfl rfl (w6 rfl rfl ⟨(by walk_at "pos"),exI rfl (w6 rfl rfl ⟨(by walk_at "pos"),?_⟩)⟩)⟩))⟩⟩⟩
  exact fin _ (by rw [wxv q1'])
def Within (n f:Int)(m:Option Int):Prop:=f≤n∧∀b,m=some b→n≤b
def Yx (C:Aj):Sp:=λvs H Q E=>∃(n f:Int) (m:V) (o:Option Int),vs=[.int n,.int f,m]∧(m=.non∧o=none∨∃b,m=.int b∧o=some b)∧(Within n f o→Q .non H)∧(¬ Within n f o→E (.ref C) none H)
theorem wzq {f:Aj}{fd:Ad}(F:FunD K "check_count" s_check_count f fd)(T:Txt K mg qf wz qk q9 qg wv wu wq wm wy qd qz qm qw qq):FnOk P w K mg base (CXE P w) 1 f fd ["number","fewest","most"] (Yx qg):=by
 have sc:=Yr
 refine F.okX sc (λvs H Q E h=>by obtain ⟨n,f,m,o,rfl,_⟩:=h;rfl) (λcdv A outer s H vs Q E hr h=>?_)
 obtain ⟨n,fe,m,o,rfl,hm,k,x⟩:=h
 refine ⟨_,(wj (zq (PW.pt (u8 (xq yt (pv 0) (pv 1) (xk _)) (j7 (PW.pt (qjw (xq wvb (pv 2) qk6 (xk _)) (quw (xq Wd (pv 0) (pv 2) (xk _)))))))) (wj (vk rfl T.x_BadCount zg rfl T.g_BadCount (xx xt qu))) w9)),?_⟩
 refine exI rfl (exI rfl (w6 rfl rfl (exI rfl ?_)))
 refine jv (λq1=>?_) (λq1=>?_)
 ·refine ym ?_
  exact ⟨sz1,x (λz=>by have:=z.1;lia)⟩
 ·rcases hm with ⟨rfl,rfl⟩|⟨b,rfl,rfl⟩
  ·refine exI rfl ⟨rfl,_,rfl,?_⟩
   refine ju ?_
   exact k ⟨by lia,λb e=>nomatch e⟩
  ·refine exI rfl ⟨rfl,_,rfl,?_⟩
   refine ym ?_
   refine exI rfl (exI rfl (w6 rfl rfl (exI rfl ?_)))
   refine jv (λq2=>?_) (λq2=>?_)
   ·exact ⟨sz1,x (λz=>by have:=z.2 b rfl;lia)⟩
   ·exact k ⟨by lia,λb' e=>by cases e;lia⟩
def x4 (ns:List Int):Prop:=2≤ns.length∧ns.length≤25∧∀h∈ns,0≤h∧h≤(ns.length:Int)-1
def Jf (K:Aa):Sp:=λvs H Q _=>∃(p:Aj) (ns:List Int),vs=[.ref p]∧SqL K H p (ns.map V.int)∧(x4 ns→Q (.bl true) H)∧(¬ x4 ns→Q (.bl false) H)
theorem qjx {f:Aj}{fd:Ad}(F:Fun K "is_line" "is_line" s_is_line f fd)(T:Txt K mg qf wz qk q9 qg wv wu wq wm wy qd qz qm qw qq):FnOk P w K mg base (CXE P w) 1 f fd ["heights"] (Jf K):=by
 have sc:=qyq
 refine F.okX sc (λvs H Q E h=>by obtain ⟨p,ns,rfl,_⟩:=h;rfl) (λcdv A outer s H vs Q E hr h=>?_)
 obtain ⟨p,ns,rfl,hS,k1,k2⟩:=h
 have hlen:(ns.map V.int).length=ns.length:=ac _
 obtain ⟨tw,g_WIDEST⟩:=T.g_WIDEST
 refine ⟨_,(qy (xz (i:=1) sc.nd rfl (by walk_at "loc") (w4 vz (xu x8 rfl T.len_ aV (wx (pv 0) qu)) qr))
   (qy (zq (PW.pt (u8 (xq yt (pv 1) qr (xk _)) (j7 (xq Wd (pv 1) (yp (v:=V.int 24) rfl g_WIDEST ⟨_,rfl⟩) (xk _))))) (wj (w8 j3)) w9)
   (wj (w8 (qyy (Yz qy2 (xu (qqc rfl) rfl T.min_ dD (wx (pv 0) qu)) qr (xk _)) (qjt (Yz op_le (xu (qq7 rfl) rfl T.max_ PyProof.Rows.boot_max (wx (pv 0) qu)) (pv 1) (xk _)))))))),?_⟩
 refine exI rfl ⟨_,_,rfl,.inl hS,w6 rfl rfl ?_⟩
 refine exI rfl (w6 rfl rfl (exI rfl ?_))
 rw [hlen]
 refine jv (λq1=>?_) (λq1=>?_)
 ·refine ym ?_
  exact k2 (λz=>by have:=z.1;lia)
 ·refine exI rfl (w6 rfl rfl (exI rfl ?_))
  refine jv (λq2=>?_) (λq2=>?_)
  ·exact k2 (λz=>by have:=z.2.1;lia)
  ·refine exI rfl ⟨p,ns,rfl,hS,(by lia),λm hm hle=>(w6 rfl rfl (exI rfl ?_))⟩
   refine jv (λq3=>?_) (λq3=>?_)
   ·refine exI rfl ⟨p,ns,rfl,hS,(by lia),λm2 hm2 hle2=>(exI rfl (w6 rfl rfl ?_))⟩
    show Q (.bl (decide (m2≤(ns.length:Int)-1))) H
    by_cases q4:m2≤(ns.length:Int)-1
    ·rw [bD q4]
     exact k1 ⟨by lia,by lia,λh hh=>by have:=hle h hh;have:=hle2 h hh;lia⟩
    ·rw [bp q4]
     exact k2 (λz=>q4 (z.2.2 m2 hm2).2)
   ·exact k2 (λz=>q3 (z.2.2 m hm).1)
def RoadAt (C:Aj)(H:Hp)(r:Aj)(ns:List Int):Prop:=∃dx q,H r=some (.ins C dx [("heights",.ref q)])∧H q=some (.lst (ns.map V.int))
theorem RoadAt.same {C:Aj}{H H':Hp}{r:Aj}{ns:List Int}(h:RoadAt C H r ns)(s:Same H H'):RoadAt C H' r ns:=by
 obtain ⟨dx,q,h1,h2⟩:=h
 exact ⟨dx,q,s _ _ h1,s _ _ h2⟩
theorem yg {q:Aj}:([("heights",V.ref q)]:List (Str×V)).lookup ("heights" : Str)=some (.ref q):=by
 rw [aD]
 simp
theorem kj {q:Aj}{m:Str}(h:¬ m = "heights"):([("heights",V.ref q)]:List (Str×V)).lookup m=none:=by
 rw [aD]
 have:(m==("heights" : Str))=false:=aK.mpr h
 rw [this]
 rfl
def qxm (K:Aa)(CB C:Aj):Sp:=λvs H Q E=>∃(r dx p:Aj) (ns:List Int),vs=[.ref r,.ref p]∧H r=some (.ins C dx [])∧SqL K H p (ns.map V.int) ∧
 (x4 ns→∀H' q,H q=none→(∀b o,H b=some o→b≠r→H' b=some o)→H' r=some (.ins C dx [("heights",.ref q)])→H' q=some (.lst (ns.map V.int))→Q .non H')∧(¬ x4 ns→E (.ref CB) none H)
theorem wk3 {f:Aj}{fd:Ad}(F:Fun K "__init__" "Road.__init__" s_Road___init__ f fd)(T:Txt K mg qf wz qk q9 qg wv wu wq wm wy qd qz qm qw qq)(c_is_line:Cal P w K mg base "is_line" 1 (Jf K)):FnOk P w K mg base (CXE P w) 2 f fd ["self","heights"] (qxm K wz qm):=by
 have sc:=Wr
 refine F.okX sc (λvs H Q E h=>by obtain ⟨r,dx,p,ns,rfl,_⟩:=h;rfl) (λcdv A outer s H vs Q E hr h=>?_)
 obtain ⟨r,dx,p,ns,rfl,hr0,hS,k,x⟩:=h
 refine ⟨_,(qy (zq (vf (vh (wp c_is_line (hr.mono (by decide)) rfl qh (wx (pv 1) qu)))) (wj (vk rfl T.x_BadLine zg rfl T.g_BadLine (xx xt qu))) w9)
   (wj (yq (pv 0) (kf yn rfl T.list_ cz (wx (pv 1) qu)) rfl))),?_⟩
 refine ⟨_,rfl,p,ns,rfl,hS,λok=>(exI rfl ?_),λbad=>(exI rfl ?_)⟩
 ·refine ju ?_
  refine exI rfl ⟨_,_,rfl,.inl hS,λq nq=>?_⟩
  have hr1:upd H q (.lst (ns.map V.int)) r=some (.ins qm dx []):=by rw [wg (qj hr0 nq)];exact hr0
  refine exI rfl ⟨r,qm,dx,[],rfl,hr1,T.cl,T.na,(by show 0<1000;decide),?_⟩
  refine k ok _ q nq (λb o e n=>?_) q8 ?_
  ·rw [wg n,wg (qj e nq)]
   exact e
  ·rw [wg (qj hr0 nq).symm,q8]
 ·refine ym ?_
  exact ⟨sz1,x bad⟩
def Wh (C:Aj):Sp:=λvs H Q _=>∃(r:Aj) (ns:List Int),vs=[.ref r]∧RoadAt C H r ns∧Q (.int ((ns.length:Int)-1)) H
theorem ww7 {f:Aj}{fd:Ad}(F:Fun K "width" "Road.width" s_Road_width f fd)(T:Txt K mg qf wz qk q9 qg wv wu wq wm wy qd qz qm qw qq):FnOk P w K mg base (CXE P w) 1 f fd ["self"] (Wh qm):=by
 have sc:=qwy
 refine F.okX sc (λvs H Q E h=>by obtain ⟨r,ns,rfl,_⟩:=h;rfl) (λcdv A outer s H vs Q E hr h=>?_)
 obtain ⟨r,ns,rfl,⟨dx,q,h1,h2⟩,k⟩:=h
 refine ⟨_,(wj (w8 (w4 vz (xu x8 rfl T.len_ aV (xf (zu (pv 0) rfl) qu)) qr))),?_⟩
 refine exI rfl ⟨r,qm,dx,_,_,rfl,h1,T.cl,T.na,yg,q,exI rfl ⟨.inl (SqL.of h2),w6 rfl rfl ?_⟩⟩
 rw [ac]
 exact k
def InW (ns:List Int)(wd:Int):Prop:=(ns.length:Int)=wd+1∧∀h∈ns,0≤h∧h≤wd
def Z3 (K:Aa):Sp:=λvs H Q _=>∃(a:Aj) (ns:List Int) (i wd:Int),vs=[.ref a,.int i,.int wd]∧SqL K H a (ns.map V.int)∧0≤i∧1≤wd∧wd≤24 ∧
 ∀p hs,H p=none→InW hs wd→Q (.ref p) (upd H p (.lst (hs.map V.int)))
theorem wzc {f:Aj}{fd:Ad}(F:Fun K "_law_climb" "_law_climb" s__law_climb f fd)(T:Txt K mg qf wz qk q9 qg wv wu wq wm wy qd qz qm qw qq)(c__law_pick:Cal P w K mg base "_law_pick" 2 (uk K)):FnOk P w K mg base (CXE P w) 3 f fd ["_law_script","_law_at","_law_wide"] (Z3 K):=by
 have sc:=qwu
 refine F.okX sc (λvs H Q E h=>by obtain ⟨a,ns,i,wd,rfl,_⟩:=h;rfl) (λcdv A outer s H vs Q E hr h=>?_)
 obtain ⟨a,ns,i,wd,rfl,hS,h0,w1,w2,k⟩:=h
 refine ⟨_,(qy (xz (i:=3) sc.nd rfl (by walk_at "loc") (k6 (js (wp c__law_pick (hr.mono (by decide)) rfl qh (wx (pv 0) (wx (pv 1) (xx qr (zp (w4 xn (pv 2) qr) qu))))) qu)))
   (qy (yw aY rfl (zr rfl T.range_ (wx (pv 2) qu)) (xj (i:=4) sc.nd rfl (by walk_at "loc")) (wj (zw (qy5 bN ck cm jn (pv 3) (js (xu (wqz rfl) rfl T.max_ PyProof.Rows.boot_max (xx qr (js (xu (qxv rfl) rfl T.min_ dD (wx (pv 2) (zp (w4 vz (w4 xn (xy xv (pv 3) (pe_un un_neg qr) (λ_ _=>rfl)) (w4 x9 qr (wp c__law_pick (hr.mono (by decide)) rfl qh (wx (pv 0) (wx (pv 1) (zp (w4 xn qr (pv 4)) (xx qr qu))))))) qr) qu))) qu))) qu)))))
   (wj (w8 (pv 3))))),?_⟩
 refine exI rfl (exI rfl (exI rfl (w6 rfl rfl ⟨a,ns,_,_,_,rfl,hS,h0,(by lia),(by lia),(by lia),λr1 _ l1 u1=>⟨sz1,λp np=>?_⟩⟩)))
 refine ⟨_,rfl,wd,rfl,(by lia),(by lia),yz (λj σ H1=>∃(ys:List Int) (l:Int) (z:Option V),ys.length=j∧(∀h∈ys++[l],0≤h∧h≤wd)∧H1=upd H p (.lst ((ys++[l]).map V.int))∧σ=[some (.ref a),some (.int i),some (.int wd),some (.ref p),z])
  ⟨[],r1,none,rfl,(λh hh=>by have e:=aq.mp hh;subst e;lia),rfl,rfl⟩ ?_ ?_⟩
 ·rintro j σ H1 hj ⟨ys,l,z,hy,hb,rfl,rfl⟩
  have hp:upd H p (.lst ((ys++[l]).map V.int)) p=some (.lst ((ys++[l]).map V.int)):=q8
  have hS1:SqL K (upd H p (.lst ((ys++[l]).map V.int))) a (ns.map V.int):=Same.sql (Same.upd np) hS
  have hlast:atI ((ys++[l]).map V.int) (-1)=some (V.int l):=by
   rw [aT]
   exact wx4 _ _
  have hl:=hb l (by simp)
  refine exI rfl ⟨.inl ⟨rfl,_,SqL.of hp⟩,exI rfl (exI rfl (exI rfl (exX rfl rfl (SqL.of hp) hlast (exI rfl (exI rfl (exI rfl (w6 rfl rfl ⟨a,ns,_,_,_,rfl,hS1,h0,(by lia),(by lia),(by lia),λr2 _ l2 u2=>?_⟩)))))))⟩
  refine w6 rfl rfl ⟨(by walk_at "mul"),w6 rfl rfl (w6 rfl rfl ⟨_,_,rfl,_,_,rfl,_,_,_,rfl,rfl,hp,?_,?_⟩)⟩
  ·rw [ac,aG,hy]
   have:(1000000:Nat)<sizeLine:=by decide
   simp only [aX,cX]
   lia
  ·refine ⟨ys++[l],(if (if l+2*r2-1<wd then l+2*r2-1 else wd)>0 then (if l+2*r2-1<wd then l+2*r2-1 else wd) else 0),_,by rw [aG,hy];rfl,λh hh=>?_,?_,rfl⟩
   ·rcases bg.mp hh with hh|hh
    ·exact hb h hh
    ·have e:=aq.mp hh
     subst e
     by_cases g1:l+2*r2-1<wd
     ·rw [ak g1]
      by_cases g2:l+2*r2-1>0
      ·rw [ak g2];lia
      ·rw [ag g2];lia
     ·rw [ag g1,ak (show wd>0 by lia)];lia
   ·rw [ud,aT (l₁:=ys++[l])]
    rfl
 ·rintro σ H1 ⟨ys,l,z,hy,hb,rfl,rfl⟩
  refine exI rfl (k p _ np ⟨?_,hb⟩)
  rw [aG,hy]
  simp only [aX,cX]
  lia
def Wn (K:Aa):Sp:=λvs H Q _=>∃(a:Aj) (ns:List Int) (i m:Int),vs=[.ref a,.int i,.int m]∧SqL K H a (ns.map V.int)∧0≤i∧1≤m∧m≤24 ∧
 ∀p hs wd,H p=none→1≤wd→wd≤m→InW hs wd→Q (.ref p) (upd H p (.lst (hs.map V.int)))
theorem wqx {wd:Int}{n:Nat}(g:Nat→Int)(h1:(n:Int)=wd+1)(h2:∀i,i<n→0≤g i∧g i≤wd):InW ((List.range n).map g) wd:=by
 refine ⟨by rw [ac,aJ];exact h1,λh hh=>?_⟩
 obtain ⟨i,hi,rfl⟩:=aw.mp hh
 exact h2 i (bb.mp hi)
theorem qqr (n:Nat)(g:Nat→Int):(List.range n).map (λi=>V.int (g i))=((List.range n).map g).map V.int:=by
 rw [bS]
 rfl
theorem qj7 {f:Aj}{fd:Ad}(F:Fun K "_law_heights" "_law_heights" s__law_heights f fd)(T:Txt K mg qf wz qk q9 qg wv wu wq wm wy qd qz qm qw qq)(c__law_pick:Cal P w K mg base "_law_pick" 2 (uk K))(c__law_climb:Cal P w K mg base "_law_climb" 3 (Z3 K)) :
  FnOk P w K mg base (CXE P w) 4 f fd ["_law_script","_law_at","_law_most"] (Wn K):=by
 have sc:=Zr
 refine F.okX sc (λvs H Q E h=>by obtain ⟨a,ns,i,m,rfl,_⟩:=h;rfl) (λcdv A outer s H vs Q E hr h=>?_)
 obtain ⟨a,ns,i,m,rfl,hS,h0,m1,m2,k⟩:=h
 refine ⟨_,(qy (xz (i:=3) sc.nd rfl (by walk_at "loc") (w4 xn qr (wp c__law_pick (hr.mono (by decide)) rfl qh (wx (pv 0) (wx (pv 1) (xx qr (wx (pv 2) qu)))))))
   (qy (xz (i:=4) sc.nd rfl (by walk_at "loc") (wp c__law_pick (hr.mono (by decide)) rfl qh (wx (pv 0) (wx (pv 1) (xx qr (xx qr qu))))))
   (qy (zq (xq k9 (pv 4) qr (xk _)) (wj (w8 (uf (M:=[3]) rfl rfl (by walk_at "cap") (by walk_at "has") (by walk_at "cix") rfl (by decide +kernel) rfl (show List.Nodup (["_law_k","_law_wide"]:List Str) by decide +kernel) (zr rfl T.range_ (zp (w4 xn (pv 3) qr) qu)) (λ_ _ _ _ _=>(w4 x9 (pv 1) (w4 vc (pv 0) qr)))))) w9)
   (qy (zq (xq k9 (pv 4) qr (xk _)) (wj (w8 (uf (M:=[]) rfl rfl (by walk_at "cap") (by walk_at "has") (by walk_at "cix") rfl (by decide +kernel) rfl (show List.Nodup (["_law_k"]:List Str) by decide +kernel) (zr rfl T.range_ (zp (w4 xn (pv 3) qr) qu)) (λ_ _ _ _ _=>(pv 0))))) w9)
   (qy (zq (xq k9 (pv 4) qr (xk _)) (wj (w8 (uf (M:=[3]) rfl rfl (by walk_at "cap") (by walk_at "has") (by walk_at "cix") rfl (by decide +kernel) rfl (show List.Nodup (["_law_k","_law_wide"]:List Str) by decide +kernel) (zr rfl T.range_ (zp (w4 xn (pv 3) qr) qu)) (λ_ _ _ _ _=>(w4 vz (pv 1) (pv 0)))))) w9)
   (qy (zq (xq k9 (pv 4) qr (xk _)) (wj (w8 (uf (M:=[3]) rfl rfl (by walk_at "cap") (by walk_at "has") (by walk_at "cix") rfl (by decide +kernel) rfl (show List.Nodup (["_law_k","_law_wide"]:List Str) by decide +kernel) (zr rfl T.range_ (zp (w4 xn (pv 3) qr) qu)) (λ_ _ _ _ _=>(w4 vc (w4 xn (w4 x9 qr (pv 0)) qr) (w4 xn (pv 1) qr)))))) w9)
   (qy (zq (PW.pt (u8 (xq k9 (pv 4) qr (xk _)) (j7 (xq k9 (pv 4) qr (xk _))))) (wj (w8 (wp c__law_climb (hr.mono (by decide)) rfl qh (wx (pv 0) (wx (pv 1) (wx (pv 3) qu)))))) w9)
   (wj (w8 (uf (M:=[0,1,3]) rfl rfl (by walk_at "cap") (by walk_at "has") (by walk_at "cix") rfl (by decide +kernel) rfl (show List.Nodup (["_law_k","_law_script","_law_at","_law_wide"]:List Str) by decide +kernel) (zr rfl T.range_ (zp (w4 xn (pv 3) qr) qu)) (λ_ _ _ _ _=>(wp c__law_pick (hr.mono (by decide)) rfl qzh (wx (pv 1) (wx (pv 2) (zp (w4 xn qr (pv 0)) (zp (w4 xn (pv 3) qr) qu)))))))))))))))),?_⟩
 refine exI rfl (exI rfl (exI rfl ⟨a,ns,_,_,_,rfl,hS,h0,(by lia),(by lia),(by lia),λr1 _ l1 u1=>?_⟩))
 refine w6 rfl rfl (exI rfl (exI rfl ⟨a,ns,_,_,_,rfl,hS,h0,(by lia),(by lia),(by lia),λkd _ l2 u2=>?_⟩))
 have hn:((1+r1+1).toNat:Int)=1+r1+1:=by lia
 have hn2:(1+r1+1).toNat≤1000000:=by lia
 have fin:∀(g:Nat→Int) (p:Aj),(∀j,j<(1+r1+1).toNat→0≤g j∧g j≤1+r1)→H p=none→Q (.ref p) (upd H p (.lst ((List.range (1+r1+1).toNat).map λj=>V.int (g j)))):=λg p hg np=>by
  rw [qqr]
  exact k p _ (1+r1) np (by lia) (by lia) (wqx g hn hg)
 refine exI rfl ⟨rfl,_,rfl,jk (λq1=>?_) (λq1=>?_)⟩
 ·refine exI rfl (w6 rfl rfl ⟨1+r1+1,rfl,(by lia),(by lia),jt (λj=>V.int ((1+r1)*(((0:Int)+j)%2))) hn2 (λj H' R hj hs hR=>?_) λp np=>fin _ p (λj hj=>?_) np⟩)
  ·exact exI rfl (exI rfl (w6 rfl rfl ⟨(by walk_at "pos"),w6 rfl rfl ⟨(by walk_at "mul"),hR⟩⟩))
  ·have a1:=br ((0:Int)+j) (show (2:Int)≠0 by decide)
   have a2:=bi ((0:Int)+j) (show (0:Int)<2 by decide)
   rcases (by lia:((0:Int)+j)%2=0∨((0:Int)+j)%2=1) with e|e <;> rw [e] <;> lia
 ·refine exI rfl ⟨rfl,_,rfl,jk (λq2=>?_) (λq2=>?_)⟩
  ·refine exI rfl (w6 rfl rfl ⟨1+r1+1,rfl,(by lia),(by lia),jt (λj=>V.int ((0:Int)+j)) hn2 (λj H' R hj hs hR=>?_) λp np=>fin _ p (λj hj=>by lia) np⟩)
   exact exI rfl hR
  ·refine exI rfl ⟨rfl,_,rfl,jk (λq3=>?_) (λq3=>?_)⟩
   ·refine exI rfl (w6 rfl rfl ⟨1+r1+1,rfl,(by lia),(by lia),jt (λj=>V.int (1+r1-((0:Int)+j))) hn2 (λj H' R hj hs hR=>?_) λp np=>fin _ p (λj hj=>by lia) np⟩)
    exact exI rfl (exI rfl (w6 rfl rfl hR))
   ·refine exI rfl ⟨rfl,_,rfl,jk (λq4=>?_) (λq4=>?_)⟩
    ·refine exI rfl (w6 rfl rfl ⟨1+r1+1,rfl,(by lia),(by lia),jt (λj=>V.int ((2*((0:Int)+j)+1)%(1+r1+1))) hn2 (λj H' R hj hs hR=>?_) λp np=>fin _ p (λj hj=>?_) np⟩)
     ·exact exI rfl (w6 rfl rfl ⟨(by walk_at "mul"),w6 rfl rfl (exI rfl (w6 rfl rfl (w6 rfl rfl ⟨(by walk_at "pos"),hR⟩)))⟩)
     ·have a1:=br (2*((0:Int)+j)+1) (show 1+r1+1≠0 by lia)
      have a2:=bi (2*((0:Int)+j)+1) (show 0<1+r1+1 by lia)
      lia
    ·have last:tRet (wwg [0,1,3] (iRng1 (vu (tOp (rI0 λi j=>.int (i+j)) (Q3 3) (tC (.int 1))) j8)) (Jy (uk K) (λ_=>E0) (vu (Q3 1) (vu (Q3 2) (vu (tOp (rI0 λi j=>.int (i+j)) (tC (.int 3)) (Q3 0)) (vu (tOp (rI0 λi j=>.int (i+j)) (Q3 3) (tC (.int 1))) j8))))))
       { nx:=λ_ H'=>Q .non H',rt:=Q } [some (.ref a),some (.int i),some (.int m),some (.int (1+r1)),some (.int kd)] H:=by
      refine exI rfl (w6 rfl rfl ⟨1+r1+1,rfl,(by lia),(by lia),jt (λj=>V.int (qkz ns i (3+((0:Int)+j)) (1+r1+1))) hn2 (λj H' R hj hs hR=>?_) λp np=>fin _ p (λj hj=>?_) np⟩)
      ·refine exI rfl (exI rfl (exI rfl (w6 rfl rfl (exI rfl (w6 rfl rfl ⟨a,ns,_,_,_,rfl,Same.sql hs hS,h0,(by lia),(by lia),(by lia),λr e _ _=>?_⟩)))))
       rw [e]
       exact hR
      ·have a1:=ww0 ns i (3+((0:Int)+j)) (1+r1+1) (by lia)
       have a2:=wz5 ns i (3+((0:Int)+j)) (1+r1+1) (by lia)
       lia
     have climb:tRet (Jy (Z3 K) (λ_=>E) (vu (Q3 0) (vu (Q3 1) (vu (Q3 3) j8)))) { nx:=λ_ H'=>Q .non H',rt:=Q } [some (.ref a),some (.int i),some (.int m),some (.int (1+r1)),some (.int kd)] H :=
      (exI rfl (exI rfl (exI rfl ⟨a,ns,i,1+r1,rfl,hS,h0,(by lia),(by lia),λp hs np hw=>k p hs (1+r1) np (by lia) (by lia) hw⟩)))
     refine exI rfl ⟨rfl,_,rfl,jk (λq5=>ym climb) (λq5=>?_)⟩
     exact exI rfl ⟨rfl,_,rfl,jk (λq6=>climb) (λq6=>last)⟩
def qw4:Sp:=λvs H Q _=>∃x y:Int,vs=[.int x,.int y]∧0≤x∧0≤y∧Q (.int (Zs x y)) H
theorem qk1 {tb:TS}{c:TT}{D:Ends}{H:Hp}{x y:Int}(hx:0≤x)(hy:0≤y)(hc:c=tTest (tOp (rI0 λi j=>.bl (decide (j<i))) (Q3 1) (tC (.int 0))))(hb:tb=tPar 0 1 (vu (Q3 1) (vu (tOp (rI (λ_ j=>0<j) λi j=>.int (i%j)) (Q3 0) (Q3 1)) j8)))
  (hD:D.nx [some (.int (Zs x y)),some (.int 0)] H):qyj c tb D [some (.int x),some (.int y)] H:=by
 subst hc hb
 refine Yh (λσ H1=>H1=H∧∃u v:Int,σ=[some (.int u),some (.int v)]∧0≤u∧0≤v∧Zs u v=Zs x y) (λσ _=>match σ with|[_,some (.int v)]=>v.toNat|_=>0) ⟨rfl,x,y,rfl,hx,hy,rfl⟩ ?_ λσ H Q Q' h ⟨v,e,i,j,e1,e2,k,e3,q⟩=>⟨v,e,i,j,e1,e2,k,e3,h _ _ q⟩
 rintro σ H1 ⟨rfl,u,v,rfl,hu,hv,e⟩
 refine exI rfl (w6 rfl rfl (exI rfl ?_))
 refine jv (λq=>?_) (λq=>?_)
 ·have h1:=br u (show v≠0 by lia)
  have h2:=bi u q
  refine exI rfl (exI rfl (exI rfl (w6 rfl rfl ⟨q,_,_,rfl,⟨rfl,v,u%v,rfl,hv,h1,?_⟩,?_⟩)))
  ·rw [wqh hu q,e]
  ·show (u%v).toNat<v.toNat
   lia
 ·have z:v=0:=by lia
  subst z
  rw [qu6 hu] at e
  subst e
  exact hD
theorem ok_gcd {f:Aj}{fd:Ad}(F:Fun K "common_divisor" "common_divisor" s_common_divisor f fd)(T:Txt K mg qf wz qk q9 qg wv wu wq wm wy qd qz qm qw qq):FnOk P w K mg base (CXE P w) 1 f fd ["one","other"] qw4:=by
 have sc:=Qm
 refine F.okX sc (λvs H Q E h=>by obtain ⟨x,y,rfl,_⟩:=h;rfl) (λcdv A outer s H vs Q E hr h=>?_)
 obtain ⟨x,y,rfl,hx,hy,k⟩:=h
 refine ⟨_,(qy (Q2 aY (xq Wd (pv 1) qr (xk _)) (wj (wzz (i:=0) (j:=1) rfl sc.nd rfl rfl (by decide) rfl rfl (wx (pv 1) (zp (w4 vc (pv 0) (pv 1)) qu)) rfl)))
   (wj (w8 (pv 0)))),?_⟩
 exact qk1 hx hy rfl rfl (exI rfl k)
theorem www {f:Aj}{fd:Ad}(F:Fun K "_law_common" "_law_common" s__law_common f fd)(T:Txt K mg qf wz qk q9 qg wv wu wq wm wy qd qz qm qw qq):FnOk P w K mg base (CXE P w) 1 f fd ["_law_one","_law_other"] qw4:=by
 have sc:=Jp
 refine F.okX sc (λvs H Q E h=>by obtain ⟨x,y,rfl,_⟩:=h;rfl) (λcdv A outer s H vs Q E hr h=>?_)
 obtain ⟨x,y,rfl,hx,hy,k⟩:=h
 refine ⟨_,(qy (Q2 aY (xq Wd (pv 1) qr (xk _)) (wj (wzz (i:=0) (j:=1) rfl sc.nd rfl rfl (by decide) rfl rfl (wx (pv 1) (zp (w4 vc (pv 0) (pv 1)) qu)) rfl)))
   (wj (w8 (pv 0)))),?_⟩
 exact qk1 hx hy rfl rfl (exI rfl k)
def ptV (p:Int×Int):List V:=[.int p.1,.int p.2]
def yx (C:Aj):Sp:=λvs H Q E=>∃t b:Int,vs=[.int t,.int b]∧(1≤b→Sm 9000 b∧∀p,H p=none→Q (.ref p) (upd H p (.tup (ptV (wc t b)))))∧(b<1→E (.ref C) none H)
theorem wqw {f:Aj}{fd:Ad}(F:Fun K "lowest" "lowest" s_lowest f fd)(T:Txt K mg qf wz qk q9 qg wv wu wq wm wy qd qz qm qw qq)(c_check_bottom:Cal P w K mg base "check_bottom" 1 (qz7 qk))(c_common_divisor:Cal P w K mg base "common_divisor" 1 qw4) :
  FnOk P w K mg base (CXE P w) 2 f fd ["top","bottom"] (yx qk):=by
 have sc:=wq4
 refine F.okX sc (λvs H Q E h=>by obtain ⟨t,b,rfl,_⟩:=h;rfl) (λcdv A outer s H vs Q E hr h=>?_)
 obtain ⟨t,b,rfl,k,x⟩:=h
 refine ⟨_,(qy (zw (wp c_check_bottom (hr.mono (by decide)) rfl qh (wx (pv 1) qu)))
   (qy (xz (i:=2) sc.nd rfl (by walk_at "loc") (wp c_common_divisor (hr.mono (by decide)) rfl qh (js (xu Q7 rfl T.abs_ Qr (wx (pv 0) qu)) (wx (pv 1) qu))))
   (wj (w8 (vg (zp (w4 vm (pv 0) (pv 2)) (zp (w4 vm (pv 1) (pv 2)) qu))))))),?_⟩
 refine ⟨_,rfl,b,rfl,λg1=>?_,λg1=>x g1⟩
 obtain ⟨sb,k⟩:=k g1
 have hg:=jm (t:=t) g1
 have hs:Sm 9000 (gOf t b):=sb.of_le (by have:=wwn (t:=t) g1;lia)
 refine exI rfl (exI rfl (exI rfl ⟨y0 t,b,rfl,qy8 t,(by lia),?_⟩))
 refine exI rfl ⟨V.int (gOf t b),rfl,w6 rfl rfl ⟨⟨by lia,hs⟩,exI rfl ⟨V.int (gOf t b),rfl,w6 rfl rfl ⟨⟨by lia,hs⟩,sz2,λp n=>?_⟩⟩⟩⟩
 exact k p n
def qyd:Sp:=λvs H Q _=>∃t b:Int,vs=[.int t,.int b]∧1≤b∧Sm 9000 b∧∀p,H p=none→Q (.ref p) (upd H p (.tup (ptV (wc t b))))
theorem ok_low {f:Aj}{fd:Ad}(F:Fun K "_law_low" "_law_low" s__law_low f fd)(T:Txt K mg qf wz qk q9 qg wv wu wq wm wy qd qz qm qw qq)(c__law_common:Cal P w K mg base "_law_common" 1 qw4):FnOk P w K mg base (CXE P w) 2 f fd ["_law_top","_law_bottom"] qyd:=by
 have sc:=qkn
 refine F.okX sc (λvs H Q E h=>by obtain ⟨t,b,rfl,_⟩:=h;rfl) (λcdv A outer s H vs Q E hr h=>?_)
 obtain ⟨t,b,rfl,g1,sb,k⟩:=h
 have hg:=jm (t:=t) g1
 have hs:Sm 9000 (gOf t b):=sb.of_le (by have:=wwn (t:=t) g1;lia)
 refine ⟨_,(qy (xz (i:=2) sc.nd rfl (by walk_at "loc") (wp c__law_common (hr.mono (by decide)) rfl qh (js (xu Q7 rfl T.abs_ Qr (wx (pv 0) qu)) (wx (pv 1) qu))))
   (wj (w8 (vg (zp (w4 vm (pv 0) (pv 2)) (zp (w4 vm (pv 1) (pv 2)) qu)))))),?_⟩
 refine exI rfl (exI rfl (exI rfl ⟨y0 t,b,rfl,qy8 t,(by lia),?_⟩))
 refine exI rfl ⟨V.int (gOf t b),rfl,w6 rfl rfl ⟨⟨by lia,hs⟩,exI rfl ⟨V.int (gOf t b),rfl,w6 rfl rfl ⟨⟨by lia,hs⟩,sz2,λp n=>?_⟩⟩⟩⟩
 exact k p n
theorem at_h {hs:List Int}{k:Int}(h0:0≤k)(h1:k<hs.length):atI (hs.map V.int) k=some (V.int (hAt hs k)):=Z9 h0 h1
theorem quy {hs:List Int}(ok:x4 hs)(k:Int):0≤hAt hs k∧hAt hs k≤24:=by
 unfold hAt
 rw [ay]
 cases e:hs[k.toNat]? with
 |none=>exact ⟨by decide,by decide⟩
 |some v =>
  have hm:=ok.2.2 v (aN e)
  have:=ok.2.1
  show 0≤v∧v≤24
  lia
def qj2 (C CR:Aj):Sp:=λvs H Q E=>∃(r:Aj) (hs:List Int) (k:Int),vs=[.ref r,.int k]∧RoadAt C H r hs∧(0≤k→k<(hs.length:Int)-1→∀p,H p=none→Q (.ref p) (upd H p (.tup [.int (hAt hs k),.int (hAt hs (k+1))]))) ∧
 (k<0∨(hs.length:Int)-1≤k→E (.ref CR) none H)
theorem wvg {f:Aj}{fd:Ad}(F:Fun K "ends" "Road.ends" s_Road_ends f fd)(T:Txt K mg qf wz qk q9 qg wv wu wq wm wy qd qz qm qw qq)(c_width:MCal P w K mg base qm "width" 1 (Wh qm)):FnOk P w K mg base (CXE P w) 2 f fd ["self","stretch"] (qj2 qm wu):=by
 have sc:=qx7
 refine F.okX sc (λvs H Q E h=>by obtain ⟨r,hs,k,rfl,_⟩:=h;rfl) (λcdv A outer s H vs Q E hr h=>?_)
 obtain ⟨r,hs,k,rfl,hR,kq,x⟩:=h
 obtain ⟨dx,q,h1,h2⟩:=id hR
 refine ⟨_,(qy (zq (PW.pt (u8 (xq yt (pv 1) qr (xk _)) (j7 (xq qy2 (pv 1) (kh (pv 0) T.cl c_width (hr.mono (by decide)) qh) (xk _))))) (wj (vk rfl T.x_BadRow zg rfl T.g_BadRow (xx xt qu))) w9)
   (wj (w8 (vg (zx (xy xv (zu (pv 0) rfl) (pv 1) (λ_ _=>rfl)) (zx (xy xv (zu (pv 0) rfl) (w4 xn (pv 1) qr) (λ_ _=>rfl)) qu)))))),?_⟩
 refine exI rfl (w6 rfl rfl (exI rfl ?_))
 refine jv (λq1=>?_) (λq1=>?_)
 ·refine ym ?_
  exact ⟨sz1,x (.inl q1)⟩
 ·refine exI rfl (exI rfl ⟨r,dx,exI rfl ⟨h1,kj (by decide +kernel),r,hs,rfl,hR,w6 rfl rfl (exI rfl ?_)⟩⟩)
  refine jv (λq2=>?_) (λq2=>?_)
  ·exact ⟨sz1,x (.inr q2)⟩
  ·refine exI rfl ⟨r,qm,dx,_,_,rfl,h1,T.cl,T.na,yg,exI rfl (exX rfl rfl (SqL.of h2) (at_h (by lia) (by lia)) (exI rfl ⟨r,qm,dx,_,_,rfl,h1,T.cl,T.na,yg,exI rfl (w6 rfl rfl (exX rfl rfl (SqL.of h2) (at_h (by lia) (by lia)) ⟨sz2,λp np=>?_⟩))⟩))⟩
   exact kq (by lia) (by lia) p np
def zf (hs:List Int)(t b:Int):Prop:=0≤t∧t≤((hs.length:Int)-1)*b
def Wq (K:Aa)(C CB CO:Aj):Sp:=λvs H Q E=>∃(r p:Aj) (hs:List Int) (t b:Int),vs=[.ref r,.ref p]∧RoadAt C H r hs∧x4 hs∧SqT K H p [.int t,.int b] ∧
 (1≤b→Sm 8000 b∧(zf hs t b→∀q H',Same H H'→H' q=some (.tup (ptV (wc t b)))→Q (.ref q) H')∧(¬ zf hs t b→∀H',Same H H'→E (.ref CO) none H'))∧(b<1→E (.ref CB) none H)
theorem qk5 {f:Aj}{fd:Ad}(F:Fun K "on_road" "Road.on_road" s_Road_on_road f fd)(T:Txt K mg qf wz qk q9 qg wv wu wq wm wy qd qz qm qw qq)(c_width:MCal P w K mg base qm "width" 1 (Wh qm))(c_lowest:Cal P w K mg base "lowest" 2 (yx qk)) :
  FnOk P w K mg base (CXE P w) 3 f fd ["self","point"] (Wq K qm qk q9):=by
 have sc:=Zp
 refine F.okX sc (λvs H Q E h=>by obtain ⟨r,p,hs,t,b,rfl,_⟩:=h;rfl) (λcdv A outer s H vs Q E hr h=>?_)
 obtain ⟨r,p,hs,t,b,rfl,hR,hok,hp,kq,x⟩:=h
 obtain ⟨dx,q,h1,h2⟩:=id hR
 refine ⟨_,(qy (j6 (wp c_lowest (hr.mono (by decide)) rfl qh (zx (xy zn (pv 1) qr (λ_ _=>rfl)) (zx (xy zn (pv 1) qr (λ_ _=>rfl)) qu))) (k7 rfl (xg (xj (i:=2) sc.nd rfl (by walk_at "loc")) (xg (xj (i:=3) sc.nd rfl (by walk_at "loc")) vb))))
   (qy (zq (PW.pt (u8 (xq yt (pv 2) qr (xk _)) (j7 (xq Wd (pv 2) (w4 x9 (kh (pv 0) T.cl c_width (hr.mono (by decide)) qh) (pv 3)) (xk _))))) (wj (vk rfl T.x_OffRoad zg rfl T.g_OffRoad (xx xt qu))) w9)
   (wj (w8 (vg (wx (pv 2) (wx (pv 3) qu))))))),?_⟩
 refine ⟨_,rfl,_,_,_,_,rfl,rfl,hp,rfl,_,rfl,_,_,_,_,rfl,rfl,hp,rfl,t,b,rfl,λhb=>⟨(kq hb).1.mono (by decide),λp1 n1=>?_⟩,λz=>x z⟩
 obtain ⟨sb,k1,k2⟩:=kq hb
 have s1:Same H (upd H p1 (.tup (ptV (wc t b)))):=Same.upd n1
 have hl:=hok.2.1
 refine ⟨p1,exI rfl ⟨SqT.new,rfl,_,_,rfl,_,_,rfl,rfl,?_⟩⟩
 refine exI rfl (w6 rfl rfl (exI rfl ?_))
 refine jv (λq1=>?_) (λq1=>?_)
 ·refine ym ?_
  exact ⟨sz1,k2 (λz=>by have:=(Z6 hb).mp q1;have:=z.1;lia) _ s1⟩
 ·refine exI rfl (exI rfl ⟨r,dx,exI rfl ⟨s1 _ _ h1,kj (by decide +kernel),r,hs,rfl,hR.same s1,exI rfl (w6 rfl rfl ⟨IntMulOk.of_left (intBits_le_64 (by lia) (by lia)),w6 rfl rfl (exI rfl ?_)⟩)⟩⟩)
  refine jv (λq2=>?_) (λq2=>?_)
  ·exact ⟨sz1,k2 (λz=>by have:=(qj9 hb).mp q2;have:=z.2;lia) _ s1⟩
  ·refine exI rfl (exI rfl ⟨sz2,λp2 n2=>?_⟩)
   refine k1 ⟨?_,?_⟩ p2 _ (s1.trans (Same.upd n2)) q8
   ·rcases cf t 0 with z|z
    ·exact absurd ((Z6 hb).mpr z) q1
    ·exact z
   ·rcases cf (((hs.length:Int)-1)*b) t with z|z
    ·exact absurd ((qj9 hb).mpr z) q2
    ·exact z
def spAt (K:Aa)(C CB CO:Aj):Sp:=λvs H Q E=>∃(r p:Aj) (hs:List Int) (t b:Int),vs=[.ref r,.ref p]∧RoadAt C H r hs∧x4 hs∧SqT K H p [.int t,.int b] ∧
 (1≤b→Sm 8000 b∧(zf hs t b→∀q H',Same H H'→H' q=some (.tup (ptV (y7 hs t b)))→Q (.ref q) H')∧(¬ zf hs t b→∀H',Same H H'→E (.ref CO) none H'))∧(b<1→E (.ref CB) none H)
theorem ok_at {f:Aj}{fd:Ad}(F:Fun K "at" "Road.at" s_Road_at f fd)(T:Txt K mg qf wz qk q9 qg wv wu wq wm wy qd qz qm qw qq)(c_width:MCal P w K mg base qm "width" 1 (Wh qm))(c_lowest:Cal P w K mg base "lowest" 2 (yx qk))(c_ends:MCal P w K mg base qm "ends" 2 (qj2 qm wu))
  (c_on_road:MCal P w K mg base qm "on_road" 3 (Wq K qm qk q9)):FnOk P w K mg base (CXE P w) 4 f fd ["self","point"] (spAt K qm qk q9):=by
 have sc:=qjf
 refine F.okX sc (λvs H Q E h=>by obtain ⟨r,p,hs,t,b,rfl,_⟩:=h;rfl) (λcdv A outer s H vs Q E hr h=>?_)
 obtain ⟨r,p,hs,t,b,rfl,hR,hok,hp,kq,x⟩:=h
 obtain ⟨dx,q,h1,h2⟩:=id hR
 refine ⟨_,(qy (j6 (xp (pv 0) T.cl c_on_road (hr.mono (by decide)) qh (wx (pv 1) qu)) (k7 rfl (xg (xj (i:=2) sc.nd rfl (by walk_at "loc")) (xg (xj (i:=3) sc.nd rfl (by walk_at "loc")) vb))))
   (qy (xz (i:=4) sc.nd rfl (by walk_at "loc") (xu (qxv rfl) rfl T.min_ dD (zp (w4 vm (pv 2) (pv 3)) (zp (w4 vz (kh (pv 0) T.cl c_width (hr.mono (by decide)) qh) qr) qu))))
   (qy (j6 (xp (pv 0) T.cl c_ends (hr.mono (by decide)) qh (wx (pv 4) qu)) (k7 rfl (xg (xj (i:=5) sc.nd rfl (by walk_at "loc")) (xg (xj (i:=6) sc.nd rfl (by walk_at "loc")) vb))))
   (qy (xz (i:=7) sc.nd rfl (by walk_at "loc") (w4 vz (pv 2) (w4 x9 (pv 4) (pv 3))))
   (wj (w8 (wp c_lowest (hr.mono (by decide)) rfl qh (zp (w4 xn (w4 x9 (pv 5) (pv 3)) (w4 x9 (w4 vz (pv 6) (pv 5)) (pv 7))) (wx (pv 3) qu))))))))),?_⟩
 refine ⟨_,rfl,r,dx,_,rfl,h1,kj (by decide +kernel),_,rfl,r,p,hs,t,b,rfl,hR,hok,hp,λhb=>⟨(kq hb).1,λhon p1 H1 s1 f1=>?_,λhoff H1 s1=>(kq hb).2.2 hoff H1 s1⟩,λz=>x z⟩
 obtain ⟨sb,k1,k2⟩:=kq hb
 have hl1:=hok.1
 have hl2:=hok.2.1
 have hy:=uh (t:=t) hb
 have hyb:=qjd (t:=t) hb
 have hx:0≤(wc t b).1:=by
  rcases cf (wc t b).1 0 with z|z
  ·have:=(Z6 hb).mp z
   have:=hon.1
   lia
  ·exact z
 have hk:=wxy (hs:=hs) hl1 hy hx
 have sy:Sm 9000 (wc t b).2:=(sb.of_le (by lia)).mono (by decide)
 refine ⟨p1,exI rfl ⟨SqT.of f1,rfl,_,_,rfl,_,_,rfl,rfl,?_⟩⟩
 refine exI rfl (exI rfl (w6 rfl rfl ⟨⟨by lia,sy⟩,exI rfl ⟨r,dx,exI rfl ⟨s1 _ _ h1,kj (by decide +kernel),r,hs,rfl,hR.same s1,w6 rfl rfl ⟨_,_,rfl,?_⟩⟩⟩⟩))
 refine ⟨_,rfl,r,dx,_,rfl,s1 _ _ h1,kj (by decide +kernel),V.int (kF hs (wc t b).1 (wc t b).2),rfl,r,hs,kF hs (wc t b).1 (wc t b).2,rfl,hR.same s1,λ_ _ p2 n2=>?_,λz=>absurd z (by lia)⟩
 have g1:=quy hok (kF hs (wc t b).1 (wc t b).2)
 have g2:=quy hok (kF hs (wc t b).1 (wc t b).2+1)
 refine ⟨p2,exI rfl ⟨SqT.new,rfl,_,_,rfl,_,_,rfl,rfl,?_⟩⟩
 refine exI rfl ⟨V.int (kF hs (wc t b).1 (wc t b).2),rfl,exI rfl (w6 rfl rfl ⟨IntMulOk.of_left (intBits_le_64 (by lia) (by lia)),w6 rfl rfl ?_⟩)⟩
 refine exI rfl (exI rfl (w6 rfl rfl ⟨IntMulOk.of_left (intBits_le_64 (by lia) (by lia)),exI rfl (exI rfl (w6 rfl rfl (exI rfl (w6 rfl rfl ⟨IntMulOk.of_left (intBits_le_64 (by lia) (by lia)),w6 rfl rfl (exI rfl ?_)⟩))))⟩))
 refine ⟨jf hs (wc t b).1 (wc t b).2,(wc t b).2,rfl,λ_=>⟨sy,λp3 n3=>?_⟩,λz=>absurd z (by lia)⟩
 have e:wc (jf hs (wc t b).1 (wc t b).2) (wc t b).2=y7 hs t b:=qw5 hb
 rw [e]
 exact k1 hon p3 _ (s1.trans ((Same.upd n2).trans (Same.upd n3))) q8
theorem wvp {hs:List Int}{wd:Int}(h:InW hs wd)(w1:1≤wd)(w2:wd≤24):x4 hs:=by
 refine ⟨by have:=h.1;lia,by have:=h.1;lia,λx hx=>?_⟩
 have h1:=h.1
 have h2:=h.2 x hx
 lia
theorem wqf {H H':Hp}{x dx C:Aj}(nx:H x=none)(nd:H dx=none)(h:∀b o,upd (upd H dx (.own x)) x (.ins C dx []) b=some o→b≠x→H' b=some o):Same H H':=λb o e =>
 h b o (by rw [wg (qj e nx),wg (qj e nd)];exact e) (qj e nx)
theorem Same.upd2 {H H':Hp}{p:Aj}{o:HO}(s:Same H H')(n:H p=none):Same H (L2.upd H' p o):=λb u e=>by
 rw [wg (qj e n)]
 exact s b u e
theorem Y3 {x y b d:Int}(hb:1≤b)(hd:1≤d):x*d=y*b↔wc x b=wc y d:=by
 constructor
 ·intro e
  rw [←qxj (t:=x) hb hd,e,du b d,qxj hd hb]
 ·intro e
  have c1:=Ws (t:=x) hb
  have c2:=Ws (t:=y) hd
  have v1:=uh (t:=x) hb
  rw [←e] at c2
  have h:x*d*(wc x b).2=y*b*(wc x b).2:=by
   have a1:x*d*(wc x b).2=x*(wc x b).2*d:=by grind
   have a2:y*b*(wc x b).2=y*(wc x b).2*b:=by grind
   rw [a1,a2,←c1,←c2]
   grind
  exact cJ (by lia) h
theorem wk6 {CB C:Aj}{H:Hp}{p x dx:Aj}{hs:List Int}{Pp:Hp→Prop}{E:XK}(f:H p=some (.lst (hs.map V.int)))(nx:H x=none)(nd:H dx=none)(k:x4 hs→∀H',Same H H'→RoadAt C H' x hs→Pp H')(bad:¬ x4 hs→∀H',Same H H'→E (.ref CB) none H') :
  qxm K CB C [.ref x,.ref p] (upd (upd H dx (.own x)) x (.ins C dx [])) (λr H2=>r=.non∧Pp H2) E:=by
 refine ⟨x,dx,p,hs,rfl,q8,SqL.of (by rw [wg (qj f nx),wg (qj f nd)];exact f),λok H4 q nq kp r l=>⟨rfl,k ok H4 (wqf nx nd kp) ⟨dx,q,r,l⟩⟩,λz=>bad z _ ?_⟩
 exact λb o e=>by rw [wg (qj e nx),wg (qj e nd)];exact e
theorem wxk {hs:List Int}(ok:x4 hs)(k:Int):0≤hAt hs k∧hAt hs k≤(hs.length:Int)-1:=by
 unfold hAt
 rw [ay]
 have:=ok.1
 cases e:hs[k.toNat]? with
 |none=>exact ⟨by decide,by show (0:Int)≤_;lia⟩
 |some v=>exact ok.2.2 v (aN e)
theorem qub {hs:List Int}{t b:Int}(hok:x4 hs)(hb:1≤b)(hon:zf hs t b):zf hs (jf hs t b) b:=by
 have hl1:=hok.1
 have hk:=wxy (hs:=hs) hl1 hb hon.1
 have g1:=wxk hok (kF hs t b)
 have g2:=wxk hok (kF hs t b+1)
 have e1:0≤t-kF hs t b*b∧t-kF hs t b*b≤b:=by
  have h1:t/b*b≤t:=fo t (by lia)
  have h2:=dS t (show 0<b by lia)
  unfold kF
  split
  ·next z =>
   have h3:=aF (show (hs.length:Int)-1-1≤t/b by lia) (show 0≤b by lia)
   have h4:=hon.2
   constructor
   ·lia
   ·have:((hs.length:Int)-1)*b=((hs.length:Int)-1-1)*b+b:=by grind
    lia
  ·have:(t/b+1)*b=t/b*b+b:=by grind
   constructor <;> lia
 have r:=wzt (u:=hAt hs (kF hs t b)) (v:=hAt hs (kF hs t b+1)) e1.1 e1.2
 refine ⟨Int.le_trans ?_ r.1,Int.le_trans r.2 ?_⟩
 ·refine dv ?_ (by lia)
  split <;> lia
 ·refine aF ?_ (by lia)
  split <;> lia
theorem qzk {hs:List Int}{t b:Int}(hb:1≤b)(hon:zf hs t b):zf hs (wc t b).1 (wc t b).2:=by
 constructor
 ·rcases cf (wc t b).1 0 with z|z
  ·have:=(Z6 hb).mp z
   have:=hon.1
   lia
  ·exact z
 ·rcases cf (((hs.length:Int)-1)*(wc t b).2) (wc t b).1 with z|z
  ·have:=(qj9 hb).mp z
   have:=hon.2
   lia
  ·exact z
def itP (hs:List Int)(p:Int×Int):Nat→Int×Int
 |0=>p
 |n+1=>y7 hs (itP hs p n).1 (itP hs p n).2
def Pt (hs:List Int)(c:Int)(p:Int×Int):Prop:=1≤p.2∧p.2≤c∧gOf p.1 p.2=1∧zf hs p.1 p.2
theorem pt_low {hs:List Int}{t b:Int}(hb:1≤b)(hon:zf hs t b):Pt hs b (wc t b):=⟨uh hb,qjd hb,qxt hb,qzk hb hon⟩
theorem wkx {hs:List Int}{c:Int}{p:Int×Int}(hok:x4 hs)(h:Pt hs c p):Pt hs c (y7 hs p.1 p.2):=by
 have a:=pt_low h.1 (qub hok h.1 h.2.2.2)
 exact ⟨a.1,Int.le_trans a.2.1 h.2.1,a.2.2.1,a.2.2.2⟩
theorem wxb {hs:List Int}{c:Int}{p:Int×Int}(hok:x4 hs)(h:Pt hs c p):∀n,Pt hs c (itP hs p n)
 |0=>h
 |n+1=>wkx hok (wxb hok h n)
def trT (hs:List Int)(t b:Int):Nat→Int
 |0=>t
 |n+1=>jf hs (trT hs t b n) b
theorem uz {hs:List Int}{t b:Int}(hok:x4 hs)(hb:1≤b)(hon:zf hs t b):∀n,zf hs (trT hs t b n) b
 |0=>hon
 |n+1=>qub hok hb (uz hok hb hon n)
theorem j4 {hs:List Int}{t b:Int}(hb:1≤b):∀n,wc (trT hs t b n) b=itP hs (wc t b) n
 |0=>rfl
 |n+1=>by
  show y7 hs (trT hs t b n) b=y7 hs (itP hs (wc t b) n).1 (itP hs (wc t b) n).2
  rw [←j4 hb n,qw5 hb]
def ptsL (hs:List Int)(p:Int×Int)(n:Nat):List (Int×Int):=(List.range n).map (itP hs p)
theorem qvg (hs:List Int)(p:Int×Int)(n:Nat):(ptsL hs p n).length=n:=by
 unfold ptsL
 rw [ac,aJ]
def PtR (H:Hp)(v:V)(p:Int×Int):Prop:=∃a,v=.ref a∧H a=some (.tup [.int p.1,.int p.2])
theorem PtR.same {H H':Hp}{v:V}{p:Int×Int}(h:PtR H v p)(s:Same H H'):PtR H' v p:=by
 obtain ⟨a,e,f⟩:=h
 exact ⟨a,e,s _ _ f⟩
theorem qvv {α β:Type}{F G:α→β→Prop}(h:∀a b,F a b→G a b):∀ {l:List α} {m:List β},Paired F l m→Paired G l m
 |_,_,.nil=>.nil
 |_,_,.cons a t=>.cons (h _ _ a) (qvv h t)
theorem qwc {α β:Type}{F:α→β→Prop}:∀ {l:List α} {m:List β} {i:Nat} {b:β},Paired F l m→m[i]?=some b→∃a,l[i]?=some a∧F a b
 |_,_,0,_,.cons a _,e=>by cases e;exact exI rfl a
 |_,_,i+1,_,.cons _ t,e=>qwc (i:=i) t e
def PtsAt (H:Hp)(q:Aj)(ps:List (Int×Int)):Prop:=∃vs,H q=some (.lst vs)∧Paired (PtR H) vs ps
theorem PtsAt.same {H H':Hp}{q:Aj}{ps:List (Int×Int)}(h:PtsAt H q ps)(s:Same H H'):PtsAt H' q ps:=by
 obtain ⟨vs,f,r⟩:=h
 exact ⟨vs,s _ _ f,qvv (λ_ _ z=>z.same s) r⟩
def Dist {α:Type}(f:Nat→α)(n:Nat):Prop:=∀i j,i<j→j<n→f i≠f j
theorem Dist.mono {α:Type}{f:Nat→α}{m n:Nat}(h:Dist f n)(le:m≤n):Dist f m:=λi j a b=>h i j a (by lia)
theorem Dist.succ {α:Type}{f:Nat→α}{n:Nat}(h:Dist f n)(h':∀j,j<n→f j≠f n):Dist f (n+1):=λi j a b=>by
 rcases (by lia:j<n∨j=n) with z|z
 ·exact h i j a z
 ·subst z
  exact h' i a
theorem shift {α:Type}{f:Nat→α}(st:∀i j,f i=f j→f (i+1)=f (j+1)){n u:Nat}(e:f n=f u):∀k,f (n+k)=f (u+k)
 |0=>e
 |k+1=>st _ _ (shift st e k)
theorem per {α:Type}{f:Nat→α}(st:∀i j,f i=f j→f (i+1)=f (j+1)){n u:Nat}(hu:u<n)(e:f n=f u)(m:Nat):u≤m→f m=f (u+(m-u)%(n-u)):=by
 induction m using Nat.strongRecOn with
 |_ m ih =>
  intro hm
  rcases d7 m n with z|z
  ·rw [Nat.mod_eq_of_lt (by lia)]
   congr 1
   lia
  ·have h1:=shift st e (m-n)
   rw [show n+(m-n)=m by lia] at h1
   have h2:=ih (u+(m-n)) (by lia) (by lia)
   rw [h1,h2,show u+(m-n)-u=m-u-(n-u) by lia,←Nat.mod_eq_sub_mod (by lia)]
theorem qy1 {m:Int}{n u:Nat}(h:(u:Int)≤m)(hu:u<n):(u:Int)+(m-u)%((n:Int)-u)=((u+(m.toNat-u)%(n-u):Nat):Int):=by
 have e1:m-(u:Int)=((m.toNat-u:Nat):Int):=by lia
 have e2:(n:Int)-(u:Int)=((n-u:Nat):Int):=by lia
 rw [e1,e2]
 push_cast
 rfl
theorem pig (N:Nat):∀l:List Nat,l.Nodup→(∀x∈l,x<N)→l.length≤N:=by
 induction N with
 |zero =>
  intro l _ h
  cases l with
  |nil=>exact af _
  |cons a r=>exact absurd (h a (.head _)) (by lia)
 |succ N ih =>
  intro l nd h
  by_cases m:N∈l
  ·have h1:=ih (l.erase N) (nd.erase N) λx hx=>by
    have a:=(nd.mem_erase_iff.mp hx)
    have b:=h x a.2
    lia
   rw [eV m] at h1
   lia
  ·have:=ih l nd λx hx=>by
    have b:=h x hx
    have:x≠N:=λz=>m (z▸hx)
    lia
   lia
theorem pigI {f:Nat→Int}{n:Nat}{B:Int}(h:Dist f n)(b:∀i,0≤f i∧f i≤B):(n:Int)≤B+1:=by
 have h1:=pig (B+1).toNat ((List.range n).map λi=>(f i).toNat) (by
  rw [List.nodup_iff_pairwise_ne,bw]
  refine bI ?_ (dz (n:=n))
  intro i j hi hj hij e
  have:=b i
  have:=b j
  exact h i j hij (bb.mp hj) (by lia)) λx hx=>by
   obtain ⟨i,_,rfl⟩:=aw.mp hx
   have:=b i
   lia
 rw [ac,aJ] at h1
 have:=b 0
 lia
theorem it_st {hs:List Int}{p:Int×Int}:∀i j,itP hs p i=itP hs p j→itP hs p (i+1)=itP hs p (j+1):=λi j e=>by
 show y7 hs (itP hs p i).1 (itP hs p i).2=y7 hs (itP hs p j).1 (itP hs p j).2
 rw [e]
theorem tr_st {hs:List Int}{t b:Int}:∀i j,trT hs t b i=trT hs t b j→trT hs t b (i+1)=trT hs t b (j+1):=λi j e=>by
 show jf hs (trT hs t b i) b=jf hs (trT hs t b j) b
 rw [e]
theorem qxy {t b:Int}(hb:1≤b)(g:gOf t b=1):wc t b=(t,b):=by
 unfold wc
 rw [g,Int.ediv_one,Int.ediv_one]
theorem it_tr {hs:List Int}{c:Int}{p:Int×Int}(h:Pt hs c p)(n:Nat):itP hs p n=wc (trT hs p.1 p.2 n) p.2:=by
 rw [j4 h.1,qxy h.1 h.2.2.1]
theorem wkz {x y b:Int}(hb:1≤b)(e:wc x b=wc y b):x=y:=by
 have h1:=(qxx (N:=x) hb).2
 have h2:=(qxx (N:=y) hb).2
 rw [e] at h1
 lia
theorem it_eq {hs:List Int}{c:Int}{p:Int×Int}(h:Pt hs c p)(i j:Nat):itP hs p i=itP hs p j↔trT hs p.1 p.2 i=trT hs p.1 p.2 j:=by
 rw [it_tr h,it_tr h]
 exact ⟨λe=>wkz h.1 e,λe=>by rw [e]⟩
def yr (p:Int×Int):List Key:=[.inl p.1,.inl p.2]
theorem qz8 {p q:Int×Int}(e:yr p=yr q):p=q:=by
 unfold yr at e
 simp only [List.cons.injEq,Sum.inl.injEq,and_true] at e
 exact Prod.ext e.1 e.2
def jz {κ:Type}(k:Nat→κ)(n:Nat):List (κ×V):=(List.range n).map λi=>(k i,V.int i)
theorem Zv {κ:Type}(k:Nat→κ)(n:Nat):jz k (n+1)=jz k n++[(k n,V.int n)]:=by
 unfold jz
 rw [cb,aT]
 rfl
theorem jg {κ:Type}(k:Nat→κ)(n:Nat):(jz k n).length=n:=by
 unfold jz
 rw [ac,aJ]
theorem Zw {κ:Type}[DecidableEq κ]{k:Nat→κ}{q:κ}{n:Nat}(h:∀j,j<n→k j≠q):wt (jz k n) q=none:=by
 unfold wt jz
 rw [dc.mpr]
 ·rfl
 ·intro x hx
  obtain ⟨i,hi,rfl⟩:=aw.mp hx
  simpa using h i (bb.mp hi)
theorem Wp {κ:Type}[DecidableEq κ]{k:Nat→κ}{j:Nat}:∀ {n:Nat},Dist k n→j<n→wt (jz k n) (k j)=some (.int j)
 |0,_,h=>absurd h (by lia)
 |n+1,d,h=>by
  rw [Zv,W9 _ _ _ _ (Zw λi hi=>d i n hi (by lia))]
  rcases (by lia:j<n∨j=n) with z|z
  ·rw [ag (d j n z (by lia)),Wp (d.mono (by lia)) z]
  ·subst z
   rw [ak rfl]
theorem qud {α β γ δ:Type}{F:α→β→Prop}{G:α→γ→Prop}(g:δ→β)(f:δ→γ)(h:∀a x,F a (g x)→G a (f x)):∀ {l:List δ} {vs:List α},Paired F vs (l.map g)→Paired G vs (l.map f)
 |[],_,.nil=>.nil
 |_::_,_,.cons a t=>.cons (h _ _ a) (qud g f h t)
def qxb:Sp:=λvs H Q _=>∃i:Int,vs=[.int i]∧Q (.bl true) H
theorem ww3 {f:Aj}{fd:Ad}(F:Fun K "_law_whole" "_law_whole" s__law_whole f fd)(T:Txt K mg qf wz qk q9 qg wv wu wq wm wy qd qz qm qw qq):FnOk P w K mg base (CXE P w) 1 f fd ["_law_found"] qxb:=by
 have sc:=qq3
 refine F.okX sc (λvs H Q E h=>by obtain ⟨i,rfl,_⟩:=h;rfl) (λcdv A outer s H vs Q E hr h=>?_)
 obtain ⟨i,rfl,k⟩:=h
 refine ⟨_,(wj (w8 (qyy (xu Zb rfl T.isinstance_ dW (wx (pv 0) (wx (qyg (v:=V.ty "int") rfl T.int_ PyProof.Rows.boot_int rfl) qu))) (qjt (pe_not (xu Zb rfl T.isinstance_ dW (wx (pv 0) (wx (qyg (v:=V.ty "bool") rfl T.bool_ PyProof.Rows.boot_bool rfl) qu)))))))),?_⟩
 refine exI rfl ⟨_,_,_,_,rfl,TyOf.int i,rfl,_,rfl,?_⟩
 refine ym ?_
 refine exI rfl ⟨_,_,_,_,rfl,TyOf.int i,rfl,_,rfl,?_⟩
 exact k
end
section
variable {P:Ac}{w:Ah}{K:Aa}{mg:Str→Option Ag}{base:Heap}{qf:Aj}{wz:Aj}{qk:Aj}{q9:Aj}{qg:Aj}{wv:Aj}{wu:Aj}{wq:Aj}{wm:Aj}{wy:Aj}{qd:Aj}{qz:Aj}{qm:Aj}{qw:Aj}{qq:Aj}
def qzd (C CT:Aj):Sp:=λvs H Q E=>∃(r a:Aj) (hs:List Int) (p:Int×Int) (c:Int),vs=[.ref r,.ref a]∧RoadAt C H r hs∧x4 hs∧H a=some (.tup [.int p.1,.int p.2])∧Pt hs c p∧Sm 8000 c ∧
 (∀n u q l H',n≤1000→Dist (itP hs p) n→u<n→itP hs p n=itP hs p u→Same H H'→H l=none→H' q=some (.tup [.ref l,.int ((u:Nat):Int)])→PtsAt H' l (ptsL hs p n)→Q (.ref q) H')∧(Dist (itP hs p) 1001→∀H',Same H H'→E (.ref CT) none H')
theorem ww9 {f:Aj}{fd:Ad}(F:Fun K "trace" "trace" s_trace f fd)(T:Txt K mg qf wz qk q9 qg wv wu wq wm wy qd qz qm qw qq)(c_at:MCal P w K mg base qm "at" 4 (spAt K qm qk q9)):FnOk P w K mg base (CXE P w) 5 f fd ["road","start"] (qzd qm wv):=by
 have sc:=wxf
 refine F.okX sc (λvs H Q E h=>by obtain ⟨r,a,hs,p,c,rfl,_⟩:=h;rfl) (λcdv A outer s H vs Q E hr h=>?_)
 obtain ⟨r,a,hs,p,c,rfl,hR,hok,ha,hP,sc8,k,x⟩:=h
 obtain ⟨dx,q0,h1,h2⟩:=id hR
 obtain ⟨tm,g_LONGEST_TRACE⟩:=T.g_LONGEST_TRACE
 refine ⟨_,(qy (xz (i:=2) sc.nd rfl (by walk_at "loc") wwd)
   (qy (xz (i:=3) sc.nd rfl (by walk_at "loc") (pv 1))
   (qy (Q2 aY (Jb (uc (jq hr) (pv 3) (pv 2))) (qy (zq (xq k9 (xu qwf rfl T.len_ aV (wx (pv 2) qu)) (yp (v:=V.int 1000) rfl g_LONGEST_TRACE ⟨_,rfl⟩) (xk _)) (wj (vk rfl T.x_TooLong zg rfl T.g_TooLong (xx xt qu))) w9)
   (qy (Zt (jq hr) (pv 2) (pv 3) (xu qwf rfl T.len_ aV (wx (pv 2) qu)) rfl)
   (wj (xz (i:=3) sc.nd rfl (by walk_at "loc") (xp (pv 0) T.cl c_at (hr.mono (by decide)) qh (wx (pv 3) qu)))))))
   (wj (w8 (vg (js (kf (qjv rfl) rfl T.list_ cz (wx (pv 2) qu)) (zx (yd (jq hr) (pv 2) (pv 3) (λ_ _=>rfl)) qu)))))))),?_⟩
 refine λD nD=>exI rfl ?_
 refine Yh (λσ H2=>∃(i:Nat) (b:Aj),σ=[some (.ref r),some (.ref a),some (.ref D),some (.ref b)]∧i≤1000∧Dist (itP hs p) i∧Same H H2∧H2 D=some (.dT (jz (λj=>yr (itP hs p j)) i))∧H2 b=some (.tup [.int (itP hs p i).1,.int (itP hs p i).2]))
  (λ_ H2=>match H2 D with|some (.dT kvs)=>1001-kvs.length|_=>0) ⟨0,a,rfl,by lia,λi j _ z=>absurd z (by lia),Same.upd nD,q8,by rw [wg (qj ha nD)];exact ha⟩ ?_ λσ H Q Q' h ⟨v,e,v2,e2,a',o,e3,g,kk,e4,q⟩=>⟨v,e,v2,e2,a',o,e3,g,kk,e4,h _ _ q⟩
 rintro σ H2 ⟨i,b,rfl,hi,hd,s2,f2,fb⟩
 have hd':Dist (λj=>yr (itP hs p j)) i:=λu v uv vi e=>hd u v uv vi (qz8 e)
 have fb':H2 b=some (.tup ((yr (itP hs p i)).map kV)):=fb
 by_cases hj:∃j,j<i∧itP hs p j=itP hs p i
 ·obtain ⟨j,ji,je⟩:=hj
  have hv:wt (jz (λj=>yr (itP hs p j)) i) (yr (itP hs p i))=some (.int j):=by
   rw [←je]
   exact Wp hd' ji
  have dg:DGet H2 D (.ref b) (some (.int j)):=by
   have:=DGet.t f2 fb'
   rwa [hv] at this
  refine exI rfl (exI rfl ⟨D,exI rfl ⟨dg,_,rfl,?_⟩⟩)
  refine ju ?_
  refine exI rfl ⟨D,exI rfl ⟨f2,λl vs nl kat=>?_⟩⟩
  have s3:=Same.upd (o:=.lst vs) nl
  have dg3:DGet (upd H2 l (.lst vs)) D (.ref b) (some (.int j)):=by
   have:=DGet.t (s3 _ _ f2) (s3 _ _ fb')
   rwa [hv] at this
  refine exI rfl (exI rfl ⟨D,exI rfl ⟨dg3,sz2,λq nq=>?_⟩⟩)
  have s4:=s3.trans (Same.upd (o:=.tup [.ref l,.int j]) nq)
  have nl0:H l=none:=by
   cases e:H l with
   |none=>rfl
   |some o=>rw [s2 _ _ e] at nl;cases nl
  refine k i j q l _ hi hd ji je.symm (s2.trans s4) nl0 q8 ⟨vs,Same.upd nq _ _ q8,?_⟩
  refine qud (l:=List.range i) (λj=>(yr (itP hs p j),V.int j)) (itP hs p) (λv j hv=>?_) kat
  obtain ⟨b',rfl,fb2⟩:=hv
  exact ⟨b',rfl,s4 _ _ fb2⟩
 ·have hn:∀j,j<i→itP hs p j≠itP hs p i:=λj a b=>hj ⟨j,a,b⟩
  have hv:wt (jz (λj=>yr (itP hs p j)) i) (yr (itP hs p i))=none:=Zw λj a b=>hn j a (qz8 b)
  have dg:DGet H2 D (.ref b) none:=by
   have:=DGet.t f2 fb'
   rwa [hv] at this
  have hd1:=hd.succ hn
  refine exI rfl (exI rfl ⟨D,exI rfl ⟨dg,_,rfl,?_⟩⟩)
  refine ym ?_
  refine exI rfl ⟨D,exI rfl ⟨f2,rfl,_,rfl,?_⟩⟩
  rw [jg]
  refine jk (λq1=>?_) (λq1=>?_)
  ·have:i=1000:=by lia
   subst this
   exact ⟨sz1,x hd1 _ s2⟩
  ·refine exI rfl ⟨D,exI rfl ⟨f2,exI rfl (exI rfl ⟨D,exI rfl ⟨DPut.t f2 fb' (wqj (by rw [jg];lia)),?_⟩⟩)⟩⟩
   rw [yj _ hv,jg,←Zv (λj=>yr (itP hs p j)) i]
   have s3:Same H (upd H2 D (.dT (jz (λj=>yr (itP hs p j)) (i+1)))):=Same.upd2 s2 nD
   have db:b≠D:=λz=>by rw [z,f2] at fb;cases fb
   have fb3:upd H2 D (.dT (jz (λj=>yr (itP hs p j)) (i+1))) b=some (.tup [.int (itP hs p i).1,.int (itP hs p i).2]):=by rw [wg db];exact fb
   have f3:upd H2 D (.dT (jz (λj=>yr (itP hs p j)) (i+1))) D=some (.dT (jz (λj=>yr (itP hs p j)) (i+1))):=q8
   generalize upd H2 D (.dT (jz (λj=>yr (itP hs p j)) (i+1)))=H3 at s3 fb3 f3
   have Pn:=wxb hok hP i
   refine ⟨_,rfl,r,dx,_,rfl,s3 _ _ h1,kj (by decide +kernel),_,rfl,r,b,hs,(itP hs p i).1,(itP hs p i).2,rfl,hR.same s3,hok,SqT.of fb3,λ_=>⟨(sc8.of_le (by have:=Pn.2.1;have:=Pn.1;lia)),λ_ p4 H4 s4 f4=>?_,λz=>absurd Pn.2.2.2 z⟩,λz=>absurd Pn.1 (by lia)⟩
   refine ⟨⟨i+1,p4,rfl,by lia,hd1,s3.trans s4,s4 _ _ f3,f4⟩,?_⟩
   show (match H4 D with|some (.dT kvs)=>1001-kvs.length|_=>0)<(match H2 D with|some (.dT kvs)=>1001-kvs.length|_=>0)
   rw [s4 _ _ f3,f2]
   show 1001-(jz (λj=>yr (itP hs p j)) (i+1)).length<1001-(jz (λj=>yr (itP hs p j)) i).length
   rw [jg,jg]
   lia
def TrAt (H:Hp)(l:Aj)(hs:List Int)(p:Int×Int)(n u:Nat):Prop:=n≤1000∧Dist (itP hs p) n∧u<n∧itP hs p n=itP hs p u∧PtsAt H l (ptsL hs p n)
def qj1:Sp:=λvs H Q _=>∃(l:Aj) (hs:List Int) (p:Int×Int) (n u:Nat) (m:Int),vs=[.ref l,.int u,.int m]∧TrAt H l hs p n u∧0≤m∧∀a,H a=some (.tup [.int (itP hs p m.toNat).1,.int (itP hs p m.toNat).2])→Q (.ref a) H
theorem qj0 {H:Hp}{hs:List Int}{p:Int×Int}{n i:Nat}{vs:List V}(h:Paired (PtR H) vs (ptsL hs p n))(hi:i<n):∃a,vs[i]?=some (.ref a)∧H a=some (.tup [.int (itP hs p i).1,.int (itP hs p i).2]):=by
 obtain ⟨v,ev,⟨a,rfl,fa⟩⟩:=qwc (i:=i) (b:=itP hs p i) h (by
  unfold ptsL
  rw [aH,cv hi]
  rfl)
 exact ⟨a,ev,fa⟩
theorem wv5 {f:Aj}{fd:Ad}(F:Fun K "spot" "spot" s_spot f fd)(T:Txt K mg qf wz qk q9 qg wv wu wq wm wy qd qz qm qw qq):FnOk P w K mg base (CXE P w) 1 f fd ["points","turn","many"] qj1:=by
 have sc:=wvv
 refine F.okX sc (λvs H Q E h=>by obtain ⟨l,hs,p,n,u,m,rfl,_⟩:=h;rfl) (λcdv A outer s H vs Q E hr h=>?_)
 obtain ⟨l,hs,p,n,u,m,rfl,⟨n1,hd,hu,e,vs,fl,pr⟩,m0,k⟩:=h
 have hlen:vs.length=n:=by rw [pr.length,qvg]
 refine ⟨_,(qy (zq (xq yt (pv 2) (pv 1) (xk _)) (wj (w8 (xy xv (pv 0) (pv 2) (λ_ _=>rfl)))) w9)
   (wj (w8 (xy xv (pv 0) (w4 xn (pv 1) (w4 vc (w4 vz (pv 2) (pv 1)) (w4 vz (xu x8 rfl T.len_ aV (wx (pv 0) qu)) (pv 1)))) (λ_ _=>rfl))))),?_⟩
 refine exI rfl (exI rfl (w6 rfl rfl (exI rfl ?_)))
 refine jv (λq1=>?_) (λq1=>?_)
 ·obtain ⟨a,ea,fa⟩:=qj0 (i:=m.toNat) pr (by lia)
  refine exI rfl (exI rfl (exX rfl rfl (SqL.of fl) ?_ (k a fa)))
  have:=xm ea
  rwa [dY m0] at this
 ·have hm:(u:Int)≤m:=by lia
  have lt:=cL (m.toNat-u) (show 0<n-u by lia)
  obtain ⟨a,ea,fa⟩:=qj0 (i:=u+(m.toNat-u)%(n-u)) pr (by lia)
  rw [←per it_st hu e m.toNat (by lia)] at fa
  refine exI rfl (exI rfl (exI rfl (exI rfl (w6 rfl rfl (exI rfl ⟨_,_,rfl,.inl (SqL.of fl),exI rfl (w6 rfl rfl (w6 rfl rfl ⟨?_,w6 rfl rfl (exX rfl rfl (SqL.of fl) ?_ (k a fa))⟩))⟩)))))
  ·rw [hlen]
   show (0:Int)<(n:Int)-u
   lia
  ·rw [hlen,qy1 hm hu]
   exact xm ea
def qjn (K:Aa):Sp:=λvs H Q _=>∃(p:Aj) (hs:List Int) (t b:Int),vs=[.ref p,.int t,.int b]∧SqL K H p (hs.map V.int)∧x4 hs∧1≤b∧Sm 4000 b∧zf hs t b∧Q (.int (jf hs t b)) H
theorem wvh {f:Aj}{fd:Ad}(F:Fun K "_law_step" "_law_step" s__law_step f fd)(T:Txt K mg qf wz qk q9 qg wv wu wq wm wy qd qz qm qw qq):FnOk P w K mg base (CXE P w) 1 f fd ["_law_heights_here","_law_top","_law_bottom"] (qjn K):=by
 have sc:=qzz
 refine F.okX sc (λvs H Q E h=>by obtain ⟨p,hs,t,b,rfl,_⟩:=h;rfl) (λcdv A outer s H vs Q E hr h=>?_)
 obtain ⟨p,hs,t,b,rfl,hS,hok,hb,sb,hon,k⟩:=h
 rw [←wzm hok.1 hb hon.1 hon.2] at k
 have hl:=hok.2.1
 have k0:=fk hon.1 (show (0:Int)≤b by lia)
 have k1:t/b≤(hs.length:Int)-1:=by
  have:=Int.ediv_le_ediv (show 0<b by lia) hon.2
  rwa [Int.mul_ediv_cancel _ (show b≠0 by lia)] at this
 have g1:=quy hok (t/b)
 have g2:=quy hok (t/b+1)
 refine ⟨_,(qy (xz (i:=3) sc.nd rfl (by walk_at "loc") (w4 vm (pv 1) (pv 2)))
   (qy (zq (xq k9 (w4 x9 (pv 3) (pv 2)) (pv 1) (xk _)) (wj (w8 (w4 x9 (xy xv (pv 0) (pv 3) (λ_ _=>rfl)) (pv 2)))) w9)
   (wj (w8 (w4 xn (w4 x9 (xy xv (pv 0) (pv 3) (λ_ _=>rfl)) (pv 2)) (w4 x9 (w4 vz (xy xv (pv 0) (w4 xn (pv 3) qr) (λ_ _=>rfl)) (xy xv (pv 0) (pv 3) (λ_ _=>rfl))) (w4 vz (pv 1) (w4 x9 (pv 3) (pv 2))))))))),?_⟩
 refine exI rfl (exI rfl (w6 rfl rfl ⟨⟨by lia,sb.mono (by decide)⟩,exI rfl (exI rfl (w6 rfl rfl ⟨IntMulOk.of_left (intBits_le_64 (by lia) (by lia)),exI rfl ⟨rfl,_,rfl,?_⟩⟩))⟩))
 refine jk (λq1=>?_) (λq1=>?_)
 ·refine exI rfl (exI rfl (exX rfl rfl hS (at_h k0 (by lia)) (exI rfl (w6 rfl rfl ⟨IntMulOk.of_left (intBits_le_64 (by lia) (by lia)),?_⟩))))
  rw [qy3,ak q1] at k
  exact k
 ·have k2:t/b<(hs.length:Int)-1:=by
   rcases cf (t/b) ((hs.length:Int)-1) with z|z
   ·exact z
   ·have e:t/b=(hs.length:Int)-1:=by lia
    have h1:t/b*b≤t:=fo t (by lia)
    have h2:=hon.2
    rw [←e] at h2
    exact absurd (by lia) q1
  refine exI rfl (exI rfl (exX rfl rfl hS (at_h k0 (by lia)) (exI rfl (w6 rfl rfl ⟨IntMulOk.of_left (intBits_le_64 (by lia) (by lia)),exI rfl (exI rfl (w6 rfl rfl (exX rfl rfl hS (at_h (by lia) (by lia)) (exI rfl (exI rfl (exX rfl rfl hS (at_h k0 (by lia)) (w6 rfl rfl (exI rfl (exI rfl (exI rfl (w6 rfl rfl ⟨IntMulOk.of_left (intBits_le_64 (by lia) (by lia)),w6 rfl rfl (w6 rfl rfl ⟨IntMulOk.of_left (intBits_le_64 (by lia) (by lia)),w6 rfl rfl ?_⟩)⟩)))))))))))⟩))))
  rw [qy3,ag q1] at k
  exact k
theorem Yd {H:Hp}{D:Aj}{kvs:List (Key×V)}{i:Int}{o:Option V}(f:H D=some (.dK kvs))(e:wt kvs (.inl i)=o):DGet H D (.int i) o:=by
 have:=DGet.k (k:=.inl i) f
 rwa [e] at this
def Yk (K:Aa):Sp:=λvs H Q _=>∃(p:Aj) (hs:List Int) (t b:Int),vs=[.ref p,.int t,.int b]∧SqL K H p (hs.map V.int)∧x4 hs∧1≤b∧b≤10000∧zf hs t b ∧
 (∀n u q l H',Dist (trT hs t b) n→u<n→trT hs t b n=trT hs t b u→n≤300000→Same H H'→H l=none→H' q=some (.tup [.ref l,.int ((u:Nat):Int)])→H' l=some (.lst (((List.range n).map (trT hs t b)).map V.int))→Q (.ref q) H')
theorem qw6 {n:Nat}(h:n≤1000000):n<sizeLine:=cZ h (by decide)
theorem qu0 {f:Aj}{fd:Ad}(F:Fun K "_law_trace" "_law_trace" s__law_trace f fd)(T:Txt K mg qf wz qk q9 qg wv wu wq wm wy qd qz qm qw qq)(c__law_step:Cal P w K mg base "_law_step" 1 (qjn K)):FnOk P w K mg base (CXE P w) 2 f fd ["_law_heights_here","_law_top","_law_bottom"] (Yk K):=by
 have sc:=qqd
 refine F.okX sc (λvs H Q E h=>by obtain ⟨p,hs,t,b,rfl,_⟩:=h;rfl) (λcdv A outer s H vs Q E hr h=>?_)
 obtain ⟨p,hs,t,b,rfl,hS,hok,hb,hb2,hon,k⟩:=h
 have hl:=hok.2.1
 have sb:Sm 4000 b:=(Sm.small (n:=65) (by lia) (by lia) (by decide)).mono (by decide)
 have bnd:∀n,Dist (trT hs t b) n→n≤250000:=λn d=>by
  have h1:=pigI d λi=>uz hok hb hon i
  have h2:=Int.mul_le_mul (show (hs.length:Int)-1≤24 by lia) hb2 (by lia) (by decide)
  lia
 refine ⟨_,(qy (xz (i:=3) sc.nd rfl (by walk_at "loc") jd)
   (qy (xz (i:=4) sc.nd rfl (by walk_at "loc") (k6 qu))
   (qy (Q2 aY (Jb (uc (jq hr) (pv 1) (pv 3))) (qy (Zt (jq hr) (pv 3) (pv 1) (xu x8 rfl T.len_ aV (wx (pv 4) qu)) rfl)
   (qy (zw (qy5 bN ck cm jn (pv 4) (wx (pv 1) qu)))
   (wj (xz (i:=1) sc.nd rfl (by walk_at "loc") (wp c__law_step (hr.mono (by decide)) rfl qh (wx (pv 0) (wx (pv 1) (wx (pv 2) qu)))))))))
   (wj (w8 (vg (wx (pv 4) (zx (yd (jq hr) (pv 3) (pv 1) (λ_ _=>rfl)) qu)))))))),?_⟩
 refine λD nD=>⟨sz0,λl nl=>?_⟩
 have dDl:D≠l:=qj (show upd H D (.dK []) D=some (.dK []) from q8) nl
 have nl0:H l=none:=by
  cases e:H l with
  |none=>rfl
  |some o=>rw [Same.upd nD _ _ e] at nl;cases nl
 refine Yh (λσ H2=>∃(i:Nat),σ=[some (.ref p),some (.int (trT hs t b i)),some (.int b),some (.ref D),some (.ref l)]∧Dist (trT hs t b) i∧Same H H2∧H2 D=some (.dK (jz (λj=>Sum.inl (trT hs t b j)) i))∧H2 l=some (.lst (((List.range i).map (trT hs t b)).map V.int)))
  (λ_ H2=>match H2 D with|some (.dK kvs)=>250001-kvs.length|_=>0) ⟨0,rfl,λi j _ z=>absurd z (by lia),(Same.upd nD).trans (Same.upd nl),by rw [wg dDl,q8];rfl,q8⟩ ?_ λσ H Q Q' h ⟨v,e,v2,e2,a',o,e3,g,kk,e4,q⟩=>⟨v,e,v2,e2,a',o,e3,g,kk,e4,h _ _ q⟩
 rintro σ H2 ⟨i,rfl,hd,s2,f2,fl⟩
 have hd':Dist (λj=>(Sum.inl (trT hs t b j):Key)) i:=λu v uv vi e=>hd u v uv vi (Sum.inl.inj e)
 have hbi:=bnd i hd
 have hlen:(((List.range i).map (trT hs t b)).map V.int).length=i:=by rw [ac,ac,aJ]
 by_cases hj:∃j,j<i∧trT hs t b j=trT hs t b i
 ·obtain ⟨j,ji,je⟩:=hj
  have hv:wt (jz (λj=>(Sum.inl (trT hs t b j):Key)) i) (.inl (trT hs t b i))=some (.int j):=by
   rw [←je]
   exact Wp hd' ji
  refine exI rfl (exI rfl ⟨D,exI rfl ⟨Yd f2 hv,_,rfl,?_⟩⟩)
  refine ju ?_
  refine exI rfl (exI rfl (exI rfl ⟨D,exI rfl ⟨Yd f2 hv,sz2,λq nq=>?_⟩⟩))
  have s3:=Same.upd (o:=.tup [.ref l,.int j]) nq
  exact k i j q l _ hd ji je.symm (by lia) (s2.trans s3) nl0 q8 (s3 _ _ fl)
 ·have hn:∀j,j<i→trT hs t b j≠trT hs t b i:=λj a b=>hj ⟨j,a,b⟩
  have hv:wt (jz (λj=>(Sum.inl (trT hs t b j):Key)) i) (.inl (trT hs t b i))=none:=Zw λj a b=>hn j a (Sum.inl.inj b)
  have hd1:=hd.succ hn
  have hb1:=bnd (i+1) hd1
  refine exI rfl (exI rfl ⟨D,exI rfl ⟨Yd f2 hv,_,rfl,?_⟩⟩)
  refine ym ?_
  refine exI rfl ⟨_,_,rfl,.inl (SqL.of fl),exI rfl (exI rfl ⟨D,exI rfl ⟨DPut.k (k:=.inl (trT hs t b i)) f2 (qw6 (by rw [jg];lia)),?_⟩⟩)⟩
  rw [yj _ hv,hlen,←Zv (λj=>(Sum.inl (trT hs t b j):Key)) i]
  have s3:Same H (upd H2 D (.dK (jz (λj=>(Sum.inl (trT hs t b j):Key)) (i+1)))):=Same.upd2 s2 nD
  have fl3:upd H2 D (.dK (jz (λj=>(Sum.inl (trT hs t b j):Key)) (i+1))) l=some (.lst (((List.range i).map (trT hs t b)).map V.int)):=by rw [wg dDl.symm];exact fl
  have f3:upd H2 D (.dK (jz (λj=>(Sum.inl (trT hs t b j):Key)) (i+1))) D=some (.dK (jz (λj=>(Sum.inl (trT hs t b j):Key)) (i+1))):=q8
  generalize upd H2 D (.dK (jz (λj=>(Sum.inl (trT hs t b j):Key)) (i+1)))=H3 at s3 fl3 f3
  refine exI rfl ⟨.inl ⟨rfl,_,SqL.of fl3⟩,exI rfl ⟨_,_,_,rfl,rfl,fl3,qw6 (by rw [hlen];lia),?_⟩⟩
  have s4:Same H (upd H3 l (.lst (((List.range i).map (trT hs t b)).map V.int++[V.int (trT hs t b i)]))):=Same.upd2 s3 nl0
  refine exI rfl (exI rfl (exI rfl ⟨p,hs,trT hs t b i,b,rfl,s4.sql hS,hok,hb,sb,uz hok hb hon i,⟨i+1,rfl,hd1,s4,by rw [wg dDl];exact f3,?_⟩,?_⟩))
  ·rw [q8,cb,aT,aT]
   rfl
  ·show (match upd H3 l (.lst (((List.range i).map (trT hs t b)).map V.int++[V.int (trT hs t b i)])) D with|some (.dK kvs)=>250001-kvs.length|_=>0)<(match H2 D with|some (.dK kvs)=>250001-kvs.length|_=>0)
   rw [wg dDl,f3,f2]
   show 250001-(jz (λj=>(Sum.inl (trT hs t b j):Key)) (i+1)).length<250001-(jz (λj=>(Sum.inl (trT hs t b j):Key)) i).length
   rw [jg,jg]
   lia
def Z8 (K:Aa):Sp:=λvs H Q _=>∃(l:Aj) (g:Nat→Int) (n u:Nat) (m:Int),vs=[.ref l,.int u,.int m]∧H l=some (.lst (((List.range n).map g).map V.int))∧u<n∧g n=g u∧(∀i j,g i=g j→g (i+1)=g (j+1))∧0≤m∧Q (.int (g m.toNat)) H
theorem qyp {g:Nat→Int}{n i:Nat}(h:i<n):atI (((List.range n).map g).map V.int) ((i:Nat):Int)=some (V.int (g i)):=by
 refine xm ?_
 rw [aH,aH,cv h]
 rfl
theorem wz4 {f:Aj}{fd:Ad}(F:Fun K "_law_after" "_law_after" s__law_after f fd)(T:Txt K mg qf wz qk q9 qg wv wu wq wm wy qd qz qm qw qq):FnOk P w K mg base (CXE P w) 1 f fd ["_law_tops","_law_start","_law_many"] (Z8 K):=by
 have sc:=qqu
 refine F.okX sc (λvs H Q E h=>by obtain ⟨l,g,n,u,m,rfl,_⟩:=h;rfl) (λcdv A outer s H vs Q E hr h=>?_)
 obtain ⟨l,g,n,u,m,rfl,fl,hu,e,st,m0,k⟩:=h
 have hlen:(((List.range n).map g).map V.int).length=n:=by rw [ac,ac,aJ]
 refine ⟨_,(qy (zq (xq yt (pv 2) (xu x8 rfl T.len_ aV (wx (pv 0) qu)) (xk _)) (wj (w8 (xy xv (pv 0) (pv 2) (λ_ _=>rfl)))) w9)
   (wj (w8 (xy xv (pv 0) (w4 xn (pv 1) (w4 vc (w4 vz (pv 2) (pv 1)) (w4 vz (xu x8 rfl T.len_ aV (wx (pv 0) qu)) (pv 1)))) (λ_ _=>rfl))))),?_⟩
 refine exI rfl (exI rfl ⟨_,_,rfl,.inl (SqL.of fl),w6 rfl rfl (exI rfl ?_)⟩)
 rw [hlen]
 refine jv (λq1=>?_) (λq1=>?_)
 ·have ea:=qyp (g:=g) (n:=n) (i:=m.toNat) (by lia)
  rw [dY m0] at ea
  exact exI rfl (exI rfl (exX rfl rfl (SqL.of fl) ea k))
 ·have hm:(u:Int)≤m:=by lia
  have lt:=cL (m.toNat-u) (show 0<n-u by lia)
  have ea:=qyp (g:=g) (n:=n) (i:=u+(m.toNat-u)%(n-u)) (by lia)
  rw [←per st hu e m.toNat (by lia)] at ea
  refine exI rfl (exI rfl (exI rfl (exI rfl (w6 rfl rfl (exI rfl ⟨_,_,rfl,.inl (SqL.of fl),exI rfl (w6 rfl rfl (w6 rfl rfl ⟨?_,w6 rfl rfl (exX rfl rfl (SqL.of fl) ?_ k)⟩))⟩)))))
  ·rw [hlen]
   show (0:Int)<(n:Int)-u
   lia
  ·rw [hlen,qy1 hm hu]
   exact ea
def qxs (K:Aa):Sp:=λvs H Q _=>∃(a:Aj) (ns:List Int) (i wd mo:Int),vs=[.ref a,.int i,.int wd,.int mo]∧SqL K H a (ns.map V.int)∧0≤i∧1≤wd∧wd≤24∧6≤mo∧mo≤1000 ∧
 ∀p t b c,H p=none→1≤b→b≤mo→1≤c→c≤3→0≤t→t≤wd*b→Q (.ref p) (upd H p (.tup [.int (t*c),.int (b*c)]))
theorem wxs {f:Aj}{fd:Ad}(F:Fun K "_law_spot" "_law_spot" s__law_spot f fd)(T:Txt K mg qf wz qk q9 qg wv wu wq wm wy qd qz qm qw qq)(c__law_pick:Cal P w K mg base "_law_pick" 2 (uk K)):FnOk P w K mg base (CXE P w) 3 f fd ["_law_script","_law_at","_law_wide","_law_most"] (qxs K):=by
 have sc:=qxk
 refine F.okX sc (λvs H Q E h=>by obtain ⟨a,ns,i,wd,mo,rfl,_⟩:=h;rfl) (λcdv A outer s H vs Q E hr h=>?_)
 obtain ⟨a,ns,i,wd,mo,rfl,hS,i0,w1,w2,o1,o2,k⟩:=h
 refine ⟨_,(qy (xz (i:=4) sc.nd rfl (by walk_at "loc") (w4 xn qr (wp c__law_pick (hr.mono (by decide)) rfl qh (wx (pv 0) (wx (pv 1) (xx qr (wx (pv 3) qu)))))))
   (wvm (zq (xq k9 (wp c__law_pick (hr.mono (by decide)) rfl qh (wx (pv 0) (wx (pv 1) (xx qr (xx qr qu))))) qr (xk _)) (wj (xz (i:=4) sc.nd rfl (by walk_at "loc") (w4 xn qr (w4 vc (pv 4) qr)))) w9)
   (qy (xz (i:=5) sc.nd rfl (by walk_at "loc") (w4 xn (w4 x9 (wp c__law_pick (hr.mono (by decide)) rfl qh (wx (pv 0) (wx (pv 1) (xx qr (wx (pv 2) qu))))) (pv 4)) (wp c__law_pick (hr.mono (by decide)) rfl qh (wx (pv 0) (wx (pv 1) (xx qr (zp (w4 xn (pv 4) qr) qu)))))))
   (qy (xz (i:=6) sc.nd rfl (by walk_at "loc") (w4 xn qr (wp c__law_pick (hr.mono (by decide)) rfl qh (wx (pv 0) (wx (pv 1) (xx qr (xx qr qu)))))))
   (wj (w8 (vg (zp (w4 x9 (pv 5) (pv 6)) (zp (w4 x9 (pv 4) (pv 6)) qu))))))))),?_⟩
 refine exI rfl (exI rfl (exI rfl ⟨a,ns,_,_,_,rfl,hS,i0,(by lia),(by lia),(by lia),λr1 _ l1 u1=>?_⟩))
 refine ⟨_,_,rfl,rfl,λσ H'=>∃b,σ=[some (.ref a),some (.int i),some (.int wd),some (.int mo),some (.int b),none,none]∧1≤b∧b≤mo∧H'=H,?_,?_⟩
 ·refine exI rfl (exI rfl ⟨a,ns,_,_,_,rfl,hS,i0,(by lia),(by lia),(by lia),λr2 _ l2 u2=>?_⟩)
  refine ⟨rfl,_,rfl,jk (λq1=>?_) (λq1=>?_)⟩
  ·have e1:=br (1+r1) (show (6:Int)≠0 by decide)
   have e2:=bi (1+r1) (show (0:Int)<6 by decide)
   exact ⟨_,rfl,_,_,rfl,rfl,(by walk_at "pos"),_,_,rfl,rfl,_,rfl,by lia,by lia,rfl⟩
  ·exact ⟨_,rfl,by lia,by lia,rfl⟩
 ·rintro σ Hx ⟨b,rfl,b1,b2,rfl⟩
  refine exI rfl (exI rfl (exI rfl ⟨a,ns,_,_,_,rfl,hS,i0,(by lia),(by lia),(by lia),λr3 _ l3 u3=>?_⟩))
  refine exI rfl (w6 rfl rfl ⟨(by walk_at "mul"),exI rfl (exI rfl (exI rfl (w6 rfl rfl ⟨a,ns,_,_,_,rfl,hS,i0,(by lia),(by lia),(by lia),λr4 _ l4 u4=>?_⟩)))⟩)
  refine w6 rfl rfl ?_
  refine exI rfl (exI rfl ⟨a,ns,_,_,_,rfl,hS,i0,(by lia),(by lia),(by lia),λr5 _ l5 u5=>?_⟩)
  refine w6 rfl rfl ?_
  have h1:=aF (show r3≤wd-1 by lia) (show 0≤b by lia)
  have h2:(wd-1)*b=wd*b-b:=by rw [Int.sub_mul,Int.one_mul]
  have h3:=dv l3 (show 0≤b by lia)
  refine exI rfl ⟨V.int (1+r5),rfl,w6 rfl rfl ⟨(by walk_at "mul"),exI rfl ⟨V.int (1+r5),rfl,w6 rfl rfl ⟨(by walk_at "mul"),sz2,λp np=>?_⟩⟩⟩⟩
  exact k p _ b (1+r5) np b1 b2 (by lia) (by lia) (by lia) (by lia)
end
section
variable {P:Ac}{w:Ah}{K:Aa}{mg:Str→Option Ag}{base:Heap}{qf:Aj}{wz:Aj}{qk:Aj}{q9:Aj}{qg:Aj}{wv:Aj}{wu:Aj}{wq:Aj}{wm:Aj}{wy:Aj}{qd:Aj}{qz:Aj}{qm:Aj}{qw:Aj}{qq:Aj}
def quk (c:Nat):Bool:=!(Builtin.Str.occurrences (Str.ofString "abcdefghijklmnopqrstuvwxyz") ⟨#[c]⟩ 0 (Str.ofString "abcdefghijklmnopqrstuvwxyz").length 1).isEmpty
def jj (x:Str):Bool:=decide (1≤x.length∧x.length≤12)&&(List.range x.cps.size).all λi=>quk (x.cps.getD i 0)
def qqz:Sp:=λvs H Q _=>∃x:Str,vs=[.str x]∧x.length≤1000∧∀H',Same H H'→Q (.bl (jj x)) H'
theorem qk3 {f:Aj}{fd:Ad}(F:Fun K "is_name" "is_name" s_is_name f fd)(T:Txt K mg qf wz qk q9 qg wv wu wq wm wy qd qz qm qw qq):FnOk P w K mg base (CXE P w) 1 f fd ["name"] qqz:=by
 have sc:=qju
 refine F.okX sc (λvs H Q E h=>by obtain ⟨x,rfl,_⟩:=h;rfl) (λcdv A outer s H vs Q E hr h=>?_)
 obtain ⟨x,rfl,hx,k⟩:=h
 obtain ⟨tn,g_LONGEST_NAME⟩:=T.g_LONGEST_NAME
 obtain ⟨tl,g_LETTERS⟩:=T.g_LETTERS
 have big:(1000000:Nat)<sizeLine:=by decide
 refine ⟨_,(qy (zq (PW.pt (u8 (xq yt (xu Wc rfl T.len_ aV (wx (pv 0) qu)) qr (xk _)) (j7 (xq Wd (xu Wc rfl T.len_ aV (wx (pv 0) qu)) (yp (v:=V.int 12) rfl g_LONGEST_NAME ⟨_,rfl⟩) (xk _))))) (wj (w8 j3)) w9)
   (wj (w8 (xu (qqt rfl) rfl T.all_ wx2 (xf (uf (M:=[]) rfl rfl (by walk_at "cap") (by walk_at "has") (by walk_at "cix") rfl (by decide +kernel) rfl (show List.Nodup (["sign"]:List Str) by decide +kernel) (pi_str (pv 0)) (λ_ _ _ _ _=>(Yz qu4 (pv 0) (yp (v:=V.str "abcdefghijklmnopqrstuvwxyz") rfl g_LETTERS ⟨_,rfl⟩) rfl))) qu))))),?_⟩
 refine ⟨_,rfl,x,rfl,by lia,_,_,rfl,rfl,_,rfl,?_⟩
 have no:∀z:¬ (1≤x.length∧x.length≤12),jj x=false:=λz=>by unfold jj;rw [bp z];rfl
 refine jv (λq1=>?_) (λq1=>?_)
 ·refine ym ?_
  have:=k H (Same.refl _)
  rw [no (by lia)] at this
  exact this
 ·refine ⟨_,rfl,x,rfl,by lia,_,_,rfl,rfl,_,rfl,jv (λq2=>?_) (λq2=>?_)⟩
  ·have:=k H (Same.refl _)
   rw [no (by lia)] at this
   exact this
  ·refine exI rfl ⟨x,rfl,wzh (λi=>.bl (quk (x.cps.getD i 0))) (by show x.length≤1000000;lia) (λi H' R hi hs hR=>?_) λp np=>?_⟩
   ·exact exI rfl (w6 rfl rfl hR)
   ·have e:jj x=((List.range x.cps.size).map λi=>quk (x.cps.getD i 0)).all id:=by
     unfold jj
     rw [bD (show 1≤x.length∧x.length≤12 by lia),List.all_map]
     rfl
    refine ⟨p,(List.range x.cps.size).map λi=>quk (x.cps.getD i 0),rfl,?_,?_⟩
    ·rw [bS]
     exact SqL.new
    ·rw [←e]
     exact k _ (Same.upd np)
def uj (CN CT:Aj):Sp:=λvs H Q E=>∃(x:Str) (d:Aj) (kvs:List (Key×V)),vs=[.str x,.ref d]∧x.length≤1000∧H d=some (.dK kvs) ∧
 (jj x=true→wt kvs (.inr x)=none→∀H',Same H H'→Q .non H')∧(jj x=false→∀H',Same H H'→E (.ref CN) none H')∧(jj x=true→(wt kvs (.inr x)).isSome=true→∀H',Same H H'→E (.ref CT) none H')
theorem qvt {f:Aj}{fd:Ad}(F:Fun K "check_new_name" "check_new_name" s_check_new_name f fd)(T:Txt K mg qf wz qk q9 qg wv wu wq wm wy qd qz qm qw qq)(c_is_name:Cal P w K mg base "is_name" 1 qqz):FnOk P w K mg base (CXE P w) 2 f fd ["name","things"] (uj wq wm):=by
 have sc:=Q5
 refine F.okX sc (λvs H Q E h=>by obtain ⟨x,d,kvs,rfl,_⟩:=h;rfl) (λcdv A outer s H vs Q E hr h=>?_)
 obtain ⟨x,d,kvs,rfl,hx,hd,k,kn,kt⟩:=h
 refine ⟨_,(qy (zq (vf (vh (wp c_is_name (hr.mono (by decide)) rfl qh (wx (pv 0) qu)))) (wj (vk rfl T.x_BadName zg rfl T.g_BadName (xx xt qu))) w9)
   (wj (zq (Jb (pc_din (jq hr) (pv 0) (pv 1))) (wj (vk rfl T.x_Taken zg rfl T.g_Taken (xx xt qu))) w9))),?_⟩
 refine exI rfl ⟨x,rfl,hx,λH1 s1=>(exI rfl ?_)⟩
 have dg:DGet H1 d (.str x) (wt kvs (.inr x)):=DGet.k (k:=.inr x) (s1 _ _ hd)
 cases hn:jj x with
 |false=>exact ym ⟨sz1,kn hn H1 s1⟩
 |true =>
  refine ju (exI rfl (exI rfl ⟨d,exI rfl ⟨dg,_,rfl,?_⟩⟩))
  cases hv:wt kvs (.inr x) with
  |none=>exact ju (k hn hv H1 s1)
  |some v=>exact ym ⟨sz1,kt hn (by rw [hv];rfl) H1 s1⟩
def qx0:Sp:=λvs H Q _=>∃(t c:Aj) (R cs:List (Key×V)),vs=[.ref t,.ref c]∧t≠c∧H t=some (.dK R)∧Rd H c (.dK cs)∧(cs.map (·.1)).Nodup∧R.length≤1000∧cs.length≤1000∧qkw R cs ∧
 ∀q H',H q=none→H' q=some (.dK (bfK R cs))→H' t=some (.dK (exK R cs))→Rd H' c (.dK cs)→Kb [t,c] H H'→Q (.ref q) H'
theorem wv0 {f:Aj}{fd:Ad}(F:Fun K "exchange" "exchange" s_exchange f fd)(T:Txt K mg qf wz qk q9 qg wv wu wq wm wy qd qz qm qw qq):FnOk P w K mg base (CXE P w) 1 f fd ["things","changes"] qx0:=by
 have sc:=qvr
 refine F.okX sc (λvs H Q E h=>by obtain ⟨t,c,R,cs,rfl,_⟩:=h;rfl) (λcdv A outer s H vs Q E hr h=>?_)
 obtain ⟨t,c,R,cs,rfl,tc,ht,hc,nd,lR,lc,ok,k⟩:=h
 have big:(1000000:Nat)<sizeLine:=by decide
 refine ⟨_,(qy (Zc (i:=2) (M:=[0]) sc.nd rfl (by walk_at "loc") rfl rfl (by walk_at "cap") (by walk_at "has") (by walk_at "cix") rfl (by decide +kernel) rfl (show List.Nodup (["name","things"]:List Str) by decide +kernel) (pi_dk (pv 1)) (λ_ _ _ _ _=>(pv 0)) (λ_ _ _ _ _=>(wxh (jq hr) (pv 1) (pv 0) ⟨rfl,rfl,rfl,rfl⟩)))
   (qy (yw aY rfl (pi_di (pv 1)) (k7 rfl (xg (xj (i:=3) sc.nd rfl (by walk_at "loc")) (xg (xj (i:=4) sc.nd rfl (by walk_at "loc")) vb))) (wj (zq (xq op_isN (pv 4) qk6 (xk _)) (wj (wkd (pv 0) (pv 3))) (wj (Zt (jq hr) (pv 0) (pv 3) (pv 4) rfl)))))
   (wj (w8 (pv 2))))),?_⟩
 refine exI rfl ⟨c,cs,rfl,hc,λo H1 fz=>?_⟩
 have ht1:H1 t=some (.dK R):=by rw [fz.2 t tc];exact ht
 refine wz0 (λk=>(wt R k).getD .non) (by lia) nd fz.1 (λk H' RR s' hR=>(exI rfl (exI rfl ⟨t,rfl,.inl ⟨R,.inl (s' _ _ ht1)⟩,exI rfl ⟨_,DGet.k (k:=k) (s' _ _ ht1),hR⟩⟩))) λq nq=>?_
 have nq0:H q=none:=by
  cases e:H q with
  |none=>rfl
  |some ob =>
   by_cases z:q=c
   ·rw [z,fz.1] at nq;cases nq
   ·rw [fz.2 q z,e] at nq;cases nq
 have s2:Same H1 (upd H1 q (.dK (bfK R cs))):=Same.upd nq
 have fq:upd H1 q (.dK (bfK R cs)) q=some (.dK (bfK R cs)):=q8
 have c2:upd H1 q (.dK (bfK R cs)) c=some (.frz o (.dK cs)):=s2 _ _ fz.1
 have t2:upd H1 q (.dK (bfK R cs)) t=some (.dK R):=s2 _ _ ht1
 have tq:t≠q:=qj ht1 nq
 have kb:Kb [t,c] H (upd H1 q (.dK (bfK R cs))):=λb ob nb e=>s2 _ _ (by rw [fz.2 b (λz=>nb (by simp [z]))];exact e)
 have sel:(cs.map λc=>(c.1,(wt R c.1).getD .non))=bfK R cs:=rfl
 rw [sel]
 generalize upd H1 q (.dK (bfK R cs))=H2 at fq c2 t2 kb
 refine exI rfl ⟨c,cs,rfl,.inr ⟨o,c2⟩,λo' H3 fz3=>?_⟩
 have cq:q≠c:=λz=>by rw [z,c2] at fq;cases fq
 have t3:H3 t=some (.dK R):=by rw [fz3.2 t tc];exact t2
 have q3:H3 q=some (.dK (bfK R cs)):=by rw [fz3.2 q cq];exact fq
 have kb3:Kb [t,c] H H3:=λb ob nb e=>by rw [fz3.2 b (λz=>nb (by simp [z]))];exact kb b ob nb e
 refine for_di (λi σ H'=>(∃z3 z4,σ=[some (.ref t),some (.ref c),some (.ref q),z3,z4])∧H' c=some (.frz o' (.dK cs))∧H' q=some (.dK (bfK R cs))∧H' t=some (.dK (exK R (cs.take i)))∧Kb [t,c] H H') ⟨⟨_,_,rfl⟩,fz3.1,q3,t3,kb3⟩ (λi σ H' hi h=>h.2.1) ?_ ?_
 ·rintro i cc z σ H' ec nz ⟨⟨z3,z4,rfl⟩,a1,a2,a3,a4⟩
  have s4:Same H' (upd H' z (.tup [kV cc.1,cc.2])):=Same.upd nz
  refine ⟨z,exI rfl ⟨SqT.new,rfl,_,_,rfl,_,_,rfl,rfl,?_⟩⟩
  have b1:=s4 _ _ a1
  have b2:=s4 _ _ a2
  have b3:=s4 _ _ a3
  have b4:Kb [t,c] H (upd H' z (.tup [kV cc.1,cc.2])):=λb ob nb e=>s4 _ _ (a4 b ob nb e)
  generalize upd H' z (.tup [kV cc.1,cc.2])=H4 at b1 b2 b3 b4
  have le:=wvz R (cs.take i)
  have lt:(cs.take i).length≤1000:=by rw [bG];lia
  have et:=wv1 R ec
  have tq':t≠q:=tq
  have step:∀R',ex1 (exK R (cs.take i)) cc=R'→(∃z3' z4',[some (V.ref t),some (V.ref c),some (V.ref q),some (kV cc.1),some cc.2]=[some (V.ref t),some (V.ref c),some (V.ref q),z3',z4'])∧upd H4 t (.dK R') c=some (.frz o' (.dK cs))∧upd H4 t (.dK R') q=some (.dK (bfK R cs))∧upd H4 t (.dK R') t=some (.dK (exK R (cs.take (i+1))))∧Kb [t,c] H (upd H4 t (.dK R')):=λR' e=>by
   refine ⟨⟨_,_,rfl⟩,?_,?_,?_,λb ob nb e'=>?_⟩
   ·rw [wg (aW tc)];exact b1
   ·rw [wg (aW tq')];exact b2
   ·rw [q8,et,e]
   ·rw [wg (λz=>nb (by simp [z]))];exact b4 b ob nb e'
  refine exI rfl ⟨rfl,_,rfl,jv (λhn=>?_) (λhn=>?_)⟩
  ·exact exI rfl (exI rfl ⟨t,_,cc.1,rfl,b3,rfl,ok i cc ec hn,step _ (by unfold ex1;rw [ak hn])⟩)
  ·exact exI rfl (exI rfl (exI rfl ⟨t,exI rfl ⟨DPut.k (k:=cc.1) b3 (by lia),step _ (by unfold ex1;rw [ag hn])⟩⟩))
 ·rintro σ H' ⟨⟨z3,z4,rfl⟩,a1,a2,a3,a4⟩
  rw [cO] at a3
  exact exI rfl (k q H' nq0 a2 a3 (.inr ⟨o',a1⟩) a4)
end
section
variable {P:Ac}{w:Ah}{K:Aa}{mg:Str→Option Ag}{base:Heap}{qf:Aj}{wz:Aj}{qk:Aj}{q9:Aj}{qg:Aj}{wv:Aj}{wu:Aj}{wq:Aj}{wm:Aj}{wy:Aj}{qd:Aj}{qz:Aj}{qm:Aj}{qw:Aj}{qq:Aj}
def hF (dr dw dd:Aj):List (Str×V):=[("roads",.ref dr),("walkers",.ref dw),("done",.ref dd)]
theorem ku {dr dw dd:Aj}:(hF dr dw dd).lookup ("roads" : Str)=some (.ref dr):=by unfold hF;rw [aD];simp
theorem zh {dr dw dd:Aj}:(hF dr dw dd).lookup ("walkers" : Str)=some (.ref dw):=by
 unfold hF
 rw [aD,show (("walkers" : Str)==("roads" : Str))=false by decide +kernel]
 dsimp only
 rw [aD]
 simp
theorem um {dr dw dd:Aj}:(hF dr dw dd).lookup ("done" : Str)=some (.ref dd):=by
 unfold hF
 rw [aD,show (("done" : Str)==("roads" : Str))=false by decide +kernel]
 dsimp only
 rw [aD,show (("done" : Str)==("walkers" : Str))=false by decide +kernel]
 dsimp only
 rw [aD]
 simp
theorem x6 {dr dw dd:Aj}{m:Str}(h1:¬ m = "roads")(h2:¬ m = "walkers")(h3:¬ m = "done"):(hF dr dw dd).lookup m=none:=by
 unfold hF
 rw [aD,aK.mpr h1]
 dsimp only
 rw [aD,aK.mpr h2]
 dsimp only
 rw [aD,aK.mpr h3]
 rfl
structure Hse (C:Aj)(H:Hp)(x dr dw dd:Aj)(R W:List (Key×V))(D:List V):Prop where
 ob:∃dx,H x=some (.ins C dx (hF dr dw dd))
 r:H dr=some (.dK R)
 w:H dw=some (.dK W)
 d:H dd=some (.lst D)
 ne:dr≠dw
theorem Hse.kb {C:Aj}{H H':Hp}{x dr dw dd:Aj}{R W:List (Key×V)}{D:List V}(h:Hse C H x dr dw dd R W D){ch:List Aj}(k:Kb ch H H')(n:x∉ch∧dr∉ch∧dw∉ch∧dd∉ch):Hse C H' x dr dw dd R W D:=by
 obtain ⟨dx,e⟩:=h.ob
 exact ⟨⟨dx,k _ _ n.1 e⟩,k _ _ n.2.1 h.r,k _ _ n.2.2.1 h.w,k _ _ n.2.2.2 h.d,h.ne⟩
theorem Hse.same {C:Aj}{H H':Hp}{x dr dw dd:Aj}{R W:List (Key×V)}{D:List V}(h:Hse C H x dr dw dd R W D)(s:Same H H'):Hse C H' x dr dw dd R W D:=h.kb (ch:=[]) (Kb.of s) ⟨aj,aj,aj,aj⟩
def Yq (C:Aj):Sp:=λvs H Q _=>∃x dx,vs=[.ref x]∧H x=some (.ins C dx [])∧∀H' dr dw dd,H dr=none→H dw=none→H dd=none→Hse C H' x dr dw dd [] [] []→Kb [x] H H'→Q .non H'
theorem wwj {f:Aj}{fd:Ad}(F:Fun K "__init__" "House.__init__" s_House___init__ f fd)(T:Txt K mg qf wz qk q9 qg wv wu wq wm wy qd qz qm qw qq):FnOk P w K mg base (CXE P w) 1 f fd ["self"] (Yq qq):=by
 have sc:=Wu
 refine F.okX sc (λvs H Q E h=>by obtain ⟨x,dx,rfl,_⟩:=h;rfl) (λcdv A outer s H vs Q E hr h=>?_)
 obtain ⟨x,dx,rfl,hx,k⟩:=h
 refine ⟨_,(qy (yq (pv 0) jd rfl)
   (qy (yq (pv 0) jd rfl)
   (wj (yq (pv 0) (k6 qu) rfl)))),?_⟩
 refine λdr n1=>exI rfl ⟨x,qq,dx,[],rfl,(by rw [wg (qj hx n1)];exact hx),T.clH,T.naHr,(by show 0<1000;decide),?_⟩
 have e1:∀b o,b≠x→H b=some o→upd (upd H dr (.dK [])) x (.ins qq dx (z0 "roads" (.ref dr) [])) b=some o:=λb o nb e=>by rw [wg nb,wg (qj e n1)];exact e
 have x1:upd (upd H dr (.dK [])) x (.ins qq dx (z0 "roads" (.ref dr) [])) x=some (.ins qq dx (z0 "roads" (.ref dr) [])):=q8
 have r1:upd (upd H dr (.dK [])) x (.ins qq dx (z0 "roads" (.ref dr) [])) dr=some (.dK []):=by rw [wg (qj hx n1).symm,q8]
 generalize upd (upd H dr (.dK [])) x (.ins qq dx (z0 "roads" (.ref dr) []))=H1 at e1 x1 r1
 refine λdw n2=>exI rfl ⟨x,qq,dx,exI rfl ⟨(by rw [wg (qj x1 n2)];exact x1),T.clH,T.naHw,(by show 1<1000;decide),?_⟩⟩
 have xr:x≠dr:=qj hx n1
 have e2:∀b o,b≠x→H1 b=some o→upd (upd H1 dw (.dK [])) x (.ins qq dx (z0 "walkers" (.ref dw) (z0 "roads" (.ref dr) []))) b=some o:=λb o nb e=>by rw [wg nb,wg (qj e n2)];exact e
 have x2:upd (upd H1 dw (.dK [])) x (.ins qq dx (z0 "walkers" (.ref dw) (z0 "roads" (.ref dr) []))) x=some (.ins qq dx (z0 "walkers" (.ref dw) (z0 "roads" (.ref dr) []))):=q8
 have w2:upd (upd H1 dw (.dK [])) x (.ins qq dx (z0 "walkers" (.ref dw) (z0 "roads" (.ref dr) []))) dw=some (.dK []):=by rw [wg (qj x1 n2).symm,q8]
 have r2:=e2 dr _ xr.symm r1
 generalize upd (upd H1 dw (.dK [])) x (.ins qq dx (z0 "walkers" (.ref dw) (z0 "roads" (.ref dr) [])))=H2 at e2 x2 w2 r2
 have xw:x≠dw:=qj x1 n2
 refine ⟨sz0,λdd n3=>(exI rfl ⟨x,qq,dx,exI rfl ⟨(by rw [wg (qj x2 n3)];exact x2),T.clH,T.naHd,(by show 2<1000;decide),?_⟩⟩)⟩
 have xd:x≠dd:=qj x2 n3
 have e3:∀b o,b≠x→H2 b=some o→upd (upd H2 dd (.lst [])) x (.ins qq dx (z0 "done" (.ref dd) (z0 "walkers" (.ref dw) (z0 "roads" (.ref dr) [])))) b=some o:=λb o nb e=>by rw [wg nb,wg (qj e n3)];exact e
 have old:∀b o,b≠x→H b=some o→H2 b=some o:=λb o nb e=>e2 b o nb (e1 b o nb e)
 have non:∀b,b≠x→H2 b=none→H b=none:=λb nb e=>by
  cases q:H b with
  |none=>rfl
  |some o=>rw [old b o nb q] at e;cases e
 refine k _ dr dw dd n1 (by
  cases q:H dw with
  |none=>rfl
  |some o=>rw [e1 dw o xw.symm q] at n2;cases n2) (non dd xd.symm n3) ⟨⟨dx,q8⟩,e3 _ _ xr.symm r2,e3 _ _ xw.symm w2,?_,qj r1 n2⟩ λb o nb e=>e3 b o (λz=>nb (by simp [z])) (old b o (λz=>nb (by simp [z])) e)
 rw [wg xd.symm,q8]
def jw (C CN:Aj)(roads:Bool):Sp:=λvs H Q E=>∃(x dr dw dd:Aj) (R W:List (Key×V)) (D:List V) (n:Str),vs=[.ref x,.str n]∧Hse C H x dr dw dd R W D ∧
 (∀v,wt (if roads then R else W) (.inr n)=some v→Q v H)∧(wt (if roads then R else W) (.inr n)=none→E (.ref CN) none H)
theorem Jx {f:Aj}{fd:Ad}(F:Fun K "road_called" "House.road_called" s_House_road_called f fd)(T:Txt K mg qf wz qk q9 qg wv wu wq wm wy qd qz qm qw qq):FnOk P w K mg base (CXE P w) 1 f fd ["self","name"] (jw qq wy true):=by
 have sc:=y8
 refine F.okX sc (λvs H Q E h=>by obtain ⟨x,dr,dw,dd,R,W,D,n,rfl,_⟩:=h;rfl) (λcdv A outer s H vs Q E hr h=>?_)
 obtain ⟨x,dr,dw,dd,R,W,D,n,rfl,hh,k,kx⟩:=h
 obtain ⟨dx,hx⟩:=hh.ob
 have dg:DGet H dr (.str n) (wt R (.inr n)):=DGet.k (k:=.inr n) hh.r
 refine ⟨_,(qy (zq (Jb (uc (jq hr) (pv 1) (zu (pv 0) rfl))) (wj (vk rfl T.x_NoRoad zg rfl T.g_NoRoad (xx xt qu))) w9)
   (wj (w8 (yd (jq hr) (zu (pv 0) rfl) (pv 1) (λ_ _=>rfl))))),?_⟩
 refine exI rfl (exI rfl ⟨x,qq,dx,_,_,rfl,hx,T.clH,T.naHr,ku,dr,exI rfl ⟨dg,_,rfl,?_⟩⟩)
 cases e:wt R (.inr n) with
 |none=>exact ym ⟨sz1,kx e⟩
 |some v =>
  rw [e] at dg
  exact ju (exI rfl ⟨x,qq,dx,_,_,rfl,hx,T.clH,T.naHr,ku,exI rfl ⟨dr,v,rfl,dg,k v e⟩⟩)
theorem W6 {f:Aj}{fd:Ad}(F:Fun K "walker_called" "House.walker_called" s_House_walker_called f fd)(T:Txt K mg qf wz qk q9 qg wv wu wq wm wy qd qz qm qw qq):FnOk P w K mg base (CXE P w) 1 f fd ["self","name"] (jw qq qd false):=by
 have sc:=yb
 refine F.okX sc (λvs H Q E h=>by obtain ⟨x,dr,dw,dd,R,W,D,n,rfl,_⟩:=h;rfl) (λcdv A outer s H vs Q E hr h=>?_)
 obtain ⟨x,dr,dw,dd,R,W,D,n,rfl,hh,k,kx⟩:=h
 obtain ⟨dx,hx⟩:=hh.ob
 have dg:DGet H dw (.str n) (wt W (.inr n)):=DGet.k (k:=.inr n) hh.w
 refine ⟨_,(qy (zq (Jb (uc (jq hr) (pv 1) (zu (pv 0) rfl))) (wj (vk rfl T.x_NoWalker zg rfl T.g_NoWalker (xx xt qu))) w9)
   (wj (w8 (yd (jq hr) (zu (pv 0) rfl) (pv 1) (λ_ _=>rfl))))),?_⟩
 refine exI rfl (exI rfl ⟨x,qq,dx,_,_,rfl,hx,T.clH,T.naHw,zh,dw,exI rfl ⟨dg,_,rfl,?_⟩⟩)
 cases e:wt W (.inr n) with
 |none=>exact ym ⟨sz1,kx e⟩
 |some v =>
  rw [e] at dg
  exact ju (exI rfl ⟨x,qq,dx,_,_,rfl,hx,T.clH,T.naHw,zh,exI rfl ⟨dw,v,rfl,dg,k v e⟩⟩)
def qqn (C:Aj):Sp:=λvs H Q _=>∃(x dr dw dd c1 c2:Aj) (R W cs1 cs2:List (Key×V)) (D:List V),vs=[.ref x,.ref c1,.ref c2]∧Hse C H x dr dw dd R W D∧Rd H c1 (.dK cs1)∧Rd H c2 (.dK cs2)∧c1≠c2∧c1≠dr∧c1≠dw∧c2≠dr∧c2≠dw ∧
 (cs1.map (·.1)).Nodup∧(cs2.map (·.1)).Nodup∧R.length≤1000∧W.length≤1000∧cs1.length≤1000∧cs2.length≤1000∧D.length≤1000000∧qkw R cs1∧qkw W cs2 ∧
 ∀H' tp q1 q2,H tp=none→H q1=none→H q2=none→Hse C H' x dr dw dd (exK R cs1) (exK W cs2) (D++[.ref tp])→H' tp=some (.tup [.ref q1,.ref q2])→H' q1=some (.dK (bfK R cs1))→H' q2=some (.dK (bfK W cs2))→q1≠q2→Rd H' c2 (.dK cs2)→Kb [dr,dw,dd,c1,c2] H H'→Q .non H'
theorem ok_do {f:Aj}{fd:Ad}(F:Fun K "do" "House.do" s_House_do f fd)(T:Txt K mg qf wz qk q9 qg wv wu wq wm wy qd qz qm qw qq)(c_exchange:Cal P w K mg base "exchange" 1 qx0):FnOk P w K mg base (CXE P w) 2 f fd ["self","roads","walkers"] (qqn qq):=by
 have sc:=qv7
 refine F.okX sc (λvs H Q E h=>by obtain ⟨x,dr,dw,dd,c1,c2,R,W,cs1,cs2,D,rfl,_⟩:=h;rfl) (λcdv A outer s H vs Q E hr h=>?_)
 obtain ⟨x,dr,dw,dd,c1,c2,R,W,cs1,cs2,D,rfl,hh,h1,h2,n12,n1r,n1w,n2r,n2w,nd1,nd2,lR,lW,l1,l2,lD,ok1,ok2,k⟩:=h
 obtain ⟨dx,hx⟩:=hh.ob
 have big:(1000000:Nat)<sizeLine:=by decide
 have isI:∀ {b o},Rd H b (.dK o)→x≠b:=λ{b o} hb z=>by
  rcases hb with hb|⟨u,hb⟩ <;> (rw [←z,hx] at hb;cases hb)
 have isD:∀ {b o},Rd H b (.dK o)→dd≠b:=λ{b o} hb z=>by
  rcases hb with hb|⟨u,hb⟩ <;> (rw [←z,hh.d] at hb;cases hb)
 have xr:=isI (.inl hh.r)
 have xw:=isI (.inl hh.w)
 have x1:=isI h1
 have x2:=isI h2
 have dr':=isD (.inl hh.r)
 have dw':=isD (.inl hh.w)
 have d1:=isD h1
 have d2:=isD h2
 refine ⟨_,(wj (zw (qy5 bN ck cm jn (zu (pv 0) rfl) (qwm (vg (js (wp c_exchange (hr.mono (by decide)) rfl qh (xf (zu (pv 0) rfl) (wx (pv 1) qu))) (js (wp c_exchange (hr.mono (by decide)) rfl qh (xf (zu (pv 0) rfl) (wx (pv 2) qu))) qu))) qu)))),?_⟩
 refine exI rfl ⟨x,qq,dx,_,_,rfl,hx,T.clH,T.naHd,um,.inl ⟨rfl,_,SqL.of hh.d⟩,?_⟩
 refine exI rfl ⟨x,qq,dx,_,_,rfl,hx,T.clH,T.naHr,ku,exI rfl ⟨dr,c1,R,cs1,rfl,aW n1r,hh.r,h1,nd1,lR,l1,ok1,λq1 H1 nq1 fq1 fr1 fc1 kb1=>?_⟩⟩
 have m1:∀b,b≠dr→b≠c1→b∉[dr,c1]:=λb a1 a2 z=>by
  rcases ai.mp z with z|z
  ·exact a1 z
  ·exact a2 (aq.mp z)
 have hx1:=kb1 _ _ (m1 x xr x1) hx
 have hw1:=kb1 _ _ (m1 dw (aW hh.ne) (aW n1w)) hh.w
 have hd1:=kb1 _ _ (m1 dd dr' d1) hh.d
 have hc2:=kb1.rd (m1 c2 n2r (aW n12)) h2
 refine exI rfl ⟨x,qq,dx,_,_,rfl,hx1,T.clH,T.naHw,zh,exI rfl ⟨dw,c2,W,cs2,rfl,aW n2w,hw1,hc2,nd2,lW,l2,ok2,λq2 H2 nq2 fq2 fw2 fc2 kb2=>?_⟩⟩
 have m2:∀b,b≠dw→b≠c2→b∉[dw,c2]:=λb a1 a2 z=>by
  rcases ai.mp z with z|z
  ·exact a1 z
  ·exact a2 (aq.mp z)
 have q1w:q1≠dw:=λz=>by rw [z,hh.w] at nq1;cases nq1
 have q1c:q1≠c2:=λz=>by rcases h2 with h2|⟨u,h2⟩ <;> (rw [z,h2] at nq1;cases nq1)
 have fq1':=kb2 _ _ (m2 q1 q1w q1c) fq1
 have q12:q1≠q2:=qj fq1 nq2
 have nq2':H q2=none:=by
  cases e:H q2 with
  |none=>rfl
  |some o =>
   by_cases z:q2=dr∨q2=c1
   ·rcases z with z|z
    ·rw [z,fr1] at nq2;cases nq2
    ·rcases fc1 with g|⟨u,g⟩ <;> (rw [z,g] at nq2;cases nq2)
   ·rw [kb1 _ _ (m1 q2 (λy=>z (.inl y)) (λy=>z (.inr y))) e] at nq2;cases nq2
 refine ⟨sz2,λtp ntp=>?_⟩
 have hx2:=kb2 _ _ (m2 x xw x2) hx1
 have hr2:=kb2 _ _ (m2 dr hh.ne (aW n2r)) fr1
 have hd2:=kb2 _ _ (m2 dd dw' d2) hd1
 have old:∀b o,b∉[dr,dw,dd,c1,c2]→H b=some o→H2 b=some o:=λb o nb e=>by
  simp only [ai,aj,be,not_or] at nb
  exact kb2 _ _ (m2 b nb.2.1 nb.2.2.2.2) (kb1 _ _ (m1 b nb.1 nb.2.2.2.1) e)
 have rd2:∀b,b=dr∨b=dw∨b=dd∨b=c1∨b=c2→H2 b≠none:=λb h z=>by
  rcases h with h|h|h|h|h
  ·rw [h,hr2] at z;cases z
  ·rw [h,fw2] at z;cases z
  ·rw [h,hd2] at z;cases z
  ·by_cases y:c1=dw
   ·exact n1w y
   ·rcases fc1 with g|⟨u,g⟩ <;> (rw [h,kb2 _ _ (m2 c1 n1w n12) g] at z;cases z)
  ·rcases fc2 with g|⟨u,g⟩ <;> (rw [h,g] at z;cases z)
 have ntp0:H tp=none:=by
  cases e:H tp with
  |none=>rfl
  |some o =>
   by_cases z:tp=dr∨tp=dw∨tp=dd∨tp=c1∨tp=c2
   ·exact absurd ntp (rd2 tp z)
   ·rw [old tp o (by simp only [ai,aj,be];exact z) e] at ntp;cases ntp
 have s3:Same H2 (upd H2 tp (.tup [.ref q1,.ref q2])):=Same.upd ntp
 have ft:upd H2 tp (.tup [.ref q1,.ref q2]) tp=some (.tup [.ref q1,.ref q2]):=q8
 generalize upd H2 tp (.tup [.ref q1,.ref q2])=H3 at s3 ft
 have hd3:=s3 _ _ hd2
 refine ⟨dd,D,_,rfl,rfl,hd3,by lia,?_⟩
 have ne3:∀b o,b≠dd→H3 b=some o→upd H3 dd (.lst (D++[.ref tp])) b=some o:=λb o nb e=>by rw [wg nb];exact e
 have kq:∀b kv,H3 b=some (.dK kv)→b≠dd:=λb kv e z=>by rw [z,hd3] at e;cases e
 have rd3:Rd (upd H3 dd (.lst (D++[.ref tp]))) c2 (.dK cs2):=by
  rcases fc2 with e|⟨u,e⟩
  ·exact .inl (ne3 _ _ (aW d2) (s3 _ _ e))
  ·exact .inr ⟨u,ne3 _ _ (aW d2) (s3 _ _ e)⟩
 refine k _ tp q1 q2 ntp0 nq1 nq2' ⟨⟨dx,ne3 _ _ (λz=>by rw [z] at hx;rw [hh.d] at hx;cases hx) (s3 _ _ hx2)⟩,ne3 _ _ (aW dr') (s3 _ _ hr2),ne3 _ _ (aW dw') (s3 _ _ fw2),q8,hh.ne⟩ (ne3 _ _ (λz=>by rw [z,hd3] at ft;cases ft) ft) (ne3 _ _ (kq _ _ (s3 _ _ fq1')) (s3 _ _ fq1')) (ne3 _ _ (kq _ _ (s3 _ _ fq2)) (s3 _ _ fq2)) q12 rd3 λb o nb e=>?_
 exact ne3 _ _ (λz=>nb (by simp [z])) (s3 _ _ (old b o nb e))
end
section
variable {P:Ac}{w:Ah}{K:Aa}{mg:Str→Option Ag}{base:Heap}{qf:Aj}{wz:Aj}{qk:Aj}{q9:Aj}{qg:Aj}{wv:Aj}{wu:Aj}{wq:Aj}{wm:Aj}{wy:Aj}{qd:Aj}{qz:Aj}{qm:Aj}{qw:Aj}{qq:Aj}
def qz3 (D:List V):Prop:=∀v∈D,∃a,v=V.ref a
theorem RoadAt.kb {C CH:Aj}{H H':Hp}{r:Aj}{hs:List Int}(h:RoadAt C H r hs)(ok:x4 hs){ch:List Aj}{D:List V}(k:Kb ch H H')(rf:qz3 D)(hc:∀b∈ch,(∃kv,Rd H b (.dK kv))∨H b=some (.lst D)):RoadAt C H' r hs:=by
 obtain ⟨dx,q,h1,h2⟩:=h
 refine ⟨dx,q,k _ _ (λz=>?_) h1,k _ _ (λz=>?_) h2⟩
 ·rcases hc r z with ⟨kv,e|⟨o,e⟩⟩|e <;> (rw [h1] at e;cases e)
 ·rcases hc q z with ⟨kv,e|⟨o,e⟩⟩|e
  ·rw [h2] at e;cases e
  ·rw [h2] at e;cases e
  ·rw [h2] at e
   have e:hs.map V.int=D:=by cases e;rfl
   have l:=ok.1
   have m:V.int (hs[0]'(by lia))∈hs.map V.int:=aw.mpr ⟨_,cM _,rfl⟩
   rw [e] at m
   obtain ⟨a,ea⟩:=rf _ m
   cases ea
theorem wzv {H H3:Hp}{c1 c2:Aj}{o1 o2 o3:HO}(n1:H c1=none)(s3:Same (upd H c1 o1) H3)(n2:upd H3 c1 o2 c2=none):Same H (upd (upd H3 c1 o2) c2 o3):=λb o e=>by
 have b1:b≠c1:=qj e n1
 have e3:H3 b=some o:=s3 _ _ (by rw [wg b1];exact e)
 have e4:upd H3 c1 o2 b=some o:=by rw [wg b1];exact e3
 rw [wg (qj e4 n2)]
 exact e4
theorem wvu {C CR:Aj}{H H3:Hp}{x dr dw dd c1 r:Aj}{R W:List (Key×V)}{D:List V}{n:Str}{hs:List Int}{Q:VK}{E:XK}(hh:Hse C H x dr dw dd R W D)(n1:H c1=none)(s3:Same (upd H c1 (.dK [])) H3)(R3:RoadAt CR H3 r hs)(okl:x4 hs)(rf:qz3 D)(lR:R.length≤1000)(lW:W.length≤1000)(lD:D.length≤1000000)
  (k:∀H' tp q1 q2,H tp=none→H q1=none→H q2=none→Hse C H' x dr dw dd (vj R (.inr n) (.ref r)) W (D++[.ref tp])→H' tp=some (.tup [.ref q1,.ref q2])→H' q1=some (.dK [(.inr n,(wt R (.inr n)).getD .non)])→H' q2=some (.dK [])→q1≠q2→RoadAt CR H' r hs→Kb [dr,dw,dd] H H'→Q .non H') :
  ∀c2,upd H3 c1 (.dK [(.inr n,.ref r)]) c2=none→qqn C [.ref x,.ref c1,.ref c2] (upd (upd H3 c1 (.dK [(.inr n,.ref r)])) c2 (.dK [])) Q E:=by
 intro c2 n2
 have s4:Same H (upd (upd H3 c1 (.dK [(.inr n,.ref r)])) c2 (.dK [])):=wzv n1 s3 n2
 have c12:c1≠c2:=λz=>by rw [←z,q8] at n2;cases n2
 have e1:upd (upd H3 c1 (.dK [(.inr n,.ref r)])) c2 (.dK []) c1=some (.dK [(.inr n,.ref r)]):=by rw [wg c12,q8]
 have e2:upd (upd H3 c1 (.dK [(.inr n,.ref r)])) c2 (.dK []) c2=some (.dK []):=q8
 have h31:H3 c1=some (.dK []):=s3 _ _ q8
 have R4:RoadAt CR (upd (upd H3 c1 (.dK [(.inr n,.ref r)])) c2 (.dK [])) r hs:=by
  obtain ⟨dx,q,a1,a2⟩:=R3
  have keep:∀b o,(∀kv,o≠HO.dK kv)→H3 b=some o→upd (upd H3 c1 (.dK [(.inr n,.ref r)])) c2 (.dK []) b=some o:=λb o no e=>by
   have b1:b≠c1:=λz=>by rw [z,h31] at e;cases e;exact no _ rfl
   have e4:upd H3 c1 (.dK [(.inr n,.ref r)]) b=some o:=by rw [wg b1];exact e
   rw [wg (qj e4 n2)]
   exact e4
  exact ⟨dx,q,keep _ _ (λkv z=>by cases z) a1,keep _ _ (λkv z=>by cases z) a2⟩
 have n20:H c2=none:=by
  cases q:H c2 with
  |none=>rfl
  |some o =>
   have b1:c2≠c1:=aW c12
   rw [wg b1,s3 _ _ (show upd H c1 (.dK []) c2=some o by rw [wg b1];exact q)] at n2
   cases n2
 generalize upd (upd H3 c1 (.dK [(.inr n,.ref r)])) c2 (.dK [])=H4 at s4 e1 e2 R4
 have hh4:=hh.same s4
 refine ⟨x,dr,dw,dd,c1,c2,R,W,[(.inr n,.ref r)],[],D,rfl,hh4,.inl e1,.inl e2,c12,(qj hh.r n1).symm,(qj hh.w n1).symm,(qj hh.r n20).symm,(qj hh.w n20).symm,aS.mpr ⟨aj,aU⟩,aU,lR,lW,by show 1≤1000;decide,aB _,lD,λi c ec hc=>?_,(λi c ec hc=>nomatch ec),λH' tp q1 q2 a1 a2 a3 a4 a5 a6 a7 a8 _ a9=>?_⟩
 ·cases i with
  |zero=>cases ec;cases hc
  |succ i=>cases ec
 ·have no:∀b,H4 b=none→H b=none:=λb e=>xb s4 e
  have rd:RoadAt CR H' r hs:=R4.kb (CH:=C) okl a9 rf λb hb=>by
   simp only [ai,aj,be] at hb
   rcases hb with rfl|rfl|rfl|rfl|rfl
   ·exact .inl ⟨_,.inl hh4.r⟩
   ·exact .inl ⟨_,.inl hh4.w⟩
   ·exact .inr hh4.d
   ·exact .inl ⟨_,.inl e1⟩
   ·exact .inl ⟨_,.inl e2⟩
  refine k H' tp q1 q2 (no _ a1) (no _ a2) (no _ a3) a4 a5 a6 a7 a8 rd λb o nb e=>a9 b o (λz=>?_) (s4 _ _ e)
  simp only [ai,aj,be] at z nb
  rcases z with z|z|z|z|z
  ·exact nb (.inl z)
  ·exact nb (.inr (.inl z))
  ·exact nb (.inr (.inr z))
  ·rw [z,n1] at e;cases e
  ·rw [z,n20] at e;cases e
def RDeed (C CR:Aj)(H H':Hp)(x dr dw dd:Aj)(R W:List (Key×V))(D:List V)(n:Str)(hs:List Int):Prop:=∃r tp q1 q2,H tp=none∧H q1=none∧H q2=none∧Hse C H' x dr dw dd (vj R (.inr n) (.ref r)) W (D++[.ref tp])∧H' tp=some (.tup [.ref q1,.ref q2])∧H' q1=some (.dK [(.inr n,(wt R (.inr n)).getD .non)])∧H' q2=some (.dK [])∧q1≠q2∧RoadAt CR H' r hs∧Kb [dr,dw,dd] H H'
theorem RDeed.pre {C CR:Aj}{H0 H H':Hp}{x dr dw dd:Aj}{R W:List (Key×V)}{D:List V}{n:Str}{hs:List Int}(h:RDeed C CR H H' x dr dw dd R W D n hs)(s:Same H0 H):RDeed C CR H0 H' x dr dw dd R W D n hs:=by
 obtain ⟨r,tp,q1,q2,a1,a2,a3,a4,a5,a6,a7,a8,a9,b1⟩:=h
 exact ⟨r,tp,q1,q2,xb s a1,xb s a2,xb s a3,a4,a5,a6,a7,a8,a9,λb o nb e=>b1 b o nb (s _ _ e)⟩
def qy0 (K:Aa)(C CR CN CT CL:Aj):Sp:=λvs H Q E=>∃(x dr dw dd p:Aj) (R W:List (Key×V)) (D:List V) (n:Str) (hs:List Int),vs=[.ref x,.str n,.ref p]∧Hse C H x dr dw dd R W D∧qz3 D∧R.length≤1000∧W.length≤1000∧D.length≤1000000∧n.length≤1000∧H p=some (.lst (hs.map V.int)) ∧
 (jj n=true→wt R (.inr n)=none→x4 hs→∀H',RDeed C CR H H' x dr dw dd R W D n hs→Q .non H')∧(jj n=false→∀H',Same H H'→E (.ref CN) none H')∧(jj n=true→(wt R (.inr n)).isSome=true→∀H',Same H H'→E (.ref CT) none H')∧(jj n=true→wt R (.inr n)=none→¬ x4 hs→∀H',Same H H'→E (.ref CL) none H')
theorem ok_lay {f:Aj}{fd:Ad}(F:Fun K "lay" "House.lay" s_House_lay f fd)(T:Txt K mg qf wz qk q9 qg wv wu wq wm wy qd qz qm qw qq)(c_check_new_name:Cal P w K mg base "check_new_name" 2 (uj wq wm))(c_Road:CCal P w K mg base "Road" qm 2 (qxm K wz qm))(c_do:MCal P w K mg base qq "do" 2 (qqn qq)) :
  FnOk P w K mg base (CXE P w) 4 f fd ["self","name","heights"] (qy0 K qq qm wq wm wz):=by
 have sc:=qzj
 refine F.okX sc (λvs H Q E h=>by obtain ⟨x,dr,dw,dd,p,R,W,D,n,hs,rfl,_⟩:=h;rfl) (λcdv A outer s H vs Q E hr h=>?_)
 obtain ⟨x,dr,dw,dd,p,R,W,D,n,hs,rfl,hh,rf,lR,lW,lD,ln,hp,k,kn,kt,kl⟩:=h
 obtain ⟨dx,hx⟩:=hh.ob
 refine ⟨_,(qy (zw (wp c_check_new_name (hr.mono (by decide)) rfl qh (wx (pv 1) (xf (zu (pv 0) rfl) qu))))
   (wj (zw (xp (pv 0) T.clH c_do (hr.mono (by decide)) qh (xf (Z1 (Wf (pv 1) (qqq c_Road (hr.mono (by decide)) rfl qh (wx (pv 2) qu)) Z4) rfl rfl (λz=>nomatch z) (by decide)) (xf jd qu)))))),?_⟩
 refine ⟨_,rfl,_,rfl,x,qq,dx,_,_,rfl,hx,T.clH,T.naHr,ku,n,dr,R,rfl,ln,hh.r,λa1 a2 H1 s1=>?_,kn,kt⟩
 have hh1:=hh.same s1
 refine exI rfl ⟨x,dx,exI rfl ⟨s1 _ _ hx,x6 (by decide +kernel) (by decide +kernel) (by decide +kernel),λc1 n1=>(exI rfl (exI rfl (λr d0 nr nd0 ne0=>wk6 (H:=upd H1 c1 (.dK [])) (hs:=hs) (by rw [wg (qj (s1 _ _ hp) n1)];exact s1 _ _ hp) nr nd0 (λokl H3 s3 R3=>?_) λz H3 s3=>kl a1 a2 z H3 (s1.trans (λb o e=>s3 _ _ (by rw [wg (qj e n1)];exact e))))))⟩⟩
 refine ⟨s3 _ _ q8,[(.inr n,.ref r)],rfl,(show 1≤15 by decide),?_⟩
 exact wvu (E:=E) hh1 n1 s3 R3 okl rf lR lW lD λH' tp q1 q2 b1 b2 b3 b4 b5 b6 b7 b8 b9 kb=>k a1 a2 okl H' (RDeed.pre ⟨r,tp,q1,q2,b1,b2,b3,b4,b5,b6,b7,b8,b9,kb⟩ s1)
def Qc (C CN:Aj):Sp:=λvs H Q E=>∃(x dr dw dd:Aj) (R W:List (Key×V)) (D:List V),vs=[.ref x]∧Hse C H x dr dw dd R W D∧R.length≤1000∧W.length≤1000∧(D=[]→E (.ref CN) none H) ∧
 (∀D' v,D=D'++[v]→∃tp c1 c2 cs1 cs2,v=.ref tp∧H tp=some (.tup [.ref c1,.ref c2])∧Rd H c1 (.dK cs1)∧Rd H c2 (.dK cs2)∧c1≠c2∧c1≠dr∧c1≠dw∧c2≠dr∧c2≠dw∧(cs1.map (·.1)).Nodup∧(cs2.map (·.1)).Nodup∧cs1.length≤1000∧cs2.length≤1000∧qkw R cs1∧qkw W cs2 ∧
  ∀H',Hse C H' x dr dw dd (exK R cs1) (exK W cs2) D'→Rd H' c1 (.dK cs1)→Rd H' c2 (.dK cs2)→Kb [dr,dw,dd,c1,c2] H H'→Q .non H')
theorem wkr {f:Aj}{fd:Ad}(F:Fun K "take_back" "House.take_back" s_House_take_back f fd)(T:Txt K mg qf wz qk q9 qg wv wu wq wm wy qd qz qm qw qq)(c_exchange:Cal P w K mg base "exchange" 1 qx0):FnOk P w K mg base (CXE P w) 2 f fd ["self"] (Qc qq qz):=by
 have sc:=Qv
 refine F.okX sc (λvs H Q E h=>by obtain ⟨x,dr,dw,dd,R,W,D,rfl,_⟩:=h;rfl) (λcdv A outer s H vs Q E hr h=>?_)
 obtain ⟨x,dr,dw,dd,R,W,D,rfl,hh,lR,lW,kx,k⟩:=h
 obtain ⟨dx,hx⟩:=hh.ob
 refine ⟨_,(qy (zq (xq k9 (xu x8 rfl T.len_ aV (xf (zu (pv 0) rfl) qu)) qr (xk _)) (wj (vk rfl T.x_NothingDone zg rfl T.g_NothingDone (xx xt qu))) w9)
   (qy (j6 (pe_bm0 bN PySem.F.slot_list_pop PySem.F.type_list_pop mt_pop (zu (pv 0) rfl)) (k7 rfl (xg (xj (i:=1) sc.nd rfl (by walk_at "loc")) (xg (xj (i:=2) sc.nd rfl (by walk_at "loc")) vb))))
   (qy (zw (wp c_exchange (hr.mono (by decide)) rfl qh (xf (zu (pv 0) rfl) (wx (pv 1) qu))))
   (wj (zw (wp c_exchange (hr.mono (by decide)) rfl qh (xf (zu (pv 0) rfl) (wx (pv 2) qu)))))))),?_⟩
 refine exI rfl ⟨x,qq,dx,_,_,rfl,hx,T.clH,T.naHd,um,dd,exI rfl ⟨.inl (SqL.of hh.d),rfl,_,rfl,jk (λz=>?_) (λz=>?_)⟩⟩
 ·exact ⟨sz1,kx (dP (by lia))⟩
 ·have ne:D≠[]:=λy=>z (by rw [y];rfl)
  have eD:D=D.dropLast++[D.getLast ne]:=(List.dropLast_concat_getLast ne).symm
  obtain ⟨tp,c1,c2,cs1,cs2,ev,ht,h1,h2,n12,n1r,n1w,n2r,n2w,nd1,nd2,l1,l2,ok1,ok2,k⟩:=k _ _ eD
  have eL:D[D.length-1]?=some (.ref tp):=by rw [←List.getLast?_eq_getElem?,List.getLast?_eq_getLast ne,ev]
  refine exI rfl ⟨x,qq,dx,_,_,rfl,hx,T.clH,T.naHd,um,.inl ⟨rfl,_,SqL.of hh.d⟩,dd,D,exI rfl ⟨rfl,hh.d,eL,?_⟩⟩
  have k0:∀b o,b≠dd→H b=some o→upd H dd (.lst D.dropLast) b=some o:=λb o nb e=>by rw [wg nb];exact e
  have d0:upd H dd (.lst D.dropLast) dd=some (.lst D.dropLast):=q8
  have kd:∀b kv,Rd H b (.dK kv)→b≠dd:=λb kv hb y=>by rcases hb with hb|⟨o,hb⟩ <;> (rw [y,hh.d] at hb;cases hb)
  have kx':x≠dd:=λy=>by rw [y,hh.d] at hx;cases hx
  have kt:tp≠dd:=λy=>by rw [y,hh.d] at ht;cases ht
  have rd0:∀b kv,Rd H b (.dK kv)→Rd (upd H dd (.lst D.dropLast)) b (.dK kv):=λb kv hb=>by
   have nb:=kd b kv hb
   rcases hb with hb|⟨o,hb⟩
   ·exact .inl (k0 _ _ nb hb)
   ·exact .inr ⟨o,k0 _ _ nb hb⟩
  have r0:=k0 _ _ (kd _ _ (.inl hh.r)) hh.r
  have w0:=k0 _ _ (kd _ _ (.inl hh.w)) hh.w
  have x0:=k0 _ _ kx' hx
  have t0:=k0 _ _ kt ht
  have h10:=rd0 _ _ h1
  have h20:=rd0 _ _ h2
  have kb0:Kb [dd] H (upd H dd (.lst D.dropLast)):=λb o nb e=>k0 b o (λy=>nb (by simp [y])) e
  have dd1:=kd _ _ h1
  have dd2:=kd _ _ h2
  have ddr:=kd _ _ (.inl hh.r)
  have ddw:=kd _ _ (.inl hh.w)
  generalize upd H dd (.lst D.dropLast)=H0 at d0 r0 w0 x0 t0 h10 h20 kb0
  refine ⟨tp,exI rfl ⟨SqT.of t0,rfl,_,_,rfl,_,_,rfl,rfl,?_⟩⟩
  have isI:∀ {b o},Rd H0 b (.dK o)→x≠b:=λ{b o} hb y=>by rcases hb with hb|⟨u,hb⟩ <;> (rw [←y,x0] at hb;cases hb)
  have xr:=isI (.inl r0)
  have xw:=isI (.inl w0)
  have x1:=isI h10
  have x2:=isI h20
  have m1:∀b,b≠dr→b≠c1→b∉[dr,c1]:=λb a1 a2 y=>by
   rcases ai.mp y with y|y
   ·exact a1 y
   ·exact a2 (aq.mp y)
  have m2:∀b,b≠dw→b≠c2→b∉[dw,c2]:=λb a1 a2 y=>by
   rcases ai.mp y with y|y
   ·exact a1 y
   ·exact a2 (aq.mp y)
  refine exI rfl ⟨x,qq,dx,_,_,rfl,x0,T.clH,T.naHr,ku,exI rfl ⟨dr,c1,R,cs1,rfl,aW n1r,r0,h10,nd1,lR,l1,ok1,λq1 H1 nq1 fq1 fr1 fc1 kb1=>?_⟩⟩
  have hx1:=kb1 _ _ (m1 x xr x1) x0
  have hw1:=kb1 _ _ (m1 dw (aW hh.ne) (aW n1w)) w0
  have hd1:=kb1 _ _ (m1 dd (aW ddr) (aW dd1)) d0
  have hc2:=kb1.rd (m1 c2 n2r (aW n12)) h20
  refine exI rfl ⟨x,qq,dx,_,_,rfl,hx1,T.clH,T.naHw,zh,exI rfl ⟨dw,c2,W,cs2,rfl,aW n2w,hw1,hc2,nd2,lW,l2,ok2,λq2 H2 nq2 fq2 fw2 fc2 kb2=>?_⟩⟩
  refine k H2 ⟨⟨dx,kb2 _ _ (m2 x xw x2) hx1⟩,kb2 _ _ (m2 dr hh.ne (aW n2r)) fr1,fw2,kb2 _ _ (m2 dd (aW ddw) (aW dd2)) hd1,hh.ne⟩ (kb2.rd (m2 c1 n1w n12) fc1) fc2 λb o nb e=>?_
  simp only [ai,aj,be,not_or] at nb
  exact kb2 _ _ (m2 b nb.2.1 nb.2.2.2.2) (kb1 _ _ (m1 b nb.1 nb.2.2.2.1) (kb0 b o (by simpa using nb.2.2.1) e))
end
section
variable {P:Ac}{w:Ah}{K:Aa}{mg:Str→Option Ag}{base:Heap}{qf:Aj}{wz:Aj}{qk:Aj}{q9:Aj}{qg:Aj}{wv:Aj}{wu:Aj}{wq:Aj}{wm:Aj}{wy:Aj}{qd:Aj}{qz:Aj}{qm:Aj}{qw:Aj}{qq:Aj}
def wF (n:Str)(p t:Aj):List (Str×V):=[("whose",.str n),("point",.ref p),("times",.ref t)]
theorem Qu {n:Str}{p t:Aj}:(wF n p t).lookup ("whose" : Str)=some (.str n):=by unfold wF;rw [aD];simp
theorem Qz {n:Str}{p t:Aj}:(wF n p t).lookup ("point" : Str)=some (.ref p):=by
 unfold wF
 rw [aD,show (("point" : Str)==("whose" : Str))=false by decide +kernel]
 dsimp only
 rw [aD]
 simp
theorem Ym {n:Str}{p t:Aj}:(wF n p t).lookup ("times" : Str)=some (.ref t):=by
 unfold wF
 rw [aD,show (("times" : Str)==("whose" : Str))=false by decide +kernel]
 dsimp only
 rw [aD,show (("times" : Str)==("point" : Str))=false by decide +kernel]
 dsimp only
 rw [aD]
 simp
theorem qv4 {n:Str}{p t:Aj}{m:Str}(h1:¬ m = "whose")(h2:¬ m = "point")(h3:¬ m = "times"):(wF n p t).lookup m=none:=by
 unfold wF
 rw [aD,aK.mpr h1]
 dsimp only
 rw [aD,aK.mpr h2]
 dsimp only
 rw [aD,aK.mpr h3]
 rfl
structure WkAt (C:Aj)(H:Hp)(y:Aj)(n:Str)(p:Aj)(pt:Int×Int)(t:Aj)(tv:List (List Key×V)):Prop where
 ob:∃dx,H y=some (.ins C dx (wF n p t))
 pt:H p=some (.tup [.int pt.1,.int pt.2])
 tm:H t=some (.dT tv)
theorem WkAt.kb {C:Aj}{H H':Hp}{y:Aj}{n:Str}{p:Aj}{pt:Int×Int}{t:Aj}{tv:List (List Key×V)}(h:WkAt C H y n p pt t tv){ch:List Aj}(k:Kb ch H H')(hc:∀b∈ch,(∃kv,Rd H b (.dK kv))∨∃D,H b=some (.lst D)):WkAt C H' y n p pt t tv:=by
 have no:∀b o,(∀kv,o≠HO.dK kv)→(∀u kv,o≠HO.frz u (.dK kv))→(∀D,o≠HO.lst D)→H b=some o→H' b=some o:=λb o a1 a2 a3 e=>k _ _ (λz=>by
  rcases hc b z with ⟨kv,q|⟨u,q⟩⟩|⟨D,q⟩
  ·rw [e] at q;cases q;exact a1 _ rfl
  ·rw [e] at q;cases q;exact a2 _ _ rfl
  ·rw [e] at q;cases q;exact a3 _ rfl) e
 obtain ⟨dx,e⟩:=h.ob
 exact ⟨⟨dx,no _ _ (λ_ z=>by cases z) (λ_ _ z=>by cases z) (λ_ z=>by cases z) e⟩,no _ _ (λ_ z=>by cases z) (λ_ _ z=>by cases z) (λ_ z=>by cases z) h.pt,no _ _ (λ_ z=>by cases z) (λ_ _ z=>by cases z) (λ_ z=>by cases z) h.tm⟩
theorem WkAt.same {C:Aj}{H H':Hp}{y:Aj}{n:Str}{p:Aj}{pt:Int×Int}{t:Aj}{tv:List (List Key×V)}(h:WkAt C H y n p pt t tv)(s:Same H H'):WkAt C H' y n p pt t tv:=h.kb (ch:=[]) (Kb.of s) λb z=>nomatch z
def TmOk (tv:List (List Key×V)):Prop:=tv≠[]∧(tv.map (·.1)).Nodup∧∀q∈tv,∃a b c:Int,q=([.inl a,.inl b],.int c)∧0≤a∧a≤960∧1≤b∧b≤40
theorem TmOk.hash {P:Ac}{w:Ah}{tv:List (List Key×V)}(h:TmOk tv):(tv.map λp=>u7 P w p.1).Nodup:=by
 obtain ⟨_,nd,all⟩:=h
 have e:(tv.map λp=>u7 P w p.1)=(tv.map (·.1)).map (u7 P w):=by rw [bS];rfl
 rw [e]
 refine bw.mpr (bI (λ{x y} hx hy hne z=>hne ?_) nd)
 obtain ⟨p,hp,rfl⟩:=aw.mp hx
 obtain ⟨q,hq,rfl⟩:=aw.mp hy
 obtain ⟨a,b,c,rfl,a0,a1,b0,b1⟩:=all p hp
 obtain ⟨a',b',c',rfl,a0',a1',b0',b1'⟩:=all q hq
 obtain ⟨e1,e2⟩:=wx3 a0 a1 b0 b1 a0' a1' b0' b1' z
 show ([.inl a,.inl b]:List Key)=[.inl a',.inl b']
 rw [e1,e2]
theorem TmOk.len {tv:List (List Key×V)}(h:TmOk tv):tv.length≤40000:=by
 obtain ⟨_,nd,all⟩:=h
 let g:List Key→Nat:=λk=>match k with|[.inl a,.inl b]=>a.toNat*41+b.toNat|_=>0
 have m:∀x∈tv.map (·.1),∃a b:Int,x=[.inl a,.inl b]∧0≤a∧a≤960∧1≤b∧b≤40:=λx hx=>by
  obtain ⟨p,hp,rfl⟩:=aw.mp hx
  obtain ⟨a,b,c,rfl,r⟩:=all p hp
  exact ⟨a,b,rfl,r⟩
 have nd2:((tv.map (·.1)).map g).Nodup:=by
  refine bw.mpr (bI (λ{x y} hx hy hne z=>hne ?_) nd)
  obtain ⟨a,b,rfl,a0,a1,b0,b1⟩:=m x hx
  obtain ⟨a',b',rfl,a0',a1',b0',b1'⟩:=m y hy
  have z:a.toNat*41+b.toNat=a'.toNat*41+b'.toNat:=z
  have e1:a=a':=by lia
  have e2:b=b':=by lia
  rw [e1,e2]
 have:=L2.qzs ((tv.map (·.1)).map g) (List.range 39401) nd2 λv hv=>?_
 ·rw [ac,ac,aJ] at this
  lia
 ·obtain ⟨x,hx,rfl⟩:=aw.mp hv
  obtain ⟨a,b,rfl,a0,a1,b0,b1⟩:=m x hx
  refine bb.mpr ?_
  show a.toNat*41+b.toNat<39401
  lia
theorem TmOk.one {a b:Int}(a0:0≤a)(a1:a≤960)(b0:1≤b)(b1:b≤40):TmOk [([.inl a,.inl b],.int 1)]:=⟨λz=>(nomatch z),aS.mpr ⟨aj,aU⟩,λq hq=>⟨a,b,1,aq.mp hq,a0,a1,b0,b1⟩⟩
theorem TmOk.put {tv:List (List Key×V)}(h:TmOk tv){a b c:Int}(a0:0≤a)(a1:a≤960)(b0:1≤b)(b1:b≤40):TmOk (vj tv [.inl a,.inl b] (.int c)):=by
 obtain ⟨ne,nd,all⟩:=h
 unfold vj
 split
 ·refine ⟨λz=>ne (List.map_eq_nil_iff.mp z),?_,λq hq=>?_⟩
  ·have:(tv.map λkv=>if kv.1=[Sum.inl a,Sum.inl b] then (kv.1,V.int c) else kv).map (·.1)=tv.map (·.1):=by
    rw [bS]
    refine bO λx _=>?_
    show (if x.1=[Sum.inl a,Sum.inl b] then (x.1,V.int c) else x).1=x.1
    split <;> rfl
   rw [this]
   exact nd
  ·obtain ⟨x,hx,rfl⟩:=aw.mp hq
   obtain ⟨a',b',c',rfl,r⟩:=all x hx
   show ∃a_1 b_1 c_1:Int,(if ([Sum.inl a',Sum.inl b']:List Key)=[Sum.inl a,Sum.inl b] then (([Sum.inl a',Sum.inl b']:List Key),V.int c) else ([Sum.inl a',Sum.inl b'],V.int c'))=([.inl a_1,.inl b_1],.int c_1)∧_
   split
   ·exact ⟨a',b',c,rfl,r⟩
   ·exact ⟨a',b',c',rfl,r⟩
 ·rename_i hn
  refine ⟨de _ (bC _ _),?_,λq hq=>?_⟩
  ·rw [aT,List.nodup_append]
   refine ⟨nd,aS.mpr ⟨aj,aU⟩,λx hx y hy z=>hn ?_⟩
   obtain ⟨p,hp,rfl⟩:=aw.mp hx
   have hy:y=[Sum.inl a,Sum.inl b]:=aq.mp hy
   exact List.any_eq_true.mpr ⟨p,hp,bD (z.trans hy)⟩
  ·rcases bg.mp hq with hq|hq
   ·exact all q hq
   ·exact ⟨a,b,c,aq.mp hq,a0,a1,b0,b1⟩
end
section
variable {P:Ac}{w:Ah}{K:Aa}{mg:Str→Option Ag}{base:Heap}{qf:Aj}{wz:Aj}{qk:Aj}{q9:Aj}{qg:Aj}{wv:Aj}{wu:Aj}{wq:Aj}{wm:Aj}{wy:Aj}{qd:Aj}{qz:Aj}{qm:Aj}{qw:Aj}{qq:Aj}
def stN (n u m f:Nat):Nat:=if m<f then 0 else (if f<u then 1 else (m-f)/(n-u)+1)-(if f=0 then 1 else 0)
theorem qvn {m:Int}{t L:Nat}(h:(t:Int)≤m):(m-t)/(L:Int)=(((m.toNat-t)/L:Nat):Int):=by
 rw [show m-(t:Int)=((m.toNat-t:Nat):Int) by lia]
 push_cast
 rfl
def wwy:Sp:=λvs H Q _=>∃(f u n:Nat) (m:Int),vs=[.int f,.int u,.int n,.int m]∧f<n∧u<n∧n≤1000∧0≤m∧Q (.int (stN n u m.toNat f)) H
theorem ok_led {f:Aj}{fd:Ad}(F:Fun K "led_to" "led_to" s_led_to f fd)(T:Txt K mg qf wz qk q9 qg wv wu wq wm wy qd qz qm qw qq):FnOk P w K mg base (CXE P w) 1 f fd ["place","turn","size","many"] wwy:=by
 have sc:=wq1
 refine F.okX sc (λvs H Q E h=>by obtain ⟨f,u,n,m,rfl,_⟩:=h;rfl) (λcdv A outer s H vs Q E hr h=>?_)
 obtain ⟨f,u,n,m,rfl,hf,u1,n1,m0,k⟩:=h
 refine ⟨_,(qy (zq (xq Wd (pv 0) (pv 3) (xk _)) (wj (w8 qr)) w9)
   (qy (xz (i:=4) sc.nd rfl (by walk_at "loc") (qkx (xq yt (pv 0) (pv 1) (xk _)) qr (w4 xn (w4 vm (w4 vz (pv 3) (pv 0)) (w4 vz (pv 2) (pv 1))) qr)))
   (wj (w8 (qkx (xq k9 (pv 0) qr (xk _)) (w4 vz (pv 4) qr) (pv 4)))))),?_⟩
 refine exI rfl (exI rfl (w6 rfl rfl (exI rfl (jv (λz=>?_) (λz=>?_)))))
 ·unfold stN at k
  rw [ak (by lia)] at k
  exact k
 ·have fm:(f:Int)≤m:=by lia
  have res:∀x:Int,x=(if f<u then 1 else (((m.toNat-f)/(n-u):Nat):Int)+1)-(if f=0 then 1 else 0)→Q (.int x) H:=λx hx=>by
   have e:x=(stN n u m.toNat f:Nat):=by
    unfold stN
    rw [ag (by lia),hx]
    generalize (m.toNat-f)/(n-u)=D
    by_cases y1:f<u <;> by_cases y2:f=0
    ·simp only [ak y1,ak y2];lia
    ·simp only [ak y1,ag y2];lia
    ·simp only [ag y1,ak y2];lia
    ·simp only [ag y1,ag y2];lia
   rw [e]
   exact k
  refine exI rfl (exI rfl (w6 rfl rfl (exI rfl (jv (λy1=>?_) (λy1=>?_)))))
  ·refine exI rfl ⟨rfl,_,rfl,jk (λy2=>?_) (λy2=>?_)⟩
   ·refine exI rfl (w6 rfl rfl (res _ ?_))
    rw [ak (by lia),ak (by lia)]
   ·refine exI rfl (res _ ?_)
    rw [ak (by lia),ag (by lia)]
    rfl
  ·refine exI rfl (exI rfl (w6 rfl rfl (exI rfl (exI rfl (w6 rfl rfl ?_)))))
   refine w6 rfl rfl ⟨⟨(by lia),(Sm.small (n:=65) (by lia) (by lia) (by decide)).mono (by decide)⟩,w6 rfl rfl ?_⟩
   have ev:(m-(f:Int))/((n:Int)-u)=(((m.toNat-f)/(n-u):Nat):Int):=by
    rw [←qvn fm,show ((n-u:Nat):Int)=(n:Int)-u by lia]
   rw [ev]
   refine exI rfl ⟨rfl,_,rfl,jk (λy2=>?_) (λy2=>?_)⟩
   ·refine exI rfl (w6 rfl rfl (res _ ?_))
    rw [ag (by lia),ak (by lia)]
   ·refine exI rfl (res _ ?_)
    rw [ag (by lia),ag (by lia)]
    lia
def Q9 (C:Aj):Sp:=λvs H Q _=>∃(y dx p t:Aj) (n:Str),vs=[.ref y,.str n,.ref p,.ref t]∧H y=some (.ins C dx [])∧∀H',H' y=some (.ins C dx (wF n p t))→Kb [y] H H'→Q .non H'
theorem wx8 {f:Aj}{fd:Ad}(F:Fun K "__init__" "Walker.__init__" s_Walker___init__ f fd)(T:Txt K mg qf wz qk q9 qg wv wu wq wm wy qd qz qm qw qq):FnOk P w K mg base (CXE P w) 1 f fd ["self","whose","point","times"] (Q9 qw):=by
 have sc:=Qx
 refine F.okX sc (λvs H Q E h=>by obtain ⟨y,dx,p,t,n,rfl,_⟩:=h;rfl) (λcdv A outer s H vs Q E hr h=>?_)
 obtain ⟨y,dx,p,t,n,rfl,hy,k⟩:=h
 refine ⟨_,(qy (yq (pv 0) (pv 1) rfl)
   (qy (yq (pv 0) (pv 2) rfl)
   (wj (yq (pv 0) (pv 3) rfl)))),?_⟩
 refine exI rfl (exI rfl ⟨y,qw,dx,[],rfl,hy,T.clW,T.naWw,(by show 0<1000;decide),?_⟩)
 refine exI rfl (exI rfl ⟨y,qw,dx,exI rfl ⟨q8,T.clW,T.naWp,(by show 1<1000;decide),?_⟩⟩)
 refine exI rfl (exI rfl ⟨y,qw,dx,exI rfl ⟨q8,T.clW,T.naWt,(by show 2<1000;decide),?_⟩⟩)
 refine k _ q8 λb o nb e=>?_
 have nb:b≠y:=λz=>nb (by simp [z])
 rw [wg nb,wg nb,wg nb]
 exact e
theorem qwg {C:Aj}{H:Hp}{n:Str}{p t y dx:Aj}{Pp:Hp→Prop}{E:XK}(ny:H y=none)(nd:H dx=none)(k:∀H',Same H H'→(∃dx,H' y=some (.ins C dx (wF n p t)))→Pp H') :
  Q9 C [.ref y,.str n,.ref p,.ref t] (upd (upd H dx (.own y)) y (.ins C dx [])) (λr H2=>r=.non∧Pp H2) E:=by
 refine ⟨y,dx,p,t,n,rfl,q8,λH' e kb=>⟨rfl,k H' (λb o eb=>kb b o (λz=>?_) ?_) ⟨dx,e⟩⟩⟩
 ·rw [aq.mp z,ny] at eb;cases eb
 ·rw [wg (qj eb ny),wg (qj eb nd)]
  exact eb
def W2 (C:Aj):Sp:=λvs H Q _=>∃(n:Str) (p:Aj) (pt:Int×Int),vs=[.str n,.ref p]∧H p=some (.tup [.int pt.1,.int pt.2])∧∀H' y t,H y=none→Same H H'→WkAt C H' y n p pt t [([.inl pt.1,.inl pt.2],.int 1)]→Q (.ref y) H'
theorem qkp {f:Aj}{fd:Ad}(F:Fun K "set_down" "set_down" s_set_down f fd)(T:Txt K mg qf wz qk q9 qg wv wu wq wm wy qd qz qm qw qq)(c_Walker:CCal P w K mg base "Walker" qw 1 (Q9 qw)):FnOk P w K mg base (CXE P w) 3 f fd ["whose","point"] (W2 qw):=by
 have sc:=qvu
 refine F.okX sc (λvs H Q E h=>by obtain ⟨n,p,pt,rfl,_⟩:=h;rfl) (λcdv A outer s H vs Q E hr h=>?_)
 obtain ⟨n,p,pt,rfl,hp,k⟩:=h
 refine ⟨_,(wj (w8 (qqq c_Walker (hr.mono (by decide)) rfl qh (wx (pv 0) (wx (pv 1) (xf (wxg hr.units0 (pv 1) qr) qu)))))),?_⟩
 refine exI rfl (exI rfl (λt nt=>(exI rfl ⟨p,[.inl pt.1,.inl pt.2],rfl,(by rw [wg (qj hp nt)];exact hp),q8,?_⟩)))
 have s1:Same H (upd (upd H t (.dT [])) t (.dT [([.inl pt.1,.inl pt.2],.int 1)])):=by
  rw [ud]
  exact Same.upd nt
 have f1:upd (upd H t (.dT [])) t (.dT [([.inl pt.1,.inl pt.2],.int 1)]) t=some (.dT [([.inl pt.1,.inl pt.2],.int 1)]):=q8
 generalize upd (upd H t (.dT [])) t (.dT [([.inl pt.1,.inl pt.2],.int 1)])=H1 at s1 f1
 exact λy dx ny nd ne=>qwg ny nd λH' s2 e=>k H' y t (xb s1 ny) (s1.trans s2) ⟨e,s2 _ _ (s1 _ _ hp),s2 _ _ f1⟩
def HPt (hs:List Int)(pt:Int×Int):Prop:=x4 hs∧Pt hs pt.2 pt∧pt.2≤40
theorem HPt.rng {hs:List Int}{pt:Int×Int}(h:HPt hs pt):0≤pt.1∧pt.1≤960∧1≤pt.2∧pt.2≤40:=by
 obtain ⟨ok,⟨h1,_,_,h0,h2⟩,h3⟩:=h
 have ol:=ok.2.1
 have o1:=ok.1
 have:((hs.length:Int)-1)*pt.2≤24*pt.2:=aF (by lia) (by lia)
 lia
theorem HPt.it {hs:List Int}{pt:Int×Int}(h:HPt hs pt)(n:Nat):HPt hs (itP hs pt n):=by
 have a:=wxb h.1 h.2.1 n
 have:=h.2.2
 have:=a.2.1
 exact ⟨h.1,⟨a.1,di _,a.2.2.1,a.2.2.2⟩,by lia⟩
theorem HPt.short {hs:List Int}{pt:Int×Int}(h:HPt hs pt):¬ Dist (itP hs pt) 1001:=λd=>by
 have r:=h.rng
 obtain ⟨ok,hp,h3⟩:=h
 have ol:=ok.2.1
 have o1:=ok.1
 have inj:∀i j,trT hs pt.1 pt.2 i=trT hs pt.1 pt.2 j→itP hs pt i=itP hs pt j:=λi j e=>(it_eq hp i j).mpr e
 have nd:((List.range 1001).map λi=>(trT hs pt.1 pt.2 i).toNat).Nodup:=by
  refine bw.mpr (bI (λ{i j} hi hj hij z=>?_) (dz (n:=1001)))
  have a:=uz ok hp.1 hp.2.2.2 i
  have b:=uz ok hp.1 hp.2.2.2 j
  have a0:=a.1
  have b0:=b.1
  exact d i j hij (bb.mp hj) (inj i j (by lia))
 have:=L2.qzs _ (List.range 961) nd λv hv=>by
  obtain ⟨i,_,rfl⟩:=aw.mp hv
  have a:=uz ok hp.1 hp.2.2.2 i
  have a0:=a.1
  have a1:=a.2
  have:((hs.length:Int)-1)*pt.2≤24*pt.2:=aF (by lia) (by lia)
  exact bb.mpr (by lia)
 rw [ac,aJ,aJ] at this
 lia
def yh (tv:List (List Key×V))(q:Int×Int):Int:=match (wt tv [.inl q.1,.inl q.2]).getD (.int 0) with|.int c=>c|_=>0
def HitI (hs:List Int)(pt:Int×Int)(n u m i:Nat)(tv tv':List (List Key×V)):Prop:=(∀f,f<i→yh tv' (itP hs pt f)=yh tv (itP hs pt f)+stN n u m f)∧∀q,(∀f,f<i→itP hs pt f≠q)→yh tv' q=yh tv q
def Zf (hs:List Int)(pt:Int×Int)(m:Nat)(tv tv':List (List Key×V)):Prop:=∃n u,n≤1000∧Dist (itP hs pt) n∧u<n∧itP hs pt n=itP hs pt u∧HitI hs pt n u m n tv tv'
theorem qx9 {tv:List (List Key×V)}{q q':Int×Int}{c:Int}:yh (vj tv [.inl q.1,.inl q.2] (.int c)) q'=if q=q' then c else yh tv q':=by
 unfold yh
 by_cases h:q=q'
 ·subst h
  rw [ak rfl,Jw,ak rfl]
  rfl
 ·rw [ag h,Jw,ag]
  intro z
  apply h
  injection z with z1 z2
  injection z2 with z2 _
  injection z1 with z1
  injection z2 with z2
  exact Prod.ext z1.symm z2.symm
theorem HitI.next {hs:List Int}{pt:Int×Int}{n u m i:Nat}{tv tv':List (List Key×V)}(h:HitI hs pt n u m i tv tv')(d:Dist (itP hs pt) n)(hi:i<n)(e:stN n u m i=0):HitI hs pt n u m (i+1) tv tv':=by
 have ne:∀f,f<i→itP hs pt f≠itP hs pt i:=λf hf=>d f i hf hi
 refine ⟨λf hf=>?_,λq hq=>h.2 q λf hf=>hq f (by lia)⟩
 by_cases z:f=i
 ·subst z
  rw [h.2 _ ne,e]
  lia
 ·exact h.1 f (by lia)
theorem HitI.put {hs:List Int}{pt:Int×Int}{n u m i:Nat}{tv tv':List (List Key×V)}{c:Int}(h:HitI hs pt n u m i tv tv')(d:Dist (itP hs pt) n)(hi:i<n)(ec:(wt tv' [.inl (itP hs pt i).1,.inl (itP hs pt i).2]).getD (.int 0)=.int c):HitI hs pt n u m (i+1) tv (vj tv' [.inl (itP hs pt i).1,.inl (itP hs pt i).2] (.int (c+stN n u m i))):=by
 have ne:∀f,f<i→itP hs pt f≠itP hs pt i:=λf hf=>d f i hf hi
 have e0:yh tv' (itP hs pt i)=c:=by unfold yh;rw [ec]
 have e1:=h.2 _ ne
 refine ⟨λf hf=>?_,λq hq=>?_⟩
 ·rw [qx9]
  by_cases z:f=i
  ·subst z
   rw [ak rfl,←e1,e0]
  ·rw [ag (λy=>ne f (by lia) y.symm)]
   exact h.1 f (by lia)
 ·rw [qx9,ag (hq i (by lia))]
  exact h.2 q λf hf=>hq f (by lia)
def qzr (C CR:Aj):Sp:=λvs H Q _=>∃(y r p t:Aj) (n:Str) (hs:List Int) (pt:Int×Int) (tv:List (List Key×V)) (m:Int),vs=[.ref y,.ref r,.int m]∧WkAt C H y n p pt t tv∧TmOk tv∧RoadAt CR H r hs∧HPt hs pt∧0≤m ∧
 ∀H' y' p' t' tv',H y'=none→Same H H'→WkAt C H' y' n p' (itP hs pt m.toNat) t' tv'→TmOk tv'→Zf hs pt m.toNat tv tv'→Q (.ref y') H'
theorem wks {f:Aj}{fd:Ad}(F:Fun K "gone" "Walker.gone" s_Walker_gone f fd)(T:Txt K mg qf wz qk q9 qg wv wu wq wm wy qd qz qm qw qq)(c_trace:Cal P w K mg base "trace" 5 (qzd qm wv))(c_led_to:Cal P w K mg base "led_to" 1 wwy)(c_spot:Cal P w K mg base "spot" 1 qj1)(c_Walker:CCal P w K mg base "Walker" qw 1 (Q9 qw)) :
  FnOk P w K mg base (CXE P w) 6 f fd ["self","road","many"] (qzr qw qm):=by
 have sc:=Yy
 refine F.okX sc (λvs H Q E h=>by obtain ⟨y,r,p,t,n,hs,pt,tv,m,rfl,_⟩:=h;rfl) (λcdv A outer s H vs Q E hr h=>?_)
 obtain ⟨y,r,p,t,n,hs,pt,tv,m,rfl,hW,hT,hR,hP,m0,k⟩:=h
 obtain ⟨dy,hy⟩:=hW.ob
 have rg:=hP.rng
 have big:(1000000:Nat)<sizeLine:=by decide
 refine ⟨_,(qy (j6 (wp c_trace (hr.mono (by decide)) rfl qh (wx (pv 1) (xf (zu (pv 0) rfl) qu))) (k7 rfl (xg (xj (i:=3) sc.nd rfl (by walk_at "loc")) (xg (xj (i:=4) sc.nd rfl (by walk_at "loc")) vb))))
   (qy (xz (i:=5) sc.nd rfl (by walk_at "loc") (kf qjb rfl T.dict_ dC (xf (zu (pv 0) rfl) qu)))
   (qy (yw aY rfl (wkp rfl T.enumerate_ (wx (pv 3) qu)) (k7 rfl (xg (xj (i:=6) sc.nd rfl (by walk_at "loc")) (xg (xj (i:=7) sc.nd rfl (by walk_at "loc")) vb))) (qy (xz (i:=8) sc.nd rfl (by walk_at "loc") (wp c_led_to (hr.mono (by decide)) rfl qh (wx (pv 6) (wx (pv 4) (js (xu x8 rfl T.len_ aV (wx (pv 3) qu)) (wx (pv 2) qu))))))
   (wj (zq (xq Wd (pv 8) qr (xk _)) (wj (Zt (jq hr) (pv 5) (pv 7) (w4 xn (qv2 (jq hr) (pv 5) (pv 7) qr ⟨rfl,rfl,rfl,rfl⟩) (pv 8)) rfl)) w9))))
   (wj (w8 (qqq c_Walker (hr.mono (by decide)) rfl qh (xf (zu (pv 0) rfl) (js (wp c_spot (hr.mono (by decide)) rfl qh (wx (pv 3) (wx (pv 4) (wx (pv 2) qu)))) (wx (pv 5) qu))))))))),?_⟩
 refine ⟨_,rfl,_,rfl,y,qw,dy,_,_,rfl,hy,T.clW,T.naWp,Qz,r,p,hs,pt,pt.2,rfl,hR,hP.1,hW.pt,hP.2.1,(Sm.small (n:=65) (by lia) (by lia) (by decide)).mono (by decide),λnn u q l H1 n1 d1 u1 e1 s1 nl fq pa=>?_,λd=>absurd d hP.short⟩
 refine ⟨q,exI rfl ⟨SqT.of fq,rfl,_,_,rfl,_,_,rfl,rfl,?_⟩⟩
 obtain ⟨ys,fl,pr⟩:=id pa
 have hl:ys.length=nn:=by rw [pr.length,qvg]
 have y1:=s1 _ _ hy
 refine exI rfl ⟨y,qw,dy,_,_,rfl,y1,T.clW,T.naWt,Ym,t,tv,rfl,s1 _ _ hW.tm,hT.1,hT.hash,λt2 nt2=>?_⟩
 have s2:Same H1 (upd H1 t2 (.dT tv)):=Same.upd nt2
 have f2:upd H1 t2 (.dT tv) t2=some (.dT tv):=q8
 have nt20:H t2=none:=xb s1 nt2
 have tl:t2≠l:=(qj fl nt2).symm
 generalize hH2:upd H1 t2 (.dT tv)=H2 at s2 f2
 refine exI rfl ⟨l,ys,rfl,SqL.of (s2 _ _ fl),?_⟩
 refine for_en (λi σ H'=>(∃z6 z7 z8,σ=[some (.ref y),some (.ref r),some (.int m),some (.ref l),some (.int ((u:Nat):Int)),some (.ref t2),z6,z7,z8])∧(∃tv',H' t2=some (.dT tv')∧TmOk tv'∧HitI hs pt nn u m.toNat i tv tv')∧Kb [t2] H1 H') ⟨⟨_,_,_,rfl⟩,⟨tv,f2,hT,(λf z=>absurd z (dU _)),λ_ _=>rfl⟩,Kb.of s2⟩ (λi σ H' hi h=>SqL.of (h.2.2 _ _ (by simpa using tl.symm) fl)) ?_ ?_
 ·rintro i v z σ H' ev nz ⟨⟨z6,z7,z8,rfl⟩,⟨tv',ft,hT',hit⟩,kb⟩
  have hi:i<nn:=by rw [←hl];exact (aM.mp ev).1
  obtain ⟨a,ea,fa⟩:=qj0 (i:=i) pr hi
  rw [ev] at ea
  cases ea
  have sz:Same H' (upd H' z (.tup [.int ((i:Nat):Int),.ref a])):=Same.upd nz
  refine ⟨z,exI rfl ⟨SqT.new,rfl,_,_,rfl,_,_,rfl,rfl,?_⟩⟩
  have ft3:=sz _ _ ft
  have kb3:Kb [t2] H1 (upd H' z (.tup [.int ((i:Nat):Int),.ref a])):=kb.trans (Kb.of sz)
  generalize upd H' z (.tup [.int ((i:Nat):Int),.ref a])=H3 at ft3 kb3
  have at2:a≠t2:=qj fa nt2
  have fl3:=kb3 _ _ (by simpa using tl.symm) fl
  have fa3:H3 a=some (.tup (([.inl (itP hs pt i).1,.inl (itP hs pt i).2]:List Key).map kV)):=kb3 _ _ (by simpa using at2) fa
  have rgi:=(hP.it i).rng
  refine exI rfl (exI rfl (exI rfl ⟨_,_,rfl,.inl (SqL.of fl3),exI rfl ⟨i,u,nn,m,?_,hi,u1,n1,m0,exI rfl (w6 rfl rfl (exI rfl (jv (λg=>?_) (λg=>?_))))⟩⟩))
  ·rw [hl]
  ·have dg:=DGet.t ft3 fa3
   have key:∃c:Int,(wt tv' [.inl (itP hs pt i).1,.inl (itP hs pt i).2]).getD (.int 0)=.int c:=by
    cases e:wt tv' [.inl (itP hs pt i).1,.inl (itP hs pt i).2] with
    |none=>exact ⟨0,rfl⟩
    |some v =>
     have hm:∃kv∈tv',kv.2=v:=by
      unfold wt at e
      cases hf:tv'.find? λkv=>decide (kv.1=[Sum.inl (itP hs pt i).1,Sum.inl (itP hs pt i).2]) with
      |none=>rw [hf] at e;cases e
      |some kv =>
       rw [hf] at e
       exact ⟨kv,cP hf,az e⟩
     obtain ⟨kv,hk,rfl⟩:=hm
     obtain ⟨a',b',c',rfl,_⟩:=hT'.2.2 kv hk
     exact ⟨c',rfl⟩
   obtain ⟨c,ec⟩:=key
   refine exI rfl ⟨t2,rfl,.inr ⟨_,.inl ft3⟩,exI rfl ⟨_,dg,_,rfl,?_⟩⟩
   rw [ec]
   refine w6 rfl rfl (exI rfl (exI rfl ⟨t2,exI rfl ⟨DPut.t ft3 fa3 (by have:=hT'.len;lia),⟨_,_,_,rfl⟩,⟨_,q8,hT'.put rgi.1 rgi.2.1 rgi.2.2.1 rgi.2.2.2,hit.put d1 hi ec⟩,λb o nb e=>?_⟩⟩))
   rw [wg (by simpa using nb)]
   exact kb3 b o nb e
  ·exact ⟨⟨_,_,_,rfl⟩,⟨tv',ft3,hT',hit.next d1 hi (by lia)⟩,kb3⟩
 ·rintro σ H' ⟨⟨z6,z7,z8,rfl⟩,⟨tv',ft,hT',hit⟩,kb⟩
  rw [hl] at hit
  have keep:∀b o,H1 b=some o→H' b=some o:=λb o e=>kb b o (by simpa using qj e nt2) e
  refine exI rfl ⟨y,qw,dy,_,_,rfl,keep _ _ y1,T.clW,T.naWw,Qu,exI rfl (exI rfl (exI rfl ⟨l,hs,pt,nn,u,m,rfl,⟨n1,d1,u1,e1,pa.same keep⟩,m0,λa fa=>(exI rfl (λy' dx' ny' nd' ne'=>qwg ny' nd' λH4 s4 e4=>?_))⟩))⟩
  have sk:Same H H':=s1.trans keep
  exact k H4 y' a t2 tv' (xb sk ny') (sk.trans s4) ⟨e4,s4 _ _ fa,s4 _ _ ft⟩ hT' ⟨nn,u,n1,d1,u1,e1,hit⟩
end
section
variable {P:Ac}{w:Ah}{K:Aa}{mg:Str→Option Ag}{base:Heap}{qf:Aj}{wz:Aj}{qk:Aj}{q9:Aj}{qg:Aj}{wv:Aj}{wu:Aj}{wq:Aj}{wm:Aj}{wy:Aj}{qd:Aj}{qz:Aj}{qm:Aj}{qw:Aj}{qq:Aj}
theorem qwb {C CW:Aj}{H H3:Hp}{x dr dw dd c1 c2 y:Aj}{R W:List (Key×V)}{D:List V}{n whose:Str}{p t:Aj}{pt:Int×Int}{tv:List (List Key×V)}{Q:VK}{E:XK}(hh:Hse C H x dr dw dd R W D)(n1:H c1=none)(n2:upd H c1 (.dK []) c2=none)(s3:Same (upd (upd H c1 (.dK [])) c2 (.dK [])) H3)(W3:WkAt CW H3 y whose p pt t tv)(lR:R.length≤1000)(lW:W.length≤1000)(lD:D.length≤1000000)
  (k:∀H' tp q1 q2,H tp=none→H q1=none→H q2=none→Hse C H' x dr dw dd R (vj W (.inr n) (.ref y)) (D++[.ref tp])→H' tp=some (.tup [.ref q1,.ref q2])→H' q1=some (.dK [])→H' q2=some (.dK [(.inr n,(wt W (.inr n)).getD .non)])→q1≠q2→WkAt CW H' y whose p pt t tv→Kb [dr,dw,dd] H H'→Q .non H') :
  qqn C [.ref x,.ref c1,.ref c2] (upd H3 c2 (.dK [(.inr n,.ref y)])) Q E:=by
 have c12:c1≠c2:=λz=>by rw [←z,q8] at n2;cases n2
 have n20:H c2=none:=by rw [←n2,wg (aW c12)]
 have s03:Same H H3:=λb o e=>s3 _ _ (by rw [wg (qj e n20),wg (qj e n1)];exact e)
 have h32:H3 c2=some (.dK []):=s3 _ _ q8
 have h31:H3 c1=some (.dK []):=s3 _ _ (by rw [wg c12,q8])
 have keep:∀b o,(∀kv,o≠HO.dK kv)→H3 b=some o→upd H3 c2 (.dK [(.inr n,.ref y)]) b=some o:=λb o no e=>by
  rw [wg (λz=>by rw [z,h32] at e;cases e;exact no _ rfl)]
  exact e
 have W4:WkAt CW (upd H3 c2 (.dK [(.inr n,.ref y)])) y whose p pt t tv:=by
  obtain ⟨dx,e⟩:=W3.ob
  exact ⟨⟨dx,keep _ _ (λkv z=>by cases z) e⟩,keep _ _ (λkv z=>by cases z) W3.pt,keep _ _ (λkv z=>by cases z) W3.tm⟩
 have s4:Same H (upd H3 c2 (.dK [(.inr n,.ref y)])):=λb o e=>by rw [wg (qj e n20)];exact s03 _ _ e
 have e1:upd H3 c2 (.dK [(.inr n,.ref y)]) c1=some (.dK []):=by rw [wg c12];exact h31
 have e2:upd H3 c2 (.dK [(.inr n,.ref y)]) c2=some (.dK [(.inr n,.ref y)]):=q8
 generalize upd H3 c2 (.dK [(.inr n,.ref y)])=H4 at s4 e1 e2 W4
 have hh4:=hh.same s4
 refine ⟨x,dr,dw,dd,c1,c2,R,W,[],[(.inr n,.ref y)],D,rfl,hh4,.inl e1,.inl e2,c12,(qj hh.r n1).symm,(qj hh.w n1).symm,(qj hh.r n20).symm,(qj hh.w n20).symm,aU,aS.mpr ⟨aj,aU⟩,lR,lW,aB _,by show 1≤1000;decide,lD,(λi c ec hc=>nomatch ec),λi c ec hc=>?_,λH' tp q1 q2 a1 a2 a3 a4 a5 a6 a7 a8 _ a9=>?_⟩
 ·cases i with
  |zero=>cases ec;cases hc
  |succ i=>cases ec
 ·have no:∀b,H4 b=none→H b=none:=λb e=>xb s4 e
  have wk:WkAt CW H' y whose p pt t tv:=W4.kb a9 λb hb=>by
   simp only [ai,aj,be] at hb
   rcases hb with rfl|rfl|rfl|rfl|rfl
   ·exact .inl ⟨_,.inl hh4.r⟩
   ·exact .inl ⟨_,.inl hh4.w⟩
   ·exact .inr ⟨_,hh4.d⟩
   ·exact .inl ⟨_,.inl e1⟩
   ·exact .inl ⟨_,.inl e2⟩
  refine k H' tp q1 q2 (no _ a1) (no _ a2) (no _ a3) a4 a5 a6 a7 a8 wk λb o nb e=>a9 b o (λz=>?_) (s4 _ _ e)
  simp only [ai,aj,be] at z nb
  rcases z with z|z|z|z|z
  ·exact nb (.inl z)
  ·exact nb (.inr (.inl z))
  ·exact nb (.inr (.inr z))
  ·rw [z,n1] at e;cases e
  ·rw [z,n20] at e;cases e
def WDeed (C CW:Aj)(H H':Hp)(x dr dw dd:Aj)(R W:List (Key×V))(D:List V)(n whose:Str)(p:Aj)(pt:Int×Int)(t:Aj)(tv:List (List Key×V)):Prop:=∃y tp q1 q2,H tp=none∧H q1=none∧H q2=none∧Hse C H' x dr dw dd R (vj W (.inr n) (.ref y)) (D++[.ref tp])∧H' tp=some (.tup [.ref q1,.ref q2])∧H' q1=some (.dK [])∧H' q2=some (.dK [(.inr n,(wt W (.inr n)).getD .non)])∧q1≠q2∧WkAt CW H' y whose p pt t tv∧Kb [dr,dw,dd] H H'
theorem WDeed.pre {C CW:Aj}{H0 H H':Hp}{x dr dw dd:Aj}{R W:List (Key×V)}{D:List V}{n whose:Str}{p:Aj}{pt:Int×Int}{t:Aj}{tv:List (List Key×V)}(h:WDeed C CW H H' x dr dw dd R W D n whose p pt t tv)(s:Same H0 H):WDeed C CW H0 H' x dr dw dd R W D n whose p pt t tv:=by
 obtain ⟨y,tp,q1,q2,a1,a2,a3,a4,a5,a6,a7,a8,a9,b1⟩:=h
 exact ⟨y,tp,q1,q2,xb s a1,xb s a2,xb s a3,a4,a5,a6,a7,a8,a9,λb o nb e=>b1 b o nb (s _ _ e)⟩
def Q4 (K:Aa)(C CR CW CN CT CNR CB CO:Aj):Sp:=λvs H Q E=>∃(x dr dw dd a:Aj) (R W:List (Key×V)) (D:List V) (n whose:Str) (t b:Int),vs=[.ref x,.str n,.str whose,.ref a]∧Hse C H x dr dw dd R W D∧R.length≤1000∧W.length≤1000∧D.length≤1000000∧n.length≤1000∧H a=some (.tup [.int t,.int b]) ∧
 (jj n=false→∀H',Same H H'→E (.ref CN) none H')∧(jj n=true→(wt W (.inr n)).isSome=true→∀H',Same H H'→E (.ref CT) none H')∧(jj n=true→wt W (.inr n)=none→(wt R (.inr whose)=none→∀H',Same H H'→E (.ref CNR) none H') ∧
  ∀v,wt R (.inr whose)=some v→∃r hs,v=.ref r∧RoadAt CR H r hs∧x4 hs∧(b<1→∀H',Same H H'→E (.ref CB) none H')∧(1≤b→Sm 8000 b∧(40<(wc t b).2→∀H',Same H H'→E (.ref CB) none H')∧((wc t b).2≤40 →
   (¬ zf hs (wc t b).1 (wc t b).2→∀H',Same H H'→E (.ref CO) none H')∧(zf hs (wc t b).1 (wc t b).2→∀H' p t',WDeed C CW H H' x dr dw dd R W D n whose p (wc t b) t' [([.inl (wc t b).1,.inl (wc t b).2],.int 1)]→Q .non H'))))
theorem Y8 {t b:Int}(h:1≤b):1≤(wc t b).2:=by
 have e:=Jk (t:=t) h
 have g:=jm (t:=t) h
 show 1≤b/gOf t b
 by_cases z:1≤b/gOf t b
 ·exact z
 ·have:gOf t b*(b/gOf t b)≤0:=Int.mul_nonpos_of_nonneg_of_nonpos (by lia) (by lia)
  lia
theorem wxt {f:Aj}{fd:Ad}(F:Fun K "place" "House.place" s_House_place f fd)(T:Txt K mg qf wz qk q9 qg wv wu wq wm wy qd qz qm qw qq)(c_check_new_name:Cal P w K mg base "check_new_name" 2 (uj wq wm))(c_road_called:MCal P w K mg base qq "road_called" 1 (jw qq wy true))(c_lowest:Cal P w K mg base "lowest" 2 (yx qk))(c_on_road:MCal P w K mg base qm "on_road" 3 (Wq K qm qk q9))(c_set_down:Cal P w K mg base "set_down" 3 (W2 qw))(c_do:MCal P w K mg base qq "do" 2 (qqn qq)) :
  FnOk P w K mg base (CXE P w) 5 f fd ["self","name","whose","point"] (Q4 K qq qm qw wq wm wy qk q9):=by
 have sc:=qqv
 refine F.okX sc (λvs H Q E h=>by obtain ⟨x,dr,dw,dd,a,R,W,D,n,whose,t,b,rfl,_⟩:=h;rfl) (λcdv A outer s H vs Q E hr h=>?_)
 obtain ⟨x,dr,dw,dd,a,R,W,D,n,whose,t,b,rfl,hh,lR,lW,lD,ln,ha,kn,kt,k⟩:=h
 obtain ⟨dx,hx⟩:=hh.ob
 obtain ⟨tg,g_GREATEST_BOTTOM⟩:=T.g_GREATEST_BOTTOM
 refine ⟨_,(qy (zw (wp c_check_new_name (hr.mono (by decide)) rfl qh (wx (pv 1) (xf (zu (pv 0) rfl) qu))))
   (qy (xz (i:=4) sc.nd rfl (by walk_at "loc") (xp (pv 0) T.clH c_road_called (hr.mono (by decide)) qh (wx (pv 2) qu)))
   (qy (xz (i:=5) sc.nd rfl (by walk_at "loc") (wp c_lowest (hr.mono (by decide)) rfl qh (zx (xy zn (pv 3) qr (λ_ _=>rfl)) (zx (xy zn (pv 3) qr (λ_ _=>rfl)) qu))))
   (qy (zq (xq Wd (xy zn (pv 5) qr (λ_ _=>rfl)) (yp (v:=V.int 40) rfl g_GREATEST_BOTTOM ⟨_,rfl⟩) (xk _)) (wj (vk rfl T.x_BadBottom zg rfl T.g_BadBottom (xx xt qu))) w9)
   (wj (zw (xp (pv 0) T.clH c_do (hr.mono (by decide)) qh (xf jd (xf (Z1 (Wf (pv 1) (wp c_set_down (hr.mono (by decide)) rfl qh (wx (pv 2) (js (xp (pv 4) T.cl c_on_road (hr.mono (by decide)) qh (wx (pv 5) qu)) qu))) Z4) rfl rfl (λz=>nomatch z) (by decide)) qu))))))))),?_⟩
 refine ⟨_,rfl,_,rfl,x,qq,dx,_,_,rfl,hx,T.clH,T.naHw,zh,n,dw,W,rfl,ln,hh.w,λa1 a2 H1 s1=>?_,kn,kt⟩
 obtain ⟨kr,k⟩:=k a1 a2
 have hh1:=hh.same s1
 refine ⟨_,rfl,x,dx,_,rfl,s1 _ _ hx,x6 (by decide +kernel) (by decide +kernel) (by decide +kernel),_,rfl,x,dr,dw,dd,R,W,D,whose,rfl,hh1,λv e=>?_,λe=>kr e H1 s1⟩
 obtain ⟨r,hs,rfl,hR,okl,kb,k⟩:=k v e
 refine ⟨_,rfl,_,_,_,_,rfl,rfl,SqT.of (s1 _ _ ha),rfl,_,rfl,_,_,_,_,rfl,rfl,SqT.of (s1 _ _ ha),rfl,t,b,rfl,λb1=>?_,λb1=>kb b1 H1 s1⟩
 obtain ⟨sm,kg,k⟩:=k b1
 refine ⟨sm.mono (by decide),λp np=>?_⟩
 have s2:Same H (upd H1 p (.tup (ptV (wc t b)))):=s1.trans (Same.upd np)
 have f2:upd H1 p (.tup (ptV (wc t b))) p=some (.tup [.int (wc t b).1,.int (wc t b).2]):=q8
 generalize upd H1 p (.tup (ptV (wc t b)))=H2 at s2 f2
 have l1:=Y8 (t:=t) b1
 refine exI rfl (exX rfl rfl (SqT.of f2) rfl (w6 rfl rfl (exI rfl (jv (λz=>⟨sz1,kg (by lia) H2 s2⟩) (λz=>?_)))))
 obtain ⟨ko,k⟩:=k (by lia)
 refine exI rfl ⟨x,dx,exI rfl ⟨s2 _ _ hx,x6 (by decide +kernel) (by decide +kernel) (by decide +kernel),λc1 n1=>λc2 n2=>(exI rfl (exI rfl (exI rfl ?_)))⟩⟩
 obtain ⟨dy,l,h1,h2⟩:=id hR
 have sc2:Same H2 (upd (upd H2 c1 (.dK [])) c2 (.dK [])):=λb o e=>by
  have e4:upd H2 c1 (.dK []) b=some o:=by rw [wg (qj e n1)];exact e
  rw [wg (qj e4 n2)]
  exact e4
 have s3:=s2.trans sc2
 refine ⟨r,dy,_,rfl,s3 _ _ h1,kj (by decide +kernel),_,rfl,r,p,hs,(wc t b).1,(wc t b).2,rfl,hR.same s3,okl,SqT.of (sc2 _ _ f2),λ_=>⟨(Sm.small (n:=65) (by lia) (by lia) (by decide)).mono (by decide),λon q H3 s4 fq=>?_,λon H3 s4=>ko on H3 (s3.trans s4)⟩,λz=>absurd z (by lia)⟩
 have e3:wc (wc t b).1 (wc t b).2=wc t b:=qxy l1 (qxt b1)
 rw [e3] at fq
 refine ⟨whose,q,wc t b,rfl,fq,λH4 y t' ny s5 w5=>?_⟩
 refine ⟨s5 _ _ (s4 _ _ q8),[(.inr n,.ref y)],rfl,(show 1≤15 by decide),?_⟩
 exact qwb (E:=E) (hh.same s2) n1 n2 (s4.trans s5) w5 lR lW lD λH' tp q1 q2 b1 b2 b3 b4 b5 b6 b7 b8 b9 kb=>k on H' q t' (WDeed.pre ⟨y,tp,q1,q2,b1,b2,b3,b4,b5,b6,b7,b8,b9,kb⟩ s2)
def spGo (C CR CW CN CC:Aj):Sp:=λvs H Q E=>∃(x dr dw dd:Aj) (R W:List (Key×V)) (D:List V) (n:Str) (m:Int),vs=[.ref x,.str n,.int m]∧Hse C H x dr dw dd R W D∧R.length≤1000∧W.length≤1000∧D.length≤1000000∧(wt W (.inr n)=none→E (.ref CN) none H) ∧
 (∀v,wt W (.inr n)=some v→∃y whose p pt t tv r hs,v=.ref y∧WkAt CW H y whose p pt t tv∧TmOk tv∧wt R (.inr whose)=some (.ref r)∧RoadAt CR H r hs∧HPt hs pt∧(¬ Within m 0 (some 1000000000000000000000000000000000000000000000000000000000000)→E (.ref CC) none H) ∧
  (Within m 0 (some 1000000000000000000000000000000000000000000000000000000000000)→∀H' p' t' tv',WDeed C CW H H' x dr dw dd R W D n whose p' (itP hs pt m.toNat) t' tv'→TmOk tv'→Zf hs pt m.toNat tv tv'→Q (.ref p') H'))
theorem ok_go {f:Aj}{fd:Ad}(F:Fun K "go" "House.go" s_House_go f fd)(T:Txt K mg qf wz qk q9 qg wv wu wq wm wy qd qz qm qw qq)(c_walker_called:MCal P w K mg base qq "walker_called" 1 (jw qq qd false))(c_check_count:CalD P w K mg base "check_count" 1 (Yx qg))(c_gone:MCal P w K mg base qw "gone" 6 (qzr qw qm))(c_do:MCal P w K mg base qq "do" 2 (qqn qq)) :
  FnOk P w K mg base (CXE P w) 8 f fd ["self","name","many"] (spGo qq qm qw qd qg):=by
 have sc:=qks
 refine F.okX sc (λvs H Q E h=>by obtain ⟨x,dr,dw,dd,R,W,D,n,m,rfl,_⟩:=h;rfl) (λcdv A outer s H vs Q E hr h=>?_)
 obtain ⟨x,dr,dw,dd,R,W,D,n,m,rfl,hh,lR,lW,lD,kx,k⟩:=h
 obtain ⟨dx,hx⟩:=hh.ob
 obtain ⟨tg,g_FARTHEST⟩:=T.g_FARTHEST
 refine ⟨_,(qy (xz (i:=3) sc.nd rfl (by walk_at "loc") (xp (pv 0) T.clH c_walker_called (hr.mono (by decide)) qh (wx (pv 1) qu)))
   (qy (zw (Yf c_check_count.all (hr.mono (by decide)) rfl qh (wx (pv 2) (xx qr (wx (yp (v:=V.int 1000000000000000000000000000000000000000000000000000000000000) rfl g_FARTHEST ⟨_,rfl⟩) qu)))))
   (qy (xz (i:=4) sc.nd rfl (by walk_at "loc") (xp (pv 3) T.clW c_gone (hr.mono (by decide)) qh (zx (yd (jq hr) (zu (pv 0) rfl) (zu (pv 3) rfl) (λ_ _=>rfl)) (wx (pv 2) qu))))
   (qy (zw (xp (pv 0) T.clH c_do (hr.mono (by decide)) qh (xf jd (xf (Z1 (Wf (pv 1) (pv 4) Z4) rfl rfl (λz=>nomatch z) (by decide)) qu))))
   (wj (w8 (zu (pv 4) rfl))))))),?_⟩
 refine ⟨_,rfl,x,dx,_,rfl,hx,x6 (by decide +kernel) (by decide +kernel) (by decide +kernel),_,rfl,x,dr,dw,dd,R,W,D,n,rfl,hh,λv e=>?_,kx⟩
 obtain ⟨y,whose,p,pt,t,tv,r,hs,rfl,hW,hT,er,hR,hP,kc,k⟩:=k v e
 obtain ⟨dy,hy⟩:=hW.ob
 refine ⟨_,rfl,m,0,.int (1000000000000000000000000000000000000000000000000000000000000),some (1000000000000000000000000000000000000000000000000000000000000),rfl,.inr ⟨1000000000000000000000000000000000000000000000000000000000000,rfl,rfl⟩,λwi=>?_,kc⟩
 have dg:DGet H dr (.str whose) (wt R (.inr whose)):=DGet.k (k:=.inr whose) hh.r
 rw [er] at dg
 refine exI rfl ⟨y,dy,exI rfl ⟨hy,qv4 (by decide +kernel) (by decide +kernel) (by decide +kernel),exI rfl ⟨x,qq,dx,_,_,rfl,hx,T.clH,T.naHr,ku,exI rfl ⟨y,qw,dy,_,_,rfl,hy,T.clW,T.naWw,Qu,dr,exI rfl ⟨dg,exI rfl ⟨y,r,p,t,whose,hs,pt,tv,m,rfl,hW,hT,hR,hP,wi.1,λH1 y' p' t' tv' ny s1 w1 hT' hit=>?_⟩⟩⟩⟩⟩⟩
 refine exI rfl ⟨x,dx,exI rfl ⟨s1 _ _ hx,x6 (by decide +kernel) (by decide +kernel) (by decide +kernel),λc1 n1=>λc2 n2=>(exI rfl (exI rfl ⟨q8,[(.inr n,.ref y')],rfl,(show 1≤15 by decide),?_⟩))⟩⟩
 have sc2:Same H1 (upd (upd H1 c1 (.dK [])) c2 (.dK [])):=λb o e=>by
  have e4:upd H1 c1 (.dK []) b=some o:=by rw [wg (qj e n1)];exact e
  rw [wg (qj e4 n2)]
  exact e4
 have w3:=w1.same sc2
 obtain ⟨H3,hH3⟩:∃H3,H3=upd (upd H1 c1 (.dK [])) c2 (.dK []):=⟨_,rfl⟩
 have s3:Same (upd (upd H1 c1 (.dK [])) c2 (.dK [])) H3:=by rw [hH3];exact Same.refl _
 rw [←hH3] at w3 ⊢
 have e0:Qj [] [((Sum.inr n:Key),V.ref y')]=[((Sum.inr n:Key),V.ref y')]:=rfl
 rw [e0]
 dsimp only [j8]
 refine qwb (n:=n) (E:=E) (hh.same s1) n1 n2 s3 w3 lR lW lD λH' tp q1 q2 b1 b2 b3 b4 b5 b6 b7 b8 b9 kb=>?_
 obtain ⟨dy',hy'⟩:=b9.ob
 exact exI rfl ⟨y',qw,dy',_,_,rfl,hy',T.clW,T.naWp,Qz,k wi H' p' t' tv' (WDeed.pre ⟨y',tp,q1,q2,b1,b2,b3,b4,b5,b6,b7,b8,b9,kb⟩ s1) hT' hit⟩
end
section
variable {P:Ac}{w:Ah}{K:Aa}{mg:Str→Option Ag}{base:Heap}{qf:Aj}{wz:Aj}{qk:Aj}{q9:Aj}{qg:Aj}{wv:Aj}{wu:Aj}{wq:Aj}{wm:Aj}{wy:Aj}{qd:Aj}{qz:Aj}{qm:Aj}{qw:Aj}{qq:Aj}
theorem qkq {α:Type}(ms:List α)(d:α)(f:α→V)(p:α→Bool):Yb (λi=>p (ms.getD i d)) (ms.map f) (ms.map f).length=(ms.filter p).map f:=by
 unfold Yb
 rw [ac]
 have e:ms=(List.range ms.length).map λi=>ms.getD i d:=by
  refine List.ext_getElem (by rw [ac,aJ]) λi h1 h2=>?_
  rw [dI,List.getElem_range,ay,ar h1]
  rfl
 have e2:(ms.filter p).map f=(((List.range ms.length).map λi=>ms.getD i d).filter p).map f:=by rw [←e]
 rw [e2,List.filter_map,bS]
 refine bO λi hi=>?_
 have hi:=bb.mp (bY.mp hi).1
 show (ms.map f).getD i .non=f (ms.getD i d)
 rw [ay,ay,aH,ar hi]
 rfl
def WksAt (CW:Aj)(H:Hp)(W:List (Key×V))(ss:List Str)(wh:Str→Str)(ps:Str→Int×Int):Prop:=W.map (·.1)=ss.map Sum.inr∧W.length<64∧∀s∈ss,∃y p t tv,wt W (.inr s)=some (.ref y)∧WkAt CW H y (wh s) p (ps s) t tv
def spOn (C CW:Aj):Sp:=λvs H Q _=>∃(x dr dw dd:Aj) (R W:List (Key×V)) (D:List V) (n:Str) (ss:List Str) (wh:Str→Str) (ps:Str→Int×Int),vs=[.ref x,.str n]∧Hse C H x dr dw dd R W D∧WksAt CW H W ss wh ps ∧
 ∀(l:Aj) (H':Hp) (ms:List Str),H l=none→Same H H'→ms.Perm ss→ms.Pairwise (λx y=>¬ y.cps.toList<x.cps.toList)→H' l=some (.lst ((ms.filter λs=>decide (V.str (wh s)=V.str n)).map V.str))→Q (.ref l) H'
theorem qqf {f:Aj}{fd:Ad}(F:Fun K "walkers_on" "House.walkers_on" s_House_walkers_on f fd)(T:Txt K mg qf wz qk q9 qg wv wu wq wm wy qd qz qm qw qq):FnOk P w K mg base (CXE P w) 1 f fd ["self","whose"] (spOn qq qw):=by
 have sc:=ut
 refine F.okX sc (λvs H Q E h=>by obtain ⟨x,dr,dw,dd,R,W,D,n,ss,wh,ps,rfl,_⟩:=h;rfl) (λcdv A outer s H vs Q E hr h=>?_)
 obtain ⟨x,dr,dw,dd,R,W,D,n,ss,wh,ps,rfl,hh,hw,k⟩:=h
 obtain ⟨dx,hx⟩:=hh.ob
 refine ⟨_,(wj (w8 (wzy (M:=[0,1]) rfl rfl (by walk_at "cap") (by walk_at "has") (by walk_at "cix") rfl (by decide +kernel) rfl (show List.Nodup (["name","self","whose"]:List Str) by decide +kernel) (Wb (xu (qww rfl) rfl T.sorted_ PyProof.Rows.boot_sorted (xf (zu (pv 0) rfl) qu))) (λ_ _ _ _ _=>(xq k9 (Z2 (K:=K) rfl (yd (jq hr) (Z2 (K:=K) rfl (pv 1) rfl) (pv 0) (λ_ _=>rfl)) rfl) (pv 2) (xk _))) (λ_ _ _ _ _=>(pv 0))))),?_⟩
 refine exI rfl ⟨x,qq,dx,_,_,rfl,hx,T.clH,T.naHw,zh,dw,W,ss,rfl,.inl hh.w,hw.1,hw.2.1,λl ms nl pm srt=>?_⟩
 have s1:Same H (upd H l (.lst (ms.map V.str))):=Same.upd nl
 have f1:upd H l (.lst (ms.map V.str)) l=some (.lst (ms.map V.str)):=q8
 have lm:ms.length<64:=by
  have a:=bJ List.length hw.1
  rw [ac,ac] at a
  have b:=pm.length_eq
  have c:=hw.2.1
  lia
 generalize upd H l (.lst (ms.map V.str))=H1 at s1 f1
 refine ⟨l,rfl,⟨_,SqL.of f1⟩,qj5 (λi=>decide (V.str (wh (ms.getD i ""))=V.str n)) (SqL.of f1) (by rw [ac];lia) (λi v H' RR ev s' hR=>?_) (λi v H' RR ev ci s' hR=>(exI rfl (hR H' (Same.refl _)))) λp H' np s' fp=>?_⟩
 ·rw [aH] at ev
  cases em:ms[i]? with
  |none=>rw [em] at ev;cases ev
  |some m =>
   rw [em] at ev
   cases ev
   have eg:ms.getD i "" = m:=by rw [ay,em];rfl
   obtain ⟨y,p,t,tv,e,a⟩:=hw.2.2 m (pm.mem_iff.mp (aN em))
   obtain ⟨dy,hy⟩:=a.ob
   have sa:=s1.trans s'
   have dg:DGet H' dw (.str m) (wt W (.inr m)):=DGet.k (k:=.inr m) (sa _ _ hh.w)
   rw [e] at dg
   rw [eg] at hR
   exact exI rfl ⟨x,qq,dx,_,_,rfl,sa _ _ hx,T.clH,T.naHw,zh,exI rfl ⟨dw,exI rfl ⟨dg,y,qw,dy,_,_,rfl,sa _ _ hy,T.clW,T.naWw,Qu,exI rfl ⟨rfl,_,rfl,hR H' (Same.refl _)⟩⟩⟩⟩
 ·rw [qkq ms "" V.str λs=>decide (V.str (wh s)=V.str n)] at fp
  exact k p H' ms (xb s1 np) (s1.trans s') pm srt fp
end
section
variable {P:Ac}{w:Ah}{K:Aa}{mg:Str→Option Ag}{base:Heap}{qf:Aj}{wz:Aj}{qk:Aj}{q9:Aj}{qg:Aj}{wv:Aj}{wu:Aj}{wq:Aj}{wm:Aj}{wy:Aj}{qd:Aj}{qz:Aj}{qm:Aj}{qw:Aj}{qq:Aj}
def Wx (C:Aj)(H H':Hp)(x dr dw dd:Aj)(R W:List (Key×V))(D:List V)(cs1 cs2:List (Key×V)):Prop:=∃tp q1 q2,H tp=none∧H q1=none∧H q2=none∧Hse C H' x dr dw dd (exK R cs1) (exK W cs2) (D++[.ref tp])∧H' tp=some (.tup [.ref q1,.ref q2])∧H' q1=some (.dK (bfK R cs1))∧H' q2=some (.dK (bfK W cs2))∧q1≠q2∧Kb [dr,dw,dd] H H'
theorem wz8 {C:Aj}{H H4:Hp}{x dr dw dd c1 c2:Aj}{R W cs1 cs2:List (Key×V)}{D:List V}{Q:VK}{E:XK}(hh:Hse C H x dr dw dd R W D)(s4:Same H H4)(n1:H c1=none)(n2:H c2=none)(e1:H4 c1=some (.dK cs1))(e2:H4 c2=some (.dK cs2))(c12:c1≠c2)(nd1:(cs1.map (·.1)).Nodup)(nd2:(cs2.map (·.1)).Nodup)(lR:R.length≤1000)(lW:W.length≤1000)(l1:cs1.length≤1000)(l2:cs2.length≤1000)(lD:D.length≤1000000)(ok1:qkw R cs1)(ok2:qkw W cs2)
  (k:∀H',Wx C H H' x dr dw dd R W D cs1 cs2→Kb [dr,dw,dd,c1,c2] H4 H'→Rd H' c2 (.dK cs2)→(∀H5,Kb [c2] H' H5→Wx C H H5 x dr dw dd R W D cs1 cs2)→Q .non H'):qqn C [.ref x,.ref c1,.ref c2] H4 Q E:=by
 have hh4:=hh.same s4
 refine ⟨x,dr,dw,dd,c1,c2,R,W,cs1,cs2,D,rfl,hh4,.inl e1,.inl e2,c12,(qj hh.r n1).symm,(qj hh.w n1).symm,(qj hh.r n2).symm,(qj hh.w n2).symm,nd1,nd2,lR,lW,l1,l2,lD,ok1,ok2,λH' tp q1 q2 a1 a2 a3 a4 a5 a6 a7 a8 rd a9=>?_⟩
 have no:∀b,H4 b=none→H b=none:=λb e=>xb s4 e
 have kb:Kb [dr,dw,dd] H H':=λb o nb e=>a9 b o (λz=>by
  simp only [ai,aj,be] at z nb
  rcases z with z|z|z|z|z
  ·exact nb (.inl z)
  ·exact nb (.inr (.inl z))
  ·exact nb (.inr (.inr z))
  ·rw [z,n1] at e;cases e
  ·rw [z,n2] at e;cases e) (s4 _ _ e)
 have ne4:∀b,H4 b=none→b∉[c2]:=λb e z=>by rw [aq.mp z,e2] at e;cases e
 have neH:∀b o,H b=some o→b∉[c2]:=λb o e z=>by rw [aq.mp z,n2] at e;cases e
 refine k H' ⟨tp,q1,q2,no _ a1,no _ a2,no _ a3,a4,a5,a6,a7,a8,kb⟩ a9 rd λH5 k5=>?_
 obtain ⟨dx,ex⟩:=hh.ob
 exact ⟨tp,q1,q2,no _ a1,no _ a2,no _ a3,a4.kb k5 ⟨neH _ _ ex,neH _ _ hh.r,neH _ _ hh.w,neH _ _ hh.d⟩,k5 _ _ (ne4 _ a1) a5,k5 _ _ (ne4 _ a2) a6,k5 _ _ (ne4 _ a3) a7,a8,λb o nb e=>k5 _ _ (neH _ _ e) (kb b o nb e)⟩
def Qp (C CN:Aj):Sp:=λvs H Q E=>∃(x dr dw dd:Aj) (R W:List (Key×V)) (D:List V) (n:Str),vs=[.ref x,.str n]∧Hse C H x dr dw dd R W D∧R.length≤1000∧W.length≤1000∧D.length≤1000000∧(wt W (.inr n)=none→E (.ref CN) none H) ∧
 ((wt W (.inr n)).isSome=true→∀H',Wx C H H' x dr dw dd R W D [] [(.inr n,.non)]→Q .non H')
theorem wzx {f:Aj}{fd:Ad}(F:Fun K "leave" "House.leave" s_House_leave f fd)(T:Txt K mg qf wz qk q9 qg wv wu wq wm wy qd qz qm qw qq)(c_walker_called:MCal P w K mg base qq "walker_called" 1 (jw qq qd false))(c_do:MCal P w K mg base qq "do" 2 (qqn qq)) :
  FnOk P w K mg base (CXE P w) 3 f fd ["self","name"] (Qp qq qd):=by
 have sc:=Jj
 refine F.okX sc (λvs H Q E h=>by obtain ⟨x,dr,dw,dd,R,W,D,n,rfl,_⟩:=h;rfl) (λcdv A outer s H vs Q E hr h=>?_)
 obtain ⟨x,dr,dw,dd,R,W,D,n,rfl,hh,lR,lW,lD,kx,k⟩:=h
 obtain ⟨dx,hx⟩:=hh.ob
 refine ⟨_,(qy (zw (xp (pv 0) T.clH c_walker_called (hr.mono (by decide)) qh (wx (pv 1) qu)))
   (wj (zw (xp (pv 0) T.clH c_do (hr.mono (by decide)) qh (xf jd (xf (Z1 (Wf (pv 1) qk6 Z4) rfl rfl (λz=>nomatch z) (by decide)) qu)))))),?_⟩
 refine ⟨_,rfl,x,dx,_,rfl,hx,x6 (by decide +kernel) (by decide +kernel) (by decide +kernel),_,rfl,x,dr,dw,dd,R,W,D,n,rfl,hh,λv e=>?_,kx⟩
 have k:=k (by show (wt W (.inr n)).isSome=true;rw [show wt W (.inr n)=some v from e];rfl)
 refine exI rfl ⟨x,dx,exI rfl ⟨hx,x6 (by decide +kernel) (by decide +kernel) (by decide +kernel),λc1 n1=>λc2 n2=>(exI rfl ⟨q8,[(.inr n,.non)],rfl,(show 1≤15 by decide),?_⟩)⟩⟩
 have c12:c1≠c2:=λz=>by rw [←z,q8] at n2;cases n2
 have n20:H c2=none:=by rw [←n2,wg (aW c12)]
 have e0:Qj [] [((Sum.inr n:Key),V.non)]=[((Sum.inr n:Key),V.non)]:=rfl
 rw [e0,ud]
 have s4:Same H (upd (upd H c1 (.dK [])) c2 (.dK [(.inr n,.non)])):=λb o e=>by
  rw [wg (qj e n20),wg (qj e n1)]
  exact e
 have f1:upd (upd H c1 (.dK [])) c2 (.dK [(.inr n,.non)]) c1=some (.dK []):=by rw [wg c12,q8]
 have f2:upd (upd H c1 (.dK [])) c2 (.dK [(.inr n,.non)]) c2=some (.dK [(.inr n,.non)]):=q8
 generalize upd (upd H c1 (.dK [])) c2 (.dK [(.inr n,.non)])=H4 at s4 f1 f2
 dsimp only [j8]
 refine wz8 (E:=E) hh s4 n1 n20 f1 f2 c12 aU (aS.mpr ⟨aj,aU⟩) lR lW (aB _) (by show 1≤1000;decide) lD (λi c ec hc=>nomatch ec) (λi c ec hc=>?_) λH' gd _ _ _=>k H' gd
 cases i with
 |zero =>
  cases ec
  show (wt W (.inr n)).isSome=true
  rw [show wt W (.inr n)=some v from e]
  rfl
 |succ i=>cases ec
def cntT (tv:List (List Key×V))(q:Int×Int):V:=(wt tv [.inl q.1,.inl q.2]).getD (.int 0)
def qx5 (C CW CN CB:Aj):Sp:=λvs H Q E=>∃(x dr dw dd a:Aj) (R W:List (Key×V)) (D:List V) (n:Str) (t b:Int),vs=[.ref x,.str n,.ref a]∧Hse C H x dr dw dd R W D∧H a=some (.tup [.int t,.int b])∧(wt W (.inr n)=none→E (.ref CN) none H) ∧
 (∀v,wt W (.inr n)=some v→∃y whose p pt t' tv,v=.ref y∧WkAt CW H y whose p pt t' tv∧(b<1→E (.ref CB) none H)∧(1≤b→Sm 8000 b∧∀H',Same H H'→Q (cntT tv (wc t b)) H'))
theorem wxj {f:Aj}{fd:Ad}(F:Fun K "stood" "House.stood" s_House_stood f fd)(T:Txt K mg qf wz qk q9 qg wv wu wq wm wy qd qz qm qw qq)(c_walker_called:MCal P w K mg base qq "walker_called" 1 (jw qq qd false))(c_lowest:Cal P w K mg base "lowest" 2 (yx qk)) :
  FnOk P w K mg base (CXE P w) 3 f fd ["self","name","point"] (qx5 qq qw qd qk):=by
 have sc:=Jc
 refine F.okX sc (λvs H Q E h=>by obtain ⟨x,dr,dw,dd,a,R,W,D,n,t,b,rfl,_⟩:=h;rfl) (λcdv A outer s H vs Q E hr h=>?_)
 obtain ⟨x,dr,dw,dd,a,R,W,D,n,t,b,rfl,hh,ha,kx,k⟩:=h
 obtain ⟨dx,hx⟩:=hh.ob
 refine ⟨_,(qy (xz (i:=3) sc.nd rfl (by walk_at "loc") (xp (pv 0) T.clH c_walker_called (hr.mono (by decide)) qh (wx (pv 1) qu)))
   (wj (w8 (qv2 (jq hr) (zu (pv 3) rfl) (wp c_lowest (hr.mono (by decide)) rfl qh (zx (xy zn (pv 2) qr (λ_ _=>rfl)) (zx (xy zn (pv 2) qr (λ_ _=>rfl)) qu))) qr ⟨rfl,rfl,rfl,rfl⟩)))),?_⟩
 refine ⟨_,rfl,x,dx,_,rfl,hx,x6 (by decide +kernel) (by decide +kernel) (by decide +kernel),_,rfl,x,dr,dw,dd,R,W,D,n,rfl,hh,λv e=>?_,kx⟩
 obtain ⟨y,whose,p,pt,t',tv,rfl,hW,kb,k⟩:=k v e
 obtain ⟨dy,hy⟩:=hW.ob
 refine ⟨_,rfl,y,qw,dy,_,_,rfl,hy,T.clW,T.naWt,Ym,t',rfl,.inr ⟨_,.inl hW.tm⟩,_,rfl,_,_,_,_,rfl,rfl,SqT.of ha,rfl,_,rfl,_,_,_,_,rfl,rfl,SqT.of ha,rfl,t,b,rfl,λb1=>?_,λb1=>kb b1⟩
 obtain ⟨sm,k⟩:=k b1
 refine ⟨sm.mono (by decide),λq nq=>?_⟩
 have s1:Same H (upd H q (.tup (ptV (wc t b)))):=Same.upd nq
 have f1:upd H q (.tup (ptV (wc t b))) q=some (.tup (([.inl (wc t b).1,.inl (wc t b).2]:List Key).map kV)):=q8
 generalize upd H q (.tup (ptV (wc t b)))=H1 at s1 f1
 exact ⟨_,DGet.t (s1 _ _ hW.tm) f1,k H1 s1⟩
end
section
variable {P:Ac}{w:Ah}{K:Aa}{mg:Str→Option Ag}{base:Heap}{qf:Aj}{wz:Aj}{qk:Aj}{q9:Aj}{qg:Aj}{wv:Aj}{wu:Aj}{wq:Aj}{wm:Aj}{wy:Aj}{qd:Aj}{qz:Aj}{qm:Aj}{qw:Aj}{qq:Aj}
def KnD (H H':Hp):Prop:=∀b o,(∀kv,o≠HO.dK kv)→H b=some o→H' b=some o
def KnL (H H':Hp):Prop:=∀b o,(∀L,o≠HO.lst L)→H b=some o→H' b=some o
theorem qyz {K:Aa}{M:List Nat}{a:Aj}{ms:List Str}{tk te:TE}{σ:St}{H:Hp}{Q:VK}(G:Str→V→Hp→Prop)(gs:∀s v H H',G s v H→KnD H H'→G s v H')(hS:H a=some (.lst (ms.map V.str)))(hz:ms.length≤1000000)(nd:ms.Nodup)
  (he:∀(s:Str) (H':Hp) (R:V→V→Hp→Prop),s∈ms→Same H H'→(∀v H'',Same H' H''→G s v H''→R (.str s) v H'')→tk (vw M σ (some (.str s))) H' λy H4=>te (vw M σ (some (.str s))) H4 λz H5=>R y z H5)
  (k:∀p kvs H',H p=none→Same H H'→H' p=some (.dK kvs)→kvs.map (·.1)=ms.map Sum.inr→(∀kv∈kvs,∃s,s∈ms∧kv.1=.inr s∧G s kv.2 H')→Q (.ref p) H'):qx2 (Itl K a) M tk te σ H Q:=by
 intro p np
 have big:(1000000:Nat)<sizeLine:=by decide
 refine ⟨λi m ys H2=>i≤ms.length∧m=ms.length-i∧ys.map (·.1)=(ms.take i).map Sum.inr∧(∀kv∈ys,∃s,s∈ms∧kv.1=.inr s∧G s kv.2 H2)∧Same H H2∧H2 p=some (.dK ys),⟨ms.length,aB _,rfl,rfl,(λkv z=>nomatch z),Same.upd np,q8⟩,?_⟩
 rintro i m ys H2 ⟨hi,rfl,hk,hG,sm,hp⟩
 have hl:ys.length=i:=by
  have:=bJ List.length hk
  rw [ac,ac,bG] at this
  lia
 refine ⟨hp,by lia,?_⟩
 by_cases hlt:i<ms.length
 ·have em:(ms.map V.str)[i]?=some (.str ms[i]):=by rw [aH,ar hlt];rfl
  refine .inr ⟨⟨_,_,SqL.of (sm _ _ hS),em⟩,?_⟩
  rintro v H3 ⟨rfl,hv⟩
  have ev:=hv _ (SqL.of (sm _ _ hS))
  rw [em] at ev
  cases ev
  refine he ms[i] _ _ (cM _) sm λv H4 s4 g4=>⟨.inr ms[i],rfl,s4 _ _ hp,ms.length-(i+1),by lia,by lia,rfl,?_⟩
  have hn:wt ys (.inr ms[i])=none:=by
   unfold wt
   rw [dc.mpr]
   ·rfl
   ·intro x hx z
    have z:x.1=.inr ms[i]:=by simpa using z
    have hx2:x.1∈(ms.take i).map (Sum.inr:Str→Key):=by rw [←hk];exact aw.mpr ⟨x,hx,rfl⟩
    rw [z] at hx2
    obtain ⟨s,hs,es⟩:=aw.mp hx2
    injection es with es
    obtain ⟨j,hj,ej⟩:=cR hs
    rw [bG] at hj
    rw [eR] at ej
    have:=(dE nd).mp (ej.trans es)
    lia
  have kn:KnD H4 (upd H4 p (.dK (vj ys (.inr ms[i]) v))):=λb ob no e=>by
   rw [wg (λz=>by rw [z,s4 _ _ hp] at e;cases e;exact no _ rfl)]
   exact e
  rw [yj _ hn] at kn ⊢
  refine ⟨?_,λkv hkv=>?_,?_,q8⟩
  ·rw [aT,hk,cG,ar hlt,aT]
   rfl
  ·rcases bg.mp hkv with hkv|hkv
   ·obtain ⟨s,h1,h2,h3⟩:=hG kv hkv
    exact ⟨s,h1,h2,gs _ _ _ _ (gs _ _ _ _ h3 λb ob _ e=>s4 _ _ e) kn⟩
   ·rw [aq.mp hkv]
    exact ⟨ms[i],cM _,rfl,gs _ _ _ _ g4 kn⟩
  ·intro b ob e
   rw [wg (qj e np)]
   exact s4 _ _ (sm _ _ e)
 ·have:i=ms.length:=by lia
  subst this
  rw [cO] at hk
  exact .inl ⟨⟨_,SqL.of (sm _ _ hS),by rw [ac];exact af _⟩,k p ys H2 np sm hp hk hG⟩
theorem wwp {M:List Nat}{d:Aj}{o:Obj}{cs:List (Key×V)}{gg:TG}{te:TE}{σ:St}{H:Hp}{Q:VK}(G:Nat→V→Hp→Prop)(gs:∀i v H H',G i v H→KnL H H'→G i v H')(hz:cs.length≤1000000)(hd:H d=some (.frz o (.dK cs)))
  (he:∀(i:Nat) (c:Key×V) (q:Aj) (H':Hp) (R:VK),cs[i]?=some c→Same H H'→H' q=none→(∀v H'',Same H' H''→G i v H''→R v H'')→gg (.ref q) (y9 M σ none none) (upd H' q (.tup [kV c.1,c.2])) λσ4 H4=>(∃a b,σ4=y9 M σ (some a) (some b))∧te σ4 H4 R)
  (k:∀p ys H',H p=none→Same H H'→H' p=some (.lst ys)→ys.length=cs.length→(∀j v,ys[j]?=some v→G j v H')→Q (.ref p) H'):qj6 (ItDI d o cs) M gg te σ H Q:=by
 intro p np
 have big:(1000000:Nat)<sizeLine:=by decide
 refine ⟨λi m ys H2=>i≤cs.length∧m=cs.length-i∧ys.length=i∧Same H H2∧H2 p=some (.lst ys)∧∀j v,ys[j]?=some v→G j v H2,⟨cs.length,aB _,rfl,rfl,Same.upd np,q8,λj v e=>by cases e⟩,?_⟩
 rintro i m ys H2 ⟨hi,rfl,hl,sm,hp,hG⟩
 refine ⟨hp,by lia,?_⟩
 by_cases hlt:i<cs.length
 ·refine .inr ⟨⟨sm _ _ hd,hlt⟩,?_⟩
  rintro v H3 ⟨q,c,nq,rfl,ec,rfl⟩
  refine he i c q H2 _ ec sm nq λv H4 s4 g4=>⟨s4 _ _ hp,cs.length-(i+1),by lia,by lia,rfl,by rw [aG];show ys.length+1=_;lia,?_,q8,λj v' ej=>?_⟩
  ·intro b ob e
   rw [wg (qj e np)]
   exact s4 _ _ (sm _ _ e)
  ·have kn:KnL H4 (upd H4 p (.lst (ys++[v]))):=λb ob no e=>by
    rw [wg (λz=>by rw [z,s4 _ _ hp] at e;cases e;exact no _ rfl)]
    exact e
   rcases d7 j ys.length with hj|hj
   ·rw [bu hj] at ej
    exact gs _ _ _ _ (gs _ _ _ _ (hG j v' ej) λb ob _ e=>s4 _ _ e) kn
   ·rw [bj hj] at ej
    have:j-ys.length=0:=by
     rcases Nat.eq_zero_or_pos (j-ys.length) with z|z
     ·exact z
     ·rw [bx (by show 1≤_;lia)] at ej;cases ej
    rw [this] at ej
    cases ej
    have:j=i:=by lia
    subst this
    exact gs _ _ _ _ g4 kn
 ·have:i=cs.length:=by lia
  subst this
  exact .inl ⟨⟨sm _ _ hd,af _⟩,k p ys H2 np sm hp hl hG⟩
end
section
variable {P:Ac}{w:Ah}{K:Aa}{mg:Str→Option Ag}{base:Heap}{qf:Aj}{wz:Aj}{qk:Aj}{q9:Aj}{qg:Aj}{wv:Aj}{wu:Aj}{wq:Aj}{wm:Aj}{wy:Aj}{qd:Aj}{qz:Aj}{qm:Aj}{qw:Aj}{qq:Aj}
def WksT (CW:Aj)(H:Hp)(W:List (Key×V))(ss:List Str)(wh:Str→Str)(ps:Str→Int×Int)(tvs:Str→List (List Key×V)):Prop:=W.map (·.1)=ss.map Sum.inr∧W.length<64∧ss.Nodup∧∀s∈ss,TmOk (tvs s)∧∃y p t,wt W (.inr s)=some (.ref y)∧WkAt CW H y (wh s) p (ps s) t (tvs s)
theorem WksT.at {CW:Aj}{H:Hp}{W:List (Key×V)}{ss:List Str}{wh:Str→Str}{ps:Str→Int×Int}{tvs:Str→List (List Key×V)}(h:WksT CW H W ss wh ps tvs):WksAt CW H W ss wh ps:=⟨h.1,h.2.1,λs hs=>by
 obtain ⟨_,y,p,t,e,a⟩:=h.2.2.2 s hs
 exact ⟨y,p,t,tvs s,e,a⟩⟩
def GoneAt (CW:Aj)(hs:List Int)(m:Nat)(whose:Str)(ps:Str→Int×Int)(tvs:Str→List (List Key×V))(s:Str)(v:V)(H:Hp):Prop:=∃y p t tv,v=.ref y∧WkAt CW H y whose p (itP hs (ps s) m) t tv∧TmOk tv∧Zf hs (ps s) m (tvs s) tv
def KnW (H H':Hp):Prop:=∀b o,(∀kv,o≠HO.dK kv)→(∀u kv,o≠HO.frz u (.dK kv))→(∀L,o≠HO.lst L)→H b=some o→H' b=some o
theorem GoneAt.kn {CW:Aj}{hs:List Int}{m:Nat}{whose:Str}{ps:Str→Int×Int}{tvs:Str→List (List Key×V)}{s:Str}{v:V}{H H':Hp}(h:GoneAt CW hs m whose ps tvs s v H)(k:KnW H H'):GoneAt CW hs m whose ps tvs s v H':=by
 obtain ⟨y,p,t,tv,e,w,a,b⟩:=h
 obtain ⟨dx,ob⟩:=w.ob
 exact ⟨y,p,t,tv,e,⟨⟨dx,k _ _ (λ_ z=>by cases z) (λ_ _ z=>by cases z) (λ_ z=>by cases z) ob⟩,k _ _ (λ_ z=>by cases z) (λ_ _ z=>by cases z) (λ_ z=>by cases z) w.pt,k _ _ (λ_ z=>by cases z) (λ_ _ z=>by cases z) (λ_ z=>by cases z) w.tm⟩,a,b⟩
def quv (C CR CW CN CC:Aj):Sp:=λvs H Q E=>∃(x dr dw dd:Aj) (R W:List (Key×V)) (D:List V) (whose:Str) (m:Int),vs=[.ref x,.str whose,.int m]∧Hse C H x dr dw dd R W D∧R.length≤1000∧D.length≤1000000∧(wt R (.inr whose)=none→E (.ref CN) none H) ∧
 (∀v,wt R (.inr whose)=some v→∃r hs,v=.ref r∧RoadAt CR H r hs∧(¬ Within m 0 (some 1000000000000000000000000000000000000000000000000000000000000)→E (.ref CC) none H) ∧
  (Within m 0 (some 1000000000000000000000000000000000000000000000000000000000000)→∃ss wh ps tvs,WksT CW H W ss wh ps tvs∧(∀s∈ss,wh s=whose→HPt hs (ps s)) ∧
   ∀(H':Hp) (l:Aj) (cs:List (Key×V)) (ms:List Str) (ys:List V),ms.Perm ss→ms.Pairwise (λx y=>¬ y.cps.toList<x.cps.toList)→Wx C H H' x dr dw dd R W D [] cs→cs.map (·.1)=(ms.filter λs=>decide (V.str (wh s)=V.str whose)).map Sum.inr→(∀kv∈cs,∃s,s∈ss∧wh s=whose∧kv.1=.inr s∧GoneAt CW hs m.toNat whose ps tvs s kv.2 H') →
    H l=none→H' l=some (.lst ys)→ys.length=cs.length→(∀(j:Nat) v,ys[j]?=some v→∃kv a y p pt t tv,cs[j]?=some kv∧v=.ref a∧H' a=some (.tup [kV kv.1,.ref p])∧kv.2=.ref y∧WkAt CW H' y whose p pt t tv)→Q (.ref l) H'))
theorem qk0 {f:Aj}{fd:Ad}(F:Fun K "together" "House.together" s_House_together f fd)(T:Txt K mg qf wz qk q9 qg wv wu wq wm wy qd qz qm qw qq)(c_road_called:MCal P w K mg base qq "road_called" 1 (jw qq wy true))(c_check_count:CalD P w K mg base "check_count" 1 (Yx qg))(c_walkers_on:MCal P w K mg base qq "walkers_on" 1 (spOn qq qw))(c_gone:MCal P w K mg base qw "gone" 6 (qzr qw qm))(c_do:MCal P w K mg base qq "do" 2 (qqn qq)) :
  FnOk P w K mg base (CXE P w) 8 f fd ["self","whose","many"] (quv qq qm qw wy qg):=by
 have sc:=Ww
 refine F.okX sc (λvs H Q E h=>by obtain ⟨x,dr,dw,dd,R,W,D,whose,m,rfl,_⟩:=h;rfl) (λcdv A outer s H vs Q E hr h=>?_)
 obtain ⟨x,dr,dw,dd,R,W,D,whose,m,rfl,hh,lR,lD,kx,k⟩:=h
 obtain ⟨dx,hx⟩:=hh.ob
 obtain ⟨tg,g_FARTHEST⟩:=T.g_FARTHEST
 refine ⟨_,(qy (xz (i:=3) sc.nd rfl (by walk_at "loc") (xp (pv 0) T.clH c_road_called (hr.mono (by decide)) qh (wx (pv 1) qu)))
   (qy (zw (Yf c_check_count.all (hr.mono (by decide)) rfl qh (wx (pv 2) (xx qr (wx (yp (v:=V.int 1000000000000000000000000000000000000000000000000000000000000) rfl g_FARTHEST ⟨_,rfl⟩) qu)))))
   (qy (Zc (i:=4) (M:=[0,2,3]) sc.nd rfl (by walk_at "loc") rfl rfl (by walk_at "cap") (by walk_at "has") (by walk_at "cix") rfl (by decide +kernel) rfl (show List.Nodup (["name","self","many","road"]:List Str) by decide +kernel) (Wb (xp (pv 0) T.clH c_walkers_on (hr.mono (by decide)) qh (wx (pv 1) qu))) (λ_ _ _ _ _=>(pv 0)) (λ_ _ _ _ _=>(xp (yd (jq hr) (Z2 (K:=K) rfl (pv 1) rfl) (pv 0) (λ_ _=>rfl)) T.clW c_gone (hr.mono (by decide)) qzh (wx (pv 3) (wx (pv 2) qu)))))
   (qy (zw (xp (pv 0) T.clH c_do (hr.mono (by decide)) qh (xf jd (wx (pv 4) qu))))
   (wj (w8 (wxm (x := "name") (y2 := "walker") (M:=[]) rfl rfl (by walk_at "cap") (by walk_at "has") (by walk_at "cix") rfl (by decide +kernel) (λ_ _ _ _ _=>wv2 (K:=K) (n:=2) rfl rfl (xg (xj (i:=0) (show List.Nodup (["name","walker"]:List Str) by decide +kernel) rfl (by walk_at "loc")) (xg (xj (i:=1) (show List.Nodup (["name","walker"]:List Str) by decide +kernel) rfl (by walk_at "loc")) vb))) (pi_di (pv 4)) (λ_ _ _ _ _=>(vg (wx (pv 0) (xf (Z2 (K:=K) rfl (pv 1) rfl) qu))))))))))),?_⟩
 refine ⟨_,rfl,x,dx,_,rfl,hx,x6 (by decide +kernel) (by decide +kernel) (by decide +kernel),_,rfl,x,dr,dw,dd,R,W,D,whose,rfl,hh,λv e=>?_,kx⟩
 obtain ⟨r,hs,rfl,hR,kc,k⟩:=k v e
 refine ⟨_,rfl,m,0,.int (1000000000000000000000000000000000000000000000000000000000000),some (1000000000000000000000000000000000000000000000000000000000000),rfl,.inr ⟨1000000000000000000000000000000000000000000000000000000000000,rfl,rfl⟩,λwi=>?_,kc⟩
 obtain ⟨ss,wh,ps,tvs,hw,hps,k⟩:=k wi
 refine exI rfl ⟨x,dx,exI rfl ⟨hx,x6 (by decide +kernel) (by decide +kernel) (by decide +kernel),exI rfl ⟨x,dr,dw,dd,R,W,D,whose,ss,wh,ps,rfl,hh,hw.at,λl H1 ms nl s1 pm srt fl=>?_⟩⟩⟩
 have nd:ms.Nodup:=pm.nodup_iff.mpr hw.2.2.1
 have ndf:=nd.filter λs=>decide (V.str (wh s)=V.str whose)
 have lm:ms.length<64:=by
  have a:=bJ List.length hw.1
  rw [ac,ac] at a
  have b:=pm.length_eq
  have c:=hw.2.1
  lia
 have lf:=cE (λs=>decide (V.str (wh s)=V.str whose)) ms
 refine ⟨l,rfl,⟨_,SqL.of fl⟩,qyz (GoneAt qw hs m.toNat whose ps tvs) (λs v H H' g kn=>g.kn λb o n1 _ _ e=>kn b o n1 e) fl (by lia) ndf (λs H' RR hs' sm kR=>?_) λc2 cs H2 n2 s2 f2 ec hG=>?_⟩
 ·obtain ⟨hm,hq⟩:=bY.mp hs'
  have hq:wh s=whose:=by
   have:=dA hq
   injection this
  have hss:=pm.mem_iff.mp hm
  obtain ⟨tm,y,p,t,ey,wk⟩:=hw.2.2.2 s hss
  rw [hq] at wk
  obtain ⟨dy,hy⟩:=wk.ob
  have sa:=s1.trans sm
  have dg:DGet H' dw (.str s) (wt W (.inr s)):=DGet.k (k:=.inr s) (sa _ _ hh.w)
  rw [ey] at dg
  refine exI rfl (exI rfl ⟨x,qq,dx,_,_,rfl,sa _ _ hx,T.clH,T.naHw,zh,exI rfl ⟨dw,exI rfl ⟨dg,y,dy,exI rfl ⟨sa _ _ hy,qv4 (by decide +kernel) (by decide +kernel) (by decide +kernel),exI rfl (exI rfl ⟨y,r,p,t,whose,hs,ps s,tvs s,m,rfl,wk.same sa,tm,hR.same sa,hps s hss hq,wi.1,λH'' y' p' t' tv' ny s'' w'' tm' hit=>kR _ _ s'' ⟨y',p',t',tv',rfl,w'',tm',hit⟩⟩)⟩⟩⟩⟩)
 ·have s02:=s1.trans s2
  have n20:H c2=none:=xb s1 n2
  have ndk:(cs.map (·.1)).Nodup:=by
   rw [ec]
   exact bw.mpr (ndf.imp λ{a b} h z=>h (by injection z))
  have lc:cs.length<64:=by
   have:=bJ List.length ec
   rw [ac,ac] at this
   lia
  refine exI rfl ⟨x,dx,exI rfl ⟨s02 _ _ hx,x6 (by decide +kernel) (by decide +kernel) (by decide +kernel),λc1 n1=>(exI rfl ?_)⟩⟩
  have s4:Same H2 (upd H2 c1 (.dK [])):=Same.upd n1
  have f1:upd H2 c1 (.dK []) c1=some (.dK []):=q8
  have c12:c1≠c2:=(qj f2 n1).symm
  have f24:=s4 _ _ f2
  generalize upd H2 c1 (.dK [])=H4 at s4 f1 f24
  dsimp only [j8]
  have lW:W.length≤1000:=by have:=hw.2.1;lia
  refine wz8 (E:=E) hh (s02.trans s4) (xb s02 n1) n20 f1 f24 c12 aU ndk lR lW (aB _) (by lia) lD (λi c ec hc=>nomatch ec) (λi c ec' hc=>?_) λH5 gd kb5 rd5 gp=>?_
  ·obtain ⟨_,_,_,y,_,_,_,ey,_⟩:=hG c (aN ec')
   rw [ey] at hc
   cases hc
  ·refine exI rfl ⟨c2,cs,rfl,rd5,λo H6 fz=>?_⟩
   have kn56:KnW H5 H6:=λb ob m1 m2 _ e=>by
    by_cases z:b=c2
    ·rcases rd5 with g|⟨u,g⟩ <;> (rw [z,g] at e;cases e)
     ·exact absurd rfl (m1 _)
     ·exact absurd rfl (m2 _ _)
    ·rw [fz.2 b z];exact e
   have hd4:=(s02.trans s4) _ _ hh.d
   have kn25:KnW H4 H5:=λb ob m1 m2 m3 e=>kb5 b ob (λz=>by
    simp only [ai,aj,be] at z
    rcases z with z|z|z|z|z
    ·rw [z,(s02.trans s4) _ _ hh.r] at e;cases e;exact m1 _ rfl
    ·rw [z,(s02.trans s4) _ _ hh.w] at e;cases e;exact m1 _ rfl
    ·rw [z,hd4] at e;cases e;exact m3 _ rfl
    ·rw [z,f1] at e;cases e;exact m1 _ rfl
    ·rw [z,f24] at e;cases e;exact m1 _ rfl) e
   have hG6:∀kv∈cs,∃s,s∈ss∧wh s=whose∧kv.1=.inr s∧GoneAt qw hs m.toNat whose ps tvs s kv.2 H6:=λkv hkv=>by
    obtain ⟨s,hs1,hs2,g⟩:=hG kv hkv
    obtain ⟨hm,hq⟩:=bY.mp hs1
    have hq:wh s=whose:=by
     have:=dA hq
     injection this
    exact ⟨s,pm.mem_iff.mp hm,hq,hs2,((g.kn λb o _ _ _ e=>s4 _ _ e).kn kn25).kn kn56⟩
   refine wwp (λj v H=>∃kv a y p pt t tv,cs[j]?=some kv∧v=.ref a∧H a=some (.tup [kV kv.1,.ref p])∧kv.2=.ref y∧WkAt qw H y whose p pt t tv) (λj v H H' g kn=>?_) (by lia) fz.1 (λi c q H' RR ei sm nq kR=>?_) λl6 ys H7 n6 s7 f7 ly hy=>?_
   ·obtain ⟨kv,a,y,p,pt,t,tv,g1,g2,g3,g4,g5⟩:=g
    obtain ⟨d5,o5⟩:=g5.ob
    exact ⟨kv,a,y,p,pt,t,tv,g1,g2,kn _ _ (λ_ z=>by cases z) g3,g4,⟨⟨d5,kn _ _ (λ_ z=>by cases z) o5⟩,kn _ _ (λ_ z=>by cases z) g5.pt,kn _ _ (λ_ z=>by cases z) g5.tm⟩⟩
   ·obtain ⟨s,_,_,e1,y,p,t,tv,e2,wk,_,_⟩:=hG6 c (aN ei)
    have sq:Same H' (upd H' q (.tup [kV c.1,c.2])):=Same.upd nq
    refine ⟨q,exI rfl ⟨SqT.new,rfl,_,_,rfl,_,_,rfl,rfl,⟨_,_,rfl⟩,?_⟩⟩
    have wk':=wk.same (sm.trans sq)
    obtain ⟨dy,oy⟩:=wk'.ob
    generalize upd H' q (.tup [kV c.1,c.2])=H8 at sq wk' oy
    refine exI rfl (exI rfl ⟨y,qw,dy,_,_,e2,oy,T.clW,T.naWp,Qz,sz2,λa na=>?_⟩)
    have sa:=sq.trans (Same.upd (o:=.tup [kV c.1,.ref p]) na)
    exact kR _ _ sa ⟨c,a,y,p,_,t,tv,ei,rfl,q8,e2,wk'.same (Same.upd na)⟩
   ·have kb7:Kb [c2] H5 H7:=λb ob nb e=>s7 _ _ (by rw [fz.2 b (λz=>nb (by simp [z]))];exact e)
    refine k H7 l6 cs ms ys pm srt (gp H7 kb7) ec (λkv hkv=>?_) ?_ f7 ly hy
    ·obtain ⟨s,a1,a2,a3,a4⟩:=hG6 kv hkv
     exact ⟨s,a1,a2,a3,a4.kn λb o _ _ _ e=>s7 _ _ e⟩
    ·cases q:H l6 with
     |none=>rfl
     |some o6 =>
      exfalso
      have nc:l6≠c2:=qj q n20
      obtain ⟨tp,q1,q2,_,_,_,hs5,_,_,_,_,kb⟩:=gd
      rw [fz.2 l6 nc] at n6
      by_cases z:l6∈[dr,dw,dd]
      ·simp only [ai,aj,be] at z
       rcases z with z|z|z
       ·rw [z,hs5.r] at n6;cases n6
       ·rw [z,hs5.w] at n6;cases n6
       ·rw [z,hs5.d] at n6;cases n6
      ·rw [kb _ _ z q] at n6;cases n6
end
section
variable {P:Ac}{w:Ah}{K:Aa}{mg:Str→Option Ag}{base:Heap}{qf:Aj}{wz:Aj}{qk:Aj}{q9:Aj}{qg:Aj}{wv:Aj}{wu:Aj}{wq:Aj}{wm:Aj}{wy:Aj}{qd:Aj}{qz:Aj}{qm:Aj}{qw:Aj}{qq:Aj}
theorem qj3 {a b c p:Aj}:z0 "roads" (.ref p) (hF a b c)=hF p b c:=by
 unfold hF z0
 simp
theorem qzf {a b c p:Aj}:z0 "walkers" (.ref p) (hF a b c)=hF a p c:=by
 have e1:¬ (("roads" : Str) = "walkers"):=by decide +kernel
 have e2:¬ (("done" : Str) = "walkers"):=by decide +kernel
 simp [hF,z0,e1,e2]
theorem wq6 {a b c p:Aj}:z0 "done" (.ref p) (hF a b c)=hF a b p:=by
 have e1:¬ (("roads" : Str) = "done"):=by decide +kernel
 have e2:¬ (("walkers" : Str) = "done"):=by decide +kernel
 simp [hF,z0,e1,e2]
def Jr (C:Aj):Sp:=λvs H Q _=>∃(x dr dw dd:Aj) (R W:List (Key×V)) (D:List V),vs=[.ref x]∧Hse C H x dr dw dd R W D∧∀H' x' dr' dw' dd',Same H H'→H x'=none→H dr'=none→H dw'=none→H dd'=none→Hse C H' x' dr' dw' dd' R W D→Q (.ref x') H'
theorem wk0 {f:Aj}{fd:Ad}(F:Fun K "twin" "House.twin" s_House_twin f fd)(T:Txt K mg qf wz qk q9 qg wv wu wq wm wy qd qz qm qw qq)(c_House:CCal P w K mg base "House" qq 1 (Yq qq)):FnOk P w K mg base (CXE P w) 3 f fd ["self"] (Jr qq):=by
 have sc:=qwz
 refine F.okX sc (λvs H Q E h=>by obtain ⟨x,dr,dw,dd,R,W,D,rfl,_⟩:=h;rfl) (λcdv A outer s H vs Q E hr h=>?_)
 obtain ⟨x,dr,dw,dd,R,W,D,rfl,hh,k⟩:=h
 obtain ⟨dx,hx⟩:=hh.ob
 refine ⟨_,(qy (xz (i:=1) sc.nd rfl (by walk_at "loc") (qxw c_House (hr.mono (by decide)) rfl qh))
   (qy (yq (pv 1) (kf Jd rfl T.dict_ dC (xf (zu (pv 0) rfl) qu)) rfl)
   (qy (yq (pv 1) (kf Jd rfl T.dict_ dC (xf (zu (pv 0) rfl) qu)) rfl)
   (qy (yq (pv 1) (kf yn rfl T.list_ cz (xf (zu (pv 0) rfl) qu)) rfl)
   (wj (w8 (pv 1))))))),?_⟩
 refine λx' d0 nx nd0 ne0=>⟨x',d0,rfl,q8,λH1 a b c m1 m2 m3 hse kb=>⟨rfl,?_⟩⟩
 have s1:Same H H1:=λz o e=>kb z o (λy=>by rw [aq.mp y,nx] at e;cases e) (by rw [wg (qj e nx),wg (qj e nd0)];exact e)
 obtain ⟨d1,h1⟩:=hse.ob
 clear hse kb m1 m2 m3
 refine exI rfl ⟨x,qq,dx,_,_,rfl,s1 _ _ hx,T.clH,T.naHr,ku,dr,R,rfl,.inl (s1 _ _ hh.r),λp1 n1=>(exI rfl ⟨x',qq,d1,exI rfl ⟨(Same.upd n1) _ _ h1,T.clH,T.naHr,(show 3<1000 by decide),?_⟩⟩)⟩
 rw [qj3]
 have x1:x≠x':=qj hx nx
 have step:∀ {H1:Hp} {d1:Aj} {F1 F2:List (Str×V)} {p1:Aj} {o1:HO},Same H H1→H1 x'=some (.ins qq d1 F1)→H1 p1=none→Same H (upd (upd H1 p1 o1) x' (.ins qq d1 F2))∧upd (upd H1 p1 o1) x' (.ins qq d1 F2) x'=some (.ins qq d1 F2)∧upd (upd H1 p1 o1) x' (.ins qq d1 F2) p1=some o1∧(∀b o,b≠x'→H1 b=some o→upd (upd H1 p1 o1) x' (.ins qq d1 F2) b=some o):=λ{H1 d1 F1 F2 p1 o1} s1 h1 n1=>by
  have px:p1≠x':=(qj h1 n1).symm
  refine ⟨λb o e=>?_,q8,by rw [wg px,q8],λb o nb e=>by rw [wg nb,wg (qj e n1)];exact e⟩
  rw [wg (qj e nx),wg (qj (s1 _ _ e) n1)]
  exact s1 _ _ e
 obtain ⟨s2,h2,g2,o2⟩:=step (F2:=hF p1 b c) (o1:=.dK R) s1 h1 n1
 have np1:=xb s1 n1
 generalize upd (upd H1 p1 (.dK R)) x' (.ins qq d1 (hF p1 b c))=H2 at s2 h2 g2 o2
 have p1x:p1≠x':=(qj h1 n1).symm
 refine exI rfl ⟨x,qq,dx,_,_,rfl,s2 _ _ hx,T.clH,T.naHw,zh,dw,W,rfl,.inl (s2 _ _ hh.w),λp2 n2=>(exI rfl ⟨x',qq,d1,exI rfl ⟨(Same.upd n2) _ _ h2,T.clH,T.naHw,(show 3<1000 by decide),?_⟩⟩)⟩
 rw [qzf]
 obtain ⟨s3,h3,g3,o3⟩:=step (F2:=hF p1 p2 c) (o1:=.dK W) s2 h2 n2
 have g23:=o3 _ _ p1x g2
 have np2:=xb s2 n2
 have p2x:p2≠x':=(qj h2 n2).symm
 have p12:p1≠p2:=qj g2 n2
 generalize upd (upd H2 p2 (.dK W)) x' (.ins qq d1 (hF p1 p2 c))=H3 at s3 h3 g3 o3 g23
 refine exI rfl ⟨x,qq,dx,_,_,rfl,s3 _ _ hx,T.clH,T.naHd,um,dd,D,rfl,.inl (SqL.of (s3 _ _ hh.d)),λp3 n3=>(exI rfl ⟨x',qq,d1,exI rfl ⟨(Same.upd n3) _ _ h3,T.clH,T.naHd,(show 3<1000 by decide),?_⟩⟩)⟩
 rw [wq6]
 obtain ⟨s4,h4,g4,o4⟩:=step (F2:=hF p1 p2 p3) (o1:=.lst D) s3 h3 n3
 have np3:=xb s3 n3
 refine exI rfl (k _ x' p1 p2 p3 s4 nx np1 np2 np3 ⟨⟨d1,h4⟩,o4 _ _ p1x g23,o4 _ _ p2x g3,g4,p12⟩)
theorem wxu {kvs:List (Key×V)}{k:Key}{v u:V}(h:wt kvs k=some u):(vj kvs k v).map (·.1)=kvs.map (·.1):=by
 unfold vj
 rw [ak (by rw [yy,h];rfl),bS]
 refine bO λkv _=>?_
 show (if kv.1=k then (kv.1,v) else kv).1=kv.1
 split <;> rfl
theorem Kb.sql {K:Aa}{ch:List Aj}{H H':Hp}(k:Kb ch H H'){a:Aj}{xs:List V}(h:SqL K H a xs)(d:(∀H',SqL K H' a xs)∨a∉ch):SqL K H' a xs:=by
 rcases d with d|d
 ·exact d H'
 ·rcases h with (e|⟨u,e⟩)|e
  ·exact .inl (.inl (k _ _ d e))
  ·exact .inl (.inr ⟨u,k _ _ d e⟩)
  ·exact .inr e
def Dl (H:Hp)(ch:List Aj):Prop:=∀b∈ch,(∃kv,Rd H b (.dK kv))∨∃D,qz3 D∧H b=some (.lst D)
theorem Dl.nil {H:Hp}:Dl H []:=λb hb=>nomatch hb
theorem Dl.cons {H:Hp}{a:Aj}{ch:List Aj}(h:(∃kv,Rd H a (.dK kv))∨∃D,qz3 D∧H a=some (.lst D))(d:Dl H ch):Dl H (a::ch):=λb hb=>by
 rcases ai.mp hb with rfl|hb
 ·exact h
 ·exact d b hb
theorem Hse.dl {C:Aj}{H:Hp}{x dr dw dd:Aj}{R W:List (Key×V)}{D:List V}(h:Hse C H x dr dw dd R W D)(rf:qz3 D){ch:List Aj}(d:Dl H ch):Dl H (dr::dw::dd::ch):=.cons (.inl ⟨_,.inl h.r⟩) (.cons (.inl ⟨_,.inl h.w⟩) (.cons (.inr ⟨_,rf,h.d⟩) d))
theorem Dl.other {H:Hp}{ch:List Aj}(d:Dl H ch){a:Aj}{o:HO}(e:H a=some o)(n1:∀kv,o≠.dK kv)(n2:∀u kv,o≠.frz u (.dK kv))(n3:∀D,qz3 D→o≠.lst D):a∉ch:=λz=>by
 rcases d a z with ⟨kv,y|⟨u,y⟩⟩|⟨D,rf,y⟩ <;> (rw [e] at y;injection y with y)
 ·exact n1 _ y
 ·exact n2 _ _ y
 ·exact n3 _ rf y
theorem Dl.tup {H H':Hp}{ch:List Aj}(d:Dl H ch)(k:Kb ch H H'){a:Aj}{xs:List V}(e:H a=some (.tup xs)):H' a=some (.tup xs):=k _ _ (d.other e (λ_ z=>by cases z) (λ_ _ z=>by cases z) (λ_ _ z=>by cases z)) e
theorem ww8 {hs:List Int}(ok:x4 hs){D:List V}(rf:qz3 D)(e:HO.lst (hs.map V.int)=HO.lst D):False:=by
 have e:hs.map V.int=D:=by injection e
 have l:=ok.1
 have m:V.int (hs[0]'(by lia))∈hs.map V.int:=aw.mpr ⟨_,cM _,rfl⟩
 rw [e] at m
 obtain ⟨a,ea⟩:=rf _ m
 cases ea
theorem Dl.row {H H':Hp}{ch:List Aj}(d:Dl H ch)(k:Kb ch H H'){a:Aj}{hs:List Int}(ok:x4 hs)(e:H a=some (.lst (hs.map V.int))):H' a=some (.lst (hs.map V.int)):=k _ _ (d.other e (λ_ z=>by cases z) (λ_ _ z=>by cases z) (λ_ rf z=>ww8 ok rf z)) e
theorem Dl.road {C:Aj}{H H':Hp}{ch:List Aj}(d:Dl H ch)(k:Kb ch H H'){r:Aj}{hs:List Int}(ok:x4 hs)(h:RoadAt C H r hs):RoadAt C H' r hs:=by
 obtain ⟨dx,q,h1,h2⟩:=h
 exact ⟨dx,q,k _ _ (d.other h1 (λ_ z=>by cases z) (λ_ _ z=>by cases z) (λ_ _ z=>by cases z)) h1,d.row k ok h2⟩
theorem Dl.wk {C:Aj}{H H':Hp}{ch:List Aj}(d:Dl H ch)(k:Kb ch H H'){y:Aj}{n:Str}{p:Aj}{pt:Int×Int}{t:Aj}{tv:List (List Key×V)}(h:WkAt C H y n p pt t tv):WkAt C H' y n p pt t tv:=by
 obtain ⟨dx,e⟩:=h.ob
 have e2:=h.tm
 exact ⟨⟨dx,k _ _ (d.other e (λ_ z=>by cases z) (λ_ _ z=>by cases z) (λ_ _ z=>by cases z)) e⟩,d.tup k h.pt,k _ _ (d.other e2 (λ_ z=>by cases z) (λ_ _ z=>by cases z) (λ_ _ z=>by cases z)) e2⟩
theorem qy6 {W:List (Key×V)}{n:Key}{y:Aj}:exK W [(n,.ref y)]=vj W n (.ref y):=by
 show ex1 W (n,.ref y)=_
 unfold ex1
 rw [ag (λz=>by cases z)]
theorem qjz {k:Key}{v:V}:([(k,v)].map (·.1)).Nodup:=aS.mpr ⟨aj,aU⟩
def ovr (f:Key→Option V)(cs:List (Key×V)):Key→Option V:=λm=>match wt cs m with|none=>f m|some .non=>none|some v=>some v
theorem Yu {k j:Key}(hj:j≠k):∀kvs:List (Key×V),wt (uq kvs k) j=wt kvs j
 |[]=>rfl
 |p::r=>by
  have ih:=Yu hj r
  unfold uq at ih ⊢
  by_cases e:p.1=k
  ·rw [bt,ag (by simp [e]),ih,zj (λz=>hj (z.symm.trans e))]
  ·rw [bt,ak (by simp [e])]
   by_cases z:p.1=j
   ·rw [zc z,zc z]
   ·rw [zj z,zj z,ih]
theorem qw0 {k:Key}:∀kvs:List (Key×V),wt (uq kvs k) k=none
 |[]=>rfl
 |p::r=>by
  have ih:=qw0 (k:=k) r
  unfold uq at ih ⊢
  by_cases e:p.1=k
  ·rw [bt,ag (by simp [e]),ih]
  ·rw [bt,ak (by simp [e]),zj e,ih]
theorem Y7 {kvs:List (Key×V)}{k:Key}(h:k∉kvs.map (·.1)):wt kvs k=none:=by
 unfold wt
 rw [dc.mpr λkv hk=>by simp only [dB];exact λz=>h (aw.mpr ⟨kv,hk,z⟩)]
 rfl
theorem qys {kvs:List (Key×V)}{k:Key}{v:V}(h:wt kvs k=some v):(k,v)∈kvs:=by
 unfold wt at h
 obtain ⟨kv,e1,e2⟩:=cx.mp h
 have:=List.find?_some e1
 simp only [dB] at this
 have m:=cP e1
 rw [←this,←e2]
 exact m
theorem jy {kvs:List (Key×V)}(nd:(kvs.map (·.1)).Nodup){c:Key×V}(h:c∈kvs):wt kvs c.1=some c.2:=by
 induction kvs with
 |nil=>cases h
 |cons p r ih =>
  rw [aZ] at nd
  obtain ⟨a,b⟩:=aS.mp nd
  rcases ai.mp h with rfl|h
  ·exact zc rfl
  ·rw [zj (λz=>a (by rw [z];exact aw.mpr ⟨c,h,rfl⟩))]
   exact ih b h
theorem quq (R:List (Key×V))(c:Key×V)(m:Key):wt (ex1 R c) m=if m=c.1 then (if c.2=.non then none else some c.2) else wt R m:=by
 unfold ex1
 by_cases z:c.2=.non
 ·rw [ak z,ak z]
  by_cases y:m=c.1
  ·rw [ak y,y,qw0]
  ·rw [ag y,Yu y]
 ·rw [ag z,ag z,Jw]
theorem jx:∀(cs:List (Key×V)) (R:List (Key×V)),(cs.map (·.1)).Nodup→∀m,wt (exK R cs) m=ovr (wt R) cs m
 |[],R,_,m=>rfl
 |c::cs,R,nd,m=>by
  rw [aZ] at nd
  obtain ⟨a,b⟩:=aS.mp nd
  show wt (exK (ex1 R c) cs) m=_
  rw [jx cs (ex1 R c) b m]
  unfold ovr
  by_cases z:c.1=m
  ·rw [zc z,Y7 (kvs:=cs) (by rw [←z];exact a)]
   show wt (ex1 R c) m=_
   rw [quq,ak z.symm]
   cases c.2 <;> rfl
  ·rw [zj z]
   cases wt cs m with
   |none =>
    show wt (ex1 R c) m=_
    rw [quq,ag (aW z)]
   |some v=>cases v <;> rfl
theorem qy7 (R cs:List (Key×V)):(bfK R cs).map (·.1)=cs.map (·.1):=by
 unfold bfK
 rw [bS]
 rfl
theorem val_bf (R cs:List (Key×V))(m:Key):wt (bfK R cs) m=(wt cs m).map λ_=>(wt R m).getD .non:=by
 induction cs with
 |nil=>rfl
 |cons c cs ih =>
  show wt ((c.1,(wt R c.1).getD .non)::bfK R cs) m=_
  by_cases z:c.1=m
  ·rw [zc (p:=(c.1,(wt R c.1).getD .non)) z,zc z,z]
   rfl
  ·rw [zj (p:=(c.1,(wt R c.1).getD .non)) z,zj z,ih]
theorem qz0 {R cs:List (Key×V)}(nd:(cs.map (·.1)).Nodup)(hv:∀m,wt R m≠some .non)(m:Key):ovr (wt (exK R cs)) (bfK R cs) m=wt R m:=by
 unfold ovr
 rw [val_bf]
 cases e:wt cs m with
 |none =>
  show wt (exK R cs) m=_
  rw [jx cs R nd,ovr,e]
 |some v =>
  show (match some ((wt R m).getD .non) with|none=>wt (exK R cs) m|some .non=>none|some v=>some v)=_
  have:=hv m
  cases e2:wt R m with
  |none=>rfl
  |some u =>
   rw [e2] at this
   cases u <;> first | rfl | exact absurd rfl this
def Jz (f:Key→Option V)(cs:List (Key×V)):Prop:=∀c∈cs,c.2=.non→(f c.1).isSome=true
theorem quj {R cs:List (Key×V)}(nd:(cs.map (·.1)).Nodup)(h:Jz (wt R) cs):qkw R cs:=λi c ec hc=>by
 have hi:=(aM.mp ec).1
 have sub:((cs.take i).map (·.1)).Nodup:=by
  rw [List.map_take]
  exact nd.sublist (List.take_sublist _ _)
 rw [jx _ _ sub]
 unfold ovr
 rw [Y7 (kvs:=cs.take i) λz=>?_]
 ·exact h c (aN ec) hc
 ·obtain ⟨c',hc',e⟩:=aw.mp z
  obtain ⟨j,hj,ej⟩:=cR hc'
  rw [bG] at hj
  rw [eR] at ej
  have ei:=(aM.mp ec).2
  have:=(dE (h₀:=by rw [ac];lia) (h₁:=by rw [ac];lia) nd (i:=j) (j:=i)).mp (by rw [dI,dI,ej,ei];exact e)
  lia
theorem go_bf {R cs:List (Key×V)}(nd:(cs.map (·.1)).Nodup)(hv:∀m,wt R m≠some .non)(h:Jz (wt R) cs):Jz (wt (exK R cs)) (bfK R cs):=λc hc hn=>by
 obtain ⟨c0,h0,rfl⟩:=aw.mp hc
 have hn:(wt R c0.1).getD .non=.non:=hn
 show (wt (exK R cs) c0.1).isSome=true
 rw [jx cs R nd,ovr,jy nd h0]
 by_cases z:c0.2=.non
 ·have:=h c0 h0 z
  obtain ⟨v,ev⟩:=cU.mp this
  rw [ev] at hn
  have hn:v=.non:=hn
  rw [hn] at ev
  exact absurd ev (hv _)
 ·cases e:c0.2 <;> first | rfl | exact absurd e z
theorem nd_ex1 {R:List (Key×V)}(nd:(R.map (·.1)).Nodup)(c:Key×V):((ex1 R c).map (·.1)).Nodup:=by
 unfold ex1
 split
 ·unfold uq
  exact nd.sublist (List.Sublist.map _ List.filter_sublist)
 ·cases e:wt R c.1 with
  |none =>
   rw [yj _ e,aT,List.nodup_append]
   refine ⟨nd,aS.mpr ⟨aj,aU⟩,λx hx y hy z=>?_⟩
   have hy:y=c.1:=aq.mp hy
   obtain ⟨p,hp,rfl⟩:=aw.mp hx
   have:=jy nd hp
   rw [z,hy,e] at this
   cases this
  |some v=>rw [wxu e];exact nd
theorem qyr {R:List (Key×V)}(nd:(R.map (·.1)).Nodup):∀cs:List (Key×V),((exK R cs).map (·.1)).Nodup:=λcs=>by
 induction cs generalizing R with
 |nil=>exact nd
 |cons c cs ih=>exact ih (nd_ex1 nd c)
def RefsF (f:Key→Option V):Prop:=∀m v,f m=some v→∃n a,m=.inr n∧v=.ref a
def yk (cs:List (Key×V)):Prop:=∀c∈cs,∃n,c.1=.inr n∧(c.2=.non∨∃a,c.2=.ref a)
theorem RefsF.ovr {f:Key→Option V}(h:RefsF f){cs:List (Key×V)}(hc:yk cs):RefsF (ovr f cs):=λm v e=>by
 unfold My.ovr at e
 cases e2:wt cs m with
 |none=>rw [e2] at e;exact h m v e
 |some u =>
  obtain ⟨n,e3,e4⟩:=hc _ (qys e2)
  have e3:m=.inr n:=e3
  rcases e4 with e4|⟨a,e4⟩
  ·have e4:u=.non:=e4
   rw [e2,e4] at e
   cases e
  ·have e4:u=.ref a:=e4
   rw [e2,e4] at e
   cases e
   exact ⟨n,a,e3,rfl⟩
theorem RefsF.non {f:Key→Option V}(h:RefsF f)(m:Key):f m≠some .non:=λz=>by
 obtain ⟨_,_,_,e⟩:=h m _ z
 cases e
theorem RefsF.bf {R:List (Key×V)}(h:RefsF (wt R)){cs:List (Key×V)}(hc:yk cs):yk (bfK R cs):=λc hc'=>by
 obtain ⟨c0,h0,rfl⟩:=aw.mp hc'
 obtain ⟨n,e,_⟩:=hc c0 h0
 refine ⟨n,e,?_⟩
 show (wt R c0.1).getD .non=.non∨_
 cases e2:wt R c0.1 with
 |none=>exact .inl rfl
 |some v =>
  obtain ⟨_,a,_,e3⟩:=h _ _ e2
  exact .inr ⟨a,e3⟩
structure Deed where
 tp:Aj
 q1:Aj
 q2:Aj
 cs1:List (Key×V)
 cs2:List (Key×V)
def DeedAt (H:Hp)(d:Deed):Prop:=H d.tp=some (.tup [.ref d.q1,.ref d.q2])∧Rd H d.q1 (.dK d.cs1)∧Rd H d.q2 (.dK d.cs2)
structure DeedOk (d:Deed):Prop where
 nd1:(d.cs1.map (·.1)).Nodup
 nd2:(d.cs2.map (·.1)).Nodup
 l1:d.cs1.length≤1000
 l2:d.cs2.length≤1000
 r1:yk d.cs1
 r2:yk d.cs2
 ne:d.q1≠d.q2
def Qk (ds:List Deed):List Aj:=ds.flatMap λd=>[d.q1,d.q2]
def j0 (ds:List Deed):List V:=ds.reverse.map λd=>V.ref d.tp
theorem qvb (d:Deed)(ds:List Deed):j0 (d::ds)=j0 ds++[.ref d.tp]:=by
 unfold j0
 rw [List.reverse_cons,aT]
 rfl
theorem Wj (ds:List Deed):(j0 ds).length=ds.length:=by
 unfold j0
 rw [ac,List.length_reverse]
theorem Y0 (ds:List Deed):qz3 (j0 ds):=λv hv=>by
 obtain ⟨d,_,rfl⟩:=aw.mp hv
 exact ⟨_,rfl⟩
theorem J9 {d:Deed}{ds:List Deed}(h:d∈ds):d.q1∈Qk ds∧d.q2∈Qk ds:=⟨dJ.mpr ⟨d,h,by simp⟩,dJ.mpr ⟨d,h,by simp⟩⟩
def Und:(Key→Option V)→(Key→Option V)→List Deed→Prop
 |_,_,[]=>True
 |f,g,d::ds=>Jz f d.cs1∧Jz g d.cs2∧Und (ovr f d.cs1) (ovr g d.cs2) ds
structure Ho where
 x:Aj
 dr:Aj
 dw:Aj
 dd:Aj
 R:List (Key×V)
 W:List (Key×V)
 ds:List Deed
structure HoAt (C:Aj)(H:Hp)(o:Ho):Prop where
 hs:Hse C H o.x o.dr o.dw o.dd o.R o.W (j0 o.ds)
 da:∀d∈o.ds,DeedAt H d∧DeedOk d
 nq:∀q∈Qk o.ds,q≠o.dr∧q≠o.dw
 un:Und (wt o.R) (wt o.W) o.ds
 nR:(o.R.map (·.1)).Nodup
 nW:(o.W.map (·.1)).Nodup
 fR:RefsF (wt o.R)
 fW:RefsF (wt o.W)
theorem HoAt.dl {C:Aj}{H:Hp}{o:Ho}(h:HoAt C H o):Dl H [o.dr,o.dw,o.dd]:=h.hs.dl (Y0 _) .nil
theorem HoAt.frame {C:Aj}{H H':Hp}{o:Ho}(h:HoAt C H o){ch:List Aj}(k:Kb ch H H')(dl:Dl H ch)(n:o.x∉ch∧o.dr∉ch∧o.dw∉ch∧o.dd∉ch)(rd:∀q∈ch,q∈Qk o.ds→∀kv,Rd H q (.dK kv)→Rd H' q (.dK kv)):HoAt C H' o:=by
 refine ⟨h.hs.kb k n,λd hd=>?_,h.nq,h.un,h.nR,h.nW,h.fR,h.fW⟩
 obtain ⟨⟨a,b,c⟩,e⟩:=h.da d hd
 obtain ⟨m1,m2⟩:=J9 hd
 refine ⟨⟨dl.tup k a,?_,?_⟩,e⟩
 ·by_cases z:d.q1∈ch
  ·exact rd _ z m1 _ b
  ·exact k.rd z b
 ·by_cases z:d.q2∈ch
  ·exact rd _ z m2 _ c
  ·exact k.rd z c
theorem HoAt.same {C:Aj}{H H':Hp}{o:Ho}(h:HoAt C H o)(s:Same H H'):HoAt C H' o:=h.frame (ch:=[]) (Kb.of s) Dl.nil ⟨aj,aj,aj,aj⟩ λq z=>nomatch z
def Ho.did (o:Ho)(tp q1 q2:Aj)(cs1 cs2:List (Key×V)):Ho:={ o with R:=exK o.R cs1,W:=exK o.W cs2,ds:=⟨tp,q1,q2,bfK o.R cs1,bfK o.W cs2⟩::o.ds }
theorem qxq {f f' g g':Key→Option V}(ef:∀m,f m=f' m)(eg:∀m,g m=g' m){ds:List Deed}(h:Und f g ds):Und f' g' ds:=by
 have a:f=f':=funext ef
 have b:g=g':=funext eg
 subst a b
 exact h
theorem HoAt.did {C:Aj}{H H':Hp}{o:Ho}(h:HoAt C H o){cs1 cs2:List (Key×V)}(g:Wx C H H' o.x o.dr o.dw o.dd o.R o.W (j0 o.ds) cs1 cs2)(nd1:(cs1.map (·.1)).Nodup)(nd2:(cs2.map (·.1)).Nodup)(l1:cs1.length≤1000)(l2:cs2.length≤1000)(r1:yk cs1)(r2:yk cs2)(g1:Jz (wt o.R) cs1)(g2:Jz (wt o.W) cs2):∃tp q1 q2,H tp=none∧H q1=none∧H q2=none∧HoAt C H' (o.did tp q1 q2 cs1 cs2)∧Kb [o.dr,o.dw,o.dd] H H':=by
 obtain ⟨tp,q1,q2,n0,n1,n2,h1,ft,f1,f2,ne,kb⟩:=g
 have hq:∀q∈Qk o.ds,∃kv,Rd H q (.dK kv):=λq hq=>by
  obtain ⟨d,hd,hq⟩:=dJ.mp hq
  obtain ⟨⟨_,a,b⟩,_⟩:=h.da d hd
  simp only [ai,aj,be] at hq
  rcases hq with rfl|rfl
  ·exact ⟨_,a⟩
  ·exact ⟨_,b⟩
 have nin:∀q∈Qk o.ds,q∉[o.dr,o.dw,o.dd]:=λq hm z=>by
  obtain ⟨kv,e⟩:=hq q hm
  have nq:=h.nq q hm
  simp only [ai,aj,be] at z
  rcases z with z|z|z
  ·exact nq.1 z
  ·exact nq.2 z
  ·rcases e with e|⟨u,e⟩ <;> (rw [z,h.hs.d] at e;cases e)
 refine ⟨tp,q1,q2,n0,n1,n2,⟨by show Hse C H' o.x o.dr o.dw o.dd _ _ (j0 (_::o.ds));rw [qvb];exact h1,λd hd=>?_,λq hm=>?_,?_,qyr h.nR _,qyr h.nW _,?_,?_⟩,kb⟩
 ·rcases ai.mp hd with rfl|hd
  ·exact ⟨⟨ft,.inl f1,.inl f2⟩,⟨by show ((bfK o.R cs1).map (·.1)).Nodup;rw [qy7];exact nd1,by show ((bfK o.W cs2).map (·.1)).Nodup;rw [qy7];exact nd2,by show (bfK o.R cs1).length≤_;unfold bfK;rw [ac];exact l1,by show (bfK o.W cs2).length≤_;unfold bfK;rw [ac];exact l2,h.fR.bf r1,h.fW.bf r2,ne⟩⟩
  ·obtain ⟨⟨a,b,c⟩,e⟩:=h.da d hd
   obtain ⟨m1,m2⟩:=J9 hd
   exact ⟨⟨h.dl.tup kb a,kb.rd (nin _ m1) b,kb.rd (nin _ m2) c⟩,e⟩
 ·have hm:q∈q1::q2::Qk o.ds:=hm
  rcases ai.mp hm with rfl|hm
  ·exact ⟨(qj h.hs.r n1).symm,(qj h.hs.w n1).symm⟩
  ·rcases ai.mp hm with rfl|hm
   ·exact ⟨(qj h.hs.r n2).symm,(qj h.hs.w n2).symm⟩
   ·exact h.nq q hm
 ·exact ⟨go_bf nd1 h.fR.non g1,go_bf nd2 h.fW.non g2,qxq (λm=>(qz0 nd1 h.fR.non m).symm) (λm=>(qz0 nd2 h.fW.non m).symm) h.un⟩
 ·show RefsF (wt (exK o.R cs1))
  rw [show wt (exK o.R cs1)=ovr (wt o.R) cs1 from funext (jx cs1 o.R nd1)]
  exact h.fR.ovr r1
 ·show RefsF (wt (exK o.W cs2))
  rw [show wt (exK o.W cs2)=ovr (wt o.W) cs2 from funext (jx cs2 o.W nd2)]
  exact h.fW.ovr r2
def Ho.undo (o:Ho)(d:Deed)(ds:List Deed):Ho:={ o with R:=exK o.R d.cs1,W:=exK o.W d.cs2,ds:=ds }
theorem ww6 {H:Hp}{q:Aj}{kv kv':List (Key×V)}(h:Rd H q (.dK kv))(h':Rd H q (.dK kv')):kv=kv':=by
 rcases h with h|⟨u,h⟩ <;> rcases h' with h'|⟨u',h'⟩ <;> (rw [h] at h';cases h') <;> rfl
theorem HoAt.take {C CN:Aj}{H:Hp}{o:Ho}{d:Deed}{ds:List Deed}{Q:VK}{E:XK}(h:HoAt C H o)(ed:o.ds=d::ds)(lR:o.R.length≤1000)(lW:o.W.length≤1000)
  (k:∀H',HoAt C H' (o.undo d ds)→Kb [o.dr,o.dw,o.dd,d.q1,d.q2] H H'→Dl H [o.dr,o.dw,o.dd,d.q1,d.q2]→(∀q kv,q∉[o.dr,o.dw,o.dd]→Rd H q (.dK kv)→Rd H' q (.dK kv))→Q .non H'):Qc C CN [.ref o.x] H Q E:=by
 have hh:=h.hs
 rw [ed,qvb] at hh
 have hd:d∈o.ds:=by rw [ed];exact aO ..
 obtain ⟨⟨dt,d1,d2⟩,dk⟩:=h.da d hd
 have m:=J9 hd
 have un:=h.un
 rw [ed] at un
 obtain ⟨u1,u2,u3⟩:=un
 refine ⟨o.x,o.dr,o.dw,o.dd,o.R,o.W,exI rfl ⟨hh,lR,lW,(λz=>absurd z (de _ (bC _ _))),λD' v e=>?_⟩⟩
 obtain ⟨e1,e2⟩:=List.append_inj' e rfl
 cases e2
 have nq1:=h.nq _ m.1
 have nq2:=h.nq _ m.2
 refine ⟨d.tp,d.q1,d.q2,d.cs1,d.cs2,rfl,dt,d1,d2,dk.ne,nq1.1,nq1.2,nq2.1,nq2.2,dk.nd1,dk.nd2,dk.l1,dk.l2,quj dk.nd1 u1,quj dk.nd2 u2,λH' hs' r1 r2 kb=>?_⟩
 rw [←e1] at hs'
 have dl:Dl H [o.dr,o.dw,o.dd,d.q1,d.q2]:=h.hs.dl (Y0 _) (.cons (.inl ⟨_,d1⟩) (.cons (.inl ⟨_,d2⟩) .nil))
 have rdk:∀q kv,q∉[o.dr,o.dw,o.dd]→Rd H q (.dK kv)→Rd H' q (.dK kv):=λq kv nq e=>by
  by_cases z1:q=d.q1
  ·subst z1;rw [ww6 e d1];exact r1
  ·by_cases z2:q=d.q2
   ·subst z2;rw [ww6 e d2];exact r2
   ·refine kb.rd (λz=>?_) e
    simp only [ai,aj,be] at z nq
    rcases z with z|z|z|z|z
    ·exact nq (.inl z)
    ·exact nq (.inr (.inl z))
    ·exact nq (.inr (.inr z))
    ·exact z1 z
    ·exact z2 z
 have nin:∀q∈Qk o.ds,(∃kv,Rd H q (.dK kv))→q∉[o.dr,o.dw,o.dd]:=λq hm ⟨kv,e⟩ z=>by
  have nq:=h.nq q hm
  simp only [ai,aj,be] at z
  rcases z with z|z|z
  ·exact nq.1 z
  ·exact nq.2 z
  ·rcases e with e|⟨u,e⟩ <;> (rw [z,h.hs.d] at e;cases e)
 have sub:∀q∈Qk ds,q∈Qk o.ds:=λq hq=>by rw [ed];exact aC _ (aC _ hq)
 refine k H' ⟨hs',λd' hd'=>?_,λq hq=>h.nq q (sub q hq),?_,qyr h.nR _,qyr h.nW _,?_,?_⟩ kb dl rdk
 ·have hd'':d'∈o.ds:=by rw [ed];exact aC _ hd'
  obtain ⟨⟨a,b,c⟩,e⟩:=h.da d' hd''
  obtain ⟨m1,m2⟩:=J9 hd''
  exact ⟨⟨dl.tup kb a,rdk _ _ (nin _ m1 ⟨_,b⟩) b,rdk _ _ (nin _ m2 ⟨_,c⟩) c⟩,e⟩
 ·exact qxq (λm=>(jx d.cs1 o.R dk.nd1 m).symm) (λm=>(jx d.cs2 o.W dk.nd2 m).symm) u3
 ·show RefsF (wt (exK o.R d.cs1))
  rw [show wt (exK o.R d.cs1)=ovr (wt o.R) d.cs1 from funext (jx _ _ dk.nd1)]
  exact h.fR.ovr dk.r1
 ·show RefsF (wt (exK o.W d.cs2))
  rw [show wt (exK o.W d.cs2)=ovr (wt o.W) d.cs2 from funext (jx _ _ dk.nd2)]
  exact h.fW.ovr dk.r2
structure Wk where
 wh:Str
 pt:Int×Int
 tv:List (List Key×V)
structure AH where
 rs:Str→Option (List Int)
 ws:Str→Option Wk
def AH.putW (a:AH)(n:Str)(w:Wk):AH:={ a with ws:=λm=>if m=n then some w else a.ws m }
def AH.delW (a:AH)(n:Str):AH:={ a with ws:=λm=>if m=n then none else a.ws m }
def AH.putR (a:AH)(n:Str)(hs:List Int):AH:={ a with rs:=λm=>if m=n then some hs else a.rs m }
def RRep (CR:Aj)(H:Hp)(o:Option V):Option (List Int)→Prop
 |none=>o=none
 |some hs=>∃r,o=some (.ref r)∧RoadAt CR H r hs
def WRep (CW:Aj)(H:Hp)(o:Option V):Option Wk→Prop
 |none=>o=none
 |some w=>∃y p t,o=some (.ref y)∧WkAt CW H y w.wh p w.pt t w.tv
structure AOk (a:AH):Prop where
 lo:∀n hs,a.rs n=some hs→x4 hs
 wo:∀n w,a.ws n=some w→TmOk w.tv∧∃hs,a.rs w.wh=some hs∧HPt hs w.pt
structure Rep (CR CW:Aj)(H:Hp)(f g:Key→Option V)(a:AH):Prop where
 r:∀n,RRep CR H (f (.inr n)) (a.rs n)
 w:∀n,WRep CW H (g (.inr n)) (a.ws n)
 ok:AOk a
theorem Rep.dl {CR CW:Aj}{H H':Hp}{f g:Key→Option V}{a:AH}(h:Rep CR CW H f g a){ch:List Aj}(d:Dl H ch)(k:Kb ch H H'):Rep CR CW H' f g a:=by
 refine ⟨λn=>?_,λn=>?_,h.ok⟩
 ·have:=h.r n
  have lo:=h.ok.lo n
  cases e:a.rs n with
  |none=>rw [e] at this;exact this
  |some hs =>
   rw [e] at this
   obtain ⟨r,e1,ra⟩:=this
   exact ⟨r,e1,d.road k (lo hs e) ra⟩
 ·have:=h.w n
  cases e:a.ws n with
  |none=>rw [e] at this;exact this
  |some w =>
   rw [e] at this
   obtain ⟨y,p,t,e1,wk⟩:=this
   exact ⟨y,p,t,e1,d.wk k wk⟩
def Hist (CR CW:Aj)(H:Hp):List AH→(Key→Option V)→(Key→Option V)→List Deed→Prop
 |[],_,_,_=>True
 |a::as,f,g,ds=>Rep CR CW H f g a∧((ds=[]∧as=[])∨∃d ds',ds=d::ds'∧Hist CR CW H as (ovr f d.cs1) (ovr g d.cs2) ds')
theorem Hist.dl {CR CW:Aj}{H H':Hp}{ch:List Aj}(d:Dl H ch)(k:Kb ch H H'):∀ {as:List AH} {f g:Key→Option V} {ds:List Deed},Hist CR CW H as f g ds→Hist CR CW H' as f g ds
 |[],_,_,_,_=>trivial
 |a::as,f,g,ds,h=>by
  obtain ⟨h1,h2⟩:=h
  refine ⟨h1.dl d k,?_⟩
  rcases h2 with h2|⟨d',ds',e,h2⟩
  ·exact .inl h2
  ·exact .inr ⟨d',ds',e,Hist.dl d k h2⟩
structure VH (C CR CW:Aj)(H:Hp)(o:Ho)(as:List AH):Prop where
 h:HoAt C H o
 t:Hist CR CW H as (wt o.R) (wt o.W) o.ds
theorem VH.same {C CR CW:Aj}{H H':Hp}{o:Ho}{as:List AH}(v:VH C CR CW H o as)(s:Same H H'):VH C CR CW H' o as:=⟨v.h.same s,Hist.dl (ch:=[]) Dl.nil (Kb.of s) v.t⟩
theorem VH.rep {C CR CW:Aj}{H:Hp}{o:Ho}{a:AH}{as:List AH}(v:VH C CR CW H o (a::as)):Rep CR CW H (wt o.R) (wt o.W) a:=v.t.1
structure Nxt (H:Hp)(o o':Ho):Prop where
 x:o'.x=o.x
 dr:o'.dr=o.dr
 dw:o'.dw=o.dw
 dd:o'.dd=o.dd
 ds:∃d,o'.ds=d::o.ds∧H d.q1=none∧H d.q2=none
structure Prv (o o':Ho):Prop where
 x:o'.x=o.x
 dr:o'.dr=o.dr
 dw:o'.dw=o.dw
 dd:o'.dd=o.dd
 ds:∃d,o.ds=d::o'.ds
theorem VH.did {C CR CW:Aj}{H H':Hp}{o:Ho}{a a':AH}{as:List AH}(v:VH C CR CW H o (a::as)){cs1 cs2:List (Key×V)}(g:Wx C H H' o.x o.dr o.dw o.dd o.R o.W (j0 o.ds) cs1 cs2)(nd1:(cs1.map (·.1)).Nodup)(nd2:(cs2.map (·.1)).Nodup)(l1:cs1.length≤1000)(l2:cs2.length≤1000)(r1:yk cs1)(r2:yk cs2)(g1:Jz (wt o.R) cs1)(g2:Jz (wt o.W) cs2)(rp:Kb [o.dr,o.dw,o.dd] H H'→Rep CR CW H' (ovr (wt o.R) cs1) (ovr (wt o.W) cs2) a') :
  ∃o',Nxt H o o'∧VH C CR CW H' o' (a'::a::as)∧Kb [o.dr,o.dw,o.dd] H H':=by
 obtain ⟨tp,q1,q2,n0,n1,n2,h',kb⟩:=v.h.did g nd1 nd2 l1 l2 r1 r2 g1 g2
 refine ⟨o.did tp q1 q2 cs1 cs2,⟨rfl,rfl,rfl,rfl,⟨⟨tp,q1,q2,bfK o.R cs1,bfK o.W cs2⟩,rfl,n1,n2⟩⟩,⟨h',?_⟩,kb⟩
 have e1:wt (exK o.R cs1)=ovr (wt o.R) cs1:=funext (jx cs1 o.R nd1)
 have e2:wt (exK o.W cs2)=ovr (wt o.W) cs2:=funext (jx cs2 o.W nd2)
 refine ⟨by show Rep CR CW H' (wt (exK o.R cs1)) (wt (exK o.W cs2)) a';rw [e1,e2];exact rp kb,.inr ⟨_,o.ds,rfl,?_⟩⟩
 show Hist CR CW H' (a::as) (ovr (wt (exK o.R cs1)) (bfK o.R cs1)) (ovr (wt (exK o.W cs2)) (bfK o.W cs2)) o.ds
 rw [show ovr (wt (exK o.R cs1)) (bfK o.R cs1)=wt o.R from funext (qz0 nd1 v.h.fR.non),show ovr (wt (exK o.W cs2)) (bfK o.W cs2)=wt o.W from funext (qz0 nd2 v.h.fW.non)]
 exact Hist.dl v.h.dl kb v.t
structure Nam (NM:List Str)(a:AH):Prop where
 r:∀n,(a.rs n).isSome=true→n∈NM
 w:∀n,(a.ws n).isSome=true→n∈NM
theorem qzt {α:Type}[DecidableEq α]:∀(l m:List α),l.Nodup→(∀x∈l,x∈m)→l.length≤m.length
 |[],_,_,_=>aB _
 |a::l,m,nd,h=>by
  obtain ⟨n1,n2⟩:=aS.mp nd
  have ha:=h a (aO ..)
  have:=qzt l (m.erase a) n2 λx hx=>(List.mem_erase_of_ne (λz=>n1 (by rw [←z];exact hx))).mpr (h x (aC _ hx))
  rw [eV ha] at this
  have:=List.length_pos_of_mem ha
  rw [aX]
  lia
theorem wx6 {NM:List Str}{R:List (Key×V)}(nd:(R.map (·.1)).Nodup)(h:∀k v,wt R k=some v→∃n,k=.inr n∧n∈NM):R.length≤NM.length:=by
 have:=qzt (R.map (·.1)) (NM.map Sum.inr) nd λk hk=>by
  obtain ⟨c,hc,rfl⟩:=aw.mp hk
  obtain ⟨n,e,hn⟩:=h _ _ (jy nd hc)
  rw [e]
  exact aw.mpr ⟨n,hn,rfl⟩
 rwa [ac,ac] at this
theorem VH.lens {C CR CW:Aj}{H:Hp}{o:Ho}{a:AH}{as:List AH}(v:VH C CR CW H o (a::as)){NM:List Str}(nm:Nam NM a):o.R.length≤NM.length∧o.W.length≤NM.length:=by
 refine ⟨wx6 v.h.nR λk u e=>?_,wx6 v.h.nW λk u e=>?_⟩
 ·obtain ⟨n,_,rfl,_⟩:=v.h.fR k u e
  refine ⟨n,rfl,nm.r n ?_⟩
  have:=v.rep.r n
  cases e2:a.rs n with
  |none =>
   rw [e2] at this
   have this:wt o.R (.inr n)=none:=this
   rw [this] at e;cases e
  |some _=>rfl
 ·obtain ⟨n,_,rfl,_⟩:=v.h.fW k u e
  refine ⟨n,rfl,nm.w n ?_⟩
  have:=v.rep.w n
  cases e2:a.ws n with
  |none =>
   rw [e2] at this
   have this:wt o.W (.inr n)=none:=this
   rw [this] at e;cases e
  |some _=>rfl
theorem Rep.road {CR CW:Aj}{H:Hp}{f g:Key→Option V}{a:AH}(h:Rep CR CW H f g a){n:Str}{hs:List Int}(e:a.rs n=some hs):∃r,f (.inr n)=some (.ref r)∧RoadAt CR H r hs:=by
 have:=h.r n
 rw [e] at this
 exact this
theorem Rep.wk {CR CW:Aj}{H:Hp}{f g:Key→Option V}{a:AH}(h:Rep CR CW H f g a){n:Str}{w:Wk}(e:a.ws n=some w):∃y p t,g (.inr n)=some (.ref y)∧WkAt CW H y w.wh p w.pt t w.tv:=by
 have:=h.w n
 rw [e] at this
 exact this
theorem Rep.noR {CR CW:Aj}{H:Hp}{f g:Key→Option V}{a:AH}(h:Rep CR CW H f g a){n:Str}(e:a.rs n=none):f (.inr n)=none:=by
 have:=h.r n
 rw [e] at this
 exact this
theorem Rep.noW {CR CW:Aj}{H:Hp}{f g:Key→Option V}{a:AH}(h:Rep CR CW H f g a){n:Str}(e:a.ws n=none):g (.inr n)=none:=by
 have:=h.w n
 rw [e] at this
 exact this
theorem qxu {f:Key→Option V}{k:Key}{v:V}(m:Key):ovr f [(k,v)] m=if m=k then (if v=.non then none else some v) else f m:=by
 unfold ovr
 by_cases z:k=m
 ·rw [zc z,ak z.symm]
  cases v <;> rfl
 ·rw [zj z,ag (aW z)]
  rfl
theorem Rep.putW {CR CW:Aj}{H:Hp}{f g:Key→Option V}{a:AH}(h:Rep CR CW H f g a){n:Str}{w:Wk}{y p t:Aj}(wk:WkAt CW H y w.wh p w.pt t w.tv)(tm:TmOk w.tv){hs:List Int}(er:a.rs w.wh=some hs)(hp:HPt hs w.pt):Rep CR CW H (ovr f []) (ovr g [(.inr n,.ref y)]) (a.putW n w):=by
 refine ⟨h.r,λm=>?_,h.ok.lo,λm w' e=>?_⟩
 ·rw [qxu]
  show WRep CW H _ (if m=n then some w else a.ws m)
  by_cases z:m=n
  ·rw [ak z,ak (by rw [z]),ag (λq=>by cases q)]
   exact ⟨y,p,t,rfl,wk⟩
  ·rw [ag z,ag (λq=>z (by injection q))]
   exact h.w m
 ·have e:(if m=n then some w else a.ws m)=some w':=e
  by_cases z:m=n
  ·rw [ak z] at e
   cases e
   exact ⟨tm,hs,er,hp⟩
  ·rw [ag z] at e
   exact h.ok.wo m w' e
theorem Rep.delW {CR CW:Aj}{H:Hp}{f g:Key→Option V}{a:AH}(h:Rep CR CW H f g a)(n:Str):Rep CR CW H (ovr f []) (ovr g [(.inr n,.non)]) (a.delW n):=by
 refine ⟨h.r,λm=>?_,h.ok.lo,λm w' e=>?_⟩
 ·rw [qxu]
  show WRep CW H _ (if m=n then none else a.ws m)
  by_cases z:m=n
  ·rw [ak z,ak (by rw [z]),ak rfl]
   rfl
  ·rw [ag z,ag (λq=>z (by injection q))]
   exact h.w m
 ·have e:(if m=n then none else a.ws m)=some w':=e
  by_cases z:m=n
  ·rw [ak z] at e;cases e
  ·rw [ag z] at e
   exact h.ok.wo m w' e
theorem qv8 {n:Str}{y:Aj}:yk [((Sum.inr n:Key),V.ref y)]:=λc hc=>by
 rw [aq.mp hc]
 exact ⟨n,rfl,.inr ⟨y,rfl⟩⟩
theorem wxd {n:Str}:yk [((Sum.inr n:Key),V.non)]:=λc hc=>by
 rw [aq.mp hc]
 exact ⟨n,rfl,.inl rfl⟩
theorem Q6:yk []:=λc hc=>nomatch hc
theorem qx1 {f:Key→Option V}:Jz f []:=λc hc=>nomatch hc
theorem ww5 {f:Key→Option V}{k:Key}{y:Aj}:Jz f [(k,.ref y)]:=λc hc hn=>by
 rw [aq.mp hc] at hn
 cases hn
theorem WDeed.g {C CW:Aj}{H H':Hp}{x dr dw dd:Aj}{R W:List (Key×V)}{D:List V}{n wh:Str}{p:Aj}{pt:Int×Int}{t:Aj}{tv:List (List Key×V)}(h:WDeed C CW H H' x dr dw dd R W D n wh p pt t tv):∃y,Wx C H H' x dr dw dd R W D [] [(.inr n,.ref y)]∧WkAt CW H' y wh p pt t tv:=by
 obtain ⟨y,tp,q1,q2,a1,a2,a3,a4,a5,a6,a7,a8,a9,b1⟩:=h
 refine ⟨y,⟨tp,q1,q2,a1,a2,a3,?_,a5,a6,a7,a8,b1⟩,a9⟩
 rw [qy6]
 exact a4
theorem RDeed.g {C CR:Aj}{H H':Hp}{x dr dw dd:Aj}{R W:List (Key×V)}{D:List V}{n:Str}{hs:List Int}(h:RDeed C CR H H' x dr dw dd R W D n hs):∃r,Wx C H H' x dr dw dd R W D [(.inr n,.ref r)] []∧RoadAt CR H' r hs:=by
 obtain ⟨r,tp,q1,q2,a1,a2,a3,a4,a5,a6,a7,a8,a9,b1⟩:=h
 refine ⟨r,⟨tp,q1,q2,a1,a2,a3,?_,a5,a6,a7,a8,b1⟩,a9⟩
 rw [qy6]
 exact a4
theorem VH.walk {C CR CW:Aj}{H H':Hp}{o:Ho}{a:AH}{as:List AH}(v:VH C CR CW H o (a::as)){n:Str}{w:Wk}{p t:Aj}(g:WDeed C CW H H' o.x o.dr o.dw o.dd o.R o.W (j0 o.ds) n w.wh p w.pt t w.tv)(tm:TmOk w.tv){hs:List Int}(er:a.rs w.wh=some hs)(hp:HPt hs w.pt):∃o',Nxt H o o'∧VH C CR CW H' o' (a.putW n w::a::as)∧Kb [o.dr,o.dw,o.dd] H H':=by
 obtain ⟨y,gd,wk⟩:=g.g
 exact v.did gd aU qjz (aB _) (show 1≤1000 by decide) Q6 qv8 qx1 ww5 λkb=>(v.rep.dl v.h.dl kb).putW wk tm er hp
theorem VH.leave {C CR CW:Aj}{H H':Hp}{o:Ho}{a:AH}{as:List AH}(v:VH C CR CW H o (a::as)){n:Str}{w:Wk}(e:a.ws n=some w)(g:Wx C H H' o.x o.dr o.dw o.dd o.R o.W (j0 o.ds) [] [(.inr n,.non)]):∃o',Nxt H o o'∧VH C CR CW H' o' (a.delW n::a::as)∧Kb [o.dr,o.dw,o.dd] H H':=by
 obtain ⟨y,p,t,ey,_⟩:=v.rep.wk e
 exact v.did g aU qjz (aB _) (show 1≤1000 by decide) Q6 wxd qx1 (λc hc _=>by rw [aq.mp hc,ey];rfl) λkb=>(v.rep.dl v.h.dl kb).delW n
theorem VH.take {C CR CW CN:Aj}{H:Hp}{o:Ho}{a b:AH}{as:List AH}{Q:VK}{E:XK}(v:VH C CR CW H o (a::b::as))(lR:o.R.length≤1000)(lW:o.W.length≤1000)
  (k:∀H' o' d,Prv o o'→o.ds=d::o'.ds→VH C CR CW H' o' (b::as)→Kb [o.dr,o.dw,o.dd,d.q1,d.q2] H H'→Dl H [o.dr,o.dw,o.dd,d.q1,d.q2]→(∀q kv,q∉[o.dr,o.dw,o.dd]→Rd H q (.dK kv)→Rd H' q (.dK kv))→Q .non H'):Qc C CN [.ref o.x] H Q E:=by
 obtain ⟨h1,h2⟩:=v.t
 rcases h2 with ⟨_,h2⟩|⟨d,ds,ed,h2⟩
 ·cases h2
 have hd:d∈o.ds:=by rw [ed];exact aO ..
 obtain ⟨_,dk⟩:=v.h.da d hd
 refine v.h.take ed lR lW λH' h' kb dl rdk=>k H' (o.undo d ds) d ⟨rfl,rfl,rfl,rfl,⟨d,ed⟩⟩ ed ⟨h',?_⟩ kb dl rdk
 show Hist CR CW H' (b::as) (wt (exK o.R d.cs1)) (wt (exK o.W d.cs2)) ds
 rw [show wt (exK o.R d.cs1)=ovr (wt o.R) d.cs1 from funext (jx _ _ dk.nd1),show wt (exK o.W d.cs2)=ovr (wt o.W) d.cs2 from funext (jx _ _ dk.nd2)]
 exact Hist.dl dl kb h2
structure Ap (o p:Ho):Prop where
 rr:o.dr≠p.dr
 rw_:o.dr≠p.dw
 wr:o.dw≠p.dr
 ww:o.dw≠p.dw
 dd:o.dd≠p.dd
 q1:∀q∈Qk o.ds,q≠p.dr∧q≠p.dw
 q2:∀q∈Qk p.ds,q≠o.dr∧q≠o.dw
theorem Ap.symm {o p:Ho}(h:Ap o p):Ap p o:=⟨h.rr.symm,h.wr.symm,h.rw_.symm,h.ww.symm,h.dd.symm,h.q2,h.q1⟩
theorem Ap.x {C:Aj}{H:Hp}{o p:Ho}(hp:HoAt C H p){ch:List Aj}(dl:Dl H ch):p.x∉ch:=by
 obtain ⟨dx,e⟩:=hp.hs.ob
 exact dl.other e (λ_ z=>by cases z) (λ_ _ z=>by cases z) (λ_ _ z=>by cases z)
theorem Ap.stay {C CR CW:Aj}{H H':Hp}{o p:Ho}{as:List AH}(h:Ap o p)(ho:HoAt C H o)(vp:VH C CR CW H p as)(kb:Kb [o.dr,o.dw,o.dd] H H'):VH C CR CW H' p as:=by
 have dl:=ho.dl
 refine ⟨vp.h.frame kb dl ⟨Ap.x (o:=o) vp.h dl,λz=>?_,λz=>?_,λz=>?_⟩ λq hq hm kv e=>?_,Hist.dl dl kb vp.t⟩
 ·simp only [ai,aj,be] at z
  rcases z with z|z|z
  ·exact h.rr z.symm
  ·exact h.wr z.symm
  ·have:=vp.h.hs.r;rw [z,ho.hs.d] at this;cases this
 ·simp only [ai,aj,be] at z
  rcases z with z|z|z
  ·exact h.rw_ z.symm
  ·exact h.ww z.symm
  ·have:=vp.h.hs.w;rw [z,ho.hs.d] at this;cases this
 ·simp only [ai,aj,be] at z
  rcases z with z|z|z
  ·have:=vp.h.hs.d;rw [z,ho.hs.r] at this;cases this
  ·have:=vp.h.hs.d;rw [z,ho.hs.w] at this;cases this
  ·exact h.dd z.symm
 ·simp only [ai,aj,be] at hq
  rcases hq with z|z|z
  ·exact absurd z (h.q2 q hm).1
  ·exact absurd z (h.q2 q hm).2
  ·rcases e with e|⟨u,e⟩ <;> (rw [z,ho.hs.d] at e;cases e)
theorem Ap.nxt {C:Aj}{H:Hp}{o o' p:Ho}(h:Ap o p)(hp:HoAt C H p)(n:Nxt H o o'):Ap o' p:=by
 obtain ⟨d,e,n1,n2⟩:=n.ds
 refine ⟨by rw [n.dr];exact h.rr,by rw [n.dr];exact h.rw_,by rw [n.dw];exact h.wr,by rw [n.dw];exact h.ww,by rw [n.dd];exact h.dd,λq hq=>?_,λq hq=>by rw [n.dr,n.dw];exact h.q2 q hq⟩
 rw [e] at hq
 have hq:q∈d.q1::d.q2::Qk o.ds:=hq
 rcases ai.mp hq with rfl|hq
 ·exact ⟨(qj hp.hs.r n1).symm,(qj hp.hs.w n1).symm⟩
 ·rcases ai.mp hq with rfl|hq
  ·exact ⟨(qj hp.hs.r n2).symm,(qj hp.hs.w n2).symm⟩
  ·exact h.q1 q hq
theorem Ap.prv {o o' p:Ho}(h:Ap o p)(n:Prv o o'):Ap o' p:=by
 obtain ⟨d,e⟩:=n.ds
 refine ⟨by rw [n.dr];exact h.rr,by rw [n.dr];exact h.rw_,by rw [n.dw];exact h.wr,by rw [n.dw];exact h.ww,by rw [n.dd];exact h.dd,λq hq=>h.q1 q ?_,λq hq=>by rw [n.dr,n.dw];exact h.q2 q hq⟩
 rw [e]
 exact aC _ (aC _ hq)
theorem Ap.back {C CR CW:Aj}{H H':Hp}{o p:Ho}{as:List AH}{d:Deed}{ds:List Deed}(h:Ap o p)(ho:HoAt C H o)(ed:o.ds=d::ds)(vp:VH C CR CW H p as)(kb:Kb [o.dr,o.dw,o.dd,d.q1,d.q2] H H')(dl:Dl H [o.dr,o.dw,o.dd,d.q1,d.q2])(rdk:∀q kv,q∉[o.dr,o.dw,o.dd]→Rd H q (.dK kv)→Rd H' q (.dK kv)):VH C CR CW H' p as:=by
 have hd:d∈o.ds:=by rw [ed];exact aO ..
 have m:=J9 hd
 have a1:=h.q1 _ m.1
 have a2:=h.q1 _ m.2
 obtain ⟨⟨_,r1,r2⟩,_⟩:=ho.da d hd
 refine ⟨vp.h.frame kb dl ⟨Ap.x (o:=o) vp.h dl,λz=>?_,λz=>?_,λz=>?_⟩ λq hq hm kv e=>rdk q kv (λz=>?_) e,Hist.dl dl kb vp.t⟩
 ·simp only [ai,aj,be] at z
  rcases z with z|z|z|z|z
  ·exact h.rr z.symm
  ·exact h.wr z.symm
  ·have:=vp.h.hs.r;rw [z,ho.hs.d] at this;cases this
  ·exact a1.1 z.symm
  ·exact a2.1 z.symm
 ·simp only [ai,aj,be] at z
  rcases z with z|z|z|z|z
  ·exact h.rw_ z.symm
  ·exact h.ww z.symm
  ·have:=vp.h.hs.w;rw [z,ho.hs.d] at this;cases this
  ·exact a1.2 z.symm
  ·exact a2.2 z.symm
 ·simp only [ai,aj,be] at z
  rcases z with z|z|z|z|z
  ·have:=vp.h.hs.d;rw [z,ho.hs.r] at this;cases this
  ·have:=vp.h.hs.d;rw [z,ho.hs.w] at this;cases this
  ·exact h.dd z.symm
  ·rcases r1 with r1|⟨u,r1⟩ <;> (have:=vp.h.hs.d;rw [z,r1] at this;cases this)
  ·rcases r2 with r2|⟨u,r2⟩ <;> (have:=vp.h.hs.d;rw [z,r2] at this;cases this)
 ·simp only [ai,aj,be] at z
  rcases z with z|z|z
  ·exact absurd z (h.q2 q hm).1
  ·exact absurd z (h.q2 q hm).2
  ·rcases e with e|⟨u,e⟩ <;> (rw [z,ho.hs.d] at e;cases e)
theorem VH.twin {C CR CW:Aj}{H H':Hp}{o:Ho}{as:List AH}(v:VH C CR CW H o as){x' dr' dw' dd':Aj}(s:Same H H')(n1:H x'=none)(n2:H dr'=none)(n3:H dw'=none)(n4:H dd'=none)(h':Hse C H' x' dr' dw' dd' o.R o.W (j0 o.ds)):VH C CR CW H' ⟨x',dr',dw',dd',o.R,o.W,o.ds⟩ as∧Ap o ⟨x',dr',dw',dd',o.R,o.W,o.ds⟩:=by
 have vs:=v.same s
 have hq:∀q∈Qk o.ds,∃kv,Rd H q (.dK kv):=λq hq=>by
  obtain ⟨d,hd,hq⟩:=dJ.mp hq
  obtain ⟨⟨_,a,b⟩,_⟩:=v.h.da d hd
  simp only [ai,aj,be] at hq
  rcases hq with rfl|rfl
  ·exact ⟨_,a⟩
  ·exact ⟨_,b⟩
 have nn:∀q∈Qk o.ds,q≠dr'∧q≠dw':=λq hm=>by
  obtain ⟨kv,e|⟨u,e⟩⟩:=hq q hm <;> exact ⟨qj e n2,qj e n3⟩
 exact ⟨⟨⟨h',vs.h.da,nn,vs.h.un,vs.h.nR,vs.h.nW,vs.h.fR,vs.h.fW⟩,vs.t⟩,⟨qj v.h.hs.r n2,qj v.h.hs.r n3,qj v.h.hs.w n2,qj v.h.hs.w n3,qj v.h.hs.d n4,nn,v.h.nq⟩⟩
theorem stN_a {n u m f:Nat}(h:m<f):stN n u m f=0:=ak h
theorem stN_b {n u m f:Nat}(h:f≤m)(h2:f<u):stN n u m f=1-(if f=0 then 1 else 0):=by
 unfold stN
 rw [ag (by lia),ak h2]
theorem stN_c {n u m f:Nat}(h:f≤m)(h2:u≤f):stN n u m f=(m-f)/(n-u)+1-(if f=0 then 1 else 0):=by
 unfold stN
 rw [ag (by lia),ag (by lia)]
theorem getR {g:Nat→Int}{n k:Nat}(hk:k<n):(((List.range n).map g).map V.int)[k]?=some (.int (g k)):=by
 rw [aH,aH,cv hk]
 rfl
def J1 (L f:Nat):Nat:=if f=0 then L else f
def Jh (L m f:Nat):Nat:=if m<J1 L f then 0 else (m-J1 L f)/L+1
def f1N (u m f j:Nat):Nat:=if 1≤f∧f<1+j∧f<u∧f≤m then 1 else 0
def f2N (n u m f j:Nat):Nat:=f1N u m f (n-1)+if u≤f∧f<u+j then Jh (n-u) m f else 0
theorem wqu {u m f:Nat}:f1N u m f 0=0:=ag λz=>by lia
theorem wwx {n u m f:Nat}:f2N n u m f 0=f1N u m f (n-1):=by
 unfold f2N
 rw [ag (λz=>by lia)]
 rfl
theorem f1_hit {u m f j:Nat}(h:1+j=f)(h2:f<u)(h3:f≤m):f1N u m f (j+1)=f1N u m f j+1:=by
 unfold f1N
 rw [ak ⟨by lia,by lia,h2,h3⟩,ag (λz=>by lia)]
theorem qzm {u m f j:Nat}(h:¬ (1+j=f∧f<u∧f≤m)):f1N u m f (j+1)=f1N u m f j:=by
 unfold f1N
 by_cases c:1≤f∧f<1+j∧f<u∧f≤m
 ·rw [ak c,ak ⟨c.1,by lia,c.2.2⟩]
 ·rw [ag c,ag λz=>by
   by_cases y:1+j=f
   ·exact h ⟨y,z.2.2⟩
   ·exact c ⟨z.1,by lia,z.2.2⟩]
theorem f2_hit {n u m f j:Nat}(h:u+j=f):f2N n u m f (j+1)=f2N n u m f j+Jh (n-u) m f:=by
 unfold f2N
 rw [ak (show u≤f∧f<u+(j+1) by lia),ag (show ¬ (u≤f∧f<u+j) by lia)]
 rfl
theorem wvw {n u m f j:Nat}(h:u+j≠f):f2N n u m f (j+1)=f2N n u m f j:=by
 unfold f2N
 by_cases c:u≤f∧f<u+j
 ·rw [ak c,ak ⟨c.1,by lia⟩]
 ·rw [ag c,ag λz=>c ⟨z.1,by lia⟩]
theorem f2_end {n u m f:Nat}(hu:u<n):f2N n u m f (n-u)=if f<n then stN n u m f else 0:=by
 unfold f2N f1N
 by_cases a:f<n
 ·rw [ak a]
  by_cases b:f<u
  ·rw [ag (show ¬ (u≤f∧f<u+(n-u)) by lia)]
   by_cases c:f≤m
   ·rw [stN_b c b]
    by_cases d:f=0
    ·rw [ag (by lia),ak d]
    ·rw [ak ⟨by lia,by lia,b,c⟩,ag d]
   ·rw [stN_a (by lia),ag λz=>c z.2.2.2]
  ·rw [ag λz=>b z.2.2.1,ak (by lia),Nat.zero_add]
   unfold Jh J1
   have hL:0<n-u:=by lia
   by_cases d:f=0
   ·rw [ak d,stN_c (by lia) (by lia),ak d]
    subst d
    have u0:u=0:=by lia
    subst u0
    by_cases c:m<n-0
    ·rw [ak c,Nat.sub_zero m,Nat.div_eq_of_lt c]
    ·have:=Nat.sub_mul_div m (n-0) 1
     have e:(m-(n-0))/(n-0)=m/(n-0)-1:=by
      rw [←Nat.mul_one (n-0)] at this
      simpa using Nat.sub_mul_div m n 1
     have ge:1≤m/(n-0):=(Nat.le_div_iff_mul_le hL).mpr (by lia)
     rw [ag c,e,Nat.sub_zero m]
     generalize m/(n-0)=D at ge
     lia
   ·rw [ag d]
    by_cases c:m<f
    ·rw [ak c,stN_a c]
    ·rw [ag c,stN_c (by lia) (by lia),ag d]
     rfl
 ·rw [ag a,ag (λz=>by lia),ag (λz=>by lia)]
theorem qvf {L f t:Nat}{m:Int}(e:J1 L f=t)(h:(t:Int)≤m):((Jh L m.toNat f:Nat):Int)=(m-t)/(L:Int)+1:=by
 unfold Jh
 rw [e,ag (by lia),qvn h]
 rfl
theorem qy9 {L f t:Nat}{m:Int}(e:J1 L f=t)(h:m.toNat<t):Jh L m.toNat f=0:=by
 unfold Jh
 rw [e,ak h]
def Jm:Sp:=λvs H Q _=>∃(l:Aj) (g:Nat→Int) (n u f:Nat) (m x:Int),vs=[.ref l,.int u,.int m,.int x]∧H l=some (.lst (((List.range n).map g).map V.int))∧u<n∧n≤300000∧0≤m∧(∀k,k<n→(g k=x↔k=f))∧Q (.int ((if f<n then stN n u m.toNat f else 0:Nat):Int)) H
theorem wq8 {f:Aj}{fd:Ad}(F:Fun K "_law_count" "_law_count" s__law_count f fd)(T:Txt K mg qf wz qk q9 qg wv wu wq wm wy qd qz qm qw qq):FnOk P w K mg base (CXE P w) 1 f fd ["_law_tops","_law_start","_law_many","_law_top"] Jm:=by
 have sc:=qqg
 refine F.okX sc (λvs H Q E h=>by obtain ⟨l,g,n,u,f,m,x,rfl,_⟩:=h;rfl) (λcdv A outer s H vs Q E hr h=>?_)
 obtain ⟨l,g,n,u,f,m,x,rfl,fl,hu,hn,m0,hx,k⟩:=h
 have hlen:(((List.range n).map g).map V.int).length=n:=by rw [ac,ac,aJ]
 refine ⟨_,(qy (xz (i:=4) sc.nd rfl (by walk_at "loc") qr)
   (qy (yw aY rfl (wqk rfl T.range_ (xx qr (js (xu x8 rfl T.len_ aV (wx (pv 0) qu)) qu))) (xj (i:=5) sc.nd rfl (by walk_at "loc")) (wj (zq (PW.pt (qjw (xq yt (pv 5) (pv 1) (xk _)) (qjw (xq op_le (pv 5) (pv 2) (xk _)) (quw (xq k9 (xy xv (pv 0) (pv 5) (λ_ _=>rfl)) (pv 3) (xk _)))))) (wj (qyw (i:=4) sc.nd rfl (Or.inl rfl) qr qjj)) w9)))
   (qy (xz (i:=6) sc.nd rfl (by walk_at "loc") (w4 vz (xu x8 rfl T.len_ aV (wx (pv 0) qu)) (pv 1)))
   (qy (yw aY rfl (zr rfl T.range_ (wx (pv 6) qu)) (xj (i:=5) sc.nd rfl (by walk_at "loc")) (wj (zq (xq k9 (xy xv (pv 0) (w4 xn (pv 1) (pv 5)) (λ_ _=>rfl)) (pv 3) (xk _)) (qy (xz (i:=7) sc.nd rfl (by walk_at "loc") (w4 xn (pv 1) (pv 5)))
   (qy (zq (xq k9 (pv 7) qr (xk _)) (wj (xz (i:=7) sc.nd rfl (by walk_at "loc") (pv 6))) w9)
   (wj (zq (xq qy2 (pv 2) (pv 7) (xk _)) (wj (qyw (i:=4) sc.nd rfl (Or.inl rfl) (w4 xn (w4 vm (w4 vz (pv 2) (pv 7)) (pv 6)) qr) qjj)) w9)))) w9)))
   (wj (w8 (pv 4))))))),?_⟩
 refine exI rfl ⟨_,_,rfl,.inl (SqL.of fl),1,_,rfl,?_⟩
 rw [hlen]
 refine ⟨⟨by lia,by lia,by lia,by lia⟩,yz (λj σ H1=>H1=H∧∃z,σ=[some (.ref l),some (.int u),some (.int m),some (.int x),some (.int (f1N u m.toNat f j:Nat)),z,none,none]) ⟨rfl,none,?_⟩ ?_ ?_⟩
 ·rw [wqu]
  rfl
 ·rintro j σ H1 hj ⟨rfl,z,rfl⟩
  refine exI rfl (exI rfl (w6 rfl rfl (exI rfl (jv (λy1=>?_) (λy1=>?_)))))
  ·refine exI rfl (exI rfl (w6 rfl rfl (exI rfl (jv (λy2=>?_) (λy2=>?_)))))
   ·have at1:atI (((List.range n).map g).map V.int) ((1:Int)+j)=some (.int (g (1+j))):=by
     rw [show (1:Int)+j=((1+j:Nat):Int) by lia]
     exact xm (getR (by lia))
    refine exI rfl (exI rfl (exX rfl rfl (SqL.of fl) at1 (exI rfl ⟨rfl,_,rfl,jk (λy3=>?_) (λy3=>?_)⟩)))
    ·have:=(hx _ (by lia)).mp y3
     rw [f1_hit this (by lia) (by lia)]
     exact exI rfl (w6 rfl rfl ⟨rfl,_,rfl⟩)
    ·refine ⟨rfl,some (.int ((1:Int)+j)),?_⟩
     rw [qzm λq=>y3 ((hx _ (by lia)).mpr q.1)]
     rfl
   ·refine ju ⟨rfl,some (.int ((1:Int)+j)),?_⟩
    rw [qzm (by lia)]
    rfl
  ·refine ju ⟨rfl,some (.int ((1:Int)+j)),?_⟩
   rw [qzm (by lia)]
   rfl
 ·rintro σ H1 ⟨rfl,z,rfl⟩
  rw [show ((n:Int)-1).toNat=n-1 by lia]
  refine exI rfl ⟨_,_,rfl,.inl (SqL.of fl),exI rfl (w6 rfl rfl ?_)⟩
  rw [hlen]
  have eL:(n:Int)-u=((n-u:Nat):Int):=by lia
  simp only [eL]
  refine ⟨_,rfl,_,rfl,by lia,by lia,yz (λj σ H2=>H2=H1∧∃z z2,σ=[some (.ref l),some (.int u),some (.int m),some (.int x),some (.int (f2N n u m.toNat f j:Nat)),z,some (.int ((n-u:Nat):Int)),z2]) ⟨rfl,z,none,?_⟩ ?_ ?_⟩
  ·rw [wwx]
   rfl
  ·rintro j σ H2 hj ⟨rfl,z,z2,rfl⟩
   have at1:atI (((List.range n).map g).map V.int) ((u:Int)+((0:Int)+j))=some (.int (g (u+j))):=by
    rw [show (u:Int)+(0+j)=((u+j:Nat):Int) by lia]
    exact xm (getR (by lia))
   refine exI rfl (exI rfl (exI rfl (w6 rfl rfl (exX rfl rfl (SqL.of fl) at1 (exI rfl ⟨rfl,_,rfl,jk (λy3=>?_) (λy3=>?_)⟩)))))
   ·have hf:=(hx _ (by lia)).mp y3
    rw [f2_hit hf]
    refine exI rfl (exI rfl (w6 rfl rfl ?_))
    have eF:(u:Int)+(0+(j:Int))=(f:Int):=by lia
    simp only [eF]
    have sL:Sm 9000 ((n-u:Nat):Int):=(Sm.small (n:=65) (by lia) (by lia) (by decide)).mono (by decide)
    refine exI rfl ⟨rfl,_,rfl,jk (λy4=>?_) (λy4=>?_)⟩
    ·have tf:J1 (n-u) f=n-u:=ak (by lia)
     refine exI rfl (exI rfl (exI rfl (w6 rfl rfl (exI rfl (jv (λy5=>?_) (λy5=>?_))))))
     ·refine exI rfl (exI rfl (exI rfl (w6 rfl rfl (exI rfl (w6 rfl rfl ⟨⟨by lia,sL⟩,w6 rfl rfl (w6 rfl rfl ⟨rfl,some (.int ((0:Int)+j)),some (.int ((n-u:Nat):Int)),?_⟩)⟩)))))
      rw [←qvf tf y5]
      rfl
     ·refine ⟨rfl,some (.int ((0:Int)+j)),some (.int ((n-u:Nat):Int)),?_⟩
      rw [qy9 tf (by lia)]
      rfl
    ·have tf:J1 (n-u) f=f:=ag (by lia)
     refine exI rfl (exI rfl (w6 rfl rfl (exI rfl (jv (λy5=>?_) (λy5=>?_)))))
     ·refine exI rfl (exI rfl (exI rfl (w6 rfl rfl (exI rfl (w6 rfl rfl ⟨⟨by lia,sL⟩,w6 rfl rfl (w6 rfl rfl ⟨rfl,some (.int ((0:Int)+j)),some (.int (f:Int)),?_⟩)⟩)))))
      rw [←qvf tf y5]
      rfl
     ·refine ⟨rfl,some (.int ((0:Int)+j)),some (.int (f:Int)),?_⟩
      rw [qy9 tf (by lia)]
      rfl
   ·refine ⟨rfl,some (.int ((0:Int)+j)),z2,?_⟩
    rw [wvw λq=>y3 ((hx _ (by lia)).mpr q)]
    rfl
  ·rintro σ H2 ⟨rfl,z,z2,rfl⟩
   refine exI rfl ?_
   rw [cF,f2_end hu]
   exact k
theorem wzn {α:Type}{g:Nat→α}{n u n' u':Nat}(d:Dist g n)(hu:u<n)(e:g n=g u)(d':Dist g n')(hu':u'<n')(e':g n'=g u'):n=n'∧u=u':=by
 have en:n=n':=by
  rcases eU n n' with z|z|z
  ·exact absurd e.symm (d' u n hu z)
  ·exact z
  ·exact absurd e'.symm (d u' n' hu' z)
 subst en
 refine ⟨rfl,?_⟩
 rcases eU u u' with z|z|z
 ·exact absurd (e.symm.trans e') (d u u' z hu')
 ·exact z
 ·exact absurd (e'.symm.trans e) (d u' u z hu)
theorem wwk {α:Type}{g:Nat→α}:∀ {N:Nat},¬ Dist g N→∃n u,Dist g n∧u<n∧g n=g u
 |0,h=>absurd (λi j _ z=>absurd z (dU _)) h
 |N+1,h=>by
  by_cases d:Dist g N
  ·by_cases z:∃u,u<N∧g N=g u
   ·obtain ⟨u,hu,e⟩:=z
    exact ⟨N,u,d,hu,e⟩
   ·refine absurd (λi j hij hj e=>?_) h
    rcases (by lia:j<N∨j=N) with y|y
    ·exact d i j hij y e
    ·subst y
     exact z ⟨i,hij,e.symm⟩
  ·exact wwk d
def EntC (hs:List Int)(t b:Int)(m:Nat)(T c:Int):Prop:=∃n u f,Dist (trT hs t b) n∧u<n∧trT hs t b n=trT hs t b u∧(∀k,k<n→(trT hs t b k=T↔k=f))∧c=((if f<n then stN n u m f else 0:Nat):Int)
theorem EntC.uniq {hs:List Int}{t b:Int}{m:Nat}{T c c':Int}(h:EntC hs t b m T c)(h':EntC hs t b m T c'):c=c':=by
 obtain ⟨n,u,f,d,hu,e,hf,rfl⟩:=h
 obtain ⟨n',u',f',d',hu',e',hf',rfl⟩:=h'
 obtain ⟨rfl,rfl⟩:=wzn d hu e d' hu' e'
 by_cases z:f<n
 ·have:=(hf' f z).mp ((hf f z).mpr rfl)
  subst this
  rfl
 ·by_cases y:f'<n
  ·have:=(hf f' y).mp ((hf' f' y).mpr rfl)
   lia
  ·rw [ag z,ag y]
noncomputable def qzx (hs:List Int) (t b:Int) (m:Nat) (T:Int):Int:=Classical.epsilon (EntC hs t b m T)
theorem EntC.eq {hs:List Int}{t b:Int}{m:Nat}{T c:Int}(h:EntC hs t b m T c):qzx hs t b m T=c:=(Classical.epsilon_spec (p:=EntC hs t b m T) ⟨c,h⟩).uniq h
theorem qz5 {g:Nat→Int}{n:Nat}(d:Dist g n)(T:Int):∃f,∀k,k<n→(g k=T↔k=f):=by
 by_cases z:∃f,f<n∧g f=T
 ·obtain ⟨f,hf,e⟩:=z
  refine ⟨f,λk hk=>⟨λek=>?_,λek=>by rw [ek];exact e⟩⟩
  rcases eU k f with y|y|y
  ·exact absurd (ek.trans e.symm) (d k f y hf)
  ·exact y
  ·exact absurd (e.trans ek.symm) (d f k y hk)
 ·exact ⟨n,λk hk=>⟨λek=>absurd ⟨k,hk,ek⟩ z,λek=>by lia⟩⟩
theorem Jg {x y b:Int}(hb:1≤b)(e:wc x b=wc y b):x=y:=cJ (by lia) ((Y3 hb hb).mpr e)
theorem qzp {hs:List Int}{t b:Int}(hb:1≤b)(i j:Nat):itP hs (wc t b) i=itP hs (wc t b) j↔trT hs t b i=trT hs t b j:=by
 rw [←j4 hb,←j4 hb]
 exact ⟨Jg hb,λe=>by rw [e]⟩
theorem qus {hs:List Int}{t b:Int}{m:Nat}{tv tv':List (List Key×V)}(hb:1≤b)(h:Zf hs (wc t b) m tv tv'):(∀T,yh tv' (wc T b)=yh tv (wc T b)+qzx hs t b m T)∧∀q,(∀T,wc T b≠q)→yh tv' q=yh tv q:=by
 obtain ⟨n,u,_,d,hu,e,h1,h2⟩:=h
 have d':Dist (trT hs t b) n:=λi j hij hj z=>d i j hij hj ((qzp hb i j).mpr z)
 have e':trT hs t b n=trT hs t b u:=(qzp hb n u).mp e
 refine ⟨λT=>?_,λq hq=>h2 q λf hf=>?_⟩
 ·obtain ⟨f,hf⟩:=qz5 d' T
  have en:EntC hs t b m T _:=⟨n,u,f,d',hu,e',hf,rfl⟩
  rw [en.eq]
  by_cases z:f<n
  ·have ef:trT hs t b f=T:=(hf f z).mpr rfl
   have e1:=h1 f z
   rw [←j4 hb,ef] at e1
   rw [ak z]
   exact e1
  ·rw [ag z,h2 _ λk hk ek=>?_]
   ·show _=_+(0:Int)
    lia
   ·rw [←j4 hb] at ek
    have:=(hf k hk).mp (Jg hb ek)
    lia
 ·rw [←j4 hb]
  exact hq _
theorem qv5 {hs:List Int}{t b:Int}(hb:1≤b)(h:HPt hs (wc t b))(T:Int):qzx hs t b 0 T=0:=by
 obtain ⟨n,u,d,hu,e⟩:=wwk h.short
 have d':Dist (trT hs t b) n:=λi j hij hj z=>d i j hij hj ((qzp hb i j).mpr z)
 have e':trT hs t b n=trT hs t b u:=(qzp hb n u).mp e
 obtain ⟨f,hf⟩:=qz5 d' T
 have en:EntC hs t b 0 T _:=⟨n,u,f,d',hu,e',hf,rfl⟩
 rw [en.eq]
 have:stN n u 0 f=0:=by
  unfold stN
  by_cases z:0<f
  ·rw [ak z]
  ·have z:f=0:=by lia
   subst z
   rw [ag (aQ 0),ak rfl,Nat.sub_self,Nat.zero_div]
   split <;> rfl
 rw [this]
 split <;> rfl
abbrev j9:=List (Int×List Int×Int)
noncomputable def qqb (S:j9) (b T:Int):Int:=S.foldl (λa e=>a+qzx e.2.1 e.1 b e.2.2.toNat T) 0
theorem qw8 (S:j9)(e:Int×List Int×Int)(b T:Int):qqb (S++[e]) b T=qqb S b T+qzx e.2.1 e.1 b e.2.2.toNat T:=by
 unfold qqb
 rw [List.foldl_append]
 rfl
theorem qun {S:j9}{i:Nat}{e:Int×List Int×Int}(h:S[i]?=some e)(b T:Int):qqb (S.take (i+1)) b T=qqb (S.take i) b T+qzx e.2.1 e.1 b e.2.2.toNat T:=by
 rw [cG,h,Option.toList_some,qw8]
def CntIs (tv:List (List Key×V))(S:j9)(T0 b:Int):Prop:=(∀T,yh tv (wc T b)=(if T0=T then 1 else 0)+qqb S b T)∧∀q,(∀T,wc T b≠q)→yh tv q=0
theorem CntIs.go {tv tv':List (List Key×V)}{S:j9}{T0 b t:Int}{hs:List Int}{m:Int}(hb:1≤b)(h:CntIs tv S T0 b)(g:Zf hs (wc t b) m.toNat tv tv'):CntIs tv' (S++[(t,hs,m)]) T0 b:=by
 obtain ⟨g1,g2⟩:=qus hb g
 refine ⟨λT=>?_,λq hq=>by rw [g2 q hq];exact h.2 q hq⟩
 rw [g1,h.1,qw8]
 show _+_+qzx hs t b m.toNat T=_+(_+qzx hs t b m.toNat T)
 lia
theorem qux {q q':Int×Int}:yh [([.inl q.1,.inl q.2],.int 1)] q'=if q=q' then 1 else 0:=by
 have:=qx9 (tv:=[]) (q:=q) (q':=q') (c:=1)
 rw [yj _ rfl] at this
 exact this
theorem CntIs.new {hs:List Int}{t b:Int}(hb:1≤b)(h:HPt hs (wc t b)):CntIs [([.inl (wc t b).1,.inl (wc t b).2],.int 1)] [(t,hs,0)] t b:=by
 refine ⟨λT=>?_,λq hq=>?_⟩
 ·rw [qux]
  show _=_+((0:Int)+qzx hs t b 0 T)
  rw [qv5 hb h T]
  by_cases z:t=T
  ·subst z;rw [ak rfl,ak rfl];rfl
  ·rw [ag z,ag λy=>z (Jg hb y)];rfl
 ·rw [qux,ag (hq t)]
noncomputable def dueC (S:j9) (T0 b t' b':Int):Int:=if t'*b%b'=0 then (if T0=t'*b/b' then 1 else 0)+qqb S b (t'*b/b') else 0
theorem CntIs.due {tv:List (List Key×V)}{S:j9}{T0 b:Int}(hb:1≤b)(h:CntIs tv S T0 b){t' b':Int}(hb':1≤b'):yh tv (wc t' b')=dueC S T0 b t' b':=by
 unfold dueC
 by_cases z:t'*b%b'=0
 ·rw [ak z,←h.1]
  have e:=Int.mul_ediv_add_emod (t'*b) b'
  rw [z,Int.add_zero] at e
  have:wc (t'*b/b') b=wc t' b':=(Y3 hb hb').mp (by rw [du];exact e)
  rw [this]
 ·rw [ag z]
  refine h.2 _ λT e=>z ?_
  rw [← (Y3 hb hb').mpr e]
  exact Int.mul_emod_left _ _
end
section
variable {P:Ac}{w:Ah}{K:Aa}{mg:Str→Option Ag}{base:Heap}{qf:Aj}{wz:Aj}{qk:Aj}{q9:Aj}{qg:Aj}{wv:Aj}{wu:Aj}{wq:Aj}{wm:Aj}{wy:Aj}{qd:Aj}{qz:Aj}{qm:Aj}{qw:Aj}{qq:Aj}
theorem VH.goes {C CR CW CN CC:Aj}{H:Hp}{o:Ho}{a:AH}{as:List AH}{n:Str}{w:Wk}{hs:List Int}{m:Int}{Q:VK}{E:XK}(v:VH C CR CW H o (a::as)){NM:List Str}(nm:Nam NM a)(lN:NM.length≤100)(lD:o.ds.length≤10000)(en:a.ws n=some w)(er:a.rs w.wh=some hs)(wi:Within m 0 (some 1000000000000000000000000000000000000000000000000000000000000))
  (k:∀H' o' p tv',Nxt H o o'→VH C CR CW H' o' (a.putW n ⟨w.wh,itP hs w.pt m.toNat,tv'⟩::a::as)→TmOk tv'→Zf hs w.pt m.toNat w.tv tv'→Kb [o.dr,o.dw,o.dd] H H'→H' p=some (.tup [.int (itP hs w.pt m.toNat).1,.int (itP hs w.pt m.toNat).2])→Q (.ref p) H'):spGo C CR CW CN CC [.ref o.x,.str n,.int m] H Q E:=by
 obtain ⟨y,p,t,ey,wk⟩:=v.rep.wk en
 obtain ⟨r,err,ra⟩:=v.rep.road er
 obtain ⟨tm,hs',er',hp⟩:=v.rep.ok.wo n w en
 rw [er] at er'
 cases er'
 have ln:=v.lens nm
 refine ⟨o.x,o.dr,o.dw,o.dd,o.R,o.W,_,n,m,rfl,v.h.hs,by lia,by lia,by rw [Wj];lia,(λz=>by rw [ey] at z;cases z),λu eu=>?_⟩
 rw [ey] at eu
 cases eu
 refine ⟨y,w.wh,p,w.pt,t,w.tv,r,hs,rfl,wk,tm,err,ra,hp,(λz=>absurd wi z),λ_ H' p' t' tv' wd tm' hit=>?_⟩
 have pt':H' p'=some (.tup [.int (itP hs w.pt m.toNat).1,.int (itP hs w.pt m.toNat).2]):=by
  obtain ⟨y',_,_,_,_,_,_,_,_,_,_,_,wk',_⟩:=wd
  exact wk'.pt
 obtain ⟨o',nx,v',kb⟩:=v.walk (w:=⟨w.wh,itP hs w.pt m.toNat,tv'⟩) wd tm' er (hp.it _)
 exact k H' o' p' tv' nx v' tm' hit kb pt'
theorem VH.places {K:Aa}{C CR CW CN CT CNR CB CO:Aj}{H:Hp}{o:Ho}{a:AH}{as:List AH}{n wh:Str}{hs:List Int}{pa:Aj}{t b:Int}{Q:VK}{E:XK}(v:VH C CR CW H o (a::as)){NM:List Str}(nm:Nam NM a)(lN:NM.length≤100)(lD:o.ds.length≤10000)(nn:jj n=true)(ln:n.length≤1000)(en:a.ws n=none)(er:a.rs wh=some hs)(fp:H pa=some (.tup [.int t,.int b]))(b1:1≤b)(sm:Sm 8000 b)(hp:HPt hs (wc t b))
  (k:∀H' o',Nxt H o o'→VH C CR CW H' o' (a.putW n ⟨wh,wc t b,[([.inl (wc t b).1,.inl (wc t b).2],.int 1)]⟩::a::as)→Kb [o.dr,o.dw,o.dd] H H'→Q .non H'):Q4 K C CR CW CN CT CNR CB CO [.ref o.x,.str n,.str wh,.ref pa] H Q E:=by
 obtain ⟨r,err,ra⟩:=v.rep.road er
 have vn:=v.rep.noW en
 have lens:=v.lens nm
 refine ⟨o.x,o.dr,o.dw,o.dd,pa,o.R,o.W,_,n,wh,t,b,rfl,v.h.hs,by lia,by lia,by rw [Wj];lia,ln,fp,(λz=>by rw [nn] at z;cases z),(λ_ z=>by rw [vn] at z;cases z),λ_ _=>⟨(λz=>by rw [err] at z;cases z),λu eu=>?_⟩⟩
 rw [err] at eu
 cases eu
 refine ⟨r,hs,rfl,ra,hp.1,(λz=>absurd z (by lia)),λ_=>⟨sm,(λz=>absurd z (by have:=hp.2.2;lia)),λ_=>⟨(λz=>absurd hp.2.1.2.2.2 z),λ_ H' p t' wd=>?_⟩⟩⟩
 have rg:=hp.rng
 obtain ⟨o',nx,v',kb⟩:=v.walk (w:=⟨wh,wc t b,[([.inl (wc t b).1,.inl (wc t b).2],.int 1)]⟩) wd (TmOk.one rg.1 rg.2.1 rg.2.2.1 rg.2.2.2) er hp
 exact k H' o' nx v' kb
theorem VH.leaves {C CR CW CN:Aj}{H:Hp}{o:Ho}{a:AH}{as:List AH}{n:Str}{w:Wk}{Q:VK}{E:XK}(v:VH C CR CW H o (a::as)){NM:List Str}(nm:Nam NM a)(lN:NM.length≤100)(lD:o.ds.length≤10000)(en:a.ws n=some w)
  (k:∀H' o',Nxt H o o'→VH C CR CW H' o' (a.delW n::a::as)→Kb [o.dr,o.dw,o.dd] H H'→Q .non H'):Qp C CN [.ref o.x,.str n] H Q E:=by
 obtain ⟨y,p,t,ey,wk⟩:=v.rep.wk en
 have lens:=v.lens nm
 refine ⟨o.x,o.dr,o.dw,o.dd,o.R,o.W,_,n,rfl,v.h.hs,by lia,by lia,by rw [Wj];lia,(λz=>by rw [ey] at z;cases z),λ_ H' gd=>?_⟩
 obtain ⟨o',nx,v',kb⟩:=v.leave en gd
 exact k H' o' nx v' kb
theorem Nam.putW {NM:List Str}{a:AH}(h:Nam NM a){n:Str}(hn:n∈NM)(w:Wk):Nam NM (a.putW n w):=⟨h.r,λm e=>by
 have e:(if m=n then some w else a.ws m).isSome=true:=e
 by_cases z:m=n
 ·rw [z];exact hn
 ·rw [ag z] at e
  exact h.w m e⟩
theorem Nam.delW {NM:List Str}{a:AH}(h:Nam NM a)(n:Str):Nam NM (a.delW n):=⟨h.r,λm e=>by
 have e:(if m=n then none else a.ws m).isSome=true:=e
 by_cases z:m=n
 ·rw [ak z] at e;cases e
 ·rw [ag z] at e
  exact h.w m e⟩
theorem uu {a:AH}{n:Str}{w:Wk}:(a.putW n w).ws n=some w:=ak rfl
theorem yf {a:AH}{n m:Str}{w:Wk}(h:m≠n):(a.putW n w).ws m=a.ws m:=ag h
def qxh (c:Key×V):Str:=match c.1 with | .inr n=>n | .inl _ => ""
theorem wwt {W:List (Key×V)}(nd:(W.map (·.1)).Nodup)(h:RefsF (wt W)):W.map (·.1)=(W.map qxh).map Sum.inr∧(W.map qxh).Nodup:=by
 have e:W.map (·.1)=(W.map qxh).map Sum.inr:=by
  rw [bS]
  refine bO λc hc=>?_
  obtain ⟨n,_,e,_⟩:=h _ _ (jy nd hc)
  show c.1=Sum.inr (qxh c)
  unfold qxh
  rw [e]
 refine ⟨e,?_⟩
 rw [e] at nd
 exact (bw.mp nd).imp λ{x y} hxy z=>hxy (by rw [z])
noncomputable def AH.tog (a:AH) (whose:Str) (hs:List Int) (m:Nat) (tv:Str→List (List Key×V)):AH:={ a with ws:=λn=>match a.ws n with|none=>none|some w=>if w.wh=whose then some ⟨whose,itP hs w.pt m,tv n⟩ else some w }
theorem VH.togs {C CR CW CN CC:Aj}{H:Hp}{o:Ho}{a:AH}{as:List AH}{whose:Str}{hs:List Int}{m:Int}{Q:VK}{E:XK}(v:VH C CR CW H o (a::as)){NM:List Str}(nm:Nam NM a)(lN:NM.length<60)(lD:o.ds.length≤10000)(er:a.rs whose=some hs)(wi:Within m 0 (some 1000000000000000000000000000000000000000000000000000000000000))
  (k:∀l H' o' tv,Nxt H o o'→VH C CR CW H' o' (a.tog whose hs m.toNat tv::a::as)→(∀n w,a.ws n=some w→w.wh=whose→TmOk (tv n)∧Zf hs w.pt m.toNat w.tv (tv n))→Kb [o.dr,o.dw,o.dd] H H'→H l=none→(∃(ms:List Str) (ys:List V),ms.Nodup∧(∀n,n∈ms↔∃w,a.ws n=some w∧w.wh=whose)∧ms.Pairwise (λx y=>¬ y.cps.toList<x.cps.toList)∧H' l=some (.lst ys)∧ys.length=ms.length∧∀(j:Nat) n,ms[j]?=some n→∃q p w,a.ws n=some w∧ys[j]?=some (.ref q)∧H' q=some (.tup [.str n,.ref p])∧H' p=some (.tup [.int (itP hs w.pt m.toNat).1,.int (itP hs w.pt m.toNat).2]))→Q (.ref l) H'):quv C CR CW CN CC [.ref o.x,.str whose,.int m] H Q E:=by
 obtain ⟨r,err,ra⟩:=v.rep.road er
 have lens:=v.lens nm
 refine ⟨o.x,o.dr,o.dw,o.dd,o.R,o.W,_,whose,m,rfl,v.h.hs,by lia,by rw [Wj];lia,(λz=>by rw [err] at z;cases z),λu eu=>?_⟩
 rw [err] at eu
 cases eu
 refine ⟨r,hs,rfl,ra,(λz=>absurd wi z),λ_=>?_⟩
 obtain ⟨ek,ndk⟩:=wwt v.h.nW v.h.fW
 have inW:∀n,n∈o.W.map qxh↔∃w,a.ws n=some w:=λn=>by
  have:n∈o.W.map qxh↔(Sum.inr n:Key)∈o.W.map (·.1):=by
   rw [ek]
   exact ⟨λh=>aw.mpr ⟨n,h,rfl⟩,λh=>by
    obtain ⟨n',h',e⟩:=aw.mp h
    have e:n'=n:=by injection e
    rw [←e];exact h'⟩
  rw [this]
  constructor
  ·intro h
   obtain ⟨c,hc,e⟩:=aw.mp h
   have:=jy v.h.nW hc
   rw [e] at this
   cases e2:a.ws n with
   |none=>rw [v.rep.noW e2] at this;cases this
   |some w=>exact ⟨w,rfl⟩
  ·rintro ⟨w,e⟩
   obtain ⟨y,p,t,ey,_⟩:=v.rep.wk e
   exact aw.mpr ⟨_,qys ey,rfl⟩
 refine ⟨o.W.map qxh,λn=>match a.ws n with | some w=>w.wh | none => "",λn=>match a.ws n with | some w=>w.pt | none=>(0,0),λn=>match a.ws n with | some w=>w.tv | none=>[],⟨ek,by lia,ndk,λn hn=>?_⟩,λn hn hw=>?_,λH' l cs ms ys pm srt g ec hG nl fl ly hy=>?_⟩
 ·obtain ⟨w,e⟩:=(inW n).mp hn
  obtain ⟨y,p,t,ey,wk⟩:=v.rep.wk e
  simp only [e]
  exact ⟨(v.rep.ok.wo n w e).1,y,p,t,ey,wk⟩
 ·obtain ⟨w,e⟩:=(inW n).mp hn
  simp only [e] at hw ⊢
  obtain ⟨_,hs',er',hp⟩:=v.rep.ok.wo n w e
  rw [hw,er] at er'
  cases er'
  exact hp
 ·have hms:∀n,n∈(ms.filter λs=>decide (V.str (match a.ws s with | some w=>w.wh | none => "")=V.str whose))↔∃w,a.ws n=some w∧w.wh=whose:=λn=>by
   rw [bY,pm.mem_iff,inW]
   constructor
   ·rintro ⟨⟨w,e⟩,h⟩
    simp only [e] at h
    have h:=dA h
    exact ⟨w,e,by injection h⟩
   ·rintro ⟨w,e,h⟩
    refine ⟨⟨w,e⟩,?_⟩
    simp [e,h]
  have ndm:ms.Nodup:=pm.nodup_iff.mpr ndk
  have ndf:=ndm.filter λs=>decide (V.str (match a.ws s with | some w=>w.wh | none => "")=V.str whose)
  have srf:=srt.filter λs=>decide (V.str (match a.ws s with | some w=>w.wh | none => "")=V.str whose)
  generalize (ms.filter λs=>decide (V.str (match a.ws s with | some w=>w.wh | none => "")=V.str whose))=mf at ec hms ndf srf
  have ndc:(cs.map (·.1)).Nodup:=by
   rw [ec]
   exact bw.mpr (ndf.imp λ{x y} h z=>h (by injection z))
  have lcs:cs.length=mf.length:=by
   have:=bJ List.length ec
   rwa [ac,ac] at this
  have lmf:mf.length≤o.W.length:=by
   have:=qzt mf (o.W.map qxh) ndf λn hn=>(inW n).mpr (by obtain ⟨w,e,_⟩:=(hms n).mp hn;exact ⟨w,e⟩)
   rwa [ac] at this
  have gone:∀n w,a.ws n=some w→w.wh=whose→∃y p t tv,wt cs (.inr n)=some (.ref y)∧WkAt CW H' y whose p (itP hs w.pt m.toNat) t tv∧TmOk tv∧Zf hs w.pt m.toNat w.tv tv:=λn w e h=>by
   have hk:(Sum.inr n:Key)∈cs.map (·.1):=by
    rw [ec]
    exact aw.mpr ⟨n,(hms n).mpr ⟨w,e,h⟩,rfl⟩
   obtain ⟨c,hc,ekc⟩:=aw.mp hk
   have ev:=jy ndc hc
   obtain ⟨s,_,_,es,y,p,t,tv,ey,wk,tm,hit⟩:=hG c hc
   have:s=n:=by rw [es] at ekc;injection ekc
   subst this
   simp only [e] at wk hit
   rw [es,ey] at ev
   exact ⟨y,p,t,tv,ev,wk,tm,hit⟩
  have nogo:∀n,(∀w,a.ws n=some w→w.wh≠whose)→wt cs (.inr n)=none:=λn h=>Y7 λz=>by
   rw [ec] at z
   obtain ⟨n',hn',e⟩:=aw.mp z
   have e:n'=n:=by injection e
   rw [e] at hn'
   obtain ⟨w,ew,hw⟩:=(hms n).mp hn'
   exact h w ew hw
  obtain ⟨tv,htv⟩:∃tv:Str→List (List Key×V),∀n w,a.ws n=some w→w.wh=whose→∃y p t,wt cs (.inr n)=some (.ref y)∧WkAt CW H' y whose p (itP hs w.pt m.toNat) t (tv n)∧TmOk (tv n)∧Zf hs w.pt m.toNat w.tv (tv n):=by
   refine ⟨λn=>Classical.epsilon λtv=>∃w y p t,a.ws n=some w∧wt cs (.inr n)=some (.ref y)∧WkAt CW H' y whose p (itP hs w.pt m.toNat) t tv∧TmOk tv∧Zf hs w.pt m.toNat w.tv tv,λn w e h=>?_⟩
   have ex:∃tv,∃w y p t,a.ws n=some w∧wt cs (.inr n)=some (.ref y)∧WkAt CW H' y whose p (itP hs w.pt m.toNat) t tv∧TmOk tv∧Zf hs w.pt m.toNat w.tv tv:=by
    obtain ⟨y,p,t,tv,r⟩:=gone n w e h
    exact ⟨tv,w,y,p,t,e,r⟩
   obtain ⟨w',y,p,t,e',r⟩:=Classical.epsilon_spec ex
   rw [e] at e'
   cases e'
   exact ⟨y,p,t,r⟩
  have rc:yk cs:=λc hc=>by
   obtain ⟨s,_,_,es,y,_,_,_,ey,_⟩:=hG c hc
   exact ⟨s,es,.inr ⟨y,ey⟩⟩
  obtain ⟨o',nx,v',kb⟩:=v.did (a':=a.tog whose hs m.toNat tv) g aU ndc (aB _) (by lia) Q6 rc qx1 (λc hc hn=>by
   obtain ⟨s,_,_,es,y,_,_,_,ey,_⟩:=hG c hc
   rw [ey] at hn;cases hn) λkb=>by
   have rp:=v.rep.dl v.h.dl kb
   refine ⟨rp.r,λn=>?_,rp.ok.lo,λn w' e'=>?_⟩
   ·show WRep CW H' (ovr (wt o.W) cs (.inr n)) (match a.ws n with|none=>none|some w=>if w.wh=whose then some ⟨whose,itP hs w.pt m.toNat,tv n⟩ else some w)
    have rw_:=rp.w n
    cases e:a.ws n with
    |none =>
     rw [e] at rw_
     unfold ovr
     rw [nogo n (λw ew=>by rw [e] at ew;cases ew)]
     exact rw_
    |some w =>
     rw [e] at rw_
     show WRep CW H' (ovr (wt o.W) cs (.inr n)) (if w.wh=whose then some ⟨whose,itP hs w.pt m.toNat,tv n⟩ else some w)
     by_cases h:w.wh=whose
     ·rw [ak h]
      obtain ⟨y,p,t,ev,wk,_⟩:=htv n w e h
      unfold ovr
      rw [ev]
      exact ⟨y,p,t,rfl,wk⟩
     ·rw [ag h]
      unfold ovr
      rw [nogo n (λw' ew=>by rw [e] at ew;cases ew;exact h)]
      exact rw_
   ·have e':(match a.ws n with|none=>none|some w=>if w.wh=whose then some ⟨whose,itP hs w.pt m.toNat,tv n⟩ else some w)=some w':=e'
    cases e:a.ws n with
    |none=>rw [e] at e';cases e'
    |some w =>
     rw [e] at e'
     have e':(if w.wh=whose then some ⟨whose,itP hs w.pt m.toNat,tv n⟩ else some w)=some w':=e'
     by_cases h:w.wh=whose
     ·rw [ak h] at e'
      cases e'
      obtain ⟨_,_,_,_,_,tm,_⟩:=htv n w e h
      obtain ⟨_,hs',er',hp⟩:=rp.ok.wo n w e
      rw [h,er] at er'
      cases er'
      exact ⟨tm,hs,er,hp.it _⟩
     ·rw [ag h] at e'
      have e':w=w':=by injection e'
      rw [←e']
      exact rp.ok.wo n w e
  refine k l H' o' tv nx v' (λn w e h=>by obtain ⟨_,_,_,_,_,r⟩:=htv n w e h;exact r) kb nl ⟨mf,ys,ndf,hms,srf,fl,by lia,λj n en=>?_⟩
  have hj:j<mf.length:=(aM.mp en).1
  have ej:ys[j]?=some (ys[j]'(by lia)):=ar (by lia)
  obtain ⟨kv,q,y,p,pt,t,tv',ekv,eq,fq,ey,wk⟩:=hy j _ ej
  have hkv:=aN ekv
  obtain ⟨s,_,hws,es,y2,p2,t2,tv2,ey2,wk2,_⟩:=hG kv hkv
  have:s=n:=by
   have e1:(cs.map (·.1))[j]?=some kv.1:=by rw [aH,ekv];rfl
   rw [ec,aH,en] at e1
   have e1:(Sum.inr n:Key)=kv.1:=by injection e1
   rw [es] at e1
   injection e1 with e1
   exact e1.symm
  subst this
  obtain ⟨w,ew,hw⟩:=(hms s).mp (aN en)
  simp only [ew] at wk2
  rw [ey] at ey2
  cases ey2
  have ep:p2=p:=by
   obtain ⟨dx,ob⟩:=wk.ob
   obtain ⟨dx2,ob2⟩:=wk2.ob
   rw [ob] at ob2
   injection ob2 with ob2
   injection ob2 with _ _ ob2
   unfold wF at ob2
   simp at ob2
   exact ob2.1.symm
  subst ep
  rw [es] at fq
  exact ⟨q,p2,w,ew,by rw [ej,eq],fq,wk2.pt⟩
def gsT (hs:List Int)(b:Int):Int→List Int→Int
 |t,[]=>t
 |t,m::gs=>gsT hs b (trT hs t b m.toNat) gs
def gsG (hs:List Int)(b:Int):Int→List Int→j9
 |_,[]=>[]
 |t,m::gs=>(t,hs,m)::gsG hs b (trT hs t b m.toNat) gs
theorem qqk (hs:List Int)(b m:Int):∀(gs:List Int) (t:Int),gsT hs b t (gs++[m])=trT hs (gsT hs b t gs) b m.toNat
 |[],_=>rfl
 |_::gs,_=>qqk hs b m gs _
theorem Yj (hs:List Int)(b m:Int):∀(gs:List Int) (t:Int),gsG hs b t (gs++[m])=gsG hs b t gs++[(gsT hs b t gs,hs,m)]
 |[],_=>rfl
 |n::gs,t=>by
  show (t,hs,n)::gsG hs b _ (gs++[m])=(t,hs,n)::(gsG hs b _ gs++_)
  rw [Yj hs b m gs]
  rfl
theorem qzn (hs:List Int)(b:Int):∀(gs:List Int) (t:Int),(gsG hs b t gs).length=gs.length
 |[],_=>rfl
 |_::gs,_=>by
  show (gsG hs b _ gs).length+1=gs.length+1
  rw [qzn hs b gs]
theorem qyk {hs:List Int}{b:Int}(ok:x4 hs)(b1:1≤b):∀(gs:List Int) (t:Int),zf hs t b→zf hs (gsT hs b t gs) b
 |[],_,h=>h
 |_::gs,_,h=>qyk ok b1 gs _ (uz ok b1 h _)
theorem wvt {hs:List Int}{b:Int}{gs:List Int}{i:Nat}{m:Int}(e:gs[i]?=some m)(t:Int):gsT hs b t (gs.take (i+1))=trT hs (gsT hs b t (gs.take i)) b m.toNat∧gsG hs b t (gs.take (i+1))=gsG hs b t (gs.take i)++[(gsT hs b t (gs.take i),hs,m)]:=by
 rw [cG,e,Option.toList_some]
 exact ⟨qqk ..,Yj ..⟩
structure WkIs (hs:List Int)(T0 b:Int)(gs:List Int)(w:Wk):Prop where
 wh:w.wh = "r"
 pt:w.pt=wc (gsT hs b T0 gs) b
 cn:CntIs w.tv (gsG hs b T0 gs) T0 b
theorem WkIs.go {hs:List Int}{T0 b:Int}{gs:List Int}{w:Wk}(b1:1≤b)(h:WkIs hs T0 b gs w){m:Int}{tv':List (List Key×V)}(hit:Zf hs w.pt m.toNat w.tv tv'):WkIs hs T0 b (gs++[m]) ⟨"r",itP hs w.pt m.toNat,tv'⟩:=by
 have e:=h.pt
 refine ⟨rfl,?_,?_⟩
 ·show itP hs w.pt m.toNat=_
  rw [e,qqk,j4 b1]
 ·show CntIs tv' _ T0 b
  rw [Yj]
  rw [e] at hit
  exact h.cn.go b1 hit
theorem WkIs.new {hs:List Int}{t b:Int}(b1:1≤b)(h:HPt hs (wc t b)):WkIs hs (wc t b).1 (wc t b).2 [0] ⟨"r",wc t b,[([.inl (wc t b).1,.inl (wc t b).2],.int 1)]⟩:=by
 have l1:=Y8 (t:=t) b1
 have ll:wc (wc t b).1 (wc t b).2=wc t b:=qxy l1 (qxt b1)
 refine ⟨rfl,?_,?_⟩
 ·show wc t b=wc (trT hs (wc t b).1 (wc t b).2 0) (wc t b).2
  exact ll.symm
 ·have:=CntIs.new (hs:=hs) l1 (t:=(wc t b).1) (by rw [ll];exact h)
  rw [ll] at this
  exact this
def qx6 (H:Hp)(a:Aj)(pt:Int×Int):Prop:=H a=some (.tup [.int pt.1,.int pt.2])
theorem sz3 {x y z:V}:[x,y,z].length≤sizeLine:=by show 3≤sizeLine;decide
def SgE (H:Hp)(b:Int)(v:V)(e:Int×List Int×Int):Prop:=∃tp l n u,v=.ref tp∧H tp=some (.tup [.ref l,.int (u:Nat),.int e.2.2])∧H l=some (.lst (((List.range n).map (trT e.2.1 e.1 b)).map V.int))∧Dist (trT e.2.1 e.1 b) n∧u<n∧trT e.2.1 e.1 b n=trT e.2.1 e.1 b u∧n≤300000∧0≤e.2.2
def SgAt (H:Hp)(ls:Aj)(b:Int)(S:j9):Prop:=∃vs,H ls=some (.lst vs)∧vs.length=S.length∧∀(i:Nat) (v:V) (e:Int×List Int×Int),vs[i]?=some v→S[i]?=some e→SgE H b v e
theorem SgE.same {H H':Hp}{b:Int}{v:V}{e:Int×List Int×Int}(h:SgE H b v e)(s:Same H H'):SgE H' b v e:=by
 obtain ⟨tp,l,n,u,a1,a2,a3,a4⟩:=h
 exact ⟨tp,l,n,u,a1,s _ _ a2,s _ _ a3,a4⟩
theorem SgAt.same {H H':Hp}{ls:Aj}{b:Int}{S:j9}(h:SgAt H ls b S)(s:Same H H'):SgAt H' ls b S:=by
 obtain ⟨vs,a1,a2,a3⟩:=h
 exact ⟨vs,s _ _ a1,a2,λi v e ev ee=>(a3 i v e ev ee).same s⟩
def Yw (K:Aa):Sp:=λvs H Q _=>∃(p a gl:Aj) (hs:List Int) (t b:Int) (gs:List Int),vs=[.ref p,.ref a,.ref gl]∧SqL K H p (hs.map V.int)∧x4 hs∧qx6 H a (t,b)∧1≤b∧b≤40∧zf hs t b∧H gl=some (.lst (gs.map V.int))∧(∀m∈gs,0≤m)∧gs.length≤100 ∧
 ∀q sl qa H',Same H H'→H' q=some (.tup [.ref sl,.ref qa])→SgAt H' sl b (gsG hs b t gs)→qx6 H' qa (gsT hs b t gs,b)→Q (.ref q) H'
set_option maxHeartbeats 0 in
theorem wzs {f:Aj}{fd:Ad}(F:Fun K "_law_story" "_law_story" s__law_story f fd)(T:Txt K mg qf wz qk q9 qg wv wu wq wm wy qd qz qm qw qq)(c__law_trace:Cal P w K mg base "_law_trace" 2 (Yk K))(c__law_after:Cal P w K mg base "_law_after" 1 (Z8 K)) :
  FnOk P w K mg base (CXE P w) 3 f fd ["_law_row","_law_top","_law_goings"] (Yw K):=by
 have sc:=qwv
 refine F.okX sc (λvs H Q E h=>by obtain ⟨p,a,gl,hs,t,b,gs,rfl,_⟩:=h;rfl) (λcdv A outer s H vs Q E hr h=>?_)
 obtain ⟨p,a,gl,hs,t,b,gs,rfl,hp,ok,ha,b1,b2,on,hgl,g0,lg,k⟩:=h
 have big:(1000000:Nat)<sizeLine:=by decide
 refine ⟨_,(qy (xz (i:=3) sc.nd rfl (by walk_at "loc") (k6 qu))
   (qy (yw aY rfl (Wb (pv 2)) (xj (i:=4) sc.nd rfl (by walk_at "loc")) (qy (j6 (wp c__law_trace (hr.mono (by decide)) rfl qh (wx (pv 0) (zx (xy zn (pv 1) qr (λ_ _=>rfl)) (zx (xy zn (pv 1) qr (λ_ _=>rfl)) qu)))) (k7 rfl (xg (xj (i:=5) sc.nd rfl (by walk_at "loc")) (xg (xj (i:=6) sc.nd rfl (by walk_at "loc")) vb))))
   (qy (zw (qy5 bN ck cm jn (pv 3) (qwm (vg (wx (pv 5) (wx (pv 6) (wx (pv 4) qu)))) qu)))
   (wj (xz (i:=1) sc.nd rfl (by walk_at "loc") (vg (js (wp c__law_after (hr.mono (by decide)) rfl qh (wx (pv 5) (wx (pv 6) (wx (pv 4) qu)))) (zx (xy zn (pv 1) qr (λ_ _=>rfl)) qu))))))))
   (wj (w8 (vg (wx (pv 3) (wx (pv 1) qu))))))),?_⟩
 refine ⟨sz0,λsl nsl=>?_⟩
 have s1:=Same.upd (H:=H) (o:=.lst []) nsl
 have f1:upd H sl (.lst []) sl=some (.lst []):=q8
 generalize upd H sl (.lst [])=H1 at s1 f1
 have lgl:(gs.map V.int).length=gs.length:=ac _
 refine exI rfl ⟨gl,rfl,⟨_,SqL.of (s1 _ _ hgl)⟩,qqw (K:=K) (a:=gl) (xs:=gs.map V.int) (λi σ H2=>Same H H2∧∃(qa:Aj) (z4 z5 z6:Option V),σ=[some (.ref p),some (.ref qa),some (.ref gl),some (.ref sl),z4,z5,z6]∧SgAt H2 sl b (gsG hs b t (gs.take i))∧qx6 H2 qa (gsT hs b t (gs.take i),b)) ⟨s1,a,_,_,_,rfl,⟨[],f1,rfl,λi v e ev=>nomatch ev⟩,s1 _ _ ha⟩ (λi σ H2 _ h=>SqL.of (h.1 _ _ hgl)) ?_ ?_⟩
 ·rintro i v σ H2 ev ⟨s2,qa,z4,z5,z6,rfl,hsg,hqa⟩
  rw [aH] at ev
  obtain ⟨m,em,rfl⟩:=cx.mp ev
  have m0:=g0 m (aN em)
  have onI:=qyk ok b1 (gs.take i) t on
  obtain ⟨eT,eG⟩:=wvt (hs:=hs) (b:=b) em t
  rw [eT,eG]
  obtain ⟨vs,hsl,lv,hen⟩:=hsg
  generalize gsT hs b t (gs.take i)=ti at hqa onI
  refine ⟨_,rfl,_,rfl,_,_,_,_,rfl,rfl,SqT.of hqa,rfl,_,rfl,_,_,_,_,rfl,rfl,SqT.of hqa,rfl,p,hs,ti,b,rfl,s2.sql hp,ok,b1,by lia,onI,λn u q l H3 d1 u1 e1 n1 s3 nl fq fl=>?_⟩
  refine ⟨q,exI rfl ⟨SqT.of fq,rfl,_,_,rfl,_,_,rfl,rfl,?_⟩⟩
  refine exI rfl ⟨.inl ⟨rfl,_,SqL.of (s3 _ _ hsl)⟩,exI rfl (exI rfl (exI rfl ⟨sz3,λtp ntp=>?_⟩))⟩
  have s4:=Same.upd (H:=H3) (o:=.tup [.ref l,.int (u:Nat),.int m]) ntp
  have f4:upd H3 tp (.tup [.ref l,.int (u:Nat),.int m]) tp=some (.tup [.ref l,.int (u:Nat),.int m]):=q8
  generalize upd H3 tp (.tup [.ref l,.int (u:Nat),.int m])=H4 at s4 f4
  have hsl4:=s4 _ _ (s3 _ _ hsl)
  have lvi:vs.length≤100:=by rw [lv,qzn,bG];lia
  refine ⟨sl,w6 rfl rfl ⟨hsl4,(by lia),?_⟩⟩
  have kb5:∀c o,c≠sl→H4 c=some o→upd H4 sl (.lst (vs++[.ref tp])) c=some o:=λc o n e=>by rw [wg n];exact e
  have f5:upd H4 sl (.lst (vs++[.ref tp])) sl=some (.lst (vs++[.ref tp])):=q8
  generalize upd H4 sl (.lst (vs++[.ref tp]))=H5 at kb5 f5
  have s34:=s3.trans s4
  have nsl':∀ {c:Aj} {o:HO},H c=some o→c≠sl:=λe=>qj e nsl
  have s05:Same H H5:=λc o e=>kb5 _ _ (nsl' e) (s34 _ _ (s2 _ _ e))
  have nll:l≠sl:=λz=>by rw [z,hsl] at nl;cases nl
  have fl5:=kb5 _ _ nll (s4 _ _ fl)
  have ntup:∀ {c:Aj} {xs:List V},H4 c=some (.tup xs)→H5 c=some (.tup xs):=λ{c xs} e=>kb5 _ _ (λz=>by rw [z,hsl4] at e;cases e) e
  have hqa5:=ntup (s34 _ _ hqa)
  refine exI rfl (exI rfl (exI rfl ⟨l,trT hs ti b,n,u,m,rfl,fl5,u1,e1,tr_st,m0,?_⟩))
  refine exI rfl (exX rfl rfl (SqT.of hqa5) rfl ⟨sz2,λqn nqn=>?_⟩)
  have s6:=Same.upd (H:=H5) (o:=.tup [.int (trT hs ti b m.toNat),.int b]) nqn
  refine ⟨s05.trans s6,qn,_,_,_,rfl,SgAt.same ⟨_,f5,by rw [aG,aG,lv];rfl,λj v e ev ee=>?_⟩ s6,q8⟩
  by_cases hj:j<vs.length
  ·rw [bu hj] at ev
   rw [bu (by lia)] at ee
   obtain ⟨tp',l',n',u',c1,c2,c3,c4⟩:=hen j v e ev ee
   have c3':=s34 _ _ c3
   refine ⟨tp',l',n',u',c1,ntup (s34 _ _ c2),kb5 _ _ (λz=>?_) c3',c4⟩
   rw [z] at c3
   rw [hsl] at c3
   have c3:vs=((List.range n').map (trT e.2.1 e.1 b)).map V.int:=by injection c3 with c3;injection c3
   have:v∈vs:=aN ev
   rw [c3] at this
   obtain ⟨x,_,ex⟩:=aw.mp this
   rw [c1] at ex
   cases ex
  ·have hj2:j=vs.length:=by
    have:=(aM.mp ev).1
    rw [aG] at this
    have:j<vs.length+1:=this
    lia
   subst hj2
   rw [bj (af _),Nat.sub_self] at ev
   rw [lv,bj (af _),Nat.sub_self] at ee
   cases ev
   cases ee
   exact ⟨tp,l,n,u,rfl,ntup f4,fl5,d1,u1,e1,n1,m0⟩
 ·rintro σ H2 ⟨s2,qa,z4,z5,z6,rfl,hsg,hqa⟩
  rw [lgl,cO] at hsg hqa
  refine exI rfl (exI rfl ⟨sz2,λq nq=>?_⟩)
  have s3:=Same.upd (H:=H2) (o:=.tup [.ref sl,.ref qa]) nq
  exact k q sl qa _ (s2.trans s3) q8 (hsg.same s3) (s3 _ _ hqa)
end
section
variable {P:Ac}{w:Ah}{K:Aa}{mg:Str→Option Ag}{base:Heap}{qf:Aj}{wz:Aj}{qk:Aj}{q9:Aj}{qg:Aj}{wv:Aj}{wu:Aj}{wq:Aj}{wm:Aj}{wy:Aj}{qd:Aj}{qz:Aj}{qm:Aj}{qw:Aj}{qq:Aj}
def qjc (K:Aa):Sp:=λvs H Q _=>∃(p a gl qa:Aj) (hs:List Int) (t0 b0 t' b':Int) (gs:List Int),vs=[.ref p,.ref a,.ref gl,.ref qa]∧SqL K H p (hs.map V.int)∧x4 hs∧qx6 H a (t0,b0)∧1≤b0∧b0≤1000∧zf hs t0 b0∧(wc t0 b0).2≤40∧H gl=some (.lst (gs.map V.int))∧(∀m∈gs,0≤m)∧gs.length≤100∧qx6 H qa (t',b')∧1≤b'∧b'≤1000∧-1000000≤t'∧t'≤1000000 ∧
 ∀H',Same H H'→Q (.int (dueC (gsG hs (wc t0 b0).2 (wc t0 b0).1 gs) (wc t0 b0).1 (wc t0 b0).2 t' b')) H'
set_option maxHeartbeats 0 in
theorem wvj {f:Aj}{fd:Ad}(F:Fun K "_law_due" "_law_due" s__law_due f fd)(T:Txt K mg qf wz qk q9 qg wv wu wq wm wy qd qz qm qw qq)(c__law_low:Cal P w K mg base "_law_low" 2 qyd)(c__law_story:Cal P w K mg base "_law_story" 3 (Yw K))(c__law_count:Cal P w K mg base "_law_count" 1 Jm) :
  FnOk P w K mg base (CXE P w) 4 f fd ["_law_row","_law_point","_law_goings","_law_asked"] (qjc K):=by
 have sc:=qvc
 refine F.okX sc (λvs H Q E h=>by obtain ⟨p,a,gl,qa,hs,t0,b0,t',b',gs,rfl,_⟩:=h;rfl) (λcdv A outer s H vs Q E hr h=>?_)
 obtain ⟨p,a,gl,qa,hs,t0,b0,t',b',gs,rfl,hp,ok,ha,c1,c2,on,b40,hgl,g0,lg,hqa,b1',b2',t1,t2,k⟩:=h
 refine ⟨_,(qy (j6 (wp c__law_low (hr.mono (by decide)) rfl qh (zx (xy zn (pv 1) qr (λ_ _=>rfl)) (zx (xy zn (pv 1) qr (λ_ _=>rfl)) qu))) (k7 rfl (xg (xj (i:=4) sc.nd rfl (by walk_at "loc")) (xg (xj (i:=5) sc.nd rfl (by walk_at "loc")) vb))))
   (qy (zq (xq op_ne (w4 vc (w4 x9 (xy zn (pv 3) qr (λ_ _=>rfl)) (pv 5)) (xy zn (pv 3) qr (λ_ _=>rfl))) qr (xk _)) (wj (w8 qr)) w9)
   (qy (xz (i:=6) sc.nd rfl (by walk_at "loc") (w4 vm (w4 x9 (xy zn (pv 3) qr (λ_ _=>rfl)) (pv 5)) (xy zn (pv 3) qr (λ_ _=>rfl))))
   (qy (j6 (wp c__law_story (hr.mono (by decide)) rfl qh (wx (pv 0) (qwm (vg (wx (pv 4) (wx (pv 5) qu))) (wx (pv 2) qu)))) (k7 rfl (xg (xj (i:=7) sc.nd rfl (by walk_at "loc")) (xg (xj (i:=8) sc.nd rfl (by walk_at "loc")) vb))))
   (qy (xz (i:=9) sc.nd rfl (by walk_at "loc") (kf wqp rfl T.int_ PyProof.Rows.boot_int (xf (Yz k9 (pv 6) (pv 4) (xk _)) qu)))
   (qy (yw aY rfl (Wb (pv 7)) (k7 rfl (xg (xj (i:=10) sc.nd rfl (by walk_at "loc")) (xg (xj (i:=11) sc.nd rfl (by walk_at "loc")) (xg (xj (i:=12) sc.nd rfl (by walk_at "loc")) vb)))) (wj (qyw (i:=9) sc.nd rfl (Or.inl rfl) (wp c__law_count (hr.mono (by decide)) rfl qh (wx (pv 10) (wx (pv 11) (wx (pv 12) (wx (pv 6) qu))))) qjj)))
   (wj (w8 (pv 9))))))))),?_⟩
 refine exI rfl (exX rfl rfl (SqT.of ha) rfl (exI rfl (exX rfl rfl (SqT.of ha) rfl ⟨t0,b0,rfl,c1,(Sm.small (n:=65) (by lia) (by lia) (by decide)).mono (by decide),λq nq=>?_⟩)))
 have s1:=Same.upd (H:=H) (o:=.tup (ptV (wc t0 b0))) nq
 have fq:upd H q (.tup (ptV (wc t0 b0))) q=some (.tup [.int (wc t0 b0).1,.int (wc t0 b0).2]):=q8
 generalize upd H q (.tup (ptV (wc t0 b0)))=H1 at s1 fq
 have b1:=Y8 (t:=t0) c1
 have onl:=qzk c1 on
 generalize (wc t0 b0).1=T0 at fq onl k
 generalize (wc t0 b0).2=b at fq onl k b1 b40
 refine ⟨q,exI rfl ⟨SqT.of fq,rfl,_,_,rfl,_,_,rfl,rfl,?_⟩⟩
 have hq1:=s1 _ _ hqa
 refine exI rfl (exX rfl rfl (SqT.of hq1) rfl (exI rfl (w6 rfl rfl ⟨IntMulOk.of_right (intBits_le_64 (by lia) (by lia)),exI rfl (exX rfl rfl (SqT.of hq1) rfl (w6 rfl rfl ⟨(by show 0<b';lia),rfl,_,rfl,?_⟩))⟩)))
 refine wzw (λz=>?_) (λz=>?_)
 ·have:=k H1 s1
  unfold dueC at this
  rw [ag z] at this
  exact this
 have z:t'*b%b'=0:=z
 refine exI rfl (exX rfl rfl (SqT.of hq1) rfl (exI rfl (w6 rfl rfl ⟨IntMulOk.of_right (intBits_le_64 (by lia) (by lia)),exI rfl (exX rfl rfl (SqT.of hq1) rfl (w6 rfl rfl ⟨⟨by show 0<b';lia,(Sm.small (n:=65) (by show -(2 ^ 64)≤b';lia) (by show b'≤2 ^ 64;lia) (by decide)).mono (by decide)⟩,?_⟩))⟩)))
 refine exI rfl (exI rfl (exI rfl ⟨sz2,λqt nqt=>?_⟩))
 have s2':=Same.upd (H:=H1) (o:=.tup [.int T0,.int b]) nqt
 have ft:upd H1 qt (.tup [.int T0,.int b]) qt=some (.tup [.int T0,.int b]):=q8
 generalize upd H1 qt (.tup [.int T0,.int b])=H2 at s2' ft
 have s2:=s1.trans s2'
 refine exI rfl ⟨p,qt,gl,hs,T0,b,gs,rfl,s2.sql hp,ok,ft,b1,b40,onl,s2 _ _ hgl,g0,lg,λq3 sl qa3 H3 s3' f3 sg hl=>?_⟩
 have s3:=s2.trans s3'
 refine ⟨q3,exI rfl ⟨SqT.of f3,rfl,_,_,rfl,_,_,rfl,rfl,?_⟩⟩
 refine exI rfl (exI rfl ⟨rfl,.inr ((exI rfl ?_))⟩)
 obtain ⟨TT,eT⟩:∃TT,t'*b/b'=TT:=⟨_,rfl⟩
 generalize eS:gsG hs b T0 gs=S at sg k
 have res:∀H',Same H H'→Q (.int ((if T0=TT then 1 else 0)+qqb S b TT)) H':=λH' s'=>by
  have:=k H' s'
  unfold dueC at this
  rw [ak z,eT] at this
  exact this
 have ef:(if decide (V.int TT=V.int T0)=true then (1:Int) else 0)=if T0=TT then 1 else 0:=by
  by_cases y:T0=TT
  ·subst y
   rw [ak (bD rfl),ak rfl]
  ·rw [ag (by rw [bp (λq=>y (by injection q with q;exact q.symm))];exact aA),ag y]
 obtain ⟨vs,hls,lv,hst⟩:=sg
 refine exI rfl ⟨sl,rfl,⟨_,SqL.of hls⟩,qqw (K:=K) (a:=sl) (xs:=vs) (λi σ H4=>H4=H3∧∃z10 z11 z12,σ=[some (.ref p),some (.ref a),some (.ref gl),some (.ref qa),some (.int T0),some (.int b),some (.int TT),some (.ref sl),some (.ref qa3),some (.int ((if T0=TT then 1 else 0)+qqb (S.take i) b TT)),z10,z11,z12]) ⟨rfl,none,none,none,by rw [show qqb (S.take 0) b TT=0 from rfl,Int.add_zero,←ef,←eT];rfl⟩ (λi σ H4 _ h=>by rw [h.1];exact SqL.of hls) ?_ ?_⟩
 ·rintro i v σ H4 ev ⟨rfl,z10,z11,z12,rfl⟩
  have hi:i<S.length:=by
   have:=(aM.mp ev).1
   lia
  have ee:=ar hi
  obtain ⟨tp,l,n,u,rfl,ft,fl,d1,u1,e1,n1,m0'⟩:=hst i v _ ev ee
  generalize S[i]=e at ee ft fl d1 e1 m0'
  refine ⟨tp,exI rfl ⟨SqT.of ft,rfl,_,_,rfl,_,_,rfl,_,_,rfl,rfl,?_⟩⟩
  obtain ⟨f,hf⟩:=qz5 d1 TT
  have en:EntC e.2.1 e.1 b e.2.2.toNat TT _:=⟨n,u,f,d1,u1,e1,hf,rfl⟩
  refine exI rfl (exI rfl (exI rfl (exI rfl (exI rfl ⟨l,trT e.2.1 e.1 b,n,u,f,e.2.2,exI rfl ⟨fl,u1,n1,m0',hf,?_⟩⟩))))
  rw [←en.eq]
  refine w6 rfl rfl ?_
  refine ⟨rfl,some (.ref l),some (.int u),some (.int e.2.2),?_⟩
  rw [qun ee,←Int.add_assoc]
  rfl
 ·rintro σ H4 ⟨rfl,z10,z11,z12,rfl⟩
  rw [lv,cO]
  exact exI rfl (res _ s3)
theorem wwu {tv:List (List Key×V)}(h:TmOk tv)(q:Int×Int):cntT tv q=.int (yh tv q):=by
 unfold cntT yh
 cases e:wt tv [.inl q.1,.inl q.2] with
 |none=>rfl
 |some v =>
  have:∃kv∈tv,kv.2=v:=by
   unfold wt at e
   obtain ⟨kv,e1,e2⟩:=cx.mp e
   exact ⟨kv,cP e1,e2⟩
  obtain ⟨kv,hk,rfl⟩:=this
  obtain ⟨a,b,c,rfl,_⟩:=h.2.2 kv hk
  rfl
structure GoAt (K:Aa)(H:Hp)(p a gl:Aj)(hs:List Int)(t0 b0:Int)(gs:List Int):Prop where
 row:H p=some (.lst (hs.map V.int))
 ok:x4 hs
 pt:qx6 H a (t0,b0)
 b1:1≤b0
 b2:b0≤1000
 on:zf hs t0 b0
 b40:(wc t0 b0).2≤40
 gl:H gl=some (.lst (gs.map V.int))
 g0:∀m∈gs,0≤m
 ne:gs≠[]
 lg:gs.length≤100
theorem GoAt.same {K:Aa}{H H':Hp}{p a gl:Aj}{hs:List Int}{t0 b0:Int}{gs:List Int}(h:GoAt K H p a gl hs t0 b0 gs)(s:Same H H'):GoAt K H' p a gl hs t0 b0 gs:=⟨s _ _ h.row,h.ok,s _ _ h.pt,h.b1,h.b2,h.on,h.b40,s _ _ h.gl,h.g0,h.ne,h.lg⟩
def ug (K:Aa)(C CR CW:Aj):Sp:=λvs H Q _=>∃(p a gl:Aj) (o:Ho) (n:Str) (hs:List Int) (t0 b0:Int) (gs:List Int) (ah:AH) (as:List AH) (w:Wk),vs=[.ref o.x,.str n,.ref p,.ref a,.ref gl]∧VH C CR CW H o (ah::as)∧ah.ws n=some w∧WkIs hs (wc t0 b0).1 (wc t0 b0).2 gs w∧GoAt K H p a gl hs t0 b0 gs∧∀H',Same H H'→Q (.bl true) H'
set_option maxHeartbeats 0 in
theorem wzb {f:Aj}{fd:Ad}(F:Fun K "_law_right" "_law_right" s__law_right f fd)(T:Txt K mg qf wz qk q9 qg wv wu wq wm wy qd qz qm qw qq)(c__law_low:Cal P w K mg base "_law_low" 2 qyd)(c__law_story:Cal P w K mg base "_law_story" 3 (Yw K))(c__law_after:Cal P w K mg base "_law_after" 1 (Z8 K))(c_stood:MCal P w K mg base qq "stood" 3 (qx5 qq qw qd qk))(c__law_whole:Cal P w K mg base "_law_whole" 1 qxb)(c__law_due:Cal P w K mg base "_law_due" 4 (qjc K)) :
  FnOk P w K mg base (CXE P w) 5 f fd ["_law_house","_law_name","_law_row","_law_point","_law_goings"] (ug K qq qm qw):=by
 have sc:=qq2
 refine F.okX sc (λvs H Q E h=>by obtain ⟨p,a,gl,o,n,hs,t0,b0,gs,ah,as,w,rfl,_⟩:=h;rfl) (λcdv A outer s H vs Q E hr h=>?_)
 obtain ⟨p,a,gl,o,n,hs,t0,b0,gs,ah,as,wk,rfl,v,en,wi,g,k⟩:=h
 have c1:=g.b1
 have c2:=g.b2
 have b40:=g.b40
 have b1:=Y8 (t:=t0) c1
 have onl:=qzk c1 g.on
 obtain ⟨tm,_⟩:=v.rep.ok.wo n wk en
 refine ⟨_,(qy (j6 (wp c__law_low (hr.mono (by decide)) rfl qh (zx (xy zn (pv 3) qr (λ_ _=>rfl)) (zx (xy zn (pv 3) qr (λ_ _=>rfl)) qu))) (k7 rfl (xg (xj (i:=5) sc.nd rfl (by walk_at "loc")) (xg (xj (i:=6) sc.nd rfl (by walk_at "loc")) vb))))
   (qy (j6 (wp c__law_story (hr.mono (by decide)) rfl qh (wx (pv 2) (qwm (vg (wx (pv 5) (wx (pv 6) qu))) (wx (pv 4) qu)))) (k7 rfl (xg (xj (i:=7) sc.nd rfl (by walk_at "loc")) (xg (xj (i:=8) sc.nd rfl (by walk_at "loc")) vb))))
   (qy (yw aY rfl (Wb (k6 (wx (pv 3) (qwm (vg (zp (w4 x9 (xy zn (pv 8) qr (λ_ _=>rfl)) qr) (zp (w4 x9 (xy zn (pv 8) qr (λ_ _=>rfl)) qr) qu))) (qwm (vg (js (wp c__law_after (hr.mono (by decide)) rfl qh (zx (xy zn (xy xv (pv 7) qr (λ_ _=>rfl)) qr (λ_ _=>rfl)) (zx (xy zn (xy xv (pv 7) qr (λ_ _=>rfl)) qr (λ_ _=>rfl)) (xx qr qu)))) (wx (pv 6) qu))) qu))))) (xj (i:=9) sc.nd rfl (by walk_at "loc")) (qy (xz (i:=10) sc.nd rfl (by walk_at "loc") (xp (pv 0) T.clH c_stood (hr.mono (by decide)) qh (wx (pv 1) (wx (pv 9) qu))))
   (wj (zq (PW.pt (u8 (vf (vh (wp c__law_whole (hr.mono (by decide)) rfl qh (wx (pv 10) qu)))) (j7 (xq op_ne (pv 10) (wp c__law_due (hr.mono (by decide)) rfl qh (wx (pv 2) (wx (pv 3) (wx (pv 4) (wx (pv 9) qu))))) (xk _))))) (wj (w8 j3)) w9))))
   (wj (w8 j3))))),?_⟩
 refine exI rfl (exX rfl rfl (SqT.of g.pt) rfl (exI rfl (exX rfl rfl (SqT.of g.pt) rfl ⟨t0,b0,rfl,c1,(Sm.small (n:=65) (by lia) (by lia) (by decide)).mono (by decide),λq nq=>?_⟩)))
 have s1:=Same.upd (H:=H) (o:=.tup (ptV (wc t0 b0))) nq
 have fq:upd H q (.tup (ptV (wc t0 b0))) q=some (.tup [.int (wc t0 b0).1,.int (wc t0 b0).2]):=q8
 generalize upd H q (.tup (ptV (wc t0 b0)))=H1 at s1 fq
 refine ⟨q,exI rfl ⟨SqT.of fq,rfl,_,_,rfl,_,_,rfl,rfl,?_⟩⟩
 refine exI rfl (exI rfl (exI rfl ⟨sz2,λqt nqt=>?_⟩))
 have s2':=Same.upd (H:=H1) (o:=.tup [.int (wc t0 b0).1,.int (wc t0 b0).2]) nqt
 have ft:upd H1 qt (.tup [.int (wc t0 b0).1,.int (wc t0 b0).2]) qt=some (.tup [.int (wc t0 b0).1,.int (wc t0 b0).2]):=q8
 generalize upd H1 qt (.tup [.int (wc t0 b0).1,.int (wc t0 b0).2])=H2 at s2' ft
 have s2:=s1.trans s2'
 have g2:=g.same s2
 refine exI rfl ⟨p,qt,gl,hs,(wc t0 b0).1,(wc t0 b0).2,gs,rfl,SqL.of g2.row,g.ok,ft,b1,b40,onl,g2.gl,g.g0,g.lg,λq3 sl qa3 H3 s3' f3 sg hl=>?_⟩
 have s3:=s2.trans s3'
 refine ⟨q3,exI rfl ⟨SqT.of f3,rfl,_,_,rfl,_,_,rfl,rfl,?_⟩⟩
 have onT:=qyk g.ok b1 gs _ onl
 have lh:=g.ok.2.1
 have bnd:∀ {t:Int},zf hs t (wc t0 b0).2→0≤t∧t≤960:=λ{t} h=>by
  have:((hs.length:Int)-1)*(wc t0 b0).2≤24*(wc t0 b0).2:=aF (by lia) (by lia)
  have h1:=h.1
  have h2:=h.2
  lia
 have rT:=bnd onT
 have r0:0≤t0∧t0≤24000:=by
  have:((hs.length:Int)-1)*b0≤24*b0:=aF (by lia) (by lia)
  have h1:=g.on.1
  have h2:=g.on.2
  lia
 obtain ⟨m1,gs',egs⟩:=eJ g.ne
 obtain ⟨vs,hls,lv,hst⟩:=id sg
 have l1:0<vs.length:=by rw [lv,qzn,egs];exact Nat.succ_pos _
 obtain ⟨tp0,l0,n0,u0,ev0,ft0,fl0,d0,hu0,e0,_⟩:=hst 0 _ _ (ar l1) (show (gsG hs (wc t0 b0).2 (wc t0 b0).1 gs)[0]?=some ((wc t0 b0).1,hs,m1) by rw [egs];rfl)
 have at0:atI vs 0=some (.ref tp0):=by
  rw [←ev0]
  exact xm (j:=0) (ar _)
 refine exI rfl (exI rfl (exX rfl rfl (SqT.of hl) rfl (w6 rfl rfl ⟨IntMulOk.of_right (intBits_le_64 (by lia) (by lia)),exI rfl (exX rfl rfl (SqT.of hl) rfl (w6 rfl rfl ⟨IntMulOk.of_right (intBits_le_64 (by lia) (by lia)),sz2,λqb nqb=>?_⟩))⟩)))
 have s4':=Same.upd (H:=H3) (o:=.tup [.int (gsT hs (wc t0 b0).2 (wc t0 b0).1 gs*2),.int ((wc t0 b0).2*2)]) nqb
 have fb:upd H3 qb (.tup [.int (gsT hs (wc t0 b0).2 (wc t0 b0).1 gs*2),.int ((wc t0 b0).2*2)]) qb=some (.tup [.int (gsT hs (wc t0 b0).2 (wc t0 b0).1 gs*2),.int ((wc t0 b0).2*2)]):=q8
 generalize upd H3 qb (.tup [.int (gsT hs (wc t0 b0).2 (wc t0 b0).1 gs*2),.int ((wc t0 b0).2*2)])=H4 at s4' fb
 refine exI rfl (exX rfl rfl (SqL.of (s4' _ _ hls)) at0 (exX rfl rfl (SqT.of (s4' _ _ ft0)) rfl (exI rfl (exX rfl rfl (SqL.of (s4' _ _ hls)) at0 (exX rfl rfl (SqT.of (s4' _ _ ft0)) rfl ⟨l0,trT hs (wc t0 b0).1 (wc t0 b0).2,n0,u0,1,rfl,s4' _ _ fl0,hu0,e0,tr_st,(by lia),?_⟩)))))
 refine exI rfl ⟨sz2,λqc nqc=>?_⟩
 have s5':=Same.upd (H:=H4) (o:=.tup [.int (trT hs (wc t0 b0).1 (wc t0 b0).2 (1:Int).toNat),.int (wc t0 b0).2]) nqc
 have fc:upd H4 qc (.tup [.int (trT hs (wc t0 b0).1 (wc t0 b0).2 (1:Int).toNat),.int (wc t0 b0).2]) qc=some (.tup [.int (trT hs (wc t0 b0).1 (wc t0 b0).2 (1:Int).toNat),.int (wc t0 b0).2]):=q8
 generalize upd H4 qc (.tup [.int (trT hs (wc t0 b0).1 (wc t0 b0).2 (1:Int).toNat),.int (wc t0 b0).2])=H5 at s5' fc
 refine ⟨sz3,λla nla=>?_⟩
 have s6':=Same.upd (H:=H5) (o:=.lst [.ref a,.ref qb,.ref qc]) nla
 have fla:upd H5 la (.lst [.ref a,.ref qb,.ref qc]) la=some (.lst [.ref a,.ref qb,.ref qc]):=q8
 generalize upd H5 la (.lst [.ref a,.ref qb,.ref qc])=H6 at s6' fla
 have s36:=(s4'.trans s5').trans s6'
 have s6:=s3.trans s36
 have g6:=g.same s6
 have v6:=v.same s6
 have on1:=uz g.ok b1 onl (1:Int).toNat
 have rc:=bnd on1
 have asked:∀x∈[V.ref a,V.ref qb,V.ref qc],∃q t' b',x=.ref q∧qx6 H6 q (t',b')∧1≤b'∧b'≤1000∧-1000000≤t'∧t'≤1000000:=λx hx=>by
  simp only [ai,aj,be] at hx
  rcases hx with rfl|rfl|rfl
  ·exact ⟨a,t0,b0,rfl,g6.pt,c1,c2,by lia,by lia⟩
  ·exact ⟨qb,_,_,rfl,s6' _ _ (s5' _ _ fb),by lia,by lia,by lia,by lia⟩
  ·exact ⟨qc,trT hs (wc t0 b0).1 (wc t0 b0).2 (1:Int).toNat,(wc t0 b0).2,rfl,s6' _ _ fc,by lia,by lia,by lia,by lia⟩
 refine exI rfl ⟨⟨_,SqL.of fla⟩,qqw (K:=K) (a:=la) (xs:=[.ref a,.ref qb,.ref qc]) (λi σ H7=>Same H6 H7∧∃z9 z10,σ=[some (.ref o.x),some (.str n),some (.ref p),some (.ref a),some (.ref gl),some (.int (wc t0 b0).1),some (.int (wc t0 b0).2),some (.ref sl),some (.ref qa3),z9,z10]) ⟨Same.refl _,_,_,rfl⟩ (λi σ H7 _ h=>h.1.sql (SqL.of fla)) ?_ ?_⟩
 ·rintro i x σ H7 ex ⟨s7,z9,z10,rfl⟩
  obtain ⟨qx,t',b',rfl,hx,d1,d2,d3,d4⟩:=asked x (aN ex)
  have v7:=v6.same s7
  obtain ⟨dx,hox⟩:=v7.h.hs.ob
  obtain ⟨y,pp,t,ey,wky⟩:=v7.rep.wk en
  refine exI rfl ⟨o.x,dx,exI rfl ⟨hox,x6 (by decide +kernel) (by decide +kernel) (by decide +kernel),exI rfl (exI rfl ⟨o.x,o.dr,o.dw,o.dd,qx,o.R,o.W,_,n,t',b',rfl,v7.h.hs,s7 _ _ hx,(λz=>by rw [ey] at z;cases z),λu eu=>?_⟩)⟩⟩
  rw [ey] at eu
  cases eu
  refine ⟨y,wk.wh,pp,wk.pt,t,wk.tv,rfl,wky,(λz=>absurd z (by lia)),λ_=>⟨(Sm.small (n:=65) (by lia) (by lia) (by decide)).mono (by decide),λH8 s8=>?_⟩⟩
  rw [wwu tm,wi.cn.due b1 d1]
  have s78:=s7.trans s8
  have g8:=g6.same s78
  refine exI rfl (exI rfl (exI rfl (ju ?_)))
  refine exI rfl (exI rfl (exI rfl (exI rfl (exI rfl ⟨p,a,gl,qx,hs,t0,b0,t',b',gs,rfl,SqL.of g8.row,g.ok,g8.pt,c1,c2,g.on,b40,g8.gl,g.g0,g.lg,s78 _ _ hx,d1,d2,d3,d4,λH9 s9=>⟨rfl,_,rfl,wzw (λz=>absurd rfl z) (λ_=>?_)⟩⟩))))
  exact ⟨s78.trans s9,_,_,rfl⟩
 ·rintro σ H7 ⟨s7,z9,z10,rfl⟩
  exact k _ (s6.trans s7)
end
section
variable {P:Ac}{w:Ah}{K:Aa}{mg:Str→Option Ag}{base:Heap}{qf:Aj}{wz:Aj}{qk:Aj}{q9:Aj}{qg:Aj}{wv:Aj}{wu:Aj}{wq:Aj}{wm:Aj}{wy:Aj}{qd:Aj}{qz:Aj}{qm:Aj}{qw:Aj}{qq:Aj}
theorem HoAt.nin {C:Aj}{H:Hp}{o:Ho}(h:HoAt C H o){a:Aj}{u:HO}(e:H a=some u)(n1:∀kv,u≠.dK kv)(n:a≠o.dd):a∉[o.dr,o.dw,o.dd]:=λz=>by
 simp only [ai,aj,be] at z
 rcases z with z|z|z
 ·rw [z,h.hs.r] at e;cases e;exact n1 _ rfl
 ·rw [z,h.hs.w] at e;cases e;exact n1 _ rfl
 ·exact n z
theorem HoAt.nin5 {C:Aj}{H:Hp}{o:Ho}(h:HoAt C H o){d:Deed}(hd:d∈o.ds){a:Aj}{u:HO}(e:H a=some u)(n1:∀kv,u≠.dK kv)(n2:∀v kv,u≠.frz v (.dK kv))(n:a≠o.dd):a∉[o.dr,o.dw,o.dd,d.q1,d.q2]:=λz=>by
 obtain ⟨⟨_,r1,r2⟩,_⟩:=h.da d hd
 simp only [ai,aj,be] at z
 rcases z with z|z|z|z|z
 ·rw [z,h.hs.r] at e;cases e;exact n1 _ rfl
 ·rw [z,h.hs.w] at e;cases e;exact n1 _ rfl
 ·exact n z
 ·rcases r1 with r1|⟨v,r1⟩ <;> (rw [z,r1] at e;cases e)
  ·exact n1 _ rfl
  ·exact n2 _ _ rfl
 ·rcases r2 with r2|⟨v,r2⟩ <;> (rw [z,r2] at e;cases e)
  ·exact n1 _ rfl
  ·exact n2 _ _ rfl
theorem Dl.ints {H H':Hp}{ch:List Aj}(d:Dl H ch)(k:Kb ch H H'){a:Aj}{ns:List Int}(ne:ns≠[])(e:H a=some (.lst (ns.map V.int))):H' a=some (.lst (ns.map V.int)):=k _ _ (d.other e (λ_ z=>by cases z) (λ_ _ z=>by cases z) (λD rf z=>by
 obtain ⟨n,ns',rfl⟩:=eJ ne
 have z:(n::ns').map V.int=D:=by injection z
 obtain ⟨c,ec⟩:=rf (.int n) (by rw [←z];exact aO ..)
 cases ec)) e
structure Base (K:Aa)(H:Hp)(a p1 pl st:Aj)(ns hs:List Int)(A:Nat→Aj)(tb:Nat→Int×Int)(m:Nat→Int):Prop where
 sc:SqL K H a (ns.map V.int)
 row:H p1=some (.lst (hs.map V.int))
 ok:x4 hs
 pl:H pl=some (.lst [.ref (A 0),.ref (A 1),.ref (A 2)])
 pt:∀i,i<3→qx6 H (A i) (tb i)
 pk:∀i,i<3→1≤(tb i).2∧(tb i).2≤1000∧HPt hs (wc (tb i).1 (tb i).2)∧zf hs (tb i).1 (tb i).2
 st:H st=some (.lst ([m 0,m 1,m 2].map V.int))
 mm:∀i,0≤m i∧m i≤100000000000000000000000000000000000000000000000000
def Far (K:Aa)(H:Hp)(a pl:Aj)(ns:List Int)(o:Ho):Prop:=pl≠o.dd∧((∀H',SqL K H' a (ns.map V.int))∨a≠o.dd)
theorem Base.kb {K:Aa}{H H':Hp}{a p1 pl st:Aj}{ns hs:List Int}{A:Nat→Aj}{tb:Nat→Int×Int}{m:Nat→Int}(h:Base K H a p1 pl st ns hs A tb m){ch:List Aj}(d:Dl H ch)(k:Kb ch H H')(n1:pl∉ch)(n2:(∀H',SqL K H' a (ns.map V.int))∨a∉ch):Base K H' a p1 pl st ns hs A tb m :=
 ⟨Kb.sql k h.sc n2,d.row k h.ok h.row,h.ok,k _ _ n1 h.pl,λi hi=>d.tup k (h.pt i hi),h.pk,d.ints k (bC _ _) h.st,h.mm⟩
theorem Base.same {K:Aa}{H H':Hp}{a p1 pl st:Aj}{ns hs:List Int}{A:Nat→Aj}{tb:Nat→Int×Int}{m:Nat→Int}(h:Base K H a p1 pl st ns hs A tb m)(s:Same H H'):Base K H' a p1 pl st ns hs A tb m:=h.kb Dl.nil (ch:=[]) (Kb.of s) aj (.inr aj)
theorem qxd {K:Aa}{H:Hp}{a:Aj}{xs:List V}(h:SqL K H a xs):(∀H',SqL K H' a xs)∨∃u,H a=some u∧(∀kv,u≠.dK kv)∧∀v kv,u≠.frz v (.dK kv):=by
 rcases h with (e|⟨v,e⟩)|e
 ·exact .inr ⟨_,e,(λ_ z=>by cases z),(λ_ _ z=>by cases z)⟩
 ·exact .inr ⟨_,e,(λ_ z=>by cases z),(λ_ _ z=>by cases z)⟩
 ·exact .inl λ_=>.inr e
theorem Base.deed {C:Aj}{K:Aa}{H H':Hp}{a p1 pl st:Aj}{ns hs:List Int}{A:Nat→Aj}{tb:Nat→Int×Int}{m:Nat→Int}(h:Base K H a p1 pl st ns hs A tb m){o:Ho}(ho:HoAt C H o)(f:Far K H a pl ns o)(k:Kb [o.dr,o.dw,o.dd] H H'):Base K H' a p1 pl st ns hs A tb m:=by
 refine h.kb ho.dl k (ho.nin h.pl (λ_ z=>by cases z) f.1) ?_
 rcases f.2 with z|z
 ·exact .inl z
 ·rcases qxd h.sc with y|⟨u,e,n1,n2⟩
  ·exact .inl y
  ·exact .inr (ho.nin e n1 z)
theorem Base.take {C:Aj}{K:Aa}{H H':Hp}{a p1 pl st:Aj}{ns hs:List Int}{A:Nat→Aj}{tb:Nat→Int×Int}{m:Nat→Int}(h:Base K H a p1 pl st ns hs A tb m){o:Ho}{d:Deed}{ds:List Deed}(ho:HoAt C H o)(ed:o.ds=d::ds)(f:Far K H a pl ns o)(k:Kb [o.dr,o.dw,o.dd,d.q1,d.q2] H H')(dl:Dl H [o.dr,o.dw,o.dd,d.q1,d.q2]):Base K H' a p1 pl st ns hs A tb m:=by
 have hd:d∈o.ds:=by rw [ed];exact aO ..
 refine h.kb dl k (ho.nin5 hd h.pl (λ_ z=>by cases z) (λ_ _ z=>by cases z) f.1) ?_
 rcases f.2 with z|z
 ·exact .inl z
 ·rcases qxd h.sc with y|⟨u,e,n1,n2⟩
  ·exact .inl y
  ·exact .inr (ho.nin5 hd e n1 n2 z)
theorem Far.nxt {K:Aa}{H H' H'':Hp}{a pl:Aj}{ns:List Int}{o o':Ho}(h:Far K H a pl ns o)(n:Nxt H' o o'):Far K H'' a pl ns o':=by
 unfold Far
 rw [n.dd]
 exact h
theorem Far.prv {K:Aa}{H H'':Hp}{a pl:Aj}{ns:List Int}{o o':Ho}(h:Far K H a pl ns o)(n:Prv o o'):Far K H'' a pl ns o':=by
 unfold Far
 rw [n.dd]
 exact h
theorem wwc:(10:Int) ^ (50:Int).toNat+1=100000000000000000000000000000000000000000000000001:=by decide +kernel
def qxf (K:Aa):Sp:=λvs H Q _=>∃(a:Aj) (ns:List Int) (i:Int),vs=[.ref a,.int i]∧SqL K H a (ns.map V.int)∧0≤i∧∀m,0≤m→m≤100000000000000000000000000000000000000000000000000→Q (.int m) H
theorem wzf {f:Aj}{fd:Ad}(F:Fun K "_law_steps" "_law_steps" s__law_steps f fd)(T:Txt K mg qf wz qk q9 qg wv wu wq wm wy qd qz qm qw qq)(c__law_cell:Cal P w K mg base "_law_cell" 1 (qzb K))(c__law_pick:Cal P w K mg base "_law_pick" 2 (uk K)) :
  FnOk P w K mg base (CXE P w) 3 f fd ["_law_script","_law_at"] (qxf K):=by
 have sc:=qqh
 refine F.okX sc (λvs H Q E h=>by obtain ⟨a,ns,i,rfl,_⟩:=h;rfl) (λcdv A outer s H vs Q E hr h=>?_)
 obtain ⟨a,ns,i,rfl,hS,i0,k⟩:=h
 refine ⟨_,(qy (zq (xq k9 (wp c__law_pick (hr.mono (by decide)) rfl qh (wx (pv 0) (wx (pv 1) (xx qr (xx qr qu))))) qr (xk _)) (wj (w8 (w4 vc (wp c__law_cell (hr.mono (by decide)) rfl qh (wx (pv 0) (wx (pv 1) qu))) (w4 xn (w4 wwh qr qr) qr)))) w9)
   (wj (w8 (wp c__law_pick (hr.mono (by decide)) rfl qh (wx (pv 0) (wx (pv 1) (xx qr (xx qr qu)))))))),?_⟩
 refine exI rfl (exI rfl ⟨a,ns,_,_,_,rfl,hS,(by lia),(by lia),(by lia),(by lia),λr2 _ l2 u2=>?_⟩)
 refine ⟨rfl,_,rfl,jk (λq1=>?_) (λq1=>?_)⟩
 ·refine exI rfl (exI rfl ⟨a,ns,exI rfl ⟨hS,(by lia),λd1 _=>?_⟩⟩)
  refine w6 rfl rfl ⟨⟨by decide,by decide,by decide⟩,w6 rfl rfl (w6 rfl rfl ⟨(by rw [wwc];show (0:Int)<100000000000000000000000000000000000000000000000001;decide),?_⟩)⟩
  have a1:=br d1 (show (100000000000000000000000000000000000000000000000001:Int)≠0 by decide)
  have a2:=bi d1 (show (0:Int)<100000000000000000000000000000000000000000000000001 by decide)
  rw [←wwc] at a1 a2
  exact k _ a1 (by rw [wwc] at a2 ⊢;lia)
 ·refine exI rfl (exI rfl ⟨a,ns,_,_,_,rfl,hS,(by lia),(by lia),(by lia),(by lia),λr3 _ l3 u3=>k _ l3 (by lia)⟩)
def NM3:List Str:=["r","a","bc"]
structure Pair (hs:List Int)(s:AH)(wa wb:Wk):Prop where
 rr:s.rs "r" = some hs
 a:s.ws "a" = some wa
 b:s.ws "bc" = some wb
 nm:Nam NM3 s
theorem nm_a:("a" : Str)∈NM3:=by unfold NM3;exact aC _ (aO ..)
theorem nm_b:("bc" : Str)∈NM3:=by unfold NM3;exact aC _ (aC _ (aO ..))
theorem ne_ab:("bc" : Str) ≠ "a" := by decide +kernel
def Wz (K:Aa)(C CR CW:Aj):Sp:=λvs H Q _=>∃(a:Aj) (o:Ho) (ns:List Int) (i m:Int) (hs:List Int) (s:AH) (as:List AH) (wa wb:Wk),vs=[.ref a,.int i,.ref o.x,.int m]∧SqL K H a (ns.map V.int)∧0≤i∧0≤m∧m≤100000000000000000000000000000000000000000000000000∧VH C CR CW H o (s::as)∧Pair hs s wa wb∧wa.wh = "r" ∧ wb.wh = "r" ∧ o.ds.length≤100 ∧
 ∀(H':Hp) (o':Ho) (l:Aj) (s':AH) (g:List Int) (wa' wb':Wk),Nxt H o o'→VH C CR CW H' o' (s'::s::as)→Pair hs s' wa' wb'→(∀T0 b gs,1≤b→WkIs hs T0 b gs wa→WkIs hs T0 b (gs++[m]) wa')→(∀T0 b gs,1≤b→WkIs hs T0 b gs wb→WkIs hs T0 b (gs++g) wb')→(g=[]∨g=[m])→Kb [o.dr,o.dw,o.dd] H H'→H' l=some (.lst (g.map V.int))→Q (.ref l) H'
set_option maxHeartbeats 0 in
theorem wxc {f:Aj}{fd:Ad}(F:Fun K "_law_going" "_law_going" s__law_going f fd)(T:Txt K mg qf wz qk q9 qg wv wu wq wm wy qd qz qm qw qq)(c__law_pick:Cal P w K mg base "_law_pick" 2 (uk K))(c_together:MCal P w K mg base qq "together" 8 (quv qq qm qw wy qg))(c_go:MCal P w K mg base qq "go" 8 (spGo qq qm qw qd qg)) :
  FnOk P w K mg base (CXE P w) 9 f fd ["_law_script","_law_at","_law_house","_law_many"] (Wz K qq qm qw):=by
 have sc:=qqm
 refine F.okX sc (λvs H Q E h=>by obtain ⟨a,o,ns,i,m,hs,s,as,wa,wb,rfl,_⟩:=h;rfl) (λcdv A outer s H vs Q E hr h=>?_)
 obtain ⟨a,o,ns,i,m,hs,st,as,wa,wb,rfl,hS,i0,m0,m1,v,pr,ea,eb,lD,k⟩:=h
 have wi:Within m 0 (some 1000000000000000000000000000000000000000000000000000000000000):=⟨m0,λb e=>by cases e;lia⟩
 obtain ⟨dx,hx⟩:=v.h.hs.ob
 refine ⟨_,(qy (zq (xq k9 (wp c__law_pick (hr.mono (by decide)) rfl qh (wx (pv 0) (wx (pv 1) (xx qr (xx qr qu))))) qr (xk _)) (qy (zw (xp (pv 2) T.clH c_together (hr.mono (by decide)) qh (xx xt (wx (pv 3) qu))))
   (wj (w8 (k6 (wx (pv 3) qu))))) w9)
   (qy (zw (xp (pv 2) T.clH c_go (hr.mono (by decide)) qh (xx xt (wx (pv 3) qu))))
   (wj (w8 (k6 qu))))),?_⟩
 refine exI rfl (exI rfl ⟨a,ns,_,_,_,rfl,hS,(by lia),(by lia),(by lia),(by lia),λr2 _ l2 u2=>?_⟩)
 refine ⟨rfl,_,rfl,jk (λq1=>?_) (λq1=>?_)⟩
 ·refine exI rfl ⟨o.x,dx,exI rfl ⟨hx,x6 (by decide +kernel) (by decide +kernel) (by decide +kernel),_,rfl,?_⟩⟩
  dsimp only [vu,j8,tC]
  refine v.togs pr.nm (by decide) (by lia) pr.rr wi λl H1 o' tv nx v' htv kb nl _=>?_
  refine exI rfl ⟨sz1,λl2 nl2=>?_⟩
  have s2:=Same.upd (H:=H1) (o:=.lst [.int m]) nl2
  have e1:(st.tog "r" hs m.toNat tv).ws "a" = some ⟨"r",itP hs wa.pt m.toNat,tv "a"⟩:=by
   show (match st.ws "a" with | none=>none | some w=>if w.wh = "r" then some (Wk.mk "r" (itP hs w.pt m.toNat) (tv "a")) else some w)=_
   rw [pr.a]
   exact ak ea
  have e2:(st.tog "r" hs m.toNat tv).ws "bc" = some ⟨"r",itP hs wb.pt m.toNat,tv "bc"⟩:=by
   show (match st.ws "bc" with | none=>none | some w=>if w.wh = "r" then some (Wk.mk "r" (itP hs w.pt m.toNat) (tv "bc")) else some w)=_
   rw [pr.b]
   exact ak eb
  have nm':Nam NM3 (st.tog "r" hs m.toNat tv):=⟨pr.nm.r,λn e=>pr.nm.w n (by
   have e:(match st.ws n with | none=>none | some w=>if w.wh = "r" then some (Wk.mk "r" (itP hs w.pt m.toNat) (tv n)) else some w).isSome=true:=e
   cases e3:st.ws n with
   |none=>rw [e3] at e;cases e
   |some w=>rfl)⟩
  exact k _ o' l2 _ [m] _ _ nx (v'.same s2) ⟨pr.rr,e1,e2,nm'⟩ (λT0 b gs b1 h=>h.go b1 (htv "a" wa pr.a ea).2) (λT0 b gs b1 h=>h.go b1 (htv "bc" wb pr.b eb).2) (.inr rfl) (λb o nb e=>s2 _ _ (kb _ _ nb e)) q8
 ·refine exI rfl ⟨o.x,dx,exI rfl ⟨hx,x6 (by decide +kernel) (by decide +kernel) (by decide +kernel),_,rfl,?_⟩⟩
  dsimp only [vu,j8,tC]
  refine v.goes pr.nm (by decide) (by lia) pr.a (by rw [ea];exact pr.rr) wi λH1 o' p tv' nx v' tm hit kb _=>?_
  refine ⟨sz0,λl2 nl2=>?_⟩
  have s2:=Same.upd (H:=H1) (o:=.lst []) nl2
  refine k _ o' l2 _ [] _ _ nx (v'.same s2) ⟨pr.rr,uu,(yf ne_ab).trans pr.b,pr.nm.putW nm_a _⟩ (λT0 b gs b1 h=>?_) (λT0 b gs b1 h=>by rw [ca];exact h) (.inl rfl) (λb o nb e=>s2 _ _ (kb _ _ nb e)) q8
  rw [ea]
  exact h.go b1 hit
end
section
variable {P:Ac}{w:Ah}{K:Aa}{mg:Str→Option Ag}{base:Heap}{qf:Aj}{wz:Aj}{qk:Aj}{q9:Aj}{qg:Aj}{wv:Aj}{wu:Aj}{wq:Aj}{wm:Aj}{wy:Aj}{qd:Aj}{qz:Aj}{qm:Aj}{qw:Aj}{qq:Aj}
structure GL (H:Hp)(gl:Aj)(gs:List Int):Prop where
 at_:H gl=some (.lst (gs.map V.int))
 g0:∀m∈gs,0≤m
 ne:gs≠[]
 lg:gs.length≤100
theorem GL.dl {H H':Hp}{gl:Aj}{gs:List Int}(h:GL H gl gs){ch:List Aj}(d:Dl H ch)(k:Kb ch H H'):GL H' gl gs:=⟨d.ints k h.ne h.at_,h.g0,h.ne,h.lg⟩
theorem GL.same {H H':Hp}{gl:Aj}{gs:List Int}(h:GL H gl gs)(s:Same H H'):GL H' gl gs:=⟨s _ _ h.at_,h.g0,h.ne,h.lg⟩
theorem Base.go {K:Aa}{H:Hp}{a p1 pl st:Aj}{ns hs:List Int}{A:Nat→Aj}{tb:Nat→Int×Int}{m:Nat→Int}(h:Base K H a p1 pl st ns hs A tb m){i:Nat}(hi:i<3){gl:Aj}{gs:List Int}(g:GL H gl gs):GoAt K H p1 (A i) gl hs (tb i).1 (tb i).2 gs:=by
 obtain ⟨b1,b2,hp,on⟩:=h.pk i hi
 exact ⟨h.row,h.ok,h.pt i hi,b1,b2,on,hp.2.2,g.at_,g.g0,g.ne,g.lg⟩
abbrev IsG (hs:List Int)(tb:Nat→Int×Int)(i:Nat)(gs:List Int)(w:Wk):Prop:=WkIs hs (wc (tb i).1 (tb i).2).1 (wc (tb i).1 (tb i).2).2 gs w
def KI (H H':Hp):Prop:=∀l gs,GL H l gs→GL H' l gs
theorem qxr {H:Hp}{l:Aj}(e:H l=some (.lst [.int 0])):GL H l [0]:=⟨e,λm hm=>by rw [aq.mp hm];exact di _,bC _ _,by decide⟩
def yc (K:Aa)(C CR CW:Aj):Sp:=λvs H Q _=>∃(a p1 pl st gl bl:Aj) (o:Ho) (ns hs:List Int) (A:Nat→Aj) (tb:Nat→Int×Int) (m:Nat→Int) (s2 s1 s0:AH) (as:List AH) (wa1 wb1 wa0 wb0:Wk) (gs bs:List Int) (oth:List (Ho×List AH)),vs=[.ref o.x,.ref p1,.ref pl,.ref gl,.ref bl]∧VH C CR CW H o (s2::s1::s0::as)∧Nam NM3 s2∧Pair hs s1 wa1 wb1∧Pair hs s0 wa0 wb0∧IsG hs tb 0 gs wa1∧IsG hs tb 1 bs wb1∧IsG hs tb 0 [0] wa0∧IsG hs tb 1 [0] wb0∧Base K H a p1 pl st ns hs A tb m∧Far K H a pl ns o∧GL H gl gs∧GL H bl bs∧(∀x∈oth,VH C CR CW H x.1 x.2∧Ap o x.1) ∧
 ∀H',Base K H' a p1 pl st ns hs A tb m→(∀x∈oth,VH C CR CW H' x.1 x.2)→KI H H'→Q (.bl true) H'
set_option maxHeartbeats 0 in
theorem qz2 {f:Aj}{fd:Ad}(F:Fun K "_law_twin_back" "_law_twin_back" s__law_twin_back f fd)(T:Txt K mg qf wz qk q9 qg wv wu wq wm wy qd qz qm qw qq)(c_take_back:MCal P w K mg base qq "take_back" 2 (Qc qq qz))(c__law_right:Cal P w K mg base "_law_right" 5 (ug K qq qm qw)) :
  FnOk P w K mg base (CXE P w) 6 f fd ["_law_other","_law_row","_law_points","_law_goings","_law_beside_goings"] (yc K qq qm qw):=by
 have sc:=Qt
 refine F.okX sc (λvs H Q E h=>by obtain ⟨a,p1,pl,st,gl,bl,o,ns,hs,A,tb,m,s2,s1,s0,as,wa1,wb1,wa0,wb0,gs,bs,oth,rfl,_⟩:=h;rfl) (λcdv A outer s H vs Q E hr h=>?_)
 obtain ⟨a,p1,pl,st,gl,bl,o,ns,hs,A,tb,m,s2,s1,s0,as,wa1,wb1,wa0,wb0,gs,bs,oth,rfl,v,nm2,pr1,pr0,ia1,ib1,ia0,ib0,ba,far,hgl,hbl,hoth,k⟩:=h
 obtain ⟨dx,hx⟩:=v.h.hs.ob
 have lens:=v.lens nm2
 have l3:NM3.length=3:=rfl
 refine ⟨_,(qy (zw (kh (pv 0) T.clH c_take_back (hr.mono (by decide)) qh))
   (qy (zq (vf (vh (wp c__law_right (hr.mono (by decide)) rfl qh (wx (pv 0) (xx xt (wx (pv 1) (zx (xy xv (pv 2) qr (λ_ _=>rfl)) (wx (pv 3) qu)))))))) (wj (w8 j3)) w9)
   (qy (zq (vf (vh (wp c__law_right (hr.mono (by decide)) rfl qh (wx (pv 0) (xx xt (wx (pv 1) (zx (xy xv (pv 2) qr (λ_ _=>rfl)) (wx (pv 4) qu)))))))) (wj (w8 j3)) w9)
   (qy (zw (kh (pv 0) T.clH c_take_back (hr.mono (by decide)) qh))
   (wj (w8 (qyy (wp c__law_right (hr.mono (by decide)) rfl qh (wx (pv 0) (xx xt (wx (pv 1) (zx (xy xv (pv 2) qr (λ_ _=>rfl)) (wz9 (k6 (xx qr qu)) qu)))))) (qjt (wp c__law_right (hr.mono (by decide)) rfl qh (wx (pv 0) (xx xt (wx (pv 1) (zx (xy xv (pv 2) qr (λ_ _=>rfl)) (wz9 (k6 (xx qr qu)) qu)))))))))))))),?_⟩
 refine exI rfl ⟨o.x,dx,exI rfl ⟨hx,x6 (by decide +kernel) (by decide +kernel) (by decide +kernel),?_⟩⟩
 dsimp only [j8]
 refine v.take (by lia) (by lia) λH1 o1 d1 pv1 ed1 v1 kb1 dl1 rd1=>?_
 have ba1:=ba.take v.h ed1 far kb1 dl1
 have gl1:=hgl.dl dl1 kb1
 have bl1:=hbl.dl dl1 kb1
 have oth1:∀x∈oth,VH qq qm qw H1 x.1 x.2∧Ap o1 x.1:=λx hx=>⟨(hoth x hx).2.back v.h ed1 (hoth x hx).1 kb1 dl1 rd1,(hoth x hx).2.prv pv1⟩
 have ki1:KI H H1:=λl gs h=>h.dl dl1 kb1
 have far1:Far K H1 a pl ns o1:=far.prv pv1
 rw [←pv1.x]
 refine exI rfl (exI rfl (exI rfl (exX rfl rfl (SqL.of ba1.pl) (xm (j:=0) rfl) (exI rfl ⟨p1,A 0,gl,o1,"a",hs,(tb 0).1,(tb 0).2,gs,s1,_,wa1,rfl,v1,pr1.a,ia1,ba1.go (by decide) gl1,λH2 t2=>?_⟩))))
 refine exI rfl (ju ?_)
 have ba2:=ba1.same t2
 have v2:=v1.same t2
 refine exI rfl (exI rfl (exI rfl (exX rfl rfl (SqL.of ba2.pl) (xm (j:=1) rfl) (exI rfl ⟨p1,A 1,bl,o1,"bc",hs,(tb 1).1,(tb 1).2,bs,s1,_,wb1,rfl,v2,pr1.b,ib1,ba2.go (by decide) (bl1.same t2),λH3 t3=>?_⟩))))
 refine exI rfl (ju ?_)
 have t13:=t2.trans t3
 have ba3:=ba1.same t13
 have v3:=v1.same t13
 obtain ⟨dx3,hx3⟩:=v3.h.hs.ob
 have lens3:=v3.lens pr1.nm
 refine exI rfl ⟨o1.x,dx3,exI rfl ⟨hx3,x6 (by decide +kernel) (by decide +kernel) (by decide +kernel),?_⟩⟩
 dsimp only [j8]
 refine v3.take (by lia) (by lia) λH4 o4 d4 pv4 ed4 v4 kb4 dl4 rd4=>?_
 have ba4:=ba3.take v3.h ed4 far1 kb4 dl4
 have oth4:∀x∈oth,VH qq qm qw H4 x.1 x.2:=λx hx=>(oth1 x hx).2.back v3.h ed4 ((oth1 x hx).1.same t13) kb4 dl4 rd4
 have ki4:KI H H4:=λl gs h=>((ki1 l gs h).same t13).dl dl4 kb4
 rw [←pv4.x]
 refine exI rfl (exI rfl (exI rfl (exX rfl rfl (SqL.of ba4.pl) (xm (j:=0) rfl) ⟨sz1,λl5 n5=>?_⟩)))
 have t5:=Same.upd (H:=H4) (o:=.lst [.int 0]) n5
 have f5:upd H4 l5 (.lst [.int 0]) l5=some (.lst [.int 0]):=q8
 generalize upd H4 l5 (.lst [.int 0])=H5 at t5 f5
 have ba5:=ba4.same t5
 refine ⟨p1,A 0,l5,o4,"a",hs,(tb 0).1,(tb 0).2,[0],s0,_,wa0,rfl,v4.same t5,pr0.a,ia0,ba5.go (by decide) (qxr f5),λH6 t6=>?_⟩
 refine exI rfl (ym ?_)
 have t56:=t5.trans t6
 have ba6:=ba4.same t56
 refine exI rfl (exI rfl (exI rfl (exX rfl rfl (SqL.of ba6.pl) (xm (j:=1) rfl) ⟨sz1,λl7 n7=>?_⟩)))
 have t7:=Same.upd (H:=H6) (o:=.lst [.int 0]) n7
 have f7:upd H6 l7 (.lst [.int 0]) l7=some (.lst [.int 0]):=q8
 generalize upd H6 l7 (.lst [.int 0])=H7 at t7 f7
 have t57:=t56.trans t7
 have ba7:=ba4.same t57
 refine ⟨p1,A 1,l7,o4,"bc",hs,(tb 1).1,(tb 1).2,[0],s0,_,wb0,rfl,v4.same t57,pr0.b,ib0,ba7.go (by decide) (qxr f7),λH8 t8=>?_⟩
 have t48:=t57.trans t8
 exact k _ (ba4.same t48) (λx hx=>(oth4 x hx).same t48) λl gs h=>(ki4 l gs h).same t48
end
section
variable {P:Ac}{w:Ah}{K:Aa}{mg:Str→Option Ag}{base:Heap}{qf:Aj}{wz:Aj}{qk:Aj}{q9:Aj}{qg:Aj}{wv:Aj}{wu:Aj}{wq:Aj}{wm:Aj}{wy:Aj}{qd:Aj}{qz:Aj}{qm:Aj}{qw:Aj}{qq:Aj}
theorem qx8 {X:Cx}{ss:List Stmt}{t t':TS}(h:PSs X ss t)(k:∀D σ H,t' D σ H→t D σ H):PSs X ss t':=λpins s σ H D I q=>h pins s σ H D I (k D σ H q)
structure Two2 (K:Aa)(C CR CW:Aj)(H:Hp)(a p1 pl st bl tl gl:Aj)(ns hs:List Int)(A:Nat→Aj)(tb:Nat→Int×Int)(m:Nat→Int)(q:Ho)(s2 s1 s0:AH)(as:List AH)(wa2 wb2 wa1 wb1 wa0 wb0:Wk)(bs ts:List Int):Prop where
 ba:Base K H a p1 pl st ns hs A tb m
 fq:Far K H a pl ns q
 vq:VH C CR CW H q (s2::s1::s0::as)
 p2:Pair hs s2 wa2 wb2
 p1:Pair hs s1 wa1 wb1
 p0:Pair hs s0 wa0 wb0
 ia2:IsG hs tb 0 [0,m 0,m 1] wa2
 ib2:IsG hs tb 1 ts wb2
 ia1:IsG hs tb 0 [0,m 0] wa1
 ib1:IsG hs tb 1 bs wb1
 ia0:IsG hs tb 0 [0] wa0
 ib0:IsG hs tb 1 [0] wb0
 gb:GL H bl bs
 gt:GL H tl ts
 gg:GL H gl [0,m 0]
theorem Two2.same {K:Aa}{C CR CW:Aj}{H H':Hp}{a p1 pl st bl tl gl:Aj}{ns hs:List Int}{A:Nat→Aj}{tb:Nat→Int×Int}{m:Nat→Int}{q:Ho}{s2 s1 s0:AH}{as:List AH}{wa2 wb2 wa1 wb1 wa0 wb0:Wk}{bs ts:List Int}(h:Two2 K C CR CW H a p1 pl st bl tl gl ns hs A tb m q s2 s1 s0 as wa2 wb2 wa1 wb1 wa0 wb0 bs ts)(s:Same H H'):Two2 K C CR CW H' a p1 pl st bl tl gl ns hs A tb m q s2 s1 s0 as wa2 wb2 wa1 wb1 wa0 wb0 bs ts :=
 { h with ba:=h.ba.same s,fq:=h.fq,vq:=h.vq.same s,gb:=h.gb.same s,gt:=h.gt.same s,gg:=h.gg.same s }
theorem Two2.deed {K:Aa}{C CR CW:Aj}{H H':Hp}{a p1 pl st bl tl gl:Aj}{ns hs:List Int}{A:Nat→Aj}{tb:Nat→Int×Int}{m:Nat→Int}{q:Ho}{s2 s1 s0:AH}{as:List AH}{wa2 wb2 wa1 wb1 wa0 wb0:Wk}{bs ts:List Int}(h:Two2 K C CR CW H a p1 pl st bl tl gl ns hs A tb m q s2 s1 s0 as wa2 wb2 wa1 wb1 wa0 wb0 bs ts){o:Ho}(ho:HoAt C H o)(f:Far K H a pl ns o)(ap:Ap o q)(k:Kb [o.dr,o.dw,o.dd] H H'):Two2 K C CR CW H' a p1 pl st bl tl gl ns hs A tb m q s2 s1 s0 as wa2 wb2 wa1 wb1 wa0 wb0 bs ts :=
 { h with ba:=h.ba.deed ho f k,fq:=h.fq,vq:=ap.stay ho h.vq k,gb:=h.gb.dl ho.dl k,gt:=h.gt.dl ho.dl k,gg:=h.gg.dl ho.dl k }
theorem Two2.back {K:Aa}{C CR CW:Aj}{H H':Hp}{a p1 pl st bl tl gl:Aj}{ns hs:List Int}{A:Nat→Aj}{tb:Nat→Int×Int}{m:Nat→Int}{q:Ho}{s2 s1 s0:AH}{as:List AH}{wa2 wb2 wa1 wb1 wa0 wb0:Wk}{bs ts:List Int}(h:Two2 K C CR CW H a p1 pl st bl tl gl ns hs A tb m q s2 s1 s0 as wa2 wb2 wa1 wb1 wa0 wb0 bs ts){o:Ho}{d:Deed}{ds:List Deed}(ho:HoAt C H o)(ed:o.ds=d::ds)(f:Far K H a pl ns o)(ap:Ap o q)(k:Kb [o.dr,o.dw,o.dd,d.q1,d.q2] H H')(dl:Dl H [o.dr,o.dw,o.dd,d.q1,d.q2])(rdk:∀q kv,q∉[o.dr,o.dw,o.dd]→Rd H q (.dK kv)→Rd H' q (.dK kv)):Two2 K C CR CW H' a p1 pl st bl tl gl ns hs A tb m q s2 s1 s0 as wa2 wb2 wa1 wb1 wa0 wb0 bs ts :=
 { h with ba:=h.ba.take ho ed f k dl,fq:=h.fq,vq:=ap.back ho ed h.vq k dl rdk,gb:=h.gb.dl dl k,gt:=h.gt.dl dl k,gg:=h.gg.dl dl k }
def sgm (a p1 pl st ox bl qx tl gl:Aj)(z9 z10 z11:Option V):St:=[some (.ref a),some (.ref p1),some (.ref pl),some (.ref st),some (.ref ox),some (.ref bl),some (.ref qx),some (.ref tl),some (.ref gl),z9,z10,z11]
def TailD (K:Aa)(C CR CW:Aj)(D:Ends)(σ:St)(H:Hp):Prop:=∃(a p1 pl st bl tl gl:Aj) (ns hs:List Int) (A:Nat→Aj) (tb:Nat→Int×Int) (m:Nat→Int) (o q:Ho) (s5 s4 s3 s2 s1 s0:AH) (as:List AH) (wa2 wb2 wa1 wb1 wa0 wb0:Wk) (bs ts:List Int) (z9 z10 z11:Option V),σ=sgm a p1 pl st o.x bl q.x tl gl z9 z10 z11∧Two2 K C CR CW H a p1 pl st bl tl gl ns hs A tb m q s2 s1 s0 as wa2 wb2 wa1 wb1 wa0 wb0 bs ts∧VH C CR CW H o (s5::s4::s3::s1::s0::as)∧Nam NM3 s5∧Nam NM3 s4∧Nam NM3 s3∧Ap o q∧Far K H a pl ns o∧∀H',D.rt (.bl true) H'
set_option maxHeartbeats 0 in
theorem wqd {f:Aj}{cdv:Ag}{A:Ae}{outer:List Env}{s:Ab}{H:Hp}{E:XK}(T:Txt K mg qf wz qk q9 qg wv wu wq wm wy qd qz qm qw qq)(c_take_back:MCal P w K mg base qq "take_back" 2 (Qc qq qz))(c_twin:MCal P w K mg base qq "twin" 3 (Jr qq))(c__law_right:Cal P w K mg base "_law_right" 5 (ug K qq qm qw))(c__law_twin_back:Cal P w K mg base "_law_twin_back" 6 (yc K qq qm qw))
  (hr:Room 10 (A.deeper (PyProof.Rows.envOfC "law" (wn s_law) s.heap.objs.size f cdv))) {rest:List Stmt} (h18:(wf s_law).drop 18=rest) :
  PSs (Qg (CXE P w) P w K mg base ["_law_script","_law_row","_law_points","_law_steps_here","_law_house","_law_beside_goings","_law_other","_law_twin_goings","_law_goings","_law_later","_law_turn","_law_third"] "law" (wn s_law) f cdv A outer s H E) rest (TailD K qq qm qw):=by
 have sc:=qzc
 have e18:(wf s_law).drop 18=(wf s_law)[18]'(by decide +kernel)::(wf s_law).drop 19:=ao (by decide +kernel)
 have e19:(wf s_law).drop 19=(wf s_law)[19]'(by decide +kernel)::(wf s_law).drop 20:=ao (by decide +kernel)
 have e20:(wf s_law).drop 20=(wf s_law)[20]'(by decide +kernel)::(wf s_law).drop 21:=ao (by decide +kernel)
 have e21:(wf s_law).drop 21=(wf s_law)[21]'(by decide +kernel)::(wf s_law).drop 22:=ao (by decide +kernel)
 have e22:(wf s_law).drop 22=(wf s_law)[22]'(by decide +kernel)::(wf s_law).drop 23:=ao (by decide +kernel)
 have e23:(wf s_law).drop 23=(wf s_law)[23]'(by decide +kernel)::(wf s_law).drop 24:=ao (by decide +kernel)
 have e24:(wf s_law).drop 24=(wf s_law)[24]'(by decide +kernel)::(wf s_law).drop 25:=ao (by decide +kernel)
 have e25:(wf s_law).drop 25=[]:=by decide +kernel
 rw [←h18,e18,e19,e20,e21,e22,e23,e24,e25]
 clear e18 e19 e20 e21 e22 e23 e24 e25 h18
 refine qx8 (qy (yw aY rfl (zr rfl T.range_ (xx qr qu)) (xj (i:=10) sc.nd rfl (by walk_at "loc")) (wj (zw (kh (pv 4) T.clH c_take_back (hr.mono (by decide)) qh))))
   (qy (zq (PW.pt (u8 (vf (vh (wp c__law_right (hr.mono (by decide)) rfl qh (wx (pv 4) (xx xt (wx (pv 1) (zx (xy xv (pv 2) qr (λ_ _=>rfl)) (wx (pv 8) qu)))))))) (j7 (vf (vh (wp c__law_right (hr.mono (by decide)) rfl qh (wx (pv 4) (xx xt (wx (pv 1) (zx (xy xv (pv 2) qr (λ_ _=>rfl)) (wx (pv 5) qu))))))))))) (wj (w8 j3)) w9)
   (qy (xz (i:=11) sc.nd rfl (by walk_at "loc") (kh (pv 6) T.clH c_twin (hr.mono (by decide)) qh))
   (qy (zq (vf (vh (wp c__law_twin_back (hr.mono (by decide)) rfl qh (wx (pv 6) (wx (pv 1) (wx (pv 2) (wx (pv 8) (wx (pv 5) qu)))))))) (wj (w8 j3)) w9)
   (qy (zq (vf (vh (wp c__law_right (hr.mono (by decide)) rfl qh (wx (pv 11) (xx xt (wx (pv 1) (zx (xy xv (pv 2) qr (λ_ _=>rfl)) (wx (pv 7) qu)))))))) (wj (w8 j3)) w9)
   (qy (zq (vf (vh (wp c__law_right (hr.mono (by decide)) rfl qh (wx (pv 4) (xx xt (wx (pv 1) (zx (xy xv (pv 2) qr (λ_ _=>rfl)) (wx (pv 8) qu)))))))) (wj (w8 j3)) w9)
   (qy (w8 (wp c__law_right (hr.mono (by decide)) rfl qh (wx (pv 11) (xx xt (wx (pv 1) (zx (xy xv (pv 2) qr (λ_ _=>rfl)) (zp (w4 Y1 (pv 8) (k6 (zx (xy xv (pv 3) qr (λ_ _=>rfl)) qu))) qu)))))))
   w9))))))) ?_
 rintro D σ H0 ⟨a,p1,pl,st,bl,tl,gl,ns,hs,A,tb,m,o,q,s5,s4,s3,s2,s1,s0,as,wa2,wb2,wa1,wb1,wa0,wb0,bs,ts,z9,z10,z11,rfl,t2,v,nm5,nm4,nm3,ap,far,k⟩
 have l3:NM3.length=3:=rfl
 refine exI rfl ⟨(by decide),(by decide),yz (λj σ H1=>∃o' z10,σ=sgm a p1 pl st o'.x bl q.x tl gl z9 z10 z11∧Two2 K qq qm qw H1 a p1 pl st bl tl gl ns hs A tb m q s2 s1 s0 as wa2 wb2 wa1 wb1 wa0 wb0 bs ts∧VH qq qm qw H1 o' (([s5,s4,s3].drop j)++s1::s0::as)∧Ap o' q∧Far K H1 a pl ns o') ⟨o,z10,rfl,t2,v,ap,far⟩ ?_ ?_⟩
 ·rintro j σ H1 hj ⟨o',z10',rfl,t2,v,ap,far⟩
  obtain ⟨dx,hx⟩:=v.h.hs.ob
  refine exI rfl ⟨o'.x,dx,exI rfl ⟨hx,x6 (by decide +kernel) (by decide +kernel) (by decide +kernel),?_⟩⟩
  dsimp only [j8]
  have st3:∃sa sb rest,([s5,s4,s3].drop j)++s1::s0::as=sa::sb::rest∧([s5,s4,s3].drop (j+1))++s1::s0::as=sb::rest∧Nam NM3 sa:=by
   rcases (by lia:j=0∨j=1∨j=2) with rfl|rfl|rfl
   ·exact ⟨_,_,_,rfl,rfl,nm5⟩
   ·exact ⟨_,_,_,rfl,rfl,nm4⟩
   ·exact ⟨_,_,_,rfl,rfl,nm3⟩
  obtain ⟨sa,sb,rs,e1,e2,nma⟩:=st3
  rw [e1] at v
  have lens:=v.lens nma
  refine v.take (by lia) (by lia) λH2 o2 d2 pv ed v2 kb dl rd=>?_
  refine ⟨o2,some (.int (0+j)),?_,t2.back v.h ed far ap kb dl rd,by rw [e2];exact v2,ap.prv pv,far.prv pv⟩
  rw [pv.x]
  rfl
 ·rintro σ H1 ⟨o',z10',rfl,t2,v,ap,far⟩
  have v:VH qq qm qw H1 o' (s1::s0::as):=v
  refine exI rfl (exI rfl (exI rfl (exX rfl rfl (SqL.of t2.ba.pl) (xm (j:=0) rfl) (exI rfl ⟨p1,A 0,gl,o',"a",hs,(tb 0).1,(tb 0).2,[0,m 0],s1,_,wa1,rfl,v,t2.p1.a,t2.ia1,t2.ba.go (by decide) t2.gg,λH2 g1=>?_⟩))))
  refine exI rfl (ju ?_)
  have t21:=t2.same g1
  have v1:=v.same g1
  refine exI rfl (exI rfl (exI rfl (exX rfl rfl (SqL.of t21.ba.pl) (xm (j:=1) rfl) (exI rfl ⟨p1,A 1,bl,o',"bc",hs,(tb 1).1,(tb 1).2,bs,s1,_,wb1,rfl,v1,t2.p1.b,t2.ib1,t21.ba.go (by decide) t21.gb,λH3 g2=>?_⟩))))
  refine exI rfl (ju ?_)
  have t22:=t21.same g2
  have v2:=v1.same g2
  obtain ⟨dq,hq⟩:=t22.vq.h.hs.ob
  refine exI rfl ⟨q.x,dq,exI rfl ⟨hq,x6 (by decide +kernel) (by decide +kernel) (by decide +kernel),q.x,q.dr,q.dw,q.dd,q.R,q.W,exI rfl ⟨t22.vq.h.hs,λH4 x' dr' dw' dd' s4' n1 n2 n3 n4 hse'=>?_⟩⟩⟩
  obtain ⟨vt,apt⟩:=t22.vq.twin s4' n1 n2 n3 n4 hse'
  have t24:=t22.same s4'
  have v4:=v2.same s4'
  refine ⟨_,rfl,_,rfl,_,rfl,_,rfl,_,rfl,a,p1,pl,st,gl,bl,q,ns,hs,A,tb,m,s2,s1,s0,as,wa1,wb1,wa0,wb0,[0,m 0],bs,[(o',s1::s0::as),(⟨x',dr',dw',dd',q.R,q.W,q.ds⟩,s2::s1::s0::as)],rfl,t24.vq,t24.p2.nm,t24.p1,t24.p0,t24.ia1,t24.ib1,t24.ia0,t24.ib0,t24.ba,t24.fq,t24.gg,t24.gb,λx hx=>?_,λH5 ba5 oth5 ki5=>?_⟩
  ·simp only [ai,aj,be] at hx
   rcases hx with rfl|rfl
   ·exact ⟨v4,ap.symm⟩
   ·exact ⟨vt,apt⟩
  refine exI rfl (ju ?_)
  have v5:=oth5 _ (aO ..)
  have vt5:=oth5 _ (aC _ (aO ..))
  have gt5:=ki5 _ _ t24.gt
  have gg5:=ki5 _ _ t24.gg
  refine exI rfl (exI rfl (exI rfl (exX rfl rfl (SqL.of ba5.pl) (xm (j:=1) rfl) (exI rfl ⟨p1,A 1,tl,⟨x',dr',dw',dd',q.R,q.W,q.ds⟩,"bc",hs,(tb 1).1,(tb 1).2,ts,s2,_,wb2,rfl,vt5,t24.p2.b,t24.ib2,ba5.go (by decide) gt5,λH6 g6=>?_⟩))))
  refine exI rfl (ju ?_)
  have ba6:=ba5.same g6
  refine exI rfl (exI rfl (exI rfl (exX rfl rfl (SqL.of ba6.pl) (xm (j:=0) rfl) (exI rfl ⟨p1,A 0,gl,o',"a",hs,(tb 0).1,(tb 0).2,[0,m 0],s1,_,wa1,rfl,(v5.same g6),t24.p1.a,t24.ia1,ba6.go (by decide) (gg5.same g6),λH7 g7=>?_⟩))))
  refine exI rfl (ju ?_)
  have g67:=g6.trans g7
  have ba7:=ba5.same g67
  have gg7:=gg5.same g67
  refine exI rfl (exI rfl (exI rfl (exX rfl rfl (SqL.of ba7.pl) (xm (j:=0) rfl) (exI rfl (exI rfl (exX rfl rfl (SqL.of ba7.st) (xm (j:=1) rfl) ⟨sz1,λl8 n8=>?_⟩))))))
  have s8:=Same.upd (H:=H7) (o:=.lst [.int (m 1)]) n8
  have f8:upd H7 l8 (.lst [.int (m 1)]) l8=some (.lst [.int (m 1)]):=q8
  generalize upd H7 l8 (.lst [.int (m 1)])=H8 at s8 f8
  refine ⟨gl,l8,w6 rfl rfl ⟨s8 _ _ gg7.at_,f8,(show 3≤sizeLine by decide),λl9 n9=>?_⟩⟩
  have s9:=s8.trans (Same.upd (H:=H8) (o:=.lst ([0,m 0].map V.int++[.int (m 1)])) n9)
  have f9:upd H8 l9 (.lst ([0,m 0].map V.int++[.int (m 1)])) l9=some (.lst ([0,m 0,m 1].map V.int)):=q8
  generalize upd H8 l9 (.lst ([0,m 0].map V.int++[.int (m 1)]))=H9 at s9 f9
  have m0:=(ba5.mm 0).1
  have m1:=(ba5.mm 1).1
  have g9:GL H9 l9 [0,m 0,m 1]:=⟨f9,λx hx=>by
   simp only [ai,aj,be] at hx
   rcases hx with rfl|rfl|rfl <;> lia,bC _ _,(show 3≤100 by decide)⟩
  exact ⟨p1,A 0,l9,⟨x',dr',dw',dd',q.R,q.W,q.ds⟩,"a",hs,(tb 0).1,(tb 0).2,[0,m 0,m 1],s2,_,wa2,rfl,vt5.same (g67.trans s9),t24.p2.a,t24.ia2,(ba7.same s9).go (by decide) g9,λHA sA=>k _⟩
end
section
variable {P:Ac}{w:Ah}{K:Aa}{mg:Str→Option Ag}{base:Heap}{qf:Aj}{wz:Aj}{qk:Aj}{q9:Aj}{qg:Aj}{wv:Aj}{wu:Aj}{wq:Aj}{wm:Aj}{wy:Aj}{qd:Aj}{qz:Aj}{qm:Aj}{qw:Aj}{qq:Aj}
theorem qu9 {a:AH}{n:Str}:(a.delW n).ws n=none:=ak rfl
theorem qjs {a:AH}{n m:Str}(h:m≠n):(a.delW n).ws m=a.ws m:=ag h
def TailC (K:Aa)(C CR CW:Aj)(D:Ends)(σ:St)(H:Hp):Prop:=∃(a p1 pl st bl tl gl:Aj) (ns hs:List Int) (A:Nat→Aj) (tb:Nat→Int×Int) (m:Nat→Int) (o q:Ho) (s2 s1 s0:AH) (as:List AH) (wa2 wb2 wa1 wb1 wa0 wb0:Wk) (bs ts:List Int) (z9 z10 z11:Option V),σ=sgm a p1 pl st o.x bl q.x tl gl z9 z10 z11∧Two2 K C CR CW H a p1 pl st bl tl gl ns hs A tb m q s2 s1 s0 as wa2 wb2 wa1 wb1 wa0 wb0 bs ts∧VH C CR CW H o (s1::s0::as)∧Ap o q∧Far K H a pl ns o∧o.ds.length≤20∧bs.length≤10∧∀H',D.rt (.bl true) H'
theorem ur {H:Hp}{o o':Ho}(n:Nxt H o o'):o'.ds.length=o.ds.length+1:=by
 obtain ⟨d,e,_⟩:=n.ds
 rw [e]
 rfl
set_option maxHeartbeats 0 in
theorem wq9 {f:Aj}{cdv:Ag}{A:Ae}{outer:List Env}{s:Ab}{H:Hp}{E:XK}(T:Txt K mg qf wz qk q9 qg wv wu wq wm wy qd qz qm qw qq)(c__law_right:Cal P w K mg base "_law_right" 5 (ug K qq qm qw))(c_leave:MCal P w K mg base qq "leave" 3 (Qp qq qd))(c_place:MCal P w K mg base qq "place" 5 (Q4 K qq qm qw wq wm wy qk q9))(c__law_going:Cal P w K mg base "_law_going" 9 (Wz K qq qm qw))
  (hr:Room 10 (A.deeper (PyProof.Rows.envOfC "law" (wn s_law) s.heap.objs.size f cdv))) {rest rest18:List Stmt} (h11:(wf s_law).drop 11=rest) (h18:(wf s_law).drop 18=rest18) (hD:PSs (Qg (CXE P w) P w K mg base ["_law_script","_law_row","_law_points","_law_steps_here","_law_house","_law_beside_goings","_law_other","_law_twin_goings","_law_goings","_law_later","_law_turn","_law_third"] "law" (wn s_law) f cdv A outer s H E) rest18 (TailD K qq qm qw)) :
  PSs (Qg (CXE P w) P w K mg base ["_law_script","_law_row","_law_points","_law_steps_here","_law_house","_law_beside_goings","_law_other","_law_twin_goings","_law_goings","_law_later","_law_turn","_law_third"] "law" (wn s_law) f cdv A outer s H E) rest (TailC K qq qm qw):=by
 have sc:=qzc
 have e11:(wf s_law).drop 11=(wf s_law)[11]'(by decide +kernel)::(wf s_law).drop 12:=ao (by decide +kernel)
 have e12:(wf s_law).drop 12=(wf s_law)[12]'(by decide +kernel)::(wf s_law).drop 13:=ao (by decide +kernel)
 have e13:(wf s_law).drop 13=(wf s_law)[13]'(by decide +kernel)::(wf s_law).drop 14:=ao (by decide +kernel)
 have e14:(wf s_law).drop 14=(wf s_law)[14]'(by decide +kernel)::(wf s_law).drop 15:=ao (by decide +kernel)
 have e15:(wf s_law).drop 15=(wf s_law)[15]'(by decide +kernel)::(wf s_law).drop 16:=ao (by decide +kernel)
 have e16:(wf s_law).drop 16=(wf s_law)[16]'(by decide +kernel)::(wf s_law).drop 17:=ao (by decide +kernel)
 have e17:(wf s_law).drop 17=(wf s_law)[17]'(by decide +kernel)::(wf s_law).drop 18:=ao (by decide +kernel)
 rw [←h11,e11,e12,e13,e14,e15,e16,e17,h18]
 clear e11 e12 e13 e14 e15 e16 e17 h11 h18
 refine qx8 (qy (zq (PW.pt (u8 (vf (vh (wp c__law_right (hr.mono (by decide)) rfl qh (wx (pv 4) (xx xt (wx (pv 1) (zx (xy xv (pv 2) qr (λ_ _=>rfl)) (wx (pv 8) qu)))))))) (j7 (vf (vh (wp c__law_right (hr.mono (by decide)) rfl qh (wx (pv 4) (xx xt (wx (pv 1) (zx (xy xv (pv 2) qr (λ_ _=>rfl)) (wx (pv 5) qu))))))))))) (wj (w8 j3)) w9)
   (qy (zq (vf (vh (wp c__law_right (hr.mono (by decide)) rfl qh (wx (pv 6) (xx xt (wx (pv 1) (zx (xy xv (pv 2) qr (λ_ _=>rfl)) (zp (w4 Y1 (pv 8) (k6 (zx (xy xv (pv 3) qr (λ_ _=>rfl)) qu))) qu)))))))) (wj (w8 j3)) w9)
   (qy (zq (vf (vh (wp c__law_right (hr.mono (by decide)) rfl qh (wx (pv 6) (xx xt (wx (pv 1) (zx (xy xv (pv 2) qr (λ_ _=>rfl)) (wx (pv 7) qu)))))))) (wj (w8 j3)) w9)
   (qy (zw (xp (pv 4) T.clH c_leave (hr.mono (by decide)) qh (xx xt qu)))
   (qy (zw (xp (pv 4) T.clH c_place (hr.mono (by decide)) qh (xx xt (xx xt (zx (xy xv (pv 2) qr (λ_ _=>rfl)) qu)))))
   (qy (xz (i:=9) sc.nd rfl (by walk_at "loc") (w4 Y1 (pv 5) (wp c__law_going (hr.mono (by decide)) rfl qh (wx (pv 0) (xx qr (wx (pv 4) (zx (xy xv (pv 3) qr (λ_ _=>rfl)) qu)))))))
   (qy (zq (PW.pt (u8 (vf (vh (wp c__law_right (hr.mono (by decide)) rfl qh (wx (pv 4) (xx xt (wx (pv 1) (zx (xy xv (pv 2) qr (λ_ _=>rfl)) (wz9 (k6 (xx qr (zx (xy xv (pv 3) qr (λ_ _=>rfl)) qu))) qu)))))))) (j7 (vf (vh (wp c__law_right (hr.mono (by decide)) rfl qh (wx (pv 4) (xx xt (wx (pv 1) (zx (xy xv (pv 2) qr (λ_ _=>rfl)) (wx (pv 9) qu))))))))))) (wj (w8 j3)) w9)
   hD))))))) ?_
 rintro D σ H0 ⟨a,p1,pl,st,bl,tl,gl,ns,hs,A,tb,m,o,q,s2,s1,s0,as,wa2,wb2,wa1,wb1,wa0,wb0,bs,ts,z9,z10,z11,rfl,t2,v,ap,far,lD,lbs,k⟩
 have l3:NM3.length=3:=rfl
 refine exI rfl (exI rfl (exI rfl (exX rfl rfl (SqL.of t2.ba.pl) (xm (j:=0) rfl) (exI rfl ⟨p1,A 0,gl,o,"a",hs,(tb 0).1,(tb 0).2,[0,m 0],s1,_,wa1,rfl,v,t2.p1.a,t2.ia1,t2.ba.go (by decide) t2.gg,λH2 g1=>?_⟩))))
 refine exI rfl (ju ?_)
 have t21:=t2.same g1
 have v1:=v.same g1
 refine exI rfl (exI rfl (exI rfl (exX rfl rfl (SqL.of t21.ba.pl) (xm (j:=1) rfl) (exI rfl ⟨p1,A 1,bl,o,"bc",hs,(tb 1).1,(tb 1).2,bs,s1,_,wb1,rfl,v1,t2.p1.b,t2.ib1,t21.ba.go (by decide) t21.gb,λH3 g2=>?_⟩))))
 refine exI rfl (ju ?_)
 have t22:=t21.same g2
 have v2:=v1.same g2
 refine exI rfl (exI rfl (exI rfl (exX rfl rfl (SqL.of t22.ba.pl) (xm (j:=0) rfl) (exI rfl (exI rfl (exX rfl rfl (SqL.of t22.ba.st) (xm (j:=1) rfl) ⟨sz1,λl4 n4=>?_⟩))))))
 have s4:=Same.upd (H:=H3) (o:=.lst [.int (m 1)]) n4
 have f4:upd H3 l4 (.lst [.int (m 1)]) l4=some (.lst [.int (m 1)]):=q8
 generalize upd H3 l4 (.lst [.int (m 1)])=H4 at s4 f4
 refine ⟨gl,l4,w6 rfl rfl ⟨s4 _ _ t22.gg.at_,f4,(show 3≤sizeLine by decide),λl5 n5=>?_⟩⟩
 have s5:=s4.trans (Same.upd (H:=H4) (o:=.lst ([0,m 0].map V.int++[.int (m 1)])) n5)
 have f5:upd H4 l5 (.lst ([0,m 0].map V.int++[.int (m 1)])) l5=some (.lst ([0,m 0,m 1].map V.int)):=q8
 generalize upd H4 l5 (.lst ([0,m 0].map V.int++[.int (m 1)]))=H5 at s5 f5
 have m0:=(t2.ba.mm 0).1
 have m1:=(t2.ba.mm 1).1
 have m2:=t2.ba.mm 2
 have g5:GL H5 l5 [0,m 0,m 1]:=⟨f5,λx hx=>by
  simp only [ai,aj,be] at hx
  rcases hx with rfl|rfl|rfl <;> lia,bC _ _,(show 3≤100 by decide)⟩
 have t25:=t22.same s5
 refine ⟨p1,A 0,l5,q,"a",hs,(tb 0).1,(tb 0).2,[0,m 0,m 1],s2,_,wa2,rfl,t25.vq,t25.p2.a,t25.ia2,t25.ba.go (by decide) g5,λH6 s6=>?_⟩
 refine exI rfl (ju ?_)
 have t26:=t25.same s6
 refine exI rfl (exI rfl (exI rfl (exX rfl rfl (SqL.of t26.ba.pl) (xm (j:=1) rfl) (exI rfl ⟨p1,A 1,tl,q,"bc",hs,(tb 1).1,(tb 1).2,ts,s2,_,wb2,rfl,t26.vq,t26.p2.b,t26.ib2,t26.ba.go (by decide) t26.gt,λH7 g7=>?_⟩))))
 refine exI rfl (ju ?_)
 have t27:=t26.same g7
 have v7:=v2.same ((s5.trans s6).trans g7)
 clear t2 t21 t22 t25 t26 v v1 v2 f4 f5 g5 s4 s5 s6 g7 g1 g2
 obtain ⟨dx,hx⟩:=v7.h.hs.ob
 refine exI rfl ⟨o.x,dx,exI rfl ⟨hx,x6 (by decide +kernel) (by decide +kernel) (by decide +kernel),?_⟩⟩
 dsimp only [vu,j8,tC]
 refine v7.leaves t27.p1.nm (by decide) (by lia) t27.p1.a λH8 o8 nx8 v8 kb8=>?_
 have t28:=t27.deed v7.h far ap kb8
 have ap8:=ap.nxt t27.vq.h nx8
 have far8:Far K H8 a pl ns o8:=far.nxt nx8
 have ld8:=ur nx8
 have nm8:=t27.p1.nm.delW "a"
 obtain ⟨c1,c2,hp,on⟩:=t28.ba.pk 2 (by decide)
 obtain ⟨dx,hx⟩:=v8.h.hs.ob
 rw [←nx8.x]
 refine exI rfl ⟨o8.x,dx,exI rfl ⟨hx,x6 (by decide +kernel) (by decide +kernel) (by decide +kernel),exI rfl (exX rfl rfl (SqL.of t28.ba.pl) (xm (j:=2) rfl) ?_)⟩⟩
 dsimp only [vu,j8,tC]
 refine v8.places nm8 (by decide) (by lia) (by decide +kernel) (by decide +kernel) qu9 t27.p1.rr (t28.ba.pt 2 (by decide)) c1 ((Sm.small (n:=65) (by lia) (by lia) (by decide)).mono (by decide)) hp λH9 o9 nx9 v9 kb9=>?_
 have t29:=t28.deed v8.h far8 ap8 kb9
 have ap9:=ap8.nxt t28.vq.h nx9
 have far9:Far K H9 a pl ns o9:=far8.nxt nx9
 have ld9:=ur nx9
 have pr9:Pair hs ((s1.delW "a").putW "a" ⟨"r",wc (tb 2).1 (tb 2).2,[([.inl (wc (tb 2).1 (tb 2).2).1,.inl (wc (tb 2).1 (tb 2).2).2],.int 1)]⟩) ⟨"r",wc (tb 2).1 (tb 2).2,[([.inl (wc (tb 2).1 (tb 2).2).1,.inl (wc (tb 2).1 (tb 2).2).2],.int 1)]⟩ wb1:=⟨t27.p1.rr,uu,(yf ne_ab).trans ((qjs ne_ab).trans t27.p1.b),nm8.putW nm_a _⟩
 have is9:IsG hs tb 2 [0] ⟨"r",wc (tb 2).1 (tb 2).2,[([.inl (wc (tb 2).1 (tb 2).2).1,.inl (wc (tb 2).1 (tb 2).2).2],.int 1)]⟩:=WkIs.new c1 hp
 generalize ((s1.delW "a").putW "a" ⟨"r",wc (tb 2).1 (tb 2).2,[([.inl (wc (tb 2).1 (tb 2).2).1,.inl (wc (tb 2).1 (tb 2).2).2],.int 1)]⟩)=s4 at v9 pr9
 generalize (⟨"r",wc (tb 2).1 (tb 2).2,[([.inl (wc (tb 2).1 (tb 2).2).1,.inl (wc (tb 2).1 (tb 2).2).2],.int 1)]⟩:Wk)=wa4 at pr9 is9
 rw [←nx9.x]
 refine exI rfl (exI rfl (exI rfl (exI rfl (exX rfl rfl (SqL.of t29.ba.st) (xm (j:=2) rfl) ⟨a,o9,ns,_,_,hs,s4,_,wa4,wb1,rfl,t29.ba.sc,(by decide),m2.1,m2.2,v9,pr9,is9.wh,t29.ib1.wh,(by lia),λHA oA lA s5 g wa5 wb5 nxA vA prA isA isB hg kbA flA=>?_⟩))))
 have t2A:=t29.deed v9.h far9 ap9 kbA
 have apA:=ap9.nxt t29.vq.h nxA
 have farA:Far K HA a pl ns oA:=far9.nxt nxA
 have ia5:=isA _ _ _ (Y8 c1) is9
 obtain ⟨d1,d2,hp1,on1⟩:=t2A.ba.pk 1 (by decide)
 have ib5:=isB _ _ _ (Y8 d1) t29.ib1
 rw [←nxA.x]
 have lgb:(bs++g).length≤20:=by
  rw [aG]
  rcases hg with rfl|rfl
  ·show bs.length+0≤20;lia
  ·show bs.length+1≤20;lia
 have lm:(bs.map V.int).length+(g.map V.int).length=(bs++g).length:=by rw [ac,ac,aG]
 have big:(1000000:Nat)<sizeLine:=by decide
 refine ⟨bl,lA,w6 rfl rfl ⟨t2A.gb.at_,flA,(by lia),λlB nB=>?_⟩⟩
 have sB:=Same.upd (H:=HA) (o:=.lst (bs.map V.int++g.map V.int)) nB
 have fB:upd HA lB (.lst (bs.map V.int++g.map V.int)) lB=some (.lst ((bs++g).map V.int)):=by rw [q8,aT]
 generalize upd HA lB (.lst (bs.map V.int++g.map V.int))=HB at sB fB
 have t2B:=t2A.same sB
 have vB:=vA.same sB
 have gB:GL HB lB (bs++g):=⟨fB,λx hx=>by
  rcases bg.mp hx with hx|hx
  ·exact t2B.gb.g0 x hx
  ·rcases hg with rfl|rfl
   ·cases hx
   ·rw [aq.mp hx];exact m2.1,dj t2B.gb.ne _,by lia⟩
 refine exI rfl (exI rfl (exI rfl (exX rfl rfl (SqL.of t2B.ba.pl) (xm (j:=2) rfl) (exI rfl (exX rfl rfl (SqL.of t2B.ba.st) (xm (j:=2) rfl) ⟨sz2,λlC nC=>?_⟩)))))
 have sC:=Same.upd (H:=HB) (o:=.lst [.int 0,.int (m 2)]) nC
 have fC:upd HB lC (.lst [.int 0,.int (m 2)]) lC=some (.lst ([0,m 2].map V.int)):=q8
 generalize upd HB lC (.lst [.int 0,.int (m 2)])=HC at sC fC
 have t2C:=t2B.same sC
 have vC:=vB.same sC
 have gC:GL HC lC [0,m 2]:=⟨fC,λx hx=>by
  simp only [ai,aj,be] at hx
  rcases hx with rfl|rfl
  ·exact di _
  ·exact m2.1,bC _ _,(show 2≤100 by decide)⟩
 refine ⟨p1,A 2,lC,oA,"a",hs,(tb 2).1,(tb 2).2,[0,m 2],s5,_,wa5,rfl,vC,prA.a,ia5,t2C.ba.go (by decide) gC,λHD sD=>?_⟩
 refine exI rfl (ju ?_)
 have t2D:=t2C.same sD
 have vD:=vC.same sD
 have gD:=(gB.same sC).same sD
 refine exI rfl (exI rfl (exI rfl (exX rfl rfl (SqL.of t2D.ba.pl) (xm (j:=1) rfl) (exI rfl ⟨p1,A 1,lB,oA,"bc",hs,(tb 1).1,(tb 1).2,(bs++g),s5,_,wb5,rfl,vD,prA.b,ib5,t2D.ba.go (by decide) gD,λHE gE=>?_⟩))))
 refine exI rfl (ju ?_)
 exact ⟨a,p1,pl,st,bl,tl,gl,ns,hs,A,tb,m,oA,q,s5,s4,_,s2,s1,s0,as,wa2,wb2,wa1,wb1,wa0,wb0,bs,ts,_,_,_,rfl,t2D.same gE,vD.same gE,prA.nm,pr9.nm,nm8,apA,farA,k⟩
end
section
variable {P:Ac}{w:Ah}{K:Aa}{mg:Str→Option Ag}{base:Heap}{qf:Aj}{wz:Aj}{qk:Aj}{q9:Aj}{qg:Aj}{wv:Aj}{wu:Aj}{wq:Aj}{wm:Aj}{wy:Aj}{qd:Aj}{qz:Aj}{qm:Aj}{qw:Aj}{qq:Aj}
def AH.nil:AH:=⟨λ_=>none,λ_=>none⟩
theorem VH.nil {C CR CW:Aj}{H:Hp}{x dr dw dd:Aj}(h:Hse C H x dr dw dd [] [] []):VH C CR CW H ⟨x,dr,dw,dd,[],[],[]⟩ [AH.nil] :=
 ⟨⟨h,(λd hd=>nomatch hd),(λq hq=>nomatch hq),trivial,aU,aU,(λm v e=>nomatch e),(λm v e=>nomatch e)⟩,⟨⟨(λ_=>rfl),(λ_=>rfl),⟨(λ_ _ e=>nomatch e),(λ_ _ e=>nomatch e)⟩⟩,.inl ⟨rfl,rfl⟩⟩⟩
theorem Nam.nil {NM:List Str}:Nam NM AH.nil:=⟨(λ_ e=>nomatch e),(λ_ e=>nomatch e)⟩
theorem Nam.putR {NM:List Str}{a:AH}(h:Nam NM a){n:Str}(hn:n∈NM)(hs:List Int):Nam NM (a.putR n hs):=⟨λm e=>by
 have e:(if m=n then some hs else a.rs m).isSome=true:=e
 by_cases z:m=n
 ·rw [z];exact hn
 ·rw [ag z] at e
  exact h.r m e,h.w⟩
theorem W8 {a:AH}{n:Str}{hs:List Int}:(a.putR n hs).rs n=some hs:=ak rfl
theorem Rep.putR {CR CW:Aj}{H:Hp}{f g:Key→Option V}{a:AH}(h:Rep CR CW H f g a){n:Str}{hs:List Int}{r:Aj}(ra:RoadAt CR H r hs)(lo:x4 hs)(hw:∀m w,a.ws m=some w→w.wh=n→HPt hs w.pt):Rep CR CW H (ovr f [(.inr n,.ref r)]) (ovr g []) (a.putR n hs):=by
 refine ⟨λm=>?_,h.w,λm hs' e=>?_,λm w e=>?_⟩
 ·rw [qxu]
  show RRep CR H _ (if m=n then some hs else a.rs m)
  by_cases z:m=n
  ·rw [ak z,ak (by rw [z]),ag (λq=>by cases q)]
   exact ⟨r,rfl,ra⟩
  ·rw [ag z,ag (λq=>z (by injection q))]
   exact h.r m
 ·have e:(if m=n then some hs else a.rs m)=some hs':=e
  by_cases z:m=n
  ·rw [ak z] at e
   cases e
   exact lo
  ·rw [ag z] at e
   exact h.ok.lo m hs' e
 ·obtain ⟨tm,hs',er,hp⟩:=h.ok.wo m w e
  by_cases z:w.wh=n
  ·exact ⟨tm,hs,ak z,hw m w e z⟩
  ·exact ⟨tm,hs',(ag z).trans er,hp⟩
theorem VH.road {C CR CW:Aj}{H H':Hp}{o:Ho}{a:AH}{as:List AH}(v:VH C CR CW H o (a::as)){n:Str}{hs:List Int}(g:RDeed C CR H H' o.x o.dr o.dw o.dd o.R o.W (j0 o.ds) n hs)(lo:x4 hs)(hw:∀m w,a.ws m=some w→w.wh=n→HPt hs w.pt):∃o',Nxt H o o'∧VH C CR CW H' o' (a.putR n hs::a::as)∧Kb [o.dr,o.dw,o.dd] H H':=by
 obtain ⟨r,gd,ra⟩:=g.g
 exact v.did gd qjz aU (show 1≤1000 by decide) (aB _) qv8 Q6 ww5 qx1 λkb=>(v.rep.dl v.h.dl kb).putR ra lo hw
theorem VH.lays {K:Aa}{C CR CW CN CT CL:Aj}{H:Hp}{o:Ho}{a:AH}{as:List AH}{n:Str}{hs:List Int}{p:Aj}{Q:VK}{E:XK}(v:VH C CR CW H o (a::as)){NM:List Str}(nm:Nam NM a)(lN:NM.length≤100)(lD:o.ds.length≤10000)(nn:jj n=true)(ln:n.length≤1000)(en:a.rs n=none)(fp:H p=some (.lst (hs.map V.int)))(lo:x4 hs)
  (k:∀H' o',Nxt H o o'→VH C CR CW H' o' (a.putR n hs::a::as)→Kb [o.dr,o.dw,o.dd] H H'→Q .non H'):qy0 K C CR CN CT CL [.ref o.x,.str n,.ref p] H Q E:=by
 have vn:=v.rep.noR en
 have lens:=v.lens nm
 refine ⟨o.x,o.dr,o.dw,o.dd,p,o.R,o.W,_,n,hs,rfl,v.h.hs,Y0 _,by lia,by lia,by rw [Wj];lia,ln,fp,λ_ _ _ H' rd=>?_,(λz=>by rw [nn] at z;cases z),(λ_ z=>by rw [vn] at z;cases z),λ_ _ z=>absurd lo z⟩
 obtain ⟨o',nx,v',kb⟩:=v.road rd lo λm w e hw=>by
  obtain ⟨_,hs',er,_⟩:=v.rep.ok.wo m w e
  rw [hw,en] at er
  cases er
 exact k H' o' nx v' kb
def TailB (K:Aa)(C CR CW:Aj)(D:Ends)(σ:St)(H:Hp):Prop:=∃(a p1 pl st:Aj) (ns hs:List Int) (A:Nat→Aj) (tb:Nat→Int×Int) (m:Nat→Int) (o:Ho) (s0:AH) (as:List AH) (wa0 wb0:Wk),σ=[some (.ref a),some (.ref p1),some (.ref pl),some (.ref st),some (.ref o.x),none,none,none,none,none,none,none]∧Base K H a p1 pl st ns hs A tb m∧Far K H a pl ns o∧VH C CR CW H o (s0::as)∧Pair hs s0 wa0 wb0∧IsG hs tb 0 [0] wa0∧IsG hs tb 1 [0] wb0∧o.ds.length≤5∧∀H',D.rt (.bl true) H'
set_option maxHeartbeats 0 in
theorem qu7 {f:Aj}{cdv:Ag}{A:Ae}{outer:List Env}{s:Ab}{H:Hp}{E:XK}(T:Txt K mg qf wz qk q9 qg wv wu wq wm wy qd qz qm qw qq)(c__law_going:Cal P w K mg base "_law_going" 9 (Wz K qq qm qw))(c_twin:MCal P w K mg base qq "twin" 3 (Jr qq))
  (hr:Room 10 (A.deeper (PyProof.Rows.envOfC "law" (wn s_law) s.heap.objs.size f cdv))) {rest rest11:List Stmt} (h7:(wf s_law).drop 7=rest) (h11:(wf s_law).drop 11=rest11) (hC:PSs (Qg (CXE P w) P w K mg base ["_law_script","_law_row","_law_points","_law_steps_here","_law_house","_law_beside_goings","_law_other","_law_twin_goings","_law_goings","_law_later","_law_turn","_law_third"] "law" (wn s_law) f cdv A outer s H E) rest11 (TailC K qq qm qw)) :
  PSs (Qg (CXE P w) P w K mg base ["_law_script","_law_row","_law_points","_law_steps_here","_law_house","_law_beside_goings","_law_other","_law_twin_goings","_law_goings","_law_later","_law_turn","_law_third"] "law" (wn s_law) f cdv A outer s H E) rest (TailB K qq qm qw):=by
 have sc:=qzc
 have e7:(wf s_law).drop 7=(wf s_law)[7]'(by decide +kernel)::(wf s_law).drop 8:=ao (by decide +kernel)
 have e8:(wf s_law).drop 8=(wf s_law)[8]'(by decide +kernel)::(wf s_law).drop 9:=ao (by decide +kernel)
 have e9:(wf s_law).drop 9=(wf s_law)[9]'(by decide +kernel)::(wf s_law).drop 10:=ao (by decide +kernel)
 have e10:(wf s_law).drop 10=(wf s_law)[10]'(by decide +kernel)::(wf s_law).drop 11:=ao (by decide +kernel)
 rw [←h7,e7,e8,e9,e10,h11]
 clear e7 e8 e9 e10 h7 h11
 refine qx8 (qy (xz (i:=5) sc.nd rfl (by walk_at "loc") (w4 Y1 (k6 (xx qr qu)) (wp c__law_going (hr.mono (by decide)) rfl qh (wx (pv 0) (xx qr (wx (pv 4) (zx (xy xv (pv 3) qr (λ_ _=>rfl)) qu)))))))
   (qy (xz (i:=6) sc.nd rfl (by walk_at "loc") (kh (pv 4) T.clH c_twin (hr.mono (by decide)) qh))
   (qy (xz (i:=7) sc.nd rfl (by walk_at "loc") (w4 Y1 (pv 5) (wp c__law_going (hr.mono (by decide)) rfl qh (wx (pv 0) (xx qr (wx (pv 6) (zx (xy xv (pv 3) qr (λ_ _=>rfl)) qu)))))))
   (qy (xz (i:=8) sc.nd rfl (by walk_at "loc") (k6 (xx qr (zx (xy xv (pv 3) qr (λ_ _=>rfl)) qu))))
   hC)))) ?_
 rintro D σ H0 ⟨a,p1,pl,st,ns,hs,A,tb,m,o,s0,as,wa0,wb0,rfl,ba,far,v,pr,ia0,ib0,lD,k⟩
 have m0:=ba.mm 0
 have m1:=ba.mm 1
 have c0:=(ba.pk 0 (by decide)).1
 have c1:=(ba.pk 1 (by decide)).1
 have big:(1000000:Nat)<sizeLine:=by decide
 refine ⟨sz1,λl0 n0=>?_⟩
 have t0:=Same.upd (H:=H0) (o:=.lst [.int 0]) n0
 have f0:upd H0 l0 (.lst [.int 0]) l0=some (.lst [.int 0]):=q8
 generalize upd H0 l0 (.lst [.int 0])=H1 at t0 f0
 have ba1:=ba.same t0
 have v1:=v.same t0
 have g1:=qxr f0
 refine exI rfl (exI rfl (exI rfl (exX rfl rfl (SqL.of ba1.st) (xm (j:=0) rfl) ⟨a,o,ns,_,_,hs,s0,_,wa0,wb0,rfl,ba1.sc,(by decide),m0.1,m0.2,v1,pr,ia0.wh,ib0.wh,(by lia),λH2 o2 l2 s1 g wa1 wb1 nx2 v2 pr2 isA isB hg kb2 fl2=>?_⟩)))
 have ba2:=ba1.deed v1.h far kb2
 have g2:=g1.dl v1.h.dl kb2
 have far2:Far K H2 a pl ns o2:=far.nxt nx2
 have ia1:=isA _ _ _ (Y8 c0) ia0
 have ib1:=isB _ _ _ (Y8 c1) ib0
 have ld2:=ur nx2
 rw [←nx2.x]
 have lg:g.length≤1:=by
  rcases hg with rfl|rfl
  ·exact aB _
  ·exact af _
 have lm:([V.int 0]++g.map V.int).length≤3:=by rw [aG,ac];show 1+g.length≤3;lia
 have lm':[V.int 0].length+(g.map V.int).length≤sizeLine:=by rw [ac];show 1+g.length≤_;lia
 refine ⟨l0,l2,w6 rfl rfl ⟨g2.at_,fl2,lm',λbl nb=>?_⟩⟩
 have t3:=Same.upd (H:=H2) (o:=.lst (([0]:List Int).map V.int++g.map V.int)) nb
 have f3:upd H2 bl (.lst (([0]:List Int).map V.int++g.map V.int)) bl=some (.lst (([0]++g).map V.int)):=q8
 generalize upd H2 bl (.lst (([0]:List Int).map V.int++g.map V.int))=H3 at t3 f3
 have gb3:GL H3 bl ([0]++g):=⟨f3,λx hx=>by
  rcases bg.mp hx with hx|hx
  ·rw [aq.mp hx];exact di _
  ·rcases hg with rfl|rfl
   ·cases hx
   ·rw [aq.mp hx];exact m0.1,bC _ _,by rw [aG];show 1+g.length≤100;lia⟩
 have lbs:([0]++g).length≤2:=by rw [aG];show 1+g.length≤2;lia
 generalize ([0]++g:List Int)=bs at gb3 ib1 lbs
 have ba3:=ba2.same t3
 have v3:=v2.same t3
 clear f3 t3 g2 g1 f0 t0 fl2 isA isB kb2
 obtain ⟨dx,hx⟩:=v3.h.hs.ob
 refine exI rfl ⟨o2.x,dx,exI rfl ⟨hx,x6 (by decide +kernel) (by decide +kernel) (by decide +kernel),o2.x,o2.dr,o2.dw,o2.dd,o2.R,o2.W,exI rfl ⟨v3.h.hs,λH4 x' dr' dw' dd' t4 n1 n2 n3 n4 hse'=>?_⟩⟩⟩
 obtain ⟨vt,apt⟩:=v3.twin t4 n1 n2 n3 n4 hse'
 have ba4:=ba3.same t4
 have v4:=v3.same t4
 have gb4:=gb3.same t4
 have far4:Far K H4 a pl ns ⟨x',dr',dw',dd',o2.R,o2.W,o2.ds⟩:=⟨qj ba3.pl n4,(qxd ba3.sc).imp id λ⟨u,e,_⟩=>qj e n4⟩
 have ldt:(⟨x',dr',dw',dd',o2.R,o2.W,o2.ds⟩:Ho).ds.length≤10:=by show o2.ds.length≤10;lia
 have ex:(⟨x',dr',dw',dd',o2.R,o2.W,o2.ds⟩:Ho).x=x':=rfl
 generalize (⟨x',dr',dw',dd',o2.R,o2.W,o2.ds⟩:Ho)=q at vt apt far4 ldt ex
 subst ex
 refine exI rfl (exI rfl (exI rfl (exI rfl (exX rfl rfl (SqL.of ba4.st) (xm (j:=1) rfl) ⟨a,q,ns,_,_,hs,s1,_,wa1,wb1,rfl,ba4.sc,(by decide),m1.1,m1.2,vt,pr2,ia1.wh,ib1.wh,(by lia),λH5 q5 l5 s2 g' wa2 wb2 nx5 v5 pr5 isA isB hg' kb5 fl5=>?_⟩))))
 have ba5:=ba4.deed vt.h far4 kb5
 have gb5:=gb4.dl vt.h.dl kb5
 have far5:Far K H5 a pl ns q5:=far4.nxt nx5
 have ia2:=isA _ _ _ (Y8 c0) ia1
 have ib2:=isB _ _ _ (Y8 c1) ib1
 have vo5:=apt.symm.stay vt.h v4 kb5
 have ap5:=(apt.symm.nxt v4.h nx5).symm
 rw [←nx5.x]
 have lg':g'.length≤1:=by
  rcases hg' with rfl|rfl
  ·exact aB _
  ·exact af _
 have lm5:(bs.map V.int).length+(g'.map V.int).length≤sizeLine:=by rw [ac,ac];lia
 refine ⟨bl,l5,w6 rfl rfl ⟨gb5.at_,fl5,lm5,λtl nt=>?_⟩⟩
 have t6:=Same.upd (H:=H5) (o:=.lst (bs.map V.int++g'.map V.int)) nt
 have f6:upd H5 tl (.lst (bs.map V.int++g'.map V.int)) tl=some (.lst ((bs++g').map V.int)):=by rw [q8,aT]
 generalize upd H5 tl (.lst (bs.map V.int++g'.map V.int))=H6 at t6 f6
 have gt6:GL H6 tl (bs++g'):=⟨f6,λx hx=>by
  rcases bg.mp hx with hx|hx
  ·exact gb5.g0 x hx
  ·rcases hg' with rfl|rfl
   ·cases hx
   ·rw [aq.mp hx];exact m1.1,dj gb5.ne _,by rw [aG];lia⟩
 have ba6:=ba5.same t6
 refine exI rfl (exX rfl rfl (SqL.of ba6.st) (xm (j:=0) rfl) ⟨sz2,λgl ng=>?_⟩)
 have t7:=Same.upd (H:=H6) (o:=.lst [.int 0,.int (m 0)]) ng
 have f7:upd H6 gl (.lst [.int 0,.int (m 0)]) gl=some (.lst ([0,m 0].map V.int)):=q8
 generalize upd H6 gl (.lst [.int 0,.int (m 0)])=H7 at t7 f7
 have gg7:GL H7 gl [0,m 0]:=⟨f7,λx hx=>by
  simp only [ai,aj,be] at hx
  rcases hx with rfl|rfl
  ·exact di _
  ·exact m0.1,bC _ _,(show 2≤100 by decide)⟩
 have t57:=t6.trans t7
 exact ⟨a,p1,pl,st,bl,tl,gl,ns,hs,A,tb,m,o2,q5,s2,s1,s0,as,wa2,wb2,wa1,wb1,wa0,wb0,bs,bs++g',none,none,none,rfl,⟨ba5.same t57,far5,v5.same t57,pr5,pr2,pr,ia2,ib2,ia1,ib1,ia0,ib0,gb5.same t57,gt6.same t7,gg7⟩,vo5.same t57,ap5,far2,by lia,by lia,k⟩
end
section
variable {P:Ac}{w:Ah}{K:Aa}{mg:Str→Option Ag}{base:Heap}{qf:Aj}{wz:Aj}{qk:Aj}{q9:Aj}{qg:Aj}{wv:Aj}{wu:Aj}{wq:Aj}{wm:Aj}{wy:Aj}{qd:Aj}{qz:Aj}{qm:Aj}{qw:Aj}{qq:Aj}
def GPt (hs:List Int)(v:V)(H:Hp):Prop:=∃q t b,v=.ref q∧qx6 H q (t,b)∧1≤b∧b≤1000∧HPt hs (wc t b)∧zf hs t b
set_option maxHeartbeats 0 in
theorem ok_law {f:Aj}{fd:Ad}(F:Fun K "law" "law" s_law f fd)(T:Txt K mg qf wz qk q9 qg wv wu wq wm wy qd qz qm qw qq)(c__law_heights:Cal P w K mg base "_law_heights" 4 (Wn K))(c__law_spot:Cal P w K mg base "_law_spot" 3 (qxs K))(c__law_steps:Cal P w K mg base "_law_steps" 3 (qxf K))
  (c_House:CCal P w K mg base "House" qq 1 (Yq qq)) (c_lay:MCal P w K mg base qq "lay" 4 (qy0 K qq qm wq wm wz)) (c_place:MCal P w K mg base qq "place" 5 (Q4 K qq qm qw wq wm wy qk q9))
  (c__law_going:Cal P w K mg base "_law_going" 9 (Wz K qq qm qw)) (c_twin:MCal P w K mg base qq "twin" 3 (Jr qq)) (c__law_right:Cal P w K mg base "_law_right" 5 (ug K qq qm qw)) (c_leave:MCal P w K mg base qq "leave" 3 (Qp qq qd)) (c_take_back:MCal P w K mg base qq "take_back" 2 (Qc qq qz)) (c__law_twin_back:Cal P w K mg base "_law_twin_back" 6 (yc K qq qm qw)):FnOk P w K mg base (CXE P w) 11 f fd ["_law_script"] (qyh K):=by
 have sc:=qzc
 refine F.okX sc (λvs H Q E h=>by obtain ⟨a,ns,rfl,_⟩:=h;rfl) (λcdv A outer s H vs Q E hr h=>?_)
 obtain ⟨a,ns,rfl,hS,hl,k⟩:=h
 have e0:(wf s_law).drop 0=(wf s_law)[0]'(by decide +kernel)::(wf s_law).drop 1:=ao (by decide +kernel)
 have e1:(wf s_law).drop 1=(wf s_law)[1]'(by decide +kernel)::(wf s_law).drop 2:=ao (by decide +kernel)
 have e2:(wf s_law).drop 2=(wf s_law)[2]'(by decide +kernel)::(wf s_law).drop 3:=ao (by decide +kernel)
 have e3:(wf s_law).drop 3=(wf s_law)[3]'(by decide +kernel)::(wf s_law).drop 4:=ao (by decide +kernel)
 have e4:(wf s_law).drop 4=(wf s_law)[4]'(by decide +kernel)::(wf s_law).drop 5:=ao (by decide +kernel)
 have e5:(wf s_law).drop 5=(wf s_law)[5]'(by decide +kernel)::(wf s_law).drop 6:=ao (by decide +kernel)
 have e6:(wf s_law).drop 6=(wf s_law)[6]'(by decide +kernel)::(wf s_law).drop 7:=ao (by decide +kernel)
 have e:wf s_law=(wf s_law).drop 0:=rfl
 rw [e0,e1,e2,e3,e4,e5,e6] at e
 rw [e]
 clear e e0 e1 e2 e3 e4 e5 e6
 generalize h7:(wf s_law).drop 7=rest
 generalize h11:(wf s_law).drop 11=rest11
 generalize h18:(wf s_law).drop 18=rest18
 refine ⟨_,(qy (xz (i:=1) sc.nd rfl (by walk_at "loc") (wp c__law_heights (hr.mono (by decide)) rfl qh (wx (pv 0) (xx qr (xx qr qu)))))
   (qy (Ys (i:=2) (M:=[0,1]) sc.nd rfl (by walk_at "loc") rfl rfl (by walk_at "cap") (by walk_at "has") (by walk_at "cix") rfl (by decide +kernel) rfl (show List.Nodup (["_law_k","_law_script","_law_row"]:List Str) by decide +kernel) (zr rfl T.range_ (xx qr qu)) (λ_ _ _ _ _=>(wp c__law_spot (hr.mono (by decide)) rfl qzh (wx (pv 1) (zp (w4 xn qr (pv 0)) (zp (w4 vz (xu (qq8 (K:=K) rfl) rfl T.len_ aV (wx (pv 2) qu)) qr) (xx qr qu)))))))
   (qy (Ys (i:=3) (M:=[0]) sc.nd rfl (by walk_at "loc") rfl rfl (by walk_at "cap") (by walk_at "has") (by walk_at "cix") rfl (by decide +kernel) rfl (show List.Nodup (["_law_k","_law_script"]:List Str) by decide +kernel) (zr rfl T.range_ (xx qr qu)) (λ_ _ _ _ _=>(wp c__law_steps (hr.mono (by decide)) rfl qzh (wx (pv 1) (zp (w4 xn qr (pv 0)) qu)))))
   (qy (xz (i:=4) sc.nd rfl (by walk_at "loc") (qxw c_House (hr.mono (by decide)) rfl qh))
   (qy (zw (xp (pv 4) T.clH c_lay (hr.mono (by decide)) qh (xx xt (js (kf yn rfl T.list_ cz (wx (pv 1) qu)) qu))))
   (qy (zw (xp (pv 4) T.clH c_place (hr.mono (by decide)) qh (xx xt (xx xt (zx (xy xv (pv 2) qr (λ_ _=>rfl)) qu)))))
   (qy (zw (xp (pv 4) T.clH c_place (hr.mono (by decide)) qh (xx xt (xx xt (zx (xy xv (pv 2) qr (λ_ _=>rfl)) qu)))))
   (qu7 T c__law_going c_twin hr h7 h11 (wq9 T c__law_right c_leave c_place c__law_going hr h11 h18 (wqd T c_take_back c_twin c__law_right c__law_twin_back hr h18)))))))))),?_⟩
 refine exI rfl ⟨a,ns,_,_,rfl,hS,(by lia),(by lia),(by lia),λp1 hs w1 n1 a1 b1 i1=>?_⟩
 have ok:x4 hs:=wvp i1 a1 (by lia)
 have o1:=ok.1
 have o2:=ok.2.1
 have lm:(hs.map V.int).length=hs.length:=ac _
 have s1:=Same.upd (H:=H) (o:=.lst (hs.map V.int)) n1
 have f1:upd H p1 (.lst (hs.map V.int)) p1=some (.lst (hs.map V.int)):=q8
 generalize upd H p1 (.lst (hs.map V.int))=H1 at s1 f1
 refine exI rfl ⟨(by decide),(by decide),Zy (λ_ v H=>GPt hs v H) (λi v H H' p g n kk=>?_) (by decide) (λi H' RR hi s' kR=>?_) (λpl ys H2 np s2' fp lp hG=>?_)⟩
 ·obtain ⟨q,t,b,e,fq,r⟩:=g
  exact ⟨q,t,b,e,kk _ _ (λz=>n (by rw [e,z])) fq,r⟩
 ·refine exI rfl (exI rfl (w6 rfl rfl (exI rfl ⟨p1,exI rfl ⟨.inl (SqL.of (s' _ _ f1)),w6 rfl rfl ?_⟩⟩)))
  rw [lm]
  refine ⟨a,ns,_,_,_,rfl,(s1.trans s').sql hS,(by lia),(by lia),(by lia),(by lia),(by lia),λqp t0 b0 k0 n2 y1 y2 y3 y4 y5 y6=>?_⟩
  have bb1:1≤b0*k0:=Int.mul_pos (by lia) (by lia)
  have bb2:b0*k0≤13*3:=Int.mul_le_mul (by lia) (by lia) (by lia) (by lia)
  have on0:zf hs (t0*k0) (b0*k0):=⟨dv y5 (by lia),by rw [←Int.mul_assoc];exact aF y6 (by lia)⟩
  have lb:=qjd (t:=t0*k0) bb1
  exact kR _ _ (Same.upd n2) ⟨qp,_,_,rfl,q8,bb1,by lia,⟨ok,⟨Y8 bb1,di _,qxt bb1,qzk bb1 on0⟩,by lia⟩,on0⟩ (λb e=>by cases e;exact n2)
 match ys,lp with
 |[v0,v1,v2],_ =>
 obtain ⟨⟨q0,t0,b0,rfl,fq0,r0⟩,_⟩:=hG 0 v0 rfl
 obtain ⟨⟨q1,t1,b1',rfl,fq1,r1⟩,_⟩:=hG 1 v1 rfl
 obtain ⟨⟨q2,t2,b2',rfl,fq2,r2⟩,_⟩:=hG 2 v2 rfl
 have s2:=s1.trans s2'
 refine exI rfl ⟨(by decide),(by decide),Zy (λ_ v _=>∃m,v=.int m∧0≤m∧m≤100000000000000000000000000000000000000000000000000) (λi v H H' p g n kk=>g) (by decide) (λi H' RR hi s' kR=>?_) (λst ys H3 np3 s3' fs ls hM=>?_)⟩
 ·exact exI rfl (exI rfl (w6 rfl rfl ⟨a,ns,exI rfl ⟨(s2.trans s').sql hS,(by lia),λm m0 m1=>kR _ _ (Same.refl _) ⟨m,rfl,m0,m1⟩ (λb e=>by cases e)⟩⟩))
 match ys,ls with
 |[u0,u1,u2],_ =>
 obtain ⟨⟨m0,rfl,m00,m01⟩,_⟩:=hM 0 u0 rfl
 obtain ⟨⟨m1,rfl,m10,m11⟩,_⟩:=hM 1 u1 rfl
 obtain ⟨⟨m2,rfl,m20,m21⟩,_⟩:=hM 2 u2 rfl
 have s3:=s2.trans s3'
 have ba3:Base K H3 a p1 pl st ns hs (λi=>if i=0 then q0 else if i=1 then q1 else q2) (λi=>if i=0 then (t0,b0) else if i=1 then (t1,b1') else (t2,b2')) (λi=>if i=0 then m0 else if i=1 then m1 else m2):=by
  refine ⟨s3.sql hS,s3' _ _ (s2' _ _ f1),ok,s3' _ _ fp,λi hi=>?_,λi hi=>?_,fs,λi=>?_⟩
  ·rcases (by lia:i=0∨i=1∨i=2) with rfl|rfl|rfl
   ·exact s3' _ _ fq0
   ·exact s3' _ _ fq1
   ·exact s3' _ _ fq2
  ·rcases (by lia:i=0∨i=1∨i=2) with rfl|rfl|rfl
   ·exact r0
   ·exact r1
   ·exact r2
  ·show 0≤(if i=0 then m0 else if i=1 then m1 else m2)∧(if i=0 then m0 else if i=1 then m1 else m2)≤_
   split
   ·exact ⟨m00,m01⟩
   ·split
    ·exact ⟨m10,m11⟩
    ·exact ⟨m20,m21⟩
 generalize (λi:Nat=>if i=0 then q0 else if i=1 then q1 else q2)=AA at ba3
 generalize (λi:Nat=>if i=0 then (t0,b0) else if i=1 then (t1,b1') else (t2,b2'))=tb at ba3
 generalize (λi:Nat=>if i=0 then m0 else if i=1 then m1 else m2)=m at ba3
 clear fq0 fq1 fq2 r0 r1 r2 fp fs hG hM f1 s1 s2 s2' s3'
 refine λx d9 nx nd9 ne9=>⟨x,d9,rfl,q8,λH4 dr dw dd n1' n2' n3' hse kb1=>⟨rfl,?_⟩⟩
 have s4':Same H3 H4:=λz o e=>kb1 z o (λy=>by rw [aq.mp y,nx] at e;cases e) (by rw [wg (qj e nx),wg (qj e nd9)];exact e)
 have fresh:∀ {b},upd (upd H3 d9 (HO.own x)) x (HO.ins qq d9 []) b=none→H3 b=none:=λ{b} m=>by
  cases e:H3 b with
  |none=>rfl
  |some o=>rw [wg (qj e nx),wg (qj e nd9),e] at m;cases m
 have ndd:=fresh n3'
 have far4:Far K H4 a pl ns ⟨x,dr,dw,dd,[],[],[]⟩:=⟨qj ba3.pl ndd,(qxd ba3.sc).imp id λ⟨u,e,_⟩=>qj e ndd⟩
 have v4:VH qq qm qw H4 ⟨x,dr,dw,dd,[],[],[]⟩ [AH.nil]:=VH.nil hse
 have ba4:=ba3.same s4'
 have ex:(⟨x,dr,dw,dd,[],[],[]⟩:Ho).x=x:=rfl
 have ld4:(⟨x,dr,dw,dd,[],[],[]⟩:Ho).ds.length=0:=rfl
 generalize (⟨x,dr,dw,dd,[],[],[]⟩:Ho)=o4 at v4 far4 ex ld4
 subst ex
 clear fresh kb1 hse n1' n2' n3' s4' nx nd9 ne9
 obtain ⟨dx,hx⟩:=v4.h.hs.ob
 refine exI rfl ⟨o4.x,dx,exI rfl ⟨hx,x6 (by decide +kernel) (by decide +kernel) (by decide +kernel),exI rfl ⟨p1,exI rfl ⟨.inl (SqL.of ba4.row),λp5 n5=>?_⟩⟩⟩⟩
 have t5:=Same.upd (H:=H4) (o:=.lst (hs.map V.int)) n5
 have f5:upd H4 p5 (.lst (hs.map V.int)) p5=some (.lst (hs.map V.int)):=q8
 generalize upd H4 p5 (.lst (hs.map V.int))=H5 at t5 f5
 have v5:=v4.same t5
 have ba5:=ba4.same t5
 have nm0:Nam NM3 AH.nil:=Nam.nil
 have l3:NM3.length=3:=rfl
 dsimp only [vu,j8,tC]
 refine v5.lays nm0 (by lia) (by lia) (by decide +kernel) (by decide +kernel) rfl f5 ok λH6 o6 nx6 v6 kb6=>?_
 have far5:Far K H5 a pl ns o4:=far4
 have ba6:=ba5.deed v5.h far5 kb6
 have far6:Far K H6 a pl ns o6:=far5.nxt nx6
 have ld6:=ur nx6
 have nm6:Nam NM3 (AH.nil.putR "r" hs):=nm0.putR (aO ..) hs
 rw [←nx6.x]
 obtain ⟨c1,c2,hp0,on0⟩:=ba6.pk 0 (by decide)
 obtain ⟨d1,d2,hp1,on1⟩:=ba6.pk 1 (by decide)
 obtain ⟨dx,hx⟩:=v6.h.hs.ob
 refine exI rfl ⟨o6.x,dx,exI rfl ⟨hx,x6 (by decide +kernel) (by decide +kernel) (by decide +kernel),exI rfl (exX rfl rfl (SqL.of ba6.pl) (xm (j:=0) rfl) ?_)⟩⟩
 dsimp only [vu,j8,tC]
 refine v6.places nm6 (by lia) (by lia) (by decide +kernel) (by decide +kernel) rfl W8 (ba6.pt 0 (by decide)) c1 ((Sm.small (n:=65) (by lia) (by lia) (by decide)).mono (by decide)) hp0 λH7 o7 nx7 v7 kb7=>?_
 have ba7:=ba6.deed v6.h far6 kb7
 have far7:Far K H7 a pl ns o7:=far6.nxt nx7
 have ld7:=ur nx7
 have nm7:=nm6.putW nm_a ⟨"r",wc (tb 0).1 (tb 0).2,[([.inl (wc (tb 0).1 (tb 0).2).1,.inl (wc (tb 0).1 (tb 0).2).2],.int 1)]⟩
 rw [←nx7.x]
 obtain ⟨dx,hx⟩:=v7.h.hs.ob
 refine exI rfl ⟨o7.x,dx,exI rfl ⟨hx,x6 (by decide +kernel) (by decide +kernel) (by decide +kernel),exI rfl (exX rfl rfl (SqL.of ba7.pl) (xm (j:=1) rfl) ?_)⟩⟩
 dsimp only [vu,j8,tC]
 refine v7.places nm7 (by lia) (by lia) (by decide +kernel) (by decide +kernel) (yf ne_ab) (show (AH.nil.putR "r" hs).rs "r" = some hs from W8) (ba7.pt 1 (by decide)) d1 ((Sm.small (n:=65) (by lia) (by lia) (by decide)).mono (by decide)) hp1 λH8 o8 nx8 v8 kb8=>?_
 have ba8:=ba7.deed v7.h far7 kb8
 have far8:Far K H8 a pl ns o8:=far7.nxt nx8
 have ld8:=ur nx8
 rw [←nx8.x]
 exact ⟨a,p1,pl,st,ns,hs,AA,tb,m,o8,_,_,_,_,rfl,ba8,far8,v8,⟨(show (AH.nil.putR "r" hs).rs "r" = some hs from W8),(yf ne_ab.symm).trans uu,uu,nm7.putW nm_b _⟩,WkIs.new c1 hp0,WkIs.new d1 hp1,by lia,k⟩
end
section
theorem all_mk {l:PySem.W.OpenLaw}{w:Ah}{K:Aa}{h:Heap}{mg:Str→Option Ag}{fa:Aj}{qf:Aj}{wz:Aj}{qk:Aj}{q9:Aj}{qg:Aj}{wv:Aj}{wu:Aj}{wq:Aj}{wm:Aj}{wy:Aj}{qd:Aj}{qz:Aj}{qm:Aj}{qw:Aj}{qq:Aj}{t_WIDEST:Tok}{t_LONGEST_TRACE:Tok}{t_FARTHEST:Tok}{t_LONGEST_NAME:Tok}{t_GREATEST_BOTTOM:Tok}{t_LETTERS:Tok}(X:K.In h)(G:h.Ns mainGlobals mg)(hfa:mg "law" = some (.ref fa))
  (d__law_cell:DefIn K "_law_cell" s__law_cell)
  (d__law_pick:DefIn K "_law_pick" s__law_pick)
  (d_check_bottom:DefIn K "check_bottom" s_check_bottom)
  (d_common_divisor:DefIn K "common_divisor" s_common_divisor)
  (d_lowest:DefIn K "lowest" s_lowest)
  (d_check_count:DefInD K "check_count" s_check_count)
  (d_is_line:DefIn K "is_line" s_is_line)
  (d_trace:DefIn K "trace" s_trace)
  (d_spot:DefIn K "spot" s_spot)
  (d_led_to:DefIn K "led_to" s_led_to)
  (d_set_down:DefIn K "set_down" s_set_down)
  (d_is_name:DefIn K "is_name" s_is_name)
  (d_check_new_name:DefIn K "check_new_name" s_check_new_name)
  (d_exchange:DefIn K "exchange" s_exchange)
  (d__law_climb:DefIn K "_law_climb" s__law_climb)
  (d__law_heights:DefIn K "_law_heights" s__law_heights)
  (d__law_step:DefIn K "_law_step" s__law_step)
  (d__law_trace:DefIn K "_law_trace" s__law_trace)
  (d__law_after:DefIn K "_law_after" s__law_after)
  (d__law_common:DefIn K "_law_common" s__law_common)
  (d__law_low:DefIn K "_law_low" s__law_low)
  (d__law_spot:DefIn K "_law_spot" s__law_spot)
  (d__law_whole:DefIn K "_law_whole" s__law_whole)
  (d__law_count:DefIn K "_law_count" s__law_count)
  (d__law_story:DefIn K "_law_story" s__law_story)
  (d__law_due:DefIn K "_law_due" s__law_due)
  (d__law_right:DefIn K "_law_right" s__law_right)
  (d__law_steps:DefIn K "_law_steps" s__law_steps)
  (d__law_going:DefIn K "_law_going" s__law_going)
  (d__law_twin_back:DefIn K "_law_twin_back" s__law_twin_back)
  (d_law:DefIn K "law" s_law)
  (a_RoadError:PySem.W.nsIn K mainGlobals "RoadError" = some (some (.ref qf)))
  (x_RoadError:PySem.W.excIn K qf [.type "ValueError",.type "Exception",.type "BaseException",.type "object"] "ValueError.__new__" = true)
  (a_BadLine:PySem.W.nsIn K mainGlobals "BadLine" = some (some (.ref wz)))
  (x_BadLine:PySem.W.excIn K wz [.type "ValueError",.type "Exception",.type "BaseException",.type "object"] "ValueError.__new__" = true)
  (a_BadBottom:PySem.W.nsIn K mainGlobals "BadBottom" = some (some (.ref qk)))
  (x_BadBottom:PySem.W.excIn K qk [.type "ValueError",.type "Exception",.type "BaseException",.type "object"] "ValueError.__new__" = true)
  (a_OffRoad:PySem.W.nsIn K mainGlobals "OffRoad" = some (some (.ref q9)))
  (x_OffRoad:PySem.W.excIn K q9 [.type "ValueError",.type "Exception",.type "BaseException",.type "object"] "ValueError.__new__" = true)
  (a_BadCount:PySem.W.nsIn K mainGlobals "BadCount" = some (some (.ref qg)))
  (x_BadCount:PySem.W.excIn K qg [.type "ValueError",.type "Exception",.type "BaseException",.type "object"] "ValueError.__new__" = true)
  (a_TooLong:PySem.W.nsIn K mainGlobals "TooLong" = some (some (.ref wv)))
  (x_TooLong:PySem.W.excIn K wv [.type "ValueError",.type "Exception",.type "BaseException",.type "object"] "ValueError.__new__" = true)
  (a_BadRow:PySem.W.nsIn K mainGlobals "BadRow" = some (some (.ref wu)))
  (x_BadRow:PySem.W.excIn K wu [.type "ValueError",.type "Exception",.type "BaseException",.type "object"] "ValueError.__new__" = true)
  (a_BadName:PySem.W.nsIn K mainGlobals "BadName" = some (some (.ref wq)))
  (x_BadName:PySem.W.excIn K wq [.type "ValueError",.type "Exception",.type "BaseException",.type "object"] "ValueError.__new__" = true)
  (a_Taken:PySem.W.nsIn K mainGlobals "Taken" = some (some (.ref wm)))
  (x_Taken:PySem.W.excIn K wm [.type "ValueError",.type "Exception",.type "BaseException",.type "object"] "ValueError.__new__" = true)
  (a_NoRoad:PySem.W.nsIn K mainGlobals "NoRoad" = some (some (.ref wy)))
  (x_NoRoad:PySem.W.excIn K wy [.type "ValueError",.type "Exception",.type "BaseException",.type "object"] "ValueError.__new__" = true)
  (a_NoWalker:PySem.W.nsIn K mainGlobals "NoWalker" = some (some (.ref qd)))
  (x_NoWalker:PySem.W.excIn K qd [.type "ValueError",.type "Exception",.type "BaseException",.type "object"] "ValueError.__new__" = true)
  (a_NothingDone:PySem.W.nsIn K mainGlobals "NothingDone" = some (some (.ref qz)))
  (x_NothingDone:PySem.W.excIn K qz [.type "ValueError",.type "Exception",.type "BaseException",.type "object"] "ValueError.__new__" = true)
  (a_Road:PySem.W.nsIn K mainGlobals "Road" = some (some (.ref qm)))
  (pg_Road:PySem.W.plainGet K qm Str.empty=true)
  (hd_Road:PySem.W.hasDictIn K qm=true)
  (po_Road:PySem.W.plainOver K qm=true)
  (sa_Road:PySem.W.findIn K (.ref qm) "__setattr__" = some (some (.builtin "object.__setattr__")))
  (mk_Road:PySem.W.makesIn K qm=true)
  (kc_Road:PySem.W.keepIn K (.ref qm)=true)
  (m_Road___init__:MethIn K qm "__init__" "Road.__init__" s_Road___init__)
  (m_Road_width:MethIn K qm "width" "Road.width" s_Road_width)
  (m_Road_ends:MethIn K qm "ends" "Road.ends" s_Road_ends)
  (m_Road_on_road:MethIn K qm "on_road" "Road.on_road" s_Road_on_road)
  (m_Road_at:MethIn K qm "at" "Road.at" s_Road_at)
  (a_Walker:PySem.W.nsIn K mainGlobals "Walker" = some (some (.ref qw)))
  (pg_Walker:PySem.W.plainGet K qw Str.empty=true)
  (hd_Walker:PySem.W.hasDictIn K qw=true)
  (po_Walker:PySem.W.plainOver K qw=true)
  (sa_Walker:PySem.W.findIn K (.ref qw) "__setattr__" = some (some (.builtin "object.__setattr__")))
  (mk_Walker:PySem.W.makesIn K qw=true)
  (kc_Walker:PySem.W.keepIn K (.ref qw)=true)
  (m_Walker___init__:MethIn K qw "__init__" "Walker.__init__" s_Walker___init__)
  (m_Walker_gone:MethIn K qw "gone" "Walker.gone" s_Walker_gone)
  (a_House:PySem.W.nsIn K mainGlobals "House" = some (some (.ref qq)))
  (pg_House:PySem.W.plainGet K qq Str.empty=true)
  (hd_House:PySem.W.hasDictIn K qq=true)
  (po_House:PySem.W.plainOver K qq=true)
  (sa_House:PySem.W.findIn K (.ref qq) "__setattr__" = some (some (.builtin "object.__setattr__")))
  (mk_House:PySem.W.makesIn K qq=true)
  (kc_House:PySem.W.keepIn K (.ref qq)=true)
  (m_House___init__:MethIn K qq "__init__" "House.__init__" s_House___init__)
  (m_House_road_called:MethIn K qq "road_called" "House.road_called" s_House_road_called)
  (m_House_walker_called:MethIn K qq "walker_called" "House.walker_called" s_House_walker_called)
  (m_House_do:MethIn K qq "do" "House.do" s_House_do)
  (m_House_lay:MethIn K qq "lay" "House.lay" s_House_lay)
  (m_House_take_back:MethIn K qq "take_back" "House.take_back" s_House_take_back)
  (m_House_place:MethIn K qq "place" "House.place" s_House_place)
  (m_House_go:MethIn K qq "go" "House.go" s_House_go)
  (m_House_walkers_on:MethIn K qq "walkers_on" "House.walkers_on" s_House_walkers_on)
  (m_House_together:MethIn K qq "together" "House.together" s_House_together)
  (m_House_leave:MethIn K qq "leave" "House.leave" s_House_leave)
  (m_House_twin:MethIn K qq "twin" "House.twin" s_House_twin)
  (m_House_stood:MethIn K qq "stood" "House.stood" s_House_stood)
  (na_Road_heights:PySem.W.findIn K (.ref qm) "heights" = some none)
  (na_Walker_whose:PySem.W.findIn K (.ref qw) "whose" = some none)
  (na_Walker_point:PySem.W.findIn K (.ref qw) "point" = some none)
  (na_Walker_times:PySem.W.findIn K (.ref qw) "times" = some none)
  (na_House_roads:PySem.W.findIn K (.ref qq) "roads" = some none)
  (na_House_walkers:PySem.W.findIn K (.ref qq) "walkers" = some none)
  (na_House_done:PySem.W.findIn K (.ref qq) "done" = some none)
  (g_WIDEST:PySem.W.nsIn K mainGlobals "WIDEST" = some (some (.int 24 t_WIDEST)))
  (g_LONGEST_TRACE:PySem.W.nsIn K mainGlobals "LONGEST_TRACE" = some (some (.int 1000 t_LONGEST_TRACE)))
  (g_FARTHEST:PySem.W.nsIn K mainGlobals "FARTHEST" = some (some (.int 1000000000000000000000000000000000000000000000000000000000000 t_FARTHEST)))
  (g_LONGEST_NAME:PySem.W.nsIn K mainGlobals "LONGEST_NAME" = some (some (.int 12 t_LONGEST_NAME)))
  (g_GREATEST_BOTTOM:PySem.W.nsIn K mainGlobals "GREATEST_BOTTOM" = some (some (.int 40 t_GREATEST_BOTTOM)))
  (g_LETTERS:PySem.W.nsIn K mainGlobals "LETTERS" = some (some (.str "abcdefghijklmnopqrstuvwxyz" t_LETTERS)))
  (z_len:PySem.W.nsIn K mainGlobals "len" = some none)
  (z_abs:PySem.W.nsIn K mainGlobals "abs" = some none)
  (z_range:PySem.W.nsIn K mainGlobals "range" = some none)
  (z_list:PySem.W.nsIn K mainGlobals "list" = some none)
  (z_min:PySem.W.nsIn K mainGlobals "min" = some none)
  (z_max:PySem.W.nsIn K mainGlobals "max" = some none)
  (z_all:PySem.W.nsIn K mainGlobals "all" = some none)
  (z_any:PySem.W.nsIn K mainGlobals "any" = some none)
  (z_sorted:PySem.W.nsIn K mainGlobals "sorted" = some none)
  (z_enumerate:PySem.W.nsIn K mainGlobals "enumerate" = some none)
  (z_dict:PySem.W.nsIn K mainGlobals "dict" = some none)
  (z_isinstance:PySem.W.nsIn K mainGlobals "isinstance" = some none)
  (z_int:PySem.W.nsIn K mainGlobals "int" = some none)
  (z_bool:PySem.W.nsIn K mainGlobals "bool" = some none) :
  ∃fd:Ad,(∀(s:Ab) (v:Ag),BindsTo s fd ⟨[v],[]⟩ [("_law_script",v)])∧∀base:Heap,K.In base→base.Ns mainGlobals mg→FnOk l.prog w K mg base (CXE l.prog w) 11 fa fd ["_law_script"] (qyh K):=by
 have T:Txt K mg qf wz qk q9 qg wv wu wq wm wy qd qz qm qw qq:=⟨aR X G z_len,aR X G z_abs,aR X G z_range,aR X G z_list,aR X G z_min,aR X G z_max,aR X G z_all,aR X G z_any,aR X G z_sorted,aR X G z_enumerate,aR X G z_dict,aR X G z_isinstance,aR X G z_int,aR X G z_bool,aL X G a_RoadError,⟨x_RoadError⟩,aL X G a_BadLine,⟨x_BadLine⟩,aL X G a_BadBottom,⟨x_BadBottom⟩,aL X G a_OffRoad,⟨x_OffRoad⟩,aL X G a_BadCount,⟨x_BadCount⟩,aL X G a_TooLong,⟨x_TooLong⟩,aL X G a_BadRow,⟨x_BadRow⟩,aL X G a_BadName,⟨x_BadName⟩,aL X G a_Taken,⟨x_Taken⟩,aL X G a_NoRoad,⟨x_NoRoad⟩,aL X G a_NoWalker,⟨x_NoWalker⟩,aL X G a_NothingDone,⟨x_NothingDone⟩,⟨pg_Road,hd_Road,po_Road,sa_Road⟩,na_Road_heights,⟨t_WIDEST,aL X G g_WIDEST⟩,aL X G a_Road,⟨pg_Walker,hd_Walker,po_Walker,sa_Walker⟩,⟨pg_House,hd_House,po_House,sa_House⟩,na_Walker_whose,na_Walker_point,na_Walker_times,na_House_roads,na_House_walkers,na_House_done,aL X G a_Walker,aL X G a_House,⟨t_LONGEST_TRACE,aL X G g_LONGEST_TRACE⟩,⟨t_FARTHEST,aL X G g_FARTHEST⟩,⟨t_LONGEST_NAME,aL X G g_LONGEST_NAME⟩,⟨t_GREATEST_BOTTOM,aL X G g_GREATEST_BOTTOM⟩,⟨t_LETTERS,aL X G g_LETTERS⟩⟩
 obtain ⟨f,fd,a,F⟩:=d_law.ex
 have e:=hfa.symm.trans (aL X G a)
 cases e
 refine ⟨fd,λs v=>?_,λbase kb nb=>?_⟩
 ·obtain ⟨oc,od,kV,doc,pm,an,cdv,ct,osl,rfl,lk,hcd⟩:=F.ex
  exact .of_eq rfl
 ·have c1:Cal l.prog w K mg base "_law_cell" 1 (qzb K):=d__law_cell.cal X G qz1 λf fd F=>wkk F T
  have c2:Cal l.prog w K mg base "_law_pick" 2 (uk K):=d__law_pick.cal X G qzw λf fd F=>wvf F T c1
  have c3:Cal l.prog w K mg base "check_bottom" 1 (qz7 qk):=d_check_bottom.cal X G Zg λf fd F=>wzk F T
  have c4:Cal l.prog w K mg base "common_divisor" 1 qw4:=d_common_divisor.cal X G Wg λf fd F=>ok_gcd F T
  have c5:Cal l.prog w K mg base "lowest" 2 (yx qk):=d_lowest.cal X G wqt λf fd F=>wqw F T c3 c4
  have c6:CalD l.prog w K mg base "check_count" 1 (Yx qg):=d_check_count.cal X G Yt Jn λf fd F=>wzq F T
  have c7:Cal l.prog w K mg base "is_line" 1 (Jf K):=d_is_line.cal X G qjp λf fd F=>qjx F T
  have c8:CCal l.prog w K mg base "Road" qm 2 (qxm K wz qm):=m_Road___init__.ccal T.g_Road mk_Road kc_Road W0 λf fd F=>wk3 F T c7
  have c9:MCal l.prog w K mg base qm "width" 1 (Wh qm):=m_Road_width.cal qq9 λf fd F=>ww7 F T
  have c10:MCal l.prog w K mg base qm "ends" 2 (qj2 qm wu):=m_Road_ends.cal qz6 λf fd F=>wvg F T c9
  have c11:MCal l.prog w K mg base qm "on_road" 3 (Wq K qm qk q9):=m_Road_on_road.cal Zh λf fd F=>qk5 F T c9 c5
  have c12:MCal l.prog w K mg base qm "at" 4 (spAt K qm qk q9):=m_Road_at.cal qyv λf fd F=>ok_at F T c9 c5 c10 c11
  have c13:Cal l.prog w K mg base "trace" 5 (qzd qm wv):=d_trace.cal X G wwm λf fd F=>ww9 F T c12
  have c14:Cal l.prog w K mg base "spot" 1 qj1:=d_spot.cal X G wkn λf fd F=>wv5 F T
  have c15:Cal l.prog w K mg base "led_to" 1 wwy:=d_led_to.cal X G qu3 λf fd F=>ok_led F T
  have c16:CCal l.prog w K mg base "Walker" qw 1 (Q9 qw):=m_Walker___init__.ccal T.g_Walker mk_Walker kc_Walker Qb λf fd F=>wx8 F T
  have c17:Cal l.prog w K mg base "set_down" 3 (W2 qw):=d_set_down.cal X G qv0 λf fd F=>qkp F T c16
  have c18:MCal l.prog w K mg base qw "gone" 6 (qzr qw qm):=m_Walker_gone.cal Yc λf fd F=>wks F T c13 c15 c14 c16
  have c19:Cal l.prog w K mg base "is_name" 1 qqz:=d_is_name.cal X G qk7 λf fd F=>qk3 F T
  have c20:Cal l.prog w K mg base "check_new_name" 2 (uj wq wm):=d_check_new_name.cal X G Qh λf fd F=>qvt F T c19
  have c21:Cal l.prog w K mg base "exchange" 1 qx0:=d_exchange.cal X G qkj λf fd F=>wv0 F T
  have c22:CCal l.prog w K mg base "House" qq 1 (Yq qq):=m_House___init__.ccal T.g_House mk_House kc_House Qs λf fd F=>wwj F T
  have c23:MCal l.prog w K mg base qq "road_called" 1 (jw qq wy true):=m_House_road_called.cal uw λf fd F=>Jx F T
  have c24:MCal l.prog w K mg base qq "walker_called" 1 (jw qq qd false):=m_House_walker_called.cal yu λf fd F=>W6 F T
  have c25:MCal l.prog w K mg base qq "do" 2 (qqn qq):=m_House_do.cal qkt λf fd F=>ok_do F T c21
  have c26:MCal l.prog w K mg base qq "lay" 4 (qy0 K qq qm wq wm wz):=m_House_lay.cal qzg λf fd F=>ok_lay F T c20 c8 c25
  have c27:MCal l.prog w K mg base qq "take_back" 2 (Qc qq qz):=m_House_take_back.cal Qf λf fd F=>wkr F T c21
  have c28:MCal l.prog w K mg base qq "place" 5 (Q4 K qq qm qw wq wm wy qk q9):=m_House_place.cal Y4 λf fd F=>wxt F T c20 c23 c5 c11 c17 c25
  have c29:MCal l.prog w K mg base qq "go" 8 (spGo qq qm qw qd qg):=m_House_go.cal qkc λf fd F=>ok_go F T c24 c6 c18 c25
  have c30:MCal l.prog w K mg base qq "walkers_on" 1 (spOn qq qw):=m_House_walkers_on.cal u6 λf fd F=>qqf F T
  have c31:MCal l.prog w K mg base qq "together" 8 (quv qq qm qw wy qg):=m_House_together.cal Wy λf fd F=>qk0 F T c23 c6 c30 c18 c25
  have c32:MCal l.prog w K mg base qq "leave" 3 (Qp qq qd):=m_House_leave.cal Yp λf fd F=>wzx F T c24 c25
  have c33:MCal l.prog w K mg base qq "twin" 3 (Jr qq):=m_House_twin.cal qqp λf fd F=>wk0 F T c22
  have c34:MCal l.prog w K mg base qq "stood" 3 (qx5 qq qw qd qk):=m_House_stood.cal Y5 λf fd F=>wxj F T c24 c5
  have c35:Cal l.prog w K mg base "_law_climb" 3 (Z3 K):=d__law_climb.cal X G qq5 λf fd F=>wzc F T c2
  have c36:Cal l.prog w K mg base "_law_heights" 4 (Wn K):=d__law_heights.cal X G Zd λf fd F=>qj7 F T c2 c35
  have c37:Cal l.prog w K mg base "_law_step" 1 (qjn K):=d__law_step.cal X G qx4 λf fd F=>wvh F T
  have c38:Cal l.prog w K mg base "_law_trace" 2 (Yk K):=d__law_trace.cal X G qwj λf fd F=>qu0 F T c37
  have c39:Cal l.prog w K mg base "_law_after" 1 (Z8 K):=d__law_after.cal X G qwx λf fd F=>wz4 F T
  have c40:Cal l.prog w K mg base "_law_common" 1 qw4:=d__law_common.cal X G Jq λf fd F=>www F T
  have c41:Cal l.prog w K mg base "_law_low" 2 qyd:=d__law_low.cal X G qkr λf fd F=>ok_low F T c40
  have c42:Cal l.prog w K mg base "_law_spot" 3 (qxs K):=d__law_spot.cal X G qxp λf fd F=>wxs F T c2
  have c43:Cal l.prog w K mg base "_law_whole" 1 qxb:=d__law_whole.cal X G qqy λf fd F=>ww3 F T
  have c44:Cal l.prog w K mg base "_law_count" 1 Jm:=d__law_count.cal X G qwk λf fd F=>wq8 F T
  have c45:Cal l.prog w K mg base "_law_story" 3 (Yw K):=d__law_story.cal X G qq0 λf fd F=>wzs F T c38 c39
  have c46:Cal l.prog w K mg base "_law_due" 4 (qjc K):=d__law_due.cal X G qvs λf fd F=>wvj F T c41 c45 c44
  have c47:Cal l.prog w K mg base "_law_right" 5 (ug K qq qm qw):=d__law_right.cal X G qwq λf fd F=>wzb F T c41 c45 c39 c34 c43 c46
  have c48:Cal l.prog w K mg base "_law_steps" 3 (qxf K):=d__law_steps.cal X G qq4 λf fd F=>wzf F T c1 c2
  have c49:Cal l.prog w K mg base "_law_going" 9 (Wz K qq qm qw):=d__law_going.cal X G qq6 λf fd F=>wxc F T c2 c31 c29
  have c50:Cal l.prog w K mg base "_law_twin_back" 6 (yc K qq qm qw):=d__law_twin_back.cal X G Q0 λf fd F=>qz2 F T c27 c47
  exact ok_law F T c36 c42 c48 c22 c26 c28 c49 c33 c47 c32 c27 c50
theorem walk {l:PySem.W.OpenLaw}{q:Ac}{loose:List Str}{XP:(Str→Option Ag)→Heap→Prop}{YP:Ah→Heap→Prop}{d:DefRec}{K:Params→Aa}(hn:l.most=some 63)(hdf:d.params.defaults=[])
  (hY:∀(w:Ah) (h:Heap),YP w h→(K w.params).In h)
  (F:∀(w:Ah) (mg:Str→Option Ag) (fa:Aj) (h:Heap),(K w.params).In h→h.Ns mainGlobals mg→mg d.name=some (.ref fa) →
   ∃fd:Ad,(∀(s:Ab) (u:Ag),BindsTo s fd ⟨[u],[]⟩ [("_law_script",u)])∧∀base:Heap,(K w.params).In base→base.Ns mainGlobals mg→FnOk l.prog w (K w.params) mg base (CXE l.prog w) 11 fa fd ["_law_script"] (qyh (K w.params))) :
  PySem.W.WalkO q loose XP YP l.row.toRowW d [] (λf vs=>PySem.call f vs) :=
 L2.wvs (n:=63) (k:=11) (x := "_law_script") (CX:=λw=>CXE l.prog w) (sp:=λw=>qyh (K w.params)) hn (by decide) hdf ⟨rfl,by decide,by decide⟩ hY F (λ_ _ a ns hl _ hS=>⟨a,ns,rfl,hS,hl,λ_=>rfl⟩) λ_ _ _ _ _ z=>CXE.no z
end
end My
open PySem PySem.W PyProof.Rows
local macro_rules | `(tactic| walk_at "def")=>`(tactic| (refine' L2.def_mk ?a ?l ?c ?k;(case a=>k_is);(case l=>k_is);(case c=>k_is);(case k=>k_is)))
local macro_rules | `(tactic| walk_at "defD")=>`(tactic| (refine' L2.wvc ?a ?l ?c ?k ?t;(case a=>k_is);(case l=>k_is);(case c=>k_is);(case k=>k_is);(case t=>k_is)))
local macro_rules | `(tactic| walk_at "meth")=>`(tactic| (refine' L2.wvx ?a ?i ?l ?c ?k;(case a=>k_is);(case i=>k_is);(case l=>k_is);(case c=>k_is);(case k=>k_is)))
namespace PySem.W.Fast
theorem tw3928794965641878358:True:=trivial
theorem tw1613457567414478717:True:=trivial
theorem tw11686163035394536791:True:=trivial
theorem tw14080677339283870114:True:=trivial
theorem tw5240407982621061349:True:=trivial
theorem tw16159417151725528196:True:=trivial
theorem tw13142682946788668114:True:=trivial
theorem tw4215979980934957155:True:=trivial
theorem tw6953997713686741728:True:=trivial
theorem tw9143009195148273823:True:=trivial
theorem tw5552912322887658792:True:=trivial
theorem tw5504529379725508756:True:=trivial
theorem tw3173481813574358807:True:=trivial
theorem tw18087237261730902427:True:=trivial
theorem tw13092005111000737971:True:=trivial
theorem tw84459973552381689:True:=trivial
theorem tw12644985358836015302:True:=trivial
theorem tw8032451948190151426:True:=trivial
theorem tw58834879432843335:True:=trivial
theorem tw5083643924454913502:True:=trivial
theorem tw5303529299824690492:True:=trivial
theorem tw18383788342678841814:True:=trivial
theorem tw11490992933165488614:True:=trivial
theorem tw2013714003414405129:True:=trivial
theorem tw2793651236785458508:True:=trivial
theorem tw1544762509160611408:True:=trivial
theorem tw4077232358824604393:True:=trivial
theorem tw1600391764502844340:True:=trivial
theorem tw13501045006700025285:True:=trivial
theorem tw5862951612737741386:True:=trivial
theorem tw16722205009173665914:True:=trivial
theorem tw13817322541036052610:True:=trivial
theorem tw4068400394546584626:True:=trivial
theorem tw16404566341483956650:True:=trivial
theorem tw10954380033939583000:True:=trivial
theorem tw929940128220081730:True:=trivial
theorem tw4131041365035643792:True:=trivial
theorem tw6073222504943861911:True:=trivial
theorem tw15646454121876762025:True:=trivial
theorem tw13442258620145310153:True:=trivial
theorem tw10812658576553677791:True:=trivial
theorem tw16782840463065804798:True:=trivial
theorem tw2025461757518726145:True:=trivial
theorem tw11836021921473980497:True:=trivial
theorem tw7742260900963634811:True:=trivial
theorem tw12308671213789953016:True:=trivial
theorem tw10627214680906150845:True:=trivial
theorem tw15320181466083775230:True:=trivial
theorem tw10472418781333836315:True:=trivial
theorem tw12786464903429783682:True:=trivial
theorem tw17853623798649267815:True:=trivial
theorem tw6437532492382635605:True:=trivial
theorem tw12268039091953592151:True:=trivial
theorem tw947650214807267239:True:=trivial
theorem tw16300974935417737213:True:=trivial
theorem tw16076828603343544849:True:=trivial
theorem tw5896087120468496694:True:=trivial
theorem tw10755824542024164492:True:=trivial
theorem tw5354772159761845277:True:=trivial
theorem tw9743391871100967149:True:=trivial
theorem tw2883848540686077378:True:=trivial
theorem tw2563108157763819209:True:=trivial
theorem tw13770467417164813525:True:=trivial
theorem tw5330649818814553753:True:=trivial
theorem tw17029202584574362505:True:=trivial
theorem tw3882703634075514179:True:=trivial
theorem tw18043999480181349356:True:=trivial
theorem tw2016495441446406147:True:=trivial
theorem tw8370437368427523777:True:=trivial
theorem tw10868397307803956511:True:=trivial
theorem tw18200792538415771610:True:=trivial
theorem tw16704170568059055139:True:=trivial
theorem tw11600392244959839494:True:=trivial
theorem tw4447168345071764548:True:=trivial
theorem tw11238109732543213507:True:=trivial
theorem tw4954918408796683274:True:=trivial
theorem tw4436322566036362551:True:=trivial
theorem tw1885671798412323296:True:=trivial
theorem tw3375019065136501263:True:=trivial
theorem tw4002066539038316490:True:=trivial
theorem tw5939813779418885308:True:=trivial
theorem tw15526826117230257081:True:=trivial
theorem tw12873011052547268200:True:=trivial
theorem tw12860243187919828368:True:=trivial
theorem tw7252822241075618390:True:=trivial
theorem tw9910132996781055247:True:=trivial
theorem tw592273992783209071:True:=trivial
theorem tw16390968502661413595:True:=trivial
theorem tw2840630129746176704:True:=trivial
theorem tw6013740503062432364:True:=trivial
theorem tw3023081213474622594:True:=trivial
theorem tw17053879864710974730:True:=trivial
theorem tw17783279877278379984:True:=trivial
theorem tw18422839515422197492:True:=trivial
theorem tw12753702166477544217:True:=trivial
theorem tw11378394070545178774:True:=trivial
theorem tw1004335172265915213:True:=trivial
theorem tw3420090482845940310:True:=trivial
theorem tw9978117389652683173:True:=trivial
theorem tw2619989415805707127:True:=trivial
theorem tw6595741631646901346:True:=trivial
theorem tw8511833793166916374:True:=trivial
theorem tw16873863854060056939:True:=trivial
theorem tw8694362900844603574:True:=trivial
theorem tw13421405919870001556:True:=trivial
theorem tw15480240246678626940:True:=trivial
theorem tw1680191081350745926:True:=trivial
theorem tw8629616150272586308:True:=trivial
theorem tw458589194881503463:True:=trivial
theorem tw9145994147945903517:True:=trivial
theorem tw12558598300916177897:True:=trivial
theorem tw13693152841132231177:True:=trivial
theorem tw15357723034014503017:True:=trivial
theorem tw13760485084045787793:True:=trivial
theorem tw11673295022147968632:True:=trivial
theorem tw9192594214878952534:True:=trivial
theorem tw12488187569458676133:True:=trivial
theorem tw3965580139960743106:True:=trivial
theorem tw15688364810807714209:True:=trivial
theorem tw16442736034200675420:True:=trivial
theorem tw5182606769368598488:True:=trivial
theorem tw1151257852937671106:True:=trivial
theorem tw5666319669795376157:True:=trivial
theorem tw6171597057271624564:True:=trivial
theorem tw1827468726268686908:True:=trivial
theorem tw6031182059912225851:True:=trivial
theorem tw5788784280877509488:True:=trivial
theorem tw17131649534195686068:True:=trivial
theorem tw8087357572886722085:True:=trivial
theorem tw3859093304674993627:True:=trivial
theorem tw12398670223794194615:True:=trivial
theorem tw6718205163721264007:True:=trivial
theorem tw16868905446739896145:True:=trivial
theorem tw17122481886796981127:True:=trivial
theorem tw10167322026876078064:True:=trivial
theorem tw18380789722898410627:True:=trivial
theorem tw1474563689785138086:True:=trivial
theorem tw4622988084397856373:True:=trivial
theorem tw2430438295170363640:True:=trivial
theorem tw18140306435229907802:True:=trivial
theorem tw7205886961898915807:True:=trivial
theorem tw14486899408335109519:True:=trivial
theorem tw9390973582691819561:True:=trivial
theorem tw9802127064115715124:True:=trivial
theorem tw3863804182462190995:True:=trivial
theorem tw4234691108849085093:True:=trivial
theorem tw674344597853695420:True:=trivial
theorem tw1376476050164789812:True:=trivial
theorem tw5594232197281464626:True:=trivial
theorem tw5140235429706797738:True:=trivial
theorem tw16750348019691362615:True:=trivial
theorem tw2548002132117239273:True:=trivial
theorem tw9150321198312418215:True:=trivial
theorem tw8631673292218738044:True:=trivial
theorem tw17221488191319317907:True:=trivial
theorem tw11968736489472942136:True:=trivial
theorem tw12442879247170128395:True:=trivial
theorem tw17332381589593262586:True:=trivial
theorem tw11800057947434274118:True:=trivial
theorem tw16698185178726676439:True:=trivial
theorem tw2860377882322276593:True:=trivial
theorem tw3832656558725346953:True:=trivial
theorem tw9024280740064845174:True:=trivial
theorem tw14190344896855422241:True:=trivial
theorem tw6583293122491582894:True:=trivial
theorem tw32612610361290358:True:=trivial
theorem tw6133384588865315488:True:=trivial
theorem tw17888459566684506624:True:=trivial
theorem tw2702596399907670050:True:=trivial
theorem tw13091219978590763262:True:=trivial
theorem tw13130516200117587177:True:=trivial
theorem tw15795770342868096985:True:=trivial
theorem tw4204310707575374911:True:=trivial
theorem tw5083184459701408113:True:=trivial
theorem tw13784927638099544472:True:=trivial
theorem tw10886025600038190311:True:=trivial
theorem tw9425341821017410560:True:=trivial
theorem tw3738269969634317360:True:=trivial
theorem tw17933368315461365643:True:=trivial
theorem tw9964057303459472663:True:=trivial
theorem tw4924614148421111922:True:=trivial
theorem tw10890738882539420763:True:=trivial
theorem tw13287822904016548965:True:=trivial
theorem tw7744910981076146043:True:=trivial
theorem tw12315132927686910791:True:=trivial
theorem tw96464004013588870:True:=trivial
theorem tw6437148372928102807:True:=trivial
theorem tw17468198385422240211:True:=trivial
theorem tw9949820534481497603:True:=trivial
theorem tw13205427394429733314:True:=trivial
theorem tw10419195201918493688:True:=trivial
theorem tw3382036137062488448:True:=trivial
theorem tw3565678399146920464:True:=trivial
theorem tw14867598518698003303:True:=trivial
theorem tw6295190047150913989:True:=trivial
theorem tw3926103607756410050:True:=trivial
theorem tw3228851373850638645:True:=trivial
theorem tw8441270763445310528:True:=trivial
theorem tw6442899085926605045:True:=trivial
theorem tw15676117534423933730:True:=trivial
theorem tw26812435431129878:True:=trivial
theorem tw736612571599554060:True:=trivial
theorem tw2644939139682592798:True:=trivial
theorem tw16041430819657341468:True:=trivial
theorem tw17656818694474028972:True:=trivial
theorem tw7073611813116810706:True:=trivial
theorem tw8642759904555053654:True:=trivial
theorem tw6412909807991603826:True:=trivial
theorem tw10535176705392567603:True:=trivial
theorem tw14197470659164493612:True:=trivial
theorem tw16064864323819730274:True:=trivial
theorem tw17213413246830822178:True:=trivial
theorem tw13615455153456474896:True:=trivial
theorem tw17231453559553566391:True:=trivial
theorem tw5616968290777116370:True:=trivial
theorem tw9436033454854762375:True:=trivial
theorem tw16567343182205407427:True:=trivial
theorem tw16468512131606207430:True:=trivial
theorem tw1587332956787754898:True:=trivial
theorem tw14337668137395143244:True:=trivial
theorem tw5233394365016165443:True:=trivial
theorem tw4738868108107033139:True:=trivial
theorem tw8888971368869952369:True:=trivial
theorem tw16617893025891020313:True:=trivial
theorem tw8843254566742048171:True:=trivial
theorem tw14695698954966638192:True:=trivial
theorem tw705227226713411785:True:=trivial
theorem tw2456345911021958404:True:=trivial
theorem tw4559033085903674394:True:=trivial
theorem tw12578461932571535178:True:=trivial
theorem tw15169110686332778205:True:=trivial
theorem tw117004178902998326:True:=trivial
theorem tw17627382564957142614:True:=trivial
theorem tw16467998420529538991:True:=trivial
theorem tw8609380604146263306:True:=trivial
theorem tw14829864107670046980:True:=trivial
theorem tw5046831259538285914:True:=trivial
theorem tw5332858102538077004:True:=trivial
theorem tw7606587558857905220:True:=trivial
theorem tw2191373919824778203:True:=trivial
theorem tw7930016676051792494:True:=trivial
theorem tw5201490857703845081:True:=trivial
theorem tw17543351891503255140:True:=trivial
theorem tw297295764385191300:True:=trivial
theorem tw10402381002142439124:True:=trivial
theorem tw5116937399710139889:True:=trivial
theorem tw13616082799510767712:True:=trivial
theorem tw4114114983830924508:True:=trivial
theorem tw5652509581466927027:True:=trivial
theorem tw652967020627871449:True:=trivial
theorem tw8771208631318248687:True:=trivial
theorem tw8087170355519599348:True:=trivial
theorem tw1310367924882075656:True:=trivial
theorem tw14596814054968573954:True:=trivial
theorem tw10342600117964943506:True:=trivial
theorem tw5073060417565742117:True:=trivial
theorem tw16953771928083435813:True:=trivial
theorem tw12881391937410253823:True:=trivial
theorem tw1705525441510641034:True:=trivial
theorem tw6331972948086881105:True:=trivial
theorem tw13255202915988861259:True:=trivial
theorem tw2764600926207285189:True:=trivial
theorem tw2703248585728849140:True:=trivial
theorem tw6285619632805687430:True:=trivial
theorem tw9594542901594866091:True:=trivial
theorem tw3322367885274757434:True:=trivial
theorem tw979734733928846185:True:=trivial
theorem tw10660638815527237809:True:=trivial
theorem tw18403670627238181221:True:=trivial
theorem tw16472900293966832744:True:=trivial
theorem tw6971531651621309042:True:=trivial
theorem tw12921782598899115886:True:=trivial
theorem tw14989223025472769080:True:=trivial
theorem tw6792707930876222923:True:=trivial
theorem tw14916556521730826851:True:=trivial
theorem tw10750998941275413088:True:=trivial
theorem tw757317209486186968:True:=trivial
theorem tw1515914000033867974:True:=trivial
theorem tw13711222992553433291:True:=trivial
theorem tw6890011153010555852:True:=trivial
theorem tw17491139003740424763:True:=trivial
theorem tw7941022813860459703:True:=trivial
theorem tw18415375292469858091:True:=trivial
theorem tw8524487582101784398:True:=trivial
theorem tw237487577525109201:True:=trivial
theorem tw2008422394633380515:True:=trivial
theorem tw12563745501854539074:True:=trivial
theorem tw2337142169931920359:True:=trivial
theorem tw6329572612241167196:True:=trivial
theorem tw15867602959831129794:True:=trivial
theorem tw6306651031939990917:True:=trivial
theorem tw3345176949353497244:True:=trivial
theorem tw6553424210831352552:True:=trivial
theorem tw228978006420290423:True:=trivial
theorem tw11631765082905248847:True:=trivial
theorem tw10533898086140406598:True:=trivial
theorem tw17477269320723363399:True:=trivial
theorem tw10522172105572250270:True:=trivial
theorem tw10368623654504939413:True:=trivial
theorem tw5125655452259517725:True:=trivial
theorem tw12338536644355420797:True:=trivial
theorem tw5450672862215913765:True:=trivial
theorem tw14828142905297384932:True:=trivial
theorem tw4244977265397792382:True:=trivial
theorem tw6435945812014722028:True:=trivial
theorem tw12722109666908417746:True:=trivial
theorem tw2759288752338571900:True:=trivial
theorem tw13549601516321667653:True:=trivial
theorem tw1633569707875539988:True:=trivial
theorem tw15613749091037833404:True:=trivial
theorem tw16184247949763961760:True:=trivial
theorem tw9790238581344712242:True:=trivial
theorem tw3465463391734094351:True:=trivial
theorem tw18297435106481891500:True:=trivial
theorem tw13371335186312924547:True:=trivial
theorem tw6315421066890975650:True:=trivial
theorem tw15437118008734148810:True:=trivial
theorem tw11367850323466838535:True:=trivial
theorem tw7039668620343803381:True:=trivial
theorem tw14086324132284911656:True:=trivial
theorem tw12220878706654057981:True:=trivial
theorem tw1496691459844709221:True:=trivial
theorem tw17595027113637027037:True:=trivial
theorem tw4720621201403925841:True:=trivial
theorem tw18121567689426870706:True:=trivial
theorem tw1839462172215063770:True:=trivial
theorem tw18070641021607978592:True:=trivial
theorem tw18295263702517652331:True:=trivial
theorem tw5624596020896068302:True:=trivial
theorem tw3747152758711280211:True:=trivial
theorem tw17066819953032527468:True:=trivial
theorem tw17266050724033628734:True:=trivial
theorem tw5558279490774390019:True:=trivial
theorem tw11733626097755199803:True:=trivial
theorem tw10478104812492290974:True:=trivial
theorem tw13636306993635468148:True:=trivial
theorem tw804709137783132568:True:=trivial
theorem tw8420240727166482189:True:=trivial
theorem tw7647180879615503600:True:=trivial
theorem tw6004322910218893083:True:=trivial
theorem tw10450820176155436305:True:=trivial
theorem tw6799399527764056693:True:=trivial
theorem tw13402420622213062293:True:=trivial
theorem tw17180256508822747202:True:=trivial
theorem tw9058531047557395565:True:=trivial
theorem tw1651767068804390429:True:=trivial
theorem tw15679148057053852828:True:=trivial
theorem tw15911093290387573751:True:=trivial
theorem tw16193587249275950188:True:=trivial
theorem tw10947653397972476189:True:=trivial
theorem tw3757271545996388992:True:=trivial
theorem tw3661694345046591303:True:=trivial
theorem tw340818938572452668:True:=trivial
theorem tw14888372400191004556:True:=trivial
theorem tw1174698646870509213:True:=trivial
theorem tw9974066537423620936:True:=trivial
theorem tw15003464943936120448:True:=trivial
theorem tw3786180028009623754:True:=trivial
theorem tw2626066166009660832:True:=trivial
theorem tw18086366385064773669:True:=trivial
theorem tw15100646916790893788:True:=trivial
theorem tw1367638578629557701:True:=trivial
theorem tw13010488867555097376:True:=trivial
theorem tw9180470512184859290:True:=trivial
theorem tw18422361765807303211:True:=trivial
theorem tw2605735407359604303:True:=trivial
theorem tw6795343780889560176:True:=trivial
theorem tw846002449032830614:True:=trivial
theorem tw9548662219476283095:True:=trivial
theorem tw4495472093124350503:True:=trivial
theorem tw5948014500462978514:True:=trivial
theorem tw16787581616945321859:True:=trivial
theorem tw11831112451688716229:True:=trivial
theorem tw6242018209755998959:True:=trivial
theorem tw7177291407134860221:True:=trivial
theorem tw3845278459045673587:True:=trivial
theorem tw8267866380923054560:True:=trivial
theorem tw17837147957170864974:True:=trivial
theorem tw13969432762744198593:True:=trivial
theorem tw17115663220509105709:True:=trivial
theorem tw12925591533567014452:True:=trivial
theorem tw6421180082725949921:True:=trivial
theorem tw6072906237495714644:True:=trivial
theorem tw7028494621835269276:True:=trivial
theorem tw2734880654282843911:True:=trivial
theorem tw11298033045872074466:True:=trivial
theorem tw10360323705881140347:True:=trivial
theorem tw13074080880184335396:True:=trivial
theorem tw7623160717920802188:True:=trivial
theorem tw7133284388719135774:True:=trivial
theorem tw1592388354969370589:True:=trivial
theorem tw5868079058374199233:True:=trivial
theorem tw10337075920577418850:True:=trivial
theorem tw824045594173589392:True:=trivial
theorem tw15244542384655560484:True:=trivial
theorem tw9840072629861800607:True:=trivial
theorem tw7480916580755355140:True:=trivial
theorem tw13627023923982028110:True:=trivial
theorem tw5727146669243754545:True:=trivial
theorem tw15830431933776702660:True:=trivial
theorem tw6683763157818992988:True:=trivial
theorem tw45814721029747268:True:=trivial
theorem tw2175980776267686954:True:=trivial
theorem tw3280744926477499516:True:=trivial
theorem tw12045266730525965715:True:=trivial
theorem tw6052541728263669058:True:=trivial
theorem tw12735323874440550671:True:=trivial
theorem tw11212787141572486360:True:=trivial
theorem tw17894376863059176952:True:=trivial
theorem tw7266264760449368232:True:=trivial
theorem tw4910098605897536287:True:=trivial
theorem tw9813056651072808265:True:=trivial
theorem tw7421505766298077914:True:=trivial
theorem tw2337853322004944093:True:=trivial
theorem tw10215185835819274133:True:=trivial
theorem tw2036389438864782611:True:=trivial
theorem tw82193335979064383:True:=trivial
theorem tw14471248673123700282:True:=trivial
theorem tw6750491305862962675:True:=trivial
theorem tw103425315273715125:True:=trivial
theorem tw12326633788853666396:True:=trivial
theorem tw18108085008056228918:True:=trivial
theorem tw1194828923074772419:True:=trivial
theorem tw5381591510758053276:True:=trivial
theorem tw16198698297717656551:True:=trivial
theorem tw6903833924904845313:True:=trivial
theorem tw18245348364892418981:True:=trivial
theorem tw4406492429007337364:True:=trivial
theorem tw1443109147887218123:True:=trivial
theorem tw9932440822475570685:True:=trivial
theorem tw12486803007007848278:True:=trivial
theorem tw14018872468527468923:True:=trivial
theorem tw14938164155563123217:True:=trivial
theorem tw11180766963874688769:True:=trivial
theorem tw15773817346079808641:True:=trivial
theorem tw231696036211214815:True:=trivial
theorem tw727861500631438867:True:=trivial
theorem tw16371694536380579989:True:=trivial
theorem tw12054456792527799607:True:=trivial
theorem tw6931710604007102667:True:=trivial
theorem tw6076024322762838617:True:=trivial
theorem tw4893105793719180034:True:=trivial
theorem tw17682618388269867727:True:=trivial
theorem tw1010154593548023095:True:=trivial
theorem tw15485178866597155584:True:=trivial
theorem tw14175338871226655603:True:=trivial
theorem tw3995734773118556685:True:=trivial
theorem tw13586793083652310921:True:=trivial
theorem tw15150518246053565461:True:=trivial
theorem tw12853280500023121879:True:=trivial
theorem tw11965273352937147685:True:=trivial
theorem tw1658663146024890152:True:=trivial
theorem tw18055468344430131403:True:=trivial
theorem tw9110557915610572353:True:=trivial
theorem tw17169413372470885207:True:=trivial
theorem tw11738042539818640205:True:=trivial
theorem tw8053997399185271328:True:=trivial
theorem tw1323580553483035995:True:=trivial
theorem tw11397924168153672995:True:=trivial
theorem tw16294978062323230347:True:=trivial
theorem tw6131821667119438940:True:=trivial
theorem tw166045698764268694:True:=trivial
theorem tw3401071904759322618:True:=trivial
theorem tw12472670899939820741:True:=trivial
theorem tw17447133988715276920:True:=trivial
theorem tw10343502355713865076:True:=trivial
theorem tw8188998586923127083:True:=trivial
theorem tw2400859084645247033:True:=trivial
theorem tw14348454471780595587:True:=trivial
theorem tw4155105633801204401:True:=trivial
theorem tw5397411364686387996:True:=trivial
theorem tw958565541306938051:True:=trivial
theorem tw1899409276944915821:True:=trivial
theorem tw4058921921109290837:True:=trivial
theorem tw11572398819901465812:True:=trivial
theorem tw3870289294895885352:True:=trivial
theorem tw14602883863911468093:True:=trivial
theorem tw18229203518973578682:True:=trivial
theorem tw16713297358502147597:True:=trivial
theorem tw5314983682634477993:True:=trivial
theorem tw10891743864250491868:True:=trivial
theorem tw8136066007651453402:True:=trivial
theorem tw4114157423799135330:True:=trivial
theorem tw11247996320539438695:True:=trivial
theorem tw15148222829653982056:True:=trivial
theorem tw14403388426961370657:True:=trivial
theorem tw7844845658341775652:True:=trivial
theorem tw12330487354071851232:True:=trivial
theorem tw9901426088366655932:True:=trivial
theorem tw7193397899478044824:True:=trivial
theorem tw3468510163921699564:True:=trivial
theorem tw6685894503257744610:True:=trivial
theorem tw82504375179569127:True:=trivial
theorem tw16802257189882647094:True:=trivial
theorem tw6176094819202514630:True:=trivial
theorem tw99977805244059279:True:=trivial
theorem tw17349054034250217447:True:=trivial
theorem tw17446564499331200307:True:=trivial
theorem tw86721469563637542:True:=trivial
theorem tw1273873665484200151:True:=trivial
theorem tw9309265498592069339:True:=trivial
theorem tw3561142719570718362:True:=trivial
theorem tw14552342177524132279:True:=trivial
theorem tw9589471832901320058:True:=trivial
theorem tw14181353626008289398:True:=trivial
theorem tw8506958613605938538:True:=trivial
theorem tw17641406574408244014:True:=trivial
theorem tw9460279412673240213:True:=trivial
theorem tw7103778314008146972:True:=trivial
theorem tw5064239861034050591:True:=trivial
theorem tw11067196127158270667:True:=trivial
theorem tw7542188352054239609:True:=trivial
theorem tw14707301968153653356:True:=trivial
theorem tw11841610727844230511:True:=trivial
theorem tw1090478749324926984:True:=trivial
theorem tw7486171634837416871:True:=trivial
theorem tw13690093505730240726:True:=trivial
theorem tw7990263678264598729:True:=trivial
theorem tw4225540224419595707:True:=trivial
theorem tw15012455652647386484:True:=trivial
theorem tw6039366108225172137:True:=trivial
theorem tw9999535052471248704:True:=trivial
theorem tw15340933774041818090:True:=trivial
theorem tw10295234815167311937:True:=trivial
theorem tw2378633912235820016:True:=trivial
theorem tw16268839584856400588:True:=trivial
theorem tw14071325942919641729:True:=trivial
theorem tw7563427082421665576:True:=trivial
theorem tw16538465491164506071:True:=trivial
theorem tw17750219105611049848:True:=trivial
theorem tw14563798824188175724:True:=trivial
theorem tw1073591474287203287:True:=trivial
theorem tw955051951955912000:True:=trivial
theorem tw9980995570042878909:True:=trivial
theorem tw8121247389594776087:True:=trivial
theorem tw13670244964553384642:True:=trivial
theorem tw2460871979471340443:True:=trivial
theorem tw2707249505066715291:True:=trivial
theorem tw8708936072293029525:True:=trivial
theorem tw1382505953296916509:True:=trivial
theorem tw15021940832900830505:True:=trivial
theorem tw8868143085464579295:True:=trivial
theorem tw17355993369657380187:True:=trivial
theorem tw14314515131644153871:True:=trivial
theorem tw629149909438511250:True:=trivial
theorem tw12411763633806169431:True:=trivial
theorem tw12990796967703869632:True:=trivial
theorem tw7981647646758970540:True:=trivial
theorem tw5487311663606208850:True:=trivial
theorem tw18100187353167603191:True:=trivial
theorem tw6653120320400491280:True:=trivial
theorem tw2878326676597401454:True:=trivial
theorem tw16162413367475355486:True:=trivial
theorem tw12368756800145721436:True:=trivial
theorem tw3288884493237993506:True:=trivial
theorem tw12412996668181919057:True:=trivial
theorem tw16702874921426751887:True:=trivial
theorem tw15503896030336977777:True:=trivial
theorem tw13536088752140982675:True:=trivial
theorem tw7294629494094302597:True:=trivial
theorem tw3237432430807909053:True:=trivial
theorem tw4511296020311566269:True:=trivial
theorem tw7422573440247470227:True:=trivial
theorem tw6413837967065344667:True:=trivial
theorem tw15812935737064561310:True:=trivial
theorem tw16811813023844606158:True:=trivial
theorem tw14701029431464796126:True:=trivial
theorem tw13694931577524690370:True:=trivial
theorem tw5579723830169244802:True:=trivial
theorem tw8559902457833098065:True:=trivial
theorem tw15710898940424958065:True:=trivial
theorem tw9214527485645055371:True:=trivial
theorem tw9272814411225867541:True:=trivial
theorem tw3966096489651957475:True:=trivial
theorem tw3381203687643519425:True:=trivial
theorem tw13090049520739061739:True:=trivial
theorem tw2360889347602357031:True:=trivial
theorem tw13401698430543683508:True:=trivial
theorem tw8749133474021920759:True:=trivial
theorem tw12399196637630400403:True:=trivial
theorem tw9148477674421018418:True:=trivial
theorem tw419691982748027419:True:=trivial
theorem tw6025087900462802261:True:=trivial
theorem tw10585216225388270238:True:=trivial
theorem tw9949009971916604641:True:=trivial
theorem tw12131984078022572054:True:=trivial
theorem tw147338059810893000:True:=trivial
theorem tw11069885436314960566:True:=trivial
theorem tw11204879070331659821:True:=trivial
theorem tw18246851540005427050:True:=trivial
theorem tw6913992426498579079:True:=trivial
theorem tw5279108552159785418:True:=trivial
theorem tw10005792511049182280:True:=trivial
theorem tw3385234645654889921:True:=trivial
theorem tw12554442176879174778:True:=trivial
theorem tw547298239759955676:True:=trivial
theorem tw7483616199735696583:True:=trivial
theorem tw6192435359380055415:True:=trivial
theorem tw3657476860821338598:True:=trivial
theorem tw4698438889110563056:True:=trivial
theorem tw2104076332191406904:True:=trivial
theorem tw18166962923216568766:True:=trivial
theorem tw7340913351001447979:True:=trivial
theorem tw3657563783411802522:True:=trivial
theorem tw4628660549172671500:True:=trivial
theorem tw14304208967719530302:True:=trivial
theorem tw14396974146280431901:True:=trivial
theorem tw6306739341850490861:True:=trivial
theorem tw10221828598117861252:True:=trivial
theorem tw16040581812158017877:True:=trivial
theorem tw14624748561156131761:True:=trivial
theorem tw11281038514014683712:True:=trivial
theorem tw8344512475732671691:True:=trivial
theorem tw16471040929957157497:True:=trivial
theorem tw7340773761414799071:True:=trivial
theorem tw14526595053817059766:True:=trivial
theorem tw3935555825788707394:True:=trivial
theorem tw656163808169713874:True:=trivial
theorem tw10693923155540096698:True:=trivial
theorem tw14933119291245804330:True:=trivial
theorem tw11243762243646371484:True:=trivial
theorem tw4544420606460913419:True:=trivial
theorem tw17481854169242241654:True:=trivial
theorem tw7258513717200232465:True:=trivial
theorem tw17105050621552573742:True:=trivial
theorem tw293812945670860595:True:=trivial
theorem tw17128795048823015110:True:=trivial
theorem tw1230628670583827554:True:=trivial
theorem tw5409683053885000059:True:=trivial
theorem tw9905928245916474255:True:=trivial
theorem tw15936603191351661719:True:=trivial
theorem tw13733311939640066346:True:=trivial
theorem tw17914811732110573483:True:=trivial
theorem tw8969867807136838352:True:=trivial
theorem tw9525404103522720233:True:=trivial
theorem tw4074105446981906490:True:=trivial
theorem tw1621902794526951998:True:=trivial
theorem tw2742786608429206489:True:=trivial
theorem tw16011445064101448686:True:=trivial
theorem tw5246895583425544579:True:=trivial
theorem tw7527992032701575201:True:=trivial
theorem tw2785982401752826722:True:=trivial
theorem tw8000987624488040541:True:=trivial
theorem tw11445611359867946346:True:=trivial
theorem tw13857222943697972755:True:=trivial
theorem tw4381483836736941546:True:=trivial
theorem tw9191935176351468903:True:=trivial
theorem tw10122244718763541213:True:=trivial
theorem tw12188737273483423298:True:=trivial
theorem tw11724939330350772709:True:=trivial
theorem tw10150896844248089021:True:=trivial
theorem tw13163021880633161348:True:=trivial
theorem tw8013622141075352482:True:=trivial
theorem tw9389867675213730335:True:=trivial
theorem tw1624375473163349344:True:=trivial
theorem tw1484408998630528198:True:=trivial
theorem tw6055044753604914005:True:=trivial
theorem tw6046131520735380171:True:=trivial
theorem tw8621208496150355030:True:=trivial
theorem tw14378558321314670161:True:=trivial
theorem tw4205315893425270693:True:=trivial
theorem tw16499911564129650654:True:=trivial
theorem tw9556252645434842997:True:=trivial
theorem tw11140312991734967661:True:=trivial
theorem tw10062203484559224926:True:=trivial
theorem tw11375628468977556308:True:=trivial
theorem tw14820803742001721000:True:=trivial
theorem tw853392558148722762:True:=trivial
theorem tw13376557247983280495:True:=trivial
theorem tw15336368297712885271:True:=trivial
theorem tw13681356756106661095:True:=trivial
theorem tw13563823609041050980:True:=trivial
theorem tw8651978186079828600:True:=trivial
theorem tw2896654185546524516:True:=trivial
theorem tw15350115056783423900:True:=trivial
theorem tw16529159254765447672:True:=trivial
theorem tw11795848446568079748:True:=trivial
theorem tw17148767718467539231:True:=trivial
theorem tw17379475580427690058:True:=trivial
theorem tw9858735894024268405:True:=trivial
theorem tw11664420871061612140:True:=trivial
theorem tw14524101167772673185:True:=trivial
theorem tw12150410991976171347:True:=trivial
theorem tw17542182804172364917:True:=trivial
theorem tw10676959075727807298:True:=trivial
theorem tw17047395646632335561:True:=trivial
theorem tw9328708079720853519:True:=trivial
theorem tw12873732075614900322:True:=trivial
theorem tw17558686283456373738:True:=trivial
theorem tw4069420277750202467:True:=trivial
theorem tw8388401535093442122:True:=trivial
theorem tw3846125598741997064:True:=trivial
theorem tw3073923780450139114:True:=trivial
theorem tw15295147889961344531:True:=trivial
theorem tw15665428600535368264:True:=trivial
theorem tw18303573309021568563:True:=trivial
theorem tw5703261118492946361:True:=trivial
theorem tw12487080383743601301:True:=trivial
theorem tw4581338320022317656:True:=trivial
theorem tw8989208689369758473:True:=trivial
theorem tw8293746368049832545:True:=trivial
theorem tw13215657743453392776:True:=trivial
theorem tw5693593455149074157:True:=trivial
theorem tw2432621643526426515:True:=trivial
theorem tw6911952582188464037:True:=trivial
theorem tw11811590585519651723:True:=trivial
theorem tw583102033140281085:True:=trivial
end PySem.W.Fast
set_option maxRecDepth 100000 in
set_option maxHeartbeats 0 in
theorem PySem.Challenge.cw_crookroad_k61_whole_stories_apart_holds : PySem.Challenge.rw_crookroad_k61_whole_stories_apart.Holds := by
 w_on;o_law;k_head;(case hw=>w_witness2)
 k_fill
 refine My.walk (l:=PySem.Challenge.rw_crookroad_k61_whole_stories_apart) rfl rfl (fun w h Y=>PySem.W.kIn_of Y) ?F
 case F =>
  intro w mg fa h KX G hmg
  refine' My.all_mk KX G hmg ?d__law_cell ?d__law_pick ?d_check_bottom ?d_common_divisor ?d_lowest ?d_check_count ?d_is_line ?d_trace ?d_spot ?d_led_to ?d_set_down ?d_is_name ?d_check_new_name ?d_exchange ?d__law_climb ?d__law_heights ?d__law_step ?d__law_trace ?d__law_after ?d__law_common ?d__law_low ?d__law_spot ?d__law_whole ?d__law_count ?d__law_story ?d__law_due ?d__law_right ?d__law_steps ?d__law_going ?d__law_twin_back ?d_law ?a_RoadError ?x_RoadError ?a_BadLine ?x_BadLine ?a_BadBottom ?x_BadBottom ?a_OffRoad ?x_OffRoad ?a_BadCount ?x_BadCount ?a_TooLong ?x_TooLong ?a_BadRow ?x_BadRow ?a_BadName ?x_BadName ?a_Taken ?x_Taken ?a_NoRoad ?x_NoRoad ?a_NoWalker ?x_NoWalker ?a_NothingDone ?x_NothingDone ?a_Road ?pg_Road ?hd_Road ?po_Road ?sa_Road ?mk_Road ?kc_Road ?m_Road___init__ ?m_Road_width ?m_Road_ends ?m_Road_on_road ?m_Road_at ?a_Walker ?pg_Walker ?hd_Walker ?po_Walker ?sa_Walker ?mk_Walker ?kc_Walker ?m_Walker___init__ ?m_Walker_gone ?a_House ?pg_House ?hd_House ?po_House ?sa_House ?mk_House ?kc_House ?m_House___init__ ?m_House_road_called ?m_House_walker_called ?m_House_do ?m_House_lay ?m_House_take_back ?m_House_place ?m_House_go ?m_House_walkers_on ?m_House_together ?m_House_leave ?m_House_twin ?m_House_stood ?na_Road_heights ?na_Walker_whose ?na_Walker_point ?na_Walker_times ?na_House_roads ?na_House_walkers ?na_House_done ?g_WIDEST ?g_LONGEST_TRACE ?g_FARTHEST ?g_LONGEST_NAME ?g_GREATEST_BOTTOM ?g_LETTERS ?z_len ?z_abs ?z_range ?z_list ?z_min ?z_max ?z_all ?z_any ?z_sorted ?z_enumerate ?z_dict ?z_isinstance ?z_int ?z_bool
  (case d__law_cell=>walk_at "def")
  (case d__law_pick=>walk_at "def")
  (case d_check_bottom=>walk_at "def")
  (case d_common_divisor=>walk_at "def")
  (case d_lowest=>walk_at "def")
  (case d_check_count=>walk_at "defD")
  (case d_is_line=>walk_at "def")
  (case d_trace=>walk_at "def")
  (case d_spot=>walk_at "def")
  (case d_led_to=>walk_at "def")
  (case d_set_down=>walk_at "def")
  (case d_is_name=>walk_at "def")
  (case d_check_new_name=>walk_at "def")
  (case d_exchange=>walk_at "def")
  (case d__law_climb=>walk_at "def")
  (case d__law_heights=>walk_at "def")
  (case d__law_step=>walk_at "def")
  (case d__law_trace=>walk_at "def")
  (case d__law_after=>walk_at "def")
  (case d__law_common=>walk_at "def")
  (case d__law_low=>walk_at "def")
  (case d__law_spot=>walk_at "def")
  (case d__law_whole=>walk_at "def")
  (case d__law_count=>walk_at "def")
  (case d__law_story=>walk_at "def")
  (case d__law_due=>walk_at "def")
  (case d__law_right=>walk_at "def")
  (case d__law_steps=>walk_at "def")
  (case d__law_going=>walk_at "def")
  (case d__law_twin_back=>walk_at "def")
  (case d_law=>walk_at "def")
  (case a_RoadError=>k_is)
  (case x_RoadError=>k_exc)
  (case a_BadLine=>k_is)
  (case x_BadLine=>k_exc)
  (case a_BadBottom=>k_is)
  (case x_BadBottom=>k_exc)
  (case a_OffRoad=>k_is)
  (case x_OffRoad=>k_exc)
  (case a_BadCount=>k_is)
  (case x_BadCount=>k_exc)
  (case a_TooLong=>k_is)
  (case x_TooLong=>k_exc)
  (case a_BadRow=>k_is)
  (case x_BadRow=>k_exc)
  (case a_BadName=>k_is)
  (case x_BadName=>k_exc)
  (case a_Taken=>k_is)
  (case x_Taken=>k_exc)
  (case a_NoRoad=>k_is)
  (case x_NoRoad=>k_exc)
  (case a_NoWalker=>k_is)
  (case x_NoWalker=>k_exc)
  (case a_NothingDone=>k_is)
  (case x_NothingDone=>k_exc)
  (case a_Road=>k_is)
  (case pg_Road=>k_is)
  (case hd_Road=>k_is)
  (case po_Road=>k_is)
  (case sa_Road=>k_is)
  (case mk_Road=>k_is)
  (case kc_Road=>k_is)
  (case m_Road___init__=>walk_at "meth")
  (case m_Road_width=>walk_at "meth")
  (case m_Road_ends=>walk_at "meth")
  (case m_Road_on_road=>walk_at "meth")
  (case m_Road_at=>walk_at "meth")
  (case a_Walker=>k_is)
  (case pg_Walker=>k_is)
  (case hd_Walker=>k_is)
  (case po_Walker=>k_is)
  (case sa_Walker=>k_is)
  (case mk_Walker=>k_is)
  (case kc_Walker=>k_is)
  (case m_Walker___init__=>walk_at "meth")
  (case m_Walker_gone=>walk_at "meth")
  (case a_House=>k_is)
  (case pg_House=>k_is)
  (case hd_House=>k_is)
  (case po_House=>k_is)
  (case sa_House=>k_is)
  (case mk_House=>k_is)
  (case kc_House=>k_is)
  (case m_House___init__=>walk_at "meth")
  (case m_House_road_called=>walk_at "meth")
  (case m_House_walker_called=>walk_at "meth")
  (case m_House_do=>walk_at "meth")
  (case m_House_lay=>walk_at "meth")
  (case m_House_take_back=>walk_at "meth")
  (case m_House_place=>walk_at "meth")
  (case m_House_go=>walk_at "meth")
  (case m_House_walkers_on=>walk_at "meth")
  (case m_House_together=>walk_at "meth")
  (case m_House_leave=>walk_at "meth")
  (case m_House_twin=>walk_at "meth")
  (case m_House_stood=>walk_at "meth")
  (case na_Road_heights=>k_is)
  (case na_Walker_whose=>k_is)
  (case na_Walker_point=>k_is)
  (case na_Walker_times=>k_is)
  (case na_House_roads=>k_is)
  (case na_House_walkers=>k_is)
  (case na_House_done=>k_is)
  (case g_WIDEST=>k_is)
  (case g_LONGEST_TRACE=>k_is)
  (case g_FARTHEST=>k_is)
  (case g_LONGEST_NAME=>k_is)
  (case g_GREATEST_BOTTOM=>k_is)
  (case g_LETTERS=>k_is)
  (case z_len=>k_is)
  (case z_abs=>k_is)
  (case z_range=>k_is)
  (case z_list=>k_is)
  (case z_min=>k_is)
  (case z_max=>k_is)
  (case z_all=>k_is)
  (case z_any=>k_is)
  (case z_sorted=>k_is)
  (case z_enumerate=>k_is)
  (case z_dict=>k_is)
  (case z_isinstance=>k_is)
  (case z_int=>k_is)
  (case z_bool=>k_is)
