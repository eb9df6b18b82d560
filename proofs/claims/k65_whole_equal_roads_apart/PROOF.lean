import PyProof.Rows.All
import Wide.All
import OpenK.AllK
import Wide.FinOn
import Lean
import PyProof.EqAt
import PyProof.EqKinds
import PyProof.TupleCall
import PyProof.NeData
import KE.IntBitsLaws
import KE.KDictList
import PyProof.DictIter
import PyProof.DictItems
import PyProof.DictWalks
import PyProof.StrLoop
import KE.KPairComp
import PyProof.StrWalks
import KE.KSortKey
import KE.KDictOf
import PyProof.Rows.TupDisplay
import PyProof.DictCompW
import PySem.Challenge.RW_crookroad_k65_whole_equal_roads_apart
set_option Elab.async false
set_option linter.all false
set_option maxRecDepth 100000
local macro_rules|`(tactic|lia)=>`(tactic|first|lia +splitIte|omega)
def aa:=@PySem.wpAny_bind
def ac:=@PySem.Heap.get?_push_of_some
def ae:=@List.length_map
def af:=@if_neg
def ag:=@PySem.wpAny_pure
def ah:=@Nat.le_refl
def ai:=@List.mem_singleton
def aj:=@if_pos
def ak:=@List.mem_cons
def al:=@PySem.Heap.lt_size
def am:=@List.not_mem_nil
def ao:=@List.mem_map
def aq:=@PySem.Heap.get?_push_size
def ar:=@Nat.ne_of_lt
def au:=@List.getElem?_eq_getElem
def av:=@List.mem_append_right
def aw:=@List.size_toArray
def ax:=@List.map_cons
def ay:=@List.getD_eq_getElem?_getD
def az:=@Option.some.inj
def aA:=@Bool.false_ne_true
def aB:=@Nat.zero_le
def aC:=@List.lookup_cons
def aD:=@Nat.lt_of_lt_of_le
def aE:=@List.mem_cons_of_mem
def aF:=@Int.mul_le_mul_of_nonneg_right
def aG:=@PySem.W.mg_of
def aH:=@List.mem_append
def aI:=@beq_eq_false_iff_ne
def aJ:=@List.mem_cons_self
def aK:=@List.getElem?_map
def aL:=@List.length_cons
def aM:=@PySem.boot_len
def aN:=@List.nodup_cons
def aO:=@List.length_range
def aP:=@PySem.PassesOwn.leaving
def aQ:=@PySem.W.mg_none_of
def aR:=@PySem.wpAny_mono
def aS:=@Nat.lt_irrefl
def aT:=@List.getElem?_eq_some_iff
def aU:=@List.drop_eq_getElem_cons
def aV:=@List.length_append
def aW:=@Array.length_toList
def aX:=@List.mem_of_getElem?
def aY:=@List.nodup_nil
def aZ:=@Ne.symm
def ba:=@List.map_append
def bb:=@List.mem_range
def bc:=@Bool.and_eq_true
def bd:=@Nat.lt_trans
def be:=@Option.isSome_iff_exists
def bg:=@PyProof.Rows.slot_tuple_getitem
def bh:=@decide_eq_false
def bi:=@PySem.wpAny_newObj_type
def bj:=@Int.emod_lt_of_pos
def bn:=@decide_eq_true
def bo:=@PySem.Paired.length
def bp:=@PySem.W.kia_one
def bq:=@List.filter_cons
def br:=@PyProof.Rows.boot_list
def bt:=@Int.mul_le_mul_of_nonneg_left
def bu:=@List.pairwise_map
def bv:=@Nat.le_of_ble_eq_true
def bz:=@or_false
def bA:=@List.mem_filter
def bB:=@Nat.le_trans
def bC:=@Nat.le_of_lt
def bD:=@List.map_nil
def bE:=@Int.emod_nonneg
def bF:=@PySem.F.slot_dict_keyiterator_next
def bG:=@List.length_take
def bH:=@PySem.wpAny_holding
def bI:=@congrArg
def bJ:=@PySem.Calls.callWith_builtin
def bK:=@Array.getElem?_eq_getElem
def bL:=@PySem.F.slot_dict_get
def bM:=@List.getElem?_eq_none
def bN:=@List.Pairwise.imp_of_mem
def bO:=@PySem.wpAny_typeNameOfWhole_keyiter
def bP:=@PySem.wpAny_callSpecial?_slot
def bQ:=@PySem.wpAny_dictEntries
def bR:=@PySem.F.plainAttrs_list
def bS:=@List.map_congr_left
def bT:=@Array.getElem?_eq_none
def bU:=@List.map_map
def bV:=@List.all_eq_true
def bW:=@Nat.mod_eq_of_lt
def bX:=@List.getElem?_append_right
def bY:=@PySem.tupleKind_room_in1
def bZ:=@Bool.false_eq_true
def ca:=@Nat.mod_lt
def cb:=@Array.getElem?_toList
def ce:=@Classical.byContradiction
def cf:=@PySem.wpAny_passesOwn
def cg:=@List.append_nil
def ck:=@List.length_nil
def cm:=@PySem.wpAny_truthy_bool
def cn:=@PySem.Calls.evalArgs_plain
def cu:=@Int.lt_or_le
def cv:=@PySem.wpAny_typeNameOf_keyiter
def cw:=@PySem.mem_of_lookup
def cx:=@PySem.wpAny_call_entry
def cy:=@PySem.F.plainAttrs_dict
def cz:=@List.mem_flatMap
def cA:=@PySem.Calls.spliced_cons
def cB:=@PySem.wpAny_Call_Name_kw
def cC:=@Option.map_eq_some_iff
def cD:=@PySem.call_meetsIn
def cE:=@PySem.F.entry_dict_get
def cF:=@Bool.eq_iff_iff
def cG:=@List.length_set
def cH:=@Int.mul_ediv_mul_of_pos_left
def cI:=@List.range_succ
def cJ:=@List.find?_cons
def cK:=@Option.map_some
def cL:=@PyProof.Rows.boot_isinstance
def cM:=@PySem.wpAny_standAt
def cN:=@List.length_filter_le
def cO:=@PyProof.Rows.callWith_type1
def cP:=@List.mem_append_left
def cQ:=@Array.size_map
def cR:=@List.exists_cons_of_ne_nil
def cS:=@List.getElem_mem
def cT:=@List.cons_ne_nil
def cU:=@List.getElem?_append_left
def cV:=@List.mem_of_find?_eq_some
def cW:=@List.filterMap_cons
def cX:=@List.getElem_of_mem
def cY:=@PySem.Heap.SameBut.update
def cZ:=@PySem.wpAny_comprehension_free
def dc:=@PySem.F.slot_list_append
def de:=@PySem.F.type_list_append
def df:=@PyProof.Rows.boot_sorted
def dh:=@List.pairwise_cons
def di:=@List.find?_eq_none
def dj:=@List.append_ne_nil_of_right_ne_nil
def dm:=@List.getElem?_set_self
def dn:=@PySem.Heap.size_push
def dq:=@PySem.Calls.spliced_nil
def du:=@Int.toNat_natCast
def dv:=@Int.mul_nonneg
def dz:=@List.pairwise_lt_range
def dA:=@of_decide_eq_true
def dB:=@decide_eq_true_eq
def dC:=@List.take_add_one
def dD:=@PySem.Heap.get?_update_self
def dE:=@PyProof.Rows.boot_min
def dF:=@PyProof.Rows.boot_max
def dG:=@List.getElem_inj
def dH:=@beq_iff_eq
def dI:=@PySem.F.args_dict_keyiterator_next_1
def dJ:=@List.getElem_map
def dL:=@if_false
def dM:=@Int.mul_ediv_cancel'
def dN:=@PySem.wpAny_newFunctionEnv
def dO:=@PySem.lookup_relabel_local
def dP:=@PySem.F.entry_dict_keyiterator_next
def dQ:=@List.eq_nil_of_length_eq_zero
def dR:=@Nat.div_lt_of_lt_mul
def dS:=@PySem.wpAny_execs_nil
def dU:=@Int.lt_ediv_add_one_mul_self
def dW:=@Nat.not_lt_zero
def dX:=@PySem.W.plainGet_of
def dY:=@List.getElem?_range
def dZ:=@Nat.ne_of_gt
def d6:=@PySem.codeAny_mono
def d7:=@Array.getD_eq_getD_getElem?
def ee:=@PyProof.Rows.assignInOrder_cons
def eh:=@List.mem_filterMap
def el:=@Nat.lt_of_le_of_lt
def eo:=@PySem.W.callWith_K
def eA:=@PySem.F.excBase_ValueError
def eB:=@Int.mul_lt_mul_of_pos_left
def eC:=@Array.getElem?_eq_some_iff
def eE:=@PySem.F.slot_dict_delitem
def eG:=@Nat.add_mul_mod_self_left
def eI:=@List.getLast?_eq_getElem?
def eJ:=@PySem.wpAny_assign_Name
def eK:=@Option.isSome_map
def eM:=@PySem.wpAny_Call_method
def eN:=@List.length_erase
def eO:=@List.getElem_take
def eP:=@Nat.mul_assoc
def eQ:=@List.length_erase_of_mem
def eS:=@PySem.wpAny_execs_cons
def eU:=@Int.natCast_dvd_natCast
def eV:=@PySem.F.args_dict_get_2
def eX:=@PySem.F.args_dict_get_3
def eY:=@PySem.F.slot_dict_items
def eZ:=@List.pairwise_singleton
def fc:=@List.take_length
def ff:=@PySem.wpAny_typeOf
def fg:=@Int.mul_comm
def fh:=@Nat.lt_or_ge
def fi:=@Int.le_trans
def fj:=@List.of_mem_zip
def fk:=@Int.natCast_mul
def fo:=@Int.ediv_nonneg
def fu:=@Int.ediv_mul_le
def fy:=@PySem.wpAny_specialOf
def fA:=@PySem.wpAny_dictEpoch
def fC:=@Nat.div_add_mod
def fE:=@List.any_cons
section
open PySem PySem.Spec PyProof.Rows
abbrev Aa:=PySem.W.Frag
abbrev Ab:=PySem.Shared
abbrev Ac:=PySem.Program
abbrev Ad:=PySem.FuncData
abbrev Ae:=Around
abbrev Af:=SortSt
abbrev Ag:=Value
abbrev Ah:=World
abbrev Ai:=Keyed
abbrev Aj:=Addr
end
namespace L2
theorem exI {α:Sort _}{A K:α→Prop}{v:α}(e:A v)(h:K v):∃x,A x∧K x:=⟨v,e,h⟩
theorem wt {α β:Sort _}{A:α→Prop}{B:β→Prop}{K:α→β→Prop}{u:α}{v:β}(a:A u)(b:B v)(h:K u v):∃x y,A x∧B y∧K x y:=⟨u,v,a,b,h⟩
theorem exX {α β γ δ:Sort _}{A:α→Prop}{B:γ→Prop}{C:α→β→Prop}{D:β→γ→δ→Prop}{K:δ→Prop}{p:α}{xs:β}{i:γ}{v:δ}(a:A p)(b:B i)(c:C p xs)(d:D xs i v)(h:K v):∃p xs i v,A p∧B i∧C p xs∧D xs i v∧K v:=⟨p,xs,i,v,a,b,c,d,h⟩
end L2
namespace L2
open PySem PySem.Spec PyProof.Rows
abbrev Key:=Sum Int Str
def Y3:Key→Ag→Bool
 |.inl k,v=>Value.isInt k v
 |.inr x,v=>Value.isStrOf x v
def keyH (w:Ah):Key→Int
 |.inl k=>hashInt k
 |.inr x=>hashStr w x
theorem zn:∀ {k:Key} {v:Ag},Y3 k v=true→(∃i t,k=Sum.inl i∧v=Value.int i t)∨(∃x t,k=Sum.inr x∧v=Value.str x t)
 |.inl i,v,h=>by
  obtain ⟨t,e⟩:=Value.isInt_shape (k:=i) (v:=v) h
  exact .inl ⟨i,t,rfl,e⟩
 |.inr x,v,h=>by
  obtain ⟨t,e⟩:=Value.isStrOf_shape (x:=x) (v:=v) h
  exact .inr ⟨x,t,rfl,e⟩
theorem wq1 (i:Int)(t:Tok):Y3 (.inl i) (.int i t)=true:=by simp [Y3,Value.isInt]
theorem ww8 (x:Str)(t:Tok):Y3 (.inr x) (.str x t)=true:=by simp [Y3,Value.isStrOf]
theorem key_ll (a b:Int):decide ((Sum.inl a:Key)=Sum.inl b)=(a==b):=by
 by_cases e:a=b
 ·subst e;simp
 ·have h:¬ (Sum.inl a:Key)=Sum.inl b:=λq=>e (Sum.inl.inj q)
  rw [bh h]
  exact (aI.mpr e).symm
theorem key_rr (a b:Str):decide ((Sum.inr a:Key)=Sum.inr b)=decide (a=b):=by
 by_cases e:a=b
 ·subst e;simp
 ·have h:¬ (Sum.inr a:Key)=Sum.inr b:=λq=>e (Sum.inr.inj q)
  rw [bh h,bh e]
theorem key_lr (a:Int)(b:Str):decide ((Sum.inl a:Key)=Sum.inr b)=false:=bh (λq=>nomatch q)
theorem key_rl (a:Str)(b:Int):decide ((Sum.inr a:Key)=Sum.inl b)=false:=bh (λq=>nomatch q)
def xg (prog:Ac)(w:Ah):PySem.KeyKind prog w Key where
 is:=Y3
 hash:=keyH w
 inj:=λv a b ha hb=>by
  rcases zn ha with ⟨i,t,rfl,rfl⟩|⟨x,t,rfl,rfl⟩
  ·rcases zn hb with ⟨j,u,rfl,e⟩|⟨y,u,rfl,e⟩
   ·injection e with e1 _;rw [e1]
   ·exact nomatch e
  ·rcases zn hb with ⟨j,u,rfl,e⟩|⟨y,u,rfl,e⟩
   ·exact nomatch e
   ·injection e with e1 _;rw [e1]
 byValue:=λk v h=>by
  rcases zn h with ⟨i,t,rfl,rfl⟩|⟨x,t,rfl,rfl⟩ <;> rfl
 pyHash:=λhv h=>by
  rcases zn hv with ⟨i,t,rfl,rfl⟩|⟨x,t,rfl,rfl⟩
  ·exact wpAny_pyHash_int h
  ·exact wpAny_pyHash_str h
 eqBool:=λhu hv h=>by
  rcases zn hu with ⟨i,t,rfl,rfl⟩|⟨x,t,rfl,rfl⟩
  ·rcases zn hv with ⟨j,u,rfl,rfl⟩|⟨y,u,rfl,rfl⟩
   ·rw [key_ll] at h;exact wpAny_eqBool_int h
   ·rw [key_lr] at h;exact SeqAt.EqAt.int_str i t y u _ _ _ _ h
  ·rcases zn hv with ⟨j,u,rfl,rfl⟩|⟨y,u,rfl,rfl⟩
   ·rw [key_rl] at h;exact SeqAt.EqAt.str_int x t j u _ _ _ _ h
   ·rw [key_rr] at h;exact wpAny_eqBool_str h
 «strs»:=λk x t v h=>by
  rcases zn h with ⟨i,u,rfl,e⟩|⟨y,u,rfl,e⟩
  ·exact nomatch e
  ·injection e with e1 _
   subst e1
   cases v <;> rfl
theorem qv9 (prog:Ac)(w:Ah)(i:Int)(t:Tok):(xg prog w).is (.inl i) (.int i t)=true:=wq1 i t
theorem qk6 (prog:Ac)(w:Ah)(x:Str)(t:Tok):(xg prog w).is (.inr x) (.str x t)=true:=ww8 x t
inductive V where
 |non|bl (b:Bool)|int (i:Int)|str (x:Str)|byt (b:Array UInt8)|flt (b:UInt64)|ref (a:Aj)|ty (n:String)
 deriving DecidableEq
def RelV:V→Ag→Prop
 |.non,u=>u=Value.none
 |.bl b,u=>u=Value.bool b
 |.int i,u=>∃t,u=Value.int i t
 |.str x,u=>∃t,u=Value.str x t
 |.byt b,u=>∃t,u=Value.bytes b t
 |.flt b,u=>∃t,u=Value.float b t
 |.ref a,u=>u=Value.ref a
 |.ty n,u=>u=Value.type n
abbrev Vals:List V→List Ag→Prop:=Paired RelV
theorem Vals.length {xs:List V}{us:List Ag}(r:Vals xs us):xs.length=us.length:=bo r
theorem Vals.get:∀ {xs:List V} {us:List Ag} {i:Nat} {x:V},Vals xs us→xs[i]?=some x→∃u,us[i]?=some u∧RelV x u
 |_,_,_,_,.nil,e=>by simp at e
 |_,_,0,_,.cons r _,e=>by simp at e;subst e;exact ⟨_,rfl,r⟩
 |_,_,i+1,x,.cons _ t,e=>by
  obtain ⟨u,h1,h2⟩:=Vals.get (i:=i) (x:=x) t (by simpa using e)
  exact ⟨u,by simpa using h1,h2⟩
theorem Vals.set {x:V}{u:Ag}(r:RelV x u):∀ {xs:List V} {us:List Ag} (i:Nat),Vals xs us→Vals (xs.set i x) (us.set i u)
 |_,_,_,.nil=>.nil
 |_,_,0,.cons _ t=>.cons r t
 |_,_,i+1,.cons q t=>.cons q (Vals.set r i t)
theorem Vals.append:∀ {xs ys:List V} {us ws:List Ag},Vals xs us→Vals ys ws→Vals (xs++ys) (us++ws)
 |_,_,_,_,.nil,s=>s
 |_,_,_,_,.cons r t,s=>.cons r (Vals.append t s)
theorem Vals.take:∀ {xs:List V} {us:List Ag} (n:Nat),Vals xs us→Vals (xs.take n) (us.take n)
 |_,_,0,_=>.nil
 |_,_,_+1,.nil=>.nil
 |_,_,n+1,.cons r t=>.cons r (Vals.take n t)
theorem Vals.drop:∀ {xs:List V} {us:List Ag} (n:Nat),Vals xs us→Vals (xs.drop n) (us.drop n)
 |_,_,0,r=>r
 |_,_,_+1,.nil=>.nil
 |_,_,n+1,.cons _ t=>Vals.drop n t
def RelO:Option V→Option Ag→Prop
 |some v,some u=>RelV v u
 |none,none=>True
 |_,_=>False
def KV {κ:Type}:List (κ×V)→List (κ×Ag)→Prop:=Paired λ(p:κ×V) (q:κ×Ag)=>p.1=q.1∧RelV p.2 q.2
def kV:Key→V
 |.inl i=>.int i
 |.inr x=>.str x
inductive HO where
 |lst (xs:List V)
 |tup (xs:List V)
 |dK (kvs:List (Key×V))|dT (kvs:List (List Key×V))
 |set (S:Int→Bool) (n:Nat)
 |ins (C dx:Aj) (fs:List (Str×V))
 |own (x:Aj)
 |xd (fs:List (Str×V))
 |met (f x:Aj)
 |rng (lo hi:Int)
 |frz (o:Obj) (u:HO)
 |tbl (ps:Array Ag)
 |ext (φ:Heap→Prop)
abbrev Hp:=Aj→Option HO
def upd (H:Hp)(a:Aj)(o:HO):Hp:=λb=>if b=a then some o else H b
theorem qh {H:Hp}{a:Aj}{o:HO}:upd H a o a=some o:=by unfold upd;rw [aj rfl]
theorem wj {H:Hp}{a b:Aj}{o:HO}(h:b≠a):upd H a o b=H b:=by unfold upd;rw [af h]
theorem j7 {H:Hp}{a:Aj}{o u:HO}:upd (upd H a o) a u=upd H a u:=by
 funext b;unfold upd;split <;> rfl
theorem ne_of {H:Hp}{a b:Aj}{o u:HO}(h:H a=some o)(h':H b=some u)(d:o≠u):a≠b:=by
 intro e;subst e;rw [h] at h';exact d (az h')
theorem qg {H:Hp}{a b:Aj}{o:HO}(h:H a=some o)(h':H b=none):a≠b:=by
 intro e;subst e;rw [h] at h';cases h'
section
variable (P:Ac)(w:Ah)
def ObjOk (H:Hp)(h:Heap)(a:Aj):HO→Prop
 |.lst xs=>xs.length≤sizeLine∧∃(its:List Ag) (n:Nat),Vals xs its∧h.get? a=some { cls:=.type "list",data:=.seq its.toArray n }
 |.tup xs=>xs.length≤sizeLine∧∃its:List Ag,Vals xs its∧IsTup h a its.toArray
 |.dK kvs=>kvs.length≤sizeLine∧(a==sysModules)=false∧∃vs,KV kvs vs∧h.DictOf (xg P w) a vs
 |.dT kvs=>kvs.length≤sizeLine∧(a==sysModules)=false∧∃xs:List (List Key×Aj×Ag),
   Paired (λ(p:List Key×V) (q:List Key×Aj×Ag)=>p.1=q.1∧H q.2.1=some (.tup (p.1.map kV))∧RelV p.2 q.2.2) kvs xs ∧
   ∃o es ep,h.get? a=some o∧o.ExactDict∧o.data=.dict es ep∧es.toList=xs.map (entryOfKey (tupleKind (xg P w)))∧(xs.map (·.1)).Nodup
 |.set S n=>h.SetOf (intKind P w) a S n
 |.ins C dx fs=>H dx=some (.own a)∧fs.length≤1000∧dx≠a∧h.get? a=some (PySem.W.instObj C dx) ∧
   ∃mA,h.Ns1 dx mA∧(∀f,RelO (fs.lookup f) (mA f))∧PySem.Within mA (fs.map (·.1))
 |.own _=>∃o,h.get? a=some o
 |.xd fs=>∃mA,h.Ns1 a mA∧∀f,RelO (fs.lookup f) (mA f)
 |.rng lo hi=>∃t u v,h.get? a=some { cls:=.type "range",data:=.fields #[.int lo t,.int hi u,.int 1 v] }
 |.frz o u=>h.get? a=some o∧ObjOk H h a u
 |.tbl ps=>h.get? a=some { cls:=.none,data:=.fields ps }
 |.met f x=>h.get? a=some (PySem.W.methodObj (.ref f) (.ref x))
 |.ext φ=>φ h∧(∃o,h.get? a=some o)∧∀h1 h2:Heap,φ h1→(∀o,h1.get? a=some o→h2.get? a=some o)→φ h2
def HOk (H:Hp)(h:Heap):Prop:=∀a o,H a=some o→ObjOk P w H h a o
end
section
variable {P:Ac}{w:Ah}{H H':Hp}{h h':Heap}{a:Aj}{o:HO}
theorem ObjOk.lt (x:ObjOk P w H h a o):a<h.objs.size:=by
 cases o with
 |lst xs=>obtain ⟨_,_,_,_,e⟩:=x;exact al e
 |tup xs=>obtain ⟨_,_,_,p⟩:=x;exact p.lt
 |dK kvs=>obtain ⟨_,_,_,_,o,_,_,e,_⟩:=x;exact al e
 |dT kvs=>obtain ⟨_,_,_,_,o,_,_,e,_⟩:=x;exact al e
 |set S n=>obtain ⟨o,_,_,_,e,_⟩:=x;exact al e
 |ins C dx fs=>obtain ⟨_,_,_,e,_⟩:=x;exact al e
 |own y=>obtain ⟨_,e⟩:=x;exact al e
 |xd fs=>obtain ⟨_,⟨_,_,_,e,_⟩,_⟩:=x;exact al e
 |rng lo hi=>obtain ⟨_,_,_,e⟩:=x;exact al e
 |frz ob u=>obtain ⟨e,_⟩:=x;exact al e
 |tbl ps=>exact al (show h.get? a=some _ from x)
 |met f y=>exact al (show h.get? a=some _ from x)
 |ext φ=>obtain ⟨_,⟨_,e⟩,_⟩:=x;exact al e
theorem Paired.mapP {α β:Type}{F G:α→β→Prop}:∀ {l₁:List α} {l₂:List β},Paired F l₁ l₂→(∀a b,F a b→G a b)→Paired G l₁ l₂
 |_,_,.nil,_=>.nil
 |_,_,.cons r t,f=>.cons (f _ _ r) (Paired.mapP t f)
theorem ObjOk.stay (x:ObjOk P w H h a o)(k:∀b u,(b=a∨H b=some (.own a))→h.get? b=some u→h'.get? b=some u)
  (ho:∀b,H b=some (.own a)→H' b=some (.own a)) (ht:∀b xs,H b=some (.tup xs)→H' b=some (.tup xs)):ObjOk P w H' h' a o:=by
 induction o with
 |lst xs=>obtain ⟨z,its,n,r,e⟩:=x;exact ⟨z,its,n,r,k _ _ (.inl rfl) e⟩
 |tup xs=>obtain ⟨z,its,r,ob,e,c⟩:=x;exact ⟨z,its,r,ob,k _ _ (.inl rfl) e,c⟩
 |dK kvs=>obtain ⟨z,y,vs,r,ob,es,ep,e,c⟩:=x;exact ⟨z,y,vs,r,ob,es,ep,k _ _ (.inl rfl) e,c⟩
 |dT kvs =>
  obtain ⟨z,y,xs,r,ob,es,ep,e,c⟩:=x
  exact ⟨z,y,xs,Paired.mapP r λp q z=>⟨z.1,ht _ _ z.2.1,z.2.2⟩,ob,es,ep,k _ _ (.inl rfl) e,c⟩
 |set S n=>obtain ⟨ob,es,ep,t,e,c⟩:=x;exact ⟨ob,es,ep,t,k _ _ (.inl rfl) e,c⟩
 |ins C dx fs =>
  obtain ⟨d,z,ne,e,mA,⟨od,es,ep,e2,c⟩,r⟩:=x
  exact ⟨ho _ d,z,ne,k _ _ (.inl rfl) e,mA,⟨od,es,ep,k _ _ (.inr d) e2,c⟩,r⟩
 |own y=>obtain ⟨ob,e⟩:=x;exact ⟨ob,k _ _ (.inl rfl) e⟩
 |xd fs=>obtain ⟨mA,⟨od,es,ep,e,c⟩,r⟩:=x;exact ⟨mA,⟨od,es,ep,k _ _ (.inl rfl) e,c⟩,r⟩
 |rng lo hi=>obtain ⟨t,u,v,e⟩:=x;exact ⟨t,u,v,k _ _ (.inl rfl) e⟩
 |frz ob u ih=>obtain ⟨e,q⟩:=x;exact ⟨k _ _ (.inl rfl) e,ih q⟩
 |tbl ps =>
  have e:h.get? a=some { cls:=.none,data:=.fields ps }:=x
  show h'.get? a=some { cls:=.none,data:=.fields ps }
  exact k a _ (.inl rfl) e
 |met f y =>
  have e:h.get? a=some (PySem.W.methodObj (.ref f) (.ref y)):=x
  show h'.get? a=some (PySem.W.methodObj (.ref f) (.ref y))
  exact k a _ (.inl rfl) e
 |ext φ=>obtain ⟨p,⟨o,e⟩,st⟩:=x;exact ⟨st _ _ p λo q=>k _ _ (.inl rfl) q,⟨o,k _ _ (.inl rfl) e⟩,st⟩
theorem HOk.lt (x:HOk P w H h)(e:H a=some o):a<h.objs.size:=(x a o e).lt
theorem HOk.fresh (x:HOk P w H h)(e:h.objs.size≤a):H a=none:=by
 cases q:H a with
 |none=>rfl
 |some u=>exact absurd (aD (x.lt q) e) (aS _)
theorem HOk.kept (x:HOk P w H h)(k:∀b u,h.get? b=some u→h'.get? b=some u):HOk P w H h':=λa o e =>
 (x a o e).stay (λb u _ q=>k b u q) (λ_ q=>q) λ_ _ q=>q
theorem HOk.laid (x:HOk P w H h)(k:∀b u,h.get? b=some u→h'.get? b=some u)(hp:h.objs.size≤a)(new:ObjOk P w (upd H a o) h' a o):HOk P w (upd H a o) h':=λb u e=>by
 have hn:=x.fresh hp
 by_cases hb:b=a
 ·subst hb;rw [qh] at e;cases e;exact new
 ·rw [wj hb] at e
  exact (x b u e).stay (λc v _ q=>k c v q) (λc q=>by rw [wj (qg q hn)];exact q) λc xs q=>by rw [wj (qg q hn)];exact q
end
def Rd (H:Hp)(a:Aj)(u:HO):Prop:=H a=some u∨∃o,H a=some (.frz o u)
theorem Rd.ok {P:Ac}{w:Ah}{H:Hp}{h:Heap}{a:Aj}{u:HO}(r:Rd H a u)(x:HOk P w H h):ObjOk P w H h a u:=by
 rcases r with r|⟨o,r⟩
 ·exact x a u r
 ·obtain ⟨_,q⟩:=x a _ r
  exact q
def Mut:Option HO→Prop
 |some (.lst _)=>True
 |some (.dK _)=>True
 |some (.dT _)=>True
 |some (.set _ _)=>True
 |some (.ins _ _ _)=>True
 |some (.ext _)=>True
 |_=>False
section
variable {P:Ac}{w:Ah}{H:Hp}{h h':Heap}{x e:Aj}{o':HO}
theorem HOk.write (ok:HOk P w H h)(mu:Mut (H x))(he:e=x∨H e=some (.own x))(k:∀b u,b≠e→h.get? b=some u→h'.get? b=some u)(heo:∃u,h'.get? e=some u)
  (new:ObjOk P w (upd H x o') h' x o'):HOk P w (upd H x o') h':=λb u q=>by
 have nown:∀c y,H c=some (.own y)→c≠x:=λc y r z=>by subst z;rw [r] at mu;exact mu
 have ntup:∀c xs,H c=some (.tup xs)→c≠x:=λc xs r z=>by subst z;rw [r] at mu;exact mu
 by_cases hb:b=x
 ·subst hb;rw [qh] at q;cases q;exact new
 ·rw [wj hb] at q
  by_cases hbe:b=e
  ·have q':H b=some (.own x):=by
    rcases he with z|z
    ·exact absurd (hbe.trans z) hb
    ·rw [hbe];exact z
   rw [q] at q';cases q'
   obtain ⟨v,hv⟩:=heo
   exact ⟨v,by rw [hbe];exact hv⟩
  ·refine (ok b u q).stay (λc v hc r=>k c v ?_ r) (λc r=>by rw [wj (nown c b r)];exact r) λc xs r=>by rw [wj (ntup c xs r)];exact r
   rcases hc with rfl|hc
   ·exact hbe
   ·rintro rfl
    rcases he with z|z
    ·exact nown c b hc z
    ·rw [hc] at z;cases z;exact hb rfl
end
structure Un (fs ex:List Aj)(H H':Hp)(h h':Heap):Prop where
 keep:∀b o,h.get? b=some o→H b=none→b∉fs→b∉ex→h'.get? b=some o
 slot:∀b o,h.get? b=some o→H b=none→b∈fs→b∉ex→∃sl,h'.get? b=some { o with slots:=sl }
 free:∀b o,h.get? b=some o→H b=none→b∉ex→H' b=none
 there:∀b o,h.get? b=some o→b∉ex→∃o',h'.get? b=some o'
 tups:∀b xs,H b=some (.tup xs)→H' b=some (.tup xs)
 frzs:∀b o u,H b=some (.frz o u)→H' b=some (.frz o u)
 tbls:∀b ps,H b=some (.tbl ps)→∃more,H' b=some (.tbl (ps++more))
section
variable {fs fs' ex ex':List Aj}{H H1 H2:Hp}{h h1 h2 h':Heap}{a x e:Aj}{o:HO}
theorem Un.any (u:Un fs ex H H1 h h1){b:Aj}{ob:Obj}(q:h.get? b=some ob)(n:H b=none)(hx:b∉ex):∃sl,h1.get? b=some { ob with slots:=sl }:=by
 by_cases hb:b∈fs
 ·exact u.slot b ob q n hb hx
 ·exact ⟨ob.slots,u.keep b ob q n hb hx⟩
theorem Un.kept (k:∀b u,h.get? b=some u→h'.get? b=some u):Un fs ex H H h h' :=
 ⟨λb ob q _ _ _=>k b ob q,λb ob q _ _ _=>⟨ob.slots,k b ob q⟩,λ_ _ _ n _=>n,λb ob q _=>⟨ob,k b ob q⟩,λ_ _ q=>q,λ_ _ _ q=>q,λ_ ps q=>⟨#[],by rw [q];simp⟩⟩
theorem Un.refl:Un fs ex H H h h:=Un.kept λ_ _ q=>q
theorem Un.laid (k:∀b u,h.get? b=some u→h'.get? b=some u)(hp:h.objs.size≤a)(hn:H a=none):Un fs ex H (upd H a o) h h' where
 keep:=λb u q _ _ _=>k b u q
 slot:=λb u q _ _ _=>⟨u.slots,k b u q⟩
 free:=λb u q n _=>by rw [wj (ar (aD (al q) hp))];exact n
 there:=λb u q _=>⟨u,k b u q⟩
 tups:=λb xs q=>by rw [wj (qg q hn)];exact q
 frzs:=λb u xs q=>by rw [wj (qg q hn)];exact q
 tbls:=λb ps q=>⟨#[],by rw [wj (qg q hn),q];simp⟩
theorem Un.write (mu:Mut (H x))(he:e=x∨H e=some (.own x))(k:∀b u,b≠e→h.get? b=some u→h'.get? b=some u)(heo:∃u,h'.get? e=some u):Un fs ex H (upd H x o) h h':=by
 have hx:∀b,H b=none→b≠x:=λb n z=>by subst z;rw [n] at mu;exact mu
 have hb:∀b,H b=none→b≠e:=λb n z=>by
  subst z
  rcases he with r|r
  ·exact hx b n r
  ·rw [n] at r;cases r
 have hm:∀b u,H b=some u→¬ Mut (some u)→b≠x:=λb u q nm z=>by subst z;rw [q] at mu;exact nm mu
 refine ⟨λb u q n _ _=>k b u (hb b n) q,λb u q n _ _=>⟨u.slots,k b u (hb b n) q⟩,λb u q n _=>by rw [wj (hx b n)];exact n,λb u q _=>?_,
  λb xs q=>by rw [wj (hm b _ q λz=>z)];exact q,λb u xs q=>by rw [wj (hm b _ q λz=>z)];exact q,λb ps q=>⟨#[],by rw [wj (hm b _ q λz=>z),q];simp⟩⟩
 by_cases hbe:b=e
 ·subst hbe;exact heo
 ·exact ⟨u,k b u hbe q⟩
end
def trk (h:Heap)(H:Hp):List Aj:=(List.range h.objs.size).filter λa=>(H a).isSome
def qz1 (h:Heap)(H:Hp):Heap:=PySem.W.hideAll h (trk h H)
theorem ww9 (h:Heap)(H:Hp):(qz1 h H).objs.size=h.objs.size:=PySem.W.hideAll_size _ _
theorem wvr {h:Heap}{H:Hp}{b:Aj}{o:Obj}(e:h.get? b=some o)(n:H b=none):(qz1 h H).get? b=some o :=
 PySem.W.hideAll_get _ e λhm=>by
  have q:(H b).isSome=true:=(bA.mp hm).2
  rw [n] at q;simp at q
theorem wys {h:Heap}{H:Hp}{b:Aj}{o:Obj}(e:(qz1 h H).get? b=some o):h.get? b=some o∧H b=none:=by
 have e':h.get? b=some o:=PySem.W.of_hideAll (trk h H) e
 refine ⟨e',?_⟩
 cases q:H b with
 |none=>rfl
 |some x =>
  have hm:b∈trk h H:=bA.mpr ⟨bb.mpr (al e'),by simp [q]⟩
  have z:(qz1 h H).get? b=none:=PySem.W.hideAll_none (trk h H) hm
  rw [z] at e;cases e
def wk5 (g h:Heap)(L:Aj):List (Aj×Obj):=(List.range h.objs.size).filterMap λa=>if a=L∨(g.get? a).isSome=true then none else (h.get? a).map λo=>(a,o)
def rest (g h:Heap)(L d:Aj):List (Aj×Obj):=(wk5 g h L).filter λp=>decide (p.1≠d)
structure Mod (K:Aa)(mg:Str→Option Ag)(base:Heap):Prop where
 kin:K.In base
 glob:base.Ns mainGlobals mg
 blt:∃mb,base.Ns builtinsNs mb∧∀x:Str,x ≠ "__name__" → mb x=bootBuiltins x
 nolimit:base.NoLimit
structure Cx where
 prog:Ac
 w:Ah
 K:Aa
 mg:Str→Option Ag
 base:Heap
 A:Ae
 N:List Str
 s₀:Ab
 H₀:Hp
 env:Env
 outer:List Env
 stack:List Env
 ex:List Aj
 fn:Str→Bool
 calm:Bool
 pn:List (Aj×Obj)
 xe:Ag→Ab→Prop
def frs (l:List Env):List Aj:=l.filterMap (·.frame)
abbrev Cx.fs (X:Cx):List Aj:=frs X.outer
def Vis (sc:Scope)(x:Str):Prop:=sc.names.lookup x=some .local∨sc.names.lookup x=some .cell∨sc.names.lookup x=some .free
def Loc (sc:Scope)(x:Str):Prop:=sc.names.lookup x=some .local∨sc.names.lookup x=some .cell
def Look (env:Env)(h:Heap)(m:Str→Option Ag)(x:Str)(u:Ag):Prop :=
 (env.kindOf x=some .local∧m x=some u)∨((env.kindOf x=some .cell∨env.kindOf x=some .free)∧∃c,env.cells.lookup x=some c∧h.IsCell c (some u))
structure Cx.Ok (X:Cx):Prop where
 mod:Mod X.K X.mg X.base
 kind:X.env.scope.kind=.function
 glob:X.env.globals=mainGlobals
 blt:X.env.builtins=builtinsNs
 above:X.s₀.heap.objs.size≤X.env.locals
 inj:∀x y c,X.env.cells.lookup x=some c→X.env.cells.lookup y=some c→x=y
 has:∀x,(X.env.kindOf x=some .cell∨X.env.kindOf x=some .free)→∃c,X.env.cells.lookup x=some c
 cab:∀x c,X.fn x=true→X.env.cells.lookup x=some c→X.s₀.heap.objs.size≤c
 hd:X.calm=true→X.A.handled=none
 frames:X.A.frames=some X.stack
 stk:X.stack=X.outer∨(X.stack=X.env::X.outer∧X.env.frame=some X.env.locals)
 exf:∀b∈X.ex,b≠X.env.locals∧∀x c,X.env.cells.lookup x=some c→c≠b
 bs:∀b o,X.base.get? b=some o→X.s₀.heap.get? b=some o∧X.H₀ b=none
 bsz:X.base.objs.size≤X.s₀.heap.objs.size
 noex:∀b o,X.base.get? b=some o→b∉X.ex
 exfs:∀b∈X.ex,b∉X.fs
 funs:X.s₀.heap.FunFrames X.base X.outer
 frf:∀b∈X.fs,X.H₀ b=none
structure Inv (X:Cx)(pins:List (Aj×Obj))(σ:List (Option V))(H:Hp)(s:Ab):Prop where
 ok:X.Ok
 os:s.os=X.s₀.os
 bare:AllBare s.gens
 base:Un X.fs X.ex X.H₀ H X.s₀.heap s.heap
 loc:∃m,s.heap.Ns X.env.locals m∧∀(i:Nat) (x:Str) (v:V),X.N[i]?=some x→σ[i]?=some (some v)→Vis X.env.scope x→∃u,RelV v u∧Look X.env s.heap m x u
 cell:∀x c,X.env.cells.lookup x=some c→∃v,s.heap.IsCell c v
 free:H X.env.locals=none
 freeC:∀x c,X.env.cells.lookup x=some c→H c=none
 pin:∀p∈X.pn++pins,s.heap.get? p.1=some p.2∧H p.1=none∧p.1≠X.env.locals∧p.1∉X.fs∧∀v,p.2.data≠.cell v
 hok:HOk X.prog X.w H s.heap
 len:σ.length=X.N.length
section
variable {X:Cx}{pins:List (Aj×Obj)}{σ:List (Option V)}{H H':Hp}{s:Ab}{h':Heap}
theorem Cx.Ok.nofr (ok:X.Ok){b:Aj}{o:Obj}(e:X.base.get? b=some o):b∉X.fs:=λhb=>by
 have:=(ok.funs.mem hb).1
 rw [e] at this;cases this
theorem Inv.bs (I:Inv X pins σ H s):∀b o,X.base.get? b=some o→s.heap.get? b=some o∧H b=none:=λb o e =>
 ⟨I.base.keep b o (I.ok.bs b o e).1 (I.ok.bs b o e).2 (I.ok.nofr e) (I.ok.noex b o e),I.base.free b o (I.ok.bs b o e).1 (I.ok.bs b o e).2 (I.ok.noex b o e)⟩
theorem Inv.bk (I:Inv X pins σ H s):∀b o,X.base.get? b=some o→s.heap.get? b=some o:=λb o e=>(I.bs b o e).1
theorem Inv.mod (I:Inv X pins σ H s):Mod X.K X.mg X.base:=I.ok.mod
theorem Inv.kIn (I:Inv X pins σ H s):X.K.In s.heap:=I.ok.mod.kin.keeps I.bk
theorem Inv.lt (I:Inv X pins σ H s):X.env.locals<s.heap.objs.size:=let ⟨_,hn,_⟩:=I.loc;hn.lt
theorem Inv.sz (I:Inv X pins σ H s):X.s₀.heap.objs.size≤s.heap.objs.size:=bB I.ok.above (bC I.lt)
theorem Inv.nofs (I:Inv X pins σ H s){a:Aj}(h:s.heap.objs.size≤a):a∉X.fs:=λhb=>by
 obtain ⟨_,o,ho,_⟩:=I.ok.funs.mem hb
 exact absurd (aD (al ho) (bB I.sz h)) (aS _)
theorem Inv.cne (I:Inv X pins σ H s):∀x c,X.env.cells.lookup x=some c→c≠X.env.locals:=λx c e z=>by
 obtain ⟨v,o,ho,hd⟩:=I.cell x c e
 obtain ⟨m,⟨o',es,ep,ho',hd',_⟩,_⟩:=I.loc
 rw [z,ho'] at ho;cases ho;rw [hd'] at hd;cases hd
theorem Inv.funs (I:Inv X pins σ H s):s.heap.FunFrames X.base X.outer:=by
 have all:∀(l:List Env),(∀b∈frs l,b∈X.fs)→X.s₀.heap.FunFrames X.base l→s.heap.FunFrames X.base l:=by
  intro l
  induction l with
  |nil=>intro _ _;trivial
  |cons env r ih =>
   intro hs hl
   obtain ⟨hk,⟨L,o,hf,hn,ho,hd⟩,hr⟩:=hl
   have hL:L∈X.fs:=hs L (by unfold frs;rw [cW,hf];exact aJ)
   obtain ⟨sl,e⟩:=I.base.slot L o ho (I.ok.frf L hL) hL λz=>I.ok.exfs L z hL
   exact ⟨hk,⟨L,_,hf,hn,e,hd⟩,ih (λb hb=>hs b (by unfold frs;rw [cW,hf];exact aE _ hb)) hr⟩
 exact all X.outer (λ_ hb=>hb) I.ok.funs
theorem Inv.stack (I:Inv X pins σ H s):s.heap.FunFrames X.base X.stack:=by
 rcases I.ok.stk with e|⟨e,hf⟩
 ·rw [e];exact I.funs
 ·rw [e]
  obtain ⟨m,hn,_⟩:=I.loc
  refine .cons (by rw [I.ok.kind];decide) hf hn ?_ I.funs
  exact Heap.get?_none_of_le (bB I.ok.bsz I.ok.above)
theorem Inv.stkSub (I:Inv X pins σ H s):∀b∈frs X.stack,b∈X.env.locals::X.fs:=λb hb=>by
 rcases I.ok.stk with e|⟨e,hf⟩
 ·rw [e] at hb;exact aE _ hb
 ·rw [e] at hb
  unfold frs at hb
  rw [cW,hf] at hb
  exact hb
theorem Inv.stkFree (I:Inv X pins σ H s):∀b∈frs X.stack,H b=none:=λb hb=>by
 rcases ak.mp (I.stkSub b hb) with e|hb
 ·rw [e];exact I.free
 ·obtain ⟨_,o,ho,_⟩:=I.ok.funs.mem hb
  exact I.base.free b o ho (I.ok.frf b hb) λz=>I.ok.exfs b z hb
theorem Inv.step {g':Array GenState}{t':Nat}{d':Drawn}{ch:List Aj}(I:Inv X pins σ H s)
  (hch:∀b∈ch,(b∈X.ex∨X.s₀.heap.objs.size≤b)∧b≠X.env.locals∧(∀x c,X.env.cells.lookup x=some c→c≠b)∧∀p∈X.pn++pins,p.1≠b)
  (keep:∀b o,b≠X.env.locals→b∉X.fs→b∉ch→s.heap.get? b=some o→H b=none→h'.get? b=some o)
  (slot:∀b o,b≠X.env.locals→b∈X.fs→b∉ch→s.heap.get? b=some o→H b=none→∃sl,h'.get? b=some { o with slots:=sl }) (free:∀b o,b∉ch→s.heap.get? b=some o→H b=none→H' b=none)
  (there:∀b o,b∉ch→s.heap.get? b=some o→∃o',h'.get? b=some o')
  (tups:∀b xs,H b=some (.tup xs)→H' b=some (.tup xs)) (frzs:∀b o u,H b=some (.frz o u)→H' b=some (.frz o u)) (tbls:∀b ps,H b=some (.tbl ps)→∃more,H' b=some (.tbl (ps++more)))
  (ns:∀m,s.heap.Ns X.env.locals m→h'.Ns X.env.locals m) (hok:HOk X.prog X.w H' h') (hg:AllBare g') :
  Inv X pins σ H' { s with heap:=h',gens:=g',drawn:=d',toks:=t' }:=by
 have neL:∀b o,X.s₀.heap.get? b=some o→b≠X.env.locals:=λb o e=>ar (aD (al e) I.ok.above)
 have neC:∀b o,X.s₀.heap.get? b=some o→b∉X.ex→b∉ch:=λb o e hx hb=>by
  rcases (hch b hb).1 with z|z
  ·exact hx z
  ·exact absurd (aD (al e) z) (aS _)
 have cellK:∀x c,X.env.cells.lookup x=some c→∀v,s.heap.IsCell c v→h'.IsCell c v:=λx c e v ⟨o,ho,hd⟩=>by
  have nch:c∉ch:=λz=>(hch c z).2.2.1 x c e rfl
  by_cases hc:c∈X.fs
  ·obtain ⟨sl,q⟩:=slot c o (I.cne x c e) hc nch ho (I.freeC x c e)
   exact ⟨_,q,hd⟩
  ·exact ⟨o,keep c o (I.cne x c e) hc nch ho (I.freeC x c e),hd⟩
 refine ⟨I.ok,I.os,hg,⟨λb o e n hb hx=>?_,λb o e n hb hx=>?_,λb o e n hx=>?_,λb o e hx=>?_,λb xs e=>tups b xs (I.base.tups b xs e),λb o xs e=>frzs b o xs (I.base.frzs b o xs e),λb ps e=>?_⟩,?_,λx c e=>?_,?_,λx c e=>?_,λp hp=>?_,hok,I.len⟩
 ·exact keep b o (neL b o e) hb (neC b o e hx) (I.base.keep b o e n hb hx) (I.base.free b o e n hx)
 ·obtain ⟨sl,e1⟩:=I.base.slot b o e n hb hx
  obtain ⟨sl',e2⟩:=slot b _ (neL b o e) hb (neC b o e hx) e1 (I.base.free b o e n hx)
  exact ⟨sl',e2⟩
 ·obtain ⟨o',e1⟩:=I.base.there b o e hx
  exact free b o' (neC b o e hx) e1 (I.base.free b o e n hx)
 ·obtain ⟨o',e1⟩:=I.base.there b o e hx
  exact there b o' (neC b o e hx) e1
 ·obtain ⟨m1,e1⟩:=I.base.tbls b ps e
  obtain ⟨m2,e2⟩:=tbls b _ e1
  exact ⟨m1++m2,by rw [e2,Array.append_assoc]⟩
 ·obtain ⟨m,hn,hl⟩:=I.loc
  refine ⟨m,ns m hn,λi x v e1 e2 e3=>?_⟩
  obtain ⟨u,r,l⟩:=hl i x v e1 e2 e3
  refine ⟨u,r,?_⟩
  rcases l with l|⟨k,c,e,z⟩
  ·exact .inl l
  ·exact .inr ⟨k,c,e,cellK x c e _ z⟩
 ·obtain ⟨v,z⟩:=I.cell x c e
  exact ⟨v,cellK x c e v z⟩
 ·obtain ⟨m,⟨o,_,_,ho,_⟩,_⟩:=I.loc
  exact free _ o (λz=>(hch _ z).2.1 rfl) ho I.free
 ·obtain ⟨v,o,ho,hd⟩:=I.cell x c e
  exact free c o (λz=>(hch c z).2.2.1 x c e rfl) ho (I.freeC x c e)
 ·obtain ⟨e,n,ne,nf,d⟩:=I.pin p hp
  have nch:p.1∉ch:=λz=>(hch p.1 z).2.2.2 p hp rfl
  exact ⟨keep p.1 p.2 ne nf nch e n,free p.1 p.2 nch e n,ne,nf,d⟩
theorem Inv.un {t':Nat}(I:Inv X pins σ H s)(u:Un X.fs [] H H' s.heap h')(hok:HOk X.prog X.w H' h'):Inv X pins σ H' { s with heap:=h',toks:=t' }:=by
 obtain ⟨m,⟨o,es,ep,ho,r⟩,_⟩:=id I.loc
 obtain ⟨sl,hL⟩:=u.any ho I.free (by simp)
 exact I.step (g':=s.gens) (d':=s.drawn) (ch:=[]) (λ_ z=>nomatch z) (λb o _ hb _ e n=>u.keep b o e n hb (by simp)) (λb o _ hb _ e n=>u.slot b o e n hb (by simp)) (λb o _ e n=>u.free b o e n (by simp)) (λb o _ e=>u.there b o e (by simp)) u.tups u.frzs u.tbls (λm' hm=>by
  obtain ⟨o',es',ep',ho',r'⟩:=hm
  rw [ho] at ho';cases ho'
  exact ⟨_,es',ep',hL,r'⟩) hok I.bare
theorem Inv.call {g':Array GenState}{t':Nat}{d':Drawn}{ch:List Aj}(I:Inv X pins σ H s)(u:Un (frs X.stack) ch H H' s.heap h')(hok:HOk X.prog X.w H' h')(hg:AllBare g')
  (hch:∀b∈ch,(b∈X.ex∨X.s₀.heap.objs.size≤b)∧b≠X.env.locals∧(∀x c,X.env.cells.lookup x=some c→c≠b)∧∀p∈X.pn++pins,p.1≠b) :
  Inv X pins σ H' { s with heap:=h',gens:=g',drawn:=d',toks:=t' }:=by
 obtain ⟨m,⟨o,es,ep,ho,r⟩,_⟩:=id I.loc
 obtain ⟨sl,hL⟩:=u.any ho I.free λz=>(hch _ z).2.1 rfl
 exact I.step (ch:=ch) hch (λb o hL hb hc e n=>u.keep b o e n (λz=>(ak.mp (I.stkSub b z)).elim hL hb) hc) (λb o _ _ hc e n=>u.any e n hc) (λb o hc e n=>u.free b o e n hc) (λb o hc e=>u.there b o e hc) u.tups u.frzs u.tbls (λm' hm=>by
  obtain ⟨o',es',ep',ho',r'⟩:=hm
  rw [ho] at ho';cases ho'
  exact ⟨_,es',ep',hL,r'⟩) hok hg
theorem Inv.turned {t':Nat}{it:Aj}(I:Inv X pins σ H s)(k:∀b o,b≠it→s.heap.get? b=some o→h'.get? b=some o)(hn:H it=none)(hL:it≠X.env.locals)
  (h1:it∈X.ex∨X.s₀.heap.objs.size≤it) (h2:∀x c,X.env.cells.lookup x=some c→c≠it) (h3:∀p∈X.pn++pins,p.1≠it):Inv X pins σ H { s with heap:=h',toks:=t' }:=by
 have nit:∀b u,H b=some u→b≠it:=λb u e z=>by rw [z,hn] at e;cases e
 refine I.step (g':=s.gens) (d':=s.drawn) (ch:=[it]) (λb hb=>?_) (λb o _ _ hc e _=>k b o (λz=>hc (by simp [z])) e) (λb o _ _ hc e _=>⟨o.slots,k b o (λz=>hc (by simp [z])) e⟩) (λ_ _ _ _ n=>n)
  (λb o hc e=>⟨o,k b o (λz=>hc (by simp [z])) e⟩) (λ_ _ e=>e) (λ_ _ _ e=>e) (λb ps e=>⟨#[],by rw [e];simp⟩) (λm hm=>?_) (λb u e=>?_) I.bare
 ·have e:b=it:=by simpa using hb
  subst e
  exact ⟨h1,hL,h2,h3⟩
 ·obtain ⟨o,es,ep,ho,r⟩:=hm
  exact ⟨o,es,ep,k _ o (aZ hL) ho,r⟩
 ·refine (I.hok b u e).stay (λc v hc q=>k c v ?_ q) (λ_ q=>q) λ_ _ q=>q
  rcases hc with z|z
  ·rw [z];exact nit b u e
  ·exact nit c _ z
theorem Inv.tok (I:Inv X pins σ H s)(t:Nat):Inv X pins σ H { s with toks:=t }:=I.un (h':=s.heap) (t':=t) Un.refl I.hok
theorem Inv.kept {t':Nat}(I:Inv X pins σ H s)(k:∀b u,s.heap.get? b=some u→h'.get? b=some u):Inv X pins σ H { s with heap:=h',toks:=t' }:=I.un (Un.kept k) (I.hok.kept k)
theorem Inv.laid {a:Aj}{o:HO}{t':Nat}(I:Inv X pins σ H s)(k:∀b u,s.heap.get? b=some u→h'.get? b=some u)(hp:s.heap.objs.size≤a)(new:ObjOk X.prog X.w (upd H a o) h' a o) :
  Inv X pins σ (upd H a o) { s with heap:=h',toks:=t' }:=I.un (Un.laid k hp (I.hok.fresh hp)) (I.hok.laid k hp new)
theorem Inv.write {x e:Aj}{o:HO}{t':Nat}(I:Inv X pins σ H s)(mu:Mut (H x))(he:e=x∨H e=some (.own x))(k:∀b u,b≠e→s.heap.get? b=some u→h'.get? b=some u)(heo:∃u,h'.get? e=some u)
  (new:ObjOk X.prog X.w (upd H x o) h' x o):Inv X pins σ (upd H x o) { s with heap:=h',toks:=t' }:=I.un (Un.write mu he k heo) (I.hok.write mu he k heo new)
theorem Inv.weak {σ':List (Option V)}(I:Inv X pins σ H s)(hl:σ'.length=σ.length)(w:∀(i:Nat) v,σ'[i]?=some (some v)→σ[i]?=some (some v)):Inv X pins σ' H s :=
 ⟨I.ok,I.os,I.bare,I.base,let ⟨m,hn,hl'⟩:=I.loc;⟨m,hn,λi x v e1 e2 e3=>hl' i x v e1 (w i v e2) e3⟩,I.cell,I.free,I.freeC,I.pin,I.hok,hl.trans I.len⟩
theorem Inv.pins_of {pins':List (Aj×Obj)}(I:Inv X pins σ H s)(h:∀p∈pins',s.heap.get? p.1=some p.2∧H p.1=none∧p.1≠X.env.locals∧p.1∉X.fs∧∀v,p.2.data≠.cell v):Inv X pins' σ H s :=
 ⟨I.ok,I.os,I.bare,I.base,I.loc,I.cell,I.free,I.freeC,λp hp=>(aH.mp hp).elim (λz=>I.pin p (cP _ z)) (h p),I.hok,I.len⟩
theorem qjy {N:List Str}(hN:N.Nodup){i j:Nat}{x:Str}(a:N[i]?=some x)(b:N[j]?=some x):i=j:=by
 obtain ⟨h1,e1⟩:=aT.mp a
 obtain ⟨h2,e2⟩:=aT.mp b
 exact (dG hN).mp (e1.trans e2.symm)
theorem wwg {M:Model}{A:Ae}{E:Ag→Ab→Prop}{i:Nat}{x:Str}{v:V}{u:Ag}{Q:Unit→Ab→Prop}(I:Inv X pins σ H s)(hN:X.N.Nodup)(hi:X.N[i]?=some x)(hx:Loc X.env.scope x)(r:RelV v u)
  (h:∀s',Inv X pins (σ.set i (some v)) H s'→(∃a,Heap.SameBut a s.heap s'.heap∧(a=X.env.locals∨X.env.cells.lookup x=some a))→Q () s') (hf:X.fn x=true∨X.env.scope.names.lookup x=some .local:=by first | exact .inl rfl | exact .inr rfl | assumption):wpAny M A (storeName X.env x u) Q E s:=by
 obtain ⟨m,hn,hl⟩:=id I.loc
 have hcls:(X.env.scope.kind==.class||(X.env.scope.kind==.module&&X.env.locals != X.env.globals))=false:=by rw [I.ok.kind];rfl
 have hiσ:i<σ.length:=by rw [I.len];exact (aT.mp hi).1
 have cne:=I.cne
 have tracked:∀ {a:Aj} {h':Heap},(∃o,s.heap.get? a=some o∧H a=none)→Heap.SameBut a s.heap h'→HOk X.prog X.w H h':=λ{a h'} ha hs b ob e=>by
  obtain ⟨_,_,hfree⟩:=ha
  refine (I.hok b ob e).stay (λc w' hc q=>(hs.2 c ?_).trans q) (λ_ q=>q) λ_ _ q=>q
  rintro rfl
  rcases hc with rfl|hc
  ·rw [hfree] at e;cases e
  ·rw [hfree] at hc;cases hc
 rcases hx with hk|hk
 ·refine wpAny_storeName_local hk hn (λh' hn' hs=>?_) hcls
  obtain ⟨oL,_,_,hoL,_⟩:=id hn
  refine h _ ⟨I.ok,I.os,I.bare,⟨λb o e n hb hx=>?_,λb o e n hb hx=>?_,I.base.free,λb o e hx=>?_,I.base.tups,I.base.frzs,I.base.tbls⟩,⟨_,hn',λj y v' e1 e2 e3=>?_⟩,λy c e=>?_,I.free,I.freeC,λp hp=>?_,tracked ⟨oL,hoL,I.free⟩ hs,by simpa using I.len⟩ ⟨_,hs,.inl rfl⟩
  ·exact (hs.2 b (ar (aD (al e) I.ok.above))).trans (I.base.keep b o e n hb hx)
  ·obtain ⟨sl,e1⟩:=I.base.slot b o e n hb hx
   exact ⟨sl,(hs.2 b (ar (aD (al e) I.ok.above))).trans e1⟩
  ·obtain ⟨o',e1⟩:=I.base.there b o e hx
   exact ⟨o',(hs.2 b (ar (aD (al e) I.ok.above))).trans e1⟩
  ·by_cases hj:j=i
   ·subst hj
    rw [hi] at e1;cases e1
    rw [dm hiσ] at e2
    cases e2
    exact ⟨u,r,.inl ⟨hk,by simp⟩⟩
   ·rw [List.getElem?_set_ne (aZ hj)] at e2
    obtain ⟨u',r',q⟩:=hl j y v' e1 e2 e3
    refine ⟨u',r',?_⟩
    rcases q with ⟨k,e⟩|⟨k,c,e,z⟩
    ·refine .inl ⟨k,?_⟩
     have:y≠x:=λe=>hj (qjy hN e1 (e▸hi))
     simp [this,e]
    ·exact .inr ⟨k,c,e,z.sameBut hs (cne y c e)⟩
  ·obtain ⟨w',z⟩:=I.cell y c e
   exact ⟨w',z.sameBut hs (cne y c e)⟩
  ·obtain ⟨e,n,ne,nf,d⟩:=I.pin p hp
   exact ⟨(hs.2 p.1 ne).trans e,n,ne,nf,d⟩
 ·have hfn:X.fn x=true:=by
   rcases hf with z|z
   ·exact z
   ·rw [z] at hk;cases hk
  obtain ⟨c,hc⟩:=I.ok.has x (.inl hk)
  obtain ⟨w',z⟩:=I.cell x c hc
  refine wpAny_storeName_cell I.ok.kind hk hc z (λh' hc' hs=>?_)
  obtain ⟨oc,hoc,hocd⟩:=id z
  refine h { s with heap:=h' } ⟨I.ok,I.os,I.bare,⟨λb o e n hb hx=>?_,λb o e n hb hx=>?_,I.base.free,λb o e hx=>?_,I.base.tups,I.base.frzs,I.base.tbls⟩,⟨m,hn.sameBut hs (aZ (cne x c hc)),λj y v' e1 e2 e3=>?_⟩,λy c' e=>?_,I.free,I.freeC,λp hp=>?_,tracked ⟨oc,hoc,I.freeC x c hc⟩ hs,by simpa using I.len⟩ ⟨c,hs,.inr hc⟩
  ·exact (hs.2 b (ar (aD (al e) (I.ok.cab x c hfn hc)))).trans (I.base.keep b o e n hb hx)
  ·obtain ⟨sl,e1⟩:=I.base.slot b o e n hb hx
   exact ⟨sl,(hs.2 b (ar (aD (al e) (I.ok.cab x c hfn hc)))).trans e1⟩
  ·obtain ⟨o',e1⟩:=I.base.there b o e hx
   exact ⟨o',(hs.2 b (ar (aD (al e) (I.ok.cab x c hfn hc)))).trans e1⟩
  ·by_cases hj:j=i
   ·subst hj
    rw [hi] at e1;cases e1
    rw [dm hiσ] at e2
    cases e2
    exact ⟨u,r,.inr ⟨.inl hk,c,hc,hc'⟩⟩
   ·rw [List.getElem?_set_ne (aZ hj)] at e2
    obtain ⟨u',r',q⟩:=hl j y v' e1 e2 e3
    refine ⟨u',r',?_⟩
    rcases q with q|⟨k,c',e,z'⟩
    ·exact .inl q
    ·refine .inr ⟨k,c',e,z'.sameBut hs ?_⟩
     rintro rfl
     exact hj (qjy hN e1 (I.ok.inj _ _ _ e hc▸hi))
  ·by_cases hcc:c'=c
   ·subst hcc;exact ⟨_,hc'⟩
   ·obtain ⟨w2,z2⟩:=I.cell y c' e
    exact ⟨w2,z2.sameBut hs hcc⟩
  ·obtain ⟨e,n,ne,nf,d⟩:=I.pin p hp
   refine ⟨(hs.2 p.1 ?_).trans e,n,ne,nf,d⟩
   intro q
   rw [q,hoc] at e
   have q':oc=p.2:=az e
   exact d w' (by rw [←q'];exact hocd)
theorem jp {M:Model}{A:Ae}{E:Ag→Ab→Prop}{i:Nat}{x:Str}{v:V}{u:Ag}{Q:Unit→Ab→Prop}(I:Inv X pins σ H s)(hN:X.N.Nodup)(hi:X.N[i]?=some x)(hx:Loc X.env.scope x)(r:RelV v u)
  (h:∀s',Inv X pins (σ.set i (some v)) H s'→Q () s') (hf:X.fn x=true∨X.env.scope.names.lookup x=some .local:=by first | exact .inl rfl | exact .inr rfl | assumption):wpAny M A (storeName X.env x u) Q E s :=
 wwg I hN hi hx r (λs' I' _=>h s' I') hf
theorem Inv.call' {s':Ab}{ch:List Aj}(I:Inv X pins σ H s)(ho:s'.os=s.os)(u:Un (frs X.stack) ch H H' s.heap s'.heap)(hok:HOk X.prog X.w H' s'.heap)(hg:AllBare s'.gens)
  (hch:∀b∈ch,(b∈X.ex∨X.s₀.heap.objs.size≤b)∧b≠X.env.locals∧(∀x c,X.env.cells.lookup x=some c→c≠b)∧∀p∈X.pn++pins,p.1≠b):Inv X pins σ H' s':=by
 obtain ⟨h',g',d',t',o'⟩:=s'
 have e:o'=s.os:=ho
 subst e
 exact I.call (g':=g') (t':=t') (d':=d') u hok hg hch
end
abbrev XK:=Ag→Option Aj→Hp→Prop
abbrev St:=List (Option V)
abbrev VK:=V→Hp→Prop
abbrev TE:=St→Hp→VK→Prop
abbrev TT:=St→Hp→(Bool→Hp→Prop)→Prop
abbrev TA:=St→Hp→(List V→Hp→Prop)→Prop
structure Ends where
 nx:St→Hp→Prop
 rt:VK
 bk:St→Hp→Prop:=λ_ _=>False
 ct:St→Hp→Prop:=λ_ _=>False
abbrev TS:=Ends→St→Hp→Prop
def EP (X:Cx)(pins:List (Aj×Obj))(σ:St)(Q:VK)(u:Ag)(s':Ab):Prop:=∃v H',Inv X pins σ H' s'∧RelV v u∧Q v H'
def TP (X:Cx)(pins:List (Aj×Obj))(σ:St)(Q:Bool→Hp→Prop)(b:Bool)(s':Ab):Prop:=∃H',Inv X pins σ H' s'∧Q b H'
def AP (X:Cx)(pins:List (Aj×Obj))(σ:St)(Q:List V→Hp→Prop)(us:List Ag)(s':Ab):Prop:=∃vs H',Inv X pins σ H' s'∧Vals vs us∧Q vs H'
def SP (X:Cx)(pins:List (Aj×Obj))(D:Ends)(f:Flow)(s':Ab):Prop :=
 match f with
 |.next=>∃σ' H',Inv X pins σ' H' s'∧D.nx σ' H'
 |.brk=>∃σ' H',Inv X pins σ' H' s'∧D.bk σ' H'
 |.cont=>∃σ' H',Inv X pins σ' H' s'∧D.ct σ' H'
 |.ret u=>∃v σ' H',Inv X pins σ' H' s'∧RelV v u∧D.rt v H'
def PE (X:Cx)(e:Expr)(t:TE):Prop :=
 ∀(pins:List (Aj×Obj)) (s:Ab) (σ:St) (H:Hp) (Q:VK),Inv X pins σ H s→t σ H Q→wpAny (model X.prog X.w) X.A (eval e X.env) (EP X pins σ Q) X.xe s
def PT (X:Cx)(e:Expr)(t:TT):Prop :=
 ∀(pins:List (Aj×Obj)) (s:Ab) (σ:St) (H:Hp) (Q:Bool→Hp→Prop),Inv X pins σ H s→t σ H Q→wpAny (model X.prog X.w) X.A (isTrue e X.env (eval e X.env)) (TP X pins σ Q) X.xe s
def PW (X:Cx)(e:Expr)(t:TT):Prop :=
 ∀(whole:Sem Ag) (pins:List (Aj×Obj)) (s:Ab) (σ:St) (H:Hp) (Q:Bool→Hp→Prop),Inv X pins σ H s→t σ H Q→wpAny (model X.prog X.w) X.A (isTrue e X.env whole) (TP X pins σ Q) X.xe s
theorem PW.pt {X:Cx}{e:Expr}{t:TT}(h:PW X e t):PT X e t:=h _
def PA (X:Cx)(es:List Expr)(t:TA):Prop :=
 ∀(pos:Pos) (pins:List (Aj×Obj)) (s:Ab) (σ:St) (H:Hp) (Q:List V→Hp→Prop),Inv X pins σ H s→t σ H Q→wpAny (model X.prog X.w) X.A (spliced (backTo pos (starEach es X.env))) (AP X pins σ Q) X.xe s
def PS (X:Cx)(st:Stmt)(t:TS):Prop :=
 ∀(pins:List (Aj×Obj)) (s:Ab) (σ:St) (H:Hp) (D:Ends),Inv X pins σ H s→t D σ H→wpAny (model X.prog X.w) X.A (exec st X.env) (SP X pins D) X.xe s
def PSs (X:Cx)(st:List Stmt)(t:TS):Prop :=
 ∀(pins:List (Aj×Obj)) (s:Ab) (σ:St) (H:Hp) (D:Ends),Inv X pins σ H s→t D σ H→wpAny (model X.prog X.w) X.A (execs st X.env) (SP X pins D) X.xe s
theorem thn {α:Type}{t:Sem α}{Q Q':α→Ab→Prop}{M:Model}{A:Ae}{E:Ag→Ab→Prop}{s:Ab}(h:wpAny M A t Q E s)(hQ:∀a s,Q a s→Q' a s):wpAny M A t Q' E s:=aR h hQ λ_ _ x=>x
section
variable {X:Cx}
def Wy (i:Nat):TE:=λσ H Q=>∃v,σ[i]?=some (some v)∧Q v H
def tC (v:V):TE:=λ_ H Q=>Q v H
theorem pe_var {i:Nat}{x:Str}{pos:Pos}(hN:X.N[i]?=some x)(hv:Vis X.env.scope x)(hd:(x==("__debug__" : Str))=false:=by decide)(hcd:(x==("__classdict__" : Str))=false:=by decide):PE X (.Name x pos) (Wy i):=by
 intro pins s σ H Q I h
 obtain ⟨v,e,h⟩:=h
 obtain ⟨m,hn,hl⟩:=I.loc
 obtain ⟨u,r,l⟩:=hl i x v hN e hv
 have fin:EP X pins σ Q u s:=⟨v,H,I,r,h⟩
 rcases l with ⟨hk,hm⟩|⟨hk,c,hc,hcell⟩
 ·exact wpAny_Name (wpAny_loadName_local I.ok.kind hk hn hm fin) hd
 ·rcases hk with hk|hk
  ·exact wpAny_Name (wpAny_loadName_cell I.ok.kind hk hc hcell fin) hd
  ·exact wpAny_Name (wpAny_loadName_free I.ok.kind hk hc hcell fin hcd) hd
theorem wx {i j pos}:PE X (.Constant (.int i) j pos) (tC (.int i)):=λ_ _ _ H _ I h=>wpAny_Constant_int ⟨.int i,H,I.tok _,⟨_,rfl⟩,h⟩
theorem W7 {b j pos}:PE X (.Constant (.bool b) j pos) (tC (.bl b)):=λ_ _ _ H _ I h=>Constant_bool ⟨.bl b,H,I,rfl,h⟩
theorem qqh {j pos}:PE X (.Constant .none j pos) (tC .non):=λ_ _ _ H _ I h=>Constant_none ⟨.non,H,I,rfl,h⟩
theorem xf {x j pos}:PE X (.Constant (.str x) j pos) (tC (.str x)):=λ_ _ _ H _ I h=>Calls.Constant_str ⟨.str x,H,I.tok _,⟨_,rfl⟩,h⟩
def Gl (X:Cx)(x:Str):Prop:=X.env.kindOf x=some .globalImplicit
theorem W1 {E:Ag→Ab→Prop}{pins:List (Aj×Obj)}{s:Ab}{σ:St}{H:Hp}{x:Str}{u:Ag}{pos:Pos}{Q:Ag→Ab→Prop}(I:Inv X pins σ H s)(hg:Gl X x)(hm:X.mg x=some u)(h:Q u s)
  (hd:(x==("__debug__" : Str))=false:=by decide):wpAny (model X.prog X.w) X.A (eval (.Name x pos) X.env) Q E s :=
 Calls.Name_function_global I.ok.kind hg (Calls.loadGlobal_global (by rw [I.ok.glob];exact I.mod.glob.keeps I.bk) hm h) hd
theorem Js {E:Ag→Ab→Prop}{pins:List (Aj×Obj)}{s:Ab}{σ:St}{H:Hp}{x:Str}{u:Ag}{pos:Pos}{Q:Ag→Ab→Prop}(I:Inv X pins σ H s)(hg:Gl X x)(hm:X.mg x=none)(hv:bootBuiltins x=some u)(h:Q u s)
  (hn:x ≠ "__name__" := by decide) (hd:(x==("__debug__" : Str))=false:=by decide):wpAny (model X.prog X.w) X.A (eval (.Name x pos) X.env) Q E s:=by
 obtain ⟨mb,h1,h2⟩:=I.mod.blt
 exact Calls.Name_function_global I.ok.kind hg (Calls.loadGlobal_builtin (by rw [I.ok.glob];exact I.mod.glob.keeps I.bk) hm (by rw [I.ok.blt];exact h1.keeps I.bk) ((h2 x hn).trans hv) h) hd
theorem yn {x:Str}{v:V}{u:Ag}{pos:Pos}(hg:Gl X x)(hm:X.mg x=some u)(r:RelV v u)(hd:(x==("__debug__" : Str))=false:=by decide):PE X (.Name x pos) (tC v) :=
 λ_ _ _ H _ I h=>W1 I hg hm ⟨v,H,I,r,h⟩ hd
theorem qvm {x:Str}{v:V}{u:Ag}{pos:Pos}(hg:Gl X x)(hm:X.mg x=none)(hv:bootBuiltins x=some u)(r:RelV v u)(hn:x ≠ "__name__" := by decide)(hd:(x==("__debug__" : Str))=false:=by decide):PE X (.Name x pos) (tC v) :=
 λ_ _ _ H _ I h=>Js I hg hm hv ⟨v,H,I,r,h⟩ hn hd
variable {a b:Expr}{ta tb:TE}{pos:Pos}
def PC (X:Cx)(op:CmpOp)(a b:Expr)(t:TE):Prop :=
 ∀(pins:List (Aj×Obj)) (s:Ab) (σ:St) (H:Hp) (Q:VK),Inv X pins σ H s→t σ H Q →
  wpAny (model X.prog X.w) X.A (eval a X.env) (λv s₁=>wpAny (model X.prog X.w) X.A (eval b X.env) (λu s₂=>wpAny (model X.prog X.w) X.A (compareOp op v u) (EP X pins σ Q) X.xe s₂) X.xe s₁) X.xe s
def tB (t:TE):TT:=λσ H Q=>t σ H λx H1=>∃c,x=.bl c∧Q c H1
theorem Q1 {op:CmpOp}{t:TE}(h:PC X op a b t)(h1:behindInMarks op b=false:=by first | exact nobehind _ (by decide) (by decide) | rfl):PT X (.Compare a [op] [b] pos) (tB t):=by
 intro pins s σ H Q I hw
 refine wpAny_isTrue_Compare1 (thn (h pins s σ H _ I hw) λv s1 h1=>thn h1 λu s2 h2=>thn h2 λc s3 ⟨x,H1,I1,r1,q1⟩=>?_) h1
 obtain ⟨d,rfl,q⟩:=q1
 cases r1
 exact cm ⟨H1,I1,q⟩
theorem qq3 {e:Expr}{t:TE}(h:PE X e t)(he:∀whole,isTrue e X.env whole=(do let v ←whole;standAt e.pos;holding [v] (truthy v)):=by intro _;rfl):PT X e (tB t):=by
 intro pins s σ H Q I hw
 refine isTrue_plain (thn (h pins s σ H _ I hw) λv s1 ⟨x,H1,I1,r1,q1⟩=>?_) (he _)
 obtain ⟨d,rfl,q⟩:=q1
 cases r1
 exact cm ⟨H1,I1,q⟩
variable {tA tB':TT}{rest:List Expr}
def tAnd (t u:TT):TT:=λσ H Q=>t σ H λc H1=>if c=true then u σ H1 Q else Q false H1
def tOr (t u:TT):TT:=λσ H Q=>t σ H λc H1=>if c=true then Q true H1 else u σ H1 Q
def tNot (t:TT):TT:=λσ H Q=>t σ H λc H1=>Q (!c) H1
theorem qzm (ha:PT X a tA):PW X (.BoolOp .And [a] pos) tA:=by
 intro wh pins s σ H Q I h
 refine isTrue_and (thn (ha pins s σ H Q I h) λc s1 e=>?_)
 cases c with
 |true=>exact isTrue_and_nil e
 |false=>exact e
theorem yq (ha:PT X a tA):PW X (.BoolOp .Or [a] pos) tA:=by
 intro wh pins s σ H Q I h
 refine isTrue_or (thn (ha pins s σ H Q I h) λc s1 e=>?_)
 cases c with
 |false=>exact isTrue_or_nil e
 |true=>exact e
theorem qyy (ha:PT X a tA)(hb:PW X (.BoolOp .And (b::rest) pos) tB'):PW X (.BoolOp .And (a::b::rest) pos) (tAnd tA tB'):=by
 intro wh pins s σ H Q I h
 refine isTrue_and (thn (ha pins s σ H _ I h) λc s1 ⟨H1,I1,q1⟩=>?_)
 cases c with
 |true=>exact hb wh pins s1 σ H1 Q I1 q1
 |false=>exact ⟨H1,I1,q1⟩
theorem Qc (ha:PT X a tA)(hb:PW X (.BoolOp .Or (b::rest) pos) tB'):PW X (.BoolOp .Or (a::b::rest) pos) (tOr tA tB'):=by
 intro wh pins s σ H Q I h
 refine isTrue_or (thn (ha pins s σ H _ I h) λc s1 ⟨H1,I1,q1⟩=>?_)
 cases c with
 |true=>exact ⟨H1,I1,q1⟩
 |false=>exact hb wh pins s1 σ H1 Q I1 q1
theorem qqg (ha:PT X a tA):PT X (.UnaryOp .Not a pos) (tNot tA):=by
 intro pins s σ H Q I h
 exact isTrue_not (ha pins s σ H (λc H1=>Q (!c) H1) I h)
def tAndV (ta tb:TE):TE:=λσ H Q=>ta σ H λx H1=>∃c,x=.bl c∧if c=true then tb σ H1 Q else Q (.bl false) H1
def tNotV (ta:TE):TE:=λσ H Q=>ta σ H λx H1=>∃c,x=.bl c∧Q (.bl (!c)) H1
theorem qz4 {op}{t:TE}(h:PE X a t):PE X (.BoolOp op [a] pos) t:=λpins s σ H Q I hw=>BoolOp_one (h pins s σ H Q I hw)
theorem qvk (ha:PE X a ta)(hb:PE X (.BoolOp .And (b::rest) pos) tb):PE X (.BoolOp .And (a::b::rest) pos) (tAndV ta tb):=by
 intro pins s σ H Q I h
 refine BoolOp_and (thn (ha pins s σ H _ I h) λv s1 ⟨x,H1,I1,r1,q1⟩=>?_)
 obtain ⟨c,rfl,q1⟩:=q1
 cases r1
 refine cm ?_
 cases c with
 |true=>exact hb pins s1 σ H1 Q I1 q1
 |false=>exact ⟨.bl false,H1,I1,rfl,q1⟩
theorem pe_not (ha:PE X a ta):PE X (.UnaryOp .Not a pos) (tNotV ta):=by
 intro pins s σ H Q I h
 refine UnaryOp_ (thn (ha pins s σ H _ I h) λv s1 ⟨x,H1,I1,r1,q1⟩=>?_)
 obtain ⟨c,rfl,q1⟩:=q1
 cases r1
 exact not_of (cm ⟨.bl (!c),H1,I1,rfl,q1⟩)
def tIf (t:TT)(ta tb:TE):TE:=λσ H Q=>t σ H λc H1=>if c=true then ta σ H1 Q else tb σ H1 Q
theorem qk7 {c:Expr}(hc:PT X c tA)(ha:PE X a ta)(hb:PE X b tb):PE X (.IfExp c a b pos) (tIf tA ta tb):=by
 intro pins s σ H Q I h
 refine wpAny_IfExp (thn (hc pins s σ H _ I h) λd s1 ⟨H1,I1,q1⟩=>?_)
 cases d with
 |true=>exact ha pins s1 σ H1 Q I1 q1
 |false=>exact hb pins s1 σ H1 Q I1 q1
end
def SqL (K:Aa)(H:Hp)(a:Aj)(xs:List V):Prop :=
 Rd H a (.lst xs) ∨
  ∃(o:Obj) (its:Array Ag) (n:Nat),K.lookup a=some o∧o.cls=.type "list" ∧ o.dict=none∧o.data=.seq its n∧its.size≤sizeLine∧Vals xs its.toList
def SqT (K:Aa)(H:Hp)(a:Aj)(xs:List V):Prop :=
 Rd H a (.tup xs) ∨
  ∃(o:Obj) (its:Array Ag) (n:Nat),K.lookup a=some o∧o.cls=.type "tuple" ∧ o.data=.seq its n∧its.size≤sizeLine∧Vals xs its.toList
def absV:Ag→Option V
 |.none=>some .non
 |.bool b=>some (.bl b)
 |.int i _=>some (.int i)
 |.str x _=>some (.str x)
 |.bytes b _=>some (.byt b)
 |.float b _=>some (.flt b)
 |.ref a=>some (.ref a)
 |.type n=>some (.ty n)
 |_=>none
theorem RelV.abs {x:V}{u:Ag}(r:RelV x u):absV u=some x:=by
 cases x with
 |non=>cases r;rfl
 |bl _=>cases r;rfl
 |int _=>obtain ⟨t,rfl⟩:=r;rfl
 |str _=>obtain ⟨t,rfl⟩:=r;rfl
 |byt _=>obtain ⟨t,rfl⟩:=r;rfl
 |flt _=>obtain ⟨t,rfl⟩:=r;rfl
 |ref _=>cases r;rfl
 |ty _=>cases r;rfl
theorem RelV.inj {x y:V}{u:Ag}(r:RelV x u)(q:RelV y u):x=y:=az (r.abs.symm.trans q.abs)
theorem Vals.inj:∀ {xs ys:List V} {us:List Ag},Vals xs us→Vals ys us→xs=ys
 |_,_,_,.nil,.nil=>rfl
 |_,_,_,.cons r t,.cons r' t'=>by rw [r.inj r',Vals.inj t t']
section
variable {X:Cx}{pins:List (Aj×Obj)}{σ:St}{H:Hp}{s:Ab}{a:Aj}{xs ys:List V}
theorem SqL.of {K:Aa}(h:H a=some (.lst xs)):SqL K H a xs:=.inl (.inl h)
theorem SqT.of {K:Aa}(h:H a=some (.tup xs)):SqT K H a xs:=.inl (.inl h)
theorem Inv.list (I:Inv X pins σ H s)(h:SqL X.K H a xs):∃its:List Ag,Vals xs its∧PlainL s.heap a its.toArray∧xs.length≤sizeLine:=by
 rcases h with h|⟨o,its,n,hk,hc,hd,hs,hz,r⟩
 ·obtain ⟨z,its,n,r,e⟩:=h.ok I.hok
  exact ⟨its,r,⟨_,n,e,rfl,rfl,rfl⟩,z⟩
 ·refine ⟨its.toList,r,⟨o,n,I.kIn a o hk,hc,hd,by simpa using hs⟩,?_⟩
  have e:=r.length
  simp only [aW] at e
  lia
theorem Inv.tuple (I:Inv X pins σ H s)(h:SqT X.K H a xs):∃its:List Ag,Vals xs its∧IsTup s.heap a its.toArray∧xs.length≤sizeLine:=by
 rcases h with h|⟨o,its,n,hk,hc,hs,hz,r⟩
 ·obtain ⟨z,its,r,p⟩:=h.ok I.hok
  exact ⟨its,r,p,z⟩
 ·refine ⟨its.toList,r,⟨o,I.kIn a o hk,hc,n,by simpa using hs⟩,?_⟩
  have e:=r.length
  simp only [aW] at e
  lia
theorem Inv.list_inj (I:Inv X pins σ H s)(h:SqL X.K H a xs)(h':SqL X.K H a ys):xs=ys:=by
 obtain ⟨its,r,⟨o,n,e,_,_,d⟩,_⟩:=I.list h
 obtain ⟨its',r',⟨o',n',e',_,_,d'⟩,_⟩:=I.list h'
 rw [e] at e';cases e'
 rw [d] at d'
 injection d' with d1 _
 have:its=its':=by simpa using bI Array.toList d1
 subst this
 exact r.inj r'
end
abbrev Cx.wish (X:Cx)(E:Ag→Ab→Prop):Cx:={ X with xe:=E }
section
variable {X:Cx}{pins:List (Aj×Obj)}{σ:St}{H:Hp}{s:Ab}{E:Ag→Ab→Prop}
end
section
variable {X:Cx}{st:Stmt}{rest:List Stmt}{t u:TS}{e:Expr}{te:TE}{pos:Pos}
def tNext:TS:=λD σ H=>D.nx σ H
def tSeq (t u:TS):TS:=λD σ H=>t { D with nx:=u D } σ H
theorem xy:PSs X [] tNext:=λ_ _ σ H _ I h=>dS ⟨σ,H,I,h⟩
theorem qb (h1:PS X st t)(h2:PSs X rest u):PSs X (st::rest) (tSeq t u):=by
 intro pins s σ H D I h
 refine eS (thn (h1 pins s σ H { D with nx:=u D } I h) λf s1 q=>?_)
 cases f with
 |next =>
  obtain ⟨σ',H',I',q⟩:=q
  exact h2 pins s1 σ' H' D I' q
 |ret v=>exact q
 |brk=>exact q
 |cont=>exact q
theorem wq (h1:PS X st t):PSs X [st] t:=by
 intro pins s σ H D I h
 refine eS (thn (h1 pins s σ H D I h) λf s1 q=>?_)
 cases f with
 |next=>exact dS q
 |ret v=>exact q
 |brk=>exact q
 |cont=>exact q
theorem Inv.quiet {pins:List (Aj×Obj)}{σ:St}{H:Hp}{s:Ab}(I:Inv X pins σ H s):interactive X.env=false:=by simp [interactive,I.ok.kind]
def tDrop (te:TE):TS:=λD σ H=>te σ H λ_ H1=>D.nx σ H1
theorem xn (he:PE X e te)(hs:swapsWith e none pos.line X.env=pure false:=by rfl):PS X (.Expr e pos) (tDrop te):=by
 intro pins s σ H D I h
 exact wpAny_Expr_any (thn (he pins s σ H _ I h) λv s1 ⟨x,H1,I1,r1,q1⟩=>⟨σ,H1,I1,q1⟩) I.quiet hs
def tRet (te:TE):TS:=λD σ H=>te σ H D.rt
theorem wp (he:PE X e te):PS X (.Return (some e) pos) (tRet te):=by
 intro pins s σ H D I h
 exact wpAny_Return_some (thn (he pins s σ H _ I h) λv s1 ⟨x,H1,I1,r1,q1⟩=>⟨x,σ,H1,I1,r1,q1⟩)
def tIfS (c:TT)(t u:TS):TS:=λD σ H=>c σ H λb H1=>if b=true then t D σ H1 else u D σ H1
theorem x4 {c:Expr}{a b:List Stmt}{tc:TT}(hc:PT X c tc)(ha:PSs X a t)(hb:PSs X b u):PS X (.If c a b pos) (tIfS tc t u):=by
 intro pins s σ H D I h
 refine wpAny_If (thn (hc pins s σ H _ I h) λd s1 ⟨H1,I1,q1⟩=>?_)
 cases d with
 |true=>exact ha pins s1 σ H1 D I1 q1
 |false=>exact hb pins s1 σ H1 D I1 q1
end
abbrev TG:=V→St→Hp→(St→Hp→Prop)→Prop
abbrev TGs:=List V→St→Hp→(St→Hp→Prop)→Prop
def PG (X:Cx)(target:Expr)(t:TG):Prop :=
 ∀(pins:List (Aj×Obj)) (s:Ab) (σ:St) (H:Hp) (v:V) (u:Ag) (Q:St→Hp→Prop),Inv X pins σ H s→RelV v u→t v σ H Q →
  wpAny (model X.prog X.w) X.A (assign target X.env u) (λ_ s'=>∃σ' H',Inv X pins σ' H' s'∧Q σ' H') X.xe s
def PGs (X:Cx)(ts:List Expr)(t:TGs):Prop :=
 ∀(pins:List (Aj×Obj)) (s:Ab) (σ:St) (H:Hp) (vs:List V) (us:List Ag) (Q:St→Hp→Prop),Inv X pins σ H s→Vals vs us→t vs σ H Q →
  wpAny (model X.prog X.w) X.A (assignInOrder ((assignEach ts X.env).map (·.2)) us) (λ_ s'=>∃σ' H',Inv X pins σ' H' s'∧Q σ' H') X.xe s
abbrev TSet:=V→V→V→Hp→(Hp→Prop)→Prop
def PSet (X:Cx)(t:TSet):Prop :=
 ∀(pins:List (Aj×Obj)) (s:Ab) (σ:St) (H:Hp) (o i v:V) (ov iv u:Ag) (Q:Hp→Prop),Inv X pins σ H s→RelV o ov→RelV i iv→RelV v u→t o i v H Q →
  wpAny (model X.prog X.w) X.A (setItem ov iv u) (λ_ s'=>∃H',Inv X pins σ H' s'∧Q H') X.xe s
abbrev TIp:=V→V→Hp→VK→Prop
def PIp (X:Cx)(op:Operator)(t:TIp):Prop :=
 ∀(pins:List (Aj×Obj)) (s:Ab) (σ:St) (H:Hp) (x y:V) (v u:Ag) (Q:VK),Inv X pins σ H s→RelV x v→RelV y u→t x y H Q →
  wpAny (model X.prog X.w) X.A (inplaceOp op v u) (EP X pins σ Q) X.xe s
section
variable {X:Cx}{pos:Pos}
def qu7 (i:Nat):TG:=λv σ H Q=>Q (σ.set i (some v)) H
theorem xu {i:Nat}{x:Str}(hN:X.N.Nodup)(hi:X.N[i]?=some x)(hx:Loc X.env.scope x)(hf:X.fn x=true∨X.env.scope.names.lookup x=some .local:=by first | exact .inl rfl | exact .inr rfl | assumption):PG X (.Name x pos) (qu7 i):=by
 intro pins s σ H v u Q I r h
 exact eJ (jp I hN hi hx r (λs' I'=>⟨_,H,I',h⟩) hf)
def gNil:TGs:=λvs σ H Q=>vs=[]∧Q σ H
def gCons (t:TG)(u:TGs):TGs:=λvs σ H Q=>∃v r,vs=v::r∧t v σ H λσ' H'=>u r σ' H' Q
theorem vp:PGs X [] gNil:=by
 intro pins s σ H vs us Q I r h
 obtain ⟨e,h⟩:=h
 subst e
 cases r
 exact assignInOrder_nil ⟨σ,H,I,h⟩
theorem xh {e:Expr}{es:List Expr}{t:TG}{u:TGs}(h1:PG X e t)(h2:PGs X es u)
  (hs:(assignEach (e::es) X.env).map (·.2)=assign e X.env::(assignEach es X.env).map (·.2):=by rfl):PGs X (e::es) (gCons t u):=by
 intro pins s σ H vs us Q I r h
 obtain ⟨v,vr,e1,h⟩:=h
 subst e1
 cases r with
 |cons r rr =>
  rw [hs]
  refine ee (thn (h1 pins s σ H _ _ _ I r h) λ_ s1 ⟨σ1,H1,I1,q1⟩=>?_)
  exact h2 pins s1 σ1 H1 _ _ Q I1 rr q1
def gTup (K:Aa)(n:Nat)(t:TGs):TG:=λv σ H Q=>∃a xs,v=.ref a∧SqT K H a xs∧xs.length=n∧t xs σ H Q
theorem ju {es:List Expr}{k:Nat}{t:TGs}{n:Nat}(hc:X.calm=true)(h:PGs X es t)
  (hn:(assignEach es X.env).length=n:=by rfl) (hst:(assignEach es X.env).findIdx? (·.1)=none:=by rfl):PG X (.Tuple es k pos) (gTup X.K n t):=by
 intro pins s σ H v u Q I r hw
 obtain ⟨a,xs,e1,hq,hl,hw⟩:=hw
 subst e1
 cases r
 obtain ⟨its,rv,ht,hz⟩:=I.tuple hq
 refine assign_Tuple_tuple (I.ok.hd hc) ht (by simp [hn,←hl,rv.length]) hst λh' hx=>?_
 have I1:Inv X pins σ H { s with heap:=h' }:=I.kept (t':=s.toks) λb o e=>hx b o (ar (al e)) e
 exact h pins _ σ H xs _ Q I1 (by simpa using rv) hw
def gSub (to ti:TE)(t:TSet):TG:=λv σ H Q=>to σ H λo H1=>ti σ H1 λi H2=>t o i v H2 λH3=>Q σ H3
theorem wxm {o i:Expr}{to ti:TE}{t:TSet}(ho:PE X o to)(hi:PE X i ti)(hs:PSet X t)
  (ha:∀v,assign (.Subscript o i pos) X.env v=(do
   let ov ←holding [v] (eval o X.env)
   let iv ←holding [v,ov] (eval i X.env)
   standAt pos
   holding [v,ov,iv] (setItem ov iv v)
   release [v,ov,iv] []):=by intro _;rfl):PG X (.Subscript o i pos) (gSub to ti t):=by
 intro pins s σ H v u Q I r h
 rw [ha]
 refine aa (bH (thn (ho pins s σ H _ I h) λov s1 ⟨x,H1,I1,r1,q1⟩=>?_))
 refine aa (bH (thn (hi pins s1 σ H1 _ I1 q1) λiv s2 ⟨y,H2,I2,r2,q2⟩=>?_))
 refine aa (cM (aa (bH (thn (hs pins s2 σ H2 x y v ov iv u _ I2 r1 r2 r q2) λ_ s3 ⟨H3,I3,q3⟩=>?_))))
 exact wpAny_release ⟨σ,H3,I3,q3⟩
def tAsg (te:TE)(g:TG):TS:=λD σ H=>te σ H λx H1=>g x σ H1 D.nx
theorem yx {tg e:Expr}{te:TE}{g:TG}(he:PE X e te)(hg:PG X tg g)(hs:swapsWithSole [tg] e pos.line X.env=pure false:=by rfl)(hw:swappedStores [tg] e X.env=pure none:=by rfl)
  (h1:(assignEach [tg] X.env).map (·.2)=[assign tg X.env]:=by rfl):PS X (.Assign [tg] e pos) (tAsg te g):=by
 intro pins s σ H D I h
 refine wpAny_Assign_stores (thn (he pins s σ H _ I h) λv s1 ⟨x,H1,I1,r1,q1⟩=>?_) hs hw
 rw [h1]
 exact thn (hg pins s1 σ H1 x v _ I1 r1 q1) λ_ s2 q=>q
theorem w6 {i:Nat}{x:Str}{e:Expr}{te:TE}{pos':Pos}(hN:X.N.Nodup)(hi:X.N[i]?=some x)(hx:Loc X.env.scope x)(he:PE X e te)(hs:swapsWith e (some (.Name x pos')) pos.line X.env=pure false:=by rfl)(hf:X.fn x=true∨X.env.scope.names.lookup x=some .local:=by first | exact .inl rfl | exact .inr rfl | assumption) :
  PS X (.Assign [.Name x pos'] e pos) (tAsg te (qu7 i)):=by
 intro pins s σ H D I h
 refine wpAny_Assign_Name (thn (he pins s σ H _ I h) λv s1 ⟨y,H1,I1,r1,q1⟩=>?_) hs
 exact jp I1 hN hi hx r1 (λs2 I2=>⟨_,H1,I2,q1⟩) hf
def tPar (i j:Nat)(ta:TA):TS:=λD σ H=>ta σ H λvs H1=>∃v w,vs=[v,w]∧D.nx ((σ.set i (some v)).set j (some w)) H1
theorem wzw {i j:Nat}{x y:Str}{a b:Expr}{ta:TA}{px py pt:Pos}{kt k2 pt2}(hc:X.calm=true)(hN:X.N.Nodup)(hi:X.N[i]?=some x)(hj:X.N[j]?=some y)(hij:i≠j)
  (hx:X.env.scope.names.lookup x=some .local) (hy:X.env.scope.names.lookup y=some .local) (ha:PA X [a,b] ta)
  (hw:swappedStores [.Tuple [.Name x px,.Name y py] kt pt] (.Tuple [a,b] k2 pt2) X.env=pure (some [x,y]))
  (hs:swapsWithSole [.Tuple [.Name x px,.Name y py] kt pt] (.Tuple [a,b] k2 pt2) pos.line X.env=pure false:=by rfl) :
  PS X (.Assign [.Tuple [.Name x px,.Name y py] kt pt] (.Tuple [a,b] k2 pt2) pos) (tPar i j ta):=by
 intro pins s σ H D I h
 rw [exec_Assign_arm]
 refine aa (cM ?_)
 rw [hs]
 refine aa (ag ?_)
 rw [af (by decide)]
 refine aa (Tuple_ (thn (ha _ pins s σ H _ I h) λus s1 ⟨vs,H1,I1,r1,q1⟩=>?_))
 obtain ⟨v,w,e1,q1⟩:=q1
 subst e1
 obtain ⟨u1,u2,rfl,rv,rw'⟩:∃u1 u2,us=[u1,u2]∧RelV v u1∧RelV w u2:=by
  cases r1 with
  |cons p q =>
   cases q with
   |cons p' q' =>
    cases q'
    exact ⟨_,_,rfl,p,p'⟩
 refine bi ?_ (by show 2≤sizeLine;decide)
 have I2:Inv X pins σ H1 { s1 with heap:=s1.heap.push { cls:=.type "tuple",data:=.seq [u1,u2].toArray } }:=I1.kept (t':=s1.toks) λb o e=>ac _ e
 rw [hw]
 refine aa (ag ?_)
 show wpAny (model X.prog X.w) X.A (do rule "assign.swapped-stores";let items ←unpackItems (.ref s1.heap.objs.size) 2 none;assignInOrder [λv=>bindName X.env y v,λv=>bindName X.env x v] items.reverse;pure Flow.next) _ _ _
 refine aa (wpAny_rule (aa (unpackItems_tuple (items:=#[u1,u2]) (I.ok.hd hc) (IsTup.new s1.heap _) λh' hx'=>?_)))
 have I3:=I2.kept (h':=h') (t':=s1.toks) λb o e=>hx' b o (ar (al e)) e
 show wpAny _ _ (assignInOrder [λv=>bindName X.env y v,λv=>bindName X.env x v] [u2,u1] >>= λ_=>pure Flow.next) _ _ _
 refine aa (ee (wpAny_bindName (jp I3 hN hj (.inl hy) rw' (λs2 I4=>?_) (.inr hy))))
 refine ee (wpAny_bindName (jp I4 hN hi (.inl hx) rv (λs3 I5=>assignInOrder_nil (ag ?_)) (.inr hx)))
 rw [List.set_comm _ _ (aZ hij)] at I5
 exact ⟨_,H1,I5,q1⟩
def tAug (i:Nat)(te:TE)(ti:TIp):TS:=λD σ H=>∃x,σ[i]?=some (some x)∧te σ H λy H1=>ti x y H1 λz H2=>D.nx (σ.set i (some z)) H2
theorem ps_aug {i:Nat}{x:Str}{e:Expr}{te:TE}{op:Operator}{ti:TIp}{pos':Pos}(hN:X.N.Nodup)(hi:X.N[i]?=some x)(hx:Loc X.env.scope x)(he:PE X e te)(ho:PIp X op ti)(hf:X.fn x=true∨X.env.scope.names.lookup x=some .local:=by first | exact .inl rfl | exact .inr rfl | assumption) :
  PS X (.AugAssign (.Name x pos') op e pos) (tAug i te ti):=by
 intro pins s σ H D I h
 obtain ⟨v,e1,h⟩:=h
 obtain ⟨m,hn,hl⟩:=I.loc
 have vis:Vis X.env.scope x:=by rcases hx with k|k;exact .inl k;exact .inr (.inl k)
 obtain ⟨u,r,l⟩:=hl i x v hi e1 vis
 refine wpAny_AugAssign_Name ?_
 have go:wpAny (model X.prog X.w) X.A (eval e X.env) (λw s₂=>wpAny (model X.prog X.w) X.A (inplaceOp op u w) (λr s₃=>wpAny (model X.prog X.w) X.A (storeName X.env x r) (λ_=>SP X pins D .next) X.xe s₃) X.xe s₂) X.xe s:=by
  refine thn (he pins s σ H _ I h) λw s1 ⟨y,H1,I1,r1,q1⟩=>?_
  refine thn (ho pins s1 σ H1 v y u w _ I1 r r1 q1) λz s2 ⟨zv,H2,I2,r2,q2⟩=>?_
  exact jp I2 hN hi hx r2 (λs3 I3=>⟨_,H2,I3,q2⟩) hf
 rcases l with ⟨hk,hm⟩|⟨hk,c,hc,hcell⟩
 ·exact wpAny_loadName_local I.ok.kind hk hn hm go
 ·rcases hk with hk|hk
  ·exact wpAny_loadName_cell I.ok.kind hk hc hcell go
  ·rcases hx with k|k
   ·have:X.env.scope.names.lookup x=some .free:=hk
    rw [k] at this;cases this
   ·have:X.env.scope.names.lookup x=some .free:=hk
    rw [k] at this;cases this
def ipI (f:Int→Int→Int):TIp:=λx y H Q=>∃i j,x=.int i∧y=.int j∧Q (.int (f i j)) H
theorem ip_add:PIp X .Add (ipI λi j=>i+j):=by
 intro pins s σ H x y v u Q I r1 r2 h
 obtain ⟨i,j,e1,e2,q⟩:=h
 subst e1;subst e2
 obtain ⟨t,rfl⟩:=r1
 obtain ⟨t',rfl⟩:=r2
 exact iadd_int ⟨.int _,H,I.tok _,⟨_,rfl⟩,q⟩
end
section
variable {X:Cx}{pos:Pos}
def qy4 (c:TT)(tb:TS):TS:=λD σ H=>∃W:Nat→St→Hp→Prop,(∃m,W m σ H)∧∀m σ H,W m σ H →
 c σ H λb H1=>if b=true then ∃N:St→Hp→Prop,(∀σ' H',N σ' H'→∃m',m'<m∧W m' σ' H')∧tb { D with nx:=N,ct:=N,bk:=D.nx } σ H1 else D.nx σ H1
theorem Jh {c:Expr}{body:List Stmt}{tc:TT}{tb:TS}(hp:PassesOwn (model X.prog X.w) X.A X.env X.xe)(hc:PT X c tc)(hb:PSs X body tb):PS X (.While c body [] pos) (qy4 tc tb):=by
 intro pins s σ H D I h
 obtain ⟨W,⟨m0,w0⟩,turn⟩:=h
 refine wpAny_While (codeAny_whileLoop (λn s'=>∃σ' H',Inv X pins σ' H' s'∧W n σ' H') ?_ m0 ⟨σ,H,I,w0⟩)
 rintro n s1 ⟨σ1,H1,I1,w1⟩
 refine cf hp (thn (hc pins s1 σ1 H1 _ I1 (turn n σ1 H1 w1)) λb s2 ⟨H2,I2,q2⟩=>?_)
 cases b with
 |true =>
  obtain ⟨N,hN,q2⟩:=q2
  rw [aj rfl]
  refine cf hp (thn (hb pins s2 σ1 H2 _ I2 q2) λf s3 q3=>?_)
  cases f with
  |next =>
   obtain ⟨σ3,H3,I3,n3⟩:=q3
   obtain ⟨m',hm,w3⟩:=hN σ3 H3 n3
   exact ⟨m',hm,σ3,H3,I3,w3⟩
  |cont =>
   obtain ⟨σ3,H3,I3,n3⟩:=q3
   obtain ⟨m',hm,w3⟩:=hN σ3 H3 n3
   exact ⟨m',hm,σ3,H3,I3,w3⟩
  |brk=>exact q3
  |ret v=>exact q3
 |false =>
  rw [af aA]
  exact dS ⟨σ1,H2,I2,q2⟩
end
structure It where
 go:Nat→Hp→Prop
 yld:Nat→Hp→V→Hp→Prop
 stop:Nat→Hp→Prop
def jm (X:Cx)(pins:List (Aj×Obj))(H:Hp)(b:Aj):Prop :=
 H b=none∧b≠X.env.locals∧b∉X.fs∧(b∈X.ex∨X.s₀.heap.objs.size≤b)∧(∀x c,X.env.cells.lookup x=some c→c≠b)∧∀p∈X.pn++pins,p.1≠b
theorem Inv.fpOk {X:Cx}{pins:List (Aj×Obj)}{σ:St}{H H':Hp}{s:Ab}{b:Aj}(I:Inv X pins σ H s)(hb:s.heap.objs.size≤b)(hn:H' b=none):jm X pins H' b:=by
 refine ⟨hn,dZ (aD I.lt hb),I.nofs hb,.inr (bB I.sz hb),λx c e z=>?_,λp hp z=>?_⟩
 ·obtain ⟨v,q⟩:=I.cell x c e
  exact absurd (aD q.lt (by rw [z];exact hb)) (aS _)
 ·exact absurd (aD (al (I.pin p hp).1) (by rw [z];exact hb)) (aS _)
structure Turn (P:Ac)(w:Ah)(K:Aa)(tg:Expr)(J:It)(fp:List Aj)(it:Aj)(tn:Nat→Heap→Prop):Prop where
 mem:it∈fp
 obj:∀i h,tn i h→∀b∈fp,∃o,h.get? b=some o∧∀v,o.data≠.cell v
 keep:∀i h h',tn i h→(∀b∈fp,∀o,h.get? b=some o→h'.get? b=some o)→tn i h'
 item:∀(X:Cx),X.prog=P→X.w=w→X.K=K→X.calm=true→∀(i:Nat) (pins:List (Aj×Obj)) (s:Ab) (σ:St) (H:Hp) (E:Ag→Ab→Prop),Inv X pins σ H s→(∀b∈fp,jm X pins H b)→tn i s.heap→J.go i H →
  wpAny (model P w) X.A (pyNext (.ref it)) (λr s1=>∃u,r=some u ∧
   wpAny (model P w) X.A (letOwnedTupleGo tg (.ref it) u) (λ_ s2=>∃x H',Inv X pins σ H' s2∧RelV x u∧J.yld i H x H'∧tn (i+1) s2.heap∧∀b∈fp,H' b=none) E s1) E s
 done:∀(X:Cx),X.prog=P→X.w=w→X.K=K→X.calm=true→∀(i:Nat) (pins:List (Aj×Obj)) (s:Ab) (σ:St) (H:Hp) (E:Ag→Ab→Prop),Inv X pins σ H s→(∀b∈fp,jm X pins H b)→tn i s.heap→J.stop i H →
  wpAny (model P w) X.A (pyNext (.ref it)) (λr s1=>r=none∧Inv X pins σ H s1) E s
 self:∀(A:Ae) (i:Nat) (s:Ab) (Q:Ag→Ab→Prop) (E:Ag→Ab→Prop),tn i s.heap→Q (.ref it) s→wpAny (model P w) A (pyIter (.ref it)) Q E s
abbrev TI:=St→Hp→(It→Hp→Prop)→Prop
def PIE (X:Cx)(pins:List (Aj×Obj))(σ:St)(tg:Expr)(R:It→Hp→Prop)(itv:Ag)(s2:Ab):Prop :=
 ∃(it:Aj) (fp:List Aj) (tn:Nat→Heap→Prop) (J:It) (H':Hp),itv=.ref it∧Inv X pins σ H' s2∧Turn X.prog X.w X.K tg J fp it tn∧tn 0 s2.heap∧(∀b∈fp,jm X pins H' b)∧R J H'
def PI (X:Cx)(tg iter:Expr)(wi:TI):Prop :=
 ∀(pins:List (Aj×Obj)) (s:Ab) (σ:St) (H:Hp) (R:It→Hp→Prop),Inv X pins σ H s→wi σ H R →
  wpAny (model X.prog X.w) X.A (eval iter X.env) (λv s1=>wpAny (model X.prog X.w) X.A (pyIter v) (PIE X pins σ tg R) X.xe s1) X.xe s
theorem qju {M:Model}{A:Ae}{E:Ag→Ab→Prop}{s:Ab}{tg:Expr}{it:Aj}{u:Ag}{o:Obj}{n:String}{vs:Array Ag}{Q:Unit→Ab→Prop}(ho:s.heap.get? it=some o)(hc:o.cls=.type n)(hd:o.data=.fields vs)
  (hn:["enumerate","zip","dict_itemiterator","dict_reverseitemiterator","odict_iterator","itertools.zip_longest","itertools.pairwise"].contains n=false) (hQ:Q () s):wpAny M A (letOwnedTupleGo tg (.ref it) u) Q E s:=by
 unfold letOwnedTupleGo
 cases tg <;> first
  |exact ag hQ
  |(cases u <;> first
    |exact ag hQ
    |(refine aa (wpAny_load ho ?_)
      rw [hc,hd]
      show wpAny M A (if (["enumerate","zip","dict_itemiterator","dict_reverseitemiterator","odict_iterator","itertools.zip_longest","itertools.pairwise"].contains n&&vs[0]?==some (rawInt _))=true then _ else _) Q E s
      rw [af (by intro h;rw [hn,Bool.false_and] at h;cases h)]
      exact ag hQ))
def Itl (K:Aa)(a:Aj):It :=
 ⟨λi H=>∃xs x,SqL K H a xs∧xs[i]?=some x,λi H x H'=>H'=H∧∀xs,SqL K H a xs→xs[i]?=some x,λi H=>∃xs,SqL K H a xs∧xs.length≤i⟩
def Itr (lo:Int)(n:Nat):It:=⟨λi _=>i<n,λi H x H'=>H'=H∧x=.int (lo+i),λi _=>n≤i⟩
theorem wwp {P:Ac}{w:Ah}{K:Aa}{tg:Expr}(a it:Aj):Turn P w K tg (Itl K a) [it] it (λi h=>h.IsListIter it a i) where
 mem:=by simp
 obj:=λi h st b hb=>by
  have e:b=it:=by simpa using hb
  subst e
  obtain ⟨o,e,c,d⟩:=st
  exact ⟨o,e,λv z=>by rw [d] at z;cases z⟩
 keep:=λi h h' st k=>st.at λo e=>k it (by simp) o e
 item:=by
  intro X hP hw hK hc i pins s σ H E I hf st hg
  subst hP hw hK
  obtain ⟨xs,x,hq,hx⟩:=hg
  obtain ⟨its,rv,p,hz⟩:=I.list hq
  obtain ⟨u,hu,ru⟩:=rv.get hx
  obtain ⟨f0,f1,f2,f3,f4,f5⟩:=hf it (by simp)
  refine wpAny_pyNext_list_item st p.isList (x:=u) (by simpa using hu) λh' st' sb=>?_
  have I1:Inv X pins σ H { s with heap:=h' }:=I.turned (t':=s.toks) (λb o hb e=>(sb.2 b hb).trans e) f0 f1 f3 f4 f5
  obtain ⟨o,e,c,d⟩:=id st'
  exact ⟨u,rfl,qju (s:={ s with heap:=h' }) e c d (by decide) ⟨x,H,I1,ru,⟨rfl,λys hy=>by rw [I.list_inj hy hq];exact hx⟩,st',λb hb=>(hf b hb).1⟩⟩
 done:=by
  intro X hP hw hK hc i pins s σ H E I hf st hg
  subst hP hw hK
  obtain ⟨xs,hq,hx⟩:=hg
  obtain ⟨its,rv,p,hz⟩:=I.list hq
  obtain ⟨f0,f1,f2,f3,f4,f5⟩:=hf it (by simp)
  have hl:=rv.length
  exact wpAny_pyNext_list_end (I.ok.hd hc) st p.isList (by simp;lia) λh' eb=>⟨rfl,I.turned (t':=s.toks) (λb o hb e=>eb b o hb e) f0 f1 f3 f4 f5⟩
 self:=λ_ _ _ _ _ st h=>wpAny_pyIter_listiter st h
theorem qyu {P:Ac}{w:Ah}{K:Aa}{tg:Expr}(it:Aj)(lo:Int)(n:Nat):Turn P w K tg (Itr lo n) [it] it (λi h=>IsRangeIter h it (lo+(i:Nat)*1) ((n:Int)-(i:Nat)) 1) where
 mem:=by simp
 obj:=λi h st b hb=>by
  have e:b=it:=by simpa using hb
  subst e
  exact ⟨_,st,λv z=>by
   have z':Data.fields _=Data.cell v:=z
   cases z'⟩
 keep:=λi h h' st k=>k it (by simp) _ st
 item:=by
  intro X hP hw hK hc i pins s σ H E I hf st hg
  subst hP hw hK
  obtain ⟨f0,f1,f2,f3,f4,f5⟩:=hf it (by simp)
  have W:=Walks.range (prog:=X.prog) (w:=X.w) (I.ok.hd hc) it lo 1 n
  refine W.item i s _ _ hg st λv h' tk hv st' kk=>?_
  obtain ⟨t,rfl⟩:=hv
  have I1:Inv X pins σ H { s with heap:=h',toks:=tk }:=I.turned (λb o hb e=>kk b o (by simpa using hb) e) f0 f1 f3 f4 f5
  refine ⟨_,rfl,qju (s:={ s with heap:=h',toks:=tk }) (n := "range_iterator") st' rfl rfl (by decide) ⟨.int (lo+i),H,I1,⟨t,?_⟩,⟨rfl,rfl⟩,st',λb hb=>(hf b hb).1⟩⟩
  rw [Int.mul_one]
 done:=by
  intro X hP hw hK hc i pins s σ H E I hf st hg
  subst hP hw hK
  obtain ⟨f0,f1,f2,f3,f4,f5⟩:=hf it (by simp)
  exact wpAny_pyNext_range_end (I.ok.hd hc) st (by have:n≤i:=hg;lia) λh' eb=>⟨rfl,I.turned (t':=s.toks) (λb o hb e=>eb b o hb e) f0 f1 f3 f4 f5⟩
 self:=λ_ _ _ _ _ st h=>wpAny_pyIter_rangeiter st h
section
variable {X:Cx}{tg:Expr}
def iList (K:Aa)(tl:TE):TI:=λσ H R=>tl σ H λx H1=>∃a,x=.ref a∧(∃xs,SqL K H1 a xs)∧R (Itl K a) H1
theorem j4 {l:Expr}{tl:TE}(hl:PE X l tl):PI X tg l (iList X.K tl):=by
 intro pins s σ H R I h
 refine thn (hl pins s σ H _ I h) λv s1 ⟨x,H1,I1,r1,q1⟩=>?_
 obtain ⟨a,e,⟨xs,hq⟩,q⟩:=q1
 subst e
 cases r1
 obtain ⟨its,rv,p,hz⟩:=I1.list hq
 refine wpAny_pyIter_list p.isList ?_
 refine ⟨s1.heap.objs.size,[s1.heap.objs.size],_,_,H1,rfl,I1.kept (t':=s1.toks) λb o e=>ac _ e,wwp a _,⟨_,aq _ rfl,rfl,rfl⟩,λb hb=>?_,q⟩
 have e:b=s1.heap.objs.size:=by simpa using hb
 subst e
 exact I1.fpOk (ah _) (I1.hok.fresh (ah _))
theorem wvb {pins:List (Aj×Obj)}{σ:St}{H:Hp}{s:Ab}{R:It→Hp→Prop}{E:Ag→Ab→Prop}{lo hi:Int}{t u v:Tok}{tk:Nat}(I:Inv X pins σ H s)(h1:-(2 ^ 62)≤lo)(h2:lo<2 ^ 62)(h3:-(2 ^ 62)≤hi)(h4:hi<2 ^ 62)
  (q:R (Itr lo (hi-lo).toNat) H):wpAny (model X.prog X.w) X.A (pyIter (.ref s.heap.objs.size)) (PIE X pins σ tg R) E { s with heap:=s.heap.push { cls:=.type "range",data:=.fields #[.int lo t,.int hi u,.int 1 v] },toks:=tk }:=by
 refine wpAny_pyIter_range (IsRange.new ..) (small_one h1 h2 h3 h4) ?_
 have I1:Inv X pins σ H { s with heap:=s.heap.push { cls:=.type "range",data:=.fields #[.int lo t,.int hi u,.int 1 v] },toks:=tk }:=I.kept λb o e=>ac _ e
 refine ⟨(s.heap.push { cls:=.type "range",data:=.fields #[.int lo t,.int hi u,.int 1 v] }).objs.size,[(s.heap.push { cls:=.type "range",data:=.fields #[.int lo t,.int hi u,.int 1 v] }).objs.size],_,_,H,rfl,
  I1.kept (t':=tk) λb o e=>ac _ e,qyu _ lo (hi-lo).toNat,?_,λb hb=>?_,q⟩
 ·have e1:lo+((0:Nat):Int)*1=lo:=by simp
  have e2:(((hi-lo).toNat:Nat):Int)-((0:Nat):Int)=Builtin.Range.rangeSize lo hi 1:=by rw [rangeSize_one];split <;> lia
  show IsRangeIter _ _ (lo+((0:Nat):Int)*1) ((((hi-lo).toNat:Nat):Int)-((0:Nat):Int)) 1
  rw [e1,e2]
  exact aq _ rfl
 ·have e:b=(s.heap.push { cls:=.type "range",data:=.fields #[.int lo t,.int hi u,.int 1 v] }).objs.size:=by simpa using hb
  subst e
  exact I1.fpOk (ah _) (I1.hok.fresh (ah _))
def iRng1 (ta:TA):TI:=λσ H R=>ta σ H λvs H1=>∃j:Int,vs=[.int j]∧-(2 ^ 62)≤j∧j<2 ^ 62∧R (Itr 0 j.toNat) H1
theorem vz {a:Expr}{ta:TA}{p pos:Pos}(hg:Gl X "range")(hm:X.mg "range" = none)(ha:PA X [a] ta)(hs:starEach [a] X.env=[(false,eval a X.env)]:=by rfl):PI X tg (.Call (.Name "range" p) [a] [] pos) (iRng1 ta):=by
 intro pins s σ H R I h
 refine Call_ (Js I hg hm boot_range (cO (thn (ha pos pins s σ H _ I h) λus s1 ⟨vs,H1,I1,r1,q1⟩=>?_) hs rfl))
 obtain ⟨j,e,q1,q2,q⟩:=q1
 subst e
 cases r1 with
 |cons r rr =>
  cases rr
  obtain ⟨t,rfl⟩:=r
  exact call_range_1 (wvb I1 (by lia) (by lia) q1 q2 (by simpa using q))
def tFor (wi:TI)(g:TG)(tb:TS):TS:=λD σ H=>wi σ H λJ H1=>∃W:Nat→Nat→St→Hp→Prop,(∃m,W 0 m σ H1)∧∀i m σ H,W i m σ H →
 (J.stop i H∧D.nx σ H)∨(J.go i H∧∃N:St→Hp→Prop,(∀σ' H',N σ' H'→∃m',m'<m∧W (i+1) m' σ' H')∧∀x H',J.yld i H x H'→g x σ H' λσ2 H2=>tb { D with nx:=N,ct:=N,bk:=D.nx } σ2 H2)
def qx0 (fp:List Aj)(h:Heap):List (Aj×Obj):=fp.filterMap λb=>(h.get? b).map λo=>(b,o)
theorem jy {fp:List Aj}{h:Heap}{b:Aj}{o:Obj}(hb:b∈fp)(e:h.get? b=some o):(b,o)∈qx0 fp h:=eh.mpr ⟨b,hb,by rw [e];rfl⟩
theorem wwt {fp:List Aj}{h:Heap}{p:Aj×Obj}(hp:p∈qx0 fp h):p.1∈fp∧h.get? p.1=some p.2:=by
 obtain ⟨b,hb,e⟩:=eh.mp hp
 cases q:h.get? b with
 |none=>rw [q] at e;cases e
 |some o =>
  rw [q] at e
  have e':(b,o)=p:=az e
  subst e'
  exact ⟨hb,q⟩
theorem Inv.pinned {pins:List (Aj×Obj)}{σ:St}{H:Hp}{s:Ab}{fp:List Aj}(I:Inv X pins σ H s)(hf:∀b∈fp,jm X pins H b)(ho:∀b∈fp,∃o,s.heap.get? b=some o∧∀v,o.data≠.cell v):Inv X (pins++qx0 fp s.heap) σ H s :=
 I.pins_of λp hp=>(aH.mp hp).elim (λz=>I.pin p (av _ z)) λz=>by
  obtain ⟨hb,e⟩:=wwt z
  obtain ⟨f0,f1,f2,_⟩:=hf p.1 hb
  obtain ⟨o,e',d⟩:=ho p.1 hb
  rw [e] at e';cases e'
  exact ⟨e,f0,f1,f2,d⟩
theorem Inv.unpinned {pins pl:List (Aj×Obj)}{σ:St}{H:Hp}{s:Ab}(I:Inv X (pins++pl) σ H s):Inv X pins σ H s:=I.pins_of λp hp=>I.pin p (av _ (cP _ hp))
theorem jj {iter:Expr}{body:List Stmt}{wi:TI}{g:TG}{tb:TS}{pos:Pos}(hp:PassesOwn (model X.prog X.w) X.A X.env X.xe)(hc:X.calm=true)(hi:PI X tg iter wi)(hg:PG X tg g)(hb:PSs X body tb)
  (hs:∀x,foldedSetIterable iter X.env x=pure x:=by intro _;rfl):PS X (.For tg iter body [] pos) (tFor wi g tb):=by
 intro pins s σ H D I h
 refine wpAny_For (thn (hi pins s σ H _ I h) λv s1 h1=>thn h1 λitv s2 h2=>?_) hs
 obtain ⟨it,fp,tn,J,H2,e,I2,T,st2,f2,W,⟨m0,w0⟩,turn⟩:=h2
 subst e
 have stat:∀ {H':Hp},(∀b∈fp,H' b=none)→∀b∈fp,jm X pins H' b:=λhn b hb=>⟨hn b hb,(f2 b hb).2⟩
 refine codeAny_forLoop_any (λn s'=>∃i σ' H',Inv X pins σ' H' s'∧tn i s'.heap∧(∀b∈fp,H' b=none)∧W i n σ' H') ?_ m0 ⟨0,σ,H2,I2,st2,λb hb=>(f2 b hb).1,w0⟩
 rintro n s3 ⟨i,σ3,H3,I3,st3,fr3,w3⟩
 rcases turn i n σ3 H3 w3 with ⟨stop,qn⟩|⟨go,N,hN,step⟩
 ·refine cf hp (thn (T.done X rfl rfl rfl hc i pins s3 σ3 H3 X.xe I3 (stat fr3) st3 stop) λr s4 ⟨hr,I4⟩=>?_)
  subst hr
  exact dS ⟨σ3,H3,I4,qn⟩
 ·refine cf hp (thn (T.item X rfl rfl rfl hc i pins s3 σ3 H3 X.xe I3 (stat fr3) st3 go) λr s4 ⟨u,hr,h4⟩=>?_)
  subst hr
  refine cf hp (thn h4 λ_ s5 ⟨x,H5,I5,r5,y5,st5,fr5⟩=>?_)
  have I5':=I5.pinned (stat fr5) (T.obj _ _ st5)
  refine cf hp (thn (hg _ s5 σ3 H5 x u _ I5' r5 (step x H5 y5)) λ_ s6 ⟨σ6,H6,I6,q6⟩=>?_)
  refine cf hp (thn (hb _ s6 σ6 H6 _ I6 q6) λf s7 q7=>?_)
  have again:∀ {σ7:St} {H7:Hp},Inv X (pins++qx0 fp s5.heap) σ7 H7 s7→N σ7 H7→∃m,m<n∧∃i σ' H',Inv X pins σ' H' s7∧tn i s7.heap∧(∀b∈fp,H' b=none)∧W i m σ' H':=λ{σ7 H7} I7 n7=>by
   obtain ⟨m',hm,w7⟩:=hN σ7 H7 n7
   refine ⟨m',hm,i+1,σ7,H7,I7.unpinned,T.keep _ _ _ st5 λb hb o e=>(I7.pin (b,o) (av _ (av _ (jy hb e)))).1,λb hb=>?_,w7⟩
   obtain ⟨o,e,d⟩:=T.obj _ _ st5 b hb
   exact (I7.pin (b,o) (av _ (av _ (jy hb e)))).2.1
  cases f with
  |next=>obtain ⟨σ7,H7,I7,n7⟩:=q7;exact again I7 n7
  |cont=>obtain ⟨σ7,H7,I7,n7⟩:=q7;exact again I7 n7
  |brk=>obtain ⟨σ7,H7,I7,q7⟩:=q7;exact ⟨σ7,H7,I7.unpinned,q7⟩
  |ret v=>obtain ⟨x7,σ7,H7,I7,r7,q7⟩:=q7;exact ⟨x7,σ7,H7,I7.unpinned,r7,q7⟩
end
theorem uu {K:Aa}{a:Aj}{xs:List V}{g:TG}{tb:TS}{D:Ends}{σ:St}{H:Hp}(Pv:Nat→St→Hp→Prop)(h0:Pv 0 σ H)(hl:∀i σ H,i≤xs.length→Pv i σ H→SqL K H a xs)
  (hs:∀i x σ H,xs[i]?=some x→Pv i σ H→g x σ H λσ2 H2=>tb { D with nx:=Pv (i+1),ct:=Pv (i+1),bk:=D.nx } σ2 H2) (hd:∀σ H,Pv xs.length σ H→D.nx σ H) :
  ∃W:Nat→Nat→St→Hp→Prop,(∃m,W 0 m σ H)∧∀i m σ H,W i m σ H →
   ((Itl K a).stop i H∧D.nx σ H)∨((Itl K a).go i H∧∃N:St→Hp→Prop,(∀σ' H',N σ' H'→∃m',m'<m∧W (i+1) m' σ' H')∧∀x H',(Itl K a).yld i H x H'→g x σ H' λσ2 H2=>tb { D with nx:=N,ct:=N,bk:=D.nx } σ2 H2):=by
 refine ⟨λi m σ H=>m=xs.length-i∧i≤xs.length∧Pv i σ H,⟨xs.length,by simp,aB _,h0⟩,?_⟩
 rintro i m σ H ⟨rfl,hi,p⟩
 have q:=hl i σ H hi p
 by_cases hlt:i<xs.length
 ·refine .inr ⟨⟨xs,xs[i],q,by simp [hlt]⟩,Pv (i+1),λσ' H' p'=>⟨xs.length-(i+1),by lia,rfl,hlt,p'⟩,λx H' y=>?_⟩
  obtain ⟨e,y⟩:=y
  subst e
  exact hs i x σ _ (y xs q) p
 ·have e:i=xs.length:=by lia
  subst e
  exact .inl ⟨⟨xs,q,ah _⟩,hd σ H p⟩
theorem jn {lo:Int}{n:Nat}{g:TG}{tb:TS}{D:Ends}{σ:St}{H:Hp}(Pv:Nat→St→Hp→Prop)(h0:Pv 0 σ H)
  (hs:∀i σ H,i<n→Pv i σ H→g (.int (lo+i)) σ H λσ2 H2=>tb { D with nx:=Pv (i+1),ct:=Pv (i+1),bk:=D.nx } σ2 H2) (hd:∀σ H,Pv n σ H→D.nx σ H) :
  ∃W:Nat→Nat→St→Hp→Prop,(∃m,W 0 m σ H)∧∀i m σ H,W i m σ H →
   ((Itr lo n).stop i H∧D.nx σ H)∨((Itr lo n).go i H∧∃N:St→Hp→Prop,(∀σ' H',N σ' H'→∃m',m'<m∧W (i+1) m' σ' H')∧∀x H',(Itr lo n).yld i H x H'→g x σ H' λσ2 H2=>tb { D with nx:=N,ct:=N,bk:=D.nx } σ2 H2):=by
 refine ⟨λi m σ H=>m=n-i∧i≤n∧Pv i σ H,⟨n,by simp,aB _,h0⟩,?_⟩
 rintro i m σ H ⟨rfl,hi,p⟩
 by_cases hlt:i<n
 ·refine .inr ⟨hlt,Pv (i+1),λσ' H' p'=>⟨n-(i+1),by lia,rfl,hlt,p'⟩,λx H' y=>?_⟩
  obtain ⟨e,y⟩:=y
  subst e y
  exact hs i σ _ hlt p
 ·have e:i=n:=by lia
  subst e
  exact .inl ⟨ah _,hd σ H p⟩
theorem qjm {c:TT}{tb:TS}{D:Ends}{σ:St}{H:Hp}(Pv:St→Hp→Prop)(μ:St→Hp→Nat)(h0:Pv σ H)
  (hs:∀σ H,Pv σ H→c σ H λb H1=>if b=true then tb { D with nx:=λσ' H'=>Pv σ' H'∧μ σ' H'<μ σ H,ct:=λσ' H'=>Pv σ' H'∧μ σ' H'<μ σ H,bk:=D.nx } σ H1 else D.nx σ H1)
  (mono:∀σ H Q Q',(∀b H1,Q b H1→Q' b H1)→c σ H Q→c σ H Q'):qy4 c tb D σ H:=by
 refine ⟨λm σ H=>m=μ σ H∧Pv σ H,⟨_,rfl,h0⟩,?_⟩
 rintro m σ H ⟨rfl,p⟩
 refine mono σ H _ _ (λb H1 q=>?_) (hs σ H p)
 cases b with
 |true=>exact ⟨_,λσ' H' ⟨p',l⟩=>⟨_,l,rfl,p'⟩,q⟩
 |false=>exact q
abbrev R2:=V→V→Hp→VK→Prop
def OpR (X:Cx)(f:Ag→Ag→Sem Ag)(r:R2):Prop :=
 ∀(pins:List (Aj×Obj)) (s:Ab) (σ:St) (H:Hp) (x y:V) (v u:Ag) (Q:VK),Inv X pins σ H s→RelV x v→RelV y u→r x y H Q →
  wpAny (model X.prog X.w) X.A (f v u) (EP X pins σ Q) X.xe s
def UnR (X:Cx)(f:Ag→Sem Ag)(r:V→Hp→VK→Prop):Prop :=
 ∀(pins:List (Aj×Obj)) (s:Ab) (σ:St) (H:Hp) (x:V) (v:Ag) (Q:VK),Inv X pins σ H s→RelV x v→r x H Q →
  wpAny (model X.prog X.w) X.A (f v) (EP X pins σ Q) X.xe s
def jx (X:Cx)(f:Ag)(r:List V→Hp→VK→Prop):Prop :=
 ∀(pins:List (Aj×Obj)) (s:Ab) (σ:St) (H:Hp) (xs:List V) (us:List Ag) (Q:VK),Inv X pins σ H s→Vals xs us→r xs H Q →
  wpAny (model X.prog X.w) X.A (call f us) (EP X pins σ Q) X.xe s
def tOp (r:R2)(ta tb:TE):TE:=λσ H Q=>ta σ H λx H1=>tb σ H1 λy H2=>r x y H2 Q
def tUn (r:V→Hp→VK→Prop)(ta:TE):TE:=λσ H Q=>ta σ H λx H1=>r x H1 Q
def rI (C:Int→Int→Prop)(g:Int→Int→V):R2:=λx y H Q=>∃i j,x=.int i∧y=.int j∧C i j∧Q (g i j) H
def rI0 (g:Int→Int→V):R2:=λx y H Q=>∃i j,x=.int i∧y=.int j∧Q (g i j) H
def rU (g:Int→V):V→Hp→VK→Prop:=λx H Q=>∃i,x=.int i∧Q (g i) H
section
variable {X:Cx}{a b c:Expr}{ta tb tc:TE}{pos:Pos}
theorem binT (ha:PE X a ta)(hb:PE X b tb){pins:List (Aj×Obj)}{s:Ab}{σ:St}{H:Hp}{R:V→V→Hp→Prop}(I:Inv X pins σ H s)
  (h:ta σ H λx H1=>tb σ H1 λy H2=>R x y H2) {Q:Ag→Ab→Prop} {f:Ag→Ag→Sem Ag}
  (hf:∀v u s2 x y H2,Inv X pins σ H2 s2→RelV x v→RelV y u→R x y H2→wpAny (model X.prog X.w) X.A (f v u) Q X.xe s2) :
  wpAny (model X.prog X.w) X.A (eval a X.env) (λv s₁=>wpAny (model X.prog X.w) X.A (eval b X.env) (λu s₂=>wpAny (model X.prog X.w) X.A (f v u) Q X.xe s₂) X.xe s₁) X.xe s:=by
 refine thn (ha pins s σ H _ I h) λv s1 ⟨x,H1,I1,r1,q1⟩=>?_
 refine thn (hb pins s1 σ H1 _ I1 q1) λu s2 ⟨y,H2,I2,r2,q2⟩=>?_
 exact hf v u s2 x y H2 I2 r1 r2 q2
theorem wm {op:Operator}{r:R2}(ho:OpR X (binaryOp op) r)(ha:PE X a ta)(hb:PE X b tb):PE X (.BinOp a op b pos) (tOp r ta tb):=by
 intro pins s σ H Q I h
 exact wpAny_BinOp (binT ha hb I h λv u s2 x y H2 I2 rx ry q=>ho pins s2 σ H2 x y v u Q I2 rx ry q)
theorem wqk {op:UnaryOp}{r:V→Hp→VK→Prop}(ho:UnR X (unaryOp op) r)(ha:PE X a ta):PE X (.UnaryOp op a pos) (tUn r ta):=by
 intro pins s σ H Q I h
 exact UnaryOp_ (thn (ha pins s σ H _ I h) λv s1 ⟨x,H1,I1,r1,q1⟩=>ho pins s1 σ H1 x v Q I1 r1 q1)
theorem opI {f:Ag→Ag→Sem Ag}{C:Int→Int→Prop}{g:Int→Int→Int}
  (rule:∀(i j:Int) (t u:Tok) (s:Ab) (Q:Ag→Ab→Prop) (E:Ag→Ab→Prop),C i j→Q (.int (g i j) s.toks) { s with toks:=s.toks+1 }→wpAny (model X.prog X.w) X.A (f (.int i t) (.int j u)) Q E s) :
  OpR X f (rI C λi j=>.int (g i j)):=by
 intro pins s σ H x y v u Q I rx ry h
 obtain ⟨i,j,rfl,rfl,hc,q⟩:=h
 obtain ⟨t,rfl⟩:=rx
 obtain ⟨t',rfl⟩:=ry
 exact rule i j t t' s _ _ hc ⟨.int (g i j),H,I.tok _,⟨_,rfl⟩,q⟩
theorem opI0 {f:Ag→Ag→Sem Ag}{g:Int→Int→Int}
  (rule:∀(i j:Int) (t u:Tok) (s:Ab) (Q:Ag→Ab→Prop) (E:Ag→Ab→Prop),Q (.int (g i j) s.toks) { s with toks:=s.toks+1 }→wpAny (model X.prog X.w) X.A (f (.int i t) (.int j u)) Q E s) :
  OpR X f (rI0 λi j=>.int (g i j)):=by
 intro pins s σ H x y v u Q I rx ry h
 obtain ⟨i,j,rfl,rfl,q⟩:=h
 obtain ⟨t,rfl⟩:=rx
 obtain ⟨t',rfl⟩:=ry
 exact rule i j t t' s _ _ ⟨.int (g i j),H,I.tok _,⟨_,rfl⟩,q⟩
theorem opB0 {f:Ag→Ag→Sem Ag}{g:Int→Int→Bool}
  (rule:∀(i j:Int) (t u:Tok) (s:Ab) (Q:Ag→Ab→Prop) (E:Ag→Ab→Prop),Q (.bool (g i j)) s→wpAny (model X.prog X.w) X.A (f (.int i t) (.int j u)) Q E s) :
  OpR X f (rI0 λi j=>.bl (g i j)):=by
 intro pins s σ H x y v u Q I rx ry h
 obtain ⟨i,j,rfl,rfl,q⟩:=h
 obtain ⟨t,rfl⟩:=rx
 obtain ⟨t',rfl⟩:=ry
 exact rule i j t t' s _ _ ⟨.bl (g i j),H,I,rfl,q⟩
def CPow (i j:Int):Prop:=0≤j∧j≤1000000∧i.natAbs<2 ^ 64
theorem xm:OpR X (binaryOp .Add) (rI0 λi j=>.int (i+j)):=opI0 λ_ _ _ _ _ _ _ q=>add_int q
theorem kh:OpR X (binaryOp .Sub) (rI0 λi j=>.int (i-j)):=opI0 λ_ _ _ _ _ _ _ q=>sub_int q
theorem jq:OpR X (binaryOp .Mod) (rI (λ_ j=>0<j) λi j=>.int (i%j)):=opI λi j _ _ _ _ _ hc q=>by
 have h1:(0:Int)<j:=hc
 exact mod_int' (by lia) (by rw [Int.fmod_eq_emod_of_nonneg i (by lia)];exact q)
theorem op_pow:OpR X (binaryOp .Pow) (rI CPow λi j=>.int (i ^ j.toNat)):=opI λ_ _ _ _ _ _ _ hc q=>pow_int_small hc.1 hc.2.1 hc.2.2 q
theorem unI {f:Ag→Sem Ag}{g:Int→Int}
  (rule:∀(i:Int) (t:Tok) (s:Ab) (Q:Ag→Ab→Prop) (E:Ag→Ab→Prop),Q (.int (g i) s.toks) { s with toks:=s.toks+1 }→wpAny (model X.prog X.w) X.A (f (.int i t)) Q E s) :
  UnR X f (rU λi=>.int (g i)):=by
 intro pins s σ H x v Q I rx h
 obtain ⟨i,rfl,q⟩:=h
 obtain ⟨t,rfl⟩:=rx
 exact rule i t s _ _ ⟨.int (g i),H,I.tok _,⟨_,rfl⟩,q⟩
theorem qz0:UnR X (unaryOp .USub) (rU λi=>.int (-i)):=unI λ_ _ _ _ _ q=>neg_int q
end
def scal:V→V→Bool
 |.non,.non=>true|.non,.int _=>true|.int _,.non=>true|.non,.bl _=>true|.bl _,.non=>true|.non,.str _=>true|.str _,.non=>true
 |.int _,.int _=>true|.bl _,.bl _=>true|.str _,.str _=>true|.byt _,.byt _=>true
 |.int _,.str _=>true|.str _,.int _=>true|.bl _,.str _=>true|.str _,.bl _=>true
 |_,_=>false
def rEq:R2:=λx y H Q=>scal x y=true∧Q (.bl (decide (x=y))) H
def rNe:R2:=λx y H Q=>scal x y=true∧Q (.bl (!decide (x=y))) H
theorem wqg {i j:Int}:decide (V.int i=V.int j)=(i==j):=by
 rw [cF]
 simp
theorem wv5 {i j:Bool}:decide (V.bl i=V.bl j)=(i==j):=by
 rw [cF]
 simp
theorem quf {i j:Str}:decide (V.str i=V.str j)=(i==j):=by
 rw [cF]
 simp
theorem wqz {i j:Array UInt8}:decide (V.byt i=V.byt j)=(i.toList==j.toList):=by
 rw [cF]
 cases i
 cases j
 simp
section
variable {X:Cx}{a b c:Expr}{ta tb tc:TE}{pos:Pos}
theorem x8 {pins:List (Aj×Obj)}{σ:St}{H:Hp}{s:Ab}{Q:VK}{k k':Bool}(I:Inv X pins σ H s)(q:Q (.bl k) H)(e:k=k'):EP X pins σ Q (.bool k') s:=by
 subst e
 exact ⟨.bl k,H,I,rfl,q⟩
theorem ku:OpR X (compareOp .Eq) rEq:=by
 intro pins s σ H x y v u Q I rx ry h
 obtain ⟨hs,q⟩:=h
 cases x with
 |non =>
  cases rx
  cases y with
  |non=>cases ry;exact PySem.EqNone.eq_none_none (x8 I q (by simp))
  |bl j=>cases ry;exact PySem.EqNone.eq_none_bool (x8 I q (by simp))
  |int j=>obtain ⟨t',rfl⟩:=ry;exact PySem.EqNone.eq_none_int (x8 I q (by simp))
  |str j=>obtain ⟨t',rfl⟩:=ry;exact PySem.EqNone.eq_none_str (x8 I q (by simp))
  |_=>exact absurd (show false=true from hs) aA
 |bl i =>
  cases rx
  cases y with
  |non=>cases ry;exact PySem.EqNone.eq_bool_none (x8 I q (by simp))
  |bl j=>cases ry;exact eq_bool (x8 I q wv5)
  |str j=>obtain ⟨t',rfl⟩:=ry;exact PySem.EqMixed.eq_bool_str (x8 I q (by simp))
  |_=>exact absurd (show false=true from hs) aA
 |int i =>
  obtain ⟨t,rfl⟩:=rx
  cases y with
  |non=>cases ry;exact PySem.EqNone.eq_int_none (x8 I q (by simp))
  |int j=>obtain ⟨t',rfl⟩:=ry;exact eq_int (x8 I q wqg)
  |str j=>obtain ⟨t',rfl⟩:=ry;exact PySem.EqMixed.eq_int_str (x8 I q (by simp))
  |_=>exact absurd (show false=true from hs) aA
 |str i =>
  obtain ⟨t,rfl⟩:=rx
  cases y with
  |non=>cases ry;exact PySem.EqNone.eq_str_none (x8 I q (by simp))
  |bl j=>cases ry;exact PySem.EqMixed.eq_str_bool (x8 I q (by simp))
  |int j=>obtain ⟨t',rfl⟩:=ry;exact PySem.EqMixed.eq_str_int (x8 I q (by simp))
  |str j=>obtain ⟨t',rfl⟩:=ry;exact eq_str (x8 I q quf)
  |_=>exact absurd (show false=true from hs) aA
 |byt i =>
  obtain ⟨t,rfl⟩:=rx
  cases y with
  |byt j=>obtain ⟨t',rfl⟩:=ry;exact PySem.W.eq_bytes (x8 I q wqz)
  |_=>exact absurd (show false=true from hs) aA
 |_=>cases y <;> exact absurd (show false=true from hs) aA
theorem wxp:OpR X (compareOp .NotEq) rNe:=by
 intro pins s σ H x y v u Q I rx ry h
 obtain ⟨hs,q⟩:=h
 cases x with
 |non =>
  cases rx
  cases y with
  |non=>cases ry;exact PySem.EqNone.ne_none_none (x8 I q (by simp))
  |bl j=>cases ry;exact PySem.EqNone.ne_none_bool (x8 I q (by simp))
  |int j=>obtain ⟨t',rfl⟩:=ry;exact PySem.EqNone.ne_none_int (x8 I q (by simp))
  |str j=>obtain ⟨t',rfl⟩:=ry;exact PySem.EqNone.ne_none_str (x8 I q (by simp))
  |_=>exact absurd (show false=true from hs) aA
 |bl i =>
  cases rx
  cases y with
  |non=>cases ry;exact PySem.EqNone.ne_bool_none (x8 I q (by simp))
  |bl j=>cases ry;exact ne_bool (x8 I q (bI not wv5))
  |str j=>obtain ⟨t',rfl⟩:=ry;exact PySem.EqMixed.ne_bool_str (x8 I q (by simp))
  |_=>exact absurd (show false=true from hs) aA
 |int i =>
  obtain ⟨t,rfl⟩:=rx
  cases y with
  |non=>cases ry;exact PySem.EqNone.ne_int_none (x8 I q (by simp))
  |int j=>obtain ⟨t',rfl⟩:=ry;exact ne_int (x8 I q (bI not wqg))
  |str j=>obtain ⟨t',rfl⟩:=ry;exact PySem.EqMixed.ne_int_str (x8 I q (by simp))
  |_=>exact absurd (show false=true from hs) aA
 |str i =>
  obtain ⟨t,rfl⟩:=rx
  cases y with
  |non=>cases ry;exact PySem.EqNone.ne_str_none (x8 I q (by simp))
  |bl j=>cases ry;exact PySem.EqMixed.ne_str_bool (x8 I q (by simp))
  |int j=>obtain ⟨t',rfl⟩:=ry;exact PySem.EqMixed.ne_str_int (x8 I q (by simp))
  |str j=>obtain ⟨t',rfl⟩:=ry;exact ne_str (x8 I q (bI not quf))
  |_=>exact absurd (show false=true from hs) aA
 |byt i =>
  obtain ⟨t,rfl⟩:=rx
  cases y with
  |byt j=>obtain ⟨t',rfl⟩:=ry;exact PySem.W.ne_bytes (x8 I q (bI not wqz))
  |_=>exact absurd (show false=true from hs) aA
 |_=>cases y <;> exact absurd (show false=true from hs) aA
theorem uh:OpR X (compareOp .Lt) (rI0 λi j=>.bl (decide (i<j))):=opB0 λ_ _ _ _ _ _ _ q=>lt_int q
theorem op_le:OpR X (compareOp .LtE) (rI0 λi j=>.bl (decide (i≤j))):=opB0 λ_ _ _ _ _ _ _ q=>le_int q
theorem Qh:OpR X (compareOp .Gt) (rI0 λi j=>.bl (decide (j<i))):=opB0 λ_ _ _ _ _ _ _ q=>gt_int q
theorem wqx:OpR X (compareOp .GtE) (rI0 λi j=>.bl (decide (j≤i))):=opB0 λ_ _ _ _ _ _ _ q=>ge_int q
theorem wwq:OpR X (compareOp .In) (λx y H Q=>∃i j,x=.str i∧y=.str j∧Q (.bl (!(Builtin.Str.occurrences j i 0 j.length 1).isEmpty)) H):=by
 intro pins s σ H x y v u Q I rx ry h
 obtain ⟨i,j,rfl,rfl,q⟩:=h
 obtain ⟨t,rfl⟩:=rx
 obtain ⟨t',rfl⟩:=ry
 exact in_str (x8 I q rfl)
theorem op_isN:OpR X (compareOp .Is) (λx y H Q=>y=.non∧Q (.bl (decide (x=.non))) H):=by
 intro pins s σ H x y v u Q I rx ry h
 obtain ⟨rfl,q⟩:=h
 cases ry
 refine is_none_gen (x8 I q ?_)
 cases x <;> first
  |(cases rx;rfl)
  |(obtain ⟨t,rfl⟩:=rx;rfl)
theorem wk7:OpR X (compareOp .IsNot) (λx y H Q=>y=.non∧Q (.bl (!decide (x=.non))) H):=by
 intro pins s σ H x y v u Q I rx ry h
 obtain ⟨rfl,q⟩:=h
 cases ry
 refine isnot_none_gen (x8 I q ?_)
 cases x <;> first
  |(cases rx;rfl)
  |(obtain ⟨t,rfl⟩:=rx;rfl)
theorem w9 (b:Expr){op:CmpOp}(h:op≠.In:=by decide)(h2:op≠.NotIn:=by decide):behindInMarks op b=false:=by
 have e1:(op==CmpOp.In)=false:=by cases op <;> first | rfl | exact absurd rfl h
 have e2:(op==CmpOp.NotIn)=false:=by cases op <;> first | rfl | exact absurd rfl h2
 cases b <;> simp [behindInMarks,e1,e2]
theorem Qv {op:CmpOp}{r:R2}(ho:OpR X (compareOp op) r)(ha:PE X a ta)(hb:PE X b tb)(hm:behindInMarks op b=false):PE X (.Compare a [op] [b] pos) (tOp r ta tb):=by
 intro pins s σ H Q I h
 exact wpAny_Compare1 (binT ha hb I h λv u s2 x y H2 I2 rx ry q=>ho pins s2 σ H2 x y v u Q I2 rx ry q) hm
def tTest (t:TE):TT:=λσ H Q=>t σ H λx H'=>∃k,x=.bl k∧Q k H'
theorem wn {op:CmpOp}{r:R2}(ho:OpR X (compareOp op) r)(ha:PE X a ta)(hb:PE X b tb)(hm:behindInMarks op b=false):PT X (.Compare a [op] [b] pos) (tTest (tOp r ta tb)):=by
 intro pins s σ H Q I h
 refine wpAny_isTrue_Compare1 (thn (ha pins s σ H _ I h) λv s1 ⟨x,H1,I1,r1,q1⟩=>thn (hb pins s1 σ H1 _ I1 q1) λu s2 ⟨y,H2,I2,r2,q2⟩ =>
  thn (ho pins s2 σ H2 x y v u _ I2 r1 r2 q2) λc s3 ⟨z,H3,I3,r3,k,e,q3⟩=>?_) hm
 subst e
 cases r3
 exact cm ⟨H3,I3,q3⟩
theorem Q2:(sizeLine:Nat)<2 ^ 63:=by rw [sizeLine_eq];decide
theorem j5 {x:V}{us:List Ag}(r:Vals [x] us):∃u,us=[u]∧RelV x u:=by
 cases r with
 |cons r1 r2=>cases r2;exact ⟨_,rfl,r1⟩
theorem wz9 {x y:V}{us:List Ag}(r:Vals [x,y] us):∃u w',us=[u,w']∧RelV x u∧RelV y w':=by
 cases r with
 |cons r1 r2 =>
  cases r2 with
  |cons r3 r4=>cases r4;exact ⟨_,_,rfl,r1,r3⟩
theorem Q9:jx X (.builtin "abs") (λxs H Q=>∃i,xs=[.int i]∧Q (.int (if i<0 then -i else i)) H):=by
 intro pins s σ H xs us Q I r h
 obtain ⟨i,rfl,q⟩:=h
 obtain ⟨u,rfl,t,rfl⟩:=j5 r
 exact call_abs_int λu tk=>⟨.int (if i<0 then -i else i),H,I.tok _,⟨_,rfl⟩,q⟩
theorem qw7 (hc:X.calm=true):jx X (.builtin "max") (λxs H Q=>∃i j,xs=[.int i,.int j]∧Q (.int (if j>i then j else i)) H):=by
 intro pins s σ H xs us Q I r h
 obtain ⟨i,j,rfl,q⟩:=h
 obtain ⟨u,w',rfl,⟨t,rfl⟩,⟨t',rfl⟩⟩:=wz9 r
 refine max_two_ints (I.ok.hd hc) λh' tk k=>⟨_,H,I.kept k,?_,q⟩
 by_cases hj:j>i
 ·rw [aj hj,aj hj];exact ⟨_,rfl⟩
 ·rw [af hj,af hj];exact ⟨_,rfl⟩
theorem qw6 (hc:X.calm=true):jx X (.builtin "min") (λxs H Q=>∃i j,xs=[.int i,.int j]∧Q (.int (if j<i then j else i)) H):=by
 intro pins s σ H xs us Q I r h
 obtain ⟨i,j,rfl,q⟩:=h
 obtain ⟨u,w',rfl,⟨t,rfl⟩,⟨t',rfl⟩⟩:=wz9 r
 refine min_two_ints (I.ok.hd hc) λh' tk k=>⟨_,H,I.kept k,?_,q⟩
 by_cases hj:j<i
 ·rw [aj hj,aj hj];exact ⟨_,rfl⟩
 ·rw [af hj,af hj];exact ⟨_,rfl⟩
theorem wq6:jx X (.type "int") (λxs H Q=>(∃i,xs=[.int i]∧Q (.int i) H)∨∃k,xs=[.bl k]∧Q (.int (if k then 1 else 0)) H):=by
 intro pins s σ H xs us Q I r h
 rcases h with ⟨i,rfl,q⟩|⟨k,rfl,q⟩
 ·obtain ⟨u,rfl,t,rfl⟩:=j5 r
  exact call_int_int ⟨.int i,H,I,⟨_,rfl⟩,q⟩
 ·obtain ⟨u,rfl,r1⟩:=j5 r
  cases r1
  exact call_int_bool ⟨.int (if k then 1 else 0),H,I.tok _,⟨_,rfl⟩,q⟩
end
structure ObjM (h:Heap)(x dx C:Aj)(mA:Str→Option Ag):Prop where
 obj:h.get? x=some (PySem.W.instObj C dx)
 ns:h.Ns1 dx mA
 ne:dx≠x
theorem ww7 {h:Heap}{dx:Aj}{mA:Str→Option Ag}(n:h.Ns1 dx mA):∃od,h.get? dx=some od∧∀name,PySem.W.lookIn name od=some (mA name):=by
 obtain ⟨o,es,ep,ho,hd,hk,_,hm⟩:=n
 refine ⟨o,ho,λname=>?_⟩
 have e:=hm name
 unfold nsFind findBy at e
 rw [←Array.find?_toList] at e
 unfold PySem.W.lookIn
 rw [hd]
 dsimp only
 split
 ·rename_i y q
  rw [q] at e
  exact bI some e
 ·rename_i q
  rw [q] at e
  have a:es.toList.any (·.refKey)=false:=by
   rw [List.any_eq_false]
   intro y hy
   obtain ⟨z,t,hkey⟩:=hk y (Array.mem_toList_iff.mp hy)
   simp [DictEntry.refKey,hkey]
  have a':¬ es.toList.any (·.refKey)=true:=by rw [a];exact aA
  rw [af a']
  exact bI some e
theorem ObjM.look {h:Heap}{x dx C:Aj}{mA:Str→Option Ag}(I:ObjM h x dx C mA):∃od,PySem.W.InstAt h x (PySem.W.instObj C dx) C (some od)∧∀name,PySem.W.lookIn name od=some (mA name) :=
 let ⟨od,ho,hl⟩:=ww7 I.ns
 ⟨od,⟨I.obj,rfl,rfl,ho⟩,hl⟩
section
variable {prog:Ac}{w:Ah}{A:Ae}{E:Ag→Ab→Prop}{s:Ab}{K:Aa}{x dx C f:Aj}{mA:Str→Option Ag}{name:Str}{v:Ag}
theorem wk4 {expr:Bool}{Q:Ag→Ab→Prop}(X:K.In s.heap)(I:ObjM s.heap x dx C mA)(hg:PySem.W.plainGet K C name=true)(hh:PySem.W.hasDictIn K C=true)
  (ha:PySem.W.findIn K (.ref C) name=some none) (hv:mA name=some v) (hv':PySem.W.handedIn v=true) (h:Q v { s with toks:=s.toks+1 }) :
  wpAny (model prog w) A (getAttr (.ref x) name expr) Q E s:=by
 obtain ⟨od,J,hl⟩:=I.look
 exact PySem.W.get_value X J (dX hg).1 (PySem.W.findObj_own hh ha rfl (by rw [hl,hv])) hv' h
theorem wz6 {pl:Sem Bool}{Q:Ag×List Ag→Ab→Prop}(X:K.In s.heap)(I:ObjM s.heap x dx C mA)(hg:PySem.W.plainGet K C name=true)
  (hf:PySem.W.findIn K (.ref C) name=some (some (.ref f))) (ht:PySem.W.isFn K (.ref f)=true) (hv:mA name=none) (h:Q (.ref f,[.ref x]) s) :
  wpAny (model prog w) A (getMethod (.ref x) name pl) Q E s:=by
 obtain ⟨od,J,hl⟩:=I.look
 exact PySem.W.method_fn X J (dX hg).1 (dX hg).2 hf (dH.mp ht) (by show (PySem.W.lookIn name od).map (·.isSome)=some false;rw [hl,hv];rfl) h
theorem Yk {ns:List Str}{Q:Unit→Ab→Prop}(X:K.In s.heap)(I:ObjM s.heap x dx C mA)
  (hs:PySem.W.findIn K (.ref C) "__setattr__" = some (some (.builtin "object.__setattr__"))) (hp:PySem.W.plainOver K C=true) (ht:PySem.W.takerIn K C name=some none) (hh:PySem.W.hasDictIn K C=true)
  (hw:PySem.Within mA ns) (hsz:ns.length≤sizeLine)
  (h:∀h',ObjM h' x dx C (λy=>if y=name then some v else mA y)→Heap.SameBut dx s.heap h'→Q () { s with heap:=h',toks:=s.toks+2 }) :
  wpAny (model prog w) A (setAttr (.ref x) name v) Q E s:=by
 obtain ⟨od,J,hl⟩:=I.look
 refine PySem.W.set_plain X J hs (PySem.W.osa_open (s:={ s with toks:=s.toks+1 }) (r:=none) X J hp ht λb=>?_)
 obtain ⟨cd,hc,hd'⟩:=PySem.W.any_some hh
 have hx:s.heap.get? x=some ⟨.ref C,some dx,.plain,#[]⟩:=I.obj
 refine aa (ag (aa (aa (wpAny_loadPart hx (aa (PySem.W.Looks.here (s:={ s with toks:=s.toks+1 }) (PySem.W.looks_clsIn X hc) ?_))))))
 rw [hd']
 refine ag (a:=some dx) (aa (ag (aa ?_)))
 refine wpAny_nsSet1 (s:={ s with toks:=s.toks+1 }) I.ns λh' hn2 hs2=>?_
 obtain ⟨oD,esD,epD,hoD,hdD,hcD⟩:=hn2.count (PySem.Within.cons name v hw)
 refine aa (wpAny_lookBehind hoD (by rw [hdD];exact pastItsLine_dict (bB hcD (by rw [aL];lia))) ?_)
 exact ag (h _ ⟨(hs2.2 _ (aZ I.ne)).trans I.obj,hn2,I.ne⟩ hs2)
theorem wzm {R:Result→Ab→Prop}{vs:List Ag}{kw:List (Str×Ag)}(X:K.In s.heap)(hm:PySem.W.makesIn K C=true)
  (hi:PySem.W.findIn K (.ref C) "__init__" = some (some (.ref f))) (hf:PySem.W.typeIn K (.ref f)=some (.type "function"))
  (h:codeAny (model prog w) (A.under (.builtin "type.__call__" ⟨.ref C::vs,kw⟩)) (.call (.ref f) ⟨.ref (s.heap.objs.size+1)::vs,kw⟩) (PySem.W.InitBack (s.heap.objs.size+1) R)
   { s with heap:=(s.heap.push PySem.W.emptyDict).push (PySem.W.instObj C s.heap.objs.size) }) :
  codeAny (model prog w) A (.call (.ref C) ⟨vs,kw⟩) R s:=by
 obtain ⟨hh,g,d,t,os⟩:=s
 exact PySem.W.make_core (PySem.W.makes_of X hm) (PySem.W.looks_findIn X hi) (λself=>PySem.W.bind_fn X self hf) (.inl rfl) h
end
def vm (f:Str)(v:V):List (Str×V)→List (Str×V)
 |[]=>[(f,v)]
 |(g,x)::r=>if g=f then (g,v)::r else (g,x)::vm f v r
theorem Zm (f g:Str)(v:V):∀fs:List (Str×V),(vm f v fs).lookup g=if g=f then some v else fs.lookup g
 |[]=>by
  show List.lookup g [(f,v)]=_
  by_cases h:g=f
  ·have hb:(g==f)=true:=dH.mpr h
   simp only [List.lookup,hb,aj h]
  ·have hb:(g==f)=false:=aI.mpr h
   simp only [List.lookup,hb,af h]
 |(k,x)::r=>by
  have ih:=Zm f g v r
  rw [show vm f v ((k,x)::r)=(if k=f then (k,v)::r else (k,x)::vm f v r) from rfl]
  by_cases hk:k=f
  ·rw [aj hk]
   by_cases h:g=k
   ·have hb:(g==k)=true:=dH.mpr h
    simp only [List.lookup,hb,aj (h.trans hk)]
   ·have hb:(g==k)=false:=aI.mpr h
    simp only [List.lookup,hb,af (λe:g=f=>h (e.trans hk.symm))]
  ·rw [af hk]
   by_cases h:g=k
   ·have hb:(g==k)=true:=dH.mpr h
    simp only [List.lookup,hb,af (λe:g=f=>hk (h.symm.trans e))]
   ·have hb:(g==k)=false:=aI.mpr h
    simp only [List.lookup,hb]
    exact ih
theorem Zb (f:Str)(v:V):∀fs:List (Str×V),f∈(vm f v fs).map (·.1)∧∀g,g∈fs.map (·.1)→g∈(vm f v fs).map (·.1)
 |[]=>⟨by simp [vm],λg h=>by simp at h⟩
 |(k,x)::r=>by
  obtain ⟨i1,i2⟩:=Zb f v r
  rw [show vm f v ((k,x)::r)=(if k=f then (k,v)::r else (k,x)::vm f v r) from rfl]
  by_cases hk:k=f
  ·rw [aj hk]
   subst hk
   exact ⟨by simp,λg h=>by simpa using h⟩
  ·rw [af hk]
   refine ⟨?_,λg h=>?_⟩
   ·rw [ax]
    exact aE _ i1
   ·rw [ax] at h ⊢
    rcases ak.mp h with e|e
    ·exact ak.mpr (.inl e)
    ·exact aE _ (i2 g e)
theorem Zs (f:Str)(v:V):∀fs:List (Str×V),(vm f v fs).length≤fs.length+1
 |[]=>by simp [vm]
 |(k,x)::r=>by
  have ih:=Zs f v r
  rw [show vm f v ((k,x)::r)=(if k=f then (k,v)::r else (k,x)::vm f v r) from rfl]
  by_cases hk:k=f
  ·rw [aj hk,aL,aL];lia
  ·rw [af hk,aL,aL];lia
theorem RelO.some_of {v:V}{o:Option Ag}(r:RelO (some v) o):∃u,o=some u∧RelV v u:=by
 cases o with
 |none=>exact (show False from r).elim
 |some u=>exact ⟨u,rfl,r⟩
theorem RelO.none_of {o:Option Ag}(r:RelO none o):o=none:=by
 cases o with
 |none=>rfl
 |some u=>exact (show False from r).elim
theorem wq4 {v:V}{u:Ag}(r:RelV v u):PySem.W.handedIn u=true:=by
 cases v with
 |non=>cases (show u=Value.none from r);rfl
 |bl b=>cases (show u=Value.bool b from r);rfl
 |int i=>obtain ⟨t,e⟩:=(show ∃t,u=Value.int i t from r);cases e;rfl
 |str x=>obtain ⟨t,e⟩:=(show ∃t,u=Value.str x t from r);cases e;rfl
 |byt b=>obtain ⟨t,e⟩:=(show ∃t,u=Value.bytes b t from r);cases e;rfl
 |flt b=>obtain ⟨t,e⟩:=(show ∃t,u=Value.float b t from r);cases e;rfl
 |ref a=>cases (show u=Value.ref a from r);rfl
 |ty n=>cases (show u=Value.type n from r);rfl
section
variable {P:Ac}{w:Ah}{H H':Hp}{h h':Heap}{a C dx:Aj}{fs fs':List (Str×V)}
theorem Yg (hok:HOk P w H h)(e:H a=some (.ins C dx fs)):∃mA,ObjM h a dx C mA∧(∀f,RelO (fs.lookup f) (mA f))∧PySem.Within mA (fs.map (·.1))∧fs.length≤1000∧H dx=some (.own a):=by
 obtain ⟨d,z,ne,ob,mA,n,r,q⟩:=(show ObjOk P w H h a (.ins C dx fs) from hok a _ e)
 exact ⟨mA,⟨ob,n,ne⟩,r,q,z,d⟩
end
structure Cls (K:Aa)(C:Aj):Prop where
 pg:PySem.W.plainGet K C Str.empty=true
 hd:PySem.W.hasDictIn K C=true
 po:PySem.W.plainOver K C=true
 sa:PySem.W.findIn K (.ref C) "__setattr__" = some (some (.builtin "object.__setattr__"))
theorem Cls.get {K:Aa}{C:Aj}(c:Cls K C)(f:Str):PySem.W.plainGet K C f=true:=c.pg
def NoAttr (K:Aa)(C:Aj)(f:Str):Prop:=PySem.W.findIn K (.ref C) f=some none
theorem NoAttr.taker {K:Aa}{C:Aj}{f:Str}(n:NoAttr K C f):PySem.W.takerIn K C f=some none:=by
 unfold PySem.W.takerIn
 rw [show PySem.W.findIn K (.ref C) f=some none from n]
 rfl
structure Con (K:Aa)(C:Aj)(f:Str)(v:V)(u:Ag):Prop where
 at_:PySem.W.findIn K (.ref C) f=some (some u)
 rel:RelV v u
 get:PySem.W.specialIn K u "__get__" = some none
 cp:PySem.W.copiedNames.contains f=false
structure Meth (K:Aa)(C:Aj)(m:Str)(f:Aj):Prop where
 at_:PySem.W.findIn K (.ref C) m=some (some (.ref f))
 fn:PySem.W.isFn K (.ref f)=true
 kp:PySem.W.keepIn K (.ref f)=true
section
variable {X:Cx}{pins:List (Aj×Obj)}{σ:St}{H:Hp}{s:Ab}{a C dx:Aj}{fs:List (Str×V)}{f:Str}{v:V}{A:Ae}{E:Ag→Ab→Prop}
theorem qj5 {b:Bool}{Q:Ag→Ab→Prop}(I:Inv X pins σ H s)(e:H a=some (.ins C dx fs))(c:Cls X.K C)(n:NoAttr X.K C f)(l:fs.lookup f=some v)
  (h:∀u s',Inv X pins σ H s'→RelV v u→Q u s'):wpAny (model X.prog X.w) A (getAttr (.ref a) f b) Q E s:=by
 obtain ⟨mA,O,r,_,_,_⟩:=Yg I.hok e
 obtain ⟨u,hu,ru⟩:=RelO.some_of (v:=v) (o:=mA f) (by rw [←l];exact r f)
 exact wk4 I.kIn O (c.get f) c.hd n hu (wq4 ru) (h u _ (I.tok _) ru)
theorem qqk {m:Str}{g:Aj}{pl:Sem Bool}{Q:Ag×List Ag→Ab→Prop}(I:Inv X pins σ H s)(e:H a=some (.ins C dx fs))(c:Cls X.K C)(k:Meth X.K C m g)(l:fs.lookup m=none)
  (h:Q (.ref g,[.ref a]) s):wpAny (model X.prog X.w) A (getMethod (.ref a) m pl) Q E s:=by
 obtain ⟨mA,O,r,_,_,_⟩:=Yg I.hok e
 have hn:mA m=none:=RelO.none_of (by rw [←l];exact r m)
 exact wz6 I.kIn O (c.get m) k.at_ k.fn hn h
theorem qyw {y:V}{u:Ag}{Q:Unit→Ab→Prop}(I:Inv X pins σ H s)(e:H a=some (.ins C dx fs))(c:Cls X.K C)(n:NoAttr X.K C f)(hl:fs.length<1000)(ry:RelV y u)
  (h:∀s',Inv X pins σ (upd H a (.ins C dx (vm f y fs))) s'→Q () s'):wpAny (model X.prog X.w) A (setAttr (.ref a) f u) Q E s:=by
 obtain ⟨mA,O,r,wi,_,ho⟩:=Yg I.hok e
 have hz:(fs.map (·.1)).length≤sizeLine:=by rw [ae,sizeLine_eq];lia
 refine Yk I.kIn O c.sa c.po n.taker c.hd wi hz λh' O' sb=>h _ ?_
 have hd:∃o,h'.get? dx=some o:=let ⟨o,_,_,e',_⟩:=O'.ns;⟨o,e'⟩
 refine I.write (x:=a) (e:=dx) (by rw [e];exact True.intro) (.inr ho) (λb q hb z=>(sb.2 b hb).trans z) hd ?_
 refine ⟨by rw [wj O.ne];exact ho,?_,O.ne,O'.obj,_,O'.ns,λg=>?_,λg hg=>?_⟩
 ·have:=Zs f y fs;lia
 ·show RelO ((vm f y fs).lookup g) (if g=f then some u else mA g)
  rw [Zm]
  by_cases q:g=f
  ·rw [aj q,aj q];exact ry
  ·rw [af q,af q];exact r g
 ·by_cases q:g=f
  ·rw [q];exact (Zb f y fs).1
  ·refine (Zb f y fs).2 g (wi g λz=>hg ?_)
   show (if g=f then some u else mA g)=none
   rw [af q];exact z
theorem Inv.made (I:Inv X pins σ H s):Inv X pins σ (upd (upd H s.heap.objs.size (.own (s.heap.objs.size+1))) (s.heap.objs.size+1) (.ins C s.heap.objs.size []))
  { s with heap:=(s.heap.push PySem.W.emptyDict).push (PySem.W.instObj C s.heap.objs.size) }:=by
 have e1:(s.heap.push PySem.W.emptyDict).get? s.heap.objs.size=some PySem.W.emptyDict:=aq s.heap rfl
 have e2:((s.heap.push PySem.W.emptyDict).push (PySem.W.instObj C s.heap.objs.size)).get? (s.heap.objs.size+1)=some (PySem.W.instObj C s.heap.objs.size):=by
  have:=aq (s.heap.push PySem.W.emptyDict) (o:=PySem.W.instObj C s.heap.objs.size) rfl
  rwa [dn] at this
 have e3:(s.heap.push PySem.W.emptyDict).Ns s.heap.objs.size (λ_=>none):=⟨PySem.W.emptyDict,#[],_,e1,rfl,(λe he=>absurd he (by simp)),λ_=>rfl⟩
 have I1:=I.laid (a:=s.heap.objs.size) (o:=.own (s.heap.objs.size+1)) (h':=s.heap.push PySem.W.emptyDict) (t':=s.toks) (λb u q=>ac _ q) (ah _) ⟨_,e1⟩
 refine I1.laid (a:=s.heap.objs.size+1) (o:=.ins C s.heap.objs.size []) (t':=s.toks) (λb u q=>ac _ q) (Nat.le_of_eq (dn _ _)) ?_
 have ne:s.heap.objs.size≠s.heap.objs.size+1:=ar (Nat.lt_succ_self _)
 refine ⟨by rw [wj ne,qh],aB _,ne,e2,λ_=>none,(Heap.Ns1.of_empty e3).at λo q=>ac _ q,λ_=>True.intro,λy hy=>absurd rfl hy⟩
theorem wjh {prog:Ac}{w:Ah}{env:Env}{e:Expr}{f:Str}{pos:Pos}{s:Ab}{Q:Ag→Ab→Prop}(hb:attributeBase e f env (eval e env)=eval e env)
  (h:wpAny (model prog w) A (eval e env) (λo s₁=>wpAny (model prog w) A (getAttr o f true) Q E s₁) E s):wpAny (model prog w) A (eval (.Attribute e f pos) env) Q E s :=
 Attribute_any_ h (by rw [arm_eval_Attribute,hb])
end
def tFld (K:Aa)(ta:TE)(f:Str):TE:=λσ H Q=>ta σ H λx H1=>∃a C dx fs v,x=.ref a∧H1 a=some (.ins C dx fs)∧Cls K C∧NoAttr K C f∧fs.lookup f=some v∧Q v H1
def sFld (K:Aa)(ta tv:TE)(f:Str):TS:=λD σ H=>tv σ H λy H1=>ta σ H1 λx H2=>∃a C dx fs,x=.ref a∧H2 a=some (.ins C dx fs)∧Cls K C∧NoAttr K C f∧fs.length<1000 ∧
 D.nx σ (upd H2 a (.ins C dx (vm f y fs)))
section
variable {X:Cx}{o e value:Expr}{f:Str}{pos pos' tpos:Pos}{ta tv:TE}
theorem xp (he:PE X e ta)(hb:attributeBase e f X.env (eval e X.env)=eval e X.env):PE X (.Attribute e f pos) (tFld X.K ta f):=by
 intro pins s σ H Q I h
 refine wjh hb (thn (he pins s σ H _ I h) λu s1 ⟨x,H1,I1,rx,a,C,dx,fs,v,ex,ea,c,n,l,q⟩=>?_)
 subst ex
 obtain rfl:u=Value.ref a:=rx
 exact qj5 I1 ea c n l λu' s2 I2 ru=>⟨v,H1,I2,ru,q⟩
theorem Q7 (ha:PE X o ta)(hv:PE X value tv)(hs:swapsWith value (some (.Attribute o f pos')) pos.line X.env=pure false):PS X (.Assign [.Attribute o f pos'] value pos) (sFld X.K ta tv f):=by
 intro pins s σ H D I h
 refine plainObj_wpAny_Assign_Attribute (thn (hv pins s σ H _ I h) λu s1 ⟨y,H1,I1,ry,q⟩=>thn (ha pins s1 σ H1 _ I1 q) λov s2 ⟨x,H2,I2,rx,a,C,dx,fs,ex,ea,c,n,l,q2⟩=>?_) hs
 subst ex
 obtain rfl:ov=Value.ref a:=rx
 exact qyw I2 ea c n l ry λs3 I3=>⟨σ,_,I3,q2⟩
end
section
variable {X:Cx}{pins:List (Aj×Obj)}{σ:St}{H:Hp}{s:Ab}{A:Ae}{E:Ag→Ab→Prop}{Q:Ag→Ab→Prop}{c:Ag}{b:Bool}
inductive TyOf (K:Aa) (H:Hp):V→Ag→Prop where
 |non:TyOf K H .non (.type "NoneType")
 |bl (x:Bool):TyOf K H (.bl x) (.type "bool")
 |int (i:Int):TyOf K H (.int i) (.type "int")
 |str (x:Str):TyOf K H (.str x) (.type "str")
 |flt (x:UInt64):TyOf K H (.flt x) (.type "float")
 |lst {a:Aj} {xs:List V} (e:H a=some (.lst xs)):TyOf K H (.ref a) (.type "list")
 |frz {a:Aj} {o:Obj} {xs:List V} (e:H a=some (.frz o (.lst xs))):TyOf K H (.ref a) (.type "list")
 |tup {a:Aj} {xs:List V} (e:H a=some (.tup xs)):TyOf K H (.ref a) (.type "tuple")
 |dK {a:Aj} {kvs:List (Key×V)} (e:H a=some (.dK kvs)):TyOf K H (.ref a) (.type "dict")
 |dT {a:Aj} {kvs:List (List Key×V)} (e:H a=some (.dT kvs)):TyOf K H (.ref a) (.type "dict")
 |ins {a C dx:Aj} {fs:List (Str×V)} (e:H a=some (.ins C dx fs)) (cl:Cls K C) (ha:PySem.W.findIn K (.ref C) "__class__" = some (some (.builtin "object.__class__")))
   (hn:PySem.W.specialIn K (.builtin "object.__class__") "__get__" = some (some (.builtin "getset_descriptor.__get__"))) (htk:PySem.W.takesIn K (.builtin "object.__class__")=some true)
   (hm:PySem.W.mroIn K C (.type "object")=some true):TyOf K H (.ref a) (.ref C)
theorem wwx {x:V}{u t:Ag}(I:Inv X pins σ H s)(rx:RelV x u)(ty:TyOf X.K H x t)(e:PySem.W.kitOne X.K t c=some b)(h:∀tk,Q (.bool b) { s with toks:=tk }) :
  wpAny (model X.prog X.w) A (call (.builtin "isinstance") [u,c]) Q E s:=by
 cases ty with
 |non=>cases (show u=Value.none from rx);exact bp PySem.W.kitx_none I.kIn True.intro e (λz=>nomatch z) h
 |bl y=>cases (show u=Value.bool y from rx);exact bp PySem.W.kitx_bool I.kIn True.intro e (λz=>nomatch z) h
 |int i=>obtain ⟨t,q⟩:=(show ∃t,u=Value.int i t from rx);cases q;exact bp PySem.W.kitx_int I.kIn True.intro e (λz=>nomatch z) h
 |str y=>obtain ⟨t,q⟩:=(show ∃t,u=Value.str y t from rx);cases q;exact bp PySem.W.kitx_str I.kIn True.intro e (λz=>nomatch z) h
 |flt y=>obtain ⟨t,q⟩:=(show ∃t,u=Value.float y t from rx);cases q;exact bp PySem.W.kitx_float I.kIn True.intro e (λz=>nomatch z) h
 |@lst a xs ea =>
  cases (show u=Value.ref a from rx)
  obtain ⟨_,_,n,_,h1⟩:=(show ObjOk X.prog X.w H s.heap a (.lst xs) from I.hok a _ ea)
  exact bp PySem.W.kitx_list I.kIn ⟨_,h1,rfl⟩ e (λz=>nomatch z) h
 |@frz a ob xs ea =>
  cases (show u=Value.ref a from rx)
  obtain ⟨_,_,_,n,_,h1⟩:=(show ObjOk X.prog X.w H s.heap a (.frz ob (.lst xs)) from I.hok a _ ea)
  exact bp PySem.W.kitx_list I.kIn ⟨_,h1,rfl⟩ e (λz=>nomatch z) h
 |@tup a xs ea =>
  cases (show u=Value.ref a from rx)
  obtain ⟨_,_,_,p⟩:=(show ObjOk X.prog X.w H s.heap a (.tup xs) from I.hok a _ ea)
  obtain ⟨o,h1,h2,_⟩:=p
  exact bp PySem.W.kitx_tuple I.kIn ⟨o,h1,h2⟩ e (λz=>nomatch z) h
 |@dK a kvs ea =>
  cases (show u=Value.ref a from rx)
  obtain ⟨_,_,vs,_,p⟩:=(show ObjOk X.prog X.w H s.heap a (.dK kvs) from I.hok a _ ea)
  obtain ⟨o,es,ep,h1,h2,_⟩:=p
  exact bp PySem.W.kitx_dict I.kIn ⟨o,h1,h2.1⟩ e (λz=>nomatch z) h
 |@dT a kvs ea =>
  cases (show u=Value.ref a from rx)
  obtain ⟨_,_,xs,_,o,es,ep,h1,h2,_⟩:=(show ObjOk X.prog X.w H s.heap a (.dT kvs) from I.hok a _ ea)
  exact bp PySem.W.kitx_dict I.kIn ⟨o,h1,h2.1⟩ e (λz=>nomatch z) h
 |@ins a C dx fs ea cl ha hn htk hm =>
  cases (show u=Value.ref a from rx)
  obtain ⟨mA,O,_⟩:=Yg I.hok ea
  obtain ⟨od,J,_⟩:=O.look
  exact bp (PySem.W.kitx_own (cl.get _) cl.hd ha hn htk hm) I.kIn J e (λz=>nomatch z) h
end
structure Room (k:Nat)(A:Ae):Prop where
 hd:A.handled=none
 dp:A.depth+3*k+5<recursionLimit
 un:A.units+16*k+200<cLine
theorem Room.mono {j k:Nat}{A:Ae}(r:Room k A)(h:j≤k):Room j A:=⟨r.hd,by have:=r.dp;lia,by have:=r.un;lia⟩
theorem Room.deeper {k:Nat}{A:Ae}(r:Room (k+1) A)(env:Env):Room k (A.deeper env) :=
 ⟨r.hd,by have:=r.dp;show A.depth+1+3*k+5<_;lia,by have:=r.un;show A.units+3+16*k+200<_;lia⟩
theorem qj8 {A:Ae}{C:Aj}{us:List Ag}{kw:List (Str×Ag)}:(A.under (.builtin "type.__call__" ⟨.ref C::us,kw⟩)).depth=A.depth+1:=by
 first | rfl | simp [Around.under,Code.weight,Code.isCreation,Code.isGuard,Code.isCaller,Code.frames,Code.isFrame,guardIds]
theorem quu {A:Ae}{C:Aj}{us:List Ag}{kw:List (Str×Ag)}:(A.under (.builtin "type.__call__" ⟨.ref C::us,kw⟩)).units=A.units+1:=by
 first | rfl | simp [Around.under,Code.cUnits,Code.frames,Code.isFrame]
theorem Room.make {k:Nat}{A:Ae}(r:Room (k+1) A)(C:Aj)(us:List Ag)(kw:List (Str×Ag)):Room k (A.under (.builtin "type.__call__" ⟨.ref C::us,kw⟩)) :=
 ⟨r.hd,by have:=r.dp;rw [qj8];lia,by have:=r.un;rw [quu];lia⟩
theorem Room.depth {k:Nat}{A:Ae}(r:Room k A):A.depth<recursionLimit:=by have:=r.dp;lia
theorem Room.units {k:Nat}{A:Ae}(r:Room k A):A.units+64<cLine:=by have:=r.un;lia
theorem Room.units0 {k:Nat}{A:Ae}(r:Room k A):A.units<cLine:=by have:=r.un;lia
def j3:TA:=λ_ H Q=>Q [] H
def z9 (ta:TE)(tr:TA):TA:=λσ H Q=>ta σ H λx H1=>tr σ H1 λxs H2=>Q (x::xs) H2
section
variable {X:Cx}{e:Expr}{es:List Expr}{te:TE}{t:TA}{pos:Pos}
theorem qk:PA X [] j3:=λ_ _ _ _ H Q I h=>dq ⟨[],H,I,.nil,h⟩
theorem xv (ha:PE X e te)(hr:PA X es t)(hs:starEach (e::es) X.env=(false,eval e X.env)::starEach es X.env:=by rfl):PA X (e::es) (z9 te t):=by
 intro pos pins s σ H Q I h
 rw [hs]
 show wpAny _ _ (spliced ((false,eval e X.env)::backTo pos (starEach es X.env))) _ _ s
 refine cA (thn (ha pins s σ H _ I h) λu s1 ⟨x,H1,I1,r1,q1⟩=>?_)
 exact thn (hr pos pins s1 σ H1 _ I1 q1) λus s2 ⟨xs,H2,I2,r2,q2⟩=>⟨x::xs,H2,I2,.cons r1 r2,q2⟩
def tTup (t:TA):TE:=λσ H Q=>t σ H λxs H1=>xs.length≤sizeLine∧∀p,H1 p=none→Q (.ref p) (upd H1 p (.tup xs))
def tLst (t:TA):TE:=λσ H Q=>t σ H λxs H1=>xs.length≤sizeLine∧∀p,H1 p=none→Q (.ref p) (upd H1 p (.lst xs))
theorem vw {x1}(h:PA X es t):PE X (.Tuple es x1 pos) (tTup t):=by
 intro pins s σ H Q I hq
 refine wpAny_Tuple_spliced (thn (h pos pins s σ H _ I hq) λus s1 ⟨xs,H1,I1,r,z,q⟩=>⟨by rw [←r.length];exact z,?_⟩)
 have hf:H1 s1.heap.objs.size=none:=I1.hok.fresh (ah _)
 refine ⟨.ref s1.heap.objs.size,upd H1 s1.heap.objs.size (.tup xs),I1.laid (t':=s1.toks) (λb u e=>ac _ e) (ah _) ?_,rfl,q _ hf⟩
 exact ⟨z,us,r,⟨_,aq _ rfl,rfl,_,rfl⟩⟩
theorem yw (h:PA X es t):PE X (.List es pos) (tLst t):=by
 intro pins s σ H Q I hq
 refine wpAny_List_spliced (thn (h pos pins s σ H _ I hq) λus s1 ⟨xs,H1,I1,r,z,q⟩=>⟨by rw [←r.length];exact z,?_⟩)
 have hf:H1 s1.heap.objs.size=none:=I1.hok.fresh (ah _)
 refine ⟨.ref s1.heap.objs.size,upd H1 s1.heap.objs.size (.lst xs),I1.laid (t':=s1.toks) (λb u e=>ac _ e) (ah _) ?_,rfl,q _ hf⟩
 exact ⟨z,us,0,r,aq _ rfl⟩
end
abbrev Sp:=List V→Hp→VK→XK→Prop
abbrev CXT:=List Env→Hp→Ab→XK→Ag→Ab→Prop
structure Env0 (P:Ac)(w:Ah)(K:Aa)(mg:Str→Option Ag)(base:Heap)(A:Ae)(outer:List Env)(s:Ab)(H:Hp):Prop where
 frames:A.frames=some outer
 mod:Mod K mg base
 bs:∀b o,base.get? b=some o→s.heap.get? b=some o∧H b=none
 bsz:base.objs.size≤s.heap.objs.size
 funs:s.heap.FunFrames base outer
 frf:∀b∈frs outer,H b=none
 hok:HOk P w H s.heap
 bare:AllBare s.gens
def CE (outer:List Env)(P:Ac)(w:Ah)(H:Hp)(s:Ab)(Q:VK)(u:Ag)(s':Ab):Prop :=
 ∃v H',s'.os=s.os∧AllBare s'.gens∧Un (frs outer) [] H H' s.heap s'.heap∧HOk P w H' s'.heap∧RelV v u∧Q v H'
def CR (CX:CXT)(outer:List Env)(P:Ac)(w:Ah)(H:Hp)(s:Ab)(Q:VK)(E:XK)(r:Result)(s':Ab):Prop :=
 match r with
 |.ok (.ret u)=>CE outer P w H s Q u s'
 |.ok _=>False
 |.error e=>CX outer H s E e s'
structure FnOk (P:Ac)(w:Ah)(K:Aa)(mg:Str→Option Ag)(base:Heap)(CX:CXT)(k:Nat)(f:Aj)(fd:Ad)(ps:List Str)(sp:Sp):Prop where
 len:∀vs H Q E,sp vs H Q E→vs.length=ps.length
 run:∀(A:Ae) (outer:List Env) (s:Ab) (H:Hp) (args:Args) (us:List Ag) (vs:List V) (Q:VK) (E:XK),Room k A→Env0 P w K mg base A outer s H→BindsTo s fd args (ps.zip us)→Vals vs us→sp vs H Q E →
  codeAny (model P w) A (.call (.ref f) args) (CR CX outer P w H s Q E) s
theorem Env0.make {P:Ac}{w:Ah}{K:Aa}{mg:Str→Option Ag}{base:Heap}{A:Ae}{outer:List Env}{s:Ab}{H:Hp}(e:Env0 P w K mg base A outer s H)(C:Aj)(us:List Ag)(kw:List (Str×Ag)) :
  Env0 P w K mg base (A.under (.builtin "type.__call__" ⟨.ref C::us,kw⟩)) outer s H:=⟨by first | exact e.frames | (simpa [Around.under,Code.envs,Code.isFrame,pushEnvs] using e.frames),e.mod,e.bs,e.bsz,e.funs,e.frf,e.hok,e.bare⟩
section
variable {X:Cx}{pins:List (Aj×Obj)}{σ:St}{H:Hp}{s s':Ab}
theorem Inv.env0 (I:Inv X pins σ H s):Env0 X.prog X.w X.K X.mg X.base X.A X.stack s H :=
 ⟨I.ok.frames,I.ok.mod,I.bs,bB I.ok.bsz I.sz,I.stack,I.stkFree,I.hok,I.bare⟩
theorem Inv.after {Q:VK}{u:Ag}(I:Inv X pins σ H s)(h:CE X.stack X.prog X.w H s Q u s'):EP X pins σ Q u s':=by
 obtain ⟨v,H',os,bare,un,hok,r,q⟩:=h
 obtain ⟨hh,g,d,t,os'⟩:=s'
 obtain rfl:os'=s.os:=os
 exact ⟨v,H',I.call (h':=hh) (g':=g) (d':=d) (t':=t) (ch:=[]) un hok bare (λb z=>absurd z (by simp)),r,q⟩
end
def Binds (K:Aa)(fd:Ad)(ps:List Str)(ds:List Ag):Prop :=
 ∀(s:Ab) (us:List Ag),K.In s.heap→(us++ds).length=ps.length→BindsTo s fd ⟨us,[]⟩ (ps.zip (us++ds))
theorem Binds.all {K:Aa}{fd:Ad}{ps:List Str}(h:∀us:List Ag,us.length=ps.length→bindArgs fd ⟨us,[]⟩=pure (ps.zip us)):Binds K fd ps []:=λs us _ hl=>by
 rw [cg] at hl ⊢
 exact .of_eq (h us hl)
section
variable {X:Cx}{CX:CXT}{k:Nat}{f C:Aj}{fd:Ad}{ps:List Str}{sp:Sp}{dvs:List V}{ds:List Ag}{E:XK}{x m:Str}{p pos apos:Pos}{e o:Expr}{es:List Expr}{ta:TE}{t:TA}
structure Mk (K:Aa)(C f:Aj):Prop where
 makes:PySem.W.makesIn K C=true
 init:PySem.W.findIn K (.ref C) "__init__" = some (some (.ref f))
 fn:PySem.W.isFn K (.ref f)=true
 kp:PySem.W.keepIn K (.ref C)=true
end
section
variable {X:Cx}{CX:CXT}{k:Nat}{f C:Aj}{fd:Ad}{ps ks:List Str}{sp:Sp}{E:XK}{x m:Str}{p pos apos kpos:Pos}{e o:Expr}{es:List Expr}{kws:List Keyword}{te ta:TE}{t tk:TA}{nm:Option Str}
structure KBinds (K:Aa)(fd:Ad)(ps ks:List Str)(g:List Ag→List Ag→List Ag)(gV:List V→List V→List V):Prop where
 to:∀(s:Ab) (us ws:List Ag),K.In s.heap→(g us ws).length=ps.length→BindsTo s fd ⟨us,ks.zip ws⟩ (ps.zip (g us ws))
 rel:∀ {vs:List V} {us:List Ag} {zs:List V} {ws:List Ag},Vals vs us→Vals zs ws→Vals (gV vs zs) (g us ws)
variable {g:List Ag→List Ag→List Ag}{gV:List V→List V→List V}
end
structure FnScope (N P:List Str)(sc:Scope):Prop where
 kind:sc.kind=.function
 co:sc.isCoroutine=false
 gen:sc.isGenerator=false
 nd:N.Nodup
 pre:N.take P.length=P
 par:∀x∈P,sc.names.lookup x=some .local∨sc.names.lookup x=some .cell
 nofree:∀y∈sc.names,y.2≠.free
theorem qxj {kindOf:Str→Option NameKind}{x:Str}:∀ {binds:List (Str×Ag)} {m:Str→Option Ag},(∀v,(x,v)∉binds)→bindL kindOf binds m x=m x
 |[],_,_=>rfl
 |(n,v)::r,m,h=>by
  unfold bindL
  rw [qxj λw hw=>h w (aE _ hw)]
  split
  ·have:x≠n:=by rintro rfl;exact h v aJ
   simp [this]
  ·rfl
theorem qxd {kindOf:Str→Option NameKind}{x:Str}:∀ {binds:List (Str×Ag)} {m:Str→Option Ag},(∀v,(x,v)∉binds)→bindC kindOf binds m x=m x
 |[],_,_=>rfl
 |(n,v)::r,m,h=>by
  unfold bindC
  rw [qxd λw hw=>h w (aE _ hw)]
  split
  ·rfl
  ·have:x≠n:=by rintro rfl;exact h v aJ
   simp [this]
theorem qxh {kindOf:Str→Option NameKind}{x:Str}{v:Ag}:∀ {P:List Str} {vs:List Ag} {i:Nat} {m:Str→Option Ag},P.Nodup→P[i]?=some x→vs[i]?=some v→kindOf x=some .local →
  bindL kindOf (P.zip vs) m x=some v
 |[],_,_,_,_,h,_,_=>by simp at h
 |_::_,[],_,_,_,_,h,_=>by simp at h
 |p::P,w::vs,0,m,nd,h1,h2,hk=>by
  simp at h1 h2;subst h1;subst h2
  show bindL kindOf ((p,w)::P.zip vs) m p=_
  unfold bindL
  rw [qxj λv hv=>(aN.mp nd).1 (fj hv).1,aj hk]
  simp
 |p::P,w::vs,i+1,m,nd,h1,h2,hk=>by
  show bindL kindOf ((p,w)::P.zip vs) m x=_
  unfold bindL
  exact qxh (i:=i) (aN.mp nd).2 (by simpa using h1) (by simpa using h2) hk
theorem qw8 {kindOf:Str→Option NameKind}{x:Str}{v:Ag}:∀ {P:List Str} {vs:List Ag} {i:Nat} {m:Str→Option Ag},P.Nodup→P[i]?=some x→vs[i]?=some v→kindOf x≠some .local →
  bindC kindOf (P.zip vs) m x=some v
 |[],_,_,_,_,h,_,_=>by simp at h
 |_::_,[],_,_,_,_,h,_=>by simp at h
 |p::P,w::vs,0,m,nd,h1,h2,hk=>by
  simp at h1 h2;subst h1;subst h2
  show bindC kindOf ((p,w)::P.zip vs) m p=_
  unfold bindC
  rw [qxd λv hv=>(aN.mp nd).1 (fj hv).1,af hk]
  simp
 |p::P,w::vs,i+1,m,nd,h1,h2,hk=>by
  show bindC kindOf ((p,w)::P.zip vs) m x=_
  unfold bindC
  exact qw8 (i:=i) (aN.mp nd).2 (by simpa using h1) (by simpa using h2) hk
def W6 (N:List Str)(vs:List V):St:=vs.map some++List.replicate (N.length-vs.length) none
def qwu (CX:CXT)(P:Ac)(w:Ah)(K:Aa)(mg:Str→Option Ag)(base:Heap)(N:List Str)(qual:Str)(scope:Scope)(f:Aj)(cd:Ag)(A:Ae)(outer:List Env)(s:Ab)(H:Hp)(E:XK):Cx where
 prog:=P
 w:=w
 K:=K
 mg:=mg
 base:=base
 A:=A.deeper (envOfC qual scope s.heap.objs.size f cd)
 N:=N
 s₀:=s
 H₀:=H
 env:=envOfC qual scope s.heap.objs.size f cd
 outer:=outer
 stack:=envOfC qual scope s.heap.objs.size f cd::outer
 ex:=[]
 calm:=true
 fn:=λ_=>true
 pn:=[]
 xe:=λe s'=>wpAny (model P w) (A.deeper (envOfC qual scope s.heap.objs.size f cd)) (leaving (envOfC qual scope s.heap.objs.size f cd) e) (λ_ s''=>CX outer H s E e s'') (λe' s''=>CX outer H s E e' s'') s'
theorem qjb {sc:Scope}{n:Nat}{x:Str}(h:sc.names.lookup x=some .cell):∃c,(cellsFrom n sc.names []).lookup x=some c:=by
 have q:=PySem.W.cellsFrom_some sc.names n [] (.inl h)
 exact be.mp q
theorem wq5 {CX:CXT}{P:Ac}{w:Ah}{K:Aa}{mg:Str→Option Ag}{base:Heap}{N ps:List Str}{qual:Str}{scope:Scope}{f:Aj}{cd:Ag}{A:Ae}{outer:List Env}{s s1:Ab}{H:Hp}{E:XK}{us:List Ag}{vs:List V}
  (S:FnScope N ps scope) (hd:A.handled=none) (e0:Env0 P w K mg base A outer s H) (hl:vs.length=ps.length) (r:Vals vs us)
  (x:InCallC s s.heap.objs.size (bindL (envOfC qual scope s.heap.objs.size f cd).kindOf (ps.zip us) λ_=>none) (cellsFrom (s.heap.objs.size+1) scope.names []) (bindC (envOfC qual scope s.heap.objs.size f cd).kindOf (ps.zip us) λ_=>none) s1) :
  Inv (qwu CX P w K mg base N qual scope f cd A outer s H E) [] (W6 N vs) H s1:=by
 have hpl:ps.length≤N.length:=by have:=bI List.length S.pre;rw [bG] at this;lia
 obtain ⟨h1,tk,rfl,hk⟩:=x.done
 have noA:∀b:Aj,b∉(qwu CX P w K mg base N qual scope f cd A outer s H E).ex:=λb z=>absurd (show b∈([]:List Aj) from z) (by simp)
 refine ⟨⟨e0.mod,S.kind,rfl,rfl,ah _,λy z c h1 h2=>?_,λy hy=>?_,λy c _ h=>?_,λ_=>hd,Around.frames_deeper e0.frames,.inr ⟨rfl,rfl⟩,λb z=>absurd z (noA b),e0.bs,e0.bsz,λb _ _=>noA b,λb z=>absurd z (noA b),e0.funs,e0.frf⟩,
  rfl,e0.bare,Un.kept hk,⟨_,x.toInCall.ns,λi y v h1 h2 h3=>?_⟩,λy c h=>⟨_,x.cell y c h⟩,e0.hok.fresh (ah _),λy c h=>?_,λp hp=>absurd (show p∈([]:List (Aj×Obj)) from hp) (by simp),e0.hok.kept hk,?_⟩
 ·exact name_of_addr x.apart (cw h1) (cw h2)
 ·have hy:scope.names.lookup y=some .cell∨scope.names.lookup y=some .free:=hy
  rcases hy with hy|hy
  ·exact qjb hy
  ·exact absurd rfl (S.nofree _ (cw hy))
 ·exact bC (x.above y c (cw h))
 ·have hi:i<vs.length:=by
   unfold W6 at h2
   by_cases hi:i<vs.length
   ·exact hi
   ·rw [bX (by simpa using hi)] at h2
    rw [List.getElem?_replicate] at h2
    split at h2 <;> cases h2
  have ha:vs[i]?=some v:=by
   unfold W6 at h2
   rw [cU (by simpa using hi),aK] at h2
   cases e:vs[i]? with
   |none=>rw [e] at h2;cases h2
   |some a=>rw [e] at h2;cases h2;rfl
  obtain ⟨u,hu,rv⟩:=r.get ha
  have hp:ps[i]?=some y:=by
   rw [←S.pre,List.getElem?_take_of_lt (by lia)];exact h1
  have ndP:ps.Nodup:=by rw [←S.pre];exact S.nd.sublist (List.take_sublist _ _)
  refine ⟨u,rv,?_⟩
  rcases S.par y (aX hp) with k|k
  ·exact .inl ⟨k,qxh ndP hp hu k⟩
  ·obtain ⟨c,e⟩:=qjb (n:=s.heap.objs.size+1) k
   refine .inr ⟨.inl k,c,e,?_⟩
   have q:=x.cell y c e
   rw [qw8 ndP hp hu (by show scope.names.lookup y≠_;rw [k];decide)] at q
   exact q
 ·exact e0.hok.fresh (bC (x.above y c (cw h)))
 ·unfold W6
  show _=N.length
  rw [aV,ae,List.length_replicate]
  lia
theorem fn_of {CX:CXT}{P:Ac}{w:Ah}{K:Aa}{mg:Str→Option Ag}{base:Heap}{k:Nat}{f:Aj}{name qual:Str}{params:Arguments}{body:List Stmt}{scope:Scope}{dV kV doc pm cdv ct oc:Ag}{an od:Option Aj}
  {osl:Array (Option Ag)} {N ps:List Str} {sp:Sp} (lk:K.lookup f=some ⟨oc,od,.func (PySem.W.fnOf name qual params body scope dV kV doc pm an cdv ct),osl⟩) (hcd:PySem.W.codeIn K cdv qual=true) (S:FnScope N ps scope)
  (len:∀vs H Q E,sp vs H Q E→vs.length=ps.length)
  (hbody:∀(A:Ae) (outer:List Env) (s:Ab) (H:Hp) (vs:List V) (Q:VK) (E:XK),Room k (A.deeper (envOfC qual scope s.heap.objs.size f cdv))→sp vs H Q E →
   ∃t,PSs (qwu CX P w K mg base N qual scope f cdv A outer s H E) body t∧t { nx:=λ_ H'=>Q .non H',rt:=Q } (W6 N vs) H) :
  FnOk P w K mg base CX (k+1) f (PySem.W.fnOf name qual params body scope dV kV doc pm an cdv ct) ps sp:=by
 refine ⟨len,λA outer s H args us vs Q E hr e0 hb r hsp=>?_⟩
 have hl:=len _ _ _ _ hsp
 have KX:K.In s.heap:=e0.mod.kin.keeps λb o e=>(e0.bs b o e).1
 have lim:s.heap.NoLimit:=e0.mod.nolimit.keeps λb o e=>(e0.bs b o e).1
 have hkind:∀y∈ps.zip us,scope.names.lookup y.1=some .local∨(scope.names.lookup y.1=some .cell∧((cellsFrom (s.heap.objs.size+1) scope.names []).lookup y.1).isSome=true):=λ⟨n,v⟩ hy=>by
  rcases S.par n (fj hy).1 with q|q
  ·exact .inl q
  ·exact .inr ⟨q,PySem.W.cellsFrom_some _ _ _ (.inl q)⟩
 refine codeAny_call_function hr.depth (KX _ _ lk) rfl S.co S.gen rfl (PySem.W.codeRec_of KX hcd) (hb _ _ _ _ ?_)
 refine wpAny_newFunctionEnv_cells S.kind hkind λenv he s1 x=>?_
 subst he
 refine ⟨lim.keeps x.toInCall.keep,codeAny_func ?_⟩
 obtain ⟨t,ht,hq⟩:=hbody A outer s H vs Q E (hr.deeper _) hsp
 have I:Inv (qwu CX P w K mg base N qual scope f cdv A outer s H E) [] (W6 N vs) H s1:=wq5 S hr.hd e0 hl r x
 refine aR (ht [] s1 (W6 N vs) H _ I hq) (λfl s' hs=>?_) λe s' hs=>hs
 have fin:∀ {σ':St} {H':Hp} {v:V} {u:Ag},Inv (qwu CX P w K mg base N qual scope f cdv A outer s H E) [] σ' H' s'→RelV v u→Q v H'→CE outer P w H s Q u s' :=
  λ{σ' H' v u} J rv q=>⟨v,H',J.os,J.bare,J.base,J.hok,rv,q⟩
 cases fl with
 |ret u =>
  obtain ⟨v,σ',H',J,rv,q⟩:=hs
  exact fin J rv q
 |next =>
  obtain ⟨σ',H',J,q⟩:=hs
  exact fin (v:=V.non) (u:=Value.none) J rfl q
 |brk =>
  obtain ⟨_,_,_,q⟩:=hs
  exact False.elim q
 |cont =>
  obtain ⟨_,_,_,q⟩:=hs
  exact False.elim q
section
variable {X:Cx}{x:Str}{p pos:Pos}{e:Expr}{es:List Expr}{t:TA}{id T:String}{r:List V→Hp→VK→Prop}
def tCB (r:List V→Hp→VK→Prop)(t:TA):TE:=λσ H Q=>t σ H λvs H1=>r vs H1 Q
theorem xq (hc:jx X (.builtin id) r)(hg:Gl X x)(hm:X.mg x=none)(hv:bootBuiltins x=some (.builtin id))(ha:PA X (e::es) t)(hn:x ≠ "__name__" := by decide)(hdb:(x==("__debug__" : Str))=false:=by decide)
  (he:starEach (e::es) X.env=(false,eval e X.env)::starEach es X.env:=by rfl) (hpl:(backTo pos (starEach es X.env)).any (·.1)=false:=by rfl):PE X (.Call (.Name x p) (e::es) [] pos) (tCB r t):=by
 intro pins s σ H Q I h
 refine cB (Js I hg hm hv ?_ hn hdb)
 exact PyProof.Rows.callWith_builtin1 (thn (ha pos pins s σ H _ I h) λus s1 ⟨vs,H1,I1,r1,q1⟩=>hc pins s1 σ H1 vs us Q I1 r1 q1) he hpl
theorem vb (hc:jx X (.type T) r)(hg:Gl X x)(hm:X.mg x=none)(hv:bootBuiltins x=some (.type T))(ha:PA X (e::es) t)(hn:x ≠ "__name__" := by decide)(hdb:(x==("__debug__" : Str))=false:=by decide)
  (he:starEach (e::es) X.env=(false,eval e X.env)::starEach es X.env:=by rfl) (hpl:(backTo pos (starEach es X.env)).any (·.1)=false:=by rfl):PE X (.Call (.Name x p) (e::es) [] pos) (tCB r t):=by
 intro pins s σ H Q I h
 refine cB (Js I hg hm hv ?_ hn hdb)
 exact cO (thn (ha pos pins s σ H _ I h) λus s1 ⟨vs,H1,I1,r1,q1⟩=>hc pins s1 σ H1 vs us Q I1 r1 q1) he hpl
end
end L2
namespace HT
open PySem PyProof.Rows
section
open PySem.SeqAt
open PySem.AutoSeq1 (wpAny_loadPart')
open PySem.MeetsSeq PySem.MeetsSeq2 PySem.MeetsSeq3
end
section
variable {prog:Ac}{w:Ah}{A:Ae}{E:Ag→Ab→Prop}{s:Ab}
def sIx (n d:Nat):Option Int→Nat
 |none=>d
 |some v=>if v<0 then (v+(n:Int)).toNat else min v.toNat n
theorem sIx_le (n d:Nat)(hd:d≤n)(o:Option Int):sIx n d o≤n:=by
 cases o with
 |none=>exact hd
 |some v =>
  show (if v<0 then (v+(n:Int)).toNat else min v.toNat n)≤n
  by_cases hv:v<0
  ·rw [aj hv];lia
  ·rw [af hv];exact Nat.min_le_right _ _
theorem qu4 (v:Int)(n d:Nat):(if v<0 then max (v+(n:Int)) 0 else min v (n:Int))=((sIx n d (some v):Nat):Int):=by
 show (if v<0 then max (v+(n:Int)) 0 else min v (n:Int))=(((if v<0 then (v+(n:Int)).toNat else min v.toNat n):Nat):Int)
 by_cases hv:v<0
 ·simp only [aj hv];lia
 ·simp only [af hv];lia
theorem qyx (lo hi:Option Int)(n:Nat):Builtin.Slice.sliceAdjust lo hi 1 (n:Int)=(((sIx n 0 lo:Nat):Int),((sIx n n hi:Nat):Int)):=by
 have h1:¬ ((1:Int)<0):=by lia
 unfold Builtin.Slice.sliceAdjust
 simp only [h1,dL]
 refine Prod.ext ?_ ?_
 ·cases lo with
  |none=>rfl
  |some v=>exact qu4 v n 0
 ·cases hi with
  |none=>rfl
  |some v=>exact qu4 v n n
theorem qyh (i j:Nat):Builtin.Slice.slicePlaces (i:Int) (j:Int) 1=j-i:=by
 unfold Builtin.Slice.slicePlaces
 have h1:(1:Int)>0:=by lia
 simp only [h1,if_true,Int.ediv_one]
 split <;> lia
theorem Yr {v:Ag}{o:Option Int}{Q:Option Int→Ab→Prop}(p:IsPart v o)(h:Q o s):wpAny (model prog w) A (Builtin.Slice.slicePartIndex v) Q E s:=by
 cases p with
 |none=>exact slicePart_none h
 |int i t=>exact slicePart_int h
theorem yy {sl:Aj}{vl vu:Ag}{lo hi:Option Int}{n:Nat}{Q:Int×Int×Nat→Ab→Prop}(hs:s.heap.IsSliceOf sl vl vu .none)(pl:IsPart vl lo)(pu:IsPart vu hi)
  (h:Q (((sIx n 0 lo:Nat):Int),1,sIx n n hi-sIx n 0 lo) s):wpAny (model prog w) A (Builtin.Slice.sliceApplied (.ref sl) (pure (n:Int))) Q E s:=by
 obtain ⟨os,hos,hcs,hds⟩:=id hs
 unfold Builtin.Slice.sliceApplied Builtin.Slice.sliceFields
 refine aa (aa (wpAny_field hos hds (x:=vl) rfl (aa (wpAny_field hos hds (x:=vu) rfl (aa (wpAny_field hos hds (x:=.none) rfl (ag ?_)))))))
 refine aa (slicePart_none ?_)
 show wpAny _ _ (if ((1:Int)==0)=true then _ else _) _ _ s
 rw [af (by decide)]
 refine aa (Yr pl (aa (Yr pu (aa (ag ?_)))))
 show wpAny _ _ (match Builtin.Slice.sliceAdjust lo hi 1 (n:Int) with|(lo,hi)=>pure (lo,(1:Int),Builtin.Slice.slicePlaces lo hi 1)) _ _ s
 rw [qyx lo hi n]
 show wpAny _ _ (pure (((sIx n 0 lo:Nat):Int),(1:Int),Builtin.Slice.slicePlaces ((sIx n 0 lo:Nat):Int) ((sIx n n hi:Nat):Int) 1)) _ _ s
 rw [qyh]
 exact ag h
theorem wzt (xs:Array Ag)(i k:Nat):((List.range k).filterMap λ(m:Nat)=>xs[((i:Int)+(m:Int)*1).toNat]?).toArray=((xs.toList.drop i).take k).toArray:=by
 have e:(λ(m:Nat)=>xs[((i:Int)+(m:Int)*1).toNat]?)=λm=>xs[i+m]?:=by
  funext m
  have:((i:Int)+(m:Int)*1).toNat=i+m:=by lia
  rw [this]
 rw [e]
 have:=pick_run xs i k
 rw [List.filterMap_map] at this
 have e2:((λx=>xs[x]?)∘λx=>i+x)=λm=>xs[i+m]?:=rfl
 rw [e2] at this
 rw [this]
theorem getItem_tuple_cut {t sl:Aj}{items:Array Ag}{vl vu:Ag}{lo hi:Option Int}{Q:Ag→Ab→Prop}(ht:IsTup s.heap t items)(hs:s.heap.IsSliceOf sl vl vu .none)(pl:IsPart vl lo)(pu:IsPart vu hi)
  (hw:¬ (sIx items.size 0 lo=0∧sIx items.size items.size hi=items.size))
  (h:Q (.ref s.heap.objs.size) { s with heap:=s.heap.push { cls:=.type "tuple",data:=.seq ((items.toList.drop (sIx items.size 0 lo)).take (sIx items.size items.size hi-sIx items.size 0 lo)).toArray } })
  (hsz:items.size≤sizeLine):wpAny (model prog w) A (getItem (.ref t) (.ref sl)) Q E s:=by
 have htake:sizeOk (.seq ((items.toList.drop (sIx items.size 0 lo)).take (sIx items.size items.size hi-sIx items.size 0 lo)).toArray):=by
  show ((items.toList.drop (sIx items.size 0 lo)).take (sIx items.size items.size hi-sIx items.size 0 lo)).toArray.size≤sizeLine
  rw [aw,bG,List.length_drop,aW]
  lia
 have hj:sIx items.size items.size hi≤items.size:=sIx_le _ _ (ah _) hi
 obtain ⟨os,hos,hcs,hds⟩:=id hs
 have hTs:s.TypeIs (.ref sl) "slice" := ⟨os,hos,hcs⟩
 unfold getItem
 try with_reducible refine bH ?_
 first | refine aa (ag ?_) | skip
 refine aa (wpAny_sequenceKey ht.typeIs (by decide) ?_)
 refine aa (bP (name:=Str.ofString "__getitem__") ht.typeIs bg
  (cx bg ht.typeIs entry_tuple_getitem ?_ (args_tuple_getitem _ _)))
 show wpAny _ _ (Builtin.Tuple.tupleItemsOf (.ref t) >>= _) _ _ s
 refine aa (tupleItemsOf_ ht ?_)
 refine aa (ff hTs ?_)
 rw [aj (by decide)]
 refine aa (yy hs pl pu ?_)
 have hno:¬ ((((sIx items.size 0 lo:Nat):Int)==0&&(1:Int)==1&&(sIx items.size items.size hi-sIx items.size 0 lo)==items.size)=true):=by
  intro q
  rw [bc,bc] at q
  have q1:((sIx items.size 0 lo:Nat):Int)=0:=eq_of_beq q.1.1
  have q2:sIx items.size items.size hi-sIx items.size 0 lo=items.size:=eq_of_beq q.2
  exact hw ⟨by lia,by lia⟩
 show wpAny _ _ (if (((sIx items.size 0 lo:Nat):Int)==0&&(1:Int)==1&&(sIx items.size items.size hi-sIx items.size 0 lo)==items.size)=true then _ else _) _ _ s
 rw [af hno,wzt]
 first
  |exact aa (m:=Builtin.Tuple.tupleExact _) (bi (ag ⟨_,rfl,ag h⟩) htake)
  |exact aa (m:=Builtin.Tuple.tupleExact _) (bi (aa (ag (ag ⟨_,rfl,ag h⟩))) htake)
  |exact aa (aa (m:=Builtin.Tuple.tupleExact _) (bi (ag (ag ⟨_,rfl,ag h⟩)) htake))
  |exact aa (aa (m:=Builtin.Tuple.tupleExact _) (bi (ag ⟨_,rfl,ag h⟩) htake))
end
end HT
namespace L2
open PySem PySem.Spec PyProof.Rows
abbrev TO:=St→Hp→(Option Int→Hp→Prop)→Prop
def PO (X:Cx)(e:Option Expr)(t:TO):Prop :=
 ∀(pins:List (Aj×Obj)) (s:Ab) (σ:St) (H:Hp) (Q:Option Int→Hp→Prop),Inv X pins σ H s→t σ H Q →
  wpAny (model X.prog X.w) X.A (evalPart e X.env) (λu s'=>∃o H',Inv X pins σ H' s'∧IsPart u o∧Q o H') X.xe s
def wyf:TO:=λ_ H Q=>Q none H
def tPart (t:TE):TO:=λσ H Q=>t σ H λx H1=>∃i,x=.int i∧Q (some i) H1
theorem quw {ns:List Int}:∀ {us:List Ag},Vals (ns.map V.int) us→IntsAre us ns:=by
 induction ns with
 |nil=>intro us r;rw [bD] at r;cases r;exact .nil
 |cons n ns ih =>
  intro us r
  rw [ax] at r
  cases r with
  |cons r1 r2 =>
   obtain ⟨t,e⟩:=r1
   subst e
   exact .cons n t (ih r2)
section
variable {X:Cx}{e:Expr}{te:TE}{lo hi:Option Expr}{tl th:TO}{pos p2:Pos}
theorem wyg:PO X none wyf:=by
 intro pins s σ H Q I h
 rw [evalPart_none]
 exact ag ⟨none,H,I,.none,h⟩
theorem wyr (h:PE X e te):PO X (some e) (tPart te):=by
 intro pins s σ H Q I hw
 rw [evalPart_some]
 refine thn (h pins s σ H _ I hw) λu s1 ⟨x,H1,I1,r1,q1⟩=>?_
 obtain ⟨i,rfl,q⟩:=q1
 obtain ⟨t,rfl⟩:=r1
 exact ⟨some i,H1,I1,.int i t,q⟩
def SlR (X:Cx)(r:V→Option Int→Option Int→Hp→VK→Prop):Prop :=
 ∀(pins:List (Aj×Obj)) (s:Ab) (σ:St) (H:Hp) (x:V) (v vl vu:Ag) (lo hi:Option Int) (sl:Aj) (Q:VK),Inv X pins σ H s→RelV x v→s.heap.IsSliceOf sl vl vu .none→IsPart vl lo→IsPart vu hi→r x lo hi H Q →
  ∃T id,typeLookup (.type T) "__getitem__" = pure (some (.builtin id))∧s.TypeIs v T∧wpAny (model X.prog X.w) X.A (getItem v (.ref sl)) (EP X pins σ Q) X.xe s
def tSl (r:V→Option Int→Option Int→Hp→VK→Prop)(te:TE)(tl th:TO):TE:=λσ H Q=>te σ H λx H1=>tl σ H1 λl H2=>th σ H2 λu H3=>r x l u H3 Q
theorem wxs {r:V→Option Int→Option Int→Hp→VK→Prop}(hr:SlR X r)(he:PE X e te)(hl:PO X lo tl)(hu:PO X hi th):PE X (.Subscript e (.Slice lo hi none p2) pos) (tSl r te tl th):=by
 intro pins s σ H Q I h
 refine Subscript_ (thn (he pins s σ H _ I h) λv s1 ⟨x,H1,I1,r1,q1⟩=>?_)
 refine wpAny_Slice (thn (hl pins s1 σ H1 _ I1 q1) λvl s2 ⟨l,H2,I2,pl,q2⟩=>thn (hu pins s2 σ H2 _ I2 q2) λvu s3 ⟨u,H3,I3,pu,q3⟩=>?_)
 rw [evalPart_none]
 refine ag ?_
 have I4:Inv X pins σ H3 { s3 with heap:=s3.heap.push { cls:=.type "slice",data:=.fields #[vl,vu,.none] } }:=I3.kept (t':=s3.toks) λb ob q=>ac _ q
 obtain ⟨T,id,hT,ht,hg⟩:=hr pins { s3 with heap:=s3.heap.push { cls:=.type "slice",data:=.fields #[vl,vu,.none] } } σ H3 x v vl vu l u s3.heap.objs.size Q I4 r1 (Heap.IsSliceOf.new ..) pl pu q3
 show wpAny (model X.prog X.w) X.A (subscriptTail e (.Slice lo hi none p2) v (.ref s3.heap.objs.size)) (EP X pins σ Q) X.xe { s3 with heap:=s3.heap.push { cls:=.type "slice",data:=.fields #[vl,vu,.none] } }
 exact tail_any (ops:=[.ref s3.heap.objs.size,v]) ht hT hg (by with_unfolding_all rfl)
def cutV (xs:List V)(lo hi:Option Int):List V:=(xs.drop (HT.sIx xs.length 0 lo)).take (HT.sIx xs.length xs.length hi-HT.sIx xs.length 0 lo)
theorem qjd (xs:List V)(lo hi:Option Int):(cutV xs lo hi).length≤xs.length:=by
 unfold cutV
 rw [bG,List.length_drop]
 lia
def rSlT (K:Aa):V→Option Int→Option Int→Hp→VK→Prop:=λx lo hi H Q=>∃a xs,x=.ref a∧SqT K H a xs ∧
 ¬ (HT.sIx xs.length 0 lo=0∧HT.sIx xs.length xs.length hi=xs.length)∧∀p,H p=none→Q (.ref p) (upd H p (.tup (cutV xs lo hi)))
theorem sl_tup:SlR X (rSlT X.K):=by
 intro pins s σ H x v vl vu lo hi sl Q I rx hs pl pu h
 obtain ⟨a,xs,rfl,hx,hw,q⟩:=h
 cases rx
 obtain ⟨its,r,ht,hz⟩:=I.tuple hx
 have hlen:its.toArray.size=xs.length:=by rw [aw];exact r.length.symm
 refine ⟨"tuple",_,bg.lookup,ht.typeIs,?_⟩
 refine HT.getItem_tuple_cut ht hs pl pu (by rw [hlen];exact hw) ?_ (by rw [hlen];exact hz)
 rw [hlen]
 refine ⟨.ref s.heap.objs.size,_,I.laid (t':=s.toks) (o:=.tup (cutV xs lo hi)) (λb ob q=>ac _ q) (ah _) ?_,rfl,q _ (I.hok.fresh (ah _))⟩
 exact ⟨bB (qjd xs lo hi) hz,_,(r.drop (HT.sIx xs.length 0 lo)).take (HT.sIx xs.length xs.length hi-HT.sIx xs.length 0 lo),IsTup.new _ _⟩
end
def ixN (n:Nat)(i:Int):Option Nat:=if 0≤i then (if i<n then some i.toNat else none) else if -(n:Int)≤i then some (i+n).toNat else none
def atI {α:Type}(xs:List α)(i:Int):Option α:=(ixN xs.length i).bind λj=>xs[j]?
theorem wqy {n:Nat}{i:Int}{j:Nat}(h:ixN n i=some j):seqIndex? i n=some j∧j<n∧-(n:Int)≤i∧i<n:=by
 unfold ixN at h
 by_cases h0:0≤i
 ·rw [aj h0] at h
  by_cases h1:i<n
  ·rw [aj h1] at h
   have e:i.toNat=j:=az h
   exact ⟨by rw [seqIndex_of h0 h1,e],by lia,by lia,h1⟩
  ·rw [af h1] at h;cases h
 ·rw [af h0] at h
  by_cases h1:-(n:Int)≤i
  ·rw [aj h1] at h
   have e:(i+n).toNat=j:=az h
   exact ⟨by rw [seqIndex_neg (by lia) h1,e],by lia,h1,by lia⟩
  ·rw [af h1] at h;cases h
theorem qx1 {α:Type}{xs:List α}{i:Int}{v:α}(h:atI xs i=some v):∃j,seqIndex? i xs.length=some j∧xs[j]?=some v∧j<xs.length∧-(xs.length:Int)≤i∧i<xs.length:=by
 unfold atI at h
 cases e:ixN xs.length i with
 |none=>rw [e] at h;cases h
 |some j =>
  rw [e] at h
  obtain ⟨h1,h2,h3,h4⟩:=wqy e
  exact ⟨j,h1,h,h2,h3,h4⟩
theorem Yv {α:Type}{xs:List α}{j:Nat}{v:α}(h:xs[j]?=some v):atI xs (j:Int)=some v:=by
 have hj:j<xs.length:=(aT.mp h).1
 have e:ixN xs.length (j:Int)=some j:=by
  unfold ixN
  rw [aj (by lia),aj (by lia)];simp
 unfold atI;rw [e];exact h
theorem qv4 {α:Type}(xs:List α)(v:α):atI (xs++[v]) (-1)=some v:=by
 have hl:(xs++[v]).length=xs.length+1:=by simp
 have e:ixN (xs++[v]).length (-1)=some xs.length:=by
  unfold ixN
  rw [hl,af (by decide),aj (by lia)]
  congr 1
  lia
 unfold atI
 rw [e]
 show (xs++[v])[xs.length]?=some v
 simp
def wk9 (b:Expr):Prop:=∀o i,subscripted b false o i=operate [o,i] (getItem o i)
def IxR (X:Cx)(r:R2):Prop :=
 ∀(value slice:Expr) (pins:List (Aj×Obj)) (s:Ab) (σ:St) (H:Hp) (x y:V) (v u:Ag) (Q:VK),Inv X pins σ H s→RelV x v→RelV y u→r x y H Q →
  subscripted slice false v u=operate [v,u] (getItem v u)→wpAny (model X.prog X.w) X.A (subscriptTail value slice v u) (EP X pins σ Q) X.xe s
def MtR (X:Cx)(id:String)(r:V→List V→Hp→VK→Prop):Prop :=
 ∀(pins:List (Aj×Obj)) (s:Ab) (σ:St) (H:Hp) (x:V) (xs:List V) (v:Ag) (us:List Ag) (Q:VK),Inv X pins σ H s→RelV x v→Vals xs us→r x xs H Q →
  wpAny (model X.prog X.w) X.A (call (.builtin id) (v::us)) (EP X pins σ Q) X.xe s
section
variable {X:Cx}{a b:Expr}{ta tb:TE}{pos:Pos}
theorem zq {r:R2}(hr:IxR X r)(ha:PE X a ta)(hb:PE X b tb)(hs:wk9 b):PE X (.Subscript a b pos) (tOp r ta tb):=by
 intro pins s σ H Q I h
 exact Subscript_ (binT ha hb I h λv u s2 x y H2 I2 rx ry q=>hr a b pins s2 σ H2 x y v u Q I2 rx ry q (hs _ _))
def rIxL (K:Aa):R2:=λx y H Q=>∃p xs i v,x=.ref p∧y=.int i∧SqL K H p xs∧atI xs i=some v∧Q v H
def rIxT (K:Aa):R2:=λx y H Q=>∃p xs i v,x=.ref p∧y=.int i∧SqT K H p xs∧atI xs i=some v∧Q v H
def rIxS:R2:=λx y H Q=>∃z i c,x=.str z∧y=.int i∧z.length≤sizeLine∧atI z.cps.toList i=some c∧Q (.str ⟨#[c]⟩) H
theorem vk:IxR X (rIxL X.K):=by
 intro value slice pins s σ H x y v u Q I rx ry h hs
 obtain ⟨p,xs,i,z,rfl,rfl,hq,he,q⟩:=h
 cases rx
 obtain ⟨t,rfl⟩:=ry
 obtain ⟨its,r,pl,hz⟩:=I.list hq
 obtain ⟨j,h1,h2,h3,h4,h5⟩:=qx1 he
 obtain ⟨w,ew,rw'⟩:=r.get h2
 have hl:=r.length
 have hn:=Q2
 have fin:EP X pins σ Q w s:=⟨z,H,I,rw',q⟩
 by_cases h0:0≤i
 ·have hj:i.toNat=j:=by
   rw [seqIndex_of h0 h5] at h1
   exact az h1
  exact item_listR pl.isList h0 (by lia) (by rw [hj];simpa using ew) fin hs
 ·have hj:(i+(its.toArray.size:Int)).toNat=j:=by
   rw [seqIndex_neg (by lia) h4] at h1
   rw [aw,←hl]
   exact az h1
  exact subscriptTail_builtinR (x:=w) pl.isList.typeIs slot_list_getitem.lookup
   (wpAny_getItem_list_neg (Q:=λr s'=>r=w∧EP X pins σ Q r s') pl.isList (by lia) (by rw [aw] <;> lia) (by lia) (by rw [hj];simpa using ew) ⟨rfl,fin⟩) hs
theorem zd:IxR X (rIxT X.K):=by
 intro value slice pins s σ H x y v u Q I rx ry h hs
 obtain ⟨p,xs,i,z,rfl,rfl,hq,he,q⟩:=h
 cases rx
 obtain ⟨t,rfl⟩:=ry
 obtain ⟨its,r,pl,hz⟩:=I.tuple hq
 obtain ⟨j,h1,h2,h3,h4,h5⟩:=qx1 he
 obtain ⟨w,ew,rw'⟩:=r.get h2
 have hl:=r.length
 have hn:=Q2
 have fin:EP X pins σ Q w s:=⟨z,H,I,rw',q⟩
 exact subscriptTail_builtinR (x:=w) pl.typeIs slot_tuple_getitem.lookup
  (getItem_tuple (j:=j) (Q:=λr s'=>r=w∧EP X pins σ Q r s') pl (by lia) (by lia) (by rw [aw,←hl];exact h1) (by simpa using ew) ⟨rfl,fin⟩) hs
theorem wvw:IxR X rIxS:=by
 intro value slice pins s σ H x y v u Q I rx ry h hs
 obtain ⟨z,i,c,rfl,rfl,hz,he,q⟩:=h
 obtain ⟨t,rfl⟩:=rx
 obtain ⟨t',rfl⟩:=ry
 obtain ⟨j,h1,h2,h3,h4,h5⟩:=qx1 he
 have hl:z.cps.toList.length=z.length:=by simp [Str.length]
 rw [hl] at h1 h4 h5
 have hn:=Q2
 exact tail_any (typeIs_str s z t) slot_str_getitem.lookup (getItem_str (c:=c) (by
  have e1:decide (i < -(2 ^ 63:Int))=false:=bh (by lia)
  have e2:decide (i≥2 ^ 63)=false:=bh (by lia)
  rw [e1,e2,Bool.or_false]) (by rw [h1];simpa using h2) ⟨.str ⟨#[c]⟩,H,I.tok _,⟨_,rfl⟩,q⟩) hs
theorem quq (its:List Ag)(n j:Nat)(u:Ag):Obj.mapSeq (·.setIfInBounds j u) { cls:=.type "list",data:=.seq its.toArray n }={ cls:=.type "list",data:=.seq (its.set j u).toArray n }:=by
 simp [Obj.mapSeq]
theorem Inv.lst {pins:List (Aj×Obj)}{σ:St}{H:Hp}{s:Ab}{p:Aj}{xs:List V}(I:Inv X pins σ H s)(h:H p=some (.lst xs)) :
  ∃(its:List Ag) (n:Nat),Vals xs its∧s.heap.get? p=some { cls:=.type "list",data:=.seq its.toArray n }∧xs.length≤sizeLine:=by
 obtain ⟨z,its,n,r,e⟩:=I.hok p _ h
 exact ⟨its,n,r,e,z⟩
theorem Inv.lstUpd {pins:List (Aj×Obj)}{σ:St}{H:Hp}{s:Ab}{p:Aj}{xs ys:List V}{its its':List Ag}{n n':Nat}{f:Obj→Obj}(I:Inv X pins σ H s)(h:H p=some (.lst xs))
  (ho:s.heap.get? p=some { cls:=.type "list",data:=.seq its.toArray n }) (hf:f { cls:=.type "list",data:=.seq its.toArray n }={ cls:=.type "list",data:=.seq its'.toArray n' }) (r:Vals ys its') (hz:ys.length≤sizeLine) (t:Nat) :
  Inv X pins σ (upd H p (.lst ys)) { s with heap:=s.heap.update p f,toks:=t }:=by
 have e:(s.heap.update p f).get? p=some { cls:=.type "list",data:=.seq its'.toArray n' }:=by
  rw [dD f ho (by rw [hf] <;> rfl),hf]
 refine I.write (x:=p) (e:=p) (by rw [h];trivial) (.inl rfl) (λb u hb q=>(Heap.get?_update_other _ _ (aZ hb)).trans q) ⟨_,e⟩ ?_
 exact ⟨hz,its',n',r,e⟩
def rSetL:V→V→V→Hp→(Hp→Prop)→Prop:=λo i v H Q=>∃p xs k j,o=.ref p∧i=.int k∧H p=some (.lst xs)∧ixN xs.length k=some j∧Q (upd H p (.lst (xs.set j v)))
theorem qv0:PSet X rSetL:=by
 intro pins s σ H o i v ov iv u Q I ro ri rv h
 obtain ⟨p,xs,k,j,rfl,rfl,hp,hj,q⟩:=h
 cases ro
 obtain ⟨t,rfl⟩:=ri
 obtain ⟨its,n,r,ho,hz⟩:=I.lst hp
 obtain ⟨h1,h2,h3,h4⟩:=wqy hj
 have hl:=r.length
 have hn:=Q2
 have I':Inv X pins σ (upd H p (.lst (xs.set j v))) { s with heap:=s.heap.update p (Obj.mapSeq (·.setIfInBounds j u)) } :=
  I.lstUpd hp ho (quq its n j u) (r.set rv j) (by rw [cG];exact hz) s.toks
 by_cases h0:0≤k
 ·have hk:k.toNat=j:=by
   rw [seqIndex_of h0 h4] at h1
   exact az h1
  exact PySem.W.ki_setAt ho h0 (by lia) (by rw [aw,←hl];exact h4) (by rw [hk];exact ⟨_,I',q⟩)
 ·have hk:(k+(its.toArray.size:Int)).toNat=j:=by
   rw [seqIndex_neg (by lia) h3] at h1
   rw [aw,←hl]
   exact az h1
  exact PySem.W.ki_setBack ho (by lia) (by rw [aw,←hl];exact h3) (by lia) (by rw [hk];exact ⟨_,I',q⟩)
theorem xb:jx X (.builtin "len") (λxs H Q=>∃p ys,xs=[.ref p]∧(SqL X.K H p ys∨SqT X.K H p ys)∧Q (.int ys.length) H):=by
 intro pins s σ H xs us Q I r h
 obtain ⟨p,ys,rfl,hq,q⟩:=h
 obtain ⟨u,rfl,rx⟩:=j5 r
 cases rx
 have hn:=Q2
 rcases hq with hq|hq
 ·obtain ⟨its,r',pl,hz⟩:=I.list hq
  have hlen:=r'.length
  exact Calls.call_len_list pl.isList (by simp only [aw] <;> lia) ⟨.int ys.length,H,I.tok _,⟨s.toks+1,by rw [aw,hlen]⟩,q⟩
 ·obtain ⟨its,r',pl,hz⟩:=I.tuple hq
  have hlen:=r'.length
  exact len_tuple pl (by simp only [aw] <;> lia) ⟨.int ys.length,H,I.tok _,⟨s.toks+1,by rw [aw,hlen]⟩,q⟩
theorem Wn:jx X (.builtin "len") (λxs H Q=>∃z,xs=[.str z]∧z.length≤sizeLine∧Q (.int z.length) H):=by
 intro pins s σ H xs us Q I r h
 obtain ⟨z,rfl,hz,q⟩:=h
 obtain ⟨u,rfl,t,rfl⟩:=j5 r
 have hn:=Q2
 exact len_str (by lia) ⟨.int z.length,H,I.tok _,⟨_,rfl⟩,q⟩
theorem vt:jx X (.type "list") (λxs H Q=>∃p ys,xs=[.ref p]∧(SqL X.K H p ys∨SqT X.K H p ys)∧∀l,H l=none→Q (.ref l) (upd H l (.lst ys))):=by
 intro pins s σ H xs us Q I r h
 obtain ⟨p,ys,rfl,hq,q⟩:=h
 obtain ⟨u,rfl,rx⟩:=j5 r
 cases rx
 have fin:∀(its:List Ag),Vals ys its→ys.length≤sizeLine→∀(h':Heap) (c':Nat),(∀b o',s.heap.get? b=some o'→h'.get? b=some o') →
   h'.get? s.heap.objs.size=some { cls:=.type "list",dict:=none,data:=.seq its.toArray c',slots:=#[] }→EP X pins σ Q (.ref s.heap.objs.size) { s with heap:=h' }:=λits r' hz h' c' kp e =>
  ⟨.ref s.heap.objs.size,_,I.laid (t':=s.toks) kp (ah _) (show ObjOk X.prog X.w _ h' _ (.lst ys) from ⟨hz,its,c',r',e⟩),rfl,q _ (I.hok.fresh (ah _))⟩
 rcases hq with hq|hq
 ·obtain ⟨its,r',pl,hz⟩:=I.list hq
  have hlen:=r'.length
  obtain ⟨o,ho,hc,n,hd⟩:=pl.isList
  exact call_list_seq p (.inl rfl) ho hc hd (λh' c' kp e=>fin its r' hz h' c' kp e) (by simp only [aw] <;> lia)
 ·obtain ⟨its,r',pl,hz⟩:=I.tuple hq
  have hlen:=r'.length
  obtain ⟨o,ho,hc,n,hd⟩:=pl
  exact call_list_seq p (.inr rfl) ho hc hd (λh' c' kp e=>fin its r' hz h' c' kp e) (by simp only [aw] <;> lia)
def tyV (K:Aa)(T:String)(x:V)(H:Hp):Prop:=match x with
 |.str _=>T = "str"
 |.int _=>T = "int"
 |.ref p=>(T = "list" ∧ ∃xs,SqL K H p xs)∨(T = "tuple" ∧ ∃o,K.lookup p=some o∧o.cls=.type "tuple" ∧ o.dict=none) ∨
   (T = "dict" ∧ ((∃kvs,H p=some (.dK kvs))∨∃kvs,H p=some (.dT kvs)))∨(T = "set" ∧ ∃S n,H p=some (.set S n))
 |_=>False
theorem wvy {pins:List (Aj×Obj)}{σ:St}{H:Hp}{s:Ab}{T:String}{x:V}{v:Ag}(I:Inv X pins σ H s)(r:RelV x v)(ty:tyV X.K T x H) :
  s.TypeIs v T∧∀a,v=.ref a→∃ob,s.heap.get? a=some ob∧ob.dict=none:=by
 cases x with
 |str z =>
  obtain ⟨t,rfl⟩:=r
  cases (show T = "str" from ty)
  exact ⟨typeIs_str s z t,λ_ e=>nomatch e⟩
 |int i =>
  obtain ⟨t,rfl⟩:=r
  cases (show T = "int" from ty)
  exact ⟨typeIs_int s i t,λ_ e=>nomatch e⟩
 |ref p =>
  cases r
  rcases ty with ⟨rfl,xs,hq⟩|⟨rfl,o,hk,hc,hd⟩|⟨rfl,hk⟩|⟨rfl,S,n,hk⟩
  ·obtain ⟨its,_,pl,_⟩:=I.list hq
   refine ⟨pl.isList.typeIs,λa e=>?_⟩
   cases e
   obtain ⟨o,n,e,c,hd,_⟩:=pl
   exact ⟨o,e,hd⟩
  ·refine ⟨⟨o,I.kIn p o hk,hc⟩,λa e=>?_⟩
   cases e
   exact ⟨o,I.kIn _ o hk,hd⟩
  ·have z:∃o,s.heap.get? p=some o∧o.ExactDict:=by
    rcases hk with ⟨kvs,hk⟩|⟨kvs,hk⟩
    ·obtain ⟨_,_,_,_,o,_,_,e,ex,_⟩:=I.hok p _ hk
     exact ⟨o,e,ex⟩
    ·obtain ⟨_,_,_,_,o,_,_,e,ex,_⟩:=I.hok p _ hk
     exact ⟨o,e,ex⟩
   obtain ⟨o,e,ex⟩:=z
   refine ⟨⟨o,e,ex.1⟩,λa e2=>?_⟩
   cases e2
   exact ⟨o,e,ex.2.1⟩
  ·obtain ⟨o,_,_,_,e,ex,_⟩:=I.hok p _ hk
   refine ⟨⟨o,e,ex.1⟩,λa e2=>?_⟩
   cases e2
   exact ⟨o,e,ex.2.1⟩
 |_=>exact False.elim ty
def tBM0 (K:Aa)(T:String)(r:V→List V→Hp→VK→Prop)(to:TE):TE:=λσ H Q=>to σ H λx H1=>tyV K T x H1∧r x [] H1 Q
def tBM (K:Aa)(T:String)(r:V→List V→Hp→VK→Prop)(to:TE)(t:TA):TE:=λσ H Q=>to σ H λx H1=>tyV K T x H1∧t σ H1 λxs H2=>r x xs H2 Q
variable {o e:Expr}{es:List Expr}{to:TE}{t:TA}{name:Str}{apos cpos:Pos}{T id:String}{r:V→List V→Hp→VK→Prop}
theorem wk0 (pa:PlainAttrs T)(slot:Slot T name id)(hty:typeOf (.builtin id)=pure (.type "method_descriptor"))(hm:MtR X id r)(ho:PE X o to)
  (hbase:attributeBase o name X.env (eval o X.env)=eval o X.env:=by rfl) (hline:(apos.endLine==cpos.line)=true:=by rfl):PE X (.Call (.Attribute o name apos) [] [] cpos) (tBM0 X.K T r to):=by
 intro pins s σ H Q I h
 refine wpAny_Call_method0_late hbase hline (thn (ho pins s σ H _ I h) λv s1 ⟨x,H1,I1,r1,ty,q1⟩=>?_)
 obtain ⟨h1,h2⟩:=wvy I1 r1 ty
 exact ⟨T,id,pa,slot,hty,h1,h2,bJ rfl (PySem.evalArgs_none (hm pins s1 σ H1 x [] v [] Q I1 r1 .nil q1))⟩
theorem wv9 (pa:PlainAttrs T)(slot:Slot T name id)(hty:typeOf (.builtin id)=pure (.type "method_descriptor"))(hm:MtR X id r)(ho:PE X o to)(ha:PA X (e::es) t)
  (hbase:attributeBase o name X.env (eval o X.env)=eval o X.env:=by rfl)
  (hfew:((backTo cpos (starEach (e::es) X.env)).all (λx=>!x.1)&&(backToKw cpos (keywordEach [] X.env)).all (λx=>x.1.isSome)
   && decide ((e::es).length+([]:List Keyword).length+(if ([]:List Keyword).isEmpty then 0 else 1)<30))=true:=by rfl)
  (hline:(apos.endLine==cpos.line)=true:=by rfl) (hs:starEach (e::es) X.env=(false,eval e X.env)::starEach es X.env:=by rfl) (hplain:(backTo cpos (starEach es X.env)).any (·.1)=false:=by rfl) :
  PE X (.Call (.Attribute o name apos) (e::es) [] cpos) (tBM X.K T r to t):=by
 intro pins s σ H Q I h
 refine wpAny_Call_method_late hbase hfew hline rfl (thn (ho pins s σ H _ I h) λv s1 ⟨x,H1,I1,r1,ty,q1⟩=>?_)
 obtain ⟨h1,h2⟩:=wvy I1 r1 ty
 refine ⟨T,id,pa,slot,hty,h1,h2,?_⟩
 have hA:=ha cpos pins s1 σ H1 _ I1 q1
 rw [hs] at hA ⊢
 refine bJ (by show (false||(backTo cpos (starEach es X.env)).any (·.1))=false;rw [hplain] <;> rfl) (cn ?_)
 exact thn hA λus s2 ⟨vs,H2,I2,r2,q2⟩=>hm pins s2 σ H2 x vs v us Q I2 r1 r2 q2
end
def MtM (X:Cx)(id:String)(r:V→List V→Hp→VK→Prop):Prop :=
 ∀(pins:List (Aj×Obj)) (s:Ab) (σ:St) (H:Hp) (x:V) (xs:List V) (v:Ag) (us:List Ag) (Q:VK),Inv X pins σ H s→RelV x v→Vals xs us→r x xs H Q →
  wpAny (model X.prog X.w) X.A (call (.builtin id) (v::us)) (EP X pins σ Q) X.xe s
theorem Vals.one:∀ {x:V} {us:List Ag},Vals [x] us→∃u,us=[u]∧RelV x u
 |_,_,.cons r .nil=>⟨_,rfl,r⟩
theorem Vals.zero:∀ {us:List Ag},Vals [] us→us=[]
 |_,.nil=>rfl
theorem Vals.dropLast {xs:List V}{us:List Ag}(h:Vals xs us):Vals xs.dropLast us.dropLast:=by
 induction h with
 |nil=>exact .nil
 |cons r t ih =>
  cases t with
  |nil=>exact .nil
  |cons q t'=>exact .cons r ih
theorem qyn {α:Type}(l:List α):l.eraseIdx (l.length-1)=l.dropLast:=by
 induction l with
 |nil=>rfl
 |cons a r ih =>
  cases r with
  |nil=>rfl
  |cons b r =>
   have e:(a::b::r).length-1=((b::r).length-1)+1:=by
    have h1:(a::b::r).length=r.length+2:=rfl
    have h2:(b::r).length=r.length+1:=rfl
    lia
   rw [e,List.eraseIdx_cons_succ,ih]
   all_goals rfl
section
variable {X:Cx}{pins:List (Aj×Obj)}{σ:St}{H:Hp}{s:Ab}{l b:Aj}{xs ys zs:List V}
theorem Inv.lset {its its':List Ag}{n:Nat}{f:Array Ag→Array Ag}{t':Nat}(I:Inv X pins σ H s)(hH:H l=some (.lst xs))
  (e:s.heap.get? l=some { cls:=.type "list",data:=.seq its.toArray n }) (hf:f its.toArray=its'.toArray) (hv:Vals ys its') (hz:ys.length≤sizeLine) :
  Inv X pins σ (upd H l (.lst ys)) { s with heap:=s.heap.update l (Obj.mapSeq f),toks:=t' }:=by
 have q:=PySem.IsL.update e f
 rw [hf] at q
 refine I.write (x:=l) (e:=l) (by rw [hH];exact trivial) (.inl rfl) (λb' u hb hu=>(Heap.get?_update_other s.heap (Obj.mapSeq f) (aZ hb)).trans hu) ⟨_,q⟩ ?_
 exact ⟨hz,its',_,hv,q⟩
theorem Inv.lnew {its:List Ag}{t':Nat}(I:Inv X pins σ H s)(hv:Vals ys its)(hz:ys.length≤sizeLine) :
  Inv X pins σ (upd H s.heap.objs.size (.lst ys)) { s with heap:=s.heap.push { cls:=.type "list",data:=.seq its.toArray },toks:=t' } :=
 I.laid (λ_ _ q=>ac _ q) (ah _) ⟨hz,its,0,hv,aq _ rfl⟩
theorem Inv.fresh (I:Inv X pins σ H s):H s.heap.objs.size=none:=I.hok.fresh (ah _)
theorem Inv.lstM (I:Inv X pins σ H s)(hH:H l=some (.lst xs)):xs.length≤sizeLine∧∃(its:List Ag) (n:Nat),Vals xs its∧xs.length=its.length∧s.heap.get? l=some { cls:=.type "list",data:=.seq its.toArray n }:=by
 obtain ⟨z,its,n,r,e⟩:=I.hok l _ hH
 exact ⟨z,its,n,r,r.length,e⟩
end
section
variable {X:Cx}
def wk6:V→List V→Hp→VK→Prop:=λx vs H Q=>∃l xs y,x=.ref l∧vs=[y]∧H l=some (.lst xs)∧xs.length<sizeLine∧Q .non (upd H l (.lst (xs++[y])))
theorem yu:MtM X "list.append" wk6:=by
 intro pins s σ H x vs v us Q I rx rv h
 obtain ⟨l,xs,y,rfl,rfl,hH,hz,q⟩:=h
 cases rx
 obtain ⟨u,rfl,ru⟩:=rv.one
 obtain ⟨z,its,n,r,hl,e⟩:=I.lstM hH
 refine call_meets F.slot_list_append ⟨_,e,rfl⟩ F.entry_list_append (F.args_list_append_2 _ _) (PySem.list_append l its.toArray n u (by rw [aw];lia)) ⟨e,?_⟩
 refine ⟨.non,_,I.lset (its':=its++[u]) hH e (by simp) (r.append (.cons ru .nil)) ?_,rfl,q⟩
 rw [aV,List.length_singleton]
 lia
def rPop:V→List V→Hp→VK→Prop:=λx vs H Q=>∃l xs y,x=.ref l∧vs=[]∧H l=some (.lst xs)∧xs[xs.length-1]?=some y∧Q y (upd H l (.lst xs.dropLast))
theorem wvq:MtM X "list.pop" rPop:=by
 intro pins s σ H x vs v us Q I rx rv h
 obtain ⟨l,xs,y,rfl,rfl,hH,hy,q⟩:=h
 cases rx
 have hus:=rv.zero
 subst hus
 obtain ⟨z,its,n,r,hl,e⟩:=I.lstM hH
 obtain ⟨u,hu,ru⟩:=r.get hy
 have hy':its.toArray[its.toArray.size-1]?=some u:=by
  show its.toArray[its.length-1]?=some u
  rw [←cb,←hl]
  exact hu
 refine call_meets F.slot_list_pop ⟨_,e,rfl⟩ F.entry_list_pop (F.args_list_pop_1 _) (MeetsSeq.list_pop_last l its.toArray n u hy' (by rw [aw];lia)) ⟨e,?_⟩
 refine ⟨y,_,I.lset (its':=its.dropLast) hH e ?_ r.dropLast ?_,ru,q⟩
 ·show its.toArray.eraseIdxIfInBounds (its.toArray.size-1)=its.dropLast.toArray
  rw [aw,List.eraseIdxIfInBounds_toArray,qyn]
 ·rw [List.length_dropLast]
  lia
def rCat:R2:=λx y H Q=>∃l b xs zs,x=.ref l∧y=.ref b∧H l=some (.lst xs)∧H b=some (.lst zs)∧xs.length+zs.length≤sizeLine∧∀p,H p=none→Q (.ref p) (upd H p (.lst (xs++zs)))
theorem wv7:OpR X (binaryOp .Add) rCat:=by
 intro pins s σ H x y v u Q I rx ry h
 obtain ⟨l,b,xs,zs,rfl,rfl,hH,hB,hz,q⟩:=h
 cases rx
 cases ry
 obtain ⟨z,its,n,r,hl,e⟩:=I.lstM hH
 obtain ⟨z2,its2,n2,r2,hl2,e2⟩:=I.lstM hB
 refine PySem.P.add_list e e2 ?_ (by rw [aw,aw];lia)
 have ea:its.toArray++its2.toArray=(its++its2).toArray:=by simp
 rw [ea]
 exact ⟨.ref _,_,I.lnew (t':=s.toks) (r.append r2) (by rw [aV];lia),rfl,q _ I.fresh⟩
end
section
variable {prog:Ac}{w:Ah}{A:Ae}{E:Ag→Ab→Prop}{s:Ab}
end
section
variable {X:Cx}
end
end L2
namespace Att
open PySem PySem.W PySem.Calls PyProof.Rows
theorem Z4 {P:Params}{h:Heap}:∀(ns:List Int) (vs:List Ag),WellAll P h vs (ns.map WData.int)→IntsAre vs ns:=by
 intro ns
 induction ns with
 |nil =>
  intro vs w
  rw [bD] at w
  cases w
  exact .nil
 |cons n ns ih =>
  intro vs w
  rw [ax] at w
  cases w with
  |cons a b =>
   cases a
   exact .cons _ _ (ih _ b)
theorem wwc {l:OpenLaw}{n:Nat}(hn:l.most=some n){P:Params}{h:Heap}{args:List WData}{vals:List Ag}
  (hpre:l.row.toRowW.claim.pre args=true) (hwl:WellAll P h vals args) :
  ∃a vs ns,vals=[Value.ref a]∧args=[WData.list (ns.map WData.int)]∧h.get? a=some { cls:=.type "list",data:=.seq vs.toArray }∧IntsAre vs ns∧ns.length≤n:=by
 have hsh:WShape.hasAll [] args [.list .int]=true:=(pre_splitW hpre).1
 have hc:l.pre.holds [] { args:=args }=true:=(pre_splitW hpre).2
 obtain ⟨d,r,rfl,h1,h2⟩:=hasAllW_cons hsh
 obtain rfl:=hasAllW_nil h2
 obtain ⟨xs,rfl,h3⟩:=hasW_list h1
 obtain ⟨ns,rfl⟩:=items_int h3
 have hlen:ns.length≤n:=by
  unfold OpenLaw.pre at hc
  have h4:(WTm.not (.lt (.lit (.int (n:Int))) (.len (.arg 0)))).holds [] { args:=[.list (ns.map .int)] }=true:=by
   have h4:=(holds_andW hc).1
   rw [hn] at h4
   exact h4
  have h5:=condW_of h4 (w_not (w_lt w_lit (w_len_list (w_arg rfl))))
  rw [ae] at h5
  refine Nat.le_of_not_lt λq=>?_
  have q':(n:Int)<((ns.length:Nat):Int):=by lia
  first
   |(rw [bn q'] at h5;exact absurd h5 (by decide))
   |(simp at h5;lia)
 cases hwl with
 |cons w1 w2 =>
  cases w2
  cases w1 with
  |list ho hall=>exact ⟨_,_,ns,rfl,rfl,ho,Z4 ns _ hall,hlen⟩
theorem wwz (l:OpenLaw)(args:List WData):l.row.toRowW.claim.post args (.bool true) args=true :=
 postW_of (r:=l.row.toRowW) (X:=(true==true))
  (show WShape.has [] (.bool true) .bool=true by first | rfl | decide | simp [WShape.has,WShape.arms,WShape.armsAll])
  (show (WTm.eq .res (.lit (.bool true))).value [] { args:=args,res:=some (.bool true),after:=args }=some (.bool (true==true)) from w_eq_bool (w_res rfl) w_lit) rfl
theorem attach_call {l:OpenLaw}{n:Nat}{q:Ac}{loose:List Str}{XP:(Str→Option Ag)→Heap→Prop}{YP:Ah→Heap→Prop}{d:DefRec}
  (hn:l.most=some n) (hdf:d.params.defaults=[])
  (call:∀(w:Ah) (s₀ s₁:Ab) (mg mb:Str→Option Ag) (fa:Aj) (o:Obj) (pm cd doc:Ag) (a:Aj) (vs:List Ag) (ns:List Int),
   Ground q loose [] XP w s₀ mg mb s₁.heap→YP w s₁.heap →
   s₁.heap.get? fa=some o→o.data=.func (docDef d.name d.params d.body d.scope pm cd doc)→s₁.heap.CodeRec cd d.name→mg d.name=some (.ref fa) →
   s₁.heap.get? a=some { cls:=.type "list",data:=.seq vs.toArray }→IntsAre vs ns→ns.length≤n→s₁.gens=#[] →
   codeAny (model l.prog w) callerA (.call (.ref fa) ⟨[.ref a],[]⟩) (λr s'=>r=.ok (.ret (.bool true))∧OldK s₁.heap s'.heap∧s'.os=s₁.os∧AllBare s'.gens) s₁) :
  WalkO q loose XP YP l.row.toRowW d [] (λf vs=>PySem.call f vs):=by
 intro w s₀ s₁ mg mb G Y fa o pm cd doc dV kV ho hd hcd hD hmg hg args vals as hpre hlay hrd hwl hlo
 obtain rfl:dV=.none:=Dflts.none hD hdf
 obtain rfl:kV=.none:=Dflts.noKw hD
 obtain ⟨a,vs,ns,rfl,rfl,hobj,hints,hlen⟩:=wwc hn hpre hwl
 refine enter_call (d6 (call w s₀ s₁ mg mb fa o pm cd doc a vs ns G Y ho (fd_plain hd) hcd hmg hobj hints hlen hg) λr s' hq=>?_)
 obtain ⟨rfl,h2,h3,h4⟩:=hq
 exact ⟨.inl ⟨.bool true,.bool true,[],rfl,λ_=>rfl,.bool true,wwz l _,λ_=>⟨List.Pairwise.nil,λ_ hm=>(nomatch hm)⟩⟩,h2,h3,h4⟩
section
variable {prog:Ac}{w:Ah}{A:Ae}{E:Ag→Ab→Prop}{s:Ab}{K:Frag}
end
end Att
namespace L2
open PySem PySem.Spec PyProof.Rows
theorem qxv:∀ {vs:List Ag} {ns:List Int},IntsAre vs ns→Vals (ns.map V.int) vs
 |_,_,.nil=>.nil
 |_,_,.cons n t h=>.cons ⟨t,rfl⟩ (qxv h)
def Only (H:Hp):Prop:=∀b,H b=none∨∃o xs,H b=some (.frz o (.lst xs))
theorem wv0 {P:Ac}{w:Ah}{K:Aa}{mg mb:Str→Option Ag}{CX:CXT}{k:Nat}{fa a:Aj}{fd:Ad}{x:Str}{sp:Sp}{s₁:Ab}{vs:List Ag}{ns:List Int}
  (KX:K.In s₁.heap) (hns:s₁.heap.Ns mainGlobals mg) (hb:s₁.heap.Ns builtinsNs mb) (hbb:∀x:Str,x ≠ "__name__" → mb x=bootBuiltins x) (hlim:s₁.heap.NoLimit) (hg:s₁.gens=#[])
  (ha:s₁.heap.get? a=some { cls:=.type "list",data:=.seq vs.toArray }) (hi:IntsAre vs ns) (hl:ns.length≤sizeLine) (hr:Room k callerA)
  (F:∀base:Heap,K.In base→base.Ns mainGlobals mg→FnOk P w K mg base CX k fa fd [x] sp) (hbind:∀(s:Ab) (u:Ag),BindsTo s fd ⟨[u],[]⟩ [(x,u)])
  (hsp:∀H:Hp,Only H→SqL K H a (ns.map V.int)→sp [.ref a] H (λv _=>v=.bl true) λ_ _ _=>False)
  (hCX:∀H e s',CX [] H s₁ (λ_ _ _=>False) e s'→False) :
  codeAny (model P w) callerA (.call (.ref fa) ⟨[.ref a],[]⟩) (λr s'=>r=.ok (.ret (.bool true))∧OldK s₁.heap s'.heap∧s'.os=s₁.os∧AllBare s'.gens) s₁:=by
 have rv:=qxv hi
 have lenV:=hi.length
 have core:∀H:Hp,Only H→SqL K H a (ns.map V.int)→HOk P w H s₁.heap→(∀b,H b≠none→b=a)→(H a≠none→K.lookup a=none) →
   codeAny (model P w) callerA (.call (.ref fa) ⟨[.ref a],[]⟩) (λr s'=>r=.ok (.ret (.bool true))∧OldK s₁.heap s'.heap∧s'.os=s₁.os∧AllBare s'.gens) s₁:=by
  intro H hO hS hok hA hK
  have base_of:∀ {b:Aj} {o:Obj},s₁.heap.get? b=some o→H b=none→(qz1 s₁.heap H).get? b=some o:=λe n=>wvr e n
  have noA:∀ {b:Aj} {o:Obj} {es:Array DictEntry} {ep:Nat},s₁.heap.get? b=some o→o.data=.dict es ep→H b=none:=λ{b o es ep} e d=>by
   cases q:H b with
   |none=>rfl
   |some u =>
    have e':b=a:=hA b (by rw [q];simp)
    subst e'
    rw [ha] at e;cases e
    have d':Data.seq vs.toArray _=Data.dict es ep:=d
    cases d'
  have nsK:∀ {b:Aj} {m:Str→Option Ag},s₁.heap.Ns b m→(qz1 s₁.heap H).Ns b m:=λ{b m} ⟨o,es,ep,e,d,r⟩=>⟨o,es,ep,base_of e (noA e d),d,r⟩
  have hKb:K.In (qz1 s₁.heap H):=λb o e=>base_of (KX b o e) (by
   cases q:H b with
   |none=>rfl
   |some u =>
    have e':b=a:=hA b (by rw [q];simp)
    subst e'
    rw [hK (by rw [q];simp)] at e;cases e)
  have hM:Mod K mg (qz1 s₁.heap H):=⟨hKb,nsK hns,⟨mb,nsK hb,hbb⟩,let ⟨mc,h1,h2⟩:=hlim;⟨mc,nsK h1,h2⟩⟩
  have e0:Env0 P w K mg (qz1 s₁.heap H) callerA [] s₁ H:=⟨rfl,hM,λb o e=>wys e,Nat.le_of_eq (ww9 _ _),trivial,λb hb=>absurd (show b∈([]:List Aj) from hb) (by simp),hok,.of_eq hg⟩
  refine d6 ((F _ hKb (nsK hns)).run callerA [] s₁ H ⟨[.ref a],[]⟩ [.ref a] [.ref a] _ _ hr e0 (hbind s₁ (.ref a)) (.cons rfl .nil) (hsp H hO hS)) λr s' h=>?_
  cases r with
  |error e=>exact (hCX H e s' h).elim
  |ok fl =>
   cases fl with
   |next=>exact False.elim h
   |brk=>exact False.elim h
   |cont=>exact False.elim h
   |ret u =>
    obtain ⟨v,H',os,bare,un,hok',r',q⟩:=h
    have q':v=.bl true:=q
    subst q'
    obtain rfl:u=Value.bool true:=r'
    refine ⟨rfl,OldK.of_keep λb o e=>?_,os,bare⟩
    cases q:H b with
    |none=>exact un.keep b o e q (by intro z;exact absurd (show b∈([]:List Aj) from z) (by simp)) (by simp)
    |some u =>
     rcases hO b with z|⟨ob,xs,z⟩
     ·rw [q] at z;cases z
     ·have z2:=un.frzs b ob _ z
      obtain ⟨e1,_⟩:=hok b _ z
      obtain ⟨e2,_⟩:=hok' b _ z2
      rw [e] at e1;cases e1
      exact e2
 cases hk:K.lookup a with
 |some o =>
  have e:=KX a o hk
  rw [ha] at e
  cases e
  refine core (λ_=>none) (λ_=>.inl rfl) (.inr ⟨_,vs.toArray,_,hk,rfl,rfl,rfl,by rw [aw,lenV];exact hl,by simpa using rv⟩) (λb u z=>by have z':(none:Option HO)=some u:=z;cases z') (λb z=>absurd rfl z) λz=>absurd rfl z
 |none =>
  refine core (λb=>if b=a then some (.frz { cls:=.type "list",data:=.seq vs.toArray } (.lst (ns.map V.int))) else none) (λb=>?_) (.inl (.inr ⟨{ cls:=.type "list",data:=.seq vs.toArray },aj rfl⟩)) (λb u z=>?_) (λb z=>?_) λ_=>hk
  ·by_cases hb:b=a
   ·exact .inr ⟨_,_,aj hb⟩
   ·exact .inl (af hb)
  ·by_cases hb:b=a
   ·have z':=(aj hb).symm.trans z
    cases z'
    subst hb
    exact ⟨ha,by rw [ae];exact hl,vs,_,rv,ha⟩
   ·have z':=(af hb).symm.trans z
    cases z'
  ·by_cases hb:b=a
   ·exact hb
   ·exact absurd (af hb) z
theorem wjx {l:PySem.W.OpenLaw}{n k:Nat}{q:Ac}{loose:List Str}{XP:(Str→Option Ag)→Heap→Prop}{YP:Ah→Heap→Prop}{d:DefRec}{K:Params→Aa}{CX:Ah→CXT}{sp:Ah→Sp}{x:Str}
  (hn:l.most=some n) (hn2:n≤sizeLine) (hdf:d.params.defaults=[]) (hr:Room k callerA)
  (hY:∀(w:Ah) (h:Heap),YP w h→(K w.params).In h)
  (F:∀(w:Ah) (mg:Str→Option Ag) (fa:Aj) (h:Heap),(K w.params).In h→h.Ns mainGlobals mg→mg d.name=some (.ref fa) →
   ∃fd:Ad,(∀(s:Ab) (u:Ag),BindsTo s fd ⟨[u],[]⟩ [(x,u)]) ∧
    ∀base:Heap,(K w.params).In base→base.Ns mainGlobals mg→FnOk l.prog w (K w.params) mg base (CX w) k fa fd [x] (sp w))
  (hsp:∀(w:Ah) (H:Hp) (a:Aj) (ns:List Int),ns.length≤n→Only H→SqL (K w.params) H a (ns.map V.int)→sp w [.ref a] H (λv _=>v=.bl true) λ_ _ _=>False)
  (hCX:∀(w:Ah) (H:Hp) (s:Ab) (e:Ag) (s':Ab),CX w [] H s (λ_ _ _=>False) e s'→False) :
  PySem.W.WalkO q loose XP YP l.row.toRowW d [] (λf vs=>PySem.call f vs):=by
 refine Att.attach_call hn hdf λw s₀ s₁ mg mb fa o pm cd doc a vs ns G Y ho hd hcd hmg hobj hints hlen hg=>?_
 have KX:=hY w _ Y
 obtain ⟨fd,hb,hF⟩:=F w mg fa _ KX G.T.g hmg
 exact wv0 KX G.T.g G.T.b G.T.builtins G.T.nolimit hg hobj hints (bB hlen hn2) hr hF hb (λH hO hS=>hsp w H a ns hlen hO hS) λH e s'=>hCX w H s₁ e s'
def x6 (s:Stmt)(j:Nat):Stmt:=match s with
 |.ClassDef _ _ _ body _ _ _ _ _ _ _=>body.getD j (.Pass ⟨0,0,0,0⟩)
 |_=>.Pass ⟨0,0,0,0⟩
def jw (s:Stmt):Arguments:=match s with
 |.FunctionDef _ a _ _ _ _ _ _ _ _=>a
 |_=>{ posonlyargs:=[],args:=[],vararg:=none,kwonlyargs:=[],kw_defaults:=[],kwarg:=none,defaults:=[] }
def w8 (s:Stmt):List Stmt:=match s with
 |.FunctionDef _ _ b _ _ _ _ _ _ _=>b
 |_=>[]
def wu (s:Stmt):Scope:=match s with
 |.FunctionDef _ _ _ _ _ _ sc _ _ _=>sc
 |_=>{ kind:=.function,names:=[],isGenerator:=false,isCoroutine:=false }
abbrev E0:XK:=λ_ _ _=>False
structure Fun (K:Aa)(x qual:Str)(st:Stmt)(f:Aj)(fd:Ad):Prop where
 ex:∃(oc:Ag) (od:Option Aj) (kV doc pm:Ag) (an:Option Aj) (cdv ct:Ag) (osl:Array (Option Ag)),
  fd=PySem.W.fnOf x qual (jw st) (w8 st) (wu st) .none kV doc pm an cdv ct∧K.lookup f=some ⟨oc,od,.func fd,osl⟩∧PySem.W.codeIn K cdv qual=true
 kp:PySem.W.keepIn K (.ref f)=true
section
variable {P:Ac}{w:Ah}{K:Aa}{mg:Str→Option Ag}{base:Heap}
theorem Fun.binds {x qual:Str}{st:Stmt}{f:Aj}{fd:Ad}{ps:List Str}(F:Fun K x qual st f fd)
  (h:∀(kV doc pm:Ag) (an:Option Aj) (cdv ct:Ag) (us:List Ag),us.length=ps.length→bindArgs (PySem.W.fnOf x qual (jw st) (w8 st) (wu st) .none kV doc pm an cdv ct) ⟨us,[]⟩=pure (ps.zip us)):Binds K fd ps []:=by
 obtain ⟨oc,od,kV,doc,pm,an,cdv,ct,osl,rfl,lk,hcd⟩:=F.ex
 exact .all (h kV doc pm an cdv ct)
theorem wz7 {x qual:Str}{st:Stmt}{f:Aj}{oc:Ag}{od an:Option Aj}{osl:Array (Option Ag)}{kV doc pm cdv ct:Ag}(l:K.lookup f=some ⟨oc,od,.func (PySem.W.fnOf x qual (jw st) (w8 st) (wu st) .none kV doc pm an cdv ct),osl⟩)
  (c:PySem.W.codeIn K cdv qual=true) (k:PySem.W.keepIn K (.ref f)=true):Fun K x qual st f (PySem.W.fnOf x qual (jw st) (w8 st) (wu st) .none kV doc pm an cdv ct):=⟨⟨oc,od,kV,doc,pm,an,cdv,ct,osl,rfl,l,c⟩,k⟩
end
theorem zy {A:Ae}{k:Nat}(hr:Room k A):A.units+1<cLine:=el (Nat.add_le_add_left (by decide:1≤64) _) hr.units
theorem wwd {n:Nat}(h:n≤1000):n<sizeLine:=el h (by decide)
section
variable {X:Cx}
theorem pv (i:Nat){x:Str}{pos:Pos}(hN:X.N[i]?=some x:=by rfl)(hv:Vis X.env.scope x:=by first | exact Or.inl rfl | exact Or.inr (Or.inl rfl) | exact Or.inr (Or.inr rfl))(hd:(x==("__debug__" : Str))=false:=by decide)
  (hcd:(x==("__classdict__" : Str))=false:=by decide):PE X (.Name x pos) (Wy i):=pe_var hN hv hd hcd
end
theorem Qy {A B:Prop}(h:B):if false=true then A else B:=by
 rw [af aA]
 exact h
theorem j8 {A B:Prop}(h:A):if true=true then A else B:=by
 rw [aj rfl]
 exact h
def Same (H H':Hp):Prop:=∀b o,H b=some o→H' b=some o
theorem Same.refl (H:Hp):Same H H:=λ_ _ h=>h
theorem Same.trans {H H1 H2:Hp}(a:Same H H1)(b:Same H1 H2):Same H H2:=λc o h=>b c o (a c o h)
theorem Same.seq {K:Aa}{H H':Hp}{a:Aj}{xs:List V}(e:Same H H')(h:SqL K H a xs):SqL K H' a xs:=by
 rcases h with (h|⟨o,h⟩)|h
 ·exact .inl (.inl (e _ _ h))
 ·exact .inl (.inr ⟨o,e _ _ h⟩)
 ·exact .inr h
set_option maxHeartbeats 4000000
theorem nin {b:Aj}:b∉([]:List Aj):=λz=>nomatch z
theorem wyv {K:Aa}{h:Heap}{C:Aj}{bmB:List Ag}{newId:String}(X:K.In h)(q:PySem.W.excIn K C bmB newId=true) :
  ∃tl N a1 a2 a3 a4 a5 a6 a7 a8 a9 b0 b1 b2 b3 b5 mN,h.get? C=some (excClassObj a1 a2 C N a3 tl a4 a5 a6 a7 a8 a9 b0 b1 b2 b3 b5 newId) ∧
   h.Ns N mN∧mN "__init__" = none∧OwnTail h bmB tl:=by
 unfold PySem.W.excIn at q
 split at q
 ·next dd cd sl ho =>
  split at q
  ·next C1 tl x0 x1 x2 x3 nn x5 hm hs =>
   rw [bc,bc,bc,bc,bc] at q
   obtain ⟨⟨⟨⟨⟨p1,p2⟩,p3⟩,p4⟩,p5⟩,p6⟩:=q
   have p1':=eq_of_beq p1
   have p2':=eq_of_beq p2
   have p6':=eq_of_beq p6
   have p3':cd.hasDel=false:=by simpa using p3
   subst p1' p2'
   obtain ⟨f1,f2,f3,f4,f5,f6,f7,f8,f9,f10,f11⟩:=cd
   have hm':f3=Value.ref C1::tl:=hm
   have p3'':f11=false:=p3'
   subst hm' p3''
   have hsl:sl=#[x0,x1,x2,x3,some (.builtin nn),x5]:=by
    cases sl with
    |mk l =>
     have:l=[x0,x1,x2,x3,some (.builtin nn),x5]:=hs
     rw [this]
   subst hsl
   have nsok:=PySem.W.isNs_of_in X p5
   exact ⟨tl,f4,f1,f5,f2,f6,f7,f8,f9,f10,dd,x0,x1,x2,x3,x5,_,X _ _ ho,.of_isNs nsok,PySem.W.nsMap_none_of_in X p5 p6',PySem.W.tail_of_in X p4⟩
  ·exact absurd q (by decide)
 ·exact absurd q (by decide)
def CXE (P:Ac)(w:Ah):CXT:=λouter H s E e s' =>
 ∃(a C:Aj) (a0:Ag) (B:Heap) (H':Hp),e=.ref a∧s'.os=s.os∧AllBare s'.gens∧Un (frs outer) [] H H' s.heap s'.heap∧HOk P w H' B ∧
  Heap.FlyingW B outer a (.ref C) a0 s'.heap∧(∀b o,s.heap.get? b=some o→b∉frs outer→∃o',B.get? b=some o'∧(H b=none→o'=o))∧E (.ref C) none H'
theorem CXE.no {P:Ac}{w:Ah}{outer:List Env}{H:Hp}{s s':Ab}{e:Ag}(h:CXE P w outer H s E0 e s'):False:=by
 obtain ⟨_,_,_,_,_,_,_,_,_,_,_,_,q⟩:=h
 exact q
def js (X:Cx)(E:St→XK):Prop:=∀(pins:List (Aj×Obj)) (σ:St) (H:Hp) (s:Ab) (e:Ag) (s':Ab),Inv X pins σ H s→CXE X.prog X.w X.stack H s (E σ) e s'→X.xe e s'
theorem wxz {X:Cx}:js X (λ_=>E0):=λ_ _ _ _ _ _ _ h=>h.no.elim
def wz2 (X:Cx)(E:St→XK):Prop:=∀(pins:List (Aj×Obj)) (σ:St) (H:Hp) (s:Ab) (h':Heap) (e C:Aj) (vs:List Ag),Inv X pins σ H s→Heap.MadeExcOf s.heap h' e (.ref C) vs→E σ (.ref C) none H→X.xe (.ref e) { s with heap:=h' }
theorem qjr {env:Env}{L:Aj}{outer:List Env}(h:env.frame=some L):frs (env::outer)=L::frs outer:=by
 unfold frs
 rw [cW,h]
section
variable {P:Ac}{w:Ah}{K:Aa}{mg:Str→Option Ag}{base:Heap}{N:List Str}{qual:Str}{scope:Scope}{f:Aj}{cdv:Ag}{A:Ae}{outer:List Env}{s0:Ab}{H0:Hp}{E:XK}
theorem qy:js (qwu (CXE P w) P w K mg base N qual scope f cdv A outer s0 H0 E) (λ_=>E):=by
 intro pins σ H s e s' I hx
 obtain ⟨a,C,a0,B,H',rfl,hos,hba,un,hokB,hfl,old,q⟩:=hx
 have ub:=I.base
 have hL:∀b o,s0.heap.get? b=some o→b≠s0.heap.objs.size:=λb o e z=>aS _ (z▸al e)
 have hfs:frs (envOfC qual scope s0.heap.objs.size f cdv::outer)=s0.heap.objs.size::frs outer:=qjr rfl
 have hmem:∀b o,s0.heap.get? b=some o→b∉frs outer→b∉frs (envOfC qual scope s0.heap.objs.size f cdv::outer):=λb o e n=>by
  rw [hfs]
  intro z
  rcases ak.mp z with z|z
  ·exact hL b o e z
  ·exact n z
 have hold:∀b o,s0.heap.get? b=some o→b∉frs outer→∃o',B.get? b=some o'∧(H0 b=none→o'=o):=λb o e n=>by
  obtain ⟨o1,e1⟩:=ub.there b o e nin
  obtain ⟨o2,e2,e3⟩:=old b o1 e1 (hmem b o e n)
  refine ⟨o2,e2,λz=>?_⟩
  have e4:=ub.keep b o e z n nin
  have e5:=ub.free b o e z nin
  rw [e1] at e4
  rw [e3 e5]
  exact az e4
 refine wpAny_leaves_onW I.ok.frames rfl hfl λh' hf' hup=>?_
 have toH:∀b,b∈frs outer→∀o,s0.heap.get? b=some o→H0 b=none→∃sl,h'.get? b=some { o with slots:=sl }:=λb hb o e n=>by
  obtain ⟨sl,e1⟩:=ub.slot b o e n hb nin
  obtain ⟨sl2,e2⟩:=un.slot b _ e1 (ub.free b o e n nin) (by show b∈frs (envOfC qual scope s0.heap.objs.size f cdv::outer);rw [hfs];exact .tail _ hb) nin
  obtain ⟨_,o3,e3,nf⟩:=hfl.2.2.1.mem (b:=b) (by show b∈frs (envOfC qual scope s0.heap.objs.size f cdv::outer);rw [hfs];exact .tail _ hb)
  obtain ⟨sl4,e4⟩:=hup b o3 e3 nf
  rw [e2] at e3
  have e5:=az e3
  exact ⟨sl4,by rw [e4,←e5]⟩
 refine ⟨a,C,a0,B,H',rfl,hos.trans I.os,hba,⟨λb o e n nb _=>?_,λb o e n hb _=>toH b hb o e n,λb o e n _=>?_,λb o e _=>?_,λb xs e=>un.tups b xs (ub.tups b xs e),λb o u e=>un.frzs b o u (ub.frzs b o u e),λb ps e=>?_⟩,hokB,hf',hold,q⟩
 ·obtain ⟨o',e1,e2⟩:=hold b o e nb
  rw [e2 n] at e1
  exact hf'.1 b o e1
 ·obtain ⟨o1,e1⟩:=ub.there b o e nin
  exact un.free b o1 e1 (ub.free b o e n nin) nin
 ·by_cases hb:b∈frs outer
  ·obtain ⟨o1,e1⟩:=ub.there b o e nin
   obtain ⟨o2,e2⟩:=un.there b o1 e1 nin
   obtain ⟨_,o3,e3,nf⟩:=hfl.2.2.1.mem (b:=b) (by show b∈frs (envOfC qual scope s0.heap.objs.size f cdv::outer);rw [hfs];exact .tail _ hb)
   obtain ⟨sl4,e4⟩:=hup b o3 e3 nf
   exact ⟨_,e4⟩
  ·obtain ⟨o',e1,_⟩:=hold b o e hb
   exact ⟨o',hf'.1 b o' e1⟩
 ·obtain ⟨m1,e1⟩:=ub.tbls b ps e
  obtain ⟨m2,e2⟩:=un.tbls b _ e1
  exact ⟨m1++m2,by rw [e2,Array.append_assoc]⟩
theorem zu:wz2 (qwu (CXE P w) P w K mg base N qual scope f cdv A outer s0 H0 E) (λ_=>E):=by
 intro pins σ H s h' e C vs I hx q
 have ub:=I.base
 have hfs:frs (envOfC qual scope s0.heap.objs.size f cdv::outer)=s0.heap.objs.size::frs outer:=qjr rfl
 have hmem:∀b o,s0.heap.get? b=some o→b∉frs outer→b∉frs (envOfC qual scope s0.heap.objs.size f cdv::outer):=λb o e n=>by
  rw [hfs]
  intro z
  rcases ak.mp z with z|z
  ·exact aS _ (z▸al e)
  ·exact n z
 have hfree:∀b∈frs (envOfC qual scope s0.heap.objs.size f cdv::outer),H b=none:=I.stkFree
 have hB:∀b o,s.heap.get? b=some o→b∉frs (envOfC qual scope s0.heap.objs.size f cdv::outer)→(PySem.W.hideAll s.heap (frs (envOfC qual scope s0.heap.objs.size f cdv::outer))).get? b=some o:=λb o e n=>PySem.W.hideAll_get _ e n
 have hokB:HOk P w H (PySem.W.hideAll s.heap (frs (envOfC qual scope s0.heap.objs.size f cdv::outer))):=λb u hb=>by
  refine (I.hok b u hb).stay (λc v hc ec=>hB c v ec λhm=>?_) (λ_ z=>z) (λ_ _ z=>z)
  have hn:=hfree c hm
  rcases hc with rfl|hc
  ·rw [hn] at hb;cases hb
  ·rw [hn] at hc;cases hc
 have hold:∀b o,s0.heap.get? b=some o→b∉frs outer→∃o',(PySem.W.hideAll s.heap (frs (envOfC qual scope s0.heap.objs.size f cdv::outer))).get? b=some o'∧(H0 b=none→o'=o):=λb o e n=>by
  obtain ⟨o1,e1⟩:=ub.there b o e nin
  refine ⟨o1,hB b o1 e1 (hmem b o e n),λz=>?_⟩
  have e4:=ub.keep b o e z n nin
  rw [e1] at e4
  exact az e4
 have hst:s.heap.FunFrames base (envOfC qual scope s0.heap.objs.size f cdv::outer):=I.stack
 have hff:=PySem.W.funFrames_hide (as:=frs (envOfC qual scope s0.heap.objs.size f cdv::outer)) hst (λenv he b hb=>eh.mpr ⟨env,he,hb⟩)
 refine wpAny_leaves_madeW (base:=PySem.W.hideAll s.heap (frs (envOfC qual scope s0.heap.objs.size f cdv::outer))) (h:=s.heap) I.ok.frames rfl (λb o e=>PySem.W.of_hideAll _ e) hff hx λh'' t hf' _ _ hup=>?_
 have toF:∀b,b∈frs outer→∃o,s.heap.get? b=some o∧∃sl,h''.get? b=some { o with slots:=sl }:=λb hb=>by
  obtain ⟨_,o3,e3,nf⟩:=hst.mem (b:=b) (by show b∈frs (envOfC qual scope s0.heap.objs.size f cdv::outer);rw [hfs];exact .tail _ hb)
  exact ⟨o3,e3,hup b o3 (hx.keeps b o3 e3) nf⟩
 refine ⟨e,C,.ref t,_,H,rfl,I.os,I.bare,⟨λb o e1 n nb _=>?_,λb o e1 n hb _=>?_,λb o e1 n _=>ub.free b o e1 n nin,λb o e1 _=>?_,ub.tups,ub.frzs,ub.tbls⟩,hokB,hf',hold,q⟩
 ·obtain ⟨o',e2,e3⟩:=hold b o e1 nb
  rw [e3 n] at e2
  exact hf'.1 b o e2
 ·obtain ⟨sl,e2⟩:=ub.slot b o e1 n hb nin
  obtain ⟨o3,e3,sl3,e4⟩:=toF b hb
  rw [e2] at e3
  have e5:=az e3
  exact ⟨sl3,by rw [e4,←e5]⟩
 ·by_cases hb:b∈frs outer
  ·obtain ⟨o3,e3,sl3,e4⟩:=toF b hb
   exact ⟨_,e4⟩
  ·obtain ⟨o',e2,_⟩:=hold b o e1 hb
   exact ⟨o',hf'.1 b o' e2⟩
end
section
variable {P:Ac}{w:Ah}{K:Aa}{mg:Str→Option Ag}{base:Heap}
end
def qqp (sp:Sp)(E:St→XK)(t:TA):TE:=λσ H Q=>t σ H λvs H1=>sp vs H1 Q (E σ)
def J3 (C:Aj)(m:Str)(sp:Sp)(E:St→XK)(ta:TE)(t:TA):TE:=λσ H Q=>ta σ H λx H1=>∃a dx fs,x=.ref a∧H1 a=some (.ins C dx fs)∧fs.lookup m=none ∧
 t σ H1 λvs H2=>sp (x::vs) H2 Q (E σ)
def qyv (C:Aj)(sp:Sp)(E:St→XK)(t:TA):TE:=λσ H Q=>t σ H λvs H1=>∀x dx,H1 x=none→H1 dx=none→dx≠x →
 sp (.ref x::vs) (upd (upd H1 dx (.own x)) x (.ins C dx [])) (λv H2=>v=.non∧Q (.ref x) H2) (E σ)
section
variable {X:Cx}{k:Nat}{f C:Aj}{fd:Ad}{ps:List Str}{sp:Sp}{E:St→XK}{x m:Str}{p pos apos:Pos}{e o:Expr}{es:List Expr}{ta:TE}{t:TA}
theorem qx5 {pins:List (Aj×Obj)}{σ:St}{H:Hp}{s:Ab}{Q:VK}{us:List Ag}{vs:List V}(F:FnOk X.prog X.w X.K X.mg X.base (CXE X.prog X.w) k f fd ps sp)(hr:Room k X.A)(hb:Binds X.K fd ps [])(hx:js X E)
  (I:Inv X pins σ H s) (r:Vals vs us) (h:sp vs H Q (E σ)):wpAny (model X.prog X.w) X.A (call (.ref f) us) (EP X pins σ Q) X.xe s:=by
 have hl:(us++[]).length=ps.length:=by rw [cg,←r.length];exact F.len _ _ _ _ h
 have hb':=hb s us I.kIn hl
 rw [cg] at hb'
 refine wpAny_call (d6 (F.run X.A X.stack s H ⟨us,[]⟩ us vs Q (E σ) hr I.env0 hb' r h) λr s' hq=>?_)
 cases r with
 |error e=>exact hx pins σ H s e s' I hq
 |ok fl =>
  cases fl with
  |ret u=>exact I.after hq
  |next=>exact False.elim hq
  |brk=>exact False.elim hq
  |cont=>exact False.elim hq
theorem wv2 (F:FnOk X.prog X.w X.K X.mg X.base (CXE X.prog X.w) k f fd ps sp)(hr:Room k X.A)(hg:Gl X x)(hm:X.mg x=some (.ref f))(hk:PySem.W.keepIn X.K (.ref f)=true)(hb:Binds X.K fd ps [])(hx:js X E)
  (ha:PA X (e::es) t) (hdb:(x==("__debug__" : Str))=false:=by decide) (he:starEach (e::es) X.env=(false,eval e X.env)::starEach es X.env:=by rfl) (hpl:(backTo pos (starEach es X.env)).any (·.1)=false:=by rfl) :
  PE X (.Call (.Name x p) (e::es) [] pos) (qqp sp E t):=by
 intro pins s σ H Q I h
 refine cB (W1 I hg hm ?_ hdb)
 refine eo (h₀:=X.base) I.ok.mod.kin hk (thn (ha pos pins s σ H _ I h) λus s1 ⟨vs,H1,I1,r,q⟩=>⟨I1.kIn,?_⟩) he hpl
 exact qx5 F hr hb hx I1 r q
theorem wvn {pl:Sem Bool}(he:PE X o ta)(c:Cls X.K C)(hm:Meth X.K C m f)(F:FnOk X.prog X.w X.K X.mg X.base (CXE X.prog X.w) k f fd ps sp)(hr:Room k X.A)(hb:Binds X.K fd ps [])(hx:js X E)(ha:PA X (e::es) t)
  (hst:starEach (e::es) X.env=(false,eval e X.env)::starEach es X.env:=by rfl) (hpl:(backTo pos (starEach es X.env)).any (·.1)=false:=by rfl)
  (ht:eval (.Call (.Attribute o m apos) (e::es) [] pos) X.env=(do
   let ov ←eval o X.env
   standAt apos.atName
   let (f,first) ←holding [ov] (getMethod ov m pl)
   callWith pos f first (backTo pos (starEach (e::es) X.env)) (backToKw pos (keywordEach [] X.env))):=by rfl) :
  PE X (.Call (.Attribute o m apos) (e::es) [] pos) (J3 C m sp E ta t):=by
 intro pins s σ H Q I h
 refine PySem.W.methodCall_KW (pl:=pl) (thn (he pins s σ H _ I h) λu s1 ⟨x,H1,I1,rx,a,dx,fs,ex,ea,l,q⟩=>?_) ht
 subst ex
 obtain rfl:u=Value.ref a:=rx
 refine qqk I1 ea c hm l ?_
 refine eo (first:=[.ref a]) (h₀:=X.base) I.ok.mod.kin hm.kp (thn (ha pos pins s1 σ H1 _ I1 q) λus s2 ⟨vs,H2,I2,r,q2⟩=>⟨I2.kIn,?_⟩) hst hpl
 exact qx5 (us:=.ref a::us) (vs:=.ref a::vs) F hr hb hx I2 (.cons rfl r) q2
theorem ww3 {pl:Sem Bool}(he:PE X o ta)(c:Cls X.K C)(hm:Meth X.K C m f)(F:FnOk X.prog X.w X.K X.mg X.base (CXE X.prog X.w) k f fd ps sp)(hr:Room k X.A)(hb:Binds X.K fd ps [])(hx:js X E)
  (ht:eval (.Call (.Attribute o m apos) [] [] pos) X.env=(do
   let ov ←eval o X.env
   standAt apos.atName
   let (f,first) ←holding [ov] (getMethod ov m pl)
   callWith pos f first (backTo pos (starEach [] X.env)) (backToKw pos (keywordEach [] X.env))):=by rfl) :
  PE X (.Call (.Attribute o m apos) [] [] pos) (J3 C m sp E ta j3):=by
 intro pins s σ H Q I h
 refine PySem.W.methodCall_KW (pl:=pl) (thn (he pins s σ H _ I h) λu s1 ⟨x,H1,I1,rx,a,dx,fs,ex,ea,l,q⟩=>?_) ht
 subst ex
 obtain rfl:u=Value.ref a:=rx
 refine qqk I1 ea c hm l ?_
 exact PySem.W.callWith_K0 (first:=[.ref a]) I1.kIn hm.kp (qx5 (us:=[.ref a]) (vs:=[.ref a]) F hr hb hx I1 (.cons rfl .nil) q)
theorem qxg {pins:List (Aj×Obj)}{σ:St}{H:Hp}{s:Ab}{Q:VK}{us:List Ag}{vs:List V}(M:Mk X.K C f)(F:FnOk X.prog X.w X.K X.mg X.base (CXE X.prog X.w) k f fd ps sp)(hr:Room (k+1) X.A)(hb:Binds X.K fd ps [])
  (hx:js X E) (I:Inv X pins σ H s) (r:Vals vs us)
  (h:∀x dx,H x=none→H dx=none→dx≠x→sp (.ref x::vs) (upd (upd H dx (.own x)) x (.ins C dx [])) (λv H2=>v=.non∧Q (.ref x) H2) (E σ)) :
  wpAny (model X.prog X.w) X.A (call (.ref C) us) (EP X pins σ Q) X.xe s:=by
 have hq:=h (s.heap.objs.size+1) s.heap.objs.size (I.hok.fresh (Nat.le_succ _)) (I.hok.fresh (ah _)) (ar (Nat.lt_succ_self _))
 have I2:=Inv.made (C:=C) I
 have r2:Vals (V.ref (s.heap.objs.size+1)::vs) (Value.ref (s.heap.objs.size+1)::us):=.cons rfl r
 have hl:((Value.ref (s.heap.objs.size+1)::us)++[]).length=ps.length:=by
  rw [cg,←r2.length]
  exact F.len _ _ _ _ hq
 have hb':=hb _ (Value.ref (s.heap.objs.size+1)::us) I2.kIn hl
 rw [cg] at hb'
 refine wpAny_call (wzm (f:=f) I.kIn M.makes M.init (dH.mp M.fn) (d6 (F.run _ X.stack _ _ ⟨Value.ref (s.heap.objs.size+1)::us,[]⟩ (Value.ref (s.heap.objs.size+1)::us) _ _ (E σ) (hr.make C us [])
  (I2.env0.make C us []) hb' r2 hq) λr s' hq'=>?_))
 cases r with
 |error e=>exact hx pins σ _ _ e s' I2 hq'
 |ok fl =>
  cases fl with
  |ret u =>
   obtain ⟨v,H',I3,rv,ev,q3⟩:=I2.after hq'
   subst ev
   exact ⟨rv,⟨V.ref (s.heap.objs.size+1),H',I3,rfl,q3⟩⟩
  |next=>exact False.elim hq'
  |brk=>exact False.elim hq'
  |cont=>exact False.elim hq'
theorem wkx (M:Mk X.K C f)(F:FnOk X.prog X.w X.K X.mg X.base (CXE X.prog X.w) k f fd ps sp)(hr:Room (k+1) X.A)(hg:Gl X x)(hm:X.mg x=some (.ref C))(hb:Binds X.K fd ps [])(hx:js X E)
  (ha:PA X (e::es) t) (hdb:(x==("__debug__" : Str))=false:=by decide) (he:starEach (e::es) X.env=(false,eval e X.env)::starEach es X.env:=by rfl) (hpl:(backTo pos (starEach es X.env)).any (·.1)=false:=by rfl) :
  PE X (.Call (.Name x p) (e::es) [] pos) (qyv C sp E t):=by
 intro pins s σ H Q I h
 refine cB (W1 I hg hm ?_ hdb)
 refine eo (h₀:=X.base) I.ok.mod.kin M.kp (thn (ha pos pins s σ H _ I h) λus s1 ⟨vs,H1,I1,r,q⟩=>⟨I1.kIn,?_⟩) he hpl
 exact qxg M F hr hb hx I1 r q
end
structure ExcC (K:Aa)(C:Aj):Prop where
 q:PySem.W.excIn K C [.type "ValueError",.type "Exception",.type "BaseException",.type "object"] "ValueError.__new__" = true
def tRaise (C:Aj)(E:St→XK)(t:TA):TS:=λD σ H=>t σ H λvs H1=>vs.length≤sizeLine∧E σ (.ref C) none H1
section
variable {X:Cx}{C:Aj}{E:St→XK}{x:Str}{np cpos pos:Pos}{e:Expr}{es:List Expr}{t:TA}
theorem zt (hc:X.calm=true)(c:ExcC X.K C)(hR:wz2 X E)(hg:Gl X x)(hm:X.mg x=some (.ref C))(ha:PA X (e::es) t)(hdb:(x==("__debug__" : Str))=false:=by decide)
  (he:starEach (e::es) X.env=(false,eval e X.env)::starEach es X.env:=by rfl) (hpl:(backTo cpos (starEach es X.env)).any (·.1)=false:=by rfl) :
  PS X (.Raise (some (.Call (.Name x np) (e::es) [] cpos)) none pos) (tRaise C E t):=by
 intro pins s σ H D I h
 obtain ⟨tl,N,a1,a2,a3,a4,a5,a6,a7,a8,a9,b0,b1,b2,b3,b5,mN,hC,hN,hni,T⟩:=wyv I.ok.mod.kin c.q
 refine wpAny_Raise_call_subT (C:=C) (nm:=a1) (q:=a2) (N:=N) (bs:=a3) (bm:=tl) (hdct:=a4) (sn:=a5) (sub:=a6) (ab:=a7) (col:=a8) (dd:=a9) (k0:=b0) (k1:=b1) (k2:=b2) (k3:=b3) (k5:=b5)
  eA (mN:=mN) (T.hasType eA.hasBase) (I.ok.hd hc) (by rw [he];show (false||(backTo cpos (starEach es X.env)).any (·.1))=false;rw [hpl];rfl) hni (W1 I hg hm ⟨rfl,?_⟩ hdb)
 have hw:=ha cpos pins s σ H _ I h
 rw [he] at hw ⊢
 refine cn (aR hw (λus s1 ⟨vs,H1,I1,r,hl,q⟩=>⟨rfl,by rw [←r.length];exact hl,I1.bk _ _ hC,hN.keeps I1.bk,T.keeps I1.bk,λh' e hx=>hR pins σ H1 s1 h' e C us I1 hx q⟩) λ_ _ z=>z)
end
def Sm (n:Nat)(i:Int):Prop:=i.natAbs<2 ^ n
theorem Sm.mono {n m:Nat}{i:Int}(h:Sm n i)(hm:n≤m):Sm m i:=aD h (Nat.pow_le_pow_right (by decide) hm)
theorem Sm.of_le {n:Nat}{i j:Int}(h:Sm n j)(e:i.natAbs≤j.natAbs):Sm n i:=el e h
theorem Sm.log {n:Nat}{i:Int}(h:Sm n i)(hn:n≤9000):i.natAbs.log2<9000:=by
 by_cases h0:i.natAbs=0
 ·rw [h0]
  decide
 ·exact aD ((Nat.log2_lt h0).mpr h) hn
theorem Sm.noPl {n:Nat}{i j:Int}(h:Sm n j)(hn:n≤9000):Builtin.divisionGoesByPylong i j=false:=PyProof.noPylong_of_log2 (h.log hn)
section
variable {X:Cx}
theorem zk:OpR X (binaryOp .Mult) (rI IntMulOk λi j=>.int (i*j)):=opI λ_ _ _ _ _ _ _ hc q=>mul_int q hc
theorem jb:OpR X (binaryOp .FloorDiv) (rI (λ_ j=>0<j∧Sm 9000 j) λi j=>.int (i/j)):=opI λi j _ _ _ _ _ hc q =>
 floordiv_int (by lia) (by rw [Int.fdiv_eq_ediv_of_nonneg i (Int.le_of_lt hc.1)];exact q) (.inl (hc.2.noPl (ah _)))
theorem ud:jx X (.builtin "isinstance") (λxs H Q=>∃x T t b,xs=[x,.ty T]∧TyOf X.K H x t∧PySem.W.kitOne X.K t (.type T)=some b∧Q (.bl b) H):=by
 intro pins s σ H xs us Q I r h
 obtain ⟨x,T,t,b,rfl,ty,e,q⟩:=h
 obtain ⟨u,u',rfl,r1,r2⟩:=wz9 r
 cases r2
 exact wwx I r1 ty e λtk=>⟨.bl b,H,I.tok tk,rfl,q⟩
end
mutual
def RD (K:Aa)(H:Hp):PyData→V→Prop
 |.none,v=>v=.non
 |.bool b,v=>v=.bl b
 |.int i,v=>v=.int i
 |.str x,v=>v=.str x
 |.list ds,v=>∃a xs,v=.ref a∧SqL K H a xs∧RDs K H ds xs
 |.tuple ds,v=>∃a xs,v=.ref a∧SqT K H a xs∧RDs K H ds xs
 |.dict _,_=>False
def RDs (K:Aa)(H:Hp):List PyData→List V→Prop
 |[],xs=>xs=[]
 |d::ds,xs=>∃y ys,xs=y::ys∧RD K H d y∧RDs K H ds ys
end
section
variable {X:Cx}{pins:List (Aj×Obj)}{σ:St}{H:Hp}{s:Ab}
mutual
theorem uz (I:Inv X pins σ H s):∀(d:PyData) (v:V) (u:Ag),RD X.K H d v→RelV v u→∃as,Reads s.heap u d as
 |.none,v,u,h,r=>by
  rw [RD] at h;subst h
  cases (show u=Value.none from r)
  exact ⟨_,.none⟩
 |.bool b,v,u,h,r=>by
  rw [RD] at h;subst h
  cases (show u=Value.bool b from r)
  exact ⟨_,.bool b⟩
 |.int i,v,u,h,r=>by
  rw [RD] at h;subst h
  obtain ⟨t,rfl⟩:=(show ∃t,u=Value.int i t from r)
  exact ⟨_,.int i t⟩
 |.str x,v,u,h,r=>by
  rw [RD] at h;subst h
  obtain ⟨t,rfl⟩:=(show ∃t,u=Value.str x t from r)
  exact ⟨_,.str x t⟩
 |.list ds,v,u,h,r=>by
  rw [RD] at h
  obtain ⟨a,xs,rfl,hs,hd⟩:=h
  cases (show u=Value.ref a from r)
  obtain ⟨its,rv,⟨o,n,e1,e2,_,e3⟩,_⟩:=I.list hs
  obtain ⟨as,ha⟩:=Zz I ds xs its hd rv
  exact ⟨_,.list e1 e2 e3 (by simpa using ha)⟩
 |.tuple ds,v,u,h,r=>by
  rw [RD] at h
  obtain ⟨a,xs,rfl,hs,hd⟩:=h
  cases (show u=Value.ref a from r)
  obtain ⟨its,rv,⟨o,e1,e2,n,e3⟩,_⟩:=I.tuple hs
  obtain ⟨as,ha⟩:=Zz I ds xs its hd rv
  exact ⟨_,.tuple e1 e2 e3 (by simpa using ha)⟩
 |.dict _,_,_,h,_=>by
  rw [RD] at h
  exact h.elim
theorem Zz (I:Inv X pins σ H s):∀(ds:List PyData) (vs:List V) (us:List Ag),RDs X.K H ds vs→Vals vs us→∃as,ReadsAll s.heap us ds as
 |[],vs,us,h,r=>by
  rw [RDs] at h;subst h
  cases r
  exact ⟨_,.nil⟩
 |d::ds,vs,us,h,r=>by
  rw [RDs] at h
  obtain ⟨y,ys,rfl,h1,h2⟩:=h
  cases r with
  |cons r1 r2 =>
   obtain ⟨as,a1⟩:=uz I d y _ h1 r1
   obtain ⟨bs,a2⟩:=Zz I ds ys _ h2 r2
   exact ⟨_,.cons a1 a2⟩
end
def rEqD (K:Aa)(neg:Bool):R2:=λx y H Q=>∃d e,RD K H d x∧RD K H e y∧d.canLay0=true∧e.canLay0=true∧min d.depth e.depth≤60∧Q (.bl (if neg then !PyData.eqv d e else PyData.eqv d e)) H
theorem qzy (hu:X.A.units+64<cLine):OpR X (compareOp .Eq) (rEqD X.K false):=by
 intro pins s σ H x y v u Q I rx ry h
 obtain ⟨d,e,h1,h2,c1,c2,dp,q⟩:=h
 obtain ⟨as,a1⟩:=uz I d x v h1 rx
 obtain ⟨bs,a2⟩:=uz I e y u h2 ry
 exact PySem.SeqAt.compareEq_reads a1 a2 c1 c2 (by lia) ⟨.bl _,H,I,rfl,q⟩
theorem qvf (hu:X.A.units+64<cLine):OpR X (compareOp .NotEq) (rEqD X.K true):=by
 intro pins s σ H x y v u Q I rx ry h
 obtain ⟨d,e,h1,h2,c1,c2,dp,q⟩:=h
 obtain ⟨as,a1⟩:=uz I d x v h1 rx
 obtain ⟨bs,a2⟩:=uz I e y u h2 ry
 exact PySem.SeqAt.compareNe_reads a1 a2 c1 c2 (by lia) ⟨.bl _,H,I,rfl,q⟩
end
def ptD (p:Int×Int):PyData:=.tuple [.int p.1,.int p.2]
theorem Y1:∀(xs ys:List Int),PyData.eqvAll (xs.map .int) (ys.map .int)=decide (xs=ys)
 |[],[]=>rfl
 |[],_::_=>rfl
 |_::_,[]=>rfl
 |x::xs,y::ys=>by
  rw [ax,ax,PyData.eqvAll,Y1 xs ys,PyData.eqv]
  by_cases h:x=y
  ·subst h;simp
  ·simp [h]
theorem qvq (p q:Int×Int):PyData.eqv (ptD p) (ptD q)=decide (p=q):=by
 obtain ⟨a,b⟩:=p
 obtain ⟨c,d⟩:=q
 unfold ptD
 rw [PyData.eqv]
 have:=Y1 [a,b] [c,d]
 rw [ax,ax,bD,ax,ax,bD] at this
 rw [this]
 simp
theorem qks:∀(xs:List Int),PyData.canLayAll0 (xs.map .int)=true
 |[]=>rfl
 |x::xs=>by rw [ax,PyData.canLayAll0,qks xs];rfl
theorem qvp:∀(xs:List Int),PyData.depthAll (xs.map .int)≤1
 |[]=>by simp [PyData.depthAll]
 |x::xs=>by
  have:=qvp xs
  simp only [ax,PyData.depthAll,PyData.depth]
  lia
theorem qu2 {K:Aa}{H:Hp}:∀(xs:List Int),RDs K H (xs.map .int) (xs.map V.int)
 |[]=>by rw [bD,bD,RDs]
 |x::xs=>by
  rw [ax,ax,RDs]
  exact ⟨_,_,rfl,by rw [RD],qu2 xs⟩
end L2
namespace L2
open PySem PySem.Spec PyProof.Rows
section
variable {P:Ac}{w:Ah}{K:Aa}{mg:Str→Option Ag}{base:Heap}
theorem Fun.okX {x qual:Str}{st:Stmt}{f:Aj}{fd:Ad}{N ps:List Str}{k:Nat}{sp:Sp}(F:Fun K x qual st f fd)(S:FnScope N ps (wu st))(len:∀vs H Q E,sp vs H Q E→vs.length=ps.length)
  (body:∀(cdv:Ag) (A:Ae) (outer:List Env) (s:Ab) (H:Hp) (vs:List V) (Q:VK) (E:XK),Room k (A.deeper (envOfC qual (wu st) s.heap.objs.size f cdv))→sp vs H Q E →
   ∃t,PSs (qwu (CXE P w) P w K mg base N qual (wu st) f cdv A outer s H E) (w8 st) t∧t { nx:=λ_ H'=>Q .non H',rt:=Q } (W6 N vs) H):FnOk P w K mg base (CXE P w) (k+1) f fd ps sp:=by
 obtain ⟨oc,od,kV,doc,pm,an,cdv,ct,osl,rfl,lk,hcd⟩:=F.ex
 exact fn_of lk hcd S len λA outer s H vs Q E hr hsp=>body cdv A outer s H vs Q E hr hsp
structure DefIn (K:Aa)(x:Str)(st:Stmt):Prop where
 ex:∃f fd,PySem.W.nsIn K mainGlobals x=some (some (.ref f))∧Fun K x x st f fd
theorem def_mk {x:Str}{st:Stmt}{f:Aj}{oc:Ag}{od an:Option Aj}{osl:Array (Option Ag)}{kV doc pm cdv ct:Ag}(a:PySem.W.nsIn K mainGlobals x=some (some (.ref f)))
  (l:K.lookup f=some ⟨oc,od,.func (PySem.W.fnOf x x (jw st) (w8 st) (wu st) .none kV doc pm an cdv ct),osl⟩) (c:PySem.W.codeIn K cdv x=true) (k:PySem.W.keepIn K (.ref f)=true):DefIn K x st:=⟨_,_,a,wz7 l c k⟩
def zb (x:Str)(st:Stmt)(ps:List Str):Prop:=∀(kV doc pm:Ag) (an:Option Aj) (cdv ct:Ag) (us:List Ag),us.length=ps.length→bindArgs (PySem.W.fnOf x x (jw st) (w8 st) (wu st) .none kV doc pm an cdv ct) ⟨us,[]⟩=pure (ps.zip us)
structure Cal (P:Ac)(w:Ah)(K:Aa)(mg:Str→Option Ag)(base:Heap)(x:Str)(k:Nat)(sp:Sp):Prop where
 ex:∃f fd ps,mg x=some (.ref f)∧FnOk P w K mg base (CXE P w) k f fd ps sp∧PySem.W.keepIn K (.ref f)=true∧Binds K fd ps []
theorem DefIn.cal {x:Str}{st:Stmt}{ps:List Str}{k:Nat}{sp:Sp}{h:Heap}(d:DefIn K x st)(KX:K.In h)(G:h.Ns mainGlobals mg)(b:zb x st ps)(ok:∀f fd,Fun K x x st f fd→FnOk P w K mg base (CXE P w) k f fd ps sp):Cal P w K mg base x k sp:=by
 obtain ⟨f,fd,a,F⟩:=d.ex
 exact ⟨f,fd,ps,aG KX G a,ok f fd F,F.kp,F.binds b⟩
end
section
variable {X:Cx}{x:Str}{k:Nat}{sp:Sp}{E:St→XK}{p pos:Pos}{e:Expr}{es:List Expr}{t:TA}
theorem Jr (c:Cal X.prog X.w X.K X.mg X.base x k sp)(hr:Room k X.A)(hg:Gl X x)(hx:js X E)
  (ha:PA X (e::es) t) (hdb:(x==("__debug__" : Str))=false:=by decide) (he:starEach (e::es) X.env=(false,eval e X.env)::starEach es X.env:=by rfl) (hpl:(backTo pos (starEach es X.env)).any (·.1)=false:=by rfl) :
  PE X (.Call (.Name x p) (e::es) [] pos) (qqp sp E t):=by
 obtain ⟨f,fd,ps,hm,F,kp,b⟩:=c.ex
 exact wv2 F hr hg hm kp b hx ha hdb he hpl
end
def tCut (t u:TS):TS:=λD σ H=>∃R:St→Hp→Prop,t { D with nx:=R } σ H∧∀σ' H',R σ' H'→u D σ' H'
theorem qvc {X:Cx}{st:Stmt}{rest:List Stmt}{t u:TS}(h1:PS X st t)(h2:PSs X rest u):PSs X (st::rest) (tCut t u):=by
 intro pins s σ H D I ⟨R,h,hR⟩
 refine eS (thn (h1 pins s σ H { D with nx:=R } I h) λf s1 q=>?_)
 cases f with
 |next =>
  obtain ⟨σ1,H1,I1,q1⟩:=q
  exact h2 pins s1 σ1 H1 D I1 (hR σ1 H1 q1)
 |brk=>exact q
 |cont=>exact q
 |ret u=>exact q
theorem k6 {c A B:Prop}[Decidable c](h1:c→A)(h2:¬ c→B):if decide c=true then A else B:=by
 by_cases h:c
 ·rw [bn h]
  exact j8 (h1 h)
 ·rw [bh h]
  exact Qy (h2 h)
theorem wkz {c A B:Prop}[Decidable c](h1:¬ c→A)(h2:c→B):if (!decide c)=true then A else B:=by
 by_cases h:c
 ·rw [bn h]
  exact Qy (h2 h)
 ·rw [bh h]
  exact j8 (h1 h)
theorem deqI {i j:Int}:decide (V.int i=V.int j)=decide (i=j):=by
 by_cases h:i=j
 ·subst h;simp
 ·simp [h]
theorem jz {i j:Int}{A B:Prop}(h1:i=j→A)(h2:i≠j→B):if decide (V.int i=V.int j)=true then A else B:=by
 rw [deqI]
 exact k6 h1 h2
theorem wzy {i j:Int}{A B:Prop}(h1:i≠j→A)(h2:i=j→B):if (!decide (V.int i=V.int j))=true then A else B:=by
 rw [deqI]
 exact wkz h1 h2
theorem Same.upd {H:Hp}{p:Aj}{o:HO}(n:H p=none):Same H (upd H p o):=λb u e=>by
 rw [wj (qg e n)]
 exact e
theorem Same.rd {H H':Hp}{a:Aj}{o:HO}(h:Same H H')(r:Rd H a o):Rd H' a o:=by
 rcases r with r|⟨u,r⟩
 ·exact .inl (h a _ r)
 ·exact .inr ⟨u,h a _ r⟩
theorem Same.sqt {K:Aa}{H H':Hp}{a:Aj}{xs:List V}(h:Same H H')(s:SqT K H a xs):SqT K H' a xs:=by
 rcases s with s|s
 ·exact .inl (h.rd s)
 ·exact .inr s
theorem Same.sql {K:Aa}{H H':Hp}{a:Aj}{xs:List V}(h:Same H H')(s:SqL K H a xs):SqL K H' a xs:=h.seq s
theorem SqT.new {K:Aa}{H:Hp}{p:Aj}{xs:List V}:SqT K (upd H p (.tup xs)) p xs:=SqT.of qh
theorem SqL.new {K:Aa}{H:Hp}{p:Aj}{xs:List V}:SqL K (upd H p (.lst xs)) p xs:=SqL.of qh
theorem Wj:bootBuiltins "abs" = some (.builtin "abs"):=by decide +kernel
theorem wxf:bootBuiltins "all" = some (.builtin "all"):=by decide +kernel
theorem Yh {ns:List Int}{i:Int}(h0:0≤i)(h1:i<ns.length):atI (ns.map V.int) i=some (V.int (ns.getD i.toNat 0)):=by
 have hl:i.toNat<ns.length:=by lia
 have e:(ns.map V.int)[i.toNat]?=some (V.int (ns.getD i.toNat 0)):=by
  rw [aK,ay,au hl]
  rfl
 have:=Yv e
 rwa [Int.toNat_of_nonneg h0] at this
def qv2 (ns:List Int)(i:Int):Int:=if i<ns.length then ns.getD i.toNat 0 else if (ns.length:Int)=0 then 7*i+3 else ns.getD (i%ns.length).toNat 0+1009*i
def divs (c:Int):Nat→Int
 |0=>c
 |n+1=>divs c n/1000
def qj4 (K:Aa):Sp:=λvs H Q _=>∃(a:Aj) (ns:List Int) (i:Int),vs=[.ref a,.int i]∧SqL K H a (ns.map V.int)∧0≤i∧∀r,r=qv2 ns i→Q (.int r) H
def y9 (c:Int):Int:=if c<0 then -c else c
def qvy (c t:Int):Int:=(c%1000003*48271+t*7919+101)%999983
def qjk (c t:Int):Int:=(qvy c t*qvy c t+c%1000003*31+t*104729)%1000033
def qv6 (c t:Int):Int:=if 10 ^ 18≤y9 c then (if c<0 then divs (y9 c) t.toNat%1000 else divs (y9 c) t.toNat) else (qjk c t*qjk c t+qvy c t*17+t*30011)%999979
def qk5 (ns:List Int)(i t m:Int):Int:=qv6 (qv2 ns i) t%m
theorem wx0 (ns:List Int)(i t m:Int)(h:0<m):0≤qk5 ns i t m:=bE _ (by lia)
theorem wz5 (ns:List Int)(i t m:Int)(h:0<m):qk5 ns i t m<m:=bj _ h
theorem wxx {c t:Int}(h:10 ^ 18≤y9 c)(n:c<0):qv6 c t=divs (y9 c) t.toNat%1000:=by rw [qv6,aj h,aj n]
theorem wq8 {c t:Int}(h:10 ^ 18≤y9 c)(n:¬ c<0):qv6 c t=divs (y9 c) t.toNat:=by rw [qv6,aj h,af n]
theorem wx1 {c t:Int}(h:¬ 10 ^ 18≤y9 c):qv6 c t=(qjk c t*qjk c t+qvy c t*17+t*30011)%999979:=by rw [qv6,af h]
def y0 (K:Aa):Sp:=λvs H Q _=>∃(a:Aj) (ns:List Int) (i t m:Int),vs=[.ref a,.int i,.int t,.int m]∧SqL K H a (ns.map V.int)∧0≤i∧0≤t∧t<1000000∧0<m ∧
 ∀r,r=qk5 ns i t m→0≤r→r<m→Q (.int r) H
theorem Sm.small {n:Nat}{i:Int}(h1:-(2 ^ 64)≤i)(h2:i≤2 ^ 64)(hn:65≤n):Sm n i:=by
 refine Sm.mono (n:=65) ?_ hn
 unfold Sm
 lia
def qus (K:Aa):Sp:=λvs H Q _=>∃(a:Aj) (ns:List Int),vs=[.ref a]∧SqL K H a (ns.map V.int)∧ns.length≤63∧∀H',Q (.bl true) H'
theorem sz1 {x:V}:[x].length≤sizeLine:=by show 1≤sizeLine;decide
theorem sz2 {x y:V}:[x,y].length≤sizeLine:=by show 2≤sizeLine;decide
theorem sz0:([]:List V).length≤sizeLine:=by show 0≤sizeLine;decide
end L2
namespace L2
open PySem
def Z2 (x y:Int):Int:=((Nat.gcd x.toNat y.toNat:Nat):Int)
theorem wq2 {x:Int}(h:0≤x):Z2 x 0=x:=by
 unfold Z2
 have:(0:Int).toNat=0:=rfl
 rw [this,Nat.gcd_zero_right]
 lia
theorem wwr {x y:Int}(hx:0≤x)(hy:0<y):Z2 y (x%y)=Z2 x y:=by
 unfold Z2
 have e:(x%y).toNat=x.toNat%y.toNat:=by
  have h1:x=(x.toNat:Int):=by lia
  have h2:y=(y.toNat:Int):=by lia
  have h3:x%y=((x.toNat%y.toNat:Nat):Int):=by
   conv=>lhs;rw [h1,h2]
   exact (Int.natCast_emod _ _).symm
  rw [h3]
  exact du _
 rw [e,Nat.gcd_comm y.toNat,←Nat.gcd_rec,Nat.gcd_comm]
theorem qu3 (t:Int):y9 t=(t.natAbs:Int):=by
 unfold y9
 split <;> lia
theorem qu5 (t:Int):0≤y9 t:=by
 rw [qu3]
 lia
theorem k9 (t b:Int):Z2 (y9 t) b=((Nat.gcd t.natAbs b.toNat:Nat):Int):=by
 unfold Z2
 rw [qu3,du]
def gOf (t b:Int):Int:=Z2 (y9 t) b
def wg (t b:Int):Int×Int:=(t/gOf t b,b/gOf t b)
theorem jf {t b:Int}(h:1≤b):1≤gOf t b:=by
 unfold gOf
 rw [k9]
 have:0<Nat.gcd t.natAbs b.toNat:=Nat.gcd_pos_of_pos_right _ (by lia)
 lia
theorem wxy {t b:Int}(h:1≤b):gOf t b≤b:=by
 unfold gOf
 rw [k9]
 have:Nat.gcd t.natAbs b.toNat≤b.toNat:=Nat.gcd_le_right _ (by lia)
 lia
theorem wxq {t b:Int}(h:1≤b):gOf t b∣b:=by
 unfold gOf
 rw [k9]
 have h1:((Nat.gcd t.natAbs b.toNat:Nat):Int)∣(b.toNat:Int):=eU.mpr (Nat.gcd_dvd_right _ _)
 have h2:(b.toNat:Int)=b:=by lia
 rwa [h2] at h1
theorem www {t b:Int}:gOf t b∣t:=by
 unfold gOf
 rw [k9]
 have h1:((Nat.gcd t.natAbs b.toNat:Nat):Int)∣(t.natAbs:Int):=eU.mpr (Nat.gcd_dvd_left _ _)
 exact Int.dvd_natAbs.mp h1
theorem qkd {t b:Int}:gOf t b*(t/gOf t b)=t:=dM www
theorem qqu {t b:Int}(h:1≤b):gOf t b*(b/gOf t b)=b:=dM (wxq h)
theorem wwh {t b:Int}(h:1≤b):(wg t b).1*b=t*(wg t b).2:=by
 unfold wg
 dsimp only
 have h1:=qkd (t:=t) (b:=b)
 have h2:=qqu (t:=t) (b:=b) h
 conv=>lhs;rw [←h2]
 conv=>rhs;rw [←h1]
 rw [h1,h2]
 have e1:t/gOf t b*b=t/gOf t b*(gOf t b*(b/gOf t b)):=by rw [h2]
 have e2:t*(b/gOf t b)=gOf t b*(t/gOf t b)*(b/gOf t b):=by rw [h1]
 rw [e1,e2,←Int.mul_assoc,fg (t/gOf t b)]
theorem Wc {t b:Int}(h:1≤b):1≤(wg t b).2:=by
 show 1≤b/gOf t b
 have h2:=qqu (t:=t) (b:=b) h
 have h3:=jf (t:=t) h
 have:0<b/gOf t b:=by
  rcases cu 0 (b/gOf t b) with z|z
  ·exact z
  ·have:=bt z (show 0≤gOf t b by lia)
   rw [h2,Int.mul_zero] at this
   lia
 lia
theorem qj7 {t b:Int}(h:1≤b):(wg t b).2≤b:=Int.ediv_le_self _ (by lia)
theorem qy8 {t b:Int}(h:1≤b):gOf (wg t b).1 (wg t b).2=1:=by
 have h3:=jf (t:=t) h
 have hb:=Wc (t:=t) h
 obtain ⟨g,hg⟩:∃g:Nat,gOf t b=(g:Int):=⟨_,by unfold gOf;exact k9 t b⟩
 have g1:0<g:=by lia
 have hgg:g=Nat.gcd t.natAbs b.toNat:=by
  have:(g:Int)=((Nat.gcd t.natAbs b.toNat:Nat):Int):=by rw [←hg];unfold gOf;exact k9 t b
  lia
 have et:g*(wg t b).1.natAbs=t.natAbs:=by
  have:=qkd (t:=t) (b:=b)
  have e:=bI Int.natAbs this
  rw [Int.natAbs_mul,hg] at e
  simpa [wg,hg] using e
 have eb:g*(wg t b).2.toNat=b.toNat:=by
  have:=qqu (t:=t) (b:=b) h
  rw [hg] at this
  have q:(wg t b).2=b/(g:Int):=by unfold wg;rw [hg]
  have q2:b/(g:Int)=((b/(g:Int)).toNat:Int):=by rw [←q];lia
  rw [q]
  rw [q2] at this
  have:((g*(b/(g:Int)).toNat:Nat):Int)=b:=by rw [fk];exact this
  lia
 unfold gOf
 rw [k9]
 have key:g*Nat.gcd (wg t b).1.natAbs (wg t b).2.toNat=g*1:=by
  rw [←Nat.gcd_mul_left,et,eb,←hgg,Nat.mul_one]
 have:=Nat.eq_of_mul_eq_mul_left g1 key
 rw [this]
 rfl
theorem wyy {t b c:Int}(h:1≤b)(hc:1≤c):gOf (t*c) (b*c)=gOf t b*c:=by
 unfold gOf
 rw [k9,k9]
 have e1:(t*c).natAbs=t.natAbs*c.toNat:=by
  rw [Int.natAbs_mul]
  have:c.natAbs=c.toNat:=by lia
  rw [this]
 have e2:(b*c).toNat=b.toNat*c.toNat:=by
  have hb:b=(b.toNat:Int):=by lia
  have hc':c=(c.toNat:Int):=by lia
  have:b*c=((b.toNat*c.toNat:Nat):Int):=by
   rw [fk,←hb,←hc']
  lia
 rw [e1,e2,Nat.gcd_mul_right,fk]
 have:(c.toNat:Int)=c:=by lia
 rw [this]
theorem wqq {t b c:Int}(h:1≤b)(hc:1≤c):wg (t*c) (b*c)=wg t b:=by
 unfold wg
 rw [wyy h hc]
 have hg:=jf (t:=t) h
 rw [cH _ _ (show 0<c by lia),cH _ _ (show 0<c by lia)]
end L2
namespace L2
open PySem PySem.Spec PyProof.Rows
def CapAll (env:Env):List (Str×Aj)→Prop
 |[]=>True
 |(y,c)::r=>env.cells.lookup y=some c∧CapAll env r
theorem CapAll.look {env:Env}:∀ {cl:List (Str×Aj)},CapAll env cl→∀ {y:Str} {c:Aj},cl.lookup y=some c→env.cells.lookup y=some c
 |[],_,_,_,e=>by cases e
 |(z,d)::r,h,y,c,e=>by
  rw [aC] at e
  cases hb:y==z with
  |true =>
   rw [hb] at e
   rw [eq_of_beq hb]
   exact h.1.trans e
  |false =>
   rw [hb] at e
   exact CapAll.look h.2 e
def HasAll (cl:List (Str×Aj)):List (Str×NameKind)→Prop
 |[]=>True
 |(n,k)::r=>(k=.free→∃c,cl.lookup n=some c)∧k≠.cell∧HasAll cl r
theorem HasAll.nocell {cl:List (Str×Aj)}:∀ {ns:List (Str×NameKind)},HasAll cl ns→∀y∈ns,y.2≠.cell
 |(n,k)::r,h,y,hy=>by
  rcases ak.mp hy with rfl|hy
  ·exact h.2.1
  ·exact HasAll.nocell h.2.2 y hy
theorem HasAll.has {cl:List (Str×Aj)}{env:Env}:∀ {ns:List (Str×NameKind)},HasAll cl ns→∀ {x:Str} {q:NameKind},q=.cell∨q=.free →
  (ns.map λ(n,k)=>if (k==NameKind.free&&env.scope.kind==.function&&env.kindOf n==some .cell) then (n,NameKind.cell) else (n,k)).lookup x=some q→∃c,cl.lookup x=some c
 |[],_,_,_,_,e=>by cases e
 |(n,k)::r,h,x,q,hq,e=>by
  have ih:=HasAll.has (env:=env) h.2.2 (x:=x) hq
  rw [ax] at e
  by_cases hc:(k==NameKind.free&&env.scope.kind==.function&&env.kindOf n==some .cell)=true
  ·have e':=e
   dsimp only at e'
   rw [aj hc,aC] at e'
   cases hb:x==n with
   |true =>
    rw [bc,bc] at hc
    obtain ⟨c,hcc⟩:=h.1 (eq_of_beq hc.1.1)
    exact ⟨c,by rw [eq_of_beq hb];exact hcc⟩
   |false =>
    rw [hb] at e'
    exact ih e'
  ·have e':=e
   dsimp only at e'
   rw [af hc,aC] at e'
   cases hb:x==n with
   |true =>
    rw [hb] at e'
    have ek:k=q:=az e'
    rcases hq with rfl|rfl
    ·exact absurd ek h.2.1
    ·obtain ⟨c,hcc⟩:=h.1 ek
     exact ⟨c,by rw [eq_of_beq hb];exact hcc⟩
   |false =>
    rw [hb] at e'
    exact ih e'
def CapIx (X:Cx)(scope:Scope)(cl:List (Str×Aj)):List Nat→Prop
 |[]=>True
 |j::r=>(∃y c,X.N[j]?=some y∧X.env.scope.names.lookup y=some .cell∧(relabel scope X.env).names.lookup y=some .cell∧cl.lookup y=some c)∧CapIx X scope cl r
theorem CapIx.get {X:Cx}{scope:Scope}{cl:List (Str×Aj)}:∀ {M:List Nat},CapIx X scope cl M→∀ {k j:Nat},M[k]?=some j →
  ∃y c,X.N[j]?=some y∧X.env.scope.names.lookup y=some .cell∧(relabel scope X.env).names.lookup y=some .cell∧cl.lookup y=some c
 |[],_,k,j,e=>by cases e
 |i::r,h,0,j,e=>by
  cases e
  exact h.1
 |i::r,h,k+1,j,e=>CapIx.get h.2 (k:=k) e
def Zn (X:Cx)(x:Str)(M:List Nat):List Str:=x::M.map λj=>X.N.getD j Str.empty
def vj (M:List Nat)(σ:St)(o:Option V):St:=o::M.map λj=>(σ[j]?).join
abbrev vq (X:Cx)(scope:Scope)(cl:List (Str×Aj))(x:Str)(M:List Nat)(C:Aj)(s2:Ab)(H2:Hp)(fp:List Aj)(pn:List (Aj×Obj)):Cx :=
 { X with N:=Zn X x M,s₀:=s2,H₀:=H2,env:=compEnvC scope cl C X.env,outer:=X.stack,ex:=fp,fn:=λ_=>false,pn:=pn,xe:=λ_ _=>False }
section
variable {X:Cx}{pins:List (Aj×Obj)}{σ:St}{H:Hp}{s2:Ab}{scope:Scope}{cl:List (Str×Aj)}{x:Str}{M:List Nat}{fp:List Aj}{C:Aj}{h1:Heap}{tk:Nat}
theorem Inv.compG {oo:HO}{xs:List Str}(I:Inv X pins σ H s2)(hc:CapAll X.env cl)(hh:HasAll cl scope.names)(hm:CapIx X scope cl M)(hk:scope.kind=.function)(hC:s2.heap.objs.size<C)
  (keep:∀b o,s2.heap.get? b=some o→h1.get? b=some o) (hn:h1.Ns C λ_=>none) (hD:ObjOk X.prog X.w (upd H s2.heap.objs.size oo) h1 s2.heap.objs.size oo)
  (hfp:∀b∈fp,jm X pins H b) (hob:∀b∈fp,∃o,s2.heap.get? b=some o) :
  Inv { X with N:=xs++M.map λj=>X.N.getD j Str.empty,s₀:=s2,H₀:=H,env:=compEnvC scope cl C X.env,outer:=X.stack,ex:=fp,fn:=λ_=>false,pn:=X.pn++pins,xe:=λ_ _=>False } [] ((xs.map λ_=>none)++M.map λj=>(σ[j]?).join) (upd H s2.heap.objs.size oo) { s2 with heap:=h1,toks:=tk }:=by
 have hfr:=I.hok.fresh (a:=s2.heap.objs.size) (ah _)
 have o:=I.ok
 have hcc:∀y c,cl.lookup y=some c→X.env.cells.lookup y=some c:=λy c e=>hc.look e
 have hlt:∀b∈fp,b<s2.heap.objs.size:=λb hb=>by
  obtain ⟨ob,e⟩:=hob b hb
  exact al e
 have hstk:∀b∈fp,b∉frs X.stack:=λb hb z=>by
  rcases ak.mp (I.stkSub b z) with z|z
  ·exact (hfp b hb).2.1 z
  ·exact (hfp b hb).2.2.1 z
 have hCn:H C=none:=I.hok.fresh (bC hC)
 refine ⟨⟨o.mod,hk,o.glob,o.blt,bC hC,λy z c e1 e2=>o.inj y z c (hcc y c e1) (hcc z c e2),λy hy=>?_,λy c z=>(aA z).elim,o.hd,o.frames,.inl rfl,λb hb=>⟨ar (bd (hlt b hb) hC),λy c e=>(hfp b hb).2.2.2.2.1 y c (hcc y c e)⟩,
  λb ob e=>I.bs b ob e,bB o.bsz I.sz,λb ob e z=>?_,hstk,I.stack,I.stkFree⟩,rfl,I.bare,?_,?_,λy c e=>?_,?_,λy c e=>?_,λp hp=>?_,?_,?_⟩
 ·rcases hy with hy|hy
  ·exact hh.has (.inl rfl) hy
  ·exact hh.has (.inr rfl) hy
 ·obtain ⟨e1,e2⟩:=I.bs b ob e
  exact (hfp b z).2.2.2.1.elim (λq=>o.noex b ob e q) λq=>by
   have:=o.bs b ob e
   exact aS _ (aD (al this.1) q)
 ·exact (Un.laid (fs:=frs X.stack) (ex:=fp) (o:=oo) keep (ah _) hfr)
 ·refine ⟨_,hn,λi z v e1 e2 e3=>?_⟩
  rcases fh i xs.length with hi|hi
  ·have e2:((xs.map λ_=>(none:Option V))++M.map λj=>(σ[j]?).join)[i]?=some (some v):=e2
   rw [cU (by rw [ae];exact hi),aK,au hi] at e2
   cases e2
  have e1':(xs++M.map λj=>X.N.getD j Str.empty)[i]?=some z:=e1
  have e2':((xs.map λ_=>(none:Option V))++M.map λj=>(σ[j]?).join)[i]?=some (some v):=e2
  rw [bX hi] at e1'
  rw [bX (by rw [ae];exact hi),ae] at e2'
  generalize i-xs.length=k at e1' e2'
  rw [aK] at e1' e2'
  cases hj:M[k]? with
  |none=>rw [hj] at e1';cases e1'
  |some j =>
   rw [hj] at e1' e2'
   obtain ⟨y,c,f1,f2,f3,f4⟩:=hm.get hj
   have ez:X.N.getD j Str.empty=z:=az e1'
   rw [ay,f1] at ez
   have ez':y=z:=ez
   subst ez'
   have ev:(σ[j]?).join=some v:=az e2'
   have ev':σ[j]?=some (some v):=by
    cases hs:σ[j]? with
    |none=>rw [hs] at ev;cases ev
    |some w' =>
     rw [hs] at ev
     have:w'=some v:=ev
     rw [this]
   obtain ⟨m,hns,hl⟩:=I.loc
   obtain ⟨u,r,l⟩:=hl j y v f1 ev' (.inr (.inl f2))
   refine ⟨u,r,.inr ⟨.inl f3,c,f4,?_⟩⟩
   rcases l with ⟨lk,_⟩|⟨_,c',lc,li⟩
   ·have:X.env.scope.names.lookup y=some .local:=lk
    rw [f2] at this
    cases this
   ·rw [hcc y c f4] at lc
    have:=az lc
    subst this
    exact li.keeps keep
 ·obtain ⟨v,hv⟩:=I.cell y c (hcc y c e)
  exact ⟨v,hv.keeps keep⟩
 ·show upd H s2.heap.objs.size oo C=none
  rw [wj (dZ hC)]
  exact hCn
 ·show upd H s2.heap.objs.size oo c=none
  obtain ⟨v,ob,e1,e2⟩:=I.cell y c (hcc y c e)
  rw [wj (ar (al e1))]
  exact I.freeC y c (hcc y c e)
 ·have hp':p∈X.pn++pins:=(aH.mp hp).elim (λz=>z) λz=>nomatch z
  obtain ⟨e1,e2,e3,e4,e5⟩:=I.pin p hp'
  refine ⟨keep _ _ e1,?_,ar (bd (al e1) hC),λz=>?_,e5⟩
  ·rw [wj (ar (al e1))]
   exact e2
  ·rcases ak.mp (I.stkSub p.1 z) with z|z
   ·exact e3 z
   ·exact e4 z
 ·exact I.hok.laid keep (ah _) hD
 ·show ((xs.map λ_=>(none:Option V))++M.map λj=>(σ[j]?).join).length=(xs++M.map λj=>X.N.getD j Str.empty).length
  simp only [aV,ae]
theorem Inv.comp (I:Inv X pins σ H s2)(hc:CapAll X.env cl)(hh:HasAll cl scope.names)(hm:CapIx X scope cl M)(hk:scope.kind=.function)(hC:s2.heap.objs.size<C)
  (keep:∀b o,s2.heap.get? b=some o→h1.get? b=some o) (hn:h1.Ns C λ_=>none) (hD:h1.get? s2.heap.objs.size=some { cls:=.type "list",data:=.seq #[] 0 })
  (hfp:∀b∈fp,jm X pins H b) (hob:∀b∈fp,∃o,s2.heap.get? b=some o) :
  Inv (vq X scope cl x M C s2 H fp (X.pn++pins)) [] (vj M σ none) (upd H s2.heap.objs.size (.lst [])) { s2 with heap:=h1,toks:=tk }:=I.compG (xs:=[x]) hc hh hm hk hC keep hn ⟨aB _,[],0,.nil,hD⟩ hfp hob
theorem Inv.uncomp {pins':List (Aj×Obj)}{σ':St}{H':Hp}{s':Ab}{h':Heap}(I:Inv X pins σ H s2)(hC:s2.heap.objs.size≤C)(hfp:∀b∈fp,jm X pins H b)
  (J:Inv (vq X scope cl x M C s2 H fp (X.pn++pins)) pins' σ' H' s') (hs:Heap.SameBut C s'.heap h'):Inv X pins σ H' { s' with heap:=h' }:=by
 have hb:=J.base
 have nC:∀b o,s2.heap.get? b=some o→b≠C:=λb o e=>ar (aD (al e) hC)
 have st:∀b o,b≠C→s'.heap.get? b=some o→h'.get? b=some o:=λb o n e=>(hs.2 b n).trans e
 refine I.call' (s':={ s' with heap:=h' }) (ch:=fp) J.os ⟨λb o e n nb nx=>st b o (nC b o e) (hb.keep b o e n nb nx),λb o e n hb' nx=>?_,hb.free,λb o e nx=>?_,hb.tups,hb.frzs,hb.tbls⟩ ?_ J.bare λb hbf=>?_
 ·obtain ⟨sl,e1⟩:=hb.slot b o e n hb' nx
  exact ⟨sl,st b _ (nC b o e) e1⟩
 ·obtain ⟨o',e1⟩:=hb.there b o e nx
  exact ⟨o',st b _ (nC b o e) e1⟩
 ·intro b u hu
  have fr:H' C=none:=J.free
  refine (J.hok b u hu).stay (λc v hc e=>st c v ?_ e) (λ_ z=>z) λ_ _ z=>z
  rcases hc with rfl|hc
  ·intro z;rw [z,fr] at hu;cases hu
  ·intro z;rw [z,fr] at hc;cases hc
 ·obtain ⟨q1,q2,q3,q4,q5,q6⟩:=hfp b hbf
  exact ⟨q4,q2,q5,q6⟩
end
def quh (J:It)(M:List Nat)(te:TE)(σ:St)(H1:Hp)(Q:VK):Prop:=∀p,H1 p=none→∃W:Nat→Nat→List V→Hp→Prop,(∃m,W 0 m [] (upd H1 p (.lst []))) ∧
 ∀i m ys H2,W i m ys H2→H2 p=some (.lst ys)∧ys.length<sizeLine∧((J.stop i H2∧Q (.ref p) H2)∨(J.go i H2∧∀v H3,J.yld i H2 v H3 →
  te (vj M σ (some v)) H3 λy H4=>H4 p=some (.lst ys)∧∃m',m'<m∧W (i+1) m' (ys++[y]) (upd H4 p (.lst (ys++[y])))))
def tComp (M:List Nat)(wi:TI)(te:TE):TE:=λσ H Q=>wi σ H λJ H1=>quh J M te σ H1 Q
theorem Zg {Y:Cx}{tg e:Expr}{k:Nat}{acc:Ag}{it:Aj}{fp:List Aj}{tn:Nat→Heap→Prop}{J:It}{ps:Pos}{REST:Sem PySem.Fin}{post:Result→Ab→Prop}{gg:TG}{pins:List (Aj×Obj)}{σ:St}{V:Nat→Nat→Hp→Prop}{Qd:Hp→Prop}{s0:Ab}{H0:Hp}{n0:Nat}
  (T:Turn Y.prog Y.w Y.K tg J fp it tn) (hc:Y.calm=true) (hx:∀v s,Y.xe v s→False)
  (hturn:compTurn e k (.ref it) acc Y.env=(standAt ps >>= λ_=>pyNext (.ref it) >>= λr=>match r with|none=>pure (.done .next)|some v=>letOwnedTupleGo tg (.ref it) v >>= λ_=>assign tg Y.env v >>= λ_=>REST))
  (hun:Y.A.under (.compLoop e k (.ref it) acc Y.env)=Y.A) (hden:(model Y.prog Y.w).den (.compLoop e k (.ref it) acc Y.env)=((compTurn e k (.ref it) acc Y.env).onRaise λz=>do noteFrame z Y.env;theTreesLotGoes z))
  (hg:PG Y tg gg) (fok:∀H2:Hp,(∀b∈fp,H2 b=none)→∀b∈fp,jm Y pins H2 b)
  (hV:∀i n H2,V i n H2→(J.stop i H2∧Qd H2)∨(J.go i H2∧∀v H3,J.yld i H2 v H3→∃Z:St→Hp→Prop,gg v σ H3 Z∧∀σ4 H4,Z σ4 H4→(σ.length=σ4.length∧∀(k:Nat) z,σ[k]?=some (some z)→σ4[k]?=some (some z))∧∀pins' s',Inv Y pins' σ4 H4 s' →
   wpAny (model Y.prog Y.w) Y.A REST (λr s5=>r=Fin.again (.compLoop e k (.ref it) acc Y.env)∧∃H5,Inv Y pins' σ4 H5 s5∧∃n',n'<n∧V (i+1) n' H5) Y.xe s'))
  (fin:∀H2 s4,Inv Y pins σ H2 s4→Qd H2→post (.ok .next) s4) (I:Inv Y pins σ H0 s0) (v0:V 0 n0 H0) (t0:tn 0 s0.heap) (nf:∀b∈fp,H0 b=none) :
  codeAny (model Y.prog Y.w) Y.A (.compLoop e k (.ref it) acc Y.env) post s0:=by
 refine codeAny_loop rfl (λn s3=>∃i H2,V i n H2∧Inv Y pins σ H2 s3∧tn i s3.heap∧∀b∈fp,H2 b=none) (λn s3 hI=>?_) n0 ⟨0,H0,v0,I,t0,nf⟩
 obtain ⟨i,H2,w,J2,t,nf2⟩:=hI
 rw [hun,hden]
 refine wpAny_noted ?_
 rw [hturn]
 refine aa (cM (aa ?_))
 rcases hV i n H2 w with ⟨hst,hq⟩|⟨hgo,hy⟩
 ·refine aR (T.done Y rfl rfl rfl hc i pins s3 _ H2 (λ_ _=>False) J2 (fok H2 nf2) t hst) (λr s4 hr=>?_) λ_ _ z=>z.elim
  obtain ⟨rfl,J4⟩:=hr
  exact ag (fin H2 s4 J4 hq)
 ·refine aR (T.item Y rfl rfl rfl hc i pins s3 _ H2 (λ_ _=>False) J2 (fok H2 nf2) t hgo) (λr s4 hr=>?_) λ_ _ z=>z.elim
  obtain ⟨u,rfl,hw⟩:=hr
  refine aa (aR hw (λ_ s5 hr5=>?_) λ_ _ z=>z.elim)
  obtain ⟨v,H3,J5,rv,yl,t5,nf⟩:=hr5
  obtain ⟨Z,hz,hZ⟩:=hy v H3 yl
  refine aa (aR (hg _ s5 _ H3 v u _ (J5.pinned (fok H3 nf) (T.obj _ _ t5)) rv hz) (λ_ s6 hr6=>?_) λv s z=>(hx v s z).elim)
  obtain ⟨σ6,H6,J6,z6⟩:=hr6
  obtain ⟨⟨hl,hw6⟩,hR⟩:=hZ σ6 H6 z6
  refine aR (hR _ s6 J6) (λr s7 hr7=>?_) λv s z=>(hx v s z).elim
  obtain ⟨rfl,H7,J7,n',hn',v7⟩:=hr7
  refine ⟨rfl,n',hn',i+1,H7,v7,(J7.unpinned (pins:=pins)).weak hl hw6,?_,?_⟩
  ·exact T.keep _ _ _ t5 λb hb o e=>(J7.pin (b,o) (av _ (av _ (jy hb e)))).1
  ·intro b hb
   obtain ⟨o,e,_⟩:=T.obj _ _ t5 b hb
   exact (J7.pin (b,o) (av _ (av _ (jy hb e)))).2.1
section
variable {Y:Cx}{elt cd:Expr}{te:TE}{tt:TT}{c:Code}{p:Aj}{σ:St}{H:Hp}{pins:List (Aj×Obj)}{s:Ab}
def appS (elt:Expr)(acc:Ag)(env:Env)(c:Code):Sem PySem.Fin:=(eval elt env >>= λx=>call (.builtin "list.append") [acc,x] >>= λ_=>pure ()) >>= λ_=>again c
theorem qv5 {ys:List V}{N:List V→Hp→Prop}(hx:∀v s,Y.xe v s→False)(he:PE Y elt te)(J:Inv Y pins σ H s)(hz:ys.length<sizeLine)(h:te σ H λy H4=>H4 p=some (.lst ys)∧N (ys++[y]) (upd H4 p (.lst (ys++[y])))) :
  wpAny (model Y.prog Y.w) Y.A (appS elt (.ref p) Y.env c) (λr s5=>r=Fin.again c∧∃H5,Inv Y pins σ H5 s5∧∃zs,N zs H5) Y.xe s:=by
 refine aa (aa (aR (he _ s _ H _ J h) (λyv s7 hr7=>?_) λ_ _ z=>z))
 obtain ⟨y,H4,J7,ry,hp4,n4⟩:=hr7
 refine aa (aR (yu (X:=Y) _ s7 _ H4 (.ref p) [y] (.ref p) [yv] (λ_ H8=>H8=upd H4 p (.lst (ys++[y]))) J7 rfl (.cons ry .nil) ⟨_,ys,y,rfl,rfl,hp4,hz,rfl⟩) (λ_ s8 hr8=>?_) λ_ _ z=>z)
 obtain ⟨_,H8,J8,_,rfl⟩:=hr8
 exact ag (ag ⟨rfl,_,J8,_,n4⟩)
def tstS (cd:Expr)(env:Env)(a b:Sem PySem.Fin):Sem PySem.Fin:=(forIn [cd] true λc r=>if r=true then do let ok ←isTrue c env (eval c env);pure (ForInStep.yield ok) else pure (ForInStep.yield r)) >>= λok=>if ok=true then a else b
theorem wz1 {a b:Sem PySem.Fin}{F:Hp→Prop}{G:Hp→Prop}{R:PySem.Fin→Ab→Prop}(ht:PT Y cd tt)(J:Inv Y pins σ H s)(h:tt σ H λok H4=>if ok=true then F H4 else G H4)
  (ha:∀s' H4,Inv Y pins σ H4 s'→F H4→wpAny (model Y.prog Y.w) Y.A a R Y.xe s') (hb:∀s' H4,Inv Y pins σ H4 s'→G H4→wpAny (model Y.prog Y.w) Y.A b R Y.xe s') :
  wpAny (model Y.prog Y.w) Y.A (tstS cd Y.env a b) R Y.xe s:=by
 refine aa (wpAny_tests_one (aR (ht _ s _ H _ J h) (λok s6 hr6=>?_) λ_ _ z=>z))
 obtain ⟨H6,J6,hok⟩:=hr6
 cases ok with
 |false=>exact hb s6 H6 J6 hok
 |true=>exact ha s6 H6 J6 hok
end
section
variable {X:Cx}{elt iter cd:Expr}{x:Str}{px pos:Pos}{scope:Scope}{cl:List (Str×Aj)}{M:List Nat}{wi:TI}{te:TE}{tt:TT}{pins:List (Aj×Obj)}{σ:St}
theorem qzc {N:List Str}{C:Aj}{s2:Ab}{H1:Hp}{fp:List Aj}(hcap:CapAll X.env cl)(I2:Inv X pins σ H1 s2)(hlt:s2.heap.objs.size<C)(hfp:∀b∈fp,jm X pins H1 b)(hbl:∀b∈fp,b<s2.heap.objs.size)(H2:Hp)(hn:∀b∈fp,H2 b=none) :
  ∀b∈fp,jm { X with N:=N,s₀:=s2,H₀:=H1,env:=compEnvC scope cl C X.env,outer:=X.stack,ex:=fp,fn:=λ_=>false,pn:=X.pn++pins,xe:=λ_ _=>False } [] H2 b:=λb hb=>by
 obtain ⟨q1,q2,q3,q4,q5,q6⟩:=hfp b hb
 refine ⟨hn b hb,ar (bd (hbl b hb) hlt),λz=>?_,.inl hb,λy c e=>q5 y c (hcap.look e),λp hp=>q6 p ((aH.mp hp).elim (λz=>z) λz=>nomatch z)⟩
 rcases ak.mp (I2.stkSub b z) with z|z
 ·exact q2 z
 ·exact q3 z
theorem qxc {tg:Expr}{ifs:List Expr}{rest:List Comprehension}(hclos:closureFor scope X.env=pure cl)(hhas:HasAll cl scope.names)(hk:scope.kind=.function)
  (hnames:∀y∈scope.names,y.2=.local→scope.names.lookup y.1=some .local) (hi:PI X tg iter wi) (hs:∀z,foldedSetIterable iter X.env z=pure z)
  {use:Option (Ag→Sem Unit)} {QQ:Ag→Ab→Prop} {s:Ab} {H:Hp} {ps:Pos} {R:It→Hp→Prop} (I:Inv X pins σ H s) (h:wi σ H R)
  (go:∀(it:Aj) (fp:List Aj) (tn:Nat→Heap→Prop) (J:It) (H1:Hp) (s2:Ab) (C:Aj) (h3:Heap) (tk:Nat),Inv X pins σ H1 s2→Turn X.prog X.w X.K tg J fp it tn→tn 0 h3→(∀b∈fp,jm X pins H1 b)→(∀b∈fp,b<s2.heap.objs.size)→(∀b∈fp,∃o,s2.heap.get? b=some o)→R J H1→s2.heap.objs.size<C →
   (∀b o,s2.heap.get? b=some o→h3.get? b=some o)→(h3.Ns C λ_=>none)→h3.get? s2.heap.objs.size=some { cls:=.type "list",data:=.seq #[] 0 } →
   codeAny (model X.prog X.w) X.A (.compLoop (.ListComp elt (⟨tg,iter,ifs,0⟩::rest) scope pos) 0 (.ref it) (.ref s2.heap.objs.size) (compEnvC scope cl C X.env)) (compPost (model X.prog X.w) X.A X.xe use QQ (.ref s2.heap.objs.size) C) { s2 with heap:=h3,toks:=tk }) :
  wpAny (model X.prog X.w) X.A (comprehension (.ListComp elt (⟨tg,iter,ifs,0⟩::rest) scope pos) scope X.env ps (newList []) false (eval iter X.env) use) QQ X.xe s:=by
 refine cZ (use:=use) rfl hs hclos hk hnames ?_
 refine thn (hi pins s σ H _ I h) λv s1 h1=>thn h1 λitv s2 h2=>?_
 obtain ⟨it,fp,tn,J,H1,rfl,I2,T,t0,hfp,hR⟩:=h2
 refine bi ?_
 refine dN hhas.nocell (by intro y hy;cases hy) (λh3 hns hsb=>?_) hk
 dsimp only at hns hsb ⊢
 generalize hH2:s2.heap.push { cls:=.type "list",dict:=none,data:=.seq ([]:List Ag).toArray }=G2 at hns hsb ⊢
 have hC:G2.objs.size=s2.heap.objs.size+1:=by rw [←hH2,dn]
 have hlt:s2.heap.objs.size<G2.objs.size:=by lia
 have keep:∀b o,s2.heap.get? b=some o→h3.get? b=some o:=λb o e=>by
  rw [hsb.2 b (ar (bd (al e) hlt))]
  exact ac _ (hH2▸ac _ e)
 have hD:h3.get? s2.heap.objs.size=some { cls:=.type "list",data:=.seq #[] 0 }:=by
  rw [hsb.2 _ (ar hlt)]
  exact ac _ (hH2▸aq _ rfl)
 have t3:=T.keep 0 _ _ t0 λb _ o e=>keep b o e
 have loop:=λtk=>go it fp tn J H1 s2 G2.objs.size h3 tk I2 T t3 hfp (λb hb=>let ⟨o,e,_⟩:=T.obj 0 _ t0 b hb;al e) (λb hb=>let ⟨o,e,_⟩:=T.obj 0 _ t0 b hb;⟨o,e⟩) hR hlt keep hns hD
 exact codeAny_compStart_list (loop _) (T.self _ 0 _ _ _ t3 (loop _))
theorem Qn (M:List Nat)(σ:St)(v:V):(vj M σ none).length=(vj M σ (some v)).length∧∀(k:Nat) z,(vj M σ none)[k]?=some (some z)→(vj M σ (some v))[k]?=some (some z):=⟨rfl,λk z ez=>by
 cases k with
 |zero=>cases ez
 |succ k=>exact ez⟩
end
section
variable {X:Cx}{elt iter:Expr}{x:Str}{px pos:Pos}{scope:Scope}{cl:List (Str×Aj)}{M:List Nat}{wi:TI}{te:TE}
theorem wz8 (hc:X.calm=true)(hclos:closureFor scope X.env=pure cl)(hcap:CapAll X.env cl)(hhas:HasAll cl scope.names)(hix:CapIx X scope cl M)(hk:scope.kind=.function)
  (hnames:∀y∈scope.names,y.2=.local→scope.names.lookup y.1=some .local) (hx:scope.names.lookup x=some .local) (hnd:(Zn X x M).Nodup) (hi:PI X (.Name x px) iter wi)
  (he:∀C s2 H2 fp pn,PE (vq X scope cl x M C s2 H2 fp pn) elt te) (hs:∀z,foldedSetIterable iter X.env z=pure z)
  {use:Option (Ag→Sem Unit)} {QQ:Ag→Ab→Prop} {pins:List (Aj×Obj)} {s:Ab} {σ:St} {H:Hp} {Q:VK} {ps:Pos} (I:Inv X pins σ H s) (h:wi σ H λJ H1=>quh J M te σ H1 Q)
  (fin:∀(C:Aj) (s2 s4:Ab) (H1 H2:Hp) (fp:List Aj),Inv X pins σ H1 s2→s2.heap.objs.size<C→(∀b∈fp,jm X pins H1 b)→Inv (vq X scope cl x M C s2 H1 fp (X.pn++pins)) [] (vj M σ none) H2 s4→Q (.ref s2.heap.objs.size) H2 →
   compPost (model X.prog X.w) X.A X.xe use QQ (.ref s2.heap.objs.size) C (.ok .next) s4) :
  wpAny (model X.prog X.w) X.A (comprehension (.ListComp elt [⟨.Name x px,iter,[],0⟩] scope pos) scope X.env ps (newList []) false (eval iter X.env) use) QQ X.xe s:=by
 refine qxc hclos hhas hk hnames hi hs I h λit fp tn J H1 s2 C h3 tk I2 T t3 hfp hbl hob hR hlt keep hns hD=>?_
 obtain ⟨W,⟨m0,w0⟩,hW⟩:=hR s2.heap.objs.size (I2.hok.fresh (ah _))
 have hxl:(relabel scope X.env).names.lookup x=some .local:=dO hx
 refine Zg (Y:=vq X scope cl x M C s2 H1 fp (X.pn++pins)) (V:=λi n H2=>∃ys,W i n ys H2) (Qd:=Q (.ref s2.heap.objs.size)) (REST:=appS elt (.ref s2.heap.objs.size) (compEnvC scope cl C X.env) _) T hc (λ_ _ z=>z) (compTurn_list1 ..) rfl rfl (xu (i:=0) hnd rfl (.inl hxl) (.inr hxl)) (qzc hcap I2 hlt hfp hbl) (λi n H2 ⟨ys,w⟩=>?_) (λH2 s4 J4 q=>fin C s2 s4 H1 H2 fp I2 hlt hfp J4 q) (I2.comp hcap hhas hix hk hlt keep hns hD hfp hob) ⟨[],w0⟩ t3 λb hb=>by rw [wj (ar (hbl b hb))];exact (hfp b hb).1
 obtain ⟨hp,hz,hcase⟩:=hW i n ys H2 w
 refine hcase.imp id λ⟨hgo,hy⟩=>⟨hgo,λv H3 yl=>⟨λσ4 H4=>σ4=vj M σ (some v)∧H3=H4,⟨rfl,rfl⟩,λ_ _ e=>?_⟩⟩
 obtain ⟨rfl,rfl⟩:=e
 refine ⟨Qn M σ v,λpins' s' J=>?_⟩
 refine aR (qv5 (N:=λzs H5=>∃m',m'<n∧W (i+1) m' zs H5) (λ_ _ z=>z) (he _ _ _ _ _) J hz (hy v H3 yl)) (λr s5 ⟨e,H5,J5,zs,m',hm,w'⟩=>⟨e,H5,J5,m',hm,zs,w'⟩) λ_ _ z=>z
theorem u9 (hc:X.calm=true)(hclos:closureFor scope X.env=pure cl)(hcap:CapAll X.env cl)(hhas:HasAll cl scope.names)(hix:CapIx X scope cl M)(hk:scope.kind=.function)
  (hnames:∀y∈scope.names,y.2=.local→scope.names.lookup y.1=some .local) (hx:scope.names.lookup x=some .local) (hnd:(Zn X x M).Nodup) (hi:PI X (.Name x px) iter wi)
  (he:∀C s2 H2 fp pn,PE (vq X scope cl x M C s2 H2 fp pn) elt te) (hs:∀z,foldedSetIterable iter X.env z=pure z:=by intro _;rfl) :
  PE X (.ListComp elt [⟨.Name x px,iter,[],0⟩] scope pos) (tComp M wi te):=by
 intro pins s σ H Q I h
 rw [eval_ListComp]
 refine wz8 hc hclos hcap hhas hix hk hnames hx hnd hi he hs (use:=none) I h λC s2 s4 H1 H2 fp I2 hlt hfp J4 hq=>?_
 obtain ⟨m,hn,_⟩:=J4.loc
 exact ⟨m,hn,λh' hs'=>⟨.ref s2.heap.objs.size,H2,I2.uncomp (bC hlt) hfp J4 hs',rfl,hq⟩⟩
theorem Inv.but {pins:List (Aj×Obj)}{σ:St}{H:Hp}{s:Ab}{h':Heap}{C:Aj}(I:Inv X pins σ H s)(hn:H C=none)(h1:X.s₀.heap.objs.size≤C)(h2:C≠X.env.locals)(h3:∀y c,X.env.cells.lookup y=some c→c≠C)(h4:∀p∈X.pn++pins,p.1≠C)
  (hs:Heap.SameBut C s.heap h'):Inv X pins σ H { s with heap:=h' }:=by
 have st:∀b o,b≠C→s.heap.get? b=some o→h'.get? b=some o:=λb o n e=>(hs.2 b n).trans e
 have nc:∀b,b∉[C]→b≠C:=λb z e=>z (by rw [e];exact .head _)
 refine I.call' (s':={ s with heap:=h' }) (ch:=[C]) rfl ⟨λb o e n _ nx=>st b o (nc b nx) e,λb o e n _ nx=>⟨o.slots,st b o (nc b nx) e⟩,λb o e n _=>n,λb o e nx=>⟨o,st b o (nc b nx) e⟩,λ_ _ e=>e,λ_ _ _ e=>e,λb ps e=>⟨#[],by rw [e];simp⟩⟩ ?_ I.bare λb hb=>?_
 ·intro b u hu
  refine (I.hok b u hu).stay (λc v hc e=>st c v ?_ e) (λ_ z=>z) λ_ _ z=>z
  rcases hc with rfl|hc
  ·intro z;rw [z,hn] at hu;cases hu
  ·intro z;rw [z,hn] at hc;cases hc
 ·rw [ai.mp hb]
  exact ⟨.inr h1,h2,h3,h4⟩
end
theorem jr {M:List Nat}{lo:Int}{n:Nat}{te:TE}{σ:St}{H:Hp}{Q:VK}(f:Nat→V)(hn:n≤1000000)(he:∀(i:Nat) (H':Hp) (R:VK),i<n→Same H H'→R (f i) H'→te (vj M σ (some (.int (lo+i)))) H' R)
  (k:∀p,H p=none→Q (.ref p) (upd H p (.lst ((List.range n).map f)))):quh (Itr lo n) M te σ H Q:=by
 intro p np
 refine ⟨λi m ys H2=>i≤n∧m=n-i∧ys=(List.range i).map f∧H2=upd H p (.lst ys),⟨n,aB _,rfl,rfl,rfl⟩,?_⟩
 rintro i m ys H2 ⟨hi,rfl,rfl,rfl⟩
 refine ⟨qh,?_,?_⟩
 ·rw [ae,aO]
  have:(1000000:Nat)<sizeLine:=by decide
  lia
 ·by_cases hlt:i<n
  ·refine .inr ⟨hlt,?_⟩
   rintro v H3 ⟨rfl,rfl⟩
   refine he i (upd H p (.lst ((List.range i).map f))) _ hlt (Same.upd np) ⟨qh,n-(i+1),by lia,by lia,rfl,?_,?_⟩
   ·rw [cI,ba]
    rfl
   ·rw [j7]
  ·have:i=n:=by lia
   subst this
   exact .inl ⟨ah _,k p np⟩
end L2
namespace L2
open PySem PySem.Spec PyProof.Rows
section
variable {X:Cx}
theorem qw4 {pins:List (Aj×Obj)}{σ:St}{H:Hp}{s:Ab}{p:Aj}{ns:List Int}(I:Inv X pins σ H s)(hS:SqL X.K H p (ns.map V.int)) :
  ∃ts:Array (Int×Tok),s.heap.IsList p (intItems ts)∧ns=ts.toList.map (·.1):=by
 obtain ⟨its,rv,⟨o,n,e1,e2,e3,e4⟩,hz⟩:=I.list hS
 have hi:=quw rv
 obtain ⟨ts,ht⟩:=hi.allInts.items
 refine ⟨ts,⟨o,e1,e2,n,by rw [←ht];exact e4⟩,?_⟩
 have a1:=hi.numsOf
 have a2:=nums_intItems (xs:=ts)
 rw [←ht] at a2
 exact a1.symm.trans a2
theorem qq7 (hc:X.calm=true):jx X (.builtin "min") (λxs H Q=>∃(p:Aj) (ns:List Int),xs=[.ref p]∧SqL X.K H p (ns.map V.int)∧0<ns.length∧∀m,m∈ns→(∀a∈ns,m≤a)→Q (.int m) H):=by
 intro pins s σ H xs us Q I r h
 obtain ⟨p,ns,rfl,hS,hne,q⟩:=h
 obtain ⟨u,rfl,ru⟩:=j5 r
 cases (show u=Value.ref p from ru)
 obtain ⟨ts,hl,he⟩:=qw4 I hS
 have hsz:ts.size=ns.length:=by rw [he,ae,aW]
 refine min_intList (I.ok.hd hc) hl (by lia) λv h' tk hv hk=>?_
 obtain ⟨t,rfl⟩:=intItems_at hv
 obtain ⟨b1,b2⟩:=argBest_lt (numAt ts) (ts.size-1)
 refine ⟨.int _,H,I.kept hk,⟨t,rfl⟩,q _ ?_ λa ha=>?_⟩
 ·rw [he,numAt_eq]
  refine getD_mem ?_
  rw [←he,←hsz]
  lia
 ·rw [he] at ha
  obtain ⟨j,hj,rfl⟩:=mem_getD ha
  rw [←he,←hsz] at hj
  rw [←numAt_eq]
  exact b2 j (by lia)
theorem qwn (hc:X.calm=true):jx X (.builtin "max") (λxs H Q=>∃(p:Aj) (ns:List Int),xs=[.ref p]∧SqL X.K H p (ns.map V.int)∧0<ns.length∧∀m,m∈ns→(∀a∈ns,a≤m)→Q (.int m) H):=by
 intro pins s σ H xs us Q I r h
 obtain ⟨p,ns,rfl,hS,hne,q⟩:=h
 obtain ⟨u,rfl,ru⟩:=j5 r
 cases (show u=Value.ref p from ru)
 obtain ⟨ts,hl,he⟩:=qw4 I hS
 have hsz:ts.size=ns.length:=by rw [he,ae,aW]
 refine max_intList (I.ok.hd hc) hl (by lia) λv h' tk hv hk=>?_
 obtain ⟨t,rfl⟩:=intItems_at hv
 obtain ⟨b1,b2⟩:=argBest_gt (numAt ts) (ts.size-1)
 refine ⟨.int _,H,I.kept hk,⟨t,rfl⟩,q _ ?_ λa ha=>?_⟩
 ·rw [he,numAt_eq]
  refine getD_mem ?_
  rw [←he,←hsz]
  lia
 ·rw [he] at ha
  obtain ⟨j,hj,rfl⟩:=mem_getD ha
  rw [←he,←hsz] at hj
  rw [←numAt_eq]
  exact b2 j (by lia)
theorem qjp:∀ {bs:List Bool} {its:List Ag},Vals (bs.map V.bl) its→its=bs.map Value.bool
 |[],_,.nil=>rfl
 |b::bs,_,.cons r t=>by
  have e:_=Value.bool b:=r
  rw [ax,←qjp t,e]
theorem wws (bs:List Bool):(List.range bs.length).all (λi=>bs.getD i true)=bs.all id:=by
 rw [cF,bV,bV]
 constructor
 ·intro h b hb
  obtain ⟨i,hi,rfl⟩:=cX hb
  have:=h i (bb.mpr hi)
  rw [ay,au hi] at this
  exact this
 ·intro h i hi
  have hi':=bb.mp hi
  rw [ay,au hi']
  exact h _ (cS hi')
theorem qwx (hc:X.calm=true):jx X (.builtin "all") (λxs H Q=>∃(p:Aj) (bs:List Bool),xs=[.ref p]∧SqL X.K H p (bs.map V.bl)∧Q (.bl (bs.all id)) H):=by
 intro pins s σ H xs us Q I r h
 obtain ⟨p,bs,rfl,hS,q⟩:=h
 obtain ⟨u,rfl,ru⟩:=j5 r
 cases (show u=Value.ref p from ru)
 obtain ⟨its,rv,⟨o,n,e1,e2,e3,e4⟩,hz⟩:=I.list hS
 have hits:=qjp rv
 have hl:s.heap.IsList p its.toArray:=⟨o,e1,e2,n,e4⟩
 have hlt:p<s.heap.objs.size:=al e1
 refine call_all_walk (wpAny_pyIter_list hl ?_)
 refine ⟨s.heap.objs.size,_,_,_,_,_,λi=>bs.getD i true,rfl,Walks.list (A:=X.A.in1) (I.ok.hd hc) _ p (ar hlt) its.toArray,⟨⟨_,aq _ rfl,rfl,rfl⟩,hl.push _⟩,λi v s' Q' E' hP hQ=>?_,λh' tk hk=>?_⟩
 ·have hv:its[i]?=some v:=by simpa using hP
  rw [hits,aK] at hv
  cases hb:bs[i]? with
  |none=>rw [hb] at hv;cases hv
  |some b =>
   rw [hb] at hv
   have ev:Value.bool b=v:=az hv
   subst ev
   refine cm ?_
   have e2:bs.getD i true=b:=by rw [ay,hb];rfl
   have hQ':Q' (bs.getD i true) s':=hQ
   rw [e2] at hQ'
   exact hQ'
 ·have hlen:its.toArray.size=bs.length:=by rw [hits];simp
  rw [hlen,wws]
  refine ⟨.bl _,H,I.kept λb ob e=>hk b ob (λhm=>?_) (ac _ e),rfl,q⟩
  have z:b=s.heap.objs.size:=by simpa using hm
  exact aS _ (z▸al e)
end
structure MCal (P:Ac)(w:Ah)(K:Aa)(mg:Str→Option Ag)(base:Heap)(C:Aj)(m:Str)(k:Nat)(sp:Sp):Prop where
 ex:∃f fd ps,Meth K C m f∧FnOk P w K mg base (CXE P w) k f fd ps sp∧Binds K fd ps []
structure CCal (P:Ac)(w:Ah)(K:Aa)(mg:Str→Option Ag)(base:Heap)(x:Str)(C:Aj)(k:Nat)(sp:Sp):Prop where
 ex:∃f fd ps,mg x=some (.ref C)∧Mk K C f∧FnOk P w K mg base (CXE P w) k f fd ps sp∧Binds K fd ps []
structure MethIn (K:Aa)(C:Aj)(m qual:Str)(st:Stmt):Prop where
 ex:∃f fd,PySem.W.findIn K (.ref C) m=some (some (.ref f))∧PySem.W.isFn K (.ref f)=true∧Fun K m qual st f fd
theorem wjz {K:Aa}{C:Aj}{m qual:Str}{st:Stmt}{f:Aj}{oc:Ag}{od an:Option Aj}{osl:Array (Option Ag)}{kV doc pm cdv ct:Ag}(a:PySem.W.findIn K (.ref C) m=some (some (.ref f)))(i:PySem.W.isFn K (.ref f)=true)
  (l:K.lookup f=some ⟨oc,od,.func (PySem.W.fnOf m qual (jw st) (w8 st) (wu st) .none kV doc pm an cdv ct),osl⟩) (c:PySem.W.codeIn K cdv qual=true) (k:PySem.W.keepIn K (.ref f)=true):MethIn K C m qual st:=⟨_,_,a,i,wz7 l c k⟩
def xt (x qual:Str)(st:Stmt)(ps:List Str):Prop:=∀(kV doc pm:Ag) (an:Option Aj) (cdv ct:Ag) (us:List Ag),us.length=ps.length→bindArgs (PySem.W.fnOf x qual (jw st) (w8 st) (wu st) .none kV doc pm an cdv ct) ⟨us,[]⟩=pure (ps.zip us)
section
variable {P:Ac}{w:Ah}{K:Aa}{mg:Str→Option Ag}{base:Heap}{C:Aj}
theorem MethIn.cal {m qual:Str}{st:Stmt}{ps:List Str}{k:Nat}{sp:Sp}(d:MethIn K C m qual st)(b:xt m qual st ps)(ok:∀f fd,Fun K m qual st f fd→FnOk P w K mg base (CXE P w) k f fd ps sp):MCal P w K mg base C m k sp:=by
 obtain ⟨f,fd,a,i,F⟩:=d.ex
 exact ⟨f,fd,ps,⟨a,i,F.kp⟩,ok f fd F,F.binds b⟩
theorem MethIn.ccal {x qual:Str}{st:Stmt}{ps:List Str}{k:Nat}{sp:Sp}(d:MethIn K C "__init__" qual st)(hm:mg x=some (.ref C))(mk:PySem.W.makesIn K C=true)(kc:PySem.W.keepIn K (.ref C)=true)(b:xt "__init__" qual st ps)
  (ok:∀f fd,Fun K "__init__" qual st f fd→FnOk P w K mg base (CXE P w) k f fd ps sp):CCal P w K mg base x C k sp:=by
 obtain ⟨f,fd,a,i,F⟩:=d.ex
 exact ⟨f,fd,ps,hm,⟨mk,a,i,kc⟩,ok f fd F,F.binds b⟩
end
section
variable {X:Cx}{C:Aj}{x m:Str}{k:Nat}{sp:Sp}{E:St→XK}{p pos apos:Pos}{e o:Expr}{es:List Expr}{ta:TE}{t:TA}
theorem uy (c:CCal X.prog X.w X.K X.mg X.base x C k sp)(hr:Room (k+1) X.A)(hg:Gl X x)(hx:js X E)
  (ha:PA X (e::es) t) (hdb:(x==("__debug__" : Str))=false:=by decide) (he:starEach (e::es) X.env=(false,eval e X.env)::starEach es X.env:=by rfl) (hpl:(backTo pos (starEach es X.env)).any (·.1)=false:=by rfl) :
  PE X (.Call (.Name x p) (e::es) [] pos) (qyv C sp E t):=by
 obtain ⟨f,fd,ps,hm,M,F,b⟩:=c.ex
 exact wkx M F hr hg hm b hx ha hdb he hpl
theorem wvj {pl:Sem Bool}(he:PE X o ta)(cl:Cls X.K C)(c:MCal X.prog X.w X.K X.mg X.base C m k sp)(hr:Room k X.A)(hx:js X E)(ha:PA X (e::es) t)
  (hst:starEach (e::es) X.env=(false,eval e X.env)::starEach es X.env:=by rfl) (hpl:(backTo pos (starEach es X.env)).any (·.1)=false:=by rfl)
  (ht:eval (.Call (.Attribute o m apos) (e::es) [] pos) X.env=(do
   let ov ←eval o X.env
   standAt apos.atName
   let (f,first) ←holding [ov] (getMethod ov m pl)
   callWith pos f first (backTo pos (starEach (e::es) X.env)) (backToKw pos (keywordEach [] X.env))):=by rfl) :
  PE X (.Call (.Attribute o m apos) (e::es) [] pos) (J3 C m sp E ta t):=by
 obtain ⟨f,fd,ps,hm,F,b⟩:=c.ex
 exact wvn he cl hm F hr b hx ha hst hpl ht
theorem vg {pl:Sem Bool}(he:PE X o ta)(cl:Cls X.K C)(c:MCal X.prog X.w X.K X.mg X.base C m k sp)(hr:Room k X.A)(hx:js X E)
  (ht:eval (.Call (.Attribute o m apos) [] [] pos) X.env=(do
   let ov ←eval o X.env
   standAt apos.atName
   let (f,first) ←holding [ov] (getMethod ov m pl)
   callWith pos f first (backTo pos (starEach [] X.env)) (backToKw pos (keywordEach [] X.env))):=by rfl) :
  PE X (.Call (.Attribute o m apos) [] [] pos) (J3 C m sp E ta j3):=by
 obtain ⟨f,fd,ps,hm,F,b⟩:=c.ex
 exact ww3 he cl hm F hr b hx ht
end
end L2
namespace L2
open PySem
def hAt (hs:List Int)(k:Int):Int:=hs.getD k.toNat 0
def kF (hs:List Int)(t b:Int):Int:=if (hs.length:Int)-1-1<t/b then (hs.length:Int)-1-1 else t/b
def v8 (hs:List Int)(t b:Int):Int:=hAt hs (kF hs t b)*b+(hAt hs (kF hs t b+1)-hAt hs (kF hs t b))*(t-kF hs t b*b)
theorem wkr {hs:List Int}{t b:Int}(hl:2≤hs.length)(hb:1≤b)(h0:0≤t):0≤kF hs t b∧kF hs t b<(hs.length:Int)-1:=by
 have h:=fo h0 (show (0:Int)≤b by lia)
 unfold kF
 split <;> lia
theorem wxg {hs:List Int}{t b c:Int}(hc:1≤c):kF hs (t*c) (b*c)=kF hs t b:=by
 unfold kF
 rw [cH _ _ (show 0<c by lia)]
theorem qjg {hs:List Int}{t b c:Int}(hc:1≤c):v8 hs (t*c) (b*c)=v8 hs t b*c:=by
 unfold v8
 rw [wxg hc]
 generalize hAt hs (kF hs t b)=u
 generalize hAt hs (kF hs t b+1)=v
 generalize kF hs t b=k
 grind
theorem div_in {k t b:Int}(hb:1≤b)(h1:k*b≤t)(h2:t<(k+1)*b):t/b=k:=by
 have a1:k≤t/b:=(Int.le_ediv_iff_mul_le (by lia)).mpr h1
 have a2:t/b<k+1:=(Int.ediv_lt_iff_lt_mul (by lia)).mpr h2
 lia
theorem qkn {hs:List Int}{k t b:Int}(hk:0≤k)(hk2:k<(hs.length:Int)-1)(hb:1≤b)(h1:k*b≤t)(h2:t≤(k+1)*b) :
  v8 hs t b=hAt hs k*b+(hAt hs (k+1)-hAt hs k)*(t-k*b):=by
 by_cases hlt:t<(k+1)*b
 ·have e:=div_in hb h1 hlt
  have ek:kF hs t b=k:=by
   unfold kF
   rw [e]
   split <;> lia
  unfold v8
  rw [ek]
 ·have et:t=(k+1)*b:=by lia
  have e:t/b=k+1:=by
   rw [et]
   exact Int.mul_ediv_cancel _ (by lia)
  by_cases hn:(hs.length:Int)-1-1<k+1
  ·have ek:kF hs t b=k:=by
    unfold kF
    rw [e,aj hn]
    lia
   unfold v8
   rw [ek]
  ·have ek:kF hs t b=k+1:=by
    unfold kF
    rw [e,af hn]
   unfold v8
   rw [ek,et]
   generalize hAt hs k=u
   generalize hAt hs (k+1)=v
   generalize hAt hs (k+1+1)=z
   grind
def yg (hs:List Int)(t b:Int):Int×Int:=wg (v8 hs t b) b
theorem qw5 {hs:List Int}{t b:Int}(hb:1≤b):yg hs (wg t b).1 (wg t b).2=yg hs t b:=by
 unfold yg
 have hg:=jf (t:=t) hb
 have e1:(wg t b).1*gOf t b=t:=by rw [fg];exact qkd
 have e2:(wg t b).2*gOf t b=b:=by rw [fg];exact qqu hb
 have h:=qjg (hs:=hs) (t:=(wg t b).1) (b:=(wg t b).2) hg
 rw [e1,e2] at h
 rw [h]
 conv=>rhs;rw [←e2]
 rw [e2]
 have:=wqq (t:=v8 hs (wg t b).1 (wg t b).2) (b:=(wg t b).2) (Wc hb) hg
 rw [e2] at this
 exact this.symm
theorem Yu {t b:Int}(hb:1≤b):(wg t b).1<0↔t<0:=by
 have hg:=jf (t:=t) hb
 have e1:gOf t b*(wg t b).1=t:=qkd
 constructor
 ·intro h
  have:=eB h (show 0<gOf t b by lia)
  rw [e1,Int.mul_zero] at this
  exact this
 ·intro h
  rcases cu (wg t b).1 0 with z|z
  ·exact z
  ·have:=bt z (show 0≤gOf t b by lia)
   rw [e1,Int.mul_zero] at this
   lia
theorem qyb {t b n:Int}(hb:1≤b):n*(wg t b).2<(wg t b).1↔n*b<t:=by
 have hg:=jf (t:=t) hb
 have e1:gOf t b*(wg t b).1=t:=qkd
 have e2:gOf t b*(wg t b).2=b:=qqu hb
 have e3:gOf t b*(n*(wg t b).2)=n*b:=by
  generalize gOf t b=g at *
  generalize (wg t b).2=y at *
  grind
 constructor
 ·intro h
  have:=eB h (show 0<gOf t b by lia)
  rw [e1,e3] at this
  exact this
 ·intro h
  rcases cu (n*(wg t b).2) (wg t b).1 with z|z
  ·exact z
  ·have:=bt z (show 0≤gOf t b by lia)
   rw [e1,e3] at this
   lia
theorem qw2 {N b:Int}(hb:1≤b):b%(wg N b).2=0∧(wg N b).1*(b/(wg N b).2)=N:=by
 have hy:=Wc (t:=N) hb
 have cr:=wwh (t:=N) hb
 have hd:(wg N b).2∣b:=⟨gOf N b,by rw [fg];exact (qqu hb).symm⟩
 refine ⟨Int.emod_eq_zero_of_dvd hd,?_⟩
 have e:=dM hd
 generalize b/(wg N b).2=q at *
 generalize (wg N b).1=x at *
 generalize (wg N b).2=y at *
 have:y*(x*q-N)=0:=by grind
 rcases Int.mul_eq_zero.mp this with h|h <;> lia
def qu6 (hs:List Int)(t b:Int):Int:=if t/b*b=t then hAt hs (t/b)*b else hAt hs (t/b)*b+(hAt hs (t/b+1)-hAt hs (t/b))*(t-t/b*b)
theorem wkh {hs:List Int}{t b:Int}(hl:2≤hs.length)(hb:1≤b)(h0:0≤t)(h1:t≤((hs.length:Int)-1)*b):qu6 hs t b=v8 hs t b:=by
 have k0:=fo h0 (show (0:Int)≤b by lia)
 have k1:t/b*b≤t:=fu t (by lia)
 have k2:t<(t/b+1)*b:=by
  have:=dU t (show 0<b by lia)
  exact this
 unfold qu6
 by_cases hlt:t/b<(hs.length:Int)-1
 ·rw [qkn k0 hlt hb k1 (Int.le_of_lt k2)]
  split
  ·next e=>rw [e];simp
  ·rfl
 ·have ge:(hs.length:Int)-1≤t/b:=by lia
  have m1:=aF ge (show 0≤b by lia)
  have et:t/b*b=t:=by lia
  have ek:t/b=(hs.length:Int)-1:=by
   have:t/b*b=((hs.length:Int)-1)*b:=by lia
   exact Int.eq_of_mul_eq_mul_right (by lia) this
  rw [aj et]
  have et2:t=((hs.length:Int)-1)*b:=by rw [←ek];exact et.symm
  rw [qkn (k:=(hs.length:Int)-1-1) (by lia) (by lia) hb (by rw [et2];exact aF (by lia) (by lia)) (by rw [et2];exact aF (by lia) (by lia)),ek]
  have e5:(hs.length:Int)-1-1+1=(hs.length:Int)-1:=by lia
  rw [e5,et2]
  generalize hAt hs ((hs.length:Int)-1)=u
  generalize hAt hs ((hs.length:Int)-1-1)=v
  generalize (hs.length:Int)-1=n
  grind
theorem wxh {u v b d:Int}(hb:0≤d)(hd:d≤b):(if v<u then v else u)*b≤u*b+(v-u)*d∧u*b+(v-u)*d≤(if v>u then v else u)*b:=by
 by_cases h:v<u
 ·rw [aj h,af (by lia)]
  have a1:=bt hd (show 0≤u-v by lia)
  have a2:=dv (show 0≤u-v by lia) hb
  constructor <;> grind
 ·rw [af h]
  have a1:=bt hd (show 0≤v-u by lia)
  have a2:=dv (show 0≤v-u by lia) hb
  by_cases h2:v>u
  ·rw [aj h2]
   constructor <;> grind
  ·rw [af h2]
   have:v=u:=by lia
   subst this
   constructor <;> grind
end L2
namespace L2
open PySem PySem.Spec PyProof.Rows
def quz (J:It)(M:List Nat)(tt:TT)(te:TE)(σ:St)(H1:Hp)(Q:VK):Prop:=∀p,H1 p=none→∃W:Nat→Nat→List V→Hp→Prop,(∃m,W 0 m [] (upd H1 p (.lst []))) ∧
 ∀i m ys H2,W i m ys H2→H2 p=some (.lst ys)∧ys.length<sizeLine∧((J.stop i H2∧Q (.ref p) H2)∨(J.go i H2∧∀v H3,J.yld i H2 v H3 →
  tt (vj M σ (some v)) H3 λb H4=>if b=true then te (vj M σ (some v)) H4 (λy H5=>H5 p=some (.lst ys)∧∃m',m'<m∧W (i+1) m' (ys++[y]) (upd H5 p (.lst (ys++[y])))) else H4 p=some (.lst ys)∧∃m',m'<m∧W (i+1) m' ys H4))
def wv3 (M:List Nat)(wi:TI)(tt:TT)(te:TE):TE:=λσ H Q=>wi σ H λJ H1=>quz J M tt te σ H1 Q
section
variable {X:Cx}{elt iter cd:Expr}{x:Str}{px pos:Pos}{scope:Scope}{cl:List (Str×Aj)}{M:List Nat}{wi:TI}{tt:TT}{te:TE}
theorem qw3 (hc:X.calm=true)(hclos:closureFor scope X.env=pure cl)(hcap:CapAll X.env cl)(hhas:HasAll cl scope.names)(hix:CapIx X scope cl M)(hk:scope.kind=.function)
  (hnames:∀y∈scope.names,y.2=.local→scope.names.lookup y.1=some .local) (hx:scope.names.lookup x=some .local) (hnd:(Zn X x M).Nodup) (hi:PI X (.Name x px) iter wi)
  (ht:∀C s2 H2 fp pn,PT (vq X scope cl x M C s2 H2 fp pn) cd tt) (he:∀C s2 H2 fp pn,PE (vq X scope cl x M C s2 H2 fp pn) elt te) (hs:∀z,foldedSetIterable iter X.env z=pure z)
  {use:Option (Ag→Sem Unit)} {QQ:Ag→Ab→Prop} {pins:List (Aj×Obj)} {s:Ab} {σ:St} {H:Hp} {Q:VK} {ps:Pos} (I:Inv X pins σ H s) (h:wi σ H λJ H1=>quz J M tt te σ H1 Q)
  (fin:∀(C:Aj) (s2 s4:Ab) (H1 H2:Hp) (fp:List Aj),Inv X pins σ H1 s2→s2.heap.objs.size<C→(∀b∈fp,jm X pins H1 b)→Inv (vq X scope cl x M C s2 H1 fp (X.pn++pins)) [] (vj M σ none) H2 s4→Q (.ref s2.heap.objs.size) H2 →
   compPost (model X.prog X.w) X.A X.xe use QQ (.ref s2.heap.objs.size) C (.ok .next) s4) :
  wpAny (model X.prog X.w) X.A (comprehension (.ListComp elt [⟨.Name x px,iter,[cd],0⟩] scope pos) scope X.env ps (newList []) false (eval iter X.env) use) QQ X.xe s:=by
 refine qxc hclos hhas hk hnames hi hs I h λit fp tn J H1 s2 C h3 tk I2 T t3 hfp hbl hob hR hlt keep hns hD=>?_
 obtain ⟨W,⟨m0,w0⟩,hW⟩:=hR s2.heap.objs.size (I2.hok.fresh (ah _))
 have hxl:(relabel scope X.env).names.lookup x=some .local:=dO hx
 refine Zg (Y:=vq X scope cl x M C s2 H1 fp (X.pn++pins)) (V:=λi n H2=>∃ys,W i n ys H2) (Qd:=Q (.ref s2.heap.objs.size)) (REST:=tstS cd (compEnvC scope cl C X.env) (appS elt (.ref s2.heap.objs.size) (compEnvC scope cl C X.env) _) (again _)) T hc (λ_ _ z=>z) (compTurn_list ..) rfl rfl (xu (i:=0) hnd rfl (.inl hxl) (.inr hxl)) (qzc hcap I2 hlt hfp hbl) (λi n H2 ⟨ys,w⟩=>?_) (λH2 s4 J4 q=>fin C s2 s4 H1 H2 fp I2 hlt hfp J4 q) (I2.comp hcap hhas hix hk hlt keep hns hD hfp hob) ⟨[],w0⟩ t3 λb hb=>by rw [wj (ar (hbl b hb))];exact (hfp b hb).1
 obtain ⟨hp,hz,hcase⟩:=hW i n ys H2 w
 refine hcase.imp id λ⟨hgo,hy⟩=>⟨hgo,λv H3 yl=>⟨λσ4 H4=>σ4=vj M σ (some v)∧H3=H4,⟨rfl,rfl⟩,λ_ _ e=>?_⟩⟩
 obtain ⟨rfl,rfl⟩:=e
 refine ⟨Qn M σ v,λpins' s' J=>?_⟩
 exact wz1 (ht _ _ _ _ _) J (hy v H3 yl) (λs6 H6 J6 h6=>aR (qv5 (N:=λzs H5=>∃m',m'<n∧W (i+1) m' zs H5) (λ_ _ z=>z) (he _ _ _ _ _) J6 hz h6) (λr s5 ⟨e,H5,J5,zs,m',hm,w'⟩=>⟨e,H5,J5,m',hm,zs,w'⟩) λ_ _ z=>z)
  λs6 H6 J6 ⟨_,m',hm,w'⟩=>ag ⟨rfl,H6,J6,m',hm,ys,w'⟩
theorem wzr (hc:X.calm=true)(hclos:closureFor scope X.env=pure cl)(hcap:CapAll X.env cl)(hhas:HasAll cl scope.names)(hix:CapIx X scope cl M)(hk:scope.kind=.function)
  (hnames:∀y∈scope.names,y.2=.local→scope.names.lookup y.1=some .local) (hx:scope.names.lookup x=some .local) (hnd:(Zn X x M).Nodup) (hi:PI X (.Name x px) iter wi)
  (ht:∀C s2 H2 fp pn,PT (vq X scope cl x M C s2 H2 fp pn) cd tt) (he:∀C s2 H2 fp pn,PE (vq X scope cl x M C s2 H2 fp pn) elt te) (hs:∀z,foldedSetIterable iter X.env z=pure z:=by intro _;rfl) :
  PE X (.ListComp elt [⟨.Name x px,iter,[cd],0⟩] scope pos) (wv3 M wi tt te):=by
 intro pins s σ H Q I h
 rw [eval_ListComp]
 refine qw3 hc hclos hcap hhas hix hk hnames hx hnd hi ht he hs (use:=none) I h λC s2 s4 H1 H2 fp I2 hlt hfp J4 hq=>?_
 obtain ⟨m,hn,_⟩:=J4.loc
 exact ⟨m,hn,λh' hs'=>⟨.ref s2.heap.objs.size,H2,I2.uncomp (bC hlt) hfp J4 hs',rfl,hq⟩⟩
theorem qkt {i:Nat}{y:Str}{py spos:Pos}(hN:X.N.Nodup)(hyi:X.N[i]?=some y)(hyl:Loc X.env.scope y)(hc:X.calm=true)(hclos:closureFor scope X.env=pure cl)(hcap:CapAll X.env cl)(hhas:HasAll cl scope.names)(hix:CapIx X scope cl M)(hk:scope.kind=.function)
  (hnames:∀y∈scope.names,y.2=.local→scope.names.lookup y.1=some .local) (hx:scope.names.lookup x=some .local) (hnd:(Zn X x M).Nodup) (hi:PI X (.Name x px) iter wi)
  (ht:∀C s2 H2 fp pn,PT (vq X scope cl x M C s2 H2 fp pn) cd tt) (he:∀C s2 H2 fp pn,PE (vq X scope cl x M C s2 H2 fp pn) elt te) (hs:∀z,foldedSetIterable iter X.env z=pure z:=by intro _;rfl)
  (hsw:swapsWith (.ListComp elt [⟨.Name x px,iter,[cd],0⟩] scope pos) (some (.Name y py)) spos.line X.env=pure true:=by rfl) (hyf:X.fn y=true∨X.env.scope.names.lookup y=some .local:=by first | exact .inl rfl | exact .inr rfl | assumption) :
  PS X (.Assign [.Name y py] (.ListComp elt [⟨.Name x px,iter,[cd],0⟩] scope pos) spos) (tAsg (wv3 M wi tt te) (qu7 i)):=by
 intro pins s σ H D I h
 rw [exec_Assign_Name_used _ _ _ _ hsw]
 refine aa (cM (aa ?_))
 refine aa (aR (qw3 hc hclos hcap hhas hix hk hnames hx hnd hi ht he hs (use:=some (assign (.Name y py) X.env)) (QQ:=λ_ s'=>SP X pins D .next s') I h λC s2 s4 H1 H2 fp I2 hlt hfp J4 hq=>?_) (λ_ s' hq=>ag (ag hq)) λ_ _ e=>e)
 have I4:Inv X pins σ H2 s4:=I2.uncomp (h':=s4.heap) (bC hlt) hfp J4 (Heap.SameBut.refl _ _)
 have hCn:H2 C=none:=J4.free
 obtain ⟨mC,hnC,_⟩:=J4.loc
 obtain ⟨oC,esC,epC,hoC,hdC⟩:=id hnC
 have hCl:C≠X.env.locals:=λz=>aS _ (bd hlt (z▸I2.lt))
 have hCs:X.s₀.heap.objs.size≤C:=bB I2.sz (bC hlt)
 have hCc:∀y c,X.env.cells.lookup y=some c→c≠C:=λy c e z=>by
  obtain ⟨v,o,e1,_⟩:=I2.cell y c e
  exact aS _ (bd hlt (z▸al e1))
 have hCp:∀p∈X.pn++pins,p.1≠C:=λp hp z=>aS _ (bd hlt (z▸al (I2.pin p hp).1))
 have hCf:C∉frs X.stack:=λz=>by
  rcases ak.mp (I2.stkSub C z) with q|q
  ·exact hCl q
  ·obtain ⟨_,o,e1,_⟩:=I2.funs.mem (b:=C) q
   exact aS _ (bd hlt (al e1))
 have hCx:C∉X.fs:=λz=>by
  obtain ⟨_,o,e1,_⟩:=I2.funs.mem (b:=C) z
  exact aS _ (bd hlt (al e1))
 have I4p:Inv X (pins++[(C,oC)]) σ H2 s4:=⟨I4.ok,I4.os,I4.bare,I4.base,I4.loc,I4.cell,I4.free,I4.freeC,λp hp=>by
  rcases aH.mp hp with q|q
  ·exact I4.pin p (cP _ q)
  ·rcases aH.mp q with q|q
   ·exact I4.pin p (av _ q)
   ·rw [ai.mp q]
    exact ⟨hoC,hCn,hCl,hCx,λv z=>by rw [hdC.1] at z;cases z⟩,I4.hok,I4.len⟩
 show wpAny _ _ (assign (.Name y py) X.env (.ref s2.heap.objs.size)) _ _ _
 refine eJ (jp I4p hN hyi hyl (show RelV (.ref s2.heap.objs.size) (.ref s2.heap.objs.size) from rfl) (λs5 I5=>?_) hyf)
 have hC5:=(I5.pin (C,oC) (av _ (av _ (.head _)))).1
 exact ⟨mC,⟨oC,esC,epC,hC5,hdC⟩,λh' hs'=>⟨_,H2,I5.unpinned.but hCn hCs hCl hCc hCp hs',hq⟩⟩
end
end L2
namespace L2
open PySem PySem.Spec PyProof.Rows
structure FunD (K:Aa)(x:Str)(st:Stmt)(f:Aj)(fd:Ad):Prop where
 ex:∃(oc:Ag) (od:Option Aj) (T:Aj) (kV doc pm:Ag) (an:Option Aj) (cdv ct:Ag) (osl:Array (Option Ag)),
  fd=PySem.W.fnOf x x (jw st) (w8 st) (wu st) (.ref T) kV doc pm an cdv ct∧K.lookup f=some ⟨oc,od,.func fd,osl⟩∧PySem.W.codeIn K cdv x=true∧∃o n,K.lookup T=some o∧o.data=.seq #[.none] n
 kp:PySem.W.keepIn K (.ref f)=true
structure DefInD (K:Aa)(x:Str)(st:Stmt):Prop where
 ex:∃f fd,PySem.W.nsIn K mainGlobals x=some (some (.ref f))∧FunD K x st f fd
section
variable {P:Ac}{w:Ah}{K:Aa}{mg:Str→Option Ag}{base:Heap}
theorem wjp {x:Str}{st:Stmt}{f T:Aj}{oc:Ag}{od an:Option Aj}{osl:Array (Option Ag)}{kV doc pm cdv ct:Ag}(a:PySem.W.nsIn K mainGlobals x=some (some (.ref f)))
  (l:K.lookup f=some ⟨oc,od,.func (PySem.W.fnOf x x (jw st) (w8 st) (wu st) (.ref T) kV doc pm an cdv ct),osl⟩) (c:PySem.W.codeIn K cdv x=true) (k:PySem.W.keepIn K (.ref f)=true) {tc:Ag} {td:Option Aj} {tn:Nat} {ts:Array (Option Ag)} (t:K.lookup T=some ⟨tc,td,.seq #[.none] tn,ts⟩):DefInD K x st:=⟨_,_,a,⟨oc,od,T,kV,doc,pm,an,cdv,ct,osl,rfl,l,c,_,_,t,rfl⟩,k⟩
theorem FunD.okX {x:Str}{st:Stmt}{f:Aj}{fd:Ad}{N ps:List Str}{k:Nat}{sp:Sp}(F:FunD K x st f fd)(S:FnScope N ps (wu st))(len:∀vs H Q E,sp vs H Q E→vs.length=ps.length)
  (body:∀(cdv:Ag) (A:Ae) (outer:List Env) (s:Ab) (H:Hp) (vs:List V) (Q:VK) (E:XK),Room k (A.deeper (envOfC x (wu st) s.heap.objs.size f cdv))→sp vs H Q E →
   ∃t,PSs (qwu (CXE P w) P w K mg base N x (wu st) f cdv A outer s H E) (w8 st) t∧t { nx:=λ_ H'=>Q .non H',rt:=Q } (W6 N vs) H):FnOk P w K mg base (CXE P w) (k+1) f fd ps sp:=by
 obtain ⟨oc,od,T,kV,doc,pm,an,cdv,ct,osl,rfl,lk,hcd,_⟩:=F.ex
 exact fn_of lk hcd S len λA outer s H vs Q E hr hsp=>body cdv A outer s H vs Q E hr hsp
def Wr (x:Str)(st:Stmt)(ps:List Str)(ds:List Ag):Prop:=∀(T:Aj) (kV doc pm:Ag) (an:Option Aj) (cdv ct:Ag) (us:List Ag),(us++ds).length=ps.length →
 ∃kk,bindArgs (PySem.W.fnOf x x (jw st) (w8 st) (wu st) (.ref T) kV doc pm an cdv ct) ⟨us,[]⟩=seqItems? (.ref T) >>= kk∧kk (some #[.none])=pure (ps.zip (us++ds))
structure CalD (P:Ac)(w:Ah)(K:Aa)(mg:Str→Option Ag)(base:Heap)(x:Str)(k:Nat)(sp:Sp):Prop where
 ex:∃f fd ps,mg x=some (.ref f)∧FnOk P w K mg base (CXE P w) k f fd ps sp∧PySem.W.keepIn K (.ref f)=true∧Binds K fd ps []∧Binds K fd ps [.none]
theorem FunD.binds {x:Str}{st:Stmt}{f:Aj}{fd:Ad}{ps:List Str}{ds:List Ag}(F:FunD K x st f fd)(b:Wr x st ps ds):Binds K fd ps ds:=by
 obtain ⟨oc,od,T,kV,doc,pm,an,cdv,ct,osl,rfl,lk,hcd,o,n,e1,e2⟩:=F.ex
 intro s us X hl
 obtain ⟨kk,h1,h2⟩:=b T kV doc pm an cdv ct us hl
 exact PySem.W.binds_K X rfl e1 e2 h1 h2
theorem DefInD.cal {x:Str}{st:Stmt}{ps:List Str}{k:Nat}{sp:Sp}{h:Heap}(d:DefInD K x st)(KX:K.In h)(G:h.Ns mainGlobals mg)(b:Wr x st ps [])(b':Wr x st ps [.none])(ok:∀f fd,FunD K x st f fd→FnOk P w K mg base (CXE P w) k f fd ps sp):CalD P w K mg base x k sp:=by
 obtain ⟨f,fd,a,F⟩:=d.ex
 exact ⟨f,fd,ps,aG KX G a,ok f fd F,F.kp,F.binds b,F.binds b'⟩
theorem CalD.all {x:Str}{k:Nat}{sp:Sp}(c:CalD P w K mg base x k sp):Cal P w K mg base x k sp:=by
 obtain ⟨f,fd,ps,h1,h2,h3,h4,_⟩:=c.ex
 exact ⟨f,fd,ps,h1,h2,h3,h4⟩
end
section
variable {X:Cx}{x:Str}{k:Nat}{sp:Sp}{E:St→XK}{p pos:Pos}{e:Expr}{es:List Expr}{t:TA}
end
end L2
namespace L2
open PySem PySem.Spec PyProof.Rows
section
variable {κ:Type}[DecidableEq κ]
def wc (kvs:List (κ×V))(k:κ):Option V:=(kvs.find? λkv=>decide (kv.1=k)).map (·.2)
def zx (kvs:List (κ×V))(k:κ)(v:V):List (κ×V) :=
 if (kvs.any λkv=>decide (kv.1=k))=true then kvs.map (λkv=>if kv.1=k then (kv.1,v) else kv) else kvs++[(k,v)]
def j0 (kvs:List (κ×V))(k:κ):List (κ×V):=kvs.filter λkv=>decide (kv.1≠k)
theorem zc {p:κ×V}{r:List (κ×V)}{k:κ}(e:p.1=k):wc (p::r) k=some p.2:=by simp [wc,cJ,e]
theorem zj {p:κ×V}{r:List (κ×V)}{k:κ}(e:¬ p.1=k):wc (p::r) k=wc r k:=by simp [wc,cJ,e]
theorem yj (k:κ):∀kvs:List (κ×V),(kvs.any λkv=>decide (kv.1=k))=(wc kvs k).isSome
 |[]=>rfl
 |p::r=>by
  rw [fE]
  by_cases e:p.1=k
  ·simp only [zc e,bn e,Bool.true_or,Option.isSome_some]
  ·rw [zj e,bh e,Bool.false_or];exact yj k r
theorem qjv (k j:κ)(y:V):∀kvs:List (κ×V),wc (kvs.map λkv=>if kv.1=k then (kv.1,y) else kv) j=(wc kvs j).map λx=>if j=k then y else x
 |[]=>rfl
 |p::r=>by
  have ih:=qjv k j y r
  rw [ax]
  by_cases h:p.1=k
  ·rw [aj h]
   by_cases e:p.1=j
   ·rw [zc (p:=(p.1,y)) e,zc e,cK,aj (e.symm.trans h)]
   ·rw [zj (p:=(p.1,y)) e,zj e,ih]
  ·rw [af h]
   by_cases e:p.1=j
   ·rw [zc (p:=p) e,zc e,cK,af (λz=>h (e.trans z))]
   ·rw [zj (p:=p) e,zj e,ih]
theorem Zh (k j:κ)(y:V):∀kvs:List (κ×V),wc kvs k=none→wc (kvs++[(k,y)]) j=if j=k then some y else wc kvs j
 |[],_=>by
  by_cases e:k=j
  ·rw [aj e.symm];exact zc (p:=(k,y)) e
  ·rw [af (λz=>e z.symm)];exact zj (p:=(k,y)) e
 |p::r,hn=>by
  rw [List.cons_append]
  have hk:¬ p.1=k:=λz=>by rw [zc z] at hn;cases hn
  rw [zj hk] at hn
  have ih:=Zh k j y r hn
  by_cases e:p.1=j
  ·rw [zc e,zc e,af (λz=>hk (e.trans z))]
  ·rw [zj e,zj e,ih]
theorem vf (kvs:List (κ×V))(k j:κ)(y:V):wc (zx kvs k y) j=if j=k then some y else wc kvs j:=by
 unfold zx
 by_cases a:(kvs.any λkv=>decide (kv.1=k))=true
 ·rw [aj a,qjv]
  rw [yj] at a
  by_cases e:j=k
  ·obtain ⟨x,hx⟩:=be.mp a
   rw [aj e,e,hx,cK,aj rfl]
  ·rw [af e]
   cases wc kvs j with
   |none=>rfl
   |some x=>rw [cK,af e]
 ·rw [af a]
  refine Zh k j y kvs ?_
  rw [yj] at a
  cases q:wc kvs k with
  |none=>rfl
  |some x=>rw [q] at a;exact (a rfl).elim
theorem x9 (kvs:List (κ×V))(k:κ)(v:V):(zx kvs k v).length≤kvs.length+1:=by
 unfold zx
 split
 ·rw [ae];lia
 ·rw [aV,aL,ck];lia
theorem ux {kvs:List (κ×V)}{k:κ}(v:V)(h:wc kvs k=none):zx kvs k v=kvs++[(k,v)]:=by
 unfold zx
 rw [yj,h]
 exact af (by decide)
theorem RelO.isSome_eq {o:Option V}{u:Option Ag}(r:RelO o u):o.isSome=u.isSome:=by
 cases o with
 |none=>cases u with
  |none=>rfl
  |some _=>exact (show False from r).elim
 |some _=>cases u with
  |none=>exact (show False from r).elim
  |some _=>rfl
theorem RelO.getD {o:Option V}{u:Option Ag}{d:V}{d':Ag}(r:RelO o u)(rd:RelV d d'):RelV (o.getD d) (u.getD d'):=by
 cases o with
 |none=>cases u with
  |none=>exact rd
  |some _=>exact (show False from r).elim
 |some _=>cases u with
  |none=>exact (show False from r).elim
  |some _=>exact r
theorem KV.val {kvs:List (κ×V)}{vs:List (κ×Ag)}(r:KV kvs vs)(k:κ):RelO (wc kvs k) (valueAt vs k):=by
 unfold KV at r
 induction r with
 |nil=>exact True.intro
 |@cons p q ps qs h t ih =>
  obtain ⟨h1,h2⟩:=h
  by_cases e:p.1=k
  ·have e':q.1=k:=h1.symm.trans e
   have b:valueAt (q::qs) k=some q.2:=by simp [valueAt,cJ,e']
   rw [zc e,b];exact h2
  ·have e':¬ q.1=k:=λz=>e (h1.trans z)
   have b:valueAt (q::qs) k=valueAt qs k:=by simp [valueAt,cJ,e']
   rw [zj e,b];exact ih
theorem KV.any {kvs:List (κ×V)}{vs:List (κ×Ag)}(r:KV kvs vs)(k:κ):(kvs.any λkv=>decide (kv.1=k))=vs.any λkv=>decide (kv.1=k):=by
 unfold KV at r
 induction r with
 |nil=>rfl
 |cons h t ih=>rw [fE,fE,ih,h.1]
theorem KV.repl {kvs:List (κ×V)}{vs:List (κ×Ag)}(r:KV kvs vs)(k:κ){y:V}{u:Ag}(ry:RelV y u) :
  KV (kvs.map λkv=>if kv.1=k then (kv.1,y) else kv) (vs.map λkv=>if kv.1=k then (kv.1,u) else kv):=by
 unfold KV at r ⊢
 induction r with
 |nil=>exact .nil
 |@cons p q ps qs h t ih =>
  rw [ax,ax]
  refine .cons ?_ ih
  obtain ⟨h1,h2⟩:=h
  by_cases e:p.1=k
  ·rw [aj e,aj (h1.symm.trans e)];exact ⟨h1,ry⟩
  ·rw [af e,af (λz=>e (h1.trans z))];exact ⟨h1,h2⟩
theorem KV.put {kvs:List (κ×V)}{vs:List (κ×Ag)}(r:KV kvs vs)(k:κ){y:V}{u:Ag}(ry:RelV y u):KV (zx kvs k y) (stored vs k u):=by
 unfold zx stored
 rw [r.any k]
 by_cases e:(vs.any λkv=>decide (kv.1=k))=true
 ·rw [aj e,aj e];exact r.repl k ry
 ·rw [af e,af e];exact Paired.snoc r ⟨rfl,ry⟩
theorem KV.drop {kvs:List (κ×V)}{vs:List (κ×Ag)}(r:KV kvs vs)(k:κ):KV (j0 kvs k) (without vs k):=by
 unfold KV at r ⊢
 unfold j0 without
 induction r with
 |nil=>exact .nil
 |@cons p q ps qs h t ih =>
  obtain ⟨h1,h2⟩:=h
  rw [bq,bq]
  by_cases e:p.1=k
  ·have a:¬ decide (p.1≠k)=true:=by simp [e]
   have b:¬ decide (q.1≠k)=true:=by simp [h1.symm.trans e]
   rw [af a,af b];exact ih
  ·have e':¬ q.1=k:=λz=>e (h1.trans z)
   have a:decide (p.1≠k)=true:=by simp [e]
   have b:decide (q.1≠k)=true:=by simp [e']
   rw [aj a,aj b];exact .cons ⟨h1,h2⟩ ih
theorem KV.length {kvs:List (κ×V)}{vs:List (κ×Ag)}(r:KV kvs vs):kvs.length=vs.length:=bo r
theorem ug (kvs:List (κ×V))(k:κ):(j0 kvs k).length≤kvs.length:=cN _ _
end
theorem ut {P:Ac}{w:Ah}{k:Key}{u:Ag}(r:RelV (kV k) u):(xg P w).is k u=true:=by
 cases k with
 |inl i=>obtain ⟨t,e⟩:=(show ∃t,u=Value.int i t from r);subst e;exact qv9 P w i t
 |inr x=>obtain ⟨t,e⟩:=(show ∃t,u=Value.str x t from r);subst e;exact qk6 P w x t
theorem qxm {P:Ac}{w:Ah}:∀ {ks:List Key} {us:List Ag},Vals (ks.map kV) us→ItemsAre (xg P w) ks us
 |[],_,r=>by rw [bD] at r;cases r;exact .nil
 |k::ks,_,r=>by
  rw [ax] at r
  cases r with
  |cons h t=>exact .cons (ut h) (qxm t)
abbrev KT (H:Hp):List (List Key×V)→List (List Key×Aj×Ag)→Prop:=Paired λp q=>p.1=q.1∧H q.2.1=some (.tup (p.1.map kV))∧RelV p.2 q.2.2
theorem KT.val {H:Hp}{kvs:List (List Key×V)}{xs:List (List Key×Aj×Ag)}(r:KT H kvs xs)(k:List Key):RelO (wc kvs k) ((atKey xs k).map (·.2)):=by
 induction r with
 |nil=>exact True.intro
 |@cons p q ps qs h t ih =>
  obtain ⟨h1,_,h2⟩:=h
  by_cases e:p.1=k
  ·have e':q.1=k:=h1.symm.trans e
   have b:atKey (q::qs) k=some q.2:=by simp [atKey,cJ,e']
   rw [zc e,b];exact h2
  ·have e':¬ q.1=k:=λz=>e (h1.trans z)
   have b:atKey (q::qs) k=atKey qs k:=by simp [atKey,cJ,e']
   rw [zj e,b];exact ih
theorem KT.repl {H:Hp}{kvs:List (List Key×V)}{xs:List (List Key×Aj×Ag)}(r:KT H kvs xs)(k:List Key){y:V}{u:Ag}(ry:RelV y u) :
  KT H (kvs.map λkv=>if kv.1=k then (kv.1,y) else kv) (xs.map (putAt k u)):=by
 induction r with
 |nil=>exact .nil
 |@cons p q ps qs h t ih =>
  rw [ax,ax]
  refine .cons ?_ ih
  obtain ⟨h1,h2,h3⟩:=h
  unfold putAt
  by_cases e:p.1=k
  ·rw [aj e,aj (h1.symm.trans e)];exact ⟨h1,h2,ry⟩
  ·rw [af e,af (λz=>e (h1.trans z))];exact ⟨h1,h2,h3⟩
theorem KT.put {H:Hp}{kvs:List (List Key×V)}{xs:List (List Key×Aj×Ag)}(r:KT H kvs xs)(k:List Key){b:Aj}{y:V}{u:Ag}(hb:H b=some (.tup (k.map kV)))(ry:RelV y u) :
  KT H (zx kvs k y) (storedH xs k b u):=by
 have e:(kvs.any λkv=>decide (kv.1=k))=(atKey xs k).isSome:=by
  rw [yj,(r.val k).isSome_eq,eK]
 unfold zx storedH
 rw [e]
 by_cases q:(atKey xs k).isSome=true
 ·rw [aj q,aj q];exact r.repl k ry
 ·rw [af q,af q];exact Paired.snoc r ⟨rfl,hb,ry⟩
theorem KT.keeps {H H':Hp}{kvs:List (List Key×V)}{xs:List (List Key×Aj×Ag)}(r:KT H kvs xs)(ht:∀b ys,H b=some (.tup ys)→H' b=some (.tup ys)):KT H' kvs xs :=
 Paired.mapP r λ_ _ z=>⟨z.1,ht _ _ z.2.1,z.2.2⟩
section
variable {P:Ac}{w:Ah}{H:Hp}{h:Heap}{a:Aj}
theorem rd_of {u:HO}(ok:HOk P w H h)(e:Rd H a u):ObjOk P w H h a u:=e.ok ok
theorem Qm {kvs:List (Key×V)}(ok:HOk P w H h)(e:Rd H a (.dK kvs)):kvs.length≤sizeLine∧(a==sysModules)=false∧∃vs,KV kvs vs∧h.DictOf (xg P w) a vs :=
 show ObjOk P w H h a (.dK kvs) from rd_of ok e
theorem Y5 {kvs:List (Key×V)}(ok:HOk P w H h)(e:H a=some (.dK kvs)):kvs.length≤sizeLine∧(a==sysModules)=false∧∃vs,KV kvs vs∧h.DictOf (xg P w) a vs:=Qm ok (.inl e)
theorem uj {ks:List Key}(ok:HOk P w H h)(e:H a=some (.tup (ks.map kV))):(tupleKind (xg P w)).is h ks a:=by
 obtain ⟨_,its,r,o,h1,h2,n,h3⟩:=(show ObjOk P w H h a (.tup (ks.map kV)) from ok a _ e)
 exact ⟨o,its.toArray,n,h1,h2,h3,by simpa using qxm r⟩
theorem W0 {kvs:List (List Key×V)}(ok:HOk P w H h)(e:Rd H a (.dT kvs)):kvs.length≤sizeLine∧(a==sysModules)=false ∧
  ∃xs,KT H kvs xs∧h.DictOfH (tupleKind (xg P w)) a xs:=by
 obtain ⟨z,y,xs,r,o,es,ep,h1,h2,h3,h4,h5⟩:=(show ObjOk P w H h a (.dT kvs) from rd_of ok e)
 refine ⟨z,y,xs,r,o,es,ep,h1,h2,h3,h4,λx hx=>?_,h5⟩
 have all:∀ {l:List (List Key×V)} {m:List (List Key×Aj×Ag)},KT H l m→∀x∈m,(tupleKind (xg P w)).is h x.1 x.2.1:=by
  intro l m q
  induction q with
  |nil=>intro x hx;exact nomatch hx
  |@cons p q ps qs hq t ih =>
   intro x hx
   rcases ak.mp hx with e|hx
   ·subst e
    exact uj ok (by rw [←hq.1];exact hq.2.1)
   ·exact ih x hx
 exact all r x hx
theorem dt_of {kvs:List (List Key×V)}(ok:HOk P w H h)(e:H a=some (.dT kvs)):kvs.length≤sizeLine∧(a==sysModules)=false ∧
  ∃xs,KT H kvs xs∧h.DictOfH (tupleKind (xg P w)) a xs:=W0 ok (.inl e)
end
def DGet (H:Hp)(a:Aj)(y:V)(r:Option V):Prop :=
 (∃kvs k,Rd H a (.dK kvs)∧y=kV k∧r=wc kvs k)∨∃kvs k b,Rd H a (.dT kvs)∧y=.ref b∧H b=some (.tup (k.map kV))∧r=wc kvs k
def DPut (H:Hp)(a:Aj)(y v:V)(H':Hp):Prop :=
 (∃kvs k,H a=some (.dK kvs)∧y=kV k∧kvs.length<sizeLine∧H'=upd H a (.dK (zx kvs k v))) ∨
 ∃kvs k b,H a=some (.dT kvs)∧y=.ref b∧H b=some (.tup (k.map kV))∧kvs.length<sizeLine∧H'=upd H a (.dT (zx kvs k v))
theorem DGet.k {H:Hp}{a:Aj}{kvs:List (Key×V)}{k:Key}(e:H a=some (.dK kvs)):DGet H a (kV k) (wc kvs k):=.inl ⟨kvs,k,.inl e,rfl,rfl⟩
theorem DGet.t {H:Hp}{a b:Aj}{kvs:List (List Key×V)}{k:List Key}(e:H a=some (.dT kvs))(eb:H b=some (.tup (k.map kV))):DGet H a (.ref b) (wc kvs k):=.inr ⟨kvs,k,b,.inl e,rfl,eb,rfl⟩
theorem DPut.k {H:Hp}{a:Aj}{kvs:List (Key×V)}{k:Key}{v:V}(e:H a=some (.dK kvs))(hl:kvs.length<sizeLine):DPut H a (kV k) v (upd H a (.dK (zx kvs k v))):=.inl ⟨kvs,k,e,rfl,hl,rfl⟩
theorem DPut.t {H:Hp}{a b:Aj}{kvs:List (List Key×V)}{k:List Key}{v:V}(e:H a=some (.dT kvs))(eb:H b=some (.tup (k.map kV)))(hl:kvs.length<sizeLine) :
  DPut H a (.ref b) v (upd H a (.dT (zx kvs k v))):=.inr ⟨kvs,k,b,e,rfl,eb,hl,rfl⟩
section
variable {X:Cx}{pins:List (Aj×Obj)}{σ:St}{H:Hp}{s:Ab}{a:Aj}{y v:V}{u r:Ag}{o:Option V}{A:Ae}{E:Ag→Ab→Prop}
theorem Inv.big (I:Inv X pins σ H s):sysModules<s.heap.objs.size:=by
 have h:mainGlobals<s.heap.objs.size:=(I.mod.glob.keeps I.bk).lt
 exact bd (by decide) h
theorem wq9 {Q:Ag→Ab→Prop}(hu:A.units+1<cLine)(I:Inv X pins σ H s)(g:DGet H a y (some v))(ry:RelV y u)(h:∀w' s',Inv X pins σ H s'→RelV v w'→Q w' s') :
  wpAny (model X.prog X.w) A (getItem (.ref a) u) Q E s:=by
 rcases g with ⟨kvs,k,e,ey,l⟩|⟨kvs,k,b,e,ey,eb,l⟩
 ·subst ey
  obtain ⟨z,hd,vs,rel,dd⟩:=Qm I.hok e
  obtain ⟨w',hw,rw'⟩:=RelO.some_of (v:=v) (o:=valueAt vs k) (by rw [l];exact rel.val k)
  exact wpAny_getItem_of (ut ry) dd.mapOf hw (h w' _ (I.tok _) rw')
 ·subst ey
  cases (show u=Value.ref b from ry)
  obtain ⟨z,hd,xs,rel,dd⟩:=W0 I.hok e
  obtain ⟨w',hw,rw'⟩:=RelO.some_of (v:=v) (o:=(atKey xs k).map (·.2)) (by rw [l];exact rel.val k)
  obtain ⟨p,hp,hp2⟩:=cC.mp hw
  refine wpAny_getItem_heap (bY hu) (uj I.hok eb) dd hp ?_
  rw [hp2]
  exact h w' _ (I.tok _) rw'
theorem d_in {Q:Ag→Ab→Prop}(hu:A.units+1<cLine)(I:Inv X pins σ H s)(g:DGet H a y o)(ry:RelV y u)(h:∀s',Inv X pins σ H s'→Q (.bool o.isSome) s') :
  wpAny (model X.prog X.w) A (compareOp .In u (.ref a)) Q E s:=by
 rcases g with ⟨kvs,k,e,ey,l⟩|⟨kvs,k,b,e,ey,eb,l⟩
 ·subst ey
  obtain ⟨z,hd,vs,rel,dd⟩:=Qm I.hok e
  refine wpAny_in_of (ut ry) hd dd.mapOf ?_
  rw [← (rel.val k).isSome_eq,←l]
  exact h _ (I.tok _)
 ·subst ey
  cases (show u=Value.ref b from ry)
  obtain ⟨z,hd,xs,rel,dd⟩:=W0 I.hok e
  refine wpAny_in_heap (bY hu) (uj I.hok eb) hd dd ?_
  have q:=(rel.val k).isSome_eq
  rw [eK] at q
  rw [←q,←l]
  exact h _ (I.tok _)
theorem wyn {Q:Ag→Ab→Prop}(hu:A.units+1<cLine)(I:Inv X pins σ H s)(g:DGet H a y o)(ry:RelV y u)(h:∀s',Inv X pins σ H s'→Q (.bool (!o.isSome)) s') :
  wpAny (model X.prog X.w) A (compareOp .NotIn u (.ref a)) Q E s:=by
 rcases g with ⟨kvs,k,e,ey,l⟩|⟨kvs,k,b,e,ey,eb,l⟩
 ·subst ey
  obtain ⟨z,hd,vs,rel,dd⟩:=Qm I.hok e
  refine wpAny_notIn_of (ut ry) hd dd.mapOf ?_
  rw [← (rel.val k).isSome_eq,←l]
  exact h _ (I.tok _)
 ·subst ey
  cases (show u=Value.ref b from ry)
  obtain ⟨z,hd,xs,rel,dd⟩:=W0 I.hok e
  refine wpAny_notIn_heap (bY hu) (uj I.hok eb) hd dd ?_
  have q:=(rel.val k).isSome_eq
  rw [eK] at q
  rw [←q,←l]
  exact h _ (I.tok _)
theorem yp {h':Heap}{t':Nat}{ob:HO}(I:Inv X pins σ H s)(mu:Mut (H a))(hs:Heap.SameBut a s.heap h')(he:∃q,h'.get? a=some q)(new:ObjOk X.prog X.w (upd H a ob) h' a ob) :
  Inv X pins σ (upd H a ob) { s with heap:=h',toks:=t' } :=
 I.write (x:=a) (e:=a) mu (.inl rfl) (λb q hb z=>(hs.2 b hb).trans z) he new
theorem Qt {P:Ac}{w:Ah}{H':Hp}{h':Heap}{kvs:List (Key×V)}{vs:List (Key×Ag)}(z:kvs.length≤sizeLine)(hd:(a==sysModules)=false)(rel:KV kvs vs)(dd:h'.DictOf (xg P w) a vs) :
  ObjOk P w H' h' a (.dK kvs):=⟨z,hd,vs,rel,dd⟩
theorem wwb {H':Hp}{Q:Unit→Ab→Prop}(hu:A.units+1<cLine)(I:Inv X pins σ H s)(g:DPut H a y v H')(ry:RelV y u)(rv:RelV v r)(h:∀s',Inv X pins σ H' s'→Q () s') :
  wpAny (model X.prog X.w) A (setItem (.ref a) u r) Q E s:=by
 rcases g with ⟨kvs,k,e,ey,l,eH⟩|⟨kvs,k,b,e,ey,eb,l,eH⟩
 ·subst ey eH
  obtain ⟨z,hd,vs,rel,dd⟩:=Y5 I.hok e
  have hz:vs.length≤sizeLine:=by rw [←rel.length];exact z
  have hl:(zx kvs k v).length≤sizeLine:=by have:=x9 kvs k v;lia
  refine wpAny_setItem_pairs (hsz:=hz) (ut ry) dd λh' dd' hs=>h _ ?_
  have he:∃q,h'.get? a=some q:=let ⟨q,_,_,hq,_⟩:=dd';⟨q,hq⟩
  exact yp I (by rw [e];exact True.intro) hs he (Qt hl hd (rel.put k rv) dd')
 ·subst ey eH
  cases (show u=Value.ref b from ry)
  obtain ⟨z,hd,xs,rel,dd⟩:=dt_of I.hok e
  have hz:xs.length≤sizeLine:=by rw [←bo rel];exact z
  have hl:(zx kvs k v).length≤sizeLine:=by have:=x9 kvs k v;lia
  refine wpAny_setItem_heap (hsz:=hz) (bY hu) (uj I.hok eb) dd λh' dd' hs=>h _ ?_
  obtain ⟨q,es,ep,hq,h2,h3,h4,_,h5⟩:=dd'
  refine yp I (by rw [e];exact True.intro) hs ⟨q,hq⟩ ⟨hl,hd,_,(rel.put k eb rv).keeps λc ys ec=>?_,q,es,ep,hq,h2,h3,h4,h5⟩
  rw [wj (ne_of ec e (λz=>nomatch z))]
  exact ec
end
section
variable {X:Cx}{pins:List (Aj×Obj)}{σ:St}{H:Hp}{s:Ab}{a:Aj}{kvs:List (Key×V)}{k:Key}{u:Ag}{A:Ae}{E:Ag→Ab→Prop}
theorem wwy {Q:Unit→Ab→Prop}(I:Inv X pins σ H s)(e:H a=some (.dK kvs))(ry:RelV (kV k) u)(l:(wc kvs k).isSome=true)(h:∀s',Inv X pins σ (upd H a (.dK (j0 kvs k))) s'→Q () s') :
  wpAny (model X.prog X.w) A (delItem (.ref a) u) Q E s:=by
 obtain ⟨z,hd,vs,rel,dd⟩:=Y5 I.hok e
 refine wpAny_delItem_slot dd.typeIs (by decide) eE
  (cD eE dd.typeIs PySem.F.entry_dict_delitem (PySem.F.args_dict_delitem_2 _ _) (meets_dict_delitem_pairs (xg X.prog X.w) a (ut ry)) ⟨vs,dd,by rw [←rel.length];exact z,by rw [← (rel.val k).isSome_eq];exact l,λh' dd' hs=>h _ ?_⟩)
 have he:∃q,h'.get? a=some q:=let ⟨q,_,_,hq,_⟩:=dd';⟨q,hq⟩
 exact yp I (by rw [e];exact True.intro) hs he (Qt (bB (ug kvs k) z) hd (rel.drop k) dd')
theorem d_pop {v:V}{more:List Ag}{Q:Ag→Ab→Prop}(I:Inv X pins σ H s)(e:H a=some (.dK kvs))(ry:RelV (kV k) u)(l:wc kvs k=some v)(hm:more=[]∨∃x,more=[x])
  (h:∀w' s',Inv X pins σ (upd H a (.dK (j0 kvs k))) s'→RelV v w'→Q w' s'):wpAny (model X.prog X.w) A (call (.builtin "dict.pop") (.ref a::u::more)) Q E s:=by
 obtain ⟨z,hd,vs,rel,dd⟩:=Y5 I.hok e
 obtain ⟨w',hw,rw'⟩:=RelO.some_of (v:=v) (o:=valueAt vs k) (by rw [←l];exact rel.val k)
 have hp:(keyPart u).isSome=true:=by
  cases k with
  |inl i=>obtain ⟨t,q⟩:=(show ∃t,u=Value.int i t from ry);subst q;rfl
  |inr x=>obtain ⟨t,q⟩:=(show ∃t,u=Value.str x t from ry);subst q;rfl
 have ha:argsOk "dict.pop" ⟨.ref a::u::more,[]⟩:=by
  rcases hm with q|⟨x,q⟩
  ·subst q;exact PySem.F.args_dict_pop_2 _ _
  ·subst q;exact PySem.F.args_dict_pop_3 _ _ _
 refine cD PySem.F.slot_dict_pop dd.typeIs PySem.F.entry_dict_pop ha (meets_dict_pop_there (xg X.prog X.w) a (ut ry) more hm hp)
  ⟨vs,w',dd,by rw [←rel.length];exact z,hw,λh' dd' hs=>h w' _ ?_ rw'⟩
 have he:∃q,h'.get? a=some q:=let ⟨q,_,_,hq,_⟩:=dd';⟨q,hq⟩
 exact yp I (by rw [e];exact True.intro) hs he (Qt (bB (ug kvs k) z) hd (rel.drop k) dd')
end
def NoSl (i:Expr):Prop:=∀ov iv,subscripted i false ov iv=operate [ov,iv] (getItem ov iv)
theorem wj1 {prog:Ac}{w:Ah}{A:Ae}{E:Ag→Ab→Prop}{s:Ab}{env:Env}{value slice:Expr}{pos:Pos}{T id:String}{Q:Ag→Ab→Prop}
  (hl:typeLookup (.type T) "__getitem__" = pure (some (.builtin id))) (hs:NoSl slice)
  (h:wpAny (model prog w) A (eval value env) (λo s₁=>wpAny (model prog w) A (eval slice env) (λi s₂=>s₂.TypeIs o T∧wpAny (model prog w) A (getItem o i) Q E s₂) E s₁) E s) :
  wpAny (model prog w) A (eval (.Subscript value slice pos) env) Q E s:=by
 refine Subscript_ (aR h (λo s₁ h₁=>aR h₁ (λi s₂ h₂=>?_) λ_ _ x=>x) λ_ _ x=>x)
 obtain ⟨hT,h₂⟩:=h₂
 unfold subscriptTail
 refine aa ?_
 rw [getitemInPython_of_ne hT.not_modules]
 refine aa (fy hT hl ?_)
 have fin:wpAny (model prog w) A (subscripted slice false o i) (λr s₃=>wpAny (model prog w) A (letTemporaryGo value o r >>= λ_=>pure r) Q E s₃) E s₂:=by
  rw [hs o i]
  exact wpAny_operating (aR h₂ (λr s₃ h₃=>aa (wpAny_letTemporaryGo (ag h₃))) λ_ _ x=>x)
 first
  |exact ag (aa fin)
  |exact aa (ag (aa fin))
  |exact aa fin
theorem qk4 {X:Cx}{pins:List (Aj×Obj)}{σ:St}{H:Hp}{s:Ab}{a:Aj}{y:V}{o:Option V}(I:Inv X pins σ H s)(g:DGet H a y o):s.TypeIs (.ref a) "dict" := by
 rcases g with ⟨kvs,k,e,_,_⟩|⟨kvs,k,b,e,_,_,_⟩
 ·obtain ⟨_,_,vs,_,dd⟩:=Qm I.hok e
  exact dd.typeIs
 ·obtain ⟨_,_,xs,_,dd⟩:=W0 I.hok e
  exact dd.typeIs
def tDGet (td ty:TE):TE:=λσ H Q=>td σ H λx H1=>ty σ H1 λy H2=>∃a v,x=.ref a∧DGet H2 a y (some v)∧Q v H2
def tDIn (ty td:TE):TE:=λσ H Q=>ty σ H λy H1=>td σ H1 λx H2=>∃a o,x=.ref a∧DGet H2 a y o∧Q (.bl o.isSome) H2
def wj2 (ty td:TE):TE:=λσ H Q=>ty σ H λy H1=>td σ H1 λx H2=>∃a o,x=.ref a∧DGet H2 a y o∧Q (.bl (!o.isSome)) H2
def sDPut (td ty tv:TE):TS:=λD σ H=>tv σ H λv H1=>td σ H1 λx H2=>ty σ H2 λy H3=>∃a H4,x=.ref a∧DPut H3 a y v H4∧D.nx σ H4
def sDDel (td ty:TE):TS:=λD σ H=>td σ H λx H1=>ty σ H1 λy H2=>∃a kvs k,x=.ref a∧H2 a=some (.dK kvs)∧y=kV k∧(wc kvs k).isSome=true∧D.nx σ (upd H2 a (.dK (j0 kvs k)))
section
variable {X:Cx}{o i e value:Expr}{pos pos' tpos:Pos}{td ty tv:TE}
theorem zf (hu:X.A.units+1<cLine)(ho:PE X o td)(hi:PE X i ty)(hs:NoSl i):PE X (.Subscript o i pos) (tDGet td ty):=by
 intro pins s σ H Q I h
 refine wj1 PySem.F.slot_dict_getitem.lookup hs (thn (ho pins s σ H _ I h) λu s1 ⟨x,H1,I1,rx,q1⟩=>thn (hi pins s1 σ H1 _ I1 q1) λiv s2 ⟨y,H2,I2,ry,a,v,ex,g,q2⟩=>?_)
 subst ex
 obtain rfl:u=Value.ref a:=rx
 exact ⟨qk4 I2 g,wq9 hu I2 g ry λw' s3 I3 rw'=>⟨v,H2,I3,rw',q2⟩⟩
theorem quc (hu:X.A.units+1<cLine)(hi:PE X i ty)(ho:PE X o td):PC X .In i o (tDIn ty td):=by
 intro pins s σ H Q I h
 refine thn (hi pins s σ H _ I h) λiv s1 ⟨y,H1,I1,ry,q1⟩=>thn (ho pins s1 σ H1 _ I1 q1) λu s2 ⟨x,H2,I2,rx,a,ov,ex,g,q2⟩=>?_
 subst ex
 obtain rfl:u=Value.ref a:=rx
 exact d_in hu I2 g ry λs3 I3=>⟨.bl ov.isSome,H2,I3,rfl,q2⟩
theorem Qw (hu:X.A.units+1<cLine)(hi:PE X i ty)(ho:PE X o td):PC X .NotIn i o (wj2 ty td):=by
 intro pins s σ H Q I h
 refine thn (hi pins s σ H _ I h) λiv s1 ⟨y,H1,I1,ry,q1⟩=>thn (ho pins s1 σ H1 _ I1 q1) λu s2 ⟨x,H2,I2,rx,a,ov,ex,g,q2⟩=>?_
 subst ex
 obtain rfl:u=Value.ref a:=rx
 exact wyn hu I2 g ry λs3 I3=>⟨.bl (!ov.isSome),H2,I3,rfl,q2⟩
theorem jg (hu:X.A.units+1<cLine)(ho:PE X o td)(hi:PE X i ty)(hv:PE X value tv)(hs:swapsWith value (some (.Subscript o i pos')) pos.line X.env=pure false) :
  PS X (.Assign [.Subscript o i pos'] value pos) (sDPut td ty tv):=by
 intro pins s σ H D I h
 refine wpAny_Assign_Subscript (thn (hv pins s σ H _ I h) λr s1 ⟨v,H1,I1,rv,q1⟩=>thn (ho pins s1 σ H1 _ I1 q1) λu s2 ⟨x,H2,I2,rx,q2⟩=>thn (hi pins s2 σ H2 _ I2 q2) λiv s3 ⟨y,H3,I3,ry,a,H4,ex,g,q3⟩=>?_) hs
 subst ex
 obtain rfl:u=Value.ref a:=rx
 exact wwb hu I3 g ry rv λs4 I4=>⟨σ,H4,I4,q3⟩
theorem wyt (ho:PE X o td)(hi:PE X i ty):PS X (.Delete [.Subscript o i tpos] pos) (sDDel td ty):=by
 intro pins s σ H D I h
 refine wpAny_Delete (wpAny_deleteEach_cons (wpAny_delete_Subscript (thn (ho pins s σ H _ I h) λu s1 ⟨x,H1,I1,rx,q1⟩=>thn (hi pins s1 σ H1 _ I1 q1) λiv s2 ⟨y,H2,I2,ry,a,kvs,k,ex,e,ey,l,q2⟩=>?_)))
 subst ex ey
 obtain rfl:u=Value.ref a:=rx
 exact wwy I2 e ry l λs3 I3=>wpAny_deleteEach_nil ⟨σ,_,I3,q2⟩
end
theorem qk9 {P:Ac}{w:Ah}{H:Hp}(h:Heap)(hb:sysModules<h.objs.size):ObjOk P w H (h.push { cls:=.type "dict",data:=.dict #[] }) h.objs.size (.dK []) :=
 ⟨aB _,aI.mpr (aZ (ar hb)),[],.nil,Heap.DictOf.new h⟩
theorem qjh {P:Ac}{w:Ah}{H:Hp}(h:Heap)(hb:sysModules<h.objs.size):ObjOk P w H (h.push { cls:=.type "dict",data:=.dict #[] }) h.objs.size (.dT []) :=
 ⟨aB _,aI.mpr (aZ (ar hb)),[],.nil,_,#[],0,aq _ rfl,⟨rfl,rfl,rfl⟩,rfl,rfl,aY⟩
def tDNewK:TE:=λ_ H Q=>∀p,H p=none→Q (.ref p) (upd H p (.dK []))
def tDNewT:TE:=λ_ H Q=>∀p,H p=none→Q (.ref p) (upd H p (.dT []))
section
variable {X:Cx}{pos:Pos}
theorem k8:PE X (.Dict [] [] pos) tDNewK:=λpins s σ H Q I h =>
 wpAny_Dict_empty ⟨.ref s.heap.objs.size,_,I.laid (a:=s.heap.objs.size) (o:=.dK []) (t':=s.toks) (λ_ _ q=>ac _ q) (ah _) (qk9 s.heap I.big),rfl,h _ (I.hok.fresh (ah _))⟩
theorem wx3:PE X (.Dict [] [] pos) tDNewT:=λpins s σ H Q I h =>
 wpAny_Dict_empty ⟨.ref s.heap.objs.size,_,I.laid (a:=s.heap.objs.size) (o:=.dT []) (t':=s.toks) (λ_ _ q=>ac _ q) (ah _) (qjh s.heap I.big),rfl,h _ (I.hok.fresh (ah _))⟩
end
end L2
namespace L2
open PySem PySem.Spec PyProof.Rows
def qyc:List (TE×TE)→St→Hp→(List (V×V)→Hp→Prop)→Prop
 |[],_,H,Q=>Q [] H
 |(tk,tv)::r,σ,H,Q=>tk σ H λx H1=>tv σ H1 λy H2=>qyc r σ H2 λps H3=>Q ((x,y)::ps) H3
abbrev VV:List (V×V)→List (Ag×Ag)→Prop:=Paired λp q=>RelV p.1 q.1∧RelV p.2 q.2
def PPs (X:Cx)(pos:Pos)(keys:List (Option Expr))(values:List Expr)(trs:List (TE×TE)):Prop :=
 ∀(pins:List (Aj×Obj)) (s:Ab) (σ:St) (H:Hp) (Q:List (V×V)→Hp→Prop),Inv X pins σ H s→qyc trs σ H Q →
  wpAny (model X.prog X.w) X.A (evalPairs (pairTrees keys values X.env pos)) (λvs s'=>∃ps H',Inv X pins σ H' s'∧VV ps vs∧Q ps H') X.xe s
theorem y8 {X:Cx}{pos:Pos}:PPs X pos [] [] []:=λpins s σ H Q I h=>pairTrees_nil_walk ⟨[],H,I,.nil,h⟩
theorem jc {X:Cx}{pos:Pos}{k v:Expr}{ks:List (Option Expr)}{vs:List Expr}{tk tv:TE}{trs:List (TE×TE)}(hk:PE X k tk)(hv:PE X v tv)(hr:PPs X pos ks vs trs) :
  PPs X pos (some k::ks) (v::vs) ((tk,tv)::trs):=λpins s σ H Q I h =>
 pairTrees_cons_walk (thn (hk pins s σ H _ I h) λu s1 ⟨x,H1,I1,rx,q1⟩=>thn (hv pins s1 σ H1 _ I1 q1) λw2 s2 ⟨y,H2,I2,ry,q2⟩ =>
  thn (hr pins s2 σ H2 _ I2 q2) λws s3 ⟨ps,H3,I3,rel,q3⟩=>⟨(x,y)::ps,H3,I3,.cons ⟨rx,ry⟩ rel,q3⟩)
def u6 (kvs more:List (Key×V)):List (Key×V):=more.foldl (λacc kv=>zx acc kv.1 kv.2) kvs
theorem KV.merge:∀ {more:List (Key×V)} {rs:List (Key×Ag)} {kvs:List (Key×V)} {vs:List (Key×Ag)},KV more rs→KV kvs vs→KV (u6 kvs more) (merged vs rs):=by
 intro more rs kvs vs r
 unfold KV at r
 induction r generalizing kvs vs with
 |nil=>intro q;exact q
 |@cons p q ps qs h t ih =>
  intro r0
  have e:KV (zx kvs p.1 p.2) (stored vs q.1 q.2):=by
   have:=r0.put p.1 h.2
   rw [←h.1];exact this
  exact ih e
theorem Qg:∀(more kvs:List (Key×V)),(u6 kvs more).length≤kvs.length+more.length
 |[],kvs=>by show kvs.length≤kvs.length+0;lia
 |p::r,kvs=>by
  have h1:=Qg r (zx kvs p.1 p.2)
  have h2:=x9 kvs p.1 p.2
  show (u6 (zx kvs p.1 p.2) r).length≤_
  rw [aL];lia
theorem Jx {P:Ac}{w:Ah}:∀ {kvs:List (Key×V)} {ws:List (Ag×Ag)},VV (kvs.map λkv=>(kV kv.1,kv.2)) ws→∃rs,Carries (xg P w) ws rs∧KV kvs rs
 |[],_,r=>by rw [bD] at r;cases r;exact ⟨[],True.intro,.nil⟩
 |p::kvs,_,r=>by
  rw [ax] at r
  cases r with
  |@cons a b as bs h t =>
   obtain ⟨rs,c,q⟩:=Jx (P:=P) (w:=w) t
   obtain ⟨b1,b2⟩:=b
   exact ⟨(p.1,b2)::rs,⟨ut h.1,rfl,c⟩,.cons ⟨rfl,h.2⟩ q⟩
def tDisp (trs:List (TE×TE)):TE:=λσ H Q=>∀p,H p=none→qyc trs σ (upd H p (.dK [])) λps H2=>H2 p=some (.dK [])∧∃kvs:List (Key×V),ps=kvs.map (λkv=>(kV kv.1,kv.2))∧kvs.length≤15∧Q (.ref p) (upd H2 p (.dK (u6 [] kvs)))
theorem yr {X:Cx}{pos:Pos}{keys:List (Option Expr)}{values:List Expr}{trs:List (TE×TE)}(h:PPs X pos keys values trs)(hall:keys.all (·.isSome)=true)(hl:keys.length=values.length)(h0:keys≠[])
  (h15:keys.length≤15):PE X (.Dict keys values pos) (tDisp trs):=by
 intro pins s σ H Q I q
 have hn:=I.hok.fresh (ah s.heap.objs.size)
 have I1:=I.laid (a:=s.heap.objs.size) (o:=.dK []) (h':=s.heap.push { cls:=.type "dict",data:=.dict #[] }) (t':=s.toks) (λ_ _ q=>ac _ q) (ah _) (qk9 s.heap I.big)
 refine wpAny_Dict_walk (knd:=xg X.prog X.w) hall hl h0 h15 (thn (h pins _ σ _ _ I1 (q _ hn)) λws s2 ⟨ps,H2,I2,rel,e,kvs,ep,lk,q2⟩=>?_)
 subst ep
 obtain ⟨rs,c,rk⟩:=Jx (P:=X.prog) (w:=X.w) rel
 obtain ⟨z,hd,vs0,r0,dd⟩:=Y5 I2.hok e
 cases r0
 refine ⟨rs,c,dd,λh' dd' hs=>⟨.ref s.heap.objs.size,_,?_,rfl,q2⟩⟩
 have hz:(u6 [] kvs).length≤sizeLine:=by
  have h1:=Qg kvs []
  rw [ck] at h1
  rw [sizeLine_eq];lia
 have he:∃q,h'.get? s.heap.objs.size=some q:=let ⟨q,_,_,hq,_⟩:=dd';⟨q,hq⟩
 exact yp I2 (by rw [e];exact True.intro) hs he (Qt hz hd (rk.merge .nil) dd')
structure M1 (X:Cx)(o:Expr)(m:Str)(apos:Pos)(e:Expr)(cpos:Pos):Prop where
 base:attributeBase o m X.env (eval o X.env)=eval o X.env
 few:((backTo cpos (starEach [e] X.env)).all (λx=>!x.1)&&(backToKw cpos (keywordEach [] X.env)).all (λx=>x.1.isSome)
  && decide (([e]:List Expr).length+([]:List Keyword).length+(if ([]:List Keyword).isEmpty then 0 else 1)<30))=true
 line:(apos.endLine==cpos.line)=true
 trees:backTo cpos (starEach [e] X.env)=[(false,eval e X.env)]
structure M2 (X:Cx)(o:Expr)(m:Str)(apos:Pos)(e f:Expr)(cpos:Pos):Prop where
 base:attributeBase o m X.env (eval o X.env)=eval o X.env
 few:((backTo cpos (starEach [e,f] X.env)).all (λx=>!x.1)&&(backToKw cpos (keywordEach [] X.env)).all (λx=>x.1.isSome)
  && decide (([e,f]:List Expr).length+([]:List Keyword).length+(if ([]:List Keyword).isEmpty then 0 else 1)<30))=true
 line:(apos.endLine==cpos.line)=true
 trees:backTo cpos (starEach [e,f] X.env)=[(false,eval e X.env),(false,eval f X.env)]
def IsD (H:Hp)(a:Aj):Prop:=(∃kvs,Rd H a (.dK kvs))∨∃kvs,Rd H a (.dT kvs)
theorem qzt {X:Cx}{pins:List (Aj×Obj)}{σ:St}{H:Hp}{s:Ab}{a:Aj}(I:Inv X pins σ H s)(d:IsD H a) :
  s.TypeIs (.ref a) "dict" ∧ (∀b,Value.ref a=.ref b→∃ob,s.heap.get? b=some ob∧ob.dict=none)∧(a==sysModules)=false:=by
 rcases d with ⟨kvs,e⟩|⟨kvs,e⟩
 ·obtain ⟨_,hd,vs,_,dd⟩:=Qm I.hok e
  refine ⟨dd.typeIs,λb q=>?_,hd⟩
  cases q
  obtain ⟨ob,_,_,h1,h2,_⟩:=dd
  exact ⟨ob,h1,h2.2.1⟩
 ·obtain ⟨_,hd,xs,_,dd⟩:=W0 I.hok e
  refine ⟨dd.typeIs,λb q=>?_,hd⟩
  cases q
  obtain ⟨ob,_,_,h1,h2,_⟩:=dd
  exact ⟨ob,h1,h2.2.1⟩
section
variable {X:Cx}{pins:List (Aj×Obj)}{σ:St}{H:Hp}{s:Ab}{a:Aj}{y d:V}{u r:Ag}{o:Option V}{A:Ae}{E:Ag→Ab→Prop}
theorem d_get1 {Q:Ag→Ab→Prop}(hu:A.units+1<cLine)(I:Inv X pins σ H s)(g:DGet H a y o)(ry:RelV y u)(h:∀w' s',Inv X pins σ H s'→RelV (o.getD .non) w'→Q w' s') :
  wpAny (model X.prog X.w) A (call (.builtin "dict.get") [.ref a,u]) Q E s:=by
 rcases g with ⟨kvs,k,e,ey,l⟩|⟨kvs,k,b,e,ey,eb,l⟩
 ·subst ey
  obtain ⟨z,hd,vs,rel,dd⟩:=Qm I.hok e
  refine cD bL dd.typeIs cE (eV _ _) (meets_dict_get (xg X.prog X.w) a (ut ry) hd) ⟨_,dd.mapOf,h _ _ (I.tok _) ?_⟩
  rw [l]
  exact (rel.val k).getD rfl
 ·subst ey
  cases (show u=Value.ref b from ry)
  obtain ⟨z,hd,xs,rel,dd⟩:=W0 I.hok e
  refine cD bL dd.typeIs cE (eV _ _) (meetsH_dict_get (tupleKind (xg X.prog X.w)) a b hd) ⟨bY hu,k,xs,uj I.hok eb,dd,h _ _ (I.tok _) ?_⟩
  rw [l]
  exact (rel.val k).getD rfl
theorem d_get2 {Q:Ag→Ab→Prop}(hu:A.units+1<cLine)(I:Inv X pins σ H s)(g:DGet H a y o)(ry:RelV y u)(rd:RelV d r)(h:∀w' s',Inv X pins σ H s'→RelV (o.getD d) w'→Q w' s') :
  wpAny (model X.prog X.w) A (call (.builtin "dict.get") [.ref a,u,r]) Q E s:=by
 rcases g with ⟨kvs,k,e,ey,l⟩|⟨kvs,k,b,e,ey,eb,l⟩
 ·subst ey
  obtain ⟨z,hd,vs,rel,dd⟩:=Qm I.hok e
  refine cD bL dd.typeIs cE (eX _ _ _) (meets_dict_get_default (xg X.prog X.w) a (ut ry) hd r) ⟨_,dd.mapOf,h _ _ (I.tok _) ?_⟩
  rw [l]
  exact (rel.val k).getD rd
 ·subst ey
  cases (show u=Value.ref b from ry)
  obtain ⟨z,hd,xs,rel,dd⟩:=W0 I.hok e
  refine cD bL dd.typeIs cE (eX _ _ _) (meetsH_dict_get_default (tupleKind (xg X.prog X.w)) a b hd r) ⟨bY hu,k,xs,uj I.hok eb,dd,h _ _ (I.tok _) ?_⟩
  rw [l]
  exact (rel.val k).getD rd
end
def tDGet1 (td ty:TE):TE:=λσ H Q=>td σ H λx H1=>∃a,x=.ref a∧IsD H1 a∧ty σ H1 λy H2=>∃o,DGet H2 a y o∧Q (o.getD .non) H2
def tDGet2 (td ty tx:TE):TE:=λσ H Q=>td σ H λx H1=>∃a,x=.ref a∧IsD H1 a∧ty σ H1 λy H2=>tx σ H2 λz H3=>∃o,DGet H3 a y o∧Q (o.getD z) H3
def tDPop1 (td ty:TE):TE:=λσ H Q=>td σ H λx H1=>∃a,x=.ref a∧IsD H1 a∧ty σ H1 λy H2=>∃kvs k v,H2 a=some (.dK kvs)∧y=kV k∧wc kvs k=some v∧Q v (upd H2 a (.dK (j0 kvs k)))
section
variable {X:Cx}{o e f:Expr}{apos cpos:Pos}{td ty tx:TE}
theorem wx6 (hu:X.A.units+1<cLine)(ho:PE X o td)(he:PE X e ty)(m:M1 X o "get" apos e cpos):PE X (.Call (.Attribute o "get" apos) [e] [] cpos) (tDGet1 td ty):=by
 intro pins s σ H Q I h
 refine eM m.base m.few m.line cy bL PySem.F.type_dict_get (thn (ho pins s σ H _ I h) λu s1 ⟨x,H1,I1,rx,a,ex,d,q1⟩=>?_)
 subst ex
 obtain rfl:u=Value.ref a:=rx
 obtain ⟨t1,t2,_⟩:=qzt I1 d
 refine ⟨t1,t2,?_⟩
 rw [m.trees]
 refine bJ rfl (cn (cA (thn (he pins s1 σ H1 _ I1 q1) λiv s2 ⟨y,H2,I2,ry,ov,g,q2⟩=>dq ?_)))
 exact d_get1 hu I2 g ry λw' s3 I3 rw'=>⟨_,H2,I3,rw',q2⟩
theorem qjj (hu:X.A.units+1<cLine)(ho:PE X o td)(he:PE X e ty)(hf:PE X f tx)(m:M2 X o "get" apos e f cpos):PE X (.Call (.Attribute o "get" apos) [e,f] [] cpos) (tDGet2 td ty tx):=by
 intro pins s σ H Q I h
 refine eM m.base m.few m.line cy bL PySem.F.type_dict_get (thn (ho pins s σ H _ I h) λu s1 ⟨x,H1,I1,rx,a,ex,d,q1⟩=>?_)
 subst ex
 obtain rfl:u=Value.ref a:=rx
 obtain ⟨t1,t2,_⟩:=qzt I1 d
 refine ⟨t1,t2,?_⟩
 rw [m.trees]
 refine bJ rfl (cn (cA (thn (he pins s1 σ H1 _ I1 q1) λiv s2 ⟨y,H2,I2,ry,q2⟩ =>
  cA (thn (hf pins s2 σ H2 _ I2 q2) λfv s3 ⟨z,H3,I3,rz,ov,g,q3⟩=>dq ?_))))
 exact d_get2 hu I3 g ry rz λw' s4 I4 rw'=>⟨_,H3,I4,rw',q3⟩
theorem wzg (ho:PE X o td)(he:PE X e ty)(m:M1 X o "pop" apos e cpos):PE X (.Call (.Attribute o "pop" apos) [e] [] cpos) (tDPop1 td ty):=by
 intro pins s σ H Q I h
 refine eM m.base m.few m.line cy PySem.F.slot_dict_pop PySem.F.type_dict_pop (thn (ho pins s σ H _ I h) λu s1 ⟨x,H1,I1,rx,a,ex,d,q1⟩=>?_)
 subst ex
 obtain rfl:u=Value.ref a:=rx
 obtain ⟨t1,t2,_⟩:=qzt I1 d
 refine ⟨t1,t2,?_⟩
 rw [m.trees]
 refine bJ rfl (cn (cA (thn (he pins s1 σ H1 _ I1 q1) λiv s2 ⟨y,H2,I2,ry,kvs,k,v,ea,ey,l,q2⟩=>dq ?_)))
 subst ey
 exact d_pop I2 ea ry l (.inl rfl) λw' s3 I3 rw'=>⟨v,_,I3,rw',q2⟩
end
section
variable {X:Cx}{pins:List (Aj×Obj)}{σ:St}{H:Hp}{s:Ab}{a:Aj}{kvs:List (Key×V)}{A:Ae}{E:Ag→Ab→Prop}
theorem wx8 {Q:Ag→Ab→Prop}(I:Inv X pins σ H s)(e:Rd H a (.dK kvs))(h:∀p s',H p=none→Inv X pins σ (upd H p (.dK kvs)) s'→Q (.ref p) s'):wpAny (model X.prog X.w) A (call (.type "dict") [.ref a]) Q E s:=by
 obtain ⟨z,hd,vs,rel,dd⟩:=Qm I.hok e
 refine kt_call_dict hd dd (by rw [←rel.length];exact z) λh' dd' hs=>?_
 refine h _ _ (I.hok.fresh (ah _)) (I.laid (a:=s.heap.objs.size) (o:=.dK kvs) (t':=s.toks) (λb q hq=>?_) (ah _) (Qt z (aI.mpr (aZ (ar I.big))) rel dd'))
 exact (hs.2 b (ar (al hq))).trans (ac _ hq)
end
section
variable {X:Cx}{pins:List (Aj×Obj)}{σ:St}{H:Hp}{s:Ab}{a:Aj}{y:V}{u:Ag}{A:Ae}{E:Ag→Ab→Prop}
end
end L2
namespace L2
open PySem PySem.Spec PyProof.Rows PySem.W
def RawD (h:Heap)(d:Aj)(es:Array DictEntry)(ep:Nat):Prop:=∃o,h.get? d=some o∧o.ExactDict∧o.data=.dict es ep
section
variable {prog:Ac}{w:Ah}{A:Ae}{E:Ag→Ab→Prop}{s:Ab}{d:Aj}{es:Array DictEntry}{ep:Nat}
theorem RawD.ty {s:Ab}(x:RawD s.heap d es ep):s.TypeIs (.ref d) "dict" := let ⟨o,ho,hc,_⟩:=x;⟨o,ho,hc.1⟩
theorem RawD.lt {h:Heap}(x:RawD h d es ep):d<h.objs.size:=let ⟨_,ho,_⟩:=x;al ho
theorem RawD.at {h h':Heap}(x:RawD h d es ep)(k:∀o,h.get? d=some o→h'.get? d=some o):RawD h' d es ep:=let ⟨o,ho,r⟩:=x;⟨o,k o ho,r⟩
theorem wkp {Q:Ag→Ab→Prop}(hd:(d==sysModules)=false)(hm:RawD s.heap d es ep)
  (hQ:Q (.ref s.heap.objs.size) { s with heap:=s.heap.push { cls:=.type "dict_keyiterator",data:=.fields #[.ref d,.int 0 0,.int es.size 0,.int ep 0] } }):wpAny (model prog w) A (pyIter (.ref d)) Q E s:=by
 obtain ⟨o,ho,hc,hdat⟩:=id hm
 (refine wpAny_pyIter_slot hm.ty F.slot_dict_iter (cx F.slot_dict_iter hm.ty F.entry_dict_iter ?_ (F.args_dict_iter_1 _)) ;unfold Builtin.«dict.__iter__» ;refine aa ?_ ;unfold Builtin.Dict.dictSlotNone ;refine aa (wpAny_notOrdered_dict hm.ty ?_))
 (show wpAny _ _ (pure (Value.ref d)) _ _ s ;refine ag ?_ ;show wpAny _ _ (Builtin.Dict.showsAll d >>= _) _ _ s ;unfold Builtin.Dict.showsAll ;rw [af (by rw [hd];exact aA)])
 (refine aa (ag ?_) ;refine aa (bQ ho hdat ?_) ;refine aa (fA ho hdat ?_))
 refine aa (bi (ag ⟨_,rfl,"dict_keyiterator",_,⟨_,aq _ rfl,rfl⟩,bF.lookup,?_⟩)) ;simpa [rawInt] using hQ
theorem wv4 {it:Aj}{i:Nat}{e:DictEntry}{Q:Option Ag→Ab→Prop}(hit:s.heap.IsKeyIter it d i es.size ep)(hm:RawD s.heap d es ep)(hx:es[i]?=some e)
  (hQ:∀h',h'.IsKeyIter it d (i+1) es.size ep→Heap.SameBut it s.heap h'→Q (some e.key) { s with heap:=h' }):wpAny (model prog w) A (pyNext (.ref it)) Q E s:=by
 obtain ⟨o,ho,hc,hd⟩:=id hit ;obtain ⟨od,hod,hcd,hdd⟩:=id hm
 (unfold pyNext ;refine aa (wpAny_attempt (bP (name:=Str.ofString "__next__") hit.typeIs bF (cx bF hit.typeIs dP ?_ (dI _)))) ;refine aa (ag ?_) ;refine aa ?_ ;refine aa ?_)
 ((first | refine aa (bO hit.typeIs (ag ?_)) | refine aa (cv hit.typeIs (ag ?_))) ;refine aa (wpAny_fieldsOf ho hd ?_) ;simp only [show Builtin.Dict_items.ownsTuple "dict_keyiterator" = false by decide,bZ,dL] ;show wpAny _ _ (if (Value.ref d==Value.none)=true then _ else _) _ _ s ;rw [af (show ¬ ((Value.ref d==Value.none)=true) from aA)] ;refine aa (ag ?_) ;refine aa (bQ hod hdd ?_) ;rw [af (by simp)] ;refine aa (ag ?_) ;refine aa (fA hod hdd ?_) ;rw [af (by simp)] ;refine ag ?_)
 have hlt:i<es.size:=(eC.mp hx).1 ;have he:es[i]=e:=(eC.mp hx).2
 (simp only [show ¬ ((i:Int)<0) from by lia,dL,du,bK hlt] ;refine aa ?_ ;(first | refine aa (bO hit.typeIs (ag ?_)) | refine aa (cv hit.typeIs (ag ?_))) ;refine aa (wpAny_isOneOf_keyiter hit.typeIs ?_) ;show wpAny _ _ (setField (.ref it) 1 (rawInt ((i:Int)+1)) >>= _) _ _ s ;refine aa (wpAny_setField ho hd (by simp) ?_))
 have hit':(s.heap.update it (Obj.mapFields (·.setIfInBounds 1 (rawInt ((i:Int)+1))))).IsKeyIter it d (i+1) es.size ep:=⟨_,dD _ ho (Obj.isFreed_of_fields (Obj.data_mapFields hd _)),(Obj.cls_mapFields ..).trans hc,by rw [Obj.data_mapFields hd];simp [rawInt]⟩
 (refine aa (bH ?_) ;refine aa (wpAny_isOneOf_keyiter (s:={ s with heap:=s.heap.update it (Obj.mapFields (·.setIfInBounds 1 (rawInt ((i:Int)+1)))) }) hit'.typeIs ?_) ;show wpAny _ _ (pure es[i].key) _ _ _ ;rw [he])
 exact ag (ag ⟨_,rfl,ag (hQ _ hit' (cY ..))⟩)
theorem wj3 {it:Aj}{i:Nat}{Q:Option Ag→Ab→Prop}(hh:A.handled=none)(hit:s.heap.IsKeyIter it d i es.size ep)(hm:RawD s.heap d es ep)(hx:es.size≤i)(hQ:∀h',Heap.ExtBut it s.heap h'→Q none { s with heap:=h' }):wpAny (model prog w) A (pyNext (.ref it)) Q E s:=by
 obtain ⟨o,ho,hc,hd⟩:=id hit ;obtain ⟨od,hod,hcd,hdd⟩:=id hm
 (unfold pyNext ;refine aa (wpAny_attempt (bP (name:=Str.ofString "__next__") hit.typeIs bF (cx bF hit.typeIs dP ?_ (dI _)))) ;refine aa (ag ?_) ;refine aa ?_ ;refine aa ?_)
 ((first | refine aa (bO hit.typeIs (ag ?_)) | refine aa (cv hit.typeIs (ag ?_))) ;refine aa (wpAny_fieldsOf ho hd ?_) ;simp only [show Builtin.Dict_items.ownsTuple "dict_keyiterator" = false by decide,bZ,dL] ;show wpAny _ _ (if (Value.ref d==Value.none)=true then _ else _) _ _ s ;rw [af (show ¬ ((Value.ref d==Value.none)=true) from aA)] ;refine aa (ag ?_) ;refine aa (bQ hod hdd ?_) ;rw [af (by simp)] ;refine aa (ag ?_) ;refine aa (fA hod hdd ?_) ;rw [af (by simp)] ;refine ag ?_)
 (simp only [show ¬ ((i:Int)<0) from by lia,dL,du,bT hx] ;refine aa ?_ ;(first | refine aa (bO hit.typeIs (ag ?_)) | refine aa (cv hit.typeIs (ag ?_))) ;show wpAny _ _ (setField (.ref it) 0 .none >>= _) _ _ s ;refine aa (wpAny_setField ho hd (by simp) ?_) ;show wpAny _ _ (newExc (.type "StopIteration") [] >>= _) _ _ _ ;refine aa ?_ ;simp only [newExc,newTuple])
 (refine aa (bi ?_ (by size_fits)) ;refine aa (m:=firstArgMember _ _) (wpAny_of_eq (a:=Value.none) (by first | rfl | (simp only [firstArgMember];rfl)) ?_) ;refine bi ?_ (by size_fits) ;simp only [raiseNew] ;refine aa (wpAny_handled ?_) ;rw [show A.in1.handled=none from hh] ;refine aa (ag (wpAny_throw ?_)))
 refine aa (wpAny_isInstance (T := "StopIteration") (b:=true) ⟨_,aq _ rfl,rfl⟩ isSubtype_stop (ag (hQ _ (((cY ..).extBut.push _).push _))))
theorem wwu (hh:A.handled=none)(I:Aj)(hne:d≠I):Walks prog w A I [I,d] [I] es.size (λi v=>∃e,es[i]?=some e∧v=e.key) (λi h=>h.IsKeyIter I d i es.size ep∧RawD h d es ep) where
 sub:=λb hb=>by simp at hb;simp [hb]
 frame:=λ_ _ _ st hk=>⟨st.1.at λo e=>hk I (by simp) o e,st.2.at λo e=>hk d (by simp) o e⟩
 item:=λi s Q E hi st hQ=>wv4 st.1 st.2 (bK hi) λh' it' sb=>hQ _ h' s.toks ⟨_,bK hi,rfl⟩ ⟨it',st.2.at λo e=>sb.extBut d o hne e⟩ λb o hb e=>sb.extBut b o (λh=>hb (by simp [h])) e
 done:=λs Q E st hQ=>wj3 hh st.1 st.2 (ah _) λh' eb=>hQ h' s.toks λb o hb e=>eb b o (λh=>hb (by simp [h])) e
 self:=λ_ _ _ _ st hQ=>wpAny_pyIter_keyiter st.1 hQ
theorem wjb (lo:(d==sysModules)=false):KdlSrc prog w "dict" d d es.size (λi v=>∃e,es[i]?=some e∧v=e.key) (λh=>RawD h d es ep) where
 type:=λ_ hm=>hm.ty
 there:=λ_ hm=>⟨hm.lt,hm.lt⟩
 keep:=λ_ _ hm hk=>hm.at λo e=>hk d (.inl rfl) o e
 notList:=by decide
 notTuple:=by decide
 hint:=λ_ _ _ _ hm hq=>kdl_hint_dict hm.ty hq
 iter:=λ_ _ hh hm=>⟨_,_,(λ_ _ hq=>wkp lo hm hq),wwu hh _ (ar hm.lt),⟨⟨_,aq _ rfl,rfl,rfl⟩,hm.at λo e=>ac _ e⟩⟩
theorem qwr (hd:(d==sysModules)=false):MeetsIn prog w (Builtin.«dict.__len__» ⟨[.ref d],[]⟩) (λ_ R s=>∃es ep,RawD s.heap d es ep∧R (.ok (.ret (.int es.size s.toks))) { s with toks:=s.toks+1 }) :=
 .of_wp λA R s ⟨es,ep,hm,h⟩=>by
  obtain ⟨o,ho,hc,hdat⟩:=hm
  (show wpAny _ _ (dictSize d >>= _) _ _ s ;unfold dictSize ;refine aa (aa (bQ ho hdat (ag ?_))) ;show wpAny _ _ (Builtin.Dict.pendingCount d >>= _) _ _ s ;refine aa (wpAny_pendingCount_other hd ?_) ;refine wpAny_ret_mkInt ?_ ;rw [Nat.add_zero] ;exact h)
theorem wyz {Q:Ag→Ab→Prop}(hd:(d==sysModules)=false)(hm:RawD s.heap d es ep)(hfit:(es.size:Int)<2 ^ 63)(h:Q (.int es.size (s.toks+1)) { s with toks:=s.toks+1+1 }):wpAny (model prog w) A (call (.builtin "len") [.ref d]) Q E s:=by
 refine Calls.call_function_entry kind_len plain_len entry_len (args_len1 _) ?_ ;unfold Builtin.«len» ;refine aa (m:=oneArg "len" _) (ag ?_)
 refine aa (m:=callSpecial? (.ref d) (Str.ofString "__len__")) (bP (name:=Str.ofString "__len__") hm.ty F.slot_dict_len (cD F.slot_dict_len hm.ty F.entry_dict_len (F.args_dict_len_1 _) (qwr hd) ⟨es,ep,hm,?_⟩))
 (show wpAny _ _ _ _ _ { s with toks:=s.toks+1 } ;refine aa (bH (ag ?_)) ;refine aa (wpAny_letGo ?_) ;show wpAny _ _ (if ((es.size:Nat):Int)<0 then _ else _) _ _ _ ;rw [af (by lia)] ;show wpAny _ _ (if ((es.size:Nat):Int)≥2 ^ 63 then _ else _) _ _ _ ;rw [af (by lia)])
 exact aa (wpAny_mkInt (ag ⟨_,rfl,h⟩))
end
section
variable {X:Cx}
theorem wvh {P:Ac}{w:Ah}{H:Hp}{h:Heap}{a:Aj}{kvs:List (List Key×V)}(ok:HOk P w H h)(e:H a=some (.dT kvs)) :
  kvs.length≤sizeLine∧(a==sysModules)=false∧∃(xs:List (List Key×Aj×Ag)) (es:Array DictEntry) (ep:Nat),KT H kvs xs∧RawD h a es ep∧es.toList=xs.map (entryOfKey (tupleKind (xg P w))):=by
 obtain ⟨z,y,xs,r,o,es,ep,h1,h2,h3,h4,h5⟩:=(show ObjOk P w H h a (.dT kvs) from ok a _ e)
 exact ⟨z,y,xs,es,ep,r,⟨o,h1,h2,h3⟩,h4⟩
theorem qxq:jx X (.builtin "len") (λxs H Q=>∃a kvs,xs=[V.ref a]∧H a=some (.dT kvs)∧Q (.int kvs.length) H):=by
 intro pins s σ H xs us Q I r h
 obtain ⟨a,kvs,rfl,e,q⟩:=h
 obtain ⟨u,rfl,rx⟩:=j5 r
 cases rx
 obtain ⟨z,hd,ys,es,ep,rel,raw,hes⟩:=wvh I.hok e
 have hl:es.size=kvs.length:=by rw [←aW,hes,ae,bo rel]
 have hn:=Q2
 exact wyz hd raw (by rw [hl];lia) ⟨.int kvs.length,H,I.tok _,⟨_,by rw [hl]⟩,q⟩
def wvk (H:Hp)(kvs:List (List Key×V))(vs:List V):Prop:=Paired (λv (p:List Key×V)=>∃b,v=V.ref b∧H b=some (.tup (p.1.map kV))) vs kvs
theorem qy3 (hc:X.calm=true):jx X (.type "list") (λxs H Q=>∃a kvs,xs=[V.ref a]∧H a=some (.dT kvs)∧∀p vs,H p=none→wvk H kvs vs→Q (.ref p) (upd H p (.lst vs))):=by
 intro pins s σ H xs us Q I r h
 obtain ⟨a,kvs,rfl,e,q⟩:=h
 obtain ⟨u,rfl,rx⟩:=j5 r
 cases rx
 obtain ⟨z,hd,ys,es,ep,rel,raw,hes⟩:=wvh I.hok e
 have hl:es.size=kvs.length:=by rw [←aW,hes,ae,bo rel]
 refine kdl_call (wjb hd) (I.ok.hd hc) raw (by rw [hl];exact z) λh' tk acc' c' hk hD hacc=>?_
 have key:∀(l:List Ag) (kvs':List (List Key×V)) (ys':List (List Key×Aj×Ag)),KT H kvs' ys'→l.length=kvs'.length→(∀(j:Nat) v,l[j]?=some v→∃y,ys'[j]?=some y∧v=.ref y.2.1)→∃vs,Vals vs l∧wvk H kvs' vs:=by
  intro l kvs' ys' rr
  induction rr generalizing l with
  |nil =>
   intro hl' _
   cases l with
   |nil=>exact ⟨[],.nil,.nil⟩
   |cons _ _=>simp at hl'
  |@cons p y ps yss hp t ih =>
   intro hl' hj
   cases l with
   |nil=>simp at hl'
   |cons v l =>
    obtain ⟨y',ey,rfl⟩:=hj 0 v rfl
    cases ey
    obtain ⟨vs,v1,v2⟩:=ih l (by simpa using hl') λj u hu=>by
     obtain ⟨y2,e2,e3⟩:=hj (j+1) u (by simpa using hu)
     exact ⟨y2,by simpa using e2,e3⟩
    exact ⟨.ref y.2.1::vs,.cons rfl v1,.cons ⟨_,rfl,hp.2.1⟩ v2⟩
 obtain ⟨vs,v1,v2⟩:=key acc'.toList kvs ys rel (by rw [aW,hacc.1,hl]) λj v ev=>by
  obtain ⟨en,e1,rfl⟩:=hacc.2 j v (by rw [←cb];exact ev)
  rw [←cb,hes,aK] at e1
  cases hy:ys[j]? with
  |none=>rw [hy] at e1;cases e1
  |some y =>
   rw [hy] at e1
   have e2:=az e1
   exact ⟨y,rfl,by rw [←e2];rfl⟩
 have hv:vs.length≤sizeLine:=by rw [v1.length,aW,hacc.1,hl];exact z
 exact ⟨.ref _,_,I.laid (t':=tk) hk (ah _) (show ObjOk X.prog X.w _ h' _ (.lst vs) from ⟨hv,acc'.toList,c',v1,by simpa using hD⟩),rfl,q _ _ (I.hok.fresh (ah _)) v2⟩
end
end L2
namespace L2
open PySem PySem.Spec PyProof.Rows
def compN2 (X:Cx)(x y:Str)(M:List Nat):List Str:=x::y::M.map λj=>X.N.getD j Str.empty
def u7 (M:List Nat)(σ:St)(o o':Option V):St:=o::o'::M.map λj=>(σ[j]?).join
abbrev vh (X:Cx)(scope:Scope)(cl:List (Str×Aj))(x y:Str)(M:List Nat)(C:Aj)(s2:Ab)(H2:Hp)(fp:List Aj)(pn:List (Aj×Obj)):Cx :=
 { X with N:=compN2 X x y M,s₀:=s2,H₀:=H2,env:=compEnvC scope cl C X.env,outer:=X.stack,ex:=fp,fn:=λ_=>false,pn:=pn,xe:=λ_ _=>False }
section
variable {X:Cx}{pins:List (Aj×Obj)}{σ:St}{H:Hp}{s2:Ab}{scope:Scope}{cl:List (Str×Aj)}{x y:Str}{M:List Nat}{fp:List Aj}{C:Aj}{h1:Heap}{tk:Nat}
theorem Inv.comp2 (I:Inv X pins σ H s2)(hc:CapAll X.env cl)(hh:HasAll cl scope.names)(hm:CapIx X scope cl M)(hk:scope.kind=.function)(hC:s2.heap.objs.size<C)
  (keep:∀b o,s2.heap.get? b=some o→h1.get? b=some o) (hn:h1.Ns C λ_=>none) (hD:h1.get? s2.heap.objs.size=some { cls:=.type "list",data:=.seq #[] 0 })
  (hfp:∀b∈fp,jm X pins H b) (hob:∀b∈fp,∃o,s2.heap.get? b=some o) :
  Inv (vh X scope cl x y M C s2 H fp (X.pn++pins)) [] (u7 M σ none none) (upd H s2.heap.objs.size (.lst [])) { s2 with heap:=h1,toks:=tk }:=I.compG (xs:=[x,y]) hc hh hm hk hC keep hn ⟨aB _,[],0,.nil,hD⟩ hfp hob
theorem Inv.uncomp2 {pins':List (Aj×Obj)}{σ':St}{H':Hp}{s':Ab}{h':Heap}(I:Inv X pins σ H s2)(hC:s2.heap.objs.size≤C)(hfp:∀b∈fp,jm X pins H b)
  (J:Inv (vh X scope cl x y M C s2 H fp (X.pn++pins)) pins' σ' H' s') (hs:Heap.SameBut C s'.heap h'):Inv X pins σ H' { s' with heap:=h' }:=by
 have hb:=J.base
 have nC:∀b o,s2.heap.get? b=some o→b≠C:=λb o e=>ar (aD (al e) hC)
 have st:∀b o,b≠C→s'.heap.get? b=some o→h'.get? b=some o:=λb o n e=>(hs.2 b n).trans e
 refine I.call' (s':={ s' with heap:=h' }) (ch:=fp) J.os ⟨λb o e n nb nx=>st b o (nC b o e) (hb.keep b o e n nb nx),λb o e n hb' nx=>?_,hb.free,λb o e nx=>?_,hb.tups,hb.frzs,hb.tbls⟩ ?_ J.bare λb hbf=>?_
 ·obtain ⟨sl,e1⟩:=hb.slot b o e n hb' nx
  exact ⟨sl,st b _ (nC b o e) e1⟩
 ·obtain ⟨o',e1⟩:=hb.there b o e nx
  exact ⟨o',st b _ (nC b o e) e1⟩
 ·intro b u hu
  have fr:H' C=none:=J.free
  refine (J.hok b u hu).stay (λc v hc e=>st c v ?_ e) (λ_ z=>z) λ_ _ z=>z
  rcases hc with rfl|hc
  ·intro z;rw [z,fr] at hu;cases hu
  ·intro z;rw [z,fr] at hc;cases hc
 ·obtain ⟨q1,q2,q3,q4,q5,q6⟩:=hfp b hbf
  exact ⟨q4,q2,q5,q6⟩
end
section
variable {X:Cx}{elt iter iter2:Expr}{x y:Str}{px py pos:Pos}{scope:Scope}{cl:List (Str×Aj)}{M:List Nat}{wi wi2:TI}{te:TE}
end
section
variable {X:Cx}{elt iter iter2:Expr}{x y2:Str}{px py2 pos:Pos}{scope:Scope}{cl:List (Str×Aj)}{M:List Nat}{wi wi2:TI}{te:TE}
end
end L2
namespace L2
open PySem PySem.Spec PyProof.Rows
end L2
namespace L2
open PySem PySem.Spec PyProof.Rows
section
variable {X:Cx}{pins:List (Aj×Obj)}{σ:St}{H:Hp}{s:Ab}{h':Heap}{ch:List Aj}
theorem Inv.turnedL {tk:Nat}(I:Inv X pins σ H s)(hk:∀b u,b∉ch→s.heap.get? b=some u→h'.get? b=some u)(hf:∀b∈ch,jm X pins H b):Inv X pins σ H { s with heap:=h',toks:=tk }:=by
 refine I.call' (s':={ s with heap:=h',toks:=tk }) (ch:=ch) rfl ⟨λb o e n _ nx=>hk b o nx e,λb o e n _ nx=>⟨o.slots,hk b o nx e⟩,λb o e n _=>n,λb o e nx=>⟨o,hk b o nx e⟩,λ_ _ e=>e,λ_ _ _ e=>e,λb ps e=>⟨#[],by rw [e];simp⟩⟩ ?_ I.bare λb hb=>?_
 ·intro b u hu
  refine (I.hok b u hu).stay (λc v hc e=>hk c v (λz=>?_) e) (λ_ z=>z) λ_ _ z=>z
  have:=(hf c z).1
  rcases hc with rfl|hc
  ·rw [this] at hu;cases hu
  ·rw [this] at hc;cases hc
 ·obtain ⟨q1,q2,q3,q4,q5,q6⟩:=hf b hb
  exact ⟨q4,q2,q5,q6⟩
theorem Inv.turnedT {tk:Nat}{o:HO}{ob:Obj}(I:Inv X pins σ H s)(hk:∀b u,b∉ch→s.heap.get? b=some u→h'.get? b=some u)(hn:h'.get? s.heap.objs.size=some ob)(hf:∀b∈ch,jm X pins H b)(hc:∀b∈ch,b≠s.heap.objs.size)
  (ok:ObjOk X.prog X.w (upd H s.heap.objs.size o) (s.heap.push ob) s.heap.objs.size o) (fr:ob.isFreed=false):Inv X pins σ (upd H s.heap.objs.size o) { s with heap:=h',toks:=tk }:=by
 have I1:Inv X pins σ (upd H s.heap.objs.size o) { s with heap:=s.heap.push ob,toks:=tk }:=I.laid (t':=tk) (λb u e=>ac _ e) (ah _) ok
 refine Inv.turnedL (s:={ s with heap:=s.heap.push ob,toks:=tk }) (ch:=ch) I1 (λb u nb e=>?_) λb hb=>?_
 ·rcases Heap.get?_push_cases e with ⟨rfl,rfl⟩|e
  ·exact hn
  ·exact hk b u nb e
 ·obtain ⟨q1,q⟩:=hf b hb
  exact ⟨by rw [wj (hc b hb)];exact q1,q⟩
theorem qu9 {x y:V}{u v:Ag}(I:Inv X pins σ H s)(rx:RelV x u)(ry:RelV y v):ObjOk X.prog X.w (upd H s.heap.objs.size (.tup [x,y])) (s.heap.push { cls:=.type "tuple",data:=.seq #[u,v] }) s.heap.objs.size (.tup [x,y]):=by
 refine ⟨by show 2≤sizeLine;decide,[u,v],.cons rx (.cons ry .nil),?_⟩
 exact ⟨_,aq _ rfl,rfl,_,rfl⟩
end
section
variable {X:Cx}
end
def ItE (K:Aa)(a:Aj)(xs:List V):It :=
 ⟨λi H=>SqL K H a xs∧i<xs.length,λi H v H'=>∃q x,H q=none∧v=.ref q∧xs[i]?=some x∧H'=upd H q (.tup [.int (i:Nat),x]),λi H=>SqL K H a xs∧xs.length≤i⟩
theorem ww4 {P:Ac}{w:Ah}{K:Aa}{es:List Expr}{k:Nat}{pos:Pos}(a z it:Aj)(xs:List V)(ap:z≠it):Turn P w K (.Tuple es k pos) (ItE K a xs) [z,it] z
  (λi h=>i≤xs.length∧(∃old,IsEnum h z it (i:Nat) old)∧h.IsListIter it a i) where
 mem:=by simp
 obj:=λi h st c hc=>by
  obtain ⟨_,⟨old,h1⟩,⟨o4,h4,c4,d4⟩⟩:=st
  have hc':c=z∨c=it:=by simpa using hc
  rcases hc' with rfl|rfl
  ·exact ⟨_,h1,λv z=>by cases z⟩
  ·exact ⟨_,h4,λv z=>by rw [d4] at z;cases z⟩
 keep:=λi h h' st k=>by
  obtain ⟨l,⟨old,h1⟩,h4⟩:=st
  exact ⟨l,⟨old,k z (by simp) _ h1⟩,h4.at λo e=>k it (by simp) o e⟩
 item:=by
  intro X hP hw hK hc i pins s σ H E I hf st hg
  subst hP hw hK
  obtain ⟨hq1,l1⟩:=hg
  obtain ⟨its,rv,p,hz⟩:=I.list hq1
  have e1:xs[i]?=some xs[i]:=au l1
  obtain ⟨u,hu,ru⟩:=rv.get e1
  obtain ⟨_,⟨old,h1⟩,h4⟩:=st
  refine wpAny_pyNext_enum_item h1 h4 p.isList (x:=u) (by simpa using hu) ap λh' g1 g2 g3 g4 g5=>?_
  refine ⟨_,rfl,wpAny_letOwnedTupleGo_enum (s:={ s with heap:=h',toks:=s.toks+1 }) g1 λh'' f1 f2=>?_⟩
  have hsz:∀c,c∈[z,it]→c≠s.heap.objs.size:=λc hc e=>by
   have hc':c=z∨c=it:=by simpa using hc
   have hlt:c<s.heap.objs.size:=by
    rcases hc' with rfl|rfl
    ·exact al h1
    ·obtain ⟨o,e,_⟩:=h4;exact al e
   exact aS _ (e▸hlt)
  have keepz:∀c o,c≠z→h'.get? c=some o→h''.get? c=some o:=λc o nc e=>(f2.2 c nc).trans e
  have keep:∀c o,c∉[z,it]→s.heap.get? c=some o→h''.get? c=some o:=λc o nc e=>by
   simp only [ak,am,bz,not_or] at nc
   exact keepz c o nc.1 (g5 c o nc.1 nc.2 e)
  have new:h''.get? s.heap.objs.size=some { cls:=.type "tuple",data:=.seq #[.int (i:Nat) s.toks,u] }:=keepz _ _ (aZ (hsz z (by simp))) g3
  refine ⟨.ref s.heap.objs.size,_,Inv.turnedT (s:=s) (ch:=[z,it]) (tk:=s.toks+1) I keep new hf hsz (qu9 I (show RelV (.int (i:Nat)) (.int (i:Nat) s.toks) from ⟨_,rfl⟩) ru) rfl,rfl,⟨_,_,I.hok.fresh (ah _),rfl,e1,rfl⟩,⟨by lia,⟨u,?_⟩,g2.at λo e=>keepz _ _ (aZ ap) e⟩,λc hc=>?_⟩
  ·rw [show (((i+1:Nat):Nat):Int)=(i:Int)+1 by lia]
   exact f1
  ·rw [wj (hsz c hc)]
   exact (hf c hc).1
 done:=by
  intro X hP hw hK hc i pins s σ H E I hf st hg
  subst hP hw hK
  obtain ⟨hq1,le⟩:=hg
  obtain ⟨its,rv,p,hz⟩:=I.list hq1
  have hl:=rv.length
  obtain ⟨_,⟨old,h1⟩,h4⟩:=st
  refine wpAny_pyNext_enum_end (I.ok.hd hc) h1 h4 p.isList (bT (by rw [aw];lia)) λh' g=>⟨rfl,Inv.turnedL (ch:=[z,it]) (tk:=s.toks) I (λc o nc e=>?_) hf⟩
  simp only [ak,am,bz,not_or] at nc
  exact g c o nc.2 e
 self:=λ_ _ _ _ _ st h=>let ⟨_,⟨_,e⟩,_⟩:=st;wpAny_pyIter_enum e h
section
variable {X:Cx}
def iEnum (K:Aa)(ta:TA):TI:=λσ H R=>ta σ H λvs H1=>∃a xs,vs=[.ref a]∧SqL K H1 a xs∧R (ItE K a xs) H1
theorem wyk {a:Expr}{ta:TA}{p pos:Pos}{es:List Expr}{k:Nat}{tpos:Pos}(hg:Gl X "enumerate")(hm:X.mg "enumerate" = none)(ha:PA X [a] ta)(hv:bootBuiltins "enumerate" = some (.type "enumerate"):=by rfl)
  (hs:starEach [a] X.env=[(false,eval a X.env)]:=by rfl):PI X (.Tuple es k tpos) (.Call (.Name "enumerate" p) [a] [] pos) (iEnum X.K ta):=by
 intro pins s σ H R I h
 refine Call_ (Js I hg hm hv (cO (thn (ha pos pins s σ H _ I h) λus s1 ⟨vs,H1,I1,r1,q1⟩=>?_) hs rfl))
 obtain ⟨a,xs,e,hq1,q⟩:=q1
 subst e
 cases r1 with
 |cons r rr =>
   cases rr
   cases r
   obtain ⟨its,rv,p,hz⟩:=I1.list hq1
   refine call_enumerate_list p.isList λh' g1 g4 g6 g7=>?_
   refine wpAny_pyIter_enum g1 ?_
   have I2:Inv X pins σ H1 { s1 with heap:=h' }:=I1.kept (t':=s1.toks) g7
   refine ⟨s1.heap.objs.size+1,[s1.heap.objs.size+1,s1.heap.objs.size],_,_,H1,rfl,I2,ww4 a _ _ xs (Nat.succ_ne_self _),⟨aB _,⟨_,g1⟩,g4⟩,λc hc=>?_,q⟩
   have hc':s1.heap.objs.size≤c:=by
    have:c=s1.heap.objs.size+1∨c=s1.heap.objs.size:=by simpa using hc
    rcases this with e | e <;> (rw [e];first | exact ah _ | exact Nat.le_add_right _ _)
   exact I1.fpOk hc' (I1.hok.fresh hc')
end
def qj6 (J:It)(M:List Nat)(gg:TG)(te:TE)(σ:St)(H1:Hp)(Q:VK):Prop:=∀p,H1 p=none→∃W:Nat→Nat→List V→Hp→Prop,(∃m,W 0 m [] (upd H1 p (.lst []))) ∧
 ∀i m ys H2,W i m ys H2→H2 p=some (.lst ys)∧ys.length<sizeLine∧((J.stop i H2∧Q (.ref p) H2)∨(J.go i H2∧∀v H3,J.yld i H2 v H3 →
  gg v (u7 M σ none none) H3 λσ4 H4=>(∃a b,σ4=u7 M σ (some a) (some b))∧te σ4 H4 λy H5=>H5 p=some (.lst ys)∧∃m',m'<m∧W (i+1) m' (ys++[y]) (upd H5 p (.lst (ys++[y])))))
def tCompP (M:List Nat)(wi:TI)(gg:TG)(te:TE):TE:=λσ H Q=>wi σ H λJ H1=>qj6 J M gg te σ H1 Q
section
variable {X:Cx}{elt iter tg:Expr}{x y2:Str}{pos:Pos}{scope:Scope}{cl:List (Str×Aj)}{M:List Nat}{wi:TI}{gg:TG}{te:TE}
theorem wq3 (hc:X.calm=true)(hclos:closureFor scope X.env=pure cl)(hcap:CapAll X.env cl)(hhas:HasAll cl scope.names)(hix:CapIx X scope cl M)(hk:scope.kind=.function)
  (hnames:∀y∈scope.names,y.2=.local→scope.names.lookup y.1=some .local) (hg:∀C s2 H2 fp pn,PG (vh X scope cl x y2 M C s2 H2 fp pn) tg gg) (hi:PI X tg iter wi)
  (he:∀C s2 H2 fp pn,PE (vh X scope cl x y2 M C s2 H2 fp pn) elt te) (hs:∀z,foldedSetIterable iter X.env z=pure z)
  {use:Option (Ag→Sem Unit)} {QQ:Ag→Ab→Prop} {pins:List (Aj×Obj)} {s:Ab} {σ:St} {H:Hp} {Q:VK} {ps:Pos} (I:Inv X pins σ H s) (h:wi σ H λJ H1=>qj6 J M gg te σ H1 Q)
  (fin:∀(C:Aj) (s2 s4:Ab) (H1 H2:Hp) (fp:List Aj),Inv X pins σ H1 s2→s2.heap.objs.size<C→(∀b∈fp,jm X pins H1 b)→Inv (vh X scope cl x y2 M C s2 H1 fp (X.pn++pins)) [] (u7 M σ none none) H2 s4→Q (.ref s2.heap.objs.size) H2 →
   compPost (model X.prog X.w) X.A X.xe use QQ (.ref s2.heap.objs.size) C (.ok .next) s4) :
  wpAny (model X.prog X.w) X.A (comprehension (.ListComp elt [⟨tg,iter,[],0⟩] scope pos) scope X.env ps (newList []) false (eval iter X.env) use) QQ X.xe s:=by
 refine cZ (use:=use) rfl hs hclos hk hnames ?_
 refine thn (hi pins s σ H _ I h) λv s1 h1=>thn h1 λitv s2 h2=>?_
 obtain ⟨it,fp,tn,J,H1,rfl,I2,T,t0,hfp,hR⟩:=h2
 have hob:∀b∈fp,∃o,s2.heap.get? b=some o∧∀v,o.data≠.cell v:=T.obj 0 _ t0
 obtain ⟨W,⟨m0,w0⟩,hW⟩:=hR s2.heap.objs.size (I2.hok.fresh (ah _))
 refine bi ?_
 refine dN hhas.nocell (by intro y hy;cases hy) (λh3 hns hsb=>?_) hk
 dsimp only at hns hsb ⊢
 generalize hH2:s2.heap.push { cls:=.type "list",dict:=none,data:=.seq ([]:List Ag).toArray }=G2 at hns hsb ⊢
 have hC:G2.objs.size=s2.heap.objs.size+1:=by rw [←hH2,dn]
 have hlt:s2.heap.objs.size<G2.objs.size:=by lia
 have keep:∀b o,s2.heap.get? b=some o→h3.get? b=some o:=λb o e=>by
  have hb:b≠G2.objs.size:=ar (bd (al e) hlt)
  rw [hsb.2 b hb]
  exact ac _ (hH2▸ac _ e)
 have hD:h3.get? s2.heap.objs.size=some { cls:=.type "list",data:=.seq #[] 0 }:=by
  rw [hsb.2 _ (ar hlt)]
  exact ac _ (hH2▸aq _ rfl)
 have hns':h3.Ns G2.objs.size λ_=>none:=hns
 have J0:∀tk,Inv (vh X scope cl x y2 M G2.objs.size s2 H1 fp (X.pn++pins)) [] (u7 M σ none none) (upd H1 s2.heap.objs.size (.lst [])) { s2 with heap:=h3,toks:=tk }:=λtk =>
  I2.comp2 hcap hhas hix hk hlt keep hns' hD hfp λb hb=>let ⟨o,e,_⟩:=hob b hb;⟨o,e⟩
 have hbl:∀b∈fp,b<s2.heap.objs.size:=λb hb=>let ⟨o,e,_⟩:=hob b hb;al e
 have fok:∀(H2:Hp),(∀b∈fp,H2 b=none)→∀b∈fp,jm (vh X scope cl x y2 M G2.objs.size s2 H1 fp (X.pn++pins)) [] H2 b:=λH2 hn b hb=>by
  obtain ⟨q1,q2,q3,q4,q5,q6⟩:=hfp b hb
  refine ⟨hn b hb,ar (bd (hbl b hb) hlt),λz=>?_,.inl hb,λy c e=>q5 y c (hcap.look e),λp hp=>q6 p ((aH.mp hp).elim (λz=>z) λz=>nomatch z)⟩
  rcases ak.mp (I2.stkSub b z) with z|z
  ·exact q2 z
  ·exact q3 z
 have loop:∀tk,codeAny (model X.prog X.w) X.A (.compLoop (.ListComp elt [⟨tg,iter,[],0⟩] scope pos) 0 (.ref it) (.ref s2.heap.objs.size) (compEnvC scope cl G2.objs.size X.env))
   (compPost (model X.prog X.w) X.A X.xe use QQ (.ref s2.heap.objs.size) G2.objs.size) { s2 with heap:=h3,toks:=tk }:=λtk=>by
  refine codeAny_loop rfl (λn s3=>∃i ys H2,W i n ys H2∧Inv (vh X scope cl x y2 M G2.objs.size s2 H1 fp (X.pn++pins)) [] (u7 M σ none none) H2 s3∧tn i s3.heap∧∀b∈fp,H2 b=none) (λn s3 hI=>?_) m0
   ⟨0,[],_,w0,J0 tk,T.keep 0 _ _ t0 λb _ o e=>keep b o e,λb hb=>by rw [wj (ar (hbl b hb))];exact (hfp b hb).1⟩
  obtain ⟨i,ys,H2,w,J2,t,nf2⟩:=hI
  show wpAny _ _ ((compTurn (.ListComp elt [⟨tg,iter,[],0⟩] scope pos) 0 (.ref it) (.ref s2.heap.objs.size) (compEnvC scope cl G2.objs.size X.env)).onRaise λz=>do noteFrame z (compEnvC scope cl G2.objs.size X.env);theTreesLotGoes z) _ _ s3
  refine wpAny_noted ?_
  rw [compTurn_list1]
  refine aa (cM (aa ?_))
  obtain ⟨hp,hz,hcase⟩:=hW i n ys H2 w
  rcases hcase with ⟨hst,hq⟩|⟨hgo,hy⟩
  ·refine aR (T.done (vh X scope cl x y2 M G2.objs.size s2 H1 fp (X.pn++pins)) rfl rfl rfl hc i [] s3 _ H2 (λ_ _=>False) J2 (fok H2 nf2) t hst) (λr s4 hr=>?_) λ_ _ z=>z.elim
   obtain ⟨rfl,J4⟩:=hr
   refine ag ?_
   exact fin G2.objs.size s2 s4 H1 H2 fp I2 hlt hfp J4 hq
  ·refine aR (T.item (vh X scope cl x y2 M G2.objs.size s2 H1 fp (X.pn++pins)) rfl rfl rfl hc i [] s3 _ H2 (λ_ _=>False) J2 (fok H2 nf2) t hgo) (λr s4 hr=>?_) λ_ _ z=>z.elim
   obtain ⟨u,rfl,hw⟩:=hr
   refine aa (aR hw (λ_ s5 hr5=>?_) λ_ _ z=>z.elim)
   obtain ⟨v,H3,J5,rv,yl,t5,nf⟩:=hr5
   have J5p:=J5.pinned (fok H3 nf) (T.obj _ _ t5)
   refine aa (aR (hg G2.objs.size s2 H1 fp (X.pn++pins) _ s5 _ H3 v u _ J5p rv (hy v H3 yl)) (λ_ s6 hr6=>?_) λ_ _ z=>z.elim)
   obtain ⟨σ6,H6,J6,⟨a6,b6,rfl⟩,hte⟩:=hr6
   refine aa (aa (aR (he _ _ _ _ _ _ s6 _ H6 _ J6 hte) (λyv s7 hr7=>?_) λ_ _ z=>z.elim))
   obtain ⟨y,H4,J7,ry,hp4,m',hm',w'⟩:=hr7
   refine aa (aR (yu (X:=vh X scope cl x y2 M G2.objs.size s2 H1 fp (X.pn++pins)) _ s7 _ H4 (.ref s2.heap.objs.size) [y] (.ref s2.heap.objs.size) [yv] (λ_ H8=>H8=upd H4 s2.heap.objs.size (.lst (ys++[y]))) J7 rfl (.cons ry .nil) ⟨_,ys,y,rfl,rfl,hp4,hz,rfl⟩) (λ_ s8 hr8=>?_) λ_ _ z=>z.elim)
   obtain ⟨_,H8,J8,_,rfl⟩:=hr8
   refine ag (ag ⟨rfl,m',hm',i+1,ys++[y],_,w',?_,?_,?_⟩)
   ·refine (J8.unpinned (pins:=[])).weak rfl λk z ez=>?_
    match k,ez with
    |0,ez=>cases ez
    |1,ez=>cases ez
    |k+2,ez=>exact ez
   ·exact T.keep _ _ _ t5 λb hb o e=>(J8.pin (b,o) (av _ (av _ (jy hb e)))).1
   ·intro b hb
    obtain ⟨o,e,_⟩:=T.obj _ _ t5 b hb
    exact (J8.pin (b,o) (av _ (av _ (jy hb e)))).2.1
 exact codeAny_compStart_list (loop _) (T.self _ 0 _ _ _ (T.keep 0 _ _ t0 λb _ o e=>keep b o e) (loop _))
theorem wzb (hc:X.calm=true)(hclos:closureFor scope X.env=pure cl)(hcap:CapAll X.env cl)(hhas:HasAll cl scope.names)(hix:CapIx X scope cl M)(hk:scope.kind=.function)
  (hnames:∀y∈scope.names,y.2=.local→scope.names.lookup y.1=some .local) (hg:∀C s2 H2 fp pn,PG (vh X scope cl x y2 M C s2 H2 fp pn) tg gg) (hi:PI X tg iter wi)
  (he:∀C s2 H2 fp pn,PE (vh X scope cl x y2 M C s2 H2 fp pn) elt te) (hs:∀z,foldedSetIterable iter X.env z=pure z:=by intro _;rfl) :
  PE X (.ListComp elt [⟨tg,iter,[],0⟩] scope pos) (tCompP M wi gg te):=by
 intro pins s σ H Q I h
 rw [eval_ListComp]
 refine wq3 hc hclos hcap hhas hix hk hnames hg hi he hs (use:=none) I h λC s2 s4 H1 H2 fp I2 hlt hfp J4 hq=>?_
 obtain ⟨m,hn,_⟩:=J4.loc
 exact ⟨m,hn,λh' hs'=>⟨.ref s2.heap.objs.size,H2,I2.uncomp2 (bC hlt) hfp J4 hs',rfl,hq⟩⟩
end
theorem wyx {X:Cx}{K:Aa}{pos:Pos}{es:List Expr}{k:Nat}{t:TGs}{n:Nat}(hK:X.K=K)(hc:X.calm=true)(h:PGs X es t)(h1:(assignEach es X.env).length=n:=by rfl)(h2:List.findIdx? (λx=>x.fst) (assignEach es X.env)=none:=by rfl):PG X (.Tuple es k pos) (gTup K n t):=by
 subst hK
 exact ju hc h h1 h2
end L2
namespace L2
open PySem PySem.Spec PyProof.Rows PySem.W
def Fz (H:Hp)(d:Aj)(o:Obj)(kvs:List (Key×V))(H':Hp):Prop:=H' d=some (.frz o (.dK kvs))∧∀b,b≠d→H' b=H b
section
variable {X:Cx}{pins:List (Aj×Obj)}{σ:St}{H:Hp}{s:Ab}{d:Aj}{kvs:List (Key×V)}
theorem Inv.freeze {o:Obj}(I:Inv X pins σ H s)(e:H d=some (.dK kvs))(ho:s.heap.get? d=some o):Inv X pins σ (upd H d (.frz o (.dK kvs))) s:=by
 obtain ⟨z,hd,vs,rel,dd⟩:=Y5 I.hok e
 exact Inv.write (t':=s.toks) (h':=s.heap) I (by rw [e];exact trivial) (.inl rfl) (λ_ _ _ e=>e) ⟨o,ho⟩ ⟨ho,Qt z hd rel dd⟩
theorem Zy {o:Obj}(I:Inv X pins σ H s)(e:H d=some (.frz o (.dK kvs))):kvs.length≤sizeLine∧(d==sysModules)=false∧s.heap.get? d=some o∧∃vs es ep,KV kvs vs∧o.data=.dict es ep∧s.heap.DictAt (xg X.prog X.w) d vs ep:=by
 obtain ⟨ho,z,hd,vs,rel,dd⟩:=(show ObjOk X.prog X.w H s.heap d (.frz o (.dK kvs)) from I.hok d _ e)
 obtain ⟨o',es,ep,h1,h2,h3,h4⟩:=id dd
 have:o'=o:=az (h1.symm.trans ho)
 subst this
 exact ⟨z,hd,ho,vs,es,ep,rel,h3,o',es,h1,h2,h3,h4⟩
theorem Inv.freezeRd (I:Inv X pins σ H s)(e:Rd H d (.dK kvs)):∃o H',Fz H d o kvs H'∧Inv X pins σ H' s:=by
 rcases e with e|⟨o,e⟩
 ·obtain ⟨z,hd,vs,rel,o,es,ep,ho,r⟩:=Y5 I.hok e
  exact ⟨o,_,⟨qh,λb nb=>wj nb⟩,I.freeze e ho⟩
 ·exact ⟨o,H,⟨e,λ_ _=>rfl⟩,I⟩
theorem wvv {P:Ac}{w:Ah}{k:Key}{u:Ag}(h:(xg P w).is k u=true):RelV (kV k) u:=by
 rcases zn (show Y3 k u=true from h) with ⟨i,t,rfl,rfl⟩|⟨x,t,rfl,rfl⟩
 ·exact ⟨t,rfl⟩
 ·exact ⟨t,rfl⟩
end
def ItD (d:Aj)(o:Obj)(kvs:List (Key×V)):It :=
 ⟨λi H=>H d=some (.frz o (.dK kvs))∧i<kvs.length,λi H v H'=>H'=H∧∃p,kvs[i]?=some p∧v=kV p.1,λi H=>H d=some (.frz o (.dK kvs))∧kvs.length≤i⟩
theorem qj0 {kvs:List (Key×V)}{vs:List (Key×Ag)}(r:KV kvs vs){i:Nat}{p:Key×V}(e:kvs[i]?=some p):∃q,vs[i]?=some (p.1,q)∧RelV p.2 q:=by
 induction r generalizing i with
 |nil=>cases e
 |cons h t ih =>
  cases i with
  |zero =>
   cases e
   obtain ⟨h1,h2⟩:=h
   rename_i b _ _
   exact ⟨b.2,by show some b=some (_,b.2);rw [h1],h2⟩
  |succ i=>exact ih e
theorem wjd {P:Ac}{w:Ah}{K:Aa}{tg:Expr}{d it:Aj}{o:Obj}{kvs:List (Key×V)}{ep:Nat}(hep:∃es,o.data=.dict es ep):Turn P w K tg (ItD d o kvs) [it] it (λi h=>h.IsKeyIter it d i kvs.length ep) where
 mem:=by simp
 obj:=λi h st b hb=>by
  have e:b=it:=by simpa using hb
  subst e
  obtain ⟨ob,e,c,dd⟩:=st
  exact ⟨ob,e,λv z=>by rw [dd] at z;cases z⟩
 keep:=λi h h' st k=>st.at λob e=>k it (by simp) ob e
 item:=by
  intro X hP hw hK hc i pins s σ H E I hf st hg
  subst hP hw hK
  obtain ⟨hq,hi⟩:=hg
  obtain ⟨z,hd,ho,vs,es,ep',rel,h3,dd⟩:=Zy I hq
  obtain ⟨es2,h4⟩:=hep
  have:ep'=ep:=by rw [h3] at h4;cases h4;rfl
  subst this
  have e1:kvs[i]?=some kvs[i]:=au hi
  obtain ⟨q,eq,rq⟩:=qj0 rel e1
  have hl:vs.length=kvs.length:=(bo rel).symm
  obtain ⟨f0,f1,f2,f3,f4,f5⟩:=hf it (by simp)
  refine wpAny_pyNext_dict_item (by rw [hl];exact st) dd eq λkey h' hk st' sb=>?_
  have I1:Inv X pins σ H { s with heap:=h' }:=I.turned (t':=s.toks) (λb o hb e=>(sb.2 b hb).trans e) f0 f1 f3 f4 f5
  rw [hl] at st'
  obtain ⟨ob,e,c,d'⟩:=id st'
  exact ⟨key,rfl,qju (s:={ s with heap:=h' }) e c d' (by decide) ⟨_,H,I1,wvv hk,⟨rfl,_,e1,rfl⟩,st',λb hb=>(hf b hb).1⟩⟩
 done:=by
  intro X hP hw hK hc i pins s σ H E I hf st hg
  subst hP hw hK
  obtain ⟨hq,hi⟩:=hg
  obtain ⟨z,hd,ho,vs,es,ep',rel,h3,dd⟩:=Zy I hq
  obtain ⟨es2,h4⟩:=hep
  have:ep'=ep:=by rw [h3] at h4;cases h4;rfl
  subst this
  have hl:vs.length=kvs.length:=(bo rel).symm
  obtain ⟨f0,f1,f2,f3,f4,f5⟩:=hf it (by simp)
  exact wpAny_pyNext_dict_end (I.ok.hd hc) (by rw [hl];exact st) dd (bM (by lia)) λh' eb=>⟨rfl,I.turned (t':=s.toks) (λb o hb e=>eb b o hb e) f0 f1 f3 f4 f5⟩
 self:=λ_ _ _ _ _ st h=>wpAny_pyIter_keyiter st h
def ItDI (d:Aj)(o:Obj)(kvs:List (Key×V)):It :=
 ⟨λi H=>H d=some (.frz o (.dK kvs))∧i<kvs.length,λi H v H'=>∃q p,H q=none∧v=.ref q∧kvs[i]?=some p∧H'=upd H q (.tup [kV p.1,p.2]),λi H=>H d=some (.frz o (.dK kvs))∧kvs.length≤i⟩
theorem wyq {P:Ac}{w:Ah}{K:Aa}{xs:List Expr}{k:Nat}{pos:Pos}{d it:Aj}{o:Obj}{kvs:List (Key×V)}{ep:Nat}(hep:∃es,o.data=.dict es ep):Turn P w K (.Tuple xs k pos) (ItDI d o kvs) [it] it (λi h=>∃ok ov,IsItemIter h it d i kvs.length ep ok ov) where
 mem:=by simp
 obj:=λi h st b hb=>by
  have e:b=it:=by simpa using hb
  subst e
  obtain ⟨ok,ov,e⟩:=st
  exact ⟨_,e,λv z=>by cases z⟩
 keep:=λi h h' st k=>by
  obtain ⟨ok,ov,e⟩:=st
  exact ⟨ok,ov,k it (by simp) _ e⟩
 item:=by
  intro X hP hw hK hc i pins s σ H E I hf st hg
  subst hP hw hK
  obtain ⟨hq,hi⟩:=hg
  obtain ⟨z,hd,ho,vs,es,ep',rel,h3,dd⟩:=Zy I hq
  obtain ⟨es2,h4⟩:=hep
  have:ep'=ep:=by rw [h3] at h4;cases h4;rfl
  subst this
  have e1:kvs[i]?=some kvs[i]:=au hi
  obtain ⟨q,eq,rq⟩:=qj0 rel e1
  have hl:vs.length=kvs.length:=(bo rel).symm
  obtain ⟨ok,ov,st⟩:=st
  refine wpAny_pyNext_items_item (by rw [hl];exact st) dd eq λkey h' hk g1 g2 g3 g4=>?_
  refine ⟨_,rfl,wpAny_letOwnedTupleGo_items (s:={ s with heap:=h' }) g1 λh'' j1 j2=>?_⟩
  have ne:it≠s.heap.objs.size:=ar (al st)
  have new:h''.get? s.heap.objs.size=some { cls:=.type "tuple",data:=.seq #[key,q] }:=(j2.2 _ (aZ ne)).trans g2
  refine ⟨.ref s.heap.objs.size,_,Inv.turnedT (s:=s) (ch:=[it]) (tk:=s.toks) I (λb u nb e=>?_) new hf (λb hb=>?_) (qu9 I (wvv hk) rq) rfl,rfl,⟨_,_,I.hok.fresh (ah _),rfl,e1,rfl⟩,⟨_,_,by rw [←hl];exact j1⟩,λb hb=>?_⟩
  ·have nb:b≠it:=by simpa using nb
   exact (j2.2 b nb).trans (g4 b u nb e)
  ·have e:b=it:=by simpa using hb
   rw [e];exact ne
  ·have e:b=it:=by simpa using hb
   rw [e,wj ne];exact (hf it (by simp)).1
 done:=by
  intro X hP hw hK hc i pins s σ H E I hf st hg
  subst hP hw hK
  obtain ⟨hq,hi⟩:=hg
  obtain ⟨z,hd,ho,vs,es,ep',rel,h3,dd⟩:=Zy I hq
  obtain ⟨es2,h4⟩:=hep
  have:ep'=ep:=by rw [h3] at h4;cases h4;rfl
  subst this
  have hl:vs.length=kvs.length:=(bo rel).symm
  obtain ⟨f0,f1,f2,f3,f4,f5⟩:=hf it (by simp)
  obtain ⟨ok,ov,st⟩:=st
  exact wpAny_pyNext_items_end (I.ok.hd hc) (by rw [hl];exact st) dd (bM (by lia)) λh' eb=>⟨rfl,I.turned (t':=s.toks) (λb o hb e=>eb b o hb e) f0 f1 f3 f4 f5⟩
 self:=λ_ _ _ _ _ st h=>by
  obtain ⟨ok,ov,e⟩:=st
  exact kcp_self e h
section
variable {X:Cx}{tg l:Expr}{tl:TE}
def iDk (tl:TE):TI:=λσ H R=>tl σ H λx H1=>∃d kvs,x=.ref d∧Rd H1 d (.dK kvs)∧∀o H2,Fz H1 d o kvs H2→R (ItD d o kvs) H2
theorem pi_dk (hl:PE X l tl):PI X tg l (iDk tl):=by
 intro pins s σ H R I h
 refine thn (hl pins s σ H _ I h) λv s1 ⟨x,H1,I1,r1,q1⟩=>?_
 obtain ⟨d,kvs,e,rd,q⟩:=q1
 subst e
 cases r1
 obtain ⟨o,H2,fz,I2⟩:=I1.freezeRd rd
 obtain ⟨z,hd,ho,vs,es,ep,rel,h3,dd⟩:=Zy I2 fz.1
 have hl:vs.length=kvs.length:=(bo rel).symm
 refine wpAny_pyIter_dict hd dd ?_
 refine ⟨s1.heap.objs.size,[s1.heap.objs.size],_,_,H2,rfl,I2.kept (t':=s1.toks) λb o e=>ac _ e,wjd ⟨es,h3⟩,⟨_,aq _ rfl,rfl,by rw [hl];rfl⟩,λb hb=>?_,q o H2 fz⟩
 have e:b=s1.heap.objs.size:=by simpa using hb
 subst e
 exact I2.fpOk (ah _) (I2.hok.fresh (ah _))
def iDi (tl:TE):TI:=λσ H R=>tl σ H λx H1=>∃d kvs,x=.ref d∧Rd H1 d (.dK kvs)∧∀o H2,Fz H1 d o kvs H2→R (ItDI d o kvs) H2
theorem pi_di {apos cpos tpos:Pos}{xs:List Expr}{k:Nat}(hl:PE X l tl)(hbase:attributeBase l "items" X.env (eval l X.env)=eval l X.env:=by rfl)(hline:(apos.endLine==cpos.line)=true:=by rfl) :
  PI X (.Tuple xs k tpos) (.Call (.Attribute l "items" apos) [] [] cpos) (iDi tl):=by
 intro pins s σ H R I h
 refine wpAny_Call_method0_late hbase hline (thn (hl pins s σ H _ I h) λv s1 ⟨x,H1,I1,r1,q1⟩=>?_)
 obtain ⟨d,kvs,e,rd,q⟩:=q1
 subst e
 cases r1
 obtain ⟨o,H2,fz,I2⟩:=I1.freezeRd rd
 obtain ⟨t1,t2,_⟩:=qzt I1 (.inl ⟨kvs,rd⟩)
 obtain ⟨z,hd,ho,vs,es,ep,rel,h3,dd⟩:=Zy I2 fz.1
 have hl:vs.length=kvs.length:=(bo rel).symm
 refine ⟨"dict","dict.items",cy,eY,PySem.F.type_dict_items,t1,t2,bJ rfl (PySem.evalArgs_none ?_)⟩
 refine cD eY t1 PySem.F.entry_dict_items (PySem.F.args_dict_items_1 _) (meets_dict_items (xg X.prog X.w) d hd) ⟨⟨vs,dd.dictOf⟩,?_⟩
 have I3:Inv X pins σ H2 { s1 with heap:=s1.heap.push { cls:=.type "dict_items",data:=.fields #[.ref d] } }:=I2.kept (t':=s1.toks) λb o e=>ac _ e
 refine wpAny_pyIter_items (s:={ s1 with heap:=s1.heap.push { cls:=.type "dict_items",data:=.fields #[.ref d] } }) ⟨_,aq _ rfl,rfl,rfl⟩ (dd.push _) ?_
 refine ⟨_,[_],_,_,H2,rfl,I3.kept (t':=s1.toks) λb o e=>ac _ e,wyq ⟨es,h3⟩,⟨.none,.none,?_⟩,λb hb=>?_,q o H2 fz⟩
 ·rw [hl]
  exact aq _ rfl
 ·have e:=ai.mp hb
  subst e
  exact I3.fpOk (ah _) (I3.hok.fresh (ah _))
def ItS (x:Str):It:=⟨λi _=>i<x.cps.size,λi H v H'=>H'=H∧v=.str ⟨#[x.cps.getD i 0]⟩,λi _=>x.cps.size≤i⟩
theorem wwf {P:Ac}{w:Ah}{K:Aa}{it:Aj}{x:Str}{t:Tok}:Turn P w K tg (ItS x) [it] it (λi h=>h.IsStrIter it "str_ascii_iterator" x t i) where
 mem:=by simp
 obj:=λi h st b hb=>by
  have e:b=it:=by simpa using hb
  subst e
  obtain ⟨ob,e,c,dd⟩:=st
  exact ⟨ob,e,λv z=>by rw [dd] at z;cases z⟩
 keep:=λi h h' st k=>by
  obtain ⟨ob,e,r⟩:=st
  exact ⟨ob,k it (by simp) ob e,r⟩
 item:=by
  intro X hP hw hK hc i pins s σ H E I hf st hg
  subst hP hw hK
  have hg:i<x.cps.size:=hg
  obtain ⟨f0,f1,f2,f3,f4,f5⟩:=hf it (by simp)
  refine wpAny_pyNext_ascii_item st (c:=x.cps.getD i 0) (by rw [d7,bK hg];rfl) λh' st' sb=>?_
  have I1:Inv X pins σ H { s with heap:=h',toks:=s.toks+1 }:=I.turned (t':=s.toks+1) (λb o hb e=>(sb.2 b hb).trans e) f0 f1 f3 f4 f5
  obtain ⟨ob,e,c,d'⟩:=id st'
  exact ⟨_,rfl,qju (s:={ s with heap:=h',toks:=s.toks+1 }) e c d' (by decide) ⟨.str ⟨#[x.cps.getD i 0]⟩,H,I1,⟨_,rfl⟩,⟨rfl,rfl⟩,st',λb hb=>(hf b hb).1⟩⟩
 done:=by
  intro X hP hw hK hc i pins s σ H E I hf st hg
  subst hP hw hK
  obtain ⟨f0,f1,f2,f3,f4,f5⟩:=hf it (by simp)
  exact wpAny_pyNext_ascii_end (I.ok.hd hc) st (bT hg) λh' eb=>⟨rfl,I.turned (t':=s.toks) (λb o hb e=>eb b o hb e) f0 f1 f3 f4 f5⟩
 self:=λ_ _ _ _ _ st h=>wpAny_pyIter_striter_ascii st h
theorem wwn {P:Ac}{w:Ah}{K:Aa}{it:Aj}{x:Str}{t:Tok}:Turn P w K tg (ItS x) [it] it (λi h=>h.IsStrIter it "str_iterator" x t i) where
 mem:=by simp
 obj:=λi h st b hb=>by
  have e:b=it:=by simpa using hb
  subst e
  obtain ⟨ob,e,c,dd⟩:=st
  exact ⟨ob,e,λv z=>by rw [dd] at z;cases z⟩
 keep:=λi h h' st k=>by
  obtain ⟨ob,e,r⟩:=st
  exact ⟨ob,k it (by simp) ob e,r⟩
 item:=by
  intro X hP hw hK hc i pins s σ H E I hf st hg
  subst hP hw hK
  have hg:i<x.cps.size:=hg
  obtain ⟨f0,f1,f2,f3,f4,f5⟩:=hf it (by simp)
  refine wpAny_pyNext_wide_item st (c:=x.cps.getD i 0) (by rw [d7,bK hg];rfl) λh' st' sb=>?_
  have I1:Inv X pins σ H { s with heap:=h',toks:=s.toks+1 }:=I.turned (t':=s.toks+1) (λb o hb e=>(sb.2 b hb).trans e) f0 f1 f3 f4 f5
  obtain ⟨ob,e,c,d'⟩:=id st'
  exact ⟨_,rfl,qju (s:={ s with heap:=h',toks:=s.toks+1 }) e c d' (by decide) ⟨.str ⟨#[x.cps.getD i 0]⟩,H,I1,⟨_,rfl⟩,⟨rfl,rfl⟩,st',λb hb=>(hf b hb).1⟩⟩
 done:=by
  intro X hP hw hK hc i pins s σ H E I hf st hg
  subst hP hw hK
  obtain ⟨f0,f1,f2,f3,f4,f5⟩:=hf it (by simp)
  exact wpAny_pyNext_wide_end (I.ok.hd hc) st (bT hg) λh' eb=>⟨rfl,I.turned (t':=s.toks) (λb o hb e=>eb b o hb e) f0 f1 f3 f4 f5⟩
 self:=λ_ _ _ _ _ st h=>wpAny_pyIter_striter_wide st h
def iStr (tl:TE):TI:=λσ H R=>tl σ H λv H1=>∃x,v=.str x∧R (ItS x) H1
theorem pi_str (hl:PE X l tl):PI X tg l (iStr tl):=by
 intro pins s σ H R I h
 refine thn (hl pins s σ H _ I h) λv s1 ⟨v',H1,I1,r1,x,e,q⟩=>?_
 subst e
 obtain ⟨t,rfl⟩:=(show ∃t,v=Value.str x t from r1)
 cases ha:x.cps.all (·<128)
 ·refine wpAny_pyIter_wide ha ⟨s1.heap.objs.size,[s1.heap.objs.size],_,_,H1,rfl,I1.kept (t':=s1.toks) λb o e=>ac _ e,wwn (t:=t),⟨_,aq _ rfl,rfl,rfl⟩,λb hb=>?_,q⟩
  have e:=ai.mp hb
  subst e
  exact I1.fpOk (ah _) (I1.hok.fresh (ah _))
 ·refine wpAny_pyIter_ascii ha ⟨s1.heap.objs.size,[s1.heap.objs.size],_,_,H1,rfl,I1.kept (t':=s1.toks) λb o e=>ac _ e,wwf (t:=t),⟨_,aq _ rfl,rfl,rfl⟩,λb hb=>?_,q⟩
  have e:=ai.mp hb
  subst e
  exact I1.fpOk (ah _) (I1.hok.fresh (ah _))
end
end L2
namespace L2
open PySem
def advN (t:SetTable):Nat→SetTable.Probe→SetTable.Probe
 |0,p=>p
 |n+1,p=>advN t n (t.advance p)
def rs (mask:Nat)(q:Nat×Nat):SetTable.Probe:={ j:=q.1,more:=SetTable.runEnd mask q.1-q.1,i:=q.1,perturb:=q.2,dummy:=none }
theorem qx9:∀(l l':List Nat),l.Nodup→(∀a∈l,a∈l')→l.length≤l'.length
 |[],_,_,_=>aB _
 |a::l,l',hn,hs=>by
  have hn':=aN.mp hn
  have ha:=hs a (.head _)
  have:=qx9 l (l'.erase a) hn'.2 λb hb=>(List.mem_erase_of_ne (λz=>by subst z;exact hn'.1 hb)).mpr (hs b (.tail _ hb))
  rw [eN,aj ha] at this
  have hp:0<l'.length:=List.length_pos_of_mem ha
  rw [aL]
  lia
inductive MetOk (t:SetTable) (p:SetTable.Probe) (N:Nat):SetTable.Met→Prop
 |empty (j:Nat):MetOk t p N (.empty j none)
 |cand (m i:Nat) (hm:m<N) (hs:t.slot (advN t m p).j=.live i):MetOk t p N (.candidate (advN t m p).j i (advN t (m+1) p))
def liveL (mask:Nat)(owner:Array (Option Nat)):List (Nat×Nat):=(List.range (mask+1)).filterMap λj=>(owner.getD j none).map (j,·)
structure OwnI (mask:Nat)(owner:Array (Option Nat))(k:Nat):Prop where
 size:owner.size=mask+1
 len:(liveL mask owner).length=k
 low:∀j v:Nat,owner[j]?=some (some v)→v<k
end L2
namespace HT
open PySem PySem.Spec PyProof.Rows
section
variable {prog:Ac}{w:Ah}{A:Ae}{E:Ag→Ab→Prop}{s:Ab}
theorem getItem_tuple_all {t sl:Aj}{items:Array Ag}{vl vu:Ag}{lo hi:Option Int}{Q:Ag→Ab→Prop}(ht:IsTup s.heap t items)(hs:s.heap.IsSliceOf sl vl vu .none)(pl:IsPart vl lo)(pu:IsPart vu hi)
  (hw:sIx items.size 0 lo=0∧sIx items.size items.size hi=items.size) (h:Q (.ref t) s):wpAny (model prog w) A (getItem (.ref t) (.ref sl)) Q E s:=by
 obtain ⟨os,hos,hcs,hds⟩:=id hs ;have hTs:s.TypeIs (.ref sl) "slice" := ⟨os,hos,hcs⟩
 unfold getItem ;(try with_reducible refine bH ?_) ;(first | refine aa (ag ?_) | skip) ;refine aa (wpAny_sequenceKey ht.typeIs (by decide) ?_)
 refine aa (bP (name:=Str.ofString "__getitem__") ht.typeIs bg (cx bg ht.typeIs entry_tuple_getitem ?_ (args_tuple_getitem _ _)))
 show wpAny _ _ (Builtin.Tuple.tupleItemsOf (.ref t) >>= _) _ _ s ;refine aa (tupleItemsOf_ ht ?_) ;refine aa (ff hTs ?_) ;rw [aj (by decide)] ;refine aa (yy hs pl pu ?_)
 rw [hw.1,hw.2]
 have yes:(((((0:Nat):Int))==0&&(1:Int)==1&&(items.size-0)==items.size)=true):=by simp
 show wpAny _ _ (if (((((0:Nat):Int))==0&&(1:Int)==1&&(items.size-0)==items.size)=true) then _ else _) _ _ s
 rw [aj yes] ;unfold Builtin.Tuple.tupleIsExact
 refine aa (aa (ff ht.typeIs (ag ?_)))
 rw [aj (by decide)]
 first
  |exact aa (wpAny_rule (aa (ag ⟨_,rfl,ag h⟩)))
  |exact aa (wpAny_rule (ag ⟨_,rfl,ag h⟩))
  |exact aa (wpAny_rule (ag (ag ⟨_,rfl,ag h⟩)))
end
end HT
namespace L2
open PySem PySem.Spec PyProof.Rows
section
variable {X:Cx}
def rSlW (K:Aa):V→Option Int→Option Int→Hp→VK→Prop:=λx lo hi H Q=>∃a xs,x=.ref a∧SqT K H a xs ∧
 ((HT.sIx xs.length 0 lo=0∧HT.sIx xs.length xs.length hi=xs.length)→Q (.ref a) H)∧(¬ (HT.sIx xs.length 0 lo=0∧HT.sIx xs.length xs.length hi=xs.length)→∀p,H p=none→Q (.ref p) (upd H p (.tup (cutV xs lo hi))))
theorem wyd:SlR X (rSlW X.K):=by
 intro pins s σ H x v vl vu lo hi sl Q I rx hs pl pu h
 obtain ⟨a,xs,rfl,hx,q1,q2⟩:=h
 by_cases hw:HT.sIx xs.length 0 lo=0∧HT.sIx xs.length xs.length hi=xs.length
 ·cases rx
  obtain ⟨its,r,ht,hz⟩:=I.tuple hx
  have hlen:its.toArray.size=xs.length:=by rw [aw];exact r.length.symm
  exact ⟨"tuple",_,bg.lookup,ht.typeIs,HT.getItem_tuple_all ht hs pl pu (by rw [hlen];exact hw) ⟨.ref a,H,I,rfl,q1 hw⟩⟩
 ·exact sl_tup pins s σ H (.ref a) v vl vu lo hi sl Q I rx hs pl pu ⟨a,xs,rfl,hx,hw,q2 hw⟩
end
end L2
namespace L2
open PySem PySem.Spec PyProof.Rows
end L2
namespace L2
open PySem PySem.Spec PyProof.Rows
def Rows (q:Aj)(B:Hp)(L:List (List V))(ys:List V)(H:Hp):Prop:=Paired (λv xs=>∃a,v=.ref a∧a≠q∧B a=none∧H a=some (.lst xs)) ys L
theorem xk {H H':Hp}(s:Same H H'){a:Aj}(n:H' a=none):H a=none:=by
 cases e:H a with
 |none=>rfl
 |some o=>rw [s _ _ e] at n;cases n
def qq4 (c:Nat→Bool)(xs:List V)(n:Nat):List V:=((List.range n).filter c).map λi=>xs.getD i .non
theorem qqb {K:Aa}{M:List Nat}{a:Aj}{xs:List V}{tt:TT}{te:TE}{σ:St}{H:Hp}{Q:VK}(c:Nat→Bool)(hS:SqL K H a xs)(hn:xs.length≤1000000)
  (ht:∀(i:Nat) (x:V) (H':Hp) (R:Bool→Hp→Prop),xs[i]?=some x→Same H H'→(∀H'',Same H' H''→R (c i) H'')→tt (vj M σ (some x)) H' R)
  (he:∀(i:Nat) (x:V) (H':Hp) (R:VK),xs[i]?=some x→c i=true→Same H H'→(∀H'',Same H' H''→R x H'')→te (vj M σ (some x)) H' R)
  (k:∀p H',H p=none→Same H H'→H' p=some (.lst (qq4 c xs xs.length))→Q (.ref p) H'):quz (Itl K a) M tt te σ H Q:=by
 intro p np
 refine ⟨λi m ys H2=>i≤xs.length∧m=xs.length-i∧ys=qq4 c xs i∧Same H H2∧H2 p=some (.lst ys),⟨xs.length,aB _,rfl,rfl,Same.upd np,qh⟩,?_⟩
 rintro i m ys H2 ⟨hi,rfl,rfl,sm,hp⟩
 refine ⟨hp,?_,?_⟩
 ·unfold qq4
  rw [ae]
  have:=cN c (List.range i)
  rw [aO] at this
  have:(1000000:Nat)<sizeLine:=by decide
  lia
 ·by_cases hlt:i<xs.length
  ·have hx:xs[i]?=some xs[i]:=au hlt
   refine .inr ⟨⟨xs,_,sm.sql hS,hx⟩,?_⟩
   rintro v H3 ⟨rfl,hv⟩
   have e:=az (hx.symm.trans (hv xs (sm.sql hS)))
   subst e
   refine ht i _ _ _ hx sm λH4 s4=>?_
   have hp4:=s4 _ _ hp
   have hg:xs.getD i .non=xs[i]:=by rw [ay,hx];rfl
   cases hc:c i with
   |true =>
    refine j8 ?_
    refine he i _ _ _ hx hc (sm.trans s4) λH5 s5=>⟨s5 _ _ hp4,xs.length-(i+1),by lia,by lia,rfl,?_,λb o e=>?_,qh⟩
    ·unfold qq4
     rw [cI,List.filter_append,ba]
     simp only [bq,hc,if_true,List.filter_nil,ax,bD,hg]
    ·rw [wj (qg e np)]
     exact s5 _ _ (s4 _ _ (sm _ _ e))
   |false =>
    refine Qy ?_
    refine ⟨hp4,xs.length-(i+1),by lia,by lia,rfl,?_,sm.trans s4,hp4⟩
    unfold qq4
    rw [cI,List.filter_append,ba]
    simp only [bq,hc,bZ,dL,List.filter_nil,bD,cg]
  ·have:i=xs.length:=by lia
   subst this
   exact .inl ⟨⟨xs,sm.sql hS,ah _⟩,k p H2 np sm hp⟩
end L2
namespace L2
open PySem PySem.Spec PyProof.Rows
def Bef (a:Array Ai)(p q:Nat):Prop:=K a p<K a q∨(K a p=K a q∧p<q)
structure From (a xs:Array Ai)(k:Nat)(ix:Nat→Nat):Prop where
 at_:∀i,xs[i]?=a[ix i]?
 rest:∀i,k≤i→ix i=i
 low:∀i,i<k→ix i<k
theorem From.key {a xs:Array Ai}{k:Nat}{ix:Nat→Nat}(f:From a xs k ix)(i:Nat):K xs i=K a (ix i):=K_congr (f.at_ i)
theorem From.more {a xs:Array Ai}{k:Nat}{ix:Nat→Nat}(f:From a xs k ix):From a xs (k+1) ix :=
 ⟨f.at_,λi h=>f.rest i (by lia),λi h=>by
  by_cases e:i<k
  ·have:=f.low i e;lia
  ·have:=f.rest i (by lia);lia⟩
theorem From.mirror {a xs:Array Ai}{k b:Nat}{ix:Nat→Nat}(f:From a xs k ix)(hk:k≤xs.size):From a (mirror xs b k ((k-b)/2)) k (λi=>if b≤i∧i<k then ix (b+k-1-i) else ix i):=by
 refine ⟨λi=>?_,λi h=>?_,λi h=>?_⟩
 ·rw [getElem?_mirror_all hk]
  by_cases c:b≤i∧i<k
  ·simp only [aj c]
   exact f.at_ _
  ·simp only [af c]
   exact f.at_ _
 ·simp only [af (show ¬ (b≤i∧i<k) by lia)]
  exact f.rest i h
 ·by_cases c:b≤i∧i<k
  ·simp only [aj c]
   exact f.low _ (by lia)
  ·simp only [af c]
   exact f.low i h
def Up (a xs:Array Ai)(k:Nat):Prop:=∃ix,From a xs k ix∧∀i j,i<j→j<k→Bef a (ix i) (ix j)
def Dr (a xs:Array Ai)(k:Nat):Prop:=∃ix,From a xs k ix∧∀i j,i<j→j<k→Bef a (ix j) (ix i)
def Dn (a xs:Array Ai)(k e:Nat):Prop:=e+1≤k∧∃ix,From a xs k ix∧(∀i j,i<j→j<k-(e+1)→Bef a (ix j) (ix i))∧(∀i j,i<k-(e+1)→k-(e+1)≤j→j<k→K a (ix j)<K a (ix i)) ∧
 ∀i j,k-(e+1)≤i→i<j→j<k→K a (ix i)=K a (ix j)∧ix i<ix j
section
variable {a xs:Array Ai}{k e:Nat}
theorem Up.le (h:Up a xs k){i j:Nat}(hij:i≤j)(hj:j<k):K xs i≤K xs j:=by
 obtain ⟨ix,f,o⟩:=h
 rw [f.key,f.key]
 by_cases c:i=j
 ·subst c;exact Int.le_refl _
 ·rcases o i j (by lia) hj with h|h <;> lia
theorem Up.grow (h:Up a xs k)(hk:1≤k)(hn:¬ K xs k<K xs (k-1)):Up a xs (k+1):=by
 obtain ⟨ix,f,o⟩:=h
 rw [f.key,f.key,f.rest k (ah _)] at hn
 refine ⟨ix,f.more,λi j hij hj=>?_⟩
 by_cases c:j<k
 ·exact o i j hij c
 ·obtain rfl:j=k:=by lia
  have hl:=f.low i hij
  rw [f.rest j (ah _)]
  unfold Bef
  by_cases c2:i=j-1
  ·subst c2;lia
  ·rcases o i (j-1) (by lia) (by lia) with h|h <;> lia
theorem Dr.up (h:Dr a xs k)(hk:k≤xs.size):Up a (mirror xs 0 k ((k-0)/2)) k:=by
 obtain ⟨ix,f,o⟩:=h
 refine ⟨_,f.mirror hk,λi j hij hj=>?_⟩
 simp only [aj (show 0≤i∧i<k by lia),aj (show 0≤j∧j<k by lia)]
 exact o _ _ (by lia) (by lia)
theorem Dn.flat (h:Dn a xs k 0):Dr a xs k:=by
 obtain ⟨h0,ix,f,o1,o2,o3⟩:=h
 refine ⟨ix,f,λi j hij hj=>?_⟩
 by_cases c:j<k-(0+1)
 ·exact o1 i j hij c
 ·exact .inl (o2 i j (by lia) (by lia) hj)
theorem Dn.turn (h:Dn a xs k e)(hk:k≤xs.size):Dr a (mirror xs (k-(e+1)) k ((k-(k-(e+1)))/2)) k:=by
 obtain ⟨h0,ix,f,o1,o2,o3⟩:=h
 refine ⟨_,f.mirror hk,λi j hij hj=>?_⟩
 by_cases c1:k-(e+1)≤i
 ·simp only [aj (show k-(e+1)≤i∧i<k by lia),aj (show k-(e+1)≤j∧j<k by lia)]
  exact .inr (o3 _ _ (by lia) (by lia) (by lia))
 ·simp only [af (show ¬ (k-(e+1)≤i∧i<k) by lia)]
  by_cases c2:k-(e+1)≤j
  ·simp only [aj (show k-(e+1)≤j∧j<k by lia)]
   exact .inl (o2 _ _ (by lia) (by lia) (by lia))
  ·simp only [af (show ¬ (k-(e+1)≤j∧j<k) by lia)]
   exact o1 i j hij (by lia)
theorem Dr.grow (h:Dr a xs k)(hk:1≤k)(hn:K xs k<K xs (k-1)):Dn a xs (k+1) 0:=by
 obtain ⟨ix,f,o⟩:=h
 rw [f.key,f.key,f.rest k (ah _)] at hn
 refine ⟨by lia,ix,f.more,λi j hij hj=>o i j hij (by lia),λi j hi h1 h2=>?_,λi j h1 h2 h3=>by lia⟩
 obtain rfl:j=k:=by lia
 rw [f.rest j (ah _)]
 by_cases c:i=j-1
 ·subst c;exact hn
 ·rcases o i (j-1) (by lia) (by lia) with h|h <;> lia
theorem Dn.grow (h:Dn a xs k e)(h1:¬ K xs k<K xs (k-1))(h2:¬ K xs (k-1)<K xs k):Dn a xs (k+1) (e+1):=by
 obtain ⟨h0,ix,f,o1,o2,o3⟩:=h
 rw [f.key,f.key,f.rest k (ah _)] at h1 h2
 have hk1:k+1-(e+1+1)=k-(e+1):=by lia
 refine ⟨by lia,ix,f.more,?_,?_,?_⟩
 ·rw [hk1];exact o1
 ·rw [hk1]
  intro i j hi hj1 hj2
  by_cases c:j<k
  ·exact o2 i j hi hj1 c
  ·obtain rfl:j=k:=by lia
   rw [f.rest j (ah _)]
   have:=o2 i (j-1) hi (by lia) (by lia)
   lia
 ·rw [hk1]
  intro i j hi hij hj
  by_cases c:j<k
  ·exact o3 i j hi hij c
  ·obtain rfl:j=k:=by lia
   rw [f.rest j (ah _)]
   refine ⟨?_,f.low i hij⟩
   by_cases c2:i=j-1
   ·subst c2;lia
   ·have:=(o3 i (j-1) hi (by lia) (by lia)).1
    lia
theorem Up.even (h:Up a xs k)(hk:1≤k)(hz:k≤xs.size)(hr:¬ K xs 0<K xs (k-1)):Dr a (mirror xs 0 k ((k-0)/2)) k:=by
 have hle:=@Up.le a xs k h
 obtain ⟨ix,f,o⟩:=h
 have hall:∀i,i<k→K a (ix i)=K a (ix 0):=λi hi=>by
  have e1:=hle (i:=0) (j:=i) (by lia) hi
  have e2:=hle (i:=i) (j:=k-1) (by lia) (by lia)
  rw [f.key,f.key] at e1 e2 hr
  lia
 refine ⟨_,f.mirror hz,λi j hij hj=>?_⟩
 simp only [aj (show 0≤i∧i<k by lia),aj (show 0≤j∧j<k by lia)]
 have e1:=hall (0+k-1-i) (by lia)
 have e2:=hall (0+k-1-j) (by lia)
 rcases o (0+k-1-j) (0+k-1-i) (by lia) (by lia) with h|h
 ·exact .inl h
 ·exact .inr h
theorem Up.put (h:Up a xs k)(hk:k<xs.size){l:Nat}(hl:l≤k)(h1:∀i,i<l→K xs i≤K xs k)(h2:∀i,l≤i→i<k→K xs k<K xs i):Up a (bubble xs k (k-l)) (k+1):=by
 obtain ⟨ix,f,o⟩:=h
 have hkk:k-(k-l)=l:=by lia
 have hr:=f.rest k (ah _)
 refine ⟨λi=>if i=l then k else if l<i∧i≤k then ix (i-1) else ix i,⟨λi=>?_,λi hi=>?_,λi hi=>?_⟩,λi j hij hj=>?_⟩
 ·rw [getElem?_bubble hk _ (by lia),hkk]
  by_cases c:i=l
  ·simp only [aj c]
   rw [f.at_,hr]
  ·simp only [af c]
   by_cases c2:l<i∧i≤k
   ·simp only [aj c2]
    exact f.at_ _
   ·simp only [af c2]
    exact f.at_ _
 ·simp only [af (show ¬ i=l by lia),af (show ¬ (l<i∧i≤k) by lia)]
  exact f.rest i (by lia)
 ·by_cases c:i=l
  ·simp only [aj c];lia
  ·simp only [af c]
   by_cases c2:l<i∧i≤k
   ·simp only [aj c2]
    have:=f.low (i-1) (by lia)
    lia
   ·simp only [af c2]
    have:=f.low i (by lia)
    lia
 ·have key:∀i,i<k→(i<l→K a (ix i)≤K a k)∧(l≤i→K a k<K a (ix i)):=λi hi=>by
   refine ⟨λc=>?_,λc=>?_⟩
   ·have:=h1 i c
    rw [f.key,f.key,hr] at this
    exact this
   ·have:=h2 i c hi
    rw [f.key,f.key,hr] at this
    exact this
  by_cases ci:i=l
  ·simp only [aj ci,af (show ¬ j=l by lia),aj (show l<j∧j≤k by lia)]
   exact .inl ((key (j-1) (by lia)).2 (by lia))
  ·by_cases cj:j=l
   ·simp only [af ci,aj cj,af (show ¬ (l<i∧i≤k) by lia)]
    have a1:=(key i (by lia)).1 (by lia)
    have a2:=f.low i (by lia)
    unfold Bef
    lia
   ·simp only [af ci,af cj]
    by_cases c3:l<i
    ·simp only [aj (show l<i∧i≤k by lia),aj (show l<j∧j≤k by lia)]
     exact o _ _ (by lia) (by lia)
    ·simp only [af (show ¬ (l<i∧i≤k) by lia)]
     by_cases c4:l<j
     ·simp only [aj (show l<j∧j≤k by lia)]
      exact o _ _ (by lia) (by lia)
     ·simp only [af (show ¬ (l<j∧j≤k) by lia)]
      exact o _ _ hij (by lia)
end
section
variable {prog:Ac}{w:Ah}{A:Ae}{E:Ag→Ab→Prop}{s:Ab}{a₀:Array Ai}
end
end L2
namespace L2
open PySem PySem.Spec PyProof.Rows
theorem qxx:∀(n:Nat) (l:List Nat),l.Nodup→(∀x∈l,x<n)→l.length≤n
 |0,l,_,h=>by
  cases l with
  |nil=>exact ah _
  |cons x l=>exact absurd (h x (aJ ..)) (dW _)
 |n+1,l,hn,h=>by
  have a1:=qxx n (l.erase n) (hn.erase n) λx hx=>by
   have hm:=List.mem_of_mem_erase hx
   have:=h x hm
   by_cases e:x=n
   ·subst e
    exact absurd hx (hn.not_mem_erase)
   ·lia
  have a2:l.length≤(l.erase n).length+1:=by
   rw [eN]
   split <;> lia
  lia
theorem qxy:∀(n:Nat) (l:List Nat),l.Nodup→(∀x∈l,x<n)→l.length=n→l.Perm (List.range n)
 |0,l,_,_,e=>by rw [List.length_eq_zero_iff.mp e];exact List.Perm.refl _
 |n+1,l,hn,h,e=>by
  have hm:n∈l:=by
   apply ce
   intro c
   have:=qxx n l hn λx hx=>by
    have:=h x hx
    by_cases e:x=n
    ·subst e;exact absurd hx c
    ·lia
   lia
  have a1:=qxy n (l.erase n) (hn.erase n) (λx hx=>by
   have:=h x (List.mem_of_mem_erase hx)
   by_cases e:x=n
   ·subst e;exact absurd hx hn.not_mem_erase
   ·lia) (by rw [eN,aj (by simpa using hm)];lia)
  rw [cI]
  exact (List.perm_cons_erase hm).trans ((a1.cons n).trans (List.perm_append_comm (l₁:=[n])))
theorem Up.places {a xs:Array Ai}(h:Up a xs a.size)(hz:xs.size=a.size):∃il:List Nat,il.Perm (List.range a.size)∧il.Pairwise (Bef a)∧xs.toList=il.map λi=>a.getD i (.none,.none):=by
 obtain ⟨ix,f,o⟩:=h
 have pw:((List.range a.size).map ix).Pairwise (Bef a):=by
  rw [bu]
  refine bN (R:=(·<·)) (λ{i j} hi hj hij=>?_) dz
  exact o i j hij (bb.mp hj)
 refine ⟨(List.range a.size).map ix,qxy _ _ ?_ ?_ (by rw [ae,aO]),pw,?_⟩
 ·refine pw.imp λ{i j} h e=>?_
  subst e
  unfold Bef at h
  lia
 ·intro x hx
  obtain ⟨i,hi,rfl⟩:=ao.mp hx
  exact f.low i (bb.mp hi)
 ·refine List.ext_getElem? λi=>?_
  rw [bU,aK,cb,f.at_]
  by_cases c:i<a.size
  ·rw [dY c]
   have:=f.low i c
   simp [Array.getD,this]
  ·rw [f.rest i (by lia),bT (by lia),bM (by rw [aO];lia)]
   rfl
end L2
namespace L2
open PySem PySem.Spec PySem.W PyProof.Rows
section
variable {n:Nat}{im:Nat→Ai}{kz:Nat→Int}{ask:Nat→Nat→(Bool→Ab→Prop)→Ab→Prop}{s:Ab}
def Gd (n:Nat)(p:Array Nat):Prop:=p.Perm (List.toArray (List.range n))
theorem Gd.size {p:Array Nat}(h:Gd n p):p.size=n:=by
 have:=Array.Perm.size_eq h
 simpa using this
theorem Gd.lt {p:Array Nat}(h:Gd n p){i:Nat}(hi:i<n):p.getD i 0<n:=by
 have hs:=h.size
 have m:p[i]'(by lia)∈p:=Array.getElem_mem _
 have:=(Array.Perm.mem_iff h).mp m
 have e:p.getD i 0=p[i]'(by lia):=by simp [Array.getD,hs,hi]
 rw [e]
 simpa using this
theorem Gd.rev {p:Array Nat}(h:Gd n p)(i j:Nat):Gd n (kas_rev p i j):=(mirror_perm _ _ _ _).trans h
theorem Gd.bub {p:Array Nat}(h:Gd n p)(i j:Nat):Gd n (bubble p i j):=(bubble_perm _ _ _).trans h
def ixA (n:Nat)(im:Nat→Ai):Array Ai:=(List.toArray (List.range n)).map im
theorem Yj (p:Array Nat)(i j:Nat):(kas_rev p i j).map im=mirror (p.map im) i j ((j-i)/2):=by
 unfold kas_rev mirror
 exact (kas_swaps_map im _ _ _ p).symm
theorem wj5 (p:Array Nat)(i j:Nat):(bubble p i j).map im=bubble (p.map im) i j:=by
 unfold bubble
 exact (kas_swaps_map im _ _ _ p).symm
def KyI (im:Nat→Ai)(kz:Nat→Int):Prop:=∀(p:Array Nat) i,i<p.size→K (p.map im) i=kz (p.getD i 0)
def Y6 (n:Nat)(kz:Nat→Int)(ask:Nat→Nat→(Bool→Ab→Prop)→Ab→Prop)(s:Ab):Prop:=∀i j C,i<n→j<n→C (decide (kz i<kz j)) s→ask i j C s
theorem Y7 {p:Array Nat}{i j:Nat}{C:Bool→Ab→Prop}(ha:Y6 n kz ask s)(hk:KyI im kz)(g:Gd n p)(hi:i<n)(hj:j<n)
  (h1:K (p.map im) i<K (p.map im) j→C true s) (h2:¬ K (p.map im) i<K (p.map im) j→C false s):ask (p.getD i 0) (p.getD j 0) C s:=by
 refine ha _ _ _ (g.lt hi) (g.lt hj) ?_
 rw [hk p i (by rw [g.size];exact hi),hk p j (by rw [g.size];exact hj)] at h1 h2
 by_cases c:kz (p.getD i 0)<kz (p.getD j 0)
 ·simp only [c,decide_true];exact h1 c
 ·simp only [c,decide_false];exact h2 c
theorem qy2 {p:Array Nat}{e:Nat}{Q:Nat→Ab→Prop}(ha:Y6 n kz ask s)(hk:KyI im kz)(g:Gd n p)(he:e≤n):∀(f b:Nat),1≤b→b+f=e→Up (ixA n im) (p.map im) b →
  (∀m,b≤m→m≤e→Up (ixA n im) (p.map im) m→(m=e∨K (p.map im) m<K (p.map im) (m-1))→Q m s)→(kas_asc p f b).kasWp ask Q s
 |0,b,_,hb,u,h=>h b (ah _) (by lia) u (.inl (by lia))
 |f+1,b,h1,hb,u,h=>by
  refine Y7 ha hk g (by lia) (by lia) (λc=>?_) λc=>?_
  ·exact h b (ah _) (by lia) u (.inr c)
  ·exact qy2 ha hk g he f (b+1) (by lia) (by lia) (u.grow h1 c) λm a1 a2 a3 a4=>h m (by lia) a2 a3 a4
theorem wqn {p:Array Nat}{k e:Nat}{Q:Nat×Array Nat→Ab→Prop}(ha:Y6 n kz ask s)(hk:KyI im kz)(g:Gd n p)(he:e≤n)(h1:1≤k)(hke:k≤e)(d:Dr (ixA n im) (p.map im) k)
  (h:∀m q,Gd n q→1≤m→m≤e→Up (ixA n im) (q.map im) m→Q (m,q) s):(kas_tail3 k e p).kasWp ask Q s:=by
 unfold kas_tail3
 rw [KasT.kasWp_bind]
 refine qy2 ha hk (g.rev 0 k) he (e-k) k h1 (by lia) ?_ λm a1 a2 a3 _=>h m _ (g.rev 0 k) (by lia) a2 a3
 rw [Yj]
 exact d.up (by rw [cQ,g.size];lia)
theorem Yw {e:Nat}{Q:Array Nat×Nat×Nat→Ab→Prop}(ha:Y6 n kz ask s)(hk:KyI im kz)(he:e≤n):∀(f:Nat) (p:Array Nat) (x q:Nat),Gd n p→x+f=e→Dn (ixA n im) (p.map im) x q →
  (∀m r p',Gd n p'→x≤m→m≤e→Dn (ixA n im) (p'.map im) m r→Q (p',m,r) s)→(kas_desc f p x q).kasWp ask Q s
 |0,p,x,q,g,hx,d,h=>h x q p g (ah _) (by lia) d
 |f+1,p,x,q,g,hx,d,h=>by
  have hx1:1≤x:=by have:=d.1;lia
  have hz:x≤(p.map im).size:=by rw [cQ,g.size];lia
  refine Y7 ha hk g (by lia) (by lia) (λc=>?_) λc=>?_
  ·show KasT.kasWp ask (if q>0 then kas_desc f (kas_rev p (x-(q+1)) x) (x+1) 0 else kas_desc f p (x+1) 0) Q s
   by_cases c2:q>0
   ·rw [aj c2]
    refine Yw ha hk he f _ (x+1) 0 (g.rev _ _) (by lia) ?_ λm r p' a1 a2 a3 a4=>h m r p' a1 (by lia) a3 a4
    rw [Yj]
    refine (d.turn hz).grow hx1 ?_
    rw [K_mirror hz,K_mirror hz,af (by lia),aj (by have:=d.1;lia)]
    obtain ⟨hq,ix,f',_,_,o3⟩:=id d
    by_cases c3:x-(q+1)+x-1-(x-1)=x-1
    ·rw [c3];exact c
    ·have:=(o3 (x-(q+1)+x-1-(x-1)) (x-1) (by lia) (by lia) (by lia)).1
     rw [←f'.key,←f'.key] at this
     lia
   ·rw [af c2]
    obtain rfl:q=0:=by lia
    exact Yw ha hk he f p (x+1) 0 g (by lia) (d.flat.grow hx1 c) λm r p' a1 a2 a3 a4=>h m r p' a1 (by lia) a3 a4
  ·refine Y7 ha hk g (by lia) (by lia) (λc2=>?_) λc2=>?_
   ·exact h x q p g (ah _) (by lia) d
   ·exact Yw ha hk he f p (x+1) (q+1) g (by lia) (d.grow c c2) λm r p' a1 a2 a3 a4=>h m r p' a1 (by lia) a3 a4
theorem qu0 {p:Array Nat}{k e:Nat}{Q:Nat×Array Nat→Ab→Prop}(ha:Y6 n kz ask s)(hk:KyI im kz)(g:Gd n p)(he:e≤n)(hke:k+1≤e)(d:Dn (ixA n im) (p.map im) (k+1) 0)
  (h:∀m q,Gd n q→1≤m→m≤e→Up (ixA n im) (q.map im) m→Q (m,q) s):(kas_descPart k e p).kasWp ask Q s:=by
 unfold kas_descPart
 rw [KasT.kasWp_bind]
 refine Yw ha hk he (e-(k+1)) p (k+1) 0 g (by lia) d λm r p' g' a1 a2 d'=>?_
 have hz:m≤(p'.map im).size:=by rw [cQ,g'.size];lia
 dsimp only
 by_cases c:r>0
 ·rw [aj c]
  refine wqn ha hk (g'.rev _ _) he (by lia) a2 ?_ h
  rw [Yj]
  exact d'.turn hz
 ·rw [af c]
  obtain rfl:r=0:=by lia
  exact wqn ha hk g' he (by lia) a2 d'.flat h
theorem wzc {e:Nat}{Q:Nat×Array Nat→Ab→Prop}(ha:Y6 n kz ask s)(hk:KyI im kz)(he:e≤n)(h1:1≤e)
  (h:∀m q,Gd n q→1≤m→m≤e→Up (ixA n im) (q.map im) m→Q (m,q) s):(kas_count e (List.toArray (List.range n))).kasWp ask Q s:=by
 have g:Gd n (List.toArray (List.range n)):=Array.Perm.refl _
 have u1:Up (ixA n im) ((List.toArray (List.range n)).map im) 1:=⟨id,⟨λi=>rfl,λi _=>rfl,λi z=>z⟩,λi j a b=>by lia⟩
 unfold kas_count
 rw [KasT.kasWp_bind]
 refine qy2 ha hk g he (e-1) 1 (ah _) (by lia) u1 λm m1 m2 u hor=>?_
 have hz:m≤((List.toArray (List.range n)).map im).size:=by rw [cQ,g.size];lia
 by_cases c:m=e
 ·rw [aj (dH.mpr c)]
  exact h m _ g m1 m2 u
 ·have hlt:=hor.resolve_left c
  rw [af (λz=>c (dH.mp z))]
  by_cases c2:m>1
  ·rw [aj c2]
   refine Y7 ha hk g (by lia) (by lia) (λc3=>?_) λc3=>?_
   ·exact h m _ g m1 m2 u
   ·refine qu0 ha hk (g.rev 0 m) he (by lia) ?_ h
    rw [Yj]
    refine (u.even m1 hz c3).grow m1 ?_
    rw [K_mirror hz,K_mirror hz,af (by lia),aj (by lia)]
    have e1:=u.le (i:=0) (j:=0+m-1-(m-1)) (by lia) (by lia)
    have e2:=u.le (i:=0+m-1-(m-1)) (j:=m-1) (by lia) (by lia)
    lia
  ·rw [af c2]
   obtain rfl:m=1:=by lia
   obtain ⟨ix,f,o⟩:=u
   exact qu0 ha hk g he (by lia) (Dr.grow ⟨ix,f,λi j a b=>by lia⟩ (by lia) hlt) h
theorem qqx {p:Array Nat}{k:Nat}{Q:Nat→Ab→Prop}(ha:Y6 n kz ask s)(hk:KyI im kz)(g:Gd n p)(hkn:k<n)(u:Up (ixA n im) (p.map im) k)
  (h:∀l,l≤k→(∀i,i<l→K (p.map im) i≤K (p.map im) k)→(∀i,l≤i→i<k→K (p.map im) k<K (p.map im) i)→Q l s):∀(f l r:Nat),l≤r→r≤k→r-l≤f→(∀i,i<l→K (p.map im) i≤K (p.map im) k)→(∀i,r≤i→i<k→K (p.map im) k<K (p.map im) i) →
  (kas_place p k f l r).kasWp ask Q s
 |0,l,r,a1,a2,a3,a4,a5=>by
  obtain rfl:l=r:=by lia
  exact h l a2 a4 a5
 |f+1,l,r,a1,a2,a3,a4,a5=>by
  unfold kas_place
  by_cases c1:l≥r
  ·rw [aj c1]
   obtain rfl:l=r:=by lia
   exact h l a2 a4 a5
  ·rw [af c1]
   refine Y7 ha hk g (by lia) (by lia) (λc2=>?_) λc2=>?_
   ·exact qqx ha hk g hkn u h f l ((l+r)/2) (by lia) (by lia) (by lia) a4 λi z1 z2=>by have:=u.le z1 z2;lia
   ·exact qqx ha hk g hkn u h f ((l+r)/2+1) r (by lia) (by lia) (by lia) (λi z=>by have:=u.le (i:=i) (j:=(l+r)/2) (by lia) (by lia);lia) a5
theorem wks {Q:Array Nat→Ab→Prop}(ha:Y6 n kz ask s)(hk:KyI im kz)(h:∀q,Gd n q→Up (ixA n im) (q.map im) n→Q q s):∀(f:Nat) (p:Array Nat) (k:Nat),Gd n p→1≤k→k+f=n→Up (ixA n im) (p.map im) k →
  (kas_bin f p k).kasWp ask Q s
 |0,p,k,g,_,e,u=>by
  obtain rfl:k=n:=by lia
  exact h p g u
 |f+1,p,k,g,k1,e,u=>by
  unfold kas_bin
  rw [KasT.kasWp_bind]
  refine qqx ha hk g (by lia) u (λl a2 a4 a5=>?_) k 0 k (aB _) (ah _) (by lia) (λi z=>by lia) λi z1 z2=>by lia
  refine wks ha hk h f _ (k+1) (g.bub _ _) (by lia) (by lia) ?_
  rw [wj5]
  exact u.put (by rw [cQ,g.size];lia) a2 a4 a5
theorem wyb {Q:Array Nat→Ab→Prop}(ha:Y6 n kz ask s)(hk:KyI im kz)(h1:1≤n)(h:∀q,Gd n q→Up (ixA n im) (q.map im) n→Q q s):(kas_sort n).kasWp ask Q s:=by
 unfold kas_sort
 rw [KasT.kasWp_bind]
 refine wzc ha hk (ah _) h1 λm q g m1 m2 u=>?_
 dsimp only
 have em:max m 1=m:=by lia
 by_cases c:m<n
 ·rw [aj c,em]
  exact wks ha hk h (n-m) q m g m1 (by lia) u
 ·rw [af c]
  obtain rfl:m=n:=by lia
  exact h q g u
def imI (kz:Nat→Int)(t:Tok)(i:Nat):Ai:=(.int (kz i) t,.int (i:Int) t)
theorem imI_ky (kz:Nat→Int)(t:Tok):KyI (imI kz t) kz:=λp i hi=>by
 unfold K
 simp [hi,imI,numOf,Array.getD]
theorem tr_out {t:Tok}{Q:Array Nat→Ab→Prop}(ha:Y6 n kz ask s)(h1:1≤n)
  (h:∀il:List Nat,il.Perm (List.range n)→il.Pairwise (λi j=>kz i<kz j∨(kz i=kz j∧i<j))→Q il.toArray s):(kas_sort n).kasWp ask Q s:=by
 refine wyb ha (imI_ky kz t) h1 λq g u=>?_
 have hz:(ixA n (imI kz t)).size=n:=by simp [ixA]
 have hzq:(q.map (imI kz t)).size=(ixA n (imI kz t)).size:=by rw [hz,cQ,g.size]
 obtain ⟨il,p,o,e⟩:=Up.places (by rw [hz];exact u) hzq
 rw [hz] at p
 have hin:∀i∈il,i<n:=λi hi=>bb.mp (p.mem_iff.mp hi)
 have at_:∀i,i<n→(ixA n (imI kz t)).getD i (.none,.none)=imI kz t i:=λi hi=>by
  simp [ixA,Array.getD,hi]
 have ky:∀i,i<n→K (ixA n (imI kz t)) i=kz i:=λi hi=>by
  unfold K
  simp [ixA,hi,imI,numOf]
 have e2:q.toList.map (imI kz t)=il.map (imI kz t):=by
  rw [←Array.toList_map,e]
  exact bS λi hi=>at_ i (hin i hi)
 have inj:∀i j,imI kz t i=imI kz t j→i=j:=λi j e=>by
  simp only [imI,Prod.mk.injEq,Value.int.injEq] at e
  lia
 have e3:q.toList=il:=(List.map_inj_right (λi j e=>inj i j e)).mp e2
 have e4:q=il.toArray:=by rw [←e3]
 rw [e4]
 exact h il p (o.imp_of_mem λ{i j} hi hj hb=>by
  unfold Bef at hb
  rw [ky i (hin i hi),ky j (hin j hj)] at hb
  exact hb)
end
end L2
namespace L2
open PySem PySem.Spec PySem.Calls PySem.W PyProof.Rows
section
variable {prog:Ac}{w:Ah}{A:Ae}{E:Ag→Ab→Prop}{s:Ab}
theorem qwg {h:Heap}{a:Aj}{vs:List Ag}{k:Nat}(ho:h.get? a=some (seqObj "list" vs.toArray k))(out:Array Ag):∃e,(sortedHeap h a vs out).get? a=some (seqObj "list" out e):=by
 obtain ⟨e1,ho1⟩:∃e1,(h.update a (Obj.mapSeq λ_=>(#[]:Array Ag))).get? a=some (seqObj "list" #[] e1):=⟨_,get?_update_seq ho λ_=>#[]⟩
 exact ⟨_,get?_update_seq (ac _ (ac _ ho1)) λ_=>out⟩
theorem qqv {h:Heap}{a b:Aj}{vs:List Ag}{o:Obj}(e:h.get? b=some o)(hb:b≠a)(out:Array Ag):(sortedHeap h a vs out).get? b=some o:=by
 unfold sortedHeap
 rw [Heap.get?_update_ne _ _ _ _ hb]
 refine ac _ (ac _ ?_)
 rw [Heap.get?_update_ne _ _ _ _ hb]
 exact e
end
section
variable {X:Cx}
end
end L2
namespace L2
open PySem PySem.Spec PySem.Calls PySem.W PyProof.Rows
def kzS (ss:List Str)(x:Str):Int:=((ss.filter λy=>decide (y.cps.toList<x.cps.toList)).length:Nat)
theorem wzu {ss:List Str}{x y:Str}(h:¬ y.cps.toList<x.cps.toList):kzS ss x≤kzS ss y:=by
 unfold kzS
 have:(ss.filter λz=>decide (z.cps.toList<x.cps.toList)).length≤(ss.filter λz=>decide (z.cps.toList<y.cps.toList)).length:=by
  refine (List.Sublist.length_le ?_)
  have e:(ss.filter λz=>decide (z.cps.toList<x.cps.toList))=(ss.filter λz=>decide (z.cps.toList<y.cps.toList)).filter λz=>decide (z.cps.toList<x.cps.toList):=by
   rw [List.filter_filter]
   refine List.filter_congr λz _=>?_
   by_cases c:z.cps.toList<x.cps.toList
   ·have:z.cps.toList<y.cps.toList:=by
     apply ce
     intro n
     exact absurd c (List.not_lt.mpr (List.le_trans (List.not_lt.mp h) (List.not_lt.mp n)))
    simp [c,this]
   ·simp [c]
  rw [e]
  exact List.filter_sublist
 lia
theorem wx9 {ss:List Str}{x y:Str}(hx:x∈ss)(h:x.cps.toList<y.cps.toList):kzS ss x<kzS ss y:=by
 unfold kzS
 have sub:(ss.filter λz=>decide (z.cps.toList<x.cps.toList)).length<(ss.filter λz=>decide (z.cps.toList<y.cps.toList)).length:=by
  have e:(ss.filter λz=>decide (z.cps.toList<x.cps.toList))=(ss.filter λz=>decide (z.cps.toList<y.cps.toList)).filter λz=>decide (z.cps.toList<x.cps.toList):=by
   rw [List.filter_filter]
   refine List.filter_congr λz _=>?_
   by_cases c:z.cps.toList<x.cps.toList
   ·have:z.cps.toList<y.cps.toList:=List.lt_trans c h
    simp [c,this]
   ·simp [c]
  rw [e]
  have mem:x∈ss.filter λz=>decide (z.cps.toList<y.cps.toList):=bA.mpr ⟨hx,bn h⟩
  refine Nat.lt_of_le_of_ne (cN _ _) λz=>?_
  have:=(List.length_filter_eq_length_iff).mp z x mem
  exact List.lt_irrefl _ (dA this)
 lia
theorem wjr {ss:List Str}{x y:Str}(hx:x∈ss):kzS ss x<kzS ss y↔x.cps.toList<y.cps.toList:=by
 constructor
 ·intro h
  apply ce
  intro n
  have:=wzu (ss:=ss) n
  lia
 ·exact wx9 hx
section
variable {prog:Ac}{w:Ah}{A:Ae}{E:Ag→Ab→Prop}{s:Ab}
def StrsR (vs:List Ag)(ss:List Str):Prop:=Paired (λv x=>∃t,v=Value.str x t) vs ss
theorem StrsR.at {vs:List Ag}{ss:List Str}(h:StrsR vs ss):∀ {i:Nat},i<ss.length→∃x t,ss[i]?=some x∧vs.getD i Value.none=Value.str x t:=by
 induction h with
 |nil=>intro i hi;exact absurd hi (dW _)
 |@cons a b l m hd tl ih =>
  intro i hi
  cases i with
  |zero=>obtain ⟨t,rfl⟩:=hd;exact ⟨b,t,rfl,rfl⟩
  |succ i=>exact ih (i:=i) (by simpa using hi)
theorem StrsR.mem {vs:List Ag}{ss:List Str}(h:StrsR vs ss):∀v∈vs,∃x t,v=Value.str x t:=by
 induction h with
 |nil=>intro v hv;cases hv
 |@cons a b l m hd tl ih =>
  intro v hv
  rcases ak.mp hv with rfl|hv
  ·obtain ⟨t,e⟩:=hd;exact ⟨b,t,e⟩
  ·exact ih v hv
theorem qy1 {a:Aj}{vs:List Ag}{k:Nat}{ss:List Str}{P:PySem.Fin→Ab→Prop}(ho:s.heap.get? a=some (seqObj "list" vs.toArray k))(h64:vs.length<64)(t:StrsR vs ss)
  (h:∀il:List Nat,il.Perm (List.range vs.length)→il.Pairwise (λi j=>¬ (ss.getD j Str.empty).cps.toList<(ss.getD i Str.empty).cps.toList)→P (.done (.ret .none)) { s with heap:=sortedHeap s.heap a vs (il.map λi=>vs.getD i Value.none).toArray }) :
  wpAny (model prog w) A (Builtin.«list.sort» ⟨[.ref a],[]⟩) P E s:=by
 have hkl:vs.length=ss.length:=bo t
 have ha:a<s.heap.objs.size:=al ho
 obtain ⟨e1,ho1⟩:∃e1,(s.heap.update a (Obj.mapSeq λ_=>(#[]:Array Ag))).get? a=some (seqObj "list" #[] e1):=⟨_,get?_update_seq ho λ_=>#[]⟩
 have sz:(1000001:Nat)<sizeLine:=by decide
 rw [list_sort_plain]
 refine aa (listItems_at ho rfl ?_)
 refine aa (listUpdate_at ho rfl ?_ (by rw [aw];lia) (aB _))
 refine aa (seqEpoch_at ho1 rfl ?_)
 refine aa (wpAny_newTuple ?_ (by show vs.length≤_;lia))
 refine aa (wpAny_newList ?_ (aB _))
 refine bH ?_
 show wpAny (model prog w) A _ P E { s with heap:=((s.heap.update a (Obj.mapSeq λ_=>(#[]:Array Ag))).push (seqObj "tuple" vs.toArray 0)).push (seqObj "list" #[] 0) }
 have ho6:(((s.heap.update a (Obj.mapSeq λ_=>(#[]:Array Ag))).push (seqObj "tuple" vs.toArray 0)).push (seqObj "list" #[] 0)).get? a=some (seqObj "list" #[] e1):=ac _ (ac _ ho1)
 have fin:∀(h':Heap) (il:List Nat),h'=((s.heap.update a (Obj.mapSeq λ_=>(#[]:Array Ag))).push (seqObj "tuple" vs.toArray 0)).push (seqObj "list" #[] 0)→il.Perm (List.range vs.length)→il.Pairwise (λi j=>¬ (ss.getD j Str.empty).cps.toList<(ss.getD i Str.empty).cps.toList)→P (.done (.ret .none)) { s with heap:=h'.update a (Obj.mapSeq λ_=>(il.map λi=>vs.getD i Value.none).toArray) }:=λh' il e a1 a2=>by
  subst e
  exact h il a1 a2
 generalize ((s.heap.update a (Obj.mapSeq λ_=>(#[]:Array Ag))).push (seqObj "tuple" vs.toArray 0)).push (seqObj "list" #[] 0)=h6' at ho6 fin ⊢
 have fin:=λil=>fin h6' il rfl
 dsimp only
 by_cases h2:vs.toArray.size<2
 ·rw [aj h2,aj h2]
  refine aa (ag ?_)
  rw [StateT.run_pure]
  refine aa (ag ?_)
  dsimp only
  have h2':vs.length<2:=by simpa using h2
  have e:(arrOf (SortSt.mk' general' (vs.toArray.zip vs.toArray) #[] 7 none)).map (·.2)=((List.range vs.length).map λi=>vs.getD i Value.none).toArray:=by
   show (vs.toArray.zip vs.toArray).map (·.2)=_
   match vs,h2' with
   |[],_=>simp
   |[v],_=>simp
   |_::_::_,h2=>simp at h2;lia
  rw [e]
  refine aa (seqEpoch_at ho6 rfl ?_)
  refine aa (listUpdate_at ho6 rfl ?_ (aB _) (by rw [aw,ae,aO];lia))
  simp only [bne_self_eq_false,bZ,dL]
  refine ag (fin (List.range vs.length) (.refl _) ?_)
  rcases (by lia:vs.length=0∨vs.length=1) with z|z
  ·rw [z];exact .nil
  ·rw [z];exact eZ _ _
 ·rw [af h2,af h2]
  have hv2:2≤vs.length:=by simpa using h2
  refine aa (kas_kind (T:=.type "str") hv2 (λv hv=>?_) rfl rfl ?_)
  ·obtain ⟨x,tk,rfl⟩:=t.mem v hv
   exact Looks.of_pure rfl
  let kz:Nat→Int:=λi=>kzS ss (ss.getD i Str.empty)
  have gd:∀ {i x},ss[i]?=some x→ss.getD i Str.empty=x:=λe=>by rw [ay,e];rfl
  have ask:Y6 vs.length kz (kas_ask prog w A oneType' vs) { s with heap:=h6' }:=λi j C hi hj hC=>by
   obtain ⟨x,tx,ex,vx⟩:=t.at (i:=i) (by lia)
   obtain ⟨y,ty,ey,vy⟩:=t.at (i:=j) (by lia)
   unfold kas_ask
   rw [vx,vy]
   refine kas_lt_str ?_
   have e:decide (kz i<kz j)=decide (x.cps.toList<y.cps.toList):=by
    rw [cF,dB,dB]
    show kzS ss (ss.getD i Str.empty)<kzS ss (ss.getD j Str.empty)↔_
    rw [gd ex,gd ey]
    exact wjr (aX ex)
   rw [←e]
   exact hC
  have tree:(kas_sort vs.length).kasWp (kas_cmp prog w A oneType' (pairsOf vs)) (λp s'=>s'={ s with heap:=h6' }∧p.toList.Perm (List.range vs.length)∧p.toList.Pairwise (λi j=>¬ (ss.getD j Str.empty).cps.toList<(ss.getD i Str.empty).cps.toList)) { s with heap:=h6' }:=by
   rw [←kas_ask_eq]
   refine tr_out (t:=0) ask (by lia) λil pm up=>⟨rfl,pm,up.imp_of_mem λ{i j} hi hj hb n=>?_⟩
   have hj:=bb.mp (pm.mem_iff.mp hj)
   obtain ⟨y,ty,ey,vy⟩:=t.at (i:=j) (by lia)
   have:kz j<kz i:=by
    show kzS ss (ss.getD j Str.empty)<kzS ss (ss.getD i Str.empty)
    rw [gd ey] at n ⊢
    exact wx9 (aX ey) n
   lia
  have est:SortSt.mk' oneType' (vs.toArray.zip vs.toArray) #[] 7 none=kas_st oneType' (pairsOf vs) (List.toArray (List.range vs.length)):=by
   have e:=kas_range (pairsOf vs)
   rw [pairsOf_size] at e
   show SortSt.mk' oneType' (pairsOf vs) #[] 7 none=SortSt.mk' oneType' ((List.toArray (List.range vs.length)).map (kas_item (pairsOf vs))) #[] 7 none
   rw [e]
  have run:=kas_runs (E:=E) (Q:=λ_ st' s'=>∃p:Array Nat,p.size=vs.length∧arrOf st'=p.map (kas_item (pairsOf vs))∧failedOf st'=none∧s'={ s with heap:=h6' }∧p.toList.Perm (List.range vs.length)∧p.toList.Pairwise (λi j=>¬ (ss.getD j Str.empty).cps.toList<(ss.getD i Str.empty).cps.toList))
   hv2 h64 (λp' st' s' a1 a2 a3 a4=>⟨p',a1,a2,a3,a4⟩) tree
  rw [←est] at run
  refine aa (aR run ?_ λ_ _ e=>e)
  rintro ⟨⟨⟩,st'⟩ s' ⟨p,hp,har,hf,rfl,pm,up⟩
  dsimp only
  have hout:(arrOf st').map (·.2)=List.toArray (p.toList.map λi=>vs.getD i Value.none):=by
   apply Array.toList_inj.mp
   rw [har,Array.map_map,Array.toList_map]
   exact bS λi _=>by show (kas_item (pairsOf vs) i).2=_;rw [kas_item_eq]
  rw [hout]
  refine aa (seqEpoch_at ho6 rfl ?_)
  refine aa (listUpdate_at ho6 rfl ?_ (aB _) (by rw [aw,ae,aW];lia))
  rw [hf]
  simp only [bne_self_eq_false,bZ,dL]
  exact ag (fin p.toList pm up)
theorem qzu {d:Aj}{vs:List (Key×Ag)}{ep:Nat}{Q:List Ag→Ab→Prop}(hh:A.handled=none)(lo:(d==sysModules)=false)(dd:s.heap.DictAt (xg prog w) d vs ep)(hn:vs.length≤sizeLine)
  (h:∀h' tk (qs:List Ag),(∀b o,s.heap.get? b=some o→h'.get? b=some o)→qs.length=vs.length→(∀(i:Nat) v,qs[i]?=some v→∃k x,vs[i]?=some (k,x)∧(xg prog w).is k v=true)→s.heap.objs.size≤h'.objs.size→Q qs { s with heap:=h',toks:=tk }):wpAny (model prog w) A (collect (.ref d)) Q E s:=by
 have hS:d<s.heap.objs.size:=dd.lt_size
 have R:(s.heap.push (seqObj "list" #[] 0)).DictAt (xg prog w) d vs ep:=dd.push _
 have run:codeAny (model prog w) A (.builtin "proto.collect" ⟨[.ref d],[]⟩) (λr s'=>r=.ok (.ret (.ref s.heap.objs.size))∧∃h' tk acc' c',s'={ s with heap:=h',toks:=tk }∧(∀b o,b≠s.heap.objs.size→(s.heap.push (seqObj "list" #[] 0)).get? b=some o→h'.get? b=some o) ∧
   h'.get? s.heap.objs.size=some { cls:=.type "list",dict:=none,data:=.seq acc' c',slots:=#[] }∧ItemsOf (λi v=>∃k x,vs[i]?=some (k,x)∧(xg prog w).is k v=true) acc' vs.length) s:=by
  refine codeAny_builtin entry_proto_collect' ?_
  show wpAny _ _ (do again (.builtin "list.__iadd__" ⟨[←newList [],.ref d],[]⟩)) _ _ s
  (refine aa (wpAny_newList (ag ⟨Code.quiet_builtin _ (by decide +kernel),codeAny_builtin entry_list_iadd' ?_⟩)) ;rw [Around.under_plainId (show plainId "list.__iadd__" = true by decide +kernel) _])
  show wpAny _ _ (Builtin.List.listExtendWith (.ref s.heap.objs.size) (.ref d) (.ref s.heap.objs.size)) _ _ _
  exact kdl_extend (s:={ s with heap:=s.heap.push (seqObj "list" #[] 0) }) (R:=λr s'=>r=.ok (.ret (.ref s.heap.objs.size))∧∃h' tk acc' c',s'={ s with heap:=h',toks:=tk }∧(∀b o,b≠s.heap.objs.size→(s.heap.push (seqObj "list" #[] 0)).get? b=some o→h'.get? b=some o) ∧
   h'.get? s.heap.objs.size=some { cls:=.type "list",dict:=none,data:=.seq acc' c',slots:=#[] }∧ItemsOf (λi v=>∃k x,vs[i]?=some (k,x)∧(xg prog w).is k v=true) acc' vs.length) (kdl_dict lo) (by simpa using hh) R s.heap.objs.size (dZ hS) (dZ hS) (.ref s.heap.objs.size) 0 (aq _ rfl) (λh' tk acc' c' hk hS' hacc=>⟨rfl,h',tk,acc',c',rfl,hk,hS',hacc⟩) hn
 unfold collect
 refine aa (wpAny_runValue (d6 run λr s' hr=>?_))
 obtain ⟨rfl,h',tk,acc',c',rfl,hk,hS',hacc⟩:=hr
 dsimp only
 refine aa (wpAny_load hS' ?_)
 refine ag ?_
 refine h h' tk _ (λb o e=>hk b o (ar (al e)) (ac _ e)) (by rw [aW];exact hacc.1) (λi v e=>hacc.2 i v (by rw [←cb];exact e)) ?_
 exact bC (al hS')
end
section
variable {X:Cx}
theorem j9 (hc:X.calm=true):jx X (.builtin "sorted") (λxs H Q=>∃(d:Aj) (kvs:List (Key×V)) (ss:List Str),xs=[.ref d]∧Rd H d (.dK kvs)∧kvs.map (·.1)=ss.map Sum.inr∧kvs.length<64 ∧
  ∀(l:Aj) (ms:List Str),H l=none→ms.Perm ss→ms.Pairwise (λx y=>¬ y.cps.toList<x.cps.toList)→Q (.ref l) (upd H l (.lst (ms.map V.str)))):=by
 intro pins s σ H xs us Q I r h
 obtain ⟨d,kvs,ss,rfl,hd,hk,hn,q⟩:=h
 obtain ⟨u,rfl,ru⟩:=j5 r
 cases (show u=Value.ref d from ru)
 have sz:(100001:Nat)<sizeLine:=by decide
 obtain ⟨z,lo,vs,rel,dd⟩:=Qm I.hok hd
 obtain ⟨ep,dd⟩:=dd.dictAt
 have hl:vs.length=kvs.length:=(bo rel).symm
 have hls:kvs.length=ss.length:=by have:=bI List.length hk;simpa using this
 refine Calls.call_function_entry kind_sorted plain_sorted entry_sorted (args_sorted1 _) ?_
 unfold Builtin.«sorted»
 refine aa (m:=checkCount "sorted" 1 1 _) (ag ?_)
 refine aa (qzu (by simpa using I.ok.hd hc) lo dd (by lia) λh' tk qs hk' hlq hq hz=>?_)
 refine aa (wpAny_newList ?_ (by lia))
 have hoL:(h'.push (seqObj "list" qs.toArray 0)).get? h'.objs.size=some (seqObj "list" qs.toArray 0):=aq _ rfl
 have tS:StrsR qs ss:=by
  have key:∀(qs:List Ag) (ss:List Str),qs.length=ss.length→(∀(i:Nat) v,qs[i]?=some v→∃x t,ss[i]?=some x∧v=Value.str x t)→StrsR qs ss:=by
   intro qs
   induction qs with
   |nil =>
    intro ss e _
    cases ss with
    |nil=>exact .nil
    |cons _ _=>simp at e
   |cons v qs ih =>
    intro ss e hh
    cases ss with
    |nil=>simp at e
    |cons x ss =>
     obtain ⟨x',t,e1,e2⟩:=hh 0 v rfl
     cases e1
     exact .cons ⟨t,e2⟩ (ih ss (by simpa using e) λi v ev=>hh (i+1) v ev)
  refine key qs ss (by lia) λi v ev=>?_
  obtain ⟨k,x,e1,e2⟩:=hq i v ev
  have hi:=(aT.mp e1).1
  have ek:kvs[i]?=some kvs[i]:=au (by lia)
  obtain ⟨qv,e3,_⟩:=qj0 rel ek
  rw [e1] at e3
  have e4:=bI (λl=>l[i]?) hk
  simp only [aK,ek,cK] at e4
  have hs:ss[i]?=some ss[i]:=au (by lia)
  rw [hs,cK] at e4
  have e5:=az e4
  have e6:k=kvs[i].1:=bI Prod.fst (az e3)
  rw [e6,e5] at e2
  obtain ⟨t,rfl⟩:=(show ∃t,v=Value.str ss[i] t from wvv e2)
  exact ⟨ss[i],t,hs,rfl⟩
 refine aa (bH (cx slot_list_sort ⟨_,hoL,rfl⟩ entry_list_sort ?_ (args_list_sort _)))
 refine qy1 (s:={ s with heap:=h'.push (seqObj "list" qs.toArray 0),toks:=tk }) hoL (by lia) tS λil pm up=>⟨_,rfl,ag ⟨_,rfl,?_⟩⟩
 obtain ⟨e,he⟩:=qwg hoL (il.map λi=>qs.getD i Value.none).toArray
 have nl:H h'.objs.size=none:=I.hok.fresh hz
 have hin:∀i∈il,i<ss.length:=λi hi=>by have:=bb.mp (pm.mem_iff.mp hi);lia
 have vals:∀(il:List Nat),(∀i∈il,i<ss.length)→Vals ((il.map λi=>ss.getD i Str.empty).map V.str) (il.map λi=>qs.getD i Value.none):=by
  intro il
  induction il with
  |nil=>intro _;exact .nil
  |cons i il ih =>
   intro hh
   obtain ⟨x,t,e1,e2⟩:=tS.at (hh i (.head _))
   refine .cons ?_ (ih λj hj=>hh j (.tail _ hj))
   show RelV (V.str (ss.getD i Str.empty)) (qs.getD i Value.none)
   rw [e2,ay,e1]
   exact ⟨t,rfl⟩
 have pms:(il.map λi=>ss.getD i Str.empty).Perm ss:=by
  have h1:=pm.map λi=>ss.getD i Str.empty
  have h2:((List.range qs.length).map λi=>ss.getD i Str.empty)=ss:=by
   refine List.ext_getElem? λi=>?_
   rw [aK]
   by_cases c:i<ss.length
   ·rw [dY (by lia),au c]
    show some (ss.getD i Str.empty)=_
    rw [ay,au c]
    rfl
   ·rw [bM (by rw [aO];lia),bM (by lia)]
    rfl
  rw [h2] at h1
  exact h1
 refine ⟨.ref _,_,I.laid (t':=tk) (λb u hb=>qqv (ac _ (hk' b u hb)) (ar (aD (al hb) hz)) _) hz (show ObjOk X.prog X.w _ _ _ (.lst ((il.map λi=>ss.getD i Str.empty).map V.str)) from ⟨?_,_,e,vals il hin,he⟩),rfl,q _ _ nl pms (bu.mpr up)⟩
 rw [ae,pms.length_eq]
 lia
end
end L2
namespace L2
open PySem PySem.Spec PySem.Calls PyProof.Rows PySem.W
section
variable {prog:Ac}{w:Ah}{A:Ae}{E:Ag→Ab→Prop}{s:Ab}{K:Type}[DecidableEq K]{knd:KeyKind prog w K}
theorem Jy {α:Type}{f:α→Int}:∀ {l:List α} (x:Int),(l.map f).Nodup→(l.filter λe=>f e==x).length≤1
 |[],_,_=>aB _
 |a::l,x,h=>by
  rw [ax,aN] at h
  have ih:=Jy (l:=l) x h.2
  by_cases c:(f a==x)=true
  ·rw [bq,aj c]
   have:l.filter (λe=>f e==x)=[]:=List.filter_eq_nil_iff.mpr λe he hx=>h.1 (ao.mpr ⟨e,he,by rw [eq_of_beq hx,eq_of_beq c]⟩)
   rw [this]
   exact ah _
  ·rw [bq,af c]
   exact ih
theorem qk2 {id:String}{d:Aj}{o:Obj}{es:Array DictEntry}{ep:Nat}{xs:List (List K×Aj×Ag)}{Q:Array DictEntry→Ab→Prop}(ho:s.heap.get? d=some o)(hd:o.data=.dict es ep)
  (he:es.toList=xs.map (entryOfKey (tupleKind knd))) (his:∀x∈xs,(tupleKind knd).is s.heap x.1 x.2.1) (hh:(xs.map λx=>(tupleKind knd).hash x.1).Nodup) (h:Q es s) :
  wpAny (model prog w) A (Builtin.Dict.entriesForEmpty id d) Q E s:=by
 unfold Builtin.Dict.entriesForEmpty
 refine aa (bQ ho hd ?_)
 refine aa (aR (Q:=λ_ s'=>s'=s) ?_ (λ_ s' e=>by subst e;exact ag h) λ_ _ e=>e)
 rw [←Array.forIn_toList]
 refine wpAny_forIn_list _ (λrest _ s'=>s'=s∧∀e∈rest,e∈es.toList) _ ?_ (λ_ _ e=>e.1) _ _ ⟨rfl,λ_ h=>h⟩
 rintro e rest b s' ⟨rfl,hr⟩
 obtain ⟨x,hx,ex⟩:=ao.mp (he▸hr e (.head _))
 have hi:=his x hx
 have tl:s'.TypeIs (.ref x.2.1) "tuple" := by
  obtain ⟨o',its,n,h1,h2,_⟩:=hi
  exact ⟨o',h1,h2⟩
 have ek:e.key=.ref x.2.1:=by rw [←ex];rfl
 have hsz:¬ (es.filter (·.hash==e.hash)).size>1:=by
  have h1:=Jy (f:=λe:DictEntry=>e.hash) (l:=es.toList) e.hash (by rw [he,bU];exact hh)
  have h2:(es.filter (·.hash==e.hash)).size=(es.toList.filter (·.hash==e.hash)).length:=by rw [←aW,Array.toList_filter]
  lia
 have tailok:∀e∈rest,e∈es.toList:=λe h=>hr e (.tail _ h)
 unfold Builtin.Dict.quietEq
 rw [ek]
 dsimp only
 refine aa (aa (fy tl PySem.F.slot_tuple_eq.lookup (ag ?_)))
 rw [af hsz]
 show wpAny _ _ (if (!(_:Bool))=true then _ else _) _ _ _
 split
 ·exact ag ⟨rfl,tailok⟩
 ·exact ag ⟨rfl,tailok⟩
theorem wkd {o:Aj}{xs:List (List K×Aj×Ag)}{Q:Ag→Ab→Prop}(hoS:(o==sysModules)=false)(ho:s.heap.DictOfH (tupleKind knd) o xs)(hsz:xs.length≤sizeLine)(h0:xs≠[])(hh:(xs.map λx=>(tupleKind knd).hash x.1).Nodup)
  (h:∀h',h'.DictOfH (tupleKind knd) s.heap.objs.size xs→Heap.SameBut s.heap.objs.size (s.heap.push { cls:=.type "dict",data:=.dict #[] }) h'→Q (.ref s.heap.objs.size) { s with heap:=h' }) :
  wpAny (model prog w) A (call (.type "dict") [.ref o]) Q E s:=by
 refine callType_codes (Q₁:=λobj s₁=>obj=.ref s.heap.objs.size∧s₁={ s with heap:=s.heap.push { cls:=.type "dict",data:=.dict #[] } }) PySem.F.kt_called_dict (PySem.F.kt_typeCall_dict_1 _) PySem.F.entry_dict_init (kt_code_dict_new _ ⟨rfl,rfl⟩) ?_
 rintro obj s₁ ⟨rfl,rfl⟩
 obtain ⟨oo,es,ep,hoo,hc,hd,he,his,hn⟩:=ho
 have hlt:o<s.heap.objs.size:=al hoo
 have hnew:(s.heap.push { cls:=.type "dict",data:=.dict #[] }).get? s.heap.objs.size=some { cls:=.type "dict",data:=.dict #[] }:=aq _ rfl
 have tn:Shared.TypeIs { s with heap:=s.heap.push { cls:=.type "dict",data:=.dict #[] } } (.ref s.heap.objs.size) "dict" := ⟨_,hnew,rfl⟩
 have hoo':(s.heap.push { cls:=.type "dict",data:=.dict #[] }).get? o=some oo:=ac _ hoo
 have to:Shared.TypeIs { s with heap:=s.heap.push { cls:=.type "dict",data:=.dict #[] } } (.ref o) "dict" := ⟨_,hoo',hc.1⟩
 have hdo:s.heap.objs.size≠o:=dZ hlt
 refine ⟨tn,PySem.F.args_dict_init_2 _ _,?_⟩
 unfold Builtin.«dict.__init__»
 refine aa ?_
 unfold Builtin.Dict.selfAndRest
 refine aa (wpAny_notOrdered_dict tn ?_)
 show wpAny _ _ (pure (s.heap.objs.size,[Value.ref o])) _ _ _
 refine ag ?_
 show wpAny _ _ (Builtin.Dict.updateFrom "dict.__init__" s.heap.objs.size (.ref o) [] .none) _ _ _
 unfold Builtin.Dict.updateFrom
 refine aa (ff to ?_)
 rw [af (by decide)]
 refine aa ?_
 unfold Builtin.Dict.merge
 refine aa ?_
 unfold Builtin.Dict.readDirectly
 refine aa (wpAny_isInstance to isSubtype_dict_dict ?_)
 simp only [Bool.not_true,bZ,dL]
 refine aa (fy to PySem.F.slot_dict_iter.lookup (ag ?_))
 simp only [beq_self_eq_true,if_true]
 refine aa (ag ?_)
 unfold Builtin.Dict.mergeDict
 rw [af (by simpa using hdo)]
 unfold Builtin.Dict.showsAll
 rw [af (by rw [hoS];exact aA)]
 refine aa (ag ?_)
 refine aa (bQ hoo' hd ?_)
 have hne:es.toList≠[]:=by rw [he];intro z;exact h0 (List.map_eq_nil_iff.mp z)
 have hall:(es.all λe=>(keyPart e.key).isSome)=false:=by
  obtain ⟨x,ys,rfl⟩:∃x ys,xs=x::ys:=by
   cases xs with
   |nil=>exact absurd rfl h0
   |cons x ys=>exact ⟨x,ys,rfl⟩
  rw [←Array.all_toList,he]
  rfl
 have his':∀x∈xs,(tupleKind knd).is (s.heap.push { cls:=.type "dict",data:=.dict #[] }) x.1 x.2.1:=λx hx=>by
  obtain ⟨o',its,n,h1,r⟩:=his x hx
  exact ⟨o',its,n,ac _ h1,r⟩
 dsimp only
 rw [hall,Bool.and_false]
 simp only [Bool.not_false,if_true]
 refine aa (bQ hnew rfl ?_)
 rw [aj (show (#[]:Array DictEntry).isEmpty=true from rfl)]
 refine aa (qk2 (knd:=knd) hoo' hd he his' hh ?_)
 have hem:es.isEmpty=false:=by
  rw [←Array.isEmpty_toList]
  cases hz:es.toList with
  |nil=>exact absurd hz hne
  |cons _ _=>rfl
 rw [hem]
 simp only [Bool.not_false,if_true]
 have hsize:es.size=xs.length:=by rw [←aW,he,ae]
 refine aa (wpAny_updateDictKeysTo hnew rfl (ag ?_) (by show es.size≤_;lia))
 show wpAny _ _ (Builtin.Dict.addKeywords s.heap.objs.size [] >>= _) _ _ _
 refine aa (ag (ag ⟨rfl,h _ ⟨_,es,1,dD _ hnew (Obj.isFreed_of_dict (Obj.data_mapDictKeys rfl _)),⟨rfl,rfl,rfl⟩,rfl,he,λx hx=>?_,hn⟩ (cY ..)⟩))
 exact (tupleKind knd).keeps (his' x hx) hnew rfl (cY ..)
end
section
variable {X:Cx}
theorem qy7:jx X (.type "dict") (λxs H Q=>∃a kvs,xs=[V.ref a]∧Rd H a (.dK kvs)∧∀p,H p=none→Q (.ref p) (upd H p (.dK kvs))):=by
 intro pins s σ H xs us Q I r h
 obtain ⟨a,kvs,rfl,e,q⟩:=h
 obtain ⟨u,rfl,rx⟩:=j5 r
 cases rx
 exact wx8 I e λp s' np I'=>⟨.ref p,_,I',rfl,q p np⟩
def Qf (P:Ac)(w:Ah)(k:List Key):Int:=(tupleKind (xg P w)).hash k
theorem qyf:jx X (.type "dict") (λxs H Q=>∃a kvs,xs=[V.ref a]∧H a=some (.dT kvs)∧kvs≠[]∧(kvs.map λp=>Qf X.prog X.w p.1).Nodup∧∀p,H p=none→Q (.ref p) (upd H p (.dT kvs))):=by
 intro pins s σ H xs us Q I r h
 obtain ⟨a,kvs,rfl,e,h0,hh,q⟩:=h
 obtain ⟨u,rfl,rx⟩:=j5 r
 cases rx
 obtain ⟨z,hd,xs,rel,dd⟩:=W0 I.hok (.inl e)
 have hl:xs.length=kvs.length:=(bo rel).symm
 have hm:∀ {kvs:List (List Key×V)} {xs:List (List Key×Aj×Ag)},KT H kvs xs→xs.map (λx=>(tupleKind (xg X.prog X.w)).hash x.1)=kvs.map λp=>Qf X.prog X.w p.1:=by
  intro kvs xs r
  induction r with
  |nil=>rfl
  |cons h t ih=>rw [ax,ax,ih,h.1];rfl
 refine wkd hd dd (by rw [hl];exact z) (λz=>h0 (dQ (by rw [←hl,z];rfl))) (by rw [hm rel];exact hh) λh' dd' hs=>?_
 obtain ⟨o',es,ep,h1,h2,h3,h4,h5,h6⟩:=dd'
 refine ⟨.ref _,_,I.laid (a:=s.heap.objs.size) (o:=.dT kvs) (t':=s.toks) (λb q hq=>?_) (ah _) ⟨z,aI.mpr (aZ (ar I.big)),xs,rel.keeps λc ys ec=>?_,o',es,ep,h1,h2,h3,h4,h6⟩,rfl,q _ (I.hok.fresh (ah _))⟩
 ·exact (hs.2 b (ar (al hq))).trans (ac _ hq)
 ·rw [wj (qg ec (I.hok.fresh (ah _)))]
  exact ec
def tDispT (tk tv:TE):TE:=λσ H Q=>∀p,H p=none→tk σ (upd H p (.dT [])) λx H1=>tv σ H1 λv H2=>∃b ks,x=.ref b∧H2 b=some (.tup (ks.map kV))∧H2 p=some (.dT [])∧Q (.ref p) (upd H2 p (.dT [(ks,v)]))
theorem wkb {k v:Expr}{pos:Pos}{tk tv:TE}(hu:X.A.units<cLine)(hk:PE X k tk)(hv:PE X v tv):PE X (.Dict [some k] [v] pos) (tDispT tk tv):=by
 intro pins s σ H Q I q
 have hn:=I.hok.fresh (ah s.heap.objs.size)
 have I1:=I.laid (a:=s.heap.objs.size) (o:=.dT []) (h':=s.heap.push { cls:=.type "dict",data:=.dict #[] }) (t':=s.toks) (λ_ _ q=>ac _ q) (ah _) (qjh s.heap I.big)
 refine wpAny_Dict_any rfl rfl (λz=>by cases z) (show 1≤15 by decide) ?_
 refine pairTrees_cons_walk (thn (hk pins _ σ _ _ I1 (q _ hn)) λu s1 ⟨x,H1,I2,rx,q1⟩=>thn (hv pins s1 σ H1 _ I2 q1) λw2 s2 ⟨y,H2,I3,ry,b,ks,ex,eb,ep,q2⟩=>pairTrees_nil_walk ?_)
 subst ex
 cases (show u=Value.ref b from rx)
 obtain ⟨z,hd,xs,rel,dd⟩:=dt_of I3.hok ep
 cases rel
 unfold storeAll
 rw [List.forIn_cons]
 refine aa (aa (wpAny_dictSet_heap (knd:=tupleKind (xg X.prog X.w)) (hsz:=aB _) hu (uj I3.hok eb) dd λh' dd' hs=>ag ?_))
 refine ag ?_
 obtain ⟨o',es,ep',h1,h2,h3,h4,_,h6⟩:=dd'
 refine ⟨.ref _,_,yp I3 (by rw [ep];exact True.intro) hs ⟨o',h1⟩ (show ObjOk X.prog X.w (upd H2 s.heap.objs.size (.dT [(ks,y)])) h' s.heap.objs.size (.dT [(ks,y)]) from ⟨by show 1≤sizeLine;decide,hd,[(ks,b,w2)],.cons ⟨rfl,?_,ry⟩ .nil,o',es,ep',h1,h2,h3,h4,h6⟩),rfl,q2⟩
 rw [wj (ne_of eb ep (λz=>nomatch z))]
 exact eb
theorem Yb {K:Aa}(hK:X.K=K){e:Expr}{f:Str}{pos:Pos}{ta:TE}(he:PE X e ta)(hb:attributeBase e f X.env (eval e X.env)=eval e X.env):PE X (.Attribute e f pos) (tFld K ta f):=by
 subst hK
 exact xp he hb
end
end L2
namespace L2
open PySem
namespace Hs
def rot (a:Nat):Nat:=(a*2 ^ 31)%18446744073709551616+a/2 ^ 33
def lane (a x:Nat):Nat:=(rot ((a+x*14029467366897019727)%18446744073709551616)*11400714785074694791)%18446744073709551616
def dOf (x:Nat):Nat:=(lane 2870177450012600261 x*839798700976720815)%18446744073709551616
def byD:List Nat:=[732,925,295,798,488,178,681,694,887,760,450,140,643,849,722,412,915,102,605,928,811,684,374,877,64,567,257,130,13,956,646,336,839,26,529,219,92,918,608,298,801,491,181,54,247,570,260,763,453,326,143,16,209,532,222,725,415,288,171,494,687,377,880,250,443,133,959,649,339,842,405,95,921,611,804,677,367,57,560,883,573,766,639,456,329,19,522,212,845,911,728,601,291,794,484,174,807,873,690,563,253,756,446,136,9,525,215,718,408,98,924,487,177,680,370,60,886,449,952,139,642,332,835,205,22,88,914,101,604,294,797,50,876,566,256,759,322,12,838,528,218,721,411,284,167,800,490,683,556,373,246,439,129,762,452,955,645,518,335,208,401,91,724,917,607,480,170,363,53,686,879,569,442,132,635,325,15,648,841,404,94,597,287,803,869,56,559,249,752,765,958,831,18,521,211,714,920,793,483,173,676,366,882,755,445,948,135,638,328,201,84,717,407,910,97,600,290,163,46,679,369,872,562,252,125,318,8,641,331,834,524,397,214,87,280,603,293,796,486,359,49,242,565,758,448,951,11,514,204,720,410,913,476,166,682,875,748,438,128,631,321,954,644,837,710,527,400,90,593,283,916,799,672,362,865,52,555,245,878,944,761,634,324,827,14,517,207,596,286,789,479,169,42,558,248,751,441,131,4,957,520,210,713,403,906,93,159,172,675,365,868,55,121,947,637,327,830,393,83,276,909,599,289,792,482,355,45,238,871,561,754,627,444,317,7,510,200,833,523,716,589,406,279,472,162,795,678,551,241,434,124,757,950,640,513,203,706,396,86,719,912,475,165,668,358,48,874,940,127,630,320,823,10,836,902,89,592,282,785,38,864,554,244,747,437,0,953,826,516,206,709,399,272,155,788,478,168,671,361,234,51,117,750,440,943,633,323,196,389,79,712,402,905,595,468,285,158,351,41,674,364,867,557,430,120,313,3,829,519,82,585,275,791,481,44,547,237,753,946,819,636,509,199,702,392,715,908,781,598,471,161,664,354,870,743,433,936,123,626,316,6,949,832,705,395,898,85,588,278,34,667,357,860,47,550,240,113,629,319,822,512,202,75,281,784,474,164,37,230,243,746,436,939,126,192,708,398,901,591,464,154,347,670,360,863,553,426,116,309,942,632,825,698,515,388,78,581,271,904,594,787,660,477,350,40,543,233,866,749,622,312,2,505,195,828,711,584,274,777,467,157,673,236,739,429,119,945,198,701,391,894,81,907,790,160,663,353,856,43,546,109,935,625,315,818,5,508,71,897,587,277,780,470,343,33,226,859,549,239,742,432,305,122,188,821,511,704,394,267,460,150,783,473,666,539,356,229,422,112,435,938,628,191,384,74,900,590,153,656,346,36,862,552,745,115,618,308,501,824,890,707,580,270,773,463,786,852,669,542,232,735,425,941,814,504,194,697,387,77,903,776,466,156,659,349,39,105,738,428,931,118,621,311,184,1,67,390,893,80,583,273,146,29,352,855,545,235,108,301,314,817,507,197,700,70,263,779,469,662,535,225,418,741,431,934,624,497,187,380,703,896,769,586,459,149,652,342,32,665,858,731,548,421,111,614,304,937,820,693,383,73,576,266,899,782,345,848,35,538,228,744,307,810,500,190,63,269,772,462,152,655,25,861,734,424,927,114,617,180,696,386,889,76,579,142,658,348,851,541,414,231,104,297,930,620,310,813,503,376,193,66,259,892,582,775,465,338,28,531,221,854,544,737,610,427,300,493,183,506,699,262,455,145,661,224,727,417,107,933,623,816,689,379,69,572,895,778,651,341,844,31,534,857,923,740,613,303,806,496,186,59,885,575,265,768,458,148,21,847,537,227,730,420,110,176,809,499,189,692,382,255,72,138,461,151,654,344,217,100,423,926,616,306,179,372,62,385,888,578,268,771,334,24,850,540,733,606,296,489,812,502,695,568,258,451,141,774,840,657,530,220,723,413,103,736,929,802,619,492,182,685,375,65,891,764,454,144,647,337,27,853,416,919,106,609,299,815,378,881,68,571,261,134,17,340,843,30,533,223,726,932,805,495,185,688,251,767,457,960,147,650,213,96,729,419,922,612,485,302,175,368,58,691,381,884,574,447,264,137,330,20,653,846,536,409,99,602,292,615,808,498,371,61,564,254,577,770,333,23,526,216]
def apart:List Nat→Bool
 |[]=>true
 |[_]=>true
 |x::y::l=>Nat.ble (dOf x+40) (dOf y)&&apart (y::l)
theorem qxk:apart byD=true:=by decide +kernel
theorem byD_lt:(byD.all λx=>Nat.blt x 961)=true:=by decide +kernel
theorem wyu:byD.length=961:=by decide +kernel
theorem Jf:(byD.all λx=>Nat.ble 40 (dOf x)&&Nat.ble (dOf x+40) 18446744073709551616&&!(Nat.ble (dOf x) 15746002411462551884&&Nat.ble 15746002411462551884 (dOf x+40)))=true:=by decide +kernel
theorem Y2:∀ {l:List Nat},apart l=true→l.Pairwise λx y=>dOf x+40≤dOf y
 |[],_=>.nil
 |[_],_=>eZ _ _
 |x::y::l,h=>by
  have h:(Nat.ble (dOf x+40) (dOf y)&&apart (y::l))=true:=h
  rw [bc] at h
  have ih:=Y2 h.2
  have a:=bv h.1
  refine dh.mpr ⟨λz hz=>?_,ih⟩
  rcases ak.mp hz with rfl|hz
  ·exact a
  ·have:=(dh.mp ih).1 z hz
   lia
theorem pw_two {l:List Nat}(h:l.Pairwise λx y=>dOf x+40≤dOf y):∀x∈l,∀y∈l,x≠y→dOf x+40≤dOf y∨dOf y+40≤dOf x:=by
 induction h with
 |nil=>intro x hx;cases hx
 |@cons b l a t ih =>
  intro x hx y hy ne
  rcases ak.mp hx with hx|hx
  ·rcases ak.mp hy with hy|hy
   ·exact absurd (hx.trans hy.symm) ne
   ·rw [hx];exact .inl (a y hy)
  ·rcases ak.mp hy with hy|hy
   ·rw [hy];exact .inr (a x hx)
   ·exact ih x hx y hy ne
theorem Y9 {x:Nat}(h:x<961):x∈byD:=by
 apply ce
 intro n
 have nd:byD.Nodup:=(Y2 qxk).imp λ{a b} q e=>by rw [e] at q;lia
 have:=L2.qx9 (x::byD) (List.range 961) (aN.mpr ⟨n,nd⟩) λv hv=>by
  rcases ak.mp hv with rfl|hv
  ·exact bb.mpr h
  ·exact bb.mpr (Nat.blt_eq.mp (bV.mp byD_lt v hv))
 rw [aL,wyu,aO] at this
 lia
theorem qyd (a:Nat):rot a=(a%8589934592)*2147483648+a/8589934592:=by
 unfold rot
 rw [show (18446744073709551616:Nat)=8589934592*2147483648 from rfl,show (2:Nat) ^ 31=2147483648 from rfl,Nat.mul_mod_mul_right]
theorem wk8 {a b:Nat}(ha:a<18446744073709551616)(hb:b<18446744073709551616)(h:rot a=rot b):a=b:=by
 rw [qyd,qyd] at h
 have a1:a/8589934592<2147483648:=dR ha
 have b1:b/8589934592<2147483648:=dR hb
 have a2:=fC a 8589934592
 have b2:=fC b 8589934592
 generalize a/8589934592=q at *
 generalize b/8589934592=q' at *
 generalize a%8589934592=r at *
 generalize b%8589934592=r' at *
 lia
theorem wvc {a:Nat}(ha:a<18446744073709551616):rot a<18446744073709551616:=by
 rw [qyd]
 have a1:a/8589934592<2147483648:=dR ha
 have a2:=ca a (show 0<8589934592 by decide)
 lia
theorem qk3 {a:Nat}(ha:a<18446744073709551616):((a*11400714785074694791)%18446744073709551616*614540362697595703)%18446744073709551616=a:=by
 have h:(a*11400714785074694791*614540362697595703)%18446744073709551616=a:=by
  rw [eP,show 11400714785074694791*614540362697595703=1+18446744073709551616*379806830464837242 from rfl,Nat.mul_add,Nat.mul_one,show a*(18446744073709551616*379806830464837242)=18446744073709551616*(a*379806830464837242) by rw [Nat.mul_left_comm],eG]
  exact bW ha
 rw [Nat.mul_mod,Nat.mod_mod,←Nat.mul_mod]
 exact h
theorem wy2 {a b:Nat}(ha:a<18446744073709551616)(hb:b<18446744073709551616)(h:(a*11400714785074694791)%18446744073709551616=(b*11400714785074694791)%18446744073709551616):a=b:=by
 rw [←qk3 ha,←qk3 hb,h]
theorem wqm {u x:Nat}:((u+x*14029467366897019727)%18446744073709551616*839798700976720815)%18446744073709551616=((u*839798700976720815)%18446744073709551616+x)%18446744073709551616:=by lia
theorem qkk {u v x y:Nat}(h:lane u x=lane v y):(u+x*14029467366897019727)%18446744073709551616=(v+y*14029467366897019727)%18446744073709551616:=by
 unfold lane at h
 have a:=ca (u+x*14029467366897019727) (show 0<18446744073709551616 by decide)
 have b:=ca (v+y*14029467366897019727) (show 0<18446744073709551616 by decide)
 exact wk8 a b (wy2 (wvc a) (wvc b) h)
theorem two_inj {x y x' y':Nat}(hx:x<961)(hx':x'<961)(hy:y≤40)(hy':y'≤40)(y1:1≤y)(y1':1≤y')(h:lane (lane 2870177450012600261 x) y=lane (lane 2870177450012600261 x') y'):x=x'∧y=y':=by
 have e:=qkk h
 have e1:=wqm (u:=lane 2870177450012600261 x) (x:=y)
 have e2:=wqm (u:=lane 2870177450012600261 x') (x:=y')
 have d1:dOf x=(lane 2870177450012600261 x*839798700976720815)%18446744073709551616:=by unfold dOf;rfl
 have d2:dOf x'=(lane 2870177450012600261 x'*839798700976720815)%18446744073709551616:=by unfold dOf;rfl
 rw [e,e2,←d1,←d2] at e1
 clear e e2 h d1 d2
 have q:=bV.mp Jf x (Y9 hx)
 have q':=bV.mp Jf x' (Y9 hx')
 rw [bc,bc] at q q'
 have q1:=bv q.1.1
 have q2:=bv q.1.2
 have q1':=bv q'.1.1
 have q2':=bv q'.1.2
 by_cases ne:x=x'
 ·subst ne
  exact ⟨rfl,by lia⟩
 ·have:=pw_two (Y2 qxk) x (Y9 hx) x' (Y9 hx') ne
  lia
theorem not_end {x y:Nat}(hx:x<961)(y1:1≤y)(hy:y≤40):(lane (lane 2870177450012600261 x) y+2870177450013471924)%18446744073709551616≠18446744073709551615:=by
 intro h
 have l1:lane (lane 2870177450012600261 x) y<18446744073709551616:=ca _ (by decide)
 have l2:lane (lane 2870177450012600261 x) y=lane 9148689060682678900 0:=by
  have:lane 9148689060682678900 0=15576566623696079691:=by decide +kernel
  rw [this]
  lia
 have e:=qkk l2
 have e1:=wqm (u:=lane 2870177450012600261 x) (x:=y)
 have e2:=wqm (u:=9148689060682678900) (x:=0)
 have d1:dOf x=(lane 2870177450012600261 x*839798700976720815)%18446744073709551616:=by unfold dOf;rfl
 rw [e,e2,←d1,show (9148689060682678900*839798700976720815)%18446744073709551616=15746002411462551884 by decide +kernel] at e1
 clear e e2 h d1 l1 l2
 have q:=bV.mp Jf x (Y9 hx)
 rw [bc,bc] at q
 have q1:=bv q.1.1
 have q2:=bv q.1.2
 have q3:=q.2
 have a:Nat.ble (dOf x) 15746002411462551884=true:=Nat.ble_eq_true_of_le (by lia)
 have b:Nat.ble 15746002411462551884 (dOf x+40)=true:=Nat.ble_eq_true_of_le (by lia)
 rw [a,b] at q3
 cases q3
end Hs
def thG (M P1 P2 P5 C:Nat)(hashes:List Int):Int:=(λacc:Nat=>if acc==M-1 then 1546275796 else if acc<2 ^ 63 then (acc:Int) else (acc:Int)-M) ((hashes.foldl (λacc h=>((((acc+(h%(M:Int)).toNat*P2)%M)*2 ^ 31)%M+((acc+(h%(M:Int)).toNat*P2)%M)/2 ^ 33)*P1%M) P5+(hashes.length ^^^ (P5 ^^^ C)))%M)
theorem th_eq (hs:List Int):Builtin.Tuple.tupleHashOf hs=thG (2 ^ 64) 11400714785074694791 14029467366897019727 2870177450012600261 3527539 hs:=rfl
def laM (M P1 P2 a x:Nat):Nat:=(((a+x*P2)%M)*2 ^ 31%M+((a+x*P2)%M)/2 ^ 33)*P1%M
def finM (M:Nat)(acc:Nat):Int:=if acc==M-1 then (1546275796:Int) else if acc<2 ^ 63 then (acc:Int) else (acc:Int)-M
theorem wj7 (M P1 P2 P5 C:Nat)(a b:Int):thG M P1 P2 P5 C [a,b]=finM M ((laM M P1 P2 (laM M P1 P2 P5 (a%(M:Int)).toNat) (b%(M:Int)).toNat+([a,b].length ^^^ (P5 ^^^ C)))%M):=by
 unfold thG laM finM
 rw [List.foldl_cons,List.foldl_cons,List.foldl_nil]
theorem p64:(2:Nat) ^ 64=18446744073709551616:=rfl
theorem wvf (a x:Nat):laM (2 ^ 64) 11400714785074694791 14029467366897019727 a x=Hs.lane a x:=by
 unfold laM Hs.lane Hs.rot
 rw [p64]
theorem xc:(0+1+1 ^^^ (2870177450012600261 ^^^ 3527539):Nat)=2870177450013471924:=by decide +kernel
theorem wjg {u:Nat}(ne:u≠18446744073709551615)(lu:u<18446744073709551616):reduceHash (finM (2 ^ 64) u)=if u<9223372036854775808 then (u:Int) else (u:Int)-18446744073709551616:=by
 unfold finM
 rw [p64,af (by simpa using ne),show (2:Nat) ^ 63=9223372036854775808 from rfl]
 unfold reduceHash
 by_cases c:u<9223372036854775808
 ·rw [aj c,aj (by simp;lia),af (by simp),aj c]
 ·rw [af c,aj (by simp;lia),af (by simp;lia),af c]
  lia
theorem hashI:∀x:Int,0≤x→x≤960→hashInt x=x:=λx h1 h2=>by
 have r:rawHash x=x:=by
  unfold rawHash
  dsimp only
  have e:((x.natAbs:Int)%((2 ^ 61-1:Nat):Int))=x:=by
   rw [show (2 ^ 61-1:Nat)=2305843009213693951 from rfl]
   lia
  rw [e,af (show ¬ x<0 by lia),af (by simp;lia)]
 unfold hashInt
 rw [r,af (by simp;lia)]
theorem qkw {P:Ac}{w:Ah}{a b:Int}(a0:0≤a)(a1:a≤960)(b0:1≤b)(b1:b≤40):Qf P w [.inl a,.inl b] =
  if (Hs.lane (Hs.lane 2870177450012600261 a.toNat) b.toNat+2870177450013471924)%18446744073709551616<9223372036854775808 then (((Hs.lane (Hs.lane 2870177450012600261 a.toNat) b.toNat+2870177450013471924)%18446744073709551616:Nat):Int) else (((Hs.lane (Hs.lane 2870177450012600261 a.toNat) b.toNat+2870177450013471924)%18446744073709551616:Nat):Int)-18446744073709551616:=by
 have ne:=Hs.not_end (x:=a.toNat) (y:=b.toNat) (by lia) (by lia) (by lia)
 have e0:Qf P w [.inl a,.inl b]=reduceHash (Builtin.Tuple.tupleHashOf [hashInt a,hashInt b]):=by
  unfold Qf
  rfl
 have ea:(a%((2 ^ 64:Nat):Int)).toNat=a.toNat:=by rw [p64];lia
 have eb:(b%((2 ^ 64:Nat):Int)).toNat=b.toNat:=by rw [p64];lia
 rw [e0,hashI a a0 a1,hashI b (by lia) (by lia),th_eq,wj7,ea,eb,wvf,wvf,aL,aL,ck,xc]
 have lu:=ca (Hs.lane (Hs.lane 2870177450012600261 a.toNat) b.toNat+2870177450013471924) (show 0<18446744073709551616 by decide)
 rw [show (Hs.lane (Hs.lane 2870177450012600261 a.toNat) b.toNat+2870177450013471924)%2 ^ 64=(Hs.lane (Hs.lane 2870177450012600261 a.toNat) b.toNat+2870177450013471924)%18446744073709551616 by rw [p64]]
 exact wjg ne lu
theorem wvt {P:Ac}{w:Ah}{a b a' b':Int}(a0:0≤a)(a1:a≤960)(b0:1≤b)(b1:b≤40)(a0':0≤a')(a1':a'≤960)(b0':1≤b')(b1':b'≤40)
  (h:Qf P w [.inl a,.inl b]=Qf P w [.inl a',.inl b']):a=a'∧b=b':=by
 rw [qkw a0 a1 b0 b1,qkw a0' a1' b0' b1'] at h
 have l1:Hs.lane (Hs.lane 2870177450012600261 a.toNat) b.toNat<18446744073709551616:=ca _ (by decide)
 have l2:Hs.lane (Hs.lane 2870177450012600261 a'.toNat) b'.toNat<18446744073709551616:=ca _ (by decide)
 have e:Hs.lane (Hs.lane 2870177450012600261 a.toNat) b.toNat=Hs.lane (Hs.lane 2870177450012600261 a'.toNat) b'.toNat:=by
  generalize Hs.lane (Hs.lane 2870177450012600261 a.toNat) b.toNat=u at *
  generalize Hs.lane (Hs.lane 2870177450012600261 a'.toNat) b'.toNat=v at *
  split at h <;> split at h <;> lia
 have:=Hs.two_inj (x:=a.toNat) (x':=a'.toNat) (y:=b.toNat) (y':=b'.toNat) (by lia) (by lia) (by lia) (by lia) (by lia) (by lia) e
 lia
end L2
namespace L2
open PySem PySem.Spec PySem.Calls PyProof.Rows
section
variable {Y:Cx}{kx vx:Expr}{tk te:TE}{c:Code}{p:Aj}{σ:St}{H:Hp}{pins:List (Aj×Obj)}{s:Ab}
def dctS (kx vx:Expr)(D:Aj)(env:Env)(c:Code):Sem PySem.Fin:=(eval kx env >>= λkv=>holding [kv] (eval vx env) >>= λvv=>standAt { kx.pos with endLine:=vx.pos.endLine,endCol:=vx.pos.endCol } >>= λ_=>holding [kv,vv] (dictSet D kv vv)) >>= λ_=>again c
theorem wkf (kx vx target iter:Expr)(scope:Scope)(pos:Pos)(it:Ag)(D:Aj)(env:Env) :
  compTurn (.DictComp kx vx [⟨target,iter,[],0⟩] scope pos) 0 it (.ref D) env=(standAt iter.pos >>= λ_=>pyNext it >>= λr=>match r with|none=>pure (.done .next)|some v=>letOwnedTupleGo target it v >>= λ_=>assign target env v >>= λ_=>dctS kx vx D env (.compLoop (.DictComp kx vx [⟨target,iter,[],0⟩] scope pos) 0 it (.ref D) env)):=by rfl
theorem wxr {ys:List (Key×V)}{N:List (Key×V)→Hp→Prop}(hk:PE Y kx tk)(hv:PE Y vx te)(J:Inv Y pins σ H s)(hz:ys.length<sizeLine)
  (h:tk σ H λy H4=>te σ H4 λz H5=>∃k,y=kV k∧H5 p=some (.dK ys)∧N (zx ys k z) (upd H5 p (.dK (zx ys k z)))) :
  wpAny (model Y.prog Y.w) Y.A (dctS kx vx p Y.env c) (λr s5=>r=Fin.again c∧∃H5,Inv Y pins σ H5 s5∧∃zs,N zs H5) Y.xe s:=by
 refine aa (aa (aR (hk _ s _ H _ J h) (λkv s6 hr6=>?_) λ_ _ z=>z))
 obtain ⟨y,H4,J6,ry,h4⟩:=hr6
 refine aa (bH (aR (hv _ s6 _ H4 _ J6 h4) (λvv s7 hr7=>?_) λ_ _ z=>z))
 obtain ⟨z,H5,J7,rz,k,rfl,e5,n5⟩:=hr7
 refine aa (cM (bH ?_))
 obtain ⟨zz,hd,vs,rel,dd⟩:=Y5 J7.hok e5
 have hl:(zx ys k z).length≤sizeLine:=by have:=x9 ys k z;lia
 refine wpAny_dictSet_pairs (hsz:=by rw [←rel.length];exact zz) (ut ry) dd λh' dd' hs=>ag ⟨rfl,_,?_,_,n5⟩
 have he:∃q,h'.get? p=some q:=let ⟨q,_,_,hq,_⟩:=dd';⟨q,hq⟩
 exact yp J7 (by rw [e5];exact True.intro) hs he (Qt hl hd (rel.put k rz) dd')
end
section
variable {X:Cx}{pins:List (Aj×Obj)}{σ:St}{H:Hp}{s2:Ab}{scope:Scope}{cl:List (Str×Aj)}{x:Str}{M:List Nat}{fp:List Aj}{C:Aj}{h1:Heap}{tk:Nat}
theorem Inv.compD (I:Inv X pins σ H s2)(hc:CapAll X.env cl)(hh:HasAll cl scope.names)(hm:CapIx X scope cl M)(hk:scope.kind=.function)(hC:s2.heap.objs.size<C)
  (keep:∀b o,s2.heap.get? b=some o→h1.get? b=some o) (hn:h1.Ns C λ_=>none) (hD:h1.get? s2.heap.objs.size=some { cls:=.type "dict",data:=.dict #[] })
  (hfp:∀b∈fp,jm X pins H b) (hob:∀b∈fp,∃o,s2.heap.get? b=some o) :
  Inv (vq X scope cl x M C s2 H fp (X.pn++pins)) [] (vj M σ none) (upd H s2.heap.objs.size (.dK [])) { s2 with heap:=h1,toks:=tk } :=
 I.compG (xs:=[x]) hc hh hm hk hC keep hn ⟨aB _,aI.mpr (aZ (ar I.big)),[],.nil,by
  obtain ⟨o,es,ep,ho,r⟩:=Heap.DictOf.new (knd:=xg X.prog X.w) s2.heap
  have:o={ cls:=.type "dict",data:=.dict #[] }:=az (ho.symm.trans (aq _ rfl))
  exact ⟨o,es,ep,by rw [this];exact hD,r⟩⟩ hfp hob
end
def qzz (J:It)(M:List Nat)(tk te:TE)(σ:St)(H1:Hp)(Q:VK):Prop:=∀p,H1 p=none→∃W:Nat→Nat→List (Key×V)→Hp→Prop,(∃m,W 0 m [] (upd H1 p (.dK []))) ∧
 ∀i m ys H2,W i m ys H2→H2 p=some (.dK ys)∧ys.length<sizeLine∧((J.stop i H2∧Q (.ref p) H2)∨(J.go i H2∧∀v H3,J.yld i H2 v H3 →
  tk (vj M σ (some v)) H3 λy H4=>te (vj M σ (some v)) H4 λz H5=>∃k,y=kV k∧H5 p=some (.dK ys)∧∃m',m'<m∧W (i+1) m' (zx ys k z) (upd H5 p (.dK (zx ys k z)))))
def tDComp (M:List Nat)(wi:TI)(tk te:TE):TE:=λσ H Q=>wi σ H λJ H1=>qzz J M tk te σ H1 Q
section
variable {X:Cx}{kx vx iter:Expr}{x:Str}{px pos:Pos}{scope:Scope}{cl:List (Str×Aj)}{M:List Nat}{wi:TI}{tk te:TE}{pins:List (Aj×Obj)}{σ:St}
theorem qjs {tg:Expr}(hclos:closureFor scope X.env=pure cl)(hhas:HasAll cl scope.names)(hk:scope.kind=.function)
  (hnames:∀y∈scope.names,y.2=.local→scope.names.lookup y.1=some .local) (hi:PI X tg iter wi) (hs:∀z,foldedSetIterable iter X.env z=pure z)
  {use:Option (Ag→Sem Unit)} {QQ:Ag→Ab→Prop} {s:Ab} {H:Hp} {ps:Pos} {R:It→Hp→Prop} (I:Inv X pins σ H s) (h:wi σ H R)
  (go:∀(it:Aj) (fp:List Aj) (tn:Nat→Heap→Prop) (J:It) (H1:Hp) (s2:Ab) (C:Aj) (h3:Heap) (tn2:Nat),Inv X pins σ H1 s2→Turn X.prog X.w X.K tg J fp it tn→tn 0 h3→(∀b∈fp,jm X pins H1 b)→(∀b∈fp,b<s2.heap.objs.size)→(∀b∈fp,∃o,s2.heap.get? b=some o)→R J H1→s2.heap.objs.size<C →
   (∀b o,s2.heap.get? b=some o→h3.get? b=some o)→(h3.Ns C λ_=>none)→h3.get? s2.heap.objs.size=some { cls:=.type "dict",data:=.dict #[] } →
   codeAny (model X.prog X.w) X.A (.compLoop (.DictComp kx vx [⟨tg,iter,[],0⟩] scope pos) 0 (.ref it) (.ref s2.heap.objs.size) (compEnvC scope cl C X.env)) (compPost (model X.prog X.w) X.A X.xe use QQ (.ref s2.heap.objs.size) C) { s2 with heap:=h3,toks:=tn2 }) :
  wpAny (model X.prog X.w) X.A (comprehension (.DictComp kx vx [⟨tg,iter,[],0⟩] scope pos) scope X.env ps newDict false (eval iter X.env) use) QQ X.xe s:=by
 refine cZ (use:=use) rfl hs hclos hk hnames ?_
 refine thn (hi pins s σ H _ I h) λv s1 h1=>thn h1 λitv s2 h2=>?_
 obtain ⟨it,fp,tn,J,H1,rfl,I2,T,t0,hfp,hR⟩:=h2
 refine bi ?_
 refine dN hhas.nocell (by intro y hy;cases hy) (λh3 hns hsb=>?_) hk
 dsimp only at hns hsb ⊢
 generalize hH2:s2.heap.push { cls:=.type "dict",dict:=none,data:=.dict #[] }=G2 at hns hsb ⊢
 have hC:G2.objs.size=s2.heap.objs.size+1:=by rw [←hH2,dn]
 have hlt:s2.heap.objs.size<G2.objs.size:=by lia
 have keep:∀b o,s2.heap.get? b=some o→h3.get? b=some o:=λb o e=>by
  rw [hsb.2 b (ar (bd (al e) hlt))]
  exact ac _ (hH2▸ac _ e)
 have hD:h3.get? s2.heap.objs.size=some { cls:=.type "dict",data:=.dict #[] }:=by
  rw [hsb.2 _ (ar hlt)]
  exact ac _ (hH2▸aq _ rfl)
 have t3:=T.keep 0 _ _ t0 λb _ o e=>keep b o e
 have loop:=λtn2=>go it fp tn J H1 s2 G2.objs.size h3 tn2 I2 T t3 hfp (λb hb=>let ⟨o,e,_⟩:=T.obj 0 _ t0 b hb;al e) (λb hb=>let ⟨o,e,_⟩:=T.obj 0 _ t0 b hb;⟨o,e⟩) hR hlt keep hns hD
 exact codeAny_compStart_dict (loop _) (T.self _ 0 _ _ _ t3 (loop _))
end
section
variable {X:Cx}{kx vx iter:Expr}{x:Str}{px pos:Pos}{scope:Scope}{cl:List (Str×Aj)}{M:List Nat}{wi:TI}{tk te:TE}
theorem wwv (hc:X.calm=true)(hclos:closureFor scope X.env=pure cl)(hcap:CapAll X.env cl)(hhas:HasAll cl scope.names)(hix:CapIx X scope cl M)(hk:scope.kind=.function)
  (hnames:∀y∈scope.names,y.2=.local→scope.names.lookup y.1=some .local) (hx:scope.names.lookup x=some .local) (hnd:(Zn X x M).Nodup) (hi:PI X (.Name x px) iter wi)
  (hkx:∀C s2 H2 fp pn,PE (vq X scope cl x M C s2 H2 fp pn) kx tk) (he:∀C s2 H2 fp pn,PE (vq X scope cl x M C s2 H2 fp pn) vx te) (hs:∀z,foldedSetIterable iter X.env z=pure z)
  {use:Option (Ag→Sem Unit)} {QQ:Ag→Ab→Prop} {pins:List (Aj×Obj)} {s:Ab} {σ:St} {H:Hp} {Q:VK} {ps:Pos} (I:Inv X pins σ H s) (h:wi σ H λJ H1=>qzz J M tk te σ H1 Q)
  (fin:∀(C:Aj) (s2 s4:Ab) (H1 H2:Hp) (fp:List Aj),Inv X pins σ H1 s2→s2.heap.objs.size<C→(∀b∈fp,jm X pins H1 b)→Inv (vq X scope cl x M C s2 H1 fp (X.pn++pins)) [] (vj M σ none) H2 s4→Q (.ref s2.heap.objs.size) H2 →
   compPost (model X.prog X.w) X.A X.xe use QQ (.ref s2.heap.objs.size) C (.ok .next) s4) :
  wpAny (model X.prog X.w) X.A (comprehension (.DictComp kx vx [⟨.Name x px,iter,[],0⟩] scope pos) scope X.env ps newDict false (eval iter X.env) use) QQ X.xe s:=by
 refine qjs hclos hhas hk hnames hi hs I h λit fp tn J H1 s2 C h3 tn2 I2 T t3 hfp hbl hob hR hlt keep hns hD=>?_
 obtain ⟨W,⟨m0,w0⟩,hW⟩:=hR s2.heap.objs.size (I2.hok.fresh (ah _))
 have hxl:(relabel scope X.env).names.lookup x=some .local:=dO hx
 refine Zg (Y:=vq X scope cl x M C s2 H1 fp (X.pn++pins)) (V:=λi n H2=>∃ys,W i n ys H2) (Qd:=Q (.ref s2.heap.objs.size)) (REST:=dctS kx vx s2.heap.objs.size (compEnvC scope cl C X.env) _) T hc (λ_ _ z=>z) (wkf ..) rfl rfl (xu (i:=0) hnd rfl (.inl hxl) (.inr hxl)) (qzc hcap I2 hlt hfp hbl) (λi n H2 ⟨ys,w⟩=>?_) (λH2 s4 J4 q=>fin C s2 s4 H1 H2 fp I2 hlt hfp J4 q) (I2.compD hcap hhas hix hk hlt keep hns hD hfp hob) ⟨[],w0⟩ t3 λb hb=>by rw [wj (ar (hbl b hb))];exact (hfp b hb).1
 obtain ⟨hp,hz,hcase⟩:=hW i n ys H2 w
 refine hcase.imp id λ⟨hgo,hy⟩=>⟨hgo,λv H3 yl=>⟨λσ4 H4=>σ4=vj M σ (some v)∧H3=H4,⟨rfl,rfl⟩,λ_ _ e=>?_⟩⟩
 obtain ⟨rfl,rfl⟩:=e
 refine ⟨Qn M σ v,λpins' s' J=>?_⟩
 refine aR (wxr (N:=λzs H5=>∃m',m'<n∧W (i+1) m' zs H5) (hkx _ _ _ _ _) (he _ _ _ _ _) J hz (hy v H3 yl)) (λr s5 ⟨e,H5,J5,zs,m',hm,w'⟩=>⟨e,H5,J5,m',hm,zs,w'⟩) λ_ _ z=>z
theorem Zr {i:Nat}{y:Str}{py spos:Pos}(hN:X.N.Nodup)(hyi:X.N[i]?=some y)(hyl:Loc X.env.scope y)(hc:X.calm=true)(hclos:closureFor scope X.env=pure cl)(hcap:CapAll X.env cl)(hhas:HasAll cl scope.names)(hix:CapIx X scope cl M)(hk:scope.kind=.function)
  (hnames:∀y∈scope.names,y.2=.local→scope.names.lookup y.1=some .local) (hx:scope.names.lookup x=some .local) (hnd:(Zn X x M).Nodup) (hi:PI X (.Name x px) iter wi)
  (hkx:∀C s2 H2 fp pn,PE (vq X scope cl x M C s2 H2 fp pn) kx tk) (he:∀C s2 H2 fp pn,PE (vq X scope cl x M C s2 H2 fp pn) vx te) (hs:∀z,foldedSetIterable iter X.env z=pure z:=by intro _;rfl)
  (hsw:swapsWith (.DictComp kx vx [⟨.Name x px,iter,[],0⟩] scope pos) (some (.Name y py)) spos.line X.env=pure true:=by rfl) (hyf:X.fn y=true∨X.env.scope.names.lookup y=some .local:=by first | exact .inl rfl | exact .inr rfl | assumption) :
  PS X (.Assign [.Name y py] (.DictComp kx vx [⟨.Name x px,iter,[],0⟩] scope pos) spos) (tAsg (tDComp M wi tk te) (qu7 i)):=by
 intro pins s σ H D I h
 rw [exec_Assign_Name_used _ _ _ _ hsw]
 refine aa (cM (aa ?_))
 refine aa (aR (wwv hc hclos hcap hhas hix hk hnames hx hnd hi hkx he hs (use:=some (assign (.Name y py) X.env)) (QQ:=λ_ s'=>SP X pins D .next s') I h λC s2 s4 H1 H2 fp I2 hlt hfp J4 hq=>?_) (λ_ s' hq=>ag (ag hq)) λ_ _ e=>e)
 have I4:Inv X pins σ H2 s4:=I2.uncomp (h':=s4.heap) (bC hlt) hfp J4 (Heap.SameBut.refl _ _)
 have hCn:H2 C=none:=J4.free
 obtain ⟨mC,hnC,_⟩:=J4.loc
 obtain ⟨oC,esC,epC,hoC,hdC⟩:=id hnC
 have hCl:C≠X.env.locals:=λz=>aS _ (bd hlt (z▸I2.lt))
 have hCs:X.s₀.heap.objs.size≤C:=bB I2.sz (bC hlt)
 have hCc:∀y c,X.env.cells.lookup y=some c→c≠C:=λy c e z=>by
  obtain ⟨v,o,e1,_⟩:=I2.cell y c e
  exact aS _ (bd hlt (z▸al e1))
 have hCp:∀p∈X.pn++pins,p.1≠C:=λp hp z=>aS _ (bd hlt (z▸al (I2.pin p hp).1))
 have hCf:C∉frs X.stack:=λz=>by
  rcases ak.mp (I2.stkSub C z) with q|q
  ·exact hCl q
  ·obtain ⟨_,o,e1,_⟩:=I2.funs.mem (b:=C) q
   exact aS _ (bd hlt (al e1))
 have hCx:C∉X.fs:=λz=>by
  obtain ⟨_,o,e1,_⟩:=I2.funs.mem (b:=C) z
  exact aS _ (bd hlt (al e1))
 have I4p:Inv X (pins++[(C,oC)]) σ H2 s4:=⟨I4.ok,I4.os,I4.bare,I4.base,I4.loc,I4.cell,I4.free,I4.freeC,λp hp=>by
  rcases aH.mp hp with q|q
  ·exact I4.pin p (cP _ q)
  ·rcases aH.mp q with q|q
   ·exact I4.pin p (av _ q)
   ·rw [ai.mp q]
    exact ⟨hoC,hCn,hCl,hCx,λv z=>by rw [hdC.1] at z;cases z⟩,I4.hok,I4.len⟩
 show wpAny _ _ (assign (.Name y py) X.env (.ref s2.heap.objs.size)) _ _ _
 refine eJ (jp I4p hN hyi hyl (show RelV (.ref s2.heap.objs.size) (.ref s2.heap.objs.size) from rfl) (λs5 I5=>?_) hyf)
 have hC5:=(I5.pin (C,oC) (av _ (av _ (.head _)))).1
 exact ⟨mC,⟨oC,esC,epC,hC5,hdC⟩,λh' hs'=>⟨_,H2,I5.unpinned.but hCn hCs hCl hCc hCp hs',hq⟩⟩
end
end L2
namespace L2
open PySem
theorem wzj {M:List Nat}{x:Str}{te:TE}{σ:St}{H:Hp}{Q:VK}(f:Nat→V)(hn:x.cps.size≤1000000)(he:∀(i:Nat) (H':Hp) (R:VK),i<x.cps.size→Same H H'→R (f i) H'→te (vj M σ (some (.str ⟨#[x.cps.getD i 0]⟩))) H' R)
  (k:∀p,H p=none→Q (.ref p) (upd H p (.lst ((List.range x.cps.size).map f)))):quh (ItS x) M te σ H Q:=by
 intro p np
 refine ⟨λi m ys H2=>i≤x.cps.size∧m=x.cps.size-i∧ys=(List.range i).map f∧H2=upd H p (.lst ys),⟨x.cps.size,aB _,rfl,rfl,rfl⟩,?_⟩
 rintro i m ys H2 ⟨hi,rfl,rfl,rfl⟩
 refine ⟨qh,?_,?_⟩
 ·rw [ae,aO]
  have:(1000000:Nat)<sizeLine:=by decide
  lia
 ·by_cases hlt:i<x.cps.size
  ·refine .inr ⟨hlt,?_⟩
   rintro v H3 ⟨rfl,rfl⟩
   refine he i (upd H p (.lst ((List.range i).map f))) _ hlt (Same.upd np) ⟨qh,x.cps.size-(i+1),by lia,by lia,rfl,?_,?_⟩
   ·rw [cI,ba]
    rfl
   ·rw [j7]
  ·refine .inl ⟨by show x.cps.size≤i;lia,?_⟩
   have:i=x.cps.size:=by lia
   subst this
   exact k p np
theorem wvm {M:List Nat}{d:Aj}{o:Obj}{cs:List (Key×V)}{tk te:TE}{σ:St}{H:Hp}{Q:VK}(f:Key→V)(hz:cs.length≤1000000)(nd:(cs.map (·.1)).Nodup)(hd:H d=some (.frz o (.dK cs)))
  (he:∀(k:Key) (H':Hp) (R:V→V→Hp→Prop),Same H H'→R (kV k) (f k) H'→tk (vj M σ (some (kV k))) H' λy H4=>te (vj M σ (some (kV k))) H4 λz H5=>R y z H5)
  (k:∀p,H p=none→Q (.ref p) (upd H p (.dK (cs.map λc=>(c.1,f c.1))))):qzz (ItD d o cs) M tk te σ H Q:=by
 intro p np
 have big:(1000000:Nat)<sizeLine:=by decide
 refine ⟨λi m ys H2=>i≤cs.length∧m=cs.length-i∧ys=(cs.take i).map (λc=>(c.1,f c.1))∧H2=upd H p (.dK ys),⟨cs.length,aB _,rfl,rfl,rfl⟩,?_⟩
 rintro i m ys H2 ⟨hi,rfl,rfl,rfl⟩
 have dp:d≠p:=qg hd np
 refine ⟨qh,by rw [ae,bG];lia,?_⟩
 by_cases hlt:i<cs.length
 ·refine .inr ⟨⟨by rw [wj dp];exact hd,hlt⟩,?_⟩
  rintro v H3 ⟨rfl,c,ec,rfl⟩
  refine he c.1 _ _ (Same.upd np) ⟨c.1,rfl,qh,cs.length-(i+1),by lia,by lia,rfl,?_,?_⟩
  ·have hn:wc ((cs.take i).map λc=>(c.1,f c.1)) c.1=none:=by
    unfold wc
    rw [di.mpr]
    ·rfl
    ·intro x hx
     obtain ⟨y,hy,rfl⟩:=ao.mp hx
     have hy2:y.1∈(cs.map (·.1)).take i:=by rw [←List.map_take];exact ao.mpr ⟨y,hy,rfl⟩
     intro z
     have z:y.1=c.1:=by simpa using z
     obtain ⟨j,hj,ej⟩:=cX hy2
     rw [bG,ae] at hj
     rw [eO] at ej
     have e2:(cs.map (·.1))[i]'(by rw [ae];exact hlt)=c.1:=by
      rw [dJ]
      rw [au hlt] at ec
      rw [az ec]
     have:=(dG nd).mp (ej.trans (z.trans e2.symm))
     lia
   rw [ux _ hn,dC,ba,ec]
   rfl
  ·rw [j7]
 ·refine .inl ⟨⟨by rw [wj dp];exact hd,by lia⟩,?_⟩
  have:i=cs.length:=by lia
  subst this
  rw [fc]
  exact k p np
theorem for_di {d:Aj}{o:Obj}{cs:List (Key×V)}{g:TG}{tb:TS}{D:Ends}{σ:St}{H:Hp}(Pv:Nat→St→Hp→Prop)(h0:Pv 0 σ H)(hl:∀i σ H,i≤cs.length→Pv i σ H→H d=some (.frz o (.dK cs)))
  (hs:∀i c q σ H,cs[i]?=some c→H q=none→Pv i σ H→g (.ref q) σ (upd H q (.tup [kV c.1,c.2])) λσ2 H2=>tb { D with nx:=Pv (i+1),ct:=Pv (i+1),bk:=D.nx } σ2 H2) (hd:∀σ H,Pv cs.length σ H→D.nx σ H) :
  ∃W:Nat→Nat→St→Hp→Prop,(∃m,W 0 m σ H)∧∀i m σ H,W i m σ H →
   ((ItDI d o cs).stop i H∧D.nx σ H)∨((ItDI d o cs).go i H∧∃N:St→Hp→Prop,(∀σ' H',N σ' H'→∃m',m'<m∧W (i+1) m' σ' H')∧∀x H',(ItDI d o cs).yld i H x H'→g x σ H' λσ2 H2=>tb { D with nx:=N,ct:=N,bk:=D.nx } σ2 H2):=by
 refine ⟨λi m σ H=>m=cs.length-i∧i≤cs.length∧Pv i σ H,⟨cs.length,by simp,aB _,h0⟩,?_⟩
 rintro i m σ H ⟨rfl,hi,p⟩
 have q:=hl i σ H hi p
 by_cases hlt:i<cs.length
 ·refine .inr ⟨⟨q,hlt⟩,Pv (i+1),λσ' H' p'=>⟨cs.length-(i+1),by lia,rfl,hlt,p'⟩,?_⟩
  rintro x H' ⟨z,c,nz,rfl,ec,rfl⟩
  exact hs i c z σ H ec nz p
 ·have e:i=cs.length:=by lia
  subst e
  exact .inl ⟨⟨q,ah _⟩,hd σ H p⟩
def ex1 (R:List (Key×V))(c:Key×V):List (Key×V):=if c.2=.non then j0 R c.1 else zx R c.1 c.2
def exK (R cs:List (Key×V)):List (Key×V):=cs.foldl ex1 R
def bfK (R cs:List (Key×V)):List (Key×V):=cs.map λc=>(c.1,(wc R c.1).getD .non)
def qkc (R cs:List (Key×V)):Prop:=∀(i:Nat) c,cs[i]?=some c→c.2=.non→(wc (exK R (cs.take i)) c.1).isSome=true
theorem wyh (R:List (Key×V)){cs:List (Key×V)}{i:Nat}{c:Key×V}(h:cs[i]?=some c):exK R (cs.take (i+1))=ex1 (exK R (cs.take i)) c:=by
 unfold exK
 rw [dC,h,List.foldl_append]
 rfl
theorem wjt (R:List (Key×V))(c:Key×V):(ex1 R c).length≤R.length+1:=by
 unfold ex1
 split
 ·have:=ug R c.1
  lia
 ·exact x9 R c.1 c.2
theorem wjs (R cs:List (Key×V)):(exK R cs).length≤R.length+cs.length:=by
 induction cs generalizing R with
 |nil=>exact ah _
 |cons c cs ih =>
  have h1:=ih (ex1 R c)
  have h2:=wjt R c
  show (exK (ex1 R c) cs).length≤_
  rw [aL]
  lia
def Kb (ch:List Aj)(H H':Hp):Prop:=∀b o,b∉ch→H b=some o→H' b=some o
section
variable {X:Cx}{C:Aj}{x:Str}{k:Nat}{sp:Sp}{E:St→XK}{p pos:Pos}
theorem ww0 (c:CCal X.prog X.w X.K X.mg X.base x C k sp)(hr:Room (k+1) X.A)(hg:Gl X x)(hx:js X E)(hdb:(x==("__debug__" : Str))=false:=by decide) :
  PE X (.Call (.Name x p) [] [] pos) (qyv C sp E j3):=by
 obtain ⟨f,fd,ps,hm,M,F,b⟩:=c.ex
 intro pins s σ H Q I h
 refine cB (W1 I hg hm ?_ hdb)
 exact PySem.W.callWith_K0 I.kIn M.kp (qxg (us:=[]) M F hr b hx I .nil h)
end
theorem Kb.rd {ch:List Aj}{H H':Hp}(k:Kb ch H H'){d:Aj}{kvs:List (Key×V)}(n:d∉ch)(h:Rd H d (.dK kvs)):Rd H' d (.dK kvs):=by
 rcases h with h|⟨o,h⟩
 ·exact .inl (k _ _ n h)
 ·exact .inr ⟨o,k _ _ n h⟩
theorem Kb.trans {ch:List Aj}{H H' H'':Hp}(a:Kb ch H H')(b:Kb ch H' H''):Kb ch H H'':=λc o n e=>b c o n (a c o n e)
theorem Kb.of {ch:List Aj}{H H':Hp}(s:Same H H'):Kb ch H H':=λc o _ e=>s c o e
theorem for_en {K:Aa}{a:Aj}{xs:List V}{g:TG}{tb:TS}{D:Ends}{σ:St}{H:Hp}(Pv:Nat→St→Hp→Prop)(h0:Pv 0 σ H)(hl:∀i σ H,i≤xs.length→Pv i σ H→SqL K H a xs)
  (hs:∀i x q σ H,xs[i]?=some x→H q=none→Pv i σ H→g (.ref q) σ (upd H q (.tup [.int (i:Nat),x])) λσ2 H2=>tb { D with nx:=Pv (i+1),ct:=Pv (i+1),bk:=D.nx } σ2 H2) (hd:∀σ H,Pv xs.length σ H→D.nx σ H) :
  ∃W:Nat→Nat→St→Hp→Prop,(∃m,W 0 m σ H)∧∀i m σ H,W i m σ H →
   ((ItE K a xs).stop i H∧D.nx σ H)∨((ItE K a xs).go i H∧∃N:St→Hp→Prop,(∀σ' H',N σ' H'→∃m',m'<m∧W (i+1) m' σ' H')∧∀x H',(ItE K a xs).yld i H x H'→g x σ H' λσ2 H2=>tb { D with nx:=N,ct:=N,bk:=D.nx } σ2 H2):=by
 refine ⟨λi m σ H=>m=xs.length-i∧i≤xs.length∧Pv i σ H,⟨xs.length,by simp,aB _,h0⟩,?_⟩
 rintro i m σ H ⟨rfl,hi,p⟩
 have q:=hl i σ H hi p
 by_cases hlt:i<xs.length
 ·refine .inr ⟨⟨q,hlt⟩,Pv (i+1),λσ' H' p'=>⟨xs.length-(i+1),by lia,rfl,hlt,p'⟩,?_⟩
  rintro x H' ⟨z,c,nz,rfl,ec,rfl⟩
  exact hs i c z σ H ec nz p
 ·have e:i=xs.length:=by lia
  subst e
  exact .inl ⟨⟨q,ah _⟩,hd σ H p⟩
end L2
namespace L2
open PySem PySem.Spec PyProof.Rows
theorem ht_gen {o:Expr}{m:Str}{apos pos:Pos}{e:Expr}{es:List Expr}{env:Env}(hb:attributeBase o m env (eval o env)=eval o env)(hf:methodCallForm ((e::es).length+0) (backTo pos (starEach (e::es) env)) (backToKw pos (keywordEach [] env))=true)(hp:methodCallPos true o env apos pos=pure pos) :
  eval (.Call (.Attribute o m apos) (e::es) [] pos) env=(do
   let ov ←eval o env
   standAt apos.atName
   let (f,first) ←holding [ov] (getMethod ov m (do return (←importBound o env).getD true))
   callWith pos f first (backTo pos (starEach (e::es) env)) (backToKw pos (keywordEach [] env))):=by
 rw [arm_eval_Call,hb]
 unfold methodCall
 rw [show (e::es).length+([]:List Keyword).length=(e::es).length+0 from rfl,hf,hp]
 rfl
section
variable {X:Cx}{C:Aj}{x m:Str}{k:Nat}{sp:Sp}{E:St→XK}{p pos apos:Pos}{e o:Expr}{es:List Expr}{ta te:TE}{t:TA}
theorem xx {v j p'}(ha:PE X (.Constant v j p') te)(hr:PA X es t):PA X (.Constant v j p'::es) (z9 te t):=xv ha hr rfl
theorem q9 {v p'}(ha:PE X (.Name v p') te)(hr:PA X es t):PA X (.Name v p'::es) (z9 te t):=xv ha hr rfl
theorem pa_cL {v p'}(ha:PE X (.List v p') te)(hr:PA X es t):PA X (.List v p'::es) (z9 te t):=xv ha hr rfl
theorem qqd {v j p'}(ha:PE X (.Tuple v j p') te)(hr:PA X es t):PA X (.Tuple v j p'::es) (z9 te t):=xv ha hr rfl
theorem kj {a b c p'}(ha:PE X (.Call a b c p') te)(hr:PA X es t):PA X (.Call a b c p'::es) (z9 te t):=xv ha hr rfl
theorem zp {a b c p'}(ha:PE X (.BinOp a b c p') te)(hr:PA X es t):PA X (.BinOp a b c p'::es) (z9 te t):=xv ha hr rfl
theorem zh {a b p'}(ha:PE X (.Subscript a b p') te)(hr:PA X es t):PA X (.Subscript a b p'::es) (z9 te t):=xv ha hr rfl
def qz6:List Expr→Bool
 |[]=>true
 |.Starred _ _::_=>false
 |_::r=>qz6 r
theorem Zw {env:Env}:∀ {es:List Expr},qz6 es=true→starEach es env=es.map λe=>(false,eval e env)
 |[],_=>rfl
 |e::r,h=>by
  cases e
  case Starred=>cases h
  all_goals exact bI _ (Zw (es:=r) h)
theorem Zf {pos:Pos}:∀ {l:List (Bool×Sem Ag)},(∀q∈l,q.1=false)→(backTo pos l).all (!·.1)=true∧(backTo pos l).any (·.1)=false:=by
 intro l h
 have key:∀q∈backTo pos l,q.1=false:=by
  intro q hq
  unfold backTo at hq
  obtain ⟨q',hq',rfl⟩:=ao.mp hq
  exact h q' hq'
 exact ⟨bV.mpr λq hq=>by rw [key q hq];rfl,List.any_eq_false.mpr λq hq=>by rw [key q hq];decide⟩
theorem w4 (he:PE X o ta)(cl:Cls X.K C)(c:MCal X.prog X.w X.K X.mg X.base C m k sp)(hr:Room k X.A)(hx:js X E)(ha:PA X (e::es) t)(hn:qz6 (e::es)=true:=by rfl)(hl:(e::es).length+0<30:=by decide)
  (hb:∀z,attributeBase o m X.env z=z:=by intro _;rfl) (hp:methodCallPos true o X.env apos pos=pure pos:=by rfl):PE X (.Call (.Attribute o m apos) (e::es) [] pos) (J3 C m sp E ta t):=by
 have h1:starEach (e::es) X.env=(false,eval e X.env)::starEach es X.env:=by
  cases e
  case Starred=>cases hn
  all_goals rfl
 have h2:∀q∈starEach (e::es) X.env,q.1=false:=λq hq=>by
  rw [Zw hn] at hq
  obtain ⟨z,_,rfl⟩:=ao.mp hq
  rfl
 refine wvj he cl c hr hx ha h1 (Zf λq hq=>h2 q (by rw [h1];exact aE _ hq)).2 (ht_gen (hb _) ?_ hp)
 unfold methodCallForm
 rw [(Zf (pos:=pos) h2).1]
 exact bn hl
theorem wf (c:Cal X.prog X.w X.K X.mg X.base x k sp)(hr:Room k X.A)(hg:Gl X x)(hx:js X E)(ha:PA X (e::es) t)(hn:qz6 (e::es)=true:=by rfl)(hdb:(x==("__debug__" : Str))=false:=by decide):PE X (.Call (.Name x p) (e::es) [] pos) (qqp sp E t):=by
 have h1:starEach (e::es) X.env=(false,eval e X.env)::starEach es X.env:=by
  cases e
  case Starred=>cases hn
  all_goals rfl
 have h2:∀q∈starEach (e::es) X.env,q.1=false:=λq hq=>by
  rw [Zw hn] at hq
  obtain ⟨z,_,rfl⟩:=ao.mp hq
  rfl
 exact Jr c hr hg hx ha hdb h1 (Zf λq hq=>h2 q (by rw [h1];exact aE _ hq)).2
end
end L2
namespace My
open PySem L2
def top (i:Nat):Stmt:=PySem.Challenge.pw_crookroad_k65_whole_equal_roads_apart.main.body.getD i (.Pass ⟨0,0,0,0⟩)
abbrev s_check_count:Stmt:=top 16
theorem Ys:FnScope ["number","fewest","most"] ["number","fewest","most"] (wu s_check_count):=⟨rfl,rfl,rfl,by decide +kernel,rfl,by decide +kernel,by decide +kernel⟩
theorem qqy:Wr "check_count" s_check_count ["number","fewest","most"] []:=λ_ _ _ _ _ _ _ us hl=>match us,hl with | [_,_,_],_=>exI rfl rfl
theorem Jc:Wr "check_count" s_check_count ["number","fewest","most"] [.none]:=λ_ _ _ _ _ _ _ us hl=>by
 have h2:us.length=2:=by simpa using hl
 match us,h2 with
 |[_,_],_=>exact exI rfl rfl
abbrev s_check_bottom:Stmt:=top 18
theorem Zt:FnScope ["bottom"] ["bottom"] (wu s_check_bottom):=⟨rfl,rfl,rfl,by decide +kernel,rfl,by decide +kernel,by decide +kernel⟩
theorem Z9:zb "check_bottom" s_check_bottom ["bottom"]:=λ_ _ _ _ _ _ us hl=>match us,hl with | [_],_=>rfl
abbrev s_common_divisor:Stmt:=top 19
theorem Wh:FnScope ["one","other"] ["one","other"] (wu s_common_divisor):=⟨rfl,rfl,rfl,by decide +kernel,rfl,by decide +kernel,by decide +kernel⟩
theorem Wq:zb "common_divisor" s_common_divisor ["one","other"]:=λ_ _ _ _ _ _ us hl=>match us,hl with | [_,_],_=>rfl
abbrev s_lowest:Stmt:=top 20
theorem wq0:FnScope ["top","bottom","divisor"] ["top","bottom"] (wu s_lowest):=⟨rfl,rfl,rfl,by decide +kernel,rfl,by decide +kernel,by decide +kernel⟩
theorem wq7:zb "lowest" s_lowest ["top","bottom"]:=λ_ _ _ _ _ _ us hl=>match us,hl with | [_,_],_=>rfl
abbrev s_trace:Stmt:=top 24
theorem wkv:FnScope ["road","start","places","here"] ["road","start"] (wu s_trace):=⟨rfl,rfl,rfl,by decide +kernel,rfl,by decide +kernel,by decide +kernel⟩
theorem wku:zb "trace" s_trace ["road","start"]:=λ_ _ _ _ _ _ us hl=>match us,hl with | [_,_],_=>rfl
abbrev s_spot:Stmt:=top 25
theorem wy0:FnScope ["points","turn","many"] ["points","turn","many"] (wu s_spot):=⟨rfl,rfl,rfl,by decide +kernel,rfl,by decide +kernel,by decide +kernel⟩
theorem wjf:zb "spot" s_spot ["points","turn","many"]:=λ_ _ _ _ _ _ us hl=>match us,hl with | [_,_,_],_=>rfl
abbrev s_led_to:Stmt:=top 26
theorem wwm:FnScope ["place","turn","size","many","times"] ["place","turn","size","many"] (wu s_led_to):=⟨rfl,rfl,rfl,by decide +kernel,rfl,by decide +kernel,by decide +kernel⟩
theorem ww5:zb "led_to" s_led_to ["place","turn","size","many"]:=λ_ _ _ _ _ _ us hl=>match us,hl with | [_,_,_,_],_=>rfl
abbrev s_meeting:Stmt:=top 27
theorem qys:FnScope ["road","one","other","here","there","points","turn","others","other_turn","many"] ["road","one","other"] (wu s_meeting):=⟨rfl,rfl,rfl,by decide +kernel,rfl,by decide +kernel,by decide +kernel⟩
theorem qyk:zb "meeting" s_meeting ["road","one","other"]:=λ_ _ _ _ _ _ us hl=>match us,hl with | [_,_,_],_=>rfl
abbrev s_is_line:Stmt:=top 30
theorem qj9:FnScope ["heights","width"] ["heights"] (wu s_is_line):=⟨rfl,rfl,rfl,by decide +kernel,rfl,by decide +kernel,by decide +kernel⟩
theorem qub:zb "is_line" s_is_line ["heights"]:=λ_ _ _ _ _ _ us hl=>match us,hl with | [_],_=>rfl
abbrev s_Road___init__:Stmt:=x6 (top 31) 0
theorem Zk:FnScope ["self","heights"] ["self","heights"] (wu s_Road___init__):=⟨rfl,rfl,rfl,by decide +kernel,rfl,by decide +kernel,by decide +kernel⟩
theorem Zd:xt "__init__" "Road.__init__" s_Road___init__ ["self","heights"]:=λ_ _ _ _ _ _ us hl=>match us,hl with | [_,_],_=>rfl
abbrev s_Road_width:Stmt:=x6 (top 31) 1
theorem qwf:FnScope ["self"] ["self"] (wu s_Road_width):=⟨rfl,rfl,rfl,by decide +kernel,rfl,by decide +kernel,by decide +kernel⟩
theorem qwh:xt "width" "Road.width" s_Road_width ["self"]:=λ_ _ _ _ _ _ us hl=>match us,hl with | [_],_=>rfl
abbrev s_Road_corners:Stmt:=x6 (top 31) 2
theorem Z3:FnScope ["self"] ["self"] (wu s_Road_corners):=⟨rfl,rfl,rfl,by decide +kernel,rfl,by decide +kernel,by decide +kernel⟩
theorem Z8:xt "corners" "Road.corners" s_Road_corners ["self"]:=λ_ _ _ _ _ _ us hl=>match us,hl with | [_],_=>rfl
abbrev s_Road_ends:Stmt:=x6 (top 31) 3
theorem qzh:FnScope ["self","stretch"] ["self","stretch"] (wu s_Road_ends):=⟨rfl,rfl,rfl,by decide +kernel,rfl,by decide +kernel,by decide +kernel⟩
theorem qvh:xt "ends" "Road.ends" s_Road_ends ["self","stretch"]:=λ_ _ _ _ _ _ us hl=>match us,hl with | [_,_],_=>rfl
abbrev s_Road_on_road:Stmt:=x6 (top 31) 6
theorem Z5:FnScope ["self","point","top","bottom"] ["self","point"] (wu s_Road_on_road):=⟨rfl,rfl,rfl,by decide +kernel,rfl,by decide +kernel,by decide +kernel⟩
theorem Z1:xt "on_road" "Road.on_road" s_Road_on_road ["self","point"]:=λ_ _ _ _ _ _ us hl=>match us,hl with | [_,_],_=>rfl
abbrev s_Road_at:Stmt:=x6 (top 31) 7
theorem qyj:FnScope ["self","point","top","bottom","stretch","left","right","beyond"] ["self","point"] (wu s_Road_at):=⟨rfl,rfl,rfl,by decide +kernel,rfl,by decide +kernel,by decide +kernel⟩
theorem quj:xt "at" "Road.at" s_Road_at ["self","point"]:=λ_ _ _ _ _ _ us hl=>match us,hl with | [_,_],_=>rfl
abbrev s_Walker___init__:Stmt:=x6 (top 33) 0
theorem Q4:FnScope ["self","whose","point","times"] ["self","whose","point","times"] (wu s_Walker___init__):=⟨rfl,rfl,rfl,by decide +kernel,rfl,by decide +kernel,by decide +kernel⟩
theorem Qs:xt "__init__" "Walker.__init__" s_Walker___init__ ["self","whose","point","times"]:=λ_ _ _ _ _ _ us hl=>match us,hl with | [_,_,_,_],_=>rfl
abbrev s_Walker_gone:Stmt:=x6 (top 33) 1
theorem qq5:FnScope ["self","road","many","points","turn","times","place","point","led"] ["self","road","many"] (wu s_Walker_gone):=⟨rfl,rfl,rfl,by decide +kernel,rfl,by decide +kernel,by decide +kernel⟩
theorem Jm:xt "gone" "Walker.gone" s_Walker_gone ["self","road","many"]:=λ_ _ _ _ _ _ us hl=>match us,hl with | [_,_,_],_=>rfl
abbrev s_set_down:Stmt:=top 34
theorem qkh:FnScope ["whose","point"] ["whose","point"] (wu s_set_down):=⟨rfl,rfl,rfl,by decide +kernel,rfl,by decide +kernel,by decide +kernel⟩
theorem qku:zb "set_down" s_set_down ["whose","point"]:=λ_ _ _ _ _ _ us hl=>match us,hl with | [_,_],_=>rfl
abbrev s_is_name:Stmt:=top 39
theorem qyq:FnScope ["name"] ["name"] (wu s_is_name):=⟨rfl,rfl,rfl,by decide +kernel,rfl,by decide +kernel,by decide +kernel⟩
theorem qud:zb "is_name" s_is_name ["name"]:=λ_ _ _ _ _ _ us hl=>match us,hl with | [_],_=>rfl
abbrev s_check_new_name:Stmt:=top 40
theorem Wm:FnScope ["name","things"] ["name","things"] (wu s_check_new_name):=⟨rfl,rfl,rfl,by decide +kernel,rfl,by decide +kernel,by decide +kernel⟩
theorem Wd:zb "check_new_name" s_check_new_name ["name","things"]:=λ_ _ _ _ _ _ us hl=>match us,hl with | [_,_],_=>rfl
abbrev s_exchange:Stmt:=top 41
theorem qk8:FnScope ["things","changes","before","name","thing"] ["things","changes"] (wu s_exchange):=⟨rfl,rfl,rfl,by decide +kernel,rfl,by decide +kernel,by decide +kernel⟩
theorem qvt:zb "exchange" s_exchange ["things","changes"]:=λ_ _ _ _ _ _ us hl=>match us,hl with | [_,_],_=>rfl
abbrev s_House___init__:Stmt:=x6 (top 42) 0
theorem Q8:FnScope ["self"] ["self"] (wu s_House___init__):=⟨rfl,rfl,rfl,by decide +kernel,rfl,by decide +kernel,by decide +kernel⟩
theorem W2:xt "__init__" "House.__init__" s_House___init__ ["self"]:=λ_ _ _ _ _ _ us hl=>match us,hl with | [_],_=>rfl
abbrev s_House_road_called:Stmt:=x6 (top 42) 1
theorem uk:FnScope ["self","name"] ["self","name"] (wu s_House_road_called):=⟨rfl,rfl,rfl,by decide +kernel,rfl,by decide +kernel,by decide +kernel⟩
theorem ur:xt "road_called" "House.road_called" s_House_road_called ["self","name"]:=λ_ _ _ _ _ _ us hl=>match us,hl with | [_,_],_=>rfl
abbrev s_House_walker_called:Stmt:=x6 (top 42) 2
theorem ym:FnScope ["self","name"] ["self","name"] (wu s_House_walker_called):=⟨rfl,rfl,rfl,by decide +kernel,rfl,by decide +kernel,by decide +kernel⟩
theorem yt:xt "walker_called" "House.walker_called" s_House_walker_called ["self","name"]:=λ_ _ _ _ _ _ us hl=>match us,hl with | [_,_],_=>rfl
abbrev s_House_walkers_on:Stmt:=x6 (top 42) 3
theorem Qb:FnScope ["self","whose"] ["self","whose"] (wu s_House_walkers_on):=⟨rfl,rfl,rfl,by decide +kernel,rfl,by decide +kernel,by decide +kernel⟩
theorem Qj:xt "walkers_on" "House.walkers_on" s_House_walkers_on ["self","whose"]:=λ_ _ _ _ _ _ us hl=>match us,hl with | [_,_],_=>rfl
abbrev s_House_do:Stmt:=x6 (top 42) 4
theorem qv3:FnScope ["self","roads","walkers"] ["self","roads","walkers"] (wu s_House_do):=⟨rfl,rfl,rfl,by decide +kernel,rfl,by decide +kernel,by decide +kernel⟩
theorem qjw:xt "do" "House.do" s_House_do ["self","roads","walkers"]:=λ_ _ _ _ _ _ us hl=>match us,hl with | [_,_,_],_=>rfl
abbrev s_House_lay:Stmt:=x6 (top 42) 5
theorem qvg:FnScope ["self","name","heights"] ["self","name","heights"] (wu s_House_lay):=⟨rfl,rfl,rfl,by decide +kernel,rfl,by decide +kernel,by decide +kernel⟩
theorem qzd:xt "lay" "House.lay" s_House_lay ["self","name","heights"]:=λ_ _ _ _ _ _ us hl=>match us,hl with | [_,_,_],_=>rfl
abbrev s_House_bend:Stmt:=x6 (top 42) 6
theorem qwm:FnScope ["self","name","corner","height","heights"] ["self","name","corner","height"] (wu s_House_bend):=⟨rfl,rfl,rfl,by decide +kernel,rfl,by decide +kernel,by decide +kernel⟩
theorem qww:xt "bend" "House.bend" s_House_bend ["self","name","corner","height"]:=λ_ _ _ _ _ _ us hl=>match us,hl with | [_,_,_,_],_=>rfl
abbrev s_House_widen:Stmt:=x6 (top 42) 7
theorem qq2:FnScope ["self","name","height","heights"] ["self","name","height"] (wu s_House_widen):=⟨rfl,rfl,rfl,by decide +kernel,rfl,by decide +kernel,by decide +kernel⟩
theorem Jb:xt "widen" "House.widen" s_House_widen ["self","name","height"]:=λ_ _ _ _ _ _ us hl=>match us,hl with | [_,_,_],_=>rfl
abbrev s_House_place:Stmt:=x6 (top 42) 10
theorem Y0:FnScope ["self","name","whose","point","road","here"] ["self","name","whose","point"] (wu s_House_place):=⟨rfl,rfl,rfl,by decide +kernel,rfl,by decide +kernel,by decide +kernel⟩
theorem qq0:xt "place" "House.place" s_House_place ["self","name","whose","point"]:=λ_ _ _ _ _ _ us hl=>match us,hl with | [_,_,_,_],_=>rfl
abbrev s_House_leave:Stmt:=x6 (top 42) 11
theorem Jv:FnScope ["self","name"] ["self","name"] (wu s_House_leave):=⟨rfl,rfl,rfl,by decide +kernel,rfl,by decide +kernel,by decide +kernel⟩
theorem Jp:xt "leave" "House.leave" s_House_leave ["self","name"]:=λ_ _ _ _ _ _ us hl=>match us,hl with | [_,_],_=>rfl
abbrev s_House_go:Stmt:=x6 (top 42) 12
theorem qkr:FnScope ["self","name","many","walker","gone"] ["self","name","many"] (wu s_House_go):=⟨rfl,rfl,rfl,by decide +kernel,rfl,by decide +kernel,by decide +kernel⟩
theorem qjx:xt "go" "House.go" s_House_go ["self","name","many"]:=λ_ _ _ _ _ _ us hl=>match us,hl with | [_,_,_],_=>rfl
abbrev s_House_together:Stmt:=x6 (top 42) 13
theorem Wz:FnScope ["self","whose","many","road","gone"] ["self","whose","many"] (wu s_House_together):=⟨rfl,rfl,rfl,by decide +kernel,rfl,by decide +kernel,by decide +kernel⟩
theorem Wf:xt "together" "House.together" s_House_together ["self","whose","many"]:=λ_ _ _ _ _ _ us hl=>match us,hl with | [_,_,_],_=>rfl
abbrev s_House_take_back:Stmt:=x6 (top 42) 14
theorem Qp:FnScope ["self","roads","walkers"] ["self"] (wu s_House_take_back):=⟨rfl,rfl,rfl,by decide +kernel,rfl,by decide +kernel,by decide +kernel⟩
theorem Qr:xt "take_back" "House.take_back" s_House_take_back ["self"]:=λ_ _ _ _ _ _ us hl=>match us,hl with | [_],_=>rfl
abbrev s_House_deeds:Stmt:=x6 (top 42) 16
theorem Yn:FnScope ["self"] ["self"] (wu s_House_deeds):=⟨rfl,rfl,rfl,by decide +kernel,rfl,by decide +kernel,by decide +kernel⟩
theorem qqw:xt "deeds" "House.deeds" s_House_deeds ["self"]:=λ_ _ _ _ _ _ us hl=>match us,hl with | [_],_=>rfl
abbrev s_House_names:Stmt:=x6 (top 42) 17
theorem Jn:FnScope ["self"] ["self"] (wu s_House_names):=⟨rfl,rfl,rfl,by decide +kernel,rfl,by decide +kernel,by decide +kernel⟩
theorem Jt:xt "names" "House.names" s_House_names ["self"]:=λ_ _ _ _ _ _ us hl=>match us,hl with | [_],_=>rfl
abbrev s_House_corners_of:Stmt:=x6 (top 42) 18
theorem Qk:FnScope ["self","name"] ["self","name"] (wu s_House_corners_of):=⟨rfl,rfl,rfl,by decide +kernel,rfl,by decide +kernel,by decide +kernel⟩
theorem Qu:xt "corners_of" "House.corners_of" s_House_corners_of ["self","name"]:=λ_ _ _ _ _ _ us hl=>match us,hl with | [_,_],_=>rfl
abbrev s_House_where:Stmt:=x6 (top 42) 19
theorem qqf:FnScope ["self","name","walker"] ["self","name"] (wu s_House_where):=⟨rfl,rfl,rfl,by decide +kernel,rfl,by decide +kernel,by decide +kernel⟩
theorem Ju:xt "where" "House.where" s_House_where ["self","name"]:=λ_ _ _ _ _ _ us hl=>match us,hl with | [_,_],_=>rfl
abbrev s_House_stood:Stmt:=x6 (top 42) 20
theorem Yt:FnScope ["self","name","point","walker"] ["self","name","point"] (wu s_House_stood):=⟨rfl,rfl,rfl,by decide +kernel,rfl,by decide +kernel,by decide +kernel⟩
theorem qqj:xt "stood" "House.stood" s_House_stood ["self","name","point"]:=λ_ _ _ _ _ _ us hl=>match us,hl with | [_,_,_],_=>rfl
abbrev s_House_meet:Stmt:=x6 (top 42) 21
theorem qwk:FnScope ["self","one","other","here","there"] ["self","one","other"] (wu s_House_meet):=⟨rfl,rfl,rfl,by decide +kernel,rfl,by decide +kernel,by decide +kernel⟩
theorem qwp:xt "meet" "House.meet" s_House_meet ["self","one","other"]:=λ_ _ _ _ _ _ us hl=>match us,hl with | [_,_,_],_=>rfl
abbrev s__law_cell:Stmt:=top 44
theorem qvw:FnScope ["_law_script","_law_at"] ["_law_script","_law_at"] (wu s__law_cell):=⟨rfl,rfl,rfl,by decide +kernel,rfl,by decide +kernel,by decide +kernel⟩
theorem qzf:zb "_law_cell" s__law_cell ["_law_script","_law_at"]:=λ_ _ _ _ _ _ us hl=>match us,hl with | [_,_],_=>rfl
abbrev s__law_pick:Stmt:=top 45
theorem qxp:FnScope ["_law_script","_law_at","_law_turn","_law_many","_law_cell_here","_law_left","_law_k","_law_low_here","_law_one","_law_two"] ["_law_script","_law_at","_law_turn","_law_many"] (wu s__law_pick):=⟨rfl,rfl,rfl,by decide +kernel,rfl,by decide +kernel,by decide +kernel⟩
theorem qzn:zb "_law_pick" s__law_pick ["_law_script","_law_at","_law_turn","_law_many"]:=λ_ _ _ _ _ _ us hl=>match us,hl with | [_,_,_,_],_=>rfl
abbrev s__law_climb:Stmt:=top 46
theorem qwb:FnScope ["_law_script","_law_at","_law_wide","_law_row","_law_k"] ["_law_script","_law_at","_law_wide"] (wu s__law_climb):=⟨rfl,rfl,rfl,by decide +kernel,rfl,by decide +kernel,by decide +kernel⟩
theorem qq9:zb "_law_climb" s__law_climb ["_law_script","_law_at","_law_wide"]:=λ_ _ _ _ _ _ us hl=>match us,hl with | [_,_,_],_=>rfl
abbrev s__law_heights:Stmt:=top 47
theorem Z6:FnScope ["_law_script","_law_at","_law_most","_law_wide","_law_kind"] ["_law_script","_law_at","_law_most"] (wu s__law_heights):=⟨rfl,rfl,rfl,by decide +kernel,rfl,by decide +kernel,by decide +kernel⟩
theorem Z7:zb "_law_heights" s__law_heights ["_law_script","_law_at","_law_most"]:=λ_ _ _ _ _ _ us hl=>match us,hl with | [_,_,_],_=>rfl
abbrev s__law_whole:Stmt:=top 48
theorem qwc:FnScope ["_law_found"] ["_law_found"] (wu s__law_whole):=⟨rfl,rfl,rfl,by decide +kernel,rfl,by decide +kernel,by decide +kernel⟩
theorem qwj:zb "_law_whole" s__law_whole ["_law_found"]:=λ_ _ _ _ _ _ us hl=>match us,hl with | [_],_=>rfl
abbrev s__law_common:Stmt:=top 49
theorem Jq:FnScope ["_law_one","_law_other"] ["_law_one","_law_other"] (wu s__law_common):=⟨rfl,rfl,rfl,by decide +kernel,rfl,by decide +kernel,by decide +kernel⟩
theorem J9:zb "_law_common" s__law_common ["_law_one","_law_other"]:=λ_ _ _ _ _ _ us hl=>match us,hl with | [_,_],_=>rfl
abbrev s__law_low:Stmt:=top 50
theorem qkx:FnScope ["_law_top","_law_bottom","_law_by"] ["_law_top","_law_bottom"] (wu s__law_low):=⟨rfl,rfl,rfl,by decide +kernel,rfl,by decide +kernel,by decide +kernel⟩
theorem qv7:zb "_law_low" s__law_low ["_law_top","_law_bottom"]:=λ_ _ _ _ _ _ us hl=>match us,hl with | [_,_],_=>rfl
abbrev s__law_spot:Stmt:=top 51
theorem qx2:FnScope ["_law_script","_law_at","_law_wide","_law_most","_law_bottom","_law_top","_law_by"] ["_law_script","_law_at","_law_wide","_law_most"] (wu s__law_spot):=⟨rfl,rfl,rfl,by decide +kernel,rfl,by decide +kernel,by decide +kernel⟩
theorem qzb:zb "_law_spot" s__law_spot ["_law_script","_law_at","_law_wide","_law_most"]:=λ_ _ _ _ _ _ us hl=>match us,hl with | [_,_,_,_],_=>rfl
abbrev s__law_step:Stmt:=top 52
theorem qzj:FnScope ["_law_heights_here","_law_top","_law_bottom","_law_k"] ["_law_heights_here","_law_top","_law_bottom"] (wu s__law_step):=⟨rfl,rfl,rfl,by decide +kernel,rfl,by decide +kernel,by decide +kernel⟩
theorem qvz:zb "_law_step" s__law_step ["_law_heights_here","_law_top","_law_bottom"]:=λ_ _ _ _ _ _ us hl=>match us,hl with | [_,_,_],_=>rfl
abbrev s__law_book:Stmt:=top 53
theorem qvu:FnScope ["_law_heights_here","_law_point","_law_spot_here","_law_book_here","_law_name","_law_road"] ["_law_heights_here","_law_point"] (wu s__law_book):=⟨rfl,rfl,rfl,by decide +kernel,rfl,by decide +kernel,by decide +kernel⟩
theorem qxn:zb "_law_book" s__law_book ["_law_heights_here","_law_point"]:=λ_ _ _ _ _ _ us hl=>match us,hl with | [_,_],_=>rfl
abbrev s__law_walked:Stmt:=top 54
theorem qqq:FnScope ["_law_book_here","_law_name","_law_many","_law_target","_law_road","_law_spot_here","_law_count","_law_turn"] ["_law_book_here","_law_name","_law_many","_law_target"] (wu s__law_walked):=⟨rfl,rfl,rfl,by decide +kernel,rfl,by decide +kernel,by decide +kernel⟩
theorem Jz:zb "_law_walked" s__law_walked ["_law_book_here","_law_name","_law_many","_law_target"]:=λ_ _ _ _ _ _ us hl=>match us,hl with | [_,_,_,_],_=>rfl
abbrev s__law_met:Stmt:=top 55
theorem qkz:FnScope ["_law_heights_here","_law_one","_law_other","_law_turn"] ["_law_heights_here","_law_one","_law_other"] (wu s__law_met):=⟨rfl,rfl,rfl,by decide +kernel,rfl,by decide +kernel,by decide +kernel⟩
theorem qjn:zb "_law_met" s__law_met ["_law_heights_here","_law_one","_law_other"]:=λ_ _ _ _ _ _ us hl=>match us,hl with | [_,_,_],_=>rfl
abbrev s__law_deed:Stmt:=top 56
theorem qx8:FnScope ["_law_house","_law_book_here","_law_script","_law_at","_law_point","_law_way","_law_road","_law_name","_law_many","_law_target","_law_made","_law_heights_here","_law_corner","_law_height","_law_one"] ["_law_house","_law_book_here","_law_script","_law_at","_law_point"] (wu s__law_deed):=⟨rfl,rfl,rfl,by decide +kernel,rfl,by decide +kernel,by decide +kernel⟩
theorem qxt:zb "_law_deed" s__law_deed ["_law_house","_law_book_here","_law_script","_law_at","_law_point"]:=λ_ _ _ _ _ _ us hl=>match us,hl with | [_,_,_,_,_],_=>rfl
abbrev s__law_walker_is:Stmt:=top 57
theorem Ww:FnScope ["_law_house","_law_book_here","_law_name","_law_point","_law_where","_law_count"] ["_law_house","_law_book_here","_law_name","_law_point"] (wu s__law_walker_is):=⟨rfl,rfl,rfl,by decide +kernel,rfl,by decide +kernel,by decide +kernel⟩
theorem Wv:zb "_law_walker_is" s__law_walker_is ["_law_house","_law_book_here","_law_name","_law_point"]:=λ_ _ _ _ _ _ us hl=>match us,hl with | [_,_,_,_],_=>rfl
abbrev s__law_is:Stmt:=top 58
theorem qj1:FnScope ["_law_house","_law_book_here","_law_point","_law_deeds","_law_walkers","_law_name","_law_other","_law_due"] ["_law_house","_law_book_here","_law_point","_law_deeds"] (wu s__law_is):=⟨rfl,rfl,rfl,by decide +kernel,rfl,by decide +kernel,by decide +kernel⟩
theorem quv:zb "_law_is" s__law_is ["_law_house","_law_book_here","_law_point","_law_deeds"]:=λ_ _ _ _ _ _ us hl=>match us,hl with | [_,_,_,_],_=>rfl
abbrev s_law:Stmt:=top 59
theorem wvx:FnScope ["_law_script","_law_heights_here","_law_point","_law_shared","_law_house","_law_name","_law_road","_law_books","_law_at"] ["_law_script"] (wu s_law):=⟨rfl,rfl,rfl,by decide +kernel,rfl,by decide +kernel,by decide +kernel⟩
local macro_rules | `(tactic| walk_at "sq")=>`(tactic| first | assumption | exact SqT.new | exact SqL.new | ((with_reducible refine Same.sqt (Same.upd (by assumption)) ?_);walk_at "sq") | ((with_reducible refine Same.sql (Same.upd (by assumption)) ?_);walk_at "sq"))
local macro_rules | `(tactic| walk_at "at")=>`(tactic| first | rfl | exact Yh (by lia) (by lia))
local macro_rules | `(tactic| walk_at "mul")=>`(tactic| first | assumption | exact IntMulOk.of_left (intBits_le_64 (by lia) (by lia)) | exact IntMulOk.of_right (intBits_le_64 (by lia) (by lia)) | exact Sm.ok (by assumption) (by assumption) (by decide))
local macro_rules | `(tactic| walk_at "pos")=>`(tactic| first | lia | decide +kernel)
local macro_rules | `(tactic| walk_at "div")=>`(tactic| exact ⟨by first | lia | decide +kernel,by unfold Sm;decide +kernel⟩)
local macro_rules | `(tactic| walk_at "loc")=>`(tactic| first | exact Or.inl rfl | exact Or.inr rfl)
local macro_rules | `(tactic| walk_at "cap")=>`(tactic| repeat (first | exact trivial | refine ⟨rfl,?_⟩))
local macro_rules | `(tactic| walk_at "has")=>`(tactic| repeat (first | exact trivial | (refine ⟨λz=>?_,by decide,?_⟩;(first | exact ⟨_,rfl⟩ | cases z))))
local macro_rules | `(tactic| walk_at "cix")=>`(tactic| repeat (first | exact trivial | refine ⟨⟨_,_,rfl,rfl,rfl,rfl⟩,?_⟩))
local macro_rules | `(tactic| walk_at "hasK")=>`(tactic| repeat (first | exact trivial | (refine ⟨λz=>?_,λz=>?_,?_⟩;(first | exact ⟨_,rfl⟩ | cases z);(first | rfl | cases z))))
structure Txt (K:Aa)(mg:Str→Option Ag)(qd:Aj)(qm:Aj)(qx:Aj)(qp:Aj)(qf:Aj)(wz:Aj)(wv:Aj)(qr:Aj)(wy:Aj)(q8:Aj)(qj:Aj)(wb:Aj)(qz:Aj)(qu:Aj)(qw:Aj)(qq:Aj):Prop where
 tuple_:mg "tuple" = none
 len_:mg "len" = none
 abs_:mg "abs" = none
 range_:mg "range" = none
 list_:mg "list" = none
 min_:mg "min" = none
 max_:mg "max" = none
 all_:mg "all" = none
 any_:mg "any" = none
 sorted_:mg "sorted" = none
 enumerate_:mg "enumerate" = none
 dict_:mg "dict" = none
 isinstance_:mg "isinstance" = none
 int_:mg "int" = none
 bool_:mg "bool" = none
 g_RoadError:mg "RoadError" = some (.ref qd)
 x_RoadError:ExcC K qd
 g_BadLine:mg "BadLine" = some (.ref qm)
 x_BadLine:ExcC K qm
 g_BadBottom:mg "BadBottom" = some (.ref qx)
 x_BadBottom:ExcC K qx
 g_OffRoad:mg "OffRoad" = some (.ref qp)
 x_OffRoad:ExcC K qp
 g_BadCount:mg "BadCount" = some (.ref qf)
 x_BadCount:ExcC K qf
 g_TooLong:mg "TooLong" = some (.ref wz)
 x_TooLong:ExcC K wz
 g_BadRow:mg "BadRow" = some (.ref wv)
 x_BadRow:ExcC K wv
 g_BadName:mg "BadName" = some (.ref qr)
 x_BadName:ExcC K qr
 g_Taken:mg "Taken" = some (.ref wy)
 x_Taken:ExcC K wy
 g_NoRoad:mg "NoRoad" = some (.ref q8)
 x_NoRoad:ExcC K q8
 g_NoWalker:mg "NoWalker" = some (.ref qj)
 x_NoWalker:ExcC K qj
 g_Apart:mg "Apart" = some (.ref wb)
 x_Apart:ExcC K wb
 g_NothingDone:mg "NothingDone" = some (.ref qz)
 x_NothingDone:ExcC K qz
 cl:Cls K qu
 na:NoAttr K qu "heights"
 g_WIDEST:∃t,mg "WIDEST" = some (.int 24 t)
 g_Road:mg "Road" = some (.ref qu)
 clW:Cls K qw
 clH:Cls K qq
 naWw:NoAttr K qw "whose"
 naWp:NoAttr K qw "point"
 naWt:NoAttr K qw "times"
 naHr:NoAttr K qq "roads"
 naHw:NoAttr K qq "walkers"
 naHd:NoAttr K qq "done"
 g_Walker:mg "Walker" = some (.ref qw)
 g_House:mg "House" = some (.ref qq)
 g_LONGEST_TRACE:∃t,mg "LONGEST_TRACE" = some (.int 1000 t)
 g_FARTHEST:∃t,mg "FARTHEST" = some (.int 1000000000000000000000000000000000000000000000000000000000000 t)
 g_LONGEST_NAME:∃t,mg "LONGEST_NAME" = some (.int 12 t)
 g_GREATEST_BOTTOM:∃t,mg "GREATEST_BOTTOM" = some (.int 40 t)
 g_LETTERS:∃t,mg "LETTERS" = some (.str "abcdefghijklmnopqrstuvwxyz" t)
section
variable {P:Ac}{w:Ah}{K:Aa}{mg:Str→Option Ag}{base:Heap}{qd:Aj}{qm:Aj}{qx:Aj}{qp:Aj}{qf:Aj}{wz:Aj}{wv:Aj}{qr:Aj}{wy:Aj}{q8:Aj}{qj:Aj}{wb:Aj}{qz:Aj}{qu:Aj}{qw:Aj}{qq:Aj}
def qvn (C:Aj):Sp:=λvs H Q E=>∃b:Int,vs=[.int b]∧(1≤b→Q .non H)∧(b<1→E (.ref C) none H)
theorem wzh {f:Aj}{fd:Ad}(F:Fun K "check_bottom" "check_bottom" s_check_bottom f fd)(T:Txt K mg qd qm qx qp qf wz wv qr wy q8 qj wb qz qu qw qq):FnOk P w K mg base (CXE P w) 1 f fd ["bottom"] (qvn qx):=by
 have sc:=Zt
 refine F.okX sc (λvs H Q E h=>by obtain ⟨b,rfl,_⟩:=h;rfl) (λcdv A outer s H vs Q E hr h=>?_)
 obtain ⟨b,rfl,h1,h2⟩:=h
 refine ⟨_,(wq (x4 (wn uh (pv 0) wx (w9 _)) (wq (zt rfl T.x_BadBottom zu rfl T.g_BadBottom (xx xf qk))) xy)),?_⟩
 refine exI rfl (wt rfl rfl (exI rfl ?_))
 refine k6 (λq1=>?_) (λq1=>?_)
 ·exact ⟨by decide,h2 q1⟩
 ·exact h1 (by lia)
theorem wjj {f:Aj}{fd:Ad}(F:Fun K "_law_cell" "_law_cell" s__law_cell f fd)(T:Txt K mg qd qm qx qp qf wz wv qr wy q8 qj wb qz qu qw qq):FnOk P w K mg base (CXE P w) 1 f fd ["_law_script","_law_at"] (qj4 K):=by
 have sc:=qvw
 refine F.okX sc (λvs H Q E h=>by obtain ⟨a,ns,i,rfl,_⟩:=h;rfl) (λcdv A outer s H vs Q E hr h=>?_)
 obtain ⟨a,ns,i,rfl,hS,h0,k⟩:=h
 have hlen:(ns.map V.int).length=ns.length:=ae _
 refine ⟨_,(qb (x4 (wn uh (pv 1) (xq xb rfl T.len_ aM (q9 (pv 0) qk)) (w9 _)) (wq (wp (zq vk (pv 0) (pv 1) (λ_ _=>rfl)))) xy)
   (qb (x4 (wn ku (xq xb rfl T.len_ aM (q9 (pv 0) qk)) wx (w9 _)) (wq (wp (wm xm (wm zk wx (pv 1)) wx))) xy)
   (wq (wp (wm xm (zq vk (pv 0) (wm jq (pv 1) (xq xb rfl T.len_ aM (q9 (pv 0) qk))) (λ_ _=>rfl)) (wm zk wx (pv 1))))))),?_⟩
 refine exI rfl (exI rfl ⟨_,_,rfl,.inl hS,wt rfl rfl (exI rfl ?_)⟩)
 refine k6 (λq1=>?_) (λq1=>?_)
 ·rw [hlen] at q1
  refine exI rfl (exI rfl (exX rfl rfl hS (Yh h0 q1) ?_))
  exact k _ (by rw [qv2,aj q1])
 ·rw [hlen] at q1
  refine exI rfl ⟨_,_,rfl,.inl hS,rfl,_,rfl,?_⟩
  rw [hlen]
  refine jz (λq2=>?_) (λq2=>?_)
  ·refine exI rfl (wt rfl rfl ⟨(by walk_at "mul"),wt rfl rfl ?_⟩)
   exact k _ (by rw [qv2,af q1,aj q2])
  ·refine exI rfl (exI rfl (exI rfl ⟨_,_,rfl,.inl hS,wt rfl rfl ⟨(by rw [hlen];lia),?_⟩⟩))
   rw [hlen]
   refine exX rfl rfl hS (Yh (bE _ q2) (bj _ (by lia))) (exI rfl (wt rfl rfl ⟨(by walk_at "mul"),wt rfl rfl ?_⟩))
   exact k _ (by rw [qv2,af q1,af q2])
theorem wjv {f:Aj}{fd:Ad}(F:Fun K "_law_pick" "_law_pick" s__law_pick f fd)(T:Txt K mg qd qm qx qp qf wz wv qr wy q8 qj wb qz qu qw qq)(c__law_cell:Cal P w K mg base "_law_cell" 1 (qj4 K)):FnOk P w K mg base (CXE P w) 2 f fd ["_law_script","_law_at","_law_turn","_law_many"] (y0 K):=by
 have sc:=qxp
 refine F.okX sc (λvs H Q E h=>by obtain ⟨a,ns,i,t,m,rfl,_⟩:=h;rfl) (λcdv A outer s H vs Q E hr h=>?_)
 obtain ⟨a,ns,i,t,m,rfl,hS,h0,t0,t1,m0,k⟩:=h
 refine ⟨_,(qb (w6 (i:=4) sc.nd rfl (by walk_at "loc") (wf c__law_cell (hr.mono (by decide)) rfl qy (q9 (pv 0) (q9 (pv 1) qk))))
   (qb (x4 (wn wqx (xq Q9 rfl T.abs_ Wj (q9 (pv 4) qk)) (wm op_pow wx wx) (w9 _)) (qb (w6 (i:=5) sc.nd rfl (by walk_at "loc") (xq Q9 rfl T.abs_ Wj (q9 (pv 4) qk)))
   (qb (jj aP rfl (vz rfl T.range_ (q9 (pv 2) qk)) (xu (i:=6) sc.nd rfl (by walk_at "loc")) (wq (w6 (i:=5) sc.nd rfl (by walk_at "loc") (wm jb (pv 5) wx))))
   (qb (x4 (wn uh (pv 4) wx (w9 _)) (wq (w6 (i:=5) sc.nd rfl (by walk_at "loc") (wm jq (pv 5) wx))) xy)
   (wq (wp (wm jq (pv 5) (pv 3))))))) xy)
   (qb (w6 (i:=7) sc.nd rfl (by walk_at "loc") (wm jq (pv 4) wx))
   (qb (w6 (i:=8) sc.nd rfl (by walk_at "loc") (wm jq (wm xm (wm xm (wm zk (pv 7) wx) (wm zk (pv 2) wx)) wx) wx))
   (qb (w6 (i:=9) sc.nd rfl (by walk_at "loc") (wm jq (wm xm (wm xm (wm zk (pv 8) (pv 8)) (wm zk (pv 7) wx)) (wm zk (pv 2) wx)) wx))
   (wq (wp (wm jq (wm jq (wm xm (wm xm (wm zk (pv 9) (pv 9)) (wm zk (pv 8) wx)) (wm zk (pv 2) wx)) wx) (pv 3))))))))),?_⟩
 refine exI rfl (exI rfl ?_)
 refine ⟨a,ns,i,rfl,hS,h0,λc hc=>?_⟩
 have fin:∀v,v=qv6 c t%m→Q (.int v) H:=λv hv=>by
  refine k v (by rw [hv,qk5,hc]) ?_ ?_
  ·rw [hv];exact bE _ (by lia)
  ·rw [hv];exact bj _ m0
 refine exI rfl (exI rfl (wt rfl rfl ⟨⟨by decide,by decide,by decide⟩,wt rfl rfl (exI rfl ?_)⟩))
 refine k6 (λq1=>?_) (λq1=>?_)
 ·have q1':10 ^ 18≤y9 c:=q1
  refine exI rfl (exI rfl ?_)
  refine exI rfl ⟨t,rfl,(by lia),(by lia),jn (λj σ H1=>H1=H∧∃z,σ=[some (.ref a),some (.int i),some (.int t),some (.int m),some (.int c),some (.int (divs (y9 c) j)),z,none,none,none]) ⟨rfl,_,rfl⟩ ?_ ?_⟩
  ·rintro j σ H1 hj ⟨rfl,z,rfl⟩
   exact exI rfl (wt rfl rfl ⟨(by walk_at "div"),rfl,_,rfl⟩)
  ·rintro σ H1 ⟨rfl,z,rfl⟩
   refine exI rfl (wt rfl rfl (exI rfl ?_))
   refine k6 (λq2=>?_) (λq2=>?_)
   ·refine exI rfl (wt rfl rfl ⟨(by walk_at "pos"),exI rfl (exI rfl (wt rfl rfl ⟨(by walk_at "pos"),?_⟩))⟩)
    exact fin _ (by rw [wxx q1' q2])
   ·refine exI rfl (exI rfl (wt rfl rfl ⟨(by walk_at "pos"),?_⟩))
    exact fin _ (by rw [wq8 q1' q2])
 ·have q1':¬ 10 ^ 18≤y9 c:=q1
  have l0:=bE c (show (1000003:Int)≠0 by decide)
  have l1:=bj c (show (0:Int)<1000003 by decide)
  refine exI rfl (wt rfl rfl ⟨(by walk_at "pos"),exI rfl (wt rfl rfl ⟨(by walk_at "mul"),exI rfl (wt rfl rfl ⟨(by walk_at "mul"),wt rfl rfl (wt rfl rfl (wt rfl rfl ⟨(by walk_at "pos"),?_⟩))⟩)⟩)⟩)
  have o0:0≤qvy c t:=bE _ (by decide)
  have o1:qvy c t<999983:=bj _ (by decide)
  refine ⟨V.int (qvy c t),rfl,V.int (qvy c t),rfl,wt rfl rfl ⟨(by walk_at "mul"),exI rfl (wt rfl rfl ⟨(by walk_at "mul"),wt rfl rfl (exI rfl (wt rfl rfl ⟨(by walk_at "mul"),wt rfl rfl (wt rfl rfl ⟨(by walk_at "pos"),?_⟩)⟩))⟩)⟩⟩
  have w0:0≤qjk c t:=bE _ (by decide)
  have w1:qjk c t<1000033:=bj _ (by decide)
  refine ⟨V.int (qjk c t),rfl,V.int (qjk c t),rfl,wt rfl rfl ⟨(by walk_at "mul"),V.int (qvy c t),rfl,wt rfl rfl ⟨(by walk_at "mul"),wt rfl rfl (exI rfl (wt rfl rfl ⟨(by walk_at "mul"),wt rfl rfl (wt rfl rfl ⟨(by walk_at "pos"),exI rfl (wt rfl rfl ⟨(by walk_at "pos"),?_⟩)⟩)⟩))⟩⟩⟩
  exact fin _ (by rw [wx1 q1'])
def Within (n f:Int)(m:Option Int):Prop:=f≤n∧∀b,m=some b→n≤b
def Yz (C:Aj):Sp:=λvs H Q E=>∃(n f:Int) (m:V) (o:Option Int),vs=[.int n,.int f,m]∧(m=.non∧o=none∨∃b,m=.int b∧o=some b)∧(Within n f o→Q .non H)∧(¬ Within n f o→E (.ref C) none H)
theorem wkg {f:Aj}{fd:Ad}(F:FunD K "check_count" s_check_count f fd)(T:Txt K mg qd qm qx qp qf wz wv qr wy q8 qj wb qz qu qw qq):FnOk P w K mg base (CXE P w) 1 f fd ["number","fewest","most"] (Yz qf):=by
 have sc:=Ys
 refine F.okX sc (λvs H Q E h=>by obtain ⟨n,f,m,o,rfl,_⟩:=h;rfl) (λcdv A outer s H vs Q E hr h=>?_)
 obtain ⟨n,fe,m,o,rfl,hm,k,x⟩:=h
 refine ⟨_,(wq (x4 (PW.pt (Qc (wn uh (pv 0) (pv 1) (w9 _)) (yq (PW.pt (qyy (wn wk7 (pv 2) qqh (w9 _)) (qzm (wn Qh (pv 0) (pv 2) (w9 _)))))))) (wq (zt rfl T.x_BadCount zu rfl T.g_BadCount (xx xf qk))) xy)),?_⟩
 refine exI rfl (exI rfl (wt rfl rfl (exI rfl ?_)))
 refine k6 (λq1=>?_) (λq1=>?_)
 ·refine j8 ?_
  exact ⟨sz1,x (λz=>by have:=z.1;lia)⟩
 ·rcases hm with ⟨rfl,rfl⟩|⟨b,rfl,rfl⟩
  ·refine exI rfl ⟨rfl,_,rfl,?_⟩
   refine Qy ?_
   exact k ⟨by lia,λb e=>nomatch e⟩
  ·refine exI rfl ⟨rfl,_,rfl,?_⟩
   refine j8 ?_
   refine exI rfl (exI rfl (wt rfl rfl (exI rfl ?_)))
   refine k6 (λq2=>?_) (λq2=>?_)
   ·exact ⟨sz1,x (λz=>by have:=z.2 b rfl;lia)⟩
   ·exact k ⟨by lia,λb' e=>by cases e;lia⟩
def xj (ns:List Int):Prop:=2≤ns.length∧ns.length≤25∧∀h∈ns,0≤h∧h≤(ns.length:Int)-1
def qqm (K:Aa):Sp:=λvs H Q _=>∃(p:Aj) (ns:List Int),vs=[.ref p]∧SqL K H p (ns.map V.int)∧(xj ns→Q (.bl true) H)∧(¬ xj ns→Q (.bl false) H)
theorem qyp {f:Aj}{fd:Ad}(F:Fun K "is_line" "is_line" s_is_line f fd)(T:Txt K mg qd qm qx qp qf wz wv qr wy q8 qj wb qz qu qw qq):FnOk P w K mg base (CXE P w) 1 f fd ["heights"] (qqm K):=by
 have sc:=qj9
 refine F.okX sc (λvs H Q E h=>by obtain ⟨p,ns,rfl,_⟩:=h;rfl) (λcdv A outer s H vs Q E hr h=>?_)
 obtain ⟨p,ns,rfl,hS,k1,k2⟩:=h
 have hlen:(ns.map V.int).length=ns.length:=ae _
 obtain ⟨tw,g_WIDEST⟩:=T.g_WIDEST
 refine ⟨_,(qb (w6 (i:=1) sc.nd rfl (by walk_at "loc") (wm kh (xq xb rfl T.len_ aM (q9 (pv 0) qk)) wx))
   (qb (x4 (PW.pt (Qc (wn uh (pv 1) wx (w9 _)) (yq (wn Qh (pv 1) (yn (v:=V.int 24) rfl g_WIDEST ⟨_,rfl⟩) (w9 _))))) (wq (wp W7)) xy)
   (wq (wp (qvk (Qv wqx (xq (qq7 rfl) rfl T.min_ dE (q9 (pv 0) qk)) wx (w9 _)) (qz4 (Qv op_le (xq (qwn rfl) rfl T.max_ dF (q9 (pv 0) qk)) (pv 1) (w9 _)))))))),?_⟩
 refine exI rfl ⟨_,_,rfl,.inl hS,wt rfl rfl ?_⟩
 refine exI rfl (wt rfl rfl (exI rfl ?_))
 rw [hlen]
 refine k6 (λq1=>?_) (λq1=>?_)
 ·refine j8 ?_
  exact k2 (λz=>by have:=z.1;lia)
 ·refine exI rfl (wt rfl rfl (exI rfl ?_))
  refine k6 (λq2=>?_) (λq2=>?_)
  ·exact k2 (λz=>by have:=z.2.1;lia)
  ·refine exI rfl ⟨p,ns,rfl,hS,(by lia),λm hm hle=>(wt rfl rfl (exI rfl ?_))⟩
   refine k6 (λq3=>?_) (λq3=>?_)
   ·refine exI rfl ⟨p,ns,rfl,hS,(by lia),λm2 hm2 hle2=>(exI rfl (wt rfl rfl ?_))⟩
    show Q (.bl (decide (m2≤(ns.length:Int)-1))) H
    by_cases q4:m2≤(ns.length:Int)-1
    ·rw [bn q4]
     exact k1 ⟨by lia,by lia,λh hh=>by have:=hle h hh;have:=hle2 h hh;lia⟩
    ·rw [bh q4]
     exact k2 (λz=>q4 (z.2.2 m2 hm2).2)
   ·exact k2 (λz=>q3 (z.2.2 m hm).1)
def RoadAt (C:Aj)(H:Hp)(r:Aj)(ns:List Int):Prop:=∃dx q,H r=some (.ins C dx [("heights",.ref q)])∧H q=some (.lst (ns.map V.int))
theorem RoadAt.same {C:Aj}{H H':Hp}{r:Aj}{ns:List Int}(h:RoadAt C H r ns)(s:Same H H'):RoadAt C H' r ns:=by
 obtain ⟨dx,q,h1,h2⟩:=h
 exact ⟨dx,q,s _ _ h1,s _ _ h2⟩
theorem jh {q:Aj}:([("heights",V.ref q)]:List (Str×V)).lookup ("heights" : Str)=some (.ref q):=by
 rw [aC]
 simp
theorem zg {q:Aj}{m:Str}(h:¬ m = "heights"):([("heights",V.ref q)]:List (Str×V)).lookup m=none:=by
 rw [aC]
 have:(m==("heights" : Str))=false:=aI.mpr h
 rw [this]
 rfl
def Zv (K:Aa)(CB C:Aj):Sp:=λvs H Q E=>∃(r dx p:Aj) (ns:List Int),vs=[.ref r,.ref p]∧H r=some (.ins C dx [])∧SqL K H p (ns.map V.int) ∧
 (xj ns→∀H' q,H q=none→(∀b o,H b=some o→b≠r→H' b=some o)→H' r=some (.ins C dx [("heights",.ref q)])→H' q=some (.lst (ns.map V.int))→Q .non H')∧(¬ xj ns→E (.ref CB) none H)
theorem wy4 {f:Aj}{fd:Ad}(F:Fun K "__init__" "Road.__init__" s_Road___init__ f fd)(T:Txt K mg qd qm qx qp qf wz wv qr wy q8 qj wb qz qu qw qq)(c_is_line:Cal P w K mg base "is_line" 1 (qqm K)):FnOk P w K mg base (CXE P w) 2 f fd ["self","heights"] (Zv K qm qu):=by
 have sc:=Zk
 refine F.okX sc (λvs H Q E h=>by obtain ⟨r,dx,p,ns,rfl,_⟩:=h;rfl) (λcdv A outer s H vs Q E hr h=>?_)
 obtain ⟨r,dx,p,ns,rfl,hr0,hS,k,x⟩:=h
 refine ⟨_,(qb (x4 (qqg (qq3 (wf c_is_line (hr.mono (by decide)) rfl qy (q9 (pv 1) qk)))) (wq (zt rfl T.x_BadLine zu rfl T.g_BadLine (xx xf qk))) xy)
   (wq (Q7 (pv 0) (vb vt rfl T.list_ br (q9 (pv 1) qk)) rfl))),?_⟩
 refine ⟨_,rfl,p,ns,rfl,hS,λok=>(exI rfl ?_),λbad=>(exI rfl ?_)⟩
 ·refine Qy ?_
  refine exI rfl ⟨_,_,rfl,.inl hS,λq nq=>?_⟩
  have hr1:upd H q (.lst (ns.map V.int)) r=some (.ins qu dx []):=by rw [wj (qg hr0 nq)];exact hr0
  refine exI rfl ⟨r,qu,dx,[],rfl,hr1,T.cl,T.na,(by show 0<1000;decide),?_⟩
  refine k ok _ q nq (λb o e n=>?_) qh ?_
  ·rw [wj n,wj (qg e nq)]
   exact e
  ·rw [wj (qg hr0 nq).symm,qh]
 ·refine j8 ?_
  exact ⟨sz1,x bad⟩
def Wx (C:Aj):Sp:=λvs H Q _=>∃(r:Aj) (ns:List Int),vs=[.ref r]∧RoadAt C H r ns∧Q (.int ((ns.length:Int)-1)) H
theorem wv6 {f:Aj}{fd:Ad}(F:Fun K "width" "Road.width" s_Road_width f fd)(T:Txt K mg qd qm qx qp qf wz wv qr wy q8 qj wb qz qu qw qq):FnOk P w K mg base (CXE P w) 1 f fd ["self"] (Wx qu):=by
 have sc:=qwf
 refine F.okX sc (λvs H Q E h=>by obtain ⟨r,ns,rfl,_⟩:=h;rfl) (λcdv A outer s H vs Q E hr h=>?_)
 obtain ⟨r,ns,rfl,⟨dx,q,h1,h2⟩,k⟩:=h
 refine ⟨_,(wq (wp (wm kh (xq xb rfl T.len_ aM (xv (xp (pv 0) rfl) qk)) wx))),?_⟩
 refine exI rfl ⟨r,qu,dx,_,_,rfl,h1,T.cl,T.na,jh,q,exI rfl ⟨.inl (SqL.of h2),wt rfl rfl ?_⟩⟩
 rw [ae]
 exact k
def yf (C:Aj):Sp:=λvs H Q _=>∃(r:Aj) (ns:List Int),vs=[.ref r]∧RoadAt C H r ns∧∀p,H p=none→Q (.ref p) (upd H p (.lst (ns.map V.int)))
theorem qjt {f:Aj}{fd:Ad}(F:Fun K "corners" "Road.corners" s_Road_corners f fd)(T:Txt K mg qd qm qx qp qf wz wv qr wy q8 qj wb qz qu qw qq):FnOk P w K mg base (CXE P w) 1 f fd ["self"] (yf qu):=by
 have sc:=Z3
 refine F.okX sc (λvs H Q E h=>by obtain ⟨r,ns,rfl,_⟩:=h;rfl) (λcdv A outer s H vs Q E hr h=>?_)
 obtain ⟨r,ns,rfl,⟨dx,q,h1,h2⟩,k⟩:=h
 refine ⟨_,(wq (wp (vb vt rfl T.list_ br (xv (xp (pv 0) rfl) qk)))),?_⟩
 exact exI rfl ⟨r,qu,dx,_,_,rfl,h1,T.cl,T.na,jh,q,exI rfl ⟨.inl (SqL.of h2),λp np=>k p np⟩⟩
def InW (ns:List Int)(wd:Int):Prop:=(ns.length:Int)=wd+1∧∀h∈ns,0≤h∧h≤wd
def Yf (K:Aa):Sp:=λvs H Q _=>∃(a:Aj) (ns:List Int) (i wd:Int),vs=[.ref a,.int i,.int wd]∧SqL K H a (ns.map V.int)∧0≤i∧1≤wd∧wd≤24 ∧
 ∀p hs,H p=none→InW hs wd→Q (.ref p) (upd H p (.lst (hs.map V.int)))
theorem wkw {f:Aj}{fd:Ad}(F:Fun K "_law_climb" "_law_climb" s__law_climb f fd)(T:Txt K mg qd qm qx qp qf wz wv qr wy q8 qj wb qz qu qw qq)(c__law_pick:Cal P w K mg base "_law_pick" 2 (y0 K)):FnOk P w K mg base (CXE P w) 3 f fd ["_law_script","_law_at","_law_wide"] (Yf K):=by
 have sc:=qwb
 refine F.okX sc (λvs H Q E h=>by obtain ⟨a,ns,i,wd,rfl,_⟩:=h;rfl) (λcdv A outer s H vs Q E hr h=>?_)
 obtain ⟨a,ns,i,wd,rfl,hS,h0,w1,w2,k⟩:=h
 refine ⟨_,(qb (w6 (i:=3) sc.nd rfl (by walk_at "loc") (yw (kj (wf c__law_pick (hr.mono (by decide)) rfl qy (q9 (pv 0) (q9 (pv 1) (xx wx (zp (wm xm (pv 2) wx) qk))))) qk)))
   (qb (jj aP rfl (vz rfl T.range_ (q9 (pv 2) qk)) (xu (i:=4) sc.nd rfl (by walk_at "loc")) (wq (xn (wv9 bR dc de yu (pv 3) (kj (xq (qw7 rfl) rfl T.max_ dF (xx wx (kj (xq (qw6 rfl) rfl T.min_ dE (q9 (pv 2) (zp (wm kh (wm xm (zq vk (pv 3) (wqk qz0 wx) (λ_ _=>rfl)) (wm zk wx (wf c__law_pick (hr.mono (by decide)) rfl qy (q9 (pv 0) (q9 (pv 1) (zp (wm xm wx (pv 4)) (xx wx qk))))))) wx) qk))) qk))) qk)))))
   (wq (wp (pv 3))))),?_⟩
 refine exI rfl (exI rfl (exI rfl (wt rfl rfl ⟨a,ns,_,_,_,rfl,hS,h0,(by lia),(by lia),(by lia),λr1 _ l1 u1=>⟨sz1,λp np=>?_⟩⟩)))
 refine ⟨_,rfl,wd,rfl,(by lia),(by lia),jn (λj σ H1=>∃(ys:List Int) (l:Int) (z:Option V),ys.length=j∧(∀h∈ys++[l],0≤h∧h≤wd)∧H1=upd H p (.lst ((ys++[l]).map V.int))∧σ=[some (.ref a),some (.int i),some (.int wd),some (.ref p),z])
  ⟨[],r1,none,rfl,(λh hh=>by have e:=ai.mp hh;subst e;lia),rfl,rfl⟩ ?_ ?_⟩
 ·rintro j σ H1 hj ⟨ys,l,z,hy,hb,rfl,rfl⟩
  have hp:upd H p (.lst ((ys++[l]).map V.int)) p=some (.lst ((ys++[l]).map V.int)):=qh
  have hS1:SqL K (upd H p (.lst ((ys++[l]).map V.int))) a (ns.map V.int):=Same.sql (Same.upd np) hS
  have hlast:atI ((ys++[l]).map V.int) (-1)=some (V.int l):=by
   rw [ba]
   exact qv4 _ _
  have hl:=hb l (by simp)
  refine exI rfl ⟨.inl ⟨rfl,_,SqL.of hp⟩,exI rfl (exI rfl (exI rfl (exX rfl rfl (SqL.of hp) hlast (exI rfl (exI rfl (exI rfl (wt rfl rfl ⟨a,ns,_,_,_,rfl,hS1,h0,(by lia),(by lia),(by lia),λr2 _ l2 u2=>?_⟩)))))))⟩
  refine wt rfl rfl ⟨(by walk_at "mul"),wt rfl rfl (wt rfl rfl ⟨_,_,rfl,_,_,rfl,_,_,_,rfl,rfl,hp,?_,?_⟩)⟩
  ·rw [ae,aV,hy]
   have:(1000000:Nat)<sizeLine:=by decide
   simp only [aL,ck]
   lia
  ·refine ⟨ys++[l],(if (if l+2*r2-1<wd then l+2*r2-1 else wd)>0 then (if l+2*r2-1<wd then l+2*r2-1 else wd) else 0),_,by rw [aV,hy];rfl,λh hh=>?_,?_,rfl⟩
   ·rcases aH.mp hh with hh|hh
    ·exact hb h hh
    ·have e:=ai.mp hh
     subst e
     by_cases g1:l+2*r2-1<wd
     ·rw [aj g1]
      by_cases g2:l+2*r2-1>0
      ·rw [aj g2];lia
      ·rw [af g2];lia
     ·rw [af g1,aj (show wd>0 by lia)];lia
   ·rw [j7,ba (l₁:=ys++[l])]
    rfl
 ·rintro σ H1 ⟨ys,l,z,hy,hb,rfl,rfl⟩
  refine exI rfl (k p _ np ⟨?_,hb⟩)
  rw [aV,hy]
  simp only [aL,ck]
  lia
def Zj (K:Aa):Sp:=λvs H Q _=>∃(a:Aj) (ns:List Int) (i m:Int),vs=[.ref a,.int i,.int m]∧SqL K H a (ns.map V.int)∧0≤i∧1≤m∧m≤24 ∧
 ∀p hs wd,H p=none→1≤wd→wd≤m→InW hs wd→Q (.ref p) (upd H p (.lst (hs.map V.int)))
theorem wwk {wd:Int}{n:Nat}(g:Nat→Int)(h1:(n:Int)=wd+1)(h2:∀i,i<n→0≤g i∧g i≤wd):InW ((List.range n).map g) wd:=by
 refine ⟨by rw [ae,aO];exact h1,λh hh=>?_⟩
 obtain ⟨i,hi,rfl⟩:=ao.mp hh
 exact h2 i (bb.mp hi)
theorem qwd (n:Nat)(g:Nat→Int):(List.range n).map (λi=>V.int (g i))=((List.range n).map g).map V.int:=by
 rw [bU]
 rfl
theorem qy5 {f:Aj}{fd:Ad}(F:Fun K "_law_heights" "_law_heights" s__law_heights f fd)(T:Txt K mg qd qm qx qp qf wz wv qr wy q8 qj wb qz qu qw qq)(c__law_pick:Cal P w K mg base "_law_pick" 2 (y0 K))(c__law_climb:Cal P w K mg base "_law_climb" 3 (Yf K)) :
  FnOk P w K mg base (CXE P w) 4 f fd ["_law_script","_law_at","_law_most"] (Zj K):=by
 have sc:=Z6
 refine F.okX sc (λvs H Q E h=>by obtain ⟨a,ns,i,m,rfl,_⟩:=h;rfl) (λcdv A outer s H vs Q E hr h=>?_)
 obtain ⟨a,ns,i,m,rfl,hS,h0,m1,m2,k⟩:=h
 refine ⟨_,(qb (w6 (i:=3) sc.nd rfl (by walk_at "loc") (wm xm wx (wf c__law_pick (hr.mono (by decide)) rfl qy (q9 (pv 0) (q9 (pv 1) (xx wx (q9 (pv 2) qk)))))))
   (qb (w6 (i:=4) sc.nd rfl (by walk_at "loc") (wf c__law_pick (hr.mono (by decide)) rfl qy (q9 (pv 0) (q9 (pv 1) (xx wx (xx wx qk))))))
   (qb (x4 (wn ku (pv 4) wx (w9 _)) (wq (wp (u9 (M:=[3]) rfl rfl (by walk_at "cap") (by walk_at "has") (by walk_at "cix") rfl (by decide +kernel) rfl (show List.Nodup (["_law_k","_law_wide"]:List Str) by decide +kernel) (vz rfl T.range_ (zp (wm xm (pv 3) wx) qk)) (λ_ _ _ _ _=>(wm zk (pv 1) (wm jq (pv 0) wx)))))) xy)
   (qb (x4 (wn ku (pv 4) wx (w9 _)) (wq (wp (u9 (M:=[]) rfl rfl (by walk_at "cap") (by walk_at "has") (by walk_at "cix") rfl (by decide +kernel) rfl (show List.Nodup (["_law_k"]:List Str) by decide +kernel) (vz rfl T.range_ (zp (wm xm (pv 3) wx) qk)) (λ_ _ _ _ _=>(pv 0))))) xy)
   (qb (x4 (wn ku (pv 4) wx (w9 _)) (wq (wp (u9 (M:=[3]) rfl rfl (by walk_at "cap") (by walk_at "has") (by walk_at "cix") rfl (by decide +kernel) rfl (show List.Nodup (["_law_k","_law_wide"]:List Str) by decide +kernel) (vz rfl T.range_ (zp (wm xm (pv 3) wx) qk)) (λ_ _ _ _ _=>(wm kh (pv 1) (pv 0)))))) xy)
   (qb (x4 (wn ku (pv 4) wx (w9 _)) (wq (wp (u9 (M:=[3]) rfl rfl (by walk_at "cap") (by walk_at "has") (by walk_at "cix") rfl (by decide +kernel) rfl (show List.Nodup (["_law_k","_law_wide"]:List Str) by decide +kernel) (vz rfl T.range_ (zp (wm xm (pv 3) wx) qk)) (λ_ _ _ _ _=>(wm jq (wm xm (wm zk wx (pv 0)) wx) (wm xm (pv 1) wx)))))) xy)
   (qb (x4 (PW.pt (Qc (wn ku (pv 4) wx (w9 _)) (yq (wn ku (pv 4) wx (w9 _))))) (wq (wp (wf c__law_climb (hr.mono (by decide)) rfl qy (q9 (pv 0) (q9 (pv 1) (q9 (pv 3) qk)))))) xy)
   (wq (wp (u9 (M:=[0,1,3]) rfl rfl (by walk_at "cap") (by walk_at "has") (by walk_at "cix") rfl (by decide +kernel) rfl (show List.Nodup (["_law_k","_law_script","_law_at","_law_wide"]:List Str) by decide +kernel) (vz rfl T.range_ (zp (wm xm (pv 3) wx) qk)) (λ_ _ _ _ _=>(wf c__law_pick (hr.mono (by decide)) rfl wxz (q9 (pv 1) (q9 (pv 2) (zp (wm xm wx (pv 0)) (zp (wm xm (pv 3) wx) qk)))))))))))))))),?_⟩
 refine exI rfl (exI rfl (exI rfl ⟨a,ns,_,_,_,rfl,hS,h0,(by lia),(by lia),(by lia),λr1 _ l1 u1=>?_⟩))
 refine wt rfl rfl (exI rfl (exI rfl ⟨a,ns,_,_,_,rfl,hS,h0,(by lia),(by lia),(by lia),λkd _ l2 u2=>?_⟩))
 have hn:((1+r1+1).toNat:Int)=1+r1+1:=by lia
 have hn2:(1+r1+1).toNat≤1000000:=by lia
 have fin:∀(g:Nat→Int) (p:Aj),(∀j,j<(1+r1+1).toNat→0≤g j∧g j≤1+r1)→H p=none→Q (.ref p) (upd H p (.lst ((List.range (1+r1+1).toNat).map λj=>V.int (g j)))):=λg p hg np=>by
  rw [qwd]
  exact k p _ (1+r1) np (by lia) (by lia) (wwk g hn hg)
 refine exI rfl ⟨rfl,_,rfl,jz (λq1=>?_) (λq1=>?_)⟩
 ·refine exI rfl (wt rfl rfl ⟨1+r1+1,rfl,(by lia),(by lia),jr (λj=>V.int ((1+r1)*(((0:Int)+j)%2))) hn2 (λj H' R hj hs hR=>?_) λp np=>fin _ p (λj hj=>?_) np⟩)
  ·exact exI rfl (exI rfl (wt rfl rfl ⟨(by walk_at "pos"),wt rfl rfl ⟨(by walk_at "mul"),hR⟩⟩))
  ·have a1:=bE ((0:Int)+j) (show (2:Int)≠0 by decide)
   have a2:=bj ((0:Int)+j) (show (0:Int)<2 by decide)
   rcases (by lia:((0:Int)+j)%2=0∨((0:Int)+j)%2=1) with e|e <;> rw [e] <;> lia
 ·refine exI rfl ⟨rfl,_,rfl,jz (λq2=>?_) (λq2=>?_)⟩
  ·refine exI rfl (wt rfl rfl ⟨1+r1+1,rfl,(by lia),(by lia),jr (λj=>V.int ((0:Int)+j)) hn2 (λj H' R hj hs hR=>?_) λp np=>fin _ p (λj hj=>by lia) np⟩)
   exact exI rfl hR
  ·refine exI rfl ⟨rfl,_,rfl,jz (λq3=>?_) (λq3=>?_)⟩
   ·refine exI rfl (wt rfl rfl ⟨1+r1+1,rfl,(by lia),(by lia),jr (λj=>V.int (1+r1-((0:Int)+j))) hn2 (λj H' R hj hs hR=>?_) λp np=>fin _ p (λj hj=>by lia) np⟩)
    exact exI rfl (exI rfl (wt rfl rfl hR))
   ·refine exI rfl ⟨rfl,_,rfl,jz (λq4=>?_) (λq4=>?_)⟩
    ·refine exI rfl (wt rfl rfl ⟨1+r1+1,rfl,(by lia),(by lia),jr (λj=>V.int ((2*((0:Int)+j)+1)%(1+r1+1))) hn2 (λj H' R hj hs hR=>?_) λp np=>fin _ p (λj hj=>?_) np⟩)
     ·exact exI rfl (wt rfl rfl ⟨(by walk_at "mul"),wt rfl rfl (exI rfl (wt rfl rfl (wt rfl rfl ⟨(by walk_at "pos"),hR⟩)))⟩)
     ·have a1:=bE (2*((0:Int)+j)+1) (show 1+r1+1≠0 by lia)
      have a2:=bj (2*((0:Int)+j)+1) (show 0<1+r1+1 by lia)
      lia
    ·have last:tRet (tComp [0,1,3] (iRng1 (z9 (tOp (rI0 λi j=>.int (i+j)) (Wy 3) (tC (.int 1))) j3)) (qqp (y0 K) (λ_=>E0) (z9 (Wy 1) (z9 (Wy 2) (z9 (tOp (rI0 λi j=>.int (i+j)) (tC (.int 3)) (Wy 0)) (z9 (tOp (rI0 λi j=>.int (i+j)) (Wy 3) (tC (.int 1))) j3))))))
       { nx:=λ_ H'=>Q .non H',rt:=Q } [some (.ref a),some (.int i),some (.int m),some (.int (1+r1)),some (.int kd)] H:=by
      refine exI rfl (wt rfl rfl ⟨1+r1+1,rfl,(by lia),(by lia),jr (λj=>V.int (qk5 ns i (3+((0:Int)+j)) (1+r1+1))) hn2 (λj H' R hj hs hR=>?_) λp np=>fin _ p (λj hj=>?_) np⟩)
      ·refine exI rfl (exI rfl (exI rfl (wt rfl rfl (exI rfl (wt rfl rfl ⟨a,ns,_,_,_,rfl,Same.sql hs hS,h0,(by lia),(by lia),(by lia),λr e _ _=>?_⟩)))))
       rw [e]
       exact hR
      ·have a1:=wx0 ns i (3+((0:Int)+j)) (1+r1+1) (by lia)
       have a2:=wz5 ns i (3+((0:Int)+j)) (1+r1+1) (by lia)
       lia
     have climb:tRet (qqp (Yf K) (λ_=>E) (z9 (Wy 0) (z9 (Wy 1) (z9 (Wy 3) j3)))) { nx:=λ_ H'=>Q .non H',rt:=Q } [some (.ref a),some (.int i),some (.int m),some (.int (1+r1)),some (.int kd)] H :=
      (exI rfl (exI rfl (exI rfl ⟨a,ns,i,1+r1,rfl,hS,h0,(by lia),(by lia),λp hs np hw=>k p hs (1+r1) np (by lia) (by lia) hw⟩)))
     refine exI rfl ⟨rfl,_,rfl,jz (λq5=>j8 climb) (λq5=>?_)⟩
     exact exI rfl ⟨rfl,_,rfl,jz (λq6=>climb) (λq6=>last)⟩
def qwt:Sp:=λvs H Q _=>∃x y:Int,vs=[.int x,.int y]∧0≤x∧0≤y∧Q (.int (Z2 x y)) H
theorem qjq {tb:TS}{c:TT}{D:Ends}{H:Hp}{x y:Int}(hx:0≤x)(hy:0≤y)(hc:c=tTest (tOp (rI0 λi j=>.bl (decide (j<i))) (Wy 1) (tC (.int 0))))(hb:tb=tPar 0 1 (z9 (Wy 1) (z9 (tOp (rI (λ_ j=>0<j) λi j=>.int (i%j)) (Wy 0) (Wy 1)) j3)))
  (hD:D.nx [some (.int (Z2 x y)),some (.int 0)] H):qy4 c tb D [some (.int x),some (.int y)] H:=by
 subst hc hb
 refine qjm (λσ H1=>H1=H∧∃u v:Int,σ=[some (.int u),some (.int v)]∧0≤u∧0≤v∧Z2 u v=Z2 x y) (λσ _=>match σ with|[_,some (.int v)]=>v.toNat|_=>0) ⟨rfl,x,y,rfl,hx,hy,rfl⟩ ?_ λσ H Q Q' h ⟨v,e,i,j,e1,e2,k,e3,q⟩=>⟨v,e,i,j,e1,e2,k,e3,h _ _ q⟩
 rintro σ H1 ⟨rfl,u,v,rfl,hu,hv,e⟩
 refine exI rfl (wt rfl rfl (exI rfl ?_))
 refine k6 (λq=>?_) (λq=>?_)
 ·have h1:=bE u (show v≠0 by lia)
  have h2:=bj u q
  refine exI rfl (exI rfl (exI rfl (wt rfl rfl ⟨q,_,_,rfl,⟨rfl,v,u%v,rfl,hv,h1,?_⟩,?_⟩)))
  ·rw [wwr hu q,e]
  ·show (u%v).toNat<v.toNat
   lia
 ·have z:v=0:=by lia
  subst z
  rw [wq2 hu] at e
  subst e
  exact hD
theorem ok_gcd {f:Aj}{fd:Ad}(F:Fun K "common_divisor" "common_divisor" s_common_divisor f fd)(T:Txt K mg qd qm qx qp qf wz wv qr wy q8 qj wb qz qu qw qq):FnOk P w K mg base (CXE P w) 1 f fd ["one","other"] qwt:=by
 have sc:=Wh
 refine F.okX sc (λvs H Q E h=>by obtain ⟨x,y,rfl,_⟩:=h;rfl) (λcdv A outer s H vs Q E hr h=>?_)
 obtain ⟨x,y,rfl,hx,hy,k⟩:=h
 refine ⟨_,(qb (Jh aP (wn Qh (pv 1) wx (w9 _)) (wq (wzw (i:=0) (j:=1) rfl sc.nd rfl rfl (by decide) rfl rfl (q9 (pv 1) (zp (wm jq (pv 0) (pv 1)) qk)) rfl)))
   (wq (wp (pv 0)))),?_⟩
 exact qjq hx hy rfl rfl (exI rfl k)
theorem ww1 {f:Aj}{fd:Ad}(F:Fun K "_law_common" "_law_common" s__law_common f fd)(T:Txt K mg qd qm qx qp qf wz wv qr wy q8 qj wb qz qu qw qq):FnOk P w K mg base (CXE P w) 1 f fd ["_law_one","_law_other"] qwt:=by
 have sc:=Jq
 refine F.okX sc (λvs H Q E h=>by obtain ⟨x,y,rfl,_⟩:=h;rfl) (λcdv A outer s H vs Q E hr h=>?_)
 obtain ⟨x,y,rfl,hx,hy,k⟩:=h
 refine ⟨_,(qb (Jh aP (wn Qh (pv 1) wx (w9 _)) (wq (wzw (i:=0) (j:=1) rfl sc.nd rfl rfl (by decide) rfl rfl (q9 (pv 1) (zp (wm jq (pv 0) (pv 1)) qk)) rfl)))
   (wq (wp (pv 0)))),?_⟩
 exact qjq hx hy rfl rfl (exI rfl k)
def ptV (p:Int×Int):List V:=[.int p.1,.int p.2]
def yc (C:Aj):Sp:=λvs H Q E=>∃t b:Int,vs=[.int t,.int b]∧(1≤b→Sm 9000 b∧∀p,H p=none→Q (.ref p) (upd H p (.tup (ptV (wg t b)))))∧(b<1→E (.ref C) none H)
theorem wwj {f:Aj}{fd:Ad}(F:Fun K "lowest" "lowest" s_lowest f fd)(T:Txt K mg qd qm qx qp qf wz wv qr wy q8 qj wb qz qu qw qq)(c_check_bottom:Cal P w K mg base "check_bottom" 1 (qvn qx))(c_common_divisor:Cal P w K mg base "common_divisor" 1 qwt) :
  FnOk P w K mg base (CXE P w) 2 f fd ["top","bottom"] (yc qx):=by
 have sc:=wq0
 refine F.okX sc (λvs H Q E h=>by obtain ⟨t,b,rfl,_⟩:=h;rfl) (λcdv A outer s H vs Q E hr h=>?_)
 obtain ⟨t,b,rfl,k,x⟩:=h
 refine ⟨_,(qb (xn (wf c_check_bottom (hr.mono (by decide)) rfl qy (q9 (pv 1) qk)))
   (qb (w6 (i:=2) sc.nd rfl (by walk_at "loc") (wf c_common_divisor (hr.mono (by decide)) rfl qy (kj (xq Q9 rfl T.abs_ Wj (q9 (pv 0) qk)) (q9 (pv 1) qk))))
   (wq (wp (vw (zp (wm jb (pv 0) (pv 2)) (zp (wm jb (pv 1) (pv 2)) qk))))))),?_⟩
 refine ⟨_,rfl,b,rfl,λg1=>?_,λg1=>x g1⟩
 obtain ⟨sb,k⟩:=k g1
 have hg:=jf (t:=t) g1
 have hs:Sm 9000 (gOf t b):=sb.of_le (by have:=wxy (t:=t) g1;lia)
 refine exI rfl (exI rfl (exI rfl ⟨y9 t,b,rfl,qu5 t,(by lia),?_⟩))
 refine exI rfl ⟨V.int (gOf t b),rfl,wt rfl rfl ⟨⟨by lia,hs⟩,exI rfl ⟨V.int (gOf t b),rfl,wt rfl rfl ⟨⟨by lia,hs⟩,sz2,λp n=>?_⟩⟩⟩⟩
 exact k p n
def qws:Sp:=λvs H Q _=>∃t b:Int,vs=[.int t,.int b]∧1≤b∧Sm 9000 b∧∀p,H p=none→Q (.ref p) (upd H p (.tup (ptV (wg t b))))
theorem ok_low {f:Aj}{fd:Ad}(F:Fun K "_law_low" "_law_low" s__law_low f fd)(T:Txt K mg qd qm qx qp qf wz wv qr wy q8 qj wb qz qu qw qq)(c__law_common:Cal P w K mg base "_law_common" 1 qwt):FnOk P w K mg base (CXE P w) 2 f fd ["_law_top","_law_bottom"] qws:=by
 have sc:=qkx
 refine F.okX sc (λvs H Q E h=>by obtain ⟨t,b,rfl,_⟩:=h;rfl) (λcdv A outer s H vs Q E hr h=>?_)
 obtain ⟨t,b,rfl,g1,sb,k⟩:=h
 have hg:=jf (t:=t) g1
 have hs:Sm 9000 (gOf t b):=sb.of_le (by have:=wxy (t:=t) g1;lia)
 refine ⟨_,(qb (w6 (i:=2) sc.nd rfl (by walk_at "loc") (wf c__law_common (hr.mono (by decide)) rfl qy (kj (xq Q9 rfl T.abs_ Wj (q9 (pv 0) qk)) (q9 (pv 1) qk))))
   (wq (wp (vw (zp (wm jb (pv 0) (pv 2)) (zp (wm jb (pv 1) (pv 2)) qk)))))),?_⟩
 refine exI rfl (exI rfl (exI rfl ⟨y9 t,b,rfl,qu5 t,(by lia),?_⟩))
 refine exI rfl ⟨V.int (gOf t b),rfl,wt rfl rfl ⟨⟨by lia,hs⟩,exI rfl ⟨V.int (gOf t b),rfl,wt rfl rfl ⟨⟨by lia,hs⟩,sz2,λp n=>?_⟩⟩⟩⟩
 exact k p n
theorem at_h {hs:List Int}{k:Int}(h0:0≤k)(h1:k<hs.length):atI (hs.map V.int) k=some (V.int (hAt hs k)):=Yh h0 h1
theorem qu1 {hs:List Int}(ok:xj hs)(k:Int):0≤hAt hs k∧hAt hs k≤24:=by
 unfold hAt
 rw [ay]
 cases e:hs[k.toNat]? with
 |none=>exact ⟨by decide,by decide⟩
 |some v =>
  have hm:=ok.2.2 v (aX e)
  have:=ok.2.1
  show 0≤v∧v≤24
  lia
def qj2 (C CR:Aj):Sp:=λvs H Q E=>∃(r:Aj) (hs:List Int) (k:Int),vs=[.ref r,.int k]∧RoadAt C H r hs∧(0≤k→k<(hs.length:Int)-1→∀p,H p=none→Q (.ref p) (upd H p (.tup [.int (hAt hs k),.int (hAt hs (k+1))]))) ∧
 (k<0∨(hs.length:Int)-1≤k→E (.ref CR) none H)
theorem wj8 {f:Aj}{fd:Ad}(F:Fun K "ends" "Road.ends" s_Road_ends f fd)(T:Txt K mg qd qm qx qp qf wz wv qr wy q8 qj wb qz qu qw qq)(c_width:MCal P w K mg base qu "width" 1 (Wx qu)):FnOk P w K mg base (CXE P w) 2 f fd ["self","stretch"] (qj2 qu wv):=by
 have sc:=qzh
 refine F.okX sc (λvs H Q E h=>by obtain ⟨r,hs,k,rfl,_⟩:=h;rfl) (λcdv A outer s H vs Q E hr h=>?_)
 obtain ⟨r,hs,k,rfl,hR,kq,x⟩:=h
 obtain ⟨dx,q,h1,h2⟩:=id hR
 refine ⟨_,(qb (x4 (PW.pt (Qc (wn uh (pv 1) wx (w9 _)) (yq (wn wqx (pv 1) (vg (pv 0) T.cl c_width (hr.mono (by decide)) qy) (w9 _))))) (wq (zt rfl T.x_BadRow zu rfl T.g_BadRow (xx xf qk))) xy)
   (wq (wp (vw (zh (zq vk (xp (pv 0) rfl) (pv 1) (λ_ _=>rfl)) (zh (zq vk (xp (pv 0) rfl) (wm xm (pv 1) wx) (λ_ _=>rfl)) qk)))))),?_⟩
 refine exI rfl (wt rfl rfl (exI rfl ?_))
 refine k6 (λq1=>?_) (λq1=>?_)
 ·refine j8 ?_
  exact ⟨sz1,x (.inl q1)⟩
 ·refine exI rfl (exI rfl ⟨r,dx,exI rfl ⟨h1,zg (by decide +kernel),r,hs,rfl,hR,wt rfl rfl (exI rfl ?_)⟩⟩)
  refine k6 (λq2=>?_) (λq2=>?_)
  ·exact ⟨sz1,x (.inr q2)⟩
  ·refine exI rfl ⟨r,qu,dx,_,_,rfl,h1,T.cl,T.na,jh,exI rfl (exX rfl rfl (SqL.of h2) (at_h (by lia) (by lia)) (exI rfl ⟨r,qu,dx,_,_,rfl,h1,T.cl,T.na,jh,exI rfl (wt rfl rfl (exX rfl rfl (SqL.of h2) (at_h (by lia) (by lia)) ⟨sz2,λp np=>?_⟩))⟩))⟩
   exact kq (by lia) (by lia) p np
def vc (hs:List Int)(t b:Int):Prop:=0≤t∧t≤((hs.length:Int)-1)*b
def um (K:Aa)(C CB CO:Aj):Sp:=λvs H Q E=>∃(r p:Aj) (hs:List Int) (t b:Int),vs=[.ref r,.ref p]∧RoadAt C H r hs∧xj hs∧SqT K H p [.int t,.int b] ∧
 (1≤b→Sm 8000 b∧(vc hs t b→∀q H',Same H H'→H' q=some (.tup (ptV (wg t b)))→Q (.ref q) H')∧(¬ vc hs t b→∀H',Same H H'→E (.ref CO) none H'))∧(b<1→E (.ref CB) none H)
theorem qym {f:Aj}{fd:Ad}(F:Fun K "on_road" "Road.on_road" s_Road_on_road f fd)(T:Txt K mg qd qm qx qp qf wz wv qr wy q8 qj wb qz qu qw qq)(c_width:MCal P w K mg base qu "width" 1 (Wx qu))(c_lowest:Cal P w K mg base "lowest" 2 (yc qx)) :
  FnOk P w K mg base (CXE P w) 3 f fd ["self","point"] (um K qu qx qp):=by
 have sc:=Z5
 refine F.okX sc (λvs H Q E h=>by obtain ⟨r,p,hs,t,b,rfl,_⟩:=h;rfl) (λcdv A outer s H vs Q E hr h=>?_)
 obtain ⟨r,p,hs,t,b,rfl,hR,hok,hp,kq,x⟩:=h
 obtain ⟨dx,q,h1,h2⟩:=id hR
 refine ⟨_,(qb (yx (wf c_lowest (hr.mono (by decide)) rfl qy (zh (zq zd (pv 1) wx (λ_ _=>rfl)) (zh (zq zd (pv 1) wx (λ_ _=>rfl)) qk))) (ju rfl (xh (xu (i:=2) sc.nd rfl (by walk_at "loc")) (xh (xu (i:=3) sc.nd rfl (by walk_at "loc")) vp))))
   (qb (x4 (PW.pt (Qc (wn uh (pv 2) wx (w9 _)) (yq (wn Qh (pv 2) (wm zk (vg (pv 0) T.cl c_width (hr.mono (by decide)) qy) (pv 3)) (w9 _))))) (wq (zt rfl T.x_OffRoad zu rfl T.g_OffRoad (xx xf qk))) xy)
   (wq (wp (vw (q9 (pv 2) (q9 (pv 3) qk))))))),?_⟩
 refine ⟨_,rfl,_,_,_,_,rfl,rfl,hp,rfl,_,rfl,_,_,_,_,rfl,rfl,hp,rfl,t,b,rfl,λhb=>⟨(kq hb).1.mono (by decide),λp1 n1=>?_⟩,λz=>x z⟩
 obtain ⟨sb,k1,k2⟩:=kq hb
 have s1:Same H (upd H p1 (.tup (ptV (wg t b)))):=Same.upd n1
 have hl:=hok.2.1
 refine ⟨p1,exI rfl ⟨SqT.new,rfl,_,_,rfl,_,_,rfl,rfl,?_⟩⟩
 refine exI rfl (wt rfl rfl (exI rfl ?_))
 refine k6 (λq1=>?_) (λq1=>?_)
 ·refine j8 ?_
  exact ⟨sz1,k2 (λz=>by have:=(Yu hb).mp q1;have:=z.1;lia) _ s1⟩
 ·refine exI rfl (exI rfl ⟨r,dx,exI rfl ⟨s1 _ _ h1,zg (by decide +kernel),r,hs,rfl,hR.same s1,exI rfl (wt rfl rfl ⟨IntMulOk.of_left (intBits_le_64 (by lia) (by lia)),wt rfl rfl (exI rfl ?_)⟩)⟩⟩)
  refine k6 (λq2=>?_) (λq2=>?_)
  ·exact ⟨sz1,k2 (λz=>by have:=(qyb hb).mp q2;have:=z.2;lia) _ s1⟩
  ·refine exI rfl (exI rfl ⟨sz2,λp2 n2=>?_⟩)
   refine k1 ⟨?_,?_⟩ p2 _ (s1.trans (Same.upd n2)) qh
   ·rcases cu t 0 with z|z
    ·exact absurd ((Yu hb).mpr z) q1
    ·exact z
   ·rcases cu (((hs.length:Int)-1)*b) t with z|z
    ·exact absurd ((qyb hb).mpr z) q2
    ·exact z
def spAt (K:Aa)(C CB CO:Aj):Sp:=λvs H Q E=>∃(r p:Aj) (hs:List Int) (t b:Int),vs=[.ref r,.ref p]∧RoadAt C H r hs∧xj hs∧SqT K H p [.int t,.int b] ∧
 (1≤b→Sm 8000 b∧(vc hs t b→∀q H',Same H H'→H' q=some (.tup (ptV (yg hs t b)))→Q (.ref q) H')∧(¬ vc hs t b→∀H',Same H H'→E (.ref CO) none H'))∧(b<1→E (.ref CB) none H)
theorem ok_at {f:Aj}{fd:Ad}(F:Fun K "at" "Road.at" s_Road_at f fd)(T:Txt K mg qd qm qx qp qf wz wv qr wy q8 qj wb qz qu qw qq)(c_width:MCal P w K mg base qu "width" 1 (Wx qu))(c_lowest:Cal P w K mg base "lowest" 2 (yc qx))(c_ends:MCal P w K mg base qu "ends" 2 (qj2 qu wv))
  (c_on_road:MCal P w K mg base qu "on_road" 3 (um K qu qx qp)):FnOk P w K mg base (CXE P w) 4 f fd ["self","point"] (spAt K qu qx qp):=by
 have sc:=qyj
 refine F.okX sc (λvs H Q E h=>by obtain ⟨r,p,hs,t,b,rfl,_⟩:=h;rfl) (λcdv A outer s H vs Q E hr h=>?_)
 obtain ⟨r,p,hs,t,b,rfl,hR,hok,hp,kq,x⟩:=h
 obtain ⟨dx,q,h1,h2⟩:=id hR
 refine ⟨_,(qb (yx (w4 (pv 0) T.cl c_on_road (hr.mono (by decide)) qy (q9 (pv 1) qk)) (ju rfl (xh (xu (i:=2) sc.nd rfl (by walk_at "loc")) (xh (xu (i:=3) sc.nd rfl (by walk_at "loc")) vp))))
   (qb (w6 (i:=4) sc.nd rfl (by walk_at "loc") (xq (qw6 rfl) rfl T.min_ dE (zp (wm jb (pv 2) (pv 3)) (zp (wm kh (vg (pv 0) T.cl c_width (hr.mono (by decide)) qy) wx) qk))))
   (qb (yx (w4 (pv 0) T.cl c_ends (hr.mono (by decide)) qy (q9 (pv 4) qk)) (ju rfl (xh (xu (i:=5) sc.nd rfl (by walk_at "loc")) (xh (xu (i:=6) sc.nd rfl (by walk_at "loc")) vp))))
   (qb (w6 (i:=7) sc.nd rfl (by walk_at "loc") (wm kh (pv 2) (wm zk (pv 4) (pv 3))))
   (wq (wp (wf c_lowest (hr.mono (by decide)) rfl qy (zp (wm xm (wm zk (pv 5) (pv 3)) (wm zk (wm kh (pv 6) (pv 5)) (pv 7))) (q9 (pv 3) qk))))))))),?_⟩
 refine ⟨_,rfl,r,dx,_,rfl,h1,zg (by decide +kernel),_,rfl,r,p,hs,t,b,rfl,hR,hok,hp,λhb=>⟨(kq hb).1,λhon p1 H1 s1 f1=>?_,λhoff H1 s1=>(kq hb).2.2 hoff H1 s1⟩,λz=>x z⟩
 obtain ⟨sb,k1,k2⟩:=kq hb
 have hl1:=hok.1
 have hl2:=hok.2.1
 have hy:=Wc (t:=t) hb
 have hyb:=qj7 (t:=t) hb
 have hx:0≤(wg t b).1:=by
  rcases cu (wg t b).1 0 with z|z
  ·have:=(Yu hb).mp z
   have:=hon.1
   lia
  ·exact z
 have hk:=wkr (hs:=hs) hl1 hy hx
 have sy:Sm 9000 (wg t b).2:=(sb.of_le (by lia)).mono (by decide)
 refine ⟨p1,exI rfl ⟨SqT.of f1,rfl,_,_,rfl,_,_,rfl,rfl,?_⟩⟩
 refine exI rfl (exI rfl (wt rfl rfl ⟨⟨by lia,sy⟩,exI rfl ⟨r,dx,exI rfl ⟨s1 _ _ h1,zg (by decide +kernel),r,hs,rfl,hR.same s1,wt rfl rfl ⟨_,_,rfl,?_⟩⟩⟩⟩))
 refine ⟨_,rfl,r,dx,_,rfl,s1 _ _ h1,zg (by decide +kernel),V.int (kF hs (wg t b).1 (wg t b).2),rfl,r,hs,kF hs (wg t b).1 (wg t b).2,rfl,hR.same s1,λ_ _ p2 n2=>?_,λz=>absurd z (by lia)⟩
 have g1:=qu1 hok (kF hs (wg t b).1 (wg t b).2)
 have g2:=qu1 hok (kF hs (wg t b).1 (wg t b).2+1)
 refine ⟨p2,exI rfl ⟨SqT.new,rfl,_,_,rfl,_,_,rfl,rfl,?_⟩⟩
 refine exI rfl ⟨V.int (kF hs (wg t b).1 (wg t b).2),rfl,exI rfl (wt rfl rfl ⟨IntMulOk.of_left (intBits_le_64 (by lia) (by lia)),wt rfl rfl ?_⟩)⟩
 refine exI rfl (exI rfl (wt rfl rfl ⟨IntMulOk.of_left (intBits_le_64 (by lia) (by lia)),exI rfl (exI rfl (wt rfl rfl (exI rfl (wt rfl rfl ⟨IntMulOk.of_left (intBits_le_64 (by lia) (by lia)),wt rfl rfl (exI rfl ?_)⟩))))⟩))
 refine ⟨v8 hs (wg t b).1 (wg t b).2,(wg t b).2,rfl,λ_=>⟨sy,λp3 n3=>?_⟩,λz=>absurd z (by lia)⟩
 have e:wg (v8 hs (wg t b).1 (wg t b).2) (wg t b).2=yg hs t b:=qw5 hb
 rw [e]
 exact k1 hon p3 _ (s1.trans ((Same.upd n2).trans (Same.upd n3))) qh
theorem wy1 {hs:List Int}{wd:Int}(h:InW hs wd)(w1:1≤wd)(w2:wd≤24):xj hs:=by
 refine ⟨by have:=h.1;lia,by have:=h.1;lia,λx hx=>?_⟩
 have h1:=h.1
 have h2:=h.2 x hx
 lia
theorem ww2 {H H':Hp}{x dx C:Aj}(nx:H x=none)(nd:H dx=none)(h:∀b o,upd (upd H dx (.own x)) x (.ins C dx []) b=some o→b≠x→H' b=some o):Same H H':=λb o e =>
 h b o (by rw [wj (qg e nx),wj (qg e nd)];exact e) (qg e nx)
theorem Same.upd2 {H H':Hp}{p:Aj}{o:HO}(s:Same H H')(n:H p=none):Same H (L2.upd H' p o):=λb u e=>by
 rw [wj (qg e n)]
 exact s b u e
theorem qqc {K:Aa}{H:Hp}{p:Aj}{q:Int×Int}(h:SqT K H p [.int q.1,.int q.2]):RD K H (ptD q) (.ref p):=by
 unfold ptD
 rw [RD]
 exact ⟨p,exI rfl ⟨h,by rw [RDs];exact ⟨_,_,rfl,by rw [RD],by rw [RDs];exact ⟨_,_,rfl,by rw [RD],by rw [RDs]⟩⟩⟩⟩
theorem qux {p q:Int×Int}:min (ptD p).depth (ptD q).depth≤60:=by simp [ptD,PyData.depth,PyData.depthAll]
theorem qzg {CB C:Aj}{H:Hp}{p x dx:Aj}{hs:List Int}{Pp:Hp→Prop}{E:XK}(f:H p=some (.lst (hs.map V.int)))(nx:H x=none)(nd:H dx=none)(k:xj hs→∀H',Same H H'→RoadAt C H' x hs→Pp H')(bad:¬ xj hs→∀H',Same H H'→E (.ref CB) none H') :
  Zv K CB C [.ref x,.ref p] (upd (upd H dx (.own x)) x (.ins C dx [])) (λr H2=>r=.non∧Pp H2) E:=by
 refine ⟨x,dx,p,hs,rfl,qh,SqL.of (by rw [wj (qg f nx),wj (qg f nd)];exact f),λok H4 q nq kp r l=>⟨rfl,k ok H4 (ww2 nx nd kp) ⟨dx,q,r,l⟩⟩,λz=>bad z _ ?_⟩
 exact λb o e=>by rw [wj (qg e nx),wj (qg e nd)];exact e
theorem wz4 {hs:List Int}(ok:xj hs)(k:Int):0≤hAt hs k∧hAt hs k≤(hs.length:Int)-1:=by
 unfold hAt
 rw [ay]
 have:=ok.1
 cases e:hs[k.toNat]? with
 |none=>exact ⟨by decide,by show (0:Int)≤_;lia⟩
 |some v=>exact ok.2.2 v (aX e)
theorem wqh {hs:List Int}{t b:Int}(hok:xj hs)(hb:1≤b)(hon:vc hs t b):vc hs (v8 hs t b) b:=by
 have hl1:=hok.1
 have hk:=wkr (hs:=hs) hl1 hb hon.1
 have g1:=wz4 hok (kF hs t b)
 have g2:=wz4 hok (kF hs t b+1)
 have e1:0≤t-kF hs t b*b∧t-kF hs t b*b≤b:=by
  have h1:t/b*b≤t:=fu t (by lia)
  have h2:=dU t (show 0<b by lia)
  unfold kF
  split
  ·next z =>
   have h3:=aF (show (hs.length:Int)-1-1≤t/b by lia) (show 0≤b by lia)
   have h4:=hon.2
   constructor
   ·lia
   ·have:((hs.length:Int)-1)*b=((hs.length:Int)-1-1)*b+b:=by grind
    lia
  ·have:(t/b+1)*b=t/b*b+b:=by grind
   constructor <;> lia
 have r:=wxh (u:=hAt hs (kF hs t b)) (v:=hAt hs (kF hs t b+1)) e1.1 e1.2
 refine ⟨fi ?_ r.1,fi r.2 ?_⟩
 ·refine dv ?_ (by lia)
  split <;> lia
 ·refine aF ?_ (by lia)
  split <;> lia
theorem wkn {hs:List Int}{t b:Int}(hb:1≤b)(hon:vc hs t b):vc hs (wg t b).1 (wg t b).2:=by
 constructor
 ·rcases cu (wg t b).1 0 with z|z
  ·have:=(Yu hb).mp z
   have:=hon.1
   lia
  ·exact z
 ·rcases cu (((hs.length:Int)-1)*(wg t b).2) (wg t b).1 with z|z
  ·have:=(qyb hb).mp z
   have:=hon.2
   lia
  ·exact z
def itP (hs:List Int)(p:Int×Int):Nat→Int×Int
 |0=>p
 |n+1=>yg hs (itP hs p n).1 (itP hs p n).2
def Pt (hs:List Int)(c:Int)(p:Int×Int):Prop:=1≤p.2∧p.2≤c∧gOf p.1 p.2=1∧vc hs p.1 p.2
theorem quy {hs:List Int}{t b:Int}(hb:1≤b)(hon:vc hs t b):Pt hs b (wg t b):=⟨Wc hb,qj7 hb,qy8 hb,wkn hb hon⟩
theorem wju {hs:List Int}{c:Int}{p:Int×Int}(hok:xj hs)(h:Pt hs c p):Pt hs c (yg hs p.1 p.2):=by
 have a:=quy h.1 (wqh hok h.1 h.2.2.2)
 exact ⟨a.1,fi a.2.1 h.2.1,a.2.2.1,a.2.2.2⟩
theorem wqs {hs:List Int}{c:Int}{p:Int×Int}(hok:xj hs)(h:Pt hs c p):∀n,Pt hs c (itP hs p n)
 |0=>h
 |n+1=>wju hok (wqs hok h n)
def trT (hs:List Int)(t b:Int):Nat→Int
 |0=>t
 |n+1=>v8 hs (trT hs t b n) b
theorem qq6 {hs:List Int}{t b:Int}(hok:xj hs)(hb:1≤b)(hon:vc hs t b):∀n,vc hs (trT hs t b n) b
 |0=>hon
 |n+1=>wqh hok hb (qq6 hok hb hon n)
theorem wqt {hs:List Int}{t b:Int}(hb:1≤b):∀n,wg (trT hs t b n) b=itP hs (wg t b) n
 |0=>rfl
 |n+1=>by
  show yg hs (trT hs t b n) b=yg hs (itP hs (wg t b) n).1 (itP hs (wg t b) n).2
  rw [←wqt hb n,qw5 hb]
def ptsL (hs:List Int)(p:Int×Int)(n:Nat):List (Int×Int):=(List.range n).map (itP hs p)
theorem qkj (hs:List Int)(p:Int×Int)(n:Nat):(ptsL hs p n).length=n:=by
 unfold ptsL
 rw [ae,aO]
def PtR (H:Hp)(v:V)(p:Int×Int):Prop:=∃a,v=.ref a∧H a=some (.tup [.int p.1,.int p.2])
theorem PtR.same {H H':Hp}{v:V}{p:Int×Int}(h:PtR H v p)(s:Same H H'):PtR H' v p:=by
 obtain ⟨a,e,f⟩:=h
 exact ⟨a,e,s _ _ f⟩
theorem qkq {α β:Type}{F G:α→β→Prop}(h:∀a b,F a b→G a b):∀ {l:List α} {m:List β},Paired F l m→Paired G l m
 |_,_,.nil=>.nil
 |_,_,.cons a t=>.cons (h _ _ a) (qkq h t)
theorem qxz {α β:Type}{F:α→β→Prop}:∀ {l:List α} {m:List β} {i:Nat} {b:β},Paired F l m→m[i]?=some b→∃a,l[i]?=some a∧F a b
 |_,_,0,_,.cons a _,e=>by cases e;exact exI rfl a
 |_,_,i+1,_,.cons _ t,e=>qxz (i:=i) t e
def PtsAt (H:Hp)(q:Aj)(ps:List (Int×Int)):Prop:=∃vs,H q=some (.lst vs)∧Paired (PtR H) vs ps
theorem PtsAt.same {H H':Hp}{q:Aj}{ps:List (Int×Int)}(h:PtsAt H q ps)(s:Same H H'):PtsAt H' q ps:=by
 obtain ⟨vs,f,r⟩:=h
 exact ⟨vs,s _ _ f,qkq (λ_ _ z=>z.same s) r⟩
def Dist {α:Type}(f:Nat→α)(n:Nat):Prop:=∀i j,i<j→j<n→f i≠f j
theorem Dist.mono {α:Type}{f:Nat→α}{m n:Nat}(h:Dist f n)(le:m≤n):Dist f m:=λi j a b=>h i j a (by lia)
theorem Dist.succ {α:Type}{f:Nat→α}{n:Nat}(h:Dist f n)(h':∀j,j<n→f j≠f n):Dist f (n+1):=λi j a b=>by
 rcases (by lia:j<n∨j=n) with z|z
 ·exact h i j a z
 ·subst z
  exact h' i a
theorem shift {α:Type}{f:Nat→α}(st:∀i j,f i=f j→f (i+1)=f (j+1)){n u:Nat}(e:f n=f u):∀k,f (n+k)=f (u+k)
 |0=>e
 |k+1=>st _ _ (shift st e k)
theorem per {α:Type}{f:Nat→α}(st:∀i j,f i=f j→f (i+1)=f (j+1)){n u:Nat}(hu:u<n)(e:f n=f u)(m:Nat):u≤m→f m=f (u+(m-u)%(n-u)):=by
 induction m using Nat.strongRecOn with
 |_ m ih =>
  intro hm
  rcases fh m n with z|z
  ·rw [bW (by lia)]
   congr 1
   lia
  ·have h1:=shift st e (m-n)
   rw [show n+(m-n)=m by lia] at h1
   have h2:=ih (u+(m-n)) (by lia) (by lia)
   rw [h1,h2,show u+(m-n)-u=m-u-(n-u) by lia,←Nat.mod_eq_sub_mod (by lia)]
theorem wjq {m:Int}{n u:Nat}(h:(u:Int)≤m)(hu:u<n):(u:Int)+(m-u)%((n:Int)-u)=((u+(m.toNat-u)%(n-u):Nat):Int):=by
 have e1:m-(u:Int)=((m.toNat-u:Nat):Int):=by lia
 have e2:(n:Int)-(u:Int)=((n-u:Nat):Int):=by lia
 rw [e1,e2]
 push_cast
 rfl
theorem pig (N:Nat):∀l:List Nat,l.Nodup→(∀x∈l,x<N)→l.length≤N:=by
 induction N with
 |zero =>
  intro l _ h
  cases l with
  |nil=>exact ah _
  |cons a r=>exact absurd (h a (.head _)) (by lia)
 |succ N ih =>
  intro l nd h
  by_cases m:N∈l
  ·have h1:=ih (l.erase N) (nd.erase N) λx hx=>by
    have a:=(nd.mem_erase_iff.mp hx)
    have b:=h x a.2
    lia
   rw [eQ m] at h1
   lia
  ·have:=ih l nd λx hx=>by
    have b:=h x hx
    have:x≠N:=λz=>m (z▸hx)
    lia
   lia
theorem pigI {f:Nat→Int}{n:Nat}{B:Int}(h:Dist f n)(b:∀i,0≤f i∧f i≤B):(n:Int)≤B+1:=by
 have h1:=pig (B+1).toNat ((List.range n).map λi=>(f i).toNat) (by
  rw [List.nodup_iff_pairwise_ne,bu]
  refine bN ?_ (dz (n:=n))
  intro i j hi hj hij e
  have:=b i
  have:=b j
  exact h i j hij (bb.mp hj) (by lia)) λx hx=>by
   obtain ⟨i,_,rfl⟩:=ao.mp hx
   have:=b i
   lia
 rw [ae,aO] at h1
 have:=b 0
 lia
theorem qut {hs:List Int}{p:Int×Int}:∀i j,itP hs p i=itP hs p j→itP hs p (i+1)=itP hs p (j+1):=λi j e=>by
 show yg hs (itP hs p i).1 (itP hs p i).2=yg hs (itP hs p j).1 (itP hs p j).2
 rw [e]
theorem Yx {t b:Int}(hb:1≤b)(g:gOf t b=1):wg t b=(t,b):=by
 unfold wg
 rw [g,Int.ediv_one,Int.ediv_one]
theorem it_tr {hs:List Int}{c:Int}{p:Int×Int}(h:Pt hs c p)(n:Nat):itP hs p n=wg (trT hs p.1 p.2 n) p.2:=by
 rw [wqt h.1,Yx h.1 h.2.2.1]
theorem wyw {x y b:Int}(hb:1≤b)(e:wg x b=wg y b):x=y:=by
 have h1:=(qw2 (N:=x) hb).2
 have h2:=(qw2 (N:=y) hb).2
 rw [e] at h1
 lia
theorem it_eq {hs:List Int}{c:Int}{p:Int×Int}(h:Pt hs c p)(i j:Nat):itP hs p i=itP hs p j↔trT hs p.1 p.2 i=trT hs p.1 p.2 j:=by
 rw [it_tr h,it_tr h]
 exact ⟨λe=>wyw h.1 e,λe=>by rw [e]⟩
theorem wjc {hs:List Int}{c:Int}{p:Int×Int}(h:Pt hs c p){n:Nat}(d:Dist (itP hs p) n):Dist (trT hs p.1 p.2) n:=λi j a b e=>d i j a b ((it_eq h i j).mpr e)
theorem wjm {hs:List Int}{c:Int}{p:Int×Int}(hok:xj hs)(h:Pt hs c p){n:Nat}(d:Dist (itP hs p) n):(n:Int)≤((hs.length:Int)-1)*p.2+1 :=
 pigI (wjc h d) λi=>qq6 hok h.1 h.2.2.2 i
def yh (p:Int×Int):List Key:=[.inl p.1,.inl p.2]
theorem qkg {p q:Int×Int}(e:yh p=yh q):p=q:=by
 unfold yh at e
 simp only [List.cons.injEq,Sum.inl.injEq,and_true] at e
 exact Prod.ext e.1 e.2
def uq {κ:Type}(k:Nat→κ)(n:Nat):List (κ×V):=(List.range n).map λi=>(k i,V.int i)
theorem qxw {κ:Type}(k:Nat→κ)(n:Nat):uq k (n+1)=uq k n++[(k n,V.int n)]:=by
 unfold uq
 rw [cI,ba]
 rfl
theorem uf {κ:Type}(k:Nat→κ)(n:Nat):(uq k n).length=n:=by
 unfold uq
 rw [ae,aO]
theorem qw9 {κ:Type}[DecidableEq κ]{k:Nat→κ}{q:κ}{n:Nat}(h:∀j,j<n→k j≠q):wc (uq k n) q=none:=by
 unfold wc uq
 rw [di.mpr]
 ·rfl
 ·intro x hx
  obtain ⟨i,hi,rfl⟩:=ao.mp hx
  simpa using h i (bb.mp hi)
theorem qxb {κ:Type}[DecidableEq κ]{k:Nat→κ}{j:Nat}:∀ {n:Nat},Dist k n→j<n→wc (uq k n) (k j)=some (.int j)
 |0,_,h=>absurd h (by lia)
 |n+1,d,h=>by
  rw [qxw,Zh _ _ _ _ (qw9 λi hi=>d i n hi (by lia))]
  rcases (by lia:j<n∨j=n) with z|z
  ·rw [af (d j n z (by lia)),qxb (d.mono (by lia)) z]
  ·subst z
   rw [aj rfl]
theorem wqv {α β γ δ:Type}{F:α→β→Prop}{G:α→γ→Prop}(g:δ→β)(f:δ→γ)(h:∀a x,F a (g x)→G a (f x)):∀ {l:List δ} {vs:List α},Paired F vs (l.map g)→Paired G vs (l.map f)
 |[],_,.nil=>.nil
 |_::_,_,.cons a t=>.cons (h _ _ a) (wqv g f h t)
def qzv:Sp:=λvs H Q _=>∃i:Int,vs=[.int i]∧Q (.bl true) H
theorem wzx {f:Aj}{fd:Ad}(F:Fun K "_law_whole" "_law_whole" s__law_whole f fd)(T:Txt K mg qd qm qx qp qf wz wv qr wy q8 qj wb qz qu qw qq):FnOk P w K mg base (CXE P w) 1 f fd ["_law_found"] qzv:=by
 have sc:=qwc
 refine F.okX sc (λvs H Q E h=>by obtain ⟨i,rfl,_⟩:=h;rfl) (λcdv A outer s H vs Q E hr h=>?_)
 obtain ⟨i,rfl,k⟩:=h
 refine ⟨_,(wq (wp (qvk (xq ud rfl T.isinstance_ cL (q9 (pv 0) (q9 (qvm (v:=V.ty "int") rfl T.int_ PyProof.Rows.boot_int rfl) qk))) (qz4 (pe_not (xq ud rfl T.isinstance_ cL (q9 (pv 0) (q9 (qvm (v:=V.ty "bool") rfl T.bool_ PyProof.Rows.boot_bool rfl) qk)))))))),?_⟩
 refine exI rfl ⟨_,_,_,_,rfl,TyOf.int i,rfl,_,rfl,?_⟩
 refine j8 ?_
 refine exI rfl ⟨_,_,_,_,rfl,TyOf.int i,rfl,_,rfl,?_⟩
 exact k
end
section
variable {P:Ac}{w:Ah}{K:Aa}{mg:Str→Option Ag}{base:Heap}{qd:Aj}{qm:Aj}{qx:Aj}{qp:Aj}{qf:Aj}{wz:Aj}{wv:Aj}{qr:Aj}{wy:Aj}{q8:Aj}{qj:Aj}{wb:Aj}{qz:Aj}{qu:Aj}{qw:Aj}{qq:Aj}
def Yd (C CT:Aj):Sp:=λvs H Q E=>∃(r a:Aj) (hs:List Int) (p:Int×Int) (c:Int),vs=[.ref r,.ref a]∧RoadAt C H r hs∧xj hs∧H a=some (.tup [.int p.1,.int p.2])∧Pt hs c p∧Sm 8000 c ∧
 (∀n u q l H',n≤1000→Dist (itP hs p) n→u<n→itP hs p n=itP hs p u→Same H H'→H l=none→H' q=some (.tup [.ref l,.int ((u:Nat):Int)])→PtsAt H' l (ptsL hs p n)→Q (.ref q) H')∧(Dist (itP hs p) 1001→∀H',Same H H'→E (.ref CT) none H')
theorem wxv {f:Aj}{fd:Ad}(F:Fun K "trace" "trace" s_trace f fd)(T:Txt K mg qd qm qx qp qf wz wv qr wy q8 qj wb qz qu qw qq)(c_at:MCal P w K mg base qu "at" 4 (spAt K qu qx qp)):FnOk P w K mg base (CXE P w) 5 f fd ["road","start"] (Yd qu wz):=by
 have sc:=wkv
 refine F.okX sc (λvs H Q E h=>by obtain ⟨r,a,hs,p,c,rfl,_⟩:=h;rfl) (λcdv A outer s H vs Q E hr h=>?_)
 obtain ⟨r,a,hs,p,c,rfl,hR,hok,ha,hP,sc8,k,x⟩:=h
 obtain ⟨dx,q0,h1,h2⟩:=id hR
 obtain ⟨tm,g_LONGEST_TRACE⟩:=T.g_LONGEST_TRACE
 refine ⟨_,(qb (w6 (i:=2) sc.nd rfl (by walk_at "loc") wx3)
   (qb (w6 (i:=3) sc.nd rfl (by walk_at "loc") (pv 1))
   (qb (Jh aP (Q1 (Qw (zy hr) (pv 3) (pv 2))) (qb (x4 (wn ku (xq qxq rfl T.len_ aM (q9 (pv 2) qk)) (yn (v:=V.int 1000) rfl g_LONGEST_TRACE ⟨_,rfl⟩) (w9 _)) (wq (zt rfl T.x_TooLong zu rfl T.g_TooLong (xx xf qk))) xy)
   (qb (jg (zy hr) (pv 2) (pv 3) (xq qxq rfl T.len_ aM (q9 (pv 2) qk)) rfl)
   (wq (w6 (i:=3) sc.nd rfl (by walk_at "loc") (w4 (pv 0) T.cl c_at (hr.mono (by decide)) qy (q9 (pv 3) qk)))))))
   (wq (wp (vw (kj (vb (qy3 rfl) rfl T.list_ br (q9 (pv 2) qk)) (zh (zf (zy hr) (pv 2) (pv 3) (λ_ _=>rfl)) qk)))))))),?_⟩
 refine λD nD=>exI rfl ?_
 refine qjm (λσ H2=>∃(i:Nat) (b:Aj),σ=[some (.ref r),some (.ref a),some (.ref D),some (.ref b)]∧i≤1000∧Dist (itP hs p) i∧Same H H2∧H2 D=some (.dT (uq (λj=>yh (itP hs p j)) i))∧H2 b=some (.tup [.int (itP hs p i).1,.int (itP hs p i).2]))
  (λ_ H2=>match H2 D with|some (.dT kvs)=>1001-kvs.length|_=>0) ⟨0,a,rfl,by lia,λi j _ z=>absurd z (by lia),Same.upd nD,qh,by rw [wj (qg ha nD)];exact ha⟩ ?_ λσ H Q Q' h ⟨v,e,v2,e2,a',o,e3,g,kk,e4,q⟩=>⟨v,e,v2,e2,a',o,e3,g,kk,e4,h _ _ q⟩
 rintro σ H2 ⟨i,b,rfl,hi,hd,s2,f2,fb⟩
 have hd':Dist (λj=>yh (itP hs p j)) i:=λu v uv vi e=>hd u v uv vi (qkg e)
 have fb':H2 b=some (.tup ((yh (itP hs p i)).map kV)):=fb
 by_cases hj:∃j,j<i∧itP hs p j=itP hs p i
 ·obtain ⟨j,ji,je⟩:=hj
  have hv:wc (uq (λj=>yh (itP hs p j)) i) (yh (itP hs p i))=some (.int j):=by
   rw [←je]
   exact qxb hd' ji
  have dg:DGet H2 D (.ref b) (some (.int j)):=by
   have:=DGet.t f2 fb'
   rwa [hv] at this
  refine exI rfl (exI rfl ⟨D,exI rfl ⟨dg,_,rfl,?_⟩⟩)
  refine Qy ?_
  refine exI rfl ⟨D,exI rfl ⟨f2,λl vs nl kat=>?_⟩⟩
  have s3:=Same.upd (o:=.lst vs) nl
  have dg3:DGet (upd H2 l (.lst vs)) D (.ref b) (some (.int j)):=by
   have:=DGet.t (s3 _ _ f2) (s3 _ _ fb')
   rwa [hv] at this
  refine exI rfl (exI rfl ⟨D,exI rfl ⟨dg3,sz2,λq nq=>?_⟩⟩)
  have s4:=s3.trans (Same.upd (o:=.tup [.ref l,.int j]) nq)
  have nl0:H l=none:=by
   cases e:H l with
   |none=>rfl
   |some o=>rw [s2 _ _ e] at nl;cases nl
  refine k i j q l _ hi hd ji je.symm (s2.trans s4) nl0 qh ⟨vs,Same.upd nq _ _ qh,?_⟩
  refine wqv (l:=List.range i) (λj=>(yh (itP hs p j),V.int j)) (itP hs p) (λv j hv=>?_) kat
  obtain ⟨b',rfl,fb2⟩:=hv
  exact ⟨b',rfl,s4 _ _ fb2⟩
 ·have hn:∀j,j<i→itP hs p j≠itP hs p i:=λj a b=>hj ⟨j,a,b⟩
  have hv:wc (uq (λj=>yh (itP hs p j)) i) (yh (itP hs p i))=none:=qw9 λj a b=>hn j a (qkg b)
  have dg:DGet H2 D (.ref b) none:=by
   have:=DGet.t f2 fb'
   rwa [hv] at this
  have hd1:=hd.succ hn
  refine exI rfl (exI rfl ⟨D,exI rfl ⟨dg,_,rfl,?_⟩⟩)
  refine j8 ?_
  refine exI rfl ⟨D,exI rfl ⟨f2,rfl,_,rfl,?_⟩⟩
  rw [uf]
  refine jz (λq1=>?_) (λq1=>?_)
  ·have:i=1000:=by lia
   subst this
   exact ⟨sz1,x hd1 _ s2⟩
  ·refine exI rfl ⟨D,exI rfl ⟨f2,exI rfl (exI rfl ⟨D,exI rfl ⟨DPut.t f2 fb' (wwd (by rw [uf];lia)),?_⟩⟩)⟩⟩
   rw [ux _ hv,uf,←qxw (λj=>yh (itP hs p j)) i]
   have s3:Same H (upd H2 D (.dT (uq (λj=>yh (itP hs p j)) (i+1)))):=Same.upd2 s2 nD
   have db:b≠D:=λz=>by rw [z,f2] at fb;cases fb
   have fb3:upd H2 D (.dT (uq (λj=>yh (itP hs p j)) (i+1))) b=some (.tup [.int (itP hs p i).1,.int (itP hs p i).2]):=by rw [wj db];exact fb
   have f3:upd H2 D (.dT (uq (λj=>yh (itP hs p j)) (i+1))) D=some (.dT (uq (λj=>yh (itP hs p j)) (i+1))):=qh
   generalize upd H2 D (.dT (uq (λj=>yh (itP hs p j)) (i+1)))=H3 at s3 fb3 f3
   have Pn:=wqs hok hP i
   refine ⟨_,rfl,r,dx,_,rfl,s3 _ _ h1,zg (by decide +kernel),_,rfl,r,b,hs,(itP hs p i).1,(itP hs p i).2,rfl,hR.same s3,hok,SqT.of fb3,λ_=>⟨(sc8.of_le (by have:=Pn.2.1;have:=Pn.1;lia)),λ_ p4 H4 s4 f4=>?_,λz=>absurd Pn.2.2.2 z⟩,λz=>absurd Pn.1 (by lia)⟩
   refine ⟨⟨i+1,p4,rfl,by lia,hd1,s3.trans s4,s4 _ _ f3,f4⟩,?_⟩
   show (match H4 D with|some (.dT kvs)=>1001-kvs.length|_=>0)<(match H2 D with|some (.dT kvs)=>1001-kvs.length|_=>0)
   rw [s4 _ _ f3,f2]
   show 1001-(uq (λj=>yh (itP hs p j)) (i+1)).length<1001-(uq (λj=>yh (itP hs p j)) i).length
   rw [uf,uf]
   lia
def TrAt (H:Hp)(l:Aj)(hs:List Int)(p:Int×Int)(n u:Nat):Prop:=n≤1000∧Dist (itP hs p) n∧u<n∧itP hs p n=itP hs p u∧PtsAt H l (ptsL hs p n)
def qz9:Sp:=λvs H Q _=>∃(l:Aj) (hs:List Int) (p:Int×Int) (n u:Nat) (m:Int),vs=[.ref l,.int u,.int m]∧TrAt H l hs p n u∧0≤m∧∀a,H a=some (.tup [.int (itP hs p m.toNat).1,.int (itP hs p m.toNat).2])→Q (.ref a) H
theorem qyt {H:Hp}{hs:List Int}{p:Int×Int}{n i:Nat}{vs:List V}(h:Paired (PtR H) vs (ptsL hs p n))(hi:i<n):∃a,vs[i]?=some (.ref a)∧H a=some (.tup [.int (itP hs p i).1,.int (itP hs p i).2]):=by
 obtain ⟨v,ev,⟨a,rfl,fa⟩⟩:=qxz (i:=i) (b:=itP hs p i) h (by
  unfold ptsL
  rw [aK,dY hi]
  rfl)
 exact ⟨a,ev,fa⟩
theorem wy5 {f:Aj}{fd:Ad}(F:Fun K "spot" "spot" s_spot f fd)(T:Txt K mg qd qm qx qp qf wz wv qr wy q8 qj wb qz qu qw qq):FnOk P w K mg base (CXE P w) 1 f fd ["points","turn","many"] qz9:=by
 have sc:=wy0
 refine F.okX sc (λvs H Q E h=>by obtain ⟨l,hs,p,n,u,m,rfl,_⟩:=h;rfl) (λcdv A outer s H vs Q E hr h=>?_)
 obtain ⟨l,hs,p,n,u,m,rfl,⟨n1,hd,hu,e,vs,fl,pr⟩,m0,k⟩:=h
 have hlen:vs.length=n:=by rw [pr.length,qkj]
 refine ⟨_,(qb (x4 (wn uh (pv 2) (pv 1) (w9 _)) (wq (wp (zq vk (pv 0) (pv 2) (λ_ _=>rfl)))) xy)
   (wq (wp (zq vk (pv 0) (wm xm (pv 1) (wm jq (wm kh (pv 2) (pv 1)) (wm kh (xq xb rfl T.len_ aM (q9 (pv 0) qk)) (pv 1)))) (λ_ _=>rfl))))),?_⟩
 refine exI rfl (exI rfl (wt rfl rfl (exI rfl ?_)))
 refine k6 (λq1=>?_) (λq1=>?_)
 ·obtain ⟨a,ea,fa⟩:=qyt (i:=m.toNat) pr (by lia)
  refine exI rfl (exI rfl (exX rfl rfl (SqL.of fl) ?_ (k a fa)))
  have:=Yv ea
  rwa [Int.toNat_of_nonneg m0] at this
 ·have hm:(u:Int)≤m:=by lia
  have lt:=ca (m.toNat-u) (show 0<n-u by lia)
  obtain ⟨a,ea,fa⟩:=qyt (i:=u+(m.toNat-u)%(n-u)) pr (by lia)
  rw [←per qut hu e m.toNat (by lia)] at fa
  refine exI rfl (exI rfl (exI rfl (exI rfl (wt rfl rfl (exI rfl ⟨_,_,rfl,.inl (SqL.of fl),exI rfl (wt rfl rfl (wt rfl rfl ⟨?_,wt rfl rfl (exX rfl rfl (SqL.of fl) ?_ (k a fa))⟩))⟩)))))
  ·rw [hlen]
   show (0:Int)<(n:Int)-u
   lia
  ·rw [hlen,wjq hm hu]
   exact Yv ea
def qzs (K:Aa):Sp:=λvs H Q _=>∃(p:Aj) (hs:List Int) (t b:Int),vs=[.ref p,.int t,.int b]∧SqL K H p (hs.map V.int)∧xj hs∧1≤b∧Sm 4000 b∧vc hs t b∧Q (.int (v8 hs t b)) H
theorem wjn {f:Aj}{fd:Ad}(F:Fun K "_law_step" "_law_step" s__law_step f fd)(T:Txt K mg qd qm qx qp qf wz wv qr wy q8 qj wb qz qu qw qq):FnOk P w K mg base (CXE P w) 1 f fd ["_law_heights_here","_law_top","_law_bottom"] (qzs K):=by
 have sc:=qzj
 refine F.okX sc (λvs H Q E h=>by obtain ⟨p,hs,t,b,rfl,_⟩:=h;rfl) (λcdv A outer s H vs Q E hr h=>?_)
 obtain ⟨p,hs,t,b,rfl,hS,hok,hb,sb,hon,k⟩:=h
 rw [←wkh hok.1 hb hon.1 hon.2] at k
 have hl:=hok.2.1
 have k0:=fo hon.1 (show (0:Int)≤b by lia)
 have k1:t/b≤(hs.length:Int)-1:=by
  have:=Int.ediv_le_ediv (show 0<b by lia) hon.2
  rwa [Int.mul_ediv_cancel _ (show b≠0 by lia)] at this
 have g1:=qu1 hok (t/b)
 have g2:=qu1 hok (t/b+1)
 refine ⟨_,(qb (w6 (i:=3) sc.nd rfl (by walk_at "loc") (wm jb (pv 1) (pv 2)))
   (qb (x4 (wn ku (wm zk (pv 3) (pv 2)) (pv 1) (w9 _)) (wq (wp (wm zk (zq vk (pv 0) (pv 3) (λ_ _=>rfl)) (pv 2)))) xy)
   (wq (wp (wm xm (wm zk (zq vk (pv 0) (pv 3) (λ_ _=>rfl)) (pv 2)) (wm zk (wm kh (zq vk (pv 0) (wm xm (pv 3) wx) (λ_ _=>rfl)) (zq vk (pv 0) (pv 3) (λ_ _=>rfl))) (wm kh (pv 1) (wm zk (pv 3) (pv 2))))))))),?_⟩
 refine exI rfl (exI rfl (wt rfl rfl ⟨⟨by lia,sb.mono (by decide)⟩,exI rfl (exI rfl (wt rfl rfl ⟨IntMulOk.of_left (intBits_le_64 (by lia) (by lia)),exI rfl ⟨rfl,_,rfl,?_⟩⟩))⟩))
 refine jz (λq1=>?_) (λq1=>?_)
 ·refine exI rfl (exI rfl (exX rfl rfl hS (at_h k0 (by lia)) (exI rfl (wt rfl rfl ⟨IntMulOk.of_left (intBits_le_64 (by lia) (by lia)),?_⟩))))
  rw [qu6,aj q1] at k
  exact k
 ·have k2:t/b<(hs.length:Int)-1:=by
   rcases cu (t/b) ((hs.length:Int)-1) with z|z
   ·exact z
   ·have e:t/b=(hs.length:Int)-1:=by lia
    have h1:t/b*b≤t:=fu t (by lia)
    have h2:=hon.2
    rw [←e] at h2
    exact absurd (by lia) q1
  refine exI rfl (exI rfl (exX rfl rfl hS (at_h k0 (by lia)) (exI rfl (wt rfl rfl ⟨IntMulOk.of_left (intBits_le_64 (by lia) (by lia)),exI rfl (exI rfl (wt rfl rfl (exX rfl rfl hS (at_h (by lia) (by lia)) (exI rfl (exI rfl (exX rfl rfl hS (at_h k0 (by lia)) (wt rfl rfl (exI rfl (exI rfl (exI rfl (wt rfl rfl ⟨IntMulOk.of_left (intBits_le_64 (by lia) (by lia)),wt rfl rfl (wt rfl rfl ⟨IntMulOk.of_left (intBits_le_64 (by lia) (by lia)),wt rfl rfl ?_⟩)⟩)))))))))))⟩))))
  rw [qu6,af q1] at k
  exact k
def qvv (K:Aa):Sp:=λvs H Q _=>∃(a:Aj) (ns:List Int) (i wd mo:Int),vs=[.ref a,.int i,.int wd,.int mo]∧SqL K H a (ns.map V.int)∧0≤i∧1≤wd∧wd≤24∧6≤mo∧mo≤1000 ∧
 ∀p t b c,H p=none→1≤b→b≤mo→1≤c→c≤3→0≤t→t≤wd*b→Q (.ref p) (upd H p (.tup [.int (t*c),.int (b*c)]))
theorem wkk {f:Aj}{fd:Ad}(F:Fun K "_law_spot" "_law_spot" s__law_spot f fd)(T:Txt K mg qd qm qx qp qf wz wv qr wy q8 qj wb qz qu qw qq)(c__law_pick:Cal P w K mg base "_law_pick" 2 (y0 K)):FnOk P w K mg base (CXE P w) 3 f fd ["_law_script","_law_at","_law_wide","_law_most"] (qvv K):=by
 have sc:=qx2
 refine F.okX sc (λvs H Q E h=>by obtain ⟨a,ns,i,wd,mo,rfl,_⟩:=h;rfl) (λcdv A outer s H vs Q E hr h=>?_)
 obtain ⟨a,ns,i,wd,mo,rfl,hS,i0,w1,w2,o1,o2,k⟩:=h
 refine ⟨_,(qb (w6 (i:=4) sc.nd rfl (by walk_at "loc") (wm xm wx (wf c__law_pick (hr.mono (by decide)) rfl qy (q9 (pv 0) (q9 (pv 1) (xx wx (q9 (pv 3) qk)))))))
   (qvc (x4 (wn ku (wf c__law_pick (hr.mono (by decide)) rfl qy (q9 (pv 0) (q9 (pv 1) (xx wx (xx wx qk))))) wx (w9 _)) (wq (w6 (i:=4) sc.nd rfl (by walk_at "loc") (wm xm wx (wm jq (pv 4) wx)))) xy)
   (qb (w6 (i:=5) sc.nd rfl (by walk_at "loc") (wm xm (wm zk (wf c__law_pick (hr.mono (by decide)) rfl qy (q9 (pv 0) (q9 (pv 1) (xx wx (q9 (pv 2) qk))))) (pv 4)) (wf c__law_pick (hr.mono (by decide)) rfl qy (q9 (pv 0) (q9 (pv 1) (xx wx (zp (wm xm (pv 4) wx) qk)))))))
   (qb (w6 (i:=6) sc.nd rfl (by walk_at "loc") (wm xm wx (wf c__law_pick (hr.mono (by decide)) rfl qy (q9 (pv 0) (q9 (pv 1) (xx wx (xx wx qk)))))))
   (wq (wp (vw (zp (wm zk (pv 5) (pv 6)) (zp (wm zk (pv 4) (pv 6)) qk))))))))),?_⟩
 refine exI rfl (exI rfl (exI rfl ⟨a,ns,_,_,_,rfl,hS,i0,(by lia),(by lia),(by lia),λr1 _ l1 u1=>?_⟩))
 refine ⟨_,_,rfl,rfl,λσ H'=>∃b,σ=[some (.ref a),some (.int i),some (.int wd),some (.int mo),some (.int b),none,none]∧1≤b∧b≤mo∧H'=H,?_,?_⟩
 ·refine exI rfl (exI rfl ⟨a,ns,_,_,_,rfl,hS,i0,(by lia),(by lia),(by lia),λr2 _ l2 u2=>?_⟩)
  refine ⟨rfl,_,rfl,jz (λq1=>?_) (λq1=>?_)⟩
  ·have e1:=bE (1+r1) (show (6:Int)≠0 by decide)
   have e2:=bj (1+r1) (show (0:Int)<6 by decide)
   exact ⟨_,rfl,_,_,rfl,rfl,(by walk_at "pos"),_,_,rfl,rfl,_,rfl,by lia,by lia,rfl⟩
  ·exact ⟨_,rfl,by lia,by lia,rfl⟩
 ·rintro σ Hx ⟨b,rfl,b1,b2,rfl⟩
  refine exI rfl (exI rfl (exI rfl ⟨a,ns,_,_,_,rfl,hS,i0,(by lia),(by lia),(by lia),λr3 _ l3 u3=>?_⟩))
  refine exI rfl (wt rfl rfl ⟨(by walk_at "mul"),exI rfl (exI rfl (exI rfl (wt rfl rfl ⟨a,ns,_,_,_,rfl,hS,i0,(by lia),(by lia),(by lia),λr4 _ l4 u4=>?_⟩)))⟩)
  refine wt rfl rfl ?_
  refine exI rfl (exI rfl ⟨a,ns,_,_,_,rfl,hS,i0,(by lia),(by lia),(by lia),λr5 _ l5 u5=>?_⟩)
  refine wt rfl rfl ?_
  have h1:=aF (show r3≤wd-1 by lia) (show 0≤b by lia)
  have h2:(wd-1)*b=wd*b-b:=by rw [Int.sub_mul,Int.one_mul]
  have h3:=dv l3 (show 0≤b by lia)
  refine exI rfl ⟨V.int (1+r5),rfl,wt rfl rfl ⟨(by walk_at "mul"),exI rfl ⟨V.int (1+r5),rfl,wt rfl rfl ⟨(by walk_at "mul"),sz2,λp np=>?_⟩⟩⟩⟩
  exact k p _ b (1+r5) np b1 b2 (by lia) (by lia) (by lia) (by lia)
end
section
variable {P:Ac}{w:Ah}{K:Aa}{mg:Str→Option Ag}{base:Heap}{qd:Aj}{qm:Aj}{qx:Aj}{qp:Aj}{qf:Aj}{wz:Aj}{wv:Aj}{qr:Aj}{wy:Aj}{q8:Aj}{qj:Aj}{wb:Aj}{qz:Aj}{qu:Aj}{qw:Aj}{qq:Aj}
def qum (c:Nat):Bool:=!(Builtin.Str.occurrences (Str.ofString "abcdefghijklmnopqrstuvwxyz") ⟨#[c]⟩ 0 (Str.ofString "abcdefghijklmnopqrstuvwxyz").length 1).isEmpty
def jv (x:Str):Bool:=decide (1≤x.length∧x.length≤12)&&(List.range x.cps.size).all λi=>qum (x.cps.getD i 0)
def qqs:Sp:=λvs H Q _=>∃x:Str,vs=[.str x]∧x.length≤1000∧∀H',Same H H'→Q (.bl (jv x)) H'
theorem qy9 {f:Aj}{fd:Ad}(F:Fun K "is_name" "is_name" s_is_name f fd)(T:Txt K mg qd qm qx qp qf wz wv qr wy q8 qj wb qz qu qw qq):FnOk P w K mg base (CXE P w) 1 f fd ["name"] qqs:=by
 have sc:=qyq
 refine F.okX sc (λvs H Q E h=>by obtain ⟨x,rfl,_⟩:=h;rfl) (λcdv A outer s H vs Q E hr h=>?_)
 obtain ⟨x,rfl,hx,k⟩:=h
 obtain ⟨tn,g_LONGEST_NAME⟩:=T.g_LONGEST_NAME
 obtain ⟨tl,g_LETTERS⟩:=T.g_LETTERS
 have big:(1000000:Nat)<sizeLine:=by decide
 refine ⟨_,(qb (x4 (PW.pt (Qc (wn uh (xq Wn rfl T.len_ aM (q9 (pv 0) qk)) wx (w9 _)) (yq (wn Qh (xq Wn rfl T.len_ aM (q9 (pv 0) qk)) (yn (v:=V.int 12) rfl g_LONGEST_NAME ⟨_,rfl⟩) (w9 _))))) (wq (wp W7)) xy)
   (wq (wp (xq (qwx rfl) rfl T.all_ wxf (xv (u9 (M:=[]) rfl rfl (by walk_at "cap") (by walk_at "has") (by walk_at "cix") rfl (by decide +kernel) rfl (show List.Nodup (["sign"]:List Str) by decide +kernel) (pi_str (pv 0)) (λ_ _ _ _ _=>(Qv wwq (pv 0) (yn (v:=V.str "abcdefghijklmnopqrstuvwxyz") rfl g_LETTERS ⟨_,rfl⟩) rfl))) qk))))),?_⟩
 refine ⟨_,rfl,x,rfl,by lia,_,_,rfl,rfl,_,rfl,?_⟩
 have no:∀z:¬ (1≤x.length∧x.length≤12),jv x=false:=λz=>by unfold jv;rw [bh z];rfl
 refine k6 (λq1=>?_) (λq1=>?_)
 ·refine j8 ?_
  have:=k H (Same.refl _)
  rw [no (by lia)] at this
  exact this
 ·refine ⟨_,rfl,x,rfl,by lia,_,_,rfl,rfl,_,rfl,k6 (λq2=>?_) (λq2=>?_)⟩
  ·have:=k H (Same.refl _)
   rw [no (by lia)] at this
   exact this
  ·refine exI rfl ⟨x,rfl,wzj (λi=>.bl (qum (x.cps.getD i 0))) (by show x.length≤1000000;lia) (λi H' R hi hs hR=>?_) λp np=>?_⟩
   ·exact exI rfl (wt rfl rfl hR)
   ·have e:jv x=((List.range x.cps.size).map λi=>qum (x.cps.getD i 0)).all id:=by
     unfold jv
     rw [bn (show 1≤x.length∧x.length≤12 by lia),List.all_map]
     rfl
    refine ⟨p,(List.range x.cps.size).map λi=>qum (x.cps.getD i 0),rfl,?_,?_⟩
    ·rw [bU]
     exact SqL.new
    ·rw [←e]
     exact k _ (Same.upd np)
def Qz (CN CT:Aj):Sp:=λvs H Q E=>∃(x:Str) (d:Aj) (kvs:List (Key×V)),vs=[.str x,.ref d]∧x.length≤1000∧H d=some (.dK kvs) ∧
 (jv x=true→wc kvs (.inr x)=none→∀H',Same H H'→Q .non H')∧(jv x=false→∀H',Same H H'→E (.ref CN) none H')∧(jv x=true→(wc kvs (.inr x)).isSome=true→∀H',Same H H'→E (.ref CT) none H')
theorem qjc {f:Aj}{fd:Ad}(F:Fun K "check_new_name" "check_new_name" s_check_new_name f fd)(T:Txt K mg qd qm qx qp qf wz wv qr wy q8 qj wb qz qu qw qq)(c_is_name:Cal P w K mg base "is_name" 1 qqs):FnOk P w K mg base (CXE P w) 2 f fd ["name","things"] (Qz qr wy):=by
 have sc:=Wm
 refine F.okX sc (λvs H Q E h=>by obtain ⟨x,d,kvs,rfl,_⟩:=h;rfl) (λcdv A outer s H vs Q E hr h=>?_)
 obtain ⟨x,d,kvs,rfl,hx,hd,k,kn,kt⟩:=h
 refine ⟨_,(qb (x4 (qqg (qq3 (wf c_is_name (hr.mono (by decide)) rfl qy (q9 (pv 0) qk)))) (wq (zt rfl T.x_BadName zu rfl T.g_BadName (xx xf qk))) xy)
   (wq (x4 (Q1 (quc (zy hr) (pv 0) (pv 1))) (wq (zt rfl T.x_Taken zu rfl T.g_Taken (xx xf qk))) xy))),?_⟩
 refine exI rfl ⟨x,rfl,hx,λH1 s1=>(exI rfl ?_)⟩
 have dg:DGet H1 d (.str x) (wc kvs (.inr x)):=DGet.k (k:=.inr x) (s1 _ _ hd)
 cases hn:jv x with
 |false=>exact j8 ⟨sz1,kn hn H1 s1⟩
 |true =>
  refine Qy (exI rfl (exI rfl ⟨d,exI rfl ⟨dg,_,rfl,?_⟩⟩))
  cases hv:wc kvs (.inr x) with
  |none=>exact Qy (k hn hv H1 s1)
  |some v=>exact j8 ⟨sz1,kt hn (by rw [hv];rfl) H1 s1⟩
def qz8:Sp:=λvs H Q _=>∃(t c:Aj) (R cs:List (Key×V)),vs=[.ref t,.ref c]∧t≠c∧H t=some (.dK R)∧Rd H c (.dK cs)∧(cs.map (·.1)).Nodup∧R.length≤1000∧cs.length≤1000∧qkc R cs ∧
 ∀q H',H q=none→H' q=some (.dK (bfK R cs))→H' t=some (.dK (exK R cs))→Rd H' c (.dK cs)→Kb [t,c] H H'→Q (.ref q) H'
theorem wym {f:Aj}{fd:Ad}(F:Fun K "exchange" "exchange" s_exchange f fd)(T:Txt K mg qd qm qx qp qf wz wv qr wy q8 qj wb qz qu qw qq):FnOk P w K mg base (CXE P w) 1 f fd ["things","changes"] qz8:=by
 have sc:=qk8
 refine F.okX sc (λvs H Q E h=>by obtain ⟨t,c,R,cs,rfl,_⟩:=h;rfl) (λcdv A outer s H vs Q E hr h=>?_)
 obtain ⟨t,c,R,cs,rfl,tc,ht,hc,nd,lR,lc,ok,k⟩:=h
 have big:(1000000:Nat)<sizeLine:=by decide
 refine ⟨_,(qb (Zr (i:=2) (M:=[0]) sc.nd rfl (by walk_at "loc") rfl rfl (by walk_at "cap") (by walk_at "has") (by walk_at "cix") rfl (by decide +kernel) rfl (show List.Nodup (["name","things"]:List Str) by decide +kernel) (pi_dk (pv 1)) (λ_ _ _ _ _=>(pv 0)) (λ_ _ _ _ _=>(wx6 (zy hr) (pv 1) (pv 0) ⟨rfl,rfl,rfl,rfl⟩)))
   (qb (jj aP rfl (pi_di (pv 1)) (ju rfl (xh (xu (i:=3) sc.nd rfl (by walk_at "loc")) (xh (xu (i:=4) sc.nd rfl (by walk_at "loc")) vp))) (wq (x4 (wn op_isN (pv 4) qqh (w9 _)) (wq (wyt (pv 0) (pv 3))) (wq (jg (zy hr) (pv 0) (pv 3) (pv 4) rfl)))))
   (wq (wp (pv 2))))),?_⟩
 refine exI rfl ⟨c,cs,rfl,hc,λo H1 fz=>?_⟩
 have ht1:H1 t=some (.dK R):=by rw [fz.2 t tc];exact ht
 refine wvm (λk=>(wc R k).getD .non) (by lia) nd fz.1 (λk H' RR s' hR=>(exI rfl (exI rfl ⟨t,rfl,.inl ⟨R,.inl (s' _ _ ht1)⟩,exI rfl ⟨_,DGet.k (k:=k) (s' _ _ ht1),hR⟩⟩))) λq nq=>?_
 have nq0:H q=none:=by
  cases e:H q with
  |none=>rfl
  |some ob =>
   by_cases z:q=c
   ·rw [z,fz.1] at nq;cases nq
   ·rw [fz.2 q z,e] at nq;cases nq
 have s2:Same H1 (upd H1 q (.dK (bfK R cs))):=Same.upd nq
 have fq:upd H1 q (.dK (bfK R cs)) q=some (.dK (bfK R cs)):=qh
 have c2:upd H1 q (.dK (bfK R cs)) c=some (.frz o (.dK cs)):=s2 _ _ fz.1
 have t2:upd H1 q (.dK (bfK R cs)) t=some (.dK R):=s2 _ _ ht1
 have tq:t≠q:=qg ht1 nq
 have kb:Kb [t,c] H (upd H1 q (.dK (bfK R cs))):=λb ob nb e=>s2 _ _ (by rw [fz.2 b (λz=>nb (by simp [z]))];exact e)
 have sel:(cs.map λc=>(c.1,(wc R c.1).getD .non))=bfK R cs:=rfl
 rw [sel]
 generalize upd H1 q (.dK (bfK R cs))=H2 at fq c2 t2 kb
 refine exI rfl ⟨c,cs,rfl,.inr ⟨o,c2⟩,λo' H3 fz3=>?_⟩
 have cq:q≠c:=λz=>by rw [z,c2] at fq;cases fq
 have t3:H3 t=some (.dK R):=by rw [fz3.2 t tc];exact t2
 have q3:H3 q=some (.dK (bfK R cs)):=by rw [fz3.2 q cq];exact fq
 have kb3:Kb [t,c] H H3:=λb ob nb e=>by rw [fz3.2 b (λz=>nb (by simp [z]))];exact kb b ob nb e
 refine for_di (λi σ H'=>(∃z3 z4,σ=[some (.ref t),some (.ref c),some (.ref q),z3,z4])∧H' c=some (.frz o' (.dK cs))∧H' q=some (.dK (bfK R cs))∧H' t=some (.dK (exK R (cs.take i)))∧Kb [t,c] H H') ⟨⟨_,_,rfl⟩,fz3.1,q3,t3,kb3⟩ (λi σ H' hi h=>h.2.1) ?_ ?_
 ·rintro i cc z σ H' ec nz ⟨⟨z3,z4,rfl⟩,a1,a2,a3,a4⟩
  have s4:Same H' (upd H' z (.tup [kV cc.1,cc.2])):=Same.upd nz
  refine ⟨z,exI rfl ⟨SqT.new,rfl,_,_,rfl,_,_,rfl,rfl,?_⟩⟩
  have b1:=s4 _ _ a1
  have b2:=s4 _ _ a2
  have b3:=s4 _ _ a3
  have b4:Kb [t,c] H (upd H' z (.tup [kV cc.1,cc.2])):=λb ob nb e=>s4 _ _ (a4 b ob nb e)
  generalize upd H' z (.tup [kV cc.1,cc.2])=H4 at b1 b2 b3 b4
  have le:=wjs R (cs.take i)
  have lt:(cs.take i).length≤1000:=by rw [bG];lia
  have et:=wyh R ec
  have tq':t≠q:=tq
  have step:∀R',ex1 (exK R (cs.take i)) cc=R'→(∃z3' z4',[some (V.ref t),some (V.ref c),some (V.ref q),some (kV cc.1),some cc.2]=[some (V.ref t),some (V.ref c),some (V.ref q),z3',z4'])∧upd H4 t (.dK R') c=some (.frz o' (.dK cs))∧upd H4 t (.dK R') q=some (.dK (bfK R cs))∧upd H4 t (.dK R') t=some (.dK (exK R (cs.take (i+1))))∧Kb [t,c] H (upd H4 t (.dK R')):=λR' e=>by
   refine ⟨⟨_,_,rfl⟩,?_,?_,?_,λb ob nb e'=>?_⟩
   ·rw [wj (aZ tc)];exact b1
   ·rw [wj (aZ tq')];exact b2
   ·rw [qh,et,e]
   ·rw [wj (λz=>nb (by simp [z]))];exact b4 b ob nb e'
  refine exI rfl ⟨rfl,_,rfl,k6 (λhn=>?_) (λhn=>?_)⟩
  ·exact exI rfl (exI rfl ⟨t,_,cc.1,rfl,b3,rfl,ok i cc ec hn,step _ (by unfold ex1;rw [aj hn])⟩)
  ·exact exI rfl (exI rfl (exI rfl ⟨t,exI rfl ⟨DPut.k (k:=cc.1) b3 (by lia),step _ (by unfold ex1;rw [af hn])⟩⟩))
 ·rintro σ H' ⟨⟨z3,z4,rfl⟩,a1,a2,a3,a4⟩
  rw [fc] at a3
  exact exI rfl (k q H' nq0 a2 a3 (.inr ⟨o',a1⟩) a4)
end
section
variable {P:Ac}{w:Ah}{K:Aa}{mg:Str→Option Ag}{base:Heap}{qd:Aj}{qm:Aj}{qx:Aj}{qp:Aj}{qf:Aj}{wz:Aj}{wv:Aj}{qr:Aj}{wy:Aj}{q8:Aj}{qj:Aj}{wb:Aj}{qz:Aj}{qu:Aj}{qw:Aj}{qq:Aj}
def hF (dr dw dd:Aj):List (Str×V):=[("roads",.ref dr),("walkers",.ref dw),("done",.ref dd)]
theorem vd {dr dw dd:Aj}:(hF dr dw dd).lookup ("roads" : Str)=some (.ref dr):=by unfold hF;rw [aC];simp
theorem zm {dr dw dd:Aj}:(hF dr dw dd).lookup ("walkers" : Str)=some (.ref dw):=by
 unfold hF
 rw [aC,show (("walkers" : Str)==("roads" : Str))=false by decide +kernel]
 dsimp only
 rw [aC]
 simp
theorem Qx {dr dw dd:Aj}:(hF dr dw dd).lookup ("done" : Str)=some (.ref dd):=by
 unfold hF
 rw [aC,show (("done" : Str)==("roads" : Str))=false by decide +kernel]
 dsimp only
 rw [aC,show (("done" : Str)==("walkers" : Str))=false by decide +kernel]
 dsimp only
 rw [aC]
 simp
theorem xz {dr dw dd:Aj}{m:Str}(h1:¬ m = "roads")(h2:¬ m = "walkers")(h3:¬ m = "done"):(hF dr dw dd).lookup m=none:=by
 unfold hF
 rw [aC,aI.mpr h1]
 dsimp only
 rw [aC,aI.mpr h2]
 dsimp only
 rw [aC,aI.mpr h3]
 rfl
structure Hse (C:Aj)(H:Hp)(x dr dw dd:Aj)(R W:List (Key×V))(D:List V):Prop where
 ob:∃dx,H x=some (.ins C dx (hF dr dw dd))
 r:H dr=some (.dK R)
 w:H dw=some (.dK W)
 d:H dd=some (.lst D)
 ne:dr≠dw
theorem Hse.kb {C:Aj}{H H':Hp}{x dr dw dd:Aj}{R W:List (Key×V)}{D:List V}(h:Hse C H x dr dw dd R W D){ch:List Aj}(k:Kb ch H H')(n:x∉ch∧dr∉ch∧dw∉ch∧dd∉ch):Hse C H' x dr dw dd R W D:=by
 obtain ⟨dx,e⟩:=h.ob
 exact ⟨⟨dx,k _ _ n.1 e⟩,k _ _ n.2.1 h.r,k _ _ n.2.2.1 h.w,k _ _ n.2.2.2 h.d,h.ne⟩
theorem Hse.same {C:Aj}{H H':Hp}{x dr dw dd:Aj}{R W:List (Key×V)}{D:List V}(h:Hse C H x dr dw dd R W D)(s:Same H H'):Hse C H' x dr dw dd R W D:=h.kb (ch:=[]) (Kb.of s) ⟨am,am,am,am⟩
def qzp (C:Aj):Sp:=λvs H Q _=>∃x dx,vs=[.ref x]∧H x=some (.ins C dx [])∧∀H' dr dw dd,H dr=none→H dw=none→H dd=none→Hse C H' x dr dw dd [] [] []→Kb [x] H H'→Q .non H'
theorem wzq {f:Aj}{fd:Ad}(F:Fun K "__init__" "House.__init__" s_House___init__ f fd)(T:Txt K mg qd qm qx qp qf wz wv qr wy q8 qj wb qz qu qw qq):FnOk P w K mg base (CXE P w) 1 f fd ["self"] (qzp qq):=by
 have sc:=Q8
 refine F.okX sc (λvs H Q E h=>by obtain ⟨x,dx,rfl,_⟩:=h;rfl) (λcdv A outer s H vs Q E hr h=>?_)
 obtain ⟨x,dx,rfl,hx,k⟩:=h
 refine ⟨_,(qb (Q7 (pv 0) k8 rfl)
   (qb (Q7 (pv 0) k8 rfl)
   (wq (Q7 (pv 0) (yw qk) rfl)))),?_⟩
 refine λdr n1=>exI rfl ⟨x,qq,dx,[],rfl,(by rw [wj (qg hx n1)];exact hx),T.clH,T.naHr,(by show 0<1000;decide),?_⟩
 have e1:∀b o,b≠x→H b=some o→upd (upd H dr (.dK [])) x (.ins qq dx (vm "roads" (.ref dr) [])) b=some o:=λb o nb e=>by rw [wj nb,wj (qg e n1)];exact e
 have x1:upd (upd H dr (.dK [])) x (.ins qq dx (vm "roads" (.ref dr) [])) x=some (.ins qq dx (vm "roads" (.ref dr) [])):=qh
 have r1:upd (upd H dr (.dK [])) x (.ins qq dx (vm "roads" (.ref dr) [])) dr=some (.dK []):=by rw [wj (qg hx n1).symm,qh]
 generalize upd (upd H dr (.dK [])) x (.ins qq dx (vm "roads" (.ref dr) []))=H1 at e1 x1 r1
 refine λdw n2=>exI rfl ⟨x,qq,dx,exI rfl ⟨(by rw [wj (qg x1 n2)];exact x1),T.clH,T.naHw,(by show 1<1000;decide),?_⟩⟩
 have xr:x≠dr:=qg hx n1
 have e2:∀b o,b≠x→H1 b=some o→upd (upd H1 dw (.dK [])) x (.ins qq dx (vm "walkers" (.ref dw) (vm "roads" (.ref dr) []))) b=some o:=λb o nb e=>by rw [wj nb,wj (qg e n2)];exact e
 have x2:upd (upd H1 dw (.dK [])) x (.ins qq dx (vm "walkers" (.ref dw) (vm "roads" (.ref dr) []))) x=some (.ins qq dx (vm "walkers" (.ref dw) (vm "roads" (.ref dr) []))):=qh
 have w2:upd (upd H1 dw (.dK [])) x (.ins qq dx (vm "walkers" (.ref dw) (vm "roads" (.ref dr) []))) dw=some (.dK []):=by rw [wj (qg x1 n2).symm,qh]
 have r2:=e2 dr _ xr.symm r1
 generalize upd (upd H1 dw (.dK [])) x (.ins qq dx (vm "walkers" (.ref dw) (vm "roads" (.ref dr) [])))=H2 at e2 x2 w2 r2
 have xw:x≠dw:=qg x1 n2
 refine ⟨sz0,λdd n3=>(exI rfl ⟨x,qq,dx,exI rfl ⟨(by rw [wj (qg x2 n3)];exact x2),T.clH,T.naHd,(by show 2<1000;decide),?_⟩⟩)⟩
 have xd:x≠dd:=qg x2 n3
 have e3:∀b o,b≠x→H2 b=some o→upd (upd H2 dd (.lst [])) x (.ins qq dx (vm "done" (.ref dd) (vm "walkers" (.ref dw) (vm "roads" (.ref dr) [])))) b=some o:=λb o nb e=>by rw [wj nb,wj (qg e n3)];exact e
 have old:∀b o,b≠x→H b=some o→H2 b=some o:=λb o nb e=>e2 b o nb (e1 b o nb e)
 have non:∀b,b≠x→H2 b=none→H b=none:=λb nb e=>by
  cases q:H b with
  |none=>rfl
  |some o=>rw [old b o nb q] at e;cases e
 refine k _ dr dw dd n1 (by
  cases q:H dw with
  |none=>rfl
  |some o=>rw [e1 dw o xw.symm q] at n2;cases n2) (non dd xd.symm n3) ⟨⟨dx,qh⟩,e3 _ _ xr.symm r2,e3 _ _ xw.symm w2,?_,qg r1 n2⟩ λb o nb e=>e3 b o (λz=>nb (by simp [z])) (old b o (λz=>nb (by simp [z])) e)
 rw [wj xd.symm,qh]
def zr (C CN:Aj)(roads:Bool):Sp:=λvs H Q E=>∃(x dr dw dd:Aj) (R W:List (Key×V)) (D:List V) (n:Str),vs=[.ref x,.str n]∧Hse C H x dr dw dd R W D ∧
 (∀v,wc (if roads then R else W) (.inr n)=some v→Q v H)∧(wc (if roads then R else W) (.inr n)=none→E (.ref CN) none H)
theorem Jw {f:Aj}{fd:Ad}(F:Fun K "road_called" "House.road_called" s_House_road_called f fd)(T:Txt K mg qd qm qx qp qf wz wv qr wy q8 qj wb qz qu qw qq):FnOk P w K mg base (CXE P w) 1 f fd ["self","name"] (zr qq q8 true):=by
 have sc:=uk
 refine F.okX sc (λvs H Q E h=>by obtain ⟨x,dr,dw,dd,R,W,D,n,rfl,_⟩:=h;rfl) (λcdv A outer s H vs Q E hr h=>?_)
 obtain ⟨x,dr,dw,dd,R,W,D,n,rfl,hh,k,kx⟩:=h
 obtain ⟨dx,hx⟩:=hh.ob
 have dg:DGet H dr (.str n) (wc R (.inr n)):=DGet.k (k:=.inr n) hh.r
 refine ⟨_,(qb (x4 (Q1 (Qw (zy hr) (pv 1) (xp (pv 0) rfl))) (wq (zt rfl T.x_NoRoad zu rfl T.g_NoRoad (xx xf qk))) xy)
   (wq (wp (zf (zy hr) (xp (pv 0) rfl) (pv 1) (λ_ _=>rfl))))),?_⟩
 refine exI rfl (exI rfl ⟨x,qq,dx,_,_,rfl,hx,T.clH,T.naHr,vd,dr,exI rfl ⟨dg,_,rfl,?_⟩⟩)
 cases e:wc R (.inr n) with
 |none=>exact j8 ⟨sz1,kx e⟩
 |some v =>
  rw [e] at dg
  exact Qy (exI rfl ⟨x,qq,dx,_,_,rfl,hx,T.clH,T.naHr,vd,exI rfl ⟨dr,v,rfl,dg,k v e⟩⟩)
theorem Zx {f:Aj}{fd:Ad}(F:Fun K "walker_called" "House.walker_called" s_House_walker_called f fd)(T:Txt K mg qd qm qx qp qf wz wv qr wy q8 qj wb qz qu qw qq):FnOk P w K mg base (CXE P w) 1 f fd ["self","name"] (zr qq qj false):=by
 have sc:=ym
 refine F.okX sc (λvs H Q E h=>by obtain ⟨x,dr,dw,dd,R,W,D,n,rfl,_⟩:=h;rfl) (λcdv A outer s H vs Q E hr h=>?_)
 obtain ⟨x,dr,dw,dd,R,W,D,n,rfl,hh,k,kx⟩:=h
 obtain ⟨dx,hx⟩:=hh.ob
 have dg:DGet H dw (.str n) (wc W (.inr n)):=DGet.k (k:=.inr n) hh.w
 refine ⟨_,(qb (x4 (Q1 (Qw (zy hr) (pv 1) (xp (pv 0) rfl))) (wq (zt rfl T.x_NoWalker zu rfl T.g_NoWalker (xx xf qk))) xy)
   (wq (wp (zf (zy hr) (xp (pv 0) rfl) (pv 1) (λ_ _=>rfl))))),?_⟩
 refine exI rfl (exI rfl ⟨x,qq,dx,_,_,rfl,hx,T.clH,T.naHw,zm,dw,exI rfl ⟨dg,_,rfl,?_⟩⟩)
 cases e:wc W (.inr n) with
 |none=>exact j8 ⟨sz1,kx e⟩
 |some v =>
  rw [e] at dg
  exact Qy (exI rfl ⟨x,qq,dx,_,_,rfl,hx,T.clH,T.naHw,zm,exI rfl ⟨dw,v,rfl,dg,k v e⟩⟩)
def Z0 (C:Aj):Sp:=λvs H Q _=>∃(x dr dw dd c1 c2:Aj) (R W cs1 cs2:List (Key×V)) (D:List V),vs=[.ref x,.ref c1,.ref c2]∧Hse C H x dr dw dd R W D∧Rd H c1 (.dK cs1)∧Rd H c2 (.dK cs2)∧c1≠c2∧c1≠dr∧c1≠dw∧c2≠dr∧c2≠dw ∧
 (cs1.map (·.1)).Nodup∧(cs2.map (·.1)).Nodup∧R.length≤1000∧W.length≤1000∧cs1.length≤1000∧cs2.length≤1000∧D.length≤1000000∧qkc R cs1∧qkc W cs2 ∧
 ∀H' tp q1 q2,H tp=none→H q1=none→H q2=none→Hse C H' x dr dw dd (exK R cs1) (exK W cs2) (D++[.ref tp])→H' tp=some (.tup [.ref q1,.ref q2])→H' q1=some (.dK (bfK R cs1))→H' q2=some (.dK (bfK W cs2))→q1≠q2→Rd H' c2 (.dK cs2)→Kb [dr,dw,dd,c1,c2] H H'→Q .non H'
theorem ok_do {f:Aj}{fd:Ad}(F:Fun K "do" "House.do" s_House_do f fd)(T:Txt K mg qd qm qx qp qf wz wv qr wy q8 qj wb qz qu qw qq)(c_exchange:Cal P w K mg base "exchange" 1 qz8):FnOk P w K mg base (CXE P w) 2 f fd ["self","roads","walkers"] (Z0 qq):=by
 have sc:=qv3
 refine F.okX sc (λvs H Q E h=>by obtain ⟨x,dr,dw,dd,c1,c2,R,W,cs1,cs2,D,rfl,_⟩:=h;rfl) (λcdv A outer s H vs Q E hr h=>?_)
 obtain ⟨x,dr,dw,dd,c1,c2,R,W,cs1,cs2,D,rfl,hh,h1,h2,n12,n1r,n1w,n2r,n2w,nd1,nd2,lR,lW,l1,l2,lD,ok1,ok2,k⟩:=h
 obtain ⟨dx,hx⟩:=hh.ob
 have big:(1000000:Nat)<sizeLine:=by decide
 have isI:∀ {b o},Rd H b (.dK o)→x≠b:=λ{b o} hb z=>by
  rcases hb with hb|⟨u,hb⟩ <;> (rw [←z,hx] at hb;cases hb)
 have isD:∀ {b o},Rd H b (.dK o)→dd≠b:=λ{b o} hb z=>by
  rcases hb with hb|⟨u,hb⟩ <;> (rw [←z,hh.d] at hb;cases hb)
 have xr:=isI (.inl hh.r)
 have xw:=isI (.inl hh.w)
 have x1:=isI h1
 have x2:=isI h2
 have dr':=isD (.inl hh.r)
 have dw':=isD (.inl hh.w)
 have d1:=isD h1
 have d2:=isD h2
 refine ⟨_,(wq (xn (wv9 bR dc de yu (xp (pv 0) rfl) (qqd (vw (kj (wf c_exchange (hr.mono (by decide)) rfl qy (xv (xp (pv 0) rfl) (q9 (pv 1) qk))) (kj (wf c_exchange (hr.mono (by decide)) rfl qy (xv (xp (pv 0) rfl) (q9 (pv 2) qk))) qk))) qk)))),?_⟩
 refine exI rfl ⟨x,qq,dx,_,_,rfl,hx,T.clH,T.naHd,Qx,.inl ⟨rfl,_,SqL.of hh.d⟩,?_⟩
 refine exI rfl ⟨x,qq,dx,_,_,rfl,hx,T.clH,T.naHr,vd,exI rfl ⟨dr,c1,R,cs1,rfl,aZ n1r,hh.r,h1,nd1,lR,l1,ok1,λq1 H1 nq1 fq1 fr1 fc1 kb1=>?_⟩⟩
 have m1:∀b,b≠dr→b≠c1→b∉[dr,c1]:=λb a1 a2 z=>by
  rcases ak.mp z with z|z
  ·exact a1 z
  ·exact a2 (ai.mp z)
 have hx1:=kb1 _ _ (m1 x xr x1) hx
 have hw1:=kb1 _ _ (m1 dw (aZ hh.ne) (aZ n1w)) hh.w
 have hd1:=kb1 _ _ (m1 dd dr' d1) hh.d
 have hc2:=kb1.rd (m1 c2 n2r (aZ n12)) h2
 refine exI rfl ⟨x,qq,dx,_,_,rfl,hx1,T.clH,T.naHw,zm,exI rfl ⟨dw,c2,W,cs2,rfl,aZ n2w,hw1,hc2,nd2,lW,l2,ok2,λq2 H2 nq2 fq2 fw2 fc2 kb2=>?_⟩⟩
 have m2:∀b,b≠dw→b≠c2→b∉[dw,c2]:=λb a1 a2 z=>by
  rcases ak.mp z with z|z
  ·exact a1 z
  ·exact a2 (ai.mp z)
 have q1w:q1≠dw:=λz=>by rw [z,hh.w] at nq1;cases nq1
 have q1c:q1≠c2:=λz=>by rcases h2 with h2|⟨u,h2⟩ <;> (rw [z,h2] at nq1;cases nq1)
 have fq1':=kb2 _ _ (m2 q1 q1w q1c) fq1
 have q12:q1≠q2:=qg fq1 nq2
 have nq2':H q2=none:=by
  cases e:H q2 with
  |none=>rfl
  |some o =>
   by_cases z:q2=dr∨q2=c1
   ·rcases z with z|z
    ·rw [z,fr1] at nq2;cases nq2
    ·rcases fc1 with g|⟨u,g⟩ <;> (rw [z,g] at nq2;cases nq2)
   ·rw [kb1 _ _ (m1 q2 (λy=>z (.inl y)) (λy=>z (.inr y))) e] at nq2;cases nq2
 refine ⟨sz2,λtp ntp=>?_⟩
 have hx2:=kb2 _ _ (m2 x xw x2) hx1
 have hr2:=kb2 _ _ (m2 dr hh.ne (aZ n2r)) fr1
 have hd2:=kb2 _ _ (m2 dd dw' d2) hd1
 have old:∀b o,b∉[dr,dw,dd,c1,c2]→H b=some o→H2 b=some o:=λb o nb e=>by
  simp only [ak,am,bz,not_or] at nb
  exact kb2 _ _ (m2 b nb.2.1 nb.2.2.2.2) (kb1 _ _ (m1 b nb.1 nb.2.2.2.1) e)
 have rd2:∀b,b=dr∨b=dw∨b=dd∨b=c1∨b=c2→H2 b≠none:=λb h z=>by
  rcases h with h|h|h|h|h
  ·rw [h,hr2] at z;cases z
  ·rw [h,fw2] at z;cases z
  ·rw [h,hd2] at z;cases z
  ·by_cases y:c1=dw
   ·exact n1w y
   ·rcases fc1 with g|⟨u,g⟩ <;> (rw [h,kb2 _ _ (m2 c1 n1w n12) g] at z;cases z)
  ·rcases fc2 with g|⟨u,g⟩ <;> (rw [h,g] at z;cases z)
 have ntp0:H tp=none:=by
  cases e:H tp with
  |none=>rfl
  |some o =>
   by_cases z:tp=dr∨tp=dw∨tp=dd∨tp=c1∨tp=c2
   ·exact absurd ntp (rd2 tp z)
   ·rw [old tp o (by simp only [ak,am,bz];exact z) e] at ntp;cases ntp
 have s3:Same H2 (upd H2 tp (.tup [.ref q1,.ref q2])):=Same.upd ntp
 have ft:upd H2 tp (.tup [.ref q1,.ref q2]) tp=some (.tup [.ref q1,.ref q2]):=qh
 generalize upd H2 tp (.tup [.ref q1,.ref q2])=H3 at s3 ft
 have hd3:=s3 _ _ hd2
 refine ⟨dd,D,_,rfl,rfl,hd3,by lia,?_⟩
 have ne3:∀b o,b≠dd→H3 b=some o→upd H3 dd (.lst (D++[.ref tp])) b=some o:=λb o nb e=>by rw [wj nb];exact e
 have kq:∀b kv,H3 b=some (.dK kv)→b≠dd:=λb kv e z=>by rw [z,hd3] at e;cases e
 have rd3:Rd (upd H3 dd (.lst (D++[.ref tp]))) c2 (.dK cs2):=by
  rcases fc2 with e|⟨u,e⟩
  ·exact .inl (ne3 _ _ (aZ d2) (s3 _ _ e))
  ·exact .inr ⟨u,ne3 _ _ (aZ d2) (s3 _ _ e)⟩
 refine k _ tp q1 q2 ntp0 nq1 nq2' ⟨⟨dx,ne3 _ _ (λz=>by rw [z] at hx;rw [hh.d] at hx;cases hx) (s3 _ _ hx2)⟩,ne3 _ _ (aZ dr') (s3 _ _ hr2),ne3 _ _ (aZ dw') (s3 _ _ fw2),qh,hh.ne⟩ (ne3 _ _ (λz=>by rw [z,hd3] at ft;cases ft) ft) (ne3 _ _ (kq _ _ (s3 _ _ fq1')) (s3 _ _ fq1')) (ne3 _ _ (kq _ _ (s3 _ _ fq2)) (s3 _ _ fq2)) q12 rd3 λb o nb e=>?_
 exact ne3 _ _ (λz=>nb (by simp [z])) (s3 _ _ (old b o nb e))
def qvj (C:Aj):Sp:=λvs H Q _=>∃(x dr dw dd:Aj) (R W:List (Key×V)) (D:List V),vs=[.ref x]∧Hse C H x dr dw dd R W D∧Q (.int D.length) H
theorem wvp {f:Aj}{fd:Ad}(F:Fun K "deeds" "House.deeds" s_House_deeds f fd)(T:Txt K mg qd qm qx qp qf wz wv qr wy q8 qj wb qz qu qw qq):FnOk P w K mg base (CXE P w) 1 f fd ["self"] (qvj qq):=by
 have sc:=Yn
 refine F.okX sc (λvs H Q E h=>by obtain ⟨x,dr,dw,dd,R,W,D,rfl,_⟩:=h;rfl) (λcdv A outer s H vs Q E hr h=>?_)
 obtain ⟨x,dr,dw,dd,R,W,D,rfl,hh,k⟩:=h
 obtain ⟨dx,hx⟩:=hh.ob
 refine ⟨_,(wq (wp (xq xb rfl T.len_ aM (xv (xp (pv 0) rfl) qk)))),?_⟩
 exact exI rfl ⟨x,qq,dx,_,_,rfl,hx,T.clH,T.naHd,Qx,dd,exI rfl ⟨.inl (SqL.of hh.d),k⟩⟩
end
section
variable {P:Ac}{w:Ah}{K:Aa}{mg:Str→Option Ag}{base:Heap}{qd:Aj}{qm:Aj}{qx:Aj}{qp:Aj}{qf:Aj}{wz:Aj}{wv:Aj}{qr:Aj}{wy:Aj}{q8:Aj}{qj:Aj}{wb:Aj}{qz:Aj}{qu:Aj}{qw:Aj}{qq:Aj}
def Wb (D:List V):Prop:=∀v∈D,∃a,v=V.ref a
theorem RoadAt.kb {C CH:Aj}{H H':Hp}{r:Aj}{hs:List Int}(h:RoadAt C H r hs)(ok:xj hs){ch:List Aj}{D:List V}(k:Kb ch H H')(rf:Wb D)(hc:∀b∈ch,(∃kv,Rd H b (.dK kv))∨H b=some (.lst D)):RoadAt C H' r hs:=by
 obtain ⟨dx,q,h1,h2⟩:=h
 refine ⟨dx,q,k _ _ (λz=>?_) h1,k _ _ (λz=>?_) h2⟩
 ·rcases hc r z with ⟨kv,e|⟨o,e⟩⟩|e <;> (rw [h1] at e;cases e)
 ·rcases hc q z with ⟨kv,e|⟨o,e⟩⟩|e
  ·rw [h2] at e;cases e
  ·rw [h2] at e;cases e
  ·rw [h2] at e
   have e:hs.map V.int=D:=by cases e;rfl
   have l:=ok.1
   have m:V.int (hs[0]'(by lia))∈hs.map V.int:=ao.mpr ⟨_,cS _,rfl⟩
   rw [e] at m
   obtain ⟨a,ea⟩:=rf _ m
   cases ea
theorem wvs {H H3:Hp}{c1 c2:Aj}{o1 o2 o3:HO}(n1:H c1=none)(s3:Same (upd H c1 o1) H3)(n2:upd H3 c1 o2 c2=none):Same H (upd (upd H3 c1 o2) c2 o3):=λb o e=>by
 have b1:b≠c1:=qg e n1
 have e3:H3 b=some o:=s3 _ _ (by rw [wj b1];exact e)
 have e4:upd H3 c1 o2 b=some o:=by rw [wj b1];exact e3
 rw [wj (qg e4 n2)]
 exact e4
theorem qxs {C CR:Aj}{H H3:Hp}{x dr dw dd c1 r:Aj}{R W:List (Key×V)}{D:List V}{n:Str}{hs:List Int}{Q:VK}{E:XK}(hh:Hse C H x dr dw dd R W D)(n1:H c1=none)(s3:Same (upd H c1 (.dK [])) H3)(R3:RoadAt CR H3 r hs)(okl:xj hs)(rf:Wb D)(lR:R.length≤1000)(lW:W.length≤1000)(lD:D.length≤1000000)
  (k:∀H' tp q1 q2,H tp=none→H q1=none→H q2=none→Hse C H' x dr dw dd (zx R (.inr n) (.ref r)) W (D++[.ref tp])→H' tp=some (.tup [.ref q1,.ref q2])→H' q1=some (.dK [(.inr n,(wc R (.inr n)).getD .non)])→H' q2=some (.dK [])→q1≠q2→RoadAt CR H' r hs→Kb [dr,dw,dd] H H'→Q .non H') :
  ∀c2,upd H3 c1 (.dK [(.inr n,.ref r)]) c2=none→Z0 C [.ref x,.ref c1,.ref c2] (upd (upd H3 c1 (.dK [(.inr n,.ref r)])) c2 (.dK [])) Q E:=by
 intro c2 n2
 have s4:Same H (upd (upd H3 c1 (.dK [(.inr n,.ref r)])) c2 (.dK [])):=wvs n1 s3 n2
 have c12:c1≠c2:=λz=>by rw [←z,qh] at n2;cases n2
 have e1:upd (upd H3 c1 (.dK [(.inr n,.ref r)])) c2 (.dK []) c1=some (.dK [(.inr n,.ref r)]):=by rw [wj c12,qh]
 have e2:upd (upd H3 c1 (.dK [(.inr n,.ref r)])) c2 (.dK []) c2=some (.dK []):=qh
 have h31:H3 c1=some (.dK []):=s3 _ _ qh
 have R4:RoadAt CR (upd (upd H3 c1 (.dK [(.inr n,.ref r)])) c2 (.dK [])) r hs:=by
  obtain ⟨dx,q,a1,a2⟩:=R3
  have keep:∀b o,(∀kv,o≠HO.dK kv)→H3 b=some o→upd (upd H3 c1 (.dK [(.inr n,.ref r)])) c2 (.dK []) b=some o:=λb o no e=>by
   have b1:b≠c1:=λz=>by rw [z,h31] at e;cases e;exact no _ rfl
   have e4:upd H3 c1 (.dK [(.inr n,.ref r)]) b=some o:=by rw [wj b1];exact e
   rw [wj (qg e4 n2)]
   exact e4
  exact ⟨dx,q,keep _ _ (λkv z=>by cases z) a1,keep _ _ (λkv z=>by cases z) a2⟩
 have n20:H c2=none:=by
  cases q:H c2 with
  |none=>rfl
  |some o =>
   have b1:c2≠c1:=aZ c12
   rw [wj b1,s3 _ _ (show upd H c1 (.dK []) c2=some o by rw [wj b1];exact q)] at n2
   cases n2
 generalize upd (upd H3 c1 (.dK [(.inr n,.ref r)])) c2 (.dK [])=H4 at s4 e1 e2 R4
 have hh4:=hh.same s4
 refine ⟨x,dr,dw,dd,c1,c2,R,W,[(.inr n,.ref r)],[],D,rfl,hh4,.inl e1,.inl e2,c12,(qg hh.r n1).symm,(qg hh.w n1).symm,(qg hh.r n20).symm,(qg hh.w n20).symm,aN.mpr ⟨am,aY⟩,aY,lR,lW,by show 1≤1000;decide,aB _,lD,λi c ec hc=>?_,(λi c ec hc=>nomatch ec),λH' tp q1 q2 a1 a2 a3 a4 a5 a6 a7 a8 _ a9=>?_⟩
 ·cases i with
  |zero=>cases ec;cases hc
  |succ i=>cases ec
 ·have no:∀b,H4 b=none→H b=none:=λb e=>xk s4 e
  have rd:RoadAt CR H' r hs:=R4.kb (CH:=C) okl a9 rf λb hb=>by
   simp only [ak,am,bz] at hb
   rcases hb with rfl|rfl|rfl|rfl|rfl
   ·exact .inl ⟨_,.inl hh4.r⟩
   ·exact .inl ⟨_,.inl hh4.w⟩
   ·exact .inr hh4.d
   ·exact .inl ⟨_,.inl e1⟩
   ·exact .inl ⟨_,.inl e2⟩
  refine k H' tp q1 q2 (no _ a1) (no _ a2) (no _ a3) a4 a5 a6 a7 a8 rd λb o nb e=>a9 b o (λz=>?_) (s4 _ _ e)
  simp only [ak,am,bz] at z nb
  rcases z with z|z|z|z|z
  ·exact nb (.inl z)
  ·exact nb (.inr (.inl z))
  ·exact nb (.inr (.inr z))
  ·rw [z,n1] at e;cases e
  ·rw [z,n20] at e;cases e
def RDeed (C CR:Aj)(H H':Hp)(x dr dw dd:Aj)(R W:List (Key×V))(D:List V)(n:Str)(hs:List Int):Prop:=∃r tp q1 q2,H tp=none∧H q1=none∧H q2=none∧Hse C H' x dr dw dd (zx R (.inr n) (.ref r)) W (D++[.ref tp])∧H' tp=some (.tup [.ref q1,.ref q2])∧H' q1=some (.dK [(.inr n,(wc R (.inr n)).getD .non)])∧H' q2=some (.dK [])∧q1≠q2∧RoadAt CR H' r hs∧Kb [dr,dw,dd] H H'
theorem RDeed.pre {C CR:Aj}{H0 H H':Hp}{x dr dw dd:Aj}{R W:List (Key×V)}{D:List V}{n:Str}{hs:List Int}(h:RDeed C CR H H' x dr dw dd R W D n hs)(s:Same H0 H):RDeed C CR H0 H' x dr dw dd R W D n hs:=by
 obtain ⟨r,tp,q1,q2,a1,a2,a3,a4,a5,a6,a7,a8,a9,b1⟩:=h
 exact ⟨r,tp,q1,q2,xk s a1,xk s a2,xk s a3,a4,a5,a6,a7,a8,a9,λb o nb e=>b1 b o nb (s _ _ e)⟩
def wqb (K:Aa)(C CR CN CT CL:Aj):Sp:=λvs H Q E=>∃(x dr dw dd p:Aj) (R W:List (Key×V)) (D:List V) (n:Str) (hs:List Int),vs=[.ref x,.str n,.ref p]∧Hse C H x dr dw dd R W D∧Wb D∧R.length≤1000∧W.length≤1000∧D.length≤1000000∧n.length≤1000∧H p=some (.lst (hs.map V.int)) ∧
 (jv n=true→wc R (.inr n)=none→xj hs→∀H',RDeed C CR H H' x dr dw dd R W D n hs→Q .non H')∧(jv n=false→∀H',Same H H'→E (.ref CN) none H')∧(jv n=true→(wc R (.inr n)).isSome=true→∀H',Same H H'→E (.ref CT) none H')∧(jv n=true→wc R (.inr n)=none→¬ xj hs→∀H',Same H H'→E (.ref CL) none H')
theorem ok_lay {f:Aj}{fd:Ad}(F:Fun K "lay" "House.lay" s_House_lay f fd)(T:Txt K mg qd qm qx qp qf wz wv qr wy q8 qj wb qz qu qw qq)(c_check_new_name:Cal P w K mg base "check_new_name" 2 (Qz qr wy))(c_Road:CCal P w K mg base "Road" qu 2 (Zv K qm qu))(c_do:MCal P w K mg base qq "do" 2 (Z0 qq)) :
  FnOk P w K mg base (CXE P w) 4 f fd ["self","name","heights"] (wqb K qq qu qr wy qm):=by
 have sc:=qvg
 refine F.okX sc (λvs H Q E h=>by obtain ⟨x,dr,dw,dd,p,R,W,D,n,hs,rfl,_⟩:=h;rfl) (λcdv A outer s H vs Q E hr h=>?_)
 obtain ⟨x,dr,dw,dd,p,R,W,D,n,hs,rfl,hh,rf,lR,lW,lD,ln,hp,k,kn,kt,kl⟩:=h
 obtain ⟨dx,hx⟩:=hh.ob
 refine ⟨_,(qb (xn (wf c_check_new_name (hr.mono (by decide)) rfl qy (q9 (pv 1) (xv (xp (pv 0) rfl) qk))))
   (wq (xn (w4 (pv 0) T.clH c_do (hr.mono (by decide)) qy (xv (yr (jc (pv 1) (uy c_Road (hr.mono (by decide)) rfl qy (q9 (pv 2) qk)) y8) rfl rfl (λz=>nomatch z) (by decide)) (xv k8 qk)))))),?_⟩
 refine ⟨_,rfl,_,rfl,x,qq,dx,_,_,rfl,hx,T.clH,T.naHr,vd,n,dr,R,rfl,ln,hh.r,λa1 a2 H1 s1=>?_,kn,kt⟩
 have hh1:=hh.same s1
 refine exI rfl ⟨x,dx,exI rfl ⟨s1 _ _ hx,xz (by decide +kernel) (by decide +kernel) (by decide +kernel),λc1 n1=>(exI rfl (exI rfl (λr d0 nr nd0 ne0=>qzg (H:=upd H1 c1 (.dK [])) (hs:=hs) (by rw [wj (qg (s1 _ _ hp) n1)];exact s1 _ _ hp) nr nd0 (λokl H3 s3 R3=>?_) λz H3 s3=>kl a1 a2 z H3 (s1.trans (λb o e=>s3 _ _ (by rw [wj (qg e n1)];exact e))))))⟩⟩
 refine ⟨s3 _ _ qh,[(.inr n,.ref r)],rfl,(show 1≤15 by decide),?_⟩
 exact qxs (E:=E) hh1 n1 s3 R3 okl rf lR lW lD λH' tp q1 q2 b1 b2 b3 b4 b5 b6 b7 b8 b9 kb=>k a1 a2 okl H' (RDeed.pre ⟨r,tp,q1,q2,b1,b2,b3,b4,b5,b6,b7,b8,b9,kb⟩ s1)
def uw (C CR CN:Aj):Sp:=λvs H Q E=>∃(x dr dw dd:Aj) (R W:List (Key×V)) (D:List V) (n:Str),vs=[.ref x,.str n]∧Hse C H x dr dw dd R W D ∧
 (∀v,wc R (.inr n)=some v→∃r hs,v=.ref r∧RoadAt CR H r hs∧∀p,H p=none→Q (.ref p) (upd H p (.lst (hs.map V.int))))∧(wc R (.inr n)=none→E (.ref CN) none H)
theorem qwv {f:Aj}{fd:Ad}(F:Fun K "corners_of" "House.corners_of" s_House_corners_of f fd)(T:Txt K mg qd qm qx qp qf wz wv qr wy q8 qj wb qz qu qw qq)(c_road_called:MCal P w K mg base qq "road_called" 1 (zr qq q8 true))(c_corners:MCal P w K mg base qu "corners" 1 (yf qu)) :
  FnOk P w K mg base (CXE P w) 2 f fd ["self","name"] (uw qq qu q8):=by
 have sc:=Qk
 refine F.okX sc (λvs H Q E h=>by obtain ⟨x,dr,dw,dd,R,W,D,n,rfl,_⟩:=h;rfl) (λcdv A outer s H vs Q E hr h=>?_)
 obtain ⟨x,dr,dw,dd,R,W,D,n,rfl,hh,k,kx⟩:=h
 obtain ⟨dx,hx⟩:=hh.ob
 refine ⟨_,(wq (wp (vg (w4 (pv 0) T.clH c_road_called (hr.mono (by decide)) qy (q9 (pv 1) qk)) T.cl c_corners (hr.mono (by decide)) qy))),?_⟩
 refine ⟨_,rfl,x,dx,_,rfl,hx,xz (by decide +kernel) (by decide +kernel) (by decide +kernel),_,rfl,x,dr,dw,dd,R,W,D,n,rfl,hh,λv e=>?_,kx⟩
 obtain ⟨r,hs,rfl,hR,q⟩:=k v e
 obtain ⟨dy,l,h1,h2⟩:=id hR
 exact ⟨r,dy,exI rfl ⟨h1,zg (by decide +kernel),r,hs,rfl,hR,q⟩⟩
def Zq (C CN:Aj):Sp:=λvs H Q E=>∃(x dr dw dd:Aj) (R W:List (Key×V)) (D:List V),vs=[.ref x]∧Hse C H x dr dw dd R W D∧R.length≤1000∧W.length≤1000∧(D=[]→E (.ref CN) none H) ∧
 (∀D' v,D=D'++[v]→∃tp c1 c2 cs1 cs2,v=.ref tp∧H tp=some (.tup [.ref c1,.ref c2])∧Rd H c1 (.dK cs1)∧Rd H c2 (.dK cs2)∧c1≠c2∧c1≠dr∧c1≠dw∧c2≠dr∧c2≠dw∧(cs1.map (·.1)).Nodup∧(cs2.map (·.1)).Nodup∧cs1.length≤1000∧cs2.length≤1000∧qkc R cs1∧qkc W cs2 ∧
  ∀H',Hse C H' x dr dw dd (exK R cs1) (exK W cs2) D'→Rd H' c1 (.dK cs1)→Rd H' c2 (.dK cs2)→Kb [dr,dw,dd,c1,c2] H H'→Q .non H')
theorem wj6 {f:Aj}{fd:Ad}(F:Fun K "take_back" "House.take_back" s_House_take_back f fd)(T:Txt K mg qd qm qx qp qf wz wv qr wy q8 qj wb qz qu qw qq)(c_exchange:Cal P w K mg base "exchange" 1 qz8):FnOk P w K mg base (CXE P w) 2 f fd ["self"] (Zq qq qz):=by
 have sc:=Qp
 refine F.okX sc (λvs H Q E h=>by obtain ⟨x,dr,dw,dd,R,W,D,rfl,_⟩:=h;rfl) (λcdv A outer s H vs Q E hr h=>?_)
 obtain ⟨x,dr,dw,dd,R,W,D,rfl,hh,lR,lW,kx,k⟩:=h
 obtain ⟨dx,hx⟩:=hh.ob
 refine ⟨_,(qb (x4 (wn ku (xq xb rfl T.len_ aM (xv (xp (pv 0) rfl) qk)) wx (w9 _)) (wq (zt rfl T.x_NothingDone zu rfl T.g_NothingDone (xx xf qk))) xy)
   (qb (yx (wk0 bR PySem.F.slot_list_pop PySem.F.type_list_pop wvq (xp (pv 0) rfl)) (ju rfl (xh (xu (i:=1) sc.nd rfl (by walk_at "loc")) (xh (xu (i:=2) sc.nd rfl (by walk_at "loc")) vp))))
   (qb (xn (wf c_exchange (hr.mono (by decide)) rfl qy (xv (xp (pv 0) rfl) (q9 (pv 1) qk))))
   (wq (xn (wf c_exchange (hr.mono (by decide)) rfl qy (xv (xp (pv 0) rfl) (q9 (pv 2) qk)))))))),?_⟩
 refine exI rfl ⟨x,qq,dx,_,_,rfl,hx,T.clH,T.naHd,Qx,dd,exI rfl ⟨.inl (SqL.of hh.d),rfl,_,rfl,jz (λz=>?_) (λz=>?_)⟩⟩
 ·exact ⟨sz1,kx (dQ (by lia))⟩
 ·have ne:D≠[]:=λy=>z (by rw [y];rfl)
  have eD:D=D.dropLast++[D.getLast ne]:=(List.dropLast_concat_getLast ne).symm
  obtain ⟨tp,c1,c2,cs1,cs2,ev,ht,h1,h2,n12,n1r,n1w,n2r,n2w,nd1,nd2,l1,l2,ok1,ok2,k⟩:=k _ _ eD
  have eL:D[D.length-1]?=some (.ref tp):=by rw [←eI,List.getLast?_eq_getLast ne,ev]
  refine exI rfl ⟨x,qq,dx,_,_,rfl,hx,T.clH,T.naHd,Qx,.inl ⟨rfl,_,SqL.of hh.d⟩,dd,D,exI rfl ⟨rfl,hh.d,eL,?_⟩⟩
  have k0:∀b o,b≠dd→H b=some o→upd H dd (.lst D.dropLast) b=some o:=λb o nb e=>by rw [wj nb];exact e
  have d0:upd H dd (.lst D.dropLast) dd=some (.lst D.dropLast):=qh
  have kd:∀b kv,Rd H b (.dK kv)→b≠dd:=λb kv hb y=>by rcases hb with hb|⟨o,hb⟩ <;> (rw [y,hh.d] at hb;cases hb)
  have kx':x≠dd:=λy=>by rw [y,hh.d] at hx;cases hx
  have kt:tp≠dd:=λy=>by rw [y,hh.d] at ht;cases ht
  have rd0:∀b kv,Rd H b (.dK kv)→Rd (upd H dd (.lst D.dropLast)) b (.dK kv):=λb kv hb=>by
   have nb:=kd b kv hb
   rcases hb with hb|⟨o,hb⟩
   ·exact .inl (k0 _ _ nb hb)
   ·exact .inr ⟨o,k0 _ _ nb hb⟩
  have r0:=k0 _ _ (kd _ _ (.inl hh.r)) hh.r
  have w0:=k0 _ _ (kd _ _ (.inl hh.w)) hh.w
  have x0:=k0 _ _ kx' hx
  have t0:=k0 _ _ kt ht
  have h10:=rd0 _ _ h1
  have h20:=rd0 _ _ h2
  have kb0:Kb [dd] H (upd H dd (.lst D.dropLast)):=λb o nb e=>k0 b o (λy=>nb (by simp [y])) e
  have dd1:=kd _ _ h1
  have dd2:=kd _ _ h2
  have ddr:=kd _ _ (.inl hh.r)
  have ddw:=kd _ _ (.inl hh.w)
  generalize upd H dd (.lst D.dropLast)=H0 at d0 r0 w0 x0 t0 h10 h20 kb0
  refine ⟨tp,exI rfl ⟨SqT.of t0,rfl,_,_,rfl,_,_,rfl,rfl,?_⟩⟩
  have isI:∀ {b o},Rd H0 b (.dK o)→x≠b:=λ{b o} hb y=>by rcases hb with hb|⟨u,hb⟩ <;> (rw [←y,x0] at hb;cases hb)
  have xr:=isI (.inl r0)
  have xw:=isI (.inl w0)
  have x1:=isI h10
  have x2:=isI h20
  have m1:∀b,b≠dr→b≠c1→b∉[dr,c1]:=λb a1 a2 y=>by
   rcases ak.mp y with y|y
   ·exact a1 y
   ·exact a2 (ai.mp y)
  have m2:∀b,b≠dw→b≠c2→b∉[dw,c2]:=λb a1 a2 y=>by
   rcases ak.mp y with y|y
   ·exact a1 y
   ·exact a2 (ai.mp y)
  refine exI rfl ⟨x,qq,dx,_,_,rfl,x0,T.clH,T.naHr,vd,exI rfl ⟨dr,c1,R,cs1,rfl,aZ n1r,r0,h10,nd1,lR,l1,ok1,λq1 H1 nq1 fq1 fr1 fc1 kb1=>?_⟩⟩
  have hx1:=kb1 _ _ (m1 x xr x1) x0
  have hw1:=kb1 _ _ (m1 dw (aZ hh.ne) (aZ n1w)) w0
  have hd1:=kb1 _ _ (m1 dd (aZ ddr) (aZ dd1)) d0
  have hc2:=kb1.rd (m1 c2 n2r (aZ n12)) h20
  refine exI rfl ⟨x,qq,dx,_,_,rfl,hx1,T.clH,T.naHw,zm,exI rfl ⟨dw,c2,W,cs2,rfl,aZ n2w,hw1,hc2,nd2,lW,l2,ok2,λq2 H2 nq2 fq2 fw2 fc2 kb2=>?_⟩⟩
  refine k H2 ⟨⟨dx,kb2 _ _ (m2 x xw x2) hx1⟩,kb2 _ _ (m2 dr hh.ne (aZ n2r)) fr1,fw2,kb2 _ _ (m2 dd (aZ ddw) (aZ dd2)) hd1,hh.ne⟩ (kb2.rd (m2 c1 n1w n12) fc1) fc2 λb o nb e=>?_
  simp only [ak,am,bz,not_or] at nb
  exact kb2 _ _ (m2 b nb.2.1 nb.2.2.2.2) (kb1 _ _ (m1 b nb.1 nb.2.2.2.1) (kb0 b o (by simpa using nb.2.2.1) e))
end
section
variable {P:Ac}{w:Ah}{K:Aa}{mg:Str→Option Ag}{base:Heap}{qd:Aj}{qm:Aj}{qx:Aj}{qp:Aj}{qf:Aj}{wz:Aj}{wv:Aj}{qr:Aj}{wy:Aj}{q8:Aj}{qj:Aj}{wb:Aj}{qz:Aj}{qu:Aj}{qw:Aj}{qq:Aj}
theorem Yk (hs:List Int)(j:Nat)(h:Int):(hs.map V.int).set j (.int h)=(hs.set j h).map V.int:=by rw [List.map_set]
theorem ix_of {n:Nat}{c:Int}(h0:0≤c)(h1:c<n):ixN n c=some c.toNat:=by
 unfold ixN
 rw [aj h0,aj h1]
def qz2 (C CR CN CL:Aj):Sp:=λvs H Q E=>∃(x dr dw dd:Aj) (R W:List (Key×V)) (D:List V) (n:Str) (c h:Int),vs=[.ref x,.str n,.int c,.int h]∧Hse C H x dr dw dd R W D∧Wb D∧R.length≤1000∧W.length≤1000∧D.length≤1000000∧(wc R (.inr n)=none→E (.ref CN) none H) ∧
 (∀v,wc R (.inr n)=some v→∃r hs,v=.ref r∧RoadAt CR H r hs∧xj hs∧(¬ (0≤c∧c<(hs.length:Int))→∀H',Same H H'→E (.ref CL) none H')∧(0≤c→c<(hs.length:Int)→(xj (hs.set c.toNat h)→∀H',RDeed C CR H H' x dr dw dd R W D n (hs.set c.toNat h)→Q .non H')∧(¬ xj (hs.set c.toNat h)→∀H',Same H H'→E (.ref CL) none H')))
theorem wk3 {f:Aj}{fd:Ad}(F:Fun K "bend" "House.bend" s_House_bend f fd)(T:Txt K mg qd qm qx qp qf wz wv qr wy q8 qj wb qz qu qw qq)(c_road_called:MCal P w K mg base qq "road_called" 1 (zr qq q8 true))(c_corners:MCal P w K mg base qu "corners" 1 (yf qu))(c_Road:CCal P w K mg base "Road" qu 2 (Zv K qm qu))(c_do:MCal P w K mg base qq "do" 2 (Z0 qq)) :
  FnOk P w K mg base (CXE P w) 4 f fd ["self","name","corner","height"] (qz2 qq qu q8 qm):=by
 have sc:=qwm
 refine F.okX sc (λvs H Q E h=>by obtain ⟨x,dr,dw,dd,R,W,D,n,c,h,rfl,_⟩:=h;rfl) (λcdv A outer s H vs Q E hr h=>?_)
 obtain ⟨x,dr,dw,dd,R,W,D,n,c,h,rfl,hh,rf,lR,lW,lD,kx,k⟩:=h
 obtain ⟨dx,hx⟩:=hh.ob
 refine ⟨_,(qb (w6 (i:=4) sc.nd rfl (by walk_at "loc") (vg (w4 (pv 0) T.clH c_road_called (hr.mono (by decide)) qy (q9 (pv 1) qk)) T.cl c_corners (hr.mono (by decide)) qy))
   (qb (x4 (PW.pt (Qc (wn uh (pv 2) wx (w9 _)) (yq (wn wqx (pv 2) (xq xb rfl T.len_ aM (q9 (pv 4) qk)) (w9 _))))) (wq (zt rfl T.x_BadLine zu rfl T.g_BadLine (xx xf qk))) xy)
   (qb (yx (pv 3) (wxm (pv 4) (pv 2) qv0))
   (wq (xn (w4 (pv 0) T.clH c_do (hr.mono (by decide)) qy (xv (yr (jc (pv 1) (uy c_Road (hr.mono (by decide)) rfl qy (q9 (pv 4) qk)) y8) rfl rfl (λz=>nomatch z) (by decide)) (xv k8 qk)))))))),?_⟩
 refine ⟨_,rfl,x,dx,_,rfl,hx,xz (by decide +kernel) (by decide +kernel) (by decide +kernel),_,rfl,x,dr,dw,dd,R,W,D,n,rfl,hh,λv e=>?_,kx⟩
 obtain ⟨r0,hs,rfl,hR,okl,kb,k⟩:=k v e
 obtain ⟨dy,l,h1,h2⟩:=id hR
 refine ⟨r0,dy,exI rfl ⟨h1,zg (by decide +kernel),r0,hs,rfl,hR,λp np=>?_⟩⟩
 have s1:Same H (upd H p (.lst (hs.map V.int))):=Same.upd np
 have f1:upd H p (.lst (hs.map V.int)) p=some (.lst (hs.map V.int)):=qh
 have lm:(hs.map V.int).length=hs.length:=ae _
 refine exI rfl (wt rfl rfl (exI rfl (k6 (λz=>j8 ⟨sz1,kb (by lia) _ s1⟩) (λz=>?_))))
 refine exI rfl (exI rfl ⟨_,_,rfl,.inl (SqL.of f1),wt rfl rfl (exI rfl ?_)⟩)
 rw [lm]
 refine k6 (λy=>⟨sz1,kb (by lia) _ s1⟩) (λy=>?_)
 obtain ⟨kg,kl⟩:=k (by lia) (by lia)
 refine exI rfl (exI rfl (exI rfl ⟨p,_,c,c.toNat,rfl,rfl,f1,ix_of (by lia) (by rw [lm];lia),?_⟩))
 rw [Yk]
 have s2:Same H (upd (upd H p (.lst (hs.map V.int))) p (.lst ((hs.set c.toNat h).map V.int))):=by
  rw [j7]
  exact Same.upd np
 have f2:upd (upd H p (.lst (hs.map V.int))) p (.lst ((hs.set c.toNat h).map V.int)) p=some (.lst ((hs.set c.toNat h).map V.int)):=qh
 generalize upd (upd H p (.lst (hs.map V.int))) p (.lst ((hs.set c.toNat h).map V.int))=H2 at s2 f2
 refine exI rfl ⟨x,dx,exI rfl ⟨s2 _ _ hx,xz (by decide +kernel) (by decide +kernel) (by decide +kernel),λc1 n1=>(exI rfl (exI rfl (λr d0 nr nd0 ne0=>qzg (H:=upd H2 c1 (.dK [])) (hs:=hs.set c.toNat h) (by rw [wj (qg f2 n1)];exact f2) nr nd0 (λokl' H3 s3 R3=>?_) λz H3 s3=>kl z H3 (s2.trans (λb o e=>s3 _ _ (by rw [wj (qg e n1)];exact e))))))⟩⟩
 refine ⟨s3 _ _ qh,[(.inr n,.ref r)],rfl,(show 1≤15 by decide),?_⟩
 exact qxs (E:=E) (hh.same s2) n1 s3 R3 okl' rf lR lW lD λH' tp q1 q2 b1 b2 b3 b4 b5 b6 b7 b8 b9 kb=>kg okl' H' (RDeed.pre ⟨r,tp,q1,q2,b1,b2,b3,b4,b5,b6,b7,b8,b9,kb⟩ s2)
def Yy (C CR CN CL:Aj):Sp:=λvs H Q E=>∃(x dr dw dd:Aj) (R W:List (Key×V)) (D:List V) (n:Str) (h:Int),vs=[.ref x,.str n,.int h]∧Hse C H x dr dw dd R W D∧Wb D∧R.length≤1000∧W.length≤1000∧D.length≤1000000∧(wc R (.inr n)=none→E (.ref CN) none H) ∧
 (∀v,wc R (.inr n)=some v→∃r hs,v=.ref r∧RoadAt CR H r hs∧xj hs∧(xj (hs++[h])→∀H',RDeed C CR H H' x dr dw dd R W D n (hs++[h])→Q .non H')∧(¬ xj (hs++[h])→∀H',Same H H'→E (.ref CL) none H'))
theorem wz0 {f:Aj}{fd:Ad}(F:Fun K "widen" "House.widen" s_House_widen f fd)(T:Txt K mg qd qm qx qp qf wz wv qr wy q8 qj wb qz qu qw qq)(c_road_called:MCal P w K mg base qq "road_called" 1 (zr qq q8 true))(c_corners:MCal P w K mg base qu "corners" 1 (yf qu))(c_Road:CCal P w K mg base "Road" qu 2 (Zv K qm qu))(c_do:MCal P w K mg base qq "do" 2 (Z0 qq)) :
  FnOk P w K mg base (CXE P w) 4 f fd ["self","name","height"] (Yy qq qu q8 qm):=by
 have sc:=qq2
 refine F.okX sc (λvs H Q E h=>by obtain ⟨x,dr,dw,dd,R,W,D,n,h,rfl,_⟩:=h;rfl) (λcdv A outer s H vs Q E hr h=>?_)
 obtain ⟨x,dr,dw,dd,R,W,D,n,h,rfl,hh,rf,lR,lW,lD,kx,k⟩:=h
 obtain ⟨dx,hx⟩:=hh.ob
 have big:(1000000:Nat)<sizeLine:=by decide
 refine ⟨_,(qb (w6 (i:=3) sc.nd rfl (by walk_at "loc") (vg (w4 (pv 0) T.clH c_road_called (hr.mono (by decide)) qy (q9 (pv 1) qk)) T.cl c_corners (hr.mono (by decide)) qy))
   (wq (xn (w4 (pv 0) T.clH c_do (hr.mono (by decide)) qy (xv (yr (jc (pv 1) (uy c_Road (hr.mono (by decide)) rfl qy (zp (wm wv7 (pv 3) (yw (q9 (pv 2) qk))) qk)) y8) rfl rfl (λz=>nomatch z) (by decide)) (xv k8 qk)))))),?_⟩
 refine ⟨_,rfl,x,dx,_,rfl,hx,xz (by decide +kernel) (by decide +kernel) (by decide +kernel),_,rfl,x,dr,dw,dd,R,W,D,n,rfl,hh,λv e=>?_,kx⟩
 obtain ⟨r0,hs,rfl,hR,okl,kg,kl⟩:=k v e
 obtain ⟨dy,l,h1,h2⟩:=id hR
 have ol:=okl.2.1
 refine ⟨r0,dy,exI rfl ⟨h1,zg (by decide +kernel),r0,hs,rfl,hR,λp np=>?_⟩⟩
 have s1:Same H (upd H p (.lst (hs.map V.int))):=Same.upd np
 have f1:upd H p (.lst (hs.map V.int)) p=some (.lst (hs.map V.int)):=qh
 generalize upd H p (.lst (hs.map V.int))=H1 at s1 f1
 refine exI rfl ⟨x,dx,exI rfl ⟨s1 _ _ hx,xz (by decide +kernel) (by decide +kernel) (by decide +kernel),λc1 n1=>(exI rfl (exI rfl (exI rfl ⟨sz1,λp2 n2=>?_⟩)))⟩⟩
 have sa:Same (upd H1 c1 (.dK [])) (upd (upd H1 c1 (.dK [])) p2 (.lst [.int h])):=Same.upd n2
 have fa:=sa _ _ (show upd H1 c1 (.dK []) p=some (.lst (hs.map V.int)) by rw [wj (qg f1 n1)];exact f1)
 refine ⟨p,p2,_,_,rfl,rfl,fa,qh,by rw [ae];show hs.length+1≤_;lia,λp3 n3=>?_⟩
 have sb:=sa.trans (Same.upd (o:=.lst (hs.map V.int++[.int h])) n3)
 have fb:upd (upd (upd H1 c1 (.dK [])) p2 (.lst [.int h])) p3 (.lst (hs.map V.int++[.int h])) p3=some (.lst ((hs++[h]).map V.int)):=by rw [qh,ba];rfl
 generalize upd (upd (upd H1 c1 (.dK [])) p2 (.lst [.int h])) p3 (.lst (hs.map V.int++[.int h]))=H2 at sb fb
 have s12:Same H1 H2:=λb o e=>sb _ _ (by rw [wj (qg e n1)];exact e)
 refine λr d0 nr nd0 ne0=>qzg (H:=H2) (hs:=hs++[h]) fb nr nd0 (λokl' H3 s3 R3=>?_) λz H3 s3=>kl z H3 ((s1.trans s12).trans s3)
 refine ⟨s3 _ _ (sb _ _ qh),[(.inr n,.ref r)],rfl,(show 1≤15 by decide),?_⟩
 exact qxs (E:=E) (hh.same s1) n1 (sb.trans s3) R3 okl' rf lR lW lD λH' tp q1 q2 b1 b2 b3 b4 b5 b6 b7 b8 b9 kb=>kg okl' H' (RDeed.pre ⟨r,tp,q1,q2,b1,b2,b3,b4,b5,b6,b7,b8,b9,kb⟩ s1)
def wF (n:Str)(p t:Aj):List (Str×V):=[("whose",.str n),("point",.ref p),("times",.ref t)]
theorem kf {n:Str}{p t:Aj}:(wF n p t).lookup ("whose" : Str)=some (.str n):=by unfold wF;rw [aC];simp
theorem jk {n:Str}{p t:Aj}:(wF n p t).lookup ("point" : Str)=some (.ref p):=by
 unfold wF
 rw [aC,show (("point" : Str)==("whose" : Str))=false by decide +kernel]
 dsimp only
 rw [aC]
 simp
theorem qq1 {n:Str}{p t:Aj}:(wF n p t).lookup ("times" : Str)=some (.ref t):=by
 unfold wF
 rw [aC,show (("times" : Str)==("whose" : Str))=false by decide +kernel]
 dsimp only
 rw [aC,show (("times" : Str)==("point" : Str))=false by decide +kernel]
 dsimp only
 rw [aC]
 simp
theorem qjf {n:Str}{p t:Aj}{m:Str}(h1:¬ m = "whose")(h2:¬ m = "point")(h3:¬ m = "times"):(wF n p t).lookup m=none:=by
 unfold wF
 rw [aC,aI.mpr h1]
 dsimp only
 rw [aC,aI.mpr h2]
 dsimp only
 rw [aC,aI.mpr h3]
 rfl
structure WkAt (C:Aj)(H:Hp)(y:Aj)(n:Str)(p:Aj)(pt:Int×Int)(t:Aj)(tv:List (List Key×V)):Prop where
 ob:∃dx,H y=some (.ins C dx (wF n p t))
 pt:H p=some (.tup [.int pt.1,.int pt.2])
 tm:H t=some (.dT tv)
theorem WkAt.kb {C:Aj}{H H':Hp}{y:Aj}{n:Str}{p:Aj}{pt:Int×Int}{t:Aj}{tv:List (List Key×V)}(h:WkAt C H y n p pt t tv){ch:List Aj}(k:Kb ch H H')(hc:∀b∈ch,(∃kv,Rd H b (.dK kv))∨∃D,H b=some (.lst D)):WkAt C H' y n p pt t tv:=by
 have no:∀b o,(∀kv,o≠HO.dK kv)→(∀u kv,o≠HO.frz u (.dK kv))→(∀D,o≠HO.lst D)→H b=some o→H' b=some o:=λb o a1 a2 a3 e=>k _ _ (λz=>by
  rcases hc b z with ⟨kv,q|⟨u,q⟩⟩|⟨D,q⟩
  ·rw [e] at q;cases q;exact a1 _ rfl
  ·rw [e] at q;cases q;exact a2 _ _ rfl
  ·rw [e] at q;cases q;exact a3 _ rfl) e
 obtain ⟨dx,e⟩:=h.ob
 exact ⟨⟨dx,no _ _ (λ_ z=>by cases z) (λ_ _ z=>by cases z) (λ_ z=>by cases z) e⟩,no _ _ (λ_ z=>by cases z) (λ_ _ z=>by cases z) (λ_ z=>by cases z) h.pt,no _ _ (λ_ z=>by cases z) (λ_ _ z=>by cases z) (λ_ z=>by cases z) h.tm⟩
theorem WkAt.same {C:Aj}{H H':Hp}{y:Aj}{n:Str}{p:Aj}{pt:Int×Int}{t:Aj}{tv:List (List Key×V)}(h:WkAt C H y n p pt t tv)(s:Same H H'):WkAt C H' y n p pt t tv:=h.kb (ch:=[]) (Kb.of s) λb z=>nomatch z
def TmOk (tv:List (List Key×V)):Prop:=tv≠[]∧(tv.map (·.1)).Nodup∧∀q∈tv,∃a b c:Int,q=([.inl a,.inl b],.int c)∧0≤a∧a≤960∧1≤b∧b≤40
theorem TmOk.hash {P:Ac}{w:Ah}{tv:List (List Key×V)}(h:TmOk tv):(tv.map λp=>Qf P w p.1).Nodup:=by
 obtain ⟨_,nd,all⟩:=h
 have e:(tv.map λp=>Qf P w p.1)=(tv.map (·.1)).map (Qf P w):=by rw [bU];rfl
 rw [e]
 refine bu.mpr (bN (λ{x y} hx hy hne z=>hne ?_) nd)
 obtain ⟨p,hp,rfl⟩:=ao.mp hx
 obtain ⟨q,hq,rfl⟩:=ao.mp hy
 obtain ⟨a,b,c,rfl,a0,a1,b0,b1⟩:=all p hp
 obtain ⟨a',b',c',rfl,a0',a1',b0',b1'⟩:=all q hq
 obtain ⟨e1,e2⟩:=wvt a0 a1 b0 b1 a0' a1' b0' b1' z
 show ([.inl a,.inl b]:List Key)=[.inl a',.inl b']
 rw [e1,e2]
theorem TmOk.len {tv:List (List Key×V)}(h:TmOk tv):tv.length≤40000:=by
 obtain ⟨_,nd,all⟩:=h
 let g:List Key→Nat:=λk=>match k with|[.inl a,.inl b]=>a.toNat*41+b.toNat|_=>0
 have m:∀x∈tv.map (·.1),∃a b:Int,x=[.inl a,.inl b]∧0≤a∧a≤960∧1≤b∧b≤40:=λx hx=>by
  obtain ⟨p,hp,rfl⟩:=ao.mp hx
  obtain ⟨a,b,c,rfl,r⟩:=all p hp
  exact ⟨a,b,rfl,r⟩
 have nd2:((tv.map (·.1)).map g).Nodup:=by
  refine bu.mpr (bN (λ{x y} hx hy hne z=>hne ?_) nd)
  obtain ⟨a,b,rfl,a0,a1,b0,b1⟩:=m x hx
  obtain ⟨a',b',rfl,a0',a1',b0',b1'⟩:=m y hy
  have z:a.toNat*41+b.toNat=a'.toNat*41+b'.toNat:=z
  have e1:a=a':=by lia
  have e2:b=b':=by lia
  rw [e1,e2]
 have:=L2.qx9 ((tv.map (·.1)).map g) (List.range 39401) nd2 λv hv=>?_
 ·rw [ae,ae,aO] at this
  lia
 ·obtain ⟨x,hx,rfl⟩:=ao.mp hv
  obtain ⟨a,b,rfl,a0,a1,b0,b1⟩:=m x hx
  refine bb.mpr ?_
  show a.toNat*41+b.toNat<39401
  lia
theorem TmOk.one {a b:Int}(a0:0≤a)(a1:a≤960)(b0:1≤b)(b1:b≤40):TmOk [([.inl a,.inl b],.int 1)]:=⟨λz=>(nomatch z),aN.mpr ⟨am,aY⟩,λq hq=>⟨a,b,1,ai.mp hq,a0,a1,b0,b1⟩⟩
theorem TmOk.put {tv:List (List Key×V)}(h:TmOk tv){a b c:Int}(a0:0≤a)(a1:a≤960)(b0:1≤b)(b1:b≤40):TmOk (zx tv [.inl a,.inl b] (.int c)):=by
 obtain ⟨ne,nd,all⟩:=h
 unfold zx
 split
 ·refine ⟨λz=>ne (List.map_eq_nil_iff.mp z),?_,λq hq=>?_⟩
  ·have:(tv.map λkv=>if kv.1=[Sum.inl a,Sum.inl b] then (kv.1,V.int c) else kv).map (·.1)=tv.map (·.1):=by
    rw [bU]
    refine bS λx _=>?_
    show (if x.1=[Sum.inl a,Sum.inl b] then (x.1,V.int c) else x).1=x.1
    split <;> rfl
   rw [this]
   exact nd
  ·obtain ⟨x,hx,rfl⟩:=ao.mp hq
   obtain ⟨a',b',c',rfl,r⟩:=all x hx
   show ∃a_1 b_1 c_1:Int,(if ([Sum.inl a',Sum.inl b']:List Key)=[Sum.inl a,Sum.inl b] then (([Sum.inl a',Sum.inl b']:List Key),V.int c) else ([Sum.inl a',Sum.inl b'],V.int c'))=([.inl a_1,.inl b_1],.int c_1)∧_
   split
   ·exact ⟨a',b',c,rfl,r⟩
   ·exact ⟨a',b',c',rfl,r⟩
 ·rename_i hn
  refine ⟨dj _ (cT _ _),?_,λq hq=>?_⟩
  ·rw [ba,List.nodup_append]
   refine ⟨nd,aN.mpr ⟨am,aY⟩,λx hx y hy z=>hn ?_⟩
   obtain ⟨p,hp,rfl⟩:=ao.mp hx
   have hy:y=[Sum.inl a,Sum.inl b]:=ai.mp hy
   exact List.any_eq_true.mpr ⟨p,hp,bn (z.trans hy)⟩
  ·rcases aH.mp hq with hq|hq
   ·exact all q hq
   ·exact ⟨a,b,c,ai.mp hq,a0,a1,b0,b1⟩
end
section
variable {P:Ac}{w:Ah}{K:Aa}{mg:Str→Option Ag}{base:Heap}{qd:Aj}{qm:Aj}{qx:Aj}{qp:Aj}{qf:Aj}{wz:Aj}{wv:Aj}{qr:Aj}{wy:Aj}{q8:Aj}{qj:Aj}{wb:Aj}{qz:Aj}{qu:Aj}{qw:Aj}{qq:Aj}
def stN (n u m f:Nat):Nat:=if m<f then 0 else (if f<u then 1 else (m-f)/(n-u)+1)-(if f=0 then 1 else 0)
theorem wkq {m:Int}{t L:Nat}(h:(t:Int)≤m):(m-t)/(L:Int)=(((m.toNat-t)/L:Nat):Int):=by
 rw [show m-(t:Int)=((m.toNat-t:Nat):Int) by lia]
 push_cast
 rfl
def wkc:Sp:=λvs H Q _=>∃(f u n:Nat) (m:Int),vs=[.int f,.int u,.int n,.int m]∧f<n∧u<n∧n≤1000∧0≤m∧Q (.int (stN n u m.toNat f)) H
theorem ok_led {f:Aj}{fd:Ad}(F:Fun K "led_to" "led_to" s_led_to f fd)(T:Txt K mg qd qm qx qp qf wz wv qr wy q8 qj wb qz qu qw qq):FnOk P w K mg base (CXE P w) 1 f fd ["place","turn","size","many"] wkc:=by
 have sc:=wwm
 refine F.okX sc (λvs H Q E h=>by obtain ⟨f,u,n,m,rfl,_⟩:=h;rfl) (λcdv A outer s H vs Q E hr h=>?_)
 obtain ⟨f,u,n,m,rfl,hf,u1,n1,m0,k⟩:=h
 refine ⟨_,(qb (x4 (wn Qh (pv 0) (pv 3) (w9 _)) (wq (wp wx)) xy)
   (qb (w6 (i:=4) sc.nd rfl (by walk_at "loc") (qk7 (wn uh (pv 0) (pv 1) (w9 _)) wx (wm xm (wm jb (wm kh (pv 3) (pv 0)) (wm kh (pv 2) (pv 1))) wx)))
   (wq (wp (qk7 (wn ku (pv 0) wx (w9 _)) (wm kh (pv 4) wx) (pv 4)))))),?_⟩
 refine exI rfl (exI rfl (wt rfl rfl (exI rfl (k6 (λz=>?_) (λz=>?_)))))
 ·unfold stN at k
  rw [aj (by lia)] at k
  exact k
 ·have fm:(f:Int)≤m:=by lia
  have res:∀x:Int,x=(if f<u then 1 else (((m.toNat-f)/(n-u):Nat):Int)+1)-(if f=0 then 1 else 0)→Q (.int x) H:=λx hx=>by
   have e:x=(stN n u m.toNat f:Nat):=by
    unfold stN
    rw [af (by lia),hx]
    generalize (m.toNat-f)/(n-u)=D
    by_cases y1:f<u <;> by_cases y2:f=0
    ·simp only [aj y1,aj y2];lia
    ·simp only [aj y1,af y2];lia
    ·simp only [af y1,aj y2];lia
    ·simp only [af y1,af y2];lia
   rw [e]
   exact k
  refine exI rfl (exI rfl (wt rfl rfl (exI rfl (k6 (λy1=>?_) (λy1=>?_)))))
  ·refine exI rfl ⟨rfl,_,rfl,jz (λy2=>?_) (λy2=>?_)⟩
   ·refine exI rfl (wt rfl rfl (res _ ?_))
    rw [aj (by lia),aj (by lia)]
   ·refine exI rfl (res _ ?_)
    rw [aj (by lia),af (by lia)]
    rfl
  ·refine exI rfl (exI rfl (wt rfl rfl (exI rfl (exI rfl (wt rfl rfl ?_)))))
   refine wt rfl rfl ⟨⟨(by lia),(Sm.small (n:=65) (by lia) (by lia) (by decide)).mono (by decide)⟩,wt rfl rfl ?_⟩
   have ev:(m-(f:Int))/((n:Int)-u)=(((m.toNat-f)/(n-u):Nat):Int):=by
    rw [←wkq fm,show ((n-u:Nat):Int)=(n:Int)-u by lia]
   rw [ev]
   refine exI rfl ⟨rfl,_,rfl,jz (λy2=>?_) (λy2=>?_)⟩
   ·refine exI rfl (wt rfl rfl (res _ ?_))
    rw [af (by lia),aj (by lia)]
   ·refine exI rfl (res _ ?_)
    rw [af (by lia),af (by lia)]
    lia
def W5 (C:Aj):Sp:=λvs H Q _=>∃(y dx p t:Aj) (n:Str),vs=[.ref y,.str n,.ref p,.ref t]∧H y=some (.ins C dx [])∧∀H',H' y=some (.ins C dx (wF n p t))→Kb [y] H H'→Q .non H'
theorem wkt {f:Aj}{fd:Ad}(F:Fun K "__init__" "Walker.__init__" s_Walker___init__ f fd)(T:Txt K mg qd qm qx qp qf wz wv qr wy q8 qj wb qz qu qw qq):FnOk P w K mg base (CXE P w) 1 f fd ["self","whose","point","times"] (W5 qw):=by
 have sc:=Q4
 refine F.okX sc (λvs H Q E h=>by obtain ⟨y,dx,p,t,n,rfl,_⟩:=h;rfl) (λcdv A outer s H vs Q E hr h=>?_)
 obtain ⟨y,dx,p,t,n,rfl,hy,k⟩:=h
 refine ⟨_,(qb (Q7 (pv 0) (pv 1) rfl)
   (qb (Q7 (pv 0) (pv 2) rfl)
   (wq (Q7 (pv 0) (pv 3) rfl)))),?_⟩
 refine exI rfl (exI rfl ⟨y,qw,dx,[],rfl,hy,T.clW,T.naWw,(by show 0<1000;decide),?_⟩)
 refine exI rfl (exI rfl ⟨y,qw,dx,exI rfl ⟨qh,T.clW,T.naWp,(by show 1<1000;decide),?_⟩⟩)
 refine exI rfl (exI rfl ⟨y,qw,dx,exI rfl ⟨qh,T.clW,T.naWt,(by show 2<1000;decide),?_⟩⟩)
 refine k _ qh λb o nb e=>?_
 have nb:b≠y:=λz=>nb (by simp [z])
 rw [wj nb,wj nb,wj nb]
 exact e
theorem qw0 {C:Aj}{H:Hp}{n:Str}{p t y dx:Aj}{Pp:Hp→Prop}{E:XK}(ny:H y=none)(nd:H dx=none)(k:∀H',Same H H'→(∃dx,H' y=some (.ins C dx (wF n p t)))→Pp H') :
  W5 C [.ref y,.str n,.ref p,.ref t] (upd (upd H dx (.own y)) y (.ins C dx [])) (λr H2=>r=.non∧Pp H2) E:=by
 refine ⟨y,dx,p,t,n,rfl,qh,λH' e kb=>⟨rfl,k H' (λb o eb=>kb b o (λz=>?_) ?_) ⟨dx,e⟩⟩⟩
 ·rw [ai.mp z,ny] at eb;cases eb
 ·rw [wj (qg eb ny),wj (qg eb nd)]
  exact eb
def W8 (C:Aj):Sp:=λvs H Q _=>∃(n:Str) (p:Aj) (pt:Int×Int),vs=[.str n,.ref p]∧H p=some (.tup [.int pt.1,.int pt.2])∧∀H' y t,H y=none→Same H H'→WkAt C H' y n p pt t [([.inl pt.1,.inl pt.2],.int 1)]→Q (.ref y) H'
theorem qkb {f:Aj}{fd:Ad}(F:Fun K "set_down" "set_down" s_set_down f fd)(T:Txt K mg qd qm qx qp qf wz wv qr wy q8 qj wb qz qu qw qq)(c_Walker:CCal P w K mg base "Walker" qw 1 (W5 qw)):FnOk P w K mg base (CXE P w) 3 f fd ["whose","point"] (W8 qw):=by
 have sc:=qkh
 refine F.okX sc (λvs H Q E h=>by obtain ⟨n,p,pt,rfl,_⟩:=h;rfl) (λcdv A outer s H vs Q E hr h=>?_)
 obtain ⟨n,p,pt,rfl,hp,k⟩:=h
 refine ⟨_,(wq (wp (uy c_Walker (hr.mono (by decide)) rfl qy (q9 (pv 0) (q9 (pv 1) (xv (wkb hr.units0 (pv 1) wx) qk)))))),?_⟩
 refine exI rfl (exI rfl (λt nt=>(exI rfl ⟨p,[.inl pt.1,.inl pt.2],rfl,(by rw [wj (qg hp nt)];exact hp),qh,?_⟩)))
 have s1:Same H (upd (upd H t (.dT [])) t (.dT [([.inl pt.1,.inl pt.2],.int 1)])):=by
  rw [j7]
  exact Same.upd nt
 have f1:upd (upd H t (.dT [])) t (.dT [([.inl pt.1,.inl pt.2],.int 1)]) t=some (.dT [([.inl pt.1,.inl pt.2],.int 1)]):=qh
 generalize upd (upd H t (.dT [])) t (.dT [([.inl pt.1,.inl pt.2],.int 1)])=H1 at s1 f1
 exact λy dx ny nd ne=>qw0 ny nd λH' s2 e=>k H' y t (xk s1 ny) (s1.trans s2) ⟨e,s2 _ _ (s1 _ _ hp),s2 _ _ f1⟩
def HPt (hs:List Int)(pt:Int×Int):Prop:=xj hs∧Pt hs pt.2 pt∧pt.2≤40
theorem HPt.rng {hs:List Int}{pt:Int×Int}(h:HPt hs pt):0≤pt.1∧pt.1≤960∧1≤pt.2∧pt.2≤40:=by
 obtain ⟨ok,⟨h1,_,_,h0,h2⟩,h3⟩:=h
 have ol:=ok.2.1
 have o1:=ok.1
 have:((hs.length:Int)-1)*pt.2≤24*pt.2:=aF (by lia) (by lia)
 lia
theorem HPt.it {hs:List Int}{pt:Int×Int}(h:HPt hs pt)(n:Nat):HPt hs (itP hs pt n):=by
 have a:=wqs h.1 h.2.1 n
 have:=h.2.2
 have:=a.2.1
 exact ⟨h.1,⟨a.1,Int.le_refl _,a.2.2.1,a.2.2.2⟩,by lia⟩
theorem HPt.short {hs:List Int}{pt:Int×Int}(h:HPt hs pt):¬ Dist (itP hs pt) 1001:=λd=>by
 have r:=h.rng
 obtain ⟨ok,hp,h3⟩:=h
 have ol:=ok.2.1
 have o1:=ok.1
 have inj:∀i j,trT hs pt.1 pt.2 i=trT hs pt.1 pt.2 j→itP hs pt i=itP hs pt j:=λi j e=>(it_eq hp i j).mpr e
 have nd:((List.range 1001).map λi=>(trT hs pt.1 pt.2 i).toNat).Nodup:=by
  refine bu.mpr (bN (λ{i j} hi hj hij z=>?_) (dz (n:=1001)))
  have a:=qq6 ok hp.1 hp.2.2.2 i
  have b:=qq6 ok hp.1 hp.2.2.2 j
  have a0:=a.1
  have b0:=b.1
  exact d i j hij (bb.mp hj) (inj i j (by lia))
 have:=L2.qx9 _ (List.range 961) nd λv hv=>by
  obtain ⟨i,_,rfl⟩:=ao.mp hv
  have a:=qq6 ok hp.1 hp.2.2.2 i
  have a0:=a.1
  have a1:=a.2
  have:((hs.length:Int)-1)*pt.2≤24*pt.2:=aF (by lia) (by lia)
  exact bb.mpr (by lia)
 rw [ae,aO,aO] at this
 lia
def k4 (tv:List (List Key×V))(q:Int×Int):Int:=match (wc tv [.inl q.1,.inl q.2]).getD (.int 0) with|.int c=>c|_=>0
def HitI (hs:List Int)(pt:Int×Int)(n u m i:Nat)(tv tv':List (List Key×V)):Prop:=(∀f,f<i→k4 tv' (itP hs pt f)=k4 tv (itP hs pt f)+stN n u m f)∧∀q,(∀f,f<i→itP hs pt f≠q)→k4 tv' q=k4 tv q
def qwq (hs:List Int)(pt:Int×Int)(m:Nat)(tv tv':List (List Key×V)):Prop:=∃n u,n≤1000∧Dist (itP hs pt) n∧u<n∧itP hs pt n=itP hs pt u∧HitI hs pt n u m n tv tv'
theorem qxr {tv:List (List Key×V)}{q q':Int×Int}{c:Int}:k4 (zx tv [.inl q.1,.inl q.2] (.int c)) q'=if q=q' then c else k4 tv q':=by
 unfold k4
 by_cases h:q=q'
 ·subst h
  rw [aj rfl,vf,aj rfl]
  rfl
 ·rw [af h,vf,af]
  intro z
  apply h
  injection z with z1 z2
  injection z2 with z2 _
  injection z1 with z1
  injection z2 with z2
  exact Prod.ext z1.symm z2.symm
theorem HitI.next {hs:List Int}{pt:Int×Int}{n u m i:Nat}{tv tv':List (List Key×V)}(h:HitI hs pt n u m i tv tv')(d:Dist (itP hs pt) n)(hi:i<n)(e:stN n u m i=0):HitI hs pt n u m (i+1) tv tv':=by
 have ne:∀f,f<i→itP hs pt f≠itP hs pt i:=λf hf=>d f i hf hi
 refine ⟨λf hf=>?_,λq hq=>h.2 q λf hf=>hq f (by lia)⟩
 by_cases z:f=i
 ·subst z
  rw [h.2 _ ne,e]
  lia
 ·exact h.1 f (by lia)
theorem HitI.put {hs:List Int}{pt:Int×Int}{n u m i:Nat}{tv tv':List (List Key×V)}{c:Int}(h:HitI hs pt n u m i tv tv')(d:Dist (itP hs pt) n)(hi:i<n)(ec:(wc tv' [.inl (itP hs pt i).1,.inl (itP hs pt i).2]).getD (.int 0)=.int c):HitI hs pt n u m (i+1) tv (zx tv' [.inl (itP hs pt i).1,.inl (itP hs pt i).2] (.int (c+stN n u m i))):=by
 have ne:∀f,f<i→itP hs pt f≠itP hs pt i:=λf hf=>d f i hf hi
 have e0:k4 tv' (itP hs pt i)=c:=by unfold k4;rw [ec]
 have e1:=h.2 _ ne
 refine ⟨λf hf=>?_,λq hq=>?_⟩
 ·rw [qxr]
  by_cases z:f=i
  ·subst z
   rw [aj rfl,←e1,e0]
  ·rw [af (λy=>ne f (by lia) y.symm)]
   exact h.1 f (by lia)
 ·rw [qxr,af (hq i (by lia))]
  exact h.2 q λf hf=>hq f (by lia)
def qzq (C CR:Aj):Sp:=λvs H Q _=>∃(y r p t:Aj) (n:Str) (hs:List Int) (pt:Int×Int) (tv:List (List Key×V)) (m:Int),vs=[.ref y,.ref r,.int m]∧WkAt C H y n p pt t tv∧TmOk tv∧RoadAt CR H r hs∧HPt hs pt∧0≤m ∧
 ∀H' y' p' t' tv',H y'=none→Same H H'→WkAt C H' y' n p' (itP hs pt m.toNat) t' tv'→TmOk tv'→qwq hs pt m.toNat tv tv'→Q (.ref y') H'
theorem wy3 {f:Aj}{fd:Ad}(F:Fun K "gone" "Walker.gone" s_Walker_gone f fd)(T:Txt K mg qd qm qx qp qf wz wv qr wy q8 qj wb qz qu qw qq)(c_trace:Cal P w K mg base "trace" 5 (Yd qu wz))(c_led_to:Cal P w K mg base "led_to" 1 wkc)(c_spot:Cal P w K mg base "spot" 1 qz9)(c_Walker:CCal P w K mg base "Walker" qw 1 (W5 qw)) :
  FnOk P w K mg base (CXE P w) 6 f fd ["self","road","many"] (qzq qw qu):=by
 have sc:=qq5
 refine F.okX sc (λvs H Q E h=>by obtain ⟨y,r,p,t,n,hs,pt,tv,m,rfl,_⟩:=h;rfl) (λcdv A outer s H vs Q E hr h=>?_)
 obtain ⟨y,r,p,t,n,hs,pt,tv,m,rfl,hW,hT,hR,hP,m0,k⟩:=h
 obtain ⟨dy,hy⟩:=hW.ob
 have rg:=hP.rng
 have big:(1000000:Nat)<sizeLine:=by decide
 refine ⟨_,(qb (yx (wf c_trace (hr.mono (by decide)) rfl qy (q9 (pv 1) (xv (xp (pv 0) rfl) qk))) (ju rfl (xh (xu (i:=3) sc.nd rfl (by walk_at "loc")) (xh (xu (i:=4) sc.nd rfl (by walk_at "loc")) vp))))
   (qb (w6 (i:=5) sc.nd rfl (by walk_at "loc") (vb qyf rfl T.dict_ PyProof.Rows.boot_dict (xv (xp (pv 0) rfl) qk)))
   (qb (jj aP rfl (wyk rfl T.enumerate_ (q9 (pv 3) qk)) (ju rfl (xh (xu (i:=6) sc.nd rfl (by walk_at "loc")) (xh (xu (i:=7) sc.nd rfl (by walk_at "loc")) vp))) (qb (w6 (i:=8) sc.nd rfl (by walk_at "loc") (wf c_led_to (hr.mono (by decide)) rfl qy (q9 (pv 6) (q9 (pv 4) (kj (xq xb rfl T.len_ aM (q9 (pv 3) qk)) (q9 (pv 2) qk))))))
   (wq (x4 (wn Qh (pv 8) wx (w9 _)) (wq (jg (zy hr) (pv 5) (pv 7) (wm xm (qjj (zy hr) (pv 5) (pv 7) wx ⟨rfl,rfl,rfl,rfl⟩) (pv 8)) rfl)) xy))))
   (wq (wp (uy c_Walker (hr.mono (by decide)) rfl qy (xv (xp (pv 0) rfl) (kj (wf c_spot (hr.mono (by decide)) rfl qy (q9 (pv 3) (q9 (pv 4) (q9 (pv 2) qk)))) (q9 (pv 5) qk))))))))),?_⟩
 refine ⟨_,rfl,_,rfl,y,qw,dy,_,_,rfl,hy,T.clW,T.naWp,jk,r,p,hs,pt,pt.2,rfl,hR,hP.1,hW.pt,hP.2.1,(Sm.small (n:=65) (by lia) (by lia) (by decide)).mono (by decide),λnn u q l H1 n1 d1 u1 e1 s1 nl fq pa=>?_,λd=>absurd d hP.short⟩
 refine ⟨q,exI rfl ⟨SqT.of fq,rfl,_,_,rfl,_,_,rfl,rfl,?_⟩⟩
 obtain ⟨ys,fl,pr⟩:=id pa
 have hl:ys.length=nn:=by rw [pr.length,qkj]
 have y1:=s1 _ _ hy
 refine exI rfl ⟨y,qw,dy,_,_,rfl,y1,T.clW,T.naWt,qq1,t,tv,rfl,s1 _ _ hW.tm,hT.1,hT.hash,λt2 nt2=>?_⟩
 have s2:Same H1 (upd H1 t2 (.dT tv)):=Same.upd nt2
 have f2:upd H1 t2 (.dT tv) t2=some (.dT tv):=qh
 have nt20:H t2=none:=xk s1 nt2
 have tl:t2≠l:=(qg fl nt2).symm
 generalize hH2:upd H1 t2 (.dT tv)=H2 at s2 f2
 refine exI rfl ⟨l,ys,rfl,SqL.of (s2 _ _ fl),?_⟩
 refine for_en (λi σ H'=>(∃z6 z7 z8,σ=[some (.ref y),some (.ref r),some (.int m),some (.ref l),some (.int ((u:Nat):Int)),some (.ref t2),z6,z7,z8])∧(∃tv',H' t2=some (.dT tv')∧TmOk tv'∧HitI hs pt nn u m.toNat i tv tv')∧Kb [t2] H1 H') ⟨⟨_,_,_,rfl⟩,⟨tv,f2,hT,(λf z=>absurd z (dW _)),λ_ _=>rfl⟩,Kb.of s2⟩ (λi σ H' hi h=>SqL.of (h.2.2 _ _ (by simpa using tl.symm) fl)) ?_ ?_
 ·rintro i v z σ H' ev nz ⟨⟨z6,z7,z8,rfl⟩,⟨tv',ft,hT',hit⟩,kb⟩
  have hi:i<nn:=by rw [←hl];exact (aT.mp ev).1
  obtain ⟨a,ea,fa⟩:=qyt (i:=i) pr hi
  rw [ev] at ea
  cases ea
  have sz:Same H' (upd H' z (.tup [.int ((i:Nat):Int),.ref a])):=Same.upd nz
  refine ⟨z,exI rfl ⟨SqT.new,rfl,_,_,rfl,_,_,rfl,rfl,?_⟩⟩
  have ft3:=sz _ _ ft
  have kb3:Kb [t2] H1 (upd H' z (.tup [.int ((i:Nat):Int),.ref a])):=kb.trans (Kb.of sz)
  generalize upd H' z (.tup [.int ((i:Nat):Int),.ref a])=H3 at ft3 kb3
  have at2:a≠t2:=qg fa nt2
  have fl3:=kb3 _ _ (by simpa using tl.symm) fl
  have fa3:H3 a=some (.tup (([.inl (itP hs pt i).1,.inl (itP hs pt i).2]:List Key).map kV)):=kb3 _ _ (by simpa using at2) fa
  have rgi:=(hP.it i).rng
  refine exI rfl (exI rfl (exI rfl ⟨_,_,rfl,.inl (SqL.of fl3),exI rfl ⟨i,u,nn,m,?_,hi,u1,n1,m0,exI rfl (wt rfl rfl (exI rfl (k6 (λg=>?_) (λg=>?_))))⟩⟩))
  ·rw [hl]
  ·have dg:=DGet.t ft3 fa3
   have key:∃c:Int,(wc tv' [.inl (itP hs pt i).1,.inl (itP hs pt i).2]).getD (.int 0)=.int c:=by
    cases e:wc tv' [.inl (itP hs pt i).1,.inl (itP hs pt i).2] with
    |none=>exact ⟨0,rfl⟩
    |some v =>
     have hm:∃kv∈tv',kv.2=v:=by
      unfold wc at e
      cases hf:tv'.find? λkv=>decide (kv.1=[Sum.inl (itP hs pt i).1,Sum.inl (itP hs pt i).2]) with
      |none=>rw [hf] at e;cases e
      |some kv =>
       rw [hf] at e
       exact ⟨kv,cV hf,az e⟩
     obtain ⟨kv,hk,rfl⟩:=hm
     obtain ⟨a',b',c',rfl,_⟩:=hT'.2.2 kv hk
     exact ⟨c',rfl⟩
   obtain ⟨c,ec⟩:=key
   refine exI rfl ⟨t2,rfl,.inr ⟨_,.inl ft3⟩,exI rfl ⟨_,dg,_,rfl,?_⟩⟩
   rw [ec]
   refine wt rfl rfl (exI rfl (exI rfl ⟨t2,exI rfl ⟨DPut.t ft3 fa3 (by have:=hT'.len;lia),⟨_,_,_,rfl⟩,⟨_,qh,hT'.put rgi.1 rgi.2.1 rgi.2.2.1 rgi.2.2.2,hit.put d1 hi ec⟩,λb o nb e=>?_⟩⟩))
   rw [wj (by simpa using nb)]
   exact kb3 b o nb e
  ·exact ⟨⟨_,_,_,rfl⟩,⟨tv',ft3,hT',hit.next d1 hi (by lia)⟩,kb3⟩
 ·rintro σ H' ⟨⟨z6,z7,z8,rfl⟩,⟨tv',ft,hT',hit⟩,kb⟩
  rw [hl] at hit
  have keep:∀b o,H1 b=some o→H' b=some o:=λb o e=>kb b o (by simpa using qg e nt2) e
  refine exI rfl ⟨y,qw,dy,_,_,rfl,keep _ _ y1,T.clW,T.naWw,kf,exI rfl (exI rfl (exI rfl ⟨l,hs,pt,nn,u,m,rfl,⟨n1,d1,u1,e1,pa.same keep⟩,m0,λa fa=>(exI rfl (λy' dx' ny' nd' ne'=>qw0 ny' nd' λH4 s4 e4=>?_))⟩))⟩
  have sk:Same H H':=s1.trans keep
  exact k H4 y' a t2 tv' (xk sk ny') (sk.trans s4) ⟨e4,s4 _ _ fa,s4 _ _ ft⟩ hT' ⟨nn,u,n1,d1,u1,e1,hit⟩
end
section
variable {P:Ac}{w:Ah}{K:Aa}{mg:Str→Option Ag}{base:Heap}{qd:Aj}{qm:Aj}{qx:Aj}{qp:Aj}{qf:Aj}{wz:Aj}{wv:Aj}{qr:Aj}{wy:Aj}{q8:Aj}{qj:Aj}{wb:Aj}{qz:Aj}{qu:Aj}{qw:Aj}{qq:Aj}
theorem qxf {C CW:Aj}{H H3:Hp}{x dr dw dd c1 c2 y:Aj}{R W:List (Key×V)}{D:List V}{n whose:Str}{p t:Aj}{pt:Int×Int}{tv:List (List Key×V)}{Q:VK}{E:XK}(hh:Hse C H x dr dw dd R W D)(n1:H c1=none)(n2:upd H c1 (.dK []) c2=none)(s3:Same (upd (upd H c1 (.dK [])) c2 (.dK [])) H3)(W3:WkAt CW H3 y whose p pt t tv)(lR:R.length≤1000)(lW:W.length≤1000)(lD:D.length≤1000000)
  (k:∀H' tp q1 q2,H tp=none→H q1=none→H q2=none→Hse C H' x dr dw dd R (zx W (.inr n) (.ref y)) (D++[.ref tp])→H' tp=some (.tup [.ref q1,.ref q2])→H' q1=some (.dK [])→H' q2=some (.dK [(.inr n,(wc W (.inr n)).getD .non)])→q1≠q2→WkAt CW H' y whose p pt t tv→Kb [dr,dw,dd] H H'→Q .non H') :
  Z0 C [.ref x,.ref c1,.ref c2] (upd H3 c2 (.dK [(.inr n,.ref y)])) Q E:=by
 have c12:c1≠c2:=λz=>by rw [←z,qh] at n2;cases n2
 have n20:H c2=none:=by rw [←n2,wj (aZ c12)]
 have s03:Same H H3:=λb o e=>s3 _ _ (by rw [wj (qg e n20),wj (qg e n1)];exact e)
 have h32:H3 c2=some (.dK []):=s3 _ _ qh
 have h31:H3 c1=some (.dK []):=s3 _ _ (by rw [wj c12,qh])
 have keep:∀b o,(∀kv,o≠HO.dK kv)→H3 b=some o→upd H3 c2 (.dK [(.inr n,.ref y)]) b=some o:=λb o no e=>by
  rw [wj (λz=>by rw [z,h32] at e;cases e;exact no _ rfl)]
  exact e
 have W4:WkAt CW (upd H3 c2 (.dK [(.inr n,.ref y)])) y whose p pt t tv:=by
  obtain ⟨dx,e⟩:=W3.ob
  exact ⟨⟨dx,keep _ _ (λkv z=>by cases z) e⟩,keep _ _ (λkv z=>by cases z) W3.pt,keep _ _ (λkv z=>by cases z) W3.tm⟩
 have s4:Same H (upd H3 c2 (.dK [(.inr n,.ref y)])):=λb o e=>by rw [wj (qg e n20)];exact s03 _ _ e
 have e1:upd H3 c2 (.dK [(.inr n,.ref y)]) c1=some (.dK []):=by rw [wj c12];exact h31
 have e2:upd H3 c2 (.dK [(.inr n,.ref y)]) c2=some (.dK [(.inr n,.ref y)]):=qh
 generalize upd H3 c2 (.dK [(.inr n,.ref y)])=H4 at s4 e1 e2 W4
 have hh4:=hh.same s4
 refine ⟨x,dr,dw,dd,c1,c2,R,W,[],[(.inr n,.ref y)],D,rfl,hh4,.inl e1,.inl e2,c12,(qg hh.r n1).symm,(qg hh.w n1).symm,(qg hh.r n20).symm,(qg hh.w n20).symm,aY,aN.mpr ⟨am,aY⟩,lR,lW,aB _,by show 1≤1000;decide,lD,(λi c ec hc=>nomatch ec),λi c ec hc=>?_,λH' tp q1 q2 a1 a2 a3 a4 a5 a6 a7 a8 _ a9=>?_⟩
 ·cases i with
  |zero=>cases ec;cases hc
  |succ i=>cases ec
 ·have no:∀b,H4 b=none→H b=none:=λb e=>xk s4 e
  have wk:WkAt CW H' y whose p pt t tv:=W4.kb a9 λb hb=>by
   simp only [ak,am,bz] at hb
   rcases hb with rfl|rfl|rfl|rfl|rfl
   ·exact .inl ⟨_,.inl hh4.r⟩
   ·exact .inl ⟨_,.inl hh4.w⟩
   ·exact .inr ⟨_,hh4.d⟩
   ·exact .inl ⟨_,.inl e1⟩
   ·exact .inl ⟨_,.inl e2⟩
  refine k H' tp q1 q2 (no _ a1) (no _ a2) (no _ a3) a4 a5 a6 a7 a8 wk λb o nb e=>a9 b o (λz=>?_) (s4 _ _ e)
  simp only [ak,am,bz] at z nb
  rcases z with z|z|z|z|z
  ·exact nb (.inl z)
  ·exact nb (.inr (.inl z))
  ·exact nb (.inr (.inr z))
  ·rw [z,n1] at e;cases e
  ·rw [z,n20] at e;cases e
def WDeed (C CW:Aj)(H H':Hp)(x dr dw dd:Aj)(R W:List (Key×V))(D:List V)(n whose:Str)(p:Aj)(pt:Int×Int)(t:Aj)(tv:List (List Key×V)):Prop:=∃y tp q1 q2,H tp=none∧H q1=none∧H q2=none∧Hse C H' x dr dw dd R (zx W (.inr n) (.ref y)) (D++[.ref tp])∧H' tp=some (.tup [.ref q1,.ref q2])∧H' q1=some (.dK [])∧H' q2=some (.dK [(.inr n,(wc W (.inr n)).getD .non)])∧q1≠q2∧WkAt CW H' y whose p pt t tv∧Kb [dr,dw,dd] H H'
theorem WDeed.pre {C CW:Aj}{H0 H H':Hp}{x dr dw dd:Aj}{R W:List (Key×V)}{D:List V}{n whose:Str}{p:Aj}{pt:Int×Int}{t:Aj}{tv:List (List Key×V)}(h:WDeed C CW H H' x dr dw dd R W D n whose p pt t tv)(s:Same H0 H):WDeed C CW H0 H' x dr dw dd R W D n whose p pt t tv:=by
 obtain ⟨y,tp,q1,q2,a1,a2,a3,a4,a5,a6,a7,a8,a9,b1⟩:=h
 exact ⟨y,tp,q1,q2,xk s a1,xk s a2,xk s a3,a4,a5,a6,a7,a8,a9,λb o nb e=>b1 b o nb (s _ _ e)⟩
def qzx (C CW CN:Aj):Sp:=λvs H Q E=>∃(x dr dw dd:Aj) (R W:List (Key×V)) (D:List V) (n:Str),vs=[.ref x,.str n]∧Hse C H x dr dw dd R W D∧(wc W (.inr n)=none→E (.ref CN) none H) ∧
 (∀v,wc W (.inr n)=some v→∃y whose p pt t tv,v=.ref y∧WkAt CW H y whose p pt t tv∧∀q,H q=none→Q (.ref q) (upd H q (.tup [.str whose,.ref p])))
theorem wzk {f:Aj}{fd:Ad}(F:Fun K "where" "House.where" s_House_where f fd)(T:Txt K mg qd qm qx qp qf wz wv qr wy q8 qj wb qz qu qw qq)(c_walker_called:MCal P w K mg base qq "walker_called" 1 (zr qq qj false)) :
  FnOk P w K mg base (CXE P w) 2 f fd ["self","name"] (qzx qq qw qj):=by
 have sc:=qqf
 refine F.okX sc (λvs H Q E h=>by obtain ⟨x,dr,dw,dd,R,W,D,n,rfl,_⟩:=h;rfl) (λcdv A outer s H vs Q E hr h=>?_)
 obtain ⟨x,dr,dw,dd,R,W,D,n,rfl,hh,kx,k⟩:=h
 obtain ⟨dx,hx⟩:=hh.ob
 refine ⟨_,(qb (w6 (i:=2) sc.nd rfl (by walk_at "loc") (w4 (pv 0) T.clH c_walker_called (hr.mono (by decide)) qy (q9 (pv 1) qk)))
   (wq (wp (vw (xv (xp (pv 2) rfl) (xv (xp (pv 2) rfl) qk)))))),?_⟩
 refine ⟨_,rfl,x,dx,_,rfl,hx,xz (by decide +kernel) (by decide +kernel) (by decide +kernel),_,rfl,x,dr,dw,dd,R,W,D,n,rfl,hh,λv e=>?_,kx⟩
 obtain ⟨y,whose,p,pt,t,tv,rfl,hW,q⟩:=k v e
 obtain ⟨dy,hy⟩:=hW.ob
 exact exI rfl ⟨y,qw,dy,_,_,rfl,hy,T.clW,T.naWw,kf,exI rfl ⟨y,qw,dy,_,_,rfl,hy,T.clW,T.naWp,jk,sz2,q⟩⟩
def Wg (K:Aa)(C CR CW CN CT CNR CB CO:Aj):Sp:=λvs H Q E=>∃(x dr dw dd a:Aj) (R W:List (Key×V)) (D:List V) (n whose:Str) (t b:Int),vs=[.ref x,.str n,.str whose,.ref a]∧Hse C H x dr dw dd R W D∧R.length≤1000∧W.length≤1000∧D.length≤1000000∧n.length≤1000∧H a=some (.tup [.int t,.int b]) ∧
 (jv n=false→∀H',Same H H'→E (.ref CN) none H')∧(jv n=true→(wc W (.inr n)).isSome=true→∀H',Same H H'→E (.ref CT) none H')∧(jv n=true→wc W (.inr n)=none→(wc R (.inr whose)=none→∀H',Same H H'→E (.ref CNR) none H') ∧
  ∀v,wc R (.inr whose)=some v→∃r hs,v=.ref r∧RoadAt CR H r hs∧xj hs∧(b<1→∀H',Same H H'→E (.ref CB) none H')∧(1≤b→Sm 8000 b∧(40<(wg t b).2→∀H',Same H H'→E (.ref CB) none H')∧((wg t b).2≤40 →
   (¬ vc hs (wg t b).1 (wg t b).2→∀H',Same H H'→E (.ref CO) none H')∧(vc hs (wg t b).1 (wg t b).2→∀H' p t',WDeed C CW H H' x dr dw dd R W D n whose p (wg t b) t' [([.inl (wg t b).1,.inl (wg t b).2],.int 1)]→Q .non H'))))
theorem low1 {t b:Int}(h:1≤b):1≤(wg t b).2:=by
 have e:=qqu (t:=t) h
 have g:=jf (t:=t) h
 show 1≤b/gOf t b
 by_cases z:1≤b/gOf t b
 ·exact z
 ·have:gOf t b*(b/gOf t b)≤0:=Int.mul_nonpos_of_nonneg_of_nonpos (by lia) (by lia)
  lia
theorem wx5 {f:Aj}{fd:Ad}(F:Fun K "place" "House.place" s_House_place f fd)(T:Txt K mg qd qm qx qp qf wz wv qr wy q8 qj wb qz qu qw qq)(c_check_new_name:Cal P w K mg base "check_new_name" 2 (Qz qr wy))(c_road_called:MCal P w K mg base qq "road_called" 1 (zr qq q8 true))(c_lowest:Cal P w K mg base "lowest" 2 (yc qx))(c_on_road:MCal P w K mg base qu "on_road" 3 (um K qu qx qp))(c_set_down:Cal P w K mg base "set_down" 3 (W8 qw))(c_do:MCal P w K mg base qq "do" 2 (Z0 qq)) :
  FnOk P w K mg base (CXE P w) 5 f fd ["self","name","whose","point"] (Wg K qq qu qw qr wy q8 qx qp):=by
 have sc:=Y0
 refine F.okX sc (λvs H Q E h=>by obtain ⟨x,dr,dw,dd,a,R,W,D,n,whose,t,b,rfl,_⟩:=h;rfl) (λcdv A outer s H vs Q E hr h=>?_)
 obtain ⟨x,dr,dw,dd,a,R,W,D,n,whose,t,b,rfl,hh,lR,lW,lD,ln,ha,kn,kt,k⟩:=h
 obtain ⟨dx,hx⟩:=hh.ob
 obtain ⟨tg,g_GREATEST_BOTTOM⟩:=T.g_GREATEST_BOTTOM
 refine ⟨_,(qb (xn (wf c_check_new_name (hr.mono (by decide)) rfl qy (q9 (pv 1) (xv (xp (pv 0) rfl) qk))))
   (qb (w6 (i:=4) sc.nd rfl (by walk_at "loc") (w4 (pv 0) T.clH c_road_called (hr.mono (by decide)) qy (q9 (pv 2) qk)))
   (qb (w6 (i:=5) sc.nd rfl (by walk_at "loc") (wf c_lowest (hr.mono (by decide)) rfl qy (zh (zq zd (pv 3) wx (λ_ _=>rfl)) (zh (zq zd (pv 3) wx (λ_ _=>rfl)) qk))))
   (qb (x4 (wn Qh (zq zd (pv 5) wx (λ_ _=>rfl)) (yn (v:=V.int 40) rfl g_GREATEST_BOTTOM ⟨_,rfl⟩) (w9 _)) (wq (zt rfl T.x_BadBottom zu rfl T.g_BadBottom (xx xf qk))) xy)
   (wq (xn (w4 (pv 0) T.clH c_do (hr.mono (by decide)) qy (xv k8 (xv (yr (jc (pv 1) (wf c_set_down (hr.mono (by decide)) rfl qy (q9 (pv 2) (kj (w4 (pv 4) T.cl c_on_road (hr.mono (by decide)) qy (q9 (pv 5) qk)) qk))) y8) rfl rfl (λz=>nomatch z) (by decide)) qk))))))))),?_⟩
 refine ⟨_,rfl,_,rfl,x,qq,dx,_,_,rfl,hx,T.clH,T.naHw,zm,n,dw,W,rfl,ln,hh.w,λa1 a2 H1 s1=>?_,kn,kt⟩
 obtain ⟨kr,k⟩:=k a1 a2
 have hh1:=hh.same s1
 refine ⟨_,rfl,x,dx,_,rfl,s1 _ _ hx,xz (by decide +kernel) (by decide +kernel) (by decide +kernel),_,rfl,x,dr,dw,dd,R,W,D,whose,rfl,hh1,λv e=>?_,λe=>kr e H1 s1⟩
 obtain ⟨r,hs,rfl,hR,okl,kb,k⟩:=k v e
 refine ⟨_,rfl,_,_,_,_,rfl,rfl,SqT.of (s1 _ _ ha),rfl,_,rfl,_,_,_,_,rfl,rfl,SqT.of (s1 _ _ ha),rfl,t,b,rfl,λb1=>?_,λb1=>kb b1 H1 s1⟩
 obtain ⟨sm,kg,k⟩:=k b1
 refine ⟨sm.mono (by decide),λp np=>?_⟩
 have s2:Same H (upd H1 p (.tup (ptV (wg t b)))):=s1.trans (Same.upd np)
 have f2:upd H1 p (.tup (ptV (wg t b))) p=some (.tup [.int (wg t b).1,.int (wg t b).2]):=qh
 generalize upd H1 p (.tup (ptV (wg t b)))=H2 at s2 f2
 have l1:=low1 (t:=t) b1
 refine exI rfl (exX rfl rfl (SqT.of f2) rfl (wt rfl rfl (exI rfl (k6 (λz=>⟨sz1,kg (by lia) H2 s2⟩) (λz=>?_)))))
 obtain ⟨ko,k⟩:=k (by lia)
 refine exI rfl ⟨x,dx,exI rfl ⟨s2 _ _ hx,xz (by decide +kernel) (by decide +kernel) (by decide +kernel),λc1 n1=>λc2 n2=>(exI rfl (exI rfl (exI rfl ?_)))⟩⟩
 obtain ⟨dy,l,h1,h2⟩:=id hR
 have sc2:Same H2 (upd (upd H2 c1 (.dK [])) c2 (.dK [])):=λb o e=>by
  have e4:upd H2 c1 (.dK []) b=some o:=by rw [wj (qg e n1)];exact e
  rw [wj (qg e4 n2)]
  exact e4
 have s3:=s2.trans sc2
 refine ⟨r,dy,_,rfl,s3 _ _ h1,zg (by decide +kernel),_,rfl,r,p,hs,(wg t b).1,(wg t b).2,rfl,hR.same s3,okl,SqT.of (sc2 _ _ f2),λ_=>⟨(Sm.small (n:=65) (by lia) (by lia) (by decide)).mono (by decide),λon q H3 s4 fq=>?_,λon H3 s4=>ko on H3 (s3.trans s4)⟩,λz=>absurd z (by lia)⟩
 have e3:wg (wg t b).1 (wg t b).2=wg t b:=Yx l1 (qy8 b1)
 rw [e3] at fq
 refine ⟨whose,q,wg t b,rfl,fq,λH4 y t' ny s5 w5=>?_⟩
 refine ⟨s5 _ _ (s4 _ _ qh),[(.inr n,.ref y)],rfl,(show 1≤15 by decide),?_⟩
 exact qxf (E:=E) (hh.same s2) n1 n2 (s4.trans s5) w5 lR lW lD λH' tp q1 q2 b1 b2 b3 b4 b5 b6 b7 b8 b9 kb=>k on H' q t' (WDeed.pre ⟨y,tp,q1,q2,b1,b2,b3,b4,b5,b6,b7,b8,b9,kb⟩ s2)
def spGo (C CR CW CN CC:Aj):Sp:=λvs H Q E=>∃(x dr dw dd:Aj) (R W:List (Key×V)) (D:List V) (n:Str) (m:Int),vs=[.ref x,.str n,.int m]∧Hse C H x dr dw dd R W D∧R.length≤1000∧W.length≤1000∧D.length≤1000000∧(wc W (.inr n)=none→E (.ref CN) none H) ∧
 (∀v,wc W (.inr n)=some v→∃y whose p pt t tv r hs,v=.ref y∧WkAt CW H y whose p pt t tv∧TmOk tv∧wc R (.inr whose)=some (.ref r)∧RoadAt CR H r hs∧HPt hs pt∧(¬ Within m 0 (some 1000000000000000000000000000000000000000000000000000000000000)→E (.ref CC) none H) ∧
  (Within m 0 (some 1000000000000000000000000000000000000000000000000000000000000)→∀H' p' t' tv',WDeed C CW H H' x dr dw dd R W D n whose p' (itP hs pt m.toNat) t' tv'→TmOk tv'→qwq hs pt m.toNat tv tv'→Q (.ref p') H'))
theorem ok_go {f:Aj}{fd:Ad}(F:Fun K "go" "House.go" s_House_go f fd)(T:Txt K mg qd qm qx qp qf wz wv qr wy q8 qj wb qz qu qw qq)(c_walker_called:MCal P w K mg base qq "walker_called" 1 (zr qq qj false))(c_check_count:CalD P w K mg base "check_count" 1 (Yz qf))(c_gone:MCal P w K mg base qw "gone" 6 (qzq qw qu))(c_do:MCal P w K mg base qq "do" 2 (Z0 qq)) :
  FnOk P w K mg base (CXE P w) 8 f fd ["self","name","many"] (spGo qq qu qw qj qf):=by
 have sc:=qkr
 refine F.okX sc (λvs H Q E h=>by obtain ⟨x,dr,dw,dd,R,W,D,n,m,rfl,_⟩:=h;rfl) (λcdv A outer s H vs Q E hr h=>?_)
 obtain ⟨x,dr,dw,dd,R,W,D,n,m,rfl,hh,lR,lW,lD,kx,k⟩:=h
 obtain ⟨dx,hx⟩:=hh.ob
 obtain ⟨tg,g_FARTHEST⟩:=T.g_FARTHEST
 refine ⟨_,(qb (w6 (i:=3) sc.nd rfl (by walk_at "loc") (w4 (pv 0) T.clH c_walker_called (hr.mono (by decide)) qy (q9 (pv 1) qk)))
   (qb (xn (Jr c_check_count.all (hr.mono (by decide)) rfl qy (q9 (pv 2) (xx wx (q9 (yn (v:=V.int 1000000000000000000000000000000000000000000000000000000000000) rfl g_FARTHEST ⟨_,rfl⟩) qk)))))
   (qb (w6 (i:=4) sc.nd rfl (by walk_at "loc") (w4 (pv 3) T.clW c_gone (hr.mono (by decide)) qy (zh (zf (zy hr) (xp (pv 0) rfl) (xp (pv 3) rfl) (λ_ _=>rfl)) (q9 (pv 2) qk))))
   (qb (xn (w4 (pv 0) T.clH c_do (hr.mono (by decide)) qy (xv k8 (xv (yr (jc (pv 1) (pv 4) y8) rfl rfl (λz=>nomatch z) (by decide)) qk))))
   (wq (wp (xp (pv 4) rfl))))))),?_⟩
 refine ⟨_,rfl,x,dx,_,rfl,hx,xz (by decide +kernel) (by decide +kernel) (by decide +kernel),_,rfl,x,dr,dw,dd,R,W,D,n,rfl,hh,λv e=>?_,kx⟩
 obtain ⟨y,whose,p,pt,t,tv,r,hs,rfl,hW,hT,er,hR,hP,kc,k⟩:=k v e
 obtain ⟨dy,hy⟩:=hW.ob
 refine ⟨_,rfl,m,0,.int (1000000000000000000000000000000000000000000000000000000000000),some (1000000000000000000000000000000000000000000000000000000000000),rfl,.inr ⟨1000000000000000000000000000000000000000000000000000000000000,rfl,rfl⟩,λwi=>?_,kc⟩
 have dg:DGet H dr (.str whose) (wc R (.inr whose)):=DGet.k (k:=.inr whose) hh.r
 rw [er] at dg
 refine exI rfl ⟨y,dy,exI rfl ⟨hy,qjf (by decide +kernel) (by decide +kernel) (by decide +kernel),exI rfl ⟨x,qq,dx,_,_,rfl,hx,T.clH,T.naHr,vd,exI rfl ⟨y,qw,dy,_,_,rfl,hy,T.clW,T.naWw,kf,dr,exI rfl ⟨dg,exI rfl ⟨y,r,p,t,whose,hs,pt,tv,m,rfl,hW,hT,hR,hP,wi.1,λH1 y' p' t' tv' ny s1 w1 hT' hit=>?_⟩⟩⟩⟩⟩⟩
 refine exI rfl ⟨x,dx,exI rfl ⟨s1 _ _ hx,xz (by decide +kernel) (by decide +kernel) (by decide +kernel),λc1 n1=>λc2 n2=>(exI rfl (exI rfl ⟨qh,[(.inr n,.ref y')],rfl,(show 1≤15 by decide),?_⟩))⟩⟩
 have sc2:Same H1 (upd (upd H1 c1 (.dK [])) c2 (.dK [])):=λb o e=>by
  have e4:upd H1 c1 (.dK []) b=some o:=by rw [wj (qg e n1)];exact e
  rw [wj (qg e4 n2)]
  exact e4
 have w3:=w1.same sc2
 obtain ⟨H3,hH3⟩:∃H3,H3=upd (upd H1 c1 (.dK [])) c2 (.dK []):=⟨_,rfl⟩
 have s3:Same (upd (upd H1 c1 (.dK [])) c2 (.dK [])) H3:=by rw [hH3];exact Same.refl _
 rw [←hH3] at w3 ⊢
 have e0:u6 [] [((Sum.inr n:Key),V.ref y')]=[((Sum.inr n:Key),V.ref y')]:=rfl
 rw [e0]
 dsimp only [j3]
 refine qxf (n:=n) (E:=E) (hh.same s1) n1 n2 s3 w3 lR lW lD λH' tp q1 q2 b1 b2 b3 b4 b5 b6 b7 b8 b9 kb=>?_
 obtain ⟨dy',hy'⟩:=b9.ob
 exact exI rfl ⟨y',qw,dy',_,_,rfl,hy',T.clW,T.naWp,jk,k wi H' p' t' tv' (WDeed.pre ⟨y',tp,q1,q2,b1,b2,b3,b4,b5,b6,b7,b8,b9,kb⟩ s1) hT' hit⟩
end
section
variable {P:Ac}{w:Ah}{K:Aa}{mg:Str→Option Ag}{base:Heap}{qd:Aj}{qm:Aj}{qx:Aj}{qp:Aj}{qf:Aj}{wz:Aj}{wv:Aj}{qr:Aj}{wy:Aj}{q8:Aj}{qj:Aj}{wb:Aj}{qz:Aj}{qu:Aj}{qw:Aj}{qq:Aj}
theorem Zp {α:Type}(ms:List α)(d:α)(f:α→V)(p:α→Bool):qq4 (λi=>p (ms.getD i d)) (ms.map f) (ms.map f).length=(ms.filter p).map f:=by
 unfold qq4
 rw [ae]
 have e:ms=(List.range ms.length).map λi=>ms.getD i d:=by
  refine List.ext_getElem (by rw [ae,aO]) λi h1 h2=>?_
  rw [dJ,List.getElem_range,ay,au h1]
  rfl
 have e2:(ms.filter p).map f=(((List.range ms.length).map λi=>ms.getD i d).filter p).map f:=by rw [←e]
 rw [e2,List.filter_map,bU]
 refine bS λi hi=>?_
 have hi:=bb.mp (bA.mp hi).1
 show (ms.map f).getD i .non=f (ms.getD i d)
 rw [ay,ay,aK,au hi]
 rfl
def WksAt (CW:Aj)(H:Hp)(W:List (Key×V))(ss:List Str)(wh:Str→Str)(ps:Str→Int×Int):Prop:=W.map (·.1)=ss.map Sum.inr∧W.length<64∧∀s∈ss,∃y p t tv,wc W (.inr s)=some (.ref y)∧WkAt CW H y (wh s) p (ps s) t tv
def spOn (C CW:Aj):Sp:=λvs H Q _=>∃(x dr dw dd:Aj) (R W:List (Key×V)) (D:List V) (n:Str) (ss:List Str) (wh:Str→Str) (ps:Str→Int×Int),vs=[.ref x,.str n]∧Hse C H x dr dw dd R W D∧WksAt CW H W ss wh ps ∧
 ∀(l:Aj) (H':Hp) (ms:List Str),H l=none→Same H H'→ms.Perm ss→ms.Pairwise (λx y=>¬ y.cps.toList<x.cps.toList)→H' l=some (.lst ((ms.filter λs=>decide (V.str (wh s)=V.str n)).map V.str))→Q (.ref l) H'
theorem qwy {f:Aj}{fd:Ad}(F:Fun K "walkers_on" "House.walkers_on" s_House_walkers_on f fd)(T:Txt K mg qd qm qx qp qf wz wv qr wy q8 qj wb qz qu qw qq):FnOk P w K mg base (CXE P w) 1 f fd ["self","whose"] (spOn qq qw):=by
 have sc:=Qb
 refine F.okX sc (λvs H Q E h=>by obtain ⟨x,dr,dw,dd,R,W,D,n,ss,wh,ps,rfl,_⟩:=h;rfl) (λcdv A outer s H vs Q E hr h=>?_)
 obtain ⟨x,dr,dw,dd,R,W,D,n,ss,wh,ps,rfl,hh,hw,k⟩:=h
 obtain ⟨dx,hx⟩:=hh.ob
 refine ⟨_,(wq (wp (wzr (M:=[0,1]) rfl rfl (by walk_at "cap") (by walk_at "has") (by walk_at "cix") rfl (by decide +kernel) rfl (show List.Nodup (["name","self","whose"]:List Str) by decide +kernel) (j4 (xq (j9 rfl) rfl T.sorted_ df (xv (xp (pv 0) rfl) qk))) (λ_ _ _ _ _=>(wn ku (Yb (K:=K) rfl (zf (zy hr) (Yb (K:=K) rfl (pv 1) rfl) (pv 0) (λ_ _=>rfl)) rfl) (pv 2) (w9 _))) (λ_ _ _ _ _=>(pv 0))))),?_⟩
 refine exI rfl ⟨x,qq,dx,_,_,rfl,hx,T.clH,T.naHw,zm,dw,W,ss,rfl,.inl hh.w,hw.1,hw.2.1,λl ms nl pm srt=>?_⟩
 have s1:Same H (upd H l (.lst (ms.map V.str))):=Same.upd nl
 have f1:upd H l (.lst (ms.map V.str)) l=some (.lst (ms.map V.str)):=qh
 have lm:ms.length<64:=by
  have a:=bI List.length hw.1
  rw [ae,ae] at a
  have b:=pm.length_eq
  have c:=hw.2.1
  lia
 generalize upd H l (.lst (ms.map V.str))=H1 at s1 f1
 refine ⟨l,rfl,⟨_,SqL.of f1⟩,qqb (λi=>decide (V.str (wh (ms.getD i ""))=V.str n)) (SqL.of f1) (by rw [ae];lia) (λi v H' RR ev s' hR=>?_) (λi v H' RR ev ci s' hR=>(exI rfl (hR H' (Same.refl _)))) λp H' np s' fp=>?_⟩
 ·rw [aK] at ev
  cases em:ms[i]? with
  |none=>rw [em] at ev;cases ev
  |some m =>
   rw [em] at ev
   cases ev
   have eg:ms.getD i "" = m:=by rw [ay,em];rfl
   obtain ⟨y,p,t,tv,e,a⟩:=hw.2.2 m (pm.mem_iff.mp (aX em))
   obtain ⟨dy,hy⟩:=a.ob
   have sa:=s1.trans s'
   have dg:DGet H' dw (.str m) (wc W (.inr m)):=DGet.k (k:=.inr m) (sa _ _ hh.w)
   rw [e] at dg
   rw [eg] at hR
   exact exI rfl ⟨x,qq,dx,_,_,rfl,sa _ _ hx,T.clH,T.naHw,zm,exI rfl ⟨dw,exI rfl ⟨dg,y,qw,dy,_,_,rfl,sa _ _ hy,T.clW,T.naWw,kf,exI rfl ⟨rfl,_,rfl,hR H' (Same.refl _)⟩⟩⟩⟩
 ·rw [Zp ms "" V.str λs=>decide (V.str (wh s)=V.str n)] at fp
  exact k p H' ms (xk s1 np) (s1.trans s') pm srt fp
def qzw (C:Aj):Sp:=λvs H Q _=>∃(x dr dw dd:Aj) (R W:List (Key×V)) (D:List V) (rs ws:List Str),vs=[.ref x]∧Hse C H x dr dw dd R W D∧R.map (·.1)=rs.map Sum.inr∧R.length<64∧W.map (·.1)=ws.map Sum.inr∧W.length<64 ∧
 ∀(q l1 l2:Aj) (ms1 ms2:List Str) (H':Hp),Same H H'→ms1.Perm rs→ms1.Pairwise (λx y=>¬ y.cps.toList<x.cps.toList)→ms2.Perm ws→ms2.Pairwise (λx y=>¬ y.cps.toList<x.cps.toList)→H' l1=some (.lst (ms1.map V.str))→H' l2=some (.lst (ms2.map V.str))→H' q=some (.tup [.ref l1,.ref l2])→Q (.ref q) H'
theorem wxj {f:Aj}{fd:Ad}(F:Fun K "names" "House.names" s_House_names f fd)(T:Txt K mg qd qm qx qp qf wz wv qr wy q8 qj wb qz qu qw qq):FnOk P w K mg base (CXE P w) 1 f fd ["self"] (qzw qq):=by
 have sc:=Jn
 refine F.okX sc (λvs H Q E h=>by obtain ⟨x,dr,dw,dd,R,W,D,rs,ws,rfl,_⟩:=h;rfl) (λcdv A outer s H vs Q E hr h=>?_)
 obtain ⟨x,dr,dw,dd,R,W,D,rs,ws,rfl,hh,eR,lR,eW,lW,k⟩:=h
 obtain ⟨dx,hx⟩:=hh.ob
 refine ⟨_,(wq (wp (vw (kj (xq (j9 rfl) rfl T.sorted_ df (xv (xp (pv 0) rfl) qk)) (kj (xq (j9 rfl) rfl T.sorted_ df (xv (xp (pv 0) rfl) qk)) qk))))),?_⟩
 refine exI rfl ⟨x,qq,dx,_,_,rfl,hx,T.clH,T.naHr,vd,dr,R,rs,rfl,.inl hh.r,eR,lR,λl1 ms1 n1 pm1 st1=>?_⟩
 have s1:Same H (upd H l1 (.lst (ms1.map V.str))):=Same.upd n1
 have f1:upd H l1 (.lst (ms1.map V.str)) l1=some (.lst (ms1.map V.str)):=qh
 generalize upd H l1 (.lst (ms1.map V.str))=H1 at s1 f1
 refine exI rfl ⟨x,qq,dx,_,_,rfl,s1 _ _ hx,T.clH,T.naHw,zm,dw,W,ws,rfl,.inl (s1 _ _ hh.w),eW,lW,λl2 ms2 n2 pm2 st2=>?_⟩
 have s2:Same H1 (upd H1 l2 (.lst (ms2.map V.str))):=Same.upd n2
 have f2:upd H1 l2 (.lst (ms2.map V.str)) l2=some (.lst (ms2.map V.str)):=qh
 generalize upd H1 l2 (.lst (ms2.map V.str))=H2 at s2 f2
 refine ⟨sz2,λq nq=>?_⟩
 have s3:Same H2 (upd H2 q (.tup [.ref l1,.ref l2])):=Same.upd nq
 exact k q l1 l2 ms1 ms2 _ (s1.trans (s2.trans s3)) pm1 st1 pm2 st2 (s3 _ _ (s2 _ _ f1)) (s3 _ _ f2) qh
end
section
variable {P:Ac}{w:Ah}{K:Aa}{mg:Str→Option Ag}{base:Heap}{qd:Aj}{qm:Aj}{qx:Aj}{qp:Aj}{qf:Aj}{wz:Aj}{wv:Aj}{qr:Aj}{wy:Aj}{q8:Aj}{qj:Aj}{wb:Aj}{qz:Aj}{qu:Aj}{qw:Aj}{qq:Aj}
def Wt (C:Aj)(H H':Hp)(x dr dw dd:Aj)(R W:List (Key×V))(D:List V)(cs1 cs2:List (Key×V)):Prop:=∃tp q1 q2,H tp=none∧H q1=none∧H q2=none∧Hse C H' x dr dw dd (exK R cs1) (exK W cs2) (D++[.ref tp])∧H' tp=some (.tup [.ref q1,.ref q2])∧H' q1=some (.dK (bfK R cs1))∧H' q2=some (.dK (bfK W cs2))∧q1≠q2∧Kb [dr,dw,dd] H H'
theorem wzd {C:Aj}{H H4:Hp}{x dr dw dd c1 c2:Aj}{R W cs1 cs2:List (Key×V)}{D:List V}{Q:VK}{E:XK}(hh:Hse C H x dr dw dd R W D)(s4:Same H H4)(n1:H c1=none)(n2:H c2=none)(e1:H4 c1=some (.dK cs1))(e2:H4 c2=some (.dK cs2))(c12:c1≠c2)(nd1:(cs1.map (·.1)).Nodup)(nd2:(cs2.map (·.1)).Nodup)(lR:R.length≤1000)(lW:W.length≤1000)(l1:cs1.length≤1000)(l2:cs2.length≤1000)(lD:D.length≤1000000)(ok1:qkc R cs1)(ok2:qkc W cs2)
  (k:∀H',Wt C H H' x dr dw dd R W D cs1 cs2→Kb [dr,dw,dd,c1,c2] H4 H'→Rd H' c2 (.dK cs2)→(∀H5,Kb [c2] H' H5→Wt C H H5 x dr dw dd R W D cs1 cs2)→Q .non H'):Z0 C [.ref x,.ref c1,.ref c2] H4 Q E:=by
 have hh4:=hh.same s4
 refine ⟨x,dr,dw,dd,c1,c2,R,W,cs1,cs2,D,rfl,hh4,.inl e1,.inl e2,c12,(qg hh.r n1).symm,(qg hh.w n1).symm,(qg hh.r n2).symm,(qg hh.w n2).symm,nd1,nd2,lR,lW,l1,l2,lD,ok1,ok2,λH' tp q1 q2 a1 a2 a3 a4 a5 a6 a7 a8 rd a9=>?_⟩
 have no:∀b,H4 b=none→H b=none:=λb e=>xk s4 e
 have kb:Kb [dr,dw,dd] H H':=λb o nb e=>a9 b o (λz=>by
  simp only [ak,am,bz] at z nb
  rcases z with z|z|z|z|z
  ·exact nb (.inl z)
  ·exact nb (.inr (.inl z))
  ·exact nb (.inr (.inr z))
  ·rw [z,n1] at e;cases e
  ·rw [z,n2] at e;cases e) (s4 _ _ e)
 have ne4:∀b,H4 b=none→b∉[c2]:=λb e z=>by rw [ai.mp z,e2] at e;cases e
 have neH:∀b o,H b=some o→b∉[c2]:=λb o e z=>by rw [ai.mp z,n2] at e;cases e
 refine k H' ⟨tp,q1,q2,no _ a1,no _ a2,no _ a3,a4,a5,a6,a7,a8,kb⟩ a9 rd λH5 k5=>?_
 obtain ⟨dx,ex⟩:=hh.ob
 exact ⟨tp,q1,q2,no _ a1,no _ a2,no _ a3,a4.kb k5 ⟨neH _ _ ex,neH _ _ hh.r,neH _ _ hh.w,neH _ _ hh.d⟩,k5 _ _ (ne4 _ a1) a5,k5 _ _ (ne4 _ a2) a6,k5 _ _ (ne4 _ a3) a7,a8,λb o nb e=>k5 _ _ (neH _ _ e) (kb b o nb e)⟩
def Yq (C CN:Aj):Sp:=λvs H Q E=>∃(x dr dw dd:Aj) (R W:List (Key×V)) (D:List V) (n:Str),vs=[.ref x,.str n]∧Hse C H x dr dw dd R W D∧R.length≤1000∧W.length≤1000∧D.length≤1000000∧(wc W (.inr n)=none→E (.ref CN) none H) ∧
 ((wc W (.inr n)).isSome=true→∀H',Wt C H H' x dr dw dd R W D [] [(.inr n,.non)]→Q .non H')
theorem wx7 {f:Aj}{fd:Ad}(F:Fun K "leave" "House.leave" s_House_leave f fd)(T:Txt K mg qd qm qx qp qf wz wv qr wy q8 qj wb qz qu qw qq)(c_walker_called:MCal P w K mg base qq "walker_called" 1 (zr qq qj false))(c_do:MCal P w K mg base qq "do" 2 (Z0 qq)) :
  FnOk P w K mg base (CXE P w) 3 f fd ["self","name"] (Yq qq qj):=by
 have sc:=Jv
 refine F.okX sc (λvs H Q E h=>by obtain ⟨x,dr,dw,dd,R,W,D,n,rfl,_⟩:=h;rfl) (λcdv A outer s H vs Q E hr h=>?_)
 obtain ⟨x,dr,dw,dd,R,W,D,n,rfl,hh,lR,lW,lD,kx,k⟩:=h
 obtain ⟨dx,hx⟩:=hh.ob
 refine ⟨_,(qb (xn (w4 (pv 0) T.clH c_walker_called (hr.mono (by decide)) qy (q9 (pv 1) qk)))
   (wq (xn (w4 (pv 0) T.clH c_do (hr.mono (by decide)) qy (xv k8 (xv (yr (jc (pv 1) qqh y8) rfl rfl (λz=>nomatch z) (by decide)) qk)))))),?_⟩
 refine ⟨_,rfl,x,dx,_,rfl,hx,xz (by decide +kernel) (by decide +kernel) (by decide +kernel),_,rfl,x,dr,dw,dd,R,W,D,n,rfl,hh,λv e=>?_,kx⟩
 have k:=k (by show (wc W (.inr n)).isSome=true;rw [show wc W (.inr n)=some v from e];rfl)
 refine exI rfl ⟨x,dx,exI rfl ⟨hx,xz (by decide +kernel) (by decide +kernel) (by decide +kernel),λc1 n1=>λc2 n2=>(exI rfl ⟨qh,[(.inr n,.non)],rfl,(show 1≤15 by decide),?_⟩)⟩⟩
 have c12:c1≠c2:=λz=>by rw [←z,qh] at n2;cases n2
 have n20:H c2=none:=by rw [←n2,wj (aZ c12)]
 have e0:u6 [] [((Sum.inr n:Key),V.non)]=[((Sum.inr n:Key),V.non)]:=rfl
 rw [e0,j7]
 have s4:Same H (upd (upd H c1 (.dK [])) c2 (.dK [(.inr n,.non)])):=λb o e=>by
  rw [wj (qg e n20),wj (qg e n1)]
  exact e
 have f1:upd (upd H c1 (.dK [])) c2 (.dK [(.inr n,.non)]) c1=some (.dK []):=by rw [wj c12,qh]
 have f2:upd (upd H c1 (.dK [])) c2 (.dK [(.inr n,.non)]) c2=some (.dK [(.inr n,.non)]):=qh
 generalize upd (upd H c1 (.dK [])) c2 (.dK [(.inr n,.non)])=H4 at s4 f1 f2
 dsimp only [j3]
 refine wzd (E:=E) hh s4 n1 n20 f1 f2 c12 aY (aN.mpr ⟨am,aY⟩) lR lW (aB _) (by show 1≤1000;decide) lD (λi c ec hc=>nomatch ec) (λi c ec hc=>?_) λH' gd _ _ _=>k H' gd
 cases i with
 |zero =>
  cases ec
  show (wc W (.inr n)).isSome=true
  rw [show wc W (.inr n)=some v from e]
  rfl
 |succ i=>cases ec
def cntT (tv:List (List Key×V))(q:Int×Int):V:=(wc tv [.inl q.1,.inl q.2]).getD (.int 0)
def qx3 (C CW CN CB:Aj):Sp:=λvs H Q E=>∃(x dr dw dd a:Aj) (R W:List (Key×V)) (D:List V) (n:Str) (t b:Int),vs=[.ref x,.str n,.ref a]∧Hse C H x dr dw dd R W D∧H a=some (.tup [.int t,.int b])∧(wc W (.inr n)=none→E (.ref CN) none H) ∧
 (∀v,wc W (.inr n)=some v→∃y whose p pt t' tv,v=.ref y∧WkAt CW H y whose p pt t' tv∧(b<1→E (.ref CB) none H)∧(1≤b→Sm 8000 b∧∀H',Same H H'→Q (cntT tv (wg t b)) H'))
theorem wv8 {f:Aj}{fd:Ad}(F:Fun K "stood" "House.stood" s_House_stood f fd)(T:Txt K mg qd qm qx qp qf wz wv qr wy q8 qj wb qz qu qw qq)(c_walker_called:MCal P w K mg base qq "walker_called" 1 (zr qq qj false))(c_lowest:Cal P w K mg base "lowest" 2 (yc qx)) :
  FnOk P w K mg base (CXE P w) 3 f fd ["self","name","point"] (qx3 qq qw qj qx):=by
 have sc:=Yt
 refine F.okX sc (λvs H Q E h=>by obtain ⟨x,dr,dw,dd,a,R,W,D,n,t,b,rfl,_⟩:=h;rfl) (λcdv A outer s H vs Q E hr h=>?_)
 obtain ⟨x,dr,dw,dd,a,R,W,D,n,t,b,rfl,hh,ha,kx,k⟩:=h
 obtain ⟨dx,hx⟩:=hh.ob
 refine ⟨_,(qb (w6 (i:=3) sc.nd rfl (by walk_at "loc") (w4 (pv 0) T.clH c_walker_called (hr.mono (by decide)) qy (q9 (pv 1) qk)))
   (wq (wp (qjj (zy hr) (xp (pv 3) rfl) (wf c_lowest (hr.mono (by decide)) rfl qy (zh (zq zd (pv 2) wx (λ_ _=>rfl)) (zh (zq zd (pv 2) wx (λ_ _=>rfl)) qk))) wx ⟨rfl,rfl,rfl,rfl⟩)))),?_⟩
 refine ⟨_,rfl,x,dx,_,rfl,hx,xz (by decide +kernel) (by decide +kernel) (by decide +kernel),_,rfl,x,dr,dw,dd,R,W,D,n,rfl,hh,λv e=>?_,kx⟩
 obtain ⟨y,whose,p,pt,t',tv,rfl,hW,kb,k⟩:=k v e
 obtain ⟨dy,hy⟩:=hW.ob
 refine ⟨_,rfl,y,qw,dy,_,_,rfl,hy,T.clW,T.naWt,qq1,t',rfl,.inr ⟨_,.inl hW.tm⟩,_,rfl,_,_,_,_,rfl,rfl,SqT.of ha,rfl,_,rfl,_,_,_,_,rfl,rfl,SqT.of ha,rfl,t,b,rfl,λb1=>?_,λb1=>kb b1⟩
 obtain ⟨sm,k⟩:=k b1
 refine ⟨sm.mono (by decide),λq nq=>?_⟩
 have s1:Same H (upd H q (.tup (ptV (wg t b)))):=Same.upd nq
 have f1:upd H q (.tup (ptV (wg t b))) q=some (.tup (([.inl (wg t b).1,.inl (wg t b).2]:List Key).map kV)):=qh
 generalize upd H q (.tup (ptV (wg t b)))=H1 at s1 f1
 exact ⟨_,DGet.t (s1 _ _ hW.tm) f1,k H1 s1⟩
end
section
variable {P:Ac}{w:Ah}{K:Aa}{mg:Str→Option Ag}{base:Heap}{qd:Aj}{qm:Aj}{qx:Aj}{qp:Aj}{qf:Aj}{wz:Aj}{wv:Aj}{qr:Aj}{wy:Aj}{q8:Aj}{qj:Aj}{wb:Aj}{qz:Aj}{qu:Aj}{qw:Aj}{qq:Aj}
def KnD (H H':Hp):Prop:=∀b o,(∀kv,o≠HO.dK kv)→H b=some o→H' b=some o
def KnL (H H':Hp):Prop:=∀b o,(∀L,o≠HO.lst L)→H b=some o→H' b=some o
theorem qyg {K:Aa}{M:List Nat}{a:Aj}{ms:List Str}{tk te:TE}{σ:St}{H:Hp}{Q:VK}(G:Str→V→Hp→Prop)(gs:∀s v H H',G s v H→KnD H H'→G s v H')(hS:H a=some (.lst (ms.map V.str)))(hz:ms.length≤1000000)(nd:ms.Nodup)
  (he:∀(s:Str) (H':Hp) (R:V→V→Hp→Prop),s∈ms→Same H H'→(∀v H'',Same H' H''→G s v H''→R (.str s) v H'')→tk (vj M σ (some (.str s))) H' λy H4=>te (vj M σ (some (.str s))) H4 λz H5=>R y z H5)
  (k:∀p kvs H',H p=none→Same H H'→H' p=some (.dK kvs)→kvs.map (·.1)=ms.map Sum.inr→(∀kv∈kvs,∃s,s∈ms∧kv.1=.inr s∧G s kv.2 H')→Q (.ref p) H'):qzz (Itl K a) M tk te σ H Q:=by
 intro p np
 have big:(1000000:Nat)<sizeLine:=by decide
 refine ⟨λi m ys H2=>i≤ms.length∧m=ms.length-i∧ys.map (·.1)=(ms.take i).map Sum.inr∧(∀kv∈ys,∃s,s∈ms∧kv.1=.inr s∧G s kv.2 H2)∧Same H H2∧H2 p=some (.dK ys),⟨ms.length,aB _,rfl,rfl,(λkv z=>nomatch z),Same.upd np,qh⟩,?_⟩
 rintro i m ys H2 ⟨hi,rfl,hk,hG,sm,hp⟩
 have hl:ys.length=i:=by
  have:=bI List.length hk
  rw [ae,ae,bG] at this
  lia
 refine ⟨hp,by lia,?_⟩
 by_cases hlt:i<ms.length
 ·have em:(ms.map V.str)[i]?=some (.str ms[i]):=by rw [aK,au hlt];rfl
  refine .inr ⟨⟨_,_,SqL.of (sm _ _ hS),em⟩,?_⟩
  rintro v H3 ⟨rfl,hv⟩
  have ev:=hv _ (SqL.of (sm _ _ hS))
  rw [em] at ev
  cases ev
  refine he ms[i] _ _ (cS _) sm λv H4 s4 g4=>⟨.inr ms[i],rfl,s4 _ _ hp,ms.length-(i+1),by lia,by lia,rfl,?_⟩
  have hn:wc ys (.inr ms[i])=none:=by
   unfold wc
   rw [di.mpr]
   ·rfl
   ·intro x hx z
    have z:x.1=.inr ms[i]:=by simpa using z
    have hx2:x.1∈(ms.take i).map (Sum.inr:Str→Key):=by rw [←hk];exact ao.mpr ⟨x,hx,rfl⟩
    rw [z] at hx2
    obtain ⟨s,hs,es⟩:=ao.mp hx2
    injection es with es
    obtain ⟨j,hj,ej⟩:=cX hs
    rw [bG] at hj
    rw [eO] at ej
    have:=(dG nd).mp (ej.trans es)
    lia
  have kn:KnD H4 (upd H4 p (.dK (zx ys (.inr ms[i]) v))):=λb ob no e=>by
   rw [wj (λz=>by rw [z,s4 _ _ hp] at e;cases e;exact no _ rfl)]
   exact e
  rw [ux _ hn] at kn ⊢
  refine ⟨?_,λkv hkv=>?_,?_,qh⟩
  ·rw [ba,hk,dC,au hlt,ba]
   rfl
  ·rcases aH.mp hkv with hkv|hkv
   ·obtain ⟨s,h1,h2,h3⟩:=hG kv hkv
    exact ⟨s,h1,h2,gs _ _ _ _ (gs _ _ _ _ h3 λb ob _ e=>s4 _ _ e) kn⟩
   ·rw [ai.mp hkv]
    exact ⟨ms[i],cS _,rfl,gs _ _ _ _ g4 kn⟩
  ·intro b ob e
   rw [wj (qg e np)]
   exact s4 _ _ (sm _ _ e)
 ·have:i=ms.length:=by lia
  subst this
  rw [fc] at hk
  exact .inl ⟨⟨_,SqL.of (sm _ _ hS),by rw [ae];exact ah _⟩,k p ys H2 np sm hp hk hG⟩
theorem wzn {M:List Nat}{d:Aj}{o:Obj}{cs:List (Key×V)}{gg:TG}{te:TE}{σ:St}{H:Hp}{Q:VK}(G:Nat→V→Hp→Prop)(gs:∀i v H H',G i v H→KnL H H'→G i v H')(hz:cs.length≤1000000)(hd:H d=some (.frz o (.dK cs)))
  (he:∀(i:Nat) (c:Key×V) (q:Aj) (H':Hp) (R:VK),cs[i]?=some c→Same H H'→H' q=none→(∀v H'',Same H' H''→G i v H''→R v H'')→gg (.ref q) (u7 M σ none none) (upd H' q (.tup [kV c.1,c.2])) λσ4 H4=>(∃a b,σ4=u7 M σ (some a) (some b))∧te σ4 H4 R)
  (k:∀p ys H',H p=none→Same H H'→H' p=some (.lst ys)→ys.length=cs.length→(∀j v,ys[j]?=some v→G j v H')→Q (.ref p) H'):qj6 (ItDI d o cs) M gg te σ H Q:=by
 intro p np
 have big:(1000000:Nat)<sizeLine:=by decide
 refine ⟨λi m ys H2=>i≤cs.length∧m=cs.length-i∧ys.length=i∧Same H H2∧H2 p=some (.lst ys)∧∀j v,ys[j]?=some v→G j v H2,⟨cs.length,aB _,rfl,rfl,Same.upd np,qh,λj v e=>by cases e⟩,?_⟩
 rintro i m ys H2 ⟨hi,rfl,hl,sm,hp,hG⟩
 refine ⟨hp,by lia,?_⟩
 by_cases hlt:i<cs.length
 ·refine .inr ⟨⟨sm _ _ hd,hlt⟩,?_⟩
  rintro v H3 ⟨q,c,nq,rfl,ec,rfl⟩
  refine he i c q H2 _ ec sm nq λv H4 s4 g4=>⟨s4 _ _ hp,cs.length-(i+1),by lia,by lia,rfl,by rw [aV];show ys.length+1=_;lia,?_,qh,λj v' ej=>?_⟩
  ·intro b ob e
   rw [wj (qg e np)]
   exact s4 _ _ (sm _ _ e)
  ·have kn:KnL H4 (upd H4 p (.lst (ys++[v]))):=λb ob no e=>by
    rw [wj (λz=>by rw [z,s4 _ _ hp] at e;cases e;exact no _ rfl)]
    exact e
   rcases fh j ys.length with hj|hj
   ·rw [cU hj] at ej
    exact gs _ _ _ _ (gs _ _ _ _ (hG j v' ej) λb ob _ e=>s4 _ _ e) kn
   ·rw [bX hj] at ej
    have:j-ys.length=0:=by
     rcases Nat.eq_zero_or_pos (j-ys.length) with z|z
     ·exact z
     ·rw [bM (by show 1≤_;lia)] at ej;cases ej
    rw [this] at ej
    cases ej
    have:j=i:=by lia
    subst this
    exact gs _ _ _ _ g4 kn
 ·have:i=cs.length:=by lia
  subst this
  exact .inl ⟨⟨sm _ _ hd,ah _⟩,k p ys H2 np sm hp hl hG⟩
end
section
variable {P:Ac}{w:Ah}{K:Aa}{mg:Str→Option Ag}{base:Heap}{qd:Aj}{qm:Aj}{qx:Aj}{qp:Aj}{qf:Aj}{wz:Aj}{wv:Aj}{qr:Aj}{wy:Aj}{q8:Aj}{qj:Aj}{wb:Aj}{qz:Aj}{qu:Aj}{qw:Aj}{qq:Aj}
def WksT (CW:Aj)(H:Hp)(W:List (Key×V))(ss:List Str)(wh:Str→Str)(ps:Str→Int×Int)(tvs:Str→List (List Key×V)):Prop:=W.map (·.1)=ss.map Sum.inr∧W.length<64∧ss.Nodup∧∀s∈ss,TmOk (tvs s)∧∃y p t,wc W (.inr s)=some (.ref y)∧WkAt CW H y (wh s) p (ps s) t (tvs s)
theorem WksT.at {CW:Aj}{H:Hp}{W:List (Key×V)}{ss:List Str}{wh:Str→Str}{ps:Str→Int×Int}{tvs:Str→List (List Key×V)}(h:WksT CW H W ss wh ps tvs):WksAt CW H W ss wh ps:=⟨h.1,h.2.1,λs hs=>by
 obtain ⟨_,y,p,t,e,a⟩:=h.2.2.2 s hs
 exact ⟨y,p,t,tvs s,e,a⟩⟩
def GoneAt (CW:Aj)(hs:List Int)(m:Nat)(whose:Str)(ps:Str→Int×Int)(tvs:Str→List (List Key×V))(s:Str)(v:V)(H:Hp):Prop:=∃y p t tv,v=.ref y∧WkAt CW H y whose p (itP hs (ps s) m) t tv∧TmOk tv∧qwq hs (ps s) m (tvs s) tv
def KnW (H H':Hp):Prop:=∀b o,(∀kv,o≠HO.dK kv)→(∀u kv,o≠HO.frz u (.dK kv))→(∀L,o≠HO.lst L)→H b=some o→H' b=some o
theorem GoneAt.kn {CW:Aj}{hs:List Int}{m:Nat}{whose:Str}{ps:Str→Int×Int}{tvs:Str→List (List Key×V)}{s:Str}{v:V}{H H':Hp}(h:GoneAt CW hs m whose ps tvs s v H)(k:KnW H H'):GoneAt CW hs m whose ps tvs s v H':=by
 obtain ⟨y,p,t,tv,e,w,a,b⟩:=h
 obtain ⟨dx,ob⟩:=w.ob
 exact ⟨y,p,t,tv,e,⟨⟨dx,k _ _ (λ_ z=>by cases z) (λ_ _ z=>by cases z) (λ_ z=>by cases z) ob⟩,k _ _ (λ_ z=>by cases z) (λ_ _ z=>by cases z) (λ_ z=>by cases z) w.pt,k _ _ (λ_ z=>by cases z) (λ_ _ z=>by cases z) (λ_ z=>by cases z) w.tm⟩,a,b⟩
def qug (C CR CW CN CC:Aj):Sp:=λvs H Q E=>∃(x dr dw dd:Aj) (R W:List (Key×V)) (D:List V) (whose:Str) (m:Int),vs=[.ref x,.str whose,.int m]∧Hse C H x dr dw dd R W D∧R.length≤1000∧D.length≤1000000∧(wc R (.inr whose)=none→E (.ref CN) none H) ∧
 (∀v,wc R (.inr whose)=some v→∃r hs,v=.ref r∧RoadAt CR H r hs∧(¬ Within m 0 (some 1000000000000000000000000000000000000000000000000000000000000)→E (.ref CC) none H) ∧
  (Within m 0 (some 1000000000000000000000000000000000000000000000000000000000000)→∃ss wh ps tvs,WksT CW H W ss wh ps tvs∧(∀s∈ss,wh s=whose→HPt hs (ps s)) ∧
   ∀(H':Hp) (l:Aj) (cs:List (Key×V)) (ms:List Str) (ys:List V),ms.Perm ss→ms.Pairwise (λx y=>¬ y.cps.toList<x.cps.toList)→Wt C H H' x dr dw dd R W D [] cs→cs.map (·.1)=(ms.filter λs=>decide (V.str (wh s)=V.str whose)).map Sum.inr→(∀kv∈cs,∃s,s∈ss∧wh s=whose∧kv.1=.inr s∧GoneAt CW hs m.toNat whose ps tvs s kv.2 H') →
    H l=none→H' l=some (.lst ys)→ys.length=cs.length→(∀(j:Nat) v,ys[j]?=some v→∃kv a y p pt t tv,cs[j]?=some kv∧v=.ref a∧H' a=some (.tup [kV kv.1,.ref p])∧kv.2=.ref y∧WkAt CW H' y whose p pt t tv)→Q (.ref l) H'))
theorem qkv {f:Aj}{fd:Ad}(F:Fun K "together" "House.together" s_House_together f fd)(T:Txt K mg qd qm qx qp qf wz wv qr wy q8 qj wb qz qu qw qq)(c_road_called:MCal P w K mg base qq "road_called" 1 (zr qq q8 true))(c_check_count:CalD P w K mg base "check_count" 1 (Yz qf))(c_walkers_on:MCal P w K mg base qq "walkers_on" 1 (spOn qq qw))(c_gone:MCal P w K mg base qw "gone" 6 (qzq qw qu))(c_do:MCal P w K mg base qq "do" 2 (Z0 qq)) :
  FnOk P w K mg base (CXE P w) 8 f fd ["self","whose","many"] (qug qq qu qw q8 qf):=by
 have sc:=Wz
 refine F.okX sc (λvs H Q E h=>by obtain ⟨x,dr,dw,dd,R,W,D,whose,m,rfl,_⟩:=h;rfl) (λcdv A outer s H vs Q E hr h=>?_)
 obtain ⟨x,dr,dw,dd,R,W,D,whose,m,rfl,hh,lR,lD,kx,k⟩:=h
 obtain ⟨dx,hx⟩:=hh.ob
 obtain ⟨tg,g_FARTHEST⟩:=T.g_FARTHEST
 refine ⟨_,(qb (w6 (i:=3) sc.nd rfl (by walk_at "loc") (w4 (pv 0) T.clH c_road_called (hr.mono (by decide)) qy (q9 (pv 1) qk)))
   (qb (xn (Jr c_check_count.all (hr.mono (by decide)) rfl qy (q9 (pv 2) (xx wx (q9 (yn (v:=V.int 1000000000000000000000000000000000000000000000000000000000000) rfl g_FARTHEST ⟨_,rfl⟩) qk)))))
   (qb (Zr (i:=4) (M:=[0,2,3]) sc.nd rfl (by walk_at "loc") rfl rfl (by walk_at "cap") (by walk_at "has") (by walk_at "cix") rfl (by decide +kernel) rfl (show List.Nodup (["name","self","many","road"]:List Str) by decide +kernel) (j4 (w4 (pv 0) T.clH c_walkers_on (hr.mono (by decide)) qy (q9 (pv 1) qk))) (λ_ _ _ _ _=>(pv 0)) (λ_ _ _ _ _=>(w4 (zf (zy hr) (Yb (K:=K) rfl (pv 1) rfl) (pv 0) (λ_ _=>rfl)) T.clW c_gone (hr.mono (by decide)) wxz (q9 (pv 3) (q9 (pv 2) qk)))))
   (qb (xn (w4 (pv 0) T.clH c_do (hr.mono (by decide)) qy (xv k8 (q9 (pv 4) qk))))
   (wq (wp (wzb (x := "name") (y2 := "walker") (M:=[]) rfl rfl (by walk_at "cap") (by walk_at "has") (by walk_at "cix") rfl (by decide +kernel) (λ_ _ _ _ _=>wyx (K:=K) (n:=2) rfl rfl (xh (xu (i:=0) (show List.Nodup (["name","walker"]:List Str) by decide +kernel) rfl (by walk_at "loc")) (xh (xu (i:=1) (show List.Nodup (["name","walker"]:List Str) by decide +kernel) rfl (by walk_at "loc")) vp))) (pi_di (pv 4)) (λ_ _ _ _ _=>(vw (q9 (pv 0) (xv (Yb (K:=K) rfl (pv 1) rfl) qk))))))))))),?_⟩
 refine ⟨_,rfl,x,dx,_,rfl,hx,xz (by decide +kernel) (by decide +kernel) (by decide +kernel),_,rfl,x,dr,dw,dd,R,W,D,whose,rfl,hh,λv e=>?_,kx⟩
 obtain ⟨r,hs,rfl,hR,kc,k⟩:=k v e
 refine ⟨_,rfl,m,0,.int (1000000000000000000000000000000000000000000000000000000000000),some (1000000000000000000000000000000000000000000000000000000000000),rfl,.inr ⟨1000000000000000000000000000000000000000000000000000000000000,rfl,rfl⟩,λwi=>?_,kc⟩
 obtain ⟨ss,wh,ps,tvs,hw,hps,k⟩:=k wi
 refine exI rfl ⟨x,dx,exI rfl ⟨hx,xz (by decide +kernel) (by decide +kernel) (by decide +kernel),exI rfl ⟨x,dr,dw,dd,R,W,D,whose,ss,wh,ps,rfl,hh,hw.at,λl H1 ms nl s1 pm srt fl=>?_⟩⟩⟩
 have nd:ms.Nodup:=pm.nodup_iff.mpr hw.2.2.1
 have ndf:=nd.filter λs=>decide (V.str (wh s)=V.str whose)
 have lm:ms.length<64:=by
  have a:=bI List.length hw.1
  rw [ae,ae] at a
  have b:=pm.length_eq
  have c:=hw.2.1
  lia
 have lf:=cN (λs=>decide (V.str (wh s)=V.str whose)) ms
 refine ⟨l,rfl,⟨_,SqL.of fl⟩,qyg (GoneAt qw hs m.toNat whose ps tvs) (λs v H H' g kn=>g.kn λb o n1 _ _ e=>kn b o n1 e) fl (by lia) ndf (λs H' RR hs' sm kR=>?_) λc2 cs H2 n2 s2 f2 ec hG=>?_⟩
 ·obtain ⟨hm,hq⟩:=bA.mp hs'
  have hq:wh s=whose:=by
   have:=dA hq
   injection this
  have hss:=pm.mem_iff.mp hm
  obtain ⟨tm,y,p,t,ey,wk⟩:=hw.2.2.2 s hss
  rw [hq] at wk
  obtain ⟨dy,hy⟩:=wk.ob
  have sa:=s1.trans sm
  have dg:DGet H' dw (.str s) (wc W (.inr s)):=DGet.k (k:=.inr s) (sa _ _ hh.w)
  rw [ey] at dg
  refine exI rfl (exI rfl ⟨x,qq,dx,_,_,rfl,sa _ _ hx,T.clH,T.naHw,zm,exI rfl ⟨dw,exI rfl ⟨dg,y,dy,exI rfl ⟨sa _ _ hy,qjf (by decide +kernel) (by decide +kernel) (by decide +kernel),exI rfl (exI rfl ⟨y,r,p,t,whose,hs,ps s,tvs s,m,rfl,wk.same sa,tm,hR.same sa,hps s hss hq,wi.1,λH'' y' p' t' tv' ny s'' w'' tm' hit=>kR _ _ s'' ⟨y',p',t',tv',rfl,w'',tm',hit⟩⟩)⟩⟩⟩⟩)
 ·have s02:=s1.trans s2
  have n20:H c2=none:=xk s1 n2
  have ndk:(cs.map (·.1)).Nodup:=by
   rw [ec]
   exact bu.mpr (ndf.imp λ{a b} h z=>h (by injection z))
  have lc:cs.length<64:=by
   have:=bI List.length ec
   rw [ae,ae] at this
   lia
  refine exI rfl ⟨x,dx,exI rfl ⟨s02 _ _ hx,xz (by decide +kernel) (by decide +kernel) (by decide +kernel),λc1 n1=>(exI rfl ?_)⟩⟩
  have s4:Same H2 (upd H2 c1 (.dK [])):=Same.upd n1
  have f1:upd H2 c1 (.dK []) c1=some (.dK []):=qh
  have c12:c1≠c2:=(qg f2 n1).symm
  have f24:=s4 _ _ f2
  generalize upd H2 c1 (.dK [])=H4 at s4 f1 f24
  dsimp only [j3]
  have lW:W.length≤1000:=by have:=hw.2.1;lia
  refine wzd (E:=E) hh (s02.trans s4) (xk s02 n1) n20 f1 f24 c12 aY ndk lR lW (aB _) (by lia) lD (λi c ec hc=>nomatch ec) (λi c ec' hc=>?_) λH5 gd kb5 rd5 gp=>?_
  ·obtain ⟨_,_,_,y,_,_,_,ey,_⟩:=hG c (aX ec')
   rw [ey] at hc
   cases hc
  ·refine exI rfl ⟨c2,cs,rfl,rd5,λo H6 fz=>?_⟩
   have kn56:KnW H5 H6:=λb ob m1 m2 _ e=>by
    by_cases z:b=c2
    ·rcases rd5 with g|⟨u,g⟩ <;> (rw [z,g] at e;cases e)
     ·exact absurd rfl (m1 _)
     ·exact absurd rfl (m2 _ _)
    ·rw [fz.2 b z];exact e
   have hd4:=(s02.trans s4) _ _ hh.d
   have kn25:KnW H4 H5:=λb ob m1 m2 m3 e=>kb5 b ob (λz=>by
    simp only [ak,am,bz] at z
    rcases z with z|z|z|z|z
    ·rw [z,(s02.trans s4) _ _ hh.r] at e;cases e;exact m1 _ rfl
    ·rw [z,(s02.trans s4) _ _ hh.w] at e;cases e;exact m1 _ rfl
    ·rw [z,hd4] at e;cases e;exact m3 _ rfl
    ·rw [z,f1] at e;cases e;exact m1 _ rfl
    ·rw [z,f24] at e;cases e;exact m1 _ rfl) e
   have hG6:∀kv∈cs,∃s,s∈ss∧wh s=whose∧kv.1=.inr s∧GoneAt qw hs m.toNat whose ps tvs s kv.2 H6:=λkv hkv=>by
    obtain ⟨s,hs1,hs2,g⟩:=hG kv hkv
    obtain ⟨hm,hq⟩:=bA.mp hs1
    have hq:wh s=whose:=by
     have:=dA hq
     injection this
    exact ⟨s,pm.mem_iff.mp hm,hq,hs2,((g.kn λb o _ _ _ e=>s4 _ _ e).kn kn25).kn kn56⟩
   refine wzn (λj v H=>∃kv a y p pt t tv,cs[j]?=some kv∧v=.ref a∧H a=some (.tup [kV kv.1,.ref p])∧kv.2=.ref y∧WkAt qw H y whose p pt t tv) (λj v H H' g kn=>?_) (by lia) fz.1 (λi c q H' RR ei sm nq kR=>?_) λl6 ys H7 n6 s7 f7 ly hy=>?_
   ·obtain ⟨kv,a,y,p,pt,t,tv,g1,g2,g3,g4,g5⟩:=g
    obtain ⟨d5,o5⟩:=g5.ob
    exact ⟨kv,a,y,p,pt,t,tv,g1,g2,kn _ _ (λ_ z=>by cases z) g3,g4,⟨⟨d5,kn _ _ (λ_ z=>by cases z) o5⟩,kn _ _ (λ_ z=>by cases z) g5.pt,kn _ _ (λ_ z=>by cases z) g5.tm⟩⟩
   ·obtain ⟨s,_,_,e1,y,p,t,tv,e2,wk,_,_⟩:=hG6 c (aX ei)
    have sq:Same H' (upd H' q (.tup [kV c.1,c.2])):=Same.upd nq
    refine ⟨q,exI rfl ⟨SqT.new,rfl,_,_,rfl,_,_,rfl,rfl,⟨_,_,rfl⟩,?_⟩⟩
    have wk':=wk.same (sm.trans sq)
    obtain ⟨dy,oy⟩:=wk'.ob
    generalize upd H' q (.tup [kV c.1,c.2])=H8 at sq wk' oy
    refine exI rfl (exI rfl ⟨y,qw,dy,_,_,e2,oy,T.clW,T.naWp,jk,sz2,λa na=>?_⟩)
    have sa:=sq.trans (Same.upd (o:=.tup [kV c.1,.ref p]) na)
    exact kR _ _ sa ⟨c,a,y,p,_,t,tv,ei,rfl,qh,e2,wk'.same (Same.upd na)⟩
   ·have kb7:Kb [c2] H5 H7:=λb ob nb e=>s7 _ _ (by rw [fz.2 b (λz=>nb (by simp [z]))];exact e)
    refine k H7 l6 cs ms ys pm srt (gp H7 kb7) ec (λkv hkv=>?_) ?_ f7 ly hy
    ·obtain ⟨s,a1,a2,a3,a4⟩:=hG6 kv hkv
     exact ⟨s,a1,a2,a3,a4.kn λb o _ _ _ e=>s7 _ _ e⟩
    ·cases q:H l6 with
     |none=>rfl
     |some o6 =>
      exfalso
      have nc:l6≠c2:=qg q n20
      obtain ⟨tp,q1,q2,_,_,_,hs5,_,_,_,_,kb⟩:=gd
      rw [fz.2 l6 nc] at n6
      by_cases z:l6∈[dr,dw,dd]
      ·simp only [ak,am,bz] at z
       rcases z with z|z|z
       ·rw [z,hs5.r] at n6;cases n6
       ·rw [z,hs5.w] at n6;cases n6
       ·rw [z,hs5.d] at n6;cases n6
      ·rw [kb _ _ z q] at n6;cases n6
end
section
variable {P:Ac}{w:Ah}{K:Aa}{mg:Str→Option Ag}{base:Heap}{qd:Aj}{qm:Aj}{qx:Aj}{qp:Aj}{qf:Aj}{wz:Aj}{wv:Aj}{qr:Aj}{wy:Aj}{q8:Aj}{qj:Aj}{wb:Aj}{qz:Aj}{qu:Aj}{qw:Aj}{qq:Aj}
theorem qu8 {α:Type}{f:Nat→α}(st:∀i j,f i=f j→f (i+1)=f (j+1)){n u:Nat}(hu:u<n)(e:f n=f u){x:Nat}(hx:u≤x)(k:Nat):f (x+(n-u)*k)=f x:=by
 have hk:(n-u)*k=(n-u)*k:=rfl
 rw [per st hu e (x+(n-u)*k) (by lia),per st hu e x hx,show x+(n-u)*k-u=x-u+(n-u)*k by lia,eG]
theorem go_on {α:Type}{f g:Nat→α}(sfg:∀m,f m=g m→f (m+1)=g (m+1)){m:Nat}(h:f m=g m):∀k,f (m+k)=g (m+k)
 |0=>h
 |k+1=>sfg _ (go_on sfg h k)
theorem qj3 {α:Type}{f g:Nat→α}(sf:∀i j,f i=f j→f (i+1)=f (j+1))(sg:∀i j,g i=g j→g (i+1)=g (j+1))(sfg:∀m,f m=g m→f (m+1)=g (m+1)){n u n' u' m M:Nat}(hu:u<n)(e:f n=f u)(hu':u'<n')(e':g n'=g u')
  (h:f m=g m) (hM:u≤M) (hM':u'≤M) (hm:M≤m):f M=g M:=by
 have p1:=qu8 sf hu e hM ((n'-u')*m)
 have p2:=qu8 sg hu' e' hM' ((n-u)*m)
 have e1:(n-u)*((n'-u')*m)=(n'-u')*((n-u)*m):=by rw [←eP,←eP,Nat.mul_comm (n-u)]
 have h1:1≤(n-u)*(n'-u'):=Nat.mul_le_mul (show 1≤n-u by lia) (show 1≤n'-u' by lia)
 have h2:m≤(n-u)*((n'-u')*m):=by
  rw [←eP]
  have:=Nat.mul_le_mul_right m h1
  rwa [Nat.one_mul] at this
 have h3:=go_on sfg h (M+(n-u)*((n'-u')*m)-m)
 rw [show m+(M+(n-u)*((n'-u')*m)-m)=M+(n-u)*((n'-u')*m) by lia,p1,e1,p2] at h3
 exact h3
theorem it_two {hs:List Int}{p q:Int×Int}:∀m,itP hs p m=itP hs q m→itP hs p (m+1)=itP hs q (m+1):=λm e=>by
 show yg hs (itP hs p m).1 (itP hs p m).2=yg hs (itP hs q m).1 (itP hs q m).2
 rw [e]
theorem never {hs:List Int}{p q:Int×Int}{n u n' u' N:Nat}(hu:u<n)(e:itP hs p n=itP hs p u)(hu':u'<n')(e':itP hs q n'=itP hs q u')(h1:u<N)(h2:u'<N)(h:∀i,i<N→itP hs p i≠itP hs q i):∀j,itP hs p j≠itP hs q j:=λj ej=>by
 rcases fh j N with z|z
 ·exact h j z ej
 ·have:=qj3 qut qut it_two hu e hu' e' ej (M:=N-1) (by lia) (by lia) (by lia)
  exact h (N-1) (by lia) this
def Zc (K:Aa)(C:Aj):Sp:=λvs H Q _=>∃(r p q:Aj) (hs:List Int) (t b t' b':Int),vs=[.ref r,.ref p,.ref q]∧RoadAt C H r hs∧xj hs∧SqT K H p [.int t,.int b]∧SqT K H q [.int t',.int b'] ∧
 (1≤b∧Sm 8000 b∧vc hs t b∧¬ Dist (itP hs (wg t b)) 1001)∧(1≤b'∧Sm 8000 b'∧vc hs t' b'∧¬ Dist (itP hs (wg t' b')) 1001) ∧
 (∀m:Nat,(∀j,j<m→itP hs (wg t b) j≠itP hs (wg t' b') j)→itP hs (wg t b) m=itP hs (wg t' b') m→∀H',Same H H'→Q (.int m) H')∧((∀j,itP hs (wg t b) j≠itP hs (wg t' b') j)→∀H',Same H H'→Q .non H')
theorem qyz {f:Aj}{fd:Ad}(F:Fun K "meeting" "meeting" s_meeting f fd)(T:Txt K mg qd qm qx qp qf wz wv qr wy q8 qj wb qz qu qw qq)(c_on_road:MCal P w K mg base qu "on_road" 3 (um K qu qx qp))(c_trace:Cal P w K mg base "trace" 5 (Yd qu wz))(c_spot:Cal P w K mg base "spot" 1 qz9) :
  FnOk P w K mg base (CXE P w) 6 f fd ["road","one","other"] (Zc K qu):=by
 have sc:=qys
 refine F.okX sc (λvs H Q E h=>by obtain ⟨r,p,q,hs,t,b,t',b',rfl,_⟩:=h;rfl) (λcdv A outer s H vs Q E hr h=>?_)
 obtain ⟨r,p,q,hs,t,b,t',b',rfl,hR,hok,hp,hq,⟨hb,sb,hon,nd⟩,⟨hb',sb',hon',nd'⟩,k1,k2⟩:=h
 obtain ⟨dx,q0,h1,h2⟩:=id hR
 refine ⟨_,(qb (w6 (i:=3) sc.nd rfl (by walk_at "loc") (w4 (pv 0) T.cl c_on_road (hr.mono (by decide)) qy (q9 (pv 1) qk)))
   (qb (w6 (i:=4) sc.nd rfl (by walk_at "loc") (w4 (pv 0) T.cl c_on_road (hr.mono (by decide)) qy (q9 (pv 2) qk)))
   (qb (yx (wf c_trace (hr.mono (by decide)) rfl qy (q9 (pv 0) (q9 (pv 3) qk))) (ju rfl (xh (xu (i:=5) sc.nd rfl (by walk_at "loc")) (xh (xu (i:=6) sc.nd rfl (by walk_at "loc")) vp))))
   (qb (yx (wf c_trace (hr.mono (by decide)) rfl qy (q9 (pv 0) (q9 (pv 4) qk))) (ju rfl (xh (xu (i:=7) sc.nd rfl (by walk_at "loc")) (xh (xu (i:=8) sc.nd rfl (by walk_at "loc")) vp))))
   (qb (jj aP rfl (vz rfl T.range_ (zp (wm xm (xq (qw7 rfl) rfl T.max_ dF (q9 (pv 6) (q9 (pv 8) qk))) wx) qk)) (xu (i:=9) sc.nd rfl (by walk_at "loc")) (wq (x4 (wn (qzy hr.units) (wf c_spot (hr.mono (by decide)) rfl qy (q9 (pv 5) (q9 (pv 6) (q9 (pv 9) qk)))) (wf c_spot (hr.mono (by decide)) rfl qy (q9 (pv 7) (q9 (pv 8) (q9 (pv 9) qk)))) (w9 _)) (wq (wp (pv 9))) xy)))
   (wq (wp qqh))))))),?_⟩
 refine ⟨_,rfl,r,dx,_,rfl,h1,zg (by decide +kernel),_,rfl,r,p,hs,t,b,rfl,hR,hok,hp,λ_=>⟨sb,λ_ p1 H1 s1 f1=>?_,λz=>absurd hon z⟩,λz=>absurd hb (by lia)⟩
 refine ⟨_,rfl,r,dx,_,rfl,s1 _ _ h1,zg (by decide +kernel),_,rfl,r,q,hs,t',b',rfl,hR.same s1,hok,s1.sqt hq,λ_=>⟨sb',λ_ p2 H2 s2 f2=>?_,λz=>absurd hon' z⟩,λz=>absurd hb' (by lia)⟩
 have s12:=s1.trans s2
 refine ⟨_,rfl,_,rfl,r,p1,hs,wg t b,b,rfl,hR.same s12,hok,s2 _ _ f1,quy hb hon,sb,λn u q3 l3 H3 n1 d1 u1 e1 s3 _ f3 pa3=>?_,λd=>absurd d nd⟩
 refine ⟨q3,exI rfl ⟨SqT.of f3,rfl,_,_,rfl,_,_,rfl,rfl,?_⟩⟩
 have s13:=s12.trans s3
 refine ⟨_,rfl,_,rfl,r,p2,hs,wg t' b',b',rfl,hR.same s13,hok,s3 _ _ f2,quy hb' hon',sb',λn' u' q4 l4 H4 n1' d1' u1' e1' s4 _ f4 pa4=>?_,λd=>absurd d nd'⟩
 refine ⟨q4,exI rfl ⟨SqT.of f4,rfl,_,_,rfl,_,_,rfl,rfl,?_⟩⟩
 have s14:=s13.trans s4
 have T1:TrAt H4 l3 hs (wg t b) n u:=⟨n1,d1,u1,e1,pa3.same s4⟩
 have T2:TrAt H4 l4 hs (wg t' b') n' u':=⟨n1',d1',u1',e1',pa4⟩
 refine exI rfl (exI rfl ⟨_,_,rfl,_,_,rfl,rfl,exI rfl ⟨?_,?_,jn (λj σ H5=>H5=H4∧(∀i,i<j→itP hs (wg t b) i≠itP hs (wg t' b') i)∧∃z,σ=[some (.ref r),some (.ref p),some (.ref q),some (.ref p1),some (.ref p2),some (.ref l3),some (.int u),some (.ref l4),some (.int u'),z]) ⟨rfl,λi z=>absurd z (by lia),_,rfl⟩ ?_ ?_⟩⟩)
 ·split <;> lia
 ·split <;> lia
 ·rintro j σ H5 hj ⟨rfl,hmin,z,rfl⟩
  have ej:((0:Int)+j).toNat=j:=by lia
  refine exI rfl (exI rfl (exI rfl ⟨l3,hs,wg t b,n,u,exI rfl ⟨T1,(by lia),λa1 fa1=>?_⟩⟩))
  refine exI rfl (exI rfl (exI rfl ⟨l4,hs,wg t' b',n',u',exI rfl ⟨T2,(by lia),λa2 fa2=>?_⟩⟩))
  rw [ej] at fa1 fa2
  refine ⟨_,_,qqc (q:=itP hs (wg t b) j) (SqT.of fa1),qqc (q:=itP hs (wg t' b') j) (SqT.of fa2),rfl,rfl,qux,_,rfl,?_⟩
  show if PyData.eqv (ptD (itP hs (wg t b) j)) (ptD (itP hs (wg t' b') j))=true then _ else _
  rw [qvq]
  refine k6 (λe=>?_) (λe=>?_)
  ·refine exI rfl ?_
   rw [Int.zero_add]
   exact k1 j hmin e _ s14
  ·refine ⟨rfl,λi hi=>?_,_,rfl⟩
   rcases (by lia:i<j∨i=j) with y|y
   ·exact hmin i y
   ·subst y;exact e
 ·rintro σ H5 ⟨rfl,hmin,z,rfl⟩
  refine k2 (never u1 e1 u1' e1' ?_ ?_ hmin) _ s14
  ·split <;> lia
  ·split <;> lia
def qvx (C CR CW CN CA:Aj):Sp:=λvs H Q E=>∃(x dr dw dd:Aj) (R W:List (Key×V)) (D:List V) (n m:Str),vs=[.ref x,.str n,.str m]∧Hse C H x dr dw dd R W D∧(wc W (.inr n)=none→E (.ref CN) none H) ∧
 (∀v,wc W (.inr n)=some v→(wc W (.inr m)=none→E (.ref CN) none H)∧∀v',wc W (.inr m)=some v'→∃y wh p pt t tv y' wh' p' pt' t' tv',v=.ref y∧WkAt CW H y wh p pt t tv∧v'=.ref y'∧WkAt CW H y' wh' p' pt' t' tv'∧(wh≠wh'→E (.ref CA) none H) ∧
  (wh=wh'→∃r hs,wc R (.inr wh)=some (.ref r)∧RoadAt CR H r hs∧HPt hs pt∧HPt hs pt'∧(∀k:Nat,(∀j,j<k→itP hs pt j≠itP hs pt' j)→itP hs pt k=itP hs pt' k→∀H',Same H H'→Q (.int k) H')∧((∀j,itP hs pt j≠itP hs pt' j)→∀H',Same H H'→Q .non H')))
theorem wyj {f:Aj}{fd:Ad}(F:Fun K "meet" "House.meet" s_House_meet f fd)(T:Txt K mg qd qm qx qp qf wz wv qr wy q8 qj wb qz qu qw qq)(c_walker_called:MCal P w K mg base qq "walker_called" 1 (zr qq qj false))(c_meeting:Cal P w K mg base "meeting" 6 (Zc K qu)) :
  FnOk P w K mg base (CXE P w) 7 f fd ["self","one","other"] (qvx qq qu qw qj wb):=by
 have sc:=qwk
 refine F.okX sc (λvs H Q E h=>by obtain ⟨x,dr,dw,dd,R,W,D,n,m,rfl,_⟩:=h;rfl) (λcdv A outer s H vs Q E hr h=>?_)
 obtain ⟨x,dr,dw,dd,R,W,D,n,m,rfl,hh,kx,k⟩:=h
 obtain ⟨dx,hx⟩:=hh.ob
 refine ⟨_,(qb (w6 (i:=3) sc.nd rfl (by walk_at "loc") (w4 (pv 0) T.clH c_walker_called (hr.mono (by decide)) qy (q9 (pv 1) qk)))
   (qb (w6 (i:=4) sc.nd rfl (by walk_at "loc") (w4 (pv 0) T.clH c_walker_called (hr.mono (by decide)) qy (q9 (pv 2) qk)))
   (qb (x4 (wn wxp (xp (pv 3) rfl) (xp (pv 4) rfl) (w9 _)) (wq (zt rfl T.x_Apart zu rfl T.g_Apart (xx xf qk))) xy)
   (wq (wp (wf c_meeting (hr.mono (by decide)) rfl qy (zh (zf (zy hr) (xp (pv 0) rfl) (xp (pv 3) rfl) (λ_ _=>rfl)) (xv (xp (pv 3) rfl) (xv (xp (pv 4) rfl) qk))))))))),?_⟩
 refine ⟨_,rfl,x,dx,_,rfl,hx,xz (by decide +kernel) (by decide +kernel) (by decide +kernel),_,rfl,x,dr,dw,dd,R,W,D,n,rfl,hh,λv e=>?_,kx⟩
 obtain ⟨kx',k⟩:=k v e
 refine ⟨_,rfl,x,dx,_,rfl,hx,xz (by decide +kernel) (by decide +kernel) (by decide +kernel),_,rfl,x,dr,dw,dd,R,W,D,m,rfl,hh,λv' e'=>?_,kx'⟩
 obtain ⟨y,wh,p,pt,t,tv,y',wh',p',pt',t',tv',rfl,hW,rfl,hW',ka,k⟩:=k v' e'
 obtain ⟨dy,hy⟩:=hW.ob
 obtain ⟨dy',hy'⟩:=hW'.ob
 refine exI rfl ⟨y,qw,dy,_,_,rfl,hy,T.clW,T.naWw,kf,exI rfl ⟨y',qw,dy',_,_,rfl,hy',T.clW,T.naWw,kf,rfl,_,rfl,?_⟩⟩
 refine wkz (λz=>⟨sz1,ka λy=>z (by rw [y])⟩) (λz=>?_)
 ·have z:wh=wh':=by injection z
  obtain ⟨r,hs,er,hR,hP,hP',k1,k2⟩:=k z
  have dg:DGet H dr (.str wh) (wc R (.inr wh)):=DGet.k (k:=.inr wh) hh.r
  rw [er] at dg
  have rg:=hP.rng
  have rg':=hP'.rng
  have l1:=Yx hP.2.1.1 hP.2.1.2.2.1
  have l2:=Yx hP'.2.1.1 hP'.2.1.2.2.1
  refine exI rfl ⟨x,qq,dx,_,_,rfl,hx,T.clH,T.naHr,vd,exI rfl ⟨y,qw,dy,_,_,rfl,hy,T.clW,T.naWw,kf,dr,exI rfl ⟨dg,exI rfl ⟨y,qw,dy,_,_,rfl,hy,T.clW,T.naWp,jk,exI rfl ⟨y',qw,dy',_,_,rfl,hy',T.clW,T.naWp,jk,r,p,p',hs,pt.1,pt.2,pt'.1,pt'.2,rfl,hR,hP.1,SqT.of hW.pt,SqT.of hW'.pt,⟨rg.2.2.1,(Sm.small (n:=65) (by lia) (by lia) (by decide)).mono (by decide),hP.2.1.2.2.2,?_⟩,⟨rg'.2.2.1,(Sm.small (n:=65) (by lia) (by lia) (by decide)).mono (by decide),hP'.2.1.2.2.2,?_⟩,?_,?_⟩⟩⟩⟩⟩
  ·rw [l1];exact hP.short
  ·rw [l2];exact hP'.short
  ·rw [l1,l2];exact k1
  ·rw [l1,l2];exact k2
theorem wzs {kvs:List (Key×V)}{k:Key}{v u:V}(h:wc kvs k=some u):(zx kvs k v).map (·.1)=kvs.map (·.1):=by
 unfold zx
 rw [aj (by rw [yj,h];rfl),bU]
 refine bS λkv _=>?_
 show (if kv.1=k then (kv.1,v) else kv).1=kv.1
 split <;> rfl
theorem Kb.sql {K:Aa}{ch:List Aj}{H H':Hp}(k:Kb ch H H'){a:Aj}{xs:List V}(h:SqL K H a xs)(d:(∀H',SqL K H' a xs)∨a∉ch):SqL K H' a xs:=by
 rcases d with d|d
 ·exact d H'
 ·rcases h with (e|⟨u,e⟩)|e
  ·exact .inl (.inl (k _ _ d e))
  ·exact .inl (.inr ⟨u,k _ _ d e⟩)
  ·exact .inr e
def Dl (H:Hp)(ch:List Aj):Prop:=∀b∈ch,(∃kv,Rd H b (.dK kv))∨∃D,Wb D∧H b=some (.lst D)
theorem Dl.nil {H:Hp}:Dl H []:=λb hb=>nomatch hb
theorem Dl.cons {H:Hp}{a:Aj}{ch:List Aj}(h:(∃kv,Rd H a (.dK kv))∨∃D,Wb D∧H a=some (.lst D))(d:Dl H ch):Dl H (a::ch):=λb hb=>by
 rcases ak.mp hb with rfl|hb
 ·exact h
 ·exact d b hb
theorem Hse.dl {C:Aj}{H:Hp}{x dr dw dd:Aj}{R W:List (Key×V)}{D:List V}(h:Hse C H x dr dw dd R W D)(rf:Wb D){ch:List Aj}(d:Dl H ch):Dl H (dr::dw::dd::ch):=.cons (.inl ⟨_,.inl h.r⟩) (.cons (.inl ⟨_,.inl h.w⟩) (.cons (.inr ⟨_,rf,h.d⟩) d))
theorem Dl.other {H:Hp}{ch:List Aj}(d:Dl H ch){a:Aj}{o:HO}(e:H a=some o)(n1:∀kv,o≠.dK kv)(n2:∀u kv,o≠.frz u (.dK kv))(n3:∀D,Wb D→o≠.lst D):a∉ch:=λz=>by
 rcases d a z with ⟨kv,y|⟨u,y⟩⟩|⟨D,rf,y⟩ <;> (rw [e] at y;injection y with y)
 ·exact n1 _ y
 ·exact n2 _ _ y
 ·exact n3 _ rf y
theorem Dl.tup {H H':Hp}{ch:List Aj}(d:Dl H ch)(k:Kb ch H H'){a:Aj}{xs:List V}(e:H a=some (.tup xs)):H' a=some (.tup xs):=k _ _ (d.other e (λ_ z=>by cases z) (λ_ _ z=>by cases z) (λ_ _ z=>by cases z)) e
theorem wkj {hs:List Int}(ok:xj hs){D:List V}(rf:Wb D)(e:HO.lst (hs.map V.int)=HO.lst D):False:=by
 have e:hs.map V.int=D:=by injection e
 have l:=ok.1
 have m:V.int (hs[0]'(by lia))∈hs.map V.int:=ao.mpr ⟨_,cS _,rfl⟩
 rw [e] at m
 obtain ⟨a,ea⟩:=rf _ m
 cases ea
theorem Dl.row {H H':Hp}{ch:List Aj}(d:Dl H ch)(k:Kb ch H H'){a:Aj}{hs:List Int}(ok:xj hs)(e:H a=some (.lst (hs.map V.int))):H' a=some (.lst (hs.map V.int)):=k _ _ (d.other e (λ_ z=>by cases z) (λ_ _ z=>by cases z) (λ_ rf z=>wkj ok rf z)) e
theorem Dl.road {C:Aj}{H H':Hp}{ch:List Aj}(d:Dl H ch)(k:Kb ch H H'){r:Aj}{hs:List Int}(ok:xj hs)(h:RoadAt C H r hs):RoadAt C H' r hs:=by
 obtain ⟨dx,q,h1,h2⟩:=h
 exact ⟨dx,q,k _ _ (d.other h1 (λ_ z=>by cases z) (λ_ _ z=>by cases z) (λ_ _ z=>by cases z)) h1,d.row k ok h2⟩
theorem Dl.wk {C:Aj}{H H':Hp}{ch:List Aj}(d:Dl H ch)(k:Kb ch H H'){y:Aj}{n:Str}{p:Aj}{pt:Int×Int}{t:Aj}{tv:List (List Key×V)}(h:WkAt C H y n p pt t tv):WkAt C H' y n p pt t tv:=by
 obtain ⟨dx,e⟩:=h.ob
 have e2:=h.tm
 exact ⟨⟨dx,k _ _ (d.other e (λ_ z=>by cases z) (λ_ _ z=>by cases z) (λ_ _ z=>by cases z)) e⟩,d.tup k h.pt,k _ _ (d.other e2 (λ_ z=>by cases z) (λ_ _ z=>by cases z) (λ_ _ z=>by cases z)) e2⟩
theorem wqw {W:List (Key×V)}{n:Key}{y:Aj}:exK W [(n,.ref y)]=zx W n (.ref y):=by
 show ex1 W (n,.ref y)=_
 unfold ex1
 rw [af (λz=>by cases z)]
theorem quk {k:Key}{v:V}:([(k,v)].map (·.1)).Nodup:=aN.mpr ⟨am,aY⟩
def ovr (f:Key→Option V)(cs:List (Key×V)):Key→Option V:=λm=>match wc cs m with|none=>f m|some .non=>none|some v=>some v
theorem jt {k j:Key}(hj:j≠k):∀kvs:List (Key×V),wc (j0 kvs k) j=wc kvs j
 |[]=>rfl
 |p::r=>by
  have ih:=jt hj r
  unfold j0 at ih ⊢
  by_cases e:p.1=k
  ·rw [bq,af (by simp [e]),ih,zj (λz=>hj (z.symm.trans e))]
  ·rw [bq,aj (by simp [e])]
   by_cases z:p.1=j
   ·rw [zc z,zc z]
   ·rw [zj z,zj z,ih]
theorem Zu {k:Key}:∀kvs:List (Key×V),wc (j0 kvs k) k=none
 |[]=>rfl
 |p::r=>by
  have ih:=Zu (k:=k) r
  unfold j0 at ih ⊢
  by_cases e:p.1=k
  ·rw [bq,af (by simp [e]),ih]
  ·rw [bq,aj (by simp [e]),zj e,ih]
theorem Jj {kvs:List (Key×V)}{k:Key}(h:k∉kvs.map (·.1)):wc kvs k=none:=by
 unfold wc
 rw [di.mpr λkv hk=>by simp only [dB];exact λz=>h (ao.mpr ⟨kv,hk,z⟩)]
 rfl
theorem qzr {kvs:List (Key×V)}{k:Key}{v:V}(h:wc kvs k=some v):(k,v)∈kvs:=by
 unfold wc at h
 obtain ⟨kv,e1,e2⟩:=cC.mp h
 have:=List.find?_some e1
 simp only [dB] at this
 have m:=cV e1
 rw [←this,←e2]
 exact m
theorem km {kvs:List (Key×V)}(nd:(kvs.map (·.1)).Nodup){c:Key×V}(h:c∈kvs):wc kvs c.1=some c.2:=by
 induction kvs with
 |nil=>cases h
 |cons p r ih =>
  rw [ax] at nd
  obtain ⟨a,b⟩:=aN.mp nd
  rcases ak.mp h with rfl|h
  ·exact zc rfl
  ·rw [zj (λz=>a (by rw [z];exact ao.mpr ⟨c,h,rfl⟩))]
   exact ih b h
theorem wqj (R:List (Key×V))(c:Key×V)(m:Key):wc (ex1 R c) m=if m=c.1 then (if c.2=.non then none else some c.2) else wc R m:=by
 unfold ex1
 by_cases z:c.2=.non
 ·rw [aj z,aj z]
  by_cases y:m=c.1
  ·rw [aj y,y,Zu]
  ·rw [af y,jt y]
 ·rw [af z,af z,vf]
theorem k7:∀(cs:List (Key×V)) (R:List (Key×V)),(cs.map (·.1)).Nodup→∀m,wc (exK R cs) m=ovr (wc R) cs m
 |[],R,_,m=>rfl
 |c::cs,R,nd,m=>by
  rw [ax] at nd
  obtain ⟨a,b⟩:=aN.mp nd
  show wc (exK (ex1 R c) cs) m=_
  rw [k7 cs (ex1 R c) b m]
  unfold ovr
  by_cases z:c.1=m
  ·rw [zc z,Jj (kvs:=cs) (by rw [←z];exact a)]
   show wc (ex1 R c) m=_
   rw [wqj,aj z.symm]
   cases c.2 <;> rfl
  ·rw [zj z]
   cases wc cs m with
   |none =>
    show wc (ex1 R c) m=_
    rw [wqj,af (aZ z)]
   |some v=>cases v <;> rfl
theorem wqc (R cs:List (Key×V)):(bfK R cs).map (·.1)=cs.map (·.1):=by
 unfold bfK
 rw [bU]
 rfl
theorem val_bf (R cs:List (Key×V))(m:Key):wc (bfK R cs) m=(wc cs m).map λ_=>(wc R m).getD .non:=by
 induction cs with
 |nil=>rfl
 |cons c cs ih =>
  show wc ((c.1,(wc R c.1).getD .non)::bfK R cs) m=_
  by_cases z:c.1=m
  ·rw [zc (p:=(c.1,(wc R c.1).getD .non)) z,zc z,z]
   rfl
  ·rw [zj (p:=(c.1,(wc R c.1).getD .non)) z,zj z,ih]
theorem qvb {R cs:List (Key×V)}(nd:(cs.map (·.1)).Nodup)(hv:∀m,wc R m≠some .non)(m:Key):ovr (wc (exK R cs)) (bfK R cs) m=wc R m:=by
 unfold ovr
 rw [val_bf]
 cases e:wc cs m with
 |none =>
  show wc (exK R cs) m=_
  rw [k7 cs R nd,ovr,e]
 |some v =>
  show (match some ((wc R m).getD .non) with|none=>wc (exK R cs) m|some .non=>none|some v=>some v)=_
  have:=hv m
  cases e2:wc R m with
  |none=>rfl
  |some u =>
   rw [e2] at this
   cases u <;> first | rfl | exact absurd rfl this
def Yp (f:Key→Option V)(cs:List (Key×V)):Prop:=∀c∈cs,c.2=.non→(f c.1).isSome=true
theorem wqf {R cs:List (Key×V)}(nd:(cs.map (·.1)).Nodup)(h:Yp (wc R) cs):qkc R cs:=λi c ec hc=>by
 have hi:=(aT.mp ec).1
 have sub:((cs.take i).map (·.1)).Nodup:=by
  rw [List.map_take]
  exact nd.sublist (List.take_sublist _ _)
 rw [k7 _ _ sub]
 unfold ovr
 rw [Jj (kvs:=cs.take i) λz=>?_]
 ·exact h c (aX ec) hc
 ·obtain ⟨c',hc',e⟩:=ao.mp z
  obtain ⟨j,hj,ej⟩:=cX hc'
  rw [bG] at hj
  rw [eO] at ej
  have ei:=(aT.mp ec).2
  have:=(dG (h₀:=by rw [ae];lia) (h₁:=by rw [ae];lia) nd (i:=j) (j:=i)).mp (by rw [dJ,dJ,ej,ei];exact e)
  lia
theorem go_bf {R cs:List (Key×V)}(nd:(cs.map (·.1)).Nodup)(hv:∀m,wc R m≠some .non)(h:Yp (wc R) cs):Yp (wc (exK R cs)) (bfK R cs):=λc hc hn=>by
 obtain ⟨c0,h0,rfl⟩:=ao.mp hc
 have hn:(wc R c0.1).getD .non=.non:=hn
 show (wc (exK R cs) c0.1).isSome=true
 rw [k7 cs R nd,ovr,km nd h0]
 by_cases z:c0.2=.non
 ·have:=h c0 h0 z
  obtain ⟨v,ev⟩:=be.mp this
  rw [ev] at hn
  have hn:v=.non:=hn
  rw [hn] at ev
  exact absurd ev (hv _)
 ·cases e:c0.2 <;> first | rfl | exact absurd e z
theorem nd_ex1 {R:List (Key×V)}(nd:(R.map (·.1)).Nodup)(c:Key×V):((ex1 R c).map (·.1)).Nodup:=by
 unfold ex1
 split
 ·unfold j0
  exact nd.sublist (List.Sublist.map _ List.filter_sublist)
 ·cases e:wc R c.1 with
  |none =>
   rw [ux _ e,ba,List.nodup_append]
   refine ⟨nd,aN.mpr ⟨am,aY⟩,λx hx y hy z=>?_⟩
   have hy:y=c.1:=ai.mp hy
   obtain ⟨p,hp,rfl⟩:=ao.mp hx
   have:=km nd hp
   rw [z,hy,e] at this
   cases this
  |some v=>rw [wzs e];exact nd
theorem wqr {R:List (Key×V)}(nd:(R.map (·.1)).Nodup):∀cs:List (Key×V),((exK R cs).map (·.1)).Nodup:=λcs=>by
 induction cs generalizing R with
 |nil=>exact nd
 |cons c cs ih=>exact ih (nd_ex1 nd c)
def RefsF (f:Key→Option V):Prop:=∀m v,f m=some v→∃n a,m=.inr n∧v=.ref a
def yk (cs:List (Key×V)):Prop:=∀c∈cs,∃n,c.1=.inr n∧(c.2=.non∨∃a,c.2=.ref a)
theorem RefsF.ovr {f:Key→Option V}(h:RefsF f){cs:List (Key×V)}(hc:yk cs):RefsF (ovr f cs):=λm v e=>by
 unfold My.ovr at e
 cases e2:wc cs m with
 |none=>rw [e2] at e;exact h m v e
 |some u =>
  obtain ⟨n,e3,e4⟩:=hc _ (qzr e2)
  have e3:m=.inr n:=e3
  rcases e4 with e4|⟨a,e4⟩
  ·have e4:u=.non:=e4
   rw [e2,e4] at e
   cases e
  ·have e4:u=.ref a:=e4
   rw [e2,e4] at e
   cases e
   exact ⟨n,a,e3,rfl⟩
theorem RefsF.non {f:Key→Option V}(h:RefsF f)(m:Key):f m≠some .non:=λz=>by
 obtain ⟨_,_,_,e⟩:=h m _ z
 cases e
theorem RefsF.bf {R:List (Key×V)}(h:RefsF (wc R)){cs:List (Key×V)}(hc:yk cs):yk (bfK R cs):=λc hc'=>by
 obtain ⟨c0,h0,rfl⟩:=ao.mp hc'
 obtain ⟨n,e,_⟩:=hc c0 h0
 refine ⟨n,e,?_⟩
 show (wc R c0.1).getD .non=.non∨_
 cases e2:wc R c0.1 with
 |none=>exact .inl rfl
 |some v =>
  obtain ⟨_,a,_,e3⟩:=h _ _ e2
  exact .inr ⟨a,e3⟩
structure Deed where
 tp:Aj
 q1:Aj
 q2:Aj
 cs1:List (Key×V)
 cs2:List (Key×V)
def DeedAt (H:Hp)(d:Deed):Prop:=H d.tp=some (.tup [.ref d.q1,.ref d.q2])∧Rd H d.q1 (.dK d.cs1)∧Rd H d.q2 (.dK d.cs2)
structure DeedOk (d:Deed):Prop where
 nd1:(d.cs1.map (·.1)).Nodup
 nd2:(d.cs2.map (·.1)).Nodup
 l1:d.cs1.length≤1000
 l2:d.cs2.length≤1000
 r1:yk d.cs1
 r2:yk d.cs2
 ne:d.q1≠d.q2
def jd (ds:List Deed):List Aj:=ds.flatMap λd=>[d.q1,d.q2]
def yd (ds:List Deed):List V:=ds.reverse.map λd=>V.ref d.tp
theorem qkm (d:Deed)(ds:List Deed):yd (d::ds)=yd ds++[.ref d.tp]:=by
 unfold yd
 rw [List.reverse_cons,ba]
 rfl
theorem j6 (ds:List Deed):(yd ds).length=ds.length:=by
 unfold yd
 rw [ae,List.length_reverse]
theorem uc (ds:List Deed):Wb (yd ds):=λv hv=>by
 obtain ⟨d,_,rfl⟩:=ao.mp hv
 exact ⟨_,rfl⟩
theorem Jg {d:Deed}{ds:List Deed}(h:d∈ds):d.q1∈jd ds∧d.q2∈jd ds:=⟨cz.mpr ⟨d,h,by simp⟩,cz.mpr ⟨d,h,by simp⟩⟩
def Und:(Key→Option V)→(Key→Option V)→List Deed→Prop
 |_,_,[]=>True
 |f,g,d::ds=>Yp f d.cs1∧Yp g d.cs2∧Und (ovr f d.cs1) (ovr g d.cs2) ds
structure Ho where
 x:Aj
 dr:Aj
 dw:Aj
 dd:Aj
 R:List (Key×V)
 W:List (Key×V)
 ds:List Deed
structure HoAt (C:Aj)(H:Hp)(o:Ho):Prop where
 hs:Hse C H o.x o.dr o.dw o.dd o.R o.W (yd o.ds)
 da:∀d∈o.ds,DeedAt H d∧DeedOk d
 nq:∀q∈jd o.ds,q≠o.dr∧q≠o.dw
 un:Und (wc o.R) (wc o.W) o.ds
 nR:(o.R.map (·.1)).Nodup
 nW:(o.W.map (·.1)).Nodup
 fR:RefsF (wc o.R)
 fW:RefsF (wc o.W)
theorem HoAt.dl {C:Aj}{H:Hp}{o:Ho}(h:HoAt C H o):Dl H [o.dr,o.dw,o.dd]:=h.hs.dl (uc _) .nil
theorem HoAt.frame {C:Aj}{H H':Hp}{o:Ho}(h:HoAt C H o){ch:List Aj}(k:Kb ch H H')(dl:Dl H ch)(n:o.x∉ch∧o.dr∉ch∧o.dw∉ch∧o.dd∉ch)(rd:∀q∈ch,q∈jd o.ds→∀kv,Rd H q (.dK kv)→Rd H' q (.dK kv)):HoAt C H' o:=by
 refine ⟨h.hs.kb k n,λd hd=>?_,h.nq,h.un,h.nR,h.nW,h.fR,h.fW⟩
 obtain ⟨⟨a,b,c⟩,e⟩:=h.da d hd
 obtain ⟨m1,m2⟩:=Jg hd
 refine ⟨⟨dl.tup k a,?_,?_⟩,e⟩
 ·by_cases z:d.q1∈ch
  ·exact rd _ z m1 _ b
  ·exact k.rd z b
 ·by_cases z:d.q2∈ch
  ·exact rd _ z m2 _ c
  ·exact k.rd z c
theorem HoAt.same {C:Aj}{H H':Hp}{o:Ho}(h:HoAt C H o)(s:Same H H'):HoAt C H' o:=h.frame (ch:=[]) (Kb.of s) Dl.nil ⟨am,am,am,am⟩ λq z=>nomatch z
def Ho.did (o:Ho)(tp q1 q2:Aj)(cs1 cs2:List (Key×V)):Ho:={ o with R:=exK o.R cs1,W:=exK o.W cs2,ds:=⟨tp,q1,q2,bfK o.R cs1,bfK o.W cs2⟩::o.ds }
theorem qxu {f f' g g':Key→Option V}(ef:∀m,f m=f' m)(eg:∀m,g m=g' m){ds:List Deed}(h:Und f g ds):Und f' g' ds:=by
 have a:f=f':=funext ef
 have b:g=g':=funext eg
 subst a b
 exact h
theorem HoAt.did {C:Aj}{H H':Hp}{o:Ho}(h:HoAt C H o){cs1 cs2:List (Key×V)}(g:Wt C H H' o.x o.dr o.dw o.dd o.R o.W (yd o.ds) cs1 cs2)(nd1:(cs1.map (·.1)).Nodup)(nd2:(cs2.map (·.1)).Nodup)(l1:cs1.length≤1000)(l2:cs2.length≤1000)(r1:yk cs1)(r2:yk cs2)(g1:Yp (wc o.R) cs1)(g2:Yp (wc o.W) cs2):∃tp q1 q2,H tp=none∧H q1=none∧H q2=none∧HoAt C H' (o.did tp q1 q2 cs1 cs2)∧Kb [o.dr,o.dw,o.dd] H H':=by
 obtain ⟨tp,q1,q2,n0,n1,n2,h1,ft,f1,f2,ne,kb⟩:=g
 have hq:∀q∈jd o.ds,∃kv,Rd H q (.dK kv):=λq hq=>by
  obtain ⟨d,hd,hq⟩:=cz.mp hq
  obtain ⟨⟨_,a,b⟩,_⟩:=h.da d hd
  simp only [ak,am,bz] at hq
  rcases hq with rfl|rfl
  ·exact ⟨_,a⟩
  ·exact ⟨_,b⟩
 have nin:∀q∈jd o.ds,q∉[o.dr,o.dw,o.dd]:=λq hm z=>by
  obtain ⟨kv,e⟩:=hq q hm
  have nq:=h.nq q hm
  simp only [ak,am,bz] at z
  rcases z with z|z|z
  ·exact nq.1 z
  ·exact nq.2 z
  ·rcases e with e|⟨u,e⟩ <;> (rw [z,h.hs.d] at e;cases e)
 refine ⟨tp,q1,q2,n0,n1,n2,⟨by show Hse C H' o.x o.dr o.dw o.dd _ _ (yd (_::o.ds));rw [qkm];exact h1,λd hd=>?_,λq hm=>?_,?_,wqr h.nR _,wqr h.nW _,?_,?_⟩,kb⟩
 ·rcases ak.mp hd with rfl|hd
  ·exact ⟨⟨ft,.inl f1,.inl f2⟩,⟨by show ((bfK o.R cs1).map (·.1)).Nodup;rw [wqc];exact nd1,by show ((bfK o.W cs2).map (·.1)).Nodup;rw [wqc];exact nd2,by show (bfK o.R cs1).length≤_;unfold bfK;rw [ae];exact l1,by show (bfK o.W cs2).length≤_;unfold bfK;rw [ae];exact l2,h.fR.bf r1,h.fW.bf r2,ne⟩⟩
  ·obtain ⟨⟨a,b,c⟩,e⟩:=h.da d hd
   obtain ⟨m1,m2⟩:=Jg hd
   exact ⟨⟨h.dl.tup kb a,kb.rd (nin _ m1) b,kb.rd (nin _ m2) c⟩,e⟩
 ·have hm:q∈q1::q2::jd o.ds:=hm
  rcases ak.mp hm with rfl|hm
  ·exact ⟨(qg h.hs.r n1).symm,(qg h.hs.w n1).symm⟩
  ·rcases ak.mp hm with rfl|hm
   ·exact ⟨(qg h.hs.r n2).symm,(qg h.hs.w n2).symm⟩
   ·exact h.nq q hm
 ·exact ⟨go_bf nd1 h.fR.non g1,go_bf nd2 h.fW.non g2,qxu (λm=>(qvb nd1 h.fR.non m).symm) (λm=>(qvb nd2 h.fW.non m).symm) h.un⟩
 ·show RefsF (wc (exK o.R cs1))
  rw [show wc (exK o.R cs1)=ovr (wc o.R) cs1 from funext (k7 cs1 o.R nd1)]
  exact h.fR.ovr r1
 ·show RefsF (wc (exK o.W cs2))
  rw [show wc (exK o.W cs2)=ovr (wc o.W) cs2 from funext (k7 cs2 o.W nd2)]
  exact h.fW.ovr r2
def Ho.undo (o:Ho)(d:Deed)(ds:List Deed):Ho:={ o with R:=exK o.R d.cs1,W:=exK o.W d.cs2,ds:=ds }
theorem wx4 {H:Hp}{q:Aj}{kv kv':List (Key×V)}(h:Rd H q (.dK kv))(h':Rd H q (.dK kv')):kv=kv':=by
 rcases h with h|⟨u,h⟩ <;> rcases h' with h'|⟨u',h'⟩ <;> (rw [h] at h';cases h') <;> rfl
theorem HoAt.take {C CN:Aj}{H:Hp}{o:Ho}{d:Deed}{ds:List Deed}{Q:VK}{E:XK}(h:HoAt C H o)(ed:o.ds=d::ds)(lR:o.R.length≤1000)(lW:o.W.length≤1000)
  (k:∀H',HoAt C H' (o.undo d ds)→Kb [o.dr,o.dw,o.dd,d.q1,d.q2] H H'→Dl H [o.dr,o.dw,o.dd,d.q1,d.q2]→(∀q kv,q∉[o.dr,o.dw,o.dd]→Rd H q (.dK kv)→Rd H' q (.dK kv))→Q .non H'):Zq C CN [.ref o.x] H Q E:=by
 have hh:=h.hs
 rw [ed,qkm] at hh
 have hd:d∈o.ds:=by rw [ed];exact aJ ..
 obtain ⟨⟨dt,d1,d2⟩,dk⟩:=h.da d hd
 have m:=Jg hd
 have un:=h.un
 rw [ed] at un
 obtain ⟨u1,u2,u3⟩:=un
 refine ⟨o.x,o.dr,o.dw,o.dd,o.R,o.W,exI rfl ⟨hh,lR,lW,(λz=>absurd z (dj _ (cT _ _))),λD' v e=>?_⟩⟩
 obtain ⟨e1,e2⟩:=List.append_inj' e rfl
 cases e2
 have nq1:=h.nq _ m.1
 have nq2:=h.nq _ m.2
 refine ⟨d.tp,d.q1,d.q2,d.cs1,d.cs2,rfl,dt,d1,d2,dk.ne,nq1.1,nq1.2,nq2.1,nq2.2,dk.nd1,dk.nd2,dk.l1,dk.l2,wqf dk.nd1 u1,wqf dk.nd2 u2,λH' hs' r1 r2 kb=>?_⟩
 rw [←e1] at hs'
 have dl:Dl H [o.dr,o.dw,o.dd,d.q1,d.q2]:=h.hs.dl (uc _) (.cons (.inl ⟨_,d1⟩) (.cons (.inl ⟨_,d2⟩) .nil))
 have rdk:∀q kv,q∉[o.dr,o.dw,o.dd]→Rd H q (.dK kv)→Rd H' q (.dK kv):=λq kv nq e=>by
  by_cases z1:q=d.q1
  ·subst z1;rw [wx4 e d1];exact r1
  ·by_cases z2:q=d.q2
   ·subst z2;rw [wx4 e d2];exact r2
   ·refine kb.rd (λz=>?_) e
    simp only [ak,am,bz] at z nq
    rcases z with z|z|z|z|z
    ·exact nq (.inl z)
    ·exact nq (.inr (.inl z))
    ·exact nq (.inr (.inr z))
    ·exact z1 z
    ·exact z2 z
 have nin:∀q∈jd o.ds,(∃kv,Rd H q (.dK kv))→q∉[o.dr,o.dw,o.dd]:=λq hm ⟨kv,e⟩ z=>by
  have nq:=h.nq q hm
  simp only [ak,am,bz] at z
  rcases z with z|z|z
  ·exact nq.1 z
  ·exact nq.2 z
  ·rcases e with e|⟨u,e⟩ <;> (rw [z,h.hs.d] at e;cases e)
 have sub:∀q∈jd ds,q∈jd o.ds:=λq hq=>by rw [ed];exact aE _ (aE _ hq)
 refine k H' ⟨hs',λd' hd'=>?_,λq hq=>h.nq q (sub q hq),?_,wqr h.nR _,wqr h.nW _,?_,?_⟩ kb dl rdk
 ·have hd'':d'∈o.ds:=by rw [ed];exact aE _ hd'
  obtain ⟨⟨a,b,c⟩,e⟩:=h.da d' hd''
  obtain ⟨m1,m2⟩:=Jg hd''
  exact ⟨⟨dl.tup kb a,rdk _ _ (nin _ m1 ⟨_,b⟩) b,rdk _ _ (nin _ m2 ⟨_,c⟩) c⟩,e⟩
 ·exact qxu (λm=>(k7 d.cs1 o.R dk.nd1 m).symm) (λm=>(k7 d.cs2 o.W dk.nd2 m).symm) u3
 ·show RefsF (wc (exK o.R d.cs1))
  rw [show wc (exK o.R d.cs1)=ovr (wc o.R) d.cs1 from funext (k7 _ _ dk.nd1)]
  exact h.fR.ovr dk.r1
 ·show RefsF (wc (exK o.W d.cs2))
  rw [show wc (exK o.W d.cs2)=ovr (wc o.W) d.cs2 from funext (k7 _ _ dk.nd2)]
  exact h.fW.ovr dk.r2
structure Wk where
 wh:Str
 pt:Int×Int
 tv:List (List Key×V)
structure AH where
 rs:Str→Option (List Int)
 ws:Str→Option Wk
def AH.putW (a:AH)(n:Str)(w:Wk):AH:={ a with ws:=λm=>if m=n then some w else a.ws m }
def AH.delW (a:AH)(n:Str):AH:={ a with ws:=λm=>if m=n then none else a.ws m }
def AH.putR (a:AH)(n:Str)(hs:List Int):AH:={ a with rs:=λm=>if m=n then some hs else a.rs m }
def RRep (CR:Aj)(H:Hp)(o:Option V):Option (List Int)→Prop
 |none=>o=none
 |some hs=>∃r,o=some (.ref r)∧RoadAt CR H r hs
def WRep (CW:Aj)(H:Hp)(o:Option V):Option Wk→Prop
 |none=>o=none
 |some w=>∃y p t,o=some (.ref y)∧WkAt CW H y w.wh p w.pt t w.tv
structure AOk (a:AH):Prop where
 lo:∀n hs,a.rs n=some hs→xj hs
 wo:∀n w,a.ws n=some w→TmOk w.tv∧∃hs,a.rs w.wh=some hs∧HPt hs w.pt
structure Rep (CR CW:Aj)(H:Hp)(f g:Key→Option V)(a:AH):Prop where
 r:∀n,RRep CR H (f (.inr n)) (a.rs n)
 w:∀n,WRep CW H (g (.inr n)) (a.ws n)
 ok:AOk a
theorem Rep.dl {CR CW:Aj}{H H':Hp}{f g:Key→Option V}{a:AH}(h:Rep CR CW H f g a){ch:List Aj}(d:Dl H ch)(k:Kb ch H H'):Rep CR CW H' f g a:=by
 refine ⟨λn=>?_,λn=>?_,h.ok⟩
 ·have:=h.r n
  have lo:=h.ok.lo n
  cases e:a.rs n with
  |none=>rw [e] at this;exact this
  |some hs =>
   rw [e] at this
   obtain ⟨r,e1,ra⟩:=this
   exact ⟨r,e1,d.road k (lo hs e) ra⟩
 ·have:=h.w n
  cases e:a.ws n with
  |none=>rw [e] at this;exact this
  |some w =>
   rw [e] at this
   obtain ⟨y,p,t,e1,wk⟩:=this
   exact ⟨y,p,t,e1,d.wk k wk⟩
def Hist (CR CW:Aj)(H:Hp):List AH→(Key→Option V)→(Key→Option V)→List Deed→Prop
 |[],_,_,_=>True
 |a::as,f,g,ds=>Rep CR CW H f g a∧((ds=[]∧as=[])∨∃d ds',ds=d::ds'∧Hist CR CW H as (ovr f d.cs1) (ovr g d.cs2) ds')
theorem Hist.dl {CR CW:Aj}{H H':Hp}{ch:List Aj}(d:Dl H ch)(k:Kb ch H H'):∀ {as:List AH} {f g:Key→Option V} {ds:List Deed},Hist CR CW H as f g ds→Hist CR CW H' as f g ds
 |[],_,_,_,_=>trivial
 |a::as,f,g,ds,h=>by
  obtain ⟨h1,h2⟩:=h
  refine ⟨h1.dl d k,?_⟩
  rcases h2 with h2|⟨d',ds',e,h2⟩
  ·exact .inl h2
  ·exact .inr ⟨d',ds',e,Hist.dl d k h2⟩
structure VH (C CR CW:Aj)(H:Hp)(o:Ho)(as:List AH):Prop where
 h:HoAt C H o
 t:Hist CR CW H as (wc o.R) (wc o.W) o.ds
theorem VH.same {C CR CW:Aj}{H H':Hp}{o:Ho}{as:List AH}(v:VH C CR CW H o as)(s:Same H H'):VH C CR CW H' o as:=⟨v.h.same s,Hist.dl (ch:=[]) Dl.nil (Kb.of s) v.t⟩
theorem VH.rep {C CR CW:Aj}{H:Hp}{o:Ho}{a:AH}{as:List AH}(v:VH C CR CW H o (a::as)):Rep CR CW H (wc o.R) (wc o.W) a:=v.t.1
structure Nxt (H:Hp)(o o':Ho):Prop where
 x:o'.x=o.x
 dr:o'.dr=o.dr
 dw:o'.dw=o.dw
 dd:o'.dd=o.dd
 ds:∃d,o'.ds=d::o.ds∧H d.q1=none∧H d.q2=none
structure Prv (o o':Ho):Prop where
 x:o'.x=o.x
 dr:o'.dr=o.dr
 dw:o'.dw=o.dw
 dd:o'.dd=o.dd
 ds:∃d,o.ds=d::o'.ds
theorem VH.did {C CR CW:Aj}{H H':Hp}{o:Ho}{a a':AH}{as:List AH}(v:VH C CR CW H o (a::as)){cs1 cs2:List (Key×V)}(g:Wt C H H' o.x o.dr o.dw o.dd o.R o.W (yd o.ds) cs1 cs2)(nd1:(cs1.map (·.1)).Nodup)(nd2:(cs2.map (·.1)).Nodup)(l1:cs1.length≤1000)(l2:cs2.length≤1000)(r1:yk cs1)(r2:yk cs2)(g1:Yp (wc o.R) cs1)(g2:Yp (wc o.W) cs2)(rp:Kb [o.dr,o.dw,o.dd] H H'→Rep CR CW H' (ovr (wc o.R) cs1) (ovr (wc o.W) cs2) a') :
  ∃o',Nxt H o o'∧VH C CR CW H' o' (a'::a::as)∧Kb [o.dr,o.dw,o.dd] H H':=by
 obtain ⟨tp,q1,q2,n0,n1,n2,h',kb⟩:=v.h.did g nd1 nd2 l1 l2 r1 r2 g1 g2
 refine ⟨o.did tp q1 q2 cs1 cs2,⟨rfl,rfl,rfl,rfl,⟨⟨tp,q1,q2,bfK o.R cs1,bfK o.W cs2⟩,rfl,n1,n2⟩⟩,⟨h',?_⟩,kb⟩
 have e1:wc (exK o.R cs1)=ovr (wc o.R) cs1:=funext (k7 cs1 o.R nd1)
 have e2:wc (exK o.W cs2)=ovr (wc o.W) cs2:=funext (k7 cs2 o.W nd2)
 refine ⟨by show Rep CR CW H' (wc (exK o.R cs1)) (wc (exK o.W cs2)) a';rw [e1,e2];exact rp kb,.inr ⟨_,o.ds,rfl,?_⟩⟩
 show Hist CR CW H' (a::as) (ovr (wc (exK o.R cs1)) (bfK o.R cs1)) (ovr (wc (exK o.W cs2)) (bfK o.W cs2)) o.ds
 rw [show ovr (wc (exK o.R cs1)) (bfK o.R cs1)=wc o.R from funext (qvb nd1 v.h.fR.non),show ovr (wc (exK o.W cs2)) (bfK o.W cs2)=wc o.W from funext (qvb nd2 v.h.fW.non)]
 exact Hist.dl v.h.dl kb v.t
structure Nam (NM:List Str)(a:AH):Prop where
 r:∀n,(a.rs n).isSome=true→n∈NM
 w:∀n,(a.ws n).isSome=true→n∈NM
theorem qx7 {α:Type}[DecidableEq α]:∀(l m:List α),l.Nodup→(∀x∈l,x∈m)→l.length≤m.length
 |[],_,_,_=>aB _
 |a::l,m,nd,h=>by
  obtain ⟨n1,n2⟩:=aN.mp nd
  have ha:=h a (aJ ..)
  have:=qx7 l (m.erase a) n2 λx hx=>(List.mem_erase_of_ne (λz=>n1 (by rw [←z];exact hx))).mpr (h x (aE _ hx))
  rw [eQ ha] at this
  have:=List.length_pos_of_mem ha
  rw [aL]
  lia
theorem wxt {NM:List Str}{R:List (Key×V)}(nd:(R.map (·.1)).Nodup)(h:∀k v,wc R k=some v→∃n,k=.inr n∧n∈NM):R.length≤NM.length:=by
 have:=qx7 (R.map (·.1)) (NM.map Sum.inr) nd λk hk=>by
  obtain ⟨c,hc,rfl⟩:=ao.mp hk
  obtain ⟨n,e,hn⟩:=h _ _ (km nd hc)
  rw [e]
  exact ao.mpr ⟨n,hn,rfl⟩
 rwa [ae,ae] at this
theorem VH.lens {C CR CW:Aj}{H:Hp}{o:Ho}{a:AH}{as:List AH}(v:VH C CR CW H o (a::as)){NM:List Str}(nm:Nam NM a):o.R.length≤NM.length∧o.W.length≤NM.length:=by
 refine ⟨wxt v.h.nR λk u e=>?_,wxt v.h.nW λk u e=>?_⟩
 ·obtain ⟨n,_,rfl,_⟩:=v.h.fR k u e
  refine ⟨n,rfl,nm.r n ?_⟩
  have:=v.rep.r n
  cases e2:a.rs n with
  |none =>
   rw [e2] at this
   have this:wc o.R (.inr n)=none:=this
   rw [this] at e;cases e
  |some _=>rfl
 ·obtain ⟨n,_,rfl,_⟩:=v.h.fW k u e
  refine ⟨n,rfl,nm.w n ?_⟩
  have:=v.rep.w n
  cases e2:a.ws n with
  |none =>
   rw [e2] at this
   have this:wc o.W (.inr n)=none:=this
   rw [this] at e;cases e
  |some _=>rfl
theorem Rep.road {CR CW:Aj}{H:Hp}{f g:Key→Option V}{a:AH}(h:Rep CR CW H f g a){n:Str}{hs:List Int}(e:a.rs n=some hs):∃r,f (.inr n)=some (.ref r)∧RoadAt CR H r hs:=by
 have:=h.r n
 rw [e] at this
 exact this
theorem Rep.wk {CR CW:Aj}{H:Hp}{f g:Key→Option V}{a:AH}(h:Rep CR CW H f g a){n:Str}{w:Wk}(e:a.ws n=some w):∃y p t,g (.inr n)=some (.ref y)∧WkAt CW H y w.wh p w.pt t w.tv:=by
 have:=h.w n
 rw [e] at this
 exact this
theorem Rep.noR {CR CW:Aj}{H:Hp}{f g:Key→Option V}{a:AH}(h:Rep CR CW H f g a){n:Str}(e:a.rs n=none):f (.inr n)=none:=by
 have:=h.r n
 rw [e] at this
 exact this
theorem Rep.noW {CR CW:Aj}{H:Hp}{f g:Key→Option V}{a:AH}(h:Rep CR CW H f g a){n:Str}(e:a.ws n=none):g (.inr n)=none:=by
 have:=h.w n
 rw [e] at this
 exact this
theorem qx4 {f:Key→Option V}{k:Key}{v:V}(m:Key):ovr f [(k,v)] m=if m=k then (if v=.non then none else some v) else f m:=by
 unfold ovr
 by_cases z:k=m
 ·rw [zc z,aj z.symm]
  cases v <;> rfl
 ·rw [zj z,af (aZ z)]
  rfl
theorem Rep.putW {CR CW:Aj}{H:Hp}{f g:Key→Option V}{a:AH}(h:Rep CR CW H f g a){n:Str}{w:Wk}{y p t:Aj}(wk:WkAt CW H y w.wh p w.pt t w.tv)(tm:TmOk w.tv){hs:List Int}(er:a.rs w.wh=some hs)(hp:HPt hs w.pt):Rep CR CW H (ovr f []) (ovr g [(.inr n,.ref y)]) (a.putW n w):=by
 refine ⟨h.r,λm=>?_,h.ok.lo,λm w' e=>?_⟩
 ·rw [qx4]
  show WRep CW H _ (if m=n then some w else a.ws m)
  by_cases z:m=n
  ·rw [aj z,aj (by rw [z]),af (λq=>by cases q)]
   exact ⟨y,p,t,rfl,wk⟩
  ·rw [af z,af (λq=>z (by injection q))]
   exact h.w m
 ·have e:(if m=n then some w else a.ws m)=some w':=e
  by_cases z:m=n
  ·rw [aj z] at e
   cases e
   exact ⟨tm,hs,er,hp⟩
  ·rw [af z] at e
   exact h.ok.wo m w' e
theorem Rep.delW {CR CW:Aj}{H:Hp}{f g:Key→Option V}{a:AH}(h:Rep CR CW H f g a)(n:Str):Rep CR CW H (ovr f []) (ovr g [(.inr n,.non)]) (a.delW n):=by
 refine ⟨h.r,λm=>?_,h.ok.lo,λm w' e=>?_⟩
 ·rw [qx4]
  show WRep CW H _ (if m=n then none else a.ws m)
  by_cases z:m=n
  ·rw [aj z,aj (by rw [z]),aj rfl]
   rfl
  ·rw [af z,af (λq=>z (by injection q))]
   exact h.w m
 ·have e:(if m=n then none else a.ws m)=some w':=e
  by_cases z:m=n
  ·rw [aj z] at e;cases e
  ·rw [af z] at e
   exact h.ok.wo m w' e
theorem qjz {n:Str}{y:Aj}:yk [((Sum.inr n:Key),V.ref y)]:=λc hc=>by
 rw [ai.mp hc]
 exact ⟨n,rfl,.inr ⟨y,rfl⟩⟩
theorem wxk {n:Str}:yk [((Sum.inr n:Key),V.non)]:=λc hc=>by
 rw [ai.mp hc]
 exact ⟨n,rfl,.inl rfl⟩
theorem Wu:yk []:=λc hc=>nomatch hc
theorem qzk {f:Key→Option V}:Yp f []:=λc hc=>nomatch hc
theorem wxu {f:Key→Option V}{k:Key}{y:Aj}:Yp f [(k,.ref y)]:=λc hc hn=>by
 rw [ai.mp hc] at hn
 cases hn
theorem WDeed.g {C CW:Aj}{H H':Hp}{x dr dw dd:Aj}{R W:List (Key×V)}{D:List V}{n wh:Str}{p:Aj}{pt:Int×Int}{t:Aj}{tv:List (List Key×V)}(h:WDeed C CW H H' x dr dw dd R W D n wh p pt t tv):∃y,Wt C H H' x dr dw dd R W D [] [(.inr n,.ref y)]∧WkAt CW H' y wh p pt t tv:=by
 obtain ⟨y,tp,q1,q2,a1,a2,a3,a4,a5,a6,a7,a8,a9,b1⟩:=h
 refine ⟨y,⟨tp,q1,q2,a1,a2,a3,?_,a5,a6,a7,a8,b1⟩,a9⟩
 rw [wqw]
 exact a4
theorem RDeed.g {C CR:Aj}{H H':Hp}{x dr dw dd:Aj}{R W:List (Key×V)}{D:List V}{n:Str}{hs:List Int}(h:RDeed C CR H H' x dr dw dd R W D n hs):∃r,Wt C H H' x dr dw dd R W D [(.inr n,.ref r)] []∧RoadAt CR H' r hs:=by
 obtain ⟨r,tp,q1,q2,a1,a2,a3,a4,a5,a6,a7,a8,a9,b1⟩:=h
 refine ⟨r,⟨tp,q1,q2,a1,a2,a3,?_,a5,a6,a7,a8,b1⟩,a9⟩
 rw [wqw]
 exact a4
theorem VH.walk {C CR CW:Aj}{H H':Hp}{o:Ho}{a:AH}{as:List AH}(v:VH C CR CW H o (a::as)){n:Str}{w:Wk}{p t:Aj}(g:WDeed C CW H H' o.x o.dr o.dw o.dd o.R o.W (yd o.ds) n w.wh p w.pt t w.tv)(tm:TmOk w.tv){hs:List Int}(er:a.rs w.wh=some hs)(hp:HPt hs w.pt):∃o',Nxt H o o'∧VH C CR CW H' o' (a.putW n w::a::as)∧Kb [o.dr,o.dw,o.dd] H H':=by
 obtain ⟨y,gd,wk⟩:=g.g
 exact v.did gd aY quk (aB _) (show 1≤1000 by decide) Wu qjz qzk wxu λkb=>(v.rep.dl v.h.dl kb).putW wk tm er hp
theorem VH.leave {C CR CW:Aj}{H H':Hp}{o:Ho}{a:AH}{as:List AH}(v:VH C CR CW H o (a::as)){n:Str}{w:Wk}(e:a.ws n=some w)(g:Wt C H H' o.x o.dr o.dw o.dd o.R o.W (yd o.ds) [] [(.inr n,.non)]):∃o',Nxt H o o'∧VH C CR CW H' o' (a.delW n::a::as)∧Kb [o.dr,o.dw,o.dd] H H':=by
 obtain ⟨y,p,t,ey,_⟩:=v.rep.wk e
 exact v.did g aY quk (aB _) (show 1≤1000 by decide) Wu wxk qzk (λc hc _=>by rw [ai.mp hc,ey];rfl) λkb=>(v.rep.dl v.h.dl kb).delW n
theorem VH.take {C CR CW CN:Aj}{H:Hp}{o:Ho}{a b:AH}{as:List AH}{Q:VK}{E:XK}(v:VH C CR CW H o (a::b::as))(lR:o.R.length≤1000)(lW:o.W.length≤1000)
  (k:∀H' o' d,Prv o o'→o.ds=d::o'.ds→VH C CR CW H' o' (b::as)→Kb [o.dr,o.dw,o.dd,d.q1,d.q2] H H'→Dl H [o.dr,o.dw,o.dd,d.q1,d.q2]→(∀q kv,q∉[o.dr,o.dw,o.dd]→Rd H q (.dK kv)→Rd H' q (.dK kv))→Q .non H'):Zq C CN [.ref o.x] H Q E:=by
 obtain ⟨h1,h2⟩:=v.t
 rcases h2 with ⟨_,h2⟩|⟨d,ds,ed,h2⟩
 ·cases h2
 have hd:d∈o.ds:=by rw [ed];exact aJ ..
 obtain ⟨_,dk⟩:=v.h.da d hd
 refine v.h.take ed lR lW λH' h' kb dl rdk=>k H' (o.undo d ds) d ⟨rfl,rfl,rfl,rfl,⟨d,ed⟩⟩ ed ⟨h',?_⟩ kb dl rdk
 show Hist CR CW H' (b::as) (wc (exK o.R d.cs1)) (wc (exK o.W d.cs2)) ds
 rw [show wc (exK o.R d.cs1)=ovr (wc o.R) d.cs1 from funext (k7 _ _ dk.nd1),show wc (exK o.W d.cs2)=ovr (wc o.W) d.cs2 from funext (k7 _ _ dk.nd2)]
 exact Hist.dl dl kb h2
structure Ap (o p:Ho):Prop where
 rr:o.dr≠p.dr
 rw_:o.dr≠p.dw
 wr:o.dw≠p.dr
 ww:o.dw≠p.dw
 dd:o.dd≠p.dd
 q1:∀q∈jd o.ds,q≠p.dr∧q≠p.dw
 q2:∀q∈jd p.ds,q≠o.dr∧q≠o.dw
theorem Ap.x {C:Aj}{H:Hp}{o p:Ho}(hp:HoAt C H p){ch:List Aj}(dl:Dl H ch):p.x∉ch:=by
 obtain ⟨dx,e⟩:=hp.hs.ob
 exact dl.other e (λ_ z=>by cases z) (λ_ _ z=>by cases z) (λ_ _ z=>by cases z)
theorem VH.goes {C CR CW CN CC:Aj}{H:Hp}{o:Ho}{a:AH}{as:List AH}{n:Str}{w:Wk}{hs:List Int}{m:Int}{Q:VK}{E:XK}(v:VH C CR CW H o (a::as)){NM:List Str}(nm:Nam NM a)(lN:NM.length≤100)(lD:o.ds.length≤10000)(en:a.ws n=some w)(er:a.rs w.wh=some hs)(wi:Within m 0 (some 1000000000000000000000000000000000000000000000000000000000000))
  (k:∀H' o' p tv',Nxt H o o'→VH C CR CW H' o' (a.putW n ⟨w.wh,itP hs w.pt m.toNat,tv'⟩::a::as)→TmOk tv'→qwq hs w.pt m.toNat w.tv tv'→Kb [o.dr,o.dw,o.dd] H H'→H' p=some (.tup [.int (itP hs w.pt m.toNat).1,.int (itP hs w.pt m.toNat).2])→Q (.ref p) H'):spGo C CR CW CN CC [.ref o.x,.str n,.int m] H Q E:=by
 obtain ⟨y,p,t,ey,wk⟩:=v.rep.wk en
 obtain ⟨r,err,ra⟩:=v.rep.road er
 obtain ⟨tm,hs',er',hp⟩:=v.rep.ok.wo n w en
 rw [er] at er'
 cases er'
 have ln:=v.lens nm
 refine ⟨o.x,o.dr,o.dw,o.dd,o.R,o.W,_,n,m,rfl,v.h.hs,by lia,by lia,by rw [j6];lia,(λz=>by rw [ey] at z;cases z),λu eu=>?_⟩
 rw [ey] at eu
 cases eu
 refine ⟨y,w.wh,p,w.pt,t,w.tv,r,hs,rfl,wk,tm,err,ra,hp,(λz=>absurd wi z),λ_ H' p' t' tv' wd tm' hit=>?_⟩
 have pt':H' p'=some (.tup [.int (itP hs w.pt m.toNat).1,.int (itP hs w.pt m.toNat).2]):=by
  obtain ⟨y',_,_,_,_,_,_,_,_,_,_,_,wk',_⟩:=wd
  exact wk'.pt
 obtain ⟨o',nx,v',kb⟩:=v.walk (w:=⟨w.wh,itP hs w.pt m.toNat,tv'⟩) wd tm' er (hp.it _)
 exact k H' o' p' tv' nx v' tm' hit kb pt'
theorem VH.places {K:Aa}{C CR CW CN CT CNR CB CO:Aj}{H:Hp}{o:Ho}{a:AH}{as:List AH}{n wh:Str}{hs:List Int}{pa:Aj}{t b:Int}{Q:VK}{E:XK}(v:VH C CR CW H o (a::as)){NM:List Str}(nm:Nam NM a)(lN:NM.length≤100)(lD:o.ds.length≤10000)(nn:jv n=true)(ln:n.length≤1000)(en:a.ws n=none)(er:a.rs wh=some hs)(fp:H pa=some (.tup [.int t,.int b]))(b1:1≤b)(sm:Sm 8000 b)(hp:HPt hs (wg t b))
  (k:∀H' o',Nxt H o o'→VH C CR CW H' o' (a.putW n ⟨wh,wg t b,[([.inl (wg t b).1,.inl (wg t b).2],.int 1)]⟩::a::as)→Kb [o.dr,o.dw,o.dd] H H'→Q .non H'):Wg K C CR CW CN CT CNR CB CO [.ref o.x,.str n,.str wh,.ref pa] H Q E:=by
 obtain ⟨r,err,ra⟩:=v.rep.road er
 have vn:=v.rep.noW en
 have lens:=v.lens nm
 refine ⟨o.x,o.dr,o.dw,o.dd,pa,o.R,o.W,_,n,wh,t,b,rfl,v.h.hs,by lia,by lia,by rw [j6];lia,ln,fp,(λz=>by rw [nn] at z;cases z),(λ_ z=>by rw [vn] at z;cases z),λ_ _=>⟨(λz=>by rw [err] at z;cases z),λu eu=>?_⟩⟩
 rw [err] at eu
 cases eu
 refine ⟨r,hs,rfl,ra,hp.1,(λz=>absurd z (by lia)),λ_=>⟨sm,(λz=>absurd z (by have:=hp.2.2;lia)),λ_=>⟨(λz=>absurd hp.2.1.2.2.2 z),λ_ H' p t' wd=>?_⟩⟩⟩
 have rg:=hp.rng
 obtain ⟨o',nx,v',kb⟩:=v.walk (w:=⟨wh,wg t b,[([.inl (wg t b).1,.inl (wg t b).2],.int 1)]⟩) wd (TmOk.one rg.1 rg.2.1 rg.2.2.1 rg.2.2.2) er hp
 exact k H' o' nx v' kb
theorem VH.leaves {C CR CW CN:Aj}{H:Hp}{o:Ho}{a:AH}{as:List AH}{n:Str}{w:Wk}{Q:VK}{E:XK}(v:VH C CR CW H o (a::as)){NM:List Str}(nm:Nam NM a)(lN:NM.length≤100)(lD:o.ds.length≤10000)(en:a.ws n=some w)
  (k:∀H' o',Nxt H o o'→VH C CR CW H' o' (a.delW n::a::as)→Kb [o.dr,o.dw,o.dd] H H'→Q .non H'):Yq C CN [.ref o.x,.str n] H Q E:=by
 obtain ⟨y,p,t,ey,wk⟩:=v.rep.wk en
 have lens:=v.lens nm
 refine ⟨o.x,o.dr,o.dw,o.dd,o.R,o.W,_,n,rfl,v.h.hs,by lia,by lia,by rw [j6];lia,(λz=>by rw [ey] at z;cases z),λ_ H' gd=>?_⟩
 obtain ⟨o',nx,v',kb⟩:=v.leave en gd
 exact k H' o' nx v' kb
theorem Q6 {a:AH}{n m:Str}{w:Wk}(h:m≠n):(a.putW n w).ws m=a.ws m:=af h
def J1 (c:Key×V):Str:=match c.1 with | .inr n=>n | .inl _ => ""
theorem Wp {W:List (Key×V)}(nd:(W.map (·.1)).Nodup)(h:RefsF (wc W)):W.map (·.1)=(W.map J1).map Sum.inr∧(W.map J1).Nodup:=by
 have e:W.map (·.1)=(W.map J1).map Sum.inr:=by
  rw [bU]
  refine bS λc hc=>?_
  obtain ⟨n,_,e,_⟩:=h _ _ (km nd hc)
  show c.1=Sum.inr (J1 c)
  unfold J1
  rw [e]
 refine ⟨e,?_⟩
 rw [e] at nd
 exact (bu.mp nd).imp λ{x y} hxy z=>hxy (by rw [z])
noncomputable def AH.tog (a:AH) (whose:Str) (hs:List Int) (m:Nat) (tv:Str→List (List Key×V)):AH:={ a with ws:=λn=>match a.ws n with|none=>none|some w=>if w.wh=whose then some ⟨whose,itP hs w.pt m,tv n⟩ else some w }
theorem VH.togs {C CR CW CN CC:Aj}{H:Hp}{o:Ho}{a:AH}{as:List AH}{whose:Str}{hs:List Int}{m:Int}{Q:VK}{E:XK}(v:VH C CR CW H o (a::as)){NM:List Str}(nm:Nam NM a)(lN:NM.length<60)(lD:o.ds.length≤10000)(er:a.rs whose=some hs)(wi:Within m 0 (some 1000000000000000000000000000000000000000000000000000000000000))
  (k:∀l H' o' tv,Nxt H o o'→VH C CR CW H' o' (a.tog whose hs m.toNat tv::a::as)→(∀n w,a.ws n=some w→w.wh=whose→TmOk (tv n)∧qwq hs w.pt m.toNat w.tv (tv n))→Kb [o.dr,o.dw,o.dd] H H'→H l=none→(∃(ms:List Str) (ys:List V),ms.Nodup∧(∀n,n∈ms↔∃w,a.ws n=some w∧w.wh=whose)∧ms.Pairwise (λx y=>¬ y.cps.toList<x.cps.toList)∧H' l=some (.lst ys)∧ys.length=ms.length∧∀(j:Nat) n,ms[j]?=some n→∃q p w,a.ws n=some w∧ys[j]?=some (.ref q)∧H' q=some (.tup [.str n,.ref p])∧H' p=some (.tup [.int (itP hs w.pt m.toNat).1,.int (itP hs w.pt m.toNat).2]))→Q (.ref l) H'):qug C CR CW CN CC [.ref o.x,.str whose,.int m] H Q E:=by
 obtain ⟨r,err,ra⟩:=v.rep.road er
 have lens:=v.lens nm
 refine ⟨o.x,o.dr,o.dw,o.dd,o.R,o.W,_,whose,m,rfl,v.h.hs,by lia,by rw [j6];lia,(λz=>by rw [err] at z;cases z),λu eu=>?_⟩
 rw [err] at eu
 cases eu
 refine ⟨r,hs,rfl,ra,(λz=>absurd wi z),λ_=>?_⟩
 obtain ⟨ek,ndk⟩:=Wp v.h.nW v.h.fW
 have inW:∀n,n∈o.W.map J1↔∃w,a.ws n=some w:=λn=>by
  have:n∈o.W.map J1↔(Sum.inr n:Key)∈o.W.map (·.1):=by
   rw [ek]
   exact ⟨λh=>ao.mpr ⟨n,h,rfl⟩,λh=>by
    obtain ⟨n',h',e⟩:=ao.mp h
    have e:n'=n:=by injection e
    rw [←e];exact h'⟩
  rw [this]
  constructor
  ·intro h
   obtain ⟨c,hc,e⟩:=ao.mp h
   have:=km v.h.nW hc
   rw [e] at this
   cases e2:a.ws n with
   |none=>rw [v.rep.noW e2] at this;cases this
   |some w=>exact ⟨w,rfl⟩
  ·rintro ⟨w,e⟩
   obtain ⟨y,p,t,ey,_⟩:=v.rep.wk e
   exact ao.mpr ⟨_,qzr ey,rfl⟩
 refine ⟨o.W.map J1,λn=>match a.ws n with | some w=>w.wh | none => "",λn=>match a.ws n with | some w=>w.pt | none=>(0,0),λn=>match a.ws n with | some w=>w.tv | none=>[],⟨ek,by lia,ndk,λn hn=>?_⟩,λn hn hw=>?_,λH' l cs ms ys pm srt g ec hG nl fl ly hy=>?_⟩
 ·obtain ⟨w,e⟩:=(inW n).mp hn
  obtain ⟨y,p,t,ey,wk⟩:=v.rep.wk e
  simp only [e]
  exact ⟨(v.rep.ok.wo n w e).1,y,p,t,ey,wk⟩
 ·obtain ⟨w,e⟩:=(inW n).mp hn
  simp only [e] at hw ⊢
  obtain ⟨_,hs',er',hp⟩:=v.rep.ok.wo n w e
  rw [hw,er] at er'
  cases er'
  exact hp
 ·have hms:∀n,n∈(ms.filter λs=>decide (V.str (match a.ws s with | some w=>w.wh | none => "")=V.str whose))↔∃w,a.ws n=some w∧w.wh=whose:=λn=>by
   rw [bA,pm.mem_iff,inW]
   constructor
   ·rintro ⟨⟨w,e⟩,h⟩
    simp only [e] at h
    have h:=dA h
    exact ⟨w,e,by injection h⟩
   ·rintro ⟨w,e,h⟩
    refine ⟨⟨w,e⟩,?_⟩
    simp [e,h]
  have ndm:ms.Nodup:=pm.nodup_iff.mpr ndk
  have ndf:=ndm.filter λs=>decide (V.str (match a.ws s with | some w=>w.wh | none => "")=V.str whose)
  have srf:=srt.filter λs=>decide (V.str (match a.ws s with | some w=>w.wh | none => "")=V.str whose)
  generalize (ms.filter λs=>decide (V.str (match a.ws s with | some w=>w.wh | none => "")=V.str whose))=mf at ec hms ndf srf
  have ndc:(cs.map (·.1)).Nodup:=by
   rw [ec]
   exact bu.mpr (ndf.imp λ{x y} h z=>h (by injection z))
  have lcs:cs.length=mf.length:=by
   have:=bI List.length ec
   rwa [ae,ae] at this
  have lmf:mf.length≤o.W.length:=by
   have:=qx7 mf (o.W.map J1) ndf λn hn=>(inW n).mpr (by obtain ⟨w,e,_⟩:=(hms n).mp hn;exact ⟨w,e⟩)
   rwa [ae] at this
  have gone:∀n w,a.ws n=some w→w.wh=whose→∃y p t tv,wc cs (.inr n)=some (.ref y)∧WkAt CW H' y whose p (itP hs w.pt m.toNat) t tv∧TmOk tv∧qwq hs w.pt m.toNat w.tv tv:=λn w e h=>by
   have hk:(Sum.inr n:Key)∈cs.map (·.1):=by
    rw [ec]
    exact ao.mpr ⟨n,(hms n).mpr ⟨w,e,h⟩,rfl⟩
   obtain ⟨c,hc,ekc⟩:=ao.mp hk
   have ev:=km ndc hc
   obtain ⟨s,_,_,es,y,p,t,tv,ey,wk,tm,hit⟩:=hG c hc
   have:s=n:=by rw [es] at ekc;injection ekc
   subst this
   simp only [e] at wk hit
   rw [es,ey] at ev
   exact ⟨y,p,t,tv,ev,wk,tm,hit⟩
  have nogo:∀n,(∀w,a.ws n=some w→w.wh≠whose)→wc cs (.inr n)=none:=λn h=>Jj λz=>by
   rw [ec] at z
   obtain ⟨n',hn',e⟩:=ao.mp z
   have e:n'=n:=by injection e
   rw [e] at hn'
   obtain ⟨w,ew,hw⟩:=(hms n).mp hn'
   exact h w ew hw
  obtain ⟨tv,htv⟩:∃tv:Str→List (List Key×V),∀n w,a.ws n=some w→w.wh=whose→∃y p t,wc cs (.inr n)=some (.ref y)∧WkAt CW H' y whose p (itP hs w.pt m.toNat) t (tv n)∧TmOk (tv n)∧qwq hs w.pt m.toNat w.tv (tv n):=by
   refine ⟨λn=>Classical.epsilon λtv=>∃w y p t,a.ws n=some w∧wc cs (.inr n)=some (.ref y)∧WkAt CW H' y whose p (itP hs w.pt m.toNat) t tv∧TmOk tv∧qwq hs w.pt m.toNat w.tv tv,λn w e h=>?_⟩
   have ex:∃tv,∃w y p t,a.ws n=some w∧wc cs (.inr n)=some (.ref y)∧WkAt CW H' y whose p (itP hs w.pt m.toNat) t tv∧TmOk tv∧qwq hs w.pt m.toNat w.tv tv:=by
    obtain ⟨y,p,t,tv,r⟩:=gone n w e h
    exact ⟨tv,w,y,p,t,e,r⟩
   obtain ⟨w',y,p,t,e',r⟩:=Classical.epsilon_spec ex
   rw [e] at e'
   cases e'
   exact ⟨y,p,t,r⟩
  have rc:yk cs:=λc hc=>by
   obtain ⟨s,_,_,es,y,_,_,_,ey,_⟩:=hG c hc
   exact ⟨s,es,.inr ⟨y,ey⟩⟩
  obtain ⟨o',nx,v',kb⟩:=v.did (a':=a.tog whose hs m.toNat tv) g aY ndc (aB _) (by lia) Wu rc qzk (λc hc hn=>by
   obtain ⟨s,_,_,es,y,_,_,_,ey,_⟩:=hG c hc
   rw [ey] at hn;cases hn) λkb=>by
   have rp:=v.rep.dl v.h.dl kb
   refine ⟨rp.r,λn=>?_,rp.ok.lo,λn w' e'=>?_⟩
   ·show WRep CW H' (ovr (wc o.W) cs (.inr n)) (match a.ws n with|none=>none|some w=>if w.wh=whose then some ⟨whose,itP hs w.pt m.toNat,tv n⟩ else some w)
    have rw_:=rp.w n
    cases e:a.ws n with
    |none =>
     rw [e] at rw_
     unfold ovr
     rw [nogo n (λw ew=>by rw [e] at ew;cases ew)]
     exact rw_
    |some w =>
     rw [e] at rw_
     show WRep CW H' (ovr (wc o.W) cs (.inr n)) (if w.wh=whose then some ⟨whose,itP hs w.pt m.toNat,tv n⟩ else some w)
     by_cases h:w.wh=whose
     ·rw [aj h]
      obtain ⟨y,p,t,ev,wk,_⟩:=htv n w e h
      unfold ovr
      rw [ev]
      exact ⟨y,p,t,rfl,wk⟩
     ·rw [af h]
      unfold ovr
      rw [nogo n (λw' ew=>by rw [e] at ew;cases ew;exact h)]
      exact rw_
   ·have e':(match a.ws n with|none=>none|some w=>if w.wh=whose then some ⟨whose,itP hs w.pt m.toNat,tv n⟩ else some w)=some w':=e'
    cases e:a.ws n with
    |none=>rw [e] at e';cases e'
    |some w =>
     rw [e] at e'
     have e':(if w.wh=whose then some ⟨whose,itP hs w.pt m.toNat,tv n⟩ else some w)=some w':=e'
     by_cases h:w.wh=whose
     ·rw [aj h] at e'
      cases e'
      obtain ⟨_,_,_,_,_,tm,_⟩:=htv n w e h
      obtain ⟨_,hs',er',hp⟩:=rp.ok.wo n w e
      rw [h,er] at er'
      cases er'
      exact ⟨tm,hs,er,hp.it _⟩
     ·rw [af h] at e'
      have e':w=w':=by injection e'
      rw [←e']
      exact rp.ok.wo n w e
  refine k l H' o' tv nx v' (λn w e h=>by obtain ⟨_,_,_,_,_,r⟩:=htv n w e h;exact r) kb nl ⟨mf,ys,ndf,hms,srf,fl,by lia,λj n en=>?_⟩
  have hj:j<mf.length:=(aT.mp en).1
  have ej:ys[j]?=some (ys[j]'(by lia)):=au (by lia)
  obtain ⟨kv,q,y,p,pt,t,tv',ekv,eq,fq,ey,wk⟩:=hy j _ ej
  have hkv:=aX ekv
  obtain ⟨s,_,hws,es,y2,p2,t2,tv2,ey2,wk2,_⟩:=hG kv hkv
  have:s=n:=by
   have e1:(cs.map (·.1))[j]?=some kv.1:=by rw [aK,ekv];rfl
   rw [ec,aK,en] at e1
   have e1:(Sum.inr n:Key)=kv.1:=by injection e1
   rw [es] at e1
   injection e1 with e1
   exact e1.symm
  subst this
  obtain ⟨w,ew,hw⟩:=(hms s).mp (aX en)
  simp only [ew] at wk2
  rw [ey] at ey2
  cases ey2
  have ep:p2=p:=by
   obtain ⟨dx,ob⟩:=wk.ob
   obtain ⟨dx2,ob2⟩:=wk2.ob
   rw [ob] at ob2
   injection ob2 with ob2
   injection ob2 with _ _ ob2
   unfold wF at ob2
   simp at ob2
   exact ob2.1.symm
  subst ep
  rw [es] at fq
  exact ⟨q,p2,w,ew,by rw [ej,eq],fq,wk2.pt⟩
def AH.nil:AH:=⟨λ_=>none,λ_=>none⟩
theorem VH.nil {C CR CW:Aj}{H:Hp}{x dr dw dd:Aj}(h:Hse C H x dr dw dd [] [] []):VH C CR CW H ⟨x,dr,dw,dd,[],[],[]⟩ [AH.nil] :=
 ⟨⟨h,(λd hd=>nomatch hd),(λq hq=>nomatch hq),trivial,aY,aY,(λm v e=>nomatch e),(λm v e=>nomatch e)⟩,⟨⟨(λ_=>rfl),(λ_=>rfl),⟨(λ_ _ e=>nomatch e),(λ_ _ e=>nomatch e)⟩⟩,.inl ⟨rfl,rfl⟩⟩⟩
theorem Nam.nil {NM:List Str}:Nam NM AH.nil:=⟨(λ_ e=>nomatch e),(λ_ e=>nomatch e)⟩
theorem Nam.putR {NM:List Str}{a:AH}(h:Nam NM a){n:Str}(hn:n∈NM)(hs:List Int):Nam NM (a.putR n hs):=⟨λm e=>by
 have e:(if m=n then some hs else a.rs m).isSome=true:=e
 by_cases z:m=n
 ·rw [z];exact hn
 ·rw [af z] at e
  exact h.r m e,h.w⟩
theorem u8 {a:AH}{n:Str}{hs:List Int}:(a.putR n hs).rs n=some hs:=aj rfl
theorem Q5 {a:AH}{n m:Str}{hs:List Int}(h:m≠n):(a.putR n hs).rs m=a.rs m:=af h
theorem Rep.putR {CR CW:Aj}{H:Hp}{f g:Key→Option V}{a:AH}(h:Rep CR CW H f g a){n:Str}{hs:List Int}{r:Aj}(ra:RoadAt CR H r hs)(lo:xj hs)(hw:∀m w,a.ws m=some w→w.wh=n→HPt hs w.pt):Rep CR CW H (ovr f [(.inr n,.ref r)]) (ovr g []) (a.putR n hs):=by
 refine ⟨λm=>?_,h.w,λm hs' e=>?_,λm w e=>?_⟩
 ·rw [qx4]
  show RRep CR H _ (if m=n then some hs else a.rs m)
  by_cases z:m=n
  ·rw [aj z,aj (by rw [z]),af (λq=>by cases q)]
   exact ⟨r,rfl,ra⟩
  ·rw [af z,af (λq=>z (by injection q))]
   exact h.r m
 ·have e:(if m=n then some hs else a.rs m)=some hs':=e
  by_cases z:m=n
  ·rw [aj z] at e
   cases e
   exact lo
  ·rw [af z] at e
   exact h.ok.lo m hs' e
 ·obtain ⟨tm,hs',er,hp⟩:=h.ok.wo m w e
  by_cases z:w.wh=n
  ·exact ⟨tm,hs,aj z,hw m w e z⟩
  ·exact ⟨tm,hs',(af z).trans er,hp⟩
theorem VH.road {C CR CW:Aj}{H H':Hp}{o:Ho}{a:AH}{as:List AH}(v:VH C CR CW H o (a::as)){n:Str}{hs:List Int}(g:RDeed C CR H H' o.x o.dr o.dw o.dd o.R o.W (yd o.ds) n hs)(lo:xj hs)(hw:∀m w,a.ws m=some w→w.wh=n→HPt hs w.pt):∃o',Nxt H o o'∧VH C CR CW H' o' (a.putR n hs::a::as)∧Kb [o.dr,o.dw,o.dd] H H':=by
 obtain ⟨r,gd,ra⟩:=g.g
 exact v.did gd quk aY (show 1≤1000 by decide) (aB _) qjz Wu wxu qzk λkb=>(v.rep.dl v.h.dl kb).putR ra lo hw
theorem VH.lays {K:Aa}{C CR CW CN CT CL:Aj}{H:Hp}{o:Ho}{a:AH}{as:List AH}{n:Str}{hs:List Int}{p:Aj}{Q:VK}{E:XK}(v:VH C CR CW H o (a::as)){NM:List Str}(nm:Nam NM a)(lN:NM.length≤100)(lD:o.ds.length≤10000)(nn:jv n=true)(ln:n.length≤1000)(en:a.rs n=none)(fp:H p=some (.lst (hs.map V.int)))(lo:xj hs)
  (k:∀H' o',Nxt H o o'→VH C CR CW H' o' (a.putR n hs::a::as)→Kb [o.dr,o.dw,o.dd] H H'→Q .non H'):wqb K C CR CN CT CL [.ref o.x,.str n,.ref p] H Q E:=by
 have vn:=v.rep.noR en
 have lens:=v.lens nm
 refine ⟨o.x,o.dr,o.dw,o.dd,p,o.R,o.W,_,n,hs,rfl,v.h.hs,uc _,by lia,by lia,by rw [j6];lia,ln,fp,λ_ _ _ H' rd=>?_,(λz=>by rw [nn] at z;cases z),(λ_ z=>by rw [vn] at z;cases z),λ_ _ z=>absurd lo z⟩
 obtain ⟨o',nx,v',kb⟩:=v.road rd lo λm w e hw=>by
  obtain ⟨_,hs',er,_⟩:=v.rep.ok.wo m w e
  rw [hw,en] at er
  cases er
 exact k H' o' nx v' kb
end
section
variable {P:Ac}{w:Ah}{K:Aa}{mg:Str→Option Ag}{base:Heap}{qd:Aj}{qm:Aj}{qx:Aj}{qp:Aj}{qf:Aj}{wz:Aj}{wv:Aj}{qr:Aj}{wy:Aj}{q8:Aj}{qj:Aj}{wb:Aj}{qz:Aj}{qu:Aj}{qw:Aj}{qq:Aj}
theorem wvu {L:Nat}(hL:0<L)(x:Nat):(x+1)/L=x/L+if (x+1)%L=0 then 1 else 0:=by
 have h1:=fC x L
 have h2:=ca x hL
 have e:x+1=L*(x/L)+(x%L+1):=by lia
 have d:(x+1)/L=x/L+(x%L+1)/L:=(bI (·/L) e).trans (Nat.mul_add_div hL _ _)
 have m:(x+1)%L=(x%L+1)%L:=(bI (·%L) e).trans (Nat.mul_add_mod ..)
 rw [d,m]
 rcases (by lia:x%L+1<L∨x%L+1=L) with z|z
 ·rw [Nat.div_eq_of_lt z,bW z,af (by lia)]
 ·rw [z,Nat.div_self hL,Nat.mod_self,aj rfl]
def fS (n u m:Nat):Nat:=if m<n then m else u+(m-u)%(n-u)
theorem qw1 {n u m f:Nat}(h:m<f):stN n u m f=0:=aj h
theorem qv8 {n u m f:Nat}(h:f≤m)(h2:f<u):stN n u m f=1-(if f=0 then 1 else 0):=by
 unfold stN
 rw [af (by lia),aj h2]
theorem wxn {n u m f:Nat}(h:f≤m)(h2:u≤f):stN n u m f=(m-f)/(n-u)+1-(if f=0 then 1 else 0):=by
 unfold stN
 rw [af (by lia),af (by lia)]
theorem fS_a {n u m:Nat}(h:m<n):fS n u m=m:=aj h
theorem fS_b {n u m:Nat}(h:n≤m):fS n u m=u+(m-u)%(n-u):=af (by lia)
theorem wv1 {n u m f:Nat}(hu:u<n)(hf:f<n):stN n u (m+1) f=stN n u m f+if f=fS n u (m+1) then 1 else 0:=by
 have hL:0<n-u:=by lia
 have lt:=ca (m+1-u) hL
 by_cases hfu:f<u
 ·by_cases c1:m+1<n
  ·rw [fS_a c1]
   by_cases c2:f=m+1
   ·rw [aj c2,qv8 (by lia) hfu,qw1 (by lia),af (by lia)]
   ·rw [af c2]
    by_cases c3:m<f
    ·rw [qw1 (by lia),qw1 c3]
    ·rw [qv8 (by lia) hfu,qv8 (by lia) hfu]
     rfl
  ·rw [fS_b (by lia),af (show ¬ f=u+(m+1-u)%(n-u) by lia),qv8 (by lia) hfu,qv8 (by lia) hfu]
   rfl
 ·rcases (by lia:m+1<f∨m+1=f∨f<m+1) with z|z|z
  ·rw [qw1 z,qw1 (by lia),fS_a (by lia),af (by lia)]
  ·rw [wxn (by lia) (by lia),qw1 (by lia),fS_a (by lia),aj z.symm,af (by lia),show m+1-f=0 by lia,Nat.zero_div]
  ·rw [wxn (by lia) (by lia),wxn (by lia) (by lia),show m+1-f=m-f+1 by lia,wvu hL]
   have key:f=fS n u (m+1)↔(m-f+1)%(n-u)=0:=by
    by_cases c1:m+1<n
    ·rw [fS_a c1,bW (by lia)]
     lia
    ·rw [fS_b (by lia)]
     have e:m+1-u=(m-f+1)+(f-u):=by lia
     have e2:(m+1-u)%(n-u)=((m-f+1)%(n-u)+(f-u))%(n-u):=by rw [e,Nat.add_mod,bW (show f-u<n-u by lia)]
     have l2:=ca (m-f+1) hL
     rw [e2]
     rcases (by lia:(m-f+1)%(n-u)+(f-u)<n-u∨n-u≤(m-f+1)%(n-u)+(f-u)) with y|y
     ·rw [bW y]
      lia
     ·rw [Nat.mod_eq_sub_mod y,bW (by lia)]
      lia
   by_cases c:(m-f+1)%(n-u)=0
   ·rw [aj c,aj (key.mpr c)]
    generalize (m-f)/(n-u)=D
    split <;> lia
   ·rw [af c,af λy=>c (key.mp y)]
    rfl
theorem fS_lt {n u m:Nat}(hu:u<n):fS n u m<n:=by
 have:=ca (m-u) (show 0<n-u by lia)
 unfold fS
 split <;> lia
def qwz (hs:List Int)(pt q:Int×Int):Nat→Int
 |0=>0
 |m+1=>qwz hs pt q m+if itP hs pt (m+1)=q then 1 else 0
theorem it_fS {hs:List Int}{pt:Int×Int}{n u:Nat}(hu:u<n)(e:itP hs pt n=itP hs pt u)(j:Nat):itP hs pt j=itP hs pt (fS n u j):=by
 unfold fS
 split
 ·rfl
 ·exact per qut hu e j (by lia)
theorem wqp {hs:List Int}{pt:Int×Int}{n u f:Nat}(d:Dist (itP hs pt) n)(hu:u<n)(e:itP hs pt n=itP hs pt u)(hf:f<n):∀m,(stN n u m f:Int)=qwz hs pt (itP hs pt f) m
 |0=>by
  show _=(0:Int)
  unfold stN
  by_cases z:0<f
  ·rw [aj z];rfl
  ·have z:f=0:=by lia
   subst z
   rw [af (aS 0),aj rfl,Nat.sub_self,Nat.zero_div]
   split <;> rfl
 |m+1=>by
  rw [wv1 hu hf]
  show _=qwz hs pt (itP hs pt f) m+if itP hs pt (m+1)=itP hs pt f then 1 else 0
  rw [←wqp d hu e hf m,it_fS hu e (m+1)]
  have lt:=fS_lt (m:=m+1) hu
  by_cases z:f=fS n u (m+1)
  ·rw [aj z,←z,aj rfl];rfl
  ·rw [af z,af (λy=>?_)]
   ·rfl
   ·rcases Nat.lt_trichotomy f (fS n u (m+1)) with x|x|x
    ·exact d _ _ x lt y.symm
    ·exact z x
    ·exact d _ _ x hf y
theorem qk1 {hs:List Int}{pt q:Int×Int}{n u:Nat}(hu:u<n)(e:itP hs pt n=itP hs pt u)(h:∀f,f<n→itP hs pt f≠q):∀m,qwz hs pt q m=0
 |0=>rfl
 |m+1=>by
  show qwz hs pt q m+(if itP hs pt (m+1)=q then 1 else 0)=0
  rw [qk1 hu e h m,it_fS hu e (m+1),af (h _ (fS_lt hu))]
  rfl
theorem qkf {hs:List Int}{pt:Int×Int}{m:Nat}{tv tv':List (List Key×V)}(h:qwq hs pt m tv tv')(q:Int×Int):k4 tv' q=k4 tv q+qwz hs pt q m:=by
 obtain ⟨n,u,_,d,hu,e,h1,h2⟩:=h
 by_cases z:∃f,f<n∧itP hs pt f=q
 ·obtain ⟨f,hf,rfl⟩:=z
  rw [h1 f hf,wqp d hu e hf m]
 ·have z:∀f,f<n→itP hs pt f≠q:=λf hf y=>z ⟨f,hf,y⟩
  rw [h2 q z,qk1 hu e z m,Int.add_zero]
theorem wxd {α:Type}{g:Nat→α}:∀ {N:Nat},¬ Dist g N→∃n u,Dist g n∧u<n∧g n=g u
 |0,h=>absurd (λi j _ z=>absurd z (dW _)) h
 |N+1,h=>by
  by_cases d:Dist g N
  ·by_cases z:∃u,u<N∧g N=g u
   ·obtain ⟨u,hu,e⟩:=z
    exact ⟨N,u,d,hu,e⟩
   ·refine absurd (λi j hij hj e=>?_) h
    rcases (by lia:j<N∨j=N) with y|y
    ·exact d i j hij y e
    ·subst y
     exact z ⟨i,hij,e.symm⟩
  ·exact wxd d
def yz (H:Hp)(a:Aj)(pt:Int×Int):Prop:=H a=some (.tup [.int pt.1,.int pt.2])
theorem sz3 {x y z:V}:[x,y,z].length≤sizeLine:=by show 3≤sizeLine;decide
structure Sp6 (hs:List Int)(pt:Int×Int):Prop where
 h:HPt hs pt
 b:pt.2≤6
 l:hs.length≤20
theorem Sp6.it {hs:List Int}{pt:Int×Int}(h:Sp6 hs pt)(n:Nat):Sp6 hs (itP hs pt n):=⟨h.h.it n,by
 have:=(wqs h.h.1 h.h.2.1 n).2.1
 have:=h.b
 lia,h.l⟩
theorem Sp6.ret {hs:List Int}{pt:Int×Int}(h:Sp6 hs pt):∃n u,u<n∧itP hs pt n=itP hs pt u∧u<140:=by
 obtain ⟨n,u,d,hu,e⟩:=wxd h.h.short
 have:=wjm h.h.1 h.h.2.1 d
 have b:=h.b
 have l:=h.l
 have o:=h.h.1.1
 have b1:=h.h.2.1.1
 have:((hs.length:Int)-1)*pt.2≤19*6:=Int.mul_le_mul (by lia) b (by lia) (by lia)
 exact ⟨n,u,hu,e,by lia⟩
def wvd (K:Aa):Sp:=λvs H Q _=>∃(p a c:Aj) (hs:List Int) (pt pt':Int×Int),vs=[.ref p,.ref a,.ref c]∧SqL K H p (hs.map V.int)∧yz H a pt∧yz H c pt'∧Sp6 hs pt∧Sp6 hs pt' ∧
 (∀m:Nat,(∀j,j<m→itP hs pt j≠itP hs pt' j)→itP hs pt m=itP hs pt' m→∀H',Same H H'→Q (.int m) H')∧((∀j,itP hs pt j≠itP hs pt' j)→∀H',Same H H'→Q .non H')
set_option maxHeartbeats 0 in
theorem ok_met {f:Aj}{fd:Ad}(F:Fun K "_law_met" "_law_met" s__law_met f fd)(T:Txt K mg qd qm qx qp qf wz wv qr wy q8 qj wb qz qu qw qq)(c__law_low:Cal P w K mg base "_law_low" 2 qws)(c__law_step:Cal P w K mg base "_law_step" 1 (qzs K)) :
  FnOk P w K mg base (CXE P w) 3 f fd ["_law_heights_here","_law_one","_law_other"] (wvd K):=by
 have sc:=qkz
 refine F.okX sc (λvs H Q E h=>by obtain ⟨p,a,c,hs,pt,pt',rfl,_⟩:=h;rfl) (λcdv A outer s H vs Q E hr h=>?_)
 obtain ⟨p,a,c,hs,pt,pt',rfl,hp,ha,hc,h1,h2,k1,k2⟩:=h
 have ok:=h1.h.1
 refine ⟨_,(qb (jj aP rfl (vz rfl T.range_ (xx wx qk)) (xu (i:=3) sc.nd rfl (by walk_at "loc")) (qb (x4 (wn (qzy hr.units) (pv 1) (pv 2) (w9 _)) (wq (wp (pv 3))) xy)
   (qb (w6 (i:=1) sc.nd rfl (by walk_at "loc") (wf c__law_low (hr.mono (by decide)) rfl qy (kj (wf c__law_step (hr.mono (by decide)) rfl qy (q9 (pv 0) (zh (zq zd (pv 1) wx (λ_ _=>rfl)) (zh (zq zd (pv 1) wx (λ_ _=>rfl)) qk)))) (zh (zq zd (pv 1) wx (λ_ _=>rfl)) qk))))
   (wq (w6 (i:=2) sc.nd rfl (by walk_at "loc") (wf c__law_low (hr.mono (by decide)) rfl qy (kj (wf c__law_step (hr.mono (by decide)) rfl qy (q9 (pv 0) (zh (zq zd (pv 2) wx (λ_ _=>rfl)) (zh (zq zd (pv 2) wx (λ_ _=>rfl)) qk)))) (zh (zq zd (pv 2) wx (λ_ _=>rfl)) qk))))))))
   (wq (wp qqh))),?_⟩
 refine exI rfl ⟨(by decide),(by decide),jn (λj σ H1=>Same H H1∧(∀i,i<j→itP hs pt i≠itP hs pt' i)∧∃a' c' z,σ=[some (.ref p),some (.ref a'),some (.ref c'),z]∧yz H1 a' (itP hs pt j)∧yz H1 c' (itP hs pt' j)) ⟨Same.refl _,λi z=>absurd z (by lia),a,c,_,rfl,ha,hc⟩ ?_ ?_⟩
 ·rintro j σ H1 hj ⟨s1,hmin,a',c',z,rfl,ha',hc'⟩
  refine exI rfl (exI rfl ⟨_,_,qqc (q:=itP hs pt j) (SqT.of ha'),qqc (q:=itP hs pt' j) (SqT.of hc'),rfl,rfl,qux,_,rfl,?_⟩)
  show if PyData.eqv (ptD (itP hs pt j)) (ptD (itP hs pt' j))=true then _ else _
  rw [qvq]
  refine k6 (λe=>?_) (λe=>?_)
  ·refine exI rfl ?_
   rw [Int.zero_add]
   exact k1 j hmin e _ s1
  ·have i1:=h1.it j
   have i2:=h2.it j
   have r1:=i1.h.rng
   have r2:=i2.h.rng
   refine exI rfl (exI rfl (exX rfl rfl (SqT.of ha') rfl (exI rfl (exX rfl rfl (SqT.of ha') rfl ⟨p,hs,(itP hs pt j).1,(itP hs pt j).2,rfl,s1.sql hp,ok,r1.2.2.1,(Sm.small (n:=65) (by lia) (by lia) (by decide)).mono (by decide),i1.h.2.1.2.2.2,?_⟩))))
   refine exI rfl (exX rfl rfl (SqT.of ha') rfl ⟨_,_,rfl,r1.2.2.1,(Sm.small (n:=65) (by lia) (by lia) (by decide)).mono (by decide),λqa na=>?_⟩)
   have s2:=Same.upd (H:=H1) (o:=.tup (ptV (wg (v8 hs (itP hs pt j).1 (itP hs pt j).2) (itP hs pt j).2))) na
   have f2:upd H1 qa (.tup (ptV (wg (v8 hs (itP hs pt j).1 (itP hs pt j).2) (itP hs pt j).2))) qa=some (.tup [.int (itP hs pt (j+1)).1,.int (itP hs pt (j+1)).2]):=qh
   generalize upd H1 qa (.tup (ptV (wg (v8 hs (itP hs pt j).1 (itP hs pt j).2) (itP hs pt j).2)))=H2 at s2 f2
   have hc2:=s2 _ _ hc'
   refine exI rfl (exI rfl (exX rfl rfl (SqT.of hc2) rfl (exI rfl (exX rfl rfl (SqT.of hc2) rfl ⟨p,hs,(itP hs pt' j).1,(itP hs pt' j).2,rfl,(s1.trans s2).sql hp,ok,r2.2.2.1,(Sm.small (n:=65) (by lia) (by lia) (by decide)).mono (by decide),i2.h.2.1.2.2.2,?_⟩))))
   refine exI rfl (exX rfl rfl (SqT.of hc2) rfl ⟨_,_,rfl,r2.2.2.1,(Sm.small (n:=65) (by lia) (by lia) (by decide)).mono (by decide),λqc nc=>?_⟩)
   have s3:=Same.upd (H:=H2) (o:=.tup (ptV (wg (v8 hs (itP hs pt' j).1 (itP hs pt' j).2) (itP hs pt' j).2))) nc
   refine ⟨(s1.trans s2).trans s3,λi hi=>?_,qa,qc,_,rfl,s3 _ _ f2,qh⟩
   rcases (by lia:i<j∨i=j) with y|y
   ·exact hmin i y
   ·subst y;exact e
 ·rintro σ H1 ⟨s1,hmin,a',c',z,rfl,_,_⟩
  obtain ⟨n,u,hu,e,hl⟩:=h1.ret
  obtain ⟨n',u',hu',e',hl'⟩:=h2.ret
  exact k2 (never hu e hu' e' hl hl' hmin) _ s1
end
section
variable {P:Ac}{w:Ah}{K:Aa}{mg:Str→Option Ag}{base:Heap}{qd:Aj}{qm:Aj}{qx:Aj}{qp:Aj}{qf:Aj}{wz:Aj}{wv:Aj}{qr:Aj}{wy:Aj}{q8:Aj}{qj:Aj}{wb:Aj}{qz:Aj}{qu:Aj}{qw:Aj}{qq:Aj}
structure BkAt (H:Hp)(bk:Aj)(kvs:List (Key×V))(a:AH)(tq:Int×Int):Prop where
 at_:H bk=some (.dK kvs)
 ln:kvs.length≤50
 rs:∀n hs,a.rs n=some hs→∃l,wc kvs (.inr n)=some (.ref l)∧H l=some (.lst (hs.map V.int))∧xj hs
 ws:∀n w,a.ws n=some w→∃q sp,wc kvs (.inr n)=some (.ref q)∧H q=some (.tup [.str w.wh,.ref sp,.int (k4 w.tv tq)])∧yz H sp w.pt
 no:∀n,a.rs n=none→a.ws n=none→wc kvs (.inr n)=none
theorem BkAt.kb {H H':Hp}{bk:Aj}{kvs:List (Key×V)}{a:AH}{tq:Int×Int}(h:BkAt H bk kvs a tq){ch:List Aj}(d:Dl H ch)(k:Kb ch H H')(n:bk∉ch):BkAt H' bk kvs a tq:=by
 refine ⟨k _ _ n h.at_,h.ln,λm hs e=>?_,λm w e=>?_,h.no⟩
 ·obtain ⟨l,e1,e2,lo⟩:=h.rs m hs e
  exact ⟨l,e1,d.row k lo e2,lo⟩
 ·obtain ⟨q,sp,e1,e2,e3⟩:=h.ws m w e
  exact ⟨q,sp,e1,d.tup k e2,d.tup k e3⟩
theorem BkAt.same {H H':Hp}{bk:Aj}{kvs:List (Key×V)}{a:AH}{tq:Int×Int}(h:BkAt H bk kvs a tq)(s:Same H H'):BkAt H' bk kvs a tq:=h.kb Dl.nil (ch:=[]) (Kb.of s) am
theorem BkAt.get {H:Hp}{bk:Aj}{kvs:List (Key×V)}{a:AH}{tq:Int×Int}(h:BkAt H bk kvs a tq)(n:Str):DGet H bk (.str n) (wc kvs (.inr n)):=DGet.k (k:=.inr n) h.at_
def Y4 (K:Aa):Sp:=λvs H Q _=>∃(bk tg:Aj) (kvs:List (Key×V)) (a:AH) (tq:Int×Int) (n:Str) (m:Int) (w:Wk) (hs:List Int),vs=[.ref bk,.str n,.int m,.ref tg]∧BkAt H bk kvs a tq∧a.ws n=some w∧a.rs w.wh=some hs∧Sp6 hs w.pt∧yz H tg tq∧0≤m∧m≤100 ∧
 ∀q sp H',Same H H'→H' q=some (.tup [.str w.wh,.ref sp,.int (k4 w.tv tq+qwz hs w.pt tq m.toNat)])→yz H' sp (itP hs w.pt m.toNat)→Q (.ref q) H'
set_option maxHeartbeats 0 in
theorem qy6 {f:Aj}{fd:Ad}(F:Fun K "_law_walked" "_law_walked" s__law_walked f fd)(T:Txt K mg qd qm qx qp qf wz wv qr wy q8 qj wb qz qu qw qq)(c__law_low:Cal P w K mg base "_law_low" 2 qws)(c__law_step:Cal P w K mg base "_law_step" 1 (qzs K)) :
  FnOk P w K mg base (CXE P w) 3 f fd ["_law_book_here","_law_name","_law_many","_law_target"] (Y4 K):=by
 have sc:=qqq
 refine F.okX sc (λvs H Q E h=>by obtain ⟨bk,tg,kvs,a,tq,n,m,w,hs,rfl,_⟩:=h;rfl) (λcdv A outer s H vs Q E hr h=>?_)
 obtain ⟨bk,tg,kvs,a,tq,n,m,wk,hs,rfl,hb,en,er,h6,htg,m0,m1,k⟩:=h
 obtain ⟨q,sp,e1,fq,fsp⟩:=hb.ws n wk en
 obtain ⟨l,e2,fl,ok⟩:=hb.rs _ hs er
 have dg:=hb.get n
 rw [e1] at dg
 refine ⟨_,(qb (yx (zf (zy hr) (pv 0) (pv 1) (λ_ _=>rfl)) (ju rfl (xh (xu (i:=4) sc.nd rfl (by walk_at "loc")) (xh (xu (i:=5) sc.nd rfl (by walk_at "loc")) (xh (xu (i:=6) sc.nd rfl (by walk_at "loc")) vp)))))
   (qb (jj aP rfl (vz rfl T.range_ (q9 (pv 2) qk)) (xu (i:=7) sc.nd rfl (by walk_at "loc")) (qb (w6 (i:=5) sc.nd rfl (by walk_at "loc") (wf c__law_low (hr.mono (by decide)) rfl qy (kj (wf c__law_step (hr.mono (by decide)) rfl qy (zh (zf (zy hr) (pv 0) (pv 4) (λ_ _=>rfl)) (zh (zq zd (pv 5) wx (λ_ _=>rfl)) (zh (zq zd (pv 5) wx (λ_ _=>rfl)) qk)))) (zh (zq zd (pv 5) wx (λ_ _=>rfl)) qk))))
   (wq (ps_aug (i:=6) sc.nd rfl (Or.inl rfl) (vb wq6 rfl T.int_ PyProof.Rows.boot_int (xv (Qv (qzy hr.units) (pv 5) (pv 3) (w9 _)) qk)) ip_add))))
   (wq (wp (vw (q9 (pv 4) (q9 (pv 5) (q9 (pv 6) qk)))))))),?_⟩
 refine exI rfl (exI rfl ⟨bk,exI rfl ⟨dg,q,exI rfl ⟨SqT.of fq,rfl,_,_,rfl,_,_,rfl,_,_,rfl,rfl,?_⟩⟩⟩)
 refine exI rfl (exI rfl ⟨(by lia),(by lia),jn (λj σ H1=>Same H H1∧∃sp' z,σ=[some (.ref bk),some (.str n),some (.int m),some (.ref tg),some (.str wk.wh),some (.ref sp'),some (.int (k4 wk.tv tq+qwz hs wk.pt tq j)),z]∧yz H1 sp' (itP hs wk.pt j)) ⟨Same.refl _,sp,none,by show _=[_,_,_,_,_,_,some (V.int (k4 wk.tv tq+0)),none];rw [Int.add_zero];rfl,fsp⟩ ?_ ?_⟩)
 ·rintro j σ H1 hj ⟨s1,sp',z,rfl,hs'⟩
  have i1:=h6.it j
  have r1:=i1.h.rng
  have dg1:=(hb.same s1).get wk.wh
  rw [e2] at dg1
  refine exI rfl (exI rfl ⟨bk,exI rfl ⟨dg1,exI rfl (exX rfl rfl (SqT.of hs') rfl (exI rfl (exX rfl rfl (SqT.of hs') rfl ⟨l,hs,(itP hs wk.pt j).1,(itP hs wk.pt j).2,rfl,SqL.of (s1 _ _ fl),ok,r1.2.2.1,(Sm.small (n:=65) (by lia) (by lia) (by decide)).mono (by decide),i1.h.2.1.2.2.2,?_⟩)))⟩⟩)
  refine exI rfl (exX rfl rfl (SqT.of hs') rfl ⟨_,_,rfl,r1.2.2.1,(Sm.small (n:=65) (by lia) (by lia) (by decide)).mono (by decide),λqa na=>?_⟩)
  have s2:=Same.upd (H:=H1) (o:=.tup (ptV (wg (v8 hs (itP hs wk.pt j).1 (itP hs wk.pt j).2) (itP hs wk.pt j).2))) na
  have f2:upd H1 qa (.tup (ptV (wg (v8 hs (itP hs wk.pt j).1 (itP hs wk.pt j).2) (itP hs wk.pt j).2))) qa=some (.tup [.int (itP hs wk.pt (j+1)).1,.int (itP hs wk.pt (j+1)).2]):=qh
  generalize upd H1 qa (.tup (ptV (wg (v8 hs (itP hs wk.pt j).1 (itP hs wk.pt j).2) (itP hs wk.pt j).2)))=H2 at s2 f2
  have s12:=s1.trans s2
  refine exI rfl (exI rfl (exI rfl ⟨_,_,qqc (q:=itP hs wk.pt (j+1)) (SqT.of f2),qqc (q:=tq) (SqT.of (s12 _ _ htg)),rfl,rfl,qux,.inr ((exI rfl (wt rfl rfl ?_)))⟩))
  refine ⟨s12,qa,some (.int (0+j)),?_,f2⟩
  have e:(if PyData.eqv (ptD (itP hs wk.pt (j+1))) (ptD tq)=true then (1:Int) else 0)=if itP hs wk.pt (j+1)=tq then 1 else 0:=by
   rw [qvq]
   by_cases y:itP hs wk.pt (j+1)=tq
   ·rw [aj (bn y),aj y]
   ·rw [af (by rw [bh y];exact aA),af y]
  show _=[_,_,_,_,_,_,some (V.int (k4 wk.tv tq+(qwz hs wk.pt tq j+if itP hs wk.pt (j+1)=tq then 1 else 0))),_]
  rw [←e,←Int.add_assoc]
  rfl
 ·rintro σ H1 ⟨s1,sp',z,rfl,hs'⟩
  have ej:(m-0).toNat=m.toNat:=by lia
  refine exI rfl (exI rfl (exI rfl ⟨sz3,λq' nq=>?_⟩))
  have s2:=Same.upd (H:=H1) (o:=.tup [.str wk.wh,.ref sp',.int (k4 wk.tv tq+qwz hs wk.pt tq m.toNat)]) nq
  exact k q' sp' _ (s1.trans s2) qh (s2 _ _ hs')
theorem BkAt.upd_ {H:Hp}{bk:Aj}{kvs kvs':List (Key×V)}{a a':AH}{tq:Int×Int}(h:BkAt H bk kvs a tq)(ln:kvs'.length≤50)(rs:∀n hs,a'.rs n=some hs→∃l,wc kvs' (.inr n)=some (.ref l)∧H l=some (.lst (hs.map V.int))∧xj hs)(ws:∀n w,a'.ws n=some w→∃q sp,wc kvs' (.inr n)=some (.ref q)∧H q=some (.tup [.str w.wh,.ref sp,.int (k4 w.tv tq)])∧yz H sp w.pt)(no:∀n,a'.rs n=none→a'.ws n=none→wc kvs' (.inr n)=none):BkAt (upd H bk (.dK kvs')) bk kvs' a' tq:=by
 have nb:∀ {c:Aj} {o:HO},H c=some o→(∀kv,o≠.dK kv)→upd H bk (.dK kvs') c=some o:=λ{c o} e n=>by
  rw [wj (λz=>by rw [z,h.at_] at e;cases e;exact n _ rfl)]
  exact e
 refine ⟨qh,ln,λn hs e=>?_,λn w e=>?_,no⟩
 ·obtain ⟨l,e1,e2,lo⟩:=rs n hs e
  exact ⟨l,e1,nb e2 (λ_ z=>by cases z),lo⟩
 ·obtain ⟨q,sp,e1,e2,e3⟩:=ws n w e
  exact ⟨q,sp,e1,nb e2 (λ_ z=>by cases z),nb e3 (λ_ z=>by cases z)⟩
theorem y7 {m n:Str}(h:m≠n):(Sum.inr m:Key)≠.inr n:=λz=>h (by injection z)
theorem BkAt.putW {H:Hp}{bk:Aj}{kvs:List (Key×V)}{a:AH}{tq:Int×Int}(h:BkAt H bk kvs a tq){n:Str}{w:Wk}{q sp:Aj}(ln:kvs.length≤49)(en:a.rs n=none)(fq:H q=some (.tup [.str w.wh,.ref sp,.int (k4 w.tv tq)]))(fs:yz H sp w.pt):BkAt (upd H bk (.dK (zx kvs (.inr n) (.ref q)))) bk (zx kvs (.inr n) (.ref q)) (a.putW n w) tq:=by
 refine h.upd_ (by have:=x9 kvs (Sum.inr n:Key) (.ref q);lia) (λm hs e=>?_) (λm w' e=>?_) (λm e1 e2=>?_)
 ·obtain ⟨l,e1,e2⟩:=h.rs m hs e
  refine ⟨l,?_,e2⟩
  rw [vf,af (y7 λz=>by
   have e:a.rs m=some hs:=e
   rw [z,en] at e;cases e)]
  exact e1
 ·have e:(if m=n then some w else a.ws m)=some w':=e
  by_cases z:m=n
  ·rw [aj z] at e
   cases e
   exact ⟨q,sp,by rw [vf,aj (by rw [z])],fq,fs⟩
  ·rw [af z] at e
   obtain ⟨q',sp',e1,e2⟩:=h.ws m w' e
   exact ⟨q',sp',by rw [vf,af (y7 z)];exact e1,e2⟩
 ·have e2:(if m=n then some w else a.ws m)=none:=e2
  by_cases z:m=n
  ·rw [aj z] at e2;cases e2
  ·rw [af z] at e2
   rw [vf,af (y7 z)]
   exact h.no m e1 e2
theorem BkAt.putR {H:Hp}{bk:Aj}{kvs:List (Key×V)}{a:AH}{tq:Int×Int}(h:BkAt H bk kvs a tq){n:Str}{hs:List Int}{l:Aj}(ln:kvs.length≤49)(en:a.ws n=none)(fl:H l=some (.lst (hs.map V.int)))(lo:xj hs):BkAt (upd H bk (.dK (zx kvs (.inr n) (.ref l)))) bk (zx kvs (.inr n) (.ref l)) (a.putR n hs) tq:=by
 refine h.upd_ (by have:=x9 kvs (Sum.inr n:Key) (.ref l);lia) (λm hs' e=>?_) (λm w e=>?_) (λm e1 e2=>?_)
 ·have e:(if m=n then some hs else a.rs m)=some hs':=e
  by_cases z:m=n
  ·rw [aj z] at e
   cases e
   exact ⟨l,by rw [vf,aj (by rw [z])],fl,lo⟩
  ·rw [af z] at e
   obtain ⟨l',e1,e2⟩:=h.rs m hs' e
   exact ⟨l',by rw [vf,af (y7 z)];exact e1,e2⟩
 ·obtain ⟨q,sp,e1,e2⟩:=h.ws m w e
  refine ⟨q,sp,?_,e2⟩
  rw [vf,af (y7 λz=>by
   have e:a.ws m=some w:=e
   rw [z,en] at e;cases e)]
  exact e1
 ·have e1:(if m=n then some hs else a.rs m)=none:=e1
  by_cases z:m=n
  ·rw [aj z] at e1;cases e1
  ·rw [af z] at e1
   rw [vf,af (y7 z)]
   exact h.no m e1 e2
theorem BkAt.delW {H:Hp}{bk:Aj}{kvs:List (Key×V)}{a:AH}{tq:Int×Int}(h:BkAt H bk kvs a tq){n:Str}(en:a.rs n=none):BkAt (upd H bk (.dK (j0 kvs (.inr n)))) bk (j0 kvs (.inr n)) (a.delW n) tq:=by
 refine h.upd_ (by have:=ug kvs (Sum.inr n:Key);have:=h.ln;lia) (λm hs e=>?_) (λm w' e=>?_) (λm e1 e2=>?_)
 ·obtain ⟨l,e1,e2⟩:=h.rs m hs e
  refine ⟨l,?_,e2⟩
  rw [jt (y7 λz=>by
   have e:a.rs m=some hs:=e
   rw [z,en] at e;cases e)]
  exact e1
 ·have e:(if m=n then none else a.ws m)=some w':=e
  by_cases z:m=n
  ·rw [aj z] at e;cases e
  ·rw [af z] at e
   obtain ⟨q',sp',e1,e2⟩:=h.ws m w' e
   exact ⟨q',sp',by rw [jt (y7 z)];exact e1,e2⟩
 ·have e2:(if m=n then none else a.ws m)=none:=e2
  by_cases z:m=n
  ·rw [z,Zu]
  ·rw [af z] at e2
   rw [jt (y7 z)]
   exact h.no m e1 e2
end
section
variable {P:Ac}{w:Ah}{K:Aa}{mg:Str→Option Ag}{base:Heap}{qd:Aj}{qm:Aj}{qx:Aj}{qp:Aj}{qf:Aj}{wz:Aj}{wv:Aj}{qr:Aj}{wy:Aj}{q8:Aj}{qj:Aj}{wb:Aj}{qz:Aj}{qu:Aj}{qw:Aj}{qq:Aj}
def qz3 (rd:Str)(tq:Int×Int):Wk:=⟨rd,tq,[([.inl tq.1,.inl tq.2],.int 1)]⟩
theorem wyc {q q':Int×Int}:k4 [([.inl q.1,.inl q.2],.int 1)] q'=if q=q' then 1 else 0:=by
 have:=qxr (tv:=[]) (q:=q) (q':=q') (c:=1)
 rw [ux _ rfl] at this
 exact this
theorem qvr (rd:Str)(tq:Int×Int):k4 (qz3 rd tq).tv tq=1:=by
 show k4 [([.inl tq.1,.inl tq.2],.int 1)] tq=1
 rw [wyc,aj rfl]
def ahR (hs:List Int):AH:=(AH.nil.putR "r" hs).putR "s" hs
def ah1 (hs:List Int)(tq:Int×Int):AH:=(ahR hs).putW "a" (qz3 "r" tq)
def ah2 (hs:List Int)(tq:Int×Int):AH:=(ah1 hs tq).putW "b" (qz3 "s" tq)
def ah3 (hs:List Int)(tq:Int×Int):AH:=(ah2 hs tq).putW "c" (qz3 "r" tq)
def ahI (hs:List Int)(tq:Int×Int):Nat→AH
 |0=>ahR hs
 |1=>ah1 hs tq
 |2=>ah2 hs tq
 |_=>ah3 hs tq
def nmI:Nat→Str
 |0 => "a"
 |1 => "b"
 |_ => "c"
def rdI:Nat→Str
 |1 => "s"
 |_ => "r"
theorem qk0 (hs:List Int)(tq:Int×Int){i:Nat}(h:i<3):ahI hs tq (i+1)=(ahI hs tq i).putW (nmI i) (qz3 (rdI i) tq):=by
 rcases (by lia:i=0∨i=1∨i=2) with rfl|rfl|rfl <;> rfl
theorem wxw (hs:List Int)(tq:Int×Int)(i:Nat):(ahI hs tq i).rs=(ahR hs).rs:=by
 match i with
 |0=>rfl
 |1=>rfl
 |2=>rfl
 |i+3=>rfl
theorem wkm (hs:List Int){n:Str}(h1:n ≠ "r")(h2:n ≠ "s"):(ahR hs).rs n=none:=by
 show (if n = "s" then some hs else if n = "r" then some hs else none)=none
 rw [af h2,af h1]
theorem wxb (i:Nat):nmI i ≠ "r" ∧ nmI i ≠ "s" := by
 match i with
 |0=>exact ⟨by decide +kernel,by decide +kernel⟩
 |1=>exact ⟨by decide +kernel,by decide +kernel⟩
 |i+2=>exact ⟨by show ("c" : Str) ≠ "r";decide +kernel,by show ("c" : Str) ≠ "s";decide +kernel⟩
def Trip (H:Hp)(l:Aj):Prop:=∃q0 q1 q2,H l=some (.lst [.ref q0,.ref q1,.ref q2])∧H q0=some (.tup [.str "a",.str "r"])∧H q1=some (.tup [.str "b",.str "s"])∧H q2=some (.tup [.str "c",.str "r"])
theorem Trip.at_ {H:Hp}{q0 q1 q2:Aj}(h0:H q0=some (.tup [.str "a",.str "r"]))(h1:H q1=some (.tup [.str "b",.str "s"]))(h2:H q2=some (.tup [.str "c",.str "r"])){i:Nat}{v:V}(e:[V.ref q0,.ref q1,.ref q2][i]?=some v):∃q,v=.ref q∧H q=some (.tup [.str (nmI i),.str (rdI i)])∧i<3:=by
 match i,e with
 |0,e=>cases e;exact ⟨q0,rfl,h0,by decide⟩
 |1,e=>cases e;exact ⟨q1,rfl,h1,by decide⟩
 |2,e=>cases e;exact ⟨q2,rfl,h2,by decide⟩
 |i+3,e=>cases e
def qyr (K:Aa):Sp:=λvs H Q _=>∃(p pa:Aj) (hs:List Int) (t b:Int),vs=[.ref p,.ref pa]∧H p=some (.lst (hs.map V.int))∧xj hs∧yz H pa (t,b)∧1≤b∧b≤1000 ∧
 ∀bk kvs H',H bk=none→Same H H'→BkAt H' bk kvs (ah3 hs (wg t b)) (wg t b)→kvs.length≤5→Q (.ref bk) H'
set_option maxHeartbeats 0 in
theorem wj0 {f:Aj}{fd:Ad}(F:Fun K "_law_book" "_law_book" s__law_book f fd)(T:Txt K mg qd qm qx qp qf wz wv qr wy q8 qj wb qz qu qw qq)(c__law_low:Cal P w K mg base "_law_low" 2 qws) :
  FnOk P w K mg base (CXE P w) 3 f fd ["_law_heights_here","_law_point"] (qyr K):=by
 have sc:=qvu
 refine F.okX sc (λvs H Q E h=>by obtain ⟨p,pa,hs,t,b,rfl,_⟩:=h;rfl) (λcdv A outer s H vs Q E hr h=>?_)
 obtain ⟨p,pa,hs,t,b,rfl,hp,ok,ha,b1,b2,k⟩:=h
 refine ⟨_,(qb (w6 (i:=2) sc.nd rfl (by walk_at "loc") (wf c__law_low (hr.mono (by decide)) rfl qy (zh (zq zd (pv 1) wx (λ_ _=>rfl)) (zh (zq zd (pv 1) wx (λ_ _=>rfl)) qk))))
   (qb (w6 (i:=3) sc.nd rfl (by walk_at "loc") (yr (jc xf (vb vt rfl T.list_ br (q9 (pv 0) qk)) (jc xf (vb vt rfl T.list_ br (q9 (pv 0) qk)) y8)) rfl rfl (λz=>nomatch z) (by decide)))
   (qb (jj aP rfl (j4 (yw (qqd (vw (xx xf (xx xf qk))) (qqd (vw (xx xf (xx xf qk))) (qqd (vw (xx xf (xx xf qk))) qk))))) (ju rfl (xh (xu (i:=4) sc.nd rfl (by walk_at "loc")) (xh (xu (i:=5) sc.nd rfl (by walk_at "loc")) vp))) (wq (jg (zy hr) (pv 3) (pv 4) (vw (q9 (pv 5) (q9 (pv 2) (xx wx qk)))) rfl)))
   (wq (wp (pv 3)))))),?_⟩
 refine exI rfl (exX rfl rfl (SqT.of ha) rfl (exI rfl (exX rfl rfl (SqT.of ha) rfl ⟨t,b,rfl,b1,(Sm.small (n:=65) (by lia) (by lia) (by decide)).mono (by decide),λsp nsp=>?_⟩)))
 have s1:=Same.upd (H:=H) (o:=.tup (ptV (wg t b))) nsp
 have f1:upd H sp (.tup (ptV (wg t b))) sp=some (.tup [.int (wg t b).1,.int (wg t b).2]):=qh
 generalize upd H sp (.tup (ptV (wg t b)))=H1 at s1 f1
 generalize wg t b=tq at f1 k
 refine λbk nbk=>?_
 have s2:=Same.upd (H:=H1) (o:=.dK []) nbk
 have f2:upd H1 bk (.dK []) bk=some (.dK []):=qh
 have nbk0:=xk s1 nbk
 generalize upd H1 bk (.dK [])=H2 at s2 f2
 refine exI rfl ⟨p,exI rfl ⟨.inl (SqL.of ((s1.trans s2) _ _ hp)),λl1 n1=>?_⟩⟩
 have s3:=s2.trans (Same.upd (H:=H2) (o:=.lst (hs.map V.int)) n1)
 have g3:=(Same.upd (H:=H2) (o:=.lst (hs.map V.int)) n1) _ _ f2
 have fl1:upd H2 l1 (.lst (hs.map V.int)) l1=some (.lst (hs.map V.int)):=qh
 generalize upd H2 l1 (.lst (hs.map V.int))=H3 at s3 g3 fl1
 refine exI rfl ⟨p,exI rfl ⟨.inl (SqL.of ((s1.trans s3) _ _ hp)),λl2 n2=>?_⟩⟩
 have s4':=Same.upd (H:=H3) (o:=.lst (hs.map V.int)) n2
 have fl2:upd H3 l2 (.lst (hs.map V.int)) l2=some (.lst (hs.map V.int)):=qh
 generalize upd H3 l2 (.lst (hs.map V.int))=H4 at s4' fl2
 have s4:=s3.trans s4'
 have g4:=s4' _ _ g3
 have fl14:=s4' _ _ fl1
 refine ⟨g4,[(.inr "r",.ref l1),(.inr "s",.ref l2)],rfl,(show 2≤15 by decide),?_⟩
 have em:u6 [] [((Sum.inr ("r" : Str):Key),V.ref l1),(.inr "s",.ref l2)]=zx (zx [] (.inr "r") (.ref l1)) (.inr "s") (.ref l2):=rfl
 rw [em]
 have b0:BkAt H4 bk [] AH.nil tq:=⟨g4,aB _,(λn hs e=>nomatch e),(λn w e=>nomatch e),λn _ _=>rfl⟩
 have b1':=b0.putR (n := "r") (hs:=hs) (l:=l1) (aB _) rfl fl14 ok
 have fl25:upd H4 bk (.dK (zx [] (.inr "r") (.ref l1))) l2=some (.lst (hs.map V.int)):=by rw [wj (λz=>by rw [z,g4] at fl2;cases fl2)];exact fl2
 have b2':=b1'.putR (n := "s") (hs:=hs) (l:=l2) (by have:=x9 ([]:List (Key×V)) (Sum.inr ("r" : Str):Key) (.ref l1);simp only [ck] at this;lia) rfl fl25 ok
 rw [j7] at b2'
 have ln5:(zx (zx [] (Sum.inr ("r" : Str):Key) (V.ref l1)) (.inr "s") (.ref l2)).length≤2:=by
  have a1:=x9 ([]:List (Key×V)) (Sum.inr ("r" : Str):Key) (.ref l1)
  have a2:=x9 (zx [] (Sum.inr ("r" : Str):Key) (V.ref l1)) (Sum.inr ("s" : Str):Key) (.ref l2)
  simp only [ck] at a1
  lia
 have sH5:Same H (upd H4 bk (.dK (zx (zx [] (.inr "r") (.ref l1)) (.inr "s") (.ref l2)))):=λc o e=>by
  rw [wj (qg e nbk0)]
  exact (s1.trans s4) _ _ e
 have f15:yz (upd H4 bk (.dK (zx (zx [] (.inr "r") (.ref l1)) (.inr "s") (.ref l2)))) sp tq:=by
  show upd _ _ _ sp=_
  rw [wj (qg f1 nbk)]
  exact s4 _ _ f1
 generalize zx (zx [] (Sum.inr ("r" : Str):Key) (V.ref l1)) (.inr "s") (.ref l2)=kv0 at b2' ln5 sH5 f15
 generalize upd H4 bk (.dK kv0)=H5 at b2' sH5 f15
 have b2':BkAt H5 bk kv0 (ahI hs tq 0) tq:=b2'
 refine ⟨sz2,λq0 m0=>?_⟩
 have t0:=Same.upd (H:=H5) (o:=.tup [.str "a",.str "r"]) m0
 have h0:upd H5 q0 (.tup [.str "a",.str "r"]) q0=some (.tup [.str "a",.str "r"]):=qh
 generalize upd H5 q0 (.tup [.str "a",.str "r"])=H6 at t0 h0
 refine ⟨sz2,λq1 m1=>?_⟩
 have t1':=Same.upd (H:=H6) (o:=.tup [.str "b",.str "s"]) m1
 have h1:upd H6 q1 (.tup [.str "b",.str "s"]) q1=some (.tup [.str "b",.str "s"]):=qh
 generalize upd H6 q1 (.tup [.str "b",.str "s"])=H7 at t1' h1
 refine ⟨sz2,λq2 m2=>?_⟩
 have t2':=Same.upd (H:=H7) (o:=.tup [.str "c",.str "r"]) m2
 have h2:upd H7 q2 (.tup [.str "c",.str "r"]) q2=some (.tup [.str "c",.str "r"]):=qh
 generalize upd H7 q2 (.tup [.str "c",.str "r"])=H8 at t2' h2
 refine ⟨sz3,λlx mx=>?_⟩
 have t3':=Same.upd (H:=H8) (o:=.lst [.ref q0,.ref q1,.ref q2]) mx
 have hx:upd H8 lx (.lst [.ref q0,.ref q1,.ref q2]) lx=some (.lst [.ref q0,.ref q1,.ref q2]):=qh
 generalize upd H8 lx (.lst [.ref q0,.ref q1,.ref q2])=H9 at t3' hx
 have g0:=t3' _ _ (t2' _ _ (t1' _ _ h0))
 have g1:=t3' _ _ (t2' _ _ h1)
 have g2:=t3' _ _ h2
 have t5:=((t0.trans t1').trans t2').trans t3'
 have keep:∀ {Hx:Hp},(∀c o,c≠bk→H9 c=some o→Hx c=some o)→Hx lx=some (.lst [.ref q0,.ref q1,.ref q2])∧Hx q0=some (.tup [.str "a",.str "r"])∧Hx q1=some (.tup [.str "b",.str "s"])∧Hx q2=some (.tup [.str "c",.str "r"])∧yz Hx sp tq:=λ{Hx} kk=>by
  have nb:∀ {c:Aj} {o:HO},H9 c=some o→(∀kv,o≠.dK kv)→Hx c=some o:=λ{c o} e n=>kk c o (λz=>by rw [z,t5 _ _ b2'.at_] at e;cases e;exact n _ rfl) e
  exact ⟨nb hx (λ_ z=>by cases z),nb g0 (λ_ z=>by cases z),nb g1 (λ_ z=>by cases z),nb g2 (λ_ z=>by cases z),nb (t5 _ _ f15) (λ_ z=>by cases z)⟩
 refine exI rfl ⟨⟨_,SqL.of hx⟩,uu (K:=K) (a:=lx) (xs:=[.ref q0,.ref q1,.ref q2]) (λi σ Hx=>∃kvs z4 z5,σ=[some (.ref p),some (.ref pa),some (.ref sp),some (.ref bk),z4,z5]∧BkAt Hx bk kvs (ahI hs tq i) tq∧kvs.length≤2+i∧(∀c o,c≠bk→H9 c=some o→Hx c=some o)) ⟨kv0,_,_,rfl,b2'.same t5,ln5,λc o _ e=>e⟩ (λi σ Hx _ h=>by obtain ⟨_,_,_,_,_,_,kk⟩:=h;exact SqL.of (keep kk).1) ?_ ?_⟩
 ·rintro i v σ Hx ev ⟨kvs,z4,z5,rfl,hb,lk,kk⟩
  obtain ⟨_,c0,c1,c2,csp⟩:=keep kk
  obtain ⟨qv,rfl,fv,hi⟩:=Trip.at_ c0 c1 c2 ev
  refine ⟨qv,exI rfl ⟨SqT.of fv,rfl,_,_,rfl,_,_,rfl,rfl,?_⟩⟩
  refine exI rfl (exI rfl ⟨sz3,λq nq=>?_⟩)
  have tq':=Same.upd (H:=Hx) (o:=.tup [.str (rdI i),.ref sp,.int 1]) nq
  have fq:upd Hx q (.tup [.str (rdI i),.ref sp,.int 1]) q=some (.tup [.str (rdI i),.ref sp,.int 1]):=qh
  generalize upd Hx q (.tup [.str (rdI i),.ref sp,.int 1])=Hy at tq' fq
  have hby:=hb.same tq'
  have big:(1000000:Nat)<sizeLine:=by decide
  refine exI rfl (exI rfl ⟨bk,exI rfl ⟨DPut.k (k:=.inr (nmI i)) hby.at_ (by lia),?_⟩⟩)
  have fq':Hy q=some (.tup [.str (qz3 (rdI i) tq).wh,.ref sp,.int (k4 (qz3 (rdI i) tq).tv tq)]):=by rw [qvr];exact fq
  refine ⟨_,_,_,rfl,by rw [qk0 hs tq hi];exact hby.putW (w:=qz3 (rdI i) tq) (by lia) (by rw [wxw];exact wkm hs (wxb i).1 (wxb i).2) fq' (tq' _ _ csp),by have:=x9 kvs (Sum.inr (nmI i):Key) (.ref q);lia,λc o n e=>?_⟩
  rw [wj n]
  exact tq' _ _ (kk c o n e)
 ·rintro σ Hx ⟨kvs,z4,z5,rfl,hb,lk,kk⟩
  exact exI rfl (k bk kvs Hx nbk0 (λc o e=>kk c o (qg e nbk0) (t5 _ _ (sH5 _ _ e))) hb lk)
end
section
variable {P:Ac}{w:Ah}{K:Aa}{mg:Str→Option Ag}{base:Heap}{qd:Aj}{qm:Aj}{qx:Aj}{qp:Aj}{qf:Aj}{wz:Aj}{wv:Aj}{qr:Aj}{wy:Aj}{q8:Aj}{qj:Aj}{wb:Aj}{qz:Aj}{qu:Aj}{qw:Aj}{qq:Aj}
structure LOk (a:AH)(tq:Int×Int)(k:Nat):Prop where
 r:∃hs,a.rs "r" = some hs
 s:∃hs,a.rs "s" = some hs
 ro:∀n hs,a.rs n=some hs→(n = "r" ∨ n = "s")∧hs.length≤5+k∧HPt hs tq
 wo:∀n w,a.ws n=some w→(n = "a" ∨ n = "b" ∨ n = "c")∧(w.wh = "r" ∨ w.wh = "s")∧w.pt.2≤6
 b6:tq.2≤6
 k13:k≤15
def NM5:List Str:=["r","s","a","b","c"]
theorem LOk.nam {a:AH}{tq:Int×Int}{k:Nat}(h:LOk a tq k):Nam NM5 a:=⟨λn e=>by
 obtain ⟨hs,e⟩:=be.mp e
 unfold NM5
 rcases (h.ro n hs e).1 with rfl|rfl <;> simp,λn e=>by
 obtain ⟨w,e⟩:=be.mp e
 unfold NM5
 rcases (h.wo n w e).1 with rfl|rfl|rfl <;> simp⟩
theorem LOk.abc {a:AH}{tq:Int×Int}{k:Nat}(h:LOk a tq k){n:Str}(hn:n = "a" ∨ n = "b" ∨ n = "c"):a.rs n=none:=by
 cases e:a.rs n with
 |none=>rfl
 |some hs =>
  rcases (h.ro n hs e).1 with z|z <;> rcases hn with rfl|rfl|rfl <;> exact absurd z (by decide +kernel)
theorem LOk.rsn {a:AH}{tq:Int×Int}{k:Nat}(h:LOk a tq k){n:Str}(hn:n = "r" ∨ n = "s"):a.ws n=none∧∃hs,a.rs n=some hs:=by
 refine ⟨?_,?_⟩
 ·cases e:a.ws n with
  |none=>rfl
  |some w =>
   rcases (h.wo n w e).1 with z|z|z <;> rcases hn with rfl|rfl <;> exact absurd z (by decide +kernel)
 ·rcases hn with rfl|rfl
  ·exact h.r
  ·exact h.s
theorem LOk.next {a:AH}{tq:Int×Int}{k:Nat}(h:LOk a tq k)(hk:k<15):LOk a tq (k+1):=⟨h.r,h.s,λn hs e=>by
 have:=h.ro n hs e
 exact ⟨this.1,by lia,this.2.2⟩,h.wo,h.b6,hk⟩
theorem LOk.putW {a:AH}{tq:Int×Int}{k:Nat}(h:LOk a tq k){n:Str}(hn:n = "a" ∨ n = "b" ∨ n = "c"){w:Wk}(hw:w.wh = "r" ∨ w.wh = "s")(b:w.pt.2≤6):LOk (a.putW n w) tq k:=⟨h.r,h.s,h.ro,λm w' e=>by
 have e:(if m=n then some w else a.ws m)=some w':=e
 by_cases z:m=n
 ·rw [aj z] at e
  cases e
  exact ⟨by rw [z];exact hn,hw,b⟩
 ·rw [af z] at e
  exact h.wo m w' e,h.b6,h.k13⟩
theorem LOk.delW {a:AH}{tq:Int×Int}{k:Nat}(h:LOk a tq k)(n:Str):LOk (a.delW n) tq k:=⟨h.r,h.s,h.ro,λm w' e=>by
 have e:(if m=n then none else a.ws m)=some w':=e
 by_cases z:m=n
 ·rw [aj z] at e;cases e
 ·rw [af z] at e
  exact h.wo m w' e,h.b6,h.k13⟩
theorem LOk.putR {a:AH}{tq:Int×Int}{k:Nat}(h:LOk a tq k){n:Str}(hn:n = "r" ∨ n = "s"){hs:List Int}(l:hs.length≤5+k)(hp:HPt hs tq):LOk (a.putR n hs) tq k:=by
 have get:∀m:Str,(m = "r" ∨ m = "s")→∃hs',(a.putR n hs).rs m=some hs':=λm hm=>by
  by_cases z:m=n
  ·exact ⟨hs,aj z⟩
  ·obtain ⟨_,hs',e⟩:=h.rsn hm
   exact ⟨hs',(af z).trans e⟩
 refine ⟨get _ (.inl rfl),get _ (.inr rfl),λm hs' e=>?_,h.wo,h.b6,h.k13⟩
 have e:(if m=n then some hs else a.rs m)=some hs':=e
 by_cases z:m=n
 ·rw [aj z] at e
  cases e
  exact ⟨by rw [z];exact hn,l,hp⟩
 ·rw [af z] at e
  exact h.ro m hs' e
theorem at_rs {r:Int}(h0:0≤r)(h1:r<2):∃c,atI ("rs" : Str).cps.toList r=some c∧((⟨#[c]⟩:Str) = "r" ∨ (⟨#[c]⟩:Str) = "s"):=by
 rcases (by lia:r=0∨r=1) with rfl|rfl
 ·exact ⟨114,by decide +kernel,.inl (by decide +kernel)⟩
 ·exact ⟨115,by decide +kernel,.inr (by decide +kernel)⟩
theorem at_abc {r:Int}(h0:0≤r)(h1:r<3):∃c,atI ("abc" : Str).cps.toList r=some c∧((⟨#[c]⟩:Str) = "a" ∨ (⟨#[c]⟩:Str) = "b" ∨ (⟨#[c]⟩:Str) = "c"):=by
 rcases (by lia:r=0∨r=1∨r=2) with rfl|rfl|rfl
 ·exact ⟨97,by decide +kernel,.inl (by decide +kernel)⟩
 ·exact ⟨98,by decide +kernel,.inr (.inl (by decide +kernel))⟩
 ·exact ⟨99,by decide +kernel,.inr (.inr (by decide +kernel))⟩
theorem HPt.grow {hs:List Int}{pt:Int×Int}(h:HPt hs pt){hs':List Int}(ok:xj hs')(l:hs.length≤hs'.length):HPt hs' pt:=by
 obtain ⟨_,⟨h1,h2,h3,h4,h5⟩,h6⟩:=h
 refine ⟨ok,⟨h1,h2,h3,h4,fi h5 ?_⟩,h6⟩
 exact aF (by lia) (by lia)
theorem wxc {hs:List Int}(ok:xj hs){i:Nat}{v:Int}(v0:0≤v)(v1:v<hs.length):xj (hs.set i v):=by
 refine ⟨by rw [cG];exact ok.1,by rw [cG];exact ok.2.1,λx hx=>?_⟩
 rw [cG]
 rcases List.mem_or_eq_of_mem_set hx with h|h
 ·exact ok.2.2 x h
 ·subst h;lia
theorem wzp {hs:List Int}(ok:xj hs)(l:hs.length≤24){v:Int}(v0:0≤v)(v1:v≤hs.length):xj (hs++[v]):=by
 have o:=ok.1
 refine ⟨by rw [aV];lia,by rw [aV];show hs.length+1≤25;lia,λx hx=>?_⟩
 rw [aV]
 rcases aH.mp hx with h|h
 ·have:=ok.2.2 x h
  refine ⟨this.1,?_⟩
  have:=this.2
  show x≤((hs.length+1:Nat):Int)-1
  lia
 ·rw [ai.mp h]
  refine ⟨v0,?_⟩
  show v≤((hs.length+1:Nat):Int)-1
  lia
theorem VH.grow {C CR CW:Aj}{H:Hp}{o:Ho}{a:AH}{as:List AH}(v:VH C CR CW H o (a::as)){n:Str}{hs hs':List Int}(er:a.rs n=some hs)(ok:xj hs')(l:hs.length≤hs'.length):∀m w,a.ws m=some w→w.wh=n→HPt hs' w.pt:=λm w e hw=>by
 obtain ⟨_,hs0,e0,hp⟩:=v.rep.ok.wo m w e
 rw [hw,er] at e0
 cases e0
 exact hp.grow ok l
theorem VH.bends {C CR CW CN CL:Aj}{H:Hp}{o:Ho}{a:AH}{as:List AH}{n:Str}{hs:List Int}{c h:Int}{Q:VK}{E:XK}(v:VH C CR CW H o (a::as)){NM:List Str}(nm:Nam NM a)(lN:NM.length≤100)(lD:o.ds.length≤10000)(er:a.rs n=some hs)(c0:0≤c)(c1:c<hs.length)(lo:xj (hs.set c.toNat h))
  (k:∀H' o',Nxt H o o'→VH C CR CW H' o' (a.putR n (hs.set c.toNat h)::a::as)→Kb [o.dr,o.dw,o.dd] H H'→Q .non H'):qz2 C CR CN CL [.ref o.x,.str n,.int c,.int h] H Q E:=by
 obtain ⟨r,err,ra⟩:=v.rep.road er
 have lens:=v.lens nm
 refine ⟨o.x,o.dr,o.dw,o.dd,o.R,o.W,_,n,c,h,rfl,v.h.hs,uc _,by lia,by lia,by rw [j6];lia,(λz=>by rw [err] at z;cases z),λu eu=>?_⟩
 rw [err] at eu
 cases eu
 refine ⟨r,hs,rfl,ra,v.rep.ok.lo n hs er,(λz=>absurd ⟨c0,c1⟩ z),λ_ _=>⟨λ_ H' rd=>?_,λz=>absurd lo z⟩⟩
 obtain ⟨o',nx,v',kb⟩:=v.road rd lo (v.grow er lo (by rw [cG];exact ah _))
 exact k H' o' nx v' kb
theorem VH.widens {C CR CW CN CL:Aj}{H:Hp}{o:Ho}{a:AH}{as:List AH}{n:Str}{hs:List Int}{h:Int}{Q:VK}{E:XK}(v:VH C CR CW H o (a::as)){NM:List Str}(nm:Nam NM a)(lN:NM.length≤100)(lD:o.ds.length≤10000)(er:a.rs n=some hs)(lo:xj (hs++[h]))
  (k:∀H' o',Nxt H o o'→VH C CR CW H' o' (a.putR n (hs++[h])::a::as)→Kb [o.dr,o.dw,o.dd] H H'→Q .non H'):Yy C CR CN CL [.ref o.x,.str n,.int h] H Q E:=by
 obtain ⟨r,err,ra⟩:=v.rep.road er
 have lens:=v.lens nm
 refine ⟨o.x,o.dr,o.dw,o.dd,o.R,o.W,_,n,h,rfl,v.h.hs,uc _,by lia,by lia,by rw [j6];lia,(λz=>by rw [err] at z;cases z),λu eu=>?_⟩
 rw [err] at eu
 cases eu
 refine ⟨r,hs,rfl,ra,v.rep.ok.lo n hs er,λ_ H' rd=>?_,λz=>absurd lo z⟩
 obtain ⟨o',nx,v',kb⟩:=v.road rd lo (v.grow er lo (by rw [aV];lia))
 exact k H' o' nx v' kb
theorem VH.put_ {C CR CW:Aj}{H:Hp}{o:Ho}{as:List AH}(v:VH C CR CW H o as){mk:Aj}{kv kv':List (Key×V)}(e:H mk=some (.dK kv))(n:mk∉[o.dr,o.dw,o.dd])(nq:mk∉jd o.ds):VH C CR CW (upd H mk (.dK kv')) o as:=by
 have dl:Dl H [mk]:=.cons (.inl ⟨_,.inl e⟩) .nil
 have kb:Kb [mk] H (upd H mk (.dK kv')):=λc u nc eu=>by rw [wj (λz=>nc (by simp [z]))];exact eu
 refine ⟨v.h.frame kb dl ⟨Ap.x (o:=o) v.h dl,λz=>n (by rw [←ai.mp z];simp),λz=>n (by rw [←ai.mp z];simp),λz=>n (by rw [←ai.mp z];simp)⟩ λq hq hm=>absurd (by rw [←ai.mp hq];exact hm) nq,Hist.dl dl kb v.t⟩
theorem qvs {C:Aj}{H H2:Hp}{o o':Ho}{mk:Aj}{u:HO}(h:HoAt C H o)(nx:Nxt H2 o o')(n0:H mk=none)(e2:H2 mk=some u):mk∉jd o'.ds:=λz=>by
 obtain ⟨d,ed,n1,n2⟩:=nx.ds
 rw [ed] at z
 have z:mk∈d.q1::d.q2::jd o.ds:=z
 rcases ak.mp z with z|z
 ·rw [z,n1] at e2;cases e2
 ·rcases ak.mp z with z|z
  ·rw [z,n2] at e2;cases e2
  ·obtain ⟨d',hd,hq⟩:=cz.mp z
   obtain ⟨⟨_,r1,r2⟩,_⟩:=h.da d' hd
   simp only [ak,am,bz] at hq
   rcases hq with rfl|rfl
   ·rcases r1 with r1|⟨_,r1⟩ <;> (rw [n0] at r1;cases r1)
   ·rcases r2 with r2|⟨_,r2⟩ <;> (rw [n0] at r2;cases r2)
theorem VH.putK_ {C CR CW:Aj}{H H':Hp}{o:Ho}{as:List AH}(v:VH C CR CW H o as){mk:Aj}{kv:List (Key×V)}(e:H mk=some (.dK kv))(n:mk∉[o.dr,o.dw,o.dd])(nq:mk∉jd o.ds)(kb:Kb [mk] H H'):VH C CR CW H' o as:=by
 have dl:Dl H [mk]:=.cons (.inl ⟨_,.inl e⟩) .nil
 refine ⟨v.h.frame kb dl ⟨Ap.x (o:=o) v.h dl,λz=>n (by rw [←ai.mp z];simp),λz=>n (by rw [←ai.mp z];simp),λz=>n (by rw [←ai.mp z];simp)⟩ λq hq hm=>absurd (by rw [←ai.mp hq];exact hm) nq,Hist.dl dl kb v.t⟩
theorem BkAt.congr {H:Hp}{bk:Aj}{kvs:List (Key×V)}{a a':AH}{tq:Int×Int}(h:BkAt H bk kvs a tq)(er:∀n,a'.rs n=a.rs n)(ew:∀n,a'.ws n=a.ws n):BkAt H bk kvs a' tq:=⟨h.at_,h.ln,λn hs e=>h.rs n hs (by rw [←er];exact e),λn w e=>h.ws n w (by rw [←ew];exact e),λn e1 e2=>h.no n (by rw [←er];exact e1) (by rw [←ew];exact e2)⟩
def abc:List Str:=["a","b","c"]
theorem abc_at {i:Nat}(h:i<3):abc[i]?=some (nmI i):=by
 rcases (by lia:i=0∨i=1∨i=2) with rfl|rfl|rfl <;> rfl
theorem qy0 (i:Nat):nmI i = "a" ∨ nmI i = "b" ∨ nmI i = "c" := by
 match i with
 |0=>exact .inl rfl
 |1=>exact .inr (.inl rfl)
 |i+2=>exact .inr (.inr rfl)
def ahT (a a':AH)(i:Nat):AH:={ a with ws:=λm=>if m∈abc.take i then a'.ws m else a.ws m }
theorem qv1 {a a':AH}{i:Nat}(h:i<3)(m:Str):(ahT a a' (i+1)).ws m=if m=nmI i then a'.ws m else (ahT a a' i).ws m:=by
 show (if m∈abc.take (i+1) then a'.ws m else a.ws m)=if m=nmI i then a'.ws m else if m∈abc.take i then a'.ws m else a.ws m
 rw [dC,abc_at h,Option.toList_some]
 by_cases z:m=nmI i
 ·rw [aj z,aj (aH.mpr (.inr (by rw [z];exact ai.mpr rfl)))]
 ·rw [af z]
  by_cases y:m∈abc.take i
  ·rw [aj y,aj (aH.mpr (.inl y))]
  ·rw [af y,af (λx=>by
    rcases aH.mp x with x|x
    ·exact y x
    ·exact z (ai.mp x))]
theorem wvg {a a':AH}{i:Nat}(h:i<3):(ahT a a' i).ws (nmI i)=a.ws (nmI i):=by
 show (if nmI i∈abc.take i then a'.ws (nmI i) else a.ws (nmI i))=_
 rw [af]
 rcases (by lia:i=0∨i=1∨i=2) with rfl|rfl|rfl <;> decide +kernel
def qvd (K:Aa)(C CR CW:Aj):Sp:=λvs H Q _=>∃(o:Ho) (bk sa pa:Aj) (ns:List Int) (i:Int) (kvs:List (Key×V)) (a:AH) (as:List AH) (t b:Int) (j:Nat),vs=[.ref o.x,.ref bk,.ref sa,.int i,.ref pa]∧VH C CR CW H o (a::as)∧BkAt H bk kvs a (wg t b)∧kvs.length≤5+3*j∧LOk a (wg t b) j∧j≤13∧SqL K H sa (ns.map V.int)∧0≤i∧yz H pa (t,b)∧1≤b∧b≤1000∧o.ds.length≤100∧bk∉[o.dr,o.dw,o.dd] ∧
 ∀(H':Hp) (o':Ho) (bk':Aj) (kvs':List (Key×V)) (a':AH),Nxt H o o'→VH C CR CW H' o' (a'::a::as)→BkAt H' bk' kvs' a' (wg t b)→kvs'.length≤8+3*j→LOk a' (wg t b) (j+1)→H bk'=none→bk'∉jd o'.ds→Kb [o.dr,o.dw,o.dd] H H'→Q (.ref bk') H'
set_option maxHeartbeats 0 in
theorem wyp {f:Aj}{fd:Ad}(F:Fun K "_law_deed" "_law_deed" s__law_deed f fd)(T:Txt K mg qd qm qx qp qf wz wv qr wy q8 qj wb qz qu qw qq)(c__law_pick:Cal P w K mg base "_law_pick" 2 (y0 K))(c__law_low:Cal P w K mg base "_law_low" 2 qws)(c__law_walked:Cal P w K mg base "_law_walked" 3 (Y4 K))(c_bend:MCal P w K mg base qq "bend" 4 (qz2 qq qu q8 qm))(c_widen:MCal P w K mg base qq "widen" 4 (Yy qq qu q8 qm))
  (c_together:MCal P w K mg base qq "together" 8 (qug qq qu qw q8 qf)) (c_place:MCal P w K mg base qq "place" 5 (Wg K qq qu qw qr wy q8 qx qp)) (c_leave:MCal P w K mg base qq "leave" 3 (Yq qq qj)) (c_go:MCal P w K mg base qq "go" 8 (spGo qq qu qw qj qf)) :
  FnOk P w K mg base (CXE P w) 9 f fd ["_law_house","_law_book_here","_law_script","_law_at","_law_point"] (qvd K qq qu qw):=by
 have sc:=qx8
 refine F.okX sc (λvs H Q E h=>by obtain ⟨o,bk,sa,pa,ns,i,kvs,a,as,t,b,j,rfl,_⟩:=h;rfl) (λcdv A outer s H vs Q E hr h=>?_)
 obtain ⟨o,bk,sa,pa,ns,i,kvs,a,as,t,b,j,rfl,v,hb,lk,lok,j13,hS,i0,hpa,b1,b2,lD,nbk,k⟩:=h
 have nm:=lok.nam
 have l5:NM5.length=5:=rfl
 have big:(1000000:Nat)<sizeLine:=by decide
 refine ⟨_,(qb (w6 (i:=5) sc.nd rfl (by walk_at "loc") (wf c__law_pick (hr.mono (by decide)) rfl qy (q9 (pv 2) (q9 (pv 3) (xx wx (xx wx qk))))))
   (qb (w6 (i:=6) sc.nd rfl (by walk_at "loc") (zq wvw xf (wf c__law_pick (hr.mono (by decide)) rfl qy (q9 (pv 2) (q9 (pv 3) (xx wx (xx wx qk))))) (λ_ _=>rfl)))
   (qb (w6 (i:=7) sc.nd rfl (by walk_at "loc") (zq wvw xf (wf c__law_pick (hr.mono (by decide)) rfl qy (q9 (pv 2) (q9 (pv 3) (xx wx (xx wx qk))))) (λ_ _=>rfl)))
   (qb (w6 (i:=8) sc.nd rfl (by walk_at "loc") (wf c__law_pick (hr.mono (by decide)) rfl qy (q9 (pv 2) (q9 (pv 3) (xx wx (xx wx qk))))))
   (qb (w6 (i:=9) sc.nd rfl (by walk_at "loc") (wf c__law_low (hr.mono (by decide)) rfl qy (zh (zq zd (pv 4) wx (λ_ _=>rfl)) (zh (zq zd (pv 4) wx (λ_ _=>rfl)) qk))))
   (qb (w6 (i:=10) sc.nd rfl (by walk_at "loc") (vb qy7 rfl T.dict_ PyProof.Rows.boot_dict (q9 (pv 1) qk)))
   (qb (w6 (i:=11) sc.nd rfl (by walk_at "loc") (vb vt rfl T.list_ br (zh (zf (zy hr) (pv 1) (pv 6) (λ_ _=>rfl)) qk)))
   (qvc (x4 (wn ku (pv 5) wx (w9 _)) (qb (w6 (i:=12) sc.nd rfl (by walk_at "loc") (wf c__law_pick (hr.mono (by decide)) rfl qy (q9 (pv 2) (q9 (pv 3) (xx wx (kj (xq xb rfl T.len_ aM (q9 (pv 11) qk)) qk))))))
   (qb (yx (wf c__law_pick (hr.mono (by decide)) rfl qy (q9 (pv 2) (q9 (pv 3) (xx wx (kj (xq xb rfl T.len_ aM (q9 (pv 11) qk)) qk))))) (wxm (pv 11) (pv 12) qv0))
   (qb (xn (w4 (pv 0) T.clH c_bend (hr.mono (by decide)) qy (q9 (pv 6) (q9 (pv 12) (zh (zq vk (pv 11) (pv 12) (λ_ _=>rfl)) qk)))))
   (wq (jg (zy hr) (pv 10) (pv 6) (pv 11) rfl))))) (wq (x4 (wn ku (pv 5) wx (w9 _)) (qb (w6 (i:=13) sc.nd rfl (by walk_at "loc") (wf c__law_pick (hr.mono (by decide)) rfl qy (q9 (pv 2) (q9 (pv 3) (xx wx (zp (wm xm (xq xb rfl T.len_ aM (q9 (pv 11) qk)) wx) qk))))))
   (qb (xn (w4 (pv 0) T.clH c_widen (hr.mono (by decide)) qy (q9 (pv 6) (q9 (pv 13) qk))))
   (wq (jg (zy hr) (pv 10) (pv 6) (wm wv7 (pv 11) (yw (q9 (pv 13) qk))) rfl)))) (wq (x4 (wn ku (pv 5) wx (w9 _)) (qb (xn (w4 (pv 0) T.clH c_together (hr.mono (by decide)) qy (q9 (pv 6) (q9 (pv 8) qk))))
   (wq (jj aP rfl (j4 (yw (xx xf (xx xf (xx xf qk))))) (xu (i:=14) sc.nd rfl (by walk_at "loc")) (wq (x4 (PW.pt (qyy (Q1 (quc (zy hr) (pv 14) (pv 1))) (qzm (wn ku (zq zd (zf (zy hr) (pv 1) (pv 14) (λ_ _=>rfl)) wx (λ_ _=>rfl)) (pv 6) (w9 _))))) (wq (jg (zy hr) (pv 10) (pv 14) (wf c__law_walked (hr.mono (by decide)) rfl qy (q9 (pv 1) (q9 (pv 14) (q9 (pv 8) (q9 (pv 9) qk))))) rfl)) xy))))) (wq (x4 (Q1 (Qw (zy hr) (pv 7) (pv 1))) (qb (xn (w4 (pv 0) T.clH c_place (hr.mono (by decide)) qy (q9 (pv 7) (q9 (pv 6) (q9 (pv 4) qk)))))
   (wq (jg (zy hr) (pv 10) (pv 7) (vw (q9 (pv 6) (q9 (pv 9) (xx wx qk)))) rfl))) (wq (x4 (wn ku (pv 5) wx (w9 _)) (qb (xn (w4 (pv 0) T.clH c_leave (hr.mono (by decide)) qy (q9 (pv 7) qk)))
   (wq (xn (wzg (pv 10) (pv 7) ⟨rfl,rfl,rfl,rfl⟩)))) (qb (xn (w4 (pv 0) T.clH c_go (hr.mono (by decide)) qy (q9 (pv 7) (q9 (pv 8) qk))))
   (wq (jg (zy hr) (pv 10) (pv 7) (wf c__law_walked (hr.mono (by decide)) rfl qy (q9 (pv 1) (q9 (pv 7) (q9 (pv 8) (q9 (pv 9) qk))))) rfl))))))))))))
   (wq (wp (pv 10))))))))))),?_⟩
 refine exI rfl (exI rfl ⟨sa,ns,_,_,_,rfl,hS,(by lia),(by lia),(by lia),(by lia),λr0 _ l0 u0=>?_⟩)
 refine exI rfl (exI rfl ⟨sa,ns,_,_,_,rfl,hS,(by lia),(by lia),(by lia),(by lia),λr1 _ l1 u1=>?_⟩)
 obtain ⟨c1,ec1,hrd⟩:=at_rs l1 u1
 refine ⟨_,_,c1,rfl,rfl,(show 2≤sizeLine by decide),ec1,?_⟩
 refine exI rfl (exI rfl ⟨sa,ns,_,_,_,rfl,hS,(by lia),(by lia),(by lia),(by lia),λr2 _ l2 u2=>?_⟩)
 obtain ⟨c2,ec2,hnm⟩:=at_abc l2 u2
 refine ⟨_,_,c2,rfl,rfl,(show 3≤sizeLine by decide),ec2,?_⟩
 generalize (⟨#[c1]⟩:Str)=rd at hrd
 generalize (⟨#[c2]⟩:Str)=nn at hnm
 refine exI rfl (exI rfl ⟨sa,ns,_,_,_,rfl,hS,(by lia),(by lia),(by lia),(by lia),λr3 _ l3 u3=>?_⟩)
 refine exI rfl (exX rfl rfl (SqT.of hpa) rfl (exI rfl (exX rfl rfl (SqT.of hpa) rfl ⟨t,b,rfl,b1,(Sm.small (n:=65) (by lia) (by lia) (by decide)).mono (by decide),λtg ntg=>?_⟩)))
 have s1:=Same.upd (H:=H) (o:=.tup (ptV (wg t b))) ntg
 have f1:upd H tg (.tup (ptV (wg t b))) tg=some (.tup [.int (wg t b).1,.int (wg t b).2]):=qh
 generalize upd H tg (.tup (ptV (wg t b)))=H1 at s1 f1
 have hb1:=hb.same s1
 refine exI rfl ⟨bk,kvs,rfl,.inl hb1.at_,λmk nmk=>?_⟩
 have s2':=Same.upd (H:=H1) (o:=.dK kvs) nmk
 have f2:upd H1 mk (.dK kvs) mk=some (.dK kvs):=qh
 have nmk0:=xk s1 nmk
 generalize upd H1 mk (.dK kvs)=H2 at s2' f2
 have hb2:=hb1.same s2'
 have mb2:BkAt H2 mk kvs a (wg t b):=⟨f2,hb2.ln,hb2.rs,hb2.ws,hb2.no⟩
 obtain ⟨nwr,hs,er⟩:=lok.rsn hrd
 obtain ⟨lr,evr,flr,ok⟩:=hb2.rs rd hs er
 have dgr:=hb2.get rd
 rw [evr] at dgr
 refine exI rfl (exI rfl ⟨bk,exI rfl ⟨dgr,lr,exI rfl ⟨.inl (SqL.of flr),λhl nhl=>?_⟩⟩⟩)
 have s3':=Same.upd (H:=H2) (o:=.lst (hs.map V.int)) nhl
 have f3:upd H2 hl (.lst (hs.map V.int)) hl=some (.lst (hs.map V.int)):=qh
 generalize upd H2 hl (.lst (hs.map V.int))=H3 at s3' f3
 have s3:=(s1.trans s2').trans s3'
 have mb3:=mb2.same s3'
 have hb3:=hb2.same s3'
 have v3:=v.same s3
 have tg3:=s3' _ _ (s2' _ _ f1)
 have pa3:=s3 _ _ hpa
 have hS3:=s3.sql hS
 obtain ⟨lrd,lhs,hpq⟩:=lok.ro rd hs er
 have o1:=ok.1
 have lm:(hs.map V.int).length=hs.length:=ae _
 have mne:∀ {c:Aj} {u:HO},H1 c=some u→c≠mk:=λe=>qg e nmk
 have nmd:mk∉[o.dr,o.dw,o.dd]:=λz=>by
  have v1:=v.same s1
  simp only [ak,am,bz] at z
  rcases z with z|z|z
  ·exact mne v1.h.hs.r z.symm
  ·exact mne v1.h.hs.w z.symm
  ·exact mne v1.h.hs.d z.symm
 obtain ⟨dx,hx⟩:=v3.h.hs.ob
 have wi:Within r3 0 (some 1000000000000000000000000000000000000000000000000000000000000):=⟨l3,λb e=>by cases e;lia⟩
 refine ⟨λσ H'=>∃(z11 z12 z13 z14:Option V) (o':Ho) (kvs':List (Key×V)) (a':AH),σ=[some (.ref o.x),some (.ref bk),some (.ref sa),some (.int i),some (.ref pa),some (.int r0),some (.str rd),some (.str nn),some (.int r3),some (.ref tg),some (.ref mk),z11,z12,z13,z14]∧Nxt H2 o o'∧VH qq qu qw H' o' (a'::a::as)∧BkAt H' mk kvs' a' (wg t b)∧kvs'.length≤8+3*j∧LOk a' (wg t b) (j+1)∧Kb [o.dr,o.dw,o.dd] H H',?_,?_⟩
 ·have s02:=s1.trans s2'
  have endW:∀ {H5:Hp} {o':Ho} {a':AH} {w':Wk} {q sp:Aj} {n:Str} {kv5:List (Key×V)},(n = "a" ∨ n = "b" ∨ n = "c")→Nxt H2 o o'→VH qq qu qw H5 o' (a.putW n w'::a::as)→BkAt H5 mk kv5 a (wg t b)→kv5.length≤5+3*j→H5 q=some (.tup [.str w'.wh,.ref sp,.int (k4 w'.tv (wg t b))])→yz H5 sp w'.pt→(w'.wh = "r" ∨ w'.wh = "s")→w'.pt.2≤6→Kb [o.dr,o.dw,o.dd] H H5→VH qq qu qw (upd H5 mk (.dK (zx kv5 (.inr n) (.ref q)))) o' (a.putW n w'::a::as)∧BkAt (upd H5 mk (.dK (zx kv5 (.inr n) (.ref q)))) mk (zx kv5 (.inr n) (.ref q)) (a.putW n w') (wg t b)∧(zx kv5 (.inr n) (.ref q)).length≤8+3*j∧LOk (a.putW n w') (wg t b) (j+1)∧Kb [o.dr,o.dw,o.dd] H (upd H5 mk (.dK (zx kv5 (.inr n) (.ref q)))):=λ{H5 o' a' w' q sp n kv5} hn nx v5 b5 lk5 fq fs hw hb6 kb=>by
   refine ⟨v5.put_ b5.at_ (by rw [nx.dr,nx.dw,nx.dd];exact nmd) (qvs v.h nx nmk0 f2),b5.putW (by lia) (lok.abc hn) fq fs,by have:=x9 kv5 (Sum.inr n:Key) (.ref q);lia,(lok.putW hn hw hb6).next (by lia),λc u nc e=>?_⟩
   rw [wj (qg e nmk0)]
   exact kb c u nc e
  have endR:∀ {H5:Hp} {o':Ho} {hs':List Int} {l:Aj} {kv5:List (Key×V)},Nxt H2 o o'→VH qq qu qw H5 o' (a.putR rd hs'::a::as)→BkAt H5 mk kv5 a (wg t b)→kv5.length≤5+3*j→H5 l=some (.lst (hs'.map V.int))→xj hs'→hs.length≤hs'.length→hs'.length≤5+(j+1)→Kb [o.dr,o.dw,o.dd] H H5→VH qq qu qw (upd H5 mk (.dK (zx kv5 (.inr rd) (.ref l)))) o' (a.putR rd hs'::a::as)∧BkAt (upd H5 mk (.dK (zx kv5 (.inr rd) (.ref l)))) mk (zx kv5 (.inr rd) (.ref l)) (a.putR rd hs') (wg t b)∧(zx kv5 (.inr rd) (.ref l)).length≤8+3*j∧LOk (a.putR rd hs') (wg t b) (j+1)∧Kb [o.dr,o.dw,o.dd] H (upd H5 mk (.dK (zx kv5 (.inr rd) (.ref l)))):=λ{H5 o' hs' l kv5} nx v5 b5 lk5 fl lo lge lle kb=>by
   refine ⟨v5.put_ b5.at_ (by rw [nx.dr,nx.dw,nx.dd];exact nmd) (qvs v.h nx nmk0 f2),b5.putR (by lia) nwr fl lo,by have:=x9 kv5 (Sum.inr rd:Key) (.ref l);lia,(lok.next (by lia)).putR hrd lle (hpq.grow lo lge),λc u nc e=>?_⟩
   rw [wj (qg e nmk0)]
   exact kb c u nc e
  have nx2:∀ {H':Hp} {o':Ho},Same H2 H'→Nxt H' o o'→Nxt H2 o o':=λ{H' o'} s nx=>by
   obtain ⟨d,ed,n1,n2⟩:=nx.ds
   exact ⟨nx.x,nx.dr,nx.dw,nx.dd,d,ed,xk s n1,xk s n2⟩
  refine exI rfl ⟨rfl,_,rfl,jz (λz0=>?_) (λz0=>?_)⟩
  ·refine exI rfl (exI rfl (exI rfl ⟨hl,exI rfl ⟨.inl (SqL.of f3),?_⟩⟩))
   rw [lm]
   refine ⟨sa,ns,_,_,_,rfl,hS3,(by lia),(by lia),(by lia),(by lia),λr4 _ l4 u4=>?_⟩
   refine exI rfl (exI rfl (exI rfl ⟨hl,exI rfl ⟨.inl (SqL.of f3),?_⟩⟩))
   rw [lm]
   refine ⟨sa,ns,_,_,_,rfl,hS3,(by lia),(by lia),(by lia),(by lia),λr5 _ l5 u5=>?_⟩
   refine exI rfl (exI rfl ⟨hl,_,r4,r4.toNat,rfl,rfl,f3,ix_of (by lia) (by rw [lm];lia),?_⟩)
   rw [Yk]
   have s24:Same H2 (upd H3 hl (.lst ((hs.set r4.toNat r5).map V.int))):=λc u e=>by rw [wj (qg e nhl)];exact s3' _ _ e
   have f4:upd H3 hl (.lst ((hs.set r4.toNat r5).map V.int)) hl=some (.lst ((hs.set r4.toNat r5).map V.int)):=qh
   generalize upd H3 hl (.lst ((hs.set r4.toNat r5).map V.int))=H4 at s24 f4
   have v4:=v.same (s02.trans s24)
   obtain ⟨dx4,hx4⟩:=v4.h.hs.ob
   have at4:atI ((hs.set r4.toNat r5).map V.int) r4=some (.int r5):=by
    have:atI ((hs.set r4.toNat r5).map V.int) ((r4.toNat:Nat):Int)=some (.int r5):=Yv (by rw [aK,dm (by lia)];rfl)
    rwa [show ((r4.toNat:Nat):Int)=r4 by lia] at this
   refine exI rfl ⟨o.x,dx4,exI rfl ⟨hx4,xz (by decide +kernel) (by decide +kernel) (by decide +kernel),exI rfl (exI rfl (exI rfl (exI rfl (exX rfl rfl (SqL.of f4) at4 ?_))))⟩⟩
   dsimp only [z9,j3,tC]
   have lo:=wxc ok (i:=r4.toNat) l5 u5
   have lset:(hs.set r4.toNat r5).length=hs.length:=cG
   refine v4.bends nm (by lia) (by lia) er l4 u4 lo λH5 o' nx v5 kb=>?_
   have d4:=v4.h.dl
   have mb5:=(mb2.same s24).kb d4 kb nmd
   have kbH:Kb [o.dr,o.dw,o.dd] H H5:=λc u nc e=>kb c u nc ((s02.trans s24) _ _ e)
   refine exI rfl (exI rfl (exI rfl ⟨mk,exI rfl ⟨DPut.k (k:=.inr rd) mb5.at_ (by lia),?_⟩⟩))
   obtain ⟨e1,e2,e3,e4,e5⟩:=endR (nx2 s24 nx) v5 mb5 lk (d4.row kb lo f4) lo (by lia) (by lia) kbH
   exact ⟨_,_,_,_,o',_,_,rfl,nx2 s24 nx,e1,e2,e3,e4,e5⟩
  refine exI rfl ⟨rfl,_,rfl,jz (λz1=>?_) (λz1=>?_)⟩
  ·refine exI rfl (exI rfl (exI rfl ⟨hl,exI rfl ⟨.inl (SqL.of f3),wt rfl rfl ?_⟩⟩))
   rw [lm]
   refine ⟨sa,ns,_,_,_,rfl,hS3,(by lia),(by lia),(by lia),(by lia),λr4 _ l4 u4=>?_⟩
   refine exI rfl ⟨o.x,dx,exI rfl ⟨hx,xz (by decide +kernel) (by decide +kernel) (by decide +kernel),exI rfl (exI rfl ?_)⟩⟩
   dsimp only [z9,j3,tC]
   have lo:=wzp ok (by lia) l4 (by lia)
   have la:(hs++[r4]).length=hs.length+1:=by rw [aV];rfl
   refine v3.widens nm (by lia) (by lia) er lo λH5 o' nx v5 kb=>?_
   have d3:=v3.h.dl
   have mb5:=mb3.kb d3 kb nmd
   have f35:=d3.row kb ok f3
   refine exI rfl (exI rfl ⟨sz1,λp2 n2=>?_⟩)
   have t6:=Same.upd (H:=H5) (o:=.lst [.int r4]) n2
   have g2:upd H5 p2 (.lst [.int r4]) p2=some (.lst [.int r4]):=qh
   generalize upd H5 p2 (.lst [.int r4])=H6 at t6 g2
   refine ⟨hl,p2,wt rfl rfl ⟨t6 _ _ f35,g2,(by rw [lm];show hs.length+1≤_;lia),λp3 n3=>?_⟩⟩
   rw [show hs.map V.int++[V.int r4]=(hs++[r4]).map V.int by rw [ba];rfl]
   have t7:=t6.trans (Same.upd (H:=H6) (o:=.lst ((hs++[r4]).map V.int)) n3)
   have g3:upd H6 p3 (.lst ((hs++[r4]).map V.int)) p3=some (.lst ((hs++[r4]).map V.int)):=qh
   generalize upd H6 p3 (.lst ((hs++[r4]).map V.int))=H7 at t7 g3
   have mb7:=mb5.same t7
   have kbH:Kb [o.dr,o.dw,o.dd] H H7:=λc u nc e=>t7 _ _ (kb c u nc (s3 _ _ e))
   refine exI rfl (exI rfl ⟨mk,exI rfl ⟨DPut.k (k:=.inr rd) mb7.at_ (by lia),?_⟩⟩)
   obtain ⟨e1,e2,e3,e4,e5⟩:=endR (nx2 s3' nx) (v5.same t7) mb7 lk g3 lo (by lia) (by lia) kbH
   exact ⟨_,_,_,_,o',_,_,rfl,nx2 s3' nx,e1,e2,e3,e4,e5⟩
  refine exI rfl ⟨rfl,_,rfl,jz (λz2=>?_) (λz2=>?_)⟩
  ·refine exI rfl ⟨o.x,dx,exI rfl ⟨hx,xz (by decide +kernel) (by decide +kernel) (by decide +kernel),exI rfl (exI rfl ?_)⟩⟩
   dsimp only [z9,j3,tC]
   refine v3.togs nm (by lia) (by lia) er wi λl H5 o' tv nx v5 htv kb _ _=>?_
   have d3:=v3.h.dl
   have mb5:=mb3.kb d3 kb nmd
   have hb5:=hb3.kb d3 kb nbk
   have tg5:=d3.tup kb tg3
   refine ⟨sz3,λlx nlx=>?_⟩
   have t6:=Same.upd (H:=H5) (o:=.lst [.str "a",.str "b",.str "c"]) nlx
   have fx:upd H5 lx (.lst [.str "a",.str "b",.str "c"]) lx=some (.lst [.str "a",.str "b",.str "c"]):=qh
   generalize upd H5 lx (.lst [.str "a",.str "b",.str "c"])=H6 at t6 fx
   have hb6:=hb5.same t6
   have mb6:=mb5.same t6
   have tg6:=t6 _ _ tg5
   have bmk:bk≠mk:=mne hb1.at_
   have sp6:∀ {n:Str} {w1:Wk},a.ws n=some w1→w1.wh=rd→Sp6 hs w1.pt:=λ{n w1} e h=>by
    obtain ⟨_,hs',er',hp⟩:=v3.rep.ok.wo n w1 e
    rw [h,er] at er'
    cases er'
    exact ⟨hp,(lok.wo n w1 e).2.2,by lia⟩
   have wsT:∀n,(a.tog rd hs r3.toNat tv).ws n=(match a.ws n with|none=>none|some w1=>if w1.wh=rd then some (Wk.mk rd (itP hs w1.pt r3.toNat) (tv n)) else some w1):=λn=>rfl
   refine ⟨_,rfl,⟨_,SqL.of fx⟩,uu (K:=K) (a:=lx) (xs:=[.str "a",.str "b",.str "c"]) (λx σ Hx=>∃kv z14,σ=[some (.ref o.x),some (.ref bk),some (.ref sa),some (.int i),some (.ref pa),some (.int r0),some (.str rd),some (.str nn),some (.int r3),some (.ref tg),some (.ref mk),some (.ref hl),none,none,z14]∧BkAt Hx mk kv (ahT a (a.tog rd hs r3.toNat tv) x) (wg t b)∧kv.length≤5+3*j+x∧∀c u,c≠mk→H6 c=some u→Hx c=some u) ⟨kvs,exI rfl ⟨mb6.congr (λ_=>rfl) (λ_=>rfl),lk,λc u _ e=>e⟩⟩ (λx σ Hx _ h=>by
    obtain ⟨_,_,_,_,_,kk⟩:=h
    exact SqL.of (kk _ _ (λz=>by rw [z,mb6.at_] at fx;cases fx) fx)) ?_ ?_⟩
   ·rintro x vx σ Hx ex ⟨kv,z14,rfl,hbx,lkx,kk⟩
    have hx3:x<3:=(aT.mp ex).1
    have evx:vx=.str (nmI x):=by
     rcases (by lia:x=0∨x=1∨x=2) with rfl|rfl|rfl <;> (cases ex;rfl)
    subst evx
    have nmx:=qy0 x
    generalize enx:nmI x=nx1 at nmx
    have nb:∀ {c:Aj} {u:HO},H6 c=some u→(∀kv,u≠.dK kv)→Hx c=some u:=λ{c u} e n=>kk c u (λz=>by rw [z,mb6.at_] at e;cases e;exact n _ rfl) e
    have hbb:BkAt Hx bk kvs a (wg t b):=by
     refine ⟨kk _ _ bmk hb6.at_,hb6.ln,λn hs' e=>?_,λn w1 e=>?_,hb6.no⟩
     ·obtain ⟨l',a1,a2,a3⟩:=hb6.rs n hs' e
      exact ⟨l',a1,nb a2 (λ_ z=>by cases z),a3⟩
     ·obtain ⟨q',s',a1,a2,a3⟩:=hb6.ws n w1 e
      exact ⟨q',s',a1,nb a2 (λ_ z=>by cases z),nb a3 (λ_ z=>by cases z)⟩
    have stay:(a.tog rd hs r3.toNat tv).ws nx1=a.ws nx1→∃kv z14',[some (V.ref o.x),some (V.ref bk),some (V.ref sa),some (V.int i),some (V.ref pa),some (V.int r0),some (V.str rd),some (V.str nn),some (V.int r3),some (V.ref tg),some (V.ref mk),some (V.ref hl),none,none,some (V.str nx1)]=[some (.ref o.x),some (.ref bk),some (.ref sa),some (.int i),some (.ref pa),some (.int r0),some (.str rd),some (.str nn),some (.int r3),some (.ref tg),some (.ref mk),some (.ref hl),none,none,z14']∧BkAt Hx mk kv (ahT a (a.tog rd hs r3.toNat tv) (x+1)) (wg t b)∧kv.length≤5+3*j+(x+1)∧∀c u,c≠mk→H6 c=some u→Hx c=some u:=λe=>⟨kv,_,rfl,hbx.congr (λ_=>rfl) (λm=>by
     rw [qv1 hx3]
     by_cases z:m=nmI x
     ·rw [aj z,z,wvg hx3,enx]
      exact e
     ·rw [af z]),by lia,kk⟩
    have dgx:=hbb.get nx1
    refine exI rfl (exI rfl ⟨bk,exI rfl ⟨dgx,_,rfl,?_⟩⟩)
    cases ew:a.ws nx1 with
    |none =>
     rw [hbb.no nx1 (lok.abc nmx) ew]
     exact Qy (stay (by rw [wsT,ew]))
    |some w1 =>
     obtain ⟨q1,sp1,ev1,fq1,fs1⟩:=hbb.ws nx1 w1 ew
     have dgx:=hbb.get nx1
     rw [ev1] at dgx
     rw [ev1]
     refine j8 ?_
     refine exI rfl (exI rfl ⟨bk,exI rfl ⟨dgx,exX rfl rfl (SqT.of fq1) rfl (exI rfl ⟨rfl,_,rfl,k6 (λzw=>?_) (λzw=>?_)⟩)⟩⟩)
     ·have zw:w1.wh=rd:=by injection zw
      refine ⟨_,rfl,_,rfl,_,rfl,_,rfl,bk,tg,kvs,a,wg t b,nx1,r3,w1,hs,rfl,hbb,ew,by rw [zw];exact er,sp6 ew zw,nb tg6 (λ_ z=>by cases z),l3,by lia,λq sp Hy ty fq fs=>?_⟩
      have hby:=hbx.same ty
      refine exI rfl (exI rfl ⟨mk,exI rfl ⟨DPut.k (k:=.inr nx1) hby.at_ (by lia),?_⟩⟩)
      have e1:(a.tog rd hs r3.toNat tv).ws nx1=some ⟨rd,itP hs w1.pt r3.toNat,tv nx1⟩:=by
       rw [wsT,ew]
       exact aj zw
      have ht:=htv nx1 w1 ew zw
      have fq':Hy q=some (.tup [.str rd,.ref sp,.int (k4 (tv nx1) (wg t b))]):=by rw [qkf ht.2,←zw];exact fq
      have pw:=hby.putW (n:=nx1) (w:=⟨rd,itP hs w1.pt r3.toNat,tv nx1⟩) (q:=q) (sp:=sp) (by lia) (lok.abc nmx) fq' fs
      refine ⟨_,_,rfl,pw.congr (λ_=>rfl) (λm=>?_),by have:=x9 kv (Sum.inr nx1:Key) (.ref q);lia,λc u n e=>?_⟩
      ·rw [qv1 hx3]
       show _=if m=nx1 then some _ else _
       by_cases z:m=nmI x
       ·rw [aj z,z,enx,aj rfl,e1]
       ·rw [af z,af (λy=>z (by rw [y,enx]))]
      ·rw [wj n]
       exact ty _ _ (kk c u n e)
     ·refine stay ?_
      rw [wsT,ew]
      exact af λy=>zw (by rw [y])
   ·rintro σ Hx ⟨kv,z14,rfl,hbx,lkx,kk⟩
    have kbm:Kb [mk] H6 Hx:=λc u n e=>kk c u (λz=>n (by simp [z])) e
    have nxx:=nx2 s3' nx
    have bfin:BkAt Hx mk kv (a.tog rd hs r3.toNat tv) (wg t b):=hbx.congr (λ_=>rfl) λm=>by
     show _=if m∈abc.take 3 then (a.tog rd hs r3.toNat tv).ws m else a.ws m
     by_cases z:m∈abc.take 3
     ·rw [aj z]
     ·rw [af z,wsT]
      cases ew:a.ws m with
      |none=>rfl
      |some w1 =>
       refine absurd ?_ z
       show m∈abc
       unfold abc
       rcases (lok.wo m w1 ew).1 with rfl|rfl|rfl <;> simp
    refine ⟨_,_,_,_,o',kv,exI rfl ⟨nxx,(v5.same t6).putK_ mb6.at_ (by rw [nx.dr,nx.dw,nx.dd];exact nmd) (qvs v.h nxx nmk0 f2) kbm,bfin,(by show kv.length≤8+3*j;have:kv.length≤5+3*j+3:=lkx;lia),⟨lok.r,lok.s,λn hs' e=>(lok.next (by lia)).ro n hs' e,λn w' e=>?_,lok.b6,by lia⟩,λc u nc e=>kk c u (qg e nmk0) (t6 _ _ (kb c u nc (s3 _ _ e)))⟩⟩
    rw [wsT] at e
    cases ew:a.ws n with
    |none=>rw [ew] at e;cases e
    |some w1 =>
     rw [ew] at e
     obtain ⟨c1',c2',c3'⟩:=lok.wo n w1 ew
     have e:(if w1.wh=rd then some (Wk.mk rd (itP hs w1.pt r3.toNat) (tv n)) else some w1)=some w':=e
     by_cases zw:w1.wh=rd
     ·rw [aj zw] at e
      cases e
      exact ⟨c1',hrd,((sp6 ew zw).it r3.toNat).b⟩
     ·rw [af zw] at e
      have e:w1=w':=by injection e
      rw [←e]
      exact ⟨c1',c2',c3'⟩
  have dgn:=hb3.get nn
  have enr:=lok.abc hnm
  refine exI rfl (exI rfl ⟨bk,exI rfl ⟨dgn,_,rfl,?_⟩⟩)
  cases ew:a.ws nn with
  |none =>
   rw [hb3.no nn enr ew]
   refine j8 ?_
   refine exI rfl ⟨o.x,dx,exI rfl ⟨hx,xz (by decide +kernel) (by decide +kernel) (by decide +kernel),exI rfl (exI rfl (exI rfl ?_))⟩⟩
   dsimp only [z9,j3,tC]
   refine v3.places nm (by lia) (by lia) (by rcases hnm with rfl|rfl|rfl <;> decide +kernel) (by rcases hnm with rfl|rfl|rfl <;> decide +kernel) ew er pa3 b1 ((Sm.small (n:=65) (by lia) (by lia) (by decide)).mono (by decide)) hpq λH5 o' nx v5 kb=>?_
   have d3:=v3.h.dl
   have mb5:=mb3.kb d3 kb nmd
   refine exI rfl (exI rfl ⟨sz3,λq nq=>?_⟩)
   have t6:=Same.upd (H:=H5) (o:=.tup [.str rd,.ref tg,.int 1]) nq
   have fq:upd H5 q (.tup [.str rd,.ref tg,.int 1]) q=some (.tup [.str rd,.ref tg,.int 1]):=qh
   generalize upd H5 q (.tup [.str rd,.ref tg,.int 1])=H6 at t6 fq
   have mb6:=mb5.same t6
   have kbH:Kb [o.dr,o.dw,o.dd] H H6:=λc u nc e=>t6 _ _ (kb c u nc (s3 _ _ e))
   refine exI rfl (exI rfl ⟨mk,exI rfl ⟨DPut.k (k:=.inr nn) mb6.at_ (by lia),?_⟩⟩)
   obtain ⟨e1,e2,e3,e4,e5⟩:=endW (w':=qz3 rd (wg t b)) (a':=a) hnm (nx2 s3' nx) (v5.same t6) mb6 lk (by rw [qvr];exact fq) (t6 _ _ (d3.tup kb tg3)) hrd lok.b6 kbH
   exact ⟨_,_,_,_,o',_,_,rfl,nx2 s3' nx,e1,e2,e3,e4,e5⟩
  |some w0 =>
   obtain ⟨q0,sp0,evn,fq0,fsp0⟩:=hb3.ws nn w0 ew
   obtain ⟨_,hwh,hw6⟩:=lok.wo nn w0 ew
   rw [evn]
   refine Qy ?_
   refine exI rfl ⟨rfl,_,rfl,jz (λz3=>?_) (λz3=>?_)⟩
   ·refine exI rfl ⟨o.x,dx,exI rfl ⟨hx,xz (by decide +kernel) (by decide +kernel) (by decide +kernel),_,rfl,?_⟩⟩
    dsimp only [z9,j3,tC]
    refine v3.leaves nm (by lia) (by lia) ew λH5 o' nx v5 kb=>?_
    have d3:=v3.h.dl
    have mb5:=mb3.kb d3 kb nmd
    obtain ⟨q5,sp5,evm,_⟩:=mb5.ws nn w0 ew
    refine exI rfl ⟨mk,rfl,.inl ⟨kvs,.inl mb5.at_⟩,exI rfl ⟨kvs,.inr nn,_,mb5.at_,rfl,evm,?_⟩⟩
    refine ⟨_,_,_,_,o',_,_,rfl,nx2 s3' nx,v5.put_ mb5.at_ (by rw [nx.dr,nx.dw,nx.dd];exact nmd) (qvs v.h (nx2 s3' nx) nmk0 f2),mb5.delW enr,by have:=ug kvs (Sum.inr nn:Key);lia,(lok.delW nn).next (by lia),λc u nc e=>?_⟩
    rw [wj (qg e nmk0)]
    exact kb c u nc (s3 _ _ e)
   ·refine exI rfl ⟨o.x,dx,exI rfl ⟨hx,xz (by decide +kernel) (by decide +kernel) (by decide +kernel),exI rfl (exI rfl ?_)⟩⟩
    dsimp only [z9,j3,tC]
    obtain ⟨nww,hsw,erw⟩:=lok.rsn hwh
    obtain ⟨tmw,hsw',erw',hpw⟩:=v3.rep.ok.wo nn w0 ew
    rw [erw] at erw'
    cases erw'
    obtain ⟨_,lhw,_⟩:=lok.ro _ hsw erw
    have sp6:Sp6 hsw w0.pt:=⟨hpw,hw6,by lia⟩
    refine v3.goes nm (by lia) (by lia) ew erw wi λH5 o' p tv' nx v5 tm' hit kb _=>?_
    have d3:=v3.h.dl
    have mb5:=mb3.kb d3 kb nmd
    have hb5:=hb3.kb d3 kb nbk
    refine ⟨_,rfl,_,rfl,_,rfl,_,rfl,bk,tg,kvs,a,wg t b,nn,r3,w0,hsw,rfl,hb5,ew,erw,sp6,d3.tup kb tg3,l3,by lia,λq sp H6 t6 fq fs=>?_⟩
    have mb6:=mb5.same t6
    have kbH:Kb [o.dr,o.dw,o.dd] H H6:=λc u nc e=>t6 _ _ (kb c u nc (s3 _ _ e))
    refine exI rfl (exI rfl ⟨mk,exI rfl ⟨DPut.k (k:=.inr nn) mb6.at_ (by lia),?_⟩⟩)
    have i6:=(sp6.it r3.toNat).b
    obtain ⟨e1,e2,e3,e4,e5⟩:=endW (w':=⟨w0.wh,itP hsw w0.pt r3.toNat,tv'⟩) (a':=a) hnm (nx2 s3' nx) (v5.same t6) mb6 lk (by rw [qkf hit];exact fq) fs hwh i6 kbH
    exact ⟨_,_,_,_,o',_,_,rfl,nx2 s3' nx,e1,e2,e3,e4,e5⟩
 ·rintro σ H' ⟨z11,z12,z13,z14,o',kvs',a',rfl,nx,v',hb',lk',lok',kb⟩
  obtain ⟨d,ed,n1,n2⟩:=nx.ds
  exact exI rfl (k H' o' mk kvs' a' ⟨nx.x,nx.dr,nx.dw,nx.dd,d,ed,xk (s1.trans s2') n1,xk (s1.trans s2') n2⟩ v' hb' lk' lok' nmk0 (qvs v.h nx nmk0 f2) kb)
end
section
variable {P:Ac}{w:Ah}{K:Aa}{mg:Str→Option Ag}{base:Heap}{qd:Aj}{qm:Aj}{qx:Aj}{qp:Aj}{qf:Aj}{wz:Aj}{wv:Aj}{qr:Aj}{wy:Aj}{q8:Aj}{qj:Aj}{wb:Aj}{qz:Aj}{qu:Aj}{qw:Aj}{qq:Aj}
def whN (n:Str)(pt:Int×Int):PyData:=.tuple [.str n,ptD pt]
theorem wvz {K:Aa}{H:Hp}{n:Str}{q p:Aj}{pt:Int×Int}(h:H q=some (.tup [.str n,.ref p]))(h2:H p=some (.tup [.int pt.1,.int pt.2])):RD K H (whN n pt) (.ref q):=by
 unfold whN
 rw [RD]
 refine ⟨q,exI rfl ⟨SqT.of h,?_⟩⟩
 rw [RDs]
 refine ⟨_,_,rfl,?_,?_⟩
 ·rw [RD]
 ·rw [RDs]
  exact ⟨_,_,rfl,qqc (SqT.of h2),by rw [RDs]⟩
theorem wjw (n:Str)(pt:Int×Int):PyData.eqv (whN n pt) (whN n pt)=true:=by
 unfold whN
 rw [PyData.eqv,PyData.eqvAll,PyData.eqvAll,PyData.eqvAll,qvq,bn rfl,PyData.eqv]
 simp
theorem qur {n:Str}(h:PyData.strOk n=true)(pt:Int×Int):(whN n pt).canLay0=true:=by
 simp [whN,ptD,PyData.canLay0,PyData.canLayAll0,h]
theorem wjk (n:Str)(pt:Int×Int):min (whN n pt).depth (whN n pt).depth≤60:=by
 simp [whN,ptD,PyData.depth,PyData.depthAll]
theorem Yc {A B:Prop}{d e:PyData}(h:PyData.eqv d e=true)(k:B):if (if true=true then !PyData.eqv d e else PyData.eqv d e)=true then A else B:=by
 rw [h]
 exact k
theorem W9 (ns:List Int):PyData.eqv (.list (ns.map .int)) (.list (ns.map .int))=true:=by
 rw [PyData.eqv,Y1,bn rfl]
theorem Qq {K:Aa}{H:Hp}{p:Aj}{ns:List Int}(h:SqL K H p (ns.map V.int)):RD K H (.list (ns.map .int)) (.ref p):=by
 rw [RD]
 exact ⟨p,exI rfl ⟨h,qu2 ns⟩⟩
theorem yb (ns:List Int):(PyData.list (ns.map .int)).canLay0=true:=by
 rw [PyData.canLay0]
 exact qks ns
theorem qqn (ns ms:List Int):min (PyData.list (ns.map .int)).depth (PyData.list (ms.map .int)).depth≤60:=by
 have h1:=qvp ns
 simp only [PyData.depth]
 lia
theorem wzf {tv:List (List Key×V)}(h:TmOk tv)(q:Int×Int):cntT tv q=.int (k4 tv q):=by
 unfold cntT k4
 cases e:wc tv [.inl q.1,.inl q.2] with
 |none=>rfl
 |some v =>
  have:∃kv∈tv,kv.2=v:=by
   unfold wc at e
   obtain ⟨kv,e1,e2⟩:=cC.mp e
   exact ⟨kv,cV e1,e2⟩
  obtain ⟨kv,hk,rfl⟩:=this
  obtain ⟨a,b,c,rfl,_⟩:=h.2.2 kv hk
  rfl
def Q3 (C CR CW:Aj):Sp:=λvs H Q _=>∃(o:Ho) (bk pa:Aj) (kvs:List (Key×V)) (a:AH) (as:List AH) (t b:Int) (n:Str) (w:Wk),vs=[.ref o.x,.ref bk,.str n,.ref pa]∧VH C CR CW H o (a::as)∧BkAt H bk kvs a (wg t b)∧a.ws n=some w∧(w.wh = "r" ∨ w.wh = "s")∧yz H pa (t,b)∧1≤b∧b≤1000∧∀H',Same H H'→Q (.bl true) H'
set_option maxHeartbeats 0 in
theorem qx6 {f:Aj}{fd:Ad}(F:Fun K "_law_walker_is" "_law_walker_is" s__law_walker_is f fd)(T:Txt K mg qd qm qx qp qf wz wv qr wy q8 qj wb qz qu qw qq)(c_where:MCal P w K mg base qq "where" 2 (qzx qq qw qj))(c_stood:MCal P w K mg base qq "stood" 3 (qx3 qq qw qj qx))(c__law_whole:Cal P w K mg base "_law_whole" 1 qzv) :
  FnOk P w K mg base (CXE P w) 4 f fd ["_law_house","_law_book_here","_law_name","_law_point"] (Q3 qq qu qw):=by
 have sc:=Ww
 refine F.okX sc (λvs H Q E h=>by obtain ⟨o,bk,pa,kvs,a,as,t,b,n,w,rfl,_⟩:=h;rfl) (λcdv A outer s H vs Q E hr h=>?_)
 obtain ⟨o,bk,pa,kvs,a,as,t,b,n,wk,rfl,v,hb,en,hwh,hpa,b1,b2,k⟩:=h
 obtain ⟨dx,hx⟩:=v.h.hs.ob
 obtain ⟨y,p,tt,ey,wky⟩:=v.rep.wk en
 obtain ⟨tm,_⟩:=v.rep.ok.wo n wk en
 obtain ⟨q,sp,ev,fq,fs⟩:=hb.ws n wk en
 have so:PyData.strOk wk.wh=true:=by rcases hwh with h|h <;> rw [h] <;> decide +kernel
 refine ⟨_,(qb (w6 (i:=4) sc.nd rfl (by walk_at "loc") (w4 (pv 0) T.clH c_where (hr.mono (by decide)) qy (q9 (pv 2) qk)))
   (qb (x4 (PW.pt (Qc (qqg (qq3 (xq ud rfl T.isinstance_ cL (q9 (pv 4) (q9 (qvm (v:=V.ty "tuple") rfl T.tuple_ PyProof.Rows.boot_tuple rfl) qk))))) (yq (wn (qvf hr.units) (pv 4) (wxs wyd (zf (zy hr) (pv 1) (pv 2) (λ_ _=>rfl)) wyg (wyr wx)) (w9 _))))) (wq (wp W7)) xy)
   (qb (w6 (i:=5) sc.nd rfl (by walk_at "loc") (w4 (pv 0) T.clH c_stood (hr.mono (by decide)) qy (q9 (pv 2) (q9 (pv 3) qk))))
   (wq (wp (qvk (wf c__law_whole (hr.mono (by decide)) rfl qy (q9 (pv 5) qk)) (qz4 (Qv ku (pv 5) (zq zd (zf (zy hr) (pv 1) (pv 2) (λ_ _=>rfl)) wx (λ_ _=>rfl)) (w9 _))))))))),?_⟩
 refine exI rfl ⟨o.x,dx,exI rfl ⟨hx,xz (by decide +kernel) (by decide +kernel) (by decide +kernel),exI rfl ⟨o.x,o.dr,o.dw,o.dd,o.R,o.W,_,n,rfl,v.h.hs,(λz=>by rw [ey] at z;cases z),λu eu=>?_⟩⟩⟩
 rw [ey] at eu
 cases eu
 refine ⟨y,wk.wh,p,wk.pt,tt,wk.tv,rfl,wky,λq1 n1=>?_⟩
 have s1:=Same.upd (H:=H) (o:=.tup [.str wk.wh,.ref p]) n1
 have f1:upd H q1 (.tup [.str wk.wh,.ref p]) q1=some (.tup [.str wk.wh,.ref p]):=qh
 generalize upd H q1 (.tup [.str wk.wh,.ref p])=H1 at s1 f1
 have hb1:=hb.same s1
 have dg:=hb1.get n
 rw [ev] at dg
 refine exI rfl ⟨_,_,_,_,rfl,TyOf.tup f1,rfl,_,rfl,Qy ?_⟩
 refine exI rfl (exI rfl (exI rfl ⟨bk,exI rfl ⟨dg,exI rfl ⟨q,exI rfl ⟨SqT.of (s1 _ _ fq),(λz=>absurd z.2 (show ¬ HT.sIx 3 3 (some 2)=3 by decide)),λ_ q2 n2=>?_⟩⟩⟩⟩))
 have ec:cutV [V.str wk.wh,.ref sp,.int (k4 wk.tv (wg t b))] none (some 2)=[.str wk.wh,.ref sp]:=rfl
 rw [ec]
 have s2':=Same.upd (H:=H1) (o:=.tup [.str wk.wh,.ref sp]) n2
 have f2:upd H1 q2 (.tup [.str wk.wh,.ref sp]) q2=some (.tup [.str wk.wh,.ref sp]):=qh
 generalize upd H1 q2 (.tup [.str wk.wh,.ref sp])=H2 at s2' f2
 have s2:=s1.trans s2'
 refine ⟨_,_,wvz (pt:=wk.pt) (s2' _ _ f1) (s2 _ _ wky.pt),wvz (pt:=wk.pt) f2 (s2 _ _ fs),qur so _,qur so _,wjk _ _,_,rfl,Yc (wjw _ _) ?_⟩
 have v2:=v.same s2
 obtain ⟨dx2,hx2⟩:=v2.h.hs.ob
 refine exI rfl ⟨o.x,dx2,exI rfl ⟨hx2,xz (by decide +kernel) (by decide +kernel) (by decide +kernel),exI rfl (exI rfl ⟨o.x,o.dr,o.dw,o.dd,pa,o.R,o.W,_,n,t,b,rfl,v2.h.hs,s2 _ _ hpa,(λz=>by rw [ey] at z;cases z),λu eu=>?_⟩)⟩⟩
 rw [ey] at eu
 cases eu
 refine ⟨y,wk.wh,p,wk.pt,tt,wk.tv,rfl,wky.same s2,(λz=>absurd z (by lia)),λ_=>⟨(Sm.small (n:=65) (by lia) (by lia) (by decide)).mono (by decide),λH3 s3=>?_⟩⟩
 rw [wzf tm]
 have hb3:=(hb1.same s2').same s3
 have dg3:=hb3.get n
 rw [ev] at dg3
 have s23:=s2.trans s3
 refine exI rfl (exI rfl (exI rfl (j8 ?_)))
 refine exI rfl (exI rfl (exI rfl ⟨bk,exI rfl ⟨dg3,exX rfl rfl (SqT.of (s23 _ _ fq)) rfl ⟨rfl,?_⟩⟩⟩))
 show Q (.bl (decide (V.int (k4 wk.tv (wg t b))=V.int (k4 wk.tv (wg t b))))) _
 rw [bn rfl]
 exact k _ s23
end
section
variable {P:Ac}{w:Ah}{K:Aa}{mg:Str→Option Ag}{base:Heap}{qd:Aj}{qm:Aj}{qx:Aj}{qp:Aj}{qf:Aj}{wz:Aj}{wv:Aj}{qr:Aj}{wy:Aj}{q8:Aj}{qj:Aj}{wb:Aj}{qz:Aj}{qu:Aj}{qw:Aj}{qq:Aj}
theorem qup {K:Aa}{H:Hp}:∀ms:List Str,RDs K H (ms.map .str) (ms.map V.str)
 |[]=>by rw [bD,bD,RDs]
 |m::ms=>by
  rw [ax,ax,RDs]
  exact ⟨_,_,rfl,by rw [RD],qup ms⟩
theorem wqd {K:Aa}{H:Hp}{l:Aj}{ms:List Str}(h:H l=some (.lst (ms.map V.str))):RD K H (.list (ms.map .str)) (.ref l):=by
 rw [RD]
 exact ⟨l,exI rfl ⟨SqL.of h,qup ms⟩⟩
theorem Jd:∀ms:List Str,PyData.eqvAll (ms.map .str) (ms.map .str)=true
 |[]=>by rw [bD,PyData.eqvAll]
 |m::ms=>by
  rw [ax,PyData.eqvAll,Jd ms,PyData.eqv]
  simp
def qz5 (ms ns:List Str):PyData:=.tuple [.list (ms.map .str),.list (ns.map .str)]
theorem wqu {K:Aa}{H:Hp}{q l1 l2:Aj}{ms ns:List Str}(h:H q=some (.tup [.ref l1,.ref l2]))(h1:H l1=some (.lst (ms.map V.str)))(h2:H l2=some (.lst (ns.map V.str))):RD K H (qz5 ms ns) (.ref q):=by
 unfold qz5
 rw [RD]
 refine ⟨q,exI rfl ⟨SqT.of h,?_⟩⟩
 rw [RDs]
 refine ⟨_,_,rfl,wqd h1,?_⟩
 rw [RDs]
 exact ⟨_,_,rfl,wqd h2,by rw [RDs]⟩
theorem wzv (ms ns:List Str):PyData.eqv (qz5 ms ns) (qz5 ms ns)=true:=by
 unfold qz5
 rw [PyData.eqv,PyData.eqvAll,PyData.eqvAll,PyData.eqvAll,PyData.eqv,PyData.eqv,Jd,Jd]
 rfl
theorem Jk:∀ {ms:List Str},(∀m∈ms,PyData.strOk m=true)→PyData.canLayAll0 (ms.map .str)=true
 |[],_=>by simp [PyData.canLayAll0]
 |m::ms,h=>by
  have a:=h m (aJ ..)
  have b:=Jk λx hx=>h x (aE _ hx)
  simp [PyData.canLayAll0,PyData.canLay0,a,b]
theorem qkp {ms ns:List Str}(h1:∀m∈ms,PyData.strOk m=true)(h2:∀m∈ns,PyData.strOk m=true):(qz5 ms ns).canLay0=true:=by
 simp [qz5,PyData.canLay0,PyData.canLayAll0,Jk h1,Jk h2]
theorem qqr:∀ms:List Str,PyData.depthAll (ms.map .str)≤1
 |[]=>by simp [PyData.depthAll]
 |m::ms=>by
  have:=qqr ms
  simp only [ax,PyData.depthAll,PyData.depth]
  lia
theorem wz3 (ms ns:List Str)(d:PyData):min (qz5 ms ns).depth d.depth≤60:=by
 have a:=qqr ms
 have b:=qqr ns
 simp only [qz5,PyData.depth,PyData.depthAll]
 lia
theorem qqt:∀ {l m:List Str},l.Nodup→m.Nodup→(∀x,x∈l↔x∈m)→l.Pairwise (λx y=>¬ y.cps.toList<x.cps.toList)→m.Pairwise (λx y=>¬ y.cps.toList<x.cps.toList)→l=m
 |[],[],_,_,_,_,_=>rfl
 |[],y::m,_,_,h,_,_=>absurd ((h y).mpr (aJ ..)) am
 |x::l,[],_,_,h,_,_=>absurd ((h x).mp (aJ ..)) am
 |x::l,y::m,n1,n2,h,p1,p2=>by
  obtain ⟨a1,m1⟩:=aN.mp n1
  obtain ⟨a2,m2⟩:=aN.mp n2
  obtain ⟨b1,q1⟩:=dh.mp p1
  obtain ⟨b2,q2⟩:=dh.mp p2
  have exy:x=y:=by
   rcases ak.mp ((h x).mp (aJ ..)) with z|z
   ·exact z
   ·rcases ak.mp ((h y).mpr (aJ ..)) with w|w
    ·exact w.symm
    ·have e:=List.le_antisymm (as:=x.cps.toList) (bs:=y.cps.toList) (b1 y w) (b2 x z)
     cases x;cases y
     simpa using e
  subst exy
  have:l=m:=qqt m1 m2 (λz=>by
   have hz:=h z
   simp only [ak] at hz
   constructor
   ·intro hl
    rcases hz.mp (.inr hl) with w|w
    ·exact absurd (w▸hl) a1
    ·exact w
   ·intro hm
    rcases hz.mpr (.inr hm) with w|w
    ·exact absurd (w▸hm) a2
    ·exact w) q1 q2
  rw [this]
def wNm (a:AH):List Str:=abc.filter λn=>(a.ws n).isSome
theorem abc_pw:abc.Pairwise (λx y=>¬ y.cps.toList<x.cps.toList):=by unfold abc;decide +kernel
theorem abc_nd:abc.Nodup:=by unfold abc;decide +kernel
theorem abc_so:∀m∈abc,PyData.strOk m=true:=by unfold abc;decide +kernel
theorem rs_pw:(["r","s"]:List Str).Pairwise (λx y=>¬ y.cps.toList<x.cps.toList):=by decide +kernel
theorem rs_nd:(["r","s"]:List Str).Nodup:=by decide +kernel
theorem rs_so:∀m∈(["r","s"]:List Str),PyData.strOk m=true:=by decide +kernel
theorem wj4 {n:Str}(h:n = "a" ∨ n = "b" ∨ n = "c"):n∈abc:=by unfold abc;rcases h with rfl | rfl | rfl <;> simp
theorem qky {W:List (Key×V)}(nd:(W.map (·.1)).Nodup)(h:RefsF (wc W))(n:Str):n∈W.map J1↔(wc W (.inr n)).isSome=true:=by
 have ek:=(Wp nd h).1
 have:n∈W.map J1↔(Sum.inr n:Key)∈W.map (·.1):=by
  rw [ek]
  exact ⟨λh=>ao.mpr ⟨n,h,rfl⟩,λh=>by
   obtain ⟨n',h',e⟩:=ao.mp h
   have e:n'=n:=by injection e
   rw [←e];exact h'⟩
 rw [this]
 constructor
 ·intro h
  obtain ⟨c,hc,e⟩:=ao.mp h
  have:=km nd hc
  rw [e] at this
  rw [this];rfl
 ·intro h
  obtain ⟨u,eu⟩:=be.mp h
  exact ao.mpr ⟨_,qzr eu,rfl⟩
def spIs (C CR CW:Aj):Sp:=λvs H Q _=>∃(o:Ho) (bk pa:Aj) (kvs:List (Key×V)) (a:AH) (as:List AH) (t b:Int) (j:Nat) (d:Int),vs=[.ref o.x,.ref bk,.ref pa,.int d]∧d=o.ds.length∧VH C CR CW H o (a::as)∧BkAt H bk kvs a (wg t b)∧LOk a (wg t b) j∧yz H pa (t,b)∧1≤b∧b≤1000∧o.ds.length≤100∧∀H',Same H H'→Q (.bl true) H'
set_option maxHeartbeats 0 in
theorem ok_is {f:Aj}{fd:Ad}(F:Fun K "_law_is" "_law_is" s__law_is f fd)(T:Txt K mg qd qm qx qp qf wz wv qr wy q8 qj wb qz qu qw qq)(c_names:MCal P w K mg base qq "names" 1 (qzw qq))(c_deeds:MCal P w K mg base qq "deeds" 1 (qvj qq))(c_corners_of:MCal P w K mg base qq "corners_of" 2 (uw qq qu q8))(c__law_walker_is:Cal P w K mg base "_law_walker_is" 4 (Q3 qq qu qw))(c__law_met:Cal P w K mg base "_law_met" 3 (wvd K))(c_meet:MCal P w K mg base qq "meet" 7 (qvx qq qu qw qj wb)) :
  FnOk P w K mg base (CXE P w) 8 f fd ["_law_house","_law_book_here","_law_point","_law_deeds"] (spIs qq qu qw):=by
 have sc:=qj1
 refine F.okX sc (λvs H Q E h=>by obtain ⟨o,bk,pa,kvs,a,as,t,b,j,d,rfl,_⟩:=h;rfl) (λcdv A outer s H vs Q E hr h=>?_)
 obtain ⟨o,bk,pa,kvs,a,as,t,b,j,d,rfl,rfl,v,hb,lok,hpa,b1,b2,lD,k⟩:=h
 have nm:=lok.nam
 have l5:NM5.length=5:=rfl
 have lens:=v.lens nm
 obtain ⟨hsr,er⟩:=lok.r
 obtain ⟨hss,es⟩:=lok.s
 have k13:=lok.k13
 refine ⟨_,(qb (qkt (i:=4) (M:=[1]) sc.nd rfl (by walk_at "loc") rfl rfl (by walk_at "cap") (by walk_at "has") (by walk_at "cix") rfl (by decide +kernel) rfl (show List.Nodup (["_law_name","_law_book_here"]:List Str) by decide +kernel) (j4 (yw (xx xf (xx xf (xx xf qk))))) (λ_ _ _ _ _=>(Q1 (quc (zy hr) (pv 0) (pv 1)))) (λ_ _ _ _ _=>(pv 0)))
   (qb (x4 (PW.pt (Qc (wn (qvf hr.units) (vg (pv 0) T.clH c_names (hr.mono (by decide)) qy) (vw (pa_cL (yw (xx xf (xx xf qk))) (q9 (pv 4) qk))) (w9 _)) (yq (wn wxp (vg (pv 0) T.clH c_deeds (hr.mono (by decide)) qy) (pv 3) (w9 _))))) (wq (wp W7)) xy)
   (qb (x4 (PW.pt (Qc (wn (qvf hr.units) (w4 (pv 0) T.clH c_corners_of (hr.mono (by decide)) qy (xx xf qk)) (zf (zy hr) (pv 1) xf (λ_ _=>rfl)) (w9 _)) (yq (wn (qvf hr.units) (w4 (pv 0) T.clH c_corners_of (hr.mono (by decide)) qy (xx xf qk)) (zf (zy hr) (pv 1) xf (λ_ _=>rfl)) (w9 _))))) (wq (wp W7)) xy)
   (qb (jj aP rfl (j4 (pv 4)) (xu (i:=5) sc.nd rfl (by walk_at "loc")) (qb (x4 (qqg (qq3 (wf c__law_walker_is (hr.mono (by decide)) rfl qy (q9 (pv 0) (q9 (pv 1) (q9 (pv 5) (q9 (pv 2) qk))))))) (wq (wp W7)) xy)
   (wq (jj aP rfl (j4 (pv 4)) (xu (i:=6) sc.nd rfl (by walk_at "loc")) (wq (x4 (wn ku (zq zd (zf (zy hr) (pv 1) (pv 5) (λ_ _=>rfl)) wx (λ_ _=>rfl)) (zq zd (zf (zy hr) (pv 1) (pv 6) (λ_ _=>rfl)) wx (λ_ _=>rfl)) (w9 _)) (qb (w6 (i:=7) sc.nd rfl (by walk_at "loc") (wf c__law_met (hr.mono (by decide)) rfl qy (zh (zf (zy hr) (pv 1) (zq zd (zf (zy hr) (pv 1) (pv 5) (λ_ _=>rfl)) wx (λ_ _=>rfl)) (λ_ _=>rfl)) (zh (zq zd (zf (zy hr) (pv 1) (pv 5) (λ_ _=>rfl)) wx (λ_ _=>rfl)) (zh (zq zd (zf (zy hr) (pv 1) (pv 6) (λ_ _=>rfl)) wx (λ_ _=>rfl)) qk)))))
   (wq (x4 (wn wxp (w4 (pv 0) T.clH c_meet (hr.mono (by decide)) qy (q9 (pv 5) (q9 (pv 6) qk))) (pv 7) (w9 _)) (wq (wp W7)) xy))) xy))))))
   (wq (wp W7)))))),?_⟩
 refine ⟨sz3,λl0 n0=>?_⟩
 have s0:=Same.upd (H:=H) (o:=.lst [.str "a",.str "b",.str "c"]) n0
 have f0:upd H l0 (.lst [.str "a",.str "b",.str "c"]) l0=some (.lst (abc.map V.str)):=qh
 generalize upd H l0 (.lst [.str "a",.str "b",.str "c"])=H0 at s0 f0
 have hb0:=hb.same s0
 have has:∀n:Str,(n = "a" ∨ n = "b" ∨ n = "c")→(wc kvs (.inr n)).isSome=(a.ws n).isSome:=λn hn=>by
  cases ew:a.ws n with
  |none=>rw [hb.no n (lok.abc hn) ew];rfl
  |some w1 =>
   obtain ⟨q,sp,e,_⟩:=hb.ws n w1 ew
   rw [e];rfl
 refine exI rfl ⟨⟨_,SqL.of f0⟩,qqb (λi=>(a.ws (abc.getD i "")).isSome) (SqL.of f0) (by show 3≤1000000;decide) (λi vx H' RR ev s' hR=>?_) (λi vx H' RR ev ci s' hR=>(exI rfl (hR H' (Same.refl _)))) λlw H1 nlw s1' fw=>?_⟩
 ·have:∃n:Str,(n = "a" ∨ n = "b" ∨ n = "c")∧vx=.str n∧abc.getD i "" = n:=by
   match i,ev with
   |0,ev=>cases ev;exact ⟨"a",.inl rfl,rfl,rfl⟩
   |1,ev=>cases ev;exact ⟨"b",.inr (.inl rfl),rfl,rfl⟩
   |2,ev=>cases ev;exact ⟨"c",.inr (.inr rfl),rfl,rfl⟩
   |i+3,ev=>cases ev
  obtain ⟨n,hn,rfl,eg⟩:=this
  rw [eg] at hR
  refine exI rfl (exI rfl ⟨bk,exI rfl ⟨(hb0.same s').get n,_,rfl,?_⟩⟩)
  rw [has n hn]
  exact hR H' (Same.refl _)
 rw [Zp abc "" V.str λn=>(a.ws n).isSome] at fw
 have s1:=s0.trans s1'
 have hfw:H1 lw=some (.lst ((wNm a).map V.str)):=fw
 have v1:=v.same s1
 obtain ⟨dx,hx⟩:=v1.h.hs.ob
 obtain ⟨ekR,ndR⟩:=Wp v.h.nR v.h.fR
 obtain ⟨ekW,ndW⟩:=Wp v.h.nW v.h.fW
 refine exI rfl ⟨o.x,dx,exI rfl ⟨hx,xz (by decide +kernel) (by decide +kernel) (by decide +kernel),o.x,o.dr,o.dw,o.dd,o.R,o.W,_,_,_,rfl,v1.h.hs,ekR,(by lia),ekW,(by lia),λq l1 l2 ms1 ms2 H2 s2' pm1 sr1 pm2 sr2 f1 f2 fq=>?_⟩⟩
 have em1:ms1=(["r","s"]:List Str):=qqt (pm1.nodup_iff.mpr ndR) rs_nd (λx=>by
  rw [pm1.mem_iff,qky v.h.nR v.h.fR]
  constructor
  ·intro h
   cases e:a.rs x with
   |none=>rw [v.rep.noR e] at h;cases h
   |some hs'=>rcases (lok.ro x hs' e).1 with rfl|rfl <;> simp
  ·intro h
   have h:x = "r" ∨ x = "s" := by simpa using h
   obtain ⟨_,hs',e⟩:=lok.rsn h
   obtain ⟨r',e',_⟩:=v.rep.road e
   rw [e'];rfl) sr1 rs_pw
 have em2:ms2=wNm a:=qqt (pm2.nodup_iff.mpr ndW) (abc_nd.filter _) (λx=>by
  rw [pm2.mem_iff,qky v.h.nW v.h.fW]
  unfold wNm
  rw [bA]
  constructor
  ·intro h
   cases e:a.ws x with
   |none=>rw [v.rep.noW e] at h;cases h
   |some w1=>exact ⟨wj4 (lok.wo x w1 e).1,rfl⟩
  ·rintro ⟨_,h⟩
   obtain ⟨w1,e⟩:=be.mp h
   obtain ⟨y',_,_,e',_⟩:=v.rep.wk e
   rw [e'];rfl) sr2 (abc_pw.filter _)
 subst em1 em2
 have s2:=s1.trans s2'
 refine ⟨sz2,λlr nlr=>?_⟩
 have s3':=Same.upd (H:=H2) (o:=.lst [.str "r",.str "s"]) nlr
 have f3:upd H2 lr (.lst [.str "r",.str "s"]) lr=some (.lst ((["r","s"]:List Str).map V.str)):=qh
 generalize upd H2 lr (.lst [.str "r",.str "s"])=H3 at s3' f3
 refine exI rfl ⟨sz2,λqt nqt=>?_⟩
 have s4':=Same.upd (H:=H3) (o:=.tup [.ref lr,.ref lw]) nqt
 have f4:upd H3 qt (.tup [.ref lr,.ref lw]) qt=some (.tup [.ref lr,.ref lw]):=qh
 generalize upd H3 qt (.tup [.ref lr,.ref lw])=H4 at s4' f4
 have s24:=s3'.trans s4'
 have s4:=s2.trans s24
 have hfw4:=s24 _ _ (s2' _ _ hfw)
 have so2:∀m∈wNm a,PyData.strOk m=true:=λm hm=>abc_so m (bA.mp hm).1
 refine ⟨_,_,wqu (s24 _ _ fq) (s24 _ _ f1) (s24 _ _ f2),wqu f4 (s4' _ _ f3) hfw4,qkp rs_so so2,qkp rs_so so2,wz3 _ _ _,_,rfl,Yc (wzv _ _) ?_⟩
 have v4:=v.same s4
 have hb4:=hb.same s4
 obtain ⟨dx4,hx4⟩:=v4.h.hs.ob
 refine exI rfl ⟨o.x,dx4,exI rfl ⟨hx4,xz (by decide +kernel) (by decide +kernel) (by decide +kernel),o.x,o.dr,o.dw,o.dd,o.R,o.W,exI rfl ⟨v4.h.hs,exI rfl ⟨rfl,_,rfl,wzy (λne=>absurd (by rw [j6]) ne) (λ_=>?_)⟩⟩⟩⟩
 obtain ⟨r1,err1,ra1⟩:=v4.rep.road er
 obtain ⟨r2,err2,ra2⟩:=v4.rep.road es
 obtain ⟨lb1,evb1,flb1,ok1⟩:=hb4.rs "r" hsr er
 obtain ⟨lb2,evb2,flb2,ok2⟩:=hb4.rs "s" hss es
 refine ⟨_,rfl,o.x,dx4,_,rfl,hx4,xz (by decide +kernel) (by decide +kernel) (by decide +kernel),o.x,o.dr,o.dw,o.dd,o.R,o.W,_,"r",rfl,v4.h.hs,λu eu=>?_,(λz=>by rw [err1] at z;cases z)⟩
 rw [err1] at eu
 cases eu
 refine ⟨r1,hsr,rfl,ra1,λp5 n5=>?_⟩
 have s5':=Same.upd (H:=H4) (o:=.lst (hsr.map V.int)) n5
 have f5:upd H4 p5 (.lst (hsr.map V.int)) p5=some (.lst (hsr.map V.int)):=qh
 generalize upd H4 p5 (.lst (hsr.map V.int))=H5 at s5' f5
 have hb5:=hb4.same s5'
 have dgr:=hb5.get "r"
 rw [evb1] at dgr
 refine exI rfl ⟨bk,exI rfl ⟨dgr,_,_,Qq (SqL.of f5),Qq (SqL.of (s5' _ _ flb1)),yb _,yb _,qqn _ _,_,rfl,Yc (W9 _) ?_⟩⟩
 have v5:=v4.same s5'
 obtain ⟨dx5,hx5⟩:=v5.h.hs.ob
 refine ⟨_,rfl,o.x,dx5,_,rfl,hx5,xz (by decide +kernel) (by decide +kernel) (by decide +kernel),o.x,o.dr,o.dw,o.dd,o.R,o.W,_,"s",rfl,v5.h.hs,λu eu=>?_,(λz=>by rw [err2] at z;cases z)⟩
 rw [err2] at eu
 cases eu
 refine ⟨r2,hss,rfl,ra2.same s5',λp6 n6=>?_⟩
 have s6':=Same.upd (H:=H5) (o:=.lst (hss.map V.int)) n6
 have f6:upd H5 p6 (.lst (hss.map V.int)) p6=some (.lst (hss.map V.int)):=qh
 generalize upd H5 p6 (.lst (hss.map V.int))=H6 at s6' f6
 have hb6:=hb5.same s6'
 have dgs:=hb6.get "s"
 rw [evb2] at dgs
 refine exI rfl ⟨bk,exI rfl ⟨dgs,_,_,Qq (SqL.of f6),Qq (SqL.of (s6' _ _ (s5' _ _ flb2))),yb _,yb _,qqn _ _,_,rfl,Yc (W9 _) ?_⟩⟩
 have s46:=s5'.trans s6'
 have s6:=s4.trans s46
 have hfw6:=s46 _ _ hfw4
 have v6:=v.same s6
 have inN:∀ {i:Nat} {x:V},((wNm a).map V.str)[i]?=some x→∃n w1,x=.str n∧a.ws n=some w1:=λ{i x} e=>by
  rw [aK] at e
  obtain ⟨n,en,rfl⟩:=cC.mp e
  obtain ⟨_,h⟩:=bA.mp (aX en)
  obtain ⟨w1,ew⟩:=be.mp h
  exact ⟨n,w1,rfl,ew⟩
 have sp6:∀ {n:Str} {w1:Wk} {hs':List Int},a.ws n=some w1→a.rs w1.wh=some hs'→Sp6 hs' w1.pt:=λ{n w1 hs'} e h=>by
  obtain ⟨_,hs0,er0,hp⟩:=v.rep.ok.wo n w1 e
  rw [h] at er0
  cases er0
  exact ⟨hp,(lok.wo n w1 e).2.2,by have:=(lok.ro _ hs' h).2.1;lia⟩
 refine exI rfl ⟨lw,rfl,⟨_,SqL.of hfw6⟩,uu (K:=K) (a:=lw) (xs:=(wNm a).map V.str) (λi σ H7=>Same H6 H7∧∃z5 z6 z7,σ=[some (.ref o.x),some (.ref bk),some (.ref pa),some (.int o.ds.length),some (.ref lw),z5,z6,z7]) ⟨Same.refl _,_,_,_,rfl⟩ (λi σ H7 _ h=>h.1.sql (SqL.of hfw6)) ?_ ?_⟩
 ·rintro i x σ H7 ex ⟨s7,z5,z6,z7,rfl⟩
  obtain ⟨n,w1,rfl,ew⟩:=inN ex
  obtain ⟨hn,hwh,_⟩:=lok.wo n w1 ew
  have s07:=s6.trans s7
  refine exI rfl (exI rfl (exI rfl (exI rfl ⟨o,bk,pa,kvs,a,as,t,b,n,w1,rfl,v.same s07,hb.same s07,ew,hwh,s07 _ _ hpa,b1,b2,λH8 s8=>?_⟩)))
  refine exI rfl (Qy ?_)
  have s08:=s07.trans s8
  have hfw8:=(s7.trans s8) _ _ hfw6
  obtain ⟨_,hs1,er1⟩:=lok.rsn hwh
  refine exI rfl ⟨lw,rfl,⟨_,SqL.of hfw8⟩,uu (K:=K) (a:=lw) (xs:=(wNm a).map V.str) (λi' σ H9=>Same H8 H9∧∃z6 z7,σ=[some (.ref o.x),some (.ref bk),some (.ref pa),some (.int o.ds.length),some (.ref lw),some (.str n),z6,z7]) ⟨Same.refl _,_,_,rfl⟩ (λi' σ H9 _ h=>h.1.sql (SqL.of hfw8)) ?_ ?_⟩
  ·rintro i' x' σ H9 ex' ⟨s9,z6',z7',rfl⟩
   obtain ⟨n',w2,rfl,ew'⟩:=inN ex'
   have s09:=s08.trans s9
   have hb9:=hb.same s09
   have v9:=v.same s09
   obtain ⟨q1,sp1,ev1,fq1,fs1⟩:=hb9.ws n w1 ew
   obtain ⟨q2,sp2,ev2,fq2,fs2⟩:=hb9.ws n' w2 ew'
   have dg1:=hb9.get n
   rw [ev1] at dg1
   have dg2:=hb9.get n'
   rw [ev2] at dg2
   refine exI rfl (exI rfl ⟨bk,exI rfl ⟨dg1,exX rfl rfl (SqT.of fq1) rfl (exI rfl (exI rfl ⟨bk,exI rfl ⟨dg2,exX rfl rfl (SqT.of fq2) rfl ⟨rfl,_,rfl,k6 (λzw=>?_) (λzw=>⟨s9,_,_,rfl⟩)⟩⟩⟩))⟩⟩)
   have zw:w1.wh=w2.wh:=by injection zw
   obtain ⟨l3,ev3,fl3,ok3⟩:=hb9.rs _ hs1 er1
   have dg3:=hb9.get w1.wh
   rw [ev3] at dg3
   have p1:=sp6 ew er1
   have p2:=sp6 ew' (by rw [←zw];exact er1)
   obtain ⟨y1,pp1,t1,ey1,wk1⟩:=v9.rep.wk ew
   obtain ⟨y2,pp2,t2,ey2,wk2⟩:=v9.rep.wk ew'
   obtain ⟨rr,err,rra⟩:=v9.rep.road er1
   have ask:∀(d:V),(d=.non∨∃m:Int,d=.int m)→(∀m:Nat,(∀j,j<m→itP hs1 w1.pt j≠itP hs1 w2.pt j)→itP hs1 w1.pt m=itP hs1 w2.pt m→d=.int m)→((∀j,itP hs1 w1.pt j≠itP hs1 w2.pt j)→d=.non)→∀HA,Same H9 HA→∀ {Q0:VK} {E0:XK},(∀HB,Same HA HB→Q0 d HB)→qvx qq qu qw qj wb [.ref o.x,.str n,.str n'] HA Q0 E0:=λd _ d1 d2 HA sA {Q0 E0} kq=>by
    have vA:=v9.same sA
    refine ⟨o.x,o.dr,o.dw,o.dd,o.R,o.W,_,n,n',rfl,vA.h.hs,(λz=>by rw [ey1] at z;cases z),λu eu=>?_⟩
    rw [ey1] at eu
    cases eu
    refine ⟨(λz=>by rw [ey2] at z;cases z),λu eu=>?_⟩
    rw [ey2] at eu
    cases eu
    refine ⟨y1,w1.wh,pp1,w1.pt,t1,w1.tv,y2,w2.wh,pp2,w2.pt,t2,w2.tv,rfl,wk1.same sA,rfl,wk2.same sA,(λz=>absurd zw z),λ_=>⟨rr,hs1,err,rra.same sA,p1.h,p2.h,λm a1 a2 HB sB=>?_,λhn HB sB=>?_⟩⟩
    ·rw [←d1 m a1 a2];exact kq HB sB
    ·rw [←d2 hn];exact kq HB sB
   refine ⟨_,rfl,_,rfl,_,rfl,bk,_,rfl,dg1,_,_,_,_,rfl,rfl,SqT.of fq1,rfl,bk,_,rfl,dg3,_,rfl,_,rfl,bk,_,rfl,dg1,_,_,_,_,rfl,rfl,SqT.of fq1,rfl,_,rfl,_,rfl,bk,_,rfl,dg2,_,_,_,_,rfl,rfl,SqT.of fq2,rfl,l3,sp1,sp2,hs1,w1.pt,w2.pt,rfl,SqL.of fl3,fs1,fs2,p1,p2,λm a1 a2 HA sA=>?_,λhn HA sA=>?_⟩
   ·obtain ⟨dxA,hxA⟩:=(v9.same sA).h.hs.ob
    refine exI rfl ⟨o.x,dxA,exI rfl ⟨hxA,xz (by decide +kernel) (by decide +kernel) (by decide +kernel),exI rfl (exI rfl ?_)⟩⟩
    dsimp only [z9,j3,tC]
    refine ask (.int m) (.inr ⟨m,rfl⟩) (λm' c1 c2=>?_) (λhn=>absurd a2 (hn m)) HA sA λHB sB=>exI rfl ⟨rfl,_,rfl,wzy (λz=>absurd rfl z) (λ_=>⟨(s9.trans sA).trans sB,_,_,rfl⟩)⟩
    rcases Nat.lt_trichotomy m m' with z|z|z
    ·exact absurd a2 (c1 m z)
    ·rw [z]
    ·exact absurd c2 (a1 m' z)
   ·obtain ⟨dxA,hxA⟩:=(v9.same sA).h.hs.ob
    refine exI rfl ⟨o.x,dxA,exI rfl ⟨hxA,xz (by decide +kernel) (by decide +kernel) (by decide +kernel),exI rfl (exI rfl ?_)⟩⟩
    dsimp only [z9,j3,tC]
    exact ask .non (.inl rfl) (λm' c1 c2=>absurd c2 (hn m')) (λ_=>rfl) HA sA λHB sB=>exI rfl ⟨rfl,_,rfl,wkz (λz=>absurd rfl z) (λ_=>⟨(s9.trans sA).trans sB,_,_,rfl⟩)⟩
  ·rintro σ H9 ⟨s9,z6',z7',rfl⟩
   exact ⟨(s7.trans s8).trans s9,_,_,_,rfl⟩
 ·rintro σ H7 ⟨s7,z5,z6,z7,rfl⟩
  exact k _ (s6.trans s7)
end
section
variable {P:Ac}{w:Ah}{K:Aa}{mg:Str→Option Ag}{base:Heap}{qd:Aj}{qm:Aj}{qx:Aj}{qp:Aj}{qf:Aj}{wz:Aj}{wv:Aj}{qr:Aj}{wy:Aj}{q8:Aj}{qj:Aj}{wb:Aj}{qz:Aj}{qu:Aj}{qw:Aj}{qq:Aj}
theorem wj9 {X:Cx}{ss:List Stmt}{t t':TS}(h:PSs X ss t)(k:∀D σ H,t' D σ H→t D σ H):PSs X ss t':=λpins s σ H D I q=>h pins s σ H D I (k D σ H q)
theorem wjy {A B:Prop}{d e:PyData}(h:PyData.eqv d e=true)(k:A):if (if false=true then !PyData.eqv d e else PyData.eqv d e)=true then A else B:=by
 rw [h]
 exact k
abbrev qq8:=Aj×List (Key×V)×AH
def bkV (L:List qq8):List V:=L.reverse.map λx=>V.ref x.1
theorem Ws (x:qq8)(L:List qq8):bkV (x::L)=bkV L++[.ref x.1]:=by
 unfold bkV
 rw [List.reverse_cons,ba]
 rfl
theorem Ym (L:List qq8):(bkV L).length=L.length:=by
 unfold bkV
 rw [ae,List.length_reverse]
theorem qqz (L:List qq8):Wb (bkV L):=λv hv=>by
 obtain ⟨x,_,rfl⟩:=ao.mp hv
 exact ⟨_,rfl⟩
theorem Y8 (x:qq8)(L:List qq8):atI (bkV (x::L)) (-1)=some (.ref x.1):=by
 rw [Ws]
 exact qv4 _ _
structure BkOk (H:Hp)(o:Ho)(tq:Int×Int)(j:Nat)(x:qq8):Prop where
 b:BkAt H x.1 x.2.1 x.2.2 tq
 l:x.2.1.length≤5+3*j
 k:LOk x.2.2 tq j
 n:x.1∉[o.dr,o.dw,o.dd]
 q:x.1∉jd o.ds
structure StkAt (C CR CW:Aj)(H:Hp)(o:Ho)(bl:Aj)(L:List qq8)(rest:List AH)(tq:Int×Int)(j:Nat):Prop where
 v:VH C CR CW H o (L.map (λx=>x.2.2)++rest)
 bl_:H bl=some (.lst (bkV L))
 nb:bl≠o.dd
 bs:∀x∈L,BkOk H o tq j x
 ds:o.ds.length=4+L.length
 ne:L≠[]
 ll:L.length≤1+j
theorem VH.lst_ {C CR CW:Aj}{H H':Hp}{o:Ho}{as:List AH}(v:VH C CR CW H o as){bl:Aj}{D:List V}(e:H bl=some (.lst D))(rf:Wb D)(n:bl≠o.dd)(kb:Kb [bl] H H'):VH C CR CW H' o as:=by
 have dl:Dl H [bl]:=.cons (.inr ⟨_,rf,e⟩) .nil
 refine ⟨v.h.frame kb dl ⟨Ap.x (o:=o) v.h dl,λz=>?_,λz=>?_,λz=>n (ai.mp z).symm⟩ λq hq hm kv r=>?_,Hist.dl dl kb v.t⟩
 ·have:=v.h.hs.r;rw [ai.mp z,e] at this;cases this
 ·have:=v.h.hs.w;rw [ai.mp z,e] at this;cases this
 ·rw [ai.mp hq] at r
  rcases r with r|⟨_,r⟩ <;> (rw [e] at r;cases r)
def LpAt (K:Aa)(C CR CW:Aj)(a p1 pa sh bl:Aj)(ns hs:List Int)(t b:Int)(rest:List AH)(j:Nat)(σ:St)(H:Hp):Prop:=∃(o:Ho) (L:List qq8) (z5 z6 z8:Option V),σ=[some (.ref a),some (.ref p1),some (.ref pa),some (.ref sh),some (.ref o.x),z5,z6,some (.ref bl),z8]∧SqL K H a (ns.map V.int)∧((∀H',SqL K H' a (ns.map V.int))∨(a≠o.dd∧a≠bl))∧StkAt C CR CW H o bl L rest (wg t b) j∧yz H pa (t,b)∧H p1=some (.lst (hs.map V.int))∧H sh=some (.lst (hs.map V.int))∧xj hs
def TailB (K:Aa)(C CR CW:Aj)(D:Ends)(σ:St)(H:Hp):Prop:=∃(a p1 pa sh bl:Aj) (ns hs:List Int) (t b:Int) (rest:List AH),ns.length≤63∧1≤b∧b≤1000∧LpAt K C CR CW a p1 pa sh bl ns hs t b rest 0 σ H∧∀H',D.rt (.bl true) H'
theorem qz7 {K:Aa}{H:Hp}{a:Aj}{xs:List V}(h:SqL K H a xs):(∀H',SqL K H' a xs)∨∃u,H a=some u∧(∀kv,u≠.dK kv)∧∀v kv,u≠.frz v (.dK kv):=by
 rcases h with (e|⟨v,e⟩)|e
 ·exact .inr ⟨_,e,(λ_ z=>by cases z),(λ_ _ z=>by cases z)⟩
 ·exact .inr ⟨_,e,(λ_ z=>by cases z),(λ_ _ z=>by cases z)⟩
 ·exact .inl λ_=>.inr e
theorem HoAt.nin5 {C:Aj}{H:Hp}{o:Ho}(h:HoAt C H o){ds:List Deed}(hd:∀d∈ds,d∈o.ds){a:Aj}{u:HO}(e:H a=some u)(n1:∀kv,u≠.dK kv)(n2:∀v kv,u≠.frz v (.dK kv))(n:a≠o.dd):a∉[o.dr,o.dw,o.dd]++jd ds:=λz=>by
 rcases aH.mp z with z|z
 ·simp only [ak,am,bz] at z
  rcases z with z|z|z
  ·rw [z,h.hs.r] at e;cases e;exact n1 _ rfl
  ·rw [z,h.hs.w] at e;cases e;exact n1 _ rfl
  ·exact n z
 ·obtain ⟨d,hd',hq⟩:=cz.mp z
  obtain ⟨⟨_,r1,r2⟩,_⟩:=h.da d (hd d hd')
  simp only [ak,am,bz] at hq
  rcases hq with rfl|rfl
  ·rcases r1 with r1|⟨v,r1⟩ <;> (rw [r1] at e;cases e)
   ·exact n1 _ rfl
   ·exact n2 _ _ rfl
  ·rcases r2 with r2|⟨v,r2⟩ <;> (rw [r2] at e;cases e)
   ·exact n1 _ rfl
   ·exact n2 _ _ rfl
set_option maxHeartbeats 0 in
theorem ww6 {f:Aj}{cdv:Ag}{A:Ae}{outer:List Env}{s:Ab}{H:Hp}{E:XK}(T:Txt K mg qd qm qx qp qf wz wv qr wy q8 qj wb qz qu qw qq)(c__law_pick:Cal P w K mg base "_law_pick" 2 (y0 K))(c_take_back:MCal P w K mg base qq "take_back" 2 (Zq qq qz))(c__law_deed:Cal P w K mg base "_law_deed" 9 (qvd K qq qu qw))(c__law_is:Cal P w K mg base "_law_is" 8 (spIs qq qu qw))
  (hr:Room 10 (A.deeper (PyProof.Rows.envOfC "law" (wu s_law) s.heap.objs.size f cdv))) {rest8:List Stmt} (h8:(w8 s_law).drop 8=rest8) :
  PSs (qwu (CXE P w) P w K mg base ["_law_script","_law_heights_here","_law_point","_law_shared","_law_house","_law_name","_law_road","_law_books","_law_at"] "law" (wu s_law) f cdv A outer s H E) rest8 (TailB K qq qu qw):=by
 have sc:=wvx
 have e8:(w8 s_law).drop 8=(w8 s_law)[8]'(by decide +kernel)::(w8 s_law).drop 9:=aU (by decide +kernel)
 have e9:(w8 s_law).drop 9=(w8 s_law)[9]'(by decide +kernel)::(w8 s_law).drop 10:=aU (by decide +kernel)
 have e10:(w8 s_law).drop 10=[]:=by decide +kernel
 rw [←h8,e8,e9,e10]
 clear e8 e9 e10 h8
 refine wj9 (qb (jj aP rfl (vz rfl T.range_ (kj (wf c__law_pick (hr.mono (by decide)) rfl qy (q9 (pv 0) (xx wx (xx wx (xx wx qk))))) qk)) (xu (i:=8) sc.nd rfl (by walk_at "loc")) (qvc (x4 (PW.pt (qyy (wn Qh (xq xb rfl T.len_ aM (q9 (pv 7) qk)) wx (w9 _)) (qzm (wn ku (wf c__law_pick (hr.mono (by decide)) rfl qy (q9 (pv 0) (zp (wm xm wx (pv 8)) (xx wx (xx wx qk))))) wx (w9 _))))) (qb (xn (vg (pv 4) T.clH c_take_back (hr.mono (by decide)) qy))
   (wq (xn (wk0 bR PySem.F.slot_list_pop PySem.F.type_list_pop wvq (pv 7))))) (wq (xn (wv9 bR dc de yu (pv 7) (kj (wf c__law_deed (hr.mono (by decide)) rfl qy (q9 (pv 4) (zh (zq vk (pv 7) (wqk qz0 wx) (λ_ _=>rfl)) (q9 (pv 0) (zp (wm xm wx (pv 8)) (q9 (pv 2) qk)))))) qk)))))
   (wq (x4 (qqg (qq3 (wf c__law_is (hr.mono (by decide)) rfl qy (q9 (pv 4) (zh (zq vk (pv 7) (wqk qz0 wx) (λ_ _=>rfl)) (q9 (pv 2) (zp (wm xm wx (xq xb rfl T.len_ aM (q9 (pv 7) qk))) qk))))))) (wq (wp W7)) xy))))
   (qb (wp (qvk (Qv (qzy hr.units) (pv 3) (pv 1) (w9 _)) (qz4 (wf c__law_is (hr.mono (by decide)) rfl qy (q9 (pv 4) (zh (zq vk (pv 7) (wqk qz0 wx) (λ_ _=>rfl)) (q9 (pv 2) (zp (wm xm wx (xq xb rfl T.len_ aM (q9 (pv 7) qk))) qk))))))))
   xy)) ?_
 rintro D σ H0 ⟨a,p1,pa,sh,bl,ns,hs,t,b,rest,ln,b1,b2,⟨o,L,z5,z6,z8,rfl,hS,hda,stk,hpa,hp1,hsh,ok⟩,k⟩
 refine exI rfl ⟨a,ns,_,_,_,rfl,hS,(by lia),(by lia),(by lia),(by lia),λr0 _ l0 u0=>?_⟩
 refine exI rfl ⟨(by lia),(by lia),jn (LpAt K qq qu qw a p1 pa sh bl ns hs t b rest) ⟨o,L,_,_,_,rfl,hS,hda,stk,hpa,hp1,hsh,ok⟩ ?_ ?_⟩
 ·rintro j σ H1 hj ⟨o,L,z5,z6,z8,rfl,hS,hda,stk,hpa,hp1,hsh,ok⟩
  obtain ⟨x,L',eL⟩:=cR stk.ne
  subst eL
  have bx:=stk.bs x (aJ ..)
  have dsl:=stk.ds
  have lll:=stk.ll
  have big:(1000000:Nat)<sizeLine:=by decide
  obtain ⟨dx,hx⟩:=stk.v.h.hs.ob
  have v1:VH qq qu qw H1 o (x.2.2::(L'.map (λx=>x.2.2)++rest)):=stk.v
  have d1:=v1.h.dl
  have nbl:bl∉[o.dr,o.dw,o.dd]:=λz=>v1.h.nin5 (ds:=[]) (λd h=>nomatch h) stk.bl_ (λ_ z=>by cases z) (λ_ _ z=>by cases z) stk.nb (aH.mpr (.inl z))
  have nsc:∀ {ds:List Deed},(∀d∈ds,d∈o.ds)→(∀H',SqL K H' a (ns.map V.int))∨a∉[o.dr,o.dw,o.dd]++jd ds:=λ{ds} hd=>by
   rcases hda with z|z
   ·exact .inl z
   ·rcases qz7 hS with y|⟨u,e,n1,n2⟩
    ·exact .inl y
    ·exact .inr (v1.h.nin5 hd e n1 n2 z.1)
  refine ⟨LpAt K qq qu qw a p1 pa sh bl ns hs t b rest (j+1),?_,?_⟩
  ·refine exI rfl ⟨bl,exI rfl ⟨.inl (SqL.of stk.bl_),wt rfl rfl (exI rfl (k6 (λz1=>(exI rfl (exI rfl (wt rfl rfl ⟨a,ns,_,_,_,rfl,hS,(by lia),(by lia),(by lia),(by lia),λr1 _ l1 u1=>⟨rfl,_,rfl,jz (λz2=>?tk) (λz2=>?d1)⟩⟩)))) (λz1=>Qy ?d2)))⟩⟩
   case tk =>
    rw [Ym] at z1
    have z1:(1:Int)<((x::L').length:Nat):=z1
    match L',stk,v1,z1,dsl,lll with
    |y::L'',stk,v1,_,dsl,lll =>
    refine exI rfl ⟨o.x,dx,exI rfl ⟨hx,xz (by decide +kernel) (by decide +kernel) (by decide +kernel),?_⟩⟩
    dsimp only [j3]
    have lens:=v1.lens bx.k.nam
    have l5:NM5.length=5:=rfl
    refine VH.take (b:=y.2.2) (as:=L''.map (λx=>x.2.2)++rest) v1 (by lia) (by lia) λH2 o2 d pv ed v2 kb dl rd=>?_
    have hd:d∈o.ds:=by rw [ed];exact aJ ..
    have e5:[o.dr,o.dw,o.dd,d.q1,d.q2]=[o.dr,o.dw,o.dd]++jd [d]:=rfl
    have hd1:∀d'∈[d],d'∈o.ds:=λd' h=>by rw [ai.mp h];exact hd
    have nbl5:bl∉[o.dr,o.dw,o.dd,d.q1,d.q2]:=by rw [e5];exact v1.h.nin5 hd1 stk.bl_ (λ_ z=>by cases z) (λ_ _ z=>by cases z) stk.nb
    have hbl2:=kb _ _ nbl5 stk.bl_
    rw [Ws] at hbl2
    refine exI rfl ⟨.inl ⟨rfl,_,SqL.of hbl2⟩,bl,wt rfl rfl ⟨hbl2,(by rw [←eI,List.getLast?_append];rfl),?_⟩⟩
    rw [List.dropLast_concat]
    have kb3:Kb [bl] H2 (upd H2 bl (.lst (bkV (y::L'')))):=λc u n e=>by rw [wj (λz=>n (by simp [z]))];exact e
    have f3:upd H2 bl (.lst (bkV (y::L''))) bl=some (.lst (bkV (y::L''))):=qh
    generalize upd H2 bl (.lst (bkV (y::L'')))=H3 at kb3 f3
    have rf2:Wb (bkV (y::L'')++[.ref x.1]):=by rw [←Ws];exact qqz _
    have dl2:Dl H2 [bl]:=.cons (.inr ⟨_,rf2,hbl2⟩) .nil
    have nb2:bl≠o2.dd:=by rw [pv.dd];exact stk.nb
    have m5:∀ {c:Aj},c∉[o.dr,o.dw,o.dd]→c∉jd o.ds→c∉[o.dr,o.dw,o.dd,d.q1,d.q2]:=λ{c} n1 n2 z=>by
     rw [e5] at z
     rcases aH.mp z with z|z
     ·exact n1 z
     ·exact n2 (by
       have m:=Jg hd
       have z:c=d.q1∨c=d.q2:=by simpa [jd] using z
       rcases z with rfl|rfl
       ·exact m.1
       ·exact m.2)
    refine ⟨o2,y::L'',_,_,_,(by rw [pv.x];rfl),Kb.sql kb3 (Kb.sql kb hS (by rw [e5];exact nsc hd1)) (hda.imp id λz q=>z.2 (ai.mp q)),hda.imp id (λz=>by rw [pv.dd];exact z),⟨v2.lst_ hbl2 rf2 nb2 kb3,f3,nb2,λw hw=>?_,?_,cT _ _,by have:(x::y::L'').length=(y::L'').length+1:=rfl;lia⟩,dl2.tup kb3 (dl.tup kb hpa),dl2.row kb3 ok (dl.row kb ok hp1),dl2.row kb3 ok (dl.row kb ok hsh),ok⟩
    ·have bw:=stk.bs w (aE _ hw)
     have b2':=bw.b.kb dl kb (m5 bw.n bw.q)
     exact ⟨b2'.kb dl2 kb3 (λz=>by have:=b2'.at_;rw [ai.mp z,hbl2] at this;cases this),by have:=bw.l;lia,bw.k.next (by have:=hj;lia),by rw [pv.dr,pv.dw,pv.dd];exact bw.n,λz=>bw.q (by
      rw [ed]
      exact aE _ (aE _ z))⟩
    ·have:o.ds.length=o2.ds.length+1:=by rw [ed];rfl
     have:(x::y::L'').length=(y::L'').length+1:=rfl
     lia
   all_goals
    refine exI rfl ⟨.inl ⟨rfl,_,SqL.of stk.bl_⟩,exI rfl (exI rfl (exI rfl (exX rfl rfl (SqL.of stk.bl_) (Y8 x L') (exI rfl (exI rfl (wt rfl rfl (exI rfl ⟨o,x.1,a,pa,ns,_,x.2.1,x.2.2,_,t,b,j,rfl,v1,bx.b,bx.l,bx.k,(by lia),hS,(by lia),hpa,b1,b2,(by lia),bx.n,λH2 o2 bk2 kv2 a2 nx v2 b2' lk2 lok2 nbk nq2 kb=>?_⟩)))))))⟩
    have hbl2:=kb _ _ nbl stk.bl_
    refine ⟨bl,wt rfl rfl ⟨hbl2,(by rw [Ym];lia),?_⟩⟩
    have kb3:Kb [bl] H2 (upd H2 bl (.lst (bkV (x::L')++[.ref bk2]))):=λc u n e=>by rw [wj (λz=>n (by simp [z]))];exact e
    have f3:upd H2 bl (.lst (bkV (x::L')++[.ref bk2])) bl=some (.lst (bkV ((bk2,kv2,a2)::x::L'))):=by rw [qh,Ws (bk2,kv2,a2)]
    generalize upd H2 bl (.lst (bkV (x::L')++[.ref bk2]))=H3 at kb3 f3
    have dl2:Dl H2 [bl]:=.cons (.inr ⟨_,qqz _,hbl2⟩) .nil
    have nb2:bl≠o2.dd:=by rw [nx.dd];exact stk.nb
    have ndk:∀ {c:Aj} {kv:List (Key×V)},H2 c=some (.dK kv)→c∉[bl]:=λ{c kv} e z=>by rw [ai.mp z,hbl2] at e;cases e
    obtain ⟨d,ed,n1,n2⟩:=nx.ds
    refine ⟨o2,(bk2,kv2,a2)::x::L',_,_,_,(by rw [nx.x];rfl),Kb.sql kb3 (Kb.sql kb hS (by have:=nsc (ds:=[]) (λd h=>nomatch h);rwa [show jd []=[] from rfl,cg] at this)) (hda.imp id λz q=>z.2 (ai.mp q)),hda.imp id (λz=>by rw [nx.dd];exact z),⟨v2.lst_ hbl2 (qqz _) nb2 kb3,f3,nb2,λw hw=>?_,?_,cT _ _,by show (x::L').length+1≤_;lia⟩,dl2.tup kb3 (d1.tup kb hpa),dl2.row kb3 ok (d1.row kb ok hp1),dl2.row kb3 ok (d1.row kb ok hsh),ok⟩
    ·rcases ak.mp hw with rfl|hw
     ·refine ⟨b2'.kb dl2 kb3 (ndk b2'.at_),by show kv2.length≤_;lia,lok2,λz=>?_,nq2⟩
      rw [nx.dr,nx.dw,nx.dd] at z
      simp only [ak,am,bz] at z
      rcases z with z|z|z
      ·have z:bk2=o.dr:=z
       rw [z,v1.h.hs.r] at nbk;cases nbk
      ·have z:bk2=o.dw:=z
       rw [z,v1.h.hs.w] at nbk;cases nbk
      ·have z:bk2=o.dd:=z
       rw [z,v1.h.hs.d] at nbk;cases nbk
     ·have bw:=stk.bs w hw
      have bw2:=bw.b.kb d1 kb bw.n
      refine ⟨bw2.kb dl2 kb3 (ndk bw2.at_),by have:=bw.l;lia,bw.k.next (by lia),by rw [nx.dr,nx.dw,nx.dd];exact bw.n,λz=>?_⟩
      rw [ed] at z
      have z:w.1∈d.q1::d.q2::jd o.ds:=z
      have e1:=bw.b.at_
      rcases ak.mp z with z|z
      ·rw [z,n1] at e1;cases e1
      ·rcases ak.mp z with z|z
       ·rw [z,n2] at e1;cases e1
       ·exact bw.q z
    ·rw [ed]
     show o.ds.length+1=4+((x::L').length+1)
     lia
  ·rintro σ H2 ⟨o,L,z5,z6,z8,rfl,hS,hda,stk,hpa,hp1,hsh,ok⟩
   obtain ⟨x,L',eL⟩:=cR stk.ne
   subst eL
   have bx:=stk.bs x (aJ ..)
   have dsl:=stk.ds
   have lll:=stk.ll
   refine exI rfl (exI rfl (exI rfl (exX rfl rfl (SqL.of stk.bl_) (Y8 x L') (exI rfl (exI rfl ⟨bl,exI rfl ⟨.inl (SqL.of stk.bl_),wt rfl rfl ?_⟩⟩)))))
   refine ⟨o,x.1,pa,x.2.1,x.2.2,_,t,b,_,_,rfl,by rw [Ym];lia,stk.v,bx.b,bx.k,hpa,b1,b2,by have:=bx.k.k13;lia,λH3 s3=>?_⟩
   refine exI rfl (Qy ?_)
   exact ⟨o,x::L',_,_,_,rfl,s3.sql hS,hda,⟨stk.v.same s3,s3 _ _ stk.bl_,stk.nb,λw hw=>by
    have bw:=stk.bs w hw
    exact ⟨bw.b.same s3,bw.l,bw.k,bw.n,bw.q⟩,stk.ds,stk.ne,stk.ll⟩,s3 _ _ hpa,s3 _ _ hp1,s3 _ _ hsh,ok⟩
 ·rintro σ H1 ⟨o,L,z5,z6,z8,rfl,hS,hda,stk,hpa,hp1,hsh,ok⟩
  obtain ⟨x,L',eL⟩:=cR stk.ne
  subst eL
  have bx:=stk.bs x (aJ ..)
  have dsl:=stk.ds
  have lll:=stk.ll
  refine exI rfl (exI rfl ⟨_,_,Qq (SqL.of hsh),Qq (SqL.of hp1),yb _,yb _,qqn _ _,_,rfl,wjy (W9 _) ?_⟩)
  refine exI rfl (exI rfl (exI rfl (exX rfl rfl (SqL.of stk.bl_) (Y8 x L') (exI rfl (exI rfl ⟨bl,exI rfl ⟨.inl (SqL.of stk.bl_),wt rfl rfl ?_⟩⟩)))))
  refine ⟨o,x.1,pa,x.2.1,x.2.2,_,t,b,_,_,rfl,by rw [Ym];lia,stk.v,bx.b,bx.k,hpa,b1,b2,by have:=bx.k.k13;lia,λH2 s2=>k _⟩
end
section
variable {P:Ac}{w:Ah}{K:Aa}{mg:Str→Option Ag}{base:Heap}{qd:Aj}{qm:Aj}{qx:Aj}{qp:Aj}{qf:Aj}{wz:Aj}{wv:Aj}{qr:Aj}{wy:Aj}{q8:Aj}{qj:Aj}{wb:Aj}{qz:Aj}{qu:Aj}{qw:Aj}{qq:Aj}
theorem qun {hs:List Int}{tq:Int×Int}(hp:HPt hs tq)(b6:tq.2≤6)(l:hs.length≤5):∀i,LOk (ahI hs tq i) tq 0:=by
 have r0:LOk (ahR hs) tq 0:=⟨⟨hs,(Q5 (by decide +kernel)).trans u8⟩,⟨hs,u8⟩,(λn hs' e=>by
  have e:(if n = "s" then some hs else if n = "r" then some hs else none)=some hs':=e
  by_cases z:n = "s"
  ·rw [aj z] at e
   cases e
   exact ⟨.inr z,by lia,hp⟩
  ·rw [af z] at e
   by_cases y:n = "r"
   ·rw [aj y] at e
    cases e
    exact ⟨.inl y,by lia,hp⟩
   ·rw [af y] at e;cases e),(λn w e=>nomatch e),b6,by decide⟩
 have r1:LOk (ah1 hs tq) tq 0:=r0.putW (.inl rfl) (.inl rfl) b6
 have r2:LOk (ah2 hs tq) tq 0:=r1.putW (.inr (.inl rfl)) (.inr rfl) b6
 have r3:LOk (ah3 hs tq) tq 0:=r2.putW (.inr (.inr rfl)) (.inl rfl) b6
 intro i
 match i with
 |0=>exact r0
 |1=>exact r1
 |2=>exact r2
 |i+3=>exact r3
theorem wx2 (hs:List Int)(tq:Int×Int){i:Nat}(h:i<3):(ahI hs tq i).ws (nmI i)=none:=by
 rcases (by lia:i=0∨i=1∨i=2) with rfl|rfl|rfl
 ·rfl
 ·exact (Q6 (by decide +kernel)).trans rfl
 ·exact (Q6 (by decide +kernel)).trans ((Q6 (by decide +kernel)).trans rfl)
theorem rdI_or (i:Nat):rdI i = "r" ∨ rdI i = "s" := by
 match i with
 |0=>exact .inl rfl
 |1=>exact .inr rfl
 |i+2=>exact .inl rfl
theorem wzz (hs:List Int)(tq:Int×Int)(i:Nat):(ahI hs tq i).rs (rdI i)=some hs:=by
 rw [wxw]
 rcases rdI_or i with h|h <;> rw [h]
 ·exact (Q5 (by decide +kernel)).trans u8
 ·exact u8
set_option maxHeartbeats 0 in
theorem ok_law {f:Aj}{fd:Ad}(F:Fun K "law" "law" s_law f fd)(T:Txt K mg qd qm qx qp qf wz wv qr wy q8 qj wb qz qu qw qq)(c__law_heights:Cal P w K mg base "_law_heights" 4 (Zj K))(c__law_spot:Cal P w K mg base "_law_spot" 3 (qvv K))(c_House:CCal P w K mg base "House" qq 1 (qzp qq))(c_lay:MCal P w K mg base qq "lay" 4 (wqb K qq qu qr wy qm))(c_place:MCal P w K mg base qq "place" 5 (Wg K qq qu qw qr wy q8 qx qp))(c__law_book:Cal P w K mg base "_law_book" 3 (qyr K))
  (c__law_pick:Cal P w K mg base "_law_pick" 2 (y0 K)) (c_take_back:MCal P w K mg base qq "take_back" 2 (Zq qq qz)) (c__law_deed:Cal P w K mg base "_law_deed" 9 (qvd K qq qu qw)) (c__law_is:Cal P w K mg base "_law_is" 8 (spIs qq qu qw)):FnOk P w K mg base (CXE P w) 11 f fd ["_law_script"] (qus K):=by
 have sc:=wvx
 refine F.okX sc (λvs H Q E h=>by obtain ⟨a,ns,rfl,_⟩:=h;rfl) (λcdv A outer s H vs Q E hr h=>?_)
 obtain ⟨a,ns,rfl,hS,hl,k⟩:=h
 have e0:(w8 s_law).drop 0=(w8 s_law)[0]'(by decide +kernel)::(w8 s_law).drop 1:=aU (by decide +kernel)
 have e1:(w8 s_law).drop 1=(w8 s_law)[1]'(by decide +kernel)::(w8 s_law).drop 2:=aU (by decide +kernel)
 have e2:(w8 s_law).drop 2=(w8 s_law)[2]'(by decide +kernel)::(w8 s_law).drop 3:=aU (by decide +kernel)
 have e3:(w8 s_law).drop 3=(w8 s_law)[3]'(by decide +kernel)::(w8 s_law).drop 4:=aU (by decide +kernel)
 have e4:(w8 s_law).drop 4=(w8 s_law)[4]'(by decide +kernel)::(w8 s_law).drop 5:=aU (by decide +kernel)
 have e5:(w8 s_law).drop 5=(w8 s_law)[5]'(by decide +kernel)::(w8 s_law).drop 6:=aU (by decide +kernel)
 have e6:(w8 s_law).drop 6=(w8 s_law)[6]'(by decide +kernel)::(w8 s_law).drop 7:=aU (by decide +kernel)
 have e7:(w8 s_law).drop 7=(w8 s_law)[7]'(by decide +kernel)::(w8 s_law).drop 8:=aU (by decide +kernel)
 have e:w8 s_law=(w8 s_law).drop 0:=rfl
 rw [e0,e1,e2,e3,e4,e5,e6,e7] at e
 rw [e]
 clear e e0 e1 e2 e3 e4 e5 e6 e7
 generalize h8:(w8 s_law).drop 8=rest8
 refine ⟨_,(qb (w6 (i:=1) sc.nd rfl (by walk_at "loc") (wf c__law_heights (hr.mono (by decide)) rfl qy (q9 (pv 0) (xx wx (xx wx qk)))))
   (qb (w6 (i:=2) sc.nd rfl (by walk_at "loc") (wf c__law_spot (hr.mono (by decide)) rfl qy (q9 (pv 0) (xx wx (zp (wm kh (xq xb rfl T.len_ aM (q9 (pv 1) qk)) wx) (xx wx qk))))))
   (qb (w6 (i:=3) sc.nd rfl (by walk_at "loc") (vb vt rfl T.list_ br (q9 (pv 1) qk)))
   (qb (w6 (i:=4) sc.nd rfl (by walk_at "loc") (ww0 c_House (hr.mono (by decide)) rfl qy))
   (qb (xn (w4 (pv 4) T.clH c_lay (hr.mono (by decide)) qy (xx xf (q9 (pv 3) qk))))
   (qb (xn (w4 (pv 4) T.clH c_lay (hr.mono (by decide)) qy (xx xf (q9 (pv 3) qk))))
   (qb (jj aP rfl (j4 (yw (qqd (vw (xx xf (xx xf qk))) (qqd (vw (xx xf (xx xf qk))) (qqd (vw (xx xf (xx xf qk))) qk))))) (ju rfl (xh (xu (i:=5) sc.nd rfl (by walk_at "loc")) (xh (xu (i:=6) sc.nd rfl (by walk_at "loc")) vp))) (wq (xn (w4 (pv 4) T.clH c_place (hr.mono (by decide)) qy (q9 (pv 5) (q9 (pv 6) (q9 (pv 2) qk)))))))
   (qb (w6 (i:=7) sc.nd rfl (by walk_at "loc") (yw (kj (wf c__law_book (hr.mono (by decide)) rfl qy (q9 (pv 1) (q9 (pv 2) qk))) qk)))
   (ww6 T c__law_pick c_take_back c__law_deed c__law_is hr h8))))))))),?_⟩
 refine exI rfl ⟨a,ns,_,_,rfl,hS,(by lia),(by lia),(by lia),λp1 hs w1 n1 a1 b1 i1=>?_⟩
 have ok:xj hs:=wy1 i1 a1 (by lia)
 have o1:=ok.1
 have o2:=ok.2.1
 have lm:(hs.map V.int).length=hs.length:=ae _
 have lh5:hs.length≤5:=by have:=i1.1;lia
 have s1:=Same.upd (H:=H) (o:=.lst (hs.map V.int)) n1
 have f1:upd H p1 (.lst (hs.map V.int)) p1=some (.lst (hs.map V.int)):=qh
 generalize upd H p1 (.lst (hs.map V.int))=H1 at s1 f1
 refine exI rfl (exI rfl ⟨p1,exI rfl ⟨.inl (SqL.of f1),wt rfl rfl ?_⟩⟩)
 rw [lm]
 refine ⟨a,ns,_,_,_,rfl,s1.sql hS,(by lia),(by lia),(by lia),(by lia),(by lia),λpa t0 b0 k0 n2 y1 y2 y3 y4 y5 y6=>?_⟩
 have s2':=Same.upd (H:=H1) (o:=.tup [.int (t0*k0),.int (b0*k0)]) n2
 have f2:upd H1 pa (.tup [.int (t0*k0),.int (b0*k0)]) pa=some (.tup [.int (t0*k0),.int (b0*k0)]):=qh
 generalize upd H1 pa (.tup [.int (t0*k0),.int (b0*k0)])=H2 at s2' f2
 have bb1:1≤b0*k0:=Int.mul_pos (by lia) (by lia)
 have bb2:b0*k0≤6*3:=Int.mul_le_mul (by lia) (by lia) (by lia) (by lia)
 have on0:vc hs (t0*k0) (b0*k0):=⟨dv y5 (by lia),by rw [←Int.mul_assoc];exact aF y6 (by lia)⟩
 have b6:(wg (t0*k0) (b0*k0)).2≤6:=by
  rw [wqq y1 y3]
  have:=qj7 (t:=t0) y1
  lia
 generalize t0*k0=t at f2 on0 b6
 generalize b0*k0=b at f2 on0 bb1 bb2 b6
 have hP:HPt hs (wg t b):=⟨ok,⟨low1 bb1,Int.le_refl _,qy8 bb1,wkn bb1 on0⟩,by lia⟩
 have s2:=s1.trans s2'
 refine exI rfl ⟨p1,exI rfl ⟨.inl (SqL.of (s2' _ _ f1)),λsh nsh=>?_⟩⟩
 have s3':=Same.upd (H:=H2) (o:=.lst (hs.map V.int)) nsh
 have f3:upd H2 sh (.lst (hs.map V.int)) sh=some (.lst (hs.map V.int)):=qh
 generalize upd H2 sh (.lst (hs.map V.int))=H3 at s3' f3
 have s3:=s2.trans s3'
 have g1:=s3' _ _ (s2' _ _ f1)
 have g2:=s3' _ _ f2
 have hS3:=s3.sql hS
 refine λx d9 nx nd9 ne9=>⟨x,d9,rfl,qh,λH4 dr dw dd n1' n2' n3' hse kb1=>⟨rfl,?_⟩⟩
 have s4':Same H3 H4:=λz o e=>kb1 z o (λy=>by rw [ai.mp y,nx] at e;cases e) (by rw [wj (qg e nx),wj (qg e nd9)];exact e)
 have fresh:∀ {b},upd (upd H3 d9 (HO.own x)) x (HO.ins qq d9 []) b=none→H3 b=none:=λ{b} m=>by
  cases e:H3 b with
  |none=>rfl
  |some o=>rw [wj (qg e nx),wj (qg e nd9),e] at m;cases m
 have ndd:=fresh n3'
 have hda4:(∀H',SqL K H' a (ns.map V.int))∨a≠(⟨x,dr,dw,dd,[],[],[]⟩:Ho).dd:=(qz7 hS3).imp id λ⟨u,e,_⟩=>qg e ndd
 have v4:VH qq qu qw H4 ⟨x,dr,dw,dd,[],[],[]⟩ [AH.nil]:=VH.nil hse
 have ex:(⟨x,dr,dw,dd,[],[],[]⟩:Ho).x=x:=rfl
 have ld4:(⟨x,dr,dw,dd,[],[],[]⟩:Ho).ds.length=0:=rfl
 generalize (⟨x,dr,dw,dd,[],[],[]⟩:Ho)=o4 at v4 hda4 ex ld4
 subst ex
 have step:∀ {Ha Hb:Hp} {o o':Ho} {as:List AH},VH qq qu qw Ha o as→((∀H',SqL K H' a (ns.map V.int))∨a≠o.dd)→SqL K Ha a (ns.map V.int)→yz Ha pa (t,b)→Ha p1=some (.lst (hs.map V.int))→Ha sh=some (.lst (hs.map V.int))→Nxt Ha o o'→Kb [o.dr,o.dw,o.dd] Ha Hb→SqL K Hb a (ns.map V.int)∧yz Hb pa (t,b)∧Hb p1=some (.lst (hs.map V.int))∧Hb sh=some (.lst (hs.map V.int))∧((∀H',SqL K H' a (ns.map V.int))∨a≠o'.dd):=λ{Ha Hb o o' as} v hda h1 h2 h3 h4 nx kb=>by
  have dl:=v.h.dl
  refine ⟨Kb.sql kb h1 ?_,dl.tup kb h2,dl.row kb ok h3,dl.row kb ok h4,by rw [nx.dd];exact hda⟩
  rcases hda with z|z
  ·exact .inl z
  ·rcases qz7 h1 with y|⟨u,e,m1,m2⟩
   ·exact .inl y
   ·exact .inr λq=>v.h.nin5 (ds:=[]) (λd h=>nomatch h) e m1 m2 z (aH.mpr (.inl q))
 have l5:NM5.length=5:=rfl
 obtain ⟨dx,hx⟩:=v4.h.hs.ob
 refine exI rfl ⟨o4.x,dx,exI rfl ⟨hx,xz (by decide +kernel) (by decide +kernel) (by decide +kernel),_,rfl,?_⟩⟩
 dsimp only [z9,j3,tC]
 have nm0:Nam NM5 AH.nil:=Nam.nil
 refine v4.lays nm0 (by lia) (by lia) (by decide +kernel) (by decide +kernel) rfl (s4' _ _ f3) ok λH5 o5 nx5 v5 kb5=>?_
 obtain ⟨hS5,pa5,g15,sh5,hda5⟩:=step v4 hda4 (s4'.sql hS3) (s4' _ _ g2) (s4' _ _ g1) (s4' _ _ f3) nx5 kb5
 have ld5:o5.ds.length=1:=by
  obtain ⟨d,e,_⟩:=nx5.ds
  rw [e,aL,ld4]
 rw [←nx5.x]
 obtain ⟨dx,hx⟩:=v5.h.hs.ob
 refine exI rfl ⟨o5.x,dx,exI rfl ⟨hx,xz (by decide +kernel) (by decide +kernel) (by decide +kernel),_,rfl,?_⟩⟩
 dsimp only [z9,j3,tC]
 have nm5:Nam NM5 (AH.nil.putR "r" hs):=nm0.putR (by unfold NM5;simp) hs
 refine v5.lays nm5 (by lia) (by lia) (by decide +kernel) (by decide +kernel) ((Q5 (by decide +kernel)).trans rfl) sh5 ok λH6 o6 nx6 v6 kb6=>?_
 obtain ⟨hS6,pa6,g16,sh6,hda6⟩:=step v5 hda5 hS5 pa5 g15 sh5 nx6 kb6
 have ld6:o6.ds.length=2:=by
  obtain ⟨d,e,_⟩:=nx6.ds
  rw [e,aL,ld5]
 rw [←nx6.x]
 have v6:VH qq qu qw H6 o6 (ahI hs (wg t b) 0::[AH.nil.putR "r" hs,AH.nil]):=v6
 refine ⟨sz2,λq0 m0=>?_⟩
 have t0':=Same.upd (H:=H6) (o:=.tup [.str "a",.str "r"]) m0
 have h0:upd H6 q0 (.tup [.str "a",.str "r"]) q0=some (.tup [.str "a",.str "r"]):=qh
 generalize upd H6 q0 (.tup [.str "a",.str "r"])=H7 at t0' h0
 refine ⟨sz2,λq1 m1=>?_⟩
 have t1':=Same.upd (H:=H7) (o:=.tup [.str "b",.str "s"]) m1
 have h1:upd H7 q1 (.tup [.str "b",.str "s"]) q1=some (.tup [.str "b",.str "s"]):=qh
 generalize upd H7 q1 (.tup [.str "b",.str "s"])=H8 at t1' h1
 refine ⟨sz2,λq2 m2=>?_⟩
 have t2':=Same.upd (H:=H8) (o:=.tup [.str "c",.str "r"]) m2
 have h2:upd H8 q2 (.tup [.str "c",.str "r"]) q2=some (.tup [.str "c",.str "r"]):=qh
 generalize upd H8 q2 (.tup [.str "c",.str "r"])=H9 at t2' h2
 refine ⟨sz3,λlx mx=>?_⟩
 have t3':=Same.upd (H:=H9) (o:=.lst [.ref q0,.ref q1,.ref q2]) mx
 have hlx:upd H9 lx (.lst [.ref q0,.ref q1,.ref q2]) lx=some (.lst [.ref q0,.ref q1,.ref q2]):=qh
 have v9:=v6.same ((t0'.trans t1').trans t2')
 have nlx:lx≠o6.dd:=λz=>by rw [z,v9.h.hs.d] at mx;cases mx
 generalize upd H9 lx (.lst [.ref q0,.ref q1,.ref q2])=HA at t3' hlx
 have tA:=((t0'.trans t1').trans t2').trans t3'
 have c0:=t3' _ _ (t2' _ _ (t1' _ _ h0))
 have c1:=t3' _ _ (t2' _ _ h1)
 have c2:=t3' _ _ h2
 refine exI rfl ⟨⟨_,SqL.of hlx⟩,uu (K:=K) (a:=lx) (xs:=[.ref q0,.ref q1,.ref q2]) (λi σ Hx=>∃(o:Ho) (as:List AH) (z5 z6:Option V),σ=[some (.ref a),some (.ref p1),some (.ref pa),some (.ref sh),some (.ref o.x),z5,z6,none,none]∧VH qq qu qw Hx o (ahI hs (wg t b) i::as)∧o.ds.length=2+i∧SqL K Hx a (ns.map V.int)∧yz Hx pa (t,b)∧Hx p1=some (.lst (hs.map V.int))∧Hx sh=some (.lst (hs.map V.int))∧((∀H',SqL K H' a (ns.map V.int))∨a≠o.dd)∧Hx lx=some (.lst [.ref q0,.ref q1,.ref q2])∧lx≠o.dd∧Hx q0=some (.tup [.str "a",.str "r"])∧Hx q1=some (.tup [.str "b",.str "s"])∧Hx q2=some (.tup [.str "c",.str "r"])) ⟨o6,_,none,none,rfl,v6.same tA,ld6,tA.sql hS6,tA _ _ pa6,tA _ _ g16,tA _ _ sh6,hda6,hlx,nlx,c0,c1,c2⟩ (λi σ Hx _ h=>by obtain ⟨_,_,_,_,_,_,_,_,_,_,_,_,h,_⟩:=h;exact SqL.of h) ?_ ?_⟩
 ·rintro i vx σ Hx ev ⟨o,as,z5,z6,rfl,v,ldo,hSx,pax,g1x,shx,hdax,lxx,nlx,c0,c1,c2⟩
  obtain ⟨qv,rfl,fv,hi⟩:=Trip.at_ c0 c1 c2 ev
  refine ⟨qv,exI rfl ⟨SqT.of fv,rfl,_,_,rfl,_,_,rfl,rfl,?_⟩⟩
  obtain ⟨dx,hx⟩:=v.h.hs.ob
  refine exI rfl ⟨o.x,dx,exI rfl ⟨hx,xz (by decide +kernel) (by decide +kernel) (by decide +kernel),exI rfl (exI rfl (exI rfl ?_))⟩⟩
  dsimp only [z9,j3,tC]
  refine v.places (qun hP b6 lh5 i).nam (by lia) (by lia) (by rcases qy0 i with h|h|h <;> rw [h] <;> decide +kernel) (by rcases qy0 i with h|h|h <;> rw [h] <;> decide +kernel) (wx2 hs _ hi) (wzz hs _ i) pax bb1 ((Sm.small (n:=65) (by lia) (by lia) (by decide)).mono (by decide)) hP λHy o' nx v' kb=>?_
  obtain ⟨hSy,pay,g1y,shy,hday⟩:=step v hdax hSx pax g1x shx nx kb
  have dl:=v.h.dl
  have lxy:=kb _ _ (λz=>v.h.nin5 (ds:=[]) (λd h=>nomatch h) lxx (λ_ z=>by cases z) (λ_ _ z=>by cases z) nlx (aH.mpr (.inl z))) lxx
  refine ⟨o',_,_,_,(by rw [nx.x];rfl),(by rw [qk0 hs (wg t b) hi];exact v'),?_,hSy,pay,g1y,shy,hday,lxy,(by rw [nx.dd];exact nlx),dl.tup kb c0,dl.tup kb c1,dl.tup kb c2⟩
  obtain ⟨d,e,_⟩:=nx.ds
  rw [e,aL,ldo]
  lia
 ·rintro σ Hx ⟨o,as,z5,z6,rfl,v,ldo,hSx,pax,g1x,shx,hdax,lxx,nlx,c0,c1,c2⟩
  refine ⟨_,rfl,_,rfl,p1,pa,hs,t,b,rfl,g1x,ok,pax,bb1,by lia,λbk kvs Hy nbk sy hb lk=>?_⟩
  refine ⟨sz1,λbl nbl=>?_⟩
  have sz:=Same.upd (H:=Hy) (o:=.lst [.ref bk]) nbl
  have fbl:upd Hy bl (.lst [.ref bk]) bl=some (.lst [.ref bk]):=qh
  generalize upd Hy bl (.lst [.ref bk])=Hz at sz fbl
  have syz:=sy.trans sz
  have vy:=v.same sy
  have nbb:bl≠o.dd:=λz=>by rw [z,vy.h.hs.d] at nbl;cases nbl
  have ld5:o.ds.length=5:=ldo
  refine ⟨a,p1,pa,sh,bl,ns,hs,t,b,as,hl,bb1,by lia,⟨o,[(bk,kvs,ah3 hs (wg t b))],_,_,_,rfl,syz.sql hSx,?_,⟨v.same syz,fbl,nbb,λw hw=>?_,by rw [ld5];rfl,cT _ _,ah _⟩,syz _ _ pax,syz _ _ g1x,syz _ _ shx,ok⟩,k⟩
  ·rcases hdax with z|z
   ·exact .inl z
   ·rcases qz7 hSx with y|⟨u,e,_⟩
    ·exact .inl y
    ·exact .inr ⟨z,λq=>by rw [q] at e;rw [sy _ _ e] at nbl;cases nbl⟩
  ·rw [ai.mp hw]
   refine ⟨hb.same sz,by show kvs.length≤5+3*0;lia,qun hP b6 lh5 3,λz=>?_,λz=>?_⟩
   ·simp only [ak,am,bz] at z
    rcases z with z|z|z
    ·have z:bk=o.dr:=z
     rw [z,v.h.hs.r] at nbk;cases nbk
    ·have z:bk=o.dw:=z
     rw [z,v.h.hs.w] at nbk;cases nbk
    ·have z:bk=o.dd:=z
     rw [z,v.h.hs.d] at nbk;cases nbk
   ·obtain ⟨d',hd,hq⟩:=cz.mp z
    obtain ⟨⟨_,r1,r2⟩,_⟩:=v.h.da d' hd
    have hq:bk=d'.q1∨bk=d'.q2:=by simpa using hq
    rcases hq with hq|hq
    ·rcases r1 with r1|⟨_,r1⟩ <;> (rw [←hq,nbk] at r1;cases r1)
    ·rcases r2 with r2|⟨_,r2⟩ <;> (rw [←hq,nbk] at r2;cases r2)
end
section
theorem all_mk {l:PySem.W.OpenLaw}{w:Ah}{K:Aa}{h:Heap}{mg:Str→Option Ag}{fa:Aj}{qd:Aj}{qm:Aj}{qx:Aj}{qp:Aj}{qf:Aj}{wz:Aj}{wv:Aj}{qr:Aj}{wy:Aj}{q8:Aj}{qj:Aj}{wb:Aj}{qz:Aj}{qu:Aj}{qw:Aj}{qq:Aj}{t_WIDEST:Tok}{t_LONGEST_TRACE:Tok}{t_FARTHEST:Tok}{t_LONGEST_NAME:Tok}{t_GREATEST_BOTTOM:Tok}{t_LETTERS:Tok}(X:K.In h)(G:h.Ns mainGlobals mg)(hfa:mg "law" = some (.ref fa))
  (d__law_cell:DefIn K "_law_cell" s__law_cell)
  (d__law_pick:DefIn K "_law_pick" s__law_pick)
  (d_check_bottom:DefIn K "check_bottom" s_check_bottom)
  (d_common_divisor:DefIn K "common_divisor" s_common_divisor)
  (d_lowest:DefIn K "lowest" s_lowest)
  (d_check_count:DefInD K "check_count" s_check_count)
  (d_is_line:DefIn K "is_line" s_is_line)
  (d_trace:DefIn K "trace" s_trace)
  (d_spot:DefIn K "spot" s_spot)
  (d_led_to:DefIn K "led_to" s_led_to)
  (d_set_down:DefIn K "set_down" s_set_down)
  (d_is_name:DefIn K "is_name" s_is_name)
  (d_check_new_name:DefIn K "check_new_name" s_check_new_name)
  (d_exchange:DefIn K "exchange" s_exchange)
  (d_meeting:DefIn K "meeting" s_meeting)
  (d__law_climb:DefIn K "_law_climb" s__law_climb)
  (d__law_heights:DefIn K "_law_heights" s__law_heights)
  (d__law_step:DefIn K "_law_step" s__law_step)
  (d__law_common:DefIn K "_law_common" s__law_common)
  (d__law_low:DefIn K "_law_low" s__law_low)
  (d__law_spot:DefIn K "_law_spot" s__law_spot)
  (d__law_whole:DefIn K "_law_whole" s__law_whole)
  (d__law_met:DefIn K "_law_met" s__law_met)
  (d__law_walked:DefIn K "_law_walked" s__law_walked)
  (d__law_book:DefIn K "_law_book" s__law_book)
  (d__law_deed:DefIn K "_law_deed" s__law_deed)
  (d__law_walker_is:DefIn K "_law_walker_is" s__law_walker_is)
  (d__law_is:DefIn K "_law_is" s__law_is)
  (d_law:DefIn K "law" s_law)
  (a_RoadError:PySem.W.nsIn K mainGlobals "RoadError" = some (some (.ref qd)))
  (x_RoadError:PySem.W.excIn K qd [.type "ValueError",.type "Exception",.type "BaseException",.type "object"] "ValueError.__new__" = true)
  (a_BadLine:PySem.W.nsIn K mainGlobals "BadLine" = some (some (.ref qm)))
  (x_BadLine:PySem.W.excIn K qm [.type "ValueError",.type "Exception",.type "BaseException",.type "object"] "ValueError.__new__" = true)
  (a_BadBottom:PySem.W.nsIn K mainGlobals "BadBottom" = some (some (.ref qx)))
  (x_BadBottom:PySem.W.excIn K qx [.type "ValueError",.type "Exception",.type "BaseException",.type "object"] "ValueError.__new__" = true)
  (a_OffRoad:PySem.W.nsIn K mainGlobals "OffRoad" = some (some (.ref qp)))
  (x_OffRoad:PySem.W.excIn K qp [.type "ValueError",.type "Exception",.type "BaseException",.type "object"] "ValueError.__new__" = true)
  (a_BadCount:PySem.W.nsIn K mainGlobals "BadCount" = some (some (.ref qf)))
  (x_BadCount:PySem.W.excIn K qf [.type "ValueError",.type "Exception",.type "BaseException",.type "object"] "ValueError.__new__" = true)
  (a_TooLong:PySem.W.nsIn K mainGlobals "TooLong" = some (some (.ref wz)))
  (x_TooLong:PySem.W.excIn K wz [.type "ValueError",.type "Exception",.type "BaseException",.type "object"] "ValueError.__new__" = true)
  (a_BadRow:PySem.W.nsIn K mainGlobals "BadRow" = some (some (.ref wv)))
  (x_BadRow:PySem.W.excIn K wv [.type "ValueError",.type "Exception",.type "BaseException",.type "object"] "ValueError.__new__" = true)
  (a_BadName:PySem.W.nsIn K mainGlobals "BadName" = some (some (.ref qr)))
  (x_BadName:PySem.W.excIn K qr [.type "ValueError",.type "Exception",.type "BaseException",.type "object"] "ValueError.__new__" = true)
  (a_Taken:PySem.W.nsIn K mainGlobals "Taken" = some (some (.ref wy)))
  (x_Taken:PySem.W.excIn K wy [.type "ValueError",.type "Exception",.type "BaseException",.type "object"] "ValueError.__new__" = true)
  (a_NoRoad:PySem.W.nsIn K mainGlobals "NoRoad" = some (some (.ref q8)))
  (x_NoRoad:PySem.W.excIn K q8 [.type "ValueError",.type "Exception",.type "BaseException",.type "object"] "ValueError.__new__" = true)
  (a_NoWalker:PySem.W.nsIn K mainGlobals "NoWalker" = some (some (.ref qj)))
  (x_NoWalker:PySem.W.excIn K qj [.type "ValueError",.type "Exception",.type "BaseException",.type "object"] "ValueError.__new__" = true)
  (a_Apart:PySem.W.nsIn K mainGlobals "Apart" = some (some (.ref wb)))
  (x_Apart:PySem.W.excIn K wb [.type "ValueError",.type "Exception",.type "BaseException",.type "object"] "ValueError.__new__" = true)
  (a_NothingDone:PySem.W.nsIn K mainGlobals "NothingDone" = some (some (.ref qz)))
  (x_NothingDone:PySem.W.excIn K qz [.type "ValueError",.type "Exception",.type "BaseException",.type "object"] "ValueError.__new__" = true)
  (a_Road:PySem.W.nsIn K mainGlobals "Road" = some (some (.ref qu)))
  (pg_Road:PySem.W.plainGet K qu Str.empty=true)
  (hd_Road:PySem.W.hasDictIn K qu=true)
  (po_Road:PySem.W.plainOver K qu=true)
  (sa_Road:PySem.W.findIn K (.ref qu) "__setattr__" = some (some (.builtin "object.__setattr__")))
  (mk_Road:PySem.W.makesIn K qu=true)
  (kc_Road:PySem.W.keepIn K (.ref qu)=true)
  (m_Road___init__:MethIn K qu "__init__" "Road.__init__" s_Road___init__)
  (m_Road_width:MethIn K qu "width" "Road.width" s_Road_width)
  (m_Road_ends:MethIn K qu "ends" "Road.ends" s_Road_ends)
  (m_Road_corners:MethIn K qu "corners" "Road.corners" s_Road_corners)
  (m_Road_on_road:MethIn K qu "on_road" "Road.on_road" s_Road_on_road)
  (m_Road_at:MethIn K qu "at" "Road.at" s_Road_at)
  (a_Walker:PySem.W.nsIn K mainGlobals "Walker" = some (some (.ref qw)))
  (pg_Walker:PySem.W.plainGet K qw Str.empty=true)
  (hd_Walker:PySem.W.hasDictIn K qw=true)
  (po_Walker:PySem.W.plainOver K qw=true)
  (sa_Walker:PySem.W.findIn K (.ref qw) "__setattr__" = some (some (.builtin "object.__setattr__")))
  (mk_Walker:PySem.W.makesIn K qw=true)
  (kc_Walker:PySem.W.keepIn K (.ref qw)=true)
  (m_Walker___init__:MethIn K qw "__init__" "Walker.__init__" s_Walker___init__)
  (m_Walker_gone:MethIn K qw "gone" "Walker.gone" s_Walker_gone)
  (a_House:PySem.W.nsIn K mainGlobals "House" = some (some (.ref qq)))
  (pg_House:PySem.W.plainGet K qq Str.empty=true)
  (hd_House:PySem.W.hasDictIn K qq=true)
  (po_House:PySem.W.plainOver K qq=true)
  (sa_House:PySem.W.findIn K (.ref qq) "__setattr__" = some (some (.builtin "object.__setattr__")))
  (mk_House:PySem.W.makesIn K qq=true)
  (kc_House:PySem.W.keepIn K (.ref qq)=true)
  (m_House___init__:MethIn K qq "__init__" "House.__init__" s_House___init__)
  (m_House_road_called:MethIn K qq "road_called" "House.road_called" s_House_road_called)
  (m_House_walker_called:MethIn K qq "walker_called" "House.walker_called" s_House_walker_called)
  (m_House_deeds:MethIn K qq "deeds" "House.deeds" s_House_deeds)
  (m_House_do:MethIn K qq "do" "House.do" s_House_do)
  (m_House_lay:MethIn K qq "lay" "House.lay" s_House_lay)
  (m_House_corners_of:MethIn K qq "corners_of" "House.corners_of" s_House_corners_of)
  (m_House_take_back:MethIn K qq "take_back" "House.take_back" s_House_take_back)
  (m_House_bend:MethIn K qq "bend" "House.bend" s_House_bend)
  (m_House_widen:MethIn K qq "widen" "House.widen" s_House_widen)
  (m_House_where:MethIn K qq "where" "House.where" s_House_where)
  (m_House_place:MethIn K qq "place" "House.place" s_House_place)
  (m_House_go:MethIn K qq "go" "House.go" s_House_go)
  (m_House_walkers_on:MethIn K qq "walkers_on" "House.walkers_on" s_House_walkers_on)
  (m_House_names:MethIn K qq "names" "House.names" s_House_names)
  (m_House_together:MethIn K qq "together" "House.together" s_House_together)
  (m_House_leave:MethIn K qq "leave" "House.leave" s_House_leave)
  (m_House_stood:MethIn K qq "stood" "House.stood" s_House_stood)
  (m_House_meet:MethIn K qq "meet" "House.meet" s_House_meet)
  (na_Road_heights:PySem.W.findIn K (.ref qu) "heights" = some none)
  (na_Walker_whose:PySem.W.findIn K (.ref qw) "whose" = some none)
  (na_Walker_point:PySem.W.findIn K (.ref qw) "point" = some none)
  (na_Walker_times:PySem.W.findIn K (.ref qw) "times" = some none)
  (na_House_roads:PySem.W.findIn K (.ref qq) "roads" = some none)
  (na_House_walkers:PySem.W.findIn K (.ref qq) "walkers" = some none)
  (na_House_done:PySem.W.findIn K (.ref qq) "done" = some none)
  (g_WIDEST:PySem.W.nsIn K mainGlobals "WIDEST" = some (some (.int 24 t_WIDEST)))
  (g_LONGEST_TRACE:PySem.W.nsIn K mainGlobals "LONGEST_TRACE" = some (some (.int 1000 t_LONGEST_TRACE)))
  (g_FARTHEST:PySem.W.nsIn K mainGlobals "FARTHEST" = some (some (.int 1000000000000000000000000000000000000000000000000000000000000 t_FARTHEST)))
  (g_LONGEST_NAME:PySem.W.nsIn K mainGlobals "LONGEST_NAME" = some (some (.int 12 t_LONGEST_NAME)))
  (g_GREATEST_BOTTOM:PySem.W.nsIn K mainGlobals "GREATEST_BOTTOM" = some (some (.int 40 t_GREATEST_BOTTOM)))
  (g_LETTERS:PySem.W.nsIn K mainGlobals "LETTERS" = some (some (.str "abcdefghijklmnopqrstuvwxyz" t_LETTERS)))
  (z_tuple:PySem.W.nsIn K mainGlobals "tuple" = some none)
  (z_len:PySem.W.nsIn K mainGlobals "len" = some none)
  (z_abs:PySem.W.nsIn K mainGlobals "abs" = some none)
  (z_range:PySem.W.nsIn K mainGlobals "range" = some none)
  (z_list:PySem.W.nsIn K mainGlobals "list" = some none)
  (z_min:PySem.W.nsIn K mainGlobals "min" = some none)
  (z_max:PySem.W.nsIn K mainGlobals "max" = some none)
  (z_all:PySem.W.nsIn K mainGlobals "all" = some none)
  (z_any:PySem.W.nsIn K mainGlobals "any" = some none)
  (z_sorted:PySem.W.nsIn K mainGlobals "sorted" = some none)
  (z_enumerate:PySem.W.nsIn K mainGlobals "enumerate" = some none)
  (z_dict:PySem.W.nsIn K mainGlobals "dict" = some none)
  (z_isinstance:PySem.W.nsIn K mainGlobals "isinstance" = some none)
  (z_int:PySem.W.nsIn K mainGlobals "int" = some none)
  (z_bool:PySem.W.nsIn K mainGlobals "bool" = some none) :
  ∃fd:Ad,(∀(s:Ab) (v:Ag),BindsTo s fd ⟨[v],[]⟩ [("_law_script",v)])∧∀base:Heap,K.In base→base.Ns mainGlobals mg→FnOk l.prog w K mg base (CXE l.prog w) 11 fa fd ["_law_script"] (qus K):=by
 have T:Txt K mg qd qm qx qp qf wz wv qr wy q8 qj wb qz qu qw qq:=⟨aQ X G z_tuple,aQ X G z_len,aQ X G z_abs,aQ X G z_range,aQ X G z_list,aQ X G z_min,aQ X G z_max,aQ X G z_all,aQ X G z_any,aQ X G z_sorted,aQ X G z_enumerate,aQ X G z_dict,aQ X G z_isinstance,aQ X G z_int,aQ X G z_bool,aG X G a_RoadError,⟨x_RoadError⟩,aG X G a_BadLine,⟨x_BadLine⟩,aG X G a_BadBottom,⟨x_BadBottom⟩,aG X G a_OffRoad,⟨x_OffRoad⟩,aG X G a_BadCount,⟨x_BadCount⟩,aG X G a_TooLong,⟨x_TooLong⟩,aG X G a_BadRow,⟨x_BadRow⟩,aG X G a_BadName,⟨x_BadName⟩,aG X G a_Taken,⟨x_Taken⟩,aG X G a_NoRoad,⟨x_NoRoad⟩,aG X G a_NoWalker,⟨x_NoWalker⟩,aG X G a_Apart,⟨x_Apart⟩,aG X G a_NothingDone,⟨x_NothingDone⟩,⟨pg_Road,hd_Road,po_Road,sa_Road⟩,na_Road_heights,⟨t_WIDEST,aG X G g_WIDEST⟩,aG X G a_Road,⟨pg_Walker,hd_Walker,po_Walker,sa_Walker⟩,⟨pg_House,hd_House,po_House,sa_House⟩,na_Walker_whose,na_Walker_point,na_Walker_times,na_House_roads,na_House_walkers,na_House_done,aG X G a_Walker,aG X G a_House,⟨t_LONGEST_TRACE,aG X G g_LONGEST_TRACE⟩,⟨t_FARTHEST,aG X G g_FARTHEST⟩,⟨t_LONGEST_NAME,aG X G g_LONGEST_NAME⟩,⟨t_GREATEST_BOTTOM,aG X G g_GREATEST_BOTTOM⟩,⟨t_LETTERS,aG X G g_LETTERS⟩⟩
 obtain ⟨f,fd,a,F⟩:=d_law.ex
 have e:=hfa.symm.trans (aG X G a)
 cases e
 refine ⟨fd,λs v=>?_,λbase kb nb=>?_⟩
 ·obtain ⟨oc,od,kV,doc,pm,an,cdv,ct,osl,rfl,lk,hcd⟩:=F.ex
  exact .of_eq rfl
 ·have c1:Cal l.prog w K mg base "_law_cell" 1 (qj4 K):=d__law_cell.cal X G qzf λf fd F=>wjj F T
  have c2:Cal l.prog w K mg base "_law_pick" 2 (y0 K):=d__law_pick.cal X G qzn λf fd F=>wjv F T c1
  have c3:Cal l.prog w K mg base "check_bottom" 1 (qvn qx):=d_check_bottom.cal X G Z9 λf fd F=>wzh F T
  have c4:Cal l.prog w K mg base "common_divisor" 1 qwt:=d_common_divisor.cal X G Wq λf fd F=>ok_gcd F T
  have c5:Cal l.prog w K mg base "lowest" 2 (yc qx):=d_lowest.cal X G wq7 λf fd F=>wwj F T c3 c4
  have c6:CalD l.prog w K mg base "check_count" 1 (Yz qf):=d_check_count.cal X G qqy Jc λf fd F=>wkg F T
  have c7:Cal l.prog w K mg base "is_line" 1 (qqm K):=d_is_line.cal X G qub λf fd F=>qyp F T
  have c8:CCal l.prog w K mg base "Road" qu 2 (Zv K qm qu):=m_Road___init__.ccal T.g_Road mk_Road kc_Road Zd λf fd F=>wy4 F T c7
  have c9:MCal l.prog w K mg base qu "width" 1 (Wx qu):=m_Road_width.cal qwh λf fd F=>wv6 F T
  have c10:MCal l.prog w K mg base qu "ends" 2 (qj2 qu wv):=m_Road_ends.cal qvh λf fd F=>wj8 F T c9
  have c11:MCal l.prog w K mg base qu "corners" 1 (yf qu):=m_Road_corners.cal Z8 λf fd F=>qjt F T
  have c12:MCal l.prog w K mg base qu "on_road" 3 (um K qu qx qp):=m_Road_on_road.cal Z1 λf fd F=>qym F T c9 c5
  have c13:MCal l.prog w K mg base qu "at" 4 (spAt K qu qx qp):=m_Road_at.cal quj λf fd F=>ok_at F T c9 c5 c10 c12
  have c14:Cal l.prog w K mg base "trace" 5 (Yd qu wz):=d_trace.cal X G wku λf fd F=>wxv F T c13
  have c15:Cal l.prog w K mg base "spot" 1 qz9:=d_spot.cal X G wjf λf fd F=>wy5 F T
  have c16:Cal l.prog w K mg base "led_to" 1 wkc:=d_led_to.cal X G ww5 λf fd F=>ok_led F T
  have c17:CCal l.prog w K mg base "Walker" qw 1 (W5 qw):=m_Walker___init__.ccal T.g_Walker mk_Walker kc_Walker Qs λf fd F=>wkt F T
  have c18:Cal l.prog w K mg base "set_down" 3 (W8 qw):=d_set_down.cal X G qku λf fd F=>qkb F T c17
  have c19:MCal l.prog w K mg base qw "gone" 6 (qzq qw qu):=m_Walker_gone.cal Jm λf fd F=>wy3 F T c14 c16 c15 c17
  have c20:Cal l.prog w K mg base "is_name" 1 qqs:=d_is_name.cal X G qud λf fd F=>qy9 F T
  have c21:Cal l.prog w K mg base "check_new_name" 2 (Qz qr wy):=d_check_new_name.cal X G Wd λf fd F=>qjc F T c20
  have c22:Cal l.prog w K mg base "exchange" 1 qz8:=d_exchange.cal X G qvt λf fd F=>wym F T
  have c23:CCal l.prog w K mg base "House" qq 1 (qzp qq):=m_House___init__.ccal T.g_House mk_House kc_House W2 λf fd F=>wzq F T
  have c24:MCal l.prog w K mg base qq "road_called" 1 (zr qq q8 true):=m_House_road_called.cal ur λf fd F=>Jw F T
  have c25:MCal l.prog w K mg base qq "walker_called" 1 (zr qq qj false):=m_House_walker_called.cal yt λf fd F=>Zx F T
  have c26:MCal l.prog w K mg base qq "deeds" 1 (qvj qq):=m_House_deeds.cal qqw λf fd F=>wvp F T
  have c27:MCal l.prog w K mg base qq "do" 2 (Z0 qq):=m_House_do.cal qjw λf fd F=>ok_do F T c22
  have c28:MCal l.prog w K mg base qq "lay" 4 (wqb K qq qu qr wy qm):=m_House_lay.cal qzd λf fd F=>ok_lay F T c21 c8 c27
  have c29:MCal l.prog w K mg base qq "corners_of" 2 (uw qq qu q8):=m_House_corners_of.cal Qu λf fd F=>qwv F T c24 c11
  have c30:MCal l.prog w K mg base qq "take_back" 2 (Zq qq qz):=m_House_take_back.cal Qr λf fd F=>wj6 F T c22
  have c31:MCal l.prog w K mg base qq "bend" 4 (qz2 qq qu q8 qm):=m_House_bend.cal qww λf fd F=>wk3 F T c24 c11 c8 c27
  have c32:MCal l.prog w K mg base qq "widen" 4 (Yy qq qu q8 qm):=m_House_widen.cal Jb λf fd F=>wz0 F T c24 c11 c8 c27
  have c33:MCal l.prog w K mg base qq "where" 2 (qzx qq qw qj):=m_House_where.cal Ju λf fd F=>wzk F T c25
  have c34:MCal l.prog w K mg base qq "place" 5 (Wg K qq qu qw qr wy q8 qx qp):=m_House_place.cal qq0 λf fd F=>wx5 F T c21 c24 c5 c12 c18 c27
  have c35:MCal l.prog w K mg base qq "go" 8 (spGo qq qu qw qj qf):=m_House_go.cal qjx λf fd F=>ok_go F T c25 c6 c19 c27
  have c36:MCal l.prog w K mg base qq "walkers_on" 1 (spOn qq qw):=m_House_walkers_on.cal Qj λf fd F=>qwy F T
  have c37:MCal l.prog w K mg base qq "names" 1 (qzw qq):=m_House_names.cal Jt λf fd F=>wxj F T
  have c38:MCal l.prog w K mg base qq "together" 8 (qug qq qu qw q8 qf):=m_House_together.cal Wf λf fd F=>qkv F T c24 c6 c36 c19 c27
  have c39:MCal l.prog w K mg base qq "leave" 3 (Yq qq qj):=m_House_leave.cal Jp λf fd F=>wx7 F T c25 c27
  have c40:MCal l.prog w K mg base qq "stood" 3 (qx3 qq qw qj qx):=m_House_stood.cal qqj λf fd F=>wv8 F T c25 c5
  have c41:Cal l.prog w K mg base "meeting" 6 (Zc K qu):=d_meeting.cal X G qyk λf fd F=>qyz F T c12 c14 c15
  have c42:MCal l.prog w K mg base qq "meet" 7 (qvx qq qu qw qj wb):=m_House_meet.cal qwp λf fd F=>wyj F T c25 c41
  have c43:Cal l.prog w K mg base "_law_climb" 3 (Yf K):=d__law_climb.cal X G qq9 λf fd F=>wkw F T c2
  have c44:Cal l.prog w K mg base "_law_heights" 4 (Zj K):=d__law_heights.cal X G Z7 λf fd F=>qy5 F T c2 c43
  have c45:Cal l.prog w K mg base "_law_step" 1 (qzs K):=d__law_step.cal X G qvz λf fd F=>wjn F T
  have c46:Cal l.prog w K mg base "_law_common" 1 qwt:=d__law_common.cal X G J9 λf fd F=>ww1 F T
  have c47:Cal l.prog w K mg base "_law_low" 2 qws:=d__law_low.cal X G qv7 λf fd F=>ok_low F T c46
  have c48:Cal l.prog w K mg base "_law_spot" 3 (qvv K):=d__law_spot.cal X G qzb λf fd F=>wkk F T c2
  have c49:Cal l.prog w K mg base "_law_whole" 1 qzv:=d__law_whole.cal X G qwj λf fd F=>wzx F T
  have c50:Cal l.prog w K mg base "_law_met" 3 (wvd K):=d__law_met.cal X G qjn λf fd F=>ok_met F T c47 c45
  have c51:Cal l.prog w K mg base "_law_walked" 3 (Y4 K):=d__law_walked.cal X G Jz λf fd F=>qy6 F T c47 c45
  have c52:Cal l.prog w K mg base "_law_book" 3 (qyr K):=d__law_book.cal X G qxn λf fd F=>wj0 F T c47
  have c53:Cal l.prog w K mg base "_law_deed" 9 (qvd K qq qu qw):=d__law_deed.cal X G qxt λf fd F=>wyp F T c2 c47 c51 c31 c32 c38 c34 c39 c35
  have c54:Cal l.prog w K mg base "_law_walker_is" 4 (Q3 qq qu qw):=d__law_walker_is.cal X G Wv λf fd F=>qx6 F T c33 c40 c49
  have c55:Cal l.prog w K mg base "_law_is" 8 (spIs qq qu qw):=d__law_is.cal X G quv λf fd F=>ok_is F T c37 c26 c29 c54 c50 c42
  exact ok_law F T c44 c48 c23 c28 c34 c52 c2 c30 c53 c55
theorem walk {l:PySem.W.OpenLaw}{q:Ac}{loose:List Str}{XP:(Str→Option Ag)→Heap→Prop}{YP:Ah→Heap→Prop}{d:DefRec}{K:Params→Aa}(hn:l.most=some 63)(hdf:d.params.defaults=[])
  (hY:∀(w:Ah) (h:Heap),YP w h→(K w.params).In h)
  (F:∀(w:Ah) (mg:Str→Option Ag) (fa:Aj) (h:Heap),(K w.params).In h→h.Ns mainGlobals mg→mg d.name=some (.ref fa) →
   ∃fd:Ad,(∀(s:Ab) (u:Ag),BindsTo s fd ⟨[u],[]⟩ [("_law_script",u)])∧∀base:Heap,(K w.params).In base→base.Ns mainGlobals mg→FnOk l.prog w (K w.params) mg base (CXE l.prog w) 11 fa fd ["_law_script"] (qus (K w.params))) :
  PySem.W.WalkO q loose XP YP l.row.toRowW d [] (λf vs=>PySem.call f vs) :=
 L2.wjx (n:=63) (k:=11) (x := "_law_script") (CX:=λw=>CXE l.prog w) (sp:=λw=>qus (K w.params)) hn (by decide) hdf ⟨rfl,by decide,by decide⟩ hY F (λ_ _ a ns hl _ hS=>⟨a,ns,rfl,hS,hl,λ_=>rfl⟩) λ_ _ _ _ _ z=>CXE.no z
end
end My
open PySem PySem.W PyProof.Rows
local macro_rules | `(tactic| walk_at "def")=>`(tactic| (refine' L2.def_mk ?a ?l ?c ?k;(case a=>k_is);(case l=>k_is);(case c=>k_is);(case k=>k_is)))
local macro_rules | `(tactic| walk_at "defD")=>`(tactic| (refine' L2.wjp ?a ?l ?c ?k ?t;(case a=>k_is);(case l=>k_is);(case c=>k_is);(case k=>k_is);(case t=>k_is)))
local macro_rules | `(tactic| walk_at "meth")=>`(tactic| (refine' L2.wjz ?a ?i ?l ?c ?k;(case a=>k_is);(case i=>k_is);(case l=>k_is);(case c=>k_is);(case k=>k_is)))
namespace PySem.W.Fast
theorem tw8438519533402572719:True:=trivial
theorem tw14910368589920175151:True:=trivial
theorem tw3972016590164866707:True:=trivial
theorem tw1384194144043829815:True:=trivial
theorem tw18025806239890669513:True:=trivial
theorem tw3658999254515851140:True:=trivial
theorem tw3706830798074736554:True:=trivial
theorem tw8077950486753356820:True:=trivial
theorem tw7251059507971784857:True:=trivial
theorem tw102389551054622924:True:=trivial
theorem tw17816584707422072635:True:=trivial
theorem tw327992103041251932:True:=trivial
theorem tw11239200645129150142:True:=trivial
theorem tw3920005642985455855:True:=trivial
theorem tw15177217085400252531:True:=trivial
theorem tw10014496454021906139:True:=trivial
theorem tw11938769169636375073:True:=trivial
theorem tw17791892282321067934:True:=trivial
theorem tw473032664028803546:True:=trivial
theorem tw6931303975637009695:True:=trivial
theorem tw966680694968731910:True:=trivial
theorem tw14300910458270524036:True:=trivial
theorem tw7051502716101821313:True:=trivial
theorem tw9354351246538629349:True:=trivial
theorem tw14654464345447079708:True:=trivial
theorem tw5654970137566828399:True:=trivial
theorem tw16265546984412693757:True:=trivial
theorem tw12459234630439263733:True:=trivial
theorem tw12070023098311711478:True:=trivial
theorem tw4787822716068903315:True:=trivial
theorem tw1578395569225458628:True:=trivial
theorem tw2394616999215804059:True:=trivial
theorem tw5682647792077476092:True:=trivial
theorem tw15880095185783805085:True:=trivial
theorem tw17299996706738931670:True:=trivial
theorem tw14490959627195605536:True:=trivial
theorem tw3024538212115651545:True:=trivial
theorem tw15350183743300630528:True:=trivial
theorem tw15775587981594465173:True:=trivial
theorem tw14961103214153932527:True:=trivial
theorem tw9195359968185052587:True:=trivial
theorem tw2821674214291501970:True:=trivial
theorem tw11458779736117369029:True:=trivial
theorem tw3949317541536859891:True:=trivial
theorem tw15716998489144162649:True:=trivial
theorem tw3914917349291552985:True:=trivial
theorem tw442593950343277813:True:=trivial
theorem tw18158611915719272401:True:=trivial
theorem tw8973026263720737882:True:=trivial
theorem tw4653039137190161310:True:=trivial
theorem tw1577941641581536900:True:=trivial
theorem tw14978399249350858296:True:=trivial
theorem tw6473970063105071605:True:=trivial
theorem tw13330933476624383980:True:=trivial
theorem tw7791982048974796971:True:=trivial
theorem tw2518524308758240154:True:=trivial
theorem tw797374884341468835:True:=trivial
theorem tw10490325079934525173:True:=trivial
theorem tw3034272661481263803:True:=trivial
theorem tw11586609050588565060:True:=trivial
theorem tw11554823583593231093:True:=trivial
theorem tw3933852509426764449:True:=trivial
theorem tw2968071700507113116:True:=trivial
theorem tw15809999306691730325:True:=trivial
theorem tw18152176376391537805:True:=trivial
theorem tw3217494484265234608:True:=trivial
theorem tw8138903230124176443:True:=trivial
theorem tw8119230594097478195:True:=trivial
theorem tw17510717393886633921:True:=trivial
theorem tw9947837096814279526:True:=trivial
theorem tw10075783769952623458:True:=trivial
theorem tw14995798791872653659:True:=trivial
theorem tw17349050747890118760:True:=trivial
theorem tw11147544146574233200:True:=trivial
theorem tw2738175249270835670:True:=trivial
theorem tw13374491372342123417:True:=trivial
theorem tw15681445882513189162:True:=trivial
theorem tw10011765147674017065:True:=trivial
theorem tw11704879368587355216:True:=trivial
theorem tw14582212979199766461:True:=trivial
theorem tw18353473213035812126:True:=trivial
theorem tw14889841536026961539:True:=trivial
theorem tw981871374442633694:True:=trivial
theorem tw17402691520085667978:True:=trivial
theorem tw10887868937927053468:True:=trivial
theorem tw15476372199715217643:True:=trivial
theorem tw12187395932031578125:True:=trivial
theorem tw18222650237785289496:True:=trivial
theorem tw7546294638000341559:True:=trivial
theorem tw4855187818125890705:True:=trivial
theorem tw8125585842854781999:True:=trivial
theorem tw6422254576510958595:True:=trivial
theorem tw16981987990655947183:True:=trivial
theorem tw13414798670380065720:True:=trivial
theorem tw1594362818323009326:True:=trivial
theorem tw6907894502455299407:True:=trivial
theorem tw632719694072251:True:=trivial
theorem tw3021291587439385576:True:=trivial
theorem tw11439223573348244087:True:=trivial
theorem tw7718026646464167032:True:=trivial
theorem tw17585314209628126895:True:=trivial
theorem tw17273396707641300269:True:=trivial
theorem tw16157360599717213318:True:=trivial
theorem tw12470372172529169266:True:=trivial
theorem tw13067446612715979585:True:=trivial
theorem tw8673962051678282028:True:=trivial
theorem tw14646612158423083264:True:=trivial
theorem tw12376163074399815657:True:=trivial
theorem tw12392027009488017813:True:=trivial
theorem tw16411733199752248332:True:=trivial
theorem tw4280236936165718527:True:=trivial
theorem tw5363793444142232387:True:=trivial
theorem tw8093651823191428279:True:=trivial
theorem tw5942696379823952810:True:=trivial
theorem tw3592277084740379220:True:=trivial
theorem tw17990236980073920414:True:=trivial
theorem tw9682660882272035479:True:=trivial
theorem tw16722100725763031154:True:=trivial
theorem tw13614709263745730377:True:=trivial
theorem tw8300391338564488399:True:=trivial
theorem tw17639336115539111341:True:=trivial
theorem tw2643822074680010036:True:=trivial
theorem tw15282384951146753543:True:=trivial
theorem tw16252970244718796058:True:=trivial
theorem tw7798113534543637951:True:=trivial
theorem tw11981986482667385242:True:=trivial
theorem tw16888476662919317644:True:=trivial
theorem tw18146078684251537696:True:=trivial
theorem tw12840348758469023043:True:=trivial
theorem tw5660387604968740632:True:=trivial
theorem tw408657658538926100:True:=trivial
theorem tw16268492937763114810:True:=trivial
theorem tw5589282144359210138:True:=trivial
theorem tw5584085110995588821:True:=trivial
theorem tw11087973703798409219:True:=trivial
theorem tw1789698802659327313:True:=trivial
theorem tw7893106382794350708:True:=trivial
theorem tw14790666614104293462:True:=trivial
theorem tw16426034119703588275:True:=trivial
theorem tw3916849547912029007:True:=trivial
theorem tw12141106171247300544:True:=trivial
theorem tw12254012140020464810:True:=trivial
theorem tw4639521777586553515:True:=trivial
theorem tw12653712559650987852:True:=trivial
theorem tw552998132481358948:True:=trivial
theorem tw11746528390691172336:True:=trivial
theorem tw7152376779363932969:True:=trivial
theorem tw17324069162710326047:True:=trivial
theorem tw799093277963392845:True:=trivial
theorem tw3650597317128619861:True:=trivial
theorem tw9837305139352687866:True:=trivial
theorem tw456020465441394147:True:=trivial
theorem tw16179016446149094036:True:=trivial
theorem tw14005978542844097394:True:=trivial
theorem tw347067787899425863:True:=trivial
theorem tw9861591569658451104:True:=trivial
theorem tw13235197073963594815:True:=trivial
theorem tw5507005003175437873:True:=trivial
theorem tw17487287865772727780:True:=trivial
theorem tw18300521802214690818:True:=trivial
theorem tw17746599830387820874:True:=trivial
theorem tw14788083791148300003:True:=trivial
theorem tw9920136241672062251:True:=trivial
theorem tw14316290826171846254:True:=trivial
theorem tw2148591510840329285:True:=trivial
theorem tw9485101969071237772:True:=trivial
theorem tw13482336371850707069:True:=trivial
theorem tw4659458270801601801:True:=trivial
theorem tw2655624101268578422:True:=trivial
theorem tw17975643484833507200:True:=trivial
theorem tw14650322060772673861:True:=trivial
theorem tw3872182771202360973:True:=trivial
theorem tw2193271100086229018:True:=trivial
theorem tw11747281290534319693:True:=trivial
theorem tw696725928411313378:True:=trivial
theorem tw2627885975439742525:True:=trivial
theorem tw7940420577671445350:True:=trivial
theorem tw894627880472994669:True:=trivial
theorem tw6490555016648926639:True:=trivial
theorem tw9839354725153278587:True:=trivial
theorem tw7224586091127399044:True:=trivial
theorem tw4670026058382998691:True:=trivial
theorem tw12360882420146333186:True:=trivial
theorem tw14433006839607271497:True:=trivial
theorem tw1620772687416702794:True:=trivial
theorem tw11403218848006038067:True:=trivial
theorem tw14711206104853080021:True:=trivial
theorem tw9781682321194982003:True:=trivial
theorem tw9215456959731340810:True:=trivial
theorem tw3085157949301990980:True:=trivial
theorem tw7741174269680705290:True:=trivial
theorem tw13844602521720432260:True:=trivial
theorem tw12363457906530361714:True:=trivial
theorem tw12188528816244752918:True:=trivial
theorem tw6542377170298894053:True:=trivial
theorem tw13703121198107558837:True:=trivial
theorem tw15276174308693379234:True:=trivial
theorem tw5811829823749610441:True:=trivial
theorem tw12099373965999804259:True:=trivial
theorem tw8136688611359584238:True:=trivial
theorem tw14099761842091792744:True:=trivial
theorem tw16790929911011854389:True:=trivial
theorem tw14117430501254153209:True:=trivial
theorem tw8288479413232532646:True:=trivial
theorem tw14370771428363596495:True:=trivial
theorem tw5606451546844567739:True:=trivial
theorem tw3754742200771137866:True:=trivial
theorem tw16731206940176832372:True:=trivial
theorem tw9448223729177463354:True:=trivial
theorem tw1335788457466041348:True:=trivial
theorem tw3545166723086781839:True:=trivial
theorem tw17861005251688485370:True:=trivial
theorem tw16655456333117559722:True:=trivial
theorem tw5769658079137568607:True:=trivial
theorem tw2774201839038501867:True:=trivial
theorem tw5440552255845963934:True:=trivial
theorem tw4785775338910522234:True:=trivial
theorem tw16708177872685068650:True:=trivial
theorem tw7821585621525289252:True:=trivial
theorem tw14690949880488959790:True:=trivial
theorem tw3861369967233283025:True:=trivial
theorem tw17947779072316999110:True:=trivial
theorem tw8270702618152000055:True:=trivial
theorem tw7746663044625439809:True:=trivial
theorem tw1404280874877981466:True:=trivial
theorem tw9059515672834608582:True:=trivial
theorem tw4437732155018467958:True:=trivial
theorem tw5950469109321266664:True:=trivial
theorem tw5587835697717245119:True:=trivial
theorem tw10673928610613462042:True:=trivial
theorem tw10509856061313408437:True:=trivial
theorem tw4480707939043070766:True:=trivial
theorem tw6033773779230092396:True:=trivial
theorem tw3739339236906136701:True:=trivial
theorem tw13795366922249907982:True:=trivial
theorem tw3906687749793289139:True:=trivial
theorem tw3691409217488211250:True:=trivial
theorem tw17647093597738001879:True:=trivial
theorem tw3965848909119627820:True:=trivial
theorem tw14820093410967853092:True:=trivial
theorem tw13679115474756955010:True:=trivial
theorem tw39614679053262998:True:=trivial
theorem tw14864210308996739841:True:=trivial
theorem tw14799793626463598476:True:=trivial
theorem tw1901783232926897580:True:=trivial
theorem tw9275722124488022417:True:=trivial
theorem tw11007626752778596860:True:=trivial
theorem tw12184081030009255834:True:=trivial
theorem tw6177396284416640457:True:=trivial
theorem tw4879271176670829150:True:=trivial
theorem tw8130750990999505616:True:=trivial
theorem tw7516704333100951515:True:=trivial
theorem tw5229364489577483521:True:=trivial
theorem tw9010086475545672471:True:=trivial
theorem tw1891576827047500572:True:=trivial
theorem tw16620026857312598426:True:=trivial
theorem tw11213934644512236762:True:=trivial
theorem tw15470402019338717290:True:=trivial
theorem tw14237245845803419943:True:=trivial
theorem tw15364398343274844486:True:=trivial
theorem tw8460477603928762189:True:=trivial
theorem tw11811816175326317353:True:=trivial
theorem tw13643275500555751602:True:=trivial
theorem tw13206731207700229667:True:=trivial
theorem tw9802392863598101997:True:=trivial
theorem tw11826204164340458780:True:=trivial
theorem tw15207383927195981955:True:=trivial
theorem tw10348979109634426881:True:=trivial
theorem tw7967094162717198473:True:=trivial
theorem tw13022592100113518236:True:=trivial
theorem tw8817835994999298657:True:=trivial
theorem tw4393174399318740544:True:=trivial
theorem tw3406906321594347416:True:=trivial
theorem tw14756819628094043825:True:=trivial
theorem tw9395443890017564944:True:=trivial
theorem tw1452447534247439779:True:=trivial
theorem tw6890049380958816224:True:=trivial
theorem tw6922757404928152203:True:=trivial
theorem tw16983809892274240552:True:=trivial
theorem tw16331323690862159278:True:=trivial
theorem tw11727939679031405611:True:=trivial
theorem tw13055651837140601213:True:=trivial
theorem tw14633340632067132194:True:=trivial
theorem tw1872082549824964382:True:=trivial
theorem tw14479902997992737587:True:=trivial
theorem tw3430395263466405259:True:=trivial
theorem tw3363267380596433327:True:=trivial
theorem tw9707157904921414344:True:=trivial
theorem tw15185971470540892435:True:=trivial
theorem tw6614563816963192636:True:=trivial
theorem tw17538459638815893854:True:=trivial
theorem tw5604937228142895647:True:=trivial
theorem tw12417107438384941282:True:=trivial
theorem tw12912279096989759278:True:=trivial
theorem tw894031690142075812:True:=trivial
theorem tw1752797404214421956:True:=trivial
theorem tw4700727616578067920:True:=trivial
theorem tw6124179546955051630:True:=trivial
theorem tw15430787471506252034:True:=trivial
theorem tw8626271006431175655:True:=trivial
theorem tw12541180997153762070:True:=trivial
theorem tw9854819751737863221:True:=trivial
theorem tw7001304442386720303:True:=trivial
theorem tw5361390608022828769:True:=trivial
theorem tw11970309452415214719:True:=trivial
theorem tw12801494934731560177:True:=trivial
theorem tw5611743479593440879:True:=trivial
theorem tw8261514337794530602:True:=trivial
theorem tw10508014707254900454:True:=trivial
theorem tw542211592034288933:True:=trivial
theorem tw16367602262672097960:True:=trivial
theorem tw4220671242698112783:True:=trivial
theorem tw8083956575904346664:True:=trivial
theorem tw18036281048778296318:True:=trivial
theorem tw13198935494288959300:True:=trivial
theorem tw17508141545920425210:True:=trivial
theorem tw13675352712225240809:True:=trivial
theorem tw18261692554902741542:True:=trivial
theorem tw14564398010821478464:True:=trivial
theorem tw17630532431005233306:True:=trivial
theorem tw2841713285109809491:True:=trivial
theorem tw968933204845776269:True:=trivial
theorem tw12245114465008628469:True:=trivial
theorem tw9773793594280966154:True:=trivial
theorem tw4255891920975306323:True:=trivial
theorem tw2558010374476361808:True:=trivial
theorem tw2993698236283689743:True:=trivial
theorem tw7654638077806058604:True:=trivial
theorem tw12721820502065271630:True:=trivial
theorem tw17574273792037286484:True:=trivial
theorem tw17963468298249805276:True:=trivial
theorem tw13611086787159900722:True:=trivial
theorem tw12058576260426897478:True:=trivial
theorem tw8867210678922034064:True:=trivial
theorem tw12037920127635374609:True:=trivial
theorem tw14653084652425169510:True:=trivial
theorem tw2802571311536063760:True:=trivial
theorem tw1794536613469160640:True:=trivial
theorem tw12432713368670681801:True:=trivial
theorem tw10380839641638095317:True:=trivial
theorem tw13239738263176512008:True:=trivial
theorem tw9871144314120607514:True:=trivial
theorem tw11853588013967304209:True:=trivial
theorem tw16151873695519975175:True:=trivial
theorem tw2932014381729904622:True:=trivial
theorem tw10601663299218760349:True:=trivial
theorem tw8857473325147236738:True:=trivial
theorem tw1882980103909585989:True:=trivial
theorem tw7093495342664506200:True:=trivial
theorem tw16669846992067688195:True:=trivial
theorem tw18272522798134697389:True:=trivial
theorem tw3294125497525205540:True:=trivial
theorem tw1102802640828489259:True:=trivial
theorem tw15376363964872572328:True:=trivial
theorem tw9805424887598409059:True:=trivial
theorem tw13195298911046286138:True:=trivial
theorem tw3172717402554975844:True:=trivial
theorem tw11570323631549421685:True:=trivial
theorem tw15492818343761691048:True:=trivial
theorem tw10630933026926638834:True:=trivial
theorem tw112272761203620788:True:=trivial
theorem tw11931177656970653773:True:=trivial
theorem tw13779084922488150984:True:=trivial
theorem tw18432190526787752941:True:=trivial
theorem tw7553507148648254402:True:=trivial
theorem tw2389557271192446536:True:=trivial
theorem tw15320089902030481340:True:=trivial
theorem tw9312488438096051319:True:=trivial
theorem tw4078723339307745868:True:=trivial
theorem tw10393824950197684334:True:=trivial
theorem tw5415078852816748329:True:=trivial
theorem tw10198853920666592095:True:=trivial
theorem tw4410627707354469364:True:=trivial
theorem tw3843481034424688159:True:=trivial
theorem tw10227415385331070147:True:=trivial
theorem tw4412327389205387543:True:=trivial
theorem tw13713238753968973229:True:=trivial
theorem tw14135974539437992464:True:=trivial
theorem tw7964805980574442351:True:=trivial
theorem tw11622192549342016883:True:=trivial
theorem tw4702884765889810428:True:=trivial
theorem tw487500976673898226:True:=trivial
theorem tw5015420093466280367:True:=trivial
theorem tw5097823900758416935:True:=trivial
theorem tw15857411697371935824:True:=trivial
theorem tw9370313147287163260:True:=trivial
theorem tw8783006539965626740:True:=trivial
theorem tw14800576958612725946:True:=trivial
theorem tw2345423731957701715:True:=trivial
theorem tw15573026468183233503:True:=trivial
theorem tw6993259782178825410:True:=trivial
theorem tw15186360207915863301:True:=trivial
theorem tw1214110444281443398:True:=trivial
theorem tw14780865542797757190:True:=trivial
theorem tw10852909676496072971:True:=trivial
theorem tw11960297667584636983:True:=trivial
theorem tw3822429820244265671:True:=trivial
theorem tw10024841984891422925:True:=trivial
theorem tw17444098077753684993:True:=trivial
theorem tw1315706753819237673:True:=trivial
theorem tw14855437181690391936:True:=trivial
theorem tw3596789123238990261:True:=trivial
theorem tw5466917204107305206:True:=trivial
theorem tw16879332064153704657:True:=trivial
theorem tw227273377819503186:True:=trivial
theorem tw4104770120435764308:True:=trivial
theorem tw15570961937624092859:True:=trivial
theorem tw4884988263854331162:True:=trivial
theorem tw10497227325159168361:True:=trivial
theorem tw6542276892025708650:True:=trivial
theorem tw12155878163401354389:True:=trivial
theorem tw16215675468728254358:True:=trivial
theorem tw8162037620561162397:True:=trivial
theorem tw9951058529885430644:True:=trivial
theorem tw3901373920922979643:True:=trivial
theorem tw11769633204846077287:True:=trivial
theorem tw11039424562927515071:True:=trivial
theorem tw178219217238717467:True:=trivial
theorem tw13074644319834825844:True:=trivial
theorem tw10112473825964071950:True:=trivial
theorem tw9209017876903940450:True:=trivial
theorem tw8793312511725225693:True:=trivial
theorem tw1379722029997047741:True:=trivial
theorem tw18253588904899405547:True:=trivial
theorem tw17068472997615288884:True:=trivial
theorem tw8039189224062763035:True:=trivial
theorem tw10231875483604090841:True:=trivial
theorem tw1992912325925332485:True:=trivial
theorem tw16869614087801295292:True:=trivial
theorem tw7094356340539710456:True:=trivial
theorem tw1489249237510925482:True:=trivial
theorem tw13198451601587979088:True:=trivial
theorem tw4210526866832624109:True:=trivial
theorem tw50249532356919388:True:=trivial
theorem tw2592603912276910618:True:=trivial
theorem tw13495537163552109555:True:=trivial
theorem tw5416803753398029738:True:=trivial
theorem tw18165235005291168082:True:=trivial
theorem tw15764017922399927715:True:=trivial
theorem tw15881695243534561370:True:=trivial
theorem tw4285876043275840897:True:=trivial
theorem tw2217055452362820542:True:=trivial
theorem tw7451797149669294207:True:=trivial
theorem tw18406117508332503325:True:=trivial
theorem tw10964558449759125398:True:=trivial
theorem tw7196011070167558542:True:=trivial
theorem tw18099797342835262719:True:=trivial
theorem tw15828216552846630641:True:=trivial
theorem tw17181189369574745286:True:=trivial
theorem tw3939906054028101642:True:=trivial
theorem tw5112298225834817759:True:=trivial
theorem tw1477433596746630364:True:=trivial
theorem tw4907771340411922888:True:=trivial
theorem tw17321269856350598965:True:=trivial
theorem tw7594635620882747951:True:=trivial
theorem tw18415977793389180197:True:=trivial
theorem tw594235350930261163:True:=trivial
theorem tw3972968609970467420:True:=trivial
theorem tw7816998543707215226:True:=trivial
theorem tw18295133120241828535:True:=trivial
theorem tw8095886220069115282:True:=trivial
theorem tw8096089110800446351:True:=trivial
theorem tw12412497516334488628:True:=trivial
theorem tw7209733066568398217:True:=trivial
theorem tw8544116332578767150:True:=trivial
theorem tw2771645639660386792:True:=trivial
theorem tw16699611166560670371:True:=trivial
theorem tw13282333885292898563:True:=trivial
theorem tw10053398845358843489:True:=trivial
theorem tw6161994587240701419:True:=trivial
theorem tw7298616992649885669:True:=trivial
theorem tw8672892169169199787:True:=trivial
theorem tw14263309960403985173:True:=trivial
theorem tw14355634610898355389:True:=trivial
theorem tw644784286820617827:True:=trivial
theorem tw17711864921998480191:True:=trivial
theorem tw2294483769321111010:True:=trivial
theorem tw4220968312253020930:True:=trivial
theorem tw485765828220746752:True:=trivial
theorem tw7807068777780106042:True:=trivial
theorem tw8077302582657720500:True:=trivial
theorem tw15867191385917267574:True:=trivial
theorem tw3226038089576329972:True:=trivial
theorem tw731675024969326351:True:=trivial
theorem tw11979105461245578061:True:=trivial
theorem tw5517941684642155133:True:=trivial
theorem tw10196053568625135472:True:=trivial
theorem tw799005328678919771:True:=trivial
theorem tw3281182281955506702:True:=trivial
theorem tw754004604098311038:True:=trivial
theorem tw787561862849984264:True:=trivial
theorem tw10892618531499133760:True:=trivial
theorem tw17846435853003635127:True:=trivial
theorem tw11427815399756990911:True:=trivial
theorem tw18103953063240661753:True:=trivial
theorem tw12744248339392990927:True:=trivial
theorem tw10520412938249381562:True:=trivial
theorem tw7667282574203730367:True:=trivial
theorem tw6202754679632549278:True:=trivial
theorem tw8458159606854764948:True:=trivial
theorem tw14230070887390837521:True:=trivial
theorem tw13711822456020074692:True:=trivial
theorem tw7537728398530724015:True:=trivial
theorem tw16632954572824871842:True:=trivial
theorem tw4342491496688194874:True:=trivial
theorem tw11764301510677963666:True:=trivial
theorem tw12531537949047293428:True:=trivial
theorem tw5597717812703346867:True:=trivial
theorem tw6984520228777072578:True:=trivial
theorem tw17888294387838793302:True:=trivial
theorem tw4074272305355338429:True:=trivial
theorem tw17436522174092590735:True:=trivial
theorem tw917974644580576590:True:=trivial
theorem tw14997946563319145635:True:=trivial
theorem tw14134895458092141895:True:=trivial
theorem tw15322735672170435170:True:=trivial
theorem tw5437609527775910425:True:=trivial
theorem tw14979091686980137028:True:=trivial
theorem tw14706155753227292629:True:=trivial
theorem tw5755387766210845720:True:=trivial
theorem tw16870715953034934240:True:=trivial
theorem tw4320446141653745512:True:=trivial
theorem tw9721818870612419748:True:=trivial
theorem tw9941137525866319511:True:=trivial
theorem tw4214481717969720594:True:=trivial
theorem tw3158769582680882214:True:=trivial
theorem tw15935908783606101921:True:=trivial
theorem tw12267823741896425599:True:=trivial
theorem tw7398874010055948017:True:=trivial
theorem tw12273938093471219826:True:=trivial
theorem tw17092093380056915091:True:=trivial
theorem tw9795378814572934331:True:=trivial
theorem tw5541180121192159612:True:=trivial
theorem tw8545605374359436562:True:=trivial
theorem tw984106538054487097:True:=trivial
theorem tw12330386021006323901:True:=trivial
theorem tw5950355354648042835:True:=trivial
theorem tw5218712460872082331:True:=trivial
theorem tw13684952018769863289:True:=trivial
theorem tw2484266787130923205:True:=trivial
theorem tw4057183908847606991:True:=trivial
theorem tw5823776516704897457:True:=trivial
theorem tw5073953178654798179:True:=trivial
theorem tw12643212561927918288:True:=trivial
theorem tw7783063277772274819:True:=trivial
theorem tw12076602572603339950:True:=trivial
theorem tw9688714105079813394:True:=trivial
theorem tw7182507770550991689:True:=trivial
theorem tw13138896466133989254:True:=trivial
theorem tw236884390428119729:True:=trivial
theorem tw3736173284570043218:True:=trivial
theorem tw16362005614324690996:True:=trivial
theorem tw16297319019924114419:True:=trivial
theorem tw5246582978711540551:True:=trivial
theorem tw3209921090526421045:True:=trivial
theorem tw14391143131677765548:True:=trivial
theorem tw9211985981302164435:True:=trivial
theorem tw5679110760117955508:True:=trivial
theorem tw18260300418507587214:True:=trivial
theorem tw12288672461842175024:True:=trivial
theorem tw2816546081929058817:True:=trivial
theorem tw12163254299033355759:True:=trivial
theorem tw9750714395428363749:True:=trivial
theorem tw2038098263698649832:True:=trivial
theorem tw11760630663734880314:True:=trivial
theorem tw6495700152434998095:True:=trivial
theorem tw11704778540627888934:True:=trivial
theorem tw16598206417642022298:True:=trivial
theorem tw14184669689891381942:True:=trivial
theorem tw13561131458766258054:True:=trivial
theorem tw3715881784043676762:True:=trivial
theorem tw9492924672574642150:True:=trivial
theorem tw10944434436261389972:True:=trivial
theorem tw4013196190102969875:True:=trivial
theorem tw7884445784870755915:True:=trivial
theorem tw3555400830245319732:True:=trivial
theorem tw1325941565847761336:True:=trivial
theorem tw2725407170458309194:True:=trivial
theorem tw1238659843439464639:True:=trivial
theorem tw1736114868812046744:True:=trivial
theorem tw16449703029971580277:True:=trivial
theorem tw4537527235686670189:True:=trivial
theorem tw9473280319601711803:True:=trivial
theorem tw13654245594544388549:True:=trivial
theorem tw497955714547870609:True:=trivial
theorem tw10805869074410676265:True:=trivial
theorem tw5944400749715423949:True:=trivial
theorem tw3480433520679070925:True:=trivial
theorem tw11118821549532909078:True:=trivial
theorem tw3143482520917054211:True:=trivial
theorem tw2937796881442419921:True:=trivial
theorem tw1571819673721004206:True:=trivial
theorem tw3287376602254954324:True:=trivial
theorem tw8976022851843951770:True:=trivial
theorem tw2002834506862997814:True:=trivial
theorem tw16488319398380259601:True:=trivial
theorem tw14815449940285828742:True:=trivial
theorem tw7989134854370578011:True:=trivial
theorem tw7533667047877608855:True:=trivial
theorem tw16534176532927773547:True:=trivial
theorem tw342656365042195719:True:=trivial
theorem tw5375809313319106092:True:=trivial
theorem tw7282970373415230823:True:=trivial
theorem tw1282218280343713547:True:=trivial
theorem tw4427594787424199430:True:=trivial
theorem tw15468941669122044007:True:=trivial
theorem tw18222258696059369453:True:=trivial
theorem tw7652427825569727170:True:=trivial
theorem tw11895726873208694938:True:=trivial
theorem tw15657165116545992711:True:=trivial
theorem tw10888240776145538065:True:=trivial
theorem tw4380769497674654827:True:=trivial
theorem tw13578774669885950869:True:=trivial
theorem tw17625556348568314745:True:=trivial
theorem tw2391171181625353369:True:=trivial
theorem tw13851332695458853380:True:=trivial
theorem tw2300719664634623148:True:=trivial
theorem tw270914506313302292:True:=trivial
theorem tw11762934079726254569:True:=trivial
theorem tw6629705827801687625:True:=trivial
theorem tw5059566958681793595:True:=trivial
theorem tw17104321144644266537:True:=trivial
theorem tw11634988806474640952:True:=trivial
theorem tw13388655057765313174:True:=trivial
theorem tw16109756044030192187:True:=trivial
theorem tw2174474660795889430:True:=trivial
theorem tw17853893996775817202:True:=trivial
theorem tw11285072336684099443:True:=trivial
theorem tw4426762568450359375:True:=trivial
theorem tw18240897650489185529:True:=trivial
theorem tw5400320137790151792:True:=trivial
theorem tw12770860342779912955:True:=trivial
theorem tw12509682436010757556:True:=trivial
theorem tw6957338380716802187:True:=trivial
theorem tw10724947517671732345:True:=trivial
theorem tw10045248240682695842:True:=trivial
theorem tw18150724555130175307:True:=trivial
theorem tw9588364274247056241:True:=trivial
theorem tw2609214684828791290:True:=trivial
theorem tw12942020788333822514:True:=trivial
theorem tw13798638612991522840:True:=trivial
theorem tw160953907825519192:True:=trivial
theorem tw12207828195674454236:True:=trivial
theorem tw9101205917521016988:True:=trivial
theorem tw1082102276109074737:True:=trivial
theorem tw12881796827484693810:True:=trivial
theorem tw6103066362087130190:True:=trivial
theorem tw17153308142319940592:True:=trivial
theorem tw9414399168067178888:True:=trivial
theorem tw1553927842001881663:True:=trivial
theorem tw10008761004301987270:True:=trivial
theorem tw5388186469842948581:True:=trivial
theorem tw836380406310293790:True:=trivial
theorem tw17960324721410777586:True:=trivial
theorem tw18040308009740210995:True:=trivial
theorem tw901121976693160760:True:=trivial
theorem tw1251238992256047159:True:=trivial
theorem tw1842635028403364169:True:=trivial
theorem tw11994537609494447508:True:=trivial
theorem tw3848047752181330073:True:=trivial
theorem tw4299278800986056160:True:=trivial
theorem tw7962416033478005411:True:=trivial
theorem tw11055859310726921207:True:=trivial
theorem tw11827934005441940659:True:=trivial
theorem tw9588888719132700109:True:=trivial
theorem tw12697681733289616152:True:=trivial
theorem tw16764021354651806124:True:=trivial
theorem tw5365069580361613284:True:=trivial
theorem tw12242004418224182179:True:=trivial
theorem tw13400293622550076856:True:=trivial
theorem tw7153330723373410197:True:=trivial
theorem tw16013794494216033082:True:=trivial
theorem tw11679009531642395995:True:=trivial
theorem tw7148175581769460947:True:=trivial
theorem tw14734346856244744265:True:=trivial
theorem tw8462312030911196397:True:=trivial
theorem tw3376535983020253540:True:=trivial
theorem tw4178206528280173282:True:=trivial
theorem tw427787946521694474:True:=trivial
theorem tw8556968329134059707:True:=trivial
theorem tw12453230530466379703:True:=trivial
theorem tw4567267149187459961:True:=trivial
theorem tw199668786384504604:True:=trivial
theorem tw17111335501850870026:True:=trivial
theorem tw13823000767737659168:True:=trivial
theorem tw17688039342657836741:True:=trivial
theorem tw589453668422220754:True:=trivial
theorem tw10992362667847249906:True:=trivial
theorem tw3923013042853482222:True:=trivial
theorem tw10393576839989888558:True:=trivial
theorem tw13851778519084336550:True:=trivial
theorem tw843173693350509326:True:=trivial
theorem tw17441582098358595324:True:=trivial
theorem tw3884612255816936373:True:=trivial
theorem tw5787630893882559553:True:=trivial
theorem tw1119267621906286236:True:=trivial
theorem tw16830772624352512541:True:=trivial
theorem tw2308601901758998367:True:=trivial
theorem tw13835036935046050315:True:=trivial
theorem tw8045998206622481991:True:=trivial
theorem tw17541007957420500758:True:=trivial
theorem tw16221014077989283409:True:=trivial
theorem tw462966814011384625:True:=trivial
theorem tw4125126037445476868:True:=trivial
theorem tw5623278070388907933:True:=trivial
theorem tw11260276368828852036:True:=trivial
theorem tw13434305033441437533:True:=trivial
theorem tw7994816460211956186:True:=trivial
theorem tw16052117076470651500:True:=trivial
theorem tw13036951317212582504:True:=trivial
end PySem.W.Fast
set_option maxRecDepth 100000 in
set_option maxHeartbeats 0 in
theorem PySem.Challenge.cw_crookroad_k65_whole_equal_roads_apart_holds : PySem.Challenge.rw_crookroad_k65_whole_equal_roads_apart.Holds := by
 w_on;o_law;k_head;(case hw=>w_witness2)
 k_fill
 refine My.walk (l:=PySem.Challenge.rw_crookroad_k65_whole_equal_roads_apart) rfl rfl (fun w h Y=>PySem.W.kIn_of Y) ?F
 case F =>
  intro w mg fa h KX G hmg
  refine' My.all_mk KX G hmg ?d__law_cell ?d__law_pick ?d_check_bottom ?d_common_divisor ?d_lowest ?d_check_count ?d_is_line ?d_trace ?d_spot ?d_led_to ?d_set_down ?d_is_name ?d_check_new_name ?d_exchange ?d_meeting ?d__law_climb ?d__law_heights ?d__law_step ?d__law_common ?d__law_low ?d__law_spot ?d__law_whole ?d__law_met ?d__law_walked ?d__law_book ?d__law_deed ?d__law_walker_is ?d__law_is ?d_law ?a_RoadError ?x_RoadError ?a_BadLine ?x_BadLine ?a_BadBottom ?x_BadBottom ?a_OffRoad ?x_OffRoad ?a_BadCount ?x_BadCount ?a_TooLong ?x_TooLong ?a_BadRow ?x_BadRow ?a_BadName ?x_BadName ?a_Taken ?x_Taken ?a_NoRoad ?x_NoRoad ?a_NoWalker ?x_NoWalker ?a_Apart ?x_Apart ?a_NothingDone ?x_NothingDone ?a_Road ?pg_Road ?hd_Road ?po_Road ?sa_Road ?mk_Road ?kc_Road ?m_Road___init__ ?m_Road_width ?m_Road_ends ?m_Road_corners ?m_Road_on_road ?m_Road_at ?a_Walker ?pg_Walker ?hd_Walker ?po_Walker ?sa_Walker ?mk_Walker ?kc_Walker ?m_Walker___init__ ?m_Walker_gone ?a_House ?pg_House ?hd_House ?po_House ?sa_House ?mk_House ?kc_House ?m_House___init__ ?m_House_road_called ?m_House_walker_called ?m_House_deeds ?m_House_do ?m_House_lay ?m_House_corners_of ?m_House_take_back ?m_House_bend ?m_House_widen ?m_House_where ?m_House_place ?m_House_go ?m_House_walkers_on ?m_House_names ?m_House_together ?m_House_leave ?m_House_stood ?m_House_meet ?na_Road_heights ?na_Walker_whose ?na_Walker_point ?na_Walker_times ?na_House_roads ?na_House_walkers ?na_House_done ?g_WIDEST ?g_LONGEST_TRACE ?g_FARTHEST ?g_LONGEST_NAME ?g_GREATEST_BOTTOM ?g_LETTERS ?z_tuple ?z_len ?z_abs ?z_range ?z_list ?z_min ?z_max ?z_all ?z_any ?z_sorted ?z_enumerate ?z_dict ?z_isinstance ?z_int ?z_bool
  (case d__law_cell=>walk_at "def")
  (case d__law_pick=>walk_at "def")
  (case d_check_bottom=>walk_at "def")
  (case d_common_divisor=>walk_at "def")
  (case d_lowest=>walk_at "def")
  (case d_check_count=>walk_at "defD")
  (case d_is_line=>walk_at "def")
  (case d_trace=>walk_at "def")
  (case d_spot=>walk_at "def")
  (case d_led_to=>walk_at "def")
  (case d_set_down=>walk_at "def")
  (case d_is_name=>walk_at "def")
  (case d_check_new_name=>walk_at "def")
  (case d_exchange=>walk_at "def")
  (case d_meeting=>walk_at "def")
  (case d__law_climb=>walk_at "def")
  (case d__law_heights=>walk_at "def")
  (case d__law_step=>walk_at "def")
  (case d__law_common=>walk_at "def")
  (case d__law_low=>walk_at "def")
  (case d__law_spot=>walk_at "def")
  (case d__law_whole=>walk_at "def")
  (case d__law_met=>walk_at "def")
  (case d__law_walked=>walk_at "def")
  (case d__law_book=>walk_at "def")
  (case d__law_deed=>walk_at "def")
  (case d__law_walker_is=>walk_at "def")
  (case d__law_is=>walk_at "def")
  (case d_law=>walk_at "def")
  (case a_RoadError=>k_is)
  (case x_RoadError=>k_exc)
  (case a_BadLine=>k_is)
  (case x_BadLine=>k_exc)
  (case a_BadBottom=>k_is)
  (case x_BadBottom=>k_exc)
  (case a_OffRoad=>k_is)
  (case x_OffRoad=>k_exc)
  (case a_BadCount=>k_is)
  (case x_BadCount=>k_exc)
  (case a_TooLong=>k_is)
  (case x_TooLong=>k_exc)
  (case a_BadRow=>k_is)
  (case x_BadRow=>k_exc)
  (case a_BadName=>k_is)
  (case x_BadName=>k_exc)
  (case a_Taken=>k_is)
  (case x_Taken=>k_exc)
  (case a_NoRoad=>k_is)
  (case x_NoRoad=>k_exc)
  (case a_NoWalker=>k_is)
  (case x_NoWalker=>k_exc)
  (case a_Apart=>k_is)
  (case x_Apart=>k_exc)
  (case a_NothingDone=>k_is)
  (case x_NothingDone=>k_exc)
  (case a_Road=>k_is)
  (case pg_Road=>k_is)
  (case hd_Road=>k_is)
  (case po_Road=>k_is)
  (case sa_Road=>k_is)
  (case mk_Road=>k_is)
  (case kc_Road=>k_is)
  (case m_Road___init__=>walk_at "meth")
  (case m_Road_width=>walk_at "meth")
  (case m_Road_ends=>walk_at "meth")
  (case m_Road_corners=>walk_at "meth")
  (case m_Road_on_road=>walk_at "meth")
  (case m_Road_at=>walk_at "meth")
  (case a_Walker=>k_is)
  (case pg_Walker=>k_is)
  (case hd_Walker=>k_is)
  (case po_Walker=>k_is)
  (case sa_Walker=>k_is)
  (case mk_Walker=>k_is)
  (case kc_Walker=>k_is)
  (case m_Walker___init__=>walk_at "meth")
  (case m_Walker_gone=>walk_at "meth")
  (case a_House=>k_is)
  (case pg_House=>k_is)
  (case hd_House=>k_is)
  (case po_House=>k_is)
  (case sa_House=>k_is)
  (case mk_House=>k_is)
  (case kc_House=>k_is)
  (case m_House___init__=>walk_at "meth")
  (case m_House_road_called=>walk_at "meth")
  (case m_House_walker_called=>walk_at "meth")
  (case m_House_deeds=>walk_at "meth")
  (case m_House_do=>walk_at "meth")
  (case m_House_lay=>walk_at "meth")
  (case m_House_corners_of=>walk_at "meth")
  (case m_House_take_back=>walk_at "meth")
  (case m_House_bend=>walk_at "meth")
  (case m_House_widen=>walk_at "meth")
  (case m_House_where=>walk_at "meth")
  (case m_House_place=>walk_at "meth")
  (case m_House_go=>walk_at "meth")
  (case m_House_walkers_on=>walk_at "meth")
  (case m_House_names=>walk_at "meth")
  (case m_House_together=>walk_at "meth")
  (case m_House_leave=>walk_at "meth")
  (case m_House_stood=>walk_at "meth")
  (case m_House_meet=>walk_at "meth")
  (case na_Road_heights=>k_is)
  (case na_Walker_whose=>k_is)
  (case na_Walker_point=>k_is)
  (case na_Walker_times=>k_is)
  (case na_House_roads=>k_is)
  (case na_House_walkers=>k_is)
  (case na_House_done=>k_is)
  (case g_WIDEST=>k_is)
  (case g_LONGEST_TRACE=>k_is)
  (case g_FARTHEST=>k_is)
  (case g_LONGEST_NAME=>k_is)
  (case g_GREATEST_BOTTOM=>k_is)
  (case g_LETTERS=>k_is)
  (case z_tuple=>k_is)
  (case z_len=>k_is)
  (case z_abs=>k_is)
  (case z_range=>k_is)
  (case z_list=>k_is)
  (case z_min=>k_is)
  (case z_max=>k_is)
  (case z_all=>k_is)
  (case z_any=>k_is)
  (case z_sorted=>k_is)
  (case z_enumerate=>k_is)
  (case z_dict=>k_is)
  (case z_isinstance=>k_is)
  (case z_int=>k_is)
  (case z_bool=>k_is)
