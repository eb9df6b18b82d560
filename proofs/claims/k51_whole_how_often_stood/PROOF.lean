import PyProof.Rows.All
import Wide.All
import OpenK.AllK
import Wide.FinOn
import Lean
import PyProof.EqAt
import PyProof.EqKinds
import PyProof.TupleCall
import PyProof.NeData
import KE.IntBitsLaws
import KE.KDictList
import PyProof.DictIter
import PyProof.DictItems
import PyProof.DictWalks
import PyProof.StrLoop
import KE.KPairComp
import PyProof.StrWalks
import KE.KSortKey
import KE.KDictOf
import PyProof.Rows.TupDisplay
import PyProof.DictCompW
import PySem.Challenge.RW_crookroad_k51_whole_how_often_stood
set_option Elab.async false
set_option linter.all false
set_option maxRecDepth 100000
local macro_rules|`(tactic|lia)=>`(tactic|first|lia +splitIte|omega)
def ac:=@PySem.wpAny_bind
def ae:=@List.length_map
def af:=@PySem.Heap.get?_push_of_some
def ag:=@List.getElem?_eq_getElem
def ah:=@Nat.le_refl
def ai:=@if_neg
def aj:=@PySem.wpAny_pure
def ak:=@PySem.Heap.lt_size
def al:=@if_pos
def am:=@List.mem_cons
def ao:=@List.not_mem_nil
def aq:=@List.mem_singleton
def ar:=@PySem.Heap.get?_push_size
def au:=@List.length_append
def av:=@List.getD_eq_getElem?_getD
def aw:=@Option.some.inj
def ax:=@Nat.ne_of_lt
def ay:=@Int.mul_le_mul_of_nonneg_right
def az:=@List.size_toArray
def aA:=@Bool.false_ne_true
def aB:=@List.mem_append_right
def aC:=@List.lookup_cons
def aD:=@Nat.lt_of_lt_of_le
def aE:=@Nat.zero_le
def aF:=@PySem.boot_len
def aG:=@List.getElem?_map
def aH:=@List.length_range
def aI:=@PySem.W.mg_of
def aJ:=@List.mem_map
def aK:=@beq_eq_false_iff_ne
def aL:=@PySem.wpAny_mono
def aM:=@List.drop_eq_getElem_cons
def aN:=@List.mem_range
def aO:=@PySem.W.mg_none_of
def aP:=@List.map_append
def aQ:=@List.getElem?_eq_some_iff
def aR:=@Array.length_toList
def aS:=@List.map_cons
def aT:=@List.length_cons
def aU:=@Ne.symm
def aV:=@Nat.lt_irrefl
def aW:=@PySem.PassesOwn.leaving
def aX:=@Int.emod_lt_of_pos
def aY:=@List.getElem?_eq_none
def aZ:=@List.mem_append
def ba:=@List.nodup_cons
def bb:=@List.getElem?_append_right
def bc:=@Bool.and_eq_true
def bd:=@decide_eq_true
def be:=@PySem.Paired.length
def bf:=@List.mem_cons_of_mem
def bg:=@List.mem_of_getElem?
def bh:=@decide_eq_false
def bi:=@PySem.W.kia_one
def bj:=@Int.emod_nonneg
def bn:=@List.getElem?_append_left
def bo:=@Int.mul_le_mul_of_nonneg_left
def bp:=@Nat.le_of_ble_eq_true
def bq:=@congrArg
def br:=@List.nodup_nil
def bt:=@Nat.lt_trans
def bu:=@PySem.F.slot_dict_keyiterator_next
def bv:=@or_false
def bw:=@List.mem_filter
def bx:=@Array.getElem?_eq_getElem
def bz:=@PySem.F.slot_dict_get
def bA:=@List.length_take
def bB:=@Nat.le_trans
def bC:=@Nat.le_of_lt
def bD:=@List.Pairwise.imp_of_mem
def bE:=@PySem.wpAny_typeNameOfWhole_keyiter
def bF:=@PySem.wpAny_truthy_bool
def bG:=@PySem.wpAny_newObj_type
def bH:=@Int.toNat_natCast
def bI:=@PySem.wpAny_dictEntries
def bJ:=@List.pairwise_map
def bK:=@PySem.F.plainAttrs_list
def bL:=@List.getElem_of_mem
def bM:=@PyProof.Rows.callWith_type1
def bN:=@PySem.Calls.callWith_builtin
def bO:=@Array.getElem?_eq_none
def bP:=@List.map_map
def bQ:=@PyProof.Rows.boot_list
def bR:=@PySem.wpAny_holding
def bS:=@List.getElem_mem
def bT:=@List.all_eq_true
def bU:=@PySem.F.excBase_ValueError
def bV:=@PySem.tupleKind_room_in1
def bW:=@Bool.false_eq_true
def bX:=@Array.getElem?_toList
def bY:=@List.length_filter_le
def bZ:=@Classical.byContradiction
def ca:=@PySem.wpAny_passesOwn
def cb:=@Bool.eq_iff_iff
def ce:=@List.range_succ
def cf:=@Int.lt_or_le
def cg:=@PySem.wpAny_typeNameOf_keyiter
def ck:=@PySem.F.slot_list_append
def cm:=@PySem.F.type_list_append
def cu:=@PySem.mem_of_lookup
def cv:=@List.getElem?_range
def cw:=@List.map_congr_left
def cx:=@List.filter_cons
def cy:=@PySem.wpAny_Call_Name_kw
def cz:=@PySem.F.entry_dict_get
def cA:=@List.append_nil
def cB:=@Int.mul_ediv_mul_of_pos_left
def cC:=@List.find?_cons
def cD:=@Option.map_some
def cE:=@PyProof.Rows.boot_max
def cF:=@of_decide_eq_true
def cG:=@List.mem_append_left
def cH:=@PySem.Calls.evalArgs_plain
def cI:=@Int.eq_of_mul_eq_mul_right
def cJ:=@Array.size_map
def cK:=@Nat.mod_lt
def cL:=@List.take_length
def cM:=@PySem.call_meetsIn
def cN:=@List.any_eq_true
def cO:=@List.filterMap_cons
def cP:=@PySem.Heap.SameBut.update
def cQ:=@PySem.wpAny_standAt
def cR:=@PySem.wpAny_comprehension_free
def cS:=@PySem.wpAny_execs_nil
def cT:=@List.length_set
def cU:=@List.length_nil
def cV:=@List.mem_cons_self
def cW:=@PySem.Calls.spliced_cons
def cX:=@Nat.lt_of_le_of_lt
def cY:=@List.append_ne_nil_of_right_ne_nil
def cZ:=@PySem.F.plainAttrs_dict
def c0:=@PySem.wpAny_callSpecial?_slot
def da:=@PySem.Heap.size_push
def dc:=@List.map_nil
def de:=@if_false
def df:=@Int.mul_comm
def dh:=@Int.mul_nonneg
def di:=@List.pairwise_lt_range
def dj:=@List.take_add_one
def dk:=@PySem.Heap.get?_update_self
def dm:=@PySem.codeAny_handlers_test
def dn:=@PyProof.Rows.boot_min
def dq:=@beq_iff_eq
def dt:=@PySem.wpAny_call_entry
def du:=@PySem.F.args_dict_keyiterator_next_1
def dv:=@Int.mul_ediv_cancel'
def dz:=@PySem.wpAny_newFunctionEnv
def dA:=@PySem.lookup_relabel_local
def dB:=@PySem.F.entry_dict_keyiterator_next
def dC:=@List.eq_nil_of_length_eq_zero
def dD:=@Nat.div_lt_of_lt_mul
def dE:=@Int.lt_ediv_add_one_mul_self
def dF:=@Nat.not_lt_zero
def dG:=@PyProof.Rows.boot_isinstance
def dH:=@PySem.W.plainGet_of
def dI:=@Int.toNat_of_nonneg
def dJ:=@PySem.wpAny_handleBy_cons
def dL:=@Nat.ne_of_gt
def dM:=@PySem.codeAny_mono
def dN:=@Nat.lt_or_ge
def dO:=@Array.getD_eq_getD_getElem?
def dP:=@Int.le_trans
def dR:=@PyProof.Rows.assignInOrder_cons
def dS:=@List.mem_filterMap
def dU:=@PySem.W.callWith_K
def dW:=@Int.mul_lt_mul_of_pos_left
def dX:=@Array.getElem?_eq_some_iff
def dY:=@List.find?_eq_none
def dZ:=@PySem.F.slot_dict_delitem
def d7:=@List.mem_of_find?_eq_some
def d8:=@PySem.wpAny_pyIter_list
def ed:=@PySem.Calls.spliced_nil
def eh:=@Option.isSome_map
def el:=@List.length_erase
def eo:=@List.ext_getElem?
def eu:=@Nat.lt_trichotomy
def eA:=@Option.isSome_iff_exists
def eB:=@List.getElem_inj
def eC:=@PySem.wpAny_execs_cons
def eG:=@Int.natCast_dvd_natCast
def eI:=@PySem.F.args_dict_get_2
def eJ:=@PySem.F.args_dict_get_3
def eK:=@PySem.F.slot_dict_items
def eM:=@List.pairwise_singleton
def eN:=@if_true
def eO:=@Nat.sub_zero
def eP:=@List.of_mem_zip
def eQ:=@Int.natCast_mul
def eU:=@Int.ediv_nonneg
def eV:=@Int.ediv_mul_le
def eX:=@PySem.wpAny_specialOf
def eY:=@PySem.wpAny_dictEpoch
def fc:=@Int.le_refl
def ff:=@Int.mul_le_mul
def fh:=@List.any_cons
def fk:=@List.map_take
section
open PySem PySem.Spec PyProof.Rows
abbrev Aa:=PySem.W.Frag
abbrev Ab:=PySem.Shared
abbrev Ac:=PySem.Program
abbrev Ad:=PySem.FuncData
abbrev Ae:=Around
abbrev Af:=SortSt
abbrev Ag:=Value
abbrev Ah:=World
abbrev Ai:=Keyed
abbrev Aj:=Addr
end
namespace L2
theorem exI {α:Sort _}{A K:α→Prop}{v:α}(e:A v)(h:K v):∃x,A x∧K x:=⟨v,e,h⟩
theorem wc {α β:Sort _}{A:α→Prop}{B:β→Prop}{K:α→β→Prop}{u:α}{v:β}(a:A u)(b:B v)(h:K u v):∃x y,A x∧B y∧K x y:=⟨u,v,a,b,h⟩
theorem exX {α β γ δ:Sort _}{A:α→Prop}{B:γ→Prop}{C:α→β→Prop}{D:β→γ→δ→Prop}{K:δ→Prop}{p:α}{xs:β}{i:γ}{v:δ}(a:A p)(b:B i)(c:C p xs)(d:D xs i v)(h:K v):∃p xs i v,A p∧B i∧C p xs∧D xs i v∧K v:=⟨p,xs,i,v,a,b,c,d,h⟩
end L2
namespace L2
open PySem PySem.Spec PyProof.Rows
abbrev Key:=Sum Int Str
def Yg:Key→Ag→Bool
 |.inl k,v=>Value.isInt k v
 |.inr x,v=>Value.isStrOf x v
def keyH (w:Ah):Key→Int
 |.inl k=>hashInt k
 |.inr x=>hashStr w x
theorem zk:∀ {k:Key} {v:Ag},Yg k v=true→(∃i t,k=Sum.inl i∧v=Value.int i t)∨(∃x t,k=Sum.inr x∧v=Value.str x t)
 |.inl i,v,h=>by
  obtain ⟨t,e⟩:=Value.isInt_shape (k:=i) (v:=v) h
  exact .inl ⟨i,t,rfl,e⟩
 |.inr x,v,h=>by
  obtain ⟨t,e⟩:=Value.isStrOf_shape (x:=x) (v:=v) h
  exact .inr ⟨x,t,rfl,e⟩
theorem qyh (i:Int)(t:Tok):Yg (.inl i) (.int i t)=true:=by simp [Yg,Value.isInt]
theorem quj (x:Str)(t:Tok):Yg (.inr x) (.str x t)=true:=by simp [Yg,Value.isStrOf]
theorem key_ll (a b:Int):decide ((Sum.inl a:Key)=Sum.inl b)=(a==b):=by
 by_cases e:a=b
 ·subst e;simp
 ·have h:¬ (Sum.inl a:Key)=Sum.inl b:=λq=>e (Sum.inl.inj q)
  rw [bh h]
  exact (aK.mpr e).symm
theorem key_rr (a b:Str):decide ((Sum.inr a:Key)=Sum.inr b)=decide (a=b):=by
 by_cases e:a=b
 ·subst e;simp
 ·have h:¬ (Sum.inr a:Key)=Sum.inr b:=λq=>e (Sum.inr.inj q)
  rw [bh h,bh e]
theorem key_lr (a:Int)(b:Str):decide ((Sum.inl a:Key)=Sum.inr b)=false:=bh (λq=>nomatch q)
theorem key_rl (a:Str)(b:Int):decide ((Sum.inr a:Key)=Sum.inl b)=false:=bh (λq=>nomatch q)
def xu (prog:Ac)(w:Ah):PySem.KeyKind prog w Key where
 is:=Yg
 hash:=keyH w
 inj:=λv a b ha hb=>by
  rcases zk ha with ⟨i,t,rfl,rfl⟩|⟨x,t,rfl,rfl⟩
  ·rcases zk hb with ⟨j,u,rfl,e⟩|⟨y,u,rfl,e⟩
   ·injection e with e1 _;rw [e1]
   ·exact nomatch e
  ·rcases zk hb with ⟨j,u,rfl,e⟩|⟨y,u,rfl,e⟩
   ·exact nomatch e
   ·injection e with e1 _;rw [e1]
 byValue:=λk v h=>by
  rcases zk h with ⟨i,t,rfl,rfl⟩|⟨x,t,rfl,rfl⟩ <;> rfl
 pyHash:=λhv h=>by
  rcases zk hv with ⟨i,t,rfl,rfl⟩|⟨x,t,rfl,rfl⟩
  ·exact wpAny_pyHash_int h
  ·exact wpAny_pyHash_str h
 eqBool:=λhu hv h=>by
  rcases zk hu with ⟨i,t,rfl,rfl⟩|⟨x,t,rfl,rfl⟩
  ·rcases zk hv with ⟨j,u,rfl,rfl⟩|⟨y,u,rfl,rfl⟩
   ·rw [key_ll] at h;exact wpAny_eqBool_int h
   ·rw [key_lr] at h;exact SeqAt.EqAt.int_str i t y u _ _ _ _ h
  ·rcases zk hv with ⟨j,u,rfl,rfl⟩|⟨y,u,rfl,rfl⟩
   ·rw [key_rl] at h;exact SeqAt.EqAt.str_int x t j u _ _ _ _ h
   ·rw [key_rr] at h;exact wpAny_eqBool_str h
 «strs»:=λk x t v h=>by
  rcases zk h with ⟨i,u,rfl,e⟩|⟨y,u,rfl,e⟩
  ·exact nomatch e
  ·injection e with e1 _
   subst e1
   cases v <;> rfl
theorem qvw (prog:Ac)(w:Ah)(i:Int)(t:Tok):(xu prog w).is (.inl i) (.int i t)=true:=qyh i t
theorem qz0 (prog:Ac)(w:Ah)(x:Str)(t:Tok):(xu prog w).is (.inr x) (.str x t)=true:=quj x t
inductive V where
 |non|bl (b:Bool)|int (i:Int)|str (x:Str)|byt (b:Array UInt8)|flt (b:UInt64)|ref (a:Aj)|ty (n:String)
 deriving DecidableEq
def RelV:V→Ag→Prop
 |.non,u=>u=Value.none
 |.bl b,u=>u=Value.bool b
 |.int i,u=>∃t,u=Value.int i t
 |.str x,u=>∃t,u=Value.str x t
 |.byt b,u=>∃t,u=Value.bytes b t
 |.flt b,u=>∃t,u=Value.float b t
 |.ref a,u=>u=Value.ref a
 |.ty n,u=>u=Value.type n
abbrev Vals:List V→List Ag→Prop:=Paired RelV
theorem Vals.length {xs:List V}{us:List Ag}(r:Vals xs us):xs.length=us.length:=be r
theorem Vals.get:∀ {xs:List V} {us:List Ag} {i:Nat} {x:V},Vals xs us→xs[i]?=some x→∃u,us[i]?=some u∧RelV x u
 |_,_,_,_,.nil,e=>by simp at e
 |_,_,0,_,.cons r _,e=>by simp at e;subst e;exact ⟨_,rfl,r⟩
 |_,_,i+1,x,.cons _ t,e=>by
  obtain ⟨u,h1,h2⟩:=Vals.get (i:=i) (x:=x) t (by simpa using e)
  exact ⟨u,by simpa using h1,h2⟩
theorem Vals.set {x:V}{u:Ag}(r:RelV x u):∀ {xs:List V} {us:List Ag} (i:Nat),Vals xs us→Vals (xs.set i x) (us.set i u)
 |_,_,_,.nil=>.nil
 |_,_,0,.cons _ t=>.cons r t
 |_,_,i+1,.cons q t=>.cons q (Vals.set r i t)
theorem Vals.append:∀ {xs ys:List V} {us ws:List Ag},Vals xs us→Vals ys ws→Vals (xs++ys) (us++ws)
 |_,_,_,_,.nil,s=>s
 |_,_,_,_,.cons r t,s=>.cons r (Vals.append t s)
theorem Vals.take:∀ {xs:List V} {us:List Ag} (n:Nat),Vals xs us→Vals (xs.take n) (us.take n)
 |_,_,0,_=>.nil
 |_,_,_+1,.nil=>.nil
 |_,_,n+1,.cons r t=>.cons r (Vals.take n t)
theorem Vals.drop:∀ {xs:List V} {us:List Ag} (n:Nat),Vals xs us→Vals (xs.drop n) (us.drop n)
 |_,_,0,r=>r
 |_,_,_+1,.nil=>.nil
 |_,_,n+1,.cons _ t=>Vals.drop n t
def RelO:Option V→Option Ag→Prop
 |some v,some u=>RelV v u
 |none,none=>True
 |_,_=>False
def KV {κ:Type}:List (κ×V)→List (κ×Ag)→Prop:=Paired λ(p:κ×V) (q:κ×Ag)=>p.1=q.1∧RelV p.2 q.2
def kV:Key→V
 |.inl i=>.int i
 |.inr x=>.str x
inductive HO where
 |lst (xs:List V)
 |tup (xs:List V)
 |dK (kvs:List (Key×V))|dT (kvs:List (List Key×V))
 |set (S:Int→Bool) (n:Nat)
 |ins (C dx:Aj) (fs:List (Str×V))
 |own (x:Aj)
 |xd (fs:List (Str×V))
 |met (f x:Aj)
 |rng (lo hi:Int)
 |frz (o:Obj) (u:HO)
 |tbl (ps:Array Ag)
 |ext (φ:Heap→Prop)
abbrev Hp:=Aj→Option HO
def upd (H:Hp)(a:Aj)(o:HO):Hp:=λb=>if b=a then some o else H b
theorem qm {H:Hp}{a:Aj}{o:HO}:upd H a o a=some o:=by unfold upd;rw [al rfl]
theorem wz {H:Hp}{a b:Aj}{o:HO}(h:b≠a):upd H a o b=H b:=by unfold upd;rw [ai h]
theorem yk {H:Hp}{a:Aj}{o u:HO}:upd (upd H a o) a u=upd H a u:=by
 funext b;unfold upd;split <;> rfl
theorem ne_of {H:Hp}{a b:Aj}{o u:HO}(h:H a=some o)(h':H b=some u)(d:o≠u):a≠b:=by
 intro e;subst e;rw [h] at h';exact d (aw h')
theorem qg {H:Hp}{a b:Aj}{o:HO}(h:H a=some o)(h':H b=none):a≠b:=by
 intro e;subst e;rw [h] at h';cases h'
section
variable (P:Ac)(w:Ah)
def ObjOk (H:Hp)(h:Heap)(a:Aj):HO→Prop
 |.lst xs=>xs.length≤sizeLine∧∃(its:List Ag) (n:Nat),Vals xs its∧h.get? a=some { cls:=.type "list",data:=.seq its.toArray n }
 |.tup xs=>xs.length≤sizeLine∧∃its:List Ag,Vals xs its∧IsTup h a its.toArray
 |.dK kvs=>kvs.length≤sizeLine∧(a==sysModules)=false∧∃vs,KV kvs vs∧h.DictOf (xu P w) a vs
 |.dT kvs=>kvs.length≤sizeLine∧(a==sysModules)=false∧∃xs:List (List Key×Aj×Ag),
   Paired (λ(p:List Key×V) (q:List Key×Aj×Ag)=>p.1=q.1∧H q.2.1=some (.tup (p.1.map kV))∧RelV p.2 q.2.2) kvs xs ∧
   ∃o es ep,h.get? a=some o∧o.ExactDict∧o.data=.dict es ep∧es.toList=xs.map (entryOfKey (tupleKind (xu P w)))∧(xs.map (·.1)).Nodup
 |.set S n=>h.SetOf (intKind P w) a S n
 |.ins C dx fs=>H dx=some (.own a)∧fs.length≤1000∧dx≠a∧h.get? a=some (PySem.W.instObj C dx) ∧
   ∃mA,h.Ns1 dx mA∧(∀f,RelO (fs.lookup f) (mA f))∧PySem.Within mA (fs.map (·.1))
 |.own _=>∃o,h.get? a=some o
 |.xd fs=>∃mA,h.Ns1 a mA∧∀f,RelO (fs.lookup f) (mA f)
 |.rng lo hi=>∃t u v,h.get? a=some { cls:=.type "range",data:=.fields #[.int lo t,.int hi u,.int 1 v] }
 |.frz o u=>h.get? a=some o∧ObjOk H h a u
 |.tbl ps=>h.get? a=some { cls:=.none,data:=.fields ps }
 |.met f x=>h.get? a=some (PySem.W.methodObj (.ref f) (.ref x))
 |.ext φ=>φ h∧(∃o,h.get? a=some o)∧∀h1 h2:Heap,φ h1→(∀o,h1.get? a=some o→h2.get? a=some o)→φ h2
def HOk (H:Hp)(h:Heap):Prop:=∀a o,H a=some o→ObjOk P w H h a o
end
section
variable {P:Ac}{w:Ah}{H H':Hp}{h h':Heap}{a:Aj}{o:HO}
theorem ObjOk.lt (x:ObjOk P w H h a o):a<h.objs.size:=by
 cases o with
 |lst xs=>obtain ⟨_,_,_,_,e⟩:=x;exact ak e
 |tup xs=>obtain ⟨_,_,_,p⟩:=x;exact p.lt
 |dK kvs=>obtain ⟨_,_,_,_,o,_,_,e,_⟩:=x;exact ak e
 |dT kvs=>obtain ⟨_,_,_,_,o,_,_,e,_⟩:=x;exact ak e
 |set S n=>obtain ⟨o,_,_,_,e,_⟩:=x;exact ak e
 |ins C dx fs=>obtain ⟨_,_,_,e,_⟩:=x;exact ak e
 |own y=>obtain ⟨_,e⟩:=x;exact ak e
 |xd fs=>obtain ⟨_,⟨_,_,_,e,_⟩,_⟩:=x;exact ak e
 |rng lo hi=>obtain ⟨_,_,_,e⟩:=x;exact ak e
 |frz ob u=>obtain ⟨e,_⟩:=x;exact ak e
 |tbl ps=>exact ak (show h.get? a=some _ from x)
 |met f y=>exact ak (show h.get? a=some _ from x)
 |ext φ=>obtain ⟨_,⟨_,e⟩,_⟩:=x;exact ak e
theorem Paired.mapP {α β:Type}{F G:α→β→Prop}:∀ {l₁:List α} {l₂:List β},Paired F l₁ l₂→(∀a b,F a b→G a b)→Paired G l₁ l₂
 |_,_,.nil,_=>.nil
 |_,_,.cons r t,f=>.cons (f _ _ r) (Paired.mapP t f)
theorem ObjOk.stay (x:ObjOk P w H h a o)(k:∀b u,(b=a∨H b=some (.own a))→h.get? b=some u→h'.get? b=some u)
  (ho:∀b,H b=some (.own a)→H' b=some (.own a)) (ht:∀b xs,H b=some (.tup xs)→H' b=some (.tup xs)):ObjOk P w H' h' a o:=by
 induction o with
 |lst xs=>obtain ⟨z,its,n,r,e⟩:=x;exact ⟨z,its,n,r,k _ _ (.inl rfl) e⟩
 |tup xs=>obtain ⟨z,its,r,ob,e,c⟩:=x;exact ⟨z,its,r,ob,k _ _ (.inl rfl) e,c⟩
 |dK kvs=>obtain ⟨z,y,vs,r,ob,es,ep,e,c⟩:=x;exact ⟨z,y,vs,r,ob,es,ep,k _ _ (.inl rfl) e,c⟩
 |dT kvs =>
  obtain ⟨z,y,xs,r,ob,es,ep,e,c⟩:=x
  exact ⟨z,y,xs,Paired.mapP r λp q z=>⟨z.1,ht _ _ z.2.1,z.2.2⟩,ob,es,ep,k _ _ (.inl rfl) e,c⟩
 |set S n=>obtain ⟨ob,es,ep,t,e,c⟩:=x;exact ⟨ob,es,ep,t,k _ _ (.inl rfl) e,c⟩
 |ins C dx fs =>
  obtain ⟨d,z,ne,e,mA,⟨od,es,ep,e2,c⟩,r⟩:=x
  exact ⟨ho _ d,z,ne,k _ _ (.inl rfl) e,mA,⟨od,es,ep,k _ _ (.inr d) e2,c⟩,r⟩
 |own y=>obtain ⟨ob,e⟩:=x;exact ⟨ob,k _ _ (.inl rfl) e⟩
 |xd fs=>obtain ⟨mA,⟨od,es,ep,e,c⟩,r⟩:=x;exact ⟨mA,⟨od,es,ep,k _ _ (.inl rfl) e,c⟩,r⟩
 |rng lo hi=>obtain ⟨t,u,v,e⟩:=x;exact ⟨t,u,v,k _ _ (.inl rfl) e⟩
 |frz ob u ih=>obtain ⟨e,q⟩:=x;exact ⟨k _ _ (.inl rfl) e,ih q⟩
 |tbl ps =>
  have e:h.get? a=some { cls:=.none,data:=.fields ps }:=x
  show h'.get? a=some { cls:=.none,data:=.fields ps }
  exact k a _ (.inl rfl) e
 |met f y =>
  have e:h.get? a=some (PySem.W.methodObj (.ref f) (.ref y)):=x
  show h'.get? a=some (PySem.W.methodObj (.ref f) (.ref y))
  exact k a _ (.inl rfl) e
 |ext φ=>obtain ⟨p,⟨o,e⟩,st⟩:=x;exact ⟨st _ _ p λo q=>k _ _ (.inl rfl) q,⟨o,k _ _ (.inl rfl) e⟩,st⟩
theorem HOk.lt (x:HOk P w H h)(e:H a=some o):a<h.objs.size:=(x a o e).lt
theorem HOk.fresh (x:HOk P w H h)(e:h.objs.size≤a):H a=none:=by
 cases q:H a with
 |none=>rfl
 |some u=>exact absurd (aD (x.lt q) e) (aV _)
theorem HOk.kept (x:HOk P w H h)(k:∀b u,h.get? b=some u→h'.get? b=some u):HOk P w H h':=λa o e =>
 (x a o e).stay (λb u _ q=>k b u q) (λ_ q=>q) λ_ _ q=>q
theorem HOk.laid (x:HOk P w H h)(k:∀b u,h.get? b=some u→h'.get? b=some u)(hp:h.objs.size≤a)(new:ObjOk P w (upd H a o) h' a o):HOk P w (upd H a o) h':=λb u e=>by
 have hn:=x.fresh hp
 by_cases hb:b=a
 ·subst hb;rw [qm] at e;cases e;exact new
 ·rw [wz hb] at e
  exact (x b u e).stay (λc v _ q=>k c v q) (λc q=>by rw [wz (qg q hn)];exact q) λc xs q=>by rw [wz (qg q hn)];exact q
end
def Rd (H:Hp)(a:Aj)(u:HO):Prop:=H a=some u∨∃o,H a=some (.frz o u)
theorem Rd.ok {P:Ac}{w:Ah}{H:Hp}{h:Heap}{a:Aj}{u:HO}(r:Rd H a u)(x:HOk P w H h):ObjOk P w H h a u:=by
 rcases r with r|⟨o,r⟩
 ·exact x a u r
 ·obtain ⟨_,q⟩:=x a _ r
  exact q
def Mut:Option HO→Prop
 |some (.lst _)=>True
 |some (.dK _)=>True
 |some (.dT _)=>True
 |some (.set _ _)=>True
 |some (.ins _ _ _)=>True
 |some (.ext _)=>True
 |_=>False
section
variable {P:Ac}{w:Ah}{H:Hp}{h h':Heap}{x e:Aj}{o':HO}
theorem HOk.write (ok:HOk P w H h)(mu:Mut (H x))(he:e=x∨H e=some (.own x))(k:∀b u,b≠e→h.get? b=some u→h'.get? b=some u)(heo:∃u,h'.get? e=some u)
  (new:ObjOk P w (upd H x o') h' x o'):HOk P w (upd H x o') h':=λb u q=>by
 have nown:∀c y,H c=some (.own y)→c≠x:=λc y r z=>by subst z;rw [r] at mu;exact mu
 have ntup:∀c xs,H c=some (.tup xs)→c≠x:=λc xs r z=>by subst z;rw [r] at mu;exact mu
 by_cases hb:b=x
 ·subst hb;rw [qm] at q;cases q;exact new
 ·rw [wz hb] at q
  by_cases hbe:b=e
  ·have q':H b=some (.own x):=by
    rcases he with z|z
    ·exact absurd (hbe.trans z) hb
    ·rw [hbe];exact z
   rw [q] at q';cases q'
   obtain ⟨v,hv⟩:=heo
   exact ⟨v,by rw [hbe];exact hv⟩
  ·refine (ok b u q).stay (λc v hc r=>k c v ?_ r) (λc r=>by rw [wz (nown c b r)];exact r) λc xs r=>by rw [wz (ntup c xs r)];exact r
   rcases hc with rfl|hc
   ·exact hbe
   ·rintro rfl
    rcases he with z|z
    ·exact nown c b hc z
    ·rw [hc] at z;cases z;exact hb rfl
end
structure Un (fs ex:List Aj)(H H':Hp)(h h':Heap):Prop where
 keep:∀b o,h.get? b=some o→H b=none→b∉fs→b∉ex→h'.get? b=some o
 slot:∀b o,h.get? b=some o→H b=none→b∈fs→b∉ex→∃sl,h'.get? b=some { o with slots:=sl }
 free:∀b o,h.get? b=some o→H b=none→b∉ex→H' b=none
 there:∀b o,h.get? b=some o→b∉ex→∃o',h'.get? b=some o'
 tups:∀b xs,H b=some (.tup xs)→H' b=some (.tup xs)
 frzs:∀b o u,H b=some (.frz o u)→H' b=some (.frz o u)
 tbls:∀b ps,H b=some (.tbl ps)→∃more,H' b=some (.tbl (ps++more))
section
variable {fs fs' ex ex':List Aj}{H H1 H2:Hp}{h h1 h2 h':Heap}{a x e:Aj}{o:HO}
theorem Un.any (u:Un fs ex H H1 h h1){b:Aj}{ob:Obj}(q:h.get? b=some ob)(n:H b=none)(hx:b∉ex):∃sl,h1.get? b=some { ob with slots:=sl }:=by
 by_cases hb:b∈fs
 ·exact u.slot b ob q n hb hx
 ·exact ⟨ob.slots,u.keep b ob q n hb hx⟩
theorem Un.kept (k:∀b u,h.get? b=some u→h'.get? b=some u):Un fs ex H H h h' :=
 ⟨λb ob q _ _ _=>k b ob q,λb ob q _ _ _=>⟨ob.slots,k b ob q⟩,λ_ _ _ n _=>n,λb ob q _=>⟨ob,k b ob q⟩,λ_ _ q=>q,λ_ _ _ q=>q,λ_ ps q=>⟨#[],by rw [q];simp⟩⟩
theorem Un.refl:Un fs ex H H h h:=Un.kept λ_ _ q=>q
theorem Un.laid (k:∀b u,h.get? b=some u→h'.get? b=some u)(hp:h.objs.size≤a)(hn:H a=none):Un fs ex H (upd H a o) h h' where
 keep:=λb u q _ _ _=>k b u q
 slot:=λb u q _ _ _=>⟨u.slots,k b u q⟩
 free:=λb u q n _=>by rw [wz (ax (aD (ak q) hp))];exact n
 there:=λb u q _=>⟨u,k b u q⟩
 tups:=λb xs q=>by rw [wz (qg q hn)];exact q
 frzs:=λb u xs q=>by rw [wz (qg q hn)];exact q
 tbls:=λb ps q=>⟨#[],by rw [wz (qg q hn),q];simp⟩
theorem Un.write (mu:Mut (H x))(he:e=x∨H e=some (.own x))(k:∀b u,b≠e→h.get? b=some u→h'.get? b=some u)(heo:∃u,h'.get? e=some u):Un fs ex H (upd H x o) h h':=by
 have hx:∀b,H b=none→b≠x:=λb n z=>by subst z;rw [n] at mu;exact mu
 have hb:∀b,H b=none→b≠e:=λb n z=>by
  subst z
  rcases he with r|r
  ·exact hx b n r
  ·rw [n] at r;cases r
 have hm:∀b u,H b=some u→¬ Mut (some u)→b≠x:=λb u q nm z=>by subst z;rw [q] at mu;exact nm mu
 refine ⟨λb u q n _ _=>k b u (hb b n) q,λb u q n _ _=>⟨u.slots,k b u (hb b n) q⟩,λb u q n _=>by rw [wz (hx b n)];exact n,λb u q _=>?_,
  λb xs q=>by rw [wz (hm b _ q λz=>z)];exact q,λb u xs q=>by rw [wz (hm b _ q λz=>z)];exact q,λb ps q=>⟨#[],by rw [wz (hm b _ q λz=>z),q];simp⟩⟩
 by_cases hbe:b=e
 ·subst hbe;exact heo
 ·exact ⟨u,k b u hbe q⟩
end
def trk (h:Heap)(H:Hp):List Aj:=(List.range h.objs.size).filter λa=>(H a).isSome
def qxc (h:Heap)(H:Hp):Heap:=PySem.W.hideAll h (trk h H)
theorem qyd (h:Heap)(H:Hp):(qxc h H).objs.size=h.objs.size:=PySem.W.hideAll_size _ _
theorem wqd {h:Heap}{H:Hp}{b:Aj}{o:Obj}(e:h.get? b=some o)(n:H b=none):(qxc h H).get? b=some o :=
 PySem.W.hideAll_get _ e λhm=>by
  have q:(H b).isSome=true:=(bw.mp hm).2
  rw [n] at q;simp at q
theorem wx8 {h:Heap}{H:Hp}{b:Aj}{o:Obj}(e:(qxc h H).get? b=some o):h.get? b=some o∧H b=none:=by
 have e':h.get? b=some o:=PySem.W.of_hideAll (trk h H) e
 refine ⟨e',?_⟩
 cases q:H b with
 |none=>rfl
 |some x =>
  have hm:b∈trk h H:=bw.mpr ⟨aN.mpr (ak e'),by simp [q]⟩
  have z:(qxc h H).get? b=none:=PySem.W.hideAll_none (trk h H) hm
  rw [z] at e;cases e
def wz3 (g h:Heap)(L:Aj):List (Aj×Obj):=(List.range h.objs.size).filterMap λa=>if a=L∨(g.get? a).isSome=true then none else (h.get? a).map λo=>(a,o)
def rest (g h:Heap)(L d:Aj):List (Aj×Obj):=(wz3 g h L).filter λp=>decide (p.1≠d)
structure Mod (K:Aa)(mg:Str→Option Ag)(base:Heap):Prop where
 kin:K.In base
 glob:base.Ns mainGlobals mg
 blt:∃mb,base.Ns builtinsNs mb∧∀x:Str,x ≠ "__name__" → mb x=bootBuiltins x
 nolimit:base.NoLimit
structure Cx where
 prog:Ac
 w:Ah
 K:Aa
 mg:Str→Option Ag
 base:Heap
 A:Ae
 N:List Str
 s₀:Ab
 H₀:Hp
 env:Env
 outer:List Env
 stack:List Env
 ex:List Aj
 fn:Str→Bool
 calm:Bool
 pn:List (Aj×Obj)
 xe:Ag→Ab→Prop
def frs (l:List Env):List Aj:=l.filterMap (·.frame)
abbrev Cx.fs (X:Cx):List Aj:=frs X.outer
def Vis (sc:Scope)(x:Str):Prop:=sc.names.lookup x=some .local∨sc.names.lookup x=some .cell∨sc.names.lookup x=some .free
def Loc (sc:Scope)(x:Str):Prop:=sc.names.lookup x=some .local∨sc.names.lookup x=some .cell
def Look (env:Env)(h:Heap)(m:Str→Option Ag)(x:Str)(u:Ag):Prop :=
 (env.kindOf x=some .local∧m x=some u)∨((env.kindOf x=some .cell∨env.kindOf x=some .free)∧∃c,env.cells.lookup x=some c∧h.IsCell c (some u))
structure Cx.Ok (X:Cx):Prop where
 mod:Mod X.K X.mg X.base
 kind:X.env.scope.kind=.function
 glob:X.env.globals=mainGlobals
 blt:X.env.builtins=builtinsNs
 above:X.s₀.heap.objs.size≤X.env.locals
 inj:∀x y c,X.env.cells.lookup x=some c→X.env.cells.lookup y=some c→x=y
 has:∀x,(X.env.kindOf x=some .cell∨X.env.kindOf x=some .free)→∃c,X.env.cells.lookup x=some c
 cab:∀x c,X.fn x=true→X.env.cells.lookup x=some c→X.s₀.heap.objs.size≤c
 hd:X.calm=true→X.A.handled=none
 frames:X.A.frames=some X.stack
 stk:X.stack=X.outer∨(X.stack=X.env::X.outer∧X.env.frame=some X.env.locals)
 exf:∀b∈X.ex,b≠X.env.locals∧∀x c,X.env.cells.lookup x=some c→c≠b
 bs:∀b o,X.base.get? b=some o→X.s₀.heap.get? b=some o∧X.H₀ b=none
 bsz:X.base.objs.size≤X.s₀.heap.objs.size
 noex:∀b o,X.base.get? b=some o→b∉X.ex
 exfs:∀b∈X.ex,b∉X.fs
 funs:X.s₀.heap.FunFrames X.base X.outer
 frf:∀b∈X.fs,X.H₀ b=none
structure Inv (X:Cx)(pins:List (Aj×Obj))(σ:List (Option V))(H:Hp)(s:Ab):Prop where
 ok:X.Ok
 os:s.os=X.s₀.os
 bare:AllBare s.gens
 base:Un X.fs X.ex X.H₀ H X.s₀.heap s.heap
 loc:∃m,s.heap.Ns X.env.locals m∧∀(i:Nat) (x:Str) (v:V),X.N[i]?=some x→σ[i]?=some (some v)→Vis X.env.scope x→∃u,RelV v u∧Look X.env s.heap m x u
 cell:∀x c,X.env.cells.lookup x=some c→∃v,s.heap.IsCell c v
 free:H X.env.locals=none
 freeC:∀x c,X.env.cells.lookup x=some c→H c=none
 pin:∀p∈X.pn++pins,s.heap.get? p.1=some p.2∧H p.1=none∧p.1≠X.env.locals∧p.1∉X.fs∧∀v,p.2.data≠.cell v
 hok:HOk X.prog X.w H s.heap
 len:σ.length=X.N.length
section
variable {X:Cx}{pins:List (Aj×Obj)}{σ:List (Option V)}{H H':Hp}{s:Ab}{h':Heap}
theorem Cx.Ok.nofr (ok:X.Ok){b:Aj}{o:Obj}(e:X.base.get? b=some o):b∉X.fs:=λhb=>by
 have:=(ok.funs.mem hb).1
 rw [e] at this;cases this
theorem Inv.bs (I:Inv X pins σ H s):∀b o,X.base.get? b=some o→s.heap.get? b=some o∧H b=none:=λb o e =>
 ⟨I.base.keep b o (I.ok.bs b o e).1 (I.ok.bs b o e).2 (I.ok.nofr e) (I.ok.noex b o e),I.base.free b o (I.ok.bs b o e).1 (I.ok.bs b o e).2 (I.ok.noex b o e)⟩
theorem Inv.bk (I:Inv X pins σ H s):∀b o,X.base.get? b=some o→s.heap.get? b=some o:=λb o e=>(I.bs b o e).1
theorem Inv.mod (I:Inv X pins σ H s):Mod X.K X.mg X.base:=I.ok.mod
theorem Inv.kIn (I:Inv X pins σ H s):X.K.In s.heap:=I.ok.mod.kin.keeps I.bk
theorem Inv.lt (I:Inv X pins σ H s):X.env.locals<s.heap.objs.size:=let ⟨_,hn,_⟩:=I.loc;hn.lt
theorem Inv.sz (I:Inv X pins σ H s):X.s₀.heap.objs.size≤s.heap.objs.size:=bB I.ok.above (bC I.lt)
theorem Inv.nofs (I:Inv X pins σ H s){a:Aj}(h:s.heap.objs.size≤a):a∉X.fs:=λhb=>by
 obtain ⟨_,o,ho,_⟩:=I.ok.funs.mem hb
 exact absurd (aD (ak ho) (bB I.sz h)) (aV _)
theorem Inv.cne (I:Inv X pins σ H s):∀x c,X.env.cells.lookup x=some c→c≠X.env.locals:=λx c e z=>by
 obtain ⟨v,o,ho,hd⟩:=I.cell x c e
 obtain ⟨m,⟨o',es,ep,ho',hd',_⟩,_⟩:=I.loc
 rw [z,ho'] at ho;cases ho;rw [hd'] at hd;cases hd
theorem Inv.funs (I:Inv X pins σ H s):s.heap.FunFrames X.base X.outer:=by
 have all:∀(l:List Env),(∀b∈frs l,b∈X.fs)→X.s₀.heap.FunFrames X.base l→s.heap.FunFrames X.base l:=by
  intro l
  induction l with
  |nil=>intro _ _;trivial
  |cons env r ih =>
   intro hs hl
   obtain ⟨hk,⟨L,o,hf,hn,ho,hd⟩,hr⟩:=hl
   have hL:L∈X.fs:=hs L (by unfold frs;rw [cO,hf];exact cV)
   obtain ⟨sl,e⟩:=I.base.slot L o ho (I.ok.frf L hL) hL λz=>I.ok.exfs L z hL
   exact ⟨hk,⟨L,_,hf,hn,e,hd⟩,ih (λb hb=>hs b (by unfold frs;rw [cO,hf];exact bf _ hb)) hr⟩
 exact all X.outer (λ_ hb=>hb) I.ok.funs
theorem Inv.stack (I:Inv X pins σ H s):s.heap.FunFrames X.base X.stack:=by
 rcases I.ok.stk with e|⟨e,hf⟩
 ·rw [e];exact I.funs
 ·rw [e]
  obtain ⟨m,hn,_⟩:=I.loc
  refine .cons (by rw [I.ok.kind];decide) hf hn ?_ I.funs
  exact Heap.get?_none_of_le (bB I.ok.bsz I.ok.above)
theorem Inv.stkSub (I:Inv X pins σ H s):∀b∈frs X.stack,b∈X.env.locals::X.fs:=λb hb=>by
 rcases I.ok.stk with e|⟨e,hf⟩
 ·rw [e] at hb;exact bf _ hb
 ·rw [e] at hb
  unfold frs at hb
  rw [cO,hf] at hb
  exact hb
theorem Inv.stkFree (I:Inv X pins σ H s):∀b∈frs X.stack,H b=none:=λb hb=>by
 rcases am.mp (I.stkSub b hb) with e|hb
 ·rw [e];exact I.free
 ·obtain ⟨_,o,ho,_⟩:=I.ok.funs.mem hb
  exact I.base.free b o ho (I.ok.frf b hb) λz=>I.ok.exfs b z hb
theorem Inv.step {g':Array GenState}{t':Nat}{d':Drawn}{ch:List Aj}(I:Inv X pins σ H s)
  (hch:∀b∈ch,(b∈X.ex∨X.s₀.heap.objs.size≤b)∧b≠X.env.locals∧(∀x c,X.env.cells.lookup x=some c→c≠b)∧∀p∈X.pn++pins,p.1≠b)
  (keep:∀b o,b≠X.env.locals→b∉X.fs→b∉ch→s.heap.get? b=some o→H b=none→h'.get? b=some o)
  (slot:∀b o,b≠X.env.locals→b∈X.fs→b∉ch→s.heap.get? b=some o→H b=none→∃sl,h'.get? b=some { o with slots:=sl }) (free:∀b o,b∉ch→s.heap.get? b=some o→H b=none→H' b=none)
  (there:∀b o,b∉ch→s.heap.get? b=some o→∃o',h'.get? b=some o')
  (tups:∀b xs,H b=some (.tup xs)→H' b=some (.tup xs)) (frzs:∀b o u,H b=some (.frz o u)→H' b=some (.frz o u)) (tbls:∀b ps,H b=some (.tbl ps)→∃more,H' b=some (.tbl (ps++more)))
  (ns:∀m,s.heap.Ns X.env.locals m→h'.Ns X.env.locals m) (hok:HOk X.prog X.w H' h') (hg:AllBare g') :
  Inv X pins σ H' { s with heap:=h',gens:=g',drawn:=d',toks:=t' }:=by
 have neL:∀b o,X.s₀.heap.get? b=some o→b≠X.env.locals:=λb o e=>ax (aD (ak e) I.ok.above)
 have neC:∀b o,X.s₀.heap.get? b=some o→b∉X.ex→b∉ch:=λb o e hx hb=>by
  rcases (hch b hb).1 with z|z
  ·exact hx z
  ·exact absurd (aD (ak e) z) (aV _)
 have cellK:∀x c,X.env.cells.lookup x=some c→∀v,s.heap.IsCell c v→h'.IsCell c v:=λx c e v ⟨o,ho,hd⟩=>by
  have nch:c∉ch:=λz=>(hch c z).2.2.1 x c e rfl
  by_cases hc:c∈X.fs
  ·obtain ⟨sl,q⟩:=slot c o (I.cne x c e) hc nch ho (I.freeC x c e)
   exact ⟨_,q,hd⟩
  ·exact ⟨o,keep c o (I.cne x c e) hc nch ho (I.freeC x c e),hd⟩
 refine ⟨I.ok,I.os,hg,⟨λb o e n hb hx=>?_,λb o e n hb hx=>?_,λb o e n hx=>?_,λb o e hx=>?_,λb xs e=>tups b xs (I.base.tups b xs e),λb o xs e=>frzs b o xs (I.base.frzs b o xs e),λb ps e=>?_⟩,?_,λx c e=>?_,?_,λx c e=>?_,λp hp=>?_,hok,I.len⟩
 ·exact keep b o (neL b o e) hb (neC b o e hx) (I.base.keep b o e n hb hx) (I.base.free b o e n hx)
 ·obtain ⟨sl,e1⟩:=I.base.slot b o e n hb hx
  obtain ⟨sl',e2⟩:=slot b _ (neL b o e) hb (neC b o e hx) e1 (I.base.free b o e n hx)
  exact ⟨sl',e2⟩
 ·obtain ⟨o',e1⟩:=I.base.there b o e hx
  exact free b o' (neC b o e hx) e1 (I.base.free b o e n hx)
 ·obtain ⟨o',e1⟩:=I.base.there b o e hx
  exact there b o' (neC b o e hx) e1
 ·obtain ⟨m1,e1⟩:=I.base.tbls b ps e
  obtain ⟨m2,e2⟩:=tbls b _ e1
  exact ⟨m1++m2,by rw [e2,Array.append_assoc]⟩
 ·obtain ⟨m,hn,hl⟩:=I.loc
  refine ⟨m,ns m hn,λi x v e1 e2 e3=>?_⟩
  obtain ⟨u,r,l⟩:=hl i x v e1 e2 e3
  refine ⟨u,r,?_⟩
  rcases l with l|⟨k,c,e,z⟩
  ·exact .inl l
  ·exact .inr ⟨k,c,e,cellK x c e _ z⟩
 ·obtain ⟨v,z⟩:=I.cell x c e
  exact ⟨v,cellK x c e v z⟩
 ·obtain ⟨m,⟨o,_,_,ho,_⟩,_⟩:=I.loc
  exact free _ o (λz=>(hch _ z).2.1 rfl) ho I.free
 ·obtain ⟨v,o,ho,hd⟩:=I.cell x c e
  exact free c o (λz=>(hch c z).2.2.1 x c e rfl) ho (I.freeC x c e)
 ·obtain ⟨e,n,ne,nf,d⟩:=I.pin p hp
  have nch:p.1∉ch:=λz=>(hch p.1 z).2.2.2 p hp rfl
  exact ⟨keep p.1 p.2 ne nf nch e n,free p.1 p.2 nch e n,ne,nf,d⟩
theorem Inv.un {t':Nat}(I:Inv X pins σ H s)(u:Un X.fs [] H H' s.heap h')(hok:HOk X.prog X.w H' h'):Inv X pins σ H' { s with heap:=h',toks:=t' }:=by
 obtain ⟨m,⟨o,es,ep,ho,r⟩,_⟩:=id I.loc
 obtain ⟨sl,hL⟩:=u.any ho I.free (by simp)
 exact I.step (g':=s.gens) (d':=s.drawn) (ch:=[]) (λ_ z=>nomatch z) (λb o _ hb _ e n=>u.keep b o e n hb (by simp)) (λb o _ hb _ e n=>u.slot b o e n hb (by simp)) (λb o _ e n=>u.free b o e n (by simp)) (λb o _ e=>u.there b o e (by simp)) u.tups u.frzs u.tbls (λm' hm=>by
  obtain ⟨o',es',ep',ho',r'⟩:=hm
  rw [ho] at ho';cases ho'
  exact ⟨_,es',ep',hL,r'⟩) hok I.bare
theorem Inv.call {g':Array GenState}{t':Nat}{d':Drawn}{ch:List Aj}(I:Inv X pins σ H s)(u:Un (frs X.stack) ch H H' s.heap h')(hok:HOk X.prog X.w H' h')(hg:AllBare g')
  (hch:∀b∈ch,(b∈X.ex∨X.s₀.heap.objs.size≤b)∧b≠X.env.locals∧(∀x c,X.env.cells.lookup x=some c→c≠b)∧∀p∈X.pn++pins,p.1≠b) :
  Inv X pins σ H' { s with heap:=h',gens:=g',drawn:=d',toks:=t' }:=by
 obtain ⟨m,⟨o,es,ep,ho,r⟩,_⟩:=id I.loc
 obtain ⟨sl,hL⟩:=u.any ho I.free λz=>(hch _ z).2.1 rfl
 exact I.step (ch:=ch) hch (λb o hL hb hc e n=>u.keep b o e n (λz=>(am.mp (I.stkSub b z)).elim hL hb) hc) (λb o _ _ hc e n=>u.any e n hc) (λb o hc e n=>u.free b o e n hc) (λb o hc e=>u.there b o e hc) u.tups u.frzs u.tbls (λm' hm=>by
  obtain ⟨o',es',ep',ho',r'⟩:=hm
  rw [ho] at ho';cases ho'
  exact ⟨_,es',ep',hL,r'⟩) hok hg
theorem Inv.turned {t':Nat}{it:Aj}(I:Inv X pins σ H s)(k:∀b o,b≠it→s.heap.get? b=some o→h'.get? b=some o)(hn:H it=none)(hL:it≠X.env.locals)
  (h1:it∈X.ex∨X.s₀.heap.objs.size≤it) (h2:∀x c,X.env.cells.lookup x=some c→c≠it) (h3:∀p∈X.pn++pins,p.1≠it):Inv X pins σ H { s with heap:=h',toks:=t' }:=by
 have nit:∀b u,H b=some u→b≠it:=λb u e z=>by rw [z,hn] at e;cases e
 refine I.step (g':=s.gens) (d':=s.drawn) (ch:=[it]) (λb hb=>?_) (λb o _ _ hc e _=>k b o (λz=>hc (by simp [z])) e) (λb o _ _ hc e _=>⟨o.slots,k b o (λz=>hc (by simp [z])) e⟩) (λ_ _ _ _ n=>n)
  (λb o hc e=>⟨o,k b o (λz=>hc (by simp [z])) e⟩) (λ_ _ e=>e) (λ_ _ _ e=>e) (λb ps e=>⟨#[],by rw [e];simp⟩) (λm hm=>?_) (λb u e=>?_) I.bare
 ·have e:b=it:=by simpa using hb
  subst e
  exact ⟨h1,hL,h2,h3⟩
 ·obtain ⟨o,es,ep,ho,r⟩:=hm
  exact ⟨o,es,ep,k _ o (aU hL) ho,r⟩
 ·refine (I.hok b u e).stay (λc v hc q=>k c v ?_ q) (λ_ q=>q) λ_ _ q=>q
  rcases hc with z|z
  ·rw [z];exact nit b u e
  ·exact nit c _ z
theorem Inv.tok (I:Inv X pins σ H s)(t:Nat):Inv X pins σ H { s with toks:=t }:=I.un (h':=s.heap) (t':=t) Un.refl I.hok
theorem Inv.kept {t':Nat}(I:Inv X pins σ H s)(k:∀b u,s.heap.get? b=some u→h'.get? b=some u):Inv X pins σ H { s with heap:=h',toks:=t' }:=I.un (Un.kept k) (I.hok.kept k)
theorem Inv.laid {a:Aj}{o:HO}{t':Nat}(I:Inv X pins σ H s)(k:∀b u,s.heap.get? b=some u→h'.get? b=some u)(hp:s.heap.objs.size≤a)(new:ObjOk X.prog X.w (upd H a o) h' a o) :
  Inv X pins σ (upd H a o) { s with heap:=h',toks:=t' }:=I.un (Un.laid k hp (I.hok.fresh hp)) (I.hok.laid k hp new)
theorem Inv.write {x e:Aj}{o:HO}{t':Nat}(I:Inv X pins σ H s)(mu:Mut (H x))(he:e=x∨H e=some (.own x))(k:∀b u,b≠e→s.heap.get? b=some u→h'.get? b=some u)(heo:∃u,h'.get? e=some u)
  (new:ObjOk X.prog X.w (upd H x o) h' x o):Inv X pins σ (upd H x o) { s with heap:=h',toks:=t' }:=I.un (Un.write mu he k heo) (I.hok.write mu he k heo new)
theorem Inv.weak {σ':List (Option V)}(I:Inv X pins σ H s)(hl:σ'.length=σ.length)(w:∀(i:Nat) v,σ'[i]?=some (some v)→σ[i]?=some (some v)):Inv X pins σ' H s :=
 ⟨I.ok,I.os,I.bare,I.base,let ⟨m,hn,hl'⟩:=I.loc;⟨m,hn,λi x v e1 e2 e3=>hl' i x v e1 (w i v e2) e3⟩,I.cell,I.free,I.freeC,I.pin,I.hok,hl.trans I.len⟩
theorem Inv.pins_of {pins':List (Aj×Obj)}(I:Inv X pins σ H s)(h:∀p∈pins',s.heap.get? p.1=some p.2∧H p.1=none∧p.1≠X.env.locals∧p.1∉X.fs∧∀v,p.2.data≠.cell v):Inv X pins' σ H s :=
 ⟨I.ok,I.os,I.bare,I.base,I.loc,I.cell,I.free,I.freeC,λp hp=>(aZ.mp hp).elim (λz=>I.pin p (cG _ z)) (h p),I.hok,I.len⟩
theorem qz6 {N:List Str}(hN:N.Nodup){i j:Nat}{x:Str}(a:N[i]?=some x)(b:N[j]?=some x):i=j:=by
 obtain ⟨h1,e1⟩:=aQ.mp a
 obtain ⟨h2,e2⟩:=aQ.mp b
 exact (eB hN).mp (e1.trans e2.symm)
theorem qyu {M:Model}{A:Ae}{E:Ag→Ab→Prop}{i:Nat}{x:Str}{v:V}{u:Ag}{Q:Unit→Ab→Prop}(I:Inv X pins σ H s)(hN:X.N.Nodup)(hi:X.N[i]?=some x)(hx:Loc X.env.scope x)(r:RelV v u)
  (h:∀s',Inv X pins (σ.set i (some v)) H s'→(∃a,Heap.SameBut a s.heap s'.heap∧(a=X.env.locals∨X.env.cells.lookup x=some a))→Q () s') (hf:X.fn x=true∨X.env.scope.names.lookup x=some .local:=by first | exact .inl rfl | exact .inr rfl | assumption):wpAny M A (storeName X.env x u) Q E s:=by
 obtain ⟨m,hn,hl⟩:=id I.loc
 have hcls:(X.env.scope.kind==.class||(X.env.scope.kind==.module&&X.env.locals != X.env.globals))=false:=by rw [I.ok.kind];rfl
 have hiσ:i<σ.length:=by rw [I.len];exact (aQ.mp hi).1
 have cne:=I.cne
 have tracked:∀ {a:Aj} {h':Heap},(∃o,s.heap.get? a=some o∧H a=none)→Heap.SameBut a s.heap h'→HOk X.prog X.w H h':=λ{a h'} ha hs b ob e=>by
  obtain ⟨_,_,hfree⟩:=ha
  refine (I.hok b ob e).stay (λc w' hc q=>(hs.2 c ?_).trans q) (λ_ q=>q) λ_ _ q=>q
  rintro rfl
  rcases hc with rfl|hc
  ·rw [hfree] at e;cases e
  ·rw [hfree] at hc;cases hc
 rcases hx with hk|hk
 ·refine wpAny_storeName_local hk hn (λh' hn' hs=>?_) hcls
  obtain ⟨oL,_,_,hoL,_⟩:=id hn
  refine h _ ⟨I.ok,I.os,I.bare,⟨λb o e n hb hx=>?_,λb o e n hb hx=>?_,I.base.free,λb o e hx=>?_,I.base.tups,I.base.frzs,I.base.tbls⟩,⟨_,hn',λj y v' e1 e2 e3=>?_⟩,λy c e=>?_,I.free,I.freeC,λp hp=>?_,tracked ⟨oL,hoL,I.free⟩ hs,by simpa using I.len⟩ ⟨_,hs,.inl rfl⟩
  ·exact (hs.2 b (ax (aD (ak e) I.ok.above))).trans (I.base.keep b o e n hb hx)
  ·obtain ⟨sl,e1⟩:=I.base.slot b o e n hb hx
   exact ⟨sl,(hs.2 b (ax (aD (ak e) I.ok.above))).trans e1⟩
  ·obtain ⟨o',e1⟩:=I.base.there b o e hx
   exact ⟨o',(hs.2 b (ax (aD (ak e) I.ok.above))).trans e1⟩
  ·by_cases hj:j=i
   ·subst hj
    rw [hi] at e1;cases e1
    rw [List.getElem?_set_self hiσ] at e2
    cases e2
    exact ⟨u,r,.inl ⟨hk,by simp⟩⟩
   ·rw [List.getElem?_set_ne (aU hj)] at e2
    obtain ⟨u',r',q⟩:=hl j y v' e1 e2 e3
    refine ⟨u',r',?_⟩
    rcases q with ⟨k,e⟩|⟨k,c,e,z⟩
    ·refine .inl ⟨k,?_⟩
     have:y≠x:=λe=>hj (qz6 hN e1 (e▸hi))
     simp [this,e]
    ·exact .inr ⟨k,c,e,z.sameBut hs (cne y c e)⟩
  ·obtain ⟨w',z⟩:=I.cell y c e
   exact ⟨w',z.sameBut hs (cne y c e)⟩
  ·obtain ⟨e,n,ne,nf,d⟩:=I.pin p hp
   exact ⟨(hs.2 p.1 ne).trans e,n,ne,nf,d⟩
 ·have hfn:X.fn x=true:=by
   rcases hf with z|z
   ·exact z
   ·rw [z] at hk;cases hk
  obtain ⟨c,hc⟩:=I.ok.has x (.inl hk)
  obtain ⟨w',z⟩:=I.cell x c hc
  refine wpAny_storeName_cell I.ok.kind hk hc z (λh' hc' hs=>?_)
  obtain ⟨oc,hoc,hocd⟩:=id z
  refine h { s with heap:=h' } ⟨I.ok,I.os,I.bare,⟨λb o e n hb hx=>?_,λb o e n hb hx=>?_,I.base.free,λb o e hx=>?_,I.base.tups,I.base.frzs,I.base.tbls⟩,⟨m,hn.sameBut hs (aU (cne x c hc)),λj y v' e1 e2 e3=>?_⟩,λy c' e=>?_,I.free,I.freeC,λp hp=>?_,tracked ⟨oc,hoc,I.freeC x c hc⟩ hs,by simpa using I.len⟩ ⟨c,hs,.inr hc⟩
  ·exact (hs.2 b (ax (aD (ak e) (I.ok.cab x c hfn hc)))).trans (I.base.keep b o e n hb hx)
  ·obtain ⟨sl,e1⟩:=I.base.slot b o e n hb hx
   exact ⟨sl,(hs.2 b (ax (aD (ak e) (I.ok.cab x c hfn hc)))).trans e1⟩
  ·obtain ⟨o',e1⟩:=I.base.there b o e hx
   exact ⟨o',(hs.2 b (ax (aD (ak e) (I.ok.cab x c hfn hc)))).trans e1⟩
  ·by_cases hj:j=i
   ·subst hj
    rw [hi] at e1;cases e1
    rw [List.getElem?_set_self hiσ] at e2
    cases e2
    exact ⟨u,r,.inr ⟨.inl hk,c,hc,hc'⟩⟩
   ·rw [List.getElem?_set_ne (aU hj)] at e2
    obtain ⟨u',r',q⟩:=hl j y v' e1 e2 e3
    refine ⟨u',r',?_⟩
    rcases q with q|⟨k,c',e,z'⟩
    ·exact .inl q
    ·refine .inr ⟨k,c',e,z'.sameBut hs ?_⟩
     rintro rfl
     exact hj (qz6 hN e1 (I.ok.inj _ _ _ e hc▸hi))
  ·by_cases hcc:c'=c
   ·subst hcc;exact ⟨_,hc'⟩
   ·obtain ⟨w2,z2⟩:=I.cell y c' e
    exact ⟨w2,z2.sameBut hs hcc⟩
  ·obtain ⟨e,n,ne,nf,d⟩:=I.pin p hp
   refine ⟨(hs.2 p.1 ?_).trans e,n,ne,nf,d⟩
   intro q
   rw [q,hoc] at e
   have q':oc=p.2:=aw e
   exact d w' (by rw [←q'];exact hocd)
theorem j6 {M:Model}{A:Ae}{E:Ag→Ab→Prop}{i:Nat}{x:Str}{v:V}{u:Ag}{Q:Unit→Ab→Prop}(I:Inv X pins σ H s)(hN:X.N.Nodup)(hi:X.N[i]?=some x)(hx:Loc X.env.scope x)(r:RelV v u)
  (h:∀s',Inv X pins (σ.set i (some v)) H s'→Q () s') (hf:X.fn x=true∨X.env.scope.names.lookup x=some .local:=by first | exact .inl rfl | exact .inr rfl | assumption):wpAny M A (storeName X.env x u) Q E s :=
 qyu I hN hi hx r (λs' I' _=>h s' I') hf
theorem Inv.call' {s':Ab}{ch:List Aj}(I:Inv X pins σ H s)(ho:s'.os=s.os)(u:Un (frs X.stack) ch H H' s.heap s'.heap)(hok:HOk X.prog X.w H' s'.heap)(hg:AllBare s'.gens)
  (hch:∀b∈ch,(b∈X.ex∨X.s₀.heap.objs.size≤b)∧b≠X.env.locals∧(∀x c,X.env.cells.lookup x=some c→c≠b)∧∀p∈X.pn++pins,p.1≠b):Inv X pins σ H' s':=by
 obtain ⟨h',g',d',t',o'⟩:=s'
 have e:o'=s.os:=ho
 subst e
 exact I.call (g':=g') (t':=t') (d':=d') u hok hg hch
end
abbrev XK:=Ag→Option Aj→Hp→Prop
abbrev St:=List (Option V)
abbrev VK:=V→Hp→Prop
abbrev TE:=St→Hp→VK→Prop
abbrev TT:=St→Hp→(Bool→Hp→Prop)→Prop
abbrev TA:=St→Hp→(List V→Hp→Prop)→Prop
structure Ends where
 nx:St→Hp→Prop
 rt:VK
 bk:St→Hp→Prop:=λ_ _=>False
 ct:St→Hp→Prop:=λ_ _=>False
abbrev TS:=Ends→St→Hp→Prop
def EP (X:Cx)(pins:List (Aj×Obj))(σ:St)(Q:VK)(u:Ag)(s':Ab):Prop:=∃v H',Inv X pins σ H' s'∧RelV v u∧Q v H'
def TP (X:Cx)(pins:List (Aj×Obj))(σ:St)(Q:Bool→Hp→Prop)(b:Bool)(s':Ab):Prop:=∃H',Inv X pins σ H' s'∧Q b H'
def AP (X:Cx)(pins:List (Aj×Obj))(σ:St)(Q:List V→Hp→Prop)(us:List Ag)(s':Ab):Prop:=∃vs H',Inv X pins σ H' s'∧Vals vs us∧Q vs H'
def SP (X:Cx)(pins:List (Aj×Obj))(D:Ends)(f:Flow)(s':Ab):Prop :=
 match f with
 |.next=>∃σ' H',Inv X pins σ' H' s'∧D.nx σ' H'
 |.brk=>∃σ' H',Inv X pins σ' H' s'∧D.bk σ' H'
 |.cont=>∃σ' H',Inv X pins σ' H' s'∧D.ct σ' H'
 |.ret u=>∃v σ' H',Inv X pins σ' H' s'∧RelV v u∧D.rt v H'
def PE (X:Cx)(e:Expr)(t:TE):Prop :=
 ∀(pins:List (Aj×Obj)) (s:Ab) (σ:St) (H:Hp) (Q:VK),Inv X pins σ H s→t σ H Q→wpAny (model X.prog X.w) X.A (eval e X.env) (EP X pins σ Q) X.xe s
def PT (X:Cx)(e:Expr)(t:TT):Prop :=
 ∀(pins:List (Aj×Obj)) (s:Ab) (σ:St) (H:Hp) (Q:Bool→Hp→Prop),Inv X pins σ H s→t σ H Q→wpAny (model X.prog X.w) X.A (isTrue e X.env (eval e X.env)) (TP X pins σ Q) X.xe s
def PW (X:Cx)(e:Expr)(t:TT):Prop :=
 ∀(whole:Sem Ag) (pins:List (Aj×Obj)) (s:Ab) (σ:St) (H:Hp) (Q:Bool→Hp→Prop),Inv X pins σ H s→t σ H Q→wpAny (model X.prog X.w) X.A (isTrue e X.env whole) (TP X pins σ Q) X.xe s
theorem PW.pt {X:Cx}{e:Expr}{t:TT}(h:PW X e t):PT X e t:=h _
def PA (X:Cx)(es:List Expr)(t:TA):Prop :=
 ∀(pos:Pos) (pins:List (Aj×Obj)) (s:Ab) (σ:St) (H:Hp) (Q:List V→Hp→Prop),Inv X pins σ H s→t σ H Q→wpAny (model X.prog X.w) X.A (spliced (backTo pos (starEach es X.env))) (AP X pins σ Q) X.xe s
def PS (X:Cx)(st:Stmt)(t:TS):Prop :=
 ∀(pins:List (Aj×Obj)) (s:Ab) (σ:St) (H:Hp) (D:Ends),Inv X pins σ H s→t D σ H→wpAny (model X.prog X.w) X.A (exec st X.env) (SP X pins D) X.xe s
def PSs (X:Cx)(st:List Stmt)(t:TS):Prop :=
 ∀(pins:List (Aj×Obj)) (s:Ab) (σ:St) (H:Hp) (D:Ends),Inv X pins σ H s→t D σ H→wpAny (model X.prog X.w) X.A (execs st X.env) (SP X pins D) X.xe s
theorem thn {α:Type}{t:Sem α}{Q Q':α→Ab→Prop}{M:Model}{A:Ae}{E:Ag→Ab→Prop}{s:Ab}(h:wpAny M A t Q E s)(hQ:∀a s,Q a s→Q' a s):wpAny M A t Q' E s:=aL h hQ λ_ _ x=>x
section
variable {X:Cx}
def Qh (i:Nat):TE:=λσ H Q=>∃v,σ[i]?=some (some v)∧Q v H
def tC (v:V):TE:=λ_ H Q=>Q v H
theorem pe_var {i:Nat}{x:Str}{pos:Pos}(hN:X.N[i]?=some x)(hv:Vis X.env.scope x)(hd:(x==("__debug__" : Str))=false:=by decide)(hcd:(x==("__classdict__" : Str))=false:=by decide):PE X (.Name x pos) (Qh i):=by
 intro pins s σ H Q I h
 obtain ⟨v,e,h⟩:=h
 obtain ⟨m,hn,hl⟩:=I.loc
 obtain ⟨u,r,l⟩:=hl i x v hN e hv
 have fin:EP X pins σ Q u s:=⟨v,H,I,r,h⟩
 rcases l with ⟨hk,hm⟩|⟨hk,c,hc,hcell⟩
 ·exact wpAny_Name (wpAny_loadName_local I.ok.kind hk hn hm fin) hd
 ·rcases hk with hk|hk
  ·exact wpAny_Name (wpAny_loadName_cell I.ok.kind hk hc hcell fin) hd
  ·exact wpAny_Name (wpAny_loadName_free I.ok.kind hk hc hcell fin hcd) hd
theorem qu {i j pos}:PE X (.Constant (.int i) j pos) (tC (.int i)):=λ_ _ _ H _ I h=>wpAny_Constant_int ⟨.int i,H,I.tok _,⟨_,rfl⟩,h⟩
theorem qj1 {b j pos}:PE X (.Constant (.bool b) j pos) (tC (.bl b)):=λ_ _ _ H _ I h=>Constant_bool ⟨.bl b,H,I,rfl,h⟩
theorem wxu {j pos}:PE X (.Constant .none j pos) (tC .non):=λ_ _ _ H _ I h=>Constant_none ⟨.non,H,I,rfl,h⟩
theorem xn {x j pos}:PE X (.Constant (.str x) j pos) (tC (.str x)):=λ_ _ _ H _ I h=>Calls.Constant_str ⟨.str x,H,I.tok _,⟨_,rfl⟩,h⟩
def Gl (X:Cx)(x:Str):Prop:=X.env.kindOf x=some .globalImplicit
theorem jc {E:Ag→Ab→Prop}{pins:List (Aj×Obj)}{s:Ab}{σ:St}{H:Hp}{x:Str}{u:Ag}{pos:Pos}{Q:Ag→Ab→Prop}(I:Inv X pins σ H s)(hg:Gl X x)(hm:X.mg x=some u)(h:Q u s)
  (hd:(x==("__debug__" : Str))=false:=by decide):wpAny (model X.prog X.w) X.A (eval (.Name x pos) X.env) Q E s :=
 Calls.Name_function_global I.ok.kind hg (Calls.loadGlobal_global (by rw [I.ok.glob];exact I.mod.glob.keeps I.bk) hm h) hd
theorem Wc {E:Ag→Ab→Prop}{pins:List (Aj×Obj)}{s:Ab}{σ:St}{H:Hp}{x:Str}{u:Ag}{pos:Pos}{Q:Ag→Ab→Prop}(I:Inv X pins σ H s)(hg:Gl X x)(hm:X.mg x=none)(hv:bootBuiltins x=some u)(h:Q u s)
  (hn:x ≠ "__name__" := by decide) (hd:(x==("__debug__" : Str))=false:=by decide):wpAny (model X.prog X.w) X.A (eval (.Name x pos) X.env) Q E s:=by
 obtain ⟨mb,h1,h2⟩:=I.mod.blt
 exact Calls.Name_function_global I.ok.kind hg (Calls.loadGlobal_builtin (by rw [I.ok.glob];exact I.mod.glob.keeps I.bk) hm (by rw [I.ok.blt];exact h1.keeps I.bk) ((h2 x hn).trans hv) h) hd
theorem yq {x:Str}{v:V}{u:Ag}{pos:Pos}(hg:Gl X x)(hm:X.mg x=some u)(r:RelV v u)(hd:(x==("__debug__" : Str))=false:=by decide):PE X (.Name x pos) (tC v) :=
 λ_ _ _ H _ I h=>jc I hg hm ⟨v,H,I,r,h⟩ hd
theorem qju {x:Str}{v:V}{u:Ag}{pos:Pos}(hg:Gl X x)(hm:X.mg x=none)(hv:bootBuiltins x=some u)(r:RelV v u)(hn:x ≠ "__name__" := by decide)(hd:(x==("__debug__" : Str))=false:=by decide):PE X (.Name x pos) (tC v) :=
 λ_ _ _ H _ I h=>Wc I hg hm hv ⟨v,H,I,r,h⟩ hn hd
variable {a b:Expr}{ta tb:TE}{pos:Pos}
def PC (X:Cx)(op:CmpOp)(a b:Expr)(t:TE):Prop :=
 ∀(pins:List (Aj×Obj)) (s:Ab) (σ:St) (H:Hp) (Q:VK),Inv X pins σ H s→t σ H Q →
  wpAny (model X.prog X.w) X.A (eval a X.env) (λv s₁=>wpAny (model X.prog X.w) X.A (eval b X.env) (λu s₂=>wpAny (model X.prog X.w) X.A (compareOp op v u) (EP X pins σ Q) X.xe s₂) X.xe s₁) X.xe s
def tB (t:TE):TT:=λσ H Q=>t σ H λx H1=>∃c,x=.bl c∧Q c H1
theorem Ym {op:CmpOp}{t:TE}(h:PC X op a b t)(h1:behindInMarks op b=false:=by first | exact nobehind _ (by decide) (by decide) | rfl):PT X (.Compare a [op] [b] pos) (tB t):=by
 intro pins s σ H Q I hw
 refine wpAny_isTrue_Compare1 (thn (h pins s σ H _ I hw) λv s1 h1=>thn h1 λu s2 h2=>thn h2 λc s3 ⟨x,H1,I1,r1,q1⟩=>?_) h1
 obtain ⟨d,rfl,q⟩:=q1
 cases r1
 exact bF ⟨H1,I1,q⟩
theorem qxn {e:Expr}{t:TE}(h:PE X e t)(he:∀whole,isTrue e X.env whole=(do let v ←whole;standAt e.pos;holding [v] (truthy v)):=by intro _;rfl):PT X e (tB t):=by
 intro pins s σ H Q I hw
 refine isTrue_plain (thn (h pins s σ H _ I hw) λv s1 ⟨x,H1,I1,r1,q1⟩=>?_) (he _)
 obtain ⟨d,rfl,q⟩:=q1
 cases r1
 exact bF ⟨H1,I1,q⟩
variable {tA tB':TT}{rest:List Expr}
def tAnd (t u:TT):TT:=λσ H Q=>t σ H λc H1=>if c=true then u σ H1 Q else Q false H1
def tOr (t u:TT):TT:=λσ H Q=>t σ H λc H1=>if c=true then Q true H1 else u σ H1 Q
def tNot (t:TT):TT:=λσ H Q=>t σ H λc H1=>Q (!c) H1
theorem qw4 (ha:PT X a tA):PW X (.BoolOp .And [a] pos) tA:=by
 intro wh pins s σ H Q I h
 refine isTrue_and (thn (ha pins s σ H Q I h) λc s1 e=>?_)
 cases c with
 |true=>exact isTrue_and_nil e
 |false=>exact e
theorem ym (ha:PT X a tA):PW X (.BoolOp .Or [a] pos) tA:=by
 intro wh pins s σ H Q I h
 refine isTrue_or (thn (ha pins s σ H Q I h) λc s1 e=>?_)
 cases c with
 |false=>exact isTrue_or_nil e
 |true=>exact e
theorem Wh (ha:PT X a tA)(hb:PW X (.BoolOp .And (b::rest) pos) tB'):PW X (.BoolOp .And (a::b::rest) pos) (tAnd tA tB'):=by
 intro wh pins s σ H Q I h
 refine isTrue_and (thn (ha pins s σ H _ I h) λc s1 ⟨H1,I1,q1⟩=>?_)
 cases c with
 |true=>exact hb wh pins s1 σ H1 Q I1 q1
 |false=>exact ⟨H1,I1,q1⟩
theorem Wt (ha:PT X a tA)(hb:PW X (.BoolOp .Or (b::rest) pos) tB'):PW X (.BoolOp .Or (a::b::rest) pos) (tOr tA tB'):=by
 intro wh pins s σ H Q I h
 refine isTrue_or (thn (ha pins s σ H _ I h) λc s1 ⟨H1,I1,q1⟩=>?_)
 cases c with
 |true=>exact ⟨H1,I1,q1⟩
 |false=>exact hb wh pins s1 σ H1 Q I1 q1
theorem qv9 (ha:PT X a tA):PT X (.UnaryOp .Not a pos) (tNot tA):=by
 intro pins s σ H Q I h
 exact isTrue_not (ha pins s σ H (λc H1=>Q (!c) H1) I h)
def tAndV (ta tb:TE):TE:=λσ H Q=>ta σ H λx H1=>∃c,x=.bl c∧if c=true then tb σ H1 Q else Q (.bl false) H1
def tNotV (ta:TE):TE:=λσ H Q=>ta σ H λx H1=>∃c,x=.bl c∧Q (.bl (!c)) H1
theorem wxk {op}{t:TE}(h:PE X a t):PE X (.BoolOp op [a] pos) t:=λpins s σ H Q I hw=>BoolOp_one (h pins s σ H Q I hw)
theorem wqn (ha:PE X a ta)(hb:PE X (.BoolOp .And (b::rest) pos) tb):PE X (.BoolOp .And (a::b::rest) pos) (tAndV ta tb):=by
 intro pins s σ H Q I h
 refine BoolOp_and (thn (ha pins s σ H _ I h) λv s1 ⟨x,H1,I1,r1,q1⟩=>?_)
 obtain ⟨c,rfl,q1⟩:=q1
 cases r1
 refine bF ?_
 cases c with
 |true=>exact hb pins s1 σ H1 Q I1 q1
 |false=>exact ⟨.bl false,H1,I1,rfl,q1⟩
theorem pe_not (ha:PE X a ta):PE X (.UnaryOp .Not a pos) (tNotV ta):=by
 intro pins s σ H Q I h
 refine UnaryOp_ (thn (ha pins s σ H _ I h) λv s1 ⟨x,H1,I1,r1,q1⟩=>?_)
 obtain ⟨c,rfl,q1⟩:=q1
 cases r1
 exact not_of (bF ⟨.bl (!c),H1,I1,rfl,q1⟩)
def tIf (t:TT)(ta tb:TE):TE:=λσ H Q=>t σ H λc H1=>if c=true then ta σ H1 Q else tb σ H1 Q
theorem qvr {c:Expr}(hc:PT X c tA)(ha:PE X a ta)(hb:PE X b tb):PE X (.IfExp c a b pos) (tIf tA ta tb):=by
 intro pins s σ H Q I h
 refine wpAny_IfExp (thn (hc pins s σ H _ I h) λd s1 ⟨H1,I1,q1⟩=>?_)
 cases d with
 |true=>exact ha pins s1 σ H1 Q I1 q1
 |false=>exact hb pins s1 σ H1 Q I1 q1
end
def SqL (K:Aa)(H:Hp)(a:Aj)(xs:List V):Prop :=
 Rd H a (.lst xs) ∨
  ∃(o:Obj) (its:Array Ag) (n:Nat),K.lookup a=some o∧o.cls=.type "list" ∧ o.dict=none∧o.data=.seq its n∧its.size≤sizeLine∧Vals xs its.toList
def SqT (K:Aa)(H:Hp)(a:Aj)(xs:List V):Prop :=
 Rd H a (.tup xs) ∨
  ∃(o:Obj) (its:Array Ag) (n:Nat),K.lookup a=some o∧o.cls=.type "tuple" ∧ o.data=.seq its n∧its.size≤sizeLine∧Vals xs its.toList
def absV:Ag→Option V
 |.none=>some .non
 |.bool b=>some (.bl b)
 |.int i _=>some (.int i)
 |.str x _=>some (.str x)
 |.bytes b _=>some (.byt b)
 |.float b _=>some (.flt b)
 |.ref a=>some (.ref a)
 |.type n=>some (.ty n)
 |_=>none
theorem RelV.abs {x:V}{u:Ag}(r:RelV x u):absV u=some x:=by
 cases x with
 |non=>cases r;rfl
 |bl _=>cases r;rfl
 |int _=>obtain ⟨t,rfl⟩:=r;rfl
 |str _=>obtain ⟨t,rfl⟩:=r;rfl
 |byt _=>obtain ⟨t,rfl⟩:=r;rfl
 |flt _=>obtain ⟨t,rfl⟩:=r;rfl
 |ref _=>cases r;rfl
 |ty _=>cases r;rfl
theorem RelV.inj {x y:V}{u:Ag}(r:RelV x u)(q:RelV y u):x=y:=aw (r.abs.symm.trans q.abs)
theorem Vals.inj:∀ {xs ys:List V} {us:List Ag},Vals xs us→Vals ys us→xs=ys
 |_,_,_,.nil,.nil=>rfl
 |_,_,_,.cons r t,.cons r' t'=>by rw [r.inj r',Vals.inj t t']
section
variable {X:Cx}{pins:List (Aj×Obj)}{σ:St}{H:Hp}{s:Ab}{a:Aj}{xs ys:List V}
theorem SqL.of {K:Aa}(h:H a=some (.lst xs)):SqL K H a xs:=.inl (.inl h)
theorem SqT.of {K:Aa}(h:H a=some (.tup xs)):SqT K H a xs:=.inl (.inl h)
theorem Inv.list (I:Inv X pins σ H s)(h:SqL X.K H a xs):∃its:List Ag,Vals xs its∧PlainL s.heap a its.toArray∧xs.length≤sizeLine:=by
 rcases h with h|⟨o,its,n,hk,hc,hd,hs,hz,r⟩
 ·obtain ⟨z,its,n,r,e⟩:=h.ok I.hok
  exact ⟨its,r,⟨_,n,e,rfl,rfl,rfl⟩,z⟩
 ·refine ⟨its.toList,r,⟨o,n,I.kIn a o hk,hc,hd,by simpa using hs⟩,?_⟩
  have e:=r.length
  simp only [aR] at e
  lia
theorem Inv.tuple (I:Inv X pins σ H s)(h:SqT X.K H a xs):∃its:List Ag,Vals xs its∧IsTup s.heap a its.toArray∧xs.length≤sizeLine:=by
 rcases h with h|⟨o,its,n,hk,hc,hs,hz,r⟩
 ·obtain ⟨z,its,r,p⟩:=h.ok I.hok
  exact ⟨its,r,p,z⟩
 ·refine ⟨its.toList,r,⟨o,I.kIn a o hk,hc,n,by simpa using hs⟩,?_⟩
  have e:=r.length
  simp only [aR] at e
  lia
theorem Inv.list_inj (I:Inv X pins σ H s)(h:SqL X.K H a xs)(h':SqL X.K H a ys):xs=ys:=by
 obtain ⟨its,r,⟨o,n,e,_,_,d⟩,_⟩:=I.list h
 obtain ⟨its',r',⟨o',n',e',_,_,d'⟩,_⟩:=I.list h'
 rw [e] at e';cases e'
 rw [d] at d'
 injection d' with d1 _
 have:its=its':=by simpa using bq Array.toList d1
 subst this
 exact r.inj r'
end
abbrev Cx.wish (X:Cx)(E:Ag→Ab→Prop):Cx:={ X with xe:=E }
section
variable {X:Cx}{pins:List (Aj×Obj)}{σ:St}{H:Hp}{s:Ab}{E:Ag→Ab→Prop}
end
section
variable {X:Cx}{st:Stmt}{rest:List Stmt}{t u:TS}{e:Expr}{te:TE}{pos:Pos}
def tNext:TS:=λD σ H=>D.nx σ H
def tSeq (t u:TS):TS:=λD σ H=>t { D with nx:=u D } σ H
theorem w4:PSs X [] tNext:=λ_ _ σ H _ I h=>cS ⟨σ,H,I,h⟩
theorem qk (h1:PS X st t)(h2:PSs X rest u):PSs X (st::rest) (tSeq t u):=by
 intro pins s σ H D I h
 refine eC (thn (h1 pins s σ H { D with nx:=u D } I h) λf s1 q=>?_)
 cases f with
 |next =>
  obtain ⟨σ',H',I',q⟩:=q
  exact h2 pins s1 σ' H' D I' q
 |ret v=>exact q
 |brk=>exact q
 |cont=>exact q
theorem wq (h1:PS X st t):PSs X [st] t:=by
 intro pins s σ H D I h
 refine eC (thn (h1 pins s σ H D I h) λf s1 q=>?_)
 cases f with
 |next=>exact cS q
 |ret v=>exact q
 |brk=>exact q
 |cont=>exact q
theorem Inv.quiet {pins:List (Aj×Obj)}{σ:St}{H:Hp}{s:Ab}(I:Inv X pins σ H s):interactive X.env=false:=by simp [interactive,I.ok.kind]
def tDrop (te:TE):TS:=λD σ H=>te σ H λ_ H1=>D.nx σ H1
theorem xg (he:PE X e te)(hs:swapsWith e none pos.line X.env=pure false:=by rfl):PS X (.Expr e pos) (tDrop te):=by
 intro pins s σ H D I h
 exact wpAny_Expr_any (thn (he pins s σ H _ I h) λv s1 ⟨x,H1,I1,r1,q1⟩=>⟨σ,H1,I1,q1⟩) I.quiet hs
def tRet (te:TE):TS:=λD σ H=>te σ H D.rt
theorem wr (he:PE X e te):PS X (.Return (some e) pos) (tRet te):=by
 intro pins s σ H D I h
 exact wpAny_Return_some (thn (he pins s σ H _ I h) λv s1 ⟨x,H1,I1,r1,q1⟩=>⟨x,σ,H1,I1,r1,q1⟩)
def tIfS (c:TT)(t u:TS):TS:=λD σ H=>c σ H λb H1=>if b=true then t D σ H1 else u D σ H1
theorem xh {c:Expr}{a b:List Stmt}{tc:TT}(hc:PT X c tc)(ha:PSs X a t)(hb:PSs X b u):PS X (.If c a b pos) (tIfS tc t u):=by
 intro pins s σ H D I h
 refine wpAny_If (thn (hc pins s σ H _ I h) λd s1 ⟨H1,I1,q1⟩=>?_)
 cases d with
 |true=>exact ha pins s1 σ H1 D I1 q1
 |false=>exact hb pins s1 σ H1 D I1 q1
end
abbrev TG:=V→St→Hp→(St→Hp→Prop)→Prop
abbrev TGs:=List V→St→Hp→(St→Hp→Prop)→Prop
def PG (X:Cx)(target:Expr)(t:TG):Prop :=
 ∀(pins:List (Aj×Obj)) (s:Ab) (σ:St) (H:Hp) (v:V) (u:Ag) (Q:St→Hp→Prop),Inv X pins σ H s→RelV v u→t v σ H Q →
  wpAny (model X.prog X.w) X.A (assign target X.env u) (λ_ s'=>∃σ' H',Inv X pins σ' H' s'∧Q σ' H') X.xe s
def PGs (X:Cx)(ts:List Expr)(t:TGs):Prop :=
 ∀(pins:List (Aj×Obj)) (s:Ab) (σ:St) (H:Hp) (vs:List V) (us:List Ag) (Q:St→Hp→Prop),Inv X pins σ H s→Vals vs us→t vs σ H Q →
  wpAny (model X.prog X.w) X.A (assignInOrder ((assignEach ts X.env).map (·.2)) us) (λ_ s'=>∃σ' H',Inv X pins σ' H' s'∧Q σ' H') X.xe s
abbrev TSet:=V→V→V→Hp→(Hp→Prop)→Prop
def PSet (X:Cx)(t:TSet):Prop :=
 ∀(pins:List (Aj×Obj)) (s:Ab) (σ:St) (H:Hp) (o i v:V) (ov iv u:Ag) (Q:Hp→Prop),Inv X pins σ H s→RelV o ov→RelV i iv→RelV v u→t o i v H Q →
  wpAny (model X.prog X.w) X.A (setItem ov iv u) (λ_ s'=>∃H',Inv X pins σ H' s'∧Q H') X.xe s
abbrev TIp:=V→V→Hp→VK→Prop
def PIp (X:Cx)(op:Operator)(t:TIp):Prop :=
 ∀(pins:List (Aj×Obj)) (s:Ab) (σ:St) (H:Hp) (x y:V) (v u:Ag) (Q:VK),Inv X pins σ H s→RelV x v→RelV y u→t x y H Q →
  wpAny (model X.prog X.w) X.A (inplaceOp op v u) (EP X pins σ Q) X.xe s
section
variable {X:Cx}{pos:Pos}
def wq6 (i:Nat):TG:=λv σ H Q=>Q (σ.set i (some v)) H
theorem xv {i:Nat}{x:Str}(hN:X.N.Nodup)(hi:X.N[i]?=some x)(hx:Loc X.env.scope x)(hf:X.fn x=true∨X.env.scope.names.lookup x=some .local:=by first | exact .inl rfl | exact .inr rfl | assumption):PG X (.Name x pos) (wq6 i):=by
 intro pins s σ H v u Q I r h
 exact wpAny_assign_Name (j6 I hN hi hx r (λs' I'=>⟨_,H,I',h⟩) hf)
def gNil:TGs:=λvs σ H Q=>vs=[]∧Q σ H
def gCons (t:TG)(u:TGs):TGs:=λvs σ H Q=>∃v r,vs=v::r∧t v σ H λσ' H'=>u r σ' H' Q
theorem zn:PGs X [] gNil:=by
 intro pins s σ H vs us Q I r h
 obtain ⟨e,h⟩:=h
 subst e
 cases r
 exact assignInOrder_nil ⟨σ,H,I,h⟩
theorem xk {e:Expr}{es:List Expr}{t:TG}{u:TGs}(h1:PG X e t)(h2:PGs X es u)
  (hs:(assignEach (e::es) X.env).map (·.2)=assign e X.env::(assignEach es X.env).map (·.2):=by rfl):PGs X (e::es) (gCons t u):=by
 intro pins s σ H vs us Q I r h
 obtain ⟨v,vr,e1,h⟩:=h
 subst e1
 cases r with
 |cons r rr =>
  rw [hs]
  refine dR (thn (h1 pins s σ H _ _ _ I r h) λ_ s1 ⟨σ1,H1,I1,q1⟩=>?_)
  exact h2 pins s1 σ1 H1 _ _ Q I1 rr q1
def gTup (K:Aa)(n:Nat)(t:TGs):TG:=λv σ H Q=>∃a xs,v=.ref a∧SqT K H a xs∧xs.length=n∧t xs σ H Q
theorem v4 {es:List Expr}{k:Nat}{t:TGs}{n:Nat}(hc:X.calm=true)(h:PGs X es t)
  (hn:(assignEach es X.env).length=n:=by rfl) (hst:(assignEach es X.env).findIdx? (·.1)=none:=by rfl):PG X (.Tuple es k pos) (gTup X.K n t):=by
 intro pins s σ H v u Q I r hw
 obtain ⟨a,xs,e1,hq,hl,hw⟩:=hw
 subst e1
 cases r
 obtain ⟨its,rv,ht,hz⟩:=I.tuple hq
 refine assign_Tuple_tuple (I.ok.hd hc) ht (by simp [hn,←hl,rv.length]) hst λh' hx=>?_
 have I1:Inv X pins σ H { s with heap:=h' }:=I.kept (t':=s.toks) λb o e=>hx b o (ax (ak e)) e
 exact h pins _ σ H xs _ Q I1 (by simpa using rv) hw
def gSub (to ti:TE)(t:TSet):TG:=λv σ H Q=>to σ H λo H1=>ti σ H1 λi H2=>t o i v H2 λH3=>Q σ H3
theorem pg_sub {o i:Expr}{to ti:TE}{t:TSet}(ho:PE X o to)(hi:PE X i ti)(hs:PSet X t)
  (ha:∀v,assign (.Subscript o i pos) X.env v=(do
   let ov ←holding [v] (eval o X.env)
   let iv ←holding [v,ov] (eval i X.env)
   standAt pos
   holding [v,ov,iv] (setItem ov iv v)
   release [v,ov,iv] []):=by intro _;rfl):PG X (.Subscript o i pos) (gSub to ti t):=by
 intro pins s σ H v u Q I r h
 rw [ha]
 refine ac (bR (thn (ho pins s σ H _ I h) λov s1 ⟨x,H1,I1,r1,q1⟩=>?_))
 refine ac (bR (thn (hi pins s1 σ H1 _ I1 q1) λiv s2 ⟨y,H2,I2,r2,q2⟩=>?_))
 refine ac (cQ (ac (bR (thn (hs pins s2 σ H2 x y v ov iv u _ I2 r1 r2 r q2) λ_ s3 ⟨H3,I3,q3⟩=>?_))))
 exact wpAny_release ⟨σ,H3,I3,q3⟩
def tAsg (te:TE)(g:TG):TS:=λD σ H=>te σ H λx H1=>g x σ H1 D.nx
theorem ju {tg e:Expr}{te:TE}{g:TG}(he:PE X e te)(hg:PG X tg g)(hs:swapsWithSole [tg] e pos.line X.env=pure false:=by rfl)(hw:swappedStores [tg] e X.env=pure none:=by rfl)
  (h1:(assignEach [tg] X.env).map (·.2)=[assign tg X.env]:=by rfl):PS X (.Assign [tg] e pos) (tAsg te g):=by
 intro pins s σ H D I h
 refine wpAny_Assign_stores (thn (he pins s σ H _ I h) λv s1 ⟨x,H1,I1,r1,q1⟩=>?_) hs hw
 rw [h1]
 exact thn (hg pins s1 σ H1 x v _ I1 r1 q1) λ_ s2 q=>q
theorem wn {i:Nat}{x:Str}{e:Expr}{te:TE}{pos':Pos}(hN:X.N.Nodup)(hi:X.N[i]?=some x)(hx:Loc X.env.scope x)(he:PE X e te)(hs:swapsWith e (some (.Name x pos')) pos.line X.env=pure false:=by rfl)(hf:X.fn x=true∨X.env.scope.names.lookup x=some .local:=by first | exact .inl rfl | exact .inr rfl | assumption) :
  PS X (.Assign [.Name x pos'] e pos) (tAsg te (wq6 i)):=by
 intro pins s σ H D I h
 refine wpAny_Assign_Name (thn (he pins s σ H _ I h) λv s1 ⟨y,H1,I1,r1,q1⟩=>?_) hs
 exact j6 I1 hN hi hx r1 (λs2 I2=>⟨_,H1,I2,q1⟩) hf
def tPar (i j:Nat)(ta:TA):TS:=λD σ H=>ta σ H λvs H1=>∃v w,vs=[v,w]∧D.nx ((σ.set i (some v)).set j (some w)) H1
theorem wws {i j:Nat}{x y:Str}{a b:Expr}{ta:TA}{px py pt:Pos}{kt k2 pt2}(hc:X.calm=true)(hN:X.N.Nodup)(hi:X.N[i]?=some x)(hj:X.N[j]?=some y)(hij:i≠j)
  (hx:X.env.scope.names.lookup x=some .local) (hy:X.env.scope.names.lookup y=some .local) (ha:PA X [a,b] ta)
  (hw:swappedStores [.Tuple [.Name x px,.Name y py] kt pt] (.Tuple [a,b] k2 pt2) X.env=pure (some [x,y]))
  (hs:swapsWithSole [.Tuple [.Name x px,.Name y py] kt pt] (.Tuple [a,b] k2 pt2) pos.line X.env=pure false:=by rfl) :
  PS X (.Assign [.Tuple [.Name x px,.Name y py] kt pt] (.Tuple [a,b] k2 pt2) pos) (tPar i j ta):=by
 intro pins s σ H D I h
 rw [exec_Assign_arm]
 refine ac (cQ ?_)
 rw [hs]
 refine ac (aj ?_)
 rw [ai (by decide)]
 refine ac (Tuple_ (thn (ha _ pins s σ H _ I h) λus s1 ⟨vs,H1,I1,r1,q1⟩=>?_))
 obtain ⟨v,w,e1,q1⟩:=q1
 subst e1
 obtain ⟨u1,u2,rfl,rv,rw'⟩:∃u1 u2,us=[u1,u2]∧RelV v u1∧RelV w u2:=by
  cases r1 with
  |cons p q =>
   cases q with
   |cons p' q' =>
    cases q'
    exact ⟨_,_,rfl,p,p'⟩
 refine bG ?_ (by show 2≤sizeLine;decide)
 have I2:Inv X pins σ H1 { s1 with heap:=s1.heap.push { cls:=.type "tuple",data:=.seq [u1,u2].toArray } }:=I1.kept (t':=s1.toks) λb o e=>af _ e
 rw [hw]
 refine ac (aj ?_)
 show wpAny (model X.prog X.w) X.A (do rule "assign.swapped-stores";let items ←unpackItems (.ref s1.heap.objs.size) 2 none;assignInOrder [λv=>bindName X.env y v,λv=>bindName X.env x v] items.reverse;pure Flow.next) _ _ _
 refine ac (wpAny_rule (ac (unpackItems_tuple (items:=#[u1,u2]) (I.ok.hd hc) (IsTup.new s1.heap _) λh' hx'=>?_)))
 have I3:=I2.kept (h':=h') (t':=s1.toks) λb o e=>hx' b o (ax (ak e)) e
 show wpAny _ _ (assignInOrder [λv=>bindName X.env y v,λv=>bindName X.env x v] [u2,u1] >>= λ_=>pure Flow.next) _ _ _
 refine ac (dR (wpAny_bindName (j6 I3 hN hj (.inl hy) rw' (λs2 I4=>?_) (.inr hy))))
 refine dR (wpAny_bindName (j6 I4 hN hi (.inl hx) rv (λs3 I5=>assignInOrder_nil (aj ?_)) (.inr hx)))
 rw [List.set_comm _ _ (aU hij)] at I5
 exact ⟨_,H1,I5,q1⟩
def tAug (i:Nat)(te:TE)(ti:TIp):TS:=λD σ H=>∃x,σ[i]?=some (some x)∧te σ H λy H1=>ti x y H1 λz H2=>D.nx (σ.set i (some z)) H2
theorem qv2 {i:Nat}{x:Str}{e:Expr}{te:TE}{op:Operator}{ti:TIp}{pos':Pos}(hN:X.N.Nodup)(hi:X.N[i]?=some x)(hx:Loc X.env.scope x)(he:PE X e te)(ho:PIp X op ti)(hf:X.fn x=true∨X.env.scope.names.lookup x=some .local:=by first | exact .inl rfl | exact .inr rfl | assumption) :
  PS X (.AugAssign (.Name x pos') op e pos) (tAug i te ti):=by
 intro pins s σ H D I h
 obtain ⟨v,e1,h⟩:=h
 obtain ⟨m,hn,hl⟩:=I.loc
 have vis:Vis X.env.scope x:=by rcases hx with k|k;exact .inl k;exact .inr (.inl k)
 obtain ⟨u,r,l⟩:=hl i x v hi e1 vis
 refine wpAny_AugAssign_Name ?_
 have go:wpAny (model X.prog X.w) X.A (eval e X.env) (λw s₂=>wpAny (model X.prog X.w) X.A (inplaceOp op u w) (λr s₃=>wpAny (model X.prog X.w) X.A (storeName X.env x r) (λ_=>SP X pins D .next) X.xe s₃) X.xe s₂) X.xe s:=by
  refine thn (he pins s σ H _ I h) λw s1 ⟨y,H1,I1,r1,q1⟩=>?_
  refine thn (ho pins s1 σ H1 v y u w _ I1 r r1 q1) λz s2 ⟨zv,H2,I2,r2,q2⟩=>?_
  exact j6 I2 hN hi hx r2 (λs3 I3=>⟨_,H2,I3,q2⟩) hf
 rcases l with ⟨hk,hm⟩|⟨hk,c,hc,hcell⟩
 ·exact wpAny_loadName_local I.ok.kind hk hn hm go
 ·rcases hk with hk|hk
  ·exact wpAny_loadName_cell I.ok.kind hk hc hcell go
  ·rcases hx with k|k
   ·have:X.env.scope.names.lookup x=some .free:=hk
    rw [k] at this;cases this
   ·have:X.env.scope.names.lookup x=some .free:=hk
    rw [k] at this;cases this
def ipI (f:Int→Int→Int):TIp:=λx y H Q=>∃i j,x=.int i∧y=.int j∧Q (.int (f i j)) H
theorem qkq:PIp X .Add (ipI λi j=>i+j):=by
 intro pins s σ H x y v u Q I r1 r2 h
 obtain ⟨i,j,e1,e2,q⟩:=h
 subst e1;subst e2
 obtain ⟨t,rfl⟩:=r1
 obtain ⟨t',rfl⟩:=r2
 exact iadd_int ⟨.int _,H,I.tok _,⟨_,rfl⟩,q⟩
end
section
variable {X:Cx}{pos:Pos}
def qkr (c:TT)(tb:TS):TS:=λD σ H=>∃W:Nat→St→Hp→Prop,(∃m,W m σ H)∧∀m σ H,W m σ H →
 c σ H λb H1=>if b=true then ∃N:St→Hp→Prop,(∀σ' H',N σ' H'→∃m',m'<m∧W m' σ' H')∧tb { D with nx:=N,ct:=N,bk:=D.nx } σ H1 else D.nx σ H1
theorem Qs {c:Expr}{body:List Stmt}{tc:TT}{tb:TS}(hp:PassesOwn (model X.prog X.w) X.A X.env X.xe)(hc:PT X c tc)(hb:PSs X body tb):PS X (.While c body [] pos) (qkr tc tb):=by
 intro pins s σ H D I h
 obtain ⟨W,⟨m0,w0⟩,turn⟩:=h
 refine wpAny_While (codeAny_whileLoop (λn s'=>∃σ' H',Inv X pins σ' H' s'∧W n σ' H') ?_ m0 ⟨σ,H,I,w0⟩)
 rintro n s1 ⟨σ1,H1,I1,w1⟩
 refine ca hp (thn (hc pins s1 σ1 H1 _ I1 (turn n σ1 H1 w1)) λb s2 ⟨H2,I2,q2⟩=>?_)
 cases b with
 |true =>
  obtain ⟨N,hN,q2⟩:=q2
  rw [al rfl]
  refine ca hp (thn (hb pins s2 σ1 H2 _ I2 q2) λf s3 q3=>?_)
  cases f with
  |next =>
   obtain ⟨σ3,H3,I3,n3⟩:=q3
   obtain ⟨m',hm,w3⟩:=hN σ3 H3 n3
   exact ⟨m',hm,σ3,H3,I3,w3⟩
  |cont =>
   obtain ⟨σ3,H3,I3,n3⟩:=q3
   obtain ⟨m',hm,w3⟩:=hN σ3 H3 n3
   exact ⟨m',hm,σ3,H3,I3,w3⟩
  |brk=>exact q3
  |ret v=>exact q3
 |false =>
  rw [ai aA]
  exact cS ⟨σ1,H2,I2,q2⟩
end
structure It where
 go:Nat→Hp→Prop
 yld:Nat→Hp→V→Hp→Prop
 stop:Nat→Hp→Prop
def jj (X:Cx)(pins:List (Aj×Obj))(H:Hp)(b:Aj):Prop :=
 H b=none∧b≠X.env.locals∧b∉X.fs∧(b∈X.ex∨X.s₀.heap.objs.size≤b)∧(∀x c,X.env.cells.lookup x=some c→c≠b)∧∀p∈X.pn++pins,p.1≠b
theorem Inv.fpOk {X:Cx}{pins:List (Aj×Obj)}{σ:St}{H H':Hp}{s:Ab}{b:Aj}(I:Inv X pins σ H s)(hb:s.heap.objs.size≤b)(hn:H' b=none):jj X pins H' b:=by
 refine ⟨hn,dL (aD I.lt hb),I.nofs hb,.inr (bB I.sz hb),λx c e z=>?_,λp hp z=>?_⟩
 ·obtain ⟨v,q⟩:=I.cell x c e
  exact absurd (aD q.lt (by rw [z];exact hb)) (aV _)
 ·exact absurd (aD (ak (I.pin p hp).1) (by rw [z];exact hb)) (aV _)
structure Turn (P:Ac)(w:Ah)(K:Aa)(tg:Expr)(J:It)(fp:List Aj)(it:Aj)(tn:Nat→Heap→Prop):Prop where
 mem:it∈fp
 obj:∀i h,tn i h→∀b∈fp,∃o,h.get? b=some o∧∀v,o.data≠.cell v
 keep:∀i h h',tn i h→(∀b∈fp,∀o,h.get? b=some o→h'.get? b=some o)→tn i h'
 item:∀(X:Cx),X.prog=P→X.w=w→X.K=K→X.calm=true→∀(i:Nat) (pins:List (Aj×Obj)) (s:Ab) (σ:St) (H:Hp) (E:Ag→Ab→Prop),Inv X pins σ H s→(∀b∈fp,jj X pins H b)→tn i s.heap→J.go i H →
  wpAny (model P w) X.A (pyNext (.ref it)) (λr s1=>∃u,r=some u ∧
   wpAny (model P w) X.A (letOwnedTupleGo tg (.ref it) u) (λ_ s2=>∃x H',Inv X pins σ H' s2∧RelV x u∧J.yld i H x H'∧tn (i+1) s2.heap∧∀b∈fp,H' b=none) E s1) E s
 done:∀(X:Cx),X.prog=P→X.w=w→X.K=K→X.calm=true→∀(i:Nat) (pins:List (Aj×Obj)) (s:Ab) (σ:St) (H:Hp) (E:Ag→Ab→Prop),Inv X pins σ H s→(∀b∈fp,jj X pins H b)→tn i s.heap→J.stop i H →
  wpAny (model P w) X.A (pyNext (.ref it)) (λr s1=>r=none∧Inv X pins σ H s1) E s
 self:∀(A:Ae) (i:Nat) (s:Ab) (Q:Ag→Ab→Prop) (E:Ag→Ab→Prop),tn i s.heap→Q (.ref it) s→wpAny (model P w) A (pyIter (.ref it)) Q E s
abbrev TI:=St→Hp→(It→Hp→Prop)→Prop
def PIE (X:Cx)(pins:List (Aj×Obj))(σ:St)(tg:Expr)(R:It→Hp→Prop)(itv:Ag)(s2:Ab):Prop :=
 ∃(it:Aj) (fp:List Aj) (tn:Nat→Heap→Prop) (J:It) (H':Hp),itv=.ref it∧Inv X pins σ H' s2∧Turn X.prog X.w X.K tg J fp it tn∧tn 0 s2.heap∧(∀b∈fp,jj X pins H' b)∧R J H'
def PI (X:Cx)(tg iter:Expr)(wi:TI):Prop :=
 ∀(pins:List (Aj×Obj)) (s:Ab) (σ:St) (H:Hp) (R:It→Hp→Prop),Inv X pins σ H s→wi σ H R →
  wpAny (model X.prog X.w) X.A (eval iter X.env) (λv s1=>wpAny (model X.prog X.w) X.A (pyIter v) (PIE X pins σ tg R) X.xe s1) X.xe s
theorem qzw {M:Model}{A:Ae}{E:Ag→Ab→Prop}{s:Ab}{tg:Expr}{it:Aj}{u:Ag}{o:Obj}{n:String}{vs:Array Ag}{Q:Unit→Ab→Prop}(ho:s.heap.get? it=some o)(hc:o.cls=.type n)(hd:o.data=.fields vs)
  (hn:["enumerate","zip","dict_itemiterator","dict_reverseitemiterator","odict_iterator","itertools.zip_longest","itertools.pairwise"].contains n=false) (hQ:Q () s):wpAny M A (letOwnedTupleGo tg (.ref it) u) Q E s:=by
 unfold letOwnedTupleGo
 cases tg <;> first
  |exact aj hQ
  |(cases u <;> first
    |exact aj hQ
    |(refine ac (wpAny_load ho ?_)
      rw [hc,hd]
      show wpAny M A (if (["enumerate","zip","dict_itemiterator","dict_reverseitemiterator","odict_iterator","itertools.zip_longest","itertools.pairwise"].contains n&&vs[0]?==some (rawInt _))=true then _ else _) Q E s
      rw [ai (by intro h;rw [hn,Bool.false_and] at h;cases h)]
      exact aj hQ))
def Itl (K:Aa)(a:Aj):It :=
 ⟨λi H=>∃xs x,SqL K H a xs∧xs[i]?=some x,λi H x H'=>H'=H∧∀xs,SqL K H a xs→xs[i]?=some x,λi H=>∃xs,SqL K H a xs∧xs.length≤i⟩
def Itr (lo:Int)(n:Nat):It:=⟨λi _=>i<n,λi H x H'=>H'=H∧x=.int (lo+i),λi _=>n≤i⟩
theorem qy4 {P:Ac}{w:Ah}{K:Aa}{tg:Expr}(a it:Aj):Turn P w K tg (Itl K a) [it] it (λi h=>h.IsListIter it a i) where
 mem:=by simp
 obj:=λi h st b hb=>by
  have e:b=it:=by simpa using hb
  subst e
  obtain ⟨o,e,c,d⟩:=st
  exact ⟨o,e,λv z=>by rw [d] at z;cases z⟩
 keep:=λi h h' st k=>st.at λo e=>k it (by simp) o e
 item:=by
  intro X hP hw hK hc i pins s σ H E I hf st hg
  subst hP hw hK
  obtain ⟨xs,x,hq,hx⟩:=hg
  obtain ⟨its,rv,p,hz⟩:=I.list hq
  obtain ⟨u,hu,ru⟩:=rv.get hx
  obtain ⟨f0,f1,f2,f3,f4,f5⟩:=hf it (by simp)
  refine wpAny_pyNext_list_item st p.isList (x:=u) (by simpa using hu) λh' st' sb=>?_
  have I1:Inv X pins σ H { s with heap:=h' }:=I.turned (t':=s.toks) (λb o hb e=>(sb.2 b hb).trans e) f0 f1 f3 f4 f5
  obtain ⟨o,e,c,d⟩:=id st'
  exact ⟨u,rfl,qzw (s:={ s with heap:=h' }) e c d (by decide) ⟨x,H,I1,ru,⟨rfl,λys hy=>by rw [I.list_inj hy hq];exact hx⟩,st',λb hb=>(hf b hb).1⟩⟩
 done:=by
  intro X hP hw hK hc i pins s σ H E I hf st hg
  subst hP hw hK
  obtain ⟨xs,hq,hx⟩:=hg
  obtain ⟨its,rv,p,hz⟩:=I.list hq
  obtain ⟨f0,f1,f2,f3,f4,f5⟩:=hf it (by simp)
  have hl:=rv.length
  exact wpAny_pyNext_list_end (I.ok.hd hc) st p.isList (by simp;lia) λh' eb=>⟨rfl,I.turned (t':=s.toks) (λb o hb e=>eb b o hb e) f0 f1 f3 f4 f5⟩
 self:=λ_ _ _ _ _ st h=>wpAny_pyIter_listiter st h
theorem qkn {P:Ac}{w:Ah}{K:Aa}{tg:Expr}(it:Aj)(lo:Int)(n:Nat):Turn P w K tg (Itr lo n) [it] it (λi h=>IsRangeIter h it (lo+(i:Nat)*1) ((n:Int)-(i:Nat)) 1) where
 mem:=by simp
 obj:=λi h st b hb=>by
  have e:b=it:=by simpa using hb
  subst e
  exact ⟨_,st,λv z=>by
   have z':Data.fields _=Data.cell v:=z
   cases z'⟩
 keep:=λi h h' st k=>k it (by simp) _ st
 item:=by
  intro X hP hw hK hc i pins s σ H E I hf st hg
  subst hP hw hK
  obtain ⟨f0,f1,f2,f3,f4,f5⟩:=hf it (by simp)
  have W:=Walks.range (prog:=X.prog) (w:=X.w) (I.ok.hd hc) it lo 1 n
  refine W.item i s _ _ hg st λv h' tk hv st' kk=>?_
  obtain ⟨t,rfl⟩:=hv
  have I1:Inv X pins σ H { s with heap:=h',toks:=tk }:=I.turned (λb o hb e=>kk b o (by simpa using hb) e) f0 f1 f3 f4 f5
  refine ⟨_,rfl,qzw (s:={ s with heap:=h',toks:=tk }) (n := "range_iterator") st' rfl rfl (by decide) ⟨.int (lo+i),H,I1,⟨t,?_⟩,⟨rfl,rfl⟩,st',λb hb=>(hf b hb).1⟩⟩
  rw [Int.mul_one]
 done:=by
  intro X hP hw hK hc i pins s σ H E I hf st hg
  subst hP hw hK
  obtain ⟨f0,f1,f2,f3,f4,f5⟩:=hf it (by simp)
  exact wpAny_pyNext_range_end (I.ok.hd hc) st (by have:n≤i:=hg;lia) λh' eb=>⟨rfl,I.turned (t':=s.toks) (λb o hb e=>eb b o hb e) f0 f1 f3 f4 f5⟩
 self:=λ_ _ _ _ _ st h=>wpAny_pyIter_rangeiter st h
section
variable {X:Cx}{tg:Expr}
def iList (K:Aa)(tl:TE):TI:=λσ H R=>tl σ H λx H1=>∃a,x=.ref a∧(∃xs,SqL K H1 a xs)∧R (Itl K a) H1
theorem Qm {l:Expr}{tl:TE}(hl:PE X l tl):PI X tg l (iList X.K tl):=by
 intro pins s σ H R I h
 refine thn (hl pins s σ H _ I h) λv s1 ⟨x,H1,I1,r1,q1⟩=>?_
 obtain ⟨a,e,⟨xs,hq⟩,q⟩:=q1
 subst e
 cases r1
 obtain ⟨its,rv,p,hz⟩:=I1.list hq
 refine d8 p.isList ?_
 refine ⟨s1.heap.objs.size,[s1.heap.objs.size],_,_,H1,rfl,I1.kept (t':=s1.toks) λb o e=>af _ e,qy4 a _,⟨_,ar _ rfl,rfl,rfl⟩,λb hb=>?_,q⟩
 have e:b=s1.heap.objs.size:=by simpa using hb
 subst e
 exact I1.fpOk (ah _) (I1.hok.fresh (ah _))
theorem qx7 {pins:List (Aj×Obj)}{σ:St}{H:Hp}{s:Ab}{R:It→Hp→Prop}{E:Ag→Ab→Prop}{lo hi:Int}{t u v:Tok}{tk:Nat}(I:Inv X pins σ H s)(h1:-(2 ^ 62)≤lo)(h2:lo<2 ^ 62)(h3:-(2 ^ 62)≤hi)(h4:hi<2 ^ 62)
  (q:R (Itr lo (hi-lo).toNat) H):wpAny (model X.prog X.w) X.A (pyIter (.ref s.heap.objs.size)) (PIE X pins σ tg R) E { s with heap:=s.heap.push { cls:=.type "range",data:=.fields #[.int lo t,.int hi u,.int 1 v] },toks:=tk }:=by
 refine wpAny_pyIter_range (IsRange.new ..) (small_one h1 h2 h3 h4) ?_
 have I1:Inv X pins σ H { s with heap:=s.heap.push { cls:=.type "range",data:=.fields #[.int lo t,.int hi u,.int 1 v] },toks:=tk }:=I.kept λb o e=>af _ e
 refine ⟨(s.heap.push { cls:=.type "range",data:=.fields #[.int lo t,.int hi u,.int 1 v] }).objs.size,[(s.heap.push { cls:=.type "range",data:=.fields #[.int lo t,.int hi u,.int 1 v] }).objs.size],_,_,H,rfl,
  I1.kept (t':=tk) λb o e=>af _ e,qkn _ lo (hi-lo).toNat,?_,λb hb=>?_,q⟩
 ·have e1:lo+((0:Nat):Int)*1=lo:=by simp
  have e2:(((hi-lo).toNat:Nat):Int)-((0:Nat):Int)=Builtin.Range.rangeSize lo hi 1:=by rw [rangeSize_one];split <;> lia
  show IsRangeIter _ _ (lo+((0:Nat):Int)*1) ((((hi-lo).toNat:Nat):Int)-((0:Nat):Int)) 1
  rw [e1,e2]
  exact ar _ rfl
 ·have e:b=(s.heap.push { cls:=.type "range",data:=.fields #[.int lo t,.int hi u,.int 1 v] }).objs.size:=by simpa using hb
  subst e
  exact I1.fpOk (ah _) (I1.hok.fresh (ah _))
def iRng1 (ta:TA):TI:=λσ H R=>ta σ H λvs H1=>∃j:Int,vs=[.int j]∧-(2 ^ 62)≤j∧j<2 ^ 62∧R (Itr 0 j.toNat) H1
def iRng2 (ta:TA):TI:=λσ H R=>ta σ H λvs H1=>∃i j:Int,vs=[.int i,.int j]∧(-(2 ^ 62)≤i∧i<2 ^ 62∧-(2 ^ 62)≤j∧j<2 ^ 62)∧R (Itr i (j-i).toNat) H1
theorem vw {a:Expr}{ta:TA}{p pos:Pos}(hg:Gl X "range")(hm:X.mg "range" = none)(ha:PA X [a] ta)(hs:starEach [a] X.env=[(false,eval a X.env)]:=by rfl):PI X tg (.Call (.Name "range" p) [a] [] pos) (iRng1 ta):=by
 intro pins s σ H R I h
 refine Call_ (Wc I hg hm boot_range (bM (thn (ha pos pins s σ H _ I h) λus s1 ⟨vs,H1,I1,r1,q1⟩=>?_) hs rfl))
 obtain ⟨j,e,q1,q2,q⟩:=q1
 subst e
 cases r1 with
 |cons r rr =>
  cases rr
  obtain ⟨t,rfl⟩:=r
  exact call_range_1 (qx7 I1 (by lia) (by lia) q1 q2 (by simpa using q))
theorem quu {a b:Expr}{ta:TA}{p pos:Pos}(hg:Gl X "range")(hm:X.mg "range" = none)(ha:PA X [a,b] ta)(hs:starEach [a,b] X.env=[(false,eval a X.env),(false,eval b X.env)]:=by rfl)(hs2:starEach [b] X.env=[(false,eval b X.env)]:=by rfl) :
  PI X tg (.Call (.Name "range" p) [a,b] [] pos) (iRng2 ta):=by
 intro pins s σ H R I h
 refine Call_ (Wc I hg hm boot_range (bM (thn (ha pos pins s σ H _ I h) λus s1 ⟨vs,H1,I1,r1,q1⟩=>?_) (by rw [hs,hs2]) (by rw [hs2];rfl)))
 obtain ⟨i,j,e,⟨q1,q2,q3,q4⟩,q⟩:=q1
 subst e
 cases r1 with
 |cons r rr =>
  cases rr with
  |cons r' rr =>
   cases rr
   obtain ⟨t,rfl⟩:=r
   obtain ⟨t',rfl⟩:=r'
   exact call_range_2 (qx7 I1 q1 q2 q3 q4 q)
def tFor (wi:TI)(g:TG)(tb:TS):TS:=λD σ H=>wi σ H λJ H1=>∃W:Nat→Nat→St→Hp→Prop,(∃m,W 0 m σ H1)∧∀i m σ H,W i m σ H →
 (J.stop i H∧D.nx σ H)∨(J.go i H∧∃N:St→Hp→Prop,(∀σ' H',N σ' H'→∃m',m'<m∧W (i+1) m' σ' H')∧∀x H',J.yld i H x H'→g x σ H' λσ2 H2=>tb { D with nx:=N,ct:=N,bk:=D.nx } σ2 H2)
def qwm (fp:List Aj)(h:Heap):List (Aj×Obj):=fp.filterMap λb=>(h.get? b).map λo=>(b,o)
theorem kh {fp:List Aj}{h:Heap}{b:Aj}{o:Obj}(hb:b∈fp)(e:h.get? b=some o):(b,o)∈qwm fp h:=dS.mpr ⟨b,hb,by rw [e];rfl⟩
theorem qub {fp:List Aj}{h:Heap}{p:Aj×Obj}(hp:p∈qwm fp h):p.1∈fp∧h.get? p.1=some p.2:=by
 obtain ⟨b,hb,e⟩:=dS.mp hp
 cases q:h.get? b with
 |none=>rw [q] at e;cases e
 |some o =>
  rw [q] at e
  have e':(b,o)=p:=aw e
  subst e'
  exact ⟨hb,q⟩
theorem Inv.pinned {pins:List (Aj×Obj)}{σ:St}{H:Hp}{s:Ab}{fp:List Aj}(I:Inv X pins σ H s)(hf:∀b∈fp,jj X pins H b)(ho:∀b∈fp,∃o,s.heap.get? b=some o∧∀v,o.data≠.cell v):Inv X (pins++qwm fp s.heap) σ H s :=
 I.pins_of λp hp=>(aZ.mp hp).elim (λz=>I.pin p (aB _ z)) λz=>by
  obtain ⟨hb,e⟩:=qub z
  obtain ⟨f0,f1,f2,_⟩:=hf p.1 hb
  obtain ⟨o,e',d⟩:=ho p.1 hb
  rw [e] at e';cases e'
  exact ⟨e,f0,f1,f2,d⟩
theorem Inv.unpinned {pins pl:List (Aj×Obj)}{σ:St}{H:Hp}{s:Ab}(I:Inv X (pins++pl) σ H s):Inv X pins σ H s:=I.pins_of λp hp=>I.pin p (aB _ (cG _ hp))
theorem yh {iter:Expr}{body:List Stmt}{wi:TI}{g:TG}{tb:TS}{pos:Pos}(hp:PassesOwn (model X.prog X.w) X.A X.env X.xe)(hc:X.calm=true)(hi:PI X tg iter wi)(hg:PG X tg g)(hb:PSs X body tb)
  (hs:∀x,foldedSetIterable iter X.env x=pure x:=by intro _;rfl):PS X (.For tg iter body [] pos) (tFor wi g tb):=by
 intro pins s σ H D I h
 refine wpAny_For (thn (hi pins s σ H _ I h) λv s1 h1=>thn h1 λitv s2 h2=>?_) hs
 obtain ⟨it,fp,tn,J,H2,e,I2,T,st2,f2,W,⟨m0,w0⟩,turn⟩:=h2
 subst e
 have stat:∀ {H':Hp},(∀b∈fp,H' b=none)→∀b∈fp,jj X pins H' b:=λhn b hb=>⟨hn b hb,(f2 b hb).2⟩
 refine codeAny_forLoop_any (λn s'=>∃i σ' H',Inv X pins σ' H' s'∧tn i s'.heap∧(∀b∈fp,H' b=none)∧W i n σ' H') ?_ m0 ⟨0,σ,H2,I2,st2,λb hb=>(f2 b hb).1,w0⟩
 rintro n s3 ⟨i,σ3,H3,I3,st3,fr3,w3⟩
 rcases turn i n σ3 H3 w3 with ⟨stop,qn⟩|⟨go,N,hN,step⟩
 ·refine ca hp (thn (T.done X rfl rfl rfl hc i pins s3 σ3 H3 X.xe I3 (stat fr3) st3 stop) λr s4 ⟨hr,I4⟩=>?_)
  subst hr
  exact cS ⟨σ3,H3,I4,qn⟩
 ·refine ca hp (thn (T.item X rfl rfl rfl hc i pins s3 σ3 H3 X.xe I3 (stat fr3) st3 go) λr s4 ⟨u,hr,h4⟩=>?_)
  subst hr
  refine ca hp (thn h4 λ_ s5 ⟨x,H5,I5,r5,y5,st5,fr5⟩=>?_)
  have I5':=I5.pinned (stat fr5) (T.obj _ _ st5)
  refine ca hp (thn (hg _ s5 σ3 H5 x u _ I5' r5 (step x H5 y5)) λ_ s6 ⟨σ6,H6,I6,q6⟩=>?_)
  refine ca hp (thn (hb _ s6 σ6 H6 _ I6 q6) λf s7 q7=>?_)
  have again:∀ {σ7:St} {H7:Hp},Inv X (pins++qwm fp s5.heap) σ7 H7 s7→N σ7 H7→∃m,m<n∧∃i σ' H',Inv X pins σ' H' s7∧tn i s7.heap∧(∀b∈fp,H' b=none)∧W i m σ' H':=λ{σ7 H7} I7 n7=>by
   obtain ⟨m',hm,w7⟩:=hN σ7 H7 n7
   refine ⟨m',hm,i+1,σ7,H7,I7.unpinned,T.keep _ _ _ st5 λb hb o e=>(I7.pin (b,o) (aB _ (aB _ (kh hb e)))).1,λb hb=>?_,w7⟩
   obtain ⟨o,e,d⟩:=T.obj _ _ st5 b hb
   exact (I7.pin (b,o) (aB _ (aB _ (kh hb e)))).2.1
  cases f with
  |next=>obtain ⟨σ7,H7,I7,n7⟩:=q7;exact again I7 n7
  |cont=>obtain ⟨σ7,H7,I7,n7⟩:=q7;exact again I7 n7
  |brk=>obtain ⟨σ7,H7,I7,q7⟩:=q7;exact ⟨σ7,H7,I7.unpinned,q7⟩
  |ret v=>obtain ⟨x7,σ7,H7,I7,r7,q7⟩:=q7;exact ⟨x7,σ7,H7,I7.unpinned,r7,q7⟩
end
theorem ww0 {K:Aa}{a:Aj}{xs:List V}{g:TG}{tb:TS}{D:Ends}{σ:St}{H:Hp}(Pv:Nat→St→Hp→Prop)(h0:Pv 0 σ H)(hl:∀i σ H,i≤xs.length→Pv i σ H→SqL K H a xs)
  (hs:∀i x σ H,xs[i]?=some x→Pv i σ H→g x σ H λσ2 H2=>tb { D with nx:=Pv (i+1),ct:=Pv (i+1),bk:=D.nx } σ2 H2) (hd:∀σ H,Pv xs.length σ H→D.nx σ H) :
  ∃W:Nat→Nat→St→Hp→Prop,(∃m,W 0 m σ H)∧∀i m σ H,W i m σ H →
   ((Itl K a).stop i H∧D.nx σ H)∨((Itl K a).go i H∧∃N:St→Hp→Prop,(∀σ' H',N σ' H'→∃m',m'<m∧W (i+1) m' σ' H')∧∀x H',(Itl K a).yld i H x H'→g x σ H' λσ2 H2=>tb { D with nx:=N,ct:=N,bk:=D.nx } σ2 H2):=by
 refine ⟨λi m σ H=>m=xs.length-i∧i≤xs.length∧Pv i σ H,⟨xs.length,by simp,aE _,h0⟩,?_⟩
 rintro i m σ H ⟨rfl,hi,p⟩
 have q:=hl i σ H hi p
 by_cases hlt:i<xs.length
 ·refine .inr ⟨⟨xs,xs[i],q,by simp [hlt]⟩,Pv (i+1),λσ' H' p'=>⟨xs.length-(i+1),by lia,rfl,hlt,p'⟩,λx H' y=>?_⟩
  obtain ⟨e,y⟩:=y
  subst e
  exact hs i x σ _ (y xs q) p
 ·have e:i=xs.length:=by lia
  subst e
  exact .inl ⟨⟨xs,q,ah _⟩,hd σ H p⟩
theorem js {lo:Int}{n:Nat}{g:TG}{tb:TS}{D:Ends}{σ:St}{H:Hp}(Pv:Nat→St→Hp→Prop)(h0:Pv 0 σ H)
  (hs:∀i σ H,i<n→Pv i σ H→g (.int (lo+i)) σ H λσ2 H2=>tb { D with nx:=Pv (i+1),ct:=Pv (i+1),bk:=D.nx } σ2 H2) (hd:∀σ H,Pv n σ H→D.nx σ H) :
  ∃W:Nat→Nat→St→Hp→Prop,(∃m,W 0 m σ H)∧∀i m σ H,W i m σ H →
   ((Itr lo n).stop i H∧D.nx σ H)∨((Itr lo n).go i H∧∃N:St→Hp→Prop,(∀σ' H',N σ' H'→∃m',m'<m∧W (i+1) m' σ' H')∧∀x H',(Itr lo n).yld i H x H'→g x σ H' λσ2 H2=>tb { D with nx:=N,ct:=N,bk:=D.nx } σ2 H2):=by
 refine ⟨λi m σ H=>m=n-i∧i≤n∧Pv i σ H,⟨n,by simp,aE _,h0⟩,?_⟩
 rintro i m σ H ⟨rfl,hi,p⟩
 by_cases hlt:i<n
 ·refine .inr ⟨hlt,Pv (i+1),λσ' H' p'=>⟨n-(i+1),by lia,rfl,hlt,p'⟩,λx H' y=>?_⟩
  obtain ⟨e,y⟩:=y
  subst e y
  exact hs i σ _ hlt p
 ·have e:i=n:=by lia
  subst e
  exact .inl ⟨ah _,hd σ H p⟩
theorem Yj {c:TT}{tb:TS}{D:Ends}{σ:St}{H:Hp}(Pv:St→Hp→Prop)(μ:St→Hp→Nat)(h0:Pv σ H)
  (hs:∀σ H,Pv σ H→c σ H λb H1=>if b=true then tb { D with nx:=λσ' H'=>Pv σ' H'∧μ σ' H'<μ σ H,ct:=λσ' H'=>Pv σ' H'∧μ σ' H'<μ σ H,bk:=D.nx } σ H1 else D.nx σ H1)
  (mono:∀σ H Q Q',(∀b H1,Q b H1→Q' b H1)→c σ H Q→c σ H Q'):qkr c tb D σ H:=by
 refine ⟨λm σ H=>m=μ σ H∧Pv σ H,⟨_,rfl,h0⟩,?_⟩
 rintro m σ H ⟨rfl,p⟩
 refine mono σ H _ _ (λb H1 q=>?_) (hs σ H p)
 cases b with
 |true=>exact ⟨_,λσ' H' ⟨p',l⟩=>⟨_,l,rfl,p'⟩,q⟩
 |false=>exact q
abbrev R2:=V→V→Hp→VK→Prop
def OpR (X:Cx)(f:Ag→Ag→Sem Ag)(r:R2):Prop :=
 ∀(pins:List (Aj×Obj)) (s:Ab) (σ:St) (H:Hp) (x y:V) (v u:Ag) (Q:VK),Inv X pins σ H s→RelV x v→RelV y u→r x y H Q →
  wpAny (model X.prog X.w) X.A (f v u) (EP X pins σ Q) X.xe s
def UnR (X:Cx)(f:Ag→Sem Ag)(r:V→Hp→VK→Prop):Prop :=
 ∀(pins:List (Aj×Obj)) (s:Ab) (σ:St) (H:Hp) (x:V) (v:Ag) (Q:VK),Inv X pins σ H s→RelV x v→r x H Q →
  wpAny (model X.prog X.w) X.A (f v) (EP X pins σ Q) X.xe s
def kj (X:Cx)(f:Ag)(r:List V→Hp→VK→Prop):Prop :=
 ∀(pins:List (Aj×Obj)) (s:Ab) (σ:St) (H:Hp) (xs:List V) (us:List Ag) (Q:VK),Inv X pins σ H s→Vals xs us→r xs H Q →
  wpAny (model X.prog X.w) X.A (call f us) (EP X pins σ Q) X.xe s
def tOp (r:R2)(ta tb:TE):TE:=λσ H Q=>ta σ H λx H1=>tb σ H1 λy H2=>r x y H2 Q
def tUn (r:V→Hp→VK→Prop)(ta:TE):TE:=λσ H Q=>ta σ H λx H1=>r x H1 Q
def rI (C:Int→Int→Prop)(g:Int→Int→V):R2:=λx y H Q=>∃i j,x=.int i∧y=.int j∧C i j∧Q (g i j) H
def rI0 (g:Int→Int→V):R2:=λx y H Q=>∃i j,x=.int i∧y=.int j∧Q (g i j) H
def rU (g:Int→V):V→Hp→VK→Prop:=λx H Q=>∃i,x=.int i∧Q (g i) H
section
variable {X:Cx}{a b c:Expr}{ta tb tc:TE}{pos:Pos}
theorem binT (ha:PE X a ta)(hb:PE X b tb){pins:List (Aj×Obj)}{s:Ab}{σ:St}{H:Hp}{R:V→V→Hp→Prop}(I:Inv X pins σ H s)
  (h:ta σ H λx H1=>tb σ H1 λy H2=>R x y H2) {Q:Ag→Ab→Prop} {f:Ag→Ag→Sem Ag}
  (hf:∀v u s2 x y H2,Inv X pins σ H2 s2→RelV x v→RelV y u→R x y H2→wpAny (model X.prog X.w) X.A (f v u) Q X.xe s2) :
  wpAny (model X.prog X.w) X.A (eval a X.env) (λv s₁=>wpAny (model X.prog X.w) X.A (eval b X.env) (λu s₂=>wpAny (model X.prog X.w) X.A (f v u) Q X.xe s₂) X.xe s₁) X.xe s:=by
 refine thn (ha pins s σ H _ I h) λv s1 ⟨x,H1,I1,r1,q1⟩=>?_
 refine thn (hb pins s1 σ H1 _ I1 q1) λu s2 ⟨y,H2,I2,r2,q2⟩=>?_
 exact hf v u s2 x y H2 I2 r1 r2 q2
theorem wy {op:Operator}{r:R2}(ho:OpR X (binaryOp op) r)(ha:PE X a ta)(hb:PE X b tb):PE X (.BinOp a op b pos) (tOp r ta tb):=by
 intro pins s σ H Q I h
 exact wpAny_BinOp (binT ha hb I h λv u s2 x y H2 I2 rx ry q=>ho pins s2 σ H2 x y v u Q I2 rx ry q)
theorem qz3 {op:UnaryOp}{r:V→Hp→VK→Prop}(ho:UnR X (unaryOp op) r)(ha:PE X a ta):PE X (.UnaryOp op a pos) (tUn r ta):=by
 intro pins s σ H Q I h
 exact UnaryOp_ (thn (ha pins s σ H _ I h) λv s1 ⟨x,H1,I1,r1,q1⟩=>ho pins s1 σ H1 x v Q I1 r1 q1)
theorem opI {f:Ag→Ag→Sem Ag}{C:Int→Int→Prop}{g:Int→Int→Int}
  (rule:∀(i j:Int) (t u:Tok) (s:Ab) (Q:Ag→Ab→Prop) (E:Ag→Ab→Prop),C i j→Q (.int (g i j) s.toks) { s with toks:=s.toks+1 }→wpAny (model X.prog X.w) X.A (f (.int i t) (.int j u)) Q E s) :
  OpR X f (rI C λi j=>.int (g i j)):=by
 intro pins s σ H x y v u Q I rx ry h
 obtain ⟨i,j,rfl,rfl,hc,q⟩:=h
 obtain ⟨t,rfl⟩:=rx
 obtain ⟨t',rfl⟩:=ry
 exact rule i j t t' s _ _ hc ⟨.int (g i j),H,I.tok _,⟨_,rfl⟩,q⟩
theorem opI0 {f:Ag→Ag→Sem Ag}{g:Int→Int→Int}
  (rule:∀(i j:Int) (t u:Tok) (s:Ab) (Q:Ag→Ab→Prop) (E:Ag→Ab→Prop),Q (.int (g i j) s.toks) { s with toks:=s.toks+1 }→wpAny (model X.prog X.w) X.A (f (.int i t) (.int j u)) Q E s) :
  OpR X f (rI0 λi j=>.int (g i j)):=by
 intro pins s σ H x y v u Q I rx ry h
 obtain ⟨i,j,rfl,rfl,q⟩:=h
 obtain ⟨t,rfl⟩:=rx
 obtain ⟨t',rfl⟩:=ry
 exact rule i j t t' s _ _ ⟨.int (g i j),H,I.tok _,⟨_,rfl⟩,q⟩
theorem opB0 {f:Ag→Ag→Sem Ag}{g:Int→Int→Bool}
  (rule:∀(i j:Int) (t u:Tok) (s:Ab) (Q:Ag→Ab→Prop) (E:Ag→Ab→Prop),Q (.bool (g i j)) s→wpAny (model X.prog X.w) X.A (f (.int i t) (.int j u)) Q E s) :
  OpR X f (rI0 λi j=>.bl (g i j)):=by
 intro pins s σ H x y v u Q I rx ry h
 obtain ⟨i,j,rfl,rfl,q⟩:=h
 obtain ⟨t,rfl⟩:=rx
 obtain ⟨t',rfl⟩:=ry
 exact rule i j t t' s _ _ ⟨.bl (g i j),H,I,rfl,q⟩
def CPow (i j:Int):Prop:=0≤j∧j≤1000000∧i.natAbs<2 ^ 64
theorem xq:OpR X (binaryOp .Add) (rI0 λi j=>.int (i+j)):=opI0 λ_ _ _ _ _ _ _ q=>add_int q
theorem zj:OpR X (binaryOp .Sub) (rI0 λi j=>.int (i-j)):=opI0 λ_ _ _ _ _ _ _ q=>sub_int q
theorem vq:OpR X (binaryOp .Mod) (rI (λ_ j=>0<j) λi j=>.int (i%j)):=opI λi j _ _ _ _ _ hc q=>by
 have h1:(0:Int)<j:=hc
 exact mod_int' (by lia) (by rw [Int.fmod_eq_emod_of_nonneg i (by lia)];exact q)
theorem wwd:OpR X (binaryOp .Pow) (rI CPow λi j=>.int (i ^ j.toNat)):=opI λ_ _ _ _ _ _ _ hc q=>pow_int_small hc.1 hc.2.1 hc.2.2 q
theorem unI {f:Ag→Sem Ag}{g:Int→Int}
  (rule:∀(i:Int) (t:Tok) (s:Ab) (Q:Ag→Ab→Prop) (E:Ag→Ab→Prop),Q (.int (g i) s.toks) { s with toks:=s.toks+1 }→wpAny (model X.prog X.w) X.A (f (.int i t)) Q E s) :
  UnR X f (rU λi=>.int (g i)):=by
 intro pins s σ H x v Q I rx h
 obtain ⟨i,rfl,q⟩:=h
 obtain ⟨t,rfl⟩:=rx
 exact rule i t s _ _ ⟨.int (g i),H,I.tok _,⟨_,rfl⟩,q⟩
theorem Jw:UnR X (unaryOp .USub) (rU λi=>.int (-i)):=unI λ_ _ _ _ _ q=>neg_int q
end
def scal:V→V→Bool
 |.non,.non=>true|.non,.int _=>true|.int _,.non=>true|.non,.bl _=>true|.bl _,.non=>true|.non,.str _=>true|.str _,.non=>true
 |.int _,.int _=>true|.bl _,.bl _=>true|.str _,.str _=>true|.byt _,.byt _=>true
 |.int _,.str _=>true|.str _,.int _=>true|.bl _,.str _=>true|.str _,.bl _=>true
 |_,_=>false
def rEq:R2:=λx y H Q=>scal x y=true∧Q (.bl (decide (x=y))) H
def rNe:R2:=λx y H Q=>scal x y=true∧Q (.bl (!decide (x=y))) H
theorem qjg {i j:Int}:decide (V.int i=V.int j)=(i==j):=by
 rw [cb]
 simp
theorem wxd {i j:Bool}:decide (V.bl i=V.bl j)=(i==j):=by
 rw [cb]
 simp
theorem qjm {i j:Str}:decide (V.str i=V.str j)=(i==j):=by
 rw [cb]
 simp
theorem qjf {i j:Array UInt8}:decide (V.byt i=V.byt j)=(i.toList==j.toList):=by
 rw [cb]
 cases i
 cases j
 simp
section
variable {X:Cx}{a b c:Expr}{ta tb tc:TE}{pos:Pos}
theorem xm {pins:List (Aj×Obj)}{σ:St}{H:Hp}{s:Ab}{Q:VK}{k k':Bool}(I:Inv X pins σ H s)(q:Q (.bl k) H)(e:k=k'):EP X pins σ Q (.bool k') s:=by
 subst e
 exact ⟨.bl k,H,I,rfl,q⟩
theorem zg:OpR X (compareOp .Eq) rEq:=by
 intro pins s σ H x y v u Q I rx ry h
 obtain ⟨hs,q⟩:=h
 cases x with
 |non =>
  cases rx
  cases y with
  |non=>cases ry;exact PySem.EqNone.eq_none_none (xm I q (by simp))
  |bl j=>cases ry;exact PySem.EqNone.eq_none_bool (xm I q (by simp))
  |int j=>obtain ⟨t',rfl⟩:=ry;exact PySem.EqNone.eq_none_int (xm I q (by simp))
  |str j=>obtain ⟨t',rfl⟩:=ry;exact PySem.EqNone.eq_none_str (xm I q (by simp))
  |_=>exact absurd (show false=true from hs) aA
 |bl i =>
  cases rx
  cases y with
  |non=>cases ry;exact PySem.EqNone.eq_bool_none (xm I q (by simp))
  |bl j=>cases ry;exact eq_bool (xm I q wxd)
  |str j=>obtain ⟨t',rfl⟩:=ry;exact PySem.EqMixed.eq_bool_str (xm I q (by simp))
  |_=>exact absurd (show false=true from hs) aA
 |int i =>
  obtain ⟨t,rfl⟩:=rx
  cases y with
  |non=>cases ry;exact PySem.EqNone.eq_int_none (xm I q (by simp))
  |int j=>obtain ⟨t',rfl⟩:=ry;exact eq_int (xm I q qjg)
  |str j=>obtain ⟨t',rfl⟩:=ry;exact PySem.EqMixed.eq_int_str (xm I q (by simp))
  |_=>exact absurd (show false=true from hs) aA
 |str i =>
  obtain ⟨t,rfl⟩:=rx
  cases y with
  |non=>cases ry;exact PySem.EqNone.eq_str_none (xm I q (by simp))
  |bl j=>cases ry;exact PySem.EqMixed.eq_str_bool (xm I q (by simp))
  |int j=>obtain ⟨t',rfl⟩:=ry;exact PySem.EqMixed.eq_str_int (xm I q (by simp))
  |str j=>obtain ⟨t',rfl⟩:=ry;exact eq_str (xm I q qjm)
  |_=>exact absurd (show false=true from hs) aA
 |byt i =>
  obtain ⟨t,rfl⟩:=rx
  cases y with
  |byt j=>obtain ⟨t',rfl⟩:=ry;exact PySem.W.eq_bytes (xm I q qjf)
  |_=>exact absurd (show false=true from hs) aA
 |_=>cases y <;> exact absurd (show false=true from hs) aA
theorem wxb:OpR X (compareOp .NotEq) rNe:=by
 intro pins s σ H x y v u Q I rx ry h
 obtain ⟨hs,q⟩:=h
 cases x with
 |non =>
  cases rx
  cases y with
  |non=>cases ry;exact PySem.EqNone.ne_none_none (xm I q (by simp))
  |bl j=>cases ry;exact PySem.EqNone.ne_none_bool (xm I q (by simp))
  |int j=>obtain ⟨t',rfl⟩:=ry;exact PySem.EqNone.ne_none_int (xm I q (by simp))
  |str j=>obtain ⟨t',rfl⟩:=ry;exact PySem.EqNone.ne_none_str (xm I q (by simp))
  |_=>exact absurd (show false=true from hs) aA
 |bl i =>
  cases rx
  cases y with
  |non=>cases ry;exact PySem.EqNone.ne_bool_none (xm I q (by simp))
  |bl j=>cases ry;exact ne_bool (xm I q (bq not wxd))
  |str j=>obtain ⟨t',rfl⟩:=ry;exact PySem.EqMixed.ne_bool_str (xm I q (by simp))
  |_=>exact absurd (show false=true from hs) aA
 |int i =>
  obtain ⟨t,rfl⟩:=rx
  cases y with
  |non=>cases ry;exact PySem.EqNone.ne_int_none (xm I q (by simp))
  |int j=>obtain ⟨t',rfl⟩:=ry;exact ne_int (xm I q (bq not qjg))
  |str j=>obtain ⟨t',rfl⟩:=ry;exact PySem.EqMixed.ne_int_str (xm I q (by simp))
  |_=>exact absurd (show false=true from hs) aA
 |str i =>
  obtain ⟨t,rfl⟩:=rx
  cases y with
  |non=>cases ry;exact PySem.EqNone.ne_str_none (xm I q (by simp))
  |bl j=>cases ry;exact PySem.EqMixed.ne_str_bool (xm I q (by simp))
  |int j=>obtain ⟨t',rfl⟩:=ry;exact PySem.EqMixed.ne_str_int (xm I q (by simp))
  |str j=>obtain ⟨t',rfl⟩:=ry;exact ne_str (xm I q (bq not qjm))
  |_=>exact absurd (show false=true from hs) aA
 |byt i =>
  obtain ⟨t,rfl⟩:=rx
  cases y with
  |byt j=>obtain ⟨t',rfl⟩:=ry;exact PySem.W.ne_bytes (xm I q (bq not qjf))
  |_=>exact absurd (show false=true from hs) aA
 |_=>cases y <;> exact absurd (show false=true from hs) aA
theorem jw:OpR X (compareOp .Lt) (rI0 λi j=>.bl (decide (i<j))):=opB0 λ_ _ _ _ _ _ _ q=>lt_int q
theorem wx3:OpR X (compareOp .LtE) (rI0 λi j=>.bl (decide (i≤j))):=opB0 λ_ _ _ _ _ _ _ q=>le_int q
theorem yu:OpR X (compareOp .Gt) (rI0 λi j=>.bl (decide (j<i))):=opB0 λ_ _ _ _ _ _ _ q=>gt_int q
theorem qzp:OpR X (compareOp .GtE) (rI0 λi j=>.bl (decide (j≤i))):=opB0 λ_ _ _ _ _ _ _ q=>ge_int q
theorem qyf:OpR X (compareOp .In) (λx y H Q=>∃i j,x=.str i∧y=.str j∧Q (.bl (!(Builtin.Str.occurrences j i 0 j.length 1).isEmpty)) H):=by
 intro pins s σ H x y v u Q I rx ry h
 obtain ⟨i,j,rfl,rfl,q⟩:=h
 obtain ⟨t,rfl⟩:=rx
 obtain ⟨t',rfl⟩:=ry
 exact in_str (xm I q rfl)
theorem op_isN:OpR X (compareOp .Is) (λx y H Q=>y=.non∧Q (.bl (decide (x=.non))) H):=by
 intro pins s σ H x y v u Q I rx ry h
 obtain ⟨rfl,q⟩:=h
 cases ry
 refine is_none_gen (xm I q ?_)
 cases x <;> first
  |(cases rx;rfl)
  |(obtain ⟨t,rfl⟩:=rx;rfl)
theorem wvf:OpR X (compareOp .IsNot) (λx y H Q=>y=.non∧Q (.bl (!decide (x=.non))) H):=by
 intro pins s σ H x y v u Q I rx ry h
 obtain ⟨rfl,q⟩:=h
 cases ry
 refine isnot_none_gen (xm I q ?_)
 cases x <;> first
  |(cases rx;rfl)
  |(obtain ⟨t,rfl⟩:=rx;rfl)
theorem wm (b:Expr){op:CmpOp}(h:op≠.In:=by decide)(h2:op≠.NotIn:=by decide):behindInMarks op b=false:=by
 have e1:(op==CmpOp.In)=false:=by cases op <;> first | rfl | exact absurd rfl h
 have e2:(op==CmpOp.NotIn)=false:=by cases op <;> first | rfl | exact absurd rfl h2
 cases b <;> simp [behindInMarks,e1,e2]
theorem uw {op:CmpOp}{r:R2}(ho:OpR X (compareOp op) r)(ha:PE X a ta)(hb:PE X b tb)(hm:behindInMarks op b=false):PE X (.Compare a [op] [b] pos) (tOp r ta tb):=by
 intro pins s σ H Q I h
 exact wpAny_Compare1 (binT ha hb I h λv u s2 x y H2 I2 rx ry q=>ho pins s2 σ H2 x y v u Q I2 rx ry q) hm
def tTest (t:TE):TT:=λσ H Q=>t σ H λx H'=>∃k,x=.bl k∧Q k H'
theorem wg {op:CmpOp}{r:R2}(ho:OpR X (compareOp op) r)(ha:PE X a ta)(hb:PE X b tb)(hm:behindInMarks op b=false):PT X (.Compare a [op] [b] pos) (tTest (tOp r ta tb)):=by
 intro pins s σ H Q I h
 refine wpAny_isTrue_Compare1 (thn (ha pins s σ H _ I h) λv s1 ⟨x,H1,I1,r1,q1⟩=>thn (hb pins s1 σ H1 _ I1 q1) λu s2 ⟨y,H2,I2,r2,q2⟩ =>
  thn (ho pins s2 σ H2 x y v u _ I2 r1 r2 q2) λc s3 ⟨z,H3,I3,r3,k,e,q3⟩=>?_) hm
 subst e
 cases r3
 exact bF ⟨H3,I3,q3⟩
theorem Wz:(sizeLine:Nat)<2 ^ 63:=by rw [sizeLine_eq];decide
theorem jd {x:V}{us:List Ag}(r:Vals [x] us):∃u,us=[u]∧RelV x u:=by
 cases r with
 |cons r1 r2=>cases r2;exact ⟨_,rfl,r1⟩
theorem wxx {x y:V}{us:List Ag}(r:Vals [x,y] us):∃u w',us=[u,w']∧RelV x u∧RelV y w':=by
 cases r with
 |cons r1 r2 =>
  cases r2 with
  |cons r3 r4=>cases r4;exact ⟨_,_,rfl,r1,r3⟩
theorem Q6:kj X (.builtin "abs") (λxs H Q=>∃i,xs=[.int i]∧Q (.int (if i<0 then -i else i)) H):=by
 intro pins s σ H xs us Q I r h
 obtain ⟨i,rfl,q⟩:=h
 obtain ⟨u,rfl,t,rfl⟩:=jd r
 exact call_abs_int λu tk=>⟨.int (if i<0 then -i else i),H,I.tok _,⟨_,rfl⟩,q⟩
theorem qyt (hc:X.calm=true):kj X (.builtin "max") (λxs H Q=>∃i j,xs=[.int i,.int j]∧Q (.int (if j>i then j else i)) H):=by
 intro pins s σ H xs us Q I r h
 obtain ⟨i,j,rfl,q⟩:=h
 obtain ⟨u,w',rfl,⟨t,rfl⟩,⟨t',rfl⟩⟩:=wxx r
 refine max_two_ints (I.ok.hd hc) λh' tk k=>⟨_,H,I.kept k,?_,q⟩
 by_cases hj:j>i
 ·rw [al hj,al hj];exact ⟨_,rfl⟩
 ·rw [ai hj,ai hj];exact ⟨_,rfl⟩
theorem qwc (hc:X.calm=true):kj X (.builtin "min") (λxs H Q=>∃i j,xs=[.int i,.int j]∧Q (.int (if j<i then j else i)) H):=by
 intro pins s σ H xs us Q I r h
 obtain ⟨i,j,rfl,q⟩:=h
 obtain ⟨u,w',rfl,⟨t,rfl⟩,⟨t',rfl⟩⟩:=wxx r
 refine min_two_ints (I.ok.hd hc) λh' tk k=>⟨_,H,I.kept k,?_,q⟩
 by_cases hj:j<i
 ·rw [al hj,al hj];exact ⟨_,rfl⟩
 ·rw [ai hj,ai hj];exact ⟨_,rfl⟩
theorem qy1:kj X (.type "int") (λxs H Q=>(∃i,xs=[.int i]∧Q (.int i) H)∨∃k,xs=[.bl k]∧Q (.int (if k then 1 else 0)) H):=by
 intro pins s σ H xs us Q I r h
 rcases h with ⟨i,rfl,q⟩|⟨k,rfl,q⟩
 ·obtain ⟨u,rfl,t,rfl⟩:=jd r
  exact call_int_int ⟨.int i,H,I,⟨_,rfl⟩,q⟩
 ·obtain ⟨u,rfl,r1⟩:=jd r
  cases r1
  exact call_int_bool ⟨.int (if k then 1 else 0),H,I.tok _,⟨_,rfl⟩,q⟩
end
structure ObjM (h:Heap)(x dx C:Aj)(mA:Str→Option Ag):Prop where
 obj:h.get? x=some (PySem.W.instObj C dx)
 ns:h.Ns1 dx mA
 ne:dx≠x
theorem qun {h:Heap}{dx:Aj}{mA:Str→Option Ag}(n:h.Ns1 dx mA):∃od,h.get? dx=some od∧∀name,PySem.W.lookIn name od=some (mA name):=by
 obtain ⟨o,es,ep,ho,hd,hk,_,hm⟩:=n
 refine ⟨o,ho,λname=>?_⟩
 have e:=hm name
 unfold nsFind findBy at e
 rw [←Array.find?_toList] at e
 unfold PySem.W.lookIn
 rw [hd]
 dsimp only
 split
 ·rename_i y q
  rw [q] at e
  exact bq some e
 ·rename_i q
  rw [q] at e
  have a:es.toList.any (·.refKey)=false:=by
   rw [List.any_eq_false]
   intro y hy
   obtain ⟨z,t,hkey⟩:=hk y (Array.mem_toList_iff.mp hy)
   simp [DictEntry.refKey,hkey]
  have a':¬ es.toList.any (·.refKey)=true:=by rw [a];exact aA
  rw [ai a']
  exact bq some e
theorem ObjM.look {h:Heap}{x dx C:Aj}{mA:Str→Option Ag}(I:ObjM h x dx C mA):∃od,PySem.W.InstAt h x (PySem.W.instObj C dx) C (some od)∧∀name,PySem.W.lookIn name od=some (mA name) :=
 let ⟨od,ho,hl⟩:=qun I.ns
 ⟨od,⟨I.obj,rfl,rfl,ho⟩,hl⟩
section
variable {prog:Ac}{w:Ah}{A:Ae}{E:Ag→Ab→Prop}{s:Ab}{K:Aa}{x dx C f:Aj}{mA:Str→Option Ag}{name:Str}{v:Ag}
theorem wvv {expr:Bool}{Q:Ag→Ab→Prop}(X:K.In s.heap)(I:ObjM s.heap x dx C mA)(hg:PySem.W.plainGet K C name=true)(hh:PySem.W.hasDictIn K C=true)
  (ha:PySem.W.findIn K (.ref C) name=some none) (hv:mA name=some v) (hv':PySem.W.handedIn v=true) (h:Q v { s with toks:=s.toks+1 }) :
  wpAny (model prog w) A (getAttr (.ref x) name expr) Q E s:=by
 obtain ⟨od,J,hl⟩:=I.look
 exact PySem.W.get_value X J (dH hg).1 (PySem.W.findObj_own hh ha rfl (by rw [hl,hv])) hv' h
theorem wq4 {pl:Sem Bool}{Q:Ag×List Ag→Ab→Prop}(X:K.In s.heap)(I:ObjM s.heap x dx C mA)(hg:PySem.W.plainGet K C name=true)
  (hf:PySem.W.findIn K (.ref C) name=some (some (.ref f))) (ht:PySem.W.isFn K (.ref f)=true) (hv:mA name=none) (h:Q (.ref f,[.ref x]) s) :
  wpAny (model prog w) A (getMethod (.ref x) name pl) Q E s:=by
 obtain ⟨od,J,hl⟩:=I.look
 exact PySem.W.method_fn X J (dH hg).1 (dH hg).2 hf (dq.mp ht) (by show (PySem.W.lookIn name od).map (·.isSome)=some false;rw [hl,hv];rfl) h
theorem qw3 {ns:List Str}{Q:Unit→Ab→Prop}(X:K.In s.heap)(I:ObjM s.heap x dx C mA)
  (hs:PySem.W.findIn K (.ref C) "__setattr__" = some (some (.builtin "object.__setattr__"))) (hp:PySem.W.plainOver K C=true) (ht:PySem.W.takerIn K C name=some none) (hh:PySem.W.hasDictIn K C=true)
  (hw:PySem.Within mA ns) (hsz:ns.length≤sizeLine)
  (h:∀h',ObjM h' x dx C (λy=>if y=name then some v else mA y)→Heap.SameBut dx s.heap h'→Q () { s with heap:=h',toks:=s.toks+2 }) :
  wpAny (model prog w) A (setAttr (.ref x) name v) Q E s:=by
 obtain ⟨od,J,hl⟩:=I.look
 refine PySem.W.set_plain X J hs (PySem.W.osa_open (s:={ s with toks:=s.toks+1 }) (r:=none) X J hp ht λb=>?_)
 obtain ⟨cd,hc,hd'⟩:=PySem.W.any_some hh
 have hx:s.heap.get? x=some ⟨.ref C,some dx,.plain,#[]⟩:=I.obj
 refine ac (aj (ac (ac (wpAny_loadPart hx (ac (PySem.W.Looks.here (s:={ s with toks:=s.toks+1 }) (PySem.W.looks_clsIn X hc) ?_))))))
 rw [hd']
 refine aj (a:=some dx) (ac (aj (ac ?_)))
 refine wpAny_nsSet1 (s:={ s with toks:=s.toks+1 }) I.ns λh' hn2 hs2=>?_
 obtain ⟨oD,esD,epD,hoD,hdD,hcD⟩:=hn2.count (PySem.Within.cons name v hw)
 refine ac (wpAny_lookBehind hoD (by rw [hdD];exact pastItsLine_dict (bB hcD (by rw [aT];lia))) ?_)
 exact aj (h _ ⟨(hs2.2 _ (aU I.ne)).trans I.obj,hn2,I.ne⟩ hs2)
theorem wqg {R:Result→Ab→Prop}{vs:List Ag}{kw:List (Str×Ag)}(X:K.In s.heap)(hm:PySem.W.makesIn K C=true)
  (hi:PySem.W.findIn K (.ref C) "__init__" = some (some (.ref f))) (hf:PySem.W.typeIn K (.ref f)=some (.type "function"))
  (h:codeAny (model prog w) (A.under (.builtin "type.__call__" ⟨.ref C::vs,kw⟩)) (.call (.ref f) ⟨.ref (s.heap.objs.size+1)::vs,kw⟩) (PySem.W.InitBack (s.heap.objs.size+1) R)
   { s with heap:=(s.heap.push PySem.W.emptyDict).push (PySem.W.instObj C s.heap.objs.size) }) :
  codeAny (model prog w) A (.call (.ref C) ⟨vs,kw⟩) R s:=by
 obtain ⟨hh,g,d,t,os⟩:=s
 exact PySem.W.make_core (PySem.W.makes_of X hm) (PySem.W.looks_findIn X hi) (λself=>PySem.W.bind_fn X self hf) (.inl rfl) h
end
def vz (f:Str)(v:V):List (Str×V)→List (Str×V)
 |[]=>[(f,v)]
 |(g,x)::r=>if g=f then (g,v)::r else (g,x)::vz f v r
theorem Wp (f g:Str)(v:V):∀fs:List (Str×V),(vz f v fs).lookup g=if g=f then some v else fs.lookup g
 |[]=>by
  show List.lookup g [(f,v)]=_
  by_cases h:g=f
  ·have hb:(g==f)=true:=dq.mpr h
   simp only [List.lookup,hb,al h]
  ·have hb:(g==f)=false:=aK.mpr h
   simp only [List.lookup,hb,ai h]
 |(k,x)::r=>by
  have ih:=Wp f g v r
  rw [show vz f v ((k,x)::r)=(if k=f then (k,v)::r else (k,x)::vz f v r) from rfl]
  by_cases hk:k=f
  ·rw [al hk]
   by_cases h:g=k
   ·have hb:(g==k)=true:=dq.mpr h
    simp only [List.lookup,hb,al (h.trans hk)]
   ·have hb:(g==k)=false:=aK.mpr h
    simp only [List.lookup,hb,ai (λe:g=f=>h (e.trans hk.symm))]
  ·rw [ai hk]
   by_cases h:g=k
   ·have hb:(g==k)=true:=dq.mpr h
    simp only [List.lookup,hb,ai (λe:g=f=>hk (h.symm.trans e))]
   ·have hb:(g==k)=false:=aK.mpr h
    simp only [List.lookup,hb]
    exact ih
theorem Wv (f:Str)(v:V):∀fs:List (Str×V),f∈(vz f v fs).map (·.1)∧∀g,g∈fs.map (·.1)→g∈(vz f v fs).map (·.1)
 |[]=>⟨by simp [vz],λg h=>by simp at h⟩
 |(k,x)::r=>by
  obtain ⟨i1,i2⟩:=Wv f v r
  rw [show vz f v ((k,x)::r)=(if k=f then (k,v)::r else (k,x)::vz f v r) from rfl]
  by_cases hk:k=f
  ·rw [al hk]
   subst hk
   exact ⟨by simp,λg h=>by simpa using h⟩
  ·rw [ai hk]
   refine ⟨?_,λg h=>?_⟩
   ·rw [aS]
    exact bf _ i1
   ·rw [aS] at h ⊢
    rcases am.mp h with e|e
    ·exact am.mpr (.inl e)
    ·exact bf _ (i2 g e)
theorem Ws (f:Str)(v:V):∀fs:List (Str×V),(vz f v fs).length≤fs.length+1
 |[]=>by simp [vz]
 |(k,x)::r=>by
  have ih:=Ws f v r
  rw [show vz f v ((k,x)::r)=(if k=f then (k,v)::r else (k,x)::vz f v r) from rfl]
  by_cases hk:k=f
  ·rw [al hk,aT,aT];lia
  ·rw [ai hk,aT,aT];lia
theorem RelO.some_of {v:V}{o:Option Ag}(r:RelO (some v) o):∃u,o=some u∧RelV v u:=by
 cases o with
 |none=>exact (show False from r).elim
 |some u=>exact ⟨u,rfl,r⟩
theorem RelO.none_of {o:Option Ag}(r:RelO none o):o=none:=by
 cases o with
 |none=>rfl
 |some u=>exact (show False from r).elim
theorem quk {v:V}{u:Ag}(r:RelV v u):PySem.W.handedIn u=true:=by
 cases v with
 |non=>cases (show u=Value.none from r);rfl
 |bl b=>cases (show u=Value.bool b from r);rfl
 |int i=>obtain ⟨t,e⟩:=(show ∃t,u=Value.int i t from r);cases e;rfl
 |str x=>obtain ⟨t,e⟩:=(show ∃t,u=Value.str x t from r);cases e;rfl
 |byt b=>obtain ⟨t,e⟩:=(show ∃t,u=Value.bytes b t from r);cases e;rfl
 |flt b=>obtain ⟨t,e⟩:=(show ∃t,u=Value.float b t from r);cases e;rfl
 |ref a=>cases (show u=Value.ref a from r);rfl
 |ty n=>cases (show u=Value.type n from r);rfl
section
variable {P:Ac}{w:Ah}{H H':Hp}{h h':Heap}{a C dx:Aj}{fs fs':List (Str×V)}
theorem Z1 (hok:HOk P w H h)(e:H a=some (.ins C dx fs)):∃mA,ObjM h a dx C mA∧(∀f,RelO (fs.lookup f) (mA f))∧PySem.Within mA (fs.map (·.1))∧fs.length≤1000∧H dx=some (.own a):=by
 obtain ⟨d,z,ne,ob,mA,n,r,q⟩:=(show ObjOk P w H h a (.ins C dx fs) from hok a _ e)
 exact ⟨mA,⟨ob,n,ne⟩,r,q,z,d⟩
end
structure Cls (K:Aa)(C:Aj):Prop where
 pg:PySem.W.plainGet K C Str.empty=true
 hd:PySem.W.hasDictIn K C=true
 po:PySem.W.plainOver K C=true
 sa:PySem.W.findIn K (.ref C) "__setattr__" = some (some (.builtin "object.__setattr__"))
theorem Cls.get {K:Aa}{C:Aj}(c:Cls K C)(f:Str):PySem.W.plainGet K C f=true:=c.pg
def NoAttr (K:Aa)(C:Aj)(f:Str):Prop:=PySem.W.findIn K (.ref C) f=some none
theorem NoAttr.taker {K:Aa}{C:Aj}{f:Str}(n:NoAttr K C f):PySem.W.takerIn K C f=some none:=by
 unfold PySem.W.takerIn
 rw [show PySem.W.findIn K (.ref C) f=some none from n]
 rfl
structure Con (K:Aa)(C:Aj)(f:Str)(v:V)(u:Ag):Prop where
 at_:PySem.W.findIn K (.ref C) f=some (some u)
 rel:RelV v u
 get:PySem.W.specialIn K u "__get__" = some none
 cp:PySem.W.copiedNames.contains f=false
structure Meth (K:Aa)(C:Aj)(m:Str)(f:Aj):Prop where
 at_:PySem.W.findIn K (.ref C) m=some (some (.ref f))
 fn:PySem.W.isFn K (.ref f)=true
 kp:PySem.W.keepIn K (.ref f)=true
section
variable {X:Cx}{pins:List (Aj×Obj)}{σ:St}{H:Hp}{s:Ab}{a C dx:Aj}{fs:List (Str×V)}{f:Str}{v:V}{A:Ae}{E:Ag→Ab→Prop}
theorem qk1 {b:Bool}{Q:Ag→Ab→Prop}(I:Inv X pins σ H s)(e:H a=some (.ins C dx fs))(c:Cls X.K C)(n:NoAttr X.K C f)(l:fs.lookup f=some v)
  (h:∀u s',Inv X pins σ H s'→RelV v u→Q u s'):wpAny (model X.prog X.w) A (getAttr (.ref a) f b) Q E s:=by
 obtain ⟨mA,O,r,_,_,_⟩:=Z1 I.hok e
 obtain ⟨u,hu,ru⟩:=RelO.some_of (v:=v) (o:=mA f) (by rw [←l];exact r f)
 exact wvv I.kIn O (c.get f) c.hd n hu (quk ru) (h u _ (I.tok _) ru)
theorem Jk {m:Str}{g:Aj}{pl:Sem Bool}{Q:Ag×List Ag→Ab→Prop}(I:Inv X pins σ H s)(e:H a=some (.ins C dx fs))(c:Cls X.K C)(k:Meth X.K C m g)(l:fs.lookup m=none)
  (h:Q (.ref g,[.ref a]) s):wpAny (model X.prog X.w) A (getMethod (.ref a) m pl) Q E s:=by
 obtain ⟨mA,O,r,_,_,_⟩:=Z1 I.hok e
 have hn:mA m=none:=RelO.none_of (by rw [←l];exact r m)
 exact wq4 I.kIn O (c.get m) k.at_ k.fn hn h
theorem qkm {y:V}{u:Ag}{Q:Unit→Ab→Prop}(I:Inv X pins σ H s)(e:H a=some (.ins C dx fs))(c:Cls X.K C)(n:NoAttr X.K C f)(hl:fs.length<1000)(ry:RelV y u)
  (h:∀s',Inv X pins σ (upd H a (.ins C dx (vz f y fs))) s'→Q () s'):wpAny (model X.prog X.w) A (setAttr (.ref a) f u) Q E s:=by
 obtain ⟨mA,O,r,wi,_,ho⟩:=Z1 I.hok e
 have hz:(fs.map (·.1)).length≤sizeLine:=by rw [ae,sizeLine_eq];lia
 refine qw3 I.kIn O c.sa c.po n.taker c.hd wi hz λh' O' sb=>h _ ?_
 have hd:∃o,h'.get? dx=some o:=let ⟨o,_,_,e',_⟩:=O'.ns;⟨o,e'⟩
 refine I.write (x:=a) (e:=dx) (by rw [e];exact True.intro) (.inr ho) (λb q hb z=>(sb.2 b hb).trans z) hd ?_
 refine ⟨by rw [wz O.ne];exact ho,?_,O.ne,O'.obj,_,O'.ns,λg=>?_,λg hg=>?_⟩
 ·have:=Ws f y fs;lia
 ·show RelO ((vz f y fs).lookup g) (if g=f then some u else mA g)
  rw [Wp]
  by_cases q:g=f
  ·rw [al q,al q];exact ry
  ·rw [ai q,ai q];exact r g
 ·by_cases q:g=f
  ·rw [q];exact (Wv f y fs).1
  ·refine (Wv f y fs).2 g (wi g λz=>hg ?_)
   show (if g=f then some u else mA g)=none
   rw [ai q];exact z
theorem Inv.made (I:Inv X pins σ H s):Inv X pins σ (upd (upd H s.heap.objs.size (.own (s.heap.objs.size+1))) (s.heap.objs.size+1) (.ins C s.heap.objs.size []))
  { s with heap:=(s.heap.push PySem.W.emptyDict).push (PySem.W.instObj C s.heap.objs.size) }:=by
 have e1:(s.heap.push PySem.W.emptyDict).get? s.heap.objs.size=some PySem.W.emptyDict:=ar s.heap rfl
 have e2:((s.heap.push PySem.W.emptyDict).push (PySem.W.instObj C s.heap.objs.size)).get? (s.heap.objs.size+1)=some (PySem.W.instObj C s.heap.objs.size):=by
  have:=ar (s.heap.push PySem.W.emptyDict) (o:=PySem.W.instObj C s.heap.objs.size) rfl
  rwa [da] at this
 have e3:(s.heap.push PySem.W.emptyDict).Ns s.heap.objs.size (λ_=>none):=⟨PySem.W.emptyDict,#[],_,e1,rfl,(λe he=>absurd he (by simp)),λ_=>rfl⟩
 have I1:=I.laid (a:=s.heap.objs.size) (o:=.own (s.heap.objs.size+1)) (h':=s.heap.push PySem.W.emptyDict) (t':=s.toks) (λb u q=>af _ q) (ah _) ⟨_,e1⟩
 refine I1.laid (a:=s.heap.objs.size+1) (o:=.ins C s.heap.objs.size []) (t':=s.toks) (λb u q=>af _ q) (Nat.le_of_eq (da _ _)) ?_
 have ne:s.heap.objs.size≠s.heap.objs.size+1:=ax (Nat.lt_succ_self _)
 refine ⟨by rw [wz ne,qm],aE _,ne,e2,λ_=>none,(Heap.Ns1.of_empty e3).at λo q=>af _ q,λ_=>True.intro,λy hy=>absurd rfl hy⟩
theorem wz0 {prog:Ac}{w:Ah}{env:Env}{e:Expr}{f:Str}{pos:Pos}{s:Ab}{Q:Ag→Ab→Prop}(hb:attributeBase e f env (eval e env)=eval e env)
  (h:wpAny (model prog w) A (eval e env) (λo s₁=>wpAny (model prog w) A (getAttr o f true) Q E s₁) E s):wpAny (model prog w) A (eval (.Attribute e f pos) env) Q E s :=
 Attribute_any_ h (by rw [arm_eval_Attribute,hb])
end
def tFld (K:Aa)(ta:TE)(f:Str):TE:=λσ H Q=>ta σ H λx H1=>∃a C dx fs v,x=.ref a∧H1 a=some (.ins C dx fs)∧Cls K C∧NoAttr K C f∧fs.lookup f=some v∧Q v H1
def sFld (K:Aa)(ta tv:TE)(f:Str):TS:=λD σ H=>tv σ H λy H1=>ta σ H1 λx H2=>∃a C dx fs,x=.ref a∧H2 a=some (.ins C dx fs)∧Cls K C∧NoAttr K C f∧fs.length<1000 ∧
 D.nx σ (upd H2 a (.ins C dx (vz f y fs)))
section
variable {X:Cx}{o e value:Expr}{f:Str}{pos pos' tpos:Pos}{ta tv:TE}
theorem zq (he:PE X e ta)(hb:attributeBase e f X.env (eval e X.env)=eval e X.env):PE X (.Attribute e f pos) (tFld X.K ta f):=by
 intro pins s σ H Q I h
 refine wz0 hb (thn (he pins s σ H _ I h) λu s1 ⟨x,H1,I1,rx,a,C,dx,fs,v,ex,ea,c,n,l,q⟩=>?_)
 subst ex
 obtain rfl:u=Value.ref a:=rx
 exact qk1 I1 ea c n l λu' s2 I2 ru=>⟨v,H1,I2,ru,q⟩
theorem ut (ha:PE X o ta)(hv:PE X value tv)(hs:swapsWith value (some (.Attribute o f pos')) pos.line X.env=pure false):PS X (.Assign [.Attribute o f pos'] value pos) (sFld X.K ta tv f):=by
 intro pins s σ H D I h
 refine plainObj_wpAny_Assign_Attribute (thn (hv pins s σ H _ I h) λu s1 ⟨y,H1,I1,ry,q⟩=>thn (ha pins s1 σ H1 _ I1 q) λov s2 ⟨x,H2,I2,rx,a,C,dx,fs,ex,ea,c,n,l,q2⟩=>?_) hs
 subst ex
 obtain rfl:ov=Value.ref a:=rx
 exact qkm I2 ea c n l ry λs3 I3=>⟨σ,_,I3,q2⟩
end
section
variable {X:Cx}{pins:List (Aj×Obj)}{σ:St}{H:Hp}{s:Ab}{A:Ae}{E:Ag→Ab→Prop}{Q:Ag→Ab→Prop}{c:Ag}{b:Bool}
inductive TyOf (K:Aa) (H:Hp):V→Ag→Prop where
 |non:TyOf K H .non (.type "NoneType")
 |bl (x:Bool):TyOf K H (.bl x) (.type "bool")
 |int (i:Int):TyOf K H (.int i) (.type "int")
 |str (x:Str):TyOf K H (.str x) (.type "str")
 |flt (x:UInt64):TyOf K H (.flt x) (.type "float")
 |lst {a:Aj} {xs:List V} (e:H a=some (.lst xs)):TyOf K H (.ref a) (.type "list")
 |frz {a:Aj} {o:Obj} {xs:List V} (e:H a=some (.frz o (.lst xs))):TyOf K H (.ref a) (.type "list")
 |tup {a:Aj} {xs:List V} (e:H a=some (.tup xs)):TyOf K H (.ref a) (.type "tuple")
 |dK {a:Aj} {kvs:List (Key×V)} (e:H a=some (.dK kvs)):TyOf K H (.ref a) (.type "dict")
 |dT {a:Aj} {kvs:List (List Key×V)} (e:H a=some (.dT kvs)):TyOf K H (.ref a) (.type "dict")
 |ins {a C dx:Aj} {fs:List (Str×V)} (e:H a=some (.ins C dx fs)) (cl:Cls K C) (ha:PySem.W.findIn K (.ref C) "__class__" = some (some (.builtin "object.__class__")))
   (hn:PySem.W.specialIn K (.builtin "object.__class__") "__get__" = some (some (.builtin "getset_descriptor.__get__"))) (htk:PySem.W.takesIn K (.builtin "object.__class__")=some true)
   (hm:PySem.W.mroIn K C (.type "object")=some true):TyOf K H (.ref a) (.ref C)
theorem qyp {x:V}{u t:Ag}(I:Inv X pins σ H s)(rx:RelV x u)(ty:TyOf X.K H x t)(e:PySem.W.kitOne X.K t c=some b)(h:∀tk,Q (.bool b) { s with toks:=tk }) :
  wpAny (model X.prog X.w) A (call (.builtin "isinstance") [u,c]) Q E s:=by
 cases ty with
 |non=>cases (show u=Value.none from rx);exact bi PySem.W.kitx_none I.kIn True.intro e (λz=>nomatch z) h
 |bl y=>cases (show u=Value.bool y from rx);exact bi PySem.W.kitx_bool I.kIn True.intro e (λz=>nomatch z) h
 |int i=>obtain ⟨t,q⟩:=(show ∃t,u=Value.int i t from rx);cases q;exact bi PySem.W.kitx_int I.kIn True.intro e (λz=>nomatch z) h
 |str y=>obtain ⟨t,q⟩:=(show ∃t,u=Value.str y t from rx);cases q;exact bi PySem.W.kitx_str I.kIn True.intro e (λz=>nomatch z) h
 |flt y=>obtain ⟨t,q⟩:=(show ∃t,u=Value.float y t from rx);cases q;exact bi PySem.W.kitx_float I.kIn True.intro e (λz=>nomatch z) h
 |@lst a xs ea =>
  cases (show u=Value.ref a from rx)
  obtain ⟨_,_,n,_,h1⟩:=(show ObjOk X.prog X.w H s.heap a (.lst xs) from I.hok a _ ea)
  exact bi PySem.W.kitx_list I.kIn ⟨_,h1,rfl⟩ e (λz=>nomatch z) h
 |@frz a ob xs ea =>
  cases (show u=Value.ref a from rx)
  obtain ⟨_,_,_,n,_,h1⟩:=(show ObjOk X.prog X.w H s.heap a (.frz ob (.lst xs)) from I.hok a _ ea)
  exact bi PySem.W.kitx_list I.kIn ⟨_,h1,rfl⟩ e (λz=>nomatch z) h
 |@tup a xs ea =>
  cases (show u=Value.ref a from rx)
  obtain ⟨_,_,_,p⟩:=(show ObjOk X.prog X.w H s.heap a (.tup xs) from I.hok a _ ea)
  obtain ⟨o,h1,h2,_⟩:=p
  exact bi PySem.W.kitx_tuple I.kIn ⟨o,h1,h2⟩ e (λz=>nomatch z) h
 |@dK a kvs ea =>
  cases (show u=Value.ref a from rx)
  obtain ⟨_,_,vs,_,p⟩:=(show ObjOk X.prog X.w H s.heap a (.dK kvs) from I.hok a _ ea)
  obtain ⟨o,es,ep,h1,h2,_⟩:=p
  exact bi PySem.W.kitx_dict I.kIn ⟨o,h1,h2.1⟩ e (λz=>nomatch z) h
 |@dT a kvs ea =>
  cases (show u=Value.ref a from rx)
  obtain ⟨_,_,xs,_,o,es,ep,h1,h2,_⟩:=(show ObjOk X.prog X.w H s.heap a (.dT kvs) from I.hok a _ ea)
  exact bi PySem.W.kitx_dict I.kIn ⟨o,h1,h2.1⟩ e (λz=>nomatch z) h
 |@ins a C dx fs ea cl ha hn htk hm =>
  cases (show u=Value.ref a from rx)
  obtain ⟨mA,O,_⟩:=Z1 I.hok ea
  obtain ⟨od,J,_⟩:=O.look
  exact bi (PySem.W.kitx_own (cl.get _) cl.hd ha hn htk hm) I.kIn J e (λz=>nomatch z) h
end
structure Room (k:Nat)(A:Ae):Prop where
 hd:A.handled=none
 dp:A.depth+3*k+5<recursionLimit
 un:A.units+16*k+200<cLine
theorem Room.mono {j k:Nat}{A:Ae}(r:Room k A)(h:j≤k):Room j A:=⟨r.hd,by have:=r.dp;lia,by have:=r.un;lia⟩
theorem Room.deeper {k:Nat}{A:Ae}(r:Room (k+1) A)(env:Env):Room k (A.deeper env) :=
 ⟨r.hd,by have:=r.dp;show A.depth+1+3*k+5<_;lia,by have:=r.un;show A.units+3+16*k+200<_;lia⟩
theorem qv7 {A:Ae}{C:Aj}{us:List Ag}{kw:List (Str×Ag)}:(A.under (.builtin "type.__call__" ⟨.ref C::us,kw⟩)).depth=A.depth+1:=by
 first | rfl | simp [Around.under,Code.weight,Code.isCreation,Code.isGuard,Code.isCaller,Code.frames,Code.isFrame,guardIds]
theorem qky {A:Ae}{C:Aj}{us:List Ag}{kw:List (Str×Ag)}:(A.under (.builtin "type.__call__" ⟨.ref C::us,kw⟩)).units=A.units+1:=by
 first | rfl | simp [Around.under,Code.cUnits,Code.frames,Code.isFrame]
theorem Room.make {k:Nat}{A:Ae}(r:Room (k+1) A)(C:Aj)(us:List Ag)(kw:List (Str×Ag)):Room k (A.under (.builtin "type.__call__" ⟨.ref C::us,kw⟩)) :=
 ⟨r.hd,by have:=r.dp;rw [qv7];lia,by have:=r.un;rw [qky];lia⟩
theorem Room.depth {k:Nat}{A:Ae}(r:Room k A):A.depth<recursionLimit:=by have:=r.dp;lia
theorem Room.units {k:Nat}{A:Ae}(r:Room k A):A.units+64<cLine:=by have:=r.un;lia
theorem Room.units0 {k:Nat}{A:Ae}(r:Room k A):A.units<cLine:=by have:=r.un;lia
def Zc:TA:=λ_ H Q=>Q [] H
def v5 (ta:TE)(tr:TA):TA:=λσ H Q=>ta σ H λx H1=>tr σ H1 λxs H2=>Q (x::xs) H2
section
variable {X:Cx}{e:Expr}{es:List Expr}{te:TE}{t:TA}{pos:Pos}
theorem qj:PA X [] Zc:=λ_ _ _ _ H Q I h=>ed ⟨[],H,I,.nil,h⟩
theorem xx (ha:PE X e te)(hr:PA X es t)(hs:starEach (e::es) X.env=(false,eval e X.env)::starEach es X.env:=by rfl):PA X (e::es) (v5 te t):=by
 intro pos pins s σ H Q I h
 rw [hs]
 show wpAny _ _ (spliced ((false,eval e X.env)::backTo pos (starEach es X.env))) _ _ s
 refine cW (thn (ha pins s σ H _ I h) λu s1 ⟨x,H1,I1,r1,q1⟩=>?_)
 exact thn (hr pos pins s1 σ H1 _ I1 q1) λus s2 ⟨xs,H2,I2,r2,q2⟩=>⟨x::xs,H2,I2,.cons r1 r2,q2⟩
def tTup (t:TA):TE:=λσ H Q=>t σ H λxs H1=>xs.length≤sizeLine∧∀p,H1 p=none→Q (.ref p) (upd H1 p (.tup xs))
def tLst (t:TA):TE:=λσ H Q=>t σ H λxs H1=>xs.length≤sizeLine∧∀p,H1 p=none→Q (.ref p) (upd H1 p (.lst xs))
theorem zm {x1}(h:PA X es t):PE X (.Tuple es x1 pos) (tTup t):=by
 intro pins s σ H Q I hq
 refine wpAny_Tuple_spliced (thn (h pos pins s σ H _ I hq) λus s1 ⟨xs,H1,I1,r,z,q⟩=>⟨by rw [←r.length];exact z,?_⟩)
 have hf:H1 s1.heap.objs.size=none:=I1.hok.fresh (ah _)
 refine ⟨.ref s1.heap.objs.size,upd H1 s1.heap.objs.size (.tup xs),I1.laid (t':=s1.toks) (λb u e=>af _ e) (ah _) ?_,rfl,q _ hf⟩
 exact ⟨z,us,r,⟨_,ar _ rfl,rfl,_,rfl⟩⟩
theorem um (h:PA X es t):PE X (.List es pos) (tLst t):=by
 intro pins s σ H Q I hq
 refine wpAny_List_spliced (thn (h pos pins s σ H _ I hq) λus s1 ⟨xs,H1,I1,r,z,q⟩=>⟨by rw [←r.length];exact z,?_⟩)
 have hf:H1 s1.heap.objs.size=none:=I1.hok.fresh (ah _)
 refine ⟨.ref s1.heap.objs.size,upd H1 s1.heap.objs.size (.lst xs),I1.laid (t':=s1.toks) (λb u e=>af _ e) (ah _) ?_,rfl,q _ hf⟩
 exact ⟨z,us,0,r,ar _ rfl⟩
end
abbrev Sp:=List V→Hp→VK→XK→Prop
abbrev CXT:=List Env→Hp→Ab→XK→Ag→Ab→Prop
structure Env0 (P:Ac)(w:Ah)(K:Aa)(mg:Str→Option Ag)(base:Heap)(A:Ae)(outer:List Env)(s:Ab)(H:Hp):Prop where
 frames:A.frames=some outer
 mod:Mod K mg base
 bs:∀b o,base.get? b=some o→s.heap.get? b=some o∧H b=none
 bsz:base.objs.size≤s.heap.objs.size
 funs:s.heap.FunFrames base outer
 frf:∀b∈frs outer,H b=none
 hok:HOk P w H s.heap
 bare:AllBare s.gens
def CE (outer:List Env)(P:Ac)(w:Ah)(H:Hp)(s:Ab)(Q:VK)(u:Ag)(s':Ab):Prop :=
 ∃v H',s'.os=s.os∧AllBare s'.gens∧Un (frs outer) [] H H' s.heap s'.heap∧HOk P w H' s'.heap∧RelV v u∧Q v H'
def CR (CX:CXT)(outer:List Env)(P:Ac)(w:Ah)(H:Hp)(s:Ab)(Q:VK)(E:XK)(r:Result)(s':Ab):Prop :=
 match r with
 |.ok (.ret u)=>CE outer P w H s Q u s'
 |.ok _=>False
 |.error e=>CX outer H s E e s'
structure FnOk (P:Ac)(w:Ah)(K:Aa)(mg:Str→Option Ag)(base:Heap)(CX:CXT)(k:Nat)(f:Aj)(fd:Ad)(ps:List Str)(sp:Sp):Prop where
 len:∀vs H Q E,sp vs H Q E→vs.length=ps.length
 run:∀(A:Ae) (outer:List Env) (s:Ab) (H:Hp) (args:Args) (us:List Ag) (vs:List V) (Q:VK) (E:XK),Room k A→Env0 P w K mg base A outer s H→BindsTo s fd args (ps.zip us)→Vals vs us→sp vs H Q E →
  codeAny (model P w) A (.call (.ref f) args) (CR CX outer P w H s Q E) s
theorem Env0.make {P:Ac}{w:Ah}{K:Aa}{mg:Str→Option Ag}{base:Heap}{A:Ae}{outer:List Env}{s:Ab}{H:Hp}(e:Env0 P w K mg base A outer s H)(C:Aj)(us:List Ag)(kw:List (Str×Ag)) :
  Env0 P w K mg base (A.under (.builtin "type.__call__" ⟨.ref C::us,kw⟩)) outer s H:=⟨by first | exact e.frames | (simpa [Around.under,Code.envs,Code.isFrame,pushEnvs] using e.frames),e.mod,e.bs,e.bsz,e.funs,e.frf,e.hok,e.bare⟩
section
variable {X:Cx}{pins:List (Aj×Obj)}{σ:St}{H:Hp}{s s':Ab}
theorem Inv.env0 (I:Inv X pins σ H s):Env0 X.prog X.w X.K X.mg X.base X.A X.stack s H :=
 ⟨I.ok.frames,I.ok.mod,I.bs,bB I.ok.bsz I.sz,I.stack,I.stkFree,I.hok,I.bare⟩
theorem Inv.after {Q:VK}{u:Ag}(I:Inv X pins σ H s)(h:CE X.stack X.prog X.w H s Q u s'):EP X pins σ Q u s':=by
 obtain ⟨v,H',os,bare,un,hok,r,q⟩:=h
 obtain ⟨hh,g,d,t,os'⟩:=s'
 obtain rfl:os'=s.os:=os
 exact ⟨v,H',I.call (h':=hh) (g':=g) (d':=d) (t':=t) (ch:=[]) un hok bare (λb z=>absurd z (by simp)),r,q⟩
end
def Binds (K:Aa)(fd:Ad)(ps:List Str)(ds:List Ag):Prop :=
 ∀(s:Ab) (us:List Ag),K.In s.heap→(us++ds).length=ps.length→BindsTo s fd ⟨us,[]⟩ (ps.zip (us++ds))
theorem Binds.all {K:Aa}{fd:Ad}{ps:List Str}(h:∀us:List Ag,us.length=ps.length→bindArgs fd ⟨us,[]⟩=pure (ps.zip us)):Binds K fd ps []:=λs us _ hl=>by
 rw [cA] at hl ⊢
 exact .of_eq (h us hl)
section
variable {X:Cx}{CX:CXT}{k:Nat}{f C:Aj}{fd:Ad}{ps:List Str}{sp:Sp}{dvs:List V}{ds:List Ag}{E:XK}{x m:Str}{p pos apos:Pos}{e o:Expr}{es:List Expr}{ta:TE}{t:TA}
structure Mk (K:Aa)(C f:Aj):Prop where
 makes:PySem.W.makesIn K C=true
 init:PySem.W.findIn K (.ref C) "__init__" = some (some (.ref f))
 fn:PySem.W.isFn K (.ref f)=true
 kp:PySem.W.keepIn K (.ref C)=true
end
section
variable {X:Cx}{CX:CXT}{k:Nat}{f C:Aj}{fd:Ad}{ps ks:List Str}{sp:Sp}{E:XK}{x m:Str}{p pos apos kpos:Pos}{e o:Expr}{es:List Expr}{kws:List Keyword}{te ta:TE}{t tk:TA}{nm:Option Str}
structure KBinds (K:Aa)(fd:Ad)(ps ks:List Str)(g:List Ag→List Ag→List Ag)(gV:List V→List V→List V):Prop where
 to:∀(s:Ab) (us ws:List Ag),K.In s.heap→(g us ws).length=ps.length→BindsTo s fd ⟨us,ks.zip ws⟩ (ps.zip (g us ws))
 rel:∀ {vs:List V} {us:List Ag} {zs:List V} {ws:List Ag},Vals vs us→Vals zs ws→Vals (gV vs zs) (g us ws)
variable {g:List Ag→List Ag→List Ag}{gV:List V→List V→List V}
end
structure FnScope (N P:List Str)(sc:Scope):Prop where
 kind:sc.kind=.function
 co:sc.isCoroutine=false
 gen:sc.isGenerator=false
 nd:N.Nodup
 pre:N.take P.length=P
 par:∀x∈P,sc.names.lookup x=some .local∨sc.names.lookup x=some .cell
 nofree:∀y∈sc.names,y.2≠.free
theorem qwb {kindOf:Str→Option NameKind}{x:Str}:∀ {binds:List (Str×Ag)} {m:Str→Option Ag},(∀v,(x,v)∉binds)→bindL kindOf binds m x=m x
 |[],_,_=>rfl
 |(n,v)::r,m,h=>by
  unfold bindL
  rw [qwb λw hw=>h w (bf _ hw)]
  split
  ·have:x≠n:=by rintro rfl;exact h v cV
   simp [this]
  ·rfl
theorem qwx {kindOf:Str→Option NameKind}{x:Str}:∀ {binds:List (Str×Ag)} {m:Str→Option Ag},(∀v,(x,v)∉binds)→bindC kindOf binds m x=m x
 |[],_,_=>rfl
 |(n,v)::r,m,h=>by
  unfold bindC
  rw [qwx λw hw=>h w (bf _ hw)]
  split
  ·rfl
  ·have:x≠n:=by rintro rfl;exact h v cV
   simp [this]
theorem qwd {kindOf:Str→Option NameKind}{x:Str}{v:Ag}:∀ {P:List Str} {vs:List Ag} {i:Nat} {m:Str→Option Ag},P.Nodup→P[i]?=some x→vs[i]?=some v→kindOf x=some .local →
  bindL kindOf (P.zip vs) m x=some v
 |[],_,_,_,_,h,_,_=>by simp at h
 |_::_,[],_,_,_,_,h,_=>by simp at h
 |p::P,w::vs,0,m,nd,h1,h2,hk=>by
  simp at h1 h2;subst h1;subst h2
  show bindL kindOf ((p,w)::P.zip vs) m p=_
  unfold bindL
  rw [qwb λv hv=>(ba.mp nd).1 (eP hv).1,al hk]
  simp
 |p::P,w::vs,i+1,m,nd,h1,h2,hk=>by
  show bindL kindOf ((p,w)::P.zip vs) m x=_
  unfold bindL
  exact qwd (i:=i) (ba.mp nd).2 (by simpa using h1) (by simpa using h2) hk
theorem qwy {kindOf:Str→Option NameKind}{x:Str}{v:Ag}:∀ {P:List Str} {vs:List Ag} {i:Nat} {m:Str→Option Ag},P.Nodup→P[i]?=some x→vs[i]?=some v→kindOf x≠some .local →
  bindC kindOf (P.zip vs) m x=some v
 |[],_,_,_,_,h,_,_=>by simp at h
 |_::_,[],_,_,_,_,h,_=>by simp at h
 |p::P,w::vs,0,m,nd,h1,h2,hk=>by
  simp at h1 h2;subst h1;subst h2
  show bindC kindOf ((p,w)::P.zip vs) m p=_
  unfold bindC
  rw [qwx λv hv=>(ba.mp nd).1 (eP hv).1,ai hk]
  simp
 |p::P,w::vs,i+1,m,nd,h1,h2,hk=>by
  show bindC kindOf ((p,w)::P.zip vs) m x=_
  unfold bindC
  exact qwy (i:=i) (ba.mp nd).2 (by simpa using h1) (by simpa using h2) hk
def Qk (N:List Str)(vs:List V):St:=vs.map some++List.replicate (N.length-vs.length) none
def qqp (CX:CXT)(P:Ac)(w:Ah)(K:Aa)(mg:Str→Option Ag)(base:Heap)(N:List Str)(qual:Str)(scope:Scope)(f:Aj)(cd:Ag)(A:Ae)(outer:List Env)(s:Ab)(H:Hp)(E:XK):Cx where
 prog:=P
 w:=w
 K:=K
 mg:=mg
 base:=base
 A:=A.deeper (envOfC qual scope s.heap.objs.size f cd)
 N:=N
 s₀:=s
 H₀:=H
 env:=envOfC qual scope s.heap.objs.size f cd
 outer:=outer
 stack:=envOfC qual scope s.heap.objs.size f cd::outer
 ex:=[]
 calm:=true
 fn:=λ_=>true
 pn:=[]
 xe:=λe s'=>wpAny (model P w) (A.deeper (envOfC qual scope s.heap.objs.size f cd)) (leaving (envOfC qual scope s.heap.objs.size f cd) e) (λ_ s''=>CX outer H s E e s'') (λe' s''=>CX outer H s E e' s'') s'
theorem qz1 {sc:Scope}{n:Nat}{x:Str}(h:sc.names.lookup x=some .cell):∃c,(cellsFrom n sc.names []).lookup x=some c:=by
 have q:=PySem.W.cellsFrom_some sc.names n [] (.inl h)
 exact eA.mp q
theorem quw {CX:CXT}{P:Ac}{w:Ah}{K:Aa}{mg:Str→Option Ag}{base:Heap}{N ps:List Str}{qual:Str}{scope:Scope}{f:Aj}{cd:Ag}{A:Ae}{outer:List Env}{s s1:Ab}{H:Hp}{E:XK}{us:List Ag}{vs:List V}
  (S:FnScope N ps scope) (hd:A.handled=none) (e0:Env0 P w K mg base A outer s H) (hl:vs.length=ps.length) (r:Vals vs us)
  (x:InCallC s s.heap.objs.size (bindL (envOfC qual scope s.heap.objs.size f cd).kindOf (ps.zip us) λ_=>none) (cellsFrom (s.heap.objs.size+1) scope.names []) (bindC (envOfC qual scope s.heap.objs.size f cd).kindOf (ps.zip us) λ_=>none) s1) :
  Inv (qqp CX P w K mg base N qual scope f cd A outer s H E) [] (Qk N vs) H s1:=by
 have hpl:ps.length≤N.length:=by have:=bq List.length S.pre;rw [bA] at this;lia
 obtain ⟨h1,tk,rfl,hk⟩:=x.done
 have noA:∀b:Aj,b∉(qqp CX P w K mg base N qual scope f cd A outer s H E).ex:=λb z=>absurd (show b∈([]:List Aj) from z) (by simp)
 refine ⟨⟨e0.mod,S.kind,rfl,rfl,ah _,λy z c h1 h2=>?_,λy hy=>?_,λy c _ h=>?_,λ_=>hd,Around.frames_deeper e0.frames,.inr ⟨rfl,rfl⟩,λb z=>absurd z (noA b),e0.bs,e0.bsz,λb _ _=>noA b,λb z=>absurd z (noA b),e0.funs,e0.frf⟩,
  rfl,e0.bare,Un.kept hk,⟨_,x.toInCall.ns,λi y v h1 h2 h3=>?_⟩,λy c h=>⟨_,x.cell y c h⟩,e0.hok.fresh (ah _),λy c h=>?_,λp hp=>absurd (show p∈([]:List (Aj×Obj)) from hp) (by simp),e0.hok.kept hk,?_⟩
 ·exact name_of_addr x.apart (cu h1) (cu h2)
 ·have hy:scope.names.lookup y=some .cell∨scope.names.lookup y=some .free:=hy
  rcases hy with hy|hy
  ·exact qz1 hy
  ·exact absurd rfl (S.nofree _ (cu hy))
 ·exact bC (x.above y c (cu h))
 ·have hi:i<vs.length:=by
   unfold Qk at h2
   by_cases hi:i<vs.length
   ·exact hi
   ·rw [bb (by simpa using hi)] at h2
    rw [List.getElem?_replicate] at h2
    split at h2 <;> cases h2
  have ha:vs[i]?=some v:=by
   unfold Qk at h2
   rw [bn (by simpa using hi),aG] at h2
   cases e:vs[i]? with
   |none=>rw [e] at h2;cases h2
   |some a=>rw [e] at h2;cases h2;rfl
  obtain ⟨u,hu,rv⟩:=r.get ha
  have hp:ps[i]?=some y:=by
   rw [←S.pre,List.getElem?_take_of_lt (by lia)];exact h1
  have ndP:ps.Nodup:=by rw [←S.pre];exact S.nd.sublist (List.take_sublist _ _)
  refine ⟨u,rv,?_⟩
  rcases S.par y (bg hp) with k|k
  ·exact .inl ⟨k,qwd ndP hp hu k⟩
  ·obtain ⟨c,e⟩:=qz1 (n:=s.heap.objs.size+1) k
   refine .inr ⟨.inl k,c,e,?_⟩
   have q:=x.cell y c e
   rw [qwy ndP hp hu (by show scope.names.lookup y≠_;rw [k];decide)] at q
   exact q
 ·exact e0.hok.fresh (bC (x.above y c (cu h)))
 ·unfold Qk
  show _=N.length
  rw [au,ae,List.length_replicate]
  lia
theorem fn_of {CX:CXT}{P:Ac}{w:Ah}{K:Aa}{mg:Str→Option Ag}{base:Heap}{k:Nat}{f:Aj}{name qual:Str}{params:Arguments}{body:List Stmt}{scope:Scope}{dV kV doc pm cdv ct oc:Ag}{an od:Option Aj}
  {osl:Array (Option Ag)} {N ps:List Str} {sp:Sp} (lk:K.lookup f=some ⟨oc,od,.func (PySem.W.fnOf name qual params body scope dV kV doc pm an cdv ct),osl⟩) (hcd:PySem.W.codeIn K cdv qual=true) (S:FnScope N ps scope)
  (len:∀vs H Q E,sp vs H Q E→vs.length=ps.length)
  (hbody:∀(A:Ae) (outer:List Env) (s:Ab) (H:Hp) (vs:List V) (Q:VK) (E:XK),Room k (A.deeper (envOfC qual scope s.heap.objs.size f cdv))→sp vs H Q E →
   ∃t,PSs (qqp CX P w K mg base N qual scope f cdv A outer s H E) body t∧t { nx:=λ_ H'=>Q .non H',rt:=Q } (Qk N vs) H) :
  FnOk P w K mg base CX (k+1) f (PySem.W.fnOf name qual params body scope dV kV doc pm an cdv ct) ps sp:=by
 refine ⟨len,λA outer s H args us vs Q E hr e0 hb r hsp=>?_⟩
 have hl:=len _ _ _ _ hsp
 have KX:K.In s.heap:=e0.mod.kin.keeps λb o e=>(e0.bs b o e).1
 have lim:s.heap.NoLimit:=e0.mod.nolimit.keeps λb o e=>(e0.bs b o e).1
 have hkind:∀y∈ps.zip us,scope.names.lookup y.1=some .local∨(scope.names.lookup y.1=some .cell∧((cellsFrom (s.heap.objs.size+1) scope.names []).lookup y.1).isSome=true):=λ⟨n,v⟩ hy=>by
  rcases S.par n (eP hy).1 with q|q
  ·exact .inl q
  ·exact .inr ⟨q,PySem.W.cellsFrom_some _ _ _ (.inl q)⟩
 refine codeAny_call_function hr.depth (KX _ _ lk) rfl S.co S.gen rfl (PySem.W.codeRec_of KX hcd) (hb _ _ _ _ ?_)
 refine wpAny_newFunctionEnv_cells S.kind hkind λenv he s1 x=>?_
 subst he
 refine ⟨lim.keeps x.toInCall.keep,codeAny_func ?_⟩
 obtain ⟨t,ht,hq⟩:=hbody A outer s H vs Q E (hr.deeper _) hsp
 have I:Inv (qqp CX P w K mg base N qual scope f cdv A outer s H E) [] (Qk N vs) H s1:=quw S hr.hd e0 hl r x
 refine aL (ht [] s1 (Qk N vs) H _ I hq) (λfl s' hs=>?_) λe s' hs=>hs
 have fin:∀ {σ':St} {H':Hp} {v:V} {u:Ag},Inv (qqp CX P w K mg base N qual scope f cdv A outer s H E) [] σ' H' s'→RelV v u→Q v H'→CE outer P w H s Q u s' :=
  λ{σ' H' v u} J rv q=>⟨v,H',J.os,J.bare,J.base,J.hok,rv,q⟩
 cases fl with
 |ret u =>
  obtain ⟨v,σ',H',J,rv,q⟩:=hs
  exact fin J rv q
 |next =>
  obtain ⟨σ',H',J,q⟩:=hs
  exact fin (v:=V.non) (u:=Value.none) J rfl q
 |brk =>
  obtain ⟨_,_,_,q⟩:=hs
  exact False.elim q
 |cont =>
  obtain ⟨_,_,_,q⟩:=hs
  exact False.elim q
section
variable {X:Cx}{x:Str}{p pos:Pos}{e:Expr}{es:List Expr}{t:TA}{id T:String}{r:List V→Hp→VK→Prop}
def tCB (r:List V→Hp→VK→Prop)(t:TA):TE:=λσ H Q=>t σ H λvs H1=>r vs H1 Q
theorem wp (hc:kj X (.builtin id) r)(hg:Gl X x)(hm:X.mg x=none)(hv:bootBuiltins x=some (.builtin id))(ha:PA X (e::es) t)(hn:x ≠ "__name__" := by decide)(hdb:(x==("__debug__" : Str))=false:=by decide)
  (he:starEach (e::es) X.env=(false,eval e X.env)::starEach es X.env:=by rfl) (hpl:(backTo pos (starEach es X.env)).any (·.1)=false:=by rfl):PE X (.Call (.Name x p) (e::es) [] pos) (tCB r t):=by
 intro pins s σ H Q I h
 refine cy (Wc I hg hm hv ?_ hn hdb)
 exact PyProof.Rows.callWith_builtin1 (thn (ha pos pins s σ H _ I h) λus s1 ⟨vs,H1,I1,r1,q1⟩=>hc pins s1 σ H1 vs us Q I1 r1 q1) he hpl
theorem kf (hc:kj X (.type T) r)(hg:Gl X x)(hm:X.mg x=none)(hv:bootBuiltins x=some (.type T))(ha:PA X (e::es) t)(hn:x ≠ "__name__" := by decide)(hdb:(x==("__debug__" : Str))=false:=by decide)
  (he:starEach (e::es) X.env=(false,eval e X.env)::starEach es X.env:=by rfl) (hpl:(backTo pos (starEach es X.env)).any (·.1)=false:=by rfl):PE X (.Call (.Name x p) (e::es) [] pos) (tCB r t):=by
 intro pins s σ H Q I h
 refine cy (Wc I hg hm hv ?_ hn hdb)
 exact bM (thn (ha pos pins s σ H _ I h) λus s1 ⟨vs,H1,I1,r1,q1⟩=>hc pins s1 σ H1 vs us Q I1 r1 q1) he hpl
end
end L2
namespace HT
open PySem PyProof.Rows
section
open PySem.SeqAt
open PySem.AutoSeq1 (wpAny_loadPart')
open PySem.MeetsSeq PySem.MeetsSeq2 PySem.MeetsSeq3
end
section
variable {prog:Ac}{w:Ah}{A:Ae}{E:Ag→Ab→Prop}{s:Ab}
def sIx (n d:Nat):Option Int→Nat
 |none=>d
 |some v=>if v<0 then (v+(n:Int)).toNat else min v.toNat n
theorem sIx_none (n d:Nat):sIx n d none=d:=rfl
theorem sIx_nat (n d k:Nat):sIx n d (some (k:Int))=min k n:=by
 show (if (k:Int)<0 then ((k:Int)+(n:Int)).toNat else min (k:Int).toNat n)=min k n
 rw [ai (by lia),bH]
end
end HT
namespace L2
open PySem PySem.Spec PyProof.Rows
abbrev TO:=St→Hp→(Option Int→Hp→Prop)→Prop
def PO (X:Cx)(e:Option Expr)(t:TO):Prop :=
 ∀(pins:List (Aj×Obj)) (s:Ab) (σ:St) (H:Hp) (Q:Option Int→Hp→Prop),Inv X pins σ H s→t σ H Q →
  wpAny (model X.prog X.w) X.A (evalPart e X.env) (λu s'=>∃o H',Inv X pins σ H' s'∧IsPart u o∧Q o H') X.xe s
def wvs:TO:=λ_ H Q=>Q none H
def tPart (t:TE):TO:=λσ H Q=>t σ H λx H1=>∃i,x=.int i∧Q (some i) H1
theorem qkg {ns:List Int}:∀ {us:List Ag},Vals (ns.map V.int) us→IntsAre us ns:=by
 induction ns with
 |nil=>intro us r;rw [dc] at r;cases r;exact .nil
 |cons n ns ih =>
  intro us r
  rw [aS] at r
  cases r with
  |cons r1 r2 =>
   obtain ⟨t,e⟩:=r1
   subst e
   exact .cons n t (ih r2)
section
variable {X:Cx}{e:Expr}{te:TE}{lo hi:Option Expr}{tl th:TO}{pos p2:Pos}
theorem Qz:PO X none wvs:=by
 intro pins s σ H Q I h
 rw [evalPart_none]
 exact aj ⟨none,H,I,.none,h⟩
theorem Qp (h:PE X e te):PO X (some e) (tPart te):=by
 intro pins s σ H Q I hw
 rw [evalPart_some]
 refine thn (h pins s σ H _ I hw) λu s1 ⟨x,H1,I1,r1,q1⟩=>?_
 obtain ⟨i,rfl,q⟩:=q1
 obtain ⟨t,rfl⟩:=r1
 exact ⟨some i,H1,I1,.int i t,q⟩
def SlR (X:Cx)(r:V→Option Int→Option Int→Hp→VK→Prop):Prop :=
 ∀(pins:List (Aj×Obj)) (s:Ab) (σ:St) (H:Hp) (x:V) (v vl vu:Ag) (lo hi:Option Int) (sl:Aj) (Q:VK),Inv X pins σ H s→RelV x v→s.heap.IsSliceOf sl vl vu .none→IsPart vl lo→IsPart vu hi→r x lo hi H Q →
  ∃T id,typeLookup (.type T) "__getitem__" = pure (some (.builtin id))∧s.TypeIs v T∧wpAny (model X.prog X.w) X.A (getItem v (.ref sl)) (EP X pins σ Q) X.xe s
def tSl (r:V→Option Int→Option Int→Hp→VK→Prop)(te:TE)(tl th:TO):TE:=λσ H Q=>te σ H λx H1=>tl σ H1 λl H2=>th σ H2 λu H3=>r x l u H3 Q
theorem yn {r:V→Option Int→Option Int→Hp→VK→Prop}(hr:SlR X r)(he:PE X e te)(hl:PO X lo tl)(hu:PO X hi th):PE X (.Subscript e (.Slice lo hi none p2) pos) (tSl r te tl th):=by
 intro pins s σ H Q I h
 refine Subscript_ (thn (he pins s σ H _ I h) λv s1 ⟨x,H1,I1,r1,q1⟩=>?_)
 refine wpAny_Slice (thn (hl pins s1 σ H1 _ I1 q1) λvl s2 ⟨l,H2,I2,pl,q2⟩=>thn (hu pins s2 σ H2 _ I2 q2) λvu s3 ⟨u,H3,I3,pu,q3⟩=>?_)
 rw [evalPart_none]
 refine aj ?_
 have I4:Inv X pins σ H3 { s3 with heap:=s3.heap.push { cls:=.type "slice",data:=.fields #[vl,vu,.none] } }:=I3.kept (t':=s3.toks) λb ob q=>af _ q
 obtain ⟨T,id,hT,ht,hg⟩:=hr pins { s3 with heap:=s3.heap.push { cls:=.type "slice",data:=.fields #[vl,vu,.none] } } σ H3 x v vl vu l u s3.heap.objs.size Q I4 r1 (Heap.IsSliceOf.new ..) pl pu q3
 show wpAny (model X.prog X.w) X.A (subscriptTail e (.Slice lo hi none p2) v (.ref s3.heap.objs.size)) (EP X pins σ Q) X.xe { s3 with heap:=s3.heap.push { cls:=.type "slice",data:=.fields #[vl,vu,.none] } }
 exact tail_any (ops:=[.ref s3.heap.objs.size,v]) ht hT hg (by with_unfolding_all rfl)
def vm (xs:List V)(lo hi:Option Int):List V:=(xs.drop (HT.sIx xs.length 0 lo)).take (HT.sIx xs.length xs.length hi-HT.sIx xs.length 0 lo)
theorem yt (xs:List V)(lo hi:Option Int):(vm xs lo hi).length≤xs.length:=by
 unfold vm
 rw [bA,List.length_drop]
 lia
end
def ixN (n:Nat)(i:Int):Option Nat:=if 0≤i then (if i<n then some i.toNat else none) else if -(n:Int)≤i then some (i+n).toNat else none
def atI {α:Type}(xs:List α)(i:Int):Option α:=(ixN xs.length i).bind λj=>xs[j]?
theorem qjr {n:Nat}{i:Int}{j:Nat}(h:ixN n i=some j):seqIndex? i n=some j∧j<n∧-(n:Int)≤i∧i<n:=by
 unfold ixN at h
 by_cases h0:0≤i
 ·rw [al h0] at h
  by_cases h1:i<n
  ·rw [al h1] at h
   have e:i.toNat=j:=aw h
   exact ⟨by rw [seqIndex_of h0 h1,e],by lia,by lia,h1⟩
  ·rw [ai h1] at h;cases h
 ·rw [ai h0] at h
  by_cases h1:-(n:Int)≤i
  ·rw [al h1] at h
   have e:(i+n).toNat=j:=aw h
   exact ⟨by rw [seqIndex_neg (by lia) h1,e],by lia,h1,by lia⟩
  ·rw [ai h1] at h;cases h
theorem qjn {α:Type}{xs:List α}{i:Int}{v:α}(h:atI xs i=some v):∃j,seqIndex? i xs.length=some j∧xs[j]?=some v∧j<xs.length∧-(xs.length:Int)≤i∧i<xs.length:=by
 unfold atI at h
 cases e:ixN xs.length i with
 |none=>rw [e] at h;cases h
 |some j =>
  rw [e] at h
  obtain ⟨h1,h2,h3,h4⟩:=qjr e
  exact ⟨j,h1,h,h2,h3,h4⟩
theorem k4 {α:Type}{xs:List α}{j:Nat}{v:α}(h:xs[j]?=some v):atI xs (j:Int)=some v:=by
 have hj:j<xs.length:=(aQ.mp h).1
 have e:ixN xs.length (j:Int)=some j:=by
  unfold ixN
  rw [al (by lia),al (by lia)];simp
 unfold atI;rw [e];exact h
theorem wq3 {α:Type}(xs:List α)(v:α):atI (xs++[v]) (-1)=some v:=by
 have hl:(xs++[v]).length=xs.length+1:=by simp
 have e:ixN (xs++[v]).length (-1)=some xs.length:=by
  unfold ixN
  rw [hl,ai (by decide),al (by lia)]
  congr 1
  lia
 unfold atI
 rw [e]
 show (xs++[v])[xs.length]?=some v
 simp
def wzy (b:Expr):Prop:=∀o i,subscripted b false o i=operate [o,i] (getItem o i)
def IxR (X:Cx)(r:R2):Prop :=
 ∀(value slice:Expr) (pins:List (Aj×Obj)) (s:Ab) (σ:St) (H:Hp) (x y:V) (v u:Ag) (Q:VK),Inv X pins σ H s→RelV x v→RelV y u→r x y H Q →
  subscripted slice false v u=operate [v,u] (getItem v u)→wpAny (model X.prog X.w) X.A (subscriptTail value slice v u) (EP X pins σ Q) X.xe s
def MtR (X:Cx)(id:String)(r:V→List V→Hp→VK→Prop):Prop :=
 ∀(pins:List (Aj×Obj)) (s:Ab) (σ:St) (H:Hp) (x:V) (xs:List V) (v:Ag) (us:List Ag) (Q:VK),Inv X pins σ H s→RelV x v→Vals xs us→r x xs H Q →
  wpAny (model X.prog X.w) X.A (call (.builtin id) (v::us)) (EP X pins σ Q) X.xe s
section
variable {X:Cx}{a b:Expr}{ta tb:TE}{pos:Pos}
theorem xp {r:R2}(hr:IxR X r)(ha:PE X a ta)(hb:PE X b tb)(hs:wzy b):PE X (.Subscript a b pos) (tOp r ta tb):=by
 intro pins s σ H Q I h
 exact Subscript_ (binT ha hb I h λv u s2 x y H2 I2 rx ry q=>hr a b pins s2 σ H2 x y v u Q I2 rx ry q (hs _ _))
def rIxL (K:Aa):R2:=λx y H Q=>∃p xs i v,x=.ref p∧y=.int i∧SqL K H p xs∧atI xs i=some v∧Q v H
def rIxT (K:Aa):R2:=λx y H Q=>∃p xs i v,x=.ref p∧y=.int i∧SqT K H p xs∧atI xs i=some v∧Q v H
theorem zw:IxR X (rIxL X.K):=by
 intro value slice pins s σ H x y v u Q I rx ry h hs
 obtain ⟨p,xs,i,z,rfl,rfl,hq,he,q⟩:=h
 cases rx
 obtain ⟨t,rfl⟩:=ry
 obtain ⟨its,r,pl,hz⟩:=I.list hq
 obtain ⟨j,h1,h2,h3,h4,h5⟩:=qjn he
 obtain ⟨w,ew,rw'⟩:=r.get h2
 have hl:=r.length
 have hn:=Wz
 have fin:EP X pins σ Q w s:=⟨z,H,I,rw',q⟩
 by_cases h0:0≤i
 ·have hj:i.toNat=j:=by
   rw [seqIndex_of h0 h5] at h1
   exact aw h1
  exact item_listR pl.isList h0 (by lia) (by rw [hj];simpa using ew) fin hs
 ·have hj:(i+(its.toArray.size:Int)).toNat=j:=by
   rw [seqIndex_neg (by lia) h4] at h1
   rw [az,←hl]
   exact aw h1
  exact subscriptTail_builtinR (x:=w) pl.isList.typeIs slot_list_getitem.lookup
   (wpAny_getItem_list_neg (Q:=λr s'=>r=w∧EP X pins σ Q r s') pl.isList (by lia) (by rw [az] <;> lia) (by lia) (by rw [hj];simpa using ew) ⟨rfl,fin⟩) hs
theorem zb:IxR X (rIxT X.K):=by
 intro value slice pins s σ H x y v u Q I rx ry h hs
 obtain ⟨p,xs,i,z,rfl,rfl,hq,he,q⟩:=h
 cases rx
 obtain ⟨t,rfl⟩:=ry
 obtain ⟨its,r,pl,hz⟩:=I.tuple hq
 obtain ⟨j,h1,h2,h3,h4,h5⟩:=qjn he
 obtain ⟨w,ew,rw'⟩:=r.get h2
 have hl:=r.length
 have hn:=Wz
 have fin:EP X pins σ Q w s:=⟨z,H,I,rw',q⟩
 exact subscriptTail_builtinR (x:=w) pl.typeIs slot_tuple_getitem.lookup
  (getItem_tuple (j:=j) (Q:=λr s'=>r=w∧EP X pins σ Q r s') pl (by lia) (by lia) (by rw [az,←hl];exact h1) (by simpa using ew) ⟨rfl,fin⟩) hs
theorem qjz (its:List Ag)(n j:Nat)(u:Ag):Obj.mapSeq (·.setIfInBounds j u) { cls:=.type "list",data:=.seq its.toArray n }={ cls:=.type "list",data:=.seq (its.set j u).toArray n }:=by
 simp [Obj.mapSeq]
theorem Inv.lst {pins:List (Aj×Obj)}{σ:St}{H:Hp}{s:Ab}{p:Aj}{xs:List V}(I:Inv X pins σ H s)(h:H p=some (.lst xs)) :
  ∃(its:List Ag) (n:Nat),Vals xs its∧s.heap.get? p=some { cls:=.type "list",data:=.seq its.toArray n }∧xs.length≤sizeLine:=by
 obtain ⟨z,its,n,r,e⟩:=I.hok p _ h
 exact ⟨its,n,r,e,z⟩
theorem Inv.lstUpd {pins:List (Aj×Obj)}{σ:St}{H:Hp}{s:Ab}{p:Aj}{xs ys:List V}{its its':List Ag}{n n':Nat}{f:Obj→Obj}(I:Inv X pins σ H s)(h:H p=some (.lst xs))
  (ho:s.heap.get? p=some { cls:=.type "list",data:=.seq its.toArray n }) (hf:f { cls:=.type "list",data:=.seq its.toArray n }={ cls:=.type "list",data:=.seq its'.toArray n' }) (r:Vals ys its') (hz:ys.length≤sizeLine) (t:Nat) :
  Inv X pins σ (upd H p (.lst ys)) { s with heap:=s.heap.update p f,toks:=t }:=by
 have e:(s.heap.update p f).get? p=some { cls:=.type "list",data:=.seq its'.toArray n' }:=by
  rw [dk f ho (by rw [hf] <;> rfl),hf]
 refine I.write (x:=p) (e:=p) (by rw [h];trivial) (.inl rfl) (λb u hb q=>(Heap.get?_update_other _ _ (aU hb)).trans q) ⟨_,e⟩ ?_
 exact ⟨hz,its',n',r,e⟩
def rSetL:V→V→V→Hp→(Hp→Prop)→Prop:=λo i v H Q=>∃p xs k j,o=.ref p∧i=.int k∧H p=some (.lst xs)∧ixN xs.length k=some j∧Q (upd H p (.lst (xs.set j v)))
theorem ww1:PSet X rSetL:=by
 intro pins s σ H o i v ov iv u Q I ro ri rv h
 obtain ⟨p,xs,k,j,rfl,rfl,hp,hj,q⟩:=h
 cases ro
 obtain ⟨t,rfl⟩:=ri
 obtain ⟨its,n,r,ho,hz⟩:=I.lst hp
 obtain ⟨h1,h2,h3,h4⟩:=qjr hj
 have hl:=r.length
 have hn:=Wz
 have I':Inv X pins σ (upd H p (.lst (xs.set j v))) { s with heap:=s.heap.update p (Obj.mapSeq (·.setIfInBounds j u)) } :=
  I.lstUpd hp ho (qjz its n j u) (r.set rv j) (by rw [cT];exact hz) s.toks
 by_cases h0:0≤k
 ·have hk:k.toNat=j:=by
   rw [seqIndex_of h0 h4] at h1
   exact aw h1
  exact PySem.W.ki_setAt ho h0 (by lia) (by rw [az,←hl];exact h4) (by rw [hk];exact ⟨_,I',q⟩)
 ·have hk:(k+(its.toArray.size:Int)).toNat=j:=by
   rw [seqIndex_neg (by lia) h3] at h1
   rw [az,←hl]
   exact aw h1
  exact PySem.W.ki_setBack ho (by lia) (by rw [az,←hl];exact h3) (by lia) (by rw [hk];exact ⟨_,I',q⟩)
theorem qx2 (lo hi:Option Int)(n:Nat):(sliceBounds lo hi none n).1=((HT.sIx n 0 lo:Nat):Int)∧(sliceBounds lo hi none n).2.1=((HT.sIx n n hi:Nat):Int)∧(sliceBounds lo hi none n).2.2=1:=by
 refine ⟨?_,?_,rfl⟩
 ·cases lo with
  |none=>simp [sliceBounds,HT.sIx]
  |some i =>
   simp only [sliceBounds,HT.sIx,Option.getD_none,show (1:Int)>0 by decide,eN]
   by_cases h:i<0
   ·simp only [h,eN] <;> lia
   ·simp only [h,de] <;> lia
 ·cases hi with
  |none=>simp [sliceBounds,HT.sIx]
  |some i =>
   simp only [sliceBounds,HT.sIx,Option.getD_none,show (1:Int)>0 by decide,eN]
   by_cases h:i<0
   ·simp only [h,eN] <;> lia
   ·simp only [h,de] <;> lia
theorem qqx (its:List Ag)(lo hi:Option Int):slicePick its.toArray lo hi none=((its.drop (HT.sIx its.length 0 lo)).take (HT.sIx its.length its.length hi-HT.sIx its.length 0 lo)).toArray:=by
 obtain ⟨h1,h2,h3⟩:=qx2 lo hi its.toArray.size
 unfold slicePick
 rw [h1,h2,h3]
 simp only [sliceRange_one,pick_run,az] <;> rfl
def rSlL (K:Aa):V→Option Int→Option Int→Hp→VK→Prop:=λx lo hi H Q=>∃a xs,x=.ref a∧SqL K H a xs∧∀p,H p=none→Q (.ref p) (upd H p (.lst (vm xs lo hi)))
theorem Qu:SlR X (rSlL X.K):=by
 intro pins s σ H x v vl vu lo hi sl Q I rx hs pl pu h
 obtain ⟨a,xs,rfl,hx,q⟩:=h
 cases rx
 obtain ⟨its,r,ht,hz⟩:=I.list hx
 have hlen:=r.length
 refine ⟨"list",_,slot_list_getitem.lookup,ht.isList.typeIs,?_⟩
 refine wpAny_getItem_list_slice ht.isList hs pl pu .none (by simp) ?_ (by rw [az] <;> lia)
 rw [qqx,←hlen]
 refine ⟨.ref s.heap.objs.size,_,I.laid (t':=s.toks) (o:=.lst (vm xs lo hi)) (λb ob q=>af _ q) (ah _) ?_,rfl,q _ (I.hok.fresh (ah _))⟩
 exact ⟨bB (yt xs lo hi) hz,_,0,(r.drop (HT.sIx xs.length 0 lo)).take (HT.sIx xs.length xs.length hi-HT.sIx xs.length 0 lo),ar _ rfl⟩
theorem w8:kj X (.builtin "len") (λxs H Q=>∃p ys,xs=[.ref p]∧(SqL X.K H p ys∨SqT X.K H p ys)∧Q (.int ys.length) H):=by
 intro pins s σ H xs us Q I r h
 obtain ⟨p,ys,rfl,hq,q⟩:=h
 obtain ⟨u,rfl,rx⟩:=jd r
 cases rx
 have hn:=Wz
 rcases hq with hq|hq
 ·obtain ⟨its,r',pl,hz⟩:=I.list hq
  have hlen:=r'.length
  exact Calls.call_len_list pl.isList (by simp only [az] <;> lia) ⟨.int ys.length,H,I.tok _,⟨s.toks+1,by rw [az,hlen]⟩,q⟩
 ·obtain ⟨its,r',pl,hz⟩:=I.tuple hq
  have hlen:=r'.length
  exact len_tuple pl (by simp only [az] <;> lia) ⟨.int ys.length,H,I.tok _,⟨s.toks+1,by rw [az,hlen]⟩,q⟩
theorem Qx:kj X (.builtin "len") (λxs H Q=>∃z,xs=[.str z]∧z.length≤sizeLine∧Q (.int z.length) H):=by
 intro pins s σ H xs us Q I r h
 obtain ⟨z,rfl,hz,q⟩:=h
 obtain ⟨u,rfl,t,rfl⟩:=jd r
 have hn:=Wz
 exact len_str (by lia) ⟨.int z.length,H,I.tok _,⟨_,rfl⟩,q⟩
theorem jv:kj X (.type "list") (λxs H Q=>∃p ys,xs=[.ref p]∧(SqL X.K H p ys∨SqT X.K H p ys)∧∀l,H l=none→Q (.ref l) (upd H l (.lst ys))):=by
 intro pins s σ H xs us Q I r h
 obtain ⟨p,ys,rfl,hq,q⟩:=h
 obtain ⟨u,rfl,rx⟩:=jd r
 cases rx
 have fin:∀(its:List Ag),Vals ys its→ys.length≤sizeLine→∀(h':Heap) (c':Nat),(∀b o',s.heap.get? b=some o'→h'.get? b=some o') →
   h'.get? s.heap.objs.size=some { cls:=.type "list",dict:=none,data:=.seq its.toArray c',slots:=#[] }→EP X pins σ Q (.ref s.heap.objs.size) { s with heap:=h' }:=λits r' hz h' c' kp e =>
  ⟨.ref s.heap.objs.size,_,I.laid (t':=s.toks) kp (ah _) (show ObjOk X.prog X.w _ h' _ (.lst ys) from ⟨hz,its,c',r',e⟩),rfl,q _ (I.hok.fresh (ah _))⟩
 rcases hq with hq|hq
 ·obtain ⟨its,r',pl,hz⟩:=I.list hq
  have hlen:=r'.length
  obtain ⟨o,ho,hc,n,hd⟩:=pl.isList
  exact call_list_seq p (.inl rfl) ho hc hd (λh' c' kp e=>fin its r' hz h' c' kp e) (by simp only [az] <;> lia)
 ·obtain ⟨its,r',pl,hz⟩:=I.tuple hq
  have hlen:=r'.length
  obtain ⟨o,ho,hc,n,hd⟩:=pl
  exact call_list_seq p (.inr rfl) ho hc hd (λh' c' kp e=>fin its r' hz h' c' kp e) (by simp only [az] <;> lia)
def tyV (K:Aa)(T:String)(x:V)(H:Hp):Prop:=match x with
 |.str _=>T = "str"
 |.int _=>T = "int"
 |.ref p=>(T = "list" ∧ ∃xs,SqL K H p xs)∨(T = "tuple" ∧ ∃o,K.lookup p=some o∧o.cls=.type "tuple" ∧ o.dict=none) ∨
   (T = "dict" ∧ ((∃kvs,H p=some (.dK kvs))∨∃kvs,H p=some (.dT kvs)))∨(T = "set" ∧ ∃S n,H p=some (.set S n))
 |_=>False
theorem wxn {pins:List (Aj×Obj)}{σ:St}{H:Hp}{s:Ab}{T:String}{x:V}{v:Ag}(I:Inv X pins σ H s)(r:RelV x v)(ty:tyV X.K T x H) :
  s.TypeIs v T∧∀a,v=.ref a→∃ob,s.heap.get? a=some ob∧ob.dict=none:=by
 cases x with
 |str z =>
  obtain ⟨t,rfl⟩:=r
  cases (show T = "str" from ty)
  exact ⟨typeIs_str s z t,λ_ e=>nomatch e⟩
 |int i =>
  obtain ⟨t,rfl⟩:=r
  cases (show T = "int" from ty)
  exact ⟨typeIs_int s i t,λ_ e=>nomatch e⟩
 |ref p =>
  cases r
  rcases ty with ⟨rfl,xs,hq⟩|⟨rfl,o,hk,hc,hd⟩|⟨rfl,hk⟩|⟨rfl,S,n,hk⟩
  ·obtain ⟨its,_,pl,_⟩:=I.list hq
   refine ⟨pl.isList.typeIs,λa e=>?_⟩
   cases e
   obtain ⟨o,n,e,c,hd,_⟩:=pl
   exact ⟨o,e,hd⟩
  ·refine ⟨⟨o,I.kIn p o hk,hc⟩,λa e=>?_⟩
   cases e
   exact ⟨o,I.kIn _ o hk,hd⟩
  ·have z:∃o,s.heap.get? p=some o∧o.ExactDict:=by
    rcases hk with ⟨kvs,hk⟩|⟨kvs,hk⟩
    ·obtain ⟨_,_,_,_,o,_,_,e,ex,_⟩:=I.hok p _ hk
     exact ⟨o,e,ex⟩
    ·obtain ⟨_,_,_,_,o,_,_,e,ex,_⟩:=I.hok p _ hk
     exact ⟨o,e,ex⟩
   obtain ⟨o,e,ex⟩:=z
   refine ⟨⟨o,e,ex.1⟩,λa e2=>?_⟩
   cases e2
   exact ⟨o,e,ex.2.1⟩
  ·obtain ⟨o,_,_,_,e,ex,_⟩:=I.hok p _ hk
   refine ⟨⟨o,e,ex.1⟩,λa e2=>?_⟩
   cases e2
   exact ⟨o,e,ex.2.1⟩
 |_=>exact False.elim ty
def tBM0 (K:Aa)(T:String)(r:V→List V→Hp→VK→Prop)(to:TE):TE:=λσ H Q=>to σ H λx H1=>tyV K T x H1∧r x [] H1 Q
def tBM (K:Aa)(T:String)(r:V→List V→Hp→VK→Prop)(to:TE)(t:TA):TE:=λσ H Q=>to σ H λx H1=>tyV K T x H1∧t σ H1 λxs H2=>r x xs H2 Q
variable {o e:Expr}{es:List Expr}{to:TE}{t:TA}{name:Str}{apos cpos:Pos}{T id:String}{r:V→List V→Hp→VK→Prop}
theorem pe_bm0 (pa:PlainAttrs T)(slot:Slot T name id)(hty:typeOf (.builtin id)=pure (.type "method_descriptor"))(hm:MtR X id r)(ho:PE X o to)
  (hbase:attributeBase o name X.env (eval o X.env)=eval o X.env:=by rfl) (hline:(apos.endLine==cpos.line)=true:=by rfl):PE X (.Call (.Attribute o name apos) [] [] cpos) (tBM0 X.K T r to):=by
 intro pins s σ H Q I h
 refine wpAny_Call_method0_late hbase hline (thn (ho pins s σ H _ I h) λv s1 ⟨x,H1,I1,r1,ty,q1⟩=>?_)
 obtain ⟨h1,h2⟩:=wxn I1 r1 ty
 exact ⟨T,id,pa,slot,hty,h1,h2,bN rfl (PySem.evalArgs_none (hm pins s1 σ H1 x [] v [] Q I1 r1 .nil q1))⟩
theorem qj5 (pa:PlainAttrs T)(slot:Slot T name id)(hty:typeOf (.builtin id)=pure (.type "method_descriptor"))(hm:MtR X id r)(ho:PE X o to)(ha:PA X (e::es) t)
  (hbase:attributeBase o name X.env (eval o X.env)=eval o X.env:=by rfl)
  (hfew:((backTo cpos (starEach (e::es) X.env)).all (λx=>!x.1)&&(backToKw cpos (keywordEach [] X.env)).all (λx=>x.1.isSome)
   && decide ((e::es).length+([]:List Keyword).length+(if ([]:List Keyword).isEmpty then 0 else 1)<30))=true:=by rfl)
  (hline:(apos.endLine==cpos.line)=true:=by rfl) (hs:starEach (e::es) X.env=(false,eval e X.env)::starEach es X.env:=by rfl) (hplain:(backTo cpos (starEach es X.env)).any (·.1)=false:=by rfl) :
  PE X (.Call (.Attribute o name apos) (e::es) [] cpos) (tBM X.K T r to t):=by
 intro pins s σ H Q I h
 refine wpAny_Call_method_late hbase hfew hline rfl (thn (ho pins s σ H _ I h) λv s1 ⟨x,H1,I1,r1,ty,q1⟩=>?_)
 obtain ⟨h1,h2⟩:=wxn I1 r1 ty
 refine ⟨T,id,pa,slot,hty,h1,h2,?_⟩
 have hA:=ha cpos pins s1 σ H1 _ I1 q1
 rw [hs] at hA ⊢
 refine bN (by show (false||(backTo cpos (starEach es X.env)).any (·.1))=false;rw [hplain] <;> rfl) (cH ?_)
 exact thn hA λus s2 ⟨vs,H2,I2,r2,q2⟩=>hm pins s2 σ H2 x vs v us Q I2 r1 r2 q2
end
def MtM (X:Cx)(id:String)(r:V→List V→Hp→VK→Prop):Prop :=
 ∀(pins:List (Aj×Obj)) (s:Ab) (σ:St) (H:Hp) (x:V) (xs:List V) (v:Ag) (us:List Ag) (Q:VK),Inv X pins σ H s→RelV x v→Vals xs us→r x xs H Q →
  wpAny (model X.prog X.w) X.A (call (.builtin id) (v::us)) (EP X pins σ Q) X.xe s
theorem Vals.one:∀ {x:V} {us:List Ag},Vals [x] us→∃u,us=[u]∧RelV x u
 |_,_,.cons r .nil=>⟨_,rfl,r⟩
theorem Vals.zero:∀ {us:List Ag},Vals [] us→us=[]
 |_,.nil=>rfl
theorem Vals.dropLast {xs:List V}{us:List Ag}(h:Vals xs us):Vals xs.dropLast us.dropLast:=by
 induction h with
 |nil=>exact .nil
 |cons r t ih =>
  cases t with
  |nil=>exact .nil
  |cons q t'=>exact .cons r ih
theorem qk5 {α:Type}(l:List α):l.eraseIdx (l.length-1)=l.dropLast:=by
 induction l with
 |nil=>rfl
 |cons a r ih =>
  cases r with
  |nil=>rfl
  |cons b r =>
   have e:(a::b::r).length-1=((b::r).length-1)+1:=by
    have h1:(a::b::r).length=r.length+2:=rfl
    have h2:(b::r).length=r.length+1:=rfl
    lia
   rw [e,List.eraseIdx_cons_succ,ih]
   all_goals rfl
section
variable {X:Cx}{pins:List (Aj×Obj)}{σ:St}{H:Hp}{s:Ab}{l b:Aj}{xs ys zs:List V}
theorem Inv.lset {its its':List Ag}{n:Nat}{f:Array Ag→Array Ag}{t':Nat}(I:Inv X pins σ H s)(hH:H l=some (.lst xs))
  (e:s.heap.get? l=some { cls:=.type "list",data:=.seq its.toArray n }) (hf:f its.toArray=its'.toArray) (hv:Vals ys its') (hz:ys.length≤sizeLine) :
  Inv X pins σ (upd H l (.lst ys)) { s with heap:=s.heap.update l (Obj.mapSeq f),toks:=t' }:=by
 have q:=PySem.IsL.update e f
 rw [hf] at q
 refine I.write (x:=l) (e:=l) (by rw [hH];exact trivial) (.inl rfl) (λb' u hb hu=>(Heap.get?_update_other s.heap (Obj.mapSeq f) (aU hb)).trans hu) ⟨_,q⟩ ?_
 exact ⟨hz,its',_,hv,q⟩
theorem Inv.lnew {its:List Ag}{t':Nat}(I:Inv X pins σ H s)(hv:Vals ys its)(hz:ys.length≤sizeLine) :
  Inv X pins σ (upd H s.heap.objs.size (.lst ys)) { s with heap:=s.heap.push { cls:=.type "list",data:=.seq its.toArray },toks:=t' } :=
 I.laid (λ_ _ q=>af _ q) (ah _) ⟨hz,its,0,hv,ar _ rfl⟩
theorem Inv.fresh (I:Inv X pins σ H s):H s.heap.objs.size=none:=I.hok.fresh (ah _)
theorem Inv.lstM (I:Inv X pins σ H s)(hH:H l=some (.lst xs)):xs.length≤sizeLine∧∃(its:List Ag) (n:Nat),Vals xs its∧xs.length=its.length∧s.heap.get? l=some { cls:=.type "list",data:=.seq its.toArray n }:=by
 obtain ⟨z,its,n,r,e⟩:=I.hok l _ hH
 exact ⟨z,its,n,r,r.length,e⟩
end
section
variable {X:Cx}
def wzf:V→List V→Hp→VK→Prop:=λx vs H Q=>∃l xs y,x=.ref l∧vs=[y]∧H l=some (.lst xs)∧xs.length<sizeLine∧Q .non (upd H l (.lst (xs++[y])))
theorem jy:MtM X "list.append" wzf:=by
 intro pins s σ H x vs v us Q I rx rv h
 obtain ⟨l,xs,y,rfl,rfl,hH,hz,q⟩:=h
 cases rx
 obtain ⟨u,rfl,ru⟩:=rv.one
 obtain ⟨z,its,n,r,hl,e⟩:=I.lstM hH
 refine call_meets F.slot_list_append ⟨_,e,rfl⟩ F.entry_list_append (F.args_list_append_2 _ _) (PySem.list_append l its.toArray n u (by rw [az];lia)) ⟨e,?_⟩
 refine ⟨.non,_,I.lset (its':=its++[u]) hH e (by simp) (r.append (.cons ru .nil)) ?_,rfl,q⟩
 rw [au,List.length_singleton]
 lia
def rPop:V→List V→Hp→VK→Prop:=λx vs H Q=>∃l xs y,x=.ref l∧vs=[]∧H l=some (.lst xs)∧xs[xs.length-1]?=some y∧Q y (upd H l (.lst xs.dropLast))
theorem mt_pop:MtM X "list.pop" rPop:=by
 intro pins s σ H x vs v us Q I rx rv h
 obtain ⟨l,xs,y,rfl,rfl,hH,hy,q⟩:=h
 cases rx
 have hus:=rv.zero
 subst hus
 obtain ⟨z,its,n,r,hl,e⟩:=I.lstM hH
 obtain ⟨u,hu,ru⟩:=r.get hy
 have hy':its.toArray[its.toArray.size-1]?=some u:=by
  show its.toArray[its.length-1]?=some u
  rw [←bX,←hl]
  exact hu
 refine call_meets F.slot_list_pop ⟨_,e,rfl⟩ F.entry_list_pop (F.args_list_pop_1 _) (MeetsSeq.list_pop_last l its.toArray n u hy' (by rw [az];lia)) ⟨e,?_⟩
 refine ⟨y,_,I.lset (its':=its.dropLast) hH e ?_ r.dropLast ?_,ru,q⟩
 ·show its.toArray.eraseIdxIfInBounds (its.toArray.size-1)=its.dropLast.toArray
  rw [az,List.eraseIdxIfInBounds_toArray,qk5]
 ·rw [List.length_dropLast]
  lia
def rCat:R2:=λx y H Q=>∃l b xs zs,x=.ref l∧y=.ref b∧H l=some (.lst xs)∧H b=some (.lst zs)∧xs.length+zs.length≤sizeLine∧∀p,H p=none→Q (.ref p) (upd H p (.lst (xs++zs)))
theorem qwr:OpR X (binaryOp .Add) rCat:=by
 intro pins s σ H x y v u Q I rx ry h
 obtain ⟨l,b,xs,zs,rfl,rfl,hH,hB,hz,q⟩:=h
 cases rx
 cases ry
 obtain ⟨z,its,n,r,hl,e⟩:=I.lstM hH
 obtain ⟨z2,its2,n2,r2,hl2,e2⟩:=I.lstM hB
 refine PySem.P.add_list e e2 ?_ (by rw [az,az];lia)
 have ea:its.toArray++its2.toArray=(its++its2).toArray:=by simp
 rw [ea]
 exact ⟨.ref _,_,I.lnew (t':=s.toks) (r.append r2) (by rw [au];lia),rfl,q _ I.fresh⟩
end
section
variable {prog:Ac}{w:Ah}{A:Ae}{E:Ag→Ab→Prop}{s:Ab}
end
section
variable {X:Cx}
end
end L2
namespace Att
open PySem PySem.W PySem.Calls PyProof.Rows
theorem Zj {P:Params}{h:Heap}:∀(ns:List Int) (vs:List Ag),WellAll P h vs (ns.map WData.int)→IntsAre vs ns:=by
 intro ns
 induction ns with
 |nil =>
  intro vs w
  rw [dc] at w
  cases w
  exact .nil
 |cons n ns ih =>
  intro vs w
  rw [aS] at w
  cases w with
  |cons a b =>
   cases a
   exact .cons _ _ (ih _ b)
theorem qyk {l:OpenLaw}{n:Nat}(hn:l.most=some n){P:Params}{h:Heap}{args:List WData}{vals:List Ag}
  (hpre:l.row.toRowW.claim.pre args=true) (hwl:WellAll P h vals args) :
  ∃a vs ns,vals=[Value.ref a]∧args=[WData.list (ns.map WData.int)]∧h.get? a=some { cls:=.type "list",data:=.seq vs.toArray }∧IntsAre vs ns∧ns.length≤n:=by
 have hsh:WShape.hasAll [] args [.list .int]=true:=(pre_splitW hpre).1
 have hc:l.pre.holds [] { args:=args }=true:=(pre_splitW hpre).2
 obtain ⟨d,r,rfl,h1,h2⟩:=hasAllW_cons hsh
 obtain rfl:=hasAllW_nil h2
 obtain ⟨xs,rfl,h3⟩:=hasW_list h1
 obtain ⟨ns,rfl⟩:=items_int h3
 have hlen:ns.length≤n:=by
  unfold OpenLaw.pre at hc
  have h4:(WTm.not (.lt (.lit (.int (n:Int))) (.len (.arg 0)))).holds [] { args:=[.list (ns.map .int)] }=true:=by
   have h4:=(holds_andW hc).1
   rw [hn] at h4
   exact h4
  have h5:=condW_of h4 (w_not (w_lt w_lit (w_len_list (w_arg rfl))))
  rw [ae] at h5
  refine Nat.le_of_not_lt λq=>?_
  have q':(n:Int)<((ns.length:Nat):Int):=by lia
  first
   |(rw [bd q'] at h5;exact absurd h5 (by decide))
   |(simp at h5;lia)
 cases hwl with
 |cons w1 w2 =>
  cases w2
  cases w1 with
  |list ho hall=>exact ⟨_,_,ns,rfl,rfl,ho,Zj ns _ hall,hlen⟩
theorem qyy (l:OpenLaw)(args:List WData):l.row.toRowW.claim.post args (.bool true) args=true :=
 postW_of (r:=l.row.toRowW) (X:=(true==true))
  (show WShape.has [] (.bool true) .bool=true by first | rfl | decide | simp [WShape.has,WShape.arms,WShape.armsAll])
  (show (WTm.eq .res (.lit (.bool true))).value [] { args:=args,res:=some (.bool true),after:=args }=some (.bool (true==true)) from w_eq_bool (w_res rfl) w_lit) rfl
theorem attach_call {l:OpenLaw}{n:Nat}{q:Ac}{loose:List Str}{XP:(Str→Option Ag)→Heap→Prop}{YP:Ah→Heap→Prop}{d:DefRec}
  (hn:l.most=some n) (hdf:d.params.defaults=[])
  (call:∀(w:Ah) (s₀ s₁:Ab) (mg mb:Str→Option Ag) (fa:Aj) (o:Obj) (pm cd doc:Ag) (a:Aj) (vs:List Ag) (ns:List Int),
   Ground q loose [] XP w s₀ mg mb s₁.heap→YP w s₁.heap →
   s₁.heap.get? fa=some o→o.data=.func (docDef d.name d.params d.body d.scope pm cd doc)→s₁.heap.CodeRec cd d.name→mg d.name=some (.ref fa) →
   s₁.heap.get? a=some { cls:=.type "list",data:=.seq vs.toArray }→IntsAre vs ns→ns.length≤n→s₁.gens=#[] →
   codeAny (model l.prog w) callerA (.call (.ref fa) ⟨[.ref a],[]⟩) (λr s'=>r=.ok (.ret (.bool true))∧OldK s₁.heap s'.heap∧s'.os=s₁.os∧AllBare s'.gens) s₁) :
  WalkO q loose XP YP l.row.toRowW d [] (λf vs=>PySem.call f vs):=by
 intro w s₀ s₁ mg mb G Y fa o pm cd doc dV kV ho hd hcd hD hmg hg args vals as hpre hlay hrd hwl hlo
 obtain rfl:dV=.none:=Dflts.none hD hdf
 obtain rfl:kV=.none:=Dflts.noKw hD
 obtain ⟨a,vs,ns,rfl,rfl,hobj,hints,hlen⟩:=qyk hn hpre hwl
 refine enter_call (dM (call w s₀ s₁ mg mb fa o pm cd doc a vs ns G Y ho (fd_plain hd) hcd hmg hobj hints hlen hg) λr s' hq=>?_)
 obtain ⟨rfl,h2,h3,h4⟩:=hq
 exact ⟨.inl ⟨.bool true,.bool true,[],rfl,λ_=>rfl,.bool true,qyy l _,λ_=>⟨List.Pairwise.nil,λ_ hm=>(nomatch hm)⟩⟩,h2,h3,h4⟩
section
variable {prog:Ac}{w:Ah}{A:Ae}{E:Ag→Ab→Prop}{s:Ab}{K:Frag}
end
end Att
namespace L2
open PySem PySem.Spec PyProof.Rows
theorem qq7:∀ {vs:List Ag} {ns:List Int},IntsAre vs ns→Vals (ns.map V.int) vs
 |_,_,.nil=>.nil
 |_,_,.cons n t h=>.cons ⟨t,rfl⟩ (qq7 h)
def Only (H:Hp):Prop:=∀b,H b=none∨∃o xs,H b=some (.frz o (.lst xs))
theorem wxz {P:Ac}{w:Ah}{K:Aa}{mg mb:Str→Option Ag}{CX:CXT}{k:Nat}{fa a:Aj}{fd:Ad}{x:Str}{sp:Sp}{s₁:Ab}{vs:List Ag}{ns:List Int}
  (KX:K.In s₁.heap) (hns:s₁.heap.Ns mainGlobals mg) (hb:s₁.heap.Ns builtinsNs mb) (hbb:∀x:Str,x ≠ "__name__" → mb x=bootBuiltins x) (hlim:s₁.heap.NoLimit) (hg:s₁.gens=#[])
  (ha:s₁.heap.get? a=some { cls:=.type "list",data:=.seq vs.toArray }) (hi:IntsAre vs ns) (hl:ns.length≤sizeLine) (hr:Room k callerA)
  (F:∀base:Heap,K.In base→base.Ns mainGlobals mg→FnOk P w K mg base CX k fa fd [x] sp) (hbind:∀(s:Ab) (u:Ag),BindsTo s fd ⟨[u],[]⟩ [(x,u)])
  (hsp:∀H:Hp,Only H→SqL K H a (ns.map V.int)→sp [.ref a] H (λv _=>v=.bl true) λ_ _ _=>False)
  (hCX:∀H e s',CX [] H s₁ (λ_ _ _=>False) e s'→False) :
  codeAny (model P w) callerA (.call (.ref fa) ⟨[.ref a],[]⟩) (λr s'=>r=.ok (.ret (.bool true))∧OldK s₁.heap s'.heap∧s'.os=s₁.os∧AllBare s'.gens) s₁:=by
 have rv:=qq7 hi
 have lenV:=hi.length
 have core:∀H:Hp,Only H→SqL K H a (ns.map V.int)→HOk P w H s₁.heap→(∀b,H b≠none→b=a)→(H a≠none→K.lookup a=none) →
   codeAny (model P w) callerA (.call (.ref fa) ⟨[.ref a],[]⟩) (λr s'=>r=.ok (.ret (.bool true))∧OldK s₁.heap s'.heap∧s'.os=s₁.os∧AllBare s'.gens) s₁:=by
  intro H hO hS hok hA hK
  have base_of:∀ {b:Aj} {o:Obj},s₁.heap.get? b=some o→H b=none→(qxc s₁.heap H).get? b=some o:=λe n=>wqd e n
  have noA:∀ {b:Aj} {o:Obj} {es:Array DictEntry} {ep:Nat},s₁.heap.get? b=some o→o.data=.dict es ep→H b=none:=λ{b o es ep} e d=>by
   cases q:H b with
   |none=>rfl
   |some u =>
    have e':b=a:=hA b (by rw [q];simp)
    subst e'
    rw [ha] at e;cases e
    have d':Data.seq vs.toArray _=Data.dict es ep:=d
    cases d'
  have nsK:∀ {b:Aj} {m:Str→Option Ag},s₁.heap.Ns b m→(qxc s₁.heap H).Ns b m:=λ{b m} ⟨o,es,ep,e,d,r⟩=>⟨o,es,ep,base_of e (noA e d),d,r⟩
  have hKb:K.In (qxc s₁.heap H):=λb o e=>base_of (KX b o e) (by
   cases q:H b with
   |none=>rfl
   |some u =>
    have e':b=a:=hA b (by rw [q];simp)
    subst e'
    rw [hK (by rw [q];simp)] at e;cases e)
  have hM:Mod K mg (qxc s₁.heap H):=⟨hKb,nsK hns,⟨mb,nsK hb,hbb⟩,let ⟨mc,h1,h2⟩:=hlim;⟨mc,nsK h1,h2⟩⟩
  have e0:Env0 P w K mg (qxc s₁.heap H) callerA [] s₁ H:=⟨rfl,hM,λb o e=>wx8 e,Nat.le_of_eq (qyd _ _),trivial,λb hb=>absurd (show b∈([]:List Aj) from hb) (by simp),hok,.of_eq hg⟩
  refine dM ((F _ hKb (nsK hns)).run callerA [] s₁ H ⟨[.ref a],[]⟩ [.ref a] [.ref a] _ _ hr e0 (hbind s₁ (.ref a)) (.cons rfl .nil) (hsp H hO hS)) λr s' h=>?_
  cases r with
  |error e=>exact (hCX H e s' h).elim
  |ok fl =>
   cases fl with
   |next=>exact False.elim h
   |brk=>exact False.elim h
   |cont=>exact False.elim h
   |ret u =>
    obtain ⟨v,H',os,bare,un,hok',r',q⟩:=h
    have q':v=.bl true:=q
    subst q'
    obtain rfl:u=Value.bool true:=r'
    refine ⟨rfl,OldK.of_keep λb o e=>?_,os,bare⟩
    cases q:H b with
    |none=>exact un.keep b o e q (by intro z;exact absurd (show b∈([]:List Aj) from z) (by simp)) (by simp)
    |some u =>
     rcases hO b with z|⟨ob,xs,z⟩
     ·rw [q] at z;cases z
     ·have z2:=un.frzs b ob _ z
      obtain ⟨e1,_⟩:=hok b _ z
      obtain ⟨e2,_⟩:=hok' b _ z2
      rw [e] at e1;cases e1
      exact e2
 cases hk:K.lookup a with
 |some o =>
  have e:=KX a o hk
  rw [ha] at e
  cases e
  refine core (λ_=>none) (λ_=>.inl rfl) (.inr ⟨_,vs.toArray,_,hk,rfl,rfl,rfl,by rw [az,lenV];exact hl,by simpa using rv⟩) (λb u z=>by have z':(none:Option HO)=some u:=z;cases z') (λb z=>absurd rfl z) λz=>absurd rfl z
 |none =>
  refine core (λb=>if b=a then some (.frz { cls:=.type "list",data:=.seq vs.toArray } (.lst (ns.map V.int))) else none) (λb=>?_) (.inl (.inr ⟨{ cls:=.type "list",data:=.seq vs.toArray },al rfl⟩)) (λb u z=>?_) (λb z=>?_) λ_=>hk
  ·by_cases hb:b=a
   ·exact .inr ⟨_,_,al hb⟩
   ·exact .inl (ai hb)
  ·by_cases hb:b=a
   ·have z':=(al hb).symm.trans z
    cases z'
    subst hb
    exact ⟨ha,by rw [ae];exact hl,vs,_,rv,ha⟩
   ·have z':=(ai hb).symm.trans z
    cases z'
  ·by_cases hb:b=a
   ·exact hb
   ·exact absurd (ai hb) z
theorem wzj {l:PySem.W.OpenLaw}{n k:Nat}{q:Ac}{loose:List Str}{XP:(Str→Option Ag)→Heap→Prop}{YP:Ah→Heap→Prop}{d:DefRec}{K:Params→Aa}{CX:Ah→CXT}{sp:Ah→Sp}{x:Str}
  (hn:l.most=some n) (hn2:n≤sizeLine) (hdf:d.params.defaults=[]) (hr:Room k callerA)
  (hY:∀(w:Ah) (h:Heap),YP w h→(K w.params).In h)
  (F:∀(w:Ah) (mg:Str→Option Ag) (fa:Aj) (h:Heap),(K w.params).In h→h.Ns mainGlobals mg→mg d.name=some (.ref fa) →
   ∃fd:Ad,(∀(s:Ab) (u:Ag),BindsTo s fd ⟨[u],[]⟩ [(x,u)]) ∧
    ∀base:Heap,(K w.params).In base→base.Ns mainGlobals mg→FnOk l.prog w (K w.params) mg base (CX w) k fa fd [x] (sp w))
  (hsp:∀(w:Ah) (H:Hp) (a:Aj) (ns:List Int),ns.length≤n→Only H→SqL (K w.params) H a (ns.map V.int)→sp w [.ref a] H (λv _=>v=.bl true) λ_ _ _=>False)
  (hCX:∀(w:Ah) (H:Hp) (s:Ab) (e:Ag) (s':Ab),CX w [] H s (λ_ _ _=>False) e s'→False) :
  PySem.W.WalkO q loose XP YP l.row.toRowW d [] (λf vs=>PySem.call f vs):=by
 refine Att.attach_call hn hdf λw s₀ s₁ mg mb fa o pm cd doc a vs ns G Y ho hd hcd hmg hobj hints hlen hg=>?_
 have KX:=hY w _ Y
 obtain ⟨fd,hb,hF⟩:=F w mg fa _ KX G.T.g hmg
 exact wxz KX G.T.g G.T.b G.T.builtins G.T.nolimit hg hobj hints (bB hlen hn2) hr hF hb (λH hO hS=>hsp w H a ns hlen hO hS) λH e s'=>hCX w H s₁ e s'
def x9 (s:Stmt)(j:Nat):Stmt:=match s with
 |.ClassDef _ _ _ body _ _ _ _ _ _ _=>body.getD j (.Pass ⟨0,0,0,0⟩)
 |_=>.Pass ⟨0,0,0,0⟩
def v3 (s:Stmt):Arguments:=match s with
 |.FunctionDef _ a _ _ _ _ _ _ _ _=>a
 |_=>{ posonlyargs:=[],args:=[],vararg:=none,kwonlyargs:=[],kw_defaults:=[],kwarg:=none,defaults:=[] }
def wt (s:Stmt):List Stmt:=match s with
 |.FunctionDef _ _ b _ _ _ _ _ _ _=>b
 |_=>[]
def wj (s:Stmt):Scope:=match s with
 |.FunctionDef _ _ _ _ _ _ sc _ _ _=>sc
 |_=>{ kind:=.function,names:=[],isGenerator:=false,isCoroutine:=false }
abbrev E0:XK:=λ_ _ _=>False
structure Fun (K:Aa)(x qual:Str)(st:Stmt)(f:Aj)(fd:Ad):Prop where
 ex:∃(oc:Ag) (od:Option Aj) (kV doc pm:Ag) (an:Option Aj) (cdv ct:Ag) (osl:Array (Option Ag)),
  fd=PySem.W.fnOf x qual (v3 st) (wt st) (wj st) .none kV doc pm an cdv ct∧K.lookup f=some ⟨oc,od,.func fd,osl⟩∧PySem.W.codeIn K cdv qual=true
 kp:PySem.W.keepIn K (.ref f)=true
section
variable {P:Ac}{w:Ah}{K:Aa}{mg:Str→Option Ag}{base:Heap}
theorem Fun.binds {x qual:Str}{st:Stmt}{f:Aj}{fd:Ad}{ps:List Str}(F:Fun K x qual st f fd)
  (h:∀(kV doc pm:Ag) (an:Option Aj) (cdv ct:Ag) (us:List Ag),us.length=ps.length→bindArgs (PySem.W.fnOf x qual (v3 st) (wt st) (wj st) .none kV doc pm an cdv ct) ⟨us,[]⟩=pure (ps.zip us)):Binds K fd ps []:=by
 obtain ⟨oc,od,kV,doc,pm,an,cdv,ct,osl,rfl,lk,hcd⟩:=F.ex
 exact .all (h kV doc pm an cdv ct)
theorem wwp {x qual:Str}{st:Stmt}{f:Aj}{oc:Ag}{od an:Option Aj}{osl:Array (Option Ag)}{kV doc pm cdv ct:Ag}(l:K.lookup f=some ⟨oc,od,.func (PySem.W.fnOf x qual (v3 st) (wt st) (wj st) .none kV doc pm an cdv ct),osl⟩)
  (c:PySem.W.codeIn K cdv qual=true) (k:PySem.W.keepIn K (.ref f)=true):Fun K x qual st f (PySem.W.fnOf x qual (v3 st) (wt st) (wj st) .none kV doc pm an cdv ct):=⟨⟨oc,od,kV,doc,pm,an,cdv,ct,osl,rfl,l,c⟩,k⟩
end
theorem vh {A:Ae}{k:Nat}(hr:Room k A):A.units+1<cLine:=cX (Nat.add_le_add_left (by decide:1≤64) _) hr.units
theorem qu1 {n:Nat}(h:n≤1000):n<sizeLine:=cX h (by decide)
section
variable {X:Cx}
theorem pv (i:Nat){x:Str}{pos:Pos}(hN:X.N[i]?=some x:=by rfl)(hv:Vis X.env.scope x:=by first | exact Or.inl rfl | exact Or.inr (Or.inl rfl) | exact Or.inr (Or.inr rfl))(hd:(x==("__debug__" : Str))=false:=by decide)
  (hcd:(x==("__classdict__" : Str))=false:=by decide):PE X (.Name x pos) (Qh i):=pe_var hN hv hd hcd
end
theorem yy {A B:Prop}(h:B):if false=true then A else B:=by
 rw [ai aA]
 exact h
theorem j3 {A B:Prop}(h:A):if true=true then A else B:=by
 rw [al rfl]
 exact h
def Same (H H':Hp):Prop:=∀b o,H b=some o→H' b=some o
theorem Same.refl (H:Hp):Same H H:=λ_ _ h=>h
theorem Same.trans {H H1 H2:Hp}(a:Same H H1)(b:Same H1 H2):Same H H2:=λc o h=>b c o (a c o h)
theorem Same.seq {K:Aa}{H H':Hp}{a:Aj}{xs:List V}(e:Same H H')(h:SqL K H a xs):SqL K H' a xs:=by
 rcases h with (h|⟨o,h⟩)|h
 ·exact .inl (.inl (e _ _ h))
 ·exact .inl (.inr ⟨o,e _ _ h⟩)
 ·exact .inr h
set_option maxHeartbeats 4000000
theorem nin {b:Aj}:b∉([]:List Aj):=λz=>nomatch z
theorem qw0 {K:Aa}{h:Heap}{C:Aj}{bmB:List Ag}{newId:String}(X:K.In h)(q:PySem.W.excIn K C bmB newId=true) :
  ∃tl N a1 a2 a3 a4 a5 a6 a7 a8 a9 b0 b1 b2 b3 b5 mN,h.get? C=some (excClassObj a1 a2 C N a3 tl a4 a5 a6 a7 a8 a9 b0 b1 b2 b3 b5 newId) ∧
   h.Ns N mN∧mN "__init__" = none∧OwnTail h bmB tl:=by
 unfold PySem.W.excIn at q
 split at q
 ·next dd cd sl ho =>
  split at q
  ·next C1 tl x0 x1 x2 x3 nn x5 hm hs =>
   rw [bc,bc,bc,bc,bc] at q
   obtain ⟨⟨⟨⟨⟨p1,p2⟩,p3⟩,p4⟩,p5⟩,p6⟩:=q
   have p1':=eq_of_beq p1
   have p2':=eq_of_beq p2
   have p6':=eq_of_beq p6
   have p3':cd.hasDel=false:=by simpa using p3
   subst p1' p2'
   obtain ⟨f1,f2,f3,f4,f5,f6,f7,f8,f9,f10,f11⟩:=cd
   have hm':f3=Value.ref C1::tl:=hm
   have p3'':f11=false:=p3'
   subst hm' p3''
   have hsl:sl=#[x0,x1,x2,x3,some (.builtin nn),x5]:=by
    cases sl with
    |mk l =>
     have:l=[x0,x1,x2,x3,some (.builtin nn),x5]:=hs
     rw [this]
   subst hsl
   have nsok:=PySem.W.isNs_of_in X p5
   exact ⟨tl,f4,f1,f5,f2,f6,f7,f8,f9,f10,dd,x0,x1,x2,x3,x5,_,X _ _ ho,.of_isNs nsok,PySem.W.nsMap_none_of_in X p5 p6',PySem.W.tail_of_in X p4⟩
  ·exact absurd q (by decide)
 ·exact absurd q (by decide)
def CXE (P:Ac)(w:Ah):CXT:=λouter H s E e s' =>
 ∃(a C:Aj) (a0:Ag) (B:Heap) (H':Hp),e=.ref a∧s'.os=s.os∧AllBare s'.gens∧Un (frs outer) [] H H' s.heap s'.heap∧HOk P w H' B ∧
  Heap.FlyingW B outer a (.ref C) a0 s'.heap∧(∀b o,s.heap.get? b=some o→b∉frs outer→∃o',B.get? b=some o'∧(H b=none→o'=o))∧E (.ref C) none H'
theorem CXE.no {P:Ac}{w:Ah}{outer:List Env}{H:Hp}{s s':Ab}{e:Ag}(h:CXE P w outer H s E0 e s'):False:=by
 obtain ⟨_,_,_,_,_,_,_,_,_,_,_,_,q⟩:=h
 exact q
def jx (X:Cx)(E:St→XK):Prop:=∀(pins:List (Aj×Obj)) (σ:St) (H:Hp) (s:Ab) (e:Ag) (s':Ab),Inv X pins σ H s→CXE X.prog X.w X.stack H s (E σ) e s'→X.xe e s'
theorem qkd {X:Cx}:jx X (λ_=>E0):=λ_ _ _ _ _ _ _ h=>h.no.elim
def ww9 (X:Cx)(E:St→XK):Prop:=∀(pins:List (Aj×Obj)) (σ:St) (H:Hp) (s:Ab) (h':Heap) (e C:Aj) (vs:List Ag),Inv X pins σ H s→Heap.MadeExcOf s.heap h' e (.ref C) vs→E σ (.ref C) none H→X.xe (.ref e) { s with heap:=h' }
theorem qzc {env:Env}{L:Aj}{outer:List Env}(h:env.frame=some L):frs (env::outer)=L::frs outer:=by
 unfold frs
 rw [cO,h]
section
variable {P:Ac}{w:Ah}{K:Aa}{mg:Str→Option Ag}{base:Heap}{N:List Str}{qual:Str}{scope:Scope}{f:Aj}{cdv:Ag}{A:Ae}{outer:List Env}{s0:Ab}{H0:Hp}{E:XK}
theorem qy:jx (qqp (CXE P w) P w K mg base N qual scope f cdv A outer s0 H0 E) (λ_=>E):=by
 intro pins σ H s e s' I hx
 obtain ⟨a,C,a0,B,H',rfl,hos,hba,un,hokB,hfl,old,q⟩:=hx
 have ub:=I.base
 have hL:∀b o,s0.heap.get? b=some o→b≠s0.heap.objs.size:=λb o e z=>aV _ (z▸ak e)
 have hfs:frs (envOfC qual scope s0.heap.objs.size f cdv::outer)=s0.heap.objs.size::frs outer:=qzc rfl
 have hmem:∀b o,s0.heap.get? b=some o→b∉frs outer→b∉frs (envOfC qual scope s0.heap.objs.size f cdv::outer):=λb o e n=>by
  rw [hfs]
  intro z
  rcases am.mp z with z|z
  ·exact hL b o e z
  ·exact n z
 have hold:∀b o,s0.heap.get? b=some o→b∉frs outer→∃o',B.get? b=some o'∧(H0 b=none→o'=o):=λb o e n=>by
  obtain ⟨o1,e1⟩:=ub.there b o e nin
  obtain ⟨o2,e2,e3⟩:=old b o1 e1 (hmem b o e n)
  refine ⟨o2,e2,λz=>?_⟩
  have e4:=ub.keep b o e z n nin
  have e5:=ub.free b o e z nin
  rw [e1] at e4
  rw [e3 e5]
  exact aw e4
 refine wpAny_leaves_onW I.ok.frames rfl hfl λh' hf' hup=>?_
 have toH:∀b,b∈frs outer→∀o,s0.heap.get? b=some o→H0 b=none→∃sl,h'.get? b=some { o with slots:=sl }:=λb hb o e n=>by
  obtain ⟨sl,e1⟩:=ub.slot b o e n hb nin
  obtain ⟨sl2,e2⟩:=un.slot b _ e1 (ub.free b o e n nin) (by show b∈frs (envOfC qual scope s0.heap.objs.size f cdv::outer);rw [hfs];exact .tail _ hb) nin
  obtain ⟨_,o3,e3,nf⟩:=hfl.2.2.1.mem (b:=b) (by show b∈frs (envOfC qual scope s0.heap.objs.size f cdv::outer);rw [hfs];exact .tail _ hb)
  obtain ⟨sl4,e4⟩:=hup b o3 e3 nf
  rw [e2] at e3
  have e5:=aw e3
  exact ⟨sl4,by rw [e4,←e5]⟩
 refine ⟨a,C,a0,B,H',rfl,hos.trans I.os,hba,⟨λb o e n nb _=>?_,λb o e n hb _=>toH b hb o e n,λb o e n _=>?_,λb o e _=>?_,λb xs e=>un.tups b xs (ub.tups b xs e),λb o u e=>un.frzs b o u (ub.frzs b o u e),λb ps e=>?_⟩,hokB,hf',hold,q⟩
 ·obtain ⟨o',e1,e2⟩:=hold b o e nb
  rw [e2 n] at e1
  exact hf'.1 b o e1
 ·obtain ⟨o1,e1⟩:=ub.there b o e nin
  exact un.free b o1 e1 (ub.free b o e n nin) nin
 ·by_cases hb:b∈frs outer
  ·obtain ⟨o1,e1⟩:=ub.there b o e nin
   obtain ⟨o2,e2⟩:=un.there b o1 e1 nin
   obtain ⟨_,o3,e3,nf⟩:=hfl.2.2.1.mem (b:=b) (by show b∈frs (envOfC qual scope s0.heap.objs.size f cdv::outer);rw [hfs];exact .tail _ hb)
   obtain ⟨sl4,e4⟩:=hup b o3 e3 nf
   exact ⟨_,e4⟩
  ·obtain ⟨o',e1,_⟩:=hold b o e hb
   exact ⟨o',hf'.1 b o' e1⟩
 ·obtain ⟨m1,e1⟩:=ub.tbls b ps e
  obtain ⟨m2,e2⟩:=un.tbls b _ e1
  exact ⟨m1++m2,by rw [e2,Array.append_assoc]⟩
theorem x8:ww9 (qqp (CXE P w) P w K mg base N qual scope f cdv A outer s0 H0 E) (λ_=>E):=by
 intro pins σ H s h' e C vs I hx q
 have ub:=I.base
 have hfs:frs (envOfC qual scope s0.heap.objs.size f cdv::outer)=s0.heap.objs.size::frs outer:=qzc rfl
 have hmem:∀b o,s0.heap.get? b=some o→b∉frs outer→b∉frs (envOfC qual scope s0.heap.objs.size f cdv::outer):=λb o e n=>by
  rw [hfs]
  intro z
  rcases am.mp z with z|z
  ·exact aV _ (z▸ak e)
  ·exact n z
 have hfree:∀b∈frs (envOfC qual scope s0.heap.objs.size f cdv::outer),H b=none:=I.stkFree
 have hB:∀b o,s.heap.get? b=some o→b∉frs (envOfC qual scope s0.heap.objs.size f cdv::outer)→(PySem.W.hideAll s.heap (frs (envOfC qual scope s0.heap.objs.size f cdv::outer))).get? b=some o:=λb o e n=>PySem.W.hideAll_get _ e n
 have hokB:HOk P w H (PySem.W.hideAll s.heap (frs (envOfC qual scope s0.heap.objs.size f cdv::outer))):=λb u hb=>by
  refine (I.hok b u hb).stay (λc v hc ec=>hB c v ec λhm=>?_) (λ_ z=>z) (λ_ _ z=>z)
  have hn:=hfree c hm
  rcases hc with rfl|hc
  ·rw [hn] at hb;cases hb
  ·rw [hn] at hc;cases hc
 have hold:∀b o,s0.heap.get? b=some o→b∉frs outer→∃o',(PySem.W.hideAll s.heap (frs (envOfC qual scope s0.heap.objs.size f cdv::outer))).get? b=some o'∧(H0 b=none→o'=o):=λb o e n=>by
  obtain ⟨o1,e1⟩:=ub.there b o e nin
  refine ⟨o1,hB b o1 e1 (hmem b o e n),λz=>?_⟩
  have e4:=ub.keep b o e z n nin
  rw [e1] at e4
  exact aw e4
 have hst:s.heap.FunFrames base (envOfC qual scope s0.heap.objs.size f cdv::outer):=I.stack
 have hff:=PySem.W.funFrames_hide (as:=frs (envOfC qual scope s0.heap.objs.size f cdv::outer)) hst (λenv he b hb=>dS.mpr ⟨env,he,hb⟩)
 refine wpAny_leaves_madeW (base:=PySem.W.hideAll s.heap (frs (envOfC qual scope s0.heap.objs.size f cdv::outer))) (h:=s.heap) I.ok.frames rfl (λb o e=>PySem.W.of_hideAll _ e) hff hx λh'' t hf' _ _ hup=>?_
 have toF:∀b,b∈frs outer→∃o,s.heap.get? b=some o∧∃sl,h''.get? b=some { o with slots:=sl }:=λb hb=>by
  obtain ⟨_,o3,e3,nf⟩:=hst.mem (b:=b) (by show b∈frs (envOfC qual scope s0.heap.objs.size f cdv::outer);rw [hfs];exact .tail _ hb)
  exact ⟨o3,e3,hup b o3 (hx.keeps b o3 e3) nf⟩
 refine ⟨e,C,.ref t,_,H,rfl,I.os,I.bare,⟨λb o e1 n nb _=>?_,λb o e1 n hb _=>?_,λb o e1 n _=>ub.free b o e1 n nin,λb o e1 _=>?_,ub.tups,ub.frzs,ub.tbls⟩,hokB,hf',hold,q⟩
 ·obtain ⟨o',e2,e3⟩:=hold b o e1 nb
  rw [e3 n] at e2
  exact hf'.1 b o e2
 ·obtain ⟨sl,e2⟩:=ub.slot b o e1 n hb nin
  obtain ⟨o3,e3,sl3,e4⟩:=toF b hb
  rw [e2] at e3
  have e5:=aw e3
  exact ⟨sl3,by rw [e4,←e5]⟩
 ·by_cases hb:b∈frs outer
  ·obtain ⟨o3,e3,sl3,e4⟩:=toF b hb
   exact ⟨_,e4⟩
  ·obtain ⟨o',e2,_⟩:=hold b o e1 hb
   exact ⟨o',hf'.1 b o' e2⟩
end
section
variable {P:Ac}{w:Ah}{K:Aa}{mg:Str→Option Ag}{base:Heap}
end
def Yv (sp:Sp)(E:St→XK)(t:TA):TE:=λσ H Q=>t σ H λvs H1=>sp vs H1 Q (E σ)
def Y5 (C:Aj)(m:Str)(sp:Sp)(E:St→XK)(ta:TE)(t:TA):TE:=λσ H Q=>ta σ H λx H1=>∃a dx fs,x=.ref a∧H1 a=some (.ins C dx fs)∧fs.lookup m=none ∧
 t σ H1 λvs H2=>sp (x::vs) H2 Q (E σ)
def qv5 (C:Aj)(sp:Sp)(E:St→XK)(t:TA):TE:=λσ H Q=>t σ H λvs H1=>∀x dx,H1 x=none→H1 dx=none→dx≠x →
 sp (.ref x::vs) (upd (upd H1 dx (.own x)) x (.ins C dx [])) (λv H2=>v=.non∧Q (.ref x) H2) (E σ)
section
variable {X:Cx}{k:Nat}{f C:Aj}{fd:Ad}{ps:List Str}{sp:Sp}{E:St→XK}{x m:Str}{p pos apos:Pos}{e o:Expr}{es:List Expr}{ta:TE}{t:TA}
theorem qwh {pins:List (Aj×Obj)}{σ:St}{H:Hp}{s:Ab}{Q:VK}{us:List Ag}{vs:List V}(F:FnOk X.prog X.w X.K X.mg X.base (CXE X.prog X.w) k f fd ps sp)(hr:Room k X.A)(hb:Binds X.K fd ps [])(hx:jx X E)
  (I:Inv X pins σ H s) (r:Vals vs us) (h:sp vs H Q (E σ)):wpAny (model X.prog X.w) X.A (call (.ref f) us) (EP X pins σ Q) X.xe s:=by
 have hl:(us++[]).length=ps.length:=by rw [cA,←r.length];exact F.len _ _ _ _ h
 have hb':=hb s us I.kIn hl
 rw [cA] at hb'
 refine wpAny_call (dM (F.run X.A X.stack s H ⟨us,[]⟩ us vs Q (E σ) hr I.env0 hb' r h) λr s' hq=>?_)
 cases r with
 |error e=>exact hx pins σ H s e s' I hq
 |ok fl =>
  cases fl with
  |ret u=>exact I.after hq
  |next=>exact False.elim hq
  |brk=>exact False.elim hq
  |cont=>exact False.elim hq
theorem wq7 (F:FnOk X.prog X.w X.K X.mg X.base (CXE X.prog X.w) k f fd ps sp)(hr:Room k X.A)(hg:Gl X x)(hm:X.mg x=some (.ref f))(hk:PySem.W.keepIn X.K (.ref f)=true)(hb:Binds X.K fd ps [])(hx:jx X E)
  (ha:PA X (e::es) t) (hdb:(x==("__debug__" : Str))=false:=by decide) (he:starEach (e::es) X.env=(false,eval e X.env)::starEach es X.env:=by rfl) (hpl:(backTo pos (starEach es X.env)).any (·.1)=false:=by rfl) :
  PE X (.Call (.Name x p) (e::es) [] pos) (Yv sp E t):=by
 intro pins s σ H Q I h
 refine cy (jc I hg hm ?_ hdb)
 refine dU (h₀:=X.base) I.ok.mod.kin hk (thn (ha pos pins s σ H _ I h) λus s1 ⟨vs,H1,I1,r,q⟩=>⟨I1.kIn,?_⟩) he hpl
 exact qwh F hr hb hx I1 r q
theorem wqp {pl:Sem Bool}(he:PE X o ta)(c:Cls X.K C)(hm:Meth X.K C m f)(F:FnOk X.prog X.w X.K X.mg X.base (CXE X.prog X.w) k f fd ps sp)(hr:Room k X.A)(hb:Binds X.K fd ps [])(hx:jx X E)(ha:PA X (e::es) t)
  (hst:starEach (e::es) X.env=(false,eval e X.env)::starEach es X.env:=by rfl) (hpl:(backTo pos (starEach es X.env)).any (·.1)=false:=by rfl)
  (ht:eval (.Call (.Attribute o m apos) (e::es) [] pos) X.env=(do
   let ov ←eval o X.env
   standAt apos.atName
   let (f,first) ←holding [ov] (getMethod ov m pl)
   callWith pos f first (backTo pos (starEach (e::es) X.env)) (backToKw pos (keywordEach [] X.env))):=by rfl) :
  PE X (.Call (.Attribute o m apos) (e::es) [] pos) (Y5 C m sp E ta t):=by
 intro pins s σ H Q I h
 refine PySem.W.methodCall_KW (pl:=pl) (thn (he pins s σ H _ I h) λu s1 ⟨x,H1,I1,rx,a,dx,fs,ex,ea,l,q⟩=>?_) ht
 subst ex
 obtain rfl:u=Value.ref a:=rx
 refine Jk I1 ea c hm l ?_
 refine dU (first:=[.ref a]) (h₀:=X.base) I.ok.mod.kin hm.kp (thn (ha pos pins s1 σ H1 _ I1 q) λus s2 ⟨vs,H2,I2,r,q2⟩=>⟨I2.kIn,?_⟩) hst hpl
 exact qwh (us:=.ref a::us) (vs:=.ref a::vs) F hr hb hx I2 (.cons rfl r) q2
theorem qy8 {pl:Sem Bool}(he:PE X o ta)(c:Cls X.K C)(hm:Meth X.K C m f)(F:FnOk X.prog X.w X.K X.mg X.base (CXE X.prog X.w) k f fd ps sp)(hr:Room k X.A)(hb:Binds X.K fd ps [])(hx:jx X E)
  (ht:eval (.Call (.Attribute o m apos) [] [] pos) X.env=(do
   let ov ←eval o X.env
   standAt apos.atName
   let (f,first) ←holding [ov] (getMethod ov m pl)
   callWith pos f first (backTo pos (starEach [] X.env)) (backToKw pos (keywordEach [] X.env))):=by rfl) :
  PE X (.Call (.Attribute o m apos) [] [] pos) (Y5 C m sp E ta Zc):=by
 intro pins s σ H Q I h
 refine PySem.W.methodCall_KW (pl:=pl) (thn (he pins s σ H _ I h) λu s1 ⟨x,H1,I1,rx,a,dx,fs,ex,ea,l,q⟩=>?_) ht
 subst ex
 obtain rfl:u=Value.ref a:=rx
 refine Jk I1 ea c hm l ?_
 exact PySem.W.callWith_K0 (first:=[.ref a]) I1.kIn hm.kp (qwh (us:=[.ref a]) (vs:=[.ref a]) F hr hb hx I1 (.cons rfl .nil) q)
theorem qq0 {pins:List (Aj×Obj)}{σ:St}{H:Hp}{s:Ab}{Q:VK}{us:List Ag}{vs:List V}(M:Mk X.K C f)(F:FnOk X.prog X.w X.K X.mg X.base (CXE X.prog X.w) k f fd ps sp)(hr:Room (k+1) X.A)(hb:Binds X.K fd ps [])
  (hx:jx X E) (I:Inv X pins σ H s) (r:Vals vs us)
  (h:∀x dx,H x=none→H dx=none→dx≠x→sp (.ref x::vs) (upd (upd H dx (.own x)) x (.ins C dx [])) (λv H2=>v=.non∧Q (.ref x) H2) (E σ)) :
  wpAny (model X.prog X.w) X.A (call (.ref C) us) (EP X pins σ Q) X.xe s:=by
 have hq:=h (s.heap.objs.size+1) s.heap.objs.size (I.hok.fresh (Nat.le_succ _)) (I.hok.fresh (ah _)) (ax (Nat.lt_succ_self _))
 have I2:=Inv.made (C:=C) I
 have r2:Vals (V.ref (s.heap.objs.size+1)::vs) (Value.ref (s.heap.objs.size+1)::us):=.cons rfl r
 have hl:((Value.ref (s.heap.objs.size+1)::us)++[]).length=ps.length:=by
  rw [cA,←r2.length]
  exact F.len _ _ _ _ hq
 have hb':=hb _ (Value.ref (s.heap.objs.size+1)::us) I2.kIn hl
 rw [cA] at hb'
 refine wpAny_call (wqg (f:=f) I.kIn M.makes M.init (dq.mp M.fn) (dM (F.run _ X.stack _ _ ⟨Value.ref (s.heap.objs.size+1)::us,[]⟩ (Value.ref (s.heap.objs.size+1)::us) _ _ (E σ) (hr.make C us [])
  (I2.env0.make C us []) hb' r2 hq) λr s' hq'=>?_))
 cases r with
 |error e=>exact hx pins σ _ _ e s' I2 hq'
 |ok fl =>
  cases fl with
  |ret u =>
   obtain ⟨v,H',I3,rv,ev,q3⟩:=I2.after hq'
   subst ev
   exact ⟨rv,⟨V.ref (s.heap.objs.size+1),H',I3,rfl,q3⟩⟩
  |next=>exact False.elim hq'
  |brk=>exact False.elim hq'
  |cont=>exact False.elim hq'
theorem wxw (M:Mk X.K C f)(F:FnOk X.prog X.w X.K X.mg X.base (CXE X.prog X.w) k f fd ps sp)(hr:Room (k+1) X.A)(hg:Gl X x)(hm:X.mg x=some (.ref C))(hb:Binds X.K fd ps [])(hx:jx X E)
  (ha:PA X (e::es) t) (hdb:(x==("__debug__" : Str))=false:=by decide) (he:starEach (e::es) X.env=(false,eval e X.env)::starEach es X.env:=by rfl) (hpl:(backTo pos (starEach es X.env)).any (·.1)=false:=by rfl) :
  PE X (.Call (.Name x p) (e::es) [] pos) (qv5 C sp E t):=by
 intro pins s σ H Q I h
 refine cy (jc I hg hm ?_ hdb)
 refine dU (h₀:=X.base) I.ok.mod.kin M.kp (thn (ha pos pins s σ H _ I h) λus s1 ⟨vs,H1,I1,r,q⟩=>⟨I1.kIn,?_⟩) he hpl
 exact qq0 M F hr hb hx I1 r q
end
structure ExcC (K:Aa)(C:Aj):Prop where
 q:PySem.W.excIn K C [.type "ValueError",.type "Exception",.type "BaseException",.type "object"] "ValueError.__new__" = true
def tRaise (C:Aj)(E:St→XK)(t:TA):TS:=λD σ H=>t σ H λvs H1=>vs.length≤sizeLine∧E σ (.ref C) none H1
section
variable {X:Cx}{C:Aj}{E:St→XK}{x:Str}{np cpos pos:Pos}{e:Expr}{es:List Expr}{t:TA}
theorem zc (hc:X.calm=true)(c:ExcC X.K C)(hR:ww9 X E)(hg:Gl X x)(hm:X.mg x=some (.ref C))(ha:PA X (e::es) t)(hdb:(x==("__debug__" : Str))=false:=by decide)
  (he:starEach (e::es) X.env=(false,eval e X.env)::starEach es X.env:=by rfl) (hpl:(backTo cpos (starEach es X.env)).any (·.1)=false:=by rfl) :
  PS X (.Raise (some (.Call (.Name x np) (e::es) [] cpos)) none pos) (tRaise C E t):=by
 intro pins s σ H D I h
 obtain ⟨tl,N,a1,a2,a3,a4,a5,a6,a7,a8,a9,b0,b1,b2,b3,b5,mN,hC,hN,hni,T⟩:=qw0 I.ok.mod.kin c.q
 refine wpAny_Raise_call_subT (C:=C) (nm:=a1) (q:=a2) (N:=N) (bs:=a3) (bm:=tl) (hdct:=a4) (sn:=a5) (sub:=a6) (ab:=a7) (col:=a8) (dd:=a9) (k0:=b0) (k1:=b1) (k2:=b2) (k3:=b3) (k5:=b5)
  bU (mN:=mN) (T.hasType bU.hasBase) (I.ok.hd hc) (by rw [he];show (false||(backTo cpos (starEach es X.env)).any (·.1))=false;rw [hpl];rfl) hni (jc I hg hm ⟨rfl,?_⟩ hdb)
 have hw:=ha cpos pins s σ H _ I h
 rw [he] at hw ⊢
 refine cH (aL hw (λus s1 ⟨vs,H1,I1,r,hl,q⟩=>⟨rfl,by rw [←r.length];exact hl,I1.bk _ _ hC,hN.keeps I1.bk,T.keeps I1.bk,λh' e hx=>hR pins σ H1 s1 h' e C us I1 hx q⟩) λ_ _ z=>z)
end
abbrev Cx.handling (X:Cx)(e:Aj):Cx:={ X with A:=X.A.mark (some (.ref e)),calm:=false,xe:=λ_ _=>False }
abbrev Cx.trying (X:Cx)(pn:List (Aj×Obj))(xe:Ag→Ab→Prop):Cx:={ X with pn:=pn,xe:=xe }
section
variable {X:Cx}{pins:List (Aj×Obj)}{σ:St}{H H':Hp}{s s':Ab}{e:Aj}
theorem Cx.Ok.handling (o:X.Ok)(e:Aj):(X.handling e).Ok :=
 ⟨o.mod,o.kind,o.glob,o.blt,o.above,o.inj,o.has,o.cab,λz=>(aA z).elim,o.frames,o.stk,o.exf,o.bs,o.bsz,o.noex,o.exfs,o.funs,o.frf⟩
theorem Cx.Ok.trying (o:X.Ok)(pn:List (Aj×Obj))(xe:Ag→Ab→Prop):(X.trying pn xe).Ok :=
 ⟨o.mod,o.kind,o.glob,o.blt,o.above,o.inj,o.has,o.cab,o.hd,o.frames,o.stk,o.exf,o.bs,o.bsz,o.noex,o.exfs,o.funs,o.frf⟩
theorem Inv.handling (I:Inv X pins σ H s)(e:Aj):Inv (X.handling e) pins σ H s:=⟨I.ok.handling e,I.os,I.bare,I.base,I.loc,I.cell,I.free,I.freeC,I.pin,I.hok,I.len⟩
theorem Inv.unhandling (o:X.Ok)(I:Inv (X.handling e) pins σ H s):Inv X pins σ H s:=⟨o,I.os,I.bare,I.base,I.loc,I.cell,I.free,I.freeC,I.pin,I.hok,I.len⟩
theorem Inv.trying (I:Inv X pins σ H s)(xe:Ag→Ab→Prop):Inv (X.trying (X.pn++pins) xe) [] σ H s :=
 ⟨I.ok.trying _ _,I.os,I.bare,I.base,I.loc,I.cell,I.free,I.freeC,λp hp=>I.pin p ((aZ.mp hp).elim (λz=>z) λz=>nomatch z),I.hok,I.len⟩
theorem Inv.untrying {pins':List (Aj×Obj)}{xe:Ag→Ab→Prop}(o:X.Ok)(I:Inv (X.trying (X.pn++pins) xe) pins' σ H s):Inv X pins σ H s :=
 ⟨o,I.os,I.bare,I.base,I.loc,I.cell,I.free,I.freeC,λp hp=>I.pin p (cG _ hp),I.hok,I.len⟩
theorem SP.untrying {pins':List (Aj×Obj)}{xe:Ag→Ab→Prop}{D:Ends}{f:Flow}(o:X.Ok)(h:SP (X.trying (X.pn++pins) xe) pins' D f s'):SP X pins D f s':=by
 cases f with
 |next=>obtain ⟨a,b,c,d⟩:=h;exact ⟨a,b,c.untrying o,d⟩
 |brk=>obtain ⟨a,b,c,d⟩:=h;exact ⟨a,b,c.untrying o,d⟩
 |cont=>obtain ⟨a,b,c,d⟩:=h;exact ⟨a,b,c.untrying o,d⟩
 |ret u=>obtain ⟨v,a,b,c,d⟩:=h;exact ⟨v,a,b,c.untrying o,d⟩
theorem SP.unhandling {D:Ends}{f:Flow}(o:X.Ok)(h:SP (X.handling e) pins D f s'):SP X pins D f s':=by
 cases f with
 |next=>obtain ⟨a,b,c,d⟩:=h;exact ⟨a,b,c.unhandling o,d⟩
 |brk=>obtain ⟨a,b,c,d⟩:=h;exact ⟨a,b,c.unhandling o,d⟩
 |cont=>obtain ⟨a,b,c,d⟩:=h;exact ⟨a,b,c.unhandling o,d⟩
 |ret u=>obtain ⟨v,a,b,c,d⟩:=h;exact ⟨v,a,b,c.unhandling o,d⟩
def Y2 (K:Aa)(C D:Aj):Prop:=∀ {M:Model} {A:Ae} {E:Ag→Ab→Prop} {h:Heap} {g:Array GenState} {d:Drawn} {t:Nat} {os:OsState} {e:Aj} {oe:Obj} {Q:Bool→Ab→Prop},
 K.In h→h.get? e=some oe→oe.cls=.ref C→Q true ⟨h,g,d,t,os⟩→wpAny M A (excMatches (.ref e) (.ref D)) Q E ⟨h,g,d,t,os⟩
theorem Jm {K:Aa}{C:Aj}(c:ExcC K C):Y2 K C C:=by
 intro M A E h g d t os e oe Q X he hc q
 obtain ⟨tl,N,a1,a2,a3,a4,a5,a6,a7,a8,a9,b0,b1,b2,b3,b5,mN,hC,hN,hni,T⟩:=qw0 X c.q
 exact wpAny_excMatches_sub_self hC he hc (T.hasType bU.hasBase) q
end
section
variable {X:Cx}{x:Str}{D0:Aj}{np hpos pos:Pos}{b₀:Stmt}{body suite:List Stmt}{tb:(St→XK)→TS}{th:TS}
end
def Sm (n:Nat)(i:Int):Prop:=i.natAbs<2 ^ n
theorem Sm.bits {n:Nat}{i:Int}(h:Sm n i):Builtin.Int.intBits i≤n:=PyProof.Rows.intBits_le h
theorem Sm.mono {n m:Nat}{i:Int}(h:Sm n i)(hm:n≤m):Sm m i:=aD h (Nat.pow_le_pow_right (by decide) hm)
theorem Sm.of_le {n:Nat}{i j:Int}(h:Sm n j)(e:i.natAbs≤j.natAbs):Sm n i:=cX e h
theorem Sm.ok {n m:Nat}{i j:Int}(h:Sm n i)(h':Sm m j)(e:n+m≤134217728):IntMulOk i j:=IntMulOk.of_le h.bits h'.bits e
theorem Sm.log {n:Nat}{i:Int}(h:Sm n i)(hn:n≤9000):i.natAbs.log2<9000:=by
 by_cases h0:i.natAbs=0
 ·rw [h0]
  decide
 ·exact aD ((Nat.log2_lt h0).mpr h) hn
theorem Sm.noPl {n:Nat}{i j:Int}(h:Sm n j)(hn:n≤9000):Builtin.divisionGoesByPylong i j=false:=PyProof.noPylong_of_log2 (h.log hn)
section
variable {X:Cx}
theorem xy:OpR X (binaryOp .Mult) (rI IntMulOk λi j=>.int (i*j)):=opI λ_ _ _ _ _ _ _ hc q=>mul_int q hc
theorem vc:OpR X (binaryOp .FloorDiv) (rI (λ_ j=>0<j∧Sm 9000 j) λi j=>.int (i/j)):=opI λi j _ _ _ _ _ hc q =>
 floordiv_int (by lia) (by rw [Int.fdiv_eq_ediv_of_nonneg i (Int.le_of_lt hc.1)];exact q) (.inl (hc.2.noPl (ah _)))
theorem Wr:kj X (.builtin "isinstance") (λxs H Q=>∃x T t b,xs=[x,.ty T]∧TyOf X.K H x t∧PySem.W.kitOne X.K t (.type T)=some b∧Q (.bl b) H):=by
 intro pins s σ H xs us Q I r h
 obtain ⟨x,T,t,b,rfl,ty,e,q⟩:=h
 obtain ⟨u,u',rfl,r1,r2⟩:=wxx r
 cases r2
 exact qyp I r1 ty e λtk=>⟨.bl b,H,I.tok tk,rfl,q⟩
end
mutual
def RD (K:Aa)(H:Hp):PyData→V→Prop
 |.none,v=>v=.non
 |.bool b,v=>v=.bl b
 |.int i,v=>v=.int i
 |.str x,v=>v=.str x
 |.list ds,v=>∃a xs,v=.ref a∧SqL K H a xs∧RDs K H ds xs
 |.tuple ds,v=>∃a xs,v=.ref a∧SqT K H a xs∧RDs K H ds xs
 |.dict _,_=>False
def RDs (K:Aa)(H:Hp):List PyData→List V→Prop
 |[],xs=>xs=[]
 |d::ds,xs=>∃y ys,xs=y::ys∧RD K H d y∧RDs K H ds ys
end
section
variable {X:Cx}{pins:List (Aj×Obj)}{σ:St}{H:Hp}{s:Ab}
mutual
theorem wqh (I:Inv X pins σ H s):∀(d:PyData) (v:V) (u:Ag),RD X.K H d v→RelV v u→∃as,Reads s.heap u d as
 |.none,v,u,h,r=>by
  rw [RD] at h;subst h
  cases (show u=Value.none from r)
  exact ⟨_,.none⟩
 |.bool b,v,u,h,r=>by
  rw [RD] at h;subst h
  cases (show u=Value.bool b from r)
  exact ⟨_,.bool b⟩
 |.int i,v,u,h,r=>by
  rw [RD] at h;subst h
  obtain ⟨t,rfl⟩:=(show ∃t,u=Value.int i t from r)
  exact ⟨_,.int i t⟩
 |.str x,v,u,h,r=>by
  rw [RD] at h;subst h
  obtain ⟨t,rfl⟩:=(show ∃t,u=Value.str x t from r)
  exact ⟨_,.str x t⟩
 |.list ds,v,u,h,r=>by
  rw [RD] at h
  obtain ⟨a,xs,rfl,hs,hd⟩:=h
  cases (show u=Value.ref a from r)
  obtain ⟨its,rv,⟨o,n,e1,e2,_,e3⟩,_⟩:=I.list hs
  obtain ⟨as,ha⟩:=Wk I ds xs its hd rv
  exact ⟨_,.list e1 e2 e3 (by simpa using ha)⟩
 |.tuple ds,v,u,h,r=>by
  rw [RD] at h
  obtain ⟨a,xs,rfl,hs,hd⟩:=h
  cases (show u=Value.ref a from r)
  obtain ⟨its,rv,⟨o,e1,e2,n,e3⟩,_⟩:=I.tuple hs
  obtain ⟨as,ha⟩:=Wk I ds xs its hd rv
  exact ⟨_,.tuple e1 e2 e3 (by simpa using ha)⟩
 |.dict _,_,_,h,_=>by
  rw [RD] at h
  exact h.elim
theorem Wk (I:Inv X pins σ H s):∀(ds:List PyData) (vs:List V) (us:List Ag),RDs X.K H ds vs→Vals vs us→∃as,ReadsAll s.heap us ds as
 |[],vs,us,h,r=>by
  rw [RDs] at h;subst h
  cases r
  exact ⟨_,.nil⟩
 |d::ds,vs,us,h,r=>by
  rw [RDs] at h
  obtain ⟨y,ys,rfl,h1,h2⟩:=h
  cases r with
  |cons r1 r2 =>
   obtain ⟨as,a1⟩:=wqh I d y _ h1 r1
   obtain ⟨bs,a2⟩:=Wk I ds ys _ h2 r2
   exact ⟨_,.cons a1 a2⟩
end
end
end L2
namespace L2
open PySem PySem.Spec PyProof.Rows
section
variable {P:Ac}{w:Ah}{K:Aa}{mg:Str→Option Ag}{base:Heap}
theorem Fun.okX {x qual:Str}{st:Stmt}{f:Aj}{fd:Ad}{N ps:List Str}{k:Nat}{sp:Sp}(F:Fun K x qual st f fd)(S:FnScope N ps (wj st))(len:∀vs H Q E,sp vs H Q E→vs.length=ps.length)
  (body:∀(cdv:Ag) (A:Ae) (outer:List Env) (s:Ab) (H:Hp) (vs:List V) (Q:VK) (E:XK),Room k (A.deeper (envOfC qual (wj st) s.heap.objs.size f cdv))→sp vs H Q E →
   ∃t,PSs (qqp (CXE P w) P w K mg base N qual (wj st) f cdv A outer s H E) (wt st) t∧t { nx:=λ_ H'=>Q .non H',rt:=Q } (Qk N vs) H):FnOk P w K mg base (CXE P w) (k+1) f fd ps sp:=by
 obtain ⟨oc,od,kV,doc,pm,an,cdv,ct,osl,rfl,lk,hcd⟩:=F.ex
 exact fn_of lk hcd S len λA outer s H vs Q E hr hsp=>body cdv A outer s H vs Q E hr hsp
structure DefIn (K:Aa)(x:Str)(st:Stmt):Prop where
 ex:∃f fd,PySem.W.nsIn K mainGlobals x=some (some (.ref f))∧Fun K x x st f fd
theorem def_mk {x:Str}{st:Stmt}{f:Aj}{oc:Ag}{od an:Option Aj}{osl:Array (Option Ag)}{kV doc pm cdv ct:Ag}(a:PySem.W.nsIn K mainGlobals x=some (some (.ref f)))
  (l:K.lookup f=some ⟨oc,od,.func (PySem.W.fnOf x x (v3 st) (wt st) (wj st) .none kV doc pm an cdv ct),osl⟩) (c:PySem.W.codeIn K cdv x=true) (k:PySem.W.keepIn K (.ref f)=true):DefIn K x st:=⟨_,_,a,wwp l c k⟩
def x6 (x:Str)(st:Stmt)(ps:List Str):Prop:=∀(kV doc pm:Ag) (an:Option Aj) (cdv ct:Ag) (us:List Ag),us.length=ps.length→bindArgs (PySem.W.fnOf x x (v3 st) (wt st) (wj st) .none kV doc pm an cdv ct) ⟨us,[]⟩=pure (ps.zip us)
structure Cal (P:Ac)(w:Ah)(K:Aa)(mg:Str→Option Ag)(base:Heap)(x:Str)(k:Nat)(sp:Sp):Prop where
 ex:∃f fd ps,mg x=some (.ref f)∧FnOk P w K mg base (CXE P w) k f fd ps sp∧PySem.W.keepIn K (.ref f)=true∧Binds K fd ps []
theorem DefIn.cal {x:Str}{st:Stmt}{ps:List Str}{k:Nat}{sp:Sp}{h:Heap}(d:DefIn K x st)(KX:K.In h)(G:h.Ns mainGlobals mg)(b:x6 x st ps)(ok:∀f fd,Fun K x x st f fd→FnOk P w K mg base (CXE P w) k f fd ps sp):Cal P w K mg base x k sp:=by
 obtain ⟨f,fd,a,F⟩:=d.ex
 exact ⟨f,fd,ps,aI KX G a,ok f fd F,F.kp,F.binds b⟩
end
section
variable {X:Cx}{x:Str}{k:Nat}{sp:Sp}{E:St→XK}{p pos:Pos}{e:Expr}{es:List Expr}{t:TA}
theorem Yb (c:Cal X.prog X.w X.K X.mg X.base x k sp)(hr:Room k X.A)(hg:Gl X x)(hx:jx X E)
  (ha:PA X (e::es) t) (hdb:(x==("__debug__" : Str))=false:=by decide) (he:starEach (e::es) X.env=(false,eval e X.env)::starEach es X.env:=by rfl) (hpl:(backTo pos (starEach es X.env)).any (·.1)=false:=by rfl) :
  PE X (.Call (.Name x p) (e::es) [] pos) (Yv sp E t):=by
 obtain ⟨f,fd,ps,hm,F,kp,b⟩:=c.ex
 exact wq7 F hr hg hm kp b hx ha hdb he hpl
end
def tCut (t u:TS):TS:=λD σ H=>∃R:St→Hp→Prop,t { D with nx:=R } σ H∧∀σ' H',R σ' H'→u D σ' H'
theorem Z3 {X:Cx}{st:Stmt}{rest:List Stmt}{t u:TS}(h1:PS X st t)(h2:PSs X rest u):PSs X (st::rest) (tCut t u):=by
 intro pins s σ H D I ⟨R,h,hR⟩
 refine eC (thn (h1 pins s σ H { D with nx:=R } I h) λf s1 q=>?_)
 cases f with
 |next =>
  obtain ⟨σ1,H1,I1,q1⟩:=q
  exact h2 pins s1 σ1 H1 D I1 (hR σ1 H1 q1)
 |brk=>exact q
 |cont=>exact q
 |ret u=>exact q
theorem zp {c A B:Prop}[Decidable c](h1:c→A)(h2:¬ c→B):if decide c=true then A else B:=by
 by_cases h:c
 ·rw [bd h]
  exact j3 (h1 h)
 ·rw [bh h]
  exact yy (h2 h)
theorem iteND {c A B:Prop}[Decidable c](h1:¬ c→A)(h2:c→B):if (!decide c)=true then A else B:=by
 by_cases h:c
 ·rw [bd h]
  exact yy (h2 h)
 ·rw [bh h]
  exact j3 (h1 h)
theorem deqI {i j:Int}:decide (V.int i=V.int j)=decide (i=j):=by
 by_cases h:i=j
 ·subst h;simp
 ·simp [h]
theorem zt {i j:Int}{A B:Prop}(h1:i=j→A)(h2:i≠j→B):if decide (V.int i=V.int j)=true then A else B:=by
 rw [deqI]
 exact zp h1 h2
theorem wx0 {i j:Int}{A B:Prop}(h1:i≠j→A)(h2:i=j→B):if (!decide (V.int i=V.int j))=true then A else B:=by
 rw [deqI]
 exact iteND h1 h2
theorem Same.upd {H:Hp}{p:Aj}{o:HO}(n:H p=none):Same H (upd H p o):=λb u e=>by
 rw [wz (qg e n)]
 exact e
theorem Same.sql {K:Aa}{H H':Hp}{a:Aj}{xs:List V}(h:Same H H')(s:SqL K H a xs):SqL K H' a xs:=h.seq s
theorem SqT.new {K:Aa}{H:Hp}{p:Aj}{xs:List V}:SqT K (upd H p (.tup xs)) p xs:=SqT.of qm
theorem SqL.new {K:Aa}{H:Hp}{p:Aj}{xs:List V}:SqL K (upd H p (.lst xs)) p xs:=SqL.of qm
theorem Qt:bootBuiltins "abs" = some (.builtin "abs"):=by decide +kernel
theorem wwk:bootBuiltins "all" = some (.builtin "all"):=by decide +kernel
theorem Zf {ns:List Int}{i:Int}(h0:0≤i)(h1:i<ns.length):atI (ns.map V.int) i=some (V.int (ns.getD i.toNat 0)):=by
 have hl:i.toNat<ns.length:=by lia
 have e:(ns.map V.int)[i.toNat]?=some (V.int (ns.getD i.toNat 0)):=by
  rw [aG,av,ag hl]
  rfl
 have:=k4 e
 rwa [dI h0] at this
def qzs (ns:List Int)(i:Int):Int:=if i<ns.length then ns.getD i.toNat 0 else if (ns.length:Int)=0 then 7*i+3 else ns.getD (i%ns.length).toNat 0+1009*i
def divs (c:Int):Nat→Int
 |0=>c
 |n+1=>divs c n/1000
def Ju (K:Aa):Sp:=λvs H Q _=>∃(a:Aj) (ns:List Int) (i:Int),vs=[.ref a,.int i]∧SqL K H a (ns.map V.int)∧0≤i∧∀r,r=qzs ns i→Q (.int r) H
def yj (c:Int):Int:=if c<0 then -c else c
def qx5 (c t:Int):Int:=(c%1000003*48271+t*7919+101)%999983
def qvn (c t:Int):Int:=(qx5 c t*qx5 c t+c%1000003*31+t*104729)%1000033
def qz4 (c t:Int):Int:=if 10 ^ 18≤yj c then (if c<0 then divs (yj c) t.toNat%1000 else divs (yj c) t.toNat) else (qvn c t*qvn c t+qx5 c t*17+t*30011)%999979
def qvu (ns:List Int)(i t m:Int):Int:=qz4 (qzs ns i) t%m
theorem wxy (ns:List Int)(i t m:Int)(h:0<m):0≤qvu ns i t m:=bj _ (by lia)
theorem ww2 (ns:List Int)(i t m:Int)(h:0<m):qvu ns i t m<m:=aX _ h
theorem wqr {c t:Int}(h:10 ^ 18≤yj c)(n:c<0):qz4 c t=divs (yj c) t.toNat%1000:=by rw [qz4,al h,al n]
theorem qyv {c t:Int}(h:10 ^ 18≤yj c)(n:¬ c<0):qz4 c t=divs (yj c) t.toNat:=by rw [qz4,al h,ai n]
theorem wqc {c t:Int}(h:¬ 10 ^ 18≤yj c):qz4 c t=(qvn c t*qvn c t+qx5 c t*17+t*30011)%999979:=by rw [qz4,ai h]
def jm (K:Aa):Sp:=λvs H Q _=>∃(a:Aj) (ns:List Int) (i t m:Int),vs=[.ref a,.int i,.int t,.int m]∧SqL K H a (ns.map V.int)∧0≤i∧0≤t∧t<1000000∧0<m ∧
 ∀r,r=qvu ns i t m→0≤r→r<m→Q (.int r) H
theorem Sm.small {n:Nat}{i:Int}(h1:-(2 ^ 64)≤i)(h2:i≤2 ^ 64)(hn:65≤n):Sm n i:=by
 refine Sm.mono (n:=65) ?_ hn
 unfold Sm
 lia
def qjd (K:Aa):Sp:=λvs H Q _=>∃(a:Aj) (ns:List Int),vs=[.ref a]∧SqL K H a (ns.map V.int)∧ns.length≤63∧∀H',Q (.bl true) H'
theorem sz1 {x:V}:[x].length≤sizeLine:=by show 1≤sizeLine;decide
theorem sz2 {x y:V}:[x,y].length≤sizeLine:=by show 2≤sizeLine;decide
theorem sz0:([]:List V).length≤sizeLine:=by show 0≤sizeLine;decide
end L2
namespace L2
open PySem
def Zy (x y:Int):Int:=((Nat.gcd x.toNat y.toNat:Nat):Int)
theorem qyx {x:Int}(h:0≤x):Zy x 0=x:=by
 unfold Zy
 have:(0:Int).toNat=0:=rfl
 rw [this,Nat.gcd_zero_right]
 lia
theorem qy5 {x y:Int}(hx:0≤x)(hy:0<y):Zy y (x%y)=Zy x y:=by
 unfold Zy
 have e:(x%y).toNat=x.toNat%y.toNat:=by
  have h1:x=(x.toNat:Int):=by lia
  have h2:y=(y.toNat:Int):=by lia
  have h3:x%y=((x.toNat%y.toNat:Nat):Int):=by
   conv=>lhs;rw [h1,h2]
   exact (Int.natCast_emod _ _).symm
  rw [h3]
  exact bH _
 rw [e,Nat.gcd_comm y.toNat,←Nat.gcd_rec,Nat.gcd_comm]
theorem qj0 (t:Int):yj t=(t.natAbs:Int):=by
 unfold yj
 split <;> lia
theorem qjb (t:Int):0≤yj t:=by
 rw [qj0]
 lia
theorem vt (t b:Int):Zy (yj t) b=((Nat.gcd t.natAbs b.toNat:Nat):Int):=by
 unfold Zy
 rw [qj0,bH]
def gOf (t b:Int):Int:=Zy (yj t) b
def wf (t b:Int):Int×Int:=(t/gOf t b,b/gOf t b)
theorem jz {t b:Int}(h:1≤b):1≤gOf t b:=by
 unfold gOf
 rw [vt]
 have:0<Nat.gcd t.natAbs b.toNat:=Nat.gcd_pos_of_pos_right _ (by lia)
 lia
theorem qu6 {t b:Int}(h:1≤b):gOf t b≤b:=by
 unfold gOf
 rw [vt]
 have:Nat.gcd t.natAbs b.toNat≤b.toNat:=Nat.gcd_le_right _ (by lia)
 lia
theorem qy6 {t b:Int}(h:1≤b):gOf t b∣b:=by
 unfold gOf
 rw [vt]
 have h1:((Nat.gcd t.natAbs b.toNat:Nat):Int)∣(b.toNat:Int):=eG.mpr (Nat.gcd_dvd_right _ _)
 have h2:(b.toNat:Int)=b:=by lia
 rwa [h2] at h1
theorem qyc {t b:Int}:gOf t b∣t:=by
 unfold gOf
 rw [vt]
 have h1:((Nat.gcd t.natAbs b.toNat:Nat):Int)∣(t.natAbs:Int):=eG.mpr (Nat.gcd_dvd_left _ _)
 exact Int.dvd_natAbs.mp h1
theorem qzx {t b:Int}:gOf t b*(t/gOf t b)=t:=dv qyc
theorem Y1 {t b:Int}(h:1≤b):gOf t b*(b/gOf t b)=b:=dv (qy6 h)
theorem Ww {t b:Int}(h:1≤b):(wf t b).1*b=t*(wf t b).2:=by
 unfold wf
 dsimp only
 have h1:=qzx (t:=t) (b:=b)
 have h2:=Y1 (t:=t) (b:=b) h
 conv=>lhs;rw [←h2]
 conv=>rhs;rw [←h1]
 rw [h1,h2]
 have e1:t/gOf t b*b=t/gOf t b*(gOf t b*(b/gOf t b)):=by rw [h2]
 have e2:t*(b/gOf t b)=gOf t b*(t/gOf t b)*(b/gOf t b):=by rw [h1]
 rw [e1,e2,←Int.mul_assoc,df (t/gOf t b)]
theorem uq {t b:Int}(h:1≤b):1≤(wf t b).2:=by
 show 1≤b/gOf t b
 have h2:=Y1 (t:=t) (b:=b) h
 have h3:=jz (t:=t) h
 have:0<b/gOf t b:=by
  rcases cf 0 (b/gOf t b) with z|z
  ·exact z
  ·have:=bo z (show 0≤gOf t b by lia)
   rw [h2,Int.mul_zero] at this
   lia
 lia
theorem qk9 {t b:Int}(h:1≤b):(wf t b).2≤b:=Int.ediv_le_self _ (by lia)
theorem qws {t b:Int}(h:1≤b):gOf (wf t b).1 (wf t b).2=1:=by
 have h3:=jz (t:=t) h
 have hb:=uq (t:=t) h
 obtain ⟨g,hg⟩:∃g:Nat,gOf t b=(g:Int):=⟨_,by unfold gOf;exact vt t b⟩
 have g1:0<g:=by lia
 have hgg:g=Nat.gcd t.natAbs b.toNat:=by
  have:(g:Int)=((Nat.gcd t.natAbs b.toNat:Nat):Int):=by rw [←hg];unfold gOf;exact vt t b
  lia
 have et:g*(wf t b).1.natAbs=t.natAbs:=by
  have:=qzx (t:=t) (b:=b)
  have e:=bq Int.natAbs this
  rw [Int.natAbs_mul,hg] at e
  simpa [wf,hg] using e
 have eb:g*(wf t b).2.toNat=b.toNat:=by
  have:=Y1 (t:=t) (b:=b) h
  rw [hg] at this
  have q:(wf t b).2=b/(g:Int):=by unfold wf;rw [hg]
  have q2:b/(g:Int)=((b/(g:Int)).toNat:Int):=by rw [←q];lia
  rw [q]
  rw [q2] at this
  have:((g*(b/(g:Int)).toNat:Nat):Int)=b:=by rw [eQ];exact this
  lia
 unfold gOf
 rw [vt]
 have key:g*Nat.gcd (wf t b).1.natAbs (wf t b).2.toNat=g*1:=by
  rw [←Nat.gcd_mul_left,et,eb,←hgg,Nat.mul_one]
 have:=Nat.eq_of_mul_eq_mul_left g1 key
 rw [this]
 rfl
theorem wx7 {t b c:Int}(h:1≤b)(hc:1≤c):gOf (t*c) (b*c)=gOf t b*c:=by
 unfold gOf
 rw [vt,vt]
 have e1:(t*c).natAbs=t.natAbs*c.toNat:=by
  rw [Int.natAbs_mul]
  have:c.natAbs=c.toNat:=by lia
  rw [this]
 have e2:(b*c).toNat=b.toNat*c.toNat:=by
  have hb:b=(b.toNat:Int):=by lia
  have hc':c=(c.toNat:Int):=by lia
  have:b*c=((b.toNat*c.toNat:Nat):Int):=by
   rw [eQ,←hb,←hc']
  lia
 rw [e1,e2,Nat.gcd_mul_right,eQ]
 have:(c.toNat:Int)=c:=by lia
 rw [this]
theorem qxw {t b c:Int}(h:1≤b)(hc:1≤c):wf (t*c) (b*c)=wf t b:=by
 unfold wf
 rw [wx7 h hc]
 have hg:=jz (t:=t) h
 rw [cB _ _ (show 0<c by lia),cB _ _ (show 0<c by lia)]
end L2
namespace L2
open PySem PySem.Spec PyProof.Rows
def CapAll (env:Env):List (Str×Aj)→Prop
 |[]=>True
 |(y,c)::r=>env.cells.lookup y=some c∧CapAll env r
theorem CapAll.look {env:Env}:∀ {cl:List (Str×Aj)},CapAll env cl→∀ {y:Str} {c:Aj},cl.lookup y=some c→env.cells.lookup y=some c
 |[],_,_,_,e=>by cases e
 |(z,d)::r,h,y,c,e=>by
  rw [aC] at e
  cases hb:y==z with
  |true =>
   rw [hb] at e
   rw [eq_of_beq hb]
   exact h.1.trans e
  |false =>
   rw [hb] at e
   exact CapAll.look h.2 e
def HasAll (cl:List (Str×Aj)):List (Str×NameKind)→Prop
 |[]=>True
 |(n,k)::r=>(k=.free→∃c,cl.lookup n=some c)∧k≠.cell∧HasAll cl r
theorem HasAll.nocell {cl:List (Str×Aj)}:∀ {ns:List (Str×NameKind)},HasAll cl ns→∀y∈ns,y.2≠.cell
 |(n,k)::r,h,y,hy=>by
  rcases am.mp hy with rfl|hy
  ·exact h.2.1
  ·exact HasAll.nocell h.2.2 y hy
theorem HasAll.has {cl:List (Str×Aj)}{env:Env}:∀ {ns:List (Str×NameKind)},HasAll cl ns→∀ {x:Str} {q:NameKind},q=.cell∨q=.free →
  (ns.map λ(n,k)=>if (k==NameKind.free&&env.scope.kind==.function&&env.kindOf n==some .cell) then (n,NameKind.cell) else (n,k)).lookup x=some q→∃c,cl.lookup x=some c
 |[],_,_,_,_,e=>by cases e
 |(n,k)::r,h,x,q,hq,e=>by
  have ih:=HasAll.has (env:=env) h.2.2 (x:=x) hq
  rw [aS] at e
  by_cases hc:(k==NameKind.free&&env.scope.kind==.function&&env.kindOf n==some .cell)=true
  ·have e':=e
   dsimp only at e'
   rw [al hc,aC] at e'
   cases hb:x==n with
   |true =>
    rw [bc,bc] at hc
    obtain ⟨c,hcc⟩:=h.1 (eq_of_beq hc.1.1)
    exact ⟨c,by rw [eq_of_beq hb];exact hcc⟩
   |false =>
    rw [hb] at e'
    exact ih e'
  ·have e':=e
   dsimp only at e'
   rw [ai hc,aC] at e'
   cases hb:x==n with
   |true =>
    rw [hb] at e'
    have ek:k=q:=aw e'
    rcases hq with rfl|rfl
    ·exact absurd ek h.2.1
    ·obtain ⟨c,hcc⟩:=h.1 ek
     exact ⟨c,by rw [eq_of_beq hb];exact hcc⟩
   |false =>
    rw [hb] at e'
    exact ih e'
def CapIx (X:Cx)(scope:Scope)(cl:List (Str×Aj)):List Nat→Prop
 |[]=>True
 |j::r=>(∃y c,X.N[j]?=some y∧X.env.scope.names.lookup y=some .cell∧(relabel scope X.env).names.lookup y=some .cell∧cl.lookup y=some c)∧CapIx X scope cl r
theorem CapIx.get {X:Cx}{scope:Scope}{cl:List (Str×Aj)}:∀ {M:List Nat},CapIx X scope cl M→∀ {k j:Nat},M[k]?=some j →
  ∃y c,X.N[j]?=some y∧X.env.scope.names.lookup y=some .cell∧(relabel scope X.env).names.lookup y=some .cell∧cl.lookup y=some c
 |[],_,k,j,e=>by cases e
 |i::r,h,0,j,e=>by
  cases e
  exact h.1
 |i::r,h,k+1,j,e=>CapIx.get h.2 (k:=k) e
def Y8 (X:Cx)(x:Str)(M:List Nat):List Str:=x::M.map λj=>X.N.getD j Str.empty
def zd (M:List Nat)(σ:St)(o:Option V):St:=o::M.map λj=>(σ[j]?).join
abbrev zf (X:Cx)(scope:Scope)(cl:List (Str×Aj))(x:Str)(M:List Nat)(C:Aj)(s2:Ab)(H2:Hp)(fp:List Aj)(pn:List (Aj×Obj)):Cx :=
 { X with N:=Y8 X x M,s₀:=s2,H₀:=H2,env:=compEnvC scope cl C X.env,outer:=X.stack,ex:=fp,fn:=λ_=>false,pn:=pn,xe:=λ_ _=>False }
section
variable {X:Cx}{pins:List (Aj×Obj)}{σ:St}{H:Hp}{s2:Ab}{scope:Scope}{cl:List (Str×Aj)}{x:Str}{M:List Nat}{fp:List Aj}{C:Aj}{h1:Heap}{tk:Nat}
theorem Inv.compG {oo:HO}{xs:List Str}(I:Inv X pins σ H s2)(hc:CapAll X.env cl)(hh:HasAll cl scope.names)(hm:CapIx X scope cl M)(hk:scope.kind=.function)(hC:s2.heap.objs.size<C)
  (keep:∀b o,s2.heap.get? b=some o→h1.get? b=some o) (hn:h1.Ns C λ_=>none) (hD:ObjOk X.prog X.w (upd H s2.heap.objs.size oo) h1 s2.heap.objs.size oo)
  (hfp:∀b∈fp,jj X pins H b) (hob:∀b∈fp,∃o,s2.heap.get? b=some o) :
  Inv { X with N:=xs++M.map λj=>X.N.getD j Str.empty,s₀:=s2,H₀:=H,env:=compEnvC scope cl C X.env,outer:=X.stack,ex:=fp,fn:=λ_=>false,pn:=X.pn++pins,xe:=λ_ _=>False } [] ((xs.map λ_=>none)++M.map λj=>(σ[j]?).join) (upd H s2.heap.objs.size oo) { s2 with heap:=h1,toks:=tk }:=by
 have hfr:=I.hok.fresh (a:=s2.heap.objs.size) (ah _)
 have o:=I.ok
 have hcc:∀y c,cl.lookup y=some c→X.env.cells.lookup y=some c:=λy c e=>hc.look e
 have hlt:∀b∈fp,b<s2.heap.objs.size:=λb hb=>by
  obtain ⟨ob,e⟩:=hob b hb
  exact ak e
 have hstk:∀b∈fp,b∉frs X.stack:=λb hb z=>by
  rcases am.mp (I.stkSub b z) with z|z
  ·exact (hfp b hb).2.1 z
  ·exact (hfp b hb).2.2.1 z
 have hCn:H C=none:=I.hok.fresh (bC hC)
 refine ⟨⟨o.mod,hk,o.glob,o.blt,bC hC,λy z c e1 e2=>o.inj y z c (hcc y c e1) (hcc z c e2),λy hy=>?_,λy c z=>(aA z).elim,o.hd,o.frames,.inl rfl,λb hb=>⟨ax (bt (hlt b hb) hC),λy c e=>(hfp b hb).2.2.2.2.1 y c (hcc y c e)⟩,
  λb ob e=>I.bs b ob e,bB o.bsz I.sz,λb ob e z=>?_,hstk,I.stack,I.stkFree⟩,rfl,I.bare,?_,?_,λy c e=>?_,?_,λy c e=>?_,λp hp=>?_,?_,?_⟩
 ·rcases hy with hy|hy
  ·exact hh.has (.inl rfl) hy
  ·exact hh.has (.inr rfl) hy
 ·obtain ⟨e1,e2⟩:=I.bs b ob e
  exact (hfp b z).2.2.2.1.elim (λq=>o.noex b ob e q) λq=>by
   have:=o.bs b ob e
   exact aV _ (aD (ak this.1) q)
 ·exact (Un.laid (fs:=frs X.stack) (ex:=fp) (o:=oo) keep (ah _) hfr)
 ·refine ⟨_,hn,λi z v e1 e2 e3=>?_⟩
  rcases dN i xs.length with hi|hi
  ·have e2:((xs.map λ_=>(none:Option V))++M.map λj=>(σ[j]?).join)[i]?=some (some v):=e2
   rw [bn (by rw [ae];exact hi),aG,ag hi] at e2
   cases e2
  have e1':(xs++M.map λj=>X.N.getD j Str.empty)[i]?=some z:=e1
  have e2':((xs.map λ_=>(none:Option V))++M.map λj=>(σ[j]?).join)[i]?=some (some v):=e2
  rw [bb hi] at e1'
  rw [bb (by rw [ae];exact hi),ae] at e2'
  generalize i-xs.length=k at e1' e2'
  rw [aG] at e1' e2'
  cases hj:M[k]? with
  |none=>rw [hj] at e1';cases e1'
  |some j =>
   rw [hj] at e1' e2'
   obtain ⟨y,c,f1,f2,f3,f4⟩:=hm.get hj
   have ez:X.N.getD j Str.empty=z:=aw e1'
   rw [av,f1] at ez
   have ez':y=z:=ez
   subst ez'
   have ev:(σ[j]?).join=some v:=aw e2'
   have ev':σ[j]?=some (some v):=by
    cases hs:σ[j]? with
    |none=>rw [hs] at ev;cases ev
    |some w' =>
     rw [hs] at ev
     have:w'=some v:=ev
     rw [this]
   obtain ⟨m,hns,hl⟩:=I.loc
   obtain ⟨u,r,l⟩:=hl j y v f1 ev' (.inr (.inl f2))
   refine ⟨u,r,.inr ⟨.inl f3,c,f4,?_⟩⟩
   rcases l with ⟨lk,_⟩|⟨_,c',lc,li⟩
   ·have:X.env.scope.names.lookup y=some .local:=lk
    rw [f2] at this
    cases this
   ·rw [hcc y c f4] at lc
    have:=aw lc
    subst this
    exact li.keeps keep
 ·obtain ⟨v,hv⟩:=I.cell y c (hcc y c e)
  exact ⟨v,hv.keeps keep⟩
 ·show upd H s2.heap.objs.size oo C=none
  rw [wz (dL hC)]
  exact hCn
 ·show upd H s2.heap.objs.size oo c=none
  obtain ⟨v,ob,e1,e2⟩:=I.cell y c (hcc y c e)
  rw [wz (ax (ak e1))]
  exact I.freeC y c (hcc y c e)
 ·have hp':p∈X.pn++pins:=(aZ.mp hp).elim (λz=>z) λz=>nomatch z
  obtain ⟨e1,e2,e3,e4,e5⟩:=I.pin p hp'
  refine ⟨keep _ _ e1,?_,ax (bt (ak e1) hC),λz=>?_,e5⟩
  ·rw [wz (ax (ak e1))]
   exact e2
  ·rcases am.mp (I.stkSub p.1 z) with z|z
   ·exact e3 z
   ·exact e4 z
 ·exact I.hok.laid keep (ah _) hD
 ·show ((xs.map λ_=>(none:Option V))++M.map λj=>(σ[j]?).join).length=(xs++M.map λj=>X.N.getD j Str.empty).length
  simp only [au,ae]
theorem Inv.comp (I:Inv X pins σ H s2)(hc:CapAll X.env cl)(hh:HasAll cl scope.names)(hm:CapIx X scope cl M)(hk:scope.kind=.function)(hC:s2.heap.objs.size<C)
  (keep:∀b o,s2.heap.get? b=some o→h1.get? b=some o) (hn:h1.Ns C λ_=>none) (hD:h1.get? s2.heap.objs.size=some { cls:=.type "list",data:=.seq #[] 0 })
  (hfp:∀b∈fp,jj X pins H b) (hob:∀b∈fp,∃o,s2.heap.get? b=some o) :
  Inv (zf X scope cl x M C s2 H fp (X.pn++pins)) [] (zd M σ none) (upd H s2.heap.objs.size (.lst [])) { s2 with heap:=h1,toks:=tk }:=I.compG (xs:=[x]) hc hh hm hk hC keep hn ⟨aE _,[],0,.nil,hD⟩ hfp hob
theorem Inv.uncomp {pins':List (Aj×Obj)}{σ':St}{H':Hp}{s':Ab}{h':Heap}(I:Inv X pins σ H s2)(hC:s2.heap.objs.size≤C)(hfp:∀b∈fp,jj X pins H b)
  (J:Inv (zf X scope cl x M C s2 H fp (X.pn++pins)) pins' σ' H' s') (hs:Heap.SameBut C s'.heap h'):Inv X pins σ H' { s' with heap:=h' }:=by
 have hb:=J.base
 have nC:∀b o,s2.heap.get? b=some o→b≠C:=λb o e=>ax (aD (ak e) hC)
 have st:∀b o,b≠C→s'.heap.get? b=some o→h'.get? b=some o:=λb o n e=>(hs.2 b n).trans e
 refine I.call' (s':={ s' with heap:=h' }) (ch:=fp) J.os ⟨λb o e n nb nx=>st b o (nC b o e) (hb.keep b o e n nb nx),λb o e n hb' nx=>?_,hb.free,λb o e nx=>?_,hb.tups,hb.frzs,hb.tbls⟩ ?_ J.bare λb hbf=>?_
 ·obtain ⟨sl,e1⟩:=hb.slot b o e n hb' nx
  exact ⟨sl,st b _ (nC b o e) e1⟩
 ·obtain ⟨o',e1⟩:=hb.there b o e nx
  exact ⟨o',st b _ (nC b o e) e1⟩
 ·intro b u hu
  have fr:H' C=none:=J.free
  refine (J.hok b u hu).stay (λc v hc e=>st c v ?_ e) (λ_ z=>z) λ_ _ z=>z
  rcases hc with rfl|hc
  ·intro z;rw [z,fr] at hu;cases hu
  ·intro z;rw [z,fr] at hc;cases hc
 ·obtain ⟨q1,q2,q3,q4,q5,q6⟩:=hfp b hbf
  exact ⟨q4,q2,q5,q6⟩
end
def qq6 (J:It)(M:List Nat)(te:TE)(σ:St)(H1:Hp)(Q:VK):Prop:=∀p,H1 p=none→∃W:Nat→Nat→List V→Hp→Prop,(∃m,W 0 m [] (upd H1 p (.lst []))) ∧
 ∀i m ys H2,W i m ys H2→H2 p=some (.lst ys)∧ys.length<sizeLine∧((J.stop i H2∧Q (.ref p) H2)∨(J.go i H2∧∀v H3,J.yld i H2 v H3 →
  te (zd M σ (some v)) H3 λy H4=>H4 p=some (.lst ys)∧∃m',m'<m∧W (i+1) m' (ys++[y]) (upd H4 p (.lst (ys++[y])))))
def tComp (M:List Nat)(wi:TI)(te:TE):TE:=λσ H Q=>wi σ H λJ H1=>qq6 J M te σ H1 Q
theorem Wd {Y:Cx}{tg e:Expr}{k:Nat}{acc:Ag}{it:Aj}{fp:List Aj}{tn:Nat→Heap→Prop}{J:It}{ps:Pos}{REST:Sem PySem.Fin}{post:Result→Ab→Prop}{gg:TG}{pins:List (Aj×Obj)}{σ:St}{V:Nat→Nat→Hp→Prop}{Qd:Hp→Prop}{s0:Ab}{H0:Hp}{n0:Nat}
  (T:Turn Y.prog Y.w Y.K tg J fp it tn) (hc:Y.calm=true) (hx:∀v s,Y.xe v s→False)
  (hturn:compTurn e k (.ref it) acc Y.env=(standAt ps >>= λ_=>pyNext (.ref it) >>= λr=>match r with|none=>pure (.done .next)|some v=>letOwnedTupleGo tg (.ref it) v >>= λ_=>assign tg Y.env v >>= λ_=>REST))
  (hun:Y.A.under (.compLoop e k (.ref it) acc Y.env)=Y.A) (hden:(model Y.prog Y.w).den (.compLoop e k (.ref it) acc Y.env)=((compTurn e k (.ref it) acc Y.env).onRaise λz=>do noteFrame z Y.env;theTreesLotGoes z))
  (hg:PG Y tg gg) (fok:∀H2:Hp,(∀b∈fp,H2 b=none)→∀b∈fp,jj Y pins H2 b)
  (hV:∀i n H2,V i n H2→(J.stop i H2∧Qd H2)∨(J.go i H2∧∀v H3,J.yld i H2 v H3→∃Z:St→Hp→Prop,gg v σ H3 Z∧∀σ4 H4,Z σ4 H4→(σ.length=σ4.length∧∀(k:Nat) z,σ[k]?=some (some z)→σ4[k]?=some (some z))∧∀pins' s',Inv Y pins' σ4 H4 s' →
   wpAny (model Y.prog Y.w) Y.A REST (λr s5=>r=Fin.again (.compLoop e k (.ref it) acc Y.env)∧∃H5,Inv Y pins' σ4 H5 s5∧∃n',n'<n∧V (i+1) n' H5) Y.xe s'))
  (fin:∀H2 s4,Inv Y pins σ H2 s4→Qd H2→post (.ok .next) s4) (I:Inv Y pins σ H0 s0) (v0:V 0 n0 H0) (t0:tn 0 s0.heap) (nf:∀b∈fp,H0 b=none) :
  codeAny (model Y.prog Y.w) Y.A (.compLoop e k (.ref it) acc Y.env) post s0:=by
 refine codeAny_loop rfl (λn s3=>∃i H2,V i n H2∧Inv Y pins σ H2 s3∧tn i s3.heap∧∀b∈fp,H2 b=none) (λn s3 hI=>?_) n0 ⟨0,H0,v0,I,t0,nf⟩
 obtain ⟨i,H2,w,J2,t,nf2⟩:=hI
 rw [hun,hden]
 refine wpAny_noted ?_
 rw [hturn]
 refine ac (cQ (ac ?_))
 rcases hV i n H2 w with ⟨hst,hq⟩|⟨hgo,hy⟩
 ·refine aL (T.done Y rfl rfl rfl hc i pins s3 _ H2 (λ_ _=>False) J2 (fok H2 nf2) t hst) (λr s4 hr=>?_) λ_ _ z=>z.elim
  obtain ⟨rfl,J4⟩:=hr
  exact aj (fin H2 s4 J4 hq)
 ·refine aL (T.item Y rfl rfl rfl hc i pins s3 _ H2 (λ_ _=>False) J2 (fok H2 nf2) t hgo) (λr s4 hr=>?_) λ_ _ z=>z.elim
  obtain ⟨u,rfl,hw⟩:=hr
  refine ac (aL hw (λ_ s5 hr5=>?_) λ_ _ z=>z.elim)
  obtain ⟨v,H3,J5,rv,yl,t5,nf⟩:=hr5
  obtain ⟨Z,hz,hZ⟩:=hy v H3 yl
  refine ac (aL (hg _ s5 _ H3 v u _ (J5.pinned (fok H3 nf) (T.obj _ _ t5)) rv hz) (λ_ s6 hr6=>?_) λv s z=>(hx v s z).elim)
  obtain ⟨σ6,H6,J6,z6⟩:=hr6
  obtain ⟨⟨hl,hw6⟩,hR⟩:=hZ σ6 H6 z6
  refine aL (hR _ s6 J6) (λr s7 hr7=>?_) λv s z=>(hx v s z).elim
  obtain ⟨rfl,H7,J7,n',hn',v7⟩:=hr7
  refine ⟨rfl,n',hn',i+1,H7,v7,(J7.unpinned (pins:=pins)).weak hl hw6,?_,?_⟩
  ·exact T.keep _ _ _ t5 λb hb o e=>(J7.pin (b,o) (aB _ (aB _ (kh hb e)))).1
  ·intro b hb
   obtain ⟨o,e,_⟩:=T.obj _ _ t5 b hb
   exact (J7.pin (b,o) (aB _ (aB _ (kh hb e)))).2.1
section
variable {Y:Cx}{elt cd:Expr}{te:TE}{tt:TT}{c:Code}{p:Aj}{σ:St}{H:Hp}{pins:List (Aj×Obj)}{s:Ab}
def appS (elt:Expr)(acc:Ag)(env:Env)(c:Code):Sem PySem.Fin:=(eval elt env >>= λx=>call (.builtin "list.append") [acc,x] >>= λ_=>pure ()) >>= λ_=>again c
theorem qzt {ys:List V}{N:List V→Hp→Prop}(hx:∀v s,Y.xe v s→False)(he:PE Y elt te)(J:Inv Y pins σ H s)(hz:ys.length<sizeLine)(h:te σ H λy H4=>H4 p=some (.lst ys)∧N (ys++[y]) (upd H4 p (.lst (ys++[y])))) :
  wpAny (model Y.prog Y.w) Y.A (appS elt (.ref p) Y.env c) (λr s5=>r=Fin.again c∧∃H5,Inv Y pins σ H5 s5∧∃zs,N zs H5) Y.xe s:=by
 refine ac (ac (aL (he _ s _ H _ J h) (λyv s7 hr7=>?_) λ_ _ z=>z))
 obtain ⟨y,H4,J7,ry,hp4,n4⟩:=hr7
 refine ac (aL (jy (X:=Y) _ s7 _ H4 (.ref p) [y] (.ref p) [yv] (λ_ H8=>H8=upd H4 p (.lst (ys++[y]))) J7 rfl (.cons ry .nil) ⟨_,ys,y,rfl,rfl,hp4,hz,rfl⟩) (λ_ s8 hr8=>?_) λ_ _ z=>z)
 obtain ⟨_,H8,J8,_,rfl⟩:=hr8
 exact aj (aj ⟨rfl,_,J8,_,n4⟩)
def tstS (cd:Expr)(env:Env)(a b:Sem PySem.Fin):Sem PySem.Fin:=(forIn [cd] true λc r=>if r=true then do let ok ←isTrue c env (eval c env);pure (ForInStep.yield ok) else pure (ForInStep.yield r)) >>= λok=>if ok=true then a else b
theorem wqu {a b:Sem PySem.Fin}{F:Hp→Prop}{G:Hp→Prop}{R:PySem.Fin→Ab→Prop}(ht:PT Y cd tt)(J:Inv Y pins σ H s)(h:tt σ H λok H4=>if ok=true then F H4 else G H4)
  (ha:∀s' H4,Inv Y pins σ H4 s'→F H4→wpAny (model Y.prog Y.w) Y.A a R Y.xe s') (hb:∀s' H4,Inv Y pins σ H4 s'→G H4→wpAny (model Y.prog Y.w) Y.A b R Y.xe s') :
  wpAny (model Y.prog Y.w) Y.A (tstS cd Y.env a b) R Y.xe s:=by
 refine ac (wpAny_tests_one (aL (ht _ s _ H _ J h) (λok s6 hr6=>?_) λ_ _ z=>z))
 obtain ⟨H6,J6,hok⟩:=hr6
 cases ok with
 |false=>exact hb s6 H6 J6 hok
 |true=>exact ha s6 H6 J6 hok
end
section
variable {X:Cx}{elt iter cd:Expr}{x:Str}{px pos:Pos}{scope:Scope}{cl:List (Str×Aj)}{M:List Nat}{wi:TI}{te:TE}{tt:TT}{pins:List (Aj×Obj)}{σ:St}
theorem qwp {N:List Str}{C:Aj}{s2:Ab}{H1:Hp}{fp:List Aj}(hcap:CapAll X.env cl)(I2:Inv X pins σ H1 s2)(hlt:s2.heap.objs.size<C)(hfp:∀b∈fp,jj X pins H1 b)(hbl:∀b∈fp,b<s2.heap.objs.size)(H2:Hp)(hn:∀b∈fp,H2 b=none) :
  ∀b∈fp,jj { X with N:=N,s₀:=s2,H₀:=H1,env:=compEnvC scope cl C X.env,outer:=X.stack,ex:=fp,fn:=λ_=>false,pn:=X.pn++pins,xe:=λ_ _=>False } [] H2 b:=λb hb=>by
 obtain ⟨q1,q2,q3,q4,q5,q6⟩:=hfp b hb
 refine ⟨hn b hb,ax (bt (hbl b hb) hlt),λz=>?_,.inl hb,λy c e=>q5 y c (hcap.look e),λp hp=>q6 p ((aZ.mp hp).elim (λz=>z) λz=>nomatch z)⟩
 rcases am.mp (I2.stkSub b z) with z|z
 ·exact q2 z
 ·exact q3 z
theorem qq2 {tg:Expr}{ifs:List Expr}{rest:List Comprehension}(hclos:closureFor scope X.env=pure cl)(hhas:HasAll cl scope.names)(hk:scope.kind=.function)
  (hnames:∀y∈scope.names,y.2=.local→scope.names.lookup y.1=some .local) (hi:PI X tg iter wi) (hs:∀z,foldedSetIterable iter X.env z=pure z)
  {use:Option (Ag→Sem Unit)} {QQ:Ag→Ab→Prop} {s:Ab} {H:Hp} {ps:Pos} {R:It→Hp→Prop} (I:Inv X pins σ H s) (h:wi σ H R)
  (go:∀(it:Aj) (fp:List Aj) (tn:Nat→Heap→Prop) (J:It) (H1:Hp) (s2:Ab) (C:Aj) (h3:Heap) (tk:Nat),Inv X pins σ H1 s2→Turn X.prog X.w X.K tg J fp it tn→tn 0 h3→(∀b∈fp,jj X pins H1 b)→(∀b∈fp,b<s2.heap.objs.size)→(∀b∈fp,∃o,s2.heap.get? b=some o)→R J H1→s2.heap.objs.size<C →
   (∀b o,s2.heap.get? b=some o→h3.get? b=some o)→(h3.Ns C λ_=>none)→h3.get? s2.heap.objs.size=some { cls:=.type "list",data:=.seq #[] 0 } →
   codeAny (model X.prog X.w) X.A (.compLoop (.ListComp elt (⟨tg,iter,ifs,0⟩::rest) scope pos) 0 (.ref it) (.ref s2.heap.objs.size) (compEnvC scope cl C X.env)) (compPost (model X.prog X.w) X.A X.xe use QQ (.ref s2.heap.objs.size) C) { s2 with heap:=h3,toks:=tk }) :
  wpAny (model X.prog X.w) X.A (comprehension (.ListComp elt (⟨tg,iter,ifs,0⟩::rest) scope pos) scope X.env ps (newList []) false (eval iter X.env) use) QQ X.xe s:=by
 refine cR (use:=use) rfl hs hclos hk hnames ?_
 refine thn (hi pins s σ H _ I h) λv s1 h1=>thn h1 λitv s2 h2=>?_
 obtain ⟨it,fp,tn,J,H1,rfl,I2,T,t0,hfp,hR⟩:=h2
 refine bG ?_
 refine dz hhas.nocell (by intro y hy;cases hy) (λh3 hns hsb=>?_) hk
 dsimp only at hns hsb ⊢
 generalize hH2:s2.heap.push { cls:=.type "list",dict:=none,data:=.seq ([]:List Ag).toArray }=G2 at hns hsb ⊢
 have hC:G2.objs.size=s2.heap.objs.size+1:=by rw [←hH2,da]
 have hlt:s2.heap.objs.size<G2.objs.size:=by lia
 have keep:∀b o,s2.heap.get? b=some o→h3.get? b=some o:=λb o e=>by
  rw [hsb.2 b (ax (bt (ak e) hlt))]
  exact af _ (hH2▸af _ e)
 have hD:h3.get? s2.heap.objs.size=some { cls:=.type "list",data:=.seq #[] 0 }:=by
  rw [hsb.2 _ (ax hlt)]
  exact af _ (hH2▸ar _ rfl)
 have t3:=T.keep 0 _ _ t0 λb _ o e=>keep b o e
 have loop:=λtk=>go it fp tn J H1 s2 G2.objs.size h3 tk I2 T t3 hfp (λb hb=>let ⟨o,e,_⟩:=T.obj 0 _ t0 b hb;ak e) (λb hb=>let ⟨o,e,_⟩:=T.obj 0 _ t0 b hb;⟨o,e⟩) hR hlt keep hns hD
 exact codeAny_compStart_list (loop _) (T.self _ 0 _ _ _ t3 (loop _))
theorem u9 (M:List Nat)(σ:St)(v:V):(zd M σ none).length=(zd M σ (some v)).length∧∀(k:Nat) z,(zd M σ none)[k]?=some (some z)→(zd M σ (some v))[k]?=some (some z):=⟨rfl,λk z ez=>by
 cases k with
 |zero=>cases ez
 |succ k=>exact ez⟩
end
section
variable {X:Cx}{elt iter:Expr}{x:Str}{px pos:Pos}{scope:Scope}{cl:List (Str×Aj)}{M:List Nat}{wi:TI}{te:TE}
theorem wwq (hc:X.calm=true)(hclos:closureFor scope X.env=pure cl)(hcap:CapAll X.env cl)(hhas:HasAll cl scope.names)(hix:CapIx X scope cl M)(hk:scope.kind=.function)
  (hnames:∀y∈scope.names,y.2=.local→scope.names.lookup y.1=some .local) (hx:scope.names.lookup x=some .local) (hnd:(Y8 X x M).Nodup) (hi:PI X (.Name x px) iter wi)
  (he:∀C s2 H2 fp pn,PE (zf X scope cl x M C s2 H2 fp pn) elt te) (hs:∀z,foldedSetIterable iter X.env z=pure z)
  {use:Option (Ag→Sem Unit)} {QQ:Ag→Ab→Prop} {pins:List (Aj×Obj)} {s:Ab} {σ:St} {H:Hp} {Q:VK} {ps:Pos} (I:Inv X pins σ H s) (h:wi σ H λJ H1=>qq6 J M te σ H1 Q)
  (fin:∀(C:Aj) (s2 s4:Ab) (H1 H2:Hp) (fp:List Aj),Inv X pins σ H1 s2→s2.heap.objs.size<C→(∀b∈fp,jj X pins H1 b)→Inv (zf X scope cl x M C s2 H1 fp (X.pn++pins)) [] (zd M σ none) H2 s4→Q (.ref s2.heap.objs.size) H2 →
   compPost (model X.prog X.w) X.A X.xe use QQ (.ref s2.heap.objs.size) C (.ok .next) s4) :
  wpAny (model X.prog X.w) X.A (comprehension (.ListComp elt [⟨.Name x px,iter,[],0⟩] scope pos) scope X.env ps (newList []) false (eval iter X.env) use) QQ X.xe s:=by
 refine qq2 hclos hhas hk hnames hi hs I h λit fp tn J H1 s2 C h3 tk I2 T t3 hfp hbl hob hR hlt keep hns hD=>?_
 obtain ⟨W,⟨m0,w0⟩,hW⟩:=hR s2.heap.objs.size (I2.hok.fresh (ah _))
 have hxl:(relabel scope X.env).names.lookup x=some .local:=dA hx
 refine Wd (Y:=zf X scope cl x M C s2 H1 fp (X.pn++pins)) (V:=λi n H2=>∃ys,W i n ys H2) (Qd:=Q (.ref s2.heap.objs.size)) (REST:=appS elt (.ref s2.heap.objs.size) (compEnvC scope cl C X.env) _) T hc (λ_ _ z=>z) (compTurn_list1 ..) rfl rfl (xv (i:=0) hnd rfl (.inl hxl) (.inr hxl)) (qwp hcap I2 hlt hfp hbl) (λi n H2 ⟨ys,w⟩=>?_) (λH2 s4 J4 q=>fin C s2 s4 H1 H2 fp I2 hlt hfp J4 q) (I2.comp hcap hhas hix hk hlt keep hns hD hfp hob) ⟨[],w0⟩ t3 λb hb=>by rw [wz (ax (hbl b hb))];exact (hfp b hb).1
 obtain ⟨hp,hz,hcase⟩:=hW i n ys H2 w
 refine hcase.imp id λ⟨hgo,hy⟩=>⟨hgo,λv H3 yl=>⟨λσ4 H4=>σ4=zd M σ (some v)∧H3=H4,⟨rfl,rfl⟩,λ_ _ e=>?_⟩⟩
 obtain ⟨rfl,rfl⟩:=e
 refine ⟨u9 M σ v,λpins' s' J=>?_⟩
 refine aL (qzt (N:=λzs H5=>∃m',m'<n∧W (i+1) m' zs H5) (λ_ _ z=>z) (he _ _ _ _ _) J hz (hy v H3 yl)) (λr s5 ⟨e,H5,J5,zs,m',hm,w'⟩=>⟨e,H5,J5,m',hm,zs,w'⟩) λ_ _ z=>z
theorem jf (hc:X.calm=true)(hclos:closureFor scope X.env=pure cl)(hcap:CapAll X.env cl)(hhas:HasAll cl scope.names)(hix:CapIx X scope cl M)(hk:scope.kind=.function)
  (hnames:∀y∈scope.names,y.2=.local→scope.names.lookup y.1=some .local) (hx:scope.names.lookup x=some .local) (hnd:(Y8 X x M).Nodup) (hi:PI X (.Name x px) iter wi)
  (he:∀C s2 H2 fp pn,PE (zf X scope cl x M C s2 H2 fp pn) elt te) (hs:∀z,foldedSetIterable iter X.env z=pure z:=by intro _;rfl) :
  PE X (.ListComp elt [⟨.Name x px,iter,[],0⟩] scope pos) (tComp M wi te):=by
 intro pins s σ H Q I h
 rw [eval_ListComp]
 refine wwq hc hclos hcap hhas hix hk hnames hx hnd hi he hs (use:=none) I h λC s2 s4 H1 H2 fp I2 hlt hfp J4 hq=>?_
 obtain ⟨m,hn,_⟩:=J4.loc
 exact ⟨m,hn,λh' hs'=>⟨.ref s2.heap.objs.size,H2,I2.uncomp (bC hlt) hfp J4 hs',rfl,hq⟩⟩
theorem Inv.but {pins:List (Aj×Obj)}{σ:St}{H:Hp}{s:Ab}{h':Heap}{C:Aj}(I:Inv X pins σ H s)(hn:H C=none)(h1:X.s₀.heap.objs.size≤C)(h2:C≠X.env.locals)(h3:∀y c,X.env.cells.lookup y=some c→c≠C)(h4:∀p∈X.pn++pins,p.1≠C)
  (hs:Heap.SameBut C s.heap h'):Inv X pins σ H { s with heap:=h' }:=by
 have st:∀b o,b≠C→s.heap.get? b=some o→h'.get? b=some o:=λb o n e=>(hs.2 b n).trans e
 have nc:∀b,b∉[C]→b≠C:=λb z e=>z (by rw [e];exact .head _)
 refine I.call' (s':={ s with heap:=h' }) (ch:=[C]) rfl ⟨λb o e n _ nx=>st b o (nc b nx) e,λb o e n _ nx=>⟨o.slots,st b o (nc b nx) e⟩,λb o e n _=>n,λb o e nx=>⟨o,st b o (nc b nx) e⟩,λ_ _ e=>e,λ_ _ _ e=>e,λb ps e=>⟨#[],by rw [e];simp⟩⟩ ?_ I.bare λb hb=>?_
 ·intro b u hu
  refine (I.hok b u hu).stay (λc v hc e=>st c v ?_ e) (λ_ z=>z) λ_ _ z=>z
  rcases hc with rfl|hc
  ·intro z;rw [z,hn] at hu;cases hu
  ·intro z;rw [z,hn] at hc;cases hc
 ·rw [aq.mp hb]
  exact ⟨.inr h1,h2,h3,h4⟩
end
theorem jb {M:List Nat}{lo:Int}{n:Nat}{te:TE}{σ:St}{H:Hp}{Q:VK}(f:Nat→V)(hn:n≤1000000)(he:∀(i:Nat) (H':Hp) (R:VK),i<n→Same H H'→R (f i) H'→te (zd M σ (some (.int (lo+i)))) H' R)
  (k:∀p,H p=none→Q (.ref p) (upd H p (.lst ((List.range n).map f)))):qq6 (Itr lo n) M te σ H Q:=by
 intro p np
 refine ⟨λi m ys H2=>i≤n∧m=n-i∧ys=(List.range i).map f∧H2=upd H p (.lst ys),⟨n,aE _,rfl,rfl,rfl⟩,?_⟩
 rintro i m ys H2 ⟨hi,rfl,rfl,rfl⟩
 refine ⟨qm,?_,?_⟩
 ·rw [ae,aH]
  have:(1000000:Nat)<sizeLine:=by decide
  lia
 ·by_cases hlt:i<n
  ·refine .inr ⟨hlt,?_⟩
   rintro v H3 ⟨rfl,rfl⟩
   refine he i (upd H p (.lst ((List.range i).map f))) _ hlt (Same.upd np) ⟨qm,n-(i+1),by lia,by lia,rfl,?_,?_⟩
   ·rw [ce,aP]
    rfl
   ·rw [yk]
  ·have:i=n:=by lia
   subst this
   exact .inl ⟨ah _,k p np⟩
theorem qu3 {K:Aa}{M:List Nat}{a:Aj}{xs:List V}{te:TE}{σ:St}{H:Hp}{Q:VK}(f:V→V)(hS:SqL K H a xs)(hn:xs.length≤1000000)(he:∀(x:V) (H':Hp) (R:VK),x∈xs→Same H H'→R (f x) H'→te (zd M σ (some x)) H' R)
  (k:∀p,H p=none→Q (.ref p) (upd H p (.lst (xs.map f)))):qq6 (Itl K a) M te σ H Q:=by
 intro p np
 refine ⟨λi m ys H2=>i≤xs.length∧m=xs.length-i∧ys=(xs.take i).map f∧H2=upd H p (.lst ys),⟨xs.length,aE _,rfl,rfl,rfl⟩,?_⟩
 rintro i m ys H2 ⟨hi,rfl,rfl,rfl⟩
 have hS':SqL K (upd H p (.lst ((xs.take i).map f))) a xs:=Same.sql (Same.upd np) hS
 refine ⟨qm,?_,?_⟩
 ·rw [ae,bA]
  have:(1000000:Nat)<sizeLine:=by decide
  lia
 ·by_cases hlt:i<xs.length
  ·have hx:xs[i]?=some xs[i]:=ag hlt
   refine .inr ⟨⟨xs,_,hS',hx⟩,?_⟩
   rintro v H3 ⟨rfl,hv⟩
   have e:=hv xs hS'
   rw [hx] at e
   have e':=aw e
   subst e'
   refine he _ _ _ (bS hlt) (Same.upd np) ⟨qm,xs.length-(i+1),by lia,by lia,rfl,?_,?_⟩
   ·rw [List.take_succ,hx,aP]
    rfl
   ·rw [yk]
  ·have hi':i=xs.length:=by lia
   subst hi'
   refine .inl ⟨⟨xs,hS',ah _⟩,?_⟩
   rw [cL]
   exact k p np
end L2
namespace L2
open PySem PySem.Spec PyProof.Rows
section
variable {X:Cx}
theorem qwj {pins:List (Aj×Obj)}{σ:St}{H:Hp}{s:Ab}{p:Aj}{ns:List Int}(I:Inv X pins σ H s)(hS:SqL X.K H p (ns.map V.int)) :
  ∃ts:Array (Int×Tok),s.heap.IsList p (intItems ts)∧ns=ts.toList.map (·.1):=by
 obtain ⟨its,rv,⟨o,n,e1,e2,e3,e4⟩,hz⟩:=I.list hS
 have hi:=qkg rv
 obtain ⟨ts,ht⟩:=hi.allInts.items
 refine ⟨ts,⟨o,e1,e2,n,by rw [←ht];exact e4⟩,?_⟩
 have a1:=hi.numsOf
 have a2:=nums_intItems (xs:=ts)
 rw [←ht] at a2
 exact a1.symm.trans a2
theorem qqh (hc:X.calm=true):kj X (.builtin "min") (λxs H Q=>∃(p:Aj) (ns:List Int),xs=[.ref p]∧SqL X.K H p (ns.map V.int)∧0<ns.length∧∀m,m∈ns→(∀a∈ns,m≤a)→Q (.int m) H):=by
 intro pins s σ H xs us Q I r h
 obtain ⟨p,ns,rfl,hS,hne,q⟩:=h
 obtain ⟨u,rfl,ru⟩:=jd r
 cases (show u=Value.ref p from ru)
 obtain ⟨ts,hl,he⟩:=qwj I hS
 have hsz:ts.size=ns.length:=by rw [he,ae,aR]
 refine min_intList (I.ok.hd hc) hl (by lia) λv h' tk hv hk=>?_
 obtain ⟨t,rfl⟩:=intItems_at hv
 obtain ⟨b1,b2⟩:=argBest_lt (numAt ts) (ts.size-1)
 refine ⟨.int _,H,I.kept hk,⟨t,rfl⟩,q _ ?_ λa ha=>?_⟩
 ·rw [he,numAt_eq]
  refine getD_mem ?_
  rw [←he,←hsz]
  lia
 ·rw [he] at ha
  obtain ⟨j,hj,rfl⟩:=mem_getD ha
  rw [←he,←hsz] at hj
  rw [←numAt_eq]
  exact b2 j (by lia)
theorem jn (hc:X.calm=true):kj X (.builtin "max") (λxs H Q=>∃(p:Aj) (ns:List Int),xs=[.ref p]∧SqL X.K H p (ns.map V.int)∧0<ns.length∧∀m,m∈ns→(∀a∈ns,a≤m)→Q (.int m) H):=by
 intro pins s σ H xs us Q I r h
 obtain ⟨p,ns,rfl,hS,hne,q⟩:=h
 obtain ⟨u,rfl,ru⟩:=jd r
 cases (show u=Value.ref p from ru)
 obtain ⟨ts,hl,he⟩:=qwj I hS
 have hsz:ts.size=ns.length:=by rw [he,ae,aR]
 refine max_intList (I.ok.hd hc) hl (by lia) λv h' tk hv hk=>?_
 obtain ⟨t,rfl⟩:=intItems_at hv
 obtain ⟨b1,b2⟩:=argBest_gt (numAt ts) (ts.size-1)
 refine ⟨.int _,H,I.kept hk,⟨t,rfl⟩,q _ ?_ λa ha=>?_⟩
 ·rw [he,numAt_eq]
  refine getD_mem ?_
  rw [←he,←hsz]
  lia
 ·rw [he] at ha
  obtain ⟨j,hj,rfl⟩:=mem_getD ha
  rw [←he,←hsz] at hj
  rw [←numAt_eq]
  exact b2 j (by lia)
theorem Yr:∀ {bs:List Bool} {its:List Ag},Vals (bs.map V.bl) its→its=bs.map Value.bool
 |[],_,.nil=>rfl
 |b::bs,_,.cons r t=>by
  have e:_=Value.bool b:=r
  rw [aS,←Yr t,e]
theorem qut (bs:List Bool):(List.range bs.length).all (λi=>bs.getD i true)=bs.all id:=by
 rw [cb,bT,bT]
 constructor
 ·intro h b hb
  obtain ⟨i,hi,rfl⟩:=bL hb
  have:=h i (aN.mpr hi)
  rw [av,ag hi] at this
  exact this
 ·intro h i hi
  have hi':=aN.mp hi
  rw [av,ag hi']
  exact h _ (bS hi')
theorem J1 (hc:X.calm=true):kj X (.builtin "all") (λxs H Q=>∃(p:Aj) (bs:List Bool),xs=[.ref p]∧SqL X.K H p (bs.map V.bl)∧Q (.bl (bs.all id)) H):=by
 intro pins s σ H xs us Q I r h
 obtain ⟨p,bs,rfl,hS,q⟩:=h
 obtain ⟨u,rfl,ru⟩:=jd r
 cases (show u=Value.ref p from ru)
 obtain ⟨its,rv,⟨o,n,e1,e2,e3,e4⟩,hz⟩:=I.list hS
 have hits:=Yr rv
 have hl:s.heap.IsList p its.toArray:=⟨o,e1,e2,n,e4⟩
 have hlt:p<s.heap.objs.size:=ak e1
 refine call_all_walk (d8 hl ?_)
 refine ⟨s.heap.objs.size,_,_,_,_,_,λi=>bs.getD i true,rfl,Walks.list (A:=X.A.in1) (I.ok.hd hc) _ p (ax hlt) its.toArray,⟨⟨_,ar _ rfl,rfl,rfl⟩,hl.push _⟩,λi v s' Q' E' hP hQ=>?_,λh' tk hk=>?_⟩
 ·have hv:its[i]?=some v:=by simpa using hP
  rw [hits,aG] at hv
  cases hb:bs[i]? with
  |none=>rw [hb] at hv;cases hv
  |some b =>
   rw [hb] at hv
   have ev:Value.bool b=v:=aw hv
   subst ev
   refine bF ?_
   have e2:bs.getD i true=b:=by rw [av,hb];rfl
   have hQ':Q' (bs.getD i true) s':=hQ
   rw [e2] at hQ'
   exact hQ'
 ·have hlen:its.toArray.size=bs.length:=by rw [hits];simp
  rw [hlen,qut]
  refine ⟨.bl _,H,I.kept λb ob e=>hk b ob (λhm=>?_) (af _ e),rfl,q⟩
  have z:b=s.heap.objs.size:=by simpa using hm
  exact aV _ (z▸ak e)
end
structure MCal (P:Ac)(w:Ah)(K:Aa)(mg:Str→Option Ag)(base:Heap)(C:Aj)(m:Str)(k:Nat)(sp:Sp):Prop where
 ex:∃f fd ps,Meth K C m f∧FnOk P w K mg base (CXE P w) k f fd ps sp∧Binds K fd ps []
structure CCal (P:Ac)(w:Ah)(K:Aa)(mg:Str→Option Ag)(base:Heap)(x:Str)(C:Aj)(k:Nat)(sp:Sp):Prop where
 ex:∃f fd ps,mg x=some (.ref C)∧Mk K C f∧FnOk P w K mg base (CXE P w) k f fd ps sp∧Binds K fd ps []
structure MethIn (K:Aa)(C:Aj)(m qual:Str)(st:Stmt):Prop where
 ex:∃f fd,PySem.W.findIn K (.ref C) m=some (some (.ref f))∧PySem.W.isFn K (.ref f)=true∧Fun K m qual st f fd
theorem wvj {K:Aa}{C:Aj}{m qual:Str}{st:Stmt}{f:Aj}{oc:Ag}{od an:Option Aj}{osl:Array (Option Ag)}{kV doc pm cdv ct:Ag}(a:PySem.W.findIn K (.ref C) m=some (some (.ref f)))(i:PySem.W.isFn K (.ref f)=true)
  (l:K.lookup f=some ⟨oc,od,.func (PySem.W.fnOf m qual (v3 st) (wt st) (wj st) .none kV doc pm an cdv ct),osl⟩) (c:PySem.W.codeIn K cdv qual=true) (k:PySem.W.keepIn K (.ref f)=true):MethIn K C m qual st:=⟨_,_,a,i,wwp l c k⟩
def xt (x qual:Str)(st:Stmt)(ps:List Str):Prop:=∀(kV doc pm:Ag) (an:Option Aj) (cdv ct:Ag) (us:List Ag),us.length=ps.length→bindArgs (PySem.W.fnOf x qual (v3 st) (wt st) (wj st) .none kV doc pm an cdv ct) ⟨us,[]⟩=pure (ps.zip us)
section
variable {P:Ac}{w:Ah}{K:Aa}{mg:Str→Option Ag}{base:Heap}{C:Aj}
theorem MethIn.cal {m qual:Str}{st:Stmt}{ps:List Str}{k:Nat}{sp:Sp}(d:MethIn K C m qual st)(b:xt m qual st ps)(ok:∀f fd,Fun K m qual st f fd→FnOk P w K mg base (CXE P w) k f fd ps sp):MCal P w K mg base C m k sp:=by
 obtain ⟨f,fd,a,i,F⟩:=d.ex
 exact ⟨f,fd,ps,⟨a,i,F.kp⟩,ok f fd F,F.binds b⟩
theorem MethIn.ccal {x qual:Str}{st:Stmt}{ps:List Str}{k:Nat}{sp:Sp}(d:MethIn K C "__init__" qual st)(hm:mg x=some (.ref C))(mk:PySem.W.makesIn K C=true)(kc:PySem.W.keepIn K (.ref C)=true)(b:xt "__init__" qual st ps)
  (ok:∀f fd,Fun K "__init__" qual st f fd→FnOk P w K mg base (CXE P w) k f fd ps sp):CCal P w K mg base x C k sp:=by
 obtain ⟨f,fd,a,i,F⟩:=d.ex
 exact ⟨f,fd,ps,hm,⟨mk,a,i,kc⟩,ok f fd F,F.binds b⟩
end
section
variable {X:Cx}{C:Aj}{x m:Str}{k:Nat}{sp:Sp}{E:St→XK}{p pos apos:Pos}{e o:Expr}{es:List Expr}{ta:TE}{t:TA}
theorem j7 (c:CCal X.prog X.w X.K X.mg X.base x C k sp)(hr:Room (k+1) X.A)(hg:Gl X x)(hx:jx X E)
  (ha:PA X (e::es) t) (hdb:(x==("__debug__" : Str))=false:=by decide) (he:starEach (e::es) X.env=(false,eval e X.env)::starEach es X.env:=by rfl) (hpl:(backTo pos (starEach es X.env)).any (·.1)=false:=by rfl) :
  PE X (.Call (.Name x p) (e::es) [] pos) (qv5 C sp E t):=by
 obtain ⟨f,fd,ps,hm,M,F,b⟩:=c.ex
 exact wxw M F hr hg hm b hx ha hdb he hpl
theorem wwt {pl:Sem Bool}(he:PE X o ta)(cl:Cls X.K C)(c:MCal X.prog X.w X.K X.mg X.base C m k sp)(hr:Room k X.A)(hx:jx X E)(ha:PA X (e::es) t)
  (hst:starEach (e::es) X.env=(false,eval e X.env)::starEach es X.env:=by rfl) (hpl:(backTo pos (starEach es X.env)).any (·.1)=false:=by rfl)
  (ht:eval (.Call (.Attribute o m apos) (e::es) [] pos) X.env=(do
   let ov ←eval o X.env
   standAt apos.atName
   let (f,first) ←holding [ov] (getMethod ov m pl)
   callWith pos f first (backTo pos (starEach (e::es) X.env)) (backToKw pos (keywordEach [] X.env))):=by rfl) :
  PE X (.Call (.Attribute o m apos) (e::es) [] pos) (Y5 C m sp E ta t):=by
 obtain ⟨f,fd,ps,hm,F,b⟩:=c.ex
 exact wqp he cl hm F hr b hx ha hst hpl ht
theorem vf {pl:Sem Bool}(he:PE X o ta)(cl:Cls X.K C)(c:MCal X.prog X.w X.K X.mg X.base C m k sp)(hr:Room k X.A)(hx:jx X E)
  (ht:eval (.Call (.Attribute o m apos) [] [] pos) X.env=(do
   let ov ←eval o X.env
   standAt apos.atName
   let (f,first) ←holding [ov] (getMethod ov m pl)
   callWith pos f first (backTo pos (starEach [] X.env)) (backToKw pos (keywordEach [] X.env))):=by rfl) :
  PE X (.Call (.Attribute o m apos) [] [] pos) (Y5 C m sp E ta Zc):=by
 obtain ⟨f,fd,ps,hm,F,b⟩:=c.ex
 exact qy8 he cl hm F hr b hx ht
end
end L2
namespace L2
open PySem
def hAt (hs:List Int)(k:Int):Int:=hs.getD k.toNat 0
def kF (hs:List Int)(t b:Int):Int:=if (hs.length:Int)-1-1<t/b then (hs.length:Int)-1-1 else t/b
def k9 (hs:List Int)(t b:Int):Int:=hAt hs (kF hs t b)*b+(hAt hs (kF hs t b+1)-hAt hs (kF hs t b))*(t-kF hs t b*b)
theorem wx2 {hs:List Int}{t b:Int}(hl:2≤hs.length)(hb:1≤b)(h0:0≤t):0≤kF hs t b∧kF hs t b<(hs.length:Int)-1:=by
 have h:=eU h0 (show (0:Int)≤b by lia)
 unfold kF
 split <;> lia
theorem qu7 {hs:List Int}{t b c:Int}(hc:1≤c):kF hs (t*c) (b*c)=kF hs t b:=by
 unfold kF
 rw [cB _ _ (show 0<c by lia)]
theorem qzk {hs:List Int}{t b c:Int}(hc:1≤c):k9 hs (t*c) (b*c)=k9 hs t b*c:=by
 unfold k9
 rw [qu7 hc]
 generalize hAt hs (kF hs t b)=u
 generalize hAt hs (kF hs t b+1)=v
 generalize kF hs t b=k
 grind
theorem div_in {k t b:Int}(hb:1≤b)(h1:k*b≤t)(h2:t<(k+1)*b):t/b=k:=by
 have a1:k≤t/b:=(Int.le_ediv_iff_mul_le (by lia)).mpr h1
 have a2:t/b<k+1:=(Int.ediv_lt_iff_lt_mul (by lia)).mpr h2
 lia
theorem qzr {hs:List Int}{k t b:Int}(hk:0≤k)(hk2:k<(hs.length:Int)-1)(hb:1≤b)(h1:k*b≤t)(h2:t≤(k+1)*b) :
  k9 hs t b=hAt hs k*b+(hAt hs (k+1)-hAt hs k)*(t-k*b):=by
 by_cases hlt:t<(k+1)*b
 ·have e:=div_in hb h1 hlt
  have ek:kF hs t b=k:=by
   unfold kF
   rw [e]
   split <;> lia
  unfold k9
  rw [ek]
 ·have et:t=(k+1)*b:=by lia
  have e:t/b=k+1:=by
   rw [et]
   exact Int.mul_ediv_cancel _ (by lia)
  by_cases hn:(hs.length:Int)-1-1<k+1
  ·have ek:kF hs t b=k:=by
    unfold kF
    rw [e,al hn]
    lia
   unfold k9
   rw [ek]
  ·have ek:kF hs t b=k+1:=by
    unfold kF
    rw [e,ai hn]
   unfold k9
   rw [ek,et]
   generalize hAt hs k=u
   generalize hAt hs (k+1)=v
   generalize hAt hs (k+1+1)=z
   grind
def yf (hs:List Int)(t b:Int):Int×Int:=wf (k9 hs t b) b
theorem qqt {hs:List Int}{t b:Int}(hb:1≤b):yf hs (wf t b).1 (wf t b).2=yf hs t b:=by
 unfold yf
 have hg:=jz (t:=t) hb
 have e1:(wf t b).1*gOf t b=t:=by rw [df];exact qzx
 have e2:(wf t b).2*gOf t b=b:=by rw [df];exact Y1 hb
 have h:=qzk (hs:=hs) (t:=(wf t b).1) (b:=(wf t b).2) hg
 rw [e1,e2] at h
 rw [h]
 conv=>rhs;rw [←e2]
 rw [e2]
 have:=qxw (t:=k9 hs (wf t b).1 (wf t b).2) (b:=(wf t b).2) (uq hb) hg
 rw [e2] at this
 exact this.symm
theorem Zm {t b:Int}(hb:1≤b):(wf t b).1<0↔t<0:=by
 have hg:=jz (t:=t) hb
 have e1:gOf t b*(wf t b).1=t:=qzx
 constructor
 ·intro h
  have:=dW h (show 0<gOf t b by lia)
  rw [e1,Int.mul_zero] at this
  exact this
 ·intro h
  rcases cf (wf t b).1 0 with z|z
  ·exact z
  ·have:=bo z (show 0≤gOf t b by lia)
   rw [e1,Int.mul_zero] at this
   lia
theorem qkj {t b n:Int}(hb:1≤b):n*(wf t b).2<(wf t b).1↔n*b<t:=by
 have hg:=jz (t:=t) hb
 have e1:gOf t b*(wf t b).1=t:=qzx
 have e2:gOf t b*(wf t b).2=b:=Y1 hb
 have e3:gOf t b*(n*(wf t b).2)=n*b:=by
  generalize gOf t b=g at *
  generalize (wf t b).2=y at *
  grind
 constructor
 ·intro h
  have:=dW h (show 0<gOf t b by lia)
  rw [e1,e3] at this
  exact this
 ·intro h
  rcases cf (n*(wf t b).2) (wf t b).1 with z|z
  ·exact z
  ·have:=bo z (show 0≤gOf t b by lia)
   rw [e1,e3] at this
   lia
theorem qwv {N b:Int}(hb:1≤b):b%(wf N b).2=0∧(wf N b).1*(b/(wf N b).2)=N:=by
 have hy:=uq (t:=N) hb
 have cr:=Ww (t:=N) hb
 have hd:(wf N b).2∣b:=⟨gOf N b,by rw [df];exact (Y1 hb).symm⟩
 refine ⟨Int.emod_eq_zero_of_dvd hd,?_⟩
 have e:=dv hd
 generalize b/(wf N b).2=q at *
 generalize (wf N b).1=x at *
 generalize (wf N b).2=y at *
 have:y*(x*q-N)=0:=by grind
 rcases Int.mul_eq_zero.mp this with h|h <;> lia
def qjc (hs:List Int)(t b:Int):Int:=if t/b*b=t then hAt hs (t/b)*b else hAt hs (t/b)*b+(hAt hs (t/b+1)-hAt hs (t/b))*(t-t/b*b)
theorem ww4 {hs:List Int}{t b:Int}(hl:2≤hs.length)(hb:1≤b)(h0:0≤t)(h1:t≤((hs.length:Int)-1)*b):qjc hs t b=k9 hs t b:=by
 have k0:=eU h0 (show (0:Int)≤b by lia)
 have k1:t/b*b≤t:=eV t (by lia)
 have k2:t<(t/b+1)*b:=by
  have:=dE t (show 0<b by lia)
  exact this
 unfold qjc
 by_cases hlt:t/b<(hs.length:Int)-1
 ·rw [qzr k0 hlt hb k1 (Int.le_of_lt k2)]
  split
  ·next e=>rw [e];simp
  ·rfl
 ·have ge:(hs.length:Int)-1≤t/b:=by lia
  have m1:=ay ge (show 0≤b by lia)
  have et:t/b*b=t:=by lia
  have ek:t/b=(hs.length:Int)-1:=by
   have:t/b*b=((hs.length:Int)-1)*b:=by lia
   exact cI (by lia) this
  rw [al et]
  have et2:t=((hs.length:Int)-1)*b:=by rw [←ek];exact et.symm
  rw [qzr (k:=(hs.length:Int)-1-1) (by lia) (by lia) hb (by rw [et2];exact ay (by lia) (by lia)) (by rw [et2];exact ay (by lia) (by lia)),ek]
  have e5:(hs.length:Int)-1-1+1=(hs.length:Int)-1:=by lia
  rw [e5,et2]
  generalize hAt hs ((hs.length:Int)-1)=u
  generalize hAt hs ((hs.length:Int)-1-1)=v
  generalize (hs.length:Int)-1=n
  grind
theorem ww7 {u v b d:Int}(hb:0≤d)(hd:d≤b):(if v<u then v else u)*b≤u*b+(v-u)*d∧u*b+(v-u)*d≤(if v>u then v else u)*b:=by
 by_cases h:v<u
 ·rw [al h,ai (by lia)]
  have a1:=bo hd (show 0≤u-v by lia)
  have a2:=dh (show 0≤u-v by lia) hb
  constructor <;> grind
 ·rw [ai h]
  have a1:=bo hd (show 0≤v-u by lia)
  have a2:=dh (show 0≤v-u by lia) hb
  by_cases h2:v>u
  ·rw [al h2]
   constructor <;> grind
  ·rw [ai h2]
   have:v=u:=by lia
   subst this
   constructor <;> grind
end L2
namespace L2
open PySem PySem.Spec PyProof.Rows
def qkc (J:It)(M:List Nat)(tt:TT)(te:TE)(σ:St)(H1:Hp)(Q:VK):Prop:=∀p,H1 p=none→∃W:Nat→Nat→List V→Hp→Prop,(∃m,W 0 m [] (upd H1 p (.lst []))) ∧
 ∀i m ys H2,W i m ys H2→H2 p=some (.lst ys)∧ys.length<sizeLine∧((J.stop i H2∧Q (.ref p) H2)∨(J.go i H2∧∀v H3,J.yld i H2 v H3 →
  tt (zd M σ (some v)) H3 λb H4=>if b=true then te (zd M σ (some v)) H4 (λy H5=>H5 p=some (.lst ys)∧∃m',m'<m∧W (i+1) m' (ys++[y]) (upd H5 p (.lst (ys++[y])))) else H4 p=some (.lst ys)∧∃m',m'<m∧W (i+1) m' ys H4))
def tCompI (M:List Nat)(wi:TI)(tt:TT)(te:TE):TE:=λσ H Q=>wi σ H λJ H1=>qkc J M tt te σ H1 Q
section
variable {X:Cx}{elt iter cd:Expr}{x:Str}{px pos:Pos}{scope:Scope}{cl:List (Str×Aj)}{M:List Nat}{wi:TI}{tt:TT}{te:TE}
theorem quh (hc:X.calm=true)(hclos:closureFor scope X.env=pure cl)(hcap:CapAll X.env cl)(hhas:HasAll cl scope.names)(hix:CapIx X scope cl M)(hk:scope.kind=.function)
  (hnames:∀y∈scope.names,y.2=.local→scope.names.lookup y.1=some .local) (hx:scope.names.lookup x=some .local) (hnd:(Y8 X x M).Nodup) (hi:PI X (.Name x px) iter wi)
  (ht:∀C s2 H2 fp pn,PT (zf X scope cl x M C s2 H2 fp pn) cd tt) (he:∀C s2 H2 fp pn,PE (zf X scope cl x M C s2 H2 fp pn) elt te) (hs:∀z,foldedSetIterable iter X.env z=pure z)
  {use:Option (Ag→Sem Unit)} {QQ:Ag→Ab→Prop} {pins:List (Aj×Obj)} {s:Ab} {σ:St} {H:Hp} {Q:VK} {ps:Pos} (I:Inv X pins σ H s) (h:wi σ H λJ H1=>qkc J M tt te σ H1 Q)
  (fin:∀(C:Aj) (s2 s4:Ab) (H1 H2:Hp) (fp:List Aj),Inv X pins σ H1 s2→s2.heap.objs.size<C→(∀b∈fp,jj X pins H1 b)→Inv (zf X scope cl x M C s2 H1 fp (X.pn++pins)) [] (zd M σ none) H2 s4→Q (.ref s2.heap.objs.size) H2 →
   compPost (model X.prog X.w) X.A X.xe use QQ (.ref s2.heap.objs.size) C (.ok .next) s4) :
  wpAny (model X.prog X.w) X.A (comprehension (.ListComp elt [⟨.Name x px,iter,[cd],0⟩] scope pos) scope X.env ps (newList []) false (eval iter X.env) use) QQ X.xe s:=by
 refine qq2 hclos hhas hk hnames hi hs I h λit fp tn J H1 s2 C h3 tk I2 T t3 hfp hbl hob hR hlt keep hns hD=>?_
 obtain ⟨W,⟨m0,w0⟩,hW⟩:=hR s2.heap.objs.size (I2.hok.fresh (ah _))
 have hxl:(relabel scope X.env).names.lookup x=some .local:=dA hx
 refine Wd (Y:=zf X scope cl x M C s2 H1 fp (X.pn++pins)) (V:=λi n H2=>∃ys,W i n ys H2) (Qd:=Q (.ref s2.heap.objs.size)) (REST:=tstS cd (compEnvC scope cl C X.env) (appS elt (.ref s2.heap.objs.size) (compEnvC scope cl C X.env) _) (again _)) T hc (λ_ _ z=>z) (compTurn_list ..) rfl rfl (xv (i:=0) hnd rfl (.inl hxl) (.inr hxl)) (qwp hcap I2 hlt hfp hbl) (λi n H2 ⟨ys,w⟩=>?_) (λH2 s4 J4 q=>fin C s2 s4 H1 H2 fp I2 hlt hfp J4 q) (I2.comp hcap hhas hix hk hlt keep hns hD hfp hob) ⟨[],w0⟩ t3 λb hb=>by rw [wz (ax (hbl b hb))];exact (hfp b hb).1
 obtain ⟨hp,hz,hcase⟩:=hW i n ys H2 w
 refine hcase.imp id λ⟨hgo,hy⟩=>⟨hgo,λv H3 yl=>⟨λσ4 H4=>σ4=zd M σ (some v)∧H3=H4,⟨rfl,rfl⟩,λ_ _ e=>?_⟩⟩
 obtain ⟨rfl,rfl⟩:=e
 refine ⟨u9 M σ v,λpins' s' J=>?_⟩
 exact wqu (ht _ _ _ _ _) J (hy v H3 yl) (λs6 H6 J6 h6=>aL (qzt (N:=λzs H5=>∃m',m'<n∧W (i+1) m' zs H5) (λ_ _ z=>z) (he _ _ _ _ _) J6 hz h6) (λr s5 ⟨e,H5,J5,zs,m',hm,w'⟩=>⟨e,H5,J5,m',hm,zs,w'⟩) λ_ _ z=>z)
  λs6 H6 J6 ⟨_,m',hm,w'⟩=>aj ⟨rfl,H6,J6,m',hm,ys,w'⟩
theorem wqz (hc:X.calm=true)(hclos:closureFor scope X.env=pure cl)(hcap:CapAll X.env cl)(hhas:HasAll cl scope.names)(hix:CapIx X scope cl M)(hk:scope.kind=.function)
  (hnames:∀y∈scope.names,y.2=.local→scope.names.lookup y.1=some .local) (hx:scope.names.lookup x=some .local) (hnd:(Y8 X x M).Nodup) (hi:PI X (.Name x px) iter wi)
  (ht:∀C s2 H2 fp pn,PT (zf X scope cl x M C s2 H2 fp pn) cd tt) (he:∀C s2 H2 fp pn,PE (zf X scope cl x M C s2 H2 fp pn) elt te) (hs:∀z,foldedSetIterable iter X.env z=pure z:=by intro _;rfl) :
  PE X (.ListComp elt [⟨.Name x px,iter,[cd],0⟩] scope pos) (tCompI M wi tt te):=by
 intro pins s σ H Q I h
 rw [eval_ListComp]
 refine quh hc hclos hcap hhas hix hk hnames hx hnd hi ht he hs (use:=none) I h λC s2 s4 H1 H2 fp I2 hlt hfp J4 hq=>?_
 obtain ⟨m,hn,_⟩:=J4.loc
 exact ⟨m,hn,λh' hs'=>⟨.ref s2.heap.objs.size,H2,I2.uncomp (bC hlt) hfp J4 hs',rfl,hq⟩⟩
end
end L2
namespace L2
open PySem PySem.Spec PyProof.Rows
structure FunD (K:Aa)(x:Str)(st:Stmt)(f:Aj)(fd:Ad):Prop where
 ex:∃(oc:Ag) (od:Option Aj) (T:Aj) (kV doc pm:Ag) (an:Option Aj) (cdv ct:Ag) (osl:Array (Option Ag)),
  fd=PySem.W.fnOf x x (v3 st) (wt st) (wj st) (.ref T) kV doc pm an cdv ct∧K.lookup f=some ⟨oc,od,.func fd,osl⟩∧PySem.W.codeIn K cdv x=true∧∃o n,K.lookup T=some o∧o.data=.seq #[.none] n
 kp:PySem.W.keepIn K (.ref f)=true
structure DefInD (K:Aa)(x:Str)(st:Stmt):Prop where
 ex:∃f fd,PySem.W.nsIn K mainGlobals x=some (some (.ref f))∧FunD K x st f fd
section
variable {P:Ac}{w:Ah}{K:Aa}{mg:Str→Option Ag}{base:Heap}
theorem wvb {x:Str}{st:Stmt}{f T:Aj}{oc:Ag}{od an:Option Aj}{osl:Array (Option Ag)}{kV doc pm cdv ct:Ag}(a:PySem.W.nsIn K mainGlobals x=some (some (.ref f)))
  (l:K.lookup f=some ⟨oc,od,.func (PySem.W.fnOf x x (v3 st) (wt st) (wj st) (.ref T) kV doc pm an cdv ct),osl⟩) (c:PySem.W.codeIn K cdv x=true) (k:PySem.W.keepIn K (.ref f)=true) {tc:Ag} {td:Option Aj} {tn:Nat} {ts:Array (Option Ag)} (t:K.lookup T=some ⟨tc,td,.seq #[.none] tn,ts⟩):DefInD K x st:=⟨_,_,a,⟨oc,od,T,kV,doc,pm,an,cdv,ct,osl,rfl,l,c,_,_,t,rfl⟩,k⟩
theorem FunD.okX {x:Str}{st:Stmt}{f:Aj}{fd:Ad}{N ps:List Str}{k:Nat}{sp:Sp}(F:FunD K x st f fd)(S:FnScope N ps (wj st))(len:∀vs H Q E,sp vs H Q E→vs.length=ps.length)
  (body:∀(cdv:Ag) (A:Ae) (outer:List Env) (s:Ab) (H:Hp) (vs:List V) (Q:VK) (E:XK),Room k (A.deeper (envOfC x (wj st) s.heap.objs.size f cdv))→sp vs H Q E →
   ∃t,PSs (qqp (CXE P w) P w K mg base N x (wj st) f cdv A outer s H E) (wt st) t∧t { nx:=λ_ H'=>Q .non H',rt:=Q } (Qk N vs) H):FnOk P w K mg base (CXE P w) (k+1) f fd ps sp:=by
 obtain ⟨oc,od,T,kV,doc,pm,an,cdv,ct,osl,rfl,lk,hcd,_⟩:=F.ex
 exact fn_of lk hcd S len λA outer s H vs Q E hr hsp=>body cdv A outer s H vs Q E hr hsp
def Qv (x:Str)(st:Stmt)(ps:List Str)(ds:List Ag):Prop:=∀(T:Aj) (kV doc pm:Ag) (an:Option Aj) (cdv ct:Ag) (us:List Ag),(us++ds).length=ps.length →
 ∃kk,bindArgs (PySem.W.fnOf x x (v3 st) (wt st) (wj st) (.ref T) kV doc pm an cdv ct) ⟨us,[]⟩=seqItems? (.ref T) >>= kk∧kk (some #[.none])=pure (ps.zip (us++ds))
structure CalD (P:Ac)(w:Ah)(K:Aa)(mg:Str→Option Ag)(base:Heap)(x:Str)(k:Nat)(sp:Sp):Prop where
 ex:∃f fd ps,mg x=some (.ref f)∧FnOk P w K mg base (CXE P w) k f fd ps sp∧PySem.W.keepIn K (.ref f)=true∧Binds K fd ps []∧Binds K fd ps [.none]
theorem FunD.binds {x:Str}{st:Stmt}{f:Aj}{fd:Ad}{ps:List Str}{ds:List Ag}(F:FunD K x st f fd)(b:Qv x st ps ds):Binds K fd ps ds:=by
 obtain ⟨oc,od,T,kV,doc,pm,an,cdv,ct,osl,rfl,lk,hcd,o,n,e1,e2⟩:=F.ex
 intro s us X hl
 obtain ⟨kk,h1,h2⟩:=b T kV doc pm an cdv ct us hl
 exact PySem.W.binds_K X rfl e1 e2 h1 h2
theorem DefInD.cal {x:Str}{st:Stmt}{ps:List Str}{k:Nat}{sp:Sp}{h:Heap}(d:DefInD K x st)(KX:K.In h)(G:h.Ns mainGlobals mg)(b:Qv x st ps [])(b':Qv x st ps [.none])(ok:∀f fd,FunD K x st f fd→FnOk P w K mg base (CXE P w) k f fd ps sp):CalD P w K mg base x k sp:=by
 obtain ⟨f,fd,a,F⟩:=d.ex
 exact ⟨f,fd,ps,aI KX G a,ok f fd F,F.kp,F.binds b,F.binds b'⟩
theorem CalD.all {x:Str}{k:Nat}{sp:Sp}(c:CalD P w K mg base x k sp):Cal P w K mg base x k sp:=by
 obtain ⟨f,fd,ps,h1,h2,h3,h4,_⟩:=c.ex
 exact ⟨f,fd,ps,h1,h2,h3,h4⟩
end
section
variable {X:Cx}{x:Str}{k:Nat}{sp:Sp}{E:St→XK}{p pos:Pos}{e:Expr}{es:List Expr}{t:TA}
end
end L2
namespace L2
open PySem PySem.Spec PyProof.Rows
section
variable {κ:Type}[DecidableEq κ]
def w9 (kvs:List (κ×V))(k:κ):Option V:=(kvs.find? λkv=>decide (kv.1=k)).map (·.2)
def zu (kvs:List (κ×V))(k:κ)(v:V):List (κ×V) :=
 if (kvs.any λkv=>decide (kv.1=k))=true then kvs.map (λkv=>if kv.1=k then (kv.1,v) else kv) else kvs++[(k,v)]
def qwf (kvs:List (κ×V))(k:κ):List (κ×V):=kvs.filter λkv=>decide (kv.1≠k)
theorem z0 {p:κ×V}{r:List (κ×V)}{k:κ}(e:p.1=k):w9 (p::r) k=some p.2:=by simp [w9,cC,e]
theorem zh {p:κ×V}{r:List (κ×V)}{k:κ}(e:¬ p.1=k):w9 (p::r) k=w9 r k:=by simp [w9,cC,e]
theorem j4 (k:κ):∀kvs:List (κ×V),(kvs.any λkv=>decide (kv.1=k))=(w9 kvs k).isSome
 |[]=>rfl
 |p::r=>by
  rw [fh]
  by_cases e:p.1=k
  ·simp only [z0 e,bd e,Bool.true_or,Option.isSome_some]
  ·rw [zh e,bh e,Bool.false_or];exact j4 k r
theorem qzv (k j:κ)(y:V):∀kvs:List (κ×V),w9 (kvs.map λkv=>if kv.1=k then (kv.1,y) else kv) j=(w9 kvs j).map λx=>if j=k then y else x
 |[]=>rfl
 |p::r=>by
  have ih:=qzv k j y r
  rw [aS]
  by_cases h:p.1=k
  ·rw [al h]
   by_cases e:p.1=j
   ·rw [z0 (p:=(p.1,y)) e,z0 e,cD,al (e.symm.trans h)]
   ·rw [zh (p:=(p.1,y)) e,zh e,ih]
  ·rw [ai h]
   by_cases e:p.1=j
   ·rw [z0 (p:=p) e,z0 e,cD,ai (λz=>h (e.trans z))]
   ·rw [zh (p:=p) e,zh e,ih]
theorem Q8 (k j:κ)(y:V):∀kvs:List (κ×V),w9 kvs k=none→w9 (kvs++[(k,y)]) j=if j=k then some y else w9 kvs j
 |[],_=>by
  by_cases e:k=j
  ·rw [al e.symm];exact z0 (p:=(k,y)) e
  ·rw [ai (λz=>e z.symm)];exact zh (p:=(k,y)) e
 |p::r,hn=>by
  rw [List.cons_append]
  have hk:¬ p.1=k:=λz=>by rw [z0 z] at hn;cases hn
  rw [zh hk] at hn
  have ih:=Q8 k j y r hn
  by_cases e:p.1=j
  ·rw [z0 e,z0 e,ai (λz=>hk (e.trans z))]
  ·rw [zh e,zh e,ih]
theorem vb (kvs:List (κ×V))(k j:κ)(y:V):w9 (zu kvs k y) j=if j=k then some y else w9 kvs j:=by
 unfold zu
 by_cases a:(kvs.any λkv=>decide (kv.1=k))=true
 ·rw [al a,qzv]
  rw [j4] at a
  by_cases e:j=k
  ·obtain ⟨x,hx⟩:=eA.mp a
   rw [al e,e,hx,cD,al rfl]
  ·rw [ai e]
   cases w9 kvs j with
   |none=>rfl
   |some x=>rw [cD,ai e]
 ·rw [ai a]
  refine Q8 k j y kvs ?_
  rw [j4] at a
  cases q:w9 kvs k with
  |none=>rfl
  |some x=>rw [q] at a;exact (a rfl).elim
theorem jq (kvs:List (κ×V))(k:κ)(v:V):(zu kvs k v).length≤kvs.length+1:=by
 unfold zu
 split
 ·rw [ae];lia
 ·rw [au,aT,cU];lia
theorem yb {kvs:List (κ×V)}{k:κ}(v:V)(h:w9 kvs k=none):zu kvs k v=kvs++[(k,v)]:=by
 unfold zu
 rw [j4,h]
 exact ai (by decide)
theorem RelO.isSome_eq {o:Option V}{u:Option Ag}(r:RelO o u):o.isSome=u.isSome:=by
 cases o with
 |none=>cases u with
  |none=>rfl
  |some _=>exact (show False from r).elim
 |some _=>cases u with
  |none=>exact (show False from r).elim
  |some _=>rfl
theorem RelO.getD {o:Option V}{u:Option Ag}{d:V}{d':Ag}(r:RelO o u)(rd:RelV d d'):RelV (o.getD d) (u.getD d'):=by
 cases o with
 |none=>cases u with
  |none=>exact rd
  |some _=>exact (show False from r).elim
 |some _=>cases u with
  |none=>exact (show False from r).elim
  |some _=>exact r
theorem KV.val {kvs:List (κ×V)}{vs:List (κ×Ag)}(r:KV kvs vs)(k:κ):RelO (w9 kvs k) (valueAt vs k):=by
 unfold KV at r
 induction r with
 |nil=>exact True.intro
 |@cons p q ps qs h t ih =>
  obtain ⟨h1,h2⟩:=h
  by_cases e:p.1=k
  ·have e':q.1=k:=h1.symm.trans e
   have b:valueAt (q::qs) k=some q.2:=by simp [valueAt,cC,e']
   rw [z0 e,b];exact h2
  ·have e':¬ q.1=k:=λz=>e (h1.trans z)
   have b:valueAt (q::qs) k=valueAt qs k:=by simp [valueAt,cC,e']
   rw [zh e,b];exact ih
theorem KV.any {kvs:List (κ×V)}{vs:List (κ×Ag)}(r:KV kvs vs)(k:κ):(kvs.any λkv=>decide (kv.1=k))=vs.any λkv=>decide (kv.1=k):=by
 unfold KV at r
 induction r with
 |nil=>rfl
 |cons h t ih=>rw [fh,fh,ih,h.1]
theorem KV.repl {kvs:List (κ×V)}{vs:List (κ×Ag)}(r:KV kvs vs)(k:κ){y:V}{u:Ag}(ry:RelV y u) :
  KV (kvs.map λkv=>if kv.1=k then (kv.1,y) else kv) (vs.map λkv=>if kv.1=k then (kv.1,u) else kv):=by
 unfold KV at r ⊢
 induction r with
 |nil=>exact .nil
 |@cons p q ps qs h t ih =>
  rw [aS,aS]
  refine .cons ?_ ih
  obtain ⟨h1,h2⟩:=h
  by_cases e:p.1=k
  ·rw [al e,al (h1.symm.trans e)];exact ⟨h1,ry⟩
  ·rw [ai e,ai (λz=>e (h1.trans z))];exact ⟨h1,h2⟩
theorem KV.put {kvs:List (κ×V)}{vs:List (κ×Ag)}(r:KV kvs vs)(k:κ){y:V}{u:Ag}(ry:RelV y u):KV (zu kvs k y) (stored vs k u):=by
 unfold zu stored
 rw [r.any k]
 by_cases e:(vs.any λkv=>decide (kv.1=k))=true
 ·rw [al e,al e];exact r.repl k ry
 ·rw [ai e,ai e];exact Paired.snoc r ⟨rfl,ry⟩
theorem KV.drop {kvs:List (κ×V)}{vs:List (κ×Ag)}(r:KV kvs vs)(k:κ):KV (qwf kvs k) (without vs k):=by
 unfold KV at r ⊢
 unfold qwf without
 induction r with
 |nil=>exact .nil
 |@cons p q ps qs h t ih =>
  obtain ⟨h1,h2⟩:=h
  rw [cx,cx]
  by_cases e:p.1=k
  ·have a:¬ decide (p.1≠k)=true:=by simp [e]
   have b:¬ decide (q.1≠k)=true:=by simp [h1.symm.trans e]
   rw [ai a,ai b];exact ih
  ·have e':¬ q.1=k:=λz=>e (h1.trans z)
   have a:decide (p.1≠k)=true:=by simp [e]
   have b:decide (q.1≠k)=true:=by simp [e']
   rw [al a,al b];exact .cons ⟨h1,h2⟩ ih
theorem KV.length {kvs:List (κ×V)}{vs:List (κ×Ag)}(r:KV kvs vs):kvs.length=vs.length:=be r
theorem qz8 (kvs:List (κ×V))(k:κ):(qwf kvs k).length≤kvs.length:=bY _ _
end
theorem ug {P:Ac}{w:Ah}{k:Key}{u:Ag}(r:RelV (kV k) u):(xu P w).is k u=true:=by
 cases k with
 |inl i=>obtain ⟨t,e⟩:=(show ∃t,u=Value.int i t from r);subst e;exact qvw P w i t
 |inr x=>obtain ⟨t,e⟩:=(show ∃t,u=Value.str x t from r);subst e;exact qz0 P w x t
theorem qww {P:Ac}{w:Ah}:∀ {ks:List Key} {us:List Ag},Vals (ks.map kV) us→ItemsAre (xu P w) ks us
 |[],_,r=>by rw [dc] at r;cases r;exact .nil
 |k::ks,_,r=>by
  rw [aS] at r
  cases r with
  |cons h t=>exact .cons (ug h) (qww t)
abbrev KT (H:Hp):List (List Key×V)→List (List Key×Aj×Ag)→Prop:=Paired λp q=>p.1=q.1∧H q.2.1=some (.tup (p.1.map kV))∧RelV p.2 q.2.2
theorem KT.val {H:Hp}{kvs:List (List Key×V)}{xs:List (List Key×Aj×Ag)}(r:KT H kvs xs)(k:List Key):RelO (w9 kvs k) ((atKey xs k).map (·.2)):=by
 induction r with
 |nil=>exact True.intro
 |@cons p q ps qs h t ih =>
  obtain ⟨h1,_,h2⟩:=h
  by_cases e:p.1=k
  ·have e':q.1=k:=h1.symm.trans e
   have b:atKey (q::qs) k=some q.2:=by simp [atKey,cC,e']
   rw [z0 e,b];exact h2
  ·have e':¬ q.1=k:=λz=>e (h1.trans z)
   have b:atKey (q::qs) k=atKey qs k:=by simp [atKey,cC,e']
   rw [zh e,b];exact ih
theorem KT.repl {H:Hp}{kvs:List (List Key×V)}{xs:List (List Key×Aj×Ag)}(r:KT H kvs xs)(k:List Key){y:V}{u:Ag}(ry:RelV y u) :
  KT H (kvs.map λkv=>if kv.1=k then (kv.1,y) else kv) (xs.map (putAt k u)):=by
 induction r with
 |nil=>exact .nil
 |@cons p q ps qs h t ih =>
  rw [aS,aS]
  refine .cons ?_ ih
  obtain ⟨h1,h2,h3⟩:=h
  unfold putAt
  by_cases e:p.1=k
  ·rw [al e,al (h1.symm.trans e)];exact ⟨h1,h2,ry⟩
  ·rw [ai e,ai (λz=>e (h1.trans z))];exact ⟨h1,h2,h3⟩
theorem KT.put {H:Hp}{kvs:List (List Key×V)}{xs:List (List Key×Aj×Ag)}(r:KT H kvs xs)(k:List Key){b:Aj}{y:V}{u:Ag}(hb:H b=some (.tup (k.map kV)))(ry:RelV y u) :
  KT H (zu kvs k y) (storedH xs k b u):=by
 have e:(kvs.any λkv=>decide (kv.1=k))=(atKey xs k).isSome:=by
  rw [j4,(r.val k).isSome_eq,eh]
 unfold zu storedH
 rw [e]
 by_cases q:(atKey xs k).isSome=true
 ·rw [al q,al q];exact r.repl k ry
 ·rw [ai q,ai q];exact Paired.snoc r ⟨rfl,hb,ry⟩
theorem KT.keeps {H H':Hp}{kvs:List (List Key×V)}{xs:List (List Key×Aj×Ag)}(r:KT H kvs xs)(ht:∀b ys,H b=some (.tup ys)→H' b=some (.tup ys)):KT H' kvs xs :=
 Paired.mapP r λ_ _ z=>⟨z.1,ht _ _ z.2.1,z.2.2⟩
section
variable {P:Ac}{w:Ah}{H:Hp}{h:Heap}{a:Aj}
theorem rd_of {u:HO}(ok:HOk P w H h)(e:Rd H a u):ObjOk P w H h a u:=e.ok ok
theorem Qj {kvs:List (Key×V)}(ok:HOk P w H h)(e:Rd H a (.dK kvs)):kvs.length≤sizeLine∧(a==sysModules)=false∧∃vs,KV kvs vs∧h.DictOf (xu P w) a vs :=
 show ObjOk P w H h a (.dK kvs) from rd_of ok e
theorem qqs {kvs:List (Key×V)}(ok:HOk P w H h)(e:H a=some (.dK kvs)):kvs.length≤sizeLine∧(a==sysModules)=false∧∃vs,KV kvs vs∧h.DictOf (xu P w) a vs:=Qj ok (.inl e)
theorem yg {ks:List Key}(ok:HOk P w H h)(e:H a=some (.tup (ks.map kV))):(tupleKind (xu P w)).is h ks a:=by
 obtain ⟨_,its,r,o,h1,h2,n,h3⟩:=(show ObjOk P w H h a (.tup (ks.map kV)) from ok a _ e)
 exact ⟨o,its.toArray,n,h1,h2,h3,by simpa using qww r⟩
theorem Qg {kvs:List (List Key×V)}(ok:HOk P w H h)(e:Rd H a (.dT kvs)):kvs.length≤sizeLine∧(a==sysModules)=false ∧
  ∃xs,KT H kvs xs∧h.DictOfH (tupleKind (xu P w)) a xs:=by
 obtain ⟨z,y,xs,r,o,es,ep,h1,h2,h3,h4,h5⟩:=(show ObjOk P w H h a (.dT kvs) from rd_of ok e)
 refine ⟨z,y,xs,r,o,es,ep,h1,h2,h3,h4,λx hx=>?_,h5⟩
 have all:∀ {l:List (List Key×V)} {m:List (List Key×Aj×Ag)},KT H l m→∀x∈m,(tupleKind (xu P w)).is h x.1 x.2.1:=by
  intro l m q
  induction q with
  |nil=>intro x hx;exact nomatch hx
  |@cons p q ps qs hq t ih =>
   intro x hx
   rcases am.mp hx with e|hx
   ·subst e
    exact yg ok (by rw [←hq.1];exact hq.2.1)
   ·exact ih x hx
 exact all r x hx
theorem dt_of {kvs:List (List Key×V)}(ok:HOk P w H h)(e:H a=some (.dT kvs)):kvs.length≤sizeLine∧(a==sysModules)=false ∧
  ∃xs,KT H kvs xs∧h.DictOfH (tupleKind (xu P w)) a xs:=Qg ok (.inl e)
end
def DGet (H:Hp)(a:Aj)(y:V)(r:Option V):Prop :=
 (∃kvs k,Rd H a (.dK kvs)∧y=kV k∧r=w9 kvs k)∨∃kvs k b,Rd H a (.dT kvs)∧y=.ref b∧H b=some (.tup (k.map kV))∧r=w9 kvs k
def DPut (H:Hp)(a:Aj)(y v:V)(H':Hp):Prop :=
 (∃kvs k,H a=some (.dK kvs)∧y=kV k∧kvs.length<sizeLine∧H'=upd H a (.dK (zu kvs k v))) ∨
 ∃kvs k b,H a=some (.dT kvs)∧y=.ref b∧H b=some (.tup (k.map kV))∧kvs.length<sizeLine∧H'=upd H a (.dT (zu kvs k v))
theorem DGet.k {H:Hp}{a:Aj}{kvs:List (Key×V)}{k:Key}(e:H a=some (.dK kvs)):DGet H a (kV k) (w9 kvs k):=.inl ⟨kvs,k,.inl e,rfl,rfl⟩
theorem DGet.t {H:Hp}{a b:Aj}{kvs:List (List Key×V)}{k:List Key}(e:H a=some (.dT kvs))(eb:H b=some (.tup (k.map kV))):DGet H a (.ref b) (w9 kvs k):=.inr ⟨kvs,k,b,.inl e,rfl,eb,rfl⟩
theorem DPut.k {H:Hp}{a:Aj}{kvs:List (Key×V)}{k:Key}{v:V}(e:H a=some (.dK kvs))(hl:kvs.length<sizeLine):DPut H a (kV k) v (upd H a (.dK (zu kvs k v))):=.inl ⟨kvs,k,e,rfl,hl,rfl⟩
theorem DPut.t {H:Hp}{a b:Aj}{kvs:List (List Key×V)}{k:List Key}{v:V}(e:H a=some (.dT kvs))(eb:H b=some (.tup (k.map kV)))(hl:kvs.length<sizeLine) :
  DPut H a (.ref b) v (upd H a (.dT (zu kvs k v))):=.inr ⟨kvs,k,b,e,rfl,eb,hl,rfl⟩
section
variable {X:Cx}{pins:List (Aj×Obj)}{σ:St}{H:Hp}{s:Ab}{a:Aj}{y v:V}{u r:Ag}{o:Option V}{A:Ae}{E:Ag→Ab→Prop}
theorem Inv.big (I:Inv X pins σ H s):sysModules<s.heap.objs.size:=by
 have h:mainGlobals<s.heap.objs.size:=(I.mod.glob.keeps I.bk).lt
 exact bt (by decide) h
theorem qy9 {Q:Ag→Ab→Prop}(hu:A.units+1<cLine)(I:Inv X pins σ H s)(g:DGet H a y (some v))(ry:RelV y u)(h:∀w' s',Inv X pins σ H s'→RelV v w'→Q w' s') :
  wpAny (model X.prog X.w) A (getItem (.ref a) u) Q E s:=by
 rcases g with ⟨kvs,k,e,ey,l⟩|⟨kvs,k,b,e,ey,eb,l⟩
 ·subst ey
  obtain ⟨z,hd,vs,rel,dd⟩:=Qj I.hok e
  obtain ⟨w',hw,rw'⟩:=RelO.some_of (v:=v) (o:=valueAt vs k) (by rw [l];exact rel.val k)
  exact wpAny_getItem_of (ug ry) dd.mapOf hw (h w' _ (I.tok _) rw')
 ·subst ey
  cases (show u=Value.ref b from ry)
  obtain ⟨z,hd,xs,rel,dd⟩:=Qg I.hok e
  obtain ⟨w',hw,rw'⟩:=RelO.some_of (v:=v) (o:=(atKey xs k).map (·.2)) (by rw [l];exact rel.val k)
  obtain ⟨p,hp,hp2⟩:=Option.map_eq_some_iff.mp hw
  refine wpAny_getItem_heap (bV hu) (yg I.hok eb) dd hp ?_
  rw [hp2]
  exact h w' _ (I.tok _) rw'
theorem d_in {Q:Ag→Ab→Prop}(hu:A.units+1<cLine)(I:Inv X pins σ H s)(g:DGet H a y o)(ry:RelV y u)(h:∀s',Inv X pins σ H s'→Q (.bool o.isSome) s') :
  wpAny (model X.prog X.w) A (compareOp .In u (.ref a)) Q E s:=by
 rcases g with ⟨kvs,k,e,ey,l⟩|⟨kvs,k,b,e,ey,eb,l⟩
 ·subst ey
  obtain ⟨z,hd,vs,rel,dd⟩:=Qj I.hok e
  refine wpAny_in_of (ug ry) hd dd.mapOf ?_
  rw [← (rel.val k).isSome_eq,←l]
  exact h _ (I.tok _)
 ·subst ey
  cases (show u=Value.ref b from ry)
  obtain ⟨z,hd,xs,rel,dd⟩:=Qg I.hok e
  refine wpAny_in_heap (bV hu) (yg I.hok eb) hd dd ?_
  have q:=(rel.val k).isSome_eq
  rw [eh] at q
  rw [←q,←l]
  exact h _ (I.tok _)
theorem wzp {Q:Ag→Ab→Prop}(hu:A.units+1<cLine)(I:Inv X pins σ H s)(g:DGet H a y o)(ry:RelV y u)(h:∀s',Inv X pins σ H s'→Q (.bool (!o.isSome)) s') :
  wpAny (model X.prog X.w) A (compareOp .NotIn u (.ref a)) Q E s:=by
 rcases g with ⟨kvs,k,e,ey,l⟩|⟨kvs,k,b,e,ey,eb,l⟩
 ·subst ey
  obtain ⟨z,hd,vs,rel,dd⟩:=Qj I.hok e
  refine wpAny_notIn_of (ug ry) hd dd.mapOf ?_
  rw [← (rel.val k).isSome_eq,←l]
  exact h _ (I.tok _)
 ·subst ey
  cases (show u=Value.ref b from ry)
  obtain ⟨z,hd,xs,rel,dd⟩:=Qg I.hok e
  refine wpAny_notIn_heap (bV hu) (yg I.hok eb) hd dd ?_
  have q:=(rel.val k).isSome_eq
  rw [eh] at q
  rw [←q,←l]
  exact h _ (I.tok _)
theorem uy {h':Heap}{t':Nat}{ob:HO}(I:Inv X pins σ H s)(mu:Mut (H a))(hs:Heap.SameBut a s.heap h')(he:∃q,h'.get? a=some q)(new:ObjOk X.prog X.w (upd H a ob) h' a ob) :
  Inv X pins σ (upd H a ob) { s with heap:=h',toks:=t' } :=
 I.write (x:=a) (e:=a) mu (.inl rfl) (λb q hb z=>(hs.2 b hb).trans z) he new
theorem Ys {P:Ac}{w:Ah}{H':Hp}{h':Heap}{kvs:List (Key×V)}{vs:List (Key×Ag)}(z:kvs.length≤sizeLine)(hd:(a==sysModules)=false)(rel:KV kvs vs)(dd:h'.DictOf (xu P w) a vs) :
  ObjOk P w H' h' a (.dK kvs):=⟨z,hd,vs,rel,dd⟩
theorem qyn {H':Hp}{Q:Unit→Ab→Prop}(hu:A.units+1<cLine)(I:Inv X pins σ H s)(g:DPut H a y v H')(ry:RelV y u)(rv:RelV v r)(h:∀s',Inv X pins σ H' s'→Q () s') :
  wpAny (model X.prog X.w) A (setItem (.ref a) u r) Q E s:=by
 rcases g with ⟨kvs,k,e,ey,l,eH⟩|⟨kvs,k,b,e,ey,eb,l,eH⟩
 ·subst ey eH
  obtain ⟨z,hd,vs,rel,dd⟩:=qqs I.hok e
  have hz:vs.length≤sizeLine:=by rw [←rel.length];exact z
  have hl:(zu kvs k v).length≤sizeLine:=by have:=jq kvs k v;lia
  refine wpAny_setItem_pairs (hsz:=hz) (ug ry) dd λh' dd' hs=>h _ ?_
  have he:∃q,h'.get? a=some q:=let ⟨q,_,_,hq,_⟩:=dd';⟨q,hq⟩
  exact uy I (by rw [e];exact True.intro) hs he (Ys hl hd (rel.put k rv) dd')
 ·subst ey eH
  cases (show u=Value.ref b from ry)
  obtain ⟨z,hd,xs,rel,dd⟩:=dt_of I.hok e
  have hz:xs.length≤sizeLine:=by rw [←be rel];exact z
  have hl:(zu kvs k v).length≤sizeLine:=by have:=jq kvs k v;lia
  refine wpAny_setItem_heap (hsz:=hz) (bV hu) (yg I.hok eb) dd λh' dd' hs=>h _ ?_
  obtain ⟨q,es,ep,hq,h2,h3,h4,_,h5⟩:=dd'
  refine uy I (by rw [e];exact True.intro) hs ⟨q,hq⟩ ⟨hl,hd,_,(rel.put k eb rv).keeps λc ys ec=>?_,q,es,ep,hq,h2,h3,h4,h5⟩
  rw [wz (ne_of ec e (λz=>nomatch z))]
  exact ec
end
section
variable {X:Cx}{pins:List (Aj×Obj)}{σ:St}{H:Hp}{s:Ab}{a:Aj}{kvs:List (Key×V)}{k:Key}{u:Ag}{A:Ae}{E:Ag→Ab→Prop}
theorem quy {Q:Unit→Ab→Prop}(I:Inv X pins σ H s)(e:H a=some (.dK kvs))(ry:RelV (kV k) u)(l:(w9 kvs k).isSome=true)(h:∀s',Inv X pins σ (upd H a (.dK (qwf kvs k))) s'→Q () s') :
  wpAny (model X.prog X.w) A (delItem (.ref a) u) Q E s:=by
 obtain ⟨z,hd,vs,rel,dd⟩:=qqs I.hok e
 refine wpAny_delItem_slot dd.typeIs (by decide) dZ
  (cM dZ dd.typeIs PySem.F.entry_dict_delitem (PySem.F.args_dict_delitem_2 _ _) (meets_dict_delitem_pairs (xu X.prog X.w) a (ug ry)) ⟨vs,dd,by rw [←rel.length];exact z,by rw [← (rel.val k).isSome_eq];exact l,λh' dd' hs=>h _ ?_⟩)
 have he:∃q,h'.get? a=some q:=let ⟨q,_,_,hq,_⟩:=dd';⟨q,hq⟩
 exact uy I (by rw [e];exact True.intro) hs he (Ys (bB (qz8 kvs k) z) hd (rel.drop k) dd')
end
def NoSl (i:Expr):Prop:=∀ov iv,subscripted i false ov iv=operate [ov,iv] (getItem ov iv)
theorem wvg {prog:Ac}{w:Ah}{A:Ae}{E:Ag→Ab→Prop}{s:Ab}{env:Env}{value slice:Expr}{pos:Pos}{T id:String}{Q:Ag→Ab→Prop}
  (hl:typeLookup (.type T) "__getitem__" = pure (some (.builtin id))) (hs:NoSl slice)
  (h:wpAny (model prog w) A (eval value env) (λo s₁=>wpAny (model prog w) A (eval slice env) (λi s₂=>s₂.TypeIs o T∧wpAny (model prog w) A (getItem o i) Q E s₂) E s₁) E s) :
  wpAny (model prog w) A (eval (.Subscript value slice pos) env) Q E s:=by
 refine Subscript_ (aL h (λo s₁ h₁=>aL h₁ (λi s₂ h₂=>?_) λ_ _ x=>x) λ_ _ x=>x)
 obtain ⟨hT,h₂⟩:=h₂
 unfold subscriptTail
 refine ac ?_
 rw [getitemInPython_of_ne hT.not_modules]
 refine ac (eX hT hl ?_)
 have fin:wpAny (model prog w) A (subscripted slice false o i) (λr s₃=>wpAny (model prog w) A (letTemporaryGo value o r >>= λ_=>pure r) Q E s₃) E s₂:=by
  rw [hs o i]
  exact wpAny_operating (aL h₂ (λr s₃ h₃=>ac (wpAny_letTemporaryGo (aj h₃))) λ_ _ x=>x)
 first
  |exact aj (ac fin)
  |exact ac (aj (ac fin))
  |exact ac fin
theorem qvf {X:Cx}{pins:List (Aj×Obj)}{σ:St}{H:Hp}{s:Ab}{a:Aj}{y:V}{o:Option V}(I:Inv X pins σ H s)(g:DGet H a y o):s.TypeIs (.ref a) "dict" := by
 rcases g with ⟨kvs,k,e,_,_⟩|⟨kvs,k,b,e,_,_,_⟩
 ·obtain ⟨_,_,vs,_,dd⟩:=Qj I.hok e
  exact dd.typeIs
 ·obtain ⟨_,_,xs,_,dd⟩:=Qg I.hok e
  exact dd.typeIs
def tDGet (td ty:TE):TE:=λσ H Q=>td σ H λx H1=>ty σ H1 λy H2=>∃a v,x=.ref a∧DGet H2 a y (some v)∧Q v H2
def tDIn (ty td:TE):TE:=λσ H Q=>ty σ H λy H1=>td σ H1 λx H2=>∃a o,x=.ref a∧DGet H2 a y o∧Q (.bl o.isSome) H2
def wvh (ty td:TE):TE:=λσ H Q=>ty σ H λy H1=>td σ H1 λx H2=>∃a o,x=.ref a∧DGet H2 a y o∧Q (.bl (!o.isSome)) H2
def sDPut (td ty tv:TE):TS:=λD σ H=>tv σ H λv H1=>td σ H1 λx H2=>ty σ H2 λy H3=>∃a H4,x=.ref a∧DPut H3 a y v H4∧D.nx σ H4
def sDDel (td ty:TE):TS:=λD σ H=>td σ H λx H1=>ty σ H1 λy H2=>∃a kvs k,x=.ref a∧H2 a=some (.dK kvs)∧y=kV k∧(w9 kvs k).isSome=true∧D.nx σ (upd H2 a (.dK (qwf kvs k)))
section
variable {X:Cx}{o i e value:Expr}{pos pos' tpos:Pos}{td ty tv:TE}
theorem jg (hu:X.A.units+1<cLine)(ho:PE X o td)(hi:PE X i ty)(hs:NoSl i):PE X (.Subscript o i pos) (tDGet td ty):=by
 intro pins s σ H Q I h
 refine wvg PySem.F.slot_dict_getitem.lookup hs (thn (ho pins s σ H _ I h) λu s1 ⟨x,H1,I1,rx,q1⟩=>thn (hi pins s1 σ H1 _ I1 q1) λiv s2 ⟨y,H2,I2,ry,a,v,ex,g,q2⟩=>?_)
 subst ex
 obtain rfl:u=Value.ref a:=rx
 exact ⟨qvf I2 g,qy9 hu I2 g ry λw' s3 I3 rw'=>⟨v,H2,I3,rw',q2⟩⟩
theorem pc_din (hu:X.A.units+1<cLine)(hi:PE X i ty)(ho:PE X o td):PC X .In i o (tDIn ty td):=by
 intro pins s σ H Q I h
 refine thn (hi pins s σ H _ I h) λiv s1 ⟨y,H1,I1,ry,q1⟩=>thn (ho pins s1 σ H1 _ I1 q1) λu s2 ⟨x,H2,I2,rx,a,ov,ex,g,q2⟩=>?_
 subst ex
 obtain rfl:u=Value.ref a:=rx
 exact d_in hu I2 g ry λs3 I3=>⟨.bl ov.isSome,H2,I3,rfl,q2⟩
theorem y9 (hu:X.A.units+1<cLine)(hi:PE X i ty)(ho:PE X o td):PC X .NotIn i o (wvh ty td):=by
 intro pins s σ H Q I h
 refine thn (hi pins s σ H _ I h) λiv s1 ⟨y,H1,I1,ry,q1⟩=>thn (ho pins s1 σ H1 _ I1 q1) λu s2 ⟨x,H2,I2,rx,a,ov,ex,g,q2⟩=>?_
 subst ex
 obtain rfl:u=Value.ref a:=rx
 exact wzp hu I2 g ry λs3 I3=>⟨.bl (!ov.isSome),H2,I3,rfl,q2⟩
theorem Zh (hu:X.A.units+1<cLine)(ho:PE X o td)(hi:PE X i ty)(hv:PE X value tv)(hs:swapsWith value (some (.Subscript o i pos')) pos.line X.env=pure false) :
  PS X (.Assign [.Subscript o i pos'] value pos) (sDPut td ty tv):=by
 intro pins s σ H D I h
 refine wpAny_Assign_Subscript (thn (hv pins s σ H _ I h) λr s1 ⟨v,H1,I1,rv,q1⟩=>thn (ho pins s1 σ H1 _ I1 q1) λu s2 ⟨x,H2,I2,rx,q2⟩=>thn (hi pins s2 σ H2 _ I2 q2) λiv s3 ⟨y,H3,I3,ry,a,H4,ex,g,q3⟩=>?_) hs
 subst ex
 obtain rfl:u=Value.ref a:=rx
 exact qyn hu I3 g ry rv λs4 I4=>⟨σ,H4,I4,q3⟩
theorem wvx (ho:PE X o td)(hi:PE X i ty):PS X (.Delete [.Subscript o i tpos] pos) (sDDel td ty):=by
 intro pins s σ H D I h
 refine wpAny_Delete (wpAny_deleteEach_cons (wpAny_delete_Subscript (thn (ho pins s σ H _ I h) λu s1 ⟨x,H1,I1,rx,q1⟩=>thn (hi pins s1 σ H1 _ I1 q1) λiv s2 ⟨y,H2,I2,ry,a,kvs,k,ex,e,ey,l,q2⟩=>?_)))
 subst ex ey
 obtain rfl:u=Value.ref a:=rx
 exact quy I2 e ry l λs3 I3=>wpAny_deleteEach_nil ⟨σ,_,I3,q2⟩
end
theorem qzu {P:Ac}{w:Ah}{H:Hp}(h:Heap)(hb:sysModules<h.objs.size):ObjOk P w H (h.push { cls:=.type "dict",data:=.dict #[] }) h.objs.size (.dK []) :=
 ⟨aE _,aK.mpr (aU (ax hb)),[],.nil,Heap.DictOf.new h⟩
theorem qvj {P:Ac}{w:Ah}{H:Hp}(h:Heap)(hb:sysModules<h.objs.size):ObjOk P w H (h.push { cls:=.type "dict",data:=.dict #[] }) h.objs.size (.dT []) :=
 ⟨aE _,aK.mpr (aU (ax hb)),[],.nil,_,#[],0,ar _ rfl,⟨rfl,rfl,rfl⟩,rfl,rfl,br⟩
def tDNewK:TE:=λ_ H Q=>∀p,H p=none→Q (.ref p) (upd H p (.dK []))
def tDNewT:TE:=λ_ H Q=>∀p,H p=none→Q (.ref p) (upd H p (.dT []))
section
variable {X:Cx}{pos:Pos}
theorem vd:PE X (.Dict [] [] pos) tDNewK:=λpins s σ H Q I h =>
 wpAny_Dict_empty ⟨.ref s.heap.objs.size,_,I.laid (a:=s.heap.objs.size) (o:=.dK []) (t':=s.toks) (λ_ _ q=>af _ q) (ah _) (qzu s.heap I.big),rfl,h _ (I.hok.fresh (ah _))⟩
theorem wxs:PE X (.Dict [] [] pos) tDNewT:=λpins s σ H Q I h =>
 wpAny_Dict_empty ⟨.ref s.heap.objs.size,_,I.laid (a:=s.heap.objs.size) (o:=.dT []) (t':=s.toks) (λ_ _ q=>af _ q) (ah _) (qvj s.heap I.big),rfl,h _ (I.hok.fresh (ah _))⟩
end
end L2
namespace L2
open PySem PySem.Spec PyProof.Rows
def qv4:List (TE×TE)→St→Hp→(List (V×V)→Hp→Prop)→Prop
 |[],_,H,Q=>Q [] H
 |(tk,tv)::r,σ,H,Q=>tk σ H λx H1=>tv σ H1 λy H2=>qv4 r σ H2 λps H3=>Q ((x,y)::ps) H3
abbrev VV:List (V×V)→List (Ag×Ag)→Prop:=Paired λp q=>RelV p.1 q.1∧RelV p.2 q.2
def PPs (X:Cx)(pos:Pos)(keys:List (Option Expr))(values:List Expr)(trs:List (TE×TE)):Prop :=
 ∀(pins:List (Aj×Obj)) (s:Ab) (σ:St) (H:Hp) (Q:List (V×V)→Hp→Prop),Inv X pins σ H s→qv4 trs σ H Q →
  wpAny (model X.prog X.w) X.A (evalPairs (pairTrees keys values X.env pos)) (λvs s'=>∃ps H',Inv X pins σ H' s'∧VV ps vs∧Q ps H') X.xe s
theorem y8 {X:Cx}{pos:Pos}:PPs X pos [] [] []:=λpins s σ H Q I h=>pairTrees_nil_walk ⟨[],H,I,.nil,h⟩
theorem jp {X:Cx}{pos:Pos}{k v:Expr}{ks:List (Option Expr)}{vs:List Expr}{tk tv:TE}{trs:List (TE×TE)}(hk:PE X k tk)(hv:PE X v tv)(hr:PPs X pos ks vs trs) :
  PPs X pos (some k::ks) (v::vs) ((tk,tv)::trs):=λpins s σ H Q I h =>
 pairTrees_cons_walk (thn (hk pins s σ H _ I h) λu s1 ⟨x,H1,I1,rx,q1⟩=>thn (hv pins s1 σ H1 _ I1 q1) λw2 s2 ⟨y,H2,I2,ry,q2⟩ =>
  thn (hr pins s2 σ H2 _ I2 q2) λws s3 ⟨ps,H3,I3,rel,q3⟩=>⟨(x,y)::ps,H3,I3,.cons ⟨rx,ry⟩ rel,q3⟩)
def Qq (kvs more:List (Key×V)):List (Key×V):=more.foldl (λacc kv=>zu acc kv.1 kv.2) kvs
theorem KV.merge:∀ {more:List (Key×V)} {rs:List (Key×Ag)} {kvs:List (Key×V)} {vs:List (Key×Ag)},KV more rs→KV kvs vs→KV (Qq kvs more) (merged vs rs):=by
 intro more rs kvs vs r
 unfold KV at r
 induction r generalizing kvs vs with
 |nil=>intro q;exact q
 |@cons p q ps qs h t ih =>
  intro r0
  have e:KV (zu kvs p.1 p.2) (stored vs q.1 q.2):=by
   have:=r0.put p.1 h.2
   rw [←h.1];exact this
  exact ih e
theorem ud:∀(more kvs:List (Key×V)),(Qq kvs more).length≤kvs.length+more.length
 |[],kvs=>by show kvs.length≤kvs.length+0;lia
 |p::r,kvs=>by
  have h1:=ud r (zu kvs p.1 p.2)
  have h2:=jq kvs p.1 p.2
  show (Qq (zu kvs p.1 p.2) r).length≤_
  rw [aT];lia
theorem Yp {P:Ac}{w:Ah}:∀ {kvs:List (Key×V)} {ws:List (Ag×Ag)},VV (kvs.map λkv=>(kV kv.1,kv.2)) ws→∃rs,Carries (xu P w) ws rs∧KV kvs rs
 |[],_,r=>by rw [dc] at r;cases r;exact ⟨[],True.intro,.nil⟩
 |p::kvs,_,r=>by
  rw [aS] at r
  cases r with
  |@cons a b as bs h t =>
   obtain ⟨rs,c,q⟩:=Yp (P:=P) (w:=w) t
   obtain ⟨b1,b2⟩:=b
   exact ⟨(p.1,b2)::rs,⟨ug h.1,rfl,c⟩,.cons ⟨rfl,h.2⟩ q⟩
def tDisp (trs:List (TE×TE)):TE:=λσ H Q=>∀p,H p=none→qv4 trs σ (upd H p (.dK [])) λps H2=>H2 p=some (.dK [])∧∃kvs:List (Key×V),ps=kvs.map (λkv=>(kV kv.1,kv.2))∧kvs.length≤15∧Q (.ref p) (upd H2 p (.dK (Qq [] kvs)))
theorem ux {X:Cx}{pos:Pos}{keys:List (Option Expr)}{values:List Expr}{trs:List (TE×TE)}(h:PPs X pos keys values trs)(hall:keys.all (·.isSome)=true)(hl:keys.length=values.length)(h0:keys≠[])
  (h15:keys.length≤15):PE X (.Dict keys values pos) (tDisp trs):=by
 intro pins s σ H Q I q
 have hn:=I.hok.fresh (ah s.heap.objs.size)
 have I1:=I.laid (a:=s.heap.objs.size) (o:=.dK []) (h':=s.heap.push { cls:=.type "dict",data:=.dict #[] }) (t':=s.toks) (λ_ _ q=>af _ q) (ah _) (qzu s.heap I.big)
 refine wpAny_Dict_walk (knd:=xu X.prog X.w) hall hl h0 h15 (thn (h pins _ σ _ _ I1 (q _ hn)) λws s2 ⟨ps,H2,I2,rel,e,kvs,ep,lk,q2⟩=>?_)
 subst ep
 obtain ⟨rs,c,rk⟩:=Yp (P:=X.prog) (w:=X.w) rel
 obtain ⟨z,hd,vs0,r0,dd⟩:=qqs I2.hok e
 cases r0
 refine ⟨rs,c,dd,λh' dd' hs=>⟨.ref s.heap.objs.size,_,?_,rfl,q2⟩⟩
 have hz:(Qq [] kvs).length≤sizeLine:=by
  have h1:=ud kvs []
  rw [cU] at h1
  rw [sizeLine_eq];lia
 have he:∃q,h'.get? s.heap.objs.size=some q:=let ⟨q,_,_,hq,_⟩:=dd';⟨q,hq⟩
 exact uy I2 (by rw [e];exact True.intro) hs he (Ys hz hd (rk.merge .nil) dd')
structure M1 (X:Cx)(o:Expr)(m:Str)(apos:Pos)(e:Expr)(cpos:Pos):Prop where
 base:attributeBase o m X.env (eval o X.env)=eval o X.env
 few:((backTo cpos (starEach [e] X.env)).all (λx=>!x.1)&&(backToKw cpos (keywordEach [] X.env)).all (λx=>x.1.isSome)
  && decide (([e]:List Expr).length+([]:List Keyword).length+(if ([]:List Keyword).isEmpty then 0 else 1)<30))=true
 line:(apos.endLine==cpos.line)=true
 trees:backTo cpos (starEach [e] X.env)=[(false,eval e X.env)]
structure M2 (X:Cx)(o:Expr)(m:Str)(apos:Pos)(e f:Expr)(cpos:Pos):Prop where
 base:attributeBase o m X.env (eval o X.env)=eval o X.env
 few:((backTo cpos (starEach [e,f] X.env)).all (λx=>!x.1)&&(backToKw cpos (keywordEach [] X.env)).all (λx=>x.1.isSome)
  && decide (([e,f]:List Expr).length+([]:List Keyword).length+(if ([]:List Keyword).isEmpty then 0 else 1)<30))=true
 line:(apos.endLine==cpos.line)=true
 trees:backTo cpos (starEach [e,f] X.env)=[(false,eval e X.env),(false,eval f X.env)]
def IsD (H:Hp)(a:Aj):Prop:=(∃kvs,Rd H a (.dK kvs))∨∃kvs,Rd H a (.dT kvs)
theorem qku {X:Cx}{pins:List (Aj×Obj)}{σ:St}{H:Hp}{s:Ab}{a:Aj}(I:Inv X pins σ H s)(d:IsD H a) :
  s.TypeIs (.ref a) "dict" ∧ (∀b,Value.ref a=.ref b→∃ob,s.heap.get? b=some ob∧ob.dict=none)∧(a==sysModules)=false:=by
 rcases d with ⟨kvs,e⟩|⟨kvs,e⟩
 ·obtain ⟨_,hd,vs,_,dd⟩:=Qj I.hok e
  refine ⟨dd.typeIs,λb q=>?_,hd⟩
  cases q
  obtain ⟨ob,_,_,h1,h2,_⟩:=dd
  exact ⟨ob,h1,h2.2.1⟩
 ·obtain ⟨_,hd,xs,_,dd⟩:=Qg I.hok e
  refine ⟨dd.typeIs,λb q=>?_,hd⟩
  cases q
  obtain ⟨ob,_,_,h1,h2,_⟩:=dd
  exact ⟨ob,h1,h2.2.1⟩
section
variable {X:Cx}{pins:List (Aj×Obj)}{σ:St}{H:Hp}{s:Ab}{a:Aj}{y d:V}{u r:Ag}{o:Option V}{A:Ae}{E:Ag→Ab→Prop}
theorem d_get1 {Q:Ag→Ab→Prop}(hu:A.units+1<cLine)(I:Inv X pins σ H s)(g:DGet H a y o)(ry:RelV y u)(h:∀w' s',Inv X pins σ H s'→RelV (o.getD .non) w'→Q w' s') :
  wpAny (model X.prog X.w) A (call (.builtin "dict.get") [.ref a,u]) Q E s:=by
 rcases g with ⟨kvs,k,e,ey,l⟩|⟨kvs,k,b,e,ey,eb,l⟩
 ·subst ey
  obtain ⟨z,hd,vs,rel,dd⟩:=Qj I.hok e
  refine cM bz dd.typeIs cz (eI _ _) (meets_dict_get (xu X.prog X.w) a (ug ry) hd) ⟨_,dd.mapOf,h _ _ (I.tok _) ?_⟩
  rw [l]
  exact (rel.val k).getD rfl
 ·subst ey
  cases (show u=Value.ref b from ry)
  obtain ⟨z,hd,xs,rel,dd⟩:=Qg I.hok e
  refine cM bz dd.typeIs cz (eI _ _) (meetsH_dict_get (tupleKind (xu X.prog X.w)) a b hd) ⟨bV hu,k,xs,yg I.hok eb,dd,h _ _ (I.tok _) ?_⟩
  rw [l]
  exact (rel.val k).getD rfl
theorem d_get2 {Q:Ag→Ab→Prop}(hu:A.units+1<cLine)(I:Inv X pins σ H s)(g:DGet H a y o)(ry:RelV y u)(rd:RelV d r)(h:∀w' s',Inv X pins σ H s'→RelV (o.getD d) w'→Q w' s') :
  wpAny (model X.prog X.w) A (call (.builtin "dict.get") [.ref a,u,r]) Q E s:=by
 rcases g with ⟨kvs,k,e,ey,l⟩|⟨kvs,k,b,e,ey,eb,l⟩
 ·subst ey
  obtain ⟨z,hd,vs,rel,dd⟩:=Qj I.hok e
  refine cM bz dd.typeIs cz (eJ _ _ _) (meets_dict_get_default (xu X.prog X.w) a (ug ry) hd r) ⟨_,dd.mapOf,h _ _ (I.tok _) ?_⟩
  rw [l]
  exact (rel.val k).getD rd
 ·subst ey
  cases (show u=Value.ref b from ry)
  obtain ⟨z,hd,xs,rel,dd⟩:=Qg I.hok e
  refine cM bz dd.typeIs cz (eJ _ _ _) (meetsH_dict_get_default (tupleKind (xu X.prog X.w)) a b hd r) ⟨bV hu,k,xs,yg I.hok eb,dd,h _ _ (I.tok _) ?_⟩
  rw [l]
  exact (rel.val k).getD rd
end
def tDGet1 (td ty:TE):TE:=λσ H Q=>td σ H λx H1=>∃a,x=.ref a∧IsD H1 a∧ty σ H1 λy H2=>∃o,DGet H2 a y o∧Q (o.getD .non) H2
def tDGet2 (td ty tx:TE):TE:=λσ H Q=>td σ H λx H1=>∃a,x=.ref a∧IsD H1 a∧ty σ H1 λy H2=>tx σ H2 λz H3=>∃o,DGet H3 a y o∧Q (o.getD z) H3
section
variable {X:Cx}{o e f:Expr}{apos cpos:Pos}{td ty tx:TE}
theorem wxv (hu:X.A.units+1<cLine)(ho:PE X o td)(he:PE X e ty)(m:M1 X o "get" apos e cpos):PE X (.Call (.Attribute o "get" apos) [e] [] cpos) (tDGet1 td ty):=by
 intro pins s σ H Q I h
 refine wpAny_Call_method m.base m.few m.line cZ bz PySem.F.type_dict_get (thn (ho pins s σ H _ I h) λu s1 ⟨x,H1,I1,rx,a,ex,d,q1⟩=>?_)
 subst ex
 obtain rfl:u=Value.ref a:=rx
 obtain ⟨t1,t2,_⟩:=qku I1 d
 refine ⟨t1,t2,?_⟩
 rw [m.trees]
 refine bN rfl (cH (cW (thn (he pins s1 σ H1 _ I1 q1) λiv s2 ⟨y,H2,I2,ry,ov,g,q2⟩=>ed ?_)))
 exact d_get1 hu I2 g ry λw' s3 I3 rw'=>⟨_,H2,I3,rw',q2⟩
theorem qvg (hu:X.A.units+1<cLine)(ho:PE X o td)(he:PE X e ty)(hf:PE X f tx)(m:M2 X o "get" apos e f cpos):PE X (.Call (.Attribute o "get" apos) [e,f] [] cpos) (tDGet2 td ty tx):=by
 intro pins s σ H Q I h
 refine wpAny_Call_method m.base m.few m.line cZ bz PySem.F.type_dict_get (thn (ho pins s σ H _ I h) λu s1 ⟨x,H1,I1,rx,a,ex,d,q1⟩=>?_)
 subst ex
 obtain rfl:u=Value.ref a:=rx
 obtain ⟨t1,t2,_⟩:=qku I1 d
 refine ⟨t1,t2,?_⟩
 rw [m.trees]
 refine bN rfl (cH (cW (thn (he pins s1 σ H1 _ I1 q1) λiv s2 ⟨y,H2,I2,ry,q2⟩ =>
  cW (thn (hf pins s2 σ H2 _ I2 q2) λfv s3 ⟨z,H3,I3,rz,ov,g,q3⟩=>ed ?_))))
 exact d_get2 hu I3 g ry rz λw' s4 I4 rw'=>⟨_,H3,I4,rw',q3⟩
end
section
variable {X:Cx}{pins:List (Aj×Obj)}{σ:St}{H:Hp}{s:Ab}{a:Aj}{kvs:List (Key×V)}{A:Ae}{E:Ag→Ab→Prop}
end
section
variable {X:Cx}{pins:List (Aj×Obj)}{σ:St}{H:Hp}{s:Ab}{a:Aj}{y:V}{u:Ag}{A:Ae}{E:Ag→Ab→Prop}
end
end L2
namespace L2
open PySem PySem.Spec PyProof.Rows PySem.W
def RawD (h:Heap)(d:Aj)(es:Array DictEntry)(ep:Nat):Prop:=∃o,h.get? d=some o∧o.ExactDict∧o.data=.dict es ep
section
variable {prog:Ac}{w:Ah}{A:Ae}{E:Ag→Ab→Prop}{s:Ab}{d:Aj}{es:Array DictEntry}{ep:Nat}
theorem RawD.ty {s:Ab}(x:RawD s.heap d es ep):s.TypeIs (.ref d) "dict" := let ⟨o,ho,hc,_⟩:=x;⟨o,ho,hc.1⟩
theorem RawD.lt {h:Heap}(x:RawD h d es ep):d<h.objs.size:=let ⟨_,ho,_⟩:=x;ak ho
theorem RawD.at {h h':Heap}(x:RawD h d es ep)(k:∀o,h.get? d=some o→h'.get? d=some o):RawD h' d es ep:=let ⟨o,ho,r⟩:=x;⟨o,k o ho,r⟩
theorem wqm {Q:Ag→Ab→Prop}(hd:(d==sysModules)=false)(hm:RawD s.heap d es ep)
  (hQ:Q (.ref s.heap.objs.size) { s with heap:=s.heap.push { cls:=.type "dict_keyiterator",data:=.fields #[.ref d,.int 0 0,.int es.size 0,.int ep 0] } }):wpAny (model prog w) A (pyIter (.ref d)) Q E s:=by
 obtain ⟨o,ho,hc,hdat⟩:=id hm
 (refine wpAny_pyIter_slot hm.ty F.slot_dict_iter (dt F.slot_dict_iter hm.ty F.entry_dict_iter ?_ (F.args_dict_iter_1 _)) ;unfold Builtin.«dict.__iter__» ;refine ac ?_ ;unfold Builtin.Dict.dictSlotNone ;refine ac (wpAny_notOrdered_dict hm.ty ?_))
 (show wpAny _ _ (pure (Value.ref d)) _ _ s ;refine aj ?_ ;show wpAny _ _ (Builtin.Dict.showsAll d >>= _) _ _ s ;unfold Builtin.Dict.showsAll ;rw [ai (by rw [hd];exact aA)])
 (refine ac (aj ?_) ;refine ac (bI ho hdat ?_) ;refine ac (eY ho hdat ?_))
 refine ac (bG (aj ⟨_,rfl,"dict_keyiterator",_,⟨_,ar _ rfl,rfl⟩,bu.lookup,?_⟩)) ;simpa [rawInt] using hQ
theorem www {it:Aj}{i:Nat}{e:DictEntry}{Q:Option Ag→Ab→Prop}(hit:s.heap.IsKeyIter it d i es.size ep)(hm:RawD s.heap d es ep)(hx:es[i]?=some e)
  (hQ:∀h',h'.IsKeyIter it d (i+1) es.size ep→Heap.SameBut it s.heap h'→Q (some e.key) { s with heap:=h' }):wpAny (model prog w) A (pyNext (.ref it)) Q E s:=by
 obtain ⟨o,ho,hc,hd⟩:=id hit ;obtain ⟨od,hod,hcd,hdd⟩:=id hm
 (unfold pyNext ;refine ac (wpAny_attempt (c0 (name:=Str.ofString "__next__") hit.typeIs bu (dt bu hit.typeIs dB ?_ (du _)))) ;refine ac (aj ?_) ;refine ac ?_ ;refine ac ?_)
 ((first | refine ac (bE hit.typeIs (aj ?_)) | refine ac (cg hit.typeIs (aj ?_))) ;refine ac (wpAny_fieldsOf ho hd ?_) ;simp only [show Builtin.Dict_items.ownsTuple "dict_keyiterator" = false by decide,bW,de] ;show wpAny _ _ (if (Value.ref d==Value.none)=true then _ else _) _ _ s ;rw [ai (show ¬ ((Value.ref d==Value.none)=true) from aA)] ;refine ac (aj ?_) ;refine ac (bI hod hdd ?_) ;rw [ai (by simp)] ;refine ac (aj ?_) ;refine ac (eY hod hdd ?_) ;rw [ai (by simp)] ;refine aj ?_)
 have hlt:i<es.size:=(dX.mp hx).1 ;have he:es[i]=e:=(dX.mp hx).2
 (simp only [show ¬ ((i:Int)<0) from by lia,de,bH,bx hlt] ;refine ac ?_ ;(first | refine ac (bE hit.typeIs (aj ?_)) | refine ac (cg hit.typeIs (aj ?_))) ;refine ac (wpAny_isOneOf_keyiter hit.typeIs ?_) ;show wpAny _ _ (setField (.ref it) 1 (rawInt ((i:Int)+1)) >>= _) _ _ s ;refine ac (wpAny_setField ho hd (by simp) ?_))
 have hit':(s.heap.update it (Obj.mapFields (·.setIfInBounds 1 (rawInt ((i:Int)+1))))).IsKeyIter it d (i+1) es.size ep:=⟨_,dk _ ho (Obj.isFreed_of_fields (Obj.data_mapFields hd _)),(Obj.cls_mapFields ..).trans hc,by rw [Obj.data_mapFields hd];simp [rawInt]⟩
 (refine ac (bR ?_) ;refine ac (wpAny_isOneOf_keyiter (s:={ s with heap:=s.heap.update it (Obj.mapFields (·.setIfInBounds 1 (rawInt ((i:Int)+1)))) }) hit'.typeIs ?_) ;show wpAny _ _ (pure es[i].key) _ _ _ ;rw [he])
 exact aj (aj ⟨_,rfl,aj (hQ _ hit' (cP ..))⟩)
theorem wx5 {it:Aj}{i:Nat}{Q:Option Ag→Ab→Prop}(hh:A.handled=none)(hit:s.heap.IsKeyIter it d i es.size ep)(hm:RawD s.heap d es ep)(hx:es.size≤i)(hQ:∀h',Heap.ExtBut it s.heap h'→Q none { s with heap:=h' }):wpAny (model prog w) A (pyNext (.ref it)) Q E s:=by
 obtain ⟨o,ho,hc,hd⟩:=id hit ;obtain ⟨od,hod,hcd,hdd⟩:=id hm
 (unfold pyNext ;refine ac (wpAny_attempt (c0 (name:=Str.ofString "__next__") hit.typeIs bu (dt bu hit.typeIs dB ?_ (du _)))) ;refine ac (aj ?_) ;refine ac ?_ ;refine ac ?_)
 ((first | refine ac (bE hit.typeIs (aj ?_)) | refine ac (cg hit.typeIs (aj ?_))) ;refine ac (wpAny_fieldsOf ho hd ?_) ;simp only [show Builtin.Dict_items.ownsTuple "dict_keyiterator" = false by decide,bW,de] ;show wpAny _ _ (if (Value.ref d==Value.none)=true then _ else _) _ _ s ;rw [ai (show ¬ ((Value.ref d==Value.none)=true) from aA)] ;refine ac (aj ?_) ;refine ac (bI hod hdd ?_) ;rw [ai (by simp)] ;refine ac (aj ?_) ;refine ac (eY hod hdd ?_) ;rw [ai (by simp)] ;refine aj ?_)
 (simp only [show ¬ ((i:Int)<0) from by lia,de,bH,bO hx] ;refine ac ?_ ;(first | refine ac (bE hit.typeIs (aj ?_)) | refine ac (cg hit.typeIs (aj ?_))) ;show wpAny _ _ (setField (.ref it) 0 .none >>= _) _ _ s ;refine ac (wpAny_setField ho hd (by simp) ?_) ;show wpAny _ _ (newExc (.type "StopIteration") [] >>= _) _ _ _ ;refine ac ?_ ;simp only [newExc,newTuple])
 (refine ac (bG ?_ (by size_fits)) ;refine ac (m:=firstArgMember _ _) (wpAny_of_eq (a:=Value.none) (by first | rfl | (simp only [firstArgMember];rfl)) ?_) ;refine bG ?_ (by size_fits) ;simp only [raiseNew] ;refine ac (wpAny_handled ?_) ;rw [show A.in1.handled=none from hh] ;refine ac (aj (wpAny_throw ?_)))
 refine ac (wpAny_isInstance (T := "StopIteration") (b:=true) ⟨_,ar _ rfl,rfl⟩ isSubtype_stop (aj (hQ _ (((cP ..).extBut.push _).push _))))
theorem qu0 (hh:A.handled=none)(I:Aj)(hne:d≠I):Walks prog w A I [I,d] [I] es.size (λi v=>∃e,es[i]?=some e∧v=e.key) (λi h=>h.IsKeyIter I d i es.size ep∧RawD h d es ep) where
 sub:=λb hb=>by simp at hb;simp [hb]
 frame:=λ_ _ _ st hk=>⟨st.1.at λo e=>hk I (by simp) o e,st.2.at λo e=>hk d (by simp) o e⟩
 item:=λi s Q E hi st hQ=>www st.1 st.2 (bx hi) λh' it' sb=>hQ _ h' s.toks ⟨_,bx hi,rfl⟩ ⟨it',st.2.at λo e=>sb.extBut d o hne e⟩ λb o hb e=>sb.extBut b o (λh=>hb (by simp [h])) e
 done:=λs Q E st hQ=>wx5 hh st.1 st.2 (ah _) λh' eb=>hQ h' s.toks λb o hb e=>eb b o (λh=>hb (by simp [h])) e
 self:=λ_ _ _ _ st hQ=>wpAny_pyIter_keyiter st.1 hQ
theorem wvq (lo:(d==sysModules)=false):KdlSrc prog w "dict" d d es.size (λi v=>∃e,es[i]?=some e∧v=e.key) (λh=>RawD h d es ep) where
 type:=λ_ hm=>hm.ty
 there:=λ_ hm=>⟨hm.lt,hm.lt⟩
 keep:=λ_ _ hm hk=>hm.at λo e=>hk d (.inl rfl) o e
 notList:=by decide
 notTuple:=by decide
 hint:=λ_ _ _ _ hm hq=>kdl_hint_dict hm.ty hq
 iter:=λ_ _ hh hm=>⟨_,_,(λ_ _ hq=>wqm lo hm hq),qu0 hh _ (ax hm.lt),⟨⟨_,ar _ rfl,rfl,rfl⟩,hm.at λo e=>af _ e⟩⟩
theorem J9 (hd:(d==sysModules)=false):MeetsIn prog w (Builtin.«dict.__len__» ⟨[.ref d],[]⟩) (λ_ R s=>∃es ep,RawD s.heap d es ep∧R (.ok (.ret (.int es.size s.toks))) { s with toks:=s.toks+1 }) :=
 .of_wp λA R s ⟨es,ep,hm,h⟩=>by
  obtain ⟨o,ho,hc,hdat⟩:=hm
  (show wpAny _ _ (dictSize d >>= _) _ _ s ;unfold dictSize ;refine ac (ac (bI ho hdat (aj ?_))) ;show wpAny _ _ (Builtin.Dict.pendingCount d >>= _) _ _ s ;refine ac (wpAny_pendingCount_other hd ?_) ;refine wpAny_ret_mkInt ?_ ;rw [Nat.add_zero] ;exact h)
theorem wv1 {Q:Ag→Ab→Prop}(hd:(d==sysModules)=false)(hm:RawD s.heap d es ep)(hfit:(es.size:Int)<2 ^ 63)(h:Q (.int es.size (s.toks+1)) { s with toks:=s.toks+1+1 }):wpAny (model prog w) A (call (.builtin "len") [.ref d]) Q E s:=by
 refine Calls.call_function_entry kind_len plain_len entry_len (args_len1 _) ?_ ;unfold Builtin.«len» ;refine ac (m:=oneArg "len" _) (aj ?_)
 refine ac (m:=callSpecial? (.ref d) (Str.ofString "__len__")) (c0 (name:=Str.ofString "__len__") hm.ty F.slot_dict_len (cM F.slot_dict_len hm.ty F.entry_dict_len (F.args_dict_len_1 _) (J9 hd) ⟨es,ep,hm,?_⟩))
 (show wpAny _ _ _ _ _ { s with toks:=s.toks+1 } ;refine ac (bR (aj ?_)) ;refine ac (wpAny_letGo ?_) ;show wpAny _ _ (if ((es.size:Nat):Int)<0 then _ else _) _ _ _ ;rw [ai (by lia)] ;show wpAny _ _ (if ((es.size:Nat):Int)≥2 ^ 63 then _ else _) _ _ _ ;rw [ai (by lia)])
 exact ac (wpAny_mkInt (aj ⟨_,rfl,h⟩))
end
section
variable {X:Cx}
theorem wxh {P:Ac}{w:Ah}{H:Hp}{h:Heap}{a:Aj}{kvs:List (List Key×V)}(ok:HOk P w H h)(e:H a=some (.dT kvs)) :
  kvs.length≤sizeLine∧(a==sysModules)=false∧∃(xs:List (List Key×Aj×Ag)) (es:Array DictEntry) (ep:Nat),KT H kvs xs∧RawD h a es ep∧es.toList=xs.map (entryOfKey (tupleKind (xu P w))):=by
 obtain ⟨z,y,xs,r,o,es,ep,h1,h2,h3,h4,h5⟩:=(show ObjOk P w H h a (.dT kvs) from ok a _ e)
 exact ⟨z,y,xs,es,ep,r,⟨o,h1,h2,h3⟩,h4⟩
theorem qwk:kj X (.builtin "len") (λxs H Q=>∃a kvs,xs=[V.ref a]∧H a=some (.dT kvs)∧Q (.int kvs.length) H):=by
 intro pins s σ H xs us Q I r h
 obtain ⟨a,kvs,rfl,e,q⟩:=h
 obtain ⟨u,rfl,rx⟩:=jd r
 cases rx
 obtain ⟨z,hd,ys,es,ep,rel,raw,hes⟩:=wxh I.hok e
 have hl:es.size=kvs.length:=by rw [←aR,hes,ae,be rel]
 have hn:=Wz
 exact wv1 hd raw (by rw [hl];lia) ⟨.int kvs.length,H,I.tok _,⟨_,by rw [hl]⟩,q⟩
def wq5 (H:Hp)(kvs:List (List Key×V))(vs:List V):Prop:=Paired (λv (p:List Key×V)=>∃b,v=V.ref b∧H b=some (.tup (p.1.map kV))) vs kvs
theorem qjk (hc:X.calm=true):kj X (.type "list") (λxs H Q=>∃a kvs,xs=[V.ref a]∧H a=some (.dT kvs)∧∀p vs,H p=none→wq5 H kvs vs→Q (.ref p) (upd H p (.lst vs))):=by
 intro pins s σ H xs us Q I r h
 obtain ⟨a,kvs,rfl,e,q⟩:=h
 obtain ⟨u,rfl,rx⟩:=jd r
 cases rx
 obtain ⟨z,hd,ys,es,ep,rel,raw,hes⟩:=wxh I.hok e
 have hl:es.size=kvs.length:=by rw [←aR,hes,ae,be rel]
 refine kdl_call (wvq hd) (I.ok.hd hc) raw (by rw [hl];exact z) λh' tk acc' c' hk hD hacc=>?_
 have key:∀(l:List Ag) (kvs':List (List Key×V)) (ys':List (List Key×Aj×Ag)),KT H kvs' ys'→l.length=kvs'.length→(∀(j:Nat) v,l[j]?=some v→∃y,ys'[j]?=some y∧v=.ref y.2.1)→∃vs,Vals vs l∧wq5 H kvs' vs:=by
  intro l kvs' ys' rr
  induction rr generalizing l with
  |nil =>
   intro hl' _
   cases l with
   |nil=>exact ⟨[],.nil,.nil⟩
   |cons _ _=>simp at hl'
  |@cons p y ps yss hp t ih =>
   intro hl' hj
   cases l with
   |nil=>simp at hl'
   |cons v l =>
    obtain ⟨y',ey,rfl⟩:=hj 0 v rfl
    cases ey
    obtain ⟨vs,v1,v2⟩:=ih l (by simpa using hl') λj u hu=>by
     obtain ⟨y2,e2,e3⟩:=hj (j+1) u (by simpa using hu)
     exact ⟨y2,by simpa using e2,e3⟩
    exact ⟨.ref y.2.1::vs,.cons rfl v1,.cons ⟨_,rfl,hp.2.1⟩ v2⟩
 obtain ⟨vs,v1,v2⟩:=key acc'.toList kvs ys rel (by rw [aR,hacc.1,hl]) λj v ev=>by
  obtain ⟨en,e1,rfl⟩:=hacc.2 j v (by rw [←bX];exact ev)
  rw [←bX,hes,aG] at e1
  cases hy:ys[j]? with
  |none=>rw [hy] at e1;cases e1
  |some y =>
   rw [hy] at e1
   have e2:=aw e1
   exact ⟨y,rfl,by rw [←e2];rfl⟩
 have hv:vs.length≤sizeLine:=by rw [v1.length,aR,hacc.1,hl];exact z
 exact ⟨.ref _,_,I.laid (t':=tk) hk (ah _) (show ObjOk X.prog X.w _ h' _ (.lst vs) from ⟨hv,acc'.toList,c',v1,by simpa using hD⟩),rfl,q _ _ (I.hok.fresh (ah _)) v2⟩
end
end L2
namespace L2
open PySem PySem.Spec PyProof.Rows
def Stay (G:Nat→V→Hp→Prop):Prop:=∀i v H H' p,G i v H→v≠.ref p→(∀b o,b≠p→H b=some o→H' b=some o)→G i v H'
theorem qv8 {K:Aa}{M:List Nat}{a:Aj}{xs:List V}{te:TE}{σ:St}{H:Hp}{Q:VK}(G:Nat→V→Hp→Prop)(gs:Stay G)(hS:SqL K H a xs)(hn:xs.length≤1000000)
  (he:∀(i:Nat) (x:V) (H':Hp) (R:VK),xs[i]?=some x→Same H H'→(∀v H'',Same H' H''→G i v H''→(∀b,v=.ref b→H' b=none)→R v H'')→te (zd M σ (some x)) H' R)
  (k:∀p ys H',H p=none→Same H H'→H' p=some (.lst ys)→ys.length=xs.length→(∀j v,ys[j]?=some v→G j v H'∧v≠.ref p)→Q (.ref p) H'):qq6 (Itl K a) M te σ H Q:=by
 intro p np
 refine ⟨λi m ys H2=>i≤xs.length∧m=xs.length-i∧ys.length=i∧Same H H2∧H2 p=some (.lst ys)∧∀j v,ys[j]?=some v→G j v H2∧v≠.ref p,⟨xs.length,aE _,rfl,rfl,Same.upd np,qm,λj v e=>by cases e⟩,?_⟩
 rintro i m ys H2 ⟨hi,rfl,hy,sm,hp,hG⟩
 have hS':SqL K H2 a xs:=Same.sql sm hS
 refine ⟨hp,?_,?_⟩
 ·have:(1000000:Nat)<sizeLine:=by decide
  lia
 ·by_cases hlt:i<xs.length
  ·have hx:xs[i]?=some xs[i]:=ag hlt
   refine .inr ⟨⟨xs,_,hS',hx⟩,?_⟩
   rintro v H3 ⟨rfl,hv⟩
   have e:=hv xs hS'
   rw [hx] at e
   have e':=aw e
   subst e'
   refine he i _ _ _ hx sm λv H4 s4 g4 fr=>⟨s4 _ _ hp,xs.length-(i+1),by lia,by lia,rfl,by rw [au,hy];rfl,λb o e=>?_,qm,λj w e=>?_⟩
   ·rw [wz (qg e np)]
    exact s4 _ _ (sm _ _ e)
   ·have vp:v≠.ref p:=λz=>by
     have:=fr p z
     rw [hp] at this
     cases this
    have st:∀b o,b≠p→H4 b=some o→upd H4 p (.lst (ys++[v])) b=some o:=λb o nb e=>by rw [wz nb];exact e
    rcases (dN j ys.length) with z|z
    ·rw [bn z] at e
     obtain ⟨g,nw⟩:=hG j w e
     exact ⟨gs j w _ _ p g nw λb o nb e=>st b o nb (s4 b o e),nw⟩
    ·rw [bb z] at e
     have hj:j=i:=by
      rcases dN (j-ys.length) 1 with y|y
      ·lia
      ·rw [aY (by simpa using y)] at e
       cases e
     have e3:[v][j-ys.length]?=some w:=by assumption
     subst hj
     rw [show j-ys.length=0 by lia] at e3
     have:v=w:=aw e3
     subst this
     exact ⟨gs j v H4 _ p g4 vp st,vp⟩
  ·have hi':i=xs.length:=by lia
   subst hi'
   exact .inl ⟨⟨xs,hS',ah _⟩,k p ys _ np sm hp hy hG⟩
end L2
namespace L2
open PySem PySem.Spec PyProof.Rows
def compN2 (X:Cx)(x y:Str)(M:List Nat):List Str:=x::y::M.map λj=>X.N.getD j Str.empty
def yd (M:List Nat)(σ:St)(o o':Option V):St:=o::o'::M.map λj=>(σ[j]?).join
abbrev vk (X:Cx)(scope:Scope)(cl:List (Str×Aj))(x y:Str)(M:List Nat)(C:Aj)(s2:Ab)(H2:Hp)(fp:List Aj)(pn:List (Aj×Obj)):Cx :=
 { X with N:=compN2 X x y M,s₀:=s2,H₀:=H2,env:=compEnvC scope cl C X.env,outer:=X.stack,ex:=fp,fn:=λ_=>false,pn:=pn,xe:=λ_ _=>False }
section
variable {X:Cx}{pins:List (Aj×Obj)}{σ:St}{H:Hp}{s2:Ab}{scope:Scope}{cl:List (Str×Aj)}{x y:Str}{M:List Nat}{fp:List Aj}{C:Aj}{h1:Heap}{tk:Nat}
theorem Inv.comp2 (I:Inv X pins σ H s2)(hc:CapAll X.env cl)(hh:HasAll cl scope.names)(hm:CapIx X scope cl M)(hk:scope.kind=.function)(hC:s2.heap.objs.size<C)
  (keep:∀b o,s2.heap.get? b=some o→h1.get? b=some o) (hn:h1.Ns C λ_=>none) (hD:h1.get? s2.heap.objs.size=some { cls:=.type "list",data:=.seq #[] 0 })
  (hfp:∀b∈fp,jj X pins H b) (hob:∀b∈fp,∃o,s2.heap.get? b=some o) :
  Inv (vk X scope cl x y M C s2 H fp (X.pn++pins)) [] (yd M σ none none) (upd H s2.heap.objs.size (.lst [])) { s2 with heap:=h1,toks:=tk }:=I.compG (xs:=[x,y]) hc hh hm hk hC keep hn ⟨aE _,[],0,.nil,hD⟩ hfp hob
theorem Inv.uncomp2 {pins':List (Aj×Obj)}{σ':St}{H':Hp}{s':Ab}{h':Heap}(I:Inv X pins σ H s2)(hC:s2.heap.objs.size≤C)(hfp:∀b∈fp,jj X pins H b)
  (J:Inv (vk X scope cl x y M C s2 H fp (X.pn++pins)) pins' σ' H' s') (hs:Heap.SameBut C s'.heap h'):Inv X pins σ H' { s' with heap:=h' }:=by
 have hb:=J.base
 have nC:∀b o,s2.heap.get? b=some o→b≠C:=λb o e=>ax (aD (ak e) hC)
 have st:∀b o,b≠C→s'.heap.get? b=some o→h'.get? b=some o:=λb o n e=>(hs.2 b n).trans e
 refine I.call' (s':={ s' with heap:=h' }) (ch:=fp) J.os ⟨λb o e n nb nx=>st b o (nC b o e) (hb.keep b o e n nb nx),λb o e n hb' nx=>?_,hb.free,λb o e nx=>?_,hb.tups,hb.frzs,hb.tbls⟩ ?_ J.bare λb hbf=>?_
 ·obtain ⟨sl,e1⟩:=hb.slot b o e n hb' nx
  exact ⟨sl,st b _ (nC b o e) e1⟩
 ·obtain ⟨o',e1⟩:=hb.there b o e nx
  exact ⟨o',st b _ (nC b o e) e1⟩
 ·intro b u hu
  have fr:H' C=none:=J.free
  refine (J.hok b u hu).stay (λc v hc e=>st c v ?_ e) (λ_ z=>z) λ_ _ z=>z
  rcases hc with rfl|hc
  ·intro z;rw [z,fr] at hu;cases hu
  ·intro z;rw [z,fr] at hc;cases hc
 ·obtain ⟨q1,q2,q3,q4,q5,q6⟩:=hfp b hbf
  exact ⟨q4,q2,q5,q6⟩
end
section
variable {X:Cx}{elt iter iter2:Expr}{x y:Str}{px py pos:Pos}{scope:Scope}{cl:List (Str×Aj)}{M:List Nat}{wi wi2:TI}{te:TE}
end
section
variable {X:Cx}{elt iter iter2:Expr}{x y2:Str}{px py2 pos:Pos}{scope:Scope}{cl:List (Str×Aj)}{M:List Nat}{wi wi2:TI}{te:TE}
end
end L2
namespace L2
open PySem PySem.Spec PyProof.Rows
theorem wz1 {X:Cx}{K:Aa}(hK:X.K=K):IxR X (rIxT K):=by
 subst hK
 exact zb
end L2
namespace L2
open PySem PySem.Spec PyProof.Rows
section
variable {X:Cx}{pins:List (Aj×Obj)}{σ:St}{H:Hp}{s:Ab}{h':Heap}{ch:List Aj}
theorem Inv.turnedL {tk:Nat}(I:Inv X pins σ H s)(hk:∀b u,b∉ch→s.heap.get? b=some u→h'.get? b=some u)(hf:∀b∈ch,jj X pins H b):Inv X pins σ H { s with heap:=h',toks:=tk }:=by
 refine I.call' (s':={ s with heap:=h',toks:=tk }) (ch:=ch) rfl ⟨λb o e n _ nx=>hk b o nx e,λb o e n _ nx=>⟨o.slots,hk b o nx e⟩,λb o e n _=>n,λb o e nx=>⟨o,hk b o nx e⟩,λ_ _ e=>e,λ_ _ _ e=>e,λb ps e=>⟨#[],by rw [e];simp⟩⟩ ?_ I.bare λb hb=>?_
 ·intro b u hu
  refine (I.hok b u hu).stay (λc v hc e=>hk c v (λz=>?_) e) (λ_ z=>z) λ_ _ z=>z
  have:=(hf c z).1
  rcases hc with rfl|hc
  ·rw [this] at hu;cases hu
  ·rw [this] at hc;cases hc
 ·obtain ⟨q1,q2,q3,q4,q5,q6⟩:=hf b hb
  exact ⟨q4,q2,q5,q6⟩
theorem Inv.turnedT {tk:Nat}{o:HO}{ob:Obj}(I:Inv X pins σ H s)(hk:∀b u,b∉ch→s.heap.get? b=some u→h'.get? b=some u)(hn:h'.get? s.heap.objs.size=some ob)(hf:∀b∈ch,jj X pins H b)(hc:∀b∈ch,b≠s.heap.objs.size)
  (ok:ObjOk X.prog X.w (upd H s.heap.objs.size o) (s.heap.push ob) s.heap.objs.size o) (fr:ob.isFreed=false):Inv X pins σ (upd H s.heap.objs.size o) { s with heap:=h',toks:=tk }:=by
 have I1:Inv X pins σ (upd H s.heap.objs.size o) { s with heap:=s.heap.push ob,toks:=tk }:=I.laid (t':=tk) (λb u e=>af _ e) (ah _) ok
 refine Inv.turnedL (s:={ s with heap:=s.heap.push ob,toks:=tk }) (ch:=ch) I1 (λb u nb e=>?_) λb hb=>?_
 ·rcases Heap.get?_push_cases e with ⟨rfl,rfl⟩|e
  ·exact hn
  ·exact hk b u nb e
 ·obtain ⟨q1,q⟩:=hf b hb
  exact ⟨by rw [wz (hc b hb)];exact q1,q⟩
theorem qjy {x y:V}{u v:Ag}(I:Inv X pins σ H s)(rx:RelV x u)(ry:RelV y v):ObjOk X.prog X.w (upd H s.heap.objs.size (.tup [x,y])) (s.heap.push { cls:=.type "tuple",data:=.seq #[u,v] }) s.heap.objs.size (.tup [x,y]):=by
 refine ⟨by show 2≤sizeLine;decide,[u,v],.cons rx (.cons ry .nil),?_⟩
 exact ⟨_,ar _ rfl,rfl,_,rfl⟩
end
section
variable {X:Cx}
end
def ItE (K:Aa)(a:Aj)(xs:List V):It :=
 ⟨λi H=>SqL K H a xs∧i<xs.length,λi H v H'=>∃q x,H q=none∧v=.ref q∧xs[i]?=some x∧H'=upd H q (.tup [.int (i:Nat),x]),λi H=>SqL K H a xs∧xs.length≤i⟩
theorem qug {P:Ac}{w:Ah}{K:Aa}{es:List Expr}{k:Nat}{pos:Pos}(a z it:Aj)(xs:List V)(ap:z≠it):Turn P w K (.Tuple es k pos) (ItE K a xs) [z,it] z
  (λi h=>i≤xs.length∧(∃old,IsEnum h z it (i:Nat) old)∧h.IsListIter it a i) where
 mem:=by simp
 obj:=λi h st c hc=>by
  obtain ⟨_,⟨old,h1⟩,⟨o4,h4,c4,d4⟩⟩:=st
  have hc':c=z∨c=it:=by simpa using hc
  rcases hc' with rfl|rfl
  ·exact ⟨_,h1,λv z=>by cases z⟩
  ·exact ⟨_,h4,λv z=>by rw [d4] at z;cases z⟩
 keep:=λi h h' st k=>by
  obtain ⟨l,⟨old,h1⟩,h4⟩:=st
  exact ⟨l,⟨old,k z (by simp) _ h1⟩,h4.at λo e=>k it (by simp) o e⟩
 item:=by
  intro X hP hw hK hc i pins s σ H E I hf st hg
  subst hP hw hK
  obtain ⟨hq1,l1⟩:=hg
  obtain ⟨its,rv,p,hz⟩:=I.list hq1
  have e1:xs[i]?=some xs[i]:=ag l1
  obtain ⟨u,hu,ru⟩:=rv.get e1
  obtain ⟨_,⟨old,h1⟩,h4⟩:=st
  refine wpAny_pyNext_enum_item h1 h4 p.isList (x:=u) (by simpa using hu) ap λh' g1 g2 g3 g4 g5=>?_
  refine ⟨_,rfl,wpAny_letOwnedTupleGo_enum (s:={ s with heap:=h',toks:=s.toks+1 }) g1 λh'' f1 f2=>?_⟩
  have hsz:∀c,c∈[z,it]→c≠s.heap.objs.size:=λc hc e=>by
   have hc':c=z∨c=it:=by simpa using hc
   have hlt:c<s.heap.objs.size:=by
    rcases hc' with rfl|rfl
    ·exact ak h1
    ·obtain ⟨o,e,_⟩:=h4;exact ak e
   exact aV _ (e▸hlt)
  have keepz:∀c o,c≠z→h'.get? c=some o→h''.get? c=some o:=λc o nc e=>(f2.2 c nc).trans e
  have keep:∀c o,c∉[z,it]→s.heap.get? c=some o→h''.get? c=some o:=λc o nc e=>by
   simp only [am,ao,bv,not_or] at nc
   exact keepz c o nc.1 (g5 c o nc.1 nc.2 e)
  have new:h''.get? s.heap.objs.size=some { cls:=.type "tuple",data:=.seq #[.int (i:Nat) s.toks,u] }:=keepz _ _ (aU (hsz z (by simp))) g3
  refine ⟨.ref s.heap.objs.size,_,Inv.turnedT (s:=s) (ch:=[z,it]) (tk:=s.toks+1) I keep new hf hsz (qjy I (show RelV (.int (i:Nat)) (.int (i:Nat) s.toks) from ⟨_,rfl⟩) ru) rfl,rfl,⟨_,_,I.hok.fresh (ah _),rfl,e1,rfl⟩,⟨by lia,⟨u,?_⟩,g2.at λo e=>keepz _ _ (aU ap) e⟩,λc hc=>?_⟩
  ·rw [show (((i+1:Nat):Nat):Int)=(i:Int)+1 by lia]
   exact f1
  ·rw [wz (hsz c hc)]
   exact (hf c hc).1
 done:=by
  intro X hP hw hK hc i pins s σ H E I hf st hg
  subst hP hw hK
  obtain ⟨hq1,le⟩:=hg
  obtain ⟨its,rv,p,hz⟩:=I.list hq1
  have hl:=rv.length
  obtain ⟨_,⟨old,h1⟩,h4⟩:=st
  refine wpAny_pyNext_enum_end (I.ok.hd hc) h1 h4 p.isList (bO (by rw [az];lia)) λh' g=>⟨rfl,Inv.turnedL (ch:=[z,it]) (tk:=s.toks) I (λc o nc e=>?_) hf⟩
  simp only [am,ao,bv,not_or] at nc
  exact g c o nc.2 e
 self:=λ_ _ _ _ _ st h=>let ⟨_,⟨_,e⟩,_⟩:=st;wpAny_pyIter_enum e h
section
variable {X:Cx}
def iEnum (K:Aa)(ta:TA):TI:=λσ H R=>ta σ H λvs H1=>∃a xs,vs=[.ref a]∧SqL K H1 a xs∧R (ItE K a xs) H1
theorem wv3 {a:Expr}{ta:TA}{p pos:Pos}{es:List Expr}{k:Nat}{tpos:Pos}(hg:Gl X "enumerate")(hm:X.mg "enumerate" = none)(ha:PA X [a] ta)(hv:bootBuiltins "enumerate" = some (.type "enumerate"):=by rfl)
  (hs:starEach [a] X.env=[(false,eval a X.env)]:=by rfl):PI X (.Tuple es k tpos) (.Call (.Name "enumerate" p) [a] [] pos) (iEnum X.K ta):=by
 intro pins s σ H R I h
 refine Call_ (Wc I hg hm hv (bM (thn (ha pos pins s σ H _ I h) λus s1 ⟨vs,H1,I1,r1,q1⟩=>?_) hs rfl))
 obtain ⟨a,xs,e,hq1,q⟩:=q1
 subst e
 cases r1 with
 |cons r rr =>
   cases rr
   cases r
   obtain ⟨its,rv,p,hz⟩:=I1.list hq1
   refine call_enumerate_list p.isList λh' g1 g4 g6 g7=>?_
   refine wpAny_pyIter_enum g1 ?_
   have I2:Inv X pins σ H1 { s1 with heap:=h' }:=I1.kept (t':=s1.toks) g7
   refine ⟨s1.heap.objs.size+1,[s1.heap.objs.size+1,s1.heap.objs.size],_,_,H1,rfl,I2,qug a _ _ xs (Nat.succ_ne_self _),⟨aE _,⟨_,g1⟩,g4⟩,λc hc=>?_,q⟩
   have hc':s1.heap.objs.size≤c:=by
    have:c=s1.heap.objs.size+1∨c=s1.heap.objs.size:=by simpa using hc
    rcases this with e | e <;> (rw [e];first | exact ah _ | exact Nat.le_add_right _ _)
   exact I1.fpOk hc' (I1.hok.fresh hc')
end
def qk0 (J:It)(M:List Nat)(gg:TG)(te:TE)(σ:St)(H1:Hp)(Q:VK):Prop:=∀p,H1 p=none→∃W:Nat→Nat→List V→Hp→Prop,(∃m,W 0 m [] (upd H1 p (.lst []))) ∧
 ∀i m ys H2,W i m ys H2→H2 p=some (.lst ys)∧ys.length<sizeLine∧((J.stop i H2∧Q (.ref p) H2)∨(J.go i H2∧∀v H3,J.yld i H2 v H3 →
  gg v (yd M σ none none) H3 λσ4 H4=>(∃a b,σ4=yd M σ (some a) (some b))∧te σ4 H4 λy H5=>H5 p=some (.lst ys)∧∃m',m'<m∧W (i+1) m' (ys++[y]) (upd H5 p (.lst (ys++[y])))))
def tCompP (M:List Nat)(wi:TI)(gg:TG)(te:TE):TE:=λσ H Q=>wi σ H λJ H1=>qk0 J M gg te σ H1 Q
section
variable {X:Cx}{elt iter tg:Expr}{x y2:Str}{pos:Pos}{scope:Scope}{cl:List (Str×Aj)}{M:List Nat}{wi:TI}{gg:TG}{te:TE}
theorem quc (hc:X.calm=true)(hclos:closureFor scope X.env=pure cl)(hcap:CapAll X.env cl)(hhas:HasAll cl scope.names)(hix:CapIx X scope cl M)(hk:scope.kind=.function)
  (hnames:∀y∈scope.names,y.2=.local→scope.names.lookup y.1=some .local) (hg:∀C s2 H2 fp pn,PG (vk X scope cl x y2 M C s2 H2 fp pn) tg gg) (hi:PI X tg iter wi)
  (he:∀C s2 H2 fp pn,PE (vk X scope cl x y2 M C s2 H2 fp pn) elt te) (hs:∀z,foldedSetIterable iter X.env z=pure z)
  {use:Option (Ag→Sem Unit)} {QQ:Ag→Ab→Prop} {pins:List (Aj×Obj)} {s:Ab} {σ:St} {H:Hp} {Q:VK} {ps:Pos} (I:Inv X pins σ H s) (h:wi σ H λJ H1=>qk0 J M gg te σ H1 Q)
  (fin:∀(C:Aj) (s2 s4:Ab) (H1 H2:Hp) (fp:List Aj),Inv X pins σ H1 s2→s2.heap.objs.size<C→(∀b∈fp,jj X pins H1 b)→Inv (vk X scope cl x y2 M C s2 H1 fp (X.pn++pins)) [] (yd M σ none none) H2 s4→Q (.ref s2.heap.objs.size) H2 →
   compPost (model X.prog X.w) X.A X.xe use QQ (.ref s2.heap.objs.size) C (.ok .next) s4) :
  wpAny (model X.prog X.w) X.A (comprehension (.ListComp elt [⟨tg,iter,[],0⟩] scope pos) scope X.env ps (newList []) false (eval iter X.env) use) QQ X.xe s:=by
 refine cR (use:=use) rfl hs hclos hk hnames ?_
 refine thn (hi pins s σ H _ I h) λv s1 h1=>thn h1 λitv s2 h2=>?_
 obtain ⟨it,fp,tn,J,H1,rfl,I2,T,t0,hfp,hR⟩:=h2
 have hob:∀b∈fp,∃o,s2.heap.get? b=some o∧∀v,o.data≠.cell v:=T.obj 0 _ t0
 obtain ⟨W,⟨m0,w0⟩,hW⟩:=hR s2.heap.objs.size (I2.hok.fresh (ah _))
 refine bG ?_
 refine dz hhas.nocell (by intro y hy;cases hy) (λh3 hns hsb=>?_) hk
 dsimp only at hns hsb ⊢
 generalize hH2:s2.heap.push { cls:=.type "list",dict:=none,data:=.seq ([]:List Ag).toArray }=G2 at hns hsb ⊢
 have hC:G2.objs.size=s2.heap.objs.size+1:=by rw [←hH2,da]
 have hlt:s2.heap.objs.size<G2.objs.size:=by lia
 have keep:∀b o,s2.heap.get? b=some o→h3.get? b=some o:=λb o e=>by
  have hb:b≠G2.objs.size:=ax (bt (ak e) hlt)
  rw [hsb.2 b hb]
  exact af _ (hH2▸af _ e)
 have hD:h3.get? s2.heap.objs.size=some { cls:=.type "list",data:=.seq #[] 0 }:=by
  rw [hsb.2 _ (ax hlt)]
  exact af _ (hH2▸ar _ rfl)
 have hns':h3.Ns G2.objs.size λ_=>none:=hns
 have J0:∀tk,Inv (vk X scope cl x y2 M G2.objs.size s2 H1 fp (X.pn++pins)) [] (yd M σ none none) (upd H1 s2.heap.objs.size (.lst [])) { s2 with heap:=h3,toks:=tk }:=λtk =>
  I2.comp2 hcap hhas hix hk hlt keep hns' hD hfp λb hb=>let ⟨o,e,_⟩:=hob b hb;⟨o,e⟩
 have hbl:∀b∈fp,b<s2.heap.objs.size:=λb hb=>let ⟨o,e,_⟩:=hob b hb;ak e
 have fok:∀(H2:Hp),(∀b∈fp,H2 b=none)→∀b∈fp,jj (vk X scope cl x y2 M G2.objs.size s2 H1 fp (X.pn++pins)) [] H2 b:=λH2 hn b hb=>by
  obtain ⟨q1,q2,q3,q4,q5,q6⟩:=hfp b hb
  refine ⟨hn b hb,ax (bt (hbl b hb) hlt),λz=>?_,.inl hb,λy c e=>q5 y c (hcap.look e),λp hp=>q6 p ((aZ.mp hp).elim (λz=>z) λz=>nomatch z)⟩
  rcases am.mp (I2.stkSub b z) with z|z
  ·exact q2 z
  ·exact q3 z
 have loop:∀tk,codeAny (model X.prog X.w) X.A (.compLoop (.ListComp elt [⟨tg,iter,[],0⟩] scope pos) 0 (.ref it) (.ref s2.heap.objs.size) (compEnvC scope cl G2.objs.size X.env))
   (compPost (model X.prog X.w) X.A X.xe use QQ (.ref s2.heap.objs.size) G2.objs.size) { s2 with heap:=h3,toks:=tk }:=λtk=>by
  refine codeAny_loop rfl (λn s3=>∃i ys H2,W i n ys H2∧Inv (vk X scope cl x y2 M G2.objs.size s2 H1 fp (X.pn++pins)) [] (yd M σ none none) H2 s3∧tn i s3.heap∧∀b∈fp,H2 b=none) (λn s3 hI=>?_) m0
   ⟨0,[],_,w0,J0 tk,T.keep 0 _ _ t0 λb _ o e=>keep b o e,λb hb=>by rw [wz (ax (hbl b hb))];exact (hfp b hb).1⟩
  obtain ⟨i,ys,H2,w,J2,t,nf2⟩:=hI
  show wpAny _ _ ((compTurn (.ListComp elt [⟨tg,iter,[],0⟩] scope pos) 0 (.ref it) (.ref s2.heap.objs.size) (compEnvC scope cl G2.objs.size X.env)).onRaise λz=>do noteFrame z (compEnvC scope cl G2.objs.size X.env);theTreesLotGoes z) _ _ s3
  refine wpAny_noted ?_
  rw [compTurn_list1]
  refine ac (cQ (ac ?_))
  obtain ⟨hp,hz,hcase⟩:=hW i n ys H2 w
  rcases hcase with ⟨hst,hq⟩|⟨hgo,hy⟩
  ·refine aL (T.done (vk X scope cl x y2 M G2.objs.size s2 H1 fp (X.pn++pins)) rfl rfl rfl hc i [] s3 _ H2 (λ_ _=>False) J2 (fok H2 nf2) t hst) (λr s4 hr=>?_) λ_ _ z=>z.elim
   obtain ⟨rfl,J4⟩:=hr
   refine aj ?_
   exact fin G2.objs.size s2 s4 H1 H2 fp I2 hlt hfp J4 hq
  ·refine aL (T.item (vk X scope cl x y2 M G2.objs.size s2 H1 fp (X.pn++pins)) rfl rfl rfl hc i [] s3 _ H2 (λ_ _=>False) J2 (fok H2 nf2) t hgo) (λr s4 hr=>?_) λ_ _ z=>z.elim
   obtain ⟨u,rfl,hw⟩:=hr
   refine ac (aL hw (λ_ s5 hr5=>?_) λ_ _ z=>z.elim)
   obtain ⟨v,H3,J5,rv,yl,t5,nf⟩:=hr5
   have J5p:=J5.pinned (fok H3 nf) (T.obj _ _ t5)
   refine ac (aL (hg G2.objs.size s2 H1 fp (X.pn++pins) _ s5 _ H3 v u _ J5p rv (hy v H3 yl)) (λ_ s6 hr6=>?_) λ_ _ z=>z.elim)
   obtain ⟨σ6,H6,J6,⟨a6,b6,rfl⟩,hte⟩:=hr6
   refine ac (ac (aL (he _ _ _ _ _ _ s6 _ H6 _ J6 hte) (λyv s7 hr7=>?_) λ_ _ z=>z.elim))
   obtain ⟨y,H4,J7,ry,hp4,m',hm',w'⟩:=hr7
   refine ac (aL (jy (X:=vk X scope cl x y2 M G2.objs.size s2 H1 fp (X.pn++pins)) _ s7 _ H4 (.ref s2.heap.objs.size) [y] (.ref s2.heap.objs.size) [yv] (λ_ H8=>H8=upd H4 s2.heap.objs.size (.lst (ys++[y]))) J7 rfl (.cons ry .nil) ⟨_,ys,y,rfl,rfl,hp4,hz,rfl⟩) (λ_ s8 hr8=>?_) λ_ _ z=>z.elim)
   obtain ⟨_,H8,J8,_,rfl⟩:=hr8
   refine aj (aj ⟨rfl,m',hm',i+1,ys++[y],_,w',?_,?_,?_⟩)
   ·refine (J8.unpinned (pins:=[])).weak rfl λk z ez=>?_
    match k,ez with
    |0,ez=>cases ez
    |1,ez=>cases ez
    |k+2,ez=>exact ez
   ·exact T.keep _ _ _ t5 λb hb o e=>(J8.pin (b,o) (aB _ (aB _ (kh hb e)))).1
   ·intro b hb
    obtain ⟨o,e,_⟩:=T.obj _ _ t5 b hb
    exact (J8.pin (b,o) (aB _ (aB _ (kh hb e)))).2.1
 exact codeAny_compStart_list (loop _) (T.self _ 0 _ _ _ (T.keep 0 _ _ t0 λb _ o e=>keep b o e) (loop _))
theorem wxq (hc:X.calm=true)(hclos:closureFor scope X.env=pure cl)(hcap:CapAll X.env cl)(hhas:HasAll cl scope.names)(hix:CapIx X scope cl M)(hk:scope.kind=.function)
  (hnames:∀y∈scope.names,y.2=.local→scope.names.lookup y.1=some .local) (hg:∀C s2 H2 fp pn,PG (vk X scope cl x y2 M C s2 H2 fp pn) tg gg) (hi:PI X tg iter wi)
  (he:∀C s2 H2 fp pn,PE (vk X scope cl x y2 M C s2 H2 fp pn) elt te) (hs:∀z,foldedSetIterable iter X.env z=pure z:=by intro _;rfl) :
  PE X (.ListComp elt [⟨tg,iter,[],0⟩] scope pos) (tCompP M wi gg te):=by
 intro pins s σ H Q I h
 rw [eval_ListComp]
 refine quc hc hclos hcap hhas hix hk hnames hg hi he hs (use:=none) I h λC s2 s4 H1 H2 fp I2 hlt hfp J4 hq=>?_
 obtain ⟨m,hn,_⟩:=J4.loc
 exact ⟨m,hn,λh' hs'=>⟨.ref s2.heap.objs.size,H2,I2.uncomp2 (bC hlt) hfp J4 hs',rfl,hq⟩⟩
end
theorem wzr {X:Cx}{K:Aa}{pos:Pos}{es:List Expr}{k:Nat}{t:TGs}{n:Nat}(hK:X.K=K)(hc:X.calm=true)(h:PGs X es t)(h1:(assignEach es X.env).length=n:=by rfl)(h2:List.findIdx? (λx=>x.fst) (assignEach es X.env)=none:=by rfl):PG X (.Tuple es k pos) (gTup K n t):=by
 subst hK
 exact v4 hc h h1 h2
end L2
namespace L2
open PySem PySem.Spec PyProof.Rows PySem.W
def Fz (H:Hp)(d:Aj)(o:Obj)(kvs:List (Key×V))(H':Hp):Prop:=H' d=some (.frz o (.dK kvs))∧∀b,b≠d→H' b=H b
section
variable {X:Cx}{pins:List (Aj×Obj)}{σ:St}{H:Hp}{s:Ab}{d:Aj}{kvs:List (Key×V)}
theorem Inv.freeze {o:Obj}(I:Inv X pins σ H s)(e:H d=some (.dK kvs))(ho:s.heap.get? d=some o):Inv X pins σ (upd H d (.frz o (.dK kvs))) s:=by
 obtain ⟨z,hd,vs,rel,dd⟩:=qqs I.hok e
 exact Inv.write (t':=s.toks) (h':=s.heap) I (by rw [e];exact trivial) (.inl rfl) (λ_ _ _ e=>e) ⟨o,ho⟩ ⟨ho,Ys z hd rel dd⟩
theorem Wf {o:Obj}(I:Inv X pins σ H s)(e:H d=some (.frz o (.dK kvs))):kvs.length≤sizeLine∧(d==sysModules)=false∧s.heap.get? d=some o∧∃vs es ep,KV kvs vs∧o.data=.dict es ep∧s.heap.DictAt (xu X.prog X.w) d vs ep:=by
 obtain ⟨ho,z,hd,vs,rel,dd⟩:=(show ObjOk X.prog X.w H s.heap d (.frz o (.dK kvs)) from I.hok d _ e)
 obtain ⟨o',es,ep,h1,h2,h3,h4⟩:=id dd
 have:o'=o:=aw (h1.symm.trans ho)
 subst this
 exact ⟨z,hd,ho,vs,es,ep,rel,h3,o',es,h1,h2,h3,h4⟩
theorem Inv.freezeRd (I:Inv X pins σ H s)(e:Rd H d (.dK kvs)):∃o H',Fz H d o kvs H'∧Inv X pins σ H' s:=by
 rcases e with e|⟨o,e⟩
 ·obtain ⟨z,hd,vs,rel,o,es,ep,ho,r⟩:=qqs I.hok e
  exact ⟨o,_,⟨qm,λb nb=>wz nb⟩,I.freeze e ho⟩
 ·exact ⟨o,H,⟨e,λ_ _=>rfl⟩,I⟩
theorem wwz {P:Ac}{w:Ah}{k:Key}{u:Ag}(h:(xu P w).is k u=true):RelV (kV k) u:=by
 rcases zk (show Yg k u=true from h) with ⟨i,t,rfl,rfl⟩|⟨x,t,rfl,rfl⟩
 ·exact ⟨t,rfl⟩
 ·exact ⟨t,rfl⟩
end
def ItD (d:Aj)(o:Obj)(kvs:List (Key×V)):It :=
 ⟨λi H=>H d=some (.frz o (.dK kvs))∧i<kvs.length,λi H v H'=>H'=H∧∃p,kvs[i]?=some p∧v=kV p.1,λi H=>H d=some (.frz o (.dK kvs))∧kvs.length≤i⟩
theorem qkt {kvs:List (Key×V)}{vs:List (Key×Ag)}(r:KV kvs vs){i:Nat}{p:Key×V}(e:kvs[i]?=some p):∃q,vs[i]?=some (p.1,q)∧RelV p.2 q:=by
 induction r generalizing i with
 |nil=>cases e
 |cons h t ih =>
  cases i with
  |zero =>
   cases e
   obtain ⟨h1,h2⟩:=h
   rename_i b _ _
   exact ⟨b.2,by show some b=some (_,b.2);rw [h1],h2⟩
  |succ i=>exact ih e
theorem wz6 {P:Ac}{w:Ah}{K:Aa}{tg:Expr}{d it:Aj}{o:Obj}{kvs:List (Key×V)}{ep:Nat}(hep:∃es,o.data=.dict es ep):Turn P w K tg (ItD d o kvs) [it] it (λi h=>h.IsKeyIter it d i kvs.length ep) where
 mem:=by simp
 obj:=λi h st b hb=>by
  have e:b=it:=by simpa using hb
  subst e
  obtain ⟨ob,e,c,dd⟩:=st
  exact ⟨ob,e,λv z=>by rw [dd] at z;cases z⟩
 keep:=λi h h' st k=>st.at λob e=>k it (by simp) ob e
 item:=by
  intro X hP hw hK hc i pins s σ H E I hf st hg
  subst hP hw hK
  obtain ⟨hq,hi⟩:=hg
  obtain ⟨z,hd,ho,vs,es,ep',rel,h3,dd⟩:=Wf I hq
  obtain ⟨es2,h4⟩:=hep
  have:ep'=ep:=by rw [h3] at h4;cases h4;rfl
  subst this
  have e1:kvs[i]?=some kvs[i]:=ag hi
  obtain ⟨q,eq,rq⟩:=qkt rel e1
  have hl:vs.length=kvs.length:=(be rel).symm
  obtain ⟨f0,f1,f2,f3,f4,f5⟩:=hf it (by simp)
  refine wpAny_pyNext_dict_item (by rw [hl];exact st) dd eq λkey h' hk st' sb=>?_
  have I1:Inv X pins σ H { s with heap:=h' }:=I.turned (t':=s.toks) (λb o hb e=>(sb.2 b hb).trans e) f0 f1 f3 f4 f5
  rw [hl] at st'
  obtain ⟨ob,e,c,d'⟩:=id st'
  exact ⟨key,rfl,qzw (s:={ s with heap:=h' }) e c d' (by decide) ⟨_,H,I1,wwz hk,⟨rfl,_,e1,rfl⟩,st',λb hb=>(hf b hb).1⟩⟩
 done:=by
  intro X hP hw hK hc i pins s σ H E I hf st hg
  subst hP hw hK
  obtain ⟨hq,hi⟩:=hg
  obtain ⟨z,hd,ho,vs,es,ep',rel,h3,dd⟩:=Wf I hq
  obtain ⟨es2,h4⟩:=hep
  have:ep'=ep:=by rw [h3] at h4;cases h4;rfl
  subst this
  have hl:vs.length=kvs.length:=(be rel).symm
  obtain ⟨f0,f1,f2,f3,f4,f5⟩:=hf it (by simp)
  exact wpAny_pyNext_dict_end (I.ok.hd hc) (by rw [hl];exact st) dd (aY (by lia)) λh' eb=>⟨rfl,I.turned (t':=s.toks) (λb o hb e=>eb b o hb e) f0 f1 f3 f4 f5⟩
 self:=λ_ _ _ _ _ st h=>wpAny_pyIter_keyiter st h
def ItDI (d:Aj)(o:Obj)(kvs:List (Key×V)):It :=
 ⟨λi H=>H d=some (.frz o (.dK kvs))∧i<kvs.length,λi H v H'=>∃q p,H q=none∧v=.ref q∧kvs[i]?=some p∧H'=upd H q (.tup [kV p.1,p.2]),λi H=>H d=some (.frz o (.dK kvs))∧kvs.length≤i⟩
theorem wz7 {P:Ac}{w:Ah}{K:Aa}{xs:List Expr}{k:Nat}{pos:Pos}{d it:Aj}{o:Obj}{kvs:List (Key×V)}{ep:Nat}(hep:∃es,o.data=.dict es ep):Turn P w K (.Tuple xs k pos) (ItDI d o kvs) [it] it (λi h=>∃ok ov,IsItemIter h it d i kvs.length ep ok ov) where
 mem:=by simp
 obj:=λi h st b hb=>by
  have e:b=it:=by simpa using hb
  subst e
  obtain ⟨ok,ov,e⟩:=st
  exact ⟨_,e,λv z=>by cases z⟩
 keep:=λi h h' st k=>by
  obtain ⟨ok,ov,e⟩:=st
  exact ⟨ok,ov,k it (by simp) _ e⟩
 item:=by
  intro X hP hw hK hc i pins s σ H E I hf st hg
  subst hP hw hK
  obtain ⟨hq,hi⟩:=hg
  obtain ⟨z,hd,ho,vs,es,ep',rel,h3,dd⟩:=Wf I hq
  obtain ⟨es2,h4⟩:=hep
  have:ep'=ep:=by rw [h3] at h4;cases h4;rfl
  subst this
  have e1:kvs[i]?=some kvs[i]:=ag hi
  obtain ⟨q,eq,rq⟩:=qkt rel e1
  have hl:vs.length=kvs.length:=(be rel).symm
  obtain ⟨ok,ov,st⟩:=st
  refine wpAny_pyNext_items_item (by rw [hl];exact st) dd eq λkey h' hk g1 g2 g3 g4=>?_
  refine ⟨_,rfl,wpAny_letOwnedTupleGo_items (s:={ s with heap:=h' }) g1 λh'' j1 j2=>?_⟩
  have ne:it≠s.heap.objs.size:=ax (ak st)
  have new:h''.get? s.heap.objs.size=some { cls:=.type "tuple",data:=.seq #[key,q] }:=(j2.2 _ (aU ne)).trans g2
  refine ⟨.ref s.heap.objs.size,_,Inv.turnedT (s:=s) (ch:=[it]) (tk:=s.toks) I (λb u nb e=>?_) new hf (λb hb=>?_) (qjy I (wwz hk) rq) rfl,rfl,⟨_,_,I.hok.fresh (ah _),rfl,e1,rfl⟩,⟨_,_,by rw [←hl];exact j1⟩,λb hb=>?_⟩
  ·have nb:b≠it:=by simpa using nb
   exact (j2.2 b nb).trans (g4 b u nb e)
  ·have e:b=it:=by simpa using hb
   rw [e];exact ne
  ·have e:b=it:=by simpa using hb
   rw [e,wz ne];exact (hf it (by simp)).1
 done:=by
  intro X hP hw hK hc i pins s σ H E I hf st hg
  subst hP hw hK
  obtain ⟨hq,hi⟩:=hg
  obtain ⟨z,hd,ho,vs,es,ep',rel,h3,dd⟩:=Wf I hq
  obtain ⟨es2,h4⟩:=hep
  have:ep'=ep:=by rw [h3] at h4;cases h4;rfl
  subst this
  have hl:vs.length=kvs.length:=(be rel).symm
  obtain ⟨f0,f1,f2,f3,f4,f5⟩:=hf it (by simp)
  obtain ⟨ok,ov,st⟩:=st
  exact wpAny_pyNext_items_end (I.ok.hd hc) (by rw [hl];exact st) dd (aY (by lia)) λh' eb=>⟨rfl,I.turned (t':=s.toks) (λb o hb e=>eb b o hb e) f0 f1 f3 f4 f5⟩
 self:=λ_ _ _ _ _ st h=>by
  obtain ⟨ok,ov,e⟩:=st
  exact kcp_self e h
section
variable {X:Cx}{tg l:Expr}{tl:TE}
def iDk (tl:TE):TI:=λσ H R=>tl σ H λx H1=>∃d kvs,x=.ref d∧Rd H1 d (.dK kvs)∧∀o H2,Fz H1 d o kvs H2→R (ItD d o kvs) H2
theorem pi_dk (hl:PE X l tl):PI X tg l (iDk tl):=by
 intro pins s σ H R I h
 refine thn (hl pins s σ H _ I h) λv s1 ⟨x,H1,I1,r1,q1⟩=>?_
 obtain ⟨d,kvs,e,rd,q⟩:=q1
 subst e
 cases r1
 obtain ⟨o,H2,fz,I2⟩:=I1.freezeRd rd
 obtain ⟨z,hd,ho,vs,es,ep,rel,h3,dd⟩:=Wf I2 fz.1
 have hl:vs.length=kvs.length:=(be rel).symm
 refine wpAny_pyIter_dict hd dd ?_
 refine ⟨s1.heap.objs.size,[s1.heap.objs.size],_,_,H2,rfl,I2.kept (t':=s1.toks) λb o e=>af _ e,wz6 ⟨es,h3⟩,⟨_,ar _ rfl,rfl,by rw [hl];rfl⟩,λb hb=>?_,q o H2 fz⟩
 have e:b=s1.heap.objs.size:=by simpa using hb
 subst e
 exact I2.fpOk (ah _) (I2.hok.fresh (ah _))
def iDi (tl:TE):TI:=λσ H R=>tl σ H λx H1=>∃d kvs,x=.ref d∧Rd H1 d (.dK kvs)∧∀o H2,Fz H1 d o kvs H2→R (ItDI d o kvs) H2
theorem pi_di {apos cpos tpos:Pos}{xs:List Expr}{k:Nat}(hl:PE X l tl)(hbase:attributeBase l "items" X.env (eval l X.env)=eval l X.env:=by rfl)(hline:(apos.endLine==cpos.line)=true:=by rfl) :
  PI X (.Tuple xs k tpos) (.Call (.Attribute l "items" apos) [] [] cpos) (iDi tl):=by
 intro pins s σ H R I h
 refine wpAny_Call_method0_late hbase hline (thn (hl pins s σ H _ I h) λv s1 ⟨x,H1,I1,r1,q1⟩=>?_)
 obtain ⟨d,kvs,e,rd,q⟩:=q1
 subst e
 cases r1
 obtain ⟨o,H2,fz,I2⟩:=I1.freezeRd rd
 obtain ⟨t1,t2,_⟩:=qku I1 (.inl ⟨kvs,rd⟩)
 obtain ⟨z,hd,ho,vs,es,ep,rel,h3,dd⟩:=Wf I2 fz.1
 have hl:vs.length=kvs.length:=(be rel).symm
 refine ⟨"dict","dict.items",cZ,eK,PySem.F.type_dict_items,t1,t2,bN rfl (PySem.evalArgs_none ?_)⟩
 refine cM eK t1 PySem.F.entry_dict_items (PySem.F.args_dict_items_1 _) (meets_dict_items (xu X.prog X.w) d hd) ⟨⟨vs,dd.dictOf⟩,?_⟩
 have I3:Inv X pins σ H2 { s1 with heap:=s1.heap.push { cls:=.type "dict_items",data:=.fields #[.ref d] } }:=I2.kept (t':=s1.toks) λb o e=>af _ e
 refine wpAny_pyIter_items (s:={ s1 with heap:=s1.heap.push { cls:=.type "dict_items",data:=.fields #[.ref d] } }) ⟨_,ar _ rfl,rfl,rfl⟩ (dd.push _) ?_
 refine ⟨_,[_],_,_,H2,rfl,I3.kept (t':=s1.toks) λb o e=>af _ e,wz7 ⟨es,h3⟩,⟨.none,.none,?_⟩,λb hb=>?_,q o H2 fz⟩
 ·rw [hl]
  exact ar _ rfl
 ·have e:=aq.mp hb
  subst e
  exact I3.fpOk (ah _) (I3.hok.fresh (ah _))
def ItS (x:Str):It:=⟨λi _=>i<x.cps.size,λi H v H'=>H'=H∧v=.str ⟨#[x.cps.getD i 0]⟩,λi _=>x.cps.size≤i⟩
theorem qur {P:Ac}{w:Ah}{K:Aa}{it:Aj}{x:Str}{t:Tok}:Turn P w K tg (ItS x) [it] it (λi h=>h.IsStrIter it "str_ascii_iterator" x t i) where
 mem:=by simp
 obj:=λi h st b hb=>by
  have e:b=it:=by simpa using hb
  subst e
  obtain ⟨ob,e,c,dd⟩:=st
  exact ⟨ob,e,λv z=>by rw [dd] at z;cases z⟩
 keep:=λi h h' st k=>by
  obtain ⟨ob,e,r⟩:=st
  exact ⟨ob,k it (by simp) ob e,r⟩
 item:=by
  intro X hP hw hK hc i pins s σ H E I hf st hg
  subst hP hw hK
  have hg:i<x.cps.size:=hg
  obtain ⟨f0,f1,f2,f3,f4,f5⟩:=hf it (by simp)
  refine wpAny_pyNext_ascii_item st (c:=x.cps.getD i 0) (by rw [dO,bx hg];rfl) λh' st' sb=>?_
  have I1:Inv X pins σ H { s with heap:=h',toks:=s.toks+1 }:=I.turned (t':=s.toks+1) (λb o hb e=>(sb.2 b hb).trans e) f0 f1 f3 f4 f5
  obtain ⟨ob,e,c,d'⟩:=id st'
  exact ⟨_,rfl,qzw (s:={ s with heap:=h',toks:=s.toks+1 }) e c d' (by decide) ⟨.str ⟨#[x.cps.getD i 0]⟩,H,I1,⟨_,rfl⟩,⟨rfl,rfl⟩,st',λb hb=>(hf b hb).1⟩⟩
 done:=by
  intro X hP hw hK hc i pins s σ H E I hf st hg
  subst hP hw hK
  obtain ⟨f0,f1,f2,f3,f4,f5⟩:=hf it (by simp)
  exact wpAny_pyNext_ascii_end (I.ok.hd hc) st (bO hg) λh' eb=>⟨rfl,I.turned (t':=s.toks) (λb o hb e=>eb b o hb e) f0 f1 f3 f4 f5⟩
 self:=λ_ _ _ _ _ st h=>wpAny_pyIter_striter_ascii st h
theorem qyz {P:Ac}{w:Ah}{K:Aa}{it:Aj}{x:Str}{t:Tok}:Turn P w K tg (ItS x) [it] it (λi h=>h.IsStrIter it "str_iterator" x t i) where
 mem:=by simp
 obj:=λi h st b hb=>by
  have e:b=it:=by simpa using hb
  subst e
  obtain ⟨ob,e,c,dd⟩:=st
  exact ⟨ob,e,λv z=>by rw [dd] at z;cases z⟩
 keep:=λi h h' st k=>by
  obtain ⟨ob,e,r⟩:=st
  exact ⟨ob,k it (by simp) ob e,r⟩
 item:=by
  intro X hP hw hK hc i pins s σ H E I hf st hg
  subst hP hw hK
  have hg:i<x.cps.size:=hg
  obtain ⟨f0,f1,f2,f3,f4,f5⟩:=hf it (by simp)
  refine wpAny_pyNext_wide_item st (c:=x.cps.getD i 0) (by rw [dO,bx hg];rfl) λh' st' sb=>?_
  have I1:Inv X pins σ H { s with heap:=h',toks:=s.toks+1 }:=I.turned (t':=s.toks+1) (λb o hb e=>(sb.2 b hb).trans e) f0 f1 f3 f4 f5
  obtain ⟨ob,e,c,d'⟩:=id st'
  exact ⟨_,rfl,qzw (s:={ s with heap:=h',toks:=s.toks+1 }) e c d' (by decide) ⟨.str ⟨#[x.cps.getD i 0]⟩,H,I1,⟨_,rfl⟩,⟨rfl,rfl⟩,st',λb hb=>(hf b hb).1⟩⟩
 done:=by
  intro X hP hw hK hc i pins s σ H E I hf st hg
  subst hP hw hK
  obtain ⟨f0,f1,f2,f3,f4,f5⟩:=hf it (by simp)
  exact wpAny_pyNext_wide_end (I.ok.hd hc) st (bO hg) λh' eb=>⟨rfl,I.turned (t':=s.toks) (λb o hb e=>eb b o hb e) f0 f1 f3 f4 f5⟩
 self:=λ_ _ _ _ _ st h=>wpAny_pyIter_striter_wide st h
def iStr (tl:TE):TI:=λσ H R=>tl σ H λv H1=>∃x,v=.str x∧R (ItS x) H1
theorem pi_str (hl:PE X l tl):PI X tg l (iStr tl):=by
 intro pins s σ H R I h
 refine thn (hl pins s σ H _ I h) λv s1 ⟨v',H1,I1,r1,x,e,q⟩=>?_
 subst e
 obtain ⟨t,rfl⟩:=(show ∃t,v=Value.str x t from r1)
 cases ha:x.cps.all (·<128)
 ·refine wpAny_pyIter_wide ha ⟨s1.heap.objs.size,[s1.heap.objs.size],_,_,H1,rfl,I1.kept (t':=s1.toks) λb o e=>af _ e,qyz (t:=t),⟨_,ar _ rfl,rfl,rfl⟩,λb hb=>?_,q⟩
  have e:=aq.mp hb
  subst e
  exact I1.fpOk (ah _) (I1.hok.fresh (ah _))
 ·refine wpAny_pyIter_ascii ha ⟨s1.heap.objs.size,[s1.heap.objs.size],_,_,H1,rfl,I1.kept (t':=s1.toks) λb o e=>af _ e,qur (t:=t),⟨_,ar _ rfl,rfl,rfl⟩,λb hb=>?_,q⟩
  have e:=aq.mp hb
  subst e
  exact I1.fpOk (ah _) (I1.hok.fresh (ah _))
end
end L2
namespace L2
open PySem
def advN (t:SetTable):Nat→SetTable.Probe→SetTable.Probe
 |0,p=>p
 |n+1,p=>advN t n (t.advance p)
def rs (mask:Nat)(q:Nat×Nat):SetTable.Probe:={ j:=q.1,more:=SetTable.runEnd mask q.1-q.1,i:=q.1,perturb:=q.2,dummy:=none }
theorem qxv:∀(l l':List Nat),l.Nodup→(∀a∈l,a∈l')→l.length≤l'.length
 |[],_,_,_=>aE _
 |a::l,l',hn,hs=>by
  have hn':=ba.mp hn
  have ha:=hs a (.head _)
  have:=qxv l (l'.erase a) hn'.2 λb hb=>(List.mem_erase_of_ne (λz=>by subst z;exact hn'.1 hb)).mpr (hs b (.tail _ hb))
  rw [el,al ha] at this
  have hp:0<l'.length:=List.length_pos_of_mem ha
  rw [aT]
  lia
inductive MetOk (t:SetTable) (p:SetTable.Probe) (N:Nat):SetTable.Met→Prop
 |empty (j:Nat):MetOk t p N (.empty j none)
 |cand (m i:Nat) (hm:m<N) (hs:t.slot (advN t m p).j=.live i):MetOk t p N (.candidate (advN t m p).j i (advN t (m+1) p))
def liveL (mask:Nat)(owner:Array (Option Nat)):List (Nat×Nat):=(List.range (mask+1)).filterMap λj=>(owner.getD j none).map (j,·)
structure OwnI (mask:Nat)(owner:Array (Option Nat))(k:Nat):Prop where
 size:owner.size=mask+1
 len:(liveL mask owner).length=k
 low:∀j v:Nat,owner[j]?=some (some v)→v<k
end L2
namespace L2
open PySem PySem.Spec PyProof.Rows
def Rows (q:Aj)(B:Hp)(L:List (List V))(ys:List V)(H:Hp):Prop:=Paired (λv xs=>∃a,v=.ref a∧a≠q∧B a=none∧H a=some (.lst xs)) ys L
theorem xf {H H':Hp}(s:Same H H'){a:Aj}(n:H' a=none):H a=none:=by
 cases e:H a with
 |none=>rfl
 |some o=>rw [s _ _ e] at n;cases n
def Jq (c:Nat→Bool)(xs:List V)(n:Nat):List V:=((List.range n).filter c).map λi=>xs.getD i .non
theorem qkz {K:Aa}{M:List Nat}{a:Aj}{xs:List V}{tt:TT}{te:TE}{σ:St}{H:Hp}{Q:VK}(c:Nat→Bool)(hS:SqL K H a xs)(hn:xs.length≤1000000)
  (ht:∀(i:Nat) (x:V) (H':Hp) (R:Bool→Hp→Prop),xs[i]?=some x→Same H H'→(∀H'',Same H' H''→R (c i) H'')→tt (zd M σ (some x)) H' R)
  (he:∀(i:Nat) (x:V) (H':Hp) (R:VK),xs[i]?=some x→c i=true→Same H H'→(∀H'',Same H' H''→R x H'')→te (zd M σ (some x)) H' R)
  (k:∀p H',H p=none→Same H H'→H' p=some (.lst (Jq c xs xs.length))→Q (.ref p) H'):qkc (Itl K a) M tt te σ H Q:=by
 intro p np
 refine ⟨λi m ys H2=>i≤xs.length∧m=xs.length-i∧ys=Jq c xs i∧Same H H2∧H2 p=some (.lst ys),⟨xs.length,aE _,rfl,rfl,Same.upd np,qm⟩,?_⟩
 rintro i m ys H2 ⟨hi,rfl,rfl,sm,hp⟩
 refine ⟨hp,?_,?_⟩
 ·unfold Jq
  rw [ae]
  have:=bY c (List.range i)
  rw [aH] at this
  have:(1000000:Nat)<sizeLine:=by decide
  lia
 ·by_cases hlt:i<xs.length
  ·have hx:xs[i]?=some xs[i]:=ag hlt
   refine .inr ⟨⟨xs,_,sm.sql hS,hx⟩,?_⟩
   rintro v H3 ⟨rfl,hv⟩
   have e:=aw (hx.symm.trans (hv xs (sm.sql hS)))
   subst e
   refine ht i _ _ _ hx sm λH4 s4=>?_
   have hp4:=s4 _ _ hp
   have hg:xs.getD i .non=xs[i]:=by rw [av,hx];rfl
   cases hc:c i with
   |true =>
    refine j3 ?_
    refine he i _ _ _ hx hc (sm.trans s4) λH5 s5=>⟨s5 _ _ hp4,xs.length-(i+1),by lia,by lia,rfl,?_,λb o e=>?_,qm⟩
    ·unfold Jq
     rw [ce,List.filter_append,aP]
     simp only [cx,hc,eN,List.filter_nil,aS,dc,hg]
    ·rw [wz (qg e np)]
     exact s5 _ _ (s4 _ _ (sm _ _ e))
   |false =>
    refine yy ?_
    refine ⟨hp4,xs.length-(i+1),by lia,by lia,rfl,?_,sm.trans s4,hp4⟩
    unfold Jq
    rw [ce,List.filter_append,aP]
    simp only [cx,hc,bW,de,List.filter_nil,dc,cA]
  ·have:i=xs.length:=by lia
   subst this
   exact .inl ⟨⟨xs,sm.sql hS,ah _⟩,k p H2 np sm hp⟩
end L2
namespace L2
open PySem PySem.Spec PyProof.Rows
def Bef (a:Array Ai)(p q:Nat):Prop:=K a p<K a q∨(K a p=K a q∧p<q)
structure From (a xs:Array Ai)(k:Nat)(ix:Nat→Nat):Prop where
 at_:∀i,xs[i]?=a[ix i]?
 rest:∀i,k≤i→ix i=i
 low:∀i,i<k→ix i<k
theorem From.key {a xs:Array Ai}{k:Nat}{ix:Nat→Nat}(f:From a xs k ix)(i:Nat):K xs i=K a (ix i):=K_congr (f.at_ i)
theorem From.more {a xs:Array Ai}{k:Nat}{ix:Nat→Nat}(f:From a xs k ix):From a xs (k+1) ix :=
 ⟨f.at_,λi h=>f.rest i (by lia),λi h=>by
  by_cases e:i<k
  ·have:=f.low i e;lia
  ·have:=f.rest i (by lia);lia⟩
theorem From.mirror {a xs:Array Ai}{k b:Nat}{ix:Nat→Nat}(f:From a xs k ix)(hk:k≤xs.size):From a (mirror xs b k ((k-b)/2)) k (λi=>if b≤i∧i<k then ix (b+k-1-i) else ix i):=by
 refine ⟨λi=>?_,λi h=>?_,λi h=>?_⟩
 ·rw [getElem?_mirror_all hk]
  by_cases c:b≤i∧i<k
  ·simp only [al c]
   exact f.at_ _
  ·simp only [ai c]
   exact f.at_ _
 ·simp only [ai (show ¬ (b≤i∧i<k) by lia)]
  exact f.rest i h
 ·by_cases c:b≤i∧i<k
  ·simp only [al c]
   exact f.low _ (by lia)
  ·simp only [ai c]
   exact f.low i h
def Up (a xs:Array Ai)(k:Nat):Prop:=∃ix,From a xs k ix∧∀i j,i<j→j<k→Bef a (ix i) (ix j)
def Dr (a xs:Array Ai)(k:Nat):Prop:=∃ix,From a xs k ix∧∀i j,i<j→j<k→Bef a (ix j) (ix i)
def Dn (a xs:Array Ai)(k e:Nat):Prop:=e+1≤k∧∃ix,From a xs k ix∧(∀i j,i<j→j<k-(e+1)→Bef a (ix j) (ix i))∧(∀i j,i<k-(e+1)→k-(e+1)≤j→j<k→K a (ix j)<K a (ix i)) ∧
 ∀i j,k-(e+1)≤i→i<j→j<k→K a (ix i)=K a (ix j)∧ix i<ix j
section
variable {a xs:Array Ai}{k e:Nat}
theorem Up.le (h:Up a xs k){i j:Nat}(hij:i≤j)(hj:j<k):K xs i≤K xs j:=by
 obtain ⟨ix,f,o⟩:=h
 rw [f.key,f.key]
 by_cases c:i=j
 ·subst c;exact fc _
 ·rcases o i j (by lia) hj with h|h <;> lia
theorem Up.grow (h:Up a xs k)(hk:1≤k)(hn:¬ K xs k<K xs (k-1)):Up a xs (k+1):=by
 obtain ⟨ix,f,o⟩:=h
 rw [f.key,f.key,f.rest k (ah _)] at hn
 refine ⟨ix,f.more,λi j hij hj=>?_⟩
 by_cases c:j<k
 ·exact o i j hij c
 ·obtain rfl:j=k:=by lia
  have hl:=f.low i hij
  rw [f.rest j (ah _)]
  unfold Bef
  by_cases c2:i=j-1
  ·subst c2;lia
  ·rcases o i (j-1) (by lia) (by lia) with h|h <;> lia
theorem Dr.up (h:Dr a xs k)(hk:k≤xs.size):Up a (mirror xs 0 k ((k-0)/2)) k:=by
 obtain ⟨ix,f,o⟩:=h
 refine ⟨_,f.mirror hk,λi j hij hj=>?_⟩
 simp only [al (show 0≤i∧i<k by lia),al (show 0≤j∧j<k by lia)]
 exact o _ _ (by lia) (by lia)
theorem Dn.flat (h:Dn a xs k 0):Dr a xs k:=by
 obtain ⟨h0,ix,f,o1,o2,o3⟩:=h
 refine ⟨ix,f,λi j hij hj=>?_⟩
 by_cases c:j<k-(0+1)
 ·exact o1 i j hij c
 ·exact .inl (o2 i j (by lia) (by lia) hj)
theorem Dn.turn (h:Dn a xs k e)(hk:k≤xs.size):Dr a (mirror xs (k-(e+1)) k ((k-(k-(e+1)))/2)) k:=by
 obtain ⟨h0,ix,f,o1,o2,o3⟩:=h
 refine ⟨_,f.mirror hk,λi j hij hj=>?_⟩
 by_cases c1:k-(e+1)≤i
 ·simp only [al (show k-(e+1)≤i∧i<k by lia),al (show k-(e+1)≤j∧j<k by lia)]
  exact .inr (o3 _ _ (by lia) (by lia) (by lia))
 ·simp only [ai (show ¬ (k-(e+1)≤i∧i<k) by lia)]
  by_cases c2:k-(e+1)≤j
  ·simp only [al (show k-(e+1)≤j∧j<k by lia)]
   exact .inl (o2 _ _ (by lia) (by lia) (by lia))
  ·simp only [ai (show ¬ (k-(e+1)≤j∧j<k) by lia)]
   exact o1 i j hij (by lia)
theorem Dr.grow (h:Dr a xs k)(hk:1≤k)(hn:K xs k<K xs (k-1)):Dn a xs (k+1) 0:=by
 obtain ⟨ix,f,o⟩:=h
 rw [f.key,f.key,f.rest k (ah _)] at hn
 refine ⟨by lia,ix,f.more,λi j hij hj=>o i j hij (by lia),λi j hi h1 h2=>?_,λi j h1 h2 h3=>by lia⟩
 obtain rfl:j=k:=by lia
 rw [f.rest j (ah _)]
 by_cases c:i=j-1
 ·subst c;exact hn
 ·rcases o i (j-1) (by lia) (by lia) with h|h <;> lia
theorem Dn.grow (h:Dn a xs k e)(h1:¬ K xs k<K xs (k-1))(h2:¬ K xs (k-1)<K xs k):Dn a xs (k+1) (e+1):=by
 obtain ⟨h0,ix,f,o1,o2,o3⟩:=h
 rw [f.key,f.key,f.rest k (ah _)] at h1 h2
 have hk1:k+1-(e+1+1)=k-(e+1):=by lia
 refine ⟨by lia,ix,f.more,?_,?_,?_⟩
 ·rw [hk1];exact o1
 ·rw [hk1]
  intro i j hi hj1 hj2
  by_cases c:j<k
  ·exact o2 i j hi hj1 c
  ·obtain rfl:j=k:=by lia
   rw [f.rest j (ah _)]
   have:=o2 i (j-1) hi (by lia) (by lia)
   lia
 ·rw [hk1]
  intro i j hi hij hj
  by_cases c:j<k
  ·exact o3 i j hi hij c
  ·obtain rfl:j=k:=by lia
   rw [f.rest j (ah _)]
   refine ⟨?_,f.low i hij⟩
   by_cases c2:i=j-1
   ·subst c2;lia
   ·have:=(o3 i (j-1) hi (by lia) (by lia)).1
    lia
theorem Up.even (h:Up a xs k)(hk:1≤k)(hz:k≤xs.size)(hr:¬ K xs 0<K xs (k-1)):Dr a (mirror xs 0 k ((k-0)/2)) k:=by
 have hle:=@Up.le a xs k h
 obtain ⟨ix,f,o⟩:=h
 have hall:∀i,i<k→K a (ix i)=K a (ix 0):=λi hi=>by
  have e1:=hle (i:=0) (j:=i) (by lia) hi
  have e2:=hle (i:=i) (j:=k-1) (by lia) (by lia)
  rw [f.key,f.key] at e1 e2 hr
  lia
 refine ⟨_,f.mirror hz,λi j hij hj=>?_⟩
 simp only [al (show 0≤i∧i<k by lia),al (show 0≤j∧j<k by lia)]
 have e1:=hall (0+k-1-i) (by lia)
 have e2:=hall (0+k-1-j) (by lia)
 rcases o (0+k-1-j) (0+k-1-i) (by lia) (by lia) with h|h
 ·exact .inl h
 ·exact .inr h
theorem Up.put (h:Up a xs k)(hk:k<xs.size){l:Nat}(hl:l≤k)(h1:∀i,i<l→K xs i≤K xs k)(h2:∀i,l≤i→i<k→K xs k<K xs i):Up a (bubble xs k (k-l)) (k+1):=by
 obtain ⟨ix,f,o⟩:=h
 have hkk:k-(k-l)=l:=by lia
 have hr:=f.rest k (ah _)
 refine ⟨λi=>if i=l then k else if l<i∧i≤k then ix (i-1) else ix i,⟨λi=>?_,λi hi=>?_,λi hi=>?_⟩,λi j hij hj=>?_⟩
 ·rw [getElem?_bubble hk _ (by lia),hkk]
  by_cases c:i=l
  ·simp only [al c]
   rw [f.at_,hr]
  ·simp only [ai c]
   by_cases c2:l<i∧i≤k
   ·simp only [al c2]
    exact f.at_ _
   ·simp only [ai c2]
    exact f.at_ _
 ·simp only [ai (show ¬ i=l by lia),ai (show ¬ (l<i∧i≤k) by lia)]
  exact f.rest i (by lia)
 ·by_cases c:i=l
  ·simp only [al c];lia
  ·simp only [ai c]
   by_cases c2:l<i∧i≤k
   ·simp only [al c2]
    have:=f.low (i-1) (by lia)
    lia
   ·simp only [ai c2]
    have:=f.low i (by lia)
    lia
 ·have key:∀i,i<k→(i<l→K a (ix i)≤K a k)∧(l≤i→K a k<K a (ix i)):=λi hi=>by
   refine ⟨λc=>?_,λc=>?_⟩
   ·have:=h1 i c
    rw [f.key,f.key,hr] at this
    exact this
   ·have:=h2 i c hi
    rw [f.key,f.key,hr] at this
    exact this
  by_cases ci:i=l
  ·simp only [al ci,ai (show ¬ j=l by lia),al (show l<j∧j≤k by lia)]
   exact .inl ((key (j-1) (by lia)).2 (by lia))
  ·by_cases cj:j=l
   ·simp only [ai ci,al cj,ai (show ¬ (l<i∧i≤k) by lia)]
    have a1:=(key i (by lia)).1 (by lia)
    have a2:=f.low i (by lia)
    unfold Bef
    lia
   ·simp only [ai ci,ai cj]
    by_cases c3:l<i
    ·simp only [al (show l<i∧i≤k by lia),al (show l<j∧j≤k by lia)]
     exact o _ _ (by lia) (by lia)
    ·simp only [ai (show ¬ (l<i∧i≤k) by lia)]
     by_cases c4:l<j
     ·simp only [al (show l<j∧j≤k by lia)]
      exact o _ _ (by lia) (by lia)
     ·simp only [ai (show ¬ (l<j∧j≤k) by lia)]
      exact o _ _ hij (by lia)
end
section
variable {prog:Ac}{w:Ah}{A:Ae}{E:Ag→Ab→Prop}{s:Ab}{a₀:Array Ai}
end
end L2
namespace L2
open PySem PySem.Spec PyProof.Rows
theorem qwu:∀(n:Nat) (l:List Nat),l.Nodup→(∀x∈l,x<n)→l.length≤n
 |0,l,_,h=>by
  cases l with
  |nil=>exact ah _
  |cons x l=>exact absurd (h x (cV ..)) (dF _)
 |n+1,l,hn,h=>by
  have a1:=qwu n (l.erase n) (hn.erase n) λx hx=>by
   have hm:=List.mem_of_mem_erase hx
   have:=h x hm
   by_cases e:x=n
   ·subst e
    exact absurd hx (hn.not_mem_erase)
   ·lia
  have a2:l.length≤(l.erase n).length+1:=by
   rw [el]
   split <;> lia
  lia
theorem qwq:∀(n:Nat) (l:List Nat),l.Nodup→(∀x∈l,x<n)→l.length=n→l.Perm (List.range n)
 |0,l,_,_,e=>by rw [List.length_eq_zero_iff.mp e];exact List.Perm.refl _
 |n+1,l,hn,h,e=>by
  have hm:n∈l:=by
   apply bZ
   intro c
   have:=qwu n l hn λx hx=>by
    have:=h x hx
    by_cases e:x=n
    ·subst e;exact absurd hx c
    ·lia
   lia
  have a1:=qwq n (l.erase n) (hn.erase n) (λx hx=>by
   have:=h x (List.mem_of_mem_erase hx)
   by_cases e:x=n
   ·subst e;exact absurd hx hn.not_mem_erase
   ·lia) (by rw [el,al (by simpa using hm)];lia)
  rw [ce]
  exact (List.perm_cons_erase hm).trans ((a1.cons n).trans (List.perm_append_comm (l₁:=[n])))
theorem Up.places {a xs:Array Ai}(h:Up a xs a.size)(hz:xs.size=a.size):∃il:List Nat,il.Perm (List.range a.size)∧il.Pairwise (Bef a)∧xs.toList=il.map λi=>a.getD i (.none,.none):=by
 obtain ⟨ix,f,o⟩:=h
 have pw:((List.range a.size).map ix).Pairwise (Bef a):=by
  rw [bJ]
  refine bD (R:=(·<·)) (λ{i j} hi hj hij=>?_) di
  exact o i j hij (aN.mp hj)
 refine ⟨(List.range a.size).map ix,qwq _ _ ?_ ?_ (by rw [ae,aH]),pw,?_⟩
 ·refine pw.imp λ{i j} h e=>?_
  subst e
  unfold Bef at h
  lia
 ·intro x hx
  obtain ⟨i,hi,rfl⟩:=aJ.mp hx
  exact f.low i (aN.mp hi)
 ·refine eo λi=>?_
  rw [bP,aG,bX,f.at_]
  by_cases c:i<a.size
  ·rw [cv c]
   have:=f.low i c
   simp [Array.getD,this]
  ·rw [f.rest i (by lia),bO (by lia),aY (by rw [aH];lia)]
   rfl
end L2
namespace L2
open PySem PySem.Spec PySem.W PyProof.Rows
section
variable {n:Nat}{im:Nat→Ai}{kz:Nat→Int}{ask:Nat→Nat→(Bool→Ab→Prop)→Ab→Prop}{s:Ab}
def Gd (n:Nat)(p:Array Nat):Prop:=p.Perm (List.toArray (List.range n))
theorem Gd.size {p:Array Nat}(h:Gd n p):p.size=n:=by
 have:=Array.Perm.size_eq h
 simpa using this
theorem Gd.lt {p:Array Nat}(h:Gd n p){i:Nat}(hi:i<n):p.getD i 0<n:=by
 have hs:=h.size
 have m:p[i]'(by lia)∈p:=Array.getElem_mem _
 have:=(Array.Perm.mem_iff h).mp m
 have e:p.getD i 0=p[i]'(by lia):=by simp [Array.getD,hs,hi]
 rw [e]
 simpa using this
theorem Gd.rev {p:Array Nat}(h:Gd n p)(i j:Nat):Gd n (kas_rev p i j):=(mirror_perm _ _ _ _).trans h
theorem Gd.bub {p:Array Nat}(h:Gd n p)(i j:Nat):Gd n (bubble p i j):=(bubble_perm _ _ _).trans h
def ixA (n:Nat)(im:Nat→Ai):Array Ai:=(List.toArray (List.range n)).map im
theorem Z4 (p:Array Nat)(i j:Nat):(kas_rev p i j).map im=mirror (p.map im) i j ((j-i)/2):=by
 unfold kas_rev mirror
 exact (kas_swaps_map im _ _ _ p).symm
theorem wv2 (p:Array Nat)(i j:Nat):(bubble p i j).map im=bubble (p.map im) i j:=by
 unfold bubble
 exact (kas_swaps_map im _ _ _ p).symm
def KyI (im:Nat→Ai)(kz:Nat→Int):Prop:=∀(p:Array Nat) i,i<p.size→K (p.map im) i=kz (p.getD i 0)
def Z6 (n:Nat)(kz:Nat→Int)(ask:Nat→Nat→(Bool→Ab→Prop)→Ab→Prop)(s:Ab):Prop:=∀i j C,i<n→j<n→C (decide (kz i<kz j)) s→ask i j C s
theorem Jg {p:Array Nat}{i j:Nat}{C:Bool→Ab→Prop}(ha:Z6 n kz ask s)(hk:KyI im kz)(g:Gd n p)(hi:i<n)(hj:j<n)
  (h1:K (p.map im) i<K (p.map im) j→C true s) (h2:¬ K (p.map im) i<K (p.map im) j→C false s):ask (p.getD i 0) (p.getD j 0) C s:=by
 refine ha _ _ _ (g.lt hi) (g.lt hj) ?_
 rw [hk p i (by rw [g.size];exact hi),hk p j (by rw [g.size];exact hj)] at h1 h2
 by_cases c:kz (p.getD i 0)<kz (p.getD j 0)
 ·simp only [c,decide_true];exact h1 c
 ·simp only [c,decide_false];exact h2 c
theorem qk6 {p:Array Nat}{e:Nat}{Q:Nat→Ab→Prop}(ha:Z6 n kz ask s)(hk:KyI im kz)(g:Gd n p)(he:e≤n):∀(f b:Nat),1≤b→b+f=e→Up (ixA n im) (p.map im) b →
  (∀m,b≤m→m≤e→Up (ixA n im) (p.map im) m→(m=e∨K (p.map im) m<K (p.map im) (m-1))→Q m s)→(kas_asc p f b).kasWp ask Q s
 |0,b,_,hb,u,h=>h b (ah _) (by lia) u (.inl (by lia))
 |f+1,b,h1,hb,u,h=>by
  refine Jg ha hk g (by lia) (by lia) (λc=>?_) λc=>?_
  ·exact h b (ah _) (by lia) u (.inr c)
  ·exact qk6 ha hk g he f (b+1) (by lia) (by lia) (u.grow h1 c) λm a1 a2 a3 a4=>h m (by lia) a2 a3 a4
theorem qjs {p:Array Nat}{k e:Nat}{Q:Nat×Array Nat→Ab→Prop}(ha:Z6 n kz ask s)(hk:KyI im kz)(g:Gd n p)(he:e≤n)(h1:1≤k)(hke:k≤e)(d:Dr (ixA n im) (p.map im) k)
  (h:∀m q,Gd n q→1≤m→m≤e→Up (ixA n im) (q.map im) m→Q (m,q) s):(kas_tail3 k e p).kasWp ask Q s:=by
 unfold kas_tail3
 rw [KasT.kasWp_bind]
 refine qk6 ha hk (g.rev 0 k) he (e-k) k h1 (by lia) ?_ λm a1 a2 a3 _=>h m _ (g.rev 0 k) (by lia) a2 a3
 rw [Z4]
 exact d.up (by rw [cJ,g.size];lia)
theorem Zr {e:Nat}{Q:Array Nat×Nat×Nat→Ab→Prop}(ha:Z6 n kz ask s)(hk:KyI im kz)(he:e≤n):∀(f:Nat) (p:Array Nat) (x q:Nat),Gd n p→x+f=e→Dn (ixA n im) (p.map im) x q →
  (∀m r p',Gd n p'→x≤m→m≤e→Dn (ixA n im) (p'.map im) m r→Q (p',m,r) s)→(kas_desc f p x q).kasWp ask Q s
 |0,p,x,q,g,hx,d,h=>h x q p g (ah _) (by lia) d
 |f+1,p,x,q,g,hx,d,h=>by
  have hx1:1≤x:=by have:=d.1;lia
  have hz:x≤(p.map im).size:=by rw [cJ,g.size];lia
  refine Jg ha hk g (by lia) (by lia) (λc=>?_) λc=>?_
  ·show KasT.kasWp ask (if q>0 then kas_desc f (kas_rev p (x-(q+1)) x) (x+1) 0 else kas_desc f p (x+1) 0) Q s
   by_cases c2:q>0
   ·rw [al c2]
    refine Zr ha hk he f _ (x+1) 0 (g.rev _ _) (by lia) ?_ λm r p' a1 a2 a3 a4=>h m r p' a1 (by lia) a3 a4
    rw [Z4]
    refine (d.turn hz).grow hx1 ?_
    rw [K_mirror hz,K_mirror hz,ai (by lia),al (by have:=d.1;lia)]
    obtain ⟨hq,ix,f',_,_,o3⟩:=id d
    by_cases c3:x-(q+1)+x-1-(x-1)=x-1
    ·rw [c3];exact c
    ·have:=(o3 (x-(q+1)+x-1-(x-1)) (x-1) (by lia) (by lia) (by lia)).1
     rw [←f'.key,←f'.key] at this
     lia
   ·rw [ai c2]
    obtain rfl:q=0:=by lia
    exact Zr ha hk he f p (x+1) 0 g (by lia) (d.flat.grow hx1 c) λm r p' a1 a2 a3 a4=>h m r p' a1 (by lia) a3 a4
  ·refine Jg ha hk g (by lia) (by lia) (λc2=>?_) λc2=>?_
   ·exact h x q p g (ah _) (by lia) d
   ·exact Zr ha hk he f p (x+1) (q+1) g (by lia) (d.grow c c2) λm r p' a1 a2 a3 a4=>h m r p' a1 (by lia) a3 a4
theorem qj3 {p:Array Nat}{k e:Nat}{Q:Nat×Array Nat→Ab→Prop}(ha:Z6 n kz ask s)(hk:KyI im kz)(g:Gd n p)(he:e≤n)(hke:k+1≤e)(d:Dn (ixA n im) (p.map im) (k+1) 0)
  (h:∀m q,Gd n q→1≤m→m≤e→Up (ixA n im) (q.map im) m→Q (m,q) s):(kas_descPart k e p).kasWp ask Q s:=by
 unfold kas_descPart
 rw [KasT.kasWp_bind]
 refine Zr ha hk he (e-(k+1)) p (k+1) 0 g (by lia) d λm r p' g' a1 a2 d'=>?_
 have hz:m≤(p'.map im).size:=by rw [cJ,g'.size];lia
 dsimp only
 by_cases c:r>0
 ·rw [al c]
  refine qjs ha hk (g'.rev _ _) he (by lia) a2 ?_ h
  rw [Z4]
  exact d'.turn hz
 ·rw [ai c]
  obtain rfl:r=0:=by lia
  exact qjs ha hk g' he (by lia) a2 d'.flat h
theorem wqy {e:Nat}{Q:Nat×Array Nat→Ab→Prop}(ha:Z6 n kz ask s)(hk:KyI im kz)(he:e≤n)(h1:1≤e)
  (h:∀m q,Gd n q→1≤m→m≤e→Up (ixA n im) (q.map im) m→Q (m,q) s):(kas_count e (List.toArray (List.range n))).kasWp ask Q s:=by
 have g:Gd n (List.toArray (List.range n)):=Array.Perm.refl _
 have u1:Up (ixA n im) ((List.toArray (List.range n)).map im) 1:=⟨id,⟨λi=>rfl,λi _=>rfl,λi z=>z⟩,λi j a b=>by lia⟩
 unfold kas_count
 rw [KasT.kasWp_bind]
 refine qk6 ha hk g he (e-1) 1 (ah _) (by lia) u1 λm m1 m2 u hor=>?_
 have hz:m≤((List.toArray (List.range n)).map im).size:=by rw [cJ,g.size];lia
 by_cases c:m=e
 ·rw [al (dq.mpr c)]
  exact h m _ g m1 m2 u
 ·have hlt:=hor.resolve_left c
  rw [ai (λz=>c (dq.mp z))]
  by_cases c2:m>1
  ·rw [al c2]
   refine Jg ha hk g (by lia) (by lia) (λc3=>?_) λc3=>?_
   ·exact h m _ g m1 m2 u
   ·refine qj3 ha hk (g.rev 0 m) he (by lia) ?_ h
    rw [Z4]
    refine (u.even m1 hz c3).grow m1 ?_
    rw [K_mirror hz,K_mirror hz,ai (by lia),al (by lia)]
    have e1:=u.le (i:=0) (j:=0+m-1-(m-1)) (by lia) (by lia)
    have e2:=u.le (i:=0+m-1-(m-1)) (j:=m-1) (by lia) (by lia)
    lia
  ·rw [ai c2]
   obtain rfl:m=1:=by lia
   obtain ⟨ix,f,o⟩:=u
   exact qj3 ha hk g he (by lia) (Dr.grow ⟨ix,f,λi j a b=>by lia⟩ (by lia) hlt) h
theorem Jb {p:Array Nat}{k:Nat}{Q:Nat→Ab→Prop}(ha:Z6 n kz ask s)(hk:KyI im kz)(g:Gd n p)(hkn:k<n)(u:Up (ixA n im) (p.map im) k)
  (h:∀l,l≤k→(∀i,i<l→K (p.map im) i≤K (p.map im) k)→(∀i,l≤i→i<k→K (p.map im) k<K (p.map im) i)→Q l s):∀(f l r:Nat),l≤r→r≤k→r-l≤f→(∀i,i<l→K (p.map im) i≤K (p.map im) k)→(∀i,r≤i→i<k→K (p.map im) k<K (p.map im) i) →
  (kas_place p k f l r).kasWp ask Q s
 |0,l,r,a1,a2,a3,a4,a5=>by
  obtain rfl:l=r:=by lia
  exact h l a2 a4 a5
 |f+1,l,r,a1,a2,a3,a4,a5=>by
  unfold kas_place
  by_cases c1:l≥r
  ·rw [al c1]
   obtain rfl:l=r:=by lia
   exact h l a2 a4 a5
  ·rw [ai c1]
   refine Jg ha hk g (by lia) (by lia) (λc2=>?_) λc2=>?_
   ·exact Jb ha hk g hkn u h f l ((l+r)/2) (by lia) (by lia) (by lia) a4 λi z1 z2=>by have:=u.le z1 z2;lia
   ·exact Jb ha hk g hkn u h f ((l+r)/2+1) r (by lia) (by lia) (by lia) (λi z=>by have:=u.le (i:=i) (j:=(l+r)/2) (by lia) (by lia);lia) a5
theorem wx1 {Q:Array Nat→Ab→Prop}(ha:Z6 n kz ask s)(hk:KyI im kz)(h:∀q,Gd n q→Up (ixA n im) (q.map im) n→Q q s):∀(f:Nat) (p:Array Nat) (k:Nat),Gd n p→1≤k→k+f=n→Up (ixA n im) (p.map im) k →
  (kas_bin f p k).kasWp ask Q s
 |0,p,k,g,_,e,u=>by
  obtain rfl:k=n:=by lia
  exact h p g u
 |f+1,p,k,g,k1,e,u=>by
  unfold kas_bin
  rw [KasT.kasWp_bind]
  refine Jb ha hk g (by lia) u (λl a2 a4 a5=>?_) k 0 k (aE _) (ah _) (by lia) (λi z=>by lia) λi z1 z2=>by lia
  refine wx1 ha hk h f _ (k+1) (g.bub _ _) (by lia) (by lia) ?_
  rw [wv2]
  exact u.put (by rw [cJ,g.size];lia) a2 a4 a5
theorem wvm {Q:Array Nat→Ab→Prop}(ha:Z6 n kz ask s)(hk:KyI im kz)(h1:1≤n)(h:∀q,Gd n q→Up (ixA n im) (q.map im) n→Q q s):(kas_sort n).kasWp ask Q s:=by
 unfold kas_sort
 rw [KasT.kasWp_bind]
 refine wqy ha hk (ah _) h1 λm q g m1 m2 u=>?_
 dsimp only
 have em:max m 1=m:=by lia
 by_cases c:m<n
 ·rw [al c,em]
  exact wx1 ha hk h (n-m) q m g m1 (by lia) u
 ·rw [ai c]
  obtain rfl:m=n:=by lia
  exact h q g u
def imI (kz:Nat→Int)(t:Tok)(i:Nat):Ai:=(.int (kz i) t,.int (i:Int) t)
theorem imI_ky (kz:Nat→Int)(t:Tok):KyI (imI kz t) kz:=λp i hi=>by
 unfold K
 simp [hi,imI,numOf,Array.getD]
theorem tr_out {t:Tok}{Q:Array Nat→Ab→Prop}(ha:Z6 n kz ask s)(h1:1≤n)
  (h:∀il:List Nat,il.Perm (List.range n)→il.Pairwise (λi j=>kz i<kz j∨(kz i=kz j∧i<j))→Q il.toArray s):(kas_sort n).kasWp ask Q s:=by
 refine wvm ha (imI_ky kz t) h1 λq g u=>?_
 have hz:(ixA n (imI kz t)).size=n:=by simp [ixA]
 have hzq:(q.map (imI kz t)).size=(ixA n (imI kz t)).size:=by rw [hz,cJ,g.size]
 obtain ⟨il,p,o,e⟩:=Up.places (by rw [hz];exact u) hzq
 rw [hz] at p
 have hin:∀i∈il,i<n:=λi hi=>aN.mp (p.mem_iff.mp hi)
 have at_:∀i,i<n→(ixA n (imI kz t)).getD i (.none,.none)=imI kz t i:=λi hi=>by
  simp [ixA,Array.getD,hi]
 have ky:∀i,i<n→K (ixA n (imI kz t)) i=kz i:=λi hi=>by
  unfold K
  simp [ixA,hi,imI,numOf]
 have e2:q.toList.map (imI kz t)=il.map (imI kz t):=by
  rw [←Array.toList_map,e]
  exact cw λi hi=>at_ i (hin i hi)
 have inj:∀i j,imI kz t i=imI kz t j→i=j:=λi j e=>by
  simp only [imI,Prod.mk.injEq,Value.int.injEq] at e
  lia
 have e3:q.toList=il:=(List.map_inj_right (λi j e=>inj i j e)).mp e2
 have e4:q=il.toArray:=by rw [←e3]
 rw [e4]
 exact h il p (o.imp_of_mem λ{i j} hi hj hb=>by
  unfold Bef at hb
  rw [ky i (hin i hi),ky j (hin j hj)] at hb
  exact hb)
end
end L2
namespace L2
open PySem PySem.Spec PySem.Calls PySem.W PyProof.Rows
section
variable {prog:Ac}{w:Ah}{A:Ae}{E:Ag→Ab→Prop}{s:Ab}
theorem qqd {h:Heap}{a:Aj}{vs:List Ag}{k:Nat}(ho:h.get? a=some (seqObj "list" vs.toArray k))(out:Array Ag):∃e,(sortedHeap h a vs out).get? a=some (seqObj "list" out e):=by
 obtain ⟨e1,ho1⟩:∃e1,(h.update a (Obj.mapSeq λ_=>(#[]:Array Ag))).get? a=some (seqObj "list" #[] e1):=⟨_,get?_update_seq ho λ_=>#[]⟩
 exact ⟨_,get?_update_seq (af _ (af _ ho1)) λ_=>out⟩
theorem Yh {h:Heap}{a b:Aj}{vs:List Ag}{o:Obj}(e:h.get? b=some o)(hb:b≠a)(out:Array Ag):(sortedHeap h a vs out).get? b=some o:=by
 unfold sortedHeap
 rw [Heap.get?_update_ne _ _ _ _ hb]
 refine af _ (af _ ?_)
 rw [Heap.get?_update_ne _ _ _ _ hb]
 exact e
end
section
variable {X:Cx}
end
end L2
namespace L2
open PySem PySem.Spec PySem.Calls PySem.W PyProof.Rows
def kzS (ss:List Str)(x:Str):Int:=((ss.filter λy=>decide (y.cps.toList<x.cps.toList)).length:Nat)
theorem wwn {ss:List Str}{x y:Str}(h:¬ y.cps.toList<x.cps.toList):kzS ss x≤kzS ss y:=by
 unfold kzS
 have:(ss.filter λz=>decide (z.cps.toList<x.cps.toList)).length≤(ss.filter λz=>decide (z.cps.toList<y.cps.toList)).length:=by
  refine (List.Sublist.length_le ?_)
  have e:(ss.filter λz=>decide (z.cps.toList<x.cps.toList))=(ss.filter λz=>decide (z.cps.toList<y.cps.toList)).filter λz=>decide (z.cps.toList<x.cps.toList):=by
   rw [List.filter_filter]
   refine List.filter_congr λz _=>?_
   by_cases c:z.cps.toList<x.cps.toList
   ·have:z.cps.toList<y.cps.toList:=by
     apply bZ
     intro n
     exact absurd c (List.not_lt.mpr (List.le_trans (List.not_lt.mp h) (List.not_lt.mp n)))
    simp [c,this]
   ·simp [c]
  rw [e]
  exact List.filter_sublist
 lia
theorem ww6 {ss:List Str}{x y:Str}(hx:x∈ss)(h:x.cps.toList<y.cps.toList):kzS ss x<kzS ss y:=by
 unfold kzS
 have sub:(ss.filter λz=>decide (z.cps.toList<x.cps.toList)).length<(ss.filter λz=>decide (z.cps.toList<y.cps.toList)).length:=by
  have e:(ss.filter λz=>decide (z.cps.toList<x.cps.toList))=(ss.filter λz=>decide (z.cps.toList<y.cps.toList)).filter λz=>decide (z.cps.toList<x.cps.toList):=by
   rw [List.filter_filter]
   refine List.filter_congr λz _=>?_
   by_cases c:z.cps.toList<x.cps.toList
   ·have:z.cps.toList<y.cps.toList:=List.lt_trans c h
    simp [c,this]
   ·simp [c]
  rw [e]
  have mem:x∈ss.filter λz=>decide (z.cps.toList<y.cps.toList):=bw.mpr ⟨hx,bd h⟩
  refine Nat.lt_of_le_of_ne (bY _ _) λz=>?_
  have:=(List.length_filter_eq_length_iff).mp z x mem
  exact List.lt_irrefl _ (cF this)
 lia
theorem wzb {ss:List Str}{x y:Str}(hx:x∈ss):kzS ss x<kzS ss y↔x.cps.toList<y.cps.toList:=by
 constructor
 ·intro h
  apply bZ
  intro n
  have:=wwn (ss:=ss) n
  lia
 ·exact ww6 hx
section
variable {prog:Ac}{w:Ah}{A:Ae}{E:Ag→Ab→Prop}{s:Ab}
def StrsR (vs:List Ag)(ss:List Str):Prop:=Paired (λv x=>∃t,v=Value.str x t) vs ss
theorem StrsR.at {vs:List Ag}{ss:List Str}(h:StrsR vs ss):∀ {i:Nat},i<ss.length→∃x t,ss[i]?=some x∧vs.getD i Value.none=Value.str x t:=by
 induction h with
 |nil=>intro i hi;exact absurd hi (dF _)
 |@cons a b l m hd tl ih =>
  intro i hi
  cases i with
  |zero=>obtain ⟨t,rfl⟩:=hd;exact ⟨b,t,rfl,rfl⟩
  |succ i=>exact ih (i:=i) (by simpa using hi)
theorem StrsR.mem {vs:List Ag}{ss:List Str}(h:StrsR vs ss):∀v∈vs,∃x t,v=Value.str x t:=by
 induction h with
 |nil=>intro v hv;cases hv
 |@cons a b l m hd tl ih =>
  intro v hv
  rcases am.mp hv with rfl|hv
  ·obtain ⟨t,e⟩:=hd;exact ⟨b,t,e⟩
  ·exact ih v hv
theorem qjv {a:Aj}{vs:List Ag}{k:Nat}{ss:List Str}{P:PySem.Fin→Ab→Prop}(ho:s.heap.get? a=some (seqObj "list" vs.toArray k))(h64:vs.length<64)(t:StrsR vs ss)
  (h:∀il:List Nat,il.Perm (List.range vs.length)→il.Pairwise (λi j=>¬ (ss.getD j Str.empty).cps.toList<(ss.getD i Str.empty).cps.toList)→P (.done (.ret .none)) { s with heap:=sortedHeap s.heap a vs (il.map λi=>vs.getD i Value.none).toArray }) :
  wpAny (model prog w) A (Builtin.«list.sort» ⟨[.ref a],[]⟩) P E s:=by
 have hkl:vs.length=ss.length:=be t
 have ha:a<s.heap.objs.size:=ak ho
 obtain ⟨e1,ho1⟩:∃e1,(s.heap.update a (Obj.mapSeq λ_=>(#[]:Array Ag))).get? a=some (seqObj "list" #[] e1):=⟨_,get?_update_seq ho λ_=>#[]⟩
 have sz:(1000001:Nat)<sizeLine:=by decide
 rw [list_sort_plain]
 refine ac (listItems_at ho rfl ?_)
 refine ac (listUpdate_at ho rfl ?_ (by rw [az];lia) (aE _))
 refine ac (seqEpoch_at ho1 rfl ?_)
 refine ac (wpAny_newTuple ?_ (by show vs.length≤_;lia))
 refine ac (wpAny_newList ?_ (aE _))
 refine bR ?_
 show wpAny (model prog w) A _ P E { s with heap:=((s.heap.update a (Obj.mapSeq λ_=>(#[]:Array Ag))).push (seqObj "tuple" vs.toArray 0)).push (seqObj "list" #[] 0) }
 have ho6:(((s.heap.update a (Obj.mapSeq λ_=>(#[]:Array Ag))).push (seqObj "tuple" vs.toArray 0)).push (seqObj "list" #[] 0)).get? a=some (seqObj "list" #[] e1):=af _ (af _ ho1)
 have fin:∀(h':Heap) (il:List Nat),h'=((s.heap.update a (Obj.mapSeq λ_=>(#[]:Array Ag))).push (seqObj "tuple" vs.toArray 0)).push (seqObj "list" #[] 0)→il.Perm (List.range vs.length)→il.Pairwise (λi j=>¬ (ss.getD j Str.empty).cps.toList<(ss.getD i Str.empty).cps.toList)→P (.done (.ret .none)) { s with heap:=h'.update a (Obj.mapSeq λ_=>(il.map λi=>vs.getD i Value.none).toArray) }:=λh' il e a1 a2=>by
  subst e
  exact h il a1 a2
 generalize ((s.heap.update a (Obj.mapSeq λ_=>(#[]:Array Ag))).push (seqObj "tuple" vs.toArray 0)).push (seqObj "list" #[] 0)=h6' at ho6 fin ⊢
 have fin:=λil=>fin h6' il rfl
 dsimp only
 by_cases h2:vs.toArray.size<2
 ·rw [al h2,al h2]
  refine ac (aj ?_)
  rw [StateT.run_pure]
  refine ac (aj ?_)
  dsimp only
  have h2':vs.length<2:=by simpa using h2
  have e:(arrOf (SortSt.mk' general' (vs.toArray.zip vs.toArray) #[] 7 none)).map (·.2)=((List.range vs.length).map λi=>vs.getD i Value.none).toArray:=by
   show (vs.toArray.zip vs.toArray).map (·.2)=_
   match vs,h2' with
   |[],_=>simp
   |[v],_=>simp
   |_::_::_,h2=>simp at h2;lia
  rw [e]
  refine ac (seqEpoch_at ho6 rfl ?_)
  refine ac (listUpdate_at ho6 rfl ?_ (aE _) (by rw [az,ae,aH];lia))
  simp only [bne_self_eq_false,bW,de]
  refine aj (fin (List.range vs.length) (.refl _) ?_)
  rcases (by lia:vs.length=0∨vs.length=1) with z|z
  ·rw [z];exact .nil
  ·rw [z];exact eM _ _
 ·rw [ai h2,ai h2]
  have hv2:2≤vs.length:=by simpa using h2
  refine ac (kas_kind (T:=.type "str") hv2 (λv hv=>?_) rfl rfl ?_)
  ·obtain ⟨x,tk,rfl⟩:=t.mem v hv
   exact Looks.of_pure rfl
  let kz:Nat→Int:=λi=>kzS ss (ss.getD i Str.empty)
  have gd:∀ {i x},ss[i]?=some x→ss.getD i Str.empty=x:=λe=>by rw [av,e];rfl
  have ask:Z6 vs.length kz (kas_ask prog w A oneType' vs) { s with heap:=h6' }:=λi j C hi hj hC=>by
   obtain ⟨x,tx,ex,vx⟩:=t.at (i:=i) (by lia)
   obtain ⟨y,ty,ey,vy⟩:=t.at (i:=j) (by lia)
   unfold kas_ask
   rw [vx,vy]
   refine kas_lt_str ?_
   have e:decide (kz i<kz j)=decide (x.cps.toList<y.cps.toList):=by
    rw [cb,decide_eq_true_eq,decide_eq_true_eq]
    show kzS ss (ss.getD i Str.empty)<kzS ss (ss.getD j Str.empty)↔_
    rw [gd ex,gd ey]
    exact wzb (bg ex)
   rw [←e]
   exact hC
  have tree:(kas_sort vs.length).kasWp (kas_cmp prog w A oneType' (pairsOf vs)) (λp s'=>s'={ s with heap:=h6' }∧p.toList.Perm (List.range vs.length)∧p.toList.Pairwise (λi j=>¬ (ss.getD j Str.empty).cps.toList<(ss.getD i Str.empty).cps.toList)) { s with heap:=h6' }:=by
   rw [←kas_ask_eq]
   refine tr_out (t:=0) ask (by lia) λil pm up=>⟨rfl,pm,up.imp_of_mem λ{i j} hi hj hb n=>?_⟩
   have hj:=aN.mp (pm.mem_iff.mp hj)
   obtain ⟨y,ty,ey,vy⟩:=t.at (i:=j) (by lia)
   have:kz j<kz i:=by
    show kzS ss (ss.getD j Str.empty)<kzS ss (ss.getD i Str.empty)
    rw [gd ey] at n ⊢
    exact ww6 (bg ey) n
   lia
  have est:SortSt.mk' oneType' (vs.toArray.zip vs.toArray) #[] 7 none=kas_st oneType' (pairsOf vs) (List.toArray (List.range vs.length)):=by
   have e:=kas_range (pairsOf vs)
   rw [pairsOf_size] at e
   show SortSt.mk' oneType' (pairsOf vs) #[] 7 none=SortSt.mk' oneType' ((List.toArray (List.range vs.length)).map (kas_item (pairsOf vs))) #[] 7 none
   rw [e]
  have run:=kas_runs (E:=E) (Q:=λ_ st' s'=>∃p:Array Nat,p.size=vs.length∧arrOf st'=p.map (kas_item (pairsOf vs))∧failedOf st'=none∧s'={ s with heap:=h6' }∧p.toList.Perm (List.range vs.length)∧p.toList.Pairwise (λi j=>¬ (ss.getD j Str.empty).cps.toList<(ss.getD i Str.empty).cps.toList))
   hv2 h64 (λp' st' s' a1 a2 a3 a4=>⟨p',a1,a2,a3,a4⟩) tree
  rw [←est] at run
  refine ac (aL run ?_ λ_ _ e=>e)
  rintro ⟨⟨⟩,st'⟩ s' ⟨p,hp,har,hf,rfl,pm,up⟩
  dsimp only
  have hout:(arrOf st').map (·.2)=List.toArray (p.toList.map λi=>vs.getD i Value.none):=by
   apply Array.toList_inj.mp
   rw [har,Array.map_map,Array.toList_map]
   exact cw λi _=>by show (kas_item (pairsOf vs) i).2=_;rw [kas_item_eq]
  rw [hout]
  refine ac (seqEpoch_at ho6 rfl ?_)
  refine ac (listUpdate_at ho6 rfl ?_ (aE _) (by rw [az,ae,aR];lia))
  rw [hf]
  simp only [bne_self_eq_false,bW,de]
  exact aj (fin p.toList pm up)
theorem qw2 {d:Aj}{vs:List (Key×Ag)}{ep:Nat}{Q:List Ag→Ab→Prop}(hh:A.handled=none)(lo:(d==sysModules)=false)(dd:s.heap.DictAt (xu prog w) d vs ep)(hn:vs.length≤sizeLine)
  (h:∀h' tk (qs:List Ag),(∀b o,s.heap.get? b=some o→h'.get? b=some o)→qs.length=vs.length→(∀(i:Nat) v,qs[i]?=some v→∃k x,vs[i]?=some (k,x)∧(xu prog w).is k v=true)→s.heap.objs.size≤h'.objs.size→Q qs { s with heap:=h',toks:=tk }):wpAny (model prog w) A (collect (.ref d)) Q E s:=by
 have hS:d<s.heap.objs.size:=dd.lt_size
 have R:(s.heap.push (seqObj "list" #[] 0)).DictAt (xu prog w) d vs ep:=dd.push _
 have run:codeAny (model prog w) A (.builtin "proto.collect" ⟨[.ref d],[]⟩) (λr s'=>r=.ok (.ret (.ref s.heap.objs.size))∧∃h' tk acc' c',s'={ s with heap:=h',toks:=tk }∧(∀b o,b≠s.heap.objs.size→(s.heap.push (seqObj "list" #[] 0)).get? b=some o→h'.get? b=some o) ∧
   h'.get? s.heap.objs.size=some { cls:=.type "list",dict:=none,data:=.seq acc' c',slots:=#[] }∧ItemsOf (λi v=>∃k x,vs[i]?=some (k,x)∧(xu prog w).is k v=true) acc' vs.length) s:=by
  refine codeAny_builtin entry_proto_collect' ?_
  show wpAny _ _ (do again (.builtin "list.__iadd__" ⟨[←newList [],.ref d],[]⟩)) _ _ s
  (refine ac (wpAny_newList (aj ⟨Code.quiet_builtin _ (by decide +kernel),codeAny_builtin entry_list_iadd' ?_⟩)) ;rw [Around.under_plainId (show plainId "list.__iadd__" = true by decide +kernel) _])
  show wpAny _ _ (Builtin.List.listExtendWith (.ref s.heap.objs.size) (.ref d) (.ref s.heap.objs.size)) _ _ _
  exact kdl_extend (s:={ s with heap:=s.heap.push (seqObj "list" #[] 0) }) (R:=λr s'=>r=.ok (.ret (.ref s.heap.objs.size))∧∃h' tk acc' c',s'={ s with heap:=h',toks:=tk }∧(∀b o,b≠s.heap.objs.size→(s.heap.push (seqObj "list" #[] 0)).get? b=some o→h'.get? b=some o) ∧
   h'.get? s.heap.objs.size=some { cls:=.type "list",dict:=none,data:=.seq acc' c',slots:=#[] }∧ItemsOf (λi v=>∃k x,vs[i]?=some (k,x)∧(xu prog w).is k v=true) acc' vs.length) (kdl_dict lo) (by simpa using hh) R s.heap.objs.size (dL hS) (dL hS) (.ref s.heap.objs.size) 0 (ar _ rfl) (λh' tk acc' c' hk hS' hacc=>⟨rfl,h',tk,acc',c',rfl,hk,hS',hacc⟩) hn
 unfold collect
 refine ac (wpAny_runValue (dM run λr s' hr=>?_))
 obtain ⟨rfl,h',tk,acc',c',rfl,hk,hS',hacc⟩:=hr
 dsimp only
 refine ac (wpAny_load hS' ?_)
 refine aj ?_
 refine h h' tk _ (λb o e=>hk b o (ax (ak e)) (af _ e)) (by rw [aR];exact hacc.1) (λi v e=>hacc.2 i v (by rw [←bX];exact e)) ?_
 exact bC (ak hS')
end
section
variable {X:Cx}
theorem qqr (hc:X.calm=true):kj X (.builtin "sorted") (λxs H Q=>∃(d:Aj) (kvs:List (Key×V)) (ss:List Str),xs=[.ref d]∧Rd H d (.dK kvs)∧kvs.map (·.1)=ss.map Sum.inr∧kvs.length<64 ∧
  ∀(l:Aj) (ms:List Str),H l=none→ms.Perm ss→ms.Pairwise (λx y=>¬ y.cps.toList<x.cps.toList)→Q (.ref l) (upd H l (.lst (ms.map V.str)))):=by
 intro pins s σ H xs us Q I r h
 obtain ⟨d,kvs,ss,rfl,hd,hk,hn,q⟩:=h
 obtain ⟨u,rfl,ru⟩:=jd r
 cases (show u=Value.ref d from ru)
 have sz:(100001:Nat)<sizeLine:=by decide
 obtain ⟨z,lo,vs,rel,dd⟩:=Qj I.hok hd
 obtain ⟨ep,dd⟩:=dd.dictAt
 have hl:vs.length=kvs.length:=(be rel).symm
 have hls:kvs.length=ss.length:=by have:=bq List.length hk;simpa using this
 refine Calls.call_function_entry kind_sorted plain_sorted entry_sorted (args_sorted1 _) ?_
 unfold Builtin.«sorted»
 refine ac (m:=checkCount "sorted" 1 1 _) (aj ?_)
 refine ac (qw2 (by simpa using I.ok.hd hc) lo dd (by lia) λh' tk qs hk' hlq hq hz=>?_)
 refine ac (wpAny_newList ?_ (by lia))
 have hoL:(h'.push (seqObj "list" qs.toArray 0)).get? h'.objs.size=some (seqObj "list" qs.toArray 0):=ar _ rfl
 have tS:StrsR qs ss:=by
  have key:∀(qs:List Ag) (ss:List Str),qs.length=ss.length→(∀(i:Nat) v,qs[i]?=some v→∃x t,ss[i]?=some x∧v=Value.str x t)→StrsR qs ss:=by
   intro qs
   induction qs with
   |nil =>
    intro ss e _
    cases ss with
    |nil=>exact .nil
    |cons _ _=>simp at e
   |cons v qs ih =>
    intro ss e hh
    cases ss with
    |nil=>simp at e
    |cons x ss =>
     obtain ⟨x',t,e1,e2⟩:=hh 0 v rfl
     cases e1
     exact .cons ⟨t,e2⟩ (ih ss (by simpa using e) λi v ev=>hh (i+1) v ev)
  refine key qs ss (by lia) λi v ev=>?_
  obtain ⟨k,x,e1,e2⟩:=hq i v ev
  have hi:=(aQ.mp e1).1
  have ek:kvs[i]?=some kvs[i]:=ag (by lia)
  obtain ⟨qv,e3,_⟩:=qkt rel ek
  rw [e1] at e3
  have e4:=bq (λl=>l[i]?) hk
  simp only [aG,ek,cD] at e4
  have hs:ss[i]?=some ss[i]:=ag (by lia)
  rw [hs,cD] at e4
  have e5:=aw e4
  have e6:k=kvs[i].1:=bq Prod.fst (aw e3)
  rw [e6,e5] at e2
  obtain ⟨t,rfl⟩:=(show ∃t,v=Value.str ss[i] t from wwz e2)
  exact ⟨ss[i],t,hs,rfl⟩
 refine ac (bR (dt slot_list_sort ⟨_,hoL,rfl⟩ entry_list_sort ?_ (args_list_sort _)))
 refine qjv (s:={ s with heap:=h'.push (seqObj "list" qs.toArray 0),toks:=tk }) hoL (by lia) tS λil pm up=>⟨_,rfl,aj ⟨_,rfl,?_⟩⟩
 obtain ⟨e,he⟩:=qqd hoL (il.map λi=>qs.getD i Value.none).toArray
 have nl:H h'.objs.size=none:=I.hok.fresh hz
 have hin:∀i∈il,i<ss.length:=λi hi=>by have:=aN.mp (pm.mem_iff.mp hi);lia
 have vals:∀(il:List Nat),(∀i∈il,i<ss.length)→Vals ((il.map λi=>ss.getD i Str.empty).map V.str) (il.map λi=>qs.getD i Value.none):=by
  intro il
  induction il with
  |nil=>intro _;exact .nil
  |cons i il ih =>
   intro hh
   obtain ⟨x,t,e1,e2⟩:=tS.at (hh i (.head _))
   refine .cons ?_ (ih λj hj=>hh j (.tail _ hj))
   show RelV (V.str (ss.getD i Str.empty)) (qs.getD i Value.none)
   rw [e2,av,e1]
   exact ⟨t,rfl⟩
 have pms:(il.map λi=>ss.getD i Str.empty).Perm ss:=by
  have h1:=pm.map λi=>ss.getD i Str.empty
  have h2:((List.range qs.length).map λi=>ss.getD i Str.empty)=ss:=by
   refine eo λi=>?_
   rw [aG]
   by_cases c:i<ss.length
   ·rw [cv (by lia),ag c]
    show some (ss.getD i Str.empty)=_
    rw [av,ag c]
    rfl
   ·rw [aY (by rw [aH];lia),aY (by lia)]
    rfl
  rw [h2] at h1
  exact h1
 refine ⟨.ref _,_,I.laid (t':=tk) (λb u hb=>Yh (af _ (hk' b u hb)) (ax (aD (ak hb) hz)) _) hz (show ObjOk X.prog X.w _ _ _ (.lst ((il.map λi=>ss.getD i Str.empty).map V.str)) from ⟨?_,_,e,vals il hin,he⟩),rfl,q _ _ nl pms (bJ.mpr up)⟩
 rw [ae,pms.length_eq]
 lia
end
end L2
namespace L2
open PySem PySem.Spec PySem.Calls PyProof.Rows PySem.W
section
variable {prog:Ac}{w:Ah}{A:Ae}{E:Ag→Ab→Prop}{s:Ab}{K:Type}[DecidableEq K]{knd:KeyKind prog w K}
theorem Yt {α:Type}{f:α→Int}:∀ {l:List α} (x:Int),(l.map f).Nodup→(l.filter λe=>f e==x).length≤1
 |[],_,_=>aE _
 |a::l,x,h=>by
  rw [aS,ba] at h
  have ih:=Yt (l:=l) x h.2
  by_cases c:(f a==x)=true
  ·rw [cx,al c]
   have:l.filter (λe=>f e==x)=[]:=List.filter_eq_nil_iff.mpr λe he hx=>h.1 (aJ.mpr ⟨e,he,by rw [eq_of_beq hx,eq_of_beq c]⟩)
   rw [this]
   exact ah _
  ·rw [cx,ai c]
   exact ih
theorem qzj {id:String}{d:Aj}{o:Obj}{es:Array DictEntry}{ep:Nat}{xs:List (List K×Aj×Ag)}{Q:Array DictEntry→Ab→Prop}(ho:s.heap.get? d=some o)(hd:o.data=.dict es ep)
  (he:es.toList=xs.map (entryOfKey (tupleKind knd))) (his:∀x∈xs,(tupleKind knd).is s.heap x.1 x.2.1) (hh:(xs.map λx=>(tupleKind knd).hash x.1).Nodup) (h:Q es s) :
  wpAny (model prog w) A (Builtin.Dict.entriesForEmpty id d) Q E s:=by
 unfold Builtin.Dict.entriesForEmpty
 refine ac (bI ho hd ?_)
 refine ac (aL (Q:=λ_ s'=>s'=s) ?_ (λ_ s' e=>by subst e;exact aj h) λ_ _ e=>e)
 rw [←Array.forIn_toList]
 refine wpAny_forIn_list _ (λrest _ s'=>s'=s∧∀e∈rest,e∈es.toList) _ ?_ (λ_ _ e=>e.1) _ _ ⟨rfl,λ_ h=>h⟩
 rintro e rest b s' ⟨rfl,hr⟩
 obtain ⟨x,hx,ex⟩:=aJ.mp (he▸hr e (.head _))
 have hi:=his x hx
 have tl:s'.TypeIs (.ref x.2.1) "tuple" := by
  obtain ⟨o',its,n,h1,h2,_⟩:=hi
  exact ⟨o',h1,h2⟩
 have ek:e.key=.ref x.2.1:=by rw [←ex];rfl
 have hsz:¬ (es.filter (·.hash==e.hash)).size>1:=by
  have h1:=Yt (f:=λe:DictEntry=>e.hash) (l:=es.toList) e.hash (by rw [he,bP];exact hh)
  have h2:(es.filter (·.hash==e.hash)).size=(es.toList.filter (·.hash==e.hash)).length:=by rw [←aR,Array.toList_filter]
  lia
 have tailok:∀e∈rest,e∈es.toList:=λe h=>hr e (.tail _ h)
 unfold Builtin.Dict.quietEq
 rw [ek]
 dsimp only
 refine ac (ac (eX tl PySem.F.slot_tuple_eq.lookup (aj ?_)))
 rw [ai hsz]
 show wpAny _ _ (if (!(_:Bool))=true then _ else _) _ _ _
 split
 ·exact aj ⟨rfl,tailok⟩
 ·exact aj ⟨rfl,tailok⟩
theorem qu4 {o:Aj}{xs:List (List K×Aj×Ag)}{Q:Ag→Ab→Prop}(hoS:(o==sysModules)=false)(ho:s.heap.DictOfH (tupleKind knd) o xs)(hsz:xs.length≤sizeLine)(h0:xs≠[])(hh:(xs.map λx=>(tupleKind knd).hash x.1).Nodup)
  (h:∀h',h'.DictOfH (tupleKind knd) s.heap.objs.size xs→Heap.SameBut s.heap.objs.size (s.heap.push { cls:=.type "dict",data:=.dict #[] }) h'→Q (.ref s.heap.objs.size) { s with heap:=h' }) :
  wpAny (model prog w) A (call (.type "dict") [.ref o]) Q E s:=by
 refine callType_codes (Q₁:=λobj s₁=>obj=.ref s.heap.objs.size∧s₁={ s with heap:=s.heap.push { cls:=.type "dict",data:=.dict #[] } }) PySem.F.kt_called_dict (PySem.F.kt_typeCall_dict_1 _) PySem.F.entry_dict_init (kt_code_dict_new _ ⟨rfl,rfl⟩) ?_
 rintro obj s₁ ⟨rfl,rfl⟩
 obtain ⟨oo,es,ep,hoo,hc,hd,he,his,hn⟩:=ho
 have hlt:o<s.heap.objs.size:=ak hoo
 have hnew:(s.heap.push { cls:=.type "dict",data:=.dict #[] }).get? s.heap.objs.size=some { cls:=.type "dict",data:=.dict #[] }:=ar _ rfl
 have tn:Shared.TypeIs { s with heap:=s.heap.push { cls:=.type "dict",data:=.dict #[] } } (.ref s.heap.objs.size) "dict" := ⟨_,hnew,rfl⟩
 have hoo':(s.heap.push { cls:=.type "dict",data:=.dict #[] }).get? o=some oo:=af _ hoo
 have to:Shared.TypeIs { s with heap:=s.heap.push { cls:=.type "dict",data:=.dict #[] } } (.ref o) "dict" := ⟨_,hoo',hc.1⟩
 have hdo:s.heap.objs.size≠o:=dL hlt
 refine ⟨tn,PySem.F.args_dict_init_2 _ _,?_⟩
 unfold Builtin.«dict.__init__»
 refine ac ?_
 unfold Builtin.Dict.selfAndRest
 refine ac (wpAny_notOrdered_dict tn ?_)
 show wpAny _ _ (pure (s.heap.objs.size,[Value.ref o])) _ _ _
 refine aj ?_
 show wpAny _ _ (Builtin.Dict.updateFrom "dict.__init__" s.heap.objs.size (.ref o) [] .none) _ _ _
 unfold Builtin.Dict.updateFrom
 refine ac (wpAny_typeOf to ?_)
 rw [ai (by decide)]
 refine ac ?_
 unfold Builtin.Dict.merge
 refine ac ?_
 unfold Builtin.Dict.readDirectly
 refine ac (wpAny_isInstance to isSubtype_dict_dict ?_)
 simp only [Bool.not_true,bW,de]
 refine ac (eX to PySem.F.slot_dict_iter.lookup (aj ?_))
 simp only [beq_self_eq_true,eN]
 refine ac (aj ?_)
 unfold Builtin.Dict.mergeDict
 rw [ai (by simpa using hdo)]
 unfold Builtin.Dict.showsAll
 rw [ai (by rw [hoS];exact aA)]
 refine ac (aj ?_)
 refine ac (bI hoo' hd ?_)
 have hne:es.toList≠[]:=by rw [he];intro z;exact h0 (List.map_eq_nil_iff.mp z)
 have hall:(es.all λe=>(keyPart e.key).isSome)=false:=by
  obtain ⟨x,ys,rfl⟩:∃x ys,xs=x::ys:=by
   cases xs with
   |nil=>exact absurd rfl h0
   |cons x ys=>exact ⟨x,ys,rfl⟩
  rw [←Array.all_toList,he]
  rfl
 have his':∀x∈xs,(tupleKind knd).is (s.heap.push { cls:=.type "dict",data:=.dict #[] }) x.1 x.2.1:=λx hx=>by
  obtain ⟨o',its,n,h1,r⟩:=his x hx
  exact ⟨o',its,n,af _ h1,r⟩
 dsimp only
 rw [hall,Bool.and_false]
 simp only [Bool.not_false,eN]
 refine ac (bI hnew rfl ?_)
 rw [al (show (#[]:Array DictEntry).isEmpty=true from rfl)]
 refine ac (qzj (knd:=knd) hoo' hd he his' hh ?_)
 have hem:es.isEmpty=false:=by
  rw [←Array.isEmpty_toList]
  cases hz:es.toList with
  |nil=>exact absurd hz hne
  |cons _ _=>rfl
 rw [hem]
 simp only [Bool.not_false,eN]
 have hsize:es.size=xs.length:=by rw [←aR,he,ae]
 refine ac (wpAny_updateDictKeysTo hnew rfl (aj ?_) (by show es.size≤_;lia))
 show wpAny _ _ (Builtin.Dict.addKeywords s.heap.objs.size [] >>= _) _ _ _
 refine ac (aj (aj ⟨rfl,h _ ⟨_,es,1,dk _ hnew (Obj.isFreed_of_dict (Obj.data_mapDictKeys rfl _)),⟨rfl,rfl,rfl⟩,rfl,he,λx hx=>?_,hn⟩ (cP ..)⟩))
 exact (tupleKind knd).keeps (his' x hx) hnew rfl (cP ..)
end
section
variable {X:Cx}
def uf (P:Ac)(w:Ah)(k:List Key):Int:=(tupleKind (xu P w)).hash k
theorem qv3:kj X (.type "dict") (λxs H Q=>∃a kvs,xs=[V.ref a]∧H a=some (.dT kvs)∧kvs≠[]∧(kvs.map λp=>uf X.prog X.w p.1).Nodup∧∀p,H p=none→Q (.ref p) (upd H p (.dT kvs))):=by
 intro pins s σ H xs us Q I r h
 obtain ⟨a,kvs,rfl,e,h0,hh,q⟩:=h
 obtain ⟨u,rfl,rx⟩:=jd r
 cases rx
 obtain ⟨z,hd,xs,rel,dd⟩:=Qg I.hok (.inl e)
 have hl:xs.length=kvs.length:=(be rel).symm
 have hm:∀ {kvs:List (List Key×V)} {xs:List (List Key×Aj×Ag)},KT H kvs xs→xs.map (λx=>(tupleKind (xu X.prog X.w)).hash x.1)=kvs.map λp=>uf X.prog X.w p.1:=by
  intro kvs xs r
  induction r with
  |nil=>rfl
  |cons h t ih=>rw [aS,aS,ih,h.1];rfl
 refine qu4 hd dd (by rw [hl];exact z) (λz=>h0 (dC (by rw [←hl,z];rfl))) (by rw [hm rel];exact hh) λh' dd' hs=>?_
 obtain ⟨o',es,ep,h1,h2,h3,h4,h5,h6⟩:=dd'
 refine ⟨.ref _,_,I.laid (a:=s.heap.objs.size) (o:=.dT kvs) (t':=s.toks) (λb q hq=>?_) (ah _) ⟨z,aK.mpr (aU (ax I.big)),xs,rel.keeps λc ys ec=>?_,o',es,ep,h1,h2,h3,h4,h6⟩,rfl,q _ (I.hok.fresh (ah _))⟩
 ·exact (hs.2 b (ax (ak hq))).trans (af _ hq)
 ·rw [wz (qg ec (I.hok.fresh (ah _)))]
  exact ec
def tDispT (tk tv:TE):TE:=λσ H Q=>∀p,H p=none→tk σ (upd H p (.dT [])) λx H1=>tv σ H1 λv H2=>∃b ks,x=.ref b∧H2 b=some (.tup (ks.map kV))∧H2 p=some (.dT [])∧Q (.ref p) (upd H2 p (.dT [(ks,v)]))
theorem wwm {k v:Expr}{pos:Pos}{tk tv:TE}(hu:X.A.units<cLine)(hk:PE X k tk)(hv:PE X v tv):PE X (.Dict [some k] [v] pos) (tDispT tk tv):=by
 intro pins s σ H Q I q
 have hn:=I.hok.fresh (ah s.heap.objs.size)
 have I1:=I.laid (a:=s.heap.objs.size) (o:=.dT []) (h':=s.heap.push { cls:=.type "dict",data:=.dict #[] }) (t':=s.toks) (λ_ _ q=>af _ q) (ah _) (qvj s.heap I.big)
 refine wpAny_Dict_any rfl rfl (λz=>by cases z) (show 1≤15 by decide) ?_
 refine pairTrees_cons_walk (thn (hk pins _ σ _ _ I1 (q _ hn)) λu s1 ⟨x,H1,I2,rx,q1⟩=>thn (hv pins s1 σ H1 _ I2 q1) λw2 s2 ⟨y,H2,I3,ry,b,ks,ex,eb,ep,q2⟩=>pairTrees_nil_walk ?_)
 subst ex
 cases (show u=Value.ref b from rx)
 obtain ⟨z,hd,xs,rel,dd⟩:=dt_of I3.hok ep
 cases rel
 unfold storeAll
 rw [List.forIn_cons]
 refine ac (ac (wpAny_dictSet_heap (knd:=tupleKind (xu X.prog X.w)) (hsz:=aE _) hu (yg I3.hok eb) dd λh' dd' hs=>aj ?_))
 refine aj ?_
 obtain ⟨o',es,ep',h1,h2,h3,h4,_,h6⟩:=dd'
 refine ⟨.ref _,_,uy I3 (by rw [ep];exact True.intro) hs ⟨o',h1⟩ (show ObjOk X.prog X.w (upd H2 s.heap.objs.size (.dT [(ks,y)])) h' s.heap.objs.size (.dT [(ks,y)]) from ⟨by show 1≤sizeLine;decide,hd,[(ks,b,w2)],.cons ⟨rfl,?_,ry⟩ .nil,o',es,ep',h1,h2,h3,h4,h6⟩),rfl,q2⟩
 rw [wz (ne_of eb ep (λz=>nomatch z))]
 exact eb
theorem uz {K:Aa}(hK:X.K=K){e:Expr}{f:Str}{pos:Pos}{ta:TE}(he:PE X e ta)(hb:attributeBase e f X.env (eval e X.env)=eval e X.env):PE X (.Attribute e f pos) (tFld K ta f):=by
 subst hK
 exact zq he hb
end
end L2
namespace L2
open PySem
namespace Hs
def rot (a:Nat):Nat:=(a*2 ^ 31)%18446744073709551616+a/2 ^ 33
def lane (a x:Nat):Nat:=(rot ((a+x*14029467366897019727)%18446744073709551616)*11400714785074694791)%18446744073709551616
def dOf (x:Nat):Nat:=(lane 2870177450012600261 x*839798700976720815)%18446744073709551616
def byD:List Nat:=[732,925,295,798,488,178,681,694,887,760,450,140,643,849,722,412,915,102,605,928,811,684,374,877,64,567,257,130,13,956,646,336,839,26,529,219,92,918,608,298,801,491,181,54,247,570,260,763,453,326,143,16,209,532,222,725,415,288,171,494,687,377,880,250,443,133,959,649,339,842,405,95,921,611,804,677,367,57,560,883,573,766,639,456,329,19,522,212,845,911,728,601,291,794,484,174,807,873,690,563,253,756,446,136,9,525,215,718,408,98,924,487,177,680,370,60,886,449,952,139,642,332,835,205,22,88,914,101,604,294,797,50,876,566,256,759,322,12,838,528,218,721,411,284,167,800,490,683,556,373,246,439,129,762,452,955,645,518,335,208,401,91,724,917,607,480,170,363,53,686,879,569,442,132,635,325,15,648,841,404,94,597,287,803,869,56,559,249,752,765,958,831,18,521,211,714,920,793,483,173,676,366,882,755,445,948,135,638,328,201,84,717,407,910,97,600,290,163,46,679,369,872,562,252,125,318,8,641,331,834,524,397,214,87,280,603,293,796,486,359,49,242,565,758,448,951,11,514,204,720,410,913,476,166,682,875,748,438,128,631,321,954,644,837,710,527,400,90,593,283,916,799,672,362,865,52,555,245,878,944,761,634,324,827,14,517,207,596,286,789,479,169,42,558,248,751,441,131,4,957,520,210,713,403,906,93,159,172,675,365,868,55,121,947,637,327,830,393,83,276,909,599,289,792,482,355,45,238,871,561,754,627,444,317,7,510,200,833,523,716,589,406,279,472,162,795,678,551,241,434,124,757,950,640,513,203,706,396,86,719,912,475,165,668,358,48,874,940,127,630,320,823,10,836,902,89,592,282,785,38,864,554,244,747,437,0,953,826,516,206,709,399,272,155,788,478,168,671,361,234,51,117,750,440,943,633,323,196,389,79,712,402,905,595,468,285,158,351,41,674,364,867,557,430,120,313,3,829,519,82,585,275,791,481,44,547,237,753,946,819,636,509,199,702,392,715,908,781,598,471,161,664,354,870,743,433,936,123,626,316,6,949,832,705,395,898,85,588,278,34,667,357,860,47,550,240,113,629,319,822,512,202,75,281,784,474,164,37,230,243,746,436,939,126,192,708,398,901,591,464,154,347,670,360,863,553,426,116,309,942,632,825,698,515,388,78,581,271,904,594,787,660,477,350,40,543,233,866,749,622,312,2,505,195,828,711,584,274,777,467,157,673,236,739,429,119,945,198,701,391,894,81,907,790,160,663,353,856,43,546,109,935,625,315,818,5,508,71,897,587,277,780,470,343,33,226,859,549,239,742,432,305,122,188,821,511,704,394,267,460,150,783,473,666,539,356,229,422,112,435,938,628,191,384,74,900,590,153,656,346,36,862,552,745,115,618,308,501,824,890,707,580,270,773,463,786,852,669,542,232,735,425,941,814,504,194,697,387,77,903,776,466,156,659,349,39,105,738,428,931,118,621,311,184,1,67,390,893,80,583,273,146,29,352,855,545,235,108,301,314,817,507,197,700,70,263,779,469,662,535,225,418,741,431,934,624,497,187,380,703,896,769,586,459,149,652,342,32,665,858,731,548,421,111,614,304,937,820,693,383,73,576,266,899,782,345,848,35,538,228,744,307,810,500,190,63,269,772,462,152,655,25,861,734,424,927,114,617,180,696,386,889,76,579,142,658,348,851,541,414,231,104,297,930,620,310,813,503,376,193,66,259,892,582,775,465,338,28,531,221,854,544,737,610,427,300,493,183,506,699,262,455,145,661,224,727,417,107,933,623,816,689,379,69,572,895,778,651,341,844,31,534,857,923,740,613,303,806,496,186,59,885,575,265,768,458,148,21,847,537,227,730,420,110,176,809,499,189,692,382,255,72,138,461,151,654,344,217,100,423,926,616,306,179,372,62,385,888,578,268,771,334,24,850,540,733,606,296,489,812,502,695,568,258,451,141,774,840,657,530,220,723,413,103,736,929,802,619,492,182,685,375,65,891,764,454,144,647,337,27,853,416,919,106,609,299,815,378,881,68,571,261,134,17,340,843,30,533,223,726,932,805,495,185,688,251,767,457,960,147,650,213,96,729,419,922,612,485,302,175,368,58,691,381,884,574,447,264,137,330,20,653,846,536,409,99,602,292,615,808,498,371,61,564,254,577,770,333,23,526,216]
def apart:List Nat→Bool
 |[]=>true
 |[_]=>true
 |x::y::l=>Nat.ble (dOf x+40) (dOf y)&&apart (y::l)
theorem qq5:apart byD=true:=by decide +kernel
theorem byD_lt:(byD.all λx=>Nat.blt x 961)=true:=by decide +kernel
theorem wzd:byD.length=961:=by decide +kernel
theorem Y0:(byD.all λx=>Nat.ble 40 (dOf x)&&Nat.ble (dOf x+40) 18446744073709551616&&!(Nat.ble (dOf x) 15746002411462551884&&Nat.ble 15746002411462551884 (dOf x+40)))=true:=by decide +kernel
theorem Y4:∀ {l:List Nat},apart l=true→l.Pairwise λx y=>dOf x+40≤dOf y
 |[],_=>.nil
 |[_],_=>eM _ _
 |x::y::l,h=>by
  have h:(Nat.ble (dOf x+40) (dOf y)&&apart (y::l))=true:=h
  rw [bc] at h
  have ih:=Y4 h.2
  have a:=bp h.1
  refine List.pairwise_cons.mpr ⟨λz hz=>?_,ih⟩
  rcases am.mp hz with rfl|hz
  ·exact a
  ·have:=(List.pairwise_cons.mp ih).1 z hz
   lia
theorem pw_two {l:List Nat}(h:l.Pairwise λx y=>dOf x+40≤dOf y):∀x∈l,∀y∈l,x≠y→dOf x+40≤dOf y∨dOf y+40≤dOf x:=by
 induction h with
 |nil=>intro x hx;cases hx
 |@cons b l a t ih =>
  intro x hx y hy ne
  rcases am.mp hx with hx|hx
  ·rcases am.mp hy with hy|hy
   ·exact absurd (hx.trans hy.symm) ne
   ·rw [hx];exact .inl (a y hy)
  ·rcases am.mp hy with hy|hy
   ·rw [hy];exact .inr (a x hx)
   ·exact ih x hx y hy ne
theorem Y3 {x:Nat}(h:x<961):x∈byD:=by
 apply bZ
 intro n
 have nd:byD.Nodup:=(Y4 qq5).imp λ{a b} q e=>by rw [e] at q;lia
 have:=L2.qxv (x::byD) (List.range 961) (ba.mpr ⟨n,nd⟩) λv hv=>by
  rcases am.mp hv with rfl|hv
  ·exact aN.mpr h
  ·exact aN.mpr (Nat.blt_eq.mp (bT.mp byD_lt v hv))
 rw [aT,wzd,aH] at this
 lia
theorem qkf (a:Nat):rot a=(a%8589934592)*2147483648+a/8589934592:=by
 unfold rot
 rw [show (18446744073709551616:Nat)=8589934592*2147483648 from rfl,show (2:Nat) ^ 31=2147483648 from rfl,Nat.mul_mod_mul_right]
theorem wvr {a b:Nat}(ha:a<18446744073709551616)(hb:b<18446744073709551616)(h:rot a=rot b):a=b:=by
 rw [qkf,qkf] at h
 have a1:a/8589934592<2147483648:=dD ha
 have b1:b/8589934592<2147483648:=dD hb
 have a2:=Nat.div_add_mod a 8589934592
 have b2:=Nat.div_add_mod b 8589934592
 generalize a/8589934592=q at *
 generalize b/8589934592=q' at *
 generalize a%8589934592=r at *
 generalize b%8589934592=r' at *
 lia
theorem ww5 {a:Nat}(ha:a<18446744073709551616):rot a<18446744073709551616:=by
 rw [qkf]
 have a1:a/8589934592<2147483648:=dD ha
 have a2:=cK a (show 0<8589934592 by decide)
 lia
theorem qzy {a:Nat}(ha:a<18446744073709551616):((a*11400714785074694791)%18446744073709551616*614540362697595703)%18446744073709551616=a:=by
 have h:(a*11400714785074694791*614540362697595703)%18446744073709551616=a:=by
  rw [Nat.mul_assoc,show 11400714785074694791*614540362697595703=1+18446744073709551616*379806830464837242 from rfl,Nat.mul_add,Nat.mul_one,show a*(18446744073709551616*379806830464837242)=18446744073709551616*(a*379806830464837242) by rw [Nat.mul_left_comm],Nat.add_mul_mod_self_left]
  exact Nat.mod_eq_of_lt ha
 rw [Nat.mul_mod,Nat.mod_mod,←Nat.mul_mod]
 exact h
theorem wzz {a b:Nat}(ha:a<18446744073709551616)(hb:b<18446744073709551616)(h:(a*11400714785074694791)%18446744073709551616=(b*11400714785074694791)%18446744073709551616):a=b:=by
 rw [←qzy ha,←qzy hb,h]
theorem qj4 {u x:Nat}:((u+x*14029467366897019727)%18446744073709551616*839798700976720815)%18446744073709551616=((u*839798700976720815)%18446744073709551616+x)%18446744073709551616:=by lia
theorem qvq {u v x y:Nat}(h:lane u x=lane v y):(u+x*14029467366897019727)%18446744073709551616=(v+y*14029467366897019727)%18446744073709551616:=by
 unfold lane at h
 have a:=cK (u+x*14029467366897019727) (show 0<18446744073709551616 by decide)
 have b:=cK (v+y*14029467366897019727) (show 0<18446744073709551616 by decide)
 exact wvr a b (wzz (ww5 a) (ww5 b) h)
theorem two_inj {x y x' y':Nat}(hx:x<961)(hx':x'<961)(hy:y≤40)(hy':y'≤40)(y1:1≤y)(y1':1≤y')(h:lane (lane 2870177450012600261 x) y=lane (lane 2870177450012600261 x') y'):x=x'∧y=y':=by
 have e:=qvq h
 have e1:=qj4 (u:=lane 2870177450012600261 x) (x:=y)
 have e2:=qj4 (u:=lane 2870177450012600261 x') (x:=y')
 have d1:dOf x=(lane 2870177450012600261 x*839798700976720815)%18446744073709551616:=by unfold dOf;rfl
 have d2:dOf x'=(lane 2870177450012600261 x'*839798700976720815)%18446744073709551616:=by unfold dOf;rfl
 rw [e,e2,←d1,←d2] at e1
 clear e e2 h d1 d2
 have q:=bT.mp Y0 x (Y3 hx)
 have q':=bT.mp Y0 x' (Y3 hx')
 rw [bc,bc] at q q'
 have q1:=bp q.1.1
 have q2:=bp q.1.2
 have q1':=bp q'.1.1
 have q2':=bp q'.1.2
 by_cases ne:x=x'
 ·subst ne
  exact ⟨rfl,by lia⟩
 ·have:=pw_two (Y4 qq5) x (Y3 hx) x' (Y3 hx') ne
  lia
theorem not_end {x y:Nat}(hx:x<961)(y1:1≤y)(hy:y≤40):(lane (lane 2870177450012600261 x) y+2870177450013471924)%18446744073709551616≠18446744073709551615:=by
 intro h
 have l1:lane (lane 2870177450012600261 x) y<18446744073709551616:=cK _ (by decide)
 have l2:lane (lane 2870177450012600261 x) y=lane 9148689060682678900 0:=by
  have:lane 9148689060682678900 0=15576566623696079691:=by decide +kernel
  rw [this]
  lia
 have e:=qvq l2
 have e1:=qj4 (u:=lane 2870177450012600261 x) (x:=y)
 have e2:=qj4 (u:=9148689060682678900) (x:=0)
 have d1:dOf x=(lane 2870177450012600261 x*839798700976720815)%18446744073709551616:=by unfold dOf;rfl
 rw [e,e2,←d1,show (9148689060682678900*839798700976720815)%18446744073709551616=15746002411462551884 by decide +kernel] at e1
 clear e e2 h d1 l1 l2
 have q:=bT.mp Y0 x (Y3 hx)
 rw [bc,bc] at q
 have q1:=bp q.1.1
 have q2:=bp q.1.2
 have q3:=q.2
 have a:Nat.ble (dOf x) 15746002411462551884=true:=Nat.ble_eq_true_of_le (by lia)
 have b:Nat.ble 15746002411462551884 (dOf x+40)=true:=Nat.ble_eq_true_of_le (by lia)
 rw [a,b] at q3
 cases q3
end Hs
def thG (M P1 P2 P5 C:Nat)(hashes:List Int):Int:=(λacc:Nat=>if acc==M-1 then 1546275796 else if acc<2 ^ 63 then (acc:Int) else (acc:Int)-M) ((hashes.foldl (λacc h=>((((acc+(h%(M:Int)).toNat*P2)%M)*2 ^ 31)%M+((acc+(h%(M:Int)).toNat*P2)%M)/2 ^ 33)*P1%M) P5+(hashes.length ^^^ (P5 ^^^ C)))%M)
theorem th_eq (hs:List Int):Builtin.Tuple.tupleHashOf hs=thG (2 ^ 64) 11400714785074694791 14029467366897019727 2870177450012600261 3527539 hs:=rfl
def laM (M P1 P2 a x:Nat):Nat:=(((a+x*P2)%M)*2 ^ 31%M+((a+x*P2)%M)/2 ^ 33)*P1%M
def finM (M:Nat)(acc:Nat):Int:=if acc==M-1 then (1546275796:Int) else if acc<2 ^ 63 then (acc:Int) else (acc:Int)-M
theorem wx9 (M P1 P2 P5 C:Nat)(a b:Int):thG M P1 P2 P5 C [a,b]=finM M ((laM M P1 P2 (laM M P1 P2 P5 (a%(M:Int)).toNat) (b%(M:Int)).toNat+([a,b].length ^^^ (P5 ^^^ C)))%M):=by
 unfold thG laM finM
 rw [List.foldl_cons,List.foldl_cons,List.foldl_nil]
theorem p64:(2:Nat) ^ 64=18446744073709551616:=rfl
theorem wxm (a x:Nat):laM (2 ^ 64) 11400714785074694791 14029467366897019727 a x=Hs.lane a x:=by
 unfold laM Hs.lane Hs.rot
 rw [p64]
theorem xc:(0+1+1 ^^^ (2870177450012600261 ^^^ 3527539):Nat)=2870177450013471924:=by decide +kernel
theorem wzx {u:Nat}(ne:u≠18446744073709551615)(lu:u<18446744073709551616):reduceHash (finM (2 ^ 64) u)=if u<9223372036854775808 then (u:Int) else (u:Int)-18446744073709551616:=by
 unfold finM
 rw [p64,ai (by simpa using ne),show (2:Nat) ^ 63=9223372036854775808 from rfl]
 unfold reduceHash
 by_cases c:u<9223372036854775808
 ·rw [al c,al (by simp;lia),ai (by simp),al c]
 ·rw [ai c,al (by simp;lia),ai (by simp;lia),ai c]
  lia
theorem hashI:∀x:Int,0≤x→x≤960→hashInt x=x:=λx h1 h2=>by
 have r:rawHash x=x:=by
  unfold rawHash
  dsimp only
  have e:((x.natAbs:Int)%((2 ^ 61-1:Nat):Int))=x:=by
   rw [show (2 ^ 61-1:Nat)=2305843009213693951 from rfl]
   lia
  rw [e,ai (show ¬ x<0 by lia),ai (by simp;lia)]
 unfold hashInt
 rw [r,ai (by simp;lia)]
theorem qzg {P:Ac}{w:Ah}{a b:Int}(a0:0≤a)(a1:a≤960)(b0:1≤b)(b1:b≤40):uf P w [.inl a,.inl b] =
  if (Hs.lane (Hs.lane 2870177450012600261 a.toNat) b.toNat+2870177450013471924)%18446744073709551616<9223372036854775808 then (((Hs.lane (Hs.lane 2870177450012600261 a.toNat) b.toNat+2870177450013471924)%18446744073709551616:Nat):Int) else (((Hs.lane (Hs.lane 2870177450012600261 a.toNat) b.toNat+2870177450013471924)%18446744073709551616:Nat):Int)-18446744073709551616:=by
 have ne:=Hs.not_end (x:=a.toNat) (y:=b.toNat) (by lia) (by lia) (by lia)
 have e0:uf P w [.inl a,.inl b]=reduceHash (Builtin.Tuple.tupleHashOf [hashInt a,hashInt b]):=by
  unfold uf
  rfl
 have ea:(a%((2 ^ 64:Nat):Int)).toNat=a.toNat:=by rw [p64];lia
 have eb:(b%((2 ^ 64:Nat):Int)).toNat=b.toNat:=by rw [p64];lia
 rw [e0,hashI a a0 a1,hashI b (by lia) (by lia),th_eq,wx9,ea,eb,wxm,wxm,aT,aT,cU,xc]
 have lu:=cK (Hs.lane (Hs.lane 2870177450012600261 a.toNat) b.toNat+2870177450013471924) (show 0<18446744073709551616 by decide)
 rw [show (Hs.lane (Hs.lane 2870177450012600261 a.toNat) b.toNat+2870177450013471924)%2 ^ 64=(Hs.lane (Hs.lane 2870177450012600261 a.toNat) b.toNat+2870177450013471924)%18446744073709551616 by rw [p64]]
 exact wzx ne lu
theorem wqf {P:Ac}{w:Ah}{a b a' b':Int}(a0:0≤a)(a1:a≤960)(b0:1≤b)(b1:b≤40)(a0':0≤a')(a1':a'≤960)(b0':1≤b')(b1':b'≤40)
  (h:uf P w [.inl a,.inl b]=uf P w [.inl a',.inl b']):a=a'∧b=b':=by
 rw [qzg a0 a1 b0 b1,qzg a0' a1' b0' b1'] at h
 have l1:Hs.lane (Hs.lane 2870177450012600261 a.toNat) b.toNat<18446744073709551616:=cK _ (by decide)
 have l2:Hs.lane (Hs.lane 2870177450012600261 a'.toNat) b'.toNat<18446744073709551616:=cK _ (by decide)
 have e:Hs.lane (Hs.lane 2870177450012600261 a.toNat) b.toNat=Hs.lane (Hs.lane 2870177450012600261 a'.toNat) b'.toNat:=by
  generalize Hs.lane (Hs.lane 2870177450012600261 a.toNat) b.toNat=u at *
  generalize Hs.lane (Hs.lane 2870177450012600261 a'.toNat) b'.toNat=v at *
  split at h <;> split at h <;> lia
 have:=Hs.two_inj (x:=a.toNat) (x':=a'.toNat) (y:=b.toNat) (y':=b'.toNat) (by lia) (by lia) (by lia) (by lia) (by lia) (by lia) e
 lia
end L2
namespace L2
open PySem PySem.Spec PySem.Calls PyProof.Rows
section
variable {Y:Cx}{kx vx:Expr}{tk te:TE}{c:Code}{p:Aj}{σ:St}{H:Hp}{pins:List (Aj×Obj)}{s:Ab}
def dctS (kx vx:Expr)(D:Aj)(env:Env)(c:Code):Sem PySem.Fin:=(eval kx env >>= λkv=>holding [kv] (eval vx env) >>= λvv=>standAt { kx.pos with endLine:=vx.pos.endLine,endCol:=vx.pos.endCol } >>= λ_=>holding [kv,vv] (dictSet D kv vv)) >>= λ_=>again c
theorem qu5 (kx vx target iter:Expr)(scope:Scope)(pos:Pos)(it:Ag)(D:Aj)(env:Env) :
  compTurn (.DictComp kx vx [⟨target,iter,[],0⟩] scope pos) 0 it (.ref D) env=(standAt iter.pos >>= λ_=>pyNext it >>= λr=>match r with|none=>pure (.done .next)|some v=>letOwnedTupleGo target it v >>= λ_=>assign target env v >>= λ_=>dctS kx vx D env (.compLoop (.DictComp kx vx [⟨target,iter,[],0⟩] scope pos) 0 it (.ref D) env)):=by rfl
theorem wxc {ys:List (Key×V)}{N:List (Key×V)→Hp→Prop}(hk:PE Y kx tk)(hv:PE Y vx te)(J:Inv Y pins σ H s)(hz:ys.length<sizeLine)
  (h:tk σ H λy H4=>te σ H4 λz H5=>∃k,y=kV k∧H5 p=some (.dK ys)∧N (zu ys k z) (upd H5 p (.dK (zu ys k z)))) :
  wpAny (model Y.prog Y.w) Y.A (dctS kx vx p Y.env c) (λr s5=>r=Fin.again c∧∃H5,Inv Y pins σ H5 s5∧∃zs,N zs H5) Y.xe s:=by
 refine ac (ac (aL (hk _ s _ H _ J h) (λkv s6 hr6=>?_) λ_ _ z=>z))
 obtain ⟨y,H4,J6,ry,h4⟩:=hr6
 refine ac (bR (aL (hv _ s6 _ H4 _ J6 h4) (λvv s7 hr7=>?_) λ_ _ z=>z))
 obtain ⟨z,H5,J7,rz,k,rfl,e5,n5⟩:=hr7
 refine ac (cQ (bR ?_))
 obtain ⟨zz,hd,vs,rel,dd⟩:=qqs J7.hok e5
 have hl:(zu ys k z).length≤sizeLine:=by have:=jq ys k z;lia
 refine wpAny_dictSet_pairs (hsz:=by rw [←rel.length];exact zz) (ug ry) dd λh' dd' hs=>aj ⟨rfl,_,?_,_,n5⟩
 have he:∃q,h'.get? p=some q:=let ⟨q,_,_,hq,_⟩:=dd';⟨q,hq⟩
 exact uy J7 (by rw [e5];exact True.intro) hs he (Ys hl hd (rel.put k rz) dd')
end
section
variable {X:Cx}{pins:List (Aj×Obj)}{σ:St}{H:Hp}{s2:Ab}{scope:Scope}{cl:List (Str×Aj)}{x:Str}{M:List Nat}{fp:List Aj}{C:Aj}{h1:Heap}{tk:Nat}
theorem Inv.compD (I:Inv X pins σ H s2)(hc:CapAll X.env cl)(hh:HasAll cl scope.names)(hm:CapIx X scope cl M)(hk:scope.kind=.function)(hC:s2.heap.objs.size<C)
  (keep:∀b o,s2.heap.get? b=some o→h1.get? b=some o) (hn:h1.Ns C λ_=>none) (hD:h1.get? s2.heap.objs.size=some { cls:=.type "dict",data:=.dict #[] })
  (hfp:∀b∈fp,jj X pins H b) (hob:∀b∈fp,∃o,s2.heap.get? b=some o) :
  Inv (zf X scope cl x M C s2 H fp (X.pn++pins)) [] (zd M σ none) (upd H s2.heap.objs.size (.dK [])) { s2 with heap:=h1,toks:=tk } :=
 I.compG (xs:=[x]) hc hh hm hk hC keep hn ⟨aE _,aK.mpr (aU (ax I.big)),[],.nil,by
  obtain ⟨o,es,ep,ho,r⟩:=Heap.DictOf.new (knd:=xu X.prog X.w) s2.heap
  have:o={ cls:=.type "dict",data:=.dict #[] }:=aw (ho.symm.trans (ar _ rfl))
  exact ⟨o,es,ep,by rw [this];exact hD,r⟩⟩ hfp hob
end
def qwn (J:It)(M:List Nat)(tk te:TE)(σ:St)(H1:Hp)(Q:VK):Prop:=∀p,H1 p=none→∃W:Nat→Nat→List (Key×V)→Hp→Prop,(∃m,W 0 m [] (upd H1 p (.dK []))) ∧
 ∀i m ys H2,W i m ys H2→H2 p=some (.dK ys)∧ys.length<sizeLine∧((J.stop i H2∧Q (.ref p) H2)∨(J.go i H2∧∀v H3,J.yld i H2 v H3 →
  tk (zd M σ (some v)) H3 λy H4=>te (zd M σ (some v)) H4 λz H5=>∃k,y=kV k∧H5 p=some (.dK ys)∧∃m',m'<m∧W (i+1) m' (zu ys k z) (upd H5 p (.dK (zu ys k z)))))
def tDComp (M:List Nat)(wi:TI)(tk te:TE):TE:=λσ H Q=>wi σ H λJ H1=>qwn J M tk te σ H1 Q
section
variable {X:Cx}{kx vx iter:Expr}{x:Str}{px pos:Pos}{scope:Scope}{cl:List (Str×Aj)}{M:List Nat}{wi:TI}{tk te:TE}{pins:List (Aj×Obj)}{σ:St}
theorem qk2 {tg:Expr}(hclos:closureFor scope X.env=pure cl)(hhas:HasAll cl scope.names)(hk:scope.kind=.function)
  (hnames:∀y∈scope.names,y.2=.local→scope.names.lookup y.1=some .local) (hi:PI X tg iter wi) (hs:∀z,foldedSetIterable iter X.env z=pure z)
  {use:Option (Ag→Sem Unit)} {QQ:Ag→Ab→Prop} {s:Ab} {H:Hp} {ps:Pos} {R:It→Hp→Prop} (I:Inv X pins σ H s) (h:wi σ H R)
  (go:∀(it:Aj) (fp:List Aj) (tn:Nat→Heap→Prop) (J:It) (H1:Hp) (s2:Ab) (C:Aj) (h3:Heap) (tn2:Nat),Inv X pins σ H1 s2→Turn X.prog X.w X.K tg J fp it tn→tn 0 h3→(∀b∈fp,jj X pins H1 b)→(∀b∈fp,b<s2.heap.objs.size)→(∀b∈fp,∃o,s2.heap.get? b=some o)→R J H1→s2.heap.objs.size<C →
   (∀b o,s2.heap.get? b=some o→h3.get? b=some o)→(h3.Ns C λ_=>none)→h3.get? s2.heap.objs.size=some { cls:=.type "dict",data:=.dict #[] } →
   codeAny (model X.prog X.w) X.A (.compLoop (.DictComp kx vx [⟨tg,iter,[],0⟩] scope pos) 0 (.ref it) (.ref s2.heap.objs.size) (compEnvC scope cl C X.env)) (compPost (model X.prog X.w) X.A X.xe use QQ (.ref s2.heap.objs.size) C) { s2 with heap:=h3,toks:=tn2 }) :
  wpAny (model X.prog X.w) X.A (comprehension (.DictComp kx vx [⟨tg,iter,[],0⟩] scope pos) scope X.env ps newDict false (eval iter X.env) use) QQ X.xe s:=by
 refine cR (use:=use) rfl hs hclos hk hnames ?_
 refine thn (hi pins s σ H _ I h) λv s1 h1=>thn h1 λitv s2 h2=>?_
 obtain ⟨it,fp,tn,J,H1,rfl,I2,T,t0,hfp,hR⟩:=h2
 refine bG ?_
 refine dz hhas.nocell (by intro y hy;cases hy) (λh3 hns hsb=>?_) hk
 dsimp only at hns hsb ⊢
 generalize hH2:s2.heap.push { cls:=.type "dict",dict:=none,data:=.dict #[] }=G2 at hns hsb ⊢
 have hC:G2.objs.size=s2.heap.objs.size+1:=by rw [←hH2,da]
 have hlt:s2.heap.objs.size<G2.objs.size:=by lia
 have keep:∀b o,s2.heap.get? b=some o→h3.get? b=some o:=λb o e=>by
  rw [hsb.2 b (ax (bt (ak e) hlt))]
  exact af _ (hH2▸af _ e)
 have hD:h3.get? s2.heap.objs.size=some { cls:=.type "dict",data:=.dict #[] }:=by
  rw [hsb.2 _ (ax hlt)]
  exact af _ (hH2▸ar _ rfl)
 have t3:=T.keep 0 _ _ t0 λb _ o e=>keep b o e
 have loop:=λtn2=>go it fp tn J H1 s2 G2.objs.size h3 tn2 I2 T t3 hfp (λb hb=>let ⟨o,e,_⟩:=T.obj 0 _ t0 b hb;ak e) (λb hb=>let ⟨o,e,_⟩:=T.obj 0 _ t0 b hb;⟨o,e⟩) hR hlt keep hns hD
 exact codeAny_compStart_dict (loop _) (T.self _ 0 _ _ _ t3 (loop _))
end
section
variable {X:Cx}{kx vx iter:Expr}{x:Str}{px pos:Pos}{scope:Scope}{cl:List (Str×Aj)}{M:List Nat}{wi:TI}{tk te:TE}
theorem qy7 (hc:X.calm=true)(hclos:closureFor scope X.env=pure cl)(hcap:CapAll X.env cl)(hhas:HasAll cl scope.names)(hix:CapIx X scope cl M)(hk:scope.kind=.function)
  (hnames:∀y∈scope.names,y.2=.local→scope.names.lookup y.1=some .local) (hx:scope.names.lookup x=some .local) (hnd:(Y8 X x M).Nodup) (hi:PI X (.Name x px) iter wi)
  (hkx:∀C s2 H2 fp pn,PE (zf X scope cl x M C s2 H2 fp pn) kx tk) (he:∀C s2 H2 fp pn,PE (zf X scope cl x M C s2 H2 fp pn) vx te) (hs:∀z,foldedSetIterable iter X.env z=pure z)
  {use:Option (Ag→Sem Unit)} {QQ:Ag→Ab→Prop} {pins:List (Aj×Obj)} {s:Ab} {σ:St} {H:Hp} {Q:VK} {ps:Pos} (I:Inv X pins σ H s) (h:wi σ H λJ H1=>qwn J M tk te σ H1 Q)
  (fin:∀(C:Aj) (s2 s4:Ab) (H1 H2:Hp) (fp:List Aj),Inv X pins σ H1 s2→s2.heap.objs.size<C→(∀b∈fp,jj X pins H1 b)→Inv (zf X scope cl x M C s2 H1 fp (X.pn++pins)) [] (zd M σ none) H2 s4→Q (.ref s2.heap.objs.size) H2 →
   compPost (model X.prog X.w) X.A X.xe use QQ (.ref s2.heap.objs.size) C (.ok .next) s4) :
  wpAny (model X.prog X.w) X.A (comprehension (.DictComp kx vx [⟨.Name x px,iter,[],0⟩] scope pos) scope X.env ps newDict false (eval iter X.env) use) QQ X.xe s:=by
 refine qk2 hclos hhas hk hnames hi hs I h λit fp tn J H1 s2 C h3 tn2 I2 T t3 hfp hbl hob hR hlt keep hns hD=>?_
 obtain ⟨W,⟨m0,w0⟩,hW⟩:=hR s2.heap.objs.size (I2.hok.fresh (ah _))
 have hxl:(relabel scope X.env).names.lookup x=some .local:=dA hx
 refine Wd (Y:=zf X scope cl x M C s2 H1 fp (X.pn++pins)) (V:=λi n H2=>∃ys,W i n ys H2) (Qd:=Q (.ref s2.heap.objs.size)) (REST:=dctS kx vx s2.heap.objs.size (compEnvC scope cl C X.env) _) T hc (λ_ _ z=>z) (qu5 ..) rfl rfl (xv (i:=0) hnd rfl (.inl hxl) (.inr hxl)) (qwp hcap I2 hlt hfp hbl) (λi n H2 ⟨ys,w⟩=>?_) (λH2 s4 J4 q=>fin C s2 s4 H1 H2 fp I2 hlt hfp J4 q) (I2.compD hcap hhas hix hk hlt keep hns hD hfp hob) ⟨[],w0⟩ t3 λb hb=>by rw [wz (ax (hbl b hb))];exact (hfp b hb).1
 obtain ⟨hp,hz,hcase⟩:=hW i n ys H2 w
 refine hcase.imp id λ⟨hgo,hy⟩=>⟨hgo,λv H3 yl=>⟨λσ4 H4=>σ4=zd M σ (some v)∧H3=H4,⟨rfl,rfl⟩,λ_ _ e=>?_⟩⟩
 obtain ⟨rfl,rfl⟩:=e
 refine ⟨u9 M σ v,λpins' s' J=>?_⟩
 refine aL (wxc (N:=λzs H5=>∃m',m'<n∧W (i+1) m' zs H5) (hkx _ _ _ _ _) (he _ _ _ _ _) J hz (hy v H3 yl)) (λr s5 ⟨e,H5,J5,zs,m',hm,w'⟩=>⟨e,H5,J5,m',hm,zs,w'⟩) λ_ _ z=>z
theorem W0 {i:Nat}{y:Str}{py spos:Pos}(hN:X.N.Nodup)(hyi:X.N[i]?=some y)(hyl:Loc X.env.scope y)(hc:X.calm=true)(hclos:closureFor scope X.env=pure cl)(hcap:CapAll X.env cl)(hhas:HasAll cl scope.names)(hix:CapIx X scope cl M)(hk:scope.kind=.function)
  (hnames:∀y∈scope.names,y.2=.local→scope.names.lookup y.1=some .local) (hx:scope.names.lookup x=some .local) (hnd:(Y8 X x M).Nodup) (hi:PI X (.Name x px) iter wi)
  (hkx:∀C s2 H2 fp pn,PE (zf X scope cl x M C s2 H2 fp pn) kx tk) (he:∀C s2 H2 fp pn,PE (zf X scope cl x M C s2 H2 fp pn) vx te) (hs:∀z,foldedSetIterable iter X.env z=pure z:=by intro _;rfl)
  (hsw:swapsWith (.DictComp kx vx [⟨.Name x px,iter,[],0⟩] scope pos) (some (.Name y py)) spos.line X.env=pure true:=by rfl) (hyf:X.fn y=true∨X.env.scope.names.lookup y=some .local:=by first | exact .inl rfl | exact .inr rfl | assumption) :
  PS X (.Assign [.Name y py] (.DictComp kx vx [⟨.Name x px,iter,[],0⟩] scope pos) spos) (tAsg (tDComp M wi tk te) (wq6 i)):=by
 intro pins s σ H D I h
 rw [exec_Assign_Name_used _ _ _ _ hsw]
 refine ac (cQ (ac ?_))
 refine ac (aL (qy7 hc hclos hcap hhas hix hk hnames hx hnd hi hkx he hs (use:=some (assign (.Name y py) X.env)) (QQ:=λ_ s'=>SP X pins D .next s') I h λC s2 s4 H1 H2 fp I2 hlt hfp J4 hq=>?_) (λ_ s' hq=>aj (aj hq)) λ_ _ e=>e)
 have I4:Inv X pins σ H2 s4:=I2.uncomp (h':=s4.heap) (bC hlt) hfp J4 (Heap.SameBut.refl _ _)
 have hCn:H2 C=none:=J4.free
 obtain ⟨mC,hnC,_⟩:=J4.loc
 obtain ⟨oC,esC,epC,hoC,hdC⟩:=id hnC
 have hCl:C≠X.env.locals:=λz=>aV _ (bt hlt (z▸I2.lt))
 have hCs:X.s₀.heap.objs.size≤C:=bB I2.sz (bC hlt)
 have hCc:∀y c,X.env.cells.lookup y=some c→c≠C:=λy c e z=>by
  obtain ⟨v,o,e1,_⟩:=I2.cell y c e
  exact aV _ (bt hlt (z▸ak e1))
 have hCp:∀p∈X.pn++pins,p.1≠C:=λp hp z=>aV _ (bt hlt (z▸ak (I2.pin p hp).1))
 have hCf:C∉frs X.stack:=λz=>by
  rcases am.mp (I2.stkSub C z) with q|q
  ·exact hCl q
  ·obtain ⟨_,o,e1,_⟩:=I2.funs.mem (b:=C) q
   exact aV _ (bt hlt (ak e1))
 have hCx:C∉X.fs:=λz=>by
  obtain ⟨_,o,e1,_⟩:=I2.funs.mem (b:=C) z
  exact aV _ (bt hlt (ak e1))
 have I4p:Inv X (pins++[(C,oC)]) σ H2 s4:=⟨I4.ok,I4.os,I4.bare,I4.base,I4.loc,I4.cell,I4.free,I4.freeC,λp hp=>by
  rcases aZ.mp hp with q|q
  ·exact I4.pin p (cG _ q)
  ·rcases aZ.mp q with q|q
   ·exact I4.pin p (aB _ q)
   ·rw [aq.mp q]
    exact ⟨hoC,hCn,hCl,hCx,λv z=>by rw [hdC.1] at z;cases z⟩,I4.hok,I4.len⟩
 show wpAny _ _ (assign (.Name y py) X.env (.ref s2.heap.objs.size)) _ _ _
 refine wpAny_assign_Name (j6 I4p hN hyi hyl (show RelV (.ref s2.heap.objs.size) (.ref s2.heap.objs.size) from rfl) (λs5 I5=>?_) hyf)
 have hC5:=(I5.pin (C,oC) (aB _ (aB _ (.head _)))).1
 exact ⟨mC,⟨oC,esC,epC,hC5,hdC⟩,λh' hs'=>⟨_,H2,I5.unpinned.but hCn hCs hCl hCc hCp hs',hq⟩⟩
end
end L2
namespace L2
open PySem PySem.Spec PyProof.Rows
def ww8 (K:Aa)(C D:Aj):Prop:=∀ {M:Model} {A:Ae} {E:Ag→Ab→Prop} {h:Heap} {g:Array GenState} {d:Drawn} {t:Nat} {os:OsState} {e:Aj} {oe:Obj} {Q:Bool→Ab→Prop},
 K.In h→h.get? e=some oe→oe.cls=.ref C→Q false ⟨h,g,d,t,os⟩→wpAny M A (excMatches (.ref e) (.ref D)) Q E ⟨h,g,d,t,os⟩
theorem qkx {K:Aa}{C D:Aj}(d:ExcC K D)(hm:PySem.W.mroIn K C (.ref D)=some false):ww8 K C D:=by
 intro M A E h g dr t os e oe Q X he hc q
 obtain ⟨tl,N,a1,a2,a3,a4,a5,a6,a7,a8,a9,b0,b1,b2,b3,b5,mN,hC,hN,hni,T⟩:=qw0 X d.q
 have hbase:=T.hasType bU.hasBase
 have hcB:(Value.ref D::tl).contains (.type "BaseException")=true:=by rw [List.contains_cons,hbase,Bool.or_true]
 have L:PySem.W.Looks M h (isSubtype (.ref C) (.ref D)) false:=PySem.W.looks_mroIn X hm
 have f:=tc_notTuple
 unfold excMatches
 repeat (first | (with_reducible refine wpAny_loadPart_at he ?_;rw [hc]) | with_reducible refine wpAny_loadPart_at hC ?_ | (with_reducible refine wpAny_isSubtype_exc hC ?_;rw [hcB]) | with_reducible refine L.at ?_ | wp_step)
 exact q
section
variable {X:Cx}{pins:List (Aj×Obj)}{σ:St}{H H':Hp}{s s':Ab}{e:Aj}
theorem land2 {E:XK}{ev:Ag}{x x1:Str}{D0 D1:Aj}{np hpos np1 hpos1:Pos}{b₀ b₁:Stmt}{suite suite1:List Stmt}{th th1:TS}{D:Ends}(I:Inv X pins σ H s)(hst:X.stack=X.env::X.outer)(hfr:X.env.frame=some X.env.locals)
  (hg:Gl X x) (hm:X.mg x=some (.ref D0)) (hdb:(x==("__debug__" : Str))=false) (hg1:Gl X x1) (hm1:X.mg x1=some (.ref D1)) (hdb1:(x1==("__debug__" : Str))=false) (hx:CXE X.prog X.w X.stack H s E ev s') (hE:∀c d H',E c d H'→∃C,c=.ref C∧((Y2 X.K C D0∧th D σ H')∨(ww8 X.K C D0∧Y2 X.K C D1∧th1 D σ H'))) (hh:∀e,PSs (X.handling e) (b₀::suite) th) (hh1:∀e,PSs (X.handling e) (b₁::suite1) th1) :
  wpAny (model X.prog X.w) X.A (noteFrame ev X.env) (λ_ s2=>wpAny (model X.prog X.w) X.A (setFlight ev none) (λ_ s3 =>
   wpAny (model X.prog X.w) X.A (handleBy ev X.env (.ExceptHandler (some (.Name x np)) none (b₀::suite) hpos::[.ExceptHandler (some (.Name x1 np1)) none (b₁::suite1) hpos1])) (SP X pins D) X.xe s3) X.xe s2) X.xe s':=by
 obtain ⟨a,C,a0,B,H',rfl,hos,hba,un,hokB,hfl,old,q⟩:=hx
 obtain ⟨C1,e1,hcase⟩:=hE _ _ _ q
 cases e1
 have mk:∀(h6:Heap),Heap.FlyingW B X.stack a (.ref C) a0 h6→s'.heap.UpToSlots h6→Inv X pins σ H' { s' with heap:=h6 }:=λh6 fl up=>by
  refine I.call' (s':={ s' with heap:=h6 }) (ch:=[]) hos ⟨λb o e n nb _=>?_,λb o e n hb _=>?_,λb o e n _=>un.free b o e n nin,λb o e _=>?_,un.tups,un.frzs,un.tbls⟩ (hokB.kept fl.1) hba (λb z=>nomatch z)
  ·obtain ⟨o',e1,e2⟩:=old b o e nb
   rw [e2 n] at e1
   exact fl.1 b o e1
  ·obtain ⟨sl,e2⟩:=un.slot b o e n hb nin
   obtain ⟨_,o3,e3,nf⟩:=hfl.2.2.1.mem (b:=b) hb
   obtain ⟨sl4,e4⟩:=up b o3 e3 nf
   rw [e2] at e3
   have e5:=aw e3
   exact ⟨sl4,by show h6.get? b=_;rw [e4,←e5]⟩
  ·by_cases hb:b∈frs X.stack
   ·obtain ⟨_,o3,e3,nf⟩:=hfl.2.2.1.mem (b:=b) hb
    obtain ⟨sl4,e4⟩:=up b o3 e3 nf
    exact ⟨_,e4⟩
   ·obtain ⟨o',e1,_⟩:=old b o e hb
    exact ⟨o',fl.1 b o' e1⟩
 have hfrm:X.A.frames=some (X.env::X.outer):=by rw [←hst];exact I.ok.frames
 have hfl':Heap.FlyingW B (X.env::X.outer) a (.ref C) a0 s'.heap:=by rw [←hst];exact hfl
 refine wpAny_looks_onW hfrm hfr hfl' λh4 held4 up4=>?_
 refine wpAny_landsW held4 λh5 fl5 up5=>?_
 have I5:=mk h5 (by rw [hst];exact fl5) (up4.trans up5)
 have I5h:=I5.handling a
 obtain ⟨ob,hob,hobc⟩:=fl5.there
 obtain ⟨hp,gg,dd,tk,os⟩:=s'
 rcases hcase with ⟨hcat,hth⟩|⟨hmiss,hcat,hth⟩
 ·refine dJ (dm (jc (X:=X.handling a) I5h hg hm ?_ hdb)) (by intro z;cases z)
  refine hcat (h:=h5) I5.kIn hob hobc ?_
  refine codeAny_handlers_suite ?_
  refine lands_againW fl5 λh6 fl6 up6=>?_
  have I6:=(mk h6 (by rw [hst];exact fl6) ((up4.trans up5).trans up6)).handling a
  exact aL (hh a pins _ σ H' D I6 hth) (λf s2 h2=>h2.unhandling I.ok) λ_ _ z=>z.elim
 ·refine dJ (dm (jc (X:=X.handling a) I5h hg hm ?_ hdb)) (by intro z;cases z)
  refine hmiss (h:=h5) I5.kIn hob hobc ?_
  refine dJ (dm (jc (X:=X.handling a) I5h hg1 hm1 ?_ hdb1)) (by intro z;cases z)
  refine hcat (h:=h5) I5.kIn hob hobc ?_
  refine codeAny_handlers_suite ?_
  refine lands_againW fl5 λh6 fl6 up6=>?_
  have I6:=(mk h6 (by rw [hst];exact fl6) ((up4.trans up5).trans up6)).handling a
  exact aL (hh1 a pins _ σ H' D I6 hth) (λf s2 h2=>h2.unhandling I.ok) λ_ _ z=>z.elim
end
def tTry2 (K:Aa)(D0 D1:Aj)(tb:(St→XK)→TS)(th th1:TS):TS:=λD σ H=>tb (λσ' c _ H'=>∃C,c=.ref C∧((Y2 K C D0∧th D σ' H')∨(ww8 K C D0∧Y2 K C D1∧th1 D σ' H'))) D σ H
section
variable {X:Cx}{x x1:Str}{D0 D1:Aj}{np hpos np1 hpos1 pos:Pos}{b₀ b₁:Stmt}{body suite suite1:List Stmt}{tb:(St→XK)→TS}{th th1:TS}
theorem wzn (hst:X.stack=X.env::X.outer)(hfr:X.env.frame=some X.env.locals)(hg:Gl X x)(hm:X.mg x=some (.ref D0))(hg1:Gl X x1)(hm1:X.mg x1=some (.ref D1))
  (hb:∀(pn:List (Aj×Obj)) (xe:Ag→Ab→Prop) (E:St→XK),jx (X.trying pn xe) E→PassesOwn (model X.prog X.w) X.A X.env xe→PSs (X.trying pn xe) body (tb E))
  (hh:∀e,PSs (X.handling e) (b₀::suite) th) (hh1:∀e,PSs (X.handling e) (b₁::suite1) th1) (hdb1:(x1==("__debug__" : Str))=false:=by decide) (hdb:(x==("__debug__" : Str))=false:=by decide) :
  PS X (.Try body [.ExceptHandler (some (.Name x np)) none (b₀::suite) hpos,.ExceptHandler (some (.Name x1 np1)) none (b₁::suite1) hpos1] [] [] pos) (tTry2 X.K D0 D1 tb th th1):=by
 intro pins s σ H D I h
 refine wpAny_Try_except ?_
 refine aL (hb (X.pn++pins) (λe s₁=>wpAny (model X.prog X.w) X.A (noteFrame e X.env) (λ_ s₂=>wpAny (model X.prog X.w) X.A (setFlight e none) (λ_ s₃ =>
   wpAny (model X.prog X.w) X.A (handleBy e X.env [.ExceptHandler (some (.Name x np)) none (b₀::suite) hpos,.ExceptHandler (some (.Name x1 np1)) none (b₁::suite1) hpos1]) (SP X pins D) X.xe s₃) X.xe s₂) X.xe s₁) _ ?_ PassesOwn.looking [] s σ H D (I.trying _) h) (λf s1 h1=>?_) λ_ _ z=>z
 ·intro pins' σ' H1 s1 e s1' I1 hx
  exact land2 (X:=X) (I1.untrying I.ok) hst hfr hg hm hdb hg1 hm1 hdb1 hx (λc d H' q=>q) hh hh1
 ·have h2:=h1.untrying I.ok
  cases f with
  |next=>exact cS h2
  |brk=>exact h2
  |cont=>exact h2
  |ret u=>exact h2
end
end L2
namespace L2
open PySem PySem.Spec PyProof.Rows
theorem qyg (bs:List Bool):(List.range bs.length).any (λi=>bs.getD i false)=bs.any id:=by
 rw [cb,cN,cN]
 constructor
 ·rintro ⟨i,hi,h⟩
  have hi':=aN.mp hi
  rw [av,ag hi'] at h
  exact ⟨bs[i],bS hi',h⟩
 ·rintro ⟨b,hb,h⟩
  obtain ⟨i,hi,rfl⟩:=bL hb
  refine ⟨i,aN.mpr hi,?_⟩
  rw [av,ag hi]
  exact h
section
variable {X:Cx}{K:Aa}
theorem qqm (hc:X.calm=true)(hK:X.K=K):kj X (.builtin "any") (λxs H Q=>∃(p:Aj) (bs:List Bool),xs=[.ref p]∧SqL K H p (bs.map V.bl)∧Q (.bl (bs.any id)) H):=by
 subst hK
 intro pins s σ H xs us Q I r h
 obtain ⟨p,bs,rfl,hS,q⟩:=h
 obtain ⟨u,rfl,ru⟩:=jd r
 cases (show u=Value.ref p from ru)
 obtain ⟨its,rv,⟨o,n,e1,e2,e3,e4⟩,hz⟩:=I.list hS
 have hits:=Yr rv
 have hl:s.heap.IsList p its.toArray:=⟨o,e1,e2,n,e4⟩
 have hlt:p<s.heap.objs.size:=ak e1
 refine call_any_walk (d8 hl ?_)
 refine ⟨s.heap.objs.size,_,_,_,_,_,λi=>bs.getD i false,rfl,Walks.list (A:=X.A.in1) (I.ok.hd hc) _ p (ax hlt) its.toArray,⟨⟨_,ar _ rfl,rfl,rfl⟩,hl.push _⟩,λi v s' Q' E' hP hQ=>?_,λh' tk hk=>?_⟩
 ·have hv:its[i]?=some v:=by simpa using hP
  rw [hits,aG] at hv
  cases hb:bs[i]? with
  |none=>rw [hb] at hv;cases hv
  |some b =>
   rw [hb] at hv
   have ev:Value.bool b=v:=aw hv
   subst ev
   refine bF ?_
   have e2:bs.getD i false=b:=by rw [av,hb];rfl
   have hQ':Q' (bs.getD i false) s':=hQ
   rw [e2] at hQ'
   exact hQ'
 ·have hlen:its.toArray.size=bs.length:=by rw [hits];simp
  rw [hlen,qyg]
  refine ⟨.bl _,H,I.kept λb ob e=>hk b ob (λhm=>?_) (af _ e),rfl,q⟩
  have z:b=s.heap.objs.size:=by simpa using hm
  exact aV _ (z▸ak e)
end
end L2
namespace L2
open PySem
theorem wqw {M:List Nat}{x:Str}{te:TE}{σ:St}{H:Hp}{Q:VK}(f:Nat→V)(hn:x.cps.size≤1000000)(he:∀(i:Nat) (H':Hp) (R:VK),i<x.cps.size→Same H H'→R (f i) H'→te (zd M σ (some (.str ⟨#[x.cps.getD i 0]⟩))) H' R)
  (k:∀p,H p=none→Q (.ref p) (upd H p (.lst ((List.range x.cps.size).map f)))):qq6 (ItS x) M te σ H Q:=by
 intro p np
 refine ⟨λi m ys H2=>i≤x.cps.size∧m=x.cps.size-i∧ys=(List.range i).map f∧H2=upd H p (.lst ys),⟨x.cps.size,aE _,rfl,rfl,rfl⟩,?_⟩
 rintro i m ys H2 ⟨hi,rfl,rfl,rfl⟩
 refine ⟨qm,?_,?_⟩
 ·rw [ae,aH]
  have:(1000000:Nat)<sizeLine:=by decide
  lia
 ·by_cases hlt:i<x.cps.size
  ·refine .inr ⟨hlt,?_⟩
   rintro v H3 ⟨rfl,rfl⟩
   refine he i (upd H p (.lst ((List.range i).map f))) _ hlt (Same.upd np) ⟨qm,x.cps.size-(i+1),by lia,by lia,rfl,?_,?_⟩
   ·rw [ce,aP]
    rfl
   ·rw [yk]
  ·refine .inl ⟨by show x.cps.size≤i;lia,?_⟩
   have:i=x.cps.size:=by lia
   subst this
   exact k p np
theorem wqs {M:List Nat}{d:Aj}{o:Obj}{cs:List (Key×V)}{tk te:TE}{σ:St}{H:Hp}{Q:VK}(f:Key→V)(hz:cs.length≤1000000)(nd:(cs.map (·.1)).Nodup)(hd:H d=some (.frz o (.dK cs)))
  (he:∀(k:Key) (H':Hp) (R:V→V→Hp→Prop),Same H H'→R (kV k) (f k) H'→tk (zd M σ (some (kV k))) H' λy H4=>te (zd M σ (some (kV k))) H4 λz H5=>R y z H5)
  (k:∀p,H p=none→Q (.ref p) (upd H p (.dK (cs.map λc=>(c.1,f c.1))))):qwn (ItD d o cs) M tk te σ H Q:=by
 intro p np
 have big:(1000000:Nat)<sizeLine:=by decide
 refine ⟨λi m ys H2=>i≤cs.length∧m=cs.length-i∧ys=(cs.take i).map (λc=>(c.1,f c.1))∧H2=upd H p (.dK ys),⟨cs.length,aE _,rfl,rfl,rfl⟩,?_⟩
 rintro i m ys H2 ⟨hi,rfl,rfl,rfl⟩
 have dp:d≠p:=qg hd np
 refine ⟨qm,by rw [ae,bA];lia,?_⟩
 by_cases hlt:i<cs.length
 ·refine .inr ⟨⟨by rw [wz dp];exact hd,hlt⟩,?_⟩
  rintro v H3 ⟨rfl,c,ec,rfl⟩
  refine he c.1 _ _ (Same.upd np) ⟨c.1,rfl,qm,cs.length-(i+1),by lia,by lia,rfl,?_,?_⟩
  ·have hn:w9 ((cs.take i).map λc=>(c.1,f c.1)) c.1=none:=by
    unfold w9
    rw [dY.mpr]
    ·rfl
    ·intro x hx
     obtain ⟨y,hy,rfl⟩:=aJ.mp hx
     have hy2:y.1∈(cs.map (·.1)).take i:=by rw [←fk];exact aJ.mpr ⟨y,hy,rfl⟩
     intro z
     have z:y.1=c.1:=by simpa using z
     obtain ⟨j,hj,ej⟩:=bL hy2
     rw [bA,ae] at hj
     rw [List.getElem_take] at ej
     have e2:(cs.map (·.1))[i]'(by rw [ae];exact hlt)=c.1:=by
      rw [List.getElem_map]
      rw [ag hlt] at ec
      rw [aw ec]
     have:=(eB nd).mp (ej.trans (z.trans e2.symm))
     lia
   rw [yb _ hn,dj,aP,ec]
   rfl
  ·rw [yk]
 ·refine .inl ⟨⟨by rw [wz dp];exact hd,by lia⟩,?_⟩
  have:i=cs.length:=by lia
  subst this
  rw [cL]
  exact k p np
theorem for_di {d:Aj}{o:Obj}{cs:List (Key×V)}{g:TG}{tb:TS}{D:Ends}{σ:St}{H:Hp}(Pv:Nat→St→Hp→Prop)(h0:Pv 0 σ H)(hl:∀i σ H,i≤cs.length→Pv i σ H→H d=some (.frz o (.dK cs)))
  (hs:∀i c q σ H,cs[i]?=some c→H q=none→Pv i σ H→g (.ref q) σ (upd H q (.tup [kV c.1,c.2])) λσ2 H2=>tb { D with nx:=Pv (i+1),ct:=Pv (i+1),bk:=D.nx } σ2 H2) (hd:∀σ H,Pv cs.length σ H→D.nx σ H) :
  ∃W:Nat→Nat→St→Hp→Prop,(∃m,W 0 m σ H)∧∀i m σ H,W i m σ H →
   ((ItDI d o cs).stop i H∧D.nx σ H)∨((ItDI d o cs).go i H∧∃N:St→Hp→Prop,(∀σ' H',N σ' H'→∃m',m'<m∧W (i+1) m' σ' H')∧∀x H',(ItDI d o cs).yld i H x H'→g x σ H' λσ2 H2=>tb { D with nx:=N,ct:=N,bk:=D.nx } σ2 H2):=by
 refine ⟨λi m σ H=>m=cs.length-i∧i≤cs.length∧Pv i σ H,⟨cs.length,by simp,aE _,h0⟩,?_⟩
 rintro i m σ H ⟨rfl,hi,p⟩
 have q:=hl i σ H hi p
 by_cases hlt:i<cs.length
 ·refine .inr ⟨⟨q,hlt⟩,Pv (i+1),λσ' H' p'=>⟨cs.length-(i+1),by lia,rfl,hlt,p'⟩,?_⟩
  rintro x H' ⟨z,c,nz,rfl,ec,rfl⟩
  exact hs i c z σ H ec nz p
 ·have e:i=cs.length:=by lia
  subst e
  exact .inl ⟨⟨q,ah _⟩,hd σ H p⟩
def ex1 (R:List (Key×V))(c:Key×V):List (Key×V):=if c.2=.non then qwf R c.1 else zu R c.1 c.2
def exK (R cs:List (Key×V)):List (Key×V):=cs.foldl ex1 R
def bfK (R cs:List (Key×V)):List (Key×V):=cs.map λc=>(c.1,(w9 R c.1).getD .non)
def qx3 (R cs:List (Key×V)):Prop:=∀(i:Nat) c,cs[i]?=some c→c.2=.non→(w9 (exK R (cs.take i)) c.1).isSome=true
theorem wzc (R:List (Key×V)){cs:List (Key×V)}{i:Nat}{c:Key×V}(h:cs[i]?=some c):exK R (cs.take (i+1))=ex1 (exK R (cs.take i)) c:=by
 unfold exK
 rw [dj,h,List.foldl_append]
 rfl
theorem wx4 (R:List (Key×V))(c:Key×V):(ex1 R c).length≤R.length+1:=by
 unfold ex1
 split
 ·have:=qz8 R c.1
  lia
 ·exact jq R c.1 c.2
theorem wv0 (R cs:List (Key×V)):(exK R cs).length≤R.length+cs.length:=by
 induction cs generalizing R with
 |nil=>exact ah _
 |cons c cs ih =>
  have h1:=ih (ex1 R c)
  have h2:=wx4 R c
  show (exK (ex1 R c) cs).length≤_
  rw [aT]
  lia
def Kb (ch:List Aj)(H H':Hp):Prop:=∀b o,b∉ch→H b=some o→H' b=some o
section
variable {X:Cx}{C:Aj}{x:Str}{k:Nat}{sp:Sp}{E:St→XK}{p pos:Pos}
theorem qum (c:CCal X.prog X.w X.K X.mg X.base x C k sp)(hr:Room (k+1) X.A)(hg:Gl X x)(hx:jx X E)(hdb:(x==("__debug__" : Str))=false:=by decide) :
  PE X (.Call (.Name x p) [] [] pos) (qv5 C sp E Zc):=by
 obtain ⟨f,fd,ps,hm,M,F,b⟩:=c.ex
 intro pins s σ H Q I h
 refine cy (jc I hg hm ?_ hdb)
 exact PySem.W.callWith_K0 I.kIn M.kp (qq0 (us:=[]) M F hr b hx I .nil h)
end
theorem Kb.rd {ch:List Aj}{H H':Hp}(k:Kb ch H H'){d:Aj}{kvs:List (Key×V)}(n:d∉ch)(h:Rd H d (.dK kvs)):Rd H' d (.dK kvs):=by
 rcases h with h|⟨o,h⟩
 ·exact .inl (k _ _ n h)
 ·exact .inr ⟨o,k _ _ n h⟩
theorem Kb.trans {ch:List Aj}{H H' H'':Hp}(a:Kb ch H H')(b:Kb ch H' H''):Kb ch H H'':=λc o n e=>b c o n (a c o n e)
theorem Kb.of {ch:List Aj}{H H':Hp}(s:Same H H'):Kb ch H H':=λc o _ e=>s c o e
theorem for_en {K:Aa}{a:Aj}{xs:List V}{g:TG}{tb:TS}{D:Ends}{σ:St}{H:Hp}(Pv:Nat→St→Hp→Prop)(h0:Pv 0 σ H)(hl:∀i σ H,i≤xs.length→Pv i σ H→SqL K H a xs)
  (hs:∀i x q σ H,xs[i]?=some x→H q=none→Pv i σ H→g (.ref q) σ (upd H q (.tup [.int (i:Nat),x])) λσ2 H2=>tb { D with nx:=Pv (i+1),ct:=Pv (i+1),bk:=D.nx } σ2 H2) (hd:∀σ H,Pv xs.length σ H→D.nx σ H) :
  ∃W:Nat→Nat→St→Hp→Prop,(∃m,W 0 m σ H)∧∀i m σ H,W i m σ H →
   ((ItE K a xs).stop i H∧D.nx σ H)∨((ItE K a xs).go i H∧∃N:St→Hp→Prop,(∀σ' H',N σ' H'→∃m',m'<m∧W (i+1) m' σ' H')∧∀x H',(ItE K a xs).yld i H x H'→g x σ H' λσ2 H2=>tb { D with nx:=N,ct:=N,bk:=D.nx } σ2 H2):=by
 refine ⟨λi m σ H=>m=xs.length-i∧i≤xs.length∧Pv i σ H,⟨xs.length,by simp,aE _,h0⟩,?_⟩
 rintro i m σ H ⟨rfl,hi,p⟩
 have q:=hl i σ H hi p
 by_cases hlt:i<xs.length
 ·refine .inr ⟨⟨q,hlt⟩,Pv (i+1),λσ' H' p'=>⟨xs.length-(i+1),by lia,rfl,hlt,p'⟩,?_⟩
  rintro x H' ⟨z,c,nz,rfl,ec,rfl⟩
  exact hs i c z σ H ec nz p
 ·have e:i=xs.length:=by lia
  subst e
  exact .inl ⟨⟨q,ah _⟩,hd σ H p⟩
end L2
namespace L2
open PySem PySem.Spec PyProof.Rows
theorem ht_gen {o:Expr}{m:Str}{apos pos:Pos}{e:Expr}{es:List Expr}{env:Env}(hb:attributeBase o m env (eval o env)=eval o env)(hf:methodCallForm ((e::es).length+0) (backTo pos (starEach (e::es) env)) (backToKw pos (keywordEach [] env))=true)(hp:methodCallPos true o env apos pos=pure pos) :
  eval (.Call (.Attribute o m apos) (e::es) [] pos) env=(do
   let ov ←eval o env
   standAt apos.atName
   let (f,first) ←holding [ov] (getMethod ov m (do return (←importBound o env).getD true))
   callWith pos f first (backTo pos (starEach (e::es) env)) (backToKw pos (keywordEach [] env))):=by
 rw [arm_eval_Call,hb]
 unfold methodCall
 rw [show (e::es).length+([]:List Keyword).length=(e::es).length+0 from rfl,hf,hp]
 rfl
section
variable {X:Cx}{C:Aj}{x m:Str}{k:Nat}{sp:Sp}{E:St→XK}{p pos apos:Pos}{e o:Expr}{es:List Expr}{ta te:TE}{t:TA}
theorem w6 {v j p'}(ha:PE X (.Constant v j p') te)(hr:PA X es t):PA X (.Constant v j p'::es) (v5 te t):=xx ha hr rfl
theorem qr {v p'}(ha:PE X (.Name v p') te)(hr:PA X es t):PA X (.Name v p'::es) (v5 te t):=xx ha hr rfl
theorem qj8 {v j p'}(ha:PE X (.Tuple v j p') te)(hr:PA X es t):PA X (.Tuple v j p'::es) (v5 te t):=xx ha hr rfl
theorem vg {a b c p'}(ha:PE X (.Call a b c p') te)(hr:PA X es t):PA X (.Call a b c p'::es) (v5 te t):=xx ha hr rfl
theorem x4 {a b c p'}(ha:PE X (.BinOp a b c p') te)(hr:PA X es t):PA X (.BinOp a b c p'::es) (v5 te t):=xx ha hr rfl
theorem pa_cU {a b p'}(ha:PE X (.UnaryOp a b p') te)(hr:PA X es t):PA X (.UnaryOp a b p'::es) (v5 te t):=xx ha hr rfl
theorem v9 {a b p'}(ha:PE X (.Subscript a b p') te)(hr:PA X es t):PA X (.Subscript a b p'::es) (v5 te t):=xx ha hr rfl
def qxg:List Expr→Bool
 |[]=>true
 |.Starred _ _::_=>false
 |_::r=>qxg r
theorem Wq {env:Env}:∀ {es:List Expr},qxg es=true→starEach es env=es.map λe=>(false,eval e env)
 |[],_=>rfl
 |e::r,h=>by
  cases e
  case Starred=>cases h
  all_goals exact bq _ (Wq (es:=r) h)
theorem Wg {pos:Pos}:∀ {l:List (Bool×Sem Ag)},(∀q∈l,q.1=false)→(backTo pos l).all (!·.1)=true∧(backTo pos l).any (·.1)=false:=by
 intro l h
 have key:∀q∈backTo pos l,q.1=false:=by
  intro q hq
  unfold backTo at hq
  obtain ⟨q',hq',rfl⟩:=aJ.mp hq
  exact h q' hq'
 exact ⟨bT.mpr λq hq=>by rw [key q hq];rfl,List.any_eq_false.mpr λq hq=>by rw [key q hq];decide⟩
theorem xz (he:PE X o ta)(cl:Cls X.K C)(c:MCal X.prog X.w X.K X.mg X.base C m k sp)(hr:Room k X.A)(hx:jx X E)(ha:PA X (e::es) t)(hn:qxg (e::es)=true:=by rfl)(hl:(e::es).length+0<30:=by decide)
  (hb:∀z,attributeBase o m X.env z=z:=by intro _;rfl) (hp:methodCallPos true o X.env apos pos=pure pos:=by rfl):PE X (.Call (.Attribute o m apos) (e::es) [] pos) (Y5 C m sp E ta t):=by
 have h1:starEach (e::es) X.env=(false,eval e X.env)::starEach es X.env:=by
  cases e
  case Starred=>cases hn
  all_goals rfl
 have h2:∀q∈starEach (e::es) X.env,q.1=false:=λq hq=>by
  rw [Wq hn] at hq
  obtain ⟨z,_,rfl⟩:=aJ.mp hq
  rfl
 refine wwt he cl c hr hx ha h1 (Wg λq hq=>h2 q (by rw [h1];exact bf _ hq)).2 (ht_gen (hb _) ?_ hp)
 unfold methodCallForm
 rw [(Wg (pos:=pos) h2).1]
 exact bd hl
theorem wu (c:Cal X.prog X.w X.K X.mg X.base x k sp)(hr:Room k X.A)(hg:Gl X x)(hx:jx X E)(ha:PA X (e::es) t)(hn:qxg (e::es)=true:=by rfl)(hdb:(x==("__debug__" : Str))=false:=by decide):PE X (.Call (.Name x p) (e::es) [] pos) (Yv sp E t):=by
 have h1:starEach (e::es) X.env=(false,eval e X.env)::starEach es X.env:=by
  cases e
  case Starred=>cases hn
  all_goals rfl
 have h2:∀q∈starEach (e::es) X.env,q.1=false:=λq hq=>by
  rw [Wq hn] at hq
  obtain ⟨z,_,rfl⟩:=aJ.mp hq
  rfl
 exact Yb c hr hg hx ha hdb h1 (Wg λq hq=>h2 q (by rw [h1];exact bf _ hq)).2
end
end L2
namespace My
open PySem L2
def top (i:Nat):Stmt:=PySem.Challenge.pw_crookroad_k51_whole_how_often_stood.main.body.getD i (.Pass ⟨0,0,0,0⟩)
abbrev s_check_count:Stmt:=top 16
theorem Y9:FnScope ["number","fewest","most"] ["number","fewest","most"] (wj s_check_count):=⟨rfl,rfl,rfl,by decide +kernel,rfl,by decide +kernel,by decide +kernel⟩
theorem Yq:Qv "check_count" s_check_count ["number","fewest","most"] []:=λ_ _ _ _ _ _ _ us hl=>match us,hl with | [_,_,_],_=>exI rfl rfl
theorem Yc:Qv "check_count" s_check_count ["number","fewest","most"] [.none]:=λ_ _ _ _ _ _ _ us hl=>by
 have h2:us.length=2:=by simpa using hl
 match us,h2 with
 |[_,_],_=>exact exI rfl rfl
abbrev s_check_bottom:Stmt:=top 18
theorem W8:FnScope ["bottom"] ["bottom"] (wj s_check_bottom):=⟨rfl,rfl,rfl,by decide +kernel,rfl,by decide +kernel,by decide +kernel⟩
theorem Zu:x6 "check_bottom" s_check_bottom ["bottom"]:=λ_ _ _ _ _ _ us hl=>match us,hl with | [_],_=>rfl
abbrev s_common_divisor:Stmt:=top 19
theorem Qf:FnScope ["one","other"] ["one","other"] (wj s_common_divisor):=⟨rfl,rfl,rfl,by decide +kernel,rfl,by decide +kernel,by decide +kernel⟩
theorem Q3:x6 "common_divisor" s_common_divisor ["one","other"]:=λ_ _ _ _ _ _ us hl=>match us,hl with | [_,_],_=>rfl
abbrev s_lowest:Stmt:=top 20
theorem qus:FnScope ["top","bottom","divisor"] ["top","bottom"] (wj s_lowest):=⟨rfl,rfl,rfl,by decide +kernel,rfl,by decide +kernel,by decide +kernel⟩
theorem quv:x6 "lowest" s_lowest ["top","bottom"]:=λ_ _ _ _ _ _ us hl=>match us,hl with | [_,_],_=>rfl
abbrev s_less:Stmt:=top 21
theorem wvu:FnScope ["one","other"] ["one","other"] (wj s_less):=⟨rfl,rfl,rfl,by decide +kernel,rfl,by decide +kernel,by decide +kernel⟩
theorem wvd:x6 "less" s_less ["one","other"]:=λ_ _ _ _ _ _ us hl=>match us,hl with | [_,_],_=>rfl
abbrev s_trace:Stmt:=top 25
theorem wwu:FnScope ["road","start","places","here"] ["road","start"] (wj s_trace):=⟨rfl,rfl,rfl,by decide +kernel,rfl,by decide +kernel,by decide +kernel⟩
theorem wwj:x6 "trace" s_trace ["road","start"]:=λ_ _ _ _ _ _ us hl=>match us,hl with | [_,_],_=>rfl
abbrev s_spot:Stmt:=top 26
theorem wzk:FnScope ["points","turn","many"] ["points","turn","many"] (wj s_spot):=⟨rfl,rfl,rfl,by decide +kernel,rfl,by decide +kernel,by decide +kernel⟩
theorem wzu:x6 "spot" s_spot ["points","turn","many"]:=λ_ _ _ _ _ _ us hl=>match us,hl with | [_,_,_],_=>rfl
abbrev s_led_to:Stmt:=top 27
theorem qu2:FnScope ["place","turn","size","many","times"] ["place","turn","size","many"] (wj s_led_to):=⟨rfl,rfl,rfl,by decide +kernel,rfl,by decide +kernel,by decide +kernel⟩
theorem qy2:x6 "led_to" s_led_to ["place","turn","size","many"]:=λ_ _ _ _ _ _ us hl=>match us,hl with | [_,_,_,_],_=>rfl
abbrev s_is_line:Stmt:=top 30
theorem qv0:FnScope ["heights","width"] ["heights"] (wj s_is_line):=⟨rfl,rfl,rfl,by decide +kernel,rfl,by decide +kernel,by decide +kernel⟩
theorem qk3:x6 "is_line" s_is_line ["heights"]:=λ_ _ _ _ _ _ us hl=>match us,hl with | [_],_=>rfl
abbrev s_Road___init__:Stmt:=x9 (top 31) 0
theorem Wj:FnScope ["self","heights"] ["self","heights"] (wj s_Road___init__):=⟨rfl,rfl,rfl,by decide +kernel,rfl,by decide +kernel,by decide +kernel⟩
theorem Wb:xt "__init__" "Road.__init__" s_Road___init__ ["self","heights"]:=λ_ _ _ _ _ _ us hl=>match us,hl with | [_,_],_=>rfl
abbrev s_Road_width:Stmt:=x9 (top 31) 1
theorem qqv:FnScope ["self"] ["self"] (wj s_Road_width):=⟨rfl,rfl,rfl,by decide +kernel,rfl,by decide +kernel,by decide +kernel⟩
theorem qqb:xt "width" "Road.width" s_Road_width ["self"]:=λ_ _ _ _ _ _ us hl=>match us,hl with | [_],_=>rfl
abbrev s_Road_corners:Stmt:=x9 (top 31) 2
theorem W9:FnScope ["self"] ["self"] (wj s_Road_corners):=⟨rfl,rfl,rfl,by decide +kernel,rfl,by decide +kernel,by decide +kernel⟩
theorem Zx:xt "corners" "Road.corners" s_Road_corners ["self"]:=λ_ _ _ _ _ _ us hl=>match us,hl with | [_],_=>rfl
abbrev s_Road_ends:Stmt:=x9 (top 31) 3
theorem qxm:FnScope ["self","stretch"] ["self","stretch"] (wj s_Road_ends):=⟨rfl,rfl,rfl,by decide +kernel,rfl,by decide +kernel,by decide +kernel⟩
theorem qxk:xt "ends" "Road.ends" s_Road_ends ["self","stretch"]:=λ_ _ _ _ _ _ us hl=>match us,hl with | [_,_],_=>rfl
abbrev s_Road_on_road:Stmt:=x9 (top 31) 6
theorem W1:FnScope ["self","point","top","bottom"] ["self","point"] (wj s_Road_on_road):=⟨rfl,rfl,rfl,by decide +kernel,rfl,by decide +kernel,by decide +kernel⟩
theorem Zv:xt "on_road" "Road.on_road" s_Road_on_road ["self","point"]:=λ_ _ _ _ _ _ us hl=>match us,hl with | [_,_],_=>rfl
abbrev s_Road_at:Stmt:=x9 (top 31) 7
theorem qv1:FnScope ["self","point","top","bottom","stretch","left","right","beyond"] ["self","point"] (wj s_Road_at):=⟨rfl,rfl,rfl,by decide +kernel,rfl,by decide +kernel,by decide +kernel⟩
theorem qv6:xt "at" "Road.at" s_Road_at ["self","point"]:=λ_ _ _ _ _ _ us hl=>match us,hl with | [_,_],_=>rfl
abbrev s_Walker___init__:Stmt:=x9 (top 33) 0
theorem u8:FnScope ["self","whose","point","times"] ["self","whose","point","times"] (wj s_Walker___init__):=⟨rfl,rfl,rfl,by decide +kernel,rfl,by decide +kernel,by decide +kernel⟩
theorem u7:xt "__init__" "Walker.__init__" s_Walker___init__ ["self","whose","point","times"]:=λ_ _ _ _ _ _ us hl=>match us,hl with | [_,_,_,_],_=>rfl
abbrev s_Walker_gone:Stmt:=x9 (top 33) 1
theorem Jc:FnScope ["self","road","many","points","turn","times","place","point","led"] ["self","road","many"] (wj s_Walker_gone):=⟨rfl,rfl,rfl,by decide +kernel,rfl,by decide +kernel,by decide +kernel⟩
theorem Jf:xt "gone" "Walker.gone" s_Walker_gone ["self","road","many"]:=λ_ _ _ _ _ _ us hl=>match us,hl with | [_,_,_],_=>rfl
abbrev s_set_down:Stmt:=top 34
theorem qvz:FnScope ["whose","point"] ["whose","point"] (wj s_set_down):=⟨rfl,rfl,rfl,by decide +kernel,rfl,by decide +kernel,by decide +kernel⟩
theorem qx8:x6 "set_down" s_set_down ["whose","point"]:=λ_ _ _ _ _ _ us hl=>match us,hl with | [_,_],_=>rfl
abbrev s_is_name:Stmt:=top 39
theorem qvt:FnScope ["name"] ["name"] (wj s_is_name):=⟨rfl,rfl,rfl,by decide +kernel,rfl,by decide +kernel,by decide +kernel⟩
theorem qkv:x6 "is_name" s_is_name ["name"]:=λ_ _ _ _ _ _ us hl=>match us,hl with | [_],_=>rfl
abbrev s_check_new_name:Stmt:=top 40
theorem Qc:FnScope ["name","things"] ["name","things"] (wj s_check_new_name):=⟨rfl,rfl,rfl,by decide +kernel,rfl,by decide +kernel,by decide +kernel⟩
theorem Qb:x6 "check_new_name" s_check_new_name ["name","things"]:=λ_ _ _ _ _ _ us hl=>match us,hl with | [_,_],_=>rfl
abbrev s_exchange:Stmt:=top 41
theorem qvv:FnScope ["things","changes","before","name","thing"] ["things","changes"] (wj s_exchange):=⟨rfl,rfl,rfl,by decide +kernel,rfl,by decide +kernel,by decide +kernel⟩
theorem qz2:x6 "exchange" s_exchange ["things","changes"]:=λ_ _ _ _ _ _ us hl=>match us,hl with | [_,_],_=>rfl
abbrev s_House___init__:Stmt:=x9 (top 42) 0
theorem Q0:FnScope ["self"] ["self"] (wj s_House___init__):=⟨rfl,rfl,rfl,by decide +kernel,rfl,by decide +kernel,by decide +kernel⟩
theorem Qy:xt "__init__" "House.__init__" s_House___init__ ["self"]:=λ_ _ _ _ _ _ us hl=>match us,hl with | [_],_=>rfl
abbrev s_House_road_called:Stmt:=x9 (top 42) 1
theorem yr:FnScope ["self","name"] ["self","name"] (wj s_House_road_called):=⟨rfl,rfl,rfl,by decide +kernel,rfl,by decide +kernel,by decide +kernel⟩
theorem yc:xt "road_called" "House.road_called" s_House_road_called ["self","name"]:=λ_ _ _ _ _ _ us hl=>match us,hl with | [_,_],_=>rfl
abbrev s_House_walker_called:Stmt:=x9 (top 42) 2
theorem yx:FnScope ["self","name"] ["self","name"] (wj s_House_walker_called):=⟨rfl,rfl,rfl,by decide +kernel,rfl,by decide +kernel,by decide +kernel⟩
theorem j8:xt "walker_called" "House.walker_called" s_House_walker_called ["self","name"]:=λ_ _ _ _ _ _ us hl=>match us,hl with | [_,_],_=>rfl
abbrev s_House_walkers_on:Stmt:=x9 (top 42) 3
theorem uu:FnScope ["self","whose"] ["self","whose"] (wj s_House_walkers_on):=⟨rfl,rfl,rfl,by decide +kernel,rfl,by decide +kernel,by decide +kernel⟩
theorem uc:xt "walkers_on" "House.walkers_on" s_House_walkers_on ["self","whose"]:=λ_ _ _ _ _ _ us hl=>match us,hl with | [_,_],_=>rfl
abbrev s_House_do:Stmt:=x9 (top 42) 4
theorem qvx:FnScope ["self","roads","walkers"] ["self","roads","walkers"] (wj s_House_do):=⟨rfl,rfl,rfl,by decide +kernel,rfl,by decide +kernel,by decide +kernel⟩
theorem qzb:xt "do" "House.do" s_House_do ["self","roads","walkers"]:=λ_ _ _ _ _ _ us hl=>match us,hl with | [_,_,_],_=>rfl
abbrev s_House_lay:Stmt:=x9 (top 42) 5
theorem qxz:FnScope ["self","name","heights"] ["self","name","heights"] (wj s_House_lay):=⟨rfl,rfl,rfl,by decide +kernel,rfl,by decide +kernel,by decide +kernel⟩
theorem qxj:xt "lay" "House.lay" s_House_lay ["self","name","heights"]:=λ_ _ _ _ _ _ us hl=>match us,hl with | [_,_,_],_=>rfl
abbrev s_House_bend:Stmt:=x9 (top 42) 6
theorem Jt:FnScope ["self","name","corner","height","heights"] ["self","name","corner","height"] (wj s_House_bend):=⟨rfl,rfl,rfl,by decide +kernel,rfl,by decide +kernel,by decide +kernel⟩
theorem qqj:xt "bend" "House.bend" s_House_bend ["self","name","corner","height"]:=λ_ _ _ _ _ _ us hl=>match us,hl with | [_,_,_,_],_=>rfl
abbrev s_House_widen:Stmt:=x9 (top 42) 7
theorem Yy:FnScope ["self","name","height","heights"] ["self","name","height"] (wj s_House_widen):=⟨rfl,rfl,rfl,by decide +kernel,rfl,by decide +kernel,by decide +kernel⟩
theorem Y6:xt "widen" "House.widen" s_House_widen ["self","name","height"]:=λ_ _ _ _ _ _ us hl=>match us,hl with | [_,_,_],_=>rfl
abbrev s_House_narrow:Stmt:=x9 (top 42) 8
theorem W5:FnScope ["self","name","left","end"] ["self","name"] (wj s_House_narrow):=⟨rfl,rfl,rfl,by decide +kernel,rfl,by decide +kernel,by decide +kernel⟩
theorem Zb:xt "narrow" "House.narrow" s_House_narrow ["self","name"]:=λ_ _ _ _ _ _ us hl=>match us,hl with | [_,_],_=>rfl
abbrev s_House_place:Stmt:=x9 (top 42) 10
theorem Yw:FnScope ["self","name","whose","point","road","here"] ["self","name","whose","point"] (wj s_House_place):=⟨rfl,rfl,rfl,by decide +kernel,rfl,by decide +kernel,by decide +kernel⟩
theorem Jh:xt "place" "House.place" s_House_place ["self","name","whose","point"]:=λ_ _ _ _ _ _ us hl=>match us,hl with | [_,_,_,_],_=>rfl
abbrev s_House_go:Stmt:=x9 (top 42) 12
theorem qvp:FnScope ["self","name","many","walker","gone"] ["self","name","many"] (wj s_House_go):=⟨rfl,rfl,rfl,by decide +kernel,rfl,by decide +kernel,by decide +kernel⟩
theorem qz9:xt "go" "House.go" s_House_go ["self","name","many"]:=λ_ _ _ _ _ _ us hl=>match us,hl with | [_,_,_],_=>rfl
abbrev s_House_together:Stmt:=x9 (top 42) 13
theorem Qr:FnScope ["self","whose","many","road","gone"] ["self","whose","many"] (wj s_House_together):=⟨rfl,rfl,rfl,by decide +kernel,rfl,by decide +kernel,by decide +kernel⟩
theorem Q5:xt "together" "House.together" s_House_together ["self","whose","many"]:=λ_ _ _ _ _ _ us hl=>match us,hl with | [_,_,_],_=>rfl
abbrev s_House_take_back:Stmt:=x9 (top 42) 14
theorem Qw:FnScope ["self","roads","walkers"] ["self"] (wj s_House_take_back):=⟨rfl,rfl,rfl,by decide +kernel,rfl,by decide +kernel,by decide +kernel⟩
theorem u6:xt "take_back" "House.take_back" s_House_take_back ["self"]:=λ_ _ _ _ _ _ us hl=>match us,hl with | [_],_=>rfl
abbrev s_House_stood:Stmt:=x9 (top 42) 20
theorem Y7:FnScope ["self","name","point","walker"] ["self","name","point"] (wj s_House_stood):=⟨rfl,rfl,rfl,by decide +kernel,rfl,by decide +kernel,by decide +kernel⟩
theorem Jj:xt "stood" "House.stood" s_House_stood ["self","name","point"]:=λ_ _ _ _ _ _ us hl=>match us,hl with | [_,_,_],_=>rfl
abbrev s__law_cell:Stmt:=top 44
theorem qx4:FnScope ["_law_script","_law_at"] ["_law_script","_law_at"] (wj s__law_cell):=⟨rfl,rfl,rfl,by decide +kernel,rfl,by decide +kernel,by decide +kernel⟩
theorem qw6:x6 "_law_cell" s__law_cell ["_law_script","_law_at"]:=λ_ _ _ _ _ _ us hl=>match us,hl with | [_,_],_=>rfl
abbrev s__law_pick:Stmt:=top 45
theorem qxb:FnScope ["_law_script","_law_at","_law_turn","_law_many","_law_cell_here","_law_left","_law_k","_law_low_here","_law_one","_law_two"] ["_law_script","_law_at","_law_turn","_law_many"] (wj s__law_pick):=⟨rfl,rfl,rfl,by decide +kernel,rfl,by decide +kernel,by decide +kernel⟩
theorem qwg:x6 "_law_pick" s__law_pick ["_law_script","_law_at","_law_turn","_law_many"]:=λ_ _ _ _ _ _ us hl=>match us,hl with | [_,_,_,_],_=>rfl
abbrev s__law_climb:Stmt:=top 46
theorem J3:FnScope ["_law_script","_law_at","_law_wide","_law_row","_law_k"] ["_law_script","_law_at","_law_wide"] (wj s__law_climb):=⟨rfl,rfl,rfl,by decide +kernel,rfl,by decide +kernel,by decide +kernel⟩
theorem qqz:x6 "_law_climb" s__law_climb ["_law_script","_law_at","_law_wide"]:=λ_ _ _ _ _ _ us hl=>match us,hl with | [_,_,_],_=>rfl
abbrev s__law_heights:Stmt:=top 47
theorem Zq:FnScope ["_law_script","_law_at","_law_most","_law_wide","_law_kind"] ["_law_script","_law_at","_law_most"] (wj s__law_heights):=⟨rfl,rfl,rfl,by decide +kernel,rfl,by decide +kernel,by decide +kernel⟩
theorem W6:x6 "_law_heights" s__law_heights ["_law_script","_law_at","_law_most"]:=λ_ _ _ _ _ _ us hl=>match us,hl with | [_,_,_],_=>rfl
abbrev s__law_spot:Stmt:=top 48
theorem qxs:FnScope ["_law_script","_law_at","_law_wide","_law_most","_law_bottom","_law_top","_law_by"] ["_law_script","_law_at","_law_wide","_law_most"] (wj s__law_spot):=⟨rfl,rfl,rfl,by decide +kernel,rfl,by decide +kernel,by decide +kernel⟩
theorem qxx:x6 "_law_spot" s__law_spot ["_law_script","_law_at","_law_wide","_law_most"]:=λ_ _ _ _ _ _ us hl=>match us,hl with | [_,_,_,_],_=>rfl
abbrev s__law_step:Stmt:=top 49
theorem qxf:FnScope ["_law_heights_here","_law_top","_law_bottom","_law_k"] ["_law_heights_here","_law_top","_law_bottom"] (wj s__law_step):=⟨rfl,rfl,rfl,by decide +kernel,rfl,by decide +kernel,by decide +kernel⟩
theorem qxr:x6 "_law_step" s__law_step ["_law_heights_here","_law_top","_law_bottom"]:=λ_ _ _ _ _ _ us hl=>match us,hl with | [_,_,_],_=>rfl
abbrev s__law_trace:Stmt:=top 50
theorem qqu:FnScope ["_law_heights_here","_law_top","_law_bottom","_law_seen","_law_tops"] ["_law_heights_here","_law_top","_law_bottom"] (wj s__law_trace):=⟨rfl,rfl,rfl,by decide +kernel,rfl,by decide +kernel,by decide +kernel⟩
theorem qqq:x6 "_law_trace" s__law_trace ["_law_heights_here","_law_top","_law_bottom"]:=λ_ _ _ _ _ _ us hl=>match us,hl with | [_,_,_],_=>rfl
abbrev s__law_after:Stmt:=top 51
theorem qqn:FnScope ["_law_tops","_law_start","_law_many"] ["_law_tops","_law_start","_law_many"] (wj s__law_after):=⟨rfl,rfl,rfl,by decide +kernel,rfl,by decide +kernel,by decide +kernel⟩
theorem Jr:x6 "_law_after" s__law_after ["_law_tops","_law_start","_law_many"]:=λ_ _ _ _ _ _ us hl=>match us,hl with | [_,_,_],_=>rfl
abbrev s__law_whole:Stmt:=top 52
theorem qqg:FnScope ["_law_found"] ["_law_found"] (wj s__law_whole):=⟨rfl,rfl,rfl,by decide +kernel,rfl,by decide +kernel,by decide +kernel⟩
theorem qqy:x6 "_law_whole" s__law_whole ["_law_found"]:=λ_ _ _ _ _ _ us hl=>match us,hl with | [_],_=>rfl
abbrev s__law_common:Stmt:=top 53
theorem Yz:FnScope ["_law_one","_law_other"] ["_law_one","_law_other"] (wj s__law_common):=⟨rfl,rfl,rfl,by decide +kernel,rfl,by decide +kernel,by decide +kernel⟩
theorem Yf:x6 "_law_common" s__law_common ["_law_one","_law_other"]:=λ_ _ _ _ _ _ us hl=>match us,hl with | [_,_],_=>rfl
abbrev s__law_low:Stmt:=top 54
theorem qzh:FnScope ["_law_top","_law_bottom","_law_by"] ["_law_top","_law_bottom"] (wj s__law_low):=⟨rfl,rfl,rfl,by decide +kernel,rfl,by decide +kernel,by decide +kernel⟩
theorem qvb:x6 "_law_low" s__law_low ["_law_top","_law_bottom"]:=λ_ _ _ _ _ _ us hl=>match us,hl with | [_,_],_=>rfl
abbrev s__law_count:Stmt:=top 55
theorem qqw:FnScope ["_law_tops","_law_start","_law_many","_law_top","_law_found","_law_k","_law_size","_law_turn"] ["_law_tops","_law_start","_law_many","_law_top"] (wj s__law_count):=⟨rfl,rfl,rfl,by decide +kernel,rfl,by decide +kernel,by decide +kernel⟩
theorem qqk:x6 "_law_count" s__law_count ["_law_tops","_law_start","_law_many","_law_top"]:=λ_ _ _ _ _ _ us hl=>match us,hl with | [_,_,_,_],_=>rfl
abbrev s__law_refused:Stmt:=top 56
theorem Zw:FnScope ["_law_house","_law_name","_law_point","_law_told"] ["_law_house","_law_name","_law_point"] (wj s__law_refused):=⟨rfl,rfl,rfl,by decide +kernel,rfl,by decide +kernel,by decide +kernel⟩
theorem Zz:x6 "_law_refused" s__law_refused ["_law_house","_law_name","_law_point"]:=λ_ _ _ _ _ _ us hl=>match us,hl with | [_,_,_],_=>rfl
abbrev s__law_due:Stmt:=top 57
theorem qvh:FnScope ["_law_story","_law_bottom","_law_point","_law_top","_law_found","_law_start_top","_law_row","_law_many","_law_tops","_law_start"] ["_law_story","_law_bottom","_law_point"] (wj s__law_due):=⟨rfl,rfl,rfl,by decide +kernel,rfl,by decide +kernel,by decide +kernel⟩
theorem qz5:x6 "_law_due" s__law_due ["_law_story","_law_bottom","_law_point"]:=λ_ _ _ _ _ _ us hl=>match us,hl with | [_,_,_],_=>rfl
abbrev s__law_asked:Stmt:=top 58
theorem Js:FnScope ["_law_script","_law_at","_law_bottom","_law_story","_law_wide","_law_kind","_law_top","_law_row","_law_many","_law_tops","_law_start"] ["_law_script","_law_at","_law_bottom","_law_story","_law_wide"] (wj s__law_asked):=⟨rfl,rfl,rfl,by decide +kernel,rfl,by decide +kernel,by decide +kernel⟩
theorem qqf:x6 "_law_asked" s__law_asked ["_law_script","_law_at","_law_bottom","_law_story","_law_wide"]:=λ_ _ _ _ _ _ us hl=>match us,hl with | [_,_,_,_,_],_=>rfl
abbrev s__law_change:Stmt:=top 59
theorem Yu:FnScope ["_law_script","_law_at","_law_house","_law_row","_law_top","_law_bottom","_law_kind","_law_wide","_law_corner","_law_height"] ["_law_script","_law_at","_law_house","_law_row","_law_top","_law_bottom"] (wj s__law_change):=⟨rfl,rfl,rfl,by decide +kernel,rfl,by decide +kernel,by decide +kernel⟩
theorem Yd:x6 "_law_change" s__law_change ["_law_script","_law_at","_law_house","_law_row","_law_top","_law_bottom"]:=λ_ _ _ _ _ _ us hl=>match us,hl with | [_,_,_,_,_,_],_=>rfl
abbrev s_law:Stmt:=top 60
theorem wq9:FnScope ["_law_script","_law_row","_law_point","_law_top","_law_bottom","_law_house","_law_story","_law_k","_law_many","_law_tops","_law_start","_law_asked_here","_law_found"] ["_law_script"] (wj s_law):=⟨rfl,rfl,rfl,by decide +kernel,rfl,by decide +kernel,by decide +kernel⟩
local macro_rules | `(tactic| walk_at "sq")=>`(tactic| first | assumption | exact SqT.new | exact SqL.new | ((with_reducible refine Same.sqt (Same.upd (by assumption)) ?_);walk_at "sq") | ((with_reducible refine Same.sql (Same.upd (by assumption)) ?_);walk_at "sq"))
local macro_rules | `(tactic| walk_at "at")=>`(tactic| first | rfl | exact Zf (by lia) (by lia))
local macro_rules | `(tactic| walk_at "mul")=>`(tactic| first | assumption | exact IntMulOk.of_left (intBits_le_64 (by lia) (by lia)) | exact IntMulOk.of_right (intBits_le_64 (by lia) (by lia)) | exact Sm.ok (by assumption) (by assumption) (by decide))
local macro_rules | `(tactic| walk_at "pos")=>`(tactic| first | lia | decide +kernel)
local macro_rules | `(tactic| walk_at "div")=>`(tactic| exact ⟨by first | lia | decide +kernel,by unfold Sm;decide +kernel⟩)
local macro_rules | `(tactic| walk_at "loc")=>`(tactic| first | exact Or.inl rfl | exact Or.inr rfl)
local macro_rules | `(tactic| walk_at "cap")=>`(tactic| repeat (first | exact trivial | refine ⟨rfl,?_⟩))
local macro_rules | `(tactic| walk_at "has")=>`(tactic| repeat (first | exact trivial | (refine ⟨λz=>?_,by decide,?_⟩;(first | exact ⟨_,rfl⟩ | cases z))))
local macro_rules | `(tactic| walk_at "cix")=>`(tactic| repeat (first | exact trivial | refine ⟨⟨_,_,rfl,rfl,rfl,rfl⟩,?_⟩))
local macro_rules | `(tactic| walk_at "hasK")=>`(tactic| repeat (first | exact trivial | (refine ⟨λz=>?_,λz=>?_,?_⟩;(first | exact ⟨_,rfl⟩ | cases z);(first | rfl | cases z))))
structure Txt (K:Aa)(mg:Str→Option Ag)(qf:Aj)(qh:Aj)(qw:Aj)(q8:Aj)(qd:Aj)(ww:Aj)(wx:Aj)(qt:Aj)(wv:Aj)(q9:Aj)(qb:Aj)(wb:Aj)(qz:Aj)(qc:Aj)(qx:Aj)(qq:Aj):Prop where
 len_:mg "len" = none
 abs_:mg "abs" = none
 range_:mg "range" = none
 list_:mg "list" = none
 min_:mg "min" = none
 max_:mg "max" = none
 all_:mg "all" = none
 any_:mg "any" = none
 sorted_:mg "sorted" = none
 enumerate_:mg "enumerate" = none
 dict_:mg "dict" = none
 isinstance_:mg "isinstance" = none
 int_:mg "int" = none
 bool_:mg "bool" = none
 g_RoadError:mg "RoadError" = some (.ref qf)
 x_RoadError:ExcC K qf
 g_BadLine:mg "BadLine" = some (.ref qh)
 x_BadLine:ExcC K qh
 g_BadBottom:mg "BadBottom" = some (.ref qw)
 x_BadBottom:ExcC K qw
 g_OffRoad:mg "OffRoad" = some (.ref q8)
 x_OffRoad:ExcC K q8
 g_BadCount:mg "BadCount" = some (.ref qd)
 x_BadCount:ExcC K qd
 g_TooLong:mg "TooLong" = some (.ref ww)
 x_TooLong:ExcC K ww
 g_BadRow:mg "BadRow" = some (.ref wx)
 x_BadRow:ExcC K wx
 g_BadName:mg "BadName" = some (.ref qt)
 x_BadName:ExcC K qt
 g_Taken:mg "Taken" = some (.ref wv)
 x_Taken:ExcC K wv
 g_NoRoad:mg "NoRoad" = some (.ref q9)
 x_NoRoad:ExcC K q9
 g_NoWalker:mg "NoWalker" = some (.ref qb)
 x_NoWalker:ExcC K qb
 g_Stood:mg "Stood" = some (.ref wb)
 x_Stood:ExcC K wb
 g_NothingDone:mg "NothingDone" = some (.ref qz)
 x_NothingDone:ExcC K qz
 cl:Cls K qc
 na:NoAttr K qc "heights"
 g_WIDEST:∃t,mg "WIDEST" = some (.int 24 t)
 g_Road:mg "Road" = some (.ref qc)
 clW:Cls K qx
 clH:Cls K qq
 naWw:NoAttr K qx "whose"
 naWp:NoAttr K qx "point"
 naWt:NoAttr K qx "times"
 naHr:NoAttr K qq "roads"
 naHw:NoAttr K qq "walkers"
 naHd:NoAttr K qq "done"
 g_Walker:mg "Walker" = some (.ref qx)
 g_House:mg "House" = some (.ref qq)
 g_LONGEST_TRACE:∃t,mg "LONGEST_TRACE" = some (.int 1000 t)
 g_FARTHEST:∃t,mg "FARTHEST" = some (.int 1000000000000000000000000000000000000000000000000000000000000 t)
 g_LONGEST_NAME:∃t,mg "LONGEST_NAME" = some (.int 12 t)
 g_GREATEST_BOTTOM:∃t,mg "GREATEST_BOTTOM" = some (.int 40 t)
 g_LETTERS:∃t,mg "LETTERS" = some (.str "abcdefghijklmnopqrstuvwxyz" t)
 ms:PySem.W.mroIn K qb (.ref qw)=some false
section
variable {P:Ac}{w:Ah}{K:Aa}{mg:Str→Option Ag}{base:Heap}{qf:Aj}{qh:Aj}{qw:Aj}{q8:Aj}{qd:Aj}{ww:Aj}{wx:Aj}{qt:Aj}{wv:Aj}{q9:Aj}{qb:Aj}{wb:Aj}{qz:Aj}{qc:Aj}{qx:Aj}{qq:Aj}
def Zg (C:Aj):Sp:=λvs H Q E=>∃b:Int,vs=[.int b]∧(1≤b→Q .non H)∧(b<1→E (.ref C) none H)
theorem wwr {f:Aj}{fd:Ad}(F:Fun K "check_bottom" "check_bottom" s_check_bottom f fd)(T:Txt K mg qf qh qw q8 qd ww wx qt wv q9 qb wb qz qc qx qq):FnOk P w K mg base (CXE P w) 1 f fd ["bottom"] (Zg qw):=by
 have sc:=W8
 refine F.okX sc (λvs H Q E h=>by obtain ⟨b,rfl,_⟩:=h;rfl) (λcdv A outer s H vs Q E hr h=>?_)
 obtain ⟨b,rfl,h1,h2⟩:=h
 refine ⟨_,(wq (xh (wg jw (pv 0) qu (wm _)) (wq (zc rfl T.x_BadBottom x8 rfl T.g_BadBottom (w6 xn qj))) w4)),?_⟩
 refine exI rfl (wc rfl rfl (exI rfl ?_))
 refine zp (λq1=>?_) (λq1=>?_)
 ·exact ⟨by decide,h2 q1⟩
 ·exact h1 (by lia)
theorem wzg {f:Aj}{fd:Ad}(F:Fun K "_law_cell" "_law_cell" s__law_cell f fd)(T:Txt K mg qf qh qw q8 qd ww wx qt wv q9 qb wb qz qc qx qq):FnOk P w K mg base (CXE P w) 1 f fd ["_law_script","_law_at"] (Ju K):=by
 have sc:=qx4
 refine F.okX sc (λvs H Q E h=>by obtain ⟨a,ns,i,rfl,_⟩:=h;rfl) (λcdv A outer s H vs Q E hr h=>?_)
 obtain ⟨a,ns,i,rfl,hS,h0,k⟩:=h
 have hlen:(ns.map V.int).length=ns.length:=ae _
 refine ⟨_,(qk (xh (wg jw (pv 1) (wp w8 rfl T.len_ aF (qr (pv 0) qj)) (wm _)) (wq (wr (xp zw (pv 0) (pv 1) (λ_ _=>rfl)))) w4)
   (qk (xh (wg zg (wp w8 rfl T.len_ aF (qr (pv 0) qj)) qu (wm _)) (wq (wr (wy xq (wy xy qu (pv 1)) qu))) w4)
   (wq (wr (wy xq (xp zw (pv 0) (wy vq (pv 1) (wp w8 rfl T.len_ aF (qr (pv 0) qj))) (λ_ _=>rfl)) (wy xy qu (pv 1))))))),?_⟩
 refine exI rfl (exI rfl ⟨_,_,rfl,.inl hS,wc rfl rfl (exI rfl ?_)⟩)
 refine zp (λq1=>?_) (λq1=>?_)
 ·rw [hlen] at q1
  refine exI rfl (exI rfl (exX rfl rfl hS (Zf h0 q1) ?_))
  exact k _ (by rw [qzs,al q1])
 ·rw [hlen] at q1
  refine exI rfl ⟨_,_,rfl,.inl hS,rfl,_,rfl,?_⟩
  rw [hlen]
  refine zt (λq2=>?_) (λq2=>?_)
  ·refine exI rfl (wc rfl rfl ⟨(by walk_at "mul"),wc rfl rfl ?_⟩)
   exact k _ (by rw [qzs,ai q1,al q2])
  ·refine exI rfl (exI rfl (exI rfl ⟨_,_,rfl,.inl hS,wc rfl rfl ⟨(by rw [hlen];lia),?_⟩⟩))
   rw [hlen]
   refine exX rfl rfl hS (Zf (bj _ q2) (aX _ (by lia))) (exI rfl (wc rfl rfl ⟨(by walk_at "mul"),wc rfl rfl ?_⟩))
   exact k _ (by rw [qzs,ai q1,ai q2])
theorem wz5 {f:Aj}{fd:Ad}(F:Fun K "_law_pick" "_law_pick" s__law_pick f fd)(T:Txt K mg qf qh qw q8 qd ww wx qt wv q9 qb wb qz qc qx qq)(c__law_cell:Cal P w K mg base "_law_cell" 1 (Ju K)):FnOk P w K mg base (CXE P w) 2 f fd ["_law_script","_law_at","_law_turn","_law_many"] (jm K):=by
 have sc:=qxb
 refine F.okX sc (λvs H Q E h=>by obtain ⟨a,ns,i,t,m,rfl,_⟩:=h;rfl) (λcdv A outer s H vs Q E hr h=>?_)
 obtain ⟨a,ns,i,t,m,rfl,hS,h0,t0,t1,m0,k⟩:=h
 refine ⟨_,(qk (wn (i:=4) sc.nd rfl (by walk_at "loc") (wu c__law_cell (hr.mono (by decide)) rfl qy (qr (pv 0) (qr (pv 1) qj))))
   (qk (xh (wg qzp (wp Q6 rfl T.abs_ Qt (qr (pv 4) qj)) (wy wwd qu qu) (wm _)) (qk (wn (i:=5) sc.nd rfl (by walk_at "loc") (wp Q6 rfl T.abs_ Qt (qr (pv 4) qj)))
   (qk (yh aW rfl (vw rfl T.range_ (qr (pv 2) qj)) (xv (i:=6) sc.nd rfl (by walk_at "loc")) (wq (wn (i:=5) sc.nd rfl (by walk_at "loc") (wy vc (pv 5) qu))))
   (qk (xh (wg jw (pv 4) qu (wm _)) (wq (wn (i:=5) sc.nd rfl (by walk_at "loc") (wy vq (pv 5) qu))) w4)
   (wq (wr (wy vq (pv 5) (pv 3))))))) w4)
   (qk (wn (i:=7) sc.nd rfl (by walk_at "loc") (wy vq (pv 4) qu))
   (qk (wn (i:=8) sc.nd rfl (by walk_at "loc") (wy vq (wy xq (wy xq (wy xy (pv 7) qu) (wy xy (pv 2) qu)) qu) qu))
   (qk (wn (i:=9) sc.nd rfl (by walk_at "loc") (wy vq (wy xq (wy xq (wy xy (pv 8) (pv 8)) (wy xy (pv 7) qu)) (wy xy (pv 2) qu)) qu))
   (wq (wr (wy vq (wy vq (wy xq (wy xq (wy xy (pv 9) (pv 9)) (wy xy (pv 8) qu)) (wy xy (pv 2) qu)) qu) (pv 3))))))))),?_⟩
 refine exI rfl (exI rfl ?_)
 refine ⟨a,ns,i,rfl,hS,h0,λc hc=>?_⟩
 have fin:∀v,v=qz4 c t%m→Q (.int v) H:=λv hv=>by
  refine k v (by rw [hv,qvu,hc]) ?_ ?_
  ·rw [hv];exact bj _ (by lia)
  ·rw [hv];exact aX _ m0
 refine exI rfl (exI rfl (wc rfl rfl ⟨⟨by decide,by decide,by decide⟩,wc rfl rfl (exI rfl ?_)⟩))
 refine zp (λq1=>?_) (λq1=>?_)
 ·have q1':10 ^ 18≤yj c:=q1
  refine exI rfl (exI rfl ?_)
  refine exI rfl ⟨t,rfl,(by lia),(by lia),js (λj σ H1=>H1=H∧∃z,σ=[some (.ref a),some (.int i),some (.int t),some (.int m),some (.int c),some (.int (divs (yj c) j)),z,none,none,none]) ⟨rfl,_,rfl⟩ ?_ ?_⟩
  ·rintro j σ H1 hj ⟨rfl,z,rfl⟩
   exact exI rfl (wc rfl rfl ⟨(by walk_at "div"),rfl,_,rfl⟩)
  ·rintro σ H1 ⟨rfl,z,rfl⟩
   refine exI rfl (wc rfl rfl (exI rfl ?_))
   refine zp (λq2=>?_) (λq2=>?_)
   ·refine exI rfl (wc rfl rfl ⟨(by walk_at "pos"),exI rfl (exI rfl (wc rfl rfl ⟨(by walk_at "pos"),?_⟩))⟩)
    exact fin _ (by rw [wqr q1' q2])
   ·refine exI rfl (exI rfl (wc rfl rfl ⟨(by walk_at "pos"),?_⟩))
    exact fin _ (by rw [qyv q1' q2])
 ·have q1':¬ 10 ^ 18≤yj c:=q1
  have l0:=bj c (show (1000003:Int)≠0 by decide)
  have l1:=aX c (show (0:Int)<1000003 by decide)
  refine exI rfl (wc rfl rfl ⟨(by walk_at "pos"),exI rfl (wc rfl rfl ⟨(by walk_at "mul"),exI rfl (wc rfl rfl ⟨(by walk_at "mul"),wc rfl rfl (wc rfl rfl (wc rfl rfl ⟨(by walk_at "pos"),?_⟩))⟩)⟩)⟩)
  have o0:0≤qx5 c t:=bj _ (by decide)
  have o1:qx5 c t<999983:=aX _ (by decide)
  refine ⟨V.int (qx5 c t),rfl,V.int (qx5 c t),rfl,wc rfl rfl ⟨(by walk_at "mul"),exI rfl (wc rfl rfl ⟨(by walk_at "mul"),wc rfl rfl (exI rfl (wc rfl rfl ⟨(by walk_at "mul"),wc rfl rfl (wc rfl rfl ⟨(by walk_at "pos"),?_⟩)⟩))⟩)⟩⟩
  have w0:0≤qvn c t:=bj _ (by decide)
  have w1:qvn c t<1000033:=aX _ (by decide)
  refine ⟨V.int (qvn c t),rfl,V.int (qvn c t),rfl,wc rfl rfl ⟨(by walk_at "mul"),V.int (qx5 c t),rfl,wc rfl rfl ⟨(by walk_at "mul"),wc rfl rfl (exI rfl (wc rfl rfl ⟨(by walk_at "mul"),wc rfl rfl (wc rfl rfl ⟨(by walk_at "pos"),exI rfl (wc rfl rfl ⟨(by walk_at "pos"),?_⟩)⟩)⟩))⟩⟩⟩
  exact fin _ (by rw [wqc q1'])
def Within (n f:Int)(m:Option Int):Prop:=f≤n∧∀b,m=some b→n≤b
def Zd (C:Aj):Sp:=λvs H Q E=>∃(n f:Int) (m:V) (o:Option Int),vs=[.int n,.int f,m]∧(m=.non∧o=none∨∃b,m=.int b∧o=some b)∧(Within n f o→Q .non H)∧(¬ Within n f o→E (.ref C) none H)
theorem wwg {f:Aj}{fd:Ad}(F:FunD K "check_count" s_check_count f fd)(T:Txt K mg qf qh qw q8 qd ww wx qt wv q9 qb wb qz qc qx qq):FnOk P w K mg base (CXE P w) 1 f fd ["number","fewest","most"] (Zd qd):=by
 have sc:=Y9
 refine F.okX sc (λvs H Q E h=>by obtain ⟨n,f,m,o,rfl,_⟩:=h;rfl) (λcdv A outer s H vs Q E hr h=>?_)
 obtain ⟨n,fe,m,o,rfl,hm,k,x⟩:=h
 refine ⟨_,(wq (xh (PW.pt (Wt (wg jw (pv 0) (pv 1) (wm _)) (ym (PW.pt (Wh (wg wvf (pv 2) wxu (wm _)) (qw4 (wg yu (pv 0) (pv 2) (wm _)))))))) (wq (zc rfl T.x_BadCount x8 rfl T.g_BadCount (w6 xn qj))) w4)),?_⟩
 refine exI rfl (exI rfl (wc rfl rfl (exI rfl ?_)))
 refine zp (λq1=>?_) (λq1=>?_)
 ·refine j3 ?_
  exact ⟨sz1,x (λz=>by have:=z.1;lia)⟩
 ·rcases hm with ⟨rfl,rfl⟩|⟨b,rfl,rfl⟩
  ·refine exI rfl ⟨rfl,_,rfl,?_⟩
   refine yy ?_
   exact k ⟨by lia,λb e=>nomatch e⟩
  ·refine exI rfl ⟨rfl,_,rfl,?_⟩
   refine j3 ?_
   refine exI rfl (exI rfl (wc rfl rfl (exI rfl ?_)))
   refine zp (λq2=>?_) (λq2=>?_)
   ·exact ⟨sz1,x (λz=>by have:=z.2 b rfl;lia)⟩
   ·exact k ⟨by lia,λb' e=>by cases e;lia⟩
def xj (ns:List Int):Prop:=2≤ns.length∧ns.length≤25∧∀h∈ns,0≤h∧h≤(ns.length:Int)-1
def Jd (K:Aa):Sp:=λvs H Q _=>∃(p:Aj) (ns:List Int),vs=[.ref p]∧SqL K H p (ns.map V.int)∧(xj ns→Q (.bl true) H)∧(¬ xj ns→Q (.bl false) H)
theorem qkh {f:Aj}{fd:Ad}(F:Fun K "is_line" "is_line" s_is_line f fd)(T:Txt K mg qf qh qw q8 qd ww wx qt wv q9 qb wb qz qc qx qq):FnOk P w K mg base (CXE P w) 1 f fd ["heights"] (Jd K):=by
 have sc:=qv0
 refine F.okX sc (λvs H Q E h=>by obtain ⟨p,ns,rfl,_⟩:=h;rfl) (λcdv A outer s H vs Q E hr h=>?_)
 obtain ⟨p,ns,rfl,hS,k1,k2⟩:=h
 have hlen:(ns.map V.int).length=ns.length:=ae _
 obtain ⟨tw,g_WIDEST⟩:=T.g_WIDEST
 refine ⟨_,(qk (wn (i:=1) sc.nd rfl (by walk_at "loc") (wy zj (wp w8 rfl T.len_ aF (qr (pv 0) qj)) qu))
   (qk (xh (PW.pt (Wt (wg jw (pv 1) qu (wm _)) (ym (wg yu (pv 1) (yq (v:=V.int 24) rfl g_WIDEST ⟨_,rfl⟩) (wm _))))) (wq (wr qj1)) w4)
   (wq (wr (wqn (uw qzp (wp (qqh rfl) rfl T.min_ dn (qr (pv 0) qj)) qu (wm _)) (wxk (uw wx3 (wp (jn rfl) rfl T.max_ cE (qr (pv 0) qj)) (pv 1) (wm _)))))))),?_⟩
 refine exI rfl ⟨_,_,rfl,.inl hS,wc rfl rfl ?_⟩
 refine exI rfl (wc rfl rfl (exI rfl ?_))
 rw [hlen]
 refine zp (λq1=>?_) (λq1=>?_)
 ·refine j3 ?_
  exact k2 (λz=>by have:=z.1;lia)
 ·refine exI rfl (wc rfl rfl (exI rfl ?_))
  refine zp (λq2=>?_) (λq2=>?_)
  ·exact k2 (λz=>by have:=z.2.1;lia)
  ·refine exI rfl ⟨p,ns,rfl,hS,(by lia),λm hm hle=>(wc rfl rfl (exI rfl ?_))⟩
   refine zp (λq3=>?_) (λq3=>?_)
   ·refine exI rfl ⟨p,ns,rfl,hS,(by lia),λm2 hm2 hle2=>(exI rfl (wc rfl rfl ?_))⟩
    show Q (.bl (decide (m2≤(ns.length:Int)-1))) H
    by_cases q4:m2≤(ns.length:Int)-1
    ·rw [bd q4]
     exact k1 ⟨by lia,by lia,λh hh=>by have:=hle h hh;have:=hle2 h hh;lia⟩
    ·rw [bh q4]
     exact k2 (λz=>q4 (z.2.2 m2 hm2).2)
   ·exact k2 (λz=>q3 (z.2.2 m hm).1)
def RoadAt (C:Aj)(H:Hp)(r:Aj)(ns:List Int):Prop:=∃dx q,H r=some (.ins C dx [("heights",.ref q)])∧H q=some (.lst (ns.map V.int))
theorem RoadAt.same {C:Aj}{H H':Hp}{r:Aj}{ns:List Int}(h:RoadAt C H r ns)(s:Same H H'):RoadAt C H' r ns:=by
 obtain ⟨dx,q,h1,h2⟩:=h
 exact ⟨dx,q,s _ _ h1,s _ _ h2⟩
theorem jk {q:Aj}:([("heights",V.ref q)]:List (Str×V)).lookup ("heights" : Str)=some (.ref q):=by
 rw [aC]
 simp
theorem zy {q:Aj}{m:Str}(h:¬ m = "heights"):([("heights",V.ref q)]:List (Str×V)).lookup m=none:=by
 rw [aC]
 have:(m==("heights" : Str))=false:=aK.mpr h
 rw [this]
 rfl
def uh (K:Aa)(CB C:Aj):Sp:=λvs H Q E=>∃(r dx p:Aj) (ns:List Int),vs=[.ref r,.ref p]∧H r=some (.ins C dx [])∧SqL K H p (ns.map V.int) ∧
 (xj ns→∀H' q,H q=none→(∀b o,H b=some o→b≠r→H' b=some o)→H' r=some (.ins C dx [("heights",.ref q)])→H' q=some (.lst (ns.map V.int))→Q .non H')∧(¬ xj ns→E (.ref CB) none H)
theorem wz9 {f:Aj}{fd:Ad}(F:Fun K "__init__" "Road.__init__" s_Road___init__ f fd)(T:Txt K mg qf qh qw q8 qd ww wx qt wv q9 qb wb qz qc qx qq)(c_is_line:Cal P w K mg base "is_line" 1 (Jd K)):FnOk P w K mg base (CXE P w) 2 f fd ["self","heights"] (uh K qh qc):=by
 have sc:=Wj
 refine F.okX sc (λvs H Q E h=>by obtain ⟨r,dx,p,ns,rfl,_⟩:=h;rfl) (λcdv A outer s H vs Q E hr h=>?_)
 obtain ⟨r,dx,p,ns,rfl,hr0,hS,k,x⟩:=h
 refine ⟨_,(qk (xh (qv9 (qxn (wu c_is_line (hr.mono (by decide)) rfl qy (qr (pv 1) qj)))) (wq (zc rfl T.x_BadLine x8 rfl T.g_BadLine (w6 xn qj))) w4)
   (wq (ut (pv 0) (kf jv rfl T.list_ bQ (qr (pv 1) qj)) rfl))),?_⟩
 refine ⟨_,rfl,p,ns,rfl,hS,λok=>(exI rfl ?_),λbad=>(exI rfl ?_)⟩
 ·refine yy ?_
  refine exI rfl ⟨_,_,rfl,.inl hS,λq nq=>?_⟩
  have hr1:upd H q (.lst (ns.map V.int)) r=some (.ins qc dx []):=by rw [wz (qg hr0 nq)];exact hr0
  refine exI rfl ⟨r,qc,dx,[],rfl,hr1,T.cl,T.na,(by show 0<1000;decide),?_⟩
  refine k ok _ q nq (λb o e n=>?_) qm ?_
  ·rw [wz n,wz (qg e nq)]
   exact e
  ·rw [wz (qg hr0 nq).symm,qm]
 ·refine j3 ?_
  exact ⟨sz1,x bad⟩
def y7 (C:Aj):Sp:=λvs H Q _=>∃(r:Aj) (ns:List Int),vs=[.ref r]∧RoadAt C H r ns∧Q (.int ((ns.length:Int)-1)) H
theorem wqb {f:Aj}{fd:Ad}(F:Fun K "width" "Road.width" s_Road_width f fd)(T:Txt K mg qf qh qw q8 qd ww wx qt wv q9 qb wb qz qc qx qq):FnOk P w K mg base (CXE P w) 1 f fd ["self"] (y7 qc):=by
 have sc:=qqv
 refine F.okX sc (λvs H Q E h=>by obtain ⟨r,ns,rfl,_⟩:=h;rfl) (λcdv A outer s H vs Q E hr h=>?_)
 obtain ⟨r,ns,rfl,⟨dx,q,h1,h2⟩,k⟩:=h
 refine ⟨_,(wq (wr (wy zj (wp w8 rfl T.len_ aF (xx (zq (pv 0) rfl) qj)) qu))),?_⟩
 refine exI rfl ⟨r,qc,dx,_,_,rfl,h1,T.cl,T.na,jk,q,exI rfl ⟨.inl (SqL.of h2),wc rfl rfl ?_⟩⟩
 rw [ae]
 exact k
def jt (C:Aj):Sp:=λvs H Q _=>∃(r:Aj) (ns:List Int),vs=[.ref r]∧RoadAt C H r ns∧∀p,H p=none→Q (.ref p) (upd H p (.lst (ns.map V.int)))
theorem qkp {f:Aj}{fd:Ad}(F:Fun K "corners" "Road.corners" s_Road_corners f fd)(T:Txt K mg qf qh qw q8 qd ww wx qt wv q9 qb wb qz qc qx qq):FnOk P w K mg base (CXE P w) 1 f fd ["self"] (jt qc):=by
 have sc:=W9
 refine F.okX sc (λvs H Q E h=>by obtain ⟨r,ns,rfl,_⟩:=h;rfl) (λcdv A outer s H vs Q E hr h=>?_)
 obtain ⟨r,ns,rfl,⟨dx,q,h1,h2⟩,k⟩:=h
 refine ⟨_,(wq (wr (kf jv rfl T.list_ bQ (xx (zq (pv 0) rfl) qj)))),?_⟩
 exact exI rfl ⟨r,qc,dx,_,_,rfl,h1,T.cl,T.na,jk,q,exI rfl ⟨.inl (SqL.of h2),λp np=>k p np⟩⟩
def InW (ns:List Int)(wd:Int):Prop:=(ns.length:Int)=wd+1∧∀h∈ns,0≤h∧h≤wd
def Zp (K:Aa):Sp:=λvs H Q _=>∃(a:Aj) (ns:List Int) (i wd:Int),vs=[.ref a,.int i,.int wd]∧SqL K H a (ns.map V.int)∧0≤i∧1≤wd∧wd≤24 ∧
 ∀p hs,H p=none→InW hs wd→Q (.ref p) (upd H p (.lst (hs.map V.int)))
theorem wwx {f:Aj}{fd:Ad}(F:Fun K "_law_climb" "_law_climb" s__law_climb f fd)(T:Txt K mg qf qh qw q8 qd ww wx qt wv q9 qb wb qz qc qx qq)(c__law_pick:Cal P w K mg base "_law_pick" 2 (jm K)):FnOk P w K mg base (CXE P w) 3 f fd ["_law_script","_law_at","_law_wide"] (Zp K):=by
 have sc:=J3
 refine F.okX sc (λvs H Q E h=>by obtain ⟨a,ns,i,wd,rfl,_⟩:=h;rfl) (λcdv A outer s H vs Q E hr h=>?_)
 obtain ⟨a,ns,i,wd,rfl,hS,h0,w1,w2,k⟩:=h
 refine ⟨_,(qk (wn (i:=3) sc.nd rfl (by walk_at "loc") (um (vg (wu c__law_pick (hr.mono (by decide)) rfl qy (qr (pv 0) (qr (pv 1) (w6 qu (x4 (wy xq (pv 2) qu) qj))))) qj)))
   (qk (yh aW rfl (vw rfl T.range_ (qr (pv 2) qj)) (xv (i:=4) sc.nd rfl (by walk_at "loc")) (wq (xg (qj5 bK ck cm jy (pv 3) (vg (wp (qyt rfl) rfl T.max_ cE (w6 qu (vg (wp (qwc rfl) rfl T.min_ dn (qr (pv 2) (x4 (wy zj (wy xq (xp zw (pv 3) (qz3 Jw qu) (λ_ _=>rfl)) (wy xy qu (wu c__law_pick (hr.mono (by decide)) rfl qy (qr (pv 0) (qr (pv 1) (x4 (wy xq qu (pv 4)) (w6 qu qj))))))) qu) qj))) qj))) qj)))))
   (wq (wr (pv 3))))),?_⟩
 refine exI rfl (exI rfl (exI rfl (wc rfl rfl ⟨a,ns,_,_,_,rfl,hS,h0,(by lia),(by lia),(by lia),λr1 _ l1 u1=>⟨sz1,λp np=>?_⟩⟩)))
 refine ⟨_,rfl,wd,rfl,(by lia),(by lia),js (λj σ H1=>∃(ys:List Int) (l:Int) (z:Option V),ys.length=j∧(∀h∈ys++[l],0≤h∧h≤wd)∧H1=upd H p (.lst ((ys++[l]).map V.int))∧σ=[some (.ref a),some (.int i),some (.int wd),some (.ref p),z])
  ⟨[],r1,none,rfl,(λh hh=>by have e:=aq.mp hh;subst e;lia),rfl,rfl⟩ ?_ ?_⟩
 ·rintro j σ H1 hj ⟨ys,l,z,hy,hb,rfl,rfl⟩
  have hp:upd H p (.lst ((ys++[l]).map V.int)) p=some (.lst ((ys++[l]).map V.int)):=qm
  have hS1:SqL K (upd H p (.lst ((ys++[l]).map V.int))) a (ns.map V.int):=Same.sql (Same.upd np) hS
  have hlast:atI ((ys++[l]).map V.int) (-1)=some (V.int l):=by
   rw [aP]
   exact wq3 _ _
  have hl:=hb l (by simp)
  refine exI rfl ⟨.inl ⟨rfl,_,SqL.of hp⟩,exI rfl (exI rfl (exI rfl (exX rfl rfl (SqL.of hp) hlast (exI rfl (exI rfl (exI rfl (wc rfl rfl ⟨a,ns,_,_,_,rfl,hS1,h0,(by lia),(by lia),(by lia),λr2 _ l2 u2=>?_⟩)))))))⟩
  refine wc rfl rfl ⟨(by walk_at "mul"),wc rfl rfl (wc rfl rfl ⟨_,_,rfl,_,_,rfl,_,_,_,rfl,rfl,hp,?_,?_⟩)⟩
  ·rw [ae,au,hy]
   have:(1000000:Nat)<sizeLine:=by decide
   simp only [aT,cU]
   lia
  ·refine ⟨ys++[l],(if (if l+2*r2-1<wd then l+2*r2-1 else wd)>0 then (if l+2*r2-1<wd then l+2*r2-1 else wd) else 0),_,by rw [au,hy];rfl,λh hh=>?_,?_,rfl⟩
   ·rcases aZ.mp hh with hh|hh
    ·exact hb h hh
    ·have e:=aq.mp hh
     subst e
     by_cases g1:l+2*r2-1<wd
     ·rw [al g1]
      by_cases g2:l+2*r2-1>0
      ·rw [al g2];lia
      ·rw [ai g2];lia
     ·rw [ai g1,al (show wd>0 by lia)];lia
   ·rw [yk,aP (l₁:=ys++[l])]
    rfl
 ·rintro σ H1 ⟨ys,l,z,hy,hb,rfl,rfl⟩
  refine exI rfl (k p _ np ⟨?_,hb⟩)
  rw [au,hy]
  simp only [aT,cU]
  lia
def Wy (K:Aa):Sp:=λvs H Q _=>∃(a:Aj) (ns:List Int) (i m:Int),vs=[.ref a,.int i,.int m]∧SqL K H a (ns.map V.int)∧0≤i∧1≤m∧m≤24 ∧
 ∀p hs wd,H p=none→1≤wd→wd≤m→InW hs wd→Q (.ref p) (upd H p (.lst (hs.map V.int)))
theorem qym {wd:Int}{n:Nat}(g:Nat→Int)(h1:(n:Int)=wd+1)(h2:∀i,i<n→0≤g i∧g i≤wd):InW ((List.range n).map g) wd:=by
 refine ⟨by rw [ae,aH];exact h1,λh hh=>?_⟩
 obtain ⟨i,hi,rfl⟩:=aJ.mp hh
 exact h2 i (aN.mp hi)
theorem Jn (n:Nat)(g:Nat→Int):(List.range n).map (λi=>V.int (g i))=((List.range n).map g).map V.int:=by
 rw [bP]
 rfl
theorem qjx {f:Aj}{fd:Ad}(F:Fun K "_law_heights" "_law_heights" s__law_heights f fd)(T:Txt K mg qf qh qw q8 qd ww wx qt wv q9 qb wb qz qc qx qq)(c__law_pick:Cal P w K mg base "_law_pick" 2 (jm K))(c__law_climb:Cal P w K mg base "_law_climb" 3 (Zp K)) :
  FnOk P w K mg base (CXE P w) 4 f fd ["_law_script","_law_at","_law_most"] (Wy K):=by
 have sc:=Zq
 refine F.okX sc (λvs H Q E h=>by obtain ⟨a,ns,i,m,rfl,_⟩:=h;rfl) (λcdv A outer s H vs Q E hr h=>?_)
 obtain ⟨a,ns,i,m,rfl,hS,h0,m1,m2,k⟩:=h
 refine ⟨_,(qk (wn (i:=3) sc.nd rfl (by walk_at "loc") (wy xq qu (wu c__law_pick (hr.mono (by decide)) rfl qy (qr (pv 0) (qr (pv 1) (w6 qu (qr (pv 2) qj)))))))
   (qk (wn (i:=4) sc.nd rfl (by walk_at "loc") (wu c__law_pick (hr.mono (by decide)) rfl qy (qr (pv 0) (qr (pv 1) (w6 qu (w6 qu qj))))))
   (qk (xh (wg zg (pv 4) qu (wm _)) (wq (wr (jf (M:=[3]) rfl rfl (by walk_at "cap") (by walk_at "has") (by walk_at "cix") rfl (by decide +kernel) rfl (show List.Nodup (["_law_k","_law_wide"]:List Str) by decide +kernel) (vw rfl T.range_ (x4 (wy xq (pv 3) qu) qj)) (λ_ _ _ _ _=>(wy xy (pv 1) (wy vq (pv 0) qu)))))) w4)
   (qk (xh (wg zg (pv 4) qu (wm _)) (wq (wr (jf (M:=[]) rfl rfl (by walk_at "cap") (by walk_at "has") (by walk_at "cix") rfl (by decide +kernel) rfl (show List.Nodup (["_law_k"]:List Str) by decide +kernel) (vw rfl T.range_ (x4 (wy xq (pv 3) qu) qj)) (λ_ _ _ _ _=>(pv 0))))) w4)
   (qk (xh (wg zg (pv 4) qu (wm _)) (wq (wr (jf (M:=[3]) rfl rfl (by walk_at "cap") (by walk_at "has") (by walk_at "cix") rfl (by decide +kernel) rfl (show List.Nodup (["_law_k","_law_wide"]:List Str) by decide +kernel) (vw rfl T.range_ (x4 (wy xq (pv 3) qu) qj)) (λ_ _ _ _ _=>(wy zj (pv 1) (pv 0)))))) w4)
   (qk (xh (wg zg (pv 4) qu (wm _)) (wq (wr (jf (M:=[3]) rfl rfl (by walk_at "cap") (by walk_at "has") (by walk_at "cix") rfl (by decide +kernel) rfl (show List.Nodup (["_law_k","_law_wide"]:List Str) by decide +kernel) (vw rfl T.range_ (x4 (wy xq (pv 3) qu) qj)) (λ_ _ _ _ _=>(wy vq (wy xq (wy xy qu (pv 0)) qu) (wy xq (pv 1) qu)))))) w4)
   (qk (xh (PW.pt (Wt (wg zg (pv 4) qu (wm _)) (ym (wg zg (pv 4) qu (wm _))))) (wq (wr (wu c__law_climb (hr.mono (by decide)) rfl qy (qr (pv 0) (qr (pv 1) (qr (pv 3) qj)))))) w4)
   (wq (wr (jf (M:=[0,1,3]) rfl rfl (by walk_at "cap") (by walk_at "has") (by walk_at "cix") rfl (by decide +kernel) rfl (show List.Nodup (["_law_k","_law_script","_law_at","_law_wide"]:List Str) by decide +kernel) (vw rfl T.range_ (x4 (wy xq (pv 3) qu) qj)) (λ_ _ _ _ _=>(wu c__law_pick (hr.mono (by decide)) rfl qkd (qr (pv 1) (qr (pv 2) (x4 (wy xq qu (pv 0)) (x4 (wy xq (pv 3) qu) qj)))))))))))))))),?_⟩
 refine exI rfl (exI rfl (exI rfl ⟨a,ns,_,_,_,rfl,hS,h0,(by lia),(by lia),(by lia),λr1 _ l1 u1=>?_⟩))
 refine wc rfl rfl (exI rfl (exI rfl ⟨a,ns,_,_,_,rfl,hS,h0,(by lia),(by lia),(by lia),λkd _ l2 u2=>?_⟩))
 have hn:((1+r1+1).toNat:Int)=1+r1+1:=by lia
 have hn2:(1+r1+1).toNat≤1000000:=by lia
 have fin:∀(g:Nat→Int) (p:Aj),(∀j,j<(1+r1+1).toNat→0≤g j∧g j≤1+r1)→H p=none→Q (.ref p) (upd H p (.lst ((List.range (1+r1+1).toNat).map λj=>V.int (g j)))):=λg p hg np=>by
  rw [Jn]
  exact k p _ (1+r1) np (by lia) (by lia) (qym g hn hg)
 refine exI rfl ⟨rfl,_,rfl,zt (λq1=>?_) (λq1=>?_)⟩
 ·refine exI rfl (wc rfl rfl ⟨1+r1+1,rfl,(by lia),(by lia),jb (λj=>V.int ((1+r1)*(((0:Int)+j)%2))) hn2 (λj H' R hj hs hR=>?_) λp np=>fin _ p (λj hj=>?_) np⟩)
  ·exact exI rfl (exI rfl (wc rfl rfl ⟨(by walk_at "pos"),wc rfl rfl ⟨(by walk_at "mul"),hR⟩⟩))
  ·have a1:=bj ((0:Int)+j) (show (2:Int)≠0 by decide)
   have a2:=aX ((0:Int)+j) (show (0:Int)<2 by decide)
   rcases (by lia:((0:Int)+j)%2=0∨((0:Int)+j)%2=1) with e|e <;> rw [e] <;> lia
 ·refine exI rfl ⟨rfl,_,rfl,zt (λq2=>?_) (λq2=>?_)⟩
  ·refine exI rfl (wc rfl rfl ⟨1+r1+1,rfl,(by lia),(by lia),jb (λj=>V.int ((0:Int)+j)) hn2 (λj H' R hj hs hR=>?_) λp np=>fin _ p (λj hj=>by lia) np⟩)
   exact exI rfl hR
  ·refine exI rfl ⟨rfl,_,rfl,zt (λq3=>?_) (λq3=>?_)⟩
   ·refine exI rfl (wc rfl rfl ⟨1+r1+1,rfl,(by lia),(by lia),jb (λj=>V.int (1+r1-((0:Int)+j))) hn2 (λj H' R hj hs hR=>?_) λp np=>fin _ p (λj hj=>by lia) np⟩)
    exact exI rfl (exI rfl (wc rfl rfl hR))
   ·refine exI rfl ⟨rfl,_,rfl,zt (λq4=>?_) (λq4=>?_)⟩
    ·refine exI rfl (wc rfl rfl ⟨1+r1+1,rfl,(by lia),(by lia),jb (λj=>V.int ((2*((0:Int)+j)+1)%(1+r1+1))) hn2 (λj H' R hj hs hR=>?_) λp np=>fin _ p (λj hj=>?_) np⟩)
     ·exact exI rfl (wc rfl rfl ⟨(by walk_at "mul"),wc rfl rfl (exI rfl (wc rfl rfl (wc rfl rfl ⟨(by walk_at "pos"),hR⟩)))⟩)
     ·have a1:=bj (2*((0:Int)+j)+1) (show 1+r1+1≠0 by lia)
      have a2:=aX (2*((0:Int)+j)+1) (show 0<1+r1+1 by lia)
      lia
    ·have last:tRet (tComp [0,1,3] (iRng1 (v5 (tOp (rI0 λi j=>.int (i+j)) (Qh 3) (tC (.int 1))) Zc)) (Yv (jm K) (λ_=>E0) (v5 (Qh 1) (v5 (Qh 2) (v5 (tOp (rI0 λi j=>.int (i+j)) (tC (.int 3)) (Qh 0)) (v5 (tOp (rI0 λi j=>.int (i+j)) (Qh 3) (tC (.int 1))) Zc))))))
       { nx:=λ_ H'=>Q .non H',rt:=Q } [some (.ref a),some (.int i),some (.int m),some (.int (1+r1)),some (.int kd)] H:=by
      refine exI rfl (wc rfl rfl ⟨1+r1+1,rfl,(by lia),(by lia),jb (λj=>V.int (qvu ns i (3+((0:Int)+j)) (1+r1+1))) hn2 (λj H' R hj hs hR=>?_) λp np=>fin _ p (λj hj=>?_) np⟩)
      ·refine exI rfl (exI rfl (exI rfl (wc rfl rfl (exI rfl (wc rfl rfl ⟨a,ns,_,_,_,rfl,Same.sql hs hS,h0,(by lia),(by lia),(by lia),λr e _ _=>?_⟩)))))
       rw [e]
       exact hR
      ·have a1:=wxy ns i (3+((0:Int)+j)) (1+r1+1) (by lia)
       have a2:=ww2 ns i (3+((0:Int)+j)) (1+r1+1) (by lia)
       lia
     have climb:tRet (Yv (Zp K) (λ_=>E) (v5 (Qh 0) (v5 (Qh 1) (v5 (Qh 3) Zc)))) { nx:=λ_ H'=>Q .non H',rt:=Q } [some (.ref a),some (.int i),some (.int m),some (.int (1+r1)),some (.int kd)] H :=
      (exI rfl (exI rfl (exI rfl ⟨a,ns,i,1+r1,rfl,hS,h0,(by lia),(by lia),λp hs np hw=>k p hs (1+r1) np (by lia) (by lia) hw⟩)))
     refine exI rfl ⟨rfl,_,rfl,zt (λq5=>j3 climb) (λq5=>?_)⟩
     exact exI rfl ⟨rfl,_,rfl,zt (λq6=>climb) (λq6=>last)⟩
def qwz:Sp:=λvs H Q _=>∃x y:Int,vs=[.int x,.int y]∧0≤x∧0≤y∧Q (.int (Zy x y)) H
theorem qvk {tb:TS}{c:TT}{D:Ends}{H:Hp}{x y:Int}(hx:0≤x)(hy:0≤y)(hc:c=tTest (tOp (rI0 λi j=>.bl (decide (j<i))) (Qh 1) (tC (.int 0))))(hb:tb=tPar 0 1 (v5 (Qh 1) (v5 (tOp (rI (λ_ j=>0<j) λi j=>.int (i%j)) (Qh 0) (Qh 1)) Zc)))
  (hD:D.nx [some (.int (Zy x y)),some (.int 0)] H):qkr c tb D [some (.int x),some (.int y)] H:=by
 subst hc hb
 refine Yj (λσ H1=>H1=H∧∃u v:Int,σ=[some (.int u),some (.int v)]∧0≤u∧0≤v∧Zy u v=Zy x y) (λσ _=>match σ with|[_,some (.int v)]=>v.toNat|_=>0) ⟨rfl,x,y,rfl,hx,hy,rfl⟩ ?_ λσ H Q Q' h ⟨v,e,i,j,e1,e2,k,e3,q⟩=>⟨v,e,i,j,e1,e2,k,e3,h _ _ q⟩
 rintro σ H1 ⟨rfl,u,v,rfl,hu,hv,e⟩
 refine exI rfl (wc rfl rfl (exI rfl ?_))
 refine zp (λq=>?_) (λq=>?_)
 ·have h1:=bj u (show v≠0 by lia)
  have h2:=aX u q
  refine exI rfl (exI rfl (exI rfl (wc rfl rfl ⟨q,_,_,rfl,⟨rfl,v,u%v,rfl,hv,h1,?_⟩,?_⟩)))
  ·rw [qy5 hu q,e]
  ·show (u%v).toNat<v.toNat
   lia
 ·have z:v=0:=by lia
  subst z
  rw [qyx hu] at e
  subst e
  exact hD
theorem ok_gcd {f:Aj}{fd:Ad}(F:Fun K "common_divisor" "common_divisor" s_common_divisor f fd)(T:Txt K mg qf qh qw q8 qd ww wx qt wv q9 qb wb qz qc qx qq):FnOk P w K mg base (CXE P w) 1 f fd ["one","other"] qwz:=by
 have sc:=Qf
 refine F.okX sc (λvs H Q E h=>by obtain ⟨x,y,rfl,_⟩:=h;rfl) (λcdv A outer s H vs Q E hr h=>?_)
 obtain ⟨x,y,rfl,hx,hy,k⟩:=h
 refine ⟨_,(qk (Qs aW (wg yu (pv 1) qu (wm _)) (wq (wws (i:=0) (j:=1) rfl sc.nd rfl rfl (by decide) rfl rfl (qr (pv 1) (x4 (wy vq (pv 0) (pv 1)) qj)) rfl)))
   (wq (wr (pv 0)))),?_⟩
 exact qvk hx hy rfl rfl (exI rfl k)
theorem qys {f:Aj}{fd:Ad}(F:Fun K "_law_common" "_law_common" s__law_common f fd)(T:Txt K mg qf qh qw q8 qd ww wx qt wv q9 qb wb qz qc qx qq):FnOk P w K mg base (CXE P w) 1 f fd ["_law_one","_law_other"] qwz:=by
 have sc:=Yz
 refine F.okX sc (λvs H Q E h=>by obtain ⟨x,y,rfl,_⟩:=h;rfl) (λcdv A outer s H vs Q E hr h=>?_)
 obtain ⟨x,y,rfl,hx,hy,k⟩:=h
 refine ⟨_,(qk (Qs aW (wg yu (pv 1) qu (wm _)) (wq (wws (i:=0) (j:=1) rfl sc.nd rfl rfl (by decide) rfl rfl (qr (pv 1) (x4 (wy vq (pv 0) (pv 1)) qj)) rfl)))
   (wq (wr (pv 0)))),?_⟩
 exact qvk hx hy rfl rfl (exI rfl k)
def ptV (p:Int×Int):List V:=[.int p.1,.int p.2]
def j5 (C:Aj):Sp:=λvs H Q E=>∃t b:Int,vs=[.int t,.int b]∧(1≤b→Sm 9000 b∧∀p,H p=none→Q (.ref p) (upd H p (.tup (ptV (wf t b)))))∧(b<1→E (.ref C) none H)
theorem qup {f:Aj}{fd:Ad}(F:Fun K "lowest" "lowest" s_lowest f fd)(T:Txt K mg qf qh qw q8 qd ww wx qt wv q9 qb wb qz qc qx qq)(c_check_bottom:Cal P w K mg base "check_bottom" 1 (Zg qw))(c_common_divisor:Cal P w K mg base "common_divisor" 1 qwz) :
  FnOk P w K mg base (CXE P w) 2 f fd ["top","bottom"] (j5 qw):=by
 have sc:=qus
 refine F.okX sc (λvs H Q E h=>by obtain ⟨t,b,rfl,_⟩:=h;rfl) (λcdv A outer s H vs Q E hr h=>?_)
 obtain ⟨t,b,rfl,k,x⟩:=h
 refine ⟨_,(qk (xg (wu c_check_bottom (hr.mono (by decide)) rfl qy (qr (pv 1) qj)))
   (qk (wn (i:=2) sc.nd rfl (by walk_at "loc") (wu c_common_divisor (hr.mono (by decide)) rfl qy (vg (wp Q6 rfl T.abs_ Qt (qr (pv 0) qj)) (qr (pv 1) qj))))
   (wq (wr (zm (x4 (wy vc (pv 0) (pv 2)) (x4 (wy vc (pv 1) (pv 2)) qj))))))),?_⟩
 refine ⟨_,rfl,b,rfl,λg1=>?_,λg1=>x g1⟩
 obtain ⟨sb,k⟩:=k g1
 have hg:=jz (t:=t) g1
 have hs:Sm 9000 (gOf t b):=sb.of_le (by have:=qu6 (t:=t) g1;lia)
 refine exI rfl (exI rfl (exI rfl ⟨yj t,b,rfl,qjb t,(by lia),?_⟩))
 refine exI rfl ⟨V.int (gOf t b),rfl,wc rfl rfl ⟨⟨by lia,hs⟩,exI rfl ⟨V.int (gOf t b),rfl,wc rfl rfl ⟨⟨by lia,hs⟩,sz2,λp n=>?_⟩⟩⟩⟩
 exact k p n
def ww3:Sp:=λvs H Q _=>∃t b:Int,vs=[.int t,.int b]∧1≤b∧Sm 9000 b∧∀p,H p=none→Q (.ref p) (upd H p (.tup (ptV (wf t b))))
theorem ok_low {f:Aj}{fd:Ad}(F:Fun K "_law_low" "_law_low" s__law_low f fd)(T:Txt K mg qf qh qw q8 qd ww wx qt wv q9 qb wb qz qc qx qq)(c__law_common:Cal P w K mg base "_law_common" 1 qwz):FnOk P w K mg base (CXE P w) 2 f fd ["_law_top","_law_bottom"] ww3:=by
 have sc:=qzh
 refine F.okX sc (λvs H Q E h=>by obtain ⟨t,b,rfl,_⟩:=h;rfl) (λcdv A outer s H vs Q E hr h=>?_)
 obtain ⟨t,b,rfl,g1,sb,k⟩:=h
 have hg:=jz (t:=t) g1
 have hs:Sm 9000 (gOf t b):=sb.of_le (by have:=qu6 (t:=t) g1;lia)
 refine ⟨_,(qk (wn (i:=2) sc.nd rfl (by walk_at "loc") (wu c__law_common (hr.mono (by decide)) rfl qy (vg (wp Q6 rfl T.abs_ Qt (qr (pv 0) qj)) (qr (pv 1) qj))))
   (wq (wr (zm (x4 (wy vc (pv 0) (pv 2)) (x4 (wy vc (pv 1) (pv 2)) qj)))))),?_⟩
 refine exI rfl (exI rfl (exI rfl ⟨yj t,b,rfl,qjb t,(by lia),?_⟩))
 refine exI rfl ⟨V.int (gOf t b),rfl,wc rfl rfl ⟨⟨by lia,hs⟩,exI rfl ⟨V.int (gOf t b),rfl,wc rfl rfl ⟨⟨by lia,hs⟩,sz2,λp n=>?_⟩⟩⟩⟩
 exact k p n
theorem at_h {hs:List Int}{k:Int}(h0:0≤k)(h1:k<hs.length):atI (hs.map V.int) k=some (V.int (hAt hs k)):=Zf h0 h1
theorem qjp {hs:List Int}(ok:xj hs)(k:Int):0≤hAt hs k∧hAt hs k≤24:=by
 unfold hAt
 rw [av]
 cases e:hs[k.toNat]? with
 |none=>exact ⟨by decide,by decide⟩
 |some v =>
  have hm:=ok.2.2 v (bg e)
  have:=ok.2.1
  show 0≤v∧v≤24
  lia
def qk8 (C CR:Aj):Sp:=λvs H Q E=>∃(r:Aj) (hs:List Int) (k:Int),vs=[.ref r,.int k]∧RoadAt C H r hs∧(0≤k→k<(hs.length:Int)-1→∀p,H p=none→Q (.ref p) (upd H p (.tup [.int (hAt hs k),.int (hAt hs (k+1))]))) ∧
 (k<0∨(hs.length:Int)-1≤k→E (.ref CR) none H)
theorem wvn {f:Aj}{fd:Ad}(F:Fun K "ends" "Road.ends" s_Road_ends f fd)(T:Txt K mg qf qh qw q8 qd ww wx qt wv q9 qb wb qz qc qx qq)(c_width:MCal P w K mg base qc "width" 1 (y7 qc)):FnOk P w K mg base (CXE P w) 2 f fd ["self","stretch"] (qk8 qc wx):=by
 have sc:=qxm
 refine F.okX sc (λvs H Q E h=>by obtain ⟨r,hs,k,rfl,_⟩:=h;rfl) (λcdv A outer s H vs Q E hr h=>?_)
 obtain ⟨r,hs,k,rfl,hR,kq,x⟩:=h
 obtain ⟨dx,q,h1,h2⟩:=id hR
 refine ⟨_,(qk (xh (PW.pt (Wt (wg jw (pv 1) qu (wm _)) (ym (wg qzp (pv 1) (vf (pv 0) T.cl c_width (hr.mono (by decide)) qy) (wm _))))) (wq (zc rfl T.x_BadRow x8 rfl T.g_BadRow (w6 xn qj))) w4)
   (wq (wr (zm (v9 (xp zw (zq (pv 0) rfl) (pv 1) (λ_ _=>rfl)) (v9 (xp zw (zq (pv 0) rfl) (wy xq (pv 1) qu) (λ_ _=>rfl)) qj)))))),?_⟩
 refine exI rfl (wc rfl rfl (exI rfl ?_))
 refine zp (λq1=>?_) (λq1=>?_)
 ·refine j3 ?_
  exact ⟨sz1,x (.inl q1)⟩
 ·refine exI rfl (exI rfl ⟨r,dx,exI rfl ⟨h1,zy (by decide +kernel),r,hs,rfl,hR,wc rfl rfl (exI rfl ?_)⟩⟩)
  refine zp (λq2=>?_) (λq2=>?_)
  ·exact ⟨sz1,x (.inr q2)⟩
  ·refine exI rfl ⟨r,qc,dx,_,_,rfl,h1,T.cl,T.na,jk,exI rfl (exX rfl rfl (SqL.of h2) (at_h (by lia) (by lia)) (exI rfl ⟨r,qc,dx,_,_,rfl,h1,T.cl,T.na,jk,exI rfl (wc rfl rfl (exX rfl rfl (SqL.of h2) (at_h (by lia) (by lia)) ⟨sz2,λp np=>?_⟩))⟩))⟩
   exact kq (by lia) (by lia) p np
def OnRoad (hs:List Int)(t b:Int):Prop:=0≤t∧t≤((hs.length:Int)-1)*b
def Q1 (K:Aa)(C CB CO:Aj):Sp:=λvs H Q E=>∃(r p:Aj) (hs:List Int) (t b:Int),vs=[.ref r,.ref p]∧RoadAt C H r hs∧xj hs∧SqT K H p [.int t,.int b] ∧
 (1≤b→Sm 8000 b∧(OnRoad hs t b→∀q H',Same H H'→H' q=some (.tup (ptV (wf t b)))→Q (.ref q) H')∧(¬ OnRoad hs t b→∀H',Same H H'→E (.ref CO) none H'))∧(b<1→E (.ref CB) none H)
theorem qks {f:Aj}{fd:Ad}(F:Fun K "on_road" "Road.on_road" s_Road_on_road f fd)(T:Txt K mg qf qh qw q8 qd ww wx qt wv q9 qb wb qz qc qx qq)(c_width:MCal P w K mg base qc "width" 1 (y7 qc))(c_lowest:Cal P w K mg base "lowest" 2 (j5 qw)) :
  FnOk P w K mg base (CXE P w) 3 f fd ["self","point"] (Q1 K qc qw q8):=by
 have sc:=W1
 refine F.okX sc (λvs H Q E h=>by obtain ⟨r,p,hs,t,b,rfl,_⟩:=h;rfl) (λcdv A outer s H vs Q E hr h=>?_)
 obtain ⟨r,p,hs,t,b,rfl,hR,hok,hp,kq,x⟩:=h
 obtain ⟨dx,q,h1,h2⟩:=id hR
 refine ⟨_,(qk (ju (wu c_lowest (hr.mono (by decide)) rfl qy (v9 (xp zb (pv 1) qu (λ_ _=>rfl)) (v9 (xp zb (pv 1) qu (λ_ _=>rfl)) qj))) (v4 rfl (xk (xv (i:=2) sc.nd rfl (by walk_at "loc")) (xk (xv (i:=3) sc.nd rfl (by walk_at "loc")) zn))))
   (qk (xh (PW.pt (Wt (wg jw (pv 2) qu (wm _)) (ym (wg yu (pv 2) (wy xy (vf (pv 0) T.cl c_width (hr.mono (by decide)) qy) (pv 3)) (wm _))))) (wq (zc rfl T.x_OffRoad x8 rfl T.g_OffRoad (w6 xn qj))) w4)
   (wq (wr (zm (qr (pv 2) (qr (pv 3) qj))))))),?_⟩
 refine ⟨_,rfl,_,_,_,_,rfl,rfl,hp,rfl,_,rfl,_,_,_,_,rfl,rfl,hp,rfl,t,b,rfl,λhb=>⟨(kq hb).1.mono (by decide),λp1 n1=>?_⟩,λz=>x z⟩
 obtain ⟨sb,k1,k2⟩:=kq hb
 have s1:Same H (upd H p1 (.tup (ptV (wf t b)))):=Same.upd n1
 have hl:=hok.2.1
 refine ⟨p1,exI rfl ⟨SqT.new,rfl,_,_,rfl,_,_,rfl,rfl,?_⟩⟩
 refine exI rfl (wc rfl rfl (exI rfl ?_))
 refine zp (λq1=>?_) (λq1=>?_)
 ·refine j3 ?_
  exact ⟨sz1,k2 (λz=>by have:=(Zm hb).mp q1;have:=z.1;lia) _ s1⟩
 ·refine exI rfl (exI rfl ⟨r,dx,exI rfl ⟨s1 _ _ h1,zy (by decide +kernel),r,hs,rfl,hR.same s1,exI rfl (wc rfl rfl ⟨IntMulOk.of_left (intBits_le_64 (by lia) (by lia)),wc rfl rfl (exI rfl ?_)⟩)⟩⟩)
  refine zp (λq2=>?_) (λq2=>?_)
  ·exact ⟨sz1,k2 (λz=>by have:=(qkj hb).mp q2;have:=z.2;lia) _ s1⟩
  ·refine exI rfl (exI rfl ⟨sz2,λp2 n2=>?_⟩)
   refine k1 ⟨?_,?_⟩ p2 _ (s1.trans (Same.upd n2)) qm
   ·rcases cf t 0 with z|z
    ·exact absurd ((Zm hb).mpr z) q1
    ·exact z
   ·rcases cf (((hs.length:Int)-1)*b) t with z|z
    ·exact absurd ((qkj hb).mpr z) q2
    ·exact z
def spAt (K:Aa)(C CB CO:Aj):Sp:=λvs H Q E=>∃(r p:Aj) (hs:List Int) (t b:Int),vs=[.ref r,.ref p]∧RoadAt C H r hs∧xj hs∧SqT K H p [.int t,.int b] ∧
 (1≤b→Sm 8000 b∧(OnRoad hs t b→∀q H',Same H H'→H' q=some (.tup (ptV (yf hs t b)))→Q (.ref q) H')∧(¬ OnRoad hs t b→∀H',Same H H'→E (.ref CO) none H'))∧(b<1→E (.ref CB) none H)
theorem ok_at {f:Aj}{fd:Ad}(F:Fun K "at" "Road.at" s_Road_at f fd)(T:Txt K mg qf qh qw q8 qd ww wx qt wv q9 qb wb qz qc qx qq)(c_width:MCal P w K mg base qc "width" 1 (y7 qc))(c_lowest:Cal P w K mg base "lowest" 2 (j5 qw))(c_ends:MCal P w K mg base qc "ends" 2 (qk8 qc wx))
  (c_on_road:MCal P w K mg base qc "on_road" 3 (Q1 K qc qw q8)):FnOk P w K mg base (CXE P w) 4 f fd ["self","point"] (spAt K qc qw q8):=by
 have sc:=qv1
 refine F.okX sc (λvs H Q E h=>by obtain ⟨r,p,hs,t,b,rfl,_⟩:=h;rfl) (λcdv A outer s H vs Q E hr h=>?_)
 obtain ⟨r,p,hs,t,b,rfl,hR,hok,hp,kq,x⟩:=h
 obtain ⟨dx,q,h1,h2⟩:=id hR
 refine ⟨_,(qk (ju (xz (pv 0) T.cl c_on_road (hr.mono (by decide)) qy (qr (pv 1) qj)) (v4 rfl (xk (xv (i:=2) sc.nd rfl (by walk_at "loc")) (xk (xv (i:=3) sc.nd rfl (by walk_at "loc")) zn))))
   (qk (wn (i:=4) sc.nd rfl (by walk_at "loc") (wp (qwc rfl) rfl T.min_ dn (x4 (wy vc (pv 2) (pv 3)) (x4 (wy zj (vf (pv 0) T.cl c_width (hr.mono (by decide)) qy) qu) qj))))
   (qk (ju (xz (pv 0) T.cl c_ends (hr.mono (by decide)) qy (qr (pv 4) qj)) (v4 rfl (xk (xv (i:=5) sc.nd rfl (by walk_at "loc")) (xk (xv (i:=6) sc.nd rfl (by walk_at "loc")) zn))))
   (qk (wn (i:=7) sc.nd rfl (by walk_at "loc") (wy zj (pv 2) (wy xy (pv 4) (pv 3))))
   (wq (wr (wu c_lowest (hr.mono (by decide)) rfl qy (x4 (wy xq (wy xy (pv 5) (pv 3)) (wy xy (wy zj (pv 6) (pv 5)) (pv 7))) (qr (pv 3) qj))))))))),?_⟩
 refine ⟨_,rfl,r,dx,_,rfl,h1,zy (by decide +kernel),_,rfl,r,p,hs,t,b,rfl,hR,hok,hp,λhb=>⟨(kq hb).1,λhon p1 H1 s1 f1=>?_,λhoff H1 s1=>(kq hb).2.2 hoff H1 s1⟩,λz=>x z⟩
 obtain ⟨sb,k1,k2⟩:=kq hb
 have hl1:=hok.1
 have hl2:=hok.2.1
 have hy:=uq (t:=t) hb
 have hyb:=qk9 (t:=t) hb
 have hx:0≤(wf t b).1:=by
  rcases cf (wf t b).1 0 with z|z
  ·have:=(Zm hb).mp z
   have:=hon.1
   lia
  ·exact z
 have hk:=wx2 (hs:=hs) hl1 hy hx
 have sy:Sm 9000 (wf t b).2:=(sb.of_le (by lia)).mono (by decide)
 refine ⟨p1,exI rfl ⟨SqT.of f1,rfl,_,_,rfl,_,_,rfl,rfl,?_⟩⟩
 refine exI rfl (exI rfl (wc rfl rfl ⟨⟨by lia,sy⟩,exI rfl ⟨r,dx,exI rfl ⟨s1 _ _ h1,zy (by decide +kernel),r,hs,rfl,hR.same s1,wc rfl rfl ⟨_,_,rfl,?_⟩⟩⟩⟩))
 refine ⟨_,rfl,r,dx,_,rfl,s1 _ _ h1,zy (by decide +kernel),V.int (kF hs (wf t b).1 (wf t b).2),rfl,r,hs,kF hs (wf t b).1 (wf t b).2,rfl,hR.same s1,λ_ _ p2 n2=>?_,λz=>absurd z (by lia)⟩
 have g1:=qjp hok (kF hs (wf t b).1 (wf t b).2)
 have g2:=qjp hok (kF hs (wf t b).1 (wf t b).2+1)
 refine ⟨p2,exI rfl ⟨SqT.new,rfl,_,_,rfl,_,_,rfl,rfl,?_⟩⟩
 refine exI rfl ⟨V.int (kF hs (wf t b).1 (wf t b).2),rfl,exI rfl (wc rfl rfl ⟨IntMulOk.of_left (intBits_le_64 (by lia) (by lia)),wc rfl rfl ?_⟩)⟩
 refine exI rfl (exI rfl (wc rfl rfl ⟨IntMulOk.of_left (intBits_le_64 (by lia) (by lia)),exI rfl (exI rfl (wc rfl rfl (exI rfl (wc rfl rfl ⟨IntMulOk.of_left (intBits_le_64 (by lia) (by lia)),wc rfl rfl (exI rfl ?_)⟩))))⟩))
 refine ⟨k9 hs (wf t b).1 (wf t b).2,(wf t b).2,rfl,λ_=>⟨sy,λp3 n3=>?_⟩,λz=>absurd z (by lia)⟩
 have e:wf (k9 hs (wf t b).1 (wf t b).2) (wf t b).2=yf hs t b:=qqt hb
 rw [e]
 exact k1 hon p3 _ (s1.trans ((Same.upd n2).trans (Same.upd n3))) qm
theorem wvw {hs:List Int}{wd:Int}(h:InW hs wd)(w1:1≤wd)(w2:wd≤24):xj hs:=by
 refine ⟨by have:=h.1;lia,by have:=h.1;lia,λx hx=>?_⟩
 have h1:=h.1
 have h2:=h.2 x hx
 lia
theorem quq {H H':Hp}{x dx C:Aj}(nx:H x=none)(nd:H dx=none)(h:∀b o,upd (upd H dx (.own x)) x (.ins C dx []) b=some o→b≠x→H' b=some o):Same H H':=λb o e =>
 h b o (by rw [wz (qg e nx),wz (qg e nd)];exact e) (qg e nx)
theorem Same.upd2 {H H':Hp}{p:Aj}{o:HO}(s:Same H H')(n:H p=none):Same H (L2.upd H' p o):=λb u e=>by
 rw [wz (qg e n)]
 exact s b u e
theorem Yn {x y b d:Int}(hb:1≤b)(hd:1≤d):x*d=y*b↔wf x b=wf y d:=by
 constructor
 ·intro e
  rw [←qxw (t:=x) hb hd,e,df b d,qxw hd hb]
 ·intro e
  have c1:=Ww (t:=x) hb
  have c2:=Ww (t:=y) hd
  have v1:=uq (t:=x) hb
  rw [←e] at c2
  have h:x*d*(wf x b).2=y*b*(wf x b).2:=by
   have a1:x*d*(wf x b).2=x*(wf x b).2*d:=by grind
   have a2:y*b*(wf x b).2=y*(wf x b).2*b:=by grind
   rw [a1,a2,←c1,←c2]
   grind
  exact cI (by lia) h
theorem Z2 {CB C:Aj}{H:Hp}{p x dx:Aj}{hs:List Int}{Pp:Hp→Prop}{E:XK}(f:H p=some (.lst (hs.map V.int)))(nx:H x=none)(nd:H dx=none)(k:xj hs→∀H',Same H H'→RoadAt C H' x hs→Pp H')(bad:¬ xj hs→∀H',Same H H'→E (.ref CB) none H') :
  uh K CB C [.ref x,.ref p] (upd (upd H dx (.own x)) x (.ins C dx [])) (λr H2=>r=.non∧Pp H2) E:=by
 refine ⟨x,dx,p,hs,rfl,qm,SqL.of (by rw [wz (qg f nx),wz (qg f nd)];exact f),λok H4 q nq kp r l=>⟨rfl,k ok H4 (quq nx nd kp) ⟨dx,q,r,l⟩⟩,λz=>bad z _ ?_⟩
 exact λb o e=>by rw [wz (qg e nx),wz (qg e nd)];exact e
theorem wq8 {hs:List Int}(ok:xj hs)(k:Int):0≤hAt hs k∧hAt hs k≤(hs.length:Int)-1:=by
 unfold hAt
 rw [av]
 have:=ok.1
 cases e:hs[k.toNat]? with
 |none=>exact ⟨by decide,by show (0:Int)≤_;lia⟩
 |some v=>exact ok.2.2 v (bg e)
theorem qyq {hs:List Int}{t b:Int}(hok:xj hs)(hb:1≤b)(hon:OnRoad hs t b):OnRoad hs (k9 hs t b) b:=by
 have hl1:=hok.1
 have hk:=wx2 (hs:=hs) hl1 hb hon.1
 have g1:=wq8 hok (kF hs t b)
 have g2:=wq8 hok (kF hs t b+1)
 have e1:0≤t-kF hs t b*b∧t-kF hs t b*b≤b:=by
  have h1:t/b*b≤t:=eV t (by lia)
  have h2:=dE t (show 0<b by lia)
  unfold kF
  split
  ·next z =>
   have h3:=ay (show (hs.length:Int)-1-1≤t/b by lia) (show 0≤b by lia)
   have h4:=hon.2
   constructor
   ·lia
   ·have:((hs.length:Int)-1)*b=((hs.length:Int)-1-1)*b+b:=by grind
    lia
  ·have:(t/b+1)*b=t/b*b+b:=by grind
   constructor <;> lia
 have r:=ww7 (u:=hAt hs (kF hs t b)) (v:=hAt hs (kF hs t b+1)) e1.1 e1.2
 refine ⟨dP ?_ r.1,dP r.2 ?_⟩
 ·refine dh ?_ (by lia)
  split <;> lia
 ·refine ay ?_ (by lia)
  split <;> lia
theorem qxq {hs:List Int}{t b:Int}(hb:1≤b)(hon:OnRoad hs t b):OnRoad hs (wf t b).1 (wf t b).2:=by
 constructor
 ·rcases cf (wf t b).1 0 with z|z
  ·have:=(Zm hb).mp z
   have:=hon.1
   lia
  ·exact z
 ·rcases cf (((hs.length:Int)-1)*(wf t b).2) (wf t b).1 with z|z
  ·have:=(qkj hb).mp z
   have:=hon.2
   lia
  ·exact z
def itP (hs:List Int)(p:Int×Int):Nat→Int×Int
 |0=>p
 |n+1=>yf hs (itP hs p n).1 (itP hs p n).2
def Pt (hs:List Int)(c:Int)(p:Int×Int):Prop:=1≤p.2∧p.2≤c∧gOf p.1 p.2=1∧OnRoad hs p.1 p.2
theorem pt_low {hs:List Int}{t b:Int}(hb:1≤b)(hon:OnRoad hs t b):Pt hs b (wf t b):=⟨uq hb,qk9 hb,qws hb,qxq hb hon⟩
theorem wz4 {hs:List Int}{c:Int}{p:Int×Int}(hok:xj hs)(h:Pt hs c p):Pt hs c (yf hs p.1 p.2):=by
 have a:=pt_low h.1 (qyq hok h.1 h.2.2.2)
 exact ⟨a.1,dP a.2.1 h.2.1,a.2.2.1,a.2.2.2⟩
theorem wxf {hs:List Int}{c:Int}{p:Int×Int}(hok:xj hs)(h:Pt hs c p):∀n,Pt hs c (itP hs p n)
 |0=>h
 |n+1=>wz4 hok (wxf hok h n)
def trT (hs:List Int)(t b:Int):Nat→Int
 |0=>t
 |n+1=>k9 hs (trT hs t b n) b
theorem yp {hs:List Int}{t b:Int}(hok:xj hs)(hb:1≤b)(hon:OnRoad hs t b):∀n,OnRoad hs (trT hs t b n) b
 |0=>hon
 |n+1=>qyq hok hb (yp hok hb hon n)
theorem jh {hs:List Int}{t b:Int}(hb:1≤b):∀n,wf (trT hs t b n) b=itP hs (wf t b) n
 |0=>rfl
 |n+1=>by
  show yf hs (trT hs t b n) b=yf hs (itP hs (wf t b) n).1 (itP hs (wf t b) n).2
  rw [←jh hb n,qqt hb]
def ptsL (hs:List Int)(p:Int×Int)(n:Nat):List (Int×Int):=(List.range n).map (itP hs p)
theorem qzd (hs:List Int)(p:Int×Int)(n:Nat):(ptsL hs p n).length=n:=by
 unfold ptsL
 rw [ae,aH]
def PtR (H:Hp)(v:V)(p:Int×Int):Prop:=∃a,v=.ref a∧H a=some (.tup [.int p.1,.int p.2])
theorem PtR.same {H H':Hp}{v:V}{p:Int×Int}(h:PtR H v p)(s:Same H H'):PtR H' v p:=by
 obtain ⟨a,e,f⟩:=h
 exact ⟨a,e,s _ _ f⟩
theorem qvm {α β:Type}{F G:α→β→Prop}(h:∀a b,F a b→G a b):∀ {l:List α} {m:List β},Paired F l m→Paired G l m
 |_,_,.nil=>.nil
 |_,_,.cons a t=>.cons (h _ _ a) (qvm h t)
theorem qq8 {α β:Type}{F:α→β→Prop}:∀ {l:List α} {m:List β} {i:Nat} {b:β},Paired F l m→m[i]?=some b→∃a,l[i]?=some a∧F a b
 |_,_,0,_,.cons a _,e=>by cases e;exact exI rfl a
 |_,_,i+1,_,.cons _ t,e=>qq8 (i:=i) t e
def PtsAt (H:Hp)(q:Aj)(ps:List (Int×Int)):Prop:=∃vs,H q=some (.lst vs)∧Paired (PtR H) vs ps
theorem PtsAt.same {H H':Hp}{q:Aj}{ps:List (Int×Int)}(h:PtsAt H q ps)(s:Same H H'):PtsAt H' q ps:=by
 obtain ⟨vs,f,r⟩:=h
 exact ⟨vs,s _ _ f,qvm (λ_ _ z=>z.same s) r⟩
def Dist {α:Type}(f:Nat→α)(n:Nat):Prop:=∀i j,i<j→j<n→f i≠f j
theorem Dist.mono {α:Type}{f:Nat→α}{m n:Nat}(h:Dist f n)(le:m≤n):Dist f m:=λi j a b=>h i j a (by lia)
theorem Dist.succ {α:Type}{f:Nat→α}{n:Nat}(h:Dist f n)(h':∀j,j<n→f j≠f n):Dist f (n+1):=λi j a b=>by
 rcases (by lia:j<n∨j=n) with z|z
 ·exact h i j a z
 ·subst z
  exact h' i a
theorem shift {α:Type}{f:Nat→α}(st:∀i j,f i=f j→f (i+1)=f (j+1)){n u:Nat}(e:f n=f u):∀k,f (n+k)=f (u+k)
 |0=>e
 |k+1=>st _ _ (shift st e k)
theorem per {α:Type}{f:Nat→α}(st:∀i j,f i=f j→f (i+1)=f (j+1)){n u:Nat}(hu:u<n)(e:f n=f u)(m:Nat):u≤m→f m=f (u+(m-u)%(n-u)):=by
 induction m using Nat.strongRecOn with
 |_ m ih =>
  intro hm
  rcases dN m n with z|z
  ·rw [Nat.mod_eq_of_lt (by lia)]
   congr 1
   lia
  ·have h1:=shift st e (m-n)
   rw [show n+(m-n)=m by lia] at h1
   have h2:=ih (u+(m-n)) (by lia) (by lia)
   rw [h1,h2,show u+(m-n)-u=m-u-(n-u) by lia,←Nat.mod_eq_sub_mod (by lia)]
theorem qj9 {m:Int}{n u:Nat}(h:(u:Int)≤m)(hu:u<n):(u:Int)+(m-u)%((n:Int)-u)=((u+(m.toNat-u)%(n-u):Nat):Int):=by
 have e1:m-(u:Int)=((m.toNat-u:Nat):Int):=by lia
 have e2:(n:Int)-(u:Int)=((n-u:Nat):Int):=by lia
 rw [e1,e2]
 push_cast
 rfl
theorem pig (N:Nat):∀l:List Nat,l.Nodup→(∀x∈l,x<N)→l.length≤N:=by
 induction N with
 |zero =>
  intro l _ h
  cases l with
  |nil=>exact ah _
  |cons a r=>exact absurd (h a (.head _)) (by lia)
 |succ N ih =>
  intro l nd h
  by_cases m:N∈l
  ·have h1:=ih (l.erase N) (nd.erase N) λx hx=>by
    have a:=(nd.mem_erase_iff.mp hx)
    have b:=h x a.2
    lia
   rw [List.length_erase_of_mem m] at h1
   lia
  ·have:=ih l nd λx hx=>by
    have b:=h x hx
    have:x≠N:=λz=>m (z▸hx)
    lia
   lia
theorem pigI {f:Nat→Int}{n:Nat}{B:Int}(h:Dist f n)(b:∀i,0≤f i∧f i≤B):(n:Int)≤B+1:=by
 have h1:=pig (B+1).toNat ((List.range n).map λi=>(f i).toNat) (by
  rw [List.nodup_iff_pairwise_ne,bJ]
  refine bD ?_ (di (n:=n))
  intro i j hi hj hij e
  have:=b i
  have:=b j
  exact h i j hij (aN.mp hj) (by lia)) λx hx=>by
   obtain ⟨i,_,rfl⟩:=aJ.mp hx
   have:=b i
   lia
 rw [ae,aH] at h1
 have:=b 0
 lia
theorem it_st {hs:List Int}{p:Int×Int}:∀i j,itP hs p i=itP hs p j→itP hs p (i+1)=itP hs p (j+1):=λi j e=>by
 show yf hs (itP hs p i).1 (itP hs p i).2=yf hs (itP hs p j).1 (itP hs p j).2
 rw [e]
theorem tr_st {hs:List Int}{t b:Int}:∀i j,trT hs t b i=trT hs t b j→trT hs t b (i+1)=trT hs t b (j+1):=λi j e=>by
 show k9 hs (trT hs t b i) b=k9 hs (trT hs t b j) b
 rw [e]
theorem qwt {t b:Int}(hb:1≤b)(g:gOf t b=1):wf t b=(t,b):=by
 unfold wf
 rw [g,Int.ediv_one,Int.ediv_one]
theorem it_tr {hs:List Int}{c:Int}{p:Int×Int}(h:Pt hs c p)(n:Nat):itP hs p n=wf (trT hs p.1 p.2 n) p.2:=by
 rw [jh h.1,qwt h.1 h.2.2.1]
theorem wzt {x y b:Int}(hb:1≤b)(e:wf x b=wf y b):x=y:=by
 have h1:=(qwv (N:=x) hb).2
 have h2:=(qwv (N:=y) hb).2
 rw [e] at h1
 lia
theorem it_eq {hs:List Int}{c:Int}{p:Int×Int}(h:Pt hs c p)(i j:Nat):itP hs p i=itP hs p j↔trT hs p.1 p.2 i=trT hs p.1 p.2 j:=by
 rw [it_tr h,it_tr h]
 exact ⟨λe=>wzt h.1 e,λe=>by rw [e]⟩
def yw (p:Int×Int):List Key:=[.inl p.1,.inl p.2]
theorem qzf {p q:Int×Int}(e:yw p=yw q):p=q:=by
 unfold yw at e
 simp only [List.cons.injEq,Sum.inl.injEq,and_true] at e
 exact Prod.ext e.1 e.2
def v8 {κ:Type}(k:Nat→κ)(n:Nat):List (κ×V):=(List.range n).map λi=>(k i,V.int i)
theorem Q9 {κ:Type}(k:Nat→κ)(n:Nat):v8 k (n+1)=v8 k n++[(k n,V.int n)]:=by
 unfold v8
 rw [ce,aP]
 rfl
theorem k8 {κ:Type}(k:Nat→κ)(n:Nat):(v8 k n).length=n:=by
 unfold v8
 rw [ae,aH]
theorem Wm {κ:Type}[DecidableEq κ]{k:Nat→κ}{q:κ}{n:Nat}(h:∀j,j<n→k j≠q):w9 (v8 k n) q=none:=by
 unfold w9 v8
 rw [dY.mpr]
 ·rfl
 ·intro x hx
  obtain ⟨i,hi,rfl⟩:=aJ.mp hx
  simpa using h i (aN.mp hi)
theorem Wu {κ:Type}[DecidableEq κ]{k:Nat→κ}{j:Nat}:∀ {n:Nat},Dist k n→j<n→w9 (v8 k n) (k j)=some (.int j)
 |0,_,h=>absurd h (by lia)
 |n+1,d,h=>by
  rw [Q9,Q8 _ _ _ _ (Wm λi hi=>d i n hi (by lia))]
  rcases (by lia:j<n∨j=n) with z|z
  ·rw [ai (d j n z (by lia)),Wu (d.mono (by lia)) z]
  ·subst z
   rw [al rfl]
theorem qj6 {α β γ δ:Type}{F:α→β→Prop}{G:α→γ→Prop}(g:δ→β)(f:δ→γ)(h:∀a x,F a (g x)→G a (f x)):∀ {l:List δ} {vs:List α},Paired F vs (l.map g)→Paired G vs (l.map f)
 |[],_,.nil=>.nil
 |_::_,_,.cons a t=>.cons (h _ _ a) (qj6 g f h t)
def Zn:Sp:=λvs H Q _=>∃i:Int,vs=[.int i]∧Q (.bl true) H
theorem wq1 {f:Aj}{fd:Ad}(F:Fun K "_law_whole" "_law_whole" s__law_whole f fd)(T:Txt K mg qf qh qw q8 qd ww wx qt wv q9 qb wb qz qc qx qq):FnOk P w K mg base (CXE P w) 1 f fd ["_law_found"] Zn:=by
 have sc:=qqg
 refine F.okX sc (λvs H Q E h=>by obtain ⟨i,rfl,_⟩:=h;rfl) (λcdv A outer s H vs Q E hr h=>?_)
 obtain ⟨i,rfl,k⟩:=h
 refine ⟨_,(wq (wr (wqn (wp Wr rfl T.isinstance_ dG (qr (pv 0) (qr (qju (v:=V.ty "int") rfl T.int_ PyProof.Rows.boot_int rfl) qj))) (wxk (pe_not (wp Wr rfl T.isinstance_ dG (qr (pv 0) (qr (qju (v:=V.ty "bool") rfl T.bool_ PyProof.Rows.boot_bool rfl) qj)))))))),?_⟩
 refine exI rfl ⟨_,_,_,_,rfl,TyOf.int i,rfl,_,rfl,?_⟩
 refine j3 ?_
 refine exI rfl ⟨_,_,_,_,rfl,TyOf.int i,rfl,_,rfl,?_⟩
 exact k
end
section
variable {P:Ac}{w:Ah}{K:Aa}{mg:Str→Option Ag}{base:Heap}{qf:Aj}{qh:Aj}{qw:Aj}{q8:Aj}{qd:Aj}{ww:Aj}{wx:Aj}{qt:Aj}{wv:Aj}{q9:Aj}{qb:Aj}{wb:Aj}{qz:Aj}{qc:Aj}{qx:Aj}{qq:Aj}
def qx6 (C CT:Aj):Sp:=λvs H Q E=>∃(r a:Aj) (hs:List Int) (p:Int×Int) (c:Int),vs=[.ref r,.ref a]∧RoadAt C H r hs∧xj hs∧H a=some (.tup [.int p.1,.int p.2])∧Pt hs c p∧Sm 8000 c ∧
 (∀n u q l H',n≤1000→Dist (itP hs p) n→u<n→itP hs p n=itP hs p u→Same H H'→H l=none→H' q=some (.tup [.ref l,.int ((u:Nat):Int)])→PtsAt H' l (ptsL hs p n)→Q (.ref q) H')∧(Dist (itP hs p) 1001→∀H',Same H H'→E (.ref CT) none H')
theorem wxp {f:Aj}{fd:Ad}(F:Fun K "trace" "trace" s_trace f fd)(T:Txt K mg qf qh qw q8 qd ww wx qt wv q9 qb wb qz qc qx qq)(c_at:MCal P w K mg base qc "at" 4 (spAt K qc qw q8)):FnOk P w K mg base (CXE P w) 5 f fd ["road","start"] (qx6 qc ww):=by
 have sc:=wwu
 refine F.okX sc (λvs H Q E h=>by obtain ⟨r,a,hs,p,c,rfl,_⟩:=h;rfl) (λcdv A outer s H vs Q E hr h=>?_)
 obtain ⟨r,a,hs,p,c,rfl,hR,hok,ha,hP,sc8,k,x⟩:=h
 obtain ⟨dx,q0,h1,h2⟩:=id hR
 obtain ⟨tm,g_LONGEST_TRACE⟩:=T.g_LONGEST_TRACE
 refine ⟨_,(qk (wn (i:=2) sc.nd rfl (by walk_at "loc") wxs)
   (qk (wn (i:=3) sc.nd rfl (by walk_at "loc") (pv 1))
   (qk (Qs aW (Ym (y9 (vh hr) (pv 3) (pv 2))) (qk (xh (wg zg (wp qwk rfl T.len_ aF (qr (pv 2) qj)) (yq (v:=V.int 1000) rfl g_LONGEST_TRACE ⟨_,rfl⟩) (wm _)) (wq (zc rfl T.x_TooLong x8 rfl T.g_TooLong (w6 xn qj))) w4)
   (qk (Zh (vh hr) (pv 2) (pv 3) (wp qwk rfl T.len_ aF (qr (pv 2) qj)) rfl)
   (wq (wn (i:=3) sc.nd rfl (by walk_at "loc") (xz (pv 0) T.cl c_at (hr.mono (by decide)) qy (qr (pv 3) qj)))))))
   (wq (wr (zm (vg (kf (qjk rfl) rfl T.list_ bQ (qr (pv 2) qj)) (v9 (jg (vh hr) (pv 2) (pv 3) (λ_ _=>rfl)) qj)))))))),?_⟩
 refine λD nD=>exI rfl ?_
 refine Yj (λσ H2=>∃(i:Nat) (b:Aj),σ=[some (.ref r),some (.ref a),some (.ref D),some (.ref b)]∧i≤1000∧Dist (itP hs p) i∧Same H H2∧H2 D=some (.dT (v8 (λj=>yw (itP hs p j)) i))∧H2 b=some (.tup [.int (itP hs p i).1,.int (itP hs p i).2]))
  (λ_ H2=>match H2 D with|some (.dT kvs)=>1001-kvs.length|_=>0) ⟨0,a,rfl,by lia,λi j _ z=>absurd z (by lia),Same.upd nD,qm,by rw [wz (qg ha nD)];exact ha⟩ ?_ λσ H Q Q' h ⟨v,e,v2,e2,a',o,e3,g,kk,e4,q⟩=>⟨v,e,v2,e2,a',o,e3,g,kk,e4,h _ _ q⟩
 rintro σ H2 ⟨i,b,rfl,hi,hd,s2,f2,fb⟩
 have hd':Dist (λj=>yw (itP hs p j)) i:=λu v uv vi e=>hd u v uv vi (qzf e)
 have fb':H2 b=some (.tup ((yw (itP hs p i)).map kV)):=fb
 by_cases hj:∃j,j<i∧itP hs p j=itP hs p i
 ·obtain ⟨j,ji,je⟩:=hj
  have hv:w9 (v8 (λj=>yw (itP hs p j)) i) (yw (itP hs p i))=some (.int j):=by
   rw [←je]
   exact Wu hd' ji
  have dg:DGet H2 D (.ref b) (some (.int j)):=by
   have:=DGet.t f2 fb'
   rwa [hv] at this
  refine exI rfl (exI rfl ⟨D,exI rfl ⟨dg,_,rfl,?_⟩⟩)
  refine yy ?_
  refine exI rfl ⟨D,exI rfl ⟨f2,λl vs nl kat=>?_⟩⟩
  have s3:=Same.upd (o:=.lst vs) nl
  have dg3:DGet (upd H2 l (.lst vs)) D (.ref b) (some (.int j)):=by
   have:=DGet.t (s3 _ _ f2) (s3 _ _ fb')
   rwa [hv] at this
  refine exI rfl (exI rfl ⟨D,exI rfl ⟨dg3,sz2,λq nq=>?_⟩⟩)
  have s4:=s3.trans (Same.upd (o:=.tup [.ref l,.int j]) nq)
  have nl0:H l=none:=by
   cases e:H l with
   |none=>rfl
   |some o=>rw [s2 _ _ e] at nl;cases nl
  refine k i j q l _ hi hd ji je.symm (s2.trans s4) nl0 qm ⟨vs,Same.upd nq _ _ qm,?_⟩
  refine qj6 (l:=List.range i) (λj=>(yw (itP hs p j),V.int j)) (itP hs p) (λv j hv=>?_) kat
  obtain ⟨b',rfl,fb2⟩:=hv
  exact ⟨b',rfl,s4 _ _ fb2⟩
 ·have hn:∀j,j<i→itP hs p j≠itP hs p i:=λj a b=>hj ⟨j,a,b⟩
  have hv:w9 (v8 (λj=>yw (itP hs p j)) i) (yw (itP hs p i))=none:=Wm λj a b=>hn j a (qzf b)
  have dg:DGet H2 D (.ref b) none:=by
   have:=DGet.t f2 fb'
   rwa [hv] at this
  have hd1:=hd.succ hn
  refine exI rfl (exI rfl ⟨D,exI rfl ⟨dg,_,rfl,?_⟩⟩)
  refine j3 ?_
  refine exI rfl ⟨D,exI rfl ⟨f2,rfl,_,rfl,?_⟩⟩
  rw [k8]
  refine zt (λq1=>?_) (λq1=>?_)
  ·have:i=1000:=by lia
   subst this
   exact ⟨sz1,x hd1 _ s2⟩
  ·refine exI rfl ⟨D,exI rfl ⟨f2,exI rfl (exI rfl ⟨D,exI rfl ⟨DPut.t f2 fb' (qu1 (by rw [k8];lia)),?_⟩⟩)⟩⟩
   rw [yb _ hv,k8,←Q9 (λj=>yw (itP hs p j)) i]
   have s3:Same H (upd H2 D (.dT (v8 (λj=>yw (itP hs p j)) (i+1)))):=Same.upd2 s2 nD
   have db:b≠D:=λz=>by rw [z,f2] at fb;cases fb
   have fb3:upd H2 D (.dT (v8 (λj=>yw (itP hs p j)) (i+1))) b=some (.tup [.int (itP hs p i).1,.int (itP hs p i).2]):=by rw [wz db];exact fb
   have f3:upd H2 D (.dT (v8 (λj=>yw (itP hs p j)) (i+1))) D=some (.dT (v8 (λj=>yw (itP hs p j)) (i+1))):=qm
   generalize upd H2 D (.dT (v8 (λj=>yw (itP hs p j)) (i+1)))=H3 at s3 fb3 f3
   have Pn:=wxf hok hP i
   refine ⟨_,rfl,r,dx,_,rfl,s3 _ _ h1,zy (by decide +kernel),_,rfl,r,b,hs,(itP hs p i).1,(itP hs p i).2,rfl,hR.same s3,hok,SqT.of fb3,λ_=>⟨(sc8.of_le (by have:=Pn.2.1;have:=Pn.1;lia)),λ_ p4 H4 s4 f4=>?_,λz=>absurd Pn.2.2.2 z⟩,λz=>absurd Pn.1 (by lia)⟩
   refine ⟨⟨i+1,p4,rfl,by lia,hd1,s3.trans s4,s4 _ _ f3,f4⟩,?_⟩
   show (match H4 D with|some (.dT kvs)=>1001-kvs.length|_=>0)<(match H2 D with|some (.dT kvs)=>1001-kvs.length|_=>0)
   rw [s4 _ _ f3,f2]
   show 1001-(v8 (λj=>yw (itP hs p j)) (i+1)).length<1001-(v8 (λj=>yw (itP hs p j)) i).length
   rw [k8,k8]
   lia
def TrAt (H:Hp)(l:Aj)(hs:List Int)(p:Int×Int)(n u:Nat):Prop:=n≤1000∧Dist (itP hs p) n∧u<n∧itP hs p n=itP hs p u∧PtsAt H l (ptsL hs p n)
def qk4:Sp:=λvs H Q _=>∃(l:Aj) (hs:List Int) (p:Int×Int) (n u:Nat) (m:Int),vs=[.ref l,.int u,.int m]∧TrAt H l hs p n u∧0≤m∧∀a,H a=some (.tup [.int (itP hs p m.toNat).1,.int (itP hs p m.toNat).2])→Q (.ref a) H
theorem qk7 {H:Hp}{hs:List Int}{p:Int×Int}{n i:Nat}{vs:List V}(h:Paired (PtR H) vs (ptsL hs p n))(hi:i<n):∃a,vs[i]?=some (.ref a)∧H a=some (.tup [.int (itP hs p i).1,.int (itP hs p i).2]):=by
 obtain ⟨v,ev,⟨a,rfl,fa⟩⟩:=qq8 (i:=i) (b:=itP hs p i) h (by
  unfold ptsL
  rw [aG,cv hi]
  rfl)
 exact ⟨a,ev,fa⟩
theorem wzm {f:Aj}{fd:Ad}(F:Fun K "spot" "spot" s_spot f fd)(T:Txt K mg qf qh qw q8 qd ww wx qt wv q9 qb wb qz qc qx qq):FnOk P w K mg base (CXE P w) 1 f fd ["points","turn","many"] qk4:=by
 have sc:=wzk
 refine F.okX sc (λvs H Q E h=>by obtain ⟨l,hs,p,n,u,m,rfl,_⟩:=h;rfl) (λcdv A outer s H vs Q E hr h=>?_)
 obtain ⟨l,hs,p,n,u,m,rfl,⟨n1,hd,hu,e,vs,fl,pr⟩,m0,k⟩:=h
 have hlen:vs.length=n:=by rw [pr.length,qzd]
 refine ⟨_,(qk (xh (wg jw (pv 2) (pv 1) (wm _)) (wq (wr (xp zw (pv 0) (pv 2) (λ_ _=>rfl)))) w4)
   (wq (wr (xp zw (pv 0) (wy xq (pv 1) (wy vq (wy zj (pv 2) (pv 1)) (wy zj (wp w8 rfl T.len_ aF (qr (pv 0) qj)) (pv 1)))) (λ_ _=>rfl))))),?_⟩
 refine exI rfl (exI rfl (wc rfl rfl (exI rfl ?_)))
 refine zp (λq1=>?_) (λq1=>?_)
 ·obtain ⟨a,ea,fa⟩:=qk7 (i:=m.toNat) pr (by lia)
  refine exI rfl (exI rfl (exX rfl rfl (SqL.of fl) ?_ (k a fa)))
  have:=k4 ea
  rwa [dI m0] at this
 ·have hm:(u:Int)≤m:=by lia
  have lt:=cK (m.toNat-u) (show 0<n-u by lia)
  obtain ⟨a,ea,fa⟩:=qk7 (i:=u+(m.toNat-u)%(n-u)) pr (by lia)
  rw [←per it_st hu e m.toNat (by lia)] at fa
  refine exI rfl (exI rfl (exI rfl (exI rfl (wc rfl rfl (exI rfl ⟨_,_,rfl,.inl (SqL.of fl),exI rfl (wc rfl rfl (wc rfl rfl ⟨?_,wc rfl rfl (exX rfl rfl (SqL.of fl) ?_ (k a fa))⟩))⟩)))))
  ·rw [hlen]
   show (0:Int)<(n:Int)-u
   lia
  ·rw [hlen,qj9 hm hu]
   exact k4 ea
def qjj (K:Aa):Sp:=λvs H Q _=>∃(p:Aj) (hs:List Int) (t b:Int),vs=[.ref p,.int t,.int b]∧SqL K H p (hs.map V.int)∧xj hs∧1≤b∧Sm 4000 b∧OnRoad hs t b∧Q (.int (k9 hs t b)) H
theorem wx6 {f:Aj}{fd:Ad}(F:Fun K "_law_step" "_law_step" s__law_step f fd)(T:Txt K mg qf qh qw q8 qd ww wx qt wv q9 qb wb qz qc qx qq):FnOk P w K mg base (CXE P w) 1 f fd ["_law_heights_here","_law_top","_law_bottom"] (qjj K):=by
 have sc:=qxf
 refine F.okX sc (λvs H Q E h=>by obtain ⟨p,hs,t,b,rfl,_⟩:=h;rfl) (λcdv A outer s H vs Q E hr h=>?_)
 obtain ⟨p,hs,t,b,rfl,hS,hok,hb,sb,hon,k⟩:=h
 rw [←ww4 hok.1 hb hon.1 hon.2] at k
 have hl:=hok.2.1
 have k0:=eU hon.1 (show (0:Int)≤b by lia)
 have k1:t/b≤(hs.length:Int)-1:=by
  have:=Int.ediv_le_ediv (show 0<b by lia) hon.2
  rwa [Int.mul_ediv_cancel _ (show b≠0 by lia)] at this
 have g1:=qjp hok (t/b)
 have g2:=qjp hok (t/b+1)
 refine ⟨_,(qk (wn (i:=3) sc.nd rfl (by walk_at "loc") (wy vc (pv 1) (pv 2)))
   (qk (xh (wg zg (wy xy (pv 3) (pv 2)) (pv 1) (wm _)) (wq (wr (wy xy (xp zw (pv 0) (pv 3) (λ_ _=>rfl)) (pv 2)))) w4)
   (wq (wr (wy xq (wy xy (xp zw (pv 0) (pv 3) (λ_ _=>rfl)) (pv 2)) (wy xy (wy zj (xp zw (pv 0) (wy xq (pv 3) qu) (λ_ _=>rfl)) (xp zw (pv 0) (pv 3) (λ_ _=>rfl))) (wy zj (pv 1) (wy xy (pv 3) (pv 2))))))))),?_⟩
 refine exI rfl (exI rfl (wc rfl rfl ⟨⟨by lia,sb.mono (by decide)⟩,exI rfl (exI rfl (wc rfl rfl ⟨IntMulOk.of_left (intBits_le_64 (by lia) (by lia)),exI rfl ⟨rfl,_,rfl,?_⟩⟩))⟩))
 refine zt (λq1=>?_) (λq1=>?_)
 ·refine exI rfl (exI rfl (exX rfl rfl hS (at_h k0 (by lia)) (exI rfl (wc rfl rfl ⟨IntMulOk.of_left (intBits_le_64 (by lia) (by lia)),?_⟩))))
  rw [qjc,al q1] at k
  exact k
 ·have k2:t/b<(hs.length:Int)-1:=by
   rcases cf (t/b) ((hs.length:Int)-1) with z|z
   ·exact z
   ·have e:t/b=(hs.length:Int)-1:=by lia
    have h1:t/b*b≤t:=eV t (by lia)
    have h2:=hon.2
    rw [←e] at h2
    exact absurd (by lia) q1
  refine exI rfl (exI rfl (exX rfl rfl hS (at_h k0 (by lia)) (exI rfl (wc rfl rfl ⟨IntMulOk.of_left (intBits_le_64 (by lia) (by lia)),exI rfl (exI rfl (wc rfl rfl (exX rfl rfl hS (at_h (by lia) (by lia)) (exI rfl (exI rfl (exX rfl rfl hS (at_h k0 (by lia)) (wc rfl rfl (exI rfl (exI rfl (exI rfl (wc rfl rfl ⟨IntMulOk.of_left (intBits_le_64 (by lia) (by lia)),wc rfl rfl (wc rfl rfl ⟨IntMulOk.of_left (intBits_le_64 (by lia) (by lia)),wc rfl rfl ?_⟩)⟩)))))))))))⟩))))
  rw [qjc,ai q1] at k
  exact k
theorem Z9 {H:Hp}{D:Aj}{kvs:List (Key×V)}{i:Int}{o:Option V}(f:H D=some (.dK kvs))(e:w9 kvs (.inl i)=o):DGet H D (.int i) o:=by
 have:=DGet.k (k:=.inl i) f
 rwa [e] at this
def jr (K:Aa):Sp:=λvs H Q _=>∃(p:Aj) (hs:List Int) (t b:Int),vs=[.ref p,.int t,.int b]∧SqL K H p (hs.map V.int)∧xj hs∧1≤b∧b≤10000∧OnRoad hs t b ∧
 (∀n u q l H',Dist (trT hs t b) n→u<n→trT hs t b n=trT hs t b u→n≤300000→Same H H'→H l=none→H' q=some (.tup [.ref l,.int ((u:Nat):Int)])→H' l=some (.lst (((List.range n).map (trT hs t b)).map V.int))→Q (.ref q) H')
theorem qq3 {n:Nat}(h:n≤1000000):n<sizeLine:=cX h (by decide)
theorem quf {f:Aj}{fd:Ad}(F:Fun K "_law_trace" "_law_trace" s__law_trace f fd)(T:Txt K mg qf qh qw q8 qd ww wx qt wv q9 qb wb qz qc qx qq)(c__law_step:Cal P w K mg base "_law_step" 1 (qjj K)):FnOk P w K mg base (CXE P w) 2 f fd ["_law_heights_here","_law_top","_law_bottom"] (jr K):=by
 have sc:=qqu
 refine F.okX sc (λvs H Q E h=>by obtain ⟨p,hs,t,b,rfl,_⟩:=h;rfl) (λcdv A outer s H vs Q E hr h=>?_)
 obtain ⟨p,hs,t,b,rfl,hS,hok,hb,hb2,hon,k⟩:=h
 have hl:=hok.2.1
 have sb:Sm 4000 b:=(Sm.small (n:=65) (by lia) (by lia) (by decide)).mono (by decide)
 have bnd:∀n,Dist (trT hs t b) n→n≤250000:=λn d=>by
  have h1:=pigI d λi=>yp hok hb hon i
  have h2:=ff (show (hs.length:Int)-1≤24 by lia) hb2 (by lia) (by decide)
  lia
 refine ⟨_,(qk (wn (i:=3) sc.nd rfl (by walk_at "loc") vd)
   (qk (wn (i:=4) sc.nd rfl (by walk_at "loc") (um qj))
   (qk (Qs aW (Ym (y9 (vh hr) (pv 1) (pv 3))) (qk (Zh (vh hr) (pv 3) (pv 1) (wp w8 rfl T.len_ aF (qr (pv 4) qj)) rfl)
   (qk (xg (qj5 bK ck cm jy (pv 4) (qr (pv 1) qj)))
   (wq (wn (i:=1) sc.nd rfl (by walk_at "loc") (wu c__law_step (hr.mono (by decide)) rfl qy (qr (pv 0) (qr (pv 1) (qr (pv 2) qj)))))))))
   (wq (wr (zm (qr (pv 4) (v9 (jg (vh hr) (pv 3) (pv 1) (λ_ _=>rfl)) qj)))))))),?_⟩
 refine λD nD=>⟨sz0,λl nl=>?_⟩
 have dDl:D≠l:=qg (show upd H D (.dK []) D=some (.dK []) from qm) nl
 have nl0:H l=none:=by
  cases e:H l with
  |none=>rfl
  |some o=>rw [Same.upd nD _ _ e] at nl;cases nl
 refine Yj (λσ H2=>∃(i:Nat),σ=[some (.ref p),some (.int (trT hs t b i)),some (.int b),some (.ref D),some (.ref l)]∧Dist (trT hs t b) i∧Same H H2∧H2 D=some (.dK (v8 (λj=>Sum.inl (trT hs t b j)) i))∧H2 l=some (.lst (((List.range i).map (trT hs t b)).map V.int)))
  (λ_ H2=>match H2 D with|some (.dK kvs)=>250001-kvs.length|_=>0) ⟨0,rfl,λi j _ z=>absurd z (by lia),(Same.upd nD).trans (Same.upd nl),by rw [wz dDl,qm];rfl,qm⟩ ?_ λσ H Q Q' h ⟨v,e,v2,e2,a',o,e3,g,kk,e4,q⟩=>⟨v,e,v2,e2,a',o,e3,g,kk,e4,h _ _ q⟩
 rintro σ H2 ⟨i,rfl,hd,s2,f2,fl⟩
 have hd':Dist (λj=>(Sum.inl (trT hs t b j):Key)) i:=λu v uv vi e=>hd u v uv vi (Sum.inl.inj e)
 have hbi:=bnd i hd
 have hlen:(((List.range i).map (trT hs t b)).map V.int).length=i:=by rw [ae,ae,aH]
 by_cases hj:∃j,j<i∧trT hs t b j=trT hs t b i
 ·obtain ⟨j,ji,je⟩:=hj
  have hv:w9 (v8 (λj=>(Sum.inl (trT hs t b j):Key)) i) (.inl (trT hs t b i))=some (.int j):=by
   rw [←je]
   exact Wu hd' ji
  refine exI rfl (exI rfl ⟨D,exI rfl ⟨Z9 f2 hv,_,rfl,?_⟩⟩)
  refine yy ?_
  refine exI rfl (exI rfl (exI rfl ⟨D,exI rfl ⟨Z9 f2 hv,sz2,λq nq=>?_⟩⟩))
  have s3:=Same.upd (o:=.tup [.ref l,.int j]) nq
  exact k i j q l _ hd ji je.symm (by lia) (s2.trans s3) nl0 qm (s3 _ _ fl)
 ·have hn:∀j,j<i→trT hs t b j≠trT hs t b i:=λj a b=>hj ⟨j,a,b⟩
  have hv:w9 (v8 (λj=>(Sum.inl (trT hs t b j):Key)) i) (.inl (trT hs t b i))=none:=Wm λj a b=>hn j a (Sum.inl.inj b)
  have hd1:=hd.succ hn
  have hb1:=bnd (i+1) hd1
  refine exI rfl (exI rfl ⟨D,exI rfl ⟨Z9 f2 hv,_,rfl,?_⟩⟩)
  refine j3 ?_
  refine exI rfl ⟨_,_,rfl,.inl (SqL.of fl),exI rfl (exI rfl ⟨D,exI rfl ⟨DPut.k (k:=.inl (trT hs t b i)) f2 (qq3 (by rw [k8];lia)),?_⟩⟩)⟩
  rw [yb _ hv,hlen,←Q9 (λj=>(Sum.inl (trT hs t b j):Key)) i]
  have s3:Same H (upd H2 D (.dK (v8 (λj=>(Sum.inl (trT hs t b j):Key)) (i+1)))):=Same.upd2 s2 nD
  have fl3:upd H2 D (.dK (v8 (λj=>(Sum.inl (trT hs t b j):Key)) (i+1))) l=some (.lst (((List.range i).map (trT hs t b)).map V.int)):=by rw [wz dDl.symm];exact fl
  have f3:upd H2 D (.dK (v8 (λj=>(Sum.inl (trT hs t b j):Key)) (i+1))) D=some (.dK (v8 (λj=>(Sum.inl (trT hs t b j):Key)) (i+1))):=qm
  generalize upd H2 D (.dK (v8 (λj=>(Sum.inl (trT hs t b j):Key)) (i+1)))=H3 at s3 fl3 f3
  refine exI rfl ⟨.inl ⟨rfl,_,SqL.of fl3⟩,exI rfl ⟨_,_,_,rfl,rfl,fl3,qq3 (by rw [hlen];lia),?_⟩⟩
  have s4:Same H (upd H3 l (.lst (((List.range i).map (trT hs t b)).map V.int++[V.int (trT hs t b i)]))):=Same.upd2 s3 nl0
  refine exI rfl (exI rfl (exI rfl ⟨p,hs,trT hs t b i,b,rfl,s4.sql hS,hok,hb,sb,yp hok hb hon i,⟨i+1,rfl,hd1,s4,by rw [wz dDl];exact f3,?_⟩,?_⟩))
  ·rw [qm,ce,aP,aP]
   rfl
  ·show (match upd H3 l (.lst (((List.range i).map (trT hs t b)).map V.int++[V.int (trT hs t b i)])) D with|some (.dK kvs)=>250001-kvs.length|_=>0)<(match H2 D with|some (.dK kvs)=>250001-kvs.length|_=>0)
   rw [wz dDl,f3,f2]
   show 250001-(v8 (λj=>(Sum.inl (trT hs t b j):Key)) (i+1)).length<250001-(v8 (λj=>(Sum.inl (trT hs t b j):Key)) i).length
   rw [k8,k8]
   lia
def Z0 (K:Aa):Sp:=λvs H Q _=>∃(l:Aj) (g:Nat→Int) (n u:Nat) (m:Int),vs=[.ref l,.int u,.int m]∧H l=some (.lst (((List.range n).map g).map V.int))∧u<n∧g n=g u∧(∀i j,g i=g j→g (i+1)=g (j+1))∧0≤m∧Q (.int (g m.toNat)) H
theorem qyw {g:Nat→Int}{n i:Nat}(h:i<n):atI (((List.range n).map g).map V.int) ((i:Nat):Int)=some (V.int (g i)):=by
 refine k4 ?_
 rw [aG,aG,cv h]
 rfl
theorem wqk {f:Aj}{fd:Ad}(F:Fun K "_law_after" "_law_after" s__law_after f fd)(T:Txt K mg qf qh qw q8 qd ww wx qt wv q9 qb wb qz qc qx qq):FnOk P w K mg base (CXE P w) 1 f fd ["_law_tops","_law_start","_law_many"] (Z0 K):=by
 have sc:=qqn
 refine F.okX sc (λvs H Q E h=>by obtain ⟨l,g,n,u,m,rfl,_⟩:=h;rfl) (λcdv A outer s H vs Q E hr h=>?_)
 obtain ⟨l,g,n,u,m,rfl,fl,hu,e,st,m0,k⟩:=h
 have hlen:(((List.range n).map g).map V.int).length=n:=by rw [ae,ae,aH]
 refine ⟨_,(qk (xh (wg jw (pv 2) (wp w8 rfl T.len_ aF (qr (pv 0) qj)) (wm _)) (wq (wr (xp zw (pv 0) (pv 2) (λ_ _=>rfl)))) w4)
   (wq (wr (xp zw (pv 0) (wy xq (pv 1) (wy vq (wy zj (pv 2) (pv 1)) (wy zj (wp w8 rfl T.len_ aF (qr (pv 0) qj)) (pv 1)))) (λ_ _=>rfl))))),?_⟩
 refine exI rfl (exI rfl ⟨_,_,rfl,.inl (SqL.of fl),wc rfl rfl (exI rfl ?_)⟩)
 rw [hlen]
 refine zp (λq1=>?_) (λq1=>?_)
 ·have ea:=qyw (g:=g) (n:=n) (i:=m.toNat) (by lia)
  rw [dI m0] at ea
  exact exI rfl (exI rfl (exX rfl rfl (SqL.of fl) ea k))
 ·have hm:(u:Int)≤m:=by lia
  have lt:=cK (m.toNat-u) (show 0<n-u by lia)
  have ea:=qyw (g:=g) (n:=n) (i:=u+(m.toNat-u)%(n-u)) (by lia)
  rw [←per st hu e m.toNat (by lia)] at ea
  refine exI rfl (exI rfl (exI rfl (exI rfl (wc rfl rfl (exI rfl ⟨_,_,rfl,.inl (SqL.of fl),exI rfl (wc rfl rfl (wc rfl rfl ⟨?_,wc rfl rfl (exX rfl rfl (SqL.of fl) ?_ k)⟩))⟩)))))
  ·rw [hlen]
   show (0:Int)<(n:Int)-u
   lia
  ·rw [hlen,qj9 hm hu]
   exact ea
def qxd (K:Aa):Sp:=λvs H Q _=>∃(a:Aj) (ns:List Int) (i wd mo:Int),vs=[.ref a,.int i,.int wd,.int mo]∧SqL K H a (ns.map V.int)∧0≤i∧1≤wd∧wd≤24∧6≤mo∧mo≤1000 ∧
 ∀p t b c,H p=none→1≤b→b≤mo→1≤c→c≤3→0≤t→t≤wd*b→Q (.ref p) (upd H p (.tup [.int (t*c),.int (b*c)]))
theorem wxr {f:Aj}{fd:Ad}(F:Fun K "_law_spot" "_law_spot" s__law_spot f fd)(T:Txt K mg qf qh qw q8 qd ww wx qt wv q9 qb wb qz qc qx qq)(c__law_pick:Cal P w K mg base "_law_pick" 2 (jm K)):FnOk P w K mg base (CXE P w) 3 f fd ["_law_script","_law_at","_law_wide","_law_most"] (qxd K):=by
 have sc:=qxs
 refine F.okX sc (λvs H Q E h=>by obtain ⟨a,ns,i,wd,mo,rfl,_⟩:=h;rfl) (λcdv A outer s H vs Q E hr h=>?_)
 obtain ⟨a,ns,i,wd,mo,rfl,hS,i0,w1,w2,o1,o2,k⟩:=h
 refine ⟨_,(qk (wn (i:=4) sc.nd rfl (by walk_at "loc") (wy xq qu (wu c__law_pick (hr.mono (by decide)) rfl qy (qr (pv 0) (qr (pv 1) (w6 qu (qr (pv 3) qj)))))))
   (Z3 (xh (wg zg (wu c__law_pick (hr.mono (by decide)) rfl qy (qr (pv 0) (qr (pv 1) (w6 qu (w6 qu qj))))) qu (wm _)) (wq (wn (i:=4) sc.nd rfl (by walk_at "loc") (wy xq qu (wy vq (pv 4) qu)))) w4)
   (qk (wn (i:=5) sc.nd rfl (by walk_at "loc") (wy xq (wy xy (wu c__law_pick (hr.mono (by decide)) rfl qy (qr (pv 0) (qr (pv 1) (w6 qu (qr (pv 2) qj))))) (pv 4)) (wu c__law_pick (hr.mono (by decide)) rfl qy (qr (pv 0) (qr (pv 1) (w6 qu (x4 (wy xq (pv 4) qu) qj)))))))
   (qk (wn (i:=6) sc.nd rfl (by walk_at "loc") (wy xq qu (wu c__law_pick (hr.mono (by decide)) rfl qy (qr (pv 0) (qr (pv 1) (w6 qu (w6 qu qj)))))))
   (wq (wr (zm (x4 (wy xy (pv 5) (pv 6)) (x4 (wy xy (pv 4) (pv 6)) qj))))))))),?_⟩
 refine exI rfl (exI rfl (exI rfl ⟨a,ns,_,_,_,rfl,hS,i0,(by lia),(by lia),(by lia),λr1 _ l1 u1=>?_⟩))
 refine ⟨_,_,rfl,rfl,λσ H'=>∃b,σ=[some (.ref a),some (.int i),some (.int wd),some (.int mo),some (.int b),none,none]∧1≤b∧b≤mo∧H'=H,?_,?_⟩
 ·refine exI rfl (exI rfl ⟨a,ns,_,_,_,rfl,hS,i0,(by lia),(by lia),(by lia),λr2 _ l2 u2=>?_⟩)
  refine ⟨rfl,_,rfl,zt (λq1=>?_) (λq1=>?_)⟩
  ·have e1:=bj (1+r1) (show (6:Int)≠0 by decide)
   have e2:=aX (1+r1) (show (0:Int)<6 by decide)
   exact ⟨_,rfl,_,_,rfl,rfl,(by walk_at "pos"),_,_,rfl,rfl,_,rfl,by lia,by lia,rfl⟩
  ·exact ⟨_,rfl,by lia,by lia,rfl⟩
 ·rintro σ Hx ⟨b,rfl,b1,b2,rfl⟩
  refine exI rfl (exI rfl (exI rfl ⟨a,ns,_,_,_,rfl,hS,i0,(by lia),(by lia),(by lia),λr3 _ l3 u3=>?_⟩))
  refine exI rfl (wc rfl rfl ⟨(by walk_at "mul"),exI rfl (exI rfl (exI rfl (wc rfl rfl ⟨a,ns,_,_,_,rfl,hS,i0,(by lia),(by lia),(by lia),λr4 _ l4 u4=>?_⟩)))⟩)
  refine wc rfl rfl ?_
  refine exI rfl (exI rfl ⟨a,ns,_,_,_,rfl,hS,i0,(by lia),(by lia),(by lia),λr5 _ l5 u5=>?_⟩)
  refine wc rfl rfl ?_
  have h1:=ay (show r3≤wd-1 by lia) (show 0≤b by lia)
  have h2:(wd-1)*b=wd*b-b:=by rw [Int.sub_mul,Int.one_mul]
  have h3:=dh l3 (show 0≤b by lia)
  refine exI rfl ⟨V.int (1+r5),rfl,wc rfl rfl ⟨(by walk_at "mul"),exI rfl ⟨V.int (1+r5),rfl,wc rfl rfl ⟨(by walk_at "mul"),sz2,λp np=>?_⟩⟩⟩⟩
  exact k p _ b (1+r5) np b1 b2 (by lia) (by lia) (by lia) (by lia)
end
section
variable {P:Ac}{w:Ah}{K:Aa}{mg:Str→Option Ag}{base:Heap}{qf:Aj}{qh:Aj}{qw:Aj}{q8:Aj}{qd:Aj}{ww:Aj}{wx:Aj}{qt:Aj}{wv:Aj}{q9:Aj}{qb:Aj}{wb:Aj}{qz:Aj}{qc:Aj}{qx:Aj}{qq:Aj}
def qj2 (c:Nat):Bool:=!(Builtin.Str.occurrences (Str.ofString "abcdefghijklmnopqrstuvwxyz") ⟨#[c]⟩ 0 (Str.ofString "abcdefghijklmnopqrstuvwxyz").length 1).isEmpty
def ku (x:Str):Bool:=decide (1≤x.length∧x.length≤12)&&(List.range x.cps.size).all λi=>qj2 (x.cps.getD i 0)
def Yx:Sp:=λvs H Q _=>∃x:Str,vs=[.str x]∧x.length≤1000∧∀H',Same H H'→Q (.bl (ku x)) H'
theorem qvs {f:Aj}{fd:Ad}(F:Fun K "is_name" "is_name" s_is_name f fd)(T:Txt K mg qf qh qw q8 qd ww wx qt wv q9 qb wb qz qc qx qq):FnOk P w K mg base (CXE P w) 1 f fd ["name"] Yx:=by
 have sc:=qvt
 refine F.okX sc (λvs H Q E h=>by obtain ⟨x,rfl,_⟩:=h;rfl) (λcdv A outer s H vs Q E hr h=>?_)
 obtain ⟨x,rfl,hx,k⟩:=h
 obtain ⟨tn,g_LONGEST_NAME⟩:=T.g_LONGEST_NAME
 obtain ⟨tl,g_LETTERS⟩:=T.g_LETTERS
 have big:(1000000:Nat)<sizeLine:=by decide
 refine ⟨_,(qk (xh (PW.pt (Wt (wg jw (wp Qx rfl T.len_ aF (qr (pv 0) qj)) qu (wm _)) (ym (wg yu (wp Qx rfl T.len_ aF (qr (pv 0) qj)) (yq (v:=V.int 12) rfl g_LONGEST_NAME ⟨_,rfl⟩) (wm _))))) (wq (wr qj1)) w4)
   (wq (wr (wp (J1 rfl) rfl T.all_ wwk (xx (jf (M:=[]) rfl rfl (by walk_at "cap") (by walk_at "has") (by walk_at "cix") rfl (by decide +kernel) rfl (show List.Nodup (["sign"]:List Str) by decide +kernel) (pi_str (pv 0)) (λ_ _ _ _ _=>(uw qyf (pv 0) (yq (v:=V.str "abcdefghijklmnopqrstuvwxyz") rfl g_LETTERS ⟨_,rfl⟩) rfl))) qj))))),?_⟩
 refine ⟨_,rfl,x,rfl,by lia,_,_,rfl,rfl,_,rfl,?_⟩
 have no:∀z:¬ (1≤x.length∧x.length≤12),ku x=false:=λz=>by unfold ku;rw [bh z];rfl
 refine zp (λq1=>?_) (λq1=>?_)
 ·refine j3 ?_
  have:=k H (Same.refl _)
  rw [no (by lia)] at this
  exact this
 ·refine ⟨_,rfl,x,rfl,by lia,_,_,rfl,rfl,_,rfl,zp (λq2=>?_) (λq2=>?_)⟩
  ·have:=k H (Same.refl _)
   rw [no (by lia)] at this
   exact this
  ·refine exI rfl ⟨x,rfl,wqw (λi=>.bl (qj2 (x.cps.getD i 0))) (by show x.length≤1000000;lia) (λi H' R hi hs hR=>?_) λp np=>?_⟩
   ·exact exI rfl (wc rfl rfl hR)
   ·have e:ku x=((List.range x.cps.size).map λi=>qj2 (x.cps.getD i 0)).all id:=by
     unfold ku
     rw [bd (show 1≤x.length∧x.length≤12 by lia),List.all_map]
     rfl
    refine ⟨p,(List.range x.cps.size).map λi=>qj2 (x.cps.getD i 0),rfl,?_,?_⟩
    ·rw [bP]
     exact SqL.new
    ·rw [←e]
     exact k _ (Same.upd np)
def uk (CN CT:Aj):Sp:=λvs H Q E=>∃(x:Str) (d:Aj) (kvs:List (Key×V)),vs=[.str x,.ref d]∧x.length≤1000∧H d=some (.dK kvs) ∧
 (ku x=true→w9 kvs (.inr x)=none→∀H',Same H H'→Q .non H')∧(ku x=false→∀H',Same H H'→E (.ref CN) none H')∧(ku x=true→(w9 kvs (.inr x)).isSome=true→∀H',Same H H'→E (.ref CT) none H')
theorem qx9 {f:Aj}{fd:Ad}(F:Fun K "check_new_name" "check_new_name" s_check_new_name f fd)(T:Txt K mg qf qh qw q8 qd ww wx qt wv q9 qb wb qz qc qx qq)(c_is_name:Cal P w K mg base "is_name" 1 Yx):FnOk P w K mg base (CXE P w) 2 f fd ["name","things"] (uk qt wv):=by
 have sc:=Qc
 refine F.okX sc (λvs H Q E h=>by obtain ⟨x,d,kvs,rfl,_⟩:=h;rfl) (λcdv A outer s H vs Q E hr h=>?_)
 obtain ⟨x,d,kvs,rfl,hx,hd,k,kn,kt⟩:=h
 refine ⟨_,(qk (xh (qv9 (qxn (wu c_is_name (hr.mono (by decide)) rfl qy (qr (pv 0) qj)))) (wq (zc rfl T.x_BadName x8 rfl T.g_BadName (w6 xn qj))) w4)
   (wq (xh (Ym (pc_din (vh hr) (pv 0) (pv 1))) (wq (zc rfl T.x_Taken x8 rfl T.g_Taken (w6 xn qj))) w4))),?_⟩
 refine exI rfl ⟨x,rfl,hx,λH1 s1=>(exI rfl ?_)⟩
 have dg:DGet H1 d (.str x) (w9 kvs (.inr x)):=DGet.k (k:=.inr x) (s1 _ _ hd)
 cases hn:ku x with
 |false=>exact j3 ⟨sz1,kn hn H1 s1⟩
 |true =>
  refine yy (exI rfl (exI rfl ⟨d,exI rfl ⟨dg,_,rfl,?_⟩⟩))
  cases hv:w9 kvs (.inr x) with
  |none=>exact yy (k hn hv H1 s1)
  |some v=>exact j3 ⟨sz1,kt hn (by rw [hv];rfl) H1 s1⟩
def qw1:Sp:=λvs H Q _=>∃(t c:Aj) (R cs:List (Key×V)),vs=[.ref t,.ref c]∧t≠c∧H t=some (.dK R)∧Rd H c (.dK cs)∧(cs.map (·.1)).Nodup∧R.length≤1000∧cs.length≤1000∧qx3 R cs ∧
 ∀q H',H q=none→H' q=some (.dK (bfK R cs))→H' t=some (.dK (exK R cs))→Rd H' c (.dK cs)→Kb [t,c] H H'→Q (.ref q) H'
theorem wzq {f:Aj}{fd:Ad}(F:Fun K "exchange" "exchange" s_exchange f fd)(T:Txt K mg qf qh qw q8 qd ww wx qt wv q9 qb wb qz qc qx qq):FnOk P w K mg base (CXE P w) 1 f fd ["things","changes"] qw1:=by
 have sc:=qvv
 refine F.okX sc (λvs H Q E h=>by obtain ⟨t,c,R,cs,rfl,_⟩:=h;rfl) (λcdv A outer s H vs Q E hr h=>?_)
 obtain ⟨t,c,R,cs,rfl,tc,ht,hc,nd,lR,lc,ok,k⟩:=h
 have big:(1000000:Nat)<sizeLine:=by decide
 refine ⟨_,(qk (W0 (i:=2) (M:=[0]) sc.nd rfl (by walk_at "loc") rfl rfl (by walk_at "cap") (by walk_at "has") (by walk_at "cix") rfl (by decide +kernel) rfl (show List.Nodup (["name","things"]:List Str) by decide +kernel) (pi_dk (pv 1)) (λ_ _ _ _ _=>(pv 0)) (λ_ _ _ _ _=>(wxv (vh hr) (pv 1) (pv 0) ⟨rfl,rfl,rfl,rfl⟩)))
   (qk (yh aW rfl (pi_di (pv 1)) (v4 rfl (xk (xv (i:=3) sc.nd rfl (by walk_at "loc")) (xk (xv (i:=4) sc.nd rfl (by walk_at "loc")) zn))) (wq (xh (wg op_isN (pv 4) wxu (wm _)) (wq (wvx (pv 0) (pv 3))) (wq (Zh (vh hr) (pv 0) (pv 3) (pv 4) rfl)))))
   (wq (wr (pv 2))))),?_⟩
 refine exI rfl ⟨c,cs,rfl,hc,λo H1 fz=>?_⟩
 have ht1:H1 t=some (.dK R):=by rw [fz.2 t tc];exact ht
 refine wqs (λk=>(w9 R k).getD .non) (by lia) nd fz.1 (λk H' RR s' hR=>(exI rfl (exI rfl ⟨t,rfl,.inl ⟨R,.inl (s' _ _ ht1)⟩,exI rfl ⟨_,DGet.k (k:=k) (s' _ _ ht1),hR⟩⟩))) λq nq=>?_
 have nq0:H q=none:=by
  cases e:H q with
  |none=>rfl
  |some ob =>
   by_cases z:q=c
   ·rw [z,fz.1] at nq;cases nq
   ·rw [fz.2 q z,e] at nq;cases nq
 have s2:Same H1 (upd H1 q (.dK (bfK R cs))):=Same.upd nq
 have fq:upd H1 q (.dK (bfK R cs)) q=some (.dK (bfK R cs)):=qm
 have c2:upd H1 q (.dK (bfK R cs)) c=some (.frz o (.dK cs)):=s2 _ _ fz.1
 have t2:upd H1 q (.dK (bfK R cs)) t=some (.dK R):=s2 _ _ ht1
 have tq:t≠q:=qg ht1 nq
 have kb:Kb [t,c] H (upd H1 q (.dK (bfK R cs))):=λb ob nb e=>s2 _ _ (by rw [fz.2 b (λz=>nb (by simp [z]))];exact e)
 have sel:(cs.map λc=>(c.1,(w9 R c.1).getD .non))=bfK R cs:=rfl
 rw [sel]
 generalize upd H1 q (.dK (bfK R cs))=H2 at fq c2 t2 kb
 refine exI rfl ⟨c,cs,rfl,.inr ⟨o,c2⟩,λo' H3 fz3=>?_⟩
 have cq:q≠c:=λz=>by rw [z,c2] at fq;cases fq
 have t3:H3 t=some (.dK R):=by rw [fz3.2 t tc];exact t2
 have q3:H3 q=some (.dK (bfK R cs)):=by rw [fz3.2 q cq];exact fq
 have kb3:Kb [t,c] H H3:=λb ob nb e=>by rw [fz3.2 b (λz=>nb (by simp [z]))];exact kb b ob nb e
 refine for_di (λi σ H'=>(∃z3 z4,σ=[some (.ref t),some (.ref c),some (.ref q),z3,z4])∧H' c=some (.frz o' (.dK cs))∧H' q=some (.dK (bfK R cs))∧H' t=some (.dK (exK R (cs.take i)))∧Kb [t,c] H H') ⟨⟨_,_,rfl⟩,fz3.1,q3,t3,kb3⟩ (λi σ H' hi h=>h.2.1) ?_ ?_
 ·rintro i cc z σ H' ec nz ⟨⟨z3,z4,rfl⟩,a1,a2,a3,a4⟩
  have s4:Same H' (upd H' z (.tup [kV cc.1,cc.2])):=Same.upd nz
  refine ⟨z,exI rfl ⟨SqT.new,rfl,_,_,rfl,_,_,rfl,rfl,?_⟩⟩
  have b1:=s4 _ _ a1
  have b2:=s4 _ _ a2
  have b3:=s4 _ _ a3
  have b4:Kb [t,c] H (upd H' z (.tup [kV cc.1,cc.2])):=λb ob nb e=>s4 _ _ (a4 b ob nb e)
  generalize upd H' z (.tup [kV cc.1,cc.2])=H4 at b1 b2 b3 b4
  have le:=wv0 R (cs.take i)
  have lt:(cs.take i).length≤1000:=by rw [bA];lia
  have et:=wzc R ec
  have tq':t≠q:=tq
  have step:∀R',ex1 (exK R (cs.take i)) cc=R'→(∃z3' z4',[some (V.ref t),some (V.ref c),some (V.ref q),some (kV cc.1),some cc.2]=[some (V.ref t),some (V.ref c),some (V.ref q),z3',z4'])∧upd H4 t (.dK R') c=some (.frz o' (.dK cs))∧upd H4 t (.dK R') q=some (.dK (bfK R cs))∧upd H4 t (.dK R') t=some (.dK (exK R (cs.take (i+1))))∧Kb [t,c] H (upd H4 t (.dK R')):=λR' e=>by
   refine ⟨⟨_,_,rfl⟩,?_,?_,?_,λb ob nb e'=>?_⟩
   ·rw [wz (aU tc)];exact b1
   ·rw [wz (aU tq')];exact b2
   ·rw [qm,et,e]
   ·rw [wz (λz=>nb (by simp [z]))];exact b4 b ob nb e'
  refine exI rfl ⟨rfl,_,rfl,zp (λhn=>?_) (λhn=>?_)⟩
  ·exact exI rfl (exI rfl ⟨t,_,cc.1,rfl,b3,rfl,ok i cc ec hn,step _ (by unfold ex1;rw [al hn])⟩)
  ·exact exI rfl (exI rfl (exI rfl ⟨t,exI rfl ⟨DPut.k (k:=cc.1) b3 (by lia),step _ (by unfold ex1;rw [ai hn])⟩⟩))
 ·rintro σ H' ⟨⟨z3,z4,rfl⟩,a1,a2,a3,a4⟩
  rw [cL] at a3
  exact exI rfl (k q H' nq0 a2 a3 (.inr ⟨o',a1⟩) a4)
end
section
variable {P:Ac}{w:Ah}{K:Aa}{mg:Str→Option Ag}{base:Heap}{qf:Aj}{qh:Aj}{qw:Aj}{q8:Aj}{qd:Aj}{ww:Aj}{wx:Aj}{qt:Aj}{wv:Aj}{q9:Aj}{qb:Aj}{wb:Aj}{qz:Aj}{qc:Aj}{qx:Aj}{qq:Aj}
def hF (dr dw dd:Aj):List (Str×V):=[("roads",.ref dr),("walkers",.ref dw),("done",.ref dd)]
theorem km {dr dw dd:Aj}:(hF dr dw dd).lookup ("roads" : Str)=some (.ref dr):=by unfold hF;rw [aC];simp
theorem zx {dr dw dd:Aj}:(hF dr dw dd).lookup ("walkers" : Str)=some (.ref dw):=by
 unfold hF
 rw [aC,show (("walkers" : Str)==("roads" : Str))=false by decide +kernel]
 dsimp only
 rw [aC]
 simp
theorem Wn {dr dw dd:Aj}:(hF dr dw dd).lookup ("done" : Str)=some (.ref dd):=by
 unfold hF
 rw [aC,show (("done" : Str)==("roads" : Str))=false by decide +kernel]
 dsimp only
 rw [aC,show (("done" : Str)==("walkers" : Str))=false by decide +kernel]
 dsimp only
 rw [aC]
 simp
theorem xb {dr dw dd:Aj}{m:Str}(h1:¬ m = "roads")(h2:¬ m = "walkers")(h3:¬ m = "done"):(hF dr dw dd).lookup m=none:=by
 unfold hF
 rw [aC,aK.mpr h1]
 dsimp only
 rw [aC,aK.mpr h2]
 dsimp only
 rw [aC,aK.mpr h3]
 rfl
structure Hse (C:Aj)(H:Hp)(x dr dw dd:Aj)(R W:List (Key×V))(D:List V):Prop where
 ob:∃dx,H x=some (.ins C dx (hF dr dw dd))
 r:H dr=some (.dK R)
 w:H dw=some (.dK W)
 d:H dd=some (.lst D)
 ne:dr≠dw
theorem Hse.kb {C:Aj}{H H':Hp}{x dr dw dd:Aj}{R W:List (Key×V)}{D:List V}(h:Hse C H x dr dw dd R W D){ch:List Aj}(k:Kb ch H H')(n:x∉ch∧dr∉ch∧dw∉ch∧dd∉ch):Hse C H' x dr dw dd R W D:=by
 obtain ⟨dx,e⟩:=h.ob
 exact ⟨⟨dx,k _ _ n.1 e⟩,k _ _ n.2.1 h.r,k _ _ n.2.2.1 h.w,k _ _ n.2.2.2 h.d,h.ne⟩
theorem Hse.same {C:Aj}{H H':Hp}{x dr dw dd:Aj}{R W:List (Key×V)}{D:List V}(h:Hse C H x dr dw dd R W D)(s:Same H H'):Hse C H' x dr dw dd R W D:=h.kb (ch:=[]) (Kb.of s) ⟨ao,ao,ao,ao⟩
def qw7 (C:Aj):Sp:=λvs H Q _=>∃x dx,vs=[.ref x]∧H x=some (.ins C dx [])∧∀H' dr dw dd,H dr=none→H dw=none→H dd=none→Hse C H' x dr dw dd [] [] []→Kb [x] H H'→Q .non H'
theorem wwh {f:Aj}{fd:Ad}(F:Fun K "__init__" "House.__init__" s_House___init__ f fd)(T:Txt K mg qf qh qw q8 qd ww wx qt wv q9 qb wb qz qc qx qq):FnOk P w K mg base (CXE P w) 1 f fd ["self"] (qw7 qq):=by
 have sc:=Q0
 refine F.okX sc (λvs H Q E h=>by obtain ⟨x,dx,rfl,_⟩:=h;rfl) (λcdv A outer s H vs Q E hr h=>?_)
 obtain ⟨x,dx,rfl,hx,k⟩:=h
 refine ⟨_,(qk (ut (pv 0) vd rfl)
   (qk (ut (pv 0) vd rfl)
   (wq (ut (pv 0) (um qj) rfl)))),?_⟩
 refine λdr n1=>exI rfl ⟨x,qq,dx,[],rfl,(by rw [wz (qg hx n1)];exact hx),T.clH,T.naHr,(by show 0<1000;decide),?_⟩
 have e1:∀b o,b≠x→H b=some o→upd (upd H dr (.dK [])) x (.ins qq dx (vz "roads" (.ref dr) [])) b=some o:=λb o nb e=>by rw [wz nb,wz (qg e n1)];exact e
 have x1:upd (upd H dr (.dK [])) x (.ins qq dx (vz "roads" (.ref dr) [])) x=some (.ins qq dx (vz "roads" (.ref dr) [])):=qm
 have r1:upd (upd H dr (.dK [])) x (.ins qq dx (vz "roads" (.ref dr) [])) dr=some (.dK []):=by rw [wz (qg hx n1).symm,qm]
 generalize upd (upd H dr (.dK [])) x (.ins qq dx (vz "roads" (.ref dr) []))=H1 at e1 x1 r1
 refine λdw n2=>exI rfl ⟨x,qq,dx,exI rfl ⟨(by rw [wz (qg x1 n2)];exact x1),T.clH,T.naHw,(by show 1<1000;decide),?_⟩⟩
 have xr:x≠dr:=qg hx n1
 have e2:∀b o,b≠x→H1 b=some o→upd (upd H1 dw (.dK [])) x (.ins qq dx (vz "walkers" (.ref dw) (vz "roads" (.ref dr) []))) b=some o:=λb o nb e=>by rw [wz nb,wz (qg e n2)];exact e
 have x2:upd (upd H1 dw (.dK [])) x (.ins qq dx (vz "walkers" (.ref dw) (vz "roads" (.ref dr) []))) x=some (.ins qq dx (vz "walkers" (.ref dw) (vz "roads" (.ref dr) []))):=qm
 have w2:upd (upd H1 dw (.dK [])) x (.ins qq dx (vz "walkers" (.ref dw) (vz "roads" (.ref dr) []))) dw=some (.dK []):=by rw [wz (qg x1 n2).symm,qm]
 have r2:=e2 dr _ xr.symm r1
 generalize upd (upd H1 dw (.dK [])) x (.ins qq dx (vz "walkers" (.ref dw) (vz "roads" (.ref dr) [])))=H2 at e2 x2 w2 r2
 have xw:x≠dw:=qg x1 n2
 refine ⟨sz0,λdd n3=>(exI rfl ⟨x,qq,dx,exI rfl ⟨(by rw [wz (qg x2 n3)];exact x2),T.clH,T.naHd,(by show 2<1000;decide),?_⟩⟩)⟩
 have xd:x≠dd:=qg x2 n3
 have e3:∀b o,b≠x→H2 b=some o→upd (upd H2 dd (.lst [])) x (.ins qq dx (vz "done" (.ref dd) (vz "walkers" (.ref dw) (vz "roads" (.ref dr) [])))) b=some o:=λb o nb e=>by rw [wz nb,wz (qg e n3)];exact e
 have old:∀b o,b≠x→H b=some o→H2 b=some o:=λb o nb e=>e2 b o nb (e1 b o nb e)
 have non:∀b,b≠x→H2 b=none→H b=none:=λb nb e=>by
  cases q:H b with
  |none=>rfl
  |some o=>rw [old b o nb q] at e;cases e
 refine k _ dr dw dd n1 (by
  cases q:H dw with
  |none=>rfl
  |some o=>rw [e1 dw o xw.symm q] at n2;cases n2) (non dd xd.symm n3) ⟨⟨dx,qm⟩,e3 _ _ xr.symm r2,e3 _ _ xw.symm w2,?_,qg r1 n2⟩ λb o nb e=>e3 b o (λz=>nb (by simp [z])) (old b o (λz=>nb (by simp [z])) e)
 rw [wz xd.symm,qm]
def zr (C CN:Aj)(roads:Bool):Sp:=λvs H Q E=>∃(x dr dw dd:Aj) (R W:List (Key×V)) (D:List V) (n:Str),vs=[.ref x,.str n]∧Hse C H x dr dw dd R W D ∧
 (∀v,w9 (if roads then R else W) (.inr n)=some v→Q v H)∧(w9 (if roads then R else W) (.inr n)=none→E (.ref CN) none H)
theorem Jy {f:Aj}{fd:Ad}(F:Fun K "road_called" "House.road_called" s_House_road_called f fd)(T:Txt K mg qf qh qw q8 qd ww wx qt wv q9 qb wb qz qc qx qq):FnOk P w K mg base (CXE P w) 1 f fd ["self","name"] (zr qq q9 true):=by
 have sc:=yr
 refine F.okX sc (λvs H Q E h=>by obtain ⟨x,dr,dw,dd,R,W,D,n,rfl,_⟩:=h;rfl) (λcdv A outer s H vs Q E hr h=>?_)
 obtain ⟨x,dr,dw,dd,R,W,D,n,rfl,hh,k,kx⟩:=h
 obtain ⟨dx,hx⟩:=hh.ob
 have dg:DGet H dr (.str n) (w9 R (.inr n)):=DGet.k (k:=.inr n) hh.r
 refine ⟨_,(qk (xh (Ym (y9 (vh hr) (pv 1) (zq (pv 0) rfl))) (wq (zc rfl T.x_NoRoad x8 rfl T.g_NoRoad (w6 xn qj))) w4)
   (wq (wr (jg (vh hr) (zq (pv 0) rfl) (pv 1) (λ_ _=>rfl))))),?_⟩
 refine exI rfl (exI rfl ⟨x,qq,dx,_,_,rfl,hx,T.clH,T.naHr,km,dr,exI rfl ⟨dg,_,rfl,?_⟩⟩)
 cases e:w9 R (.inr n) with
 |none=>exact j3 ⟨sz1,kx e⟩
 |some v =>
  rw [e] at dg
  exact yy (exI rfl ⟨x,qq,dx,_,_,rfl,hx,T.clH,T.naHr,km,exI rfl ⟨dr,v,rfl,dg,k v e⟩⟩)
theorem Wx {f:Aj}{fd:Ad}(F:Fun K "walker_called" "House.walker_called" s_House_walker_called f fd)(T:Txt K mg qf qh qw q8 qd ww wx qt wv q9 qb wb qz qc qx qq):FnOk P w K mg base (CXE P w) 1 f fd ["self","name"] (zr qq qb false):=by
 have sc:=yx
 refine F.okX sc (λvs H Q E h=>by obtain ⟨x,dr,dw,dd,R,W,D,n,rfl,_⟩:=h;rfl) (λcdv A outer s H vs Q E hr h=>?_)
 obtain ⟨x,dr,dw,dd,R,W,D,n,rfl,hh,k,kx⟩:=h
 obtain ⟨dx,hx⟩:=hh.ob
 have dg:DGet H dw (.str n) (w9 W (.inr n)):=DGet.k (k:=.inr n) hh.w
 refine ⟨_,(qk (xh (Ym (y9 (vh hr) (pv 1) (zq (pv 0) rfl))) (wq (zc rfl T.x_NoWalker x8 rfl T.g_NoWalker (w6 xn qj))) w4)
   (wq (wr (jg (vh hr) (zq (pv 0) rfl) (pv 1) (λ_ _=>rfl))))),?_⟩
 refine exI rfl (exI rfl ⟨x,qq,dx,_,_,rfl,hx,T.clH,T.naHw,zx,dw,exI rfl ⟨dg,_,rfl,?_⟩⟩)
 cases e:w9 W (.inr n) with
 |none=>exact j3 ⟨sz1,kx e⟩
 |some v =>
  rw [e] at dg
  exact yy (exI rfl ⟨x,qq,dx,_,_,rfl,hx,T.clH,T.naHw,zx,exI rfl ⟨dw,v,rfl,dg,k v e⟩⟩)
def Zk (C:Aj):Sp:=λvs H Q _=>∃(x dr dw dd c1 c2:Aj) (R W cs1 cs2:List (Key×V)) (D:List V),vs=[.ref x,.ref c1,.ref c2]∧Hse C H x dr dw dd R W D∧Rd H c1 (.dK cs1)∧Rd H c2 (.dK cs2)∧c1≠c2∧c1≠dr∧c1≠dw∧c2≠dr∧c2≠dw ∧
 (cs1.map (·.1)).Nodup∧(cs2.map (·.1)).Nodup∧R.length≤1000∧W.length≤1000∧cs1.length≤1000∧cs2.length≤1000∧D.length≤1000000∧qx3 R cs1∧qx3 W cs2 ∧
 ∀H' tp q1 q2,H tp=none→H q1=none→H q2=none→Hse C H' x dr dw dd (exK R cs1) (exK W cs2) (D++[.ref tp])→H' tp=some (.tup [.ref q1,.ref q2])→H' q1=some (.dK (bfK R cs1))→H' q2=some (.dK (bfK W cs2))→q1≠q2→Rd H' c2 (.dK cs2)→Kb [dr,dw,dd,c1,c2] H H'→Q .non H'
theorem ok_do {f:Aj}{fd:Ad}(F:Fun K "do" "House.do" s_House_do f fd)(T:Txt K mg qf qh qw q8 qd ww wx qt wv q9 qb wb qz qc qx qq)(c_exchange:Cal P w K mg base "exchange" 1 qw1):FnOk P w K mg base (CXE P w) 2 f fd ["self","roads","walkers"] (Zk qq):=by
 have sc:=qvx
 refine F.okX sc (λvs H Q E h=>by obtain ⟨x,dr,dw,dd,c1,c2,R,W,cs1,cs2,D,rfl,_⟩:=h;rfl) (λcdv A outer s H vs Q E hr h=>?_)
 obtain ⟨x,dr,dw,dd,c1,c2,R,W,cs1,cs2,D,rfl,hh,h1,h2,n12,n1r,n1w,n2r,n2w,nd1,nd2,lR,lW,l1,l2,lD,ok1,ok2,k⟩:=h
 obtain ⟨dx,hx⟩:=hh.ob
 have big:(1000000:Nat)<sizeLine:=by decide
 have isI:∀ {b o},Rd H b (.dK o)→x≠b:=λ{b o} hb z=>by
  rcases hb with hb|⟨u,hb⟩ <;> (rw [←z,hx] at hb;cases hb)
 have isD:∀ {b o},Rd H b (.dK o)→dd≠b:=λ{b o} hb z=>by
  rcases hb with hb|⟨u,hb⟩ <;> (rw [←z,hh.d] at hb;cases hb)
 have xr:=isI (.inl hh.r)
 have xw:=isI (.inl hh.w)
 have x1:=isI h1
 have x2:=isI h2
 have dr':=isD (.inl hh.r)
 have dw':=isD (.inl hh.w)
 have d1:=isD h1
 have d2:=isD h2
 refine ⟨_,(wq (xg (qj5 bK ck cm jy (zq (pv 0) rfl) (qj8 (zm (vg (wu c_exchange (hr.mono (by decide)) rfl qy (xx (zq (pv 0) rfl) (qr (pv 1) qj))) (vg (wu c_exchange (hr.mono (by decide)) rfl qy (xx (zq (pv 0) rfl) (qr (pv 2) qj))) qj))) qj)))),?_⟩
 refine exI rfl ⟨x,qq,dx,_,_,rfl,hx,T.clH,T.naHd,Wn,.inl ⟨rfl,_,SqL.of hh.d⟩,?_⟩
 refine exI rfl ⟨x,qq,dx,_,_,rfl,hx,T.clH,T.naHr,km,exI rfl ⟨dr,c1,R,cs1,rfl,aU n1r,hh.r,h1,nd1,lR,l1,ok1,λq1 H1 nq1 fq1 fr1 fc1 kb1=>?_⟩⟩
 have m1:∀b,b≠dr→b≠c1→b∉[dr,c1]:=λb a1 a2 z=>by
  rcases am.mp z with z|z
  ·exact a1 z
  ·exact a2 (aq.mp z)
 have hx1:=kb1 _ _ (m1 x xr x1) hx
 have hw1:=kb1 _ _ (m1 dw (aU hh.ne) (aU n1w)) hh.w
 have hd1:=kb1 _ _ (m1 dd dr' d1) hh.d
 have hc2:=kb1.rd (m1 c2 n2r (aU n12)) h2
 refine exI rfl ⟨x,qq,dx,_,_,rfl,hx1,T.clH,T.naHw,zx,exI rfl ⟨dw,c2,W,cs2,rfl,aU n2w,hw1,hc2,nd2,lW,l2,ok2,λq2 H2 nq2 fq2 fw2 fc2 kb2=>?_⟩⟩
 have m2:∀b,b≠dw→b≠c2→b∉[dw,c2]:=λb a1 a2 z=>by
  rcases am.mp z with z|z
  ·exact a1 z
  ·exact a2 (aq.mp z)
 have q1w:q1≠dw:=λz=>by rw [z,hh.w] at nq1;cases nq1
 have q1c:q1≠c2:=λz=>by rcases h2 with h2|⟨u,h2⟩ <;> (rw [z,h2] at nq1;cases nq1)
 have fq1':=kb2 _ _ (m2 q1 q1w q1c) fq1
 have q12:q1≠q2:=qg fq1 nq2
 have nq2':H q2=none:=by
  cases e:H q2 with
  |none=>rfl
  |some o =>
   by_cases z:q2=dr∨q2=c1
   ·rcases z with z|z
    ·rw [z,fr1] at nq2;cases nq2
    ·rcases fc1 with g|⟨u,g⟩ <;> (rw [z,g] at nq2;cases nq2)
   ·rw [kb1 _ _ (m1 q2 (λy=>z (.inl y)) (λy=>z (.inr y))) e] at nq2;cases nq2
 refine ⟨sz2,λtp ntp=>?_⟩
 have hx2:=kb2 _ _ (m2 x xw x2) hx1
 have hr2:=kb2 _ _ (m2 dr hh.ne (aU n2r)) fr1
 have hd2:=kb2 _ _ (m2 dd dw' d2) hd1
 have old:∀b o,b∉[dr,dw,dd,c1,c2]→H b=some o→H2 b=some o:=λb o nb e=>by
  simp only [am,ao,bv,not_or] at nb
  exact kb2 _ _ (m2 b nb.2.1 nb.2.2.2.2) (kb1 _ _ (m1 b nb.1 nb.2.2.2.1) e)
 have rd2:∀b,b=dr∨b=dw∨b=dd∨b=c1∨b=c2→H2 b≠none:=λb h z=>by
  rcases h with h|h|h|h|h
  ·rw [h,hr2] at z;cases z
  ·rw [h,fw2] at z;cases z
  ·rw [h,hd2] at z;cases z
  ·by_cases y:c1=dw
   ·exact n1w y
   ·rcases fc1 with g|⟨u,g⟩ <;> (rw [h,kb2 _ _ (m2 c1 n1w n12) g] at z;cases z)
  ·rcases fc2 with g|⟨u,g⟩ <;> (rw [h,g] at z;cases z)
 have ntp0:H tp=none:=by
  cases e:H tp with
  |none=>rfl
  |some o =>
   by_cases z:tp=dr∨tp=dw∨tp=dd∨tp=c1∨tp=c2
   ·exact absurd ntp (rd2 tp z)
   ·rw [old tp o (by simp only [am,ao,bv];exact z) e] at ntp;cases ntp
 have s3:Same H2 (upd H2 tp (.tup [.ref q1,.ref q2])):=Same.upd ntp
 have ft:upd H2 tp (.tup [.ref q1,.ref q2]) tp=some (.tup [.ref q1,.ref q2]):=qm
 generalize upd H2 tp (.tup [.ref q1,.ref q2])=H3 at s3 ft
 have hd3:=s3 _ _ hd2
 refine ⟨dd,D,_,rfl,rfl,hd3,by lia,?_⟩
 have ne3:∀b o,b≠dd→H3 b=some o→upd H3 dd (.lst (D++[.ref tp])) b=some o:=λb o nb e=>by rw [wz nb];exact e
 have kq:∀b kv,H3 b=some (.dK kv)→b≠dd:=λb kv e z=>by rw [z,hd3] at e;cases e
 have rd3:Rd (upd H3 dd (.lst (D++[.ref tp]))) c2 (.dK cs2):=by
  rcases fc2 with e|⟨u,e⟩
  ·exact .inl (ne3 _ _ (aU d2) (s3 _ _ e))
  ·exact .inr ⟨u,ne3 _ _ (aU d2) (s3 _ _ e)⟩
 refine k _ tp q1 q2 ntp0 nq1 nq2' ⟨⟨dx,ne3 _ _ (λz=>by rw [z] at hx;rw [hh.d] at hx;cases hx) (s3 _ _ hx2)⟩,ne3 _ _ (aU dr') (s3 _ _ hr2),ne3 _ _ (aU dw') (s3 _ _ fw2),qm,hh.ne⟩ (ne3 _ _ (λz=>by rw [z,hd3] at ft;cases ft) ft) (ne3 _ _ (kq _ _ (s3 _ _ fq1')) (s3 _ _ fq1')) (ne3 _ _ (kq _ _ (s3 _ _ fq2)) (s3 _ _ fq2)) q12 rd3 λb o nb e=>?_
 exact ne3 _ _ (λz=>nb (by simp [z])) (s3 _ _ (old b o nb e))
end
section
variable {P:Ac}{w:Ah}{K:Aa}{mg:Str→Option Ag}{base:Heap}{qf:Aj}{qh:Aj}{qw:Aj}{q8:Aj}{qd:Aj}{ww:Aj}{wx:Aj}{qt:Aj}{wv:Aj}{q9:Aj}{qb:Aj}{wb:Aj}{qz:Aj}{qc:Aj}{qx:Aj}{qq:Aj}
def Refs (D:List V):Prop:=∀v∈D,∃a,v=V.ref a
theorem Refs.add {D:List V}(h:Refs D)(a:Aj):Refs (D++[.ref a]):=λv hv=>by
 rcases aZ.mp hv with hv|hv
 ·exact h v hv
 ·exact ⟨a,aq.mp hv⟩
theorem RoadAt.kb {C CH:Aj}{H H':Hp}{r:Aj}{hs:List Int}(h:RoadAt C H r hs)(ok:xj hs){ch:List Aj}{D:List V}(k:Kb ch H H')(rf:Refs D)(hc:∀b∈ch,(∃kv,Rd H b (.dK kv))∨H b=some (.lst D)):RoadAt C H' r hs:=by
 obtain ⟨dx,q,h1,h2⟩:=h
 refine ⟨dx,q,k _ _ (λz=>?_) h1,k _ _ (λz=>?_) h2⟩
 ·rcases hc r z with ⟨kv,e|⟨o,e⟩⟩|e <;> (rw [h1] at e;cases e)
 ·rcases hc q z with ⟨kv,e|⟨o,e⟩⟩|e
  ·rw [h2] at e;cases e
  ·rw [h2] at e;cases e
  ·rw [h2] at e
   have e:hs.map V.int=D:=by cases e;rfl
   have l:=ok.1
   have m:V.int (hs[0]'(by lia))∈hs.map V.int:=aJ.mpr ⟨_,bS _,rfl⟩
   rw [e] at m
   obtain ⟨a,ea⟩:=rf _ m
   cases ea
theorem qu8 {H H3:Hp}{c1 c2:Aj}{o1 o2 o3:HO}(n1:H c1=none)(s3:Same (upd H c1 o1) H3)(n2:upd H3 c1 o2 c2=none):Same H (upd (upd H3 c1 o2) c2 o3):=λb o e=>by
 have b1:b≠c1:=qg e n1
 have e3:H3 b=some o:=s3 _ _ (by rw [wz b1];exact e)
 have e4:upd H3 c1 o2 b=some o:=by rw [wz b1];exact e3
 rw [wz (qg e4 n2)]
 exact e4
theorem Zt {C CR:Aj}{H H3:Hp}{x dr dw dd c1 r:Aj}{R W:List (Key×V)}{D:List V}{n:Str}{hs:List Int}{Q:VK}{E:XK}(hh:Hse C H x dr dw dd R W D)(n1:H c1=none)(s3:Same (upd H c1 (.dK [])) H3)(R3:RoadAt CR H3 r hs)(okl:xj hs)(rf:Refs D)(lR:R.length≤1000)(lW:W.length≤1000)(lD:D.length≤1000000)
  (k:∀H' tp q1 q2,H tp=none→H q1=none→H q2=none→Hse C H' x dr dw dd (zu R (.inr n) (.ref r)) W (D++[.ref tp])→H' tp=some (.tup [.ref q1,.ref q2])→H' q1=some (.dK [(.inr n,(w9 R (.inr n)).getD .non)])→H' q2=some (.dK [])→q1≠q2→RoadAt CR H' r hs→Kb [dr,dw,dd] H H'→Q .non H') :
  ∀c2,upd H3 c1 (.dK [(.inr n,.ref r)]) c2=none→Zk C [.ref x,.ref c1,.ref c2] (upd (upd H3 c1 (.dK [(.inr n,.ref r)])) c2 (.dK [])) Q E:=by
 intro c2 n2
 have s4:Same H (upd (upd H3 c1 (.dK [(.inr n,.ref r)])) c2 (.dK [])):=qu8 n1 s3 n2
 have c12:c1≠c2:=λz=>by rw [←z,qm] at n2;cases n2
 have e1:upd (upd H3 c1 (.dK [(.inr n,.ref r)])) c2 (.dK []) c1=some (.dK [(.inr n,.ref r)]):=by rw [wz c12,qm]
 have e2:upd (upd H3 c1 (.dK [(.inr n,.ref r)])) c2 (.dK []) c2=some (.dK []):=qm
 have h31:H3 c1=some (.dK []):=s3 _ _ qm
 have R4:RoadAt CR (upd (upd H3 c1 (.dK [(.inr n,.ref r)])) c2 (.dK [])) r hs:=by
  obtain ⟨dx,q,a1,a2⟩:=R3
  have keep:∀b o,(∀kv,o≠HO.dK kv)→H3 b=some o→upd (upd H3 c1 (.dK [(.inr n,.ref r)])) c2 (.dK []) b=some o:=λb o no e=>by
   have b1:b≠c1:=λz=>by rw [z,h31] at e;cases e;exact no _ rfl
   have e4:upd H3 c1 (.dK [(.inr n,.ref r)]) b=some o:=by rw [wz b1];exact e
   rw [wz (qg e4 n2)]
   exact e4
  exact ⟨dx,q,keep _ _ (λkv z=>by cases z) a1,keep _ _ (λkv z=>by cases z) a2⟩
 have n20:H c2=none:=by
  cases q:H c2 with
  |none=>rfl
  |some o =>
   have b1:c2≠c1:=aU c12
   rw [wz b1,s3 _ _ (show upd H c1 (.dK []) c2=some o by rw [wz b1];exact q)] at n2
   cases n2
 generalize upd (upd H3 c1 (.dK [(.inr n,.ref r)])) c2 (.dK [])=H4 at s4 e1 e2 R4
 have hh4:=hh.same s4
 refine ⟨x,dr,dw,dd,c1,c2,R,W,[(.inr n,.ref r)],[],D,rfl,hh4,.inl e1,.inl e2,c12,(qg hh.r n1).symm,(qg hh.w n1).symm,(qg hh.r n20).symm,(qg hh.w n20).symm,ba.mpr ⟨ao,br⟩,br,lR,lW,by show 1≤1000;decide,aE _,lD,λi c ec hc=>?_,(λi c ec hc=>nomatch ec),λH' tp q1 q2 a1 a2 a3 a4 a5 a6 a7 a8 _ a9=>?_⟩
 ·cases i with
  |zero=>cases ec;cases hc
  |succ i=>cases ec
 ·have no:∀b,H4 b=none→H b=none:=λb e=>xf s4 e
  have rd:RoadAt CR H' r hs:=R4.kb (CH:=C) okl a9 rf λb hb=>by
   simp only [am,ao,bv] at hb
   rcases hb with rfl|rfl|rfl|rfl|rfl
   ·exact .inl ⟨_,.inl hh4.r⟩
   ·exact .inl ⟨_,.inl hh4.w⟩
   ·exact .inr hh4.d
   ·exact .inl ⟨_,.inl e1⟩
   ·exact .inl ⟨_,.inl e2⟩
  refine k H' tp q1 q2 (no _ a1) (no _ a2) (no _ a3) a4 a5 a6 a7 a8 rd λb o nb e=>a9 b o (λz=>?_) (s4 _ _ e)
  simp only [am,ao,bv] at z nb
  rcases z with z|z|z|z|z
  ·exact nb (.inl z)
  ·exact nb (.inr (.inl z))
  ·exact nb (.inr (.inr z))
  ·rw [z,n1] at e;cases e
  ·rw [z,n20] at e;cases e
def RDeed (C CR:Aj)(H H':Hp)(x dr dw dd:Aj)(R W:List (Key×V))(D:List V)(n:Str)(hs:List Int):Prop:=∃r tp q1 q2,H tp=none∧H q1=none∧H q2=none∧Hse C H' x dr dw dd (zu R (.inr n) (.ref r)) W (D++[.ref tp])∧H' tp=some (.tup [.ref q1,.ref q2])∧H' q1=some (.dK [(.inr n,(w9 R (.inr n)).getD .non)])∧H' q2=some (.dK [])∧q1≠q2∧RoadAt CR H' r hs∧Kb [dr,dw,dd] H H'
theorem RDeed.pre {C CR:Aj}{H0 H H':Hp}{x dr dw dd:Aj}{R W:List (Key×V)}{D:List V}{n:Str}{hs:List Int}(h:RDeed C CR H H' x dr dw dd R W D n hs)(s:Same H0 H):RDeed C CR H0 H' x dr dw dd R W D n hs:=by
 obtain ⟨r,tp,q1,q2,a1,a2,a3,a4,a5,a6,a7,a8,a9,b1⟩:=h
 exact ⟨r,tp,q1,q2,xf s a1,xf s a2,xf s a3,a4,a5,a6,a7,a8,a9,λb o nb e=>b1 b o nb (s _ _ e)⟩
def wqx (K:Aa)(C CR CN CT CL:Aj):Sp:=λvs H Q E=>∃(x dr dw dd p:Aj) (R W:List (Key×V)) (D:List V) (n:Str) (hs:List Int),vs=[.ref x,.str n,.ref p]∧Hse C H x dr dw dd R W D∧Refs D∧R.length≤1000∧W.length≤1000∧D.length≤1000000∧n.length≤1000∧H p=some (.lst (hs.map V.int)) ∧
 (ku n=true→w9 R (.inr n)=none→xj hs→∀H',RDeed C CR H H' x dr dw dd R W D n hs→Q .non H')∧(ku n=false→∀H',Same H H'→E (.ref CN) none H')∧(ku n=true→(w9 R (.inr n)).isSome=true→∀H',Same H H'→E (.ref CT) none H')∧(ku n=true→w9 R (.inr n)=none→¬ xj hs→∀H',Same H H'→E (.ref CL) none H')
theorem ok_lay {f:Aj}{fd:Ad}(F:Fun K "lay" "House.lay" s_House_lay f fd)(T:Txt K mg qf qh qw q8 qd ww wx qt wv q9 qb wb qz qc qx qq)(c_check_new_name:Cal P w K mg base "check_new_name" 2 (uk qt wv))(c_Road:CCal P w K mg base "Road" qc 2 (uh K qh qc))(c_do:MCal P w K mg base qq "do" 2 (Zk qq)) :
  FnOk P w K mg base (CXE P w) 4 f fd ["self","name","heights"] (wqx K qq qc qt wv qh):=by
 have sc:=qxz
 refine F.okX sc (λvs H Q E h=>by obtain ⟨x,dr,dw,dd,p,R,W,D,n,hs,rfl,_⟩:=h;rfl) (λcdv A outer s H vs Q E hr h=>?_)
 obtain ⟨x,dr,dw,dd,p,R,W,D,n,hs,rfl,hh,rf,lR,lW,lD,ln,hp,k,kn,kt,kl⟩:=h
 obtain ⟨dx,hx⟩:=hh.ob
 refine ⟨_,(qk (xg (wu c_check_new_name (hr.mono (by decide)) rfl qy (qr (pv 1) (xx (zq (pv 0) rfl) qj))))
   (wq (xg (xz (pv 0) T.clH c_do (hr.mono (by decide)) qy (xx (ux (jp (pv 1) (j7 c_Road (hr.mono (by decide)) rfl qy (qr (pv 2) qj)) y8) rfl rfl (λz=>nomatch z) (by decide)) (xx vd qj)))))),?_⟩
 refine ⟨_,rfl,_,rfl,x,qq,dx,_,_,rfl,hx,T.clH,T.naHr,km,n,dr,R,rfl,ln,hh.r,λa1 a2 H1 s1=>?_,kn,kt⟩
 have hh1:=hh.same s1
 refine exI rfl ⟨x,dx,exI rfl ⟨s1 _ _ hx,xb (by decide +kernel) (by decide +kernel) (by decide +kernel),λc1 n1=>(exI rfl (exI rfl (λr d0 nr nd0 ne0=>Z2 (H:=upd H1 c1 (.dK [])) (hs:=hs) (by rw [wz (qg (s1 _ _ hp) n1)];exact s1 _ _ hp) nr nd0 (λokl H3 s3 R3=>?_) λz H3 s3=>kl a1 a2 z H3 (s1.trans (λb o e=>s3 _ _ (by rw [wz (qg e n1)];exact e))))))⟩⟩
 refine ⟨s3 _ _ qm,[(.inr n,.ref r)],rfl,(show 1≤15 by decide),?_⟩
 exact Zt (E:=E) hh1 n1 s3 R3 okl rf lR lW lD λH' tp q1 q2 b1 b2 b3 b4 b5 b6 b7 b8 b9 kb=>k a1 a2 okl H' (RDeed.pre ⟨r,tp,q1,q2,b1,b2,b3,b4,b5,b6,b7,b8,b9,kb⟩ s1)
def qx0 (C CN:Aj):Sp:=λvs H Q E=>∃(x dr dw dd:Aj) (R W:List (Key×V)) (D:List V),vs=[.ref x]∧Hse C H x dr dw dd R W D∧R.length≤1000∧W.length≤1000∧(D=[]→E (.ref CN) none H) ∧
 (∀D' v,D=D'++[v]→∃tp c1 c2 cs1 cs2,v=.ref tp∧H tp=some (.tup [.ref c1,.ref c2])∧Rd H c1 (.dK cs1)∧Rd H c2 (.dK cs2)∧c1≠c2∧c1≠dr∧c1≠dw∧c2≠dr∧c2≠dw∧(cs1.map (·.1)).Nodup∧(cs2.map (·.1)).Nodup∧cs1.length≤1000∧cs2.length≤1000∧qx3 R cs1∧qx3 W cs2 ∧
  ∀H',Hse C H' x dr dw dd (exK R cs1) (exK W cs2) D'→Rd H' c1 (.dK cs1)→Rd H' c2 (.dK cs2)→Kb [dr,dw,dd,c1,c2] H H'→Q .non H')
theorem wzv {f:Aj}{fd:Ad}(F:Fun K "take_back" "House.take_back" s_House_take_back f fd)(T:Txt K mg qf qh qw q8 qd ww wx qt wv q9 qb wb qz qc qx qq)(c_exchange:Cal P w K mg base "exchange" 1 qw1):FnOk P w K mg base (CXE P w) 2 f fd ["self"] (qx0 qq qz):=by
 have sc:=Qw
 refine F.okX sc (λvs H Q E h=>by obtain ⟨x,dr,dw,dd,R,W,D,rfl,_⟩:=h;rfl) (λcdv A outer s H vs Q E hr h=>?_)
 obtain ⟨x,dr,dw,dd,R,W,D,rfl,hh,lR,lW,kx,k⟩:=h
 obtain ⟨dx,hx⟩:=hh.ob
 refine ⟨_,(qk (xh (wg zg (wp w8 rfl T.len_ aF (xx (zq (pv 0) rfl) qj)) qu (wm _)) (wq (zc rfl T.x_NothingDone x8 rfl T.g_NothingDone (w6 xn qj))) w4)
   (qk (ju (pe_bm0 bK PySem.F.slot_list_pop PySem.F.type_list_pop mt_pop (zq (pv 0) rfl)) (v4 rfl (xk (xv (i:=1) sc.nd rfl (by walk_at "loc")) (xk (xv (i:=2) sc.nd rfl (by walk_at "loc")) zn))))
   (qk (xg (wu c_exchange (hr.mono (by decide)) rfl qy (xx (zq (pv 0) rfl) (qr (pv 1) qj))))
   (wq (xg (wu c_exchange (hr.mono (by decide)) rfl qy (xx (zq (pv 0) rfl) (qr (pv 2) qj)))))))),?_⟩
 refine exI rfl ⟨x,qq,dx,_,_,rfl,hx,T.clH,T.naHd,Wn,dd,exI rfl ⟨.inl (SqL.of hh.d),rfl,_,rfl,zt (λz=>?_) (λz=>?_)⟩⟩
 ·exact ⟨sz1,kx (dC (by lia))⟩
 ·have ne:D≠[]:=λy=>z (by rw [y];rfl)
  have eD:D=D.dropLast++[D.getLast ne]:=(List.dropLast_concat_getLast ne).symm
  obtain ⟨tp,c1,c2,cs1,cs2,ev,ht,h1,h2,n12,n1r,n1w,n2r,n2w,nd1,nd2,l1,l2,ok1,ok2,k⟩:=k _ _ eD
  have eL:D[D.length-1]?=some (.ref tp):=by rw [←List.getLast?_eq_getElem?,List.getLast?_eq_getLast ne,ev]
  refine exI rfl ⟨x,qq,dx,_,_,rfl,hx,T.clH,T.naHd,Wn,.inl ⟨rfl,_,SqL.of hh.d⟩,dd,D,exI rfl ⟨rfl,hh.d,eL,?_⟩⟩
  have k0:∀b o,b≠dd→H b=some o→upd H dd (.lst D.dropLast) b=some o:=λb o nb e=>by rw [wz nb];exact e
  have d0:upd H dd (.lst D.dropLast) dd=some (.lst D.dropLast):=qm
  have kd:∀b kv,Rd H b (.dK kv)→b≠dd:=λb kv hb y=>by rcases hb with hb|⟨o,hb⟩ <;> (rw [y,hh.d] at hb;cases hb)
  have kx':x≠dd:=λy=>by rw [y,hh.d] at hx;cases hx
  have kt:tp≠dd:=λy=>by rw [y,hh.d] at ht;cases ht
  have rd0:∀b kv,Rd H b (.dK kv)→Rd (upd H dd (.lst D.dropLast)) b (.dK kv):=λb kv hb=>by
   have nb:=kd b kv hb
   rcases hb with hb|⟨o,hb⟩
   ·exact .inl (k0 _ _ nb hb)
   ·exact .inr ⟨o,k0 _ _ nb hb⟩
  have r0:=k0 _ _ (kd _ _ (.inl hh.r)) hh.r
  have w0:=k0 _ _ (kd _ _ (.inl hh.w)) hh.w
  have x0:=k0 _ _ kx' hx
  have t0:=k0 _ _ kt ht
  have h10:=rd0 _ _ h1
  have h20:=rd0 _ _ h2
  have kb0:Kb [dd] H (upd H dd (.lst D.dropLast)):=λb o nb e=>k0 b o (λy=>nb (by simp [y])) e
  have dd1:=kd _ _ h1
  have dd2:=kd _ _ h2
  have ddr:=kd _ _ (.inl hh.r)
  have ddw:=kd _ _ (.inl hh.w)
  generalize upd H dd (.lst D.dropLast)=H0 at d0 r0 w0 x0 t0 h10 h20 kb0
  refine ⟨tp,exI rfl ⟨SqT.of t0,rfl,_,_,rfl,_,_,rfl,rfl,?_⟩⟩
  have isI:∀ {b o},Rd H0 b (.dK o)→x≠b:=λ{b o} hb y=>by rcases hb with hb|⟨u,hb⟩ <;> (rw [←y,x0] at hb;cases hb)
  have xr:=isI (.inl r0)
  have xw:=isI (.inl w0)
  have x1:=isI h10
  have x2:=isI h20
  have m1:∀b,b≠dr→b≠c1→b∉[dr,c1]:=λb a1 a2 y=>by
   rcases am.mp y with y|y
   ·exact a1 y
   ·exact a2 (aq.mp y)
  have m2:∀b,b≠dw→b≠c2→b∉[dw,c2]:=λb a1 a2 y=>by
   rcases am.mp y with y|y
   ·exact a1 y
   ·exact a2 (aq.mp y)
  refine exI rfl ⟨x,qq,dx,_,_,rfl,x0,T.clH,T.naHr,km,exI rfl ⟨dr,c1,R,cs1,rfl,aU n1r,r0,h10,nd1,lR,l1,ok1,λq1 H1 nq1 fq1 fr1 fc1 kb1=>?_⟩⟩
  have hx1:=kb1 _ _ (m1 x xr x1) x0
  have hw1:=kb1 _ _ (m1 dw (aU hh.ne) (aU n1w)) w0
  have hd1:=kb1 _ _ (m1 dd (aU ddr) (aU dd1)) d0
  have hc2:=kb1.rd (m1 c2 n2r (aU n12)) h20
  refine exI rfl ⟨x,qq,dx,_,_,rfl,hx1,T.clH,T.naHw,zx,exI rfl ⟨dw,c2,W,cs2,rfl,aU n2w,hw1,hc2,nd2,lW,l2,ok2,λq2 H2 nq2 fq2 fw2 fc2 kb2=>?_⟩⟩
  refine k H2 ⟨⟨dx,kb2 _ _ (m2 x xw x2) hx1⟩,kb2 _ _ (m2 dr hh.ne (aU n2r)) fr1,fw2,kb2 _ _ (m2 dd (aU ddw) (aU dd2)) hd1,hh.ne⟩ (kb2.rd (m2 c1 n1w n12) fc1) fc2 λb o nb e=>?_
  simp only [am,ao,bv,not_or] at nb
  exact kb2 _ _ (m2 b nb.2.1 nb.2.2.2.2) (kb1 _ _ (m1 b nb.1 nb.2.2.2.1) (kb0 b o (by simpa using nb.2.2.1) e))
end
section
variable {P:Ac}{w:Ah}{K:Aa}{mg:Str→Option Ag}{base:Heap}{qf:Aj}{qh:Aj}{qw:Aj}{q8:Aj}{qd:Aj}{ww:Aj}{wx:Aj}{qt:Aj}{wv:Aj}{q9:Aj}{qb:Aj}{wb:Aj}{qz:Aj}{qc:Aj}{qx:Aj}{qq:Aj}
theorem qw3 (hs:List Int)(j:Nat)(h:Int):(hs.map V.int).set j (.int h)=(hs.set j h).map V.int:=by rw [List.map_set]
theorem ix_of {n:Nat}{c:Int}(h0:0≤c)(h1:c<n):ixN n c=some c.toNat:=by
 unfold ixN
 rw [al h0,al h1]
def qjw (C CR CN CL:Aj):Sp:=λvs H Q E=>∃(x dr dw dd:Aj) (R W:List (Key×V)) (D:List V) (n:Str) (c h:Int),vs=[.ref x,.str n,.int c,.int h]∧Hse C H x dr dw dd R W D∧Refs D∧R.length≤1000∧W.length≤1000∧D.length≤1000000∧(w9 R (.inr n)=none→E (.ref CN) none H) ∧
 (∀v,w9 R (.inr n)=some v→∃r hs,v=.ref r∧RoadAt CR H r hs∧xj hs∧(¬ (0≤c∧c<(hs.length:Int))→∀H',Same H H'→E (.ref CL) none H')∧(0≤c→c<(hs.length:Int)→(xj (hs.set c.toNat h)→∀H',RDeed C CR H H' x dr dw dd R W D n (hs.set c.toNat h)→Q .non H')∧(¬ xj (hs.set c.toNat h)→∀H',Same H H'→E (.ref CL) none H')))
theorem wzs {f:Aj}{fd:Ad}(F:Fun K "bend" "House.bend" s_House_bend f fd)(T:Txt K mg qf qh qw q8 qd ww wx qt wv q9 qb wb qz qc qx qq)(c_road_called:MCal P w K mg base qq "road_called" 1 (zr qq q9 true))(c_corners:MCal P w K mg base qc "corners" 1 (jt qc))(c_Road:CCal P w K mg base "Road" qc 2 (uh K qh qc))(c_do:MCal P w K mg base qq "do" 2 (Zk qq)) :
  FnOk P w K mg base (CXE P w) 4 f fd ["self","name","corner","height"] (qjw qq qc q9 qh):=by
 have sc:=Jt
 refine F.okX sc (λvs H Q E h=>by obtain ⟨x,dr,dw,dd,R,W,D,n,c,h,rfl,_⟩:=h;rfl) (λcdv A outer s H vs Q E hr h=>?_)
 obtain ⟨x,dr,dw,dd,R,W,D,n,c,h,rfl,hh,rf,lR,lW,lD,kx,k⟩:=h
 obtain ⟨dx,hx⟩:=hh.ob
 refine ⟨_,(qk (wn (i:=4) sc.nd rfl (by walk_at "loc") (vf (xz (pv 0) T.clH c_road_called (hr.mono (by decide)) qy (qr (pv 1) qj)) T.cl c_corners (hr.mono (by decide)) qy))
   (qk (xh (PW.pt (Wt (wg jw (pv 2) qu (wm _)) (ym (wg qzp (pv 2) (wp w8 rfl T.len_ aF (qr (pv 4) qj)) (wm _))))) (wq (zc rfl T.x_BadLine x8 rfl T.g_BadLine (w6 xn qj))) w4)
   (qk (ju (pv 3) (pg_sub (pv 4) (pv 2) ww1))
   (wq (xg (xz (pv 0) T.clH c_do (hr.mono (by decide)) qy (xx (ux (jp (pv 1) (j7 c_Road (hr.mono (by decide)) rfl qy (qr (pv 4) qj)) y8) rfl rfl (λz=>nomatch z) (by decide)) (xx vd qj)))))))),?_⟩
 refine ⟨_,rfl,x,dx,_,rfl,hx,xb (by decide +kernel) (by decide +kernel) (by decide +kernel),_,rfl,x,dr,dw,dd,R,W,D,n,rfl,hh,λv e=>?_,kx⟩
 obtain ⟨r0,hs,rfl,hR,okl,kb,k⟩:=k v e
 obtain ⟨dy,l,h1,h2⟩:=id hR
 refine ⟨r0,dy,exI rfl ⟨h1,zy (by decide +kernel),r0,hs,rfl,hR,λp np=>?_⟩⟩
 have s1:Same H (upd H p (.lst (hs.map V.int))):=Same.upd np
 have f1:upd H p (.lst (hs.map V.int)) p=some (.lst (hs.map V.int)):=qm
 have lm:(hs.map V.int).length=hs.length:=ae _
 refine exI rfl (wc rfl rfl (exI rfl (zp (λz=>j3 ⟨sz1,kb (by lia) _ s1⟩) (λz=>?_))))
 refine exI rfl (exI rfl ⟨_,_,rfl,.inl (SqL.of f1),wc rfl rfl (exI rfl ?_)⟩)
 rw [lm]
 refine zp (λy=>⟨sz1,kb (by lia) _ s1⟩) (λy=>?_)
 obtain ⟨kg,kl⟩:=k (by lia) (by lia)
 refine exI rfl (exI rfl (exI rfl ⟨p,_,c,c.toNat,rfl,rfl,f1,ix_of (by lia) (by rw [lm];lia),?_⟩))
 rw [qw3]
 have s2:Same H (upd (upd H p (.lst (hs.map V.int))) p (.lst ((hs.set c.toNat h).map V.int))):=by
  rw [yk]
  exact Same.upd np
 have f2:upd (upd H p (.lst (hs.map V.int))) p (.lst ((hs.set c.toNat h).map V.int)) p=some (.lst ((hs.set c.toNat h).map V.int)):=qm
 generalize upd (upd H p (.lst (hs.map V.int))) p (.lst ((hs.set c.toNat h).map V.int))=H2 at s2 f2
 refine exI rfl ⟨x,dx,exI rfl ⟨s2 _ _ hx,xb (by decide +kernel) (by decide +kernel) (by decide +kernel),λc1 n1=>(exI rfl (exI rfl (λr d0 nr nd0 ne0=>Z2 (H:=upd H2 c1 (.dK [])) (hs:=hs.set c.toNat h) (by rw [wz (qg f2 n1)];exact f2) nr nd0 (λokl' H3 s3 R3=>?_) λz H3 s3=>kl z H3 (s2.trans (λb o e=>s3 _ _ (by rw [wz (qg e n1)];exact e))))))⟩⟩
 refine ⟨s3 _ _ qm,[(.inr n,.ref r)],rfl,(show 1≤15 by decide),?_⟩
 exact Zt (E:=E) (hh.same s2) n1 s3 R3 okl' rf lR lW lD λH' tp q1 q2 b1 b2 b3 b4 b5 b6 b7 b8 b9 kb=>kg okl' H' (RDeed.pre ⟨r,tp,q1,q2,b1,b2,b3,b4,b5,b6,b7,b8,b9,kb⟩ s2)
def qw5 (C CR CN CL:Aj):Sp:=λvs H Q E=>∃(x dr dw dd:Aj) (R W:List (Key×V)) (D:List V) (n:Str) (h:Int),vs=[.ref x,.str n,.int h]∧Hse C H x dr dw dd R W D∧Refs D∧R.length≤1000∧W.length≤1000∧D.length≤1000000∧(w9 R (.inr n)=none→E (.ref CN) none H) ∧
 (∀v,w9 R (.inr n)=some v→∃r hs,v=.ref r∧RoadAt CR H r hs∧xj hs∧(xj (hs++[h])→∀H',RDeed C CR H H' x dr dw dd R W D n (hs++[h])→Q .non H')∧(¬ xj (hs++[h])→∀H',Same H H'→E (.ref CL) none H'))
theorem wqj {f:Aj}{fd:Ad}(F:Fun K "widen" "House.widen" s_House_widen f fd)(T:Txt K mg qf qh qw q8 qd ww wx qt wv q9 qb wb qz qc qx qq)(c_road_called:MCal P w K mg base qq "road_called" 1 (zr qq q9 true))(c_corners:MCal P w K mg base qc "corners" 1 (jt qc))(c_Road:CCal P w K mg base "Road" qc 2 (uh K qh qc))(c_do:MCal P w K mg base qq "do" 2 (Zk qq)) :
  FnOk P w K mg base (CXE P w) 4 f fd ["self","name","height"] (qw5 qq qc q9 qh):=by
 have sc:=Yy
 refine F.okX sc (λvs H Q E h=>by obtain ⟨x,dr,dw,dd,R,W,D,n,h,rfl,_⟩:=h;rfl) (λcdv A outer s H vs Q E hr h=>?_)
 obtain ⟨x,dr,dw,dd,R,W,D,n,h,rfl,hh,rf,lR,lW,lD,kx,k⟩:=h
 obtain ⟨dx,hx⟩:=hh.ob
 have big:(1000000:Nat)<sizeLine:=by decide
 refine ⟨_,(qk (wn (i:=3) sc.nd rfl (by walk_at "loc") (vf (xz (pv 0) T.clH c_road_called (hr.mono (by decide)) qy (qr (pv 1) qj)) T.cl c_corners (hr.mono (by decide)) qy))
   (wq (xg (xz (pv 0) T.clH c_do (hr.mono (by decide)) qy (xx (ux (jp (pv 1) (j7 c_Road (hr.mono (by decide)) rfl qy (x4 (wy qwr (pv 3) (um (qr (pv 2) qj))) qj)) y8) rfl rfl (λz=>nomatch z) (by decide)) (xx vd qj)))))),?_⟩
 refine ⟨_,rfl,x,dx,_,rfl,hx,xb (by decide +kernel) (by decide +kernel) (by decide +kernel),_,rfl,x,dr,dw,dd,R,W,D,n,rfl,hh,λv e=>?_,kx⟩
 obtain ⟨r0,hs,rfl,hR,okl,kg,kl⟩:=k v e
 obtain ⟨dy,l,h1,h2⟩:=id hR
 have ol:=okl.2.1
 refine ⟨r0,dy,exI rfl ⟨h1,zy (by decide +kernel),r0,hs,rfl,hR,λp np=>?_⟩⟩
 have s1:Same H (upd H p (.lst (hs.map V.int))):=Same.upd np
 have f1:upd H p (.lst (hs.map V.int)) p=some (.lst (hs.map V.int)):=qm
 generalize upd H p (.lst (hs.map V.int))=H1 at s1 f1
 refine exI rfl ⟨x,dx,exI rfl ⟨s1 _ _ hx,xb (by decide +kernel) (by decide +kernel) (by decide +kernel),λc1 n1=>(exI rfl (exI rfl (exI rfl ⟨sz1,λp2 n2=>?_⟩)))⟩⟩
 have sa:Same (upd H1 c1 (.dK [])) (upd (upd H1 c1 (.dK [])) p2 (.lst [.int h])):=Same.upd n2
 have fa:=sa _ _ (show upd H1 c1 (.dK []) p=some (.lst (hs.map V.int)) by rw [wz (qg f1 n1)];exact f1)
 refine ⟨p,p2,_,_,rfl,rfl,fa,qm,by rw [ae];show hs.length+1≤_;lia,λp3 n3=>?_⟩
 have sb:=sa.trans (Same.upd (o:=.lst (hs.map V.int++[.int h])) n3)
 have fb:upd (upd (upd H1 c1 (.dK [])) p2 (.lst [.int h])) p3 (.lst (hs.map V.int++[.int h])) p3=some (.lst ((hs++[h]).map V.int)):=by rw [qm,aP];rfl
 generalize upd (upd (upd H1 c1 (.dK [])) p2 (.lst [.int h])) p3 (.lst (hs.map V.int++[.int h]))=H2 at sb fb
 have s12:Same H1 H2:=λb o e=>sb _ _ (by rw [wz (qg e n1)];exact e)
 refine λr d0 nr nd0 ne0=>Z2 (H:=H2) (hs:=hs++[h]) fb nr nd0 (λokl' H3 s3 R3=>?_) λz H3 s3=>kl z H3 ((s1.trans s12).trans s3)
 refine ⟨s3 _ _ (sb _ _ qm),[(.inr n,.ref r)],rfl,(show 1≤15 by decide),?_⟩
 exact Zt (E:=E) (hh.same s1) n1 (sb.trans s3) R3 okl' rf lR lW lD λH' tp q1 q2 b1 b2 b3 b4 b5 b6 b7 b8 b9 kb=>kg okl' H' (RDeed.pre ⟨r,tp,q1,q2,b1,b2,b3,b4,b5,b6,b7,b8,b9,kb⟩ s1)
def wF (n:Str)(p t:Aj):List (Str×V):=[("whose",.str n),("point",.ref p),("times",.ref t)]
theorem ur {n:Str}{p t:Aj}:(wF n p t).lookup ("whose" : Str)=some (.str n):=by unfold wF;rw [aC];simp
theorem j9 {n:Str}{p t:Aj}:(wF n p t).lookup ("point" : Str)=some (.ref p):=by
 unfold wF
 rw [aC,show (("point" : Str)==("whose" : Str))=false by decide +kernel]
 dsimp only
 rw [aC]
 simp
theorem Z7 {n:Str}{p t:Aj}:(wF n p t).lookup ("times" : Str)=some (.ref t):=by
 unfold wF
 rw [aC,show (("times" : Str)==("whose" : Str))=false by decide +kernel]
 dsimp only
 rw [aC,show (("times" : Str)==("point" : Str))=false by decide +kernel]
 dsimp only
 rw [aC]
 simp
theorem qzm {n:Str}{p t:Aj}{m:Str}(h1:¬ m = "whose")(h2:¬ m = "point")(h3:¬ m = "times"):(wF n p t).lookup m=none:=by
 unfold wF
 rw [aC,aK.mpr h1]
 dsimp only
 rw [aC,aK.mpr h2]
 dsimp only
 rw [aC,aK.mpr h3]
 rfl
structure WkAt (C:Aj)(H:Hp)(y:Aj)(n:Str)(p:Aj)(pt:Int×Int)(t:Aj)(tv:List (List Key×V)):Prop where
 ob:∃dx,H y=some (.ins C dx (wF n p t))
 pt:H p=some (.tup [.int pt.1,.int pt.2])
 tm:H t=some (.dT tv)
theorem WkAt.kb {C:Aj}{H H':Hp}{y:Aj}{n:Str}{p:Aj}{pt:Int×Int}{t:Aj}{tv:List (List Key×V)}(h:WkAt C H y n p pt t tv){ch:List Aj}(k:Kb ch H H')(hc:∀b∈ch,(∃kv,Rd H b (.dK kv))∨∃D,H b=some (.lst D)):WkAt C H' y n p pt t tv:=by
 have no:∀b o,(∀kv,o≠HO.dK kv)→(∀u kv,o≠HO.frz u (.dK kv))→(∀D,o≠HO.lst D)→H b=some o→H' b=some o:=λb o a1 a2 a3 e=>k _ _ (λz=>by
  rcases hc b z with ⟨kv,q|⟨u,q⟩⟩|⟨D,q⟩
  ·rw [e] at q;cases q;exact a1 _ rfl
  ·rw [e] at q;cases q;exact a2 _ _ rfl
  ·rw [e] at q;cases q;exact a3 _ rfl) e
 obtain ⟨dx,e⟩:=h.ob
 exact ⟨⟨dx,no _ _ (λ_ z=>by cases z) (λ_ _ z=>by cases z) (λ_ z=>by cases z) e⟩,no _ _ (λ_ z=>by cases z) (λ_ _ z=>by cases z) (λ_ z=>by cases z) h.pt,no _ _ (λ_ z=>by cases z) (λ_ _ z=>by cases z) (λ_ z=>by cases z) h.tm⟩
theorem WkAt.same {C:Aj}{H H':Hp}{y:Aj}{n:Str}{p:Aj}{pt:Int×Int}{t:Aj}{tv:List (List Key×V)}(h:WkAt C H y n p pt t tv)(s:Same H H'):WkAt C H' y n p pt t tv:=h.kb (ch:=[]) (Kb.of s) λb z=>nomatch z
def TmOk (tv:List (List Key×V)):Prop:=tv≠[]∧(tv.map (·.1)).Nodup∧∀q∈tv,∃a b c:Int,q=([.inl a,.inl b],.int c)∧0≤a∧a≤960∧1≤b∧b≤40
theorem TmOk.hash {P:Ac}{w:Ah}{tv:List (List Key×V)}(h:TmOk tv):(tv.map λp=>uf P w p.1).Nodup:=by
 obtain ⟨_,nd,all⟩:=h
 have e:(tv.map λp=>uf P w p.1)=(tv.map (·.1)).map (uf P w):=by rw [bP];rfl
 rw [e]
 refine bJ.mpr (bD (λ{x y} hx hy hne z=>hne ?_) nd)
 obtain ⟨p,hp,rfl⟩:=aJ.mp hx
 obtain ⟨q,hq,rfl⟩:=aJ.mp hy
 obtain ⟨a,b,c,rfl,a0,a1,b0,b1⟩:=all p hp
 obtain ⟨a',b',c',rfl,a0',a1',b0',b1'⟩:=all q hq
 obtain ⟨e1,e2⟩:=wqf a0 a1 b0 b1 a0' a1' b0' b1' z
 show ([.inl a,.inl b]:List Key)=[.inl a',.inl b']
 rw [e1,e2]
theorem TmOk.len {tv:List (List Key×V)}(h:TmOk tv):tv.length≤40000:=by
 obtain ⟨_,nd,all⟩:=h
 let g:List Key→Nat:=λk=>match k with|[.inl a,.inl b]=>a.toNat*41+b.toNat|_=>0
 have m:∀x∈tv.map (·.1),∃a b:Int,x=[.inl a,.inl b]∧0≤a∧a≤960∧1≤b∧b≤40:=λx hx=>by
  obtain ⟨p,hp,rfl⟩:=aJ.mp hx
  obtain ⟨a,b,c,rfl,r⟩:=all p hp
  exact ⟨a,b,rfl,r⟩
 have nd2:((tv.map (·.1)).map g).Nodup:=by
  refine bJ.mpr (bD (λ{x y} hx hy hne z=>hne ?_) nd)
  obtain ⟨a,b,rfl,a0,a1,b0,b1⟩:=m x hx
  obtain ⟨a',b',rfl,a0',a1',b0',b1'⟩:=m y hy
  have z:a.toNat*41+b.toNat=a'.toNat*41+b'.toNat:=z
  have e1:a=a':=by lia
  have e2:b=b':=by lia
  rw [e1,e2]
 have:=L2.qxv ((tv.map (·.1)).map g) (List.range 39401) nd2 λv hv=>?_
 ·rw [ae,ae,aH] at this
  lia
 ·obtain ⟨x,hx,rfl⟩:=aJ.mp hv
  obtain ⟨a,b,rfl,a0,a1,b0,b1⟩:=m x hx
  refine aN.mpr ?_
  show a.toNat*41+b.toNat<39401
  lia
theorem TmOk.one {a b:Int}(a0:0≤a)(a1:a≤960)(b0:1≤b)(b1:b≤40):TmOk [([.inl a,.inl b],.int 1)]:=⟨λz=>(nomatch z),ba.mpr ⟨ao,br⟩,λq hq=>⟨a,b,1,aq.mp hq,a0,a1,b0,b1⟩⟩
theorem TmOk.put {tv:List (List Key×V)}(h:TmOk tv){a b c:Int}(a0:0≤a)(a1:a≤960)(b0:1≤b)(b1:b≤40):TmOk (zu tv [.inl a,.inl b] (.int c)):=by
 obtain ⟨ne,nd,all⟩:=h
 unfold zu
 split
 ·refine ⟨λz=>ne (List.map_eq_nil_iff.mp z),?_,λq hq=>?_⟩
  ·have:(tv.map λkv=>if kv.1=[Sum.inl a,Sum.inl b] then (kv.1,V.int c) else kv).map (·.1)=tv.map (·.1):=by
    rw [bP]
    refine cw λx _=>?_
    show (if x.1=[Sum.inl a,Sum.inl b] then (x.1,V.int c) else x).1=x.1
    split <;> rfl
   rw [this]
   exact nd
  ·obtain ⟨x,hx,rfl⟩:=aJ.mp hq
   obtain ⟨a',b',c',rfl,r⟩:=all x hx
   show ∃a_1 b_1 c_1:Int,(if ([Sum.inl a',Sum.inl b']:List Key)=[Sum.inl a,Sum.inl b] then (([Sum.inl a',Sum.inl b']:List Key),V.int c) else ([Sum.inl a',Sum.inl b'],V.int c'))=([.inl a_1,.inl b_1],.int c_1)∧_
   split
   ·exact ⟨a',b',c,rfl,r⟩
   ·exact ⟨a',b',c',rfl,r⟩
 ·rename_i hn
  refine ⟨cY _ (List.cons_ne_nil _ _),?_,λq hq=>?_⟩
  ·rw [aP,List.nodup_append]
   refine ⟨nd,ba.mpr ⟨ao,br⟩,λx hx y hy z=>hn ?_⟩
   obtain ⟨p,hp,rfl⟩:=aJ.mp hx
   have hy:y=[Sum.inl a,Sum.inl b]:=aq.mp hy
   exact cN.mpr ⟨p,hp,bd (z.trans hy)⟩
  ·rcases aZ.mp hq with hq|hq
   ·exact all q hq
   ·exact ⟨a,b,c,aq.mp hq,a0,a1,b0,b1⟩
end
section
variable {P:Ac}{w:Ah}{K:Aa}{mg:Str→Option Ag}{base:Heap}{qf:Aj}{qh:Aj}{qw:Aj}{q8:Aj}{qd:Aj}{ww:Aj}{wx:Aj}{qt:Aj}{wv:Aj}{q9:Aj}{qb:Aj}{wb:Aj}{qz:Aj}{qc:Aj}{qx:Aj}{qq:Aj}
def stN (n u m f:Nat):Nat:=if m<f then 0 else (if f<u then 1 else (m-f)/(n-u)+1)-(if f=0 then 1 else 0)
theorem qzq {m:Int}{t L:Nat}(h:(t:Int)≤m):(m-t)/(L:Int)=(((m.toNat-t)/L:Nat):Int):=by
 rw [show m-(t:Int)=((m.toNat-t:Nat):Int) by lia]
 push_cast
 rfl
def wxj:Sp:=λvs H Q _=>∃(f u n:Nat) (m:Int),vs=[.int f,.int u,.int n,.int m]∧f<n∧u<n∧n≤1000∧0≤m∧Q (.int (stN n u m.toNat f)) H
theorem ok_led {f:Aj}{fd:Ad}(F:Fun K "led_to" "led_to" s_led_to f fd)(T:Txt K mg qf qh qw q8 qd ww wx qt wv q9 qb wb qz qc qx qq):FnOk P w K mg base (CXE P w) 1 f fd ["place","turn","size","many"] wxj:=by
 have sc:=qu2
 refine F.okX sc (λvs H Q E h=>by obtain ⟨f,u,n,m,rfl,_⟩:=h;rfl) (λcdv A outer s H vs Q E hr h=>?_)
 obtain ⟨f,u,n,m,rfl,hf,u1,n1,m0,k⟩:=h
 refine ⟨_,(qk (xh (wg yu (pv 0) (pv 3) (wm _)) (wq (wr qu)) w4)
   (qk (wn (i:=4) sc.nd rfl (by walk_at "loc") (qvr (wg jw (pv 0) (pv 1) (wm _)) qu (wy xq (wy vc (wy zj (pv 3) (pv 0)) (wy zj (pv 2) (pv 1))) qu)))
   (wq (wr (qvr (wg zg (pv 0) qu (wm _)) (wy zj (pv 4) qu) (pv 4)))))),?_⟩
 refine exI rfl (exI rfl (wc rfl rfl (exI rfl (zp (λz=>?_) (λz=>?_)))))
 ·unfold stN at k
  rw [al (by lia)] at k
  exact k
 ·have fm:(f:Int)≤m:=by lia
  have res:∀x:Int,x=(if f<u then 1 else (((m.toNat-f)/(n-u):Nat):Int)+1)-(if f=0 then 1 else 0)→Q (.int x) H:=λx hx=>by
   have e:x=(stN n u m.toNat f:Nat):=by
    unfold stN
    rw [ai (by lia),hx]
    generalize (m.toNat-f)/(n-u)=D
    by_cases y1:f<u <;> by_cases y2:f=0
    ·simp only [al y1,al y2];lia
    ·simp only [al y1,ai y2];lia
    ·simp only [ai y1,al y2];lia
    ·simp only [ai y1,ai y2];lia
   rw [e]
   exact k
  refine exI rfl (exI rfl (wc rfl rfl (exI rfl (zp (λy1=>?_) (λy1=>?_)))))
  ·refine exI rfl ⟨rfl,_,rfl,zt (λy2=>?_) (λy2=>?_)⟩
   ·refine exI rfl (wc rfl rfl (res _ ?_))
    rw [al (by lia),al (by lia)]
   ·refine exI rfl (res _ ?_)
    rw [al (by lia),ai (by lia)]
    rfl
  ·refine exI rfl (exI rfl (wc rfl rfl (exI rfl (exI rfl (wc rfl rfl ?_)))))
   refine wc rfl rfl ⟨⟨(by lia),(Sm.small (n:=65) (by lia) (by lia) (by decide)).mono (by decide)⟩,wc rfl rfl ?_⟩
   have ev:(m-(f:Int))/((n:Int)-u)=(((m.toNat-f)/(n-u):Nat):Int):=by
    rw [←qzq fm,show ((n-u:Nat):Int)=(n:Int)-u by lia]
   rw [ev]
   refine exI rfl ⟨rfl,_,rfl,zt (λy2=>?_) (λy2=>?_)⟩
   ·refine exI rfl (wc rfl rfl (res _ ?_))
    rw [ai (by lia),al (by lia)]
   ·refine exI rfl (res _ ?_)
    rw [ai (by lia),ai (by lia)]
    lia
def Q4 (C:Aj):Sp:=λvs H Q _=>∃(y dx p t:Aj) (n:Str),vs=[.ref y,.str n,.ref p,.ref t]∧H y=some (.ins C dx [])∧∀H',H' y=some (.ins C dx (wF n p t))→Kb [y] H H'→Q .non H'
theorem wxg {f:Aj}{fd:Ad}(F:Fun K "__init__" "Walker.__init__" s_Walker___init__ f fd)(T:Txt K mg qf qh qw q8 qd ww wx qt wv q9 qb wb qz qc qx qq):FnOk P w K mg base (CXE P w) 1 f fd ["self","whose","point","times"] (Q4 qx):=by
 have sc:=u8
 refine F.okX sc (λvs H Q E h=>by obtain ⟨y,dx,p,t,n,rfl,_⟩:=h;rfl) (λcdv A outer s H vs Q E hr h=>?_)
 obtain ⟨y,dx,p,t,n,rfl,hy,k⟩:=h
 refine ⟨_,(qk (ut (pv 0) (pv 1) rfl)
   (qk (ut (pv 0) (pv 2) rfl)
   (wq (ut (pv 0) (pv 3) rfl)))),?_⟩
 refine exI rfl (exI rfl ⟨y,qx,dx,[],rfl,hy,T.clW,T.naWw,(by show 0<1000;decide),?_⟩)
 refine exI rfl (exI rfl ⟨y,qx,dx,exI rfl ⟨qm,T.clW,T.naWp,(by show 1<1000;decide),?_⟩⟩)
 refine exI rfl (exI rfl ⟨y,qx,dx,exI rfl ⟨qm,T.clW,T.naWt,(by show 2<1000;decide),?_⟩⟩)
 refine k _ qm λb o nb e=>?_
 have nb:b≠y:=λz=>nb (by simp [z])
 rw [wz nb,wz nb,wz nb]
 exact e
theorem qq9 {C:Aj}{H:Hp}{n:Str}{p t y dx:Aj}{Pp:Hp→Prop}{E:XK}(ny:H y=none)(nd:H dx=none)(k:∀H',Same H H'→(∃dx,H' y=some (.ins C dx (wF n p t)))→Pp H') :
  Q4 C [.ref y,.str n,.ref p,.ref t] (upd (upd H dx (.own y)) y (.ins C dx [])) (λr H2=>r=.non∧Pp H2) E:=by
 refine ⟨y,dx,p,t,n,rfl,qm,λH' e kb=>⟨rfl,k H' (λb o eb=>kb b o (λz=>?_) ?_) ⟨dx,e⟩⟩⟩
 ·rw [aq.mp z,ny] at eb;cases eb
 ·rw [wz (qg eb ny),wz (qg eb nd)]
  exact eb
def Q7 (C:Aj):Sp:=λvs H Q _=>∃(n:Str) (p:Aj) (pt:Int×Int),vs=[.str n,.ref p]∧H p=some (.tup [.int pt.1,.int pt.2])∧∀H' y t,H y=none→Same H H'→WkAt C H' y n p pt t [([.inl pt.1,.inl pt.2],.int 1)]→Q (.ref y) H'
theorem qvy {f:Aj}{fd:Ad}(F:Fun K "set_down" "set_down" s_set_down f fd)(T:Txt K mg qf qh qw q8 qd ww wx qt wv q9 qb wb qz qc qx qq)(c_Walker:CCal P w K mg base "Walker" qx 1 (Q4 qx)):FnOk P w K mg base (CXE P w) 3 f fd ["whose","point"] (Q7 qx):=by
 have sc:=qvz
 refine F.okX sc (λvs H Q E h=>by obtain ⟨n,p,pt,rfl,_⟩:=h;rfl) (λcdv A outer s H vs Q E hr h=>?_)
 obtain ⟨n,p,pt,rfl,hp,k⟩:=h
 refine ⟨_,(wq (wr (j7 c_Walker (hr.mono (by decide)) rfl qy (qr (pv 0) (qr (pv 1) (xx (wwm hr.units0 (pv 1) qu) qj)))))),?_⟩
 refine exI rfl (exI rfl (λt nt=>(exI rfl ⟨p,[.inl pt.1,.inl pt.2],rfl,(by rw [wz (qg hp nt)];exact hp),qm,?_⟩)))
 have s1:Same H (upd (upd H t (.dT [])) t (.dT [([.inl pt.1,.inl pt.2],.int 1)])):=by
  rw [yk]
  exact Same.upd nt
 have f1:upd (upd H t (.dT [])) t (.dT [([.inl pt.1,.inl pt.2],.int 1)]) t=some (.dT [([.inl pt.1,.inl pt.2],.int 1)]):=qm
 generalize upd (upd H t (.dT [])) t (.dT [([.inl pt.1,.inl pt.2],.int 1)])=H1 at s1 f1
 exact λy dx ny nd ne=>qq9 ny nd λH' s2 e=>k H' y t (xf s1 ny) (s1.trans s2) ⟨e,s2 _ _ (s1 _ _ hp),s2 _ _ f1⟩
def HPt (hs:List Int)(pt:Int×Int):Prop:=xj hs∧Pt hs pt.2 pt∧pt.2≤40
theorem HPt.rng {hs:List Int}{pt:Int×Int}(h:HPt hs pt):0≤pt.1∧pt.1≤960∧1≤pt.2∧pt.2≤40:=by
 obtain ⟨ok,⟨h1,_,_,h0,h2⟩,h3⟩:=h
 have ol:=ok.2.1
 have o1:=ok.1
 have:((hs.length:Int)-1)*pt.2≤24*pt.2:=ay (by lia) (by lia)
 lia
theorem HPt.it {hs:List Int}{pt:Int×Int}(h:HPt hs pt)(n:Nat):HPt hs (itP hs pt n):=by
 have a:=wxf h.1 h.2.1 n
 have:=h.2.2
 have:=a.2.1
 exact ⟨h.1,⟨a.1,fc _,a.2.2.1,a.2.2.2⟩,by lia⟩
theorem HPt.short {hs:List Int}{pt:Int×Int}(h:HPt hs pt):¬ Dist (itP hs pt) 1001:=λd=>by
 have r:=h.rng
 obtain ⟨ok,hp,h3⟩:=h
 have ol:=ok.2.1
 have o1:=ok.1
 have inj:∀i j,trT hs pt.1 pt.2 i=trT hs pt.1 pt.2 j→itP hs pt i=itP hs pt j:=λi j e=>(it_eq hp i j).mpr e
 have nd:((List.range 1001).map λi=>(trT hs pt.1 pt.2 i).toNat).Nodup:=by
  refine bJ.mpr (bD (λ{i j} hi hj hij z=>?_) (di (n:=1001)))
  have a:=yp ok hp.1 hp.2.2.2 i
  have b:=yp ok hp.1 hp.2.2.2 j
  have a0:=a.1
  have b0:=b.1
  exact d i j hij (aN.mp hj) (inj i j (by lia))
 have:=L2.qxv _ (List.range 961) nd λv hv=>by
  obtain ⟨i,_,rfl⟩:=aJ.mp hv
  have a:=yp ok hp.1 hp.2.2.2 i
  have a0:=a.1
  have a1:=a.2
  have:((hs.length:Int)-1)*pt.2≤24*pt.2:=ay (by lia) (by lia)
  exact aN.mpr (by lia)
 rw [ae,aH,aH] at this
 lia
def yz (tv:List (List Key×V))(q:Int×Int):Int:=match (w9 tv [.inl q.1,.inl q.2]).getD (.int 0) with|.int c=>c|_=>0
def HitI (hs:List Int)(pt:Int×Int)(n u m i:Nat)(tv tv':List (List Key×V)):Prop:=(∀f,f<i→yz tv' (itP hs pt f)=yz tv (itP hs pt f)+stN n u m f)∧∀q,(∀f,f<i→itP hs pt f≠q)→yz tv' q=yz tv q
def qjq (hs:List Int)(pt:Int×Int)(m:Nat)(tv tv':List (List Key×V)):Prop:=∃n u,n≤1000∧Dist (itP hs pt) n∧u<n∧itP hs pt n=itP hs pt u∧HitI hs pt n u m n tv tv'
theorem qw9 {tv:List (List Key×V)}{q q':Int×Int}{c:Int}:yz (zu tv [.inl q.1,.inl q.2] (.int c)) q'=if q=q' then c else yz tv q':=by
 unfold yz
 by_cases h:q=q'
 ·subst h
  rw [al rfl,vb,al rfl]
  rfl
 ·rw [ai h,vb,ai]
  intro z
  apply h
  injection z with z1 z2
  injection z2 with z2 _
  injection z1 with z1
  injection z2 with z2
  exact Prod.ext z1.symm z2.symm
theorem HitI.next {hs:List Int}{pt:Int×Int}{n u m i:Nat}{tv tv':List (List Key×V)}(h:HitI hs pt n u m i tv tv')(d:Dist (itP hs pt) n)(hi:i<n)(e:stN n u m i=0):HitI hs pt n u m (i+1) tv tv':=by
 have ne:∀f,f<i→itP hs pt f≠itP hs pt i:=λf hf=>d f i hf hi
 refine ⟨λf hf=>?_,λq hq=>h.2 q λf hf=>hq f (by lia)⟩
 by_cases z:f=i
 ·subst z
  rw [h.2 _ ne,e]
  lia
 ·exact h.1 f (by lia)
theorem HitI.put {hs:List Int}{pt:Int×Int}{n u m i:Nat}{tv tv':List (List Key×V)}{c:Int}(h:HitI hs pt n u m i tv tv')(d:Dist (itP hs pt) n)(hi:i<n)(ec:(w9 tv' [.inl (itP hs pt i).1,.inl (itP hs pt i).2]).getD (.int 0)=.int c):HitI hs pt n u m (i+1) tv (zu tv' [.inl (itP hs pt i).1,.inl (itP hs pt i).2] (.int (c+stN n u m i))):=by
 have ne:∀f,f<i→itP hs pt f≠itP hs pt i:=λf hf=>d f i hf hi
 have e0:yz tv' (itP hs pt i)=c:=by unfold yz;rw [ec]
 have e1:=h.2 _ ne
 refine ⟨λf hf=>?_,λq hq=>?_⟩
 ·rw [qw9]
  by_cases z:f=i
  ·subst z
   rw [al rfl,←e1,e0]
  ·rw [ai (λy=>ne f (by lia) y.symm)]
   exact h.1 f (by lia)
 ·rw [qw9,ai (hq i (by lia))]
  exact h.2 q λf hf=>hq f (by lia)
def qw8 (C CR:Aj):Sp:=λvs H Q _=>∃(y r p t:Aj) (n:Str) (hs:List Int) (pt:Int×Int) (tv:List (List Key×V)) (m:Int),vs=[.ref y,.ref r,.int m]∧WkAt C H y n p pt t tv∧TmOk tv∧RoadAt CR H r hs∧HPt hs pt∧0≤m ∧
 ∀H' y' p' t' tv',H y'=none→Same H H'→WkAt C H' y' n p' (itP hs pt m.toNat) t' tv'→TmOk tv'→qjq hs pt m.toNat tv tv'→Q (.ref y') H'
theorem wvy {f:Aj}{fd:Ad}(F:Fun K "gone" "Walker.gone" s_Walker_gone f fd)(T:Txt K mg qf qh qw q8 qd ww wx qt wv q9 qb wb qz qc qx qq)(c_trace:Cal P w K mg base "trace" 5 (qx6 qc ww))(c_led_to:Cal P w K mg base "led_to" 1 wxj)(c_spot:Cal P w K mg base "spot" 1 qk4)(c_Walker:CCal P w K mg base "Walker" qx 1 (Q4 qx)) :
  FnOk P w K mg base (CXE P w) 6 f fd ["self","road","many"] (qw8 qx qc):=by
 have sc:=Jc
 refine F.okX sc (λvs H Q E h=>by obtain ⟨y,r,p,t,n,hs,pt,tv,m,rfl,_⟩:=h;rfl) (λcdv A outer s H vs Q E hr h=>?_)
 obtain ⟨y,r,p,t,n,hs,pt,tv,m,rfl,hW,hT,hR,hP,m0,k⟩:=h
 obtain ⟨dy,hy⟩:=hW.ob
 have rg:=hP.rng
 have big:(1000000:Nat)<sizeLine:=by decide
 refine ⟨_,(qk (ju (wu c_trace (hr.mono (by decide)) rfl qy (qr (pv 1) (xx (zq (pv 0) rfl) qj))) (v4 rfl (xk (xv (i:=3) sc.nd rfl (by walk_at "loc")) (xk (xv (i:=4) sc.nd rfl (by walk_at "loc")) zn))))
   (qk (wn (i:=5) sc.nd rfl (by walk_at "loc") (kf qv3 rfl T.dict_ PyProof.Rows.boot_dict (xx (zq (pv 0) rfl) qj)))
   (qk (yh aW rfl (wv3 rfl T.enumerate_ (qr (pv 3) qj)) (v4 rfl (xk (xv (i:=6) sc.nd rfl (by walk_at "loc")) (xk (xv (i:=7) sc.nd rfl (by walk_at "loc")) zn))) (qk (wn (i:=8) sc.nd rfl (by walk_at "loc") (wu c_led_to (hr.mono (by decide)) rfl qy (qr (pv 6) (qr (pv 4) (vg (wp w8 rfl T.len_ aF (qr (pv 3) qj)) (qr (pv 2) qj))))))
   (wq (xh (wg yu (pv 8) qu (wm _)) (wq (Zh (vh hr) (pv 5) (pv 7) (wy xq (qvg (vh hr) (pv 5) (pv 7) qu ⟨rfl,rfl,rfl,rfl⟩) (pv 8)) rfl)) w4))))
   (wq (wr (j7 c_Walker (hr.mono (by decide)) rfl qy (xx (zq (pv 0) rfl) (vg (wu c_spot (hr.mono (by decide)) rfl qy (qr (pv 3) (qr (pv 4) (qr (pv 2) qj)))) (qr (pv 5) qj))))))))),?_⟩
 refine ⟨_,rfl,_,rfl,y,qx,dy,_,_,rfl,hy,T.clW,T.naWp,j9,r,p,hs,pt,pt.2,rfl,hR,hP.1,hW.pt,hP.2.1,(Sm.small (n:=65) (by lia) (by lia) (by decide)).mono (by decide),λnn u q l H1 n1 d1 u1 e1 s1 nl fq pa=>?_,λd=>absurd d hP.short⟩
 refine ⟨q,exI rfl ⟨SqT.of fq,rfl,_,_,rfl,_,_,rfl,rfl,?_⟩⟩
 obtain ⟨ys,fl,pr⟩:=id pa
 have hl:ys.length=nn:=by rw [pr.length,qzd]
 have y1:=s1 _ _ hy
 refine exI rfl ⟨y,qx,dy,_,_,rfl,y1,T.clW,T.naWt,Z7,t,tv,rfl,s1 _ _ hW.tm,hT.1,hT.hash,λt2 nt2=>?_⟩
 have s2:Same H1 (upd H1 t2 (.dT tv)):=Same.upd nt2
 have f2:upd H1 t2 (.dT tv) t2=some (.dT tv):=qm
 have nt20:H t2=none:=xf s1 nt2
 have tl:t2≠l:=(qg fl nt2).symm
 generalize hH2:upd H1 t2 (.dT tv)=H2 at s2 f2
 refine exI rfl ⟨l,ys,rfl,SqL.of (s2 _ _ fl),?_⟩
 refine for_en (λi σ H'=>(∃z6 z7 z8,σ=[some (.ref y),some (.ref r),some (.int m),some (.ref l),some (.int ((u:Nat):Int)),some (.ref t2),z6,z7,z8])∧(∃tv',H' t2=some (.dT tv')∧TmOk tv'∧HitI hs pt nn u m.toNat i tv tv')∧Kb [t2] H1 H') ⟨⟨_,_,_,rfl⟩,⟨tv,f2,hT,(λf z=>absurd z (dF _)),λ_ _=>rfl⟩,Kb.of s2⟩ (λi σ H' hi h=>SqL.of (h.2.2 _ _ (by simpa using tl.symm) fl)) ?_ ?_
 ·rintro i v z σ H' ev nz ⟨⟨z6,z7,z8,rfl⟩,⟨tv',ft,hT',hit⟩,kb⟩
  have hi:i<nn:=by rw [←hl];exact (aQ.mp ev).1
  obtain ⟨a,ea,fa⟩:=qk7 (i:=i) pr hi
  rw [ev] at ea
  cases ea
  have sz:Same H' (upd H' z (.tup [.int ((i:Nat):Int),.ref a])):=Same.upd nz
  refine ⟨z,exI rfl ⟨SqT.new,rfl,_,_,rfl,_,_,rfl,rfl,?_⟩⟩
  have ft3:=sz _ _ ft
  have kb3:Kb [t2] H1 (upd H' z (.tup [.int ((i:Nat):Int),.ref a])):=kb.trans (Kb.of sz)
  generalize upd H' z (.tup [.int ((i:Nat):Int),.ref a])=H3 at ft3 kb3
  have at2:a≠t2:=qg fa nt2
  have fl3:=kb3 _ _ (by simpa using tl.symm) fl
  have fa3:H3 a=some (.tup (([.inl (itP hs pt i).1,.inl (itP hs pt i).2]:List Key).map kV)):=kb3 _ _ (by simpa using at2) fa
  have rgi:=(hP.it i).rng
  refine exI rfl (exI rfl (exI rfl ⟨_,_,rfl,.inl (SqL.of fl3),exI rfl ⟨i,u,nn,m,?_,hi,u1,n1,m0,exI rfl (wc rfl rfl (exI rfl (zp (λg=>?_) (λg=>?_))))⟩⟩))
  ·rw [hl]
  ·have dg:=DGet.t ft3 fa3
   have key:∃c:Int,(w9 tv' [.inl (itP hs pt i).1,.inl (itP hs pt i).2]).getD (.int 0)=.int c:=by
    cases e:w9 tv' [.inl (itP hs pt i).1,.inl (itP hs pt i).2] with
    |none=>exact ⟨0,rfl⟩
    |some v =>
     have hm:∃kv∈tv',kv.2=v:=by
      unfold w9 at e
      cases hf:tv'.find? λkv=>decide (kv.1=[Sum.inl (itP hs pt i).1,Sum.inl (itP hs pt i).2]) with
      |none=>rw [hf] at e;cases e
      |some kv =>
       rw [hf] at e
       exact ⟨kv,d7 hf,aw e⟩
     obtain ⟨kv,hk,rfl⟩:=hm
     obtain ⟨a',b',c',rfl,_⟩:=hT'.2.2 kv hk
     exact ⟨c',rfl⟩
   obtain ⟨c,ec⟩:=key
   refine exI rfl ⟨t2,rfl,.inr ⟨_,.inl ft3⟩,exI rfl ⟨_,dg,_,rfl,?_⟩⟩
   rw [ec]
   refine wc rfl rfl (exI rfl (exI rfl ⟨t2,exI rfl ⟨DPut.t ft3 fa3 (by have:=hT'.len;lia),⟨_,_,_,rfl⟩,⟨_,qm,hT'.put rgi.1 rgi.2.1 rgi.2.2.1 rgi.2.2.2,hit.put d1 hi ec⟩,λb o nb e=>?_⟩⟩))
   rw [wz (by simpa using nb)]
   exact kb3 b o nb e
  ·exact ⟨⟨_,_,_,rfl⟩,⟨tv',ft3,hT',hit.next d1 hi (by lia)⟩,kb3⟩
 ·rintro σ H' ⟨⟨z6,z7,z8,rfl⟩,⟨tv',ft,hT',hit⟩,kb⟩
  rw [hl] at hit
  have keep:∀b o,H1 b=some o→H' b=some o:=λb o e=>kb b o (by simpa using qg e nt2) e
  refine exI rfl ⟨y,qx,dy,_,_,rfl,keep _ _ y1,T.clW,T.naWw,ur,exI rfl (exI rfl (exI rfl ⟨l,hs,pt,nn,u,m,rfl,⟨n1,d1,u1,e1,pa.same keep⟩,m0,λa fa=>(exI rfl (λy' dx' ny' nd' ne'=>qq9 ny' nd' λH4 s4 e4=>?_))⟩))⟩
  have sk:Same H H':=s1.trans keep
  exact k H4 y' a t2 tv' (xf sk ny') (sk.trans s4) ⟨e4,s4 _ _ fa,s4 _ _ ft⟩ hT' ⟨nn,u,n1,d1,u1,e1,hit⟩
end
section
variable {P:Ac}{w:Ah}{K:Aa}{mg:Str→Option Ag}{base:Heap}{qf:Aj}{qh:Aj}{qw:Aj}{q8:Aj}{qd:Aj}{ww:Aj}{wx:Aj}{qt:Aj}{wv:Aj}{q9:Aj}{qb:Aj}{wb:Aj}{qz:Aj}{qc:Aj}{qx:Aj}{qq:Aj}
def qkw (K:Aa)(C:Aj):Sp:=λvs H Q E=>∃p q t b t' b',vs=[.ref p,.ref q]∧SqT K H p [.int t,.int b]∧SqT K H q [.int t',.int b']∧IntMulOk t b'∧IntMulOk t' b ∧
 (1≤b→1≤b'→Q (.bl (decide (t*b'<t'*b))) H)∧(b<1∨b'<1→E (.ref C) none H)
theorem wz8 {f:Aj}{fd:Ad}(F:Fun K "less" "less" s_less f fd)(T:Txt K mg qf qh qw q8 qd ww wx qt wv q9 qb wb qz qc qx qq)(c_check_bottom:Cal P w K mg base "check_bottom" 1 (Zg qw)):FnOk P w K mg base (CXE P w) 2 f fd ["one","other"] (qkw K qw):=by
 have sc:=wvu
 refine F.okX sc (λvs H Q E h=>by obtain ⟨p,q,t,b,t',b',rfl,_⟩:=h;rfl) (λcdv A outer s H vs Q E hr h=>?_)
 obtain ⟨p,q,t,b,t',b',rfl,hp,hq,m1,m2,k,x⟩:=h
 refine ⟨_,(qk (xg (wu c_check_bottom (hr.mono (by decide)) rfl qy (v9 (xp zb (pv 0) qu (λ_ _=>rfl)) qj)))
   (qk (xg (wu c_check_bottom (hr.mono (by decide)) rfl qy (v9 (xp zb (pv 1) qu (λ_ _=>rfl)) qj)))
   (wq (wr (uw jw (wy xy (xp zb (pv 0) qu (λ_ _=>rfl)) (xp zb (pv 1) qu (λ_ _=>rfl))) (wy xy (xp zb (pv 1) qu (λ_ _=>rfl)) (xp zb (pv 0) qu (λ_ _=>rfl))) (wm _)))))),?_⟩
 refine ⟨_,rfl,_,_,_,_,rfl,rfl,hp,rfl,b,rfl,λg1=>?_,λg1=>x (.inl g1)⟩
 refine ⟨_,rfl,_,_,_,_,rfl,rfl,hq,rfl,b',rfl,λg2=>?_,λg2=>x (.inr g2)⟩
 refine exI rfl (exX rfl rfl hp rfl (exI rfl (exX rfl rfl hq rfl (wc rfl rfl ⟨m1,exI rfl (exX rfl rfl hq rfl (exI rfl (exX rfl rfl hp rfl (wc rfl rfl ⟨m2,wc rfl rfl ?_⟩))))⟩))))
 exact k g1 g2
theorem qq4 {C CW:Aj}{H H3:Hp}{x dr dw dd c1 c2 y:Aj}{R W:List (Key×V)}{D:List V}{n whose:Str}{p t:Aj}{pt:Int×Int}{tv:List (List Key×V)}{Q:VK}{E:XK}(hh:Hse C H x dr dw dd R W D)(n1:H c1=none)(n2:upd H c1 (.dK []) c2=none)(s3:Same (upd (upd H c1 (.dK [])) c2 (.dK [])) H3)(W3:WkAt CW H3 y whose p pt t tv)(lR:R.length≤1000)(lW:W.length≤1000)(lD:D.length≤1000000)
  (k:∀H' tp q1 q2,H tp=none→H q1=none→H q2=none→Hse C H' x dr dw dd R (zu W (.inr n) (.ref y)) (D++[.ref tp])→H' tp=some (.tup [.ref q1,.ref q2])→H' q1=some (.dK [])→H' q2=some (.dK [(.inr n,(w9 W (.inr n)).getD .non)])→q1≠q2→WkAt CW H' y whose p pt t tv→Kb [dr,dw,dd] H H'→Q .non H') :
  Zk C [.ref x,.ref c1,.ref c2] (upd H3 c2 (.dK [(.inr n,.ref y)])) Q E:=by
 have c12:c1≠c2:=λz=>by rw [←z,qm] at n2;cases n2
 have n20:H c2=none:=by rw [←n2,wz (aU c12)]
 have s03:Same H H3:=λb o e=>s3 _ _ (by rw [wz (qg e n20),wz (qg e n1)];exact e)
 have h32:H3 c2=some (.dK []):=s3 _ _ qm
 have h31:H3 c1=some (.dK []):=s3 _ _ (by rw [wz c12,qm])
 have keep:∀b o,(∀kv,o≠HO.dK kv)→H3 b=some o→upd H3 c2 (.dK [(.inr n,.ref y)]) b=some o:=λb o no e=>by
  rw [wz (λz=>by rw [z,h32] at e;cases e;exact no _ rfl)]
  exact e
 have W4:WkAt CW (upd H3 c2 (.dK [(.inr n,.ref y)])) y whose p pt t tv:=by
  obtain ⟨dx,e⟩:=W3.ob
  exact ⟨⟨dx,keep _ _ (λkv z=>by cases z) e⟩,keep _ _ (λkv z=>by cases z) W3.pt,keep _ _ (λkv z=>by cases z) W3.tm⟩
 have s4:Same H (upd H3 c2 (.dK [(.inr n,.ref y)])):=λb o e=>by rw [wz (qg e n20)];exact s03 _ _ e
 have e1:upd H3 c2 (.dK [(.inr n,.ref y)]) c1=some (.dK []):=by rw [wz c12];exact h31
 have e2:upd H3 c2 (.dK [(.inr n,.ref y)]) c2=some (.dK [(.inr n,.ref y)]):=qm
 generalize upd H3 c2 (.dK [(.inr n,.ref y)])=H4 at s4 e1 e2 W4
 have hh4:=hh.same s4
 refine ⟨x,dr,dw,dd,c1,c2,R,W,[],[(.inr n,.ref y)],D,rfl,hh4,.inl e1,.inl e2,c12,(qg hh.r n1).symm,(qg hh.w n1).symm,(qg hh.r n20).symm,(qg hh.w n20).symm,br,ba.mpr ⟨ao,br⟩,lR,lW,aE _,by show 1≤1000;decide,lD,(λi c ec hc=>nomatch ec),λi c ec hc=>?_,λH' tp q1 q2 a1 a2 a3 a4 a5 a6 a7 a8 _ a9=>?_⟩
 ·cases i with
  |zero=>cases ec;cases hc
  |succ i=>cases ec
 ·have no:∀b,H4 b=none→H b=none:=λb e=>xf s4 e
  have wk:WkAt CW H' y whose p pt t tv:=W4.kb a9 λb hb=>by
   simp only [am,ao,bv] at hb
   rcases hb with rfl|rfl|rfl|rfl|rfl
   ·exact .inl ⟨_,.inl hh4.r⟩
   ·exact .inl ⟨_,.inl hh4.w⟩
   ·exact .inr ⟨_,hh4.d⟩
   ·exact .inl ⟨_,.inl e1⟩
   ·exact .inl ⟨_,.inl e2⟩
  refine k H' tp q1 q2 (no _ a1) (no _ a2) (no _ a3) a4 a5 a6 a7 a8 wk λb o nb e=>a9 b o (λz=>?_) (s4 _ _ e)
  simp only [am,ao,bv] at z nb
  rcases z with z|z|z|z|z
  ·exact nb (.inl z)
  ·exact nb (.inr (.inl z))
  ·exact nb (.inr (.inr z))
  ·rw [z,n1] at e;cases e
  ·rw [z,n20] at e;cases e
def WDeed (C CW:Aj)(H H':Hp)(x dr dw dd:Aj)(R W:List (Key×V))(D:List V)(n whose:Str)(p:Aj)(pt:Int×Int)(t:Aj)(tv:List (List Key×V)):Prop:=∃y tp q1 q2,H tp=none∧H q1=none∧H q2=none∧Hse C H' x dr dw dd R (zu W (.inr n) (.ref y)) (D++[.ref tp])∧H' tp=some (.tup [.ref q1,.ref q2])∧H' q1=some (.dK [])∧H' q2=some (.dK [(.inr n,(w9 W (.inr n)).getD .non)])∧q1≠q2∧WkAt CW H' y whose p pt t tv∧Kb [dr,dw,dd] H H'
theorem WDeed.pre {C CW:Aj}{H0 H H':Hp}{x dr dw dd:Aj}{R W:List (Key×V)}{D:List V}{n whose:Str}{p:Aj}{pt:Int×Int}{t:Aj}{tv:List (List Key×V)}(h:WDeed C CW H H' x dr dw dd R W D n whose p pt t tv)(s:Same H0 H):WDeed C CW H0 H' x dr dw dd R W D n whose p pt t tv:=by
 obtain ⟨y,tp,q1,q2,a1,a2,a3,a4,a5,a6,a7,a8,a9,b1⟩:=h
 exact ⟨y,tp,q1,q2,xf s a1,xf s a2,xf s a3,a4,a5,a6,a7,a8,a9,λb o nb e=>b1 b o nb (s _ _ e)⟩
def qxh (K:Aa)(C CR CW CN CT CNR CB CO:Aj):Sp:=λvs H Q E=>∃(x dr dw dd a:Aj) (R W:List (Key×V)) (D:List V) (n whose:Str) (t b:Int),vs=[.ref x,.str n,.str whose,.ref a]∧Hse C H x dr dw dd R W D∧R.length≤1000∧W.length≤1000∧D.length≤1000000∧n.length≤1000∧H a=some (.tup [.int t,.int b]) ∧
 (ku n=false→∀H',Same H H'→E (.ref CN) none H')∧(ku n=true→(w9 W (.inr n)).isSome=true→∀H',Same H H'→E (.ref CT) none H')∧(ku n=true→w9 W (.inr n)=none→(w9 R (.inr whose)=none→∀H',Same H H'→E (.ref CNR) none H') ∧
  ∀v,w9 R (.inr whose)=some v→∃r hs,v=.ref r∧RoadAt CR H r hs∧xj hs∧(b<1→∀H',Same H H'→E (.ref CB) none H')∧(1≤b→Sm 8000 b∧(40<(wf t b).2→∀H',Same H H'→E (.ref CB) none H')∧((wf t b).2≤40 →
   (¬ OnRoad hs (wf t b).1 (wf t b).2→∀H',Same H H'→E (.ref CO) none H')∧(OnRoad hs (wf t b).1 (wf t b).2→∀H' p t',WDeed C CW H H' x dr dw dd R W D n whose p (wf t b) t' [([.inl (wf t b).1,.inl (wf t b).2],.int 1)]→Q .non H'))))
theorem low1 {t b:Int}(h:1≤b):1≤(wf t b).2:=by
 have e:=Y1 (t:=t) h
 have g:=jz (t:=t) h
 show 1≤b/gOf t b
 by_cases z:1≤b/gOf t b
 ·exact z
 ·have:gOf t b*(b/gOf t b)≤0:=Int.mul_nonpos_of_nonneg_of_nonpos (by lia) (by lia)
  lia
theorem wqt {f:Aj}{fd:Ad}(F:Fun K "place" "House.place" s_House_place f fd)(T:Txt K mg qf qh qw q8 qd ww wx qt wv q9 qb wb qz qc qx qq)(c_check_new_name:Cal P w K mg base "check_new_name" 2 (uk qt wv))(c_road_called:MCal P w K mg base qq "road_called" 1 (zr qq q9 true))(c_lowest:Cal P w K mg base "lowest" 2 (j5 qw))(c_on_road:MCal P w K mg base qc "on_road" 3 (Q1 K qc qw q8))(c_set_down:Cal P w K mg base "set_down" 3 (Q7 qx))(c_do:MCal P w K mg base qq "do" 2 (Zk qq)) :
  FnOk P w K mg base (CXE P w) 5 f fd ["self","name","whose","point"] (qxh K qq qc qx qt wv q9 qw q8):=by
 have sc:=Yw
 refine F.okX sc (λvs H Q E h=>by obtain ⟨x,dr,dw,dd,a,R,W,D,n,whose,t,b,rfl,_⟩:=h;rfl) (λcdv A outer s H vs Q E hr h=>?_)
 obtain ⟨x,dr,dw,dd,a,R,W,D,n,whose,t,b,rfl,hh,lR,lW,lD,ln,ha,kn,kt,k⟩:=h
 obtain ⟨dx,hx⟩:=hh.ob
 obtain ⟨tg,g_GREATEST_BOTTOM⟩:=T.g_GREATEST_BOTTOM
 refine ⟨_,(qk (xg (wu c_check_new_name (hr.mono (by decide)) rfl qy (qr (pv 1) (xx (zq (pv 0) rfl) qj))))
   (qk (wn (i:=4) sc.nd rfl (by walk_at "loc") (xz (pv 0) T.clH c_road_called (hr.mono (by decide)) qy (qr (pv 2) qj)))
   (qk (wn (i:=5) sc.nd rfl (by walk_at "loc") (wu c_lowest (hr.mono (by decide)) rfl qy (v9 (xp zb (pv 3) qu (λ_ _=>rfl)) (v9 (xp zb (pv 3) qu (λ_ _=>rfl)) qj))))
   (qk (xh (wg yu (xp zb (pv 5) qu (λ_ _=>rfl)) (yq (v:=V.int 40) rfl g_GREATEST_BOTTOM ⟨_,rfl⟩) (wm _)) (wq (zc rfl T.x_BadBottom x8 rfl T.g_BadBottom (w6 xn qj))) w4)
   (wq (xg (xz (pv 0) T.clH c_do (hr.mono (by decide)) qy (xx vd (xx (ux (jp (pv 1) (wu c_set_down (hr.mono (by decide)) rfl qy (qr (pv 2) (vg (xz (pv 4) T.cl c_on_road (hr.mono (by decide)) qy (qr (pv 5) qj)) qj))) y8) rfl rfl (λz=>nomatch z) (by decide)) qj))))))))),?_⟩
 refine ⟨_,rfl,_,rfl,x,qq,dx,_,_,rfl,hx,T.clH,T.naHw,zx,n,dw,W,rfl,ln,hh.w,λa1 a2 H1 s1=>?_,kn,kt⟩
 obtain ⟨kr,k⟩:=k a1 a2
 have hh1:=hh.same s1
 refine ⟨_,rfl,x,dx,_,rfl,s1 _ _ hx,xb (by decide +kernel) (by decide +kernel) (by decide +kernel),_,rfl,x,dr,dw,dd,R,W,D,whose,rfl,hh1,λv e=>?_,λe=>kr e H1 s1⟩
 obtain ⟨r,hs,rfl,hR,okl,kb,k⟩:=k v e
 refine ⟨_,rfl,_,_,_,_,rfl,rfl,SqT.of (s1 _ _ ha),rfl,_,rfl,_,_,_,_,rfl,rfl,SqT.of (s1 _ _ ha),rfl,t,b,rfl,λb1=>?_,λb1=>kb b1 H1 s1⟩
 obtain ⟨sm,kg,k⟩:=k b1
 refine ⟨sm.mono (by decide),λp np=>?_⟩
 have s2:Same H (upd H1 p (.tup (ptV (wf t b)))):=s1.trans (Same.upd np)
 have f2:upd H1 p (.tup (ptV (wf t b))) p=some (.tup [.int (wf t b).1,.int (wf t b).2]):=qm
 generalize upd H1 p (.tup (ptV (wf t b)))=H2 at s2 f2
 have l1:=low1 (t:=t) b1
 refine exI rfl (exX rfl rfl (SqT.of f2) rfl (wc rfl rfl (exI rfl (zp (λz=>⟨sz1,kg (by lia) H2 s2⟩) (λz=>?_)))))
 obtain ⟨ko,k⟩:=k (by lia)
 refine exI rfl ⟨x,dx,exI rfl ⟨s2 _ _ hx,xb (by decide +kernel) (by decide +kernel) (by decide +kernel),λc1 n1=>λc2 n2=>(exI rfl (exI rfl (exI rfl ?_)))⟩⟩
 obtain ⟨dy,l,h1,h2⟩:=id hR
 have sc2:Same H2 (upd (upd H2 c1 (.dK [])) c2 (.dK [])):=λb o e=>by
  have e4:upd H2 c1 (.dK []) b=some o:=by rw [wz (qg e n1)];exact e
  rw [wz (qg e4 n2)]
  exact e4
 have s3:=s2.trans sc2
 refine ⟨r,dy,_,rfl,s3 _ _ h1,zy (by decide +kernel),_,rfl,r,p,hs,(wf t b).1,(wf t b).2,rfl,hR.same s3,okl,SqT.of (sc2 _ _ f2),λ_=>⟨(Sm.small (n:=65) (by lia) (by lia) (by decide)).mono (by decide),λon q H3 s4 fq=>?_,λon H3 s4=>ko on H3 (s3.trans s4)⟩,λz=>absurd z (by lia)⟩
 have e3:wf (wf t b).1 (wf t b).2=wf t b:=qwt l1 (qws b1)
 rw [e3] at fq
 refine ⟨whose,q,wf t b,rfl,fq,λH4 y t' ny s5 w5=>?_⟩
 refine ⟨s5 _ _ (s4 _ _ qm),[(.inr n,.ref y)],rfl,(show 1≤15 by decide),?_⟩
 exact qq4 (E:=E) (hh.same s2) n1 n2 (s4.trans s5) w5 lR lW lD λH' tp q1 q2 b1 b2 b3 b4 b5 b6 b7 b8 b9 kb=>k on H' q t' (WDeed.pre ⟨y,tp,q1,q2,b1,b2,b3,b4,b5,b6,b7,b8,b9,kb⟩ s2)
def spGo (C CR CW CN CC:Aj):Sp:=λvs H Q E=>∃(x dr dw dd:Aj) (R W:List (Key×V)) (D:List V) (n:Str) (m:Int),vs=[.ref x,.str n,.int m]∧Hse C H x dr dw dd R W D∧R.length≤1000∧W.length≤1000∧D.length≤1000000∧(w9 W (.inr n)=none→E (.ref CN) none H) ∧
 (∀v,w9 W (.inr n)=some v→∃y whose p pt t tv r hs,v=.ref y∧WkAt CW H y whose p pt t tv∧TmOk tv∧w9 R (.inr whose)=some (.ref r)∧RoadAt CR H r hs∧HPt hs pt∧(¬ Within m 0 (some 1000000000000000000000000000000000000000000000000000000000000)→E (.ref CC) none H) ∧
  (Within m 0 (some 1000000000000000000000000000000000000000000000000000000000000)→∀H' p' t' tv',WDeed C CW H H' x dr dw dd R W D n whose p' (itP hs pt m.toNat) t' tv'→TmOk tv'→qjq hs pt m.toNat tv tv'→Q (.ref p') H'))
theorem ok_go {f:Aj}{fd:Ad}(F:Fun K "go" "House.go" s_House_go f fd)(T:Txt K mg qf qh qw q8 qd ww wx qt wv q9 qb wb qz qc qx qq)(c_walker_called:MCal P w K mg base qq "walker_called" 1 (zr qq qb false))(c_check_count:CalD P w K mg base "check_count" 1 (Zd qd))(c_gone:MCal P w K mg base qx "gone" 6 (qw8 qx qc))(c_do:MCal P w K mg base qq "do" 2 (Zk qq)) :
  FnOk P w K mg base (CXE P w) 8 f fd ["self","name","many"] (spGo qq qc qx qb qd):=by
 have sc:=qvp
 refine F.okX sc (λvs H Q E h=>by obtain ⟨x,dr,dw,dd,R,W,D,n,m,rfl,_⟩:=h;rfl) (λcdv A outer s H vs Q E hr h=>?_)
 obtain ⟨x,dr,dw,dd,R,W,D,n,m,rfl,hh,lR,lW,lD,kx,k⟩:=h
 obtain ⟨dx,hx⟩:=hh.ob
 obtain ⟨tg,g_FARTHEST⟩:=T.g_FARTHEST
 refine ⟨_,(qk (wn (i:=3) sc.nd rfl (by walk_at "loc") (xz (pv 0) T.clH c_walker_called (hr.mono (by decide)) qy (qr (pv 1) qj)))
   (qk (xg (Yb c_check_count.all (hr.mono (by decide)) rfl qy (qr (pv 2) (w6 qu (qr (yq (v:=V.int 1000000000000000000000000000000000000000000000000000000000000) rfl g_FARTHEST ⟨_,rfl⟩) qj)))))
   (qk (wn (i:=4) sc.nd rfl (by walk_at "loc") (xz (pv 3) T.clW c_gone (hr.mono (by decide)) qy (v9 (jg (vh hr) (zq (pv 0) rfl) (zq (pv 3) rfl) (λ_ _=>rfl)) (qr (pv 2) qj))))
   (qk (xg (xz (pv 0) T.clH c_do (hr.mono (by decide)) qy (xx vd (xx (ux (jp (pv 1) (pv 4) y8) rfl rfl (λz=>nomatch z) (by decide)) qj))))
   (wq (wr (zq (pv 4) rfl))))))),?_⟩
 refine ⟨_,rfl,x,dx,_,rfl,hx,xb (by decide +kernel) (by decide +kernel) (by decide +kernel),_,rfl,x,dr,dw,dd,R,W,D,n,rfl,hh,λv e=>?_,kx⟩
 obtain ⟨y,whose,p,pt,t,tv,r,hs,rfl,hW,hT,er,hR,hP,kc,k⟩:=k v e
 obtain ⟨dy,hy⟩:=hW.ob
 refine ⟨_,rfl,m,0,.int (1000000000000000000000000000000000000000000000000000000000000),some (1000000000000000000000000000000000000000000000000000000000000),rfl,.inr ⟨1000000000000000000000000000000000000000000000000000000000000,rfl,rfl⟩,λwi=>?_,kc⟩
 have dg:DGet H dr (.str whose) (w9 R (.inr whose)):=DGet.k (k:=.inr whose) hh.r
 rw [er] at dg
 refine exI rfl ⟨y,dy,exI rfl ⟨hy,qzm (by decide +kernel) (by decide +kernel) (by decide +kernel),exI rfl ⟨x,qq,dx,_,_,rfl,hx,T.clH,T.naHr,km,exI rfl ⟨y,qx,dy,_,_,rfl,hy,T.clW,T.naWw,ur,dr,exI rfl ⟨dg,exI rfl ⟨y,r,p,t,whose,hs,pt,tv,m,rfl,hW,hT,hR,hP,wi.1,λH1 y' p' t' tv' ny s1 w1 hT' hit=>?_⟩⟩⟩⟩⟩⟩
 refine exI rfl ⟨x,dx,exI rfl ⟨s1 _ _ hx,xb (by decide +kernel) (by decide +kernel) (by decide +kernel),λc1 n1=>λc2 n2=>(exI rfl (exI rfl ⟨qm,[(.inr n,.ref y')],rfl,(show 1≤15 by decide),?_⟩))⟩⟩
 have sc2:Same H1 (upd (upd H1 c1 (.dK [])) c2 (.dK [])):=λb o e=>by
  have e4:upd H1 c1 (.dK []) b=some o:=by rw [wz (qg e n1)];exact e
  rw [wz (qg e4 n2)]
  exact e4
 have w3:=w1.same sc2
 obtain ⟨H3,hH3⟩:∃H3,H3=upd (upd H1 c1 (.dK [])) c2 (.dK []):=⟨_,rfl⟩
 have s3:Same (upd (upd H1 c1 (.dK [])) c2 (.dK [])) H3:=by rw [hH3];exact Same.refl _
 rw [←hH3] at w3 ⊢
 have e0:Qq [] [((Sum.inr n:Key),V.ref y')]=[((Sum.inr n:Key),V.ref y')]:=rfl
 rw [e0]
 dsimp only [Zc]
 refine qq4 (n:=n) (E:=E) (hh.same s1) n1 n2 s3 w3 lR lW lD λH' tp q1 q2 b1 b2 b3 b4 b5 b6 b7 b8 b9 kb=>?_
 obtain ⟨dy',hy'⟩:=b9.ob
 exact exI rfl ⟨y',qx,dy',_,_,rfl,hy',T.clW,T.naWp,j9,k wi H' p' t' tv' (WDeed.pre ⟨y',tp,q1,q2,b1,b2,b3,b4,b5,b6,b7,b8,b9,kb⟩ s1) hT' hit⟩
end
section
variable {P:Ac}{w:Ah}{K:Aa}{mg:Str→Option Ag}{base:Heap}{qf:Aj}{qh:Aj}{qw:Aj}{q8:Aj}{qd:Aj}{ww:Aj}{wx:Aj}{qt:Aj}{wv:Aj}{q9:Aj}{qb:Aj}{wb:Aj}{qz:Aj}{qc:Aj}{qx:Aj}{qq:Aj}
theorem qvc {α:Type}(ms:List α)(d:α)(f:α→V)(p:α→Bool):Jq (λi=>p (ms.getD i d)) (ms.map f) (ms.map f).length=(ms.filter p).map f:=by
 unfold Jq
 rw [ae]
 have e:ms=(List.range ms.length).map λi=>ms.getD i d:=by
  refine List.ext_getElem (by rw [ae,aH]) λi h1 h2=>?_
  rw [List.getElem_map,List.getElem_range,av,ag h1]
  rfl
 have e2:(ms.filter p).map f=(((List.range ms.length).map λi=>ms.getD i d).filter p).map f:=by rw [←e]
 rw [e2,List.filter_map,bP]
 refine cw λi hi=>?_
 have hi:=aN.mp (bw.mp hi).1
 show (ms.map f).getD i .non=f (ms.getD i d)
 rw [av,av,aG,ag hi]
 rfl
def WksAt (CW:Aj)(H:Hp)(W:List (Key×V))(ss:List Str)(wh:Str→Str)(ps:Str→Int×Int):Prop:=W.map (·.1)=ss.map Sum.inr∧W.length<64∧∀s∈ss,∃y p t tv,w9 W (.inr s)=some (.ref y)∧WkAt CW H y (wh s) p (ps s) t tv
theorem WksAt.same {CW:Aj}{H H':Hp}{W:List (Key×V)}{ss:List Str}{wh:Str→Str}{ps:Str→Int×Int}(h:WksAt CW H W ss wh ps)(s:Same H H'):WksAt CW H' W ss wh ps:=⟨h.1,h.2.1,λn hn=>by
 obtain ⟨y,p,t,tv,e,a⟩:=h.2.2 n hn
 exact ⟨y,p,t,tv,e,a.same s⟩⟩
def spOn (C CW:Aj):Sp:=λvs H Q _=>∃(x dr dw dd:Aj) (R W:List (Key×V)) (D:List V) (n:Str) (ss:List Str) (wh:Str→Str) (ps:Str→Int×Int),vs=[.ref x,.str n]∧Hse C H x dr dw dd R W D∧WksAt CW H W ss wh ps ∧
 ∀(l:Aj) (H':Hp) (ms:List Str),H l=none→Same H H'→ms.Perm ss→ms.Pairwise (λx y=>¬ y.cps.toList<x.cps.toList)→H' l=some (.lst ((ms.filter λs=>decide (V.str (wh s)=V.str n)).map V.str))→Q (.ref l) H'
theorem Jp {f:Aj}{fd:Ad}(F:Fun K "walkers_on" "House.walkers_on" s_House_walkers_on f fd)(T:Txt K mg qf qh qw q8 qd ww wx qt wv q9 qb wb qz qc qx qq):FnOk P w K mg base (CXE P w) 1 f fd ["self","whose"] (spOn qq qx):=by
 have sc:=uu
 refine F.okX sc (λvs H Q E h=>by obtain ⟨x,dr,dw,dd,R,W,D,n,ss,wh,ps,rfl,_⟩:=h;rfl) (λcdv A outer s H vs Q E hr h=>?_)
 obtain ⟨x,dr,dw,dd,R,W,D,n,ss,wh,ps,rfl,hh,hw,k⟩:=h
 obtain ⟨dx,hx⟩:=hh.ob
 refine ⟨_,(wq (wr (wqz (M:=[0,1]) rfl rfl (by walk_at "cap") (by walk_at "has") (by walk_at "cix") rfl (by decide +kernel) rfl (show List.Nodup (["name","self","whose"]:List Str) by decide +kernel) (Qm (wp (qqr rfl) rfl T.sorted_ PyProof.Rows.boot_sorted (xx (zq (pv 0) rfl) qj))) (λ_ _ _ _ _=>(wg zg (uz (K:=K) rfl (jg (vh hr) (uz (K:=K) rfl (pv 1) rfl) (pv 0) (λ_ _=>rfl)) rfl) (pv 2) (wm _))) (λ_ _ _ _ _=>(pv 0))))),?_⟩
 refine exI rfl ⟨x,qq,dx,_,_,rfl,hx,T.clH,T.naHw,zx,dw,W,ss,rfl,.inl hh.w,hw.1,hw.2.1,λl ms nl pm srt=>?_⟩
 have s1:Same H (upd H l (.lst (ms.map V.str))):=Same.upd nl
 have f1:upd H l (.lst (ms.map V.str)) l=some (.lst (ms.map V.str)):=qm
 have lm:ms.length<64:=by
  have a:=bq List.length hw.1
  rw [ae,ae] at a
  have b:=pm.length_eq
  have c:=hw.2.1
  lia
 generalize upd H l (.lst (ms.map V.str))=H1 at s1 f1
 refine ⟨l,rfl,⟨_,SqL.of f1⟩,qkz (λi=>decide (V.str (wh (ms.getD i ""))=V.str n)) (SqL.of f1) (by rw [ae];lia) (λi v H' RR ev s' hR=>?_) (λi v H' RR ev ci s' hR=>(exI rfl (hR H' (Same.refl _)))) λp H' np s' fp=>?_⟩
 ·rw [aG] at ev
  cases em:ms[i]? with
  |none=>rw [em] at ev;cases ev
  |some m =>
   rw [em] at ev
   cases ev
   have eg:ms.getD i "" = m:=by rw [av,em];rfl
   obtain ⟨y,p,t,tv,e,a⟩:=hw.2.2 m (pm.mem_iff.mp (bg em))
   obtain ⟨dy,hy⟩:=a.ob
   have sa:=s1.trans s'
   have dg:DGet H' dw (.str m) (w9 W (.inr m)):=DGet.k (k:=.inr m) (sa _ _ hh.w)
   rw [e] at dg
   rw [eg] at hR
   exact exI rfl ⟨x,qq,dx,_,_,rfl,sa _ _ hx,T.clH,T.naHw,zx,exI rfl ⟨dw,exI rfl ⟨dg,y,qx,dy,_,_,rfl,sa _ _ hy,T.clW,T.naWw,ur,exI rfl ⟨rfl,_,rfl,hR H' (Same.refl _)⟩⟩⟩⟩
 ·rw [qvc ms "" V.str λs=>decide (V.str (wh s)=V.str n)] at fp
  exact k p H' ms (xf s1 np) (s1.trans s') pm srt fp
theorem Z8 (hs:List Int):vm (hs.map V.int) none (some (-1))=hs.dropLast.map V.int:=by
 unfold vm
 rw [ae]
 have e:HT.sIx hs.length hs.length (some (-1))=hs.length-1:=by
  show (if (-1:Int)<0 then ((-1:Int)+(hs.length:Int)).toNat else min (-1:Int).toNat hs.length)=hs.length-1
  rw [al (by decide)]
  lia
 rw [e,HT.sIx_none,List.drop_zero,eO,←fk,←List.dropLast_eq_take]
def Z5 (C CR CW CN CL CS:Aj):Sp:=λvs H Q E=>∃(x dr dw dd:Aj) (R W:List (Key×V)) (D:List V) (n:Str) (ss:List Str) (wh:Str→Str) (ps:Str→Int×Int),vs=[.ref x,.str n]∧Hse C H x dr dw dd R W D∧Refs D∧R.length≤1000∧D.length≤1000000∧WksAt CW H W ss wh ps∧(∀s∈ss,0≤(ps s).1∧(ps s).1≤1000000∧1≤(ps s).2∧(ps s).2≤1000000)∧(w9 R (.inr n)=none→E (.ref CN) none H) ∧
 (∀v,w9 R (.inr n)=some v→∃r hs,v=.ref r∧RoadAt CR H r hs∧(¬ xj hs.dropLast→∀H',Same H H'→E (.ref CL) none H')∧(xj hs.dropLast →
  ((∃s∈ss,wh s=n∧((hs.dropLast.length:Int)-1)*(ps s).2<(ps s).1)→∀H',Same H H'→E (.ref CS) none H')∧((∀s∈ss,wh s=n→¬ ((hs.dropLast.length:Int)-1)*(ps s).2<(ps s).1)→∀H',RDeed C CR H H' x dr dw dd R W D n hs.dropLast→Q .non H')))
theorem qyr {f:Aj}{fd:Ad}(F:Fun K "narrow" "House.narrow" s_House_narrow f fd)(T:Txt K mg qf qh qw q8 qd ww wx qt wv q9 qb wb qz qc qx qq)(c_road_called:MCal P w K mg base qq "road_called" 1 (zr qq q9 true))(c_corners:MCal P w K mg base qc "corners" 1 (jt qc))(c_Road:CCal P w K mg base "Road" qc 2 (uh K qh qc))(c_width:MCal P w K mg base qc "width" 1 (y7 qc))(c_walkers_on:MCal P w K mg base qq "walkers_on" 1 (spOn qq qx))(c_less:Cal P w K mg base "less" 2 (qkw K qw))(c_do:MCal P w K mg base qq "do" 2 (Zk qq)) :
  FnOk P w K mg base (CXE P w) 4 f fd ["self","name"] (Z5 qq qc qx q9 qh wb):=by
 have sc:=W5
 refine F.okX sc (λvs H Q E h=>by obtain ⟨x,dr,dw,dd,R,W,D,n,ss,wh,ps,rfl,_⟩:=h;rfl) (λcdv A outer s H vs Q E hr h=>?_)
 obtain ⟨x,dr,dw,dd,R,W,D,n,ss,wh,ps,rfl,hh,rf,lR,lD,hw,hps,kx,k⟩:=h
 obtain ⟨dx,hx⟩:=hh.ob
 refine ⟨_,(qk (wn (i:=2) sc.nd rfl (by walk_at "loc") (j7 c_Road (hr.mono (by decide)) rfl qy (v9 (yn Qu (vf (xz (pv 0) T.clH c_road_called (hr.mono (by decide)) qy (qr (pv 1) qj)) T.cl c_corners (hr.mono (by decide)) qy) Qz (Qp (qz3 Jw qu))) qj)))
   (qk (wn (i:=3) sc.nd rfl (by walk_at "loc") (zm (vg (vf (pv 2) T.cl c_width (hr.mono (by decide)) qy) (w6 qu qj))))
   (qk (xh (qxn (wp (qqm (K:=K) rfl rfl) rfl T.any_ PyProof.Rows.boot_any (xx (jf (M:=[0,3]) rfl rfl (by walk_at "cap") (by walk_at "has") (by walk_at "cix") rfl (by decide +kernel) rfl (show List.Nodup (["walker","self","end"]:List Str) by decide +kernel) (Qm (xz (pv 0) T.clH c_walkers_on (hr.mono (by decide)) qy (qr (pv 1) qj))) (λ_ _ _ _ _=>(wu c_less (hr.mono (by decide)) rfl qkd (qr (pv 2) (xx (uz (K:=K) rfl (jg (vh hr) (uz (K:=K) rfl (pv 1) rfl) (pv 0) (λ_ _=>rfl)) rfl) qj))))) qj))) (wq (zc rfl T.x_Stood x8 rfl T.g_Stood (w6 xn qj))) w4)
   (wq (xg (xz (pv 0) T.clH c_do (hr.mono (by decide)) qy (xx (ux (jp (pv 1) (pv 2) y8) rfl rfl (λz=>nomatch z) (by decide)) (xx vd qj)))))))),?_⟩
 refine ⟨_,rfl,x,dx,_,rfl,hx,xb (by decide +kernel) (by decide +kernel) (by decide +kernel),_,rfl,x,dr,dw,dd,R,W,D,n,rfl,hh,λv e=>?_,kx⟩
 obtain ⟨r0,hs,rfl,hR,kl,k⟩:=k v e
 obtain ⟨dy,l,h1,h2⟩:=id hR
 refine ⟨r0,dy,exI rfl ⟨h1,zy (by decide +kernel),r0,hs,rfl,hR,λp np=>?_⟩⟩
 have s1:Same H (upd H p (.lst (hs.map V.int))):=Same.upd np
 have f1:upd H p (.lst (hs.map V.int)) p=some (.lst (hs.map V.int)):=qm
 generalize upd H p (.lst (hs.map V.int))=H1 at s1 f1
 refine exI rfl (exI rfl ⟨p,exI rfl ⟨SqL.of f1,λp2 n2=>?_⟩⟩)
 have s2:Same H (upd H1 p2 (.lst (vm (hs.map V.int) none (some (-1))))):=s1.trans (Same.upd n2)
 have f2:upd H1 p2 (.lst (vm (hs.map V.int) none (some (-1)))) p2=some (.lst (hs.dropLast.map V.int)):=by rw [qm,Z8]
 generalize upd H1 p2 (.lst (vm (hs.map V.int) none (some (-1))))=H2 at s2 f2
 refine λr d0 nr nd0 ne0=>Z2 (H:=H2) (hs:=hs.dropLast) f2 nr nd0 (λokl H3 s3 R3=>?_) λz H3 s3=>kl z H3 (s2.trans s3)
 obtain ⟨ks,kg⟩:=k okl
 have s23:=s2.trans s3
 obtain ⟨dr3,l3,r31,r32⟩:=id R3
 refine exI rfl ⟨r,dr3,exI rfl ⟨r31,zy (by decide +kernel),r,hs.dropLast,rfl,R3,sz2,λe1 ne1=>?_⟩⟩
 have s4:Same H3 (upd H3 e1 (.tup [.int ((hs.dropLast.length:Int)-1),.int 1])):=Same.upd ne1
 have f4:upd H3 e1 (.tup [.int ((hs.dropLast.length:Int)-1),.int 1]) e1=some (.tup [.int ((hs.dropLast.length:Int)-1),.int 1]):=qm
 generalize upd H3 e1 (.tup [.int ((hs.dropLast.length:Int)-1),.int 1])=H4 at s4 f4
 have s24:=s23.trans s4
 refine exI rfl ⟨x,dx,exI rfl ⟨s24 _ _ hx,xb (by decide +kernel) (by decide +kernel) (by decide +kernel),exI rfl ⟨x,dr,dw,dd,R,W,D,n,ss,wh,ps,rfl,hh.same s24,hw.same s24,λq H5 ms nq s5 pm _ fq=>?_⟩⟩⟩
 have s25:=s24.trans s5
 have ol:=okl.2.1
 have o2:=okl.1
 have lm:ms.length<64:=by
  have a:=bq List.length hw.1
  rw [ae,ae] at a
  have b:=pm.length_eq
  have c:=hw.2.1
  lia
 have lf:=bY (λs=>decide (V.str (wh s)=V.str n)) ms
 let g:Str→Bool:=λs=>decide (((hs.dropLast.length:Int)-1)*(ps s).2<(ps s).1*1)
 let gv:V→V:=λv=>match v with|.str s=>.bl (g s)|_=>.non
 refine ⟨q,rfl,⟨_,SqL.of fq⟩,qu3 gv (SqL.of fq) (by rw [ae];lia) (λv H' RR hv s' hR=>?_) λp6 n6=>?_⟩
 ·obtain ⟨m,hm,rfl⟩:=aJ.mp hv
  have mm:m∈ss:=pm.mem_iff.mp (bw.mp hm).1
  obtain ⟨y,p,t,tv,e,a⟩:=hw.2.2 m mm
  obtain ⟨b0,b1,b2,b3⟩:=hps m mm
  obtain ⟨dy,hy⟩:=a.ob
  have sa:=s25.trans s'
  have dg:DGet H' dw (.str m) (w9 W (.inr m)):=DGet.k (k:=.inr m) (sa _ _ hh.w)
  rw [e] at dg
  have sm:∀z:Int,-(2 ^ 64)≤z→z≤2 ^ 64→Sm 65 z:=λz z1 z2=>Sm.small z1 z2 (by decide)
  exact ⟨_,rfl,_,rfl,x,qq,dx,_,_,rfl,sa _ _ hx,T.clH,T.naHw,zx,_,rfl,dw,_,rfl,dg,y,qx,dy,_,_,rfl,sa _ _ hy,T.clW,T.naWp,j9,e1,p,_,_,_,_,rfl,SqT.of (s' _ _ (s5 _ _ f4)),SqT.of (sa _ _ a.pt),(sm _ (by lia) (by lia)).ok (sm _ (by lia) (by lia)) (by decide),(sm _ (by lia) (by lia)).ok (sm 1 (by decide) (by decide)) (by decide),λ_ _=>hR,λz=>absurd z (by lia)⟩
 ·have s6:Same H5 (upd H5 p6 (.lst ((((ms.filter λs=>decide (V.str (wh s)=V.str n)).map V.str).map gv)))):=Same.upd n6
  have e6:(((ms.filter λs=>decide (V.str (wh s)=V.str n)).map V.str).map gv)=((ms.filter λs=>decide (V.str (wh s)=V.str n)).map g).map V.bl:=by
   rw [bP,bP]
   rfl
  have f6:upd H5 p6 (.lst ((((ms.filter λs=>decide (V.str (wh s)=V.str n)).map V.str).map gv))) p6=some (.lst (((ms.filter λs=>decide (V.str (wh s)=V.str n)).map g).map V.bl)):=by rw [qm,e6]
  generalize upd H5 p6 (.lst ((((ms.filter λs=>decide (V.str (wh s)=V.str n)).map V.str).map gv)))=H6 at s6 f6
  have s26:=s25.trans s6
  refine ⟨p6,(ms.filter λs=>decide (V.str (wh s)=V.str n)).map g,rfl,SqL.of f6,_,rfl,?_⟩
  cases ea:((ms.filter λs=>decide (V.str (wh s)=V.str n)).map g).any id with
  |true =>
   refine j3 ⟨sz1,ks ?_ H6 s26⟩
   obtain ⟨b,hb,hb1⟩:=cN.mp ea
   obtain ⟨s,hs',rfl⟩:=aJ.mp hb
   obtain ⟨hs1,hs2⟩:=bw.mp hs'
   have hs2:=cF hs2
   have:=cF (show g s=true from hb1)
   exact ⟨s,pm.mem_iff.mp hs1,by cases hs2;rfl,by rw [Int.mul_one] at this;exact this⟩
  |false =>
   refine yy ?_
   refine exI rfl ⟨x,dx,exI rfl ⟨s26 _ _ hx,xb (by decide +kernel) (by decide +kernel) (by decide +kernel),λc1 n1=>(exI rfl (exI rfl ⟨qm,[(.inr n,.ref r)],rfl,(show 1≤15 by decide),?_⟩))⟩⟩
   have R6:RoadAt qc H6 r hs.dropLast:=R3.same (s4.trans (s5.trans s6))
   have R7:RoadAt qc (upd H6 c1 (.dK [])) r hs.dropLast:=R6.same (Same.upd n1)
   obtain ⟨H7,hH7⟩:∃H7,H7=upd H6 c1 (.dK []):=⟨_,rfl⟩
   have s7:Same (upd H6 c1 (.dK [])) H7:=by rw [hH7];exact Same.refl _
   rw [←hH7] at R7 ⊢
   have e0:Qq [] [((Sum.inr n:Key),V.ref r)]=[((Sum.inr n:Key),V.ref r)]:=rfl
   rw [e0]
   have lW:W.length≤1000:=by have:=hw.2.1;lia
   refine Zt (E:=E) (hh.same s26) n1 s7 R7 okl rf lR lW lD λH' tp q1 q2 b1 b2 b3 b4 b5 b6 b7 b8 b9 kb=>kg (λs hs1 hs2 z=>?_) H' (RDeed.pre ⟨r,tp,q1,q2,b1,b2,b3,b4,b5,b6,b7,b8,b9,kb⟩ s26)
   have:((ms.filter λs=>decide (V.str (wh s)=V.str n)).map g).any id=true:=cN.mpr ⟨g s,aJ.mpr ⟨s,bw.mpr ⟨pm.mem_iff.mpr hs1,bd (by rw [hs2])⟩,rfl⟩,bd (by rw [Int.mul_one];exact z)⟩
   rw [ea] at this
   cases this
end
section
variable {P:Ac}{w:Ah}{K:Aa}{mg:Str→Option Ag}{base:Heap}{qf:Aj}{qh:Aj}{qw:Aj}{q8:Aj}{qd:Aj}{ww:Aj}{wx:Aj}{qt:Aj}{wv:Aj}{q9:Aj}{qb:Aj}{wb:Aj}{qz:Aj}{qc:Aj}{qx:Aj}{qq:Aj}
def wq2 (C:Aj)(H H':Hp)(x dr dw dd:Aj)(R W:List (Key×V))(D:List V)(cs1 cs2:List (Key×V)):Prop:=∃tp q1 q2,H tp=none∧H q1=none∧H q2=none∧Hse C H' x dr dw dd (exK R cs1) (exK W cs2) (D++[.ref tp])∧H' tp=some (.tup [.ref q1,.ref q2])∧H' q1=some (.dK (bfK R cs1))∧H' q2=some (.dK (bfK W cs2))∧q1≠q2∧Kb [dr,dw,dd] H H'
theorem do_gen {C:Aj}{H H4:Hp}{x dr dw dd c1 c2:Aj}{R W cs1 cs2:List (Key×V)}{D:List V}{Q:VK}{E:XK}(hh:Hse C H x dr dw dd R W D)(s4:Same H H4)(n1:H c1=none)(n2:H c2=none)(e1:H4 c1=some (.dK cs1))(e2:H4 c2=some (.dK cs2))(c12:c1≠c2)(nd1:(cs1.map (·.1)).Nodup)(nd2:(cs2.map (·.1)).Nodup)(lR:R.length≤1000)(lW:W.length≤1000)(l1:cs1.length≤1000)(l2:cs2.length≤1000)(lD:D.length≤1000000)(ok1:qx3 R cs1)(ok2:qx3 W cs2)
  (k:∀H',wq2 C H H' x dr dw dd R W D cs1 cs2→Kb [dr,dw,dd,c1,c2] H4 H'→Rd H' c2 (.dK cs2)→(∀H5,Kb [c2] H' H5→wq2 C H H5 x dr dw dd R W D cs1 cs2)→Q .non H'):Zk C [.ref x,.ref c1,.ref c2] H4 Q E:=by
 have hh4:=hh.same s4
 refine ⟨x,dr,dw,dd,c1,c2,R,W,cs1,cs2,D,rfl,hh4,.inl e1,.inl e2,c12,(qg hh.r n1).symm,(qg hh.w n1).symm,(qg hh.r n2).symm,(qg hh.w n2).symm,nd1,nd2,lR,lW,l1,l2,lD,ok1,ok2,λH' tp q1 q2 a1 a2 a3 a4 a5 a6 a7 a8 rd a9=>?_⟩
 have no:∀b,H4 b=none→H b=none:=λb e=>xf s4 e
 have kb:Kb [dr,dw,dd] H H':=λb o nb e=>a9 b o (λz=>by
  simp only [am,ao,bv] at z nb
  rcases z with z|z|z|z|z
  ·exact nb (.inl z)
  ·exact nb (.inr (.inl z))
  ·exact nb (.inr (.inr z))
  ·rw [z,n1] at e;cases e
  ·rw [z,n2] at e;cases e) (s4 _ _ e)
 have ne4:∀b,H4 b=none→b∉[c2]:=λb e z=>by rw [aq.mp z,e2] at e;cases e
 have neH:∀b o,H b=some o→b∉[c2]:=λb o e z=>by rw [aq.mp z,n2] at e;cases e
 refine k H' ⟨tp,q1,q2,no _ a1,no _ a2,no _ a3,a4,a5,a6,a7,a8,kb⟩ a9 rd λH5 k5=>?_
 obtain ⟨dx,ex⟩:=hh.ob
 exact ⟨tp,q1,q2,no _ a1,no _ a2,no _ a3,a4.kb k5 ⟨neH _ _ ex,neH _ _ hh.r,neH _ _ hh.w,neH _ _ hh.d⟩,k5 _ _ (ne4 _ a1) a5,k5 _ _ (ne4 _ a2) a6,k5 _ _ (ne4 _ a3) a7,a8,λb o nb e=>k5 _ _ (neH _ _ e) (kb b o nb e)⟩
def cntT (tv:List (List Key×V))(q:Int×Int):V:=(w9 tv [.inl q.1,.inl q.2]).getD (.int 0)
def Qn (C CW CN CB:Aj):Sp:=λvs H Q E=>∃(x dr dw dd a:Aj) (R W:List (Key×V)) (D:List V) (n:Str) (t b:Int),vs=[.ref x,.str n,.ref a]∧Hse C H x dr dw dd R W D∧H a=some (.tup [.int t,.int b])∧(w9 W (.inr n)=none→E (.ref CN) none H) ∧
 (∀v,w9 W (.inr n)=some v→∃y whose p pt t' tv,v=.ref y∧WkAt CW H y whose p pt t' tv∧(b<1→E (.ref CB) none H)∧(1≤b→Sm 8000 b∧∀H',Same H H'→Q (cntT tv (wf t b)) H'))
theorem wqv {f:Aj}{fd:Ad}(F:Fun K "stood" "House.stood" s_House_stood f fd)(T:Txt K mg qf qh qw q8 qd ww wx qt wv q9 qb wb qz qc qx qq)(c_walker_called:MCal P w K mg base qq "walker_called" 1 (zr qq qb false))(c_lowest:Cal P w K mg base "lowest" 2 (j5 qw)) :
  FnOk P w K mg base (CXE P w) 3 f fd ["self","name","point"] (Qn qq qx qb qw):=by
 have sc:=Y7
 refine F.okX sc (λvs H Q E h=>by obtain ⟨x,dr,dw,dd,a,R,W,D,n,t,b,rfl,_⟩:=h;rfl) (λcdv A outer s H vs Q E hr h=>?_)
 obtain ⟨x,dr,dw,dd,a,R,W,D,n,t,b,rfl,hh,ha,kx,k⟩:=h
 obtain ⟨dx,hx⟩:=hh.ob
 refine ⟨_,(qk (wn (i:=3) sc.nd rfl (by walk_at "loc") (xz (pv 0) T.clH c_walker_called (hr.mono (by decide)) qy (qr (pv 1) qj)))
   (wq (wr (qvg (vh hr) (zq (pv 3) rfl) (wu c_lowest (hr.mono (by decide)) rfl qy (v9 (xp zb (pv 2) qu (λ_ _=>rfl)) (v9 (xp zb (pv 2) qu (λ_ _=>rfl)) qj))) qu ⟨rfl,rfl,rfl,rfl⟩)))),?_⟩
 refine ⟨_,rfl,x,dx,_,rfl,hx,xb (by decide +kernel) (by decide +kernel) (by decide +kernel),_,rfl,x,dr,dw,dd,R,W,D,n,rfl,hh,λv e=>?_,kx⟩
 obtain ⟨y,whose,p,pt,t',tv,rfl,hW,kb,k⟩:=k v e
 obtain ⟨dy,hy⟩:=hW.ob
 refine ⟨_,rfl,y,qx,dy,_,_,rfl,hy,T.clW,T.naWt,Z7,t',rfl,.inr ⟨_,.inl hW.tm⟩,_,rfl,_,_,_,_,rfl,rfl,SqT.of ha,rfl,_,rfl,_,_,_,_,rfl,rfl,SqT.of ha,rfl,t,b,rfl,λb1=>?_,λb1=>kb b1⟩
 obtain ⟨sm,k⟩:=k b1
 refine ⟨sm.mono (by decide),λq nq=>?_⟩
 have s1:Same H (upd H q (.tup (ptV (wf t b)))):=Same.upd nq
 have f1:upd H q (.tup (ptV (wf t b))) q=some (.tup (([.inl (wf t b).1,.inl (wf t b).2]:List Key).map kV)):=qm
 generalize upd H q (.tup (ptV (wf t b)))=H1 at s1 f1
 exact ⟨_,DGet.t (s1 _ _ hW.tm) f1,k H1 s1⟩
end
section
variable {P:Ac}{w:Ah}{K:Aa}{mg:Str→Option Ag}{base:Heap}{qf:Aj}{qh:Aj}{qw:Aj}{q8:Aj}{qd:Aj}{ww:Aj}{wx:Aj}{qt:Aj}{wv:Aj}{q9:Aj}{qb:Aj}{wb:Aj}{qz:Aj}{qc:Aj}{qx:Aj}{qq:Aj}
def KnD (H H':Hp):Prop:=∀b o,(∀kv,o≠HO.dK kv)→H b=some o→H' b=some o
def KnL (H H':Hp):Prop:=∀b o,(∀L,o≠HO.lst L)→H b=some o→H' b=some o
theorem qkk {K:Aa}{M:List Nat}{a:Aj}{ms:List Str}{tk te:TE}{σ:St}{H:Hp}{Q:VK}(G:Str→V→Hp→Prop)(gs:∀s v H H',G s v H→KnD H H'→G s v H')(hS:H a=some (.lst (ms.map V.str)))(hz:ms.length≤1000000)(nd:ms.Nodup)
  (he:∀(s:Str) (H':Hp) (R:V→V→Hp→Prop),s∈ms→Same H H'→(∀v H'',Same H' H''→G s v H''→R (.str s) v H'')→tk (zd M σ (some (.str s))) H' λy H4=>te (zd M σ (some (.str s))) H4 λz H5=>R y z H5)
  (k:∀p kvs H',H p=none→Same H H'→H' p=some (.dK kvs)→kvs.map (·.1)=ms.map Sum.inr→(∀kv∈kvs,∃s,s∈ms∧kv.1=.inr s∧G s kv.2 H')→Q (.ref p) H'):qwn (Itl K a) M tk te σ H Q:=by
 intro p np
 have big:(1000000:Nat)<sizeLine:=by decide
 refine ⟨λi m ys H2=>i≤ms.length∧m=ms.length-i∧ys.map (·.1)=(ms.take i).map Sum.inr∧(∀kv∈ys,∃s,s∈ms∧kv.1=.inr s∧G s kv.2 H2)∧Same H H2∧H2 p=some (.dK ys),⟨ms.length,aE _,rfl,rfl,(λkv z=>nomatch z),Same.upd np,qm⟩,?_⟩
 rintro i m ys H2 ⟨hi,rfl,hk,hG,sm,hp⟩
 have hl:ys.length=i:=by
  have:=bq List.length hk
  rw [ae,ae,bA] at this
  lia
 refine ⟨hp,by lia,?_⟩
 by_cases hlt:i<ms.length
 ·have em:(ms.map V.str)[i]?=some (.str ms[i]):=by rw [aG,ag hlt];rfl
  refine .inr ⟨⟨_,_,SqL.of (sm _ _ hS),em⟩,?_⟩
  rintro v H3 ⟨rfl,hv⟩
  have ev:=hv _ (SqL.of (sm _ _ hS))
  rw [em] at ev
  cases ev
  refine he ms[i] _ _ (bS _) sm λv H4 s4 g4=>⟨.inr ms[i],rfl,s4 _ _ hp,ms.length-(i+1),by lia,by lia,rfl,?_⟩
  have hn:w9 ys (.inr ms[i])=none:=by
   unfold w9
   rw [dY.mpr]
   ·rfl
   ·intro x hx z
    have z:x.1=.inr ms[i]:=by simpa using z
    have hx2:x.1∈(ms.take i).map (Sum.inr:Str→Key):=by rw [←hk];exact aJ.mpr ⟨x,hx,rfl⟩
    rw [z] at hx2
    obtain ⟨s,hs,es⟩:=aJ.mp hx2
    injection es with es
    obtain ⟨j,hj,ej⟩:=bL hs
    rw [bA] at hj
    rw [List.getElem_take] at ej
    have:=(eB nd).mp (ej.trans es)
    lia
  have kn:KnD H4 (upd H4 p (.dK (zu ys (.inr ms[i]) v))):=λb ob no e=>by
   rw [wz (λz=>by rw [z,s4 _ _ hp] at e;cases e;exact no _ rfl)]
   exact e
  rw [yb _ hn] at kn ⊢
  refine ⟨?_,λkv hkv=>?_,?_,qm⟩
  ·rw [aP,hk,dj,ag hlt,aP]
   rfl
  ·rcases aZ.mp hkv with hkv|hkv
   ·obtain ⟨s,h1,h2,h3⟩:=hG kv hkv
    exact ⟨s,h1,h2,gs _ _ _ _ (gs _ _ _ _ h3 λb ob _ e=>s4 _ _ e) kn⟩
   ·rw [aq.mp hkv]
    exact ⟨ms[i],bS _,rfl,gs _ _ _ _ g4 kn⟩
  ·intro b ob e
   rw [wz (qg e np)]
   exact s4 _ _ (sm _ _ e)
 ·have:i=ms.length:=by lia
  subst this
  rw [cL] at hk
  exact .inl ⟨⟨_,SqL.of (sm _ _ hS),by rw [ae];exact ah _⟩,k p ys H2 np sm hp hk hG⟩
theorem wq0 {M:List Nat}{d:Aj}{o:Obj}{cs:List (Key×V)}{gg:TG}{te:TE}{σ:St}{H:Hp}{Q:VK}(G:Nat→V→Hp→Prop)(gs:∀i v H H',G i v H→KnL H H'→G i v H')(hz:cs.length≤1000000)(hd:H d=some (.frz o (.dK cs)))
  (he:∀(i:Nat) (c:Key×V) (q:Aj) (H':Hp) (R:VK),cs[i]?=some c→Same H H'→H' q=none→(∀v H'',Same H' H''→G i v H''→R v H'')→gg (.ref q) (yd M σ none none) (upd H' q (.tup [kV c.1,c.2])) λσ4 H4=>(∃a b,σ4=yd M σ (some a) (some b))∧te σ4 H4 R)
  (k:∀p ys H',H p=none→Same H H'→H' p=some (.lst ys)→ys.length=cs.length→(∀j v,ys[j]?=some v→G j v H')→Q (.ref p) H'):qk0 (ItDI d o cs) M gg te σ H Q:=by
 intro p np
 have big:(1000000:Nat)<sizeLine:=by decide
 refine ⟨λi m ys H2=>i≤cs.length∧m=cs.length-i∧ys.length=i∧Same H H2∧H2 p=some (.lst ys)∧∀j v,ys[j]?=some v→G j v H2,⟨cs.length,aE _,rfl,rfl,Same.upd np,qm,λj v e=>by cases e⟩,?_⟩
 rintro i m ys H2 ⟨hi,rfl,hl,sm,hp,hG⟩
 refine ⟨hp,by lia,?_⟩
 by_cases hlt:i<cs.length
 ·refine .inr ⟨⟨sm _ _ hd,hlt⟩,?_⟩
  rintro v H3 ⟨q,c,nq,rfl,ec,rfl⟩
  refine he i c q H2 _ ec sm nq λv H4 s4 g4=>⟨s4 _ _ hp,cs.length-(i+1),by lia,by lia,rfl,by rw [au];show ys.length+1=_;lia,?_,qm,λj v' ej=>?_⟩
  ·intro b ob e
   rw [wz (qg e np)]
   exact s4 _ _ (sm _ _ e)
  ·have kn:KnL H4 (upd H4 p (.lst (ys++[v]))):=λb ob no e=>by
    rw [wz (λz=>by rw [z,s4 _ _ hp] at e;cases e;exact no _ rfl)]
    exact e
   rcases dN j ys.length with hj|hj
   ·rw [bn hj] at ej
    exact gs _ _ _ _ (gs _ _ _ _ (hG j v' ej) λb ob _ e=>s4 _ _ e) kn
   ·rw [bb hj] at ej
    have:j-ys.length=0:=by
     rcases Nat.eq_zero_or_pos (j-ys.length) with z|z
     ·exact z
     ·rw [aY (by show 1≤_;lia)] at ej;cases ej
    rw [this] at ej
    cases ej
    have:j=i:=by lia
    subst this
    exact gs _ _ _ _ g4 kn
 ·have:i=cs.length:=by lia
  subst this
  exact .inl ⟨⟨sm _ _ hd,ah _⟩,k p ys H2 np sm hp hl hG⟩
end
section
variable {P:Ac}{w:Ah}{K:Aa}{mg:Str→Option Ag}{base:Heap}{qf:Aj}{qh:Aj}{qw:Aj}{q8:Aj}{qd:Aj}{ww:Aj}{wx:Aj}{qt:Aj}{wv:Aj}{q9:Aj}{qb:Aj}{wb:Aj}{qz:Aj}{qc:Aj}{qx:Aj}{qq:Aj}
def WksT (CW:Aj)(H:Hp)(W:List (Key×V))(ss:List Str)(wh:Str→Str)(ps:Str→Int×Int)(tvs:Str→List (List Key×V)):Prop:=W.map (·.1)=ss.map Sum.inr∧W.length<64∧ss.Nodup∧∀s∈ss,TmOk (tvs s)∧∃y p t,w9 W (.inr s)=some (.ref y)∧WkAt CW H y (wh s) p (ps s) t (tvs s)
theorem WksT.at {CW:Aj}{H:Hp}{W:List (Key×V)}{ss:List Str}{wh:Str→Str}{ps:Str→Int×Int}{tvs:Str→List (List Key×V)}(h:WksT CW H W ss wh ps tvs):WksAt CW H W ss wh ps:=⟨h.1,h.2.1,λs hs=>by
 obtain ⟨_,y,p,t,e,a⟩:=h.2.2.2 s hs
 exact ⟨y,p,t,tvs s,e,a⟩⟩
def GoneAt (CW:Aj)(hs:List Int)(m:Nat)(whose:Str)(ps:Str→Int×Int)(tvs:Str→List (List Key×V))(s:Str)(v:V)(H:Hp):Prop:=∃y p t tv,v=.ref y∧WkAt CW H y whose p (itP hs (ps s) m) t tv∧TmOk tv∧qjq hs (ps s) m (tvs s) tv
def KnW (H H':Hp):Prop:=∀b o,(∀kv,o≠HO.dK kv)→(∀u kv,o≠HO.frz u (.dK kv))→(∀L,o≠HO.lst L)→H b=some o→H' b=some o
theorem GoneAt.kn {CW:Aj}{hs:List Int}{m:Nat}{whose:Str}{ps:Str→Int×Int}{tvs:Str→List (List Key×V)}{s:Str}{v:V}{H H':Hp}(h:GoneAt CW hs m whose ps tvs s v H)(k:KnW H H'):GoneAt CW hs m whose ps tvs s v H':=by
 obtain ⟨y,p,t,tv,e,w,a,b⟩:=h
 obtain ⟨dx,ob⟩:=w.ob
 exact ⟨y,p,t,tv,e,⟨⟨dx,k _ _ (λ_ z=>by cases z) (λ_ _ z=>by cases z) (λ_ z=>by cases z) ob⟩,k _ _ (λ_ z=>by cases z) (λ_ _ z=>by cases z) (λ_ z=>by cases z) w.pt,k _ _ (λ_ z=>by cases z) (λ_ _ z=>by cases z) (λ_ z=>by cases z) w.tm⟩,a,b⟩
def qvd (C CR CW CN CC:Aj):Sp:=λvs H Q E=>∃(x dr dw dd:Aj) (R W:List (Key×V)) (D:List V) (whose:Str) (m:Int),vs=[.ref x,.str whose,.int m]∧Hse C H x dr dw dd R W D∧R.length≤1000∧D.length≤1000000∧(w9 R (.inr whose)=none→E (.ref CN) none H) ∧
 (∀v,w9 R (.inr whose)=some v→∃r hs,v=.ref r∧RoadAt CR H r hs∧(¬ Within m 0 (some 1000000000000000000000000000000000000000000000000000000000000)→E (.ref CC) none H) ∧
  (Within m 0 (some 1000000000000000000000000000000000000000000000000000000000000)→∃ss wh ps tvs,WksT CW H W ss wh ps tvs∧(∀s∈ss,wh s=whose→HPt hs (ps s)) ∧
   ∀(H':Hp) (l:Aj) (cs:List (Key×V)) (ms:List Str) (ys:List V),ms.Perm ss→ms.Pairwise (λx y=>¬ y.cps.toList<x.cps.toList)→wq2 C H H' x dr dw dd R W D [] cs→cs.map (·.1)=(ms.filter λs=>decide (V.str (wh s)=V.str whose)).map Sum.inr→(∀kv∈cs,∃s,s∈ss∧wh s=whose∧kv.1=.inr s∧GoneAt CW hs m.toNat whose ps tvs s kv.2 H') →
    H l=none→H' l=some (.lst ys)→ys.length=cs.length→(∀(j:Nat) v,ys[j]?=some v→∃kv a y p pt t tv,cs[j]?=some kv∧v=.ref a∧H' a=some (.tup [kV kv.1,.ref p])∧kv.2=.ref y∧WkAt CW H' y whose p pt t tv)→Q (.ref l) H'))
theorem qzz {f:Aj}{fd:Ad}(F:Fun K "together" "House.together" s_House_together f fd)(T:Txt K mg qf qh qw q8 qd ww wx qt wv q9 qb wb qz qc qx qq)(c_road_called:MCal P w K mg base qq "road_called" 1 (zr qq q9 true))(c_check_count:CalD P w K mg base "check_count" 1 (Zd qd))(c_walkers_on:MCal P w K mg base qq "walkers_on" 1 (spOn qq qx))(c_gone:MCal P w K mg base qx "gone" 6 (qw8 qx qc))(c_do:MCal P w K mg base qq "do" 2 (Zk qq)) :
  FnOk P w K mg base (CXE P w) 8 f fd ["self","whose","many"] (qvd qq qc qx q9 qd):=by
 have sc:=Qr
 refine F.okX sc (λvs H Q E h=>by obtain ⟨x,dr,dw,dd,R,W,D,whose,m,rfl,_⟩:=h;rfl) (λcdv A outer s H vs Q E hr h=>?_)
 obtain ⟨x,dr,dw,dd,R,W,D,whose,m,rfl,hh,lR,lD,kx,k⟩:=h
 obtain ⟨dx,hx⟩:=hh.ob
 obtain ⟨tg,g_FARTHEST⟩:=T.g_FARTHEST
 refine ⟨_,(qk (wn (i:=3) sc.nd rfl (by walk_at "loc") (xz (pv 0) T.clH c_road_called (hr.mono (by decide)) qy (qr (pv 1) qj)))
   (qk (xg (Yb c_check_count.all (hr.mono (by decide)) rfl qy (qr (pv 2) (w6 qu (qr (yq (v:=V.int 1000000000000000000000000000000000000000000000000000000000000) rfl g_FARTHEST ⟨_,rfl⟩) qj)))))
   (qk (W0 (i:=4) (M:=[0,2,3]) sc.nd rfl (by walk_at "loc") rfl rfl (by walk_at "cap") (by walk_at "has") (by walk_at "cix") rfl (by decide +kernel) rfl (show List.Nodup (["name","self","many","road"]:List Str) by decide +kernel) (Qm (xz (pv 0) T.clH c_walkers_on (hr.mono (by decide)) qy (qr (pv 1) qj))) (λ_ _ _ _ _=>(pv 0)) (λ_ _ _ _ _=>(xz (jg (vh hr) (uz (K:=K) rfl (pv 1) rfl) (pv 0) (λ_ _=>rfl)) T.clW c_gone (hr.mono (by decide)) qkd (qr (pv 3) (qr (pv 2) qj)))))
   (qk (xg (xz (pv 0) T.clH c_do (hr.mono (by decide)) qy (xx vd (qr (pv 4) qj))))
   (wq (wr (wxq (x := "name") (y2 := "walker") (M:=[]) rfl rfl (by walk_at "cap") (by walk_at "has") (by walk_at "cix") rfl (by decide +kernel) (λ_ _ _ _ _=>wzr (K:=K) (n:=2) rfl rfl (xk (xv (i:=0) (show List.Nodup (["name","walker"]:List Str) by decide +kernel) rfl (by walk_at "loc")) (xk (xv (i:=1) (show List.Nodup (["name","walker"]:List Str) by decide +kernel) rfl (by walk_at "loc")) zn))) (pi_di (pv 4)) (λ_ _ _ _ _=>(zm (qr (pv 0) (xx (uz (K:=K) rfl (pv 1) rfl) qj))))))))))),?_⟩
 refine ⟨_,rfl,x,dx,_,rfl,hx,xb (by decide +kernel) (by decide +kernel) (by decide +kernel),_,rfl,x,dr,dw,dd,R,W,D,whose,rfl,hh,λv e=>?_,kx⟩
 obtain ⟨r,hs,rfl,hR,kc,k⟩:=k v e
 refine ⟨_,rfl,m,0,.int (1000000000000000000000000000000000000000000000000000000000000),some (1000000000000000000000000000000000000000000000000000000000000),rfl,.inr ⟨1000000000000000000000000000000000000000000000000000000000000,rfl,rfl⟩,λwi=>?_,kc⟩
 obtain ⟨ss,wh,ps,tvs,hw,hps,k⟩:=k wi
 refine exI rfl ⟨x,dx,exI rfl ⟨hx,xb (by decide +kernel) (by decide +kernel) (by decide +kernel),exI rfl ⟨x,dr,dw,dd,R,W,D,whose,ss,wh,ps,rfl,hh,hw.at,λl H1 ms nl s1 pm srt fl=>?_⟩⟩⟩
 have nd:ms.Nodup:=pm.nodup_iff.mpr hw.2.2.1
 have ndf:=nd.filter λs=>decide (V.str (wh s)=V.str whose)
 have lm:ms.length<64:=by
  have a:=bq List.length hw.1
  rw [ae,ae] at a
  have b:=pm.length_eq
  have c:=hw.2.1
  lia
 have lf:=bY (λs=>decide (V.str (wh s)=V.str whose)) ms
 refine ⟨l,rfl,⟨_,SqL.of fl⟩,qkk (GoneAt qx hs m.toNat whose ps tvs) (λs v H H' g kn=>g.kn λb o n1 _ _ e=>kn b o n1 e) fl (by lia) ndf (λs H' RR hs' sm kR=>?_) λc2 cs H2 n2 s2 f2 ec hG=>?_⟩
 ·obtain ⟨hm,hq⟩:=bw.mp hs'
  have hq:wh s=whose:=by
   have:=cF hq
   injection this
  have hss:=pm.mem_iff.mp hm
  obtain ⟨tm,y,p,t,ey,wk⟩:=hw.2.2.2 s hss
  rw [hq] at wk
  obtain ⟨dy,hy⟩:=wk.ob
  have sa:=s1.trans sm
  have dg:DGet H' dw (.str s) (w9 W (.inr s)):=DGet.k (k:=.inr s) (sa _ _ hh.w)
  rw [ey] at dg
  refine exI rfl (exI rfl ⟨x,qq,dx,_,_,rfl,sa _ _ hx,T.clH,T.naHw,zx,exI rfl ⟨dw,exI rfl ⟨dg,y,dy,exI rfl ⟨sa _ _ hy,qzm (by decide +kernel) (by decide +kernel) (by decide +kernel),exI rfl (exI rfl ⟨y,r,p,t,whose,hs,ps s,tvs s,m,rfl,wk.same sa,tm,hR.same sa,hps s hss hq,wi.1,λH'' y' p' t' tv' ny s'' w'' tm' hit=>kR _ _ s'' ⟨y',p',t',tv',rfl,w'',tm',hit⟩⟩)⟩⟩⟩⟩)
 ·have s02:=s1.trans s2
  have n20:H c2=none:=xf s1 n2
  have ndk:(cs.map (·.1)).Nodup:=by
   rw [ec]
   exact bJ.mpr (ndf.imp λ{a b} h z=>h (by injection z))
  have lc:cs.length<64:=by
   have:=bq List.length ec
   rw [ae,ae] at this
   lia
  refine exI rfl ⟨x,dx,exI rfl ⟨s02 _ _ hx,xb (by decide +kernel) (by decide +kernel) (by decide +kernel),λc1 n1=>(exI rfl ?_)⟩⟩
  have s4:Same H2 (upd H2 c1 (.dK [])):=Same.upd n1
  have f1:upd H2 c1 (.dK []) c1=some (.dK []):=qm
  have c12:c1≠c2:=(qg f2 n1).symm
  have f24:=s4 _ _ f2
  generalize upd H2 c1 (.dK [])=H4 at s4 f1 f24
  dsimp only [Zc]
  have lW:W.length≤1000:=by have:=hw.2.1;lia
  refine do_gen (E:=E) hh (s02.trans s4) (xf s02 n1) n20 f1 f24 c12 br ndk lR lW (aE _) (by lia) lD (λi c ec hc=>nomatch ec) (λi c ec' hc=>?_) λH5 gd kb5 rd5 gp=>?_
  ·obtain ⟨_,_,_,y,_,_,_,ey,_⟩:=hG c (bg ec')
   rw [ey] at hc
   cases hc
  ·refine exI rfl ⟨c2,cs,rfl,rd5,λo H6 fz=>?_⟩
   have kn56:KnW H5 H6:=λb ob m1 m2 _ e=>by
    by_cases z:b=c2
    ·rcases rd5 with g|⟨u,g⟩ <;> (rw [z,g] at e;cases e)
     ·exact absurd rfl (m1 _)
     ·exact absurd rfl (m2 _ _)
    ·rw [fz.2 b z];exact e
   have hd4:=(s02.trans s4) _ _ hh.d
   have kn25:KnW H4 H5:=λb ob m1 m2 m3 e=>kb5 b ob (λz=>by
    simp only [am,ao,bv] at z
    rcases z with z|z|z|z|z
    ·rw [z,(s02.trans s4) _ _ hh.r] at e;cases e;exact m1 _ rfl
    ·rw [z,(s02.trans s4) _ _ hh.w] at e;cases e;exact m1 _ rfl
    ·rw [z,hd4] at e;cases e;exact m3 _ rfl
    ·rw [z,f1] at e;cases e;exact m1 _ rfl
    ·rw [z,f24] at e;cases e;exact m1 _ rfl) e
   have hG6:∀kv∈cs,∃s,s∈ss∧wh s=whose∧kv.1=.inr s∧GoneAt qx hs m.toNat whose ps tvs s kv.2 H6:=λkv hkv=>by
    obtain ⟨s,hs1,hs2,g⟩:=hG kv hkv
    obtain ⟨hm,hq⟩:=bw.mp hs1
    have hq:wh s=whose:=by
     have:=cF hq
     injection this
    exact ⟨s,pm.mem_iff.mp hm,hq,hs2,((g.kn λb o _ _ _ e=>s4 _ _ e).kn kn25).kn kn56⟩
   refine wq0 (λj v H=>∃kv a y p pt t tv,cs[j]?=some kv∧v=.ref a∧H a=some (.tup [kV kv.1,.ref p])∧kv.2=.ref y∧WkAt qx H y whose p pt t tv) (λj v H H' g kn=>?_) (by lia) fz.1 (λi c q H' RR ei sm nq kR=>?_) λl6 ys H7 n6 s7 f7 ly hy=>?_
   ·obtain ⟨kv,a,y,p,pt,t,tv,g1,g2,g3,g4,g5⟩:=g
    obtain ⟨d5,o5⟩:=g5.ob
    exact ⟨kv,a,y,p,pt,t,tv,g1,g2,kn _ _ (λ_ z=>by cases z) g3,g4,⟨⟨d5,kn _ _ (λ_ z=>by cases z) o5⟩,kn _ _ (λ_ z=>by cases z) g5.pt,kn _ _ (λ_ z=>by cases z) g5.tm⟩⟩
   ·obtain ⟨s,_,_,e1,y,p,t,tv,e2,wk,_,_⟩:=hG6 c (bg ei)
    have sq:Same H' (upd H' q (.tup [kV c.1,c.2])):=Same.upd nq
    refine ⟨q,exI rfl ⟨SqT.new,rfl,_,_,rfl,_,_,rfl,rfl,⟨_,_,rfl⟩,?_⟩⟩
    have wk':=wk.same (sm.trans sq)
    obtain ⟨dy,oy⟩:=wk'.ob
    generalize upd H' q (.tup [kV c.1,c.2])=H8 at sq wk' oy
    refine exI rfl (exI rfl ⟨y,qx,dy,_,_,e2,oy,T.clW,T.naWp,j9,sz2,λa na=>?_⟩)
    have sa:=sq.trans (Same.upd (o:=.tup [kV c.1,.ref p]) na)
    exact kR _ _ sa ⟨c,a,y,p,_,t,tv,ei,rfl,qm,e2,wk'.same (Same.upd na)⟩
   ·have kb7:Kb [c2] H5 H7:=λb ob nb e=>s7 _ _ (by rw [fz.2 b (λz=>nb (by simp [z]))];exact e)
    refine k H7 l6 cs ms ys pm srt (gp H7 kb7) ec (λkv hkv=>?_) ?_ f7 ly hy
    ·obtain ⟨s,a1,a2,a3,a4⟩:=hG6 kv hkv
     exact ⟨s,a1,a2,a3,a4.kn λb o _ _ _ e=>s7 _ _ e⟩
    ·cases q:H l6 with
     |none=>rfl
     |some o6 =>
      exfalso
      have nc:l6≠c2:=qg q n20
      obtain ⟨tp,q1,q2,_,_,_,hs5,_,_,_,_,kb⟩:=gd
      rw [fz.2 l6 nc] at n6
      by_cases z:l6∈[dr,dw,dd]
      ·simp only [am,ao,bv] at z
       rcases z with z|z|z
       ·rw [z,hs5.r] at n6;cases n6
       ·rw [z,hs5.w] at n6;cases n6
       ·rw [z,hs5.d] at n6;cases n6
      ·rw [kb _ _ z q] at n6;cases n6
end
section
variable {P:Ac}{w:Ah}{K:Aa}{mg:Str→Option Ag}{base:Heap}{qf:Aj}{qh:Aj}{qw:Aj}{q8:Aj}{qd:Aj}{ww:Aj}{wx:Aj}{qt:Aj}{wv:Aj}{q9:Aj}{qb:Aj}{wb:Aj}{qz:Aj}{qc:Aj}{qx:Aj}{qq:Aj}
theorem j0 {kvs:List (Key×V)}{k:Key}{v u:V}(h:w9 kvs k=some u):(zu kvs k v).map (·.1)=kvs.map (·.1):=by
 unfold zu
 rw [al (by rw [j4,h];rfl),bP]
 refine cw λkv _=>?_
 show (if kv.1=k then (kv.1,v) else kv).1=kv.1
 split <;> rfl
theorem wzw {kvs:List (Key×V)}{k:Key}{v u:V}(h:w9 kvs k=some u):(zu kvs k v).length=kvs.length:=by
 have:=bq List.length (j0 (v:=v) h)
 rwa [ae,ae] at this
theorem Kb.sql {K:Aa}{ch:List Aj}{H H':Hp}(k:Kb ch H H'){a:Aj}{xs:List V}(h:SqL K H a xs)(d:(∀H',SqL K H' a xs)∨a∉ch):SqL K H' a xs:=by
 rcases d with d|d
 ·exact d H'
 ·rcases h with (e|⟨u,e⟩)|e
  ·exact .inl (.inl (k _ _ d e))
  ·exact .inl (.inr ⟨u,k _ _ d e⟩)
  ·exact .inr e
def Dl (H:Hp)(ch:List Aj):Prop:=∀b∈ch,(∃kv,Rd H b (.dK kv))∨∃D,Refs D∧H b=some (.lst D)
theorem Dl.nil {H:Hp}:Dl H []:=λb hb=>nomatch hb
theorem Dl.cons {H:Hp}{a:Aj}{ch:List Aj}(h:(∃kv,Rd H a (.dK kv))∨∃D,Refs D∧H a=some (.lst D))(d:Dl H ch):Dl H (a::ch):=λb hb=>by
 rcases am.mp hb with rfl|hb
 ·exact h
 ·exact d b hb
theorem Hse.dl {C:Aj}{H:Hp}{x dr dw dd:Aj}{R W:List (Key×V)}{D:List V}(h:Hse C H x dr dw dd R W D)(rf:Refs D){ch:List Aj}(d:Dl H ch):Dl H (dr::dw::dd::ch):=.cons (.inl ⟨_,.inl h.r⟩) (.cons (.inl ⟨_,.inl h.w⟩) (.cons (.inr ⟨_,rf,h.d⟩) d))
theorem Dl.other {H:Hp}{ch:List Aj}(d:Dl H ch){a:Aj}{o:HO}(e:H a=some o)(n1:∀kv,o≠.dK kv)(n2:∀u kv,o≠.frz u (.dK kv))(n3:∀D,Refs D→o≠.lst D):a∉ch:=λz=>by
 rcases d a z with ⟨kv,y|⟨u,y⟩⟩|⟨D,rf,y⟩ <;> (rw [e] at y;injection y with y)
 ·exact n1 _ y
 ·exact n2 _ _ y
 ·exact n3 _ rf y
theorem Dl.tup {H H':Hp}{ch:List Aj}(d:Dl H ch)(k:Kb ch H H'){a:Aj}{xs:List V}(e:H a=some (.tup xs)):H' a=some (.tup xs):=k _ _ (d.other e (λ_ z=>by cases z) (λ_ _ z=>by cases z) (λ_ _ z=>by cases z)) e
theorem qu9 {hs:List Int}(ok:xj hs){D:List V}(rf:Refs D)(e:HO.lst (hs.map V.int)=HO.lst D):False:=by
 have e:hs.map V.int=D:=by injection e
 have l:=ok.1
 have m:V.int (hs[0]'(by lia))∈hs.map V.int:=aJ.mpr ⟨_,bS _,rfl⟩
 rw [e] at m
 obtain ⟨a,ea⟩:=rf _ m
 cases ea
theorem Dl.row {H H':Hp}{ch:List Aj}(d:Dl H ch)(k:Kb ch H H'){a:Aj}{hs:List Int}(ok:xj hs)(e:H a=some (.lst (hs.map V.int))):H' a=some (.lst (hs.map V.int)):=k _ _ (d.other e (λ_ z=>by cases z) (λ_ _ z=>by cases z) (λ_ rf z=>qu9 ok rf z)) e
theorem Dl.road {C:Aj}{H H':Hp}{ch:List Aj}(d:Dl H ch)(k:Kb ch H H'){r:Aj}{hs:List Int}(ok:xj hs)(h:RoadAt C H r hs):RoadAt C H' r hs:=by
 obtain ⟨dx,q,h1,h2⟩:=h
 exact ⟨dx,q,k _ _ (d.other h1 (λ_ z=>by cases z) (λ_ _ z=>by cases z) (λ_ _ z=>by cases z)) h1,d.row k ok h2⟩
theorem Dl.wk {C:Aj}{H H':Hp}{ch:List Aj}(d:Dl H ch)(k:Kb ch H H'){y:Aj}{n:Str}{p:Aj}{pt:Int×Int}{t:Aj}{tv:List (List Key×V)}(h:WkAt C H y n p pt t tv):WkAt C H' y n p pt t tv:=by
 obtain ⟨dx,e⟩:=h.ob
 have e2:=h.tm
 exact ⟨⟨dx,k _ _ (d.other e (λ_ z=>by cases z) (λ_ _ z=>by cases z) (λ_ _ z=>by cases z)) e⟩,d.tup k h.pt,k _ _ (d.other e2 (λ_ z=>by cases z) (λ_ _ z=>by cases z) (λ_ _ z=>by cases z)) e2⟩
theorem Kb.back {H H1 H2:Hp}{dr dw dd q1 q2:Aj}(k:Kb [dr,dw,dd] H H1)(k2:Kb [dr,dw,dd,q1,q2] H1 H2)(n1:H q1=none)(n2:H q2=none):Kb [dr,dw,dd] H H2:=λb o nb e=>k2 _ _ (λz=>by
 simp only [am,ao,bv] at z nb
 rcases z with z|z|z|z|z
 ·exact nb (.inl z)
 ·exact nb (.inr (.inl z))
 ·exact nb (.inr (.inr z))
 ·rw [z,n1] at e;cases e
 ·rw [z,n2] at e;cases e) (k _ _ nb e)
theorem qjh {W:List (Key×V)}{n:Key}{y:Aj}:exK W [(n,.ref y)]=zu W n (.ref y):=by
 show ex1 W (n,.ref y)=_
 unfold ex1
 rw [ai (λz=>by cases z)]
theorem wvp {W:List (Key×V)}{n:Key}{y:Aj}:qx3 W [(n,.ref y)]:=λi c ec hc=>by
 cases i with
 |zero=>cases ec;cases hc
 |succ i=>cases ec
theorem wz2 {W:List (Key×V)}:qx3 W []:=λi c ec hc=>nomatch ec
theorem nd_key {k:Key}{v:V}:([(k,v)].map (·.1)).Nodup:=ba.mpr ⟨ao,br⟩
theorem WDeed.undo {C CW CN:Aj}{H H1:Hp}{x dr dw dd:Aj}{R W:List (Key×V)}{D:List V}{n wh:Str}{p:Aj}{pt:Int×Int}{t:Aj}{tv:List (List Key×V)}{y0:Aj}{Q:VK}{E:XK}(h:WDeed C CW H H1 x dr dw dd R W D n wh p pt t tv)(hh:Hse C H x dr dw dd R W D)(e:w9 W (.inr n)=some (.ref y0))(lR:R.length≤1000)(lW:W.length≤1000)
  (k:∀H' W',(∀m,w9 W' m=w9 W m)→W'.map (·.1)=W.map (·.1)→Hse C H' x dr dw dd R W' D→Kb [dr,dw,dd] H H'→Q .non H'):qx0 C CN [.ref x] H1 Q E:=by
 obtain ⟨y,tp,q1,q2,n0,n1,n2,h1,ft,f1,f2,ne,_,kb⟩:=h
 rw [e] at f2
 have vn:w9 (zu W (.inr n) (.ref y)) (.inr n)=some (.ref y):=by rw [vb,al rfl]
 refine ⟨x,dr,dw,dd,_,_,_,rfl,h1,lR,by rw [wzw e];exact lW,(λz=>absurd z (cY _ (List.cons_ne_nil _ _))),λD' v ev=>?_⟩
 obtain ⟨e1,e2⟩:=List.append_inj' ev rfl
 cases e2
 refine ⟨tp,q1,q2,[],[(.inr n,.ref y0)],rfl,ft,.inl f1,.inl f2,ne,(qg hh.r n1).symm,(qg hh.w n1).symm,(qg hh.r n2).symm,(qg hh.w n2).symm,br,nd_key,aE _,(show 1≤1000 by decide),wz2,wvp,λH' hs' _ _ kb'=>?_⟩
 rw [qjh,←e1] at hs'
 refine k H' _ (λm=>?_) ?_ hs' (Kb.back kb kb' n1 n2)
 ·rw [vb,vb]
  by_cases z:m=.inr n
  ·rw [al z,z,e]
  ·rw [ai z,ai z]
 ·rw [j0 vn,j0 e]
theorem stN_a {n u m f:Nat}(h:m<f):stN n u m f=0:=al h
theorem stN_b {n u m f:Nat}(h:f≤m)(h2:f<u):stN n u m f=1-(if f=0 then 1 else 0):=by
 unfold stN
 rw [ai (by lia),al h2]
theorem stN_c {n u m f:Nat}(h:f≤m)(h2:u≤f):stN n u m f=(m-f)/(n-u)+1-(if f=0 then 1 else 0):=by
 unfold stN
 rw [ai (by lia),ai (by lia)]
theorem getR {g:Nat→Int}{n k:Nat}(hk:k<n):(((List.range n).map g).map V.int)[k]?=some (.int (g k)):=by
 rw [aG,aG,cv hk]
 rfl
def Jv (L f:Nat):Nat:=if f=0 then L else f
def Jz (L m f:Nat):Nat:=if m<Jv L f then 0 else (m-Jv L f)/L+1
def f1N (u m f j:Nat):Nat:=if 1≤f∧f<1+j∧f<u∧f≤m then 1 else 0
def f2N (n u m f j:Nat):Nat:=f1N u m f (n-1)+if u≤f∧f<u+j then Jz (n-u) m f else 0
theorem quz {u m f:Nat}:f1N u m f 0=0:=ai λz=>by lia
theorem qy0 {n u m f:Nat}:f2N n u m f 0=f1N u m f (n-1):=by
 unfold f2N
 rw [ai (λz=>by lia)]
 rfl
theorem f1_hit {u m f j:Nat}(h:1+j=f)(h2:f<u)(h3:f≤m):f1N u m f (j+1)=f1N u m f j+1:=by
 unfold f1N
 rw [al ⟨by lia,by lia,h2,h3⟩,ai (λz=>by lia)]
theorem qx1 {u m f j:Nat}(h:¬ (1+j=f∧f<u∧f≤m)):f1N u m f (j+1)=f1N u m f j:=by
 unfold f1N
 by_cases c:1≤f∧f<1+j∧f<u∧f≤m
 ·rw [al c,al ⟨c.1,by lia,c.2.2⟩]
 ·rw [ai c,ai λz=>by
   by_cases y:1+j=f
   ·exact h ⟨y,z.2.2⟩
   ·exact c ⟨z.1,by lia,z.2.2⟩]
theorem f2_hit {n u m f j:Nat}(h:u+j=f):f2N n u m f (j+1)=f2N n u m f j+Jz (n-u) m f:=by
 unfold f2N
 rw [al (show u≤f∧f<u+(j+1) by lia),ai (show ¬ (u≤f∧f<u+j) by lia)]
 rfl
theorem wzh {n u m f j:Nat}(h:u+j≠f):f2N n u m f (j+1)=f2N n u m f j:=by
 unfold f2N
 by_cases c:u≤f∧f<u+j
 ·rw [al c,al ⟨c.1,by lia⟩]
 ·rw [ai c,ai λz=>c ⟨z.1,by lia⟩]
theorem f2_end {n u m f:Nat}(hu:u<n):f2N n u m f (n-u)=if f<n then stN n u m f else 0:=by
 unfold f2N f1N
 by_cases a:f<n
 ·rw [al a]
  by_cases b:f<u
  ·rw [ai (show ¬ (u≤f∧f<u+(n-u)) by lia)]
   by_cases c:f≤m
   ·rw [stN_b c b]
    by_cases d:f=0
    ·rw [ai (by lia),al d]
    ·rw [al ⟨by lia,by lia,b,c⟩,ai d]
   ·rw [stN_a (by lia),ai λz=>c z.2.2.2]
  ·rw [ai λz=>b z.2.2.1,al (by lia),Nat.zero_add]
   unfold Jz Jv
   have hL:0<n-u:=by lia
   by_cases d:f=0
   ·rw [al d,stN_c (by lia) (by lia),al d]
    subst d
    have u0:u=0:=by lia
    subst u0
    by_cases c:m<n-0
    ·rw [al c,eO m,Nat.div_eq_of_lt c]
    ·have:=Nat.sub_mul_div m (n-0) 1
     have e:(m-(n-0))/(n-0)=m/(n-0)-1:=by
      rw [←Nat.mul_one (n-0)] at this
      simpa using Nat.sub_mul_div m n 1
     have ge:1≤m/(n-0):=(Nat.le_div_iff_mul_le hL).mpr (by lia)
     rw [ai c,e,eO m]
     generalize m/(n-0)=D at ge
     lia
   ·rw [ai d]
    by_cases c:m<f
    ·rw [al c,stN_a c]
    ·rw [ai c,stN_c (by lia) (by lia),ai d]
     rfl
 ·rw [ai a,ai (λz=>by lia),ai (λz=>by lia)]
theorem qzn {L f t:Nat}{m:Int}(e:Jv L f=t)(h:(t:Int)≤m):((Jz L m.toNat f:Nat):Int)=(m-t)/(L:Int)+1:=by
 unfold Jz
 rw [e,ai (by lia),qzq h]
 rfl
theorem qjt {L f t:Nat}{m:Int}(e:Jv L f=t)(h:m.toNat<t):Jz L m.toNat f=0:=by
 unfold Jz
 rw [e,al h]
def Jx:Sp:=λvs H Q _=>∃(l:Aj) (g:Nat→Int) (n u f:Nat) (m x:Int),vs=[.ref l,.int u,.int m,.int x]∧H l=some (.lst (((List.range n).map g).map V.int))∧u<n∧n≤300000∧0≤m∧(∀k,k<n→(g k=x↔k=f))∧Q (.int ((if f<n then stN n u m.toNat f else 0:Nat):Int)) H
theorem qud {f:Aj}{fd:Ad}(F:Fun K "_law_count" "_law_count" s__law_count f fd)(T:Txt K mg qf qh qw q8 qd ww wx qt wv q9 qb wb qz qc qx qq):FnOk P w K mg base (CXE P w) 1 f fd ["_law_tops","_law_start","_law_many","_law_top"] Jx:=by
 have sc:=qqw
 refine F.okX sc (λvs H Q E h=>by obtain ⟨l,g,n,u,f,m,x,rfl,_⟩:=h;rfl) (λcdv A outer s H vs Q E hr h=>?_)
 obtain ⟨l,g,n,u,f,m,x,rfl,fl,hu,hn,m0,hx,k⟩:=h
 have hlen:(((List.range n).map g).map V.int).length=n:=by rw [ae,ae,aH]
 refine ⟨_,(qk (wn (i:=4) sc.nd rfl (by walk_at "loc") qu)
   (qk (yh aW rfl (quu rfl T.range_ (w6 qu (vg (wp w8 rfl T.len_ aF (qr (pv 0) qj)) qj))) (xv (i:=5) sc.nd rfl (by walk_at "loc")) (wq (xh (PW.pt (Wh (wg jw (pv 5) (pv 1) (wm _)) (Wh (wg wx3 (pv 5) (pv 2) (wm _)) (qw4 (wg zg (xp zw (pv 0) (pv 5) (λ_ _=>rfl)) (pv 3) (wm _)))))) (wq (qv2 (i:=4) sc.nd rfl (Or.inl rfl) qu qkq)) w4)))
   (qk (wn (i:=6) sc.nd rfl (by walk_at "loc") (wy zj (wp w8 rfl T.len_ aF (qr (pv 0) qj)) (pv 1)))
   (qk (yh aW rfl (vw rfl T.range_ (qr (pv 6) qj)) (xv (i:=5) sc.nd rfl (by walk_at "loc")) (wq (xh (wg zg (xp zw (pv 0) (wy xq (pv 1) (pv 5)) (λ_ _=>rfl)) (pv 3) (wm _)) (qk (wn (i:=7) sc.nd rfl (by walk_at "loc") (wy xq (pv 1) (pv 5)))
   (qk (xh (wg zg (pv 7) qu (wm _)) (wq (wn (i:=7) sc.nd rfl (by walk_at "loc") (pv 6))) w4)
   (wq (xh (wg qzp (pv 2) (pv 7) (wm _)) (wq (qv2 (i:=4) sc.nd rfl (Or.inl rfl) (wy xq (wy vc (wy zj (pv 2) (pv 7)) (pv 6)) qu) qkq)) w4)))) w4)))
   (wq (wr (pv 4))))))),?_⟩
 refine exI rfl ⟨_,_,rfl,.inl (SqL.of fl),1,_,rfl,?_⟩
 rw [hlen]
 refine ⟨⟨by lia,by lia,by lia,by lia⟩,js (λj σ H1=>H1=H∧∃z,σ=[some (.ref l),some (.int u),some (.int m),some (.int x),some (.int (f1N u m.toNat f j:Nat)),z,none,none]) ⟨rfl,none,?_⟩ ?_ ?_⟩
 ·rw [quz]
  rfl
 ·rintro j σ H1 hj ⟨rfl,z,rfl⟩
  refine exI rfl (exI rfl (wc rfl rfl (exI rfl (zp (λy1=>?_) (λy1=>?_)))))
  ·refine exI rfl (exI rfl (wc rfl rfl (exI rfl (zp (λy2=>?_) (λy2=>?_)))))
   ·have at1:atI (((List.range n).map g).map V.int) ((1:Int)+j)=some (.int (g (1+j))):=by
     rw [show (1:Int)+j=((1+j:Nat):Int) by lia]
     exact k4 (getR (by lia))
    refine exI rfl (exI rfl (exX rfl rfl (SqL.of fl) at1 (exI rfl ⟨rfl,_,rfl,zt (λy3=>?_) (λy3=>?_)⟩)))
    ·have:=(hx _ (by lia)).mp y3
     rw [f1_hit this (by lia) (by lia)]
     exact exI rfl (wc rfl rfl ⟨rfl,_,rfl⟩)
    ·refine ⟨rfl,some (.int ((1:Int)+j)),?_⟩
     rw [qx1 λq=>y3 ((hx _ (by lia)).mpr q.1)]
     rfl
   ·refine yy ⟨rfl,some (.int ((1:Int)+j)),?_⟩
    rw [qx1 (by lia)]
    rfl
  ·refine yy ⟨rfl,some (.int ((1:Int)+j)),?_⟩
   rw [qx1 (by lia)]
   rfl
 ·rintro σ H1 ⟨rfl,z,rfl⟩
  rw [show ((n:Int)-1).toNat=n-1 by lia]
  refine exI rfl ⟨_,_,rfl,.inl (SqL.of fl),exI rfl (wc rfl rfl ?_)⟩
  rw [hlen]
  have eL:(n:Int)-u=((n-u:Nat):Int):=by lia
  simp only [eL]
  refine ⟨_,rfl,_,rfl,by lia,by lia,js (λj σ H2=>H2=H1∧∃z z2,σ=[some (.ref l),some (.int u),some (.int m),some (.int x),some (.int (f2N n u m.toNat f j:Nat)),z,some (.int ((n-u:Nat):Int)),z2]) ⟨rfl,z,none,?_⟩ ?_ ?_⟩
  ·rw [qy0]
   rfl
  ·rintro j σ H2 hj ⟨rfl,z,z2,rfl⟩
   have at1:atI (((List.range n).map g).map V.int) ((u:Int)+((0:Int)+j))=some (.int (g (u+j))):=by
    rw [show (u:Int)+(0+j)=((u+j:Nat):Int) by lia]
    exact k4 (getR (by lia))
   refine exI rfl (exI rfl (exI rfl (wc rfl rfl (exX rfl rfl (SqL.of fl) at1 (exI rfl ⟨rfl,_,rfl,zt (λy3=>?_) (λy3=>?_)⟩)))))
   ·have hf:=(hx _ (by lia)).mp y3
    rw [f2_hit hf]
    refine exI rfl (exI rfl (wc rfl rfl ?_))
    have eF:(u:Int)+(0+(j:Int))=(f:Int):=by lia
    simp only [eF]
    have sL:Sm 9000 ((n-u:Nat):Int):=(Sm.small (n:=65) (by lia) (by lia) (by decide)).mono (by decide)
    refine exI rfl ⟨rfl,_,rfl,zt (λy4=>?_) (λy4=>?_)⟩
    ·have tf:Jv (n-u) f=n-u:=al (by lia)
     refine exI rfl (exI rfl (exI rfl (wc rfl rfl (exI rfl (zp (λy5=>?_) (λy5=>?_))))))
     ·refine exI rfl (exI rfl (exI rfl (wc rfl rfl (exI rfl (wc rfl rfl ⟨⟨by lia,sL⟩,wc rfl rfl (wc rfl rfl ⟨rfl,some (.int ((0:Int)+j)),some (.int ((n-u:Nat):Int)),?_⟩)⟩)))))
      rw [←qzn tf y5]
      rfl
     ·refine ⟨rfl,some (.int ((0:Int)+j)),some (.int ((n-u:Nat):Int)),?_⟩
      rw [qjt tf (by lia)]
      rfl
    ·have tf:Jv (n-u) f=f:=ai (by lia)
     refine exI rfl (exI rfl (wc rfl rfl (exI rfl (zp (λy5=>?_) (λy5=>?_)))))
     ·refine exI rfl (exI rfl (exI rfl (wc rfl rfl (exI rfl (wc rfl rfl ⟨⟨by lia,sL⟩,wc rfl rfl (wc rfl rfl ⟨rfl,some (.int ((0:Int)+j)),some (.int (f:Int)),?_⟩)⟩)))))
      rw [←qzn tf y5]
      rfl
     ·refine ⟨rfl,some (.int ((0:Int)+j)),some (.int (f:Int)),?_⟩
      rw [qjt tf (by lia)]
      rfl
   ·refine ⟨rfl,some (.int ((0:Int)+j)),z2,?_⟩
    rw [wzh λq=>y3 ((hx _ (by lia)).mpr q)]
    rfl
  ·rintro σ H2 ⟨rfl,z,z2,rfl⟩
   refine exI rfl ?_
   rw [bH,f2_end hu]
   exact k
theorem wwv {α:Type}{g:Nat→α}{n u n' u':Nat}(d:Dist g n)(hu:u<n)(e:g n=g u)(d':Dist g n')(hu':u'<n')(e':g n'=g u'):n=n'∧u=u':=by
 have en:n=n':=by
  rcases eu n n' with z|z|z
  ·exact absurd e.symm (d' u n hu z)
  ·exact z
  ·exact absurd e'.symm (d u' n' hu' z)
 subst en
 refine ⟨rfl,?_⟩
 rcases eu u u' with z|z|z
 ·exact absurd (e.symm.trans e') (d u u' z hu')
 ·exact z
 ·exact absurd (e'.symm.trans e) (d u' u z hu)
theorem wwb {α:Type}{g:Nat→α}:∀ {N:Nat},¬ Dist g N→∃n u,Dist g n∧u<n∧g n=g u
 |0,h=>absurd (λi j _ z=>absurd z (dF _)) h
 |N+1,h=>by
  by_cases d:Dist g N
  ·by_cases z:∃u,u<N∧g N=g u
   ·obtain ⟨u,hu,e⟩:=z
    exact ⟨N,u,d,hu,e⟩
   ·refine absurd (λi j hij hj e=>?_) h
    rcases (by lia:j<N∨j=N) with y|y
    ·exact d i j hij y e
    ·subst y
     exact z ⟨i,hij,e.symm⟩
  ·exact wwb d
def EntC (hs:List Int)(t b:Int)(m:Nat)(T c:Int):Prop:=∃n u f,Dist (trT hs t b) n∧u<n∧trT hs t b n=trT hs t b u∧(∀k,k<n→(trT hs t b k=T↔k=f))∧c=((if f<n then stN n u m f else 0:Nat):Int)
theorem EntC.uniq {hs:List Int}{t b:Int}{m:Nat}{T c c':Int}(h:EntC hs t b m T c)(h':EntC hs t b m T c'):c=c':=by
 obtain ⟨n,u,f,d,hu,e,hf,rfl⟩:=h
 obtain ⟨n',u',f',d',hu',e',hf',rfl⟩:=h'
 obtain ⟨rfl,rfl⟩:=wwv d hu e d' hu' e'
 by_cases z:f<n
 ·have:=(hf' f z).mp ((hf f z).mpr rfl)
  subst this
  rfl
 ·by_cases y:f'<n
  ·have:=(hf f' y).mp ((hf' f' y).mpr rfl)
   lia
  ·rw [ai z,ai y]
noncomputable def qxp (hs:List Int) (t b:Int) (m:Nat) (T:Int):Int:=Classical.epsilon (EntC hs t b m T)
theorem EntC.eq {hs:List Int}{t b:Int}{m:Nat}{T c:Int}(h:EntC hs t b m T c):qxp hs t b m T=c:=(Classical.epsilon_spec (p:=EntC hs t b m T) ⟨c,h⟩).uniq h
theorem qxy {g:Nat→Int}{n:Nat}(d:Dist g n)(T:Int):∃f,∀k,k<n→(g k=T↔k=f):=by
 by_cases z:∃f,f<n∧g f=T
 ·obtain ⟨f,hf,e⟩:=z
  refine ⟨f,λk hk=>⟨λek=>?_,λek=>by rw [ek];exact e⟩⟩
  rcases eu k f with y|y|y
  ·exact absurd (ek.trans e.symm) (d k f y hf)
  ·exact y
  ·exact absurd (e.trans ek.symm) (d f k y hk)
 ·exact ⟨n,λk hk=>⟨λek=>absurd ⟨k,hk,ek⟩ z,λek=>by lia⟩⟩
theorem Yk {x y b:Int}(hb:1≤b)(e:wf x b=wf y b):x=y:=cI (by lia) ((Yn hb hb).mpr e)
theorem qxt {hs:List Int}{t b:Int}(hb:1≤b)(i j:Nat):itP hs (wf t b) i=itP hs (wf t b) j↔trT hs t b i=trT hs t b j:=by
 rw [←jh hb,←jh hb]
 exact ⟨Yk hb,λe=>by rw [e]⟩
theorem qy3 {hs:List Int}{t b:Int}{m:Nat}{tv tv':List (List Key×V)}(hb:1≤b)(h:qjq hs (wf t b) m tv tv'):(∀T,yz tv' (wf T b)=yz tv (wf T b)+qxp hs t b m T)∧∀q,(∀T,wf T b≠q)→yz tv' q=yz tv q:=by
 obtain ⟨n,u,_,d,hu,e,h1,h2⟩:=h
 have d':Dist (trT hs t b) n:=λi j hij hj z=>d i j hij hj ((qxt hb i j).mpr z)
 have e':trT hs t b n=trT hs t b u:=(qxt hb n u).mp e
 refine ⟨λT=>?_,λq hq=>h2 q λf hf=>?_⟩
 ·obtain ⟨f,hf⟩:=qxy d' T
  have en:EntC hs t b m T _:=⟨n,u,f,d',hu,e',hf,rfl⟩
  rw [en.eq]
  by_cases z:f<n
  ·have ef:trT hs t b f=T:=(hf f z).mpr rfl
   have e1:=h1 f z
   rw [←jh hb,ef] at e1
   rw [al z]
   exact e1
  ·rw [ai z,h2 _ λk hk ek=>?_]
   ·show _=_+(0:Int)
    lia
   ·rw [←jh hb] at ek
    have:=(hf k hk).mp (Yk hb ek)
    lia
 ·rw [←jh hb]
  exact hq _
theorem qz7 {hs:List Int}{t b:Int}(hb:1≤b)(h:HPt hs (wf t b))(T:Int):qxp hs t b 0 T=0:=by
 obtain ⟨n,u,d,hu,e⟩:=wwb h.short
 have d':Dist (trT hs t b) n:=λi j hij hj z=>d i j hij hj ((qxt hb i j).mpr z)
 have e':trT hs t b n=trT hs t b u:=(qxt hb n u).mp e
 obtain ⟨f,hf⟩:=qxy d' T
 have en:EntC hs t b 0 T _:=⟨n,u,f,d',hu,e',hf,rfl⟩
 rw [en.eq]
 have:stN n u 0 f=0:=by
  unfold stN
  by_cases z:0<f
  ·rw [al z]
  ·have z:f=0:=by lia
   subst z
   rw [ai (aV 0),al rfl,Nat.sub_self,Nat.zero_div]
   split <;> rfl
 rw [this]
 split <;> rfl
abbrev vj:=List (Int×List Int×Int)
noncomputable def qqc (S:vj) (b T:Int):Int:=S.foldl (λa e=>a+qxp e.2.1 e.1 b e.2.2.toNat T) 0
theorem qq1 (S:vj)(e:Int×List Int×Int)(b T:Int):qqc (S++[e]) b T=qqc S b T+qxp e.2.1 e.1 b e.2.2.toNat T:=by
 unfold qqc
 rw [List.foldl_append]
 rfl
theorem qyb {S:vj}{i:Nat}{e:Int×List Int×Int}(h:S[i]?=some e)(b T:Int):qqc (S.take (i+1)) b T=qqc (S.take i) b T+qxp e.2.1 e.1 b e.2.2.toNat T:=by
 rw [dj,h,Option.toList_some,qq1]
def CntIs (tv:List (List Key×V))(S:vj)(T0 b:Int):Prop:=(∀T,yz tv (wf T b)=(if T0=T then 1 else 0)+qqc S b T)∧∀q,(∀T,wf T b≠q)→yz tv q=0
theorem CntIs.go {tv tv':List (List Key×V)}{S:vj}{T0 b t:Int}{hs:List Int}{m:Int}(hb:1≤b)(h:CntIs tv S T0 b)(g:qjq hs (wf t b) m.toNat tv tv'):CntIs tv' (S++[(t,hs,m)]) T0 b:=by
 obtain ⟨g1,g2⟩:=qy3 hb g
 refine ⟨λT=>?_,λq hq=>by rw [g2 q hq];exact h.2 q hq⟩
 rw [g1,h.1,qq1]
 show _+_+qxp hs t b m.toNat T=_+(_+qxp hs t b m.toNat T)
 lia
theorem qj7 {q q':Int×Int}:yz [([.inl q.1,.inl q.2],.int 1)] q'=if q=q' then 1 else 0:=by
 have:=qw9 (tv:=[]) (q:=q) (q':=q') (c:=1)
 rw [yb _ rfl] at this
 exact this
theorem CntIs.new {hs:List Int}{t b:Int}(hb:1≤b)(h:HPt hs (wf t b)):CntIs [([.inl (wf t b).1,.inl (wf t b).2],.int 1)] [(t,hs,0)] t b:=by
 refine ⟨λT=>?_,λq hq=>?_⟩
 ·rw [qj7]
  show _=_+((0:Int)+qxp hs t b 0 T)
  rw [qz7 hb h T]
  by_cases z:t=T
  ·subst z;rw [al rfl,al rfl];rfl
  ·rw [ai z,ai λy=>z (Yk hb y)];rfl
 ·rw [qj7,ai (hq t)]
noncomputable def dueC (S:vj) (T0 b t' b':Int):Int:=if t'*b%b'=0 then (if T0=t'*b/b' then 1 else 0)+qqc S b (t'*b/b') else 0
theorem CntIs.due {tv:List (List Key×V)}{S:vj}{T0 b:Int}(hb:1≤b)(h:CntIs tv S T0 b){t' b':Int}(hb':1≤b'):yz tv (wf t' b')=dueC S T0 b t' b':=by
 unfold dueC
 by_cases z:t'*b%b'=0
 ·rw [al z,←h.1]
  have e:=Int.mul_ediv_add_emod (t'*b) b'
  rw [z,Int.add_zero] at e
  have:wf (t'*b/b') b=wf t' b':=(Yn hb hb').mp (by rw [df];exact e)
  rw [this]
 ·rw [ai z]
  refine h.2 _ λT e=>z ?_
  rw [← (Yn hb hb').mpr e]
  exact Int.mul_emod_left _ _
end
section
variable {P:Ac}{w:Ah}{K:Aa}{mg:Str→Option Ag}{base:Heap}{qf:Aj}{qh:Aj}{qw:Aj}{q8:Aj}{qd:Aj}{ww:Aj}{wx:Aj}{qt:Aj}{wv:Aj}{q9:Aj}{qb:Aj}{wb:Aj}{qz:Aj}{qc:Aj}{qx:Aj}{qq:Aj}
def PtAt (H:Hp)(a:Aj)(pt:Int×Int):Prop:=H a=some (.tup [.int pt.1,.int pt.2])
def StE (H:Hp)(b:Int)(v:V)(e:Int×List Int×Int):Prop:=∃tp row,v=.ref tp∧H tp=some (.tup [.int e.1,.ref row,.int e.2.2])∧H row=some (.lst (e.2.1.map V.int))∧xj e.2.1∧OnRoad e.2.1 e.1 b∧0≤e.2.2
def StAt (H:Hp)(ls:Aj)(b:Int)(S:vj):Prop:=∃vs,H ls=some (.lst vs)∧vs.length=S.length∧∀(i:Nat) (v:V) (e:Int×List Int×Int),vs[i]?=some v→S[i]?=some e→StE H b v e
theorem StE.same {H H':Hp}{b:Int}{v:V}{e:Int×List Int×Int}(h:StE H b v e)(s:Same H H'):StE H' b v e:=by
 obtain ⟨tp,row,a1,a2,a3,a4⟩:=h
 exact ⟨tp,row,a1,s _ _ a2,s _ _ a3,a4⟩
theorem StAt.same {H H':Hp}{ls:Aj}{b:Int}{S:vj}(h:StAt H ls b S)(s:Same H H'):StAt H' ls b S:=by
 obtain ⟨vs,a1,a2,a3⟩:=h
 exact ⟨vs,s _ _ a1,a2,λi v e ev ee=>(a3 i v e ev ee).same s⟩
theorem StAt.get {H:Hp}{ls:Aj}{b:Int}{S:vj}(h:StAt H ls b S){i:Nat}(hi:i<S.length):∃vs v e,H ls=some (.lst vs)∧vs.length=S.length∧vs[i]?=some v∧S[i]?=some e∧StE H b v e:=by
 obtain ⟨vs,a1,a2,a3⟩:=h
 exact ⟨vs,vs[i]'(by lia),S[i],a1,a2,ag (by lia),ag hi,a3 i _ _ (ag (by lia)) (ag hi)⟩
theorem sz3 {x y z:V}:[x,y,z].length≤sizeLine:=by show 3≤sizeLine;decide
def qxu:Sp:=λvs H Q _=>∃(ls a:Aj) (S:vj) (T0 b t' b':Int) (hs0:List Int) (m0:Int) (S':vj),vs=[.ref ls,.int b,.ref a]∧S=(T0,hs0,m0)::S'∧StAt H ls b S∧PtAt H a (t',b')∧1≤b∧b≤40∧1≤b'∧b'≤1000∧-1000000≤t'∧t'≤1000000∧∀H',Same H H'→Q (.int (dueC S T0 b t' b')) H'
theorem wvz {f:Aj}{fd:Ad}(F:Fun K "_law_due" "_law_due" s__law_due f fd)(T:Txt K mg qf qh qw q8 qd ww wx qt wv q9 qb wb qz qc qx qq)(c__law_trace:Cal P w K mg base "_law_trace" 2 (jr K))(c__law_count:Cal P w K mg base "_law_count" 1 Jx) :
  FnOk P w K mg base (CXE P w) 3 f fd ["_law_story","_law_bottom","_law_point"] qxu:=by
 have sc:=qvh
 refine F.okX sc (λvs H Q E h=>by obtain ⟨ls,a,S,T0,b,t',b',hs0,m0,S',rfl,_⟩:=h;rfl) (λcdv A outer s H vs Q E hr h=>?_)
 obtain ⟨ls,a,S,T0,b,t',b',hs0,m0,S',rfl,eS,hS,ha,b1,b2,b1',b2',t1,t2,k⟩:=h
 refine ⟨_,(qk (xh (wg wxb (wy vq (wy xy (xp zb (pv 2) qu (λ_ _=>rfl)) (pv 1)) (xp zb (pv 2) qu (λ_ _=>rfl))) qu (wm _)) (wq (wr qu)) w4)
   (qk (wn (i:=3) sc.nd rfl (by walk_at "loc") (wy vc (wy xy (xp zb (pv 2) qu (λ_ _=>rfl)) (pv 1)) (xp zb (pv 2) qu (λ_ _=>rfl))))
   (qk (wn (i:=4) sc.nd rfl (by walk_at "loc") (kf qy1 rfl T.int_ PyProof.Rows.boot_int (xx (uw zg (xp zb (xp zw (pv 0) qu (λ_ _=>rfl)) qu (λ_ _=>rfl)) (pv 3) (wm _)) qj)))
   (qk (yh aW rfl (Qm (pv 0)) (v4 rfl (xk (xv (i:=5) sc.nd rfl (by walk_at "loc")) (xk (xv (i:=6) sc.nd rfl (by walk_at "loc")) (xk (xv (i:=7) sc.nd rfl (by walk_at "loc")) zn)))) (qk (ju (wu c__law_trace (hr.mono (by decide)) rfl qy (qr (pv 6) (qr (pv 5) (qr (pv 1) qj)))) (v4 rfl (xk (xv (i:=8) sc.nd rfl (by walk_at "loc")) (xk (xv (i:=9) sc.nd rfl (by walk_at "loc")) zn))))
   (wq (qv2 (i:=4) sc.nd rfl (Or.inl rfl) (wu c__law_count (hr.mono (by decide)) rfl qy (qr (pv 8) (qr (pv 9) (qr (pv 7) (qr (pv 3) qj))))) qkq))))
   (wq (wr (pv 4))))))),?_⟩
 refine exI rfl (exX rfl rfl (SqT.of ha) rfl (exI rfl (wc rfl rfl ⟨IntMulOk.of_right (intBits_le_64 (by lia) (by lia)),exI rfl (exX rfl rfl (SqT.of ha) rfl (wc rfl rfl ⟨(by show 0<b';lia),rfl,_,rfl,?_⟩))⟩)))
 refine wx0 (λz=>?_) (λz=>?_)
 ·have:=k H (Same.refl _)
  unfold dueC at this
  rw [ai z] at this
  exact this
 have z:t'*b%b'=0:=z
 obtain ⟨vs,hls,lv,hst⟩:=hS
 obtain ⟨tp0,row0,ev0,f0,_⟩:=hst 0 (vs[0]'(by rw [lv,eS];exact Nat.succ_pos _)) (T0,hs0,m0) (ag _) (by rw [eS];rfl)
 refine exI rfl (exX rfl rfl (SqT.of ha) rfl (exI rfl (wc rfl rfl ⟨IntMulOk.of_right (intBits_le_64 (by lia) (by lia)),exI rfl (exX rfl rfl (SqT.of ha) rfl (wc rfl rfl ⟨⟨by show 0<b';lia,(Sm.small (n:=65) (by show -(2 ^ 64)≤b';lia) (by show b'≤2 ^ 64;lia) (by decide)).mono (by decide)⟩,?_⟩))⟩)))
 have at0:atI vs 0=some (.ref tp0):=by
  rw [←ev0]
  exact k4 (j:=0) (ag _)
 refine exI rfl (exX rfl rfl (SqL.of hls) at0 (exX rfl rfl (SqT.of f0) rfl (exI rfl ⟨rfl,.inr ((exI rfl ?_))⟩)))
 obtain ⟨TT,eT⟩:∃TT,t'*b/b'=TT:=⟨_,rfl⟩
 have res:∀H',Same H H'→Q (.int ((if T0=TT then 1 else 0)+qqc S b TT)) H':=λH' s'=>by
  have:=k H' s'
  unfold dueC at this
  rw [al z,eT] at this
  exact this
 have ef:(if decide (V.int T0=V.int TT)=true then (1:Int) else 0)=if T0=TT then 1 else 0:=by
  by_cases y:T0=TT
  ·subst y
   rw [al (bd rfl),al rfl]
  ·rw [ai (by rw [bh (λq=>y (by injection q))];exact aA),ai y]
 refine exI rfl ⟨ls,rfl,⟨_,SqL.of hls⟩,ww0 (K:=K) (a:=ls) (xs:=vs) (λi σ H1=>Same H H1∧∃z5 z6 z7 z8 z9,σ=[some (.ref ls),some (.int b),some (.ref a),some (.int TT),some (.int ((if T0=TT then 1 else 0)+qqc (S.take i) b TT)),z5,z6,z7,z8,z9]) ⟨Same.refl _,none,none,none,none,none,by rw [show qqc (S.take 0) b TT=0 from rfl,Int.add_zero,←ef,←eT];rfl⟩ (λi σ H1 _ h=>h.1.sql (SqL.of hls)) ?_ ?_⟩
 ·rintro i v σ H1 ev ⟨s1,z5,z6,z7,z8,z9,rfl⟩
  have hi:i<S.length:=by
   have:=(aQ.mp ev).1
   lia
  have ee:=ag hi
  obtain ⟨tp,row,rfl,ft,fr,okl,on,m0'⟩:=hst i v _ ev ee
  generalize S[i]=e at ee ft fr okl on m0'
  refine ⟨tp,exI rfl ⟨SqT.of (s1 _ _ ft),rfl,_,_,rfl,_,_,rfl,_,_,rfl,rfl,?_⟩⟩
  refine ⟨_,rfl,_,rfl,_,rfl,row,e.2.1,e.1,b,rfl,SqL.of (s1 _ _ fr),okl,b1,by lia,on,λn u q l H2 d1 u1 e1 n1 s2 nl fq fl=>?_⟩
  refine ⟨q,exI rfl ⟨SqT.of fq,rfl,_,_,rfl,_,_,rfl,rfl,?_⟩⟩
  obtain ⟨f,hf⟩:=qxy d1 TT
  have en:EntC e.2.1 e.1 b e.2.2.toNat TT _:=⟨n,u,f,d1,u1,e1,hf,rfl⟩
  refine exI rfl (exI rfl (exI rfl (exI rfl (exI rfl ⟨l,trT e.2.1 e.1 b,n,u,f,e.2.2,exI rfl ⟨fl,u1,n1,m0',hf,?_⟩⟩))))
  rw [←en.eq]
  refine wc rfl rfl ?_
  refine ⟨s1.trans s2,some (.int e.1),some (.ref row),some (.int e.2.2),some (.ref l),some (.int u),?_⟩
  rw [qyb ee,←Int.add_assoc]
  rfl
 ·rintro σ H1 ⟨s1,z5,z6,z7,z8,z9,rfl⟩
  rw [lv,cL]
  exact exI rfl (res _ s1)
def uj (C CW:Aj):Sp:=λvs H Q _=>∃(x dr dw dd a:Aj) (R W:List (Key×V)) (D:List V) (n:Str) (t b:Int),vs=[.ref x,.str n,.ref a]∧Hse C H x dr dw dd R W D∧PtAt H a (t,b)∧(w9 W (.inr n)=none→Q (.str "walker") H)∧(∀v,w9 W (.inr n)=some v→b<1∧(∃y wh p pt t' tv,v=.ref y∧WkAt CW H y wh p pt t' tv)∧Q (.str "bottom") H)
theorem qkb {f:Aj}{fd:Ad}(F:Fun K "_law_refused" "_law_refused" s__law_refused f fd)(T:Txt K mg qf qh qw q8 qd ww wx qt wv q9 qb wb qz qc qx qq)(c_stood:MCal P w K mg base qq "stood" 3 (Qn qq qx qb qw)) :
  FnOk P w K mg base (CXE P w) 4 f fd ["_law_house","_law_name","_law_point"] (uj qq qx):=by
 have sc:=Zw
 refine F.okX sc (λvs H Q E h=>by obtain ⟨x,dr,dw,dd,a,R,W,D,n,t,b,rfl,_⟩:=h;rfl) (λcdv A outer s H vs Q E hr h=>?_)
 obtain ⟨x,dr,dw,dd,a,R,W,D,n,t,b,rfl,hh,ha,kx,k⟩:=h
 obtain ⟨dx,hx⟩:=hh.ob
 refine ⟨_,(qk (wn (i:=3) sc.nd rfl (by walk_at "loc") xn)
   (qk (wzn rfl rfl rfl T.g_BadBottom rfl T.g_NoWalker (λpn xe E hE hO=>(wq (xg (xz (pv 0) T.clH c_stood (hr.mono (by decide)) hE (qr (pv 1) (qr (pv 2) qj)))))) (λe=>(wq (wn (i:=3) sc.nd rfl (by walk_at "loc") xn))) (λe=>(wq (wn (i:=3) sc.nd rfl (by walk_at "loc") xn))))
   (wq (wr (pv 3))))),?_⟩
 refine ⟨_,rfl,x,dx,_,rfl,hx,xb (by decide +kernel) (by decide +kernel) (by decide +kernel),_,rfl,_,rfl,x,dr,dw,dd,a,R,W,D,n,t,b,rfl,hh,ha,λe=>(exI rfl (.inr ⟨qkx T.x_BadBottom T.ms,Jm T.x_NoWalker,_,rfl,kx e⟩)),λv e=>?_⟩
 obtain ⟨bl,⟨y,wh,p,pt,t',tv,rfl,wk⟩,k⟩:=k v e
 exact ⟨y,wh,p,pt,t',tv,rfl,wk,λ_=>(exI rfl (.inl ⟨Jm T.x_BadBottom,_,rfl,k⟩)),λz=>absurd z (by lia)⟩
def Zs (K:Aa):Sp:=λvs H Q _=>∃(a ls:Aj) (ns:List Int) (i b wd:Int) (S:vj),vs=[.ref a,.int i,.int b,.ref ls,.int wd]∧SqL K H a (ns.map V.int)∧0≤i∧StAt H ls b S∧1≤S.length∧S.length≤1000∧1≤b∧b≤40∧1≤wd∧wd≤24 ∧
 ∀q t' b' H',Same H H'→PtAt H' q (t',b')→1≤b'→b'≤1000→-1000000≤t'→t'≤1000000→Q (.ref q) H'
theorem StE.rng {H:Hp}{b:Int}{v:V}{e:Int×List Int×Int}(h:StE H b v e)(b1:1≤b)(b2:b≤40):0≤e.1∧e.1≤960:=by
 obtain ⟨_,_,_,_,_,ok,⟨o1,o2⟩,_⟩:=h
 have l:=ok.2.1
 have:((e.2.1.length:Int)-1)*b≤24*b:=ay (by lia) (by lia)
 lia
set_option maxHeartbeats 0 in
theorem wxt {f:Aj}{fd:Ad}(F:Fun K "_law_asked" "_law_asked" s__law_asked f fd)(T:Txt K mg qf qh qw q8 qd ww wx qt wv q9 qb wb qz qc qx qq)(c__law_pick:Cal P w K mg base "_law_pick" 2 (jm K))(c__law_trace:Cal P w K mg base "_law_trace" 2 (jr K)) :
  FnOk P w K mg base (CXE P w) 3 f fd ["_law_script","_law_at","_law_bottom","_law_story","_law_wide"] (Zs K):=by
 have sc:=Js
 refine F.okX sc (λvs H Q E h=>by obtain ⟨a,ls,ns,i,b,wd,S,rfl,_⟩:=h;rfl) (λcdv A outer s H vs Q E hr h=>?_)
 obtain ⟨a,ls,ns,i,b,wd,S,rfl,hS,i0,hst,l1,l2,b1,b2,w1,w2,k⟩:=h
 have big:(1000000:Nat)<sizeLine:=by decide
 refine ⟨_,(qk (wn (i:=5) sc.nd rfl (by walk_at "loc") (wu c__law_pick (hr.mono (by decide)) rfl qy (qr (pv 0) (qr (pv 1) (w6 qu (w6 qu qj))))))
   (qk (xh (wg zg (pv 5) qu (wm _)) (wq (wr (zm (vg (wp (jn rfl) rfl T.max_ cE (xx (jf (M:=[]) rfl rfl (by walk_at "cap") (by walk_at "has") (by walk_at "cix") rfl (by decide +kernel) rfl (show List.Nodup (["_law_one"]:List Str) by decide +kernel) (Qm (pv 3)) (λ_ _ _ _ _=>(xp (wz1 (K:=K) rfl) (pv 0) qu (λ_ _=>rfl)))) qj)) (qr (pv 2) qj))))) w4)
   (qk (xh (wg zg (pv 5) qu (wm _)) (wq (wr (zm (x4 (wy xy (xp zb (xp zw (pv 3) qu (λ_ _=>rfl)) qu (λ_ _=>rfl)) qu) (x4 (wy xy (pv 2) qu) qj))))) w4)
   (qk (xh (wg jw (pv 5) qu (wm _)) (qk (ju (xp zw (pv 3) (wu c__law_pick (hr.mono (by decide)) rfl qy (qr (pv 0) (qr (pv 1) (w6 qu (vg (wp w8 rfl T.len_ aF (qr (pv 3) qj)) qj))))) (λ_ _=>rfl)) (v4 rfl (xk (xv (i:=6) sc.nd rfl (by walk_at "loc")) (xk (xv (i:=7) sc.nd rfl (by walk_at "loc")) (xk (xv (i:=8) sc.nd rfl (by walk_at "loc")) zn)))))
   (qk (ju (wu c__law_trace (hr.mono (by decide)) rfl qy (qr (pv 7) (qr (pv 6) (qr (pv 2) qj)))) (v4 rfl (xk (xv (i:=9) sc.nd rfl (by walk_at "loc")) (xk (xv (i:=10) sc.nd rfl (by walk_at "loc")) zn))))
   (wq (wr (zm (v9 (xp zw (pv 9) (wu c__law_pick (hr.mono (by decide)) rfl qy (qr (pv 0) (qr (pv 1) (w6 qu (vg (wp w8 rfl T.len_ aF (qr (pv 9) qj)) qj))))) (λ_ _=>rfl)) (qr (pv 2) qj))))))) w4)
   (qk (xh (wg zg (pv 5) qu (wm _)) (wq (wr (zm (x4 (wy zj (wu c__law_pick (hr.mono (by decide)) rfl qy (qr (pv 0) (qr (pv 1) (w6 qu (w6 qu qj))))) qu) (x4 (wy xq qu (wu c__law_pick (hr.mono (by decide)) rfl qy (qr (pv 0) (qr (pv 1) (w6 qu (w6 qu qj)))))) qj))))) w4)
   (wq (wr (zm (x4 (wy xq (wy xq (wy xy (pv 4) (pv 2)) qu) (wu c__law_pick (hr.mono (by decide)) rfl qy (qr (pv 0) (qr (pv 1) (w6 qu (w6 qu qj)))))) (qr (pv 2) qj)))))))))),?_⟩
 refine exI rfl (exI rfl ⟨a,ns,_,_,_,rfl,hS,(by lia),(by lia),(by lia),(by lia),λr0 _ l0 u0=>?_⟩)
 have tell:∀ {H1:Hp} {t' b':Int},Same H H1→1≤b'→b'≤1000→-1000000≤t'→t'≤1000000→∀q,H1 q=none→Q (.ref q) (upd H1 q (.tup [.int t',.int b'])):=λ{H1 t' b'} s1 c1 c2 c3 c4 q nq=>k q t' b' _ (s1.trans (Same.upd nq)) qm c1 c2 c3 c4
 obtain ⟨vs,hls,lv,hse⟩:=id hst
 refine exI rfl ⟨rfl,_,rfl,zt (λz=>?_) (λz=>?_)⟩
 ·refine exI rfl ⟨ls,rfl,⟨_,SqL.of hls⟩,qv8 (λj v H=>∃e,S[j]?=some e∧v=.int e.1) (λj v H H' p g _ _=>g) (SqL.of hls) (by lia) (λj y H' RR ey s' kR=>?_) (λp ys H2 np s2 fp lp hG=>?_)⟩
  ·have hj:j<S.length:=by
    have:=(aQ.mp ey).1
    lia
   obtain ⟨tp,row,rfl,ft,_⟩:=hse j y _ ey (ag hj)
   exact exI rfl (exX rfl rfl (SqT.of (s' _ _ ft)) rfl (kR _ _ (Same.refl _) ⟨_,ag hj,rfl⟩ (λb e=>by cases e)))
  ·have ey:ys=(S.map (·.1)).map V.int:=by
    refine eo λj=>?_
    rw [aG,aG]
    by_cases hj:j<ys.length
    ·have e1:=ag hj
     obtain ⟨⟨e,e2,e3⟩,_⟩:=hG j _ e1
     rw [e1,e2,e3]
     rfl
    ·rw [aY (by lia),aY (by lia)]
     rfl
   rw [ey] at fp
   refine ⟨p,S.map (·.1),rfl,SqL.of fp,(by rw [ae];lia),λm hm _=>?_⟩
   obtain ⟨e,he,rfl⟩:=aJ.mp hm
   obtain ⟨j,hj,rfl⟩:=bL he
   have rg:=(hse j _ _ (ag (by lia)) (ag hj)).rng b1 b2
   exact exI rfl ⟨sz2,tell s2 b1 (by lia) (by lia) (by lia)⟩
 refine exI rfl ⟨rfl,_,rfl,zt (λz=>?_) (λz=>?_)⟩
 ·obtain ⟨vs',v0,e0,hls',_,ev0,ee0,st0⟩:=hst.get (i:=0) (by lia)
  have rg:=st0.rng b1 b2
  obtain ⟨tp,row,rfl,ft,_⟩:=st0
  refine exI rfl (exX rfl rfl (SqL.of hls') (k4 (j:=0) ev0) (exX rfl rfl (SqT.of ft) rfl (wc rfl rfl ⟨IntMulOk.of_right (intBits_le_64 (by lia) (by lia)),exI rfl (wc rfl rfl ⟨IntMulOk.of_right (intBits_le_64 (by lia) (by lia)),sz2,?_⟩)⟩)))
  exact tell (Same.refl _) (by lia) (by lia) (by lia) (by lia)
 refine exI rfl (wc rfl rfl (exI rfl (zp (λz=>?_) (λz=>?_))))
 ·refine exI rfl (exI rfl (exI rfl (exI rfl ⟨ls,exI rfl ⟨.inl (SqL.of hls),?_⟩⟩)))
  rw [lv]
  refine ⟨a,ns,_,_,_,rfl,hS,(by lia),(by lia),(by lia),(by lia),λr1 _ l1' u1'=>?_⟩
  have hj:r1.toNat<S.length:=by lia
  have st1:=hse r1.toNat _ _ (ag (by lia)) (ag hj)
  obtain ⟨tp,row,ev,ft,fr,okl,on,m0⟩:=st1
  have at1:atI vs ((r1.toNat:Nat):Int)=some (.ref tp):=by
   rw [←ev]
   exact k4 (ag _)
  rw [show ((r1.toNat:Nat):Int)=r1 by lia] at at1
  generalize S[r1.toNat]=e at ft fr okl on m0
  refine exX rfl rfl (SqL.of hls) at1 ⟨tp,exI rfl ⟨SqT.of ft,rfl,_,_,rfl,_,_,rfl,_,_,rfl,rfl,?_⟩⟩
  refine ⟨_,rfl,_,rfl,_,rfl,row,e.2.1,e.1,b,rfl,SqL.of fr,okl,b1,by lia,on,λn u q l H2 d1 u1 e1 n1 s2 nl fq fl=>?_⟩
  refine ⟨q,exI rfl ⟨SqT.of fq,rfl,_,_,rfl,_,_,rfl,rfl,?_⟩⟩
  have ln:(((List.range n).map (trT e.2.1 e.1 b)).map V.int).length=n:=by rw [ae,ae,aH]
  refine exI rfl (exI rfl (exI rfl (exI rfl ⟨l,exI rfl ⟨.inl (SqL.of fl),?_⟩⟩)))
  rw [ln]
  refine ⟨a,ns,_,_,_,rfl,s2.sql hS,(by lia),(by lia),(by lia),(by lia),λr2 _ l2' u2'=>?_⟩
  have at2:atI (((List.range n).map (trT e.2.1 e.1 b)).map V.int) r2=some (.int (trT e.2.1 e.1 b r2.toNat)):=by
   rw [show r2=((r2.toNat:Nat):Int) by lia]
   exact k4 (getR (by lia))
  have on2:=yp okl b1 on r2.toNat
  have l:=okl.2.1
  have:((e.2.1.length:Int)-1)*b≤24*b:=ay (by lia) (by lia)
  have o1:=on2.1
  have o2:=on2.2
  exact exX rfl rfl (SqL.of fl) at2 (exI rfl ⟨sz2,tell s2 b1 (by lia) (by lia) (by lia)⟩)
 refine exI rfl ⟨rfl,_,rfl,zt (λz=>?_) (λz=>?_)⟩
 ·refine exI rfl (exI rfl ⟨a,ns,_,_,_,rfl,hS,(by lia),(by lia),(by lia),(by lia),λr1 _ l1' u1'=>?_⟩)
  refine wc rfl rfl (exI rfl (exI rfl ⟨a,ns,_,_,_,rfl,hS,(by lia),(by lia),(by lia),(by lia),λr2 _ l2' u2'=>?_⟩))
  exact wc rfl rfl ⟨sz2,tell (Same.refl _) (by lia) (by lia) (by lia) (by lia)⟩
 ·have:wd*b≤24*40:=ff w2 b2 (by lia) (by lia)
  have:1≤wd*b:=Int.mul_pos (by lia) (by lia)
  refine exI rfl (exI rfl (wc rfl rfl ⟨IntMulOk.of_right (intBits_le_64 (by lia) (by lia)),wc rfl rfl (exI rfl (exI rfl ⟨a,ns,_,_,_,rfl,hS,(by lia),(by lia),(by lia),(by lia),λr1 _ l1' u1'=>?_⟩))⟩))
  exact wc rfl rfl (exI rfl ⟨sz2,tell (Same.refl _) b1 (by lia) (by lia) (by lia)⟩)
end
section
variable {P:Ac}{w:Ah}{K:Aa}{mg:Str→Option Ag}{base:Heap}{qf:Aj}{qh:Aj}{qw:Aj}{q8:Aj}{qd:Aj}{ww:Aj}{wx:Aj}{qt:Aj}{wv:Aj}{q9:Aj}{qb:Aj}{wb:Aj}{qz:Aj}{qc:Aj}{qx:Aj}{qq:Aj}
theorem wvt (hs:List Int)(i:Nat)(v:Int)(h:i<hs.length):(vm (hs.map V.int) none (some (i:Int))++[V.int v])++vm (hs.map V.int) (some ((i:Int)+1)) none=(hs.set i v).map V.int:=by
 unfold vm
 rw [HT.sIx_nat,show ((i:Int)+1)=((i+1:Nat):Int) by lia,HT.sIx_nat,HT.sIx_none,HT.sIx_none,ae,Nat.min_eq_left (by lia),Nat.min_eq_left (by lia),List.drop_zero,eO,List.take_of_length_le (l:=(hs.map V.int).drop (i+1)) (by rw [List.length_drop,ae];exact ah _)]
 rw [List.set_eq_take_append_cons_drop,al h,aP,fk,aS,List.map_drop,List.append_assoc]
 rfl
structure Solo (C CR CW:Aj)(H:Hp)(x dr dw dd:Aj)(R W:List (Key×V))(D:List V)(hs:List Int)(pt:Int×Int)(tv:List (List Key×V)):Prop where
 h:Hse C H x dr dw dd R W D
 rf:Refs D
 lD:D.length≤1000
 kR:R.map (·.1)=[.inr "aa"]
 kW:W.map (·.1)=[.inr "b"]
 ro:∃r,w9 R (.inr "aa")=some (.ref r)∧RoadAt CR H r hs
 wk:∃y p t,w9 W (.inr "b")=some (.ref y)∧WkAt CW H y "aa" p pt t tv
 tm:TmOk tv
 hp:HPt hs pt
theorem Solo.lR {C CR CW:Aj}{H:Hp}{x dr dw dd:Aj}{R W:List (Key×V)}{D:List V}{hs:List Int}{pt:Int×Int}{tv:List (List Key×V)}(h:Solo C CR CW H x dr dw dd R W D hs pt tv):R.length=1:=by simpa using bq List.length h.kR
theorem Solo.lW {C CR CW:Aj}{H:Hp}{x dr dw dd:Aj}{R W:List (Key×V)}{D:List V}{hs:List Int}{pt:Int×Int}{tv:List (List Key×V)}(h:Solo C CR CW H x dr dw dd R W D hs pt tv):W.length=1:=by simpa using bq List.length h.kW
theorem Solo.dl {C CR CW:Aj}{H:Hp}{x dr dw dd:Aj}{R W:List (Key×V)}{D:List V}{hs:List Int}{pt:Int×Int}{tv:List (List Key×V)}(h:Solo C CR CW H x dr dw dd R W D hs pt tv):Dl H [dr,dw,dd]:=h.h.dl h.rf Dl.nil
theorem Solo.kb {C CR CW:Aj}{H H':Hp}{x dr dw dd:Aj}{R W:List (Key×V)}{D:List V}{hs:List Int}{pt:Int×Int}{tv:List (List Key×V)}(h:Solo C CR CW H x dr dw dd R W D hs pt tv){ch:List Aj}(k:Kb ch H H')(d:Dl H ch)(n:x∉ch∧dr∉ch∧dw∉ch∧dd∉ch):Solo C CR CW H' x dr dw dd R W D hs pt tv:=by
 obtain ⟨r,e,ra⟩:=h.ro
 obtain ⟨y,p,t,ey,w⟩:=h.wk
 exact ⟨h.h.kb k n,h.rf,h.lD,h.kR,h.kW,⟨r,e,d.road k h.hp.1 ra⟩,⟨y,p,t,ey,d.wk k w⟩,h.tm,h.hp⟩
theorem Solo.same {C CR CW:Aj}{H H':Hp}{x dr dw dd:Aj}{R W:List (Key×V)}{D:List V}{hs:List Int}{pt:Int×Int}{tv:List (List Key×V)}(h:Solo C CR CW H x dr dw dd R W D hs pt tv)(s:Same H H'):Solo C CR CW H' x dr dw dd R W D hs pt tv:=h.kb (ch:=[]) (Kb.of s) Dl.nil ⟨ao,ao,ao,ao⟩
theorem Solo.road {C CR CW:Aj}{H H':Hp}{x dr dw dd:Aj}{R W:List (Key×V)}{D:List V}{hs hs':List Int}{pt:Int×Int}{tv:List (List Key×V)}(h:Solo C CR CW H x dr dw dd R W D hs pt tv)(lD:D.length<1000)(g:RDeed C CR H H' x dr dw dd R W D "aa" hs')(hp:HPt hs' pt):∃R' D',Solo C CR CW H' x dr dw dd R' W D' hs' pt tv∧D'.length=D.length+1∧Kb [dr,dw,dd] H H':=by
 obtain ⟨r,tp,q1,q2,n0,n1,n2,h1,ft,f1,f2,ne,ra,kb⟩:=g
 obtain ⟨r0,e0,_⟩:=h.ro
 obtain ⟨y,p,t,ey,w⟩:=h.wk
 exact ⟨_,_,⟨h1,h.rf.add tp,by rw [au];exact lD,by rw [j0 e0];exact h.kR,h.kW,⟨r,by rw [vb,al rfl],ra⟩,⟨y,p,t,ey,h.dl.wk kb w⟩,h.tm,hp⟩,by rw [au];rfl,kb⟩
theorem Solo.walk {C CR CW:Aj}{H H':Hp}{x dr dw dd:Aj}{R W:List (Key×V)}{D:List V}{hs:List Int}{pt:Int×Int}{tv:List (List Key×V)}(h:Solo C CR CW H x dr dw dd R W D hs pt tv)(lD:D.length<1000){p:Aj}{pt':Int×Int}{t:Aj}{tv':List (List Key×V)}(g:WDeed C CW H H' x dr dw dd R W D "b" "aa" p pt' t tv')(tm:TmOk tv')(hp:HPt hs pt'):∃W' D',Solo C CR CW H' x dr dw dd R W' D' hs pt' tv'∧D'.length=D.length+1∧Kb [dr,dw,dd] H H':=by
 obtain ⟨y,tp,q1,q2,n0,n1,n2,h1,ft,f1,f2,ne,wk,kb⟩:=g
 obtain ⟨y0,_,_,e0,_⟩:=h.wk
 obtain ⟨r,er,ra⟩:=h.ro
 exact ⟨_,_,⟨h1,h.rf.add tp,by rw [au];exact lD,h.kR,by rw [j0 e0];exact h.kW,⟨r,er,h.dl.road kb h.hp.1 ra⟩,⟨y,p,t,by rw [vb,al rfl],wk⟩,tm,hp⟩,by rw [au];rfl,kb⟩
theorem Solo.of {C CR CW:Aj}{H H':Hp}{x dr dw dd:Aj}{R W R' W':List (Key×V)}{D:List V}{hs:List Int}{pt:Int×Int}{tv:List (List Key×V)}(h:Solo C CR CW H x dr dw dd R W D hs pt tv)(h':Hse C H' x dr dw dd R' W' D)(k:Kb [dr,dw,dd] H H')(eR:∀m,w9 R' m=w9 R m)(kR:R'.map (·.1)=R.map (·.1))(eW:∀m,w9 W' m=w9 W m)(kW:W'.map (·.1)=W.map (·.1)):Solo C CR CW H' x dr dw dd R' W' D hs pt tv:=by
 obtain ⟨r,er,ra⟩:=h.ro
 obtain ⟨y,p,t,ey,w⟩:=h.wk
 exact ⟨h',h.rf,h.lD,by rw [kR];exact h.kR,by rw [kW];exact h.kW,⟨r,by rw [eR];exact er,h.dl.road k h.hp.1 ra⟩,⟨y,p,t,by rw [eW];exact ey,h.dl.wk k w⟩,h.tm,h.hp⟩
theorem HPt.grow {hs:List Int}{pt:Int×Int}(h:HPt hs pt){hs':List Int}(ok:xj hs')(l:hs.length≤hs'.length):HPt hs' pt:=by
 obtain ⟨_,⟨h1,h2,h3,h4,h5⟩,h6⟩:=h
 refine ⟨ok,⟨h1,h2,h3,h4,dP h5 ?_⟩,h6⟩
 exact ay (by lia) (by lia)
theorem OnRoad.grow {hs hs':List Int}{t b:Int}(h:OnRoad hs t b)(b0:0≤b)(l:hs.length≤hs'.length):OnRoad hs' t b:=⟨h.1,dP h.2 (ay (by lia) b0)⟩
theorem wwc {hs:List Int}(ok:xj hs){i:Nat}{v:Int}(v0:0≤v)(v1:v<hs.length):xj (hs.set i v):=by
 refine ⟨by rw [cT];exact ok.1,by rw [cT];exact ok.2.1,λx hx=>?_⟩
 rw [cT]
 rcases List.mem_or_eq_of_mem_set hx with h|h
 ·exact ok.2.2 x h
 ·subst h;lia
theorem wwy {hs:List Int}(ok:xj hs)(l:hs.length≤24){v:Int}(v0:0≤v)(v1:v≤hs.length):xj (hs++[v]):=by
 have o:=ok.1
 refine ⟨by rw [au];lia,by rw [au];show hs.length+1≤25;lia,λx hx=>?_⟩
 rw [au]
 rcases aZ.mp hx with h|h
 ·have:=ok.2.2 x h
  refine ⟨this.1,?_⟩
  have:=this.2
  show x≤((hs.length+1:Nat):Int)-1
  lia
 ·rw [aq.mp h]
  refine ⟨v0,?_⟩
  show v≤((hs.length+1:Nat):Int)-1
  lia
def Q2 (K:Aa)(C CR CW:Aj):Sp:=λvs H Q _=>∃(a x dr dw dd row:Aj) (ns:List Int) (i top b:Int) (R W:List (Key×V)) (D:List V) (hs:List Int) (tv:List (List Key×V)),vs=[.ref a,.int i,.ref x,.ref row,.int top,.int b]∧SqL K H a (ns.map V.int)∧0≤i∧1≤b∧b≤40∧OnRoad hs top b∧Solo C CR CW H x dr dw dd R W D hs (wf top b) tv∧hs.length≤20∧D.length≤900∧H row=some (.lst (hs.map V.int)) ∧
 ∀(H':Hp) (row':Aj) (R' W':List (Key×V)) (D':List V) (hs':List Int),Solo C CR CW H' x dr dw dd R' W' D' hs' (wf top b) tv→OnRoad hs' top b→hs'.length≤hs.length+1→D'.length≤D.length+1→H' row'=some (.lst (hs'.map V.int))→Kb [dr,dw,dd] H H'→Q (.ref row') H'
set_option maxHeartbeats 0 in
theorem qux {f:Aj}{fd:Ad}(F:Fun K "_law_change" "_law_change" s__law_change f fd)(T:Txt K mg qf qh qw q8 qd ww wx qt wv q9 qb wb qz qc qx qq)(c__law_pick:Cal P w K mg base "_law_pick" 2 (jm K))(c_narrow:MCal P w K mg base qq "narrow" 4 (Z5 qq qc qx q9 qh wb))(c_bend:MCal P w K mg base qq "bend" 4 (qjw qq qc q9 qh))(c_widen:MCal P w K mg base qq "widen" 4 (qw5 qq qc q9 qh))
  (c_go:MCal P w K mg base qq "go" 8 (spGo qq qc qx qb qd)) (c_take_back:MCal P w K mg base qq "take_back" 2 (qx0 qq qz)) :
  FnOk P w K mg base (CXE P w) 9 f fd ["_law_script","_law_at","_law_house","_law_row","_law_top","_law_bottom"] (Q2 K qq qc qx):=by
 have sc:=Yu
 refine F.okX sc (λvs H Q E h=>by obtain ⟨a,x,dr,dw,dd,row,ns,i,top,b,R,W,D,hs,tv,rfl,_⟩:=h;rfl) (λcdv A outer s H vs Q E hr h=>?_)
 obtain ⟨a,x,dr,dw,dd,row,ns,i,top,b,R,W,D,hs,tv,rfl,hS,i0,b1,b2,on,h2,lh,lD,hrow,k⟩:=h
 have ok:=h2.hp.1
 have o1:=ok.1
 have o2:=ok.2.1
 have lm:(hs.map V.int).length=hs.length:=ae _
 obtain ⟨dx,hx⟩:=h2.h.ob
 obtain ⟨r,er,ra⟩:=h2.ro
 obtain ⟨y,p,t,ey,wk⟩:=h2.wk
 have lR:=h2.lR
 have lW:=h2.lW
 have d0:=h2.dl
 have big:(1000000:Nat)<sizeLine:=by decide
 have dl:hs.dropLast.length=hs.length-1:=List.length_dropLast
 refine ⟨_,(qk (wn (i:=6) sc.nd rfl (by walk_at "loc") (wu c__law_pick (hr.mono (by decide)) rfl qy (qr (pv 0) (qr (pv 1) (w6 qu (w6 qu qj))))))
   (qk (wn (i:=7) sc.nd rfl (by walk_at "loc") (wy zj (wp w8 rfl T.len_ aF (qr (pv 3) qj)) qu))
   (Z3 (xh (PW.pt (Wh (wg yu (pv 6) qu (wm _)) (Wh (wg yu (pv 7) qu (wm _)) (Wh (wg jw (wp (jn rfl) rfl T.max_ cE (v9 (yn Qu (pv 3) Qz (Qp (qz3 Jw qu))) qj)) (pv 7) (wm _)) (qw4 (wg wx3 (pv 4) (wy xy (wy zj (pv 7) qu) (pv 5)) (wm _))))))) (qk (xg (xz (pv 2) T.clH c_narrow (hr.mono (by decide)) qy (w6 xn qj)))
   (wq (wr (yn Qu (pv 3) Qz (Qp (qz3 Jw qu)))))) w4)
   (qk (xh (wg jw (pv 6) qu (wm _)) (qk (wn (i:=8) sc.nd rfl (by walk_at "loc") (wu c__law_pick (hr.mono (by decide)) rfl qy (qr (pv 0) (qr (pv 1) (w6 qu (vg (wp w8 rfl T.len_ aF (qr (pv 3) qj)) qj))))))
   (qk (wn (i:=9) sc.nd rfl (by walk_at "loc") (wu c__law_pick (hr.mono (by decide)) rfl qy (qr (pv 0) (qr (pv 1) (w6 qu (vg (wp w8 rfl T.len_ aF (qr (pv 3) qj)) qj))))))
   (qk (xg (xz (pv 2) T.clH c_bend (hr.mono (by decide)) qy (w6 xn (qr (pv 8) (qr (pv 9) qj)))))
   (wq (wr (wy qwr (wy qwr (yn Qu (pv 3) Qz (Qp (pv 8))) (um (qr (pv 9) qj))) (yn Qu (pv 3) (Qp (wy xq (pv 8) qu)) Qz))))))) w4)
   (qk (xh (wg zg (pv 6) qu (wm _)) (qk (wn (i:=9) sc.nd rfl (by walk_at "loc") (wu c__law_pick (hr.mono (by decide)) rfl qy (qr (pv 0) (qr (pv 1) (w6 qu (x4 (wy xq (wp w8 rfl T.len_ aF (qr (pv 3) qj)) qu) qj))))))
   (qk (xg (xz (pv 2) T.clH c_widen (hr.mono (by decide)) qy (w6 xn (qr (pv 9) qj))))
   (wq (wr (wy qwr (pv 3) (um (qr (pv 9) qj))))))) w4)
   (qk (xh (wg zg (pv 6) qu (wm _)) (qk (xg (xz (pv 2) T.clH c_go (hr.mono (by decide)) qy (w6 xn (x4 (wy xq qu (wu c__law_pick (hr.mono (by decide)) rfl qy (qr (pv 0) (qr (pv 1) (w6 qu (w6 qu qj)))))) qj))))
   (wq (xg (vf (pv 2) T.clH c_take_back (hr.mono (by decide)) qy)))) w4)
   (wq (wr (pv 3))))))))),?_⟩
 refine exI rfl (exI rfl ⟨a,ns,_,_,_,rfl,hS,(by lia),(by lia),(by lia),(by lia),λr0 _ l0 u0=>?_⟩)
 refine exI rfl ⟨row,exI rfl ⟨.inl (SqL.of hrow),wc rfl rfl ?_⟩⟩
 rw [lm]
 refine ⟨λσ H1=>σ=[some (.ref a),some (.int i),some (.ref x),some (.ref row),some (.int top),some (.int b),some (.int r0),some (.int ((hs.length:Int)-1)),none,none]∧Same H H1,?_,?_⟩
 ·refine exI rfl (wc rfl rfl (exI rfl (zp (λz1=>?_) (λz1=>yy ⟨rfl,Same.refl _⟩))))
  refine exI rfl (wc rfl rfl (exI rfl (zp (λz2=>?_) (λz2=>yy ⟨rfl,Same.refl _⟩))))
  refine exI rfl (exI rfl (exI rfl ⟨row,exI rfl ⟨SqL.of hrow,λp1 n1=>?_⟩⟩))
  rw [Z8]
  have s1:Same H (upd H p1 (.lst (hs.dropLast.map V.int))):=Same.upd n1
  have f1:upd H p1 (.lst (hs.dropLast.map V.int)) p1=some (.lst (hs.dropLast.map V.int)):=qm
  generalize upd H p1 (.lst (hs.dropLast.map V.int))=H1 at s1 f1
  refine ⟨p1,hs.dropLast,rfl,SqL.of f1,by lia,λm hm hmx=>?_⟩
  refine exI rfl (wc rfl rfl (exI rfl (zp (λz3=>?_) (λz3=>yy ⟨rfl,s1⟩))))
  have lk:xj hs.dropLast:=⟨by lia,by lia,λh hh=>by
   have a:=ok.2.2 h (List.dropLast_subset _ hh)
   have c:=hmx h hh
   lia⟩
  refine exI rfl (exI rfl (wc rfl rfl (exI rfl (wc rfl rfl ⟨IntMulOk.of_right (intBits_le_64 (by lia) (by lia)),wc rfl rfl (exI rfl (zp (λz4=>?_) (λz4=>⟨rfl,s1⟩)))⟩))))
  have on':OnRoad hs.dropLast top b:=⟨on.1,by rw [dl,show ((hs.length-1:Nat):Int)-1=(hs.length:Int)-1-1 by lia];exact z4⟩
  have on2:=qxq b1 on'
  have hp':HPt hs.dropLast (wf top b):=by
   obtain ⟨_,⟨h1,h2',h3,_⟩,h6⟩:=h2.hp
   exact ⟨lk,⟨h1,h2',h3,on2⟩,h6⟩
  have h21:=h2.same s1
  have rg:=h2.hp.rng
  refine ⟨_,rfl,x,dx,_,rfl,s1 _ _ hx,xb (by decide +kernel) (by decide +kernel) (by decide +kernel),x,dr,dw,dd,R,W,D,"aa",["b"],λ_ => "aa",λ_=>wf top b,rfl,h21.h,h21.rf,(by lia),(by lia),⟨h2.kW,by lia,λs hs'=>?_⟩,(λs _=>⟨rg.1,by show (wf top b).1≤_;lia,rg.2.2.1,by show (wf top b).2≤_;lia⟩),(λz=>by rw [er] at z;cases z),λv ev=>?_⟩
  ·rw [aq.mp hs']
   exact ⟨y,p,t,tv,ey,wk.same s1⟩
  rw [er] at ev
  cases ev
  refine ⟨r,hs,rfl,ra.same s1,(λz=>absurd lk z),λ_=>⟨λ⟨s,_,_,bs⟩=>absurd bs (show ¬ ((hs.dropLast.length:Int)-1)*(wf top b).2<(wf top b).1 from Int.not_lt.mpr on2.2),λ_ H2 rd=>?_⟩⟩
  obtain ⟨R',D',t2,lD',kb⟩:=h21.road (by lia) rd hp'
  have hrow2:=h21.dl.row kb ok (s1 _ _ hrow)
  refine exI rfl (exI rfl (exI rfl ⟨row,exI rfl ⟨SqL.of hrow2,λp3 n3=>?_⟩⟩))
  rw [Z8]
  have s3:=Same.upd (H:=H2) (o:=.lst (hs.dropLast.map V.int)) n3
  exact k _ p3 R' W D' _ (t2.same s3) on' (by lia) (by lia) qm (λc o nb e=>s3 _ _ (kb _ _ nb (s1 _ _ e)))
 ·rintro σ H1 ⟨rfl,s1⟩
  have h21:=h2.same s1
  have hx1:=s1 _ _ hx
  have hrow1:=s1 _ _ hrow
  have hS1:=s1.sql hS
  have d1:=h21.dl
  have kbt:∀ {H2},Kb [dr,dw,dd] H1 H2→Kb [dr,dw,dd] H H2:=λk b o nb e=>k b o nb (s1 _ _ e)
  refine exI rfl (wc rfl rfl (exI rfl (zp (λz1=>?_) (λz1=>?_))))
  ·refine exI rfl (exI rfl (exI rfl ⟨row,exI rfl ⟨.inl (SqL.of hrow1),?_⟩⟩))
   rw [lm]
   refine ⟨a,ns,_,_,_,rfl,hS1,(by lia),(by lia),(by lia),(by lia),λr3 _ l3 u3=>?_⟩
   refine exI rfl (exI rfl (exI rfl ⟨row,exI rfl ⟨.inl (SqL.of hrow1),?_⟩⟩))
   rw [lm]
   refine ⟨a,ns,_,_,_,rfl,hS1,(by lia),(by lia),(by lia),(by lia),λr4 _ l4 u4=>?_⟩
   have lset:(hs.set r3.toNat r4).length=hs.length:=cT
   refine exI rfl ⟨x,dx,exI rfl ⟨hx1,xb (by decide +kernel) (by decide +kernel) (by decide +kernel),exI rfl (exI rfl ⟨x,dr,dw,dd,R,W,D,"aa",r3,r4,rfl,h21.h,h21.rf,(by lia),(by lia),(by lia),(λz=>by rw [er] at z;cases z),λv ev=>?_⟩)⟩⟩
   rw [er] at ev
   cases ev
   refine ⟨r,hs,rfl,ra.same s1,ok,(λz=>absurd ⟨l3,u3⟩ z),λ_ _=>⟨λlo H2 rd=>?_,λz=>absurd (wwc ok l4 u4) z⟩⟩
   obtain ⟨R',D',t2,lD',kb⟩:=h21.road (by lia) rd (h2.hp.grow lo (by lia))
   have hp:=d1.row kb ok hrow1
   have oi:r3=((r3.toNat:Nat):Int):=by lia
   refine exI rfl (exI rfl (exI rfl ⟨row,exI rfl ⟨SqL.of hp,λp1 n1=>?_⟩⟩))
   have sa:=Same.upd (H:=H2) (o:=.lst (vm (hs.map V.int) none (some r3))) n1
   have f1:upd H2 p1 (.lst (vm (hs.map V.int) none (some r3))) p1=some (.lst (vm (hs.map V.int) none (some r3))):=qm
   generalize upd H2 p1 (.lst (vm (hs.map V.int) none (some r3)))=Ha at sa f1
   refine exI rfl ⟨sz1,λp2 n2=>?_⟩
   have sb:=sa.trans (Same.upd (o:=.lst [.int r4]) n2)
   have f12:=(Same.upd (H:=Ha) (o:=.lst [.int r4]) n2) _ _ f1
   have f2:upd Ha p2 (.lst [.int r4]) p2=some (.lst [.int r4]):=qm
   generalize upd Ha p2 (.lst [.int r4])=Hb at sb f12 f2
   have lc:=yt (hs.map V.int) none (some r3)
   rw [lm] at lc
   refine ⟨p1,p2,wc rfl rfl ⟨f12,f2,(by show (vm (hs.map V.int) none (some r3)).length+1≤_;lia),λp3 n3=>?_⟩⟩
   have s3:=sb.trans (Same.upd (o:=.lst (vm (hs.map V.int) none (some r3)++[.int r4])) n3)
   have f3:upd Hb p3 (.lst (vm (hs.map V.int) none (some r3)++[.int r4])) p3=some (.lst (vm (hs.map V.int) none (some r3)++[.int r4])):=qm
   generalize upd Hb p3 (.lst (vm (hs.map V.int) none (some r3)++[.int r4]))=Hc at s3 f3
   refine exI rfl (exI rfl (wc rfl rfl (exI rfl ⟨row,exI rfl ⟨SqL.of (s3 _ _ hp),λp4 n4=>?_⟩⟩)))
   have s4:=s3.trans (Same.upd (o:=.lst (vm (hs.map V.int) (some (r3+1)) none)) n4)
   have f34:=(Same.upd (H:=Hc) (o:=.lst (vm (hs.map V.int) (some (r3+1)) none)) n4) _ _ f3
   have f4:upd Hc p4 (.lst (vm (hs.map V.int) (some (r3+1)) none)) p4=some (.lst (vm (hs.map V.int) (some (r3+1)) none)):=qm
   generalize upd Hc p4 (.lst (vm (hs.map V.int) (some (r3+1)) none))=Hd at s4 f34 f4
   have lc2:=yt (hs.map V.int) (some (r3+1)) none
   rw [lm] at lc2
   refine ⟨p3,p4,wc rfl rfl ⟨f34,f4,(by rw [au];show (vm (hs.map V.int) none (some r3)).length+1+_≤_;lia),λp5 n5=>?_⟩⟩
   have e5:(vm (hs.map V.int) none (some r3)++[V.int r4])++vm (hs.map V.int) (some (r3+1)) none=(hs.set r3.toNat r4).map V.int:=by
    rw [oi]
    have:=wvt hs r3.toNat r4 (by lia)
    rw [bH]
    exact this
   rw [e5]
   have s5:=s4.trans (Same.upd (o:=.lst ((hs.set r3.toNat r4).map V.int)) n5)
   exact k _ p5 R' W D' _ (t2.same s5) (on.grow (by lia) (by lia)) (by lia) (by lia) qm (kbt λc o nb e=>s5 _ _ (kb _ _ nb e))
  refine exI rfl ⟨rfl,_,rfl,zt (λz2=>?_) (λz2=>?_)⟩
  ·refine exI rfl (exI rfl (exI rfl ⟨row,exI rfl ⟨.inl (SqL.of hrow1),wc rfl rfl ?_⟩⟩))
   rw [lm]
   refine ⟨a,ns,_,_,_,rfl,hS1,(by lia),(by lia),(by lia),(by lia),λr4 _ l4 u4=>?_⟩
   have lo:=wwy ok (by lia) l4 (by lia)
   refine exI rfl ⟨x,dx,exI rfl ⟨hx1,xb (by decide +kernel) (by decide +kernel) (by decide +kernel),exI rfl ⟨x,dr,dw,dd,R,W,D,"aa",r4,rfl,h21.h,h21.rf,(by lia),(by lia),(by lia),(λz=>by rw [er] at z;cases z),λv ev=>?_⟩⟩⟩
   rw [er] at ev
   cases ev
   refine ⟨r,hs,rfl,ra.same s1,ok,λ_ H2 rd=>?_,λz=>absurd lo z⟩
   have la:(hs++[r4]).length=hs.length+1:=by rw [au];rfl
   obtain ⟨R',D',t2,lD',kb⟩:=h21.road (by lia) rd (h2.hp.grow lo (by lia))
   have hp:=d1.row kb ok hrow1
   refine exI rfl (exI rfl ⟨sz1,λp2 n2=>?_⟩)
   have s2:=Same.upd (H:=H2) (o:=.lst [.int r4]) n2
   have f2:upd H2 p2 (.lst [.int r4]) p2=some (.lst [.int r4]):=qm
   generalize upd H2 p2 (.lst [.int r4])=H3 at s2 f2
   refine ⟨row,p2,wc rfl rfl ⟨s2 _ _ hp,f2,(by rw [lm];show hs.length+1≤_;lia),λp3 n3=>?_⟩⟩
   rw [show hs.map V.int++[V.int r4]=(hs++[r4]).map V.int by rw [aP];rfl]
   have s3:=s2.trans (Same.upd (o:=.lst ((hs++[r4]).map V.int)) n3)
   exact k _ p3 R' W D' _ (t2.same s3) (on.grow (by lia) (by lia)) (by lia) (by lia) qm (kbt λc o nb e=>s3 _ _ (kb _ _ nb e))
  refine exI rfl ⟨rfl,_,rfl,zt (λz3=>?_) (λz3=>?_)⟩
  ·refine exI rfl ⟨x,dx,exI rfl ⟨hx1,xb (by decide +kernel) (by decide +kernel) (by decide +kernel),exI rfl (exI rfl ⟨a,ns,_,_,_,rfl,hS1,(by lia),(by lia),(by lia),(by lia),λr4 _ l4 u4=>?_⟩)⟩⟩
   refine wc rfl rfl ⟨x,dr,dw,dd,R,W,D,"b",1+r4,rfl,h21.h,(by lia),(by lia),(by lia),(λz=>by rw [ey] at z;cases z),λv ev=>?_⟩
   rw [ey] at ev
   cases ev
   have wi:Within (1+r4) 0 (some 1000000000000000000000000000000000000000000000000000000000000):=⟨by lia,λb e=>by cases e;lia⟩
   refine ⟨y,"aa",p,wf top b,t,tv,r,hs,rfl,wk.same s1,h2.tm,er,ra.same s1,h2.hp,(λz=>absurd wi z),λ_ H2 p' t' tv' wd tm' _=>?_⟩
   obtain ⟨_,_,t2,_,_⟩:=h21.walk (by lia) wd tm' (h2.hp.it _)
   obtain ⟨dx2,hx2⟩:=t2.h.ob
   refine exI rfl ⟨x,dx2,exI rfl ⟨hx2,xb (by decide +kernel) (by decide +kernel) (by decide +kernel),?_⟩⟩
   dsimp only [Zc]
   refine WDeed.undo wd h21.h ey (by lia) (by lia) λH3 W3 e3 k3 hh3 kb3=>?_
   exact exI rfl (k _ row R W3 D hs (h21.of hh3 kb3 (λ_=>rfl) rfl e3 k3) on (by lia) (by lia) (d1.row kb3 ok hrow1) (kbt kb3))
  ·exact exI rfl (k _ row R W D hs h21 on (by lia) (by lia) hrow1 (Kb.of s1))
end
section
variable {P:Ac}{w:Ah}{K:Aa}{mg:Str→Option Ag}{base:Heap}{qf:Aj}{qh:Aj}{qw:Aj}{q8:Aj}{qd:Aj}{ww:Aj}{wx:Aj}{qt:Aj}{wv:Aj}{q9:Aj}{qb:Aj}{wb:Aj}{qz:Aj}{qc:Aj}{qx:Aj}{qq:Aj}
theorem wvc {X:Cx}{ss:List Stmt}{t t':TS}(h:PSs X ss t)(k:∀D σ H,t' D σ H→t D σ H):PSs X ss t':=λpins s σ H D I q=>h pins s σ H D I (k D σ H q)
theorem StAt.dl {H H':Hp}{ls:Aj}{b:Int}{S:vj}(h:StAt H ls b S){ch:List Aj}(d:Dl H ch)(k:Kb ch H H')(n:ls∉ch):StAt H' ls b S:=by
 obtain ⟨vs,a1,a2,a3⟩:=h
 refine ⟨vs,k _ _ n a1,a2,λi v e ev ee=>?_⟩
 obtain ⟨tp,row,b1,b2,b3,b4,b5⟩:=a3 i v e ev ee
 exact ⟨tp,row,b1,d.tup k b2,d.row k b4 b3,b4,b5⟩
theorem StAt.refs {H:Hp}{ls:Aj}{b:Int}{S:vj}{vs:List V}(h:StAt H ls b S)(f:H ls=some (.lst vs)):Refs vs:=λv hv=>by
 obtain ⟨vs',a1,a2,a3⟩:=h
 rw [f] at a1
 have e:vs=vs':=by injection a1 with a1;injection a1
 subst e
 obtain ⟨i,hi,rfl⟩:=bL hv
 obtain ⟨tp,_,b1,_⟩:=a3 i _ _ (ag hi) (ag (by lia))
 exact ⟨tp,b1⟩
theorem wvk {C CR CW CN CC:Aj}{H:Hp}{x dr dw dd:Aj}{R W:List (Key×V)}{D:List V}{hs:List Int}{pt:Int×Int}{tv:List (List Key×V)}{m:Int}{Q:VK}{E:XK}(h:Solo C CR CW H x dr dw dd R W D hs pt tv)(lD:D.length<1000)(wi:Within m 0 (some 1000000000000000000000000000000000000000000000000000000000000))
  (k:∀l H' W' D' tv',Solo C CR CW H' x dr dw dd R W' D' hs (itP hs pt m.toNat) tv'→qjq hs pt m.toNat tv tv'→D'.length=D.length+1→Kb [dr,dw,dd] H H'→Q (.ref l) H'):qvd C CR CW CN CC [.ref x,.str "aa",.int m] H Q E:=by
 obtain ⟨r,er,ra⟩:=h.ro
 obtain ⟨y,p,t,ey,wk⟩:=h.wk
 have lR:=h.lR
 have lW:=h.lW
 refine ⟨x,dr,dw,dd,R,W,D,"aa",m,rfl,h.h,by lia,by lia,(λz=>by rw [er] at z;cases z),λv ev=>?_⟩
 rw [er] at ev
 cases ev
 refine ⟨r,hs,rfl,ra,(λz=>absurd wi z),λ_=>?_⟩
 refine ⟨["b"],λ_ => "aa",λ_=>pt,λ_=>tv,⟨h.kW,by lia,ba.mpr ⟨ao,br⟩,λs hs'=>?_⟩,(λ_ _ _=>h.hp),λH' l cs ms ys pm _ g ec hG _ _ _ _=>?_⟩
 ·rw [aq.mp hs']
  exact ⟨h.tm,y,p,t,ey,wk⟩
 ·have em:ms=(["b"]:List Str):=List.perm_singleton.mp pm
  subst em
  have ef:((["b"]:List Str).filter λs=>decide (V.str ("aa" : Str)=V.str "aa"))=(["b"]:List Str):=List.filter_eq_self.mpr λ_ _=>bd rfl
  rw [ef] at ec
  match cs,ec with
  |[(k1,v1)],ec =>
   have e1:k1=.inr "b" := by injection ec
   subst e1
   obtain ⟨s1,_,_,q1,y1,p1,t1,tv1,rfl,w1,m1,hit⟩:=hG (.inr "b",v1) (by simp)
   obtain ⟨tp,r1,r2,n0,n1,n2,h1,ft,f1,f2,ne,kb⟩:=g
   rw [qjh] at h1
   have h1:Hse C H' x dr dw dd R _ _:=h1
   exact k l H' _ _ tv1 ⟨h1,h.rf.add tp,by rw [au];exact lD,h.kR,by rw [j0 ey];exact h.kW,⟨r,er,h.dl.road kb h.hp.1 ra⟩,⟨y1,p1,t1,by rw [vb,al rfl],w1⟩,m1,h.hp.it _⟩ hit (by rw [au];rfl) kb
theorem wwf {tv:List (List Key×V)}(h:TmOk tv)(q:Int×Int):cntT tv q=.int (yz tv q):=by
 unfold cntT yz
 cases e:w9 tv [.inl q.1,.inl q.2] with
 |none=>rfl
 |some v =>
  have:∃kv∈tv,kv.2=v:=by
   unfold w9 at e
   obtain ⟨kv,e1,e2⟩:=Option.map_eq_some_iff.mp e
   exact ⟨kv,d7 e1,e2⟩
  obtain ⟨kv,hk,rfl⟩:=this
  obtain ⟨a,b,c,rfl,_⟩:=h.2.2 kv hk
  rfl
theorem wqq:(10:Int) ^ (58:Int).toNat+1=10000000000000000000000000000000000000000000000000000000001:=by decide +kernel
def LpAt (K:Aa)(C CR CW:Aj)(a x dr dw dd sl qp:Aj)(ns:List Int)(T0 b:Int)(j:Nat)(σ:St)(H:Hp):Prop:=∃(p1:Aj) (top:Int) (z7 z8 z9 z10 z11 z12:Option V) (R W:List (Key×V)) (Ds:List V) (hs:List Int) (tv:List (List Key×V)) (hs0:List Int) (m0:Int) (S':vj) (t0 b0:Int),σ=[some (.ref a),some (.ref p1),some (.ref qp),some (.int top),some (.int b),some (.ref x),some (.ref sl),z7,z8,z9,z10,z11,z12]∧SqL K H a (ns.map V.int)∧((∀H',SqL K H' a (ns.map V.int))∨a∉[dr,dw,dd,sl]∧∃o,H a=some o) ∧
 Solo C CR CW H x dr dw dd R W Ds hs (wf top b) tv∧OnRoad hs top b∧hs.length≤5+j∧Ds.length≤10+2*j∧H p1=some (.lst (hs.map V.int))∧StAt H sl b ((T0,hs0,m0)::S')∧S'.length=j∧CntIs tv ((T0,hs0,m0)::S') T0 b∧sl∉[dr,dw,dd]∧PtAt H qp (t0,b0)
def TailB (K:Aa)(C CR CW:Aj)(D:Ends)(σ:St)(H:Hp):Prop:=∃(a x dr dw dd sl qp:Aj) (ns:List Int) (T0 b:Int),ns.length≤63∧1≤b∧b≤40∧LpAt K C CR CW a x dr dw dd sl qp ns T0 b 0 σ H∧∀H',D.rt (.bl true) H'
set_option maxHeartbeats 0 in
theorem qyj {f:Aj}{cdv:Ag}{A:Ae}{outer:List Env}{s:Ab}{H:Hp}{E:XK}(T:Txt K mg qf qh qw q8 qd ww wx qt wv q9 qb wb qz qc qx qq)(c__law_cell:Cal P w K mg base "_law_cell" 1 (Ju K))(c__law_pick:Cal P w K mg base "_law_pick" 2 (jm K))(c_together:MCal P w K mg base qq "together" 8 (qvd qq qc qx q9 qd))(c_go:MCal P w K mg base qq "go" 8 (spGo qq qc qx qb qd))(c__law_trace:Cal P w K mg base "_law_trace" 2 (jr K))(c__law_after:Cal P w K mg base "_law_after" 1 (Z0 K))
  (c__law_change:Cal P w K mg base "_law_change" 9 (Q2 K qq qc qx)) (c__law_asked:Cal P w K mg base "_law_asked" 3 (Zs K)) (c_stood:MCal P w K mg base qq "stood" 3 (Qn qq qx qb qw)) (c__law_whole:Cal P w K mg base "_law_whole" 1 Zn) (c__law_due:Cal P w K mg base "_law_due" 3 qxu) (c__law_refused:Cal P w K mg base "_law_refused" 4 (uj qq qx))
  (hr:Room 10 (A.deeper (PyProof.Rows.envOfC "law" (wj s_law) s.heap.objs.size f cdv))) {rest:List Stmt} (h7:(wt s_law).drop 7=rest) :
  PSs (qqp (CXE P w) P w K mg base ["_law_script","_law_row","_law_point","_law_top","_law_bottom","_law_house","_law_story","_law_k","_law_many","_law_tops","_law_start","_law_asked_here","_law_found"] "law" (wj s_law) f cdv A outer s H E) rest (TailB K qq qc qx):=by
 have sc:=wq9
 have e7:(wt s_law).drop 7=(wt s_law)[7]'(by decide +kernel)::(wt s_law).drop 8:=aM (by decide +kernel)
 have e8:(wt s_law).drop 8=(wt s_law)[8]'(by decide +kernel)::(wt s_law).drop 9:=aM (by decide +kernel)
 have e9:(wt s_law).drop 9=(wt s_law)[9]'(by decide +kernel)::(wt s_law).drop 10:=aM (by decide +kernel)
 have e10:(wt s_law).drop 10=[]:=by decide +kernel
 rw [←h7,e7,e8,e9,e10]
 clear e7 e8 e9 e10 h7
 refine wvc (qk (yh aW rfl (vw rfl T.range_ (x4 (wy xq qu (wu c__law_pick (hr.mono (by decide)) rfl qy (qr (pv 0) (w6 qu (w6 qu (w6 qu qj)))))) qj)) (xv (i:=7) sc.nd rfl (by walk_at "loc")) (qk (wn (i:=8) sc.nd rfl (by walk_at "loc") (wu c__law_pick (hr.mono (by decide)) rfl qy (qr (pv 0) (x4 (wy xq qu (pv 7)) (w6 qu (w6 qu qj))))))
   (Z3 (xh (wg zg (wu c__law_pick (hr.mono (by decide)) rfl qy (qr (pv 0) (x4 (wy xq qu (pv 7)) (w6 qu (w6 qu qj))))) qu (wm _)) (wq (wn (i:=8) sc.nd rfl (by walk_at "loc") (wy vq (wu c__law_cell (hr.mono (by decide)) rfl qy (qr (pv 0) (x4 (wy xq qu (pv 7)) qj))) (wy xq (wy wwd qu qu) qu)))) w4)
   (Z3 (xh (wg zg (wu c__law_pick (hr.mono (by decide)) rfl qy (qr (pv 0) (x4 (wy xq qu (pv 7)) (w6 qu (w6 qu qj))))) qu (wm _)) (wq (xg (xz (pv 5) T.clH c_together (hr.mono (by decide)) qy (w6 xn (qr (pv 8) qj))))) (wq (xg (xz (pv 5) T.clH c_go (hr.mono (by decide)) qy (w6 xn (qr (pv 8) qj))))))
   (qk (ju (wu c__law_trace (hr.mono (by decide)) rfl qy (qr (pv 1) (qr (pv 3) (qr (pv 4) qj)))) (v4 rfl (xk (xv (i:=9) sc.nd rfl (by walk_at "loc")) (xk (xv (i:=10) sc.nd rfl (by walk_at "loc")) zn))))
   (qk (xg (qj5 bK ck cm jy (pv 6) (qj8 (zm (qr (pv 3) (qr (pv 1) (qr (pv 8) qj)))) qj)))
   (qk (wn (i:=3) sc.nd rfl (by walk_at "loc") (wu c__law_after (hr.mono (by decide)) rfl qy (qr (pv 9) (qr (pv 10) (qr (pv 8) qj)))))
   (qk (wn (i:=1) sc.nd rfl (by walk_at "loc") (wu c__law_change (hr.mono (by decide)) rfl qy (qr (pv 0) (x4 (wy xq qu (pv 7)) (qr (pv 5) (vg (kf jv rfl T.list_ bQ (qr (pv 1) qj)) (qr (pv 3) (qr (pv 4) qj))))))))
   (qk (wn (i:=11) sc.nd rfl (by walk_at "loc") (wu c__law_asked (hr.mono (by decide)) rfl qy (qr (pv 0) (x4 (wy xq qu (pv 7)) (qr (pv 4) (qr (pv 6) (x4 (wy zj (wp w8 rfl T.len_ aF (qr (pv 1) qj)) qu) qj)))))))
   (qk (wn (i:=12) sc.nd rfl (by walk_at "loc") (xz (pv 5) T.clH c_stood (hr.mono (by decide)) qy (w6 xn (qr (pv 11) qj))))
   (wq (xh (PW.pt (Wt (qv9 (qxn (wu c__law_whole (hr.mono (by decide)) rfl qy (qr (pv 12) qj)))) (ym (wg wxb (pv 12) (wu c__law_due (hr.mono (by decide)) rfl qy (qr (pv 6) (qr (pv 4) (qr (pv 11) qj)))) (wm _))))) (wq (wr qj1)) w4))))))))))))
   (qk (xh (wg wxb (wu c__law_refused (hr.mono (by decide)) rfl qy (qr (pv 5) (w6 xn (qj8 (zm (w6 qu (pa_cU (qz3 Jw (wu c__law_pick (hr.mono (by decide)) rfl qy (qr (pv 0) (w6 qu (w6 qu (w6 qu qj)))))) qj))) qj)))) xn (wm _)) (wq (wr qj1)) w4)
   (qk (wr (uw zg (wu c__law_refused (hr.mono (by decide)) rfl qy (qr (pv 5) (w6 xn (qr (pv 2) qj)))) xn (wm _)))
   w4))) ?_
 rintro D σ H0 ⟨a,x,dr,dw,dd,sl,qp,ns,T0,b,ln,b1,b2,⟨p1,top,z7,z8,z9,z10,z11,z12,R,W,Ds,hs,tv,hs0,m0,S',t0,b0,rfl,hS,hda,h2,on,lh,lD,hrow,hst,lS,hcn,nsl,hqp⟩,k⟩
 refine exI rfl ⟨a,ns,_,_,_,rfl,hS,(by lia),(by lia),(by lia),(by lia),λr0 _ l0 u0=>?_⟩
 refine wc rfl rfl (exI rfl ⟨(by lia),(by lia),js (LpAt K qq qc qx a x dr dw dd sl qp ns T0 b) ⟨p1,top,_,_,_,_,_,_,R,W,Ds,hs,tv,hs0,m0,S',t0,b0,rfl,hS,hda,h2,on,lh,lD,hrow,hst,lS,hcn,nsl,hqp⟩ ?_ ?_⟩)
 ·rintro j σ H1 hj ⟨p1,top,z7,z8,z9,z10,z11,z12,R,W,Ds,hs,tv,hs0,m0,S',t0,b0,rfl,hS,hda,h2,on,lh,lD,hrow,hst,lS,hcn,nsl,hqp⟩
  have ok:=h2.hp.1
  have o1:=ok.1
  obtain ⟨dx,hx⟩:=h2.h.ob
  refine exI rfl (exI rfl (wc rfl rfl ⟨a,ns,_,_,_,rfl,hS,(by lia),(by lia),(by lia),(by lia),λr1 _ l1 u1=>?_⟩))
  refine ⟨λσ H'=>∃m,σ=[some (.ref a),some (.ref p1),some (.ref qp),some (.int top),some (.int b),some (.ref x),some (.ref sl),some (.int (0+j)),some (.int m),z9,z10,z11,z12]∧H'=H1∧0≤m∧m≤10000000000000000000000000000000000000000000000000000000000,?_,?_⟩
  ·refine exI rfl (exI rfl (wc rfl rfl ⟨a,ns,_,_,_,rfl,hS,(by lia),(by lia),(by lia),(by lia),λr2 _ l2 u2=>?_⟩))
   refine ⟨rfl,_,rfl,zt (λq1=>?_) (λq1=>⟨r1,(rfl),(rfl),l1,by lia⟩)⟩
   refine exI rfl (exI rfl (wc rfl rfl ⟨a,ns,exI rfl ⟨hS,(by lia),λd1 _=>?_⟩⟩))
   refine wc rfl rfl ⟨⟨by decide,by decide,by decide⟩,wc rfl rfl (wc rfl rfl ⟨(by rw [wqq];show (0:Int)<10000000000000000000000000000000000000000000000000000000001;decide),?_⟩)⟩
   have a1:=bj d1 (show (10000000000000000000000000000000000000000000000000000000001:Int)≠0 by decide)
   have a2:=aX d1 (show (0:Int)<10000000000000000000000000000000000000000000000000000000001 by decide)
   rw [←wqq] at a1 a2
   exact ⟨d1%((10:Int) ^ (58:Int).toNat+1),(rfl),(rfl),a1,by rw [wqq] at a2 ⊢;lia⟩
  rintro σ H' ⟨m,rfl,rfl,m1,m2⟩
  have wi:Within m 0 (some 1000000000000000000000000000000000000000000000000000000000000):=⟨m1,λb e=>by cases e;lia⟩
  refine ⟨λσ H2=>∃W2 D2 tv2,σ=[some (.ref a),some (.ref p1),some (.ref qp),some (.int top),some (.int b),some (.ref x),some (.ref sl),some (.int (0+j)),some (.int m),z9,z10,z11,z12]∧Solo qq qc qx H2 x dr dw dd R W2 D2 hs (itP hs (wf top b) m.toNat) tv2∧qjq hs (wf top b) m.toNat tv tv2∧D2.length=Ds.length+1∧Kb [dr,dw,dd] H' H2,?_,?_⟩
  ·refine exI rfl (exI rfl (wc rfl rfl ⟨a,ns,_,_,_,rfl,hS,(by lia),(by lia),(by lia),(by lia),λr2 _ l2 u2=>?_⟩))
   refine ⟨rfl,_,rfl,zt (λq1=>?_) (λq1=>?_)⟩
   ·refine exI rfl ⟨x,dx,exI rfl ⟨hx,xb (by decide +kernel) (by decide +kernel) (by decide +kernel),_,rfl,?_⟩⟩
    dsimp only [v5,Zc,tC]
    refine wvk h2 (by lia) wi λl H2 W2 D2 tv2 t2 hit lD2 kb=>?_
    exact ⟨W2,D2,tv2,(rfl),t2,hit,lD2,kb⟩
   ·obtain ⟨r,er,ra⟩:=h2.ro
    obtain ⟨y,p,t,ey,wk⟩:=h2.wk
    have lR:=h2.lR
    have lW:=h2.lW
    refine exI rfl ⟨x,dx,exI rfl ⟨hx,xb (by decide +kernel) (by decide +kernel) (by decide +kernel),exI rfl ⟨x,dr,dw,dd,R,W,Ds,"b",m,rfl,h2.h,(by lia),(by lia),(by lia),(λz=>by rw [ey] at z;cases z),λv ev=>?_⟩⟩⟩
    rw [ey] at ev
    cases ev
    refine ⟨y,"aa",p,wf top b,t,tv,r,hs,rfl,wk,h2.tm,er,ra,h2.hp,(λz=>absurd wi z),λ_ H2 p' t' tv' wd tm' hit=>?_⟩
    obtain ⟨W2,D2,t2,lD2,kb⟩:=h2.walk (by lia) wd tm' (h2.hp.it _)
    exact ⟨W2,D2,tv',(rfl),t2,hit,lD2,kb⟩
  rintro σ H2 ⟨W2,D2,tv2,rfl,h3,hit,lD2,kb⟩
  have d1:=h2.dl
  have hrow2:=d1.row kb ok hrow
  have hst2:=hst.dl d1 kb nsl
  have hqp2:=d1.tup kb hqp
  have hS2:SqL K H2 a (ns.map V.int):=Kb.sql kb hS (hda.imp id λz q=>z.1 (by
   simp only [am,ao,bv] at q ⊢
   rcases q with q|q|q
   ·exact .inl q
   ·exact .inr (.inl q)
   ·exact .inr (.inr (.inl q))))
  have hda2:(∀H',SqL K H' a (ns.map V.int))∨a∉[dr,dw,dd,sl]∧∃o,H2 a=some o:=hda.imp id λ⟨z,o,e⟩=>⟨z,o,kb _ _ (λq=>z (by
   simp only [am,ao,bv] at q ⊢
   rcases q with q|q|q
   ·exact .inl q
   ·exact .inr (.inl q)
   ·exact .inr (.inr (.inl q)))) e⟩
  refine ⟨_,rfl,_,rfl,_,rfl,p1,hs,top,b,rfl,SqL.of hrow2,ok,b1,by lia,on,λn u q l H3 dst u1 e1 n1 s3 nl fq fl=>?_⟩
  refine ⟨q,exI rfl ⟨SqT.of fq,rfl,_,_,rfl,_,_,rfl,rfl,?_⟩⟩
  obtain ⟨vs,hls3,lv,_⟩:=hst2.same s3
  refine exI rfl ⟨.inl ⟨rfl,_,SqL.of hls3⟩,exI rfl (exI rfl (exI rfl ⟨sz3,λtp ntp=>?_⟩))⟩
  have s4:=Same.upd (H:=H3) (o:=.tup [.int top,.ref p1,.int m]) ntp
  have f4:upd H3 tp (.tup [.int top,.ref p1,.int m]) tp=some (.tup [.int top,.ref p1,.int m]):=qm
  generalize upd H3 tp (.tup [.int top,.ref p1,.int m])=H4 at s4 f4
  have s34:=s3.trans s4
  have hls4:=s4 _ _ hls3
  have big:(1000000:Nat)<sizeLine:=by decide
  have lv1:vs.length=1+j:=by rw [lv];show S'.length+1=_;lia
  refine ⟨sl,wc rfl rfl ⟨hls4,(by lia),?_⟩⟩
  have kb5:Kb [sl] H4 (upd H4 sl (.lst (vs++[.ref tp]))):=λc o n e=>by rw [wz (λz=>n (by simp [z]))];exact e
  have f5:upd H4 sl (.lst (vs++[.ref tp])) sl=some (.lst (vs++[.ref tp])):=qm
  generalize upd H4 sl (.lst (vs++[.ref tp]))=H5 at kb5 f5
  have hst4:=hst2.same s34
  have d4:Dl H4 [sl]:=.cons (.inr ⟨vs,hst4.refs hls4,hls4⟩) .nil
  have h34:=h3.same s34
  simp only [am,ao,bv,not_or] at nsl
  have h35:=h34.kb kb5 d4 ⟨(λz=>by
   obtain ⟨dy,hy⟩:=h34.h.ob
   rw [aq.mp z,hls4] at hy;cases hy),(λz=>nsl.1 (aq.mp z).symm),(λz=>nsl.2.1 (aq.mp z).symm),(λz=>nsl.2.2 (aq.mp z).symm)⟩
  have hrow5:=d4.row kb5 ok (s34 _ _ hrow2)
  have hst5:StAt H5 sl b ((T0,hs0,m0)::S'++[(top,hs,m)]):=by
   obtain ⟨vs',g1,g2,g3⟩:=hst4
   rw [hls4] at g1
   have ev:vs=vs':=by injection g1 with g1;injection g1
   subst ev
   refine ⟨_,f5,by rw [au,au,g2];rfl,λi v e ev ee=>?_⟩
   by_cases hi:i<vs.length
   ·rw [bn hi] at ev
    rw [bn (by lia)] at ee
    obtain ⟨tp',row',c1,c2,c3,c4,c5⟩:=g3 i v e ev ee
    exact ⟨tp',row',c1,d4.tup kb5 c2,d4.row kb5 c4 c3,c4,c5⟩
   ·have hi2:i=vs.length:=by
     have:=(aQ.mp ev).1
     rw [au] at this
     have:i<vs.length+1:=this
     lia
    subst hi2
    rw [bb (ah _),Nat.sub_self] at ev
    rw [g2,bb (ah _),Nat.sub_self] at ee
    cases ev
    cases ee
    exact ⟨tp,p1,rfl,d4.tup kb5 f4,hrow5,ok,on,m1⟩
  have hqp5:=d4.tup kb5 (s34 _ _ hqp2)
  have hS5:SqL K H5 a (ns.map V.int):=Kb.sql kb5 (s34.sql hS2) (hda.imp id λz q=>z.1 (by rw [aq.mp q];simp))
  have hda5:(∀H',SqL K H' a (ns.map V.int))∨a∉[dr,dw,dd,sl]∧∃o,H5 a=some o:=hda2.imp id λ⟨z,o,e⟩=>⟨z,o,kb5 _ _ (λq=>z (by rw [aq.mp q];simp)) (s34 _ _ e)⟩
  have nll:l≠sl:=λz=>by rw [z,(hst2.choose_spec).1] at nl;cases nl
  have fl5:=kb5 _ _ (λz=>nll (aq.mp z)) (s4 _ _ fl)
  have hcn5:=hcn.go b1 hit
  refine exI rfl (exI rfl (exI rfl ⟨l,trT hs top b,n,u,m,rfl,fl5,u1,e1,tr_st,m1,?_⟩))
  have on':=yp ok b1 on m.toNat
  rw [←jh b1] at h35
  generalize trT hs top b m.toNat=top' at h35 on'
  clear hst2 hst4 hrow2 hS2 hda2 h34 hls4 hls3 fl5 fl fq
  refine exI rfl (exI rfl (wc rfl rfl (exI rfl (exI rfl ⟨p1,exI rfl ⟨.inl (SqL.of hrow5),λp6 n6=>?_⟩⟩))))
  have s6:=Same.upd (H:=H5) (o:=.lst (hs.map V.int)) n6
  have f6:upd H5 p6 (.lst (hs.map V.int)) p6=some (.lst (hs.map V.int)):=qm
  generalize upd H5 p6 (.lst (hs.map V.int))=H6 at s6 f6
  refine exI rfl (exI rfl ⟨a,x,dr,dw,dd,p6,ns,_,top',b,R,W2,D2,hs,tv2,rfl,s6.sql hS5,(by lia),b1,b2,on',h35.same s6,(by lia),(by lia),f6,λH7 row' R' W' D' hs' h7 on7 lh7 lD7 hrow7 kb7=>?_⟩)
  have d6:=(h35.same s6).dl
  have nsl':sl∉[dr,dw,dd]:=λz=>by
   simp only [am,ao,bv] at z
   rcases z with z|z|z
   ·exact nsl.1 z
   ·exact nsl.2.1 z
   ·exact nsl.2.2 z
  have hst7:=(hst5.same s6).dl d6 kb7 nsl'
  have hqp7:=d6.tup kb7 (s6 _ _ hqp5)
  have a3:∀ {z:Prop},a∉[dr,dw,dd,sl]→a∉[dr,dw,dd]:=λz q=>z (by
   simp only [am,ao,bv] at q ⊢
   rcases q with q|q|q
   ·exact .inl q
   ·exact .inr (.inl q)
   ·exact .inr (.inr (.inl q)))
  have hS7:SqL K H7 a (ns.map V.int):=Kb.sql kb7 (s6.sql hS5) (hda5.imp id λz=>a3 (z:=True) z.1)
  have hda7:(∀H',SqL K H' a (ns.map V.int))∨a∉[dr,dw,dd,sl]∧∃o,H7 a=some o:=hda5.imp id λ⟨z,o,e⟩=>⟨z,o,kb7 _ _ (a3 (z:=True) z) (s6 _ _ e)⟩
  have ok7:=h7.hp.1
  have o17:=ok7.1
  have lm7:(hs'.map V.int).length=hs'.length:=ae _
  refine exI rfl (exI rfl (wc rfl rfl (exI rfl (exI rfl (exI rfl ⟨row',exI rfl ⟨.inl (SqL.of hrow7),wc rfl rfl ?_⟩⟩)))))
  rw [lm7]
  have lS7:((T0,hs0,m0)::S'++[(top,hs,m)]).length=2+j:=by rw [au];show S'.length+1+1=_;lia
  refine ⟨a,sl,ns,_,b,_,_,rfl,hS7,(by lia),hst7,(by lia),(by lia),b1,b2,(by lia),(by lia),λqa t' b' H8 s8 fa c1 c2 c3 c4=>?_⟩
  have h8:=h7.same s8
  obtain ⟨dx8,hx8⟩:=h8.h.ob
  obtain ⟨y,p,t,ey,wk⟩:=h8.wk
  refine exI rfl ⟨x,dx8,exI rfl ⟨hx8,xb (by decide +kernel) (by decide +kernel) (by decide +kernel),exI rfl ⟨x,dr,dw,dd,qa,R',W',D',"b",t',b',rfl,h8.h,fa,(λz=>by rw [ey] at z;cases z),λv ev=>?_⟩⟩⟩
  rw [ey] at ev
  cases ev
  refine ⟨y,"aa",p,_,t,tv2,rfl,wk,(λz=>absurd z (by lia)),λ_=>⟨(Sm.small (n:=65) (by lia) (by lia) (by decide)).mono (by decide),λH9 s9=>?_⟩⟩
  rw [wwf h8.tm,hcn5.due b1 c1]
  refine exI rfl (exI rfl (exI rfl (yy ?_)))
  have s89:=s8.trans s9
  refine exI rfl (exI rfl (exI rfl (exI rfl ⟨sl,qa,_,T0,b,t',b',hs0,m0,S'++[(top,hs,m)],rfl,rfl,hst7.same s89,s9 _ _ fa,b1,b2,c1,c2,c3,c4,λHA sA=>⟨rfl,_,rfl,wx0 (λz=>absurd rfl z) (λ_=>?_)⟩⟩)))
  have s7A:=s89.trans sA
  exact ⟨row',top',_,_,_,_,_,_,R',W',D',hs',tv2,hs0,m0,S'++[(top,hs,m)],t0,b0,rfl,s7A.sql hS7,hda7.imp id (λ⟨z,o,e⟩=>⟨z,o,s7A _ _ e⟩),h7.same s7A,on7,(by lia),(by lia),s7A _ _ hrow7,hst7.same s7A,(by rw [au,lS];rfl),hcn5,nsl',s7A _ _ hqp7⟩
 ·rintro σ H1 ⟨p1,top,z7,z8,z9,z10,z11,z12,R,W,Ds,hs,tv,hs0,m0,S',t0,b0,rfl,hS,hda,h2,on,lh,lD,hrow,hst,lS,hcn,nsl,hqp⟩
  obtain ⟨y,p,t,ey,wk⟩:=h2.wk
  refine exI rfl (exI rfl ⟨a,ns,_,_,_,rfl,hS,(by lia),(by lia),(by lia),(by lia),λr1 _ l1 u1=>?_⟩)
  refine exI rfl ⟨sz2,λqa na=>?_⟩
  have s1:=Same.upd (H:=H1) (o:=.tup [.int 3,.int (-r1)]) na
  have f1:upd H1 qa (.tup [.int 3,.int (-r1)]) qa=some (.tup [.int 3,.int (-r1)]):=qm
  generalize upd H1 qa (.tup [.int 3,.int (-r1)])=H2 at s1 f1
  have h22:=h2.same s1
  refine ⟨x,dr,dw,dd,qa,R,W,Ds,"b",3,-r1,rfl,h22.h,f1,(λz=>by rw [ey] at z;cases z),λv ev=>?_⟩
  rw [ey] at ev
  cases ev
  refine ⟨by lia,⟨y,"aa",p,_,t,tv,rfl,wk.same s1⟩,?_⟩
  refine ⟨rfl,_,rfl,iteND (λz=>absurd rfl z) (λ_=>?_)⟩
  have no:w9 W (.inr "aa")=none:=by
   have e:=h2.kW
   match W,e with
   |[(k1,v1)],e =>
    have e:k1=.inr "b" := by injection e
    rw [zh (by rw [e];exact λz=>absurd (show ("b" : Str) = "aa" by injection z) (by decide +kernel))]
    rfl
  exact ⟨_,rfl,_,rfl,x,dr,dw,dd,qp,R,W,Ds,"aa",t0,b0,rfl,h22.h,s1 _ _ hqp,λ_=>⟨rfl,k _⟩,λv ev=>by rw [no] at ev;cases ev⟩
end
section
variable {P:Ac}{w:Ah}{K:Aa}{mg:Str→Option Ag}{base:Heap}{qf:Aj}{qh:Aj}{qw:Aj}{q8:Aj}{qd:Aj}{ww:Aj}{wx:Aj}{qt:Aj}{wv:Aj}{q9:Aj}{qb:Aj}{wb:Aj}{qz:Aj}{qc:Aj}{qx:Aj}{qq:Aj}
set_option maxHeartbeats 0 in
theorem ok_law {f:Aj}{fd:Ad}(F:Fun K "law" "law" s_law f fd)(T:Txt K mg qf qh qw q8 qd ww wx qt wv q9 qb wb qz qc qx qq)(c__law_heights:Cal P w K mg base "_law_heights" 4 (Wy K))(c__law_spot:Cal P w K mg base "_law_spot" 3 (qxd K))(c__law_low:Cal P w K mg base "_law_low" 2 ww3)
  (c_House:CCal P w K mg base "House" qq 1 (qw7 qq)) (c_lay:MCal P w K mg base qq "lay" 4 (wqx K qq qc qt wv qh)) (c_place:MCal P w K mg base qq "place" 5 (qxh K qq qc qx qt wv q9 qw q8))
  (c__law_cell:Cal P w K mg base "_law_cell" 1 (Ju K)) (c__law_pick:Cal P w K mg base "_law_pick" 2 (jm K)) (c_together:MCal P w K mg base qq "together" 8 (qvd qq qc qx q9 qd)) (c_go:MCal P w K mg base qq "go" 8 (spGo qq qc qx qb qd)) (c__law_trace:Cal P w K mg base "_law_trace" 2 (jr K)) (c__law_after:Cal P w K mg base "_law_after" 1 (Z0 K))
  (c__law_change:Cal P w K mg base "_law_change" 9 (Q2 K qq qc qx)) (c__law_asked:Cal P w K mg base "_law_asked" 3 (Zs K)) (c_stood:MCal P w K mg base qq "stood" 3 (Qn qq qx qb qw)) (c__law_whole:Cal P w K mg base "_law_whole" 1 Zn) (c__law_due:Cal P w K mg base "_law_due" 3 qxu) (c__law_refused:Cal P w K mg base "_law_refused" 4 (uj qq qx)):FnOk P w K mg base (CXE P w) 11 f fd ["_law_script"] (qjd K):=by
 have sc:=wq9
 refine F.okX sc (λvs H Q E h=>by obtain ⟨a,ns,rfl,_⟩:=h;rfl) (λcdv A outer s H vs Q E hr h=>?_)
 obtain ⟨a,ns,rfl,hS,hl,k⟩:=h
 have e0:(wt s_law).drop 0=(wt s_law)[0]'(by decide +kernel)::(wt s_law).drop 1:=aM (by decide +kernel)
 have e1:(wt s_law).drop 1=(wt s_law)[1]'(by decide +kernel)::(wt s_law).drop 2:=aM (by decide +kernel)
 have e2:(wt s_law).drop 2=(wt s_law)[2]'(by decide +kernel)::(wt s_law).drop 3:=aM (by decide +kernel)
 have e3:(wt s_law).drop 3=(wt s_law)[3]'(by decide +kernel)::(wt s_law).drop 4:=aM (by decide +kernel)
 have e4:(wt s_law).drop 4=(wt s_law)[4]'(by decide +kernel)::(wt s_law).drop 5:=aM (by decide +kernel)
 have e5:(wt s_law).drop 5=(wt s_law)[5]'(by decide +kernel)::(wt s_law).drop 6:=aM (by decide +kernel)
 have e6:(wt s_law).drop 6=(wt s_law)[6]'(by decide +kernel)::(wt s_law).drop 7:=aM (by decide +kernel)
 have e:wt s_law=(wt s_law).drop 0:=rfl
 rw [e0,e1,e2,e3,e4,e5,e6] at e
 rw [e]
 clear e e0 e1 e2 e3 e4 e5 e6
 generalize h7:(wt s_law).drop 7=rest
 refine ⟨_,(qk (wn (i:=1) sc.nd rfl (by walk_at "loc") (wu c__law_heights (hr.mono (by decide)) rfl qy (qr (pv 0) (w6 qu (w6 qu qj)))))
   (qk (wn (i:=2) sc.nd rfl (by walk_at "loc") (wu c__law_spot (hr.mono (by decide)) rfl qy (qr (pv 0) (w6 qu (x4 (wy zj (wp w8 rfl T.len_ aF (qr (pv 1) qj)) qu) (w6 qu qj))))))
   (qk (ju (wu c__law_low (hr.mono (by decide)) rfl qy (v9 (xp zb (pv 2) qu (λ_ _=>rfl)) (v9 (xp zb (pv 2) qu (λ_ _=>rfl)) qj))) (v4 rfl (xk (xv (i:=3) sc.nd rfl (by walk_at "loc")) (xk (xv (i:=4) sc.nd rfl (by walk_at "loc")) zn))))
   (qk (wn (i:=5) sc.nd rfl (by walk_at "loc") (qum c_House (hr.mono (by decide)) rfl qy))
   (qk (xg (xz (pv 5) T.clH c_lay (hr.mono (by decide)) qy (w6 xn (vg (kf jv rfl T.list_ bQ (qr (pv 1) qj)) qj))))
   (qk (xg (xz (pv 5) T.clH c_place (hr.mono (by decide)) qy (w6 xn (w6 xn (qr (pv 2) qj)))))
   (qk (wn (i:=6) sc.nd rfl (by walk_at "loc") (um (qj8 (zm (qr (pv 3) (qr (pv 1) (w6 qu qj)))) qj)))
   (qyj T c__law_cell c__law_pick c_together c_go c__law_trace c__law_after c__law_change c__law_asked c_stood c__law_whole c__law_due c__law_refused hr h7)))))))),?_⟩
 refine exI rfl ⟨a,ns,_,_,rfl,hS,(by lia),(by lia),(by lia),λp1 hs w1 n1 a1 b1 i1=>?_⟩
 have ok:xj hs:=wvw i1 a1 (by lia)
 have o1:=ok.1
 have o2:=ok.2.1
 have lm:(hs.map V.int).length=hs.length:=ae _
 have lh6:hs.length≤5:=by have:=i1.1;lia
 have s1:=Same.upd (H:=H) (o:=.lst (hs.map V.int)) n1
 have f1:upd H p1 (.lst (hs.map V.int)) p1=some (.lst (hs.map V.int)):=qm
 generalize upd H p1 (.lst (hs.map V.int))=H1 at s1 f1
 refine exI rfl (exI rfl ⟨p1,exI rfl ⟨.inl (SqL.of f1),wc rfl rfl ?_⟩⟩)
 rw [lm]
 refine ⟨a,ns,_,_,_,rfl,s1.sql hS,(by lia),(by lia),(by lia),(by lia),(by lia),λqp t0 b0 k0 n2 y1 y2 y3 y4 y5 y6=>?_⟩
 have s2:=s1.trans (Same.upd (o:=.tup [.int (t0*k0),.int (b0*k0)]) n2)
 have g2:=(Same.upd (H:=H1) (o:=.tup [.int (t0*k0),.int (b0*k0)]) n2) _ _ f1
 have f2:upd H1 qp (.tup [.int (t0*k0),.int (b0*k0)]) qp=some (.tup [.int (t0*k0),.int (b0*k0)]):=qm
 generalize upd H1 qp (.tup [.int (t0*k0),.int (b0*k0)])=H2 at s2 g2 f2
 have bb1:1≤b0*k0:=Int.mul_pos (by lia) (by lia)
 have bb2:b0*k0≤13*3:=ff (by lia) (by lia) (by lia) (by lia)
 have on0:OnRoad hs (t0*k0) (b0*k0):=⟨dh y5 (by lia),by rw [←Int.mul_assoc];exact ay y6 (by lia)⟩
 generalize t0*k0=t' at f2 on0
 generalize b0*k0=b' at f2 on0 bb1 bb2
 have lb:=qk9 (t:=t') bb1
 have hP:HPt hs (wf t' b'):=⟨ok,⟨low1 bb1,fc _,qws bb1,qxq bb1 on0⟩,by lia⟩
 have onl:=qxq bb1 on0
 have ll:wf (wf t' b').1 (wf t' b').2=wf t' b':=qwt (low1 bb1) (qws bb1)
 have lb1:=low1 (t:=t') bb1
 refine exI rfl (exX rfl rfl (SqT.of f2) rfl (exI rfl (exX rfl rfl (SqT.of f2) rfl ⟨t',b',rfl,bb1,(Sm.small (n:=65) (by lia) (by lia) (by decide)).mono (by decide),λq3 n3=>?_⟩)))
 have s3':=Same.upd (H:=H2) (o:=.tup (ptV (wf t' b'))) n3
 have f3:upd H2 q3 (.tup (ptV (wf t' b'))) q3=some (.tup [.int (wf t' b').1,.int (wf t' b').2]):=qm
 generalize upd H2 q3 (.tup (ptV (wf t' b')))=H3 at s3' f3
 have s3:=s2.trans s3'
 have g3:=s3' _ _ g2
 have p3:=s3' _ _ f2
 refine ⟨q3,exI rfl ⟨SqT.of f3,rfl,_,_,rfl,_,_,rfl,rfl,?_⟩⟩
 refine λx d9 nx nd9 ne9=>⟨x,d9,rfl,qm,λH4 dr dw dd m1 m2 m3 hse kb1=>⟨rfl,?_⟩⟩
 have s4':Same H3 H4:=λz o e=>kb1 z o (λy=>by rw [aq.mp y,nx] at e;cases e) (by rw [wz (qg e nx),wz (qg e nd9)];exact e)
 have fresh:∀ {b},upd (upd H3 d9 (HO.own x)) x (HO.ins qq d9 []) b=none→H3 b=none:=λ{b} m=>by
  cases e:H3 b with
  |none=>rfl
  |some o=>rw [wz (qg e nx),wz (qg e nd9),e] at m;cases m
 have hdis:(∀H',SqL K H' a (ns.map V.int))∨∃o,H3 a=some o:=by
  rcases s3.sql hS with (e|⟨u,e⟩)|e
  ·exact .inr ⟨_,e⟩
  ·exact .inr ⟨_,e⟩
  ·exact .inl λ_=>.inr e
 have hda:(∀H',SqL K H' a (ns.map V.int))∨a∉[dr,dw,dd]∧∃o,H4 a=some o:=hdis.imp id λ⟨o,e⟩=>⟨(λz=>by
  simp only [am,ao,bv] at z
  rcases z with rfl|rfl|rfl
  ·rw [fresh m1] at e;cases e
  ·rw [fresh m2] at e;cases e
  ·rw [fresh m3] at e;cases e),o,s4' _ _ e⟩
 clear hdis fresh m1 m2 m3 kb1
 have s4:=s3.trans s4'
 have g4:=s4' _ _ g3
 have p4:=s4' _ _ p3
 have nma:ku ("aa" : Str)=true:=by decide +kernel
 have nmb:ku ("b" : Str)=true:=by decide +kernel
 have la:("aa" : Str).length≤1000:=by decide +kernel
 have lbb:("b" : Str).length≤1000:=by decide +kernel
 obtain ⟨dx,hx⟩:=hse.ob
 refine exI rfl ⟨x,dx,exI rfl ⟨hx,xb (by decide +kernel) (by decide +kernel) (by decide +kernel),exI rfl ⟨p1,exI rfl ⟨.inl (SqL.of g4),λp5 n5=>?_⟩⟩⟩⟩
 have s5:=Same.upd (H:=H4) (o:=.lst (hs.map V.int)) n5
 have f5:upd H4 p5 (.lst (hs.map V.int)) p5=some (.lst (hs.map V.int)):=qm
 generalize upd H4 p5 (.lst (hs.map V.int))=H5 at s5 f5
 have h5:=hse.same s5
 refine ⟨x,dr,dw,dd,p5,[],[],[],"aa",hs,rfl,h5,(λv hv=>nomatch hv),aE _,aE _,aE _,la,f5,λ_ _ _ H6 rd=>?_,(λz=>by rw [nma] at z;cases z),(λ_ z=>by cases z),λ_ _ z=>absurd ok z⟩
 obtain ⟨r,tp,q1,q2,_,_,_,h6,_,_,_,_,r6,kb6⟩:=rd
 have rf6:Refs ([]++[V.ref tp]):=Refs.add (D:=[]) (λv hv=>nomatch hv) tp
 have d5:Dl H5 [dr,dw,dd]:=h5.dl (λv hv=>nomatch hv) .nil
 have g6:=d5.row kb6 ok (s5 _ _ g4)
 have p6:=d5.tup kb6 (s5 _ _ p4)
 have hS6:SqL K H6 a (ns.map V.int):=Kb.sql kb6 ((s4.trans s5).sql hS) (hda.imp id λz=>z.1)
 have hda6:(∀H',SqL K H' a (ns.map V.int))∨a∉[dr,dw,dd]∧∃o,H6 a=some o:=hda.imp id λ⟨z,o,e⟩=>⟨z,o,kb6 _ _ z (s5 _ _ e)⟩
 have v6:w9 (zu [] (Sum.inr ("aa" : Str):Key) (V.ref r)) (.inr "aa")=some (.ref r):=by rw [vb,al rfl]
 have k6:(zu [] (Sum.inr ("aa" : Str):Key) (V.ref r)).map (·.1)=[.inr "aa"]:=rfl
 generalize zu [] (Sum.inr ("aa" : Str):Key) (V.ref r)=R6 at h6 v6 k6
 have l6:R6.length=1:=by simpa using bq List.length k6
 have l6d:([]++[V.ref tp]).length=1:=rfl
 generalize ([]++[V.ref tp]:List V)=D6 at h6 rf6 l6d
 clear kb6 d5 h5 f5 s5 hx g4 hse hda n5
 obtain ⟨dx,hx⟩:=h6.ob
 refine exI rfl ⟨x,dx,exI rfl ⟨hx,xb (by decide +kernel) (by decide +kernel) (by decide +kernel),exI rfl ⟨x,dr,dw,dd,qp,R6,[],D6,"b","aa",t',b',rfl,h6,(by lia),aE _,(by lia),lbb,p6,(λz=>by rw [nmb] at z;cases z),(λ_ z=>by cases z),λ_ _=>⟨(λz=>by rw [v6] at z;cases z),λv ev=>?_⟩⟩⟩⟩
 rw [v6] at ev
 cases ev
 refine ⟨r,hs,rfl,r6,ok,(λz=>absurd z (by lia)),λ_=>⟨(Sm.small (n:=65) (by lia) (by lia) (by decide)).mono (by decide),(λz=>absurd z (by lia)),λ_=>⟨(λz=>absurd hP.2.1.2.2.2 z),λ_ H7 pB tmB wd=>?_⟩⟩⟩
 obtain ⟨y,tpB,q1,q2,_,_,_,h7',_,_,_,_,wk7,kb7⟩:=wd
 have rf7:=rf6.add tpB
 have d6:Dl H6 [dr,dw,dd]:=h6.dl rf6 .nil
 have r7:=d6.road kb7 ok r6
 have g7:=d6.row kb7 ok g6
 have p7:=d6.tup kb7 p6
 have hS7:SqL K H7 a (ns.map V.int):=Kb.sql kb7 hS6 (hda6.imp id λz=>z.1)
 have hda7:(∀H',SqL K H' a (ns.map V.int))∨a∉[dr,dw,dd]∧∃o,H7 a=some o:=hda6.imp id λ⟨z,o,e⟩=>⟨z,o,kb7 _ _ z e⟩
 have v7:w9 (zu [] (Sum.inr ("b" : Str):Key) (V.ref y)) (.inr "b")=some (.ref y):=by rw [vb,al rfl]
 have k7:(zu [] (Sum.inr ("b" : Str):Key) (V.ref y)).map (·.1)=[.inr "b"]:=rfl
 generalize zu [] (Sum.inr ("b" : Str):Key) (V.ref y)=W7 at h7' v7 k7
 have l7d:(D6++[V.ref tpB]).length=2:=by rw [au,l6d];rfl
 generalize (D6++[V.ref tpB]:List V)=D7 at h7' rf7 l7d
 have rg:=hP.rng
 have tm:TmOk [([.inl (wf t' b').1,.inl (wf t' b').2],.int 1)]:=TmOk.one rg.1 rg.2.1 rg.2.2.1 rg.2.2.2
 have cn:=CntIs.new (hs:=hs) lb1 (t:=(wf t' b').1) (by rw [ll];exact hP)
 rw [ll] at cn
 have so:Solo qq qc qx H7 x dr dw dd R6 W7 D7 hs (wf t' b') _:=⟨h7',rf7,by lia,k6,k7,⟨r,v6,r7⟩,⟨y,pB,tmB,v7,wk7⟩,tm,hP⟩
 refine exI rfl (exI rfl ⟨sz3,λte ne=>?_⟩)
 have s8':=Same.upd (H:=H7) (o:=.tup [.int (wf t' b').1,.ref p1,.int 0]) ne
 have f8:upd H7 te (.tup [.int (wf t' b').1,.ref p1,.int 0]) te=some (.tup [.int (wf t' b').1,.ref p1,.int 0]):=qm
 generalize upd H7 te (.tup [.int (wf t' b').1,.ref p1,.int 0])=H8 at s8' f8
 refine ⟨sz1,λsl nsl=>?_⟩
 have s9':=Same.upd (H:=H8) (o:=.lst [.ref te]) nsl
 have f9:upd H8 sl (.lst [.ref te]) sl=some (.lst [.ref te]):=qm
 generalize upd H8 sl (.lst [.ref te])=H9 at s9' f9
 have s79:=s8'.trans s9'
 have so8:=so.same s8'
 have nin:sl∉[dr,dw,dd]:=λz=>by
  simp only [am,ao,bv] at z
  rcases z with rfl|rfl|rfl
  ·rw [so8.h.r] at nsl;cases nsl
  ·rw [so8.h.w] at nsl;cases nsl
  ·rw [so8.h.d] at nsl;cases nsl
 refine ⟨a,x,dr,dw,dd,sl,qp,ns,(wf t' b').1,(wf t' b').2,hl,lb1,(by lia),⟨p1,(wf t' b').1,_,_,_,_,_,_,R6,W7,D7,hs,_,hs,0,[],t',b',rfl,s79.sql hS7,hda7.imp id (λ⟨z,o,e⟩=>⟨λq=>?_,o,s79 _ _ e⟩),by rw [ll];exact so.same s79,onl,(by lia),(by lia),s79 _ _ g7,⟨_,f9,rfl,λi v e ev ee=>?_⟩,rfl,cn,nin,s79 _ _ p7⟩,k⟩
 ·match i,ev,ee with
  |0,ev,ee =>
   cases ev
   cases ee
   exact ⟨te,p1,rfl,s9' _ _ f8,s79 _ _ g7,ok,onl,fc _⟩
  |i+1,ev,ee=>cases ev
 ·simp only [am,ao,bv] at z q
  rcases q with q|q|q|q
  ·exact z (.inl q)
  ·exact z (.inr (.inl q))
  ·exact z (.inr (.inr q))
  ·rw [q] at e
   rw [s8' _ _ e] at nsl
   cases nsl
end
section
theorem all_mk {l:PySem.W.OpenLaw}{w:Ah}{K:Aa}{h:Heap}{mg:Str→Option Ag}{fa:Aj}{qf:Aj}{qh:Aj}{qw:Aj}{q8:Aj}{qd:Aj}{ww:Aj}{wx:Aj}{qt:Aj}{wv:Aj}{q9:Aj}{qb:Aj}{wb:Aj}{qz:Aj}{qc:Aj}{qx:Aj}{qq:Aj}{t_WIDEST:Tok}{t_LONGEST_TRACE:Tok}{t_FARTHEST:Tok}{t_LONGEST_NAME:Tok}{t_GREATEST_BOTTOM:Tok}{t_LETTERS:Tok}(X:K.In h)(G:h.Ns mainGlobals mg)(hfa:mg "law" = some (.ref fa))
  (d__law_cell:DefIn K "_law_cell" s__law_cell)
  (d__law_pick:DefIn K "_law_pick" s__law_pick)
  (d_check_bottom:DefIn K "check_bottom" s_check_bottom)
  (d_common_divisor:DefIn K "common_divisor" s_common_divisor)
  (d_lowest:DefIn K "lowest" s_lowest)
  (d_check_count:DefInD K "check_count" s_check_count)
  (d_is_line:DefIn K "is_line" s_is_line)
  (d_trace:DefIn K "trace" s_trace)
  (d_spot:DefIn K "spot" s_spot)
  (d_led_to:DefIn K "led_to" s_led_to)
  (d_set_down:DefIn K "set_down" s_set_down)
  (d_is_name:DefIn K "is_name" s_is_name)
  (d_check_new_name:DefIn K "check_new_name" s_check_new_name)
  (d_exchange:DefIn K "exchange" s_exchange)
  (d_less:DefIn K "less" s_less)
  (d__law_climb:DefIn K "_law_climb" s__law_climb)
  (d__law_heights:DefIn K "_law_heights" s__law_heights)
  (d__law_step:DefIn K "_law_step" s__law_step)
  (d__law_trace:DefIn K "_law_trace" s__law_trace)
  (d__law_after:DefIn K "_law_after" s__law_after)
  (d__law_common:DefIn K "_law_common" s__law_common)
  (d__law_low:DefIn K "_law_low" s__law_low)
  (d__law_spot:DefIn K "_law_spot" s__law_spot)
  (d__law_whole:DefIn K "_law_whole" s__law_whole)
  (d__law_count:DefIn K "_law_count" s__law_count)
  (d__law_due:DefIn K "_law_due" s__law_due)
  (d__law_refused:DefIn K "_law_refused" s__law_refused)
  (d__law_asked:DefIn K "_law_asked" s__law_asked)
  (d__law_change:DefIn K "_law_change" s__law_change)
  (d_law:DefIn K "law" s_law)
  (a_RoadError:PySem.W.nsIn K mainGlobals "RoadError" = some (some (.ref qf)))
  (x_RoadError:PySem.W.excIn K qf [.type "ValueError",.type "Exception",.type "BaseException",.type "object"] "ValueError.__new__" = true)
  (a_BadLine:PySem.W.nsIn K mainGlobals "BadLine" = some (some (.ref qh)))
  (x_BadLine:PySem.W.excIn K qh [.type "ValueError",.type "Exception",.type "BaseException",.type "object"] "ValueError.__new__" = true)
  (a_BadBottom:PySem.W.nsIn K mainGlobals "BadBottom" = some (some (.ref qw)))
  (x_BadBottom:PySem.W.excIn K qw [.type "ValueError",.type "Exception",.type "BaseException",.type "object"] "ValueError.__new__" = true)
  (a_OffRoad:PySem.W.nsIn K mainGlobals "OffRoad" = some (some (.ref q8)))
  (x_OffRoad:PySem.W.excIn K q8 [.type "ValueError",.type "Exception",.type "BaseException",.type "object"] "ValueError.__new__" = true)
  (a_BadCount:PySem.W.nsIn K mainGlobals "BadCount" = some (some (.ref qd)))
  (x_BadCount:PySem.W.excIn K qd [.type "ValueError",.type "Exception",.type "BaseException",.type "object"] "ValueError.__new__" = true)
  (a_TooLong:PySem.W.nsIn K mainGlobals "TooLong" = some (some (.ref ww)))
  (x_TooLong:PySem.W.excIn K ww [.type "ValueError",.type "Exception",.type "BaseException",.type "object"] "ValueError.__new__" = true)
  (a_BadRow:PySem.W.nsIn K mainGlobals "BadRow" = some (some (.ref wx)))
  (x_BadRow:PySem.W.excIn K wx [.type "ValueError",.type "Exception",.type "BaseException",.type "object"] "ValueError.__new__" = true)
  (a_BadName:PySem.W.nsIn K mainGlobals "BadName" = some (some (.ref qt)))
  (x_BadName:PySem.W.excIn K qt [.type "ValueError",.type "Exception",.type "BaseException",.type "object"] "ValueError.__new__" = true)
  (a_Taken:PySem.W.nsIn K mainGlobals "Taken" = some (some (.ref wv)))
  (x_Taken:PySem.W.excIn K wv [.type "ValueError",.type "Exception",.type "BaseException",.type "object"] "ValueError.__new__" = true)
  (a_NoRoad:PySem.W.nsIn K mainGlobals "NoRoad" = some (some (.ref q9)))
  (x_NoRoad:PySem.W.excIn K q9 [.type "ValueError",.type "Exception",.type "BaseException",.type "object"] "ValueError.__new__" = true)
  (a_NoWalker:PySem.W.nsIn K mainGlobals "NoWalker" = some (some (.ref qb)))
  (x_NoWalker:PySem.W.excIn K qb [.type "ValueError",.type "Exception",.type "BaseException",.type "object"] "ValueError.__new__" = true)
  (a_Stood:PySem.W.nsIn K mainGlobals "Stood" = some (some (.ref wb)))
  (x_Stood:PySem.W.excIn K wb [.type "ValueError",.type "Exception",.type "BaseException",.type "object"] "ValueError.__new__" = true)
  (a_NothingDone:PySem.W.nsIn K mainGlobals "NothingDone" = some (some (.ref qz)))
  (x_NothingDone:PySem.W.excIn K qz [.type "ValueError",.type "Exception",.type "BaseException",.type "object"] "ValueError.__new__" = true)
  (a_Road:PySem.W.nsIn K mainGlobals "Road" = some (some (.ref qc)))
  (pg_Road:PySem.W.plainGet K qc Str.empty=true)
  (hd_Road:PySem.W.hasDictIn K qc=true)
  (po_Road:PySem.W.plainOver K qc=true)
  (sa_Road:PySem.W.findIn K (.ref qc) "__setattr__" = some (some (.builtin "object.__setattr__")))
  (mk_Road:PySem.W.makesIn K qc=true)
  (kc_Road:PySem.W.keepIn K (.ref qc)=true)
  (m_Road___init__:MethIn K qc "__init__" "Road.__init__" s_Road___init__)
  (m_Road_width:MethIn K qc "width" "Road.width" s_Road_width)
  (m_Road_ends:MethIn K qc "ends" "Road.ends" s_Road_ends)
  (m_Road_corners:MethIn K qc "corners" "Road.corners" s_Road_corners)
  (m_Road_on_road:MethIn K qc "on_road" "Road.on_road" s_Road_on_road)
  (m_Road_at:MethIn K qc "at" "Road.at" s_Road_at)
  (a_Walker:PySem.W.nsIn K mainGlobals "Walker" = some (some (.ref qx)))
  (pg_Walker:PySem.W.plainGet K qx Str.empty=true)
  (hd_Walker:PySem.W.hasDictIn K qx=true)
  (po_Walker:PySem.W.plainOver K qx=true)
  (sa_Walker:PySem.W.findIn K (.ref qx) "__setattr__" = some (some (.builtin "object.__setattr__")))
  (mk_Walker:PySem.W.makesIn K qx=true)
  (kc_Walker:PySem.W.keepIn K (.ref qx)=true)
  (m_Walker___init__:MethIn K qx "__init__" "Walker.__init__" s_Walker___init__)
  (m_Walker_gone:MethIn K qx "gone" "Walker.gone" s_Walker_gone)
  (a_House:PySem.W.nsIn K mainGlobals "House" = some (some (.ref qq)))
  (pg_House:PySem.W.plainGet K qq Str.empty=true)
  (hd_House:PySem.W.hasDictIn K qq=true)
  (po_House:PySem.W.plainOver K qq=true)
  (sa_House:PySem.W.findIn K (.ref qq) "__setattr__" = some (some (.builtin "object.__setattr__")))
  (mk_House:PySem.W.makesIn K qq=true)
  (kc_House:PySem.W.keepIn K (.ref qq)=true)
  (m_House___init__:MethIn K qq "__init__" "House.__init__" s_House___init__)
  (m_House_road_called:MethIn K qq "road_called" "House.road_called" s_House_road_called)
  (m_House_walker_called:MethIn K qq "walker_called" "House.walker_called" s_House_walker_called)
  (m_House_do:MethIn K qq "do" "House.do" s_House_do)
  (m_House_lay:MethIn K qq "lay" "House.lay" s_House_lay)
  (m_House_take_back:MethIn K qq "take_back" "House.take_back" s_House_take_back)
  (m_House_bend:MethIn K qq "bend" "House.bend" s_House_bend)
  (m_House_widen:MethIn K qq "widen" "House.widen" s_House_widen)
  (m_House_place:MethIn K qq "place" "House.place" s_House_place)
  (m_House_go:MethIn K qq "go" "House.go" s_House_go)
  (m_House_walkers_on:MethIn K qq "walkers_on" "House.walkers_on" s_House_walkers_on)
  (m_House_narrow:MethIn K qq "narrow" "House.narrow" s_House_narrow)
  (m_House_together:MethIn K qq "together" "House.together" s_House_together)
  (m_House_stood:MethIn K qq "stood" "House.stood" s_House_stood)
  (na_Road_heights:PySem.W.findIn K (.ref qc) "heights" = some none)
  (na_Walker_whose:PySem.W.findIn K (.ref qx) "whose" = some none)
  (na_Walker_point:PySem.W.findIn K (.ref qx) "point" = some none)
  (na_Walker_times:PySem.W.findIn K (.ref qx) "times" = some none)
  (na_House_roads:PySem.W.findIn K (.ref qq) "roads" = some none)
  (na_House_walkers:PySem.W.findIn K (.ref qq) "walkers" = some none)
  (na_House_done:PySem.W.findIn K (.ref qq) "done" = some none)
  (g_WIDEST:PySem.W.nsIn K mainGlobals "WIDEST" = some (some (.int 24 t_WIDEST)))
  (g_LONGEST_TRACE:PySem.W.nsIn K mainGlobals "LONGEST_TRACE" = some (some (.int 1000 t_LONGEST_TRACE)))
  (g_FARTHEST:PySem.W.nsIn K mainGlobals "FARTHEST" = some (some (.int 1000000000000000000000000000000000000000000000000000000000000 t_FARTHEST)))
  (g_LONGEST_NAME:PySem.W.nsIn K mainGlobals "LONGEST_NAME" = some (some (.int 12 t_LONGEST_NAME)))
  (g_GREATEST_BOTTOM:PySem.W.nsIn K mainGlobals "GREATEST_BOTTOM" = some (some (.int 40 t_GREATEST_BOTTOM)))
  (g_LETTERS:PySem.W.nsIn K mainGlobals "LETTERS" = some (some (.str "abcdefghijklmnopqrstuvwxyz" t_LETTERS)))
  (ms:PySem.W.mroIn K qb (.ref qw)=some false)
  (z_len:PySem.W.nsIn K mainGlobals "len" = some none)
  (z_abs:PySem.W.nsIn K mainGlobals "abs" = some none)
  (z_range:PySem.W.nsIn K mainGlobals "range" = some none)
  (z_list:PySem.W.nsIn K mainGlobals "list" = some none)
  (z_min:PySem.W.nsIn K mainGlobals "min" = some none)
  (z_max:PySem.W.nsIn K mainGlobals "max" = some none)
  (z_all:PySem.W.nsIn K mainGlobals "all" = some none)
  (z_any:PySem.W.nsIn K mainGlobals "any" = some none)
  (z_sorted:PySem.W.nsIn K mainGlobals "sorted" = some none)
  (z_enumerate:PySem.W.nsIn K mainGlobals "enumerate" = some none)
  (z_dict:PySem.W.nsIn K mainGlobals "dict" = some none)
  (z_isinstance:PySem.W.nsIn K mainGlobals "isinstance" = some none)
  (z_int:PySem.W.nsIn K mainGlobals "int" = some none)
  (z_bool:PySem.W.nsIn K mainGlobals "bool" = some none) :
  ∃fd:Ad,(∀(s:Ab) (v:Ag),BindsTo s fd ⟨[v],[]⟩ [("_law_script",v)])∧∀base:Heap,K.In base→base.Ns mainGlobals mg→FnOk l.prog w K mg base (CXE l.prog w) 11 fa fd ["_law_script"] (qjd K):=by
 have T:Txt K mg qf qh qw q8 qd ww wx qt wv q9 qb wb qz qc qx qq:=⟨aO X G z_len,aO X G z_abs,aO X G z_range,aO X G z_list,aO X G z_min,aO X G z_max,aO X G z_all,aO X G z_any,aO X G z_sorted,aO X G z_enumerate,aO X G z_dict,aO X G z_isinstance,aO X G z_int,aO X G z_bool,aI X G a_RoadError,⟨x_RoadError⟩,aI X G a_BadLine,⟨x_BadLine⟩,aI X G a_BadBottom,⟨x_BadBottom⟩,aI X G a_OffRoad,⟨x_OffRoad⟩,aI X G a_BadCount,⟨x_BadCount⟩,aI X G a_TooLong,⟨x_TooLong⟩,aI X G a_BadRow,⟨x_BadRow⟩,aI X G a_BadName,⟨x_BadName⟩,aI X G a_Taken,⟨x_Taken⟩,aI X G a_NoRoad,⟨x_NoRoad⟩,aI X G a_NoWalker,⟨x_NoWalker⟩,aI X G a_Stood,⟨x_Stood⟩,aI X G a_NothingDone,⟨x_NothingDone⟩,⟨pg_Road,hd_Road,po_Road,sa_Road⟩,na_Road_heights,⟨t_WIDEST,aI X G g_WIDEST⟩,aI X G a_Road,⟨pg_Walker,hd_Walker,po_Walker,sa_Walker⟩,⟨pg_House,hd_House,po_House,sa_House⟩,na_Walker_whose,na_Walker_point,na_Walker_times,na_House_roads,na_House_walkers,na_House_done,aI X G a_Walker,aI X G a_House,⟨t_LONGEST_TRACE,aI X G g_LONGEST_TRACE⟩,⟨t_FARTHEST,aI X G g_FARTHEST⟩,⟨t_LONGEST_NAME,aI X G g_LONGEST_NAME⟩,⟨t_GREATEST_BOTTOM,aI X G g_GREATEST_BOTTOM⟩,⟨t_LETTERS,aI X G g_LETTERS⟩,ms⟩
 obtain ⟨f,fd,a,F⟩:=d_law.ex
 have e:=hfa.symm.trans (aI X G a)
 cases e
 refine ⟨fd,λs v=>?_,λbase kb nb=>?_⟩
 ·obtain ⟨oc,od,kV,doc,pm,an,cdv,ct,osl,rfl,lk,hcd⟩:=F.ex
  exact .of_eq rfl
 ·have c1:Cal l.prog w K mg base "_law_cell" 1 (Ju K):=d__law_cell.cal X G qw6 λf fd F=>wzg F T
  have c2:Cal l.prog w K mg base "_law_pick" 2 (jm K):=d__law_pick.cal X G qwg λf fd F=>wz5 F T c1
  have c3:Cal l.prog w K mg base "check_bottom" 1 (Zg qw):=d_check_bottom.cal X G Zu λf fd F=>wwr F T
  have c4:Cal l.prog w K mg base "common_divisor" 1 qwz:=d_common_divisor.cal X G Q3 λf fd F=>ok_gcd F T
  have c5:Cal l.prog w K mg base "lowest" 2 (j5 qw):=d_lowest.cal X G quv λf fd F=>qup F T c3 c4
  have c6:CalD l.prog w K mg base "check_count" 1 (Zd qd):=d_check_count.cal X G Yq Yc λf fd F=>wwg F T
  have c7:Cal l.prog w K mg base "is_line" 1 (Jd K):=d_is_line.cal X G qk3 λf fd F=>qkh F T
  have c8:CCal l.prog w K mg base "Road" qc 2 (uh K qh qc):=m_Road___init__.ccal T.g_Road mk_Road kc_Road Wb λf fd F=>wz9 F T c7
  have c9:MCal l.prog w K mg base qc "width" 1 (y7 qc):=m_Road_width.cal qqb λf fd F=>wqb F T
  have c10:MCal l.prog w K mg base qc "ends" 2 (qk8 qc wx):=m_Road_ends.cal qxk λf fd F=>wvn F T c9
  have c11:MCal l.prog w K mg base qc "corners" 1 (jt qc):=m_Road_corners.cal Zx λf fd F=>qkp F T
  have c12:MCal l.prog w K mg base qc "on_road" 3 (Q1 K qc qw q8):=m_Road_on_road.cal Zv λf fd F=>qks F T c9 c5
  have c13:MCal l.prog w K mg base qc "at" 4 (spAt K qc qw q8):=m_Road_at.cal qv6 λf fd F=>ok_at F T c9 c5 c10 c12
  have c14:Cal l.prog w K mg base "trace" 5 (qx6 qc ww):=d_trace.cal X G wwj λf fd F=>wxp F T c13
  have c15:Cal l.prog w K mg base "spot" 1 qk4:=d_spot.cal X G wzu λf fd F=>wzm F T
  have c16:Cal l.prog w K mg base "led_to" 1 wxj:=d_led_to.cal X G qy2 λf fd F=>ok_led F T
  have c17:CCal l.prog w K mg base "Walker" qx 1 (Q4 qx):=m_Walker___init__.ccal T.g_Walker mk_Walker kc_Walker u7 λf fd F=>wxg F T
  have c18:Cal l.prog w K mg base "set_down" 3 (Q7 qx):=d_set_down.cal X G qx8 λf fd F=>qvy F T c17
  have c19:MCal l.prog w K mg base qx "gone" 6 (qw8 qx qc):=m_Walker_gone.cal Jf λf fd F=>wvy F T c14 c16 c15 c17
  have c20:Cal l.prog w K mg base "is_name" 1 Yx:=d_is_name.cal X G qkv λf fd F=>qvs F T
  have c21:Cal l.prog w K mg base "check_new_name" 2 (uk qt wv):=d_check_new_name.cal X G Qb λf fd F=>qx9 F T c20
  have c22:Cal l.prog w K mg base "exchange" 1 qw1:=d_exchange.cal X G qz2 λf fd F=>wzq F T
  have c23:CCal l.prog w K mg base "House" qq 1 (qw7 qq):=m_House___init__.ccal T.g_House mk_House kc_House Qy λf fd F=>wwh F T
  have c24:MCal l.prog w K mg base qq "road_called" 1 (zr qq q9 true):=m_House_road_called.cal yc λf fd F=>Jy F T
  have c25:MCal l.prog w K mg base qq "walker_called" 1 (zr qq qb false):=m_House_walker_called.cal j8 λf fd F=>Wx F T
  have c26:MCal l.prog w K mg base qq "do" 2 (Zk qq):=m_House_do.cal qzb λf fd F=>ok_do F T c22
  have c27:MCal l.prog w K mg base qq "lay" 4 (wqx K qq qc qt wv qh):=m_House_lay.cal qxj λf fd F=>ok_lay F T c21 c8 c26
  have c28:MCal l.prog w K mg base qq "take_back" 2 (qx0 qq qz):=m_House_take_back.cal u6 λf fd F=>wzv F T c22
  have c29:MCal l.prog w K mg base qq "bend" 4 (qjw qq qc q9 qh):=m_House_bend.cal qqj λf fd F=>wzs F T c24 c11 c8 c26
  have c30:MCal l.prog w K mg base qq "widen" 4 (qw5 qq qc q9 qh):=m_House_widen.cal Y6 λf fd F=>wqj F T c24 c11 c8 c26
  have c31:MCal l.prog w K mg base qq "place" 5 (qxh K qq qc qx qt wv q9 qw q8):=m_House_place.cal Jh λf fd F=>wqt F T c21 c24 c5 c12 c18 c26
  have c32:MCal l.prog w K mg base qq "go" 8 (spGo qq qc qx qb qd):=m_House_go.cal qz9 λf fd F=>ok_go F T c25 c6 c19 c26
  have c33:MCal l.prog w K mg base qq "walkers_on" 1 (spOn qq qx):=m_House_walkers_on.cal uc λf fd F=>Jp F T
  have c34:Cal l.prog w K mg base "less" 2 (qkw K qw):=d_less.cal X G wvd λf fd F=>wz8 F T c3
  have c35:MCal l.prog w K mg base qq "narrow" 4 (Z5 qq qc qx q9 qh wb):=m_House_narrow.cal Zb λf fd F=>qyr F T c24 c11 c8 c9 c33 c34 c26
  have c36:MCal l.prog w K mg base qq "together" 8 (qvd qq qc qx q9 qd):=m_House_together.cal Q5 λf fd F=>qzz F T c24 c6 c33 c19 c26
  have c37:MCal l.prog w K mg base qq "stood" 3 (Qn qq qx qb qw):=m_House_stood.cal Jj λf fd F=>wqv F T c25 c5
  have c38:Cal l.prog w K mg base "_law_climb" 3 (Zp K):=d__law_climb.cal X G qqz λf fd F=>wwx F T c2
  have c39:Cal l.prog w K mg base "_law_heights" 4 (Wy K):=d__law_heights.cal X G W6 λf fd F=>qjx F T c2 c38
  have c40:Cal l.prog w K mg base "_law_step" 1 (qjj K):=d__law_step.cal X G qxr λf fd F=>wx6 F T
  have c41:Cal l.prog w K mg base "_law_trace" 2 (jr K):=d__law_trace.cal X G qqq λf fd F=>quf F T c40
  have c42:Cal l.prog w K mg base "_law_after" 1 (Z0 K):=d__law_after.cal X G Jr λf fd F=>wqk F T
  have c43:Cal l.prog w K mg base "_law_common" 1 qwz:=d__law_common.cal X G Yf λf fd F=>qys F T
  have c44:Cal l.prog w K mg base "_law_low" 2 ww3:=d__law_low.cal X G qvb λf fd F=>ok_low F T c43
  have c45:Cal l.prog w K mg base "_law_spot" 3 (qxd K):=d__law_spot.cal X G qxx λf fd F=>wxr F T c2
  have c46:Cal l.prog w K mg base "_law_whole" 1 Zn:=d__law_whole.cal X G qqy λf fd F=>wq1 F T
  have c47:Cal l.prog w K mg base "_law_count" 1 Jx:=d__law_count.cal X G qqk λf fd F=>qud F T
  have c48:Cal l.prog w K mg base "_law_due" 3 qxu:=d__law_due.cal X G qz5 λf fd F=>wvz F T c41 c47
  have c49:Cal l.prog w K mg base "_law_refused" 4 (uj qq qx):=d__law_refused.cal X G Zz λf fd F=>qkb F T c37
  have c50:Cal l.prog w K mg base "_law_asked" 3 (Zs K):=d__law_asked.cal X G qqf λf fd F=>wxt F T c2 c41
  have c51:Cal l.prog w K mg base "_law_change" 9 (Q2 K qq qc qx):=d__law_change.cal X G Yd λf fd F=>qux F T c2 c35 c29 c30 c32 c28
  exact ok_law F T c39 c45 c44 c23 c27 c31 c1 c2 c36 c32 c41 c42 c51 c50 c37 c46 c48 c49
theorem walk {l:PySem.W.OpenLaw}{q:Ac}{loose:List Str}{XP:(Str→Option Ag)→Heap→Prop}{YP:Ah→Heap→Prop}{d:DefRec}{K:Params→Aa}(hn:l.most=some 63)(hdf:d.params.defaults=[])
  (hY:∀(w:Ah) (h:Heap),YP w h→(K w.params).In h)
  (F:∀(w:Ah) (mg:Str→Option Ag) (fa:Aj) (h:Heap),(K w.params).In h→h.Ns mainGlobals mg→mg d.name=some (.ref fa) →
   ∃fd:Ad,(∀(s:Ab) (u:Ag),BindsTo s fd ⟨[u],[]⟩ [("_law_script",u)])∧∀base:Heap,(K w.params).In base→base.Ns mainGlobals mg→FnOk l.prog w (K w.params) mg base (CXE l.prog w) 11 fa fd ["_law_script"] (qjd (K w.params))) :
  PySem.W.WalkO q loose XP YP l.row.toRowW d [] (λf vs=>PySem.call f vs) :=
 L2.wzj (n:=63) (k:=11) (x := "_law_script") (CX:=λw=>CXE l.prog w) (sp:=λw=>qjd (K w.params)) hn (by decide) hdf ⟨rfl,by decide,by decide⟩ hY F (λ_ _ a ns hl _ hS=>⟨a,ns,rfl,hS,hl,λ_=>rfl⟩) λ_ _ _ _ _ z=>CXE.no z
end
end My
open PySem PySem.W PyProof.Rows
local macro_rules | `(tactic| walk_at "def")=>`(tactic| (refine' L2.def_mk ?a ?l ?c ?k;(case a=>k_is);(case l=>k_is);(case c=>k_is);(case k=>k_is)))
local macro_rules | `(tactic| walk_at "defD")=>`(tactic| (refine' L2.wvb ?a ?l ?c ?k ?t;(case a=>k_is);(case l=>k_is);(case c=>k_is);(case k=>k_is);(case t=>k_is)))
local macro_rules | `(tactic| walk_at "meth")=>`(tactic| (refine' L2.wvj ?a ?i ?l ?c ?k;(case a=>k_is);(case i=>k_is);(case l=>k_is);(case c=>k_is);(case k=>k_is)))
namespace PySem.W.Fast
theorem tw15672921191653692957:True:=trivial
theorem tw10333154197393955926:True:=trivial
theorem tw12983138551707243005:True:=trivial
theorem tw2354680938672999616:True:=trivial
theorem tw18060754197393849777:True:=trivial
theorem tw11531679956950590024:True:=trivial
theorem tw15256194912566558552:True:=trivial
theorem tw2388947566907373462:True:=trivial
theorem tw15648753477646281275:True:=trivial
theorem tw3342256954007296734:True:=trivial
theorem tw11547619553940913049:True:=trivial
theorem tw7700992238940241396:True:=trivial
theorem tw17409970550503252972:True:=trivial
theorem tw9061525947909440573:True:=trivial
theorem tw14963134250808833633:True:=trivial
theorem tw3962200594676404217:True:=trivial
theorem tw535442447366451123:True:=trivial
theorem tw15099634899224829964:True:=trivial
theorem tw7191692236419044648:True:=trivial
theorem tw1625309433998828813:True:=trivial
theorem tw2263036683701618084:True:=trivial
theorem tw11479047619266352052:True:=trivial
theorem tw15931352946955492947:True:=trivial
theorem tw13582708547207106645:True:=trivial
theorem tw2842557084193220130:True:=trivial
theorem tw15239500666314700636:True:=trivial
theorem tw2391612673351890458:True:=trivial
theorem tw8176174210563654271:True:=trivial
theorem tw9645346372511526185:True:=trivial
theorem tw12853716948200843585:True:=trivial
theorem tw12578199589513562937:True:=trivial
theorem tw8057436585286041999:True:=trivial
theorem tw15730334609532836820:True:=trivial
theorem tw2780216794586741243:True:=trivial
theorem tw6285389941314187302:True:=trivial
theorem tw2704462045332656803:True:=trivial
theorem tw5352707131278822292:True:=trivial
theorem tw6108349488324180584:True:=trivial
theorem tw12929802033314392514:True:=trivial
theorem tw12080279797039096381:True:=trivial
theorem tw4004361630191497148:True:=trivial
theorem tw7659389809535675495:True:=trivial
theorem tw11620732955673727260:True:=trivial
theorem tw1012707421321834216:True:=trivial
theorem tw5325886549989795067:True:=trivial
theorem tw5072298787658904804:True:=trivial
theorem tw9171388830798614990:True:=trivial
theorem tw5198764272505007193:True:=trivial
theorem tw11778965991208252123:True:=trivial
theorem tw5499292258774691195:True:=trivial
theorem tw1011172848356425976:True:=trivial
theorem tw608165678653295587:True:=trivial
theorem tw16904558397249522088:True:=trivial
theorem tw14256162096307224631:True:=trivial
theorem tw12910186434575757350:True:=trivial
theorem tw10113322716693203913:True:=trivial
theorem tw2025071403508309180:True:=trivial
theorem tw13364011441632426177:True:=trivial
theorem tw13613909816865553207:True:=trivial
theorem tw9919060781267499135:True:=trivial
theorem tw8552988673761087336:True:=trivial
theorem tw18127627326175649646:True:=trivial
theorem tw1634448364370836041:True:=trivial
theorem tw8731416239286653444:True:=trivial
theorem tw16117515417515489156:True:=trivial
theorem tw1444425960433782583:True:=trivial
theorem tw9358169359309732137:True:=trivial
theorem tw15931844102175183255:True:=trivial
theorem tw1846211405327620690:True:=trivial
theorem tw2138362076597584619:True:=trivial
theorem tw17512193402328865299:True:=trivial
theorem tw5609886455496420000:True:=trivial
theorem tw16678006911105095052:True:=trivial
theorem tw1257601494181236857:True:=trivial
theorem tw16340862569119791762:True:=trivial
theorem tw2518457305397104443:True:=trivial
theorem tw2964575723467497470:True:=trivial
theorem tw8752180031340214815:True:=trivial
theorem tw3255627901236972612:True:=trivial
theorem tw6194146017646576239:True:=trivial
theorem tw1844634303525875218:True:=trivial
theorem tw16952836419212753356:True:=trivial
theorem tw11052040118525359337:True:=trivial
theorem tw16059351783944040145:True:=trivial
theorem tw9949492806162025906:True:=trivial
theorem tw18065807441755109801:True:=trivial
theorem tw2273104256861527029:True:=trivial
theorem tw10135814955792617795:True:=trivial
theorem tw1594841371192398773:True:=trivial
theorem tw12302860975867816401:True:=trivial
theorem tw13100483716963248724:True:=trivial
theorem tw15437453730599215946:True:=trivial
theorem tw16733963770266655868:True:=trivial
theorem tw3432141416238617106:True:=trivial
theorem tw10484498644099801053:True:=trivial
theorem tw16834895270077898777:True:=trivial
theorem tw12965566936981532186:True:=trivial
theorem tw3116242077867346091:True:=trivial
theorem tw6117543919588304280:True:=trivial
theorem tw10903338432888510077:True:=trivial
theorem tw16482411480519604671:True:=trivial
theorem tw7980578172314890239:True:=trivial
theorem tw2681937141190940758:True:=trivial
theorem tw1021673036846791312:True:=trivial
theorem tw12937627373193622419:True:=trivial
theorem tw14376241616178145407:True:=trivial
theorem tw6154705826050831618:True:=trivial
theorem tw12255546505371046765:True:=trivial
theorem tw3728623445109415403:True:=trivial
theorem tw12985360364071590814:True:=trivial
theorem tw11682851080740033384:True:=trivial
theorem tw11379299801154090641:True:=trivial
theorem tw7973563440450769013:True:=trivial
theorem tw8142302384779641688:True:=trivial
theorem tw7148256227335594111:True:=trivial
theorem tw7211159080345573388:True:=trivial
theorem tw12540916053659973269:True:=trivial
theorem tw1118245430352756111:True:=trivial
theorem tw302376377230146370:True:=trivial
theorem tw18258213466510079325:True:=trivial
theorem tw17878664467970785654:True:=trivial
theorem tw8547764006999605777:True:=trivial
theorem tw7087756975300841719:True:=trivial
theorem tw7934318124158919789:True:=trivial
theorem tw16698713676711271112:True:=trivial
theorem tw5181245372804846824:True:=trivial
theorem tw5800321368963131752:True:=trivial
theorem tw5847304498175729182:True:=trivial
theorem tw17691865515758409439:True:=trivial
theorem tw1980760557930126696:True:=trivial
theorem tw4881998314358987754:True:=trivial
theorem tw7813248377786551190:True:=trivial
theorem tw16120873304230393800:True:=trivial
theorem tw15771429008949340776:True:=trivial
theorem tw9338676672298123033:True:=trivial
theorem tw9023420487079081425:True:=trivial
theorem tw9295926638166507930:True:=trivial
theorem tw6095050638260651830:True:=trivial
theorem tw569977826554886177:True:=trivial
theorem tw753956190429995303:True:=trivial
theorem tw12753512283188721117:True:=trivial
theorem tw14588072857299395160:True:=trivial
theorem tw1091661330612520290:True:=trivial
theorem tw4427288594421767981:True:=trivial
theorem tw318700554388132771:True:=trivial
theorem tw16573475459519045470:True:=trivial
theorem tw13297859040753985976:True:=trivial
theorem tw8053976381586537229:True:=trivial
theorem tw11376510700193328851:True:=trivial
theorem tw4640872565651280599:True:=trivial
theorem tw13181155960722715144:True:=trivial
theorem tw10990656574822944661:True:=trivial
theorem tw2184539213797583894:True:=trivial
theorem tw16395111758070688465:True:=trivial
theorem tw17035447680923719658:True:=trivial
theorem tw12879339987724246406:True:=trivial
theorem tw13878628441106299536:True:=trivial
theorem tw351667161542865125:True:=trivial
theorem tw16063009041921328143:True:=trivial
theorem tw6028571549887008655:True:=trivial
theorem tw4958840310748122310:True:=trivial
theorem tw12227530339373605178:True:=trivial
theorem tw2281028558348640547:True:=trivial
theorem tw8610752036471528116:True:=trivial
theorem tw10755922244726768215:True:=trivial
theorem tw468021419287589873:True:=trivial
theorem tw5464840135264881731:True:=trivial
theorem tw8889598648349580735:True:=trivial
theorem tw9658747604309800289:True:=trivial
theorem tw7928015377056438836:True:=trivial
theorem tw9880320964233364582:True:=trivial
theorem tw1131830016275808404:True:=trivial
theorem tw12006850833212439783:True:=trivial
theorem tw3475946863024367263:True:=trivial
theorem tw5911787302972229096:True:=trivial
theorem tw5316333709201604110:True:=trivial
theorem tw8016330022587501535:True:=trivial
theorem tw4135678595270275823:True:=trivial
theorem tw8724644999571265344:True:=trivial
theorem tw2746111277449807477:True:=trivial
theorem tw14093564599628837757:True:=trivial
theorem tw16194905537334664361:True:=trivial
theorem tw7472098953210218582:True:=trivial
theorem tw5218958744847861968:True:=trivial
theorem tw9087303790769187878:True:=trivial
theorem tw17282309960682524192:True:=trivial
theorem tw15081800438514882020:True:=trivial
theorem tw4035560820229379061:True:=trivial
theorem tw326975045809122465:True:=trivial
theorem tw16318865865162606935:True:=trivial
theorem tw1271797693709848673:True:=trivial
theorem tw15555095899224734513:True:=trivial
theorem tw6532608402267111160:True:=trivial
theorem tw14339158731717667832:True:=trivial
theorem tw13450828187208689003:True:=trivial
theorem tw16093915849672538695:True:=trivial
theorem tw17501871103217350785:True:=trivial
theorem tw9416185068269678574:True:=trivial
theorem tw18163325925537759840:True:=trivial
theorem tw14616584204537594481:True:=trivial
theorem tw9332951285637425084:True:=trivial
theorem tw7251211608091485234:True:=trivial
theorem tw9382056389076930636:True:=trivial
theorem tw11490412223588307716:True:=trivial
theorem tw1558960701071471668:True:=trivial
theorem tw18194476089075303297:True:=trivial
theorem tw5662687215265086301:True:=trivial
theorem tw4229682498672534809:True:=trivial
theorem tw15164979232936784312:True:=trivial
theorem tw97721556974829613:True:=trivial
theorem tw13723261455231543350:True:=trivial
theorem tw551321217879353254:True:=trivial
theorem tw478317992076328136:True:=trivial
theorem tw13015913978544145672:True:=trivial
theorem tw4280249120867213469:True:=trivial
theorem tw8592699880094024536:True:=trivial
theorem tw94695007053185485:True:=trivial
theorem tw14566075346611790604:True:=trivial
theorem tw9829233716480163305:True:=trivial
theorem tw1256233209482505864:True:=trivial
theorem tw3082807965133745304:True:=trivial
theorem tw12575357863963742854:True:=trivial
theorem tw17837148259919261243:True:=trivial
theorem tw42964590908559900:True:=trivial
theorem tw2508598684953742460:True:=trivial
theorem tw12315416489997072019:True:=trivial
theorem tw2440092331623794179:True:=trivial
theorem tw15057664713316226068:True:=trivial
theorem tw449076953815115802:True:=trivial
theorem tw10629103153314432250:True:=trivial
theorem tw2878550170036793832:True:=trivial
theorem tw17980892000676553847:True:=trivial
theorem tw3392302443585125551:True:=trivial
theorem tw12906994995551010337:True:=trivial
theorem tw2183584249800853968:True:=trivial
theorem tw3985348255791718272:True:=trivial
theorem tw9030509523039631260:True:=trivial
theorem tw3864717837467969342:True:=trivial
theorem tw13032798563670557781:True:=trivial
theorem tw3176796908158172038:True:=trivial
theorem tw14054452298015087742:True:=trivial
theorem tw8941855079079493756:True:=trivial
theorem tw7913975963056004884:True:=trivial
theorem tw2355419862102177747:True:=trivial
theorem tw12621703966662481694:True:=trivial
theorem tw13184245143550436862:True:=trivial
theorem tw17650097038105093294:True:=trivial
theorem tw15605672603333626891:True:=trivial
theorem tw9906347724212896112:True:=trivial
theorem tw2740443577801040502:True:=trivial
theorem tw1794175335828705017:True:=trivial
theorem tw5692102558082554955:True:=trivial
theorem tw269314527721484755:True:=trivial
theorem tw3757762412564164373:True:=trivial
theorem tw3777669831091114344:True:=trivial
theorem tw8976413993408858254:True:=trivial
theorem tw7336527885679555112:True:=trivial
theorem tw5929377210602190142:True:=trivial
theorem tw4673615095623456005:True:=trivial
theorem tw3097252785068230367:True:=trivial
theorem tw587303896544832920:True:=trivial
theorem tw9921294995183766864:True:=trivial
theorem tw4819753449159155889:True:=trivial
theorem tw1334341439074424491:True:=trivial
theorem tw12821259896010752063:True:=trivial
theorem tw16791181096584966798:True:=trivial
theorem tw3829648313396979281:True:=trivial
theorem tw14421422915825779866:True:=trivial
theorem tw14371065520455244107:True:=trivial
theorem tw8995676983088274038:True:=trivial
theorem tw12771324926731920499:True:=trivial
theorem tw3072822051085446685:True:=trivial
theorem tw13544536664005758914:True:=trivial
theorem tw2195568752309500964:True:=trivial
theorem tw10067541091070633073:True:=trivial
theorem tw4137870289938862578:True:=trivial
theorem tw15804037027334646857:True:=trivial
theorem tw5028030274362187825:True:=trivial
theorem tw6507702032003403482:True:=trivial
theorem tw16319524214000353609:True:=trivial
theorem tw16926940344467754461:True:=trivial
theorem tw9869191258039470761:True:=trivial
theorem tw7508293353686322912:True:=trivial
theorem tw555896192167752813:True:=trivial
theorem tw10536787620903808546:True:=trivial
theorem tw4255959957524807545:True:=trivial
theorem tw3522927234464594634:True:=trivial
theorem tw6725549805406664519:True:=trivial
theorem tw3868139135609995156:True:=trivial
theorem tw560778317227147808:True:=trivial
theorem tw2400210541945390204:True:=trivial
theorem tw16975544138500810593:True:=trivial
theorem tw13346975131922431462:True:=trivial
theorem tw1349284814258798147:True:=trivial
theorem tw3520501327913896144:True:=trivial
theorem tw6913543995815941875:True:=trivial
theorem tw7411700521901533206:True:=trivial
theorem tw9272205587185114958:True:=trivial
theorem tw1275916910670060825:True:=trivial
theorem tw14984200221161063324:True:=trivial
theorem tw6418542135173487863:True:=trivial
theorem tw1271401378306307069:True:=trivial
theorem tw7165766992694019005:True:=trivial
theorem tw12572510304026748025:True:=trivial
theorem tw4826838632973219853:True:=trivial
theorem tw6065446837283561955:True:=trivial
theorem tw15984028748033049057:True:=trivial
theorem tw6563178468040674029:True:=trivial
theorem tw15655622889299020877:True:=trivial
theorem tw12060412208211504267:True:=trivial
theorem tw3064713572934073271:True:=trivial
theorem tw18229179531776447459:True:=trivial
theorem tw921840307045642781:True:=trivial
theorem tw6706261710384336582:True:=trivial
theorem tw7847499278057958696:True:=trivial
theorem tw16219720830604798472:True:=trivial
theorem tw1030760243903869503:True:=trivial
theorem tw13550909064215726706:True:=trivial
theorem tw10086036028178323588:True:=trivial
theorem tw4078194307831610984:True:=trivial
theorem tw667108880712842369:True:=trivial
theorem tw11343998002839775825:True:=trivial
theorem tw4061685986442694455:True:=trivial
theorem tw17063197944489459517:True:=trivial
theorem tw9020895084338204152:True:=trivial
theorem tw6133510270084715363:True:=trivial
theorem tw1211597078685160230:True:=trivial
theorem tw5471731298198882681:True:=trivial
theorem tw827442594254795097:True:=trivial
theorem tw7041806007633170524:True:=trivial
theorem tw10473061960775335483:True:=trivial
theorem tw11240444786672419355:True:=trivial
theorem tw14244990739867497699:True:=trivial
theorem tw4575416919854366564:True:=trivial
theorem tw17391766849329712870:True:=trivial
theorem tw6556358846731627668:True:=trivial
theorem tw10028198327884215491:True:=trivial
theorem tw4672021678629469682:True:=trivial
theorem tw11139206845649116544:True:=trivial
theorem tw6988861675473126561:True:=trivial
theorem tw6322204461098717672:True:=trivial
theorem tw9293577779562038834:True:=trivial
theorem tw13405468798514731706:True:=trivial
theorem tw945042554966471839:True:=trivial
theorem tw8885356808912069687:True:=trivial
theorem tw963377048812453970:True:=trivial
theorem tw18393983780040022211:True:=trivial
theorem tw5695212386736662962:True:=trivial
theorem tw6730911574821266376:True:=trivial
theorem tw11631761798246015499:True:=trivial
theorem tw17810609796719108758:True:=trivial
theorem tw13376648671785331626:True:=trivial
theorem tw18309161528256678128:True:=trivial
theorem tw13110942491074445903:True:=trivial
theorem tw4864111578339471450:True:=trivial
theorem tw15030699941172959345:True:=trivial
theorem tw3450240902404900418:True:=trivial
theorem tw2897479534165662397:True:=trivial
theorem tw8592686410876777798:True:=trivial
theorem tw15362480895898784951:True:=trivial
theorem tw2736775793476134928:True:=trivial
theorem tw16046077780167980122:True:=trivial
theorem tw4968077927264151007:True:=trivial
theorem tw3686441557761660918:True:=trivial
theorem tw924125761715229498:True:=trivial
theorem tw6936437290422922815:True:=trivial
theorem tw3823445585023693754:True:=trivial
theorem tw5199742151707404864:True:=trivial
theorem tw11950330939284944309:True:=trivial
theorem tw14666840959816272990:True:=trivial
theorem tw16277871478358013500:True:=trivial
theorem tw12984540139055231536:True:=trivial
theorem tw7799845129268751019:True:=trivial
theorem tw17961515226081694733:True:=trivial
theorem tw301284992189807286:True:=trivial
theorem tw13822793352537166197:True:=trivial
theorem tw3927908761501117717:True:=trivial
theorem tw13825027221557712294:True:=trivial
theorem tw11536058855926929650:True:=trivial
theorem tw10394023535285601981:True:=trivial
theorem tw11742310861235013540:True:=trivial
theorem tw10730126851100443310:True:=trivial
theorem tw2129091921915146256:True:=trivial
theorem tw14089017075209656075:True:=trivial
theorem tw12800400104653383775:True:=trivial
theorem tw2894644290480259077:True:=trivial
theorem tw13943799468795311934:True:=trivial
theorem tw6128171309360590382:True:=trivial
theorem tw13633446028216330806:True:=trivial
theorem tw3857498135732035149:True:=trivial
theorem tw15214449110546719105:True:=trivial
theorem tw2286038975459584328:True:=trivial
theorem tw2714958792208070976:True:=trivial
theorem tw8575177059586005860:True:=trivial
theorem tw9353025118404724496:True:=trivial
theorem tw11414987975553594569:True:=trivial
theorem tw4025106635841175015:True:=trivial
theorem tw8223961309864686069:True:=trivial
theorem tw17122881371799250789:True:=trivial
theorem tw2816747796568954999:True:=trivial
theorem tw7400035446414077702:True:=trivial
theorem tw2736962082541984130:True:=trivial
theorem tw2117332036359451859:True:=trivial
theorem tw13228127648242095136:True:=trivial
theorem tw14803807485762767687:True:=trivial
theorem tw1202027246075404464:True:=trivial
theorem tw7076860260747641430:True:=trivial
theorem tw14195068924399533337:True:=trivial
theorem tw11886808231417897219:True:=trivial
theorem tw41616840975609064:True:=trivial
theorem tw1728902827784817714:True:=trivial
theorem tw17146464686205843040:True:=trivial
theorem tw6844289774757661527:True:=trivial
theorem tw7489447125111822487:True:=trivial
theorem tw14476524201426140677:True:=trivial
theorem tw5176594537693785391:True:=trivial
theorem tw11317083652402459702:True:=trivial
theorem tw13012845081405374031:True:=trivial
theorem tw11765998979308710006:True:=trivial
theorem tw6139203563075656089:True:=trivial
theorem tw7798045014632979129:True:=trivial
theorem tw18016831262033895584:True:=trivial
theorem tw16801595904108800822:True:=trivial
theorem tw4498851212347896431:True:=trivial
theorem tw9416298658847636333:True:=trivial
theorem tw8365927245341702889:True:=trivial
theorem tw9452665740880989852:True:=trivial
theorem tw387625222097689541:True:=trivial
theorem tw9610579119385585337:True:=trivial
theorem tw1244114598677396987:True:=trivial
theorem tw14765545315911658111:True:=trivial
theorem tw2688228010535852526:True:=trivial
theorem tw7942653411023139416:True:=trivial
theorem tw3162203476507851267:True:=trivial
theorem tw5530683476405552818:True:=trivial
theorem tw3608853433519268686:True:=trivial
theorem tw3314120436213703743:True:=trivial
theorem tw13125669578744401896:True:=trivial
theorem tw8713453470008180056:True:=trivial
theorem tw13877587782891072944:True:=trivial
theorem tw9454063516026407393:True:=trivial
theorem tw11476536284350369841:True:=trivial
theorem tw9050547567180809964:True:=trivial
theorem tw88554117616254376:True:=trivial
theorem tw10785928934117189715:True:=trivial
theorem tw6897822495211515773:True:=trivial
theorem tw14102374922795347311:True:=trivial
theorem tw3873361090169847395:True:=trivial
theorem tw14856276252953181103:True:=trivial
theorem tw15071701015080893944:True:=trivial
theorem tw2579785089746614782:True:=trivial
theorem tw3263073161332570445:True:=trivial
theorem tw9748606669849338820:True:=trivial
theorem tw15868282558124940232:True:=trivial
theorem tw8016451497769131511:True:=trivial
theorem tw8084587285712347644:True:=trivial
theorem tw7311802917825126397:True:=trivial
theorem tw7057921462718963918:True:=trivial
theorem tw15227279112844141575:True:=trivial
theorem tw9366960475056485710:True:=trivial
theorem tw13344439821987547272:True:=trivial
theorem tw15939472380103806588:True:=trivial
theorem tw11464843391987349667:True:=trivial
theorem tw7189846595088504715:True:=trivial
theorem tw167185186474642458:True:=trivial
theorem tw8565744951413235095:True:=trivial
theorem tw11930638082369223450:True:=trivial
theorem tw17555816806638200477:True:=trivial
theorem tw5294172482261972004:True:=trivial
theorem tw1563450205070000337:True:=trivial
theorem tw10427367546820153459:True:=trivial
theorem tw10955812511779375839:True:=trivial
theorem tw17646621356956634903:True:=trivial
theorem tw15248937069586380852:True:=trivial
theorem tw14766722538495648694:True:=trivial
theorem tw6703294901109682690:True:=trivial
theorem tw17957017066009021728:True:=trivial
theorem tw14107701336738529647:True:=trivial
theorem tw6266549625162027335:True:=trivial
theorem tw16630509880164637640:True:=trivial
theorem tw13275996231491407616:True:=trivial
theorem tw9761963104643335926:True:=trivial
theorem tw9341611356197153649:True:=trivial
theorem tw4003323465694991023:True:=trivial
theorem tw4545613701584978669:True:=trivial
theorem tw15290052632948125071:True:=trivial
theorem tw10197176673342605289:True:=trivial
theorem tw3687309949857519401:True:=trivial
theorem tw17503419573613793133:True:=trivial
theorem tw15174144889990157836:True:=trivial
theorem tw4026153999673909101:True:=trivial
theorem tw4835611567924268872:True:=trivial
theorem tw9108883910874964986:True:=trivial
theorem tw15735133058288987292:True:=trivial
theorem tw10562808113450546037:True:=trivial
theorem tw8773725414677141443:True:=trivial
theorem tw12212861693747594669:True:=trivial
theorem tw17523562168751055762:True:=trivial
theorem tw3536773872408475485:True:=trivial
theorem tw4412858950726112219:True:=trivial
theorem tw8717658450109527746:True:=trivial
theorem tw13720611915405737702:True:=trivial
theorem tw13209706831963813142:True:=trivial
theorem tw2050006311404793721:True:=trivial
theorem tw7528244088282110077:True:=trivial
theorem tw12589929749071945812:True:=trivial
theorem tw10928775019439820656:True:=trivial
theorem tw16251554883109608349:True:=trivial
theorem tw17858629015232058944:True:=trivial
theorem tw4859842133284631525:True:=trivial
theorem tw18061701246071327926:True:=trivial
theorem tw8088626277400020832:True:=trivial
theorem tw11656992651901004380:True:=trivial
theorem tw7371818288464604465:True:=trivial
theorem tw179600636177604897:True:=trivial
theorem tw8471564107749724015:True:=trivial
theorem tw4601136089110715848:True:=trivial
theorem tw255228122089608938:True:=trivial
theorem tw11202194138275175942:True:=trivial
theorem tw12002809324612870384:True:=trivial
theorem tw8015061742150632419:True:=trivial
theorem tw15241749268395389328:True:=trivial
theorem tw17407718970097176166:True:=trivial
theorem tw17060439084025349549:True:=trivial
theorem tw5242317049966806938:True:=trivial
theorem tw11463909877808734869:True:=trivial
theorem tw16810202413047063483:True:=trivial
theorem tw1396092664950976855:True:=trivial
theorem tw9379658414497288836:True:=trivial
theorem tw16963745416990948898:True:=trivial
theorem tw4574177453651960385:True:=trivial
theorem tw13265302806751565619:True:=trivial
theorem tw17762734357343102474:True:=trivial
theorem tw555683082737492249:True:=trivial
theorem tw4052840024800746787:True:=trivial
theorem tw5472976804833841898:True:=trivial
theorem tw5787352889785082511:True:=trivial
theorem tw18383526866253848816:True:=trivial
theorem tw2880421025875280479:True:=trivial
theorem tw2007443321993896748:True:=trivial
theorem tw11805487301930870024:True:=trivial
theorem tw10891936281136143348:True:=trivial
theorem tw7564310741303841437:True:=trivial
theorem tw11095586294126058342:True:=trivial
theorem tw13742850723215038949:True:=trivial
theorem tw5108629157559859781:True:=trivial
theorem tw7440233193575867741:True:=trivial
theorem tw4638980782496957386:True:=trivial
theorem tw3850863704890436832:True:=trivial
theorem tw12262694363968621486:True:=trivial
theorem tw15377069343444980213:True:=trivial
theorem tw17781167429118934335:True:=trivial
theorem tw1693436622063356284:True:=trivial
theorem tw12581970458906133518:True:=trivial
theorem tw12528235880134529579:True:=trivial
theorem tw16699849407877559912:True:=trivial
theorem tw8780233560673380604:True:=trivial
theorem tw13175725153207844170:True:=trivial
theorem tw10158465103019275386:True:=trivial
theorem tw7688861672706251465:True:=trivial
theorem tw9526946022697174467:True:=trivial
theorem tw10568877797066983645:True:=trivial
theorem tw2518286617083850878:True:=trivial
theorem tw1512611985845165988:True:=trivial
theorem tw14274267864174435045:True:=trivial
theorem tw9508540384870158069:True:=trivial
theorem tw5932789248261402108:True:=trivial
theorem tw11719836024727015848:True:=trivial
theorem tw7473213061191292160:True:=trivial
theorem tw4627771559593486943:True:=trivial
theorem tw6748570001257531137:True:=trivial
theorem tw11942264084729562905:True:=trivial
theorem tw10245103411463499239:True:=trivial
theorem tw12520800118035327248:True:=trivial
theorem tw9019274582630477417:True:=trivial
theorem tw16104209985398551694:True:=trivial
theorem tw7159343459017765112:True:=trivial
theorem tw16855879583698414687:True:=trivial
theorem tw3398503051927681595:True:=trivial
theorem tw15029528797750999533:True:=trivial
theorem tw5536705214076964733:True:=trivial
theorem tw16228629453809388882:True:=trivial
theorem tw2801862805830471117:True:=trivial
theorem tw5688028881934773977:True:=trivial
theorem tw8179915581703396198:True:=trivial
theorem tw6223445807000855399:True:=trivial
theorem tw12230869280176165793:True:=trivial
theorem tw9331746546086854962:True:=trivial
theorem tw5605323278053672586:True:=trivial
theorem tw16303008066326851326:True:=trivial
theorem tw1045876905395939942:True:=trivial
theorem tw18267501949402007187:True:=trivial
theorem tw7248018011702777060:True:=trivial
theorem tw10583860099179905087:True:=trivial
theorem tw9072438312313477265:True:=trivial
theorem tw2346272849484829213:True:=trivial
theorem tw16580217135727778646:True:=trivial
theorem tw176498372053408684:True:=trivial
theorem tw17926091648761833748:True:=trivial
theorem tw7377569546631535451:True:=trivial
theorem tw13637941474894966190:True:=trivial
theorem tw8084372487200203216:True:=trivial
theorem tw16272032124862127823:True:=trivial
theorem tw484721582220243547:True:=trivial
theorem tw9482326643740068468:True:=trivial
theorem tw8658809418901289777:True:=trivial
theorem tw14564312072765232779:True:=trivial
theorem tw1791311842663752403:True:=trivial
theorem tw6136974702206322039:True:=trivial
theorem tw6905241811294222394:True:=trivial
theorem tw7176900225142291035:True:=trivial
theorem tw13883196585012829650:True:=trivial
theorem tw15627017038743350821:True:=trivial
theorem tw15752305639115195427:True:=trivial
theorem tw11044301083531961381:True:=trivial
theorem tw14865583993357839462:True:=trivial
theorem tw10910118919581828558:True:=trivial
theorem tw45887987349256120:True:=trivial
theorem tw500239802120275114:True:=trivial
theorem tw12916915247647068141:True:=trivial
theorem tw6870570811301720043:True:=trivial
theorem tw6483351941706282302:True:=trivial
theorem tw5299866458247549258:True:=trivial
theorem tw16441000853837201443:True:=trivial
theorem tw445652320075010326:True:=trivial
theorem tw10054765641000685193:True:=trivial
theorem tw11536771386227607054:True:=trivial
theorem tw4418000732858767491:True:=trivial
theorem tw14178237568321360701:True:=trivial
theorem tw4589153161929156218:True:=trivial
theorem tw16464682309652439149:True:=trivial
theorem tw4324661574357948926:True:=trivial
theorem tw5793126413724872007:True:=trivial
theorem tw3332567197036734454:True:=trivial
theorem tw11351922542806057823:True:=trivial
theorem tw9069809246229929144:True:=trivial
theorem tw14763715869864264221:True:=trivial
theorem tw2069907394470244322:True:=trivial
theorem tw4874378026983325530:True:=trivial
theorem tw10419762030935536012:True:=trivial
theorem tw2509127052538770741:True:=trivial
theorem tw12367823099137890064:True:=trivial
theorem tw13914755542084030464:True:=trivial
theorem tw7150665202359042475:True:=trivial
theorem tw3481670041672558903:True:=trivial
theorem tw2326386846591854129:True:=trivial
theorem tw2050569935115837542:True:=trivial
theorem tw12438117633820544034:True:=trivial
theorem tw17420419207752576103:True:=trivial
theorem tw18336111018560612330:True:=trivial
theorem tw12687862818378788713:True:=trivial
theorem tw7948003114378579458:True:=trivial
theorem tw613871743853788357:True:=trivial
theorem tw8380197921915202907:True:=trivial
theorem tw5304693537977055113:True:=trivial
theorem tw11957461046694689061:True:=trivial
theorem tw3435099570345923725:True:=trivial
theorem tw142953070549490329:True:=trivial
theorem tw13530886556593847402:True:=trivial
theorem tw1080657416402701131:True:=trivial
theorem tw1595432388501740803:True:=trivial
theorem tw635305340893361782:True:=trivial
theorem tw14680001720726444707:True:=trivial
theorem tw4809694272015900043:True:=trivial
theorem tw12565392314507578843:True:=trivial
theorem tw17776384120542134884:True:=trivial
theorem tw14761976995259850672:True:=trivial
theorem tw18302594861738689947:True:=trivial
theorem tw5157437426075907364:True:=trivial
theorem tw5727081680357476918:True:=trivial
theorem tw6584389156989186679:True:=trivial
theorem tw4548275297101484997:True:=trivial
theorem tw2974142746881963566:True:=trivial
theorem tw14777927899534111758:True:=trivial
theorem tw14794014951280698586:True:=trivial
theorem tw3291346926155045493:True:=trivial
theorem tw11886086464302985677:True:=trivial
theorem tw7110953939705145959:True:=trivial
theorem tw9946892474118834060:True:=trivial
theorem tw14433523253714784687:True:=trivial
theorem tw6853609337335963699:True:=trivial
theorem tw7814828749998478343:True:=trivial
theorem tw2315709856626248745:True:=trivial
theorem tw9787930984265648557:True:=trivial
theorem tw7504977044158306500:True:=trivial
theorem tw2587134729806818209:True:=trivial
theorem tw11079746362312467511:True:=trivial
theorem tw10959436193667963796:True:=trivial
theorem tw18141858196503927366:True:=trivial
theorem tw7046222525867786362:True:=trivial
theorem tw5991033777811643406:True:=trivial
theorem tw8240307354421174679:True:=trivial
theorem tw15458823886252648780:True:=trivial
theorem tw16512640979464437616:True:=trivial
theorem tw2569494489242749430:True:=trivial
theorem tw17671008187335135745:True:=trivial
theorem tw15365321398601008386:True:=trivial
theorem tw2652111653867905084:True:=trivial
theorem tw15462885700639091257:True:=trivial
theorem tw1209170236164721893:True:=trivial
theorem tw13351565046572195523:True:=trivial
theorem tw15142114093243199888:True:=trivial
theorem tw15325315638928949401:True:=trivial
theorem tw16378221457215023722:True:=trivial
theorem tw5235863431547907361:True:=trivial
theorem tw3950219499590919590:True:=trivial
theorem tw14414311995427775875:True:=trivial
theorem tw15070061085455418305:True:=trivial
theorem tw17008835696476596519:True:=trivial
theorem tw17291943122473023391:True:=trivial
theorem tw16414031122932224757:True:=trivial
theorem tw13701911602339755791:True:=trivial
end PySem.W.Fast
set_option maxRecDepth 100000 in
set_option maxHeartbeats 0 in
theorem PySem.Challenge.cw_crookroad_k51_whole_how_often_stood_holds : PySem.Challenge.rw_crookroad_k51_whole_how_often_stood.Holds := by
 w_on;o_law;k_head;(case hw=>w_witness2)
 k_fill
 refine My.walk (l:=PySem.Challenge.rw_crookroad_k51_whole_how_often_stood) rfl rfl (fun w h Y=>PySem.W.kIn_of Y) ?F
 case F =>
  intro w mg fa h KX G hmg
  refine' My.all_mk KX G hmg ?d__law_cell ?d__law_pick ?d_check_bottom ?d_common_divisor ?d_lowest ?d_check_count ?d_is_line ?d_trace ?d_spot ?d_led_to ?d_set_down ?d_is_name ?d_check_new_name ?d_exchange ?d_less ?d__law_climb ?d__law_heights ?d__law_step ?d__law_trace ?d__law_after ?d__law_common ?d__law_low ?d__law_spot ?d__law_whole ?d__law_count ?d__law_due ?d__law_refused ?d__law_asked ?d__law_change ?d_law ?a_RoadError ?x_RoadError ?a_BadLine ?x_BadLine ?a_BadBottom ?x_BadBottom ?a_OffRoad ?x_OffRoad ?a_BadCount ?x_BadCount ?a_TooLong ?x_TooLong ?a_BadRow ?x_BadRow ?a_BadName ?x_BadName ?a_Taken ?x_Taken ?a_NoRoad ?x_NoRoad ?a_NoWalker ?x_NoWalker ?a_Stood ?x_Stood ?a_NothingDone ?x_NothingDone ?a_Road ?pg_Road ?hd_Road ?po_Road ?sa_Road ?mk_Road ?kc_Road ?m_Road___init__ ?m_Road_width ?m_Road_ends ?m_Road_corners ?m_Road_on_road ?m_Road_at ?a_Walker ?pg_Walker ?hd_Walker ?po_Walker ?sa_Walker ?mk_Walker ?kc_Walker ?m_Walker___init__ ?m_Walker_gone ?a_House ?pg_House ?hd_House ?po_House ?sa_House ?mk_House ?kc_House ?m_House___init__ ?m_House_road_called ?m_House_walker_called ?m_House_do ?m_House_lay ?m_House_take_back ?m_House_bend ?m_House_widen ?m_House_place ?m_House_go ?m_House_walkers_on ?m_House_narrow ?m_House_together ?m_House_stood ?na_Road_heights ?na_Walker_whose ?na_Walker_point ?na_Walker_times ?na_House_roads ?na_House_walkers ?na_House_done ?g_WIDEST ?g_LONGEST_TRACE ?g_FARTHEST ?g_LONGEST_NAME ?g_GREATEST_BOTTOM ?g_LETTERS ?ms ?z_len ?z_abs ?z_range ?z_list ?z_min ?z_max ?z_all ?z_any ?z_sorted ?z_enumerate ?z_dict ?z_isinstance ?z_int ?z_bool
  (case d__law_cell=>walk_at "def")
  (case d__law_pick=>walk_at "def")
  (case d_check_bottom=>walk_at "def")
  (case d_common_divisor=>walk_at "def")
  (case d_lowest=>walk_at "def")
  (case d_check_count=>walk_at "defD")
  (case d_is_line=>walk_at "def")
  (case d_trace=>walk_at "def")
  (case d_spot=>walk_at "def")
  (case d_led_to=>walk_at "def")
  (case d_set_down=>walk_at "def")
  (case d_is_name=>walk_at "def")
  (case d_check_new_name=>walk_at "def")
  (case d_exchange=>walk_at "def")
  (case d_less=>walk_at "def")
  (case d__law_climb=>walk_at "def")
  (case d__law_heights=>walk_at "def")
  (case d__law_step=>walk_at "def")
  (case d__law_trace=>walk_at "def")
  (case d__law_after=>walk_at "def")
  (case d__law_common=>walk_at "def")
  (case d__law_low=>walk_at "def")
  (case d__law_spot=>walk_at "def")
  (case d__law_whole=>walk_at "def")
  (case d__law_count=>walk_at "def")
  (case d__law_due=>walk_at "def")
  (case d__law_refused=>walk_at "def")
  (case d__law_asked=>walk_at "def")
  (case d__law_change=>walk_at "def")
  (case d_law=>walk_at "def")
  (case a_RoadError=>k_is)
  (case x_RoadError=>k_exc)
  (case a_BadLine=>k_is)
  (case x_BadLine=>k_exc)
  (case a_BadBottom=>k_is)
  (case x_BadBottom=>k_exc)
  (case a_OffRoad=>k_is)
  (case x_OffRoad=>k_exc)
  (case a_BadCount=>k_is)
  (case x_BadCount=>k_exc)
  (case a_TooLong=>k_is)
  (case x_TooLong=>k_exc)
  (case a_BadRow=>k_is)
  (case x_BadRow=>k_exc)
  (case a_BadName=>k_is)
  (case x_BadName=>k_exc)
  (case a_Taken=>k_is)
  (case x_Taken=>k_exc)
  (case a_NoRoad=>k_is)
  (case x_NoRoad=>k_exc)
  (case a_NoWalker=>k_is)
  (case x_NoWalker=>k_exc)
  (case a_Stood=>k_is)
  (case x_Stood=>k_exc)
  (case a_NothingDone=>k_is)
  (case x_NothingDone=>k_exc)
  (case a_Road=>k_is)
  (case pg_Road=>k_is)
  (case hd_Road=>k_is)
  (case po_Road=>k_is)
  (case sa_Road=>k_is)
  (case mk_Road=>k_is)
  (case kc_Road=>k_is)
  (case m_Road___init__=>walk_at "meth")
  (case m_Road_width=>walk_at "meth")
  (case m_Road_ends=>walk_at "meth")
  (case m_Road_corners=>walk_at "meth")
  (case m_Road_on_road=>walk_at "meth")
  (case m_Road_at=>walk_at "meth")
  (case a_Walker=>k_is)
  (case pg_Walker=>k_is)
  (case hd_Walker=>k_is)
  (case po_Walker=>k_is)
  (case sa_Walker=>k_is)
  (case mk_Walker=>k_is)
  (case kc_Walker=>k_is)
  (case m_Walker___init__=>walk_at "meth")
  (case m_Walker_gone=>walk_at "meth")
  (case a_House=>k_is)
  (case pg_House=>k_is)
  (case hd_House=>k_is)
  (case po_House=>k_is)
  (case sa_House=>k_is)
  (case mk_House=>k_is)
  (case kc_House=>k_is)
  (case m_House___init__=>walk_at "meth")
  (case m_House_road_called=>walk_at "meth")
  (case m_House_walker_called=>walk_at "meth")
  (case m_House_do=>walk_at "meth")
  (case m_House_lay=>walk_at "meth")
  (case m_House_take_back=>walk_at "meth")
  (case m_House_bend=>walk_at "meth")
  (case m_House_widen=>walk_at "meth")
  (case m_House_place=>walk_at "meth")
  (case m_House_go=>walk_at "meth")
  (case m_House_walkers_on=>walk_at "meth")
  (case m_House_narrow=>walk_at "meth")
  (case m_House_together=>walk_at "meth")
  (case m_House_stood=>walk_at "meth")
  (case na_Road_heights=>k_is)
  (case na_Walker_whose=>k_is)
  (case na_Walker_point=>k_is)
  (case na_Walker_times=>k_is)
  (case na_House_roads=>k_is)
  (case na_House_walkers=>k_is)
  (case na_House_done=>k_is)
  (case g_WIDEST=>k_is)
  (case g_LONGEST_TRACE=>k_is)
  (case g_FARTHEST=>k_is)
  (case g_LONGEST_NAME=>k_is)
  (case g_GREATEST_BOTTOM=>k_is)
  (case g_LETTERS=>k_is)
  (case ms=>k_is)
  (case z_len=>k_is)
  (case z_abs=>k_is)
  (case z_range=>k_is)
  (case z_list=>k_is)
  (case z_min=>k_is)
  (case z_max=>k_is)
  (case z_all=>k_is)
  (case z_any=>k_is)
  (case z_sorted=>k_is)
  (case z_enumerate=>k_is)
  (case z_dict=>k_is)
  (case z_isinstance=>k_is)
  (case z_int=>k_is)
  (case z_bool=>k_is)
