import PyProof.Rows.All
import Wide.All
import OpenK.AllK
import Wide.FinOn
import Lean
import PyProof.EqAt
import PyProof.EqKinds
import PyProof.TupleCall
import PyProof.NeData
import KE.IntBitsLaws
import PyProof.SetRoads
import KE.KDictList
import PyProof.Rows.SortShell
import PyProof.Rows.SortRuns
import PyProof.Rows.Walk
import KE.KStateDown
import KE.KSortTup
import KE.KLam
import KE.KNestM
import PyProof.Rows.SetFrom
import PySem.Challenge.RW_crookroad_k24_whole_rows_and_points
set_option Elab.async false
set_option linter.all false
set_option maxRecDepth 100000
local macro_rules|`(tactic|omega)=>`(tactic|first|lia|omega +splitDisjunctions)
def aa:=@List.getElem?_eq_getElem
def ae:=@List.getD_eq_getElem?_getD
def af:=@PySem.Heap.lt_size
def ag:=@List.getElem?_eq_some_iff
def ah:=@List.size_toArray
def ai:=@List.length_append
def aj:=@Option.some.inj
def ak:=@PySem.Heap.get?_push_size
def al:=@PyProof.Rows.wpS_bind
def am:=@List.mem_range
def ao:=@List.getElem?_map
def aq:=@PyProof.Rows.wpS_pure
def ar:=@Nat.ne_of_lt
def au:=@Bool.false_ne_true
def av:=@List.getElem?_append_right
def aw:=@Bool.false_eq_true
def ax:=@List.length_cons
def ay:=@List.mem_cons
def az:=@List.getElem?_eq_none
def aA:=@List.mem_of_getElem?
def aB:=@List.mem_append_right
def aC:=@Array.getElem?_toList
def aD:=@Nat.lt_of_lt_of_le
def aE:=@Array.getD_eq_getD_getElem?
def aF:=@List.map_cons
def aG:=@List.mem_singleton
def aH:=@List.mem_map
def aI:=@Nat.lt_irrefl
def aJ:=@Array.length_toList
def aK:=@List.getElem?_append_left
def aL:=@List.length_take
def aM:=@Int.mul_le_mul_of_nonneg_right
def aN:=@Nat.zero_le
def aO:=@List.append_assoc
def aP:=@List.mem_append
def aQ:=@Array.getElem?_eq_getElem
def aR:=@Nat.lt_trans
def aS:=@PySem.wpAny_mono
def aT:=@PySem.wpAny_setState_of
def aU:=@List.mem_filter
def aV:=@Nat.lt_or_ge
def aW:=@PySem.W.mg_none_of
def aX:=@List.pairwise_append
def aY:=@List.Pairwise.imp_of_mem
def aZ:=@PySem.boot_len
def ba:=@PySem.PassesOwn.leaving
def be:=@List.lookup_cons
def bf:=@List.getElem?_range
def bg:=@List.pairwise_iff_getElem
def bh:=@of_decide_eq_true
def bi:=@Bool.and_eq_true
def bj:=@if_false
def bn:=@Int.mul_le_mul_of_nonneg_left
def bo:=@Nat.le_trans
def bp:=@PySem.wpAny_newObj_type
def br:=@List.length_drop
def bu:=@List.pairwise_map
def bv:=@List.ext_getElem?
def bw:=@PySem.Heap.size_push
def bz:=@List.map_map
def bA:=@Int.toNat_natCast
def bB:=@Array.getElem?_eq_some_iff
def bC:=@PySem.Heap.SameBut.update
def bD:=@Array.toList_append
def bE:=@PySem.Heap.get?_update_ne
def bF:=@List.getElem_mem
def bG:=@Array.mem_toList_iff
def bH:=@List.getElem?_of_mem
def bI:=@PyProof.Rows.callWith_type1
def bJ:=@PyProof.Rows.slot_tuple_getitem
def bK:=@List.append_nil
def bL:=@PySem.F.plainAttrs_list
def bM:=@PySem.W.mg_of
def bN:=@List.mem_append_left
def bO:=@Nat.pow_le_pow_right
def bP:=@List.take_of_length_le
def bQ:=@PyProof.Rows.wpS_forRange
def bR:=@PySem.wpAny_seqItems
def bS:=@PyProof.Rows.boot_isinstance
def bT:=@PySem.F.slot_list_append
def bU:=@PySem.F.type_list_append
def bV:=@beq_eq_false_iff_ne
def bW:=@PySem.wpAny_rule
def bX:=@congrArg
def bY:=@Int.emod_lt_of_pos
def bZ:=@PySem.W.kia_one
def b7:=@List.sum_cons
def b8:=@Nat.zero_add
def b9:=@Array.getElem?_eq_none
def cf:=@Int.toNat_of_nonneg
def cg:=@if_true
def cm:=@PySem.wpAny_field
def cn:=@List.length_singleton
def cr:=@PySem.Paired.length
def cu:=@List.mem_of_mem_drop
def cw:=@Nat.add_sub_cancel_left
def cx:=@List.filter_cons_of_neg
def cy:=@PySem.wpAny_standAt
def cz:=@PySem.Heap.get?_update_other
def cA:=@PyProof.Rows.boot_list
def cB:=@List.Perm.append_right
def cC:=@List.take_add_one
def cD:=@Bool.eq_iff_iff
def cE:=@List.nodup_cons
def cG:=@Int.emod_nonneg
def cH:=@PySem.Heap.get?_update_self
def cI:=@List.take_append_drop
def cJ:=@List.Perm.append_left
def cK:=@Nat.lt_succ_self
def cL:=@PySem.wpAny_Call_Name_kw
def cM:=@List.getElem?_drop
def cN:=@Array.getElem?_setIfInBounds_self_of_lt
def cP:=@List.map_nil
def cQ:=@Nat.pow_succ
def cR:=@Int.le_refl
def cS:=@List.mem_of_mem_take
def cT:=@PySem.wpAny_truthy_bool
def cU:=@Array.toList_push
def cV:=@List.pairwise_singleton
def cW:=@List.flatten_cons
def cX:=@PySem.mem_of_lookup
def cY:=@Nat.ne_of_gt
def cZ:=@Int.lt_or_le
def c0:=@PySem.sizeLine_eq
def da:=@PySem.Obj.data_mapFields
def db:=@List.getElem?_take
def dc:=@Array.perm_iff_toList_perm
def de:=@List.filter_append
def df:=@List.perm_append_comm
def dg:=@PyProof.Rows.boot_min
def dh:=@PyProof.Rows.boot_max
def di:=@Classical.byContradiction
def dj:=@PySem.wpAny_passesOwn
def dk:=@Nat.not_lt_zero
def dr:=@PySem.codeAny_builtin
def dt:=@Ne.symm
def du:=@PySem.codeAny_mono
def dv:=@PySem.lookup_relabel_local
def dw:=@PySem.wpAny_storeSet_of
def dz:=@PySem.Around.under_plainId
def dA:=@Array.toList_extract
def dB:=@Nat.lt_succ_of_lt
def dC:=@Int.le_trans
def dD:=@Int.add_mul
def dE:=@Int.one_mul
def dF:=@Array.getElem?_setIfInBounds_ne
def dG:=@List.getElem_of_mem
def dH:=@List.map_congr_left
def dI:=@List.any_eq_true
def dJ:=@beq_self_eq_true
def dL:=@Array.toList_inj
def dM:=@PySem.F.plain_max_loop
def dN:=@List.eq_nil_of_length_eq_zero
def dO:=@Int.mul_le_mul_of_nonpos_left
def dP:=@List.mem_filterMap
def dQ:=@Array.forIn_toList
def dR:=@PySem.F.called_set
def dS:=@Int.mul_ediv_mul_of_pos_left
def dU:=@PyProof.Rows.wpS_mono
def dW:=@PyProof.Rows.get?_update_seq
def dX:=@List.dropLast_concat_getLast
def dY:=@PyProof.Rows.listUpdate_at
def dZ:=@List.length_filter_le
def d6:=@PySem.wpAny_pyIter_list
def d7:=@bne_self_eq_false
def d8:=@beq_iff_eq
def d9:=@Bool.and_false
def ee:=@Nat.mod_two_eq_zero_or_one
def eo:=@Int.mul_nonneg
def eA:=@PySem.wpAny_letGo
def eB:=@List.not_mem_nil
def eC:=@List.filter_cons
def eD:=@List.drop_eq_getElem_cons
def eE:=@List.getElem?_eq_none_iff
def eF:=@List.reverse_append
def eG:=@Option.isSome_iff_exists
def eH:=@PySem.F.args_tuple_add_2
def eI:=@Array.size_setIfInBounds
def eJ:=@Array.getElem?_replicate
def eK:=@PySem.wpAny_comprehension_free
def eL:=@PyProof.Rows.boot_sorted
def eM:=@PySem.wpAny_ite_split
def eN:=@List.length_nil
def eO:=@Nat.lt_of_le_of_lt
def eP:=@PyProof.Rows.wpS_modify
def eQ:=@List.pairwise_cons
def eR:=@PySem.F.entry_tuple_add
def eS:=@List.length_eq_zero_iff
def eT:=@PyProof.Rows.F.plain_set_update_loop
def eU:=@decide_eq_false_iff_not
def eV:=@Int.eq_ofNat_of_zero_le
def eW:=@List.filter_cons_of_pos
def eX:=@PySem.wpAny_assign_Name
def eY:=@PySem.F.slot_tuple_add
def eZ:=@decide_eq_true_eq
def ff:=@Int.natAbs_mul
def fh:=@Int.le_ediv_iff_mul_le
def fi:=@Bool.not_false
def fj:=@Array.toList_filterMap
def fk:=@List.pairwise_lt_range
def fm:=@PySem.wpAny_setField
def fu:=@Option.map_eq_some_iff
def fv:=@List.length_eq_one_iff
def fA:=@Array.mem_of_getElem?
def fB:=@List.filterMap_append
def fC:=@PySem.exec_Assign_Name_used
def fE:=@PySem.Obj.isFreed_of_fields
def fF:=@Nat.mod_eq_of_lt
def fG:=@PySem.wpAny_forIn_list
def fH:=@Bool.not_eq_true
def fI:=@List.getElem_map
def fJ:=@PySem.wpAny_pyIter_zip
def fL:=@Nat.le_add_right
def fM:=@List.cons_append
def fN:=@Int.dvd_mul_left
def fO:=@Bool.not_true
def fP:=@PySem.plainId_quiet
def fQ:=@PyProof.Rows.wpS_get
def fR:=@PySem.wpAny_onRaise
def fS:=@PySem.wpAny_newList
def fT:=@PySem.wpAny_newFunctionEnv
def fU:=@PySem.wpAny_updateSeq_pair
def fV:=@PySem.wpAny_execs_nil
def fW:=@Nat.two_pow_pos
def fX:=@Array.getElem?_setIfInBounds
def fY:=@List.sum_append
def fZ:=@PySem.W.plainGet_of
def ge:=@List.flatMap_append
def gf:=@PySem.wpAny_typeOf
def gh:=@Int.mul_comm
def gk:=@Nat.sub_self
def gn:=@PyProof.Rows.assignInOrder_cons
def gu:=@PySem.wpAny_pyIter_tuple
def gv:=@PySem.SeqAt.EqAt.int_int
def gz:=@Nat.add_right_comm
def gC:=@PySem.W.callWith_K
def gD:=@PySem.F.excBase_ValueError
def gE:=@Int.mul_lt_mul_of_pos_left
def gF:=@of_decide_eq_false
def gG:=@Nat.add_sub_cancel
def gH:=@PyProof.Rows.wpS_lift
def gI:=@Int.le_of_mul_le_mul_right
def gJ:=@List.take_zero
def gK:=@Option.isNone_iff_eq_none
def gM:=@List.getLastD_eq_getLast?
def gN:=@Int.mul_neg_of_pos_of_neg
def gO:=@Int.mul_pos_of_neg_of_neg
def gP:=@Nat.le_succ
def gQ:=@PySem.Heap.SameBut.refl
def gR:=@PySem.IsTupleKey.typeIs
def gS:=@PySem.Obj.cls_mapFields
def gU:=@Bool.not_eq_true'
def gW:=@PyProof.Rows.seqEpoch_at
def gX:=@List.getElem?_take_of_lt
def gY:=@List.all_cons
def gZ:=@Bool.and_self
def g8:=@List.cons.inj
def g9:=@Int.lt_irrefl
def hU:=@PySem.noFill_tuple_add
def hX:=@Prod.ext
def h9:=@List.nodup_range
def ic:=@Int.natCast_dvd_natCast
def ie:=@List.all_eq_true
def ig:=@PySem.F.slot_tuple_hash
def ii:=@Array.mem_of_mem_filter
def ik:=@List.getElem?_cons_succ
def im:=@PySem.wpAny_isInstance
def io:=@List.zipIdx_cons
def iq:=@PySem.Heap.size_update
def ir:=@List.getLast_eq_getElem
def iu:=@Nat.le_mul_of_pos_right
def iv:=@PySem.wpAny_call
def iw:=@Int.le_of_lt
def iz:=@PySem.Walks.list
def iA:=@List.of_mem_zip
def iB:=@List.foldl_cons
def iC:=@Int.natCast_mul
def iD:=@PySem.wpAny_specialOf
def iE:=@PySem.codeAny_of_tree
def iF:=@List.forIn_cons
def iG:=@Int.ediv_mul_le
def iH:=@PySem.wpAny_updateSeq
def iI:=@Nat.min_eq_left
def iJ:=@Sum.inl.inj
def iK:=@Bool.false_and
def iL:=@PySem.intItems_at
def iM:=@PySem.numAt_eq
def iO:=@List.forIn_nil
def iS:=@List.any_cons
def iV:=@or_false
abbrev Aa:=PySem.W.Frag
abbrev Ab:=PySem.Shared
abbrev Ac:=PySem.Program
abbrev Ad:=PySem.FuncData
namespace L2
open PySem PySem.Spec PyProof.Rows
abbrev Key:=Sum Int Str
def qvq:Key→Value→Bool
 |.inl k,v=>Value.isInt k v
 |.inr x,v=>Value.isStrOf x v
def keyH (w:World):Key→Int
 |.inl k=>hashInt k
 |.inr x=>hashStr w x
theorem zj:∀ {k:Key} {v:Value},qvq k v=true→(∃i t,k=Sum.inl i∧v=Value.int i t)∨(∃x t,k=Sum.inr x∧v=Value.str x t)
 |.inl i,v,h=>by
  obtain ⟨t,e⟩:=Value.isInt_shape (k:=i) (v:=v) h
  exact .inl ⟨i,t,rfl,e⟩
 |.inr x,v,h=>by
  obtain ⟨t,e⟩:=Value.isStrOf_shape (x:=x) (v:=v) h
  exact .inr ⟨x,t,rfl,e⟩
theorem wju (i:Int)(t:Tok):qvq (.inl i) (.int i t)=true:=by simp [qvq,Value.isInt]
theorem wvh (x:Str)(t:Tok):qvq (.inr x) (.str x t)=true:=by simp [qvq,Value.isStrOf]
theorem key_ll (a b:Int):decide ((Sum.inl a:Key)=Sum.inl b)=(a==b):=by
 by_cases e:a=b
 ·subst e;simp
 ·have h:¬ (Sum.inl a:Key)=Sum.inl b:=λq=>e (iJ q)
  rw [decide_eq_false h]
  exact (bV.mpr e).symm
theorem key_rr (a b:Str):decide ((Sum.inr a:Key)=Sum.inr b)=decide (a=b):=by
 by_cases e:a=b
 ·subst e;simp
 ·have h:¬ (Sum.inr a:Key)=Sum.inr b:=λq=>e (Sum.inr.inj q)
  rw [decide_eq_false h,decide_eq_false e]
theorem key_lr (a:Int)(b:Str):decide ((Sum.inl a:Key)=Sum.inr b)=false:=decide_eq_false (λq=>nomatch q)
theorem key_rl (a:Str)(b:Int):decide ((Sum.inr a:Key)=Sum.inl b)=false:=decide_eq_false (λq=>nomatch q)
def jn (prog:Ac)(w:World):PySem.KeyKind prog w Key where
 is:=qvq
 hash:=keyH w
 inj:=λv a b ha hb=>by
  rcases zj ha with ⟨i,t,rfl,rfl⟩|⟨x,t,rfl,rfl⟩
  ·rcases zj hb with ⟨j,u,rfl,e⟩|⟨y,u,rfl,e⟩
   ·injection e with e1 _;rw [e1]
   ·exact nomatch e
  ·rcases zj hb with ⟨j,u,rfl,e⟩|⟨y,u,rfl,e⟩
   ·exact nomatch e
   ·injection e with e1 _;rw [e1]
 byValue:=λk v h=>by
  rcases zj h with ⟨i,t,rfl,rfl⟩|⟨x,t,rfl,rfl⟩ <;> rfl
 pyHash:=λhv h=>by
  rcases zj hv with ⟨i,t,rfl,rfl⟩|⟨x,t,rfl,rfl⟩
  ·exact wpAny_pyHash_int h
  ·exact wpAny_pyHash_str h
 eqBool:=λhu hv h=>by
  rcases zj hu with ⟨i,t,rfl,rfl⟩|⟨x,t,rfl,rfl⟩
  ·rcases zj hv with ⟨j,u,rfl,rfl⟩|⟨y,u,rfl,rfl⟩
   ·rw [key_ll] at h;exact wpAny_eqBool_int h
   ·rw [key_lr] at h;exact SeqAt.EqAt.int_str i t y u _ _ _ _ h
  ·rcases zj hv with ⟨j,u,rfl,rfl⟩|⟨y,u,rfl,rfl⟩
   ·rw [key_rl] at h;exact SeqAt.EqAt.str_int x t j u _ _ _ _ h
   ·rw [key_rr] at h;exact wpAny_eqBool_str h
 «strs»:=λk x t v h=>by
  rcases zj h with ⟨i,u,rfl,e⟩|⟨y,u,rfl,e⟩
  ·exact nomatch e
  ·injection e with e1 _
   subst e1
   cases v <;> rfl
theorem quk (prog:Ac)(w:World)(i:Int)(t:Tok):(jn prog w).is (.inl i) (.int i t)=true:=wju i t
theorem qyf (prog:Ac)(w:World)(x:Str)(t:Tok):(jn prog w).is (.inr x) (.str x t)=true:=wvh x t
inductive V where
 |non|bl (b:Bool)|int (i:Int)|str (x:Str)|byt (b:Array UInt8)|flt (b:UInt64)|ref (a:Addr)|ty (n:String)
 deriving DecidableEq
def RelV:V→Value→Prop
 |.non,u=>u=Value.none
 |.bl b,u=>u=Value.bool b
 |.int i,u=>∃t,u=Value.int i t
 |.str x,u=>∃t,u=Value.str x t
 |.byt b,u=>∃t,u=Value.bytes b t
 |.flt b,u=>∃t,u=Value.float b t
 |.ref a,u=>u=Value.ref a
 |.ty n,u=>u=Value.type n
abbrev Vals:List V→List Value→Prop:=Paired RelV
theorem Vals.length {xs:List V}{us:List Value}(r:Vals xs us):xs.length=us.length:=cr r
theorem Vals.get:∀ {xs:List V} {us:List Value} {i:Nat} {x:V},Vals xs us→xs[i]?=some x→∃u,us[i]?=some u∧RelV x u
 |_,_,_,_,.nil,e=>by simp at e
 |_,_,0,_,.cons r _,e=>by simp at e;subst e;exact ⟨_,rfl,r⟩
 |_,_,i+1,x,.cons _ t,e=>by
  obtain ⟨u,h1,h2⟩:=Vals.get (i:=i) (x:=x) t (by simpa using e)
  exact ⟨u,by simpa using h1,h2⟩
theorem Vals.append:∀ {xs ys:List V} {us ws:List Value},Vals xs us→Vals ys ws→Vals (xs++ys) (us++ws)
 |_,_,_,_,.nil,s=>s
 |_,_,_,_,.cons r t,s=>.cons r (Vals.append t s)
theorem Vals.take:∀ {xs:List V} {us:List Value} (n:Nat),Vals xs us→Vals (xs.take n) (us.take n)
 |_,_,0,_=>.nil
 |_,_,_+1,.nil=>.nil
 |_,_,n+1,.cons r t=>.cons r (Vals.take n t)
theorem Vals.drop:∀ {xs:List V} {us:List Value} (n:Nat),Vals xs us→Vals (xs.drop n) (us.drop n)
 |_,_,0,r=>r
 |_,_,_+1,.nil=>.nil
 |_,_,n+1,.cons _ t=>Vals.drop n t
def RelO:Option V→Option Value→Prop
 |some v,some u=>RelV v u
 |none,none=>True
 |_,_=>False
def KV {κ:Type}:List (κ×V)→List (κ×Value)→Prop:=Paired λ(p:κ×V) (q:κ×Value)=>p.1=q.1∧RelV p.2 q.2
def kV:Key→V
 |.inl i=>.int i
 |.inr x=>.str x
inductive HO where
 |lst (xs:List V)
 |tup (xs:List V)
 |dK (kvs:List (Key×V))|dT (kvs:List (List Key×V))
 |set (S:Int→Bool) (n:Nat)
 |ins (C dx:Addr) (fs:List (Str×V))
 |own (x:Addr)
 |xd (fs:List (Str×V))
 |met (f x:Addr)
 |rng (lo hi:Int)
 |frz (o:Obj) (u:HO)
 |tbl (ps:Array Value)
 |ext (φ:Heap→Prop)
abbrev Hp:=Addr→Option HO
def upd (H:Hp)(a:Addr)(o:HO):Hp:=λb=>if b=a then some o else H b
theorem qb {H:Hp}{a:Addr}{o:HO}:upd H a o a=some o:=by unfold upd;rw [if_pos rfl]
theorem qr {H:Hp}{a b:Addr}{o:HO}(h:b≠a):upd H a o b=H b:=by unfold upd;rw [if_neg h]
theorem qjb {H:Hp}{a:Addr}{o u:HO}:upd (upd H a o) a u=upd H a u:=by
 funext b;unfold upd;split <;> rfl
theorem q8 {H:Hp}{a b:Addr}{o:HO}(h:H a=some o)(h':H b=none):a≠b:=by
 intro e;subst e;rw [h] at h';cases h'
section
variable (P:Ac)(w:World)
def ObjOk (H:Hp)(h:Heap)(a:Addr):HO→Prop
 |.lst xs=>xs.length≤sizeLine∧∃(its:List Value) (n:Nat),Vals xs its∧h.get? a=some { cls:=.type "list",data:=.seq its.toArray n }
 |.tup xs=>xs.length≤sizeLine∧∃its:List Value,Vals xs its∧IsTup h a its.toArray
 |.dK kvs=>kvs.length≤sizeLine∧(a==sysModules)=false∧∃vs,KV kvs vs∧h.DictOf (jn P w) a vs
 |.dT kvs=>kvs.length≤sizeLine∧(a==sysModules)=false∧∃xs:List (List Key×Addr×Value),
   Paired (λ(p:List Key×V) (q:List Key×Addr×Value)=>p.1=q.1∧H q.2.1=some (.tup (p.1.map kV))∧RelV p.2 q.2.2) kvs xs ∧
   ∃o es ep,h.get? a=some o∧o.ExactDict∧o.data=.dict es ep∧es.toList=xs.map (entryOfKey (tupleKind (jn P w)))∧(xs.map (·.1)).Nodup
 |.set S n=>h.SetOf (intKind P w) a S n
 |.ins C dx fs=>H dx=some (.own a)∧fs.length≤1000∧dx≠a∧h.get? a=some (PySem.W.instObj C dx) ∧
   ∃mA,h.Ns1 dx mA∧(∀f,RelO (fs.lookup f) (mA f))∧PySem.Within mA (fs.map (·.1))
 |.own _=>∃o,h.get? a=some o
 |.xd fs=>∃mA,h.Ns1 a mA∧∀f,RelO (fs.lookup f) (mA f)
 |.rng lo hi=>∃t u v,h.get? a=some { cls:=.type "range",data:=.fields #[.int lo t,.int hi u,.int 1 v] }
 |.frz o u=>h.get? a=some o∧ObjOk H h a u
 |.tbl ps=>h.get? a=some { cls:=.none,data:=.fields ps }
 |.met f x=>h.get? a=some (PySem.W.methodObj (.ref f) (.ref x))
 |.ext φ=>φ h∧(∃o,h.get? a=some o)∧∀h1 h2:Heap,φ h1→(∀o,h1.get? a=some o→h2.get? a=some o)→φ h2
def HOk (H:Hp)(h:Heap):Prop:=∀a o,H a=some o→ObjOk P w H h a o
end
section
variable {P:Ac}{w:World}{H H':Hp}{h h':Heap}{a:Addr}{o:HO}
theorem ObjOk.lt (x:ObjOk P w H h a o):a<h.objs.size:=by
 cases o with
 |lst xs=>obtain ⟨_,_,_,_,e⟩:=x;exact af e
 |tup xs=>obtain ⟨_,_,_,p⟩:=x;exact p.lt
 |dK kvs=>obtain ⟨_,_,_,_,o,_,_,e,_⟩:=x;exact af e
 |dT kvs=>obtain ⟨_,_,_,_,o,_,_,e,_⟩:=x;exact af e
 |set S n=>obtain ⟨o,_,_,_,e,_⟩:=x;exact af e
 |ins C dx fs=>obtain ⟨_,_,_,e,_⟩:=x;exact af e
 |own y=>obtain ⟨_,e⟩:=x;exact af e
 |xd fs=>obtain ⟨_,⟨_,_,_,e,_⟩,_⟩:=x;exact af e
 |rng lo hi=>obtain ⟨_,_,_,e⟩:=x;exact af e
 |frz ob u=>obtain ⟨e,_⟩:=x;exact af e
 |tbl ps=>exact af (show h.get? a=some _ from x)
 |met f y=>exact af (show h.get? a=some _ from x)
 |ext φ=>obtain ⟨_,⟨_,e⟩,_⟩:=x;exact af e
theorem Paired.mapP {α β:Type}{F G:α→β→Prop}:∀ {l₁:List α} {l₂:List β},Paired F l₁ l₂→(∀a b,F a b→G a b)→Paired G l₁ l₂
 |_,_,.nil,_=>.nil
 |_,_,.cons r t,f=>.cons (f _ _ r) (Paired.mapP t f)
theorem ObjOk.stay (x:ObjOk P w H h a o)(k:∀b u,(b=a∨H b=some (.own a))→h.get? b=some u→h'.get? b=some u)
  (ho:∀b,H b=some (.own a)→H' b=some (.own a)) (ht:∀b xs,H b=some (.tup xs)→H' b=some (.tup xs)):ObjOk P w H' h' a o:=by
 induction o with
 |lst xs=>obtain ⟨z,its,n,r,e⟩:=x;exact ⟨z,its,n,r,k _ _ (.inl rfl) e⟩
 |tup xs=>obtain ⟨z,its,r,ob,e,c⟩:=x;exact ⟨z,its,r,ob,k _ _ (.inl rfl) e,c⟩
 |dK kvs=>obtain ⟨z,y,vs,r,ob,es,ep,e,c⟩:=x;exact ⟨z,y,vs,r,ob,es,ep,k _ _ (.inl rfl) e,c⟩
 |dT kvs =>
  obtain ⟨z,y,xs,r,ob,es,ep,e,c⟩:=x
  exact ⟨z,y,xs,Paired.mapP r λp q z=>⟨z.1,ht _ _ z.2.1,z.2.2⟩,ob,es,ep,k _ _ (.inl rfl) e,c⟩
 |set S n=>obtain ⟨ob,es,ep,t,e,c⟩:=x;exact ⟨ob,es,ep,t,k _ _ (.inl rfl) e,c⟩
 |ins C dx fs =>
  obtain ⟨d,z,ne,e,mA,⟨od,es,ep,e2,c⟩,r⟩:=x
  exact ⟨ho _ d,z,ne,k _ _ (.inl rfl) e,mA,⟨od,es,ep,k _ _ (.inr d) e2,c⟩,r⟩
 |own y=>obtain ⟨ob,e⟩:=x;exact ⟨ob,k _ _ (.inl rfl) e⟩
 |xd fs=>obtain ⟨mA,⟨od,es,ep,e,c⟩,r⟩:=x;exact ⟨mA,⟨od,es,ep,k _ _ (.inl rfl) e,c⟩,r⟩
 |rng lo hi=>obtain ⟨t,u,v,e⟩:=x;exact ⟨t,u,v,k _ _ (.inl rfl) e⟩
 |frz ob u ih=>obtain ⟨e,q⟩:=x;exact ⟨k _ _ (.inl rfl) e,ih q⟩
 |tbl ps =>
  have e:h.get? a=some { cls:=.none,data:=.fields ps }:=x
  show h'.get? a=some { cls:=.none,data:=.fields ps }
  exact k a _ (.inl rfl) e
 |met f y =>
  have e:h.get? a=some (PySem.W.methodObj (.ref f) (.ref y)):=x
  show h'.get? a=some (PySem.W.methodObj (.ref f) (.ref y))
  exact k a _ (.inl rfl) e
 |ext φ=>obtain ⟨p,⟨o,e⟩,st⟩:=x;exact ⟨st _ _ p λo q=>k _ _ (.inl rfl) q,⟨o,k _ _ (.inl rfl) e⟩,st⟩
theorem HOk.lt (x:HOk P w H h)(e:H a=some o):a<h.objs.size:=(x a o e).lt
theorem HOk.fresh (x:HOk P w H h)(e:h.objs.size≤a):H a=none:=by
 cases q:H a with
 |none=>rfl
 |some u=>exact absurd (aD (x.lt q) e) (aI _)
theorem HOk.kept (x:HOk P w H h)(k:∀b u,h.get? b=some u→h'.get? b=some u):HOk P w H h':=λa o e =>
 (x a o e).stay (λb u _ q=>k b u q) (λ_ q=>q) λ_ _ q=>q
theorem HOk.laid (x:HOk P w H h)(k:∀b u,h.get? b=some u→h'.get? b=some u)(hp:h.objs.size≤a)(new:ObjOk P w (upd H a o) h' a o):HOk P w (upd H a o) h':=λb u e=>by
 have hn:=x.fresh hp
 by_cases hb:b=a
 ·subst hb;rw [qb] at e;cases e;exact new
 ·rw [qr hb] at e
  exact (x b u e).stay (λc v _ q=>k c v q) (λc q=>by rw [qr (q8 q hn)];exact q) λc xs q=>by rw [qr (q8 q hn)];exact q
end
def Rd (H:Hp)(a:Addr)(u:HO):Prop:=H a=some u∨∃o,H a=some (.frz o u)
theorem Rd.ok {P:Ac}{w:World}{H:Hp}{h:Heap}{a:Addr}{u:HO}(r:Rd H a u)(x:HOk P w H h):ObjOk P w H h a u:=by
 rcases r with r|⟨o,r⟩
 ·exact x a u r
 ·obtain ⟨_,q⟩:=x a _ r
  exact q
def Mut:Option HO→Prop
 |some (.lst _)=>True
 |some (.dK _)=>True
 |some (.dT _)=>True
 |some (.set _ _)=>True
 |some (.ins _ _ _)=>True
 |some (.ext _)=>True
 |_=>False
section
variable {P:Ac}{w:World}{H:Hp}{h h':Heap}{x e:Addr}{o':HO}
theorem HOk.write (ok:HOk P w H h)(mu:Mut (H x))(he:e=x∨H e=some (.own x))(k:∀b u,b≠e→h.get? b=some u→h'.get? b=some u)(heo:∃u,h'.get? e=some u)
  (new:ObjOk P w (upd H x o') h' x o'):HOk P w (upd H x o') h':=λb u q=>by
 have nown:∀c y,H c=some (.own y)→c≠x:=λc y r z=>by subst z;rw [r] at mu;exact mu
 have ntup:∀c xs,H c=some (.tup xs)→c≠x:=λc xs r z=>by subst z;rw [r] at mu;exact mu
 by_cases hb:b=x
 ·subst hb;rw [qb] at q;cases q;exact new
 ·rw [qr hb] at q
  by_cases hbe:b=e
  ·have q':H b=some (.own x):=by
    rcases he with z|z
    ·exact absurd (hbe.trans z) hb
    ·rw [hbe];exact z
   rw [q] at q';cases q'
   obtain ⟨v,hv⟩:=heo
   exact ⟨v,by rw [hbe];exact hv⟩
  ·refine (ok b u q).stay (λc v hc r=>k c v ?_ r) (λc r=>by rw [qr (nown c b r)];exact r) λc xs r=>by rw [qr (ntup c xs r)];exact r
   rcases hc with rfl|hc
   ·exact hbe
   ·rintro rfl
    rcases he with z|z
    ·exact nown c b hc z
    ·rw [hc] at z;cases z;exact hb rfl
end
structure Un (fs ex:List Addr)(H H':Hp)(h h':Heap):Prop where
 keep:∀b o,h.get? b=some o→H b=none→b∉fs→b∉ex→h'.get? b=some o
 slot:∀b o,h.get? b=some o→H b=none→b∈fs→b∉ex→∃sl,h'.get? b=some { o with slots:=sl }
 free:∀b o,h.get? b=some o→H b=none→b∉ex→H' b=none
 there:∀b o,h.get? b=some o→b∉ex→∃o',h'.get? b=some o'
 tups:∀b xs,H b=some (.tup xs)→H' b=some (.tup xs)
 frzs:∀b o u,H b=some (.frz o u)→H' b=some (.frz o u)
 tbls:∀b ps,H b=some (.tbl ps)→∃more,H' b=some (.tbl (ps++more))
section
variable {fs fs' ex ex':List Addr}{H H1 H2:Hp}{h h1 h2 h':Heap}{a x e:Addr}{o:HO}
theorem Un.any (u:Un fs ex H H1 h h1){b:Addr}{ob:Obj}(q:h.get? b=some ob)(n:H b=none)(hx:b∉ex):∃sl,h1.get? b=some { ob with slots:=sl }:=by
 by_cases hb:b∈fs
 ·exact u.slot b ob q n hb hx
 ·exact ⟨ob.slots,u.keep b ob q n hb hx⟩
theorem Un.kept (k:∀b u,h.get? b=some u→h'.get? b=some u):Un fs ex H H h h' :=
 ⟨λb ob q _ _ _=>k b ob q,λb ob q _ _ _=>⟨ob.slots,k b ob q⟩,λ_ _ _ n _=>n,λb ob q _=>⟨ob,k b ob q⟩,λ_ _ q=>q,λ_ _ _ q=>q,λ_ ps q=>⟨#[],by rw [q];simp⟩⟩
theorem Un.refl:Un fs ex H H h h:=Un.kept λ_ _ q=>q
theorem Un.laid (k:∀b u,h.get? b=some u→h'.get? b=some u)(hp:h.objs.size≤a)(hn:H a=none):Un fs ex H (upd H a o) h h' where
 keep:=λb u q _ _ _=>k b u q
 slot:=λb u q _ _ _=>⟨u.slots,k b u q⟩
 free:=λb u q n _=>by rw [qr (ar (aD (af q) hp))];exact n
 there:=λb u q _=>⟨u,k b u q⟩
 tups:=λb xs q=>by rw [qr (q8 q hn)];exact q
 frzs:=λb u xs q=>by rw [qr (q8 q hn)];exact q
 tbls:=λb ps q=>⟨#[],by rw [qr (q8 q hn),q];simp⟩
theorem Un.write (mu:Mut (H x))(he:e=x∨H e=some (.own x))(k:∀b u,b≠e→h.get? b=some u→h'.get? b=some u)(heo:∃u,h'.get? e=some u):Un fs ex H (upd H x o) h h':=by
 have hx:∀b,H b=none→b≠x:=λb n z=>by subst z;rw [n] at mu;exact mu
 have hb:∀b,H b=none→b≠e:=λb n z=>by
  subst z
  rcases he with r|r
  ·exact hx b n r
  ·rw [n] at r;cases r
 have hm:∀b u,H b=some u→¬ Mut (some u)→b≠x:=λb u q nm z=>by subst z;rw [q] at mu;exact nm mu
 refine ⟨λb u q n _ _=>k b u (hb b n) q,λb u q n _ _=>⟨u.slots,k b u (hb b n) q⟩,λb u q n _=>by rw [qr (hx b n)];exact n,λb u q _=>?_,
  λb xs q=>by rw [qr (hm b _ q λz=>z)];exact q,λb u xs q=>by rw [qr (hm b _ q λz=>z)];exact q,λb ps q=>⟨#[],by rw [qr (hm b _ q λz=>z),q];simp⟩⟩
 by_cases hbe:b=e
 ·subst hbe;exact heo
 ·exact ⟨u,k b u hbe q⟩
end
def trk (h:Heap)(H:Hp):List Addr:=(List.range h.objs.size).filter λa=>(H a).isSome
def qzz (h:Heap)(H:Hp):Heap:=PySem.W.hideAll h (trk h H)
theorem wk5 (h:Heap)(H:Hp):(qzz h H).objs.size=h.objs.size:=PySem.W.hideAll_size _ _
theorem wyj {h:Heap}{H:Hp}{b:Addr}{o:Obj}(e:h.get? b=some o)(n:H b=none):(qzz h H).get? b=some o :=
 PySem.W.hideAll_get _ e λhm=>by
  have q:(H b).isSome=true:=(aU.mp hm).2
  rw [n] at q;simp at q
theorem xzj {h:Heap}{H:Hp}{b:Addr}{o:Obj}(e:(qzz h H).get? b=some o):h.get? b=some o∧H b=none:=by
 have e':h.get? b=some o:=PySem.W.of_hideAll (trk h H) e
 refine ⟨e',?_⟩
 cases q:H b with
 |none=>rfl
 |some x =>
  have hm:b∈trk h H:=aU.mpr ⟨am.mpr (af e'),by simp [q]⟩
  have z:(qzz h H).get? b=none:=PySem.W.hideAll_none (trk h H) hm
  rw [z] at e;cases e
def xzn (g h:Heap)(L:Addr):List (Addr×Obj):=(List.range h.objs.size).filterMap λa=>if a=L∨(g.get? a).isSome=true then none else (h.get? a).map λo=>(a,o)
def rest (g h:Heap)(L d:Addr):List (Addr×Obj):=(xzn g h L).filter λp=>decide (p.1≠d)
structure Mod (K:Aa)(mg:Str→Option Value)(base:Heap):Prop where
 kin:K.In base
 glob:base.Ns mainGlobals mg
 blt:∃mb,base.Ns builtinsNs mb∧∀x:Str,x ≠ "__name__" → mb x=bootBuiltins x
 nolimit:base.NoLimit
structure Cx where
 prog:Ac
 w:World
 K:Aa
 mg:Str→Option Value
 base:Heap
 A:Around
 N:List Str
 s₀:Ab
 H₀:Hp
 env:Env
 outer:List Env
 stack:List Env
 ex:List Addr
 fn:Str→Bool
 calm:Bool
 pn:List (Addr×Obj)
 xe:Value→Ab→Prop
def frs (l:List Env):List Addr:=l.filterMap (·.frame)
abbrev Cx.fs (X:Cx):List Addr:=frs X.outer
def Vis (sc:Scope)(x:Str):Prop:=sc.names.lookup x=some .local∨sc.names.lookup x=some .cell∨sc.names.lookup x=some .free
def Loc (sc:Scope)(x:Str):Prop:=sc.names.lookup x=some .local∨sc.names.lookup x=some .cell
def Look (env:Env)(h:Heap)(m:Str→Option Value)(x:Str)(u:Value):Prop :=
 (env.kindOf x=some .local∧m x=some u)∨((env.kindOf x=some .cell∨env.kindOf x=some .free)∧∃c,env.cells.lookup x=some c∧h.IsCell c (some u))
structure Cx.Ok (X:Cx):Prop where
 mod:Mod X.K X.mg X.base
 kind:X.env.scope.kind=.function
 glob:X.env.globals=mainGlobals
 blt:X.env.builtins=builtinsNs
 above:X.s₀.heap.objs.size≤X.env.locals
 inj:∀x y c,X.env.cells.lookup x=some c→X.env.cells.lookup y=some c→x=y
 has:∀x,(X.env.kindOf x=some .cell∨X.env.kindOf x=some .free)→∃c,X.env.cells.lookup x=some c
 cab:∀x c,X.fn x=true→X.env.cells.lookup x=some c→X.s₀.heap.objs.size≤c
 hd:X.calm=true→X.A.handled=none
 frames:X.A.frames=some X.stack
 stk:X.stack=X.outer∨(X.stack=X.env::X.outer∧X.env.frame=some X.env.locals)
 exf:∀b∈X.ex,b≠X.env.locals∧∀x c,X.env.cells.lookup x=some c→c≠b
 bs:∀b o,X.base.get? b=some o→X.s₀.heap.get? b=some o∧X.H₀ b=none
 bsz:X.base.objs.size≤X.s₀.heap.objs.size
 noex:∀b o,X.base.get? b=some o→b∉X.ex
 exfs:∀b∈X.ex,b∉X.fs
 funs:X.s₀.heap.FunFrames X.base X.outer
 frf:∀b∈X.fs,X.H₀ b=none
structure Inv (X:Cx)(pins:List (Addr×Obj))(σ:List (Option V))(H:Hp)(s:Ab):Prop where
 ok:X.Ok
 os:s.os=X.s₀.os
 bare:AllBare s.gens
 base:Un X.fs X.ex X.H₀ H X.s₀.heap s.heap
 loc:∃m,s.heap.Ns X.env.locals m∧∀(i:Nat) (x:Str) (v:V),X.N[i]?=some x→σ[i]?=some (some v)→Vis X.env.scope x→∃u,RelV v u∧Look X.env s.heap m x u
 cell:∀x c,X.env.cells.lookup x=some c→∃v,s.heap.IsCell c v
 free:H X.env.locals=none
 freeC:∀x c,X.env.cells.lookup x=some c→H c=none
 pin:∀p∈X.pn++pins,s.heap.get? p.1=some p.2∧H p.1=none∧p.1≠X.env.locals∧p.1∉X.fs∧∀v,p.2.data≠.cell v
 hok:HOk X.prog X.w H s.heap
 len:σ.length=X.N.length
section
variable {X:Cx}{pins:List (Addr×Obj)}{σ:List (Option V)}{H H':Hp}{s:Ab}{h':Heap}
theorem Cx.Ok.nofr (ok:X.Ok){b:Addr}{o:Obj}(e:X.base.get? b=some o):b∉X.fs:=λhb=>by
 have:=(ok.funs.mem hb).1
 rw [e] at this;cases this
theorem Inv.bs (I:Inv X pins σ H s):∀b o,X.base.get? b=some o→s.heap.get? b=some o∧H b=none:=λb o e =>
 ⟨I.base.keep b o (I.ok.bs b o e).1 (I.ok.bs b o e).2 (I.ok.nofr e) (I.ok.noex b o e),I.base.free b o (I.ok.bs b o e).1 (I.ok.bs b o e).2 (I.ok.noex b o e)⟩
theorem Inv.bk (I:Inv X pins σ H s):∀b o,X.base.get? b=some o→s.heap.get? b=some o:=λb o e=>(I.bs b o e).1
theorem Inv.mod (I:Inv X pins σ H s):Mod X.K X.mg X.base:=I.ok.mod
theorem Inv.kIn (I:Inv X pins σ H s):X.K.In s.heap:=I.ok.mod.kin.keeps I.bk
theorem Inv.lt (I:Inv X pins σ H s):X.env.locals<s.heap.objs.size:=let ⟨_,hn,_⟩:=I.loc;hn.lt
theorem Inv.sz (I:Inv X pins σ H s):X.s₀.heap.objs.size≤s.heap.objs.size:=bo I.ok.above (Nat.le_of_lt I.lt)
theorem Inv.nofs (I:Inv X pins σ H s){a:Addr}(h:s.heap.objs.size≤a):a∉X.fs:=λhb=>by
 obtain ⟨_,o,ho,_⟩:=I.ok.funs.mem hb
 exact absurd (aD (af ho) (bo I.sz h)) (aI _)
theorem Inv.cne (I:Inv X pins σ H s):∀x c,X.env.cells.lookup x=some c→c≠X.env.locals:=λx c e z=>by
 obtain ⟨v,o,ho,hd⟩:=I.cell x c e
 obtain ⟨m,⟨o',es,ep,ho',hd',_⟩,_⟩:=I.loc
 rw [z,ho'] at ho;cases ho;rw [hd'] at hd;cases hd
theorem Inv.funs (I:Inv X pins σ H s):s.heap.FunFrames X.base X.outer:=by
 have all:∀(l:List Env),(∀b∈frs l,b∈X.fs)→X.s₀.heap.FunFrames X.base l→s.heap.FunFrames X.base l:=by
  intro l
  induction l with
  |nil=>intro _ _;trivial
  |cons env r ih =>
   intro hs hl
   obtain ⟨hk,⟨L,o,hf,hn,ho,hd⟩,hr⟩:=hl
   have hL:L∈X.fs:=hs L (by unfold frs;rw [List.filterMap_cons,hf];exact List.mem_cons_self)
   obtain ⟨sl,e⟩:=I.base.slot L o ho (I.ok.frf L hL) hL λz=>I.ok.exfs L z hL
   exact ⟨hk,⟨L,_,hf,hn,e,hd⟩,ih (λb hb=>hs b (by unfold frs;rw [List.filterMap_cons,hf];exact List.mem_cons_of_mem _ hb)) hr⟩
 exact all X.outer (λ_ hb=>hb) I.ok.funs
theorem Inv.stack (I:Inv X pins σ H s):s.heap.FunFrames X.base X.stack:=by
 rcases I.ok.stk with e|⟨e,hf⟩
 ·rw [e];exact I.funs
 ·rw [e]
  obtain ⟨m,hn,_⟩:=I.loc
  refine .cons (by rw [I.ok.kind];decide) hf hn ?_ I.funs
  exact Heap.get?_none_of_le (bo I.ok.bsz I.ok.above)
theorem Inv.stkSub (I:Inv X pins σ H s):∀b∈frs X.stack,b∈X.env.locals::X.fs:=λb hb=>by
 rcases I.ok.stk with e|⟨e,hf⟩
 ·rw [e] at hb;exact List.mem_cons_of_mem _ hb
 ·rw [e] at hb
  unfold frs at hb
  rw [List.filterMap_cons,hf] at hb
  exact hb
theorem Inv.stkFree (I:Inv X pins σ H s):∀b∈frs X.stack,H b=none:=λb hb=>by
 rcases ay.mp (I.stkSub b hb) with e|hb
 ·rw [e];exact I.free
 ·obtain ⟨_,o,ho,_⟩:=I.ok.funs.mem hb
  exact I.base.free b o ho (I.ok.frf b hb) λz=>I.ok.exfs b z hb
theorem Inv.step {g':Array GenState}{t':Nat}{d':Drawn}{ch:List Addr}(I:Inv X pins σ H s)
  (hch:∀b∈ch,(b∈X.ex∨X.s₀.heap.objs.size≤b)∧b≠X.env.locals∧(∀x c,X.env.cells.lookup x=some c→c≠b)∧∀p∈X.pn++pins,p.1≠b)
  (keep:∀b o,b≠X.env.locals→b∉X.fs→b∉ch→s.heap.get? b=some o→H b=none→h'.get? b=some o)
  (slot:∀b o,b≠X.env.locals→b∈X.fs→b∉ch→s.heap.get? b=some o→H b=none→∃sl,h'.get? b=some { o with slots:=sl }) (free:∀b o,b∉ch→s.heap.get? b=some o→H b=none→H' b=none)
  (there:∀b o,b∉ch→s.heap.get? b=some o→∃o',h'.get? b=some o')
  (tups:∀b xs,H b=some (.tup xs)→H' b=some (.tup xs)) (frzs:∀b o u,H b=some (.frz o u)→H' b=some (.frz o u)) (tbls:∀b ps,H b=some (.tbl ps)→∃more,H' b=some (.tbl (ps++more)))
  (ns:∀m,s.heap.Ns X.env.locals m→h'.Ns X.env.locals m) (hok:HOk X.prog X.w H' h') (hg:AllBare g') :
  Inv X pins σ H' { s with heap:=h',gens:=g',drawn:=d',toks:=t' }:=by
 have neL:∀b o,X.s₀.heap.get? b=some o→b≠X.env.locals:=λb o e=>ar (aD (af e) I.ok.above)
 have neC:∀b o,X.s₀.heap.get? b=some o→b∉X.ex→b∉ch:=λb o e hx hb=>by
  rcases (hch b hb).1 with z|z
  ·exact hx z
  ·exact absurd (aD (af e) z) (aI _)
 have cellK:∀x c,X.env.cells.lookup x=some c→∀v,s.heap.IsCell c v→h'.IsCell c v:=λx c e v ⟨o,ho,hd⟩=>by
  have nch:c∉ch:=λz=>(hch c z).2.2.1 x c e rfl
  by_cases hc:c∈X.fs
  ·obtain ⟨sl,q⟩:=slot c o (I.cne x c e) hc nch ho (I.freeC x c e)
   exact ⟨_,q,hd⟩
  ·exact ⟨o,keep c o (I.cne x c e) hc nch ho (I.freeC x c e),hd⟩
 refine ⟨I.ok,I.os,hg,⟨λb o e n hb hx=>?_,λb o e n hb hx=>?_,λb o e n hx=>?_,λb o e hx=>?_,λb xs e=>tups b xs (I.base.tups b xs e),λb o xs e=>frzs b o xs (I.base.frzs b o xs e),λb ps e=>?_⟩,?_,λx c e=>?_,?_,λx c e=>?_,λp hp=>?_,hok,I.len⟩
 ·exact keep b o (neL b o e) hb (neC b o e hx) (I.base.keep b o e n hb hx) (I.base.free b o e n hx)
 ·obtain ⟨sl,e1⟩:=I.base.slot b o e n hb hx
  obtain ⟨sl',e2⟩:=slot b _ (neL b o e) hb (neC b o e hx) e1 (I.base.free b o e n hx)
  exact ⟨sl',e2⟩
 ·obtain ⟨o',e1⟩:=I.base.there b o e hx
  exact free b o' (neC b o e hx) e1 (I.base.free b o e n hx)
 ·obtain ⟨o',e1⟩:=I.base.there b o e hx
  exact there b o' (neC b o e hx) e1
 ·obtain ⟨m1,e1⟩:=I.base.tbls b ps e
  obtain ⟨m2,e2⟩:=tbls b _ e1
  exact ⟨m1++m2,by rw [e2,Array.append_assoc]⟩
 ·obtain ⟨m,hn,hl⟩:=I.loc
  refine ⟨m,ns m hn,λi x v e1 e2 e3=>?_⟩
  obtain ⟨u,r,l⟩:=hl i x v e1 e2 e3
  refine ⟨u,r,?_⟩
  rcases l with l|⟨k,c,e,z⟩
  ·exact .inl l
  ·exact .inr ⟨k,c,e,cellK x c e _ z⟩
 ·obtain ⟨v,z⟩:=I.cell x c e
  exact ⟨v,cellK x c e v z⟩
 ·obtain ⟨m,⟨o,_,_,ho,_⟩,_⟩:=I.loc
  exact free _ o (λz=>(hch _ z).2.1 rfl) ho I.free
 ·obtain ⟨v,o,ho,hd⟩:=I.cell x c e
  exact free c o (λz=>(hch c z).2.2.1 x c e rfl) ho (I.freeC x c e)
 ·obtain ⟨e,n,ne,nf,d⟩:=I.pin p hp
  have nch:p.1∉ch:=λz=>(hch p.1 z).2.2.2 p hp rfl
  exact ⟨keep p.1 p.2 ne nf nch e n,free p.1 p.2 nch e n,ne,nf,d⟩
theorem Inv.un {t':Nat}(I:Inv X pins σ H s)(u:Un X.fs [] H H' s.heap h')(hok:HOk X.prog X.w H' h'):Inv X pins σ H' { s with heap:=h',toks:=t' }:=by
 obtain ⟨m,⟨o,es,ep,ho,r⟩,_⟩:=id I.loc
 obtain ⟨sl,hL⟩:=u.any ho I.free (by simp)
 exact I.step (g':=s.gens) (d':=s.drawn) (ch:=[]) (λ_ z=>nomatch z) (λb o _ hb _ e n=>u.keep b o e n hb (by simp)) (λb o _ hb _ e n=>u.slot b o e n hb (by simp)) (λb o _ e n=>u.free b o e n (by simp)) (λb o _ e=>u.there b o e (by simp)) u.tups u.frzs u.tbls (λm' hm=>by
  obtain ⟨o',es',ep',ho',r'⟩:=hm
  rw [ho] at ho';cases ho'
  exact ⟨_,es',ep',hL,r'⟩) hok I.bare
theorem Inv.call {g':Array GenState}{t':Nat}{d':Drawn}{ch:List Addr}(I:Inv X pins σ H s)(u:Un (frs X.stack) ch H H' s.heap h')(hok:HOk X.prog X.w H' h')(hg:AllBare g')
  (hch:∀b∈ch,(b∈X.ex∨X.s₀.heap.objs.size≤b)∧b≠X.env.locals∧(∀x c,X.env.cells.lookup x=some c→c≠b)∧∀p∈X.pn++pins,p.1≠b) :
  Inv X pins σ H' { s with heap:=h',gens:=g',drawn:=d',toks:=t' }:=by
 obtain ⟨m,⟨o,es,ep,ho,r⟩,_⟩:=id I.loc
 obtain ⟨sl,hL⟩:=u.any ho I.free λz=>(hch _ z).2.1 rfl
 exact I.step (ch:=ch) hch (λb o hL hb hc e n=>u.keep b o e n (λz=>(ay.mp (I.stkSub b z)).elim hL hb) hc) (λb o _ _ hc e n=>u.any e n hc) (λb o hc e n=>u.free b o e n hc) (λb o hc e=>u.there b o e hc) u.tups u.frzs u.tbls (λm' hm=>by
  obtain ⟨o',es',ep',ho',r'⟩:=hm
  rw [ho] at ho';cases ho'
  exact ⟨_,es',ep',hL,r'⟩) hok hg
theorem Inv.turned {t':Nat}{it:Addr}(I:Inv X pins σ H s)(k:∀b o,b≠it→s.heap.get? b=some o→h'.get? b=some o)(hn:H it=none)(hL:it≠X.env.locals)
  (h1:it∈X.ex∨X.s₀.heap.objs.size≤it) (h2:∀x c,X.env.cells.lookup x=some c→c≠it) (h3:∀p∈X.pn++pins,p.1≠it):Inv X pins σ H { s with heap:=h',toks:=t' }:=by
 have nit:∀b u,H b=some u→b≠it:=λb u e z=>by rw [z,hn] at e;cases e
 refine I.step (g':=s.gens) (d':=s.drawn) (ch:=[it]) (λb hb=>?_) (λb o _ _ hc e _=>k b o (λz=>hc (by simp [z])) e) (λb o _ _ hc e _=>⟨o.slots,k b o (λz=>hc (by simp [z])) e⟩) (λ_ _ _ _ n=>n)
  (λb o hc e=>⟨o,k b o (λz=>hc (by simp [z])) e⟩) (λ_ _ e=>e) (λ_ _ _ e=>e) (λb ps e=>⟨#[],by rw [e];simp⟩) (λm hm=>?_) (λb u e=>?_) I.bare
 ·have e:b=it:=by simpa using hb
  subst e
  exact ⟨h1,hL,h2,h3⟩
 ·obtain ⟨o,es,ep,ho,r⟩:=hm
  exact ⟨o,es,ep,k _ o (dt hL) ho,r⟩
 ·refine (I.hok b u e).stay (λc v hc q=>k c v ?_ q) (λ_ q=>q) λ_ _ q=>q
  rcases hc with z|z
  ·rw [z];exact nit b u e
  ·exact nit c _ z
theorem Inv.tok (I:Inv X pins σ H s)(t:Nat):Inv X pins σ H { s with toks:=t }:=I.un (h':=s.heap) (t':=t) Un.refl I.hok
theorem Inv.kept {t':Nat}(I:Inv X pins σ H s)(k:∀b u,s.heap.get? b=some u→h'.get? b=some u):Inv X pins σ H { s with heap:=h',toks:=t' }:=I.un (Un.kept k) (I.hok.kept k)
theorem Inv.laid {a:Addr}{o:HO}{t':Nat}(I:Inv X pins σ H s)(k:∀b u,s.heap.get? b=some u→h'.get? b=some u)(hp:s.heap.objs.size≤a)(new:ObjOk X.prog X.w (upd H a o) h' a o) :
  Inv X pins σ (upd H a o) { s with heap:=h',toks:=t' }:=I.un (Un.laid k hp (I.hok.fresh hp)) (I.hok.laid k hp new)
theorem Inv.write {x e:Addr}{o:HO}{t':Nat}(I:Inv X pins σ H s)(mu:Mut (H x))(he:e=x∨H e=some (.own x))(k:∀b u,b≠e→s.heap.get? b=some u→h'.get? b=some u)(heo:∃u,h'.get? e=some u)
  (new:ObjOk X.prog X.w (upd H x o) h' x o):Inv X pins σ (upd H x o) { s with heap:=h',toks:=t' }:=I.un (Un.write mu he k heo) (I.hok.write mu he k heo new)
theorem Inv.weak {σ':List (Option V)}(I:Inv X pins σ H s)(hl:σ'.length=σ.length)(w:∀(i:Nat) v,σ'[i]?=some (some v)→σ[i]?=some (some v)):Inv X pins σ' H s :=
 ⟨I.ok,I.os,I.bare,I.base,let ⟨m,hn,hl'⟩:=I.loc;⟨m,hn,λi x v e1 e2 e3=>hl' i x v e1 (w i v e2) e3⟩,I.cell,I.free,I.freeC,I.pin,I.hok,hl.trans I.len⟩
theorem Inv.pins_of {pins':List (Addr×Obj)}(I:Inv X pins σ H s)(h:∀p∈pins',s.heap.get? p.1=some p.2∧H p.1=none∧p.1≠X.env.locals∧p.1∉X.fs∧∀v,p.2.data≠.cell v):Inv X pins' σ H s :=
 ⟨I.ok,I.os,I.bare,I.base,I.loc,I.cell,I.free,I.freeC,λp hp=>(aP.mp hp).elim (λz=>I.pin p (bN _ z)) (h p),I.hok,I.len⟩
theorem qy2 {N:List Str}(hN:N.Nodup){i j:Nat}{x:Str}(a:N[i]?=some x)(b:N[j]?=some x):i=j:=by
 obtain ⟨h1,e1⟩:=ag.mp a
 obtain ⟨h2,e2⟩:=ag.mp b
 exact (List.getElem_inj hN).mp (e1.trans e2.symm)
theorem wky {M:Model}{A:Around}{E:Value→Ab→Prop}{i:Nat}{x:Str}{v:V}{u:Value}{Q:Unit→Ab→Prop}(I:Inv X pins σ H s)(hN:X.N.Nodup)(hi:X.N[i]?=some x)(hx:Loc X.env.scope x)(r:RelV v u)
  (h:∀s',Inv X pins (σ.set i (some v)) H s'→(∃a,Heap.SameBut a s.heap s'.heap∧(a=X.env.locals∨X.env.cells.lookup x=some a))→Q () s') (hf:X.fn x=true∨X.env.scope.names.lookup x=some .local:=by first | exact .inl rfl | exact .inr rfl | assumption):wpAny M A (storeName X.env x u) Q E s:=by
 obtain ⟨m,hn,hl⟩:=id I.loc
 have hcls:(X.env.scope.kind==.class||(X.env.scope.kind==.module&&X.env.locals != X.env.globals))=false:=by rw [I.ok.kind];rfl
 have hiσ:i<σ.length:=by rw [I.len];exact (ag.mp hi).1
 have cne:=I.cne
 have tracked:∀ {a:Addr} {h':Heap},(∃o,s.heap.get? a=some o∧H a=none)→Heap.SameBut a s.heap h'→HOk X.prog X.w H h':=λ{a h'} ha hs b ob e=>by
  obtain ⟨_,_,hfree⟩:=ha
  refine (I.hok b ob e).stay (λc w' hc q=>(hs.2 c ?_).trans q) (λ_ q=>q) λ_ _ q=>q
  rintro rfl
  rcases hc with rfl|hc
  ·rw [hfree] at e;cases e
  ·rw [hfree] at hc;cases hc
 rcases hx with hk|hk
 ·refine wpAny_storeName_local hk hn (λh' hn' hs=>?_) hcls
  obtain ⟨oL,_,_,hoL,_⟩:=id hn
  refine h _ ⟨I.ok,I.os,I.bare,⟨λb o e n hb hx=>?_,λb o e n hb hx=>?_,I.base.free,λb o e hx=>?_,I.base.tups,I.base.frzs,I.base.tbls⟩,⟨_,hn',λj y v' e1 e2 e3=>?_⟩,λy c e=>?_,I.free,I.freeC,λp hp=>?_,tracked ⟨oL,hoL,I.free⟩ hs,by simpa using I.len⟩ ⟨_,hs,.inl rfl⟩
  ·exact (hs.2 b (ar (aD (af e) I.ok.above))).trans (I.base.keep b o e n hb hx)
  ·obtain ⟨sl,e1⟩:=I.base.slot b o e n hb hx
   exact ⟨sl,(hs.2 b (ar (aD (af e) I.ok.above))).trans e1⟩
  ·obtain ⟨o',e1⟩:=I.base.there b o e hx
   exact ⟨o',(hs.2 b (ar (aD (af e) I.ok.above))).trans e1⟩
  ·by_cases hj:j=i
   ·subst hj
    rw [hi] at e1;cases e1
    rw [List.getElem?_set_self hiσ] at e2
    cases e2
    exact ⟨u,r,.inl ⟨hk,by simp⟩⟩
   ·rw [List.getElem?_set_ne (dt hj)] at e2
    obtain ⟨u',r',q⟩:=hl j y v' e1 e2 e3
    refine ⟨u',r',?_⟩
    rcases q with ⟨k,e⟩|⟨k,c,e,z⟩
    ·refine .inl ⟨k,?_⟩
     have:y≠x:=λe=>hj (qy2 hN e1 (e▸hi))
     simp [this,e]
    ·exact .inr ⟨k,c,e,z.sameBut hs (cne y c e)⟩
  ·obtain ⟨w',z⟩:=I.cell y c e
   exact ⟨w',z.sameBut hs (cne y c e)⟩
  ·obtain ⟨e,n,ne,nf,d⟩:=I.pin p hp
   exact ⟨(hs.2 p.1 ne).trans e,n,ne,nf,d⟩
 ·have hfn:X.fn x=true:=by
   rcases hf with z|z
   ·exact z
   ·rw [z] at hk;cases hk
  obtain ⟨c,hc⟩:=I.ok.has x (.inl hk)
  obtain ⟨w',z⟩:=I.cell x c hc
  refine wpAny_storeName_cell I.ok.kind hk hc z (λh' hc' hs=>?_)
  obtain ⟨oc,hoc,hocd⟩:=id z
  refine h { s with heap:=h' } ⟨I.ok,I.os,I.bare,⟨λb o e n hb hx=>?_,λb o e n hb hx=>?_,I.base.free,λb o e hx=>?_,I.base.tups,I.base.frzs,I.base.tbls⟩,⟨m,hn.sameBut hs (dt (cne x c hc)),λj y v' e1 e2 e3=>?_⟩,λy c' e=>?_,I.free,I.freeC,λp hp=>?_,tracked ⟨oc,hoc,I.freeC x c hc⟩ hs,by simpa using I.len⟩ ⟨c,hs,.inr hc⟩
  ·exact (hs.2 b (ar (aD (af e) (I.ok.cab x c hfn hc)))).trans (I.base.keep b o e n hb hx)
  ·obtain ⟨sl,e1⟩:=I.base.slot b o e n hb hx
   exact ⟨sl,(hs.2 b (ar (aD (af e) (I.ok.cab x c hfn hc)))).trans e1⟩
  ·obtain ⟨o',e1⟩:=I.base.there b o e hx
   exact ⟨o',(hs.2 b (ar (aD (af e) (I.ok.cab x c hfn hc)))).trans e1⟩
  ·by_cases hj:j=i
   ·subst hj
    rw [hi] at e1;cases e1
    rw [List.getElem?_set_self hiσ] at e2
    cases e2
    exact ⟨u,r,.inr ⟨.inl hk,c,hc,hc'⟩⟩
   ·rw [List.getElem?_set_ne (dt hj)] at e2
    obtain ⟨u',r',q⟩:=hl j y v' e1 e2 e3
    refine ⟨u',r',?_⟩
    rcases q with q|⟨k,c',e,z'⟩
    ·exact .inl q
    ·refine .inr ⟨k,c',e,z'.sameBut hs ?_⟩
     rintro rfl
     exact hj (qy2 hN e1 (I.ok.inj _ _ _ e hc▸hi))
  ·by_cases hcc:c'=c
   ·subst hcc;exact ⟨_,hc'⟩
   ·obtain ⟨w2,z2⟩:=I.cell y c' e
    exact ⟨w2,z2.sameBut hs hcc⟩
  ·obtain ⟨e,n,ne,nf,d⟩:=I.pin p hp
   refine ⟨(hs.2 p.1 ?_).trans e,n,ne,nf,d⟩
   intro q
   rw [q,hoc] at e
   have q':oc=p.2:=aj e
   exact d w' (by rw [←q'];exact hocd)
theorem kg {M:Model}{A:Around}{E:Value→Ab→Prop}{i:Nat}{x:Str}{v:V}{u:Value}{Q:Unit→Ab→Prop}(I:Inv X pins σ H s)(hN:X.N.Nodup)(hi:X.N[i]?=some x)(hx:Loc X.env.scope x)(r:RelV v u)
  (h:∀s',Inv X pins (σ.set i (some v)) H s'→Q () s') (hf:X.fn x=true∨X.env.scope.names.lookup x=some .local:=by first | exact .inl rfl | exact .inr rfl | assumption):wpAny M A (storeName X.env x u) Q E s :=
 wky I hN hi hx r (λs' I' _=>h s' I') hf
theorem Inv.call' {s':Ab}{ch:List Addr}(I:Inv X pins σ H s)(ho:s'.os=s.os)(u:Un (frs X.stack) ch H H' s.heap s'.heap)(hok:HOk X.prog X.w H' s'.heap)(hg:AllBare s'.gens)
  (hch:∀b∈ch,(b∈X.ex∨X.s₀.heap.objs.size≤b)∧b≠X.env.locals∧(∀x c,X.env.cells.lookup x=some c→c≠b)∧∀p∈X.pn++pins,p.1≠b):Inv X pins σ H' s':=by
 obtain ⟨h',g',d',t',o'⟩:=s'
 have e:o'=s.os:=ho
 subst e
 exact I.call (g':=g') (t':=t') (d':=d') u hok hg hch
end
abbrev XK:=Value→Option Addr→Hp→Prop
abbrev St:=List (Option V)
abbrev VK:=V→Hp→Prop
abbrev TE:=St→Hp→VK→Prop
abbrev TT:=St→Hp→(Bool→Hp→Prop)→Prop
abbrev TA:=St→Hp→(List V→Hp→Prop)→Prop
structure Ends where
 nx:St→Hp→Prop
 rt:VK
 bk:St→Hp→Prop:=λ_ _=>False
 ct:St→Hp→Prop:=λ_ _=>False
abbrev TS:=Ends→St→Hp→Prop
def EP (X:Cx)(pins:List (Addr×Obj))(σ:St)(Q:VK)(u:Value)(s':Ab):Prop:=∃v H',Inv X pins σ H' s'∧RelV v u∧Q v H'
def TP (X:Cx)(pins:List (Addr×Obj))(σ:St)(Q:Bool→Hp→Prop)(b:Bool)(s':Ab):Prop:=∃H',Inv X pins σ H' s'∧Q b H'
def AP (X:Cx)(pins:List (Addr×Obj))(σ:St)(Q:List V→Hp→Prop)(us:List Value)(s':Ab):Prop:=∃vs H',Inv X pins σ H' s'∧Vals vs us∧Q vs H'
def SP (X:Cx)(pins:List (Addr×Obj))(D:Ends)(f:Flow)(s':Ab):Prop :=
 match f with
 |.next=>∃σ' H',Inv X pins σ' H' s'∧D.nx σ' H'
 |.brk=>∃σ' H',Inv X pins σ' H' s'∧D.bk σ' H'
 |.cont=>∃σ' H',Inv X pins σ' H' s'∧D.ct σ' H'
 |.ret u=>∃v σ' H',Inv X pins σ' H' s'∧RelV v u∧D.rt v H'
def PE (X:Cx)(e:Expr)(t:TE):Prop :=
 ∀(pins:List (Addr×Obj)) (s:Ab) (σ:St) (H:Hp) (Q:VK),Inv X pins σ H s→t σ H Q→wpAny (model X.prog X.w) X.A (eval e X.env) (EP X pins σ Q) X.xe s
def PT (X:Cx)(e:Expr)(t:TT):Prop :=
 ∀(pins:List (Addr×Obj)) (s:Ab) (σ:St) (H:Hp) (Q:Bool→Hp→Prop),Inv X pins σ H s→t σ H Q→wpAny (model X.prog X.w) X.A (isTrue e X.env (eval e X.env)) (TP X pins σ Q) X.xe s
def PW (X:Cx)(e:Expr)(t:TT):Prop :=
 ∀(whole:Sem Value) (pins:List (Addr×Obj)) (s:Ab) (σ:St) (H:Hp) (Q:Bool→Hp→Prop),Inv X pins σ H s→t σ H Q→wpAny (model X.prog X.w) X.A (isTrue e X.env whole) (TP X pins σ Q) X.xe s
theorem PW.pt {X:Cx}{e:Expr}{t:TT}(h:PW X e t):PT X e t:=h _
def PA (X:Cx)(es:List Expr)(t:TA):Prop :=
 ∀(pos:Pos) (pins:List (Addr×Obj)) (s:Ab) (σ:St) (H:Hp) (Q:List V→Hp→Prop),Inv X pins σ H s→t σ H Q→wpAny (model X.prog X.w) X.A (spliced (backTo pos (starEach es X.env))) (AP X pins σ Q) X.xe s
def PS (X:Cx)(st:Stmt)(t:TS):Prop :=
 ∀(pins:List (Addr×Obj)) (s:Ab) (σ:St) (H:Hp) (D:Ends),Inv X pins σ H s→t D σ H→wpAny (model X.prog X.w) X.A (exec st X.env) (SP X pins D) X.xe s
def PSs (X:Cx)(st:List Stmt)(t:TS):Prop :=
 ∀(pins:List (Addr×Obj)) (s:Ab) (σ:St) (H:Hp) (D:Ends),Inv X pins σ H s→t D σ H→wpAny (model X.prog X.w) X.A (execs st X.env) (SP X pins D) X.xe s
theorem thn {α:Type}{t:Sem α}{Q Q':α→Ab→Prop}{M:Model}{A:Around}{E:Value→Ab→Prop}{s:Ab}(h:wpAny M A t Q E s)(hQ:∀a s,Q a s→Q' a s):wpAny M A t Q' E s:=aS h hQ λ_ _ x=>x
section
variable {X:Cx}
def kv (i:Nat):TE:=λσ H Q=>∃v,σ[i]?=some (some v)∧Q v H
def tC (v:V):TE:=λ_ H Q=>Q v H
theorem pe_var {i:Nat}{x:Str}{pos:Pos}(hN:X.N[i]?=some x)(hv:Vis X.env.scope x)(hd:(x==("__debug__" : Str))=false:=by decide)(hcd:(x==("__classdict__" : Str))=false:=by decide):PE X (.Name x pos) (kv i):=by
 intro pins s σ H Q I h
 obtain ⟨v,e,h⟩:=h
 obtain ⟨m,hn,hl⟩:=I.loc
 obtain ⟨u,r,l⟩:=hl i x v hN e hv
 have fin:EP X pins σ Q u s:=⟨v,H,I,r,h⟩
 rcases l with ⟨hk,hm⟩|⟨hk,c,hc,hcell⟩
 ·exact wpAny_Name (wpAny_loadName_local I.ok.kind hk hn hm fin) hd
 ·rcases hk with hk|hk
  ·exact wpAny_Name (wpAny_loadName_cell I.ok.kind hk hc hcell fin) hd
  ·exact wpAny_Name (wpAny_loadName_free I.ok.kind hk hc hcell fin hcd) hd
theorem qu {i j pos}:PE X (.Constant (.int i) j pos) (tC (.int i)):=λ_ _ _ H _ I h=>wpAny_Constant_int ⟨.int i,H,I.tok _,⟨_,rfl⟩,h⟩
theorem Jy {b j pos}:PE X (.Constant (.bool b) j pos) (tC (.bl b)):=λ_ _ _ H _ I h=>Constant_bool ⟨.bl b,H,I,rfl,h⟩
theorem qwu {j pos}:PE X (.Constant .none j pos) (tC .non):=λ_ _ _ H _ I h=>Constant_none ⟨.non,H,I,rfl,h⟩
theorem u9 {x j pos}:PE X (.Constant (.str x) j pos) (tC (.str x)):=λ_ _ _ H _ I h=>Calls.Constant_str ⟨.str x,H,I.tok _,⟨_,rfl⟩,h⟩
def Gl (X:Cx)(x:Str):Prop:=X.env.kindOf x=some .globalImplicit
theorem qqr {E:Value→Ab→Prop}{pins:List (Addr×Obj)}{s:Ab}{σ:St}{H:Hp}{x:Str}{u:Value}{pos:Pos}{Q:Value→Ab→Prop}(I:Inv X pins σ H s)(hg:Gl X x)(hm:X.mg x=some u)(h:Q u s)
  (hd:(x==("__debug__" : Str))=false:=by decide):wpAny (model X.prog X.w) X.A (eval (.Name x pos) X.env) Q E s :=
 Calls.Name_function_global I.ok.kind hg (Calls.loadGlobal_global (by rw [I.ok.glob];exact I.mod.glob.keeps I.bk) hm h) hd
theorem jf {E:Value→Ab→Prop}{pins:List (Addr×Obj)}{s:Ab}{σ:St}{H:Hp}{x:Str}{u:Value}{pos:Pos}{Q:Value→Ab→Prop}(I:Inv X pins σ H s)(hg:Gl X x)(hm:X.mg x=none)(hv:bootBuiltins x=some u)(h:Q u s)
  (hn:x ≠ "__name__" := by decide) (hd:(x==("__debug__" : Str))=false:=by decide):wpAny (model X.prog X.w) X.A (eval (.Name x pos) X.env) Q E s:=by
 obtain ⟨mb,h1,h2⟩:=I.mod.blt
 exact Calls.Name_function_global I.ok.kind hg (Calls.loadGlobal_builtin (by rw [I.ok.glob];exact I.mod.glob.keeps I.bk) hm (by rw [I.ok.blt];exact h1.keeps I.bk) ((h2 x hn).trans hv) h) hd
theorem Zw {x:Str}{v:V}{u:Value}{pos:Pos}(hg:Gl X x)(hm:X.mg x=some u)(r:RelV v u)(hd:(x==("__debug__" : Str))=false:=by decide):PE X (.Name x pos) (tC v) :=
 λ_ _ _ H _ I h=>qqr I hg hm ⟨v,H,I,r,h⟩ hd
theorem Qp {x:Str}{v:V}{u:Value}{pos:Pos}(hg:Gl X x)(hm:X.mg x=none)(hv:bootBuiltins x=some u)(r:RelV v u)(hn:x ≠ "__name__" := by decide)(hd:(x==("__debug__" : Str))=false:=by decide):PE X (.Name x pos) (tC v) :=
 λ_ _ _ H _ I h=>jf I hg hm hv ⟨v,H,I,r,h⟩ hn hd
variable {a b:Expr}{ta tb:TE}{pos:Pos}
def tB (t:TE):TT:=λσ H Q=>t σ H λx H1=>∃c,x=.bl c∧Q c H1
theorem uc {e:Expr}{t:TE}(h:PE X e t)(he:∀whole,isTrue e X.env whole=(do let v ←whole;standAt e.pos;holding [v] (truthy v)):=by intro _;rfl):PT X e (tB t):=by
 intro pins s σ H Q I hw
 refine isTrue_plain (thn (h pins s σ H _ I hw) λv s1 ⟨x,H1,I1,r1,q1⟩=>?_) (he _)
 obtain ⟨d,rfl,q⟩:=q1
 cases r1
 exact cT ⟨H1,I1,q⟩
variable {tA tB':TT}{rest:List Expr}
def tAnd (t u:TT):TT:=λσ H Q=>t σ H λc H1=>if c=true then u σ H1 Q else Q false H1
def tOr (t u:TT):TT:=λσ H Q=>t σ H λc H1=>if c=true then Q true H1 else u σ H1 Q
def tNot (t:TT):TT:=λσ H Q=>t σ H λc H1=>Q (!c) H1
theorem wx8 (ha:PT X a tA):PW X (.BoolOp .And [a] pos) tA:=by
 intro wh pins s σ H Q I h
 refine isTrue_and (thn (ha pins s σ H Q I h) λc s1 e=>?_)
 cases c with
 |true=>exact isTrue_and_nil e
 |false=>exact e
theorem jw (ha:PT X a tA):PW X (.BoolOp .Or [a] pos) tA:=by
 intro wh pins s σ H Q I h
 refine isTrue_or (thn (ha pins s σ H Q I h) λc s1 e=>?_)
 cases c with
 |false=>exact isTrue_or_nil e
 |true=>exact e
theorem xwu (ha:PT X a tA)(hb:PW X (.BoolOp .And (b::rest) pos) tB'):PW X (.BoolOp .And (a::b::rest) pos) (tAnd tA tB'):=by
 intro wh pins s σ H Q I h
 refine isTrue_and (thn (ha pins s σ H _ I h) λc s1 ⟨H1,I1,q1⟩=>?_)
 cases c with
 |true=>exact hb wh pins s1 σ H1 Q I1 q1
 |false=>exact ⟨H1,I1,q1⟩
theorem yw (ha:PT X a tA)(hb:PW X (.BoolOp .Or (b::rest) pos) tB'):PW X (.BoolOp .Or (a::b::rest) pos) (tOr tA tB'):=by
 intro wh pins s σ H Q I h
 refine isTrue_or (thn (ha pins s σ H _ I h) λc s1 ⟨H1,I1,q1⟩=>?_)
 cases c with
 |true=>exact ⟨H1,I1,q1⟩
 |false=>exact hb wh pins s1 σ H1 Q I1 q1
theorem ut (ha:PT X a tA):PT X (.UnaryOp .Not a pos) (tNot tA):=by
 intro pins s σ H Q I h
 exact isTrue_not (ha pins s σ H (λc H1=>Q (!c) H1) I h)
def tAndV (ta tb:TE):TE:=λσ H Q=>ta σ H λx H1=>∃c,x=.bl c∧if c=true then tb σ H1 Q else Q (.bl false) H1
def tNotV (ta:TE):TE:=λσ H Q=>ta σ H λx H1=>∃c,x=.bl c∧Q (.bl (!c)) H1
theorem qwy {op}{t:TE}(h:PE X a t):PE X (.BoolOp op [a] pos) t:=λpins s σ H Q I hw=>BoolOp_one (h pins s σ H Q I hw)
theorem qwn (ha:PE X a ta)(hb:PE X (.BoolOp .And (b::rest) pos) tb):PE X (.BoolOp .And (a::b::rest) pos) (tAndV ta tb):=by
 intro pins s σ H Q I h
 refine BoolOp_and (thn (ha pins s σ H _ I h) λv s1 ⟨x,H1,I1,r1,q1⟩=>?_)
 obtain ⟨c,rfl,q1⟩:=q1
 cases r1
 refine cT ?_
 cases c with
 |true=>exact hb pins s1 σ H1 Q I1 q1
 |false=>exact ⟨.bl false,H1,I1,rfl,q1⟩
theorem pe_not (ha:PE X a ta):PE X (.UnaryOp .Not a pos) (tNotV ta):=by
 intro pins s σ H Q I h
 refine UnaryOp_ (thn (ha pins s σ H _ I h) λv s1 ⟨x,H1,I1,r1,q1⟩=>?_)
 obtain ⟨c,rfl,q1⟩:=q1
 cases r1
 exact not_of (cT ⟨.bl (!c),H1,I1,rfl,q1⟩)
def tIf (t:TT)(ta tb:TE):TE:=λσ H Q=>t σ H λc H1=>if c=true then ta σ H1 Q else tb σ H1 Q
theorem qj3 {c:Expr}(hc:PT X c tA)(ha:PE X a ta)(hb:PE X b tb):PE X (.IfExp c a b pos) (tIf tA ta tb):=by
 intro pins s σ H Q I h
 refine wpAny_IfExp (thn (hc pins s σ H _ I h) λd s1 ⟨H1,I1,q1⟩=>?_)
 cases d with
 |true=>exact ha pins s1 σ H1 Q I1 q1
 |false=>exact hb pins s1 σ H1 Q I1 q1
end
def SqL (K:Aa)(H:Hp)(a:Addr)(xs:List V):Prop :=
 Rd H a (.lst xs) ∨
  ∃(o:Obj) (its:Array Value) (n:Nat),K.lookup a=some o∧o.cls=.type "list" ∧ o.dict=none∧o.data=.seq its n∧its.size≤sizeLine∧Vals xs its.toList
def SqT (K:Aa)(H:Hp)(a:Addr)(xs:List V):Prop :=
 Rd H a (.tup xs) ∨
  ∃(o:Obj) (its:Array Value) (n:Nat),K.lookup a=some o∧o.cls=.type "tuple" ∧ o.data=.seq its n∧its.size≤sizeLine∧Vals xs its.toList
def absV:Value→Option V
 |.none=>some .non
 |.bool b=>some (.bl b)
 |.int i _=>some (.int i)
 |.str x _=>some (.str x)
 |.bytes b _=>some (.byt b)
 |.float b _=>some (.flt b)
 |.ref a=>some (.ref a)
 |.type n=>some (.ty n)
 |_=>none
theorem RelV.abs {x:V}{u:Value}(r:RelV x u):absV u=some x:=by
 cases x with
 |non=>cases r;rfl
 |bl _=>cases r;rfl
 |int _=>obtain ⟨t,rfl⟩:=r;rfl
 |str _=>obtain ⟨t,rfl⟩:=r;rfl
 |byt _=>obtain ⟨t,rfl⟩:=r;rfl
 |flt _=>obtain ⟨t,rfl⟩:=r;rfl
 |ref _=>cases r;rfl
 |ty _=>cases r;rfl
theorem RelV.inj {x y:V}{u:Value}(r:RelV x u)(q:RelV y u):x=y:=aj (r.abs.symm.trans q.abs)
theorem Vals.inj:∀ {xs ys:List V} {us:List Value},Vals xs us→Vals ys us→xs=ys
 |_,_,_,.nil,.nil=>rfl
 |_,_,_,.cons r t,.cons r' t'=>by rw [r.inj r',Vals.inj t t']
section
variable {X:Cx}{pins:List (Addr×Obj)}{σ:St}{H:Hp}{s:Ab}{a:Addr}{xs ys:List V}
theorem SqL.of {K:Aa}(h:H a=some (.lst xs)):SqL K H a xs:=.inl (.inl h)
theorem SqT.of {K:Aa}(h:H a=some (.tup xs)):SqT K H a xs:=.inl (.inl h)
theorem Inv.list (I:Inv X pins σ H s)(h:SqL X.K H a xs):∃its:List Value,Vals xs its∧PlainL s.heap a its.toArray∧xs.length≤sizeLine:=by
 rcases h with h|⟨o,its,n,hk,hc,hd,hs,hz,r⟩
 ·obtain ⟨z,its,n,r,e⟩:=h.ok I.hok
  exact ⟨its,r,⟨_,n,e,rfl,rfl,rfl⟩,z⟩
 ·refine ⟨its.toList,r,⟨o,n,I.kIn a o hk,hc,hd,by simpa using hs⟩,?_⟩
  have e:=r.length
  simp only [aJ] at e
  omega
theorem Inv.tuple (I:Inv X pins σ H s)(h:SqT X.K H a xs):∃its:List Value,Vals xs its∧IsTup s.heap a its.toArray∧xs.length≤sizeLine:=by
 rcases h with h|⟨o,its,n,hk,hc,hs,hz,r⟩
 ·obtain ⟨z,its,r,p⟩:=h.ok I.hok
  exact ⟨its,r,p,z⟩
 ·refine ⟨its.toList,r,⟨o,I.kIn a o hk,hc,n,by simpa using hs⟩,?_⟩
  have e:=r.length
  simp only [aJ] at e
  omega
theorem Inv.list_inj (I:Inv X pins σ H s)(h:SqL X.K H a xs)(h':SqL X.K H a ys):xs=ys:=by
 obtain ⟨its,r,⟨o,n,e,_,_,d⟩,_⟩:=I.list h
 obtain ⟨its',r',⟨o',n',e',_,_,d'⟩,_⟩:=I.list h'
 rw [e] at e';cases e'
 rw [d] at d'
 injection d' with d1 _
 have:its=its':=by simpa using bX Array.toList d1
 subst this
 exact r.inj r'
theorem Inv.tuple_inj (I:Inv X pins σ H s)(h:SqT X.K H a xs)(h':SqT X.K H a ys):xs=ys:=by
 obtain ⟨its,r,⟨o,e,_,n,d⟩,_⟩:=I.tuple h
 obtain ⟨its',r',⟨o',e',_,n',d'⟩,_⟩:=I.tuple h'
 rw [e] at e';cases e'
 rw [d] at d'
 injection d' with d1 _
 have:its=its':=by simpa using bX Array.toList d1
 subst this
 exact r.inj r'
end
abbrev Cx.wish (X:Cx)(E:Value→Ab→Prop):Cx:={ X with xe:=E }
section
variable {X:Cx}{pins:List (Addr×Obj)}{σ:St}{H:Hp}{s:Ab}{E:Value→Ab→Prop}
end
section
variable {X:Cx}{st:Stmt}{rest:List Stmt}{t u:TS}{e:Expr}{te:TE}{pos:Pos}
def tNext:TS:=λD σ H=>D.nx σ H
def tSeq (t u:TS):TS:=λD σ H=>t { D with nx:=u D } σ H
theorem xy:PSs X [] tNext:=λ_ _ σ H _ I h=>fV ⟨σ,H,I,h⟩
theorem qj (h1:PS X st t)(h2:PSs X rest u):PSs X (st::rest) (tSeq t u):=by
 intro pins s σ H D I h
 refine wpAny_execs_cons (thn (h1 pins s σ H { D with nx:=u D } I h) λf s1 q=>?_)
 cases f with
 |next =>
  obtain ⟨σ',H',I',q⟩:=q
  exact h2 pins s1 σ' H' D I' q
 |ret v=>exact q
 |brk=>exact q
 |cont=>exact q
theorem qf (h1:PS X st t):PSs X [st] t:=by
 intro pins s σ H D I h
 refine wpAny_execs_cons (thn (h1 pins s σ H D I h) λf s1 q=>?_)
 cases f with
 |next=>exact fV q
 |ret v=>exact q
 |brk=>exact q
 |cont=>exact q
theorem Inv.quiet {pins:List (Addr×Obj)}{σ:St}{H:Hp}{s:Ab}(I:Inv X pins σ H s):interactive X.env=false:=by simp [interactive,I.ok.kind]
def tDrop (te:TE):TS:=λD σ H=>te σ H λ_ H1=>D.nx σ H1
theorem zm (he:PE X e te)(hs:swapsWith e none pos.line X.env=pure false:=by rfl):PS X (.Expr e pos) (tDrop te):=by
 intro pins s σ H D I h
 exact wpAny_Expr_any (thn (he pins s σ H _ I h) λv s1 ⟨x,H1,I1,r1,q1⟩=>⟨σ,H1,I1,q1⟩) I.quiet hs
def tRet (te:TE):TS:=λD σ H=>te σ H D.rt
theorem wu (he:PE X e te):PS X (.Return (some e) pos) (tRet te):=by
 intro pins s σ H D I h
 exact wpAny_Return_some (thn (he pins s σ H _ I h) λv s1 ⟨x,H1,I1,r1,q1⟩=>⟨x,σ,H1,I1,r1,q1⟩)
def tIfS (c:TT)(t u:TS):TS:=λD σ H=>c σ H λb H1=>if b=true then t D σ H1 else u D σ H1
theorem zy {c:Expr}{a b:List Stmt}{tc:TT}(hc:PT X c tc)(ha:PSs X a t)(hb:PSs X b u):PS X (.If c a b pos) (tIfS tc t u):=by
 intro pins s σ H D I h
 refine wpAny_If (thn (hc pins s σ H _ I h) λd s1 ⟨H1,I1,q1⟩=>?_)
 cases d with
 |true=>exact ha pins s1 σ H1 D I1 q1
 |false=>exact hb pins s1 σ H1 D I1 q1
end
abbrev TG:=V→St→Hp→(St→Hp→Prop)→Prop
abbrev TGs:=List V→St→Hp→(St→Hp→Prop)→Prop
def PG (X:Cx)(target:Expr)(t:TG):Prop :=
 ∀(pins:List (Addr×Obj)) (s:Ab) (σ:St) (H:Hp) (v:V) (u:Value) (Q:St→Hp→Prop),Inv X pins σ H s→RelV v u→t v σ H Q →
  wpAny (model X.prog X.w) X.A (assign target X.env u) (λ_ s'=>∃σ' H',Inv X pins σ' H' s'∧Q σ' H') X.xe s
def PGs (X:Cx)(ts:List Expr)(t:TGs):Prop :=
 ∀(pins:List (Addr×Obj)) (s:Ab) (σ:St) (H:Hp) (vs:List V) (us:List Value) (Q:St→Hp→Prop),Inv X pins σ H s→Vals vs us→t vs σ H Q →
  wpAny (model X.prog X.w) X.A (assignInOrder ((assignEach ts X.env).map (·.2)) us) (λ_ s'=>∃σ' H',Inv X pins σ' H' s'∧Q σ' H') X.xe s
abbrev TIp:=V→V→Hp→VK→Prop
def PIp (X:Cx)(op:Operator)(t:TIp):Prop :=
 ∀(pins:List (Addr×Obj)) (s:Ab) (σ:St) (H:Hp) (x y:V) (v u:Value) (Q:VK),Inv X pins σ H s→RelV x v→RelV y u→t x y H Q →
  wpAny (model X.prog X.w) X.A (inplaceOp op v u) (EP X pins σ Q) X.xe s
section
variable {X:Cx}{pos:Pos}
def Q3 (i:Nat):TG:=λv σ H Q=>Q (σ.set i (some v)) H
theorem wn {i:Nat}{x:Str}(hN:X.N.Nodup)(hi:X.N[i]?=some x)(hx:Loc X.env.scope x)(hf:X.fn x=true∨X.env.scope.names.lookup x=some .local:=by first | exact .inl rfl | exact .inr rfl | assumption):PG X (.Name x pos) (Q3 i):=by
 intro pins s σ H v u Q I r h
 exact eX (kg I hN hi hx r (λs' I'=>⟨_,H,I',h⟩) hf)
def gNil:TGs:=λvs σ H Q=>vs=[]∧Q σ H
def xqy (t:TG)(u:TGs):TGs:=λvs σ H Q=>∃v r,vs=v::r∧t v σ H λσ' H'=>u r σ' H' Q
theorem vf:PGs X [] gNil:=by
 intro pins s σ H vs us Q I r h
 obtain ⟨e,h⟩:=h
 subst e
 cases r
 exact assignInOrder_nil ⟨σ,H,I,h⟩
theorem xv {e:Expr}{es:List Expr}{t:TG}{u:TGs}(h1:PG X e t)(h2:PGs X es u)
  (hs:(assignEach (e::es) X.env).map (·.2)=assign e X.env::(assignEach es X.env).map (·.2):=by rfl):PGs X (e::es) (xqy t u):=by
 intro pins s σ H vs us Q I r h
 obtain ⟨v,vr,e1,h⟩:=h
 subst e1
 cases r with
 |cons r rr =>
  rw [hs]
  refine gn (thn (h1 pins s σ H _ _ _ I r h) λ_ s1 ⟨σ1,H1,I1,q1⟩=>?_)
  exact h2 pins s1 σ1 H1 _ _ Q I1 rr q1
def gTup (K:Aa)(n:Nat)(t:TGs):TG:=λv σ H Q=>∃a xs,v=.ref a∧SqT K H a xs∧xs.length=n∧t xs σ H Q
theorem jb {es:List Expr}{k:Nat}{t:TGs}{n:Nat}(hc:X.calm=true)(h:PGs X es t)
  (hn:(assignEach es X.env).length=n:=by rfl) (hst:(assignEach es X.env).findIdx? (·.1)=none:=by rfl):PG X (.Tuple es k pos) (gTup X.K n t):=by
 intro pins s σ H v u Q I r hw
 obtain ⟨a,xs,e1,hq,hl,hw⟩:=hw
 subst e1
 cases r
 obtain ⟨its,rv,ht,hz⟩:=I.tuple hq
 refine assign_Tuple_tuple (I.ok.hd hc) ht (by simp [hn,←hl,rv.length]) hst λh' hx=>?_
 have I1:Inv X pins σ H { s with heap:=h' }:=I.kept (t':=s.toks) λb o e=>hx b o (ar (af e)) e
 exact h pins _ σ H xs _ Q I1 (by simpa using rv) hw
def tAsg (te:TE)(g:TG):TS:=λD σ H=>te σ H λx H1=>g x σ H1 D.nx
theorem ym {tg e:Expr}{te:TE}{g:TG}(he:PE X e te)(hg:PG X tg g)(hs:swapsWithSole [tg] e pos.line X.env=pure false:=by rfl)(hw:swappedStores [tg] e X.env=pure none:=by rfl)
  (h1:(assignEach [tg] X.env).map (·.2)=[assign tg X.env]:=by rfl):PS X (.Assign [tg] e pos) (tAsg te g):=by
 intro pins s σ H D I h
 refine wpAny_Assign_stores (thn (he pins s σ H _ I h) λv s1 ⟨x,H1,I1,r1,q1⟩=>?_) hs hw
 rw [h1]
 exact thn (hg pins s1 σ H1 x v _ I1 r1 q1) λ_ s2 q=>q
theorem wg {i:Nat}{x:Str}{e:Expr}{te:TE}{pos':Pos}(hN:X.N.Nodup)(hi:X.N[i]?=some x)(hx:Loc X.env.scope x)(he:PE X e te)(hs:swapsWith e (some (.Name x pos')) pos.line X.env=pure false:=by rfl)(hf:X.fn x=true∨X.env.scope.names.lookup x=some .local:=by first | exact .inl rfl | exact .inr rfl | assumption) :
  PS X (.Assign [.Name x pos'] e pos) (tAsg te (Q3 i)):=by
 intro pins s σ H D I h
 refine wpAny_Assign_Name (thn (he pins s σ H _ I h) λv s1 ⟨y,H1,I1,r1,q1⟩=>?_) hs
 exact kg I1 hN hi hx r1 (λs2 I2=>⟨_,H1,I2,q1⟩) hf
def tPar (i j:Nat)(ta:TA):TS:=λD σ H=>ta σ H λvs H1=>∃v w,vs=[v,w]∧D.nx ((σ.set i (some v)).set j (some w)) H1
theorem wuu {i j:Nat}{x y:Str}{a b:Expr}{ta:TA}{px py pt:Pos}{kt k2 pt2}(hc:X.calm=true)(hN:X.N.Nodup)(hi:X.N[i]?=some x)(hj:X.N[j]?=some y)(hij:i≠j)
  (hx:X.env.scope.names.lookup x=some .local) (hy:X.env.scope.names.lookup y=some .local) (ha:PA X [a,b] ta)
  (hw:swappedStores [.Tuple [.Name x px,.Name y py] kt pt] (.Tuple [a,b] k2 pt2) X.env=pure (some [x,y]))
  (hs:swapsWithSole [.Tuple [.Name x px,.Name y py] kt pt] (.Tuple [a,b] k2 pt2) pos.line X.env=pure false:=by rfl) :
  PS X (.Assign [.Tuple [.Name x px,.Name y py] kt pt] (.Tuple [a,b] k2 pt2) pos) (tPar i j ta):=by
 intro pins s σ H D I h
 rw [exec_Assign_arm]
 refine wpAny_bind (cy ?_)
 rw [hs]
 refine wpAny_bind (wpAny_pure ?_)
 rw [if_neg (by decide)]
 refine wpAny_bind (Tuple_ (thn (ha _ pins s σ H _ I h) λus s1 ⟨vs,H1,I1,r1,q1⟩=>?_))
 obtain ⟨v,w,e1,q1⟩:=q1
 subst e1
 obtain ⟨u1,u2,rfl,rv,rw'⟩:∃u1 u2,us=[u1,u2]∧RelV v u1∧RelV w u2:=by
  cases r1 with
  |cons p q =>
   cases q with
   |cons p' q' =>
    cases q'
    exact ⟨_,_,rfl,p,p'⟩
 refine bp ?_ (by show 2≤sizeLine;decide)
 have I2:Inv X pins σ H1 { s1 with heap:=s1.heap.push { cls:=.type "tuple",data:=.seq [u1,u2].toArray } }:=I1.kept (t':=s1.toks) λb o e=>Heap.get?_push_of_some _ e
 rw [hw]
 refine wpAny_bind (wpAny_pure ?_)
 show wpAny (model X.prog X.w) X.A (do rule "assign.swapped-stores";let items ←unpackItems (.ref s1.heap.objs.size) 2 none;assignInOrder [λv=>bindName X.env y v,λv=>bindName X.env x v] items.reverse;pure Flow.next) _ _ _
 refine wpAny_bind (bW (wpAny_bind (unpackItems_tuple (items:=#[u1,u2]) (I.ok.hd hc) (IsTup.new s1.heap _) λh' hx'=>?_)))
 have I3:=I2.kept (h':=h') (t':=s1.toks) λb o e=>hx' b o (ar (af e)) e
 show wpAny _ _ (assignInOrder [λv=>bindName X.env y v,λv=>bindName X.env x v] [u2,u1] >>= λ_=>pure Flow.next) _ _ _
 refine wpAny_bind (gn (wpAny_bindName (kg I3 hN hj (.inl hy) rw' (λs2 I4=>?_) (.inr hy))))
 refine gn (wpAny_bindName (kg I4 hN hi (.inl hx) rv (λs3 I5=>assignInOrder_nil (wpAny_pure ?_)) (.inr hx)))
 rw [List.set_comm _ _ (dt hij)] at I5
 exact ⟨_,H1,I5,q1⟩
def tAug (i:Nat)(te:TE)(ti:TIp):TS:=λD σ H=>∃x,σ[i]?=some (some x)∧te σ H λy H1=>ti x y H1 λz H2=>D.nx (σ.set i (some z)) H2
theorem xwk {i:Nat}{x:Str}{e:Expr}{te:TE}{op:Operator}{ti:TIp}{pos':Pos}(hN:X.N.Nodup)(hi:X.N[i]?=some x)(hx:Loc X.env.scope x)(he:PE X e te)(ho:PIp X op ti)(hf:X.fn x=true∨X.env.scope.names.lookup x=some .local:=by first | exact .inl rfl | exact .inr rfl | assumption) :
  PS X (.AugAssign (.Name x pos') op e pos) (tAug i te ti):=by
 intro pins s σ H D I h
 obtain ⟨v,e1,h⟩:=h
 obtain ⟨m,hn,hl⟩:=I.loc
 have vis:Vis X.env.scope x:=by rcases hx with k|k;exact .inl k;exact .inr (.inl k)
 obtain ⟨u,r,l⟩:=hl i x v hi e1 vis
 refine wpAny_AugAssign_Name ?_
 have go:wpAny (model X.prog X.w) X.A (eval e X.env) (λw s₂=>wpAny (model X.prog X.w) X.A (inplaceOp op u w) (λr s₃=>wpAny (model X.prog X.w) X.A (storeName X.env x r) (λ_=>SP X pins D .next) X.xe s₃) X.xe s₂) X.xe s:=by
  refine thn (he pins s σ H _ I h) λw s1 ⟨y,H1,I1,r1,q1⟩=>?_
  refine thn (ho pins s1 σ H1 v y u w _ I1 r r1 q1) λz s2 ⟨zv,H2,I2,r2,q2⟩=>?_
  exact kg I2 hN hi hx r2 (λs3 I3=>⟨_,H2,I3,q2⟩) hf
 rcases l with ⟨hk,hm⟩|⟨hk,c,hc,hcell⟩
 ·exact wpAny_loadName_local I.ok.kind hk hn hm go
 ·rcases hk with hk|hk
  ·exact wpAny_loadName_cell I.ok.kind hk hc hcell go
  ·rcases hx with k|k
   ·have:X.env.scope.names.lookup x=some .free:=hk
    rw [k] at this;cases this
   ·have:X.env.scope.names.lookup x=some .free:=hk
    rw [k] at this;cases this
def ipI (f:Int→Int→Int):TIp:=λx y H Q=>∃i j,x=.int i∧y=.int j∧Q (.int (f i j)) H
theorem wy8:PIp X .Add (ipI λi j=>i+j):=by
 intro pins s σ H x y v u Q I r1 r2 h
 obtain ⟨i,j,e1,e2,q⟩:=h
 subst e1;subst e2
 obtain ⟨t,rfl⟩:=r1
 obtain ⟨t',rfl⟩:=r2
 exact iadd_int ⟨.int _,H,I.tok _,⟨_,rfl⟩,q⟩
end
section
variable {X:Cx}{pos:Pos}
def wwc (c:TT)(tb:TS):TS:=λD σ H=>∃W:Nat→St→Hp→Prop,(∃m,W m σ H)∧∀m σ H,W m σ H →
 c σ H λb H1=>if b=true then ∃N:St→Hp→Prop,(∀σ' H',N σ' H'→∃m',m'<m∧W m' σ' H')∧tb { D with nx:=N,ct:=N,bk:=D.nx } σ H1 else D.nx σ H1
theorem uu {c:Expr}{body:List Stmt}{tc:TT}{tb:TS}(hp:PassesOwn (model X.prog X.w) X.A X.env X.xe)(hc:PT X c tc)(hb:PSs X body tb):PS X (.While c body [] pos) (wwc tc tb):=by
 intro pins s σ H D I h
 obtain ⟨W,⟨m0,w0⟩,turn⟩:=h
 refine wpAny_While (codeAny_whileLoop (λn s'=>∃σ' H',Inv X pins σ' H' s'∧W n σ' H') ?_ m0 ⟨σ,H,I,w0⟩)
 rintro n s1 ⟨σ1,H1,I1,w1⟩
 refine dj hp (thn (hc pins s1 σ1 H1 _ I1 (turn n σ1 H1 w1)) λb s2 ⟨H2,I2,q2⟩=>?_)
 cases b with
 |true =>
  obtain ⟨N,hN,q2⟩:=q2
  rw [if_pos rfl]
  refine dj hp (thn (hb pins s2 σ1 H2 _ I2 q2) λf s3 q3=>?_)
  cases f with
  |next =>
   obtain ⟨σ3,H3,I3,n3⟩:=q3
   obtain ⟨m',hm,w3⟩:=hN σ3 H3 n3
   exact ⟨m',hm,σ3,H3,I3,w3⟩
  |cont =>
   obtain ⟨σ3,H3,I3,n3⟩:=q3
   obtain ⟨m',hm,w3⟩:=hN σ3 H3 n3
   exact ⟨m',hm,σ3,H3,I3,w3⟩
  |brk=>exact q3
  |ret v=>exact q3
 |false =>
  rw [if_neg au]
  exact fV ⟨σ1,H2,I2,q2⟩
end
structure It where
 go:Nat→Hp→Prop
 yld:Nat→Hp→V→Hp→Prop
 stop:Nat→Hp→Prop
def zr (X:Cx)(pins:List (Addr×Obj))(H:Hp)(b:Addr):Prop :=
 H b=none∧b≠X.env.locals∧b∉X.fs∧(b∈X.ex∨X.s₀.heap.objs.size≤b)∧(∀x c,X.env.cells.lookup x=some c→c≠b)∧∀p∈X.pn++pins,p.1≠b
theorem Inv.fpOk {X:Cx}{pins:List (Addr×Obj)}{σ:St}{H H':Hp}{s:Ab}{b:Addr}(I:Inv X pins σ H s)(hb:s.heap.objs.size≤b)(hn:H' b=none):zr X pins H' b:=by
 refine ⟨hn,cY (aD I.lt hb),I.nofs hb,.inr (bo I.sz hb),λx c e z=>?_,λp hp z=>?_⟩
 ·obtain ⟨v,q⟩:=I.cell x c e
  exact absurd (aD q.lt (by rw [z];exact hb)) (aI _)
 ·exact absurd (aD (af (I.pin p hp).1) (by rw [z];exact hb)) (aI _)
structure Turn (P:Ac)(w:World)(K:Aa)(tg:Expr)(J:It)(fp:List Addr)(it:Addr)(tn:Nat→Heap→Prop):Prop where
 mem:it∈fp
 obj:∀i h,tn i h→∀b∈fp,∃o,h.get? b=some o∧∀v,o.data≠.cell v
 keep:∀i h h',tn i h→(∀b∈fp,∀o,h.get? b=some o→h'.get? b=some o)→tn i h'
 item:∀(X:Cx),X.prog=P→X.w=w→X.K=K→X.calm=true→∀(i:Nat) (pins:List (Addr×Obj)) (s:Ab) (σ:St) (H:Hp) (E:Value→Ab→Prop),Inv X pins σ H s→(∀b∈fp,zr X pins H b)→tn i s.heap→J.go i H →
  wpAny (model P w) X.A (pyNext (.ref it)) (λr s1=>∃u,r=some u ∧
   wpAny (model P w) X.A (letOwnedTupleGo tg (.ref it) u) (λ_ s2=>∃x H',Inv X pins σ H' s2∧RelV x u∧J.yld i H x H'∧tn (i+1) s2.heap∧∀b∈fp,H' b=none) E s1) E s
 done:∀(X:Cx),X.prog=P→X.w=w→X.K=K→X.calm=true→∀(i:Nat) (pins:List (Addr×Obj)) (s:Ab) (σ:St) (H:Hp) (E:Value→Ab→Prop),Inv X pins σ H s→(∀b∈fp,zr X pins H b)→tn i s.heap→J.stop i H →
  wpAny (model P w) X.A (pyNext (.ref it)) (λr s1=>r=none∧Inv X pins σ H s1) E s
 self:∀(A:Around) (i:Nat) (s:Ab) (Q:Value→Ab→Prop) (E:Value→Ab→Prop),tn i s.heap→Q (.ref it) s→wpAny (model P w) A (pyIter (.ref it)) Q E s
abbrev TI:=St→Hp→(It→Hp→Prop)→Prop
def PIE (X:Cx)(pins:List (Addr×Obj))(σ:St)(tg:Expr)(R:It→Hp→Prop)(itv:Value)(s2:Ab):Prop :=
 ∃(it:Addr) (fp:List Addr) (tn:Nat→Heap→Prop) (J:It) (H':Hp),itv=.ref it∧Inv X pins σ H' s2∧Turn X.prog X.w X.K tg J fp it tn∧tn 0 s2.heap∧(∀b∈fp,zr X pins H' b)∧R J H'
def PI (X:Cx)(tg iter:Expr)(wi:TI):Prop :=
 ∀(pins:List (Addr×Obj)) (s:Ab) (σ:St) (H:Hp) (R:It→Hp→Prop),Inv X pins σ H s→wi σ H R →
  wpAny (model X.prog X.w) X.A (eval iter X.env) (λv s1=>wpAny (model X.prog X.w) X.A (pyIter v) (PIE X pins σ tg R) X.xe s1) X.xe s
theorem wzt {M:Model}{A:Around}{E:Value→Ab→Prop}{s:Ab}{tg:Expr}{it:Addr}{u:Value}{o:Obj}{n:String}{vs:Array Value}{Q:Unit→Ab→Prop}(ho:s.heap.get? it=some o)(hc:o.cls=.type n)(hd:o.data=.fields vs)
  (hn:["enumerate","zip","dict_itemiterator","dict_reverseitemiterator","odict_iterator","itertools.zip_longest","itertools.pairwise"].contains n=false) (hQ:Q () s):wpAny M A (letOwnedTupleGo tg (.ref it) u) Q E s:=by
 unfold letOwnedTupleGo
 cases tg <;> first
  |exact wpAny_pure hQ
  |(cases u <;> first
    |exact wpAny_pure hQ
    |(refine wpAny_bind (wpAny_load ho ?_)
      rw [hc,hd]
      show wpAny M A (if (["enumerate","zip","dict_itemiterator","dict_reverseitemiterator","odict_iterator","itertools.zip_longest","itertools.pairwise"].contains n&&vs[0]?==some (rawInt _))=true then _ else _) Q E s
      rw [if_neg (by intro h;rw [hn,iK] at h;cases h)]
      exact wpAny_pure hQ))
def Itl (K:Aa)(a:Addr):It :=
 ⟨λi H=>∃xs x,SqL K H a xs∧xs[i]?=some x,λi H x H'=>H'=H∧∀xs,SqL K H a xs→xs[i]?=some x,λi H=>∃xs,SqL K H a xs∧xs.length≤i⟩
def Itt (K:Aa)(a:Addr):It :=
 ⟨λi H=>∃xs x,SqT K H a xs∧xs[i]?=some x,λi H x H'=>H'=H∧∀xs,SqT K H a xs→xs[i]?=some x,λi H=>∃xs,SqT K H a xs∧xs.length≤i⟩
def Itr (lo:Int)(n:Nat):It:=⟨λi _=>i<n,λi H x H'=>H'=H∧x=.int (lo+i),λi _=>n≤i⟩
theorem wk6 {P:Ac}{w:World}{K:Aa}{tg:Expr}(a it:Addr):Turn P w K tg (Itl K a) [it] it (λi h=>h.IsListIter it a i) where
 mem:=by simp
 obj:=λi h st b hb=>by
  have e:b=it:=by simpa using hb
  subst e
  obtain ⟨o,e,c,d⟩:=st
  exact ⟨o,e,λv z=>by rw [d] at z;cases z⟩
 keep:=λi h h' st k=>st.at λo e=>k it (by simp) o e
 item:=by
  intro X hP hw hK hc i pins s σ H E I hf st hg
  subst hP hw hK
  obtain ⟨xs,x,hq,hx⟩:=hg
  obtain ⟨its,rv,p,hz⟩:=I.list hq
  obtain ⟨u,hu,ru⟩:=rv.get hx
  obtain ⟨f0,f1,f2,f3,f4,f5⟩:=hf it (by simp)
  refine wpAny_pyNext_list_item st p.isList (x:=u) (by simpa using hu) λh' st' sb=>?_
  have I1:Inv X pins σ H { s with heap:=h' }:=I.turned (t':=s.toks) (λb o hb e=>(sb.2 b hb).trans e) f0 f1 f3 f4 f5
  obtain ⟨o,e,c,d⟩:=id st'
  exact ⟨u,rfl,wzt (s:={ s with heap:=h' }) e c d (by decide) ⟨x,H,I1,ru,⟨rfl,λys hy=>by rw [I.list_inj hy hq];exact hx⟩,st',λb hb=>(hf b hb).1⟩⟩
 done:=by
  intro X hP hw hK hc i pins s σ H E I hf st hg
  subst hP hw hK
  obtain ⟨xs,hq,hx⟩:=hg
  obtain ⟨its,rv,p,hz⟩:=I.list hq
  obtain ⟨f0,f1,f2,f3,f4,f5⟩:=hf it (by simp)
  have hl:=rv.length
  exact wpAny_pyNext_list_end (I.ok.hd hc) st p.isList (by simp;omega) λh' eb=>⟨rfl,I.turned (t':=s.toks) (λb o hb e=>eb b o hb e) f0 f1 f3 f4 f5⟩
 self:=λ_ _ _ _ _ st h=>wpAny_pyIter_listiter st h
theorem ww8 {P:Ac}{w:World}{K:Aa}{tg:Expr}(a it:Addr):Turn P w K tg (Itt K a) [it] it (λi h=>h.IsTupleIter it a i) where
 mem:=by simp
 obj:=λi h st b hb=>by
  have e:b=it:=by simpa using hb
  subst e
  obtain ⟨o,e,c,d⟩:=st
  exact ⟨o,e,λv z=>by rw [d] at z;cases z⟩
 keep:=λi h h' st k=>st.at λo e=>k it (by simp) o e
 item:=by
  intro X hP hw hK hc i pins s σ H E I hf st hg
  subst hP hw hK
  obtain ⟨xs,x,hq,hx⟩:=hg
  obtain ⟨its,rv,p,hz⟩:=I.tuple hq
  obtain ⟨u,hu,ru⟩:=rv.get hx
  obtain ⟨f0,f1,f2,f3,f4,f5⟩:=hf it (by simp)
  refine wpAny_pyNext_tuple_item st (show s.heap.IsTuple a its.toArray from p) (x:=u) (by simpa using hu) λh' st' sb=>?_
  have I1:Inv X pins σ H { s with heap:=h' }:=I.turned (t':=s.toks) (λb o hb e=>(sb.2 b hb).trans e) f0 f1 f3 f4 f5
  obtain ⟨o,e,c,d⟩:=id st'
  exact ⟨u,rfl,wzt (s:={ s with heap:=h' }) e c d (by decide) ⟨x,H,I1,ru,⟨rfl,λys hy=>by rw [I.tuple_inj hy hq];exact hx⟩,st',λb hb=>(hf b hb).1⟩⟩
 done:=by
  intro X hP hw hK hc i pins s σ H E I hf st hg
  subst hP hw hK
  obtain ⟨xs,hq,hx⟩:=hg
  obtain ⟨its,rv,p,hz⟩:=I.tuple hq
  obtain ⟨f0,f1,f2,f3,f4,f5⟩:=hf it (by simp)
  have hl:=rv.length
  exact wpAny_pyNext_tuple_end (I.ok.hd hc) st (show s.heap.IsTuple a its.toArray from p) (by simp;omega) λh' eb=>⟨rfl,I.turned (t':=s.toks) (λb o hb e=>eb b o hb e) f0 f1 f3 f4 f5⟩
 self:=λ_ _ _ _ _ st h=>wpAny_pyIter_tupleiter st h
theorem wwr {P:Ac}{w:World}{K:Aa}{tg:Expr}(it:Addr)(lo:Int)(n:Nat):Turn P w K tg (Itr lo n) [it] it (λi h=>IsRangeIter h it (lo+(i:Nat)*1) ((n:Int)-(i:Nat)) 1) where
 mem:=by simp
 obj:=λi h st b hb=>by
  have e:b=it:=by simpa using hb
  subst e
  exact ⟨_,st,λv z=>by
   have z':Data.fields _=Data.cell v:=z
   cases z'⟩
 keep:=λi h h' st k=>k it (by simp) _ st
 item:=by
  intro X hP hw hK hc i pins s σ H E I hf st hg
  subst hP hw hK
  obtain ⟨f0,f1,f2,f3,f4,f5⟩:=hf it (by simp)
  have W:=Walks.range (prog:=X.prog) (w:=X.w) (I.ok.hd hc) it lo 1 n
  refine W.item i s _ _ hg st λv h' tk hv st' kk=>?_
  obtain ⟨t,rfl⟩:=hv
  have I1:Inv X pins σ H { s with heap:=h',toks:=tk }:=I.turned (λb o hb e=>kk b o (by simpa using hb) e) f0 f1 f3 f4 f5
  refine ⟨_,rfl,wzt (s:={ s with heap:=h',toks:=tk }) (n := "range_iterator") st' rfl rfl (by decide) ⟨.int (lo+i),H,I1,⟨t,?_⟩,⟨rfl,rfl⟩,st',λb hb=>(hf b hb).1⟩⟩
  rw [Int.mul_one]
 done:=by
  intro X hP hw hK hc i pins s σ H E I hf st hg
  subst hP hw hK
  obtain ⟨f0,f1,f2,f3,f4,f5⟩:=hf it (by simp)
  exact wpAny_pyNext_range_end (I.ok.hd hc) st (by have:n≤i:=hg;omega) λh' eb=>⟨rfl,I.turned (t':=s.toks) (λb o hb e=>eb b o hb e) f0 f1 f3 f4 f5⟩
 self:=λ_ _ _ _ _ st h=>wpAny_pyIter_rangeiter st h
section
variable {X:Cx}{tg:Expr}
def iList (K:Aa)(tl:TE):TI:=λσ H R=>tl σ H λx H1=>∃a,x=.ref a∧(∃xs,SqL K H1 a xs)∧R (Itl K a) H1
def iTup (K:Aa)(tl:TE):TI:=λσ H R=>tl σ H λx H1=>∃a,x=.ref a∧(∃xs,SqT K H1 a xs)∧R (Itt K a) H1
theorem zf {l:Expr}{tl:TE}(hl:PE X l tl):PI X tg l (iList X.K tl):=by
 intro pins s σ H R I h
 refine thn (hl pins s σ H _ I h) λv s1 ⟨x,H1,I1,r1,q1⟩=>?_
 obtain ⟨a,e,⟨xs,hq⟩,q⟩:=q1
 subst e
 cases r1
 obtain ⟨its,rv,p,hz⟩:=I1.list hq
 refine d6 p.isList ?_
 refine ⟨s1.heap.objs.size,[s1.heap.objs.size],_,_,H1,rfl,I1.kept (t':=s1.toks) λb o e=>Heap.get?_push_of_some _ e,wk6 a _,⟨_,ak _ rfl,rfl,rfl⟩,λb hb=>?_,q⟩
 have e:b=s1.heap.objs.size:=by simpa using hb
 subst e
 exact I1.fpOk (Nat.le_refl _) (I1.hok.fresh (Nat.le_refl _))
theorem pi_tup {l:Expr}{tl:TE}(hl:PE X l tl):PI X tg l (iTup X.K tl):=by
 intro pins s σ H R I h
 refine thn (hl pins s σ H _ I h) λv s1 ⟨x,H1,I1,r1,q1⟩=>?_
 obtain ⟨a,e,⟨xs,hq⟩,q⟩:=q1
 subst e
 cases r1
 obtain ⟨its,rv,p,hz⟩:=I1.tuple hq
 refine gu (show s1.heap.IsTuple a its.toArray from p) ?_
 refine ⟨s1.heap.objs.size,[s1.heap.objs.size],_,_,H1,rfl,I1.kept (t':=s1.toks) λb o e=>Heap.get?_push_of_some _ e,ww8 a _,⟨_,ak _ rfl,rfl,rfl⟩,λb hb=>?_,q⟩
 have e:b=s1.heap.objs.size:=by simpa using hb
 subst e
 exact I1.fpOk (Nat.le_refl _) (I1.hok.fresh (Nat.le_refl _))
theorem wyp {pins:List (Addr×Obj)}{σ:St}{H:Hp}{s:Ab}{R:It→Hp→Prop}{E:Value→Ab→Prop}{lo hi:Int}{t u v:Tok}{tk:Nat}(I:Inv X pins σ H s)(h1:-(2 ^ 62)≤lo)(h2:lo<2 ^ 62)(h3:-(2 ^ 62)≤hi)(h4:hi<2 ^ 62)
  (q:R (Itr lo (hi-lo).toNat) H):wpAny (model X.prog X.w) X.A (pyIter (.ref s.heap.objs.size)) (PIE X pins σ tg R) E { s with heap:=s.heap.push { cls:=.type "range",data:=.fields #[.int lo t,.int hi u,.int 1 v] },toks:=tk }:=by
 refine wpAny_pyIter_range (IsRange.new ..) (small_one h1 h2 h3 h4) ?_
 have I1:Inv X pins σ H { s with heap:=s.heap.push { cls:=.type "range",data:=.fields #[.int lo t,.int hi u,.int 1 v] },toks:=tk }:=I.kept λb o e=>Heap.get?_push_of_some _ e
 refine ⟨(s.heap.push { cls:=.type "range",data:=.fields #[.int lo t,.int hi u,.int 1 v] }).objs.size,[(s.heap.push { cls:=.type "range",data:=.fields #[.int lo t,.int hi u,.int 1 v] }).objs.size],_,_,H,rfl,
  I1.kept (t':=tk) λb o e=>Heap.get?_push_of_some _ e,wwr _ lo (hi-lo).toNat,?_,λb hb=>?_,q⟩
 ·have e1:lo+((0:Nat):Int)*1=lo:=by simp
  have e2:(((hi-lo).toNat:Nat):Int)-((0:Nat):Int)=Builtin.Range.rangeSize lo hi 1:=by rw [rangeSize_one];split <;> omega
  show IsRangeIter _ _ (lo+((0:Nat):Int)*1) ((((hi-lo).toNat:Nat):Int)-((0:Nat):Int)) 1
  rw [e1,e2]
  exact ak _ rfl
 ·have e:b=(s.heap.push { cls:=.type "range",data:=.fields #[.int lo t,.int hi u,.int 1 v] }).objs.size:=by simpa using hb
  subst e
  exact I1.fpOk (Nat.le_refl _) (I1.hok.fresh (Nat.le_refl _))
def iRng1 (ta:TA):TI:=λσ H R=>ta σ H λvs H1=>∃j:Int,vs=[.int j]∧-(2 ^ 62)≤j∧j<2 ^ 62∧R (Itr 0 j.toNat) H1
theorem xr {a:Expr}{ta:TA}{p pos:Pos}(hg:Gl X "range")(hm:X.mg "range" = none)(ha:PA X [a] ta)(hs:starEach [a] X.env=[(false,eval a X.env)]:=by rfl):PI X tg (.Call (.Name "range" p) [a] [] pos) (iRng1 ta):=by
 intro pins s σ H R I h
 refine Call_ (jf I hg hm boot_range (bI (thn (ha pos pins s σ H _ I h) λus s1 ⟨vs,H1,I1,r1,q1⟩=>?_) hs rfl))
 obtain ⟨j,e,q1,q2,q⟩:=q1
 subst e
 cases r1 with
 |cons r rr =>
  cases rr
  obtain ⟨t,rfl⟩:=r
  exact call_range_1 (wyp I1 (by omega) (by omega) q1 q2 (by simpa using q))
def tFor (wi:TI)(g:TG)(tb:TS):TS:=λD σ H=>wi σ H λJ H1=>∃W:Nat→Nat→St→Hp→Prop,(∃m,W 0 m σ H1)∧∀i m σ H,W i m σ H →
 (J.stop i H∧D.nx σ H)∨(J.go i H∧∃N:St→Hp→Prop,(∀σ' H',N σ' H'→∃m',m'<m∧W (i+1) m' σ' H')∧∀x H',J.yld i H x H'→g x σ H' λσ2 H2=>tb { D with nx:=N,ct:=N,bk:=D.nx } σ2 H2)
def qjx (fp:List Addr)(h:Heap):List (Addr×Obj):=fp.filterMap λb=>(h.get? b).map λo=>(b,o)
theorem y6 {fp:List Addr}{h:Heap}{b:Addr}{o:Obj}(hb:b∈fp)(e:h.get? b=some o):(b,o)∈qjx fp h:=dP.mpr ⟨b,hb,by rw [e];rfl⟩
theorem wv5 {fp:List Addr}{h:Heap}{p:Addr×Obj}(hp:p∈qjx fp h):p.1∈fp∧h.get? p.1=some p.2:=by
 obtain ⟨b,hb,e⟩:=dP.mp hp
 cases q:h.get? b with
 |none=>rw [q] at e;cases e
 |some o =>
  rw [q] at e
  have e':(b,o)=p:=aj e
  subst e'
  exact ⟨hb,q⟩
theorem Inv.pinned {pins:List (Addr×Obj)}{σ:St}{H:Hp}{s:Ab}{fp:List Addr}(I:Inv X pins σ H s)(hf:∀b∈fp,zr X pins H b)(ho:∀b∈fp,∃o,s.heap.get? b=some o∧∀v,o.data≠.cell v):Inv X (pins++qjx fp s.heap) σ H s :=
 I.pins_of λp hp=>(aP.mp hp).elim (λz=>I.pin p (aB _ z)) λz=>by
  obtain ⟨hb,e⟩:=wv5 z
  obtain ⟨f0,f1,f2,_⟩:=hf p.1 hb
  obtain ⟨o,e',d⟩:=ho p.1 hb
  rw [e] at e';cases e'
  exact ⟨e,f0,f1,f2,d⟩
theorem Inv.unpinned {pins pl:List (Addr×Obj)}{σ:St}{H:Hp}{s:Ab}(I:Inv X (pins++pl) σ H s):Inv X pins σ H s:=I.pins_of λp hp=>I.pin p (aB _ (bN _ hp))
theorem jz {iter:Expr}{body:List Stmt}{wi:TI}{g:TG}{tb:TS}{pos:Pos}(hp:PassesOwn (model X.prog X.w) X.A X.env X.xe)(hc:X.calm=true)(hi:PI X tg iter wi)(hg:PG X tg g)(hb:PSs X body tb)
  (hs:∀x,foldedSetIterable iter X.env x=pure x:=by intro _;rfl):PS X (.For tg iter body [] pos) (tFor wi g tb):=by
 intro pins s σ H D I h
 refine wpAny_For (thn (hi pins s σ H _ I h) λv s1 h1=>thn h1 λitv s2 h2=>?_) hs
 obtain ⟨it,fp,tn,J,H2,e,I2,T,st2,f2,W,⟨m0,w0⟩,turn⟩:=h2
 subst e
 have stat:∀ {H':Hp},(∀b∈fp,H' b=none)→∀b∈fp,zr X pins H' b:=λhn b hb=>⟨hn b hb,(f2 b hb).2⟩
 refine codeAny_forLoop_any (λn s'=>∃i σ' H',Inv X pins σ' H' s'∧tn i s'.heap∧(∀b∈fp,H' b=none)∧W i n σ' H') ?_ m0 ⟨0,σ,H2,I2,st2,λb hb=>(f2 b hb).1,w0⟩
 rintro n s3 ⟨i,σ3,H3,I3,st3,fr3,w3⟩
 rcases turn i n σ3 H3 w3 with ⟨stop,qn⟩|⟨go,N,hN,step⟩
 ·refine dj hp (thn (T.done X rfl rfl rfl hc i pins s3 σ3 H3 X.xe I3 (stat fr3) st3 stop) λr s4 ⟨hr,I4⟩=>?_)
  subst hr
  exact fV ⟨σ3,H3,I4,qn⟩
 ·refine dj hp (thn (T.item X rfl rfl rfl hc i pins s3 σ3 H3 X.xe I3 (stat fr3) st3 go) λr s4 ⟨u,hr,h4⟩=>?_)
  subst hr
  refine dj hp (thn h4 λ_ s5 ⟨x,H5,I5,r5,y5,st5,fr5⟩=>?_)
  have I5':=I5.pinned (stat fr5) (T.obj _ _ st5)
  refine dj hp (thn (hg _ s5 σ3 H5 x u _ I5' r5 (step x H5 y5)) λ_ s6 ⟨σ6,H6,I6,q6⟩=>?_)
  refine dj hp (thn (hb _ s6 σ6 H6 _ I6 q6) λf s7 q7=>?_)
  have again:∀ {σ7:St} {H7:Hp},Inv X (pins++qjx fp s5.heap) σ7 H7 s7→N σ7 H7→∃m,m<n∧∃i σ' H',Inv X pins σ' H' s7∧tn i s7.heap∧(∀b∈fp,H' b=none)∧W i m σ' H':=λ{σ7 H7} I7 n7=>by
   obtain ⟨m',hm,w7⟩:=hN σ7 H7 n7
   refine ⟨m',hm,i+1,σ7,H7,I7.unpinned,T.keep _ _ _ st5 λb hb o e=>(I7.pin (b,o) (aB _ (aB _ (y6 hb e)))).1,λb hb=>?_,w7⟩
   obtain ⟨o,e,d⟩:=T.obj _ _ st5 b hb
   exact (I7.pin (b,o) (aB _ (aB _ (y6 hb e)))).2.1
  cases f with
  |next=>obtain ⟨σ7,H7,I7,n7⟩:=q7;exact again I7 n7
  |cont=>obtain ⟨σ7,H7,I7,n7⟩:=q7;exact again I7 n7
  |brk=>obtain ⟨σ7,H7,I7,q7⟩:=q7;exact ⟨σ7,H7,I7.unpinned,q7⟩
  |ret v=>obtain ⟨x7,σ7,H7,I7,r7,q7⟩:=q7;exact ⟨x7,σ7,H7,I7.unpinned,r7,q7⟩
end
theorem qxq {K:Aa}{a:Addr}{xs:List V}{g:TG}{tb:TS}{D:Ends}{σ:St}{H:Hp}(Pv:Nat→St→Hp→Prop)(h0:Pv 0 σ H)(hl:∀i σ H,i≤xs.length→Pv i σ H→SqL K H a xs)
  (hs:∀i x σ H,xs[i]?=some x→Pv i σ H→g x σ H λσ2 H2=>tb { D with nx:=Pv (i+1),ct:=Pv (i+1),bk:=D.nx } σ2 H2) (hd:∀σ H,Pv xs.length σ H→D.nx σ H) :
  ∃W:Nat→Nat→St→Hp→Prop,(∃m,W 0 m σ H)∧∀i m σ H,W i m σ H →
   ((Itl K a).stop i H∧D.nx σ H)∨((Itl K a).go i H∧∃N:St→Hp→Prop,(∀σ' H',N σ' H'→∃m',m'<m∧W (i+1) m' σ' H')∧∀x H',(Itl K a).yld i H x H'→g x σ H' λσ2 H2=>tb { D with nx:=N,ct:=N,bk:=D.nx } σ2 H2):=by
 refine ⟨λi m σ H=>m=xs.length-i∧i≤xs.length∧Pv i σ H,⟨xs.length,by simp,aN _,h0⟩,?_⟩
 rintro i m σ H ⟨rfl,hi,p⟩
 have q:=hl i σ H hi p
 by_cases hlt:i<xs.length
 ·refine .inr ⟨⟨xs,xs[i],q,by simp [hlt]⟩,Pv (i+1),λσ' H' p'=>⟨xs.length-(i+1),by omega,rfl,hlt,p'⟩,λx H' y=>?_⟩
  obtain ⟨e,y⟩:=y
  subst e
  exact hs i x σ _ (y xs q) p
 ·have e:i=xs.length:=by omega
  subst e
  exact .inl ⟨⟨xs,q,Nat.le_refl _⟩,hd σ H p⟩
theorem xzy {K:Aa}{a:Addr}{xs:List V}{g:TG}{tb:TS}{D:Ends}{σ:St}{H:Hp}(Pv:Nat→St→Hp→Prop)(h0:Pv 0 σ H)(hl:∀i σ H,i≤xs.length→Pv i σ H→SqT K H a xs)
  (hs:∀i x σ H,xs[i]?=some x→Pv i σ H→g x σ H λσ2 H2=>tb { D with nx:=Pv (i+1),ct:=Pv (i+1),bk:=D.nx } σ2 H2) (hd:∀σ H,Pv xs.length σ H→D.nx σ H) :
  ∃W:Nat→Nat→St→Hp→Prop,(∃m,W 0 m σ H)∧∀i m σ H,W i m σ H →
   ((Itt K a).stop i H∧D.nx σ H)∨((Itt K a).go i H∧∃N:St→Hp→Prop,(∀σ' H',N σ' H'→∃m',m'<m∧W (i+1) m' σ' H')∧∀x H',(Itt K a).yld i H x H'→g x σ H' λσ2 H2=>tb { D with nx:=N,ct:=N,bk:=D.nx } σ2 H2):=by
 refine ⟨λi m σ H=>m=xs.length-i∧i≤xs.length∧Pv i σ H,⟨xs.length,by simp,aN _,h0⟩,?_⟩
 rintro i m σ H ⟨rfl,hi,p⟩
 have q:=hl i σ H hi p
 by_cases hlt:i<xs.length
 ·refine .inr ⟨⟨xs,xs[i],q,by simp [hlt]⟩,Pv (i+1),λσ' H' p'=>⟨xs.length-(i+1),by omega,rfl,hlt,p'⟩,λx H' y=>?_⟩
  obtain ⟨e,y⟩:=y
  subst e
  exact hs i x σ _ (y xs q) p
 ·have e:i=xs.length:=by omega
  subst e
  exact .inl ⟨⟨xs,q,Nat.le_refl _⟩,hd σ H p⟩
theorem j7 {lo:Int}{n:Nat}{g:TG}{tb:TS}{D:Ends}{σ:St}{H:Hp}(Pv:Nat→St→Hp→Prop)(h0:Pv 0 σ H)
  (hs:∀i σ H,i<n→Pv i σ H→g (.int (lo+i)) σ H λσ2 H2=>tb { D with nx:=Pv (i+1),ct:=Pv (i+1),bk:=D.nx } σ2 H2) (hd:∀σ H,Pv n σ H→D.nx σ H) :
  ∃W:Nat→Nat→St→Hp→Prop,(∃m,W 0 m σ H)∧∀i m σ H,W i m σ H →
   ((Itr lo n).stop i H∧D.nx σ H)∨((Itr lo n).go i H∧∃N:St→Hp→Prop,(∀σ' H',N σ' H'→∃m',m'<m∧W (i+1) m' σ' H')∧∀x H',(Itr lo n).yld i H x H'→g x σ H' λσ2 H2=>tb { D with nx:=N,ct:=N,bk:=D.nx } σ2 H2):=by
 refine ⟨λi m σ H=>m=n-i∧i≤n∧Pv i σ H,⟨n,by simp,aN _,h0⟩,?_⟩
 rintro i m σ H ⟨rfl,hi,p⟩
 by_cases hlt:i<n
 ·refine .inr ⟨hlt,Pv (i+1),λσ' H' p'=>⟨n-(i+1),by omega,rfl,hlt,p'⟩,λx H' y=>?_⟩
  obtain ⟨e,y⟩:=y
  subst e y
  exact hs i σ _ hlt p
 ·have e:i=n:=by omega
  subst e
  exact .inl ⟨Nat.le_refl _,hd σ H p⟩
theorem Zf {c:TT}{tb:TS}{D:Ends}{σ:St}{H:Hp}(Pv:St→Hp→Prop)(μ:St→Hp→Nat)(h0:Pv σ H)
  (hs:∀σ H,Pv σ H→c σ H λb H1=>if b=true then tb { D with nx:=λσ' H'=>Pv σ' H'∧μ σ' H'<μ σ H,ct:=λσ' H'=>Pv σ' H'∧μ σ' H'<μ σ H,bk:=D.nx } σ H1 else D.nx σ H1)
  (mono:∀σ H Q Q',(∀b H1,Q b H1→Q' b H1)→c σ H Q→c σ H Q'):wwc c tb D σ H:=by
 refine ⟨λm σ H=>m=μ σ H∧Pv σ H,⟨_,rfl,h0⟩,?_⟩
 rintro m σ H ⟨rfl,p⟩
 refine mono σ H _ _ (λb H1 q=>?_) (hs σ H p)
 cases b with
 |true=>exact ⟨_,λσ' H' ⟨p',l⟩=>⟨_,l,rfl,p'⟩,q⟩
 |false=>exact q
abbrev R2:=V→V→Hp→VK→Prop
def OpR (X:Cx)(f:Value→Value→Sem Value)(r:R2):Prop :=
 ∀(pins:List (Addr×Obj)) (s:Ab) (σ:St) (H:Hp) (x y:V) (v u:Value) (Q:VK),Inv X pins σ H s→RelV x v→RelV y u→r x y H Q →
  wpAny (model X.prog X.w) X.A (f v u) (EP X pins σ Q) X.xe s
def UnR (X:Cx)(f:Value→Sem Value)(r:V→Hp→VK→Prop):Prop :=
 ∀(pins:List (Addr×Obj)) (s:Ab) (σ:St) (H:Hp) (x:V) (v:Value) (Q:VK),Inv X pins σ H s→RelV x v→r x H Q →
  wpAny (model X.prog X.w) X.A (f v) (EP X pins σ Q) X.xe s
def v8 (X:Cx)(f:Value)(r:List V→Hp→VK→Prop):Prop :=
 ∀(pins:List (Addr×Obj)) (s:Ab) (σ:St) (H:Hp) (xs:List V) (us:List Value) (Q:VK),Inv X pins σ H s→Vals xs us→r xs H Q →
  wpAny (model X.prog X.w) X.A (call f us) (EP X pins σ Q) X.xe s
def tOp (r:R2)(ta tb:TE):TE:=λσ H Q=>ta σ H λx H1=>tb σ H1 λy H2=>r x y H2 Q
def tUn (r:V→Hp→VK→Prop)(ta:TE):TE:=λσ H Q=>ta σ H λx H1=>r x H1 Q
def rI (C:Int→Int→Prop)(g:Int→Int→V):R2:=λx y H Q=>∃i j,x=.int i∧y=.int j∧C i j∧Q (g i j) H
def rI0 (g:Int→Int→V):R2:=λx y H Q=>∃i j,x=.int i∧y=.int j∧Q (g i j) H
def rU (g:Int→V):V→Hp→VK→Prop:=λx H Q=>∃i,x=.int i∧Q (g i) H
section
variable {X:Cx}{a b c:Expr}{ta tb tc:TE}{pos:Pos}
theorem binT (ha:PE X a ta)(hb:PE X b tb){pins:List (Addr×Obj)}{s:Ab}{σ:St}{H:Hp}{R:V→V→Hp→Prop}(I:Inv X pins σ H s)
  (h:ta σ H λx H1=>tb σ H1 λy H2=>R x y H2) {Q:Value→Ab→Prop} {f:Value→Value→Sem Value}
  (hf:∀v u s2 x y H2,Inv X pins σ H2 s2→RelV x v→RelV y u→R x y H2→wpAny (model X.prog X.w) X.A (f v u) Q X.xe s2) :
  wpAny (model X.prog X.w) X.A (eval a X.env) (λv s₁=>wpAny (model X.prog X.w) X.A (eval b X.env) (λu s₂=>wpAny (model X.prog X.w) X.A (f v u) Q X.xe s₂) X.xe s₁) X.xe s:=by
 refine thn (ha pins s σ H _ I h) λv s1 ⟨x,H1,I1,r1,q1⟩=>?_
 refine thn (hb pins s1 σ H1 _ I1 q1) λu s2 ⟨y,H2,I2,r2,q2⟩=>?_
 exact hf v u s2 x y H2 I2 r1 r2 q2
theorem wx {op:Operator}{r:R2}(ho:OpR X (binaryOp op) r)(ha:PE X a ta)(hb:PE X b tb):PE X (.BinOp a op b pos) (tOp r ta tb):=by
 intro pins s σ H Q I h
 exact wpAny_BinOp (binT ha hb I h λv u s2 x y H2 I2 rx ry q=>ho pins s2 σ H2 x y v u Q I2 rx ry q)
theorem qv2 {op:UnaryOp}{r:V→Hp→VK→Prop}(ho:UnR X (unaryOp op) r)(ha:PE X a ta):PE X (.UnaryOp op a pos) (tUn r ta):=by
 intro pins s σ H Q I h
 exact UnaryOp_ (thn (ha pins s σ H _ I h) λv s1 ⟨x,H1,I1,r1,q1⟩=>ho pins s1 σ H1 x v Q I1 r1 q1)
theorem opI {f:Value→Value→Sem Value}{C:Int→Int→Prop}{g:Int→Int→Int}
  (rule:∀(i j:Int) (t u:Tok) (s:Ab) (Q:Value→Ab→Prop) (E:Value→Ab→Prop),C i j→Q (.int (g i j) s.toks) { s with toks:=s.toks+1 }→wpAny (model X.prog X.w) X.A (f (.int i t) (.int j u)) Q E s) :
  OpR X f (rI C λi j=>.int (g i j)):=by
 intro pins s σ H x y v u Q I rx ry h
 obtain ⟨i,j,rfl,rfl,hc,q⟩:=h
 obtain ⟨t,rfl⟩:=rx
 obtain ⟨t',rfl⟩:=ry
 exact rule i j t t' s _ _ hc ⟨.int (g i j),H,I.tok _,⟨_,rfl⟩,q⟩
theorem opI0 {f:Value→Value→Sem Value}{g:Int→Int→Int}
  (rule:∀(i j:Int) (t u:Tok) (s:Ab) (Q:Value→Ab→Prop) (E:Value→Ab→Prop),Q (.int (g i j) s.toks) { s with toks:=s.toks+1 }→wpAny (model X.prog X.w) X.A (f (.int i t) (.int j u)) Q E s) :
  OpR X f (rI0 λi j=>.int (g i j)):=by
 intro pins s σ H x y v u Q I rx ry h
 obtain ⟨i,j,rfl,rfl,q⟩:=h
 obtain ⟨t,rfl⟩:=rx
 obtain ⟨t',rfl⟩:=ry
 exact rule i j t t' s _ _ ⟨.int (g i j),H,I.tok _,⟨_,rfl⟩,q⟩
theorem opB0 {f:Value→Value→Sem Value}{g:Int→Int→Bool}
  (rule:∀(i j:Int) (t u:Tok) (s:Ab) (Q:Value→Ab→Prop) (E:Value→Ab→Prop),Q (.bool (g i j)) s→wpAny (model X.prog X.w) X.A (f (.int i t) (.int j u)) Q E s) :
  OpR X f (rI0 λi j=>.bl (g i j)):=by
 intro pins s σ H x y v u Q I rx ry h
 obtain ⟨i,j,rfl,rfl,q⟩:=h
 obtain ⟨t,rfl⟩:=rx
 obtain ⟨t',rfl⟩:=ry
 exact rule i j t t' s _ _ ⟨.bl (g i j),H,I,rfl,q⟩
def CPow (i j:Int):Prop:=0≤j∧j≤1000000∧i.natAbs<2 ^ 64
theorem xg:OpR X (binaryOp .Add) (rI0 λi j=>.int (i+j)):=opI0 λ_ _ _ _ _ _ _ q=>add_int q
theorem vd:OpR X (binaryOp .Sub) (rI0 λi j=>.int (i-j)):=opI0 λ_ _ _ _ _ _ _ q=>sub_int q
theorem km:OpR X (binaryOp .Mod) (rI (λ_ j=>0<j) λi j=>.int (i%j)):=opI λi j _ _ _ _ _ hc q=>by
 have h1:(0:Int)<j:=hc
 exact mod_int' (by omega) (by rw [Int.fmod_eq_emod_of_nonneg i (by omega)];exact q)
theorem op_pow:OpR X (binaryOp .Pow) (rI CPow λi j=>.int (i ^ j.toNat)):=opI λ_ _ _ _ _ _ _ hc q=>pow_int_small hc.1 hc.2.1 hc.2.2 q
theorem unI {f:Value→Sem Value}{g:Int→Int}
  (rule:∀(i:Int) (t:Tok) (s:Ab) (Q:Value→Ab→Prop) (E:Value→Ab→Prop),Q (.int (g i) s.toks) { s with toks:=s.toks+1 }→wpAny (model X.prog X.w) X.A (f (.int i t)) Q E s) :
  UnR X f (rU λi=>.int (g i)):=by
 intro pins s σ H x v Q I rx h
 obtain ⟨i,rfl,q⟩:=h
 obtain ⟨t,rfl⟩:=rx
 exact rule i t s _ _ ⟨.int (g i),H,I.tok _,⟨_,rfl⟩,q⟩
theorem Jk:UnR X (unaryOp .USub) (rU λi=>.int (-i)):=unI λ_ _ _ _ _ q=>neg_int q
end
def scal:V→V→Bool
 |.non,.non=>true|.non,.int _=>true|.int _,.non=>true|.non,.bl _=>true|.bl _,.non=>true|.non,.str _=>true|.str _,.non=>true
 |.int _,.int _=>true|.bl _,.bl _=>true|.str _,.str _=>true|.byt _,.byt _=>true
 |.int _,.str _=>true|.str _,.int _=>true|.bl _,.str _=>true|.str _,.bl _=>true
 |_,_=>false
def rEq:R2:=λx y H Q=>scal x y=true∧Q (.bl (decide (x=y))) H
def rNe:R2:=λx y H Q=>scal x y=true∧Q (.bl (!decide (x=y))) H
theorem wzy {i j:Int}:decide (V.int i=V.int j)=(i==j):=by
 rw [cD]
 simp
theorem xww {i j:Bool}:decide (V.bl i=V.bl j)=(i==j):=by
 rw [cD]
 simp
theorem wvq {i j:Str}:decide (V.str i=V.str j)=(i==j):=by
 rw [cD]
 simp
theorem wzk {i j:Array UInt8}:decide (V.byt i=V.byt j)=(i.toList==j.toList):=by
 rw [cD]
 cases i
 cases j
 simp
section
variable {X:Cx}{a b c:Expr}{ta tb tc:TE}{pos:Pos}
theorem xc {pins:List (Addr×Obj)}{σ:St}{H:Hp}{s:Ab}{Q:VK}{k k':Bool}(I:Inv X pins σ H s)(q:Q (.bl k) H)(e:k=k'):EP X pins σ Q (.bool k') s:=by
 subst e
 exact ⟨.bl k,H,I,rfl,q⟩
theorem Qk:OpR X (compareOp .Eq) rEq:=by
 intro pins s σ H x y v u Q I rx ry h
 obtain ⟨hs,q⟩:=h
 cases x with
 |non =>
  cases rx
  cases y with
  |non=>cases ry;exact PySem.EqNone.eq_none_none (xc I q (by simp))
  |bl j=>cases ry;exact PySem.EqNone.eq_none_bool (xc I q (by simp))
  |int j=>obtain ⟨t',rfl⟩:=ry;exact PySem.EqNone.eq_none_int (xc I q (by simp))
  |str j=>obtain ⟨t',rfl⟩:=ry;exact PySem.EqNone.eq_none_str (xc I q (by simp))
  |_=>exact absurd (show false=true from hs) au
 |bl i =>
  cases rx
  cases y with
  |non=>cases ry;exact PySem.EqNone.eq_bool_none (xc I q (by simp))
  |bl j=>cases ry;exact eq_bool (xc I q xww)
  |str j=>obtain ⟨t',rfl⟩:=ry;exact PySem.EqMixed.eq_bool_str (xc I q (by simp))
  |_=>exact absurd (show false=true from hs) au
 |int i =>
  obtain ⟨t,rfl⟩:=rx
  cases y with
  |non=>cases ry;exact PySem.EqNone.eq_int_none (xc I q (by simp))
  |int j=>obtain ⟨t',rfl⟩:=ry;exact eq_int (xc I q wzy)
  |str j=>obtain ⟨t',rfl⟩:=ry;exact PySem.EqMixed.eq_int_str (xc I q (by simp))
  |_=>exact absurd (show false=true from hs) au
 |str i =>
  obtain ⟨t,rfl⟩:=rx
  cases y with
  |non=>cases ry;exact PySem.EqNone.eq_str_none (xc I q (by simp))
  |bl j=>cases ry;exact PySem.EqMixed.eq_str_bool (xc I q (by simp))
  |int j=>obtain ⟨t',rfl⟩:=ry;exact PySem.EqMixed.eq_str_int (xc I q (by simp))
  |str j=>obtain ⟨t',rfl⟩:=ry;exact eq_str (xc I q wvq)
  |_=>exact absurd (show false=true from hs) au
 |byt i =>
  obtain ⟨t,rfl⟩:=rx
  cases y with
  |byt j=>obtain ⟨t',rfl⟩:=ry;exact PySem.W.eq_bytes (xc I q wzk)
  |_=>exact absurd (show false=true from hs) au
 |_=>cases y <;> exact absurd (show false=true from hs) au
theorem wvz:OpR X (compareOp .NotEq) rNe:=by
 intro pins s σ H x y v u Q I rx ry h
 obtain ⟨hs,q⟩:=h
 cases x with
 |non =>
  cases rx
  cases y with
  |non=>cases ry;exact PySem.EqNone.ne_none_none (xc I q (by simp))
  |bl j=>cases ry;exact PySem.EqNone.ne_none_bool (xc I q (by simp))
  |int j=>obtain ⟨t',rfl⟩:=ry;exact PySem.EqNone.ne_none_int (xc I q (by simp))
  |str j=>obtain ⟨t',rfl⟩:=ry;exact PySem.EqNone.ne_none_str (xc I q (by simp))
  |_=>exact absurd (show false=true from hs) au
 |bl i =>
  cases rx
  cases y with
  |non=>cases ry;exact PySem.EqNone.ne_bool_none (xc I q (by simp))
  |bl j=>cases ry;exact ne_bool (xc I q (bX not xww))
  |str j=>obtain ⟨t',rfl⟩:=ry;exact PySem.EqMixed.ne_bool_str (xc I q (by simp))
  |_=>exact absurd (show false=true from hs) au
 |int i =>
  obtain ⟨t,rfl⟩:=rx
  cases y with
  |non=>cases ry;exact PySem.EqNone.ne_int_none (xc I q (by simp))
  |int j=>obtain ⟨t',rfl⟩:=ry;exact ne_int (xc I q (bX not wzy))
  |str j=>obtain ⟨t',rfl⟩:=ry;exact PySem.EqMixed.ne_int_str (xc I q (by simp))
  |_=>exact absurd (show false=true from hs) au
 |str i =>
  obtain ⟨t,rfl⟩:=rx
  cases y with
  |non=>cases ry;exact PySem.EqNone.ne_str_none (xc I q (by simp))
  |bl j=>cases ry;exact PySem.EqMixed.ne_str_bool (xc I q (by simp))
  |int j=>obtain ⟨t',rfl⟩:=ry;exact PySem.EqMixed.ne_str_int (xc I q (by simp))
  |str j=>obtain ⟨t',rfl⟩:=ry;exact ne_str (xc I q (bX not wvq))
  |_=>exact absurd (show false=true from hs) au
 |byt i =>
  obtain ⟨t,rfl⟩:=rx
  cases y with
  |byt j=>obtain ⟨t',rfl⟩:=ry;exact PySem.W.ne_bytes (xc I q (bX not wzk))
  |_=>exact absurd (show false=true from hs) au
 |_=>cases y <;> exact absurd (show false=true from hs) au
theorem Q2:OpR X (compareOp .Lt) (rI0 λi j=>.bl (decide (i<j))):=opB0 λ_ _ _ _ _ _ _ q=>lt_int q
theorem qyd:OpR X (compareOp .LtE) (rI0 λi j=>.bl (decide (i≤j))):=opB0 λ_ _ _ _ _ _ _ q=>le_int q
theorem u7:OpR X (compareOp .Gt) (rI0 λi j=>.bl (decide (j<i))):=opB0 λ_ _ _ _ _ _ _ q=>gt_int q
theorem wzv:OpR X (compareOp .GtE) (rI0 λi j=>.bl (decide (j≤i))):=opB0 λ_ _ _ _ _ _ _ q=>ge_int q
theorem wj6:OpR X (compareOp .Is) (λx y H Q=>y=.non∧Q (.bl (decide (x=.non))) H):=by
 intro pins s σ H x y v u Q I rx ry h
 obtain ⟨rfl,q⟩:=h
 cases ry
 refine is_none_gen (xc I q ?_)
 cases x <;> first
  |(cases rx;rfl)
  |(obtain ⟨t,rfl⟩:=rx;rfl)
theorem wzg:OpR X (compareOp .IsNot) (λx y H Q=>y=.non∧Q (.bl (!decide (x=.non))) H):=by
 intro pins s σ H x y v u Q I rx ry h
 obtain ⟨rfl,q⟩:=h
 cases ry
 refine isnot_none_gen (xc I q ?_)
 cases x <;> first
  |(cases rx;rfl)
  |(obtain ⟨t,rfl⟩:=rx;rfl)
theorem wb (b:Expr){op:CmpOp}(h:op≠.In:=by decide)(h2:op≠.NotIn:=by decide):behindInMarks op b=false:=by
 have e1:(op==CmpOp.In)=false:=by cases op <;> first | rfl | exact absurd rfl h
 have e2:(op==CmpOp.NotIn)=false:=by cases op <;> first | rfl | exact absurd rfl h2
 cases b <;> simp [behindInMarks,e1,e2]
theorem Zj {op:CmpOp}{r:R2}(ho:OpR X (compareOp op) r)(ha:PE X a ta)(hb:PE X b tb)(hm:behindInMarks op b=false):PE X (.Compare a [op] [b] pos) (tOp r ta tb):=by
 intro pins s σ H Q I h
 exact wpAny_Compare1 (binT ha hb I h λv u s2 x y H2 I2 rx ry q=>ho pins s2 σ H2 x y v u Q I2 rx ry q) hm
def xwj (t:TE):TT:=λσ H Q=>t σ H λx H'=>∃k,x=.bl k∧Q k H'
theorem wj {op:CmpOp}{r:R2}(ho:OpR X (compareOp op) r)(ha:PE X a ta)(hb:PE X b tb)(hm:behindInMarks op b=false):PT X (.Compare a [op] [b] pos) (xwj (tOp r ta tb)):=by
 intro pins s σ H Q I h
 refine wpAny_isTrue_Compare1 (thn (ha pins s σ H _ I h) λv s1 ⟨x,H1,I1,r1,q1⟩=>thn (hb pins s1 σ H1 _ I1 q1) λu s2 ⟨y,H2,I2,r2,q2⟩ =>
  thn (ho pins s2 σ H2 x y v u _ I2 r1 r2 q2) λc s3 ⟨z,H3,I3,r3,k,e,q3⟩=>?_) hm
 subst e
 cases r3
 exact cT ⟨H3,I3,q3⟩
theorem wwb:(sizeLine:Nat)<2 ^ 63:=by rw [c0];decide
theorem k7 {x:V}{us:List Value}(r:Vals [x] us):∃u,us=[u]∧RelV x u:=by
 cases r with
 |cons r1 r2=>cases r2;exact ⟨_,rfl,r1⟩
theorem wyt {x y:V}{us:List Value}(r:Vals [x,y] us):∃u w',us=[u,w']∧RelV x u∧RelV y w':=by
 cases r with
 |cons r1 r2 =>
  cases r2 with
  |cons r3 r4=>cases r4;exact ⟨_,_,rfl,r1,r3⟩
theorem Zh:v8 X (.builtin "abs") (λxs H Q=>∃i,xs=[.int i]∧Q (.int (if i<0 then -i else i)) H):=by
 intro pins s σ H xs us Q I r h
 obtain ⟨i,rfl,q⟩:=h
 obtain ⟨u,rfl,t,rfl⟩:=k7 r
 exact call_abs_int λu tk=>⟨.int (if i<0 then -i else i),H,I.tok _,⟨_,rfl⟩,q⟩
theorem Yd (hc:X.calm=true):v8 X (.builtin "max") (λxs H Q=>∃i j,xs=[.int i,.int j]∧Q (.int (if j>i then j else i)) H):=by
 intro pins s σ H xs us Q I r h
 obtain ⟨i,j,rfl,q⟩:=h
 obtain ⟨u,w',rfl,⟨t,rfl⟩,⟨t',rfl⟩⟩:=wyt r
 refine max_two_ints (I.ok.hd hc) λh' tk k=>⟨_,H,I.kept k,?_,q⟩
 by_cases hj:j>i
 ·rw [if_pos hj,if_pos hj];exact ⟨_,rfl⟩
 ·rw [if_neg hj,if_neg hj];exact ⟨_,rfl⟩
theorem Qu (hc:X.calm=true):v8 X (.builtin "min") (λxs H Q=>∃i j,xs=[.int i,.int j]∧Q (.int (if j<i then j else i)) H):=by
 intro pins s σ H xs us Q I r h
 obtain ⟨i,j,rfl,q⟩:=h
 obtain ⟨u,w',rfl,⟨t,rfl⟩,⟨t',rfl⟩⟩:=wyt r
 refine min_two_ints (I.ok.hd hc) λh' tk k=>⟨_,H,I.kept k,?_,q⟩
 by_cases hj:j<i
 ·rw [if_pos hj,if_pos hj];exact ⟨_,rfl⟩
 ·rw [if_neg hj,if_neg hj];exact ⟨_,rfl⟩
end
structure ObjM (h:Heap)(x dx C:Addr)(mA:Str→Option Value):Prop where
 obj:h.get? x=some (PySem.W.instObj C dx)
 ns:h.Ns1 dx mA
 ne:dx≠x
theorem wjz {h:Heap}{dx:Addr}{mA:Str→Option Value}(n:h.Ns1 dx mA):∃od,h.get? dx=some od∧∀name,PySem.W.lookIn name od=some (mA name):=by
 obtain ⟨o,es,ep,ho,hd,hk,_,hm⟩:=n
 refine ⟨o,ho,λname=>?_⟩
 have e:=hm name
 unfold nsFind findBy at e
 rw [←Array.find?_toList] at e
 unfold PySem.W.lookIn
 rw [hd]
 dsimp only
 split
 ·rename_i y q
  rw [q] at e
  exact bX some e
 ·rename_i q
  rw [q] at e
  have a:es.toList.any (·.refKey)=false:=by
   rw [List.any_eq_false]
   intro y hy
   obtain ⟨z,t,hkey⟩:=hk y (bG.mp hy)
   simp [DictEntry.refKey,hkey]
  have a':¬ es.toList.any (·.refKey)=true:=by rw [a];exact au
  rw [if_neg a']
  exact bX some e
theorem ObjM.look {h:Heap}{x dx C:Addr}{mA:Str→Option Value}(I:ObjM h x dx C mA):∃od,PySem.W.InstAt h x (PySem.W.instObj C dx) C (some od)∧∀name,PySem.W.lookIn name od=some (mA name) :=
 let ⟨od,ho,hl⟩:=wjz I.ns
 ⟨od,⟨I.obj,rfl,rfl,ho⟩,hl⟩
section
variable {prog:Ac}{w:World}{A:Around}{E:Value→Ab→Prop}{s:Ab}{K:Aa}{x dx C f:Addr}{mA:Str→Option Value}{name:Str}{v:Value}
theorem xx1 {expr:Bool}{Q:Value→Ab→Prop}(X:K.In s.heap)(I:ObjM s.heap x dx C mA)(hg:PySem.W.plainGet K C name=true)(hh:PySem.W.hasDictIn K C=true)
  (ha:PySem.W.findIn K (.ref C) name=some none) (hv:mA name=some v) (hv':PySem.W.handedIn v=true) (h:Q v { s with toks:=s.toks+1 }) :
  wpAny (model prog w) A (getAttr (.ref x) name expr) Q E s:=by
 obtain ⟨od,J,hl⟩:=I.look
 exact PySem.W.get_value X J (fZ hg).1 (PySem.W.findObj_own hh ha rfl (by rw [hl,hv])) hv' h
theorem wy5 {pl:Sem Bool}{Q:Value×List Value→Ab→Prop}(X:K.In s.heap)(I:ObjM s.heap x dx C mA)(hg:PySem.W.plainGet K C name=true)
  (hf:PySem.W.findIn K (.ref C) name=some (some (.ref f))) (ht:PySem.W.isFn K (.ref f)=true) (hv:mA name=none) (h:Q (.ref f,[.ref x]) s) :
  wpAny (model prog w) A (getMethod (.ref x) name pl) Q E s:=by
 obtain ⟨od,J,hl⟩:=I.look
 exact PySem.W.method_fn X J (fZ hg).1 (fZ hg).2 hf (d8.mp ht) (by show (PySem.W.lookIn name od).map (·.isSome)=some false;rw [hl,hv];rfl) h
theorem xw4 {ns:List Str}{Q:Unit→Ab→Prop}(X:K.In s.heap)(I:ObjM s.heap x dx C mA)
  (hs:PySem.W.findIn K (.ref C) "__setattr__" = some (some (.builtin "object.__setattr__"))) (hp:PySem.W.plainOver K C=true) (ht:PySem.W.takerIn K C name=some none) (hh:PySem.W.hasDictIn K C=true)
  (hw:PySem.Within mA ns) (hsz:ns.length≤sizeLine)
  (h:∀h',ObjM h' x dx C (λy=>if y=name then some v else mA y)→Heap.SameBut dx s.heap h'→Q () { s with heap:=h',toks:=s.toks+2 }) :
  wpAny (model prog w) A (setAttr (.ref x) name v) Q E s:=by
 obtain ⟨od,J,hl⟩:=I.look
 refine PySem.W.set_plain X J hs (PySem.W.osa_open (s:={ s with toks:=s.toks+1 }) (r:=none) X J hp ht λb=>?_)
 obtain ⟨cd,hc,hd'⟩:=PySem.W.any_some hh
 have hx:s.heap.get? x=some ⟨.ref C,some dx,.plain,#[]⟩:=I.obj
 refine wpAny_bind (wpAny_pure (wpAny_bind (wpAny_bind (wpAny_loadPart hx (wpAny_bind (PySem.W.Looks.here (s:={ s with toks:=s.toks+1 }) (PySem.W.looks_clsIn X hc) ?_))))))
 rw [hd']
 refine wpAny_pure (a:=some dx) (wpAny_bind (wpAny_pure (wpAny_bind ?_)))
 refine wpAny_nsSet1 (s:={ s with toks:=s.toks+1 }) I.ns λh' hn2 hs2=>?_
 obtain ⟨oD,esD,epD,hoD,hdD,hcD⟩:=hn2.count (PySem.Within.cons name v hw)
 refine wpAny_bind (wpAny_lookBehind hoD (by rw [hdD];exact pastItsLine_dict (bo hcD (by rw [ax];omega))) ?_)
 exact wpAny_pure (h _ ⟨(hs2.2 _ (dt I.ne)).trans I.obj,hn2,I.ne⟩ hs2)
theorem wuh {R:Result→Ab→Prop}{vs:List Value}{kw:List (Str×Value)}(X:K.In s.heap)(hm:PySem.W.makesIn K C=true)
  (hi:PySem.W.findIn K (.ref C) "__init__" = some (some (.ref f))) (hf:PySem.W.typeIn K (.ref f)=some (.type "function"))
  (h:codeAny (model prog w) (A.under (.builtin "type.__call__" ⟨.ref C::vs,kw⟩)) (.call (.ref f) ⟨.ref (s.heap.objs.size+1)::vs,kw⟩) (PySem.W.InitBack (s.heap.objs.size+1) R)
   { s with heap:=(s.heap.push PySem.W.emptyDict).push (PySem.W.instObj C s.heap.objs.size) }) :
  codeAny (model prog w) A (.call (.ref C) ⟨vs,kw⟩) R s:=by
 obtain ⟨hh,g,d,t,os⟩:=s
 exact PySem.W.make_core (PySem.W.makes_of X hm) (PySem.W.looks_findIn X hi) (λself=>PySem.W.bind_fn X self hf) (.inl rfl) h
end
def Q0 (f:Str)(v:V):List (Str×V)→List (Str×V)
 |[]=>[(f,v)]
 |(g,x)::r=>if g=f then (g,v)::r else (g,x)::Q0 f v r
theorem Jf (f g:Str)(v:V):∀fs:List (Str×V),(Q0 f v fs).lookup g=if g=f then some v else fs.lookup g
 |[]=>by
  show List.lookup g [(f,v)]=_
  by_cases h:g=f
  ·have hb:(g==f)=true:=d8.mpr h
   simp only [List.lookup,hb,if_pos h]
  ·have hb:(g==f)=false:=bV.mpr h
   simp only [List.lookup,hb,if_neg h]
 |(k,x)::r=>by
  have ih:=Jf f g v r
  rw [show Q0 f v ((k,x)::r)=(if k=f then (k,v)::r else (k,x)::Q0 f v r) from rfl]
  by_cases hk:k=f
  ·rw [if_pos hk]
   by_cases h:g=k
   ·have hb:(g==k)=true:=d8.mpr h
    simp only [List.lookup,hb,if_pos (h.trans hk)]
   ·have hb:(g==k)=false:=bV.mpr h
    simp only [List.lookup,hb,if_neg (λe:g=f=>h (e.trans hk.symm))]
  ·rw [if_neg hk]
   by_cases h:g=k
   ·have hb:(g==k)=true:=d8.mpr h
    simp only [List.lookup,hb,if_neg (λe:g=f=>hk (h.symm.trans e))]
   ·have hb:(g==k)=false:=bV.mpr h
    simp only [List.lookup,hb]
    exact ih
theorem Z6 (f:Str)(v:V):∀fs:List (Str×V),f∈(Q0 f v fs).map (·.1)∧∀g,g∈fs.map (·.1)→g∈(Q0 f v fs).map (·.1)
 |[]=>⟨by simp [Q0],λg h=>by simp at h⟩
 |(k,x)::r=>by
  obtain ⟨i1,i2⟩:=Z6 f v r
  rw [show Q0 f v ((k,x)::r)=(if k=f then (k,v)::r else (k,x)::Q0 f v r) from rfl]
  by_cases hk:k=f
  ·rw [if_pos hk]
   subst hk
   exact ⟨by simp,λg h=>by simpa using h⟩
  ·rw [if_neg hk]
   refine ⟨?_,λg h=>?_⟩
   ·rw [aF]
    exact List.mem_cons_of_mem _ i1
   ·rw [aF] at h ⊢
    rcases ay.mp h with e|e
    ·exact ay.mpr (.inl e)
    ·exact List.mem_cons_of_mem _ (i2 g e)
theorem Jh (f:Str)(v:V):∀fs:List (Str×V),(Q0 f v fs).length≤fs.length+1
 |[]=>by simp [Q0]
 |(k,x)::r=>by
  have ih:=Jh f v r
  rw [show Q0 f v ((k,x)::r)=(if k=f then (k,v)::r else (k,x)::Q0 f v r) from rfl]
  by_cases hk:k=f
  ·rw [if_pos hk,ax,ax];omega
  ·rw [if_neg hk,ax,ax];omega
theorem RelO.some_of {v:V}{o:Option Value}(r:RelO (some v) o):∃u,o=some u∧RelV v u:=by
 cases o with
 |none=>exact (show False from r).elim
 |some u=>exact ⟨u,rfl,r⟩
theorem RelO.none_of {o:Option Value}(r:RelO none o):o=none:=by
 cases o with
 |none=>rfl
 |some u=>exact (show False from r).elim
theorem wk4 {v:V}{u:Value}(r:RelV v u):PySem.W.handedIn u=true:=by
 cases v with
 |non=>cases (show u=Value.none from r);rfl
 |bl b=>cases (show u=Value.bool b from r);rfl
 |int i=>obtain ⟨t,e⟩:=(show ∃t,u=Value.int i t from r);cases e;rfl
 |str x=>obtain ⟨t,e⟩:=(show ∃t,u=Value.str x t from r);cases e;rfl
 |byt b=>obtain ⟨t,e⟩:=(show ∃t,u=Value.bytes b t from r);cases e;rfl
 |flt b=>obtain ⟨t,e⟩:=(show ∃t,u=Value.float b t from r);cases e;rfl
 |ref a=>cases (show u=Value.ref a from r);rfl
 |ty n=>cases (show u=Value.type n from r);rfl
section
variable {P:Ac}{w:World}{H H':Hp}{h h':Heap}{a C dx:Addr}{fs fs':List (Str×V)}
theorem qqt (hok:HOk P w H h)(e:H a=some (.ins C dx fs)):∃mA,ObjM h a dx C mA∧(∀f,RelO (fs.lookup f) (mA f))∧PySem.Within mA (fs.map (·.1))∧fs.length≤1000∧H dx=some (.own a):=by
 obtain ⟨d,z,ne,ob,mA,n,r,q⟩:=(show ObjOk P w H h a (.ins C dx fs) from hok a _ e)
 exact ⟨mA,⟨ob,n,ne⟩,r,q,z,d⟩
end
structure Cls (K:Aa)(C:Addr):Prop where
 pg:PySem.W.plainGet K C Str.empty=true
 hd:PySem.W.hasDictIn K C=true
 po:PySem.W.plainOver K C=true
 sa:PySem.W.findIn K (.ref C) "__setattr__" = some (some (.builtin "object.__setattr__"))
theorem Cls.get {K:Aa}{C:Addr}(c:Cls K C)(f:Str):PySem.W.plainGet K C f=true:=c.pg
def NoAttr (K:Aa)(C:Addr)(f:Str):Prop:=PySem.W.findIn K (.ref C) f=some none
theorem NoAttr.taker {K:Aa}{C:Addr}{f:Str}(n:NoAttr K C f):PySem.W.takerIn K C f=some none:=by
 unfold PySem.W.takerIn
 rw [show PySem.W.findIn K (.ref C) f=some none from n]
 rfl
structure Con (K:Aa)(C:Addr)(f:Str)(v:V)(u:Value):Prop where
 at_:PySem.W.findIn K (.ref C) f=some (some u)
 rel:RelV v u
 get:PySem.W.specialIn K u "__get__" = some none
 cp:PySem.W.copiedNames.contains f=false
structure Meth (K:Aa)(C:Addr)(m:Str)(f:Addr):Prop where
 at_:PySem.W.findIn K (.ref C) m=some (some (.ref f))
 fn:PySem.W.isFn K (.ref f)=true
 kp:PySem.W.keepIn K (.ref f)=true
section
variable {X:Cx}{pins:List (Addr×Obj)}{σ:St}{H:Hp}{s:Ab}{a C dx:Addr}{fs:List (Str×V)}{f:Str}{v:V}{A:Around}{E:Value→Ab→Prop}
theorem wxy {b:Bool}{Q:Value→Ab→Prop}(I:Inv X pins σ H s)(e:H a=some (.ins C dx fs))(c:Cls X.K C)(n:NoAttr X.K C f)(l:fs.lookup f=some v)
  (h:∀u s',Inv X pins σ H s'→RelV v u→Q u s'):wpAny (model X.prog X.w) A (getAttr (.ref a) f b) Q E s:=by
 obtain ⟨mA,O,r,_,_,_⟩:=qqt I.hok e
 obtain ⟨u,hu,ru⟩:=RelO.some_of (v:=v) (o:=mA f) (by rw [←l];exact r f)
 exact xx1 I.kIn O (c.get f) c.hd n hu (wk4 ru) (h u _ (I.tok _) ru)
theorem qx4 {m:Str}{g:Addr}{pl:Sem Bool}{Q:Value×List Value→Ab→Prop}(I:Inv X pins σ H s)(e:H a=some (.ins C dx fs))(c:Cls X.K C)(k:Meth X.K C m g)(l:fs.lookup m=none)
  (h:Q (.ref g,[.ref a]) s):wpAny (model X.prog X.w) A (getMethod (.ref a) m pl) Q E s:=by
 obtain ⟨mA,O,r,_,_,_⟩:=qqt I.hok e
 have hn:mA m=none:=RelO.none_of (by rw [←l];exact r m)
 exact wy5 I.kIn O (c.get m) k.at_ k.fn hn h
theorem wxb {y:V}{u:Value}{Q:Unit→Ab→Prop}(I:Inv X pins σ H s)(e:H a=some (.ins C dx fs))(c:Cls X.K C)(n:NoAttr X.K C f)(hl:fs.length<1000)(ry:RelV y u)
  (h:∀s',Inv X pins σ (upd H a (.ins C dx (Q0 f y fs))) s'→Q () s'):wpAny (model X.prog X.w) A (setAttr (.ref a) f u) Q E s:=by
 obtain ⟨mA,O,r,wi,_,ho⟩:=qqt I.hok e
 have hz:(fs.map (·.1)).length≤sizeLine:=by rw [List.length_map,c0];omega
 refine xw4 I.kIn O c.sa c.po n.taker c.hd wi hz λh' O' sb=>h _ ?_
 have hd:∃o,h'.get? dx=some o:=let ⟨o,_,_,e',_⟩:=O'.ns;⟨o,e'⟩
 refine I.write (x:=a) (e:=dx) (by rw [e];exact True.intro) (.inr ho) (λb q hb z=>(sb.2 b hb).trans z) hd ?_
 refine ⟨by rw [qr O.ne];exact ho,?_,O.ne,O'.obj,_,O'.ns,λg=>?_,λg hg=>?_⟩
 ·have:=Jh f y fs;omega
 ·show RelO ((Q0 f y fs).lookup g) (if g=f then some u else mA g)
  rw [Jf]
  by_cases q:g=f
  ·rw [if_pos q,if_pos q];exact ry
  ·rw [if_neg q,if_neg q];exact r g
 ·by_cases q:g=f
  ·rw [q];exact (Z6 f y fs).1
  ·refine (Z6 f y fs).2 g (wi g λz=>hg ?_)
   show (if g=f then some u else mA g)=none
   rw [if_neg q];exact z
theorem Inv.made (I:Inv X pins σ H s):Inv X pins σ (upd (upd H s.heap.objs.size (.own (s.heap.objs.size+1))) (s.heap.objs.size+1) (.ins C s.heap.objs.size []))
  { s with heap:=(s.heap.push PySem.W.emptyDict).push (PySem.W.instObj C s.heap.objs.size) }:=by
 have e1:(s.heap.push PySem.W.emptyDict).get? s.heap.objs.size=some PySem.W.emptyDict:=ak s.heap rfl
 have e2:((s.heap.push PySem.W.emptyDict).push (PySem.W.instObj C s.heap.objs.size)).get? (s.heap.objs.size+1)=some (PySem.W.instObj C s.heap.objs.size):=by
  have:=ak (s.heap.push PySem.W.emptyDict) (o:=PySem.W.instObj C s.heap.objs.size) rfl
  rwa [bw] at this
 have e3:(s.heap.push PySem.W.emptyDict).Ns s.heap.objs.size (λ_=>none):=⟨PySem.W.emptyDict,#[],_,e1,rfl,(λe he=>absurd he (by simp)),λ_=>rfl⟩
 have I1:=I.laid (a:=s.heap.objs.size) (o:=.own (s.heap.objs.size+1)) (h':=s.heap.push PySem.W.emptyDict) (t':=s.toks) (λb u q=>Heap.get?_push_of_some _ q) (Nat.le_refl _) ⟨_,e1⟩
 refine I1.laid (a:=s.heap.objs.size+1) (o:=.ins C s.heap.objs.size []) (t':=s.toks) (λb u q=>Heap.get?_push_of_some _ q) (Nat.le_of_eq (bw _ _)) ?_
 have ne:s.heap.objs.size≠s.heap.objs.size+1:=ar (cK _)
 refine ⟨by rw [qr ne,qb],aN _,ne,e2,λ_=>none,(Heap.Ns1.of_empty e3).at λo q=>Heap.get?_push_of_some _ q,λ_=>True.intro,λy hy=>absurd rfl hy⟩
theorem xx3 {prog:Ac}{w:World}{env:Env}{e:Expr}{f:Str}{pos:Pos}{s:Ab}{Q:Value→Ab→Prop}(hb:attributeBase e f env (eval e env)=eval e env)
  (h:wpAny (model prog w) A (eval e env) (λo s₁=>wpAny (model prog w) A (getAttr o f true) Q E s₁) E s):wpAny (model prog w) A (eval (.Attribute e f pos) env) Q E s :=
 Attribute_any_ h (by rw [arm_eval_Attribute,hb])
end
def tFld (K:Aa)(ta:TE)(f:Str):TE:=λσ H Q=>ta σ H λx H1=>∃a C dx fs v,x=.ref a∧H1 a=some (.ins C dx fs)∧Cls K C∧NoAttr K C f∧fs.lookup f=some v∧Q v H1
def sFld (K:Aa)(ta tv:TE)(f:Str):TS:=λD σ H=>tv σ H λy H1=>ta σ H1 λx H2=>∃a C dx fs,x=.ref a∧H2 a=some (.ins C dx fs)∧Cls K C∧NoAttr K C f∧fs.length<1000 ∧
 D.nx σ (upd H2 a (.ins C dx (Q0 f y fs)))
section
variable {X:Cx}{o e value:Expr}{f:Str}{pos pos' tpos:Pos}{ta tv:TE}
theorem www (he:PE X e ta)(hb:attributeBase e f X.env (eval e X.env)=eval e X.env):PE X (.Attribute e f pos) (tFld X.K ta f):=by
 intro pins s σ H Q I h
 refine xx3 hb (thn (he pins s σ H _ I h) λu s1 ⟨x,H1,I1,rx,a,C,dx,fs,v,ex,ea,c,n,l,q⟩=>?_)
 subst ex
 obtain rfl:u=Value.ref a:=rx
 exact wxy I1 ea c n l λu' s2 I2 ru=>⟨v,H1,I2,ru,q⟩
theorem ps_fld (ha:PE X o ta)(hv:PE X value tv)(hs:swapsWith value (some (.Attribute o f pos')) pos.line X.env=pure false):PS X (.Assign [.Attribute o f pos'] value pos) (sFld X.K ta tv f):=by
 intro pins s σ H D I h
 refine plainObj_wpAny_Assign_Attribute (thn (hv pins s σ H _ I h) λu s1 ⟨y,H1,I1,ry,q⟩=>thn (ha pins s1 σ H1 _ I1 q) λov s2 ⟨x,H2,I2,rx,a,C,dx,fs,ex,ea,c,n,l,q2⟩=>?_) hs
 subst ex
 obtain rfl:ov=Value.ref a:=rx
 exact wxb I2 ea c n l ry λs3 I3=>⟨σ,_,I3,q2⟩
end
section
variable {X:Cx}{pins:List (Addr×Obj)}{σ:St}{H:Hp}{s:Ab}{A:Around}{E:Value→Ab→Prop}{Q:Value→Ab→Prop}{c:Value}{b:Bool}
inductive TyOf (K:Aa) (H:Hp):V→Value→Prop where
 |non:TyOf K H .non (.type "NoneType")
 |bl (x:Bool):TyOf K H (.bl x) (.type "bool")
 |int (i:Int):TyOf K H (.int i) (.type "int")
 |str (x:Str):TyOf K H (.str x) (.type "str")
 |flt (x:UInt64):TyOf K H (.flt x) (.type "float")
 |lst {a:Addr} {xs:List V} (e:H a=some (.lst xs)):TyOf K H (.ref a) (.type "list")
 |frz {a:Addr} {o:Obj} {xs:List V} (e:H a=some (.frz o (.lst xs))):TyOf K H (.ref a) (.type "list")
 |tup {a:Addr} {xs:List V} (e:H a=some (.tup xs)):TyOf K H (.ref a) (.type "tuple")
 |dK {a:Addr} {kvs:List (Key×V)} (e:H a=some (.dK kvs)):TyOf K H (.ref a) (.type "dict")
 |dT {a:Addr} {kvs:List (List Key×V)} (e:H a=some (.dT kvs)):TyOf K H (.ref a) (.type "dict")
 |ins {a C dx:Addr} {fs:List (Str×V)} (e:H a=some (.ins C dx fs)) (cl:Cls K C) (ha:PySem.W.findIn K (.ref C) "__class__" = some (some (.builtin "object.__class__")))
   (hn:PySem.W.specialIn K (.builtin "object.__class__") "__get__" = some (some (.builtin "getset_descriptor.__get__"))) (htk:PySem.W.takesIn K (.builtin "object.__class__")=some true)
   (hm:PySem.W.mroIn K C (.type "object")=some true):TyOf K H (.ref a) (.ref C)
theorem wj0 {x:V}{u t:Value}(I:Inv X pins σ H s)(rx:RelV x u)(ty:TyOf X.K H x t)(e:PySem.W.kitOne X.K t c=some b)(h:∀tk,Q (.bool b) { s with toks:=tk }) :
  wpAny (model X.prog X.w) A (call (.builtin "isinstance") [u,c]) Q E s:=by
 cases ty with
 |non=>cases (show u=Value.none from rx);exact bZ PySem.W.kitx_none I.kIn True.intro e (λz=>nomatch z) h
 |bl y=>cases (show u=Value.bool y from rx);exact bZ PySem.W.kitx_bool I.kIn True.intro e (λz=>nomatch z) h
 |int i=>obtain ⟨t,q⟩:=(show ∃t,u=Value.int i t from rx);cases q;exact bZ PySem.W.kitx_int I.kIn True.intro e (λz=>nomatch z) h
 |str y=>obtain ⟨t,q⟩:=(show ∃t,u=Value.str y t from rx);cases q;exact bZ PySem.W.kitx_str I.kIn True.intro e (λz=>nomatch z) h
 |flt y=>obtain ⟨t,q⟩:=(show ∃t,u=Value.float y t from rx);cases q;exact bZ PySem.W.kitx_float I.kIn True.intro e (λz=>nomatch z) h
 |@lst a xs ea =>
  cases (show u=Value.ref a from rx)
  obtain ⟨_,_,n,_,h1⟩:=(show ObjOk X.prog X.w H s.heap a (.lst xs) from I.hok a _ ea)
  exact bZ PySem.W.kitx_list I.kIn ⟨_,h1,rfl⟩ e (λz=>nomatch z) h
 |@frz a ob xs ea =>
  cases (show u=Value.ref a from rx)
  obtain ⟨_,_,_,n,_,h1⟩:=(show ObjOk X.prog X.w H s.heap a (.frz ob (.lst xs)) from I.hok a _ ea)
  exact bZ PySem.W.kitx_list I.kIn ⟨_,h1,rfl⟩ e (λz=>nomatch z) h
 |@tup a xs ea =>
  cases (show u=Value.ref a from rx)
  obtain ⟨_,_,_,p⟩:=(show ObjOk X.prog X.w H s.heap a (.tup xs) from I.hok a _ ea)
  obtain ⟨o,h1,h2,_⟩:=p
  exact bZ PySem.W.kitx_tuple I.kIn ⟨o,h1,h2⟩ e (λz=>nomatch z) h
 |@dK a kvs ea =>
  cases (show u=Value.ref a from rx)
  obtain ⟨_,_,vs,_,p⟩:=(show ObjOk X.prog X.w H s.heap a (.dK kvs) from I.hok a _ ea)
  obtain ⟨o,es,ep,h1,h2,_⟩:=p
  exact bZ PySem.W.kitx_dict I.kIn ⟨o,h1,h2.1⟩ e (λz=>nomatch z) h
 |@dT a kvs ea =>
  cases (show u=Value.ref a from rx)
  obtain ⟨_,_,xs,_,o,es,ep,h1,h2,_⟩:=(show ObjOk X.prog X.w H s.heap a (.dT kvs) from I.hok a _ ea)
  exact bZ PySem.W.kitx_dict I.kIn ⟨o,h1,h2.1⟩ e (λz=>nomatch z) h
 |@ins a C dx fs ea cl ha hn htk hm =>
  cases (show u=Value.ref a from rx)
  obtain ⟨mA,O,_⟩:=qqt I.hok ea
  obtain ⟨od,J,_⟩:=O.look
  exact bZ (PySem.W.kitx_own (cl.get _) cl.hd ha hn htk hm) I.kIn J e (λz=>nomatch z) h
end
structure Room (k:Nat)(A:Around):Prop where
 hd:A.handled=none
 dp:A.depth+3*k+5<recursionLimit
 un:A.units+16*k+200<cLine
theorem Room.mono {j k:Nat}{A:Around}(r:Room k A)(h:j≤k):Room j A:=⟨r.hd,by have:=r.dp;omega,by have:=r.un;omega⟩
theorem Room.deeper {k:Nat}{A:Around}(r:Room (k+1) A)(env:Env):Room k (A.deeper env) :=
 ⟨r.hd,by have:=r.dp;show A.depth+1+3*k+5<_;omega,by have:=r.un;show A.units+3+16*k+200<_;omega⟩
theorem Room.in1 {k:Nat}{A:Around}(r:Room (k+1) A):Room k A.in1 :=
 ⟨r.hd,by have:=r.dp;show A.depth+3*k+5<_;omega,by have:=r.un;show A.units+1+16*k+200<_;omega⟩
theorem wwz {A:Around}{C:Addr}{us:List Value}{kw:List (Str×Value)}:(A.under (.builtin "type.__call__" ⟨.ref C::us,kw⟩)).depth=A.depth+1:=by
 first | rfl | simp [Around.under,Code.weight,Code.isCreation,Code.isGuard,Code.isCaller,Code.frames,Code.isFrame,guardIds]
theorem wwu {A:Around}{C:Addr}{us:List Value}{kw:List (Str×Value)}:(A.under (.builtin "type.__call__" ⟨.ref C::us,kw⟩)).units=A.units+1:=by
 first | rfl | simp [Around.under,Code.cUnits,Code.frames,Code.isFrame]
theorem Room.make {k:Nat}{A:Around}(r:Room (k+1) A)(C:Addr)(us:List Value)(kw:List (Str×Value)):Room k (A.under (.builtin "type.__call__" ⟨.ref C::us,kw⟩)) :=
 ⟨r.hd,by have:=r.dp;rw [wwz];omega,by have:=r.un;rw [wwu];omega⟩
theorem Room.depth {k:Nat}{A:Around}(r:Room k A):A.depth<recursionLimit:=by have:=r.dp;omega
theorem Room.units {k:Nat}{A:Around}(r:Room k A):A.units+64<cLine:=by have:=r.un;omega
def qq4:TA:=λ_ H Q=>Q [] H
def jh (ta:TE)(tr:TA):TA:=λσ H Q=>ta σ H λx H1=>tr σ H1 λxs H2=>Q (x::xs) H2
section
variable {X:Cx}{e:Expr}{es:List Expr}{te:TE}{t:TA}{pos:Pos}
theorem qv:PA X [] qq4:=λ_ _ _ _ H Q I h=>Calls.spliced_nil ⟨[],H,I,.nil,h⟩
theorem qw (ha:PE X e te)(hr:PA X es t)(hs:starEach (e::es) X.env=(false,eval e X.env)::starEach es X.env:=by rfl):PA X (e::es) (jh te t):=by
 intro pos pins s σ H Q I h
 rw [hs]
 show wpAny _ _ (spliced ((false,eval e X.env)::backTo pos (starEach es X.env))) _ _ s
 refine Calls.spliced_cons (thn (ha pins s σ H _ I h) λu s1 ⟨x,H1,I1,r1,q1⟩=>?_)
 exact thn (hr pos pins s1 σ H1 _ I1 q1) λus s2 ⟨xs,H2,I2,r2,q2⟩=>⟨x::xs,H2,I2,.cons r1 r2,q2⟩
def tTup (t:TA):TE:=λσ H Q=>t σ H λxs H1=>xs.length≤sizeLine∧∀p,H1 p=none→Q (.ref p) (upd H1 p (.tup xs))
def tLst (t:TA):TE:=λσ H Q=>t σ H λxs H1=>xs.length≤sizeLine∧∀p,H1 p=none→Q (.ref p) (upd H1 p (.lst xs))
theorem yh {x1}(h:PA X es t):PE X (.Tuple es x1 pos) (tTup t):=by
 intro pins s σ H Q I hq
 refine wpAny_Tuple_spliced (thn (h pos pins s σ H _ I hq) λus s1 ⟨xs,H1,I1,r,z,q⟩=>⟨by rw [←r.length];exact z,?_⟩)
 have hf:H1 s1.heap.objs.size=none:=I1.hok.fresh (Nat.le_refl _)
 refine ⟨.ref s1.heap.objs.size,upd H1 s1.heap.objs.size (.tup xs),I1.laid (t':=s1.toks) (λb u e=>Heap.get?_push_of_some _ e) (Nat.le_refl _) ?_,rfl,q _ hf⟩
 exact ⟨z,us,r,⟨_,ak _ rfl,rfl,_,rfl⟩⟩
theorem jx (h:PA X es t):PE X (.List es pos) (tLst t):=by
 intro pins s σ H Q I hq
 refine wpAny_List_spliced (thn (h pos pins s σ H _ I hq) λus s1 ⟨xs,H1,I1,r,z,q⟩=>⟨by rw [←r.length];exact z,?_⟩)
 have hf:H1 s1.heap.objs.size=none:=I1.hok.fresh (Nat.le_refl _)
 refine ⟨.ref s1.heap.objs.size,upd H1 s1.heap.objs.size (.lst xs),I1.laid (t':=s1.toks) (λb u e=>Heap.get?_push_of_some _ e) (Nat.le_refl _) ?_,rfl,q _ hf⟩
 exact ⟨z,us,0,r,ak _ rfl⟩
end
abbrev Sp:=List V→Hp→VK→XK→Prop
abbrev CXT:=List Env→Hp→Ab→XK→Value→Ab→Prop
structure Env0 (P:Ac)(w:World)(K:Aa)(mg:Str→Option Value)(base:Heap)(A:Around)(outer:List Env)(s:Ab)(H:Hp):Prop where
 frames:A.frames=some outer
 mod:Mod K mg base
 bs:∀b o,base.get? b=some o→s.heap.get? b=some o∧H b=none
 bsz:base.objs.size≤s.heap.objs.size
 funs:s.heap.FunFrames base outer
 frf:∀b∈frs outer,H b=none
 hok:HOk P w H s.heap
 bare:AllBare s.gens
def CE (outer:List Env)(P:Ac)(w:World)(H:Hp)(s:Ab)(Q:VK)(u:Value)(s':Ab):Prop :=
 ∃v H',s'.os=s.os∧AllBare s'.gens∧Un (frs outer) [] H H' s.heap s'.heap∧HOk P w H' s'.heap∧RelV v u∧Q v H'
def CR (CX:CXT)(outer:List Env)(P:Ac)(w:World)(H:Hp)(s:Ab)(Q:VK)(E:XK)(r:Result)(s':Ab):Prop :=
 match r with
 |.ok (.ret u)=>CE outer P w H s Q u s'
 |.ok _=>False
 |.error e=>CX outer H s E e s'
structure FnOk (P:Ac)(w:World)(K:Aa)(mg:Str→Option Value)(base:Heap)(CX:CXT)(k:Nat)(f:Addr)(fd:Ad)(ps:List Str)(sp:Sp):Prop where
 len:∀vs H Q E,sp vs H Q E→vs.length=ps.length
 run:∀(A:Around) (outer:List Env) (s:Ab) (H:Hp) (args:Args) (us:List Value) (vs:List V) (Q:VK) (E:XK),Room k A→Env0 P w K mg base A outer s H→BindsTo s fd args (ps.zip us)→Vals vs us→sp vs H Q E →
  codeAny (model P w) A (.call (.ref f) args) (CR CX outer P w H s Q E) s
theorem Env0.make {P:Ac}{w:World}{K:Aa}{mg:Str→Option Value}{base:Heap}{A:Around}{outer:List Env}{s:Ab}{H:Hp}(e:Env0 P w K mg base A outer s H)(C:Addr)(us:List Value)(kw:List (Str×Value)) :
  Env0 P w K mg base (A.under (.builtin "type.__call__" ⟨.ref C::us,kw⟩)) outer s H:=⟨by first | exact e.frames | (simpa [Around.under,Code.envs,Code.isFrame,pushEnvs] using e.frames),e.mod,e.bs,e.bsz,e.funs,e.frf,e.hok,e.bare⟩
theorem Env0.in1 {P:Ac}{w:World}{K:Aa}{mg:Str→Option Value}{base:Heap}{A:Around}{outer:List Env}{s:Ab}{H:Hp}(e:Env0 P w K mg base A outer s H) :
  Env0 P w K mg base A.in1 outer s H:=⟨e.frames,e.mod,e.bs,e.bsz,e.funs,e.frf,e.hok,e.bare⟩
section
variable {X:Cx}{pins:List (Addr×Obj)}{σ:St}{H:Hp}{s s':Ab}
theorem Inv.env0 (I:Inv X pins σ H s):Env0 X.prog X.w X.K X.mg X.base X.A X.stack s H :=
 ⟨I.ok.frames,I.ok.mod,I.bs,bo I.ok.bsz I.sz,I.stack,I.stkFree,I.hok,I.bare⟩
theorem Inv.after {Q:VK}{u:Value}(I:Inv X pins σ H s)(h:CE X.stack X.prog X.w H s Q u s'):EP X pins σ Q u s':=by
 obtain ⟨v,H',os,bare,un,hok,r,q⟩:=h
 obtain ⟨hh,g,d,t,os'⟩:=s'
 obtain rfl:os'=s.os:=os
 exact ⟨v,H',I.call (h':=hh) (g':=g) (d':=d) (t':=t) (ch:=[]) un hok bare (λb z=>absurd z (by simp)),r,q⟩
end
def Binds (K:Aa)(fd:Ad)(ps:List Str)(ds:List Value):Prop :=
 ∀(s:Ab) (us:List Value),K.In s.heap→(us++ds).length=ps.length→BindsTo s fd ⟨us,[]⟩ (ps.zip (us++ds))
theorem Binds.all {K:Aa}{fd:Ad}{ps:List Str}(h:∀us:List Value,us.length=ps.length→bindArgs fd ⟨us,[]⟩=pure (ps.zip us)):Binds K fd ps []:=λs us _ hl=>by
 rw [bK] at hl ⊢
 exact .of_eq (h us hl)
section
variable {X:Cx}{CX:CXT}{k:Nat}{f C:Addr}{fd:Ad}{ps:List Str}{sp:Sp}{dvs:List V}{ds:List Value}{E:XK}{x m:Str}{p pos apos:Pos}{e o:Expr}{es:List Expr}{ta:TE}{t:TA}
structure Mk (K:Aa)(C f:Addr):Prop where
 makes:PySem.W.makesIn K C=true
 init:PySem.W.findIn K (.ref C) "__init__" = some (some (.ref f))
 fn:PySem.W.isFn K (.ref f)=true
 kp:PySem.W.keepIn K (.ref C)=true
end
def PK (X:Cx)(kws:List Keyword)(t:TA):Prop :=
 ∀(pos:Pos) (pins:List (Addr×Obj)) (s:Ab) (σ:St) (H:Hp) (Q:List V→Hp→Prop),Inv X pins σ H s→t σ H Q→wpAny (model X.prog X.w) X.A (evalAll ((backToKw pos (keywordEach kws X.env)).map (·.2))) (AP X pins σ Q) X.xe s
section
variable {X:Cx}{CX:CXT}{k:Nat}{f C:Addr}{fd:Ad}{ps ks:List Str}{sp:Sp}{E:XK}{x m:Str}{p pos apos kpos:Pos}{e o:Expr}{es:List Expr}{kws:List Keyword}{te ta:TE}{t tk:TA}{nm:Option Str}
theorem wu6:PK X [] qq4:=λ_ _ _ _ H Q I h=>wpAny_evalAll_nil ⟨[],H,I,.nil,h⟩
theorem wvu (ha:PE X e te)(hr:PK X kws t):PK X (⟨nm,e,kpos⟩::kws) (jh te t):=by
 intro pos pins s σ H Q I h
 show wpAny _ _ (evalAll ((do let v ←eval e X.env;standAt pos;pure v)::(backToKw pos (keywordEach kws X.env)).map (·.2))) _ _ s
 refine wpAny_evalAll_cons (wpAny_bind (thn (ha pins s σ H _ I h) λu s1 ⟨x,H1,I1,r1,q1⟩=>wpAny_bind (cy (wpAny_pure ?_))))
 exact thn (hr pos pins s1 σ H1 _ I1 q1) λus s2 ⟨xs,H2,I2,r2,q2⟩=>⟨x::xs,H2,I2,.cons r1 r2,q2⟩
structure KBinds (K:Aa)(fd:Ad)(ps ks:List Str)(g:List Value→List Value→List Value)(gV:List V→List V→List V):Prop where
 to:∀(s:Ab) (us ws:List Value),K.In s.heap→(g us ws).length=ps.length→BindsTo s fd ⟨us,ks.zip ws⟩ (ps.zip (g us ws))
 rel:∀ {vs:List V} {us:List Value} {zs:List V} {ws:List Value},Vals vs us→Vals zs ws→Vals (gV vs zs) (g us ws)
variable {g:List Value→List Value→List Value}{gV:List V→List V→List V}
end
structure FnScope (N P:List Str)(sc:Scope):Prop where
 kind:sc.kind=.function
 co:sc.isCoroutine=false
 gen:sc.isGenerator=false
 nd:N.Nodup
 pre:N.take P.length=P
 par:∀x∈P,sc.names.lookup x=some .local∨sc.names.lookup x=some .cell
 nofree:∀y∈sc.names,y.2≠.free
theorem qv1 {kindOf:Str→Option NameKind}{x:Str}:∀ {binds:List (Str×Value)} {m:Str→Option Value},(∀v,(x,v)∉binds)→bindL kindOf binds m x=m x
 |[],_,_=>rfl
 |(n,v)::r,m,h=>by
  unfold bindL
  rw [qv1 λw hw=>h w (List.mem_cons_of_mem _ hw)]
  split
  ·have:x≠n:=by rintro rfl;exact h v List.mem_cons_self
   simp [this]
  ·rfl
theorem qz9 {kindOf:Str→Option NameKind}{x:Str}:∀ {binds:List (Str×Value)} {m:Str→Option Value},(∀v,(x,v)∉binds)→bindC kindOf binds m x=m x
 |[],_,_=>rfl
 |(n,v)::r,m,h=>by
  unfold bindC
  rw [qz9 λw hw=>h w (List.mem_cons_of_mem _ hw)]
  split
  ·rfl
  ·have:x≠n:=by rintro rfl;exact h v List.mem_cons_self
   simp [this]
theorem qvv {kindOf:Str→Option NameKind}{x:Str}{v:Value}:∀ {P:List Str} {vs:List Value} {i:Nat} {m:Str→Option Value},P.Nodup→P[i]?=some x→vs[i]?=some v→kindOf x=some .local →
  bindL kindOf (P.zip vs) m x=some v
 |[],_,_,_,_,h,_,_=>by simp at h
 |_::_,[],_,_,_,_,h,_=>by simp at h
 |p::P,w::vs,0,m,nd,h1,h2,hk=>by
  simp at h1 h2;subst h1;subst h2
  show bindL kindOf ((p,w)::P.zip vs) m p=_
  unfold bindL
  rw [qv1 λv hv=>(cE.mp nd).1 (iA hv).1,if_pos hk]
  simp
 |p::P,w::vs,i+1,m,nd,h1,h2,hk=>by
  show bindL kindOf ((p,w)::P.zip vs) m x=_
  unfold bindL
  exact qvv (i:=i) (cE.mp nd).2 (by simpa using h1) (by simpa using h2) hk
theorem qvd {kindOf:Str→Option NameKind}{x:Str}{v:Value}:∀ {P:List Str} {vs:List Value} {i:Nat} {m:Str→Option Value},P.Nodup→P[i]?=some x→vs[i]?=some v→kindOf x≠some .local →
  bindC kindOf (P.zip vs) m x=some v
 |[],_,_,_,_,h,_,_=>by simp at h
 |_::_,[],_,_,_,_,h,_=>by simp at h
 |p::P,w::vs,0,m,nd,h1,h2,hk=>by
  simp at h1 h2;subst h1;subst h2
  show bindC kindOf ((p,w)::P.zip vs) m p=_
  unfold bindC
  rw [qz9 λv hv=>(cE.mp nd).1 (iA hv).1,if_neg hk]
  simp
 |p::P,w::vs,i+1,m,nd,h1,h2,hk=>by
  show bindC kindOf ((p,w)::P.zip vs) m x=_
  unfold bindC
  exact qvd (i:=i) (cE.mp nd).2 (by simpa using h1) (by simpa using h2) hk
def Q8 (N:List Str)(vs:List V):St:=vs.map some++List.replicate (N.length-vs.length) none
def qx7 (CX:CXT)(P:Ac)(w:World)(K:Aa)(mg:Str→Option Value)(base:Heap)(N:List Str)(qual:Str)(scope:Scope)(f:Addr)(cd:Value)(A:Around)(outer:List Env)(s:Ab)(H:Hp)(E:XK):Cx where
 prog:=P
 w:=w
 K:=K
 mg:=mg
 base:=base
 A:=A.deeper (envOfC qual scope s.heap.objs.size f cd)
 N:=N
 s₀:=s
 H₀:=H
 env:=envOfC qual scope s.heap.objs.size f cd
 outer:=outer
 stack:=envOfC qual scope s.heap.objs.size f cd::outer
 ex:=[]
 calm:=true
 fn:=λ_=>true
 pn:=[]
 xe:=λe s'=>wpAny (model P w) (A.deeper (envOfC qual scope s.heap.objs.size f cd)) (leaving (envOfC qual scope s.heap.objs.size f cd) e) (λ_ s''=>CX outer H s E e s'') (λe' s''=>CX outer H s E e' s'') s'
theorem qut {sc:Scope}{n:Nat}{x:Str}(h:sc.names.lookup x=some .cell):∃c,(cellsFrom n sc.names []).lookup x=some c:=by
 have q:=PySem.W.cellsFrom_some sc.names n [] (.inl h)
 exact eG.mp q
theorem wjk {CX:CXT}{P:Ac}{w:World}{K:Aa}{mg:Str→Option Value}{base:Heap}{N ps:List Str}{qual:Str}{scope:Scope}{f:Addr}{cd:Value}{A:Around}{outer:List Env}{s s1:Ab}{H:Hp}{E:XK}{us:List Value}{vs:List V}
  (S:FnScope N ps scope) (hd:A.handled=none) (e0:Env0 P w K mg base A outer s H) (hl:vs.length=ps.length) (r:Vals vs us)
  (x:InCallC s s.heap.objs.size (bindL (envOfC qual scope s.heap.objs.size f cd).kindOf (ps.zip us) λ_=>none) (cellsFrom (s.heap.objs.size+1) scope.names []) (bindC (envOfC qual scope s.heap.objs.size f cd).kindOf (ps.zip us) λ_=>none) s1) :
  Inv (qx7 CX P w K mg base N qual scope f cd A outer s H E) [] (Q8 N vs) H s1:=by
 have hpl:ps.length≤N.length:=by have:=bX List.length S.pre;rw [aL] at this;omega
 obtain ⟨h1,tk,rfl,hk⟩:=x.done
 have noA:∀b:Addr,b∉(qx7 CX P w K mg base N qual scope f cd A outer s H E).ex:=λb z=>absurd (show b∈([]:List Addr) from z) (by simp)
 refine ⟨⟨e0.mod,S.kind,rfl,rfl,Nat.le_refl _,λy z c h1 h2=>?_,λy hy=>?_,λy c _ h=>?_,λ_=>hd,Around.frames_deeper e0.frames,.inr ⟨rfl,rfl⟩,λb z=>absurd z (noA b),e0.bs,e0.bsz,λb _ _=>noA b,λb z=>absurd z (noA b),e0.funs,e0.frf⟩,
  rfl,e0.bare,Un.kept hk,⟨_,x.toInCall.ns,λi y v h1 h2 h3=>?_⟩,λy c h=>⟨_,x.cell y c h⟩,e0.hok.fresh (Nat.le_refl _),λy c h=>?_,λp hp=>absurd (show p∈([]:List (Addr×Obj)) from hp) (by simp),e0.hok.kept hk,?_⟩
 ·exact name_of_addr x.apart (cX h1) (cX h2)
 ·have hy:scope.names.lookup y=some .cell∨scope.names.lookup y=some .free:=hy
  rcases hy with hy|hy
  ·exact qut hy
  ·exact absurd rfl (S.nofree _ (cX hy))
 ·exact Nat.le_of_lt (x.above y c (cX h))
 ·have hi:i<vs.length:=by
   unfold Q8 at h2
   by_cases hi:i<vs.length
   ·exact hi
   ·rw [av (by simpa using hi)] at h2
    rw [List.getElem?_replicate] at h2
    split at h2 <;> cases h2
  have ha:vs[i]?=some v:=by
   unfold Q8 at h2
   rw [aK (by simpa using hi),ao] at h2
   cases e:vs[i]? with
   |none=>rw [e] at h2;cases h2
   |some a=>rw [e] at h2;cases h2;rfl
  obtain ⟨u,hu,rv⟩:=r.get ha
  have hp:ps[i]?=some y:=by
   rw [←S.pre,gX (by omega)];exact h1
  have ndP:ps.Nodup:=by rw [←S.pre];exact S.nd.sublist (List.take_sublist _ _)
  refine ⟨u,rv,?_⟩
  rcases S.par y (aA hp) with k|k
  ·exact .inl ⟨k,qvv ndP hp hu k⟩
  ·obtain ⟨c,e⟩:=qut (n:=s.heap.objs.size+1) k
   refine .inr ⟨.inl k,c,e,?_⟩
   have q:=x.cell y c e
   rw [qvd ndP hp hu (by show scope.names.lookup y≠_;rw [k];decide)] at q
   exact q
 ·exact e0.hok.fresh (Nat.le_of_lt (x.above y c (cX h)))
 ·unfold Q8
  show _=N.length
  rw [ai,List.length_map,List.length_replicate]
  omega
theorem wy9 {CX:CXT}{P:Ac}{w:World}{K:Aa}{mg:Str→Option Value}{base:Heap}{k:Nat}{f:Addr}{name qual:Str}{params:Arguments}{body:List Stmt}{scope:Scope}{dV kV doc pm cdv ct oc:Value}{an od:Option Addr}
  {osl:Array (Option Value)} {N ps:List Str} {sp:Sp} (lk:K.lookup f=some ⟨oc,od,.func (PySem.W.fnOf name qual params body scope dV kV doc pm an cdv ct),osl⟩) (hcd:PySem.W.codeIn K cdv qual=true) (S:FnScope N ps scope)
  (len:∀vs H Q E,sp vs H Q E→vs.length=ps.length)
  (hbody:∀(A:Around) (outer:List Env) (s:Ab) (H:Hp) (vs:List V) (Q:VK) (E:XK),Room k (A.deeper (envOfC qual scope s.heap.objs.size f cdv))→sp vs H Q E →
   ∃t,PSs (qx7 CX P w K mg base N qual scope f cdv A outer s H E) body t∧t { nx:=λ_ H'=>Q .non H',rt:=Q } (Q8 N vs) H) :
  FnOk P w K mg base CX (k+1) f (PySem.W.fnOf name qual params body scope dV kV doc pm an cdv ct) ps sp:=by
 refine ⟨len,λA outer s H args us vs Q E hr e0 hb r hsp=>?_⟩
 have hl:=len _ _ _ _ hsp
 have KX:K.In s.heap:=e0.mod.kin.keeps λb o e=>(e0.bs b o e).1
 have lim:s.heap.NoLimit:=e0.mod.nolimit.keeps λb o e=>(e0.bs b o e).1
 have hkind:∀y∈ps.zip us,scope.names.lookup y.1=some .local∨(scope.names.lookup y.1=some .cell∧((cellsFrom (s.heap.objs.size+1) scope.names []).lookup y.1).isSome=true):=λ⟨n,v⟩ hy=>by
  rcases S.par n (iA hy).1 with q|q
  ·exact .inl q
  ·exact .inr ⟨q,PySem.W.cellsFrom_some _ _ _ (.inl q)⟩
 refine codeAny_call_function hr.depth (KX _ _ lk) rfl S.co S.gen rfl (PySem.W.codeRec_of KX hcd) (hb _ _ _ _ ?_)
 refine wpAny_newFunctionEnv_cells S.kind hkind λenv he s1 x=>?_
 subst he
 refine ⟨lim.keeps x.toInCall.keep,codeAny_func ?_⟩
 obtain ⟨t,ht,hq⟩:=hbody A outer s H vs Q E (hr.deeper _) hsp
 have I:Inv (qx7 CX P w K mg base N qual scope f cdv A outer s H E) [] (Q8 N vs) H s1:=wjk S hr.hd e0 hl r x
 refine aS (ht [] s1 (Q8 N vs) H _ I hq) (λfl s' hs=>?_) λe s' hs=>hs
 have fin:∀ {σ':St} {H':Hp} {v:V} {u:Value},Inv (qx7 CX P w K mg base N qual scope f cdv A outer s H E) [] σ' H' s'→RelV v u→Q v H'→CE outer P w H s Q u s' :=
  λ{σ' H' v u} J rv q=>⟨v,H',J.os,J.bare,J.base,J.hok,rv,q⟩
 cases fl with
 |ret u =>
  obtain ⟨v,σ',H',J,rv,q⟩:=hs
  exact fin J rv q
 |next =>
  obtain ⟨σ',H',J,q⟩:=hs
  exact fin (v:=V.non) (u:=Value.none) J rfl q
 |brk =>
  obtain ⟨_,_,_,q⟩:=hs
  exact False.elim q
 |cont =>
  obtain ⟨_,_,_,q⟩:=hs
  exact False.elim q
section
variable {X:Cx}{x:Str}{p pos:Pos}{e:Expr}{es:List Expr}{t:TA}{id T:String}{r:List V→Hp→VK→Prop}
def tCB (r:List V→Hp→VK→Prop)(t:TA):TE:=λσ H Q=>t σ H λvs H1=>r vs H1 Q
theorem q9 (hc:v8 X (.builtin id) r)(hg:Gl X x)(hm:X.mg x=none)(hv:bootBuiltins x=some (.builtin id))(ha:PA X (e::es) t)(hn:x ≠ "__name__" := by decide)(hdb:(x==("__debug__" : Str))=false:=by decide)
  (he:starEach (e::es) X.env=(false,eval e X.env)::starEach es X.env:=by rfl) (hpl:(backTo pos (starEach es X.env)).any (·.1)=false:=by rfl):PE X (.Call (.Name x p) (e::es) [] pos) (tCB r t):=by
 intro pins s σ H Q I h
 refine cL (jf I hg hm hv ?_ hn hdb)
 exact PyProof.Rows.callWith_builtin1 (thn (ha pos pins s σ H _ I h) λus s1 ⟨vs,H1,I1,r1,q1⟩=>hc pins s1 σ H1 vs us Q I1 r1 q1) he hpl
theorem Z5 (hc:v8 X (.type T) r)(hg:Gl X x)(hm:X.mg x=none)(hv:bootBuiltins x=some (.type T))(ha:PA X (e::es) t)(hn:x ≠ "__name__" := by decide)(hdb:(x==("__debug__" : Str))=false:=by decide)
  (he:starEach (e::es) X.env=(false,eval e X.env)::starEach es X.env:=by rfl) (hpl:(backTo pos (starEach es X.env)).any (·.1)=false:=by rfl):PE X (.Call (.Name x p) (e::es) [] pos) (tCB r t):=by
 intro pins s σ H Q I h
 refine cL (jf I hg hm hv ?_ hn hdb)
 exact bI (thn (ha pos pins s σ H _ I h) λus s1 ⟨vs,H1,I1,r1,q1⟩=>hc pins s1 σ H1 vs us Q I1 r1 q1) he hpl
end
end L2
namespace HT
open PySem PyProof.Rows
section
open PySem.SeqAt
open PySem.AutoSeq1 (wpAny_loadPart')
open PySem.MeetsSeq PySem.MeetsSeq2 PySem.MeetsSeq3
end
section
variable {prog:Ac}{w:World}{A:Around}{E:Value→Ab→Prop}{s:Ab}
theorem cat_tup {t b:Addr}{vs ws:List Value}{Q:Value→Ab→Prop}(ht:IsTup s.heap t vs.toArray)(hb:IsTup s.heap b ws.toArray)(hv:vs≠[])
  (h1:ws=[]→Q (.ref t) s) (h2:ws≠[]→Q (.ref s.heap.objs.size) { s with heap:=s.heap.push { cls:=.type "tuple",data:=.seq (vs++ws).toArray } })
  (hsz:vs.length+ws.length≤sizeLine):wpAny (model prog w) A (binaryOp .Add (.ref t) (.ref b)) Q E s:=by
 obtain ⟨⟨cls,dd,data,sl⟩,ho,hc,n,hd⟩:=id ht
 obtain ⟨⟨cls2,dd2,data2,sl2⟩,ho2,hc2,n2,hd2⟩:=id hb
 simp only at hc hd hc2 hd2
 subst hc hd hc2 hd2
 have e:vs.toArray++ws.toArray=(vs++ws).toArray:=by simp
 by_cases hw:ws=[]
 ·exact concat_meets ⟨_,ho,rfl⟩ ⟨_,ho2,rfl⟩ hU seq_tuple_add eY eR (eH _ _)
   (tuple_addW1 t b vs.toArray ws.toArray n n2 dd dd2 sl sl2 (by simpa using hv) (by simp [hw])) ⟨ho,ho2,h1 hw⟩
 ·refine concat_meets ⟨_,ho,rfl⟩ ⟨_,ho2,rfl⟩ hU seq_tuple_add eY eR (eH _ _)
   (tuple_addW2 t b vs.toArray ws.toArray n n2 dd dd2 sl sl2 (by simpa using hv) (by simpa using hw) (by rw [ah,ah];exact hsz)) ⟨ho,ho2,?_⟩
  rw [e]
  exact h2 hw
def sIx (n d:Nat):Option Int→Nat
 |none=>d
 |some v=>if v<0 then (v+(n:Int)).toNat else min v.toNat n
theorem sIx_none (n d:Nat):sIx n d none=d:=rfl
theorem sIx_nat (n d k:Nat):sIx n d (some (k:Int))=min k n:=by
 show (if (k:Int)<0 then ((k:Int)+(n:Int)).toNat else min (k:Int).toNat n)=min k n
 rw [if_neg (by omega),bA]
theorem sIx_le (n d:Nat)(hd:d≤n)(o:Option Int):sIx n d o≤n:=by
 cases o with
 |none=>exact hd
 |some v =>
  show (if v<0 then (v+(n:Int)).toNat else min v.toNat n)≤n
  by_cases hv:v<0
  ·rw [if_pos hv];omega
  ·rw [if_neg hv];exact Nat.min_le_right _ _
theorem wzp (v:Int)(n d:Nat):(if v<0 then max (v+(n:Int)) 0 else min v (n:Int))=((sIx n d (some v):Nat):Int):=by
 show (if v<0 then max (v+(n:Int)) 0 else min v (n:Int))=(((if v<0 then (v+(n:Int)).toNat else min v.toNat n):Nat):Int)
 by_cases hv:v<0
 ·simp only [if_pos hv];omega
 ·simp only [if_neg hv];omega
theorem wqn (lo hi:Option Int)(n:Nat):Builtin.Slice.sliceAdjust lo hi 1 (n:Int)=(((sIx n 0 lo:Nat):Int),((sIx n n hi:Nat):Int)):=by
 have h1:¬ ((1:Int)<0):=by omega
 unfold Builtin.Slice.sliceAdjust
 simp only [h1,bj]
 refine hX ?_ ?_
 ·cases lo with
  |none=>rfl
  |some v=>exact wzp v n 0
 ·cases hi with
  |none=>rfl
  |some v=>exact wzp v n n
theorem ww9 (i j:Nat):Builtin.Slice.slicePlaces (i:Int) (j:Int) 1=j-i:=by
 unfold Builtin.Slice.slicePlaces
 have h1:(1:Int)>0:=by omega
 simp only [h1,cg,Int.ediv_one]
 split <;> omega
theorem qx0 {v:Value}{o:Option Int}{Q:Option Int→Ab→Prop}(p:IsPart v o)(h:Q o s):wpAny (model prog w) A (Builtin.Slice.slicePartIndex v) Q E s:=by
 cases p with
 |none=>exact slicePart_none h
 |int i t=>exact slicePart_int h
theorem jr {sl:Addr}{vl vu:Value}{lo hi:Option Int}{n:Nat}{Q:Int×Int×Nat→Ab→Prop}(hs:s.heap.IsSliceOf sl vl vu .none)(pl:IsPart vl lo)(pu:IsPart vu hi)
  (h:Q (((sIx n 0 lo:Nat):Int),1,sIx n n hi-sIx n 0 lo) s):wpAny (model prog w) A (Builtin.Slice.sliceApplied (.ref sl) (pure (n:Int))) Q E s:=by
 obtain ⟨os,hos,hcs,hds⟩:=id hs
 unfold Builtin.Slice.sliceApplied Builtin.Slice.sliceFields
 refine wpAny_bind (wpAny_bind (cm hos hds (x:=vl) rfl (wpAny_bind (cm hos hds (x:=vu) rfl (wpAny_bind (cm hos hds (x:=.none) rfl (wpAny_pure ?_)))))))
 refine wpAny_bind (slicePart_none ?_)
 show wpAny _ _ (if ((1:Int)==0)=true then _ else _) _ _ s
 rw [if_neg (by decide)]
 refine wpAny_bind (qx0 pl (wpAny_bind (qx0 pu (wpAny_bind (wpAny_pure ?_)))))
 show wpAny _ _ (match Builtin.Slice.sliceAdjust lo hi 1 (n:Int) with|(lo,hi)=>pure (lo,(1:Int),Builtin.Slice.slicePlaces lo hi 1)) _ _ s
 rw [wqn lo hi n]
 show wpAny _ _ (pure (((sIx n 0 lo:Nat):Int),(1:Int),Builtin.Slice.slicePlaces ((sIx n 0 lo:Nat):Int) ((sIx n n hi:Nat):Int) 1)) _ _ s
 rw [ww9]
 exact wpAny_pure h
theorem wux (xs:Array Value)(i k:Nat):((List.range k).filterMap λ(m:Nat)=>xs[((i:Int)+(m:Int)*1).toNat]?).toArray=((xs.toList.drop i).take k).toArray:=by
 have e:(λ(m:Nat)=>xs[((i:Int)+(m:Int)*1).toNat]?)=λm=>xs[i+m]?:=by
  funext m
  have:((i:Int)+(m:Int)*1).toNat=i+m:=by omega
  rw [this]
 rw [e]
 have:=pick_run xs i k
 rw [List.filterMap_map] at this
 have e2:((λx=>xs[x]?)∘λx=>i+x)=λm=>xs[i+m]?:=rfl
 rw [e2] at this
 rw [this]
theorem getItem_tuple_cut {t sl:Addr}{items:Array Value}{vl vu:Value}{lo hi:Option Int}{Q:Value→Ab→Prop}(ht:IsTup s.heap t items)(hs:s.heap.IsSliceOf sl vl vu .none)(pl:IsPart vl lo)(pu:IsPart vu hi)
  (hw:¬ (sIx items.size 0 lo=0∧sIx items.size items.size hi=items.size))
  (h:Q (.ref s.heap.objs.size) { s with heap:=s.heap.push { cls:=.type "tuple",data:=.seq ((items.toList.drop (sIx items.size 0 lo)).take (sIx items.size items.size hi-sIx items.size 0 lo)).toArray } })
  (hsz:items.size≤sizeLine):wpAny (model prog w) A (getItem (.ref t) (.ref sl)) Q E s:=by
 have htake:sizeOk (.seq ((items.toList.drop (sIx items.size 0 lo)).take (sIx items.size items.size hi-sIx items.size 0 lo)).toArray):=by
  show ((items.toList.drop (sIx items.size 0 lo)).take (sIx items.size items.size hi-sIx items.size 0 lo)).toArray.size≤sizeLine
  rw [ah,aL,br,aJ]
  omega
 have hj:sIx items.size items.size hi≤items.size:=sIx_le _ _ (Nat.le_refl _) hi
 obtain ⟨os,hos,hcs,hds⟩:=id hs
 have hTs:s.TypeIs (.ref sl) "slice" := ⟨os,hos,hcs⟩
 unfold getItem
 try with_reducible refine wpAny_holding ?_
 first | refine wpAny_bind (wpAny_pure ?_) | skip
 refine wpAny_bind (wpAny_sequenceKey ht.typeIs (by decide) ?_)
 refine wpAny_bind (wpAny_callSpecial?_slot (name:=Str.ofString "__getitem__") ht.typeIs bJ
  (wpAny_call_entry bJ ht.typeIs entry_tuple_getitem ?_ (args_tuple_getitem _ _)))
 show wpAny _ _ (Builtin.Tuple.tupleItemsOf (.ref t) >>= _) _ _ s
 refine wpAny_bind (tupleItemsOf_ ht ?_)
 refine wpAny_bind (gf hTs ?_)
 rw [if_pos (by decide)]
 refine wpAny_bind (jr hs pl pu ?_)
 have hno:¬ ((((sIx items.size 0 lo:Nat):Int)==0&&(1:Int)==1&&(sIx items.size items.size hi-sIx items.size 0 lo)==items.size)=true):=by
  intro q
  rw [bi,bi] at q
  have q1:((sIx items.size 0 lo:Nat):Int)=0:=eq_of_beq q.1.1
  have q2:sIx items.size items.size hi-sIx items.size 0 lo=items.size:=eq_of_beq q.2
  exact hw ⟨by omega,by omega⟩
 show wpAny _ _ (if (((sIx items.size 0 lo:Nat):Int)==0&&(1:Int)==1&&(sIx items.size items.size hi-sIx items.size 0 lo)==items.size)=true then _ else _) _ _ s
 rw [if_neg hno,wux]
 first
  |exact wpAny_bind (m:=Builtin.Tuple.tupleExact _) (bp (wpAny_pure ⟨_,rfl,wpAny_pure h⟩) htake)
  |exact wpAny_bind (m:=Builtin.Tuple.tupleExact _) (bp (wpAny_bind (wpAny_pure (wpAny_pure ⟨_,rfl,wpAny_pure h⟩))) htake)
  |exact wpAny_bind (wpAny_bind (m:=Builtin.Tuple.tupleExact _) (bp (wpAny_pure (wpAny_pure ⟨_,rfl,wpAny_pure h⟩)) htake))
  |exact wpAny_bind (wpAny_bind (m:=Builtin.Tuple.tupleExact _) (bp (wpAny_pure ⟨_,rfl,wpAny_pure h⟩) htake))
end
end HT
namespace L2
open PySem PySem.Spec PyProof.Rows
abbrev TO:=St→Hp→(Option Int→Hp→Prop)→Prop
def PO (X:Cx)(e:Option Expr)(t:TO):Prop :=
 ∀(pins:List (Addr×Obj)) (s:Ab) (σ:St) (H:Hp) (Q:Option Int→Hp→Prop),Inv X pins σ H s→t σ H Q →
  wpAny (model X.prog X.w) X.A (evalPart e X.env) (λu s'=>∃o H',Inv X pins σ H' s'∧IsPart u o∧Q o H') X.xe s
def qkd:TO:=λ_ H Q=>Q none H
def xqg (t:TE):TO:=λσ H Q=>t σ H λx H1=>∃i,x=.int i∧Q (some i) H1
theorem yc {ns:List Int}:∀ {us:List Value},Vals (ns.map V.int) us→IntsAre us ns:=by
 induction ns with
 |nil=>intro us r;rw [cP] at r;cases r;exact .nil
 |cons n ns ih =>
  intro us r
  rw [aF] at r
  cases r with
  |cons r1 r2 =>
   obtain ⟨t,e⟩:=r1
   subst e
   exact .cons n t (ih r2)
section
variable {X:Cx}{e:Expr}{te:TE}{lo hi:Option Expr}{tl th:TO}{pos p2:Pos}
theorem wvk:PO X none qkd:=by
 intro pins s σ H Q I h
 rw [evalPart_none]
 exact wpAny_pure ⟨none,H,I,.none,h⟩
theorem qqc (h:PE X e te):PO X (some e) (xqg te):=by
 intro pins s σ H Q I hw
 rw [evalPart_some]
 refine thn (h pins s σ H _ I hw) λu s1 ⟨x,H1,I1,r1,q1⟩=>?_
 obtain ⟨i,rfl,q⟩:=q1
 obtain ⟨t,rfl⟩:=r1
 exact ⟨some i,H1,I1,.int i t,q⟩
def SlR (X:Cx)(r:V→Option Int→Option Int→Hp→VK→Prop):Prop :=
 ∀(pins:List (Addr×Obj)) (s:Ab) (σ:St) (H:Hp) (x:V) (v vl vu:Value) (lo hi:Option Int) (sl:Addr) (Q:VK),Inv X pins σ H s→RelV x v→s.heap.IsSliceOf sl vl vu .none→IsPart vl lo→IsPart vu hi→r x lo hi H Q →
  ∃T id,typeLookup (.type T) "__getitem__" = pure (some (.builtin id))∧s.TypeIs v T∧wpAny (model X.prog X.w) X.A (getItem v (.ref sl)) (EP X pins σ Q) X.xe s
def tSl (r:V→Option Int→Option Int→Hp→VK→Prop)(te:TE)(tl th:TO):TE:=λσ H Q=>te σ H λx H1=>tl σ H1 λl H2=>th σ H2 λu H3=>r x l u H3 Q
theorem qxw {r:V→Option Int→Option Int→Hp→VK→Prop}(hr:SlR X r)(he:PE X e te)(hl:PO X lo tl)(hu:PO X hi th):PE X (.Subscript e (.Slice lo hi none p2) pos) (tSl r te tl th):=by
 intro pins s σ H Q I h
 refine Subscript_ (thn (he pins s σ H _ I h) λv s1 ⟨x,H1,I1,r1,q1⟩=>?_)
 refine wpAny_Slice (thn (hl pins s1 σ H1 _ I1 q1) λvl s2 ⟨l,H2,I2,pl,q2⟩=>thn (hu pins s2 σ H2 _ I2 q2) λvu s3 ⟨u,H3,I3,pu,q3⟩=>?_)
 rw [evalPart_none]
 refine wpAny_pure ?_
 have I4:Inv X pins σ H3 { s3 with heap:=s3.heap.push { cls:=.type "slice",data:=.fields #[vl,vu,.none] } }:=I3.kept (t':=s3.toks) λb ob q=>Heap.get?_push_of_some _ q
 obtain ⟨T,id,hT,ht,hg⟩:=hr pins { s3 with heap:=s3.heap.push { cls:=.type "slice",data:=.fields #[vl,vu,.none] } } σ H3 x v vl vu l u s3.heap.objs.size Q I4 r1 (Heap.IsSliceOf.new ..) pl pu q3
 show wpAny (model X.prog X.w) X.A (subscriptTail e (.Slice lo hi none p2) v (.ref s3.heap.objs.size)) (EP X pins σ Q) X.xe { s3 with heap:=s3.heap.push { cls:=.type "slice",data:=.fields #[vl,vu,.none] } }
 exact tail_any (ops:=[.ref s3.heap.objs.size,v]) ht hT hg (by with_unfolding_all rfl)
def Wu (xs:List V)(lo hi:Option Int):List V:=(xs.drop (HT.sIx xs.length 0 lo)).take (HT.sIx xs.length xs.length hi-HT.sIx xs.length 0 lo)
theorem Jj (xs:List V)(lo hi:Option Int):(Wu xs lo hi).length≤xs.length:=by
 unfold Wu
 rw [aL,br]
 omega
def rSlT (K:Aa):V→Option Int→Option Int→Hp→VK→Prop:=λx lo hi H Q=>∃a xs,x=.ref a∧SqT K H a xs ∧
 ¬ (HT.sIx xs.length 0 lo=0∧HT.sIx xs.length xs.length hi=xs.length)∧∀p,H p=none→Q (.ref p) (upd H p (.tup (Wu xs lo hi)))
theorem sl_tup:SlR X (rSlT X.K):=by
 intro pins s σ H x v vl vu lo hi sl Q I rx hs pl pu h
 obtain ⟨a,xs,rfl,hx,hw,q⟩:=h
 cases rx
 obtain ⟨its,r,ht,hz⟩:=I.tuple hx
 have hlen:its.toArray.size=xs.length:=by rw [ah];exact r.length.symm
 refine ⟨"tuple",_,bJ.lookup,ht.typeIs,?_⟩
 refine HT.getItem_tuple_cut ht hs pl pu (by rw [hlen];exact hw) ?_ (by rw [hlen];exact hz)
 rw [hlen]
 refine ⟨.ref s.heap.objs.size,_,I.laid (t':=s.toks) (o:=.tup (Wu xs lo hi)) (λb ob q=>Heap.get?_push_of_some _ q) (Nat.le_refl _) ?_,rfl,q _ (I.hok.fresh (Nat.le_refl _))⟩
 exact ⟨bo (Jj xs lo hi) hz,_,(r.drop (HT.sIx xs.length 0 lo)).take (HT.sIx xs.length xs.length hi-HT.sIx xs.length 0 lo),IsTup.new _ _⟩
def rCatT (K:Aa):R2:=λx y H Q=>∃a b xs ys,x=.ref a∧y=.ref b∧SqT K H a xs∧SqT K H b ys∧xs≠[]∧xs.length+ys.length≤sizeLine ∧
 (ys=[]→Q (.ref a) H)∧(ys≠[]→∀p,H p=none→Q (.ref p) (upd H p (.tup (xs++ys))))
theorem Vals.nil_iff {xs:List V}{us:List Value}(r:Vals xs us):us=[]↔xs=[]:=by
 cases r with
 |nil=>simp
 |cons _ _=>simp
theorem xwg:OpR X (binaryOp .Add) (rCatT X.K):=by
 intro pins s σ H x y v u Q I rx ry h
 obtain ⟨a,b,xs,ys,rfl,rfl,ha,hb,hx,hz,q1,q2⟩:=h
 cases rx
 cases ry
 obtain ⟨its,r1,p1,_⟩:=I.tuple ha
 obtain ⟨its2,r2,p2,_⟩:=I.tuple hb
 refine HT.cat_tup p1 p2 (λz=>hx (r1.nil_iff.mp z)) (λz=>⟨.ref a,H,I,rfl,q1 (r2.nil_iff.mp z)⟩) (λz=>?_) (by rw [←r1.length,←r2.length];exact hz)
 refine ⟨.ref s.heap.objs.size,_,I.laid (t':=s.toks) (o:=.tup (xs++ys)) (λb ob q=>Heap.get?_push_of_some _ q) (Nat.le_refl _) ?_,rfl,q2 (λw=>z (r2.nil_iff.mpr w)) _ (I.hok.fresh (Nat.le_refl _))⟩
 exact ⟨by rw [ai];exact hz,_,r1.append r2,IsTup.new _ _⟩
end
def ixN (n:Nat)(i:Int):Option Nat:=if 0≤i then (if i<n then some i.toNat else none) else if -(n:Int)≤i then some (i+n).toNat else none
def atI {α:Type}(xs:List α)(i:Int):Option α:=(ixN xs.length i).bind λj=>xs[j]?
theorem xw8 {n:Nat}{i:Int}{j:Nat}(h:ixN n i=some j):seqIndex? i n=some j∧j<n∧-(n:Int)≤i∧i<n:=by
 unfold ixN at h
 by_cases h0:0≤i
 ·rw [if_pos h0] at h
  by_cases h1:i<n
  ·rw [if_pos h1] at h
   have e:i.toNat=j:=aj h
   exact ⟨by rw [seqIndex_of h0 h1,e],by omega,by omega,h1⟩
  ·rw [if_neg h1] at h;cases h
 ·rw [if_neg h0] at h
  by_cases h1:-(n:Int)≤i
  ·rw [if_pos h1] at h
   have e:(i+n).toNat=j:=aj h
   exact ⟨by rw [seqIndex_neg (by omega) h1,e],by omega,h1,by omega⟩
  ·rw [if_neg h1] at h;cases h
theorem wzc {α:Type}{xs:List α}{i:Int}{v:α}(h:atI xs i=some v):∃j,seqIndex? i xs.length=some j∧xs[j]?=some v∧j<xs.length∧-(xs.length:Int)≤i∧i<xs.length:=by
 unfold atI at h
 cases e:ixN xs.length i with
 |none=>rw [e] at h;cases h
 |some j =>
  rw [e] at h
  obtain ⟨h1,h2,h3,h4⟩:=xw8 e
  exact ⟨j,h1,h,h2,h3,h4⟩
theorem vy {α:Type}{xs:List α}{j:Nat}{v:α}(h:xs[j]?=some v):atI xs (j:Int)=some v:=by
 have hj:j<xs.length:=(ag.mp h).1
 have e:ixN xs.length (j:Int)=some j:=by
  unfold ixN
  rw [if_pos (by omega),if_pos (by omega)];simp
 unfold atI;rw [e];exact h
theorem Zb {α:Type}(xs:List α)(v:α):atI (xs++[v]) (-1)=some v:=by
 have hl:(xs++[v]).length=xs.length+1:=by simp
 have e:ixN (xs++[v]).length (-1)=some xs.length:=by
  unfold ixN
  rw [hl,if_neg (by decide),if_pos (by omega)]
  congr 1
  omega
 unfold atI
 rw [e]
 show (xs++[v])[xs.length]?=some v
 simp
def xzg (b:Expr):Prop:=∀o i,subscripted b false o i=operate [o,i] (getItem o i)
def IxR (X:Cx)(r:R2):Prop :=
 ∀(value slice:Expr) (pins:List (Addr×Obj)) (s:Ab) (σ:St) (H:Hp) (x y:V) (v u:Value) (Q:VK),Inv X pins σ H s→RelV x v→RelV y u→r x y H Q →
  subscripted slice false v u=operate [v,u] (getItem v u)→wpAny (model X.prog X.w) X.A (subscriptTail value slice v u) (EP X pins σ Q) X.xe s
def MtR (X:Cx)(id:String)(r:V→List V→Hp→VK→Prop):Prop :=
 ∀(pins:List (Addr×Obj)) (s:Ab) (σ:St) (H:Hp) (x:V) (xs:List V) (v:Value) (us:List Value) (Q:VK),Inv X pins σ H s→RelV x v→Vals xs us→r x xs H Q →
  wpAny (model X.prog X.w) X.A (call (.builtin id) (v::us)) (EP X pins σ Q) X.xe s
section
variable {X:Cx}{a b:Expr}{ta tb:TE}{pos:Pos}
theorem xm {r:R2}(hr:IxR X r)(ha:PE X a ta)(hb:PE X b tb)(hs:xzg b):PE X (.Subscript a b pos) (tOp r ta tb):=by
 intro pins s σ H Q I h
 exact Subscript_ (binT ha hb I h λv u s2 x y H2 I2 rx ry q=>hr a b pins s2 σ H2 x y v u Q I2 rx ry q (hs _ _))
def wwy (K:Aa):R2:=λx y H Q=>∃p xs i v,x=.ref p∧y=.int i∧SqL K H p xs∧atI xs i=some v∧Q v H
def rIxT (K:Aa):R2:=λx y H Q=>∃p xs i v,x=.ref p∧y=.int i∧SqT K H p xs∧atI xs i=some v∧Q v H
theorem zx:IxR X (wwy X.K):=by
 intro value slice pins s σ H x y v u Q I rx ry h hs
 obtain ⟨p,xs,i,z,rfl,rfl,hq,he,q⟩:=h
 cases rx
 obtain ⟨t,rfl⟩:=ry
 obtain ⟨its,r,pl,hz⟩:=I.list hq
 obtain ⟨j,h1,h2,h3,h4,h5⟩:=wzc he
 obtain ⟨w,ew,rw'⟩:=r.get h2
 have hl:=r.length
 have hn:=wwb
 have fin:EP X pins σ Q w s:=⟨z,H,I,rw',q⟩
 by_cases h0:0≤i
 ·have hj:i.toNat=j:=by
   rw [seqIndex_of h0 h5] at h1
   exact aj h1
  exact item_listR pl.isList h0 (by omega) (by rw [hj];simpa using ew) fin hs
 ·have hj:(i+(its.toArray.size:Int)).toNat=j:=by
   rw [seqIndex_neg (by omega) h4] at h1
   rw [ah,←hl]
   exact aj h1
  exact subscriptTail_builtinR (x:=w) pl.isList.typeIs slot_list_getitem.lookup
   (wpAny_getItem_list_neg (Q:=λr s'=>r=w∧EP X pins σ Q r s') pl.isList (by omega) (by rw [ah] <;> omega) (by omega) (by rw [hj];simpa using ew) ⟨rfl,fin⟩) hs
theorem kn:IxR X (rIxT X.K):=by
 intro value slice pins s σ H x y v u Q I rx ry h hs
 obtain ⟨p,xs,i,z,rfl,rfl,hq,he,q⟩:=h
 cases rx
 obtain ⟨t,rfl⟩:=ry
 obtain ⟨its,r,pl,hz⟩:=I.tuple hq
 obtain ⟨j,h1,h2,h3,h4,h5⟩:=wzc he
 obtain ⟨w,ew,rw'⟩:=r.get h2
 have hl:=r.length
 have hn:=wwb
 have fin:EP X pins σ Q w s:=⟨z,H,I,rw',q⟩
 exact subscriptTail_builtinR (x:=w) pl.typeIs slot_tuple_getitem.lookup
  (getItem_tuple (j:=j) (Q:=λr s'=>r=w∧EP X pins σ Q r s') pl (by omega) (by omega) (by rw [ah,←hl];exact h1) (by simpa using ew) ⟨rfl,fin⟩) hs
theorem qkr (lo hi:Option Int)(n:Nat):(sliceBounds lo hi none n).1=((HT.sIx n 0 lo:Nat):Int)∧(sliceBounds lo hi none n).2.1=((HT.sIx n n hi:Nat):Int)∧(sliceBounds lo hi none n).2.2=1:=by
 refine ⟨?_,?_,rfl⟩
 ·cases lo with
  |none=>simp [sliceBounds,HT.sIx]
  |some i =>
   simp only [sliceBounds,HT.sIx,Option.getD_none,show (1:Int)>0 by decide,cg]
   by_cases h:i<0
   ·simp only [h,cg] <;> omega
   ·simp only [h,bj] <;> omega
 ·cases hi with
  |none=>simp [sliceBounds,HT.sIx]
  |some i =>
   simp only [sliceBounds,HT.sIx,Option.getD_none,show (1:Int)>0 by decide,cg]
   by_cases h:i<0
   ·simp only [h,cg] <;> omega
   ·simp only [h,bj] <;> omega
theorem qzf (its:List Value)(lo hi:Option Int):slicePick its.toArray lo hi none=((its.drop (HT.sIx its.length 0 lo)).take (HT.sIx its.length its.length hi-HT.sIx its.length 0 lo)).toArray:=by
 obtain ⟨h1,h2,h3⟩:=qkr lo hi its.toArray.size
 unfold slicePick
 rw [h1,h2,h3]
 simp only [sliceRange_one,pick_run,ah] <;> rfl
def rSlL (K:Aa):V→Option Int→Option Int→Hp→VK→Prop:=λx lo hi H Q=>∃a xs,x=.ref a∧SqL K H a xs∧∀p,H p=none→Q (.ref p) (upd H p (.lst (Wu xs lo hi)))
theorem xxg:SlR X (rSlL X.K):=by
 intro pins s σ H x v vl vu lo hi sl Q I rx hs pl pu h
 obtain ⟨a,xs,rfl,hx,q⟩:=h
 cases rx
 obtain ⟨its,r,ht,hz⟩:=I.list hx
 have hlen:=r.length
 refine ⟨"list",_,slot_list_getitem.lookup,ht.isList.typeIs,?_⟩
 refine wpAny_getItem_list_slice ht.isList hs pl pu .none (by simp) ?_ (by rw [ah] <;> omega)
 rw [qzf,←hlen]
 refine ⟨.ref s.heap.objs.size,_,I.laid (t':=s.toks) (o:=.lst (Wu xs lo hi)) (λb ob q=>Heap.get?_push_of_some _ q) (Nat.le_refl _) ?_,rfl,q _ (I.hok.fresh (Nat.le_refl _))⟩
 exact ⟨bo (Jj xs lo hi) hz,_,0,(r.drop (HT.sIx xs.length 0 lo)).take (HT.sIx xs.length xs.length hi-HT.sIx xs.length 0 lo),ak _ rfl⟩
def W5:V→Bool
 |.non=>true
 |.bl _=>true
 |.int _=>true
 |.str _=>true
 |_=>false
def eqV:V→V→Bool
 |.non,.non=>true
 |.bl a,.bl b=>a==b
 |.bl a,.int b=>(if a then 1 else 0)==b
 |.int a,.bl b=>a==(if b then 1 else 0)
 |.int a,.int b=>a==b
 |.str a,.str b=>a==b
 |_,_=>false
theorem eqAt_V {A:Around}{s:Ab}{y x:V}{u v:Value}(ry:RelV y u)(rx:RelV x v)(fy:W5 y=true)(fx:W5 x=true):SeqAt.EqAt A s u v (eqV y x):=by
 cases y with
 |non =>
  cases ry
  cases x with
  |non=>cases rx;exact SeqAt.EqAt.same _
  |bl b=>cases rx;exact SeqAt.EqAt.none_bool b
  |int b=>obtain ⟨t,rfl⟩:=rx;exact SeqAt.EqAt.none_int b t
  |str b=>obtain ⟨t,rfl⟩:=rx;exact SeqAt.EqAt.none_str b t
  |_=>exact absurd (show false=true from fx) au
 |bl a =>
  cases ry
  cases x with
  |non=>cases rx;exact SeqAt.EqAt.bool_none a
  |bl b=>cases rx;exact SeqAt.EqAt.bool_bool a b
  |int b=>obtain ⟨t,rfl⟩:=rx;exact SeqAt.EqAt.bool_int a b t
  |str b=>obtain ⟨t,rfl⟩:=rx;exact SeqAt.EqAt.bool_str a b t
  |_=>exact absurd (show false=true from fx) au
 |int a =>
  obtain ⟨t',rfl⟩:=ry
  cases x with
  |non=>cases rx;exact SeqAt.EqAt.int_none a t'
  |bl b=>cases rx;exact SeqAt.EqAt.int_bool a t' b
  |int b=>obtain ⟨t,rfl⟩:=rx;exact gv a t' b t
  |str b=>obtain ⟨t,rfl⟩:=rx;exact SeqAt.EqAt.int_str a t' b t
  |_=>exact absurd (show false=true from fx) au
 |str a =>
  obtain ⟨t',rfl⟩:=ry
  cases x with
  |non=>cases rx;exact SeqAt.EqAt.str_none a t'
  |bl b=>cases rx;exact SeqAt.EqAt.str_bool a t' b
  |int b=>obtain ⟨t,rfl⟩:=rx;exact SeqAt.EqAt.str_int a t' b t
  |str b=>obtain ⟨t,rfl⟩:=rx;exact SeqAt.EqAt.str_str a t' b t
  |_=>exact absurd (show false=true from fx) au
 |_=>exact absurd (show false=true from fy) au
def eqU (x:V)(u:Value):Bool:=match u with
 |.none=>eqV .non x
 |.bool b=>eqV (.bl b) x
 |.int i _=>eqV (.int i) x
 |.str z _=>eqV (.str z) x
 |_=>false
theorem xqq {x y:V}{u:Value}(r:RelV y u)(f:W5 y=true):eqU x u=eqV y x:=by
 cases y with
 |non=>cases r;rfl
 |bl b=>cases r;rfl
 |int i=>obtain ⟨t,rfl⟩:=r;rfl
 |str z=>obtain ⟨t,rfl⟩:=r;rfl
 |_=>exact absurd (show false=true from f) au
theorem qv9 {x:V}:∀ {xs:List V} {us:List Value},Vals xs us→xs.all W5=true→us.any (eqU x)=xs.any λy=>eqV y x
 |_,_,.nil,_=>rfl
 |y::xs,u::us,.cons r t,f=>by
  rw [gY,bi] at f
  rw [iS,iS,xqq r f.1,qv9 t f.2]
theorem qxr {A:Around}{s:Ab}{x:V}{v:Value}(rx:RelV x v)(fx:W5 x=true):∀ {xs:List V} {us:List Value},Vals xs us→xs.all W5=true→∀u∈us,SeqAt.EqAt A s u v (eqU x u)
 |_,_,.nil,_=>λu hu=>by cases hu
 |y::xs,u::us,.cons r t,f=>λu' hu=>by
  rw [gY,bi] at f
  rcases ay.mp hu with rfl|hu
  ·rw [xqq r f.1];exact eqAt_V r rx f.1 fx
  ·exact qxr rx fx t f.2 u' hu
def inV (x:V)(xs:List V):Bool:=xs.any λy=>eqV y x
def rIn (K:Aa)(neg:Bool):R2:=λx y H Q=>∃p xs,y=.ref p∧(SqL K H p xs∨SqT K H p xs)∧W5 x=true∧xs.all W5=true∧Q (.bl (if neg then !inV x xs else inV x xs)) H
theorem qk8:OpR X (compareOp .NotIn) (rIn X.K true):=by
 intro pins s σ H x y v u Q I rx ry h
 obtain ⟨p,xs,rfl,hq,fx,fs,q⟩:=h
 cases ry
 rcases hq with hq|hq
 ·obtain ⟨its,r,pl,hz⟩:=I.list hq
  refine SeqAt.notIn_listAt (eqU x) pl.isList (λw hw=>qxr rx fx r fs w (by simpa using hw)) ⟨.bl _,H,I,rfl,?_⟩
  rw [show its.toArray.any (eqU x)=its.any (eqU x) by simp,qv9 r fs]
  exact q
 ·obtain ⟨its,r,pl,hz⟩:=I.tuple hq
  refine SeqAt.notIn_tupleAt (eqU x) pl (λw hw=>qxr rx fx r fs w (by simpa using hw)) ⟨.bl _,H,I,rfl,?_⟩
  rw [show its.toArray.any (eqU x)=its.any (eqU x) by simp,qv9 r fs]
  exact q
theorem wm:v8 X (.builtin "len") (λxs H Q=>∃p ys,xs=[.ref p]∧(SqL X.K H p ys∨SqT X.K H p ys)∧Q (.int ys.length) H):=by
 intro pins s σ H xs us Q I r h
 obtain ⟨p,ys,rfl,hq,q⟩:=h
 obtain ⟨u,rfl,rx⟩:=k7 r
 cases rx
 have hn:=wwb
 rcases hq with hq|hq
 ·obtain ⟨its,r',pl,hz⟩:=I.list hq
  have hlen:=r'.length
  exact Calls.call_len_list pl.isList (by simp only [ah] <;> omega) ⟨.int ys.length,H,I.tok _,⟨s.toks+1,by rw [ah,hlen]⟩,q⟩
 ·obtain ⟨its,r',pl,hz⟩:=I.tuple hq
  have hlen:=r'.length
  exact len_tuple pl (by simp only [ah] <;> omega) ⟨.int ys.length,H,I.tok _,⟨s.toks+1,by rw [ah,hlen]⟩,q⟩
theorem Zt:v8 X (.type "list") (λxs H Q=>∃p ys,xs=[.ref p]∧(SqL X.K H p ys∨SqT X.K H p ys)∧∀l,H l=none→Q (.ref l) (upd H l (.lst ys))):=by
 intro pins s σ H xs us Q I r h
 obtain ⟨p,ys,rfl,hq,q⟩:=h
 obtain ⟨u,rfl,rx⟩:=k7 r
 cases rx
 have fin:∀(its:List Value),Vals ys its→ys.length≤sizeLine→∀(h':Heap) (c':Nat),(∀b o',s.heap.get? b=some o'→h'.get? b=some o') →
   h'.get? s.heap.objs.size=some { cls:=.type "list",dict:=none,data:=.seq its.toArray c',slots:=#[] }→EP X pins σ Q (.ref s.heap.objs.size) { s with heap:=h' }:=λits r' hz h' c' kp e =>
  ⟨.ref s.heap.objs.size,_,I.laid (t':=s.toks) kp (Nat.le_refl _) (show ObjOk X.prog X.w _ h' _ (.lst ys) from ⟨hz,its,c',r',e⟩),rfl,q _ (I.hok.fresh (Nat.le_refl _))⟩
 rcases hq with hq|hq
 ·obtain ⟨its,r',pl,hz⟩:=I.list hq
  have hlen:=r'.length
  obtain ⟨o,ho,hc,n,hd⟩:=pl.isList
  exact call_list_seq p (.inl rfl) ho hc hd (λh' c' kp e=>fin its r' hz h' c' kp e) (by simp only [ah] <;> omega)
 ·obtain ⟨its,r',pl,hz⟩:=I.tuple hq
  have hlen:=r'.length
  obtain ⟨o,ho,hc,n,hd⟩:=pl
  exact call_list_seq p (.inr rfl) ho hc hd (λh' c' kp e=>fin its r' hz h' c' kp e) (by simp only [ah] <;> omega)
def tyV (K:Aa)(T:String)(x:V)(H:Hp):Prop:=match x with
 |.str _=>T = "str"
 |.int _=>T = "int"
 |.ref p=>(T = "list" ∧ ∃xs,SqL K H p xs)∨(T = "tuple" ∧ ∃o,K.lookup p=some o∧o.cls=.type "tuple" ∧ o.dict=none) ∨
   (T = "dict" ∧ ((∃kvs,H p=some (.dK kvs))∨∃kvs,H p=some (.dT kvs)))∨(T = "set" ∧ ∃S n,H p=some (.set S n))
 |_=>False
theorem tyV_is {pins:List (Addr×Obj)}{σ:St}{H:Hp}{s:Ab}{T:String}{x:V}{v:Value}(I:Inv X pins σ H s)(r:RelV x v)(ty:tyV X.K T x H) :
  s.TypeIs v T∧∀a,v=.ref a→∃ob,s.heap.get? a=some ob∧ob.dict=none:=by
 cases x with
 |str z =>
  obtain ⟨t,rfl⟩:=r
  cases (show T = "str" from ty)
  exact ⟨typeIs_str s z t,λ_ e=>nomatch e⟩
 |int i =>
  obtain ⟨t,rfl⟩:=r
  cases (show T = "int" from ty)
  exact ⟨typeIs_int s i t,λ_ e=>nomatch e⟩
 |ref p =>
  cases r
  rcases ty with ⟨rfl,xs,hq⟩|⟨rfl,o,hk,hc,hd⟩|⟨rfl,hk⟩|⟨rfl,S,n,hk⟩
  ·obtain ⟨its,_,pl,_⟩:=I.list hq
   refine ⟨pl.isList.typeIs,λa e=>?_⟩
   cases e
   obtain ⟨o,n,e,c,hd,_⟩:=pl
   exact ⟨o,e,hd⟩
  ·refine ⟨⟨o,I.kIn p o hk,hc⟩,λa e=>?_⟩
   cases e
   exact ⟨o,I.kIn _ o hk,hd⟩
  ·have z:∃o,s.heap.get? p=some o∧o.ExactDict:=by
    rcases hk with ⟨kvs,hk⟩|⟨kvs,hk⟩
    ·obtain ⟨_,_,_,_,o,_,_,e,ex,_⟩:=I.hok p _ hk
     exact ⟨o,e,ex⟩
    ·obtain ⟨_,_,_,_,o,_,_,e,ex,_⟩:=I.hok p _ hk
     exact ⟨o,e,ex⟩
   obtain ⟨o,e,ex⟩:=z
   refine ⟨⟨o,e,ex.1⟩,λa e2=>?_⟩
   cases e2
   exact ⟨o,e,ex.2.1⟩
  ·obtain ⟨o,_,_,_,e,ex,_⟩:=I.hok p _ hk
   refine ⟨⟨o,e,ex.1⟩,λa e2=>?_⟩
   cases e2
   exact ⟨o,e,ex.2.1⟩
 |_=>exact False.elim ty
def tBM (K:Aa)(T:String)(r:V→List V→Hp→VK→Prop)(to:TE)(t:TA):TE:=λσ H Q=>to σ H λx H1=>tyV K T x H1∧t σ H1 λxs H2=>r x xs H2 Q
variable {o e:Expr}{es:List Expr}{to:TE}{t:TA}{name:Str}{apos cpos:Pos}{T id:String}{r:V→List V→Hp→VK→Prop}
theorem Jd (pa:PlainAttrs T)(slot:Slot T name id)(hty:typeOf (.builtin id)=pure (.type "method_descriptor"))(hm:MtR X id r)(ho:PE X o to)(ha:PA X (e::es) t)
  (hbase:attributeBase o name X.env (eval o X.env)=eval o X.env:=by rfl)
  (hfew:((backTo cpos (starEach (e::es) X.env)).all (λx=>!x.1)&&(backToKw cpos (keywordEach [] X.env)).all (λx=>x.1.isSome)
   && decide ((e::es).length+([]:List Keyword).length+(if ([]:List Keyword).isEmpty then 0 else 1)<30))=true:=by rfl)
  (hline:(apos.endLine==cpos.line)=true:=by rfl) (hs:starEach (e::es) X.env=(false,eval e X.env)::starEach es X.env:=by rfl) (hplain:(backTo cpos (starEach es X.env)).any (·.1)=false:=by rfl) :
  PE X (.Call (.Attribute o name apos) (e::es) [] cpos) (tBM X.K T r to t):=by
 intro pins s σ H Q I h
 refine wpAny_Call_method_late hbase hfew hline rfl (thn (ho pins s σ H _ I h) λv s1 ⟨x,H1,I1,r1,ty,q1⟩=>?_)
 obtain ⟨h1,h2⟩:=tyV_is I1 r1 ty
 refine ⟨T,id,pa,slot,hty,h1,h2,?_⟩
 have hA:=ha cpos pins s1 σ H1 _ I1 q1
 rw [hs] at hA ⊢
 refine Calls.callWith_builtin (by show (false||(backTo cpos (starEach es X.env)).any (·.1))=false;rw [hplain] <;> rfl) (Calls.evalArgs_plain ?_)
 exact thn hA λus s2 ⟨vs,H2,I2,r2,q2⟩=>hm pins s2 σ H2 x vs v us Q I2 r1 r2 q2
end
def MtM (X:Cx)(id:String)(r:V→List V→Hp→VK→Prop):Prop :=
 ∀(pins:List (Addr×Obj)) (s:Ab) (σ:St) (H:Hp) (x:V) (xs:List V) (v:Value) (us:List Value) (Q:VK),Inv X pins σ H s→RelV x v→Vals xs us→r x xs H Q →
  wpAny (model X.prog X.w) X.A (call (.builtin id) (v::us)) (EP X pins σ Q) X.xe s
theorem Vals.one:∀ {x:V} {us:List Value},Vals [x] us→∃u,us=[u]∧RelV x u
 |_,_,.cons r .nil=>⟨_,rfl,r⟩
theorem Vals.two:∀ {x y:V} {us:List Value},Vals [x,y] us→∃u v,us=[u,v]∧RelV x u∧RelV y v
 |_,_,_,.cons r (.cons q .nil)=>⟨_,_,rfl,r,q⟩
section
variable {X:Cx}{pins:List (Addr×Obj)}{σ:St}{H:Hp}{s:Ab}{l b:Addr}{xs ys zs:List V}
theorem Inv.lset {its its':List Value}{n:Nat}{f:Array Value→Array Value}{t':Nat}(I:Inv X pins σ H s)(hH:H l=some (.lst xs))
  (e:s.heap.get? l=some { cls:=.type "list",data:=.seq its.toArray n }) (hf:f its.toArray=its'.toArray) (hv:Vals ys its') (hz:ys.length≤sizeLine) :
  Inv X pins σ (upd H l (.lst ys)) { s with heap:=s.heap.update l (Obj.mapSeq f),toks:=t' }:=by
 have q:=PySem.IsL.update e f
 rw [hf] at q
 refine I.write (x:=l) (e:=l) (by rw [hH];exact trivial) (.inl rfl) (λb' u hb hu=>(cz s.heap (Obj.mapSeq f) (dt hb)).trans hu) ⟨_,q⟩ ?_
 exact ⟨hz,its',_,hv,q⟩
theorem Inv.lnew {its:List Value}{t':Nat}(I:Inv X pins σ H s)(hv:Vals ys its)(hz:ys.length≤sizeLine) :
  Inv X pins σ (upd H s.heap.objs.size (.lst ys)) { s with heap:=s.heap.push { cls:=.type "list",data:=.seq its.toArray },toks:=t' } :=
 I.laid (λ_ _ q=>Heap.get?_push_of_some _ q) (Nat.le_refl _) ⟨hz,its,0,hv,ak _ rfl⟩
theorem Inv.fresh (I:Inv X pins σ H s):H s.heap.objs.size=none:=I.hok.fresh (Nat.le_refl _)
theorem Inv.lstM (I:Inv X pins σ H s)(hH:H l=some (.lst xs)):xs.length≤sizeLine∧∃(its:List Value) (n:Nat),Vals xs its∧xs.length=its.length∧s.heap.get? l=some { cls:=.type "list",data:=.seq its.toArray n }:=by
 obtain ⟨z,its,n,r,e⟩:=I.hok l _ hH
 exact ⟨z,its,n,r,r.length,e⟩
theorem wyk {n:Nat}(h:n≤sizeLine):Builtin.List.listTooLong n=false:=by
 unfold Builtin.List.listTooLong
 exact decide_eq_false (by omega)
end
section
variable {X:Cx}
def xxw:V→List V→Hp→VK→Prop:=λx vs H Q=>∃l xs y,x=.ref l∧vs=[y]∧H l=some (.lst xs)∧xs.length<sizeLine∧Q .non (upd H l (.lst (xs++[y])))
theorem vk:MtM X "list.append" xxw:=by
 intro pins s σ H x vs v us Q I rx rv h
 obtain ⟨l,xs,y,rfl,rfl,hH,hz,q⟩:=h
 cases rx
 obtain ⟨u,rfl,ru⟩:=rv.one
 obtain ⟨z,its,n,r,hl,e⟩:=I.lstM hH
 refine call_meets F.slot_list_append ⟨_,e,rfl⟩ F.entry_list_append (F.args_list_append_2 _ _) (PySem.list_append l its.toArray n u (by rw [ah];omega)) ⟨e,?_⟩
 refine ⟨.non,_,I.lset (its':=its++[u]) hH e (by simp) (r.append (.cons ru .nil)) ?_,rfl,q⟩
 rw [ai,cn]
 omega
def xzp:V→List V→Hp→VK→Prop:=λx vs H Q=>∃l b xs zs,x=.ref l∧vs=[.ref b]∧H l=some (.lst xs)∧H b=some (.lst zs)∧xs.length+zs.length≤sizeLine∧Q .non (upd H l (.lst (xs++zs)))
theorem wjd:MtM X "list.extend" xzp:=by
 intro pins s σ H x vs v us Q I rx rv h
 obtain ⟨l,b,xs,zs,rfl,rfl,hH,hB,hz,q⟩:=h
 cases rx
 obtain ⟨u,rfl,ru⟩:=rv.one
 cases ru
 obtain ⟨z,its,n,r,hl,e⟩:=I.lstM hH
 obtain ⟨z2,its2,n2,r2,hl2,e2⟩:=I.lstM hB
 have hsz:its.toArray.size+its2.toArray.size≤sizeLine:=by rw [ah,ah];omega
 have hlong:¬ (!its.toArray.isEmpty&&Builtin.List.listTooLong (its.toArray.size+its2.toArray.size))=true:=by
  rw [wyk hsz,d9]
  exact au
 refine call_meets F.slot_list_extend ⟨_,e,rfl⟩ F.entry_list_extend (F.args_list_extend_2 _ _)
  (AutoSeq1.list_extend_list_list_0 l its.toArray n b its2.toArray n2 hlong (by rw [ah];omega) (by omega)) ⟨e,e2,?_⟩
 refine ⟨.non,_,I.lset (its':=its++its2) hH e (by simp) (r.append r2) ?_,rfl,q⟩
 rw [ai]
 omega
def rCat:R2:=λx y H Q=>∃l b xs zs,x=.ref l∧y=.ref b∧H l=some (.lst xs)∧H b=some (.lst zs)∧xs.length+zs.length≤sizeLine∧∀p,H p=none→Q (.ref p) (upd H p (.lst (xs++zs)))
theorem op_cat:OpR X (binaryOp .Add) rCat:=by
 intro pins s σ H x y v u Q I rx ry h
 obtain ⟨l,b,xs,zs,rfl,rfl,hH,hB,hz,q⟩:=h
 cases rx
 cases ry
 obtain ⟨z,its,n,r,hl,e⟩:=I.lstM hH
 obtain ⟨z2,its2,n2,r2,hl2,e2⟩:=I.lstM hB
 refine PySem.P.add_list e e2 ?_ (by rw [ah,ah];omega)
 have ea:its.toArray++its2.toArray=(its++its2).toArray:=by simp
 rw [ea]
 exact ⟨.ref _,_,I.lnew (t':=s.toks) (r.append r2) (by rw [ai];omega),rfl,q _ I.fresh⟩
end
section
variable {prog:Ac}{w:World}{A:Around}{E:Value→Ab→Prop}{s:Ab}
end
section
variable {X:Cx}
end
end L2
namespace Att
open PySem PySem.W PySem.Calls PyProof.Rows
theorem qqw {P:Params}{h:Heap}:∀(ns:List Int) (vs:List Value),WellAll P h vs (ns.map WData.int)→IntsAre vs ns:=by
 intro ns
 induction ns with
 |nil =>
  intro vs w
  rw [cP] at w
  cases w
  exact .nil
 |cons n ns ih =>
  intro vs w
  rw [aF] at w
  cases w with
  |cons a b =>
   cases a
   exact .cons _ _ (ih _ b)
theorem wvs {l:OpenLaw}{n:Nat}(hn:l.most=some n){P:Params}{h:Heap}{args:List WData}{vals:List Value}
  (hpre:l.row.toRowW.claim.pre args=true) (hwl:WellAll P h vals args) :
  ∃a vs ns,vals=[Value.ref a]∧args=[WData.list (ns.map WData.int)]∧h.get? a=some { cls:=.type "list",data:=.seq vs.toArray }∧IntsAre vs ns∧ns.length≤n:=by
 have hsh:WShape.hasAll [] args [.list .int]=true:=(pre_splitW hpre).1
 have hc:l.pre.holds [] { args:=args }=true:=(pre_splitW hpre).2
 obtain ⟨d,r,rfl,h1,h2⟩:=hasAllW_cons hsh
 obtain rfl:=hasAllW_nil h2
 obtain ⟨xs,rfl,h3⟩:=hasW_list h1
 obtain ⟨ns,rfl⟩:=items_int h3
 have hlen:ns.length≤n:=by
  unfold OpenLaw.pre at hc
  have h4:(WTm.not (.lt (.lit (.int (n:Int))) (.len (.arg 0)))).holds [] { args:=[.list (ns.map .int)] }=true:=by
   have h4:=(holds_andW hc).1
   rw [hn] at h4
   exact h4
  have h5:=condW_of h4 (w_not (w_lt w_lit (w_len_list (w_arg rfl))))
  rw [List.length_map] at h5
  refine Nat.le_of_not_lt λq=>?_
  have q':(n:Int)<((ns.length:Nat):Int):=by omega
  first
   |(rw [decide_eq_true q'] at h5;exact absurd h5 (by decide))
   |(simp at h5;omega)
 cases hwl with
 |cons w1 w2 =>
  cases w2
  cases w1 with
  |list ho hall=>exact ⟨_,_,ns,rfl,rfl,ho,qqw ns _ hall,hlen⟩
theorem wjc (l:OpenLaw)(args:List WData):l.row.toRowW.claim.post args (.bool true) args=true :=
 postW_of (r:=l.row.toRowW) (X:=(true==true))
  (show WShape.has [] (.bool true) .bool=true by first | rfl | decide | simp [WShape.has,WShape.arms,WShape.armsAll])
  (show (WTm.eq .res (.lit (.bool true))).value [] { args:=args,res:=some (.bool true),after:=args }=some (.bool (true==true)) from w_eq_bool (w_res rfl) w_lit) rfl
theorem attach_call {l:OpenLaw}{n:Nat}{q:Ac}{loose:List Str}{XP:(Str→Option Value)→Heap→Prop}{YP:World→Heap→Prop}{d:DefRec}
  (hn:l.most=some n) (hdf:d.params.defaults=[])
  (call:∀(w:World) (s₀ s₁:Ab) (mg mb:Str→Option Value) (fa:Addr) (o:Obj) (pm cd doc:Value) (a:Addr) (vs:List Value) (ns:List Int),
   Ground q loose [] XP w s₀ mg mb s₁.heap→YP w s₁.heap →
   s₁.heap.get? fa=some o→o.data=.func (docDef d.name d.params d.body d.scope pm cd doc)→s₁.heap.CodeRec cd d.name→mg d.name=some (.ref fa) →
   s₁.heap.get? a=some { cls:=.type "list",data:=.seq vs.toArray }→IntsAre vs ns→ns.length≤n→s₁.gens=#[] →
   codeAny (model l.prog w) callerA (.call (.ref fa) ⟨[.ref a],[]⟩) (λr s'=>r=.ok (.ret (.bool true))∧OldK s₁.heap s'.heap∧s'.os=s₁.os∧AllBare s'.gens) s₁) :
  WalkO q loose XP YP l.row.toRowW d [] (λf vs=>PySem.call f vs):=by
 intro w s₀ s₁ mg mb G Y fa o pm cd doc dV kV ho hd hcd hD hmg hg args vals as hpre hlay hrd hwl hlo
 obtain rfl:dV=.none:=Dflts.none hD hdf
 obtain rfl:kV=.none:=Dflts.noKw hD
 obtain ⟨a,vs,ns,rfl,rfl,hobj,hints,hlen⟩:=wvs hn hpre hwl
 refine enter_call (du (call w s₀ s₁ mg mb fa o pm cd doc a vs ns G Y ho (fd_plain hd) hcd hmg hobj hints hlen hg) λr s' hq=>?_)
 obtain ⟨rfl,h2,h3,h4⟩:=hq
 exact ⟨.inl ⟨.bool true,.bool true,[],rfl,λ_=>rfl,.bool true,wjc l _,λ_=>⟨List.Pairwise.nil,λ_ hm=>(nomatch hm)⟩⟩,h2,h3,h4⟩
section
variable {prog:Ac}{w:World}{A:Around}{E:Value→Ab→Prop}{s:Ab}{K:Frag}
end
end Att
namespace L2
open PySem PySem.Spec PyProof.Rows
theorem Yz:∀ {vs:List Value} {ns:List Int},IntsAre vs ns→Vals (ns.map V.int) vs
 |_,_,.nil=>.nil
 |_,_,.cons n t h=>.cons ⟨t,rfl⟩ (Yz h)
def yd (s:Stmt)(j:Nat):Stmt:=match s with
 |.ClassDef _ _ _ body _ _ _ _ _ _ _=>body.getD j (.Pass ⟨0,0,0,0⟩)
 |_=>.Pass ⟨0,0,0,0⟩
def vx (s:Stmt):Arguments:=match s with
 |.FunctionDef _ a _ _ _ _ _ _ _ _=>a
 |_=>{ posonlyargs:=[],args:=[],vararg:=none,kwonlyargs:=[],kw_defaults:=[],kwarg:=none,defaults:=[] }
def zd (s:Stmt):List Stmt:=match s with
 |.FunctionDef _ _ b _ _ _ _ _ _ _=>b
 |_=>[]
def qp (s:Stmt):Scope:=match s with
 |.FunctionDef _ _ _ _ _ _ sc _ _ _=>sc
 |_=>{ kind:=.function,names:=[],isGenerator:=false,isCoroutine:=false }
abbrev E0:XK:=λ_ _ _=>False
structure Fun (K:Aa)(x qual:Str)(st:Stmt)(f:Addr)(fd:Ad):Prop where
 ex:∃(oc:Value) (od:Option Addr) (kV doc pm:Value) (an:Option Addr) (cdv ct:Value) (osl:Array (Option Value)),
  fd=PySem.W.fnOf x qual (vx st) (zd st) (qp st) .none kV doc pm an cdv ct∧K.lookup f=some ⟨oc,od,.func fd,osl⟩∧PySem.W.codeIn K cdv qual=true
 kp:PySem.W.keepIn K (.ref f)=true
section
variable {P:Ac}{w:World}{K:Aa}{mg:Str→Option Value}{base:Heap}
theorem Fun.binds {x qual:Str}{st:Stmt}{f:Addr}{fd:Ad}{ps:List Str}(F:Fun K x qual st f fd)
  (h:∀(kV doc pm:Value) (an:Option Addr) (cdv ct:Value) (us:List Value),us.length=ps.length→bindArgs (PySem.W.fnOf x qual (vx st) (zd st) (qp st) .none kV doc pm an cdv ct) ⟨us,[]⟩=pure (ps.zip us)):Binds K fd ps []:=by
 obtain ⟨oc,od,kV,doc,pm,an,cdv,ct,osl,rfl,lk,hcd⟩:=F.ex
 exact .all (h kV doc pm an cdv ct)
theorem wqc {x qual:Str}{st:Stmt}{f:Addr}{oc:Value}{od an:Option Addr}{osl:Array (Option Value)}{kV doc pm cdv ct:Value}(l:K.lookup f=some ⟨oc,od,.func (PySem.W.fnOf x qual (vx st) (zd st) (qp st) .none kV doc pm an cdv ct),osl⟩)
  (c:PySem.W.codeIn K cdv qual=true) (k:PySem.W.keepIn K (.ref f)=true):Fun K x qual st f (PySem.W.fnOf x qual (vx st) (zd st) (qp st) .none kV doc pm an cdv ct):=⟨⟨oc,od,kV,doc,pm,an,cdv,ct,osl,rfl,l,c⟩,k⟩
end
theorem Qb {n:Nat}(h:n≤1000):n<sizeLine:=eO h (by decide)
section
variable {X:Cx}
theorem pv (i:Nat){x:Str}{pos:Pos}(hN:X.N[i]?=some x:=by rfl)(hv:Vis X.env.scope x:=by first | exact Or.inl rfl | exact Or.inr (Or.inl rfl) | exact Or.inr (Or.inr rfl))(hd:(x==("__debug__" : Str))=false:=by decide)
  (hcd:(x==("__classdict__" : Str))=false:=by decide):PE X (.Name x pos) (kv i):=pe_var hN hv hd hcd
end
theorem js {A B:Prop}(h:B):if false=true then A else B:=by
 rw [if_neg au]
 exact h
theorem yu {A B:Prop}(h:A):if true=true then A else B:=by
 rw [if_pos rfl]
 exact h
def Same (H H':Hp):Prop:=∀b o,H b=some o→H' b=some o
theorem Same.refl (H:Hp):Same H H:=λ_ _ h=>h
theorem Same.trans {H H1 H2:Hp}(a:Same H H1)(b:Same H1 H2):Same H H2:=λc o h=>b c o (a c o h)
theorem Same.seq {K:Aa}{H H':Hp}{a:Addr}{xs:List V}(e:Same H H')(h:SqL K H a xs):SqL K H' a xs:=by
 rcases h with (h|⟨o,h⟩)|h
 ·exact .inl (.inl (e _ _ h))
 ·exact .inl (.inr ⟨o,e _ _ h⟩)
 ·exact .inr h
end L2
set_option maxHeartbeats 4000000
namespace L2
open PySem
def itF:Nat→Nat→Nat
 |0,x=>x
 |n+1,x=>itF n (5*x+1)
theorem wx3 (a:Nat):∀b x,itF (b+a) x=itF a (itF b x)
 |0,x=>by rw [b8];rfl
 |b+1,x=>by rw [gz];exact wx3 a b (5*x+1)
theorem qy5:∀n x,4*itF n x+1=5 ^ n*(4*x+1)
 |0,x=>by simp [itF]
 |n+1,x=>by
  show 4*itF n (5*x+1)+1=_
  rw [qy5 n,cQ,Nat.mul_assoc]
  congr 1
  omega
theorem qys:∀e,∃d,d%2=1∧5 ^ (2 ^ e)=1+2 ^ (e+2)*d
 |0=>⟨1,rfl,rfl⟩
 |e+1=>by
  obtain ⟨d,h1,h2⟩:=qys e
  refine ⟨d+2 ^ (e+1)*(d*d),?_,?_⟩
  ·rw [cQ,show 2 ^ e*2*(d*d)=2*(2 ^ e*(d*d)) by grind]
   omega
  ·have e1:5 ^ (2 ^ (e+1))=(1+2 ^ (e+2)*d) ^ 2:=by
    rw [show (2:Nat) ^ (e+1)=2 ^ e*2 from cQ ..,Nat.pow_mul,h2]
   have e2:(2:Nat) ^ (e+2)=2*2 ^ (e+1):=by rw [show e+2=(e+1)+1 by omega,cQ 2 (e+1)];omega
   have e3:(2:Nat) ^ (e+1+2)=4*2 ^ (e+1):=by rw [show e+1+2=(e+2)+1 by omega,cQ 2 (e+2),e2];omega
   rw [e1,e3,e2]
   generalize 2 ^ (e+1)=X
   grind
theorem wu3 (e x:Nat):∃d,d%2=1∧itF (2 ^ e) x=x+2 ^ e*d:=by
 obtain ⟨d,h1,h2⟩:=qys e
 refine ⟨d*(4*x+1),?_,?_⟩
 ·rw [Nat.mul_mod,h1];omega
 ·have h:=qy5 (2 ^ e) x
  rw [h2,Nat.pow_add] at h
  have e1:(1+2 ^ e*2 ^ 2*d)*(4*x+1)=4*(x+2 ^ e*(d*(4*x+1)))+1:=by
   generalize 2 ^ e=X
   grind
  omega
theorem qkk {P q r:Nat}(h:r<P):(P*q+r)%(2*P)=P*(q%2)+r:=by
 have hq:q=2*(q/2)+q%2:=by omega
 have e:P*q+r=(P*(q%2)+r)+2*P*(q/2):=by
  have:P*q=P*(2*(q/2)+q%2):=by rw [←hq]
  rw [this]
  grind
 rw [e,Nat.add_mul_mod_self_left]
 refine fF ?_
 rcases ee q with z|z <;> rw [z] <;> omega
theorem qvn:∀e x j,∃k,k<2 ^ e∧itF k x%2 ^ e=j%2 ^ e
 |0,x,j=>⟨0,by decide,by rw [Nat.pow_zero,Nat.mod_one,Nat.mod_one]⟩
 |e+1,x,j=>by
  obtain ⟨k,hk,hm⟩:=qvn e x j
  have hP:0<2 ^ e:=fW e
  have e2:2 ^ (e+1)=2*2 ^ e:=by rw [cQ];omega
  by_cases c:itF k x%2 ^ (e+1)=j%2 ^ (e+1)
  ·exact ⟨k,by omega,c⟩
  ·obtain ⟨d,h1,h2⟩:=wu3 e (itF k x)
   refine ⟨k+2 ^ e,by omega,?_⟩
   rw [wx3,h2]
   rw [e2] at c ⊢
   generalize itF k x=a at *
   generalize 2 ^ e=P at *
   have ea:=(Nat.div_add_mod a P).symm
   have ej:=(Nat.div_add_mod j P).symm
   have ra:a%P<P:=Nat.mod_lt _ hP
   have s1:a%(2*P)=P*(a/P%2)+a%P:=by
    have:=qkk (q:=a/P) ra
    rwa [←ea] at this
   have s2:j%(2*P)=P*(j/P%2)+a%P:=by
    have:=qkk (q:=j/P) ra
    rw [hm,←ej] at this
    rw [hm]
    exact this
   have s3:(a+P*d)%(2*P)=P*((a/P+d)%2)+a%P:=by
    have:=qkk (q:=a/P+d) ra
    rwa [show P*(a/P+d)+a%P=a+P*d by rw [Nat.mul_add];omega] at this
   rw [s1,s2] at c
   rw [s3,s2]
   have:(a/P+d)%2=j/P%2:=by
    rcases ee (a/P) with z|z <;> rcases ee (j/P) with y|y <;> rw [z,y] at c <;> omega
   rw [this]
def lp (mask:Nat):Nat→Nat×Nat→Nat×Nat
 |0,q=>q
 |n+1,q=>lp mask n (SetTable.leap mask q.1 q.2)
theorem wu1 (mask b:Nat):∀a q,lp mask (a+b) q=lp mask b (lp mask a q)
 |0,q=>by rw [b8];rfl
 |a+1,q=>by rw [gz];exact wu1 mask b a _
theorem wyy (mask:Nat):∀n q,(lp mask n q).2=q.2/32 ^ n
 |0,q=>by simp [lp]
 |n+1,q=>by
  show (lp mask n (SetTable.leap mask q.1 q.2)).2=_
  rw [wyy mask n,cQ,Nat.mul_comm,←Nat.div_div_eq_div_mul]
  rfl
theorem lp_lt {mask:Nat}:∀n q,q.1≤mask→(lp mask n q).1≤mask
 |0,q,h=>h
 |n+1,q,h=>lp_lt n _ (Nat.le_of_lt_succ (Nat.mod_lt _ (Nat.succ_pos _)))
theorem wvy {mask:Nat}:∀n i,i≤mask→(lp mask n (i,0)).1=itF n i%(mask+1)
 |0,i,h=>(fF (Nat.lt_succ_of_le h)).symm
 |n+1,i,h=>by
  have e:SetTable.leap mask i 0=((5*i+1)%(mask+1),0):=by
   simp [SetTable.leap,Nat.mul_comm]
  show (lp mask n (SetTable.leap mask i 0)).1=itF n (5*i+1)%(mask+1)
  rw [e,wvy n _ (Nat.le_of_lt_succ (Nat.mod_lt _ (Nat.succ_pos _)))]
  have key:∀n x,itF n (x%(mask+1))%(mask+1)=itF n x%(mask+1):=by
   intro n
   induction n with
   |zero=>intro x;exact Nat.mod_mod _ _
   |succ n ih =>
    intro x
    show itF n (5*(x%(mask+1))+1)%(mask+1)=itF n (5*x+1)%(mask+1)
    rw [←ih (5*(x%(mask+1))+1),←ih (5*x+1)]
    congr 2
    rw [Nat.add_mod,Nat.mul_mod,Nat.mod_mod,←Nat.mul_mod,←Nat.add_mod]
  exact key n _
theorem qq9 {e mask:Nat}(hM:mask+1=2 ^ e){q:Nat×Nat}(h1:q.1≤mask)(h2:q.2<2 ^ 64){j:Nat}(hj:j≤mask):∃n,n≤mask+13∧(lp mask n q).1=j:=by
 have z:(lp mask 13 q).2=0:=by
  rw [wyy]
  exact Nat.div_eq_of_lt (aD h2 (by decide))
 have l1:=lp_lt (mask:=mask) 13 q h1
 obtain ⟨k,hk,hm⟩:=qvn e (lp mask 13 q).1 j
 refine ⟨13+k,by omega,?_⟩
 rw [wu1,show lp mask 13 q=((lp mask 13 q).1,0) from hX rfl z,wvy k _ l1,hM,hm]
 exact fF (by omega)
def xh (t:SetTable):Nat→SetTable.Probe→SetTable.Probe
 |0,p=>p
 |n+1,p=>xh t n (t.advance p)
theorem jt (t:SetTable)(b:Nat):∀a p,xh t (a+b) p=xh t b (xh t a p)
 |0,p=>by rw [b8];rfl
 |a+1,p=>by rw [gz];exact jt t b a _
theorem Yc (t:SetTable)(p:SetTable.Probe):(t.advance p).dummy=p.dummy:=by
 unfold SetTable.advance
 split <;> rfl
theorem Wc (t:SetTable):∀n p,(xh t n p).dummy=p.dummy
 |0,p=>rfl
 |n+1,p=>(Wc t n _).trans (Yc t p)
def rs (mask:Nat)(q:Nat×Nat):SetTable.Probe:={ j:=q.1,more:=SetTable.runEnd mask q.1-q.1,i:=q.1,perturb:=q.2,dummy:=none }
theorem qwj (t:SetTable)(q:Nat×Nat):∀r j,xh t (r+1) { j:=j,more:=r,i:=q.1,perturb:=q.2,dummy:=none }=rs t.mask (SetTable.leap t.mask q.1 q.2)
 |0,j=>rfl
 |r+1,j=>by
  show xh t (r+1) (t.advance _)=_
  have e:t.advance { j:=j,more:=r+1,i:=q.1,perturb:=q.2,dummy:=none }={ j:=j+1,more:=r,i:=q.1,perturb:=q.2,dummy:=none }:=by
   unfold SetTable.advance
   rw [if_pos (Nat.succ_pos r)]
   rfl
  rw [e]
  exact qwj t q r (j+1)
theorem xwh (t:SetTable)(q:Nat×Nat):∃m,m≤10∧xh t m (rs t.mask q)=rs t.mask (SetTable.leap t.mask q.1 q.2):=by
 refine ⟨SetTable.runEnd t.mask q.1-q.1+1,?_,qwj t q _ _⟩
 unfold SetTable.runEnd
 split <;> omega
theorem qyz (t:SetTable):∀n q,∃N,N≤10*n∧xh t N (rs t.mask q)=rs t.mask (lp t.mask n q)
 |0,q=>⟨0,Nat.le_refl _,rfl⟩
 |n+1,q=>by
  obtain ⟨m,hm,e⟩:=xwh t q
  obtain ⟨N,hN,e2⟩:=qyz t n (SetTable.leap t.mask q.1 q.2)
  exact ⟨m+N,by omega,by rw [jt,e,e2];rfl⟩
theorem Qs {t:SetTable}{j i:Nat}(h:t.slot j=.live i):t.place[i]?=some j:=by
 unfold SetTable.slot at h
 dsimp only at h
 split at h
 ·rename_i c
  cases h
  simpa using c
 ·split at h <;> cases h
theorem Ws {t:SetTable}(hd:t.dummies=#[])(j:Nat):t.slot j=.empty∨∃i,t.slot j=.live i:=by
 unfold SetTable.slot
 dsimp only
 split
 ·exact .inr ⟨_,rfl⟩
 ·have:SetTable.has t.dummies j=false:=by rw [hd];simp [SetTable.has]
  rw [this]
  exact .inl rfl
theorem qxp:∀(l l':List Nat),l.Nodup→(∀a∈l,a∈l')→l.length≤l'.length
 |[],_,_,_=>aN _
 |a::l,l',hn,hs=>by
  have hn':=cE.mp hn
  have ha:=hs a (.head _)
  have:=qxp l (l'.erase a) hn'.2 λb hb=>(List.mem_erase_of_ne (λz=>by subst z;exact hn'.1 hb)).mpr (hs b (.tail _ hb))
  rw [List.length_erase,if_pos ha] at this
  have hp:0<l'.length:=List.length_pos_of_mem ha
  rw [ax]
  omega
theorem wk3 {t:SetTable}(hd:t.dummies=#[])(hz:t.place.size≤t.mask):∃j,j≤t.mask∧t.slot j=.empty:=by
 apply di
 intro c
 have:=qxp (List.range (t.mask+1)) t.place.toList h9 λa ha=>by
  have ha':a≤t.mask:=Nat.le_of_lt_succ (am.mp ha)
  rcases Ws hd a with h|⟨i,h⟩
  ·exact absurd ⟨a,ha',h⟩ c
  ·have e:=Qs h
   exact bG.mpr (fA e)
 rw [List.length_range,aJ] at this
 omega
theorem qk2 (h:Int):SetTable.bits h<2 ^ 64:=by
 unfold SetTable.bits
 omega
theorem qvp {t:SetTable}{e:Nat}(hM:t.mask+1=2 ^ e)(hd:t.dummies=#[])(hz:t.place.size≤t.mask)(h:Int):∃N,N≤10*(t.mask+13)∧t.slot (xh t N (t.probeStart h)).j=.empty:=by
 obtain ⟨j,hj,hs⟩:=wk3 hd hz
 obtain ⟨n,hn,en⟩:=qq9 hM (q:=(SetTable.bits h%(t.mask+1),SetTable.bits h)) (Nat.le_of_lt_succ (Nat.mod_lt _ (Nat.succ_pos _))) (qk2 h) hj
 obtain ⟨N,hN,e2⟩:=qyz t n (SetTable.bits h%(t.mask+1),SetTable.bits h)
 refine ⟨N,by omega,?_⟩
 show t.slot (xh t N (rs t.mask (SetTable.bits h%(t.mask+1),SetTable.bits h))).j=.empty
 rw [e2]
 show t.slot (lp t.mask n _).1=.empty
 rw [en]
 exact hs
inductive MetOk (t:SetTable) (p:SetTable.Probe) (N:Nat):SetTable.Met→Prop
 |empty (j:Nat):MetOk t p N (.empty j none)
 |cand (m i:Nat) (hm:m<N) (hs:t.slot (xh t m p).j=.live i):MetOk t p N (.candidate (xh t m p).j i (xh t (m+1) p))
theorem qyj {t:SetTable}{ha:Nat→Int}{h:Int}(hd:t.dummies=#[]):∀N fuel p,N<fuel→p.dummy=none→t.slot (xh t N p).j=.empty→∃m,SetTable.probe.go t ha h fuel p=some m∧MetOk t p N m
 |0,0,p,hf,_,_=>absurd hf (aI _)
 |0,fuel+1,p,_,hp,hs=>by
  have hs':t.slot p.j=.empty:=hs
  unfold SetTable.probe.go
  rw [hs',hp]
  exact ⟨_,rfl,.empty _⟩
 |N+1,0,p,hf,_,_=>absurd hf (dk _)
 |N+1,fuel+1,p,hf,hp,hs=>by
  unfold SetTable.probe.go
  rcases Ws hd p.j with c|⟨i,c⟩
  ·rw [c,hp]
   exact ⟨_,rfl,.empty _⟩
  ·rw [c]
   dsimp only
   by_cases q:(ha i==h)=true
   ·rw [if_pos q]
    exact ⟨_,rfl,.cand (t:=t) (p:=p) 0 i (Nat.succ_pos _) c⟩
   ·rw [if_neg q]
    obtain ⟨m,e,ok⟩:=qyj (ha:=ha) (h:=h) hd N fuel (t.advance p) (by omega) ((Yc t p).trans hp) hs
    refine ⟨m,e,?_⟩
    cases ok with
    |empty j=>exact .empty j
    |cand m i hm hs=>exact .cand (t:=t) (p:=p) (m+1) i (by omega) hs
theorem wqk {mask:Nat}{owner:Array (Option Nat)}:∀n fuel i p,n<fuel→owner.getD (lp mask n (i,p)).1 (some 0)=none→∃j,SetTable.layClean.free mask owner fuel i p=some j∧owner.getD j (some 0)=none
 |n,0,i,p,hf,_=>absurd hf (dk _)
 |n,fuel+1,i,p,hf,hn=>by
  unfold SetTable.layClean.free
  cases q:(List.range (SetTable.runEnd mask i+1-i)).find? λk=>(owner.getD (i+k) (some 0)).isNone with
  |some k =>
   refine ⟨i+k,rfl,?_⟩
   have:=List.find?_some q
   exact gK.mp this
  |none =>
   cases n with
   |zero =>
    have h0:=List.find?_eq_none.mp q 0 (am.mpr (by unfold SetTable.runEnd;split <;> omega))
    have hn':owner.getD i (some 0)=none:=hn
    rw [Nat.add_zero,hn'] at h0
    exact absurd rfl h0
   |succ n=>exact wqk n fuel _ _ (by omega) hn
def qyb (mask:Nat)(owner:Array (Option Nat)):List (Nat×Nat):=(List.range (mask+1)).filterMap λj=>(owner.getD j none).map (j,·)
theorem wyz {β:Type}{f g:Nat→Option β}{j:Nat}(hne:∀i,i≠j→g i=f i)(hf:f j=none)(hg:(g j).isSome=true):∀n,((List.range n).filterMap g).length=((List.range n).filterMap f).length+if j<n then 1 else 0
 |0=>rfl
 |n+1=>by
  have ih:=wyz hne hf hg n
  rw [List.range_succ,fB,fB,ai,ai,ih]
  by_cases c:n=j
  ·subst c
   obtain ⟨b,eb⟩:=eG.mp hg
   simp [hf,eb]
  ·have e:([n].filterMap g).length=([n].filterMap f).length:=by
    simp only [List.filterMap_cons,List.filterMap_nil,hne n c]
   rw [e]
   by_cases c2:j<n
   ·rw [if_pos c2,if_pos (by omega)];omega
   ·rw [if_neg c2,if_neg (by omega)];omega
theorem wuj {β:Type}{f:Nat→Option β}:∀n,(∀i,i<n→(f i).isSome=true)→((List.range n).filterMap f).length=n
 |0,_=>rfl
 |n+1,h=>by
  obtain ⟨b,eb⟩:=eG.mp (h n (by omega))
  rw [List.range_succ,fB,ai,wuj n λi hi=>h i (by omega)]
  simp [eb]
structure OwnI (mask:Nat)(owner:Array (Option Nat))(k:Nat):Prop where
 size:owner.size=mask+1
 len:(qyb mask owner).length=k
 low:∀j v:Nat,owner[j]?=some (some v)→v<k
theorem xwz {mask k:Nat}{owner:Array (Option Nat)}(o:OwnI mask owner k)(hk:k≤mask):∃j,j≤mask∧owner.getD j (some 0)=none:=by
 apply di
 intro c
 have:=wuj (f:=λj=>(owner.getD j none).map (j,·)) (mask+1) λi hi=>by
  have hs:i<owner.size:=by rw [o.size];exact hi
  cases q:owner[i] with
  |none=>exact absurd ⟨i,by omega,by rw [aE,aQ hs,q];rfl⟩ c
  |some v=>rw [aE,aQ hs,q];rfl
 have e:=o.len
 unfold qyb at e
 omega
theorem xzz {mask k j:Nat}{owner:Array (Option Nat)}(o:OwnI mask owner k)(hj:owner.getD j (some 0)=none):OwnI mask (owner.setIfInBounds j (some k)) (k+1):=by
 have hs:j<owner.size:=by
  apply di
  intro c
  rw [aE,b9 (by omega)] at hj
  cases hj
 have ej:owner[j]?=some none:=by
  rw [aE] at hj
  cases q:owner[j]? with
  |none=>rw [q] at hj;cases hj
  |some v=>rw [q] at hj;exact bX some hj
 refine ⟨by rw [eI];exact o.size,?_,λi v e=>?_⟩
 ·have:=wyz (j:=j) (f:=λi=>(owner.getD i none).map (i,·)) (g:=λi=>((owner.setIfInBounds j (some k)).getD i none).map (i,·)) (λi hi=>?_) ?_ ?_ (mask+1)
  ·rw [if_pos (by rw [←o.size];exact hs)] at this
   unfold qyb
   rw [this]
   have e:=o.len
   unfold qyb at e
   rw [e]
  ·rw [aE,dF (λz=>hi z.symm),←aE]
  ·rw [aE,ej]
   rfl
  ·rw [aE,cN hs]
   rfl
 ·by_cases c:i=j
  ·subst c
   rw [cN hs] at e
   cases e
   omega
  ·rw [dF (λz=>c z.symm)] at e
   have:=o.low i v e
   omega
theorem xzu (mask:Nat):OwnI mask (Array.replicate (mask+1) none) 0:=by
 refine ⟨Array.size_replicate,?_,λj v e=>?_⟩
 ·unfold qyb
  rw [eS]
  refine List.filterMap_eq_nil_iff.mpr λj hj=>?_
  rw [aE,eJ]
  split <;> rfl
 ·rw [eJ] at e
  split at e <;> cases e
theorem wqq {mask e:Nat}(hM:mask+1=2 ^ e):∀(l:List Int) (owner:Array (Option Nat)) (k:Nat),OwnI mask owner k→k+l.length≤mask→∃owner',l.foldl (λacc h=>do
   let (owner,k) ←acc
   let j ←SetTable.layClean.free mask owner (SetTable.turns mask) (SetTable.bits h%(mask+1)) (SetTable.bits h)
   pure (owner.setIfInBounds j (some k),k+1)) (some (owner,k))=some (owner',k+l.length)∧OwnI mask owner' (k+l.length)
 |[],owner,k,o,_=>⟨owner,rfl,o⟩
 |h::l,owner,k,o,hk=>by
  rw [ax] at hk
  obtain ⟨j0,hj0,en⟩:=xwz o (by omega)
  obtain ⟨n,hn,e1⟩:=qq9 hM (q:=(SetTable.bits h%(mask+1),SetTable.bits h)) (Nat.le_of_lt_succ (Nat.mod_lt _ (Nat.succ_pos _))) (qk2 h) hj0
  obtain ⟨j,e2,e3⟩:=wqk (mask:=mask) (owner:=owner) n (SetTable.turns mask) (SetTable.bits h%(mask+1)) (SetTable.bits h) (by unfold SetTable.turns;omega) (by rw [e1];exact en)
  obtain ⟨owner',f1,f2⟩:=wqq hM l (owner.setIfInBounds j (some k)) (k+1) (xzz o e3) (by omega)
  refine ⟨owner',?_,by rw [ax,show k+(l.length+1)=k+1+l.length by omega];exact f2⟩
  rw [iB,ax,show k+(l.length+1)=k+1+l.length by omega,←f1]
  congr 1
  simp [e2]
theorem wjn {mask e:Nat}(hM:mask+1=2 ^ e)(hs:Array Int)(hz:hs.size≤mask):∃owner,SetTable.layClean mask hs=some owner∧OwnI mask owner hs.size:=by
 obtain ⟨owner,f1,f2⟩:=wqq hM hs.toList _ 0 (xzu mask) (by rw [aJ];omega)
 rw [aJ,b8] at f1 f2
 refine ⟨owner,?_,f2⟩
 unfold SetTable.layClean
 rw [←Array.foldl_toList]
 rw [f1]
 rfl
theorem xxx {t:SetTable}{hs:Array Int}{wanted e:Nat}(hM:SetTable.sizeAbove wanted-1+1=2 ^ e)(hz:hs.size≤SetTable.sizeAbove wanted-1) :
  ∃t' order,t.relaid hs wanted=some (t',order)∧t'.mask=SetTable.sizeAbove wanted-1∧t'.dummies=#[]∧t'.place.size=hs.size∧order.size=hs.size∧(∀k∈order.toList,k<hs.size):=by
 obtain ⟨owner,e1,o⟩:=wjn hM hs hz
 refine ⟨_,_,by unfold SetTable.relaid SetTable.laid;rw [e1];rfl,rfl,rfl,?_,?_,λk hk=>?_⟩
 ·rw [ah,List.length_map]
  exact o.len
 ·rw [ah,List.length_map]
  exact o.len
 ·obtain ⟨⟨j,k'⟩,hm,rfl⟩:=aH.mp hk
  obtain ⟨j',hj',e⟩:=dP.mp hm
  cases q:owner.getD j' none with
  |none=>rw [q] at e;cases e
  |some v =>
   rw [q] at e
   cases e
   refine o.low j _ ?_
   rw [aE] at q
   cases q2:owner[j]? with
   |none=>rw [q2] at q;cases q
   |some y=>rw [q2] at q;exact bX some q
theorem wqr:∀n,n<501→∃e,3≤e∧e≤12∧SetTable.sizeAbove (4*n)=2 ^ e∧4*n<SetTable.sizeAbove (4*n):=by
 have:∀n,n<501→(List.range 13).any (λe=>decide (3≤e)&&(SetTable.sizeAbove (4*n)==2 ^ e)&&decide (4*n<SetTable.sizeAbove (4*n)))=true:=by decide +kernel
 intro n hn
 obtain ⟨e,he,h⟩:=dI.mp (this n hn)
 simp only [bi,eZ,d8] at h
 exact ⟨e,h.1.1,by have:=am.mp he;omega,h.1.2,h.2⟩
end L2
namespace L2
open PySem PySem.Spec PyProof.Rows
theorem nin {b:Addr}:b∉([]:List Addr):=λz=>nomatch z
theorem xw1 {K:Aa}{h:Heap}{C:Addr}{bmB:List Value}{newId:String}(X:K.In h)(q:PySem.W.excIn K C bmB newId=true) :
  ∃tl N a1 a2 a3 a4 a5 a6 a7 a8 a9 b0 b1 b2 b3 b5 mN,h.get? C=some (excClassObj a1 a2 C N a3 tl a4 a5 a6 a7 a8 a9 b0 b1 b2 b3 b5 newId) ∧
   h.Ns N mN∧mN "__init__" = none∧OwnTail h bmB tl:=by
 unfold PySem.W.excIn at q
 split at q
 ·next dd cd sl ho =>
  split at q
  ·next C1 tl x0 x1 x2 x3 nn x5 hm hs =>
   rw [bi,bi,bi,bi,bi] at q
   obtain ⟨⟨⟨⟨⟨p1,p2⟩,p3⟩,p4⟩,p5⟩,p6⟩:=q
   have p1':=eq_of_beq p1
   have p2':=eq_of_beq p2
   have p6':=eq_of_beq p6
   have p3':cd.hasDel=false:=by simpa using p3
   subst p1' p2'
   obtain ⟨f1,f2,f3,f4,f5,f6,f7,f8,f9,f10,f11⟩:=cd
   have hm':f3=Value.ref C1::tl:=hm
   have p3'':f11=false:=p3'
   subst hm' p3''
   have hsl:sl=#[x0,x1,x2,x3,some (.builtin nn),x5]:=by
    cases sl with
    |mk l =>
     have:l=[x0,x1,x2,x3,some (.builtin nn),x5]:=hs
     rw [this]
   subst hsl
   have nsok:=PySem.W.isNs_of_in X p5
   exact ⟨tl,f4,f1,f5,f2,f6,f7,f8,f9,f10,dd,x0,x1,x2,x3,x5,_,X _ _ ho,.of_isNs nsok,PySem.W.nsMap_none_of_in X p5 p6',PySem.W.tail_of_in X p4⟩
  ·exact absurd q (by decide)
 ·exact absurd q (by decide)
def CXE (P:Ac)(w:World):CXT:=λouter H s E e s' =>
 ∃(a C:Addr) (a0:Value) (B:Heap) (H':Hp),e=.ref a∧s'.os=s.os∧AllBare s'.gens∧Un (frs outer) [] H H' s.heap s'.heap∧HOk P w H' B ∧
  Heap.FlyingW B outer a (.ref C) a0 s'.heap∧(∀b o,s.heap.get? b=some o→b∉frs outer→∃o',B.get? b=some o'∧(H b=none→o'=o))∧E (.ref C) none H'
theorem CXE.no {P:Ac}{w:World}{outer:List Env}{H:Hp}{s s':Ab}{e:Value}(h:CXE P w outer H s E0 e s'):False:=by
 obtain ⟨_,_,_,_,_,_,_,_,_,_,_,_,q⟩:=h
 exact q
def uw (X:Cx)(E:St→XK):Prop:=∀(pins:List (Addr×Obj)) (σ:St) (H:Hp) (s:Ab) (e:Value) (s':Ab),Inv X pins σ H s→CXE X.prog X.w X.stack H s (E σ) e s'→X.xe e s'
theorem Wf {X:Cx}:uw X (λ_=>E0):=λ_ _ _ _ _ _ _ h=>h.no.elim
def wu7 (X:Cx)(E:St→XK):Prop:=∀(pins:List (Addr×Obj)) (σ:St) (H:Hp) (s:Ab) (h':Heap) (e C:Addr) (vs:List Value),Inv X pins σ H s→Heap.MadeExcOf s.heap h' e (.ref C) vs→E σ (.ref C) none H→X.xe (.ref e) { s with heap:=h' }
theorem qj1 {env:Env}{L:Addr}{outer:List Env}(h:env.frame=some L):frs (env::outer)=L::frs outer:=by
 unfold frs
 rw [List.filterMap_cons,h]
section
variable {P:Ac}{w:World}{K:Aa}{mg:Str→Option Value}{base:Heap}{N:List Str}{qual:Str}{scope:Scope}{f:Addr}{cdv:Value}{A:Around}{outer:List Env}{s0:Ab}{H0:Hp}{E:XK}
theorem qg:uw (qx7 (CXE P w) P w K mg base N qual scope f cdv A outer s0 H0 E) (λ_=>E):=by
 intro pins σ H s e s' I hx
 obtain ⟨a,C,a0,B,H',rfl,hos,hba,un,hokB,hfl,old,q⟩:=hx
 have ub:=I.base
 have hL:∀b o,s0.heap.get? b=some o→b≠s0.heap.objs.size:=λb o e z=>aI _ (z▸af e)
 have hfs:frs (envOfC qual scope s0.heap.objs.size f cdv::outer)=s0.heap.objs.size::frs outer:=qj1 rfl
 have hmem:∀b o,s0.heap.get? b=some o→b∉frs outer→b∉frs (envOfC qual scope s0.heap.objs.size f cdv::outer):=λb o e n=>by
  rw [hfs]
  intro z
  rcases ay.mp z with z|z
  ·exact hL b o e z
  ·exact n z
 have hold:∀b o,s0.heap.get? b=some o→b∉frs outer→∃o',B.get? b=some o'∧(H0 b=none→o'=o):=λb o e n=>by
  obtain ⟨o1,e1⟩:=ub.there b o e nin
  obtain ⟨o2,e2,e3⟩:=old b o1 e1 (hmem b o e n)
  refine ⟨o2,e2,λz=>?_⟩
  have e4:=ub.keep b o e z n nin
  have e5:=ub.free b o e z nin
  rw [e1] at e4
  rw [e3 e5]
  exact aj e4
 refine wpAny_leaves_onW I.ok.frames rfl hfl λh' hf' hup=>?_
 have toH:∀b,b∈frs outer→∀o,s0.heap.get? b=some o→H0 b=none→∃sl,h'.get? b=some { o with slots:=sl }:=λb hb o e n=>by
  obtain ⟨sl,e1⟩:=ub.slot b o e n hb nin
  obtain ⟨sl2,e2⟩:=un.slot b _ e1 (ub.free b o e n nin) (by show b∈frs (envOfC qual scope s0.heap.objs.size f cdv::outer);rw [hfs];exact .tail _ hb) nin
  obtain ⟨_,o3,e3,nf⟩:=hfl.2.2.1.mem (b:=b) (by show b∈frs (envOfC qual scope s0.heap.objs.size f cdv::outer);rw [hfs];exact .tail _ hb)
  obtain ⟨sl4,e4⟩:=hup b o3 e3 nf
  rw [e2] at e3
  have e5:=aj e3
  exact ⟨sl4,by rw [e4,←e5]⟩
 refine ⟨a,C,a0,B,H',rfl,hos.trans I.os,hba,⟨λb o e n nb _=>?_,λb o e n hb _=>toH b hb o e n,λb o e n _=>?_,λb o e _=>?_,λb xs e=>un.tups b xs (ub.tups b xs e),λb o u e=>un.frzs b o u (ub.frzs b o u e),λb ps e=>?_⟩,hokB,hf',hold,q⟩
 ·obtain ⟨o',e1,e2⟩:=hold b o e nb
  rw [e2 n] at e1
  exact hf'.1 b o e1
 ·obtain ⟨o1,e1⟩:=ub.there b o e nin
  exact un.free b o1 e1 (ub.free b o e n nin) nin
 ·by_cases hb:b∈frs outer
  ·obtain ⟨o1,e1⟩:=ub.there b o e nin
   obtain ⟨o2,e2⟩:=un.there b o1 e1 nin
   obtain ⟨_,o3,e3,nf⟩:=hfl.2.2.1.mem (b:=b) (by show b∈frs (envOfC qual scope s0.heap.objs.size f cdv::outer);rw [hfs];exact .tail _ hb)
   obtain ⟨sl4,e4⟩:=hup b o3 e3 nf
   exact ⟨_,e4⟩
  ·obtain ⟨o',e1,_⟩:=hold b o e hb
   exact ⟨o',hf'.1 b o' e1⟩
 ·obtain ⟨m1,e1⟩:=ub.tbls b ps e
  obtain ⟨m2,e2⟩:=un.tbls b _ e1
  exact ⟨m1++m2,by rw [e2,Array.append_assoc]⟩
theorem zh:wu7 (qx7 (CXE P w) P w K mg base N qual scope f cdv A outer s0 H0 E) (λ_=>E):=by
 intro pins σ H s h' e C vs I hx q
 have ub:=I.base
 have hfs:frs (envOfC qual scope s0.heap.objs.size f cdv::outer)=s0.heap.objs.size::frs outer:=qj1 rfl
 have hmem:∀b o,s0.heap.get? b=some o→b∉frs outer→b∉frs (envOfC qual scope s0.heap.objs.size f cdv::outer):=λb o e n=>by
  rw [hfs]
  intro z
  rcases ay.mp z with z|z
  ·exact aI _ (z▸af e)
  ·exact n z
 have hfree:∀b∈frs (envOfC qual scope s0.heap.objs.size f cdv::outer),H b=none:=I.stkFree
 have hB:∀b o,s.heap.get? b=some o→b∉frs (envOfC qual scope s0.heap.objs.size f cdv::outer)→(PySem.W.hideAll s.heap (frs (envOfC qual scope s0.heap.objs.size f cdv::outer))).get? b=some o:=λb o e n=>PySem.W.hideAll_get _ e n
 have hokB:HOk P w H (PySem.W.hideAll s.heap (frs (envOfC qual scope s0.heap.objs.size f cdv::outer))):=λb u hb=>by
  refine (I.hok b u hb).stay (λc v hc ec=>hB c v ec λhm=>?_) (λ_ z=>z) (λ_ _ z=>z)
  have hn:=hfree c hm
  rcases hc with rfl|hc
  ·rw [hn] at hb;cases hb
  ·rw [hn] at hc;cases hc
 have hold:∀b o,s0.heap.get? b=some o→b∉frs outer→∃o',(PySem.W.hideAll s.heap (frs (envOfC qual scope s0.heap.objs.size f cdv::outer))).get? b=some o'∧(H0 b=none→o'=o):=λb o e n=>by
  obtain ⟨o1,e1⟩:=ub.there b o e nin
  refine ⟨o1,hB b o1 e1 (hmem b o e n),λz=>?_⟩
  have e4:=ub.keep b o e z n nin
  rw [e1] at e4
  exact aj e4
 have hst:s.heap.FunFrames base (envOfC qual scope s0.heap.objs.size f cdv::outer):=I.stack
 have hff:=PySem.W.funFrames_hide (as:=frs (envOfC qual scope s0.heap.objs.size f cdv::outer)) hst (λenv he b hb=>dP.mpr ⟨env,he,hb⟩)
 refine wpAny_leaves_madeW (base:=PySem.W.hideAll s.heap (frs (envOfC qual scope s0.heap.objs.size f cdv::outer))) (h:=s.heap) I.ok.frames rfl (λb o e=>PySem.W.of_hideAll _ e) hff hx λh'' t hf' _ _ hup=>?_
 have toF:∀b,b∈frs outer→∃o,s.heap.get? b=some o∧∃sl,h''.get? b=some { o with slots:=sl }:=λb hb=>by
  obtain ⟨_,o3,e3,nf⟩:=hst.mem (b:=b) (by show b∈frs (envOfC qual scope s0.heap.objs.size f cdv::outer);rw [hfs];exact .tail _ hb)
  exact ⟨o3,e3,hup b o3 (hx.keeps b o3 e3) nf⟩
 refine ⟨e,C,.ref t,_,H,rfl,I.os,I.bare,⟨λb o e1 n nb _=>?_,λb o e1 n hb _=>?_,λb o e1 n _=>ub.free b o e1 n nin,λb o e1 _=>?_,ub.tups,ub.frzs,ub.tbls⟩,hokB,hf',hold,q⟩
 ·obtain ⟨o',e2,e3⟩:=hold b o e1 nb
  rw [e3 n] at e2
  exact hf'.1 b o e2
 ·obtain ⟨sl,e2⟩:=ub.slot b o e1 n hb nin
  obtain ⟨o3,e3,sl3,e4⟩:=toF b hb
  rw [e2] at e3
  have e5:=aj e3
  exact ⟨sl3,by rw [e4,←e5]⟩
 ·by_cases hb:b∈frs outer
  ·obtain ⟨o3,e3,sl3,e4⟩:=toF b hb
   exact ⟨_,e4⟩
  ·obtain ⟨o',e2,_⟩:=hold b o e1 hb
   exact ⟨o',hf'.1 b o' e2⟩
end
section
variable {P:Ac}{w:World}{K:Aa}{mg:Str→Option Value}{base:Heap}
end
def qjp (sp:Sp)(E:St→XK)(t:TA):TE:=λσ H Q=>t σ H λvs H1=>sp vs H1 Q (E σ)
def qk6 (C:Addr)(m:Str)(sp:Sp)(E:St→XK)(ta:TE)(t:TA):TE:=λσ H Q=>ta σ H λx H1=>∃a dx fs,x=.ref a∧H1 a=some (.ins C dx fs)∧fs.lookup m=none ∧
 t σ H1 λvs H2=>sp (x::vs) H2 Q (E σ)
def wyr (C:Addr)(sp:Sp)(E:St→XK)(t:TA):TE:=λσ H Q=>t σ H λvs H1=>∀x dx,H1 x=none→H1 dx=none→dx≠x →
 sp (.ref x::vs) (upd (upd H1 dx (.own x)) x (.ins C dx [])) (λv H2=>v=.non∧Q (.ref x) H2) (E σ)
section
variable {X:Cx}{k:Nat}{f C:Addr}{fd:Ad}{ps:List Str}{sp:Sp}{E:St→XK}{x m:Str}{p pos apos:Pos}{e o:Expr}{es:List Expr}{ta:TE}{t:TA}
theorem qks {pins:List (Addr×Obj)}{σ:St}{H:Hp}{s:Ab}{Q:VK}{us:List Value}{vs:List V}(F:FnOk X.prog X.w X.K X.mg X.base (CXE X.prog X.w) k f fd ps sp)(hr:Room k X.A)(hb:Binds X.K fd ps [])(hx:uw X E)
  (I:Inv X pins σ H s) (r:Vals vs us) (h:sp vs H Q (E σ)):wpAny (model X.prog X.w) X.A (call (.ref f) us) (EP X pins σ Q) X.xe s:=by
 have hl:(us++[]).length=ps.length:=by rw [bK,←r.length];exact F.len _ _ _ _ h
 have hb':=hb s us I.kIn hl
 rw [bK] at hb'
 refine iv (du (F.run X.A X.stack s H ⟨us,[]⟩ us vs Q (E σ) hr I.env0 hb' r h) λr s' hq=>?_)
 cases r with
 |error e=>exact hx pins σ H s e s' I hq
 |ok fl =>
  cases fl with
  |ret u=>exact I.after hq
  |next=>exact False.elim hq
  |brk=>exact False.elim hq
  |cont=>exact False.elim hq
theorem wj4 (F:FnOk X.prog X.w X.K X.mg X.base (CXE X.prog X.w) k f fd ps sp)(hr:Room k X.A)(hg:Gl X x)(hm:X.mg x=some (.ref f))(hk:PySem.W.keepIn X.K (.ref f)=true)(hb:Binds X.K fd ps [])(hx:uw X E)
  (ha:PA X (e::es) t) (hdb:(x==("__debug__" : Str))=false:=by decide) (he:starEach (e::es) X.env=(false,eval e X.env)::starEach es X.env:=by rfl) (hpl:(backTo pos (starEach es X.env)).any (·.1)=false:=by rfl) :
  PE X (.Call (.Name x p) (e::es) [] pos) (qjp sp E t):=by
 intro pins s σ H Q I h
 refine cL (qqr I hg hm ?_ hdb)
 refine gC (h₀:=X.base) I.ok.mod.kin hk (thn (ha pos pins s σ H _ I h) λus s1 ⟨vs,H1,I1,r,q⟩=>⟨I1.kIn,?_⟩) he hpl
 exact qks F hr hb hx I1 r q
theorem wuc {pl:Sem Bool}(he:PE X o ta)(c:Cls X.K C)(hm:Meth X.K C m f)(F:FnOk X.prog X.w X.K X.mg X.base (CXE X.prog X.w) k f fd ps sp)(hr:Room k X.A)(hb:Binds X.K fd ps [])(hx:uw X E)(ha:PA X (e::es) t)
  (hst:starEach (e::es) X.env=(false,eval e X.env)::starEach es X.env:=by rfl) (hpl:(backTo pos (starEach es X.env)).any (·.1)=false:=by rfl)
  (ht:eval (.Call (.Attribute o m apos) (e::es) [] pos) X.env=(do
   let ov ←eval o X.env
   standAt apos.atName
   let (f,first) ←holding [ov] (getMethod ov m pl)
   callWith pos f first (backTo pos (starEach (e::es) X.env)) (backToKw pos (keywordEach [] X.env))):=by rfl) :
  PE X (.Call (.Attribute o m apos) (e::es) [] pos) (qk6 C m sp E ta t):=by
 intro pins s σ H Q I h
 refine PySem.W.methodCall_KW (pl:=pl) (thn (he pins s σ H _ I h) λu s1 ⟨x,H1,I1,rx,a,dx,fs,ex,ea,l,q⟩=>?_) ht
 subst ex
 obtain rfl:u=Value.ref a:=rx
 refine qx4 I1 ea c hm l ?_
 refine gC (first:=[.ref a]) (h₀:=X.base) I.ok.mod.kin hm.kp (thn (ha pos pins s1 σ H1 _ I1 q) λus s2 ⟨vs,H2,I2,r,q2⟩=>⟨I2.kIn,?_⟩) hst hpl
 exact qks (us:=.ref a::us) (vs:=.ref a::vs) F hr hb hx I2 (.cons rfl r) q2
theorem wjg {pl:Sem Bool}(he:PE X o ta)(c:Cls X.K C)(hm:Meth X.K C m f)(F:FnOk X.prog X.w X.K X.mg X.base (CXE X.prog X.w) k f fd ps sp)(hr:Room k X.A)(hb:Binds X.K fd ps [])(hx:uw X E)
  (ht:eval (.Call (.Attribute o m apos) [] [] pos) X.env=(do
   let ov ←eval o X.env
   standAt apos.atName
   let (f,first) ←holding [ov] (getMethod ov m pl)
   callWith pos f first (backTo pos (starEach [] X.env)) (backToKw pos (keywordEach [] X.env))):=by rfl) :
  PE X (.Call (.Attribute o m apos) [] [] pos) (qk6 C m sp E ta qq4):=by
 intro pins s σ H Q I h
 refine PySem.W.methodCall_KW (pl:=pl) (thn (he pins s σ H _ I h) λu s1 ⟨x,H1,I1,rx,a,dx,fs,ex,ea,l,q⟩=>?_) ht
 subst ex
 obtain rfl:u=Value.ref a:=rx
 refine qx4 I1 ea c hm l ?_
 exact PySem.W.callWith_K0 (first:=[.ref a]) I1.kIn hm.kp (qks (us:=[.ref a]) (vs:=[.ref a]) F hr hb hx I1 (.cons rfl .nil) q)
theorem wj1 {pins:List (Addr×Obj)}{σ:St}{H:Hp}{s:Ab}{Q:VK}{us:List Value}{vs:List V}(M:Mk X.K C f)(F:FnOk X.prog X.w X.K X.mg X.base (CXE X.prog X.w) k f fd ps sp)(hr:Room (k+1) X.A)(hb:Binds X.K fd ps [])
  (hx:uw X E) (I:Inv X pins σ H s) (r:Vals vs us)
  (h:∀x dx,H x=none→H dx=none→dx≠x→sp (.ref x::vs) (upd (upd H dx (.own x)) x (.ins C dx [])) (λv H2=>v=.non∧Q (.ref x) H2) (E σ)) :
  wpAny (model X.prog X.w) X.A (call (.ref C) us) (EP X pins σ Q) X.xe s:=by
 have hq:=h (s.heap.objs.size+1) s.heap.objs.size (I.hok.fresh (gP _)) (I.hok.fresh (Nat.le_refl _)) (ar (cK _))
 have I2:=Inv.made (C:=C) I
 have r2:Vals (V.ref (s.heap.objs.size+1)::vs) (Value.ref (s.heap.objs.size+1)::us):=.cons rfl r
 have hl:((Value.ref (s.heap.objs.size+1)::us)++[]).length=ps.length:=by
  rw [bK,←r2.length]
  exact F.len _ _ _ _ hq
 have hb':=hb _ (Value.ref (s.heap.objs.size+1)::us) I2.kIn hl
 rw [bK] at hb'
 refine iv (wuh (f:=f) I.kIn M.makes M.init (d8.mp M.fn) (du (F.run _ X.stack _ _ ⟨Value.ref (s.heap.objs.size+1)::us,[]⟩ (Value.ref (s.heap.objs.size+1)::us) _ _ (E σ) (hr.make C us [])
  (I2.env0.make C us []) hb' r2 hq) λr s' hq'=>?_))
 cases r with
 |error e=>exact hx pins σ _ _ e s' I2 hq'
 |ok fl =>
  cases fl with
  |ret u =>
   obtain ⟨v,H',I3,rv,ev,q3⟩:=I2.after hq'
   subst ev
   exact ⟨rv,⟨V.ref (s.heap.objs.size+1),H',I3,rfl,q3⟩⟩
  |next=>exact False.elim hq'
  |brk=>exact False.elim hq'
  |cont=>exact False.elim hq'
theorem xq5 (M:Mk X.K C f)(F:FnOk X.prog X.w X.K X.mg X.base (CXE X.prog X.w) k f fd ps sp)(hr:Room (k+1) X.A)(hg:Gl X x)(hm:X.mg x=some (.ref C))(hb:Binds X.K fd ps [])(hx:uw X E)
  (ha:PA X (e::es) t) (hdb:(x==("__debug__" : Str))=false:=by decide) (he:starEach (e::es) X.env=(false,eval e X.env)::starEach es X.env:=by rfl) (hpl:(backTo pos (starEach es X.env)).any (·.1)=false:=by rfl) :
  PE X (.Call (.Name x p) (e::es) [] pos) (wyr C sp E t):=by
 intro pins s σ H Q I h
 refine cL (qqr I hg hm ?_ hdb)
 refine gC (h₀:=X.base) I.ok.mod.kin M.kp (thn (ha pos pins s σ H _ I h) λus s1 ⟨vs,H1,I1,r,q⟩=>⟨I1.kIn,?_⟩) he hpl
 exact wj1 M F hr hb hx I1 r q
end
structure ExcC (K:Aa)(C:Addr):Prop where
 q:PySem.W.excIn K C [.type "ValueError",.type "Exception",.type "BaseException",.type "object"] "ValueError.__new__" = true
def tRaise (C:Addr)(E:St→XK)(t:TA):TS:=λD σ H=>t σ H λvs H1=>vs.length≤sizeLine∧E σ (.ref C) none H1
section
variable {X:Cx}{C:Addr}{E:St→XK}{x:Str}{np cpos pos:Pos}{e:Expr}{es:List Expr}{t:TA}
theorem ku (hc:X.calm=true)(c:ExcC X.K C)(hR:wu7 X E)(hg:Gl X x)(hm:X.mg x=some (.ref C))(ha:PA X (e::es) t)(hdb:(x==("__debug__" : Str))=false:=by decide)
  (he:starEach (e::es) X.env=(false,eval e X.env)::starEach es X.env:=by rfl) (hpl:(backTo cpos (starEach es X.env)).any (·.1)=false:=by rfl) :
  PS X (.Raise (some (.Call (.Name x np) (e::es) [] cpos)) none pos) (tRaise C E t):=by
 intro pins s σ H D I h
 obtain ⟨tl,N,a1,a2,a3,a4,a5,a6,a7,a8,a9,b0,b1,b2,b3,b5,mN,hC,hN,hni,T⟩:=xw1 I.ok.mod.kin c.q
 refine wpAny_Raise_call_subT (C:=C) (nm:=a1) (q:=a2) (N:=N) (bs:=a3) (bm:=tl) (hdct:=a4) (sn:=a5) (sub:=a6) (ab:=a7) (col:=a8) (dd:=a9) (k0:=b0) (k1:=b1) (k2:=b2) (k3:=b3) (k5:=b5)
  gD (mN:=mN) (T.hasType gD.hasBase) (I.ok.hd hc) (by rw [he];show (false||(backTo cpos (starEach es X.env)).any (·.1))=false;rw [hpl];rfl) hni (qqr I hg hm ⟨rfl,?_⟩ hdb)
 have hw:=ha cpos pins s σ H _ I h
 rw [he] at hw ⊢
 refine Calls.evalArgs_plain (aS hw (λus s1 ⟨vs,H1,I1,r,hl,q⟩=>⟨rfl,by rw [←r.length];exact hl,I1.bk _ _ hC,hN.keeps I1.bk,T.keeps I1.bk,λh' e hx=>hR pins σ H1 s1 h' e C us I1 hx q⟩) λ_ _ z=>z)
end
def Sm (n:Nat)(i:Int):Prop:=i.natAbs<2 ^ n
theorem Sm.bits {n:Nat}{i:Int}(h:Sm n i):Builtin.Int.intBits i≤n:=PyProof.Rows.intBits_le h
theorem Sm.mono {n m:Nat}{i:Int}(h:Sm n i)(hm:n≤m):Sm m i:=aD h (bO (by decide) hm)
theorem Sm.mul {n m:Nat}{i j:Int}(h:Sm n i)(h':Sm m j):Sm (n+m) (i*j):=by
 unfold Sm at *
 rw [ff,Nat.pow_add]
 exact Nat.mul_lt_mul_of_lt_of_le h (Nat.le_of_lt h') (fW m)
theorem Sm.of_le {n:Nat}{i j:Int}(h:Sm n j)(e:i.natAbs≤j.natAbs):Sm n i:=eO e h
theorem Sm.ok {n m:Nat}{i j:Int}(h:Sm n i)(h':Sm m j)(e:n+m≤134217728):IntMulOk i j:=IntMulOk.of_le h.bits h'.bits e
theorem Sm.log {n:Nat}{i:Int}(h:Sm n i)(hn:n≤9000):i.natAbs.log2<9000:=by
 by_cases h0:i.natAbs=0
 ·rw [h0]
  decide
 ·exact aD ((Nat.log2_lt h0).mpr h) hn
theorem Sm.noPl {n:Nat}{i j:Int}(h:Sm n j)(hn:n≤9000):Builtin.divisionGoesByPylong i j=false:=PyProof.noPylong_of_log2 (h.log hn)
section
variable {X:Cx}
theorem xp:OpR X (binaryOp .Mult) (rI IntMulOk λi j=>.int (i*j)):=opI λ_ _ _ _ _ _ _ hc q=>mul_int q hc
theorem Qj:OpR X (binaryOp .FloorDiv) (rI (λ_ j=>0<j∧Sm 9000 j) λi j=>.int (i/j)):=opI λi j _ _ _ _ _ hc q =>
 floordiv_int (by omega) (by rw [Int.fdiv_eq_ediv_of_nonneg i (iw hc.1)];exact q) (.inl (hc.2.noPl (Nat.le_refl _)))
theorem vj:v8 X (.builtin "isinstance") (λxs H Q=>∃x T t b,xs=[x,.ty T]∧TyOf X.K H x t∧PySem.W.kitOne X.K t (.type T)=some b∧Q (.bl b) H):=by
 intro pins s σ H xs us Q I r h
 obtain ⟨x,T,t,b,rfl,ty,e,q⟩:=h
 obtain ⟨u,u',rfl,r1,r2⟩:=wyt r
 cases r2
 exact wj0 I r1 ty e λtk=>⟨.bl b,H,I.tok tk,rfl,q⟩
end
mutual
def RD (K:Aa)(H:Hp):PyData→V→Prop
 |.none,v=>v=.non
 |.bool b,v=>v=.bl b
 |.int i,v=>v=.int i
 |.str x,v=>v=.str x
 |.list ds,v=>∃a xs,v=.ref a∧SqL K H a xs∧RDs K H ds xs
 |.tuple ds,v=>∃a xs,v=.ref a∧SqT K H a xs∧RDs K H ds xs
 |.dict _,_=>False
def RDs (K:Aa)(H:Hp):List PyData→List V→Prop
 |[],xs=>xs=[]
 |d::ds,xs=>∃y ys,xs=y::ys∧RD K H d y∧RDs K H ds ys
end
section
variable {X:Cx}{pins:List (Addr×Obj)}{σ:St}{H:Hp}{s:Ab}
mutual
theorem ud (I:Inv X pins σ H s):∀(d:PyData) (v:V) (u:Value),RD X.K H d v→RelV v u→∃as,Reads s.heap u d as
 |.none,v,u,h,r=>by
  rw [RD] at h;subst h
  cases (show u=Value.none from r)
  exact ⟨_,.none⟩
 |.bool b,v,u,h,r=>by
  rw [RD] at h;subst h
  cases (show u=Value.bool b from r)
  exact ⟨_,.bool b⟩
 |.int i,v,u,h,r=>by
  rw [RD] at h;subst h
  obtain ⟨t,rfl⟩:=(show ∃t,u=Value.int i t from r)
  exact ⟨_,.int i t⟩
 |.str x,v,u,h,r=>by
  rw [RD] at h;subst h
  obtain ⟨t,rfl⟩:=(show ∃t,u=Value.str x t from r)
  exact ⟨_,.str x t⟩
 |.list ds,v,u,h,r=>by
  rw [RD] at h
  obtain ⟨a,xs,rfl,hs,hd⟩:=h
  cases (show u=Value.ref a from r)
  obtain ⟨its,rv,⟨o,n,e1,e2,_,e3⟩,_⟩:=I.list hs
  obtain ⟨as,ha⟩:=Z8 I ds xs its hd rv
  exact ⟨_,.list e1 e2 e3 (by simpa using ha)⟩
 |.tuple ds,v,u,h,r=>by
  rw [RD] at h
  obtain ⟨a,xs,rfl,hs,hd⟩:=h
  cases (show u=Value.ref a from r)
  obtain ⟨its,rv,⟨o,e1,e2,n,e3⟩,_⟩:=I.tuple hs
  obtain ⟨as,ha⟩:=Z8 I ds xs its hd rv
  exact ⟨_,.tuple e1 e2 e3 (by simpa using ha)⟩
 |.dict _,_,_,h,_=>by
  rw [RD] at h
  exact h.elim
theorem Z8 (I:Inv X pins σ H s):∀(ds:List PyData) (vs:List V) (us:List Value),RDs X.K H ds vs→Vals vs us→∃as,ReadsAll s.heap us ds as
 |[],vs,us,h,r=>by
  rw [RDs] at h;subst h
  cases r
  exact ⟨_,.nil⟩
 |d::ds,vs,us,h,r=>by
  rw [RDs] at h
  obtain ⟨y,ys,rfl,h1,h2⟩:=h
  cases r with
  |cons r1 r2 =>
   obtain ⟨as,a1⟩:=ud I d y _ h1 r1
   obtain ⟨bs,a2⟩:=Z8 I ds ys _ h2 r2
   exact ⟨_,.cons a1 a2⟩
end
def rEqD (K:Aa)(neg:Bool):R2:=λx y H Q=>∃d e,RD K H d x∧RD K H e y∧d.canLay0=true∧e.canLay0=true∧min d.depth e.depth≤60∧Q (.bl (if neg then !PyData.eqv d e else PyData.eqv d e)) H
theorem op_eqD (hu:X.A.units+64<cLine):OpR X (compareOp .Eq) (rEqD X.K false):=by
 intro pins s σ H x y v u Q I rx ry h
 obtain ⟨d,e,h1,h2,c1,c2,dp,q⟩:=h
 obtain ⟨as,a1⟩:=ud I d x v h1 rx
 obtain ⟨bs,a2⟩:=ud I e y u h2 ry
 exact PySem.SeqAt.compareEq_reads a1 a2 c1 c2 (by omega) ⟨.bl _,H,I,rfl,q⟩
theorem op_neD (hu:X.A.units+64<cLine):OpR X (compareOp .NotEq) (rEqD X.K true):=by
 intro pins s σ H x y v u Q I rx ry h
 obtain ⟨d,e,h1,h2,c1,c2,dp,q⟩:=h
 obtain ⟨as,a1⟩:=ud I d x v h1 rx
 obtain ⟨bs,a2⟩:=ud I e y u h2 ry
 exact PySem.SeqAt.compareNe_reads a1 a2 c1 c2 (by omega) ⟨.bl _,H,I,rfl,q⟩
end
def ptD (p:Int×Int):PyData:=.tuple [.int p.1,.int p.2]
theorem qwd:∀(xs ys:List Int),PyData.eqvAll (xs.map .int) (ys.map .int)=decide (xs=ys)
 |[],[]=>rfl
 |[],_::_=>rfl
 |_::_,[]=>rfl
 |x::xs,y::ys=>by
  rw [aF,aF,PyData.eqvAll,qwd xs ys,PyData.eqv]
  by_cases h:x=y
  ·subst h;simp
  ·simp [h]
theorem eqv_pt (p q:Int×Int):PyData.eqv (ptD p) (ptD q)=decide (p=q):=by
 obtain ⟨a,b⟩:=p
 obtain ⟨c,d⟩:=q
 unfold ptD
 rw [PyData.eqv]
 have:=qwd [a,b] [c,d]
 rw [aF,aF,cP,aF,aF,cP] at this
 rw [this]
 simp
theorem qyp:∀(xs:List Int),PyData.canLayAll0 (xs.map .int)=true
 |[]=>rfl
 |x::xs=>by rw [aF,PyData.canLayAll0,qyp xs];rfl
theorem qy8:∀(xs:List Int),PyData.depthAll (xs.map .int)≤1
 |[]=>by simp [PyData.depthAll]
 |x::xs=>by
  have:=qy8 xs
  simp only [aF,PyData.depthAll,PyData.depth]
  omega
theorem wvj {K:Aa}{H:Hp}:∀(xs:List Int),RDs K H (xs.map .int) (xs.map V.int)
 |[]=>by rw [cP,cP,RDs]
 |x::xs=>by
  rw [aF,aF,RDs]
  exact ⟨_,_,rfl,by rw [RD],wvj xs⟩
end L2
namespace L2
open PySem PySem.Spec PyProof.Rows
section
variable {P:Ac}{w:World}{K:Aa}{mg:Str→Option Value}{base:Heap}
theorem Fun.okX {x qual:Str}{st:Stmt}{f:Addr}{fd:Ad}{N ps:List Str}{k:Nat}{sp:Sp}(F:Fun K x qual st f fd)(S:FnScope N ps (qp st))(len:∀vs H Q E,sp vs H Q E→vs.length=ps.length)
  (body:∀(cdv:Value) (A:Around) (outer:List Env) (s:Ab) (H:Hp) (vs:List V) (Q:VK) (E:XK),Room k (A.deeper (envOfC qual (qp st) s.heap.objs.size f cdv))→sp vs H Q E →
   ∃t,PSs (qx7 (CXE P w) P w K mg base N qual (qp st) f cdv A outer s H E) (zd st) t∧t { nx:=λ_ H'=>Q .non H',rt:=Q } (Q8 N vs) H):FnOk P w K mg base (CXE P w) (k+1) f fd ps sp:=by
 obtain ⟨oc,od,kV,doc,pm,an,cdv,ct,osl,rfl,lk,hcd⟩:=F.ex
 exact wy9 lk hcd S len λA outer s H vs Q E hr hsp=>body cdv A outer s H vs Q E hr hsp
structure DefIn (K:Aa)(x:Str)(st:Stmt):Prop where
 ex:∃f fd,PySem.W.nsIn K mainGlobals x=some (some (.ref f))∧Fun K x x st f fd
theorem def_mk {x:Str}{st:Stmt}{f:Addr}{oc:Value}{od an:Option Addr}{osl:Array (Option Value)}{kV doc pm cdv ct:Value}(a:PySem.W.nsIn K mainGlobals x=some (some (.ref f)))
  (l:K.lookup f=some ⟨oc,od,.func (PySem.W.fnOf x x (vx st) (zd st) (qp st) .none kV doc pm an cdv ct),osl⟩) (c:PySem.W.codeIn K cdv x=true) (k:PySem.W.keepIn K (.ref f)=true):DefIn K x st:=⟨_,_,a,wqc l c k⟩
def xk (x:Str)(st:Stmt)(ps:List Str):Prop:=∀(kV doc pm:Value) (an:Option Addr) (cdv ct:Value) (us:List Value),us.length=ps.length→bindArgs (PySem.W.fnOf x x (vx st) (zd st) (qp st) .none kV doc pm an cdv ct) ⟨us,[]⟩=pure (ps.zip us)
structure Cal (P:Ac)(w:World)(K:Aa)(mg:Str→Option Value)(base:Heap)(x:Str)(k:Nat)(sp:Sp):Prop where
 ex:∃f fd ps,mg x=some (.ref f)∧FnOk P w K mg base (CXE P w) k f fd ps sp∧PySem.W.keepIn K (.ref f)=true∧Binds K fd ps []
theorem DefIn.cal {x:Str}{st:Stmt}{ps:List Str}{k:Nat}{sp:Sp}{h:Heap}(d:DefIn K x st)(KX:K.In h)(G:h.Ns mainGlobals mg)(b:xk x st ps)(ok:∀f fd,Fun K x x st f fd→FnOk P w K mg base (CXE P w) k f fd ps sp):Cal P w K mg base x k sp:=by
 obtain ⟨f,fd,a,F⟩:=d.ex
 exact ⟨f,fd,ps,bM KX G a,ok f fd F,F.kp,F.binds b⟩
end
section
variable {X:Cx}{x:Str}{k:Nat}{sp:Sp}{E:St→XK}{p pos:Pos}{e:Expr}{es:List Expr}{t:TA}
theorem ww (c:Cal X.prog X.w X.K X.mg X.base x k sp)(hr:Room k X.A)(hg:Gl X x)(hx:uw X E)
  (ha:PA X (e::es) t) (hdb:(x==("__debug__" : Str))=false:=by decide) (he:starEach (e::es) X.env=(false,eval e X.env)::starEach es X.env:=by rfl) (hpl:(backTo pos (starEach es X.env)).any (·.1)=false:=by rfl) :
  PE X (.Call (.Name x p) (e::es) [] pos) (qjp sp E t):=by
 obtain ⟨f,fd,ps,hm,F,kp,b⟩:=c.ex
 exact wj4 F hr hg hm kp b hx ha hdb he hpl
end
theorem kh {c A B:Prop}[Decidable c](h1:c→A)(h2:¬ c→B):if decide c=true then A else B:=by
 by_cases h:c
 ·rw [decide_eq_true h]
  exact yu (h1 h)
 ·rw [decide_eq_false h]
  exact js (h2 h)
theorem iteND {c A B:Prop}[Decidable c](h1:¬ c→A)(h2:c→B):if (!decide c)=true then A else B:=by
 by_cases h:c
 ·rw [decide_eq_true h]
  exact js (h2 h)
 ·rw [decide_eq_false h]
  exact yu (h1 h)
theorem deqI {i j:Int}:decide (V.int i=V.int j)=decide (i=j):=by
 by_cases h:i=j
 ·subst h;simp
 ·simp [h]
theorem Q6 {i j:Int}{A B:Prop}(h1:i=j→A)(h2:i≠j→B):if decide (V.int i=V.int j)=true then A else B:=by
 rw [deqI]
 exact kh h1 h2
theorem wwf {i j:Int}{A B:Prop}(h1:i≠j→A)(h2:i=j→B):if (!decide (V.int i=V.int j))=true then A else B:=by
 rw [deqI]
 exact iteND h1 h2
theorem Same.upd {H:Hp}{p:Addr}{o:HO}(n:H p=none):Same H (upd H p o):=λb u e=>by
 rw [qr (q8 e n)]
 exact e
theorem Same.rd {H H':Hp}{a:Addr}{o:HO}(h:Same H H')(r:Rd H a o):Rd H' a o:=by
 rcases r with r|⟨u,r⟩
 ·exact .inl (h a _ r)
 ·exact .inr ⟨u,h a _ r⟩
theorem Same.sqt {K:Aa}{H H':Hp}{a:Addr}{xs:List V}(h:Same H H')(s:SqT K H a xs):SqT K H' a xs:=by
 rcases s with s|s
 ·exact .inl (h.rd s)
 ·exact .inr s
theorem Same.sql {K:Aa}{H H':Hp}{a:Addr}{xs:List V}(h:Same H H')(s:SqL K H a xs):SqL K H' a xs:=h.seq s
theorem SqT.new {K:Aa}{H:Hp}{p:Addr}{xs:List V}:SqT K (upd H p (.tup xs)) p xs:=SqT.of qb
theorem SqL.new {K:Aa}{H:Hp}{p:Addr}{xs:List V}:SqL K (upd H p (.lst xs)) p xs:=SqL.of qb
theorem W6:bootBuiltins "abs" = some (.builtin "abs"):=by decide +kernel
theorem qy7:bootBuiltins "all" = some (.builtin "all"):=by decide +kernel
theorem qqu {ns:List Int}{i:Int}(h0:0≤i)(h1:i<ns.length):atI (ns.map V.int) i=some (V.int (ns.getD i.toNat 0)):=by
 have hl:i.toNat<ns.length:=by omega
 have e:(ns.map V.int)[i.toNat]?=some (V.int (ns.getD i.toNat 0)):=by
  rw [ao,ae,aa hl]
  rfl
 have:=vy e
 rwa [cf h0] at this
def qun (ns:List Int)(i:Int):Int:=if i<ns.length then ns.getD i.toNat 0 else if (ns.length:Int)=0 then 7*i+3 else ns.getD (i%ns.length).toNat 0+1009*i
def divs (c:Int):Nat→Int
 |0=>c
 |n+1=>divs c n/1000
def wxz (K:Aa):Sp:=λvs H Q _=>∃(a:Addr) (ns:List Int) (i:Int),vs=[.ref a,.int i]∧SqL K H a (ns.map V.int)∧0≤i∧∀r,r=qun ns i→Q (.int r) H
def yr (c:Int):Int:=if c<0 then -c else c
def qkf (c t:Int):Int:=(c%1000003*48271+t*7919+101)%999983
def qyu (c t:Int):Int:=(qkf c t*qkf c t+c%1000003*31+t*104729)%1000033
def qub (c t:Int):Int:=if 10 ^ 18≤yr c then (if c<0 then divs (yr c) t.toNat%1000 else divs (yr c) t.toNat) else (qyu c t*qyu c t+qkf c t*17+t*30011)%999979
def quz (ns:List Int)(i t m:Int):Int:=qub (qun ns i) t%m
theorem xqd (ns:List Int)(i t m:Int)(h:0<m):0≤quz ns i t m:=cG _ (by omega)
theorem wyn (ns:List Int)(i t m:Int)(h:0<m):quz ns i t m<m:=bY _ h
theorem wyg {c t:Int}(h:10 ^ 18≤yr c)(n:c<0):qub c t=divs (yr c) t.toNat%1000:=by rw [qub,if_pos h,if_pos n]
theorem wkq {c t:Int}(h:10 ^ 18≤yr c)(n:¬ c<0):qub c t=divs (yr c) t.toNat:=by rw [qub,if_pos h,if_neg n]
theorem wut {c t:Int}(h:¬ 10 ^ 18≤yr c):qub c t=(qyu c t*qyu c t+qkf c t*17+t*30011)%999979:=by rw [qub,if_neg h]
def Jw (K:Aa):Sp:=λvs H Q _=>∃(a:Addr) (ns:List Int) (i t m:Int),vs=[.ref a,.int i,.int t,.int m]∧SqL K H a (ns.map V.int)∧0≤i∧0≤t∧t<1000000∧0<m ∧
 ∀r,r=quz ns i t m→0≤r→r<m→Q (.int r) H
theorem Sm.small {n:Nat}{i:Int}(h1:-(2 ^ 64)≤i)(h2:i≤2 ^ 64)(hn:65≤n):Sm n i:=by
 refine Sm.mono (n:=65) ?_ hn
 unfold Sm
 omega
theorem sz1 {x:V}:[x].length≤sizeLine:=by show 1≤sizeLine;decide
theorem sz2 {x y:V}:[x,y].length≤sizeLine:=by show 2≤sizeLine;decide
theorem sz0:([]:List V).length≤sizeLine:=by show 0≤sizeLine;decide
end L2
namespace L2
open PySem
def Yq (x y:Int):Int:=((Nat.gcd x.toNat y.toNat:Nat):Int)
theorem wk8 {x:Int}(h:0≤x):Yq x 0=x:=by
 unfold Yq
 have:(0:Int).toNat=0:=rfl
 rw [this,Nat.gcd_zero_right]
 omega
theorem wks {x y:Int}(hx:0≤x)(hy:0<y):Yq y (x%y)=Yq x y:=by
 unfold Yq
 have e:(x%y).toNat=x.toNat%y.toNat:=by
  have h1:x=(x.toNat:Int):=by omega
  have h2:y=(y.toNat:Int):=by omega
  have h3:x%y=((x.toNat%y.toNat:Nat):Int):=by
   conv=>lhs;rw [h1,h2]
   exact (Int.natCast_emod _ _).symm
  rw [h3]
  exact bA _
 rw [e,Nat.gcd_comm y.toNat,←Nat.gcd_rec,Nat.gcd_comm]
theorem wz0 (t:Int):yr t=(t.natAbs:Int):=by
 unfold yr
 split <;> omega
theorem wxs (t:Int):0≤yr t:=by
 rw [wz0]
 omega
theorem vt (t b:Int):Yq (yr t) b=((Nat.gcd t.natAbs b.toNat:Nat):Int):=by
 unfold Yq
 rw [wz0,bA]
def gOf (t b:Int):Int:=Yq (yr t) b
def wt (t b:Int):Int×Int:=(t/gOf t b,b/gOf t b)
theorem y7 {t b:Int}(h:1≤b):1≤gOf t b:=by
 unfold gOf
 rw [vt]
 have:0<Nat.gcd t.natAbs b.toNat:=Nat.gcd_pos_of_pos_right _ (by omega)
 omega
theorem gOf_le {t b:Int}(h:1≤b):gOf t b≤b:=by
 unfold gOf
 rw [vt]
 have:Nat.gcd t.natAbs b.toNat≤b.toNat:=Nat.gcd_le_right _ (by omega)
 omega
theorem wkx {t b:Int}(h:1≤b):gOf t b∣b:=by
 unfold gOf
 rw [vt]
 have h1:((Nat.gcd t.natAbs b.toNat:Nat):Int)∣(b.toNat:Int):=ic.mpr (Nat.gcd_dvd_right _ _)
 have h2:(b.toNat:Int)=b:=by omega
 rwa [h2] at h1
theorem wjw {t b:Int}:gOf t b∣t:=by
 unfold gOf
 rw [vt]
 have h1:((Nat.gcd t.natAbs b.toNat:Nat):Int)∣(t.natAbs:Int):=ic.mpr (Nat.gcd_dvd_left _ _)
 exact Int.dvd_natAbs.mp h1
theorem quc {t b:Int}:gOf t b*(t/gOf t b)=t:=Int.mul_ediv_cancel' wjw
theorem qvh {t b:Int}(h:1≤b):gOf t b*(b/gOf t b)=b:=Int.mul_ediv_cancel' (wkx h)
theorem j3 {t b:Int}(h:1≤b):(wt t b).1*b=t*(wt t b).2:=by
 unfold wt
 dsimp only
 have h1:=quc (t:=t) (b:=b)
 have h2:=qvh (t:=t) (b:=b) h
 conv=>lhs;rw [←h2]
 conv=>rhs;rw [←h1]
 rw [h1,h2]
 have e1:t/gOf t b*b=t/gOf t b*(gOf t b*(b/gOf t b)):=by rw [h2]
 have e2:t*(b/gOf t b)=gOf t b*(t/gOf t b)*(b/gOf t b):=by rw [h1]
 rw [e1,e2,←Int.mul_assoc,gh (t/gOf t b)]
theorem jq {t b:Int}(h:1≤b):1≤(wt t b).2:=by
 show 1≤b/gOf t b
 have h2:=qvh (t:=t) (b:=b) h
 have h3:=y7 (t:=t) h
 have:0<b/gOf t b:=by
  rcases cZ 0 (b/gOf t b) with z|z
  ·exact z
  ·have:=bn z (show 0≤gOf t b by omega)
   rw [h2,Int.mul_zero] at this
   omega
 omega
theorem Wq {t b:Int}(h:1≤b):(wt t b).2≤b:=Int.ediv_le_self _ (by omega)
theorem wq4 {t b:Int}(h:1≤b):gOf (wt t b).1 (wt t b).2=1:=by
 have h3:=y7 (t:=t) h
 have hb:=jq (t:=t) h
 obtain ⟨g,hg⟩:∃g:Nat,gOf t b=(g:Int):=⟨_,by unfold gOf;exact vt t b⟩
 have g1:0<g:=by omega
 have hgg:g=Nat.gcd t.natAbs b.toNat:=by
  have:(g:Int)=((Nat.gcd t.natAbs b.toNat:Nat):Int):=by rw [←hg];unfold gOf;exact vt t b
  omega
 have et:g*(wt t b).1.natAbs=t.natAbs:=by
  have:=quc (t:=t) (b:=b)
  have e:=bX Int.natAbs this
  rw [ff,hg] at e
  simpa [wt,hg] using e
 have eb:g*(wt t b).2.toNat=b.toNat:=by
  have:=qvh (t:=t) (b:=b) h
  rw [hg] at this
  have q:(wt t b).2=b/(g:Int):=by unfold wt;rw [hg]
  have q2:b/(g:Int)=((b/(g:Int)).toNat:Int):=by rw [←q];omega
  rw [q]
  rw [q2] at this
  have:((g*(b/(g:Int)).toNat:Nat):Int)=b:=by rw [iC];exact this
  omega
 unfold gOf
 rw [vt]
 have key:g*Nat.gcd (wt t b).1.natAbs (wt t b).2.toNat=g*1:=by
  rw [←Nat.gcd_mul_left,et,eb,←hgg,Nat.mul_one]
 have:=Nat.eq_of_mul_eq_mul_left g1 key
 rw [this]
 rfl
theorem xxv {t b c:Int}(h:1≤b)(hc:1≤c):gOf (t*c) (b*c)=gOf t b*c:=by
 unfold gOf
 rw [vt,vt]
 have e1:(t*c).natAbs=t.natAbs*c.toNat:=by
  rw [ff]
  have:c.natAbs=c.toNat:=by omega
  rw [this]
 have e2:(b*c).toNat=b.toNat*c.toNat:=by
  have hb:b=(b.toNat:Int):=by omega
  have hc':c=(c.toNat:Int):=by omega
  have:b*c=((b.toNat*c.toNat:Nat):Int):=by
   rw [iC,←hb,←hc']
  omega
 rw [e1,e2,Nat.gcd_mul_right,iC]
 have:(c.toNat:Int)=c:=by omega
 rw [this]
theorem qq2 {t b c:Int}(h:1≤b)(hc:1≤c):wt (t*c) (b*c)=wt t b:=by
 unfold wt
 rw [xxv h hc]
 have hg:=y7 (t:=t) h
 rw [dS _ _ (show 0<c by omega),dS _ _ (show 0<c by omega)]
end L2
namespace L2
open PySem PySem.Spec PyProof.Rows
def CapAll (env:Env):List (Str×Addr)→Prop
 |[]=>True
 |(y,c)::r=>env.cells.lookup y=some c∧CapAll env r
theorem CapAll.look {env:Env}:∀ {cl:List (Str×Addr)},CapAll env cl→∀ {y:Str} {c:Addr},cl.lookup y=some c→env.cells.lookup y=some c
 |[],_,_,_,e=>by cases e
 |(z,d)::r,h,y,c,e=>by
  rw [be] at e
  cases hb:y==z with
  |true =>
   rw [hb] at e
   rw [eq_of_beq hb]
   exact h.1.trans e
  |false =>
   rw [hb] at e
   exact CapAll.look h.2 e
def HasAll (cl:List (Str×Addr)):List (Str×NameKind)→Prop
 |[]=>True
 |(n,k)::r=>(k=.free→∃c,cl.lookup n=some c)∧k≠.cell∧HasAll cl r
theorem HasAll.nocell {cl:List (Str×Addr)}:∀ {ns:List (Str×NameKind)},HasAll cl ns→∀y∈ns,y.2≠.cell
 |(n,k)::r,h,y,hy=>by
  rcases ay.mp hy with rfl|hy
  ·exact h.2.1
  ·exact HasAll.nocell h.2.2 y hy
theorem HasAll.has {cl:List (Str×Addr)}{env:Env}:∀ {ns:List (Str×NameKind)},HasAll cl ns→∀ {x:Str} {q:NameKind},q=.cell∨q=.free →
  (ns.map λ(n,k)=>if (k==NameKind.free&&env.scope.kind==.function&&env.kindOf n==some .cell) then (n,NameKind.cell) else (n,k)).lookup x=some q→∃c,cl.lookup x=some c
 |[],_,_,_,_,e=>by cases e
 |(n,k)::r,h,x,q,hq,e=>by
  have ih:=HasAll.has (env:=env) h.2.2 (x:=x) hq
  rw [aF] at e
  by_cases hc:(k==NameKind.free&&env.scope.kind==.function&&env.kindOf n==some .cell)=true
  ·have e':=e
   dsimp only at e'
   rw [if_pos hc,be] at e'
   cases hb:x==n with
   |true =>
    rw [bi,bi] at hc
    obtain ⟨c,hcc⟩:=h.1 (eq_of_beq hc.1.1)
    exact ⟨c,by rw [eq_of_beq hb];exact hcc⟩
   |false =>
    rw [hb] at e'
    exact ih e'
  ·have e':=e
   dsimp only at e'
   rw [if_neg hc,be] at e'
   cases hb:x==n with
   |true =>
    rw [hb] at e'
    have ek:k=q:=aj e'
    rcases hq with rfl|rfl
    ·exact absurd ek h.2.1
    ·obtain ⟨c,hcc⟩:=h.1 ek
     exact ⟨c,by rw [eq_of_beq hb];exact hcc⟩
   |false =>
    rw [hb] at e'
    exact ih e'
def CapIx (X:Cx)(scope:Scope)(cl:List (Str×Addr)):List Nat→Prop
 |[]=>True
 |j::r=>(∃y c,X.N[j]?=some y∧X.env.scope.names.lookup y=some .cell∧(relabel scope X.env).names.lookup y=some .cell∧cl.lookup y=some c)∧CapIx X scope cl r
theorem CapIx.get {X:Cx}{scope:Scope}{cl:List (Str×Addr)}:∀ {M:List Nat},CapIx X scope cl M→∀ {k j:Nat},M[k]?=some j →
  ∃y c,X.N[j]?=some y∧X.env.scope.names.lookup y=some .cell∧(relabel scope X.env).names.lookup y=some .cell∧cl.lookup y=some c
 |[],_,k,j,e=>by cases e
 |i::r,h,0,j,e=>by
  cases e
  exact h.1
 |i::r,h,k+1,j,e=>CapIx.get h.2 (k:=k) e
def j4 (X:Cx)(x:Str)(M:List Nat):List Str:=x::M.map λj=>X.N.getD j Str.empty
def x9 (M:List Nat)(σ:St)(o:Option V):St:=o::M.map λj=>(σ[j]?).join
abbrev zq (X:Cx)(scope:Scope)(cl:List (Str×Addr))(x:Str)(M:List Nat)(C:Addr)(s2:Ab)(H2:Hp)(fp:List Addr)(pn:List (Addr×Obj)):Cx :=
 { X with N:=j4 X x M,s₀:=s2,H₀:=H2,env:=compEnvC scope cl C X.env,outer:=X.stack,ex:=fp,fn:=λ_=>false,pn:=pn,xe:=λ_ _=>False }
section
variable {X:Cx}{pins:List (Addr×Obj)}{σ:St}{H:Hp}{s2:Ab}{scope:Scope}{cl:List (Str×Addr)}{x:Str}{M:List Nat}{fp:List Addr}{C:Addr}{h1:Heap}{tk:Nat}
theorem Inv.compG {oo:HO}{xs:List Str}(I:Inv X pins σ H s2)(hc:CapAll X.env cl)(hh:HasAll cl scope.names)(hm:CapIx X scope cl M)(hk:scope.kind=.function)(hC:s2.heap.objs.size<C)
  (keep:∀b o,s2.heap.get? b=some o→h1.get? b=some o) (hn:h1.Ns C λ_=>none) (hD:ObjOk X.prog X.w (upd H s2.heap.objs.size oo) h1 s2.heap.objs.size oo)
  (hfp:∀b∈fp,zr X pins H b) (hob:∀b∈fp,∃o,s2.heap.get? b=some o) :
  Inv { X with N:=xs++M.map λj=>X.N.getD j Str.empty,s₀:=s2,H₀:=H,env:=compEnvC scope cl C X.env,outer:=X.stack,ex:=fp,fn:=λ_=>false,pn:=X.pn++pins,xe:=λ_ _=>False } [] ((xs.map λ_=>none)++M.map λj=>(σ[j]?).join) (upd H s2.heap.objs.size oo) { s2 with heap:=h1,toks:=tk }:=by
 have hfr:=I.hok.fresh (a:=s2.heap.objs.size) (Nat.le_refl _)
 have o:=I.ok
 have hcc:∀y c,cl.lookup y=some c→X.env.cells.lookup y=some c:=λy c e=>hc.look e
 have hlt:∀b∈fp,b<s2.heap.objs.size:=λb hb=>by
  obtain ⟨ob,e⟩:=hob b hb
  exact af e
 have hstk:∀b∈fp,b∉frs X.stack:=λb hb z=>by
  rcases ay.mp (I.stkSub b z) with z|z
  ·exact (hfp b hb).2.1 z
  ·exact (hfp b hb).2.2.1 z
 have hCn:H C=none:=I.hok.fresh (Nat.le_of_lt hC)
 refine ⟨⟨o.mod,hk,o.glob,o.blt,Nat.le_of_lt hC,λy z c e1 e2=>o.inj y z c (hcc y c e1) (hcc z c e2),λy hy=>?_,λy c z=>(au z).elim,o.hd,o.frames,.inl rfl,λb hb=>⟨ar (aR (hlt b hb) hC),λy c e=>(hfp b hb).2.2.2.2.1 y c (hcc y c e)⟩,
  λb ob e=>I.bs b ob e,bo o.bsz I.sz,λb ob e z=>?_,hstk,I.stack,I.stkFree⟩,rfl,I.bare,?_,?_,λy c e=>?_,?_,λy c e=>?_,λp hp=>?_,?_,?_⟩
 ·rcases hy with hy|hy
  ·exact hh.has (.inl rfl) hy
  ·exact hh.has (.inr rfl) hy
 ·obtain ⟨e1,e2⟩:=I.bs b ob e
  exact (hfp b z).2.2.2.1.elim (λq=>o.noex b ob e q) λq=>by
   have:=o.bs b ob e
   exact aI _ (aD (af this.1) q)
 ·exact (Un.laid (fs:=frs X.stack) (ex:=fp) (o:=oo) keep (Nat.le_refl _) hfr)
 ·refine ⟨_,hn,λi z v e1 e2 e3=>?_⟩
  rcases aV i xs.length with hi|hi
  ·have e2:((xs.map λ_=>(none:Option V))++M.map λj=>(σ[j]?).join)[i]?=some (some v):=e2
   rw [aK (by rw [List.length_map];exact hi),ao,aa hi] at e2
   cases e2
  have e1':(xs++M.map λj=>X.N.getD j Str.empty)[i]?=some z:=e1
  have e2':((xs.map λ_=>(none:Option V))++M.map λj=>(σ[j]?).join)[i]?=some (some v):=e2
  rw [av hi] at e1'
  rw [av (by rw [List.length_map];exact hi),List.length_map] at e2'
  generalize i-xs.length=k at e1' e2'
  rw [ao] at e1' e2'
  cases hj:M[k]? with
  |none=>rw [hj] at e1';cases e1'
  |some j =>
   rw [hj] at e1' e2'
   obtain ⟨y,c,f1,f2,f3,f4⟩:=hm.get hj
   have ez:X.N.getD j Str.empty=z:=aj e1'
   rw [ae,f1] at ez
   have ez':y=z:=ez
   subst ez'
   have ev:(σ[j]?).join=some v:=aj e2'
   have ev':σ[j]?=some (some v):=by
    cases hs:σ[j]? with
    |none=>rw [hs] at ev;cases ev
    |some w' =>
     rw [hs] at ev
     have:w'=some v:=ev
     rw [this]
   obtain ⟨m,hns,hl⟩:=I.loc
   obtain ⟨u,r,l⟩:=hl j y v f1 ev' (.inr (.inl f2))
   refine ⟨u,r,.inr ⟨.inl f3,c,f4,?_⟩⟩
   rcases l with ⟨lk,_⟩|⟨_,c',lc,li⟩
   ·have:X.env.scope.names.lookup y=some .local:=lk
    rw [f2] at this
    cases this
   ·rw [hcc y c f4] at lc
    have:=aj lc
    subst this
    exact li.keeps keep
 ·obtain ⟨v,hv⟩:=I.cell y c (hcc y c e)
  exact ⟨v,hv.keeps keep⟩
 ·show upd H s2.heap.objs.size oo C=none
  rw [qr (cY hC)]
  exact hCn
 ·show upd H s2.heap.objs.size oo c=none
  obtain ⟨v,ob,e1,e2⟩:=I.cell y c (hcc y c e)
  rw [qr (ar (af e1))]
  exact I.freeC y c (hcc y c e)
 ·have hp':p∈X.pn++pins:=(aP.mp hp).elim (λz=>z) λz=>nomatch z
  obtain ⟨e1,e2,e3,e4,e5⟩:=I.pin p hp'
  refine ⟨keep _ _ e1,?_,ar (aR (af e1) hC),λz=>?_,e5⟩
  ·rw [qr (ar (af e1))]
   exact e2
  ·rcases ay.mp (I.stkSub p.1 z) with z|z
   ·exact e3 z
   ·exact e4 z
 ·exact I.hok.laid keep (Nat.le_refl _) hD
 ·show ((xs.map λ_=>(none:Option V))++M.map λj=>(σ[j]?).join).length=(xs++M.map λj=>X.N.getD j Str.empty).length
  simp only [ai,List.length_map]
theorem Inv.comp (I:Inv X pins σ H s2)(hc:CapAll X.env cl)(hh:HasAll cl scope.names)(hm:CapIx X scope cl M)(hk:scope.kind=.function)(hC:s2.heap.objs.size<C)
  (keep:∀b o,s2.heap.get? b=some o→h1.get? b=some o) (hn:h1.Ns C λ_=>none) (hD:h1.get? s2.heap.objs.size=some { cls:=.type "list",data:=.seq #[] 0 })
  (hfp:∀b∈fp,zr X pins H b) (hob:∀b∈fp,∃o,s2.heap.get? b=some o) :
  Inv (zq X scope cl x M C s2 H fp (X.pn++pins)) [] (x9 M σ none) (upd H s2.heap.objs.size (.lst [])) { s2 with heap:=h1,toks:=tk }:=I.compG (xs:=[x]) hc hh hm hk hC keep hn ⟨aN _,[],0,.nil,hD⟩ hfp hob
theorem Inv.uncomp {pins':List (Addr×Obj)}{σ':St}{H':Hp}{s':Ab}{h':Heap}(I:Inv X pins σ H s2)(hC:s2.heap.objs.size≤C)(hfp:∀b∈fp,zr X pins H b)
  (J:Inv (zq X scope cl x M C s2 H fp (X.pn++pins)) pins' σ' H' s') (hs:Heap.SameBut C s'.heap h'):Inv X pins σ H' { s' with heap:=h' }:=by
 have hb:=J.base
 have nC:∀b o,s2.heap.get? b=some o→b≠C:=λb o e=>ar (aD (af e) hC)
 have st:∀b o,b≠C→s'.heap.get? b=some o→h'.get? b=some o:=λb o n e=>(hs.2 b n).trans e
 refine I.call' (s':={ s' with heap:=h' }) (ch:=fp) J.os ⟨λb o e n nb nx=>st b o (nC b o e) (hb.keep b o e n nb nx),λb o e n hb' nx=>?_,hb.free,λb o e nx=>?_,hb.tups,hb.frzs,hb.tbls⟩ ?_ J.bare λb hbf=>?_
 ·obtain ⟨sl,e1⟩:=hb.slot b o e n hb' nx
  exact ⟨sl,st b _ (nC b o e) e1⟩
 ·obtain ⟨o',e1⟩:=hb.there b o e nx
  exact ⟨o',st b _ (nC b o e) e1⟩
 ·intro b u hu
  have fr:H' C=none:=J.free
  refine (J.hok b u hu).stay (λc v hc e=>st c v ?_ e) (λ_ z=>z) λ_ _ z=>z
  rcases hc with rfl|hc
  ·intro z;rw [z,fr] at hu;cases hu
  ·intro z;rw [z,fr] at hc;cases hc
 ·obtain ⟨q1,q2,q3,q4,q5,q6⟩:=hfp b hbf
  exact ⟨q4,q2,q5,q6⟩
end
def uz (J:It)(M:List Nat)(te:TE)(σ:St)(H1:Hp)(Q:VK):Prop:=∀p,H1 p=none→∃W:Nat→Nat→List V→Hp→Prop,(∃m,W 0 m [] (upd H1 p (.lst []))) ∧
 ∀i m ys H2,W i m ys H2→H2 p=some (.lst ys)∧ys.length<sizeLine∧((J.stop i H2∧Q (.ref p) H2)∨(J.go i H2∧∀v H3,J.yld i H2 v H3 →
  te (x9 M σ (some v)) H3 λy H4=>H4 p=some (.lst ys)∧∃m',m'<m∧W (i+1) m' (ys++[y]) (upd H4 p (.lst (ys++[y])))))
def wx9 (M:List Nat)(wi:TI)(te:TE):TE:=λσ H Q=>wi σ H λJ H1=>uz J M te σ H1 Q
theorem kj {Y:Cx}{tg e:Expr}{k:Nat}{acc:Value}{it:Addr}{fp:List Addr}{tn:Nat→Heap→Prop}{J:It}{ps:Pos}{REST:Sem PySem.Fin}{post:Result→Ab→Prop}{gg:TG}{pins:List (Addr×Obj)}{σ:St}{V:Nat→Nat→Hp→Prop}{Qd:Hp→Prop}{s0:Ab}{H0:Hp}{n0:Nat}
  (T:Turn Y.prog Y.w Y.K tg J fp it tn) (hc:Y.calm=true) (hx:∀v s,Y.xe v s→False)
  (hturn:compTurn e k (.ref it) acc Y.env=(standAt ps >>= λ_=>pyNext (.ref it) >>= λr=>match r with|none=>pure (.done .next)|some v=>letOwnedTupleGo tg (.ref it) v >>= λ_=>assign tg Y.env v >>= λ_=>REST))
  (hun:Y.A.under (.compLoop e k (.ref it) acc Y.env)=Y.A) (hden:(model Y.prog Y.w).den (.compLoop e k (.ref it) acc Y.env)=((compTurn e k (.ref it) acc Y.env).onRaise λz=>do noteFrame z Y.env;theTreesLotGoes z))
  (hg:PG Y tg gg) (fok:∀H2:Hp,(∀b∈fp,H2 b=none)→∀b∈fp,zr Y pins H2 b)
  (hV:∀i n H2,V i n H2→(J.stop i H2∧Qd H2)∨(J.go i H2∧∀v H3,J.yld i H2 v H3→∃Z:St→Hp→Prop,gg v σ H3 Z∧∀σ4 H4,Z σ4 H4→(σ.length=σ4.length∧∀(k:Nat) z,σ[k]?=some (some z)→σ4[k]?=some (some z))∧∀pins' s',Inv Y pins' σ4 H4 s' →
   wpAny (model Y.prog Y.w) Y.A REST (λr s5=>r=Fin.again (.compLoop e k (.ref it) acc Y.env)∧∃H5,Inv Y pins' σ4 H5 s5∧∃n',n'<n∧V (i+1) n' H5) Y.xe s'))
  (fin:∀H2 s4,Inv Y pins σ H2 s4→Qd H2→post (.ok .next) s4) (I:Inv Y pins σ H0 s0) (v0:V 0 n0 H0) (t0:tn 0 s0.heap) (nf:∀b∈fp,H0 b=none) :
  codeAny (model Y.prog Y.w) Y.A (.compLoop e k (.ref it) acc Y.env) post s0:=by
 refine codeAny_loop rfl (λn s3=>∃i H2,V i n H2∧Inv Y pins σ H2 s3∧tn i s3.heap∧∀b∈fp,H2 b=none) (λn s3 hI=>?_) n0 ⟨0,H0,v0,I,t0,nf⟩
 obtain ⟨i,H2,w,J2,t,nf2⟩:=hI
 rw [hun,hden]
 refine wpAny_noted ?_
 rw [hturn]
 refine wpAny_bind (cy (wpAny_bind ?_))
 rcases hV i n H2 w with ⟨hst,hq⟩|⟨hgo,hy⟩
 ·refine aS (T.done Y rfl rfl rfl hc i pins s3 _ H2 (λ_ _=>False) J2 (fok H2 nf2) t hst) (λr s4 hr=>?_) λ_ _ z=>z.elim
  obtain ⟨rfl,J4⟩:=hr
  exact wpAny_pure (fin H2 s4 J4 hq)
 ·refine aS (T.item Y rfl rfl rfl hc i pins s3 _ H2 (λ_ _=>False) J2 (fok H2 nf2) t hgo) (λr s4 hr=>?_) λ_ _ z=>z.elim
  obtain ⟨u,rfl,hw⟩:=hr
  refine wpAny_bind (aS hw (λ_ s5 hr5=>?_) λ_ _ z=>z.elim)
  obtain ⟨v,H3,J5,rv,yl,t5,nf⟩:=hr5
  obtain ⟨Z,hz,hZ⟩:=hy v H3 yl
  refine wpAny_bind (aS (hg _ s5 _ H3 v u _ (J5.pinned (fok H3 nf) (T.obj _ _ t5)) rv hz) (λ_ s6 hr6=>?_) λv s z=>(hx v s z).elim)
  obtain ⟨σ6,H6,J6,z6⟩:=hr6
  obtain ⟨⟨hl,hw6⟩,hR⟩:=hZ σ6 H6 z6
  refine aS (hR _ s6 J6) (λr s7 hr7=>?_) λv s z=>(hx v s z).elim
  obtain ⟨rfl,H7,J7,n',hn',v7⟩:=hr7
  refine ⟨rfl,n',hn',i+1,H7,v7,(J7.unpinned (pins:=pins)).weak hl hw6,?_,?_⟩
  ·exact T.keep _ _ _ t5 λb hb o e=>(J7.pin (b,o) (aB _ (aB _ (y6 hb e)))).1
  ·intro b hb
   obtain ⟨o,e,_⟩:=T.obj _ _ t5 b hb
   exact (J7.pin (b,o) (aB _ (aB _ (y6 hb e)))).2.1
section
variable {Y:Cx}{elt cd:Expr}{te:TE}{tt:TT}{c:Code}{p:Addr}{σ:St}{H:Hp}{pins:List (Addr×Obj)}{s:Ab}
def appS (elt:Expr)(acc:Value)(env:Env)(c:Code):Sem PySem.Fin:=(eval elt env >>= λx=>call (.builtin "list.append") [acc,x] >>= λ_=>pure ()) >>= λ_=>again c
theorem Zy {ys:List V}{N:List V→Hp→Prop}(hx:∀v s,Y.xe v s→False)(he:PE Y elt te)(J:Inv Y pins σ H s)(hz:ys.length<sizeLine)(h:te σ H λy H4=>H4 p=some (.lst ys)∧N (ys++[y]) (upd H4 p (.lst (ys++[y])))) :
  wpAny (model Y.prog Y.w) Y.A (appS elt (.ref p) Y.env c) (λr s5=>r=Fin.again c∧∃H5,Inv Y pins σ H5 s5∧∃zs,N zs H5) Y.xe s:=by
 refine wpAny_bind (wpAny_bind (aS (he _ s _ H _ J h) (λyv s7 hr7=>?_) λ_ _ z=>z))
 obtain ⟨y,H4,J7,ry,hp4,n4⟩:=hr7
 refine wpAny_bind (aS (vk (X:=Y) _ s7 _ H4 (.ref p) [y] (.ref p) [yv] (λ_ H8=>H8=upd H4 p (.lst (ys++[y]))) J7 rfl (.cons ry .nil) ⟨_,ys,y,rfl,rfl,hp4,hz,rfl⟩) (λ_ s8 hr8=>?_) λ_ _ z=>z)
 obtain ⟨_,H8,J8,_,rfl⟩:=hr8
 exact wpAny_pure (wpAny_pure ⟨rfl,_,J8,_,n4⟩)
def tstS (cd:Expr)(env:Env)(a b:Sem PySem.Fin):Sem PySem.Fin:=(forIn [cd] true λc r=>if r=true then do let ok ←isTrue c env (eval c env);pure (ForInStep.yield ok) else pure (ForInStep.yield r)) >>= λok=>if ok=true then a else b
theorem Zk {a b:Sem PySem.Fin}{F:Hp→Prop}{G:Hp→Prop}{R:PySem.Fin→Ab→Prop}(ht:PT Y cd tt)(J:Inv Y pins σ H s)(h:tt σ H λok H4=>if ok=true then F H4 else G H4)
  (ha:∀s' H4,Inv Y pins σ H4 s'→F H4→wpAny (model Y.prog Y.w) Y.A a R Y.xe s') (hb:∀s' H4,Inv Y pins σ H4 s'→G H4→wpAny (model Y.prog Y.w) Y.A b R Y.xe s') :
  wpAny (model Y.prog Y.w) Y.A (tstS cd Y.env a b) R Y.xe s:=by
 refine wpAny_bind (wpAny_tests_one (aS (ht _ s _ H _ J h) (λok s6 hr6=>?_) λ_ _ z=>z))
 obtain ⟨H6,J6,hok⟩:=hr6
 cases ok with
 |false=>exact hb s6 H6 J6 hok
 |true=>exact ha s6 H6 J6 hok
end
section
variable {X:Cx}{elt iter cd:Expr}{x:Str}{px pos:Pos}{scope:Scope}{cl:List (Str×Addr)}{M:List Nat}{wi:TI}{te:TE}{tt:TT}{pins:List (Addr×Obj)}{σ:St}
theorem Zp {N:List Str}{C:Addr}{s2:Ab}{H1:Hp}{fp:List Addr}(hcap:CapAll X.env cl)(I2:Inv X pins σ H1 s2)(hlt:s2.heap.objs.size<C)(hfp:∀b∈fp,zr X pins H1 b)(hbl:∀b∈fp,b<s2.heap.objs.size)(H2:Hp)(hn:∀b∈fp,H2 b=none) :
  ∀b∈fp,zr { X with N:=N,s₀:=s2,H₀:=H1,env:=compEnvC scope cl C X.env,outer:=X.stack,ex:=fp,fn:=λ_=>false,pn:=X.pn++pins,xe:=λ_ _=>False } [] H2 b:=λb hb=>by
 obtain ⟨q1,q2,q3,q4,q5,q6⟩:=hfp b hb
 refine ⟨hn b hb,ar (aR (hbl b hb) hlt),λz=>?_,.inl hb,λy c e=>q5 y c (hcap.look e),λp hp=>q6 p ((aP.mp hp).elim (λz=>z) λz=>nomatch z)⟩
 rcases ay.mp (I2.stkSub b z) with z|z
 ·exact q2 z
 ·exact q3 z
theorem Yy {tg:Expr}{ifs:List Expr}{rest:List Comprehension}(hclos:closureFor scope X.env=pure cl)(hhas:HasAll cl scope.names)(hk:scope.kind=.function)
  (hnames:∀y∈scope.names,y.2=.local→scope.names.lookup y.1=some .local) (hi:PI X tg iter wi) (hs:∀z,foldedSetIterable iter X.env z=pure z)
  {use:Option (Value→Sem Unit)} {QQ:Value→Ab→Prop} {s:Ab} {H:Hp} {ps:Pos} {R:It→Hp→Prop} (I:Inv X pins σ H s) (h:wi σ H R)
  (go:∀(it:Addr) (fp:List Addr) (tn:Nat→Heap→Prop) (J:It) (H1:Hp) (s2:Ab) (C:Addr) (h3:Heap) (tk:Nat),Inv X pins σ H1 s2→Turn X.prog X.w X.K tg J fp it tn→tn 0 h3→(∀b∈fp,zr X pins H1 b)→(∀b∈fp,b<s2.heap.objs.size)→(∀b∈fp,∃o,s2.heap.get? b=some o)→R J H1→s2.heap.objs.size<C →
   (∀b o,s2.heap.get? b=some o→h3.get? b=some o)→(h3.Ns C λ_=>none)→h3.get? s2.heap.objs.size=some { cls:=.type "list",data:=.seq #[] 0 } →
   codeAny (model X.prog X.w) X.A (.compLoop (.ListComp elt (⟨tg,iter,ifs,0⟩::rest) scope pos) 0 (.ref it) (.ref s2.heap.objs.size) (compEnvC scope cl C X.env)) (compPost (model X.prog X.w) X.A X.xe use QQ (.ref s2.heap.objs.size) C) { s2 with heap:=h3,toks:=tk }) :
  wpAny (model X.prog X.w) X.A (comprehension (.ListComp elt (⟨tg,iter,ifs,0⟩::rest) scope pos) scope X.env ps (newList []) false (eval iter X.env) use) QQ X.xe s:=by
 refine eK (use:=use) rfl hs hclos hk hnames ?_
 refine thn (hi pins s σ H _ I h) λv s1 h1=>thn h1 λitv s2 h2=>?_
 obtain ⟨it,fp,tn,J,H1,rfl,I2,T,t0,hfp,hR⟩:=h2
 refine bp ?_
 refine fT hhas.nocell (by intro y hy;cases hy) (λh3 hns hsb=>?_) hk
 dsimp only at hns hsb ⊢
 generalize hH2:s2.heap.push { cls:=.type "list",dict:=none,data:=.seq ([]:List Value).toArray }=G2 at hns hsb ⊢
 have hC:G2.objs.size=s2.heap.objs.size+1:=by rw [←hH2,bw]
 have hlt:s2.heap.objs.size<G2.objs.size:=by omega
 have keep:∀b o,s2.heap.get? b=some o→h3.get? b=some o:=λb o e=>by
  rw [hsb.2 b (ar (aR (af e) hlt))]
  exact Heap.get?_push_of_some _ (hH2▸Heap.get?_push_of_some _ e)
 have hD:h3.get? s2.heap.objs.size=some { cls:=.type "list",data:=.seq #[] 0 }:=by
  rw [hsb.2 _ (ar hlt)]
  exact Heap.get?_push_of_some _ (hH2▸ak _ rfl)
 have t3:=T.keep 0 _ _ t0 λb _ o e=>keep b o e
 have loop:=λtk=>go it fp tn J H1 s2 G2.objs.size h3 tk I2 T t3 hfp (λb hb=>let ⟨o,e,_⟩:=T.obj 0 _ t0 b hb;af e) (λb hb=>let ⟨o,e,_⟩:=T.obj 0 _ t0 b hb;⟨o,e⟩) hR hlt keep hns hD
 exact codeAny_compStart_list (loop _) (T.self _ 0 _ _ _ t3 (loop _))
theorem yj (M:List Nat)(σ:St)(v:V):(x9 M σ none).length=(x9 M σ (some v)).length∧∀(k:Nat) z,(x9 M σ none)[k]?=some (some z)→(x9 M σ (some v))[k]?=some (some z):=⟨rfl,λk z ez=>by
 cases k with
 |zero=>cases ez
 |succ k=>exact ez⟩
end
section
variable {X:Cx}{elt iter:Expr}{x:Str}{px pos:Pos}{scope:Scope}{cl:List (Str×Addr)}{M:List Nat}{wi:TI}{te:TE}
theorem wqy (hc:X.calm=true)(hclos:closureFor scope X.env=pure cl)(hcap:CapAll X.env cl)(hhas:HasAll cl scope.names)(hix:CapIx X scope cl M)(hk:scope.kind=.function)
  (hnames:∀y∈scope.names,y.2=.local→scope.names.lookup y.1=some .local) (hx:scope.names.lookup x=some .local) (hnd:(j4 X x M).Nodup) (hi:PI X (.Name x px) iter wi)
  (he:∀C s2 H2 fp pn,PE (zq X scope cl x M C s2 H2 fp pn) elt te) (hs:∀z,foldedSetIterable iter X.env z=pure z)
  {use:Option (Value→Sem Unit)} {QQ:Value→Ab→Prop} {pins:List (Addr×Obj)} {s:Ab} {σ:St} {H:Hp} {Q:VK} {ps:Pos} (I:Inv X pins σ H s) (h:wi σ H λJ H1=>uz J M te σ H1 Q)
  (fin:∀(C:Addr) (s2 s4:Ab) (H1 H2:Hp) (fp:List Addr),Inv X pins σ H1 s2→s2.heap.objs.size<C→(∀b∈fp,zr X pins H1 b)→Inv (zq X scope cl x M C s2 H1 fp (X.pn++pins)) [] (x9 M σ none) H2 s4→Q (.ref s2.heap.objs.size) H2 →
   compPost (model X.prog X.w) X.A X.xe use QQ (.ref s2.heap.objs.size) C (.ok .next) s4) :
  wpAny (model X.prog X.w) X.A (comprehension (.ListComp elt [⟨.Name x px,iter,[],0⟩] scope pos) scope X.env ps (newList []) false (eval iter X.env) use) QQ X.xe s:=by
 refine Yy hclos hhas hk hnames hi hs I h λit fp tn J H1 s2 C h3 tk I2 T t3 hfp hbl hob hR hlt keep hns hD=>?_
 obtain ⟨W,⟨m0,w0⟩,hW⟩:=hR s2.heap.objs.size (I2.hok.fresh (Nat.le_refl _))
 have hxl:(relabel scope X.env).names.lookup x=some .local:=dv hx
 refine kj (Y:=zq X scope cl x M C s2 H1 fp (X.pn++pins)) (V:=λi n H2=>∃ys,W i n ys H2) (Qd:=Q (.ref s2.heap.objs.size)) (REST:=appS elt (.ref s2.heap.objs.size) (compEnvC scope cl C X.env) _) T hc (λ_ _ z=>z) (compTurn_list1 ..) rfl rfl (wn (i:=0) hnd rfl (.inl hxl) (.inr hxl)) (Zp hcap I2 hlt hfp hbl) (λi n H2 ⟨ys,w⟩=>?_) (λH2 s4 J4 q=>fin C s2 s4 H1 H2 fp I2 hlt hfp J4 q) (I2.comp hcap hhas hix hk hlt keep hns hD hfp hob) ⟨[],w0⟩ t3 λb hb=>by rw [qr (ar (hbl b hb))];exact (hfp b hb).1
 obtain ⟨hp,hz,hcase⟩:=hW i n ys H2 w
 refine hcase.imp id λ⟨hgo,hy⟩=>⟨hgo,λv H3 yl=>⟨λσ4 H4=>σ4=x9 M σ (some v)∧H3=H4,⟨rfl,rfl⟩,λ_ _ e=>?_⟩⟩
 obtain ⟨rfl,rfl⟩:=e
 refine ⟨yj M σ v,λpins' s' J=>?_⟩
 refine aS (Zy (N:=λzs H5=>∃m',m'<n∧W (i+1) m' zs H5) (λ_ _ z=>z) (he _ _ _ _ _) J hz (hy v H3 yl)) (λr s5 ⟨e,H5,J5,zs,m',hm,w'⟩=>⟨e,H5,J5,m',hm,zs,w'⟩) λ_ _ z=>z
theorem zp (hc:X.calm=true)(hclos:closureFor scope X.env=pure cl)(hcap:CapAll X.env cl)(hhas:HasAll cl scope.names)(hix:CapIx X scope cl M)(hk:scope.kind=.function)
  (hnames:∀y∈scope.names,y.2=.local→scope.names.lookup y.1=some .local) (hx:scope.names.lookup x=some .local) (hnd:(j4 X x M).Nodup) (hi:PI X (.Name x px) iter wi)
  (he:∀C s2 H2 fp pn,PE (zq X scope cl x M C s2 H2 fp pn) elt te) (hs:∀z,foldedSetIterable iter X.env z=pure z:=by intro _;rfl) :
  PE X (.ListComp elt [⟨.Name x px,iter,[],0⟩] scope pos) (wx9 M wi te):=by
 intro pins s σ H Q I h
 rw [eval_ListComp]
 refine wqy hc hclos hcap hhas hix hk hnames hx hnd hi he hs (use:=none) I h λC s2 s4 H1 H2 fp I2 hlt hfp J4 hq=>?_
 obtain ⟨m,hn,_⟩:=J4.loc
 exact ⟨m,hn,λh' hs'=>⟨.ref s2.heap.objs.size,H2,I2.uncomp (Nat.le_of_lt hlt) hfp J4 hs',rfl,hq⟩⟩
theorem Inv.but {pins:List (Addr×Obj)}{σ:St}{H:Hp}{s:Ab}{h':Heap}{C:Addr}(I:Inv X pins σ H s)(hn:H C=none)(h1:X.s₀.heap.objs.size≤C)(h2:C≠X.env.locals)(h3:∀y c,X.env.cells.lookup y=some c→c≠C)(h4:∀p∈X.pn++pins,p.1≠C)
  (hs:Heap.SameBut C s.heap h'):Inv X pins σ H { s with heap:=h' }:=by
 have st:∀b o,b≠C→s.heap.get? b=some o→h'.get? b=some o:=λb o n e=>(hs.2 b n).trans e
 have nc:∀b,b∉[C]→b≠C:=λb z e=>z (by rw [e];exact .head _)
 refine I.call' (s':={ s with heap:=h' }) (ch:=[C]) rfl ⟨λb o e n _ nx=>st b o (nc b nx) e,λb o e n _ nx=>⟨o.slots,st b o (nc b nx) e⟩,λb o e n _=>n,λb o e nx=>⟨o,st b o (nc b nx) e⟩,λ_ _ e=>e,λ_ _ _ e=>e,λb ps e=>⟨#[],by rw [e];simp⟩⟩ ?_ I.bare λb hb=>?_
 ·intro b u hu
  refine (I.hok b u hu).stay (λc v hc e=>st c v ?_ e) (λ_ z=>z) λ_ _ z=>z
  rcases hc with rfl|hc
  ·intro z;rw [z,hn] at hu;cases hu
  ·intro z;rw [z,hn] at hc;cases hc
 ·rw [aG.mp hb]
  exact ⟨.inr h1,h2,h3,h4⟩
theorem Q9 {i:Nat}{y:Str}{py spos:Pos}(hN:X.N.Nodup)(hyi:X.N[i]?=some y)(hyl:Loc X.env.scope y)(hc:X.calm=true)(hclos:closureFor scope X.env=pure cl)(hcap:CapAll X.env cl)(hhas:HasAll cl scope.names)(hix:CapIx X scope cl M)(hk:scope.kind=.function)
  (hnames:∀y∈scope.names,y.2=.local→scope.names.lookup y.1=some .local) (hx:scope.names.lookup x=some .local) (hnd:(j4 X x M).Nodup) (hi:PI X (.Name x px) iter wi)
  (he:∀C s2 H2 fp pn,PE (zq X scope cl x M C s2 H2 fp pn) elt te) (hs:∀z,foldedSetIterable iter X.env z=pure z:=by intro _;rfl)
  (hsw:swapsWith (.ListComp elt [⟨.Name x px,iter,[],0⟩] scope pos) (some (.Name y py)) spos.line X.env=pure true:=by rfl) (hyf:X.fn y=true∨X.env.scope.names.lookup y=some .local:=by first | exact .inl rfl | exact .inr rfl | assumption) :
  PS X (.Assign [.Name y py] (.ListComp elt [⟨.Name x px,iter,[],0⟩] scope pos) spos) (tAsg (wx9 M wi te) (Q3 i)):=by
 intro pins s σ H D I h
 rw [fC _ _ _ _ hsw]
 refine wpAny_bind (cy (wpAny_bind ?_))
 refine wpAny_bind (aS (wqy hc hclos hcap hhas hix hk hnames hx hnd hi he hs (use:=some (assign (.Name y py) X.env)) (QQ:=λ_ s'=>SP X pins D .next s') I h λC s2 s4 H1 H2 fp I2 hlt hfp J4 hq=>?_) (λ_ s' hq=>wpAny_pure (wpAny_pure hq)) λ_ _ e=>e)
 have I4:Inv X pins σ H2 s4:=I2.uncomp (h':=s4.heap) (Nat.le_of_lt hlt) hfp J4 (gQ _ _)
 have hCn:H2 C=none:=J4.free
 obtain ⟨mC,hnC,_⟩:=J4.loc
 obtain ⟨oC,esC,epC,hoC,hdC⟩:=id hnC
 have hCl:C≠X.env.locals:=λz=>aI _ (aR hlt (z▸I2.lt))
 have hCs:X.s₀.heap.objs.size≤C:=bo I2.sz (Nat.le_of_lt hlt)
 have hCc:∀y c,X.env.cells.lookup y=some c→c≠C:=λy c e z=>by
  obtain ⟨v,o,e1,_⟩:=I2.cell y c e
  exact aI _ (aR hlt (z▸af e1))
 have hCp:∀p∈X.pn++pins,p.1≠C:=λp hp z=>aI _ (aR hlt (z▸af (I2.pin p hp).1))
 have hCf:C∉frs X.stack:=λz=>by
  rcases ay.mp (I2.stkSub C z) with q|q
  ·exact hCl q
  ·obtain ⟨_,o,e1,_⟩:=I2.funs.mem (b:=C) q
   exact aI _ (aR hlt (af e1))
 have hCx:C∉X.fs:=λz=>by
  obtain ⟨_,o,e1,_⟩:=I2.funs.mem (b:=C) z
  exact aI _ (aR hlt (af e1))
 have I4p:Inv X (pins++[(C,oC)]) σ H2 s4:=⟨I4.ok,I4.os,I4.bare,I4.base,I4.loc,I4.cell,I4.free,I4.freeC,λp hp=>by
  rcases aP.mp hp with q|q
  ·exact I4.pin p (bN _ q)
  ·rcases aP.mp q with q|q
   ·exact I4.pin p (aB _ q)
   ·rw [aG.mp q]
    exact ⟨hoC,hCn,hCl,hCx,λv z=>by rw [hdC.1] at z;cases z⟩,I4.hok,I4.len⟩
 show wpAny _ _ (assign (.Name y py) X.env (.ref s2.heap.objs.size)) _ _ _
 refine eX (kg I4p hN hyi hyl (show RelV (.ref s2.heap.objs.size) (.ref s2.heap.objs.size) from rfl) (λs5 I5=>?_) hyf)
 have hC5:=(I5.pin (C,oC) (aB _ (aB _ (.head _)))).1
 exact ⟨mC,⟨oC,esC,epC,hC5,hdC⟩,λh' hs'=>⟨_,H2,I5.unpinned.but hCn hCs hCl hCc hCp hs',hq⟩⟩
end
theorem vv {M:List Nat}{lo:Int}{n:Nat}{te:TE}{σ:St}{H:Hp}{Q:VK}(f:Nat→V)(hn:n≤1000000)(he:∀(i:Nat) (H':Hp) (R:VK),i<n→Same H H'→R (f i) H'→te (x9 M σ (some (.int (lo+i)))) H' R)
  (k:∀p,H p=none→Q (.ref p) (upd H p (.lst ((List.range n).map f)))):uz (Itr lo n) M te σ H Q:=by
 intro p np
 refine ⟨λi m ys H2=>i≤n∧m=n-i∧ys=(List.range i).map f∧H2=upd H p (.lst ys),⟨n,aN _,rfl,rfl,rfl⟩,?_⟩
 rintro i m ys H2 ⟨hi,rfl,rfl,rfl⟩
 refine ⟨qb,?_,?_⟩
 ·rw [List.length_map,List.length_range]
  have:(1000000:Nat)<sizeLine:=by decide
  omega
 ·by_cases hlt:i<n
  ·refine .inr ⟨hlt,?_⟩
   rintro v H3 ⟨rfl,rfl⟩
   refine he i (upd H p (.lst ((List.range i).map f))) _ hlt (Same.upd np) ⟨qb,n-(i+1),by omega,by omega,rfl,?_,?_⟩
   ·rw [List.range_succ,List.map_append]
    rfl
   ·rw [qjb]
  ·have:i=n:=by omega
   subst this
   exact .inl ⟨Nat.le_refl _,k p np⟩
theorem Yh {K:Aa}{M:List Nat}{a:Addr}{xs:List V}{te:TE}{σ:St}{H:Hp}{Q:VK}(f:V→V)(hS:SqL K H a xs)(hn:xs.length≤1000000)(he:∀(x:V) (H':Hp) (R:VK),x∈xs→Same H H'→R (f x) H'→te (x9 M σ (some x)) H' R)
  (k:∀p,H p=none→Q (.ref p) (upd H p (.lst (xs.map f)))):uz (Itl K a) M te σ H Q:=by
 intro p np
 refine ⟨λi m ys H2=>i≤xs.length∧m=xs.length-i∧ys=(xs.take i).map f∧H2=upd H p (.lst ys),⟨xs.length,aN _,rfl,rfl,rfl⟩,?_⟩
 rintro i m ys H2 ⟨hi,rfl,rfl,rfl⟩
 have hS':SqL K (upd H p (.lst ((xs.take i).map f))) a xs:=Same.sql (Same.upd np) hS
 refine ⟨qb,?_,?_⟩
 ·rw [List.length_map,aL]
  have:(1000000:Nat)<sizeLine:=by decide
  omega
 ·by_cases hlt:i<xs.length
  ·have hx:xs[i]?=some xs[i]:=aa hlt
   refine .inr ⟨⟨xs,_,hS',hx⟩,?_⟩
   rintro v H3 ⟨rfl,hv⟩
   have e:=hv xs hS'
   rw [hx] at e
   have e':=aj e
   subst e'
   refine he _ _ _ (bF hlt) (Same.upd np) ⟨qb,xs.length-(i+1),by omega,by omega,rfl,?_,?_⟩
   ·rw [List.take_succ,hx,List.map_append]
    rfl
   ·rw [qjb]
  ·have hi':i=xs.length:=by omega
   subst hi'
   refine .inl ⟨⟨xs,hS',Nat.le_refl _⟩,?_⟩
   rw [List.take_length]
   exact k p np
end L2
namespace L2
open PySem PySem.Spec PyProof.Rows
section
variable {X:Cx}
theorem Yx {pins:List (Addr×Obj)}{σ:St}{H:Hp}{s:Ab}{p:Addr}{ns:List Int}(I:Inv X pins σ H s)(hS:SqL X.K H p (ns.map V.int)) :
  ∃ts:Array (Int×Tok),s.heap.IsList p (intItems ts)∧ns=ts.toList.map (·.1):=by
 obtain ⟨its,rv,⟨o,n,e1,e2,e3,e4⟩,hz⟩:=I.list hS
 have hi:=yc rv
 obtain ⟨ts,ht⟩:=hi.allInts.items
 refine ⟨ts,⟨o,e1,e2,n,by rw [←ht];exact e4⟩,?_⟩
 have a1:=hi.numsOf
 have a2:=nums_intItems (xs:=ts)
 rw [←ht] at a2
 exact a1.symm.trans a2
theorem qx9 (hc:X.calm=true):v8 X (.builtin "min") (λxs H Q=>∃(p:Addr) (ns:List Int),xs=[.ref p]∧SqL X.K H p (ns.map V.int)∧0<ns.length∧∀m,m∈ns→(∀a∈ns,m≤a)→Q (.int m) H):=by
 intro pins s σ H xs us Q I r h
 obtain ⟨p,ns,rfl,hS,hne,q⟩:=h
 obtain ⟨u,rfl,ru⟩:=k7 r
 cases (show u=Value.ref p from ru)
 obtain ⟨ts,hl,he⟩:=Yx I hS
 have hsz:ts.size=ns.length:=by rw [he,List.length_map,aJ]
 refine min_intList (I.ok.hd hc) hl (by omega) λv h' tk hv hk=>?_
 obtain ⟨t,rfl⟩:=iL hv
 obtain ⟨b1,b2⟩:=argBest_lt (numAt ts) (ts.size-1)
 refine ⟨.int _,H,I.kept hk,⟨t,rfl⟩,q _ ?_ λa ha=>?_⟩
 ·rw [he,iM]
  refine getD_mem ?_
  rw [←he,←hsz]
  omega
 ·rw [he] at ha
  obtain ⟨j,hj,rfl⟩:=mem_getD ha
  rw [←he,←hsz] at hj
  rw [←iM]
  exact b2 j (by omega)
theorem qzy (hc:X.calm=true):v8 X (.builtin "max") (λxs H Q=>∃(p:Addr) (ns:List Int),xs=[.ref p]∧SqL X.K H p (ns.map V.int)∧0<ns.length∧∀m,m∈ns→(∀a∈ns,a≤m)→Q (.int m) H):=by
 intro pins s σ H xs us Q I r h
 obtain ⟨p,ns,rfl,hS,hne,q⟩:=h
 obtain ⟨u,rfl,ru⟩:=k7 r
 cases (show u=Value.ref p from ru)
 obtain ⟨ts,hl,he⟩:=Yx I hS
 have hsz:ts.size=ns.length:=by rw [he,List.length_map,aJ]
 refine max_intList (I.ok.hd hc) hl (by omega) λv h' tk hv hk=>?_
 obtain ⟨t,rfl⟩:=iL hv
 obtain ⟨b1,b2⟩:=argBest_gt (numAt ts) (ts.size-1)
 refine ⟨.int _,H,I.kept hk,⟨t,rfl⟩,q _ ?_ λa ha=>?_⟩
 ·rw [he,iM]
  refine getD_mem ?_
  rw [←he,←hsz]
  omega
 ·rw [he] at ha
  obtain ⟨j,hj,rfl⟩:=mem_getD ha
  rw [←he,←hsz] at hj
  rw [←iM]
  exact b2 j (by omega)
theorem qw7:∀ {bs:List Bool} {its:List Value},Vals (bs.map V.bl) its→its=bs.map Value.bool
 |[],_,.nil=>rfl
 |b::bs,_,.cons r t=>by
  have e:_=Value.bool b:=r
  rw [aF,←qw7 t,e]
theorem wv2 (bs:List Bool):(List.range bs.length).all (λi=>bs.getD i true)=bs.all id:=by
 rw [cD,ie,ie]
 constructor
 ·intro h b hb
  obtain ⟨i,hi,rfl⟩:=dG hb
  have:=h i (am.mpr hi)
  rw [ae,aa hi] at this
  exact this
 ·intro h i hi
  have hi':=am.mp hi
  rw [ae,aa hi']
  exact h _ (bF hi')
theorem Q5 (hc:X.calm=true):v8 X (.builtin "all") (λxs H Q=>∃(p:Addr) (bs:List Bool),xs=[.ref p]∧SqL X.K H p (bs.map V.bl)∧Q (.bl (bs.all id)) H):=by
 intro pins s σ H xs us Q I r h
 obtain ⟨p,bs,rfl,hS,q⟩:=h
 obtain ⟨u,rfl,ru⟩:=k7 r
 cases (show u=Value.ref p from ru)
 obtain ⟨its,rv,⟨o,n,e1,e2,e3,e4⟩,hz⟩:=I.list hS
 have hits:=qw7 rv
 have hl:s.heap.IsList p its.toArray:=⟨o,e1,e2,n,e4⟩
 have hlt:p<s.heap.objs.size:=af e1
 refine call_all_walk (d6 hl ?_)
 refine ⟨s.heap.objs.size,_,_,_,_,_,λi=>bs.getD i true,rfl,iz (A:=X.A.in1) (I.ok.hd hc) _ p (ar hlt) its.toArray,⟨⟨_,ak _ rfl,rfl,rfl⟩,hl.push _⟩,λi v s' Q' E' hP hQ=>?_,λh' tk hk=>?_⟩
 ·have hv:its[i]?=some v:=by simpa using hP
  rw [hits,ao] at hv
  cases hb:bs[i]? with
  |none=>rw [hb] at hv;cases hv
  |some b =>
   rw [hb] at hv
   have ev:Value.bool b=v:=aj hv
   subst ev
   refine cT ?_
   have e2:bs.getD i true=b:=by rw [ae,hb];rfl
   have hQ':Q' (bs.getD i true) s':=hQ
   rw [e2] at hQ'
   exact hQ'
 ·have hlen:its.toArray.size=bs.length:=by rw [hits];simp
  rw [hlen,wv2]
  refine ⟨.bl _,H,I.kept λb ob e=>hk b ob (λhm=>?_) (Heap.get?_push_of_some _ e),rfl,q⟩
  have z:b=s.heap.objs.size:=by simpa using hm
  exact aI _ (z▸af e)
end
structure MCal (P:Ac)(w:World)(K:Aa)(mg:Str→Option Value)(base:Heap)(C:Addr)(m:Str)(k:Nat)(sp:Sp):Prop where
 ex:∃f fd ps,Meth K C m f∧FnOk P w K mg base (CXE P w) k f fd ps sp∧Binds K fd ps []
structure CCal (P:Ac)(w:World)(K:Aa)(mg:Str→Option Value)(base:Heap)(x:Str)(C:Addr)(k:Nat)(sp:Sp):Prop where
 ex:∃f fd ps,mg x=some (.ref C)∧Mk K C f∧FnOk P w K mg base (CXE P w) k f fd ps sp∧Binds K fd ps []
structure MethIn (K:Aa)(C:Addr)(m qual:Str)(st:Stmt):Prop where
 ex:∃f fd,PySem.W.findIn K (.ref C) m=some (some (.ref f))∧PySem.W.isFn K (.ref f)=true∧Fun K m qual st f fd
theorem xzv {K:Aa}{C:Addr}{m qual:Str}{st:Stmt}{f:Addr}{oc:Value}{od an:Option Addr}{osl:Array (Option Value)}{kV doc pm cdv ct:Value}(a:PySem.W.findIn K (.ref C) m=some (some (.ref f)))(i:PySem.W.isFn K (.ref f)=true)
  (l:K.lookup f=some ⟨oc,od,.func (PySem.W.fnOf m qual (vx st) (zd st) (qp st) .none kV doc pm an cdv ct),osl⟩) (c:PySem.W.codeIn K cdv qual=true) (k:PySem.W.keepIn K (.ref f)=true):MethIn K C m qual st:=⟨_,_,a,i,wqc l c k⟩
def k9 (x qual:Str)(st:Stmt)(ps:List Str):Prop:=∀(kV doc pm:Value) (an:Option Addr) (cdv ct:Value) (us:List Value),us.length=ps.length→bindArgs (PySem.W.fnOf x qual (vx st) (zd st) (qp st) .none kV doc pm an cdv ct) ⟨us,[]⟩=pure (ps.zip us)
section
variable {P:Ac}{w:World}{K:Aa}{mg:Str→Option Value}{base:Heap}{C:Addr}
theorem MethIn.cal {m qual:Str}{st:Stmt}{ps:List Str}{k:Nat}{sp:Sp}(d:MethIn K C m qual st)(b:k9 m qual st ps)(ok:∀f fd,Fun K m qual st f fd→FnOk P w K mg base (CXE P w) k f fd ps sp):MCal P w K mg base C m k sp:=by
 obtain ⟨f,fd,a,i,F⟩:=d.ex
 exact ⟨f,fd,ps,⟨a,i,F.kp⟩,ok f fd F,F.binds b⟩
theorem MethIn.ccal {x qual:Str}{st:Stmt}{ps:List Str}{k:Nat}{sp:Sp}(d:MethIn K C "__init__" qual st)(hm:mg x=some (.ref C))(mk:PySem.W.makesIn K C=true)(kc:PySem.W.keepIn K (.ref C)=true)(b:k9 "__init__" qual st ps)
  (ok:∀f fd,Fun K "__init__" qual st f fd→FnOk P w K mg base (CXE P w) k f fd ps sp):CCal P w K mg base x C k sp:=by
 obtain ⟨f,fd,a,i,F⟩:=d.ex
 exact ⟨f,fd,ps,hm,⟨mk,a,i,kc⟩,ok f fd F,F.binds b⟩
end
section
variable {X:Cx}{C:Addr}{x m:Str}{k:Nat}{sp:Sp}{E:St→XK}{p pos apos:Pos}{e o:Expr}{es:List Expr}{ta:TE}{t:TA}
theorem wj9 (c:CCal X.prog X.w X.K X.mg X.base x C k sp)(hr:Room (k+1) X.A)(hg:Gl X x)(hx:uw X E)
  (ha:PA X (e::es) t) (hdb:(x==("__debug__" : Str))=false:=by decide) (he:starEach (e::es) X.env=(false,eval e X.env)::starEach es X.env:=by rfl) (hpl:(backTo pos (starEach es X.env)).any (·.1)=false:=by rfl) :
  PE X (.Call (.Name x p) (e::es) [] pos) (wyr C sp E t):=by
 obtain ⟨f,fd,ps,hm,M,F,b⟩:=c.ex
 exact xq5 M F hr hg hm b hx ha hdb he hpl
theorem vm {pl:Sem Bool}(he:PE X o ta)(cl:Cls X.K C)(c:MCal X.prog X.w X.K X.mg X.base C m k sp)(hr:Room k X.A)(hx:uw X E)(ha:PA X (e::es) t)
  (hst:starEach (e::es) X.env=(false,eval e X.env)::starEach es X.env:=by rfl) (hpl:(backTo pos (starEach es X.env)).any (·.1)=false:=by rfl)
  (ht:eval (.Call (.Attribute o m apos) (e::es) [] pos) X.env=(do
   let ov ←eval o X.env
   standAt apos.atName
   let (f,first) ←holding [ov] (getMethod ov m pl)
   callWith pos f first (backTo pos (starEach (e::es) X.env)) (backToKw pos (keywordEach [] X.env))):=by rfl) :
  PE X (.Call (.Attribute o m apos) (e::es) [] pos) (qk6 C m sp E ta t):=by
 obtain ⟨f,fd,ps,hm,F,b⟩:=c.ex
 exact wuc he cl hm F hr b hx ha hst hpl ht
theorem v9 {pl:Sem Bool}(he:PE X o ta)(cl:Cls X.K C)(c:MCal X.prog X.w X.K X.mg X.base C m k sp)(hr:Room k X.A)(hx:uw X E)
  (ht:eval (.Call (.Attribute o m apos) [] [] pos) X.env=(do
   let ov ←eval o X.env
   standAt apos.atName
   let (f,first) ←holding [ov] (getMethod ov m pl)
   callWith pos f first (backTo pos (starEach [] X.env)) (backToKw pos (keywordEach [] X.env))):=by rfl) :
  PE X (.Call (.Attribute o m apos) [] [] pos) (qk6 C m sp E ta qq4):=by
 obtain ⟨f,fd,ps,hm,F,b⟩:=c.ex
 exact wjg he cl hm F hr b hx ht
end
end L2
namespace L2
open PySem
def hAt (hs:List Int)(k:Int):Int:=hs.getD k.toNat 0
def kF (hs:List Int)(t b:Int):Int:=if (hs.length:Int)-1-1<t/b then (hs.length:Int)-1-1 else t/b
def kr (hs:List Int)(t b:Int):Int:=hAt hs (kF hs t b)*b+(hAt hs (kF hs t b+1)-hAt hs (kF hs t b))*(t-kF hs t b*b)
theorem wub {hs:List Int}{t b:Int}(hl:2≤hs.length)(hb:1≤b)(h0:0≤t):0≤kF hs t b∧kF hs t b<(hs.length:Int)-1:=by
 have h:=Int.ediv_nonneg h0 (show (0:Int)≤b by omega)
 unfold kF
 split <;> omega
theorem xqj {hs:List Int}{t b c:Int}(hc:1≤c):kF hs (t*c) (b*c)=kF hs t b:=by
 unfold kF
 rw [dS _ _ (show 0<c by omega)]
theorem qu7 {hs:List Int}{t b c:Int}(hc:1≤c):kr hs (t*c) (b*c)=kr hs t b*c:=by
 unfold kr
 rw [xqj hc]
 generalize hAt hs (kF hs t b)=u
 generalize hAt hs (kF hs t b+1)=v
 generalize kF hs t b=k
 grind
theorem div_in {k t b:Int}(hb:1≤b)(h1:k*b≤t)(h2:t<(k+1)*b):t/b=k:=by
 have a1:k≤t/b:=(fh (by omega)).mpr h1
 have a2:t/b<k+1:=(Int.ediv_lt_iff_lt_mul (by omega)).mpr h2
 omega
theorem xqf {hs:List Int}{k t b:Int}(hk:0≤k)(hk2:k<(hs.length:Int)-1)(hb:1≤b)(h1:k*b≤t)(h2:t≤(k+1)*b) :
  kr hs t b=hAt hs k*b+(hAt hs (k+1)-hAt hs k)*(t-k*b):=by
 by_cases hlt:t<(k+1)*b
 ·have e:=div_in hb h1 hlt
  have ek:kF hs t b=k:=by
   unfold kF
   rw [e]
   split <;> omega
  unfold kr
  rw [ek]
 ·have et:t=(k+1)*b:=by omega
  have e:t/b=k+1:=by
   rw [et]
   exact Int.mul_ediv_cancel _ (by omega)
  by_cases hn:(hs.length:Int)-1-1<k+1
  ·have ek:kF hs t b=k:=by
    unfold kF
    rw [e,if_pos hn]
    omega
   unfold kr
   rw [ek]
  ·have ek:kF hs t b=k+1:=by
    unfold kF
    rw [e,if_neg hn]
   unfold kr
   rw [ek,et]
   generalize hAt hs k=u
   generalize hAt hs (k+1)=v
   generalize hAt hs (k+1+1)=z
   grind
def Zq (hs:List Int)(t b:Int):Int×Int:=wt (kr hs t b) b
theorem qvz {hs:List Int}{t b:Int}(hb:1≤b):Zq hs (wt t b).1 (wt t b).2=Zq hs t b:=by
 unfold Zq
 have hg:=y7 (t:=t) hb
 have e1:(wt t b).1*gOf t b=t:=by rw [gh];exact quc
 have e2:(wt t b).2*gOf t b=b:=by rw [gh];exact qvh hb
 have h:=qu7 (hs:=hs) (t:=(wt t b).1) (b:=(wt t b).2) hg
 rw [e1,e2] at h
 rw [h]
 conv=>rhs;rw [←e2]
 rw [e2]
 have:=qq2 (t:=kr hs (wt t b).1 (wt t b).2) (b:=(wt t b).2) (jq hb) hg
 rw [e2] at this
 exact this.symm
theorem qqm {t b:Int}(hb:1≤b):(wt t b).1<0↔t<0:=by
 have hg:=y7 (t:=t) hb
 have e1:gOf t b*(wt t b).1=t:=quc
 constructor
 ·intro h
  have:=gE h (show 0<gOf t b by omega)
  rw [e1,Int.mul_zero] at this
  exact this
 ·intro h
  rcases cZ (wt t b).1 0 with z|z
  ·exact z
  ·have:=bn z (show 0≤gOf t b by omega)
   rw [e1,Int.mul_zero] at this
   omega
theorem wwq {t b n:Int}(hb:1≤b):n*(wt t b).2<(wt t b).1↔n*b<t:=by
 have hg:=y7 (t:=t) hb
 have e1:gOf t b*(wt t b).1=t:=quc
 have e2:gOf t b*(wt t b).2=b:=qvh hb
 have e3:gOf t b*(n*(wt t b).2)=n*b:=by
  generalize gOf t b=g at *
  generalize (wt t b).2=y at *
  grind
 constructor
 ·intro h
  have:=gE h (show 0<gOf t b by omega)
  rw [e1,e3] at this
  exact this
 ·intro h
  rcases cZ (n*(wt t b).2) (wt t b).1 with z|z
  ·exact z
  ·have:=bn z (show 0≤gOf t b by omega)
   rw [e1,e3] at this
   omega
theorem wj8 {u v b d:Int}(hb:0≤d)(hd:d≤b):(if v<u then v else u)*b≤u*b+(v-u)*d∧u*b+(v-u)*d≤(if v>u then v else u)*b:=by
 by_cases h:v<u
 ·rw [if_pos h,if_neg (by omega)]
  have a1:=bn hd (show 0≤u-v by omega)
  have a2:=eo (show 0≤u-v by omega) hb
  constructor <;> grind
 ·rw [if_neg h]
  have a1:=bn hd (show 0≤v-u by omega)
  have a2:=eo (show 0≤v-u by omega) hb
  by_cases h2:v>u
  ·rw [if_pos h2]
   constructor <;> grind
  ·rw [if_neg h2]
   have:v=u:=by omega
   subst this
   constructor <;> grind
end L2
namespace L2
open PySem PySem.Spec PyProof.Rows
def wwx (J:It)(M:List Nat)(tt:TT)(te:TE)(σ:St)(H1:Hp)(Q:VK):Prop:=∀p,H1 p=none→∃W:Nat→Nat→List V→Hp→Prop,(∃m,W 0 m [] (upd H1 p (.lst []))) ∧
 ∀i m ys H2,W i m ys H2→H2 p=some (.lst ys)∧ys.length<sizeLine∧((J.stop i H2∧Q (.ref p) H2)∨(J.go i H2∧∀v H3,J.yld i H2 v H3 →
  tt (x9 M σ (some v)) H3 λb H4=>if b=true then te (x9 M σ (some v)) H4 (λy H5=>H5 p=some (.lst ys)∧∃m',m'<m∧W (i+1) m' (ys++[y]) (upd H5 p (.lst (ys++[y])))) else H4 p=some (.lst ys)∧∃m',m'<m∧W (i+1) m' ys H4))
def wyc (M:List Nat)(wi:TI)(tt:TT)(te:TE):TE:=λσ H Q=>wi σ H λJ H1=>wwx J M tt te σ H1 Q
section
variable {X:Cx}{elt iter cd:Expr}{x:Str}{px pos:Pos}{scope:Scope}{cl:List (Str×Addr)}{M:List Nat}{wi:TI}{tt:TT}{te:TE}
theorem qvg (hc:X.calm=true)(hclos:closureFor scope X.env=pure cl)(hcap:CapAll X.env cl)(hhas:HasAll cl scope.names)(hix:CapIx X scope cl M)(hk:scope.kind=.function)
  (hnames:∀y∈scope.names,y.2=.local→scope.names.lookup y.1=some .local) (hx:scope.names.lookup x=some .local) (hnd:(j4 X x M).Nodup) (hi:PI X (.Name x px) iter wi)
  (ht:∀C s2 H2 fp pn,PT (zq X scope cl x M C s2 H2 fp pn) cd tt) (he:∀C s2 H2 fp pn,PE (zq X scope cl x M C s2 H2 fp pn) elt te) (hs:∀z,foldedSetIterable iter X.env z=pure z)
  {use:Option (Value→Sem Unit)} {QQ:Value→Ab→Prop} {pins:List (Addr×Obj)} {s:Ab} {σ:St} {H:Hp} {Q:VK} {ps:Pos} (I:Inv X pins σ H s) (h:wi σ H λJ H1=>wwx J M tt te σ H1 Q)
  (fin:∀(C:Addr) (s2 s4:Ab) (H1 H2:Hp) (fp:List Addr),Inv X pins σ H1 s2→s2.heap.objs.size<C→(∀b∈fp,zr X pins H1 b)→Inv (zq X scope cl x M C s2 H1 fp (X.pn++pins)) [] (x9 M σ none) H2 s4→Q (.ref s2.heap.objs.size) H2 →
   compPost (model X.prog X.w) X.A X.xe use QQ (.ref s2.heap.objs.size) C (.ok .next) s4) :
  wpAny (model X.prog X.w) X.A (comprehension (.ListComp elt [⟨.Name x px,iter,[cd],0⟩] scope pos) scope X.env ps (newList []) false (eval iter X.env) use) QQ X.xe s:=by
 refine Yy hclos hhas hk hnames hi hs I h λit fp tn J H1 s2 C h3 tk I2 T t3 hfp hbl hob hR hlt keep hns hD=>?_
 obtain ⟨W,⟨m0,w0⟩,hW⟩:=hR s2.heap.objs.size (I2.hok.fresh (Nat.le_refl _))
 have hxl:(relabel scope X.env).names.lookup x=some .local:=dv hx
 refine kj (Y:=zq X scope cl x M C s2 H1 fp (X.pn++pins)) (V:=λi n H2=>∃ys,W i n ys H2) (Qd:=Q (.ref s2.heap.objs.size)) (REST:=tstS cd (compEnvC scope cl C X.env) (appS elt (.ref s2.heap.objs.size) (compEnvC scope cl C X.env) _) (again _)) T hc (λ_ _ z=>z) (compTurn_list ..) rfl rfl (wn (i:=0) hnd rfl (.inl hxl) (.inr hxl)) (Zp hcap I2 hlt hfp hbl) (λi n H2 ⟨ys,w⟩=>?_) (λH2 s4 J4 q=>fin C s2 s4 H1 H2 fp I2 hlt hfp J4 q) (I2.comp hcap hhas hix hk hlt keep hns hD hfp hob) ⟨[],w0⟩ t3 λb hb=>by rw [qr (ar (hbl b hb))];exact (hfp b hb).1
 obtain ⟨hp,hz,hcase⟩:=hW i n ys H2 w
 refine hcase.imp id λ⟨hgo,hy⟩=>⟨hgo,λv H3 yl=>⟨λσ4 H4=>σ4=x9 M σ (some v)∧H3=H4,⟨rfl,rfl⟩,λ_ _ e=>?_⟩⟩
 obtain ⟨rfl,rfl⟩:=e
 refine ⟨yj M σ v,λpins' s' J=>?_⟩
 exact Zk (ht _ _ _ _ _) J (hy v H3 yl) (λs6 H6 J6 h6=>aS (Zy (N:=λzs H5=>∃m',m'<n∧W (i+1) m' zs H5) (λ_ _ z=>z) (he _ _ _ _ _) J6 hz h6) (λr s5 ⟨e,H5,J5,zs,m',hm,w'⟩=>⟨e,H5,J5,m',hm,zs,w'⟩) λ_ _ z=>z)
  λs6 H6 J6 ⟨_,m',hm,w'⟩=>wpAny_pure ⟨rfl,H6,J6,m',hm,ys,w'⟩
theorem qj4 (hc:X.calm=true)(hclos:closureFor scope X.env=pure cl)(hcap:CapAll X.env cl)(hhas:HasAll cl scope.names)(hix:CapIx X scope cl M)(hk:scope.kind=.function)
  (hnames:∀y∈scope.names,y.2=.local→scope.names.lookup y.1=some .local) (hx:scope.names.lookup x=some .local) (hnd:(j4 X x M).Nodup) (hi:PI X (.Name x px) iter wi)
  (ht:∀C s2 H2 fp pn,PT (zq X scope cl x M C s2 H2 fp pn) cd tt) (he:∀C s2 H2 fp pn,PE (zq X scope cl x M C s2 H2 fp pn) elt te) (hs:∀z,foldedSetIterable iter X.env z=pure z:=by intro _;rfl) :
  PE X (.ListComp elt [⟨.Name x px,iter,[cd],0⟩] scope pos) (wyc M wi tt te):=by
 intro pins s σ H Q I h
 rw [eval_ListComp]
 refine qvg hc hclos hcap hhas hix hk hnames hx hnd hi ht he hs (use:=none) I h λC s2 s4 H1 H2 fp I2 hlt hfp J4 hq=>?_
 obtain ⟨m,hn,_⟩:=J4.loc
 exact ⟨m,hn,λh' hs'=>⟨.ref s2.heap.objs.size,H2,I2.uncomp (Nat.le_of_lt hlt) hfp J4 hs',rfl,hq⟩⟩
theorem qu0 {i:Nat}{y:Str}{py spos:Pos}(hN:X.N.Nodup)(hyi:X.N[i]?=some y)(hyl:Loc X.env.scope y)(hc:X.calm=true)(hclos:closureFor scope X.env=pure cl)(hcap:CapAll X.env cl)(hhas:HasAll cl scope.names)(hix:CapIx X scope cl M)(hk:scope.kind=.function)
  (hnames:∀y∈scope.names,y.2=.local→scope.names.lookup y.1=some .local) (hx:scope.names.lookup x=some .local) (hnd:(j4 X x M).Nodup) (hi:PI X (.Name x px) iter wi)
  (ht:∀C s2 H2 fp pn,PT (zq X scope cl x M C s2 H2 fp pn) cd tt) (he:∀C s2 H2 fp pn,PE (zq X scope cl x M C s2 H2 fp pn) elt te) (hs:∀z,foldedSetIterable iter X.env z=pure z:=by intro _;rfl)
  (hsw:swapsWith (.ListComp elt [⟨.Name x px,iter,[cd],0⟩] scope pos) (some (.Name y py)) spos.line X.env=pure true:=by rfl) (hyf:X.fn y=true∨X.env.scope.names.lookup y=some .local:=by first | exact .inl rfl | exact .inr rfl | assumption) :
  PS X (.Assign [.Name y py] (.ListComp elt [⟨.Name x px,iter,[cd],0⟩] scope pos) spos) (tAsg (wyc M wi tt te) (Q3 i)):=by
 intro pins s σ H D I h
 rw [fC _ _ _ _ hsw]
 refine wpAny_bind (cy (wpAny_bind ?_))
 refine wpAny_bind (aS (qvg hc hclos hcap hhas hix hk hnames hx hnd hi ht he hs (use:=some (assign (.Name y py) X.env)) (QQ:=λ_ s'=>SP X pins D .next s') I h λC s2 s4 H1 H2 fp I2 hlt hfp J4 hq=>?_) (λ_ s' hq=>wpAny_pure (wpAny_pure hq)) λ_ _ e=>e)
 have I4:Inv X pins σ H2 s4:=I2.uncomp (h':=s4.heap) (Nat.le_of_lt hlt) hfp J4 (gQ _ _)
 have hCn:H2 C=none:=J4.free
 obtain ⟨mC,hnC,_⟩:=J4.loc
 obtain ⟨oC,esC,epC,hoC,hdC⟩:=id hnC
 have hCl:C≠X.env.locals:=λz=>aI _ (aR hlt (z▸I2.lt))
 have hCs:X.s₀.heap.objs.size≤C:=bo I2.sz (Nat.le_of_lt hlt)
 have hCc:∀y c,X.env.cells.lookup y=some c→c≠C:=λy c e z=>by
  obtain ⟨v,o,e1,_⟩:=I2.cell y c e
  exact aI _ (aR hlt (z▸af e1))
 have hCp:∀p∈X.pn++pins,p.1≠C:=λp hp z=>aI _ (aR hlt (z▸af (I2.pin p hp).1))
 have hCf:C∉frs X.stack:=λz=>by
  rcases ay.mp (I2.stkSub C z) with q|q
  ·exact hCl q
  ·obtain ⟨_,o,e1,_⟩:=I2.funs.mem (b:=C) q
   exact aI _ (aR hlt (af e1))
 have hCx:C∉X.fs:=λz=>by
  obtain ⟨_,o,e1,_⟩:=I2.funs.mem (b:=C) z
  exact aI _ (aR hlt (af e1))
 have I4p:Inv X (pins++[(C,oC)]) σ H2 s4:=⟨I4.ok,I4.os,I4.bare,I4.base,I4.loc,I4.cell,I4.free,I4.freeC,λp hp=>by
  rcases aP.mp hp with q|q
  ·exact I4.pin p (bN _ q)
  ·rcases aP.mp q with q|q
   ·exact I4.pin p (aB _ q)
   ·rw [aG.mp q]
    exact ⟨hoC,hCn,hCl,hCx,λv z=>by rw [hdC.1] at z;cases z⟩,I4.hok,I4.len⟩
 show wpAny _ _ (assign (.Name y py) X.env (.ref s2.heap.objs.size)) _ _ _
 refine eX (kg I4p hN hyi hyl (show RelV (.ref s2.heap.objs.size) (.ref s2.heap.objs.size) from rfl) (λs5 I5=>?_) hyf)
 have hC5:=(I5.pin (C,oC) (aB _ (aB _ (.head _)))).1
 exact ⟨mC,⟨oC,esC,epC,hC5,hdC⟩,λh' hs'=>⟨_,H2,I5.unpinned.but hCn hCs hCl hCc hCp hs',hq⟩⟩
end
theorem ww6 {i:Int}{acc:Array Value}{n:Nat}(h:ItemsOf (λk v=>∃t,v=.int (i+k*1) t) acc n):Vals ((List.range n).map λk:Nat=>V.int (i+k)) acc.toList:=by
 obtain ⟨h1,h2⟩:=h
 have key:∀(l:List Value) (b m:Nat),l.length=m→(∀(j:Nat) v,l[j]?=some v→∃t,v=.int (i+((b+j:Nat):Int)*1) t)→Vals ((List.range' b m).map λk:Nat=>V.int (i+k)) l:=by
  intro l
  induction l with
  |nil=>intro b m hm _;subst hm;exact .nil
  |cons x r ih =>
   intro b m hm hj
   subst hm
   rw [ax,List.range'_succ,aF]
   refine .cons ?_ (ih (b+1) r.length rfl λj v e=>?_)
   ·obtain ⟨t,e⟩:=hj 0 x rfl
    refine ⟨t,?_⟩
    rw [e]
    simp
   ·obtain ⟨t,e'⟩:=hj (j+1) v e
    refine ⟨t,?_⟩
    rw [e',show b+1+j=b+(j+1) by omega]
 have:=key acc.toList 0 n (by simpa using h1) (λj v e=>by
  obtain ⟨t,e'⟩:=h2 j v (by simpa using e)
  exact ⟨t,by rw [e'];simp⟩)
 rwa [←List.range_eq_range'] at this
def tLR (ta:TA):TE:=λσ H Q=>ta σ H λvs H1=>∃i j:Int,vs=[.int i,.int j]∧(-(2 ^ 40)≤i∧i<2 ^ 40∧-(2 ^ 40)≤j∧j<2 ^ 40)∧(j-i).toNat≤1000000∧∀q,H1 q=none→Q (.ref q) (upd H1 q (.lst ((List.range (j-i).toNat).map λk:Nat=>V.int (i+k))))
theorem qzr {X:Cx}{a b:Expr}{ta:TA}{p1 pos1 p2 pos2:Pos}(hc:X.calm=true)(hgl:Gl X "list")(hml:X.mg "list" = none)(hg:Gl X "range")(hm:X.mg "range" = none)(ha:PA X [a,b] ta)
  (hs:starEach [a,b] X.env=[(false,eval a X.env),(false,eval b X.env)]:=by rfl) (hs2:starEach [b] X.env=[(false,eval b X.env)]:=by rfl) (hs3:starEach [(.Call (.Name "range" p1) [a,b] [] pos1)] X.env=[(false,eval (.Call (.Name "range" p1) [a,b] [] pos1) X.env)]:=by rfl) :
  PE X (.Call (.Name "list" p2) [.Call (.Name "range" p1) [a,b] [] pos1] [] pos2) (tLR ta):=by
 intro pins s σ H Q I h
 refine cL (jf I hgl hml cA ?_)
 refine bI (e:=.Call (.Name "range" p1) [a,b] [] pos1) (rest:=[]) ?_ hs3 rfl
 rw [hs3]
 show wpAny _ _ (spliced ((false,eval (.Call (.Name "range" p1) [a,b] [] pos1) X.env)::[])) _ _ s
 refine Calls.spliced_cons ?_
 refine Call_ (jf I hg hm boot_range (bI (thn (ha pos1 pins s σ H _ I h) λus s1 ⟨vs,H1,I1,r1,q1⟩=>?_) (by rw [hs,hs2]) (by rw [hs2];rfl)))
 obtain ⟨i,j,e,⟨q1,q2,q3,q4⟩,q5,q⟩:=q1
 subst e
 cases r1 with
 |cons r rr =>
  cases rr with
  |cons r' rr =>
   cases rr
   obtain ⟨t,rfl⟩:=r
   obtain ⟨t',rfl⟩:=r'
   refine call_range_2 (Calls.spliced_nil ?_)
   have I2:Inv X pins σ H1 { s1 with heap:=s1.heap.push { cls:=.type "range",data:=.fields #[.int i t,.int j t',.int 1 s1.toks] },toks:=s1.toks+1 }:=I1.kept λb o e=>Heap.get?_push_of_some _ e
   refine call_list_range (n:=(j-i).toNat) (I2.ok.hd hc) (IsRange.new ..) (small_one (by omega) (by omega) (by omega) (by omega)) (rangeSize_nat _ _) (by omega) λh' tk acc' c' kp e hit=>?_
   have hl:((List.range (j-i).toNat).map λk:Nat=>V.int (i+k)).length≤sizeLine:=by
    rw [List.length_map,List.length_range]
    have:(1000000:Nat)<sizeLine:=by decide
    omega
   exact ⟨.ref _,_,I2.laid (t':=tk) kp (Nat.le_refl _) (show ObjOk X.prog X.w _ h' _ (.lst _) from ⟨hl,acc'.toList,c',ww6 hit,by simpa using e⟩),rfl,q _ (I2.hok.fresh (Nat.le_refl _))⟩
end L2
namespace L2
open PySem PySem.Spec PyProof.Rows
structure FunD (K:Aa)(x:Str)(st:Stmt)(f:Addr)(fd:Ad):Prop where
 ex:∃(oc:Value) (od:Option Addr) (T:Addr) (kV doc pm:Value) (an:Option Addr) (cdv ct:Value) (osl:Array (Option Value)),
  fd=PySem.W.fnOf x x (vx st) (zd st) (qp st) (.ref T) kV doc pm an cdv ct∧K.lookup f=some ⟨oc,od,.func fd,osl⟩∧PySem.W.codeIn K cdv x=true∧∃o n,K.lookup T=some o∧o.data=.seq #[.none] n
 kp:PySem.W.keepIn K (.ref f)=true
structure DefInD (K:Aa)(x:Str)(st:Stmt):Prop where
 ex:∃f fd,PySem.W.nsIn K mainGlobals x=some (some (.ref f))∧FunD K x st f fd
section
variable {P:Ac}{w:World}{K:Aa}{mg:Str→Option Value}{base:Heap}
theorem xxy {x:Str}{st:Stmt}{f T:Addr}{oc:Value}{od an:Option Addr}{osl:Array (Option Value)}{kV doc pm cdv ct:Value}(a:PySem.W.nsIn K mainGlobals x=some (some (.ref f)))
  (l:K.lookup f=some ⟨oc,od,.func (PySem.W.fnOf x x (vx st) (zd st) (qp st) (.ref T) kV doc pm an cdv ct),osl⟩) (c:PySem.W.codeIn K cdv x=true) (k:PySem.W.keepIn K (.ref f)=true) {tc:Value} {td:Option Addr} {tn:Nat} {ts:Array (Option Value)} (t:K.lookup T=some ⟨tc,td,.seq #[.none] tn,ts⟩):DefInD K x st:=⟨_,_,a,⟨oc,od,T,kV,doc,pm,an,cdv,ct,osl,rfl,l,c,_,_,t,rfl⟩,k⟩
theorem FunD.okX {x:Str}{st:Stmt}{f:Addr}{fd:Ad}{N ps:List Str}{k:Nat}{sp:Sp}(F:FunD K x st f fd)(S:FnScope N ps (qp st))(len:∀vs H Q E,sp vs H Q E→vs.length=ps.length)
  (body:∀(cdv:Value) (A:Around) (outer:List Env) (s:Ab) (H:Hp) (vs:List V) (Q:VK) (E:XK),Room k (A.deeper (envOfC x (qp st) s.heap.objs.size f cdv))→sp vs H Q E →
   ∃t,PSs (qx7 (CXE P w) P w K mg base N x (qp st) f cdv A outer s H E) (zd st) t∧t { nx:=λ_ H'=>Q .non H',rt:=Q } (Q8 N vs) H):FnOk P w K mg base (CXE P w) (k+1) f fd ps sp:=by
 obtain ⟨oc,od,T,kV,doc,pm,an,cdv,ct,osl,rfl,lk,hcd,_⟩:=F.ex
 exact wy9 lk hcd S len λA outer s H vs Q E hr hsp=>body cdv A outer s H vs Q E hr hsp
def W8 (x:Str)(st:Stmt)(ps:List Str)(ds:List Value):Prop:=∀(T:Addr) (kV doc pm:Value) (an:Option Addr) (cdv ct:Value) (us:List Value),(us++ds).length=ps.length →
 ∃kk,bindArgs (PySem.W.fnOf x x (vx st) (zd st) (qp st) (.ref T) kV doc pm an cdv ct) ⟨us,[]⟩=seqItems? (.ref T) >>= kk∧kk (some #[.none])=pure (ps.zip (us++ds))
structure CalD (P:Ac)(w:World)(K:Aa)(mg:Str→Option Value)(base:Heap)(x:Str)(k:Nat)(sp:Sp):Prop where
 ex:∃f fd ps,mg x=some (.ref f)∧FnOk P w K mg base (CXE P w) k f fd ps sp∧PySem.W.keepIn K (.ref f)=true∧Binds K fd ps []∧Binds K fd ps [.none]
theorem FunD.binds {x:Str}{st:Stmt}{f:Addr}{fd:Ad}{ps:List Str}{ds:List Value}(F:FunD K x st f fd)(b:W8 x st ps ds):Binds K fd ps ds:=by
 obtain ⟨oc,od,T,kV,doc,pm,an,cdv,ct,osl,rfl,lk,hcd,o,n,e1,e2⟩:=F.ex
 intro s us X hl
 obtain ⟨kk,h1,h2⟩:=b T kV doc pm an cdv ct us hl
 exact PySem.W.binds_K X rfl e1 e2 h1 h2
theorem DefInD.cal {x:Str}{st:Stmt}{ps:List Str}{k:Nat}{sp:Sp}{h:Heap}(d:DefInD K x st)(KX:K.In h)(G:h.Ns mainGlobals mg)(b:W8 x st ps [])(b':W8 x st ps [.none])(ok:∀f fd,FunD K x st f fd→FnOk P w K mg base (CXE P w) k f fd ps sp):CalD P w K mg base x k sp:=by
 obtain ⟨f,fd,a,F⟩:=d.ex
 exact ⟨f,fd,ps,bM KX G a,ok f fd F,F.kp,F.binds b,F.binds b'⟩
theorem CalD.all {x:Str}{k:Nat}{sp:Sp}(c:CalD P w K mg base x k sp):Cal P w K mg base x k sp:=by
 obtain ⟨f,fd,ps,h1,h2,h3,h4,_⟩:=c.ex
 exact ⟨f,fd,ps,h1,h2,h3,h4⟩
end
section
variable {X:Cx}{x:Str}{k:Nat}{sp:Sp}{E:St→XK}{p pos:Pos}{e:Expr}{es:List Expr}{t:TA}
end
end L2
namespace L2
open PySem PySem.Spec PyProof.Rows
section
variable {κ:Type}[DecidableEq κ]
end
theorem kV_is {P:Ac}{w:World}{k:Key}{u:Value}(r:RelV (kV k) u):(jn P w).is k u=true:=by
 cases k with
 |inl i=>obtain ⟨t,e⟩:=(show ∃t,u=Value.int i t from r);subst e;exact quk P w i t
 |inr x=>obtain ⟨t,e⟩:=(show ∃t,u=Value.str x t from r);subst e;exact qyf P w x t
theorem qv0 {P:Ac}{w:World}:∀ {ks:List Key} {us:List Value},Vals (ks.map kV) us→ItemsAre (jn P w) ks us
 |[],_,r=>by rw [cP] at r;cases r;exact .nil
 |k::ks,_,r=>by
  rw [aF] at r
  cases r with
  |cons h t=>exact .cons (kV_is h) (qv0 t)
section
variable {P:Ac}{w:World}{H:Hp}{h:Heap}{a:Addr}
theorem wqd {ks:List Key}(ok:HOk P w H h)(e:H a=some (.tup (ks.map kV))):(tupleKind (jn P w)).is h ks a:=by
 obtain ⟨_,its,r,o,h1,h2,n,h3⟩:=(show ObjOk P w H h a (.tup (ks.map kV)) from ok a _ e)
 exact ⟨o,its.toArray,n,h1,h2,h3,by simpa using qv0 r⟩
end
section
variable {X:Cx}{pins:List (Addr×Obj)}{σ:St}{H:Hp}{s:Ab}{a:Addr}{y v:V}{u r:Value}{o:Option V}{A:Around}{E:Value→Ab→Prop}
theorem wzf {h':Heap}{t':Nat}{ob:HO}(I:Inv X pins σ H s)(mu:Mut (H a))(hs:Heap.SameBut a s.heap h')(he:∃q,h'.get? a=some q)(new:ObjOk X.prog X.w (upd H a ob) h' a ob) :
  Inv X pins σ (upd H a ob) { s with heap:=h',toks:=t' } :=
 I.write (x:=a) (e:=a) mu (.inl rfl) (λb q hb z=>(hs.2 b hb).trans z) he new
end
section
variable {X:Cx}{pins:List (Addr×Obj)}{σ:St}{H:Hp}{s:Ab}{a:Addr}{kvs:List (Key×V)}{k:Key}{u:Value}{A:Around}{E:Value→Ab→Prop}
end
section
variable {X:Cx}{o i e value:Expr}{pos pos' tpos:Pos}{td ty tv:TE}
end
section
variable {X:Cx}{pos:Pos}
end
end L2
namespace L2
open PySem PySem.Spec PySem.Calls PySem.W PyProof.Rows
section
variable {prog:Ac}{w:World}{A:Around}{E:Value→Ab→Prop}{s:Ab}{S a:Addr}{es:Array (Int×Value)}{ep:Nat}{t:SetTable}{o:Obj}{k:List Key}{ks:List (List Key)}{h:Int}{B:Nat}
abbrev KD (prog:Ac)(w:World):=tupleKind (jn prog w)
def EsIn (prog:Ac)(w:World)(B:Nat)(hp:Heap)(es:Array (Int×Value))(ks:List (List Key)):Prop:=∀p∈es.toList,∃k∈ks,∃a,p.2=.ref a∧a<B∧(KD prog w).is hp k a
theorem wkw (n:Nat){v:Value}(h:carriedByValue v=true):ofAClassStatement n v=pure false:=by
 cases v with
 |ref x=>cases h
 |_=>first | rfl | (simp [ofAClassStatement];done) | (cases n <;> rfl)
theorem xq2 (n:Nat){v:Value}(h:carriedByValue v=true):∃b,hashByValue n v=pure b:=by
 cases v <;> cases n <;> first | exact ⟨_,rfl⟩ | (simp [carriedByValue] at h) | exact ⟨_,by simp [hashByValue]⟩
theorem qy1 (hx:(KD prog w).is s.heap k a){n:Nat}{Q:Bool→Ab→Prop}(hQ:Q false s):wpAny (model prog w) A (ofAClassStatement (n+1) (.ref a)) Q E s:=by
 have hT:s.TypeIs (.ref a) "tuple" := gR hx
 obtain ⟨o,items,m,ho,hc,hd,hi⟩:=hx
 unfold ofAClassStatement
 refine wpAny_bind (gf hT ?_)
 dsimp only
 rw [if_pos (by decide)]
 refine wpAny_bind (wpAny_pure ?_)
 simp only [fO,aw,bj]
 refine wpAny_bind (bR ho hd ?_)
 refine wpAny_bind ?_
 show wpAny _ _ (forIn items _ _) _ _ s
 rw [←dQ]
 refine fG _ (λrest r s'=>r.1=none∧s'=s∧∀v∈rest,carriedByValue v=true) _ ?_ ?_ _ _ ⟨rfl,rfl,hi.byValue⟩
 ·rintro v rest r s' ⟨hr,rfl,hall⟩
  rw [wkw _ (hall v List.mem_cons_self)]
  refine wpAny_bind (wpAny_pure ?_)
  simp only [aw,bj]
  exact wpAny_pure ⟨rfl,rfl,λu hu=>hall u (List.mem_cons_of_mem _ hu)⟩
 ·rintro ⟨r1,r2⟩ s' ⟨hr,rfl,_⟩
  simp only at hr
  subst hr
  exact wpAny_pure hQ
theorem wyx (hx:(KD prog w).is s.heap k a){n:Nat}{Q:Bool→Ab→Prop}(hQ:∀b,Q b s):wpAny (model prog w) A (hashByValue (n+1) (.ref a)) Q E s:=by
 have hT:s.TypeIs (.ref a) "tuple" := gR hx
 obtain ⟨o,items,m,ho,hc,hd,hi⟩:=hx
 unfold hashByValue
 refine wpAny_bind (iD hT ig.lookup ?_)
 dsimp only
 refine wpAny_bind (bR ho hd ?_)
 refine wpAny_bind ?_
 show wpAny _ _ (forIn items _ _) _ _ s
 rw [←dQ]
 refine fG _ (λrest r s'=>r.1=none∧s'=s∧∀v∈rest,carriedByValue v=true) _ ?_ ?_ _ _ ⟨rfl,rfl,hi.byValue⟩
 ·rintro v rest r s' ⟨hr,rfl,hall⟩
  obtain ⟨b,eb⟩:=xq2 n (hall v List.mem_cons_self)
  rw [eb]
  refine wpAny_bind (wpAny_pure ?_)
  cases b with
  |true=>exact wpAny_pure ⟨rfl,rfl,λu hu=>hall u (List.mem_cons_of_mem _ hu)⟩
  |false=>exact wpAny_pure (wpAny_pure (hQ false))
 ·rintro ⟨r1,r2⟩ s' ⟨hr,rfl,_⟩
  simp only at hr
  subst hr
  exact wpAny_pure (hQ true)
theorem wzz (hx:(KD prog w).is s.heap k a){Q:Bool→Ab→Prop}(hQ:Q false s):∀(l:List Value),(∀y∈l,∃k' b,y=.ref b∧(KD prog w).is s.heap k' b)→wpAny (model prog w) A (searchCouldBeSeen (.ref a) l) Q E s:=by
 intro l hl
 unfold searchCouldBeSeen
 refine wpAny_bind ?_
 refine fG _ (λrest r s'=>r.1=none∧s'=s∧∀y∈rest,∃k' b,y=.ref b∧(KD prog w).is s.heap k' b) _ ?_ ?_ _ _ ⟨rfl,rfl,hl⟩
 ·rintro y rest r s' ⟨hr,rfl,hall⟩
  obtain ⟨k',b,rfl,hb⟩:=hall y List.mem_cons_self
  have nx:∀u∈rest,∃k' b,u=.ref b∧(KD prog w).is s'.heap k' b:=λu hu=>hall u (List.mem_cons_of_mem _ hu)
  dsimp only
  split
  ·exact wpAny_pure ⟨rfl,rfl,nx⟩
  ·refine wpAny_bind ((KD prog w).quiet hx ?_)
   simp only [fO,aw,bj]
   refine wpAny_bind ((KD prog w).quiet hb ?_)
   simp only [fO,aw,bj]
   refine wpAny_bind (qy1 hx ?_)
   simp only [aw,bj]
   refine wpAny_bind (qy1 hb ?_)
   simp only [aw,bj]
   exact wpAny_pure ⟨rfl,rfl,nx⟩
 ·rintro ⟨r1,r2⟩ s' ⟨hr,rfl,_⟩
  simp only at hr
  subst hr
  exact wpAny_pure hQ
structure StAt (prog:Ac)(w:World)(B:Nat)(hp:Heap)(S:Addr)(ks:List (List Key))(es:Array (Int×Value))(ep:Nat)(t:SetTable)(e:Nat)(o:Obj):Prop where
 ho:hp.get? S=some o
 ex:o.ExactSet
 hd:o.data=.set es ep t
 dm:t.dummies=#[]
 pl:t.place.size=es.size
 pw:t.mask+1=2 ^ e
 lo:3≤e
 hi:e≤12
 few:es.size*5<t.mask*3
 len:es.size=ks.length
 els:EsIn prog w B hp es ks
theorem StAt.fits {hp:Heap}{e:Nat}(P:StAt prog w B hp S ks es ep t e o):t.fits es.size=true:=by
 have h1:=P.pl
 have h2:=P.few
 have hf:t.fill≤t.mask:=by
  unfold SetTable.fill
  rw [P.dm]
  simp
  omega
 simp [SetTable.fits,h1,hf]
theorem quv {b:Addr}{Q:Bool→Ab→Prop}(hQ:Q true s):wpAny (model prog w) A (isSame (.ref b) (.ref b)) Q E s:=by
 unfold isSame
 dsimp only
 rw [if_pos (dJ b)]
 exact wpAny_pure hQ
theorem wwt {e:Nat}(P:StAt prog w B s.heap S ks es ep t e o)(hx:(KD prog w).is s.heap k a)(hk:k∉ks)(hu:A.units<cLine){Q:SetFound→Ab→Prop}(hQ:∀j,Q (.free j false) s) :
  ∀(N fuel:Nat) (stand:Option SetTable.Probe),N<fuel→N<10*SetTable.turns t.mask→(stand.getD (t.probeStart h)).dummy=none→t.slot (xh t N (stand.getD (t.probeStart h))).j=.empty→wpAny (model prog w) A (setSearchFrom S (.ref a) h true fuel stand) Q E s:=by
 intro N
 induction N using Nat.strongRecOn with
 |_ N ih =>
  intro fuel stand hf hT hp hs
  obtain ⟨fuel,rfl⟩:∃f,fuel=f+1:=⟨fuel-1,by omega⟩
  unfold setSearchFrom
  refine wpAny_bind (aT P.ho P.hd P.fits ?_)
  dsimp only
  have gw:t.gaveWay=false:=by
   unfold SetTable.gaveWay
   have h1:=P.pw
   have h2:=P.lo
   obtain ⟨e',rfl⟩:∃e',e=e'+1:=⟨e-1,by omega⟩
   rw [cQ] at h1
   simp only [bV]
   omega
  rw [gw]
  simp only [aw,bj]
  have key:∀ha:Nat→Int,∃m,t.probe ha h (stand.getD (t.probeStart h))=some m∧MetOk t (stand.getD (t.probeStart h)) N m:=λha=>qyj P.dm N _ _ hT hp hs
  split
  ·rename_i met hm
   obtain ⟨m',e1,ok⟩:=key _
   obtain rfl:m'=met:=aj (e1.symm.trans hm)
   cases ok with
   |empty j=>exact wpAny_pure (hQ j)
   |cand m i hm' hsl =>
    have pli:=Qs hsl
    have hi:i<es.size:=by
     rw [←P.pl]
     exact (bB.mp pli).1
    obtain ⟨k',hk',b,eb,_,hb⟩:=P.els es[i] (Array.getElem_mem_toList hi)
    have ei:es[i]?=some (es[i].1,.ref b):=by
     rw [aQ hi,←eb]
    have rest:wpAny (model prog w) A (do
      let some (_,y):=es[i]? | unsupported "internal:set-entry"
      let equal ←holding [y] (eqBool y (.ref a))
      let (es',_,t') ←setState S
      if true&&equal then return .there none
      let some sm0:=t'.sameMemory t.moves t.mask | unsupported "set.changed-during-lookup:is-the-new-block-at-the-old-address"
      let still ←match (if sm0 then t'.slot (xh t m (stand.getD (t.probeStart h))).j else .empty) with
       |.live i'=>match es'[i']? with
        |some (_,y')=>do pure (if ←isSame y' y then some i' else none)
        |none=>pure none
       |_=>pure none
      match still with
      |none=>rule "set.search.anew";setSearchFrom S (.ref a) h true fuel none
      |some i'=>if equal then return .there (some i') else setSearchFrom S (.ref a) h true fuel (some (xh t (m+1) (stand.getD (t.probeStart h))))) Q E s:=by
     rw [ei]
     dsimp only
     refine wpAny_bind (wpAny_holding ((KD prog w).eqBool hu hb hx ?_))
     rw [decide_eq_false (show ¬ k'=k from λz=>hk (by rw [←z];exact hk'))]
     refine wpAny_bind (aT P.ho P.hd P.fits ?_)
     have sm:t.sameMemory t.moves t.mask=some true:=by simp [SetTable.sameMemory]
     simp only [d9,aw,bj,sm,cg,hsl,ei]
     refine wpAny_bind ?_
     refine quv ?_
     simp only [cg]
     refine wpAny_bind (wpAny_pure ?_)
     refine ih (N-(m+1)) (by omega) fuel _ (by omega) (by omega) ?_ ?_
     ·show (xh t (m+1) _).dummy=none
      rw [Wc];exact hp
     ·show t.slot (xh t (N-(m+1)) (xh t (m+1) _)).j=.empty
      rw [←jt,show m+1+(N-(m+1))=N by omega]
      exact hs
    dsimp only
    cases t.led with
    |true=>exact rest
    |false =>
     simp only [fi,cg]
     refine wpAny_bind (wzz hx ?_ _ λy hy=>?_)
     ·simp only [aw,bj]
      exact rest
     ·obtain ⟨p,hp',rfl⟩:=aH.mp hy
      have hp2:p∈es.toList:=by
       have:=bG.mp hp'
       exact bG.mpr (ii this)
      obtain ⟨k2,_,b2,e2,_,h2⟩:=P.els p hp2
      exact ⟨k2,b2,e2,h2⟩
  ·rename_i hm
   obtain ⟨m',e1,_⟩:=key _
   exact (hm _ e1).elim
end
end L2
namespace L2
open PySem PySem.Spec PySem.Calls PySem.W PyProof.Rows
section
variable {prog:Ac}{w:World}{A:Around}{E:Value→Ab→Prop}{s:Ab}{S a:Addr}{es:Array (Int×Value)}{ep:Nat}{t:SetTable}{o:Obj}{k:List Key}{ks:List (List Key)}{h:Int}{B:Nat}
theorem qk9 {hp h':Heap}(hs:Heap.SameBut S hp h')(ho:hp.get? S=some o)(ex:o.ExactSet){b:Addr}(hx:(KD prog w).is hp k b):(KD prog w).is h' k b:=by
 obtain ⟨o1,items,n,e1,e2,e3,e4⟩:=hx
 refine ⟨o1,items,n,(hs.2 b λz=>?_).trans e1,e2,e3,e4⟩
 rw [z,ho] at e1
 cases e1
 rw [ex.1] at e2
 exact absurd e2 (by decide)
theorem xxs {hp h':Heap}(hs:Heap.SameBut S hp h')(ho:hp.get? S=some o)(ex:o.ExactSet)(hx:EsIn prog w B hp es ks):EsIn prog w B h' es ks:=λp hp'=>by
 obtain ⟨k',hk',b,e1,lt,e2⟩:=hx p hp'
 exact ⟨k',hk',b,e1,lt,qk9 hs ho ex e2⟩
theorem Zn {α:Type}(xs:Array α)(p:Nat)(x:α):(SetTable.insertAt xs p x).size=xs.size+1:=by
 unfold SetTable.insertAt
 rw [Array.size_append,Array.size_push,Array.size_extract,Array.size_extract]
 omega
theorem wvv {α:Type}{xs:Array α}{i j:Nat}{y:α}(h:y∈xs.extract i j):y∈xs:=by
 obtain ⟨n,hn⟩:=Array.getElem?_of_mem h
 rw [Array.getElem?_extract] at hn
 split at hn
 ·exact fA hn
 ·cases hn
theorem xw9 {α:Type}{xs:Array α}{p:Nat}{x y:α}(h:y∈(SetTable.insertAt xs p x).toList):y∈xs.toList∨y=x:=by
 unfold SetTable.insertAt at h
 have h:=bG.mp h
 rcases Array.mem_append.mp h with h|h
 ·rcases Array.mem_push.mp h with h|h
  ·exact .inl (bG.mpr (wvv h))
  ·exact .inr h
 ·exact .inl (bG.mpr (wvv h))
theorem qvw {es:Array (Int×Value)}:∀(l:List Nat),(∀k∈l,k<es.size)→(l.filterMap (es[·]?)).length=l.length
 |[],_=>rfl
 |i::l,h=>by
  have hi:=h i (.head _)
  rw [List.filterMap_cons,aQ hi]
  simp [qvw l λk hk=>h k (.tail _ hk)]
theorem Ys {hp:Heap}(ho:hp.get? S=some o)(hd:o.data=.set es ep t){es':Array (Int×Value)}{t':SetTable}:(hp.update S (Obj.putSet es' t')).get? S=some { o with data:=.set es' (ep+1) t' }:=by
 have e:=putSet_of es' t' hd
 have:=cH (Obj.putSet es' t') ho (by rw [e];rfl)
 rw [e] at this
 exact this
theorem xw6 {e:Nat}(P:StAt prog w B s.heap S ks es ep t e o)(hx:(KD prog w).is s.heap k a)(haB:a<B)(hk:k∉ks)(hu:A.units<cLine)(hn:ks.length<400){Q:Bool→Ab→Prop}
  (hQ:∀b h' tk es' ep' t' e' o',Heap.SameBut S s.heap h'→StAt prog w B h' S (k::ks) es' ep' t' e' o'→Q b { s with heap:=h',toks:=tk }):wpAny (model prog w) A (setAdd S (.ref a)) Q E s:=by
 unfold setAdd
 refine wpAny_holding (wpAny_bind ((KD prog w).pyHash hu hx ?_))
 generalize (KD prog w).hash k=h
 generalize s.toks+(KD prog w).draws k=tk
 unfold setAddHashed
 refine wpAny_holding ?_
 unfold setAddHashedIn
 refine wpAny_bind (aT (s:={ s with toks:=tk }) P.ho P.hd P.fits ?_)
 dsimp only
 have bs:byScan (.ref a) es=false:=by simp [byScan,Value.scannable]
 rw [bs]
 simp only [aw,bj]
 have hz:t.place.size≤t.mask:=by
  have:=P.few
  have:=P.pl
  omega
 obtain ⟨N,hN,hs⟩:=qvp P.pw P.dm hz h
 have h12:t.mask<4096:=by
  have h1:=P.pw
  have h2:(2:Nat) ^ e≤2 ^ 12:=bO (by decide) P.hi
  omega
 have m7:7≤t.mask:=by
  have h1:=P.pw
  have h2:(2:Nat) ^ 3≤2 ^ e:=bO (by decide) P.lo
  omega
 refine wpAny_bind ?_
 unfold setSearch
 refine wwt (s:={ s with toks:=tk }) (h:=h) P hx hk hu (λj=>?_) N 100000 none (by omega) (by unfold SetTable.turns;omega) rfl hs
 dsimp only
 refine wpAny_bind (aT (s:={ s with toks:=tk }) P.ho P.hd P.fits ?_)
 dsimp only
 have tail:∀(t1:SetTable) (es1:Array (Int×Value)),t1.mask=t.mask→t1.dummies=#[]→t1.place.size=es.size+1→es1.size=es.size+1→(∀p∈es1.toList,p∈es.toList∨p=(h,.ref a)) →
   wpAny (model prog w) A (do
    storeSet S es1 t1
    if (!false&&t1.tooFull)=true then do
     setRelay S (SetTable.grown (es.size+1))
     pure true
    else pure true) Q E { s with toks:=tk }:=λt1 es1 hm hdm hpl hes hin=>by
  have few:=P.few
  have len:=P.len
  have big:100000≤sizeLine:=by decide
  refine wpAny_bind (dw (s:={ s with toks:=tk }) P.ho P.hd ?_ (by omega))
  have g1:(s.heap.update S (Obj.putSet es1 t1)).get? S=some { o with data:=.set es1 (ep+1) t1 }:=Ys P.ho P.hd
  have sb1:Heap.SameBut S s.heap (s.heap.update S (Obj.putSet es1 t1)):=bC _ _ _
  have els1:EsIn prog w B (s.heap.update S (Obj.putSet es1 t1)) es1 (k::ks):=λp hp=>by
   rcases hin p hp with h1|rfl
   ·obtain ⟨k',hk',b,e1,lt,e2⟩:=P.els p h1
    exact ⟨k',.tail _ hk',b,e1,lt,qk9 sb1 P.ho P.ex e2⟩
   ·exact ⟨k,.head _,a,rfl,haB,qk9 sb1 P.ho P.ex hx⟩
  have fl:t1.fill=es.size+1:=by
   unfold SetTable.fill
   rw [hdm,hpl]
   rfl
  generalize hh1:s.heap.update S (Obj.putSet es1 t1)=h1 at g1 sb1 els1
  show wpAny (model prog w) A _ Q E { s with heap:=h1,toks:=tk }
  by_cases tf:t1.tooFull=true
  ·rw [tf]
   simp only [fi,gZ,cg]
   refine wpAny_bind ?_
   have fits1:t1.fits es1.size=true:=by
    have:t1.fill≤t1.mask:=by rw [fl,hm];omega
    simp [SetTable.fits,hpl,hes,this]
   have gr:SetTable.grown (es.size+1)=4*(es.size+1):=by
    unfold SetTable.grown
    rw [if_neg (by omega)]
    omega
   obtain ⟨e2,e2a,e2b,e2c,e2d⟩:=wqr (es.size+1) (by omega)
   have pos:1≤(2:Nat) ^ e2:=fW e2
   obtain ⟨t2,order,f1,f2,f3,f4,f5,f6⟩:=xxx (t:=t1) (hs:=es1.map (·.1)) (wanted:=4*(es.size+1)) (e:=e2) (by rw [e2c];omega) (by rw [Array.size_map,hes];omega)
   rw [Array.size_map] at f4 f5 f6
   rw [gr]
   unfold setRelay
   refine wpAny_bind (aT (s:={ s with heap:=h1,toks:=tk }) g1 rfl fits1 ?_)
   dsimp only
   have sl:¬ SetTable.sizeAbove (4*(es.size+1))>sizeLine:=by
    have h2:(2:Nat) ^ e2≤2 ^ 12:=bO (by decide) e2b
    omega
   rw [if_neg sl,f1]
   have ol:(order.filterMap (es1[·]?)).size=es1.size:=by
    have:=qvw (es:=es1) order.toList f6
    rw [←aJ,fj,this,aJ,f5]
   refine wpAny_bind ?_
   show wpAny (model prog w) A (do
    if (order.filterMap (es1[·]?)).size != es1.size then unsupported "internal:set-table-lost-an-element"
    pure (order.filterMap (es1[·]?),t2)) _ E _
   have ob:((order.filterMap (es1[·]?)).size != es1.size)=false:=by rw [ol];simp
   rw [ob]
   simp only [aw,bj]
   refine wpAny_pure ?_
   dsimp only
   refine dw (s:={ s with heap:=h1,toks:=tk }) g1 rfl ?_ (by rw [ol];omega)
   refine wpAny_pure ?_
   have sb2:Heap.SameBut S h1 (h1.update S (Obj.putSet (order.filterMap (es1[·]?)) t2)):=bC _ _ _
   have g2:(h1.update S (Obj.putSet (order.filterMap (es1[·]?)) t2)).get? S=some { o with data:=.set (order.filterMap (es1[·]?)) (ep+1+1) t2 }:=Ys g1 rfl
   refine hQ _ _ tk (order.filterMap (es1[·]?)) (ep+1+1) t2 e2 _ (sb1.trans sb2) ⟨g2,P.ex,rfl,f3,by rw [f4,ol],by rw [f2,e2c];omega,e2a,e2b,by rw [ol,hes,f2];omega,by rw [ol,hes,len];rfl,λp hp=>?_⟩
   have hp':=bG.mp hp
   obtain ⟨i,_,hi⟩:=Array.mem_filterMap.mp hp'
   exact xxs sb2 g1 P.ex els1 p (bG.mpr (fA hi))
  ·rw [fH] at tf
   rw [tf]
   simp only [d9,aw,bj]
   refine wpAny_pure (hQ _ h1 tk es1 (ep+1) t1 e _ sb1 ⟨g1,P.ex,rfl,hdm,by rw [hpl,hes],by rw [hm];exact P.pw,P.lo,P.hi,?_,by rw [hes,len];rfl,els1⟩)
   unfold SetTable.tooFull at tf
   have:=gF tf
   rw [fl,hm] at this
   rw [hes,hm]
   omega
 have pd:(t.put j).fst.dummies=#[]:=by
  unfold SetTable.put
  dsimp only
  rw [P.dm]
  simp [SetTable.has]
 have pp:(t.put j).fst.place.size=es.size+1:=by
  unfold SetTable.put
  dsimp only
  rw [Zn,P.pl]
 have hin:∀p∈(SetTable.insertAt es (t.put j).snd (h,Value.ref a)).toList,p∈es.toList∨p=(h,.ref a):=λp hp=>xw9 hp
 split
 ·refine wpAny_bind (wyx (s:={ s with toks:=tk }) hx λb=>?_)
  cases b with
  |true=>exact tail _ _ rfl pd pp (Zn _ _ _) hin
  |false=>exact tail _ _ rfl pd pp (Zn _ _ _) hin
 ·refine wpAny_bind (wpAny_pure ?_)
  exact tail _ _ rfl pd pp (Zn _ _ _) hin
theorem qqj {hp h':Heap}{b:Addr}(hx:(KD prog w).is hp k b)(kp:∀o,hp.get? b=some o→h'.get? b=some o):(KD prog w).is h' k b:=by
 obtain ⟨o1,items,n,e1,e⟩:=hx
 exact ⟨o1,items,n,kp _ e1,e⟩
theorem StAt.move {hp h':Heap}{e:Nat}(P:StAt prog w B hp S ks es ep t e o)(k1:∀o,hp.get? S=some o→h'.get? S=some o)(k2:∀b o,b<B→hp.get? b=some o→h'.get? b=some o):StAt prog w B h' S ks es ep t e o :=
 ⟨k1 _ P.ho,P.ex,P.hd,P.dm,P.pl,P.pw,P.lo,P.hi,P.few,P.len,λp hp'=>by
  obtain ⟨k',hk',b,e1,lt,e2⟩:=P.els p hp'
  exact ⟨k',hk',b,e1,lt,qqj e2 λo e=>k2 b o lt e⟩⟩
theorem xq4 {R:Result→Ab→Prop}{I:Addr}{fp wr:List Addr}{n:Nat}{Pv:Nat→Value→Prop}{St:Nat→Heap→Prop}(W:Walks prog w A.in1 I fp wr n Pv St)(hSf:S∉fp)(hSB:B≤S)(hwB:∀b∈wr,B≤b)(kf:Nat→List Key)(hu:A.in1.units<cLine)(hn:n<400)(dis:∀i j,i<j→j<n→kf i≠kf j) :
  ∀(m i:Nat) (s:Ab) (ks:List (List Key)) (es:Array (Int×Value)) (ep:Nat) (t:SetTable) (e:Nat) (o:Obj),i+m=n→St i s.heap→(∀j v,Pv j v→∃a,v=.ref a∧a<B∧(KD prog w).is s.heap (kf j) a)→StAt prog w B s.heap S ks es ep t e o→ks.length=i→(∀k∈ks,∃j,j<i∧k=kf j) →
   (∀h' tk ks' es' ep' t' e' o',StAt prog w B h' S ks' es' ep' t' e' o'→ks'.length=n→(∀b o,b∉S::wr→s.heap.get? b=some o→h'.get? b=some o)→R (.ok (.ret .none)) { s with heap:=h',toks:=tk }) →
   codeAny (model prog w) A (.builtin "set.update.loop" ⟨[.ref S,.ref I],[]⟩) R s:=by
 have hSw:S∉wr:=λh=>hSf (W.sub _ h)
 intro m
 induction m with
 |zero =>
  intro i s ks es ep t e o hi st hv P hl hks hR
  obtain rfl:i=n:=hi
  (refine dr F.entry_set_update_loop ?_ ;rw [dz eT _] ;show wpAny _ A.in1 (pyNext (.ref I) >>= _) _ _ s ;refine wpAny_bind (W.done s _ _ st λh' tk hk=>?_))
  exact wpAny_pure (hR h' tk ks es ep t e o (P.move (λo e=>hk S o hSw e) λb o lt e=>hk b o (λz=>absurd (hwB b z) (by omega)) e) hl λb o hb e=>hk b o (λz=>hb (.tail _ z)) e)
 |succ m ih =>
  intro i s ks es ep t e o hi st hv P hl hks hR
  have hlt:i<n:=by omega
  (refine dr F.entry_set_update_loop ?_ ;rw [dz eT _] ;show wpAny _ A.in1 (pyNext (.ref I) >>= _) _ _ s ;refine wpAny_bind (W.item i s _ _ hlt st λv h' tk hP st' hk=>?_))
  obtain ⟨a,rfl,haB,hx⟩:=hv i v hP
  have lowk:∀b o,b<B→s.heap.get? b=some o→h'.get? b=some o:=λb o lt e=>hk b o (λz=>absurd (hwB b z) (by omega)) e
  have P':=P.move (h':=h') (λo e=>hk S o hSw e) lowk
  have hx':=qqj (h':=h') hx λo e=>lowk a o haB e
  (show wpAny _ A.in1 (holding [Value.ref a] (setAdd S (.ref a)) >>= _) _ _ _ ;refine wpAny_bind (wpAny_holding ?_))
  refine xw6 (s:={ s with heap:=h',toks:=tk }) P' hx' haB (λz=>?_) hu (by omega) λbb h2 tk2 es2 ep2 t2 e2 o2 sb P2=>?_
  ·obtain ⟨j,hj,ej⟩:=hks _ z
   exact dis j i hj hlt ej.symm
  ·have lowk2:∀b o,b<B→h'.get? b=some o→h2.get? b=some o:=λb o lt e=>(sb.2 b (ar (aD lt hSB))).trans e
   refine wpAny_pure ⟨fP eT _,ih (i+1) _ (kf i::ks) es2 ep2 t2 e2 o2 (by omega) (W.frame _ _ _ st' λb hb o e=>(sb.2 b λz=>hSf (by rw [←z];exact hb)).trans e) (λj v hv'=>?_) P2 (by rw [ax,hl]) (λk hk'=>?_) λh3 tk3 ks3 es3 ep3 t3 e3 o3 P3 l3 k3=>?_⟩
   ·obtain ⟨a2,e1,l1,x1⟩:=hv j v hv'
    exact ⟨a2,e1,l1,qqj x1 λo e=>lowk2 a2 o l1 (lowk a2 o l1 e)⟩
   ·rcases ay.mp hk' with rfl|hk'
    ·exact ⟨i,by omega,rfl⟩
    ·obtain ⟨j,hj,ej⟩:=hks k hk'
     exact ⟨j,by omega,ej⟩
   ·refine hR h3 tk3 ks3 es3 ep3 t3 e3 o3 P3 l3 λb o hb e=>k3 b o hb ?_
    exact (sb.2 b λz=>hb (by rw [z];exact .head _)).trans (hk b o (λz=>hb (.tail _ z)) e)
end
end L2
namespace L2
open PySem
def Q1 (xs:Array Nat):Prop:=∀(i j x y:Nat),i<j→xs[i]?=some x→xs[j]?=some y→x<y
theorem qxu {xs:Array Nat}{j:Nat}(r:Q1 xs):∀f lo hi,hi-lo≤f→lo≤hi→hi≤xs.size→(∀(i x:Nat),i<lo→xs[i]?=some x→x<j)→(∀(i x:Nat),hi≤i→xs[i]?=some x→j≤x) →
  SetTable.below.go xs j f lo hi≤xs.size∧(∀(i x:Nat),i<SetTable.below.go xs j f lo hi→xs[i]?=some x→x<j)∧(∀(i x:Nat),SetTable.below.go xs j f lo hi≤i→xs[i]?=some x→j≤x)
 |0,lo,hi,hf,h1,h2,a,b=>by
  obtain rfl:lo=hi:=by omega
  exact ⟨h2,a,b⟩
 |f+1,lo,hi,hf,h1,h2,a,b=>by
  unfold SetTable.below.go
  by_cases c:lo<hi
  ·rw [if_pos c]
   dsimp only
   have hm:(lo+hi)/2<xs.size:=by omega
   have e:xs[(lo+hi)/2]?=some xs[(lo+hi)/2]:=aQ hm
   have eg:xs.getD ((lo+hi)/2) j=xs[(lo+hi)/2]:=by simp [Array.getD,hm]
   rw [eg]
   have mono:∀(i k x y:Nat),i≤k→xs[i]?=some x→xs[k]?=some y→x≤y:=λi k x y h ex ey=>by
    rcases aV i k with q|q
    ·exact Nat.le_of_lt (r i k x y q ex ey)
    ·obtain rfl:i=k:=by omega
     rw [ex] at ey
     cases ey
     exact Nat.le_refl _
   by_cases d:xs[(lo+hi)/2]<j
   ·rw [if_pos d]
    exact qxu r f _ _ (by omega) (by omega) h2 (λi x hi' ex=>eO (mono i _ _ _ (by omega) ex e) d) b
   ·rw [if_neg d]
    exact qxu r f _ _ (by omega) (by omega) (by omega) a (λi x hi' ex=>bo (by omega) (mono _ i _ _ hi' e ex))
  ·rw [if_neg c]
   obtain rfl:lo=hi:=by omega
   exact ⟨h2,a,b⟩
theorem yp {xs:Array Nat}(r:Q1 xs)(j:Nat):SetTable.below xs j≤xs.size∧(∀(i x:Nat),i<SetTable.below xs j→xs[i]?=some x→x<j)∧(∀(i x:Nat),SetTable.below xs j≤i→xs[i]?=some x→j≤x) :=
 qxu r _ _ _ (by omega) (aN _) (Nat.le_refl _) (λi x h=>by omega) λi x h ex=>by
  have:=(bB.mp ex).1
  omega
theorem wu0 {xs:Array Nat}(r:Q1 xs){i j:Nat}(h:xs[i]?=some j):SetTable.below xs j=i:=by
 obtain ⟨a,b,c⟩:=yp r j
 have hi:=(bB.mp h).1
 rcases Nat.lt_trichotomy (SetTable.below xs j) i with q|q|q
 ·have e:xs[SetTable.below xs j]?=some (xs[SetTable.below xs j]'(by omega)):=aQ _
  have h1:=c _ _ (Nat.le_refl _) e
  have h2:=r _ _ _ _ q e h
  omega
 ·exact q
 ·have:=b i j q h
  omega
theorem ww4 {xs:Array Nat}(r:Q1 xs){i j:Nat}(h:xs[i]?=some j):SetTable.below xs (j+1)=i+1:=by
 obtain ⟨a,b,c⟩:=yp r (j+1)
 have hi:=(bB.mp h).1
 rcases Nat.lt_trichotomy (SetTable.below xs (j+1)) (i+1) with q|q|q
 ·have:=c i j (by omega) h
  omega
 ·exact q
 ·have hi2:i+1<xs.size:=by omega
  have e:xs[i+1]?=some xs[i+1]:=aQ hi2
  have h1:=b _ _ q e
  have h2:=r _ _ _ _ (cK i) h e
  omega
theorem wqs {xs:Array Nat}(r:Q1 xs):SetTable.below xs 0=0:=by
 obtain ⟨a,b,c⟩:=yp r 0
 rcases Nat.eq_zero_or_pos (SetTable.below xs 0) with q|q
 ·exact q
 ·have e:xs[0]?=some (xs[0]'(by omega)):=aQ _
  have:=b 0 _ q e
  omega
section
variable {t:SetTable}
theorem qjh (r:Q1 t.place){i j:Nat}(h:t.place[i]?=some j):t.slot j=.live i:=by
 unfold SetTable.slot
 dsimp only
 rw [wu0 r h,h]
 simp
theorem wum {t t':SetTable}(h:t.mask=t'.mask)(p:SetTable.Probe):t.advance p=t'.advance p:=by
 unfold SetTable.advance
 rw [h]
theorem qvx {t t':SetTable}(h:t.mask=t'.mask):∀n p,xh t n p=xh t' n p
 |0,p=>rfl
 |n+1,p=>by
  show xh t n (t.advance p)=xh t' n (t'.advance p)
  rw [wum h,qvx h]
def pos (t:SetTable)(h:Int)(n:Nat):Nat:=(xh t n (t.probeStart h)).j
theorem qq7 {t t':SetTable}(h:t.mask=t'.mask)(x:Int)(n:Nat):pos t x n=pos t' x n:=by
 unfold pos
 have:t.probeStart x=t'.probeStart x:=by unfold SetTable.probeStart;rw [h]
 rw [this,qvx h]
structure Tab (bt:Bool)(t:SetTable)(hs:List Int):Prop where
 dm:t.dummies=#[]
 pl:t.place.size=hs.length
 pw:∃e,t.mask+1=2 ^ e∧3≤e∧e≤13
 few:hs.length≤t.mask
 rise:Q1 t.place
 reach:∀(i:Nat) (h:Int),hs[i]?=some h→∃N j,N≤10*(t.mask+14)∧t.place[i]?=some j∧pos t h N=j∧∀n,n<N→∃i':Nat,t.place[i']?=some (pos t h n)
 led:t.led=!bt
 plain:t.plain=true
variable {bt:Bool}{hs:List Int}{h:Int}
theorem Tab.fresh:Tab bt (.fresh 0 0 (!bt)) []:=by
 refine ⟨rfl,rfl,⟨3,rfl,Nat.le_refl _,by decide⟩,aN _,λi j x y _ ex=>?_,λi h e=>?_,rfl,rfl⟩
 ·have:(#[]:Array Nat)[i]?=some x:=ex
  simp at this
 ·simp at e
theorem Tab.fits (T:Tab bt t hs):t.fits hs.length=true:=by
 have h1:=T.pl
 have h2:=T.few
 have:t.fill≤t.mask:=by
  unfold SetTable.fill
  rw [T.dm,h1]
  simpa using h2
 simp [SetTable.fits,h1,this]
theorem Tab.big (T:Tab bt t hs):7≤t.mask∧t.mask<8192:=by
 obtain ⟨e,h1,h2,h3⟩:=T.pw
 have a:(2:Nat) ^ 3≤2 ^ e:=bO (by decide) h2
 have b:(2:Nat) ^ e≤2 ^ 13:=bO (by decide) h3
 have c:(2:Nat) ^ 13=8192:=by decide
 have d:(2:Nat) ^ 3=8:=by decide
 omega
theorem Tab.free (T:Tab bt t hs)(h:Int):∃N,N≤10*(t.mask+13)∧t.slot (pos t h N)=.empty∧∀n,n<N→∃i:Nat,t.slot (pos t h n)=.live i:=by
 obtain ⟨e,h1,_⟩:=T.pw
 obtain ⟨N0,hN,hs0⟩:=qvp h1 T.dm (by rw [T.pl];exact T.few) h
 have key:∀N0,t.slot (pos t h N0)=.empty→∃N,N≤N0∧t.slot (pos t h N)=.empty∧∀n,n<N→∃i:Nat,t.slot (pos t h n)=.live i:=by
  intro N0
  induction N0 using Nat.strongRecOn with
  |_ N0 ih =>
   intro h0
   by_cases c:∀n,n<N0→∃i:Nat,t.slot (pos t h n)=.live i
   ·exact ⟨N0,Nat.le_refl _,h0,c⟩
   ·rw [Classical.not_forall] at c
    obtain ⟨n,c⟩:=c
    rw [Classical.not_imp] at c
    obtain ⟨hn,c⟩:=c
    rcases Ws T.dm (pos t h n) with q|q
    ·obtain ⟨N,a1,a2,a3⟩:=ih n hn q
     exact ⟨N,by omega,a2,a3⟩
    ·exact absurd q c
 obtain ⟨N,a1,a2,a3⟩:=key N0 hs0
 exact ⟨N,by omega,a2,a3⟩
theorem qq3 {α:Type}(xs:Array α)(p:Nat)(x:α):(SetTable.insertAt xs p x).toList=xs.toList.take p++x::xs.toList.drop p:=by
 unfold SetTable.insertAt
 rw [bD,cU,dA,dA]
 simp only [List.extract,aO,List.singleton_append,Nat.sub_zero,List.drop_zero]
 congr 2
 exact bP (by simp)
theorem quj {α:Type}(l:List α)(p:Nat)(x:α)(hp:p≤l.length)(i:Nat):(l.take p++x::l.drop p)[i]?=if i<p then l[i]? else if i=p then some x else l[i-1]?:=by
 have lt:(l.take p).length=p:=by rw [aL];omega
 by_cases c:i<p
 ·rw [if_pos c,aK (by omega),gX c]
 ·rw [if_neg c,av (by omega),lt]
  by_cases d:i=p
  ·rw [if_pos d,d,gk]
   rfl
  ·rw [if_neg d]
   obtain ⟨k,hk⟩:∃k,i-p=k+1:=⟨i-p-1,by omega⟩
   rw [hk,ik,cM]
   congr 1
   omega
def xu {α:Type}(l:List α)(p:Nat)(x:α):List α:=l.take p++x::l.drop p
theorem j9 {α:Type}(l:List α)(p:Nat)(x:α):(xu l p x).Perm (x::l):=by
 unfold xu
 refine (List.perm_middle).trans ?_
 rw [cI]
theorem Tab.put (T:Tab bt t hs){N:Nat}(hN:N≤10*(t.mask+13))(he:t.slot (pos t h N)=.empty)(hl:∀n,n<N→∃i:Nat,t.slot (pos t h n)=.live i)(hf:hs.length+1≤t.mask) :
  Tab bt (t.put (pos t h N)).1 (xu hs (t.put (pos t h N)).2 h)∧(t.put (pos t h N)).2≤hs.length:=by
 obtain ⟨b1,b2,b3⟩:=yp T.rise (pos t h N)
 have hp:(t.put (pos t h N)).2=SetTable.below t.place (pos t h N):=rfl
 have hpl:(t.put (pos t h N)).1.place=SetTable.insertAt t.place (SetTable.below t.place (pos t h N)) (pos t h N):=rfl
 rw [hp]
 generalize hb:SetTable.below t.place (pos t h N)=p at b1 b2 b3 hpl
 have b1':p≤hs.length:=by rw [←T.pl];exact b1
 have noj:∀i:Nat,t.place[i]?≠some (pos t h N):=λi e=>by
  rw [qjh T.rise e] at he
  cases he
 have get:∀i:Nat,(SetTable.insertAt t.place p (pos t h N))[i]?=if i<p then t.place[i]? else if i=p then some (pos t h N) else t.place[i-1]?:=λi=>by
  rw [←aC,qq3,quj _ _ _ (by rw [aJ];exact b1)]
  simp only [aC]
 have up:∀i j:Nat,t.place[i]?=some j→∃i':Nat,(SetTable.insertAt t.place p (pos t h N))[i']?=some j:=λi j e=>by
  by_cases c:i<p
  ·exact ⟨i,by rw [get,if_pos c];exact e⟩
  ·exact ⟨i+1,by rw [get,if_neg (by omega),if_neg (by omega),gG];exact e⟩
 refine ⟨⟨?_,?_,T.pw,?_,?_,?_,T.led,T.plain⟩,b1'⟩
 ·show (if SetTable.has t.dummies (pos t h N) then _ else t.dummies)=#[]
  rw [T.dm]
  simp [SetTable.has]
 ·rw [hpl,←aJ,qq3]
  show (xu t.place.toList p (pos t h N)).length=_
  rw [(j9 t.place.toList p _).length_eq,(j9 hs p h).length_eq]
  simp [T.pl]
 ·rw [(j9 hs p h).length_eq]
  exact hf
 ·intro i j x y hij ex ey
  rw [hpl,get] at ex ey
  by_cases c1:i<p
  ·rw [if_pos c1] at ex
   have h1:=b2 i x c1 ex
   by_cases c2:j<p
   ·rw [if_pos c2] at ey
    exact T.rise i j x y hij ex ey
   ·rw [if_neg c2] at ey
    by_cases c3:j=p
    ·rw [if_pos c3] at ey
     cases ey
     exact h1
    ·rw [if_neg c3] at ey
     have:=b3 _ y (by omega) ey
     omega
  ·rw [if_neg c1] at ex
   rw [if_neg (by omega),if_neg (by omega)] at ey
   by_cases c3:i=p
   ·rw [if_pos c3] at ex
    cases ex
    have h2:=b3 _ y (by omega) ey
    rcases aV (pos t h N) y with q|q
    ·exact q
    ·have:y=pos t h N:=by omega
     rw [this] at ey
     exact absurd ey (noj _)
   ·rw [if_neg c3] at ex
    exact T.rise (i-1) (j-1) x y (by omega) ex ey
 ·intro i h' eh
  have pm:∀x n,pos (t.put (pos t h N)).1 x n=pos t x n:=λx n=>qq7 (t:=(t.put (pos t h N)).1) (t':=t) rfl x n
  unfold xu at eh
  rw [quj _ _ _ b1'] at eh
  have old:∀i0,hs[i0]?=some h'→(SetTable.insertAt t.place p (pos t h N))[i]?=t.place[i0]?→∃N1 j,N1≤10*((t.put (pos t h N)).1.mask+14)∧(t.put (pos t h N)).1.place[i]?=some j∧pos (t.put (pos t h N)).1 h' N1=j∧∀n,n<N1→∃i':Nat,(t.put (pos t h N)).1.place[i']?=some (pos (t.put (pos t h N)).1 h' n):=λi0 e0 e1=>by
   obtain ⟨N1,j,r1,r2,r3,r4⟩:=T.reach i0 h' e0
   refine ⟨N1,j,r1,by rw [hpl,e1];exact r2,by rw [pm];exact r3,λn hn=>?_⟩
   obtain ⟨i',e'⟩:=r4 n hn
   rw [pm,hpl]
   exact up i' _ e'
  by_cases c1:i<p
  ·rw [if_pos c1] at eh
   exact old i eh (by rw [get,if_pos c1])
  ·rw [if_neg c1] at eh
   by_cases c2:i=p
   ·rw [if_pos c2] at eh
    cases eh
    refine ⟨N,pos t h N,bo hN (by show _≤10*(t.mask+14);omega),by rw [hpl,get,if_neg c1,if_pos c2],pm _ _,λn hn=>?_⟩
    obtain ⟨i',e'⟩:=hl n hn
    rw [pm,hpl]
    exact up i' _ (Qs e')
   ·rw [if_neg c2] at eh
    exact old (i-1) eh (by rw [get,if_neg c1,if_neg c2])
end
end L2
namespace L2
open PySem
theorem wy3 (t:SetTable)(q:Nat×Nat):∀k r j,k≤r→xh t k { j:=j,more:=r,i:=q.1,perturb:=q.2,dummy:=none }={ j:=j+k,more:=r-k,i:=q.1,perturb:=q.2,dummy:=none }
 |0,r,j,_=>rfl
 |k+1,r,j,h=>by
  show xh t k (t.advance _)=_
  have e:t.advance { j:=j,more:=r,i:=q.1,perturb:=q.2,dummy:=none }={ j:=j+1,more:=r-1,i:=q.1,perturb:=q.2,dummy:=none }:=by
   unfold SetTable.advance
   rw [if_pos (by show r>0;omega)]
  rw [e,wy3 t q k (r-1) (j+1) (by omega)]
  congr 1 <;> omega
theorem xq9 (t:SetTable)(q:Nat×Nat){k:Nat}(h:q.1+k≤SetTable.runEnd t.mask q.1):(xh t k (rs t.mask q)).j=q.1+k:=by
 unfold rs
 rw [wy3 t q k _ _ (by omega)]
theorem wjm (mask i:Nat):i≤SetTable.runEnd mask i∧SetTable.runEnd mask i≤i+9∧(i≤mask→SetTable.runEnd mask i≤mask):=by
 unfold SetTable.runEnd
 split <;> omega
theorem xwm (mask i p:Nat):(SetTable.leap mask i p).1≤mask:=by
 unfold SetTable.leap
 exact Nat.le_of_lt_succ (Nat.mod_lt _ (Nat.succ_pos _))
theorem wxp {t:SetTable}{owner:Array (Option Nat)}:∀n fuel i p,n<fuel→i≤t.mask→owner.getD (lp t.mask n (i,p)).1 (some 0)=none →
  ∃j N,SetTable.layClean.free t.mask owner fuel i p=some j∧owner.getD j (some 0)=none∧N≤10*n+9∧(xh t N (rs t.mask (i,p))).j=j∧∀k,k<N→(xh t k (rs t.mask (i,p))).j≤t.mask∧owner.getD (xh t k (rs t.mask (i,p))).j (some 0)≠none
 |n,0,i,p,hf,_,_=>absurd hf (dk _)
 |n,fuel+1,i,p,hf,hi,hn=>by
  obtain ⟨r1,r2,r3⟩:=wjm t.mask i
  have r3:=r3 hi
  unfold SetTable.layClean.free
  cases q:(List.range (SetTable.runEnd t.mask i+1-i)).find? λk=>(owner.getD (i+k) (some 0)).isNone with
  |some k =>
   have hk:=am.mp (List.mem_of_find?_eq_some q)
   have hs:owner.getD (i+k) (some 0)=none:=by
    have:=List.find?_some q
    exact gK.mp this
   refine ⟨i+k,k,rfl,hs,by omega,xq9 t (i,p) (by show i+k≤SetTable.runEnd t.mask i;omega),λk' hk'=>?_⟩
   rw [xq9 t (i,p) (by show i+k'≤SetTable.runEnd t.mask i;omega)]
   refine ⟨by show i+k'≤_;omega,λz=>?_⟩
   have fs:=List.find?_eq_some_iff_append.mp q
   obtain ⟨_,as,bs,e,hall⟩:=fs
   have hl:as.length=k:=by
    have h1:(List.range (SetTable.runEnd t.mask i+1-i))[as.length]?=some k:=by rw [e];simp
    have h2:=(ag.mp h1).1
    rw [bf (by simpa using h2)] at h1
    exact aj h1
   have hm:k'∈as:=by
    have h1:(List.range (SetTable.runEnd t.mask i+1-i))[k']?=some k':=bf (by omega)
    rw [e,aK (by omega)] at h1
    exact aA h1
   have:=hall k' hm
   rw [show (i,p).1+k'=i+k' from rfl] at z
   rw [z] at this
   exact absurd this (by simp)
  |none =>
   have all:=List.find?_eq_none.mp q
   have occ:∀k,i+k≤SetTable.runEnd t.mask i→owner.getD (i+k) (some 0)≠none:=λk hk z=>by
    have:=all k (am.mpr (by omega))
    rw [z] at this
    exact this rfl
   cases n with
   |zero=>exact absurd hn (by have:=occ 0 (by omega);rw [Nat.add_zero] at this;exact this)
   |succ n =>
    obtain ⟨j,N,a1,a2,a3,a4,a5⟩:=wxp (t:=t) (owner:=owner) n fuel (SetTable.leap t.mask i p).1 (SetTable.leap t.mask i p).2 (by omega) (xwm _ _ _) hn
    have st:xh t (SetTable.runEnd t.mask i-i+1) (rs t.mask (i,p))=rs t.mask (SetTable.leap t.mask i p):=qwj t (i,p) _ _
    refine ⟨j,SetTable.runEnd t.mask i-i+1+N,a1,a2,by omega,by rw [jt,st];exact a4,λk hk=>?_⟩
    by_cases c:k<SetTable.runEnd t.mask i-i+1
    ·rw [xq9 t (i,p) (by show i+k≤SetTable.runEnd t.mask i;omega)]
     exact ⟨by show i+k≤_;omega,occ k (by omega)⟩
    ·rw [show k=SetTable.runEnd t.mask i-i+1+(k-(SetTable.runEnd t.mask i-i+1)) by omega,jt,st]
     exact a5 _ (by omega)
structure Own (t:SetTable)(hs:List Int)(owner:Array (Option Nat))(k:Nat):Prop where
 size:owner.size=t.mask+1
 low:∀j v:Nat,owner[j]?=some (some v)→v<k
 sur:∀v,v<k→∃j:Nat,owner[j]?=some (some v)
 inj:∀j j' v:Nat,owner[j]?=some (some v)→owner[j']?=some (some v)→j=j'
 way:∀(j v:Nat) (h:Int),owner[j]?=some (some v)→hs[v]?=some h→∃N,N≤10*(t.mask+14)∧pos t h N=j∧∀n,n<N→∃v',owner[pos t h n]?=some (some v')
section
variable {t:SetTable}{hs:List Int}{owner:Array (Option Nat)}{k:Nat}
theorem got {j:Nat}(h:owner.getD j (some 0)=none):owner[j]?=some none:=by
 rw [aE] at h
 cases q:owner[j]? with
 |none=>rw [q] at h;cases h
 |some v=>rw [q] at h;exact bX some h
theorem taken {j:Nat}(h:owner.getD j (some 0)≠none)(hj:j<owner.size):∃v,owner[j]?=some (some v):=by
 rw [aE,aQ hj] at h
 rw [aQ hj]
 cases q:owner[j] with
 |none=>rw [q] at h;exact absurd rfl h
 |some v=>exact ⟨v,rfl⟩
theorem Own.free (o:Own t hs owner k)(hk:k≤t.mask):∃j,j≤t.mask∧owner.getD j (some 0)=none:=by
 apply di
 intro c
 have all:∀j,j<t.mask+1→∃v,v<k∧owner[j]?=some (some v):=λj hj=>by
  obtain ⟨v,e⟩:=taken (owner:=owner) (j:=j) (λz=>c ⟨j,by omega,z⟩) (by rw [o.size];exact hj)
  exact ⟨v,o.low j v e,e⟩
 have:=qxp ((List.range (t.mask+1)).map λj=>((owner.getD j none).getD 0)) (List.range k) ?_ ?_
 ·rw [List.length_map,List.length_range,List.length_range] at this
  omega
 ·refine bu.mpr (aY (λ{a b} ha hb hab=>?_) h9)
  obtain ⟨v,_,e⟩:=all a (am.mp ha)
  obtain ⟨v',_,e'⟩:=all b (am.mp hb)
  rw [aE,aE,e,e']
  intro z
  have z':v=v':=z
  subst z'
  exact hab (o.inj a b v e e')
 ·intro x hx
  obtain ⟨j,hj,rfl⟩:=aH.mp hx
  obtain ⟨v,hv,e⟩:=all j (am.mp hj)
  rw [aE,e]
  exact am.mpr hv
theorem Own.new (t:SetTable)(hs:List Int):Own t hs (Array.replicate (t.mask+1) none) 0:=by
 have no:∀j v:Nat,(Array.replicate (t.mask+1) (none:Option Nat))[j]?=some (some v)→False:=λj v e=>by
  rw [eJ] at e
  split at e <;> cases e
 exact ⟨Array.size_replicate,λj v e=>(no j v e).elim,λv hv=>absurd hv (dk _),λj j' v e=>(no j v e).elim,λj v h e=>(no j v e).elim⟩
theorem Own.set {h:Int}{j N:Nat}(o:Own t hs owner k)(hh:hs[k]?=some h)(hj:owner.getD j (some 0)=none)(hN:N≤10*(t.mask+14))(hp:pos t h N=j)(hw:∀n,n<N→pos t h n≤t.mask∧owner.getD (pos t h n) (some 0)≠none):Own t hs (owner.setIfInBounds j (some k)) (k+1):=by
 have ej:=got hj
 have hjs:=(bB.mp ej).1
 have at':∀i:Nat,(owner.setIfInBounds j (some k))[i]?=if i=j then some (some k) else owner[i]?:=λi=>by
  by_cases c:i=j
  ·rw [if_pos c,c,cN hjs]
  ·rw [if_neg c,dF (λz=>c z.symm)]
 have up:∀i v:Nat,owner[i]?=some (some v)→(owner.setIfInBounds j (some k))[i]?=some (some v):=λi v e=>by
  rw [at',if_neg (λz=>by rw [z,ej] at e;cases e)]
  exact e
 refine ⟨by rw [eI];exact o.size,λi v e=>?_,λv hv=>?_,λi i' v e e'=>?_,λi v h' e eh=>?_⟩
 ·rw [at'] at e
  by_cases c:i=j
  ·rw [if_pos c] at e;cases e;omega
  ·rw [if_neg c] at e
   have:=o.low i v e
   omega
 ·by_cases c:v=k
  ·exact ⟨j,by rw [at',if_pos rfl,c]⟩
  ·obtain ⟨i,e⟩:=o.sur v (by omega)
   exact ⟨i,up i v e⟩
 ·rw [at'] at e e'
  by_cases c:i=j
  ·by_cases c':i'=j
   ·rw [c,c']
   ·rw [if_pos c] at e
    rw [if_neg c'] at e'
    cases e
    have:=o.low i' k e'
    omega
  ·rw [if_neg c] at e
   by_cases c':i'=j
   ·rw [if_pos c'] at e'
    cases e'
    have:=o.low i k e
    omega
   ·rw [if_neg c'] at e'
    exact o.inj i i' v e e'
 ·rw [at'] at e
  by_cases c:i=j
  ·rw [if_pos c] at e
   cases e
   rw [hh] at eh
   cases eh
   refine ⟨N,hN,by rw [hp,c],λn hn=>?_⟩
   obtain ⟨h1,h2⟩:=hw n hn
   obtain ⟨v',e'⟩:=taken h2 (by rw [o.size];omega)
   exact ⟨v',up _ _ e'⟩
  ·rw [if_neg c] at e
   obtain ⟨N1,a1,a2,a3⟩:=o.way i v h' e eh
   refine ⟨N1,a1,a2,λn hn=>?_⟩
   obtain ⟨v',e'⟩:=a3 n hn
   exact ⟨v',up _ _ e'⟩
theorem Own.fold {e:Nat}(hM:t.mask+1=2 ^ e):∀(l:List Int) (owner:Array (Option Nat)) (k:Nat),Own t hs owner k→hs.drop k=l→hs.length≤t.mask→∃owner',l.foldl (λacc h=>do
   let (owner,k) ←acc
   let j ←SetTable.layClean.free t.mask owner (SetTable.turns t.mask) (SetTable.bits h%(t.mask+1)) (SetTable.bits h)
   pure (owner.setIfInBounds j (some k),k+1)) (some (owner,k))=some (owner',k+l.length)∧Own t hs owner' (k+l.length)
 |[],owner,k,o,_,_=>⟨owner,rfl,o⟩
 |h::l,owner,k,o,hd,hz=>by
  have hk:hs[k]?=some h:=by
   have:(hs.drop k)[0]?=some h:=by rw [hd];rfl
   rw [cM] at this
   exact this
  have hkl:=(ag.mp hk).1
  have hd':hs.drop (k+1)=l:=by
   rw [eD hkl] at hd
   exact (g8 hd).2
  obtain ⟨j0,hj0,en⟩:=o.free (by omega)
  obtain ⟨n,hn,e1⟩:=qq9 hM (q:=(SetTable.bits h%(t.mask+1),SetTable.bits h)) (Nat.le_of_lt_succ (Nat.mod_lt _ (Nat.succ_pos _))) (qk2 h) hj0
  obtain ⟨j,N,e2,e3,e4,e5,e6⟩:=wxp (t:=t) (owner:=owner) n (SetTable.turns t.mask) (SetTable.bits h%(t.mask+1)) (SetTable.bits h) (by unfold SetTable.turns;omega) (Nat.le_of_lt_succ (Nat.mod_lt _ (Nat.succ_pos _))) (by rw [e1];exact en)
  obtain ⟨owner',f1,f2⟩:=Own.fold hM l (owner.setIfInBounds j (some k)) (k+1) (o.set hk e3 (by omega) e5 e6) hd' hz
  refine ⟨owner',?_,by rw [ax,show k+(l.length+1)=k+1+l.length by omega];exact f2⟩
  rw [iB,ax,show k+(l.length+1)=k+1+l.length by omega,←f1]
  congr 1
  simp [e2]
theorem qxx:∀ {l m:List Nat},l.Nodup→m.Nodup→(∀a,a∈l↔a∈m)→l.Perm m
 |[],m,_,_,h=>by
  cases m with
  |nil=>exact .refl _
  |cons a m=>exact absurd ((h a).mpr (.head _)) (by simp)
 |a::l,m,hl,hm,h=>by
  have ha:a∈m:=(h a).mp (.head _)
  have hl':=cE.mp hl
  refine (List.Perm.cons a (qxx hl'.2 (hm.erase a) λb=>?_)).trans (List.perm_cons_erase ha).symm
  rw [hm.mem_erase_iff]
  constructor
  ·intro hb
   exact ⟨λz=>by subst z;exact hl'.1 hb,(h b).mp (.tail _ hb)⟩
  ·rintro ⟨h1,h2⟩
   rcases ay.mp ((h b).mpr h2) with z|z
   ·exact absurd z h1
   ·exact z
end
theorem Jg:∀n,n<1100→∃e,3≤e∧e≤13∧SetTable.sizeAbove (4*n)=2 ^ e∧4*n<SetTable.sizeAbove (4*n):=by
 have:∀n,n<1100→(List.range 14).any (λe=>decide (3≤e)&&(SetTable.sizeAbove (4*n)==2 ^ e)&&decide (4*n<SetTable.sizeAbove (4*n)))=true:=by decide +kernel
 intro n hn
 obtain ⟨e,he,h⟩:=dI.mp (this n hn)
 simp only [bi,eZ,d8] at h
 exact ⟨e,h.1.1,by have:=am.mp he;omega,h.1.2,h.2⟩
theorem Tab.relay {bt:Bool}{t:SetTable}{hs:List Int}(T:Tab bt t hs)(hn:hs.length<1100):∃t2 order,t.relaid hs.toArray (4*hs.length)=some (t2,order)∧order.toList.Perm (List.range hs.length)∧Tab bt t2 (order.toList.map λi=>hs.getD i 0)∧hs.length*4≤t2.mask:=by
 obtain ⟨e,e1,e2,e3,e4⟩:=Jg hs.length hn
 have pos1:1≤(2:Nat) ^ e:=fW e
 obtain ⟨owner,f1,o⟩:=Own.fold (t:={ t with mask:=SetTable.sizeAbove (4*hs.length)-1 }) (hs:=hs) (e:=e) (by show SetTable.sizeAbove (4*hs.length)-1+1=_;omega) hs _ 0 (Own.new _ hs) rfl (by show hs.length≤SetTable.sizeAbove (4*hs.length)-1;omega)
 rw [b8] at f1 o
 have lc:SetTable.layClean (SetTable.sizeAbove (4*hs.length)-1) hs.toArray=some owner:=by
  unfold SetTable.layClean
  rw [←Array.foldl_toList]
  rw [show hs.toArray.toList=hs from rfl]
  rw [f1]
  rfl
 generalize hmask:SetTable.sizeAbove (4*hs.length)-1=mask at lc o f1
 have hmk:mask+1=2 ^ e:=by omega
 have hm4:hs.length*4≤mask:=by omega
 let live:List (Nat×Nat):=(List.range (mask+1)).filterMap λj=>(owner.getD j none).map (j,·)
 have mem:∀j v,(j,v)∈live↔owner[j]?=some (some v):=λj v=>by
  show (j,v)∈(List.range (mask+1)).filterMap _↔_
  rw [dP]
  constructor
  ·rintro ⟨j',_,e'⟩
   cases q:owner.getD j' none with
   |none=>rw [q] at e';cases e'
   |some v' =>
    rw [q] at e'
    cases e'
    rw [aE] at q
    cases q2:owner[j]? with
    |none=>rw [q2] at q;cases q
    |some y=>rw [q2] at q;exact bX some q
  ·intro e'
   have hj:=(bB.mp e').1
   rw [o.size] at hj
   exact ⟨j,am.mpr hj,by rw [aE,e'];rfl⟩
 have pw:live.Pairwise λa b=>a.1<b.1:=by
  refine List.pairwise_filterMap.mpr (fk.imp λ{a b} hab x hx y hy=>?_)
  have hx1:x.1=a:=by
   cases q:owner.getD a none with
   |none=>rw [q] at hx;cases hx
   |some v=>rw [q] at hx;cases hx;rfl
  have hy1:y.1=b:=by
   cases q:owner.getD b none with
   |none=>rw [q] at hy;cases hy
   |some v=>rw [q] at hy;cases hy;rfl
  rw [hx1,hy1]
  exact hab
 have perm:(live.map (·.2)).Perm (List.range hs.length):=by
  refine qxx (bu.mpr (aY (λ{a b} ha hb hab z=>?_) pw)) h9 λv=>?_
  ·have:=o.inj a.1 b.1 a.2 ((mem _ _).mp ha) (by rw [z];exact (mem _ _).mp hb)
   omega
  ·rw [am,aH]
   constructor
   ·rintro ⟨a,ha,rfl⟩
    exact o.low _ _ ((mem _ _).mp ha)
   ·intro hv
    obtain ⟨j,ej⟩:=o.sur v hv
    exact ⟨(j,v),(mem _ _).mpr ej,rfl⟩
 have len:live.length=hs.length:=by
  have:=perm.length_eq
  rwa [List.length_map,List.length_range] at this
 refine ⟨{ mask:=mask,place:=(live.map (·.1)).toArray,dummies:=#[],finger:=t.finger,led:=t.led,moves:=t.movedTo mask,plain:=t.plain },(live.map (·.2)).toArray,?_,perm,?_,hm4⟩
 ·unfold SetTable.relaid SetTable.laid
  rw [hmask,lc]
  rfl
 ·refine ⟨rfl,?_,⟨e,hmk,e1,e2⟩,?_,?_,?_,T.led,T.plain⟩
  ·show (live.map (·.1)).toArray.size=((live.map (·.2)).toArray.toList.map _).length
   simp
  ·show ((live.map (·.2)).toArray.toList.map _).length≤mask
   rw [List.length_map,show (live.map (·.2)).toArray.toList=live.map (·.2) from rfl,List.length_map,len]
   omega
  ·intro i j x y hij ex ey
   have ex':(live.map (·.1))[i]?=some x:=by simpa using ex
   have ey':(live.map (·.1))[j]?=some y:=by simpa using ey
   obtain ⟨hi,rfl⟩:=ag.mp ex'
   obtain ⟨hj,rfl⟩:=ag.mp ey'
   rw [fI,fI]
   exact bg.mp pw i j _ _ hij
  ·intro i h eh
   have eh':((live.map (·.2)).map λi=>hs.getD i 0)[i]?=some h:=eh
   rw [ao,ao] at eh'
   cases q:live[i]? with
   |none=>rw [q] at eh';cases eh'
   |some jv =>
    rw [q] at eh'
    obtain ⟨j,v⟩:=jv
    have ov:=(mem j v).mp (aA q)
    have hv:=o.low j v ov
    have ehv:hs[v]?=some h:=by
     have:hs.getD v 0=h:=aj eh'
     rw [ae,aa hv] at this
     rw [aa hv]
     exact bX some this
    obtain ⟨N,a1,a2,a3⟩:=o.way j v h ov ehv
    refine ⟨N,j,a1,?_,?_,λn hn=>?_⟩
    ·show (live.map (·.1)).toArray[i]?=some j
     simp [q]
    ·have pm:pos { mask:=mask,place:=(live.map (·.1)).toArray,dummies:=#[],finger:=t.finger,led:=t.led,moves:=t.movedTo mask,plain:=t.plain } h N=pos { t with mask:=mask } h N:=qq7 (by rfl) h N
     exact pm.trans a2
    ·obtain ⟨v',e'⟩:=a3 n hn
     obtain ⟨i',hi'⟩:=bH ((mem _ _).mpr e')
     refine ⟨i',?_⟩
     show (live.map (·.1)).toArray[i']?=_
     have pm:pos { mask:=mask,place:=(live.map (·.1)).toArray,dummies:=#[],finger:=t.finger,led:=t.led,moves:=t.movedTo mask,plain:=t.plain } h n=pos { t with mask:=mask } h n:=qq7 (by rfl) h n
     have e9:(live.map (·.1)).toArray[i']?=some (pos { t with mask:=mask } h n):=by simp [hi']
     rw [e9,←pm]
end L2
namespace L2
open PySem PySem.Spec PySem.Calls PySem.W PyProof.Rows
def byT (w:World):Bool:=w.params.followText "set-order"
def SAt (w:World)(hp:Heap)(S:Addr)(ps:List (Int×Value)):Prop:=∃o ep t,hp.get? S=some o∧o.ExactSet∧o.data=.set ps.toArray ep t∧Tab (byT w) t (ps.map (·.1))∧ps.length*5<t.mask*3
section
variable {prog:Ac}{w:World}{A:Around}{E:Value→Ab→Prop}{s:Ab}{S a:Addr}{ps:List (Int×Value)}{ep:Nat}{t:SetTable}{o:Obj}{k:List Key}{h:Int}
theorem SAt.typeIs (P:SAt w s.heap S ps):s.TypeIs (.ref S) "set" := let ⟨o,_,_,ho,hc,_⟩:=P;⟨o,ho,hc.1⟩
theorem SAt.at_ {hp h':Heap}(P:SAt w hp S ps)(k1:∀o,hp.get? S=some o→h'.get? S=some o):SAt w h' S ps:=let ⟨o,ep,t,ho,r⟩:=P;⟨o,ep,t,k1 o ho,r⟩
theorem Tab.fits' {bt:Bool}(T:Tab bt t (ps.map (·.1))):t.fits ps.toArray.size=true:=by
 have:=T.fits
 simpa using this
theorem wzx (l:List (Int×Value))(p:Nat)(x:Int×Value):(xu l p x).map (·.1)=xu (l.map (·.1)) p x.1:=by
 unfold xu
 simp
theorem wx6 (l:List (Int×Value))(p:Nat)(x:Int×Value):SetTable.insertAt l.toArray p x=(xu l p x).toArray:=by
 apply dL.mp
 rw [qq3]
 rfl
theorem Wh (l:List (Int×Value)):∀(il:List Nat),(∀i∈il,i<l.length)→il.filterMap (λi=>l.toArray[i]?)=il.map λi=>l.getD i (0,.none)
 |[],_=>rfl
 |i::il,hi=>by
  have h1:=hi i (.head _)
  have e:l.toArray[i]?=some (l.getD i (0,.none)):=by simp [h1]
  rw [List.filterMap_cons,e,Wh l il λj hj=>hi j (.tail _ hj)]
  rfl
theorem lay_in {Q:Bool→Ab→Prop}{N:Nat}{x:Value}(ho:s.heap.get? S=some o)(hex:o.ExactSet)(hd:o.data=.set ps.toArray ep t)(T:Tab (byT w) t (ps.map (·.1)))(few:ps.length*5<t.mask*3)(hn:ps.length<1099)
  (hN:N≤10*(t.mask+13)) (he:t.slot (pos t h N)=.empty) (hl:∀n,n<N→∃i:Nat,t.slot (pos t h n)=.live i)
  (hQ:∀h' ps',Heap.SameBut S s.heap h'→SAt w h' S ps'→ps'.Perm ((h,x)::ps)→Q true { s with heap:=h' }) :
  wpAny (model prog w) A (do
   storeSet S (SetTable.insertAt ps.toArray (t.put (pos t h N)).2 (h,x)) (t.put (pos t h N)).1
   if (!false&&(t.put (pos t h N)).1.tooFull)=true then do
    setRelay S (SetTable.grown (ps.toArray.size+1))
    pure true
   else pure true) Q E s:=by
 have big:100000≤sizeLine:=by decide
 have lm:ps.length=(ps.map (·.1)).length:=by simp
 have bm:=T.big
 obtain ⟨T1,hp1⟩:=T.put hN he hl (by rw [←lm];omega)
 have hm:(t.put (pos t h N)).1.mask=t.mask:=rfl
 generalize (t.put (pos t h N)).2=p at T1 hp1 ⊢
 generalize ht1:(t.put (pos t h N)).1=t1 at T1 hm ⊢
 rw [wx6]
 have pm:=j9 ps p (h,x)
 have pl:=pm.length_eq
 rw [ax] at pl
 rw [←wzx ps p (h,x)] at T1
 refine wpAny_bind (dw ho hd ?_ (by rw [ah];omega))
 have g1:(s.heap.update S (Obj.putSet (xu ps p (h,x)).toArray t1)).get? S=some { o with data:=.set (xu ps p (h,x)).toArray (ep+1) t1 }:=Ys ho hd
 have sb1:Heap.SameBut S s.heap (s.heap.update S (Obj.putSet (xu ps p (h,x)).toArray t1)):=bC _ _ _
 have fl:t1.fill=ps.length+1:=by
  unfold SetTable.fill
  rw [T1.dm,T1.pl,List.length_map,pl]
  rfl
 generalize s.heap.update S (Obj.putSet (xu ps p (h,x)).toArray t1)=h1 at g1 sb1 ⊢
 show wpAny (model prog w) A _ Q E { s with heap:=h1 }
 by_cases tf:t1.tooFull=true
 ·rw [tf]
  simp only [fi,gZ,cg]
  refine wpAny_bind ?_
  have gr:SetTable.grown (ps.toArray.size+1)=4*((xu ps p (h,x)).map (·.1)).length:=by
   unfold SetTable.grown
   rw [if_neg (by rw [ah];omega),List.length_map,pl,ah]
   omega
  obtain ⟨t2,order,f1,f2,T2,f4⟩:=T1.relay (by rw [List.length_map,pl];omega)
  rw [gr]
  unfold setRelay
  refine wpAny_bind (aT (s:={ s with heap:=h1 }) g1 rfl T1.fits' ?_)
  dsimp only
  have hsz:(xu ps p (h,x)).toArray.map (·.1)=((xu ps p (h,x)).map (·.1)).toArray:=by simp
  have sl:¬ SetTable.sizeAbove (4*((xu ps p (h,x)).map (·.1)).length)>sizeLine:=by
   obtain ⟨e,e1,e2,e3,e4⟩:=Jg ((xu ps p (h,x)).map (·.1)).length (by rw [List.length_map,pl];omega)
   have b:(2:Nat) ^ e≤2 ^ 13:=bO (by decide) e2
   have c:(2:Nat) ^ 13=8192:=by decide
   omega
  rw [if_neg sl,hsz,f1]
  have hin:∀i∈order.toList,i<(xu ps p (h,x)).length:=λi hi=>by
   have:=am.mp (f2.mem_iff.mp hi)
   rwa [List.length_map] at this
  have oe:order.filterMap (λi=>(xu ps p (h,x)).toArray[i]?)=(order.toList.map λi=>(xu ps p (h,x)).getD i (0,.none)).toArray:=by
   apply dL.mp
   rw [fj,Wh _ _ hin]
  have ol:(order.toList.map λi=>(xu ps p (h,x)).getD i (0,.none)).length=(xu ps p (h,x)).length:=by
   rw [List.length_map,f2.length_eq,List.length_range,List.length_map]
  have op:(order.toList.map λi=>(xu ps p (h,x)).getD i (0,.none)).Perm (xu ps p (h,x)):=by
   refine (f2.map _).trans ?_
   rw [List.length_map]
   have:(List.range (xu ps p (h,x)).length).map (λi=>(xu ps p (h,x)).getD i (0,.none))=xu ps p (h,x):=by
    refine bv λi=>?_
    rw [ao]
    by_cases c:i<(xu ps p (h,x)).length
    ·rw [bf c]
     simp [ae,c]
    ·rw [az (by simp;omega),az (by omega)]
     rfl
   rw [this]
  have om:(order.toList.map λi=>(xu ps p (h,x)).getD i (0,.none)).map (·.1)=order.toList.map λi=>((xu ps p (h,x)).map (·.1)).getD i 0:=by
   rw [bz]
   refine dH λi hi=>?_
   have:=hin i hi
   simp [ae,this]
  rw [←om] at T2
  refine wpAny_bind ?_
  show wpAny (model prog w) A (do
   if (order.filterMap (λi=>(xu ps p (h,x)).toArray[i]?)).size != (xu ps p (h,x)).toArray.size then unsupported "internal:set-table-lost-an-element"
   pure (order.filterMap (λi=>(xu ps p (h,x)).toArray[i]?),t2)) _ E _
  rw [oe]
  have ob:((order.toList.map λi=>(xu ps p (h,x)).getD i (0,.none)).toArray.size != (xu ps p (h,x)).toArray.size)=false:=by
   rw [ah,ah,ol]
   simp
  rw [ob]
  simp only [aw,bj]
  refine wpAny_pure ?_
  dsimp only
  generalize (order.toList.map λi=>(xu ps p (h,x)).getD i (0,.none))=ps2 at T2 op ol
  refine dw (s:={ s with heap:=h1 }) g1 rfl ?_ (by rw [ah,ol];omega)
  refine wpAny_pure ?_
  have sb2:Heap.SameBut S h1 (h1.update S (Obj.putSet ps2.toArray t2)):=bC _ _ _
  have g2:(h1.update S (Obj.putSet ps2.toArray t2)).get? S=some { o with data:=.set ps2.toArray (ep+1+1) t2 }:=Ys g1 rfl
  refine hQ _ ps2 (sb1.trans sb2) ⟨_,_,t2,g2,hex,rfl,T2,?_⟩ (op.trans pm)
  rw [List.length_map] at f4
  omega
 ·rw [fH] at tf
  rw [tf]
  simp only [d9,aw,bj]
  refine wpAny_pure (hQ h1 _ sb1 ⟨_,_,t1,g1,hex,rfl,T1,?_⟩ pm)
  unfold SetTable.tooFull at tf
  have:=gF tf
  rw [fl] at this
  omega
def KP (prog:Ac)(w:World)(hp:Heap)(ps:List (Int×Value))(ks:List (List Key)):Prop:=Paired (λp k=>∃b,p=((KD prog w).hash k,.ref b)∧(KD prog w).is hp k b) ps ks
theorem KP.get {hp:Heap}{ks:List (List Key)}(K:KP prog w hp ps ks){i:Nat}{p:Int×Value}(e:ps[i]?=some p):∃k' b,ks[i]?=some k'∧p=((KD prog w).hash k',.ref b)∧(KD prog w).is hp k' b:=by
 unfold KP at K
 induction K generalizing i with
 |nil=>simp at e
 |cons r t ih =>
  cases i with
  |zero =>
   obtain ⟨b,e1,e2⟩:=r
   simp at e
   subst e
   exact ⟨_,b,rfl,e1,e2⟩
  |succ i=>exact ih (by simpa using e)
theorem KP.len {hp:Heap}{ks:List (List Key)}(K:KP prog w hp ps ks):ps.length=ks.length:=cr K
inductive MetP (t:SetTable) (ha:Nat→Int) (h:Int) (p:SetTable.Probe) (N:Nat):SetTable.Met→Prop
 |empty (hs:t.slot (xh t N p).j=.empty):MetP t ha h p N (.empty (xh t N p).j none)
 |cand (m i:Nat) (hm:m≤N) (hs:t.slot (xh t m p).j=.live i) (hh:ha i=h):MetP t ha h p N (.candidate (xh t m p).j i (xh t (m+1) p))
theorem Yj {ha:Nat→Int}:∀N fuel p,N<fuel→p.dummy=none→(∀n,n<N→∃i:Nat,t.slot (xh t n p).j=.live i)→(t.slot (xh t N p).j=.empty∨∃i:Nat,t.slot (xh t N p).j=.live i∧ha i=h)→∃m,SetTable.probe.go t ha h fuel p=some m∧MetP t ha h p N m
 |N,0,p,hf,_,_,_=>absurd hf (dk _)
 |0,fuel+1,p,_,hp,_,hs=>by
  unfold SetTable.probe.go
  rcases hs with hs|⟨i,hs,hh⟩
  ·have hs':t.slot p.j=.empty:=hs
   rw [hs',hp]
   exact ⟨_,rfl,.empty (p:=p) hs⟩
  ·have hs':t.slot p.j=.live i:=hs
   rw [hs']
   dsimp only
   rw [if_pos (d8.mpr hh)]
   exact ⟨_,rfl,.cand (p:=p) 0 i (Nat.le_refl _) hs hh⟩
 |N+1,fuel+1,p,hf,hp,hl,hs=>by
  unfold SetTable.probe.go
  obtain ⟨i,c⟩:=hl 0 (Nat.succ_pos _)
  have c':t.slot p.j=.live i:=c
  rw [c']
  dsimp only
  by_cases q:(ha i==h)=true
  ·rw [if_pos q]
   exact ⟨_,rfl,.cand (t:=t) (p:=p) 0 i (aN _) c (d8.mp q)⟩
  ·rw [if_neg q]
   obtain ⟨m,e,ok⟩:=Yj (ha:=ha) N fuel (t.advance p) (by omega) ((Yc t p).trans hp) (λn hn=>hl (n+1) (by omega)) hs
   refine ⟨m,e,?_⟩
   cases ok with
   |empty hs=>exact .empty (p:=p) hs
   |cand m i hm hs hh=>exact .cand (t:=t) (p:=p) (m+1) i (by omega) hs hh
theorem qur {ks:List (List Key)}(ho:s.heap.get? S=some o)(hd:o.data=.set ps.toArray ep t)(T:Tab (byT w) t (ps.map (·.1)))(K:KP prog w s.heap ps ks)(hx:(KD prog w).is s.heap k a)(hu:A.units<cLine){Q:SetFound→Ab→Prop}
  (hQ1:k∈ks→Q (.there none) s):∀(N fuel:Nat) (stand:Option SetTable.Probe),N<fuel→N<10*SetTable.turns t.mask→(stand.getD (t.probeStart ((KD prog w).hash k))).dummy=none →
   (∀n,n<N→∃i:Nat,t.slot (xh t n (stand.getD (t.probeStart ((KD prog w).hash k)))).j=.live i) →
   (t.slot (xh t N (stand.getD (t.probeStart ((KD prog w).hash k)))).j=.empty∨∃i:Nat,t.slot (xh t N (stand.getD (t.probeStart ((KD prog w).hash k)))).j=.live i∧ks[i]?=some k) →
   (t.slot (xh t N (stand.getD (t.probeStart ((KD prog w).hash k)))).j=.empty→Q (.free (xh t N (stand.getD (t.probeStart ((KD prog w).hash k)))).j false) s) →
   wpAny (model prog w) A (setSearchFrom S (.ref a) ((KD prog w).hash k) true fuel stand) Q E s:=by
 intro N
 induction N using Nat.strongRecOn with
 |_ N ih =>
  intro fuel stand hf hT hp hl hs hQ2
  obtain ⟨fuel,rfl⟩:∃f,fuel=f+1:=⟨fuel-1,by omega⟩
  unfold setSearchFrom
  refine wpAny_bind (aT ho hd T.fits' ?_)
  dsimp only
  have gw:t.gaveWay=false:=by
   unfold SetTable.gaveWay
   obtain ⟨e,h1,h2,_⟩:=T.pw
   obtain ⟨e',rfl⟩:∃e',e=e'+1:=⟨e-1,by omega⟩
   rw [cQ] at h1
   simp only [bV]
   omega
  rw [gw]
  simp only [aw,bj]
  have hashAt:∀(i:Nat) (k':List Key),ks[i]?=some k'→∀(p:Int×Value),ps[i]?=some p→p.1=(KD prog w).hash k':=λi k' ek p e=>by
   obtain ⟨k2,b,e1,e2,_⟩:=K.get e
   rw [ek] at e1
   cases e1
   rw [e2]
  have inP:∀ {j i:Nat},t.slot j=.live i→i<ps.length:=λ{j i} e=>by
   have:=(bB.mp (Qs e)).1
   rw [T.pl,List.length_map] at this
   exact this
  have key:∀ha:Nat→Int,(∀(i:Nat) (p:Int×Value),ps[i]?=some p→ha i=p.1)→∃m,t.probe ha ((KD prog w).hash k) (stand.getD (t.probeStart ((KD prog w).hash k)))=some m∧MetP t ha ((KD prog w).hash k) (stand.getD (t.probeStart ((KD prog w).hash k))) N m:=λha hha=>by
   refine Yj N _ _ hT hp hl ?_
   rcases hs with hs|⟨i,hs,ek⟩
   ·exact .inl hs
   ·have hi:=inP hs
    have e:=aa hi
    exact .inr ⟨i,hs,(hha i _ e).trans (hashAt i k ek _ e)⟩
  split
  ·rename_i met hm
   obtain ⟨m',e1,ok⟩:=key _ (λi p e=>by
    show (ps.toArray[i]?.map (·.1)).getD 0=p.1
    have:ps.toArray[i]?=some p:=by simpa using e
    rw [this]
    rfl)
   obtain rfl:m'=met:=aj (e1.symm.trans hm)
   cases ok with
   |empty hs'=>exact wpAny_pure (hQ2 hs')
   |cand m i hm' hsl hh =>
    have hi:=inP hsl
    obtain ⟨k',b,ek,eb,hb⟩:=K.get (aa hi)
    have ei:ps.toArray[i]?=some ((KD prog w).hash k',.ref b):=by
     rw [←eb]
     simp [hi]
    have rest:wpAny (model prog w) A (do
      let some (_,y):=ps.toArray[i]? | unsupported "internal:set-entry"
      let equal ←holding [y] (eqBool y (.ref a))
      let (es',_,t') ←setState S
      if true&&equal then return .there none
      let some sm0:=t'.sameMemory t.moves t.mask | unsupported "set.changed-during-lookup:is-the-new-block-at-the-old-address"
      let still ←match (if sm0 then t'.slot (xh t m (stand.getD (t.probeStart ((KD prog w).hash k)))).j else .empty) with
       |.live i'=>match es'[i']? with
        |some (_,y')=>do pure (if ←isSame y' y then some i' else none)
        |none=>pure none
       |_=>pure none
      match still with
      |none=>rule "set.search.anew";setSearchFrom S (.ref a) ((KD prog w).hash k) true fuel none
      |some i'=>if equal then return .there (some i') else setSearchFrom S (.ref a) ((KD prog w).hash k) true fuel (some (xh t (m+1) (stand.getD (t.probeStart ((KD prog w).hash k)))))) Q E s:=by
     rw [ei]
     dsimp only
     refine wpAny_bind (wpAny_holding ((KD prog w).eqBool hu hb hx ?_))
     refine wpAny_bind (aT ho hd T.fits' ?_)
     by_cases ce:k'=k
     ·rw [decide_eq_true ce]
      simp only [gZ,cg]
      exact wpAny_pure (hQ1 (by rw [←ce];exact aA ek))
     ·rw [decide_eq_false ce]
      have sm:t.sameMemory t.moves t.mask=some true:=by simp [SetTable.sameMemory]
      simp only [d9,aw,bj,sm,cg,hsl,ei]
      refine wpAny_bind ?_
      refine quv ?_
      simp only [cg]
      refine wpAny_bind (wpAny_pure ?_)
      have mN:m<N:=by
       rcases aV m N with z|z
       ·exact z
       ·obtain rfl:m=N:=by omega
        rcases hs with hs|⟨i0,hs,ek0⟩
        ·rw [hs] at hsl;cases hsl
        ·rw [hs] at hsl
         cases hsl
         rw [ek0] at ek
         cases ek
         exact absurd rfl ce
      have sh:∀n,xh t n (xh t (m+1) (stand.getD (t.probeStart ((KD prog w).hash k))))=xh t (m+1+n) (stand.getD (t.probeStart ((KD prog w).hash k))):=λn=>(jt t n (m+1) _).symm
      refine ih (N-(m+1)) (by omega) fuel (some (xh t (m+1) (stand.getD (t.probeStart ((KD prog w).hash k))))) (by omega) (by omega) ?_ (λn hn=>?_) ?_ ?_
      ·show (xh t (m+1) _).dummy=none
       rw [Wc];exact hp
      ·show ∃i:Nat,t.slot (xh t n (xh t (m+1) _)).j=.live i
       rw [sh]
       exact hl _ (by omega)
      ·show t.slot (xh t (N-(m+1)) (xh t (m+1) _)).j=.empty∨∃i:Nat,t.slot (xh t (N-(m+1)) (xh t (m+1) _)).j=.live i∧_
       rw [sh,show m+1+(N-(m+1))=N by omega]
       exact hs
      ·show t.slot (xh t (N-(m+1)) (xh t (m+1) _)).j=.empty→Q (.free (xh t (N-(m+1)) (xh t (m+1) _)).j false) s
       rw [sh,show m+1+(N-(m+1))=N by omega]
       exact hQ2
    dsimp only
    cases t.led with
    |true=>exact rest
    |false =>
     simp only [fi,cg]
     refine wpAny_bind (wzz hx ?_ _ λy hy=>?_)
     ·simp only [aw,bj]
      exact rest
     ·obtain ⟨p,hp',rfl⟩:=aH.mp hy
      have hp2:p∈ps:=by
       have:=bG.mp hp'
       simpa using ii this
      obtain ⟨i2,e2⟩:=bH hp2
      obtain ⟨k2,b2,_,e3,h2⟩:=K.get e2
      exact ⟨k2,b2,by rw [e3],h2⟩
  ·rename_i hm
   obtain ⟨m',e1,_⟩:=key _ (λi p e=>by
    show (ps.toArray[i]?.map (·.1)).getD 0=p.1
    have:ps.toArray[i]?=some p:=by simpa using e
    rw [this]
    rfl)
   exact (hm _ e1).elim
theorem wkc {Q:Bool→Ab→Prop}{n:Nat}{items:List Value}{m:Nat}(hx:(KD prog w).is s.heap k a)(ho:s.heap.get? a=some o)(hd:o.data=.seq items.toArray m)(hi:∀v∈items,∃i t,v=Value.int i t)(hQ:Q true s):wpAny (model prog w) A (hashByValue (n+1) (.ref a)) Q E s:=by
 have hT:s.TypeIs (.ref a) "tuple" := gR hx
 unfold hashByValue
 refine wpAny_bind (iD hT ig.lookup ?_)
 dsimp only
 refine wpAny_bind (bR ho hd ?_)
 refine wpAny_bind ?_
 show wpAny _ _ (forIn items.toArray _ _) _ _ s
 rw [←dQ]
 refine fG _ (λrest r s'=>r.1=none∧s'=s∧∀v∈rest,∃i t,v=Value.int i t) _ ?_ ?_ _ _ ⟨rfl,rfl,by simpa using hi⟩
 ·rintro v rest r s' ⟨hr,rfl,hall⟩
  obtain ⟨i,t,rfl⟩:=hall v List.mem_cons_self
  have eb:hashByValue n (.int i t)=pure true:=by cases n <;> rfl
  rw [eb]
  refine wpAny_bind (wpAny_pure ?_)
  exact wpAny_pure ⟨rfl,rfl,λu hu=>hall u (List.mem_cons_of_mem _ hu)⟩
 ·rintro ⟨r1,r2⟩ s' ⟨hr,rfl,_⟩
  simp only at hr
  subst hr
  exact wpAny_pure hQ
theorem xqz {ks:List (List Key)}{items:List Value}{m:Nat}{oa:Obj}{Q:Bool→Ab→Prop}(P:SAt w s.heap S ps)(K:KP prog w s.heap ps ks)(hx:(KD prog w).is s.heap k a)(hoa:s.heap.get? a=some oa)(hda:oa.data=.seq items.toArray m)(hi:∀v∈items,∃i t,v=Value.int i t)
  (hu:A.units<cLine) (hn:ps.length<1099) (hQ1:k∈ks→∀tk,Q false { s with toks:=tk }) (hQ2:k∉ks→∀h' tk ps',Heap.SameBut S s.heap h'→SAt w h' S ps'→ps'.Perm (((KD prog w).hash k,.ref a)::ps)→Q true { s with heap:=h',toks:=tk }) :
  wpAny (model prog w) A (setAdd S (.ref a)) Q E s:=by
 obtain ⟨o,ep,t,ho,hex,hd,T,few⟩:=P
 have bm:=T.big
 unfold setAdd
 refine wpAny_holding (wpAny_bind ((KD prog w).pyHash hu hx ?_))
 generalize s.toks+(KD prog w).draws k=tk
 unfold setAddHashed
 refine wpAny_holding ?_
 unfold setAddHashedIn
 refine wpAny_bind (aT (s:={ s with toks:=tk }) ho hd T.fits' ?_)
 dsimp only
 have bs:byScan (.ref a) ps.toArray=false:=by simp [byScan,Value.scannable]
 rw [bs]
 simp only [aw,bj]
 refine wpAny_bind ?_
 unfold setSearch
 by_cases ck:k∈ks
 ·obtain ⟨i,ei⟩:=bH ck
  have hi2:i<ps.length:=by rw [K.len];exact (ag.mp ei).1
  obtain ⟨k',b,e1,e2,_⟩:=K.get (aa hi2)
  rw [ei] at e1
  cases e1
  obtain ⟨N,j,r1,r2,r3,r4⟩:=T.reach i ((KD prog w).hash k) (by rw [ao,aa hi2,e2];rfl)
  have sj:=qjh T.rise r2
  refine qur (s:={ s with toks:=tk }) ho hd T K hx hu (λ_=>?_) N 100000 none (by omega) (by unfold SetTable.turns;omega) rfl (λn hn=>?_) (.inr ⟨i,?_,ei⟩) λz=>?_
  ·exact wpAny_pure (hQ1 ck tk)
  ·obtain ⟨i',e'⟩:=r4 n hn
   exact ⟨i',qjh T.rise e'⟩
  ·show t.slot (pos t ((KD prog w).hash k) N)=_
   rw [r3]
   exact sj
  ·have z':t.slot (pos t ((KD prog w).hash k) N)=.empty:=z
   rw [r3,sj] at z'
   cases z'
 ·obtain ⟨N,r1,r2,r3⟩:=T.free ((KD prog w).hash k)
  refine qur (s:={ s with toks:=tk }) ho hd T K hx hu (λz=>absurd z ck) N 100000 none (by omega) (by unfold SetTable.turns;omega) rfl (λn hn=>r3 n hn) (.inl r2) λ_=>?_
  dsimp only
  refine wpAny_bind (aT (s:={ s with toks:=tk }) ho hd T.fits' ?_)
  dsimp only
  have pt:(t.put (pos t ((KD prog w).hash k) N)).1.plain=true:=T.plain
  show wpAny (model prog w) A (do
   let byValue ←if (t.put (pos t ((KD prog w).hash k) N)).1.plain=true then hashByValue 8 (.ref a) else pure true
   _) Q E { s with toks:=tk }
  rw [if_pos pt]
  refine wpAny_bind (wkc (s:={ s with toks:=tk }) hx hoa hda hi ?_)
  exact lay_in (s:={ s with toks:=tk }) (w:=w) ho hex hd T few hn r1 r2 r3 λh' ps' sb P' pm=>hQ2 ck h' tk ps' sb P' pm
end
end L2
namespace L2
open PySem PySem.Spec PySem.Calls PySem.W PyProof.Rows
theorem slot_setit_next:Slot "set_iterator" "__next__" "set_iterator.__next__" := .of (owner := "set_iterator") (n := "__next__") (by rw [typeLookup_type,builtinLookup_eq_fast];kernel_rfl) (by decide +kernel) (by decide +kernel) (by decide +kernel) (by first | exact .inl (by decide +kernel) | exact .inr (by decide +kernel)) (by rw [isSubtype_type];kernel_rfl)
theorem ux:Slot "set_iterator" "__iter__" "set_iterator.__iter__" := .of (owner := "set_iterator") (n := "__iter__") (by rw [typeLookup_type,builtinLookup_eq_fast];kernel_rfl) (by decide +kernel) (by decide +kernel) (by decide +kernel) (by first | exact .inl (by decide +kernel) | exact .inr (by decide +kernel)) (by rw [isSubtype_type];kernel_rfl)
theorem yx:entryFor table "set_iterator.__next__" = some Builtin.«set_iterator.__next__»:=entryFor_of_tree (by kernel_rfl)
theorem Z7:entryFor table "set_iterator.__iter__" = some Builtin.«dict_keyiterator.__iter__»:=entryFor_alias (id' := "dict_keyiterator.__iter__") (by kernel_rfl) rfl (by decide +kernel) (by kernel_rfl)
theorem qws:entryFor table "set.__iter__" = some Builtin.«frozenset.__iter__»:=entryFor_alias (id' := "frozenset.__iter__") (by kernel_rfl) rfl (by decide +kernel) (by kernel_rfl)
theorem Jc:Manifest.owners.lookup (String.ofList ['r','o','t','a','r','e','t','i','_','t','e','s'].reverse)=some Manifest.sig_set_iterator:=by kernel_rfl
theorem uq (a:Value):argsOk "set_iterator.__next__" ⟨[a],[]⟩:=by (unfold argsOk;rw [signature?_of (id := "set_iterator.__next__") (n:=['_','_','t','x','e','n','_','_']) (o:=['r','o','t','a','r','e','t','i','_','t','e','s']) (by kernel_rfl) Jc];kernel_rfl)
theorem Jt (a:Value):argsOk "set_iterator.__iter__" ⟨[a],[]⟩:=by (unfold argsOk;rw [signature?_of (id := "set_iterator.__iter__") (n:=['_','_','r','e','t','i','_','_']) (o:=['r','o','t','a','r','e','t','i','_','t','e','s']) (by kernel_rfl) Jc];kernel_rfl)
theorem wz7 {α:Type}(nx:Nat→Nat):∀(f k:Nat) (left:List α) (out:Array α),left.length=f→(pickOrder.go nx f k left out).toList.Perm (out.toList++left)
 |0,k,left,out,h=>by
  have:left=[]:=dN h
  subst this
  unfold pickOrder.go
  simp
 |f+1,k,left,out,h=>by
  have hi:nx k%left.length<left.length:=Nat.mod_lt _ (by omega)
  unfold pickOrder.go
  rw [aa hi]
  dsimp only
  refine (wz7 nx f (k+1) (left.eraseIdx (nx k%left.length)) _ (by rw [List.length_eraseIdx,if_pos hi];omega)).trans ?_
  rw [cU,aO]
  refine cJ _ ?_
  rw [List.singleton_append]
  rw [List.eraseIdx_eq_take_drop_succ]
  refine List.perm_middle.symm.trans ?_
  rw [←eD hi,cI]
def wk (w:World)(S:Addr)(ep:Nat)(ps:List (Int×Value)):List (Int×Value):=if byT w=true then (pickOrder (w.params.setOrder S ep) ps.toArray).toList else ps
theorem qq0 (w:World)(S:Addr)(ep:Nat)(ps:List (Int×Value)):(wk w S ep ps).Perm ps:=by
 unfold wk
 split
 ·unfold pickOrder
  exact (wz7 _ _ _ _ _ (by simp)).trans (by simp)
 ·exact .refl _
def SRaw (h:Heap)(S:Addr)(ps:List (Int×Value))(ep:Nat)(t:SetTable):Prop:=∃o,h.get? S=some o∧o.ExactSet∧o.data=.set ps.toArray ep t
def SIt (h:Heap)(it S:Addr)(slot i n ep:Nat):Prop:=∃o,h.get? it=some o∧o.cls=.type "set_iterator" ∧ o.data=.fields #[.int slot 0,.int i 0,.ref S,.int n 0,.int ep 0]
theorem SRaw.at {h h':Heap}{S:Addr}{ps:List (Int×Value)}{ep:Nat}{t:SetTable}(x:SRaw h S ps ep t)(k:∀o,h.get? S=some o→h'.get? S=some o):SRaw h' S ps ep t:=let ⟨o,e,r⟩:=x;⟨o,k o e,r⟩
theorem SIt.at {h h':Heap}{it S:Addr}{slot i n ep:Nat}(x:SIt h it S slot i n ep)(k:∀o,h.get? it=some o→h'.get? it=some o):SIt h' it S slot i n ep:=let ⟨o,e,r⟩:=x;⟨o,k o e,r⟩
section
variable {prog:Ac}{w:World}{A:Around}{E:Value→Ab→Prop}{s:Ab}{S it:Addr}{ps:List (Int×Value)}{ep:Nat}{t:SetTable}
theorem SIt.ty {slot i n:Nat}(x:SIt s.heap it S slot i n ep):s.TypeIs (.ref it) "set_iterator" := let ⟨o,e,r⟩:=x;⟨o,e,r.1⟩
theorem SRaw.ty (x:SRaw s.heap S ps ep t):s.TypeIs (.ref S) "set" := let ⟨o,e,r⟩:=x;⟨o,e,r.1.1⟩
theorem Yt {Q:Bool→Ab→Prop}(h:Q (byT w) s):wpAny (model prog w) A setsByText Q E s:=by
 unfold setsByText
 exact wpAny_bind (wpAny_askSetting (wpAny_pure h))
theorem wjh {slot i:Nat}{Q:Option (Value×Nat)→Ab→Prop}(R:SRaw s.heap S ps ep t)(T:Tab (byT w) t (ps.map (·.1)))(hs:byT w=false→SetTable.below t.place slot=i){p:Int×Value}(hp:(wk w S ep ps)[i]?=some p)
  (hQ:∀nx:Nat,(byT w=false→SetTable.below t.place nx=i+1)→Q (some (p.2,nx)) s):wpAny (model prog w) A (setNext S slot i ep) Q E s:=by
 obtain ⟨o,ho,hex,hd⟩:=R
 unfold setNext
 refine wpAny_bind (aT ho hd T.fits' ?_)
 dsimp only
 refine wpAny_bind (Yt ?_)
 cases hb:byT w with
 |true =>
  rw [hb] at hs hQ
  simp only [cg,d7,aw,bj]
  refine wpAny_bind ?_
  unfold setWalk
  refine wpAny_bind (aT ho hd T.fits' ?_)
  dsimp only
  refine wpAny_bind (Yt ?_)
  rw [hb]
  simp only [cg]
  refine wpAny_bind (wpAny_askSetting (wpAny_pure ?_))
  unfold wk at hp
  rw [if_pos hb,aC] at hp
  show wpAny _ _ (pure (((pickOrder (w.params.setOrder S ep) ps.toArray)[i]?).map _)) _ _ _
  rw [hp]
  exact wpAny_pure (hQ slot λz=>by cases z)
 |false =>
  rw [hb] at hs hQ
  simp only [aw,bj]
  refine eM (λhab=>absurd hab ?_) (λ_=>?_)
  ·show ¬ ((!t.plain&&decide (ps.toArray.size>1))=true)
   rw [T.plain]
   simp
  ·refine wpAny_bind ?_
   show wpAny _ _ (if (!t.led&&!ps.toArray.isEmpty)=true then _ else _) _ _ s
   have hled:t.led=true:=by rw [T.led,hb];rfl
   rw [hled]
   simp only [fO,iK,aw,bj]
   refine wpAny_pure ?_
   unfold wk at hp
   rw [if_neg (by rw [hb];exact au)] at hp
   have hi:=(ag.mp hp).1
   have e1:ps.toArray[i]?=some (p.1,p.2):=by simpa using hp
   have hpl:i<t.place.size:=by rw [T.pl,List.length_map];exact hi
   have e2:t.place[i]?=some t.place[i]:=aQ hpl
   rw [hs rfl,e1,e2]
   exact wpAny_pure (hQ _ λ_=>ww4 T.rise e2)
theorem xqw {slot i:Nat}{Q:Option (Value×Nat)→Ab→Prop}(R:SRaw s.heap S ps ep t)(T:Tab (byT w) t (ps.map (·.1)))(hs:byT w=false→SetTable.below t.place slot=i)(hp:ps.length≤i)
  (hQ:Q none s):wpAny (model prog w) A (setNext S slot i ep) Q E s:=by
 obtain ⟨o,ho,hex,hd⟩:=R
 unfold setNext
 refine wpAny_bind (aT ho hd T.fits' ?_)
 dsimp only
 refine wpAny_bind (Yt ?_)
 cases hb:byT w with
 |true =>
  simp only [cg,d7,aw,bj]
  refine wpAny_bind ?_
  unfold setWalk
  refine wpAny_bind (aT ho hd T.fits' ?_)
  dsimp only
  refine wpAny_bind (Yt ?_)
  rw [hb]
  simp only [cg]
  refine wpAny_bind (wpAny_askSetting (wpAny_pure ?_))
  have hl:=(qq0 w S ep ps).length_eq
  unfold wk at hl
  rw [if_pos hb,aJ] at hl
  show wpAny _ _ (pure (((pickOrder (w.params.setOrder S ep) ps.toArray)[i]?).map _)) _ _ _
  rw [b9 (by rw [hl];exact hp)]
  exact wpAny_pure hQ
 |false =>
  rw [hb] at hs
  simp only [aw,bj]
  refine eM (λhab=>absurd hab ?_) (λ_=>?_)
  ·show ¬ ((!t.plain&&decide (ps.toArray.size>1))=true)
   rw [T.plain]
   simp
  ·refine wpAny_bind ?_
   show wpAny _ _ (if (!t.led&&!ps.toArray.isEmpty)=true then _ else _) _ _ s
   have hled:t.led=true:=by rw [T.led,hb];rfl
   rw [hled]
   simp only [fO,iK,aw,bj]
   refine wpAny_pure ?_
   have e1:ps.toArray[i]?=none:=b9 (by rw [ah];exact hp)
   rw [hs rfl,e1]
   exact wpAny_pure hQ
theorem wq8 {slot i:Nat}{p:Int×Value}{Q:Option Value→Ab→Prop}(hit:SIt s.heap it S slot i ps.length ep)(R:SRaw s.heap S ps ep t)(T:Tab (byT w) t (ps.map (·.1)))(hs:byT w=false→SetTable.below t.place slot=i)(hp:(wk w S ep ps)[i]?=some p)
  (hQ:∀h' nx,SIt h' it S nx (i+1) ps.length ep→(byT w=false→SetTable.below t.place nx=i+1)→Heap.SameBut it s.heap h'→Q (some p.2) { s with heap:=h' }):wpAny (model prog w) A (pyNext (.ref it)) Q E s:=by
 obtain ⟨o,ho,hc,hd⟩:=id hit
 obtain ⟨oS,hoS,hexS,hdS⟩:=id R
 unfold pyNext
 refine wpAny_bind (wpAny_attempt (wpAny_callSpecial?_slot (name:=Str.ofString "__next__") hit.ty slot_setit_next (wpAny_call_entry slot_setit_next hit.ty yx ?_ (uq _))))
 unfold Builtin.«set_iterator.__next__»
 refine wpAny_bind (wpAny_pure ?_)
 refine wpAny_bind (wpAny_fieldsOf ho hd ?_)
 dsimp only
 refine wpAny_bind ?_
 unfold setEntries
 refine wpAny_bind (aT hoS hdS T.fits' (wpAny_pure ?_))
 dsimp only
 rw [if_neg (by rw [ah];simp)]
 rw [bA,bA,bA]
 refine wpAny_bind (wjh R T hs hp λnx hnx=>?_)
 dsimp only
 refine wpAny_bind (fm ho hd (by simp) ?_)
 have g1:=cH (Obj.mapFields (·.setIfInBounds 0 (rawInt (nx:Int)))) ho (fE (da hd _))
 have d1:=da hd (·.setIfInBounds 0 (rawInt (nx:Int)))
 have sb1:Heap.SameBut it s.heap (s.heap.update it (Obj.mapFields (·.setIfInBounds 0 (rawInt (nx:Int))))):=bC ..
 generalize s.heap.update it (Obj.mapFields (·.setIfInBounds 0 (rawInt (nx:Int))))=h1 at g1 sb1 ⊢
 refine wpAny_bind (fm (s:={ s with heap:=h1 }) g1 d1 (by simp) ?_)
 have g2:=cH (Obj.mapFields (·.setIfInBounds 1 (rawInt ((i:Int)+1)))) g1 (fE (da d1 _))
 have d2:=da d1 (·.setIfInBounds 1 (rawInt ((i:Int)+1)))
 have sb2:Heap.SameBut it h1 (h1.update it (Obj.mapFields (·.setIfInBounds 1 (rawInt ((i:Int)+1))))):=bC ..
 refine wpAny_pure ⟨_,rfl,wpAny_pure (hQ _ nx ⟨_,g2,((gS ..).trans (gS ..)).trans hc,by rw [d2];simp [rawInt]⟩ hnx (sb1.trans sb2))⟩
theorem wvt {slot i:Nat}{Q:Option Value→Ab→Prop}(hh:A.handled=none)(hit:SIt s.heap it S slot i ps.length ep)(R:SRaw s.heap S ps ep t)(T:Tab (byT w) t (ps.map (·.1)))(hs:byT w=false→SetTable.below t.place slot=i)(hp:ps.length≤i)
  (hQ:∀h',Heap.ExtBut it s.heap h'→Q none { s with heap:=h' }):wpAny (model prog w) A (pyNext (.ref it)) Q E s:=by
 obtain ⟨o,ho,hc,hd⟩:=id hit
 obtain ⟨oS,hoS,hexS,hdS⟩:=id R
 unfold pyNext
 refine wpAny_bind (wpAny_attempt (wpAny_callSpecial?_slot (name:=Str.ofString "__next__") hit.ty slot_setit_next (wpAny_call_entry slot_setit_next hit.ty yx ?_ (uq _))))
 unfold Builtin.«set_iterator.__next__»
 refine wpAny_bind (wpAny_pure ?_)
 refine wpAny_bind (wpAny_fieldsOf ho hd ?_)
 dsimp only
 refine wpAny_bind ?_
 unfold setEntries
 refine wpAny_bind (aT hoS hdS T.fits' (wpAny_pure ?_))
 dsimp only
 rw [if_neg (by rw [ah];simp)]
 rw [bA,bA,bA]
 refine wpAny_bind (xqw R T hs hp ?_)
 dsimp only
 refine wpAny_bind (fm ho hd (by simp) ?_)
 refine wpAny_bind ?_
 simp only [newExc,newTuple]
 (refine wpAny_bind (bp ?_ (by size_fits)) ;refine wpAny_bind (m:=firstArgMember _ _) (wpAny_of_eq (a:=Value.none) (by first | rfl | (simp only [firstArgMember];rfl)) ?_) ;refine bp ?_ (by size_fits) ;simp only [raiseNew] ;refine wpAny_bind (wpAny_handled ?_) ;rw [show A.in1.handled=none from hh] ;refine wpAny_bind (wpAny_pure (wpAny_throw ?_)))
 refine wpAny_bind (im (T := "StopIteration") (b:=true) ⟨_,ak _ rfl,rfl⟩ isSubtype_stop (wpAny_pure (hQ _ (((bC ..).extBut.push _).push _))))
theorem wxu {slot i:Nat}{Q:Value→Ab→Prop}(hit:SIt s.heap it S slot i ps.length ep)(h:Q (.ref it) s):wpAny (model prog w) A (pyIter (.ref it)) Q E s:=by
 refine wpAny_pyIter_slot hit.ty ux (wpAny_call_entry ux hit.ty Z7 ?_ (Jt _))
 show wpAny _ _ (ret (.ref it)) _ _ s
 exact wpAny_pure ⟨_,rfl,"set_iterator",_,hit.ty,slot_setit_next.lookup,h⟩
theorem xwx {Q:Value→Ab→Prop}(R:SRaw s.heap S ps ep t)(T:Tab (byT w) t (ps.map (·.1)))
  (hQ:Q (.ref s.heap.objs.size) { s with heap:=s.heap.push { cls:=.type "set_iterator",data:=.fields #[.int 0 0,.int 0 0,.ref S,.int ps.length 0,.int ep 0] } }):wpAny (model prog w) A (pyIter (.ref S)) Q E s:=by
 obtain ⟨oS,hoS,hexS,hdS⟩:=id R
 refine wpAny_pyIter_slot R.ty F.slot_set_iter (wpAny_call_entry F.slot_set_iter R.ty qws ?_ (F.args_set_iter_1 _))
 unfold Builtin.«frozenset.__iter__»
 refine wpAny_bind ?_
 unfold Builtin.Frozenset.slot0
 refine wpAny_bind (wpAny_pure ?_)
 show wpAny _ _ (pure S) _ _ s
 refine wpAny_pure ?_
 refine wpAny_bind ?_
 unfold Builtin.Frozenset.sizeOf setEntries
 refine wpAny_bind (wpAny_bind (aT hoS hdS T.fits' (wpAny_pure (wpAny_pure ?_))))
 dsimp only
 refine wpAny_bind ?_
 unfold setDrawn
 refine wpAny_bind (aT hoS hdS T.fits' ?_)
 dsimp only
 refine wpAny_bind (Yt (wpAny_pure ?_))
 have hdr:∀b:Bool,(b&&(!t.plain&&decide (ps.toArray.size>1)))=false:=λb=>by rw [T.plain];simp
 refine eM (λhab=>?_) (λ_=>?_)
 ·have:(!byT w&&(!t.plain&&decide (ps.toArray.size>1)))=true:=hab
  rw [hdr] at this
  cases this
 ·refine wpAny_bind (wpAny_pure ?_)
  refine wpAny_bind (wpAny_setEpoch_of hoS hdS T.fits' ?_)
  refine wpAny_bind (bp (wpAny_pure ⟨_,rfl,"set_iterator",_,⟨_,ak _ rfl,rfl⟩,slot_setit_next.lookup,?_⟩))
  simpa [rawInt] using hQ
theorem wv4 (hh:A.handled=none)(I:Addr)(hne:S≠I)(T:Tab (byT w) t (ps.map (·.1))):Walks prog w A I [I,S] [I] ps.length (λi v=>∃p,(wk w S ep ps)[i]?=some p∧v=p.2) (λi h=>(∃slot,SIt h I S slot i ps.length ep∧(byT w=false→SetTable.below t.place slot=i))∧SRaw h S ps ep t) where
 sub:=λb hb=>by simp at hb;simp [hb]
 frame:=λ_ _ _ ⟨⟨sl,a,b⟩,c⟩ hk=>⟨⟨sl,a.at λo e=>hk I (by simp) o e,b⟩,c.at λo e=>hk S (by simp) o e⟩
 item:=λi s Q E hi ⟨⟨sl,a,b⟩,c⟩ hQ=>by
  have hl:=(qq0 w S ep ps).length_eq
  have hx:=aa (l:=wk w S ep ps) (i:=i) (by omega)
  exact wq8 a c T b hx λh' nx it' nx' sb=>hQ _ h' s.toks ⟨_,hx,rfl⟩ ⟨⟨nx,it',nx'⟩,c.at λo e=>sb.extBut S o hne e⟩ λb o hb e=>sb.extBut b o (λh=>hb (by simp [h])) e
 done:=λs Q E ⟨⟨sl,a,b⟩,c⟩ hQ=>wvt hh a c T b (Nat.le_refl _) λh' eb=>hQ h' s.toks λb o hb e=>eb b o (λh=>hb (by simp [h])) e
 self:=λ_ _ _ _ ⟨⟨sl,a,b⟩,c⟩ hQ=>wxu a hQ
theorem xqp {Q:Bool→Ab→Prop}(hT:s.TypeIs (.ref S) "set")(h:Q false s):wpAny (model prog w) A (Builtin.List.listLengthHint (.ref S)) Q E s:=by
 unfold Builtin.List.listLengthHint
 refine wpAny_bind (iD hT F.slot_set_len.lookup ?_)
 generalize hid:("set.__len__" : String)=id0
 wp_delta
 rw [show splitId id0=some ("set","__len__") from by subst hid;decide +kernel]
 subst hid
 (refine wpAny_bind (im (T := "set") (b:=true) hT (by rw [isSubtype_type];kernel_rfl) ?_) ;refine eM (λhab=>absurd hab (by decide)) (λ_=>?_) ;refine eM (λ_=>?_) (λhab=>absurd (by decide +kernel) hab))
 refine wpAny_bind (gf hT ?_)
 exact wpAny_pure h
theorem xws (T:Tab (byT w) t (ps.map (·.1))):KdlSrc prog w "set" S S ps.length (λi v=>∃p,(wk w S ep ps)[i]?=some p∧v=p.2) (λh=>SRaw h S ps ep t) where
 type:=λ_ hm=>hm.ty
 there:=λ_ hm=>let ⟨_,e,_⟩:=hm;⟨af e,af e⟩
 keep:=λ_ _ hm hk=>hm.at λo e=>hk S (.inl rfl) o e
 notList:=by decide
 notTuple:=by decide
 hint:=λ_ _ _ _ hm hq=>xqp hm.ty hq
 iter:=λ_ _ hh hm=>⟨_,_,(λ_ _ hq=>xwx hm T hq),wv4 hh _ (let ⟨_,e,_⟩:=hm;ar (af e)) T,⟨⟨0,⟨_,ak _ rfl,rfl,rfl⟩,λ_=>wqs T.rise⟩,hm.at λo e=>Heap.get?_push_of_some _ e⟩⟩
end
end L2
namespace Tm
open PySem PyProof.Rows
def Qc:Bool→Keyed→Array Keyed→Nat→Nat→Nat→StateT SortSt Sem (Option Nat):=sortPriv% PySem.Builtin.gallop
def qj9:Array Keyed→Array Keyed→StateT SortSt Sem (Array Keyed):=sortPriv% PySem.Builtin.mergeLo
def qyh:Array Keyed→Array Keyed→StateT SortSt Sem (Array Keyed):=sortPriv% PySem.Builtin.mergeHi
local macro_rules | `(tactic| walk_at "tim gallop")=>do
 let n:=Lean.mkIdent (Lean.mkPrivateNameCore `PySem.Builtin.List.W1All `PySem.Builtin.gallop)
 `(tactic| unfold $n:ident)
section
variable {M:Model}{A:Around}{E:Value→Ab→Prop}{s:Ab}{G:Keyed→Prop}{kz:Keyed→Int}{kd:SortKind}
def jm (M:Model)(A:Around)(E:Value→Ab→Prop)(s:Ab)(G:Keyed→Prop)(kz:Keyed→Int)(kd:SortKind):Prop :=
 ∀(x y:Keyed) (st:SortSt) (Q:Option Bool→SortSt→Prop),G x→G y→kindOf st=kd→Q (some (decide (kz x<kz y))) st→wpS M A E s (lt' x y) Q st
theorem w8 {arr:Array Keyed}{i:Nat}{x:Keyed}{st:SortSt}{Q:Keyed→SortSt→Prop}(hx:arr[i]?=some x)(h:Q x st):wpS M A E s (elem' arr i) Q st:=by
 rw [elem'_eq,hx]
 exact aq h
def zg (kz:Keyed→Int)(left:Bool)(key x:Keyed):Bool:=if left=true then decide (kz x<kz key) else !decide (kz key<kz x)
theorem quw {n lo0 hi0:Nat}{P:Nat→Bool}{st:SortSt}{f:Nat→Option (Option Nat)×Nat×Nat→StateT SortSt Sem (ForInStep (Option (Option Nat)×Nat×Nat))}{Q:Option (Option Nat)×Nat×Nat→SortSt→Prop}
  (f1:∀i a b (R:ForInStep (Option (Option Nat)×Nat×Nat)→SortSt→Prop),a≥b→R (.done (none,a,b)) st→wpS M A E s (f i (none,a,b)) R st)
  (f2:∀i a b (R:ForInStep (Option (Option Nat)×Nat×Nat)→SortSt→Prop),¬ a≥b→b≤n→(P (a+(b-a)/2)=true→R (.yield (none,a+(b-a)/2+1,b)) st)→(P (a+(b-a)/2)=false→R (.yield (none,a,a+(b-a)/2)) st)→wpS M A E s (f i (none,a,b)) R st)
  (h1:lo0≤hi0) (h2:hi0≤n) (hlo:∀i,i<lo0→P i=true) (hhi:∀i,hi0≤i→i<n→P i=false) (mono:∀i j,i≤j→j<n→P j=true→P i=true)
  (h:∀a k,k≤n→(∀i,i<k→P i=true)→(∀i,k≤i→i<n→P i=false)→Q (none,a,k) st) :
  wpS M A E s (forIn [:n] ((none,lo0,hi0):Option (Option Nat)×Nat×Nat) f) Q st:=by
 refine bQ (I:=λi (c:Option (Option Nat)×Nat×Nat) st'=>st'=st∧c.1=none∧c.2.1≤c.2.2∧c.2.2≤n∧c.2.2-c.2.1≤n-i∧(∀i,i<c.2.1→P i=true)∧(∀i,c.2.2≤i→i<n→P i=false))
  ?step ?fin ⟨rfl,rfl,h1,h2,by dsimp only;omega,hlo,hhi⟩
 case fin =>
  rintro ⟨r,a,b⟩ st' ⟨rfl,hr,x1,x2,x3,x4,x5⟩
  dsimp only at hr x1 x2 x3 x4 x5 ⊢
  subst hr
  have:a=b:=by omega
  subst this
  exact h _ _ x2 x4 x5
 case step =>
  rintro i ⟨r,a,b⟩ st' _ hi ⟨rfl,hr,x1,x2,x3,x4,x5⟩
  dsimp only at hr x1 x2 x3 x4 x5 ⊢
  subst hr
  by_cases c:a≥b
  ·have:a=b:=by omega
   subst this
   exact f1 _ _ _ _ c (h _ _ x2 x4 x5)
  ·refine f2 _ _ _ _ c x2 (λhp=>?_) λhp=>?_
   ·exact ⟨rfl,rfl,by dsimp only;omega,x2,by dsimp only;omega,λj hj=>mono j _ (by dsimp only at hj;omega) (by omega) hp,x5⟩
   ·refine ⟨rfl,rfl,by dsimp only;omega,by dsimp only;omega,by dsimp only;omega,x4,λj hj hj2=>?_⟩
    cases hp2:P j with
    |false=>rfl
    |true =>
     have:=mono (a+(b-a)/2) j hj hj2 hp2
     rw [hp] at this
     cases this
theorem wqt {left:Bool}{key:Keyed}{arr:Array Keyed}{base n hint:Nat}{P:Nat→Bool}{st:SortSt}{Q:Option Nat→SortSt→Prop}(O:jm M A E s G kz kd)(hk:kindOf st=kd)(hG:G key)
  (hA:∀i,i<n→∃x,arr[base+i]?=some x∧G x∧P i=zg kz left key x) (hh:hint<n) (mono:∀i j,i≤j→j<n→P j=true→P i=true)
  (h:∀k,k≤n→(∀i,i<k→P i=true)→(∀i,k≤i→i<n→P i=false)→Q (some k) st):wpS M A E s (Qc left key arr base n hint) Q st:=by
 have hb:∀i (R:Option Bool→SortSt→Prop),i<n→R (some (P i)) st→wpS M A E s (do
   let x ←elem' arr (base+i)
   if left=true then lt' x key
   else do
    let r ←lt' key x
    pure (r.map λb=>!b)) R st:=by
  intro i R hi hR
  obtain ⟨x,e,g,hp⟩:=hA i hi
  refine al (w8 e ?_)
  rw [hp] at hR
  unfold zg at hR
  cases left with
  |true =>
   rw [if_pos rfl] at hR ⊢
   exact O _ _ _ _ g hG hk hR
  |false =>
   rw [if_neg au] at hR ⊢
   exact al (O _ _ _ _ hG g hk (aq hR))
 unfold Qc
 walk_at "tim gallop"
 dsimp only
 refine al (hb hint _ hh ?_)
 dsimp only
 cases hp:P hint with
 |true =>
  rw [if_pos rfl]
  refine al (dU (bQ (I:=λi (c:Option (Option Nat)×Nat×Nat) st'=>st'=st∧c.1=none∧i+1≤c.2.2∧c.2.1<c.2.2∧hint+c.2.1<n∧P (hint+c.2.1)=true)
   (Q:=λc st'=>st'=st∧c.1=none∧c.2.1<c.2.2∧hint+c.2.1<n∧P (hint+c.2.1)=true∧(n-hint≤c.2.2∨(hint+c.2.2<n∧P (hint+c.2.2)=false))) ?step ?fin ⟨rfl,rfl,Nat.le_refl 1,Nat.zero_lt_one,hh,hp⟩) ?post)
  case fin =>
   rintro ⟨r,a,b⟩ st' ⟨rfl,hr,x1,x2,x3,x4⟩
   dsimp only at hr x1 x2 x3 x4 ⊢
   exact ⟨rfl,hr,x2,x3,x4,.inl (by omega)⟩
  case step =>
   rintro i ⟨r,a,b⟩ st' _ hi ⟨rfl,hr,x1,x2,x3,x4⟩
   dsimp only at hr x1 x2 x3 x4 ⊢
   by_cases c:b≥n-hint
   ·rw [if_pos c]
    exact aq ⟨rfl,rfl,x2,x3,x4,.inl c⟩
   ·rw [if_neg c]
    refine al (hb _ _ (by omega) ?_)
    dsimp only
    cases hq:P (hint+b) with
    |true=>exact aq ⟨rfl,rfl,by dsimp only;omega,by dsimp only;omega,by dsimp only;omega,hq⟩
    |false=>exact aq ⟨rfl,rfl,x2,x3,x4,.inr ⟨by dsimp only;omega,hq⟩⟩
  case post =>
   rintro ⟨r,a,b⟩ st' ⟨rfl,hr,x2,x3,x4,x5⟩
   dsimp only at hr x2 x3 x4 x5 ⊢
   subst hr
   dsimp only
   refine al (quw (lo0:=hint+a+1) (hi0:=hint+min b (n-hint)) (λi a b R c hR=>?_) (λi a b R c hb2 r1 r2=>?_) (by omega) (by omega) (λi hi=>mono i (hint+a) (by omega) x3 x4) (λi hi1 hi2=>?_) mono λa k k1 k2 k3=>aq (h k k1 k2 k3))
   ·dsimp only
    rw [if_pos c]
    exact aq hR
   ·dsimp only
    rw [if_neg c]
    refine al (hb _ _ (by omega) ?_)
    dsimp only
    cases hp3:P (a+(b-a)/2) with
    |true=>exact aq (r1 hp3)
    |false=>exact aq (r2 hp3)
   ·rcases x5 with x5|⟨x5,x6⟩
    ·omega
    ·cases hp2:P i with
     |false=>rfl
     |true =>
      have:=mono (hint+b) i (by omega) hi2 hp2
      rw [x6] at this
      cases this
 |false =>
  rw [if_neg au]
  refine al (dU (bQ (I:=λi (c:Option (Option Nat)×Nat×Nat) st'=>st'=st∧c.1=none∧i+1≤c.2.2∧c.2.1<c.2.2∧c.2.1≤hint∧P (hint-c.2.1)=false)
   (Q:=λc st'=>st'=st∧c.1=none∧c.2.1<c.2.2∧c.2.1≤hint∧P (hint-c.2.1)=false∧(hint+1≤c.2.2∨(c.2.2≤hint∧P (hint-c.2.2)=true))) ?step ?fin ⟨rfl,rfl,Nat.le_refl 1,Nat.zero_lt_one,aN _,hp⟩) ?post)
  case fin =>
   rintro ⟨r,a,b⟩ st' ⟨rfl,hr,x1,x2,x3,x4⟩
   dsimp only at hr x1 x2 x3 x4 ⊢
   exact ⟨rfl,hr,x2,x3,x4,.inl (by omega)⟩
  case step =>
   rintro i ⟨r,a,b⟩ st' _ hi ⟨rfl,hr,x1,x2,x3,x4⟩
   dsimp only at hr x1 x2 x3 x4 ⊢
   by_cases c:b≥hint+1
   ·rw [if_pos c]
    exact aq ⟨rfl,rfl,x2,x3,x4,.inl c⟩
   ·rw [if_neg c]
    refine al (hb _ _ (by omega) ?_)
    dsimp only
    cases hq:P (hint-b) with
    |true=>exact aq ⟨rfl,rfl,x2,x3,x4,.inr ⟨by dsimp only;omega,hq⟩⟩
    |false=>exact aq ⟨rfl,rfl,by dsimp only;omega,by dsimp only;omega,by dsimp only;omega,hq⟩
  case post =>
   rintro ⟨r,a,b⟩ st' ⟨rfl,hr,x2,x3,x4,x5⟩
   dsimp only at hr x2 x3 x4 x5 ⊢
   subst hr
   dsimp only
   refine al (quw (lo0:=hint+1-min b (hint+1)) (hi0:=hint-a) (λi a b R c hR=>?_) (λi a b R c hb2 r1 r2=>?_) (by omega) (by omega) (λi hi=>?_) (λi hi1 hi2=>?_) mono λa k k1 k2 k3=>aq (h k k1 k2 k3))
   ·dsimp only
    rw [if_pos c]
    exact aq hR
   ·dsimp only
    rw [if_neg c]
    refine al (hb _ _ (by omega) ?_)
    dsimp only
    cases hp3:P (a+(b-a)/2) with
    |true=>exact aq (r1 hp3)
    |false=>exact aq (r2 hp3)
   ·rcases x5 with x5|⟨x5,x6⟩
    ·omega
    ·exact mono i (hint-b) (by omega) (by omega) x6
   ·cases hp2:P i with
    |false=>rfl
    |true =>
     have:=mono (hint-a) i (by omega) hi2 hp2
     rw [x4] at this
     cases this
end
end Tm
namespace Tm
open PySem PyProof.Rows
def qzj:Nat→StateT SortSt Sem Unit:=sortPriv% PySem.Builtin.setMinGallop
local macro_rules | `(tactic| walk_at "tim lo")=>do
 let n:=Lean.mkIdent (Lean.mkPrivateNameCore `PySem.Builtin.List.W1All `PySem.Builtin.mergeLo)
 `(tactic| unfold $n:ident)
section
variable {kz:Keyed→Int}
def SL (kz:Keyed→Int)(l:List Keyed):Prop:=l.Pairwise λx y=>kz x<kz y
structure LJ (kz:Keyed→Int)(T O X Y:List Keyed):Prop where
 x:SL kz (O++X)
 y:SL kz (O++Y)
 p:(O++(X++Y)).Perm T
variable {T O X Y X1 X2 Y1 Y2:List Keyed}
theorem LJ.swap (h:LJ kz T O X Y):LJ kz T O Y X:=⟨h.y,h.x,(cJ O df).trans h.p⟩
theorem LJ.mvX (h:LJ kz T O (X1++X2) Y)(lt:∀u∈X1,∀v∈Y,kz u<kz v):LJ kz T (O++X1) X2 Y:=by
 obtain ⟨a,b,c⟩:=h
 have b':=aX.mp b
 refine ⟨by rw [aO];exact a,?_,by simpa [aO] using c⟩
 have a':SL kz (O++X1):=by
  rw [←aO] at a
  exact (aX.mp a).1
 refine aX.mpr ⟨a',b'.2.1,λu hu v hv=>?_⟩
 rcases aP.mp hu with hu|hu
 ·exact b'.2.2 u hu v hv
 ·exact lt u hu v hv
theorem LJ.mvY (h:LJ kz T O X (Y1++Y2))(lt:∀u∈Y1,∀v∈X,kz u<kz v):LJ kz T (O++Y1) X Y2:=(h.swap.mvX lt).swap
structure HJ (kz:Keyed→Int)(T X Y O:List Keyed):Prop where
 x:SL kz (X++O)
 y:SL kz (Y++O)
 p:(X++(Y++O)).Perm T
theorem HJ.swap (h:HJ kz T X Y O):HJ kz T Y X O:=⟨h.y,h.x,by
 refine List.Perm.trans ?_ h.p
 rw [←aO,←aO]
 exact cB O df⟩
theorem HJ.mvX (h:HJ kz T (X1++X2) Y O)(lt:∀v∈Y,∀u∈X2,kz v<kz u):HJ kz T X1 Y (X2++O):=by
 obtain ⟨a,b,c⟩:=h
 have b':=aX.mp b
 refine ⟨by rw [←aO];exact a,?_,?_⟩
 ·have a':SL kz (X2++O):=by
   rw [aO] at a
   exact (aX.mp a).2.1
  refine aX.mpr ⟨b'.1,a',λv hv u hu=>?_⟩
  rcases aP.mp hu with hu|hu
  ·exact lt v hv u hu
  ·exact b'.2.2 v hv u hu
 ·refine List.Perm.trans ?_ c
  rw [aO]
  refine cJ X1 ?_
  rw [←aO,←aO]
  exact cB O df
theorem HJ.mvY (h:HJ kz T X (Y1++Y2) O)(lt:∀v∈X,∀u∈Y2,kz v<kz u):HJ kz T X Y1 (Y2++O):=(h.swap.mvX lt).swap
structure Mg (kz:Keyed→Int)(G:Keyed→Prop)(a b:Array Keyed):Prop where
 sa:SL kz a.toList
 sb:SL kz b.toList
 ne:∀x∈a.toList,∀y∈b.toList,kz x≠kz y
 ga:∀x∈a.toList,G x
 gb:∀x∈b.toList,G x
def Yp (kz:Keyed→Int)(a b r:Array Keyed):Prop:=SL kz r.toList∧r.toList.Perm (a.toList++b.toList)
def SameSt (st st':SortSt):Prop:=kindOf st'=kindOf st∧arrOf st'=arrOf st∧pendingOf st'=pendingOf st∧failedOf st'=failedOf st
theorem SameSt.rfl' (st:SortSt):SameSt st st:=⟨rfl,rfl,rfl,rfl⟩
theorem SameSt.trans {a b c:SortSt}(h:SameSt a b)(k:SameSt b c):SameSt a c:=⟨k.1.trans h.1,k.2.1.trans h.2.1,k.2.2.1.trans h.2.2.1,k.2.2.2.trans h.2.2.2⟩
theorem SL.lt {l:List Keyed}(h:SL kz l){i j:Nat}{x y:Keyed}(hij:i<j)(hx:l[i]?=some x)(hy:l[j]?=some y):kz x<kz y:=by
 obtain ⟨hi,rfl⟩:=ag.mp hx
 obtain ⟨hj,rfl⟩:=ag.mp hy
 exact bg.mp h i j hi hj hij
theorem SL.le {l:List Keyed}(h:SL kz l){i j:Nat}{x y:Keyed}(hij:i≤j)(hx:l[i]?=some x)(hy:l[j]?=some y):kz x≤kz y:=by
 rcases aV i j with c|c
 ·exact iw (h.lt c hx hy)
 ·obtain rfl:i=j:=by omega
  rw [hx] at hy
  cases hy
  exact cR _
theorem xw {a:Array Keyed}{i:Nat}(h:i<a.size):∃x,a[i]?=some x∧a.toList[i]?=some x∧x∈a.toList:=⟨a[i],aQ h,by simp [h],by simp⟩
theorem Yw {l:List Keyed}{i:Nat}{x:Keyed}(h:l[i]?=some x):l.drop i=[x]++l.drop (i+1):=by
 obtain ⟨hi,rfl⟩:=ag.mp h
 exact eD hi
theorem qwp (l:List Keyed)(i k:Nat):l.drop i=(l.drop i).take k++l.drop (i+k):=by
 rw [←List.drop_drop]
 exact (cI k (l.drop i)).symm
theorem uh {l:List Keyed}{i:Nat}{x:Keyed}(h:x∈l.drop i):∃j,i≤j∧l[j]?=some x:=by
 obtain ⟨j,hj⟩:=bH h
 exact ⟨i+j,by omega,by rw [←hj,cM]⟩
theorem Qm {l:List Keyed}{i k:Nat}{x:Keyed}(h:x∈(l.drop i).take k):∃j,i≤j∧j<i+k∧l[j]?=some x:=by
 obtain ⟨j,hj⟩:=bH h
 rw [db] at hj
 split at hj
 ·exact ⟨i+j,by omega,by omega,by rw [←hj,cM]⟩
 ·cases hj
theorem Qy {l:List Keyed}{i:Nat}{x:Keyed}(h:x∈l.take i):∃j,j<i∧l[j]?=some x:=by
 obtain ⟨j,hj⟩:=bH h
 rw [db] at hj
 split at hj
 ·exact ⟨j,by omega,hj⟩
 ·cases hj
end
section
variable {M:Model}{A:Around}{E:Value→Ab→Prop}{s:Ab}{G:Keyed→Prop}{kz:Keyed→Int}{kd:SortKind}{a b:Array Keyed}
theorem Zz {g:Nat}{st:SortSt}{Q:Unit→SortSt→Prop}(h:∀st',SameSt st st'→Q () st'):wpS M A E s (qzj g) Q st :=
 eP (h _ ⟨rfl,rfl,rfl,rfl⟩)
abbrev LJA (kz:Keyed→Int)(a b out:Array Keyed)(ia ib:Nat):Prop:=LJ kz (a.toList++b.toList) out.toList (a.toList.drop ia) (b.toList.drop ib)
theorem qqp (a:Array Keyed)(i:Nat):(a.extract i a.size).toList=a.toList.drop i:=by
 rw [dA]
 simp only [List.extract]
 exact bP (by simp)
theorem Qg {out:Array Keyed}{ia ib:Nat}(h:LJA kz a b out ia ib)(e:ib=b.size):Yp kz a b (out++a.extract ia a.size++b.extract ib b.size):=by
 subst e
 obtain ⟨x,y,p⟩:=h
 have e1:(out++a.extract ia a.size++b.extract b.size b.size).toList=out.toList++a.toList.drop ia:=by
  rw [bD,bD,qqp,qqp]
  simp
 have e2:b.toList.drop b.size=[]:=by simp
 rw [e2,bK] at p
 exact ⟨by rw [e1];exact x,by rw [e1];exact p⟩
theorem yf {out:Array Keyed}{ia ib:Nat}(h:LJA kz a b out ia ib)(e:ia+1=a.size)(hl:∀x,a[a.size-1]?=some x→∀y∈b.toList,kz y<kz x):Yp kz a b (out++b.extract ib b.size++a.extract ia a.size):=by
 obtain ⟨x,y,p⟩:=h
 have e1:(out++b.extract ib b.size++a.extract ia a.size).toList=(out.toList++b.toList.drop ib)++a.toList.drop ia:=by
  rw [bD,bD,qqp,qqp]
 obtain ⟨z,z1,z2,z3⟩:=xw (a:=a) (i:=ia) (by omega)
 have hz:=hl z (by rw [←z1];congr 1;omega)
 have e2:a.toList.drop ia=[z]:=by
  rw [Yw z2,List.drop_eq_nil_of_le (by rw [aJ];omega)]
  rfl
 rw [e2] at x p
 refine ⟨?_,?_⟩
 ·rw [e1,e2]
  refine aX.mpr ⟨y,cV _ _,λu hu v hv=>?_⟩
  rcases aP.mp hu with hu|hu
  ·exact (aX.mp x).2.2 u hu v hv
  ·obtain rfl:=aG.mp hv
   exact hz u (cu hu)
 ·rw [e1,e2,aO]
  exact (cJ _ df).trans p
theorem Z1 {out:Array Keyed}{ia ib:Nat}{x y:Keyed}(m:Mg kz G a b)(h:LJA kz a b out ia ib)(hx:a.toList[ia]?=some x)(hy:b.toList[ib]?=some y)(c:kz y<kz x):LJA kz a b (out.push y) ia (ib+1):=by
 have h':LJ kz (a.toList++b.toList) out.toList (a.toList.drop ia) ([y]++b.toList.drop (ib+1)):=by rw [←Yw hy];exact h
 have:=h'.mvY λu hu v hv=>by
  obtain rfl:=aG.mp hu
  obtain ⟨j,hj,ej⟩:=uh hv
  have:=m.sa.le hj hx ej
  omega
 show LJ kz _ (out.push y).toList _ _
 rw [cU]
 exact this
theorem Qz {out:Array Keyed}{ia ib:Nat}{x y:Keyed}(m:Mg kz G a b)(h:LJA kz a b out ia ib)(hx:a.toList[ia]?=some x)(hy:b.toList[ib]?=some y)(c:¬ kz y<kz x):LJA kz a b (out.push x) (ia+1) ib:=by
 have h':LJ kz (a.toList++b.toList) out.toList ([x]++a.toList.drop (ia+1)) (b.toList.drop ib):=by rw [←Yw hx];exact h
 have ne:=m.ne x (aA hx) y (aA hy)
 have:=h'.mvX λu hu v hv=>by
  obtain rfl:=aG.mp hu
  obtain ⟨j,hj,ej⟩:=uh hv
  have:=m.sb.le hj hy ej
  omega
 show LJ kz _ (out.push x).toList _ _
 rw [cU]
 exact this
theorem xq7 {out:Array Keyed}{ia ib k:Nat}{y:Keyed}(m:Mg kz G a b)(h:LJA kz a b out ia ib)(hy:b.toList[ib]?=some y)(c:∀i x,i<k→a.toList[ia+i]?=some x→kz x≤kz y):LJA kz a b (out++a.extract ia (ia+k)) (ia+k) ib:=by
 have h':LJ kz (a.toList++b.toList) out.toList ((a.toList.drop ia).take k++a.toList.drop (ia+k)) (b.toList.drop ib):=by rw [←qwp];exact h
 have:=h'.mvX λu hu v hv=>by
  obtain ⟨i,hi1,hi2,ei⟩:=Qm hu
  obtain ⟨j,hj,ej⟩:=uh hv
  have h1:=m.sb.le hj hy ej
  have h2:=c (i-ia) u (by omega) (by rw [←ei];congr 1;omega)
  have ne:=m.ne u (aA ei) y (aA hy)
  omega
 have e:(out++a.extract ia (ia+k)).toList=out.toList++(a.toList.drop ia).take k:=by simp
 show LJ kz _ (out++a.extract ia (ia+k)).toList _ _
 rw [e]
 exact this
theorem qj8 {out:Array Keyed}{ia ib k:Nat}{x:Keyed}(m:Mg kz G a b)(h:LJA kz a b out ia ib)(hx:a.toList[ia]?=some x)(c:∀i y,i<k→b.toList[ib+i]?=some y→kz y<kz x):LJA kz a b (out++b.extract ib (ib+k)) ia (ib+k):=by
 have h':LJ kz (a.toList++b.toList) out.toList (a.toList.drop ia) ((b.toList.drop ib).take k++b.toList.drop (ib+k)):=by rw [←qwp];exact h
 have:=h'.mvY λu hu v hv=>by
  obtain ⟨i,hi1,hi2,ei⟩:=Qm hu
  obtain ⟨j,hj,ej⟩:=uh hv
  have h1:=m.sa.le hj hx ej
  have h2:=c (i-ib) u (by omega) (by rw [←ei];congr 1;omega)
  omega
 have e:(out++b.extract ib (ib+k)).toList=out.toList++(b.toList.drop ib).take k:=by simp
 show LJ kz _ (out++b.extract ib (ib+k)).toList _ _
 rw [e]
 exact this
theorem wzq {left:Bool}{key:Keyed}{arr:Array Keyed}{base n hint:Nat}{st:SortSt}{Q:Option Nat→SortSt→Prop}(O:jm M A E s G kz kd)(hk:kindOf st=kd)(hG:G key)
  (sl:∀i j x y,base≤i→i<j→j<base+n→arr[i]?=some x→arr[j]?=some y→kz x<kz y) (hg:∀i,base≤i→i<base+n→∃x,arr[i]?=some x∧G x) (hh:hint<n)
  (h:∀k,k≤n→(∀i x,i<k→arr[base+i]?=some x→zg kz left key x=true)→(∀i x,k≤i→i<n→arr[base+i]?=some x→zg kz left key x=false)→Q (some k) st) :
  wpS M A E s (Qc left key arr base n hint) Q st:=by
 refine wqt (P:=λi=>match arr[base+i]? with|some x=>zg kz left key x|none=>false) O hk hG (λi hi=>?_) hh (λi j hij hj hp=>?_) λk h1 h2 h3=>h k h1 (λi x hi ex=>?_) λi x hi hi2 ex=>?_
 ·obtain ⟨x,ex,gx⟩:=hg (base+i) (by omega) (by omega)
  exact ⟨x,ex,gx,by simp only [ex]⟩
 ·obtain ⟨y,ey,_⟩:=hg (base+j) (by omega) (by omega)
  obtain ⟨x,ex,_⟩:=hg (base+i) (by omega) (by omega)
  simp only [ey] at hp
  simp only [ex]
  rcases aV i j with c|c
  ·have:=sl (base+i) (base+j) x y (by omega) (by omega) (by omega) ex ey
   unfold zg at hp ⊢
   cases left with
   |true =>
    rw [if_pos rfl] at hp ⊢
    have:=bh hp
    exact decide_eq_true (by omega)
   |false =>
    rw [if_neg au] at hp ⊢
    rw [gU,eU] at hp ⊢
    omega
  ·obtain rfl:i=j:=by omega
   rw [ex] at ey
   cases ey
   exact hp
 ·have:=h2 i hi
  simp only [ex] at this
  exact this
 ·have:=h3 i hi hi2
  simp only [ex] at this
  exact this
end
end Tm
namespace Tm
open PySem PyProof.Rows
local macro_rules | `(tactic| walk_at "tim lo")=>do
 let n:=Lean.mkIdent (Lean.mkPrivateNameCore `PySem.Builtin.List.W1All `PySem.Builtin.mergeLo)
 `(tactic| unfold $n:ident)
section
variable {M:Model}{A:Around}{E:Value→Ab→Prop}{s:Ab}{G:Keyed→Prop}{kz:Keyed→Int}{kd:SortKind}{a b:Array Keyed}
theorem qu2 {α:Type}{c:Nat→Prop}{i:∀z,Decidable (c z)}{u v:Nat→StateT SortSt Sem α}{Q:α→SortSt→Prop}{st:SortSt}(hu:∀z,u z=v (z-1))(h:∀z,wpS M A E s (v z) Q st):∀z,wpS M A E s (@ite _ (c z) (i z) (u z) (v z)) Q st:=λz=>by
 rw [hu z]
 split
 ·exact h _
 ·exact h z
theorem xq {α:Type}{c:Prop}[i:Decidable c]{t e:StateT SortSt Sem α}{Q:α→SortSt→Prop}{st:SortSt}(h1:c→wpS M A E s t Q st)(h2:¬ c→wpS M A E s e Q st):wpS M A E s (ite c t e) Q st:=by
 by_cases d:c
 ·rw [if_pos d];exact h1 d
 ·rw [if_neg d];exact h2 d
theorem qjk {α:Type}{c:Prop}[i:Decidable c]{t e:StateT SortSt Sem α}{Q:α→SortSt→Prop}{st:SortSt}(d:¬ c)(h:wpS M A E s e Q st):wpS M A E s (ite c t e) Q st:=by rw [if_neg d];exact h
theorem qqs {left:Bool}{key:Keyed}{arr:Array Keyed}{base n hint:Nat}{st:SortSt}{Q:Option Nat→SortSt→Prop}(O:jm M A E s G kz kd)(hk:kindOf st=kd)(hG:G key)
  (sl:SL kz arr.toList) (hg:∀x∈arr.toList,G x) (hn:base+n≤arr.size) (hh:hint<n)
  (h:∀k,k≤n→(∀i x,i<k→arr.toList[base+i]?=some x→zg kz left key x=true)→(∀i x,k≤i→i<n→arr.toList[base+i]?=some x→zg kz left key x=false)→Q (some k) st) :
  wpS M A E s (Qc left key arr base n hint) Q st:=by
 refine wzq O hk hG (λi j x y _ hij _ ex ey=>sl.lt hij (by rw [aC];exact ex) (by rw [aC];exact ey)) (λi _ hi=>?_) hh λk k1 k2 k3=>h k k1 (λi x hi ex=>k2 i x hi (by rw [←aC];exact ex)) λi x hi hi2 ex=>k3 i x hi hi2 (by rw [←aC];exact ex)
 obtain ⟨x,e1,e2,e3⟩:=xw (a:=arr) (i:=i) (by omega)
 exact ⟨x,e1,hg x e3⟩
theorem ah_f {key x:Keyed}(h:zg kz false key x=true):kz x≤kz key:=by
 unfold zg at h
 rw [if_neg au,gU,eU] at h
 omega
theorem ah_t {key x:Keyed}(h:zg kz true key x=true):kz x<kz key:=by
 unfold zg at h
 rw [if_pos rfl] at h
 exact bh h
theorem wyh {key x:Keyed}(h:zg kz false key x=false):kz key<kz x:=by
 unfold zg at h
 rw [if_neg au] at h
 simpa using h
theorem Q4 {key x:Keyed}(h:zg kz true key x=false):kz key≤kz x:=by
 unfold zg at h
 rw [if_pos rfl,eU] at h
 omega
theorem qu1 {st:SortSt}{Q:Array Keyed→SortSt→Prop}(O:jm M A E s G kz kd)(hk:kindOf st=kd)(m:Mg kz G a b)(ha:1≤a.size)(hb:1≤b.size)
  (h0:∀x y,a[0]?=some x→b[0]?=some y→kz y<kz x) (hl:∀x,a[a.size-1]?=some x→∀y∈b.toList,kz y<kz x) (h:∀r st',SameSt st st'→Yp kz a b r→Q r st'):wpS M A E s (qj9 a b) Q st:=by
 unfold qj9
 walk_at "tim lo"
 dsimp only
 refine al (gH (bW ⟨rfl,?_⟩))
 obtain ⟨y0,f1,f2,f3⟩:=xw (a:=b) (i:=0) (by omega)
 obtain ⟨x0,e1,e2,e3⟩:=xw (a:=a) (i:=0) (by omega)
 refine al (w8 f1 ?_)
 have J0:LJA kz a b #[y0] 0 1:=by
  have:=Z1 (out:=#[]) m ⟨by simpa using m.sa,by simpa using m.sb,by simp⟩ e2 f2 (h0 _ _ e1 f1)
  exact this
 refine xq (λc1=>?_) λc1=>?_
 ·exact aq (h _ _ (SameSt.rfl' _) (Qg J0 (by simpa using c1)))
 refine xq (λc2=>?_) λc2=>?_
 ·exact aq (h _ _ (SameSt.rfl' _) (yf J0 (by simpa using c2) hl))
 have c1':1<b.size:=by
  have:¬ 0+1=b.size:=by simpa using c1
  omega
 have c2':0+1<a.size:=by
  have:¬ 0+1=a.size:=by simpa using c2
  omega
 refine al (fQ ?_)
 refine al (dU (bQ (I:=λt (c:Option (Array Keyed)×Array Keyed×Nat×Nat×Nat) st'=>SameSt st st'∧c.1=none∧LJA kz a b c.2.1 c.2.2.1 c.2.2.2.1∧c.2.2.1+1<a.size∧c.2.2.2.1<b.size∧t+1≤c.2.2.1+c.2.2.2.1)
  (Q:=λc st'=>SameSt st st'∧∃r,c.1=some r∧Yp kz a b r) ?step ?fin ⟨SameSt.rfl' _,rfl,J0,c2',c1',Nat.le_refl 1⟩) ?post)
 case post =>
  rintro ⟨r,c⟩ st' ⟨S,r',hr,F⟩
  dsimp only at hr ⊢
  subst hr
  exact aq (h _ _ S F)
 case fin =>
  rintro ⟨r,out,ia,ib,mg⟩ st' ⟨S,_,_,x1,x2,x3⟩
  dsimp only at x1 x2 x3
  omega
 case step =>
  rintro t ⟨r,out,ia,ib,mg⟩ st1 _ ht ⟨S1,hr,J,x1,x2,x3⟩
  dsimp only at hr J x1 x2 x3 ⊢
  subst hr
  refine al (dU (bQ (I:=λx (c:Option (Array Keyed)×Array Keyed×Nat×Nat×Nat×Nat) st'=>SameSt st st'∧c.1=none∧LJA kz a b c.2.1 c.2.2.1 c.2.2.2.1∧c.2.2.1+1<a.size∧c.2.2.2.1<b.size∧t+1+x≤c.2.2.1+c.2.2.2.1)
   (Q:=λc st'=>SameSt st st'∧((c.1=none∧LJA kz a b c.2.1 c.2.2.1 c.2.2.2.1∧c.2.2.1+1<a.size∧c.2.2.2.1<b.size∧t+2≤c.2.2.1+c.2.2.2.1)∨∃r,c.1=some r∧Yp kz a b r)) ?sstep ?sfin ⟨S1,rfl,J,x1,x2,x3⟩) ?spost)
  case sfin =>
   rintro ⟨r,out,ia,ib,ac,bc⟩ st' ⟨S,hr,J,x1,x2,x3⟩
   dsimp only at hr J x1 x2 x3
   exact ⟨S,.inl ⟨hr,J,x1,x2,by dsimp only;omega⟩⟩
  case sstep =>
   rintro x ⟨r,out,ia,ib,ac,bc⟩ st2 _ hx ⟨S2,hr,J,x1,x2,x3⟩
   dsimp only at hr J x1 x2 x3 ⊢
   subst hr
   obtain ⟨u,u1,u2,u3⟩:=xw (a:=b) x2
   obtain ⟨v,v1,v2,v3⟩:=xw (a:=a) (i:=ia) (by omega)
   refine al (w8 u1 (al (w8 v1 ?_)))
   refine al (O u v _ _ (m.gb u u3) (m.ga v v3) (S2.1.trans hk) ?_)
   dsimp only
   refine xq (λc=>?_) λc=>?_
   ·have c:=bh c
    refine al (w8 u1 ?_)
    have J':=Z1 m J v2 u2 c
    refine xq (λd=>?_) λd=>?_
    ·exact aq ⟨S2,.inr ⟨_,rfl,Qg J' (by simpa using d)⟩⟩
    have d':ib+1<b.size:=by
     have:¬ ib+1=b.size:=by simpa using d
     omega
    refine xq (λ_=>?_) λ_=>?_
    ·exact aq ⟨S2,.inl ⟨rfl,J',x1,d',by dsimp only;omega⟩⟩
    ·exact aq ⟨S2,rfl,J',x1,d',by dsimp only;omega⟩
   ·have c:¬ (kz u<kz v):=by simpa using c
    refine al (w8 v1 ?_)
    have J':=Qz m J v2 u2 c
    refine xq (λd=>?_) λd=>?_
    ·exact aq ⟨S2,.inr ⟨_,rfl,yf J' (by simpa using d) hl⟩⟩
    have d':ia+1+1<a.size:=by
     have:¬ ia+1+1=a.size:=by simpa using d
     omega
    refine xq (λ_=>?_) λ_=>?_
    ·exact aq ⟨S2,.inl ⟨rfl,J',d',x2,by dsimp only;omega⟩⟩
    ·exact aq ⟨S2,rfl,J',d',x2,by dsimp only;omega⟩
  case spost =>
   rintro ⟨r,out,ia,ib,ac,bc⟩ st2 ⟨S2,hc|⟨r',hr,F⟩⟩
   case inr =>
    dsimp only at hr ⊢
    subst hr
    exact aq ⟨S2,r',rfl,F⟩
   obtain ⟨hr,J,x1,x2,x3⟩:=hc
   dsimp only at hr J x1 x2 x3 ⊢
   subst hr
   dsimp only
   refine al (gH (bW ⟨rfl,?_⟩))
   refine al (dU (bQ (I:=λx (c:Option (Array Keyed)×Array Keyed×Nat×Nat×Nat×Nat×Nat) st'=>SameSt st st'∧c.1=none∧LJA kz a b c.2.1 c.2.2.1 c.2.2.2.1∧c.2.2.1+1<a.size∧c.2.2.2.1<b.size∧t+2≤c.2.2.1+c.2.2.2.1)
    (Q:=λc st'=>SameSt st st'∧((c.1=none∧LJA kz a b c.2.1 c.2.2.1 c.2.2.2.1∧c.2.2.1+1<a.size∧c.2.2.2.1<b.size∧t+2≤c.2.2.1+c.2.2.2.1)∨∃r,c.1=some r∧Yp kz a b r)) ?gstep ?gfin ⟨S2,rfl,J,x1,x2,x3⟩) ?gpost)
   case gfin =>
    rintro ⟨r,out,ia,ib,mg,ac,bc⟩ st' ⟨S,hr,J,x1,x2,x3⟩
    exact ⟨S,.inl ⟨hr,J,x1,x2,x3⟩⟩
   case gpost =>
    rintro ⟨r,out,ia,ib,mg,ac,bc⟩ st3 ⟨S3,hc|⟨r',hr,F⟩⟩
    ·obtain ⟨hr,J,x1,x2,x3⟩:=hc
     dsimp only at hr J x1 x2 x3 ⊢
     subst hr
     dsimp only
     refine al (Zz λst4 S4=>?_)
     exact aq ⟨S3.trans S4,rfl,J,x1,x2,by dsimp only;omega⟩
    ·dsimp only at hr ⊢
     subst hr
     exact aq ⟨S3,r',rfl,F⟩
   case gstep =>
    rintro x ⟨r,out,ia,ib,mg,ac,bc⟩ st3 _ hx ⟨S3,hr,J,x1,x2,x3⟩
    dsimp only at hr J x1 x2 x3 ⊢
    subst hr
    obtain ⟨u,u1,u2,u3⟩:=xw (a:=b) x2
    revert mg
    refine qu2 (λ_=>rfl) λmg=>?_
    all_goals
     refine al (Zz λst4 S4=>?_)
     have S5:=S3.trans S4
     refine al (w8 u1 ?_)
     refine al (qqs O (S5.1.trans hk) (m.gb u u3) m.sa m.ga (by omega) (by omega) λk k1 k2 k3=>?_)
     have kl:k<a.size-ia:=by
      rcases aV k (a.size-ia) with z|z
      ·exact z
      ·exfalso
       obtain ⟨v,v1,v2,v3⟩:=xw (a:=a) (i:=a.size-1) (by omega)
       have:=ah_f (k2 (a.size-1-ia) v (by omega) (by rw [←v2];congr 1;omega))
       have:=hl v v1 u u3
       omega
     have J':=xq7 (k:=k) m J u2 λi x hi ex=>ah_f (k2 i x hi ex)
     have nxt:∀x,a.toList[ia+k]?=some x→kz u<kz x:=λx ex=>wyh (k3 k x (Nat.le_refl _) kl ex)
     try dsimp only
     refine xq (λc=>?_) λc=>?_
     ·refine xq (λd=>?_) λd=>?_
      ·exact aq ⟨S5,.inr ⟨_,rfl,yf J' (by simpa using d) hl⟩⟩
      have d':ia+k+1<a.size:=by
       have:¬ ia+k+1=a.size:=by simpa using d
       omega
      refine qjk (by simp;omega) ?_
      have x3':t+2≤ia+k+ib:=by omega
      generalize out++a.extract ia (ia+k)=out at J' ⊢
      generalize ia+k=ia at J' d' x3' nxt ⊢
      obtain ⟨v,v1,v2,v3⟩:=xw (a:=a) (i:=ia) (by omega)
      have J2:=Z1 m J' v2 u2 (nxt v v2)
      refine al (w8 u1 ?_)
      try dsimp only
      refine xq (λd2=>?_) λd2=>?_
      ·exact aq ⟨S5,.inr ⟨_,rfl,Qg J2 (by simpa using d2)⟩⟩
      have d2':ib+1<b.size:=by
       have:¬ ib+1=b.size:=by simpa using d2
       omega
      refine al (w8 v1 ?_)
      refine al (qqs O (S5.1.trans hk) (m.ga v v3) m.sb m.gb (by omega) (by omega) λk k1 k2 k3=>?_)
      have J3:=qj8 (k:=k) m J2 v2 λi x hi ex=>ah_t (k2 i x hi ex)
      try dsimp only
      refine xq (λc=>?_) λc=>?_
      ·refine xq (λd=>?_) λd=>?_
       ·exact aq ⟨S5,.inr ⟨_,rfl,Qg J3 (by simpa using d)⟩⟩
       have d3:ib+1+k<b.size:=by
        have:¬ ib+1+k=b.size:=by simpa using d
        omega
       obtain ⟨u',w1,w2,w3⟩:=xw (a:=b) d3
       have J4:=Qz m J3 v2 w2 (by have:=Q4 (k3 k u' (Nat.le_refl _) (by omega) w2);omega)
       refine al (w8 v1 ?_)
       try dsimp only
       refine xq (λd=>?_) λd=>?_
       ·exact aq ⟨S5,.inr ⟨_,rfl,yf J4 (by simpa using d) hl⟩⟩
       have d4:ia+1+1<a.size:=by
        have:¬ ia+1+1=a.size:=by simpa using d
        omega
       refine xq (λ_=>?_) λ_=>?_
       ·exact aq ⟨S5,.inl ⟨rfl,J4,d4,d3,by dsimp only;omega⟩⟩
       ·exact aq ⟨S5,rfl,J4,d4,d3,by dsimp only;omega⟩
      ·obtain rfl:k=0:=by omega
       obtain ⟨u',w1,w2,w3⟩:=xw (a:=b) d2'
       have J4:=Qz m J2 v2 w2 (by have:=Q4 (k3 0 u' (Nat.le_refl _) (by omega) w2);omega)
       refine al (w8 v1 ?_)
       try dsimp only
       refine xq (λd=>?_) λd=>?_
       ·exact aq ⟨S5,.inr ⟨_,rfl,yf J4 (by simpa using d) hl⟩⟩
       have d4:ia+1+1<a.size:=by
        have:¬ ia+1+1=a.size:=by simpa using d
        omega
       refine xq (λ_=>?_) λ_=>?_
       ·exact aq ⟨S5,.inl ⟨rfl,J4,d4,d2',by dsimp only;omega⟩⟩
       ·exact aq ⟨S5,rfl,J4,d4,d2',by dsimp only;omega⟩
     ·obtain rfl:k=0:=by omega
      obtain ⟨v,v1,v2,v3⟩:=xw (a:=a) (i:=ia) (by omega)
      have J2:=Z1 m J v2 u2 (nxt v v2)
      refine al (w8 u1 ?_)
      try dsimp only
      refine xq (λd2=>?_) λd2=>?_
      ·exact aq ⟨S5,.inr ⟨_,rfl,Qg J2 (by simpa using d2)⟩⟩
      have d2':ib+1<b.size:=by
       have:¬ ib+1=b.size:=by simpa using d2
       omega
      refine al (w8 v1 ?_)
      refine al (qqs O (S5.1.trans hk) (m.ga v v3) m.sb m.gb (by omega) (by omega) λk k1 k2 k3=>?_)
      have J3:=qj8 (k:=k) m J2 v2 λi x hi ex=>ah_t (k2 i x hi ex)
      try dsimp only
      refine xq (λc=>?_) λc=>?_
      ·refine xq (λd=>?_) λd=>?_
       ·exact aq ⟨S5,.inr ⟨_,rfl,Qg J3 (by simpa using d)⟩⟩
       have d3:ib+1+k<b.size:=by
        have:¬ ib+1+k=b.size:=by simpa using d
        omega
       obtain ⟨u',w1,w2,w3⟩:=xw (a:=b) d3
       have J4:=Qz m J3 v2 w2 (by have:=Q4 (k3 k u' (Nat.le_refl _) (by omega) w2);omega)
       refine al (w8 v1 ?_)
       try dsimp only
       refine xq (λd=>?_) λd=>?_
       ·exact aq ⟨S5,.inr ⟨_,rfl,yf J4 (by simpa using d) hl⟩⟩
       have d4:ia+1+1<a.size:=by
        have:¬ ia+1+1=a.size:=by simpa using d
        omega
       refine xq (λ_=>?_) λ_=>?_
       ·exact aq ⟨S5,.inl ⟨rfl,J4,d4,d3,by dsimp only;omega⟩⟩
       ·exact aq ⟨S5,rfl,J4,d4,d3,by dsimp only;omega⟩
      ·obtain rfl:k=0:=by omega
       obtain ⟨u',w1,w2,w3⟩:=xw (a:=b) d2'
       have J4:=Qz m J2 v2 w2 (by have:=Q4 (k3 0 u' (Nat.le_refl _) (by omega) w2);omega)
       refine al (w8 v1 ?_)
       try dsimp only
       refine xq (λd=>?_) λd=>?_
       ·exact aq ⟨S5,.inr ⟨_,rfl,yf J4 (by simpa using d) hl⟩⟩
       have d4:ia+1+1<a.size:=by
        have:¬ ia+1+1=a.size:=by simpa using d
        omega
       refine xq (λ_=>?_) λ_=>?_
       ·exact aq ⟨S5,.inl ⟨rfl,J4,d4,d2',by dsimp only;omega⟩⟩
       ·exact aq ⟨S5,rfl,J4,d4,d2',by dsimp only;omega⟩
end
end Tm
namespace Tm
open PySem PyProof.Rows
local macro_rules | `(tactic| walk_at "tim hi")=>do
 let n:=Lean.mkIdent (Lean.mkPrivateNameCore `PySem.Builtin.List.W1All `PySem.Builtin.mergeHi)
 `(tactic| unfold $n:ident)
section
variable {M:Model}{A:Around}{E:Value→Ab→Prop}{s:Ab}{G:Keyed→Prop}{kz:Keyed→Int}{kd:SortKind}{a b:Array Keyed}
abbrev HJA (kz:Keyed→Int)(a b:Array Keyed)(na nb:Nat)(out:Array Keyed):Prop:=HJ kz (a.toList++b.toList) (a.toList.take na) (b.toList.take nb) out.toList.reverse
theorem qjj (a:Array Keyed)(i:Nat):(a.extract 0 i).toList=a.toList.take i:=by
 rw [dA]
 simp [List.extract]
theorem qkh (a:Array Keyed)(i j:Nat):(a.extract i j).toList=(a.toList.drop i).take (j-i):=by
 rw [dA]
theorem qxm (l:List Keyed){i j:Nat}(h:i≤j):l.take j=l.take i++(l.drop i).take (j-i):=by
 rw [←List.take_add]
 congr 1
 omega
theorem Y3 {l:List Keyed}{i:Nat}{x:Keyed}(h:l[i]?=some x):l.take (i+1)=l.take i++[x]:=by
 obtain ⟨hi,rfl⟩:=ag.mp h
 simp
theorem Zc {out:Array Keyed}{nb:Nat}(h:HJA kz a b 0 nb out):Yp kz a b (a.extract 0 0++b.extract 0 nb++out.reverse):=by
 obtain ⟨x,y,p⟩:=h
 have e1:(a.extract 0 0++b.extract 0 nb++out.reverse).toList=b.toList.take nb++out.toList.reverse:=by
  rw [bD,bD,qjj,qjj]
  simp
 exact ⟨by rw [e1];exact y,by rw [e1];simpa using p⟩
theorem j8 {out:Array Keyed}{na:Nat}(hb:1≤b.size)(h:HJA kz a b na 1 out)(hl:∀y,b[0]?=some y→∀x∈a.toList,kz y<kz x):Yp kz a b (b.extract 0 1++a.extract 0 na++out.reverse):=by
 obtain ⟨x,y,p⟩:=h
 obtain ⟨z,z1,z2,z3⟩:=xw (a:=b) (i:=0) (by omega)
 have e1:(b.extract 0 1++a.extract 0 na++out.reverse).toList=b.toList.take 1++(a.toList.take na++out.toList.reverse):=by
  rw [bD,bD,qjj,qjj]
  simp
 have e2:b.toList.take 1=[z]:=by
  rw [Y3 z2]
  simp
 rw [e2] at y p
 refine ⟨?_,?_⟩
 ·rw [e1,e2]
  refine aX.mpr ⟨cV _ _,x,λu hu v hv=>?_⟩
  rcases aP.mp hv with hv'|hv'
  ·obtain rfl:=aG.mp hu
   exact hl u z1 v (cS hv')
  ·exact (aX.mp y).2.2 u hu v hv'
 ·rw [e1,e2]
  refine List.Perm.trans ?_ p
  rw [←aO,←aO]
  exact cB _ df
theorem Zu {out:Array Keyed}{na nb:Nat}{x y:Keyed}(m:Mg kz G a b)(h:HJA kz a b (na+1) (nb+1) out)(hx:a.toList[na]?=some x)(hy:b.toList[nb]?=some y)(c:kz y<kz x):HJA kz a b na (nb+1) (out.push x):=by
 have h':HJ kz (a.toList++b.toList) (a.toList.take na++[x]) (b.toList.take (nb+1)) out.toList.reverse:=by rw [←Y3 hx];exact h
 have:=h'.mvX λv hv u hu=>by
  obtain rfl:=aG.mp hu
  obtain ⟨j,hj,ej⟩:=Qy hv
  have:=m.sb.le (show j≤nb by omega) ej hy
  omega
 show HJ kz _ _ _ (out.push x).toList.reverse
 rw [cU,eF]
 exact this
theorem qwc {out:Array Keyed}{na nb:Nat}{x y:Keyed}(m:Mg kz G a b)(h:HJA kz a b (na+1) (nb+1) out)(hx:a.toList[na]?=some x)(hy:b.toList[nb]?=some y)(c:¬ kz y<kz x):HJA kz a b (na+1) nb (out.push y):=by
 have h':HJ kz (a.toList++b.toList) (a.toList.take (na+1)) (b.toList.take nb++[y]) out.toList.reverse:=by rw [←Y3 hy];exact h
 have ne:=m.ne x (aA hx) y (aA hy)
 have:=h'.mvY λv hv u hu=>by
  obtain rfl:=aG.mp hu
  obtain ⟨j,hj,ej⟩:=Qy hv
  have:=m.sa.le (show j≤na by omega) ej hx
  omega
 show HJ kz _ _ _ (out.push y).toList.reverse
 rw [cU,eF]
 exact this
theorem wuw {out:Array Keyed}{na nb p:Nat}{y:Keyed}(m:Mg kz G a b)(h:HJA kz a b na (nb+1) out)(hp:p≤na)(hy:b.toList[nb]?=some y)(c:∀i x,p≤i→i<na→a.toList[i]?=some x→kz y<kz x):HJA kz a b p (nb+1) (out++(a.extract p na).reverse):=by
 have h':HJ kz (a.toList++b.toList) (a.toList.take p++(a.toList.drop p).take (na-p)) (b.toList.take (nb+1)) out.toList.reverse:=by rw [←qxm _ hp];exact h
 have:=h'.mvX λv hv u hu=>by
  obtain ⟨i,hi1,hi2,ei⟩:=Qm hu
  obtain ⟨j,hj,ej⟩:=Qy hv
  have h1:=m.sb.le (show j≤nb by omega) ej hy
  have h2:=c i u hi1 (by omega) ei
  omega
 have e:(out++(a.extract p na).reverse).toList.reverse=(a.toList.drop p).take (na-p)++out.toList.reverse:=by
  rw [bD,Array.toList_reverse,qkh,eF,List.reverse_reverse]
 show HJ kz _ _ _ (out++(a.extract p na).reverse).toList.reverse
 rw [e]
 exact this
theorem qy3 {out:Array Keyed}{na nb p:Nat}{x:Keyed}(m:Mg kz G a b)(h:HJA kz a b (na+1) nb out)(hp:p≤nb)(hx:a.toList[na]?=some x)(c:∀i y,p≤i→i<nb→b.toList[i]?=some y→kz x≤kz y):HJA kz a b (na+1) p (out++(b.extract p nb).reverse):=by
 have h':HJ kz (a.toList++b.toList) (a.toList.take (na+1)) (b.toList.take p++(b.toList.drop p).take (nb-p)) out.toList.reverse:=by rw [←qxm _ hp];exact h
 have:=h'.mvY λv hv u hu=>by
  obtain ⟨i,hi1,hi2,ei⟩:=Qm hu
  obtain ⟨j,hj,ej⟩:=Qy hv
  have h1:=m.sa.le (show j≤na by omega) ej hx
  have h2:=c i u hi1 (by omega) ei
  have ne:=m.ne x (aA hx) u (aA ei)
  omega
 have e:(out++(b.extract p nb).reverse).toList.reverse=(b.toList.drop p).take (nb-p)++out.toList.reverse:=by
  rw [bD,Array.toList_reverse,qkh,eF,List.reverse_reverse]
 show HJ kz _ _ _ (out++(b.extract p nb).reverse).toList.reverse
 rw [e]
 exact this
theorem wxq {left:Bool}{key:Keyed}{arr:Array Keyed}{n hint:Nat}{st:SortSt}{Q:Option Nat→SortSt→Prop}(O:jm M A E s G kz kd)(hk:kindOf st=kd)(hG:G key)
  (sl:SL kz arr.toList) (hg:∀x∈arr.toList,G x) (hn:n≤arr.size) (hh:hint<n)
  (h:∀k,k≤n→(∀i x,i<k→arr.toList[i]?=some x→zg kz left key x=true)→(∀i x,k≤i→i<n→arr.toList[i]?=some x→zg kz left key x=false)→Q (some k) st) :
  wpS M A E s (Qc left key arr 0 n hint) Q st :=
 qqs O hk hG sl hg (by omega) hh λk k1 k2 k3=>h k k1 (λi x hi ex=>k2 i x hi (by rw [b8];exact ex)) λi x hi hi2 ex=>k3 i x hi hi2 (by rw [b8];exact ex)
theorem qyw {st:SortSt}{Q:Array Keyed→SortSt→Prop}(O:jm M A E s G kz kd)(hk:kindOf st=kd)(m:Mg kz G a b)(ha:1≤a.size)(hb:1≤b.size)
  (h0:∀y,b[0]?=some y→∀x∈a.toList,kz y<kz x) (hl:∀x,a[a.size-1]?=some x→∀y∈b.toList,kz y<kz x) (h:∀r st',SameSt st st'→Yp kz a b r→Q r st'):wpS M A E s (qyh a b) Q st:=by
 unfold qyh
 walk_at "tim hi"
 dsimp only
 refine al (gH (bW ⟨rfl,?_⟩))
 obtain ⟨y0,f1,f2,f3⟩:=xw (a:=b) (i:=b.size-1) (by omega)
 obtain ⟨x0,e1,e2,e3⟩:=xw (a:=a) (i:=a.size-1) (by omega)
 refine al (w8 e1 ?_)
 have tk:∀c:Array Keyed,c.toList.take c.size=c.toList:=λc=>bP (by simp)
 have J0:HJA kz a b (a.size-1) b.size #[x0]:=by
  have st:HJA kz a b (a.size-1+1) (b.size-1+1) #[]:=by
   have ea:a.size-1+1=a.size:=by omega
   have eb:b.size-1+1=b.size:=by omega
   show HJ kz _ (a.toList.take (a.size-1+1)) (b.toList.take (b.size-1+1)) _
   rw [ea,eb,tk,tk]
   exact ⟨by simpa using m.sa,by simpa using m.sb,by simp⟩
  have:=Zu m st e2 f2 (hl _ e1 _ f3)
  have eb:b.size-1+1=b.size:=by omega
  rw [eb] at this
  exact this
 refine xq (λc1=>?_) λc1=>?_
 ·have e:a.size-1=0:=by simpa using c1
  rw [e] at J0 ⊢
  exact aq (h _ _ (SameSt.rfl' _) (Zc J0))
 refine xq (λc2=>?_) λc2=>?_
 ·have e:b.size=1:=by simpa using c2
  rw [e] at J0 ⊢
  exact aq (h _ _ (SameSt.rfl' _) (j8 hb J0 h0))
 have c1':1≤a.size-1:=by
  have:¬ a.size-1=0:=by simpa using c1
  omega
 have c2':2≤b.size:=by
  have:¬ b.size=1:=by simpa using c2
  omega
 refine al (fQ ?_)
 refine al (dU (bQ (I:=λt (c:Option (Array Keyed)×Nat×Nat×Array Keyed×Nat) st'=>SameSt st st'∧c.1=none∧HJA kz a b c.2.1 c.2.2.1 c.2.2.2.1∧1≤c.2.1∧2≤c.2.2.1∧c.2.1≤a.size∧c.2.2.1≤b.size∧c.2.1+c.2.2.1+t+1≤a.size+b.size)
  (Q:=λc st'=>SameSt st st'∧∃r,c.1=some r∧Yp kz a b r) ?step ?fin ⟨SameSt.rfl' _,rfl,J0,c1',c2',by dsimp only;omega,Nat.le_refl _,by dsimp only;omega⟩) ?post)
 case post =>
  rintro ⟨r,c⟩ st' ⟨S,r',hr,F⟩
  dsimp only at hr ⊢
  subst hr
  exact aq (h _ _ S F)
 case fin =>
  rintro ⟨r,na,nb,out,mg⟩ st' ⟨S,_,_,x1,x2,_,_,x3⟩
  dsimp only at x1 x2 x3
  omega
 case step =>
  rintro t ⟨r,na,nb,out,mg⟩ st1 _ ht ⟨S1,hr,J,x1,x2,xa,xb,x3⟩
  dsimp only at hr J x1 x2 xa xb x3 ⊢
  subst hr
  refine al (dU (bQ (I:=λx (c:Option (Array Keyed)×Nat×Nat×Array Keyed×Nat×Nat) st'=>SameSt st st'∧c.1=none∧HJA kz a b c.2.1 c.2.2.1 c.2.2.2.1∧1≤c.2.1∧2≤c.2.2.1∧c.2.1≤a.size∧c.2.2.1≤b.size∧c.2.1+c.2.2.1+t+1+x≤a.size+b.size)
   (Q:=λc st'=>SameSt st st'∧((c.1=none∧HJA kz a b c.2.1 c.2.2.1 c.2.2.2.1∧1≤c.2.1∧2≤c.2.2.1∧c.2.1≤a.size∧c.2.2.1≤b.size∧c.2.1+c.2.2.1+t+2≤a.size+b.size)∨∃r,c.1=some r∧Yp kz a b r)) ?sstep ?sfin ⟨S1,rfl,J,x1,x2,xa,xb,x3⟩) ?spost)
  case sfin =>
   rintro ⟨r,na,nb,out,ac,bc⟩ st' ⟨S,hr,J,x1,x2,xa,xb,x3⟩
   dsimp only at hr J x1 x2 xa xb x3
   exact ⟨S,.inl ⟨hr,J,x1,x2,xa,xb,by dsimp only;omega⟩⟩
  case sstep =>
   rintro x ⟨r,na,nb,out,ac,bc⟩ st2 _ hx ⟨S2,hr,J,x1,x2,xa,xb,x3⟩
   dsimp only at hr J x1 x2 xa xb x3 ⊢
   subst hr
   obtain ⟨na,rfl⟩:∃n,na=n+1:=⟨na-1,by omega⟩
   obtain ⟨nb,rfl⟩:∃n,nb=n+1:=⟨nb-1,by omega⟩
   dsimp only [Nat.add_one_sub_one]
   obtain ⟨u,u1,u2,u3⟩:=xw (a:=b) (i:=nb) (by omega)
   obtain ⟨v,v1,v2,v3⟩:=xw (a:=a) (i:=na) (by omega)
   refine al (w8 u1 (al (w8 v1 ?_)))
   refine al (O u v _ _ (m.gb u u3) (m.ga v v3) (S2.1.trans hk) ?_)
   dsimp only
   refine xq (λc=>?_) λc=>?_
   ·have c:=bh c
    refine al (w8 v1 ?_)
    have J':=Zu m J v2 u2 c
    refine xq (λd=>?_) λd=>?_
    ·have e:na=0:=by simpa using d
     subst e
     exact aq ⟨S2,.inr ⟨_,rfl,Zc J'⟩⟩
    have d':1≤na:=by
     have:¬ na=0:=by simpa using d
     omega
    refine xq (λ_=>?_) λ_=>?_
    ·exact aq ⟨S2,.inl ⟨rfl,J',d',x2,by dsimp only;omega,xb,by dsimp only;omega⟩⟩
    ·exact aq ⟨S2,rfl,J',d',x2,by dsimp only;omega,xb,by dsimp only;omega⟩
   ·have c:¬ (kz u<kz v):=by simpa using c
    refine al (w8 u1 ?_)
    have J':=qwc m J v2 u2 c
    refine xq (λd=>?_) λd=>?_
    ·have e:nb=1:=by simpa using d
     subst e
     exact aq ⟨S2,.inr ⟨_,rfl,j8 hb J' h0⟩⟩
    have d':2≤nb:=by
     have:¬ nb=1:=by simpa using d
     omega
    refine xq (λ_=>?_) λ_=>?_
    ·exact aq ⟨S2,.inl ⟨rfl,J',x1,d',xa,by dsimp only;omega,by dsimp only;omega⟩⟩
    ·exact aq ⟨S2,rfl,J',x1,d',xa,by dsimp only;omega,by dsimp only;omega⟩
  case spost =>
   rintro ⟨r,na,nb,out,ac,bc⟩ st2 ⟨S2,hc|⟨r',hr,F⟩⟩
   case inr =>
    dsimp only at hr ⊢
    subst hr
    exact aq ⟨S2,r',rfl,F⟩
   obtain ⟨hr,J,x1,x2,xa,xb,x3⟩:=hc
   dsimp only at hr J x1 x2 xa xb x3 ⊢
   subst hr
   dsimp only
   refine al (gH (bW ⟨rfl,?_⟩))
   refine al (dU (bQ (I:=λx (c:Option (Array Keyed)×Nat×Nat×Array Keyed×Nat×Nat×Nat) st'=>SameSt st st'∧c.1=none∧HJA kz a b c.2.1 c.2.2.1 c.2.2.2.1∧1≤c.2.1∧2≤c.2.2.1∧c.2.1≤a.size∧c.2.2.1≤b.size∧c.2.1+c.2.2.1+t+2≤a.size+b.size)
    (Q:=λc st'=>SameSt st st'∧((c.1=none∧HJA kz a b c.2.1 c.2.2.1 c.2.2.2.1∧1≤c.2.1∧2≤c.2.2.1∧c.2.1≤a.size∧c.2.2.1≤b.size∧c.2.1+c.2.2.1+t+2≤a.size+b.size)∨∃r,c.1=some r∧Yp kz a b r)) ?gstep ?gfin ⟨S2,rfl,J,x1,x2,xa,xb,x3⟩) ?gpost)
   case gfin =>
    rintro ⟨r,na,nb,out,mg,ac,bc⟩ st' ⟨S,hr,J,x1,x2,xa,xb,x3⟩
    exact ⟨S,.inl ⟨hr,J,x1,x2,xa,xb,x3⟩⟩
   case gpost =>
    rintro ⟨r,na,nb,out,mg,ac,bc⟩ st3 ⟨S3,hc|⟨r',hr,F⟩⟩
    ·obtain ⟨hr,J,x1,x2,xa,xb,x3⟩:=hc
     dsimp only at hr J x1 x2 xa xb x3 ⊢
     subst hr
     dsimp only
     refine al (Zz λst4 S4=>?_)
     exact aq ⟨S3.trans S4,rfl,J,x1,x2,xa,xb,by dsimp only;omega⟩
    ·dsimp only at hr ⊢
     subst hr
     exact aq ⟨S3,r',rfl,F⟩
   case gstep =>
    rintro x ⟨r,na,nb,out,mg,ac,bc⟩ st3 _ hx ⟨S3,hr,J,x1,x2,xa,xb,x3⟩
    dsimp only at hr J x1 x2 xa xb x3 ⊢
    subst hr
    obtain ⟨nb,rfl⟩:∃n,nb=n+1:=⟨nb-1,by omega⟩
    dsimp only [Nat.add_one_sub_one]
    obtain ⟨u,u1,u2,u3⟩:=xw (a:=b) (i:=nb) (by omega)
    revert mg
    refine qu2 (λ_=>rfl) λmg=>?_
    all_goals
     refine al (Zz λst4 S4=>?_)
     have S5:=S3.trans S4
     refine al (w8 u1 ?_)
     refine al (wxq O (S5.1.trans hk) (m.gb u u3) m.sa m.ga xa (by omega) λp k1 k2 k3=>?_)
     have J':=wuw m J k1 u2 λi x hi hi2 ex=>wyh (k3 i x hi hi2 ex)
     try dsimp only
     by_cases c:na-p>0
     case pos =>
      rw [if_pos c]
      refine xq (λd=>?_) λd=>?_
      ·have e:p=0:=by simpa using d
       subst e
       exact aq ⟨S5,.inr ⟨_,rfl,Zc J'⟩⟩
      have d':1≤p:=by
       have:¬ p=0:=by simpa using d
       omega
      have prv:∀x,a.toList[p-1]?=some x→¬ kz u<kz x:=λx ex=>by
       have:=ah_f (k2 (p-1) x (by omega) ex)
       omega
      have xa':p≤a.size:=by omega
      have x3':p+(nb+1)+t+2≤a.size+b.size:=by omega
      generalize out++(a.extract p na).reverse=out at J' ⊢
      obtain ⟨na,rfl⟩:∃n,p=n+1:=⟨p-1,by omega⟩
      dsimp only [Nat.add_one_sub_one] at prv ⊢
      obtain ⟨v,v1,v2,v3⟩:=xw (a:=a) (i:=na) (by omega)
      have J2:=qwc m J' v2 u2 (prv v v2)
      refine al (w8 u1 ?_)
      try dsimp only
      refine xq (λd2=>?_) λd2=>?_
      ·have e:nb=1:=by simpa using d2
       subst e
       exact aq ⟨S5,.inr ⟨_,rfl,j8 hb J2 h0⟩⟩
      have d2':2≤nb:=by
       have:¬ nb=1:=by simpa using d2
       omega
      refine al (w8 v1 ?_)
      refine al (wxq O (S5.1.trans hk) (m.ga v v3) m.sb m.gb (by omega) (by omega) λq k1 k2 k3=>?_)
      have J3:=qy3 m J2 k1 v2 λi x hi hi2 ex=>Q4 (k3 i x hi hi2 ex)
      have q1:1≤q:=by
       rcases aV 0 q with z|z
       ·exact z
       ·exfalso
        obtain ⟨w,w1,w2,w3⟩:=xw (a:=b) (i:=0) (by omega)
        have:=Q4 (k3 0 w (by omega) (by omega) w2)
        have:=h0 w w1 v v3
        omega
      have prv2:∀y,b.toList[q-1]?=some y→kz y<kz v:=λy ey=>ah_t (k2 (q-1) y (by omega) ey)
      try dsimp only
      by_cases c:nb-q>0
      case' pos =>
       rw [if_pos c]
       refine xq (λd=>?_) λd=>?_
       ·have e:q=1:=by simpa using d
        subst e
        exact aq ⟨S5,.inr ⟨_,rfl,j8 hb J3 h0⟩⟩
       refine qjk (by simp;omega) ?_
       have d3:2≤q:=by
        have:¬ q=1:=by simpa using d
        omega
       have d5:q≤nb:=k1
       generalize out.push u++(b.extract q nb).reverse=out2 at J3 ⊢
      case' neg =>
       rw [if_neg c]
       obtain rfl:q=nb:=by omega
       have d3:2≤q:=d2'
       have d5:q≤q:=k1
       clear J3
       have J3:=J2
       generalize out.push u=out2 at J3 ⊢
      all_goals
       obtain ⟨q,rfl⟩:∃n,q=n+1:=⟨q-1,by omega⟩
       dsimp only [Nat.add_one_sub_one] at prv2
       obtain ⟨w,w1,w2,w3⟩:=xw (a:=b) (i:=q) (by omega)
       have J4:=Zu m J3 v2 w2 (prv2 w w2)
       refine al (w8 v1 ?_)
       try dsimp only
       refine xq (λd=>?_) λd=>?_
       ·have e:na=0:=by simpa using d
        subst e
        exact aq ⟨S5,.inr ⟨_,rfl,Zc J4⟩⟩
       have d4:1≤na:=by
        have:¬ na=0:=by simpa using d
        omega
       refine xq (λ_=>?_) λ_=>?_
       ·exact aq ⟨S5,.inl ⟨rfl,J4,d4,d3,by dsimp only;omega,by dsimp only;omega,by dsimp only;omega⟩⟩
       ·exact aq ⟨S5,rfl,J4,d4,d3,by dsimp only;omega,by dsimp only;omega,by dsimp only;omega⟩
     case neg =>
      rw [if_neg c]
      obtain rfl:p=na:=by omega
      have prv:∀x,a.toList[p-1]?=some x→¬ kz u<kz x:=λx ex=>by
       have:=ah_f (k2 (p-1) x (by omega) ex)
       omega
      clear J'
      have J':=J
      obtain ⟨na,rfl⟩:∃n,p=n+1:=⟨p-1,by omega⟩
      dsimp only [Nat.add_one_sub_one] at prv ⊢
      obtain ⟨v,v1,v2,v3⟩:=xw (a:=a) (i:=na) (by omega)
      have J2:=qwc m J' v2 u2 (prv v v2)
      refine al (w8 u1 ?_)
      try dsimp only
      refine xq (λd2=>?_) λd2=>?_
      ·have e:nb=1:=by simpa using d2
       subst e
       exact aq ⟨S5,.inr ⟨_,rfl,j8 hb J2 h0⟩⟩
      have d2':2≤nb:=by
       have:¬ nb=1:=by simpa using d2
       omega
      refine al (w8 v1 ?_)
      refine al (wxq O (S5.1.trans hk) (m.ga v v3) m.sb m.gb (by omega) (by omega) λq k1 k2 k3=>?_)
      have J3:=qy3 m J2 k1 v2 λi x hi hi2 ex=>Q4 (k3 i x hi hi2 ex)
      have q1:1≤q:=by
       rcases aV 0 q with z|z
       ·exact z
       ·exfalso
        obtain ⟨w,w1,w2,w3⟩:=xw (a:=b) (i:=0) (by omega)
        have:=Q4 (k3 0 w (by omega) (by omega) w2)
        have:=h0 w w1 v v3
        omega
      have prv2:∀y,b.toList[q-1]?=some y→kz y<kz v:=λy ey=>ah_t (k2 (q-1) y (by omega) ey)
      try dsimp only
      by_cases c:nb-q>0
      case' pos =>
       rw [if_pos c]
       refine xq (λd=>?_) λd=>?_
       ·have e:q=1:=by simpa using d
        subst e
        exact aq ⟨S5,.inr ⟨_,rfl,j8 hb J3 h0⟩⟩
       refine qjk (by simp;omega) ?_
       have d3:2≤q:=by
        have:¬ q=1:=by simpa using d
        omega
       have d5:q≤nb:=k1
       generalize out.push u++(b.extract q nb).reverse=out2 at J3 ⊢
      case' neg =>
       rw [if_neg c]
       obtain rfl:q=nb:=by omega
       have d3:2≤q:=d2'
       have d5:q≤q:=k1
       clear J3
       have J3:=J2
       generalize out.push u=out2 at J3 ⊢
      all_goals
       obtain ⟨q,rfl⟩:∃n,q=n+1:=⟨q-1,by omega⟩
       dsimp only [Nat.add_one_sub_one] at prv2
       obtain ⟨w,w1,w2,w3⟩:=xw (a:=b) (i:=q) (by omega)
       have J4:=Zu m J3 v2 w2 (prv2 w w2)
       refine al (w8 v1 ?_)
       try dsimp only
       refine xq (λd=>?_) λd=>?_
       ·have e:na=0:=by simpa using d
        subst e
        exact aq ⟨S5,.inr ⟨_,rfl,Zc J4⟩⟩
       have d4:1≤na:=by
        have:¬ na=0:=by simpa using d
        omega
       refine xq (λ_=>?_) λ_=>?_
       ·exact aq ⟨S5,.inl ⟨rfl,J4,d4,d3,by dsimp only;omega,by dsimp only;omega,by dsimp only;omega⟩⟩
       ·exact aq ⟨S5,rfl,J4,d4,d3,by dsimp only;omega,by dsimp only;omega,by dsimp only;omega⟩
end
end Tm
namespace Tm
open PySem PyProof.Rows
section
variable {M:Model}{A:Around}{E:Value→Ab→Prop}{s:Ab}{G:Keyed→Prop}{kz:Keyed→Int}{kd:SortKind}
def Srt (kz:Keyed→Int)(xs:Array Keyed)(lo hi:Nat):Prop:=∀i j x y,lo≤i→i<j→j<hi→xs[i]?=some x→xs[j]?=some y→kz x<kz y
def Dsc (kz:Keyed→Int)(xs:Array Keyed)(lo hi:Nat):Prop:=∀i j x y,lo≤i→i<j→j<hi→xs[i]?=some x→xs[j]?=some y→kz y<kz x
structure Un (kz:Keyed→Int)(G:Keyed→Prop)(xs:Array Keyed):Prop where
 ne:xs.toList.Pairwise λx y=>kz x≠kz y
 g:∀x∈xs.toList,G x
theorem Un.perm {xs ys:Array Keyed}(u:Un kz G xs)(p:ys.Perm xs):Un kz G ys:=by
 have p':=dc.mp p
 exact ⟨(p'.pairwise_iff (λ{a b} h=>dt h)).mpr u.ne,λx hx=>u.g x (p'.mem_iff.mp hx)⟩
theorem Un.at_ {xs:Array Keyed}(u:Un kz G xs){i:Nat}(h:i<xs.size):∃x,xs[i]?=some x∧G x:=by
 obtain ⟨x,e1,_,e3⟩:=xw h
 exact ⟨x,e1,u.g x e3⟩
theorem Un.ne_at {xs:Array Keyed}(u:Un kz G xs){i j:Nat}{x y:Keyed}(hij:i<j)(hx:xs[i]?=some x)(hy:xs[j]?=some y):kz x≠kz y:=by
 rw [←aC] at hx hy
 obtain ⟨hi,rfl⟩:=ag.mp hx
 obtain ⟨hj,rfl⟩:=ag.mp hy
 exact bg.mp u.ne i j hi hj hij
theorem Yb {st:SortSt}{i j:Nat}{x y:Keyed}{Q:Option Bool→SortSt→Prop}(O:jm M A E s G kz kd)(hk:kindOf st=kd)(hx:(arrOf st)[i]?=some x)(hy:(arrOf st)[j]?=some y)(gx:G x)(gy:G y)
  (h:Q (some (decide (kz x<kz y))) st):wpS M A E s (ltAt' i j) Q st:=by
 rw [ltAt'_eq]
 refine al (fQ ?_)
 exact al (w8 hx (al (w8 hy (O _ _ _ _ gx gy hk h))))
structure Ip (lo:Nat)(st st':SortSt):Prop where
 k:kindOf st'=kindOf st
 p:pendingOf st'=pendingOf st
 f:failedOf st'=failedOf st
 a:(arrOf st').Perm (arrOf st)
 low:∀i,i<lo→(arrOf st')[i]?=(arrOf st)[i]?
theorem Ip.rfl' (lo:Nat)(st:SortSt):Ip lo st st:=⟨rfl,rfl,rfl,.refl _,λ_ _=>rfl⟩
theorem Ip.trans {lo:Nat}{a b c:SortSt}(h:Ip lo a b)(k:Ip lo b c):Ip lo a c:=⟨k.k.trans h.k,k.p.trans h.p,k.f.trans h.f,k.a.trans h.a,λi hi=>(k.low i hi).trans (h.low i hi)⟩
theorem ip_bub {lo src d:Nat}{st:SortSt}(h:src<(arrOf st).size)(hd:lo+d≤src):Ip lo st (setArr st (bubble (arrOf st) src d)):=by
 refine ⟨rfl,rfl,rfl,bubble_perm _ _ _,λi hi=>?_⟩
 show (bubble (arrOf st) src d)[i]?=_
 rw [getElem?_bubble h d (by omega),if_neg (by omega),if_neg (by omega)]
theorem ip_mir {lo i j:Nat}{st:SortSt}(hj:j≤(arrOf st).size)(hi:lo≤i):Ip lo st (setArr st (mirror (arrOf st) i j ((j-i)/2))):=by
 refine ⟨rfl,rfl,rfl,mirror_perm _ _ _ _,λk hk=>?_⟩
 show (mirror (arrOf st) i j ((j-i)/2))[k]?=_
 rw [getElem?_mirror_all hj,if_neg (by omega)]
theorem Srt.one (xs:Array Keyed)(lo:Nat):Srt kz xs lo (lo+1):=λi j x y a b c _ _=>by omega
theorem Srt.snoc {xs:Array Keyed}{lo hi:Nat}{x y:Keyed}(h:Srt kz xs lo (hi+1))(hlo:lo≤hi)(hx:xs[hi]?=some x)(hy:xs[hi+1]?=some y)(c:kz x<kz y):Srt kz xs lo (hi+1+1):=by
 intro i j u v a b d eu ev
 by_cases e:j=hi+1
 ·subst e
  rw [hy] at ev
  cases ev
  by_cases e2:i=hi
  ·subst e2
   rw [hx] at eu
   cases eu
   exact c
  ·have:=h i hi u x a (by omega) (by omega) eu hx
   omega
 ·exact h i j u v a b (by omega) eu ev
theorem Dsc.snoc {xs:Array Keyed}{lo hi:Nat}{x y:Keyed}(h:Dsc kz xs lo (hi+1))(hlo:lo≤hi)(hx:xs[hi]?=some x)(hy:xs[hi+1]?=some y)(c:kz y<kz x):Dsc kz xs lo (hi+1+1):=by
 intro i j u v a b d eu ev
 by_cases e:j=hi+1
 ·subst e
  rw [hy] at ev
  cases ev
  by_cases e2:i=hi
  ·subst e2
   rw [hx] at eu
   cases eu
   exact c
  ·have:=h i hi u x a (by omega) (by omega) eu hx
   omega
 ·exact h i j u v a b (by omega) eu ev
theorem Dsc.turn {xs:Array Keyed}{lo n:Nat}(h:Dsc kz xs lo (lo+n))(hs:lo+n≤xs.size):Srt kz (mirror xs lo (lo+n) ((lo+n-lo)/2)) lo (lo+n):=by
 intro i j u v a b d eu ev
 rw [getElem?_mirror_all hs,if_pos ⟨by omega,by omega⟩] at eu ev
 exact h _ _ v u (by omega) (by omega) (by omega) ev eu
theorem xqr {st:SortSt}{lo n0 nrem:Nat}{f:Nat→Option (Option Nat)×Nat→StateT SortSt Sem (ForInStep (Option (Option Nat)×Nat))}{Q:Option (Option Nat)×Nat→SortSt→Prop}
  (hf:∀i n (R:ForInStep (Option (Option Nat)×Nat)→SortSt→Prop),1≤n→n<nrem→(∀x y,(arrOf st)[lo+n-1]?=some x→(arrOf st)[lo+n]?=some y→(kz y<kz x→R (.done (none,n)) st)∧(¬ kz y<kz x→R (.yield (none,n+1)) st))→wpS M A E s (f i (none,n)) R st)
  (u:Un kz G (arrOf st)) (h0:1≤n0) (hn:n0≤nrem) (hz:lo+nrem≤(arrOf st).size) (sr:Srt kz (arrOf st) lo (lo+n0))
  (h:∀n,n0≤n→n≤nrem→Srt kz (arrOf st) lo (lo+n)→(n=nrem∨∀x y,(arrOf st)[lo+n-1]?=some x→(arrOf st)[lo+n]?=some y→kz y<kz x)→Q (none,n) st) :
  wpS M A E s (forIn [n0:nrem] ((none,n0):Option (Option Nat)×Nat) f) Q st:=by
 refine bQ (I:=λi (c:Option (Option Nat)×Nat) st'=>st'=st∧c=(none,i)∧n0≤i∧Srt kz (arrOf st) lo (lo+i)) ?step ?fin ⟨rfl,rfl,Nat.le_refl _,sr⟩
 case fin =>
  rintro c st' ⟨rfl,rfl,x1,x2⟩
  have e:max n0 nrem=nrem:=by omega
  rw [e] at x1 x2 ⊢
  exact h _ x1 (Nat.le_refl _) x2 (.inl rfl)
 case step =>
  rintro i c st' hi hi2 ⟨rfl,rfl,x1,x2⟩
  refine hf _ _ _ (by omega) hi2 λx y ex ey=>⟨λc=>?_,λc=>?_⟩
  ·refine h i x1 (by omega) x2 (.inr λx' y' ex' ey'=>?_)
   rw [ex] at ex'
   rw [ey] at ey'
   cases ex'
   cases ey'
   exact c
  ·have ne:=u.ne_at (show lo+i-1<lo+i by omega) ex ey
   refine ⟨rfl,rfl,by omega,?_⟩
   obtain ⟨m,e⟩:∃m,lo+i=m+1:=⟨lo+i-1,by omega⟩
   rw [show lo+(i+1)=m+1+1 by omega]
   rw [e] at x2 ey ex
   exact x2.snoc (by omega) (by simpa using ex) ey (by omega)
theorem wkm {st:SortSt}{lo nrem:Nat}{Q:Option Nat→SortSt→Prop}(O:jm M A E s G kz kd)(hk:kindOf st=kd)(u:Un kz G (arrOf st))(h1:1≤nrem)(hz:lo+nrem≤(arrOf st).size)
  (h:∀n st',1≤n→n≤nrem→Ip lo st st'→Srt kz (arrOf st') lo (lo+n)→Q (some n) st'):wpS M A E s (countRun' lo nrem) Q st:=by
 rw [countRun'_eq]
 dsimp only
 refine al (xqr (lo:=lo) (n0:=1) (nrem:=nrem) (λi n R n1 n2 hR=>?_) u (Nat.le_refl _) h1 hz (Srt.one _ _) λn n1 n2 sr hor=>?_)
 ·obtain ⟨x,ex,gx⟩:=u.at_ (i:=lo+n-1) (by omega)
  obtain ⟨y,ey,gy⟩:=u.at_ (i:=lo+n) (by omega)
  have:=hR x y ex ey
  dsimp only
  refine al (Yb O hk ey ex gy gx ?_)
  dsimp only
  by_cases c:kz y<kz x
  ·rw [if_pos (decide_eq_true c)]
   exact aq (this.1 c)
  ·rw [if_neg (by simpa using c)]
   exact aq (this.2 c)
 dsimp only
 by_cases c:(n==nrem)=true
 ·rw [if_pos c]
  exact aq (h n st n1 n2 (Ip.rfl' _ _) sr)
 rw [if_neg c]
 have c':n<nrem:=by
  have:¬ n=nrem:=by simpa using c
  omega
 by_cases c2:n>1
 ·rw [if_pos c2]
  obtain ⟨x,ex,gx⟩:=u.at_ (i:=lo) (by omega)
  obtain ⟨y,ey,gy⟩:=u.at_ (i:=lo+n-1) (by omega)
  refine al (Yb O hk ex ey gx gy ?_)
  dsimp only
  rw [if_pos (decide_eq_true (sr lo (lo+n-1) x y (Nat.le_refl _) (by omega) (by omega) ex ey))]
  exact aq (h n st n1 n2 (Ip.rfl' _ _) sr)
 rw [if_neg c2]
 obtain rfl:n=1:=by omega
 refine al (gH (bW ⟨rfl,?_⟩))
 have fall:=hor.resolve_left (by omega)
 have d0:Dsc kz (arrOf st) lo (lo+(1+1)):=by
  obtain ⟨x,ex,gx⟩:=u.at_ (i:=lo) (by omega)
  obtain ⟨y,ey,gy⟩:=u.at_ (i:=lo+1) (by omega)
  exact Dsc.snoc (hi:=lo) (λi j u v a b d _ _=>by omega) (Nat.le_refl _) ex ey (fall x y (by simpa using ex) ey)
 refine al (dU (bQ (I:=λi (c:Option (Option Nat)×Nat×Nat) st'=>st'=st∧c=(none,i,0)∧2≤i∧i≤nrem∧Dsc kz (arrOf st) lo (lo+i))
  (Q:=λc st'=>st'=st∧∃i,c=(none,i,0)∧2≤i∧i≤nrem∧Dsc kz (arrOf st) lo (lo+i)) ?step ?fin ⟨rfl,rfl,Nat.le_refl _,by omega,d0⟩) ?post)
 case fin =>
  rintro c st' ⟨rfl,rfl,x1,x2,x3⟩
  exact ⟨rfl,_,rfl,x1,x2,x3⟩
 case step =>
  rintro i c st' hi hi2 ⟨rfl,rfl,x1,x2,x3⟩
  dsimp only
  obtain ⟨x,ex,gx⟩:=u.at_ (i:=lo+i-1) (by omega)
  obtain ⟨y,ey,gy⟩:=u.at_ (i:=lo+i) (by omega)
  refine al (Yb O hk ey ex gy gx ?_)
  dsimp only
  have ne:=u.ne_at (show lo+i-1<lo+i by omega) ex ey
  by_cases c:kz y<kz x
  ·rw [if_pos (decide_eq_true c)]
   rw [if_neg (aI 0)]
   refine aq ⟨rfl,rfl,by omega,by omega,?_⟩
   obtain ⟨m,e⟩:∃m,lo+i=m+1:=⟨lo+i-1,by omega⟩
   rw [show lo+(i+1)=m+1+1 by omega]
   rw [e] at x3 ey ex
   exact x3.snoc (by omega) (by simpa using ex) ey c
  ·rw [if_neg (by simpa using c)]
   refine al (Yb O hk ex ey gx gy ?_)
   dsimp only
   rw [if_pos (decide_eq_true (show kz x<kz y by omega))]
   exact aq ⟨rfl,i,rfl,x1,x2,x3⟩
 case post =>
  rintro c st' ⟨rfl,i,rfl,x1,x2,x3⟩
  dsimp only
  rw [if_neg (aI 0)]
  refine al ?_
  rw [reverseSlice'_eq]
  refine eP ?_
  have ip:=ip_mir (lo:=lo) (i:=lo) (j:=lo+i) (st:=st') (by omega) (Nat.le_refl _)
  have sr2:Srt kz (arrOf (setArr st' (mirror (arrOf st') lo (lo+i) ((lo+i-lo)/2)))) lo (lo+i):=x3.turn (by omega)
  generalize setArr st' (mirror (arrOf st') lo (lo+i) ((lo+i-lo)/2))=st2 at ip sr2 ⊢
  have u2:=u.perm ip.a
  have z2:(arrOf st2).size=(arrOf st').size:=ip.a.size_eq
  refine al (xqr (lo:=lo) (n0:=i) (nrem:=nrem) (λi n R n1 n2 hR=>?_) u2 (by omega) x2 (by omega) sr2 λn n1 n2 sr hor=>?_)
  ·obtain ⟨x,ex,gx⟩:=u2.at_ (i:=lo+n-1) (by omega)
   obtain ⟨y,ey,gy⟩:=u2.at_ (i:=lo+n) (by omega)
   have:=hR x y ex ey
   dsimp only
   refine al (Yb O (ip.k.trans hk) ey ex gy gx ?_)
   dsimp only
   by_cases c:kz y<kz x
   ·rw [if_pos (decide_eq_true c)]
    exact aq (this.1 c)
   ·rw [if_neg (by simpa using c)]
    exact aq (this.2 c)
  exact aq (h n st2 (by omega) n2 ip sr)
theorem xzm {st:SortSt}{lo n ok:Nat}{Q:Bool→SortSt→Prop}(O:jm M A E s G kz kd)(hk:kindOf st=kd)(u:Un kz G (arrOf st))(h1:1≤ok)(hok:ok≤n)(hz:lo+n≤(arrOf st).size)(sr:Srt kz (arrOf st) lo (lo+ok))
  (h:∀st',Ip lo st st'→Srt kz (arrOf st') lo (lo+n)→Q true st'):wpS M A E s (binarySort' lo n ok) Q st:=by
 rw [binarySort'_eq]
 have em:max ok 1=ok:=by omega
 rw [em]
 refine al (dU (bQ (I:=λk c st'=>c=(none,())∧Ip lo st st'∧Srt kz (arrOf st') lo (lo+k)) (Q:=λc st'=>c=(none,())∧Ip lo st st'∧Srt kz (arrOf st') lo (lo+n)) ?step ?fin ⟨rfl,Ip.rfl' _ _,sr⟩) ?post)
 case fin =>
  rintro c st' ⟨rfl,x1,x2⟩
  rw [show max ok n=n by omega] at x2
  exact ⟨rfl,x1,x2⟩
 case post =>
  rintro c st' ⟨rfl,x1,x2⟩
  exact aq (h st' x1 x2)
 case step =>
  rintro k c st1 hk1 hk2 ⟨rfl,ip,s1⟩
  dsimp only
  have u1:=u.perm ip.a
  have z1:(arrOf st1).size=(arrOf st).size:=ip.a.size_eq
  obtain ⟨x,ex,gx⟩:=u1.at_ (i:=lo+k) (by omega)
  refine al (dU (bQ (I:=λi (c:Option Bool×Nat×Nat) st'=>st'=st1∧c.1=none∧c.2.1≤c.2.2∧c.2.2≤k∧c.2.2-c.2.1≤k-i∧(∀j y,j<c.2.1→(arrOf st1)[lo+j]?=some y→kz y<kz x)∧(∀j y,c.2.2≤j→j<k→(arrOf st1)[lo+j]?=some y→kz x<kz y))
   (Q:=λc st'=>st'=st1∧∃l r,c=(none,l,r)∧l≤k∧(∀j y,j<l→(arrOf st1)[lo+j]?=some y→kz y<kz x)∧(∀j y,l≤j→j<k→(arrOf st1)[lo+j]?=some y→kz x<kz y)) ?step2 ?fin2 ⟨rfl,rfl,aN _,Nat.le_refl _,by dsimp only;omega,λj y hj=>by dsimp only at hj;omega,λj y a b=>by dsimp only at a;omega⟩) ?post2)
  case fin2 =>
   rintro ⟨r,a,b⟩ st' ⟨rfl,hr,y1,y2,y3,y4,y5⟩
   dsimp only at hr y1 y2 y3 y4 y5
   subst hr
   have:a=b:=by omega
   subst this
   exact ⟨rfl,_,_,rfl,y2,y4,y5⟩
  case step2 =>
   rintro i ⟨r,a,b⟩ st' _ hi ⟨rfl,hr,y1,y2,y3,y4,y5⟩
   dsimp only at hr y1 y2 y3 y4 y5 ⊢
   subst hr
   by_cases c:a≥b
   ·rw [if_pos c]
    have:a=b:=by omega
    subst this
    exact aq ⟨rfl,_,_,rfl,y2,y4,y5⟩
   rw [if_neg c]
   obtain ⟨y,ey,gy⟩:=u1.at_ (i:=lo+(a+b)/2) (by omega)
   refine al (Yb O (ip.k.trans hk) ex ey gx gy ?_)
   dsimp only
   have ne:=u1.ne_at (show lo+(a+b)/2<lo+k by omega) ey ex
   have mon:∀j j' z z',j≤j'→j'<k→(arrOf st')[lo+j]?=some z→(arrOf st')[lo+j']?=some z'→kz z≤kz z':=λj j' z z' h1 h2 e1 e2=>by
    rcases aV j j' with c|c
    ·exact iw (s1 (lo+j) (lo+j') z z' (by omega) (by omega) (by omega) e1 e2)
    ·obtain rfl:j=j':=by omega
     rw [e1] at e2
     cases e2
     exact cR _
   by_cases d:kz x<kz y
   ·rw [if_pos (decide_eq_true d)]
    refine aq ⟨rfl,rfl,by dsimp only;omega,by dsimp only;omega,by dsimp only;omega,y4,λj z hj hj2 ez=>?_⟩
    have:=mon _ _ _ _ hj hj2 ey ez
    omega
   ·rw [if_neg (by simpa using d)]
    refine aq ⟨rfl,rfl,by dsimp only;omega,y2,by dsimp only;omega,λj z hj ez=>?_,y5⟩
    dsimp only at hj
    have:=mon j ((a+b)/2) _ _ (by omega) (by omega) ez ey
    omega
  case post2 =>
   rintro c st' ⟨rfl,l,r,rfl,hl,b1,b2⟩
   dsimp only
   refine al ?_
   rw [moveDown'_eq]
   refine eP ?_
   have ed:lo+k-(lo+l)=k-l:=by omega
   rw [ed]
   refine aq ⟨rfl,ip.trans (ip_bub (by omega) (by omega)),?_⟩
   show Srt kz (bubble (arrOf st') (lo+k) (k-l)) lo (lo+(k+1))
   intro i j p q h1 h2 h3 ep eq
   rw [getElem?_bubble (by omega) (k-l) (by omega)] at ep eq
   have e4:lo+k-(k-l)=lo+l:=by omega
   rw [e4] at ep eq
   by_cases c1:i=lo+l
   ·rw [if_pos c1,ex] at ep
    cases ep
    rw [if_neg (by omega),if_pos ⟨by omega,by omega⟩] at eq
    exact b2 (j-1-lo) q (by omega) (by omega) (by rw [←eq];congr 1;omega)
   ·rw [if_neg c1] at ep
    by_cases c2:j=lo+l
    ·rw [if_pos c2,ex] at eq
     cases eq
     rw [if_neg (by omega)] at ep
     exact b1 (i-lo) p (by omega) (by rw [←ep];congr 1;omega)
    ·rw [if_neg c2] at eq
     by_cases c3:lo+l<i∧i≤lo+k
     ·rw [if_pos c3] at ep
      rw [if_pos ⟨by omega,by omega⟩] at eq
      exact s1 (i-1) (j-1) p q (by omega) (by omega) (by omega) ep eq
     ·rw [if_neg c3] at ep
      by_cases c4:lo+l<j∧j≤lo+k
      ·rw [if_pos c4] at eq
       have h5:=b1 (i-lo) p (by omega) (by rw [←ep];congr 1;omega)
       have h6:=b2 (j-1-lo) q (by omega) (by omega) (by rw [←eq];congr 1;omega)
       omega
      ·rw [if_neg c4] at eq
       exact s1 i j p q h1 h2 (by omega) ep eq
end
end Tm
namespace Tm
open PySem PyProof.Rows
local macro_rules | `(tactic| walk_at "tim at")=>do
 let n:=Lean.mkIdent (Lean.mkPrivateNameCore `PySem.Builtin.List.W1All `PySem.Builtin.mergeAt)
 `(tactic| unfold $n:ident)
section
variable {kz:Keyed→Int}{G:Keyed→Prop}
def Pend (kz:Keyed→Int):List (Nat×Nat)→List (List Keyed)→Nat→Prop
 |[],[],_=>True
 |q::ps,r::rs,lo=>q.1=lo∧q.2=r.length∧1≤r.length∧SL kz r∧Pend kz ps rs (lo+r.length)
 |[],_::_,_=>False
 |_::_,[],_=>False
def pr (q:Nat×Nat×Nat):Nat×Nat:=(q.1,q.2.1)
theorem Pend.len:∀ {ps:List (Nat×Nat)} {rs:List (List Keyed)} {lo:Nat},Pend kz ps rs lo→ps.length=rs.length
 |[],[],_,_=>rfl
 |_::ps,_::rs,_,h=>by simp [Pend.len h.2.2.2.2]
 |[],_::_,_,h=>h.elim
 |_::_,[],_,h=>h.elim
theorem Pend.size:∀ {ps:List (Nat×Nat)} {rs:List (List Keyed)} {lo:Nat},Pend kz ps rs lo→rs.length≤rs.flatten.length
 |[],[],_,_=>by simp
 |_::ps,r::rs,_,h=>by
  have:=Pend.size h.2.2.2.2
  have:=h.2.2.1
  simp only [cW,ai,ax]
  omega
 |[],_::_,_,h=>h.elim
 |_::_,[],_,h=>h.elim
theorem Pend.push:∀ {ps:List (Nat×Nat)} {rs:List (List Keyed)} {lo:Nat} {r:List Keyed} {q:Nat×Nat},Pend kz ps rs lo→q.1=lo+rs.flatten.length→q.2=r.length→1≤r.length→SL kz r→Pend kz (ps++[q]) (rs++[r]) lo
 |[],[],_,_,_,_,a,b,c,d=>⟨by simpa using a,b,c,d,trivial⟩
 |_::ps,r'::rs,_,_,_,h,a,b,c,d=>⟨h.1,h.2.1,h.2.2.1,h.2.2.2.1,Pend.push h.2.2.2.2 (by simp only [cW,ai] at a;omega) b c d⟩
 |[],_::_,_,_,_,h,_,_,_,_=>h.elim
 |_::_,[],_,_,_,h,_,_,_,_=>h.elim
theorem Pend.split:∀(i:Nat) {p:List (Nat×Nat×Nat)} {rs:List (List Keyed)} {lo:Nat},Pend kz (p.map pr) rs lo→i+1<p.length→∃p1 q1 q2 p2 rs1 RA RB rs2,p=p1++q1::q2::p2∧rs=rs1++RA::RB::rs2∧p1.length=i∧rs1.length=i∧q1.1=lo+rs1.flatten.length∧q1.2.1=RA.length∧q2.1=lo+rs1.flatten.length+RA.length∧q2.2.1=RB.length ∧
  1≤RA.length∧1≤RB.length∧SL kz RA∧SL kz RB∧∀(RN:List Keyed) (q:Nat×Nat×Nat),q.1=q1.1→q.2.1=RN.length→RN.length=RA.length+RB.length→SL kz RN→Pend kz ((p1++q::p2).map pr) (rs1++RN::rs2) lo
 |0,q1::q2::p2,RA::RB::rs2,lo,h,_=>by
  obtain ⟨a1,a2,a3,a4,b1,b2,b3,b4,r⟩:=h
  refine ⟨[],q1,q2,p2,[],RA,RB,rs2,rfl,rfl,rfl,rfl,by simpa [pr] using a1,a2,by simpa [pr] using b1,b2,a3,b3,a4,b4,λRN q e1 e2 e3 e4=>⟨?_,e2,by omega,e4,?_⟩⟩
  ·show q.1=lo
   rw [e1]
   exact a1
  ·rw [e3,←Nat.add_assoc]
   exact r
 |i+1,q0::p,r0::rs,lo,h,hi=>by
  obtain ⟨a1,a2,a3,a4,r⟩:=h
  obtain ⟨p1,q1,q2,p2,rs1,RA,RB,rs2,e1,e2,e3,e4,c1,c2,c3,c4,c5,c6,c7,c8,c9⟩:=Pend.split i r (by simpa using hi)
  refine ⟨q0::p1,q1,q2,p2,r0::rs1,RA,RB,rs2,by rw [e1];rfl,by rw [e2];rfl,by simp [e3],by simp [e4],by rw [c1];simp only [cW,ai];omega,c2,by rw [c3];simp only [cW,ai];omega,c4,c5,c6,c7,c8,λRN q z1 z2 z3 z4=>?_⟩
  exact ⟨a1,a2,a3,a4,c9 RN q z1 z2 z3 z4⟩
 |0,[],_,_,_,hi=>by simp at hi
 |0,[_],_,_,_,hi=>by simp at hi
 |0,_::_::_,[],_,h,_=>h.elim
 |0,_::_::_,[_],_,h,_=>h.2.2.2.2.elim
 |i+1,[],_,_,_,hi=>by simp at hi
 |i+1,_::_,[],_,h,_=>h.elim
theorem Wn {xs:Array Keyed}{P R S:List Keyed}(h:xs.toList=P++(R++S)){i:Nat}(hi:i<R.length):xs[P.length+i]?=R[i]?:=by
 rw [←aC,h,av (by omega),cw,aK hi]
theorem wzn {g:Array Keyed→Keyed×Nat→Array Keyed}{sa:Nat}(hg:∀xs p j,g xs (p,j)=xs.setIfInBounds (sa+j) p):∀(l:List Keyed) (k:Nat) (xs:Array Keyed),sa+k+l.length≤xs.size→∀i:Nat,((l.zipIdx k).foldl g xs)[i]?=if sa+k≤i∧i<sa+k+l.length then l[i-(sa+k)]? else xs[i]?
 |[],k,xs,h,i=>by
  rw [if_neg (by rw [eN];omega)]
  rfl
 |p::l,k,xs,h,i=>by
  simp only [ax] at h
  rw [io,iB,hg,wzn hg l (k+1) _ (by rw [eI];omega)]
  simp only [ax]
  by_cases c1:sa+(k+1)≤i∧i<sa+(k+1)+l.length
  ·rw [if_pos c1,if_pos ⟨by omega,by omega⟩]
   obtain ⟨d,hd⟩:∃d,i-(sa+k)=d+1:=⟨i-(sa+k)-1,by omega⟩
   rw [hd,ik]
   congr 1
   omega
  ·rw [if_neg c1]
   by_cases c2:i=sa+k
   ·subst c2
    rw [if_pos ⟨Nat.le_refl _,by omega⟩,gk,fX,if_pos rfl,if_pos (by omega)]
    rfl
   ·rw [if_neg (by omega),fX,if_neg (by omega)]
theorem xxk {g:Array Keyed→Keyed×Nat→Array Keyed}{sa:Nat}(hg:∀xs p j,g xs (p,j)=xs.setIfInBounds (sa+j) p){xs:Array Keyed}{P R S l:List Keyed}(h:xs.toList=P++(R++S))(hs:P.length=sa)(hl:l.length=R.length):(l.zipIdx.foldl g xs).toList=P++(l++S):=by
 have hz:xs.size=P.length+(R.length+S.length):=by rw [←aJ,h];simp
 refine bv λi=>?_
 rw [aC,wzn hg l 0 xs (by omega)]
 by_cases c1:i<P.length
 ·rw [if_neg (by omega),←aC,h,aK c1,aK c1]
 ·rw [av (by omega)]
  by_cases c2:i-P.length<l.length
  ·rw [if_pos ⟨by omega,by omega⟩,aK c2]
   congr 1
   omega
  ·rw [if_neg (by omega),av (by omega),←aC,h,av (by omega),av (by omega),hl]
theorem wvd {xs:Array Keyed}{P R S:List Keyed}{i j:Nat}(h:xs.toList=P++(R++S))(hi:i=P.length)(hj:j=P.length+R.length):(xs.extract i j).toList=R:=by
 subst hi hj
 rw [qkh,h,List.drop_left,cw,List.take_left]
theorem SL.app {X Y:List Keyed}(hx:SL kz X)(hy:SL kz Y)(h:∀x∈X,∀y∈Y,kz x<kz y):SL kz (X++Y):=aX.mpr ⟨hx,hy,h⟩
theorem SL.parts {X Y:List Keyed}(h:SL kz (X++Y)):SL kz X∧SL kz Y∧∀x∈X,∀y∈Y,kz x<kz y:=aX.mp h
end
section
variable {M:Model}{A:Around}{E:Value→Ab→Prop}{s:Ab}{G:Keyed→Prop}{kz:Keyed→Int}{kd:SortKind}
theorem wz8 {left:Bool}{key:Keyed}{arr:Array Keyed}{n hint base:Nat}{P R S:List Keyed}{st:SortSt}{Q:Option Nat→SortSt→Prop}(O:jm M A E s G kz kd)(hk:kindOf st=kd)(hG:G key)
  (hT:arr.toList=P++(R++S)) (hb:base=P.length) (hn:n=R.length) (sl:SL kz R) (hg:∀x∈R,G x) (hh:hint<n)
  (h:∀k,k≤R.length→(∀x∈R.take k,zg kz left key x=true)→(∀x∈R.drop k,zg kz left key x=false)→Q (some k) st) :
  wpS M A E s (Qc left key arr base n hint) Q st:=by
 subst hb hn
 refine wzq O hk hG (λi j x y h1 h2 h3 ex ey=>?_) (λi h1 h2=>?_) hh λk k1 k2 k3=>h k k1 (λx hx=>?_) λx hx=>?_
 ·have e1:=Wn hT (i:=i-P.length) (by omega)
  have e2:=Wn hT (i:=j-P.length) (by omega)
  rw [show P.length+(i-P.length)=i by omega,ex] at e1
  rw [show P.length+(j-P.length)=j by omega,ey] at e2
  exact sl.lt (by omega) e1.symm e2.symm
 ·have e1:=Wn hT (i:=i-P.length) (by omega)
  rw [show P.length+(i-P.length)=i by omega] at e1
  have hi:i-P.length<R.length:=by omega
  rw [aa hi] at e1
  exact ⟨_,e1,hg _ (bF _)⟩
 ·obtain ⟨j,hj,ej⟩:=Qy hx
  exact k2 j x hj (by rw [Wn hT (by omega)];exact ej)
 ·obtain ⟨j,hj,ej⟩:=uh hx
  have hj2:j<R.length:=(ag.mp ej).1
  exact k3 j x hj hj2 (by rw [Wn hT hj2];exact ej)
theorem qj2 {st:SortSt}{i:Nat}{rs:List (List Keyed)}{S:List Keyed}{Q:Bool→SortSt→Prop}(O:jm M A E s G kz kd)(hk:kindOf st=kd)(hf:failedOf st=none)(u:Un kz G (arrOf st))
  (hT:(arrOf st).toList=rs.flatten++S) (Pd:Pend kz ((pendingOf st).toList.map pr) rs 0) (hi:i+1<rs.length)
  (h:∀st' rs',kindOf st'=kd→failedOf st'=none→(arrOf st').toList=rs'.flatten++S→rs'.flatten.Perm rs.flatten→Pend kz ((pendingOf st').toList.map pr) rs' 0→rs'.length+1=rs.length→Q true st'):wpS M A E s (mergeAt' i) Q st:=by
 have hpl:(pendingOf st).size=rs.length:=by
  have:=Pd.len
  simpa using this
 obtain ⟨p1,q1,q2,p2,rs1,RA,RB,rs2,e1,e2,e3,e4,c1,c2,c3,c4,c5,c6,c7,c8,c9⟩:=Pd.split i (by simp;omega)
 obtain ⟨sa,na,pw⟩:=q1
 obtain ⟨sb,nb,pw2⟩:=q2
 dsimp only at c1 c2 c3 c4 c9
 rw [b8] at c1 c3
 have g1:(pendingOf st)[i]?=some (sa,na,pw):=by
  rw [←aC,e1,av (by omega),e3,gk]
  rfl
 have g2:(pendingOf st)[i+1]?=some (sb,nb,pw2):=by
  rw [←aC,e1,av (by omega),e3,cw]
  rfl
 have g3:∀v,(((pendingOf st).setIfInBounds i v).eraseIdxIfInBounds (i+1)).toList=p1++v::p2:=λv=>by
  rw [Array.toList_eraseIdxIfInBounds,Array.toList_setIfInBounds,e1]
  rw [List.set_append_right _ _ (by omega),e3,gk,List.set_cons_zero,List.eraseIdx_append_of_length_le (by omega),e3,cw]
  rfl
 have hT2:(arrOf st).toList=rs1.flatten++(RA++(RB++(rs2.flatten++S))):=by
  rw [hT,e2]
  simp
 have hT3:(arrOf st).toList=(rs1.flatten++RA)++(RB++(rs2.flatten++S)):=by
  rw [hT2]
  simp
 have ne:∀x∈RA,∀y∈RB,kz x≠kz y:=by
  have:=u.ne
  rw [hT2] at this
  have:=(aX.mp this).2.1
  have:=(aX.mp this).2.2
  exact λx hx y hy=>this x hx y (bN _ hy)
 have gA:∀x∈RA,G x:=λx hx=>u.g x (by rw [hT2];simp [hx])
 have gB:∀x∈RB,G x:=λx hx=>u.g x (by rw [hT2];simp [hx])
 unfold mergeAt'
 walk_at "tim at"
 refine al (fQ ?_)
 rw [g1,g2]
 dsimp only
 refine al (m:=set _) (show wpS M A E s (set _) _ st from ?_)
 refine eP (f:=λ_=>SortSt.mk' (kindOf st) (arrOf st) (((pendingOf st).setIfInBounds i (sa,na+nb,pw)).eraseIdxIfInBounds (i+1)) (gallopOf st) (failedOf st)) ?_
 have F:∀(st':SortSt) (RN:List Keyed),kindOf st'=kd→failedOf st'=none→(arrOf st').toList=rs1.flatten++(RN++(rs2.flatten++S))→(pendingOf st').toList=p1++(sa,na+nb,pw)::p2→RN.Perm (RA++RB)→SL kz RN→Q true st':=λst' RN k1 k2 k3 k4 k5 k6=>by
  refine h st' (rs1++RN::rs2) k1 k2 (by rw [k3];simp) ?_ ?_ (by rw [e2];simp only [ai,ax];omega)
  ·rw [e2]
   simp only [List.flatten_append,cW]
   refine cJ _ ?_
   rw [←aO]
   exact cB _ k5
  ·rw [k4]
   refine c9 RN _ rfl ?_ (by rw [k5.length_eq,ai]) k6
   dsimp only
   rw [k5.length_eq,ai,c2,c4]
 generalize hst1:SortSt.mk' (kindOf st) (arrOf st) (((pendingOf st).setIfInBounds i (sa,na+nb,pw)).eraseIdxIfInBounds (i+1)) (gallopOf st) (failedOf st)=st1
 have d1:kindOf st1=kd:=by rw [←hst1];exact hk
 have d2:failedOf st1=none:=by rw [←hst1];exact hf
 have d3:arrOf st1=arrOf st:=by rw [←hst1]
 have d4:(pendingOf st1).toList=p1++(sa,na+nb,pw)::p2:=by rw [←hst1];exact g3 _
 clear hst1
 obtain ⟨y0,RB',rfl⟩:∃y0 RB',RB=y0::RB':=by
  cases RB with
  |nil=>simp at c6
  |cons a b=>exact ⟨a,b,rfl⟩
 have ey:(arrOf st)[sb]?=some y0:=by
  have:=Wn hT3 (i:=0) (by simp)
  rw [Nat.add_zero,ai] at this
  rw [c3,this]
  rfl
 have m0:y0∈y0::RB':=.head _
 refine al (w8 ey ?_)
 refine al (wz8 O d1 (gB y0 m0) hT2 c1 c2 c7 gA (by omega) λk k1 k2 k3=>?_)
 dsimp only
 have lowY:∀y∈y0::RB',kz y0≤kz y:=λy hy=>by
  rcases ay.mp hy with rfl|z
  ·exact cR _
  ·exact iw ((eQ.mp c8).1 y z)
 by_cases z1:(na-k==0)=true
 ·rw [if_pos z1]
  have e:na-k=0:=by simpa using z1
  refine aq (F st1 (RA++y0::RB') d1 d2 (by rw [d3,hT2];simp) d4 (.refl _) (c7.app c8 λx hx y hy=>?_))
  have:=ah_f (k2 x (by rw [bP (by omega)];exact hx))
  have:=lowY y hy
  have:=ne x hx y0 m0
  omega
 rw [if_neg z1]
 have z1':k<na:=by
  have:¬ na-k=0:=by simpa using z1
  omega
 have hx9:RA.length-1<RA.length:=by omega
 have ex:(arrOf st)[sa+k+(na-k)-1]?=some RA[RA.length-1]:=by
  have:=Wn hT2 (i:=RA.length-1) hx9
  rw [aa hx9] at this
  rw [←this]
  congr 1
  omega
 have mx:RA[RA.length-1]∈RA:=bF _
 have lastA:∀x∈RA,kz x≤kz RA[RA.length-1]:=λx hx=>by
  obtain ⟨j,hj⟩:=bH hx
  have hj2:j<RA.length:=(ag.mp hj).1
  exact c7.le (show j≤RA.length-1 by omega) hj (aa hx9)
 refine al (w8 ex ?_)
 refine al (wz8 O d1 (gA _ mx) hT3 (by rw [c3,ai]) c4 c8 gB (by omega) λn n1 n2 n3=>?_)
 dsimp only
 by_cases z2:(n==0)=true
 ·rw [if_pos z2]
  have e:n=0:=by simpa using z2
  subst e
  refine aq (F st1 (RA++y0::RB') d1 d2 (by rw [d3,hT2];simp) d4 (.refl _) (c7.app c8 λx hx y hy=>?_))
  have:=Q4 (n3 y (by simpa using hy))
  have:=lastA x hx
  have:=ne x hx y hy
  omega
 rw [if_neg z2]
 have z2':1≤n:=by
  have:¬ n=0:=by simpa using z2
  omega
 generalize hRB:y0::RB'=RB at *
 have tA:RA=RA.take k++RA.drop k:=(cI k RA).symm
 have tB:RB=RB.take n++RB.drop n:=(cI n RB).symm
 have hT4:(arrOf st).toList=(rs1.flatten++RA.take k)++(RA.drop k++(RB++(rs2.flatten++S))):=by
  rw [hT2]
  have e:RA++(RB++(rs2.flatten++S))=(RA.take k++RA.drop k)++(RB++(rs2.flatten++S)):=by rw [←tA]
  rw [e]
  simp only [aO]
 have hT5:(arrOf st).toList=(rs1.flatten++RA)++(RB.take n++(RB.drop n++(rs2.flatten++S))):=by
  rw [hT3]
  have e:RB++(rs2.flatten++S)=(RB.take n++RB.drop n)++(rs2.flatten++S):=by rw [←tB]
  rw [e]
  simp only [aO]
 have hT6:(arrOf st).toList=(rs1.flatten++RA.take k)++((RA.drop k++RB.take n)++(RB.drop n++(rs2.flatten++S))):=by
  rw [hT4]
  have e:RB++(rs2.flatten++S)=(RB.take n++RB.drop n)++(rs2.flatten++S):=by rw [←tB]
  rw [e]
  simp only [aO]
 have xx:((arrOf st).extract (sa+k) sb).toList=RA.drop k:=wvd hT4 (by simp only [ai,aL,br];omega) (by simp only [ai,aL,br];omega)
 have yy:((arrOf st).extract sb (sb+n)).toList=RB.take n:=wvd hT5 (by simp only [ai,aL,br];omega) (by simp only [ai,aL,br];omega)
 have sA:SL kz (RA.take k++RA.drop k):=by rw [←tA];exact c7
 have sB:SL kz (RB.take n++RB.drop n):=by rw [←tB];exact c8
 obtain ⟨a1,a2,a3⟩:=sA.parts
 obtain ⟨b1,b2,b3⟩:=sB.parts
 have mg:Mg kz G ((arrOf st).extract (sa+k) sb) ((arrOf st).extract sb (sb+n)):=by
  refine ⟨by rw [xx];exact a2,by rw [yy];exact b1,?_,?_,?_⟩
  ·rw [xx,yy]
   exact λx hx y hy=>ne x (cu hx) y (cS hy)
  ·rw [xx]
   exact λx hx=>gA x (cu hx)
  ·rw [yy]
   exact λx hx=>gB x (cS hx)
 have xz:((arrOf st).extract (sa+k) sb).size=RA.length-k:=by rw [←aJ,xx,br]
 have yz:((arrOf st).extract sb (sb+n)).size=n:=by rw [←aJ,yy,aL];omega
 have h0:∀y,((arrOf st).extract sb (sb+n))[0]?=some y→∀x∈((arrOf st).extract (sa+k) sb).toList,kz y<kz x:=λy ey x hx=>by
  rw [←aC,yy,←hRB] at ey
  rw [xx] at hx
  obtain ⟨n',rfl⟩:∃n',n=n'+1:=⟨n-1,by omega⟩
  rw [List.take_succ_cons] at ey
  cases ey
  exact wyh (k3 x hx)
 have hl:∀x,((arrOf st).extract (sa+k) sb)[((arrOf st).extract (sa+k) sb).size-1]?=some x→∀y∈((arrOf st).extract sb (sb+n)).toList,kz y<kz x:=λx ex y hy=>by
  rw [←aC,xx,xz,cM,show k+(RA.length-k-1)=RA.length-1 by omega,aa hx9] at ex
  cases ex
  rw [yy] at hy
  exact ah_t (n2 y hy)
 have fin:∀(r:Array Keyed) (st2:SortSt),SameSt st1 st2→Yp kz ((arrOf st).extract (sa+k) sb) ((arrOf st).extract sb (sb+n)) r→wpS M A E s (do
   modify λs=>setArr s (List.foldl (λa (x:Keyed×Nat)=>a.setIfInBounds (sa+k+x.2) x.1) (arrOf s) r.toList.zipIdx)
   let s ←get
   pure (failedOf s).isNone) Q st2:=λr st2 S2 ⟨r1,r2⟩=>by
  rw [xx,yy] at r2
  have hT7:(arrOf st2).toList=(rs1.flatten++RA.take k)++((RA.drop k++RB.take n)++(RB.drop n++(rs2.flatten++S))):=by rw [S2.2.1,d3];exact hT6
  have wr:=xxk (g:=λa (x:Keyed×Nat)=>a.setIfInBounds (sa+k+x.2) x.1) (λ_ _ _=>rfl) (l:=r.toList) hT7 (by simp only [ai,aL,br];omega) r2.length_eq
  refine al (eP ?_)
  refine al (fQ (aq ?_))
  have f9:failedOf (setArr st2 (List.foldl (λa (x:Keyed×Nat)=>a.setIfInBounds (sa+k+x.2) x.1) (arrOf st2) r.toList.zipIdx))=none:=S2.2.2.2.trans d2
  rw [f9]
  refine F _ (RA.take k++(r.toList++RB.drop n)) (S2.1.trans d1) f9 ?_ (by show (pendingOf st2).toList=_;rw [S2.2.2.1,d4]) ?_ ?_
  ·show (List.foldl _ (arrOf st2) r.toList.zipIdx).toList=_
   rw [wr]
   simp
  ·conv=>rhs;rw [tA,tB]
   rw [aO]
   refine cJ _ ?_
   rw [←aO]
   exact cB _ r2
  ·refine a1.app (r1.app b2 λx hx y hy=>?_) λx hx y hy=>?_
   ·rcases aP.mp (r2.mem_iff.mp hx) with hx|hx
    ·have:=Q4 (n3 y hy)
     have:=lastA x (cu hx)
     have:=ne x (cu hx) y (cu hy)
     omega
    ·exact b3 x hx y hy
   ·have low:∀y∈RB,kz x<kz y:=λy hy=>by
     have:=ah_f (k2 x hx)
     have:=lowY y hy
     have:=ne x (cS hx) y0 (by rw [←hRB];exact .head _)
     omega
    rcases aP.mp hy with hy|hy
    ·rcases aP.mp (r2.mem_iff.mp hy) with hy|hy
     ·exact a3 x hx y hy
     ·exact low y (cS hy)
    ·exact low y (cu hy)
 have x1z:1≤((arrOf st).extract (sa+k) sb).size:=by rw [xz];omega
 have y1z:1≤((arrOf st).extract sb (sb+n)).size:=by rw [yz];omega
 by_cases z3:na-k≤n
 ·rw [if_pos z3]
  refine al (qu1 O d1 mg x1z y1z (λx y ex ey=>?_) hl λr st2 S2 Fn=>fin r st2 S2 Fn)
  rw [←aC] at ex
  exact h0 y ey x (aA ex)
 ·rw [if_neg z3]
  exact al (qyw O d1 mg x1z y1z h0 hl λr st2 S2 Fn=>fin r st2 S2 Fn)
end
end Tm
namespace Tm
open PySem PyProof.Rows
section
variable {M:Model}{A:Around}{E:Value→Ab→Prop}{s:Ab}{G:Keyed→Prop}{kz:Keyed→Int}{kd:SortKind}
structure Wt (kz:Keyed→Int)(kd:SortKind)(a₀:Array Keyed)(st:SortSt)(rs:List (List Keyed))(S:List Keyed):Prop where
 k:kindOf st=kd
 f:failedOf st=none
 a:(arrOf st).Perm a₀
 t:(arrOf st).toList=rs.flatten++S
 p:Pend kz ((pendingOf st).toList.map pr) rs 0
theorem Wt.size {a₀:Array Keyed}{st:SortSt}{rs:List (List Keyed)}{S:List Keyed}(w:Wt kz kd a₀ st rs S):rs.flatten.length+S.length=a₀.size:=by
 rw [←w.a.size_eq,←aJ,w.t,ai]
theorem Wt.pl {a₀:Array Keyed}{st:SortSt}{rs:List (List Keyed)}{S:List Keyed}(w:Wt kz kd a₀ st rs S):(pendingOf st).size=rs.length:=by
 have:=w.p.len
 simpa using this
theorem Wt.ip {a₀:Array Keyed}{st st':SortSt}{rs:List (List Keyed)}{S:List Keyed}{lo:Nat}(w:Wt kz kd a₀ st rs S)(hlo:lo=rs.flatten.length)(i:Ip lo st st'):∃S',Wt kz kd a₀ st' rs S'∧S'.length=S.length:=by
 subst hlo
 have e:(arrOf st').toList=rs.flatten++(arrOf st').toList.drop rs.flatten.length:=by
  conv=>lhs;rw [←cI rs.flatten.length (arrOf st').toList]
  congr 1
  refine bv λj=>?_
  rw [db]
  split
  ·rename_i h
   rw [aC,i.low j h,←aC,w.t,aK h]
  ·rename_i h
   rw [az (by omega)]
 refine ⟨_,⟨i.k.trans w.k,i.f.trans w.f,i.a.trans w.a,e,by rw [i.p];exact w.p⟩,?_⟩
 have z:=i.a.size_eq
 have h1:=bX List.length w.t
 rw [ai,aJ] at h1
 rw [br,aJ]
 omega
theorem xqu {xs:Array Keyed}{P S:List Keyed}{n:Nat}(h:xs.toList=P++S)(sr:Srt kz xs P.length (P.length+n))(hn:n≤S.length):SL kz (S.take n):=by
 refine bg.mpr λi j hi hj hij=>?_
 have hi':=hi
 have hj':=hj
 rw [aL] at hi' hj'
 refine sr (P.length+i) (P.length+j) _ _ (by omega) (by omega) (by omega) ?_ ?_
 ·rw [←aC,h,av (by omega),cw,List.getElem_take,aa]
 ·rw [←aC,h,av (by omega),cw,List.getElem_take,aa]
theorem Wt.push {a₀:Array Keyed}{st:SortSt}{rs:List (List Keyed)}{S:List Keyed}{lo n:Nat}(w:Wt kz kd a₀ st rs S)(hlo:lo=rs.flatten.length)(h1:1≤n)(hn:n≤S.length)(sl:SL kz (S.take n)):Wt kz kd a₀ (setPending st ((pendingOf st).push (lo,n,0))) (rs++[S.take n]) (S.drop n):=by
 have el:(S.take n).length=n:=by rw [aL];omega
 refine ⟨w.k,w.f,w.a,?_,?_⟩
 ·show (arrOf st).toList=_
  rw [w.t]
  simp
 ·show Pend kz (((pendingOf st).push (lo,n,0)).toList.map pr) _ 0
  rw [cU,List.map_append]
  exact w.p.push (by rw [b8];exact hlo) el.symm (by omega) sl
theorem Wt.pow {a₀:Array Keyed}{st:SortSt}{rs:List (List Keyed)}{S:List Keyed}{i pw:Nat}(w:Wt kz kd a₀ st rs S):Wt kz kd a₀ (setPending st ((pendingOf st).modify i λx=>(x.1,x.2.1,pw))) rs S:=by
 refine ⟨w.k,w.f,w.a,w.t,?_⟩
 show Pend kz (((pendingOf st).modify i λx=>(x.1,x.2.1,pw)).toList.map pr) rs 0
 have e:((pendingOf st).modify i λx=>(x.1,x.2.1,pw)).toList.map pr=(pendingOf st).toList.map pr:=by
  refine bv λj=>?_
  rw [ao,ao,aC,aC,Array.getElem?_modify]
  split
  ·cases (pendingOf st)[j]? <;> rfl
  ·rfl
 rw [e]
 exact w.p
theorem Zv {a₀:Array Keyed}{st:SortSt}{Q:Unit→SortSt→Prop}(O:jm M A E s G kz kd)(u:Un kz G a₀)(hk:kindOf st=kd)(hf:failedOf st=none)(ha:arrOf st=a₀)(hp:pendingOf st=#[])
  (h:∀st',(arrOf st').Perm a₀→failedOf st'=none→SL kz (arrOf st').toList→Q () st'):wpS M A E s sortRuns' Q st:=by
 rw [sortRuns'_eq]
 dsimp only
 refine al (fQ ?_)
 rw [ha]
 have w0:Wt kz kd a₀ st [] a₀.toList:=⟨hk,hf,by rw [ha],by rw [ha];rfl,by rw [hp];trivial⟩
 have mrg:∀(st1:SortSt) (rs:List (List Keyed)) (S:List Keyed) (i:Nat) (R:Bool→SortSt→Prop),Wt kz kd a₀ st1 rs S→i+1<rs.length→(∀st' rs',Wt kz kd a₀ st' rs' S→rs'.flatten.length=rs.flatten.length→rs'.length+1=rs.length→R true st')→wpS M A E s (mergeAt' i) R st1:=λst1 rs S i R w hi hR =>
  qj2 O w.k w.f (u.perm w.a) w.t w.p hi λst' rs' k1 k2 k3 k4 k5 k6=>hR st' rs' ⟨k1,k2,by
   refine Array.Perm.trans (dc.mpr ?_) w.a
   rw [k3,w.t]
   exact cB _ k4,k3,k5⟩ k4.length_eq k6
 generalize minRun' a₀.size a₀.size 0=mr
 have lp:∀(st1:SortSt) (rs:List (List Keyed)) (S:List Keyed) (z pw:Nat) (R:Option Unit×Unit→SortSt→Prop),Wt kz kd a₀ st1 rs S→(∀st' rs',Wt kz kd a₀ st' rs' S→rs'.flatten.length=rs.flatten.length→R (none,()) st') →
   ∀f:Nat→Option Unit×Unit→StateT SortSt Sem (ForInStep (Option Unit×Unit)),(∀i st2 rs2 (R2:ForInStep (Option Unit×Unit)→SortSt→Prop),Wt kz kd a₀ st2 rs2 S→R2 (.done (none,())) st2→(∀st' rs',Wt kz kd a₀ st' rs' S→rs'.flatten.length=rs2.flatten.length→R2 (.yield (none,())) st')→wpS M A E s (f i (none,())) R2 st2)→wpS M A E s (forIn [:z] ((none,()):Option Unit×Unit) f) R st1:=λst1 rs S z pw R w hR f hf =>
  bQ (I:=λi c st'=>c=(none,())∧∃rs',Wt kz kd a₀ st' rs' S∧rs'.flatten.length=rs.flatten.length) (λi c st' _ _ ⟨e,rs',w',l'⟩=>by
   subst e
   exact hf i st' rs' _ w' (hR st' rs' w' l') λst3 rs3 w3 l3=>⟨rfl,rs3,w3,l3.trans l'⟩) (λc st' ⟨e,rs',w',l'⟩=>by
   subst e
   exact hR st' rs' w' l') ⟨rfl,rs,w,rfl⟩
 have tail:∀(st1:SortSt) (rs:List (List Keyed)) (S:List Keyed) (lo n x:Nat),Wt kz kd a₀ st1 rs S→lo=rs.flatten.length→1≤n→n≤S.length→SL kz (S.take n)→x≤lo→(∃rs' S',Wt kz kd a₀ (setPending st1 ((pendingOf st1).push (lo,n,0))) rs' S'∧lo+n=rs'.flatten.length∧x+1≤lo+n):=λst1 rs S lo n x w hlo h1 hn sl hx =>
  ⟨_,_,w.push hlo h1 hn sl,by simp only [List.flatten_append,cW,List.flatten_nil,bK,ai,aL];omega,by omega⟩
 refine al (dU (bQ (I:=λx (c:Option Unit×Nat) st'=>c.1=none∧∃rs S,Wt kz kd a₀ st' rs S∧c.2=rs.flatten.length∧x≤c.2) (Q:=λc st'=>c.1=none∧∃rs,Wt kz kd a₀ st' rs []) ?step ?fin ⟨rfl,[],a₀.toList,w0,rfl,Nat.le_refl _⟩) ?post)
 case fin =>
  rintro ⟨r,lo⟩ st' ⟨hr,rs,S,w,e,hx⟩
  dsimp only at e hx hr
  have z:=w.size
  have:S=[]:=dN (by omega)
  subst this
  exact ⟨hr,rs,w⟩
 case step =>
  rintro x ⟨r,lo⟩ st1 _ hx ⟨hr,rs,S,w,e,hx2⟩
  dsimp only at e hx2 hr ⊢
  subst hr
  have z:=w.size
  by_cases c:lo≥a₀.size
  ·rw [if_pos c]
   have:S=[]:=dN (by omega)
   subst this
   exact aq ⟨rfl,rs,w⟩
  rw [if_neg c]
  refine al (wkm O w.k (u.perm w.a) (by omega) (by rw [w.a.size_eq];omega) λn st2 n1 n2 ip sr=>?_)
  obtain ⟨S2,w2,z2⟩:=w.ip e ip
  have sl2:SL kz (S2.take n):=xqu w2.t (by rw [←e];exact sr) (by omega)
  have nS:n≤S2.length:=by omega
  dsimp only
  by_cases c2:n<mr
  case' pos =>
   rw [if_pos c2]
   refine al (gH (bW ⟨rfl,?_⟩))
   refine al (xzm O w2.k (u.perm w2.a) n1 (show n≤min (a₀.size-lo) mr by omega) (by rw [w2.a.size_eq];omega) sr λst3 ip3 sr3=>?_)
   obtain ⟨S3,w3,z3⟩:=w2.ip e ip3
   have sl3:SL kz (S3.take (min (a₀.size-lo) mr)):=xqu w3.t (by rw [←e];exact sr3) (by omega)
   have nS3:min (a₀.size-lo) mr≤S3.length:=by omega
   have n3:1≤min (a₀.size-lo) mr:=by omega
   rw [if_neg (by decide)]
   generalize min (a₀.size-lo) mr=m at sl3 nS3 n3 ⊢
   clear sl2 nS sr n2 c2 n1 sr3 ip3
  case' neg =>
   rw [if_neg c2]
   obtain ⟨st3,rfl⟩:∃st3,st3=st2:=⟨_,rfl⟩
   obtain ⟨m,rfl⟩:∃m,m=n:=⟨_,rfl⟩
   obtain ⟨S3,rfl⟩:∃S3,S3=S2:=⟨_,rfl⟩
   have w3:=w2
   have sl3:=sl2
   have nS3:=nS
   have n3:=n1
  all_goals
   refine al (fQ ?_)
   split
   ·refine al (lp st3 rs S3 a₀.size 0 _ w3 (λst4 rs4 w4 l4=>?_) _ λi st4 rs4 R2 w4 h1 h2=>?_)
    ·dsimp only
     refine al (eP ?_)
     refine al (eP (aq ?_))
     exact ⟨rfl,tail _ rs4 S3 lo m x w4.pow (by omega) n3 nS3 sl3 hx2⟩
    ·try dsimp only
     refine al (fQ ?_)
     split
     ·split
      ·exact aq h1
      ·rename_i hsz _
       have hs:(pendingOf st4).size>1:=by
        rcases aV 1 (pendingOf st4).size with q|q
        ·exact q
        ·rw [if_neg (by omega)] at hsz
         cases hsz
       have pl4:=w4.pl
       refine al (mrg st4 rs4 S3 _ _ w4 (by omega) λst5 rs5 w5 l5 _=>?_)
       rw [if_neg (by decide)]
       exact aq (h2 st5 rs5 w5 l5)
     ·exact aq h1
   ·refine al (eP (aq ?_))
    obtain ⟨rs',S',w6,l6,x6⟩:=tail st3 rs S3 lo m x w3 e n3 nS3 sl3 hx2
    exact ⟨rfl,rs',S',w6,l6,x6⟩
 case post =>
  rintro ⟨r,lo⟩ st1 ⟨hr,rs,w⟩
  dsimp only at hr ⊢
  subst hr
  dsimp only
  have z:=w.size
  have zz:=w.p.size
  refine al (dU (bQ (I:=λx (c:Option Unit×Unit) st'=>c=(none,())∧∃rs,Wt kz kd a₀ st' rs []∧(rs.length≤1∨rs.length+x≤a₀.size)) (Q:=λc st'=>c=(none,())∧∃rs,Wt kz kd a₀ st' rs []∧rs.length≤1) ?step2 ?fin2 ⟨rfl,rs,w,.inr (by rw [eN] at z;omega)⟩) ?post2)
  case fin2 =>
   rintro c st' ⟨rfl,rs,w,hor⟩
   exact ⟨rfl,rs,w,by omega⟩
  case step2 =>
   rintro x c st' _ hx ⟨rfl,rs,w,hor⟩
   try dsimp only
   have pl:=w.pl
   refine al (fQ ?_)
   by_cases c:(pendingOf st').size≤1
   ·rw [if_pos c]
    exact aq ⟨rfl,rs,w,by omega⟩
   rw [if_neg c]
   refine al (mrg st' rs [] _ _ w ?_ λst5 rs5 w5 l5 z5=>?_)
   ·have c':2≤rs.length:=by omega
    rw [pl]
    by_cases c2:rs.length-2>0
    ·rw [if_pos c2]
     split <;> omega
    ·rw [if_neg c2]
     show (if (false=true) then _ else _)+1<_
     rw [if_neg au]
     omega
   ·rw [if_neg (by decide)]
    exact aq ⟨rfl,rs5,w5,.inr (by omega)⟩
  case post2 =>
   rintro c st' ⟨rfl,rs,w,hl⟩
   dsimp only
   refine aq (h st' w.a w.f ?_)
   rw [w.t,bK]
   match rs,hl,w.p with
   |[],_,_=>exact List.Pairwise.nil
   |[r],_,p =>
    simp only [cW,List.flatten_nil,bK]
    cases hp9:(pendingOf st').toList.map pr with
    |nil=>rw [hp9] at p;exact p.elim
    |cons a b=>rw [hp9] at p;exact p.2.2.2.1
end
end Tm
namespace L2
open PySem PySem.Spec PyProof.Rows
theorem wu8 {M:Model}{A:Around}{E:Value→Ab→Prop}{s:Ab}{scope:Scope}{globals:Addr}{cl:List (Str×Addr)}{qual:Str}{func:Option Addr}{code:Value}{outer:Env}{builtins:Addr}{x:Str}{Q:Env→Ab→Prop}(hk:scope.kind=.function)
  (hcf:cellsFrom (s.heap.objs.size+1) scope.names cl=(x,s.heap.objs.size+1)::cl) (hpc:pushCells (s.heap.push { cls:=.type "dict",data:=.dict #[] }) scope.names=(s.heap.push { cls:=.type "dict",data:=.dict #[] }).push { cls:=.type "cell",data:=.cell none })
  (hQ:Q (newEnv scope s.heap.objs.size globals ((x,s.heap.objs.size+1)::cl) qual func code (some outer) builtins) { s with heap:=(s.heap.push { cls:=.type "dict",data:=.dict #[] }).push { cls:=.type "cell",data:=.cell none } }) :
  wpAny M A (newFunctionEnv scope globals cl [] qual func code (some outer) builtins) Q E s:=by
 simp only [newFunctionEnv,Option.isSome_some,cg]
 refine wpAny_bind (wpAny_alloc ?_)
 refine wpAny_bind (wpAny_layCells _ (λname kind cells=>by cases hkc:kind==NameKind.cell <;> simp [hkc]) _ _ _ _ ?_)
 rw [show ({ s with heap:=s.heap.push { cls:=.type "dict",data:=.dict #[] } }:Ab).heap.objs.size=s.heap.objs.size+1 from bw ..,hcf,hpc]
 exact wpAny_bind (wpAny_pure (wpAny_pure hQ))
def HasAllK (x:Str)(cl:List (Str×Addr)):List (Str×NameKind)→Prop
 |[]=>True
 |(n,k)::r=>(k=.free→∃c,cl.lookup n=some c)∧(k=.cell→n=x)∧HasAllK x cl r
theorem qud {x y:Str}{c:Addr}{cl:List (Str×Addr)}(h:∃d,cl.lookup y=some d):∃d,((x,c)::cl).lookup y=some d:=by
 rw [be]
 cases y==x with
 |true=>exact ⟨c,rfl⟩
 |false=>exact h
theorem HasAllK.has {x:Str}{c:Addr}{cl:List (Str×Addr)}{env:Env}:∀ {ns:List (Str×NameKind)},HasAllK x cl ns→∀ {y:Str} {q:NameKind},q=.cell∨q=.free →
  (ns.map λ(n,k)=>if (k==NameKind.free&&env.scope.kind==.function&&env.kindOf n==some .cell) then (n,NameKind.cell) else (n,k)).lookup y=some q→∃d,((x,c)::cl).lookup y=some d
 |[],_,_,_,_,e=>by cases e
 |(n,k)::r,h,y,q,hq,e=>by
  have ih:=HasAllK.has (c:=c) (env:=env) h.2.2 (y:=y) hq
  rw [aF] at e
  by_cases hc:(k==NameKind.free&&env.scope.kind==.function&&env.kindOf n==some .cell)=true
  ·have e':=e
   dsimp only at e'
   rw [if_pos hc,be] at e'
   cases hb:y==n with
   |true =>
    rw [bi,bi] at hc
    rw [eq_of_beq hb]
    exact qud (h.1 (eq_of_beq hc.1.1))
   |false =>
    rw [hb] at e'
    exact ih e'
  ·have e':=e
   dsimp only at e'
   rw [if_neg hc,be] at e'
   cases hb:y==n with
   |true =>
    rw [hb] at e'
    have ek:k=q:=aj e'
    rw [eq_of_beq hb]
    rcases hq with rfl|rfl
    ·rw [h.2.1 ek]
     exact ⟨c,by rw [be,dJ]⟩
    ·exact qud (h.1 ek)
   |false =>
    rw [hb] at e'
    exact ih e'
abbrev jp (X:Cx)(scope:Scope)(cl:List (Str×Addr))(x:Str)(c:Addr)(M:List Nat)(C:Addr)(s2:Ab)(H2:Hp)(fp:List Addr)(pn:List (Addr×Obj)):Cx :=
 { X with N:=j4 X x M,s₀:=s2,H₀:=H2,env:=compEnvC scope ((x,c)::cl) C X.env,outer:=X.stack,ex:=fp,fn:=λy=>y==x,pn:=pn,xe:=λ_ _=>False }
section
variable {X:Cx}{pins:List (Addr×Obj)}{σ:St}{H:Hp}{s2:Ab}{scope:Scope}{cl:List (Str×Addr)}{x:Str}{c:Addr}{M:List Nat}{fp:List Addr}{C:Addr}{h1:Heap}{tk:Nat}
theorem Inv.compK (I:Inv X pins σ H s2)(hc:CapAll X.env cl)(hh:HasAllK x cl scope.names)(hm:CapIx X scope cl M)(hk:scope.kind=.function)(hnd:(j4 X x M).Nodup)(hC:s2.heap.objs.size<C)(hcC:C<c)(hcl:h1.IsCell c none)
  (keep:∀b o,s2.heap.get? b=some o→h1.get? b=some o) (hn:h1.Ns C λ_=>none) (hD:h1.get? s2.heap.objs.size=some { cls:=.type "list",data:=.seq #[] 0 })
  (hfp:∀b∈fp,zr X pins H b) (hob:∀b∈fp,∃o,s2.heap.get? b=some o) :
  Inv (jp X scope cl x c M C s2 H fp (X.pn++pins)) [] (x9 M σ none) (upd H s2.heap.objs.size (.lst [])) { s2 with heap:=h1,toks:=tk }:=by
 have hfr:=I.hok.fresh (a:=s2.heap.objs.size) (Nat.le_refl _)
 have o:=I.ok
 have hcc:∀y c,cl.lookup y=some c→X.env.cells.lookup y=some c:=λy c e=>hc.look e
 have lk:∀y d,((x,c)::cl).lookup y=some d→(y=x∧d=c)∨(y≠x∧cl.lookup y=some d):=λy d e=>by
  rw [be] at e
  cases hb:y==x with
  |true =>
   rw [hb] at e
   exact .inl ⟨eq_of_beq hb,(aj e).symm⟩
  |false =>
   rw [hb] at e
   exact .inr ⟨λz=>by rw [z] at hb;simp at hb,e⟩
 have old:∀y d,cl.lookup y=some d→d<s2.heap.objs.size:=λy d e=>by
  obtain ⟨v,ob,e1,e2⟩:=I.cell y d (hcc y d e)
  exact af e1
 have hcs:s2.heap.objs.size<c:=aR hC hcC
 have hlt:∀b∈fp,b<s2.heap.objs.size:=λb hb=>by
  obtain ⟨ob,e⟩:=hob b hb
  exact af e
 have hstk:∀b∈fp,b∉frs X.stack:=λb hb z=>by
  rcases ay.mp (I.stkSub b z) with z|z
  ·exact (hfp b hb).2.1 z
  ·exact (hfp b hb).2.2.1 z
 have hCn:H C=none:=I.hok.fresh (Nat.le_of_lt hC)
 refine ⟨⟨o.mod,hk,o.glob,o.blt,Nat.le_of_lt hC,λy z d e1 e2=>?_,λy hy=>?_,λy d z e=>?_,o.hd,o.frames,.inl rfl,λb hb=>⟨ar (aR (hlt b hb) hC),λy d e=>?_⟩,
  λb ob e=>I.bs b ob e,bo o.bsz I.sz,λb ob e z=>?_,hstk,I.stack,I.stkFree⟩,rfl,I.bare,?_,?_,λy d e=>?_,?_,λy d e=>?_,λp hp=>?_,?_,?_⟩
 ·rcases lk y d e1 with ⟨h1',h1⟩|⟨h1',h1⟩ <;> rcases lk z d e2 with ⟨h2',h2⟩|⟨h2',h2⟩
  ·exact h1'.trans h2'.symm
  ·exact absurd (old z d h2) (by rw [h1];exact Nat.not_lt_of_gt hcs)
  ·exact absurd (old y d h1) (by rw [h2];exact Nat.not_lt_of_gt hcs)
  ·exact o.inj y z d (hcc y d h1) (hcc z d h2)
 ·rcases hy with hy|hy
  ·exact hh.has (.inl rfl) hy
  ·exact hh.has (.inr rfl) hy
 ·rcases lk y d e with ⟨_,h1⟩|⟨h1',h1⟩
  ·rw [h1]
   exact Nat.le_of_lt hcs
  ·exact absurd (eq_of_beq z) h1'
 ·rcases lk y d e with ⟨_,h1⟩|⟨h1',h1⟩
  ·rw [h1]
   exact (ar (aR (hlt b hb) hcs)).symm
  ·exact (hfp b hb).2.2.2.2.1 y d (hcc y d h1)
 ·obtain ⟨e1,e2⟩:=I.bs b ob e
  exact (hfp b z).2.2.2.1.elim (λq=>o.noex b ob e q) λq=>by
   have:=o.bs b ob e
   exact aI _ (aD (af this.1) q)
 ·exact (Un.laid (fs:=frs X.stack) (ex:=fp) (o:=.lst []) keep (Nat.le_refl _) hfr)
 ·refine ⟨_,hn,λi z v e1 e2 e3=>?_⟩
  cases i with
  |zero=>cases e2
  |succ k =>
   have e1':(M.map λj=>X.N.getD j Str.empty)[k]?=some z:=e1
   have e2':(M.map λj=>(σ[j]?).join)[k]?=some (some v):=e2
   rw [ao] at e1' e2'
   cases hj:M[k]? with
   |none=>rw [hj] at e1';cases e1'
   |some j =>
    rw [hj] at e1' e2'
    obtain ⟨y,d,f1,f2,f3,f4⟩:=hm.get hj
    have ez:X.N.getD j Str.empty=z:=aj e1'
    rw [ae,f1] at ez
    have ez':y=z:=ez
    subst ez'
    have nx:y≠x:=λz=>by
     have h0:=List.nodup_iff_pairwise_ne.mp hnd
     have h1:x∉M.map λj=>X.N.getD j Str.empty:=λhm'=>(eQ.mp h0).1 x hm' rfl
     refine h1 (aH.mpr ⟨j,aA hj,?_⟩)
     rw [ae,f1,←z]
     rfl
    have f4':((x,c)::cl).lookup y=some d:=by
     rw [be,show (y==x)=false from bV.mpr nx]
     exact f4
    have ev:(σ[j]?).join=some v:=aj e2'
    have ev':σ[j]?=some (some v):=by
     cases hs:σ[j]? with
     |none=>rw [hs] at ev;cases ev
     |some w' =>
      rw [hs] at ev
      have:w'=some v:=ev
      rw [this]
    obtain ⟨m,hns,hl⟩:=I.loc
    obtain ⟨u,r,l⟩:=hl j y v f1 ev' (.inr (.inl f2))
    refine ⟨u,r,.inr ⟨.inl f3,d,f4',?_⟩⟩
    rcases l with ⟨lk,_⟩|⟨_,c',lc,li⟩
    ·have:X.env.scope.names.lookup y=some .local:=lk
     rw [f2] at this
     cases this
    ·rw [hcc y d f4] at lc
     have:=aj lc
     subst this
     exact li.keeps keep
 ·rcases lk y d e with ⟨_,rfl⟩|⟨h1',h1⟩
  ·exact ⟨none,hcl⟩
  ·obtain ⟨v,hv⟩:=I.cell y d (hcc y d h1)
   exact ⟨v,hv.keeps keep⟩
 ·show upd H s2.heap.objs.size (.lst []) C=none
  rw [qr (cY hC)]
  exact hCn
 ·show upd H s2.heap.objs.size (.lst []) d=none
  rcases lk y d e with ⟨_,rfl⟩|⟨h1',h1⟩
  ·rw [qr (ar hcs).symm]
   exact I.hok.fresh (Nat.le_of_lt hcs)
  ·obtain ⟨v,ob,e1,e2⟩:=I.cell y d (hcc y d h1)
   rw [qr (ar (af e1))]
   exact I.freeC y d (hcc y d h1)
 ·have hp':p∈X.pn++pins:=(aP.mp hp).elim (λz=>z) λz=>nomatch z
  obtain ⟨e1,e2,e3,e4,e5⟩:=I.pin p hp'
  refine ⟨keep _ _ e1,?_,ar (aR (af e1) hC),λz=>?_,e5⟩
  ·rw [qr (ar (af e1))]
   exact e2
  ·rcases ay.mp (I.stkSub p.1 z) with z|z
   ·exact e3 z
   ·exact e4 z
 ·exact I.hok.laid keep (Nat.le_refl _) ⟨aN _,[],0,.nil,hD⟩
 ·show (none::M.map λj=>(σ[j]?).join).length=(x::M.map λj=>X.N.getD j Str.empty).length
  rw [ax,ax,List.length_map,List.length_map]
theorem Inv.uncompK {pins':List (Addr×Obj)}{σ':St}{H':Hp}{s':Ab}{h':Heap}(I:Inv X pins σ H s2)(hC:s2.heap.objs.size≤C)(hfp:∀b∈fp,zr X pins H b)
  (J:Inv (jp X scope cl x c M C s2 H fp (X.pn++pins)) pins' σ' H' s') (hs:Heap.SameBut C s'.heap h'):Inv X pins σ H' { s' with heap:=h' }:=by
 have hb:=J.base
 have nC:∀b o,s2.heap.get? b=some o→b≠C:=λb o e=>ar (aD (af e) hC)
 have st:∀b o,b≠C→s'.heap.get? b=some o→h'.get? b=some o:=λb o n e=>(hs.2 b n).trans e
 refine I.call' (s':={ s' with heap:=h' }) (ch:=fp) J.os ⟨λb o e n nb nx=>st b o (nC b o e) (hb.keep b o e n nb nx),λb o e n hb' nx=>?_,hb.free,λb o e nx=>?_,hb.tups,hb.frzs,hb.tbls⟩ ?_ J.bare λb hbf=>?_
 ·obtain ⟨sl,e1⟩:=hb.slot b o e n hb' nx
  exact ⟨sl,st b _ (nC b o e) e1⟩
 ·obtain ⟨o',e1⟩:=hb.there b o e nx
  exact ⟨o',st b _ (nC b o e) e1⟩
 ·intro b u hu
  have fr:H' C=none:=J.free
  refine (J.hok b u hu).stay (λc v hc e=>st c v ?_ e) (λ_ z=>z) λ_ _ z=>z
  rcases hc with rfl|hc
  ·intro z;rw [z,fr] at hu;cases hu
  ·intro z;rw [z,fr] at hc;cases hc
 ·obtain ⟨q1,q2,q3,q4,q5,q6⟩:=hfp b hbf
  exact ⟨q4,q2,q5,q6⟩
end
section
variable {X:Cx}{elt iter:Expr}{x:Str}{px pos:Pos}{scope:Scope}{cl:List (Str×Addr)}{M:List Nat}{wi:TI}{te:TE}
theorem wvn (hc:X.calm=true)(hclos:closureFor scope X.env=pure cl)(hcap:CapAll X.env cl)(hhas:HasAllK x cl scope.names)(hix:CapIx X scope cl M)(hk:scope.kind=.function)
  (hnames:∀y∈scope.names,y.2=.local→scope.names.lookup y.1=some .local) (hcf:∀n,cellsFrom n scope.names cl=(x,n)::cl) (hpc:∀h,pushCells h scope.names=h.push { cls:=.type "cell",data:=.cell none }) (hx:(relabel scope X.env).names.lookup x=some .cell) (hnd:(j4 X x M).Nodup) (hi:PI X (.Name x px) iter wi)
  (he:∀C s2 H2 fp pn,PE (jp X scope cl x (C+1) M C s2 H2 fp pn) elt te) (hs:∀z,foldedSetIterable iter X.env z=pure z)
  {use:Option (Value→Sem Unit)} {QQ:Value→Ab→Prop} {pins:List (Addr×Obj)} {s:Ab} {σ:St} {H:Hp} {Q:VK} {ps:Pos} (I:Inv X pins σ H s) (h:wi σ H λJ H1=>uz J M te σ H1 Q)
  (fin:∀(C:Addr) (s2 s4:Ab) (H1 H2:Hp) (fp:List Addr),Inv X pins σ H1 s2→s2.heap.objs.size<C→(∀b∈fp,zr X pins H1 b)→Inv (jp X scope cl x (C+1) M C s2 H1 fp (X.pn++pins)) [] (x9 M σ none) H2 s4→Q (.ref s2.heap.objs.size) H2 →
   compPost (model X.prog X.w) X.A X.xe use QQ (.ref s2.heap.objs.size) C (.ok .next) s4) :
  wpAny (model X.prog X.w) X.A (comprehension (.ListComp elt [⟨.Name x px,iter,[],0⟩] scope pos) scope X.env ps (newList []) false (eval iter X.env) use) QQ X.xe s:=by
 refine eK (use:=use) rfl hs hclos hk hnames ?_
 refine thn (hi pins s σ H _ I h) λv s1 h1=>thn h1 λitv s2 h2=>?_
 obtain ⟨it,fp,tn,J,H1,rfl,I2,T,t0,hfp,hR⟩:=h2
 have hob:∀b∈fp,∃o,s2.heap.get? b=some o∧∀v,o.data≠.cell v:=T.obj 0 _ t0
 obtain ⟨W,⟨m0,w0⟩,hW⟩:=hR s2.heap.objs.size (I2.hok.fresh (Nat.le_refl _))
 refine bp ?_
 refine wu8 (x:=x) hk (hcf _) (hpc _) ?_
 dsimp only
 generalize hH2:s2.heap.push { cls:=.type "list",dict:=none,data:=.seq ([]:List Value).toArray }=G2
 have hC:G2.objs.size=s2.heap.objs.size+1:=by rw [←hH2,bw]
 have hlt:s2.heap.objs.size<G2.objs.size:=by omega
 have kG:∀b o,G2.get? b=some o→((G2.push { cls:=.type "dict",data:=.dict #[] }).push { cls:=.type "cell",data:=.cell none }).get? b=some o:=λb o e=>Heap.get?_push_of_some _ (Heap.get?_push_of_some _ e)
 have hcell:((G2.push { cls:=.type "dict",data:=.dict #[] }).push { cls:=.type "cell",data:=.cell none }).IsCell (G2.objs.size+1) none:=⟨_,by rw [show G2.objs.size+1=(G2.push { cls:=.type "dict",data:=.dict #[] }).objs.size from (bw ..).symm];exact ak _ rfl,rfl⟩
 have hns':((G2.push { cls:=.type "dict",data:=.dict #[] }).push { cls:=.type "cell",data:=.cell none }).Ns G2.objs.size λ_=>none:=(Heap.Ns.new G2 (.type "dict")).keeps λb o e=>Heap.get?_push_of_some _ e
 generalize (G2.push { cls:=.type "dict",data:=.dict #[] }).push { cls:=.type "cell",data:=.cell none }=h3 at kG hcell hns'
 have keep:∀b o,s2.heap.get? b=some o→h3.get? b=some o:=λb o e=>kG b o (hH2▸Heap.get?_push_of_some _ e)
 have hD:h3.get? s2.heap.objs.size=some { cls:=.type "list",data:=.seq #[] 0 }:=kG _ _ (hH2▸ak _ rfl)
 have J0:∀tk,Inv (jp X scope cl x (G2.objs.size+1) M G2.objs.size s2 H1 fp (X.pn++pins)) [] (x9 M σ none) (upd H1 s2.heap.objs.size (.lst [])) { s2 with heap:=h3,toks:=tk }:=λtk =>
  I2.compK hcap hhas hix hk hnd hlt (cK _) hcell keep hns' hD hfp λb hb=>let ⟨o,e,_⟩:=hob b hb;⟨o,e⟩
 have hbl:∀b∈fp,b<s2.heap.objs.size:=λb hb=>let ⟨o,e,_⟩:=hob b hb;af e
 have fok:∀(H2:Hp),(∀b∈fp,H2 b=none)→∀b∈fp,zr (jp X scope cl x (G2.objs.size+1) M G2.objs.size s2 H1 fp (X.pn++pins)) [] H2 b:=λH2 hn b hb=>by
  obtain ⟨q1,q2,q3,q4,q5,q6⟩:=hfp b hb
  refine ⟨hn b hb,ar (aR (hbl b hb) hlt),λz=>?_,.inl hb,λy d e=>?_,λp hp=>q6 p ((aP.mp hp).elim (λz=>z) λz=>nomatch z)⟩
  ·rcases ay.mp (I2.stkSub b z) with z|z
   ·exact q2 z
   ·exact q3 z
  ·have e':((x,G2.objs.size+1)::cl).lookup y=some d:=e
   rw [be] at e'
   cases hb':y==x with
   |true =>
    rw [hb'] at e'
    have:d=G2.objs.size+1:=(aj e').symm
    rw [this]
    exact (ar (aR (aR (hbl b hb) hlt) (cK _))).symm
   |false =>
    rw [hb'] at e'
    exact q5 y d (hcap.look e')
 have t3:=T.keep 0 _ _ t0 λb _ o e=>keep b o e
 have loop:=λtk=>kj (e:=.ListComp elt [⟨.Name x px,iter,[],0⟩] scope pos) (k:=0) (acc:=.ref s2.heap.objs.size) (Y:=jp X scope cl x (G2.objs.size+1) M G2.objs.size s2 H1 fp (X.pn++pins)) (V:=λi n H2=>∃ys,W i n ys H2) (Qd:=Q (.ref s2.heap.objs.size)) (REST:=appS elt (.ref s2.heap.objs.size) (compEnvC scope ((x,G2.objs.size+1)::cl) G2.objs.size X.env) _) (post:=compPost (model X.prog X.w) X.A X.xe use QQ (.ref s2.heap.objs.size) G2.objs.size) T hc (λ_ _ z=>z) (compTurn_list1 ..) rfl rfl (wn (i:=0) hnd rfl (.inr hx) (.inl (dJ x))) fok (λi n H2 ⟨ys,w⟩=>by
  obtain ⟨hp,hz,hcase⟩:=hW i n ys H2 w
  refine hcase.imp id λ⟨hgo,hy⟩=>⟨hgo,λv H3 yl=>⟨λσ4 H4=>σ4=x9 M σ (some v)∧H3=H4,⟨rfl,rfl⟩,λ_ _ e=>?_⟩⟩
  obtain ⟨rfl,rfl⟩:=e
  refine ⟨yj M σ v,λpins' s' J=>?_⟩
  exact aS (Zy (N:=λzs H5=>∃m',m'<n∧W (i+1) m' zs H5) (λ_ _ z=>z) (he _ _ _ _ _) J hz (hy v H3 yl)) (λr s5 ⟨e,H5,J5,zs,m',hm,w'⟩=>⟨e,H5,J5,m',hm,zs,w'⟩) λ_ _ z=>z)
  (λH2 s4 J4 q=>fin G2.objs.size s2 s4 H1 H2 fp I2 hlt hfp J4 q) (J0 tk) ⟨[],w0⟩ t3 λb hb=>by rw [qr (ar (hbl b hb))];exact (hfp b hb).1
 exact codeAny_compStart_list (loop _) (T.self _ 0 _ _ _ t3 (loop _))
theorem qwm (hc:X.calm=true)(hclos:closureFor scope X.env=pure cl)(hcap:CapAll X.env cl)(hhas:HasAllK x cl scope.names)(hix:CapIx X scope cl M)(hk:scope.kind=.function)
  (hnames:∀y∈scope.names,y.2=.local→scope.names.lookup y.1=some .local) (hcf:∀n,cellsFrom n scope.names cl=(x,n)::cl) (hpc:∀h,pushCells h scope.names=h.push { cls:=.type "cell",data:=.cell none }) (hx:(relabel scope X.env).names.lookup x=some .cell) (hnd:(j4 X x M).Nodup) (hi:PI X (.Name x px) iter wi)
  (he:∀C s2 H2 fp pn,PE (jp X scope cl x (C+1) M C s2 H2 fp pn) elt te) (hs:∀z,foldedSetIterable iter X.env z=pure z:=by intro _;rfl) :
  PE X (.ListComp elt [⟨.Name x px,iter,[],0⟩] scope pos) (wx9 M wi te):=by
 intro pins s σ H Q I h
 rw [eval_ListComp]
 refine wvn hc hclos hcap hhas hix hk hnames hcf hpc hx hnd hi he hs (use:=none) I h λC s2 s4 H1 H2 fp I2 hlt hfp J4 hq=>?_
 obtain ⟨m,hn,_⟩:=J4.loc
 exact ⟨m,hn,λh' hs'=>⟨.ref s2.heap.objs.size,H2,I2.uncompK (Nat.le_of_lt hlt) hfp J4 hs',rfl,hq⟩⟩
end
end L2
namespace L2
open PySem PySem.Spec PyProof.Rows
theorem wqj {X:Cx}{tg l:Expr}{tl:TE}{K:Aa}(hK:X.K=K)(hl:PE X l tl):PI X tg l (iList K tl):=by
 subst hK
 exact zf hl
def Stay (G:Nat→V→Hp→Prop):Prop:=∀i v H H' p,G i v H→v≠.ref p→(∀b o,b≠p→H b=some o→H' b=some o)→G i v H'
theorem uk {M:List Nat}{lo:Int}{n:Nat}{te:TE}{σ:St}{H:Hp}{Q:VK}(G:Nat→V→Hp→Prop)(gs:Stay G)(hn:n≤1000000)
  (he:∀(i:Nat) (H':Hp) (R:VK),i<n→Same H H'→(∀v H'',Same H' H''→G i v H''→(∀b,v=.ref b→H' b=none)→R v H'')→te (x9 M σ (some (.int (lo+i)))) H' R)
  (k:∀p ys H',H p=none→Same H H'→H' p=some (.lst ys)→ys.length=n→(∀j v,ys[j]?=some v→G j v H'∧v≠.ref p)→Q (.ref p) H'):uz (Itr lo n) M te σ H Q:=by
 intro p np
 refine ⟨λi m ys H2=>i≤n∧m=n-i∧ys.length=i∧Same H H2∧H2 p=some (.lst ys)∧∀j v,ys[j]?=some v→G j v H2∧v≠.ref p,⟨n,aN _,rfl,rfl,Same.upd np,qb,λj v e=>by cases e⟩,?_⟩
 rintro i m ys H2 ⟨hi,rfl,hy,sm,hp,hG⟩
 refine ⟨hp,?_,?_⟩
 ·have:(1000000:Nat)<sizeLine:=by decide
  omega
 ·by_cases hlt:i<n
  ·refine .inr ⟨hlt,?_⟩
   rintro v H3 ⟨rfl,rfl⟩
   refine he i _ _ hlt sm λv H4 s4 g4 fr=>⟨s4 _ _ hp,n-(i+1),by omega,by omega,rfl,by rw [ai,hy];rfl,λb o e=>?_,qb,λj w e=>?_⟩
   ·rw [qr (q8 e np)]
    exact s4 _ _ (sm _ _ e)
   ·have vp:v≠.ref p:=λz=>by
     have:=fr p z
     rw [hp] at this
     cases this
    have st:∀b o,b≠p→H4 b=some o→upd H4 p (.lst (ys++[v])) b=some o:=λb o nb e=>by rw [qr nb];exact e
    rcases (aV j ys.length) with z|z
    ·rw [aK z] at e
     obtain ⟨g,nw⟩:=hG j w e
     exact ⟨gs j w _ _ p g nw λb o nb e=>st b o nb (s4 b o e),nw⟩
    ·rw [av z] at e
     have hj:j=i:=by
      rcases aV (j-ys.length) 1 with y|y
      ·omega
      ·rw [az (by simpa using y)] at e
       cases e
     subst hj
     rw [show j-ys.length=0 by omega] at e
     have:v=w:=aj e
     subst this
     exact ⟨gs j v H4 _ p g4 vp st,vp⟩
  ·have:i=n:=by omega
   subst this
   exact .inl ⟨Nat.le_refl _,k p ys _ np sm hp hy hG⟩
theorem yt {K:Aa}{M:List Nat}{a:Addr}{xs:List V}{te:TE}{σ:St}{H:Hp}{Q:VK}(G:Nat→V→Hp→Prop)(gs:Stay G)(hS:SqL K H a xs)(hn:xs.length≤1000000)
  (he:∀(i:Nat) (x:V) (H':Hp) (R:VK),xs[i]?=some x→Same H H'→(∀v H'',Same H' H''→G i v H''→(∀b,v=.ref b→H' b=none)→R v H'')→te (x9 M σ (some x)) H' R)
  (k:∀p ys H',H p=none→Same H H'→H' p=some (.lst ys)→ys.length=xs.length→(∀j v,ys[j]?=some v→G j v H'∧v≠.ref p)→Q (.ref p) H'):uz (Itl K a) M te σ H Q:=by
 intro p np
 refine ⟨λi m ys H2=>i≤xs.length∧m=xs.length-i∧ys.length=i∧Same H H2∧H2 p=some (.lst ys)∧∀j v,ys[j]?=some v→G j v H2∧v≠.ref p,⟨xs.length,aN _,rfl,rfl,Same.upd np,qb,λj v e=>by cases e⟩,?_⟩
 rintro i m ys H2 ⟨hi,rfl,hy,sm,hp,hG⟩
 have hS':SqL K H2 a xs:=Same.sql sm hS
 refine ⟨hp,?_,?_⟩
 ·have:(1000000:Nat)<sizeLine:=by decide
  omega
 ·by_cases hlt:i<xs.length
  ·have hx:xs[i]?=some xs[i]:=aa hlt
   refine .inr ⟨⟨xs,_,hS',hx⟩,?_⟩
   rintro v H3 ⟨rfl,hv⟩
   have e:=hv xs hS'
   rw [hx] at e
   have e':=aj e
   subst e'
   refine he i _ _ _ hx sm λv H4 s4 g4 fr=>⟨s4 _ _ hp,xs.length-(i+1),by omega,by omega,rfl,by rw [ai,hy];rfl,λb o e=>?_,qb,λj w e=>?_⟩
   ·rw [qr (q8 e np)]
    exact s4 _ _ (sm _ _ e)
   ·have vp:v≠.ref p:=λz=>by
     have:=fr p z
     rw [hp] at this
     cases this
    have st:∀b o,b≠p→H4 b=some o→upd H4 p (.lst (ys++[v])) b=some o:=λb o nb e=>by rw [qr nb];exact e
    rcases (aV j ys.length) with z|z
    ·rw [aK z] at e
     obtain ⟨g,nw⟩:=hG j w e
     exact ⟨gs j w _ _ p g nw λb o nb e=>st b o nb (s4 b o e),nw⟩
    ·rw [av z] at e
     have hj:j=i:=by
      rcases aV (j-ys.length) 1 with y|y
      ·omega
      ·rw [az (by simpa using y)] at e
       cases e
     have e3:[v][j-ys.length]?=some w:=by assumption
     subst hj
     rw [show j-ys.length=0 by omega] at e3
     have:v=w:=aj e3
     subst this
     exact ⟨gs j v H4 _ p g4 vp st,vp⟩
  ·have hi':i=xs.length:=by omega
   subst hi'
   exact .inl ⟨⟨xs,hS',Nat.le_refl _⟩,k p ys _ np sm hp hy hG⟩
theorem wwg {K:Aa}{M:List Nat}{a:Addr}{xs:List V}{te:TE}{σ:St}{H:Hp}{Q:VK}(f:V→V)(hf:∀x b,f x≠.ref b)(hS:SqL K H a xs)(hn:xs.length≤1000000)
  (he:∀(x:V) (H':Hp) (R:VK),x∈xs→Same H H'→(∀H'',Same H' H''→R (f x) H'')→te (x9 M σ (some x)) H' R)
  (k:∀p H',H p=none→Same H H'→H' p=some (.lst (xs.map f))→Q (.ref p) H'):uz (Itl K a) M te σ H Q:=by
 refine yt (λi v _=>∃x,xs[i]?=some x∧v=f x) (λi v H H' p g _ _=>g) hS hn (λi x H' R hx s hR=>he x H' R (aA hx) s λH'' s''=>hR _ _ s'' ⟨x,hx,rfl⟩ λb e=>absurd e (hf x b)) λp ys H' np s hp hl hG=>?_
 have e:ys=xs.map f:=by
  refine bv λj=>?_
  rw [ao]
  cases hj:ys[j]? with
  |none =>
   have:xs[j]?=none:=az (by have:=eE.mp hj;omega)
   rw [this]
   rfl
  |some v =>
   obtain ⟨⟨x,hx,rfl⟩,_⟩:=hG j v hj
   rw [hx]
   rfl
 rw [e] at hp
 exact k p H' np s hp
theorem wqx {M:List Nat}{lo:Int}{n:Nat}{te:TE}{σ:St}{H:Hp}{Q:VK}(f:Nat→V)(hf:∀x b,f x≠.ref b)(hn:n≤1000000)
  (he:∀(i:Nat) (H':Hp) (R:VK),i<n→Same H H'→(∀H'',Same H' H''→R (f i) H'')→te (x9 M σ (some (.int (lo+i)))) H' R)
  (k:∀p H',H p=none→Same H H'→H' p=some (.lst ((List.range n).map f))→Q (.ref p) H'):uz (Itr lo n) M te σ H Q:=by
 refine uk (λi v _=>v=f i) (λi v H H' p g _ _=>g) hn (λi H' R hi s hR=>he i H' R hi s λH'' s''=>hR _ _ s'' rfl λb e=>absurd e (hf i b)) λp ys H' np s hp hl hG=>?_
 have e:ys=(List.range n).map f:=by
  refine bv λj=>?_
  rw [ao]
  cases hj:ys[j]? with
  |none =>
   have:n≤j:=by have:=eE.mp hj;omega
   rw [az (by rw [List.length_range];exact this)]
   rfl
  |some v =>
   have hjn:j<n:=by have:=(ag.mp hj).1;omega
   rw [bf hjn,(hG j v hj).1]
   rfl
 rw [e] at hp
 exact k p H' np s hp
end L2
namespace L2
open PySem PySem.Spec PyProof.Rows
theorem yk:bootBuiltins "sum" = some (.builtin "sum"):=by decide +kernel
section
variable {X:Cx}{K:Aa}
theorem jk (hK:X.K=K):IxR X (wwy K):=by
 subst hK
 exact zx
theorem qzn (hK:X.K=K):v8 X (.builtin "len") (λxs H Q=>∃p ys,xs=[.ref p]∧(SqL K H p ys∨SqT K H p ys)∧Q (.int ys.length) H):=by
 subst hK
 exact wm
theorem qvj (ns:List Int):∀n,preSum (λi=>ns.getD i 0) n=(ns.take n).sum
 |0=>by simp [preSum]
 |n+1=>by
  rw [preSum,qvj ns n,List.take_succ]
  cases e:ns[n]? with
  |none=>simp [ae,e]
  |some v=>simp [ae,e]
theorem vw (hK:X.K=K)(hc:X.calm=true):v8 X (.builtin "sum") (λxs H Q=>∃(p:Addr) (ns:List Int),xs=[.ref p]∧SqL K H p (ns.map V.int)∧Q (.int ns.sum) H):=by
 subst hK
 intro pins s σ H xs us Q I r h
 obtain ⟨p,ns,rfl,hS,q⟩:=h
 obtain ⟨u,rfl,ru⟩:=k7 r
 cases (show u=Value.ref p from ru)
 obtain ⟨its,rv,⟨o,n,e1,e2,e3,e4⟩,hz⟩:=I.list hS
 have hl:s.heap.IsList p its.toArray:=⟨o,e1,e2,n,e4⟩
 have hlt:p<s.heap.objs.size:=af e1
 have hlen:its.length=ns.length:=by rw [←rv.length,List.length_map]
 refine call_sum_walkG (d6 hl ?_)
 refine ⟨s.heap.objs.size,_,_,_,_,_,λi=>ns.getD i 0,rfl,iz (A:=X.A.in1) (I.ok.hd hc) _ p (ar hlt) its.toArray,⟨⟨_,ak _ rfl,rfl,rfl⟩,hl.push _⟩,λb hb=>?_,λi v hP=>?_,λh' tk t' hk=>?_⟩
 ·rcases ay.mp hb with z|z
  ·rw [z,bw]
   exact cK _
  ·rw [aG.mp z,bw]
   exact dB hlt
 ·have hv:its[i]?=some v:=by simpa using hP
  have hi:i<(ns.map V.int).length:=by
   rw [List.length_map,←hlen]
   exact (ag.mp hv).1
  obtain ⟨u,eu,ru⟩:=rv.get (i:=i) (aa hi)
  rw [hv] at eu
  cases eu
  rw [fI] at ru
  obtain ⟨t,rfl⟩:=ru
  rw [List.length_map] at hi
  exact ⟨t,by show Value.int ns[i] t=Value.int (ns.getD i 0) t;rw [ae,aa hi];rfl⟩
 ·have e:preSum (λi=>ns.getD i 0) its.toArray.size=ns.sum:=by
   rw [qvj,ah,hlen,List.take_length]
  rw [e]
  refine ⟨.int _,H,I.kept λb ob e=>hk b ob (λhm=>?_) (Heap.get?_push_of_some _ e),⟨t',rfl⟩,q⟩
  have z:b=s.heap.objs.size:=by simpa using hm
  exact aI _ (z▸af e)
end
def zu (n:Nat)(g:Nat→Int):List Int:=(List.range n).map g
theorem ug (n:Nat)(g:Nat→Int):(zu n g).length=n:=by
 unfold zu
 rw [List.length_map,List.length_range]
theorem qxv {n i:Nat}{g:Nat→Int}(h:i<n):(zu n g)[i]?=some (g i):=by
 unfold zu
 rw [ao,bf h]
 rfl
theorem qxk (n:Nat)(g:Nat→Int):(zu n g).map V.int=(List.range n).map λi=>V.int (g i):=by
 unfold zu
 rw [bz]
 rfl
theorem wxn {n:Nat}{f g:Nat→Int}(h:∀i,i<n→f i=g i):zu n f=zu n g:=dH λi hi=>h i (am.mp hi)
def MatAt (H:Hp)(p:Addr)(n:Nat)(f:Nat→Nat→Int):Prop:=∃ys,H p=some (.lst ys)∧ys.length=n∧∀i v,ys[i]?=some v→∃q,v=.ref q∧H q=some (.lst ((zu n (f i)).map V.int))
theorem MatAt.same {H H':Hp}{p:Addr}{n:Nat}{f:Nat→Nat→Int}(h:MatAt H p n f)(s:Same H H'):MatAt H' p n f:=by
 obtain ⟨ys,e,l,r⟩:=h
 exact ⟨ys,s _ _ e,l,λi v z=>let ⟨q,a,b⟩:=r i v z;⟨q,a,s _ _ b⟩⟩
theorem MatAt.row {H:Hp}{p:Addr}{n:Nat}{f:Nat→Nat→Int}(h:MatAt H p n f){ys:List V}(e:H p=some (.lst ys)){i:Nat}(hi:i<n):∃q,ys[i]?=some (.ref q)∧H q=some (.lst ((zu n (f i)).map V.int)):=by
 obtain ⟨ys',e',l,r⟩:=h
 rw [e] at e'
 cases e'
 have z:ys[i]?=some ys[i]:=aa (by omega)
 obtain ⟨q,a,b⟩:=r i _ z
 exact ⟨q,by rw [z,a],b⟩
def vn (n:Nat)(g:Nat→Int):Int:=(zu n g).sum
theorem zn (n:Nat)(g:Nat→Int):vn (n+1) g=vn n g+g n:=by
 unfold vn zu
 rw [List.range_succ,List.map_append,fY]
 simp
theorem xwc (n:Nat)(g h:Nat→Int):vn n (λi=>g i+h i)=vn n g+vn n h:=by
 induction n with
 |zero=>rfl
 |succ n ih=>rw [zn,zn,zn,ih];omega
theorem Z3 (n:Nat)(g:Nat→Int)(h:∀i,i<n→g i=0):vn n g=0:=by
 induction n with
 |zero=>rfl
 |succ n ih=>rw [zn,ih λi hi=>h i (by omega),h n (by omega)];rfl
theorem yn {n:Nat}{g h:Nat→Int}(e:∀i,i<n→g i=h i):vn n g=vn n h:=by
 unfold vn
 rw [wxn e]
theorem qyy {n i:Nat}(hi:i<n)(g:Nat→Int):vn n (λk=>(if k=i then 1 else 0)*g k)=g i:=by
 induction n with
 |zero=>omega
 |succ n ih =>
  rw [zn]
  rcases (by omega:i<n∨i=n) with z|z
  ·rw [ih z,if_neg (by omega)]
   omega
  ·subst z
   rw [if_pos rfl,Z3 _ _ λk hk=>by rw [if_neg (by omega),Int.zero_mul]]
   omega
theorem qyc {α:Type}(n:Nat)(F:α→Nat→Int):∀L:List α,(L.map λv=>vn n (F v)).sum=vn n λk=>(L.map λv=>F v k).sum
 |[]=>by
  rw [cP,List.sum_nil,Z3]
  intro i _
  rfl
 |v::L=>by
  rw [aF,b7,qyc n F L,←xwc]
  refine yn λk _=>?_
  rw [aF,b7]
def zw (cov:Nat→List Int):Nat→Nat→Nat→Int
 |0=>λi j=>if j=i then 1 else 0
 |m+1=>λi j=>((cov i).map λv=>zw cov m v.toNat j).sum
end L2
namespace L2
open PySem PySem.Spec PyProof.Rows
def qkc (X:Cx)(x y:Str)(M:List Nat):List Str:=x::y::M.map λj=>X.N.getD j Str.empty
def xt (M:List Nat)(σ:St)(o o':Option V):St:=o::o'::M.map λj=>(σ[j]?).join
abbrev xn (X:Cx)(scope:Scope)(cl:List (Str×Addr))(x y:Str)(M:List Nat)(C:Addr)(s2:Ab)(H2:Hp)(fp:List Addr)(pn:List (Addr×Obj)):Cx :=
 { X with N:=qkc X x y M,s₀:=s2,H₀:=H2,env:=compEnvC scope cl C X.env,outer:=X.stack,ex:=fp,fn:=λ_=>false,pn:=pn,xe:=λ_ _=>False }
section
variable {X:Cx}{pins:List (Addr×Obj)}{σ:St}{H:Hp}{s2:Ab}{scope:Scope}{cl:List (Str×Addr)}{x y:Str}{M:List Nat}{fp:List Addr}{C:Addr}{h1:Heap}{tk:Nat}
theorem Inv.comp2 (I:Inv X pins σ H s2)(hc:CapAll X.env cl)(hh:HasAll cl scope.names)(hm:CapIx X scope cl M)(hk:scope.kind=.function)(hC:s2.heap.objs.size<C)
  (keep:∀b o,s2.heap.get? b=some o→h1.get? b=some o) (hn:h1.Ns C λ_=>none) (hD:h1.get? s2.heap.objs.size=some { cls:=.type "list",data:=.seq #[] 0 })
  (hfp:∀b∈fp,zr X pins H b) (hob:∀b∈fp,∃o,s2.heap.get? b=some o) :
  Inv (xn X scope cl x y M C s2 H fp (X.pn++pins)) [] (xt M σ none none) (upd H s2.heap.objs.size (.lst [])) { s2 with heap:=h1,toks:=tk }:=I.compG (xs:=[x,y]) hc hh hm hk hC keep hn ⟨aN _,[],0,.nil,hD⟩ hfp hob
theorem Inv.uncomp2 {pins':List (Addr×Obj)}{σ':St}{H':Hp}{s':Ab}{h':Heap}(I:Inv X pins σ H s2)(hC:s2.heap.objs.size≤C)(hfp:∀b∈fp,zr X pins H b)
  (J:Inv (xn X scope cl x y M C s2 H fp (X.pn++pins)) pins' σ' H' s') (hs:Heap.SameBut C s'.heap h'):Inv X pins σ H' { s' with heap:=h' }:=by
 have hb:=J.base
 have nC:∀b o,s2.heap.get? b=some o→b≠C:=λb o e=>ar (aD (af e) hC)
 have st:∀b o,b≠C→s'.heap.get? b=some o→h'.get? b=some o:=λb o n e=>(hs.2 b n).trans e
 refine I.call' (s':={ s' with heap:=h' }) (ch:=fp) J.os ⟨λb o e n nb nx=>st b o (nC b o e) (hb.keep b o e n nb nx),λb o e n hb' nx=>?_,hb.free,λb o e nx=>?_,hb.tups,hb.frzs,hb.tbls⟩ ?_ J.bare λb hbf=>?_
 ·obtain ⟨sl,e1⟩:=hb.slot b o e n hb' nx
  exact ⟨sl,st b _ (nC b o e) e1⟩
 ·obtain ⟨o',e1⟩:=hb.there b o e nx
  exact ⟨o',st b _ (nC b o e) e1⟩
 ·intro b u hu
  have fr:H' C=none:=J.free
  refine (J.hok b u hu).stay (λc v hc e=>st c v ?_ e) (λ_ z=>z) λ_ _ z=>z
  rcases hc with rfl|hc
  ·intro z;rw [z,fr] at hu;cases hu
  ·intro z;rw [z,fr] at hc;cases hc
 ·obtain ⟨q1,q2,q3,q4,q5,q6⟩:=hfp b hbf
  exact ⟨q4,q2,q5,q6⟩
end
theorem xzq {prog:Ac}{w:World}{A:Around}{R:Result→Ab→Prop}{s:Ab}{elt t0 i0 t1 i1:Expr}{scope:Scope}{pos:Pos}{it acc:Value}{env:Env}{ifs:List Expr}
  (h1:codeAny (model prog w) A (Code.compLoop (elt.ListComp [⟨t0,i0,[],0⟩,⟨t1,i1,ifs,0⟩] scope pos) 1 it acc env) R s)
  (h2:∀(E:Value→Ab→Prop),wpAny (model prog w) A (pyIter it) (λit' s'=>codeAny (model prog w) A (Code.compLoop (elt.ListComp [⟨t0,i0,[],0⟩,⟨t1,i1,ifs,0⟩] scope pos) 1 it' acc env) R s') E s) :
  codeAny (model prog w) A (Code.compStart (elt.ListComp [⟨t0,i0,[],0⟩,⟨t1,i1,ifs,0⟩] scope pos) 1 it acc env) R s:=by
 refine iE ?_
 show wpAny (model prog w) _ ((compStart (elt.ListComp [⟨t0,i0,[],0⟩,⟨t1,i1,ifs,0⟩] scope pos) 1 it acc env).onRaise (λz=>do noteFrame z env;standAt theWindowsPlace)) _ _ s
 refine fR ?_
 unfold compStart
 rw [if_neg (show ¬ ((clausesOf (elt.ListComp [⟨t0,i0,[],0⟩,⟨t1,i1,ifs,0⟩] scope pos))[1]?.elim false λx=>x.is_async != 0)=true from au)]
 refine wpAny_bind (wpAny_askSetting ?_)
 split
 ·exact wpAny_pure ⟨rfl,h1⟩
 ·refine wpAny_bind (bW ?_)
  show wpAny _ _ (standAt i1.pos >>= λ_=>pyIter it >>= λz=>again (Code.compLoop (elt.ListComp [⟨t0,i0,[],0⟩,⟨t1,i1,ifs,0⟩] scope pos) 1 z acc env)) _ _ s
  refine wpAny_bind (cy (wpAny_bind (aS (h2 _) (λz s' hz=>wpAny_pure ⟨rfl,hz⟩) λ_ _ e=>e)))
section
variable {X:Cx}{elt iter iter2:Expr}{x y:Str}{px py pos:Pos}{scope:Scope}{cl:List (Str×Addr)}{M:List Nat}{wi wi2:TI}{te:TE}
end
section
variable {X:Cx}{elt iter iter2:Expr}{x y2:Str}{px py2 pos:Pos}{scope:Scope}{cl:List (Str×Addr)}{M:List Nat}{wi wi2:TI}{te:TE}
end
end L2
namespace L2
open PySem PySem.Spec PyProof.Rows
theorem Qn {X:Cx}{K:Aa}(hK:X.K=K):IxR X (rIxT K):=by
 subst hK
 exact kn
end L2
namespace L2
open PySem PySem.Spec PyProof.Rows
section
variable {X:Cx}{pins:List (Addr×Obj)}{σ:St}{H:Hp}{s:Ab}{h':Heap}{ch:List Addr}
theorem Inv.turnedL {tk:Nat}(I:Inv X pins σ H s)(hk:∀b u,b∉ch→s.heap.get? b=some u→h'.get? b=some u)(hf:∀b∈ch,zr X pins H b):Inv X pins σ H { s with heap:=h',toks:=tk }:=by
 refine I.call' (s':={ s with heap:=h',toks:=tk }) (ch:=ch) rfl ⟨λb o e n _ nx=>hk b o nx e,λb o e n _ nx=>⟨o.slots,hk b o nx e⟩,λb o e n _=>n,λb o e nx=>⟨o,hk b o nx e⟩,λ_ _ e=>e,λ_ _ _ e=>e,λb ps e=>⟨#[],by rw [e];simp⟩⟩ ?_ I.bare λb hb=>?_
 ·intro b u hu
  refine (I.hok b u hu).stay (λc v hc e=>hk c v (λz=>?_) e) (λ_ z=>z) λ_ _ z=>z
  have:=(hf c z).1
  rcases hc with rfl|hc
  ·rw [this] at hu;cases hu
  ·rw [this] at hc;cases hc
 ·obtain ⟨q1,q2,q3,q4,q5,q6⟩:=hf b hb
  exact ⟨q4,q2,q5,q6⟩
theorem Inv.turnedT {tk:Nat}{o:HO}{ob:Obj}(I:Inv X pins σ H s)(hk:∀b u,b∉ch→s.heap.get? b=some u→h'.get? b=some u)(hn:h'.get? s.heap.objs.size=some ob)(hf:∀b∈ch,zr X pins H b)(hc:∀b∈ch,b≠s.heap.objs.size)
  (ok:ObjOk X.prog X.w (upd H s.heap.objs.size o) (s.heap.push ob) s.heap.objs.size o) (fr:ob.isFreed=false):Inv X pins σ (upd H s.heap.objs.size o) { s with heap:=h',toks:=tk }:=by
 have I1:Inv X pins σ (upd H s.heap.objs.size o) { s with heap:=s.heap.push ob,toks:=tk }:=I.laid (t':=tk) (λb u e=>Heap.get?_push_of_some _ e) (Nat.le_refl _) ok
 refine Inv.turnedL (s:={ s with heap:=s.heap.push ob,toks:=tk }) (ch:=ch) I1 (λb u nb e=>?_) λb hb=>?_
 ·rcases Heap.get?_push_cases e with ⟨rfl,rfl⟩|e
  ·exact hn
  ·exact hk b u nb e
 ·obtain ⟨q1,q⟩:=hf b hb
  exact ⟨by rw [qr (hc b hb)];exact q1,q⟩
theorem wzj {x y:V}{u v:Value}(I:Inv X pins σ H s)(rx:RelV x u)(ry:RelV y v):ObjOk X.prog X.w (upd H s.heap.objs.size (.tup [x,y])) (s.heap.push { cls:=.type "tuple",data:=.seq #[u,v] }) s.heap.objs.size (.tup [x,y]):=by
 refine ⟨by show 2≤sizeLine;decide,[u,v],.cons rx (.cons ry .nil),?_⟩
 exact ⟨_,ak _ rfl,rfl,_,rfl⟩
end
def ItZ (K:Aa)(a b:Addr)(xs ys:List V):It :=
 ⟨λi H=>SqL K H a xs∧SqL K H b ys∧i<xs.length∧i<ys.length,λi H v H'=>∃q x y,H q=none∧v=.ref q∧xs[i]?=some x∧ys[i]?=some y∧H'=upd H q (.tup [x,y]),λi H=>SqL K H a xs∧SqL K H b ys∧(xs.length≤i∨ys.length≤i)⟩
theorem xqx {P:Ac}{w:World}{K:Aa}{es:List Expr}{k:Nat}{pos:Pos}(a b z TI TO i1 i2:Addr)(xs ys:List V)(ap:ZipApart z TI TO i1 i2 a b):Turn P w K (.Tuple es k pos) (ItZ K a b xs ys) [z,TI,TO,i1,i2] z
  (λi h=>IsZip h z TI TO .none∧IsPair h TI (.ref i1) (.ref i2)∧(∃u v,IsPair h TO u v)∧h.IsListIter i1 a i∧h.IsListIter i2 b i) where
 mem:=by simp
 obj:=λi h st c hc=>by
  obtain ⟨h1,h2,⟨u,v,h3⟩,⟨o4,h4,c4,d4⟩,⟨o5,h5,c5,d5⟩⟩:=st
  have hc':c=z∨c=TI∨c=TO∨c=i1∨c=i2:=by simpa using hc
  rcases hc' with rfl|rfl|rfl|rfl|rfl
  ·exact ⟨_,h1,λv z=>by cases z⟩
  ·exact ⟨_,h2,λv z=>by cases z⟩
  ·exact ⟨_,h3,λv z=>by cases z⟩
  ·exact ⟨_,h4,λv z=>by rw [d4] at z;cases z⟩
  ·exact ⟨_,h5,λv z=>by rw [d5] at z;cases z⟩
 keep:=λi h h' st k=>by
  obtain ⟨h1,h2,⟨u,v,h3⟩,h4,h5⟩:=st
  exact ⟨k z (by simp) _ h1,k TI (by simp) _ h2,⟨u,v,k TO (by simp) _ h3⟩,h4.at λo e=>k i1 (by simp) o e,h5.at λo e=>k i2 (by simp) o e⟩
 item:=by
  intro X hP hw hK hc i pins s σ H E I hf st hg
  subst hP hw hK
  obtain ⟨hq1,hq2,l1,l2⟩:=hg
  obtain ⟨its,rv,p,hz⟩:=I.list hq1
  obtain ⟨its2,rv2,p2,hz2⟩:=I.list hq2
  have e1:xs[i]?=some xs[i]:=aa l1
  have e2:ys[i]?=some ys[i]:=aa l2
  obtain ⟨u,hu,ru⟩:=rv.get e1
  obtain ⟨v,hv,rv'⟩:=rv2.get e2
  obtain ⟨h1,h2,⟨a0,b0,h3⟩,h4,h5⟩:=st
  refine wpAny_pyNext_zip_item ap h1 h2 h3 h4 h5 p.isList p2.isList (x:=u) (y:=v) (by simpa using hu) (by simpa using hv) λh' g1 g2 g3 g4 g5 g6 g7=>?_
  refine ⟨_,rfl,wpAny_letOwnedTupleGo_zip (s:={ s with heap:=h' }) g1 λh'' f1 f2=>?_⟩
  have hsz:∀c,c∈[z,TI,TO,i1,i2]→c≠s.heap.objs.size:=λc hc e=>by
   have hc':c=z∨c=TI∨c=TO∨c=i1∨c=i2:=by simpa using hc
   have hlt:c<s.heap.objs.size:=by
    rcases hc' with rfl|rfl|rfl|rfl|rfl
    ·exact af h1
    ·exact af h2
    ·exact af h3
    ·obtain ⟨o,e,_⟩:=h4;exact af e
    ·obtain ⟨o,e,_⟩:=h5;exact af e
   exact aI _ (e▸hlt)
  have keep:∀c o,c∉[z,TI,TO,i1,i2]→s.heap.get? c=some o→h''.get? c=some o:=λc o nc e=>by
   simp only [ay,eB,iV,not_or] at nc
   rw [f2.2 c nc.1]
   exact g7 c o nc.1 nc.2.2.1 nc.2.2.2.1 nc.2.2.2.2 e
  have keepz:∀c o,c≠z→h'.get? c=some o→h''.get? c=some o:=λc o nc e=>(f2.2 c nc).trans e
  have new:h''.get? s.heap.objs.size=some { cls:=.type "tuple",data:=.seq #[u,v] }:=keepz _ _ (dt (hsz z (by simp))) g5
  have hTI:h''.get? TI=some { cls:=.type "tuple",data:=.seq #[.ref i1,.ref i2] }:=by
   refine keepz _ _ ap.TIz ?_
   exact g7 TI _ ap.TIz ap.TITO ap.TIi1 ap.TIi2 h2
  refine ⟨.ref s.heap.objs.size,_,Inv.turnedT (s:=s) (ch:=[z,TI,TO,i1,i2]) (tk:=s.toks) I keep new hf hsz (wzj I ru rv') rfl,rfl,⟨_,_,_,I.hok.fresh (Nat.le_refl _),rfl,e1,e2,rfl⟩,⟨f1,hTI,⟨u,v,keepz _ _ ap.TOz g2⟩,g3.at λo e=>keepz _ _ ap.i1z e,g4.at λo e=>keepz _ _ ap.i2z e⟩,λc hc=>?_⟩
  rw [qr (hsz c hc)]
  exact (hf c hc).1
 done:=by
  intro X hP hw hK hc i pins s σ H E I hf st hg
  subst hP hw hK
  obtain ⟨hq1,hq2,le⟩:=hg
  obtain ⟨its,rv,p,hz⟩:=I.list hq1
  obtain ⟨its2,rv2,p2,hz2⟩:=I.list hq2
  have hl:=rv.length
  have hl2:=rv2.length
  obtain ⟨h1,h2,⟨a0,b0,h3⟩,h4,h5⟩:=st
  refine wpAny_pyNext_zip_end (I.ok.hd hc) ap h1 h2 h3 h4 h5 p.isList p2.isList ?_ λh' g=>⟨rfl,Inv.turnedL (ch:=[z,TI,TO,i1,i2]) (tk:=s.toks) I (λc o nc e=>?_) hf⟩
  ·rcases le with le|le
   ·exact .inl (b9 (by rw [ah];omega))
   ·exact .inr (b9 (by rw [ah];omega))
  ·simp only [ay,eB,iV,not_or] at nc
   exact g c o nc.1 nc.2.2.1 nc.2.2.2.1 nc.2.2.2.2 e
 self:=λ_ _ _ _ _ st h=>fJ st.1 h
section
variable {X:Cx}
def iZip (K:Aa)(ta:TA):TI:=λσ H R=>ta σ H λvs H1=>∃a b xs ys,vs=[.ref a,.ref b]∧SqL K H1 a xs∧SqL K H1 b ys∧R (ItZ K a b xs ys) H1
theorem pi_zip {a b:Expr}{ta:TA}{p pos:Pos}{es:List Expr}{k:Nat}{tpos:Pos}(hg:Gl X "zip")(hm:X.mg "zip" = none)(ha:PA X [a,b] ta)(hv:bootBuiltins "zip" = some (.type "zip"):=by rfl)
  (hs:starEach [a,b] X.env=[(false,eval a X.env),(false,eval b X.env)]:=by rfl) (hs2:starEach [b] X.env=[(false,eval b X.env)]:=by rfl):PI X (.Tuple es k tpos) (.Call (.Name "zip" p) [a,b] [] pos) (iZip X.K ta):=by
 intro pins s σ H R I h
 refine Call_ (jf I hg hm hv (bI (thn (ha pos pins s σ H _ I h) λus s1 ⟨vs,H1,I1,r1,q1⟩=>?_) (by rw [hs,hs2]) (by rw [hs2];rfl)))
 obtain ⟨a,b,xs,ys,e,hq1,hq2,q⟩:=q1
 subst e
 cases r1 with
 |cons r rr =>
  cases rr with
  |cons r' rr =>
   cases rr
   cases r
   cases r'
   obtain ⟨its,rv,p,hz⟩:=I1.list hq1
   obtain ⟨its2,rv2,p2,hz2⟩:=I1.list hq2
   have la:a<s1.heap.objs.size:=by obtain ⟨o,n,e1,_⟩:=p;exact af e1
   have lb:b<s1.heap.objs.size:=by obtain ⟨o,n,e1,_⟩:=p2;exact af e1
   refine call_zip_2 p.isList p2.isList λh' g1 g2 g3 g4 g5 g6 g7=>?_
   refine fJ g1 ?_
   have I2:Inv X pins σ H1 { s1 with heap:=h' }:=I1.kept (t':=s1.toks) g7
   refine ⟨s1.heap.objs.size+4,[s1.heap.objs.size+4,s1.heap.objs.size+2,s1.heap.objs.size+3,s1.heap.objs.size,s1.heap.objs.size+1],_,_,H1,rfl,I2,xqx a b _ _ _ _ _ xs ys (zipApart_new la lb),⟨g1,g2,⟨_,_,g3⟩,g4,g5⟩,λc hc=>?_,q⟩
   have hc':s1.heap.objs.size≤c:=by
    have:c=s1.heap.objs.size+4∨c=s1.heap.objs.size+2∨c=s1.heap.objs.size+3∨c=s1.heap.objs.size∨c=s1.heap.objs.size+1:=by simpa using hc
    rcases this with e | e | e | e | e <;> (rw [e];first | exact Nat.le_refl _ | exact fL _ _)
   exact I1.fpOk hc' (I1.hok.fresh hc')
end
section
variable {X:Cx}
end
section
variable {X:Cx}{elt iter tg:Expr}{x y2:Str}{pos:Pos}{scope:Scope}{cl:List (Str×Addr)}{M:List Nat}{wi:TI}{gg:TG}{te:TE}
end
theorem xx4 {X:Cx}{K:Aa}{pos:Pos}{es:List Expr}{k:Nat}{t:TGs}{n:Nat}(hK:X.K=K)(hc:X.calm=true)(h:PGs X es t)(h1:(assignEach es X.env).length=n:=by rfl)(h2:List.findIdx? (λx=>x.fst) (assignEach es X.env)=none:=by rfl):PG X (.Tuple es k pos) (gTup K n t):=by
 subst hK
 exact jb hc h h1 h2
def StayT (G:Nat→V→Hp→Prop):Prop:=∀i v H H',G i v H→(∀b o,(∀xs,o≠.lst xs)→H b=some o→H' b=some o)→G i v H'
theorem wqz {M:List Nat}{lo:Int}{n:Nat}{te:TE}{σ:St}{H:Hp}{Q:VK}(G:Nat→V→Hp→Prop)(gs:StayT G)(hn:n≤1000000)
  (he:∀(i:Nat) (H':Hp) (R:VK),i<n→Same H H'→(∀v H'',Same H' H''→G i v H''→R v H'')→te (x9 M σ (some (.int (lo+i)))) H' R)
  (k:∀p ys H',H p=none→Same H H'→H' p=some (.lst ys)→ys.length=n→(∀j v,ys[j]?=some v→G j v H')→Q (.ref p) H'):uz (Itr lo n) M te σ H Q:=by
 intro p np
 have big:(1000000:Nat)<sizeLine:=by decide
 refine ⟨λi m ys H2=>i≤n∧m=n-i∧ys.length=i∧Same H H2∧H2 p=some (.lst ys)∧∀j v,ys[j]?=some v→G j v H2,⟨n,aN _,rfl,rfl,Same.upd np,qb,λj v e=>by cases e⟩,?_⟩
 rintro i m ys H2 ⟨hi,rfl,hl,sm,hp,hG⟩
 refine ⟨hp,by omega,?_⟩
 by_cases hlt:i<n
 ·refine .inr ⟨hlt,?_⟩
  rintro v H3 ⟨rfl,rfl⟩
  refine he i H3 _ hlt sm λw H4 s4 g4=>?_
  have hp4:=s4 _ _ hp
  have st:∀b o,(∀xs,o≠.lst xs)→H4 b=some o→upd H4 p (.lst (ys++[w])) b=some o:=λb o no e=>by
   rw [qr]
   ·exact e
   ·intro z
    rw [z,hp4] at e
    exact no _ (aj e).symm
  refine ⟨hp4,n-(i+1),by omega,by omega,rfl,by rw [ai,hl];rfl,λb o e=>?_,qb,λj v e=>?_⟩
  ·rw [qr (q8 e np)]
   exact s4 _ _ (sm _ _ e)
  ·rcases aV j ys.length with z|z
   ·rw [aK z] at e
    exact gs j v _ _ (hG j v e) λb o no e=>st b o no (s4 _ _ e)
   ·rw [av z] at e
    have hj:j=i:=by
     rcases aV (j-ys.length) 1 with y|y
     ·omega
     ·rw [az (by simpa using y)] at e
      cases e
    subst hj
    rw [show j-ys.length=0 by omega] at e
    cases e
    exact gs j _ _ _ g4 st
 ·have:i=n:=by omega
  subst this
  exact .inl ⟨Nat.le_refl _,k p ys H2 np sm hp hl hG⟩
end L2
namespace PySem
open Sem (wp)
section
variable {prog:Ac}{w:World}{A:Around}{E:Value→Ab→Prop}{s:Ab}
theorem Wy {it l:Addr}{i:Nat}{items}{x:Value}{Q:Value→Ab→Prop}(hit:s.heap.IsTupleIter it l i)(hl:s.heap.IsTuple l items)(hx:items[i]?=some x)(hQ:∀h',h'.IsTupleIter it l (i+1)→Heap.SameBut it s.heap h'→Q x { s with heap:=h' }):wpAny (model prog w) A (Builtin.SmallTypes.nextOf (.ref it)) Q E s:=by
 (obtain ⟨o,ho,hc,hd⟩:=id hit) ;(obtain ⟨ol,hol,_,nl,hdl⟩:=hl) ;(unfold Builtin.SmallTypes.nextOf) ;(refine wpAny_bind (wpAny_callSpecial?_slot (name:=Str.ofString "__next__") hit.typeIs F.slot_tuple_iterator_next (wpAny_call_entry F.slot_tuple_iterator_next hit.typeIs F.entry_tuple_iterator_next ?_ (F.args_tuple_iterator_next_1 _))))
 (show wpAny _ _ (field (.ref it) 0 >>= _) _ _ s) ;(refine wpAny_bind (cm ho hd (x:=.ref l) rfl ?_)) ;(show wpAny _ _ (if (Value.ref l==Value.none)=true then _ else _) _ _ s) ;(rw [if_neg (show ¬ ((Value.ref l==Value.none)=true) from au)])
 (show wpAny _ _ (field (.ref it) 1 >>= _) _ _ s) ;(refine wpAny_bind (cm ho hd (x:=.int i 0) rfl ?_)) ;(show wpAny _ _ (seqItems? (.ref l) >>= _) _ _ s) ;(refine wpAny_bind (bR hol hdl ?_))
 (simp only [bA,hx]) ;(refine wpAny_bind (fm ho hd (by simp) (wpAny_pure ⟨x,rfl,wpAny_pure (hQ _ ?_ (bC ..))⟩))) ;(exact ⟨_,cH _ ho (fE (da hd _)),(gS ..).trans hc,by rw [da hd];simp [rawInt]⟩)
theorem qvr {it l:Addr}{i:Nat}{items}{Q:Value→Ab→Prop}(hh:A.handled=none)(hit:s.heap.IsTupleIter it l i)(hl:s.heap.IsTuple l items)(hx:items[i]?=none)(hE:∀h' e,Heap.ExtBut it s.heap h'→(∃o,h'.get? e=some o∧o.cls=.type "StopIteration")→E (.ref e) { s with heap:=h' }):wpAny (model prog w) A (Builtin.SmallTypes.nextOf (.ref it)) Q E s:=by
 (obtain ⟨o,ho,hc,hd⟩:=id hit) ;(obtain ⟨ol,hol,_,nl,hdl⟩:=hl) ;(unfold Builtin.SmallTypes.nextOf) ;(refine wpAny_bind (wpAny_callSpecial?_slot (name:=Str.ofString "__next__") hit.typeIs F.slot_tuple_iterator_next (wpAny_call_entry F.slot_tuple_iterator_next hit.typeIs F.entry_tuple_iterator_next ?_ (F.args_tuple_iterator_next_1 _))))
 (show wpAny _ _ (field (.ref it) 0 >>= _) _ _ s) ;(refine wpAny_bind (cm ho hd (x:=.ref l) rfl ?_)) ;(show wpAny _ _ (if (Value.ref l==Value.none)=true then _ else _) _ _ s) ;(rw [if_neg (show ¬ ((Value.ref l==Value.none)=true) from au)])
 (show wpAny _ _ (field (.ref it) 1 >>= _) _ _ s) ;(refine wpAny_bind (cm ho hd (x:=.int i 0) rfl ?_)) ;(show wpAny _ _ (seqItems? (.ref l) >>= _) _ _ s) ;(refine wpAny_bind (bR hol hdl ?_))
 (simp only [bA,hx]) ;(refine wpAny_bind (bW (wpAny_bind (fm ho hd (by simp) ?_)))) ;(show wpAny _ _ (newExc (.type "StopIteration") [] >>= _) _ _ _) ;(refine wpAny_bind ?_)
 (simp only [newExc,newTuple]) ;(refine wpAny_bind (bp ?_ (by size_fits))) ;(refine wpAny_bind (m:=firstArgMember _ _) (wpAny_of_eq (a:=Value.none) (by first | rfl | (simp only [firstArgMember];rfl)) ?_)) ;(refine bp ?_ (by size_fits))
 (simp only [raiseNew]) ;(refine wpAny_bind (wpAny_handled ?_)) ;(first | rw [show A.in1.handled=none from hh] | rw [hh]) ;(refine wpAny_bind (wpAny_pure (wpAny_throw ?_)))
 exact hE _ _ (((bC ..).extBut.push _).push _) ⟨_,ak _ rfl,rfl⟩
theorem qwz {z TI TO i1 i2 l1 l2:Addr}{k1 k2:Nat}{xs ys:Array Value}{x y a b:Value}{Q:Value→Ab→Prop}(D:ZipApart z TI TO i1 i2 l1 l2)(hz:IsZip s.heap z TI TO .none)(hTI:IsPair s.heap TI (.ref i1) (.ref i2))(hTO:IsPair s.heap TO a b)(h1:s.heap.IsTupleIter i1 l1 k1)(h2:s.heap.IsTupleIter i2 l2 k2)(hl1:s.heap.IsTuple l1 xs)(hl2:s.heap.IsTuple l2 ys)(hx:xs[k1]?=some x)(hy:ys[k2]?=some y)(hQ:∀h',IsZip h' z TI TO (rawInt s.heap.objs.size)→IsPair h' TO x y→h'.IsTupleIter i1 l1 (k1+1)→h'.IsTupleIter i2 l2 (k2+1)→IsPair h' s.heap.objs.size x y→h'.objs.size=s.heap.objs.size+1→(∀c o,c≠z→c≠TO→c≠i1→c≠i2→s.heap.get? c=some o→h'.get? c=some o)→Q (.ref s.heap.objs.size) { s with heap:=h' }):wpAny (model prog w) A (Builtin.«zip.__next__» ⟨[.ref z],[]⟩) (λfin s'=>∃v,fin=.done (.ret v)∧Q v s') E s:=by
 (show wpAny _ _ (field (.ref z) 2 >>= _) _ _ _) ;(refine wpAny_bind (cm hz rfl (x:=.bool false) rfl ?_)) ;(show wpAny _ _ (field (.ref z) 3 >>= _) _ _ _) ;(refine wpAny_bind (cm hz rfl (x:=.ref TI) rfl ?_))
 (refine wpAny_bind (bR hTI rfl ?_)) ;(show wpAny _ _ (Builtin.SmallTypes.ownedTupleIsFree (.ref z) >>= _) _ _ _) ;(refine wpAny_bind ?_) ;(unfold Builtin.SmallTypes.ownedTupleIsFree)
 (refine wpAny_bind (cm hz rfl (x:=.none) rfl (wpAny_pure ?_))) ;(simp only [cg]) ;(refine wpAny_bind (bW ?_)) ;(refine wpAny_bind (cm hz rfl (x:=.ref TO) rfl ?_))
 (refine wpAny_bind (wpAny_setField_rec hz (by simp) λh₁ hz₁ hs₁=>?_)) ;(replace hz₁:IsZip h₁ z TI TO .ellipsis:=hz₁) ;(refine wpAny_bind ?_) ;(simp only [io,List.zipIdx_nil,iF,iO])
 (refine wpAny_bind (wpAny_bind (fR ?_))) ;(show wpAny _ _ (Builtin.SmallTypes.nextOf (.ref i1) >>= _) _ _ _) ;(refine wpAny_bind (Wy (h1.extBut hs₁.extBut D.i1z) (hl1.extBut hs₁.extBut D.l1z) hx λh₂ h1₂ hs₂=>wpAny_pure ?_)) ;(have hTO₂:IsPair h₂ TO a b:=hs₂.extBut _ _ D.TOi1 (hs₁.extBut _ _ D.TOz hTO))
 (refine wpAny_bind (bR hTO₂ rfl ?_)) ;(refine wpAny_bind (fU hTO₂ λh₃ hTO₃ hs₃=>?_)) ;(replace hTO₃:IsPair h₃ TO x b:=hTO₃) ;(refine wpAny_bind (eA (wpAny_pure ?_)))
 (refine wpAny_bind (wpAny_bind (fR ?_))) ;(show wpAny _ _ (Builtin.SmallTypes.nextOf (.ref i2) >>= _) _ _ _) ;(refine wpAny_bind (Wy (((h2.extBut hs₁.extBut D.i2z).extBut hs₂.extBut D.i12.symm).extBut hs₃.extBut D.TOi2.symm) (((hl2.extBut hs₁.extBut D.l2z).extBut hs₂.extBut D.l2i1).extBut hs₃.extBut D.l2TO) hy λh₄ h2₄ hs₄=>wpAny_pure ?_)) ;(have hTO₄:IsPair h₄ TO x b:=hs₄.extBut _ _ D.TOi2 hTO₃)
 (refine wpAny_bind (bR hTO₄ rfl ?_)) ;(refine wpAny_bind (fU hTO₄ λh₅ hTO₅ hs₅=>?_)) ;(replace hTO₅:IsPair h₅ TO x y:=hTO₅) ;(refine wpAny_bind (eA (wpAny_pure (wpAny_pure ?_))))
 (refine wpAny_bind (bR hTO₅ rfl ?_)) ;(refine wpAny_bind (wpAny_newTuple ?_)) ;(have hsz:h₅.objs.size=s.heap.objs.size:=by rw [hs₅.1,hs₄.1,hs₃.1,hs₂.1,hs₁.1]) ;(have hz₅:IsZip h₅ z TI TO .ellipsis:=hs₅.extBut _ _ D.TOz.symm (hs₄.extBut _ _ D.i2z.symm (hs₃.extBut _ _ D.TOz.symm (hs₂.extBut _ _ D.i1z.symm hz₁))))
 (have hk₅:∀c o,c≠z→c≠TO→c≠i1→c≠i2→s.heap.get? c=some o→h₅.get? c=some o:=λc o c1 c2 c3 c4 e=>hs₅.extBut _ _ c2 (hs₄.extBut _ _ c4 (hs₃.extBut _ _ c2 (hs₂.extBut _ _ c3 (hs₁.extBut _ _ c1 e))))) ;(have h1₅:h₅.IsTupleIter i1 l1 (k1+1):=((h1₂.extBut hs₃.extBut D.TOi1.symm).extBut hs₄.extBut D.i12).extBut hs₅.extBut D.TOi1.symm) ;(have h2₅:h₅.IsTupleIter i2 l2 (k2+1):=h2₄.extBut hs₅.extBut D.TOi2.symm) ;(have hzlt:z<h₅.objs.size:=af hz₅)
 (have hTOlt:TO<h₅.objs.size:=af hTO₅) ;(have hi1lt:i1<h₅.objs.size:=by obtain ⟨_,e,_⟩:=h1₅;exact af e) ;(have hi2lt:i2<h₅.objs.size:=by obtain ⟨_,e,_⟩:=h2₅;exact af e) ;(show wpAny _ _ (Builtin.SmallTypes.ownedTupleHandOut (.ref z) (.ref h₅.objs.size) >>= _) _ _ _)
 (refine wpAny_bind ?_) ;(unfold Builtin.SmallTypes.ownedTupleHandOut) ;(have hz₆:IsZip (h₅.push { cls:=.type "tuple",data:=.seq #[x,y] }) z TI TO .ellipsis:=Heap.get?_push_of_some _ hz₅) ;(refine wpAny_bind (wpAny_setField_rec hz₆ (by simp) λh₇ hz₇ hs₇=>?_))
 (replace hz₇:IsZip h₇ z TI TO (rawInt h₅.objs.size):=hz₇) ;(refine wpAny_setField_rec hz₇ (by simp) λh₈ hz₈ hs₈=>?_) ;(replace hz₈:IsZip h₈ z TI TO (rawInt h₅.objs.size):=hz₈) ;(have up:∀c o,c≠z→h₅.get? c=some o→h₈.get? c=some o:=λc o c1 e=>hs₈.extBut _ _ c1 (hs₇.extBut _ _ c1 (Heap.get?_push_of_some _ e)))
 (have hT₈:IsPair h₈ h₅.objs.size x y:=hs₈.extBut _ _ (cY hzlt) (hs₇.extBut _ _ (cY hzlt) (ak _ rfl))) ;(have hz8:h₈.objs.size=h₅.objs.size+1:=by rw [hs₈.1,hs₇.1,bw]) ;(rw [hsz] at hz₈ hT₈ hz8) ;(refine wpAny_pure ⟨_,rfl,?_⟩)
 (show Q (.ref h₅.objs.size) _) ;(rw [hsz]) ;(exact hQ h₈ hz₈ (up _ _ D.TOz hTO₅) (h1₅.at λo e=>up _ o D.i1z e) (h2₅.at λo e=>up _ o D.i2z e) hT₈ hz8 λc o c1 c2 c3 c4 e=>up c o c1 (hk₅ c o c1 c2 c3 c4 e))
theorem qzd {z TI TO i1 i2 l1 l2:Addr}{k1 k2:Nat}{xs ys:Array Value}{a b:Value}{Q:Fin→Ab→Prop}(hh:A.handled=none)(D:ZipApart z TI TO i1 i2 l1 l2)(hz:IsZip s.heap z TI TO .none)(hTI:IsPair s.heap TI (.ref i1) (.ref i2))(hTO:IsPair s.heap TO a b)(h1:s.heap.IsTupleIter i1 l1 k1)(h2:s.heap.IsTupleIter i2 l2 k2)(hl1:s.heap.IsTuple l1 xs)(hl2:s.heap.IsTuple l2 ys)(hend:xs[k1]?=none∨ys[k2]?=none)(hE:∀h' e,(∀c o,c≠z→c≠TO→c≠i1→c≠i2→s.heap.get? c=some o→h'.get? c=some o)→(∃o,h'.get? e=some o∧o.cls=.type "StopIteration")→E (.ref e) { s with heap:=h' }):wpAny (model prog w) A (Builtin.«zip.__next__» ⟨[.ref z],[]⟩) Q E s:=by
 (show wpAny _ _ (field (.ref z) 2 >>= _) _ _ _) ;(refine wpAny_bind (cm hz rfl (x:=.bool false) rfl ?_)) ;(show wpAny _ _ (field (.ref z) 3 >>= _) _ _ _) ;(refine wpAny_bind (cm hz rfl (x:=.ref TI) rfl ?_))
 (refine wpAny_bind (bR hTI rfl ?_)) ;(show wpAny _ _ (Builtin.SmallTypes.ownedTupleIsFree (.ref z) >>= _) _ _ _) ;(refine wpAny_bind ?_) ;(unfold Builtin.SmallTypes.ownedTupleIsFree)
 (refine wpAny_bind (cm hz rfl (x:=.none) rfl (wpAny_pure ?_))) ;(simp only [cg]) ;(refine wpAny_bind (bW ?_)) ;(refine wpAny_bind (cm hz rfl (x:=.ref TO) rfl ?_))
 (refine wpAny_bind (wpAny_setField_rec hz (by simp) λh₁ hz₁ hs₁=>?_)) ;(replace hz₁:IsZip h₁ z TI TO .ellipsis:=hz₁) ;(refine wpAny_bind ?_) ;(simp only [io,List.zipIdx_nil,iF,iO])
 (refine wpAny_bind (wpAny_bind (fR ?_))) ;(show wpAny _ _ (Builtin.SmallTypes.nextOf (.ref i1) >>= _) _ _ _)
 cases hx:xs[k1]? with
 |none =>
  (refine wpAny_bind (qvr hh (h1.extBut hs₁.extBut D.i1z) (hl1.extBut hs₁.extBut D.l1z) hx λh₂ e hs₂ he=>?_)) ;(obtain ⟨oe,hoe,hce⟩:=he) ;(have hz₂:IsZip h₂ z TI TO .ellipsis:=hs₂ _ _ D.i1z.symm hz₁) ;(have hez:e≠z:=λx=>by subst x;rw [hz₂] at hoe;cases hoe;simp at hce)
  refine wpAny_setField_rec hz₂ (by simp) λh₃ _ hs₃=>hE h₃ e (λc o c1 _ c3 _ x=>hs₃.extBut _ _ c1 (hs₂ _ _ c3 (hs₁.extBut _ _ c1 x))) ⟨oe,hs₃.extBut _ _ hez hoe,hce⟩
 |some x =>
  (have hy:ys[k2]?=none:=by rcases hend with h|h;rw [hx] at h;cases h;exact h) ;(refine wpAny_bind (Wy (h1.extBut hs₁.extBut D.i1z) (hl1.extBut hs₁.extBut D.l1z) hx λh₂ h1₂ hs₂=>wpAny_pure ?_)) ;(have hTO₂:IsPair h₂ TO a b:=hs₂.extBut _ _ D.TOi1 (hs₁.extBut _ _ D.TOz hTO)) ;(refine wpAny_bind (bR hTO₂ rfl ?_))
  (refine wpAny_bind (fU hTO₂ λh₃ hTO₃ hs₃=>?_)) ;(refine wpAny_bind (eA (wpAny_pure ?_))) ;(refine wpAny_bind (wpAny_bind (fR ?_))) ;(show wpAny _ _ (Builtin.SmallTypes.nextOf (.ref i2) >>= _) _ _ _)
  (refine wpAny_bind (qvr hh (((h2.extBut hs₁.extBut D.i2z).extBut hs₂.extBut D.i12.symm).extBut hs₃.extBut D.TOi2.symm) (((hl2.extBut hs₁.extBut D.l2z).extBut hs₂.extBut D.l2i1).extBut hs₃.extBut D.l2TO) hy λh₄ e hs₄ he=>?_)) ;(obtain ⟨oe,hoe,hce⟩:=he) ;(have hz₄:IsZip h₄ z TI TO .ellipsis:=hs₄ _ _ D.i2z.symm (hs₃.extBut _ _ D.TOz.symm (hs₂.extBut _ _ D.i1z.symm hz₁))) ;(have hez:e≠z:=λx=>by subst x;rw [hz₄] at hoe;cases hoe;simp at hce)
  refine wpAny_setField_rec hz₄ (by simp) λh₅ _ hs₅=>hE h₅ e (λc o c1 c2 c3 c4 x=>hs₅.extBut _ _ c1 (hs₄ _ _ c4 (hs₃.extBut _ _ c2 (hs₂.extBut _ _ c3 (hs₁.extBut _ _ c1 x))))) ⟨oe,hs₅.extBut _ _ hez hoe,hce⟩
theorem Yn {z TI TO i1 i2 l1 l2:Addr}{k1 k2:Nat}{xs ys:Array Value}{x y a b:Value}{Q:Option Value→Ab→Prop}(D:ZipApart z TI TO i1 i2 l1 l2)(hz:IsZip s.heap z TI TO .none)(hTI:IsPair s.heap TI (.ref i1) (.ref i2))(hTO:IsPair s.heap TO a b)(h1:s.heap.IsTupleIter i1 l1 k1)(h2:s.heap.IsTupleIter i2 l2 k2)(hl1:s.heap.IsTuple l1 xs)(hl2:s.heap.IsTuple l2 ys)(hx:xs[k1]?=some x)(hy:ys[k2]?=some y)(hQ:∀h',IsZip h' z TI TO (rawInt s.heap.objs.size)→IsPair h' TO x y→h'.IsTupleIter i1 l1 (k1+1)→h'.IsTupleIter i2 l2 (k2+1)→IsPair h' s.heap.objs.size x y→h'.objs.size=s.heap.objs.size+1→(∀c o,c≠z→c≠TO→c≠i1→c≠i2→s.heap.get? c=some o→h'.get? c=some o)→Q (some (.ref s.heap.objs.size)) { s with heap:=h' }):wpAny (model prog w) A (pyNext (.ref z)) Q E s:=by
 (have hT:s.TypeIs (.ref z) "zip" := ⟨_,hz,rfl⟩) ;(unfold pyNext) ;(exact wpAny_bind (wpAny_attempt (wpAny_callSpecial?_slot (name:=Str.ofString "__next__") hT F.slot_zip_next (wpAny_call_entry F.slot_zip_next hT F.entry_zip_next (qwz D hz hTI hTO h1 h2 hl1 hl2 hx hy λh' a1 a2 a3 a4 a5 a6 a7=>wpAny_pure (hQ h' a1 a2 a3 a4 a5 a6 a7)) (F.args_zip_next_1 _)))))
theorem qqz {z TI TO i1 i2 l1 l2:Addr}{k1 k2:Nat}{xs ys:Array Value}{a b:Value}{Q:Option Value→Ab→Prop}(hh:A.handled=none)(D:ZipApart z TI TO i1 i2 l1 l2)(hz:IsZip s.heap z TI TO .none)(hTI:IsPair s.heap TI (.ref i1) (.ref i2))(hTO:IsPair s.heap TO a b)(h1:s.heap.IsTupleIter i1 l1 k1)(h2:s.heap.IsTupleIter i2 l2 k2)(hl1:s.heap.IsTuple l1 xs)(hl2:s.heap.IsTuple l2 ys)(hend:xs[k1]?=none∨ys[k2]?=none)(hQ:∀h',(∀c o,c≠z→c≠TO→c≠i1→c≠i2→s.heap.get? c=some o→h'.get? c=some o)→Q none { s with heap:=h' }):wpAny (model prog w) A (pyNext (.ref z)) Q E s:=by
 (have hT:s.TypeIs (.ref z) "zip" := ⟨_,hz,rfl⟩) ;(unfold pyNext) ;(refine wpAny_bind (wpAny_attempt (wpAny_callSpecial?_slot (name:=Str.ofString "__next__") hT F.slot_zip_next (wpAny_call_entry F.slot_zip_next hT F.entry_zip_next (qzd hh D hz hTI hTO h1 h2 hl1 hl2 hend λh' e hk he=>?_) (F.args_zip_next_1 _))))) ;(obtain ⟨o,ho,hc⟩:=he)
 (refine wpAny_bind (im (T := "StopIteration") (b:=true) ⟨o,ho,hc⟩ isSubtype_stop ?_)) ;(exact wpAny_pure (hQ _ hk))
end
abbrev qv6 (h:Heap)(l1:Addr):Heap:=h.push { cls:=.type "tuple_iterator",data:=.fields #[.ref l1,.int 0 0] }
abbrev qkj (h:Heap)(l1 l2:Addr):Heap:=(qv6 h l1).push { cls:=.type "tuple_iterator",data:=.fields #[.ref l2,.int 0 0] }
abbrev qk1 (h:Heap)(l1 l2:Addr):Heap:=(qkj h l1 l2).push { cls:=.type "tuple",data:=.seq #[.ref h.objs.size,.ref (qv6 h l1).objs.size] }
abbrev qjm (h:Heap)(l1 l2:Addr):Heap:=(qk1 h l1 l2).push { cls:=.type "tuple",data:=.seq #[.none,.none] }
abbrev Wv (h:Heap)(l1 l2:Addr):Heap:=(qjm h l1 l2).push { cls:=.type "zip",data:=.fields #[.none,.bool false,.bool false,.ref (qkj h l1 l2).objs.size,.ref (qk1 h l1 l2).objs.size] }
theorem qwt (l1 l2:Addr)(xs ys:Array Value):Meets (Builtin.«zip.__new__» ⟨[.type "zip",.ref l1,.ref l2],[]⟩) (λ_ R s=>s.heap.IsTuple l1 xs∧s.heap.IsTuple l2 ys∧R (.ok (.ret (.ref (qjm s.heap l1 l2).objs.size))) { s with heap:=Wv s.heap l1 l2 }) :=
 .of_wp λprog w A R s h=>by
  obtain ⟨hp,g,d,tk,os⟩:=s
  obtain ⟨t1,t2,h⟩:=h
  have hsub:=sub_zip
  have u1:Heap.IsTuple (Shared.heap ⟨hp,g,d,tk,os⟩) l1 xs:=t1
  have u2:Heap.IsTuple (Shared.heap ⟨hp.push { cls:=.type "tuple_iterator",data:=.fields #[.ref l1,.int 0 0] },g,d,tk,os⟩) l2 ys:=Heap.IsTuple.push t2 _
  wp_walk using gu u1,gu u2
  exact ⟨_,rfl,h⟩
section
variable {prog:Ac}{w:World}{A:Around}{E:Value→Ab→Prop}{s:Ab}
theorem wv1 {l1 l2:Addr}{xs ys:Array Value}{Q:Value→Ab→Prop}(hl1:s.heap.IsTuple l1 xs)(hl2:s.heap.IsTuple l2 ys)(h:∀h',IsZip h' (s.heap.objs.size+4) (s.heap.objs.size+2) (s.heap.objs.size+3) .none→IsPair h' (s.heap.objs.size+2) (.ref s.heap.objs.size) (.ref (s.heap.objs.size+1))→IsPair h' (s.heap.objs.size+3) .none .none→h'.IsTupleIter s.heap.objs.size l1 0→h'.IsTupleIter (s.heap.objs.size+1) l2 0→h'.objs.size=s.heap.objs.size+5→(∀c o,s.heap.get? c=some o→h'.get? c=some o)→Q (.ref (s.heap.objs.size+4)) { s with heap:=h' }):wpAny (model prog w) A (call (.type "zip") [.ref l1,.ref l2]) Q E s:=by
 (refine callType_new F.called_zip (by decide) (F.typeCall_zip_2 _ _) (F.newCall_zip_2 _ _) (λobj=>F.args_object_init_3 obj _ _) F.entry_zip_new (qwt l1 l2 xs ys) ⟨hl1,hl2,?_⟩) ;(have z1:(qv6 s.heap l1).objs.size=s.heap.objs.size+1:=bw ..) ;(have z2:(qkj s.heap l1 l2).objs.size=s.heap.objs.size+2:=by rw [bw,z1]) ;(have z3:(qk1 s.heap l1 l2).objs.size=s.heap.objs.size+3:=by rw [bw,z2])
 (have z4:(qjm s.heap l1 l2).objs.size=s.heap.objs.size+4:=by rw [bw,z3]) ;(have z5:(Wv s.heap l1 l2).objs.size=s.heap.objs.size+5:=by rw [bw,z4]) ;(have g5:(Wv s.heap l1 l2).get? (qjm s.heap l1 l2).objs.size=some _:=ak _ rfl) ;(have g4:(Wv s.heap l1 l2).get? (qk1 s.heap l1 l2).objs.size=some _:=Heap.get?_push_of_some _ (ak _ rfl))
 (have g3:(Wv s.heap l1 l2).get? (qkj s.heap l1 l2).objs.size=some _:=Heap.get?_push_of_some _ (Heap.get?_push_of_some _ (ak _ rfl))) ;(have g2:(Wv s.heap l1 l2).get? (qv6 s.heap l1).objs.size=some _:=Heap.get?_push_of_some _ (Heap.get?_push_of_some _ (Heap.get?_push_of_some _ (ak _ rfl)))) ;(have g1:(Wv s.heap l1 l2).get? s.heap.objs.size=some _:=Heap.get?_push_of_some _ (Heap.get?_push_of_some _ (Heap.get?_push_of_some _ (Heap.get?_push_of_some _ (ak _ rfl))))) ;(show _∧_)
 (rw [z2,z3,z4] at g5) ;(rw [z1,z2] at g3) ;(rw [z3] at g4) ;(rw [z1] at g2)
 (rw [z4]) ;(exact ⟨⟨_,g5,rfl⟩,h _ g5 g3 g4 ⟨_,g1,rfl,rfl⟩ ⟨_,g2,rfl,rfl⟩ z5 λc o x=>Heap.get?_push_of_some _ (Heap.get?_push_of_some _ (Heap.get?_push_of_some _ (Heap.get?_push_of_some _ (Heap.get?_push_of_some _ x))))⟩)
end
end PySem
namespace L2
open PySem PySem.Spec PyProof.Rows
def ItZT (K:Aa)(a b:Addr)(xs ys:List V):It :=
 ⟨λi H=>SqT K H a xs∧SqT K H b ys∧i<xs.length∧i<ys.length,λi H v H'=>∃q x y,H q=none∧v=.ref q∧xs[i]?=some x∧ys[i]?=some y∧H'=upd H q (.tup [x,y]),λi H=>SqT K H a xs∧SqT K H b ys∧(xs.length≤i∨ys.length≤i)⟩
theorem wjf {P:Ac}{w:World}{K:Aa}{es:List Expr}{k:Nat}{pos:Pos}(a b z TI TO i1 i2:Addr)(xs ys:List V)(ap:ZipApart z TI TO i1 i2 a b):Turn P w K (.Tuple es k pos) (ItZT K a b xs ys) [z,TI,TO,i1,i2] z
  (λi h=>IsZip h z TI TO .none∧IsPair h TI (.ref i1) (.ref i2)∧(∃u v,IsPair h TO u v)∧h.IsTupleIter i1 a i∧h.IsTupleIter i2 b i) where
 mem:=by simp
 obj:=λi h st c hc=>by
  obtain ⟨h1,h2,⟨u,v,h3⟩,⟨o4,h4,c4,d4⟩,⟨o5,h5,c5,d5⟩⟩:=st
  have hc':c=z∨c=TI∨c=TO∨c=i1∨c=i2:=by simpa using hc
  rcases hc' with rfl|rfl|rfl|rfl|rfl
  ·exact ⟨_,h1,λv z=>by cases z⟩
  ·exact ⟨_,h2,λv z=>by cases z⟩
  ·exact ⟨_,h3,λv z=>by cases z⟩
  ·exact ⟨_,h4,λv z=>by rw [d4] at z;cases z⟩
  ·exact ⟨_,h5,λv z=>by rw [d5] at z;cases z⟩
 keep:=λi h h' st k=>by
  obtain ⟨h1,h2,⟨u,v,h3⟩,h4,h5⟩:=st
  exact ⟨k z (by simp) _ h1,k TI (by simp) _ h2,⟨u,v,k TO (by simp) _ h3⟩,h4.at λo e=>k i1 (by simp) o e,h5.at λo e=>k i2 (by simp) o e⟩
 item:=by
  intro X hP hw hK hc i pins s σ H E I hf st hg
  subst hP hw hK
  obtain ⟨hq1,hq2,l1,l2⟩:=hg
  obtain ⟨its,rv,p,hz⟩:=I.tuple hq1
  obtain ⟨its2,rv2,p2,hz2⟩:=I.tuple hq2
  have e1:xs[i]?=some xs[i]:=aa l1
  have e2:ys[i]?=some ys[i]:=aa l2
  obtain ⟨u,hu,ru⟩:=rv.get e1
  obtain ⟨v,hv,rv'⟩:=rv2.get e2
  obtain ⟨h1,h2,⟨a0,b0,h3⟩,h4,h5⟩:=st
  refine Yn ap h1 h2 h3 h4 h5 p p2 (x:=u) (y:=v) (by simpa using hu) (by simpa using hv) λh' g1 g2 g3 g4 g5 g6 g7=>?_
  refine ⟨_,rfl,wpAny_letOwnedTupleGo_zip (s:={ s with heap:=h' }) g1 λh'' f1 f2=>?_⟩
  have hsz:∀c,c∈[z,TI,TO,i1,i2]→c≠s.heap.objs.size:=λc hc e=>by
   have hc':c=z∨c=TI∨c=TO∨c=i1∨c=i2:=by simpa using hc
   have hlt:c<s.heap.objs.size:=by
    rcases hc' with rfl|rfl|rfl|rfl|rfl
    ·exact af h1
    ·exact af h2
    ·exact af h3
    ·obtain ⟨o,e,_⟩:=h4;exact af e
    ·obtain ⟨o,e,_⟩:=h5;exact af e
   exact aI _ (e▸hlt)
  have keep:∀c o,c∉[z,TI,TO,i1,i2]→s.heap.get? c=some o→h''.get? c=some o:=λc o nc e=>by
   simp only [ay,eB,iV,not_or] at nc
   rw [f2.2 c nc.1]
   exact g7 c o nc.1 nc.2.2.1 nc.2.2.2.1 nc.2.2.2.2 e
  have keepz:∀c o,c≠z→h'.get? c=some o→h''.get? c=some o:=λc o nc e=>(f2.2 c nc).trans e
  have new:h''.get? s.heap.objs.size=some { cls:=.type "tuple",data:=.seq #[u,v] }:=keepz _ _ (dt (hsz z (by simp))) g5
  have hTI:h''.get? TI=some { cls:=.type "tuple",data:=.seq #[.ref i1,.ref i2] }:=by
   refine keepz _ _ ap.TIz ?_
   exact g7 TI _ ap.TIz ap.TITO ap.TIi1 ap.TIi2 h2
  refine ⟨.ref s.heap.objs.size,_,Inv.turnedT (s:=s) (ch:=[z,TI,TO,i1,i2]) (tk:=s.toks) I keep new hf hsz (wzj I ru rv') rfl,rfl,⟨_,_,_,I.hok.fresh (Nat.le_refl _),rfl,e1,e2,rfl⟩,⟨f1,hTI,⟨u,v,keepz _ _ ap.TOz g2⟩,g3.at λo e=>keepz _ _ ap.i1z e,g4.at λo e=>keepz _ _ ap.i2z e⟩,λc hc=>?_⟩
  rw [qr (hsz c hc)]
  exact (hf c hc).1
 done:=by
  intro X hP hw hK hc i pins s σ H E I hf st hg
  subst hP hw hK
  obtain ⟨hq1,hq2,le⟩:=hg
  obtain ⟨its,rv,p,hz⟩:=I.tuple hq1
  obtain ⟨its2,rv2,p2,hz2⟩:=I.tuple hq2
  have hl:=rv.length
  have hl2:=rv2.length
  obtain ⟨h1,h2,⟨a0,b0,h3⟩,h4,h5⟩:=st
  refine qqz (I.ok.hd hc) ap h1 h2 h3 h4 h5 p p2 ?_ λh' g=>⟨rfl,Inv.turnedL (ch:=[z,TI,TO,i1,i2]) (tk:=s.toks) I (λc o nc e=>?_) hf⟩
  ·rcases le with le|le
   ·exact .inl (b9 (by rw [ah];omega))
   ·exact .inr (b9 (by rw [ah];omega))
  ·simp only [ay,eB,iV,not_or] at nc
   exact g c o nc.1 nc.2.2.1 nc.2.2.2.1 nc.2.2.2.2 e
 self:=λ_ _ _ _ _ st h=>fJ st.1 h
section
variable {X:Cx}
def iZipT (K:Aa)(ta:TA):TI:=λσ H R=>ta σ H λvs H1=>∃a b xs ys,vs=[.ref a,.ref b]∧SqT K H1 a xs∧SqT K H1 b ys∧R (ItZT K a b xs ys) H1
theorem xxn {a b:Expr}{ta:TA}{p pos:Pos}{es:List Expr}{k:Nat}{tpos:Pos}(hg:Gl X "zip")(hm:X.mg "zip" = none)(ha:PA X [a,b] ta)(hv:bootBuiltins "zip" = some (.type "zip"):=by rfl)
  (hs:starEach [a,b] X.env=[(false,eval a X.env),(false,eval b X.env)]:=by rfl) (hs2:starEach [b] X.env=[(false,eval b X.env)]:=by rfl):PI X (.Tuple es k tpos) (.Call (.Name "zip" p) [a,b] [] pos) (iZipT X.K ta):=by
 intro pins s σ H R I h
 refine Call_ (jf I hg hm hv (bI (thn (ha pos pins s σ H _ I h) λus s1 ⟨vs,H1,I1,r1,q1⟩=>?_) (by rw [hs,hs2]) (by rw [hs2];rfl)))
 obtain ⟨a,b,xs,ys,e,hq1,hq2,q⟩:=q1
 subst e
 cases r1 with
 |cons r rr =>
  cases rr with
  |cons r' rr =>
   cases rr
   cases r
   cases r'
   obtain ⟨its,rv,p,hz⟩:=I1.tuple hq1
   obtain ⟨its2,rv2,p2,hz2⟩:=I1.tuple hq2
   have la:a<s1.heap.objs.size:=by obtain ⟨o,e1,_⟩:=p;exact af e1
   have lb:b<s1.heap.objs.size:=by obtain ⟨o,e1,_⟩:=p2;exact af e1
   refine wv1 p p2 λh' g1 g2 g3 g4 g5 g6 g7=>?_
   refine fJ g1 ?_
   have I2:Inv X pins σ H1 { s1 with heap:=h' }:=I1.kept (t':=s1.toks) g7
   refine ⟨s1.heap.objs.size+4,[s1.heap.objs.size+4,s1.heap.objs.size+2,s1.heap.objs.size+3,s1.heap.objs.size,s1.heap.objs.size+1],_,_,H1,rfl,I2,wjf a b _ _ _ _ _ xs ys (zipApart_new la lb),⟨g1,g2,⟨_,_,g3⟩,g4,g5⟩,λc hc=>?_,q⟩
   have hc':s1.heap.objs.size≤c:=by
    have:c=s1.heap.objs.size+4∨c=s1.heap.objs.size+2∨c=s1.heap.objs.size+3∨c=s1.heap.objs.size∨c=s1.heap.objs.size+1:=by simpa using hc
    rcases this with e | e | e | e | e <;> (rw [e];first | exact Nat.le_refl _ | exact fL _ _)
   exact I1.fpOk hc' (I1.hok.fresh hc')
end
theorem wyv {K:Aa}{a b:Addr}{xs ys:List V}{g:TG}{tb:TS}{D:Ends}{σ:St}{H:Hp}(Pv:Nat→St→Hp→Prop)(h0:Pv 0 σ H)(hl:∀i σ H,Pv i σ H→SqT K H a xs∧SqT K H b ys)
  (hs:∀i x y q σ H,xs[i]?=some x→ys[i]?=some y→H q=none→Pv i σ H→g (.ref q) σ (upd H q (.tup [x,y])) λσ2 H2=>tb { D with nx:=Pv (i+1),ct:=Pv (i+1),bk:=D.nx } σ2 H2) (hd:∀σ H,Pv (min xs.length ys.length) σ H→D.nx σ H) :
  ∃W:Nat→Nat→St→Hp→Prop,(∃m,W 0 m σ H)∧∀i m σ H,W i m σ H →
   ((ItZT K a b xs ys).stop i H∧D.nx σ H)∨((ItZT K a b xs ys).go i H∧∃N:St→Hp→Prop,(∀σ' H',N σ' H'→∃m',m'<m∧W (i+1) m' σ' H')∧∀x H',(ItZT K a b xs ys).yld i H x H'→g x σ H' λσ2 H2=>tb { D with nx:=N,ct:=N,bk:=D.nx } σ2 H2):=by
 refine ⟨λi m σ H=>m=min xs.length ys.length-i∧i≤min xs.length ys.length∧Pv i σ H,⟨_,rfl,aN _,h0⟩,?_⟩
 rintro i m σ H ⟨rfl,hi,p⟩
 have q:=hl i σ H p
 by_cases hlt:i<min xs.length ys.length
 ·refine .inr ⟨⟨q.1,q.2,by omega,by omega⟩,Pv (i+1),λσ' H' p'=>⟨min xs.length ys.length-(i+1),by omega,rfl,hlt,p'⟩,?_⟩
  rintro v H' ⟨q',x,y,nq,rfl,ex,ey,rfl⟩
  exact hs i x y q' σ H ex ey nq p
 ·have:i=min xs.length ys.length:=by omega
  subst this
  refine .inl ⟨⟨q.1,q.2,by omega⟩,hd σ H p⟩
end L2
namespace HT
open PySem PySem.Spec PyProof.Rows
section
variable {prog:Ac}{w:World}{A:Around}{E:Value→Ab→Prop}{s:Ab}
theorem getItem_tuple_all {t sl:Addr}{items:Array Value}{vl vu:Value}{lo hi:Option Int}{Q:Value→Ab→Prop}(ht:IsTup s.heap t items)(hs:s.heap.IsSliceOf sl vl vu .none)(pl:IsPart vl lo)(pu:IsPart vu hi)
  (hw:sIx items.size 0 lo=0∧sIx items.size items.size hi=items.size) (h:Q (.ref t) s):wpAny (model prog w) A (getItem (.ref t) (.ref sl)) Q E s:=by
 obtain ⟨os,hos,hcs,hds⟩:=id hs ;have hTs:s.TypeIs (.ref sl) "slice" := ⟨os,hos,hcs⟩
 unfold getItem ;(try with_reducible refine wpAny_holding ?_) ;(first | refine wpAny_bind (wpAny_pure ?_) | skip) ;refine wpAny_bind (wpAny_sequenceKey ht.typeIs (by decide) ?_)
 refine wpAny_bind (wpAny_callSpecial?_slot (name:=Str.ofString "__getitem__") ht.typeIs bJ (wpAny_call_entry bJ ht.typeIs entry_tuple_getitem ?_ (args_tuple_getitem _ _)))
 show wpAny _ _ (Builtin.Tuple.tupleItemsOf (.ref t) >>= _) _ _ s ;refine wpAny_bind (tupleItemsOf_ ht ?_) ;refine wpAny_bind (gf hTs ?_) ;rw [if_pos (by decide)] ;refine wpAny_bind (jr hs pl pu ?_)
 rw [hw.1,hw.2]
 have yes:(((((0:Nat):Int))==0&&(1:Int)==1&&(items.size-0)==items.size)=true):=by simp
 show wpAny _ _ (if (((((0:Nat):Int))==0&&(1:Int)==1&&(items.size-0)==items.size)=true) then _ else _) _ _ s
 rw [if_pos yes] ;unfold Builtin.Tuple.tupleIsExact
 refine wpAny_bind (wpAny_bind (gf ht.typeIs (wpAny_pure ?_)))
 rw [if_pos (by decide)]
 first
  |exact wpAny_bind (bW (wpAny_bind (wpAny_pure ⟨_,rfl,wpAny_pure h⟩)))
  |exact wpAny_bind (bW (wpAny_pure ⟨_,rfl,wpAny_pure h⟩))
  |exact wpAny_bind (bW (wpAny_pure (wpAny_pure ⟨_,rfl,wpAny_pure h⟩)))
theorem cat_tup0 {t b:Addr}{ws:List Value}{Q:Value→Ab→Prop}(ht:IsTup s.heap t #[])(hb:IsTup s.heap b ws.toArray)(h:Q (.ref b) s):wpAny (model prog w) A (binaryOp .Add (.ref t) (.ref b)) Q E s:=by
 obtain ⟨⟨cls,dd,data,sl⟩,ho,hc,n,hd⟩:=id ht ;obtain ⟨⟨cls2,dd2,data2,sl2⟩,ho2,hc2,n2,hd2⟩:=id hb
 simp only at hc hd hc2 hd2 ;subst hc hd hc2 hd2
 exact concat_meets ⟨_,ho,rfl⟩ ⟨_,ho2,rfl⟩ hU seq_tuple_add eY eR (eH _ _) (tuple_addW0 t b #[] ws.toArray n n2 dd dd2 sl sl2 (by simp)) ⟨ho,ho2,h⟩
end
end HT
namespace L2
open PySem PySem.Spec PyProof.Rows
section
variable {X:Cx}
def rSlW (K:Aa):V→Option Int→Option Int→Hp→VK→Prop:=λx lo hi H Q=>∃a xs,x=.ref a∧SqT K H a xs ∧
 ((HT.sIx xs.length 0 lo=0∧HT.sIx xs.length xs.length hi=xs.length)→Q (.ref a) H)∧(¬ (HT.sIx xs.length 0 lo=0∧HT.sIx xs.length xs.length hi=xs.length)→∀p,H p=none→Q (.ref p) (upd H p (.tup (Wu xs lo hi))))
theorem wxt:SlR X (rSlW X.K):=by
 intro pins s σ H x v vl vu lo hi sl Q I rx hs pl pu h
 obtain ⟨a,xs,rfl,hx,q1,q2⟩:=h
 by_cases hw:HT.sIx xs.length 0 lo=0∧HT.sIx xs.length xs.length hi=xs.length
 ·cases rx
  obtain ⟨its,r,ht,hz⟩:=I.tuple hx
  have hlen:its.toArray.size=xs.length:=by rw [ah];exact r.length.symm
  exact ⟨"tuple",_,bJ.lookup,ht.typeIs,HT.getItem_tuple_all ht hs pl pu (by rw [hlen];exact hw) ⟨.ref a,H,I,rfl,q1 hw⟩⟩
 ·exact sl_tup pins s σ H (.ref a) v vl vu lo hi sl Q I rx hs pl pu ⟨a,xs,rfl,hx,hw,q2 hw⟩
def wyb (K:Aa):R2:=λx y H Q=>∃a b xs ys,x=.ref a∧y=.ref b∧SqT K H a xs∧SqT K H b ys∧xs.length+ys.length≤sizeLine ∧
 (xs=[]→Q (.ref b) H)∧(xs≠[]→ys=[]→Q (.ref a) H)∧(xs≠[]→ys≠[]→∀p,H p=none→Q (.ref p) (upd H p (.tup (xs++ys))))
theorem wzb:OpR X (binaryOp .Add) (wyb X.K):=by
 intro pins s σ H x y v u Q I rx ry h
 obtain ⟨a,b,xs,ys,rfl,rfl,ha,hb,hz,q0,q1,q2⟩:=h
 by_cases hx:xs=[]
 ·subst hx
  cases rx
  cases ry
  obtain ⟨its,r1,p1,_⟩:=I.tuple ha
  obtain ⟨its2,r2,p2,_⟩:=I.tuple hb
  cases r1
  exact HT.cat_tup0 p1 p2 ⟨.ref b,H,I,rfl,q0 rfl⟩
 ·exact xwg pins s σ H (.ref a) (.ref b) v u Q I rx ry ⟨a,b,xs,ys,rfl,rfl,ha,hb,hx,hz,q1 hx,q2 hx⟩
end
end L2
namespace L2
open PySem PySem.Spec PyProof.Rows
theorem PE.weak {X:Cx}{e:Expr}{t t':TE}(h:PE X e t)(w:∀σ H Q,t' σ H Q→t σ H Q):PE X e t':=λpins s σ H Q I q=>h pins s σ H Q I (w σ H Q q)
def tRot (K:Aa)(i:Nat):TE:=λσ H Q=>kv i σ H λx H1=>∃a xs,x=.ref a∧H1=H∧SqT K H a xs∧1≤xs.length∧xs.length≤1000∧∀b H',Same H H'→SqT K H' b (xs.drop 1++xs.take 1)→Q (.ref b) H'
theorem qu6 {xs:List V}(h:1≤xs.length)(d:Nat):HT.sIx xs.length d (some 1)=1:=by
 show HT.sIx xs.length d (some ((1:Nat):Int))=1
 rw [HT.sIx_nat]
 omega
theorem pe_rot {X:Cx}{e:Expr}{i:Nat}(h:PE X e (tOp (wyb X.K) (tSl (rSlW X.K) (kv i) (xqg (tC (.int 1))) qkd) (tSl (rSlW X.K) (kv i) qkd (xqg (tC (.int 1)))))):PE X e (tRot X.K i):=by
 refine h.weak λσ H Q q=>?_
 obtain ⟨x,e,a,xs,rfl,_,hT,h1,hl,k⟩:=q
 have big:(1000000:Nat)<sizeLine:=by decide
 have c1:Wu xs (some 1) none=xs.drop 1:=by
  unfold Wu
  rw [HT.sIx_none,qu6 h1,bP]
  rw [br]
  exact Nat.le_refl _
 have c2:Wu xs none (some 1)=xs.take 1:=by
  unfold Wu
  rw [HT.sIx_none,qu6 h1,List.drop_zero]
 refine ⟨_,e,1,rfl,a,xs,rfl,hT,λw=>absurd w.1 (by rw [qu6 h1];decide),λ_ p np=>?_⟩
 rw [c1]
 have s1:=Same.upd (o:=.tup (xs.drop 1)) np
 refine ⟨_,e,1,rfl,a,xs,rfl,s1.sqt hT,λw=>?_,λw p2 np2=>?_⟩
 ·have l1:xs.length=1:=by have:=w.2;rw [qu6 h1] at this;exact this.symm
  have e0:xs.drop 1=[]:=List.drop_eq_nil_iff.mpr (by omega)
  have e1:xs.take 1=xs:=bP (by omega)
  have hk:SqT X.K (upd H p (.tup (xs.drop 1))) a (xs.drop 1++xs.take 1):=by
   have e2:xs.drop 1++xs.take 1=xs:=by rw [e0,e1,List.nil_append]
   rw [e2]
   exact s1.sqt hT
  refine ⟨p,a,_,xs,rfl,rfl,SqT.new,s1.sqt hT,by rw [e0];show 0+xs.length≤sizeLine;omega,λ_=>k a _ s1 hk,λz=>absurd e0 z,λz=>absurd e0 z⟩
 ·rw [c2]
  have l1:¬ xs.length=1:=λz=>w ⟨rfl,by rw [qu6 h1];exact z.symm⟩
  have s2:=Same.upd (H:=upd H p (.tup (xs.drop 1))) (o:=.tup (xs.take 1)) np2
  have e0:xs.drop 1≠[]:=λz=>by have:=List.drop_eq_nil_iff.mp z;omega
  have e1:xs.take 1≠[]:=λz=>(List.take_eq_nil_iff.mp z).elim (λz=>nomatch z) λz=>by rw [z] at h1;exact absurd h1 (by decide)
  refine ⟨p,p2,_,_,rfl,rfl,s2.sqt SqT.new,SqT.new,by rw [br,aL];omega,λz=>absurd z e0,λ_ z=>absurd z e1,λ_ _ p3 np3=>k p3 _ (s1.trans (s2.trans (Same.upd np3))) SqT.new⟩
end L2
namespace L2
open PySem PySem.Spec PyProof.Rows
section
universe u1 u2 u3 u4 u5 u6
variable {α:Sort u1}{β:Sort u2}{γ:Sort u3}{δ:Sort u4}{ε:Sort u5}{ζ:Sort u6}
theorem ex2 {p:α→β→Prop}(a:α)(b:β)(h:p a b):∃x y,p x y:=⟨a,b,h⟩
theorem ex3 {p:α→β→γ→Prop}(a:α)(b:β)(c:γ)(h:p a b c):∃x y z,p x y z:=⟨a,b,c,h⟩
theorem ex4 {p:α→β→γ→δ→Prop}(a:α)(b:β)(c:γ)(d:δ)(h:p a b c d):∃x y z t,p x y z t:=⟨a,b,c,d,h⟩
theorem ex5 {p:α→β→γ→δ→ε→Prop}(a:α)(b:β)(c:γ)(d:δ)(e:ε)(h:p a b c d e):∃x y z t r,p x y z t r:=⟨a,b,c,d,e,h⟩
theorem ex6 {p:α→β→γ→δ→ε→ζ→Prop}(a:α)(b:β)(c:γ)(d:δ)(e:ε)(f:ζ)(h:p a b c d e f):∃x y z t r s,p x y z t r s:=⟨a,b,c,d,e,f,h⟩
end
section
variable {K:Aa}{σ:St}{H:Hp}{Q:VK}{i i2:Nat}{j j2:Int}{p p2:Addr}{xs ys:List V}{v:V}
theorem rdT (e:σ[i]?=some (some (.ref p)))(h:SqT K H p xs)(a:atI xs j=some v)(q:Q v H):tOp (rIxT K) (kv i) (tC (.int j)) σ H Q:=⟨_,e,p,xs,j,v,rfl,rfl,h,a,q⟩
theorem rdTT (e:σ[i]?=some (some (.ref p)))(h:SqT K H p xs)(a:atI xs j=some (.ref p2))(h2:SqT K H p2 ys)(a2:atI ys j2=some v)(q:Q v H):tOp (rIxT K) (tOp (rIxT K) (kv i) (tC (.int j))) (tC (.int j2)) σ H Q:=⟨_,e,p,xs,j,_,rfl,rfl,h,a,p2,ys,j2,v,rfl,rfl,h2,a2,q⟩
theorem rdL (e:σ[i]?=some (some (.ref p)))(e2:σ[i2]?=some (some (.int j)))(h:SqL K H p xs)(a:atI xs j=some v)(q:Q v H):tOp (wwy K) (kv i) (kv i2) σ H Q:=⟨_,e,_,e2,p,xs,j,v,rfl,rfl,h,a,q⟩
theorem rdLC (e:σ[i]?=some (some (.ref p)))(h:SqL K H p xs)(a:atI xs j=some v)(q:Q v H):tOp (wwy K) (kv i) (tC (.int j)) σ H Q:=⟨_,e,p,xs,j,v,rfl,rfl,h,a,q⟩
end
theorem tn2 (n:Nat):((n:Int)-1).toNat=n-1:=by omega
theorem tn1 {m:Int}(h:1≤m):(m-1).toNat=m.toNat-1:=by
 obtain ⟨n,rfl⟩:=eV (show 0≤m by omega)
 rw [tn2,bA]
theorem tn3 {m:Int}(h:1≤m):(m-1).toNat+1=m.toNat:=by
 rw [tn1 h]
 exact Nat.sub_add_cancel (Int.lt_toNat.mpr h)
theorem tnlt {m:Int}(h:1≤m):((m.toNat-1:Nat):Int)<m:=by
 rw [←tn1 h,cf (by omega)]
 omega
theorem tnsum {r t:Int}(h0:0≤r)(h1:1+r<t):(1+r).toNat-1+((t-(1+r)).toNat-1+1)=t.toNat-1:=by
 rw [←tn1 (show 1≤1+r by omega),←tn1 (show 1≤t-(1+r) by omega),←tn1 (show 1≤t by omega),tn3 (show 1≤t-(1+r) by omega),←Int.toNat_add (by omega) (by omega)]
 congr 1
 omega
end L2
namespace L2
open PySem PySem.Spec PyProof.Rows
def Rows (q:Addr)(B:Hp)(L:List (List V))(ys:List V)(H:Hp):Prop:=Paired (λv xs=>∃a,v=.ref a∧a≠q∧B a=none∧H a=some (.lst xs)) ys L
theorem Paired.mono {α β:Type}{R S:α→β→Prop}(h:∀a b,R a b→S a b):∀ {xs:List α} {ys:List β},Paired R xs ys→Paired S xs ys
 |_,_,.nil=>.nil
 |_,_,.cons r t=>.cons (h _ _ r) (Paired.mono h t)
theorem Paired.app {α β:Type}{R:α→β→Prop}:∀ {xs xs':List α} {ys ys':List β},Paired R xs ys→Paired R xs' ys'→Paired R (xs++xs') (ys++ys')
 |_,_,_,_,.nil,h=>h
 |_,_,_,_,.cons r t,h=>.cons r (Paired.app t h)
theorem vh {H H':Hp}(s:Same H H'){a:Addr}(n:H' a=none):H a=none:=by
 cases e:H a with
 |none=>rfl
 |some o=>rw [s _ _ e] at n;cases n
def jd (c:Nat→Bool)(xs:List V)(n:Nat):List V:=((List.range n).filter c).map λi=>xs.getD i .non
theorem Wd {K:Aa}{M:List Nat}{a:Addr}{xs:List V}{tt:TT}{te:TE}{σ:St}{H:Hp}{Q:VK}(c:Nat→Bool)(hS:SqL K H a xs)(hn:xs.length≤1000000)
  (ht:∀(i:Nat) (x:V) (H':Hp) (R:Bool→Hp→Prop),xs[i]?=some x→Same H H'→(∀H'',Same H' H''→R (c i) H'')→tt (x9 M σ (some x)) H' R)
  (he:∀(i:Nat) (x:V) (H':Hp) (R:VK),xs[i]?=some x→c i=true→Same H H'→(∀H'',Same H' H''→R x H'')→te (x9 M σ (some x)) H' R)
  (k:∀p H',H p=none→Same H H'→H' p=some (.lst (jd c xs xs.length))→Q (.ref p) H'):wwx (Itl K a) M tt te σ H Q:=by
 intro p np
 refine ⟨λi m ys H2=>i≤xs.length∧m=xs.length-i∧ys=jd c xs i∧Same H H2∧H2 p=some (.lst ys),⟨xs.length,aN _,rfl,rfl,Same.upd np,qb⟩,?_⟩
 rintro i m ys H2 ⟨hi,rfl,rfl,sm,hp⟩
 refine ⟨hp,?_,?_⟩
 ·unfold jd
  rw [List.length_map]
  have:=dZ c (List.range i)
  rw [List.length_range] at this
  have:(1000000:Nat)<sizeLine:=by decide
  omega
 ·by_cases hlt:i<xs.length
  ·have hx:xs[i]?=some xs[i]:=aa hlt
   refine .inr ⟨⟨xs,_,sm.sql hS,hx⟩,?_⟩
   rintro v H3 ⟨rfl,hv⟩
   have e:=aj (hx.symm.trans (hv xs (sm.sql hS)))
   subst e
   refine ht i _ _ _ hx sm λH4 s4=>?_
   have hp4:=s4 _ _ hp
   have hg:xs.getD i .non=xs[i]:=by rw [ae,hx];rfl
   cases hc:c i with
   |true =>
    refine yu ?_
    refine he i _ _ _ hx hc (sm.trans s4) λH5 s5=>⟨s5 _ _ hp4,xs.length-(i+1),by omega,by omega,rfl,?_,λb o e=>?_,qb⟩
    ·unfold jd
     rw [List.range_succ,de,List.map_append]
     simp only [eC,hc,cg,List.filter_nil,aF,cP,hg]
    ·rw [qr (q8 e np)]
     exact s5 _ _ (s4 _ _ (sm _ _ e))
   |false =>
    refine js ?_
    refine ⟨hp4,xs.length-(i+1),by omega,by omega,rfl,?_,sm.trans s4,hp4⟩
    unfold jd
    rw [List.range_succ,de,List.map_append]
    simp only [eC,hc,aw,bj,List.filter_nil,cP,bK]
  ·have:i=xs.length:=by omega
   subst this
   exact .inl ⟨⟨xs,sm.sql hS,Nat.le_refl _⟩,k p H2 np sm hp⟩
end L2
namespace L2
open PySem PySem.Spec PyProof.Rows
def InnRI (J2:It)(M:List Nat)(tt:TT)(te:TE)(σ:St)(v:V)(p:Addr)(ys:List V)(H4:Hp)(Wx:List V→Hp→Prop):Prop:=∃W2:Nat→Nat→List V→Hp→Prop,(∃m2,W2 0 m2 ys H4) ∧
 ∀j m2 zs H5,W2 j m2 zs H5→H5 p=some (.lst zs)∧zs.length<sizeLine∧((J2.stop j H5∧Wx zs H5)∨(J2.go j H5∧∀u H6,J2.yld j H5 u H6 →
  tt (xt M σ (some v) (some u)) H6 λb H6'=>if b=true then te (xt M σ (some v) (some u)) H6' (λy H7=>H7 p=some (.lst zs)∧∃m2',m2'<m2∧W2 (j+1) m2' (zs++[y]) (upd H7 p (.lst (zs++[y])))) else H6' p=some (.lst zs)∧∃m2',m2'<m2∧W2 (j+1) m2' zs H6'))
def qjw (J:It)(M:List Nat)(wi2:TI)(tt:TT)(te:TE)(σ:St)(H1:Hp)(Q:VK):Prop:=∀p,H1 p=none→∃W:Nat→Nat→List V→Hp→Prop,(∃m,W 0 m [] (upd H1 p (.lst []))) ∧
 ∀i m ys H2,W i m ys H2→H2 p=some (.lst ys)∧((J.stop i H2∧Q (.ref p) H2)∨(J.go i H2∧∀v H3,J.yld i H2 v H3 →
  wi2 (xt M σ (some v) none) H3 λJ2 H4=>InnRI J2 M tt te σ v p ys H4 λzs H5=>∃m',m'<m∧W (i+1) m' zs H5))
def xxm (M:List Nat)(wi wi2:TI)(tt:TT)(te:TE):TE:=λσ H Q=>wi σ H λJ H1=>qjw J M wi2 tt te σ H1 Q
section
variable {X:Cx}{elt iter iter2 cd:Expr}{x y:Str}{px py pos:Pos}{scope:Scope}{cl:List (Str×Addr)}{M:List Nat}{wi wi2:TI}{tt:TT}{te:TE}
theorem qk4 (M:List Nat)(σ:St)(v:V):(xt M σ none none).length=(xt M σ (some v) none).length∧∀(k:Nat) z,(xt M σ none none)[k]?=some (some z)→(xt M σ (some v) none)[k]?=some (some z):=⟨rfl,λk z ez=>by
 match k,ez with
 |0,ez=>cases ez
 |1,ez=>cases ez
 |k+2,ez=>exact ez⟩
theorem qkm (M:List Nat)(σ:St)(v:Option V)(u:V):(xt M σ v none).length=(xt M σ v (some u)).length∧∀(k:Nat) z,(xt M σ v none)[k]?=some (some z)→(xt M σ v (some u))[k]?=some (some z):=⟨rfl,λk z ez=>by
 match k,ez with
 |0,ez=>exact ez
 |1,ez=>cases ez
 |k+2,ez=>exact ez⟩
def inrS (i1:Expr)(e:Expr)(acc:Value)(env:Env)(c:Code):Sem PySem.Fin:=eval i1 env >>= λx=>standAt i1.pos >>= λ_=>foldedSetIterable i1 env x >>= λx=>holding [x] (pyIter x) >>= λit1=>runOwn (Code.compStart e 1 it1 acc env) env >>= λ_=>again c
theorem xwn (elt t0 i0 t1 i1 cd:Expr)(scope:Scope)(pos:Pos)(it acc:Value)(env:Env):compTurn (elt.ListComp [⟨t0,i0,[],0⟩,⟨t1,i1,[cd],0⟩] scope pos) 0 it acc env=(standAt i0.pos >>= λ_=>pyNext it >>= λr=>match r with|none=>pure (.done .next)|some v=>letOwnedTupleGo t0 it v >>= λ_=>assign t0 env v >>= λ_=>inrS i1 (elt.ListComp [⟨t0,i0,[],0⟩,⟨t1,i1,[cd],0⟩] scope pos) acc env (Code.compLoop (elt.ListComp [⟨t0,i0,[],0⟩,⟨t1,i1,[cd],0⟩] scope pos) 0 it acc env)):=rfl
theorem xwr (elt t0 i0 t1 i1 cd:Expr)(scope:Scope)(pos:Pos)(it acc:Value)(env:Env):compTurn (elt.ListComp [⟨t0,i0,[],0⟩,⟨t1,i1,[cd],0⟩] scope pos) 1 it acc env=(standAt i1.pos >>= λ_=>pyNext it >>= λr=>match r with|none=>pure (.done .next)|some v=>letOwnedTupleGo t1 it v >>= λ_=>assign t1 env v >>= λ_=>tstS cd env (appS elt acc env (Code.compLoop (elt.ListComp [⟨t0,i0,[],0⟩,⟨t1,i1,[cd],0⟩] scope pos) 1 it acc env)) (again (Code.compLoop (elt.ListComp [⟨t0,i0,[],0⟩,⟨t1,i1,[cd],0⟩] scope pos) 1 it acc env))):=rfl
theorem xqh {Y:Cx}{t0 i0 t1:Expr}{p:Addr}{c:Code}{σ:St}{H:Hp}{pins:List (Addr×Obj)}{s:Ab}{R2:It→Hp→Prop}{Post:Ab→Prop}(hi2:PI Y t1 iter2 wi2)(hs2:∀z,foldedSetIterable iter2 Y.env z=pure z)(J:Inv Y pins σ H s)(h:wi2 σ H R2)
  (go:∀(it2:Addr) (fp2:List Addr) (tn2:Nat→Heap→Prop) (J2:It) (H8:Hp) (s8:Ab),Inv Y pins σ H8 s8→Turn Y.prog Y.w Y.K t1 J2 fp2 it2 tn2→tn2 0 s8.heap→(∀b∈fp2,zr Y pins H8 b)→R2 J2 H8 →
   codeAny (model Y.prog Y.w) Y.A (.compLoop (elt.ListComp [⟨t0,i0,[],0⟩,⟨t1,iter2,[cd],0⟩] scope pos) 1 (.ref it2) (.ref p) Y.env) (λr s'=>match r with|.ok _=>Post s'|.error _=>False) s8) :
  wpAny (model Y.prog Y.w) Y.A (inrS iter2 (elt.ListComp [⟨t0,i0,[],0⟩,⟨t1,iter2,[cd],0⟩] scope pos) (.ref p) Y.env c) (λr s5=>r=Fin.again c∧Post s5) Y.xe s:=by
 refine wpAny_bind (aS (hi2 _ s _ H _ J h) (λv1 s7 h7=>?_) λ_ _ z=>z)
 refine wpAny_bind (cy ?_)
 rw [hs2]
 refine wpAny_bind (wpAny_pure (wpAny_bind (wpAny_holding (aS h7 (λitv2 s8 h8=>?_) λ_ _ z=>z))))
 obtain ⟨it2,fp2,tn2,Jb,H8,rfl,I8,T2,t8,hfp2,hR⟩:=h8
 refine wpAny_bind (wpAny_runOwn ?_)
 have loop2:=go it2 fp2 tn2 Jb H8 s8 I8 T2 t8 hfp2 hR
 refine du (xzq loop2 λE2=>T2.self _ 0 _ _ _ t8 loop2) λr s' hr=>?_
 cases r with
 |ok f=>exact wpAny_pure ⟨rfl,hr⟩
 |error e=>exact hr.elim
theorem wqf (hc:X.calm=true)(hclos:closureFor scope X.env=pure cl)(hcap:CapAll X.env cl)(hhas:HasAll cl scope.names)(hix:CapIx X scope cl M)(hk:scope.kind=.function)
  (hnames:∀y∈scope.names,y.2=.local→scope.names.lookup y.1=some .local) (hx:scope.names.lookup x=some .local) (hy:scope.names.lookup y=some .local) (hnd:(qkc X x y M).Nodup) (hi:PI X (.Name x px) iter wi)
  (hi2:∀C s2 H2 fp pn,PI (xn X scope cl x y M C s2 H2 fp pn) (.Name y py) iter2 wi2)
  (ht:∀C s2 H2 fp pn,PT (xn X scope cl x y M C s2 H2 fp pn) cd tt) (he:∀C s2 H2 fp pn,PE (xn X scope cl x y M C s2 H2 fp pn) elt te) (hs:∀z,foldedSetIterable iter X.env z=pure z) (hs2:∀env z,foldedSetIterable iter2 env z=pure z)
  {use:Option (Value→Sem Unit)} {QQ:Value→Ab→Prop} {pins:List (Addr×Obj)} {s:Ab} {σ:St} {H:Hp} {Q:VK} {ps:Pos} (I:Inv X pins σ H s) (h:wi σ H λJ H1=>qjw J M wi2 tt te σ H1 Q)
  (fin:∀(C:Addr) (s2 s4:Ab) (H1 H2:Hp) (fp:List Addr),Inv X pins σ H1 s2→s2.heap.objs.size<C→(∀b∈fp,zr X pins H1 b)→Inv (xn X scope cl x y M C s2 H1 fp (X.pn++pins)) [] (xt M σ none none) H2 s4→Q (.ref s2.heap.objs.size) H2 →
   compPost (model X.prog X.w) X.A X.xe use QQ (.ref s2.heap.objs.size) C (.ok .next) s4) :
  wpAny (model X.prog X.w) X.A (comprehension (.ListComp elt [⟨.Name x px,iter,[],0⟩,⟨.Name y py,iter2,[cd],0⟩] scope pos) scope X.env ps (newList []) false (eval iter X.env) use) QQ X.xe s:=by
 refine Yy hclos hhas hk hnames hi hs I h λit fp tn J H1 s2 C h3 tk I2 T t3 hfp hbl hob hR hlt keep hns hD=>?_
 obtain ⟨W,⟨m0,w0⟩,hW⟩:=hR s2.heap.objs.size (I2.hok.fresh (Nat.le_refl _))
 have hxl:(relabel scope X.env).names.lookup x=some .local:=dv hx
 have hyl:(relabel scope X.env).names.lookup y=some .local:=dv hy
 have hT:=hi2 C s2 H1 fp (X.pn++pins)
 have hE:=he C s2 H1 fp (X.pn++pins)
 have hC:=ht C s2 H1 fp (X.pn++pins)
 have g0:PG (xn X scope cl x y M C s2 H1 fp (X.pn++pins)) (.Name x px) (Q3 0):=wn (i:=0) hnd rfl (.inl hxl) (.inr hxl)
 have g1:PG (xn X scope cl x y M C s2 H1 fp (X.pn++pins)) (.Name y py) (Q3 1):=wn (i:=1) hnd rfl (.inl hyl) (.inr hyl)
 have fo:=Zp (N:=qkc X x y M) (scope:=scope) hcap I2 hlt hfp hbl
 have I0:=I2.comp2 (x:=x) (y:=y) (tk:=tk) hcap hhas hix hk hlt keep hns hD hfp hob
 have fn:=λH2 s4 J4 q=>fin C s2 s4 H1 H2 fp I2 hlt hfp J4 q
 refine kj (Y:=xn X scope cl x y M C s2 H1 fp (X.pn++pins)) (V:=λi n H2=>∃ys,W i n ys H2) (Qd:=Q (.ref s2.heap.objs.size)) (REST:=inrS iter2 _ (.ref s2.heap.objs.size) (compEnvC scope cl C X.env) _) T hc (λ_ _ z=>z) (xwn ..) rfl rfl g0 fo (λi n H2 ⟨ys,w⟩=>?_) fn I0 ⟨[],w0⟩ t3 λb hb=>by rw [qr (ar (hbl b hb))];exact (hfp b hb).1
 obtain ⟨hp,hcase⟩:=hW i n ys H2 w
 refine hcase.imp id λ⟨hgo,hyy⟩=>⟨hgo,λv H3 yl=>⟨λσ4 H4=>σ4=xt M σ (some v) none∧H3=H4,⟨rfl,rfl⟩,λ_ _ e=>?_⟩⟩
 obtain ⟨rfl,rfl⟩:=e
 refine ⟨qk4 M σ v,λpins' s' J=>?_⟩
 refine xqh hT (hs2 _) J (hyy v H3 yl) λit2 fp2 tn2 J2 H8 s8 I8 T2 t8 hfp2 ⟨W2,⟨m2,w2⟩,hW2⟩=>?_
 refine kj (Y:=xn X scope cl x y M C s2 H1 fp (X.pn++pins)) (V:=λj n2 H9=>∃zs,W2 j n2 zs H9) (Qd:=λH9=>∃zs m',m'<n∧W (i+1) m' zs H9) (REST:=tstS cd (compEnvC scope cl C X.env) (appS elt (.ref s2.heap.objs.size) (compEnvC scope cl C X.env) _) (again _)) T2 hc (λ_ _ z=>z) (xwr ..) rfl rfl g1 (λH9 hn b hb=>⟨hn b hb,(hfp2 b hb).2⟩) (λj n2 H9 ⟨zs,w9⟩=>?_)
  (λH9 s9 J9 ⟨zs,m',hm',wq⟩=>⟨H9,J9,m',hm',zs,wq⟩) I8 ⟨ys,w2⟩ t8 λb hb=>(hfp2 b hb).1
 obtain ⟨hp9,hz9,hcase9⟩:=hW2 j n2 zs H9 w9
 refine hcase9.imp (λ⟨hst,m',hm',wq⟩=>⟨hst,zs,m',hm',wq⟩) λ⟨hgo9,hy9⟩=>⟨hgo9,λu H11 yl11=>⟨λσ4 H4=>σ4=xt M σ (some v) (some u)∧H11=H4,⟨rfl,rfl⟩,λ_ _ e=>?_⟩⟩
 obtain ⟨rfl,rfl⟩:=e
 refine ⟨qkm M σ (some v) u,λpins9 s9 J9=>?_⟩
 exact Zk hC J9 (hy9 u H11 yl11) (λs6 H6 J6 h6=>aS (Zy (N:=λzs H5=>∃m',m'<n2∧W2 (j+1) m' zs H5) (λ_ _ z=>z) hE J6 hz9 h6) (λr s5 ⟨e,H5,J5,zs,m',hm,w'⟩=>⟨e,H5,J5,m',hm,zs,w'⟩) λ_ _ z=>z)
  λs6 H6 J6 ⟨_,m',hm,w'⟩=>wpAny_pure ⟨rfl,H6,J6,m',hm,zs,w'⟩
end
section
variable {X:Cx}{elt iter iter2 cd:Expr}{x y2:Str}{px py2 pos:Pos}{scope:Scope}{cl:List (Str×Addr)}{M:List Nat}{wi wi2:TI}{tt:TT}{te:TE}
theorem qjr {i:Nat}{y:Str}{py spos:Pos}(hN:X.N.Nodup)(hyi:X.N[i]?=some y)(hyl:Loc X.env.scope y)(hc:X.calm=true)(hclos:closureFor scope X.env=pure cl)(hcap:CapAll X.env cl)(hhas:HasAll cl scope.names)(hix:CapIx X scope cl M)(hk:scope.kind=.function)
  (hnames:∀y∈scope.names,y.2=.local→scope.names.lookup y.1=some .local) (hx:scope.names.lookup x=some .local) (hy2:scope.names.lookup y2=some .local) (hnd:(qkc X x y2 M).Nodup) (hi:PI X (.Name x px) iter wi) (hi2:∀C s2 H2 fp pn,PI (xn X scope cl x y2 M C s2 H2 fp pn) (.Name y2 py2) iter2 wi2)
  (ht:∀C s2 H2 fp pn,PT (xn X scope cl x y2 M C s2 H2 fp pn) cd tt) (he:∀C s2 H2 fp pn,PE (xn X scope cl x y2 M C s2 H2 fp pn) elt te) (hs:∀z,foldedSetIterable iter X.env z=pure z:=by intro _;rfl) (hs2:∀env z,foldedSetIterable iter2 env z=pure z:=by intros;rfl)
  (hsw:swapsWith (.ListComp elt [⟨.Name x px,iter,[],0⟩,⟨.Name y2 py2,iter2,[cd],0⟩] scope pos) (some (.Name y py)) spos.line X.env=pure true:=by rfl) (hyf:X.fn y=true∨X.env.scope.names.lookup y=some .local:=by first | exact .inl rfl | exact .inr rfl | assumption) :
  PS X (.Assign [.Name y py] (.ListComp elt [⟨.Name x px,iter,[],0⟩,⟨.Name y2 py2,iter2,[cd],0⟩] scope pos) spos) (tAsg (xxm M wi wi2 tt te) (Q3 i)):=by
 intro pins s σ H D I h
 rw [fC _ _ _ _ hsw]
 refine wpAny_bind (cy (wpAny_bind ?_))
 refine wpAny_bind (aS (wqf hc hclos hcap hhas hix hk hnames hx hy2 hnd hi hi2 ht he hs hs2 (use:=some (assign (.Name y py) X.env)) (QQ:=λ_ s'=>SP X pins D .next s') I h λC s2 s4 H1 H2 fp I2 hlt hfp J4 hq=>?_) (λ_ s' hq=>wpAny_pure (wpAny_pure hq)) λ_ _ e=>e)
 have I4:Inv X pins σ H2 s4:=I2.uncomp2 (h':=s4.heap) (Nat.le_of_lt hlt) hfp J4 (gQ _ _)
 have hCn:H2 C=none:=J4.free
 obtain ⟨mC,hnC,_⟩:=J4.loc
 obtain ⟨oC,esC,epC,hoC,hdC⟩:=id hnC
 have hCl:C≠X.env.locals:=λz=>aI _ (aR hlt (z▸I2.lt))
 have hCs:X.s₀.heap.objs.size≤C:=bo I2.sz (Nat.le_of_lt hlt)
 have hCc:∀y c,X.env.cells.lookup y=some c→c≠C:=λy c e z=>by
  obtain ⟨v,o,e1,_⟩:=I2.cell y c e
  exact aI _ (aR hlt (z▸af e1))
 have hCp:∀p∈X.pn++pins,p.1≠C:=λp hp z=>aI _ (aR hlt (z▸af (I2.pin p hp).1))
 have hCf:C∉frs X.stack:=λz=>by
  rcases ay.mp (I2.stkSub C z) with q|q
  ·exact hCl q
  ·obtain ⟨_,o,e1,_⟩:=I2.funs.mem (b:=C) q
   exact aI _ (aR hlt (af e1))
 have hCx:C∉X.fs:=λz=>by
  obtain ⟨_,o,e1,_⟩:=I2.funs.mem (b:=C) z
  exact aI _ (aR hlt (af e1))
 have I4p:Inv X (pins++[(C,oC)]) σ H2 s4:=⟨I4.ok,I4.os,I4.bare,I4.base,I4.loc,I4.cell,I4.free,I4.freeC,λp hp=>by
  rcases aP.mp hp with q|q
  ·exact I4.pin p (bN _ q)
  ·rcases aP.mp q with q|q
   ·exact I4.pin p (aB _ q)
   ·rw [aG.mp q]
    exact ⟨hoC,hCn,hCl,hCx,λv z=>by rw [hdC.1] at z;cases z⟩,I4.hok,I4.len⟩
 show wpAny _ _ (assign (.Name y py) X.env (.ref s2.heap.objs.size)) _ _ _
 refine eX (kg I4p hN hyi hyl (show RelV (.ref s2.heap.objs.size) (.ref s2.heap.objs.size) from rfl) (λs5 I5=>?_) hyf)
 have hC5:=(I5.pin (C,oC) (aB _ (aB _ (.head _)))).1
 exact ⟨mC,⟨oC,esC,epC,hC5,hdC⟩,λh' hs'=>⟨_,H2,I5.unpinned.but hCn hCs hCl hCc hCp hs',hq⟩⟩
end
end L2
namespace L2
open PySem PySem.Spec PyProof.Rows
def Itd (a:Int)(n:Nat):It:=⟨λi _=>i<n,λi H x H'=>H'=H∧x=.int (a-i),λi _=>n≤i⟩
theorem wv6 {P:Ac}{w:World}{K:Aa}{tg:Expr}(it:Addr)(a:Int)(n:Nat):Turn P w K tg (Itd a n) [it] it (λi h=>IsRangeIter h it (a+(i:Nat)*(-1)) ((n:Int)-(i:Nat)) (-1)) where
 mem:=by simp
 obj:=λi h st b hb=>by
  cases (aG.mp hb)
  exact ⟨_,st,λv z=>nomatch (show Data.fields _=Data.cell v from z)⟩
 keep:=λi h h' st k=>k it (by simp) _ st
 item:=by
  intro X hP hw hK hc i pins s σ H E I hf st hg
  subst hP hw hK
  have hfi:=hf it (by simp)
  refine (Walks.range (prog:=X.prog) (w:=X.w) (I.ok.hd hc) it a (-1) n).item i s _ _ hg st λv h' tk hv st' kk=>?_
  obtain ⟨t,rfl⟩:=hv
  have I1:Inv X pins σ H { s with heap:=h',toks:=tk }:=I.turned (λb o hb e=>kk b o (by simpa using hb) e) hfi.1 hfi.2.1 hfi.2.2.2.1 hfi.2.2.2.2.1 hfi.2.2.2.2.2
  refine ⟨_,rfl,wzt (s:={ s with heap:=h',toks:=tk }) (n := "range_iterator") st' rfl rfl (by decide) ⟨.int (a-i),H,I1,⟨t,?_⟩,⟨rfl,rfl⟩,st',λb hb=>(hf b hb).1⟩⟩
  congr 1
  omega
 done:=by
  intro X hP hw hK hc i pins s σ H E I hf st hg
  subst hP hw hK
  have hfi:=hf it (by simp)
  exact wpAny_pyNext_range_end (I.ok.hd hc) st (by have:n≤i:=hg;omega) λh' eb=>⟨rfl,I.turned (t':=s.toks) (λb o hb e=>eb b o hb e) hfi.1 hfi.2.1 hfi.2.2.2.1 hfi.2.2.2.2.1 hfi.2.2.2.2.2⟩
 self:=λ_ _ _ _ _ st h=>wpAny_pyIter_rangeiter st h
section
variable {X:Cx}{tg:Expr}
theorem xzb {pins:List (Addr×Obj)}{σ:St}{H:Hp}{s:Ab}{R:It→Hp→Prop}{E:Value→Ab→Prop}{a b:Int}{t u v:Tok}{tk:Nat}(I:Inv X pins σ H s)(h1:-(2 ^ 62)≤a)(h2:a<2 ^ 62)(h3:-(2 ^ 62)≤b)(h4:b<2 ^ 62)
  (q:R (Itd a (a-b).toNat) H):wpAny (model X.prog X.w) X.A (pyIter (.ref s.heap.objs.size)) (PIE X pins σ tg R) E { s with heap:=s.heap.push { cls:=.type "range",data:=.fields #[.int a t,.int b u,.int (-1) v] },toks:=tk }:=by
 refine wpAny_pyIter_range (IsRange.new ..) (PySem.W.small_down h1 h2 h3 h4) ?_
 generalize eh:s.heap.push { cls:=.type "range",data:=.fields #[.int a t,.int b u,.int (-1) v] }=h1
 have I1:Inv X pins σ H { s with heap:=h1,toks:=tk }:=I.kept λb o e=>by rw [←eh];exact Heap.get?_push_of_some _ e
 refine ⟨h1.objs.size,[h1.objs.size],_,_,H,rfl,I1.kept (t':=tk) λb o e=>Heap.get?_push_of_some _ e,wv6 _ a (a-b).toNat,?_,λc hb=>?_,q⟩
 ·have e1:a+((0:Nat):Int)*(-1)=a:=by omega
  have e2:(((a-b).toNat:Nat):Int)-((0:Nat):Int)=Builtin.Range.rangeSize a b (-1):=by rw [PySem.W.rangeSize_downNat];omega
  show IsRangeIter _ _ (a+((0:Nat):Int)*(-1)) ((((a-b).toNat:Nat):Int)-((0:Nat):Int)) (-1)
  rw [e1,e2]
  exact ak _ rfl
 ·cases (aG.mp hb)
  exact I1.fpOk (Nat.le_refl _) (I1.hok.fresh (Nat.le_refl _))
def iRngD (ta:TA):TI:=λσ H R=>ta σ H λvs H1=>∃i j:Int,vs=[.int i,.int j,.int (-1)]∧(-(2 ^ 40)≤i∧i<2 ^ 40∧-(2 ^ 40)≤j∧j<2 ^ 40)∧R (Itd i (i-j).toNat) H1
theorem wk1 {a b c:Expr}{ta:TA}{p pos:Pos}(hg:Gl X "range")(hm:X.mg "range" = none)(ha:PA X [a,b,c] ta)(hs:starEach [a,b,c] X.env=(false,eval a X.env)::starEach [b,c] X.env:=by rfl)(hs2:(backTo pos (starEach [b,c] X.env)).any (·.1)=false:=by rfl) :
  PI X tg (.Call (.Name "range" p) [a,b,c] [] pos) (iRngD ta):=by
 intro pins s σ H R I h
 refine Call_ (jf I hg hm boot_range (bI (thn (ha pos pins s σ H _ I h) λus s1 ⟨vs,H1,I1,r1,q1⟩=>?_) hs hs2))
 obtain ⟨i,j,rfl,⟨q1,q2,q3,q4⟩,q⟩:=q1
 cases r1 with
 |cons r rr =>
  cases rr with
  |cons r' rr =>
   cases rr with
   |cons r'' rr =>
    cases rr
    obtain ⟨t,rfl⟩:=r
    obtain ⟨t',rfl⟩:=r'
    obtain ⟨t'',rfl⟩:=r''
    exact PySem.call_range_3 (by decide) (xzb I1 (by omega) (by omega) (by omega) (by omega) q) (Or.inl (PyProof.noPylong_small (by omega)))
end
theorem wj2 {a:Int}{n:Nat}{g:TG}{tb:TS}{D:Ends}{σ:St}{H:Hp}(Pv:Nat→St→Hp→Prop)(h0:Pv 0 σ H)
  (hs:∀i σ H,i<n→Pv i σ H→g (.int (a-i)) σ H λσ2 H2=>tb { D with nx:=Pv (i+1),ct:=Pv (i+1),bk:=D.nx } σ2 H2) (hd:∀σ H,Pv n σ H→D.nx σ H) :
  ∃W:Nat→Nat→St→Hp→Prop,(∃m,W 0 m σ H)∧∀i m σ H,W i m σ H →
   ((Itd a n).stop i H∧D.nx σ H)∨((Itd a n).go i H∧∃N:St→Hp→Prop,(∀σ' H',N σ' H'→∃m',m'<m∧W (i+1) m' σ' H')∧∀x H',(Itd a n).yld i H x H'→g x σ H' λσ2 H2=>tb { D with nx:=N,ct:=N,bk:=D.nx } σ2 H2):=by
 refine ⟨λi m σ H=>m=n-i∧i≤n∧Pv i σ H,⟨n,by simp,aN _,h0⟩,?_⟩
 rintro i m σ H ⟨rfl,hi,p⟩
 rcases aV i n with z|z
 ·refine .inr ⟨z,Pv (i+1),λσ' H' hp=>⟨n-(i+1),by omega,rfl,by omega,hp⟩,?_⟩
  rintro x H' ⟨rfl,rfl⟩
  exact hs i σ _ z p
 ·obtain rfl:i=n:=by omega
  exact .inl ⟨Nat.le_refl _,hd σ H p⟩
end L2
namespace L2
def Y4 (S:Int)(p:Int×Int):Int:=p.1*S/p.2
theorem wz6 {S:Int}{p q:Int×Int}(hS:0≤S)(hp:1≤p.2)(hq:1≤q.2)(h:p.1*q.2≤q.1*p.2):Y4 S p≤Y4 S q:=by
 unfold Y4
 refine (fh (by omega)).mpr ?_
 have a1:p.1*S/p.2*p.2≤p.1*S:=iG _ (by omega)
 generalize p.1*S/p.2=k at a1 ⊢
 have a2:k*p.2*q.2≤p.1*S*q.2:=aM a1 (by omega)
 have a3:p.1*q.2*S≤q.1*p.2*S:=aM h hS
 have a4:k*q.2*p.2≤q.1*S*p.2:=by
  have e1:k*q.2*p.2=k*p.2*q.2:=by grind
  have e2:p.1*S*q.2=p.1*q.2*S:=by grind
  have e3:q.1*S*p.2=q.1*p.2*S:=by grind
  omega
 exact gI a4 (by omega)
theorem wzd {G:Int}{p q:Int×Int}(hp:1≤p.2)(hq:1≤q.2)(gp:p.2≤G)(gq:q.2≤G)(h:p.1*q.2<q.1*p.2):Y4 (G*G) p<Y4 (G*G) q:=by
 have hS:0≤G*G:=eo (by omega) (by omega)
 have hb:p.2*q.2≤G*G:=Int.mul_le_mul gp gq (by omega) (by omega)
 unfold Y4
 generalize G*G=S at hS hb
 have a1:p.1*S/p.2*p.2≤p.1*S:=iG _ (by omega)
 refine (fh (by omega)).mpr ?_
 generalize p.1*S/p.2=k at a1 ⊢
 have a2:k*p.2*q.2≤p.1*S*q.2:=aM a1 (by omega)
 have a3:(p.1*q.2+1)*S≤q.1*p.2*S:=aM (by omega) hS
 have a4:(k+1)*q.2*p.2≤q.1*S*p.2:=by
  have e1:(k+1)*q.2*p.2=k*p.2*q.2+p.2*q.2:=by grind
  have e2:p.1*S*q.2+S=(p.1*q.2+1)*S:=by grind
  have e3:q.1*S*p.2=q.1*p.2*S:=by grind
  omega
 exact gI a4 (by omega)
def Wor (pt:Nat→Int×Int)(i j:Nat):Prop:=(pt i).1*(pt j).2<(pt j).1*(pt i).2∨((pt i).1*(pt j).2=(pt j).1*(pt i).2∧i<j)
theorem ww7 {pt:Nat→Int×Int}{G:Int}{i j:Nat}(hi:1≤(pt i).2)(hj:1≤(pt j).2)(gi:(pt i).2≤G)(gj:(pt j).2≤G)
  (h:Y4 (G*G) (pt i)<Y4 (G*G) (pt j)∨(Y4 (G*G) (pt i)=Y4 (G*G) (pt j)∧i<j)):Wor pt i j:=by
 have hS:0≤G*G:=eo (by omega) (by omega)
 unfold Wor
 rcases Int.lt_trichotomy ((pt i).1*(pt j).2) ((pt j).1*(pt i).2) with c|c|c
 ·exact .inl c
 ·have k1:=wz6 hS hi hj (Int.le_of_eq c)
  have k2:=wz6 hS hj hi (Int.le_of_eq c.symm)
  exact .inr ⟨c,by omega⟩
 ·have:=wzd hj hi gj gi c
  omega
end L2
namespace L2
open PySem PySem.Spec PySem.Calls PySem.W PyProof.Rows
def zk:List Int→List Int→Bool
 |x::xs,y::ys=>if x=y then zk xs ys else decide (x<y)
 |_,_=>false
section
variable {prog:Ac}{w:World}{A:Around}{E:Value→Ab→Prop}{s:Ab}{Q:Bool→Ab→Prop}
theorem wz2:∀ {us vs:List Value} {xs ys:List Int} (i:Nat),IntsAre us xs→IntsAre vs ys→Q (zk xs ys) s→KatLex prog w A true false Q (us.zip vs) i s
 |_,_,_,_,i,.nil,b,h=>by cases b <;> exact h
 |_,_,_,_,i,.cons _ _ _,.nil,h=>h
 |_,_,_,_,i,@IntsAre.cons x t us xs a,@IntsAre.cons y u vs ys b,h=>by
  show KatLex prog w A true false Q ((Value.int x t,Value.int y u)::us.zip vs) i s
  refine kat_cons (wpAny_eqBool_int ?_)
  refine kat_go (λe=>kat_yes ?_) λe=>kat_no ?_
  ·refine wz2 (i+1) a b ?_
   have e':x=y:=by simpa using e
   unfold zk at h
   rw [if_pos e'] at h
   exact h
  ·have e':¬ x=y:=by simpa using e
   unfold zk at h
   rw [if_neg e'] at h
   by_cases c:i=0
   ·subst c
    exact oneLt_int h
   ·have ci:(true&&i==0)=false:=by simp [c]
    rw [ci]
    exact kat_one _ _ (lt_int h)
theorem lex_lt {x y:Addr}{us vs:List Value}{xs ys:List Int}{ox oy:Obj}{n k:Nat}(hx:s.heap.get? x=some ox)(dx:ox.data=.seq us.toArray n)(hy:s.heap.get? y=some oy)(dy:oy.data=.seq vs.toArray k)
  (a:IntsAre us xs) (b:IntsAre vs ys) (hl:us.length=vs.length) (h:Q (zk xs ys) s):wpAny (model prog w) A (keyLt' (tuples' true) (.ref x) (.ref y)) Q E s:=by
 refine kat_lt hx dx hy dy ?_
 have e:decide (us.toArray.size<vs.toArray.size)=false:=by simp [hl]
 rw [e]
 exact wz2 0 a b h
end
theorem Zr:∀xs,zk xs xs=false
 |[]=>rfl
 |x::xs=>by unfold zk;rw [if_pos rfl];exact Zr xs
theorem qvy:∀ {n:Nat} {xs ys zs:List Int},xs.length=n→ys.length=n→zs.length=n→zk xs ys=true→zk ys zs=true→zk xs zs=true
 |0,[],[],[],_,_,_,h,_=>h
 |n+1,x::xs,y::ys,z::zs,h1,h2,h3,a,b=>by
  unfold zk at a b ⊢
  by_cases e1:x=y
  ·rw [if_pos e1] at a
   subst e1
   by_cases e2:x=z
   ·rw [if_pos e2] at b ⊢
    exact qvy (by simpa using h1) (by simpa using h2) (by simpa using h3) a b
   ·rw [if_neg e2] at b ⊢
    exact b
  ·rw [if_neg e1] at a
   have:=bh a
   by_cases e2:y=z
   ·rw [if_pos e2] at b
    subst e2
    rw [if_neg e1]
    exact a
   ·rw [if_neg e2] at b
    have:=bh b
    rw [if_neg (by omega)]
    exact decide_eq_true (by omega)
theorem qjd:∀ {n:Nat} {xs ys:List Int},xs.length=n→ys.length=n→zk xs ys=true∨xs=ys∨zk ys xs=true
 |0,[],[],_,_=>.inr (.inl rfl)
 |n+1,x::xs,y::ys,h1,h2=>by
  unfold zk
  by_cases e:x=y
  ·subst e
   rw [if_pos rfl,if_pos rfl]
   rcases qjd (n:=n) (xs:=xs) (ys:=ys) (by simpa using h1) (by simpa using h2) with h|h|h
   ·exact .inl h
   ·exact .inr (.inl (by rw [h]))
   ·exact .inr (.inr h)
  ·rw [if_neg e,if_neg (λz=>e z.symm)]
   by_cases c:x<y
   ·exact .inl (decide_eq_true c)
   ·exact .inr (.inr (decide_eq_true (by omega)))
def kzL (ks:List (List Int))(x:List Int):Int:=((ks.countP λy=>zk y x:Nat):Int)
theorem qkg {n:Nat}{ks:List (List Int)}{x y:List Int}(hn:∀k∈ks,k.length=n)(hx:x∈ks)(hy:y∈ks):kzL ks x<kzL ks y↔zk x y=true:=by
 have le:∀u v,u∈ks→v∈ks→zk u v=true→(ks.countP λk=>zk k u)<ks.countP λk=>zk k v:=λu v hu hv h=>by
  have sub:∀k∈ks,zk k u=true→zk k v=true:=λk hk e=>qvy (hn k hk) (hn u hu) (hn v hv) e h
  have e1:(ks.countP λk=>zk k u)≤(ks.countP λk=>zk k v&&!(k==u)):=by
   refine List.countP_mono_left λk hk e=>?_
   have:k≠u:=λz=>by rw [z,Zr] at e;cases e
   simp [sub k hk e,this]
  have e2:(ks.countP λk=>zk k v&&!(k==u))+(ks.countP λk=>zk k v&&(k==u))≤ks.countP λk=>zk k v:=by
   clear sub e1 hu hv hn hx hy
   induction ks with
   |nil=>simp
   |cons k r ih =>
    simp only [List.countP_cons]
    by_cases c1:zk k v=true <;> by_cases c2:(k==u)=true <;> simp [c1,c2] at ih ⊢ <;> omega
  have e3:0<ks.countP λk=>zk k v&&(k==u):=List.countP_pos_iff.mpr ⟨u,hu,by simp [h]⟩
  omega
 unfold kzL
 constructor
 ·intro h
  rcases qjd (hn x hx) (hn y hy) with c|c|c
  ·exact c
  ·rw [c] at h;omega
  ·have:=le y x hy hx c
   omega
 ·intro h
  have:=le x y hx hy h
  omega
end L2
namespace L2
open PySem PySem.Spec PySem.Calls PySem.W PyProof.Rows
inductive TK (h:Heap) (d:Nat):List Value→List (List Int)→Prop
 |nil:TK h d [] []
 |cons {x:Addr} {o:Obj} {us:List Value} {n:Nat} {xs:List Int} {ks:List Value} {kss:List (List Int)} (ho:h.get? x=some o) (hc:o.cls=.type "tuple") (hd:o.data=.seq us.toArray n) (hi:IntsAre us xs) (hl:xs.length=d) (t:TK h d ks kss):TK h d (.ref x::ks) (xs::kss)
theorem TK.length {h:Heap}{d:Nat}{ks:List Value}{kss:List (List Int)}(t:TK h d ks kss):ks.length=kss.length:=by
 induction t with
 |nil=>rfl
 |cons _ _ _ _ _ _ ih=>simp [ih]
theorem TK.lens {h:Heap}{d:Nat}{ks:List Value}{kss:List (List Int)}(t:TK h d ks kss):∀k∈kss,k.length=d:=by
 induction t with
 |nil=>intro k hk;cases hk
 |cons _ _ _ _ hl _ ih=>intro k hk;rcases ay.mp hk with rfl|z;exact hl;exact ih k z
theorem TK.kept {h h':Heap}{d:Nat}{ks:List Value}{kss:List (List Int)}(t:TK h d ks kss)(k:∀b o,h.get? b=some o→o.cls=.type "tuple" → h'.get? b=some o):TK h' d ks kss:=by
 induction t with
 |nil=>exact .nil
 |cons a b c e f _ ih=>exact .cons (k _ _ a b) b c e f ih
theorem TK.at_ {h:Heap}{d:Nat}{ks:List Value}{kss:List (List Int)}(t:TK h d ks kss):∀i,i<kss.length→∃x o us n,ks.getD i .none=.ref x∧h.get? x=some o∧o.data=.seq us.toArray n∧IntsAre us (kss.getD i [])∧(kss.getD i []).length=d:=by
 induction t with
 |nil=>intro i hi;simp at hi
 |@cons x o us n xs ks kss a b c e f _ ih =>
  intro i hi
  cases i with
  |zero=>exact ⟨x,o,us,n,rfl,a,c,e,f⟩
  |succ i=>exact ih i (by simpa using hi)
theorem Qw {us:List Value}{xs:List Int}(h:IntsAre us xs):us.length=xs.length:=by
 induction h with
 |nil=>rfl
 |cons _ _ _ ih=>simp [ih]
theorem TK.tups {h:Heap}{d:Nat}{ks:List Value}{kss:List (List Int)}(t:TK h d ks kss)(hd:1≤d):∃fs,KatTups h ks fs∧fs.length=ks.length∧∀v∈fs,∃i t,v=Value.int i t:=by
 induction t with
 |nil=>exact ⟨[],trivial,rfl,λv hv=>by cases hv⟩
 |@cons x o us n xs ks kss a b c e f _ ih =>
  obtain ⟨fs,h1,h2,h3⟩:=ih
  cases e with
  |nil=>simp at f;omega
  |@cons i t us' xs' e'=>exact ⟨.int i t::fs,KatTups.cons a b c (by simp) h1,by simp [h2],λv hv=>by rcases ay.mp hv with rfl|z;exact ⟨i,t,rfl⟩;exact h3 v z⟩
section
variable {prog:Ac}{w:World}{A:Around}{E:Value→Ab→Prop}{s:Ab}{a kS:Addr}{vs ks:List Value}{P:PySem.Fin→Ab→Prop}
end
end L2
namespace L2
open PySem PySem.Spec PySem.Calls PySem.W PyProof.Rows
section
variable {prog:Ac}{w:World}{A:Around}{E:Value→Ab→Prop}{s:Ab}{a kS:Addr}{vs ks:List Value}{P:PySem.Fin→Ab→Prop}{f:Value}
theorem wzr {α:Type}{J:List Value→List α→Ab→Prop}{body:Value→PUnit→Sem (ForInStep PUnit)}
  (hb:∀x ks kss (s:Ab),vs[ks.length]?=some x→J ks kss s→wpAny (model prog w) A (body x ⟨⟩) (λr s'=>r=.yield ⟨⟩∧∃k xs,J (ks++[k]) (kss++[xs]) s') E s):∀(r ks:List Value) (kss:List α) (s:Ab),vs=vs.take ks.length++r→ks.length≤vs.length →
   J ks kss s→wpAny (model prog w) A (forIn r PUnit.unit body) (λ_ s'=>∃ks kss,ks.length=vs.length∧J ks kss s') E s
 |[],ks,kss,s,hv,hl,j=>by
  rw [iO]
  refine wpAny_pure ⟨ks,kss,?_,j⟩
  rw [bK] at hv
  have:=bX List.length hv
  rw [aL] at this
  omega
 |x::r,ks,kss,s,hv,hl,j=>by
  rw [iF]
  have hlen:=bX List.length hv
  rw [ai,aL,ax] at hlen
  have hx:vs[ks.length]?=some x:=by
   rw [hv,av (by rw [aL];omega),aL]
   have:ks.length-min ks.length vs.length=0:=by omega
   rw [this]
   rfl
  refine wpAny_bind (aS (hb x ks kss s hx j) (λq s' hq=>?_) λ_ _ x=>x)
  obtain ⟨rfl,k,xs,j'⟩:=hq
  show wpAny (model prog w) A (forIn r PUnit.unit body) _ E s'
  refine wzr hb r (ks++[k]) (kss++[xs]) s' ?_ (by rw [ai,cn];omega) j'
  rw [ai,cn,cC,hx]
  simpa using hv
def Wm (h:Heap)(a:Addr)(vs:List Value):Heap:=((h.update a (Obj.mapSeq λ_=>(#[]:Array Value))).push (seqObj "tuple" vs.toArray 0)).push (seqObj "list" #[] 0)
end
end L2
namespace L2
open PySem PySem.Spec PySem.Calls PySem.W PyProof.Rows
section
variable {X:Cx}{pins:List (Addr×Obj)}{σ:St}{H:Hp}{s:Ab}
theorem Inv.track {D:Addr}{o:HO}(I:Inv X pins σ H s)(hD:zr X pins H D)(new:ObjOk X.prog X.w (upd H D o) s.heap D o):Inv X pins σ (upd H D o) s:=by
 obtain ⟨hn,q2,q3,q4,q5,q6⟩:=hD
 refine I.call' (s':=s) (ch:=[D]) rfl ⟨λb u q _ _ _=>q,λb u q _ _ _=>⟨u.slots,q⟩,λb u q n hx=>?_,λb u q _=>⟨u,q⟩,λb xs q=>?_,λb u xs q=>?_,λb ps q=>⟨#[],?_⟩⟩ (λb u e=>?_) I.bare λb hb=>?_
 ·rw [qr (λz=>hx (by simp [z]))];exact n
 ·rw [qr (q8 q hn)];exact q
 ·rw [qr (q8 q hn)];exact q
 ·rw [qr (q8 q hn),q];simp
 ·by_cases hb:b=D
  ·subst hb;rw [qb] at e;cases e;exact new
  ·rw [qr hb] at e
   exact (I.hok b u e).stay (λc v _ q=>q) (λc q=>by rw [qr (q8 q hn)];exact q) λc xs q=>by rw [qr (q8 q hn)];exact q
 ·obtain rfl:b=D:=by simpa using hb
  exact ⟨q4,q2,q5,q6⟩
end
end L2
namespace L2
open PySem PySem.Spec PySem.Calls PySem.W PyProof.Rows
def wuk (X:Cx)(f:Value)(ks:List Str)(r:List V→List V→Hp→VK→Prop):Prop :=
 ∀(pins:List (Addr×Obj)) (s:Ab) (σ:St) (H:Hp) (xs zs:List V) (us ws:List Value) (Q:VK),Inv X pins σ H s→Vals xs us→Vals zs ws→r xs zs H Q →
  wpAny (model X.prog X.w) X.A (call f us (ks.zip ws)) (EP X pins σ Q) X.xe s
def tCBK (r:List V→List V→Hp→VK→Prop)(t tk:TA):TE:=λσ H Q=>t σ H λvs H1=>tk σ H1 λzs H2=>r vs zs H2 Q
section
variable {X:Cx}{x:Str}{p pos:Pos}{e:Expr}{es:List Expr}{kws:List Keyword}{t tk:TA}{id:String}{ks:List Str}{r:List V→List V→Hp→VK→Prop}
theorem wv9 (hc:wuk X (.builtin id) ks r)(hg:Gl X x)(hm:X.mg x=none)(hv:bootBuiltins x=some (.builtin id))(ha:PA X (e::es) t)(hkw:PK X kws tk)
  (hall:(backToKw pos (keywordEach kws X.env)).all (·.1.isSome)=true:=by rfl) (hks:(backToKw pos (keywordEach kws X.env)).filterMap (·.1)=ks:=by rfl) (hn:x ≠ "__name__" := by decide) (hdb:(x==("__debug__" : Str))=false:=by decide)
  (he:starEach (e::es) X.env=(false,eval e X.env)::starEach es X.env:=by rfl)
  (hpl:(backTo pos (starEach (e::es) X.env)).any (·.1)=false:=by rfl) (hpk:(backToKw pos (keywordEach kws X.env)).any (·.1.isNone)=false:=by rfl):PE X (.Call (.Name x p) (e::es) kws pos) (tCBK r t tk):=by
 intro pins s σ H Q I h
 refine cL (jf I hg hm hv ?_ hn hdb)
 refine callWith_builtin_kwB hpl hpk (evalArgs_kw2 hall (thn (ha pos pins s σ H _ I h) λus s1 ⟨vs,H1,I1,r1,q⟩=>?_) he)
 refine thn (hkw pos pins s1 σ H1 _ I1 q) λws s2 ⟨zs,H2,I2,rz,q2⟩=>?_
 dsimp only [List.nil_append]
 rw [hks]
 exact hc pins s2 σ H2 vs zs us ws Q I2 r1 rz q2
end
end L2
namespace L2
open PySem PySem.Spec PyProof.Rows
def Tups (L:List (List Int))(ys:List V)(H:Hp):Prop:=Paired (λv xs=>∃a,v=.ref a∧H a=some (.tup (xs.map V.int))) ys L
theorem Tups.keep {L:List (List Int)}{ys:List V}{H H':Hp}(h:Tups L ys H)(k:∀a xs,H a=some (.tup xs)→H' a=some (.tup xs)):Tups L ys H' :=
 Paired.mono (λ_ _ ⟨a,e,f⟩=>⟨a,e,k a _ f⟩) h
theorem Tups.same {L:List (List Int)}{ys:List V}{H H':Hp}(h:Tups L ys H)(s:Same H H'):Tups L ys H':=h.keep λa xs e=>s a _ e
theorem Tups.upd {L:List (List Int)}{ys zs:List V}{H:Hp}{p:Addr}{o:HO}(h:Tups L ys H)(hp:H p=some (.lst zs)):Tups L ys (upd H p o):=h.keep λa xs e=>by
 rw [qr (λz=>by rw [z,hp] at e;cases e)]
 exact e
theorem Tups.snoc {L:List (List Int)}{ys:List V}{H:Hp}{a:Addr}{xs:List Int}(h:Tups L ys H)(ha:H a=some (.tup (xs.map V.int))):Tups (L++[xs]) (ys++[.ref a]) H:=Paired.app h (.cons ⟨a,rfl,ha⟩ .nil)
theorem Tups.get {L:List (List Int)}{ys:List V}{H:Hp}(h:Tups L ys H){i:Nat}{v:V}(e:ys[i]?=some v):∃a xs,v=.ref a∧L[i]?=some xs∧H a=some (.tup (xs.map V.int)):=by
 unfold Tups at h
 induction h generalizing i with
 |nil=>simp at e
 |cons r t ih =>
  cases i with
  |zero =>
   obtain ⟨a,rfl,f⟩:=r
   simp at e
   exact ⟨a,_,e.symm,rfl,f⟩
  |succ i=>exact ih (by simpa using e)
theorem Tups.len {L:List (List Int)}{ys:List V}{H:Hp}(h:Tups L ys H):ys.length=L.length:=cr h
section
variable {X:Cx}{K:Aa}
theorem wuv (hK:X.K=K):OpR X (binaryOp .Add) (wyb K):=by
 subst hK
 exact wzb
end
def Qt (c:Int→Bool)(row vs:List Int):List (List Int):=(vs.filter c).map λv=>row++[v]
theorem qvs (c:Int→Bool)(row vs:List Int)(v:Int):Qt c row (vs++[v])=Qt c row vs++if c v=true then [row++[v]] else []:=by
 unfold Qt
 rw [de,List.map_append]
 congr 1
 by_cases h:c v=true
 ·rw [if_pos h,eC,if_pos h];rfl
 ·rw [if_neg h,eC,if_neg h];rfl
theorem qu5 (c:Int→Bool)(row vs:List Int):(Qt c row vs).length≤vs.length:=by
 unfold Qt
 rw [List.length_map]
 exact dZ _ _
def uy (c:Int→Bool)(g:List Int→List Int)(L:List (List Int)):List (List Int):=L.flatMap λr=>Qt c r (g r)
theorem qum {c:Int→Bool}{g:List Int→List Int}:∀ {L:List (List Int)},(∀r∈L,(g r).length≤24)→(uy c g L).length≤24*L.length
 |[],_=>Nat.le_refl _
 |r::L,h=>by
  have ih:=qum (c:=c) (g:=g) (L:=L) λr hr=>h r (.tail _ hr)
  have h1:=qu5 c r (g r)
  have h2:=h r (.head _)
  have e:uy c g (r::L)=Qt c r (g r)++uy c g L:=by unfold uy;rw [List.flatMap_cons]
  rw [e,ai,ax]
  omega
theorem wvr (c:Int→Bool)(g:List Int→List Int){L:List (List Int)}{i:Nat}{r:List Int}(h:L[i]?=some r):uy c g (L.take (i+1))=uy c g (L.take i)++Qt c r (g r):=by
 unfold uy
 rw [cC,h,ge]
 simp
theorem qj6 {K:Aa}{M:List Nat}{q:Addr}{us:List V}{wi2:TI}{tt:TT}{te:TE}{σ:St}{H:Hp}{Q:VK}(L:List (List Int))(g:List Int→List Int)(c:Int→Bool)(hq:SqL K H q us)(hL:Tups L us H)(hn:L.length≤10000)(hg:∀r∈L,(g r).length≤24)
  (hw:∀(r:List Int) (a:Addr) (H':Hp) (R:It→Hp→Prop),r∈L→H' a=some (.tup (r.map V.int))→Same H H'→(∀b,SqL K H b ((g r).map V.int)→R (Itl K b) H')→wi2 (xt M σ (some (.ref a)) none) H' R)
  (ht:∀(r:List Int) (a:Addr) (u:Int) (H':Hp) (R:Bool→Hp→Prop),r∈L→u∈g r→Same H H'→R (c u) H'→tt (xt M σ (some (.ref a)) (some (.int u))) H' R)
  (he:∀(r:List Int) (a:Addr) (u:Int) (H':Hp) (R:VK),r∈L→u∈g r→c u=true→H' a=some (.tup (r.map V.int))→Same H H'→(∀b H'',Same H' H''→H'' b=some (.tup ((r++[u]).map V.int))→R (.ref b) H'')→te (xt M σ (some (.ref a)) (some (.int u))) H' R)
  (k:∀p ys H',H p=none→Same H H'→H' p=some (.lst ys)→Tups (uy c g L) ys H'→Q (.ref p) H'):qjw (Itl K q) M wi2 tt te σ H Q:=by
 have big:(1000000:Nat)<sizeLine:=by decide
 intro p np
 have upd2:∀ {H':Hp} {o:HO},Same H H'→Same H (upd H' p o):=λs b u e=>by
  rw [qr (q8 e np)]
  exact s b u e
 have tl:∀i,∀r∈L.take i,(g r).length≤24:=λi r hr=>hg r (cS hr)
 have lu:=hL.len
 refine ⟨λi m ys H2=>i≤L.length∧m=L.length-i∧Same H H2∧H2 p=some (.lst ys)∧Tups (uy c g (L.take i)) ys H2,⟨L.length,aN _,rfl,Same.upd np,qb,.nil⟩,?_⟩
 rintro i m ys H2 ⟨hi,rfl,s2,f2,t2⟩
 refine ⟨f2,?_⟩
 rcases aV i L.length with z|z
 ·have ev:us[i]?=some us[i]:=aa (by omega)
  obtain ⟨a,r,ea,er,fa⟩:=(hL.same s2).get ev
  have rm:r∈L:=aA er
  refine .inr ⟨⟨us,_,s2.sql hq,ev⟩,?_⟩
  rintro v H3 ⟨rfl,hv⟩
  have e:=aj (ev.symm.trans (hv us (s2.sql hq)))
  rw [ea] at e
  subst e
  refine hw r a H3 _ rm fa s2 λb hb=>?_
  have lg:((g r).map V.int).length=(g r).length:=List.length_map _
  refine ⟨λj m2 zs H5=>j≤(g r).length∧m2=(g r).length-j∧Same H H5∧H5 a=some (.tup (r.map V.int))∧H5 p=some (.lst zs)∧Tups (uy c g (L.take i)++Qt c r ((g r).take j)) zs H5,⟨(g r).length,aN _,rfl,s2,fa,f2,by rw [show Qt c r ((g r).take 0)=[] from rfl,bK];exact t2⟩,?_⟩
  rintro j m2 zs H5 ⟨hj,rfl,s5,fa5,f5,t5⟩
  have lz:zs.length<sizeLine:=by
   have e1:=t5.len
   have e2:=qum (c:=c) (tl i)
   have e3:=qu5 c r ((g r).take j)
   have e4:=hg r rm
   rw [aL] at e2 e3
   rw [ai] at e1
   omega
  refine ⟨f5,lz,?_⟩
  rcases aV j (g r).length with y|y
  ·have eu:(g r)[j]?=some (g r)[j]:=aa y
   have um:(g r)[j]∈g r:=bF _
   have eu':((g r).map V.int)[j]?=some (.int (g r)[j]):=by rw [ao,eu];rfl
   refine .inr ⟨⟨_,_,s5.sql hb,eu'⟩,?_⟩
   rintro u H6 ⟨rfl,hu⟩
   have e:=aj (eu'.symm.trans (hu _ (s5.sql hb)))
   subst e
   refine ht r a _ H6 _ rm um s5 ?_
   have ap:a≠p:=λw=>by rw [w,f5] at fa5;cases fa5
   have et:(g r).take (j+1)=(g r).take j++[(g r)[j]]:=by rw [cC,eu];rfl
   cases hc:c (g r)[j] with
   |true =>
    refine yu ?_
    refine he r a _ H6 _ rm um hc fa5 s5 λb' H7 s7 f7=>⟨s7 _ _ f5,(g r).length-(j+1),by omega,by omega,rfl,upd2 (s5.trans s7),by rw [qr ap];exact s7 _ _ fa5,qb,?_⟩
    rw [et,qvs,if_pos hc,←aO]
    exact ((t5.same s7).upd (s7 _ _ f5)).snoc (by rw [qr (λw=>by rw [w,s7 _ _ f5] at f7;cases f7)];exact f7)
   |false =>
    refine js ⟨f5,(g r).length-(j+1),by omega,by omega,rfl,s5,fa5,f5,?_⟩
    rw [et,qvs,if_neg (by rw [hc];exact au),bK]
    exact t5
  ·obtain rfl:j=(g r).length:=by omega
   refine .inl ⟨⟨_,s5.sql hb,by rw [lg];exact Nat.le_refl _⟩,L.length-(i+1),by omega,by omega,rfl,s5,f5,?_⟩
   rw [wvr c g er]
   rw [List.take_length] at t5
   exact t5
 ·obtain rfl:i=L.length:=by omega
  rw [List.take_length] at t2
  exact .inl ⟨⟨us,s2.sql hq,by omega⟩,k p ys H2 np s2 f2 t2⟩
end L2
namespace L2
open PySem PySem.Spec PySem.Calls PySem.W PyProof.Rows
def j5 (w:World)(S:Addr)(ps:List (Int×Value)):HO:=.ext λh=>SAt w h S ps
theorem qqn {P:Ac}{w:World}{H:Hp}{h:Heap}{S:Addr}{ps:List (Int×Value)}(x:SAt w h S ps):ObjOk P w H h S (j5 w S ps):=⟨x,let ⟨o,_,_,e,_⟩:=x;⟨o,e⟩,λh1 h2 a k=>a.at_ k⟩
def PsT (P:Ac)(w:World)(H:Hp)(ps:List (Int×Value))(L:List (List Int)):Prop:=Paired (λp (xs:List Int)=>∃a,p=((KD P w).hash (xs.map Sum.inl),Value.ref a)∧H a=some (.tup (xs.map V.int))) ps L
def PsI (P:Ac)(w:World)(ps:List (Int×Value))(ns:List Int):Prop:=Paired (λp (n:Int)=>∃t,p=((intKind P w).hash n,Value.int n t)) ps ns
theorem wx2 (xs:List Int):(xs.map (Sum.inl:Int→Key)).map kV=xs.map V.int:=by
 rw [bz]
 rfl
theorem xwf {xs ys:List Int}(h:xs.map (Sum.inl:Int→Key)=ys.map Sum.inl):xs=ys:=(List.map_inj_right λa b e=>iJ e).mp h
theorem PsT.kp {P:Ac}{w:World}{H:Hp}{h:Heap}(ok:HOk P w H h):∀ {ps:List (Int×Value)} {L:List (List Int)},PsT P w H ps L→KP P w h ps (L.map λxs=>xs.map Sum.inl)
 |_,_,.nil=>.nil
 |_,_,.cons ⟨a,e,f⟩ t=>.cons ⟨a,e,wqd ok (by rw [wx2];exact f)⟩ (PsT.kp ok t)
theorem PsT.keep {P:Ac}{w:World}{H H':Hp}{ps:List (Int×Value)}{L:List (List Int)}(h:PsT P w H ps L)(k:∀a xs,H a=some (.tup xs)→H' a=some (.tup xs)):PsT P w H' ps L :=
 Paired.mono (λ_ _ ⟨a,e,f⟩=>⟨a,e,k a _ f⟩) h
theorem PsT.len {P:Ac}{w:World}{H:Hp}{ps:List (Int×Value)}{L:List (List Int)}(h:PsT P w H ps L):ps.length=L.length:=cr h
theorem PsI.len {P:Ac}{w:World}{ps:List (Int×Value)}{L:List Int}(h:PsI P w ps L):ps.length=L.length:=cr h
theorem Paired.perm {α β:Type}{R:α→β→Prop}{ps ps':List α}{L:List β}(p:ps'.Perm ps)(h:Paired R ps L):∃L',L'.Perm L∧Paired R ps' L':=by
 induction p generalizing L with
 |nil =>
  cases h
  exact ⟨[],.refl _,.nil⟩
 |cons x _ ih =>
  cases h with
  |cons r t =>
   obtain ⟨L',a,b⟩:=ih t
   exact ⟨_::L',a.cons _,.cons r b⟩
 |swap x y l =>
  cases h with
  |cons r t =>
   cases t with
   |cons r' t=>exact ⟨_,.swap _ _ _,.cons r' (.cons r t)⟩
 |trans _ _ ih1 ih2 =>
  obtain ⟨L1,a1,b1⟩:=ih2 h
  obtain ⟨L2,a2,b2⟩:=ih1 b1
  exact ⟨L2,a2.trans a1,b2⟩
abbrev qw4:=Addr→List (Int×Value)→V→Hp→(List (Int×Value)→Hp→Prop)→Prop
def W7 (X:Cx)(add:qw4):Prop:=∀(pins:List (Addr×Obj)) (s:Ab) (σ:St) (H:Hp) (p:Addr) (ps:List (Int×Value)) (y:V) (yv:Value) (Q:List (Int×Value)→Hp→Prop),Inv X pins σ H s→RelV y yv→H p=some (j5 X.w p ps)→add p ps y H Q →
 wpAny (model X.prog X.w) X.A (call (.builtin "set.add") [.ref p,yv]) (λ_ s'=>∃ps' H',Inv X pins σ H' s'∧Q ps' H') X.xe s
def addT (P:Ac)(w:World):qw4:=λp ps y H Q=>∃a xs L,y=.ref a∧H a=some (.tup (xs.map V.int))∧PsT P w H ps L∧ps.length<1099∧(xs∈L→Q ps H)∧(xs∉L→∀ps',ps'.Perm (((KD P w).hash (xs.map Sum.inl),.ref a)::ps)→Q ps' (upd H p (j5 w p ps')))
def addI (P:Ac)(w:World):qw4:=λp ps y H Q=>∃(n:Int) (L:List Int),y=.int n∧PsI P w ps L∧ps.length<1000∧(n∈L→Q ps H)∧(n∉L→∀ps' t,ps'.Perm (((intKind P w).hash n,.int n t)::ps)→Q ps' (upd H p (j5 w p ps')))
section
variable {prog:Ac}{w:World}{A:Around}{E:Value→Ab→Prop}{s:Ab}{S:Addr}{ps:List (Int×Value)}
theorem xx8 {L:List Int}(h:PsI prog w ps L):ElemsOf (intKind prog w) ps:=by
 induction h with
 |nil=>intro e he;cases he
 |@cons p n ps L r t ih =>
  obtain ⟨tk,rfl⟩:=r
  intro e he
  rcases ay.mp he with rfl|he
  ·exact ⟨⟨n,by simp [intKind,Value.isInt],rfl⟩,rfl⟩
  ·exact ih e he
theorem PsI.mem_of {L:List Int}{n:Int}(h:PsI prog w ps L):(∃j,ps.findIdx? (λe=>(intKind prog w).is n e.2)=some j)↔n∈L:=by
 constructor
 ·rintro ⟨j,ej⟩
  obtain ⟨hj,hp,_⟩:=List.findIdx?_eq_some_iff_getElem.mp ej
  have key:∀ {ps:List (Int×Value)} {L:List Int},PsI prog w ps L→∀p∈ps,(intKind prog w).is n p.2=true→n∈L:=by
   intro ps L h
   induction h with
   |nil=>intro p hp;cases hp
   |@cons p m ps L r t ih =>
    obtain ⟨tk,rfl⟩:=r
    intro q hq hn
    rcases ay.mp hq with rfl|hq
    ·have:m=n:=by simpa [intKind,Value.isInt] using hn
     rw [this]
     exact .head _
    ·exact .tail _ (ih q hq hn)
  exact key h _ (bF hj) hp
 ·intro hn
  cases q:ps.findIdx? (λe=>(intKind prog w).is n e.2) with
  |some j=>exact ⟨j,rfl⟩
  |none =>
   have all:=List.findIdx?_eq_none_iff.mp q
   have key:∀ {ps:List (Int×Value)} {L:List Int},PsI prog w ps L→n∈L→∃p∈ps,(intKind prog w).is n p.2=true:=by
    intro ps L h
    induction h with
    |nil=>intro hn;cases hn
    |@cons p m ps L r t ih =>
     obtain ⟨tk,rfl⟩:=r
     intro hn
     rcases ay.mp hn with rfl|hn
     ·exact ⟨_,.head _,by simp [intKind,Value.isInt]⟩
     ·obtain ⟨p,hp,e⟩:=ih hn
      exact ⟨p,.tail _ hp,e⟩
   obtain ⟨p,hp,e⟩:=key h hn
   have:=all p hp
   rw [e] at this
   cases this
theorem xqc {L:List Int}{n:Int}{t0:Tok}{Q:Bool→Ab→Prop}(P:SAt w s.heap S ps)(K:PsI prog w ps L)(hn:ps.length<1000)(hQ1:n∈L→∀tk,Q false { s with toks:=tk })
  (hQ2:n∉L→∀h' tk ps',Heap.SameBut S s.heap h'→SAt w h' S ps'→ps'.Perm (((intKind prog w).hash n,.int n t0)::ps)→Q true { s with heap:=h',toks:=tk }) :
  wpAny (model prog w) A (setAdd S (.int n t0)) Q E s:=by
 obtain ⟨o,ep,t,ho,hex,hd,T,few⟩:=P
 have bm:=T.big
 have hkey:(intKind prog w).is n (.int n t0)=true:=by simp [intKind,Value.isInt]
 have el:=xx8 K
 have sb0:scanBound=4096:=rfl
 unfold setAdd
 refine wpAny_holding (wpAny_bind ((intKind prog w).pyHash hkey ?_))
 generalize s.toks+1=tk
 unfold setAddHashed setAddHashedIn
 refine wpAny_holding (wpAny_bind (aT (s:={ s with toks:=tk }) ho hd T.fits' ?_))
 dsimp only
 rw [byScan_of (knd:=intKind prog w) rfl (by rw [ah];omega) (by simpa using el)]
 simp only [cg]
 unfold setAddByScan
 refine wpAny_bind ?_
 refine wpAny_bind (bW ?_)
 refine wpAny_bind (wpAny_setScan_of (s:={ s with toks:=tk }) hkey ho hd T.fits' (by simpa using el) ?_)
 rw [show ps.toArray.toList=ps from rfl]
 cases hr:ps.findIdx? (λe=>(intKind prog w).is n e.2) with
 |some j =>
  dsimp only
  exact wpAny_pure (wpAny_pure (hQ1 (K.mem_of.mp ⟨j,hr⟩) tk))
 |none =>
  have hno:n∉L:=λz=>by
   obtain ⟨j,ej⟩:=K.mem_of.mpr z
   rw [hr] at ej
   cases ej
  dsimp only
  obtain ⟨N,r1,r2,r3⟩:=T.free ((intKind prog w).hash n)
  generalize hh:(intKind prog w).hash n=h at r1 r2 r3 hQ2 ⊢
  have fs:t.freeSlot h=some (pos t h N,false):=by
   unfold SetTable.freeSlot SetTable.probe
   obtain ⟨m,e1,ok⟩:=Yj (t:=t) (h:=h) (ha:=λ_=>h+1) N (10*SetTable.turns t.mask) (t.probeStart h) (by unfold SetTable.turns;omega) rfl r3 (.inl r2)
   rw [e1]
   cases ok with
   |empty hs=>rfl
   |cand m i hm hs hh=>omega
  obtain ⟨T1,hp1⟩:=T.put r1 r2 r3 (by rw [List.length_map];omega)
  have pm:=j9 ps (t.put (pos t h N)).2 (h,Value.int n t0)
  have pl:=pm.length_eq
  rw [ax] at pl
  rw [←wzx ps (t.put (pos t h N)).2 (h,Value.int n t0)] at T1
  have fits1:(t.put (pos t h N)).1.fits (xu ps (t.put (pos t h N)).2 (h,Value.int n t0)).toArray.size=true:=T1.fits'
  have ln:layNew t ps.toArray h (.int n t0)=((xu ps (t.put (pos t h N)).2 (h,Value.int n t0)).toArray,(t.put (pos t h N)).1,false,false):=by
   unfold layNew
   rw [fs]
   dsimp only
   rw [wx6]
   unfold SetTable.orStandIn
   rw [fits1]
   rfl
  rw [ln]
  dsimp only
  have hm:(t.put (pos t h N)).1.mask=t.mask:=rfl
  generalize (t.put (pos t h N)).2=p at T1 pm pl ⊢
  generalize (t.put (pos t h N)).1=t1 at T1 hm ⊢
  have big:100000≤sizeLine:=by decide
  have gw:∀ {s₁:Ab} {Q':Unit→Ab→Prop},Q' () s₁→wpAny (model prog w) A (match false with | true=>rule "set.scan.the-table-gave-way" | false=>pure ()) Q' E s₁:=λhq=>wpAny_pure hq
  refine wpAny_bind (gw ?_)
  rw [if_pos T1.plain,hashByValue_scannable 8 rfl]
  refine wpAny_bind (wpAny_pure ?_)
  simp only [plainKind,cg]
  refine wpAny_bind (dw (s:={ s with toks:=tk }) ho hd ?_ (by rw [ah];omega))
  have g1:(s.heap.update S (Obj.putSet (xu ps p (h,Value.int n t0)).toArray t1)).get? S=some { o with data:=.set (xu ps p (h,Value.int n t0)).toArray (ep+1) t1 }:=Ys ho hd
  have sb1:Heap.SameBut S s.heap (s.heap.update S (Obj.putSet (xu ps p (h,Value.int n t0)).toArray t1)):=bC _ _ _
  have fl:t1.fill=ps.length+1:=by
   unfold SetTable.fill
   rw [T1.dm,T1.pl,List.length_map,pl]
   rfl
  generalize s.heap.update S (Obj.putSet (xu ps p (h,Value.int n t0)).toArray t1)=h1 at g1 sb1 ⊢
  by_cases tf:t1.tooFull=true
  ·rw [tf]
   simp only [fi,gZ,cg]
   have gr:SetTable.grown (xu ps p (h,Value.int n t0)).toArray.size=4*((xu ps p (h,Value.int n t0)).map (·.1)).length:=by
    unfold SetTable.grown
    rw [if_neg (by rw [ah];omega),List.length_map,ah]
    omega
   obtain ⟨t2,order,f1,f2,T2,f4⟩:=T1.relay (by rw [List.length_map,pl];omega)
   have hsz:(xu ps p (h,Value.int n t0)).toArray.map (·.1)=((xu ps p (h,Value.int n t0)).map (·.1)).toArray:=by simp
   have hin:∀i∈order.toList,i<(xu ps p (h,Value.int n t0)).length:=λi hi=>by
    have:=am.mp (f2.mem_iff.mp hi)
    rwa [List.length_map] at this
   have oe:order.filterMap (λi=>(xu ps p (h,Value.int n t0)).toArray[i]?)=(order.toList.map λi=>(xu ps p (h,Value.int n t0)).getD i (0,.none)).toArray:=by
    apply dL.mp
    rw [fj,Wh _ _ hin]
   have ol:(order.toList.map λi=>(xu ps p (h,Value.int n t0)).getD i (0,.none)).length=(xu ps p (h,Value.int n t0)).length:=by
    rw [List.length_map,f2.length_eq,List.length_range,List.length_map]
   have op:(order.toList.map λi=>(xu ps p (h,Value.int n t0)).getD i (0,.none)).Perm (xu ps p (h,Value.int n t0)):=by
    refine (f2.map _).trans ?_
    rw [List.length_map]
    have:(List.range (xu ps p (h,Value.int n t0)).length).map (λi=>(xu ps p (h,Value.int n t0)).getD i (0,.none))=xu ps p (h,Value.int n t0):=by
     refine bv λi=>?_
     rw [ao]
     by_cases c:i<(xu ps p (h,Value.int n t0)).length
     ·rw [bf c]
      simp [ae,c]
     ·rw [az (by simp;omega),az (by omega)]
      rfl
    rw [this]
   have om:(order.toList.map λi=>(xu ps p (h,Value.int n t0)).getD i (0,.none)).map (·.1)=order.toList.map λi=>((xu ps p (h,Value.int n t0)).map (·.1)).getD i 0:=by
    rw [bz]
    refine dH λi hi=>?_
    have:=hin i hi
    simp [ae,this]
   rw [←om] at T2
   have cov:coversAll order (xu ps p (h,Value.int n t0)).toArray.size=true:=by
    unfold coversAll
    rw [List.isPerm_iff,ah]
    have:=f2
    rwa [List.length_map] at this
   have ra:relayAll t1 (xu ps p (h,Value.int n t0)).toArray (SetTable.grown (xu ps p (h,Value.int n t0)).toArray.size)=((order.toList.map λi=>(xu ps p (h,Value.int n t0)).getD i (0,.none)).toArray,t2,false):=by
    unfold relayAll
    rw [gr,hsz,f1]
    dsimp only
    rw [oe,cov]
    have:=T2.fits'
    rw [this]
    rfl
   rw [ra]
   dsimp only
   generalize (order.toList.map λi=>(xu ps p (h,Value.int n t0)).getD i (0,.none))=ps2 at T2 op ol
   refine wpAny_bind (gw ?_)
   refine wpAny_bind (dw (s:={ s with heap:=h1,toks:=tk }) g1 rfl ?_ (by rw [ah,ol];omega))
   refine wpAny_pure ?_
   dsimp only
   have sb2:Heap.SameBut S h1 (h1.update S (Obj.putSet ps2.toArray t2)):=bC _ _ _
   have g2:(h1.update S (Obj.putSet ps2.toArray t2)).get? S=some { o with data:=.set ps2.toArray (ep+1+1) t2 }:=Ys g1 rfl
   refine wpAny_pure (hQ2 hno _ tk ps2 (sb1.trans sb2) ⟨_,_,t2,g2,hex,rfl,T2,?_⟩ (op.trans pm))
   rw [List.length_map] at f4
   omega
  ·rw [fH] at tf
   rw [tf]
   simp only [d9,aw,bj]
   refine wpAny_pure (wpAny_pure (hQ2 hno h1 tk _ sb1 ⟨_,_,t1,g1,hex,rfl,T1,?_⟩ pm))
   unfold SetTable.tooFull at tf
   have:=gF tf
   rw [fl] at this
   omega
theorem qus {x:Value}{Q:Value→Ab→Prop}(hT:s.TypeIs (.ref S) "set")(h:wpAny (model prog w) A.in1 (setAdd S x) (λ_ s'=>Q .none s') E s):wpAny (model prog w) A (call (.builtin "set.add") [.ref S,x]) Q E s:=by
 refine wpAny_call_entry F.slot_set_add hT F.entry_set_add ?_ (F.args_set_add_2 _ _)
 unfold Builtin.«set.add» Builtin.Frozenset.oneOther
 simp only [List.isEmpty_nil,bind_assoc]
 unfold Builtin.Frozenset.addrOf
 (refine wpAny_bind (wpAny_pure ?_) ;try dsimp only)
 (refine wpAny_bind (wpAny_pure ?_) ;try dsimp only)
 refine wpAny_bind (aS h (λb s' hq=>?_) λ_ _ e=>e)
 show wpAny _ _ (ret Value.none) _ _ _
 exact wpAny_pure ⟨_,rfl,hq⟩
end
section
variable {X:Cx}
theorem xzf (hu:X.A.units+64<cLine):W7 X (addT X.prog X.w):=by
 intro pins s σ H p ps y yv Q I ry hp h
 obtain ⟨a,xs,L,rfl,ha,hL,hn,q1,q2⟩:=h
 obtain rfl:yv=Value.ref a:=ry
 have P:SAt X.w s.heap p ps:=(I.hok p _ hp).1
 obtain ⟨_,its,rv,o,h1,h2,n,h3⟩:=(show ObjOk X.prog X.w H s.heap a (.tup (xs.map V.int)) from I.hok a _ ha)
 have K:=hL.kp I.hok
 have hx:(KD X.prog X.w).is s.heap (xs.map Sum.inl) a:=wqd I.hok (by rw [wx2];exact ha)
 refine qus P.typeIs (xqz P K hx h1 h3 (λv hv=>?_) (by show X.A.in1.units<cLine;simp only [Around.in1];omega) hn (λz tk=>?_) λz h' tk ps' sb P' pm=>?_)
 ·exact (yc rv).all v hv
 ·refine ⟨ps,H,I.tok _,q1 ?_⟩
  obtain ⟨ys,hy,e⟩:=aH.mp z
  rw [←xwf e]
  exact hy
 ·refine ⟨ps',_,wzf I (by rw [hp];trivial) sb (let ⟨o,_,_,e,_⟩:=P';⟨o,e⟩) (qqn P'),q2 (λz'=>z (aH.mpr ⟨xs,z',rfl⟩)) ps' pm⟩
theorem xzd:W7 X (addI X.prog X.w):=by
 intro pins s σ H p ps y yv Q I ry hp h
 obtain ⟨n,L,rfl,hL,hn,q1,q2⟩:=h
 obtain ⟨t,rfl⟩:=ry
 have P:SAt X.w s.heap p ps:=(I.hok p _ hp).1
 refine qus P.typeIs (xqc P hL hn (λz tk=>⟨ps,H,I.tok _,q1 z⟩) λz h' tk ps' sb P' pm=>?_)
 exact ⟨ps',_,wzf I (by rw [hp];trivial) sb (let ⟨o,_,_,e,_⟩:=P';⟨o,e⟩) (qqn P'),q2 z ps' t pm⟩
end
end L2
namespace L2
open PySem PySem.Spec PySem.Calls PySem.W PyProof.Rows
theorem wqw {α:Type}:∀l:List α,l.zip l=l.map λv=>(v,v)
 |[]=>rfl
 |a::l=>by rw [List.zip_cons_cons,wqw l];rfl
theorem TK.at_' {h:Heap}{d:Nat}{ks:List Value}{kss:List (List Int)}(t:TK h d ks kss):∀i,i<kss.length→∃x o us n,ks.getD i .none=.ref x∧h.get? x=some o∧o.cls=.type "tuple" ∧ o.data=.seq us.toArray n∧IntsAre us (kss.getD i [])∧(kss.getD i []).length=d:=by
 induction t with
 |nil=>intro i hi;simp at hi
 |@cons x o us n xs ks kss a b c e f _ ih =>
  intro i hi
  cases i with
  |zero=>exact ⟨x,o,us,n,rfl,a,b,c,e,f⟩
  |succ i=>exact ih i (by simpa using hi)
section
variable {prog:Ac}{w:World}{A:Around}{E:Value→Ab→Prop}{s:Ab}{S:Addr}{ps:List (Int×Value)}
theorem qyr {Q:List Value→Ab→Prop}(hh:A.handled=none)(P:SAt w s.heap S ps)(hn:ps.length≤sizeLine)
  (h:∀h' tk (qs:List (Int×Value)),(∀b o,s.heap.get? b=some o→h'.get? b=some o)→qs.Perm ps→s.heap.objs.size≤h'.objs.size→Q (qs.map (·.2)) { s with heap:=h',toks:=tk }):wpAny (model prog w) A (collect (.ref S)) Q E s:=by
 obtain ⟨o,ep,t,ho,hex,hd,T,few⟩:=P
 have hS:S<s.heap.objs.size:=af ho
 have R:SRaw (s.heap.push (seqObj "list" #[] 0)) S ps ep t:=⟨o,Heap.get?_push_of_some _ ho,hex,hd⟩
 have run:codeAny (model prog w) A (.builtin "proto.collect" ⟨[.ref S],[]⟩) (λr s'=>r=.ok (.ret (.ref s.heap.objs.size))∧∃h' tk acc' c',s'={ s with heap:=h',toks:=tk }∧(∀b o,b≠s.heap.objs.size→(s.heap.push (seqObj "list" #[] 0)).get? b=some o→h'.get? b=some o) ∧
   h'.get? s.heap.objs.size=some { cls:=.type "list",dict:=none,data:=.seq acc' c',slots:=#[] }∧ItemsOf (λi v=>∃p,(wk w S ep ps)[i]?=some p∧v=p.2) acc' ps.length) s:=by
  refine dr entry_proto_collect' ?_
  show wpAny _ _ (do again (.builtin "list.__iadd__" ⟨[←newList [],.ref S],[]⟩)) _ _ s
  (refine wpAny_bind (fS (wpAny_pure ⟨Code.quiet_builtin _ (by decide +kernel),dr entry_list_iadd' ?_⟩)) ;rw [dz (show plainId "list.__iadd__" = true by decide +kernel) _])
  show wpAny _ _ (Builtin.List.listExtendWith (.ref s.heap.objs.size) (.ref S) (.ref s.heap.objs.size)) _ _ _
  exact kdl_extend (s:={ s with heap:=s.heap.push (seqObj "list" #[] 0) }) (R:=λr s'=>r=.ok (.ret (.ref s.heap.objs.size))∧∃h' tk acc' c',s'={ s with heap:=h',toks:=tk }∧(∀b o,b≠s.heap.objs.size→(s.heap.push (seqObj "list" #[] 0)).get? b=some o→h'.get? b=some o) ∧
   h'.get? s.heap.objs.size=some { cls:=.type "list",dict:=none,data:=.seq acc' c',slots:=#[] }∧ItemsOf (λi v=>∃p,(wk w S ep ps)[i]?=some p∧v=p.2) acc' ps.length) (xws T) (by simpa using hh) R s.heap.objs.size (cY hS) (cY hS) (.ref s.heap.objs.size) 0 (ak _ rfl) (λh' tk acc' c' hk hS' hacc=>⟨rfl,h',tk,acc',c',rfl,hk,hS',hacc⟩) hn
 unfold collect
 refine wpAny_bind (wpAny_runValue (du run λr s' hr=>?_))
 obtain ⟨rfl,h',tk,acc',c',rfl,hk,hS',hacc⟩:=hr
 dsimp only
 refine wpAny_bind (wpAny_load hS' ?_)
 refine wpAny_pure ?_
 have e:acc'.toList=(wk w S ep ps).map (·.2):=by
  obtain ⟨a1,a2⟩:=hacc
  have hl:=(qq0 w S ep ps).length_eq
  refine bv λi=>?_
  rw [ao]
  by_cases c:i<ps.length
  ·have hi:i<acc'.size:=by rw [a1];exact c
   obtain ⟨p,e1,e2⟩:=a2 i acc'[i] (aQ hi)
   rw [aC,aQ hi,e1,e2]
   rfl
  ·rw [az (by rw [aJ,a1];omega),az (by omega)]
   rfl
 rw [e]
 refine h h' tk _ (λb o e=>hk b o (ar (af e)) (Heap.get?_push_of_some _ e)) (qq0 w S ep ps) ?_
 exact Nat.le_of_lt (af hS')
theorem wxk {a:Addr}{vs:List Value}{k d:Nat}{kss:List (List Int)}{P:PySem.Fin→Ab→Prop}(ho:s.heap.get? a=some (seqObj "list" vs.toArray k))(h6:vs.length≤100000)(hd:1≤d)(t:TK s.heap d vs kss)(nd:kss.Nodup)
  (h:∀(out:List Value) (kss':List (List Int)),TK s.heap d out kss'→out.Perm vs→kss'.Perm kss→kss'.Pairwise (λx y=>zk x y=true)→P (.done (.ret .none)) { s with heap:=sortedHeap s.heap a vs out.toArray }):wpAny (model prog w) A (Builtin.«list.sort» ⟨[.ref a],[]⟩) P E s:=by
 have hkl:=t.length
 have ha:a<s.heap.objs.size:=af ho
 obtain ⟨e1,ho1⟩:∃e1,(s.heap.update a (Obj.mapSeq λ_=>(#[]:Array Value))).get? a=some (seqObj "list" #[] e1):=⟨_,dW ho λ_=>#[]⟩
 have sz:(1000001:Nat)<sizeLine:=by decide
 rw [list_sort_plain]
 refine wpAny_bind (listItems_at ho rfl ?_)
 refine wpAny_bind (dY ho rfl ?_ (by rw [ah];omega) (aN _))
 refine wpAny_bind (gW ho1 rfl ?_)
 refine wpAny_bind (wpAny_newTuple ?_ (by show vs.length≤_;omega))
 refine wpAny_bind (fS ?_ (aN _))
 refine wpAny_holding ?_
 show wpAny (model prog w) A _ P E { s with heap:=((s.heap.update a (Obj.mapSeq λ_=>(#[]:Array Value))).push (seqObj "tuple" vs.toArray 0)).push (seqObj "list" #[] 0) }
 have ho6:(((s.heap.update a (Obj.mapSeq λ_=>(#[]:Array Value))).push (seqObj "tuple" vs.toArray 0)).push (seqObj "list" #[] 0)).get? a=some (seqObj "list" #[] e1):=Heap.get?_push_of_some _ (Heap.get?_push_of_some _ ho1)
 have t6:TK (((s.heap.update a (Obj.mapSeq λ_=>(#[]:Array Value))).push (seqObj "tuple" vs.toArray 0)).push (seqObj "list" #[] 0)) d vs kss:=t.kept λb o e c=>by
  refine Heap.get?_push_of_some _ (Heap.get?_push_of_some _ ?_)
  rw [bE _ _ _ _ (λz=>by rw [z,ho] at e;cases e;exact absurd c (by show ¬ Value.type "list" = Value.type "tuple";decide))]
  exact e
 have fin:∀(h':Heap) (out:List Value) (kss':List (List Int)),h'=((s.heap.update a (Obj.mapSeq λ_=>(#[]:Array Value))).push (seqObj "tuple" vs.toArray 0)).push (seqObj "list" #[] 0)→TK s.heap d out kss'→out.Perm vs→kss'.Perm kss→kss'.Pairwise (λx y=>zk x y=true)→P (.done (.ret .none)) { s with heap:=h'.update a (Obj.mapSeq λ_=>out.toArray) }:=λh' out kss' e a1 a2 a3 a4=>by
  subst e
  exact h out kss' a1 a2 a3 a4
 generalize ((s.heap.update a (Obj.mapSeq λ_=>(#[]:Array Value))).push (seqObj "tuple" vs.toArray 0)).push (seqObj "list" #[] 0)=h6' at ho6 t6 fin ⊢
 have fin:=λout kss'=>fin h6' out kss' rfl
 dsimp only
 by_cases h2:vs.toArray.size<2
 ·rw [if_pos h2,if_pos h2]
  refine wpAny_bind (wpAny_pure ?_)
  rw [StateT.run_pure]
  refine wpAny_bind (wpAny_pure ?_)
  dsimp only
  have e:(arrOf (SortSt.mk' general' (vs.toArray.zip vs.toArray) #[] 7 none)).map (·.2)=vs.toArray:=by
   show (vs.toArray.zip vs.toArray).map (·.2)=vs.toArray
   match vs,h2 with
   |[],_=>simp
   |[v],_=>simp
   |_::_::_,h2=>simp at h2;omega
  rw [e]
  refine wpAny_bind (gW ho6 rfl ?_)
  refine wpAny_bind (dY ho6 rfl ?_ (aN _) (by rw [ah];omega))
  simp only [d7,aw,bj]
  refine wpAny_pure (fin vs kss t (.refl _) (.refl _) ?_)
  have:kss.length<2:=by rw [←hkl];simpa using h2
  match kss,this with
  |[],_=>exact .nil
  |[x],_=>exact cV _ _
 ·rw [if_neg h2,if_neg h2]
  have hv2:2≤vs.length:=by simpa using h2
  obtain ⟨fs,t1,t2,t3⟩:=t6.tups hd
  refine wpAny_bind (kat_kind (s:={ s with heap:=h6' }) (T:=.type "int") t1 (by omega) (λv hv=>?_) rfl ?_)
  ·obtain ⟨i,tk,rfl⟩:=t3 v hv
   exact Looks.of_pure rfl
  let ix:Keyed→Nat:=λx=>vs.findIdx λu=>match u,x.1 with|.ref b,.ref c=>b==c|_,_=>false
  let kz:Keyed→Int:=λx=>kzL kss (kss.getD (ix x) [])
  have inj:∀i j,i<kss.length→j<kss.length→kss.getD i []=kss.getD j []→i=j:=λi j hi hj e=>by
   rw [ae,aa hi,ae,aa hj] at e
   exact (List.getElem_inj nd).mp e
  have ref:∀i,i<vs.length→∃x o us n,vs[i]?=some (Value.ref x)∧h6'.get? x=some o∧o.data=.seq us.toArray n∧IntsAre us (kss.getD i [])∧(kss.getD i []).length=d:=λi hi=>by
   obtain ⟨x,o,us,n,b1,b2,b3,b4,b5⟩:=t6.at_ i (by omega)
   rw [ae,aa hi] at b1
   exact ⟨x,o,us,n,by rw [aa hi];exact bX some b1,b2,b3,b4,b5⟩
  have sameKey:∀(i j:Nat) (x:Addr),vs[i]?=some (Value.ref x)→vs[j]?=some (.ref x)→i=j:=λi j x ei ej=>by
   have hi:=(ag.mp ei).1
   have hj:=(ag.mp ej).1
   obtain ⟨y,o,us,n,b1,b2,b3,b4,b5⟩:=ref i hi
   obtain ⟨y',o',us',n',c1,c2,c3,c4,c5⟩:=ref j hj
   rw [ei] at b1
   rw [ej] at c1
   cases b1
   cases c1
   rw [b2] at c2
   cases c2
   rw [b3] at c3
   have eu:us=us':=by
    have:us.toArray=us'.toArray:=(Data.seq.inj c3).1
    exact bX Array.toList this
   subst eu
   exact inj i j (by omega) (by omega) (b4.nums.symm.trans c4.nums)
  have ixv:∀(i:Nat) (x:Addr) (u:Value),vs[i]?=some (Value.ref x)→ix (.ref x,u)=i:=λi x u ei=>by
   have hi:=(ag.mp ei).1
   refine (List.findIdx_eq hi).mpr ⟨?_,λj hj=>?_⟩
   ·have:vs[i]=.ref x:=by rw [aa hi] at ei;exact aj ei
    rw [this]
    simp
   ·obtain ⟨y,o,us,n,b1,_⟩:=ref j (by omega)
    have:vs[j]=.ref y:=by rw [aa (by omega)] at b1;exact aj b1
    rw [this]
    simp only [bV]
    intro z
    rw [z] at b1
    have:=sameKey j i x b1 ei
    omega
  let G:Keyed→Prop:=λx=>∃(i:Nat) (y:Addr),vs[i]?=some (Value.ref y)∧x=(.ref y,.ref y)
  have mem:∀i,i<kss.length→kss.getD i []∈kss:=λi hi=>by
   rw [ae,aa hi]
   exact bF _
  have kzv:∀(i:Nat) (y:Addr) (u:Value),vs[i]?=some (Value.ref y)→kz (.ref y,u)=kzL kss (kss.getD i []):=λi y u e=>by
   show kzL kss (kss.getD (ix (.ref y,u)) [])=_
   rw [ixv i y u e]
  have O:Tm.jm (model prog w) A E { s with heap:=h6' } G kz (tuples' true):=by
   rintro x y st Q ⟨i,bx,ei,rfl⟩ ⟨j,by_,ej,rfl⟩ hk hQ
   have hi:=(ag.mp ei).1
   have hj:=(ag.mp ej).1
   obtain ⟨y1,o,us,n,b1,b2,b3,b4,b5⟩:=ref i hi
   obtain ⟨y2,o',us',n',c1,c2,c3,c4,c5⟩:=ref j hj
   rw [ei] at b1
   rw [ej] at c1
   cases b1
   cases c1
   rw [lt'_eq]
   refine al (fQ ?_)
   rw [hk]
   refine al (gH (wpAny_attempt (lex_lt (s:={ s with heap:=h6' }) b2 b3 c2 c3 b4 c4 (by rw [Qw b4,Qw c4,b5,c5]) ⟨rfl,?_⟩)))
   refine aq ?_
   rw [kzv i _ _ ei,kzv j _ _ ej] at hQ
   have:=qkg t.lens (mem i (by omega)) (mem j (by omega))
   have e:zk (kss.getD i []) (kss.getD j [])=decide (kzL kss (kss.getD i [])<kzL kss (kss.getD j [])):=by
    by_cases c:zk (kss.getD i []) (kss.getD j [])=true
    ·rw [c,decide_eq_true (this.mpr c)]
    ·rw [decide_eq_false (λz=>c (this.mp z))]
     simpa using c
   rw [e]
   exact hQ
  have zl:(vs.toArray.zip vs.toArray).toList=vs.map λv=>(v,v):=by
   rw [Array.toList_zip]
   exact wqw vs
  have kne:∀i j,i<kss.length→j<kss.length→i≠j→kzL kss (kss.getD i [])≠kzL kss (kss.getD j []):=λi j hi hj hij z=>by
   rcases qjd (t.lens _ (mem i hi)) (t.lens _ (mem j hj)) with c|c|c
   ·have:=(qkg t.lens (mem i hi) (mem j hj)).mpr c
    omega
   ·exact hij (inj i j hi hj c)
   ·have:=(qkg t.lens (mem j hj) (mem i hi)).mpr c
    omega
  have U:Tm.Un kz G (vs.toArray.zip vs.toArray):=by
   refine ⟨?_,λx hx=>?_⟩
   ·rw [zl,bu]
    refine bg.mpr λi j hi hj hij=>?_
    obtain ⟨y1,_,_,_,b1,_⟩:=ref i hi
    obtain ⟨y2,_,_,_,c1,_⟩:=ref j hj
    have f1:vs[i]=.ref y1:=by rw [aa hi] at b1;exact aj b1
    have f2:vs[j]=.ref y2:=by rw [aa hj] at c1;exact aj c1
    rw [f1,f2,kzv i _ _ b1,kzv j _ _ c1]
    exact kne i j (by omega) (by omega) (by omega)
   ·rw [zl] at hx
    obtain ⟨v,hv,rfl⟩:=aH.mp hx
    obtain ⟨i,ei⟩:=bH hv
    obtain ⟨y,_,_,_,b1,_⟩:=ref i (ag.mp ei).1
    rw [ei] at b1
    cases b1
    exact ⟨i,y,ei,rfl⟩
  refine wpAny_bind (aS (Tm.Zv (Q:=λ_ st'=>(arrOf st').Perm (vs.toArray.zip vs.toArray)∧failedOf st'=none∧Tm.SL kz (arrOf st').toList) (st:=SortSt.mk' (tuples' true) (vs.toArray.zip vs.toArray) #[] 7 none) O U rfl rfl rfl rfl λst' a1 a2 a3=>⟨a1,a2,a3⟩) ?_ λ_ _ e=>e)
  rintro ⟨⟨⟩,st'⟩ s' ⟨rfl,b1,b2,b3⟩
  dsimp only
  have pl:=dc.mp b1
  rw [zl] at pl
  have op:((arrOf st').toList.map (·.2)).Perm vs:=by
   have:=pl.map (·.2)
   rwa [bz,show ((λx:Value×Value=>x.2)∘λv=>(v,v))=id from rfl,List.map_id] at this
  have oe:(arrOf st').map (·.2)=((arrOf st').toList.map (·.2)).toArray:=by
   apply dL.mp
   simp
  have tk2:∀l:List Keyed,(∀x∈l,G x)→TK s.heap d (l.map (·.2)) (l.map λx=>kss.getD (ix x) []):=λl=>by
   induction l with
   |nil=>intro _;exact .nil
   |cons x l ih =>
    intro hx
    obtain ⟨i,y,ei,rfl⟩:=hx x (.head _)
    have hi:=(ag.mp ei).1
    obtain ⟨x0,o0,us0,n0,g1,g2,g2',g3,g4,g5⟩:=t.at_' i (by omega)
    rw [ae,ei] at g1
    cases g1
    rw [aF,aF,ixv i y _ ei]
    exact .cons g2 g2' g3 g4 g5 (ih λz hz=>hx z (.tail _ hz))
  have gl:∀x∈(arrOf st').toList,G x:=λx hx=>by
   have:=pl.mem_iff.mp hx
   rw [←zl] at this
   exact U.g x this
  have kp:((arrOf st').toList.map λx=>kss.getD (ix x) []).Perm kss:=by
   refine (pl.map _).trans ?_
   rw [bz]
   have:vs.map ((λx=>kss.getD (ix x) [])∘λv=>(v,v))=kss:=by
    refine bv λi=>?_
    rw [ao]
    by_cases c:i<vs.length
    ·obtain ⟨y,_,_,_,e,_⟩:=ref i c
     rw [e]
     show some (kss.getD (ix (.ref y,.ref y)) [])=_
     rw [ixv i y _ e,ae,aa (by omega)]
     rfl
    ·rw [az (by omega),az (by omega)]
     rfl
   rw [this]
  have kpw:((arrOf st').toList.map λx=>kss.getD (ix x) []).Pairwise (λx y=>zk x y=true):=by
   rw [bu]
   refine aY (λ{x y} hx hy hxy=>?_) b3
   obtain ⟨i,a1,ei,rfl⟩:=gl x hx
   obtain ⟨j,a2,ej,rfl⟩:=gl y hy
   have hi:=(ag.mp ei).1
   have hj:=(ag.mp ej).1
   rw [kzv i _ _ ei,kzv j _ _ ej] at hxy
   rw [ixv i _ _ ei,ixv j _ _ ej]
   exact (qkg t.lens (mem i (by omega)) (mem j (by omega))).mp hxy
  rw [oe]
  refine wpAny_bind (gW (s:={ s with heap:=h6' }) ho6 rfl ?_)
  refine wpAny_bind (dY (s:={ s with heap:=h6' }) ho6 rfl ?_ (aN _) (by rw [ah,op.length_eq];omega))
  rw [b2]
  simp only [d7,aw,bj]
  exact wpAny_pure (fin _ _ (tk2 _ gl) op kp kpw)
end
end L2
namespace L2
open PySem PySem.Spec PySem.Calls PySem.W PyProof.Rows
section
variable {prog:Ac}{w:World}{A:Around}{E:Value→Ab→Prop}{s:Ab}
theorem Q7 {h:Heap}{a:Addr}{vs:List Value}{k:Nat}(ho:h.get? a=some (seqObj "list" vs.toArray k))(out:Array Value):∃e,(sortedHeap h a vs out).get? a=some (seqObj "list" out e):=by
 obtain ⟨e1,ho1⟩:∃e1,(h.update a (Obj.mapSeq λ_=>(#[]:Array Value))).get? a=some (seqObj "list" #[] e1):=⟨_,dW ho λ_=>#[]⟩
 exact ⟨_,dW (Heap.get?_push_of_some _ (Heap.get?_push_of_some _ ho1)) λ_=>out⟩
theorem Qq {h:Heap}{a b:Addr}{vs:List Value}{o:Obj}(e:h.get? b=some o)(hb:b≠a)(out:Array Value):(sortedHeap h a vs out).get? b=some o:=by
 unfold sortedHeap
 rw [bE _ _ _ _ hb]
 refine Heap.get?_push_of_some _ (Heap.get?_push_of_some _ ?_)
 rw [bE _ _ _ _ hb]
 exact e
theorem qwx {S:Addr}{ps:List (Int×Value)}{Q:Value→Ab→Prop}(hh:A.handled=none)(P:SAt w s.heap S ps)(hn:ps.length≤100000)
  (h:∀(h':Heap) (tk:Nat) (qs:List (Int×Value)),(∀b o,s.heap.get? b=some o→h'.get? b=some o)→qs.Perm ps→s.heap.objs.size≤h'.objs.size →
   wpAny (model prog w) A.in1.in1 (Builtin.«list.sort» ⟨[.ref h'.objs.size],[]⟩) (λfin s'=>∃r,fin=.done (.ret r)∧Q (.ref h'.objs.size) s') E { s with heap:=h'.push (seqObj "list" (qs.map (·.2)).toArray 0),toks:=tk }) :
  wpAny (model prog w) A (call (.builtin "sorted") [.ref S]) Q E s:=by
 have sz:(100001:Nat)<sizeLine:=by decide
 refine Calls.call_function_entry kind_sorted plain_sorted entry_sorted (args_sorted1 _) ?_
 unfold Builtin.«sorted»
 refine wpAny_bind (m:=checkCount "sorted" 1 1 _) (wpAny_pure ?_)
 refine wpAny_bind (qyr (by simpa using hh) P (by omega) λh' tk qs hk pm hz=>?_)
 have hl:=pm.length_eq
 refine wpAny_bind (fS ?_ (by rw [List.length_map];omega))
 have hoL:(h'.push (seqObj "list" (qs.map (·.2)).toArray 0)).get? h'.objs.size=some (seqObj "list" (qs.map (·.2)).toArray 0):=ak _ rfl
 refine wpAny_bind (wpAny_holding (wpAny_call_entry slot_list_sort ⟨_,hoL,rfl⟩ entry_list_sort ?_ (args_list_sort _)))
 refine aS (h h' tk qs hk pm hz) (λfin s' hf=>?_) λ_ _ e=>e
 obtain ⟨r,rfl,hq⟩:=hf
 exact ⟨_,rfl,wpAny_pure ⟨_,rfl,hq⟩⟩
end
section
variable {X:Cx}
theorem xq0 {H:Hp}{s:Ab}{d:Nat}(ok:HOk X.prog X.w H s.heap):∀ {qs:List (Int×Value)} {L:List (List Int)},PsT X.prog X.w H qs L→(∀r∈L,r.length=d)→TK s.heap d (qs.map (·.2)) L
 |_,_,.nil,_=>.nil
 |_,_,.cons ⟨a,e,f⟩ t,hl=>by
  subst e
  obtain ⟨_,us,rv,o,ho,hc,n,hd⟩:=(show ObjOk X.prog X.w H s.heap a (.tup _) from ok a _ f)
  exact .cons ho hc hd (yc rv) (hl _ (.head _)) (xq0 ok t λr hr=>hl r (.tail _ hr))
theorem qz4 (hc:X.calm=true):v8 X (.builtin "sorted") (λxs H Q=>∃(S:Addr) (ps:List (Int×Value)) (L:List (List Int)) (d:Nat),xs=[.ref S]∧H S=some (j5 X.w S ps)∧PsT X.prog X.w H ps L∧L.Nodup∧L.length≤100000∧1≤d∧(∀r∈L,r.length=d) ∧
  ∀(l:Addr) (ys:List V) (L':List (List Int)),H l=none→L'.Perm L→L'.Pairwise (λx y=>zk x y=true)→Tups L' ys H→Q (.ref l) (upd H l (.lst ys))):=by
 intro pins s σ H xs us Q I r h
 obtain ⟨S,ps,L,d,rfl,hS,hL,nd,hn,hd,hl,q⟩:=h
 obtain ⟨u,rfl,ru⟩:=k7 r
 cases (show u=Value.ref S from ru)
 have P:SAt X.w s.heap S ps:=(I.hok S _ hS).1
 have ll:=hL.len
 have sz:(100001:Nat)<sizeLine:=by decide
 refine qwx (I.ok.hd hc) P (by omega) λh' tk qs hk pm hz=>?_
 obtain ⟨L1,p1,q1⟩:=Paired.perm pm hL
 have q1:PsT X.prog X.w H qs L1:=q1
 have hoL:(h'.push (seqObj "list" (qs.map (·.2)).toArray 0)).get? h'.objs.size=some (seqObj "list" (qs.map (·.2)).toArray 0):=ak _ rfl
 have I1:Inv X pins σ H { s with heap:=h',toks:=tk }:=I.kept hk
 have t1:TK h' d (qs.map (·.2)) L1:=xq0 (s:={ s with heap:=h',toks:=tk }) I1.hok q1 λr hr=>hl r (p1.mem_iff.mp hr)
 have t2:=t1.kept (h':=h'.push (seqObj "list" (qs.map (·.2)).toArray 0)) λb o e _=>Heap.get?_push_of_some _ e
 have hlq:=pm.length_eq
 refine wxk (s:={ s with heap:=h'.push (seqObj "list" (qs.map (·.2)).toArray 0),toks:=tk }) hoL (by rw [List.length_map];omega) hd t2 (p1.nodup_iff.mpr nd) λout kss' t3 op kp kpw=>⟨_,rfl,?_⟩
 have refs:∀v∈qs.map (·.2),∃(a:Addr) (xs:List Int),v=Value.ref a∧H a=some (.tup (xs.map V.int)):=λv hv=>by
  obtain ⟨p,hp,rfl⟩:=aH.mp hv
  obtain ⟨i,ei⟩:=bH hp
  have key:∀ {qs:List (Int×Value)} {L:List (List Int)},PsT X.prog X.w H qs L→∀p∈qs,∃(a:Addr) (xs:List Int),p.2=Value.ref a∧H a=some (.tup (xs.map V.int)):=by
   intro qs L h
   induction h with
   |nil=>intro p hp;cases hp
   |cons r t ih =>
    obtain ⟨a,e,f⟩:=r
    intro p hp
    rcases ay.mp hp with rfl|hp
    ·exact ⟨a,_,by rw [e],f⟩
    ·exact ih p hp
  exact key q1 p hp
 have tr:∀ {out:List Value} {kss:List (List Int)},TK (h'.push (seqObj "list" (qs.map (·.2)).toArray 0)) d out kss→(∀v∈out,v∈qs.map (·.2))→∃ys,Vals ys out∧Tups kss ys H:=by
  intro out kss t
  induction t with
  |nil=>intro _;exact ⟨[],.nil,.nil⟩
  |@cons x o us n xs ks kss a b c e f _ ih =>
   intro hv
   obtain ⟨ys,v1,v2⟩:=ih λv hv'=>hv v (.tail _ hv')
   obtain ⟨a',xs',ea,fa⟩:=refs _ (hv _ (.head _))
   cases ea
   obtain ⟨_,us',rv,o',ho',hc',n',hd'⟩:=(show ObjOk X.prog X.w H h' x (.tup _) from I1.hok x _ fa)
   have e9:o=o':=by
    have:=Heap.get?_push_of_some (seqObj "list" (qs.map (·.2)).toArray 0) ho'
    rw [a] at this
    exact aj this
   subst e9
   rw [c] at hd'
   have eu:us=us':=bX Array.toList (Data.seq.inj hd').1
   subst eu
   have ex:xs=xs':=e.nums.symm.trans (yc rv).nums
   subst ex
   exact ⟨.ref x::ys,.cons rfl v1,.cons ⟨x,rfl,fa⟩ v2⟩
 obtain ⟨ys,v1,v2⟩:=tr t3 λv hv=>op.mem_iff.mp hv
 obtain ⟨e,he⟩:=Q7 hoL out.toArray
 have nl:H h'.objs.size=none:=I.hok.fresh hz
 refine ⟨.ref _,_,I.laid (t':=tk) (λb u hb=>Qq (Heap.get?_push_of_some _ (hk b u hb)) (ar (aD (af hb) hz)) _) hz (show ObjOk X.prog X.w _ _ _ (.lst ys) from ⟨?_,out,e,v1,he⟩),rfl,q _ ys kss' nl (kp.trans p1) kpw v2⟩
 rw [v1.length,op.length_eq,List.length_map]
 omega
theorem qzs (hc:X.calm=true):v8 X (.builtin "sorted") (λxs H Q=>∃(S:Addr) (ps:List (Int×Value)) (ns:List Int),xs=[.ref S]∧H S=some (j5 X.w S ps)∧PsI X.prog X.w ps ns∧ns.length<64 ∧
  ∀(l:Addr) (ms:List Int),H l=none→ms.Perm ns→ms.Pairwise (·≤·)→Q (.ref l) (upd H l (.lst (ms.map V.int)))):=by
 intro pins s σ H xs us Q I r h
 obtain ⟨S,ps,ns,rfl,hS,hL,hn,q⟩:=h
 obtain ⟨u,rfl,ru⟩:=k7 r
 cases (show u=Value.ref S from ru)
 have P:SAt X.w s.heap S ps:=(I.hok S _ hS).1
 have ll:=hL.len
 have sz:(100001:Nat)<sizeLine:=by decide
 refine qwx (I.ok.hd hc) P (by omega) λh' tk qs hk pm hz=>?_
 obtain ⟨L1,p1,q1⟩:=Paired.perm pm hL
 have ia:∀ {qs:List (Int×Value)} {L:List Int},PsI X.prog X.w qs L→IntsAre (qs.map (·.2)) L:=by
  intro qs L h
  induction h with
  |nil=>exact .nil
  |cons r t ih =>
   obtain ⟨tk,rfl⟩:=r
   exact .cons _ _ ih
 have hoL:(h'.push (seqObj "list" (qs.map (·.2)).toArray 0)).get? h'.objs.size=some (seqObj "list" (qs.map (·.2)).toArray 0):=ak _ rfl
 have hlq:=pm.length_eq
 refine list_sort_tree (s:={ s with heap:=h'.push (seqObj "list" (qs.map (·.2)).toArray 0),toks:=tk }) hoL (ia q1) (by rw [List.length_map];omega) λout ms a1 a2 a3=>⟨_,rfl,?_⟩
 obtain ⟨e,he⟩:=Q7 hoL out
 have nl:H h'.objs.size=none:=I.hok.fresh hz
 refine ⟨.ref _,_,I.laid (t':=tk) (λb u hb=>Qq (Heap.get?_push_of_some _ (hk b u hb)) (ar (aD (af hb) hz)) _) hz (show ObjOk X.prog X.w _ _ _ (.lst (ms.map V.int)) from ⟨?_,out.toList,e,Yz a1,by simpa using he⟩),rfl,q _ ms nl (a2.trans p1) a3⟩
 rw [List.length_map,a2.length_eq,p1.length_eq]
 omega
end
end L2
namespace L2
open PySem PySem.Spec PySem.Calls PyProof.Rows
section
variable {prog:Ac}{w:World}{A:Around}{E:Value→Ab→Prop}{s:Ab}{R:Result→Ab→Prop}
theorem wkp {Q:Value→Ab→Prop}(h:Q (.ref s.heap.objs.size) { s with heap:=s.heap.push { cls:=.type "set",dict:=none,data:=.set #[] 0 (.fresh 0 0 (!byT w)) } }):wpAny (model prog w) A (newSet (.type "set")) Q E s:=by
 unfold newSet
 refine wpAny_bind (Yt ?_)
 exact bp h
theorem wzw {h:Heap}{S:Addr}(e:h.get? S=some { cls:=.type "set",dict:=none,data:=.set #[] 0 (.fresh 0 0 (!byT w)) }):SAt w h S []:=⟨_,0,_,e,⟨rfl,rfl,rfl⟩,rfl,Tab.fresh,by show 0*5<7*3;decide⟩
theorem wkn {elt:Expr}{target:Expr}{iter:Expr}{ifs:List Expr}{rest:List Comprehension}{scope:Scope}{pos:Pos}{it acc:Value}{env:Env}(h0:codeAny (model prog w) A (.compLoop (.SetComp elt (⟨target,iter,ifs,0⟩::rest) scope pos) 0 it acc env) R s)
  (h:wpAny (model prog w) A (pyIter it) (λit' s'=>codeAny (model prog w) A (.compLoop (.SetComp elt (⟨target,iter,ifs,0⟩::rest) scope pos) 0 it' acc env) R s') (notedBy (model prog w) A env λx s'=>R (.error x) s') s) :
  codeAny (model prog w) A (.compStart (.SetComp elt (⟨target,iter,ifs,0⟩::rest) scope pos) 0 it acc env) R s:=by
 refine iE ?_
 show wpAny _ _ ((compStart (.SetComp elt (⟨target,iter,ifs,0⟩::rest) scope pos) 0 it acc env).onRaise (λx=>do noteFrame x env;standAt theWindowsPlace)) _ _ s
 (refine wpAny_notedAt ?_ ;unfold compStart ;show wpAny _ _ (ask >>= _) _ _ s ;refine wpAny_bind (wpAny_askSetting (wpAny_ite ?_)))
 split
 ·(first | exact wpAny_bind (wpAny_pure (wpAny_pure (And.intro rfl h0))) | exact wpAny_pure (And.intro rfl h0))
 ·(first | exact wpAny_bind (bW (wpAny_bind (cy (wpAny_bind (aS h (λit' s' h'=>wpAny_pure (And.intro rfl h')) λ_ _ x=>x))))) | (refine wpAny_bind (bW ?_);show wpAny _ _ (standAt iter.pos >>= _) _ _ s;exact wpAny_bind (cy (wpAny_bind (aS h (λit' s' h'=>wpAny_pure (And.intro rfl h')) λ_ _ x=>x)))))
end
theorem quy (elt:Expr)(gens:List Comprehension)(scope:Scope)(pos:Pos)(env:Env):eval (.SetComp elt gens scope pos) env=comprehension (.SetComp elt gens scope pos) scope env (firstIterPos gens pos) (newSet (.type "set")) (firstAsync gens) (firstIter gens env):=rfl
theorem quu (elt target iter:Expr)(cd:Expr)(scope:Scope)(pos:Pos)(it acc:Value)(env:Env):compTurn (.SetComp elt [⟨target,iter,[cd],0⟩] scope pos) 0 it acc env=(standAt iter.pos >>= λ_=>pyNext it >>= λr=>match r with | none=>pure (.done .next) | some v=>letOwnedTupleGo target it v >>= λ_=>assign target env v >>= λ_=>(forIn [cd] true λc r=>if r=true then do let ok ←isTrue c env (eval c env);pure (ForInStep.yield ok) else pure (ForInStep.yield r)) >>= λok=>if ok=true then (eval elt env >>= λx=>standAt elt.pos >>= λ_=>call (.builtin "set.add") [acc,x] >>= λ_=>pure ()) >>= λ_=>again (.compLoop (.SetComp elt [⟨target,iter,[cd],0⟩] scope pos) 0 it acc env) else again (.compLoop (.SetComp elt [⟨target,iter,[cd],0⟩] scope pos) 0 it acc env)):=by rfl
section
variable {X:Cx}{pins:List (Addr×Obj)}{σ:St}{H:Hp}{s2:Ab}{scope:Scope}{cl:List (Str×Addr)}{x:Str}{M:List Nat}{fp:List Addr}{C:Addr}{h1:Heap}{tk:Nat}
theorem Inv.compO {oo:HO}(I:Inv X pins σ H s2)(hc:CapAll X.env cl)(hh:HasAll cl scope.names)(hm:CapIx X scope cl M)(hk:scope.kind=.function)(hC:s2.heap.objs.size<C)
  (keep:∀b o,s2.heap.get? b=some o→h1.get? b=some o) (hn:h1.Ns C λ_=>none) (hD:ObjOk X.prog X.w (upd H s2.heap.objs.size oo) h1 s2.heap.objs.size oo)
  (hfp:∀b∈fp,zr X pins H b) (hob:∀b∈fp,∃o,s2.heap.get? b=some o) :
  Inv (zq X scope cl x M C s2 H fp (X.pn++pins)) [] (x9 M σ none) (upd H s2.heap.objs.size oo) { s2 with heap:=h1,toks:=tk }:=I.compG (xs:=[x]) hc hh hm hk hC keep hn hD hfp hob
end
section
variable {X:Cx}{pins:List (Addr×Obj)}{σ:St}{H:Hp}{s2:Ab}{scope:Scope}{cl:List (Str×Addr)}{x y:Str}{M:List Nat}{fp:List Addr}{C:Addr}{h1:Heap}{tk:Nat}
theorem Inv.comp2O {oo:HO}(I:Inv X pins σ H s2)(hc:CapAll X.env cl)(hh:HasAll cl scope.names)(hm:CapIx X scope cl M)(hk:scope.kind=.function)(hC:s2.heap.objs.size<C)
  (keep:∀b o,s2.heap.get? b=some o→h1.get? b=some o) (hn:h1.Ns C λ_=>none) (hD:ObjOk X.prog X.w (upd H s2.heap.objs.size oo) h1 s2.heap.objs.size oo)
  (hfp:∀b∈fp,zr X pins H b) (hob:∀b∈fp,∃o,s2.heap.get? b=some o) :
  Inv (xn X scope cl x y M C s2 H fp (X.pn++pins)) [] (xt M σ none none) (upd H s2.heap.objs.size oo) { s2 with heap:=h1,toks:=tk }:=I.compG (xs:=[x,y]) hc hh hm hk hC keep hn hD hfp hob
end
section
variable {Y:Cx}{elt cd:Expr}{te:TE}{tt:TT}{c:Code}{p:Addr}{σ:St}{H:Hp}{pins:List (Addr×Obj)}{s:Ab}
def addS (elt:Expr)(acc:Value)(env:Env)(c:Code):Sem PySem.Fin:=(eval elt env >>= λx=>standAt elt.pos >>= λ_=>call (.builtin "set.add") [acc,x] >>= λ_=>pure ()) >>= λ_=>again c
theorem qu8 {ys:List (Int×Value)}{add:qw4}{N:List (Int×Value)→Hp→Prop}(he:PE Y elt te)(ha:W7 Y add)(J:Inv Y pins σ H s)(h:te σ H λy H5=>H5 p=some (j5 Y.w p ys)∧add p ys y H5 N) :
  wpAny (model Y.prog Y.w) Y.A (addS elt (.ref p) Y.env c) (λr s5=>r=Fin.again c∧∃H5,Inv Y pins σ H5 s5∧∃zs,N zs H5) Y.xe s:=by
 refine wpAny_bind (wpAny_bind (aS (he _ s _ H _ J h) (λyv s7 hr7=>?_) λ_ _ z=>z))
 obtain ⟨y,H4,J7,ry,hp4,hadd⟩:=hr7
 refine wpAny_bind (cy (wpAny_bind (aS (ha _ s7 _ H4 p ys y yv _ J7 ry hp4 hadd) (λ_ s8 hr8=>?_) λ_ _ z=>z)))
 obtain ⟨zs,H8,J8,n8⟩:=hr8
 exact wpAny_pure (wpAny_pure ⟨rfl,_,J8,zs,n8⟩)
end
section
variable {X:Cx}{elt iter cd tg:Expr}{x y2:Str}{px pos:Pos}{scope:Scope}{cl:List (Str×Addr)}{M:List Nat}{wi:TI}{te:TE}{tt:TT}{gg:TG}{add:qw4}{pins:List (Addr×Obj)}{σ:St}
theorem qx5 (hclos:closureFor scope X.env=pure cl)(hhas:HasAll cl scope.names)(hk:scope.kind=.function)
  (hnames:∀y∈scope.names,y.2=.local→scope.names.lookup y.1=some .local) (hi:PI X tg iter wi) (hs:∀z,foldedSetIterable iter X.env z=pure z)
  {use:Option (Value→Sem Unit)} {QQ:Value→Ab→Prop} {s:Ab} {H:Hp} {ps:Pos} {R:It→Hp→Prop} (I:Inv X pins σ H s) (h:wi σ H R)
  (go:∀(it:Addr) (fp:List Addr) (tn:Nat→Heap→Prop) (J:It) (H1:Hp) (s2:Ab) (C:Addr) (h3:Heap) (tk:Nat),Inv X pins σ H1 s2→Turn X.prog X.w X.K tg J fp it tn→tn 0 h3→(∀b∈fp,zr X pins H1 b)→(∀b∈fp,b<s2.heap.objs.size)→(∀b∈fp,∃o,s2.heap.get? b=some o)→R J H1→s2.heap.objs.size<C →
   (∀b o,s2.heap.get? b=some o→h3.get? b=some o)→(h3.Ns C λ_=>none)→h3.get? s2.heap.objs.size=some { cls:=.type "set",dict:=none,data:=.set #[] 0 (.fresh 0 0 (!byT X.w)) } →
   codeAny (model X.prog X.w) X.A (.compLoop (.SetComp elt [⟨tg,iter,[cd],0⟩] scope pos) 0 (.ref it) (.ref s2.heap.objs.size) (compEnvC scope cl C X.env)) (compPost (model X.prog X.w) X.A X.xe use QQ (.ref s2.heap.objs.size) C) { s2 with heap:=h3,toks:=tk }) :
  wpAny (model X.prog X.w) X.A (comprehension (.SetComp elt [⟨tg,iter,[cd],0⟩] scope pos) scope X.env ps (newSet (.type "set")) false (eval iter X.env) use) QQ X.xe s:=by
 refine eK (use:=use) rfl hs hclos hk hnames ?_
 refine thn (hi pins s σ H _ I h) λv s1 h1=>thn h1 λitv s2 h2=>?_
 obtain ⟨it,fp,tn,J,H1,rfl,I2,T,t0,hfp,hR⟩:=h2
 refine wkp ?_
 refine fT hhas.nocell (by intro y hy;cases hy) (λh3 hns hsb=>?_) hk
 dsimp only at hns hsb ⊢
 generalize hH2:s2.heap.push { cls:=.type "set",dict:=none,data:=.set #[] 0 (.fresh 0 0 (!byT X.w)) }=G2 at hns hsb ⊢
 have hC:G2.objs.size=s2.heap.objs.size+1:=by rw [←hH2,bw]
 have hlt:s2.heap.objs.size<G2.objs.size:=by omega
 have keep:∀b o,s2.heap.get? b=some o→h3.get? b=some o:=λb o e=>by
  rw [hsb.2 b (ar (aR (af e) hlt))]
  exact Heap.get?_push_of_some _ (hH2▸Heap.get?_push_of_some _ e)
 have hD:h3.get? s2.heap.objs.size=some { cls:=.type "set",dict:=none,data:=.set #[] 0 (.fresh 0 0 (!byT X.w)) }:=by
  rw [hsb.2 _ (ar hlt)]
  exact Heap.get?_push_of_some _ (hH2▸ak _ rfl)
 have t3:=T.keep 0 _ _ t0 λb _ o e=>keep b o e
 have loop:=λtk=>go it fp tn J H1 s2 G2.objs.size h3 tk I2 T t3 hfp (λb hb=>let ⟨o,e,_⟩:=T.obj 0 _ t0 b hb;af e) (λb hb=>let ⟨o,e,_⟩:=T.obj 0 _ t0 b hb;⟨o,e⟩) hR hlt keep hns hD
 exact wkn (loop _) (T.self _ 0 _ _ _ t3 (loop _))
end
def qjn (J:It)(M:List Nat)(tt:TT)(te:TE)(w:World)(add:qw4)(σ:St)(H1:Hp)(Q:VK):Prop:=∀p,H1 p=none→∃W:Nat→Nat→List (Int×Value)→Hp→Prop,(∃m,W 0 m [] (upd H1 p (j5 w p []))) ∧
 ∀i m ys H2,W i m ys H2→H2 p=some (j5 w p ys)∧((J.stop i H2∧Q (.ref p) H2)∨(J.go i H2∧∀v H3,J.yld i H2 v H3 →
  tt (x9 M σ (some v)) H3 λb H4=>if b=true then te (x9 M σ (some v)) H4 (λy H5=>H5 p=some (j5 w p ys)∧add p ys y H5 λzs H6=>∃m',m'<m∧W (i+1) m' zs H6) else H4 p=some (j5 w p ys)∧∃m',m'<m∧W (i+1) m' ys H4))
def tSetI (M:List Nat)(wi:TI)(tt:TT)(te:TE)(w:World)(add:qw4):TE:=λσ H Q=>wi σ H λJ H1=>qjn J M tt te w add σ H1 Q
section
variable {X:Cx}{elt iter cd:Expr}{x:Str}{px pos:Pos}{scope:Scope}{cl:List (Str×Addr)}{M:List Nat}{wi:TI}{tt:TT}{te:TE}{add:qw4}
theorem wxj (hc:X.calm=true)(hclos:closureFor scope X.env=pure cl)(hcap:CapAll X.env cl)(hhas:HasAll cl scope.names)(hix:CapIx X scope cl M)(hk:scope.kind=.function)
  (hnames:∀y∈scope.names,y.2=.local→scope.names.lookup y.1=some .local) (hx:scope.names.lookup x=some .local) (hnd:(j4 X x M).Nodup) (hi:PI X (.Name x px) iter wi)
  (ht:∀C s2 H2 fp pn,PT (zq X scope cl x M C s2 H2 fp pn) cd tt) (he:∀C s2 H2 fp pn,PE (zq X scope cl x M C s2 H2 fp pn) elt te) (ha:∀C s2 H2 fp pn,W7 (zq X scope cl x M C s2 H2 fp pn) add) (hs:∀z,foldedSetIterable iter X.env z=pure z)
  {use:Option (Value→Sem Unit)} {QQ:Value→Ab→Prop} {pins:List (Addr×Obj)} {s:Ab} {σ:St} {H:Hp} {Q:VK} {ps:Pos} (I:Inv X pins σ H s) (h:wi σ H λJ H1=>qjn J M tt te X.w add σ H1 Q)
  (fin:∀(C:Addr) (s2 s4:Ab) (H1 H2:Hp) (fp:List Addr),Inv X pins σ H1 s2→s2.heap.objs.size<C→(∀b∈fp,zr X pins H1 b)→Inv (zq X scope cl x M C s2 H1 fp (X.pn++pins)) [] (x9 M σ none) H2 s4→Q (.ref s2.heap.objs.size) H2 →
   compPost (model X.prog X.w) X.A X.xe use QQ (.ref s2.heap.objs.size) C (.ok .next) s4) :
  wpAny (model X.prog X.w) X.A (comprehension (.SetComp elt [⟨.Name x px,iter,[cd],0⟩] scope pos) scope X.env ps (newSet (.type "set")) false (eval iter X.env) use) QQ X.xe s:=by
 refine qx5 hclos hhas hk hnames hi hs I h λit fp tn J H1 s2 C h3 tk I2 T t3 hfp hbl hob hR hlt keep hns hD=>?_
 obtain ⟨W,⟨m0,w0⟩,hW⟩:=hR s2.heap.objs.size (I2.hok.fresh (Nat.le_refl _))
 have hxl:(relabel scope X.env).names.lookup x=some .local:=dv hx
 refine kj (Y:=zq X scope cl x M C s2 H1 fp (X.pn++pins)) (V:=λi n H2=>∃ys,W i n ys H2) (Qd:=Q (.ref s2.heap.objs.size)) (REST:=tstS cd (compEnvC scope cl C X.env) (addS elt (.ref s2.heap.objs.size) (compEnvC scope cl C X.env) _) (again _)) T hc (λ_ _ z=>z) (quu ..) rfl rfl (wn (i:=0) hnd rfl (.inl hxl) (.inr hxl)) (Zp hcap I2 hlt hfp hbl) (λi n H2 ⟨ys,w⟩=>?_) (λH2 s4 J4 q=>fin C s2 s4 H1 H2 fp I2 hlt hfp J4 q) (I2.compO hcap hhas hix hk hlt keep hns (qqn (wzw hD)) hfp hob) ⟨[],w0⟩ t3 λb hb=>by rw [qr (ar (hbl b hb))];exact (hfp b hb).1
 obtain ⟨hp,hcase⟩:=hW i n ys H2 w
 refine hcase.imp id λ⟨hgo,hy⟩=>⟨hgo,λv H3 yl=>⟨λσ4 H4=>σ4=x9 M σ (some v)∧H3=H4,⟨rfl,rfl⟩,λ_ _ e=>?_⟩⟩
 obtain ⟨rfl,rfl⟩:=e
 refine ⟨yj M σ v,λpins' s' J=>?_⟩
 exact Zk (ht _ _ _ _ _) J (hy v H3 yl) (λs6 H6 J6 h6=>aS (qu8 (N:=λzs H5=>∃m',m'<n∧W (i+1) m' zs H5) (he _ _ _ _ _) (ha _ _ _ _ _) J6 h6) (λr s5 ⟨e,H5,J5,zs,m',hm,w'⟩=>⟨e,H5,J5,m',hm,zs,w'⟩) λ_ _ z=>z)
  λs6 H6 J6 ⟨_,m',hm,w'⟩=>wpAny_pure ⟨rfl,H6,J6,m',hm,ys,w'⟩
theorem xzw (hc:X.calm=true)(hclos:closureFor scope X.env=pure cl)(hcap:CapAll X.env cl)(hhas:HasAll cl scope.names)(hix:CapIx X scope cl M)(hk:scope.kind=.function)
  (hnames:∀y∈scope.names,y.2=.local→scope.names.lookup y.1=some .local) (hx:scope.names.lookup x=some .local) (hnd:(j4 X x M).Nodup) (hi:PI X (.Name x px) iter wi)
  (ht:∀C s2 H2 fp pn,PT (zq X scope cl x M C s2 H2 fp pn) cd tt) (he:∀C s2 H2 fp pn,PE (zq X scope cl x M C s2 H2 fp pn) elt te) (ha:∀C s2 H2 fp pn,W7 (zq X scope cl x M C s2 H2 fp pn) add) (hs:∀z,foldedSetIterable iter X.env z=pure z:=by intro _;rfl) :
  PE X (.SetComp elt [⟨.Name x px,iter,[cd],0⟩] scope pos) (tSetI M wi tt te X.w add):=by
 intro pins s σ H Q I h
 rw [quy]
 refine wxj hc hclos hcap hhas hix hk hnames hx hnd hi ht he ha hs (use:=none) I h λC s2 s4 H1 H2 fp I2 hlt hfp J4 hq=>?_
 obtain ⟨m,hn,_⟩:=J4.loc
 exact ⟨m,hn,λh' hs'=>⟨.ref s2.heap.objs.size,H2,I2.uncomp (Nat.le_of_lt hlt) hfp J4 hs',rfl,hq⟩⟩
end
def qq5 (J:It)(M:List Nat)(gg:TG)(tt:TT)(te:TE)(w:World)(add:qw4)(σ:St)(H1:Hp)(Q:VK):Prop:=∀p,H1 p=none→∃W:Nat→Nat→List (Int×Value)→Hp→Prop,(∃m,W 0 m [] (upd H1 p (j5 w p []))) ∧
 ∀i m ys H2,W i m ys H2→H2 p=some (j5 w p ys)∧((J.stop i H2∧Q (.ref p) H2)∨(J.go i H2∧∀v H3,J.yld i H2 v H3 →
  gg v (xt M σ none none) H3 λσ4 H4=>(∃a b,σ4=xt M σ (some a) (some b))∧tt σ4 H4 λb H4=>if b=true then te σ4 H4 (λy H5=>H5 p=some (j5 w p ys)∧add p ys y H5 λzs H6=>∃m',m'<m∧W (i+1) m' zs H6) else H4 p=some (j5 w p ys)∧∃m',m'<m∧W (i+1) m' ys H4))
def tSetPI (M:List Nat)(wi:TI)(gg:TG)(tt:TT)(te:TE)(w:World)(add:qw4):TE:=λσ H Q=>wi σ H λJ H1=>qq5 J M gg tt te w add σ H1 Q
section
variable {X:Cx}{elt iter tg cd:Expr}{x y2:Str}{pos:Pos}{scope:Scope}{cl:List (Str×Addr)}{M:List Nat}{wi:TI}{gg:TG}{tt:TT}{te:TE}{add:qw4}
theorem qy9 (M:List Nat)(σ:St)(v u:V):(xt M σ none none).length=(xt M σ (some v) (some u)).length∧∀(k:Nat) z,(xt M σ none none)[k]?=some (some z)→(xt M σ (some v) (some u))[k]?=some (some z):=⟨rfl,λk z ez=>by
 match k,ez with
 |0,ez=>cases ez
 |1,ez=>cases ez
 |k+2,ez=>exact ez⟩
theorem qy0 (hc:X.calm=true)(hclos:closureFor scope X.env=pure cl)(hcap:CapAll X.env cl)(hhas:HasAll cl scope.names)(hix:CapIx X scope cl M)(hk:scope.kind=.function)
  (hnames:∀y∈scope.names,y.2=.local→scope.names.lookup y.1=some .local) (hg:∀C s2 H2 fp pn,PG (xn X scope cl x y2 M C s2 H2 fp pn) tg gg) (hi:PI X tg iter wi)
  (ht:∀C s2 H2 fp pn,PT (xn X scope cl x y2 M C s2 H2 fp pn) cd tt) (he:∀C s2 H2 fp pn,PE (xn X scope cl x y2 M C s2 H2 fp pn) elt te) (ha:∀C s2 H2 fp pn,W7 (xn X scope cl x y2 M C s2 H2 fp pn) add) (hs:∀z,foldedSetIterable iter X.env z=pure z)
  {use:Option (Value→Sem Unit)} {QQ:Value→Ab→Prop} {pins:List (Addr×Obj)} {s:Ab} {σ:St} {H:Hp} {Q:VK} {ps:Pos} (I:Inv X pins σ H s) (h:wi σ H λJ H1=>qq5 J M gg tt te X.w add σ H1 Q)
  (fin:∀(C:Addr) (s2 s4:Ab) (H1 H2:Hp) (fp:List Addr),Inv X pins σ H1 s2→s2.heap.objs.size<C→(∀b∈fp,zr X pins H1 b)→Inv (xn X scope cl x y2 M C s2 H1 fp (X.pn++pins)) [] (xt M σ none none) H2 s4→Q (.ref s2.heap.objs.size) H2 →
   compPost (model X.prog X.w) X.A X.xe use QQ (.ref s2.heap.objs.size) C (.ok .next) s4) :
  wpAny (model X.prog X.w) X.A (comprehension (.SetComp elt [⟨tg,iter,[cd],0⟩] scope pos) scope X.env ps (newSet (.type "set")) false (eval iter X.env) use) QQ X.xe s:=by
 refine qx5 hclos hhas hk hnames hi hs I h λit fp tn J H1 s2 C h3 tk I2 T t3 hfp hbl hob hR hlt keep hns hD=>?_
 obtain ⟨W,⟨m0,w0⟩,hW⟩:=hR s2.heap.objs.size (I2.hok.fresh (Nat.le_refl _))
 refine kj (Y:=xn X scope cl x y2 M C s2 H1 fp (X.pn++pins)) (V:=λi n H2=>∃ys,W i n ys H2) (Qd:=Q (.ref s2.heap.objs.size)) (REST:=tstS cd (compEnvC scope cl C X.env) (addS elt (.ref s2.heap.objs.size) (compEnvC scope cl C X.env) _) (again _)) T hc (λ_ _ z=>z) (quu ..) rfl rfl (λpn s σ H v u Q I r hq=>hg C s2 H1 fp (X.pn++pins) pn s σ H v u Q I r hq) (Zp hcap I2 hlt hfp hbl) (λi n H2 ⟨ys,w⟩=>?_) (λH2 s4 J4 q=>fin C s2 s4 H1 H2 fp I2 hlt hfp J4 q) (I2.comp2O hcap hhas hix hk hlt keep hns (qqn (wzw hD)) hfp hob) ⟨[],w0⟩ t3 λb hb=>by rw [qr (ar (hbl b hb))];exact (hfp b hb).1
 obtain ⟨hp,hcase⟩:=hW i n ys H2 w
 refine hcase.imp id λ⟨hgo,hy⟩=>⟨hgo,λv H3 yl=>?_⟩
 refine ⟨_,hy v H3 yl,λσ4 H4 hz=>?_⟩
 obtain ⟨⟨a,b,rfl⟩,hte⟩:=hz
 refine ⟨qy9 M σ a b,λpins' s' J=>?_⟩
 exact Zk (ht _ _ _ _ _) J hte (λs6 H6 J6 h6=>aS (qu8 (N:=λzs H5=>∃m',m'<n∧W (i+1) m' zs H5) (he _ _ _ _ _) (ha _ _ _ _ _) J6 h6) (λr s5 ⟨e,H5,J5,zs,m',hm,w'⟩=>⟨e,H5,J5,m',hm,zs,w'⟩) λ_ _ z=>z)
  λs6 H6 J6 ⟨_,m',hm,w'⟩=>wpAny_pure ⟨rfl,H6,J6,m',hm,ys,w'⟩
theorem wyf (hc:X.calm=true)(hclos:closureFor scope X.env=pure cl)(hcap:CapAll X.env cl)(hhas:HasAll cl scope.names)(hix:CapIx X scope cl M)(hk:scope.kind=.function)
  (hnames:∀y∈scope.names,y.2=.local→scope.names.lookup y.1=some .local) (hg:∀C s2 H2 fp pn,PG (xn X scope cl x y2 M C s2 H2 fp pn) tg gg) (hi:PI X tg iter wi)
  (ht:∀C s2 H2 fp pn,PT (xn X scope cl x y2 M C s2 H2 fp pn) cd tt) (he:∀C s2 H2 fp pn,PE (xn X scope cl x y2 M C s2 H2 fp pn) elt te) (ha:∀C s2 H2 fp pn,W7 (xn X scope cl x y2 M C s2 H2 fp pn) add) (hs:∀z,foldedSetIterable iter X.env z=pure z:=by intro _;rfl) :
  PE X (.SetComp elt [⟨tg,iter,[cd],0⟩] scope pos) (tSetPI M wi gg tt te X.w add):=by
 intro pins s σ H Q I h
 rw [quy]
 refine qy0 hc hclos hcap hhas hix hk hnames hg hi ht he ha hs (use:=none) I h λC s2 s4 H1 H2 fp I2 hlt hfp J4 hq=>?_
 obtain ⟨m,hn,_⟩:=J4.loc
 exact ⟨m,hn,λh' hs'=>⟨.ref s2.heap.objs.size,H2,I2.uncomp2 (Nat.le_of_lt hlt) hfp J4 hs',rfl,hq⟩⟩
end
end L2
namespace L2
open PySem PySem.Spec PySem.Calls PyProof.Rows
theorem wkz {P:Ac}{w:World}{K:Aa}{M:List Nat}{q:Addr}{us:List V}{tt:TT}{te:TE}{σ:St}{H:Hp}{Q:VK}(L:List (List Int))(c:List Int→Bool)(hq:SqL K H q us)(hL:Tups L us H)(hn:L.length<1099)
  (ht:∀(xs:List Int) (a:Addr) (H':Hp) (R:Bool→Hp→Prop),xs∈L→H' a=some (.tup (xs.map V.int))→Same H H'→(∀H'',Same H' H''→R (c xs) H'')→tt (x9 M σ (some (.ref a))) H' R)
  (he:∀(a:Addr) (H':Hp) (R:VK),R (.ref a) H'→te (x9 M σ (some (.ref a))) H' R)
  (k:∀p ps H' L',H p=none→Same H H'→H' p=some (j5 w p ps)→PsT P w H' ps L'→L'.Nodup→(∀xs,xs∈L'↔(xs∈L∧c xs=true))→L'.length≤L.length→Q (.ref p) H'):qjn (Itl K q) M tt te w (addT P w) σ H Q:=by
 intro p np
 have ul:=hL.len
 refine ⟨λi m ps H2=>i≤L.length∧m=L.length-i∧Same H H2∧H2 p=some (j5 w p ps)∧∃L',PsT P w H2 ps L'∧L'.Nodup∧L'.length≤i∧∀xs,xs∈L'↔(xs∈L.take i∧c xs=true),⟨L.length,aN _,rfl,Same.upd np,qb,[],.nil,List.nodup_nil,Nat.le_refl _,λxs=>by simp⟩,?_⟩
 rintro i m ps H2 ⟨hi,rfl,sm,hp,L',hT,hN,hl,hM⟩
 refine ⟨hp,?_⟩
 have hq2:SqL K H2 q us:=sm.sql hq
 by_cases hlt:i<L.length
 ·have hu:us[i]?=some us[i]:=aa (by omega)
  obtain ⟨a,xs,ea,ex,fa⟩:=hL.get hu
  refine .inr ⟨⟨us,_,hq2,hu⟩,?_⟩
  rintro v H3 ⟨rfl,hv⟩
  have e:=hv us hq2
  rw [hu] at e
  have e':=aj e
  subst e'
  rw [ea]
  have tk:L.take (i+1)=L.take i++[xs]:=by rw [cC,ex];rfl
  refine ht xs a _ _ (aA ex) (sm _ _ fa) sm λH4 s4=>?_
  have hT4:PsT P w H4 ps L':=hT.keep λb ys e=>s4 _ _ e
  have f4:H4 a=some (.tup (xs.map V.int)):=s4 _ _ (sm _ _ fa)
  cases hc:c xs with
  |true =>
   refine yu ?_
   refine he a H4 _ ⟨s4 _ _ hp,a,xs,L',rfl,f4,hT4,by rw [hT.len];omega,λz=>?_,λz ps' pm=>?_⟩
   ·refine ⟨L.length-(i+1),by omega,by omega,rfl,sm.trans s4,s4 _ _ hp,L',hT4,hN,by omega,λys=>?_⟩
    rw [tk,hM ys]
    constructor
    ·rintro ⟨h1,h2⟩
     exact ⟨bN _ h1,h2⟩
    ·rintro ⟨h1,h2⟩
     rcases aP.mp h1 with h1|h1
     ·exact ⟨h1,h2⟩
     ·rw [aG.mp h1]
      exact (hM xs).mp z
   ·have ne:a≠p:=λz=>by rw [z,s4 _ _ hp] at f4;cases f4
    have base:PsT P w (upd H4 p (j5 w p ps')) (((KD P w).hash (xs.map Sum.inl),.ref a)::ps) (xs::L'):=by
     refine .cons ⟨a,rfl,by rw [qr ne];exact f4⟩ (hT4.keep λb ys e=>?_)
     rw [qr (λz=>by rw [z,s4 _ _ hp] at e;cases e)]
     exact e
    obtain ⟨L2,p2,q2⟩:=Paired.perm pm base
    refine ⟨L.length-(i+1),by omega,by omega,rfl,?_,qb,L2,q2,p2.nodup_iff.mpr (cE.mpr ⟨z,hN⟩),by rw [p2.length_eq,ax];omega,λys=>?_⟩
    ·intro b o e
     rw [qr (q8 e np)]
     exact s4 _ _ (sm _ _ e)
    ·rw [p2.mem_iff,tk,ay,hM ys]
     constructor
     ·rintro (rfl|⟨h1,h2⟩)
      ·exact ⟨aB _ (.head _),hc⟩
      ·exact ⟨bN _ h1,h2⟩
     ·rintro ⟨h1,h2⟩
      rcases aP.mp h1 with h1|h1
      ·exact .inr ⟨h1,h2⟩
      ·exact .inl (aG.mp h1)
  |false =>
   refine js ?_
   refine ⟨s4 _ _ hp,L.length-(i+1),by omega,by omega,rfl,sm.trans s4,s4 _ _ hp,L',hT4,hN,by omega,λys=>?_⟩
   rw [tk,hM ys]
   constructor
   ·rintro ⟨h1,h2⟩
    exact ⟨bN _ h1,h2⟩
   ·rintro ⟨h1,h2⟩
    rcases aP.mp h1 with h1|h1
    ·exact ⟨h1,h2⟩
    ·rw [aG.mp h1,hc] at h2
     cases h2
 ·have:i=L.length:=by omega
  subst this
  refine .inl ⟨⟨us,hq2,by omega⟩,k p ps H2 L' np sm hp hT hN (λxs=>?_) hl⟩
  rw [hM xs,List.take_length]
theorem wq1 {P:Ac}{w:World}{K:Aa}{J:It}{M:List Nat}{tt:TT}{te:TE}{σ:St}{H:Hp}{Q:VK}(n:Nat)(pr:Nat→V×V)(c:Nat→Bool)(f:Nat→Int)(bd:Nat)(hbd:∀i,i<n→0≤f i∧f i<bd)(hb:bd<1000)
  (hgo:∀i H',i<n→Same H H'→J.go i H') (hst:∀H',Same H H'→J.stop n H') (hy:∀i H2 v H3,i<n→Same H H2→J.yld i H2 v H3→Same H2 H3∧∃a,v=.ref a∧SqT K H3 a [(pr i).1,(pr i).2])
  (ht:∀(i:Nat) (H':Hp) (R:Bool→Hp→Prop),i<n→Same H H'→(∀H'',Same H' H''→R (c i) H'')→tt (xt M σ (some (pr i).1) (some (pr i).2)) H' R)
  (he:∀(i:Nat) (H':Hp) (R:VK),i<n→c i=true→Same H H'→(∀H'',Same H' H''→R (.int (f i)) H'')→te (xt M σ (some (pr i).1) (some (pr i).2)) H' R)
  (k:∀p ps H' ns,H p=none→Same H H'→H' p=some (j5 w p ps)→PsI P w ps ns→ns.Nodup→(∀v,v∈ns↔∃i,i<n∧c i=true∧f i=v)→Q (.ref p) H') :
  qq5 J M (gTup K 2 (xqy (Q3 0) (xqy (Q3 1) gNil))) tt te w (addI P w) σ H Q:=by
 intro p np
 refine ⟨λi m ps H2=>i≤n∧m=n-i∧Same H H2∧H2 p=some (j5 w p ps)∧∃ns,PsI P w ps ns∧ns.Nodup∧∀v,v∈ns↔∃j,j<i∧c j=true∧f j=v,⟨n,aN _,rfl,Same.upd np,qb,[],.nil,List.nodup_nil,λv=>by simp⟩,?_⟩
 rintro i m ps H2 ⟨hi,rfl,sm,hp,ns,hT,hN,hM⟩
 refine ⟨hp,?_⟩
 by_cases hlt:i<n
 ·refine .inr ⟨hgo i H2 hlt sm,λv H3 yl=>?_⟩
  obtain ⟨s3,a,rfl,hq⟩:=hy i H2 v H3 hlt sm yl
  refine ⟨a,_,rfl,hq,rfl,_,_,rfl,_,_,rfl,rfl,⟨_,_,rfl⟩,?_⟩
  refine ht i _ _ hlt (sm.trans s3) λH4 s4=>?_
  cases hc:c i with
  |true =>
   refine yu ?_
   refine he i _ _ hlt hc ((sm.trans s3).trans s4) λH5 s5=>⟨s5 _ _ (s4 _ _ (s3 _ _ hp)),f i,ns,rfl,hT,?_,λz=>?_,λz ps' t pm=>?_⟩
   ·
    rw [hT.len]
    have:=qxp (ns.map Int.toNat) (List.range bd) ?_ λv hv=>?_
    ·rw [List.length_map,List.length_range] at this
     omega
    ·refine bu.mpr (aY (λ{x y} hx hy hxy z=>?_) hN)
     obtain ⟨j1,h1,_,rfl⟩:=(hM x).mp hx
     obtain ⟨j2,h2,_,rfl⟩:=(hM y).mp hy
     have a1:=hbd j1 (by omega)
     have a2:=hbd j2 (by omega)
     exact hxy (by omega)
    ·obtain ⟨x,hx,rfl⟩:=aH.mp hv
     obtain ⟨j1,h1,_,rfl⟩:=(hM x).mp hx
     have a1:=hbd j1 (by omega)
     exact am.mpr (by omega)
   ·refine ⟨n-(i+1),by omega,by omega,rfl,((sm.trans s3).trans s4).trans s5,s5 _ _ (s4 _ _ (s3 _ _ hp)),ns,hT,hN,λv=>?_⟩
    rw [hM v]
    constructor
    ·rintro ⟨j,h1,h2⟩
     exact ⟨j,by omega,h2⟩
    ·rintro ⟨j,h1,h2,h3⟩
     by_cases cj:j=i
     ·subst cj
      rw [←h3]
      exact (hM _).mp z
     ·exact ⟨j,by omega,h2,h3⟩
   ·have base:PsI P w (((intKind P w).hash (f i),.int (f i) t)::ps) (f i::ns):=.cons ⟨t,rfl⟩ hT
    obtain ⟨L2,p2,q2⟩:=Paired.perm pm base
    refine ⟨n-(i+1),by omega,by omega,rfl,?_,qb,L2,q2,p2.nodup_iff.mpr (cE.mpr ⟨z,hN⟩),λv=>?_⟩
    ·intro b o e
     rw [qr (q8 e np)]
     exact s5 _ _ (s4 _ _ (s3 _ _ (sm _ _ e)))
    ·rw [p2.mem_iff,ay,hM v]
     constructor
     ·rintro (rfl|⟨j,h1,h2⟩)
      ·exact ⟨i,by omega,hc,rfl⟩
      ·exact ⟨j,by omega,h2⟩
     ·rintro ⟨j,h1,h2,h3⟩
      by_cases cj:j=i
      ·subst cj
       exact .inl h3.symm
      ·exact .inr ⟨j,by omega,h2,h3⟩
  |false =>
   refine js ?_
   refine ⟨s4 _ _ (s3 _ _ hp),n-(i+1),by omega,by omega,rfl,(sm.trans s3).trans s4,s4 _ _ (s3 _ _ hp),ns,hT,hN,λv=>?_⟩
   rw [hM v]
   constructor
   ·rintro ⟨j,h1,h2⟩
    exact ⟨j,by omega,h2⟩
   ·rintro ⟨j,h1,h2,h3⟩
    by_cases cj:j=i
    ·subst cj
     rw [hc] at h2
     cases h2
    ·exact ⟨j,by omega,h2,h3⟩
 ·have:i=n:=by omega
  subst this
  exact .inl ⟨hst H2 sm,k p ps H2 ns np sm hp hT hN hM⟩
end L2
namespace L2
open PySem PySem.Spec PySem.Calls PySem.W PyProof.Rows
def BMain (mg:Str→Option Value)(h:Heap):Prop:=∃bm ob,mg "__builtins__" = some (.ref bm)∧bm≠builtinsNs∧h.get? bm=some ob∧ob.cls=.type "module" ∧ ob.dict=some builtinsNs∧ob.data=.plain
theorem BMain.kept {mg:Str→Option Value}{h h':Heap}(b:BMain mg h)(k:∀b o,h.get? b=some o→h'.get? b=some o):BMain mg h' :=
 let ⟨bm,ob,h1,h2,h3,r⟩:=b;⟨bm,ob,h1,h2,k _ _ h3,r⟩
section
variable {P:Ac}{w:World}{K:Aa}{mg mb:Str→Option Value}{CX:CXT}{k:Nat}{fa a c T:Addr}{fd:Ad}{x:Str}{sp:Sp}{s₁:Ab}{vs:List Value}{ns:List Int}
theorem wk9 (KX:K.In s₁.heap)(hns:s₁.heap.Ns mainGlobals mg)(hb:s₁.heap.Ns builtinsNs mb)(hbb:∀x:Str,x ≠ "__name__" → mb x=bootBuiltins x)(hlim:s₁.heap.NoLimit)(hg:s₁.gens=#[])(hbm:BMain mg s₁.heap)
  (hT:s₁.heap.get? T=some (tabObj #[])) (hC:CodeHd s₁.heap c T) (hKT:K.lookup T=none)
  (ha:s₁.heap.get? a=some { cls:=.type "list",data:=.seq vs.toArray }) (hi:IntsAre vs ns) (hl:ns.length≤sizeLine) (hr:Room k callerA)
  (F:∀base:Heap,K.In base→base.Ns mainGlobals mg→BMain mg base→FnOk P w K mg base CX k fa fd [x] sp) (hbind:∀(s:Ab) (u:Value),BindsTo s fd ⟨[u],[]⟩ [(x,u)])
  (hsp:∀H:Hp,H T=some (.tbl #[])→SqL K H a (ns.map V.int)→sp [.ref a] H (λv _=>v=.bl true) λ_ _ _=>False)
  (hCX:∀H e s',CX [] H s₁ (λ_ _ _=>False) e s'→False) :
  codeAny (model P w) callerA (.call (.ref fa) ⟨[.ref a],[]⟩) (λr s'=>r=.ok (.ret (.bool true))∧OldK s₁.heap s'.heap∧s'.os=s₁.os∧AllBare s'.gens) s₁:=by
 have rv:=Yz hi
 have lenV:=hi.length
 have hne:a≠T:=λz=>by rw [z,hT] at ha;cases ha
 have core:∀H:Hp,H T=some (.tbl #[])→(∀b,b≠T→H b=none∨∃o xs,H b=some (.frz o (.lst xs)))→SqL K H a (ns.map V.int)→HOk P w H s₁.heap→(∀b,H b≠none→b=a∨b=T)→(H a≠none→K.lookup a=none) →
   codeAny (model P w) callerA (.call (.ref fa) ⟨[.ref a],[]⟩) (λr s'=>r=.ok (.ret (.bool true))∧OldK s₁.heap s'.heap∧s'.os=s₁.os∧AllBare s'.gens) s₁:=by
  intro H hHT hO hS hok hA hK
  have base_of:∀ {b:Addr} {o:Obj},s₁.heap.get? b=some o→H b=none→(qzz s₁.heap H).get? b=some o:=λe n=>wyj e n
  have apart:∀ {b:Addr} {o:Obj},s₁.heap.get? b=some o→o.cls≠.none→(∀its n,o.data≠.seq its n)→H b=none:=λ{b o} e d1 d2=>by
   cases q:H b with
   |none=>rfl
   |some u =>
    rcases hA b (by rw [q];simp) with z|z
    ·subst z
     rw [ha] at e;cases e
     exact absurd rfl (d2 _ _)
    ·subst z
     rw [hT] at e;cases e
     exact absurd rfl d1
  have noD:∀ {b:Addr} {o:Obj} {es:Array DictEntry} {ep:Nat},s₁.heap.get? b=some o→o.data=.dict es ep→H b=none:=λ{b o es ep} e d=>by
   cases q:H b with
   |none=>rfl
   |some u =>
    rcases hA b (by rw [q];simp) with z|z
    ·subst z
     rw [ha] at e;cases e
     have d':Data.seq vs.toArray _=Data.dict es ep:=d
     cases d'
    ·subst z
     rw [hT] at e;cases e
     have d':Data.fields #[]=Data.dict es ep:=d
     cases d'
  have nsK:∀ {b:Addr} {m:Str→Option Value},s₁.heap.Ns b m→(qzz s₁.heap H).Ns b m:=λ{b m} ⟨o,es,ep,e,d,r⟩=>⟨o,es,ep,base_of e (noD e d),d,r⟩
  have hKb:K.In (qzz s₁.heap H):=λb o e=>base_of (KX b o e) (by
   cases q:H b with
   |none=>rfl
   |some u =>
    rcases hA b (by rw [q];simp) with z|z
    ·subst z
     rw [hK (by rw [q];simp)] at e;cases e
    ·subst z
     rw [hKT] at e;cases e)
  have hBM:BMain mg (qzz s₁.heap H):=by
   obtain ⟨bm,ob,b1,b2,b3,b4,b5,b6⟩:=hbm
   exact ⟨bm,ob,b1,b2,base_of b3 (apart b3 (by rw [b4];exact λz=>by cases z) (λits n z=>by rw [b6] at z;cases z)),b4,b5,b6⟩
  have hM:Mod K mg (qzz s₁.heap H):=⟨hKb,nsK hns,⟨mb,nsK hb,hbb⟩,let ⟨mc,h1,h2⟩:=hlim;⟨mc,nsK h1,h2⟩⟩
  have e0:Env0 P w K mg (qzz s₁.heap H) callerA [] s₁ H:=⟨rfl,hM,λb o e=>xzj e,Nat.le_of_eq (wk5 _ _),trivial,λb hb=>absurd (show b∈([]:List Addr) from hb) (by simp),hok,.of_eq hg⟩
  refine du ((F _ hKb (nsK hns) hBM).run callerA [] s₁ H ⟨[.ref a],[]⟩ [.ref a] [.ref a] _ _ hr e0 (hbind s₁ (.ref a)) (.cons rfl .nil) (hsp H hHT hS)) λr s' h=>?_
  cases r with
  |error e=>exact (hCX H e s' h).elim
  |ok fl =>
   cases fl with
   |next=>exact False.elim h
   |brk=>exact False.elim h
   |cont=>exact False.elim h
   |ret u =>
    obtain ⟨v,H',os,bare,un,hok',r',q⟩:=h
    have q':v=.bl true:=q
    subst q'
    obtain rfl:u=Value.bool true:=r'
    have keep:∀b o,b≠T→s₁.heap.get? b=some o→s'.heap.get? b=some o:=λb o hb e=>by
     cases q:H b with
     |none=>exact un.keep b o e q (by intro z;exact absurd (show b∈([]:List Addr) from z) (by simp)) (by simp)
     |some u =>
      rcases hO b hb with z|⟨ob,xs,z⟩
      ·rw [q] at z;cases z
      ·have z2:=un.frzs b ob _ z
       obtain ⟨e1,_⟩:=hok b _ z
       obtain ⟨e2,_⟩:=hok' b _ z2
       rw [e] at e1;cases e1
       exact e2
    obtain ⟨more,hm⟩:=un.tbls T _ hHT
    have hT':s'.heap.get? T=some { cls:=.none,data:=.fields (#[]++more) }:=hok' T _ hm
    have isT:isCodeTable s₁.heap T:=let ⟨o,cs,_,_,_,_,_,_,_,e1,e2,e3,e4,_⟩:=hC;⟨c,o,cs,e1,e2,e3,e4⟩
    refine ⟨rfl,⟨λb o e=>?_,λb o e=>?_⟩,os,bare⟩
    ·by_cases hbT:b=T
     ·subst hbT
      rw [hT] at e;cases e
      exact .inr (.inl ⟨isT,rfl,#[],more,rfl,hT'⟩)
     ·exact .inl (keep b o hbT e)
    ·by_cases hbT:b=T
     ·subst hbT
      exact ⟨_,hT'⟩
     ·exact ⟨o,keep b o hbT e⟩
 cases hk:K.lookup a with
 |some o =>
  have e:=KX a o hk
  rw [ha] at e
  cases e
  refine core (λb=>if b=T then some (.tbl #[]) else none) (if_pos rfl) (λb hb=>.inl (if_neg hb)) (.inr ⟨_,vs.toArray,_,hk,rfl,rfl,rfl,by rw [ah,lenV];exact hl,by simpa using rv⟩) (λb u z=>?_) (λb z=>?_) λz=>absurd (if_neg hne) z
  ·by_cases hb:b=T
   ·have z':=(if_pos hb).symm.trans z
    cases z'
    subst hb
    exact hT
   ·have z':=(if_neg hb).symm.trans z
    cases z'
  ·by_cases hb:b=T
   ·exact .inr hb
   ·exact absurd (if_neg hb) z
 |none =>
  refine core (λb=>if b=T then some (.tbl #[]) else if b=a then some (.frz { cls:=.type "list",data:=.seq vs.toArray } (.lst (ns.map V.int))) else none) (if_pos rfl) (λb hb=>?_) (.inl (.inr ⟨{ cls:=.type "list",data:=.seq vs.toArray },(if_neg hne).trans (if_pos rfl)⟩)) (λb u z=>?_) (λb z=>?_) λ_=>hk
  ·by_cases hba:b=a
   ·exact .inr ⟨_,_,(if_neg hb).trans (if_pos hba)⟩
   ·exact .inl ((if_neg hb).trans (if_neg hba))
  ·by_cases hb:b=T
   ·have z':=(if_pos hb).symm.trans z
    cases z'
    subst hb
    exact hT
   ·have z':=(if_neg hb).symm.trans z
    by_cases hba:b=a
    ·have z2:=(if_pos hba).symm.trans z'
     cases z2
     subst hba
     exact ⟨ha,by rw [List.length_map];exact hl,vs,_,rv,ha⟩
    ·have z2:=(if_neg hba).symm.trans z'
     cases z2
  ·by_cases hb:b=T
   ·exact .inr hb
   ·by_cases hba:b=a
    ·exact .inl hba
    ·exact absurd ((if_neg hb).trans (if_neg hba)) z
end
theorem wuq {l:PySem.W.OpenLaw}{n k:Nat}{q:Ac}{loose:List Str}{XP:(Str→Option Value)→Heap→Prop}{YP:World→Heap→Prop}{d:DefRec}{K:Params→Aa}{CX:World→CXT}{sp:World→Sp}{x:Str}{c T:Addr}
  (hn:l.most=some n) (hn2:n≤sizeLine) (hdf:d.params.defaults=[]) (hr:Room k callerA)
  (hY:∀(w:World) (h:Heap),YP w h→(K w.params).In h∧h.get? T=some (tabObj #[])) (hcT:∀p,codeHdIn (K p) c T=true) (hKT:∀p,(K p).lookup T=none)
  (F:∀(w:World) (mg:Str→Option Value) (fa:Addr) (h:Heap),(K w.params).In h→h.Ns mainGlobals mg→mg d.name=some (.ref fa) →
   ∃fd:Ad,(∀(s:Ab) (u:Value),BindsTo s fd ⟨[u],[]⟩ [(x,u)]) ∧
    ∀base:Heap,(K w.params).In base→base.Ns mainGlobals mg→BMain mg base→FnOk l.prog w (K w.params) mg base (CX w) k fa fd [x] (sp w))
  (hsp:∀(w:World) (H:Hp) (a:Addr) (ns:List Int),ns.length≤n→H T=some (.tbl #[])→SqL (K w.params) H a (ns.map V.int)→sp w [.ref a] H (λv _=>v=.bl true) λ_ _ _=>False)
  (hCX:∀(w:World) (H:Hp) (s:Ab) (e:Value) (s':Ab),CX w [] H s (λ_ _ _=>False) e s'→False) :
  PySem.W.WalkO q loose XP YP l.row.toRowW d [] (λf vs=>PySem.call f vs):=by
 refine Att.attach_call hn hdf λw s₀ s₁ mg mb fa o pm cd doc a vs ns G Y ho hd hcd hmg hobj hints hlen hg=>?_
 obtain ⟨KX,hT⟩:=hY w _ Y
 obtain ⟨fd,hb,hF⟩:=F w mg fa _ KX G.T.g hmg
 exact wk9 KX G.T.g G.T.b G.T.builtins G.T.nolimit hg G.T.bmain hT (codeHd_of_K KX (hcT _)) (hKT _) hobj hints (bo hlen hn2) hr hF hb (λH hO hS=>hsp w H a ns hlen hO hS) λH e s'=>hCX w H s₁ e s'
end L2
namespace L2
open PySem PySem.Spec PySem.Calls PySem.W PyProof.Rows
def Stb (kz:List Int)(n:Nat)(il:List Nat):Prop:=il.Perm (List.range n)∧il.Pairwise λi j=>kz.getD i 0<kz.getD j 0∨(kz.getD i 0=kz.getD j 0∧i<j)
section
variable {prog:Ac}{w:World}{A:Around}{E:Value→Ab→Prop}{s:Ab}{a kS:Addr}{vs ks:List Value}{P:PySem.Fin→Ab→Prop}{f:Value}
end
end L2
namespace L2
open PySem PySem.Spec PySem.Calls PySem.W PyProof.Rows
def wz9 (CX:CXT)(P:Ac)(w:World)(K:Aa)(mg:Str→Option Value)(base:Heap)(N:List Str)(qual:Str)(scope:Scope)(g:Addr)(cd:Value)(cl:List (Str×Addr))(A:Around)(outer:List Env)(s:Ab)(H:Hp)(E:XK):Cx where
 prog:=P
 w:=w
 K:=K
 mg:=mg
 base:=base
 A:=A.deeper (envX qual scope s.heap.objs.size g cd cl)
 N:=N
 s₀:=s
 H₀:=H
 env:=envX qual scope s.heap.objs.size g cd cl
 outer:=outer
 stack:=envX qual scope s.heap.objs.size g cd cl::outer
 ex:=[]
 calm:=true
 fn:=λ_=>false
 pn:=[]
 xe:=λe s'=>wpAny (model P w) (A.deeper (envX qual scope s.heap.objs.size g cd cl)) (leaving (envX qual scope s.heap.objs.size g cd cl) e) (λ_ s''=>CX outer H s E e s'') (λe' s''=>CX outer H s E e' s'') s'
structure LamSc (x y:Str)(sc:Scope):Prop where
 kind:sc.kind=.function
 co:sc.isCoroutine=false
 gen:sc.isGenerator=false
 px:sc.names.lookup x=some .local
 fy:sc.names.lookup y=some .free
 nocell:∀z∈sc.names,z.2≠.cell
 free:∀z,sc.names.lookup z=some .free→z=y
 ne:y≠x
section
variable {CX:CXT}{P:Ac}{w:World}{K:Aa}{mg:Str→Option Value}{base:Heap}{A:Around}{outer:List Env}{s:Ab}{H:Hp}{E:XK}{name qual:Str}{params:Arguments}{body:Expr}{scope:Scope}{pm ctv:Value}{c' g cF:Addr}{x y:Str}{k:Nat}{u uS:Value}{v vS:V}{Q:VK}{t:TE}
theorem xxc (S:LamSc x y scope)(hr:Room (k+1) A)(e0:Env0 P w K mg base A outer s H)(ho:s.heap.get? g=some (kla_obj name qual params body scope [(y,cF)] pm c' ctv))(hcd:s.heap.CodeRec (.ref c') qual)
  (hb:bindArgs (kla_fn name qual params body scope [(y,cF)] pm (.ref c') ctv) ⟨[u],[]⟩=pure [(x,u)]) (hcell:s.heap.IsCell cF (some uS)) (hcF:H cF=none) (rv:RelV v u) (rS:RelV vS uS)
  (hpe:PE (wz9 CX P w K mg base [x,y] qual scope g (.ref c') [(y,cF)] A outer s H E) body t) (ht:t [some v,some vS] H Q) :
  codeAny (model P w) A (.call (.ref g) ⟨[u],[]⟩) (CR CX outer P w H s Q E) s:=by
 have lim:s.heap.NoLimit:=e0.mod.nolimit.keeps λb o e=>(e0.bs b o e).1
 refine kla_callFunE hr.depth ho rfl S.co S.gen rfl hcd ?_
 rw [hb]
 refine wpAny_pure (fT S.nocell (λz hz=>?_) (λh₁ hns hsb=>⟨lim.fresh _ hsb,?_⟩) S.kind)
 ·obtain rfl:=aG.mp hz
  exact S.px
 show codeAny _ _ (.expr body (envX qual scope s.heap.objs.size g (.ref c') [(y,cF)])) _ _
 have hk:∀b o,s.heap.get? b=some o→h₁.get? b=some o:=λb o e=>hsb.extBut b o (ar (af e)) (Heap.get?_push_of_some _ e)
 have one:∀z c,([(y,cF)]:List (Str×Addr)).lookup z=some c→z=y∧c=cF:=λz c e=>by
  rw [be] at e
  by_cases q:(z==y)=true
  ·rw [q] at e
   exact ⟨by simpa using q,(aj e).symm⟩
  ·rw [fH] at q
   rw [q] at e
   cases e
 have oneY:([(y,cF)]:List (Str×Addr)).lookup y=some cF:=by rw [be,dJ]
 have noA:∀b:Addr,b∉(wz9 CX P w K mg base [x,y] qual scope g (.ref c') [(y,cF)] A outer s H E).ex:=λb z=>absurd (show b∈([]:List Addr) from z) (by simp)
 have I:Inv (wz9 CX P w K mg base [x,y] qual scope g (.ref c') [(y,cF)] A outer s H E) [] [some v,some vS] H { s with heap:=h₁,toks:=s.toks+1 }:=by
  refine ⟨⟨e0.mod,S.kind,rfl,rfl,Nat.le_refl _,λa b c h1 h2=>(one a c h1).1.trans (one b c h2).1.symm,λz hz=>?_,λz c hz=>(by cases hz),λ_=>hr.hd,Around.frames_deeper e0.frames,.inr ⟨rfl,rfl⟩,λb z=>absurd z (noA b),e0.bs,e0.bsz,λb _ _=>noA b,λb z=>absurd z (noA b),e0.funs,e0.frf⟩,
   rfl,e0.bare,Un.kept hk,⟨_,hns,λi z a h1 h2 h3=>?_⟩,λz c h=>?_,e0.hok.fresh (Nat.le_refl _),λz c h=>?_,λp hp=>absurd (show p∈([]:List (Addr×Obj)) from hp) (by simp),e0.hok.kept hk,rfl⟩
  ·rcases hz with hz|hz
   ·exact absurd rfl (S.nocell _ (cX hz))
   ·rw [S.free z hz]
    exact ⟨cF,oneY⟩
  ·match i,h1,h2 with
   |0,h1,h2 =>
    obtain rfl:x=z:=aj h1
    obtain rfl:v=a:=aj (aj h2)
    refine ⟨u,rv,.inl ⟨S.px,?_⟩⟩
    show List.lookup x [(x,u)]=some u
    rw [be,dJ]
   |1,h1,h2 =>
    obtain rfl:y=z:=aj h1
    obtain rfl:vS=a:=aj (aj h2)
    exact ⟨uS,rS,.inr ⟨.inr S.fy,cF,oneY,let ⟨o,h1,h2⟩:=hcell;⟨o,hk _ _ h1,h2⟩⟩⟩
   |n+2,h1,_=>cases h1
  ·obtain ⟨rfl,rfl⟩:=one z c h
   exact ⟨_,let ⟨o,h1,h2⟩:=hcell;⟨o,hk _ _ h1,h2⟩⟩
  ·obtain ⟨rfl,rfl⟩:=one z c h
   exact hcF
 refine kla_codeExpr (aS (hpe [] _ [some v,some vS] H _ I ht) (λr s' hs=>?_) λ_ _ h=>h)
 obtain ⟨v',H',J,rv',q⟩:=hs
 exact ⟨v',H',J.os,J.bare,J.base,J.hok,rv',q⟩
end
def qvt (q:Str)(c':Addr):HO:=.ext λh=>h.CodeRec (.ref c') q
def qyk (g:Addr)(ob:Obj):HO:=.ext λh=>h.get? g=some ob
def quf (pos:Pos)(c':Addr):Array Value:=#[rawInt pos.line,rawInt pos.col,.ref c']
def TabAt (T:Addr)(pos:Pos)(q:Str)(c':Addr)(H:Hp):Prop:=H T=some (.tbl (quf pos c'))∧H c'=some (qvt q c')
def Zx (T:Addr)(pos:Pos)(q:Str)(H:Hp):Prop:=H T=some (.tbl #[])∨∃c',TabAt T pos q c' H
def KeepT (T:Addr)(H H':Hp):Prop:=∀b o,b≠T→H b=some o→H' b=some o
theorem wyw {P:Ac}{w:World}{H:Hp}{h:Heap}{c':Addr}{q:Str}(r:h.CodeRec (.ref c') q):ObjOk P w H h c' (qvt q c'):=by
 obtain ⟨c,oc,vs,t,e,ho,hd,hv⟩:=id r
 cases e
 refine ⟨r,⟨oc,ho⟩,λh1 h2 ⟨c,o1,v1,t1,e1,f1,f2,f3⟩ k=>?_⟩
 cases e1
 exact ⟨c',o1,v1,t1,rfl,k _ f1,f2,f3⟩
theorem wz4 {P:Ac}{w:World}{H:Hp}{h:Heap}{g:Addr}{ob:Obj}(e:h.get? g=some ob):ObjOk P w H h g (qyk g ob) :=
 ⟨e,⟨ob,e⟩,λh1 h2 q k=>k _ q⟩
def tLam (T:Addr)(pos:Pos)(q:Str)(ob:Addr→Value→Obj):TE:=λ_ H Q=>Zx T pos q H∧∀(g c':Addr) (ctv:Value) (H':Hp),KeepT T H H'→TabAt T pos q c' H'→H g=none→H' g=some (qyk g (ob c' ctv))→Q (.ref g) H'
section
variable {X:Cx}{params:Arguments}{body:Expr}{scope:Scope}{pos:Pos}{c T:Addr}{clos:List (Str×Addr)}
theorem pe_lam (hB:BMain X.mg X.base)(hcd:X.env.code=.ref c)(hC:codeHdIn X.K c T=true)(hdef:defaultsOf params X.env=([],[]))(hcl:closureFor scope X.env=pure clos) :
  PE X (.Lambda params body scope pos) (tLam T pos (X.env.qual ++ "<lambda>") λc' ctv=>kla_obj "<lambda>" (X.env.qual ++ "<lambda>") params body scope clos ((X.mg "__name__").getD .none) c' ctv):=by
 intro pins s σ H Q I ⟨tab,h⟩
 refine kla_eval hdef ?_
 have hg:s.heap.Ns mainGlobals X.mg:=I.mod.glob.keeps I.bk
 have CH:CodeHd s.heap c T:=codeHd_of_K I.kIn hC
 obtain ⟨bm,ob,b1,b2,b3,b4,b5,b6⟩:=hB.kept I.bk
 have bat:∀ps,s.heap.get? T=some (tabObj ps)→mainGlobals≠T∧s.heap.BuiltinsAt X.mg T:=λps hP=>by
  refine ⟨λq=>?_,bm,ob,b1,b2,λq=>?_,λq=>?_,b3,b4,b5,b6⟩
  ·obtain ⟨o,es,ep,e,hd,_⟩:=hg
   rw [q,hP] at e;cases e;cases hd
  ·obtain ⟨o,es,ep,e,hd,_⟩:=hg
   rw [q,e] at b3;cases b3;rw [hd] at b6;cases b6
  ·rw [q,hP] at b3;cases b3;cases b4
 rcases tab with hT|⟨c',hT,hc'⟩
 ·have gT:s.heap.get? T=some (tabObj #[]):=I.hok T _ hT
  obtain ⟨hgT,hbT⟩:=bat _ gT
  refine kla_makeFunction (mg:=X.mg) hcl I.ok.glob hg hcd CH gT trivial rfl hgT hbT λc' ctv h' tk hx hge hlt hrec htb=>?_
  have htb':h'.get? T=some (tabObj (quf pos c')):=by
   rw [htb]
   rfl
  have hTs:T<s.heap.objs.size:=af gT
  have hcs:H c'=none:=I.hok.fresh hge
  have hgs:H h'.objs.size=none:=I.hok.fresh (Nat.le_of_lt (eO hge hlt))
  have d1:c'≠T:=λz=>absurd hge (by rw [z];exact Nat.not_le_of_lt hTs)
  have d2:h'.objs.size≠T:=λz=>by rw [z] at hlt;exact absurd hge (Nat.not_le_of_lt (aR hlt hTs))
  have d3:h'.objs.size≠c':=cY hlt
  have low:∀b o,s.heap.get? b=some o→b≠c'∧b≠h'.objs.size:=λb o e =>
   ⟨ar (aD (af e) hge),ar (aR (aD (af e) hge) hlt)⟩
  have at_:∀b,b≠T→b≠c'→b≠h'.objs.size→upd (upd (upd H T (.tbl (quf pos c'))) c' (qvt (X.env.qual ++ "<lambda>") c')) h'.objs.size (qyk h'.objs.size (kla_obj "<lambda>" (X.env.qual ++ "<lambda>") params body scope clos ((X.mg "__name__").getD .none) c' ctv)) b=H b:=λb e1 e2 e3=>by
   rw [qr e3,qr e2,qr e1]
  have kp:∀b o,b≠T→s.heap.get? b=some o→(h'.push (kla_obj "<lambda>" (X.env.qual ++ "<lambda>") params body scope clos ((X.mg "__name__").getD .none) c' ctv)).get? b=some o:=λb o e1 e=>Heap.get?_push_of_some _ (hx b o e1 e)
  have old:∀b o,b≠T→H b=some o→upd (upd (upd H T (.tbl (quf pos c'))) c' (qvt (X.env.qual ++ "<lambda>") c')) h'.objs.size (qyk h'.objs.size (kla_obj "<lambda>" (X.env.qual ++ "<lambda>") params body scope clos ((X.mg "__name__").getD .none) c' ctv)) b=some o:=λb o e1 e=>by
   rw [at_ b e1 (q8 e hcs) (q8 e hgs)];exact e
  have tT:upd (upd (upd H T (.tbl (quf pos c'))) c' (qvt (X.env.qual ++ "<lambda>") c')) h'.objs.size (qyk h'.objs.size (kla_obj "<lambda>" (X.env.qual ++ "<lambda>") params body scope clos ((X.mg "__name__").getD .none) c' ctv)) T=some (.tbl (quf pos c')):=by
   rw [qr d2.symm,qr d1.symm,qb]
  have notT:∀b o,H b=some o→(∀ps,o≠.tbl ps)→b≠T:=λb o e n z=>by
   rw [z,hT] at e;cases e;exact n _ rfl
  refine ⟨.ref h'.objs.size,_,I.call' (s':={ s with heap:=h'.push (kla_obj "<lambda>" (X.env.qual ++ "<lambda>") params body scope clos ((X.mg "__name__").getD .none) c' ctv),toks:=tk }) (ch:=[]) rfl ⟨λb o e n _ _=>kp b o (λz=>by rw [z,hT] at n;cases n) e,λb o e n _ _=>⟨o.slots,kp b o (λz=>by rw [z,hT] at n;cases n) e⟩,λb o e n _=>?_,λb o e _=>?_,λb xs e=>old b _ (notT b _ e λps z=>by cases z) e,λb o u e=>old b _ (notT b _ e λps z=>by cases z) e,λb ps e=>?_⟩ (λb u e=>?_) I.bare (λb z=>absurd z (by simp)),rfl,h _ c' ctv _ old ⟨tT,?_⟩ hgs qb⟩
  ·obtain ⟨l1,l2⟩:=low b o e
   rw [at_ b (λz=>by rw [z,hT] at n;cases n) l1 l2];exact n
  ·by_cases hb:b=T
   ·rw [hb];exact ⟨_,Heap.get?_push_of_some _ htb'⟩
   ·exact ⟨o,kp b o hb e⟩
  ·by_cases hb:b=T
   ·subst hb
    rw [hT] at e;cases e
    exact ⟨quf pos c',by rw [tT];simp⟩
   ·exact ⟨#[],by rw [old b _ hb e];simp⟩
  ·by_cases hbg:b=h'.objs.size
   ·subst hbg
    rw [qb] at e;cases e
    exact wz4 (ak _ rfl)
   ·rw [qr hbg] at e
    by_cases hbc:b=c'
    ·subst hbc
     rw [qb] at e;cases e
     obtain ⟨c2,oc,vs,t,f1,f2,f3,f4⟩:=hrec
     exact wyw ⟨c2,oc,vs,t,f1,Heap.get?_push_of_some _ f2,f3,f4⟩
    ·rw [qr hbc] at e
     by_cases hbT:b=T
     ·subst hbT
      rw [qb] at e;cases e
      exact Heap.get?_push_of_some _ htb'
     ·rw [qr hbT] at e
      refine (I.hok b u e).stay (λc2 v hc q=>kp c2 v ?_ q) (λc2 q=>old c2 _ (notT c2 _ q λps z=>by cases z) q) λc2 xs q=>old c2 _ (notT c2 _ q λps z=>by cases z) q
      rcases hc with rfl|hc
      ·exact hbT
      ·exact notT c2 _ hc λps z=>by cases z
  ·rw [qr d3.symm,qb]
 ·have gT:s.heap.get? T=some (tabObj (quf pos c')):=I.hok T _ hT
  obtain ⟨hgT,hbT⟩:=bat _ gT
  refine kla_makeFunctionHit (mg:=X.mg) (cv:=.ref c') hcl I.ok.glob hg hcd CH gT trivial ?_ hbT λctv h' tk hk hsz=>?_
  ·show codeAmong pos [rawInt pos.line,rawInt pos.col,.ref c']=some (.ref c')
   simp [codeAmong,rawInt]
  have hgs:H h'.objs.size=none:=I.hok.fresh hsz
  have old:∀b o,H b=some o→upd H h'.objs.size (qyk h'.objs.size (kla_obj "<lambda>" (X.env.qual ++ "<lambda>") params body scope clos ((X.mg "__name__").getD .none) c' ctv)) b=some o:=λb o e=>by
   rw [qr (q8 e hgs)];exact e
  exact ⟨.ref h'.objs.size,_,I.laid (a:=h'.objs.size) (o:=qyk h'.objs.size (kla_obj "<lambda>" (X.env.qual ++ "<lambda>") params body scope clos ((X.mg "__name__").getD .none) c' ctv)) (t':=tk) (λb u q=>Heap.get?_push_of_some _ (hk b u q)) hsz (wz4 (ak _ rfl)),rfl,h _ c' ctv _ (λb o _ e=>old b o e) ⟨old _ _ hT,old _ _ hc'⟩ hgs qb⟩
end
end L2
namespace L2
open PySem PySem.Spec PySem.Calls PySem.W PyProof.Rows
theorem qx2 {xs:List V}{its:List Value}(rv:Vals xs its):∀(il:List Nat),(∀i∈il,i<xs.length)→Vals (il.map λi=>xs.getD i .non) (il.map λi=>its.getD i Value.none)
 |[],_=>.nil
 |i::r,hin=>by
  refine .cons ?_ (qx2 rv r λj hj=>hin j (.tail _ hj))
  have hi:=hin i (.head _)
  obtain ⟨u,eu,ru⟩:=rv.get (i:=i) (aa hi)
  have e1:its.getD i Value.none=u:=by rw [ae,eu];rfl
  have e2:xs.getD i .non=xs[i]:=by rw [ae,aa hi];rfl
  show RelV (xs.getD i .non) (its.getD i Value.none)
  rw [e1,e2]
  exact ru
section
variable {X:Cx}{pins:List (Addr×Obj)}{σ:St}{H:Hp}{s:Ab}
end
def wz5 (X:Cx)(f:Value)(ks:List Str)(r:St→List V→List V→Hp→VK→Prop):Prop :=
 ∀(pins:List (Addr×Obj)) (s:Ab) (σ:St) (H:Hp) (xs zs:List V) (us ws:List Value) (Q:VK),Inv X pins σ H s→Vals xs us→Vals zs ws→r σ xs zs H Q →
  wpAny (model X.prog X.w) X.A (call f us (ks.zip ws)) (EP X pins σ Q) X.xe s
def tCBKS (r:St→List V→List V→Hp→VK→Prop)(t tk:TA):TE:=λσ H Q=>t σ H λvs H1=>tk σ H1 λzs H2=>r σ vs zs H2 Q
section
variable {X:Cx}{x:Str}{p pos:Pos}{e:Expr}{es:List Expr}{kws:List Keyword}{t tk:TA}{id:String}{ks:List Str}{r:St→List V→List V→Hp→VK→Prop}
theorem wxg (hc:wz5 X (.builtin id) ks r)(hg:Gl X x)(hm:X.mg x=none)(hv:bootBuiltins x=some (.builtin id))(ha:PA X (e::es) t)(hkw:PK X kws tk)
  (hall:(backToKw pos (keywordEach kws X.env)).all (·.1.isSome)=true:=by rfl) (hks:(backToKw pos (keywordEach kws X.env)).filterMap (·.1)=ks:=by rfl) (hn:x ≠ "__name__" := by decide) (hdb:(x==("__debug__" : Str))=false:=by decide)
  (he:starEach (e::es) X.env=(false,eval e X.env)::starEach es X.env:=by rfl)
  (hpl:(backTo pos (starEach (e::es) X.env)).any (·.1)=false:=by rfl) (hpk:(backToKw pos (keywordEach kws X.env)).any (·.1.isNone)=false:=by rfl):PE X (.Call (.Name x p) (e::es) kws pos) (tCBKS r t tk):=by
 intro pins s σ H Q I h
 refine cL (jf I hg hm hv ?_ hn hdb)
 refine callWith_builtin_kwB hpl hpk (evalArgs_kw2 hall (thn (ha pos pins s σ H _ I h) λus s1 ⟨vs,H1,I1,r1,q⟩=>?_) he)
 refine thn (hkw pos pins s1 σ H1 _ I1 q) λws s2 ⟨zs,H2,I2,rz,q2⟩=>?_
 dsimp only [List.nil_append]
 rw [hks]
 exact hc pins s2 σ H2 vs zs us ws Q I2 r1 rz q2
end
section
variable {X:Cx}{x y:Str}{params:Arguments}{body:Expr}{scope:Scope}{cF:Addr}{qual:Str}{pm:Value}{iy k:Nat}{t:TE}
end
end L2
namespace L2
open PySem PySem.Spec PySem.Calls PySem.W PyProof.Rows
theorem xw2 {α:Type}{l l':List α}(d:α)(p:l'.Perm l):∃il:List Nat,il.Perm (List.range l.length)∧l'=il.map λi=>l.getD i d:=by
 have key:∀(l:List α) (k:Nat) (L:List α),(∀j,j<l.length→L[k+j]?=l[j]?)→Paired (λx i=>L[i]?=some x) l (List.range' k l.length):=by
  intro l
  induction l with
  |nil=>intro k L _;exact .nil
  |cons x l ih =>
   intro k L h
   rw [ax,List.range'_succ]
   refine .cons (by have:=h 0 (by simp);simpa using this) (ih (k+1) L λj hj=>?_)
   have:=h (j+1) (by simp;omega)
   rw [show k+1+j=k+(j+1) by omega,this]
   rfl
 have h0:=key l 0 l λj _=>by rw [b8]
 rw [←List.range_eq_range'] at h0
 obtain ⟨il,p1,q1⟩:=Paired.perm p h0
 refine ⟨il,p1,?_⟩
 have:∀ {l':List α} {il:List Nat},Paired (λx i=>l[i]?=some x) l' il→l'=il.map λi=>l.getD i d:=by
  intro l' il h
  induction h with
  |nil=>rfl
  |cons r t ih=>rw [aF,ae,r,←ih];rfl
 exact this q1
section
variable {prog:Ac}{w:World}{A:Around}{E:Value→Ab→Prop}{s:Ab}{a kS:Addr}{vs ks:List Value}{P:PySem.Fin→Ab→Prop}{f:Value}
theorem qym {st:SortSt}{e e1:Nat}{out:List Value}(hka:kS≠a)(hk:s.heap.get? kS=some (seqObj "list" ks.toArray e))(ha:s.heap.get? a=some (seqObj "list" #[] e1))(hout:(arrOf st).map (·.2)=List.toArray out)(hz:out.length≤100000)(hkz:ks.length≤100000)(hf:failedOf st=none)
  (h:P (.done (.ret .none)) { s with heap:=(s.heap.update kS (Obj.mapSeq λ_=>(#[]:Array Value))).update a (Obj.mapSeq λ_=>out.toArray) }):wpAny (model prog w) A (ksk_tail a false e1 (.ref kS) st) P E s:=by
 have ha2:(s.heap.update kS (Obj.mapSeq λ_=>(#[]:Array Value))).get? a=some (seqObj "list" #[] e1):=by
  rw [bE _ _ _ _ (λz=>hka z.symm)];exact ha
 unfold ksk_tail
 try dsimp only
 rw [hout]
 refine wpAny_bind (dY hk rfl ?_ (by rw [ah,c0];omega) (aN _))
 refine wpAny_bind (eA ?_)
 refine wpAny_bind (gW ha2 rfl ?_)
 refine wpAny_bind (dY ha2 rfl ?_ (aN _) (by simp only [aw,bj];rw [ah,c0];omega))
 rw [hf]
 simp only [d7,aw,bj]
 exact wpAny_pure h
theorem wq9 {s:Ab}{G:Keyed→Prop}(hG:∀x,G x→∃n t,x.1=Value.int n t):Tm.jm (model prog w) A E s G (λx=>numOf x.1) oneType':=by
 rintro ⟨x1,x2⟩ ⟨y1,y2⟩ st Q gx gy hk hQ
 obtain ⟨n,t,e1⟩:=hG _ gx
 obtain ⟨m,u,e2⟩:=hG _ gy
 dsimp only at e1 e2
 subst e1 e2
 rw [lt'_eq]
 refine al (fQ ?_)
 rw [hk,keyLt'_oneType]
 refine al (gH (wpAny_attempt (oneLt_int ⟨rfl,?_⟩)))
 exact aq hQ
theorem xxf {kz:List Int}{e e1:Nat}(hka:kS≠a)(hk:s.heap.get? kS=some (seqObj "list" ks.toArray e))(ha:s.heap.get? a=some (seqObj "list" #[] e1))(hl:ks.length=vs.length)(h64:vs.length≤100000)(t:IntsAre ks kz)(nd:kz.Pairwise (·≠·))
  (h:∀il,Stb kz vs.length il→P (.done (.ret .none)) { s with heap:=(s.heap.update kS (Obj.mapSeq λ_=>(#[]:Array Value))).update a (Obj.mapSeq λ_=>(il.map λi=>vs.getD i Value.none).toArray) }) :
  wpAny (model prog w) A (ksk_end a false vs.toArray e1 (.ref kS) ks.toArray) P E s:=by
 have hkl:ks.length=kz.length:=Qw t
 have tt:IntsAre ks.toArray.toList kz:=t
 unfold ksk_end
 try dsimp only
 simp only [aw,bj]
 by_cases h2:vs.toArray.size<2
 ·rw [if_pos h2,if_pos h2]
  refine wpAny_bind (wpAny_pure ?_)
  have hv2:vs.length<2:=by simpa using h2
  refine wpAny_bind (wpAny_pure ?_)
  refine qym (out:=vs) hka hk ha ?_ h64 (by omega) rfl ?_
  ·show (ks.toArray.zip vs.toArray).map (·.2)=vs.toArray
   apply dL.mp
   simp
   rw [List.map_snd_zip (by omega)]
  ·have:=h (List.range vs.length) ⟨.refl _,by
    match vs,hv2 with
    |[],_=>exact .nil
    |[v],_=>exact cV _ _⟩
   have e:((List.range vs.length).map λi=>vs.getD i Value.none)=vs:=by
    match vs,hv2 with
    |[],_=>rfl
    |[v],_=>rfl
   rw [e] at this
   exact this
 ·rw [if_neg h2,if_neg h2]
  have hv2:2≤vs.length:=by simpa using h2
  rw [ksk_kind tt (by rw [ah];omega)]
  refine wpAny_bind (wpAny_pure ?_)
  have zl:(ks.toArray.zip vs.toArray).toList=ks.zip vs:=by rw [Array.toList_zip]
  have key:∀i x,(ks.zip vs)[i]?=some x→i<vs.length∧x.2=vs.getD i .none∧numOf x.1=kz.getD i 0∧∃n t,x.1=Value.int n t:=λi x ex=>by
   have hi:=(ag.mp ex).1
   rw [List.length_zip] at hi
   have h1:i<ks.length:=by omega
   have h3:i<vs.length:=by omega
   rw [List.getElem?_zip_eq_some] at ex
   obtain ⟨e1,e2⟩:=ex
   refine ⟨h3,by rw [ae,e2];rfl,?_,t.all _ (aA e1)⟩
   rw [←t.nums,ae,ao,e1]
   rfl
  have U:Tm.Un (λx:Keyed=>numOf x.1) (λx=>∃n t,x.1=Value.int n t) (ks.toArray.zip vs.toArray):=by
   refine ⟨?_,λx hx=>?_⟩
   ·rw [zl]
    refine bg.mpr λi j hi hj hij=>?_
    obtain ⟨a1,_,a3,_⟩:=key i _ (aa hi)
    obtain ⟨b1,_,b3,_⟩:=key j _ (aa hj)
    rw [a3,b3,ae,ae,aa (by omega),aa (by omega)]
    exact bg.mp nd i j (by omega) (by omega) hij
   ·rw [zl] at hx
    obtain ⟨i,ei⟩:=bH hx
    exact (key i x ei).2.2.2
  refine wpAny_bind (aS (Tm.Zv (Q:=λ_ st'=>(arrOf st').Perm (ks.toArray.zip vs.toArray)∧failedOf st'=none∧Tm.SL (λx:Keyed=>numOf x.1) (arrOf st').toList) (st:=SortSt.mk' oneType' (ks.toArray.zip vs.toArray) #[] 7 none) (wq9 λx hx=>hx) U rfl rfl rfl rfl λst' a1 a2 a3=>⟨a1,a2,a3⟩) ?_ λ_ _ e=>e)
  rintro ⟨⟨⟩,st'⟩ s' ⟨rfl,b1,b2,b3⟩
  try dsimp only
  have pl:=dc.mp b1
  rw [zl] at pl
  obtain ⟨il,p1,p2⟩:=xw2 (d:=((.none,.none):Keyed)) pl
  have lz:(ks.zip vs).length=vs.length:=by rw [List.length_zip];omega
  rw [lz] at p1
  have hin:∀i∈il,i<vs.length:=λi hi=>am.mp (p1.mem_iff.mp hi)
  have at_:∀i,i<vs.length→(ks.zip vs)[i]?=some ((ks.zip vs).getD i (.none,.none)):=λi hi=>by
   rw [ae,aa (by omega)]
   rfl
  have e3:(arrOf st').map (·.2)=List.toArray (il.map λi=>vs.getD i .none):=by
   apply dL.mp
   rw [Array.toList_map,p2,bz]
   exact dH λi hi=>(key i _ (at_ i (hin i hi))).2.1
  have st:Stb kz vs.length il:=by
   refine ⟨p1,?_⟩
   rw [p2] at b3
   unfold Tm.SL at b3
   rw [bu] at b3
   refine aY (λ{i j} hi hj hij=>.inl ?_) b3
   have hij':numOf ((ks.zip vs).getD i (.none,.none)).1<numOf ((ks.zip vs).getD j (.none,.none)).1:=hij
   rwa [(key i _ (at_ i (hin i hi))).2.2.1,(key j _ (at_ j (hin j hj))).2.2.1] at hij'
  refine qym hka hk ha e3 ?_ (by omega) b2 (h il st)
  rw [List.length_map,p1.length_eq,List.length_range]
  exact h64
theorem wyu {J:List Value→List Int→Ab→Prop}{e1:Nat}(hka:kS≠a)(h64:vs.length≤100000)
  (hJ:∀ks kz s,J ks kz s→(∃e,s.heap.get? kS=some (seqObj "list" ks.toArray e))∧s.heap.get? a=some (seqObj "list" #[] e1)∧IntsAre ks kz)
  (step:∀x ks kz (s:Ab),vs[ks.length]?=some x→J ks kz s→wpAny (model prog w) A (call f [x]) (λk s'=>(∃e,s'.heap.get? kS=some (seqObj "list" ks.toArray e))∧∃z,J (ks++[k]) (kz++[z]) { s' with heap:=s'.heap.update kS (Obj.mapSeq (·.push k)) }) (λ_ _=>False) s)
  (nd:∀ks kz (s:Ab),ks.length=vs.length→J ks kz s→kz.Pairwise (·≠·))
  (fin:∀ks kz (s:Ab),ks.length=vs.length→J ks kz s→∀il,Stb kz vs.length il →
   P (.done (.ret .none)) { s with heap:=(s.heap.update kS (Obj.mapSeq λ_=>(#[]:Array Value))).update a (Obj.mapSeq λ_=>(il.map λi=>vs.getD i Value.none).toArray) })
  (j:J [] [] s):wpAny (model prog w) A (ksk_rest a f false vs.toArray e1 (.ref kS)) P E s:=by
 unfold ksk_rest
 refine wpAny_bind (bW ?_)
 first
  |rw [List.forIn_toArray]
  |(rw [←dQ];simp only [List.toList_toArray])
  |rw [←dQ]
 refine wpAny_bind (aS (wzr (vs:=vs) (J:=J) (λx ks kz s' hx j'=>?_) vs [] [] s (by simp) (aN _) j) (λ_ s' hd'=>?_) λ_ _ x=>x)
 ·refine wpAny_bind (wpAny_attempt (aS (step x ks kz s' hx j') (λk s'' hk=>?_) λ_ _ hF=>hF.elim))
  obtain ⟨⟨e,he⟩,xs,j2⟩:=hk
  have hz:ks.length<vs.length:=(ag.mp hx).1
  try dsimp only
  refine wpAny_bind (dY he rfl ?_ (by rw [ah,c0];omega) (bo (Nat.le_of_eq (Array.size_push ..)) (by rw [ah,c0];omega)))
  exact wpAny_pure ⟨rfl,k,xs,j2⟩
 ·obtain ⟨ks,kz,hl,j'⟩:=hd'
  obtain ⟨⟨e,he⟩,h1,h2⟩:=hJ _ _ _ j'
  try dsimp only
  refine wpAny_bind (listItems_at he rfl ?_)
  exact xxf hka he h1 hl h64 h2 (nd ks kz s' hl j') (fin ks kz s' hl j')
theorem wun {J:Nat→List Value→List Int→Ab→Prop}{n:Nat}(ho:s.heap.get? a=some (seqObj "list" vs.toArray n))(h64:vs.length≤100000)
  (hJ:∀e1 ks kz s',J e1 ks kz s'→(∃e,s'.heap.get? (s.heap.objs.size+1)=some (seqObj "list" ks.toArray e))∧s'.heap.get? a=some (seqObj "list" #[] e1)∧IntsAre ks kz)
  (step:∀e1 x ks kz (s':Ab),vs[ks.length]?=some x→J e1 ks kz s'→wpAny (model prog w) A (call f [x]) (λk s2=>(∃e,s2.heap.get? (s.heap.objs.size+1)=some (seqObj "list" ks.toArray e))∧∃z,J e1 (ks++[k]) (kz++[z]) { s2 with heap:=s2.heap.update (s.heap.objs.size+1) (Obj.mapSeq (·.push k)) }) (λ_ _=>False) s')
  (nd:∀e1 ks kz (s':Ab),ks.length=vs.length→J e1 ks kz s'→kz.Pairwise (·≠·))
  (fin:∀e1 ks kz (s':Ab),ks.length=vs.length→J e1 ks kz s'→∀il,Stb kz vs.length il →
   P (.done (.ret .none)) { s' with heap:=(s'.heap.update (s.heap.objs.size+1) (Obj.mapSeq λ_=>(#[]:Array Value))).update a (Obj.mapSeq λ_=>(il.map λi=>vs.getD i Value.none).toArray) })
  (j:∀e1,(Wm s.heap a vs).get? a=some (seqObj "list" #[] e1)→J e1 [] [] { s with heap:=Wm s.heap a vs }):wpAny (model prog w) A (ksk_tree a f false) P E s:=by
 have ha:a<s.heap.objs.size:=af ho
 obtain ⟨e1,ho1⟩:∃e1,(s.heap.update a (Obj.mapSeq λ_=>(#[]:Array Value))).get? a=some (seqObj "list" #[] e1):=⟨_,dW ho λ_=>#[]⟩
 have hkS:((s.heap.update a (Obj.mapSeq λ_=>(#[]:Array Value))).push (seqObj "tuple" vs.toArray 0)).objs.size=s.heap.objs.size+1:=by rw [size_push',iq]
 unfold ksk_tree
 refine wpAny_bind (listItems_at ho rfl ?_)
 refine wpAny_bind (dY ho rfl ?_ (by rw [ah,c0];omega) (aN _))
 refine wpAny_bind (gW ho1 rfl ?_)
 refine wpAny_bind (wpAny_newTuple ?_ (by show vs.length≤_;rw [c0];omega))
 refine wpAny_bind (fS ?_ (aN _))
 refine wpAny_holding ?_
 show wpAny (model prog w) A (ksk_rest a f false vs.toArray e1 (.ref ((s.heap.update a (Obj.mapSeq λ_=>(#[]:Array Value))).push (seqObj "tuple" vs.toArray 0)).objs.size)) P E { s with heap:=Wm s.heap a vs }
 rw [hkS]
 exact wyu (J:=J e1) (cY (dB ha)) h64 (hJ e1) (step e1) (nd e1) (fin e1) (j e1 (Heap.get?_push_of_some _ (Heap.get?_push_of_some _ ho1)))
end
section
variable {X:Cx}{pins:List (Addr×Obj)}{σ:St}{H:Hp}{s:Ab}
theorem qyx {g p:Addr}{xs:List V}{kz:List Int}{Q:VK}(I:Inv X pins σ H s)(hS:SqL X.K H p xs)(h64:xs.length≤100000)(hnd:kz.Pairwise (·≠·))(hkz:kz.length=xs.length)
  (step:∀(pins':List (Addr×Obj)) (s':Ab) (i:Nat) (v:V) (u:Value),Inv X pins' σ H s'→xs[i]?=some v→RelV v u →
   wpAny (model X.prog X.w) X.A.in1.in1 (call (.ref g) [u]) (λr s2=>(∃t,r=.int (kz.getD i 0) t)∧Inv X pins' σ H s2) (λ_ _=>False) s')
  (q:∀l il,H l=none→Stb kz xs.length il→Q (.ref l) (upd H l (.lst (il.map λi=>xs.getD i .non)))) :
  wpAny (model X.prog X.w) X.A (call (.builtin "sorted") [.ref p] [(Str.ofString "key",.ref g)]) (EP X pins σ Q) X.xe s:=by
 obtain ⟨its,rv,pl,hz⟩:=I.list hS
 have hl:s.heap.IsList p its.toArray:=pl.isList
 have hlen:its.length=xs.length:=rv.length.symm
 refine call_function_entry_kw kind_sorted plain_sorted entry_sorted (ksk_s1 _ _) ?_
 unfold Builtin.«sorted»
 refine wpAny_bind (m:=checkCount "sorted" 1 1 _) (wpAny_pure ?_)
 refine wpAny_bind (collect_list hl ?_ (by rw [c0];omega))
 refine wpAny_bind (fS ?_ (by rw [c0];omega))
 have hsz:((s.heap.push (seqObj "list" #[] 0)).update s.heap.objs.size (Obj.mapSeq (·++its.toArray))).objs.size=s.heap.objs.size+1:=by
  rw [iq,size_push']
 have hoL:(((s.heap.push (seqObj "list" #[] 0)).update s.heap.objs.size (Obj.mapSeq (·++its.toArray))).push (seqObj "list" its.toArray 0)).get? (s.heap.objs.size+1)=some (seqObj "list" its.toArray 0):=by
  rw [←hsz];exact ak _ rfl
 have keep:∀b o,s.heap.get? b=some o→(((s.heap.push (seqObj "list" #[] 0)).update s.heap.objs.size (Obj.mapSeq (·++its.toArray))).push (seqObj "list" its.toArray 0)).get? b=some o:=λb o q=>by
  have hlt:b<s.heap.objs.size:=af q
  rw [Heap.get?_push_ne _ _ _ (by rw [hsz];exact ar (dB hlt)),bE _ _ _ _ (ar hlt),Heap.get?_push_ne _ _ _ (ar hlt)]
  exact q
 show wpAny _ _ _ _ _ { s with heap:=((s.heap.push (seqObj "list" #[] 0)).update s.heap.objs.size (Obj.mapSeq (·++its.toArray))).push (seqObj "list" its.toArray 0) }
 rw [hsz]
 generalize hh1:((s.heap.push (seqObj "list" #[] 0)).update s.heap.objs.size (Obj.mapSeq (·++its.toArray))).push (seqObj "list" its.toArray 0)=h1 at hoL keep ⊢
 have hs1:h1.objs.size=s.heap.objs.size+2:=by rw [←hh1,size_push',hsz]
 have fD:zr X pins H (s.heap.objs.size+1):=I.fpOk (gP _) (I.hok.fresh (gP _))
 have nK:H (h1.objs.size+1)=none:=I.hok.fresh (by rw [hs1];exact fL _ 3)
 have fK:zr X pins H (h1.objs.size+1):=I.fpOk (by rw [hs1];exact fL _ 3) nK
 have nD:H (s.heap.objs.size+1)=none:=I.hok.fresh (gP _)
 have hne:(h1.objs.size+1:Nat)≠s.heap.objs.size+1:=by omega
 refine wpAny_bind (wpAny_holding (wpAny_call_entry_kw slot_list_sort ⟨_,hoL,rfl⟩ entry_list_sort ?body (ksk_l1 _ _)))
 case body =>
  show wpAny (model X.prog X.w) X.A.in1.in1 (Builtin.«list.sort» ⟨[.ref (s.heap.objs.size+1)],[(Str.ofString "key",.ref g)]⟩) _ _ { s with heap:=h1 }
  rw [ksk_t1]
  refine wun (s:={ s with heap:=h1 }) (J:=λe1 ks zs s'=>Inv X pins σ H s'∧s'.heap.get? (s.heap.objs.size+1)=some (seqObj "list" #[] e1) ∧
   (∃e,s'.heap.get? (h1.objs.size+1)=some (seqObj "list" ks.toArray e))∧IntsAre ks zs∧zs=kz.take ks.length∧ks.length≤xs.length) hoL (by omega) ?_ ?_ ?_ ?_ ?_
  ·rintro e1 ks zs s' ⟨I',g1,g2,ia,_,_⟩
   exact ⟨g2,g1,ia⟩
  ·rintro e1 x ks zs s' hx ⟨I',g1,⟨e,g2⟩,ia,ek,lk⟩
   have hi:ks.length<xs.length:=by have:=(ag.mp hx).1;omega
   obtain ⟨u,eu,ru⟩:=rv.get (i:=ks.length) (aa hi)
   rw [hx] at eu
   cases eu
   have I2:Inv X ((s.heap.objs.size+1,seqObj "list" #[] e1)::(h1.objs.size+1,seqObj "list" ks.toArray e)::pins) σ H s':=I'.pins_of λp hp=>by
    rcases ay.mp hp with rfl|hp
    ·exact ⟨g1,nD,fD.2.1,fD.2.2.1,λv z=>by cases z⟩
    ·rcases ay.mp hp with rfl|hp
     ·exact ⟨g2,nK,fK.2.1,fK.2.2.1,λv z=>by cases z⟩
     ·exact I'.pin p (aB _ hp)
   refine aS (step _ s' ks.length _ x I2 (aa hi) ru) (λr s2 hq=>?_) λ_ _ h=>h
   obtain ⟨⟨t,rfl⟩,I3⟩:=hq
   obtain ⟨d1,d2,_⟩:=I3.pin (s.heap.objs.size+1,seqObj "list" #[] e1) (aB _ (.head _))
   obtain ⟨k1,k2,_⟩:=I3.pin (h1.objs.size+1,seqObj "list" ks.toArray e) (aB _ (.tail _ (.head _)))
   have I4:Inv X pins σ H s2:=I3.pins_of λp hp=>I3.pin p (aB _ (.tail _ (.tail _ hp)))
   refine ⟨⟨e,k1⟩,kz.getD ks.length 0,I4.turnedL (tk:=s2.toks) (ch:=[h1.objs.size+1]) (λb u hb e=>?_) (λb hb=>?_),?_,?_,ksk_snoc ia,?_,?_⟩
   ·rw [bE _ _ _ _ (λz=>hb (by simp [z]))];exact e
   ·obtain rfl:b=h1.objs.size+1:=by simpa using hb
    exact fK
   ·show (s2.heap.update (h1.objs.size+1) _).get? (s.heap.objs.size+1)=_
    rw [bE _ _ _ _ (λz=>hne z.symm)];exact d1
   ·have ea:(List.toArray ks).push (Value.int (kz.getD ks.length 0) t)=List.toArray (ks++[Value.int (kz.getD ks.length 0) t]):=by simp
    exact ⟨_,by rw [←ea];exact dW k1 (·.push (Value.int (kz.getD ks.length 0) t))⟩
   ·rw [ek,ai,cn,cC,ae,aa (by omega)]
    rfl
   ·rw [ai,cn];omega
  ·rintro e1 ks zs s' hks ⟨I',g1,⟨e,g2⟩,ia,ek,lk⟩
   rw [ek,hks,hlen,←hkz,List.take_length]
   exact hnd
  ·rintro e1 ks zs s' hks ⟨I',g1,⟨e,g2⟩,ia,ek,lk⟩ il hst
   have ekk:zs=kz:=by rw [ek,hks,hlen,←hkz,List.take_length]
   rw [ekk,hlen] at hst
   have hin:∀i∈il,i<xs.length:=λi hi=>am.mp (hst.1.mem_iff.mp hi)
   have hk4:∀b u,b∉[h1.objs.size+1,s.heap.objs.size+1]→s'.heap.get? b=some u→((s'.heap.update (h1.objs.size+1) (Obj.mapSeq λ_=>(#[]:Array Value))).update (s.heap.objs.size+1) (Obj.mapSeq λ_=>(il.map λi=>its.getD i Value.none).toArray)).get? b=some u:=λb u hb e=>by
    rw [bE _ _ _ _ (λz=>hb (by simp [z])),bE _ _ _ _ (λz=>hb (by simp [z]))];exact e
   have I5:=I'.turnedL (tk:=s'.toks) (ch:=[h1.objs.size+1,s.heap.objs.size+1]) hk4 λb hb=>by
    have hb':b=h1.objs.size+1∨b=s.heap.objs.size+1:=by simpa using hb
    rcases hb' with rfl|rfl
    ·exact fK
    ·exact fD
   have hg:(s'.heap.update (h1.objs.size+1) (Obj.mapSeq λ_=>(#[]:Array Value))).get? (s.heap.objs.size+1)=some (seqObj "list" #[] e1):=by
    rw [bE _ _ _ _ (λz=>hne z.symm)];exact g1
   have outI:=qx2 rv il hin
   have hlo:il.length=xs.length:=by have:=hst.1.length_eq;rw [List.length_range] at this;omega
   refine ⟨_,rfl,wpAny_pure ⟨_,rfl,.ref (s.heap.objs.size+1),_,Inv.track (o:=.lst (il.map λi=>xs.getD i .non)) I5 fD ⟨?_,_,_,outI,dW hg λ_=>_⟩,rfl,q _ il nD hst⟩⟩
   rw [List.length_map,hlo,c0];omega
  ·intro e1 g1
   have kp:∀b o,b≠s.heap.objs.size+1→h1.get? b=some o→(Wm h1 (s.heap.objs.size+1) its).get? b=some o:=λb o hb e=>by
    unfold Wm
    refine Heap.get?_push_of_some _ (Heap.get?_push_of_some _ ?_)
    rw [bE _ _ _ _ hb]
    exact e
   refine ⟨I.kept (t':=s.toks) (λb u e=>kp b u (ar (dB (af e))) (keep b u e)),g1,⟨0,?_⟩,.nil,by simp,aN _⟩
   have hkS:((h1.update (s.heap.objs.size+1) (Obj.mapSeq λ_=>(#[]:Array Value))).push (seqObj "tuple" its.toArray 0)).objs.size=h1.objs.size+1:=by rw [size_push',iq]
   show (Wm h1 (s.heap.objs.size+1) its).get? (h1.objs.size+1)=_
   unfold Wm
   rw [←hkS]
   exact ak _ rfl
end
section
variable {X:Cx}{x y:Str}{params:Arguments}{body:Expr}{scope:Scope}{cF:Addr}{qual:Str}{pm:Value}{iy k:Nat}{t:TE}
theorem qkb (S:LamSc x y scope)(hr:Room (k+3) X.A)(hiy:X.N[iy]?=some y)(hky:X.env.kindOf y=some .cell)(hsy:X.env.scope.names.lookup y=some .cell)(hcF:X.env.cells.lookup y=some cF)
  (hb:∀(u ct:Value) (c':Addr),bindArgs (kla_fn "<lambda>" qual params body scope [(y,cF)] pm (.ref c') ct) ⟨[u],[]⟩=pure [(x,u)])
  (hpe:∀(g c':Addr) (A:Around) (outer:List Env) (s:Ab) (H:Hp) (E:XK),PE (wz9 (CXE X.prog X.w) X.prog X.w X.K X.mg X.base [x,y] qual scope g (.ref c') [(y,cF)] A outer s H E) body t) :
  wz5 X (.builtin "sorted") [Str.ofString "key"] (λσ xs zs H Q=>∃(p:Addr) (vs:List V) (kz:List Int) (g c':Addr) (ct:Value) (vS:V),xs=[.ref p]∧zs=[.ref g]∧SqL X.K H p vs∧vs.length≤100000∧kz.Pairwise (·≠·)∧kz.length=vs.length ∧
   H g=some (qyk g (kla_obj "<lambda>" qual params body scope [(y,cF)] pm c' ct))∧H c'=some (qvt qual c')∧σ[iy]?=some (some vS) ∧
   (∀i v,vs[i]?=some v→t [some v,some vS] H λr H'=>r=.int (kz.getD i 0)∧H'=H) ∧
   ∀l il,H l=none→Stb kz vs.length il→Q (.ref l) (upd H l (.lst (il.map λi=>vs.getD i .non)))):=by
 intro pins s σ H xs zs us ws Q I r rz h
 obtain ⟨p,vs,kz,g,c',ct,vS,rfl,rfl,hS,h64,hnd,hkz,hg,hc',hσ,ht,q⟩:=h
 obtain ⟨u,rfl,ru⟩:=k7 r
 cases (show u=Value.ref p from ru)
 obtain ⟨v,rfl,rv⟩:=k7 rz
 cases (show v=Value.ref g from rv)
 refine qyx I hS h64 hnd hkz (λpins' s' i v u I' hv rv=>?_) q
 obtain ⟨m,hns,hlook⟩:=I'.loc
 obtain ⟨uS,rS,lk⟩:=hlook iy y vS hiy hσ (.inr (.inl hsy))
 have hcell:s'.heap.IsCell cF (some uS):=by
  rcases lk with ⟨z,_⟩|⟨_,c,e1,e2⟩
  ·rw [hky] at z;cases z
  ·rw [hcF] at e1;cases e1
   exact e2
 refine iv (du (xxc (k:=k) S hr.in1.in1 I'.env0.in1.in1 (I'.hok g _ hg).1 (I'.hok c' _ hc').1 (hb u ct c') hcell (I'.freeC y cF hcF) rv rS (hpe g c' _ _ _ _ E0) (ht i v hv)) λr s2 hq=>?_)
 cases r with
 |error e=>exact CXE.no hq
 |ok fl =>
  cases fl with
  |next=>exact False.elim hq
  |brk=>exact False.elim hq
  |cont=>exact False.elim hq
  |ret w =>
   obtain ⟨v,H2,I3,rv3,rfl,rfl⟩:=I'.after hq
   obtain ⟨t,rfl⟩:=rv3
   exact ⟨⟨t,rfl⟩,I3⟩
end
end L2
namespace L2
open PySem PySem.Spec PyProof.Rows
theorem wjv (bs:List Bool):(List.range bs.length).any (λi=>bs.getD i false)=bs.any id:=by
 rw [cD,dI,dI]
 constructor
 ·rintro ⟨i,hi,h⟩
  have hi':=am.mp hi
  rw [ae,aa hi'] at h
  exact ⟨bs[i],bF hi',h⟩
 ·rintro ⟨b,hb,h⟩
  obtain ⟨i,hi,rfl⟩:=dG hb
  refine ⟨i,am.mpr hi,?_⟩
  rw [ae,aa hi]
  exact h
section
variable {X:Cx}{K:Aa}
theorem qz5 (hc:X.calm=true)(hK:X.K=K):v8 X (.builtin "any") (λxs H Q=>∃(p:Addr) (bs:List Bool),xs=[.ref p]∧SqL K H p (bs.map V.bl)∧Q (.bl (bs.any id)) H):=by
 subst hK
 intro pins s σ H xs us Q I r h
 obtain ⟨p,bs,rfl,hS,q⟩:=h
 obtain ⟨u,rfl,ru⟩:=k7 r
 cases (show u=Value.ref p from ru)
 obtain ⟨its,rv,⟨o,n,e1,e2,e3,e4⟩,hz⟩:=I.list hS
 have hits:=qw7 rv
 have hl:s.heap.IsList p its.toArray:=⟨o,e1,e2,n,e4⟩
 have hlt:p<s.heap.objs.size:=af e1
 refine call_any_walk (d6 hl ?_)
 refine ⟨s.heap.objs.size,_,_,_,_,_,λi=>bs.getD i false,rfl,iz (A:=X.A.in1) (I.ok.hd hc) _ p (ar hlt) its.toArray,⟨⟨_,ak _ rfl,rfl,rfl⟩,hl.push _⟩,λi v s' Q' E' hP hQ=>?_,λh' tk hk=>?_⟩
 ·have hv:its[i]?=some v:=by simpa using hP
  rw [hits,ao] at hv
  cases hb:bs[i]? with
  |none=>rw [hb] at hv;cases hv
  |some b =>
   rw [hb] at hv
   have ev:Value.bool b=v:=aj hv
   subst ev
   refine cT ?_
   have e2:bs.getD i false=b:=by rw [ae,hb];rfl
   have hQ':Q' (bs.getD i false) s':=hQ
   rw [e2] at hQ'
   exact hQ'
 ·have hlen:its.toArray.size=bs.length:=by rw [hits];simp
  rw [hlen,wjv]
  refine ⟨.bl _,H,I.kept λb ob e=>hk b ob (λhm=>?_) (Heap.get?_push_of_some _ e),rfl,q⟩
  have z:b=s.heap.objs.size:=by simpa using hm
  exact aI _ (z▸af e)
end
end L2
namespace L2
open PySem PySem.Spec PySem.Calls PySem.W PyProof.Rows
section
variable {prog:Ac}{w:World}{A:Around}{R:Result→Ab→Prop}{I:Addr}{fp wr:List Addr}{n:Nat}{P:Nat→Value→Prop}{St:Nat→Heap→Prop}
def MxAt (P:Nat→Value→Prop)(bt:Nat→Nat→Bool)(j:Nat)(old:Array Value):Prop:=(j=0∧old=#[])∨∃i v,j=i+1∧old=#[v,v]∧P (argBest bt i) v
theorem wug (W:Walks prog w A.in1 I fp wr n P St)(bt:Nat→Nat→Bool)(hcmp:CmpOf prog w A.in1 .Gt P bt)(S:Addr)(hSf:S∉fp)(d:Value) :
  ∀(m j:Nat) (s:Ab) (old:Array Value) (c:Nat),j+m=n→St j s.heap→s.heap.get? S=some ⟨.type "list",none,.seq old c,#[]⟩→MxAt P bt j old →
   (∀v h' tk,(n=0∧v=d∨∃i,n=i+1∧P (argBest bt i) v)→(∀b o,b∉wr→b≠S→s.heap.get? b=some o→h'.get? b=some o)→R (.ok (.ret v)) { s with heap:=h',toks:=tk }) →
   codeAny (model prog w) A (.builtin "max.loop" ⟨[.ref I,.none,.ref S],[("default",d)]⟩) R s:=by
 have hSw:S∉wr:=λh=>hSf (W.sub _ h)
 have hnm:(toString "max" ++ toString ".loop" : String) = "max.loop" := by decide
 intro m
 induction m with
 |zero =>
  intro j s old c hj st hS hat hR
  obtain rfl:j=n:=hj
  (refine dr F.entry_max_loop ?_ ;rw [dz dM _] ;show wpAny _ A.in1 (seqItems? (.ref S) >>= _) _ _ s ;refine wpAny_bind (bR hS rfl ?_))
  (show wpAny _ A.in1 (tryCatch (pyNext (.ref I)) _ >>= _) _ _ s ;refine wpAny_bind (wpAny_tryCatch (W.done s _ _ st λh' tk hk=>?_)))
  rcases hat with ⟨rfl,rfl⟩|⟨i,v,rfl,rfl,hP⟩
  ·exact wpAny_bind (bW (wpAny_pure (hR d h' tk (.inl ⟨rfl,rfl⟩) λb o hbw _ e=>hk b o hbw e)))
  ·have hS':=hk S _ hSw hS
   (show wpAny _ A.in1 (updateSeq S (λ_=>#[]) >>= _) _ _ _ ;refine wpAny_bind ?_ ;refine iH hS' rfl (wpAny_bind (eA (wpAny_pure ?_))))
   exact hR v _ tk (.inr ⟨i,rfl,hP⟩) λb o hbw hbS e=>(cz _ _ (dt hbS)).trans (hk b o hbw e)
 |succ m ih =>
  intro j s old c hj st hS hat hR
  have hlt:j<n:=by omega
  (refine dr F.entry_max_loop ?_ ;rw [dz dM _] ;show wpAny _ A.in1 (seqItems? (.ref S) >>= _) _ _ s ;refine wpAny_bind (bR hS rfl ?_))
  (show wpAny _ A.in1 (tryCatch (pyNext (.ref I)) _ >>= _) _ _ s ;refine wpAny_bind (wpAny_tryCatch (W.item j s _ _ hlt st λv h' tk hP st' hk=>?_)))
  have hS':=hk S _ hSw hS
  have fr:∀(h2:Heap),(∀b o,b≠S→h'.get? b=some o→h2.get? b=some o)→St (j+1) h2:=λh2 k=>W.frame _ _ _ st' λb hbf o e=>k b o (λz=>hSf (by rw [←z];exact hbf)) e
  rcases hat with ⟨rfl,rfl⟩|⟨i,vb,rfl,rfl,hPb⟩
  ·(show wpAny _ A.in1 (updateSeq S (λ_=>#[v,v]) >>= _) _ _ _ ;refine wpAny_bind ?_ ;refine iH hS' rfl ?_ ;rw [hnm])
   refine wpAny_pure ⟨fP dM _,ih (0+1) _ _ _ (by omega) (fr _ λb o hb e=>(cz _ _ (dt hb)).trans e) (cH _ hS' rfl) (.inr ⟨0,v,rfl,rfl,hP⟩) λv' h'' tk' hv hk'=>?_⟩
   exact hR v' h'' tk' hv λb o hbw hbS e=>hk' b o hbw hbS ((cz _ _ (dt hbS)).trans (hk b o hbw e))
  ·(show wpAny _ A.in1 (tryCatch (holding [v,v] (richCompare .Gt v vb >>= _)) _ >>= _) _ _ _ ;refine wpAny_bind (wpAny_tryCatch (wpAny_holding (wpAny_bind (hcmp (i+1) (argBest bt i) v vb _ _ _ hP hPb ?_)))))
   (refine wpAny_bind (wpAny_holding (cT ?_)) ;refine wpAny_bind (eA (wpAny_pure ?_)))
   cases hb:bt (i+1) (argBest bt i) with
   |true =>
    (simp only [cg] ;refine wpAny_bind ?_ ;refine iH hS' rfl (wpAny_bind (eA ?_)) ;rw [hnm])
    refine wpAny_pure ⟨fP dM _,ih (i+1+1) _ _ _ (by omega) (fr _ λb o hb e=>(cz _ _ (dt hb)).trans e) (cH _ hS' rfl) (.inr ⟨i+1,v,rfl,rfl,by simp only [argBest,hb,cg];exact hP⟩) λv' h'' tk' hv hk'=>?_⟩
    exact hR v' h'' tk' hv λb o hbw hbS e=>hk' b o hbw hbS ((cz _ _ (dt hbS)).trans (hk b o hbw e))
   |false =>
    (simp only [aw,bj] ;refine wpAny_bind (eA ?_) ;rw [hnm])
    refine wpAny_pure ⟨fP dM _,ih (i+1+1) _ _ _ (by omega) st' hS' (.inr ⟨i+1,vb,rfl,rfl,by simp only [argBest,hb,aw,bj];exact hPb⟩) λv' h'' tk' hv hk'=>?_⟩
    exact hR v' h'' tk' hv λb o hbw hbS e=>hk' b o hbw hbS (hk b o hbw e)
end
theorem wkj (a d:Value):argsOk "max" ⟨[a],[(Str.ofString "default",d)]⟩:=by unfold argsOk;kernel_rfl
section
variable {prog:Ac}{w:World}{A:Around}{E:Value→Ab→Prop}{s:Ab}
theorem qjg {id:String}{b:Builtin}{args:List Value}{kw:List (Str×Value)}{Q:Value→Ab→Prop}(hk:builtinKind id=none)(hp:plainId id=true)(hb:entryFor table id=some b)(ha:argsOk id ⟨args,kw⟩)
  (hc:wpAny (model prog w) A.in1 (b ⟨args,kw⟩) (λfin s'=>match fin with
   |.done f=>(match (Except.ok f:Result) with|.ok (.ret v)=>Q v s'|.ok _=>False|.error e=>E e s')
   |.again c'=>c'.quiet=true∧codeAny (model prog w) A c' (λr s'=>match r with|.ok (.ret v)=>Q v s'|.ok _=>False|.error e=>E e s') s') E s) :
  wpAny (model prog w) A (call (.builtin id) args kw) Q E s:=by
 refine iv (codeAny_call_builtin hp hb ?_)
 simp only [checkBuiltinCall,hk]
 cases g:Manifest.signature? id with
 |none=>exact wpAny_pure hc
 |some sig =>
  have a2:Bind.checkArgs id sig ⟨args,kw⟩=pure ():=by simpa only [argsOk,g] using ha
  (simp only [a2] ;exact wpAny_pure hc)
end
section
variable {X:Cx}
theorem wkh (hc:X.calm=true):wuk X (.builtin "max") [Str.ofString "default"] (λxs zs H Q=>∃(p:Addr) (ns:List Int) (d:Int),xs=[.ref p]∧zs=[.int d]∧SqL X.K H p (ns.map V.int) ∧
  ∀m,(∀a∈ns,a≤m)→(m∈ns∨(ns=[]∧m=d))→Q (.int m) H):=by
 intro pins s σ H xs zs us ws Q I r rz h
 obtain ⟨p,ns,d,rfl,rfl,hS,q⟩:=h
 obtain ⟨u,rfl,ru⟩:=k7 r
 cases (show u=Value.ref p from ru)
 obtain ⟨v,rfl,tv,rfl⟩:=k7 rz
 obtain ⟨ts,hl,he⟩:=Yx I hS
 have hsz:ts.size=ns.length:=by rw [he,List.length_map,aJ]
 have hnm:(toString "max" ++ toString ".loop" : String) = "max.loop" := by decide
 show wpAny _ _ (call (.builtin "max") [.ref p] [(Str.ofString "default",.int d tv)]) _ _ _
 refine qjg F.kind_max F.plain_max F.entry_max (wkj _ _) ?_
 (show wpAny _ X.A.in1 (Builtin.Builtins.bindParams "max" ["key","default"] 0 ⟨[],[(Str.ofString "default",.int d tv)]⟩ >>= _) _ _ s ;refine wpAny_bind (wpAny_of_eq (show Builtin.Builtins.bindParams "max" ["key","default"] 0 ⟨[],[(Str.ofString "default",.int d tv)]⟩=pure [none,some (.int d tv)] from rfl) ?_))
 (refine wpAny_bind (wpAny_pure ?_) ;refine wpAny_bind (iter_intList hl λs₂ e st hfp hlI=>?_) ;subst e ;refine wpAny_bind (bp ?_))
 have W:=iz (A:=X.A.in1) (prog:=X.prog) (w:=X.w) (I.ok.hd hc) _ p hlI (intItems ts)
 have hSf:(s.heap.push { cls:=.type "list_iterator",data:=.fields #[.ref p,.int 0 0] }).objs.size∉[s.heap.objs.size,p]:=λhm=>aI _ (hfp _ hm)
 rw [hnm]
 refine wpAny_pure ⟨fP dM _,wug W _ (CmpOf.ints_gt (numAt ts) λ_ _=>iL) _ hSf (.int d tv) _ 0 _ #[] _ (b8 _) (W.frame _ _ _ st λb _ o e=>Heap.get?_push_of_some _ e) (ak _ rfl) (.inl ⟨rfl,rfl⟩) λv h' tk hv hk=>?_⟩
 have keep:∀b o,s.heap.get? b=some o→h'.get? b=some o:=λb o e=>by
  have hb:b<s.heap.objs.size:=af e
  refine hk b o (λz=>?_) (ar ?_) (Heap.get?_push_of_some _ (Heap.get?_push_of_some _ e))
  ·obtain rfl:=aG.mp z
   exact aI _ hb
  ·rw [bw];exact dB hb
 have zi:(intItems ts).size=ts.size:=by simp [intItems]
 rcases hv with ⟨h0,rfl⟩|⟨i,hi,hP⟩
 ·have e0:ns=[]:=eS.mp (by omega)
  exact ⟨.int d,H,I.kept keep,⟨tv,rfl⟩,q d (λa ha=>by rw [e0] at ha;cases ha) (.inr ⟨e0,rfl⟩)⟩
 ·obtain ⟨t,rfl⟩:=iL hP
  obtain ⟨b1,b2⟩:=argBest_gt (numAt ts) i
  refine ⟨.int _,H,I.kept keep,⟨t,rfl⟩,q _ (λa ha=>?_) (.inl ?_)⟩
  ·rw [he] at ha
   obtain ⟨j,hj,rfl⟩:=mem_getD ha
   rw [←he,←hsz] at hj
   rw [←iM]
   exact b2 j (by omega)
  ·rw [he,iM]
   refine getD_mem ?_
   rw [←he,←hsz]
   omega
end
end L2
namespace L2
open PySem PySem.Spec PySem.Calls PySem.W PyProof.Rows
structure FunT (K:Aa)(x:Str)(st:Stmt)(c f:Addr)(fd:Ad):Prop where
 F:Fun K x x st f fd
 code:fd.code=.ref c
section
variable {P:Ac}{w:World}{K:Aa}{mg:Str→Option Value}{base:Heap}{x:Str}{st:Stmt}{c:Addr}
theorem FunT.okX {f:Addr}{fd:Ad}{N ps:List Str}{k:Nat}{sp:Sp}(F:FunT K x st c f fd)(S:FnScope N ps (qp st))(len:∀vs H Q E,sp vs H Q E→vs.length=ps.length)
  (body:∀(A:Around) (outer:List Env) (s:Ab) (H:Hp) (vs:List V) (Q:VK) (E:XK),Room k (A.deeper (envOfC x (qp st) s.heap.objs.size f (.ref c)))→sp vs H Q E →
   ∃t,PSs (qx7 (CXE P w) P w K mg base N x (qp st) f (.ref c) A outer s H E) (zd st) t∧t { nx:=λ_ H'=>Q .non H',rt:=Q } (Q8 N vs) H):FnOk P w K mg base (CXE P w) (k+1) f fd ps sp:=by
 obtain ⟨oc,od,kV,doc,pm,an,cdv,ct,osl,rfl,lk,hcd⟩:=F.F.ex
 obtain rfl:cdv=.ref c:=F.code
 exact wy9 lk hcd S len λA outer s H vs Q E hr hsp=>body A outer s H vs Q E hr hsp
structure DefInT (K:Aa)(x:Str)(st:Stmt)(c:Addr):Prop where
 ex:∃f fd,PySem.W.nsIn K mainGlobals x=some (some (.ref f))∧FunT K x st c f fd
theorem xzh {f:Addr}{oc:Value}{od an:Option Addr}{osl:Array (Option Value)}{kV doc pm ct:Value}(a:PySem.W.nsIn K mainGlobals x=some (some (.ref f)))
  (l:K.lookup f=some ⟨oc,od,.func (PySem.W.fnOf x x (vx st) (zd st) (qp st) .none kV doc pm an (.ref c) ct),osl⟩) (cc:PySem.W.codeIn K (.ref c) x=true) (k:PySem.W.keepIn K (.ref f)=true):DefInT K x st c:=⟨_,_,a,wqc l cc k,rfl⟩
theorem DefInT.cal {ps:List Str}{k:Nat}{sp:Sp}{h:Heap}(d:DefInT K x st c)(KX:K.In h)(G:h.Ns mainGlobals mg)(b:xk x st ps)(ok:∀f fd,FunT K x st c f fd→FnOk P w K mg base (CXE P w) k f fd ps sp):Cal P w K mg base x k sp:=by
 obtain ⟨f,fd,a,F⟩:=d.ex
 exact ⟨f,fd,ps,bM KX G a,ok f fd F,F.F.kp,F.F.binds b⟩
end
end L2
namespace L2
open PySem PySem.Spec PyProof.Rows
theorem wwp {K:Aa}{M:List Nat}{a:Addr}{xs:List V}{te:TE}{σ:St}{H:Hp}{Q:VK}(G:Nat→V→Hp→Prop)(gs:StayT G)(hS:SqL K H a xs)(hn:xs.length≤1000000)
  (he:∀(i:Nat) (x:V) (H':Hp) (R:VK),xs[i]?=some x→Same H H'→(∀v H'',Same H' H''→G i v H''→R v H'')→te (x9 M σ (some x)) H' R)
  (k:∀p ys H',H p=none→Same H H'→H' p=some (.lst ys)→ys.length=xs.length→(∀j v,ys[j]?=some v→G j v H')→Q (.ref p) H'):uz (Itl K a) M te σ H Q:=by
 intro p np
 have big:(1000000:Nat)<sizeLine:=by decide
 refine ⟨λi m ys H2=>i≤xs.length∧m=xs.length-i∧ys.length=i∧Same H H2∧H2 p=some (.lst ys)∧∀j v,ys[j]?=some v→G j v H2,⟨xs.length,aN _,rfl,rfl,Same.upd np,qb,λj v e=>by cases e⟩,?_⟩
 rintro i m ys H2 ⟨hi,rfl,hl,sm,hp,hG⟩
 have hS':SqL K H2 a xs:=Same.sql sm hS
 refine ⟨hp,by omega,?_⟩
 by_cases hlt:i<xs.length
 ·have hx:xs[i]?=some xs[i]:=aa hlt
  refine .inr ⟨⟨xs,_,hS',hx⟩,?_⟩
  rintro v H3 ⟨rfl,hv⟩
  have e0:=hv xs hS'
  rw [hx] at e0
  have e':=aj e0
  subst e'
  clear e0
  refine he i _ _ _ hx sm λw H4 s4 g4=>?_
  have hp4:=s4 _ _ hp
  have st:∀b o,(∀xs,o≠.lst xs)→H4 b=some o→upd H4 p (.lst (ys++[w])) b=some o:=λb o no e=>by
   rw [qr]
   ·exact e
   ·intro z
    rw [z,hp4] at e
    exact no _ (aj e).symm
  refine ⟨hp4,xs.length-(i+1),by omega,by omega,rfl,by rw [ai,hl];rfl,λb o e=>?_,qb,λj v e=>?_⟩
  ·rw [qr (q8 e np)]
   exact s4 _ _ (sm _ _ e)
  ·rcases aV j ys.length with z|z
   ·rw [aK z] at e
    exact gs j v _ _ (hG j v e) λb o no e=>st b o no (s4 _ _ e)
   ·rw [av z] at e
    have hj:j=i:=by
     rcases aV (j-ys.length) 1 with y|y
     ·omega
     ·rw [az (by simpa using y)] at e
      cases e
    subst hj
    rw [show j-ys.length=0 by omega] at e
    cases e
    exact gs j _ _ _ g4 st
 ·have:i=xs.length:=by omega
  subst this
  exact .inl ⟨⟨xs,hS',Nat.le_refl _⟩,k p ys H2 np sm hp hl hG⟩
theorem xx6 {X:Cx}{K:Aa}(hK:X.K=K)(hu:X.A.units+64<cLine):OpR X (compareOp .Eq) (rEqD K false):=by
 subst hK
 exact op_eqD hu
theorem wys {X:Cx}{P:Ac}{w:World}(hP:X.prog=P)(hw:X.w=w)(hu:X.A.units+64<cLine):W7 X (addT P w):=by
 subst hP hw
 exact xzf hu
theorem wu9 {X:Cx}{P:Ac}{w:World}(hP:X.prog=P)(hw:X.w=w):W7 X (addI P w):=by
 subst hP hw
 exact xzd
end L2
namespace L2
open PySem PySem.Spec PyProof.Rows
def PtV (H:Hp)(v:V)(p:Int×Int):Prop:=∃a,v=.ref a∧H a=some (.tup [.int p.1,.int p.2])
def ww2 (H:Hp)(q:Int×Int):Value→Bool
 |.ref a=>match H a with
  |some (.tup [.int x,.int y])=>decide ((x,y)=q)
  |_=>false
 |_=>false
theorem wx4 {H:Hp}{q p:Int×Int}{a:Addr}(h:H a=some (.tup [.int p.1,.int p.2])):ww2 H q (.ref a)=decide (p=q):=by
 simp only [ww2,h]
theorem xxb {X:Cx}{pins:List (Addr×Obj)}{σ:St}{H:Hp}{s:Ab}{A:Around}(I:Inv X pins σ H s)(hu:A.units<cLine){a b:Addr}{p q:Int×Int}(ha:H a=some (.tup [.int p.1,.int p.2]))(hb:H b=some (.tup [.int q.1,.int q.2])):SeqAt.EqAt A s (.ref a) (.ref b) (decide (p=q)):=by
 by_cases e:a=b
 ·subst e
  rw [ha] at hb
  have:p=q:=by
   injection hb with hb
   injection hb with hb
   injection hb with h1 h2
   injection h2 with h2 _
   injection h1 with h1
   injection h2 with h2
   exact hX h1 h2
  rw [decide_eq_true this]
  exact SeqAt.EqAt.same _
 ·refine SeqAt.EqAt.of_refs e ?_
  obtain ⟨its,r1,t1,_⟩:=I.tuple (SqT.of (K:=X.K) ha)
  obtain ⟨its2,r2,t2,_⟩:=I.tuple (SqT.of (K:=X.K) hb)
  obtain ⟨u1,u2,rfl,⟨k1,rfl⟩,⟨k2,rfl⟩⟩:=r1.two
  obtain ⟨w1,w2,rfl,⟨m1,rfl⟩,⟨m2,rfl⟩⟩:=r2.two
  have h:=SeqAt.RcAt.tuples (A:=A) (s:=s) (e:=λj=>if j=0 then p.1==q.1 else p.2==q.2) (show s.heap.IsTuple a _ from t1) (show s.heap.IsTuple b _ from t2) hu λj h1 h2=>by
   have hj:j<2:=by simpa using h1
   rcases (by omega:j=0∨j=1) with z|z
   ·subst z
    exact gv _ _ _ _
   ·subst z
    exact gv _ _ _ _
  have e2:((List.range (min [Value.int p.1 k1,Value.int p.2 k2].toArray.size [Value.int q.1 m1,Value.int q.2 m2].toArray.size)).all (λj=>if j=0 then p.1==q.1 else p.2==q.2)&&[Value.int p.1 k1,Value.int p.2 k2].toArray.size==[Value.int q.1 m1,Value.int q.2 m2].toArray.size)=decide (p=q):=by
   rw [cD]
   simp [List.range_succ,Prod.ext_iff]
  rw [e2] at h
  exact h
section
variable {X:Cx}{pins:List (Addr×Obj)}{σ:St}{H:Hp}{s:Ab}
theorem quh {q:Int×Int}:∀ {vs:List V} {ps:List (Int×Int)} {us:List Value},Paired (PtV H) vs ps→Vals vs us→us.any (ww2 H q)=decide (q∈ps)
 |_,_,_,.nil,.nil=>by simp
 |_,p::ps,_,.cons h t,.cons r rs=>by
  obtain ⟨a,rfl,ha⟩:=h
  cases r
  rw [iS,quh t rs,wx4 ha,cD]
  simp only [Bool.or_eq_true,eZ,ay]
  exact ⟨λz=>z.elim (λy=>.inl y.symm) .inr,λz=>z.elim (λy=>.inl y.symm) .inr⟩
theorem qu4 (I:Inv X pins σ H s){A:Around}(hu:A.units<cLine){b:Addr}{q:Int×Int}(hb:H b=some (.tup [.int q.1,.int q.2])):∀ {vs:List V} {ps:List (Int×Int)} {us:List Value},Paired (PtV H) vs ps→Vals vs us→∀u∈us,SeqAt.EqAt A s u (.ref b) (ww2 H q u)
 |_,_,_,.nil,.nil,u,hu'=>by cases hu'
 |_,_,_,.cons h t,.cons r rs,u,hu'=>by
  obtain ⟨a,rfl,ha⟩:=h
  cases r
  rcases ay.mp hu' with rfl|hu'
  ·rw [wx4 ha]
   exact xxb I hu ha hb
  ·exact qu4 I hu hb t rs u hu'
def xx9:R2:=λx y H Q=>∃l b vs ps q,x=.ref b∧y=.ref l∧H l=some (.lst vs)∧Paired (PtV H) vs ps∧H b=some (.tup [.int q.1,.int q.2])∧Q (.bl (!decide (q∈ps))) H
theorem wjx (hu:X.A.units+64<cLine):OpR X (compareOp .NotIn) xx9:=by
 intro pins s σ H x y v u Q I rx ry h
 obtain ⟨l,b,vs,ps,q,rfl,rfl,hl,hp,hb,k⟩:=h
 cases rx
 cases ry
 obtain ⟨its,r,pl,hz⟩:=I.list (SqL.of (K:=X.K) hl)
 refine SeqAt.notIn_listAt (ww2 H q) pl.isList (λw hw=>qu4 I (A:=X.A.in1) (by show X.A.units+1<cLine;omega) hb hp r w (by simpa using hw)) ⟨.bl _,H,I,rfl,?_⟩
 rw [show its.toArray.any (ww2 H q)=its.any (ww2 H q) by simp,quh hp r]
 exact k
end
end L2
namespace PySem
open PySem.Spec PyProof.Rows L2
section
variable {prog:Ac}{w:World}{A:Around}{E:Value→Ab→Prop}{s:Ab}
theorem wku {l:Addr}{items:Array Value}{kf:Nat→List Key}{Q:Value→Ab→Prop}(hh:A.handled=none)(hu:A.units+64<cLine)(hl:s.heap.IsList l items)
  (hk:∀i v,items[i]?=some v→∃a,v=.ref a∧(KD prog w).is s.heap (kf i) a) (dis:∀i j,i<j→j<items.size→kf i≠kf j) (hn:items.size<400)
  (h:∀h' tk ks es ep t e o,StAt prog w s.heap.objs.size h' s.heap.objs.size ks es ep t e o→ks.length=items.size→(∀b o,s.heap.get? b=some o→h'.get? b=some o)→Q (.ref s.heap.objs.size) { s with heap:=h',toks:=tk }) :
  wpAny (model prog w) A (call (.type "set") [.ref l]) Q E s:=by
 obtain ⟨c,tl,hmro⟩:=dR.mro
 have hmade:=dR.made
 have hsub:=dR.sub
 (refine iv (iE ?_) ;show wpAny _ _ (callAny (.type "set") _) _ _ _ ;refine wpAny_pure ⟨Code.quiet_builtin _ (by decide +kernel),dr F.entry_type_call ?_⟩ ;rw [Around.under_plain (weight_type_call_type "set" [.ref l] []) rfl])
 have h1:=dR.notType
 have h2:=dR.canCreate
 have hct:=F.typeCall_set_1 (.ref l)
 repeat (any_goals (first | assumption | wp_step))
 refine du (code_set_new_1 (.ref l) (E:=E) (Q₁:=λobj s₁=>∃led:Bool,obj=.ref s.heap.objs.size∧s₁={ s with heap:=s.heap.push ⟨.type "set",none,.set #[] 0 (.fresh 0 0 led),#[]⟩ }) λled=>⟨led,rfl,rfl⟩) λr s₁ hr=>?_
 cases r with
 |error e=>exact hr
 |ok fl =>
  cases fl with
  |ret obj =>
   obtain ⟨led,rfl,rfl⟩:=hr
   have hS:(s.heap.push ⟨.type "set",none,.set #[] 0 (.fresh 0 0 led),#[]⟩).get? s.heap.objs.size=some ⟨.type "set",none,.set #[] 0 (.fresh 0 0 led),#[]⟩:=ak _ rfl
   have hT:Shared.TypeIs { s with heap:=s.heap.push ⟨.type "set",none,.set #[] 0 (.fresh 0 0 led),#[]⟩ } (.ref s.heap.objs.size) "set" := ⟨_,hS,rfl⟩
   have hli:=dR.init.lookup
   have hbi:=dR.init.bind (.ref s.heap.objs.size)
   repeat (any_goals (first | assumption | wp_step))
   refine du (codeAny_call_builtin (R:=wants (λr s₂=>r=.none∧∃h' tk ks es ep t e o,s₂={ s with heap:=h',toks:=tk }∧StAt prog w s.heap.objs.size h' s.heap.objs.size ks es ep t e o∧ks.length=items.size∧(∀b o,s.heap.get? b=some o→h'.get? b=some o)) E) dR.init.plain F.entry_set_init (check_set_init_1 hT ?_)) λr₂ s₂ hr₂=>?_
   ·obtain ⟨⟨_,odict,_,oslots⟩,hol,rfl,nl,rfl⟩:=id hl
    have hol':=Heap.get?_push_of_some (⟨.type "set",none,.set #[] 0 (.fresh 0 0 led),#[]⟩:Obj) hol
    have hsls:=F.sub_list_set
    have hslf:=F.sub_list_frozenset
    have hne:(Value.type "list" == Value.type "dict")=false:=by decide
    have hl1:(s.heap.push ⟨.type "set",none,.set #[] 0 (.fresh 0 0 led),#[]⟩).IsList l items:=⟨_,hol',rfl,nl,rfl⟩
    unfold Builtin.«set.__init__» noKeywords Builtin.Frozenset.updateFrom
    generalize hPI:pyIter=PI
    wp_walk
    subst hPI
    (refine d6 hl1 ?_ ;refine wpAny_bind (wpAny_runValue ?_))
    have hlS:l<s.heap.objs.size:=af hol
    have zI:(s.heap.push ⟨.type "set",none,.set #[] 0 (.fresh 0 0 led),#[]⟩).objs.size=s.heap.objs.size+1:=bw _ _
    have W:=iz (prog:=prog) (w:=w) (A:=A.in1.in1.in1) (by simp [hh]) (s.heap.push ⟨.type "set",none,.set #[] 0 (.fresh 0 0 led),#[]⟩).objs.size l (by rw [zI];exact ar (dB hlS)) items
    have P0:StAt prog w s.heap.objs.size ((s.heap.push ⟨.type "set",none,.set #[] 0 (.fresh 0 0 led),#[]⟩).push ⟨.type "list_iterator",none,.fields #[.ref l,.int 0 0],#[]⟩) s.heap.objs.size [] #[] 0 (.fresh 0 0 led) 3 ⟨.type "set",none,.set #[] 0 (.fresh 0 0 led),#[]⟩ :=
     ⟨Heap.get?_push_of_some _ hS,⟨rfl,rfl,rfl⟩,rfl,rfl,rfl,rfl,by decide,by decide,(show 0*5<7*3 by decide),rfl,λp hp=>by cases hp⟩
    refine xq4 (A:=A.in1.in1) (B:=s.heap.objs.size) (S:=s.heap.objs.size) W ?_ (Nat.le_refl _) ?_ kf ?_ hn dis (items.size-0) 0 _ [] #[] 0 (.fresh 0 0 led) 3 _ (by omega) ⟨⟨_,ak _ rfl,rfl,rfl⟩,(hl1.push _)⟩ (λj v hv=>?_) P0 rfl (λk hk=>by cases hk) λh' tk ks es ep t e o P l1 k1=>?_
    ·rw [zI]
     simp only [ay,eB,iV,not_or]
     exact ⟨ar (cK _),cY hlS⟩
    ·intro b hb
     obtain rfl:=aG.mp hb
     rw [zI]
     exact gP _
    ·show A.units+3<cLine
     omega
    ·obtain ⟨a,e1,e2⟩:=hk j v hv
     have ha:a<s.heap.objs.size:=let ⟨_,_,_,e,_⟩:=e2;af e
     exact ⟨a,e1,ha,qqj e2 λo e=>Heap.get?_push_of_some _ (Heap.get?_push_of_some _ e)⟩
    ·show wpAny _ _ _ _ _ _
     refine wpAny_pure ?_
     show wpAny _ _ (ret Value.none) _ _ _
     refine wpAny_pure ⟨rfl,h',tk,ks,es,ep,t,e,o,rfl,P,l1,λb o e=>k1 b o (λz=>?_) (Heap.get?_push_of_some _ (Heap.get?_push_of_some _ e))⟩
     have hb:b<s.heap.objs.size:=af e
     rcases ay.mp z with z|z
     ·exact aI _ (z▸hb)
     ·have z':=aG.mp z
      rw [zI] at z'
      rw [z'] at hb
      exact absurd hb (Nat.not_lt_of_lt (cK _))
   ·cases r₂ with
    |error e=>exact hr₂
    |ok fl₂ =>
     cases fl₂ with
     |ret r =>
      obtain ⟨rfl,h',tk,ks,es,ep,t,e,o,rfl,P,l1,k1⟩:=hr₂
      repeat (any_goals (first | assumption | wp_step))
      exact h _ _ ks es ep t e o P l1 k1
     |next=>exact hr₂.elim
     |brk=>exact hr₂.elim
     |cont=>exact hr₂.elim
  |next=>exact hr.elim
  |brk=>exact hr.elim
  |cont=>exact hr.elim
end
end PySem
namespace L2
open PySem PySem.Spec PySem.Calls PySem.W PyProof.Rows
def wws (l:Addr)(n:Nat):HO:=.ext λh=>∃o es ep t,h.get? l=some o∧o.ExactSet∧o.data=.set es ep t∧t.fits es.size=true∧es.size=n
section
variable {X:Cx}
theorem wjs (hc:X.calm=true)(hu:X.A.units+64<cLine):v8 X (.type "set") (λxs H Q=>∃(p:Addr) (vs:List V) (pt:Nat→Int×Int),xs=[.ref p]∧SqL X.K H p vs ∧
  (∀i v,vs[i]?=some v→∃a,v=.ref a∧H a=some (.tup [.int (pt i).1,.int (pt i).2]))∧(∀i j,i<j→j<vs.length→pt i≠pt j)∧vs.length<400∧∀l,H l=none→Q (.ref l) (upd H l (wws l vs.length))):=by
 intro pins s σ H xs us Q I r h
 obtain ⟨p,vs,pt,rfl,hS,hP,hd,hn,q⟩:=h
 obtain ⟨u,rfl,ru⟩:=k7 r
 cases (show u=Value.ref p from ru)
 obtain ⟨its,rv,pl,hz⟩:=I.list hS
 have hlen:its.length=vs.length:=rv.length.symm
 refine wku (kf:=λi=>[Sum.inl (pt i).1,Sum.inl (pt i).2]) (I.ok.hd hc) hu pl.isList (λi v hv=>?_) (λi j hij hj e=>?_) (by rw [ah];omega) λh' tk ks es ep t e o P l1 k1=>?_
 ·have hi:i<vs.length:=by
   have:=(bB.mp hv).1
   rw [ah] at this
   omega
  obtain ⟨u,eu,ru⟩:=rv.get (i:=i) (aa hi)
  obtain ⟨a,ea,fa⟩:=hP i _ (aa hi)
  rw [ea] at ru
  obtain rfl:u=Value.ref a:=ru
  have ev:v=Value.ref a:=by
   have:its.toArray[i]?=some (.ref a):=by simpa using eu
   exact aj (hv.symm.trans this)
  exact ⟨a,ev,wqd I.hok fa⟩
 ·rw [ah] at hj
  refine hd i j hij (by omega) ?_
  have e1:[Sum.inl (pt i).1,Sum.inl (pt i).2]=([Sum.inl (pt j).1,Sum.inl (pt j).2]:List Key):=e
  injection e1 with e2 e3
  injection e3 with e4 e5
  exact hX (iJ e2) (iJ e4)
 ·rw [ah,hlen] at l1
  refine ⟨.ref s.heap.objs.size,_,I.laid (a:=s.heap.objs.size) (o:=wws s.heap.objs.size vs.length) (t':=tk) k1 (Nat.le_refl _) ⟨⟨o,es,ep,t,P.ho,P.ex,P.hd,P.fits,by rw [P.len,l1]⟩,⟨o,P.ho⟩,λh1 h2 ⟨o,es,ep,t,e1,r⟩ k=>⟨o,es,ep,t,k _ e1,r⟩⟩,rfl,q _ (I.hok.fresh (Nat.le_refl _))⟩
theorem wkr:v8 X (.builtin "len") (λxs H Q=>∃(l:Addr) (n:Nat),xs=[.ref l]∧H l=some (wws l n)∧n<400∧Q (.int n) H):=by
 intro pins s σ H xs us Q I r h
 obtain ⟨l,n,rfl,hl,hn,q⟩:=h
 obtain ⟨u,rfl,ru⟩:=k7 r
 cases (show u=Value.ref l from ru)
 obtain ⟨⟨o,es,ep,t,e1,e2,e3,e4,e5⟩,_⟩:=I.hok l _ hl
 refine call_len_set e1 e2 e3 e4 (by rw [e5];omega) ?_
 rw [e5]
 exact ⟨.int n,H,I.tok _,⟨_,rfl⟩,q⟩
end
end L2
namespace L2
theorem exI {α:Sort _}{A K:α→Prop}{v:α}(e:A v)(h:K v):∃x,A x∧K x:=⟨v,e,h⟩
theorem wy {α β:Sort _}{A:α→Prop}{B:β→Prop}{K:α→β→Prop}{u:α}{v:β}(a:A u)(b:B v)(h:K u v):∃x y,A x∧B y∧K x y:=⟨u,v,a,b,h⟩
theorem exX {α β γ δ:Sort _}{A:α→Prop}{B:γ→Prop}{C:α→β→Prop}{D:β→γ→δ→Prop}{K:δ→Prop}{p:α}{xs:β}{i:γ}{v:δ}(a:A p)(b:B i)(c:C p xs)(d:D xs i v)(h:K v):∃p xs i v,A p∧B i∧C p xs∧D xs i v∧K v:=⟨p,xs,i,v,a,b,c,d,h⟩
end L2
namespace My
open PySem L2
def top (i:Nat):Stmt:=PySem.Challenge.pw_crookroad_k24_whole_rows_and_points.main.body.getD i (.Pass ⟨0,0,0,0⟩)
abbrev s_check_count:Stmt:=top 9
theorem qxb:FnScope ["number","fewest","most"] ["number","fewest","most"] (qp s_check_count):=⟨rfl,rfl,rfl,by decide +kernel,rfl,by decide +kernel,by decide +kernel⟩
theorem qwr:W8 "check_count" s_check_count ["number","fewest","most"] []:=λ_ _ _ _ _ _ _ us hl=>match us,hl with | [_,_,_],_=>exI rfl rfl
theorem qxy:W8 "check_count" s_check_count ["number","fewest","most"] [.none]:=λ_ _ _ _ _ _ _ us hl=>by
 have h2:us.length=2:=by simpa using hl
 match us,h2 with
 |[_,_],_=>exact exI rfl rfl
abbrev s_covered:Stmt:=top 13
theorem ww1:FnScope ["road","stretch","lesser","greater"] ["road","stretch"] (qp s_covered):=⟨rfl,rfl,rfl,by decide +kernel,rfl,by decide +kernel,by decide +kernel⟩
theorem wqb:xk "covered" s_covered ["road","stretch"]:=λ_ _ _ _ _ _ us hl=>match us,hl with | [_,_],_=>rfl
abbrev s_covers_of:Stmt:=top 14
theorem qjt:FnScope ["road"] ["road"] (qp s_covers_of):=⟨rfl,rfl,rfl,by decide +kernel,rfl,by decide +kernel,by decide +kernel⟩
theorem qkp:xk "covers_of" s_covers_of ["road"]:=λ_ _ _ _ _ _ us hl=>match us,hl with | [_],_=>rfl
abbrev s_ways_of_no_step:Stmt:=top 15
theorem Wz:FnScope ["width"] ["width"] (qp s_ways_of_no_step):=⟨rfl,rfl,rfl,by decide +kernel,rfl,by decide +kernel,by decide +kernel⟩
theorem Wg:xk "ways_of_no_step" s_ways_of_no_step ["width"]:=λ_ _ _ _ _ _ us hl=>match us,hl with | [_],_=>rfl
abbrev s_one_step_more:Stmt:=top 16
theorem Y8:FnScope ["covers","table"] ["covers","table"] (qp s_one_step_more):=⟨rfl,rfl,rfl,by decide +kernel,rfl,by decide +kernel,by decide +kernel⟩
theorem Yk:xk "one_step_more" s_one_step_more ["covers","table"]:=λ_ _ _ _ _ _ us hl=>match us,hl with | [_,_],_=>rfl
abbrev s_ways_up_to:Stmt:=top 17
theorem qzq:FnScope ["road","many","covers","tables"] ["road","many"] (qp s_ways_up_to):=⟨rfl,rfl,rfl,by decide +kernel,rfl,by decide +kernel,by decide +kernel⟩
theorem qzu:xk "ways_up_to" s_ways_up_to ["road","many"]:=λ_ _ _ _ _ _ us hl=>match us,hl with | [_,_],_=>rfl
abbrev s_rows_from:Stmt:=top 18
theorem qk5:FnScope ["first","covers","tables","many","begun","left"] ["first","covers","tables"] (qp s_rows_from):=⟨rfl,rfl,rfl,by decide +kernel,rfl,by decide +kernel,by decide +kernel⟩
theorem qjs:xk "rows_from" s_rows_from ["first","covers","tables"]:=λ_ _ _ _ _ _ us hl=>match us,hl with | [_,_,_],_=>rfl
abbrev s_rows:Stmt:=top 19
theorem xw5:FnScope ["road","many","tables","covers","closed","first"] ["road","many"] (qp s_rows):=⟨rfl,rfl,rfl,by decide +kernel,rfl,by decide +kernel,by decide +kernel⟩
theorem xxp:xk "rows" s_rows ["road","many"]:=λ_ _ _ _ _ _ us hl=>match us,hl with | [_,_],_=>rfl
abbrev s_check_bottom:Stmt:=top 21
theorem qqq:FnScope ["bottom"] ["bottom"] (qp s_check_bottom):=⟨rfl,rfl,rfl,by decide +kernel,rfl,by decide +kernel,by decide +kernel⟩
theorem Jr:xk "check_bottom" s_check_bottom ["bottom"]:=λ_ _ _ _ _ _ us hl=>match us,hl with | [_],_=>rfl
abbrev s_common_divisor:Stmt:=top 22
theorem Zd:FnScope ["one","other"] ["one","other"] (qp s_common_divisor):=⟨rfl,rfl,rfl,by decide +kernel,rfl,by decide +kernel,by decide +kernel⟩
theorem W9:xk "common_divisor" s_common_divisor ["one","other"]:=λ_ _ _ _ _ _ us hl=>match us,hl with | [_,_],_=>rfl
abbrev s_lowest:Stmt:=top 23
theorem wv7:FnScope ["top","bottom","divisor"] ["top","bottom"] (qp s_lowest):=⟨rfl,rfl,rfl,by decide +kernel,rfl,by decide +kernel,by decide +kernel⟩
theorem wv8:xk "lowest" s_lowest ["top","bottom"]:=λ_ _ _ _ _ _ us hl=>match us,hl with | [_,_],_=>rfl
abbrev s_ordered:Stmt:=top 24
theorem wwm:FnScope ["points","point","greatest","scale"] ["points"] (qp s_ordered):=⟨rfl,rfl,rfl,by decide +kernel,rfl,by decide +kernel,by decide +kernel⟩
theorem wq5:xk "ordered" s_ordered ["points"]:=λ_ _ _ _ _ _ us hl=>match us,hl with | [_],_=>rfl
abbrev s_walked:Stmt:=top 27
theorem wkv:FnScope ["road","point","many","here","points"] ["road","point","many"] (qp s_walked):=⟨rfl,rfl,rfl,by decide +kernel,rfl,by decide +kernel,by decide +kernel⟩
theorem wk7:xk "walked" s_walked ["road","point","many"]:=λ_ _ _ _ _ _ us hl=>match us,hl with | [_,_,_],_=>rfl
abbrev s_check_row:Stmt:=top 29
theorem qkx:FnScope ["road","row","stretch","onward"] ["road","row"] (qp s_check_row):=⟨rfl,rfl,rfl,by decide +kernel,rfl,by decide +kernel,by decide +kernel⟩
theorem qkq:xk "check_row" s_check_row ["road","row"]:=λ_ _ _ _ _ _ us hl=>match us,hl with | [_,_],_=>rfl
abbrev s_line_along:Stmt:=top 30
theorem qzm:FnScope ["road","row","steep","height","stretch","slope","left"] ["road","row"] (qp s_line_along):=⟨rfl,rfl,rfl,by decide +kernel,rfl,by decide +kernel,by decide +kernel⟩
theorem qzg:xk "line_along" s_line_along ["road","row"]:=λ_ _ _ _ _ _ us hl=>match us,hl with | [_,_],_=>rfl
abbrev s_fixed_point:Stmt:=top 31
theorem qww:FnScope ["road","row","steep","height"] ["road","row"] (qp s_fixed_point):=⟨rfl,rfl,rfl,by decide +kernel,rfl,by decide +kernel,by decide +kernel⟩
theorem qwf:xk "fixed_point" s_fixed_point ["road","row"]:=λ_ _ _ _ _ _ us hl=>match us,hl with | [_,_],_=>rfl
abbrev s_point_of:Stmt:=top 32
theorem qyn:FnScope ["road","row"] ["road","row"] (qp s_point_of):=⟨rfl,rfl,rfl,by decide +kernel,rfl,by decide +kernel,by decide +kernel⟩
theorem qy6:xk "point_of" s_point_of ["road","row"]:=λ_ _ _ _ _ _ us hl=>match us,hl with | [_,_],_=>rfl
abbrev s_corners_back:Stmt:=top 33
theorem qqv:FnScope ["road","many","corners"] ["road","many"] (qp s_corners_back):=⟨rfl,rfl,rfl,by decide +kernel,rfl,by decide +kernel,by decide +kernel⟩
theorem qqx:xk "corners_back" s_corners_back ["road","many"]:=λ_ _ _ _ _ _ us hl=>match us,hl with | [_,_],_=>rfl
abbrev s_lies_in:Stmt:=top 34
theorem wxd:FnScope ["point","stretches","top","bottom"] ["point","stretches"] (qp s_lies_in):=⟨rfl,rfl,rfl,by decide +kernel,rfl,by decide +kernel,by decide +kernel⟩
theorem wqg:xk "lies_in" s_lies_in ["point","stretches"]:=λ_ _ _ _ _ _ us hl=>match us,hl with | [_,_],_=>rfl
abbrev s_back:Stmt:=top 35
theorem xzx:FnScope ["road","many","closed","fixed","wholes","single","points"] ["road","many"] (qp s_back):=⟨rfl,rfl,rfl,by decide +kernel,rfl,by decide +kernel,by decide +kernel⟩
theorem xxz:xk "back" s_back ["road","many"]:=λ_ _ _ _ _ _ us hl=>match us,hl with | [_,_],_=>rfl
abbrev s_is_line:Stmt:=top 38
theorem wq6:FnScope ["heights","width"] ["heights"] (qp s_is_line):=⟨rfl,rfl,rfl,by decide +kernel,rfl,by decide +kernel,by decide +kernel⟩
theorem wwv:xk "is_line" s_is_line ["heights"]:=λ_ _ _ _ _ _ us hl=>match us,hl with | [_],_=>rfl
abbrev s_Road___init__:Stmt:=yd (top 39) 0
theorem Z2:FnScope ["self","heights"] ["self","heights"] (qp s_Road___init__):=⟨rfl,rfl,rfl,by decide +kernel,rfl,by decide +kernel,by decide +kernel⟩
theorem Yv:k9 "__init__" "Road.__init__" s_Road___init__ ["self","heights"]:=λ_ _ _ _ _ _ us hl=>match us,hl with | [_,_],_=>rfl
abbrev s_Road_width:Stmt:=yd (top 39) 1
theorem qzc:FnScope ["self"] ["self"] (qp s_Road_width):=⟨rfl,rfl,rfl,by decide +kernel,rfl,by decide +kernel,by decide +kernel⟩
theorem qzt:k9 "width" "Road.width" s_Road_width ["self"]:=λ_ _ _ _ _ _ us hl=>match us,hl with | [_],_=>rfl
abbrev s_Road_ends:Stmt:=yd (top 39) 3
theorem qjv:FnScope ["self","stretch"] ["self","stretch"] (qp s_Road_ends):=⟨rfl,rfl,rfl,by decide +kernel,rfl,by decide +kernel,by decide +kernel⟩
theorem qju:k9 "ends" "Road.ends" s_Road_ends ["self","stretch"]:=λ_ _ _ _ _ _ us hl=>match us,hl with | [_,_],_=>rfl
abbrev s_Road_slope:Stmt:=yd (top 39) 4
theorem qzh:FnScope ["self","stretch","left","right"] ["self","stretch"] (qp s_Road_slope):=⟨rfl,rfl,rfl,by decide +kernel,rfl,by decide +kernel,by decide +kernel⟩
theorem qz6:k9 "slope" "Road.slope" s_Road_slope ["self","stretch"]:=λ_ _ _ _ _ _ us hl=>match us,hl with | [_,_],_=>rfl
abbrev s_Road_reach:Stmt:=yd (top 39) 5
theorem qzv:FnScope ["self","stretch","left","right"] ["self","stretch"] (qp s_Road_reach):=⟨rfl,rfl,rfl,by decide +kernel,rfl,by decide +kernel,by decide +kernel⟩
theorem qz2:k9 "reach" "Road.reach" s_Road_reach ["self","stretch"]:=λ_ _ _ _ _ _ us hl=>match us,hl with | [_,_],_=>rfl
abbrev s_Road_on_road:Stmt:=yd (top 39) 6
theorem J1:FnScope ["self","point","top","bottom"] ["self","point"] (qp s_Road_on_road):=⟨rfl,rfl,rfl,by decide +kernel,rfl,by decide +kernel,by decide +kernel⟩
theorem Jp:k9 "on_road" "Road.on_road" s_Road_on_road ["self","point"]:=λ_ _ _ _ _ _ us hl=>match us,hl with | [_,_],_=>rfl
abbrev s_Road_at:Stmt:=yd (top 39) 7
theorem ww3:FnScope ["self","point","top","bottom","stretch","left","right","beyond"] ["self","point"] (qp s_Road_at):=⟨rfl,rfl,rfl,by decide +kernel,rfl,by decide +kernel,by decide +kernel⟩
theorem wqp:k9 "at" "Road.at" s_Road_at ["self","point"]:=λ_ _ _ _ _ _ us hl=>match us,hl with | [_,_],_=>rfl
abbrev s__law_cell:Stmt:=top 41
theorem qv8:FnScope ["_law_script","_law_at"] ["_law_script","_law_at"] (qp s__law_cell):=⟨rfl,rfl,rfl,by decide +kernel,rfl,by decide +kernel,by decide +kernel⟩
theorem qku:xk "_law_cell" s__law_cell ["_law_script","_law_at"]:=λ_ _ _ _ _ _ us hl=>match us,hl with | [_,_],_=>rfl
abbrev s__law_pick:Stmt:=top 42
theorem qkw:FnScope ["_law_script","_law_at","_law_turn","_law_many","_law_cell_here","_law_left","_law_k","_law_low_here","_law_one","_law_two"] ["_law_script","_law_at","_law_turn","_law_many"] (qp s__law_pick):=⟨rfl,rfl,rfl,by decide +kernel,rfl,by decide +kernel,by decide +kernel⟩
theorem qk3:xk "_law_pick" s__law_pick ["_law_script","_law_at","_law_turn","_law_many"]:=λ_ _ _ _ _ _ us hl=>match us,hl with | [_,_,_,_],_=>rfl
abbrev s__law_climb:Stmt:=top 43
theorem qz1:FnScope ["_law_script","_law_at","_law_wide","_law_row","_law_k"] ["_law_script","_law_at","_law_wide"] (qp s__law_climb):=⟨rfl,rfl,rfl,by decide +kernel,rfl,by decide +kernel,by decide +kernel⟩
theorem qx8:xk "_law_climb" s__law_climb ["_law_script","_law_at","_law_wide"]:=λ_ _ _ _ _ _ us hl=>match us,hl with | [_,_,_],_=>rfl
abbrev s__law_heights:Stmt:=top 44
theorem qqk:FnScope ["_law_script","_law_at","_law_most","_law_wide","_law_kind"] ["_law_script","_law_at","_law_most"] (qp s__law_heights):=⟨rfl,rfl,rfl,by decide +kernel,rfl,by decide +kernel,by decide +kernel⟩
theorem Jn:xk "_law_heights" s__law_heights ["_law_script","_law_at","_law_most"]:=λ_ _ _ _ _ _ us hl=>match us,hl with | [_,_,_],_=>rfl
abbrev s__law_crowds:Stmt:=top 45
theorem qw1:FnScope ["_law_heights_here","_law_most","_law_wide","_law_found","_law_made","_law_turn","_law_fresh","_law_k","_law_low_here"] ["_law_heights_here","_law_most"] (qp s__law_crowds):=⟨rfl,rfl,rfl,by decide +kernel,rfl,by decide +kernel,by decide +kernel⟩
theorem qxj:xk "_law_crowds" s__law_crowds ["_law_heights_here","_law_most"]:=λ_ _ _ _ _ _ us hl=>match us,hl with | [_,_],_=>rfl
abbrev s__law_times:Stmt:=top 46
theorem qz0:FnScope ["_law_heights_here","_law_wish","_law_room","_law_crowds_here","_law_many"] ["_law_heights_here","_law_wish","_law_room"] (qp s__law_times):=⟨rfl,rfl,rfl,by decide +kernel,rfl,by decide +kernel,by decide +kernel⟩
theorem qzx:xk "_law_times" s__law_times ["_law_heights_here","_law_wish","_law_room"]:=λ_ _ _ _ _ _ us hl=>match us,hl with | [_,_,_],_=>rfl
abbrev s__law_whole:Stmt:=top 47
theorem qzb:FnScope ["_law_found"] ["_law_found"] (qp s__law_whole):=⟨rfl,rfl,rfl,by decide +kernel,rfl,by decide +kernel,by decide +kernel⟩
theorem qz3:xk "_law_whole" s__law_whole ["_law_found"]:=λ_ _ _ _ _ _ us hl=>match us,hl with | [_],_=>rfl
abbrev s__law_common:Stmt:=top 48
theorem qw2:FnScope ["_law_one","_law_other"] ["_law_one","_law_other"] (qp s__law_common):=⟨rfl,rfl,rfl,by decide +kernel,rfl,by decide +kernel,by decide +kernel⟩
theorem qxs:xk "_law_common" s__law_common ["_law_one","_law_other"]:=λ_ _ _ _ _ _ us hl=>match us,hl with | [_,_],_=>rfl
abbrev s__law_point:Stmt:=top 50
theorem qzk:FnScope ["_law_found"] ["_law_found"] (qp s__law_point):=⟨rfl,rfl,rfl,by decide +kernel,rfl,by decide +kernel,by decide +kernel⟩
theorem qzw:xk "_law_point" s__law_point ["_law_found"]:=λ_ _ _ _ _ _ us hl=>match us,hl with | [_],_=>rfl
abbrev s__law_points:Stmt:=top 51
theorem qxf:FnScope ["_law_found"] ["_law_found"] (qp s__law_points):=⟨rfl,rfl,rfl,by decide +kernel,rfl,by decide +kernel,by decide +kernel⟩
theorem qw5:xk "_law_points" s__law_points ["_law_found"]:=λ_ _ _ _ _ _ us hl=>match us,hl with | [_],_=>rfl
abbrev s__law_numbers:Stmt:=top 52
theorem Jm:FnScope ["_law_found"] ["_law_found"] (qp s__law_numbers):=⟨rfl,rfl,rfl,by decide +kernel,rfl,by decide +kernel,by decide +kernel⟩
theorem Js:xk "_law_numbers" s__law_numbers ["_law_found"]:=λ_ _ _ _ _ _ us hl=>match us,hl with | [_],_=>rfl
abbrev s_law:Stmt:=top 53
theorem sc_law:FnScope ["_law_script","_law_heights_here","_law_many","_law_road","_law_points_here","_law_wholes","_law_found","_law_parts","_law_firsts","_law_corners","_law_row","_law_point_here","_law_single"] ["_law_script"] (qp s_law):=⟨rfl,rfl,rfl,by decide +kernel,rfl,by decide +kernel,by decide +kernel⟩
local macro_rules | `(tactic| walk_at "sq")=>`(tactic| first | assumption | exact SqT.new | exact SqL.new | ((with_reducible refine Same.sqt (Same.upd (by assumption)) ?_);walk_at "sq") | ((with_reducible refine Same.sql (Same.upd (by assumption)) ?_);walk_at "sq"))
local macro_rules | `(tactic| walk_at "at")=>`(tactic| first | rfl | exact qqu (by omega) (by omega))
local macro_rules | `(tactic| walk_at "mul")=>`(tactic| first | assumption | exact IntMulOk.of_left (intBits_le_64 (by omega) (by omega)) | exact IntMulOk.of_right (intBits_le_64 (by omega) (by omega)) | exact Sm.ok (by assumption) (by assumption) (by decide))
local macro_rules | `(tactic| walk_at "pos")=>`(tactic| first | omega | decide +kernel)
local macro_rules | `(tactic| walk_at "div")=>`(tactic| exact ⟨by first | omega | decide +kernel,by unfold Sm;decide +kernel⟩)
local macro_rules | `(tactic| walk_at "loc")=>`(tactic| first | exact Or.inl rfl | exact Or.inr rfl)
local macro_rules | `(tactic| walk_at "cap")=>`(tactic| repeat (first | exact trivial | refine ⟨rfl,?_⟩))
local macro_rules | `(tactic| walk_at "has")=>`(tactic| repeat (first | exact trivial | (refine ⟨λz=>?_,by decide,?_⟩;(first | exact ⟨_,rfl⟩ | cases z))))
local macro_rules | `(tactic| walk_at "cix")=>`(tactic| repeat (first | exact trivial | refine ⟨⟨_,_,rfl,rfl,rfl,rfl⟩,?_⟩))
local macro_rules | `(tactic| walk_at "hasK")=>`(tactic| repeat (first | exact trivial | (refine ⟨λz=>?_,λz=>?_,?_⟩;(first | exact ⟨_,rfl⟩ | cases z);(first | rfl | cases z))))
structure Txt (K:Aa)(mg:Str→Option Value)(qm:Addr)(qx:Addr)(qd:Addr)(qy:Addr)(qh:Addr)(qc:Addr)(qk:Addr):Prop where
 len_:mg "len" = none
 set_:mg "set" = none
 abs_:mg "abs" = none
 range_:mg "range" = none
 isinstance_:mg "isinstance" = none
 int_:mg "int" = none
 bool_:mg "bool" = none
 list_:mg "list" = none
 tuple_:mg "tuple" = none
 min_:mg "min" = none
 max_:mg "max" = none
 all_:mg "all" = none
 any_:mg "any" = none
 sum_:mg "sum" = none
 sorted_:mg "sorted" = none
 zip_:mg "zip" = none
 g_BadLine:mg "BadLine" = some (.ref qm)
 x_BadLine:ExcC K qm
 g_BadBottom:mg "BadBottom" = some (.ref qx)
 x_BadBottom:ExcC K qx
 g_OffRoad:mg "OffRoad" = some (.ref qd)
 x_OffRoad:ExcC K qd
 g_BadCount:mg "BadCount" = some (.ref qy)
 x_BadCount:ExcC K qy
 g_TooLong:mg "TooLong" = some (.ref qh)
 x_TooLong:ExcC K qh
 g_BadRow:mg "BadRow" = some (.ref qc)
 x_BadRow:ExcC K qc
 cl:Cls K qk
 na:NoAttr K qk "heights"
 g_WIDEST:∃t,mg "WIDEST" = some (.int 24 t)
 g_Road:mg "Road" = some (.ref qk)
 g_LONGEST_ROW:∃t,mg "LONGEST_ROW" = some (.int 12 t)
 g_MOST_WAYS:∃t,mg "MOST_WAYS" = some (.int 1000 t)
 g_MOST_WALKED:∃t,mg "MOST_WALKED" = some (.int 1000 t)
section
variable {P:Ac}{w:World}{K:Aa}{mg:Str→Option Value}{base:Heap}{qm:Addr}{qx:Addr}{qd:Addr}{qy:Addr}{qh:Addr}{qc:Addr}{qk:Addr}
def qqh (C:Addr):Sp:=λvs H Q E=>∃b:Int,vs=[.int b]∧(1≤b→Q .non H)∧(b<1→E (.ref C) none H)
theorem xwq {f:Addr}{fd:Ad}(F:Fun K "check_bottom" "check_bottom" s_check_bottom f fd)(T:Txt K mg qm qx qd qy qh qc qk):FnOk P w K mg base (CXE P w) 1 f fd ["bottom"] (qqh qx):=by
 have sc:=qqq
 refine F.okX sc (λvs H Q E h=>by obtain ⟨b,rfl,_⟩:=h;rfl) (λcdv A outer s H vs Q E hr h=>?_)
 obtain ⟨b,rfl,h1,h2⟩:=h
 refine ⟨_,(qf (zy (wj Q2 (pv 0) qu (wb _)) (qf (ku rfl T.x_BadBottom zh rfl T.g_BadBottom (qw u9 qv))) xy)),?_⟩
 refine exI rfl (wy rfl rfl (exI rfl ?_))
 refine kh (λq1=>?_) (λq1=>?_)
 ·exact ⟨by decide,h2 q1⟩
 ·exact h1 (by omega)
theorem xxq {f:Addr}{fd:Ad}(F:Fun K "_law_cell" "_law_cell" s__law_cell f fd)(T:Txt K mg qm qx qd qy qh qc qk):FnOk P w K mg base (CXE P w) 1 f fd ["_law_script","_law_at"] (wxz K):=by
 have sc:=qv8
 refine F.okX sc (λvs H Q E h=>by obtain ⟨a,ns,i,rfl,_⟩:=h;rfl) (λcdv A outer s H vs Q E hr h=>?_)
 obtain ⟨a,ns,i,rfl,hS,h0,k⟩:=h
 have hlen:(ns.map V.int).length=ns.length:=List.length_map _
 refine ⟨_,(qj (zy (wj Q2 (pv 1) (q9 wm rfl T.len_ aZ (qw (pv 0) qv)) (wb _)) (qf (wu (xm zx (pv 0) (pv 1) (λ_ _=>rfl)))) xy)
   (qj (zy (wj Qk (q9 wm rfl T.len_ aZ (qw (pv 0) qv)) qu (wb _)) (qf (wu (wx xg (wx xp qu (pv 1)) qu))) xy)
   (qf (wu (wx xg (xm zx (pv 0) (wx km (pv 1) (q9 wm rfl T.len_ aZ (qw (pv 0) qv))) (λ_ _=>rfl)) (wx xp qu (pv 1))))))),?_⟩
 refine exI rfl (exI rfl ⟨_,_,rfl,.inl hS,wy rfl rfl (exI rfl ?_)⟩)
 refine kh (λq1=>?_) (λq1=>?_)
 ·rw [hlen] at q1
  refine exI rfl (exI rfl (exX rfl rfl hS (qqu h0 q1) ?_))
  exact k _ (by rw [qun,if_pos q1])
 ·rw [hlen] at q1
  refine exI rfl ⟨_,_,rfl,.inl hS,rfl,_,rfl,?_⟩
  rw [hlen]
  refine Q6 (λq2=>?_) (λq2=>?_)
  ·refine exI rfl (wy rfl rfl ⟨(by walk_at "mul"),wy rfl rfl ?_⟩)
   exact k _ (by rw [qun,if_neg q1,if_pos q2])
  ·refine exI rfl (exI rfl (exI rfl ⟨_,_,rfl,.inl hS,wy rfl rfl ⟨(by rw [hlen];omega),?_⟩⟩))
   rw [hlen]
   refine exX rfl rfl hS (qqu (cG _ q2) (bY _ (by omega))) (exI rfl (wy rfl rfl ⟨(by walk_at "mul"),wy rfl rfl ?_⟩))
   exact k _ (by rw [qun,if_neg q1,if_neg q2])
theorem xwd {f:Addr}{fd:Ad}(F:Fun K "_law_pick" "_law_pick" s__law_pick f fd)(T:Txt K mg qm qx qd qy qh qc qk)(c__law_cell:Cal P w K mg base "_law_cell" 1 (wxz K)):FnOk P w K mg base (CXE P w) 2 f fd ["_law_script","_law_at","_law_turn","_law_many"] (Jw K):=by
 have sc:=qkw
 refine F.okX sc (λvs H Q E h=>by obtain ⟨a,ns,i,t,m,rfl,_⟩:=h;rfl) (λcdv A outer s H vs Q E hr h=>?_)
 obtain ⟨a,ns,i,t,m,rfl,hS,h0,t0,t1,m0,k⟩:=h
 refine ⟨_,(qj (wg (i:=4) sc.nd rfl (by walk_at "loc") (ww c__law_cell (hr.mono (by decide)) rfl qg (qw (pv 0) (qw (pv 1) qv))))
   (qj (zy (wj wzv (q9 Zh rfl T.abs_ W6 (qw (pv 4) qv)) (wx op_pow qu qu) (wb _)) (qj (wg (i:=5) sc.nd rfl (by walk_at "loc") (q9 Zh rfl T.abs_ W6 (qw (pv 4) qv)))
   (qj (jz ba rfl (xr rfl T.range_ (qw (pv 2) qv)) (wn (i:=6) sc.nd rfl (by walk_at "loc")) (qf (wg (i:=5) sc.nd rfl (by walk_at "loc") (wx Qj (pv 5) qu))))
   (qj (zy (wj Q2 (pv 4) qu (wb _)) (qf (wg (i:=5) sc.nd rfl (by walk_at "loc") (wx km (pv 5) qu))) xy)
   (qf (wu (wx km (pv 5) (pv 3))))))) xy)
   (qj (wg (i:=7) sc.nd rfl (by walk_at "loc") (wx km (pv 4) qu))
   (qj (wg (i:=8) sc.nd rfl (by walk_at "loc") (wx km (wx xg (wx xg (wx xp (pv 7) qu) (wx xp (pv 2) qu)) qu) qu))
   (qj (wg (i:=9) sc.nd rfl (by walk_at "loc") (wx km (wx xg (wx xg (wx xp (pv 8) (pv 8)) (wx xp (pv 7) qu)) (wx xp (pv 2) qu)) qu))
   (qf (wu (wx km (wx km (wx xg (wx xg (wx xp (pv 9) (pv 9)) (wx xp (pv 8) qu)) (wx xp (pv 2) qu)) qu) (pv 3))))))))),?_⟩
 refine exI rfl (exI rfl ?_)
 refine ⟨a,ns,i,rfl,hS,h0,λc hc=>?_⟩
 have fin:∀v,v=qub c t%m→Q (.int v) H:=λv hv=>by
  refine k v (by rw [hv,quz,hc]) ?_ ?_
  ·rw [hv];exact cG _ (by omega)
  ·rw [hv];exact bY _ m0
 refine exI rfl (exI rfl (wy rfl rfl ⟨⟨by decide,by decide,by decide⟩,wy rfl rfl (exI rfl ?_)⟩))
 refine kh (λq1=>?_) (λq1=>?_)
 ·have q1':10 ^ 18≤yr c:=q1
  refine exI rfl (exI rfl ?_)
  refine exI rfl ⟨t,rfl,(by omega),(by omega),j7 (λj σ H1=>H1=H∧∃z,σ=[some (.ref a),some (.int i),some (.int t),some (.int m),some (.int c),some (.int (divs (yr c) j)),z,none,none,none]) ⟨rfl,_,rfl⟩ ?_ ?_⟩
  ·rintro j σ H1 hj ⟨rfl,z,rfl⟩
   exact exI rfl (wy rfl rfl ⟨(by walk_at "div"),rfl,_,rfl⟩)
  ·rintro σ H1 ⟨rfl,z,rfl⟩
   refine exI rfl (wy rfl rfl (exI rfl ?_))
   refine kh (λq2=>?_) (λq2=>?_)
   ·refine exI rfl (wy rfl rfl ⟨(by walk_at "pos"),exI rfl (exI rfl (wy rfl rfl ⟨(by walk_at "pos"),?_⟩))⟩)
    exact fin _ (by rw [wyg q1' q2])
   ·refine exI rfl (exI rfl (wy rfl rfl ⟨(by walk_at "pos"),?_⟩))
    exact fin _ (by rw [wkq q1' q2])
 ·have q1':¬ 10 ^ 18≤yr c:=q1
  have l0:=cG c (show (1000003:Int)≠0 by decide)
  have l1:=bY c (show (0:Int)<1000003 by decide)
  refine exI rfl (wy rfl rfl ⟨(by walk_at "pos"),exI rfl (wy rfl rfl ⟨(by walk_at "mul"),exI rfl (wy rfl rfl ⟨(by walk_at "mul"),wy rfl rfl (wy rfl rfl (wy rfl rfl ⟨(by walk_at "pos"),?_⟩))⟩)⟩)⟩)
  have o0:0≤qkf c t:=cG _ (by decide)
  have o1:qkf c t<999983:=bY _ (by decide)
  refine ⟨V.int (qkf c t),rfl,V.int (qkf c t),rfl,wy rfl rfl ⟨(by walk_at "mul"),exI rfl (wy rfl rfl ⟨(by walk_at "mul"),wy rfl rfl (exI rfl (wy rfl rfl ⟨(by walk_at "mul"),wy rfl rfl (wy rfl rfl ⟨(by walk_at "pos"),?_⟩)⟩))⟩)⟩⟩
  have w0:0≤qyu c t:=cG _ (by decide)
  have w1:qyu c t<1000033:=bY _ (by decide)
  refine ⟨V.int (qyu c t),rfl,V.int (qyu c t),rfl,wy rfl rfl ⟨(by walk_at "mul"),V.int (qkf c t),rfl,wy rfl rfl ⟨(by walk_at "mul"),wy rfl rfl (exI rfl (wy rfl rfl ⟨(by walk_at "mul"),wy rfl rfl (wy rfl rfl ⟨(by walk_at "pos"),exI rfl (wy rfl rfl ⟨(by walk_at "pos"),?_⟩)⟩)⟩))⟩⟩⟩
  exact fin _ (by rw [wut q1'])
def Within (n f:Int)(m:Option Int):Prop:=f≤n∧∀b,m=some b→n≤b
def qqd (C:Addr):Sp:=λvs H Q E=>∃(n f:Int) (m:V) (o:Option Int),vs=[.int n,.int f,m]∧(m=.non∧o=none∨∃b,m=.int b∧o=some b)∧(Within n f o→Q .non H)∧(¬ Within n f o→E (.ref C) none H)
theorem wj5 {f:Addr}{fd:Ad}(F:FunD K "check_count" s_check_count f fd)(T:Txt K mg qm qx qd qy qh qc qk):FnOk P w K mg base (CXE P w) 1 f fd ["number","fewest","most"] (qqd qy):=by
 have sc:=qxb
 refine F.okX sc (λvs H Q E h=>by obtain ⟨n,f,m,o,rfl,_⟩:=h;rfl) (λcdv A outer s H vs Q E hr h=>?_)
 obtain ⟨n,fe,m,o,rfl,hm,k,x⟩:=h
 refine ⟨_,(qf (zy (PW.pt (yw (wj Q2 (pv 0) (pv 1) (wb _)) (jw (PW.pt (xwu (wj wzg (pv 2) qwu (wb _)) (wx8 (wj u7 (pv 0) (pv 2) (wb _)))))))) (qf (ku rfl T.x_BadCount zh rfl T.g_BadCount (qw u9 qv))) xy)),?_⟩
 refine exI rfl (exI rfl (wy rfl rfl (exI rfl ?_)))
 refine kh (λq1=>?_) (λq1=>?_)
 ·refine yu ?_
  exact ⟨sz1,x (λz=>by have:=z.1;omega)⟩
 ·rcases hm with ⟨rfl,rfl⟩|⟨b,rfl,rfl⟩
  ·refine exI rfl ⟨rfl,_,rfl,?_⟩
   refine js ?_
   exact k ⟨by omega,λb e=>nomatch e⟩
  ·refine exI rfl ⟨rfl,_,rfl,?_⟩
   refine yu ?_
   refine exI rfl (exI rfl (wy rfl rfl (exI rfl ?_)))
   refine kh (λq2=>?_) (λq2=>?_)
   ·exact ⟨sz1,x (λz=>by have:=z.2 b rfl;omega)⟩
   ·exact k ⟨by omega,λb' e=>by cases e;omega⟩
def wz (ns:List Int):Prop:=2≤ns.length∧ns.length≤25∧∀h∈ns,0≤h∧h≤(ns.length:Int)-1
def qw3 (K:Aa):Sp:=λvs H Q _=>∃(p:Addr) (ns:List Int),vs=[.ref p]∧SqL K H p (ns.map V.int)∧(wz ns→Q (.bl true) H)∧(¬ wz ns→Q (.bl false) H)
theorem wqh {f:Addr}{fd:Ad}(F:Fun K "is_line" "is_line" s_is_line f fd)(T:Txt K mg qm qx qd qy qh qc qk):FnOk P w K mg base (CXE P w) 1 f fd ["heights"] (qw3 K):=by
 have sc:=wq6
 refine F.okX sc (λvs H Q E h=>by obtain ⟨p,ns,rfl,_⟩:=h;rfl) (λcdv A outer s H vs Q E hr h=>?_)
 obtain ⟨p,ns,rfl,hS,k1,k2⟩:=h
 have hlen:(ns.map V.int).length=ns.length:=List.length_map _
 obtain ⟨tw,g_WIDEST⟩:=T.g_WIDEST
 refine ⟨_,(qj (wg (i:=1) sc.nd rfl (by walk_at "loc") (wx vd (q9 wm rfl T.len_ aZ (qw (pv 0) qv)) qu))
   (qj (zy (PW.pt (yw (wj Q2 (pv 1) qu (wb _)) (jw (wj u7 (pv 1) (Zw (v:=V.int 24) rfl g_WIDEST ⟨_,rfl⟩) (wb _))))) (qf (wu Jy)) xy)
   (qf (wu (qwn (Zj wzv (q9 (qx9 rfl) rfl T.min_ dg (qw (pv 0) qv)) qu (wb _)) (qwy (Zj qyd (q9 (qzy rfl) rfl T.max_ dh (qw (pv 0) qv)) (pv 1) (wb _)))))))),?_⟩
 refine exI rfl ⟨_,_,rfl,.inl hS,wy rfl rfl ?_⟩
 refine exI rfl (wy rfl rfl (exI rfl ?_))
 rw [hlen]
 refine kh (λq1=>?_) (λq1=>?_)
 ·refine yu ?_
  exact k2 (λz=>by have:=z.1;omega)
 ·refine exI rfl (wy rfl rfl (exI rfl ?_))
  refine kh (λq2=>?_) (λq2=>?_)
  ·exact k2 (λz=>by have:=z.2.1;omega)
  ·refine exI rfl ⟨p,ns,rfl,hS,(by omega),λm hm hle=>(wy rfl rfl (exI rfl ?_))⟩
   refine kh (λq3=>?_) (λq3=>?_)
   ·refine exI rfl ⟨p,ns,rfl,hS,(by omega),λm2 hm2 hle2=>(exI rfl (wy rfl rfl ?_))⟩
    show Q (.bl (decide (m2≤(ns.length:Int)-1))) H
    by_cases q4:m2≤(ns.length:Int)-1
    ·rw [decide_eq_true q4]
     exact k1 ⟨by omega,by omega,λh hh=>by have:=hle h hh;have:=hle2 h hh;omega⟩
    ·rw [decide_eq_false q4]
     exact k2 (λz=>q4 (z.2.2 m2 hm2).2)
   ·exact k2 (λz=>q3 (z.2.2 m hm).1)
def RoadAt (C:Addr)(H:Hp)(r:Addr)(ns:List Int):Prop:=∃dx q,H r=some (.ins C dx [("heights",.ref q)])∧H q=some (.lst (ns.map V.int))
theorem RoadAt.same {C:Addr}{H H':Hp}{r:Addr}{ns:List Int}(h:RoadAt C H r ns)(s:Same H H'):RoadAt C H' r ns:=by
 obtain ⟨dx,q,h1,h2⟩:=h
 exact ⟨dx,q,s _ _ h1,s _ _ h2⟩
theorem y8 {q:Addr}:([("heights",V.ref q)]:List (Str×V)).lookup ("heights" : Str)=some (.ref q):=by
 rw [be]
 simp
theorem xj {q:Addr}{m:Str}(h:¬ m = "heights"):([("heights",V.ref q)]:List (Str×V)).lookup m=none:=by
 rw [be]
 have:(m==("heights" : Str))=false:=bV.mpr h
 rw [this]
 rfl
def qjf (K:Aa)(CB C:Addr):Sp:=λvs H Q E=>∃(r dx p:Addr) (ns:List Int),vs=[.ref r,.ref p]∧H r=some (.ins C dx [])∧SqL K H p (ns.map V.int) ∧
 (wz ns→∀H' q,H q=none→(∀b o,H b=some o→b≠r→H' b=some o)→H' r=some (.ins C dx [("heights",.ref q)])→H' q=some (.lst (ns.map V.int))→Q .non H')∧(¬ wz ns→E (.ref CB) none H)
theorem xx5 {f:Addr}{fd:Ad}(F:Fun K "__init__" "Road.__init__" s_Road___init__ f fd)(T:Txt K mg qm qx qd qy qh qc qk)(c_is_line:Cal P w K mg base "is_line" 1 (qw3 K)):FnOk P w K mg base (CXE P w) 2 f fd ["self","heights"] (qjf K qm qk):=by
 have sc:=Z2
 refine F.okX sc (λvs H Q E h=>by obtain ⟨r,dx,p,ns,rfl,_⟩:=h;rfl) (λcdv A outer s H vs Q E hr h=>?_)
 obtain ⟨r,dx,p,ns,rfl,hr0,hS,k,x⟩:=h
 refine ⟨_,(qj (zy (ut (uc (ww c_is_line (hr.mono (by decide)) rfl qg (qw (pv 1) qv)))) (qf (ku rfl T.x_BadLine zh rfl T.g_BadLine (qw u9 qv))) xy)
   (qf (ps_fld (pv 0) (Z5 Zt rfl T.list_ cA (qw (pv 1) qv)) rfl))),?_⟩
 refine ⟨_,rfl,p,ns,rfl,hS,λok=>(exI rfl ?_),λbad=>(exI rfl ?_)⟩
 ·refine js ?_
  refine exI rfl ⟨_,_,rfl,.inl hS,λq nq=>?_⟩
  have hr1:upd H q (.lst (ns.map V.int)) r=some (.ins qk dx []):=by rw [qr (q8 hr0 nq)];exact hr0
  refine exI rfl ⟨r,qk,dx,[],rfl,hr1,T.cl,T.na,(by show 0<1000;decide),?_⟩
  refine k ok _ q nq (λb o e n=>?_) qb ?_
  ·rw [qr n,qr (q8 e nq)]
   exact e
  ·rw [qr (q8 hr0 nq).symm,qb]
 ·refine yu ?_
  exact ⟨sz1,x bad⟩
def k8 (C:Addr):Sp:=λvs H Q _=>∃(r:Addr) (ns:List Int),vs=[.ref r]∧RoadAt C H r ns∧Q (.int ((ns.length:Int)-1)) H
theorem wym {f:Addr}{fd:Ad}(F:Fun K "width" "Road.width" s_Road_width f fd)(T:Txt K mg qm qx qd qy qh qc qk):FnOk P w K mg base (CXE P w) 1 f fd ["self"] (k8 qk):=by
 have sc:=qzc
 refine F.okX sc (λvs H Q E h=>by obtain ⟨r,ns,rfl,_⟩:=h;rfl) (λcdv A outer s H vs Q E hr h=>?_)
 obtain ⟨r,ns,rfl,⟨dx,q,h1,h2⟩,k⟩:=h
 refine ⟨_,(qf (wu (wx vd (q9 wm rfl T.len_ aZ (qw (www (pv 0) rfl) qv)) qu))),?_⟩
 refine exI rfl ⟨r,qk,dx,_,_,rfl,h1,T.cl,T.na,y8,q,exI rfl ⟨.inl (SqL.of h2),wy rfl rfl ?_⟩⟩
 rw [List.length_map]
 exact k
def InW (ns:List Int)(wd:Int):Prop:=(ns.length:Int)=wd+1∧∀h∈ns,0≤h∧h≤wd
def qqy (K:Aa):Sp:=λvs H Q _=>∃(a:Addr) (ns:List Int) (i wd:Int),vs=[.ref a,.int i,.int wd]∧SqL K H a (ns.map V.int)∧0≤i∧1≤wd∧wd≤24 ∧
 ∀p hs,H p=none→InW hs wd→Q (.ref p) (upd H p (.lst (hs.map V.int)))
theorem wud {f:Addr}{fd:Ad}(F:Fun K "_law_climb" "_law_climb" s__law_climb f fd)(T:Txt K mg qm qx qd qy qh qc qk)(c__law_pick:Cal P w K mg base "_law_pick" 2 (Jw K)):FnOk P w K mg base (CXE P w) 3 f fd ["_law_script","_law_at","_law_wide"] (qqy K):=by
 have sc:=qz1
 refine F.okX sc (λvs H Q E h=>by obtain ⟨a,ns,i,wd,rfl,_⟩:=h;rfl) (λcdv A outer s H vs Q E hr h=>?_)
 obtain ⟨a,ns,i,wd,rfl,hS,h0,w1,w2,k⟩:=h
 refine ⟨_,(qj (wg (i:=3) sc.nd rfl (by walk_at "loc") (jx (qw (ww c__law_pick (hr.mono (by decide)) rfl qg (qw (pv 0) (qw (pv 1) (qw qu (qw (wx xg (pv 2) qu) qv))))) qv)))
   (qj (jz ba rfl (xr rfl T.range_ (qw (pv 2) qv)) (wn (i:=4) sc.nd rfl (by walk_at "loc")) (qf (zm (Jd bL bT bU vk (pv 3) (qw (q9 (Yd rfl) rfl T.max_ dh (qw qu (qw (q9 (Qu rfl) rfl T.min_ dg (qw (pv 2) (qw (wx vd (wx xg (xm zx (pv 3) (qv2 Jk qu) (λ_ _=>rfl)) (wx xp qu (ww c__law_pick (hr.mono (by decide)) rfl qg (qw (pv 0) (qw (pv 1) (qw (wx xg qu (pv 4)) (qw qu qv))))))) qu) qv))) qv))) qv)))))
   (qf (wu (pv 3))))),?_⟩
 refine exI rfl (exI rfl (exI rfl (wy rfl rfl ⟨a,ns,_,_,_,rfl,hS,h0,(by omega),(by omega),(by omega),λr1 _ l1 u1=>⟨sz1,λp np=>?_⟩⟩)))
 refine ⟨_,rfl,wd,rfl,(by omega),(by omega),j7 (λj σ H1=>∃(ys:List Int) (l:Int) (z:Option V),ys.length=j∧(∀h∈ys++[l],0≤h∧h≤wd)∧H1=upd H p (.lst ((ys++[l]).map V.int))∧σ=[some (.ref a),some (.int i),some (.int wd),some (.ref p),z])
  ⟨[],r1,none,rfl,(λh hh=>by have e:=aG.mp hh;subst e;omega),rfl,rfl⟩ ?_ ?_⟩
 ·rintro j σ H1 hj ⟨ys,l,z,hy,hb,rfl,rfl⟩
  have hp:upd H p (.lst ((ys++[l]).map V.int)) p=some (.lst ((ys++[l]).map V.int)):=qb
  have hS1:SqL K (upd H p (.lst ((ys++[l]).map V.int))) a (ns.map V.int):=Same.sql (Same.upd np) hS
  have hlast:atI ((ys++[l]).map V.int) (-1)=some (V.int l):=by
   rw [List.map_append]
   exact Zb _ _
  have hl:=hb l (by simp)
  refine exI rfl ⟨.inl ⟨rfl,_,SqL.of hp⟩,exI rfl (exI rfl (exI rfl (exX rfl rfl (SqL.of hp) hlast (exI rfl (exI rfl (exI rfl (wy rfl rfl ⟨a,ns,_,_,_,rfl,hS1,h0,(by omega),(by omega),(by omega),λr2 _ l2 u2=>?_⟩)))))))⟩
  refine wy rfl rfl ⟨(by walk_at "mul"),wy rfl rfl (wy rfl rfl ⟨_,_,rfl,_,_,rfl,_,_,_,rfl,rfl,hp,?_,?_⟩)⟩
  ·rw [List.length_map,ai,hy]
   have:(1000000:Nat)<sizeLine:=by decide
   simp only [ax,eN]
   omega
  ·refine ⟨ys++[l],(if (if l+2*r2-1<wd then l+2*r2-1 else wd)>0 then (if l+2*r2-1<wd then l+2*r2-1 else wd) else 0),_,by rw [ai,hy];rfl,λh hh=>?_,?_,rfl⟩
   ·rcases aP.mp hh with hh|hh
    ·exact hb h hh
    ·have e:=aG.mp hh
     subst e
     by_cases g1:l+2*r2-1<wd
     ·rw [if_pos g1]
      by_cases g2:l+2*r2-1>0
      ·rw [if_pos g2];omega
      ·rw [if_neg g2];omega
     ·rw [if_neg g1,if_pos (show wd>0 by omega)];omega
   ·rw [qjb,List.map_append (l₁:=ys++[l])]
    rfl
 ·rintro σ H1 ⟨ys,l,z,hy,hb,rfl,rfl⟩
  refine exI rfl (k p _ np ⟨?_,hb⟩)
  rw [ai,hy]
  simp only [ax,eN]
  omega
def Y5 (K:Aa):Sp:=λvs H Q _=>∃(a:Addr) (ns:List Int) (i m:Int),vs=[.ref a,.int i,.int m]∧SqL K H a (ns.map V.int)∧0≤i∧1≤m∧m≤24 ∧
 ∀p hs wd,H p=none→1≤wd→wd≤m→InW hs wd→Q (.ref p) (upd H p (.lst (hs.map V.int)))
theorem wjt {wd:Int}{n:Nat}(g:Nat→Int)(h1:(n:Int)=wd+1)(h2:∀i,i<n→0≤g i∧g i≤wd):InW ((List.range n).map g) wd:=by
 refine ⟨by rw [List.length_map,List.length_range];exact h1,λh hh=>?_⟩
 obtain ⟨i,hi,rfl⟩:=aH.mp hh
 exact h2 i (am.mp hi)
theorem qzp (n:Nat)(g:Nat→Int):(List.range n).map (λi=>V.int (g i))=((List.range n).map g).map V.int:=by
 rw [bz]
 rfl
theorem wqu {f:Addr}{fd:Ad}(F:Fun K "_law_heights" "_law_heights" s__law_heights f fd)(T:Txt K mg qm qx qd qy qh qc qk)(c__law_pick:Cal P w K mg base "_law_pick" 2 (Jw K))(c__law_climb:Cal P w K mg base "_law_climb" 3 (qqy K)) :
  FnOk P w K mg base (CXE P w) 4 f fd ["_law_script","_law_at","_law_most"] (Y5 K):=by
 have sc:=qqk
 refine F.okX sc (λvs H Q E h=>by obtain ⟨a,ns,i,m,rfl,_⟩:=h;rfl) (λcdv A outer s H vs Q E hr h=>?_)
 obtain ⟨a,ns,i,m,rfl,hS,h0,m1,m2,k⟩:=h
 refine ⟨_,(qj (wg (i:=3) sc.nd rfl (by walk_at "loc") (wx xg qu (ww c__law_pick (hr.mono (by decide)) rfl qg (qw (pv 0) (qw (pv 1) (qw qu (qw (pv 2) qv)))))))
   (qj (wg (i:=4) sc.nd rfl (by walk_at "loc") (ww c__law_pick (hr.mono (by decide)) rfl qg (qw (pv 0) (qw (pv 1) (qw qu (qw qu qv))))))
   (qj (zy (wj Qk (pv 4) qu (wb _)) (qf (wu (zp (M:=[3]) rfl rfl (by walk_at "cap") (by walk_at "has") (by walk_at "cix") rfl (by decide +kernel) rfl (show List.Nodup (["_law_k","_law_wide"]:List Str) by decide +kernel) (xr rfl T.range_ (qw (wx xg (pv 3) qu) qv)) (λ_ _ _ _ _=>(wx xp (pv 1) (wx km (pv 0) qu)))))) xy)
   (qj (zy (wj Qk (pv 4) qu (wb _)) (qf (wu (zp (M:=[]) rfl rfl (by walk_at "cap") (by walk_at "has") (by walk_at "cix") rfl (by decide +kernel) rfl (show List.Nodup (["_law_k"]:List Str) by decide +kernel) (xr rfl T.range_ (qw (wx xg (pv 3) qu) qv)) (λ_ _ _ _ _=>(pv 0))))) xy)
   (qj (zy (wj Qk (pv 4) qu (wb _)) (qf (wu (zp (M:=[3]) rfl rfl (by walk_at "cap") (by walk_at "has") (by walk_at "cix") rfl (by decide +kernel) rfl (show List.Nodup (["_law_k","_law_wide"]:List Str) by decide +kernel) (xr rfl T.range_ (qw (wx xg (pv 3) qu) qv)) (λ_ _ _ _ _=>(wx vd (pv 1) (pv 0)))))) xy)
   (qj (zy (wj Qk (pv 4) qu (wb _)) (qf (wu (zp (M:=[3]) rfl rfl (by walk_at "cap") (by walk_at "has") (by walk_at "cix") rfl (by decide +kernel) rfl (show List.Nodup (["_law_k","_law_wide"]:List Str) by decide +kernel) (xr rfl T.range_ (qw (wx xg (pv 3) qu) qv)) (λ_ _ _ _ _=>(wx km (wx xg (wx xp qu (pv 0)) qu) (wx xg (pv 1) qu)))))) xy)
   (qj (zy (PW.pt (yw (wj Qk (pv 4) qu (wb _)) (jw (wj Qk (pv 4) qu (wb _))))) (qf (wu (ww c__law_climb (hr.mono (by decide)) rfl qg (qw (pv 0) (qw (pv 1) (qw (pv 3) qv)))))) xy)
   (qf (wu (zp (M:=[0,1,3]) rfl rfl (by walk_at "cap") (by walk_at "has") (by walk_at "cix") rfl (by decide +kernel) rfl (show List.Nodup (["_law_k","_law_script","_law_at","_law_wide"]:List Str) by decide +kernel) (xr rfl T.range_ (qw (wx xg (pv 3) qu) qv)) (λ_ _ _ _ _=>(ww c__law_pick (hr.mono (by decide)) rfl Wf (qw (pv 1) (qw (pv 2) (qw (wx xg qu (pv 0)) (qw (wx xg (pv 3) qu) qv)))))))))))))))),?_⟩
 refine exI rfl (exI rfl (exI rfl ⟨a,ns,_,_,_,rfl,hS,h0,(by omega),(by omega),(by omega),λr1 _ l1 u1=>?_⟩))
 refine wy rfl rfl (exI rfl (exI rfl ⟨a,ns,_,_,_,rfl,hS,h0,(by omega),(by omega),(by omega),λkd _ l2 u2=>?_⟩))
 have hn:((1+r1+1).toNat:Int)=1+r1+1:=by omega
 have hn2:(1+r1+1).toNat≤1000000:=by omega
 have fin:∀(g:Nat→Int) (p:Addr),(∀j,j<(1+r1+1).toNat→0≤g j∧g j≤1+r1)→H p=none→Q (.ref p) (upd H p (.lst ((List.range (1+r1+1).toNat).map λj=>V.int (g j)))):=λg p hg np=>by
  rw [qzp]
  exact k p _ (1+r1) np (by omega) (by omega) (wjt g hn hg)
 refine exI rfl ⟨rfl,_,rfl,Q6 (λq1=>?_) (λq1=>?_)⟩
 ·refine exI rfl (wy rfl rfl ⟨1+r1+1,rfl,(by omega),(by omega),vv (λj=>V.int ((1+r1)*(((0:Int)+j)%2))) hn2 (λj H' R hj hs hR=>?_) λp np=>fin _ p (λj hj=>?_) np⟩)
  ·exact exI rfl (exI rfl (wy rfl rfl ⟨(by walk_at "pos"),wy rfl rfl ⟨(by walk_at "mul"),hR⟩⟩))
  ·have a1:=cG ((0:Int)+j) (show (2:Int)≠0 by decide)
   have a2:=bY ((0:Int)+j) (show (0:Int)<2 by decide)
   rcases (by omega:((0:Int)+j)%2=0∨((0:Int)+j)%2=1) with e|e <;> rw [e] <;> omega
 ·refine exI rfl ⟨rfl,_,rfl,Q6 (λq2=>?_) (λq2=>?_)⟩
  ·refine exI rfl (wy rfl rfl ⟨1+r1+1,rfl,(by omega),(by omega),vv (λj=>V.int ((0:Int)+j)) hn2 (λj H' R hj hs hR=>?_) λp np=>fin _ p (λj hj=>by omega) np⟩)
   exact exI rfl hR
  ·refine exI rfl ⟨rfl,_,rfl,Q6 (λq3=>?_) (λq3=>?_)⟩
   ·refine exI rfl (wy rfl rfl ⟨1+r1+1,rfl,(by omega),(by omega),vv (λj=>V.int (1+r1-((0:Int)+j))) hn2 (λj H' R hj hs hR=>?_) λp np=>fin _ p (λj hj=>by omega) np⟩)
    exact exI rfl (exI rfl (wy rfl rfl hR))
   ·refine exI rfl ⟨rfl,_,rfl,Q6 (λq4=>?_) (λq4=>?_)⟩
    ·refine exI rfl (wy rfl rfl ⟨1+r1+1,rfl,(by omega),(by omega),vv (λj=>V.int ((2*((0:Int)+j)+1)%(1+r1+1))) hn2 (λj H' R hj hs hR=>?_) λp np=>fin _ p (λj hj=>?_) np⟩)
     ·exact exI rfl (wy rfl rfl ⟨(by walk_at "mul"),wy rfl rfl (exI rfl (wy rfl rfl (wy rfl rfl ⟨(by walk_at "pos"),hR⟩)))⟩)
     ·have a1:=cG (2*((0:Int)+j)+1) (show 1+r1+1≠0 by omega)
      have a2:=bY (2*((0:Int)+j)+1) (show 0<1+r1+1 by omega)
      omega
    ·have last:tRet (wx9 [0,1,3] (iRng1 (jh (tOp (rI0 λi j=>.int (i+j)) (kv 3) (tC (.int 1))) qq4)) (qjp (Jw K) (λ_=>E0) (jh (kv 1) (jh (kv 2) (jh (tOp (rI0 λi j=>.int (i+j)) (tC (.int 3)) (kv 0)) (jh (tOp (rI0 λi j=>.int (i+j)) (kv 3) (tC (.int 1))) qq4))))))
       { nx:=λ_ H'=>Q .non H',rt:=Q } [some (.ref a),some (.int i),some (.int m),some (.int (1+r1)),some (.int kd)] H:=by
      refine exI rfl (wy rfl rfl ⟨1+r1+1,rfl,(by omega),(by omega),vv (λj=>V.int (quz ns i (3+((0:Int)+j)) (1+r1+1))) hn2 (λj H' R hj hs hR=>?_) λp np=>fin _ p (λj hj=>?_) np⟩)
      ·refine exI rfl (exI rfl (exI rfl (wy rfl rfl (exI rfl (wy rfl rfl ⟨a,ns,_,_,_,rfl,Same.sql hs hS,h0,(by omega),(by omega),(by omega),λr e _ _=>?_⟩)))))
       rw [e]
       exact hR
      ·have a1:=xqd ns i (3+((0:Int)+j)) (1+r1+1) (by omega)
       have a2:=wyn ns i (3+((0:Int)+j)) (1+r1+1) (by omega)
       omega
     have climb:tRet (qjp (qqy K) (λ_=>E) (jh (kv 0) (jh (kv 1) (jh (kv 3) qq4)))) { nx:=λ_ H'=>Q .non H',rt:=Q } [some (.ref a),some (.int i),some (.int m),some (.int (1+r1)),some (.int kd)] H :=
      (exI rfl (exI rfl (exI rfl ⟨a,ns,i,1+r1,rfl,hS,h0,(by omega),(by omega),λp hs np hw=>k p hs (1+r1) np (by omega) (by omega) hw⟩)))
     refine exI rfl ⟨rfl,_,rfl,Q6 (λq5=>yu climb) (λq5=>?_)⟩
     exact exI rfl ⟨rfl,_,rfl,Q6 (λq6=>climb) (λq6=>last)⟩
def qqg:Sp:=λvs H Q _=>∃i:Int,vs=[.int i]∧Q (.bl true) H
theorem wy6 {f:Addr}{fd:Ad}(F:Fun K "_law_whole" "_law_whole" s__law_whole f fd)(T:Txt K mg qm qx qd qy qh qc qk):FnOk P w K mg base (CXE P w) 1 f fd ["_law_found"] qqg:=by
 have sc:=qzb
 refine F.okX sc (λvs H Q E h=>by obtain ⟨i,rfl,_⟩:=h;rfl) (λcdv A outer s H vs Q E hr h=>?_)
 obtain ⟨i,rfl,k⟩:=h
 refine ⟨_,(qf (wu (qwn (q9 vj rfl T.isinstance_ bS (qw (pv 0) (qw (Qp (v:=V.ty "int") rfl T.int_ PyProof.Rows.boot_int rfl) qv))) (qwy (pe_not (q9 vj rfl T.isinstance_ bS (qw (pv 0) (qw (Qp (v:=V.ty "bool") rfl T.bool_ PyProof.Rows.boot_bool rfl) qv)))))))),?_⟩
 refine exI rfl ⟨_,_,_,_,rfl,TyOf.int i,rfl,_,rfl,?_⟩
 refine yu ?_
 refine exI rfl ⟨_,_,_,_,rfl,TyOf.int i,rfl,_,rfl,?_⟩
 exact k
def Jz (K:Aa):Sp:=λvs H Q _=>∃(p:Addr) (ns:List Int),vs=[.ref p]∧H p=some (.lst (ns.map V.int))∧ns.length≤1000∧∀H',Same H H'→Q (.bl true) H'
theorem wy1 (ns:List Int):(ns.map λ_=>true).all id=true:=by
 induction ns with
 |nil=>rfl
 |cons a r ih=>rw [aF,gY,ih];rfl
theorem ww5 {f:Addr}{fd:Ad}(F:Fun K "_law_numbers" "_law_numbers" s__law_numbers f fd)(T:Txt K mg qm qx qd qy qh qc qk)(c__law_whole:Cal P w K mg base "_law_whole" 1 qqg):FnOk P w K mg base (CXE P w) 2 f fd ["_law_found"] (Jz K):=by
 have sc:=Jm
 refine F.okX sc (λvs H Q E h=>by obtain ⟨p,ns,rfl,_⟩:=h;rfl) (λcdv A outer s H vs Q E hr h=>?_)
 obtain ⟨p,ns,rfl,hp,hn,k⟩:=h
 have hS:SqL K H p (ns.map V.int):=SqL.of hp
 refine ⟨_,(qf (wu (qwn (q9 vj rfl T.isinstance_ bS (qw (pv 0) (qw (Qp (v:=V.ty "list") rfl T.list_ cA rfl) qv))) (qwy (q9 (Q5 rfl) rfl T.all_ qy7 (qw (zp (M:=[]) rfl rfl (by walk_at "cap") (by walk_at "has") (by walk_at "cix") rfl (by decide +kernel) rfl (show List.Nodup (["_law_number"]:List Str) by decide +kernel) (zf (pv 0)) (λ_ _ _ _ _=>(ww c__law_whole (hr.mono (by decide)) rfl Wf (qw (pv 0) qv)))) qv)))))),?_⟩
 refine exI rfl ⟨_,_,_,_,rfl,TyOf.lst hp,rfl,_,rfl,?_⟩
 refine yu ?_
 refine exI rfl ⟨p,rfl,⟨_,hS⟩,?_⟩
 refine Yh (K:=K) (M:=[]) (a:=p) (xs:=ns.map V.int) (λ_=>V.bl true) hS (by rw [List.length_map];omega) (λx H' R hx hs hR=>?_) λq nq=>?_
 ·obtain ⟨i,_,rfl⟩:=aH.mp hx
  exact exI rfl ⟨i,rfl,hR⟩
 ·have e:(ns.map V.int).map (λ_=>V.bl true)=(ns.map λ_=>true).map V.bl:=by
   rw [bz,bz]
   rfl
  rw [e]
  refine ⟨q,ns.map λ_=>true,rfl,SqL.new,?_⟩
  rw [wy1]
  exact k _ (Same.upd nq)
def qz8:Sp:=λvs H Q _=>∃x y:Int,vs=[.int x,.int y]∧0≤x∧0≤y∧Q (.int (Yq x y)) H
theorem wqv {tb:TS}{c:TT}{D:Ends}{H:Hp}{x y:Int}(hx:0≤x)(hy:0≤y)(hc:c=xwj (tOp (rI0 λi j=>.bl (decide (j<i))) (kv 1) (tC (.int 0))))(hb:tb=tPar 0 1 (jh (kv 1) (jh (tOp (rI (λ_ j=>0<j) λi j=>.int (i%j)) (kv 0) (kv 1)) qq4)))
  (hD:D.nx [some (.int (Yq x y)),some (.int 0)] H):wwc c tb D [some (.int x),some (.int y)] H:=by
 subst hc hb
 refine Zf (λσ H1=>H1=H∧∃u v:Int,σ=[some (.int u),some (.int v)]∧0≤u∧0≤v∧Yq u v=Yq x y) (λσ _=>match σ with|[_,some (.int v)]=>v.toNat|_=>0) ⟨rfl,x,y,rfl,hx,hy,rfl⟩ ?_ λσ H Q Q' h ⟨v,e,i,j,e1,e2,k,e3,q⟩=>⟨v,e,i,j,e1,e2,k,e3,h _ _ q⟩
 rintro σ H1 ⟨rfl,u,v,rfl,hu,hv,e⟩
 refine exI rfl (wy rfl rfl (exI rfl ?_))
 refine kh (λq=>?_) (λq=>?_)
 ·have h1:=cG u (show v≠0 by omega)
  have h2:=bY u q
  refine exI rfl (exI rfl (exI rfl (wy rfl rfl ⟨q,_,_,rfl,⟨rfl,v,u%v,rfl,hv,h1,?_⟩,?_⟩)))
  ·rw [wks hu q,e]
  ·show (u%v).toNat<v.toNat
   omega
 ·have z:v=0:=by omega
  subst z
  rw [wk8 hu] at e
  subst e
  exact hD
theorem ok_gcd {f:Addr}{fd:Ad}(F:Fun K "common_divisor" "common_divisor" s_common_divisor f fd)(T:Txt K mg qm qx qd qy qh qc qk):FnOk P w K mg base (CXE P w) 1 f fd ["one","other"] qz8:=by
 have sc:=Zd
 refine F.okX sc (λvs H Q E h=>by obtain ⟨x,y,rfl,_⟩:=h;rfl) (λcdv A outer s H vs Q E hr h=>?_)
 obtain ⟨x,y,rfl,hx,hy,k⟩:=h
 refine ⟨_,(qj (uu ba (wj u7 (pv 1) qu (wb _)) (qf (wuu (i:=0) (j:=1) rfl sc.nd rfl rfl (by decide) rfl rfl (qw (pv 1) (qw (wx km (pv 0) (pv 1)) qv)) rfl)))
   (qf (wu (pv 0)))),?_⟩
 exact wqv hx hy rfl rfl (exI rfl k)
theorem wv3 {f:Addr}{fd:Ad}(F:Fun K "_law_common" "_law_common" s__law_common f fd)(T:Txt K mg qm qx qd qy qh qc qk):FnOk P w K mg base (CXE P w) 1 f fd ["_law_one","_law_other"] qz8:=by
 have sc:=qw2
 refine F.okX sc (λvs H Q E h=>by obtain ⟨x,y,rfl,_⟩:=h;rfl) (λcdv A outer s H vs Q E hr h=>?_)
 obtain ⟨x,y,rfl,hx,hy,k⟩:=h
 refine ⟨_,(qj (uu ba (wj u7 (pv 1) qu (wb _)) (qf (wuu (i:=0) (j:=1) rfl sc.nd rfl rfl (by decide) rfl rfl (qw (pv 1) (qw (wx km (pv 0) (pv 1)) qv)) rfl)))
   (qf (wu (pv 0)))),?_⟩
 exact wqv hx hy rfl rfl (exI rfl k)
def ptV (p:Int×Int):List V:=[.int p.1,.int p.2]
def uf (C:Addr):Sp:=λvs H Q E=>∃t b:Int,vs=[.int t,.int b]∧(1≤b→Sm 9000 b∧∀p,H p=none→Q (.ref p) (upd H p (.tup (ptV (wt t b)))))∧(b<1→E (.ref C) none H)
theorem wkt {f:Addr}{fd:Ad}(F:Fun K "lowest" "lowest" s_lowest f fd)(T:Txt K mg qm qx qd qy qh qc qk)(c_check_bottom:Cal P w K mg base "check_bottom" 1 (qqh qx))(c_common_divisor:Cal P w K mg base "common_divisor" 1 qz8) :
  FnOk P w K mg base (CXE P w) 2 f fd ["top","bottom"] (uf qx):=by
 have sc:=wv7
 refine F.okX sc (λvs H Q E h=>by obtain ⟨t,b,rfl,_⟩:=h;rfl) (λcdv A outer s H vs Q E hr h=>?_)
 obtain ⟨t,b,rfl,k,x⟩:=h
 refine ⟨_,(qj (zm (ww c_check_bottom (hr.mono (by decide)) rfl qg (qw (pv 1) qv)))
   (qj (wg (i:=2) sc.nd rfl (by walk_at "loc") (ww c_common_divisor (hr.mono (by decide)) rfl qg (qw (q9 Zh rfl T.abs_ W6 (qw (pv 0) qv)) (qw (pv 1) qv))))
   (qf (wu (yh (qw (wx Qj (pv 0) (pv 2)) (qw (wx Qj (pv 1) (pv 2)) qv))))))),?_⟩
 refine ⟨_,rfl,b,rfl,λg1=>?_,λg1=>x g1⟩
 obtain ⟨sb,k⟩:=k g1
 have hg:=y7 (t:=t) g1
 have hs:Sm 9000 (gOf t b):=sb.of_le (by have:=gOf_le (t:=t) g1;omega)
 refine exI rfl (exI rfl (exI rfl ⟨yr t,b,rfl,wxs t,(by omega),?_⟩))
 refine exI rfl ⟨V.int (gOf t b),rfl,wy rfl rfl ⟨⟨by omega,hs⟩,exI rfl ⟨V.int (gOf t b),rfl,wy rfl rfl ⟨⟨by omega,hs⟩,sz2,λp n=>?_⟩⟩⟩⟩
 exact k p n
def qkz (K:Aa):Sp:=λvs H Q _=>∃p x y,vs=[.ref p]∧H p=some (.tup [.int x,.int y])∧1≤y∧gOf x y=1∧Q (.bl true) H
theorem xqt {f:Addr}{fd:Ad}(F:Fun K "_law_point" "_law_point" s__law_point f fd)(T:Txt K mg qm qx qd qy qh qc qk)(c__law_whole:Cal P w K mg base "_law_whole" 1 qqg)(c__law_common:Cal P w K mg base "_law_common" 1 qz8) :
  FnOk P w K mg base (CXE P w) 2 f fd ["_law_found"] (qkz K):=by
 have sc:=qzk
 refine F.okX sc (λvs H Q E h=>by obtain ⟨p,x,y,rfl,_⟩:=h;rfl) (λcdv A outer s H vs Q E hr h=>?_)
 obtain ⟨p,x,y,rfl,hp,y1,hg,k⟩:=h
 have hq:SqT K H p [.int x,.int y]:=SqT.of hp
 refine ⟨_,(qj (zy (PW.pt (yw (ut (uc (q9 vj rfl T.isinstance_ bS (qw (pv 0) (qw (Qp (v:=V.ty "tuple") rfl T.tuple_ PyProof.Rows.boot_tuple rfl) qv))))) (jw (wj wvz (q9 wm rfl T.len_ aZ (qw (pv 0) qv)) qu (wb _))))) (qf (wu Jy)) xy)
   (qj (zy (PW.pt (yw (ut (uc (ww c__law_whole (hr.mono (by decide)) rfl qg (qw (xm kn (pv 0) qu (λ_ _=>rfl)) qv)))) (yw (ut (uc (ww c__law_whole (hr.mono (by decide)) rfl qg (qw (xm kn (pv 0) qu (λ_ _=>rfl)) qv)))) (jw (wj Q2 (xm kn (pv 0) qu (λ_ _=>rfl)) qu (wb _)))))) (qf (wu Jy)) xy)
   (qf (wu (Zj Qk (ww c__law_common (hr.mono (by decide)) rfl qg (qw (q9 Zh rfl T.abs_ W6 (qw (xm kn (pv 0) qu (λ_ _=>rfl)) qv)) (qw (xm kn (pv 0) qu (λ_ _=>rfl)) qv))) qu (wb _)))))),?_⟩
 refine exI rfl ⟨_,_,_,_,rfl,TyOf.tup hp,rfl,_,rfl,?_⟩
 refine js ?_
 refine exI rfl ⟨_,_,rfl,.inr hq,rfl,_,rfl,?_⟩
 refine js ?_
 refine exI rfl (exX rfl rfl hq rfl ⟨x,rfl,_,rfl,?_⟩)
 refine js ?_
 refine exI rfl (exX rfl rfl hq rfl ⟨y,rfl,_,rfl,?_⟩)
 refine js ?_
 refine exI rfl (exX rfl rfl hq rfl (wy rfl rfl (exI rfl ?_)))
 refine kh (λq2=>absurd q2 (by omega)) (λq2=>?_)
 refine exI rfl (exX rfl rfl hq rfl (exI rfl (exI rfl (exX rfl rfl hq rfl ⟨yr x,y,rfl,wxs x,(by omega),rfl,?_⟩))))
 have e:Yq (yr x) y=1:=hg
 rw [e]
 exact k
theorem xxt {hs:List Int}{wd:Int}(h:InW hs wd)(w1:1≤wd)(w2:wd≤24):wz hs:=by
 refine ⟨by have:=h.1;omega,by have:=h.1;omega,λx hx=>?_⟩
 have h1:=h.1
 have h2:=h.2 x hx
 omega
theorem wvg {H H':Hp}{x dx C:Addr}(nx:H x=none)(nd:H dx=none)(h:∀b o,upd (upd H dx (.own x)) x (.ins C dx []) b=some o→b≠x→H' b=some o):Same H H':=λb o e =>
 h b o (by rw [qr (q8 e nx),qr (q8 e nd)];exact e) (q8 e nx)
theorem Same.upd2 {H H':Hp}{p:Addr}{o:HO}(s:Same H H')(n:H p=none):Same H (L2.upd H' p o):=λb u e=>by
 rw [qr (q8 e n)]
 exact s b u e
theorem rd_pt {K:Aa}{H:Hp}{p:Addr}{q:Int×Int}(h:SqT K H p [.int q.1,.int q.2]):RD K H (ptD q) (.ref p):=by
 unfold ptD
 rw [RD]
 exact ⟨p,exI rfl ⟨h,by rw [RDs];exact ⟨_,_,rfl,by rw [RD],by rw [RDs];exact ⟨_,_,rfl,by rw [RD],by rw [RDs]⟩⟩⟩⟩
theorem dep_pt {p q:Int×Int}:min (ptD p).depth (ptD q).depth≤60:=by simp [ptD,PyData.depth,PyData.depthAll]
theorem wuz {x y b d:Int}(hb:1≤b)(hd:1≤d):x*d=y*b↔wt x b=wt y d:=by
 constructor
 ·intro e
  rw [←qq2 (t:=x) hb hd,e,gh b d,qq2 hd hb]
 ·intro e
  have c1:=j3 (t:=x) hb
  have c2:=j3 (t:=y) hd
  have v1:=jq (t:=x) hb
  rw [←e] at c2
  have h:x*d*(wt x b).2=y*b*(wt x b).2:=by
   have a1:x*d*(wt x b).2=x*(wt x b).2*d:=by grind
   have a2:y*b*(wt x b).2=y*(wt x b).2*b:=by grind
   rw [a1,a2,←c1,←c2]
   grind
  exact Int.eq_of_mul_eq_mul_right (by omega) h
theorem xx0 {CB C:Addr}{H:Hp}{p x dx:Addr}{hs:List Int}{Pp:Hp→Prop}{E:XK}(f:H p=some (.lst (hs.map V.int)))(nx:H x=none)(nd:H dx=none)(k:wz hs→∀H',Same H H'→RoadAt C H' x hs→Pp H')(bad:¬ wz hs→∀H',Same H H'→E (.ref CB) none H') :
  qjf K CB C [.ref x,.ref p] (upd (upd H dx (.own x)) x (.ins C dx [])) (λr H2=>r=.non∧Pp H2) E:=by
 refine ⟨x,dx,p,hs,rfl,qb,SqL.of (by rw [qr (q8 f nx),qr (q8 f nd)];exact f),λok H4 q nq kp r l=>⟨rfl,k ok H4 (wvg nx nd kp) ⟨dx,q,r,l⟩⟩,λz=>bad z _ ?_⟩
 exact λb o e=>by rw [qr (q8 e nx),qr (q8 e nd)];exact e
theorem at_h {hs:List Int}{k:Int}(h0:0≤k)(h1:k<hs.length):atI (hs.map V.int) k=some (V.int (hAt hs k)):=qqu h0 h1
theorem wx0 {hs:List Int}(ok:wz hs)(k:Int):0≤hAt hs k∧hAt hs k≤24:=by
 unfold hAt
 rw [ae]
 cases e:hs[k.toNat]? with
 |none=>exact ⟨by decide,by decide⟩
 |some v =>
  have hm:=ok.2.2 v (aA e)
  have:=ok.2.1
  show 0≤v∧v≤24
  omega
def Z4 (C CR:Addr):Sp:=λvs H Q E=>∃(r:Addr) (hs:List Int) (k:Int),vs=[.ref r,.int k]∧RoadAt C H r hs∧(0≤k→k<(hs.length:Int)-1→∀p,H p=none→Q (.ref p) (upd H p (.tup [.int (hAt hs k),.int (hAt hs (k+1))]))) ∧
 (k<0∨(hs.length:Int)-1≤k→E (.ref CR) none H)
theorem xxr {f:Addr}{fd:Ad}(F:Fun K "ends" "Road.ends" s_Road_ends f fd)(T:Txt K mg qm qx qd qy qh qc qk)(c_width:MCal P w K mg base qk "width" 1 (k8 qk)):FnOk P w K mg base (CXE P w) 2 f fd ["self","stretch"] (Z4 qk qc):=by
 have sc:=qjv
 refine F.okX sc (λvs H Q E h=>by obtain ⟨r,hs,k,rfl,_⟩:=h;rfl) (λcdv A outer s H vs Q E hr h=>?_)
 obtain ⟨r,hs,k,rfl,hR,kq,x⟩:=h
 obtain ⟨dx,q,h1,h2⟩:=id hR
 refine ⟨_,(qj (zy (PW.pt (yw (wj Q2 (pv 1) qu (wb _)) (jw (wj wzv (pv 1) (v9 (pv 0) T.cl c_width (hr.mono (by decide)) qg) (wb _))))) (qf (ku rfl T.x_BadRow zh rfl T.g_BadRow (qw u9 qv))) xy)
   (qf (wu (yh (qw (xm zx (www (pv 0) rfl) (pv 1) (λ_ _=>rfl)) (qw (xm zx (www (pv 0) rfl) (wx xg (pv 1) qu) (λ_ _=>rfl)) qv)))))),?_⟩
 refine exI rfl (wy rfl rfl (exI rfl ?_))
 refine kh (λq1=>?_) (λq1=>?_)
 ·refine yu ?_
  exact ⟨sz1,x (.inl q1)⟩
 ·refine exI rfl (exI rfl ⟨r,dx,exI rfl ⟨h1,xj (by decide +kernel),r,hs,rfl,hR,wy rfl rfl (exI rfl ?_)⟩⟩)
  refine kh (λq2=>?_) (λq2=>?_)
  ·exact ⟨sz1,x (.inr q2)⟩
  ·refine exI rfl ⟨r,qk,dx,_,_,rfl,h1,T.cl,T.na,y8,exI rfl (exX rfl rfl (SqL.of h2) (at_h (by omega) (by omega)) (exI rfl ⟨r,qk,dx,_,_,rfl,h1,T.cl,T.na,y8,exI rfl (wy rfl rfl (exX rfl rfl (SqL.of h2) (at_h (by omega) (by omega)) ⟨sz2,λp np=>?_⟩))⟩))⟩
   exact kq (by omega) (by omega) p np
def vq (hs:List Int)(t b:Int):Prop:=0≤t∧t≤((hs.length:Int)-1)*b
def W4 (K:Aa)(C CB CO:Addr):Sp:=λvs H Q E=>∃(r p:Addr) (hs:List Int) (t b:Int),vs=[.ref r,.ref p]∧RoadAt C H r hs∧wz hs∧SqT K H p [.int t,.int b] ∧
 (1≤b→Sm 8000 b∧(vq hs t b→∀q H',Same H H'→H' q=some (.tup (ptV (wt t b)))→Q (.ref q) H')∧(¬ vq hs t b→∀H',Same H H'→E (.ref CO) none H'))∧(b<1→E (.ref CB) none H)
theorem wq0 {f:Addr}{fd:Ad}(F:Fun K "on_road" "Road.on_road" s_Road_on_road f fd)(T:Txt K mg qm qx qd qy qh qc qk)(c_width:MCal P w K mg base qk "width" 1 (k8 qk))(c_lowest:Cal P w K mg base "lowest" 2 (uf qx)) :
  FnOk P w K mg base (CXE P w) 3 f fd ["self","point"] (W4 K qk qx qd):=by
 have sc:=J1
 refine F.okX sc (λvs H Q E h=>by obtain ⟨r,p,hs,t,b,rfl,_⟩:=h;rfl) (λcdv A outer s H vs Q E hr h=>?_)
 obtain ⟨r,p,hs,t,b,rfl,hR,hok,hp,kq,x⟩:=h
 obtain ⟨dx,q,h1,h2⟩:=id hR
 refine ⟨_,(qj (ym (ww c_lowest (hr.mono (by decide)) rfl qg (qw (xm kn (pv 1) qu (λ_ _=>rfl)) (qw (xm kn (pv 1) qu (λ_ _=>rfl)) qv))) (jb rfl (xv (wn (i:=2) sc.nd rfl (by walk_at "loc")) (xv (wn (i:=3) sc.nd rfl (by walk_at "loc")) vf))))
   (qj (zy (PW.pt (yw (wj Q2 (pv 2) qu (wb _)) (jw (wj u7 (pv 2) (wx xp (v9 (pv 0) T.cl c_width (hr.mono (by decide)) qg) (pv 3)) (wb _))))) (qf (ku rfl T.x_OffRoad zh rfl T.g_OffRoad (qw u9 qv))) xy)
   (qf (wu (yh (qw (pv 2) (qw (pv 3) qv))))))),?_⟩
 refine ⟨_,rfl,_,_,_,_,rfl,rfl,hp,rfl,_,rfl,_,_,_,_,rfl,rfl,hp,rfl,t,b,rfl,λhb=>⟨(kq hb).1.mono (by decide),λp1 n1=>?_⟩,λz=>x z⟩
 obtain ⟨sb,k1,k2⟩:=kq hb
 have s1:Same H (upd H p1 (.tup (ptV (wt t b)))):=Same.upd n1
 have hl:=hok.2.1
 refine ⟨p1,exI rfl ⟨SqT.new,rfl,_,_,rfl,_,_,rfl,rfl,?_⟩⟩
 refine exI rfl (wy rfl rfl (exI rfl ?_))
 refine kh (λq1=>?_) (λq1=>?_)
 ·refine yu ?_
  exact ⟨sz1,k2 (λz=>by have:=(qqm hb).mp q1;have:=z.1;omega) _ s1⟩
 ·refine exI rfl (exI rfl ⟨r,dx,exI rfl ⟨s1 _ _ h1,xj (by decide +kernel),r,hs,rfl,hR.same s1,exI rfl (wy rfl rfl ⟨IntMulOk.of_left (intBits_le_64 (by omega) (by omega)),wy rfl rfl (exI rfl ?_)⟩)⟩⟩)
  refine kh (λq2=>?_) (λq2=>?_)
  ·exact ⟨sz1,k2 (λz=>by have:=(wwq hb).mp q2;have:=z.2;omega) _ s1⟩
  ·refine exI rfl (exI rfl ⟨sz2,λp2 n2=>?_⟩)
   refine k1 ⟨?_,?_⟩ p2 _ (s1.trans (Same.upd n2)) qb
   ·rcases cZ t 0 with z|z
    ·exact absurd ((qqm hb).mpr z) q1
    ·exact z
   ·rcases cZ (((hs.length:Int)-1)*b) t with z|z
    ·exact absurd ((wwq hb).mpr z) q2
    ·exact z
def spAt (K:Aa)(C CB CO:Addr):Sp:=λvs H Q E=>∃(r p:Addr) (hs:List Int) (t b:Int),vs=[.ref r,.ref p]∧RoadAt C H r hs∧wz hs∧SqT K H p [.int t,.int b] ∧
 (1≤b→Sm 8000 b∧(vq hs t b→∀q H',Same H H'→H' q=some (.tup (ptV (Zq hs t b)))→Q (.ref q) H')∧(¬ vq hs t b→∀H',Same H H'→E (.ref CO) none H'))∧(b<1→E (.ref CB) none H)
theorem ok_at {f:Addr}{fd:Ad}(F:Fun K "at" "Road.at" s_Road_at f fd)(T:Txt K mg qm qx qd qy qh qc qk)(c_width:MCal P w K mg base qk "width" 1 (k8 qk))(c_lowest:Cal P w K mg base "lowest" 2 (uf qx))(c_ends:MCal P w K mg base qk "ends" 2 (Z4 qk qc))
  (c_on_road:MCal P w K mg base qk "on_road" 3 (W4 K qk qx qd)):FnOk P w K mg base (CXE P w) 4 f fd ["self","point"] (spAt K qk qx qd):=by
 have sc:=ww3
 refine F.okX sc (λvs H Q E h=>by obtain ⟨r,p,hs,t,b,rfl,_⟩:=h;rfl) (λcdv A outer s H vs Q E hr h=>?_)
 obtain ⟨r,p,hs,t,b,rfl,hR,hok,hp,kq,x⟩:=h
 obtain ⟨dx,q,h1,h2⟩:=id hR
 refine ⟨_,(qj (ym (vm (pv 0) T.cl c_on_road (hr.mono (by decide)) qg (qw (pv 1) qv)) (jb rfl (xv (wn (i:=2) sc.nd rfl (by walk_at "loc")) (xv (wn (i:=3) sc.nd rfl (by walk_at "loc")) vf))))
   (qj (wg (i:=4) sc.nd rfl (by walk_at "loc") (q9 (Qu rfl) rfl T.min_ dg (qw (wx Qj (pv 2) (pv 3)) (qw (wx vd (v9 (pv 0) T.cl c_width (hr.mono (by decide)) qg) qu) qv))))
   (qj (ym (vm (pv 0) T.cl c_ends (hr.mono (by decide)) qg (qw (pv 4) qv)) (jb rfl (xv (wn (i:=5) sc.nd rfl (by walk_at "loc")) (xv (wn (i:=6) sc.nd rfl (by walk_at "loc")) vf))))
   (qj (wg (i:=7) sc.nd rfl (by walk_at "loc") (wx vd (pv 2) (wx xp (pv 4) (pv 3))))
   (qf (wu (ww c_lowest (hr.mono (by decide)) rfl qg (qw (wx xg (wx xp (pv 5) (pv 3)) (wx xp (wx vd (pv 6) (pv 5)) (pv 7))) (qw (pv 3) qv))))))))),?_⟩
 refine ⟨_,rfl,r,dx,_,rfl,h1,xj (by decide +kernel),_,rfl,r,p,hs,t,b,rfl,hR,hok,hp,λhb=>⟨(kq hb).1,λhon p1 H1 s1 f1=>?_,λhoff H1 s1=>(kq hb).2.2 hoff H1 s1⟩,λz=>x z⟩
 obtain ⟨sb,k1,k2⟩:=kq hb
 have hl1:=hok.1
 have hl2:=hok.2.1
 have hy:=jq (t:=t) hb
 have hyb:=Wq (t:=t) hb
 have hx:0≤(wt t b).1:=by
  rcases cZ (wt t b).1 0 with z|z
  ·have:=(qqm hb).mp z
   have:=hon.1
   omega
  ·exact z
 have hk:=wub (hs:=hs) hl1 hy hx
 have sy:Sm 9000 (wt t b).2:=(sb.of_le (by omega)).mono (by decide)
 refine ⟨p1,exI rfl ⟨SqT.of f1,rfl,_,_,rfl,_,_,rfl,rfl,?_⟩⟩
 refine exI rfl (exI rfl (wy rfl rfl ⟨⟨by omega,sy⟩,exI rfl ⟨r,dx,exI rfl ⟨s1 _ _ h1,xj (by decide +kernel),r,hs,rfl,hR.same s1,wy rfl rfl ⟨_,_,rfl,?_⟩⟩⟩⟩))
 refine ⟨_,rfl,r,dx,_,rfl,s1 _ _ h1,xj (by decide +kernel),V.int (kF hs (wt t b).1 (wt t b).2),rfl,r,hs,kF hs (wt t b).1 (wt t b).2,rfl,hR.same s1,λ_ _ p2 n2=>?_,λz=>absurd z (by omega)⟩
 have g1:=wx0 hok (kF hs (wt t b).1 (wt t b).2)
 have g2:=wx0 hok (kF hs (wt t b).1 (wt t b).2+1)
 refine ⟨p2,exI rfl ⟨SqT.new,rfl,_,_,rfl,_,_,rfl,rfl,?_⟩⟩
 refine exI rfl ⟨V.int (kF hs (wt t b).1 (wt t b).2),rfl,exI rfl (wy rfl rfl ⟨IntMulOk.of_left (intBits_le_64 (by omega) (by omega)),wy rfl rfl ?_⟩)⟩
 refine exI rfl (exI rfl (wy rfl rfl ⟨IntMulOk.of_left (intBits_le_64 (by omega) (by omega)),exI rfl (exI rfl (wy rfl rfl (exI rfl (wy rfl rfl ⟨IntMulOk.of_left (intBits_le_64 (by omega) (by omega)),wy rfl rfl (exI rfl ?_)⟩))))⟩))
 refine ⟨kr hs (wt t b).1 (wt t b).2,(wt t b).2,rfl,λ_=>⟨sy,λp3 n3=>?_⟩,λz=>absurd z (by omega)⟩
 have e:wt (kr hs (wt t b).1 (wt t b).2) (wt t b).2=Zq hs t b:=qvz hb
 rw [e]
 exact k1 hon p3 _ (s1.trans ((Same.upd n2).trans (Same.upd n3))) qb
def Yf (a b:Int):Int:=if b<a then b else a
def Y7 (a b:Int):Int:=if b>a then b else a
theorem xxj {a b:Int}:Yf a b≤a∧Yf a b≤b∧(Yf a b=a∨Yf a b=b):=by unfold Yf;split <;> omega
theorem xzc {a b:Int}:a≤Y7 a b∧b≤Y7 a b∧(Y7 a b=a∨Y7 a b=b):=by unfold Y7;split <;> omega
def loH (hs:List Int)(k:Int):Int:=Yf (hAt hs k) (hAt hs (k+1))
def hiH (hs:List Int)(k:Int):Int:=Y7 (hAt hs k) (hAt hs (k+1))
def qv5 (C CR:Addr):Sp:=λvs H Q E=>∃(r:Addr) (hs:List Int) (k:Int),vs=[.ref r,.int k]∧RoadAt C H r hs∧(0≤k→k<(hs.length:Int)-1→∀H',Same H H'→Q (.int (hAt hs (k+1)-hAt hs k)) H') ∧
 (k<0∨(hs.length:Int)-1≤k→E (.ref CR) none H)
theorem wuy {f:Addr}{fd:Ad}(F:Fun K "slope" "Road.slope" s_Road_slope f fd)(T:Txt K mg qm qx qd qy qh qc qk)(c_ends:MCal P w K mg base qk "ends" 2 (Z4 qk qc)):FnOk P w K mg base (CXE P w) 3 f fd ["self","stretch"] (qv5 qk qc):=by
 have sc:=qzh
 refine F.okX sc (λvs H Q E h=>by obtain ⟨r,hs,k,rfl,_⟩:=h;rfl) (λcdv A outer s H vs Q E hr h=>?_)
 obtain ⟨r,hs,k,rfl,hR,kq,x⟩:=h
 obtain ⟨dx,q,h1,h2⟩:=id hR
 refine ⟨_,(qj (ym (vm (pv 0) T.cl c_ends (hr.mono (by decide)) qg (qw (pv 1) qv)) (jb rfl (xv (wn (i:=2) sc.nd rfl (by walk_at "loc")) (xv (wn (i:=3) sc.nd rfl (by walk_at "loc")) vf))))
   (qf (wu (wx vd (pv 3) (pv 2))))),?_⟩
 refine ⟨_,rfl,r,dx,_,rfl,h1,xj (by decide +kernel),V.int k,rfl,r,hs,k,rfl,hR,λa b p n=>?_,λz=>x z⟩
 refine ⟨p,exI rfl ⟨SqT.new,rfl,_,_,rfl,_,_,rfl,rfl,?_⟩⟩
 exact exI rfl (exI rfl (wy rfl rfl (kq a b _ (Same.upd n))))
def qky (C CR:Addr):Sp:=λvs H Q E=>∃(r:Addr) (hs:List Int) (k:Int),vs=[.ref r,.int k]∧RoadAt C H r hs∧(0≤k→k<(hs.length:Int)-1→∀p H',Same H H'→H' p=some (.tup [.int (loH hs k),.int (hiH hs k)])→Q (.ref p) H') ∧
 (k<0∨(hs.length:Int)-1≤k→E (.ref CR) none H)
theorem xq1 {f:Addr}{fd:Ad}(F:Fun K "reach" "Road.reach" s_Road_reach f fd)(T:Txt K mg qm qx qd qy qh qc qk)(c_ends:MCal P w K mg base qk "ends" 2 (Z4 qk qc)):FnOk P w K mg base (CXE P w) 3 f fd ["self","stretch"] (qky qk qc):=by
 have sc:=qzv
 refine F.okX sc (λvs H Q E h=>by obtain ⟨r,hs,k,rfl,_⟩:=h;rfl) (λcdv A outer s H vs Q E hr h=>?_)
 obtain ⟨r,hs,k,rfl,hR,kq,x⟩:=h
 obtain ⟨dx,q,h1,h2⟩:=id hR
 refine ⟨_,(qj (ym (vm (pv 0) T.cl c_ends (hr.mono (by decide)) qg (qw (pv 1) qv)) (jb rfl (xv (wn (i:=2) sc.nd rfl (by walk_at "loc")) (xv (wn (i:=3) sc.nd rfl (by walk_at "loc")) vf))))
   (qf (wu (yh (qw (q9 (Qu rfl) rfl T.min_ dg (qw (pv 2) (qw (pv 3) qv))) (qw (q9 (Yd rfl) rfl T.max_ dh (qw (pv 2) (qw (pv 3) qv))) qv)))))),?_⟩
 refine ⟨_,rfl,r,dx,_,rfl,h1,xj (by decide +kernel),V.int k,rfl,r,hs,k,rfl,hR,λa b p n=>?_,λz=>x z⟩
 refine ⟨p,exI rfl ⟨SqT.new,rfl,_,_,rfl,_,_,rfl,rfl,?_⟩⟩
 refine exI rfl (exI rfl ⟨_,_,rfl,exI rfl (exI rfl ⟨_,_,rfl,sz2,λp2 n2=>?_⟩)⟩)
 exact kq a b p2 _ ((Same.upd n).trans (Same.upd n2)) qb
theorem lohi {hs:List Int}(ok:wz hs)(k:Int):0≤loH hs k∧loH hs k≤hiH hs k∧hiH hs k≤(hs.length:Int)-1:=by
 have g:∀j,0≤hAt hs j∧hAt hs j≤(hs.length:Int)-1:=λj=>by
  unfold hAt
  rw [ae]
  have l:=ok.1
  cases e:hs[j.toNat]? with
  |none=>exact ⟨by decide,by show (0:Int)≤_;omega⟩
  |some v=>exact ok.2.2 v (aA e)
 have a:=g k
 have b:=g (k+1)
 have c:=xxj (a:=hAt hs k) (b:=hAt hs (k+1))
 have d:=xzc (a:=hAt hs k) (b:=hAt hs (k+1))
 unfold loH hiH
 omega
def vc (hs:List Int)(k:Int):List Int:=(List.range (hiH hs k-loH hs k).toNat).map λj:Nat=>loH hs k+j
theorem wus (hs:List Int)(k:Int):((List.range (hiH hs k-loH hs k).toNat).map λj:Nat=>V.int (loH hs k+j))=(vc hs k).map V.int:=by
 unfold vc
 rw [bz]
 rfl
def Qr (C CR:Addr):Sp:=λvs H Q E=>∃(r:Addr) (hs:List Int) (k:Int),vs=[.ref r,.int k]∧RoadAt C H r hs∧wz hs∧(0≤k→k<(hs.length:Int)-1→∀p H',H p=none→Same H H'→H' p=some (.lst ((vc hs k).map V.int))→Q (.ref p) H') ∧
 (k<0∨(hs.length:Int)-1≤k→E (.ref CR) none H)
theorem ww0 {f:Addr}{fd:Ad}(F:Fun K "covered" "covered" s_covered f fd)(T:Txt K mg qm qx qd qy qh qc qk)(c_reach:MCal P w K mg base qk "reach" 3 (qky qk qc)):FnOk P w K mg base (CXE P w) 4 f fd ["road","stretch"] (Qr qk qc):=by
 have sc:=ww1
 refine F.okX sc (λvs H Q E h=>by obtain ⟨r,hs,k,rfl,_⟩:=h;rfl) (λcdv A outer s H vs Q E hr h=>?_)
 obtain ⟨r,hs,k,rfl,hR,ok,kq,x⟩:=h
 obtain ⟨dx,q,h1,h2⟩:=id hR
 refine ⟨_,(qj (ym (vm (pv 0) T.cl c_reach (hr.mono (by decide)) qg (qw (pv 1) qv)) (jb rfl (xv (wn (i:=2) sc.nd rfl (by walk_at "loc")) (xv (wn (i:=3) sc.nd rfl (by walk_at "loc")) vf))))
   (qf (wu (qzr rfl rfl T.list_ rfl T.range_ (qw (pv 2) (qw (pv 3) qv)))))),?_⟩
 refine ⟨_,rfl,r,dx,_,rfl,h1,xj (by decide +kernel),V.int k,rfl,r,hs,k,rfl,hR,λa b p H1 s1 f1=>?_,λz=>x z⟩
 have hl:=lohi ok k
 have ol:=ok.2.1
 refine ⟨p,exI rfl ⟨SqT.of f1,rfl,_,_,rfl,_,_,rfl,rfl,?_⟩⟩
 refine ⟨_,rfl,_,rfl,_,_,rfl,⟨by omega,by omega,by omega,by omega⟩,by omega,λp2 n2=>?_⟩
 refine kq a b p2 _ ?_ (s1.trans (Same.upd n2)) (by rw [qb,wus])
 cases e:H p2 with
 |none=>rfl
 |some o=>rw [s1 _ _ e] at n2;cases n2
theorem xwv {hs:List Int}(ok:wz hs)(k:Int):0≤hAt hs k∧hAt hs k≤(hs.length:Int)-1:=by
 unfold hAt
 rw [ae]
 have:=ok.1
 cases e:hs[k.toNat]? with
 |none=>exact ⟨by decide,by show (0:Int)≤_;omega⟩
 |some v=>exact ok.2.2 v (aA e)
theorem xzk {hs:List Int}{t b:Int}(hok:wz hs)(hb:1≤b)(hon:vq hs t b):vq hs (kr hs t b) b:=by
 have hl1:=hok.1
 have hk:=wub (hs:=hs) hl1 hb hon.1
 have g1:=xwv hok (kF hs t b)
 have g2:=xwv hok (kF hs t b+1)
 have e1:0≤t-kF hs t b*b∧t-kF hs t b*b≤b:=by
  have h1:t/b*b≤t:=iG t (by omega)
  have h2:=Int.lt_ediv_add_one_mul_self t (show 0<b by omega)
  unfold kF
  split
  ·next z =>
   have h3:=aM (show (hs.length:Int)-1-1≤t/b by omega) (show 0≤b by omega)
   have h4:=hon.2
   constructor
   ·omega
   ·have:((hs.length:Int)-1)*b=((hs.length:Int)-1-1)*b+b:=by grind
    omega
  ·have:(t/b+1)*b=t/b*b+b:=by grind
   constructor <;> omega
 have r:=wj8 (u:=hAt hs (kF hs t b)) (v:=hAt hs (kF hs t b+1)) e1.1 e1.2
 refine ⟨dC ?_ r.1,dC r.2 ?_⟩
 ·refine eo ?_ (by omega)
  split <;> omega
 ·refine aM ?_ (by omega)
  split <;> omega
theorem low_on {hs:List Int}{t b:Int}(hb:1≤b)(hon:vq hs t b):vq hs (wt t b).1 (wt t b).2:=by
 constructor
 ·rcases cZ (wt t b).1 0 with z|z
  ·have:=(qqm hb).mp z
   have:=hon.1
   omega
  ·exact z
 ·rcases cZ (((hs.length:Int)-1)*(wt t b).2) (wt t b).1 with z|z
  ·have:=(wwq hb).mp z
   have:=hon.2
   omega
  ·exact z
def itP (hs:List Int)(p:Int×Int):Nat→Int×Int
 |0=>p
 |n+1=>Zq hs (itP hs p n).1 (itP hs p n).2
def Pt (hs:List Int)(c:Int)(p:Int×Int):Prop:=1≤p.2∧p.2≤c∧gOf p.1 p.2=1∧vq hs p.1 p.2
theorem wj7 {hs:List Int}{t b:Int}(hb:1≤b)(hon:vq hs t b):Pt hs b (wt t b):=⟨jq hb,Wq hb,wq4 hb,low_on hb hon⟩
theorem xwp {hs:List Int}{c:Int}{p:Int×Int}(hok:wz hs)(h:Pt hs c p):Pt hs c (Zq hs p.1 p.2):=by
 have a:=wj7 h.1 (xzk hok h.1 h.2.2.2)
 exact ⟨a.1,dC a.2.1 h.2.1,a.2.2.1,a.2.2.2⟩
theorem pt_it {hs:List Int}{c:Int}{p:Int×Int}(hok:wz hs)(h:Pt hs c p):∀n,Pt hs c (itP hs p n)
 |0=>h
 |n+1=>xwp hok (pt_it hok h n)
def trT (hs:List Int)(t b:Int):Nat→Int
 |0=>t
 |n+1=>kr hs (trT hs t b n) b
theorem wvx {hs:List Int}{t b:Int}(hb:1≤b):∀n,wt (trT hs t b n) b=itP hs (wt t b) n
 |0=>rfl
 |n+1=>by
  show Zq hs (trT hs t b n) b=Zq hs (itP hs (wt t b) n).1 (itP hs (wt t b) n).2
  rw [←wvx hb n,qvz hb]
def wwh (hs:List Int)(p:Int×Int)(n:Nat):List (Int×Int):=(List.range n).map (itP hs p)
theorem Jv (hs:List Int)(p:Int×Int)(n:Nat):wwh hs p (n+1)=wwh hs p n++[itP hs p n]:=by
 unfold wwh
 rw [List.range_succ,List.map_append]
 rfl
theorem uj (hs:List Int)(p:Int×Int)(n:Nat):(wwh hs p n).length=n:=by
 unfold wwh
 rw [List.length_map,List.length_range]
def PtR (H:Hp)(v:V)(p:Int×Int):Prop:=∃a,v=.ref a∧H a=some (.tup [.int p.1,.int p.2])
theorem PtR.same {H H':Hp}{v:V}{p:Int×Int}(h:PtR H v p)(s:Same H H'):PtR H' v p:=by
 obtain ⟨a,e,f⟩:=h
 exact ⟨a,e,s _ _ f⟩
theorem PtR.upd {H:Hp}{v:V}{p:Int×Int}{q:Addr}{xs:List V}{o:HO}(h:PtR H v p)(hq:H q=some (.lst xs)):PtR (L2.upd H q o) v p:=by
 obtain ⟨a,e,f⟩:=h
 refine ⟨a,e,?_⟩
 rw [qr (λz=>by rw [z,hq] at f;cases f)]
 exact f
theorem qxn {α β:Type}{F G:α→β→Prop}(h:∀a b,F a b→G a b):∀ {l:List α} {m:List β},Paired F l m→Paired G l m
 |_,_,.nil=>.nil
 |_,_,.cons a t=>.cons (h _ _ a) (qxn h t)
theorem jy {α β:Type}{F:α→β→Prop}:∀ {l:List α} {m:List β} {i:Nat} {a:α},Paired F l m→l[i]?=some a→∃b,m[i]?=some b∧F a b
 |_,_,0,_,.cons a _,e=>by cases e;exact exI rfl a
 |_,_,i+1,_,.cons _ t,e=>jy (i:=i) t e
theorem Y0 {α β:Type}{F:α→β→Prop}:∀ {l:List α} {m:List β} {i:Nat} {b:β},Paired F l m→m[i]?=some b→∃a,l[i]?=some a∧F a b
 |_,_,0,_,.cons a _,e=>by cases e;exact exI rfl a
 |_,_,i+1,_,.cons _ t,e=>Y0 (i:=i) t e
theorem qyv {α β:Type}{F:α→β→Prop}:∀ {l:List α} {m:List β} {a:α},Paired F l m→a∈l→∃b,b∈m∧F a b
 |_,_,_,.cons a t,e=>by
  rcases ay.mp e with rfl|e
  ·exact ⟨_,.head _,a⟩
  ·obtain ⟨b,hb,fb⟩:=qyv t e
   exact ⟨b,.tail _ hb,fb⟩
def PtsAt (H:Hp)(q:Addr)(ps:List (Int×Int)):Prop:=∃vs,H q=some (.lst vs)∧Paired (PtR H) vs ps
theorem PtsAt.same {H H':Hp}{q:Addr}{ps:List (Int×Int)}(h:PtsAt H q ps)(s:Same H H'):PtsAt H' q ps:=by
 obtain ⟨vs,f,r⟩:=h
 exact ⟨vs,s _ _ f,qxn (λ_ _ z=>z.same s) r⟩
theorem Qh {hs:List Int}(ok:wz hs)(k:Int):∀v∈vc hs k,0≤v∧v<((hs.length-1:Nat):Int):=λv hv=>by
 have l:=lohi ok k
 have:=ok.1
 unfold vc at hv
 obtain ⟨j,hj,rfl⟩:=aH.mp hv
 have:=am.mp hj
 omega
theorem qu9 {hs:List Int}(ok:wz hs)(k:Int):(vc hs k).length≤24:=by
 have l:=lohi ok k
 have:=ok.2.1
 unfold vc
 rw [List.length_map,List.length_range]
 omega
def xf (hs:List Int):Nat→List Int:=λi=>vc hs ((0:Int)+i)
def CovAt (H:Hp)(p:Addr)(hs:List Int):Prop:=∃ys,H p=some (.lst ys)∧ys.length=hs.length-1∧∀i v,ys[i]?=some v→∃q,v=.ref q∧H q=some (.lst ((xf hs i).map V.int))
theorem CovAt.same {H H':Hp}{p:Addr}{hs:List Int}(h:CovAt H p hs)(s:Same H H'):CovAt H' p hs:=by
 obtain ⟨ys,e,l,r⟩:=h
 exact ⟨ys,s _ _ e,l,λi v z=>let ⟨q,a,b⟩:=r i v z;⟨q,a,s _ _ b⟩⟩
theorem qxh (g:Nat→List V):Stay λi v H=>∃q,v=.ref q∧H q=some (.lst (g i)):=λi v H H' p h nv st=>by
 obtain ⟨q,rfl,e⟩:=h
 exact ⟨q,rfl,st q _ (λz=>nv (by rw [z])) e⟩
def y9 (C:Addr):Sp:=λvs H Q _=>∃(r:Addr) (hs:List Int),vs=[.ref r]∧RoadAt C H r hs∧wz hs∧∀p H',H p=none→Same H H'→CovAt H' p hs→Q (.ref p) H'
theorem qkt {f:Addr}{fd:Ad}(F:Fun K "covers_of" "covers_of" s_covers_of f fd)(T:Txt K mg qm qx qd qy qh qc qk)(c_width:MCal P w K mg base qk "width" 1 (k8 qk))(c_covered:Cal P w K mg base "covered" 4 (Qr qk qc)):FnOk P w K mg base (CXE P w) 5 f fd ["road"] (y9 qk):=by
 have sc:=qjt
 refine F.okX sc (λvs H Q E h=>by obtain ⟨r,hs,rfl,_⟩:=h;rfl) (λcdv A outer s H vs Q E hr h=>?_)
 obtain ⟨r,hs,rfl,hR,ok,k⟩:=h
 obtain ⟨dx,q,h1,h2⟩:=id hR
 have o1:=ok.1
 have o2:=ok.2.1
 refine ⟨_,(qf (wu (zp (M:=[0]) rfl rfl (by walk_at "cap") (by walk_at "has") (by walk_at "cix") rfl (by decide +kernel) rfl (show List.Nodup (["stretch","road"]:List Str) by decide +kernel) (xr rfl T.range_ (qw (v9 (pv 0) T.cl c_width (hr.mono (by decide)) qg) qv)) (λ_ _ _ _ _=>(ww c_covered (hr.mono (by decide)) rfl Wf (qw (pv 1) (qw (pv 0) qv))))))),?_⟩
 refine exI rfl ⟨r,dx,exI rfl ⟨h1,xj (by decide +kernel),r,hs,rfl,hR,exI rfl ⟨(by omega),(by omega),uk (λi v H=>∃q,v=.ref q∧H q=some (.lst ((xf hs i).map V.int))) (qxh _) (by omega) (λi H' R hi s' hR'=>?_) λp ys H' np s' f l hG=>k p H' np s' ⟨ys,f,by omega,λi v e=>(hG i v e).1⟩⟩⟩⟩
 refine ⟨_,rfl,_,rfl,r,hs,_,rfl,hR.same s',ok,λ_ _ p2 H2 n2 s2 f2=>hR' (.ref p2) H2 s2 ⟨p2,rfl,f2⟩ λb e=>?_,λz=>absurd z (by omega)⟩
 cases e
 exact n2
def qw8:Sp:=λvs H Q _=>∃w:Int,vs=[.int w]∧0≤w∧w≤24∧∀(cov:Nat→List Int) p H',H p=none→Same H H'→MatAt H' p w.toNat (zw cov 0)→Q (.ref p) H'
theorem wxm {f:Addr}{fd:Ad}(F:Fun K "ways_of_no_step" "ways_of_no_step" s_ways_of_no_step f fd)(T:Txt K mg qm qx qd qy qh qc qk):FnOk P w K mg base (CXE P w) 1 f fd ["width"] qw8:=by
 have sc:=Wz
 refine F.okX sc (λvs H Q E h=>by obtain ⟨w,rfl,_⟩:=h;rfl) (λcdv A outer s H vs Q E hr h=>?_)
 obtain ⟨w,rfl,w0,w1,k⟩:=h
 refine ⟨_,(qf (wu (qwm (M:=[0]) rfl rfl (by walk_at "cap") (by walk_at "hasK") (by walk_at "cix") rfl (by decide +kernel) (by intro _;rfl) (by intro _;rfl) rfl (show List.Nodup (["begin","width"]:List Str) by decide +kernel) (xr rfl T.range_ (qw (pv 0) qv)) (λ_ _ _ _ _=>(zp (M:=[0]) rfl rfl (by walk_at "cap") (by walk_at "has") (by walk_at "cix") rfl (by decide +kernel) rfl (show List.Nodup (["end","begin"]:List Str) by decide +kernel) (xr rfl T.range_ (qw (pv 1) qv)) (λ_ _ _ _ _=>(qj3 (wj Qk (pv 0) (pv 1) (wb _)) qu qu))))))),?_⟩
 refine exI rfl ⟨w,rfl,(by omega),(by omega),uk (λi v H=>∃q,v=.ref q∧H q=some (.lst ((zu w.toNat (zw (λ_=>[]) 0 i)).map V.int))) (qxh _) (by omega) (λi H' R hi s' hR'=>?_) λp ys H' np s' f l hG=>k (λ_=>[]) p H' np s' ⟨ys,f,l,λi v e=>(hG i v e).1⟩⟩
 refine exI rfl ⟨w,rfl,(by omega),(by omega),vv (λj=>V.int (zw (λ_=>[]) 0 i j)) (by omega) (λj H2 R2 hj s2 hR2=>?_) λq nq=>hR' (.ref q) _ (Same.upd nq) ⟨q,rfl,by rw [qb,qxk]⟩ λb e=>by cases e;exact nq⟩
 refine exI rfl (exI rfl ⟨rfl,_,rfl,Q6 (λe=>?_) (λe=>?_)⟩)
 ·have:zw (λ_=>[]) 0 i j=1:=if_pos (by omega)
  rw [this] at hR2
  exact hR2
 ·have:zw (λ_=>[]) 0 i j=0:=if_neg (by omega)
  rw [this] at hR2
  exact hR2
def Jx (hs:List Int):Sp:=λvs H Q _=>∃(c t:Addr) (f:Nat→Nat→Int),vs=[.ref c,.ref t]∧CovAt H c hs∧MatAt H t (hs.length-1) f∧∀p H',H p=none→Same H H'→MatAt H' p (hs.length-1) (λi j=>((xf hs i).map λv=>f v.toNat j).sum)→Q (.ref p) H'
def picks (f:Nat→Nat→Int)(j:Nat):V→V
 |.int z=>.int (f z.toNat j)
 |_=>.non
theorem at_row {n j:Nat}{g:Nat→Int}(h:j<n):atI ((zu n g).map V.int) ((0:Int)+j)=some (V.int (g j)):=by
 rw [Int.zero_add]
 refine vy ?_
 rw [ao,qxv h]
 rfl
theorem qup {hs:List Int}(ok:wz hs){f:Addr}{fd:Ad}(F:Fun K "one_step_more" "one_step_more" s_one_step_more f fd)(T:Txt K mg qm qx qd qy qh qc qk):FnOk P w K mg base (CXE P w) 1 f fd ["covers","table"] (Jx hs):=by
 have sc:=Y8
 refine F.okX sc (λvs H Q E h=>by obtain ⟨c,t,g,rfl,_⟩:=h;rfl) (λcdv A outer s H vs Q E hr h=>?_)
 obtain ⟨c,t,g,rfl,⟨cs,fc,lc,gc⟩,hM,k⟩:=h
 obtain ⟨ts,ft,lt,gt⟩:=id hM
 have o1:=ok.1
 have o2:=ok.2.1
 refine ⟨_,(qf (wu (qwm (M:=[1]) rfl rfl (by walk_at "cap") (by walk_at "hasK") (by walk_at "cix") rfl (by decide +kernel) (by intro _;rfl) (by intro _;rfl) rfl (show List.Nodup (["vias","table"]:List Str) by decide +kernel) (zf (pv 0)) (λ_ _ _ _ _=>(qwm (M:=[0,1]) rfl rfl (by walk_at "cap") (by walk_at "hasK") (by walk_at "cix") rfl (by decide +kernel) (by intro _;rfl) (by intro _;rfl) rfl (show List.Nodup (["end","vias","table"]:List Str) by decide +kernel) (xr rfl T.range_ (qw (q9 (qzn (K:=K) rfl) rfl T.len_ aZ (qw (pv 1) qv)) qv)) (λ_ _ _ _ _=>(q9 (vw (K:=K) rfl rfl) rfl T.sum_ yk (qw (zp (M:=[0,2]) rfl rfl (by walk_at "cap") (by walk_at "has") (by walk_at "cix") rfl (by decide +kernel) rfl (show List.Nodup (["via","end","table"]:List Str) by decide +kernel) (wqj (K:=K) rfl (pv 1)) (λ_ _ _ _ _=>(xm (jk (K:=K) rfl) (xm (jk (K:=K) rfl) (pv 2) (pv 0) (λ_ _=>rfl)) (pv 1) (λ_ _=>rfl)))) qv)))))))),?_⟩
 refine exI rfl ⟨c,rfl,⟨_,SqL.of fc⟩,yt (K:=K) (a:=c) (xs:=cs) (λi v H=>∃q,v=.ref q∧H q=some (.lst ((zu (hs.length-1) λj=>((xf hs i).map λv=>g v.toNat j).sum).map V.int))) (qxh _) (SqL.of fc) (by omega) (λi x H' R hx s' hR'=>?_) λp ys H' np s' f l hG=>k p H' np s' ⟨ys,f,by omega,λi v e=>(hG i v e).1⟩⟩
 obtain ⟨qi,rfl,fqi⟩:=gc i x hx
 refine exI rfl ⟨t,exI rfl ⟨.inl (SqL.of (s' _ _ ft)),exI rfl ⟨(by omega),(by omega),?_⟩⟩⟩
 rw [show ((ts.length:Int)).toNat=hs.length-1 by omega]
 refine wqx (λj=>V.int (((xf hs i).map λv=>g v.toNat j).sum)) (λ_ _ e=>nomatch e) (by omega) (λj H2 R2 hj s2 hR2=>?_) λq H2 nq s2 fq=>hR' (.ref q) H2 s2 ⟨q,rfl,by rw [fq,qxk]⟩ λb e=>by cases e;exact nq
 have s02:=s'.trans s2
 refine exI rfl ⟨qi,rfl,⟨_,SqL.of (s02 _ _ fqi)⟩,Yh (K:=K) (a:=qi) (xs:=(xf hs i).map V.int) (picks g j) (SqL.of (s02 _ _ fqi)) (by rw [List.length_map];have:=qu9 ok ((0:Int)+i);unfold xf;omega) (λx3 H3 R3 hx3 s3 hR3=>?_) λpl nl=>?_⟩
 ·obtain ⟨z,hz,rfl⟩:=aH.mp hx3
  have zb:=Qh ok _ z hz
  obtain ⟨qz,ez,fz⟩:=hM.row ft (i:=z.toNat) (by omega)
  have s03:=s02.trans s3
  have ez':atI ts z=some (.ref qz):=by
   have:=vy ez
   rwa [cf zb.1] at this
  exact exI rfl (exI rfl (exX rfl rfl (SqL.of (s03 _ _ ft)) ez' (exI rfl (exX rfl rfl (SqL.of (s03 _ _ fz)) (at_row hj) hR3))))
 ·have e:((xf hs i).map V.int).map (picks g j)=((xf hs i).map λv=>g v.toNat j).map V.int:=by
   rw [bz,bz]
   rfl
  rw [e]
  exact ⟨pl,exI rfl ⟨SqL.new,hR2 _ (Same.upd nl)⟩⟩
theorem MatAt.upd {H:Hp}{p q:Addr}{n:Nat}{f:Nat→Nat→Int}{ys:List V}{o:HO}{a:Addr}(h:MatAt H p n f)(hn:1≤n)(hq:H q=some (.lst ys))(hp:p≠q)(h0:ys[0]?=some (.ref a)):MatAt (L2.upd H q o) p n f:=by
 obtain ⟨zs,e,l,r⟩:=h
 refine ⟨zs,by rw [qr hp];exact e,l,λi v z=>?_⟩
 obtain ⟨q',a',b⟩:=r i v z
 refine ⟨q',a',?_⟩
 rw [qr (λe'=>?_)]
 ·exact b
 ·rw [e',hq] at b
  have e1:ys=(zu n (f i)).map V.int:=by
   injection b with b
   injection b
  rw [e1,ao,qxv (by omega)] at h0
  cases h0
def qwq (C:Addr):Sp:=λvs H Q _=>∃(r:Addr) (hs:List Int) (m:Int),vs=[.ref r,.int m]∧RoadAt C H r hs∧wz hs∧0≤m∧m≤60 ∧
 ∀p ys H',Same H H'→H' p=some (.lst ys)→ys.length=m.toNat+1→(∀i v,ys[i]?=some v→∃q,v=.ref q∧MatAt H' q (hs.length-1) (zw (xf hs) i))→Q (.ref p) H'
theorem wxw {f:Addr}{fd:Ad}(F:Fun K "ways_up_to" "ways_up_to" s_ways_up_to f fd)(T:Txt K mg qm qx qd qy qh qc qk)(c_covers_of:Cal P w K mg base "covers_of" 5 (y9 qk))(c_width:MCal P w K mg base qk "width" 1 (k8 qk))(c_ways_of_no_step:Cal P w K mg base "ways_of_no_step" 1 qw8)
  (c_more:∀hs,wz hs→Cal P w K mg base "one_step_more" 1 (Jx hs)):FnOk P w K mg base (CXE P w) 6 f fd ["road","many"] (qwq qk):=by
 have sc:=qzq
 refine F.okX sc (λvs H Q E h=>by obtain ⟨r,hs,m,rfl,_⟩:=h;rfl) (λcdv A outer s H vs Q E hr h=>?_)
 obtain ⟨r,hs,m,rfl,hR,ok,m0,m1,k⟩:=h
 obtain ⟨dx,q,h1,h2⟩:=id hR
 have o1:=ok.1
 have o2:=ok.2.1
 have c_one_step_more:=c_more hs ok
 refine ⟨_,(qj (wg (i:=2) sc.nd rfl (by walk_at "loc") (ww c_covers_of (hr.mono (by decide)) rfl qg (qw (pv 0) qv)))
   (qj (wg (i:=3) sc.nd rfl (by walk_at "loc") (jx (qw (ww c_ways_of_no_step (hr.mono (by decide)) rfl qg (qw (v9 (pv 0) T.cl c_width (hr.mono (by decide)) qg) qv)) qv)))
   (qj (uu ba (wj qyd (q9 wm rfl T.len_ aZ (qw (pv 3) qv)) (pv 1) (wb _)) (qf (zm (Jd bL bT bU vk (pv 3) (qw (ww c_one_step_more (hr.mono (by decide)) rfl qg (qw (pv 2) (qw (xm zx (pv 3) (qv2 Jk qu) (λ_ _=>rfl)) qv))) qv)))))
   (qf (wu (pv 3)))))),?_⟩
 refine exI rfl ⟨r,hs,rfl,hR,ok,λp1 H1 n1 s1 C1=>?_⟩
 refine exI rfl ⟨r,dx,exI rfl ⟨s1 _ _ h1,xj (by decide +kernel),r,hs,rfl,hR.same s1,exI rfl ⟨(by omega),(by omega),λcov p2 H2 n2 s2 M2=>?_⟩⟩⟩
 rw [show ((hs.length:Int)-1).toNat=hs.length-1 by omega] at M2
 have M2':MatAt H2 p2 (hs.length-1) (zw (xf hs) 0):=M2
 obtain ⟨zs2,e2,_,_⟩:=id M2
 refine ⟨sz1,λq nq=>?_⟩
 have dq:p2≠q:=q8 e2 nq
 have sq:Same H2 (upd H2 q (.lst [.ref p2])):=Same.upd nq
 refine Zf (λσ H3=>∃(i:Nat) (ys:List V),σ=[some (.ref r),some (.int m),some (.ref p1),some (.ref q)]∧(i:Int)≤m∧Same H2 H3∧H3 q=some (.lst ys)∧ys.length=i+1∧∀j v,ys[j]?=some v→∃q',v=.ref q'∧q'≠q∧MatAt H3 q' (hs.length-1) (zw (xf hs) j))
  (λ_ H3=>match H3 q with|some (.lst ys)=>(m+1).toNat-ys.length|_=>0) ⟨0,[.ref p2],rfl,by omega,sq,qb,rfl,λj v e=>?_⟩ ?_ λσ H Q Q' h ⟨v,e,p',ys,e1,e2,v2,e3,i,j,e4,e5,kk,e6,qq⟩=>⟨v,e,p',ys,e1,e2,v2,e3,i,j,e4,e5,kk,e6,h _ _ qq⟩
 ·rcases j with _|j
  ·cases e
   exact ⟨p2,rfl,dq,M2'.same sq⟩
  ·cases e
 ·rintro σ H3 ⟨i,ys,rfl,hi,s3,f3,l3,g3⟩
  have s03:=s1.trans (s2.trans s3)
  refine exI rfl ⟨_,_,rfl,.inl (SqL.of f3),exI rfl (wy rfl rfl (exI rfl ?_))⟩
  rw [l3]
  refine kh (λq1=>?_) (λq1=>?_)
  ·have ei:ys[i]?=some ys[i]:=aa (by omega)
   obtain ⟨qi,eqi,dqi,Mi⟩:=g3 i _ ei
   have hlast:atI ys (-1)=some (.ref qi):=by
    have hz:ys≠[]:=λz=>by rw [z] at l3;simp at l3
    have e1:ys=ys.dropLast++[ys.getLast hz]:=(dX hz).symm
    have e2:ys.getLast hz=.ref qi:=by
     rw [ir]
     have:ys[i]?=ys[ys.length-1]?:=by rw [l3];rfl
     rw [this,aa (by omega),eqi] at ei
     exact aj ei
    rw [e1,e2]
    exact Zb _ _
   obtain ⟨q0',e0,_,_⟩:=g3 0 _ (aa (show 0<ys.length by omega))
   have h0:ys[0]?=some (.ref q0'):=by rw [aa (show 0<ys.length by omega),e0]
   refine exI rfl ⟨.inl ⟨rfl,_,SqL.of f3⟩,exI rfl (exI rfl (exI rfl (exX rfl rfl (SqL.of f3) hlast ⟨p1,qi,zw (xf hs) i,rfl,C1.same (s2.trans s3),Mi,λp4 H4 n4 s4 M4=>?_⟩)))⟩
   have f4:=s4 _ _ f3
   have d4:p4≠q:=(q8 f3 n4).symm
   refine ⟨_,_,_,rfl,rfl,f4,Qb (by omega),⟨i+1,ys++[.ref p4],rfl,by omega,Same.upd2 (s3.trans s4) nq,qb,by rw [ai,l3];rfl,λj v e=>?_⟩,?_⟩
   ·rcases aV j ys.length with z|z
    ·rw [aK z] at e
     obtain ⟨q',e',d',M'⟩:=g3 j v e
     exact ⟨q',e',d',MatAt.upd (M'.same s4) (by omega) f4 d' h0⟩
    ·rw [av z] at e
     have hj:j=i+1:=by
      rcases aV (j-ys.length) 1 with y|y
      ·omega
      ·rw [az (by simpa using y)] at e
       cases e
     subst hj
     rw [show i+1-ys.length=0 by omega] at e
     have:V.ref p4=v:=aj e
     subst this
     exact ⟨p4,rfl,d4,MatAt.upd (f:=zw (xf hs) (i+1)) M4 (by omega) f4 d4 h0⟩
   ·show (match upd H4 q (.lst (ys++[.ref p4])) q with|some (.lst ys)=>(m+1).toNat-ys.length|_=>0)<(match H3 q with|some (.lst ys)=>(m+1).toNat-ys.length|_=>0)
    rw [qb,f3]
    show (m+1).toNat-(ys++[V.ref p4]).length<(m+1).toNat-ys.length
    rw [ai,cn]
    omega
  ·refine exI rfl (k q ys H3 s03 f3 (by omega) λj v e=>?_)
   obtain ⟨q',e',_,M'⟩:=g3 j v e
   exact ⟨q',e',M'⟩
end
section
variable {P:Ac}{w:World}{K:Aa}{mg:Str→Option Value}{base:Heap}{qm:Addr}{qx:Addr}{qd:Addr}{qy:Addr}{qh:Addr}{qc:Addr}{qk:Addr}
def wxv (hs:List Int)(i j:Int):Prop:=(0≤i∧i<(hs.length:Int)-1)∧loH hs i≤j∧j+1≤hiH hs i
instance (hs:List Int)(i j:Int):Decidable (wxv hs i j):=by unfold wxv;exact inferInstance
def Zs (xs:List Int):List Int:=xs.drop 1++xs.take 1
theorem wvf (xs:List Int):(Zs xs).length=xs.length:=by
 unfold Zs
 rw [ai,br,aL]
 omega
def vz (hs xs:List Int):Prop:=(1≤xs.length∧xs.length≤12)∧∀(i:Nat) (x y:Int),xs[i]?=some x→(Zs xs)[i]?=some y→wxv hs x y
theorem in_cov {hs:List Int}{k j:Int}:inV (.int j) ((vc hs k).map V.int)=decide (loH hs k≤j∧j+1≤hiH hs k):=by
 unfold inV
 rw [cD,dI,eZ]
 constructor
 ·rintro ⟨v,hv,e⟩
  obtain ⟨i,hi,rfl⟩:=aH.mp hv
  have e:i=j:=eq_of_beq e
  subst e
  unfold vc at hi
  obtain ⟨n,hn,rfl⟩:=aH.mp hi
  have:=am.mp hn
  omega
 ·rintro ⟨h1,h2⟩
  refine ⟨.int j,aH.mpr ⟨j,?_,rfl⟩,?_⟩
  ·unfold vc
   exact aH.mpr ⟨(j-loH hs k).toNat,am.mpr (by omega),by omega⟩
  ·show (j==j)=true
   exact dJ j
theorem wjp (xs:List Int):(xs.map V.int).all W5=true:=by
 rw [ie]
 intro v hv
 obtain ⟨i,_,rfl⟩:=aH.mp hv
 rfl
def qux (hs:List Int)(p:Int×Int)(x:Int):Int×Int:=(p.1*(hAt hs (x+1)-hAt hs x),hAt hs x+(hAt hs (x+1)-hAt hs x)*(p.2-x))
def qt (hs xs:List Int):Int×Int:=xs.foldl (qux hs) (1,0)
theorem wq2 (hs xs:List Int)(x:Int):qt hs (xs++[x])=qux hs (qt hs xs) x:=by
 unfold qt
 rw [List.foldl_append]
 rfl
theorem jj (hs:List Int){xs:List Int}{i:Nat}{x:Int}(h:xs[i]?=some x):qt hs (xs.take (i+1))=qux hs (qt hs (xs.take i)) x:=by
 rw [cC,h]
 exact wq2 hs _ x
theorem qvm {hs:List Int}(ok:wz hs)(x:Int):(hAt hs (x+1)-hAt hs x).natAbs≤24:=by
 have a:=wx0 ok x
 have b:=wx0 ok (x+1)
 omega
theorem Ym {hs:List Int}(ok:wz hs){xs:List Int}:∀i:Nat,(qt hs (xs.take i)).1.natAbs≤24 ^ i
 |0=>by rw [gJ];show (1:Int).natAbs≤1;decide
 |i+1=>by
  have ih:=Ym ok (xs:=xs) i
  cases e:xs[i]? with
  |none =>
   have:=eE.mp e
   have e1:xs.take (i+1)=xs.take i:=by rw [bP (by omega),bP (by omega)]
   rw [e1,cQ]
   exact bo ih (iu _ (by decide))
  |some x =>
   rw [jj hs e]
   show ((qt hs (xs.take i)).1*(hAt hs (x+1)-hAt hs x)).natAbs≤24 ^ (i+1)
   rw [ff,cQ]
   exact Nat.mul_le_mul ih (qvm ok x)
def qjz (K:Aa)(C:Addr):Sp:=λvs H Q _=>∃(r a:Addr) (hs xs:List Int),vs=[.ref r,.ref a]∧RoadAt C H r hs∧wz hs∧SqT K H a (xs.map V.int)∧(∀x∈xs,0≤x∧x<(hs.length:Int)-1) ∧
 ∀p H',Same H H'→H' p=some (.tup [.int (qt hs xs).1,.int (qt hs xs).2])→Q (.ref p) H'
theorem wy2 {f:Addr}{fd:Ad}(F:Fun K "line_along" "line_along" s_line_along f fd)(T:Txt K mg qm qx qd qy qh qc qk)(c_slope:MCal P w K mg base qk "slope" 3 (qv5 qk qc))(c_ends:MCal P w K mg base qk "ends" 2 (Z4 qk qc)):FnOk P w K mg base (CXE P w) 4 f fd ["road","row"] (qjz K qk):=by
 have sc:=qzm
 refine F.okX sc (λvs H Q E h=>by obtain ⟨r,a,hs,xs,rfl,_⟩:=h;rfl) (λcdv A outer s H vs Q E hr h=>?_)
 obtain ⟨r,a,hs,xs,rfl,hR,ok,hT,hx,k⟩:=h
 refine ⟨_,(qj (wg (i:=2) sc.nd rfl (by walk_at "loc") qu)
   (qj (wg (i:=3) sc.nd rfl (by walk_at "loc") qu)
   (qj (jz ba rfl (pi_tup (pv 1)) (wn (i:=4) sc.nd rfl (by walk_at "loc")) (qj (wg (i:=5) sc.nd rfl (by walk_at "loc") (vm (pv 0) T.cl c_slope (hr.mono (by decide)) qg (qw (pv 4) qv)))
   (qj (wg (i:=6) sc.nd rfl (by walk_at "loc") (xm kn (vm (pv 0) T.cl c_ends (hr.mono (by decide)) qg (qw (pv 4) qv)) qu (λ_ _=>rfl)))
   (qj (wg (i:=2) sc.nd rfl (by walk_at "loc") (wx xp (pv 2) (pv 5)))
   (qf (wg (i:=3) sc.nd rfl (by walk_at "loc") (wx xg (pv 6) (wx xp (pv 5) (wx vd (pv 3) (pv 4))))))))))
   (qf (wu (yh (qw (pv 2) (qw (pv 3) qv)))))))),?_⟩
 refine exI rfl ⟨a,rfl,⟨_,hT⟩,xzy (xs:=xs.map V.int) (λi σ H'=>Same H H'∧∃z4 z5 z6,σ=[some (.ref r),some (.ref a),some (.int (qt hs (xs.take i)).1),some (.int (qt hs (xs.take i)).2),z4,z5,z6]) ⟨Same.refl _,_,_,_,rfl⟩ (λi σ H' _ h=>h.1.sqt hT) ?_ ?_⟩
 ·rintro i v σ H1 ev ⟨s1,z4,z5,z6,rfl⟩
  rw [ao] at ev
  obtain ⟨x,ex,rfl⟩:=fu.mp ev
  obtain ⟨x0,x1⟩:=hx x (aA ex)
  obtain ⟨dx,q0,h1,h2⟩:=id (hR.same s1)
  have sl:=qvm ok x
  refine ⟨_,rfl,r,dx,_,rfl,h1,xj (by decide +kernel),_,rfl,r,hs,x,rfl,hR.same s1,λ_ _ H2 s2=>?_,λz=>absurd z (by omega)⟩
  obtain ⟨dx,q0,h1,h2⟩:=id (hR.same (s1.trans s2))
  refine ⟨_,rfl,r,dx,_,rfl,h1,xj (by decide +kernel),_,rfl,r,hs,x,rfl,hR.same (s1.trans s2),λ_ _ p3 n3=>?_,λz=>absurd z (by omega)⟩
  have s3:=Same.upd (o:=.tup [.int (hAt hs x),.int (hAt hs (x+1))]) n3
  refine exX rfl rfl SqT.new rfl ?_
  refine exI rfl (exI rfl (wy rfl rfl ⟨IntMulOk.of_right (intBits_le_64 (by omega) (by omega)),?_⟩))
  refine exI rfl (exI rfl (exI rfl (exI rfl (wy rfl rfl (wy rfl rfl ⟨IntMulOk.of_left (intBits_le_64 (by omega) (by omega)),wy rfl rfl ?_⟩)))))
  refine ⟨s1.trans (s2.trans s3),some (.int x),some (.int (hAt hs (x+1)-hAt hs x)),some (.int (hAt hs x)),?_⟩
  rw [jj hs ex]
  rfl
 ·rintro σ H1 ⟨s1,z4,z5,z6,rfl⟩
  rw [List.length_map,List.take_length]
  refine exI rfl (exI rfl ⟨sz2,λp np=>k p _ (s1.trans (Same.upd np)) qb⟩)
theorem qvf {hs xs:List Int}(c:vz hs xs):∀x∈xs,0≤x∧x<(hs.length:Int)-1:=λx hx=>by
 obtain ⟨i,hi,rfl⟩:=dG hx
 have h2:i<(Zs xs).length:=by rw [wvf];exact hi
 exact (c.2 i xs[i] (Zs xs)[i] (aa hi) (aa h2)).1
def FixR (H:Hp)(p:Int×Int)(v:V):Prop:=(p.1=1∧v=.non)∨(p.1≠1∧∃q,v=.ref q∧H q=some (.tup (ptV (if p.1>1 then wt (-p.2) (p.1-1) else wt p.2 (1-p.1)))))
def qqb (K:Aa)(C:Addr):Sp:=λvs H Q _=>∃(r a:Addr) (hs xs:List Int),vs=[.ref r,.ref a]∧RoadAt C H r hs∧wz hs∧SqT K H a (xs.map V.int)∧(∀x∈xs,0≤x∧x<(hs.length:Int)-1)∧xs.length≤12 ∧
 ∀v H',Same H H'→FixR H' (qt hs xs) v→Q v H'
theorem xq8 {f:Addr}{fd:Ad}(F:Fun K "fixed_point" "fixed_point" s_fixed_point f fd)(T:Txt K mg qm qx qd qy qh qc qk)(c_line_along:Cal P w K mg base "line_along" 4 (qjz K qk))(c_lowest:Cal P w K mg base "lowest" 2 (uf qx)):FnOk P w K mg base (CXE P w) 5 f fd ["road","row"] (qqb K qk):=by
 have sc:=qww
 refine F.okX sc (λvs H Q E h=>by obtain ⟨r,a,hs,xs,rfl,_⟩:=h;rfl) (λcdv A outer s H vs Q E hr h=>?_)
 obtain ⟨r,a,hs,xs,rfl,hR,ok,hT,hx,hl,k⟩:=h
 have ab:=Ym ok (xs:=xs) xs.length
 rw [List.take_length] at ab
 have ab:(qt hs xs).1.natAbs≤24 ^ 12:=bo ab (bO (by decide) hl)
 have p12:(24:Nat) ^ 12=36520347436056576:=by decide
 rw [p12] at ab
 refine ⟨_,(qj (ym (ww c_line_along (hr.mono (by decide)) rfl qg (qw (pv 0) (qw (pv 1) qv))) (jb rfl (xv (wn (i:=2) sc.nd rfl (by walk_at "loc")) (xv (wn (i:=3) sc.nd rfl (by walk_at "loc")) vf))))
   (qj (zy (wj Qk (pv 2) qu (wb _)) (qf (wu qwu)) xy)
   (qj (zy (wj u7 (pv 2) qu (wb _)) (qf (wu (ww c_lowest (hr.mono (by decide)) rfl qg (qw (qv2 Jk (pv 3)) (qw (wx vd (pv 2) qu) qv))))) xy)
   (qf (wu (ww c_lowest (hr.mono (by decide)) rfl qg (qw (pv 3) (qw (wx vd qu (pv 2)) qv)))))))),?_⟩
 refine exI rfl (exI rfl ⟨r,a,hs,xs,rfl,hR,ok,hT,hx,λp H1 s1 f1=>?_⟩)
 unfold FixR at k
 generalize (qt hs xs).1=st at ab f1 k
 generalize (qt hs xs).2=ht at f1 k
 refine ⟨p,exI rfl ⟨SqT.of f1,rfl,_,_,rfl,_,_,rfl,rfl,?_⟩⟩
 refine exI rfl ⟨rfl,_,rfl,Q6 (λz=>?_) (λz=>?_)⟩
 ·exact k _ _ s1 (.inl ⟨z,rfl⟩)
 ·refine exI rfl (wy rfl rfl (exI rfl (kh (λy=>?_) (λy=>?_))))
  ·refine ⟨_,rfl,_,rfl,_,rfl,_,_,rfl,rfl,_,_,rfl,λ_=>⟨Sm.small (by omega) (by omega) (by decide),λq nq=>?_⟩,λw=>absurd w (by omega)⟩
   refine k _ _ (s1.trans (Same.upd nq)) (.inr ⟨z,q,rfl,?_⟩)
   rw [if_pos y]
   exact qb
  ·refine ⟨_,rfl,_,rfl,_,_,rfl,rfl,_,_,rfl,λ_=>⟨Sm.small (by omega) (by omega) (by decide),λq nq=>?_⟩,λw=>absurd w (by omega)⟩
   refine k _ _ (s1.trans (Same.upd nq)) (.inr ⟨z,q,rfl,?_⟩)
   rw [if_neg y]
   exact qb
theorem wvc {xs:List Int}{i:Nat}(h:i+1<xs.length):(Zs xs)[i]?=xs[i+1]?:=by
 unfold Zs
 rw [aK (by rw [br];omega),cM,Nat.add_comm]
theorem wz3 {xs:List Int}{i:Nat}(h:i+1=xs.length):(Zs xs)[i]?=xs[0]?:=by
 unfold Zs
 rw [av (by rw [br];omega),br,show i-(xs.length-1)=0 by omega,db,if_pos (by decide)]
def covT (hs:List Int)(i j:Nat):Int:=if loH hs ((0:Int)+i)≤(0:Int)+j∧(0:Int)+j+1≤hiH hs ((0:Int)+i) then 1 else 0
theorem wzu:∀(m:Nat) (lo:Int) (j:Nat),0≤lo→((List.range m).map λk:Nat=>(if j=(lo+k).toNat then (1:Int) else 0)).sum=if lo≤j∧(j:Int)<lo+m then 1 else 0
 |0,lo,j,h=>by
  rw [if_neg (by omega)]
  rfl
 |m+1,lo,j,h=>by
  rw [List.range_succ,List.map_append,fY,wzu m lo j h,aF,cP,b7,List.sum_nil]
  by_cases z:j=(lo+m).toNat
  ·rw [if_pos z,if_neg (by omega),if_pos (by omega)]
   rfl
  ·rw [if_neg z]
   by_cases y:lo≤j∧(j:Int)<lo+m
   ·rw [if_pos y,if_pos (by omega)]
    rfl
   ·rw [if_neg y,if_neg (by omega)]
    rfl
theorem wzm {hs:List Int}(ok:wz hs)(i j:Nat):zw (xf hs) 1 i j=covT hs i j:=by
 show ((xf hs i).map λv=>if j=v.toNat then (1:Int) else 0).sum=_
 have l:=lohi ok ((0:Int)+i)
 unfold xf vc covT
 rw [bz]
 have:=wzu (hiH hs ((0:Int)+i)-loH hs ((0:Int)+i)).toNat (loH hs ((0:Int)+i)) j l.1
 show ((List.range _).map λk:Nat=>(if j=(loH hs ((0:Int)+i)+k).toNat then (1:Int) else 0)).sum=_
 rw [this]
 by_cases z:loH hs ((0:Int)+i)≤(0:Int)+j∧(0:Int)+j+1≤hiH hs ((0:Int)+i)
 ·rw [if_pos z,if_pos (by omega)]
 ·rw [if_neg z,if_neg (by omega)]
def bgR (hs:List Int)(f m:Nat):Nat→List (List Int)
 |0=>if 0<zw (xf hs) m f f then [[(0:Int)+f]] else []
 |t+1=>uy (λv=>decide (0<zw (xf hs) (m-1-t) v.toNat f)) (λr=>xf hs (r.getLastD 0).toNat) (bgR hs f m t)
def wc (hs:List Int)(m:Nat):List (List Int):=(List.range (hs.length-1)).flatMap λf=>bgR hs f m (m-1)
def cvr (hs:List Int)(x y:Int):Prop:=loH hs x≤y∧y+1≤hiH hs x
theorem mem_cov {hs:List Int}{x y:Int}:y∈vc hs x↔cvr hs x y:=by
 unfold vc cvr
 constructor
 ·intro h
  obtain ⟨j,hj,rfl⟩:=aH.mp h
  have:=am.mp hj
  omega
 ·intro h
  exact aH.mpr ⟨(y-loH hs x).toNat,am.mpr (by omega),by omega⟩
theorem qqf {hs:List Int}{x:Int}(h:0≤x):xf hs x.toNat=vc hs x:=by
 unfold xf
 rw [show (0:Int)+(x.toNat:Int)=x by omega]
theorem wy4 (hs:List Int)(x:Int):(vc hs x).Pairwise (·<·):=by
 unfold vc
 rw [bu]
 exact fk.imp λh=>by omega
theorem Wk (r:List Int)(x:Int):(r++[x]).getLastD 0=x:=by
 rw [gM,List.getLast?_append]
 rfl
theorem qvu {r:List Int}(h:r≠[]):r.getLastD 0=r.getD (r.length-1) 0:=by
 rw [gM,List.getLast?_eq_getElem?,ae]
theorem mem_addR {c:Int→Bool}{r vs x:List Int}:x∈Qt c r vs↔∃v∈vs,c v=true∧x=r++[v]:=by
 unfold Qt
 rw [aH]
 constructor
 ·rintro ⟨v,hv,rfl⟩
  obtain ⟨h1,h2⟩:=aU.mp hv
  exact ⟨v,h1,h2,rfl⟩
 ·rintro ⟨v,h1,h2,rfl⟩
  exact ⟨v,aU.mpr ⟨h1,h2⟩,rfl⟩
theorem mem_allR {c:Int→Bool}{g:List Int→List Int}{L:List (List Int)}{x:List Int}:x∈uy c g L↔∃r∈L,∃v∈g r,c v=true∧x=r++[v]:=by
 unfold uy
 rw [List.mem_flatMap]
 constructor
 ·rintro ⟨r,hr,h⟩
  exact ⟨r,hr,mem_addR.mp h⟩
 ·rintro ⟨r,hr,h⟩
  exact ⟨r,hr,mem_addR.mpr h⟩
def Beg (hs:List Int)(f m t:Nat)(r:List Int):Prop:=r.length=t+1∧r.getD 0 0=(0:Int)+f∧(∀x∈r,0≤x∧x<(hs.length:Int)-1)∧(∀i,i<t→cvr hs (r.getD i 0) (r.getD (i+1) 0))∧0<zw (xf hs) (m-t) (r.getLastD 0).toNat f
theorem Zm {r:List Int}{v:Int}{i:Nat}(h:i<r.length):(r++[v]).getD i 0=r.getD i 0:=by
 rw [ae,ae,aK h]
theorem xq6 {r:List Int}{v:Int}{i:Nat}(h:i=r.length):(r++[v]).getD i 0=v:=by
 subst h
 rw [ae,av (Nat.le_refl _),gk]
 rfl
theorem qx6 {hs:List Int}{f m t:Nat}{r:List Int}(h:Beg hs f m t r):r.getLastD 0=r.getD t 0∧0≤r.getLastD 0∧r.getLastD 0<(hs.length:Int)-1:=by
 obtain ⟨l,_,g,_⟩:=h
 have hz:r≠[]:=λz=>by rw [z] at l;cases l
 have e:=qvu hz
 rw [l,gG] at e
 refine ⟨e,?_⟩
 rw [e,ae,aa (by omega)]
 exact g _ (bF _)
theorem jc {hs:List Int}(ok:wz hs){f m:Nat}(hf:f<hs.length-1):∀t,∀r∈bgR hs f m t,Beg hs f m t r
 |0,r,hr=>by
  unfold bgR at hr
  split at hr
  ·next p =>
   obtain rfl:=aG.mp hr
   refine ⟨rfl,rfl,λx hx=>?_,λi hi=>absurd hi (dk _),?_⟩
   ·rw [aG.mp hx];omega
   ·show 0<zw (xf hs) m ((0:Int)+f).toNat f
    rw [show ((0:Int)+f).toNat=f by omega]
    exact p
  ·cases hr
 |t+1,r,hr=>by
  obtain ⟨q,hq,v,hv,hc,rfl⟩:=mem_allR.mp hr
  have b:=jc ok hf t q hq
  obtain ⟨e1,e2,e3⟩:=qx6 b
  obtain ⟨l,h0,g,ch,_⟩:=b
  rw [qqf e2] at hv
  have cv:=mem_cov.mp hv
  have vr:=Qh ok _ v hv
  refine ⟨by rw [ai,l];rfl,by rw [Zm (by omega)];exact h0,λx hx=>?_,λi hi=>?_,?_⟩
  ·rcases aP.mp hx with z|z
   ·exact g x z
   ·rw [aG.mp z];omega
  ·rcases (by omega:i<t∨i=t) with z|z
   ·rw [Zm (by omega),Zm (by omega)]
    exact ch i z
   ·subst z
    rw [Zm (by omega),xq6 (by omega),←e1]
    exact cv
  ·rw [Wk,show m-(t+1)=m-1-t by omega]
   exact bh hc
theorem Qx (cov:Nat→List Int):∀(m i j:Nat),0≤zw cov m i j
 |0,i,j=>by unfold zw;split <;> decide
 |m+1,i,j=>by
  show 0≤((cov i).map λv=>zw cov m v.toNat j).sum
  generalize cov i=l
  induction l with
  |nil=>exact cR _
  |cons v l ih =>
   rw [aF,b7]
   have:=Qx cov m v.toNat j
   omega
theorem qj0 {F:Int→Int}(h:∀v,0≤F v)(r:List Int):∀vs:List Int,((Qt (λv=>decide (0<F v)) r vs).map λq=>F (q.getLastD 0)).sum=(vs.map F).sum
 |[]=>rfl
 |v::vs=>by
  have ih:=qj0 h r vs
  unfold Qt at ih ⊢
  rw [eC,aF,b7,←ih]
  by_cases z:0<F v
  ·rw [if_pos (decide_eq_true z),aF,aF,b7,Wk]
  ·rw [if_neg (by simpa using z)]
   have:=h v
   omega
theorem qug {F:Int→Int}(h:∀v,0≤F v)(g:List Int→List Int):∀L:List (List Int),((uy (λv=>decide (0<F v)) g L).map λq=>F (q.getLastD 0)).sum=(L.map λr=>((g r).map F).sum).sum
 |[]=>rfl
 |r::L=>by
  have ih:=qug h g L
  unfold uy at ih ⊢
  rw [List.flatMap_cons,List.map_append,fY,ih,aF,b7,qj0 h]
theorem wxc (hs:List Int)(f m:Nat):∀t,t≤m→((bgR hs f m t).map λr=>zw (xf hs) (m-t) (r.getLastD 0).toNat f).sum=zw (xf hs) m f f
 |0,_=>by
  have p:=Qx (xf hs) m f f
  unfold bgR
  split
  ·show zw (xf hs) m ((0:Int)+f).toNat f+0=_
   rw [show ((0:Int)+f).toNat=f by omega,Int.add_zero]
  ·show (0:Int)=_
   omega
 |t+1,h=>by
  have ih:=wxc hs f m t (by omega)
  rw [show m-t=(m-1-t)+1 by omega] at ih
  rw [←ih,show m-(t+1)=m-1-t by omega]
  exact qug (F:=λv=>zw (xf hs) (m-1-t) v.toNat f) (λv=>Qx _ _ _ _) (λr=>xf hs (r.getLastD 0).toNat) (bgR hs f m t)
theorem qq8 {α:Type}{F:α→Int}:∀ {L:List α},(∀r∈L,1≤F r)→(L.length:Int)≤(L.map F).sum
 |[],_=>cR _
 |r::L,h=>by
  have ih:=qq8 (L:=L) λr hr=>h r (.tail _ hr)
  have:=h r (.head _)
  rw [aF,b7,ax]
  omega
theorem qxg {α:Type}{F:α→Int}:∀ {L:List α},(∀r∈L,F r=1)→(L.length:Int)=(L.map F).sum
 |[],_=>rfl
 |r::L,h=>by
  have ih:=qxg (L:=L) λr hr=>h r (.tail _ hr)
  have:=h r (.head _)
  rw [aF,b7,ax]
  omega
theorem xwb {hs:List Int}(ok:wz hs){f m t:Nat}(hf:f<hs.length-1)(ht:t≤m):((bgR hs f m t).length:Int)≤zw (xf hs) m f f:=by
 rw [←wxc hs f m t ht]
 exact qq8 λr hr=>(jc ok hf t r hr).2.2.2.2
theorem bg_len {hs:List Int}(ok:wz hs){f m:Nat}(hf:f<hs.length-1)(hm:1≤m):((bgR hs f m (m-1)).length:Int)=zw (xf hs) m f f:=by
 rw [←wxc hs f m (m-1) (by omega)]
 refine qxg λr hr=>?_
 have h:=(jc ok hf _ r hr).2.2.2.2
 rw [show m-(m-1)=1 by omega] at h ⊢
 rw [wzm ok] at h ⊢
 unfold covT at h ⊢
 split at h
 ·next z=>rw [if_pos z]
 ·next z=>exact absurd h (g9 0)
theorem qxt {α:Type}(F:Nat→List α)(n:Nat):((((List.range n).flatMap F).length:Nat):Int)=vn n λk=>((F k).length:Int):=by
 induction n with
 |zero=>rfl
 |succ n ih =>
  rw [zn,←ih,List.range_succ,ge,ai]
  simp
theorem wjb {hs:List Int}(ok:wz hs){m:Nat}(hm:1≤m):((wc hs m).length:Int)=vn (hs.length-1) λf=>zw (xf hs) m f f:=by
 unfold wc
 rw [qxt]
 exact yn λf hf=>bg_len ok hf hm
theorem xw3 {n:Nat}:∀ {a b:List Int} {x y:Int},a.length=n→b.length=n→zk a b=true→zk (a++[x]) (b++[y])=true:=by
 induction n with
 |zero=>intro a b x y h1 h2 h;rw [eS.mp h1] at h;cases h
 |succ n ih =>
  intro a b x y h1 h2 h
  match a,b,h1,h2 with
  |p::a,q::b,h1,h2 =>
   rw [fM,fM]
   unfold zk at h ⊢
   split
   ·next e=>rw [if_pos e] at h;exact ih (by simpa using h1) (by simpa using h2) h
   ·next e=>rw [if_neg e] at h;exact h
theorem wzh:∀(a:List Int) {x y:Int},x<y→zk (a++[x]) (a++[y])=true
 |[],x,y,h=>by
  show zk [x] [y]=true
  unfold zk
  rw [if_neg (by omega)]
  exact decide_eq_true h
 |p::a,x,y,h=>by
  rw [fM,fM]
  unfold zk
  rw [if_pos rfl]
  exact wzh a h
def Q1 (L:List (List Int)):Prop:=L.Pairwise λa b=>zk a b=true
theorem xqb (c:Int→Bool)(r:List Int){vs:List Int}(h:vs.Pairwise (·<·)):Q1 (Qt c r vs):=by
 unfold Q1 Qt
 rw [bu]
 exact (h.filter c).imp λh=>wzh r h
theorem wvb {hs:List Int}(ok:wz hs){f m:Nat}(hf:f<hs.length-1):∀t,Q1 (bgR hs f m t)
 |0=>by
  unfold bgR Q1
  split
  ·exact cV _ _
  ·exact .nil
 |t+1=>by
  have ih:=wvb ok (m:=m) hf t
  show Q1 (uy _ _ _)
  unfold Q1 uy
  rw [List.pairwise_flatMap]
  refine ⟨λr _=>xqb _ r (wy4 hs _),?_⟩
  refine aY (λ{a b} ha hb h x hx y hy=>?_) ih
  obtain ⟨u,_,_,rfl⟩:=mem_addR.mp hx
  obtain ⟨v,_,_,rfl⟩:=mem_addR.mp hy
  exact xw3 (jc ok hf t a ha).1 (jc ok hf t b hb).1 h
theorem wv0 {a b:List Int}(ha:a≠[])(hb:b≠[])(h:a.getD 0 0<b.getD 0 0):zk a b=true:=by
 match a,b,ha,hb with
 |x::a,y::b,_,_ =>
  have h:x<y:=h
  unfold zk
  rw [if_neg (by omega)]
  exact decide_eq_true h
theorem W3 {hs:List Int}(ok:wz hs)(m:Nat):Q1 (wc hs m):=by
 unfold Q1 wc
 rw [List.pairwise_flatMap]
 refine ⟨λf hf=>wvb ok (am.mp hf) _,?_⟩
 refine aY (λ{f g} hf hg h x hx y hy=>?_) fk
 have b1:=jc ok (am.mp hf) _ x hx
 have b2:=jc ok (am.mp hg) _ y hy
 refine wv0 (λz=>by have:=b1.1;rw [z] at this;cases this) (λz=>by have:=b2.1;rw [z] at this;cases this) ?_
 rw [b1.2.1,b2.2.1]
 omega
def ClR (hs:List Int)(m:Nat)(r:List Int):Prop:=r.length=m∧(∀x∈r,0≤x∧x<(hs.length:Int)-1)∧(∀i,i+1<m→cvr hs (r.getD i 0) (r.getD (i+1) 0))∧cvr hs (r.getD (m-1) 0) (r.getD 0 0)
theorem qy4 {hs:List Int}{c:Nat→Int}{m:Nat}(hc:∀t,t<m→c (t+1)∈xf hs (c t).toNat):∀d t,t+d=m→0<zw (xf hs) d (c t).toNat (c m).toNat
 |0,t,e=>by
  obtain rfl:t=m:=by omega
  unfold zw
  rw [if_pos rfl]
  decide
 |d+1,t,e=>by
  have ih:=qy4 hc d (t+1) (by omega)
  have hm:=hc t (by omega)
  show 0<((xf hs (c t).toNat).map λv=>zw (xf hs) d v.toNat (c m).toNat).sum
  generalize xf hs (c t).toNat=l at hm
  induction l with
  |nil=>cases hm
  |cons v l ihl =>
   rw [aF,b7]
   rcases ay.mp hm with z|z
   ·rw [←z]
    have:0≤(l.map λv=>zw (xf hs) d v.toNat (c m).toNat).sum:=by
     clear ihl hm
     induction l with
     |nil=>exact cR _
     |cons w l ih2=>rw [aF,b7];have:=Qx (xf hs) d w.toNat (c m).toNat;omega
    omega
   ·have:=ihl z
    have:=Qx (xf hs) d v.toNat (c m).toNat
    omega
theorem x8 {hs:List Int}(ok:wz hs){m:Nat}(hm:1≤m){r:List Int}:r∈wc hs m↔ClR hs m r:=by
 unfold wc
 rw [List.mem_flatMap]
 constructor
 ·rintro ⟨f,hf,hr⟩
  have hf:=am.mp hf
  have b:=jc ok hf _ r hr
  obtain ⟨e1,e2,e3⟩:=qx6 b
  obtain ⟨l,h0,g,ch,p⟩:=b
  refine ⟨by omega,g,λi hi=>ch i (by omega),?_⟩
  rw [show m-(m-1)=1 by omega,wzm ok] at p
  unfold covT at p
  split at p
  ·next z =>
   rw [show (0:Int)+((r.getLastD 0).toNat:Int)=r.getLastD 0 by omega] at z
   rw [←e1,h0]
   exact z
  ·exact absurd p (g9 0)
 ·rintro ⟨l,g,ch,cl⟩
  have rg:∀i,i<m→0≤r.getD i 0∧r.getD i 0<(hs.length:Int)-1:=λi hi=>by
   rw [ae,aa (by omega)]
   exact g _ (bF _)
  have r0:=rg 0 (by omega)
  have hc:∀t,t<m→(if t+1=m then r.getD 0 0 else r.getD (t+1) 0)∈xf hs ((if t=m then r.getD 0 0 else r.getD t 0)).toNat:=λt ht=>by
   rw [if_neg (by omega),qqf (rg t ht).1]
   split
   ·next z =>
    obtain rfl:t=m-1:=by omega
    exact mem_cov.mpr cl
   ·next z=>exact mem_cov.mpr (ch t (by omega))
  have pp:∀t,t<m→0<zw (xf hs) (m-t) (r.getD t 0).toNat (r.getD 0 0).toNat:=λt ht=>by
   have:=qy4 (c:=λt=>if t=m then r.getD 0 0 else r.getD t 0) hc (m-t) t (by omega)
   rw [if_neg (show ¬ t=m by omega),if_pos rfl] at this
   exact this
  have key:∀t,t<m→r.take (t+1)∈bgR hs (r.getD 0 0).toNat m t:=λt=>by
   induction t with
   |zero =>
    intro _
    have p:=pp 0 (by omega)
    unfold bgR
    rw [Nat.sub_zero] at p
    rw [if_pos p,show (0:Int)+((r.getD 0 0).toNat:Int)=r.getD 0 0 by omega]
    match r,l with
    |[],l=>simp at l;omega
    |x::r,_=>exact .head _
   |succ t ih =>
    intro ht
    have ih:=ih (by omega)
    have et:r.take (t+1+1)=r.take (t+1)++[r.getD (t+1) 0]:=by
     rw [cC,aa (by omega),ae,aa (by omega)]
     rfl
    have el:(r.take (t+1)).getLastD 0=r.getD t 0:=by
     rw [qvu (λz=>by have:=bX List.length z;rw [aL,eN] at this;omega),aL,iI (by omega),gG,ae,db,if_pos (by omega),ae]
    rw [et]
    refine mem_allR.mpr ⟨r.take (t+1),ih,r.getD (t+1) 0,?_,decide_eq_true ?_,rfl⟩
    ·rw [el,qqf (rg t (by omega)).1]
     exact mem_cov.mpr (ch t (by omega))
    ·rw [show m-1-t=m-(t+1) by omega]
     exact pp (t+1) ht
  refine ⟨(r.getD 0 0).toNat,am.mpr (by omega),?_⟩
  have:=key (m-1) (by omega)
  rw [show m-1+1=r.length by omega,List.take_length] at this
  exact this
def Byd (e B v:Int):Prop:=(0<v∧v≤e-B)∨(v<0∧e≤v)
theorem xqn {h a x y t B v:Int}(hB:1≤B)(up:a>0→h≤y∧y+1≤h+a)(dn:a<0→h+a≤y∧y+1≤h)(nz:a≠0)(b:Byd (t-x*B) B v):Byd (h*B+a*(t-x*B)-y*B) B (a*v):=by
 generalize t-x*B=e at b ⊢
 rcases (by omega:a>0∨a<0) with z|z
 ·obtain ⟨u1,u2⟩:=up z
  rcases b with ⟨v0,v1⟩|⟨v0,v1⟩
  ·refine .inl ⟨Int.mul_pos z v0,?_⟩
   have m1:a*v≤a*(e-B):=bn v1 (by omega)
   have m2:(y+1)*B≤(h+a)*B:=aM u2 (by omega)
   rw [Int.mul_sub] at m1
   rw [dD,dD,dE] at m2
   omega
  ·refine .inr ⟨gN z v0,?_⟩
   have m1:a*e≤a*v:=bn v1 (by omega)
   have m2:h*B≤y*B:=aM u1 (by omega)
   omega
 ·obtain ⟨u1,u2⟩:=dn z
  rcases b with ⟨v0,v1⟩|⟨v0,v1⟩
  ·refine .inr ⟨Int.mul_neg_of_neg_of_pos z v0,?_⟩
   have m1:a*(e-B)≤a*v:=dO (by omega) v1
   have m2:(h+a)*B≤y*B:=aM u1 (by omega)
   rw [Int.mul_sub] at m1
   rw [dD] at m2
   omega
  ·refine .inl ⟨gO z v0,?_⟩
   have m1:a*v≤a*e:=dO (by omega) v1
   have m2:(y+1)*B≤h*B:=aM u2 (by omega)
   rw [dD,dE] at m2
   omega
def jg (a:Nat→Int)(i:Nat):Nat→Int
 |0=>1
 |k+1=>jg a i k*a (i+k)
theorem qkn {n:Nat}{B:Int}{c t h a:Nat→Int}(hB:1≤B)(st:∀i,i<n→t (i+1)=h i*B+a i*(t i-c i*B))(up:∀i,i<n→a i>0→h i≤c (i+1)∧c (i+1)+1≤h i+a i)(dn:∀i,i<n→a i<0→h i+a i≤c (i+1)∧c (i+1)+1≤h i)(nz:∀i,i<n→a i≠0)
  {i:Nat} {v:Int} (b:Byd (t i-c i*B) B v):∀k,i+k≤n→Byd (t (i+k)-c (i+k)*B) B (v*jg a i k)
 |0,_=>by rw [show v*jg a i 0=v from Int.mul_one v];exact b
 |k+1,hk=>by
  have ih:=qkn hB st up dn nz b k (by omega)
  have s:=xqn hB (up (i+k) (by omega)) (dn (i+k) (by omega)) (nz (i+k) (by omega)) ih
  rw [show h (i+k)*B+a (i+k)*(t (i+k)-c (i+k)*B)=t (i+k+1) from (st (i+k) (by omega)).symm] at s
  have e:v*jg a i (k+1)=a (i+k)*(v*jg a i k):=by
   show v*(jg a i k*a (i+k))=_
   rw [←Int.mul_assoc,gh]
  rw [e]
  exact s
theorem xxu {n:Nat}{B:Int}{c t h a:Nat→Int}(hB:1≤B)(st:∀i,i<n→t (i+1)=h i*B+a i*(t i-c i*B))(up:∀i,i<n→a i>0→h i≤c (i+1)∧c (i+1)+1≤h i+a i)(dn:∀i,i<n→a i<0→h i+a i≤c (i+1)∧c (i+1)+1≤h i)(nz:∀i,i<n→a i≠0)
  (et:t n=t 0) (ec:c n=c 0) (ns:jg a 0 n≠1) (ns0:jg a 0 n≠0):∀i,i≤n→0≤t i-c i*B∧t i-c i*B≤B:=by
 have no:∀v,¬ Byd (t 0-c 0*B) B v:=λv b=>by
  have key:∀v,Byd (t 0-c 0*B) B v→Byd (t 0-c 0*B) B (v*jg a 0 n):=λv b=>by
   have r:=qkn hB st up dn nz b n (by omega)
   rw [b8,et,ec] at r
   exact r
  generalize t 0-c 0*B=e at b key
  generalize jg a 0 n=s at ns ns0 key
  rcases b with ⟨v0,v1⟩|⟨v0,v1⟩
  ·rcases key (e-B) (.inl ⟨by omega,by omega⟩) with ⟨w0,w1⟩|⟨w0,w1⟩
   ·have s0:0<s:=by
     rcases (by omega:0<s∨s<0) with q|q
     ·exact q
     ·have:=gN (show 0<e-B by omega) q;omega
    have:(e-B)*2≤(e-B)*s:=bn (by omega) (by omega)
    omega
   ·omega
  ·rcases key e (.inr ⟨by omega,by omega⟩) with ⟨w0,w1⟩|⟨w0,w1⟩
   ·omega
   ·have s0:0<s:=by
     rcases (by omega:0<s∨s<0) with q|q
     ·exact q
     ·have:=gO (show e<0 by omega) q;omega
    have:e*s≤e*2:=dO (by omega) (by omega)
    omega
 intro i hi
 have non:∀v,¬ Byd (t i-c i*B) B v:=λv b=>by
  have r:=qkn hB st up dn nz b (n-i) (by omega)
  rw [show i+(n-i)=n by omega,et,ec] at r
  exact no _ r
 constructor
 ·rcases cZ (t i-c i*B) 0 with z|z
  ·exact absurd (.inr ⟨z,cR _⟩) (non (t i-c i*B))
  ·exact z
 ·rcases cZ B (t i-c i*B) with z|z
  ·exact absurd (.inl ⟨by omega,cR _⟩) (non (t i-c i*B-B))
  ·exact z
def wv (xs:List Int)(i:Nat):Int:=xs.getD (i%xs.length) 0
def u8 (hs xs:List Int)(T B:Int)(i:Nat):Int:=(qt hs (xs.take i)).1*T+(qt hs (xs.take i)).2*B
theorem vg {xs:List Int}{i:Nat}(h:i<xs.length):xs[i]?=some (wv xs i):=by
 unfold wv
 rw [fF h,ae,aa h]
 rfl
theorem Wb {xs:List Int}{i:Nat}(h:i<xs.length):(Zs xs)[i]?=some (wv xs (i+1)):=by
 rcases (by omega:i+1<xs.length∨i+1=xs.length) with z|z
 ·rw [wvc z]
  exact vg z
 ·rw [wz3 z]
  unfold wv
  rw [z,Nat.mod_self,ae,aa (by omega)]
  rfl
theorem Qf (hs xs:List Int)(T B:Int):u8 hs xs T B 0=T:=by
 unfold u8
 rw [gJ]
 show (1:Int)*T+(0:Int)*B=T
 omega
theorem Yu {hs xs:List Int}{T B:Int}{i:Nat}(h:i<xs.length):u8 hs xs T B (i+1)=hAt hs (wv xs i)*B+(hAt hs (wv xs i+1)-hAt hs (wv xs i))*(u8 hs xs T B i-wv xs i*B):=by
 unfold u8
 rw [jj hs (vg h)]
 unfold qux
 dsimp only
 generalize (qt hs (xs.take i)).1=p
 generalize (qt hs (xs.take i)).2=q
 generalize hAt hs (wv xs i)=u
 generalize hAt hs (wv xs i+1)=v
 generalize wv xs i=x
 grind
theorem qwb {hs xs:List Int}:∀k:Nat,k≤xs.length→jg (λi=>hAt hs (wv xs i+1)-hAt hs (wv xs i)) 0 k=(qt hs (xs.take k)).1
 |0,_=>by rw [gJ];rfl
 |k+1,h=>by
  rw [jj hs (vg (show k<xs.length by omega))]
  show jg _ 0 k*(hAt hs (wv xs (0+k)+1)-hAt hs (wv xs (0+k)))=(qt hs (xs.take k)).1*(hAt hs (wv xs k+1)-hAt hs (wv xs k))
  rw [qwb k (by omega),b8]
theorem wuf {hs xs:List Int}(c:vz hs xs){T B:Int}(hB:1≤B)(ns:(qt hs xs).1≠1)(fx:(qt hs xs).1*T+(qt hs xs).2*B=T){i:Nat}(hi:i<xs.length) :
  wv xs i*B≤u8 hs xs T B i∧u8 hs xs T B i≤(wv xs i+1)*B:=by
 have cv:∀j,j<xs.length→wxv hs (wv xs j) (wv xs (j+1)):=λj hj=>c.2 j _ _ (vg hj) (Wb hj)
 have nz:∀j,j<xs.length→hAt hs (wv xs j+1)-hAt hs (wv xs j)≠0:=λj hj=>by
  have:=(cv j hj).2
  unfold loH hiH Yf Y7 at this
  split at this <;> split at this <;> omega
 have ep:jg (λi=>hAt hs (wv xs i+1)-hAt hs (wv xs i)) 0 xs.length=(qt hs xs).1:=by
  rw [qwb _ (Nat.le_refl _),List.take_length]
 have p0:∀k,k≤xs.length→jg (λi=>hAt hs (wv xs i+1)-hAt hs (wv xs i)) 0 k≠0:=λk=>by
  induction k with
  |zero=>intro _ z;cases z
  |succ k ih =>
   intro hk z
   rcases Int.mul_eq_zero.mp z with z|z
   ·exact ih (by omega) z
   ·rw [b8] at z
    exact nz k (by omega) z
 have r:=xxu (n:=xs.length) (B:=B) (c:=wv xs) (t:=u8 hs xs T B) (h:=λi=>hAt hs (wv xs i)) (a:=λi=>hAt hs (wv xs i+1)-hAt hs (wv xs i)) hB (λj hj=>Yu hj)
  (λj hj z=>by
   have:=(cv j hj).2
   have z:hAt hs (wv xs j+1)-hAt hs (wv xs j)>0:=z
   unfold loH hiH Yf Y7 at this
   show hAt hs (wv xs j)≤wv xs (j+1)∧wv xs (j+1)+1≤hAt hs (wv xs j)+(hAt hs (wv xs j+1)-hAt hs (wv xs j))
   split at this <;> split at this <;> omega)
  (λj hj z=>by
   have:=(cv j hj).2
   have z:hAt hs (wv xs j+1)-hAt hs (wv xs j)<0:=z
   unfold loH hiH Yf Y7 at this
   show hAt hs (wv xs j)+(hAt hs (wv xs j+1)-hAt hs (wv xs j))≤wv xs (j+1)∧wv xs (j+1)+1≤hAt hs (wv xs j)
   split at this <;> split at this <;> omega)
  nz (by rw [Qf];unfold u8;rw [List.take_length];exact fx) (by unfold wv;rw [Nat.mod_self,Nat.zero_mod]) (by rw [ep];exact ns) (p0 _ (Nat.le_refl _)) i (Nat.le_of_lt hi)
 rw [dD,dE]
 omega
theorem qw0 {t b:Int}(hb:1≤b)(g:gOf t b=1):wt t b=(t,b):=by
 unfold wt
 rw [g,Int.ediv_one,Int.ediv_one]
theorem yg {hs r:List Int}{m:Nat}(m1:1≤m)(m2:m≤12)(c:ClR hs m r):vz hs r:=by
 obtain ⟨hl,hx,hc,he⟩:=c
 refine ⟨⟨by omega,by omega⟩,λi x y ex ey=>?_⟩
 have hi:=(ag.mp ex).1
 have gx:r.getD i 0=x:=by rw [ae,ex];rfl
 refine ⟨hx x (aA ex),?_⟩
 by_cases z:i+1<r.length
 ·rw [wvc z] at ey
  have gy:r.getD (i+1) 0=y:=by rw [ae,ey];rfl
  have:=hc i (by omega)
  rw [gx,gy] at this
  exact this
 ·rw [wz3 (by omega)] at ey
  have gy:r.getD 0 0=y:=by rw [ae,ey];rfl
  rw [show m-1=i by omega,gx,gy] at he
  exact he
theorem wqm (xs:List Int):wv xs 0=xs.getD 0 0:=by unfold wv;rw [Nat.zero_mod]
theorem wvm (xs:List Int):wv xs xs.length=wv xs 0:=by unfold wv;rw [Nat.mod_self,Nat.zero_mod]
theorem qw9 (hs xs:List Int)(T B:Int):u8 hs xs T B xs.length=(qt hs xs).1*T+(qt hs xs).2*B:=by unfold u8;rw [List.take_length]
theorem qxz {hs xs:List Int}{T B:Int}(hB:1≤B)(hx:∀i,i<xs.length→0≤wv xs i∧wv xs i<(hs.length:Int)-1)(hin:∀i,i<xs.length→wv xs i*B≤u8 hs xs T B i∧u8 hs xs T B i≤(wv xs i+1)*B):∀i,i≤xs.length→trT hs T B i=u8 hs xs T B i
 |0,_=>(Qf hs xs T B).symm
 |i+1,hi=>by
  have ih:=qxz hB hx hin i (by omega)
  obtain ⟨x0,x1⟩:=hx i (by omega)
  obtain ⟨l1,l2⟩:=hin i (by omega)
  show kr hs (trT hs T B i) B=_
  rw [ih,xqf x0 x1 hB l1 l2,Yu (by omega)]
theorem Zg {hs xs:List Int}(c:vz hs xs):∀i,i<xs.length→0≤wv xs i∧wv xs i<(hs.length:Int)-1:=λi hi=>qvf c _ (aA (vg hi))
def zt (p:Int×Int):Int×Int:=if p.1>1 then wt (-p.2) (p.1-1) else wt p.2 (1-p.1)
theorem qwg {p:Int×Int}(h:p.1≠1):1≤(zt p).2∧gOf (zt p).1 (zt p).2=1∧p.1*(zt p).1+p.2*(zt p).2=(zt p).1:=by
 unfold zt
 by_cases z:p.1>1
 ·rw [if_pos z]
  have c:=j3 (t:=-p.2) (b:=p.1-1) (by omega)
  exact ⟨jq (by omega),wq4 (by omega),by grind⟩
 ·rw [if_neg z]
  have c:=j3 (t:=p.2) (b:=1-p.1) (by omega)
  exact ⟨jq (by omega),wq4 (by omega),by grind⟩
theorem qyt {hs xs:List Int}(c:vz hs xs)(ns:(qt hs xs).1≠1):vq hs (zt (qt hs xs)).1 (zt (qt hs xs)).2∧trT hs (zt (qt hs xs)).1 (zt (qt hs xs)).2 xs.length=(zt (qt hs xs)).1:=by
 obtain ⟨hB,_,fx⟩:=qwg ns
 have hin:=λi hi=>wuf c hB ns fx (i:=i) hi
 constructor
 ·obtain ⟨l1,l2⟩:=hin 0 (by have:=c.1.1;omega)
  obtain ⟨x0,x1⟩:=Zg c 0 (by have:=c.1.1;omega)
  rw [Qf] at l1 l2
  exact ⟨dC (eo x0 (by omega)) l1,dC l2 (aM (by omega) (by omega))⟩
 ·rw [qxz hB (Zg c) hin _ (Nat.le_refl _),qw9]
  exact fx
theorem wwn {hs xs:List Int}(c:vz hs xs)(a1:(qt hs xs).1=1):∀i,i<xs.length→(hAt hs (wv xs i+1)-hAt hs (wv xs i)).natAbs=1:=by
 have cv:∀j,j<xs.length→wxv hs (wv xs j) (wv xs (j+1)):=λj hj=>c.2 j _ _ (vg hj) (Wb hj)
 have nz:∀j,j<xs.length→1≤(hAt hs (wv xs j+1)-hAt hs (wv xs j)).natAbs:=λj hj=>by
  have:=(cv j hj).2
  unfold loH hiH Yf Y7 at this
  split at this <;> split at this <;> omega
 have st:∀j,j<xs.length→(qt hs (xs.take (j+1))).1.natAbs=(qt hs (xs.take j)).1.natAbs*(hAt hs (wv xs j+1)-hAt hs (wv xs j)).natAbs:=λj hj=>by
  rw [jj hs (vg hj)]
  unfold qux
  dsimp only
  rw [ff]
 have low:∀j,j≤xs.length→1≤(qt hs (xs.take j)).1.natAbs:=λj=>by
  induction j with
  |zero=>intro _;rw [gJ];show 1≤(1:Int).natAbs;decide
  |succ j ih =>
   intro hj
   rw [st j (by omega)]
   exact Nat.mul_le_mul (ih (by omega)) (nz j (by omega))
 have mono:∀d j,j+d=xs.length→(qt hs (xs.take j)).1.natAbs≤(qt hs (xs.take xs.length)).1.natAbs:=λd=>by
  induction d with
  |zero=>intro j e;rw [show j=xs.length by omega];exact Nat.le_refl _
  |succ d ih =>
   intro j e
   refine bo ?_ (ih (j+1) (by omega))
   rw [st j (by omega)]
   exact iu _ (nz j (by omega))
 have one:∀j,j≤xs.length→(qt hs (xs.take j)).1.natAbs=1:=λj hj=>by
  have h1:=low j hj
  have h2:=mono (xs.length-j) j (by omega)
  rw [List.take_length,a1] at h2
  have:(1:Int).natAbs=1:=rfl
  omega
 intro i hi
 have:=st i hi
 rw [one i (by omega),one (i+1) (by omega)] at this
 omega
theorem wxh {hs:List Int}{k j:Int}(c:wxv hs k j)(o:(hAt hs (k+1)-hAt hs k).natAbs=1):(hAt hs k=j∧hAt hs (k+1)=j+1)∨(hAt hs k=j+1∧hAt hs (k+1)=j):=by
 have:=c.2
 unfold loH hiH Yf Y7 at this
 split at this <;> split at this <;> omega
theorem Qv {hs xs:List Int}(c:vz hs xs)(a1:(qt hs xs).1=1){t b:Int}(hb:1≤b)(h1:wv xs 0*b≤t)(h2:t≤(wv xs 0+1)*b):∀i,i≤xs.length→wv xs i*b≤u8 hs xs t b i∧u8 hs xs t b i≤(wv xs i+1)*b
 |0,_=>by rw [Qf];exact ⟨h1,h2⟩
 |i+1,hi=>by
  obtain ⟨l1,l2⟩:=Qv c a1 hb h1 h2 i (by omega)
  have cv:=c.2 i _ _ (vg (show i<xs.length by omega)) (Wb (show i<xs.length by omega))
  have o:=wwn c a1 i (by omega)
  rw [Yu (show i<xs.length by omega)]
  generalize u8 hs xs t b i=u at l1 l2
  rcases wxh cv o with ⟨e1,e2⟩|⟨e1,e2⟩
  ·rw [e1,e2]
   generalize wv xs (i+1)=y
   generalize wv xs i=x at l1 l2
   have e:y*b+(y+1-y)*(u-x*b)=y*b+(u-x*b):=by rw [show y+1-y=(1:Int) by omega,dE]
   rw [e,dD,dE]
   rw [dD,dE] at l2
   omega
  ·rw [e1,e2]
   generalize wv xs (i+1)=y
   generalize wv xs i=x at l1 l2
   have e:(y+1)*b+(y-(y+1))*(u-x*b)=y*b+b-(u-x*b):=by rw [show y-(y+1)=(-1:Int) by omega,dD,dE];omega
   rw [e,dD,dE]
   rw [dD,dE] at l2
   omega
theorem wxf {hs xs:List Int}(c:vz hs xs)(a1:(qt hs xs).1=1){t b:Int}(hb:1≤b)(h1:wv xs 0*b≤t)(h2:t≤(wv xs 0+1)*b):trT hs t b xs.length=t:=by
 have all:=Qv c a1 hb h1 h2
 have z:(qt hs xs).2=0:=by
  have p:=Qv c a1 (t:=wv xs 0) (b:=1) (by decide) (by omega) (by omega) xs.length (Nat.le_refl _)
  have q:=Qv c a1 (t:=wv xs 0+1) (b:=1) (by decide) (by omega) (by omega) xs.length (Nat.le_refl _)
  rw [qw9,wvm,a1] at p q
  omega
 rw [qxz hb (Zg c) (λi hi=>all i (by omega)) _ (Nat.le_refl _),qw9,a1,z]
 omega
theorem wu4 {hs:List Int}{t b:Int}(h:b∣t):b∣kr hs t b:=by
 unfold kr
 exact Int.dvd_add (fN _ _) (Int.dvd_trans (Int.dvd_sub h (fN _ _)) (fN _ _))
theorem wy0 {hs:List Int}{t b:Int}{i:Nat}(h:b∣trT hs t b i):∀d,b∣trT hs t b (i+d)
 |0=>h
 |d+1=>wu4 (wy0 h d)
def qvc (hs:List Int)(m:Nat)(p:Int×Int):Prop:=(∃r∈wc hs m,(qt hs r).1≠1∧p=zt (qt hs r))∨(p.2=1∧0≤p.1∧p.1≤(hs.length:Int)-1∧trT hs p.1 1 m=p.1)
def wur (hs:List Int)(m:Nat)(k:Int):Prop:=∃r∈wc hs m,(qt hs r).1=1∧r.getD 0 0=k
theorem qq1 {hs:List Int}(ok:wz hs){m:Nat}(m1:1≤m)(m2:m≤12){p:Int×Int}(h:qvc hs m p):1≤p.2∧gOf p.1 p.2=1∧vq hs p.1 p.2:=by
 rcases h with ⟨r,hr,z,rfl⟩|⟨e1,h0,h1,_⟩
 ·have c:=(x8 ok m1).mp hr
  obtain ⟨a,b,_⟩:=qwg z
  exact ⟨a,b,(qyt (yg m1 m2 c) z).1⟩
 ·refine ⟨by omega,?_,h0,by rw [e1];omega⟩
  rw [e1]
  have:=Wq (t:=p.1) (b:=1) (by decide)
  have:=jq (t:=p.1) (b:=1) (by decide)
  have e:=qvh (t:=p.1) (b:=1) (by decide)
  have:(1:Int)/gOf p.1 1=1:=by
   show (wt p.1 1).2=1
   omega
  rw [this] at e
  omega
end
section
variable {P:Ac}{w:World}{K:Aa}{mg:Str→Option Value}{base:Heap}{qm:Addr}{qx:Addr}{qd:Addr}{qy:Addr}{qh:Addr}{qc:Addr}{qk:Addr}
def yb (hs:List Int):Nat→Int→Int
 |0,_=>1
 |t+1,k=>((vc hs k).map (yb hs t)).sum
def crS (hs:List Int)(t:Nat):Int:=(zu (hs.length-1) λk=>yb hs t k).sum
theorem ug (n:Nat)(g:Nat→Int):(zu n g).length=n:=by unfold zu;rw [List.length_map,List.length_range]
theorem Y9 (n:Nat)(g:Nat→Int):zu (n+1) g=zu n g++[g n]:=by unfold zu;rw [List.range_succ,List.map_append];rfl
theorem wvw {n:Nat}{g:Nat→Int}{x:Int}(h0:0≤x)(h1:x<n):atI ((zu n g).map V.int) x=some (V.int (g x.toNat)):=by
 have e:((zu n g).map V.int)[x.toNat]?=some (V.int (g x.toNat)):=by
  unfold zu
  rw [ao,ao,bf (by omega)]
  rfl
 have:=vy e
 rwa [show ((x.toNat:Nat):Int)=x by omega] at this
theorem xxh {hs:List Int}(ok:wz hs){t:Nat}(k:Int):Wu ((zu (hs.length-1) λk=>yb hs t k).map V.int) (some (loH hs k)) (some (hiH hs k))=((vc hs k).map (yb hs t)).map V.int:=by
 obtain ⟨l0,l1,l2⟩:=lohi ok k
 have o1:=ok.1
 unfold Wu vc
 generalize loH hs k=lo at l0 l1
 generalize hiH hs k=hi at l1 l2
 obtain ⟨a,rfl⟩:=eV l0
 obtain ⟨b,rfl⟩:=eV (dC l0 l1)
 have hl:((zu (hs.length-1) λk=>yb hs t k).map V.int).length=hs.length-1:=by rw [List.length_map,ug]
 rw [hl,HT.sIx_nat,HT.sIx_nat,iI (by omega),iI (by omega),bz,bz]
 refine bv λi=>?_
 rw [db]
 rcases aV i (b-a) with z|z
 ·rw [if_pos z,cM,ao,ao,bf (by omega)]
  unfold zu
  rw [ao,bf (by omega)]
  show some (V.int (yb hs t ((a+i:Nat):Int)))=some (V.int (yb hs t ((a:Int)+(i:Int))))
  rw [Int.natCast_add]
 ·rw [if_neg (by omega),ao,az (by rw [List.length_range];omega)]
  rfl
def qwh (K:Aa):Sp:=λvs H Q _=>∃(p:Addr) (hs:List Int) (m:Int),vs=[.ref p,.int m]∧SqL K H p (hs.map V.int)∧wz hs∧1≤m∧m≤12∧∀q H',Same H H'→H' q=some (.lst ((zu m.toNat λi=>crS hs (i+1)).map V.int))→Q (.ref q) H'
theorem wkd {f:Addr}{fd:Ad}(F:Fun K "_law_crowds" "_law_crowds" s__law_crowds f fd)(T:Txt K mg qm qx qd qy qh qc qk):FnOk P w K mg base (CXE P w) 1 f fd ["_law_heights_here","_law_most"] (qwh K):=by
 have sc:=qw1
 refine F.okX sc (λvs H Q E h=>by obtain ⟨p,hs,m,rfl,_⟩:=h;rfl) (λcdv A outer s H vs Q E hr h=>?_)
 obtain ⟨p,hs,m,rfl,hS,ok,m1,m2,k⟩:=h
 have o1:=ok.1
 have o2:=ok.2.1
 have big:(1000000:Nat)<sizeLine:=by decide
 have hlen:(hs.map V.int).length=hs.length:=List.length_map _
 refine ⟨_,(qj (wg (i:=2) sc.nd rfl (by walk_at "loc") (wx vd (q9 wm rfl T.len_ aZ (qw (pv 0) qv)) qu))
   (qj (Q9 (i:=3) (M:=[]) sc.nd rfl (by walk_at "loc") rfl rfl (by walk_at "cap") (by walk_at "has") (by walk_at "cix") rfl (by decide +kernel) rfl (show List.Nodup (["_law_k"]:List Str) by decide +kernel) (xr rfl T.range_ (qw (pv 2) qv)) (λ_ _ _ _ _=>qu))
   (qj (wg (i:=4) sc.nd rfl (by walk_at "loc") (jx qv))
   (qj (jz ba rfl (xr rfl T.range_ (qw (pv 1) qv)) (wn (i:=5) sc.nd rfl (by walk_at "loc")) (qj (wg (i:=6) sc.nd rfl (by walk_at "loc") (jx qv))
   (qj (jz ba rfl (xr rfl T.range_ (qw (pv 2) qv)) (wn (i:=7) sc.nd rfl (by walk_at "loc")) (qj (wg (i:=8) sc.nd rfl (by walk_at "loc") (q9 (Qu rfl) rfl T.min_ dg (qw (xm zx (pv 0) (pv 7) (λ_ _=>rfl)) (qw (xm zx (pv 0) (wx xg (pv 7) qu) (λ_ _=>rfl)) qv))))
   (qf (zm (Jd bL bT bU vk (pv 6) (qw (q9 (vw (K:=K) rfl rfl) rfl T.sum_ yk (qw (qxw xxg (pv 3) (qqc (pv 8)) (qqc (q9 (Yd rfl) rfl T.max_ dh (qw (xm zx (pv 0) (pv 7) (λ_ _=>rfl)) (qw (xm zx (pv 0) (wx xg (pv 7) qu) (λ_ _=>rfl)) qv))))) qv)) qv))))))
   (qj (wg (i:=3) sc.nd rfl (by walk_at "loc") (pv 6))
   (qf (zm (Jd bL bT bU vk (pv 4) (qw (q9 (vw (K:=K) rfl rfl) rfl T.sum_ yk (qw (pv 3) qv)) qv))))))))
   (qf (wu (pv 4))))))),?_⟩
 refine exI rfl ⟨_,_,rfl,.inl hS,wy rfl rfl ?_⟩
 rw [hlen]
 refine exI rfl (exI rfl ⟨(by omega),(by omega),?_⟩)
 rw [show ((hs.length:Int)-1).toNat=hs.length-1 by omega]
 refine vv (λ_=>V.int 1) (by omega) (λj H2 R2 hj s2 hR2=>hR2) λb nb=>?_
 have s1:=Same.upd (o:=.lst ((List.range (hs.length-1)).map λ_=>V.int 1)) nb
 have f1:upd H b (.lst ((List.range (hs.length-1)).map λ_=>V.int 1)) b=some (.lst ((zu (hs.length-1) λ_=>1).map V.int)):=by
  rw [qb,qxk]
 generalize upd H b (.lst ((List.range (hs.length-1)).map λ_=>V.int 1))=H1 at s1 f1
 refine ⟨sz0,λq nq=>?_⟩
 have nq0:H q=none:=by
  cases e:H q with
  |none=>rfl
  |some o=>rw [s1 _ _ e] at nq;cases nq
 refine exI rfl (exI rfl ⟨(by omega),(by omega),?_⟩)
 refine j7 (λt σ H'=>Same H H'∧∃(b:Addr) (z5 z6 z7 z8:Option V),σ=[some (.ref p),some (.int m),some (.int ((hs.length:Int)-1)),some (.ref b),some (.ref q),z5,z6,z7,z8]∧H' b=some (.lst ((zu (hs.length-1) λk=>yb hs t k).map V.int))∧b≠q∧H' q=some (.lst ((zu t λi=>crS hs (i+1)).map V.int)))
  ⟨s1.trans (Same.upd nq),b,_,_,_,_,rfl,(Same.upd nq) _ _ f1,q8 f1 nq,qb⟩ ?_ ?_
 ·rintro t σ H2 ht ⟨s2,b,z5,z6,z7,z8,rfl,fb,bq,fq⟩
  refine ⟨sz0,λc nc=>?_⟩
  have nc0:H c=none:=by
   cases e:H c with
   |none=>rfl
   |some o=>rw [s2 _ _ e] at nc;cases nc
  have cb:b≠c:=q8 fb nc
  have cq:q≠c:=q8 fq nc
  refine exI rfl (exI rfl ⟨(by omega),(by omega),?_⟩)
  refine j7 (λi σ H'=>Same H H'∧∃(z7 z8:Option V),σ=[some (.ref p),some (.int m),some (.int ((hs.length:Int)-1)),some (.ref b),some (.ref q),some (.int ((0:Int)+t)),some (.ref c),z7,z8]∧H' b=some (.lst ((zu (hs.length-1) λk=>yb hs t k).map V.int))∧H' q=some (.lst ((zu t λi=>crS hs (i+1)).map V.int))∧H' c=some (.lst ((zu i λk=>yb hs (t+1) k).map V.int)))
   ⟨s2.trans (Same.upd nc),_,_,rfl,(Same.upd nc) _ _ fb,(Same.upd nc) _ _ fq,qb⟩ ?_ ?_
  ·rintro i σ H3 hi ⟨s3,z7,z8,rfl,fb3,fq3,fc3⟩
   have hS3:=s3.sql hS
   have a0:=at_h (hs:=hs) (k:=(0:Int)+i) (by omega) (by omega)
   have a1:=at_h (hs:=hs) (k:=(0:Int)+i+1) (by omega) (by omega)
   refine exI rfl (exI rfl (exX rfl rfl hS3 a0 (exI rfl (exI rfl (wy rfl rfl (exX rfl rfl hS3 a1 ⟨_,_,rfl,?_⟩))))))
   refine exI rfl ⟨.inl ⟨rfl,_,SqL.of fc3⟩,?_⟩
   refine exI rfl (exI rfl (exI rfl (exI rfl (exI rfl (exX rfl rfl hS3 a0 (exI rfl (exI rfl (wy rfl rfl (exX rfl rfl hS3 a1 ⟨_,_,rfl,?_⟩)))))))))
   refine exI rfl ⟨b,exI rfl ⟨SqL.of fb3,λp4 n4=>?_⟩⟩
   have eg:=xxh (t:=t) ok ((0:Int)+i)
   have eg:Wu ((zu (hs.length-1) λk=>yb hs t k).map V.int) (some (Yf (hAt hs ((0:Int)+i)) (hAt hs ((0:Int)+i+1)))) (some (Y7 (hAt hs ((0:Int)+i)) (hAt hs ((0:Int)+i+1))))=((vc hs ((0:Int)+i)).map (yb hs t)).map V.int:=eg
   have s4:=Same.upd (H:=H3) (o:=.lst (Wu ((zu (hs.length-1) λk=>yb hs t k).map V.int) (some (Yf (hAt hs ((0:Int)+i)) (hAt hs ((0:Int)+i+1)))) (some (Y7 (hAt hs ((0:Int)+i)) (hAt hs ((0:Int)+i+1)))))) n4
   refine ⟨p4,(vc hs ((0:Int)+i)).map (yb hs t),rfl,SqL.of (by rw [←eg];exact qb),?_⟩
   have fc4:=s4 _ _ fc3
   refine ⟨c,_,_,rfl,rfl,fc4,by rw [List.length_map,ug];omega,?_⟩
   refine ⟨Same.upd2 (s3.trans s4) nc0,_,_,rfl,?_,?_,?_⟩
   ·rw [qr cb];exact s4 _ _ fb3
   ·rw [qr cq];exact s4 _ _ fq3
   ·rw [qb,Y9,List.map_append,Int.zero_add];rfl
  ·rintro σ H3 ⟨s3,z7,z8,rfl,fb3,fq3,fc3⟩
   refine exI rfl ?_
   refine ⟨_,rfl,.inl ⟨rfl,_,SqL.of fq3⟩,_,rfl,c,_,rfl,SqL.of fc3,q,_,_,rfl,rfl,fq3,by rw [List.length_map,ug];omega,?_⟩
   rw [tn2] at fc3
   refine ⟨Same.upd2 s3 nq0,c,_,_,_,_,rfl,?_,dt cq,?_⟩
   ·rw [qr (dt cq)];exact fc3
   ·rw [qb,Y9,List.map_append,tn2];rfl
 ·rintro σ H2 ⟨s2,b,z5,z6,z7,z8,rfl,fb,bq,fq⟩
  exact exI rfl (k q H2 s2 fq)
def qv4 (K:Aa):Sp:=λvs H Q _=>∃(p:Addr) (hs:List Int) (m r:Int),vs=[.ref p,.int m,.int r]∧SqL K H p (hs.map V.int)∧wz hs∧1≤m∧m≤12∧∀x H',1≤x→x≤m→(∀i:Nat,1≤i→(i:Int)<x→crS hs (i+1)≤r)→Same H H'→Q (.int x) H'
theorem wu5 {f:Addr}{fd:Ad}(F:Fun K "_law_times" "_law_times" s__law_times f fd)(T:Txt K mg qm qx qd qy qh qc qk)(c__law_crowds:Cal P w K mg base "_law_crowds" 1 (qwh K)):FnOk P w K mg base (CXE P w) 2 f fd ["_law_heights_here","_law_wish","_law_room"] (qv4 K):=by
 have sc:=qz0
 refine F.okX sc (λvs H Q E h=>by obtain ⟨p,hs,m,r,rfl,_⟩:=h;rfl) (λcdv A outer s H vs Q E hr h=>?_)
 obtain ⟨p,hs,m,r,rfl,hS,ok,m1,m2,k⟩:=h
 refine ⟨_,(qj (wg (i:=3) sc.nd rfl (by walk_at "loc") (ww c__law_crowds (hr.mono (by decide)) rfl qg (qw (pv 0) (qw (pv 1) qv))))
   (qj (wg (i:=4) sc.nd rfl (by walk_at "loc") qu)
   (qj (uu ba (PW.pt (xwu (wj Q2 (pv 4) (pv 1) (wb _)) (wx8 (wj qyd (xm zx (pv 3) (pv 4) (λ_ _=>rfl)) (pv 2) (wb _))))) (qf (xwk (i:=4) sc.nd rfl (Or.inl rfl) qu wy8)))
   (qf (wu (pv 4)))))),?_⟩
 refine exI rfl (exI rfl ⟨p,hs,m,rfl,hS,ok,m1,m2,λq H1 s1 f1=>?_⟩)
 refine Zf (λσ H'=>H'=H1∧∃x:Int,1≤x∧x≤m∧(∀i:Nat,1≤i→(i:Int)<x→crS hs (i+1)≤r)∧σ=[some (.ref p),some (.int m),some (.int r),some (.ref q),some (.int x)]) (λσ _=>match σ with|[_,_,_,_,some (.int x)]=>(20-x).toNat|_=>0) ⟨rfl,1,by omega,by omega,λi h1 h2=>absurd h2 (by omega),rfl⟩ ?_ ?_
 ·rintro σ H' ⟨rfl,x,x1,x2,hx,rfl⟩
  refine exI rfl (exI rfl (wy rfl rfl (exI rfl (kh (λz=>?_) (λz=>?_)))))
  ·refine exI rfl (exI rfl (exX rfl rfl (SqL.of f1) (wvw (by omega) (by omega)) (exI rfl (wy rfl rfl (exI rfl (kh (λy=>?_) (λy=>?_)))))))
   ·refine exI rfl (wy rfl rfl ⟨⟨rfl,x+1,by omega,by omega,λi h1 h2=>?_,rfl⟩,?_⟩)
    ·rcases (by omega:(i:Int)<x∨(i:Int)=x) with w|w
     ·exact hx i h1 w
     ·rw [show i=x.toNat by omega];exact y
    show (20-(x+1)).toNat<(20-x).toNat
    omega
   ·exact exI rfl (k x _ x1 x2 hx s1)
  ·exact js (exI rfl (k x _ x1 x2 hx s1))
 ·intro σ H Q Q' h hc
  obtain ⟨v1,e1,v2,e2,i,j,e3,e4,b,e5,q⟩:=hc
  refine ⟨v1,e1,v2,e2,i,j,e3,e4,b,e5,?_⟩
  cases b with
  |false =>
   rw [if_neg au] at q ⊢
   exact h _ _ q
  |true =>
   rw [if_pos rfl] at q ⊢
   obtain ⟨v3,e6,v4,e7,a1,a2,a3,a4,e8,e9,sq,ea,v5,e10,i2,j2,e11,e12,b2,e13,q2⟩:=q
   exact ⟨v3,e6,v4,e7,a1,a2,a3,a4,e8,e9,sq,ea,v5,e10,i2,j2,e11,e12,b2,e13,h _ _ q2⟩
theorem xwt {hs:List Int}(ok:wz hs)(k:Int):(vc hs k).length≤24:=by
 obtain ⟨l0,l1,l2⟩:=lohi ok k
 have:=ok.2.1
 unfold vc
 rw [List.length_map,List.length_range]
 omega
theorem cr_one {hs:List Int}(ok:wz hs):crS hs 1≤576:=by
 have o2:=ok.2.1
 have:∀n:Nat,(zu n λk=>yb hs 1 k).sum≤24*n:=λn=>by
  induction n with
  |zero=>exact cR _
  |succ n ih =>
   rw [Y9,fY]
   have e:yb hs 1 (n:Int)=((vc hs n).length:Int):=by
    show ((vc hs n).map (yb hs 0)).sum=_
    generalize vc hs n=L
    induction L with
    |nil=>rfl
    |cons r L ih=>rw [aF,b7,ih,ax];show (1:Int)+_=_;omega
   have:=xwt ok (n:Int)
   simp only [b7,List.sum_nil]
   omega
 have:=this (hs.length-1)
 unfold crS
 omega
theorem wx7 {hs:List Int}(ok:wz hs):∀(t:Nat) (k:Int),0≤k→k<(hs.length:Int)-1→yb hs t k=vn (hs.length-1) (zw (xf hs) t k.toNat)
 |0,k,h0,h1=>by
  have:=qyy (n:=hs.length-1) (i:=k.toNat) (by omega) λ_=>1
  show (1:Int)=_
  rw [←this]
  refine yn λj _=>?_
  rw [Int.mul_one]
  rfl
 |t+1,k,h0,h1=>by
  show ((vc hs k).map (yb hs t)).sum=vn (hs.length-1) λj=>((xf hs k.toNat).map λv=>zw (xf hs) t v.toNat j).sum
  rw [qqf h0,←qyc (hs.length-1) (λ(v:Int) j=>zw (xf hs) t v.toNat j)]
  congr 1
  refine dH λv hv=>?_
  have:=Qh ok k v hv
  exact wx7 ok t v this.1 (by omega)
theorem wwk {hs:List Int}(ok:wz hs)(m:Nat):crS hs m=vn (hs.length-1) λi=>vn (hs.length-1) (zw (xf hs) m i):=by
 show vn (hs.length-1) _=_
 refine yn λi hi=>?_
 rw [wx7 ok m (i:Int) (by omega) (by omega),bA]
theorem qjy {n:Nat}{g h:Nat→Int}(e:∀i,i<n→g i≤h i):vn n g≤vn n h:=by
 induction n with
 |zero=>exact cR _
 |succ n ih =>
  have:=ih λi hi=>e i (by omega)
  have:=e n (by omega)
  rw [zn,zn]
  omega
theorem qk0 {n i:Nat}{g:Nat→Int}(h:∀i,0≤g i)(hi:i<n):g i≤vn n g:=by
 have:=qyy hi g
 rw [←this]
 refine qjy λk _=>?_
 have:=h k
 split <;> omega
theorem pow_cr {hs:List Int}(ok:wz hs){m f:Nat}(hf:f<hs.length-1):zw (xf hs) m f f≤crS hs m:=by
 rw [wwk ok]
 refine dC (qk0 (g:=zw (xf hs) m f) (Qx _ _ _) hf) (qk0 (g:=λi=>vn (hs.length-1) (zw (xf hs) m i)) (λi=>?_) hf)
 have:=qjy (n:=hs.length-1) (g:=λ_=>0) (h:=zw (xf hs) m i) λj _=>Qx _ _ _ _
 rwa [Z3 _ _ λ_ _=>rfl] at this
theorem Yr {hs:List Int}(ok:wz hs){m:Nat}(hm:1≤m):((wc hs m).length:Int)≤crS hs m:=by
 rw [wjb ok hm,wwk ok]
 exact qjy λi hi=>qk0 (Qx _ _ _) hi
def TabsAt (H:Hp)(p:Addr)(hs:List Int)(m:Nat):Prop:=∃ys,H p=some (.lst ys)∧ys.length=m+1∧∀i v,ys[i]?=some v→∃q,v=.ref q∧MatAt H q (hs.length-1) (zw (xf hs) i)
theorem TabsAt.same {H H':Hp}{p:Addr}{hs:List Int}{m:Nat}(h:TabsAt H p hs m)(s:Same H H'):TabsAt H' p hs m:=by
 obtain ⟨ys,e,l,r⟩:=h
 exact ⟨ys,s _ _ e,l,λi v z=>let ⟨q,a,b⟩:=r i v z;⟨q,a,b.same s⟩⟩
theorem TabsAt.at_ {H:Hp}{p:Addr}{hs:List Int}{m:Nat}(h:TabsAt H p hs m){t i j:Int}(t0:0≤t)(t1:t≤m)(i0:0≤i)(i1:i<(hs.length:Int)-1)(j0:0≤j)(j1:j<(hs.length:Int)-1) :
  ∃ys q zs q',H p=some (.lst ys)∧atI ys t=some (.ref q)∧H q=some (.lst zs)∧atI zs i=some (.ref q')∧H q'=some (.lst ((zu (hs.length-1) (zw (xf hs) t.toNat i.toNat)).map V.int))∧atI ((zu (hs.length-1) (zw (xf hs) t.toNat i.toNat)).map V.int) j=some (.int (zw (xf hs) t.toNat i.toNat j.toNat)):=by
 obtain ⟨ys,fp,l,r⟩:=h
 have e:ys[t.toNat]?=some ys[t.toNat]:=aa (by omega)
 obtain ⟨q,eq,M⟩:=r _ _ e
 obtain ⟨zs,fq,lz,rz⟩:=id M
 obtain ⟨q',ez,fq'⟩:=M.row fq (i:=i.toNat) (by omega)
 have a1:=vy e
 have a2:=vy ez
 rw [cf t0,eq] at a1
 rw [cf i0] at a2
 exact ⟨ys,q,zs,q',fp,a1,fq,a2,fq',wvw j0 (by omega)⟩
theorem CovAt.at_ {H:Hp}{p:Addr}{hs:List Int}(h:CovAt H p hs){i:Int}(i0:0≤i)(i1:i<(hs.length:Int)-1):∃ys q,H p=some (.lst ys)∧atI ys i=some (.ref q)∧H q=some (.lst ((xf hs i.toNat).map V.int)):=by
 obtain ⟨ys,fp,l,r⟩:=h
 have e:ys[i.toNat]?=some ys[i.toNat]:=aa (by omega)
 obtain ⟨q,eq,f⟩:=r _ _ e
 have a1:=vy e
 rw [cf i0,eq] at a1
 exact ⟨ys,q,fp,a1,f⟩
def W1:Sp:=λvs H Q _=>∃(c tb:Addr) (hs:List Int) (f m:Nat),vs=[.int ((0:Int)+f),.ref c,.ref tb]∧wz hs∧CovAt H c hs∧TabsAt H tb hs m∧f<hs.length-1∧1≤m∧m≤12∧zw (xf hs) m f f≤1000 ∧
 ∀p ys H',H p=none→Same H H'→H' p=some (.lst ys)→Tups (bgR hs f m (m-1)) ys H'→Q (.ref p) H'
theorem xwy {r:List Int}(h:r≠[]):atI (r.map V.int) (-1)=some (V.int (r.getLastD 0)):=by
 have e:r=r.dropLast++[r.getLast h]:=(dX h).symm
 rw [e,List.map_append]
 have:=Zb (r.dropLast.map V.int) (V.int (r.getLast h))
 rw [Wk]
 exact this
theorem qjc {f:Addr}{fd:Ad}(F:Fun K "rows_from" "rows_from" s_rows_from f fd)(T:Txt K mg qm qx qd qy qh qc qk):FnOk P w K mg base (CXE P w) 1 f fd ["first","covers","tables"] W1:=by
 have sc:=qk5
 refine F.okX sc (λvs H Q E h=>by obtain ⟨c,tb,hs,f,m,rfl,_⟩:=h;rfl) (λcdv A outer s H vs Q E hr h=>?_)
 obtain ⟨c,tb,hs,f,m,rfl,ok,hC,hT,hf,m1,m2,few,k⟩:=h
 have o1:=ok.1
 have o2:=ok.2.1
 obtain ⟨ts,ft,lt,_⟩:=id hT
 refine ⟨_,(qj (wg (i:=3) sc.nd rfl (by walk_at "loc") (wx vd (q9 wm rfl T.len_ aZ (qw (pv 2) qv)) qu))
   (qj (wg (i:=4) sc.nd rfl (by walk_at "loc") (qj3 (wj u7 (xm zx (xm zx (xm zx (pv 2) (pv 3) (λ_ _=>rfl)) (pv 0) (λ_ _=>rfl)) (pv 0) (λ_ _=>rfl)) qu (wb _)) (jx (qw (yh (qw (pv 0) qv)) qv)) (jx qv)))
   (qj (jz ba rfl (wk1 rfl T.range_ (qw (wx vd (pv 3) qu) (qw qu (qw (qv2 Jk qu) qv)))) (wn (i:=5) sc.nd rfl (by walk_at "loc")) (qf (qjr (i:=4) (M:=[0,1,2,5]) sc.nd rfl (by walk_at "loc") rfl rfl (by walk_at "cap") (by walk_at "has") (by walk_at "cix") rfl (by decide +kernel) rfl rfl (show List.Nodup (["row","onward","first","covers","tables","left"]:List Str) by decide +kernel) (zf (pv 4)) (λ_ _ _ _ _=>(wqj (K:=K) rfl (xm (jk (K:=K) rfl) (pv 3) (xm (Qn (K:=K) rfl) (pv 0) (qv2 Jk qu) (λ_ _=>rfl)) (λ_ _=>rfl)))) (λ_ _ _ _ _=>(wj u7 (xm (jk (K:=K) rfl) (xm (jk (K:=K) rfl) (xm (jk (K:=K) rfl) (pv 4) (pv 5) (λ_ _=>rfl)) (pv 1) (λ_ _=>rfl)) (pv 2) (λ_ _=>rfl)) qu (wb _))) (λ_ _ _ _ _=>(wx (wuv (K:=K) rfl) (pv 0) (yh (qw (pv 1) qv)))))))
   (qf (wu (pv 4)))))),?_⟩
 refine exI rfl ⟨_,_,rfl,.inl (SqL.of ft),wy rfl rfl ?_⟩
 rw [lt]
 have em:(((m+1:Nat):Int)-1).toNat=m:=by omega
 have ef:((0:Int)+f).toNat=f:=by omega
 obtain ⟨ys,q,zs,q',e1,e2,e3,e4,e5,e6⟩:=hT.at_ (t:=((m+1:Nat):Int)-1) (i:=(0:Int)+f) (j:=(0:Int)+f) (by omega) (by omega) (by omega) (by omega) (by omega) (by omega)
 rw [em,ef] at e5 e6
 have init:∀(Pp:St→Hp→Prop),(∀p us H1,H p=none→Same H H1→H1 p=some (.lst us)→Tups (bgR hs f m 0) us H1→Pp [some (.int ((0:Int)+f)),some (.ref c),some (.ref tb),some (.int (((m+1:Nat):Int)-1)),some (.ref p),none] H1)→tAsg (tIf (xwj (tOp (rI0 λi j=>V.bl (decide (j<i))) (tOp (wwy K) (tOp (wwy K) (tOp (wwy K) (kv 2) (kv 3)) (kv 0)) (kv 0)) (tC (V.int 0)))) (tLst (jh (tTup (jh (kv 0) qq4)) qq4)) (tLst qq4)) (Q3 4) { nx:=Pp,rt:=Q } [some (.int ((0:Int)+f)),some (.ref c),some (.ref tb),some (.int (((m+1:Nat):Int)-1)),none,none] H:=by
  intro Pp hP
  refine exI rfl (exI rfl (exX rfl rfl (SqL.of e1) e2 (exI rfl (exX rfl rfl (SqL.of e3) e4 (exI rfl (exX rfl rfl (SqL.of e5) e6 (wy rfl rfl (exI rfl (kh (λz=>?_) (λz=>?_))))))))))
  ·refine exI rfl ⟨sz1,λa na=>⟨sz1,λp np=>?_⟩⟩
   have s1:=Same.upd (o:=.tup [.int ((0:Int)+f)]) na
   refine hP p _ _ (vh s1 np) (s1.trans (Same.upd np)) qb ?_
   unfold bgR
   rw [if_pos z]
   exact .cons ⟨a,rfl,(Same.upd np) _ _ qb⟩ .nil
  ·refine ⟨sz0,λp np=>?_⟩
   refine hP p _ _ np (Same.upd np) qb ?_
   unfold bgR
   rw [if_neg z]
   exact .nil
 refine init _ λp us H1 np s1 fp tp=>?_
 refine exI rfl (wy rfl rfl (exI rfl ⟨_,_,rfl,(by omega),?_⟩))
 rw [show (((m+1:Nat):Int)-1-1-0).toNat=m-1 by omega]
 refine wj2 (λi σ H'=>Same H H'∧∃(p:Addr) (us:List V) (z:Option V),σ=[some (.int ((0:Int)+f)),some (.ref c),some (.ref tb),some (.int (((m+1:Nat):Int)-1)),some (.ref p),z]∧H p=none∧H' p=some (.lst us)∧Tups (bgR hs f m i) us H') ⟨s1,p,us,exI rfl ⟨np,fp,tp⟩⟩ ?_ ?_
 ·rintro i σ H2 hi ⟨s2,p,us,z,rfl,np,fp,tp⟩
  have bl:=xwb ok (m:=m) (t:=i) hf (by omega)
  have eg:(((m+1:Nat):Int)-1-1-i).toNat=m-1-i:=by omega
  refine exI rfl ⟨p,rfl,⟨_,SqL.of fp⟩,qj6 (K:=K) (bgR hs f m i) (λr=>xf hs (r.getLastD 0).toNat) (λv=>decide (0<zw (xf hs) (m-1-i) v.toNat f)) (SqL.of fp) tp (by omega) (λr _=>qu9 ok _) (λr a H' R hr fa s' hR=>?_) (λr a u H' R hr hu s' hR=>?_) (λr a u H' R hr hu hc fa s' hR=>?_) λp' ys' H' np' s' f' t'=>?_⟩
  ·obtain ⟨l1,l2,l3⟩:=qx6 (jc ok hf i r hr)
   obtain ⟨vs,q1,g1,g2,g3⟩:=(hC.same s2).at_ l2 l3
   have hz:r≠[]:=λz=>by have:=(jc ok hf i r hr).1;rw [z] at this;cases this
   exact exI rfl (exI rfl (exI rfl (exX rfl rfl (SqT.of fa) (xwy hz) (exX rfl rfl (SqL.of (s' _ _ g1)) g2 ⟨q1,rfl,⟨_,SqL.of (s' _ _ g3)⟩,hR q1 (SqL.of g3)⟩))))
  ·have ur:=Qh ok _ u hu
   obtain ⟨vs,q1,ws,q2,g1,g2,g3,g4,g5,g6⟩:=(hT.same (s2.trans s')).at_ (t:=((m+1:Nat):Int)-1-1-i) (i:=u) (j:=(0:Int)+f) (by omega) (by omega) ur.1 (by omega) (by omega) (by omega)
   rw [eg,ef] at g6
   rw [eg] at g5
   exact exI rfl (exI rfl (exX rfl rfl (SqL.of g1) g2 (exI rfl (exX rfl rfl (SqL.of g3) g4 (exI rfl (exX rfl rfl (SqL.of g5) g6 (wy rfl rfl (exI rfl hR))))))))
  ·have lr:=(jc ok hf i r hr).1
   have big:(1000000:Nat)<sizeLine:=by decide
   refine exI rfl (exI rfl ⟨sz1,λb nb=>?_⟩)
   have s3:=Same.upd (o:=.tup [.int u]) nb
   refine ⟨_,_,_,_,rfl,rfl,SqT.of (s3 _ _ fa),SqT.new,by rw [List.length_map];show r.length+1≤sizeLine;omega,λz=>?_,λ_ z=>absurd z (by simp),λ_ _ p7 n7=>?_⟩
   ·have:=bX List.length z
    rw [List.length_map,lr] at this
    cases this
   ·refine hR p7 _ (s3.trans (Same.upd n7)) ?_
    rw [qb,List.map_append]
    rfl
  ·exact ⟨s2.trans s',p',ys',exI rfl ⟨vh s2 np',f',t'⟩⟩
 ·rintro σ H2 ⟨s2,p,us,z,rfl,np,fp,tp⟩
  exact exI rfl (k p us H2 np s2 fp tp)
def qkv (C CC CT:Addr):Sp:=λvs H Q E=>∃(r:Addr) (hs:List Int) (m:Int),vs=[.ref r,.int m]∧RoadAt C H r hs∧wz hs∧1≤m∧m≤12∧crS hs m.toNat≤1000 ∧
 ∀p ys H',H p=none→Same H H'→H' p=some (.lst ys)→Tups (wc hs m.toNat) ys H'→Q (.ref p) H'
theorem wjq (hs:List Int)(m i:Nat):((List.range (i+1)).flatMap λf=>bgR hs f m (m-1))=((List.range i).flatMap λf=>bgR hs f m (m-1))++bgR hs i m (m-1):=by
 rw [List.range_succ,ge]
 simp
theorem qvb {g:Nat→Int}(h:∀i,0≤g i){i:Nat}:∀ {n:Nat},i≤n→vn i g≤vn n g
 |0,e=>by
  obtain rfl:i=0:=by omega
  exact cR _
 |n+1,e=>by
  rcases (by omega:i=n+1∨i≤n) with z|z
  ·subst z;exact cR _
  ·have:=qvb h z
   have:=h n
   rw [zn]
   omega
theorem wkg {hs:List Int}(ok:wz hs){m:Nat}(hm:1≤m){i:Nat}(h:i≤hs.length-1):((((List.range i).flatMap λf=>bgR hs f m (m-1)).length:Nat):Int)≤crS hs m:=by
 refine dC ?_ (Yr ok hm)
 unfold wc
 rw [qxt,qxt]
 exact qvb (λ_=>Int.natCast_nonneg _) h
theorem xx7 {f:Addr}{fd:Ad}(F:Fun K "rows" "rows" s_rows f fd)(T:Txt K mg qm qx qd qy qh qc qk)(c_check_count:CalD P w K mg base "check_count" 1 (qqd qy))(c_ways_up_to:Cal P w K mg base "ways_up_to" 6 (qwq qk))(c_covers_of:Cal P w K mg base "covers_of" 5 (y9 qk))(c_width:MCal P w K mg base qk "width" 1 (k8 qk))(c_rows_from:Cal P w K mg base "rows_from" 1 W1) :
  FnOk P w K mg base (CXE P w) 7 f fd ["road","many"] (qkv qk qy qh):=by
 have sc:=xw5
 refine F.okX sc (λvs H Q E h=>by obtain ⟨r,hs,m,rfl,_⟩:=h;rfl) (λcdv A outer s H vs Q E hr h=>?_)
 obtain ⟨r,hs,m,rfl,hR,ok,m1,m2,few,k⟩:=h
 obtain ⟨tl,g_LONGEST_ROW⟩:=T.g_LONGEST_ROW
 obtain ⟨tw,g_MOST_WAYS⟩:=T.g_MOST_WAYS
 have o1:=ok.1
 have o2:=ok.2.1
 have big:(1000000:Nat)<sizeLine:=by decide
 refine ⟨_,(qj (zm (ww c_check_count.all (hr.mono (by decide)) rfl qg (qw (pv 1) (qw qu (qw (Zw (v:=V.int 12) rfl g_LONGEST_ROW ⟨_,rfl⟩) qv)))))
   (qj (wg (i:=2) sc.nd rfl (by walk_at "loc") (ww c_ways_up_to (hr.mono (by decide)) rfl qg (qw (pv 0) (qw (pv 1) qv))))
   (qj (zy (wj u7 (q9 (vw (K:=K) rfl rfl) rfl T.sum_ yk (qw (zp (M:=[]) rfl rfl (by walk_at "cap") (by walk_at "has") (by walk_at "cix") rfl (by decide +kernel) rfl (show List.Nodup (["counts"]:List Str) by decide +kernel) (zf (xm zx (pv 2) (pv 1) (λ_ _=>rfl))) (λ_ _ _ _ _=>(q9 (vw (K:=K) rfl rfl) rfl T.sum_ yk (qw (pv 0) qv)))) qv)) (Zw (v:=V.int 1000) rfl g_MOST_WAYS ⟨_,rfl⟩) (wb _)) (qf (ku rfl T.x_TooLong zh rfl T.g_TooLong (qw u9 qv))) xy)
   (qj (wg (i:=3) sc.nd rfl (by walk_at "loc") (ww c_covers_of (hr.mono (by decide)) rfl qg (qw (pv 0) qv)))
   (qj (wg (i:=4) sc.nd rfl (by walk_at "loc") (jx qv))
   (qj (jz ba rfl (xr rfl T.range_ (qw (v9 (pv 0) T.cl c_width (hr.mono (by decide)) qg) qv)) (wn (i:=5) sc.nd rfl (by walk_at "loc")) (qf (zm (Jd bL PySem.F.slot_list_extend PySem.F.type_list_extend wjd (pv 4) (qw (ww c_rows_from (hr.mono (by decide)) rfl qg (qw (pv 5) (qw (pv 3) (qw (pv 2) qv)))) qv)))))
   (qf (wu (pv 4))))))))),?_⟩
 refine ⟨_,rfl,m,1,.int 12,some 12,rfl,.inr ⟨12,rfl,rfl⟩,λ_=>?_,λhw=>absurd ⟨m1,λz e=>by cases e;exact m2⟩ hw⟩
 refine exI rfl (exI rfl ⟨r,hs,m,rfl,hR,ok,(by omega),(by omega),λtb ts H1 s1 f1 l1 g1=>?_⟩)
 have e:ts[m.toNat]?=some ts[m.toNat]:=aa (by omega)
 obtain ⟨q,eq,M⟩:=g1 _ _ e
 have ea:atI ts m=some (.ref q):=by
  have:=vy e
  rwa [cf (by omega),eq] at this
 obtain ⟨zs,fq,lz,rz⟩:=id M
 have tabs:TabsAt H1 tb hs m.toNat:=⟨ts,f1,l1,g1⟩
 refine exI rfl (exI rfl (exX rfl rfl (SqL.of f1) ea ⟨q,rfl,⟨_,SqL.of fq⟩,yt (K:=K) (λi v _=>v=V.int (vn (hs.length-1) (zw (xf hs) m.toNat i))) (λi v H H' p g _ _=>g) (SqL.of fq) (by omega) (λi x H2 R hx s2 hR=>?_) λp2 ys2 H2 n2 s2 f2 l2 g2=>?_⟩))
 ·obtain ⟨a,rfl,fa⟩:=rz i x hx
  exact exI rfl ⟨a,exI rfl ⟨SqL.of (s2 _ _ fa),hR _ _ (Same.refl _) rfl λb e=>nomatch e⟩⟩
 have ey:ys2=(zu (hs.length-1) λi=>vn (hs.length-1) (zw (xf hs) m.toNat i)).map V.int:=by
  refine bv λi=>?_
  by_cases z:i<hs.length-1
  ·rw [ao,qxv z,aa (by omega),(g2 i _ (aa (by omega))).1]
   rfl
  ·rw [az (by omega),az (by rw [List.length_map,ug];omega)]
 rw [ey] at f2
 refine ⟨p2,exI rfl ⟨SqL.of f2,wy rfl rfl (exI rfl ?_)⟩⟩
 have ec:(zu (hs.length-1) λi=>vn (hs.length-1) (zw (xf hs) m.toNat i)).sum=crS hs m.toNat:=(wwk ok _).symm
 rw [ec]
 refine kh (λz=>absurd z (by omega)) (λz=>?_)
 refine exI rfl ⟨r,hs,rfl,hR.same (s1.trans s2),ok,λc H3 n3 s3 C3=>?_⟩
 refine ⟨sz0,λp np=>?_⟩
 have s4:=Same.upd (o:=.lst []) np
 have s14:=s1.trans (s2.trans (s3.trans s4))
 obtain ⟨dx,q0,h1,h2⟩:=id hR
 refine exI rfl ⟨r,dx,exI rfl ⟨s14 _ _ h1,xj (by decide +kernel),r,hs,rfl,hR.same s14,exI rfl ⟨(by omega),(by omega),?_⟩⟩⟩
 rw [show ((hs.length:Int)-1).toNat=hs.length-1 by omega]
 have np0:H p=none:=vh (s1.trans (s2.trans s3)) np
 have s13:=s1.trans (s2.trans s3)
 have T3:=tabs.same (s2.trans s3)
 refine j7 (λi σ H'=>Same H3 H'∧∃(us:List V) (z:Option V),σ=[some (.ref r),some (.int m),some (.ref tb),some (.ref c),some (.ref p),z]∧H' p=some (.lst us)∧Tups ((List.range i).flatMap λf=>bgR hs f m.toNat (m.toNat-1)) us H')
  ⟨s4,[],exI rfl ⟨qb,.nil⟩⟩ ?_ ?_
 ·rintro i σ H5 hi ⟨s5,us,z,rfl,f5,t5⟩
  have pi:=pow_cr ok (m:=m.toNat) hi
  have l5:=wkg ok (m:=m.toNat) (by omega) (i:=i) (by omega)
  have l6:=xwb ok (m:=m.toNat) (t:=m.toNat-1) hi (by omega)
  refine exI rfl ⟨.inl ⟨rfl,_,SqL.of f5⟩,exI rfl (exI rfl (exI rfl ⟨c,tb,hs,i,m.toNat,rfl,ok,C3.same s5,T3.same s5,hi,(by omega),(by omega),(by omega),λp6 ys6 H6 n6 s6 f6 t6=>?_⟩))⟩
  have lu:=t5.len
  have ly:=t6.len
  refine ⟨p,p6,us,ys6,rfl,rfl,s6 _ _ f5,f6,by omega,?_⟩
  refine ⟨Same.upd2 (s5.trans s6) np,us++ys6,exI rfl ⟨qb,?_⟩⟩
  ·rw [wjq]
   exact Paired.app ((t5.same s6).upd (s6 _ _ f5)) (t6.upd (s6 _ _ f5))
 ·rintro σ H5 ⟨s5,us,z,rfl,f5,t5⟩
  exact exI rfl (k p us H5 np0 (s13.trans s5) f5 t5)
def qxc (K:Aa)(C CB CO CC:Addr):Sp:=λvs H Q E=>∃(r p:Addr) (hs:List Int) (t b m:Int),vs=[.ref r,.ref p,.int m]∧RoadAt C H r hs∧wz hs∧SqT K H p [.int t,.int b] ∧
 (1≤b→Sm 8000 b∧(vq hs t b→(Within m 0 (some 1000)→∀q H',H q=none→Same H H'→PtsAt H' q (wwh hs (wt t b) (m.toNat+1))→Q (.ref q) H')∧(¬ Within m 0 (some 1000)→∀H',Same H H'→E (.ref CC) none H')) ∧
  (¬ vq hs t b→∀H',Same H H'→E (.ref CO) none H'))∧(b<1→E (.ref CB) none H)
theorem wk0 {f:Addr}{fd:Ad}(F:Fun K "walked" "walked" s_walked f fd)(T:Txt K mg qm qx qd qy qh qc qk)(c_check_count:CalD P w K mg base "check_count" 1 (qqd qy))(c_on_road:MCal P w K mg base qk "on_road" 3 (W4 K qk qx qd))
  (c_at:MCal P w K mg base qk "at" 4 (spAt K qk qx qd)):FnOk P w K mg base (CXE P w) 5 f fd ["road","point","many"] (qxc K qk qx qd qy):=by
 have sc:=wkv
 refine F.okX sc (λvs H Q E h=>by obtain ⟨r,p,hs,t,b,m,rfl,_⟩:=h;rfl) (λcdv A outer s H vs Q E hr h=>?_)
 obtain ⟨r,p,hs,t,b,m,rfl,hR,hok,hp,kq,x⟩:=h
 obtain ⟨dx,q0,h1,h2⟩:=id hR
 obtain ⟨tm,g_MOST_WALKED⟩:=T.g_MOST_WALKED
 refine ⟨_,(qj (wg (i:=3) sc.nd rfl (by walk_at "loc") (vm (pv 0) T.cl c_on_road (hr.mono (by decide)) qg (qw (pv 1) qv)))
   (qj (zm (ww c_check_count.all (hr.mono (by decide)) rfl qg (qw (pv 2) (qw qu (qw (Zw (v:=V.int 1000) rfl g_MOST_WALKED ⟨_,rfl⟩) qv)))))
   (qj (wg (i:=4) sc.nd rfl (by walk_at "loc") (jx (qw (pv 3) qv)))
   (qj (uu ba (wj qyd (q9 wm rfl T.len_ aZ (qw (pv 4) qv)) (pv 2) (wb _)) (qf (zm (Jd bL bT bU vk (pv 4) (qw (vm (pv 0) T.cl c_at (hr.mono (by decide)) qg (qw (xm zx (pv 4) (qv2 Jk qu) (λ_ _=>rfl)) qv)) qv)))))
   (qf (wu (pv 4))))))),?_⟩
 refine ⟨_,rfl,r,dx,_,rfl,h1,xj (by decide +kernel),_,rfl,r,p,hs,t,b,rfl,hR,hok,hp,λhb=>⟨(kq hb).1,λhon p1 H1 s1 f1=>?_,λhoff H1 s1=>(kq hb).2.2 hoff H1 s1⟩,λz=>x z⟩
 obtain ⟨sb,k1,_⟩:=kq hb
 obtain ⟨k2,k3⟩:=k1 hon
 refine ⟨_,rfl,m,0,.int 1000,some 1000,rfl,.inr ⟨1000,rfl,rfl⟩,λhw=>?_,λhw=>k3 hw _ s1⟩
 have m0:=hw.1
 have m1:=hw.2 1000 rfl
 have P0:=wj7 hb hon
 refine exI rfl ⟨sz1,λq nq=>?_⟩
 have nq0:H q=none:=by
  cases e:H q with
  |none=>rfl
  |some o=>rw [s1 _ _ e] at nq;cases nq
 have dq:p1≠q:=q8 f1 nq
 refine Zf (λσ H2=>∃(n:Nat) (vs:List V),σ=[some (.ref r),some (.ref p),some (.int m),some (.ref p1),some (.ref q)]∧(n:Int)≤m∧Same H1 H2∧H2 q=some (.lst vs)∧Paired (PtR H2) vs (wwh hs (wt t b) (n+1)))
  (λ_ H2=>match H2 q with|some (.lst vs)=>(m+1).toNat-vs.length|_=>0) ⟨0,[.ref p1],rfl,by omega,Same.upd nq,qb,.cons ⟨p1,rfl,by rw [qr dq];exact f1⟩ .nil⟩ ?_ λσ H Q Q' h ⟨v,e,p',ys,e1,e2,v2,e3,i,j,e4,e5,kk,e6,qq⟩=>⟨v,e,p',ys,e1,e2,v2,e3,i,j,e4,e5,kk,e6,h _ _ qq⟩
 rintro σ H2 ⟨n,vs,rfl,hn,s2,f2,pr⟩
 have hlen:vs.length=n+1:=by rw [pr.length,uj]
 refine exI rfl ⟨_,_,rfl,.inl (SqL.of f2),exI rfl (wy rfl rfl (exI rfl ?_))⟩
 rw [hlen]
 refine kh (λq1=>?_) (λq1=>?_)
 ·have Pn:=pt_it hok P0 n
  obtain ⟨v,ev,⟨a,rfl,fa⟩⟩:=Y0 (i:=n) (b:=itP hs (wt t b) n) pr (by rw [Jv,av (by rw [uj];exact Nat.le_refl _),uj];simp)
  have hlast:atI vs (-1)=some (.ref a):=by
   have hz:vs≠[]:=λz=>by rw [z] at hlen;simp at hlen
   have e1:vs=vs.dropLast++[vs.getLast hz]:=(dX hz).symm
   have e2:vs.getLast hz=.ref a:=by
    rw [ir]
    have:vs[n]?=vs[vs.length-1]?:=by rw [hlen];rfl
    rw [this,aa (by omega)] at ev
    exact aj ev
   rw [e1,e2]
   exact Zb _ _
  have s02:=s1.trans s2
  refine ⟨_,rfl,.inl ⟨rfl,_,SqL.of f2⟩,_,rfl,r,dx,_,rfl,s02 _ _ h1,xj (by decide +kernel),_,rfl,_,rfl,_,_,_,_,rfl,rfl,SqL.of f2,hlast,r,a,hs,(itP hs (wt t b) n).1,(itP hs (wt t b) n).2,rfl,hR.same s02,hok,SqT.of fa,λ_=>⟨(sb.of_le (by have:=Pn.2.1;have:=Pn.1;omega)),λ_ p3 H3 s3 f3=>?_,λz=>absurd Pn.2.2.2 z⟩,λz=>absurd Pn.1 (by omega)⟩
  have g2:=s3 _ _ f2
  refine ⟨_,_,_,rfl,rfl,g2,Qb (by omega),⟨n+1,vs++[.ref p3],rfl,(by omega),λb o e=>?_,qb,?_⟩,?_⟩
  ·rw [qr (q8 e nq)]
   exact s3 _ _ (s2 _ _ e)
  ·rw [Jv hs (wt t b) (n+1)]
   refine Paired.snoc (qxn (λ_ _ z=>(z.same s3).upd g2) pr) (PtR.upd ⟨p3,rfl,?_⟩ g2)
   exact f3
  ·show (match upd H3 q (.lst (vs++[.ref p3])) q with|some (.lst vs)=>(m+1).toNat-vs.length|_=>0)<(match H2 q with|some (.lst vs)=>(m+1).toNat-vs.length|_=>0)
   rw [qb,f2]
   show (m+1).toNat-(vs++[V.ref p3]).length<(m+1).toNat-vs.length
   rw [ai,cn]
   omega
 ·have en:m.toNat=n:=by omega
  refine exI rfl (k2 hw q H2 nq0 (s1.trans s2) ⟨vs,f2,?_⟩)
  rw [en]
  exact pr
end
section
variable {P:Ac}{w:World}{K:Aa}{mg:Str→Option Value}{base:Heap}{qm:Addr}{qx:Addr}{qd:Addr}{qy:Addr}{qh:Addr}{qc:Addr}{qk:Addr}
def Kp (H H':Hp):Prop:=∀b o,(∀ps,o≠HO.tbl ps)→H b=some o→H' b=some o
theorem Kp.of {H H':Hp}(s:Same H H'):Kp H H':=λb o _ e=>s b o e
theorem Kp.ofT {T:Addr}{H H':Hp}{ps:Array Value}(hT:H T=some (.tbl ps))(s:KeepT T H H'):Kp H H':=λb o n e=>s b o (λz=>by rw [z,hT] at e;cases e;exact n _ rfl) e
theorem Kp.trans {H H' H'':Hp}(a:Kp H H')(b:Kp H' H''):Kp H H'':=λc o n e=>b c o n (a c o n e)
theorem Kp.lst {H H':Hp}(k:Kp H H'){b:Addr}{xs:List V}(e:H b=some (.lst xs)):H' b=some (.lst xs):=k b _ (λps z=>by cases z) e
theorem Kp.tup {H H':Hp}(k:Kp H H'){b:Addr}{xs:List V}(e:H b=some (.tup xs)):H' b=some (.tup xs):=k b _ (λps z=>by cases z) e
theorem Kp.none {H H':Hp}(k:Kp H H'){b:Addr}(hT:∀ps,H b=some (.tbl ps)→False)(e:H' b=.none):H b=.none:=by
 cases q:H b with
 |none=>rfl
 |some o=>rw [k b o (λps z=>hT ps (by rw [q,z])) q] at e;cases e
theorem Kp.upd {H H':Hp}{p:Addr}{o:HO}(k:Kp H H')(n:H p=.none):Kp H (L2.upd H' p o):=λb u h e=>by
 rw [qr (q8 e n)]
 exact k b u h e
theorem Kp.sql {K:Aa}{H H':Hp}{a:Addr}{xs:List V}(k:Kp H H')(h:SqL K H a xs):SqL K H' a xs:=by
 rcases h with (h|⟨o,h⟩)|h
 ·exact .inl (.inl (k.lst h))
 ·exact .inl (.inr ⟨o,k _ _ (λps z=>by cases z) h⟩)
 ·exact .inr h
def PL (H:Hp)(vs:List V)(pt:Nat→Int×Int):Prop:=∀i v,vs[i]?=some v→∃a,v=.ref a∧H a=some (.tup [.int (pt i).1,.int (pt i).2])
theorem PL.kp {H H':Hp}{vs:List V}{pt:Nat→Int×Int}(h:PL H vs pt)(k:Kp H H'):PL H' vs pt:=λi v e=>by
 obtain ⟨a,e1,e2⟩:=h i v e
 exact ⟨a,e1,k.tup e2⟩
def OkP (q:Int×Int):Prop:=1≤q.2∧Sm 150 q.1∧Sm 150 q.2
theorem Jq {T:Addr}{pos:Pos}{q:Str}{H H':Hp}(h:Zx T pos q H)(s:Same H H'):Zx T pos q H':=by
 rcases h with h|⟨c,h1,h2⟩
 ·exact .inl (s _ _ h)
 ·exact .inr ⟨c,s _ _ h1,s _ _ h2⟩
theorem wu2 {T:Addr}{pos:Pos}{q:Str}{H:Hp}(h:Zx T pos q H):∃ps,H T=some (.tbl ps):=by
 rcases h with h|⟨c,h,_⟩
 ·exact ⟨_,h⟩
 ·exact ⟨_,h⟩
abbrev qwk:Pos:=⟨71,30,71,72⟩
abbrev lamQ:Str:=("ordered" : Str) ++ ".<locals>." ++ "<lambda>"
def lamOf:Stmt→Expr
 |.Return (some (.Call _ _ [⟨_,l,_⟩] _)) _=>l
 |_=>.Constant .none 0 ⟨0,0,0,0⟩
def lamA:Expr→Arguments
 |.Lambda a _ _ _=>a
 |_=>⟨[],[],none,[],[],none,[]⟩
def lamB:Expr→Expr
 |.Lambda _ b _ _=>b
 |e=>e
abbrev wy7:Expr:=lamOf ((zd s_ordered).getD 3 (.Pass ⟨0,0,0,0⟩))
theorem xqk {x y z:Str}(h:([(x,NameKind.local),(y,NameKind.free)]:List (Str×NameKind)).lookup z=some .free):z=y:=by
 rw [be] at h
 split at h
 ·cases h
 ·rw [be] at h
  split at h
  ·rename_i e
   simpa using e
  ·cases h
def xqv (K:Aa)(T C:Addr):Sp:=λvs H Q E=>∃(p:Addr) (xs:List V) (pt:Nat→Int×Int),vs=[.ref p]∧SqL K H p xs∧PL H xs pt∧Zx T qwk lamQ H∧(∀i,i<xs.length→OkP (pt i))∧(∀i j,i<j→j<xs.length→(pt i).1*(pt j).2≠(pt j).1*(pt i).2)∧xs.length≤2000∧∀(l:Addr) (il:List Nat) (H':Hp),Kp H H'→Zx T qwk lamQ H'→H l=none→il.Perm (List.range xs.length)→il.Pairwise (Wor pt)→H' l=some (.lst (il.map λi=>xs.getD i .non))→Q (.ref l) H'
theorem ok_ord {f:Addr}{fd:Ad}{cO TT:Addr}(F:FunT K "ordered" s_ordered cO f fd)(T:Txt K mg qm qx qd qy qh qc qk)(hB:BMain mg base)(hC:PySem.W.codeHdIn K cO TT=true)(c_check_bottom:Cal P w K mg base "check_bottom" 1 (qqh qx)) :
  FnOk P w K mg base (CXE P w) 6 f fd ["points"] (xqv K TT qx):=by
 have sc:=wwm
 have lsc:LamSc "point" "scale" ⟨.function,[("point",.local),("scale",.free)],false,false,[]⟩:=⟨rfl,rfl,rfl,rfl,rfl,by decide,λz h=>xqk h,by decide⟩
 refine F.okX sc (λvs H Q E h=>by obtain ⟨p,xs,pt,rfl,_⟩:=h;rfl) (λA outer s H vs Q E hr h=>?_)
 obtain ⟨p,xs,pt,rfl,hS,hP,hT,hok,hne,h64,k⟩:=h
 refine ⟨_,(qj (jz ba rfl (zf (pv 0)) (wn (i:=1) sc.nd rfl (by walk_at "loc")) (qf (zm (ww c_check_bottom (hr.mono (by decide)) rfl qg (qw (xm kn (pv 1) qu (λ_ _=>rfl)) qv)))))
   (qj (wg (i:=2) sc.nd rfl (by walk_at "loc") (wv9 (wkh rfl) rfl T.max_ dh (qw (zp (M:=[]) rfl rfl (by walk_at "cap") (by walk_at "has") (by walk_at "cix") rfl (by decide +kernel) rfl (show List.Nodup (["point"]:List Str) by decide +kernel) (zf (pv 0)) (λ_ _ _ _ _=>(xm (Qn (K:=K) rfl) (pv 0) qu (λ_ _=>rfl)))) qv) (wvu qu wu6)))
   (qj (wg (i:=3) sc.nd rfl (by walk_at "loc") (wx xp (pv 2) (pv 2)))
   (qf (wu (wxg (qkb (k:=0) (params:=lamA wy7) (body:=lamB wy7) (qual:=lamQ) (pm:=(mg "__name__").getD .none) (x := "point") (y := "scale") (iy:=3) lsc (hr.mono (by decide)) rfl rfl rfl rfl (by intro _ _ _;rfl) (λ_ _ _ _ _ _ _=>(wx Qj (wx xp (xm (Qn (K:=K) rfl) (pv 0) qu (λ_ _=>rfl)) (pv 1)) (xm (Qn (K:=K) rfl) (pv 0) qu (λ_ _=>rfl))))) rfl T.sorted_ eL (qw (pv 0) qv) (wvu (pe_lam hB rfl hC rfl rfl) wu6))))))),?_⟩
 refine exI rfl ⟨p,rfl,⟨_,hS⟩,qxq (K:=K) (a:=p) (xs:=xs) (λi σ H1=>H1=H∧(∀j,j<i→1≤(pt j).2)∧∃z,σ=[some (.ref p),z,none,none]) ⟨rfl,λj h=>absurd h (by omega),_,rfl⟩ ?_ ?_ ?_⟩
 ·rintro i σ H1 _ ⟨rfl,_,_,_⟩
  exact hS
 ·rintro i y σ H1 hy ⟨rfl,hn,z,rfl⟩
  obtain ⟨a,rfl,fa⟩:=hP i y hy
  have hi:i<xs.length:=(ag.mp hy).1
  refine ⟨_,rfl,_,_,_,_,rfl,rfl,SqT.of fa,rfl,_,rfl,λh1=>⟨rfl,λj hj=>?_,_,rfl⟩,λh2=>?_⟩
  ·by_cases e:j=i
   ·rw [e];exact h1
   ·exact hn j (by omega)
  ·exact absurd (hok i hi).1 (by omega)
 ·rintro σ H1 ⟨rfl,hn,z,rfl⟩
  refine exI rfl ⟨p,rfl,⟨_,hS⟩,yt (K:=K) (a:=p) (xs:=xs) (λj v _=>v=.int (pt j).2) (λi v H H' p g _ _=>g) hS (by omega) (λi x H2 R hx hs hR=>?_) λp2 ys H2 np2 s2 f2 hl2 hG2=>?_⟩
  ·obtain ⟨a,rfl,fa⟩:=hP i x hx
   exact exI rfl (exX rfl rfl (SqT.of (hs _ _ fa)) rfl (hR _ _ (Same.refl _) rfl λb e=>nomatch e))
  have ey:ys=((List.range xs.length).map λj=>(pt j).2).map V.int:=by
   refine bv λj=>?_
   rw [bz,ao]
   by_cases hj:j<xs.length
   ·rw [bf hj]
    have e:ys[j]?=some ys[j]:=aa (by omega)
    rw [e,(hG2 j _ e).1]
    rfl
   ·rw [az (by omega),az (by rw [List.length_range];omega)]
    rfl
  rw [ey] at f2
  refine ⟨p2,_,1,rfl,rfl,SqL.of f2,λG hG1 hG2=>?_⟩
  have gb:∀i,i<xs.length→(pt i).2≤G:=λi hi=>hG1 _ (aH.mpr ⟨i,am.mpr hi,rfl⟩)
  have gs:Sm 150 G:=by
   rcases hG2 with h|⟨_,h⟩
   ·obtain ⟨i,hi,rfl⟩:=aH.mp h
    exact (hok i (am.mp hi)).2.2
   ·rw [h];unfold Sm;decide +kernel
  refine exI rfl (exI rfl (wy rfl rfl ⟨gs.ok gs (by decide),?_⟩))
  refine exI rfl ⟨Jq hT s2,λg c' ctv H3 kT tA ng fg=>?_⟩
  obtain ⟨ps,hps⟩:=wu2 (Jq hT s2)
  have k3:Kp H2 H3:=Kp.ofT hps kT
  have k13:Kp H1 H3:=(Kp.of s2).trans k3
  have P3:=hP.kp k13
  refine ⟨p,xs,(List.range xs.length).map (λi=>Y4 (G*G) (pt i)),g,c',ctv,.int (G*G),rfl,rfl,k13.sql hS,(by omega),?_,by rw [List.length_map,List.length_range],fg,tA.2,rfl,λi v hv=>?_,λl il nl st=>?_⟩
  ·refine bg.mpr λi j hi hj hij=>?_
   rw [List.length_map,List.length_range] at hi hj
   simp only [fI,List.getElem_range]
   intro z
   have w:=ww7 (hok i hi).1 (hok j hj).1 (gb i hi) (gb j hj) (.inr ⟨z,hij⟩)
   have w':=λh=>ww7 (pt:=pt) (i:=j) (j:=i) (hok j hj).1 (hok i hi).1 (gb j hj) (gb i hi) h
   rcases w with w|⟨w,_⟩
   ·exact g9 _ (by have:=wzd (hok i hi).1 (hok j hj).1 (gb i hi) (gb j hj) w;rw [z] at this;exact this)
   ·exact hne i j hij hj w
  ·obtain ⟨a,rfl,fa⟩:=P3 i v hv
   have hi:i<xs.length:=(ag.mp hv).1
   obtain ⟨o1,o2,o3⟩:=hok i hi
   refine exI rfl (exX rfl rfl (SqT.of fa) rfl (exI rfl (wy rfl rfl ⟨o2.ok (gs.mul gs) (by decide),exI rfl (exX rfl rfl (SqT.of fa) rfl (wy rfl rfl ⟨⟨by omega,o3.mono (by decide)⟩,?_,rfl⟩))⟩)))
   rw [ae,ao,bf hi]
   rfl
  ·have hlT:∀ps,H1 l=some (.tbl ps)→False:=λps e=>by
    obtain ⟨ps2,e2⟩:=wu2 hT
    have:H3 l=none:=nl
    by_cases h:l=TT
    ·rw [h,tA.1] at this;cases this
    ·rw [kT l _ h (s2 _ _ e)] at this;cases this
   have n1:H1 l=none:=k13.none hlT nl
   refine k l il _ (k13.upd n1) (Jq (.inr ⟨c',tA⟩) (Same.upd nl)) n1 st.1 ?_ qb
   refine st.2.imp_of_mem λ{i j} hi hj h=>?_
   have hi':i<xs.length:=am.mp (st.1.mem_iff.mp hi)
   have hj':j<xs.length:=am.mp (st.1.mem_iff.mp hj)
   have e:∀i,i<xs.length→((List.range xs.length).map λi=>Y4 (G*G) (pt i)).getD i 0=Y4 (G*G) (pt i):=λi h=>by
    rw [ae,ao,bf h];rfl
   rw [e i hi',e j hj'] at h
   exact ww7 (hok i hi').1 (hok j hj').1 (gb i hi') (gb j hj') h
end
section
variable {P:Ac}{w:World}{K:Aa}{mg:Str→Option Value}{base:Heap}{qm:Addr}{qx:Addr}{qd:Addr}{qy:Addr}{qh:Addr}{qc:Addr}{qk:Addr}
def inK (p:Int×Int)(k:Int):Bool:=decide (k*p.2≤p.1∧p.1≤(k+1)*p.2)
def qwv (ws:List Int)(p:Int×Int):Bool:=ws.any (inK p)
def liesV (p:Int×Int):V→V
 |.int k=>.bl (inK p k)
 |_=>.non
def wwd (K:Aa):Sp:=λvs H Q _=>∃(a q:Addr) (p:Int×Int) (ws:List Int),vs=[.ref a,.ref q]∧SqT K H a [.int p.1,.int p.2]∧SqL K H q (ws.map V.int)∧ws.length≤1000∧(∀k∈ws,0≤k∧k<24)∧∀H',Same H H'→Q (.bl (qwv ws p)) H'
theorem xw7 {f:Addr}{fd:Ad}(F:Fun K "lies_in" "lies_in" s_lies_in f fd)(T:Txt K mg qm qx qd qy qh qc qk):FnOk P w K mg base (CXE P w) 1 f fd ["point","stretches"] (wwd K):=by
 have sc:=wxd
 refine F.okX sc (λvs H Q E h=>by obtain ⟨a,q,p,ws,rfl,_⟩:=h;rfl) (λcdv A outer s H vs Q E hr h=>?_)
 obtain ⟨a,q,p,ws,rfl,hA,hQ,hl,hw,k⟩:=h
 refine ⟨_,(qj (ym (pv 0) (jb rfl (xv (wn (i:=2) sc.nd rfl (by walk_at "loc")) (xv (wn (i:=3) sc.nd rfl (by walk_at "loc")) vf))))
   (qf (wu (q9 (qz5 (K:=K) rfl rfl) rfl T.any_ PyProof.Rows.boot_any (qw (zp (M:=[2,3]) rfl rfl (by walk_at "cap") (by walk_at "has") (by walk_at "cix") rfl (by decide +kernel) rfl (show List.Nodup (["stretch","top","bottom"]:List Str) by decide +kernel) (zf (pv 1)) (λ_ _ _ _ _=>(qwn (Zj wzv (pv 1) (wx xp (pv 0) (pv 2)) (wb _)) (qwy (Zj qyd (pv 1) (wx xp (wx xg (pv 0) qu) (pv 2)) (wb _)))))) qv))))),?_⟩
 refine exI rfl ⟨a,exI rfl ⟨hA,rfl,_,_,rfl,_,_,rfl,rfl,?_⟩⟩
 refine exI rfl ⟨q,rfl,⟨_,hQ⟩,wwg (K:=K) (liesV p) (λx b z=>by cases x <;> cases z) hQ (by rw [List.length_map];omega) (λx H' R hx hs hR=>?_) λp2 H2 np s2 f2=>?_⟩
 ·obtain ⟨i,hi,rfl⟩:=aH.mp hx
  obtain ⟨i0,i1⟩:=hw i hi
  have m1:∀x:Int,IntMulOk i x:=λx=>IntMulOk.of_left (intBits_le_64 (by omega) (by omega))
  have m2:∀x:Int,IntMulOk (i+1) x:=λx=>IntMulOk.of_left (intBits_le_64 (by omega) (by omega))
  refine exI rfl (exI rfl (exI rfl (wy rfl rfl ⟨m1 _,wy rfl rfl (exI rfl ?_)⟩)))
  have fin:R (.bl (decide (i*p.2≤p.1∧p.1≤(i+1)*p.2))) H':=hR H' (Same.refl _)
  refine kh (λz=>?_) (λz=>?_)
  ·refine exI rfl (exI rfl (wy rfl rfl (exI rfl (wy rfl rfl ⟨m2 _,wy rfl rfl ?_⟩))))
   have e:decide (i*p.2≤p.1∧p.1≤(i+1)*p.2)=decide (p.1≤(i+1)*p.2):=by
    by_cases y:p.1≤(i+1)*p.2
    ·rw [decide_eq_true y,decide_eq_true ⟨z,y⟩]
    ·rw [decide_eq_false y,decide_eq_false (λw=>y w.2)]
   rw [e] at fin
   exact fin
  ·rw [decide_eq_false (λw=>z w.1)] at fin
   exact fin
 ·have e:(ws.map V.int).map (liesV p)=(ws.map (inK p)).map V.bl:=by
   rw [bz,bz]
   rfl
  rw [e] at f2
  refine ⟨p2,exI rfl ⟨SqL.of f2,?_⟩⟩
  have e2:(ws.map (inK p)).any id=qwv ws p:=by
   unfold qwv
   rw [List.any_map]
   rfl
  rw [e2]
  exact k _ s2
def qz7 (hs:List Int)(m:Nat):List (Int×Int):=((List.range hs.length).filter λc:Nat=>decide (itP hs ((0:Int)+c,1) m=((0:Int)+c,1))).map λc:Nat=>((0:Int)+c,(1:Int))
def qv7 (C:Addr):Sp:=λvs H Q _=>∃(r:Addr) (hs:List Int) (m:Int),vs=[.ref r,.int m]∧RoadAt C H r hs∧wz hs∧1≤m∧m≤12∧∀p ys H',H p=none→Same H H'→H' p=some (.lst ys)→Paired (PtR H') ys (qz7 hs m.toNat)→Q (.ref p) H'
theorem wj3 {H H':Hp}{v:V}{p:Int×Int}(h:PtR H v p)(k:∀b o,(∀xs,o≠HO.lst xs)→H b=some o→H' b=some o):PtR H' v p:=by
 obtain ⟨a,e,f⟩:=h
 exact ⟨a,e,k a _ (λxs z=>by cases z) f⟩
theorem low1 (x:Int):wt x 1=(x,1):=by
 have h1:=jq (t:=x) (b:=1) (by decide)
 have h2:=Wq (t:=x) (b:=1) (by decide)
 have h3:=j3 (t:=x) (b:=1) (by decide)
 have e2:(wt x 1).2=1:=by omega
 rw [e2] at h3
 exact hX (by omega) e2
theorem j6 {α β:Type}{R:α→β→Prop}{f:Nat→α}{g:Nat→β}:∀ {l:List Nat},(∀i∈l,R (f i) (g i))→Paired R (l.map f) (l.map g)
 |[],_=>.nil
 |i::l,h=>.cons (h i (.head _)) (j6 λj hj=>h j (.tail _ hj))
theorem xq3 {f:Addr}{fd:Ad}(F:Fun K "corners_back" "corners_back" s_corners_back f fd)(T:Txt K mg qm qx qd qy qh qc qk)(c_width:MCal P w K mg base qk "width" 1 (k8 qk))(c_walked:Cal P w K mg base "walked" 5 (qxc K qk qx qd qy)) :
  FnOk P w K mg base (CXE P w) 6 f fd ["road","many"] (qv7 qk):=by
 have sc:=qqv
 refine F.okX sc (λvs H Q E h=>by obtain ⟨r,hs,m,rfl,_⟩:=h;rfl) (λcdv A outer s H vs Q E hr h=>?_)
 obtain ⟨r,hs,m,rfl,hR,ok,m1,m2,k⟩:=h
 have o1:=ok.1
 have o2:=ok.2.1
 obtain ⟨dx,q0,h1,h2⟩:=id hR
 refine ⟨_,(qj (Q9 (i:=2) (M:=[]) sc.nd rfl (by walk_at "loc") rfl rfl (by walk_at "cap") (by walk_at "has") (by walk_at "cix") rfl (by decide +kernel) rfl (show List.Nodup (["corner"]:List Str) by decide +kernel) (xr rfl T.range_ (qw (wx xg (v9 (pv 0) T.cl c_width (hr.mono (by decide)) qg) qu) qv)) (λ_ _ _ _ _=>(yh (qw (pv 0) (qw qu qv)))))
   (qf (wu (qj4 (M:=[0,1]) rfl rfl (by walk_at "cap") (by walk_at "has") (by walk_at "cix") rfl (by decide +kernel) rfl (show List.Nodup (["corner","road","many"]:List Str) by decide +kernel) (zf (pv 2)) (λ_ _ _ _ _=>(wj (xx6 (K:=K) rfl hr.units) (xm (jk (K:=K) rfl) (ww c_walked (hr.mono (by decide)) rfl Wf (qw (pv 1) (qw (pv 0) (qw (pv 2) qv)))) (pv 2) (λ_ _=>rfl)) (pv 0) (wb _))) (λ_ _ _ _ _=>(pv 0)))))),?_⟩
 refine exI rfl ⟨r,dx,exI rfl ⟨h1,xj (by decide +kernel),r,hs,rfl,hR,wy rfl rfl (exI rfl ⟨(by omega),(by omega),?_⟩)⟩⟩
 rw [show ((hs.length:Int)-1+1).toNat=hs.length by omega]
 refine wqz (λi v H=>PtR H v ((0:Int)+i,1)) (λi v H1 H2 g st=>wj3 g st) (by omega) (λi H' R hi s' hR'=>?_) λp1 ys1 H1 n1 s1 f1 l1 g1=>?_
 ·exact exI rfl ⟨sz2,λp np=>hR' _ _ (Same.upd np) ⟨p,rfl,qb⟩⟩
 refine exI rfl ⟨p1,rfl,⟨_,SqL.of f1⟩,Wd (K:=K) (λi=>decide (itP hs ((0:Int)+i,1) m.toNat=((0:Int)+i,1))) (SqL.of f1) (by omega) (λi x H2 R hx s2 hR2=>?_) (λi x H2 R hx _ s2 hR2=>?_) λp3 H3 n3 s3 f3=>?_⟩
 ·obtain ⟨a,rfl,fa⟩:=g1 i x hx
  have hi:i<hs.length:=by rw [←l1];exact (ag.mp hx).1
  have fa2:=s2 _ _ fa
  have s02:=s1.trans s2
  have on:vq hs ((0:Int)+i) 1:=⟨by omega,by omega⟩
  refine ⟨_,rfl,_,rfl,_,rfl,r,a,hs,(0:Int)+i,1,m,rfl,hR.same s02,ok,SqT.of fa2,λ_=>⟨Sm.small (by omega) (by omega) (by decide),λ_=>⟨λ_ q H4 nq s4 P4=>?_,λz=>absurd ⟨by omega,λy e=>by cases e;omega⟩ z⟩,λz=>absurd on z⟩,λz=>absurd z (by decide)⟩
  rw [low1] at P4
  obtain ⟨vs4,f4,pr4⟩:=P4
  obtain ⟨v,ev,⟨b,rfl,fb⟩⟩:=Y0 (i:=m.toNat) (b:=itP hs ((0:Int)+i,1) m.toNat) pr4 (by rw [Jv,av (by rw [uj];exact Nat.le_refl _),uj];simp)
  have ea:atI vs4 m=some (.ref b):=by
   have:=vy ev
   rwa [cf (by omega)] at this
  refine exI rfl (exX rfl rfl (SqL.of f4) ea (exI rfl ?_))
  refine ⟨ptD _,ptD ((0:Int)+i,1),rd_pt (SqT.of fb),rd_pt (SqT.of (s4 _ _ fa2)),rfl,rfl,dep_pt,?_⟩
  refine exI rfl ?_
  show R (PyData.eqv (ptD (itP hs ((0:Int)+i,1) m.toNat)) (ptD ((0:Int)+i,1))) H4
  rw [eqv_pt]
  exact hR2 _ s4
 ·exact exI rfl (hR2 _ (Same.refl _))
 ·refine k p3 _ H3 (vh s1 n3) (s1.trans s3) f3 ?_
  unfold jd qz7
  rw [l1]
  refine j6 λi hi=>?_
  have hi':i<ys1.length:=by rw [l1];exact am.mp (aU.mp hi).1
  have e:ys1[i]?=some (ys1.getD i .non):=by rw [ae,aa hi'];rfl
  exact (g1 i _ e).same s3
end
section
variable {P:Ac}{w:World}{K:Aa}{mg:Str→Option Value}{base:Heap}{qm:Addr}{qx:Addr}{qd:Addr}{qy:Addr}{qh:Addr}{qc:Addr}{qk:Addr}
def two (p:Int×Int):List Int:=[p.1,p.2]
theorem xw0 {p q:Int×Int}(h:two p=two q):p=q:=by
 unfold two at h
 exact hX (g8 h).1 (g8 (g8 h).2).1
theorem zc {α:Type}{l:List α}{i:Nat}{x d:α}(h:l[i]?=some x):l.getD i d=x:=by rw [ae,h];rfl
def qv3 (hs:List Int)(m:Nat):List (Int×Int):=(((List.range (wc hs m).length).filter λi=>!decide ((qt hs ((wc hs m).getD i [])).1=1)).map λi=>zt (qt hs ((wc hs m).getD i [])))++qz7 hs m
theorem xqm {hs:List Int}(ok:wz hs){m:Nat}{p:Int×Int}:p∈qz7 hs m↔(p.2=1∧0≤p.1∧p.1≤(hs.length:Int)-1∧trT hs p.1 1 m=p.1):=by
 have o1:=ok.1
 have tl:∀t:Int,itP hs (t,1) m=(trT hs t 1 m,1):=λt=>by
  have:=wvx (hs:=hs) (t:=t) (b:=1) (by decide) m
  rw [low1,low1] at this
  exact this.symm
 unfold qz7
 rw [aH]
 constructor
 ·rintro ⟨c,hc,rfl⟩
  obtain ⟨h1,h2⟩:=aU.mp hc
  have h1:=am.mp h1
  have h2:=bh h2
  rw [tl] at h2
  refine ⟨rfl,?_,?_,(Prod.ext_iff.mp h2).1⟩
  ·show (0:Int)≤0+c
   omega
  ·show (0:Int)+c≤_
   omega
 ·rintro ⟨h1,h2,h3,h4⟩
  refine ⟨p.1.toNat,aU.mpr ⟨am.mpr (by omega),?_⟩,hX (by show (0:Int)+(p.1.toNat:Int)=p.1;omega) h1.symm⟩
  rw [show (0:Int)+(p.1.toNat:Int)=p.1 by omega,tl,h4]
  exact decide_eq_true rfl
theorem wz1 {hs r:List Int}{m:Nat}(h:r∈wc hs m):∃i,i<(wc hs m).length∧(wc hs m).getD i []=r:=by
 obtain ⟨i,hi,e⟩:=dG h
 exact ⟨i,hi,by rw [ae,aa hi,e];rfl⟩
theorem Z0 {hs:List Int}{m i:Nat}(h:i<(wc hs m).length):(wc hs m).getD i []∈wc hs m:=by
 rw [ae,aa h]
 exact bF h
theorem qj7 {hs:List Int}(ok:wz hs){m:Nat}{p:Int×Int}:p∈qv3 hs m↔qvc hs m p:=by
 unfold qv3 qvc
 rw [aP,xqm ok,aH]
 refine or_congr ?_ Iff.rfl
 constructor
 ·rintro ⟨i,hi,rfl⟩
  obtain ⟨h1,h2⟩:=aU.mp hi
  refine ⟨_,Z0 (am.mp h1),λz=>?_,rfl⟩
  rw [z] at h2
  cases h2
 ·rintro ⟨r,hr,h1,rfl⟩
  obtain ⟨i,hi,rfl⟩:=wz1 hr
  exact ⟨i,aU.mpr ⟨am.mpr hi,by rw [decide_eq_false h1];rfl⟩,rfl⟩
theorem wq7 {hs:List Int}(ok:wz hs){m:Nat}(m1:1≤m)(m2:m≤12){p:Int×Int}(h:qvc hs m p):OkP p:=by
 obtain ⟨hb,_,on⟩:=qq1 ok m1 m2 h
 have o2:=ok.2.1
 have key:p.2≤36520347436056577:=by
  rcases h with ⟨r,hr,z,rfl⟩|⟨e1,_⟩
  ·have c:=(x8 ok m1).mp hr
   have ab:=Ym ok (xs:=r) r.length
   rw [List.take_length,c.1] at ab
   have ab:(qt hs r).1.natAbs≤24 ^ 12:=bo ab (bO (by decide) m2)
   have p12:(24:Nat) ^ 12=36520347436056576:=by decide
   rw [p12] at ab
   unfold zt
   split
   ·have:=Wq (t:=-(qt hs r).2) (b:=(qt hs r).1-1) (by omega)
    omega
   ·have:=Wq (t:=(qt hs r).2) (b:=1-(qt hs r).1) (by omega)
    omega
  ·omega
 have top:p.1≤24*p.2:=dC on.2 (aM (by omega) (by omega))
 have t0:=on.1
 exact ⟨hb,Sm.small (by omega) (by omega) (by decide),Sm.small (by omega) (by omega) (by decide)⟩
theorem wx1 {hs:List Int}(ok:wz hs){m:Nat}(m1:1≤m){i:Nat}(h:i<(wc hs m).length):0≤((wc hs m).getD i []).getD 0 0∧((wc hs m).getD i []).getD 0 0<(hs.length:Int)-1:=by
 have c:=(x8 ok m1).mp (Z0 h)
 refine c.2.1 _ ?_
 have l:0<((wc hs m).getD i []).length:=by rw [c.1];omega
 generalize (wc hs m).getD i []=r at l
 rw [ae,aa l]
 exact bF l
structure BackOf (hs:List Int)(m:Nat)(pts:List (Int×Int))(ws:List Int):Prop where
 wup:ws.Pairwise (·<·)
 wmem:∀v,v∈ws↔wur hs m v
 pup:pts.Pairwise λp q=>p.1*q.2<q.1*p.2
 pmem:∀p,p∈pts↔(qvc hs m p∧qwv ws p=false)
 wfew:ws.length≤24
 pfew:pts.length≤1025
def wq3 (C TT:Addr):Sp:=λvs H Q _=>∃(r:Addr) (hs:List Int) (m:Int),vs=[.ref r,.int m]∧RoadAt C H r hs∧wz hs∧1≤m∧m≤12∧crS hs m.toNat≤1000∧Zx TT qwk lamQ H ∧
 ∀(a lp lw:Addr) (ys:List V) (pts:List (Int×Int)) (ws:List Int) (H':Hp),Kp H H'→Zx TT qwk lamQ H'→H' a=some (.tup [.ref lp,.ref lw])→H' lp=some (.lst ys)→Paired (PtR H') ys pts→H' lw=some (.lst (ws.map V.int))→BackOf hs m.toNat pts ws→Q (.ref a) H'
theorem qj5 {H:Hp}:∀ {ys:List V} {ps:List (Int×Int)},Paired (PtR H) ys ps→Tups (ps.map two) ys H
 |_,_,.nil=>.nil
 |_,_,.cons ⟨a,e,f⟩ t=>.cons ⟨a,e,f⟩ (qj5 t)
theorem xxd {H:Hp}{ps:List (Int×Int)}{ys:List V}{L:List (List Int)}(h:Tups L ys H)(e:L=ps.map two):Paired (PtR H) ys ps:=by
 subst e
 induction ps generalizing ys with
 |nil=>cases h;exact .nil
 |cons p ps ih =>
  cases h with
  |cons r t=>exact .cons r (ih t)
theorem qx1 {ps:List (Int×Int)}:∀ {L:List (List Int)},(∀x∈L,x∈ps.map two)→∃qs:List (Int×Int),L=qs.map two∧∀q∈qs,q∈ps
 |[],_=>⟨[],rfl,λq h=>by cases h⟩
 |x::L,h=>by
  obtain ⟨p,hp,e⟩:=aH.mp (h x (.head _))
  obtain ⟨qs,e2,h2⟩:=qx1 (L:=L) λy hy=>h y (.tail _ hy)
  refine ⟨p::qs,by rw [e2,←e];rfl,λq hq=>?_⟩
  rcases ay.mp hq with rfl|hq
  ·exact hp
  ·exact h2 q hq
theorem wk2 {l:List Int}(h:l.Pairwise (·≤·))(nd:l.Nodup):l.Pairwise (·<·):=by
 refine List.Pairwise.imp₂ (λa b h1 h2=>?_) h nd
 have:a≠b:=h2
 omega
theorem xx2 {f:Addr}{fd:Ad}{TT:Addr}(F:Fun K "back" "back" s_back f fd)(T:Txt K mg qm qx qd qy qh qc qk)(c_rows:Cal P w K mg base "rows" 7 (qkv qk qy qh))(c_fixed_point:Cal P w K mg base "fixed_point" 5 (qqb K qk))(c_corners_back:Cal P w K mg base "corners_back" 6 (qv7 qk))(c_lies_in:Cal P w K mg base "lies_in" 1 (wwd K))(c_ordered:Cal P w K mg base "ordered" 6 (xqv K TT qx)) :
  FnOk P w K mg base (CXE P w) 8 f fd ["road","many"] (wq3 qk TT):=by
 have sc:=xzx
 refine F.okX sc (λvs H Q E h=>by obtain ⟨r,hs,m,rfl,_⟩:=h;rfl) (λcdv A outer s H vs Q E hr h=>?_)
 obtain ⟨r,hs,m,rfl,hR,ok,m1,m2,few,hT,k⟩:=h
 have o1:=ok.1
 have o2:=ok.2.1
 have big:(1000000:Nat)<sizeLine:=by decide
 have n1:1≤m.toNat:=by omega
 have n2:m.toNat≤12:=by omega
 have rl:=Yr ok n1
 have clr:∀x∈wc hs m.toNat,ClR hs m.toNat x:=λx hx=>(x8 ok n1).mp hx
 refine ⟨_,(qj (wg (i:=2) sc.nd rfl (by walk_at "loc") (ww c_rows (hr.mono (by decide)) rfl qg (qw (pv 0) (qw (pv 1) qv))))
   (qj (Q9 (i:=3) (M:=[0]) sc.nd rfl (by walk_at "loc") rfl rfl (by walk_at "cap") (by walk_at "has") (by walk_at "cix") rfl (by decide +kernel) rfl (show List.Nodup (["row","road"]:List Str) by decide +kernel) (zf (pv 2)) (λ_ _ _ _ _=>(ww c_fixed_point (hr.mono (by decide)) rfl Wf (qw (pv 1) (qw (pv 0) qv)))))
   (qj (wg (i:=4) sc.nd rfl (by walk_at "loc") (q9 (qzs rfl) rfl T.sorted_ eL (qw (wyf (x := "row") (y2 := "point") (M:=[]) rfl rfl (by walk_at "cap") (by walk_at "has") (by walk_at "cix") rfl (by decide +kernel) (λ_ _ _ _ _=>xx4 (K:=K) (n:=2) rfl rfl (xv (wn (i:=0) (show List.Nodup (["row","point"]:List Str) by decide +kernel) rfl (by walk_at "loc")) (xv (wn (i:=1) (show List.Nodup (["row","point"]:List Str) by decide +kernel) rfl (by walk_at "loc")) vf))) (pi_zip rfl T.zip_ (qw (pv 2) (qw (pv 3) qv))) (λ_ _ _ _ _=>(wj wj6 (pv 1) qwu (wb _))) (λ_ _ _ _ _=>(xm (Qn (K:=K) rfl) (pv 0) qu (λ_ _=>rfl))) (λ_ _ _ _ _=>(wu9 (P:=P) (w:=w) rfl rfl))) qv)))
   (qj (wg (i:=5) sc.nd rfl (by walk_at "loc") (wx op_cat (qj4 (M:=[]) rfl rfl (by walk_at "cap") (by walk_at "has") (by walk_at "cix") rfl (by decide +kernel) rfl (show List.Nodup (["point"]:List Str) by decide +kernel) (zf (pv 3)) (λ_ _ _ _ _=>(wj wzg (pv 0) qwu (wb _))) (λ_ _ _ _ _=>(pv 0))) (ww c_corners_back (hr.mono (by decide)) rfl qg (qw (pv 0) (qw (pv 1) qv)))))
   (qj (wg (i:=6) sc.nd rfl (by walk_at "loc") (ww c_ordered (hr.mono (by decide)) rfl qg (qw (q9 (qz4 rfl) rfl T.sorted_ eL (qw (xzw (M:=[4]) rfl rfl (by walk_at "cap") (by walk_at "has") (by walk_at "cix") rfl (by decide +kernel) rfl (show List.Nodup (["point","wholes"]:List Str) by decide +kernel) (zf (pv 5)) (λ_ _ _ _ _=>(ut (uc (ww c_lies_in (hr.mono (by decide)) rfl Wf (qw (pv 0) (qw (pv 1) qv)))))) (λ_ _ _ _ _=>(pv 0)) (λ_ _ _ _ _=>(wys (P:=P) (w:=w) rfl rfl hr.units))) qv)) qv)))
   (qf (wu (yh (qw (pv 6) (qw (pv 4) qv)))))))))),?_⟩
 refine exI rfl (exI rfl ⟨r,hs,m,rfl,hR,ok,m1,m2,few,λp1 ys1 H1 np1 s1 f1 t1=>?_⟩)
 have l1:=t1.len
 have at1:∀i x,ys1[i]?=some x→∃a,x=.ref a∧i<(wc hs m.toNat).length∧H1 a=some (.tup (((wc hs m.toNat).getD i []).map V.int)):=λi x hx=>by
  obtain ⟨a,xs,e1,e2,e3⟩:=t1.get hx
  exact ⟨a,e1,(ag.mp e2).1,by rw [ae,e2];exact e3⟩
 refine exI rfl ⟨p1,rfl,⟨_,SqL.of f1⟩,wwp (K:=K) (λi v H=>FixR H (qt hs ((wc hs m.toNat).getD i [])) v) (λi v H H' g st=>?_) (SqL.of f1) (by omega) (λi x H2 R hx s2 hR2=>?_) λp3 fs H3 np3 s3 f3 l3 g3=>?_⟩
 ·rcases g with g|⟨g1,q,g2,g3⟩
  ·exact .inl g
  ·exact .inr ⟨g1,q,g2,st _ _ (λxs z=>by cases z) g3⟩
 ·obtain ⟨a,rfl,hi,fa⟩:=at1 i x hx
  have c:=clr _ (Z0 hi)
  exact ⟨_,rfl,_,rfl,r,a,hs,_,rfl,hR.same (s1.trans s2),ok,SqT.of (s2 _ _ fa),c.2.1,by rw [c.1];omega,λv H4 s4 g4=>hR2 v H4 s4 g4⟩
 have s13:=s1.trans s3
 have fs_at:∀i,i<(wc hs m.toNat).length→FixR H3 (qt hs ((wc hs m.toNat).getD i [])) (fs.getD i .non):=λi hi=>by
  have e:fs[i]?=some fs[i]:=aa (by omega)
  have:=g3 i _ e
  rw [zc e]
  exact this
 have fs_non:∀i,i<(wc hs m.toNat).length→decide (fs.getD i .non=.non)=decide ((qt hs ((wc hs m.toNat).getD i [])).1=1):=λi hi=>by
  rcases fs_at i hi with ⟨g1,g2⟩|⟨g1,q,g2,_⟩
  ·rw [g2,decide_eq_true g1]
   exact decide_eq_true rfl
  ·rw [g2,decide_eq_false g1]
   exact decide_eq_false (λz=>by cases z)
 refine exI rfl (exI rfl ⟨p1,p3,ys1,fs,rfl,SqL.of (s3 _ _ f1),SqL.of f3,?_⟩)
 refine wq1 (K:=K) (wc hs m.toNat).length (λi=>(ys1.getD i .non,fs.getD i .non)) (λi=>decide ((qt hs ((wc hs m.toNat).getD i [])).1=1)) (λi=>((wc hs m.toNat).getD i []).getD 0 0) 24 (λi hi=>?_) (by omega) (λi H' hi sH=>?_) (λH' sH=>?_) (λi H2 v H4 hi sH yl=>?_) (λi H' R hi sH hR'=>?_) (λi H' R hi hc sH hR'=>?_) λp5 ps H5 ns np5 s5 f5 I5 nd5 mem5=>?_
 ·have:=wx1 ok n1 hi
  omega
 ·exact ⟨SqL.of (sH _ _ (s3 _ _ f1)),SqL.of (sH _ _ f3),by omega,by omega⟩
 ·exact ⟨SqL.of (sH _ _ (s3 _ _ f1)),SqL.of (sH _ _ f3),.inl (by omega)⟩
 ·obtain ⟨q,x,y,nq,rfl,ex,ey,rfl⟩:=yl
  refine ⟨Same.upd nq,q,rfl,?_⟩
  have e1:ys1.getD i .non=x:=by rw [ae,ex];rfl
  have e2:fs.getD i .non=y:=by rw [ae,ey];rfl
  show SqT K _ q [ys1.getD i .non,fs.getD i .non]
  rw [e1,e2]
  exact SqT.of qb
 ·refine exI rfl ⟨rfl,_,rfl,?_⟩
  have:=hR' H' (Same.refl _)
  rw [←fs_non i hi] at this
  exact this
 ·have ex:ys1[i]?=some (ys1.getD i .non):=by rw [ae,aa (by omega)];rfl
  obtain ⟨a,ea,_,fa⟩:=at1 i _ ex
  have c:=clr _ (Z0 hi)
  have z0:0<((wc hs m.toNat).getD i []).length:=by rw [c.1];omega
  have a0:∀r:List Int,0<r.length→atI (r.map V.int) 0=some (.int (r.getD 0 0)):=λr h=>by
   have:=vy (xs:=r.map V.int) (j:=0) (v:=V.int (r.getD 0 0)) (by rw [ao,aa h,zc (aa h)];rfl)
   exact this
  refine exI rfl ⟨_,_,_,_,ea▸rfl,rfl,SqT.of (sH _ _ (s3 _ _ fa)),a0 _ z0,hR' _ (Same.refl _)⟩
 have i5:∀v∈ns,0≤v∧v<24:=λv hv=>by
  obtain ⟨i,hi,_,rfl⟩:=(mem5 v).mp hv
  have:=wx1 ok n1 hi
  omega
 have ln:ns.length≤24:=by
  have:=qxp (ns.map Int.toNat) (List.range 24) ?_ λv hv=>?_
  ·rwa [List.length_map,List.length_range] at this
  ·refine bu.mpr (aY (λ{x y} hx hy hxy z=>?_) nd5)
   have a1:=i5 x hx
   have a2:=i5 y hy
   exact hxy (by omega)
  ·obtain ⟨x,hx,rfl⟩:=aH.mp hv
   have a1:=i5 x hx
   exact am.mpr (by omega)
 refine ⟨p5,ps,ns,rfl,f5,I5,by omega,λp6 ws np6 pm6 up6=>?_⟩
 have s6:Same H5 (upd H5 p6 (.lst (ws.map V.int))):=Same.upd np6
 have f6:upd H5 p6 (.lst (ws.map V.int)) p6=some (.lst (ws.map V.int)):=qb
 generalize upd H5 p6 (.lst (ws.map V.int))=H6 at s6 f6
 have wmem:∀v,v∈ws↔wur hs m.toNat v:=λv=>by
  rw [pm6.mem_iff,mem5 v]
  constructor
  ·rintro ⟨i,hi,h1,h2⟩
   exact ⟨_,Z0 hi,bh h1,h2⟩
  ·rintro ⟨r,hr,h1,h2⟩
   obtain ⟨i,hi,rfl⟩:=wz1 hr
   exact ⟨i,hi,decide_eq_true h1,h2⟩
 have wup:=wk2 up6 (pm6.nodup_iff.mpr nd5)
 have wfew:ws.length≤24:=by rw [pm6.length_eq];exact ln
 have win:∀k∈ws,0≤k∧k<24:=λv hv=>i5 v (pm6.mem_iff.mp hv)
 have s36:=s5.trans s6
 refine exI rfl ⟨p3,rfl,⟨_,SqL.of (s36 _ _ f3)⟩,Wd (K:=K) (λi=>!decide (fs.getD i .non=.non)) (SqL.of (s36 _ _ f3)) (by omega) (λi x H2 R hx s2 hR2=>?_) (λi x H2 R hx _ s2 hR2=>?_) λp7 H7 np7 s7 f7=>?_⟩
 ·have e:fs.getD i .non=x:=by rw [ae,hx];rfl
  refine exI rfl ⟨rfl,_,rfl,?_⟩
  have:=hR2 H2 (Same.refl _)
  rw [e] at this
  exact this
 ·exact exI rfl (hR2 _ (Same.refl _))
 have s17:=s13.trans (s36.trans s7)
 refine exI rfl (exI rfl ⟨r,hs,m,rfl,hR.same s17,ok,m1,m2,λp8 ys8 H8 np8 s8 f8 P8=>?_⟩)
 have l8:ys8.length≤25:=by
  rw [cr P8]
  unfold qz7
  rw [List.length_map]
  have:=dZ (λc:Nat=>decide (itP hs ((0:Int)+c,1) m.toNat=((0:Int)+c,1))) (List.range hs.length)
  rw [List.length_range] at this
  omega
 have l7:(jd (λi=>!decide (fs.getD i .non=.non)) fs fs.length).length≤fs.length:=by
  unfold jd
  rw [List.length_map]
  have:=dZ (λi=>!decide (fs.getD i .non=.non)) (List.range fs.length)
  rwa [List.length_range] at this
 refine ⟨p7,p8,_,_,rfl,rfl,s8 _ _ f7,f8,by omega,λp9 np9=>?_⟩
 have P7:Paired (PtR H8) (jd (λi=>!decide (fs.getD i .non=.non)) fs fs.length) (((List.range (wc hs m.toNat).length).filter λi=>!decide ((qt hs ((wc hs m.toNat).getD i [])).1=1)).map λi=>zt (qt hs ((wc hs m.toNat).getD i []))):=by
  unfold jd
  have e:(List.range fs.length).filter (λi=>!decide (fs.getD i .non=.non))=(List.range (wc hs m.toNat).length).filter (λi=>!decide ((qt hs ((wc hs m.toNat).getD i [])).1=1)):=by
   rw [show fs.length=(wc hs m.toNat).length by omega]
   refine List.filter_congr λi hi=>?_
   rw [fs_non i (am.mp hi)]
  rw [e]
  refine j6 λi hi=>?_
  obtain ⟨h1,h2⟩:=aU.mp hi
  have h1:=am.mp h1
  rcases fs_at i h1 with ⟨g1,g2⟩|⟨g1,q,g2,g3⟩
  ·rw [g1] at h2
   cases h2
  ·exact ⟨q,g2,s8 _ _ (s7 _ _ (s36 _ _ g3))⟩
 have P9:Paired (PtR H8) (jd (λi=>!decide (fs.getD i .non=.non)) fs fs.length++ys8) (qv3 hs m.toNat):=Paired.app P7 P8
 generalize jd (λi=>!decide (fs.getD i .non=.non)) fs fs.length=us7 at P9 l7
 have s9:Same H8 (upd H8 p9 (.lst (us7++ys8))):=Same.upd np9
 have f9:upd H8 p9 (.lst (us7++ys8)) p9=some (.lst (us7++ys8)):=qb
 have T9:=(qj5 P9).same s9
 have l9:=cr P9
 generalize upd H8 p9 (.lst (us7++ys8))=H9 at s9 f9 T9
 rw [ai] at l9
 have f69:H9 p6=some (.lst (ws.map V.int)):=s9 _ _ (s8 _ _ (s7 _ _ f6))
 refine exI rfl ⟨p9,rfl,⟨_,SqL.of f9⟩,?_⟩
 refine wkz (K:=K) ((qv3 hs m.toNat).map two) (λxs=>!qwv ws (xs.getD 0 0,xs.getD 1 0)) (SqL.of f9) T9 (by rw [List.length_map];omega) (λxs a H' R hx fa sH hR'=>?_) (λa H' R hR'=>(exI rfl hR')) λp10 ps10 H10 L10 np10 s10 f10 T10 nd10 mem10 len10=>?_
 ·obtain ⟨q,hq,rfl⟩:=aH.mp hx
  refine ⟨_,rfl,_,rfl,a,p6,q,ws,rfl,SqT.of fa,SqL.of (sH _ _ f69),by omega,win,λH'' s''=>?_⟩
  exact exI rfl (hR' H'' s'')
 rw [List.length_map] at len10
 obtain ⟨qs,eq,hq⟩:=qx1 (L:=L10) (ps:=qv3 hs m.toNat) λx hx=>((mem10 x).mp hx).1
 refine ⟨p10,ps10,L10,2,rfl,f10,T10,nd10,by omega,by omega,λr hr=>?_,λp11 ys11 L11 np11 pm11 up11 t11=>?_⟩
 ·obtain ⟨q,_,rfl⟩:=aH.mp ((mem10 r).mp hr).1
  rfl
 obtain ⟨qs,eq,hq⟩:=qx1 (L:=L11) (ps:=qv3 hs m.toNat) λx hx=>((mem10 x).mp (pm11.mem_iff.mp hx)).1
 have s11:Same H10 (upd H10 p11 (.lst ys11)):=Same.upd np11
 have f11:upd H10 p11 (.lst ys11) p11=some (.lst ys11):=qb
 have P11:Paired (PtR (upd H10 p11 (.lst ys11))) ys11 qs:=xxd (t11.same s11) eq
 generalize upd H10 p11 (.lst ys11)=H11 at s11 f11 P11
 have s011:=s17.trans (s8.trans (s9.trans (s10.trans s11)))
 have l11:=cr P11
 have lq:qs.length=L10.length:=by rw [←pm11.length_eq,eq,List.length_map]
 have ndq:qs.Nodup:=by
  have:=pm11.nodup_iff.mpr nd10
  rw [eq] at this
  exact List.Pairwise.imp (λh z=>h (by rw [z])) (bu.mp this)
 have okq:∀q∈qs,qvc hs m.toNat q:=λq h=>(qj7 ok).mp (hq q h)
 have gd:∀i,i<qs.length→qs.getD i (0,1)∈qs:=λi hi=>by
  rw [ae,aa hi]
  exact bF hi
 have nw:∀i j,i<j→j<ys11.length→(qs.getD i (0,1)).1*(qs.getD j (0,1)).2≠(qs.getD j (0,1)).1*(qs.getD i (0,1)).2:=λi j hij hj z=>by
  obtain ⟨b1,g1,_⟩:=qq1 ok n1 n2 (okq _ (gd i (by omega)))
  obtain ⟨b2,g2,_⟩:=qq1 ok n1 n2 (okq _ (gd j (by omega)))
  have t1:=(wuz b1 b2).mp z
  rw [qw0 b1 g1,qw0 b2 g2] at t1
  refine (bg.mp ndq) i j (by omega) (by omega) hij ?_
  have e1:=zc (d:=((0:Int),(1:Int))) (aa (show i<qs.length by omega))
  have e2:=zc (d:=((0:Int),(1:Int))) (aa (show j<qs.length by omega))
  rw [←e1,←e2]
  exact t1
 refine ⟨p11,ys11,λi=>qs.getD i (0,1),rfl,SqL.of f11,λi v e=>?_,Jq hT s011,λi hi=>?_,nw,by omega,λl il H12 k12 T12 nl pm12 up12 f12=>?_⟩
 ·obtain ⟨q,e1,b,e2,e3⟩:=jy P11 e
  show ∃a,v=.ref a∧H11 a=some (.tup [.int (qs.getD i (0,1)).1,.int (qs.getD i (0,1)).2])
  rw [zc e1]
  exact ⟨b,e2,e3⟩
 ·exact wq7 ok n1 n2 (okq _ (gd i (by omega)))
 have k012:Kp H H12:=(Kp.of s011).trans k12
 refine exI rfl (exI rfl ⟨sz2,λa na=>?_⟩)
 have s12:Same H12 (upd H12 a (.tup [.ref l,.ref p6])):=Same.upd na
 have f13:upd H12 a (.tup [.ref l,.ref p6]) a=some (.tup [.ref l,.ref p6]):=qb
 generalize upd H12 a (.tup [.ref l,.ref p6])=H13 at s12 f13
 have P12:Paired (PtR H13) (il.map λi=>ys11.getD i .non) (il.map λi=>qs.getD i (0,1)):=j6 λi hi=>by
  have hi:i<ys11.length:=am.mp (pm12.mem_iff.mp hi)
  have e:ys11[i]?=some ys11[i]:=aa hi
  obtain ⟨q,e1,b,e2,e3⟩:=jy P11 e
  rw [zc e,zc e1]
  exact ⟨b,e2,s12 _ _ (k12.tup e3)⟩
 have mq:∀q,q∈(il.map λi=>qs.getD i (0,1))↔q∈qs:=λq=>by
  rw [aH]
  constructor
  ·rintro ⟨i,hi,rfl⟩
   have hi:i<ys11.length:=am.mp (pm12.mem_iff.mp hi)
   exact gd i (by omega)
  ·intro h
   obtain ⟨i,hi,e⟩:=dG h
   exact ⟨i,pm12.mem_iff.mpr (am.mpr (by omega)),by rw [zc (aa hi)];exact e⟩
 have lil:il.length≤1025:=by
  rw [pm12.length_eq,List.length_range]
  omega
 refine k a l p6 _ _ ws H13 (k012.trans (Kp.of s12)) (Jq T12 s12) f13 (s12 _ _ f12) P12 (s12 _ _ (k12.lst (s11 _ _ (s10 _ _ f69)))) ⟨wup,wmem,?_,λp=>?_,wfew,by rw [List.length_map];exact lil⟩
 ·refine bu.mpr (up12.imp_of_mem λ{i j} hi hj h=>?_)
  have hi:i<ys11.length:=am.mp (pm12.mem_iff.mp hi)
  have hj:j<ys11.length:=am.mp (pm12.mem_iff.mp hj)
  rcases h with h|⟨h,hij⟩
  ·exact h
  ·exact absurd h (nw i j hij hj)
 ·rw [mq p]
  constructor
  ·intro h
   refine ⟨okq p h,?_⟩
   have:two p∈L11:=by rw [eq];exact aH.mpr ⟨p,h,rfl⟩
   have:=((mem10 _).mp (pm11.mem_iff.mp this)).2
   exact gU _▸this
  ·rintro ⟨h1,h2⟩
   have:two p∈L11:=pm11.mem_iff.mpr ((mem10 _).mpr ⟨aH.mpr ⟨p,(qj7 ok).mpr h1,rfl⟩,by show (!qwv ws p)=true;rw [h2];rfl⟩)
   rw [eq] at this
   obtain ⟨q,hq,e⟩:=aH.mp this
   rw [←xw0 e]
   exact hq
end
section
variable {P:Ac}{w:World}{K:Aa}{mg:Str→Option Value}{base:Heap}{qm:Addr}{qx:Addr}{qd:Addr}{qy:Addr}{qh:Addr}{qc:Addr}{qk:Addr}
def qw6 (K:Aa):Sp:=λvs H Q _=>∃(q:Addr) (ps:List (Int×Int)),vs=[.ref q]∧PtsAt H q ps∧ps.length≤2000∧(∀p∈ps,1≤p.2∧gOf p.1 p.2=1)∧∀H',Same H H'→Q (.bl true) H'
theorem wvp {α:Type}(ns:List α):(ns.map λ_=>true).all id=true:=by
 induction ns with
 |nil=>rfl
 |cons a r ih=>rw [aF,gY,ih];rfl
theorem wjj {f:Addr}{fd:Ad}(F:Fun K "_law_points" "_law_points" s__law_points f fd)(T:Txt K mg qm qx qd qy qh qc qk)(c__law_point:Cal P w K mg base "_law_point" 2 (qkz K)):FnOk P w K mg base (CXE P w) 3 f fd ["_law_found"] (qw6 K):=by
 have sc:=qxf
 refine F.okX sc (λvs H Q E h=>by obtain ⟨q,ps,rfl,_⟩:=h;rfl) (λcdv A outer s H vs Q E hr h=>?_)
 obtain ⟨q,ps,rfl,⟨vs,hq,pr⟩,hn,hg,k⟩:=h
 have hlen:=pr.length
 refine ⟨_,(qf (wu (qwn (q9 vj rfl T.isinstance_ bS (qw (pv 0) (qw (Qp (v:=V.ty "list") rfl T.list_ cA rfl) qv))) (qwy (q9 (Q5 rfl) rfl T.all_ qy7 (qw (zp (M:=[]) rfl rfl (by walk_at "cap") (by walk_at "has") (by walk_at "cix") rfl (by decide +kernel) rfl (show List.Nodup (["_law_point_here"]:List Str) by decide +kernel) (zf (pv 0)) (λ_ _ _ _ _=>(ww c__law_point (hr.mono (by decide)) rfl Wf (qw (pv 0) qv)))) qv)))))),?_⟩
 refine exI rfl ⟨_,_,_,_,rfl,TyOf.lst hq,rfl,_,rfl,?_⟩
 refine yu ?_
 refine exI rfl ⟨q,rfl,⟨_,SqL.of hq⟩,?_⟩
 refine Yh (K:=K) (M:=[]) (a:=q) (xs:=vs) (λ_=>V.bl true) (SqL.of hq) (by omega) (λx H' R hx hs hR=>?_) λp np=>?_
 ·obtain ⟨pt,hm,⟨a,rfl,fa⟩⟩:=qyv pr hx
  exact exI rfl ⟨a,pt.1,pt.2,rfl,hs _ _ fa,(hg pt hm).1,(hg pt hm).2,hR⟩
 ·have e:vs.map (λ_=>V.bl true)=(vs.map λ_=>true).map V.bl:=by
   rw [bz]
   rfl
  rw [e]
  refine ⟨p,vs.map λ_=>true,rfl,SqL.new,?_⟩
  rw [wvp]
  exact k _ (Same.upd np)
theorem RoadAt.kp {C:Addr}{H H':Hp}{r:Addr}{ns:List Int}(h:RoadAt C H r ns)(k:Kp H H'):RoadAt C H' r ns:=by
 obtain ⟨dx,q,h1,h2⟩:=h
 exact ⟨dx,q,k _ _ (λps z=>by cases z) h1,k.lst h2⟩
def W0 (K:Aa)(C CR:Addr):Sp:=λvs H Q E=>∃(r a:Addr) (hs xs:List Int),vs=[.ref r,.ref a]∧RoadAt C H r hs∧wz hs∧SqT K H a (xs.map V.int)∧xs.length≤1000 ∧
 (vz hs xs→∀H',Same H H'→Q .non H')∧(¬ vz hs xs→∀H',Same H H'→E (.ref CR) none H')
theorem qyq {f:Addr}{fd:Ad}(F:Fun K "check_row" "check_row" s_check_row f fd)(T:Txt K mg qm qx qd qy qh qc qk)(c_covered:Cal P w K mg base "covered" 4 (Qr qk qc)):FnOk P w K mg base (CXE P w) 5 f fd ["road","row"] (W0 K qk qc):=by
 have sc:=qkx
 refine F.okX sc (λvs H Q E h=>by obtain ⟨r,a,hs,xs,rfl,_⟩:=h;rfl) (λcdv A outer s H vs Q E hr h=>?_)
 obtain ⟨r,a,hs,xs,rfl,hR,ok,hT,hl,kq,kx⟩:=h
 obtain ⟨tm,g_LONGEST_ROW⟩:=T.g_LONGEST_ROW
 have big:(1000000:Nat)<sizeLine:=by decide
 have lx:(xs.map V.int).length=xs.length:=List.length_map _
 refine ⟨_,(qj (zy (PW.pt (yw (wj Q2 (q9 wm rfl T.len_ aZ (qw (pv 1) qv)) qu (wb _)) (jw (wj u7 (q9 wm rfl T.len_ aZ (qw (pv 1) qv)) (Zw (v:=V.int 12) rfl g_LONGEST_ROW ⟨_,rfl⟩) (wb _))))) (qf (ku rfl T.x_BadRow zh rfl T.g_BadRow (qw u9 qv))) xy)
   (qf (jz ba rfl (xxn rfl T.zip_ (qw (pv 1) (qw (pe_rot (wx wzb (qxw wxt (pv 1) (qqc qu) wvk) (qxw wxt (pv 1) wvk (qqc qu)))) qv))) (jb rfl (xv (wn (i:=2) sc.nd rfl (by walk_at "loc")) (xv (wn (i:=3) sc.nd rfl (by walk_at "loc")) vf))) (qf (zy (wj qk8 (pv 3) (ww c_covered (hr.mono (by decide)) rfl qg (qw (pv 0) (qw (pv 2) qv))) rfl) (qf (ku rfl T.x_BadRow zh rfl T.g_BadRow (qw u9 qv))) xy))))),?_⟩
 refine exI rfl ⟨_,_,rfl,.inr hT,wy rfl rfl (exI rfl (kh (λq1=>?_) (λq1=>?_)))⟩
 ·refine yu ?_
  exact ⟨sz1,kx (λz=>by have:=z.1.1;rw [lx] at q1;omega) _ (Same.refl _)⟩
 refine exI rfl ⟨_,_,rfl,.inr hT,wy rfl rfl (exI rfl (kh (λq2=>?_) (λq2=>?_)))⟩
 ·exact ⟨sz1,kx (λz=>by have:=z.1.2;rw [lx] at q2;omega) _ (Same.refl _)⟩
 rw [lx] at q1 q2
 have l1:1≤xs.length:=by omega
 refine ⟨_,rfl,_,rfl,a,_,rfl,rfl,hT,by rw [lx];exact l1,by rw [lx];exact hl,λb H1 s1 hB=>?_⟩
 have hB:SqT K H1 b ((Zs xs).map V.int):=by
  unfold Zs
  rw [List.map_append,List.map_drop,List.map_take]
  exact hB
 have lr:((Zs xs).map V.int).length=xs.length:=by rw [List.length_map,wvf]
 refine ⟨a,b,_,_,rfl,s1.sqt hT,hB,wyv (λi σ H'=>Same H1 H'∧(∃z2 z3,σ=[some (.ref r),some (.ref a),z2,z3])∧∀(j:Nat) (x y:Int),j<i→xs[j]?=some x→(Zs xs)[j]?=some y→wxv hs x y) ⟨Same.refl _,⟨_,_,rfl⟩,λj x y h=>absurd h (dk _)⟩ (λi σ H' h=>⟨(s1.trans h.1).sqt hT,h.1.sqt hB⟩) ?_ ?_⟩
 ·rintro i x y q σ H2 ex ey nq ⟨s2,⟨z2,z3,rfl⟩,hj⟩
  rw [ao] at ex ey
  obtain ⟨u,eu,rfl⟩:=fu.mp ex
  obtain ⟨v,ev,rfl⟩:=fu.mp ey
  have s3:=Same.upd (o:=.tup [.int u,.int v]) nq
  have s03:=s1.trans (s2.trans s3)
  refine ⟨q,exI rfl ⟨SqT.new,rfl,_,_,rfl,_,_,rfl,rfl,?_⟩⟩
  refine ⟨_,rfl,_,rfl,_,rfl,r,hs,u,rfl,hR.same s03,ok,λu0 u1 p4 H4 n4 s4 f4=>?_,λbad=>kx (λz=>?_) _ s03⟩
  ·refine ⟨p4,exI rfl ⟨.inl (SqL.of f4),rfl,wjp _,_,rfl,?_⟩⟩
   show if (!inV (.int v) ((vc hs u).map V.int))=true then _ else _
   rw [in_cov]
   by_cases c:loH hs u≤v∧v+1≤hiH hs u
   ·rw [decide_eq_true c]
    refine js ?_
    refine ⟨(s2.trans s3).trans s4,⟨_,_,rfl⟩,λj x y hjl e1 e2=>?_⟩
    rcases aV j i with z|z
    ·exact hj j x y z e1 e2
    ·have:j=i:=by omega
     subst this
     rw [eu] at e1
     rw [ev] at e2
     cases e1
     cases e2
     exact ⟨⟨u0,u1⟩,c⟩
   ·rw [decide_eq_false c]
    refine yu ?_
    exact ⟨sz1,kx (λz=>c (z.2 i u v eu ev).2) _ (s03.trans s4)⟩
  ·have:=(z.2 i u v eu ev).1
   omega
 ·rintro σ H2 ⟨s2,⟨z2,z3,rfl⟩,hj⟩
  refine kq ⟨⟨l1,by omega⟩,λi x y e1 e2=>hj i x y ?_ e1 e2⟩ _ (s1.trans s2)
  have:=(ag.mp e1).1
  rw [lx,lr]
  omega
def Z9 (K:Aa)(C CR:Addr):Sp:=λvs H Q E=>∃(r a:Addr) (hs xs:List Int),vs=[.ref r,.ref a]∧RoadAt C H r hs∧wz hs∧SqT K H a (xs.map V.int)∧xs.length≤1000 ∧
 (vz hs xs→∀v H',Same H H'→FixR H' (qt hs xs) v→Q v H')∧(¬ vz hs xs→∀H',Same H H'→E (.ref CR) none H')
theorem wwj {f:Addr}{fd:Ad}(F:Fun K "point_of" "point_of" s_point_of f fd)(T:Txt K mg qm qx qd qy qh qc qk)(c_check_row:Cal P w K mg base "check_row" 5 (W0 K qk qc))(c_fixed_point:Cal P w K mg base "fixed_point" 5 (qqb K qk)):FnOk P w K mg base (CXE P w) 6 f fd ["road","row"] (Z9 K qk qc):=by
 have sc:=qyn
 refine F.okX sc (λvs H Q E h=>by obtain ⟨r,a,hs,xs,rfl,_⟩:=h;rfl) (λcdv A outer s H vs Q E hr h=>?_)
 obtain ⟨r,a,hs,xs,rfl,hR,ok,hT,hl,k,kx⟩:=h
 refine ⟨_,(qj (zm (ww c_check_row (hr.mono (by decide)) rfl qg (qw (pv 0) (qw (pv 1) qv))))
   (qf (wu (ww c_fixed_point (hr.mono (by decide)) rfl qg (qw (pv 0) (qw (pv 1) qv)))))),?_⟩
 refine ⟨_,rfl,_,rfl,r,a,hs,xs,rfl,hR,ok,hT,hl,λc H1 s1=>?_,λc H1 s1=>kx c H1 s1⟩
 exact exI rfl (exI rfl ⟨r,a,hs,xs,rfl,hR.same s1,ok,s1.sqt hT,qvf c,c.1.2,λv H2 s2 fx=>k c v H2 (s1.trans s2) fx⟩)
def qyg (hs:List Int)(t b:Int)(m:Nat):List Int:=(List.range m).map λi=>trT hs t b i/b
theorem wzs {hs r:List Int}{t b:Int}{m:Nat}(hb:1≤b)(nd:¬ b∣t)(bk:trT hs t b m=t)(hl:r.length=m)(hin:∀i,i<m→wv r i*b≤trT hs t b i∧trT hs t b i≤(wv r i+1)*b):r=qyg hs t b m:=by
 have n0:∀i,i≤m→¬ b∣trT hs t b i:=λi hi z=>by
  have:=wy0 z (m-i)
  rw [show i+(m-i)=m by omega,bk] at this
  exact nd this
 refine bv λi=>?_
 by_cases h:i<m
 ·unfold qyg
  rw [ao,bf h,vg (by omega)]
  obtain ⟨l1,l2⟩:=hin i h
  have l3:trT hs t b i<(wv r i+1)*b:=by
   rcases Int.lt_or_eq_of_le l2 with z|z
   ·exact z
   ·exact absurd (by rw [z];exact fN _ _) (n0 i (by omega))
  have a1:wv r i≤trT hs t b i/b:=Int.le_ediv_of_mul_le (by omega) l1
  have a2:trT hs t b i/b<wv r i+1:=Int.ediv_lt_of_lt_mul (by omega) l3
  show some (wv r i)=some (trT hs t b i/b)
  rw [show wv r i=trT hs t b i/b by omega]
 ·rw [az (by omega),az (by unfold qyg;rw [List.length_map,List.length_range];omega)]
theorem xqs {p:Int×Int}(hb:1≤p.2)(g:gOf p.1 p.2=1)(n1:p.2≠1):¬ p.2∣p.1:=λnd=>by
 have:=qw0 hb g
 have hd:=qq2 (t:=p.1/p.2) (b:=1) (c:=p.2) (by decide) hb
 rw [Int.ediv_mul_cancel nd,dE] at hd
 rw [this] at hd
 have h2:p.2=(wt (p.1/p.2) 1).2:=bX Prod.snd hd
 have h3:=Wq (t:=p.1/p.2) (b:=1) (by decide)
 omega
theorem qq6 {hs r:List Int}{m:Nat}(m1:1≤m)(m2:m≤12)(c:ClR hs m r)(ns:(qt hs r).1≠1)(n1:(zt (qt hs r)).2≠1):r=qyg hs (zt (qt hs r)).1 (zt (qt hs r)).2 m:=by
 obtain ⟨hB,g,fx⟩:=qwg ns
 have cl:=yg m1 m2 c
 have bk:=(qyt cl ns).2
 rw [c.1] at bk
 have hin:=λi hi=>wuf cl hB ns fx (i:=i) hi
 refine wzs hB (xqs hB g n1) bk c.1 λi hi=>?_
 rw [qxz hB (Zg cl) hin i (by rw [c.1];omega)]
 exact hin i (by rw [c.1];exact hi)
theorem Wp {hs r:List Int}{m:Nat}(m1:1≤m)(m2:m≤12)(c:ClR hs m r)(a1:(qt hs r).1=1){t b:Int}(hb:1≤b)(nd:¬ b∣t)(h1:r.getD 0 0*b≤t)(h2:t≤(r.getD 0 0+1)*b):r=qyg hs t b m:=by
 have cl:=yg m1 m2 c
 rw [←wqm] at h1 h2
 have bk:=wxf cl a1 hb h1 h2
 have all:=Qv cl a1 hb h1 h2
 rw [c.1] at bk
 refine wzs hb nd bk c.1 λi hi=>?_
 rw [qxz hb (Zg cl) (λi hi=>all i (by omega)) i (by rw [c.1];omega)]
 exact all i (by rw [c.1];omega)
theorem wjr {hs:List Int}(ok:wz hs){m:Nat}(m1:1≤m)(m2:m≤12){r:List Int}(hr:r∈wc hs m)(ns:(qt hs r).1≠1)(n1:(zt (qt hs r)).2≠1){k:Int}(hk:wur hs m k)(h1:k*(zt (qt hs r)).2≤(zt (qt hs r)).1)(h2:(zt (qt hs r)).1≤(k+1)*(zt (qt hs r)).2):False:=by
 obtain ⟨r',hr',a1,rfl⟩:=hk
 obtain ⟨hB,g,_⟩:=qwg ns
 have e1:=qq6 m1 m2 ((x8 ok m1).mp hr) ns n1
 have e2:=Wp m1 m2 ((x8 ok m1).mp hr') a1 hB (xqs hB g n1) h1 h2
 rw [e2,←e1] at a1
 exact ns a1
theorem wkk {hs:List Int}(ok:wz hs){m:Nat}(m1:1≤m)(m2:m≤12){r r':List Int}(hr:r∈wc hs m)(hr':r'∈wc hs m)(a:(qt hs r).1=1)(a':(qt hs r').1=1)(e:r.getD 0 0=r'.getD 0 0):r=r':=by
 have nd:¬ (3:Int)∣(3*r.getD 0 0+1):=by omega
 rw [Wp m1 m2 ((x8 ok m1).mp hr) a (t:=3*r.getD 0 0+1) (b:=3) (by decide) nd (by omega) (by omega)]
 exact (Wp m1 m2 ((x8 ok m1).mp hr') a' (t:=3*r.getD 0 0+1) (b:=3) (by decide) nd (by omega) (by omega)).symm
def v6 (hs r:List Int):Bool:=!decide ((qt hs r).1=1)&&!decide ((zt (qt hs r)).2=1)
def ju (hs r:List Int):Bool:=!decide ((qt hs r).1=1)&&decide ((zt (qt hs r)).2=1)
def qxd (hs r:List Int):Bool:=decide ((qt hs r).1=1)
def z9 (hs:List Int)(L:List (List Int)):List (Int×Int):=(L.filter (v6 hs)).map λr=>zt (qt hs r)
def ky (hs:List Int)(L:List (List Int)):List Int:=(L.filter (qxd hs)).map λr=>r.getD 0 0
def Ww (hs:List Int)(L:List (List Int)):Nat:=(L.filter (ju hs)).length
theorem Y6 (hs:List Int):∀L:List (List Int),L.length=(z9 hs L).length+(ky hs L).length+Ww hs L
 |[]=>rfl
 |r::L=>by
  have ih:=Y6 hs L
  unfold z9 ky Ww at ih ⊢
  rw [List.length_map,List.length_map] at ih ⊢
  by_cases h1:(qt hs r).1=1
  ·have a1:v6 hs r=false:=by unfold v6;rw [decide_eq_true h1];rfl
   have a2:qxd hs r=true:=decide_eq_true h1
   have a3:ju hs r=false:=by unfold ju;rw [decide_eq_true h1];rfl
   rw [cx (by rw [a1];decide),eW a2,cx (by rw [a3];decide),ax,ax]
   omega
  ·have a2:qxd hs r=false:=decide_eq_false h1
   by_cases h2:(zt (qt hs r)).2=1
   ·have a1:v6 hs r=false:=by unfold v6;rw [decide_eq_true h2,decide_eq_false h1];rfl
    have a3:ju hs r=true:=by unfold ju;rw [decide_eq_true h2,decide_eq_false h1];rfl
    rw [cx (by rw [a1];decide),cx (by rw [a2];decide),eW a3,ax,ax]
    omega
   ·have a1:v6 hs r=true:=by unfold v6;rw [decide_eq_false h2,decide_eq_false h1];rfl
    have a3:ju hs r=false:=by unfold ju;rw [decide_eq_false h2,decide_eq_false h1];rfl
    rw [eW a1,cx (by rw [a2];decide),cx (by rw [a3];decide),ax,ax]
    omega
theorem Wr (hs:List Int)(L:List (List Int))(r:List Int):z9 hs (L++[r])=z9 hs L++if v6 hs r=true then [zt (qt hs r)] else []:=by
 unfold z9
 rw [de,List.map_append]
 congr 1
 cases h:v6 hs r <;> simp [h]
theorem uv (hs:List Int)(L:List (List Int))(r:List Int):ky hs (L++[r])=ky hs L++if qxd hs r=true then [r.getD 0 0] else []:=by
 unfold ky
 rw [de,List.map_append]
 congr 1
 cases h:qxd hs r <;> simp [h]
theorem Wj (hs:List Int)(L:List (List Int))(r:List Int):Ww hs (L++[r])=Ww hs L+if ju hs r=true then 1 else 0:=by
 unfold Ww
 rw [de,ai]
 congr 1
 cases h:ju hs r <;> simp [h]
theorem up_eq:∀ {l l':List Int},l.Pairwise (·<·)→l'.Pairwise (·<·)→(∀v,v∈l↔v∈l')→l=l'
 |[],[],_,_,_=>rfl
 |[],b::l',_,_,h=>by have:=(h b).mpr (.head _);cases this
 |a::l,[],_,_,h=>by have:=(h a).mp (.head _);cases this
 |a::l,b::l',h1,h2,h=>by
  obtain ⟨x1,y1⟩:=eQ.mp h1
  obtain ⟨x2,y2⟩:=eQ.mp h2
  have e:a=b:=by
   rcases ay.mp ((h a).mp (.head _)) with z|z
   ·exact z
   ·rcases ay.mp ((h b).mpr (.head _)) with w|w
    ·exact w.symm
    ·have:=x2 a z
     have:=x1 b w
     omega
  subst e
  congr 1
  refine up_eq y1 y2 λv=>?_
  constructor
  ·intro hv
   rcases ay.mp ((h v).mp (.tail _ hv)) with z|z
   ·have:=x1 v hv;omega
   ·exact z
  ·intro hv
   rcases ay.mp ((h v).mpr (.tail _ hv)) with z|z
   ·have:=x2 v hv;omega
   ·exact z
theorem wyd {a b:List Int}(h:zk a b=true):a.getD 0 0≤b.getD 0 0:=by
 cases a with
 |nil=>cases h
 |cons x a =>
  cases b with
  |nil=>cases h
  |cons y b =>
   unfold zk at h
   show x≤y
   by_cases e:x=y
   ·omega
   ·rw [if_neg e] at h
    have:=bh h
    omega
theorem wkf {hs:List Int}(ok:wz hs){m:Nat}(m1:1≤m)(m2:m≤12):(ky hs (wc hs m)).Pairwise (·<·):=by
 unfold ky
 refine bu.mpr (aY (λ{a b} ha hb h=>?_) ((W3 ok m).filter _))
 have ha:=aU.mp ha
 have hb:=aU.mp hb
 have le:=wyd h
 rcases Int.lt_or_eq_of_le le with z|z
 ·exact z
 ·have:=wkk ok m1 m2 ha.1 hb.1 (bh ha.2) (bh hb.2) z
  rw [this,Zr] at h
  cases h
theorem qvk {hs:List Int}(ok:wz hs){m:Nat}(m1:1≤m)(m2:m≤12){pts:List (Int×Int)}{ws:List Int}(B:BackOf hs m pts ws):ky hs (wc hs m)=ws:=by
 refine up_eq (wkf ok m1 m2) B.wup λv=>?_
 rw [B.wmem]
 unfold ky
 rw [aH]
 constructor
 ·rintro ⟨r,hr,rfl⟩
  obtain ⟨h1,h2⟩:=aU.mp hr
  exact ⟨r,h1,bh h2,rfl⟩
 ·rintro ⟨r,h1,h2,rfl⟩
  exact ⟨r,aU.mpr ⟨h1,decide_eq_true h2⟩,rfl⟩
theorem qjq {hs r:List Int}(h:v6 hs r=true):(qt hs r).1≠1∧(zt (qt hs r)).2≠1:=by
 unfold v6 at h
 rw [bi] at h
 refine ⟨λz=>?_,λz=>?_⟩
 ·rw [decide_eq_true z] at h;cases h.1
 ·rw [decide_eq_true z] at h;cases h.2
theorem Ju {hs:List Int}(ok:wz hs){m:Nat}(m1:1≤m)(m2:m≤12):(z9 hs (wc hs m)).Nodup:=by
 unfold z9
 refine bu.mpr (aY (λ{a b} ha hb h z=>?_) ((W3 ok m).filter _))
 have ha:=aU.mp ha
 have hb:=aU.mp hb
 have pa:=qjq ha.2
 have pb:=qjq hb.2
 have e1:=qq6 m1 m2 ((x8 ok m1).mp ha.1) pa.1 pa.2
 have e2:=qq6 m1 m2 ((x8 ok m1).mp hb.1) pb.1 pb.2
 rw [←z,←e1] at e2
 rw [e2,Zr] at h
 cases h
def qx3 (pts:List (Int×Int)):List (Int×Int):=pts.filter λp=>decide (1<p.2)
theorem Yg {hs:List Int}(ok:wz hs){m:Nat}(m1:1≤m)(m2:m≤12){pts:List (Int×Int)}{ws:List Int}(B:BackOf hs m pts ws)(p:Int×Int):p∈z9 hs (wc hs m)↔p∈qx3 pts:=by
 unfold z9 qx3
 rw [aH,aU,B.pmem]
 constructor
 ·rintro ⟨r,hr,rfl⟩
  obtain ⟨h1,h2⟩:=aU.mp hr
  obtain ⟨p1,p2⟩:=qjq h2
  have hB:=(qwg p1).1
  refine ⟨⟨.inl ⟨r,h1,p1,rfl⟩,?_⟩,decide_eq_true (by omega)⟩
  cases z:qwv ws (zt (qt hs r)) with
  |false=>rfl
  |true =>
   obtain ⟨k,hk,e⟩:=dI.mp z
   have e:=bh e
   exact (wjr ok m1 m2 h1 p1 p2 ((B.wmem k).mp hk) e.1 e.2).elim
 ·rintro ⟨⟨h1,_⟩,h3⟩
  have h3:=bh h3
  rcases h1 with ⟨r,hr,ns,rfl⟩|⟨e1,_⟩
  ·exact ⟨r,aU.mpr ⟨hr,by unfold v6;rw [decide_eq_false ns,decide_eq_false (show ¬ (zt (qt hs r)).2=1 by omega)];rfl⟩,rfl⟩
  ·omega
theorem wxr {α:Type}[DecidableEq α]:∀(l l':List α),l.Nodup→(∀a∈l,a∈l')→l.length≤l'.length
 |[],_,_,_=>aN _
 |a::l,l',hn,hs=>by
  have hn':=cE.mp hn
  have ha:=hs a (.head _)
  have:=wxr l (l'.erase a) hn'.2 λb hb=>(List.mem_erase_of_ne (λz=>by subst z;exact hn'.1 hb)).mpr (hs b (.tail _ hb))
  rw [List.length_erase,if_pos (by simpa using ha)] at this
  have hp:0<l'.length:=List.length_pos_of_mem ha
  rw [ax]
  omega
theorem wjy {hs:List Int}(ok:wz hs){m:Nat}(m1:1≤m)(m2:m≤12){pts:List (Int×Int)}{ws:List Int}(B:BackOf hs m pts ws):(z9 hs (wc hs m)).length=(qx3 pts).length:=by
 have nd:(qx3 pts).Nodup:=(B.pup.filter _).imp λ{a b} h z=>by rw [z] at h;exact g9 _ h
 exact Nat.le_antisymm (wxr _ _ (Ju ok m1 m2) λa ha=>(Yg ok m1 m2 B a).mp ha) (wxr _ _ nd λa ha=>(Yg ok m1 m2 B a).mpr ha)
theorem wkb (ns:List Int):PyData.eqv (.list (ns.map .int)) (.list (ns.map .int))=true:=by
 rw [PyData.eqv,qwd,decide_eq_true rfl]
theorem wx5 {K:Aa}{H:Hp}{p:Addr}{ns:List Int}(h:SqL K H p (ns.map V.int)):RD K H (.list (ns.map .int)) (.ref p):=by
 rw [RD]
 exact ⟨p,exI rfl ⟨h,wvj ns⟩⟩
theorem qu3 (ns:List Int):(PyData.list (ns.map .int)).canLay0=true:=by
 rw [PyData.canLay0]
 exact qyp ns
theorem wyq (ns ms:List Int):min (PyData.list (ns.map .int)).depth (PyData.list (ms.map .int)).depth≤60:=by
 have h1:=qy8 ns
 simp only [PyData.depth]
 omega
end
section
variable {P:Ac}{w:World}{K:Aa}{mg:Str→Option Value}{base:Heap}{qm:Addr}{qx:Addr}{qd:Addr}{qy:Addr}{qh:Addr}{qc:Addr}{qk:Addr}
def qk7 (K:Aa)(TT:Addr):Sp:=λvs H Q _=>∃(a:Addr) (ns:List Int),vs=[.ref a]∧SqL K H a (ns.map V.int)∧ns.length≤63∧H TT=some (.tbl #[])∧∀H',Q (.bl true) H'
theorem sz3 {x y z:V}:[x,y,z].length≤sizeLine:=by show 3≤sizeLine;decide
theorem quq {H:Hp}{vs:List V}{ps:List (Int×Int)}{q:Addr}{xs:List V}{o:HO}(h:Paired (PtR H) vs ps)(hq:H q=some (.lst xs)):Paired (PtR (upd H q o)) vs ps:=L2.Paired.mono (λ_ _ x=>PtR.upd x hq) h
theorem yq {H H':Hp}{vs:List V}{ps:List (Int×Int)}(h:Paired (PtR H) vs ps)(s:Same H H'):Paired (PtR H') vs ps:=L2.Paired.mono (λ_ _ x=>PtR.same x s) h
theorem wxx {hs:List Int}(ok:wz hs){m:Nat}(m1:1≤m)(h:m=1∨crS hs m≤60):(wc hs m).length≤60:=by
 rcases h with rfl|h
 ·have hl:=ok.2.1
  have nd:((wc hs 1).map λr=>(r.getD 0 0).toNat).Nodup:=by
   refine bu.mpr (aY (λ{a b} ha hb h z=>?_) (W3 ok 1))
   have ca:=(x8 ok (Nat.le_refl 1)).mp ha
   have cb:=(x8 ok (Nat.le_refl 1)).mp hb
   obtain ⟨x,rfl⟩:=fv.mp ca.1
   obtain ⟨y,rfl⟩:=fv.mp cb.1
   have x0:=ca.2.1 x (.head _)
   have y0:=cb.2.1 y (.head _)
   have z:x.toNat=y.toNat:=z
   have e:x=y:=by omega
   rw [e,Zr] at h
   cases h
  have:=wxr _ (List.range 24) nd λv hv=>by
   obtain ⟨r,hr,rfl⟩:=aH.mp hv
   have c:=(x8 ok (Nat.le_refl 1)).mp hr
   obtain ⟨x,rfl⟩:=fv.mp c.1
   have x0:=c.2.1 x (.head _)
   refine am.mpr ?_
   show x.toNat<24
   omega
  rw [List.length_map,List.length_range] at this
  omega
 ·have:=Yr ok m1
  omega
theorem ok_law {f:Addr}{fd:Ad}{TT:Addr}(F:Fun K "law" "law" s_law f fd)(T:Txt K mg qm qx qd qy qh qc qk)(c__law_pick:Cal P w K mg base "_law_pick" 2 (Jw K))(c__law_heights:Cal P w K mg base "_law_heights" 4 (Y5 K))(c_Road:CCal P w K mg base "Road" qk 2 (qjf K qm qk))(c__law_times:Cal P w K mg base "_law_times" 2 (qv4 K))
  (c_back:Cal P w K mg base "back" 8 (wq3 qk TT)) (c__law_points:Cal P w K mg base "_law_points" 3 (qw6 K)) (c__law_numbers:Cal P w K mg base "_law_numbers" 2 (Jz K)) (c_rows:Cal P w K mg base "rows" 7 (qkv qk qy qh)) (c_point_of:Cal P w K mg base "point_of" 6 (Z9 K qk qc)) :
  FnOk P w K mg base (CXE P w) 9 f fd ["_law_script"] (qk7 K TT):=by
 have sc:=sc_law
 refine F.okX sc (λvs H Q E h=>by obtain ⟨a,ns,rfl,_⟩:=h;rfl) (λcdv A outer s H vs Q E hr h=>?_)
 obtain ⟨a,ns,rfl,hS,hl,hT,k⟩:=h
 refine ⟨_,(qj (wg (i:=1) sc.nd rfl (by walk_at "loc") (ww c__law_heights (hr.mono (by decide)) rfl qg (qw (pv 0) (qw qu (qw (xm zx (jx (qw qu (qw qu (qw qu qv)))) (ww c__law_pick (hr.mono (by decide)) rfl qg (qw (pv 0) (qw qu (qw qu (qw qu qv))))) (λ_ _=>rfl)) qv)))))
   (qj (wg (i:=2) sc.nd rfl (by walk_at "loc") (ww c__law_times (hr.mono (by decide)) rfl qg (qw (pv 1) (qw (wx xg qu (ww c__law_pick (hr.mono (by decide)) rfl qg (qw (pv 0) (qw qu (qw qu (qw qu qv)))))) (qw qu qv)))))
   (qj (wg (i:=3) sc.nd rfl (by walk_at "loc") (wj9 c_Road (hr.mono (by decide)) rfl qg (qw (Z5 Zt rfl T.list_ cA (qw (pv 1) qv)) qv)))
   (qj (ym (ww c_back (hr.mono (by decide)) rfl qg (qw (pv 3) (qw (pv 2) qv))) (jb rfl (xv (wn (i:=4) sc.nd rfl (by walk_at "loc")) (xv (wn (i:=5) sc.nd rfl (by walk_at "loc")) vf))))
   (qj (wg (i:=6) sc.nd rfl (by walk_at "loc") (ww c_rows (hr.mono (by decide)) rfl qg (qw (pv 3) (qw (pv 2) qv))))
   (qj (zy (PW.pt (yw (ut (uc (ww c__law_points (hr.mono (by decide)) rfl qg (qw (pv 4) qv)))) (yw (ut (uc (ww c__law_numbers (hr.mono (by decide)) rfl qg (qw (pv 5) qv)))) (jw (ut (uc (q9 vj rfl T.isinstance_ bS (qw (pv 6) (qw (Qp (v:=V.ty "list") rfl T.list_ cA rfl) qv))))))))) (qf (wu Jy)) xy)
   (qj (wg (i:=7) sc.nd rfl (by walk_at "loc") (jx qv))
   (qj (wg (i:=8) sc.nd rfl (by walk_at "loc") (jx qv))
   (qj (wg (i:=9) sc.nd rfl (by walk_at "loc") qu)
   (qj (jz ba rfl (zf (pv 6)) (wn (i:=10) sc.nd rfl (by walk_at "loc")) (qj (wg (i:=11) sc.nd rfl (by walk_at "loc") (ww c_point_of (hr.mono (by decide)) rfl qg (qw (pv 3) (qw (pv 10) qv))))
   (qf (zy (wj wj6 (pv 11) qwu (wb _)) (qf (zm (Jd bL bT bU vk (pv 8) (qw (xm kn (pv 10) qu (λ_ _=>rfl)) qv)))) (qf (zy (wj Qk (xm kn (pv 11) qu (λ_ _=>rfl)) qu (wb _)) (qf (xwk (i:=9) sc.nd rfl (Or.inl rfl) qu wy8)) (qf (zm (Jd bL bT bU vk (pv 7) (qw (pv 11) qv))))))))))
   (qj (qu0 (i:=12) (M:=[]) sc.nd rfl (by walk_at "loc") rfl rfl (by walk_at "cap") (by walk_at "has") (by walk_at "cix") rfl (by decide +kernel) rfl (show List.Nodup (["_law_point_here"]:List Str) by decide +kernel) (zf (pv 4)) (λ_ _ _ _ _=>(wj u7 (xm (Qn (K:=K) rfl) (pv 0) qu (λ_ _=>rfl)) qu (wb _))) (λ_ _ _ _ _=>(pv 0)))
   (qj (zy (PW.pt (yw (wj wvz (q9 wm rfl T.len_ aZ (qw (pv 6) qv)) (wx xg (wx xg (q9 wm rfl T.len_ aZ (qw (pv 12) qv)) (q9 wm rfl T.len_ aZ (qw (pv 5) qv))) (pv 9)) (wb _)) (jw (wj (op_neD hr.units) (pv 8) (pv 5) (wb _))))) (qf (wu Jy)) xy)
   (qj (zy (PW.pt (yw (wj wvz (q9 wm rfl T.len_ aZ (qw (pv 7) qv)) (q9 wm rfl T.len_ aZ (qw (pv 12) qv)) (wb _)) (jw (wj wvz (q9 wkr rfl T.len_ aZ (qw (Z5 (wjs rfl hr.units) rfl T.set_ PyProof.Rows.boot_set (qw (pv 7) qv)) qv)) (q9 wm rfl T.len_ aZ (qw (pv 7) qv)) (wb _))))) (qf (wu Jy)) xy)
   (qj (jz ba rfl (zf (pv 12)) (wn (i:=11) sc.nd rfl (by walk_at "loc")) (qf (zy (wj (wjx hr.units) (pv 11) (pv 7) rfl) (qf (wu Jy)) xy)))
   (qf (wu Jy)))))))))))))))),?_⟩
 refine exI rfl ⟨sz3,λp0 n0=>?_⟩
 have s0:Same H (upd H p0 (.lst [.int 5,.int 5,.int 24])):=Same.upd n0
 refine exI rfl ⟨a,ns,_,_,_,rfl,s0.sql hS,(by omega),(by omega),(by omega),(by omega),λr0 _ l0 u0=>?_⟩
 have ex:∃m:Int,atI [V.int 5,V.int 5,V.int 24] r0=some (.int m)∧1≤m∧m≤24:=by
  rcases (by omega:r0=0∨r0=1∨r0=2) with e|e|e
  ·subst e;exact ⟨5,rfl,by omega,by omega⟩
  ·subst e;exact ⟨5,rfl,by omega,by omega⟩
  ·subst e;exact ⟨24,rfl,by omega,by omega⟩
 obtain ⟨m0,hm,mm1,mm2⟩:=ex
 refine exX rfl rfl SqL.new hm ?_
 generalize upd H p0 (.lst [.int 5,.int 5,.int 24])=H0 at s0
 refine ⟨a,ns,_,m0,rfl,s0.sql hS,(by omega),mm1,mm2,λp hs w1 n1 a1 b1 i1=>?_⟩
 have ok:wz hs:=xxt i1 a1 (by omega)
 have o1:=ok.1
 have o2:=ok.2.1
 have s1:Same H0 (upd H0 p (.lst (hs.map V.int))):=Same.upd n1
 have f1:upd H0 p (.lst (hs.map V.int)) p=some (.lst (hs.map V.int)):=qb
 generalize upd H0 p (.lst (hs.map V.int))=H1 at s1 f1
 have s01:=s0.trans s1
 refine exI rfl (exI rfl ⟨a,ns,_,_,_,rfl,s01.sql hS,(by omega),(by omega),(by omega),(by omega),λr1 _ l1 u1=>?_⟩)
 refine ⟨_,_,rfl,rfl,p,hs,1+r1,60,rfl,SqL.of f1,ok,by omega,by omega,λmany H2 e1 e2 hx s2=>?_⟩
 have s02:=s01.trans s2
 have f2:=s2 _ _ f1
 have cr60:many.toNat=1∨crS hs many.toNat≤60:=by
  rcases (by omega:many=1∨2≤many) with z|z
  ·exact .inl (by omega)
  ·have:=hx (many.toNat-1) (by omega) (by omega)
   rw [show many.toNat-1+1=many.toNat by omega] at this
   exact .inr this
 have cr1:crS hs many.toNat≤1000:=by
  rcases cr60 with z|z
  ·rw [z]
   have:=cr_one ok
   omega
  ·omega
 refine exI rfl ⟨_,_,rfl,.inl (SqL.of f2),λp4 n4=>?_⟩
 have s4:Same H2 (upd H2 p4 (.lst (hs.map V.int))):=Same.upd n4
 refine λrd d0 nx nd0 ne0=>xx0 qb nx nd0 (λ_ H5 s5 R5=>?_) λz=>absurd ok z
 have s45:=s4.trans s5
 have T5:Zx TT qwk lamQ H5:=Jq (.inl hT) (s02.trans s45)
 refine ⟨_,rfl,_,rfl,rd,hs,many,rfl,R5,ok,e1,by omega,cr1,T5,λb1 lp lw ys pts ws H6 k6 T6 fb6 fl6 P6 fw6 B6=>?_⟩
 refine ⟨b1,exI rfl ⟨SqT.of fb6,rfl,_,_,rfl,_,_,rfl,rfl,?_⟩⟩
 have R6:=R5.kp k6
 have m1:1≤many.toNat:=by omega
 have m2:many.toNat≤12:=by omega
 refine ⟨_,rfl,_,rfl,rd,hs,many,rfl,R6,ok,e1,by omega,cr1,λrl us H7 n7 s7 f7 t7=>?_⟩
 have g1:∀p∈pts,1≤p.2∧gOf p.1 p.2=1∧vq hs p.1 p.2:=λp hp=>qq1 ok m1 m2 ((B6.pmem p).mp hp).1
 have pf:=B6.pfew
 have wf:=B6.wfew
 refine ⟨_,rfl,lp,pts,rfl,PtsAt.same ⟨ys,fl6,P6⟩ s7,by omega,λp hp=>⟨(g1 p hp).1,(g1 p hp).2.1⟩,λH8 s8=>(exI rfl (js ?_))⟩
 refine ⟨_,rfl,lw,ws,rfl,s8 _ _ (s7 _ _ fw6),by omega,λH9 s9=>(exI rfl (js ?_))⟩
 have s79:=s8.trans s9
 have s69:=s7.trans s79
 have f9:=s79 _ _ f7
 have t9:=t7.same s79
 have R9:=R6.same s69
 obtain ⟨ys',fl,PP⟩:=PtsAt.same ⟨ys,fl6,P6⟩ s69
 have fw:=s69 _ _ fw6
 clear s79 s69 s8 s9
 refine exI rfl ⟨_,_,_,_,rfl,TyOf.lst f9,rfl,_,rfl,js ?_⟩
 have L9:=t9.len
 have c60:=wxx ok m1 cr60
 refine ⟨sz0,λpp np=>?_⟩
 have sp:Same H9 (upd H9 pp (.lst [])):=Same.upd np
 refine ⟨sz0,λfp nf=>?_⟩
 have sf:Same (upd H9 pp (.lst [])) (upd (upd H9 pp (.lst [])) fp (.lst [])):=Same.upd nf
 have nf9:H9 fp=none:=vh sp nf
 have pf':pp≠fp:=λz=>by rw [←z,qb] at nf;cases nf
 have clr:∀r∈wc hs many.toNat,ClR hs many.toNat r:=λr hr=>(x8 ok m1).mp hr
 refine exI rfl ⟨rl,rfl,⟨_,SqL.of (sf _ _ (sp _ _ f9))⟩,qxq (K:=K) (a:=rl) (xs:=us) (λi σ H'=>Same H9 H'∧∃(vs:List V) (z10 z11:Option V),σ=[some (.ref a),some (.ref p),some (.int many),some (.ref rd),some (.ref lp),some (.ref lw),some (.ref rl),some (.ref pp),some (.ref fp),some (.int ((Ww hs ((wc hs many.toNat).take i):Nat):Int)),z10,z11,none]∧H' pp=some (.lst vs)∧Paired (PtR H') vs (z9 hs ((wc hs many.toNat).take i))∧H' fp=some (.lst ((ky hs ((wc hs many.toNat).take i)).map V.int))) ⟨sp.trans sf,[],_,_,rfl,sf _ _ qb,.nil,qb⟩ ?_ ?_ ?_⟩
 ·rintro i σ H1 _ ⟨s1',_⟩
  exact SqL.of (s1' _ _ f9)
 ·rintro i y σ H1 hy ⟨sH,vs,z10,z11,rfl,fpp,PV,ffp⟩
  obtain ⟨b,r,rfl,er,fb⟩:=(t9.same sH).get hy
  have hr':=aA er
  have c:=clr r hr'
  have tk:(wc hs many.toNat).take (i+1)=(wc hs many.toNat).take i++[r]:=by rw [cC,er];rfl
  have il:i<(wc hs many.toNat).length:=(ag.mp er).1
  have tl:=Y6 hs ((wc hs many.toNat).take i)
  rw [aL] at tl
  have lv:=cr PV
  refine ⟨_,rfl,_,rfl,rd,b,hs,r,rfl,R9.same sH,ok,SqT.of fb,by rw [c.1];omega,λcl v H2 s2 fx=>?_,λz=>absurd (yg m1 m2 c) z⟩
  have sH2:=sH.trans s2
  have fpp2:=s2 _ _ fpp
  have ffp2:=s2 _ _ ffp
  have PV2:=yq PV s2
  rcases fx with ⟨g1,rfl⟩|⟨g1,q,rfl,fq⟩
  ·have e1:v6 hs r=false:=by unfold v6;rw [decide_eq_true g1];rfl
   have e2:qxd hs r=true:=decide_eq_true g1
   have e3:ju hs r=false:=by unfold ju;rw [decide_eq_true g1];rfl
   have z0:0<r.length:=by rw [c.1];omega
   have a0:atI (r.map V.int) 0=some (.int (r.getD 0 0)):=vy (j:=0) (by rw [ao,aa z0,zc (aa z0)];rfl)
   refine exI rfl ⟨rfl,_,rfl,yu ?_⟩
   refine exI rfl ⟨.inl ⟨rfl,_,SqL.of ffp2⟩,exI rfl (exX rfl rfl (SqT.of (s2 _ _ fb)) a0 ⟨fp,wy rfl rfl ⟨ffp2,Qb (by rw [List.length_map];omega),?_⟩⟩)⟩
   refine ⟨Same.upd2 sH2 nf9,vs,some (.ref b),some .non,?_,?_,?_,?_⟩
   ·rw [tk,Wj,e3]
    rfl
   ·rw [qr pf']
    exact fpp2
   ·rw [tk,Wr,e1]
    simpa using quq PV2 ffp2
   ·rw [tk,uv,e2,qb]
    simp
  ·have e2:qxd hs r=false:=decide_eq_false g1
   have fq:H2 q=some (.tup (ptV (zt (qt hs r)))):=fq
   refine exI rfl ⟨rfl,_,rfl,js ?_⟩
   refine exI rfl (exX rfl rfl (SqT.of fq) rfl ⟨rfl,_,rfl,Q6 (λz=>?_) (λz=>?_)⟩)
   ·have e1:v6 hs r=false:=by unfold v6;rw [decide_eq_true z,decide_eq_false g1];rfl
    have e3:ju hs r=true:=by unfold ju;rw [decide_eq_true z,decide_eq_false g1];rfl
    refine exI rfl (wy rfl rfl ⟨sH2,vs,some (.ref b),some (.ref q),?_,fpp2,?_,?_⟩)
    ·rw [tk,Wj,e3]
     rfl
    ·rw [tk,Wr,e1]
     simpa using PV2
    ·rw [tk,uv,e2]
     simpa using ffp2
   ·have e1:v6 hs r=true:=by unfold v6;rw [decide_eq_false z,decide_eq_false g1];rfl
    have e3:ju hs r=false:=by unfold ju;rw [decide_eq_false z,decide_eq_false g1];rfl
    refine exI rfl ⟨.inl ⟨rfl,_,SqL.of fpp2⟩,exI rfl ⟨pp,wy rfl rfl ⟨fpp2,Qb (by omega),?_⟩⟩⟩
    refine ⟨Same.upd2 sH2 np,vs++[.ref q],some (.ref b),some (.ref q),?_,qb,?_,?_⟩
    ·rw [tk,Wj,e3]
     rfl
    ·rw [tk,Wr,e1]
     exact Paired.app (quq PV2 fpp2) (.cons (PtR.upd ⟨q,rfl,fq⟩ fpp2) .nil)
    ·rw [tk,uv,e2,qr (dt pf')]
     simpa using ffp2
 rintro σ H1 ⟨sH,vs,z10,z11,rfl,fpp,PV,ffp⟩
 rw [L9,List.take_length] at PV ffp
 rw [L9,List.take_length]
 rw [qvk ok m1 m2 B6] at ffp
 have lv:=cr PV
 have fl1:=sH _ _ fl
 have PP1:=yq PP sH
 have lys:=cr PP
 refine exI rfl ⟨lp,rfl,⟨_,SqL.of fl1⟩,Wd (K:=K) (λi=>decide (1<(pts.getD i (0,1)).2)) (SqL.of fl1) (by omega) (λi x H2 R hx s2 hR2=>?_) (λi x H2 R hx _ s2 hR2=>?_) λsg H3 ng s3 f3=>?_⟩
 ·obtain ⟨pt,ep,b,rfl,fb⟩:=jy PP1 hx
  refine exI rfl (exX rfl rfl (SqT.of (s2 _ _ fb)) rfl (wy rfl rfl (exI rfl ?_)))
  have:=hR2 H2 (Same.refl _)
  rw [zc ep] at this
  exact this
 ·exact exI rfl (hR2 _ (Same.refl _))
 have PG:Paired (PtR H3) (jd (λi=>decide (1<(pts.getD i (0,1)).2)) ys' ys'.length) (qx3 pts):=by
  have e:qx3 pts=((List.range ys'.length).filter λi=>decide (1<(pts.getD i (0,1)).2)).map λi=>pts.getD i (0,1):=by
   have e0:pts=(List.range ys'.length).map λi=>pts.getD i (0,1):=by
    refine bv λi=>?_
    rw [ao]
    by_cases h:i<ys'.length
    ·rw [bf h,aa (by omega),Option.map_some,zc (aa (by omega))]
    ·rw [az (by omega),az (by rw [List.length_range];omega)]
     rfl
   unfold qx3
   conv=>lhs;rw [e0]
   rw [List.filter_map]
   rfl
  rw [e]
  unfold jd
  refine j6 λi hi=>?_
  have hi:i<ys'.length:=am.mp (aU.mp hi).1
  have ey:ys'[i]?=some ys'[i]:=aa hi
  obtain ⟨pt,ep,b,eb,fb⟩:=jy PP1 ey
  rw [zc ey,zc ep]
  exact ⟨b,eb,s3 _ _ fb⟩
 generalize jd (λi=>decide (1<(pts.getD i (0,1)).2)) ys' ys'.length=gs at PG f3
 have lg:=cr PG
 have pl:=wjy ok m1 m2 B6
 have tl:=Y6 hs (wc hs many.toNat)
 rw [qvk ok m1 m2 B6] at tl
 have fpp3:=s3 _ _ fpp
 have ffp3:=s3 _ _ ffp
 have fw3:=s3 _ _ (sH _ _ fw)
 have frl3:=s3 _ _ (sH _ _ f9)
 have PV3:=yq PV s3
 refine exI rfl ⟨_,_,rfl,.inl (SqL.of frl3),exI rfl ⟨_,_,rfl,.inl (SqL.of f3),exI rfl ⟨_,_,rfl,.inl (SqL.of fw3),wy rfl rfl (exI rfl (wy rfl rfl ⟨rfl,_,rfl,?_⟩))⟩⟩⟩
 have lwm:(ws.map V.int).length=ws.length:=List.length_map _
 refine wwf (λz=>absurd (by rw [lwm];omega) z) (λ_=>?_)
 refine exI rfl (exI rfl ⟨_,_,wx5 (SqL.of ffp3),wx5 (SqL.of fw3),qu3 _,qu3 _,wyq _ _,_,rfl,?_⟩)
 rw [wkb]
 refine js ?_
 refine exI rfl ⟨_,_,rfl,.inl (SqL.of fpp3),exI rfl ⟨_,_,rfl,.inl (SqL.of f3),rfl,_,rfl,wwf (λz=>absurd (by omega) z) (λ_=>?_)⟩⟩
 refine ⟨_,rfl,pp,vs,λi=>(z9 hs (wc hs many.toNat)).getD i (0,1),rfl,SqL.of fpp3,λi v e=>?_,λi j hij hj z=>?_,by omega,λl nl=>?_⟩
 ·obtain ⟨pt,ep,b,eb,fb⟩:=jy PV3 e
  show ∃a,v=.ref a∧H3 a=some (.tup [.int ((z9 hs (wc hs many.toNat)).getD i (0,1)).1,.int ((z9 hs (wc hs many.toNat)).getD i (0,1)).2])
  rw [zc ep]
  exact ⟨b,eb,fb⟩
 ·have nd:=Ju ok m1 m2
  refine (bg.mp nd) i j (by omega) (by omega) hij ?_
  have e1:=zc (d:=((0:Int),(1:Int))) (aa (show i<(z9 hs (wc hs many.toNat)).length by omega))
  have e2:=zc (d:=((0:Int),(1:Int))) (aa (show j<(z9 hs (wc hs many.toNat)).length by omega))
  rw [←e1,←e2]
  exact z
 have s5':Same H3 (upd H3 l (wws l vs.length)):=Same.upd nl
 have fl5:upd H3 l (wws l vs.length) l=some (wws l vs.length):=qb
 generalize upd H3 l (wws l vs.length)=H4 at s5' fl5
 refine ⟨l,vs.length,rfl,fl5,by omega,?_⟩
 refine exI rfl ⟨_,_,rfl,.inl (SqL.of (s5' _ _ fpp3)),rfl,_,rfl,wwf (λz=>absurd rfl z) (λ_=>?_)⟩
 have fpp4:=s5' _ _ fpp3
 have f4:=s5' _ _ f3
 have PV4:=yq PV3 s5'
 have PG4:=yq PG s5'
 refine exI rfl ⟨sg,rfl,⟨_,SqL.of f4⟩,qxq (K:=K) (a:=sg) (xs:=gs) (λi σ H'=>H'=H4∧∃z11,σ=[some (.ref a),some (.ref p),some (.int many),some (.ref rd),some (.ref lp),some (.ref lw),some (.ref rl),some (.ref pp),some (.ref fp),some (.int ((Ww hs (wc hs many.toNat):Nat):Int)),z10,z11,some (.ref sg)]) ⟨rfl,_,rfl⟩ ?_ ?_ ?_⟩
 ·rintro i σ H1 _ ⟨rfl,_⟩
  exact SqL.of f4
 ·rintro i y σ H1 hy ⟨rfl,z11,rfl⟩
  obtain ⟨pt,ep,b,rfl,fb⟩:=jy PG4 hy
  have hp:=(Yg ok m1 m2 B6 pt).mpr (aA ep)
  refine exI rfl (exI rfl ⟨pp,b,vs,_,pt,rfl,rfl,fpp4,PV4,fb,_,rfl,?_⟩)
  rw [decide_eq_true hp]
  exact js ⟨rfl,_,rfl⟩
 ·rintro σ H1 ⟨rfl,z11,rfl⟩
  exact k _
end
section
theorem all_mk {l:PySem.W.OpenLaw}{w:World}{K:Aa}{h:Heap}{mg:Str→Option Value}{fa cO TT:Addr}{qm:Addr}{qx:Addr}{qd:Addr}{qy:Addr}{qh:Addr}{qc:Addr}{qk:Addr}{t_WIDEST:Tok}{t_LONGEST_ROW:Tok}{t_MOST_WAYS:Tok}{t_MOST_WALKED:Tok}(X:K.In h)(G:h.Ns mainGlobals mg)(hfa:mg "law" = some (.ref fa))
  (d__law_cell:DefIn K "_law_cell" s__law_cell)
  (d__law_pick:DefIn K "_law_pick" s__law_pick)
  (d_check_count:DefInD K "check_count" s_check_count)
  (d_check_bottom:DefIn K "check_bottom" s_check_bottom)
  (d_is_line:DefIn K "is_line" s_is_line)
  (d_covered:DefIn K "covered" s_covered)
  (d_covers_of:DefIn K "covers_of" s_covers_of)
  (d_ways_of_no_step:DefIn K "ways_of_no_step" s_ways_of_no_step)
  (d_one_step_more:DefIn K "one_step_more" s_one_step_more)
  (d_ways_up_to:DefIn K "ways_up_to" s_ways_up_to)
  (d_rows_from:DefIn K "rows_from" s_rows_from)
  (d_rows:DefIn K "rows" s_rows)
  (d_common_divisor:DefIn K "common_divisor" s_common_divisor)
  (d_lowest:DefIn K "lowest" s_lowest)
  (d_ordered:DefInT K "ordered" s_ordered cO) (hC:PySem.W.codeHdIn K cO TT=true)
  (d_walked:DefIn K "walked" s_walked)
  (d_corners_back:DefIn K "corners_back" s_corners_back)
  (d_lies_in:DefIn K "lies_in" s_lies_in)
  (d_line_along:DefIn K "line_along" s_line_along)
  (d_fixed_point:DefIn K "fixed_point" s_fixed_point)
  (d_back:DefIn K "back" s_back)
  (d__law_climb:DefIn K "_law_climb" s__law_climb)
  (d__law_heights:DefIn K "_law_heights" s__law_heights)
  (d__law_whole:DefIn K "_law_whole" s__law_whole)
  (d__law_common:DefIn K "_law_common" s__law_common)
  (d__law_point:DefIn K "_law_point" s__law_point)
  (d__law_points:DefIn K "_law_points" s__law_points)
  (d__law_numbers:DefIn K "_law_numbers" s__law_numbers)
  (d__law_crowds:DefIn K "_law_crowds" s__law_crowds)
  (d__law_times:DefIn K "_law_times" s__law_times)
  (d_check_row:DefIn K "check_row" s_check_row)
  (d_point_of:DefIn K "point_of" s_point_of)
  (d_law:DefIn K "law" s_law)
  (a_BadLine:PySem.W.nsIn K mainGlobals "BadLine" = some (some (.ref qm)))
  (x_BadLine:PySem.W.excIn K qm [.type "ValueError",.type "Exception",.type "BaseException",.type "object"] "ValueError.__new__" = true)
  (a_BadBottom:PySem.W.nsIn K mainGlobals "BadBottom" = some (some (.ref qx)))
  (x_BadBottom:PySem.W.excIn K qx [.type "ValueError",.type "Exception",.type "BaseException",.type "object"] "ValueError.__new__" = true)
  (a_OffRoad:PySem.W.nsIn K mainGlobals "OffRoad" = some (some (.ref qd)))
  (x_OffRoad:PySem.W.excIn K qd [.type "ValueError",.type "Exception",.type "BaseException",.type "object"] "ValueError.__new__" = true)
  (a_BadCount:PySem.W.nsIn K mainGlobals "BadCount" = some (some (.ref qy)))
  (x_BadCount:PySem.W.excIn K qy [.type "ValueError",.type "Exception",.type "BaseException",.type "object"] "ValueError.__new__" = true)
  (a_TooLong:PySem.W.nsIn K mainGlobals "TooLong" = some (some (.ref qh)))
  (x_TooLong:PySem.W.excIn K qh [.type "ValueError",.type "Exception",.type "BaseException",.type "object"] "ValueError.__new__" = true)
  (a_BadRow:PySem.W.nsIn K mainGlobals "BadRow" = some (some (.ref qc)))
  (x_BadRow:PySem.W.excIn K qc [.type "ValueError",.type "Exception",.type "BaseException",.type "object"] "ValueError.__new__" = true)
  (a_Road:PySem.W.nsIn K mainGlobals "Road" = some (some (.ref qk)))
  (pg_Road:PySem.W.plainGet K qk Str.empty=true)
  (hd_Road:PySem.W.hasDictIn K qk=true)
  (po_Road:PySem.W.plainOver K qk=true)
  (sa_Road:PySem.W.findIn K (.ref qk) "__setattr__" = some (some (.builtin "object.__setattr__")))
  (mk_Road:PySem.W.makesIn K qk=true)
  (kc_Road:PySem.W.keepIn K (.ref qk)=true)
  (m_Road___init__:MethIn K qk "__init__" "Road.__init__" s_Road___init__)
  (m_Road_width:MethIn K qk "width" "Road.width" s_Road_width)
  (m_Road_ends:MethIn K qk "ends" "Road.ends" s_Road_ends)
  (m_Road_reach:MethIn K qk "reach" "Road.reach" s_Road_reach)
  (m_Road_slope:MethIn K qk "slope" "Road.slope" s_Road_slope)
  (m_Road_on_road:MethIn K qk "on_road" "Road.on_road" s_Road_on_road)
  (m_Road_at:MethIn K qk "at" "Road.at" s_Road_at)
  (na_Road_heights:PySem.W.findIn K (.ref qk) "heights" = some none)
  (g_WIDEST:PySem.W.nsIn K mainGlobals "WIDEST" = some (some (.int 24 t_WIDEST)))
  (g_LONGEST_ROW:PySem.W.nsIn K mainGlobals "LONGEST_ROW" = some (some (.int 12 t_LONGEST_ROW)))
  (g_MOST_WAYS:PySem.W.nsIn K mainGlobals "MOST_WAYS" = some (some (.int 1000 t_MOST_WAYS)))
  (g_MOST_WALKED:PySem.W.nsIn K mainGlobals "MOST_WALKED" = some (some (.int 1000 t_MOST_WALKED)))
  (z_len:PySem.W.nsIn K mainGlobals "len" = some none)
  (z_set:PySem.W.nsIn K mainGlobals "set" = some none)
  (z_abs:PySem.W.nsIn K mainGlobals "abs" = some none)
  (z_range:PySem.W.nsIn K mainGlobals "range" = some none)
  (z_isinstance:PySem.W.nsIn K mainGlobals "isinstance" = some none)
  (z_int:PySem.W.nsIn K mainGlobals "int" = some none)
  (z_bool:PySem.W.nsIn K mainGlobals "bool" = some none)
  (z_list:PySem.W.nsIn K mainGlobals "list" = some none)
  (z_tuple:PySem.W.nsIn K mainGlobals "tuple" = some none)
  (z_min:PySem.W.nsIn K mainGlobals "min" = some none)
  (z_max:PySem.W.nsIn K mainGlobals "max" = some none)
  (z_all:PySem.W.nsIn K mainGlobals "all" = some none)
  (z_any:PySem.W.nsIn K mainGlobals "any" = some none)
  (z_sum:PySem.W.nsIn K mainGlobals "sum" = some none)
  (z_sorted:PySem.W.nsIn K mainGlobals "sorted" = some none)
  (z_zip:PySem.W.nsIn K mainGlobals "zip" = some none) :
  ∃fd:Ad,(∀(s:Ab) (v:Value),BindsTo s fd ⟨[v],[]⟩ [("_law_script",v)])∧∀base:Heap,K.In base→base.Ns mainGlobals mg→BMain mg base→FnOk l.prog w K mg base (CXE l.prog w) 9 fa fd ["_law_script"] (qk7 K TT):=by
 have T:Txt K mg qm qx qd qy qh qc qk:=⟨aW X G z_len,aW X G z_set,aW X G z_abs,aW X G z_range,aW X G z_isinstance,aW X G z_int,aW X G z_bool,aW X G z_list,aW X G z_tuple,aW X G z_min,aW X G z_max,aW X G z_all,aW X G z_any,aW X G z_sum,aW X G z_sorted,aW X G z_zip,bM X G a_BadLine,⟨x_BadLine⟩,bM X G a_BadBottom,⟨x_BadBottom⟩,bM X G a_OffRoad,⟨x_OffRoad⟩,bM X G a_BadCount,⟨x_BadCount⟩,bM X G a_TooLong,⟨x_TooLong⟩,bM X G a_BadRow,⟨x_BadRow⟩,⟨pg_Road,hd_Road,po_Road,sa_Road⟩,na_Road_heights,⟨t_WIDEST,bM X G g_WIDEST⟩,bM X G a_Road,⟨t_LONGEST_ROW,bM X G g_LONGEST_ROW⟩,⟨t_MOST_WAYS,bM X G g_MOST_WAYS⟩,⟨t_MOST_WALKED,bM X G g_MOST_WALKED⟩⟩
 obtain ⟨f,fd,a,F⟩:=d_law.ex
 have e:=hfa.symm.trans (bM X G a)
 cases e
 refine ⟨fd,λs v=>?_,λbase kb nb hB=>?_⟩
 ·obtain ⟨oc,od,kV,doc,pm,an,cdv,ct,osl,rfl,lk,hcd⟩:=F.ex
  exact .of_eq rfl
 ·have c1:Cal l.prog w K mg base "_law_cell" 1 (wxz K):=d__law_cell.cal X G qku λf fd F=>xxq F T
  have c2:Cal l.prog w K mg base "_law_pick" 2 (Jw K):=d__law_pick.cal X G qk3 λf fd F=>xwd F T c1
  have c3:CalD l.prog w K mg base "check_count" 1 (qqd qy):=d_check_count.cal X G qwr qxy λf fd F=>wj5 F T
  have c4:Cal l.prog w K mg base "check_bottom" 1 (qqh qx):=d_check_bottom.cal X G Jr λf fd F=>xwq F T
  have c5:Cal l.prog w K mg base "is_line" 1 (qw3 K):=d_is_line.cal X G wwv λf fd F=>wqh F T
  have c6:CCal l.prog w K mg base "Road" qk 2 (qjf K qm qk):=m_Road___init__.ccal T.g_Road mk_Road kc_Road Yv λf fd F=>xx5 F T c5
  have c7:MCal l.prog w K mg base qk "width" 1 (k8 qk):=m_Road_width.cal qzt λf fd F=>wym F T
  have c8:MCal l.prog w K mg base qk "ends" 2 (Z4 qk qc):=m_Road_ends.cal qju λf fd F=>xxr F T c7
  have c9:MCal l.prog w K mg base qk "reach" 3 (qky qk qc):=m_Road_reach.cal qz2 λf fd F=>xq1 F T c8
  have c10:MCal l.prog w K mg base qk "slope" 3 (qv5 qk qc):=m_Road_slope.cal qz6 λf fd F=>wuy F T c8
  have c11:Cal l.prog w K mg base "covered" 4 (Qr qk qc):=d_covered.cal X G wqb λf fd F=>ww0 F T c9
  have c12:Cal l.prog w K mg base "covers_of" 5 (y9 qk):=d_covers_of.cal X G qkp λf fd F=>qkt F T c7 c11
  have c13:Cal l.prog w K mg base "ways_of_no_step" 1 qw8:=d_ways_of_no_step.cal X G Wg λf fd F=>wxm F T
  have c14:∀hs,wz hs→Cal l.prog w K mg base "one_step_more" 1 (Jx hs):=λhs ok=>d_one_step_more.cal X G Yk λf fd F=>qup ok F T
  have c15:Cal l.prog w K mg base "ways_up_to" 6 (qwq qk):=d_ways_up_to.cal X G qzu λf fd F=>wxw F T c12 c7 c13 c14
  have c16:Cal l.prog w K mg base "rows_from" 1 W1:=d_rows_from.cal X G qjs λf fd F=>qjc F T
  have c17:Cal l.prog w K mg base "rows" 7 (qkv qk qy qh):=d_rows.cal X G xxp λf fd F=>xx7 F T c3 c15 c12 c7 c16
  have c18:Cal l.prog w K mg base "common_divisor" 1 qz8:=d_common_divisor.cal X G W9 λf fd F=>ok_gcd F T
  have c19:Cal l.prog w K mg base "lowest" 2 (uf qx):=d_lowest.cal X G wv8 λf fd F=>wkt F T c4 c18
  have c20:Cal l.prog w K mg base "ordered" 6 (xqv K TT qx):=d_ordered.cal X G wq5 λf fd F=>ok_ord F T hB hC c4
  have c21:MCal l.prog w K mg base qk "on_road" 3 (W4 K qk qx qd):=m_Road_on_road.cal Jp λf fd F=>wq0 F T c7 c19
  have c22:MCal l.prog w K mg base qk "at" 4 (spAt K qk qx qd):=m_Road_at.cal wqp λf fd F=>ok_at F T c7 c19 c8 c21
  have c23:Cal l.prog w K mg base "walked" 5 (qxc K qk qx qd qy):=d_walked.cal X G wk7 λf fd F=>wk0 F T c3 c21 c22
  have c24:Cal l.prog w K mg base "corners_back" 6 (qv7 qk):=d_corners_back.cal X G qqx λf fd F=>xq3 F T c7 c23
  have c25:Cal l.prog w K mg base "lies_in" 1 (wwd K):=d_lies_in.cal X G wqg λf fd F=>xw7 F T
  have c26:Cal l.prog w K mg base "line_along" 4 (qjz K qk):=d_line_along.cal X G qzg λf fd F=>wy2 F T c10 c8
  have c27:Cal l.prog w K mg base "fixed_point" 5 (qqb K qk):=d_fixed_point.cal X G qwf λf fd F=>xq8 F T c26 c19
  have c28:Cal l.prog w K mg base "back" 8 (wq3 qk TT):=d_back.cal X G xxz λf fd F=>xx2 F T c17 c27 c24 c25 c20
  have c29:Cal l.prog w K mg base "_law_climb" 3 (qqy K):=d__law_climb.cal X G qx8 λf fd F=>wud F T c2
  have c30:Cal l.prog w K mg base "_law_heights" 4 (Y5 K):=d__law_heights.cal X G Jn λf fd F=>wqu F T c2 c29
  have c31:Cal l.prog w K mg base "_law_whole" 1 qqg:=d__law_whole.cal X G qz3 λf fd F=>wy6 F T
  have c32:Cal l.prog w K mg base "_law_common" 1 qz8:=d__law_common.cal X G qxs λf fd F=>wv3 F T
  have c33:Cal l.prog w K mg base "_law_point" 2 (qkz K):=d__law_point.cal X G qzw λf fd F=>xqt F T c31 c32
  have c34:Cal l.prog w K mg base "_law_points" 3 (qw6 K):=d__law_points.cal X G qw5 λf fd F=>wjj F T c33
  have c35:Cal l.prog w K mg base "_law_numbers" 2 (Jz K):=d__law_numbers.cal X G Js λf fd F=>ww5 F T c31
  have c36:Cal l.prog w K mg base "_law_crowds" 1 (qwh K):=d__law_crowds.cal X G qxj λf fd F=>wkd F T
  have c37:Cal l.prog w K mg base "_law_times" 2 (qv4 K):=d__law_times.cal X G qzx λf fd F=>wu5 F T c36
  have c38:Cal l.prog w K mg base "check_row" 5 (W0 K qk qc):=d_check_row.cal X G qkq λf fd F=>qyq F T c11
  have c39:Cal l.prog w K mg base "point_of" 6 (Z9 K qk qc):=d_point_of.cal X G qy6 λf fd F=>wwj F T c38 c27
  exact ok_law F T c2 c30 c6 c37 c28 c34 c35 c17 c39
theorem walk {l:PySem.W.OpenLaw}{q:Ac}{loose:List Str}{XP:(Str→Option Value)→Heap→Prop}{YP:World→Heap→Prop}{d:DefRec}{K:Params→Aa}{cO TT:Addr}(hn:l.most=some 63)(hdf:d.params.defaults=[])
  (hY:∀(w:World) (h:Heap),YP w h→(K w.params).In h∧h.get? TT=some (PySem.W.tabObj #[])) (hcT:∀p,PySem.W.codeHdIn (K p) cO TT=true) (hKT:∀p,(K p).lookup TT=none)
  (F:∀(w:World) (mg:Str→Option Value) (fa:Addr) (h:Heap),(K w.params).In h→h.Ns mainGlobals mg→mg d.name=some (.ref fa) →
   ∃fd:Ad,(∀(s:Ab) (u:Value),BindsTo s fd ⟨[u],[]⟩ [("_law_script",u)])∧∀base:Heap,(K w.params).In base→base.Ns mainGlobals mg→BMain mg base→FnOk l.prog w (K w.params) mg base (CXE l.prog w) 9 fa fd ["_law_script"] (qk7 (K w.params) TT)) :
  PySem.W.WalkO q loose XP YP l.row.toRowW d [] (λf vs=>PySem.call f vs) :=
 L2.wuq (n:=63) (k:=9) (x := "_law_script") (CX:=λw=>CXE l.prog w) (sp:=λw=>qk7 (K w.params) TT) hn (by decide) hdf ⟨rfl,by decide,by decide⟩ hY hcT hKT F (λ_ _ a ns hl hT hS=>⟨a,ns,rfl,hS,hl,hT,λ_=>rfl⟩) λ_ _ _ _ _ z=>CXE.no z
end
end My
open PySem PySem.W PyProof.Rows
local macro_rules | `(tactic| walk_at "defT")=>`(tactic| (refine' L2.xzh ?a ?l ?c ?k;(case a=>k_is);(case l=>k_is);(case c=>k_is);(case k=>k_is)))
local macro_rules | `(tactic| walk_at "def")=>`(tactic| (refine' L2.def_mk ?a ?l ?c ?k;(case a=>k_is);(case l=>k_is);(case c=>k_is);(case k=>k_is)))
local macro_rules | `(tactic| walk_at "defD")=>`(tactic| (refine' L2.xxy ?a ?l ?c ?k ?t;(case a=>k_is);(case l=>k_is);(case c=>k_is);(case k=>k_is);(case t=>k_is)))
local macro_rules | `(tactic| walk_at "meth")=>`(tactic| (refine' L2.xzv ?a ?i ?l ?c ?k;(case a=>k_is);(case i=>k_is);(case l=>k_is);(case c=>k_is);(case k=>k_is)))
namespace PySem.W.Fast
theorem tw2316382643300399693:True:=trivial
theorem tw573469055033735160:True:=trivial
theorem tw10220717651628356546:True:=trivial
theorem tw7284702730857175517:True:=trivial
theorem tw5144867677169062896:True:=trivial
theorem tw10953965964573123418:True:=trivial
theorem tw15122310172508593410:True:=trivial
theorem tw5902394232040362115:True:=trivial
theorem tw5630955287965380358:True:=trivial
theorem tw11820462483894118516:True:=trivial
theorem tw2550830093408387712:True:=trivial
theorem tw5157982403784526830:True:=trivial
theorem tw12948854645219289055:True:=trivial
theorem tw14084627511265496284:True:=trivial
theorem tw7324390864235582460:True:=trivial
theorem tw8714233412165005514:True:=trivial
theorem tw5549784711418618506:True:=trivial
theorem tw4022805107416660312:True:=trivial
theorem tw6415223392180797977:True:=trivial
theorem tw2539835619184699547:True:=trivial
theorem tw15487396076842517068:True:=trivial
theorem tw8017273585590788370:True:=trivial
theorem tw15395263747702263905:True:=trivial
theorem tw12287370091761596937:True:=trivial
theorem tw15105201334043466329:True:=trivial
theorem tw8962247439128615716:True:=trivial
theorem tw13439930533529650241:True:=trivial
theorem tw11890332864494922973:True:=trivial
theorem tw2617972096919568791:True:=trivial
theorem tw15003125053127730555:True:=trivial
theorem tw8165657535282923329:True:=trivial
theorem tw4393771285580000722:True:=trivial
theorem tw3503861847422692805:True:=trivial
theorem tw17267951831678017920:True:=trivial
theorem tw8955823232775114119:True:=trivial
theorem tw6370060942630524506:True:=trivial
theorem tw12354198754813243886:True:=trivial
theorem tw1037357273836170835:True:=trivial
theorem tw668955810736710271:True:=trivial
theorem tw232593798175123836:True:=trivial
theorem tw1945980302746080458:True:=trivial
theorem tw7385284289066365961:True:=trivial
theorem tw1981734756926360831:True:=trivial
theorem tw12226691189819869915:True:=trivial
theorem tw8425004501401379873:True:=trivial
theorem tw2574766334043769031:True:=trivial
theorem tw8581091523011347249:True:=trivial
theorem tw14230380754533837164:True:=trivial
theorem tw17010521021715355213:True:=trivial
theorem tw13689716235657327414:True:=trivial
theorem tw10986992753778301991:True:=trivial
theorem tw4971408661269268238:True:=trivial
theorem tw8154711492554957874:True:=trivial
theorem tw16464482222427774116:True:=trivial
theorem tw11807982014158197330:True:=trivial
theorem tw16857277265095694276:True:=trivial
theorem tw5284390455334894775:True:=trivial
theorem tw14359736336241713994:True:=trivial
theorem tw8638340297561927562:True:=trivial
theorem tw18196365237403418726:True:=trivial
theorem tw17972881242534601365:True:=trivial
theorem tw4383903203329053700:True:=trivial
theorem tw6483116760699376988:True:=trivial
theorem tw13909965394700627391:True:=trivial
theorem tw8497296556794488347:True:=trivial
theorem tw1880835086189084305:True:=trivial
theorem tw2893545757965992507:True:=trivial
theorem tw13965559749146084826:True:=trivial
theorem tw3954050913446973665:True:=trivial
theorem tw4625952767632318565:True:=trivial
theorem tw5201125887954637875:True:=trivial
theorem tw17279840425754222648:True:=trivial
theorem tw4851808206491126031:True:=trivial
theorem tw4521276019039035606:True:=trivial
theorem tw7856605006639777019:True:=trivial
theorem tw9010144725814109168:True:=trivial
theorem tw18401925454567740667:True:=trivial
theorem tw6691947757940913595:True:=trivial
theorem tw6119654782121581944:True:=trivial
theorem tw923316102572179233:True:=trivial
theorem tw11494262351092092193:True:=trivial
theorem tw9642156181171768274:True:=trivial
theorem tw15846868479218229947:True:=trivial
end PySem.W.Fast
set_option maxRecDepth 100000 in
set_option maxHeartbeats 0 in
theorem PySem.Challenge.cw_crookroad_k24_whole_rows_and_points_holds : PySem.Challenge.rw_crookroad_k24_whole_rows_and_points.Holds := by
 w_on;o_law;k_head;(case hw=>w_witness2)
 k_fill
 refine My.walk (l:=PySem.Challenge.rw_crookroad_k24_whole_rows_and_points) (cO:=171) (TT:=169) rfl rfl (fun w h Y=>⟨PySem.W.km_in_of Y,PySem.W.km_tabs_of Y 169 (.head _)⟩) (fun p=>by kernel_rfl) (fun p=>by kernel_rfl) ?F
 case F =>
  intro w mg fa h KX G hmg
  refine' My.all_mk (cO:=171) (TT:=169) KX G hmg ?d__law_cell ?d__law_pick ?d_check_count ?d_check_bottom ?d_is_line ?d_covered ?d_covers_of ?d_ways_of_no_step ?d_one_step_more ?d_ways_up_to ?d_rows_from ?d_rows ?d_common_divisor ?d_lowest ?d_ordered ?hC ?d_walked ?d_corners_back ?d_lies_in ?d_line_along ?d_fixed_point ?d_back ?d__law_climb ?d__law_heights ?d__law_whole ?d__law_common ?d__law_point ?d__law_points ?d__law_numbers ?d__law_crowds ?d__law_times ?d_check_row ?d_point_of ?d_law ?a_BadLine ?x_BadLine ?a_BadBottom ?x_BadBottom ?a_OffRoad ?x_OffRoad ?a_BadCount ?x_BadCount ?a_TooLong ?x_TooLong ?a_BadRow ?x_BadRow ?a_Road ?pg_Road ?hd_Road ?po_Road ?sa_Road ?mk_Road ?kc_Road ?m_Road___init__ ?m_Road_width ?m_Road_ends ?m_Road_reach ?m_Road_slope ?m_Road_on_road ?m_Road_at ?na_Road_heights ?g_WIDEST ?g_LONGEST_ROW ?g_MOST_WAYS ?g_MOST_WALKED ?z_len ?z_set ?z_abs ?z_range ?z_isinstance ?z_int ?z_bool ?z_list ?z_tuple ?z_min ?z_max ?z_all ?z_any ?z_sum ?z_sorted ?z_zip
  (case d__law_cell=>walk_at "def")
  (case d__law_pick=>walk_at "def")
  (case d_check_count=>walk_at "defD")
  (case d_check_bottom=>walk_at "def")
  (case d_is_line=>walk_at "def")
  (case d_covered=>walk_at "def")
  (case d_covers_of=>walk_at "def")
  (case d_ways_of_no_step=>walk_at "def")
  (case d_one_step_more=>walk_at "def")
  (case d_ways_up_to=>walk_at "def")
  (case d_rows_from=>walk_at "def")
  (case d_rows=>walk_at "def")
  (case d_common_divisor=>walk_at "def")
  (case d_lowest=>walk_at "def")
  (case d_ordered=>walk_at "defT")
  (case hC=>exact (by kernel_rfl))
  (case d_walked=>walk_at "def")
  (case d_corners_back=>walk_at "def")
  (case d_lies_in=>walk_at "def")
  (case d_line_along=>walk_at "def")
  (case d_fixed_point=>walk_at "def")
  (case d_back=>walk_at "def")
  (case d__law_climb=>walk_at "def")
  (case d__law_heights=>walk_at "def")
  (case d__law_whole=>walk_at "def")
  (case d__law_common=>walk_at "def")
  (case d__law_point=>walk_at "def")
  (case d__law_points=>walk_at "def")
  (case d__law_numbers=>walk_at "def")
  (case d__law_crowds=>walk_at "def")
  (case d__law_times=>walk_at "def")
  (case d_check_row=>walk_at "def")
  (case d_point_of=>walk_at "def")
  (case d_law=>walk_at "def")
  (case a_BadLine=>k_is)
  (case x_BadLine=>k_exc)
  (case a_BadBottom=>k_is)
  (case x_BadBottom=>k_exc)
  (case a_OffRoad=>k_is)
  (case x_OffRoad=>k_exc)
  (case a_BadCount=>k_is)
  (case x_BadCount=>k_exc)
  (case a_TooLong=>k_is)
  (case x_TooLong=>k_exc)
  (case a_BadRow=>k_is)
  (case x_BadRow=>k_exc)
  (case a_Road=>k_is)
  (case pg_Road=>k_is)
  (case hd_Road=>k_is)
  (case po_Road=>k_is)
  (case sa_Road=>k_is)
  (case mk_Road=>k_is)
  (case kc_Road=>k_is)
  (case m_Road___init__=>walk_at "meth")
  (case m_Road_width=>walk_at "meth")
  (case m_Road_ends=>walk_at "meth")
  (case m_Road_reach=>walk_at "meth")
  (case m_Road_slope=>walk_at "meth")
  (case m_Road_on_road=>walk_at "meth")
  (case m_Road_at=>walk_at "meth")
  (case na_Road_heights=>k_is)
  (case g_WIDEST=>k_is)
  (case g_LONGEST_ROW=>k_is)
  (case g_MOST_WAYS=>k_is)
  (case g_MOST_WALKED=>k_is)
  (case z_len=>k_is)
  (case z_set=>k_is)
  (case z_abs=>k_is)
  (case z_range=>k_is)
  (case z_isinstance=>k_is)
  (case z_int=>k_is)
  (case z_bool=>k_is)
  (case z_list=>k_is)
  (case z_tuple=>k_is)
  (case z_min=>k_is)
  (case z_max=>k_is)
  (case z_all=>k_is)
  (case z_any=>k_is)
  (case z_sum=>k_is)
  (case z_sorted=>k_is)
  (case z_zip=>k_is)
