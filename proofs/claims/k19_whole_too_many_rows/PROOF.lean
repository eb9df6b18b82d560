import PyProof.Rows.All
import Wide.All
import OpenK.AllK
import Wide.FinOn
import Lean
import PyProof.EqAt
import PyProof.EqKinds
import PyProof.TupleCall
import PyProof.NeData
import KE.IntBitsLaws
import PyProof.SetRoads
import KE.KDictList
import PyProof.Rows.SortShell
import PyProof.Rows.SortRuns
import PyProof.Rows.Walk
import KE.KStateDown
import KE.KSortTup
import KE.KLam
import KE.KNestM
import PySem.Challenge.RW_crookroad_k19_whole_too_many_rows
set_option Elab.async false
set_option linter.all false
set_option maxRecDepth 100000
local macro_rules|`(tactic|lia)=>`(tactic|first|lia +splitIte|omega)
def aa:=@PySem.wpAny_bind
def ae:=@List.getElem?_eq_getElem
def af:=@List.getD_eq_getElem?_getD
def ag:=@List.length_map
def ah:=@PySem.wpAny_pure
def ai:=@PySem.Heap.get?_push_of_some
def aj:=@Nat.le_refl
def ak:=@List.getElem?_eq_some_iff
def al:=@PySem.Heap.lt_size
def am:=@List.length_append
def ao:=@if_neg
def aq:=@Option.some.inj
def ar:=@List.size_toArray
def au:=@List.mem_range
def av:=@if_pos
def aw:=@PyProof.Rows.wpS_bind
def ax:=@List.getElem?_map
def ay:=@PyProof.Rows.wpS_pure
def az:=@PySem.Heap.get?_push_size
def aA:=@List.getElem?_append_right
def aB:=@Nat.ne_of_lt
def aC:=@List.mem_of_getElem?
def aD:=@Array.getElem?_toList
def aE:=@Bool.false_ne_true
def aF:=@List.mem_append_right
def aG:=@Bool.false_eq_true
def aH:=@List.length_range
def aI:=@Nat.lt_of_lt_of_le
def aJ:=@List.mem_singleton
def aK:=@List.getElem?_eq_none
def aL:=@PySem.wpAny_mono
def aM:=@List.mem_cons
def aN:=@List.map_cons
def aO:=@List.mem_map
def aP:=@List.getElem?_append_left
def aQ:=@List.length_cons
def aR:=@Int.mul_le_mul_of_nonneg_right
def aS:=@Array.length_toList
def aT:=@decide_eq_true
def aU:=@List.mem_append
def aV:=@Nat.zero_le
def aW:=@Nat.lt_irrefl
def aX:=@List.append_assoc
def aY:=@Array.getElem?_eq_getElem
def aZ:=@Int.mul_le_mul_of_nonneg_left
def ba:=@List.length_take
def bb:=@List.pairwise_iff_getElem
def be:=@List.map_append
def bf:=@Nat.le_of_lt
def bg:=@Nat.lt_trans
def bh:=@List.pairwise_append
def bi:=@Array.getElem?_eq_some_iff
def bj:=@PySem.W.mg_none_of
def bn:=@Nat.lt_or_ge
def bo:=@List.lookup_cons
def bp:=@decide_eq_false
def br:=@List.getElem?_range
def bu:=@List.getElem_mem
def bv:=@List.take_length
def bw:=@PySem.wpAny_setState_of
def bz:=@PySem.PassesOwn.leaving
def bA:=@Int.emod_lt_of_pos
def bB:=@Nat.le_trans
def bD:=@List.mem_cons_of_mem
def bE:=@if_false
def bF:=@List.mem_filter
def bG:=@Int.toNat_natCast
def bH:=@PySem.boot_len
def bI:=@PySem.W.mg_of
def bJ:=@Array.toList_append
def bK:=@PySem.Heap.get?_update_ne
def bL:=@List.getElem?_of_mem
def bM:=@List.ext_getElem?
def bN:=@PyProof.Rows.callWith_type1
def bO:=@Array.getD_eq_getD_getElem?
def bP:=@List.map_map
def bQ:=@List.append_nil
def bR:=@Int.emod_nonneg
def bS:=@List.length_drop
def bT:=@PySem.Paired.length
def bU:=@PySem.wpAny_newObj_type
def bV:=@List.pairwise_map
def bW:=@List.mem_append_left
def bX:=@PySem.Heap.get?_update_other
def bY:=@PyProof.Rows.wpS_forRange
def bZ:=@List.Pairwise.imp_of_mem
def b7:=@PySem.wpAny_holding
def b8:=@beq_eq_false_iff_ne
def b9:=@Int.toNat_of_nonneg
def ca:=@PySem.Heap.SameBut.update
def cf:=@List.length_singleton
def cg:=@of_decide_eq_true
def cn:=@PySem.F.plainAttrs_list
def cu:=@Int.add_mul
def cw:=@Int.one_mul
def cx:=@List.range_succ
def cy:=@Bool.and_eq_true
def cz:=@congrArg
def cA:=@PySem.Heap.get?_update_self
def cB:=@PyProof.Rows.boot_min
def cC:=@PySem.F.slot_list_append
def cD:=@PySem.F.type_list_append
def cE:=@Nat.zero_add
def cG:=@PySem.F.slot_dict_keyiterator_next
def cH:=@PySem.Obj.data_mapFields
def cI:=@PySem.wpAny_call_entry
def cJ:=@List.mem_of_mem_drop
def cK:=@Nat.add_sub_cancel_left
def cL:=@PySem.wpAny_standAt
def cM:=@List.sum_cons
def cN:=@PySem.Heap.size_push
def cP:=@Int.lt_or_le
def cQ:=@List.take_of_length_le
def cR:=@List.Perm.append_right
def cS:=@List.take_append_drop
def cT:=@List.Perm.append_left
def cU:=@PyProof.Rows.boot_max
def cV:=@PySem.wpAny_Call_Name_kw
def cW:=@List.getElem?_drop
def cX:=@Nat.pow_le_pow_right
def cY:=@PySem.lookup_relabel_local
def cZ:=@Int.mul_nonneg
def c0:=@Int.le_refl
def da:=@List.mem_of_mem_take
def dc:=@PySem.wpAny_typeNameOfWhole_keyiter
def de:=@Ne.symm
def df:=@PySem.wpAny_truthy_bool
def dh:=@Nat.le_of_lt_succ
def di:=@Array.toList_push
def dj:=@PySem.wpAny_callSpecial?_slot
def dk:=@List.flatten_cons
def dr:=@List.take_add_one
def dt:=@PySem.wpAny_rule
def du:=@List.nodup_cons
def dv:=@PySem.mem_of_lookup
def dw:=@List.getElem_of_mem
def dz:=@if_true
def dA:=@Nat.pow_succ
def dB:=@Array.getElem?_eq_none
def dC:=@PySem.sizeLine_eq
def dD:=@List.mem_cons_self
def dE:=@List.getElem?_take
def dF:=@Array.perm_iff_toList_perm
def dG:=@List.perm_append_comm
def dH:=@List.length_filter_le
def dI:=@PySem.wpAny_passesOwn
def dJ:=@List.map_nil
def dL:=@Array.toList_extract
def dM:=@Int.le_trans
def dN:=@PySem.wpAny_typeNameOf_keyiter
def dO:=@List.filterMap_cons
def dP:=@List.map_congr_left
def dQ:=@Nat.lt_succ_self
def dR:=@List.any_eq_true
def dS:=@Array.toList_inj
def dU:=@PySem.wpAny_setField
def dW:=@List.pairwise_singleton
def dX:=@PySem.F.plain_max_loop
def dY:=@List.eq_nil_of_length_eq_zero
def dZ:=@Int.mul_le_mul_of_nonpos_left
def d6:=@Nat.lt_of_le_of_lt
def d7:=@Nat.succ_pos
def d8:=@PyProof.Rows.boot_list
def d9:=@Option.map_eq_some_iff
def ee:=@Bool.eq_iff_iff
def eo:=@Int.mul_ediv_mul_of_pos_left
def eA:=@List.find?_cons
def eB:=@List.length_nil
def eC:=@PyProof.Rows.wpS_mono
def eD:=@PyProof.Rows.get?_update_seq
def eE:=@List.dropLast_concat_getLast
def eF:=@PySem.wpAny_attempt
def eG:=@PyProof.Rows.listUpdate_at
def eI:=@PySem.Obj.isFreed_of_fields
def eJ:=@bne_self_eq_false
def eK:=@Nat.lt_succ_of_lt
def eL:=@Nat.mod_two_eq_zero_or_one
def eM:=@PySem.F.excBase_ValueError
def eN:=@Nat.ne_of_gt
def eO:=@PySem.codeAny_mono
def eP:=@Nat.mod_eq_of_lt
def eQ:=@Int.mul_comm
def eR:=@beq_self_eq_true
def eS:=@PySem.wpAny_askSetting
def eT:=@List.filter_cons
def eU:=@List.drop_eq_getElem_cons
def eV:=@List.getElem?_eq_none_iff
def eW:=@PySem.W.hideAll_get
def eX:=@List.reverse_append
def eY:=@PySem.F.args_tuple_add_2
def eZ:=@PySem.wpAny_comprehension_free
def e7:=@PyProof.Rows.boot_sorted
def e8:=@PySem.wpAny_execs_nil
def ff:=@PySem.wpAny_ite_split
def fh:=@PySem.W.of_hideAll
def fi:=@List.mem_filterMap
def fj:=@beq_iff_eq
def fk:=@Nat.mod_lt
def fm:=@Array.forIn_toList
def fu:=@PyProof.Rows.wpS_modify
def fv:=@PySem.F.entry_tuple_add
def fA:=@decide_eq_false_iff_not
def fB:=@Int.eq_ofNat_of_zero_le
def fC:=@PySem.F.slot_tuple_add
def fE:=@Int.natAbs_mul
def fF:=@Int.le_of_lt
def fG:=@Int.le_ediv_iff_mul_le
def fH:=@PySem.wpAny_storeSet_of
def fI:=@PySem.wpAny_dictEntries
def fJ:=@PySem.codeAny_handlers_test
def fL:=@List.nodup_range
def fM:=@List.getElem_map
def fN:=@PySem.F.args_dict_keyiterator_next_1
def fO:=@Bool.not_true
def fP:=@PyProof.Rows.wpS_get
def fQ:=@PySem.wpAny_newList
def fR:=@Array.mem_toList_iff
def fS:=@Int.mul_ediv_cancel'
def fT:=@PySem.wpAny_newFunctionEnv
def fU:=@PySem.F.entry_dict_keyiterator_next
def fV:=@PySem.wpAny_letGo
def fW:=@PySem.Around.under_plainId
def fX:=@Nat.not_lt_zero
def fY:=@Array.getElem?_setIfInBounds
def fZ:=@PySem.codeAny_builtin
def ge:=@PySem.W.plainGet_of
def gf:=@List.flatMap_append
def gh:=@PySem.wpAny_handleBy_cons
def gk:=@Nat.sub_self
def gm:=@Array.append_assoc
def gu:=@PyProof.Rows.assignInOrder_cons
def gv:=@Bool.and_false
def gz:=@Nat.add_right_comm
def gC:=@PySem.W.callWith_K
def gD:=@Int.mul_lt_mul_of_pos_left
def gE:=@PySem.tupleKind_room_in1
def gF:=@PySem.wpAny_seqItems
def gG:=@Nat.add_sub_cancel
def gH:=@PySem.wpAny_fieldsOf
def gI:=@PyProof.Rows.wpS_lift
def gJ:=@List.filter_append
def gK:=@Int.le_of_mul_le_mul_right
def gL:=@List.take_zero
def gM:=@Classical.byContradiction
def gO:=@List.getLastD_eq_getLast?
def gP:=@Int.mul_neg_of_pos_of_neg
def gQ:=@Int.mul_pos_of_neg_of_neg
def gR:=@PySem.wpAny_assign_Name
def gS:=@PySem.wpAny_pyIter_list
def gU:=@PySem.Heap.SameBut.refl
def gW:=@Nat.lt_trichotomy
def gX:=@PySem.Obj.cls_mapFields
def gY:=@PySem.wpAny_pyIter_slot
def gZ:=@Bool.not_eq_true'
def g8:=@PyProof.Rows.seqEpoch_at
def g9:=@List.getElem?_take_of_lt
def hU:=@PySem.eval_ListComp
def hX:=@Array.size_setIfInBounds
def h9:=@List.cons.inj
def ic:=@PySem.plainId_quiet
def ie:=@PySem.wpAny_execs_cons
def ig:=@PySem.noFill_tuple_add
def ii:=@Int.natCast_dvd_natCast
def ij:=@PySem.wpAny_forIn_list
def ik:=@List.getElem?_cons_succ
def im:=@Bool.not_eq_true
def io:=@PySem.wpAny_isInstance
def iq:=@Nat.le_add_right
def ir:=@PySem.Heap.size_update
def iu:=@List.getLast_eq_getElem
def iw:=@Nat.le_mul_of_pos_right
def iz:=@Int.dvd_mul_left
def iA:=@Int.ediv_one
def iB:=@List.of_mem_zip
def iC:=@Nat.two_pow_pos
def iD:=@Int.natCast_mul
def iE:=@Int.ediv_nonneg
def iF:=@PySem.wpAny_specialOf
def iG:=@PySem.wpAny_dictEpoch
def iH:=@List.sum_append
def iI:=@Int.ediv_mul_le
def iJ:=@PySem.wpAny_updateSeq
def iK:=@Nat.min_eq_left
def iL:=@Bool.false_and
def iM:=@Nat.le_succ
def iN:=@PySem.intItems_at
def iO:=@PySem.numAt_eq
def iP:=@List.nodup_nil
def iQ:=@Bool.not_false
def iS:=@Int.mul_le_mul
def iU:=@PySem.wpAny_field
def iV:=@Int.mul_sub
def iW:=@Int.sub_mul
def iY:=@Int.mul_assoc
def iZ:=@List.any_cons
def i3:=@Bool.and_self
def i4:=@Int.lt_irrefl
def i9:=@Prod.ext
section
open PySem PySem.Spec PyProof.Rows
abbrev Aa:=PySem.W.Frag
abbrev Ab:=PySem.Shared
abbrev Ac:=PySem.Program
abbrev Ad:=PySem.FuncData
abbrev Ae:=Around
abbrev Af:=SortSt
abbrev Ag:=Value
abbrev Ah:=World
abbrev Ai:=Keyed
abbrev Aj:=Addr
end
namespace L2
theorem exI {α:Sort _}{A K:α→Prop}{v:α}(e:A v)(h:K v):∃x,A x∧K x:=⟨v,e,h⟩
theorem wy {α β:Sort _}{A:α→Prop}{B:β→Prop}{K:α→β→Prop}{u:α}{v:β}(a:A u)(b:B v)(h:K u v):∃x y,A x∧B y∧K x y:=⟨u,v,a,b,h⟩
theorem exX {α β γ δ:Sort _}{A:α→Prop}{B:γ→Prop}{C:α→β→Prop}{D:β→γ→δ→Prop}{K:δ→Prop}{p:α}{xs:β}{i:γ}{v:δ}(a:A p)(b:B i)(c:C p xs)(d:D xs i v)(h:K v):∃p xs i v,A p∧B i∧C p xs∧D xs i v∧K v:=⟨p,xs,i,v,a,b,c,d,h⟩
end L2
namespace L2
open PySem PySem.Spec PyProof.Rows
abbrev Key:=Sum Int Str
def qzp:Key→Ag→Bool
 |.inl k,v=>Value.isInt k v
 |.inr x,v=>Value.isStrOf x v
def keyH (w:Ah):Key→Int
 |.inl k=>hashInt k
 |.inr x=>hashStr w x
theorem zd:∀ {k:Key} {v:Ag},qzp k v=true→(∃i t,k=Sum.inl i∧v=Value.int i t)∨(∃x t,k=Sum.inr x∧v=Value.str x t)
 |.inl i,v,h=>by
  obtain ⟨t,e⟩:=Value.isInt_shape (k:=i) (v:=v) h
  exact .inl ⟨i,t,rfl,e⟩
 |.inr x,v,h=>by
  obtain ⟨t,e⟩:=Value.isStrOf_shape (x:=x) (v:=v) h
  exact .inr ⟨x,t,rfl,e⟩
theorem wkz (i:Int)(t:Tok):qzp (.inl i) (.int i t)=true:=by simp [qzp,Value.isInt]
theorem wzd (x:Str)(t:Tok):qzp (.inr x) (.str x t)=true:=by simp [qzp,Value.isStrOf]
theorem key_ll (a b:Int):decide ((Sum.inl a:Key)=Sum.inl b)=(a==b):=by
 by_cases e:a=b
 ·subst e;simp
 ·have h:¬ (Sum.inl a:Key)=Sum.inl b:=λq=>e (Sum.inl.inj q)
  rw [bp h]
  exact (b8.mpr e).symm
theorem key_rr (a b:Str):decide ((Sum.inr a:Key)=Sum.inr b)=decide (a=b):=by
 by_cases e:a=b
 ·subst e;simp
 ·have h:¬ (Sum.inr a:Key)=Sum.inr b:=λq=>e (Sum.inr.inj q)
  rw [bp h,bp e]
theorem key_lr (a:Int)(b:Str):decide ((Sum.inl a:Key)=Sum.inr b)=false:=bp (λq=>nomatch q)
theorem key_rl (a:Str)(b:Int):decide ((Sum.inr a:Key)=Sum.inl b)=false:=bp (λq=>nomatch q)
def zr (prog:Ac)(w:Ah):PySem.KeyKind prog w Key where
 is:=qzp
 hash:=keyH w
 inj:=λv a b ha hb=>by
  rcases zd ha with ⟨i,t,rfl,rfl⟩|⟨x,t,rfl,rfl⟩
  ·rcases zd hb with ⟨j,u,rfl,e⟩|⟨y,u,rfl,e⟩
   ·injection e with e1 _;rw [e1]
   ·exact nomatch e
  ·rcases zd hb with ⟨j,u,rfl,e⟩|⟨y,u,rfl,e⟩
   ·exact nomatch e
   ·injection e with e1 _;rw [e1]
 byValue:=λk v h=>by
  rcases zd h with ⟨i,t,rfl,rfl⟩|⟨x,t,rfl,rfl⟩ <;> rfl
 pyHash:=λhv h=>by
  rcases zd hv with ⟨i,t,rfl,rfl⟩|⟨x,t,rfl,rfl⟩
  ·exact wpAny_pyHash_int h
  ·exact wpAny_pyHash_str h
 eqBool:=λhu hv h=>by
  rcases zd hu with ⟨i,t,rfl,rfl⟩|⟨x,t,rfl,rfl⟩
  ·rcases zd hv with ⟨j,u,rfl,rfl⟩|⟨y,u,rfl,rfl⟩
   ·rw [key_ll] at h;exact wpAny_eqBool_int h
   ·rw [key_lr] at h;exact SeqAt.EqAt.int_str i t y u _ _ _ _ h
  ·rcases zd hv with ⟨j,u,rfl,rfl⟩|⟨y,u,rfl,rfl⟩
   ·rw [key_rl] at h;exact SeqAt.EqAt.str_int x t j u _ _ _ _ h
   ·rw [key_rr] at h;exact wpAny_eqBool_str h
 «strs»:=λk x t v h=>by
  rcases zd h with ⟨i,u,rfl,e⟩|⟨y,u,rfl,e⟩
  ·exact nomatch e
  ·injection e with e1 _
   subst e1
   cases v <;> rfl
theorem quu (prog:Ac)(w:Ah)(i:Int)(t:Tok):(zr prog w).is (.inl i) (.int i t)=true:=wkz i t
theorem qy9 (prog:Ac)(w:Ah)(x:Str)(t:Tok):(zr prog w).is (.inr x) (.str x t)=true:=wzd x t
inductive V where
 |non|bl (b:Bool)|int (i:Int)|str (x:Str)|byt (b:Array UInt8)|flt (b:UInt64)|ref (a:Aj)|ty (n:String)
 deriving DecidableEq
def RelV:V→Ag→Prop
 |.non,u=>u=Value.none
 |.bl b,u=>u=Value.bool b
 |.int i,u=>∃t,u=Value.int i t
 |.str x,u=>∃t,u=Value.str x t
 |.byt b,u=>∃t,u=Value.bytes b t
 |.flt b,u=>∃t,u=Value.float b t
 |.ref a,u=>u=Value.ref a
 |.ty n,u=>u=Value.type n
abbrev Vals:List V→List Ag→Prop:=Paired RelV
theorem Vals.length {xs:List V}{us:List Ag}(r:Vals xs us):xs.length=us.length:=bT r
theorem Vals.get:∀ {xs:List V} {us:List Ag} {i:Nat} {x:V},Vals xs us→xs[i]?=some x→∃u,us[i]?=some u∧RelV x u
 |_,_,_,_,.nil,e=>by simp at e
 |_,_,0,_,.cons r _,e=>by simp at e;subst e;exact ⟨_,rfl,r⟩
 |_,_,i+1,x,.cons _ t,e=>by
  obtain ⟨u,h1,h2⟩:=Vals.get (i:=i) (x:=x) t (by simpa using e)
  exact ⟨u,by simpa using h1,h2⟩
theorem Vals.append:∀ {xs ys:List V} {us ws:List Ag},Vals xs us→Vals ys ws→Vals (xs++ys) (us++ws)
 |_,_,_,_,.nil,s=>s
 |_,_,_,_,.cons r t,s=>.cons r (Vals.append t s)
theorem Vals.take:∀ {xs:List V} {us:List Ag} (n:Nat),Vals xs us→Vals (xs.take n) (us.take n)
 |_,_,0,_=>.nil
 |_,_,_+1,.nil=>.nil
 |_,_,n+1,.cons r t=>.cons r (Vals.take n t)
theorem Vals.drop:∀ {xs:List V} {us:List Ag} (n:Nat),Vals xs us→Vals (xs.drop n) (us.drop n)
 |_,_,0,r=>r
 |_,_,_+1,.nil=>.nil
 |_,_,n+1,.cons _ t=>Vals.drop n t
def RelO:Option V→Option Ag→Prop
 |some v,some u=>RelV v u
 |none,none=>True
 |_,_=>False
def KV {κ:Type}:List (κ×V)→List (κ×Ag)→Prop:=Paired λ(p:κ×V) (q:κ×Ag)=>p.1=q.1∧RelV p.2 q.2
def kV:Key→V
 |.inl i=>.int i
 |.inr x=>.str x
inductive HO where
 |lst (xs:List V)
 |tup (xs:List V)
 |dK (kvs:List (Key×V))|dT (kvs:List (List Key×V))
 |set (S:Int→Bool) (n:Nat)
 |ins (C dx:Aj) (fs:List (Str×V))
 |own (x:Aj)
 |xd (fs:List (Str×V))
 |met (f x:Aj)
 |rng (lo hi:Int)
 |frz (o:Obj) (u:HO)
 |tbl (ps:Array Ag)
 |ext (φ:Heap→Prop)
abbrev Hp:=Aj→Option HO
def upd (H:Hp)(a:Aj)(o:HO):Hp:=λb=>if b=a then some o else H b
theorem qb {H:Hp}{a:Aj}{o:HO}:upd H a o a=some o:=by unfold upd;rw [av rfl]
theorem qr {H:Hp}{a b:Aj}{o:HO}(h:b≠a):upd H a o b=H b:=by unfold upd;rw [ao h]
theorem qvx {H:Hp}{a:Aj}{o u:HO}:upd (upd H a o) a u=upd H a u:=by
 funext b;unfold upd;split <;> rfl
theorem ne_of {H:Hp}{a b:Aj}{o u:HO}(h:H a=some o)(h':H b=some u)(d:o≠u):a≠b:=by
 intro e;subst e;rw [h] at h';exact d (aq h')
theorem q8 {H:Hp}{a b:Aj}{o:HO}(h:H a=some o)(h':H b=none):a≠b:=by
 intro e;subst e;rw [h] at h';cases h'
section
variable (P:Ac)(w:Ah)
def ObjOk (H:Hp)(h:Heap)(a:Aj):HO→Prop
 |.lst xs=>xs.length≤sizeLine∧∃(its:List Ag) (n:Nat),Vals xs its∧h.get? a=some { cls:=.type "list",data:=.seq its.toArray n }
 |.tup xs=>xs.length≤sizeLine∧∃its:List Ag,Vals xs its∧IsTup h a its.toArray
 |.dK kvs=>kvs.length≤sizeLine∧(a==sysModules)=false∧∃vs,KV kvs vs∧h.DictOf (zr P w) a vs
 |.dT kvs=>kvs.length≤sizeLine∧(a==sysModules)=false∧∃xs:List (List Key×Aj×Ag),
   Paired (λ(p:List Key×V) (q:List Key×Aj×Ag)=>p.1=q.1∧H q.2.1=some (.tup (p.1.map kV))∧RelV p.2 q.2.2) kvs xs ∧
   ∃o es ep,h.get? a=some o∧o.ExactDict∧o.data=.dict es ep∧es.toList=xs.map (entryOfKey (tupleKind (zr P w)))∧(xs.map (·.1)).Nodup
 |.set S n=>h.SetOf (intKind P w) a S n
 |.ins C dx fs=>H dx=some (.own a)∧fs.length≤1000∧dx≠a∧h.get? a=some (PySem.W.instObj C dx) ∧
   ∃mA,h.Ns1 dx mA∧(∀f,RelO (fs.lookup f) (mA f))∧PySem.Within mA (fs.map (·.1))
 |.own _=>∃o,h.get? a=some o
 |.xd fs=>∃mA,h.Ns1 a mA∧∀f,RelO (fs.lookup f) (mA f)
 |.rng lo hi=>∃t u v,h.get? a=some { cls:=.type "range",data:=.fields #[.int lo t,.int hi u,.int 1 v] }
 |.frz o u=>h.get? a=some o∧ObjOk H h a u
 |.tbl ps=>h.get? a=some { cls:=.none,data:=.fields ps }
 |.met f x=>h.get? a=some (PySem.W.methodObj (.ref f) (.ref x))
 |.ext φ=>φ h∧(∃o,h.get? a=some o)∧∀h1 h2:Heap,φ h1→(∀o,h1.get? a=some o→h2.get? a=some o)→φ h2
def HOk (H:Hp)(h:Heap):Prop:=∀a o,H a=some o→ObjOk P w H h a o
end
section
variable {P:Ac}{w:Ah}{H H':Hp}{h h':Heap}{a:Aj}{o:HO}
theorem ObjOk.lt (x:ObjOk P w H h a o):a<h.objs.size:=by
 cases o with
 |lst xs=>obtain ⟨_,_,_,_,e⟩:=x;exact al e
 |tup xs=>obtain ⟨_,_,_,p⟩:=x;exact p.lt
 |dK kvs=>obtain ⟨_,_,_,_,o,_,_,e,_⟩:=x;exact al e
 |dT kvs=>obtain ⟨_,_,_,_,o,_,_,e,_⟩:=x;exact al e
 |set S n=>obtain ⟨o,_,_,_,e,_⟩:=x;exact al e
 |ins C dx fs=>obtain ⟨_,_,_,e,_⟩:=x;exact al e
 |own y=>obtain ⟨_,e⟩:=x;exact al e
 |xd fs=>obtain ⟨_,⟨_,_,_,e,_⟩,_⟩:=x;exact al e
 |rng lo hi=>obtain ⟨_,_,_,e⟩:=x;exact al e
 |frz ob u=>obtain ⟨e,_⟩:=x;exact al e
 |tbl ps=>exact al (show h.get? a=some _ from x)
 |met f y=>exact al (show h.get? a=some _ from x)
 |ext φ=>obtain ⟨_,⟨_,e⟩,_⟩:=x;exact al e
theorem Paired.mapP {α β:Type}{F G:α→β→Prop}:∀ {l₁:List α} {l₂:List β},Paired F l₁ l₂→(∀a b,F a b→G a b)→Paired G l₁ l₂
 |_,_,.nil,_=>.nil
 |_,_,.cons r t,f=>.cons (f _ _ r) (Paired.mapP t f)
theorem ObjOk.stay (x:ObjOk P w H h a o)(k:∀b u,(b=a∨H b=some (.own a))→h.get? b=some u→h'.get? b=some u)
  (ho:∀b,H b=some (.own a)→H' b=some (.own a)) (ht:∀b xs,H b=some (.tup xs)→H' b=some (.tup xs)):ObjOk P w H' h' a o:=by
 induction o with
 |lst xs=>obtain ⟨z,its,n,r,e⟩:=x;exact ⟨z,its,n,r,k _ _ (.inl rfl) e⟩
 |tup xs=>obtain ⟨z,its,r,ob,e,c⟩:=x;exact ⟨z,its,r,ob,k _ _ (.inl rfl) e,c⟩
 |dK kvs=>obtain ⟨z,y,vs,r,ob,es,ep,e,c⟩:=x;exact ⟨z,y,vs,r,ob,es,ep,k _ _ (.inl rfl) e,c⟩
 |dT kvs =>
  obtain ⟨z,y,xs,r,ob,es,ep,e,c⟩:=x
  exact ⟨z,y,xs,Paired.mapP r λp q z=>⟨z.1,ht _ _ z.2.1,z.2.2⟩,ob,es,ep,k _ _ (.inl rfl) e,c⟩
 |set S n=>obtain ⟨ob,es,ep,t,e,c⟩:=x;exact ⟨ob,es,ep,t,k _ _ (.inl rfl) e,c⟩
 |ins C dx fs =>
  obtain ⟨d,z,ne,e,mA,⟨od,es,ep,e2,c⟩,r⟩:=x
  exact ⟨ho _ d,z,ne,k _ _ (.inl rfl) e,mA,⟨od,es,ep,k _ _ (.inr d) e2,c⟩,r⟩
 |own y=>obtain ⟨ob,e⟩:=x;exact ⟨ob,k _ _ (.inl rfl) e⟩
 |xd fs=>obtain ⟨mA,⟨od,es,ep,e,c⟩,r⟩:=x;exact ⟨mA,⟨od,es,ep,k _ _ (.inl rfl) e,c⟩,r⟩
 |rng lo hi=>obtain ⟨t,u,v,e⟩:=x;exact ⟨t,u,v,k _ _ (.inl rfl) e⟩
 |frz ob u ih=>obtain ⟨e,q⟩:=x;exact ⟨k _ _ (.inl rfl) e,ih q⟩
 |tbl ps =>
  have e:h.get? a=some { cls:=.none,data:=.fields ps }:=x
  show h'.get? a=some { cls:=.none,data:=.fields ps }
  exact k a _ (.inl rfl) e
 |met f y =>
  have e:h.get? a=some (PySem.W.methodObj (.ref f) (.ref y)):=x
  show h'.get? a=some (PySem.W.methodObj (.ref f) (.ref y))
  exact k a _ (.inl rfl) e
 |ext φ=>obtain ⟨p,⟨o,e⟩,st⟩:=x;exact ⟨st _ _ p λo q=>k _ _ (.inl rfl) q,⟨o,k _ _ (.inl rfl) e⟩,st⟩
theorem HOk.lt (x:HOk P w H h)(e:H a=some o):a<h.objs.size:=(x a o e).lt
theorem HOk.fresh (x:HOk P w H h)(e:h.objs.size≤a):H a=none:=by
 cases q:H a with
 |none=>rfl
 |some u=>exact absurd (aI (x.lt q) e) (aW _)
theorem HOk.kept (x:HOk P w H h)(k:∀b u,h.get? b=some u→h'.get? b=some u):HOk P w H h':=λa o e =>
 (x a o e).stay (λb u _ q=>k b u q) (λ_ q=>q) λ_ _ q=>q
theorem HOk.laid (x:HOk P w H h)(k:∀b u,h.get? b=some u→h'.get? b=some u)(hp:h.objs.size≤a)(new:ObjOk P w (upd H a o) h' a o):HOk P w (upd H a o) h':=λb u e=>by
 have hn:=x.fresh hp
 by_cases hb:b=a
 ·subst hb;rw [qb] at e;cases e;exact new
 ·rw [qr hb] at e
  exact (x b u e).stay (λc v _ q=>k c v q) (λc q=>by rw [qr (q8 q hn)];exact q) λc xs q=>by rw [qr (q8 q hn)];exact q
end
def Rd (H:Hp)(a:Aj)(u:HO):Prop:=H a=some u∨∃o,H a=some (.frz o u)
theorem Rd.ok {P:Ac}{w:Ah}{H:Hp}{h:Heap}{a:Aj}{u:HO}(r:Rd H a u)(x:HOk P w H h):ObjOk P w H h a u:=by
 rcases r with r|⟨o,r⟩
 ·exact x a u r
 ·obtain ⟨_,q⟩:=x a _ r
  exact q
def Mut:Option HO→Prop
 |some (.lst _)=>True
 |some (.dK _)=>True
 |some (.dT _)=>True
 |some (.set _ _)=>True
 |some (.ins _ _ _)=>True
 |some (.ext _)=>True
 |_=>False
section
variable {P:Ac}{w:Ah}{H:Hp}{h h':Heap}{x e:Aj}{o':HO}
theorem HOk.write (ok:HOk P w H h)(mu:Mut (H x))(he:e=x∨H e=some (.own x))(k:∀b u,b≠e→h.get? b=some u→h'.get? b=some u)(heo:∃u,h'.get? e=some u)
  (new:ObjOk P w (upd H x o') h' x o'):HOk P w (upd H x o') h':=λb u q=>by
 have nown:∀c y,H c=some (.own y)→c≠x:=λc y r z=>by subst z;rw [r] at mu;exact mu
 have ntup:∀c xs,H c=some (.tup xs)→c≠x:=λc xs r z=>by subst z;rw [r] at mu;exact mu
 by_cases hb:b=x
 ·subst hb;rw [qb] at q;cases q;exact new
 ·rw [qr hb] at q
  by_cases hbe:b=e
  ·have q':H b=some (.own x):=by
    rcases he with z|z
    ·exact absurd (hbe.trans z) hb
    ·rw [hbe];exact z
   rw [q] at q';cases q'
   obtain ⟨v,hv⟩:=heo
   exact ⟨v,by rw [hbe];exact hv⟩
  ·refine (ok b u q).stay (λc v hc r=>k c v ?_ r) (λc r=>by rw [qr (nown c b r)];exact r) λc xs r=>by rw [qr (ntup c xs r)];exact r
   rcases hc with rfl|hc
   ·exact hbe
   ·rintro rfl
    rcases he with z|z
    ·exact nown c b hc z
    ·rw [hc] at z;cases z;exact hb rfl
end
structure Un (fs ex:List Aj)(H H':Hp)(h h':Heap):Prop where
 keep:∀b o,h.get? b=some o→H b=none→b∉fs→b∉ex→h'.get? b=some o
 slot:∀b o,h.get? b=some o→H b=none→b∈fs→b∉ex→∃sl,h'.get? b=some { o with slots:=sl }
 free:∀b o,h.get? b=some o→H b=none→b∉ex→H' b=none
 there:∀b o,h.get? b=some o→b∉ex→∃o',h'.get? b=some o'
 tups:∀b xs,H b=some (.tup xs)→H' b=some (.tup xs)
 frzs:∀b o u,H b=some (.frz o u)→H' b=some (.frz o u)
 tbls:∀b ps,H b=some (.tbl ps)→∃more,H' b=some (.tbl (ps++more))
section
variable {fs fs' ex ex':List Aj}{H H1 H2:Hp}{h h1 h2 h':Heap}{a x e:Aj}{o:HO}
theorem Un.any (u:Un fs ex H H1 h h1){b:Aj}{ob:Obj}(q:h.get? b=some ob)(n:H b=none)(hx:b∉ex):∃sl,h1.get? b=some { ob with slots:=sl }:=by
 by_cases hb:b∈fs
 ·exact u.slot b ob q n hb hx
 ·exact ⟨ob.slots,u.keep b ob q n hb hx⟩
theorem Un.kept (k:∀b u,h.get? b=some u→h'.get? b=some u):Un fs ex H H h h' :=
 ⟨λb ob q _ _ _=>k b ob q,λb ob q _ _ _=>⟨ob.slots,k b ob q⟩,λ_ _ _ n _=>n,λb ob q _=>⟨ob,k b ob q⟩,λ_ _ q=>q,λ_ _ _ q=>q,λ_ ps q=>⟨#[],by rw [q];simp⟩⟩
theorem Un.refl:Un fs ex H H h h:=Un.kept λ_ _ q=>q
theorem Un.laid (k:∀b u,h.get? b=some u→h'.get? b=some u)(hp:h.objs.size≤a)(hn:H a=none):Un fs ex H (upd H a o) h h' where
 keep:=λb u q _ _ _=>k b u q
 slot:=λb u q _ _ _=>⟨u.slots,k b u q⟩
 free:=λb u q n _=>by rw [qr (aB (aI (al q) hp))];exact n
 there:=λb u q _=>⟨u,k b u q⟩
 tups:=λb xs q=>by rw [qr (q8 q hn)];exact q
 frzs:=λb u xs q=>by rw [qr (q8 q hn)];exact q
 tbls:=λb ps q=>⟨#[],by rw [qr (q8 q hn),q];simp⟩
theorem Un.write (mu:Mut (H x))(he:e=x∨H e=some (.own x))(k:∀b u,b≠e→h.get? b=some u→h'.get? b=some u)(heo:∃u,h'.get? e=some u):Un fs ex H (upd H x o) h h':=by
 have hx:∀b,H b=none→b≠x:=λb n z=>by subst z;rw [n] at mu;exact mu
 have hb:∀b,H b=none→b≠e:=λb n z=>by
  subst z
  rcases he with r|r
  ·exact hx b n r
  ·rw [n] at r;cases r
 have hm:∀b u,H b=some u→¬ Mut (some u)→b≠x:=λb u q nm z=>by subst z;rw [q] at mu;exact nm mu
 refine ⟨λb u q n _ _=>k b u (hb b n) q,λb u q n _ _=>⟨u.slots,k b u (hb b n) q⟩,λb u q n _=>by rw [qr (hx b n)];exact n,λb u q _=>?_,
  λb xs q=>by rw [qr (hm b _ q λz=>z)];exact q,λb u xs q=>by rw [qr (hm b _ q λz=>z)];exact q,λb ps q=>⟨#[],by rw [qr (hm b _ q λz=>z),q];simp⟩⟩
 by_cases hbe:b=e
 ·subst hbe;exact heo
 ·exact ⟨u,k b u hbe q⟩
end
def trk (h:Heap)(H:Hp):List Aj:=(List.range h.objs.size).filter λa=>(H a).isSome
def qxg (h:Heap)(H:Hp):Heap:=PySem.W.hideAll h (trk h H)
theorem wv3 (h:Heap)(H:Hp):(qxg h H).objs.size=h.objs.size:=PySem.W.hideAll_size _ _
theorem wkd {h:Heap}{H:Hp}{b:Aj}{o:Obj}(e:h.get? b=some o)(n:H b=none):(qxg h H).get? b=some o :=
 eW _ e λhm=>by
  have q:(H b).isSome=true:=(bF.mp hm).2
  rw [n] at q;simp at q
theorem xw0 {h:Heap}{H:Hp}{b:Aj}{o:Obj}(e:(qxg h H).get? b=some o):h.get? b=some o∧H b=none:=by
 have e':h.get? b=some o:=fh (trk h H) e
 refine ⟨e',?_⟩
 cases q:H b with
 |none=>rfl
 |some x =>
  have hm:b∈trk h H:=bF.mpr ⟨au.mpr (al e'),by simp [q]⟩
  have z:(qxg h H).get? b=none:=PySem.W.hideAll_none (trk h H) hm
  rw [z] at e;cases e
def xq9 (g h:Heap)(L:Aj):List (Aj×Obj):=(List.range h.objs.size).filterMap λa=>if a=L∨(g.get? a).isSome=true then none else (h.get? a).map λo=>(a,o)
def rest (g h:Heap)(L d:Aj):List (Aj×Obj):=(xq9 g h L).filter λp=>decide (p.1≠d)
structure Mod (K:Aa)(mg:Str→Option Ag)(base:Heap):Prop where
 kin:K.In base
 glob:base.Ns mainGlobals mg
 blt:∃mb,base.Ns builtinsNs mb∧∀x:Str,x ≠ "__name__" → mb x=bootBuiltins x
 nolimit:base.NoLimit
structure Cx where
 prog:Ac
 w:Ah
 K:Aa
 mg:Str→Option Ag
 base:Heap
 A:Ae
 N:List Str
 s₀:Ab
 H₀:Hp
 env:Env
 outer:List Env
 stack:List Env
 ex:List Aj
 fn:Str→Bool
 calm:Bool
 pn:List (Aj×Obj)
 xe:Ag→Ab→Prop
def frs (l:List Env):List Aj:=l.filterMap (·.frame)
abbrev Cx.fs (X:Cx):List Aj:=frs X.outer
def Vis (sc:Scope)(x:Str):Prop:=sc.names.lookup x=some .local∨sc.names.lookup x=some .cell∨sc.names.lookup x=some .free
def Loc (sc:Scope)(x:Str):Prop:=sc.names.lookup x=some .local∨sc.names.lookup x=some .cell
def Look (env:Env)(h:Heap)(m:Str→Option Ag)(x:Str)(u:Ag):Prop :=
 (env.kindOf x=some .local∧m x=some u)∨((env.kindOf x=some .cell∨env.kindOf x=some .free)∧∃c,env.cells.lookup x=some c∧h.IsCell c (some u))
structure Cx.Ok (X:Cx):Prop where
 mod:Mod X.K X.mg X.base
 kind:X.env.scope.kind=.function
 glob:X.env.globals=mainGlobals
 blt:X.env.builtins=builtinsNs
 above:X.s₀.heap.objs.size≤X.env.locals
 inj:∀x y c,X.env.cells.lookup x=some c→X.env.cells.lookup y=some c→x=y
 has:∀x,(X.env.kindOf x=some .cell∨X.env.kindOf x=some .free)→∃c,X.env.cells.lookup x=some c
 cab:∀x c,X.fn x=true→X.env.cells.lookup x=some c→X.s₀.heap.objs.size≤c
 hd:X.calm=true→X.A.handled=none
 frames:X.A.frames=some X.stack
 stk:X.stack=X.outer∨(X.stack=X.env::X.outer∧X.env.frame=some X.env.locals)
 exf:∀b∈X.ex,b≠X.env.locals∧∀x c,X.env.cells.lookup x=some c→c≠b
 bs:∀b o,X.base.get? b=some o→X.s₀.heap.get? b=some o∧X.H₀ b=none
 bsz:X.base.objs.size≤X.s₀.heap.objs.size
 noex:∀b o,X.base.get? b=some o→b∉X.ex
 exfs:∀b∈X.ex,b∉X.fs
 funs:X.s₀.heap.FunFrames X.base X.outer
 frf:∀b∈X.fs,X.H₀ b=none
structure Inv (X:Cx)(pins:List (Aj×Obj))(σ:List (Option V))(H:Hp)(s:Ab):Prop where
 ok:X.Ok
 os:s.os=X.s₀.os
 bare:AllBare s.gens
 base:Un X.fs X.ex X.H₀ H X.s₀.heap s.heap
 loc:∃m,s.heap.Ns X.env.locals m∧∀(i:Nat) (x:Str) (v:V),X.N[i]?=some x→σ[i]?=some (some v)→Vis X.env.scope x→∃u,RelV v u∧Look X.env s.heap m x u
 cell:∀x c,X.env.cells.lookup x=some c→∃v,s.heap.IsCell c v
 free:H X.env.locals=none
 freeC:∀x c,X.env.cells.lookup x=some c→H c=none
 pin:∀p∈X.pn++pins,s.heap.get? p.1=some p.2∧H p.1=none∧p.1≠X.env.locals∧p.1∉X.fs∧∀v,p.2.data≠.cell v
 hok:HOk X.prog X.w H s.heap
 len:σ.length=X.N.length
section
variable {X:Cx}{pins:List (Aj×Obj)}{σ:List (Option V)}{H H':Hp}{s:Ab}{h':Heap}
theorem Cx.Ok.nofr (ok:X.Ok){b:Aj}{o:Obj}(e:X.base.get? b=some o):b∉X.fs:=λhb=>by
 have:=(ok.funs.mem hb).1
 rw [e] at this;cases this
theorem Inv.bs (I:Inv X pins σ H s):∀b o,X.base.get? b=some o→s.heap.get? b=some o∧H b=none:=λb o e =>
 ⟨I.base.keep b o (I.ok.bs b o e).1 (I.ok.bs b o e).2 (I.ok.nofr e) (I.ok.noex b o e),I.base.free b o (I.ok.bs b o e).1 (I.ok.bs b o e).2 (I.ok.noex b o e)⟩
theorem Inv.bk (I:Inv X pins σ H s):∀b o,X.base.get? b=some o→s.heap.get? b=some o:=λb o e=>(I.bs b o e).1
theorem Inv.mod (I:Inv X pins σ H s):Mod X.K X.mg X.base:=I.ok.mod
theorem Inv.kIn (I:Inv X pins σ H s):X.K.In s.heap:=I.ok.mod.kin.keeps I.bk
theorem Inv.lt (I:Inv X pins σ H s):X.env.locals<s.heap.objs.size:=let ⟨_,hn,_⟩:=I.loc;hn.lt
theorem Inv.sz (I:Inv X pins σ H s):X.s₀.heap.objs.size≤s.heap.objs.size:=bB I.ok.above (bf I.lt)
theorem Inv.nofs (I:Inv X pins σ H s){a:Aj}(h:s.heap.objs.size≤a):a∉X.fs:=λhb=>by
 obtain ⟨_,o,ho,_⟩:=I.ok.funs.mem hb
 exact absurd (aI (al ho) (bB I.sz h)) (aW _)
theorem Inv.cne (I:Inv X pins σ H s):∀x c,X.env.cells.lookup x=some c→c≠X.env.locals:=λx c e z=>by
 obtain ⟨v,o,ho,hd⟩:=I.cell x c e
 obtain ⟨m,⟨o',es,ep,ho',hd',_⟩,_⟩:=I.loc
 rw [z,ho'] at ho;cases ho;rw [hd'] at hd;cases hd
theorem Inv.funs (I:Inv X pins σ H s):s.heap.FunFrames X.base X.outer:=by
 have all:∀(l:List Env),(∀b∈frs l,b∈X.fs)→X.s₀.heap.FunFrames X.base l→s.heap.FunFrames X.base l:=by
  intro l
  induction l with
  |nil=>intro _ _;trivial
  |cons env r ih =>
   intro hs hl
   obtain ⟨hk,⟨L,o,hf,hn,ho,hd⟩,hr⟩:=hl
   have hL:L∈X.fs:=hs L (by unfold frs;rw [dO,hf];exact dD)
   obtain ⟨sl,e⟩:=I.base.slot L o ho (I.ok.frf L hL) hL λz=>I.ok.exfs L z hL
   exact ⟨hk,⟨L,_,hf,hn,e,hd⟩,ih (λb hb=>hs b (by unfold frs;rw [dO,hf];exact bD _ hb)) hr⟩
 exact all X.outer (λ_ hb=>hb) I.ok.funs
theorem Inv.stack (I:Inv X pins σ H s):s.heap.FunFrames X.base X.stack:=by
 rcases I.ok.stk with e|⟨e,hf⟩
 ·rw [e];exact I.funs
 ·rw [e]
  obtain ⟨m,hn,_⟩:=I.loc
  refine .cons (by rw [I.ok.kind];decide) hf hn ?_ I.funs
  exact Heap.get?_none_of_le (bB I.ok.bsz I.ok.above)
theorem Inv.stkSub (I:Inv X pins σ H s):∀b∈frs X.stack,b∈X.env.locals::X.fs:=λb hb=>by
 rcases I.ok.stk with e|⟨e,hf⟩
 ·rw [e] at hb;exact bD _ hb
 ·rw [e] at hb
  unfold frs at hb
  rw [dO,hf] at hb
  exact hb
theorem Inv.stkFree (I:Inv X pins σ H s):∀b∈frs X.stack,H b=none:=λb hb=>by
 rcases aM.mp (I.stkSub b hb) with e|hb
 ·rw [e];exact I.free
 ·obtain ⟨_,o,ho,_⟩:=I.ok.funs.mem hb
  exact I.base.free b o ho (I.ok.frf b hb) λz=>I.ok.exfs b z hb
theorem Inv.step {g':Array GenState}{t':Nat}{d':Drawn}{ch:List Aj}(I:Inv X pins σ H s)
  (hch:∀b∈ch,(b∈X.ex∨X.s₀.heap.objs.size≤b)∧b≠X.env.locals∧(∀x c,X.env.cells.lookup x=some c→c≠b)∧∀p∈X.pn++pins,p.1≠b)
  (keep:∀b o,b≠X.env.locals→b∉X.fs→b∉ch→s.heap.get? b=some o→H b=none→h'.get? b=some o)
  (slot:∀b o,b≠X.env.locals→b∈X.fs→b∉ch→s.heap.get? b=some o→H b=none→∃sl,h'.get? b=some { o with slots:=sl }) (free:∀b o,b∉ch→s.heap.get? b=some o→H b=none→H' b=none)
  (there:∀b o,b∉ch→s.heap.get? b=some o→∃o',h'.get? b=some o')
  (tups:∀b xs,H b=some (.tup xs)→H' b=some (.tup xs)) (frzs:∀b o u,H b=some (.frz o u)→H' b=some (.frz o u)) (tbls:∀b ps,H b=some (.tbl ps)→∃more,H' b=some (.tbl (ps++more)))
  (ns:∀m,s.heap.Ns X.env.locals m→h'.Ns X.env.locals m) (hok:HOk X.prog X.w H' h') (hg:AllBare g') :
  Inv X pins σ H' { s with heap:=h',gens:=g',drawn:=d',toks:=t' }:=by
 have neL:∀b o,X.s₀.heap.get? b=some o→b≠X.env.locals:=λb o e=>aB (aI (al e) I.ok.above)
 have neC:∀b o,X.s₀.heap.get? b=some o→b∉X.ex→b∉ch:=λb o e hx hb=>by
  rcases (hch b hb).1 with z|z
  ·exact hx z
  ·exact absurd (aI (al e) z) (aW _)
 have cellK:∀x c,X.env.cells.lookup x=some c→∀v,s.heap.IsCell c v→h'.IsCell c v:=λx c e v ⟨o,ho,hd⟩=>by
  have nch:c∉ch:=λz=>(hch c z).2.2.1 x c e rfl
  by_cases hc:c∈X.fs
  ·obtain ⟨sl,q⟩:=slot c o (I.cne x c e) hc nch ho (I.freeC x c e)
   exact ⟨_,q,hd⟩
  ·exact ⟨o,keep c o (I.cne x c e) hc nch ho (I.freeC x c e),hd⟩
 refine ⟨I.ok,I.os,hg,⟨λb o e n hb hx=>?_,λb o e n hb hx=>?_,λb o e n hx=>?_,λb o e hx=>?_,λb xs e=>tups b xs (I.base.tups b xs e),λb o xs e=>frzs b o xs (I.base.frzs b o xs e),λb ps e=>?_⟩,?_,λx c e=>?_,?_,λx c e=>?_,λp hp=>?_,hok,I.len⟩
 ·exact keep b o (neL b o e) hb (neC b o e hx) (I.base.keep b o e n hb hx) (I.base.free b o e n hx)
 ·obtain ⟨sl,e1⟩:=I.base.slot b o e n hb hx
  obtain ⟨sl',e2⟩:=slot b _ (neL b o e) hb (neC b o e hx) e1 (I.base.free b o e n hx)
  exact ⟨sl',e2⟩
 ·obtain ⟨o',e1⟩:=I.base.there b o e hx
  exact free b o' (neC b o e hx) e1 (I.base.free b o e n hx)
 ·obtain ⟨o',e1⟩:=I.base.there b o e hx
  exact there b o' (neC b o e hx) e1
 ·obtain ⟨m1,e1⟩:=I.base.tbls b ps e
  obtain ⟨m2,e2⟩:=tbls b _ e1
  exact ⟨m1++m2,by rw [e2,gm]⟩
 ·obtain ⟨m,hn,hl⟩:=I.loc
  refine ⟨m,ns m hn,λi x v e1 e2 e3=>?_⟩
  obtain ⟨u,r,l⟩:=hl i x v e1 e2 e3
  refine ⟨u,r,?_⟩
  rcases l with l|⟨k,c,e,z⟩
  ·exact .inl l
  ·exact .inr ⟨k,c,e,cellK x c e _ z⟩
 ·obtain ⟨v,z⟩:=I.cell x c e
  exact ⟨v,cellK x c e v z⟩
 ·obtain ⟨m,⟨o,_,_,ho,_⟩,_⟩:=I.loc
  exact free _ o (λz=>(hch _ z).2.1 rfl) ho I.free
 ·obtain ⟨v,o,ho,hd⟩:=I.cell x c e
  exact free c o (λz=>(hch c z).2.2.1 x c e rfl) ho (I.freeC x c e)
 ·obtain ⟨e,n,ne,nf,d⟩:=I.pin p hp
  have nch:p.1∉ch:=λz=>(hch p.1 z).2.2.2 p hp rfl
  exact ⟨keep p.1 p.2 ne nf nch e n,free p.1 p.2 nch e n,ne,nf,d⟩
theorem Inv.un {t':Nat}(I:Inv X pins σ H s)(u:Un X.fs [] H H' s.heap h')(hok:HOk X.prog X.w H' h'):Inv X pins σ H' { s with heap:=h',toks:=t' }:=by
 obtain ⟨m,⟨o,es,ep,ho,r⟩,_⟩:=id I.loc
 obtain ⟨sl,hL⟩:=u.any ho I.free (by simp)
 exact I.step (g':=s.gens) (d':=s.drawn) (ch:=[]) (λ_ z=>nomatch z) (λb o _ hb _ e n=>u.keep b o e n hb (by simp)) (λb o _ hb _ e n=>u.slot b o e n hb (by simp)) (λb o _ e n=>u.free b o e n (by simp)) (λb o _ e=>u.there b o e (by simp)) u.tups u.frzs u.tbls (λm' hm=>by
  obtain ⟨o',es',ep',ho',r'⟩:=hm
  rw [ho] at ho';cases ho'
  exact ⟨_,es',ep',hL,r'⟩) hok I.bare
theorem Inv.call {g':Array GenState}{t':Nat}{d':Drawn}{ch:List Aj}(I:Inv X pins σ H s)(u:Un (frs X.stack) ch H H' s.heap h')(hok:HOk X.prog X.w H' h')(hg:AllBare g')
  (hch:∀b∈ch,(b∈X.ex∨X.s₀.heap.objs.size≤b)∧b≠X.env.locals∧(∀x c,X.env.cells.lookup x=some c→c≠b)∧∀p∈X.pn++pins,p.1≠b) :
  Inv X pins σ H' { s with heap:=h',gens:=g',drawn:=d',toks:=t' }:=by
 obtain ⟨m,⟨o,es,ep,ho,r⟩,_⟩:=id I.loc
 obtain ⟨sl,hL⟩:=u.any ho I.free λz=>(hch _ z).2.1 rfl
 exact I.step (ch:=ch) hch (λb o hL hb hc e n=>u.keep b o e n (λz=>(aM.mp (I.stkSub b z)).elim hL hb) hc) (λb o _ _ hc e n=>u.any e n hc) (λb o hc e n=>u.free b o e n hc) (λb o hc e=>u.there b o e hc) u.tups u.frzs u.tbls (λm' hm=>by
  obtain ⟨o',es',ep',ho',r'⟩:=hm
  rw [ho] at ho';cases ho'
  exact ⟨_,es',ep',hL,r'⟩) hok hg
theorem Inv.turned {t':Nat}{it:Aj}(I:Inv X pins σ H s)(k:∀b o,b≠it→s.heap.get? b=some o→h'.get? b=some o)(hn:H it=none)(hL:it≠X.env.locals)
  (h1:it∈X.ex∨X.s₀.heap.objs.size≤it) (h2:∀x c,X.env.cells.lookup x=some c→c≠it) (h3:∀p∈X.pn++pins,p.1≠it):Inv X pins σ H { s with heap:=h',toks:=t' }:=by
 have nit:∀b u,H b=some u→b≠it:=λb u e z=>by rw [z,hn] at e;cases e
 refine I.step (g':=s.gens) (d':=s.drawn) (ch:=[it]) (λb hb=>?_) (λb o _ _ hc e _=>k b o (λz=>hc (by simp [z])) e) (λb o _ _ hc e _=>⟨o.slots,k b o (λz=>hc (by simp [z])) e⟩) (λ_ _ _ _ n=>n)
  (λb o hc e=>⟨o,k b o (λz=>hc (by simp [z])) e⟩) (λ_ _ e=>e) (λ_ _ _ e=>e) (λb ps e=>⟨#[],by rw [e];simp⟩) (λm hm=>?_) (λb u e=>?_) I.bare
 ·have e:b=it:=by simpa using hb
  subst e
  exact ⟨h1,hL,h2,h3⟩
 ·obtain ⟨o,es,ep,ho,r⟩:=hm
  exact ⟨o,es,ep,k _ o (de hL) ho,r⟩
 ·refine (I.hok b u e).stay (λc v hc q=>k c v ?_ q) (λ_ q=>q) λ_ _ q=>q
  rcases hc with z|z
  ·rw [z];exact nit b u e
  ·exact nit c _ z
theorem Inv.tok (I:Inv X pins σ H s)(t:Nat):Inv X pins σ H { s with toks:=t }:=I.un (h':=s.heap) (t':=t) Un.refl I.hok
theorem Inv.kept {t':Nat}(I:Inv X pins σ H s)(k:∀b u,s.heap.get? b=some u→h'.get? b=some u):Inv X pins σ H { s with heap:=h',toks:=t' }:=I.un (Un.kept k) (I.hok.kept k)
theorem Inv.laid {a:Aj}{o:HO}{t':Nat}(I:Inv X pins σ H s)(k:∀b u,s.heap.get? b=some u→h'.get? b=some u)(hp:s.heap.objs.size≤a)(new:ObjOk X.prog X.w (upd H a o) h' a o) :
  Inv X pins σ (upd H a o) { s with heap:=h',toks:=t' }:=I.un (Un.laid k hp (I.hok.fresh hp)) (I.hok.laid k hp new)
theorem Inv.write {x e:Aj}{o:HO}{t':Nat}(I:Inv X pins σ H s)(mu:Mut (H x))(he:e=x∨H e=some (.own x))(k:∀b u,b≠e→s.heap.get? b=some u→h'.get? b=some u)(heo:∃u,h'.get? e=some u)
  (new:ObjOk X.prog X.w (upd H x o) h' x o):Inv X pins σ (upd H x o) { s with heap:=h',toks:=t' }:=I.un (Un.write mu he k heo) (I.hok.write mu he k heo new)
theorem Inv.weak {σ':List (Option V)}(I:Inv X pins σ H s)(hl:σ'.length=σ.length)(w:∀(i:Nat) v,σ'[i]?=some (some v)→σ[i]?=some (some v)):Inv X pins σ' H s :=
 ⟨I.ok,I.os,I.bare,I.base,let ⟨m,hn,hl'⟩:=I.loc;⟨m,hn,λi x v e1 e2 e3=>hl' i x v e1 (w i v e2) e3⟩,I.cell,I.free,I.freeC,I.pin,I.hok,hl.trans I.len⟩
theorem Inv.pins_of {pins':List (Aj×Obj)}(I:Inv X pins σ H s)(h:∀p∈pins',s.heap.get? p.1=some p.2∧H p.1=none∧p.1≠X.env.locals∧p.1∉X.fs∧∀v,p.2.data≠.cell v):Inv X pins' σ H s :=
 ⟨I.ok,I.os,I.bare,I.base,I.loc,I.cell,I.free,I.freeC,λp hp=>(aU.mp hp).elim (λz=>I.pin p (bW _ z)) (h p),I.hok,I.len⟩
theorem quq {N:List Str}(hN:N.Nodup){i j:Nat}{x:Str}(a:N[i]?=some x)(b:N[j]?=some x):i=j:=by
 obtain ⟨h1,e1⟩:=ak.mp a
 obtain ⟨h2,e2⟩:=ak.mp b
 exact (List.getElem_inj hN).mp (e1.trans e2.symm)
theorem wkv {M:Model}{A:Ae}{E:Ag→Ab→Prop}{i:Nat}{x:Str}{v:V}{u:Ag}{Q:Unit→Ab→Prop}(I:Inv X pins σ H s)(hN:X.N.Nodup)(hi:X.N[i]?=some x)(hx:Loc X.env.scope x)(r:RelV v u)
  (h:∀s',Inv X pins (σ.set i (some v)) H s'→(∃a,Heap.SameBut a s.heap s'.heap∧(a=X.env.locals∨X.env.cells.lookup x=some a))→Q () s') (hf:X.fn x=true∨X.env.scope.names.lookup x=some .local:=by first | exact .inl rfl | exact .inr rfl | assumption):wpAny M A (storeName X.env x u) Q E s:=by
 obtain ⟨m,hn,hl⟩:=id I.loc
 have hcls:(X.env.scope.kind==.class||(X.env.scope.kind==.module&&X.env.locals != X.env.globals))=false:=by rw [I.ok.kind];rfl
 have hiσ:i<σ.length:=by rw [I.len];exact (ak.mp hi).1
 have cne:=I.cne
 have tracked:∀ {a:Aj} {h':Heap},(∃o,s.heap.get? a=some o∧H a=none)→Heap.SameBut a s.heap h'→HOk X.prog X.w H h':=λ{a h'} ha hs b ob e=>by
  obtain ⟨_,_,hfree⟩:=ha
  refine (I.hok b ob e).stay (λc w' hc q=>(hs.2 c ?_).trans q) (λ_ q=>q) λ_ _ q=>q
  rintro rfl
  rcases hc with rfl|hc
  ·rw [hfree] at e;cases e
  ·rw [hfree] at hc;cases hc
 rcases hx with hk|hk
 ·refine wpAny_storeName_local hk hn (λh' hn' hs=>?_) hcls
  obtain ⟨oL,_,_,hoL,_⟩:=id hn
  refine h _ ⟨I.ok,I.os,I.bare,⟨λb o e n hb hx=>?_,λb o e n hb hx=>?_,I.base.free,λb o e hx=>?_,I.base.tups,I.base.frzs,I.base.tbls⟩,⟨_,hn',λj y v' e1 e2 e3=>?_⟩,λy c e=>?_,I.free,I.freeC,λp hp=>?_,tracked ⟨oL,hoL,I.free⟩ hs,by simpa using I.len⟩ ⟨_,hs,.inl rfl⟩
  ·exact (hs.2 b (aB (aI (al e) I.ok.above))).trans (I.base.keep b o e n hb hx)
  ·obtain ⟨sl,e1⟩:=I.base.slot b o e n hb hx
   exact ⟨sl,(hs.2 b (aB (aI (al e) I.ok.above))).trans e1⟩
  ·obtain ⟨o',e1⟩:=I.base.there b o e hx
   exact ⟨o',(hs.2 b (aB (aI (al e) I.ok.above))).trans e1⟩
  ·by_cases hj:j=i
   ·subst hj
    rw [hi] at e1;cases e1
    rw [List.getElem?_set_self hiσ] at e2
    cases e2
    exact ⟨u,r,.inl ⟨hk,by simp⟩⟩
   ·rw [List.getElem?_set_ne (de hj)] at e2
    obtain ⟨u',r',q⟩:=hl j y v' e1 e2 e3
    refine ⟨u',r',?_⟩
    rcases q with ⟨k,e⟩|⟨k,c,e,z⟩
    ·refine .inl ⟨k,?_⟩
     have:y≠x:=λe=>hj (quq hN e1 (e▸hi))
     simp [this,e]
    ·exact .inr ⟨k,c,e,z.sameBut hs (cne y c e)⟩
  ·obtain ⟨w',z⟩:=I.cell y c e
   exact ⟨w',z.sameBut hs (cne y c e)⟩
  ·obtain ⟨e,n,ne,nf,d⟩:=I.pin p hp
   exact ⟨(hs.2 p.1 ne).trans e,n,ne,nf,d⟩
 ·have hfn:X.fn x=true:=by
   rcases hf with z|z
   ·exact z
   ·rw [z] at hk;cases hk
  obtain ⟨c,hc⟩:=I.ok.has x (.inl hk)
  obtain ⟨w',z⟩:=I.cell x c hc
  refine wpAny_storeName_cell I.ok.kind hk hc z (λh' hc' hs=>?_)
  obtain ⟨oc,hoc,hocd⟩:=id z
  refine h { s with heap:=h' } ⟨I.ok,I.os,I.bare,⟨λb o e n hb hx=>?_,λb o e n hb hx=>?_,I.base.free,λb o e hx=>?_,I.base.tups,I.base.frzs,I.base.tbls⟩,⟨m,hn.sameBut hs (de (cne x c hc)),λj y v' e1 e2 e3=>?_⟩,λy c' e=>?_,I.free,I.freeC,λp hp=>?_,tracked ⟨oc,hoc,I.freeC x c hc⟩ hs,by simpa using I.len⟩ ⟨c,hs,.inr hc⟩
  ·exact (hs.2 b (aB (aI (al e) (I.ok.cab x c hfn hc)))).trans (I.base.keep b o e n hb hx)
  ·obtain ⟨sl,e1⟩:=I.base.slot b o e n hb hx
   exact ⟨sl,(hs.2 b (aB (aI (al e) (I.ok.cab x c hfn hc)))).trans e1⟩
  ·obtain ⟨o',e1⟩:=I.base.there b o e hx
   exact ⟨o',(hs.2 b (aB (aI (al e) (I.ok.cab x c hfn hc)))).trans e1⟩
  ·by_cases hj:j=i
   ·subst hj
    rw [hi] at e1;cases e1
    rw [List.getElem?_set_self hiσ] at e2
    cases e2
    exact ⟨u,r,.inr ⟨.inl hk,c,hc,hc'⟩⟩
   ·rw [List.getElem?_set_ne (de hj)] at e2
    obtain ⟨u',r',q⟩:=hl j y v' e1 e2 e3
    refine ⟨u',r',?_⟩
    rcases q with q|⟨k,c',e,z'⟩
    ·exact .inl q
    ·refine .inr ⟨k,c',e,z'.sameBut hs ?_⟩
     rintro rfl
     exact hj (quq hN e1 (I.ok.inj _ _ _ e hc▸hi))
  ·by_cases hcc:c'=c
   ·subst hcc;exact ⟨_,hc'⟩
   ·obtain ⟨w2,z2⟩:=I.cell y c' e
    exact ⟨w2,z2.sameBut hs hcc⟩
  ·obtain ⟨e,n,ne,nf,d⟩:=I.pin p hp
   refine ⟨(hs.2 p.1 ?_).trans e,n,ne,nf,d⟩
   intro q
   rw [q,hoc] at e
   have q':oc=p.2:=aq e
   exact d w' (by rw [←q'];exact hocd)
theorem ym {M:Model}{A:Ae}{E:Ag→Ab→Prop}{i:Nat}{x:Str}{v:V}{u:Ag}{Q:Unit→Ab→Prop}(I:Inv X pins σ H s)(hN:X.N.Nodup)(hi:X.N[i]?=some x)(hx:Loc X.env.scope x)(r:RelV v u)
  (h:∀s',Inv X pins (σ.set i (some v)) H s'→Q () s') (hf:X.fn x=true∨X.env.scope.names.lookup x=some .local:=by first | exact .inl rfl | exact .inr rfl | assumption):wpAny M A (storeName X.env x u) Q E s :=
 wkv I hN hi hx r (λs' I' _=>h s' I') hf
theorem Inv.call' {s':Ab}{ch:List Aj}(I:Inv X pins σ H s)(ho:s'.os=s.os)(u:Un (frs X.stack) ch H H' s.heap s'.heap)(hok:HOk X.prog X.w H' s'.heap)(hg:AllBare s'.gens)
  (hch:∀b∈ch,(b∈X.ex∨X.s₀.heap.objs.size≤b)∧b≠X.env.locals∧(∀x c,X.env.cells.lookup x=some c→c≠b)∧∀p∈X.pn++pins,p.1≠b):Inv X pins σ H' s':=by
 obtain ⟨h',g',d',t',o'⟩:=s'
 have e:o'=s.os:=ho
 subst e
 exact I.call (g':=g') (t':=t') (d':=d') u hok hg hch
end
abbrev XK:=Ag→Option Aj→Hp→Prop
abbrev St:=List (Option V)
abbrev VK:=V→Hp→Prop
abbrev TE:=St→Hp→VK→Prop
abbrev TT:=St→Hp→(Bool→Hp→Prop)→Prop
abbrev TA:=St→Hp→(List V→Hp→Prop)→Prop
structure Ends where
 nx:St→Hp→Prop
 rt:VK
 bk:St→Hp→Prop:=λ_ _=>False
 ct:St→Hp→Prop:=λ_ _=>False
abbrev TS:=Ends→St→Hp→Prop
def EP (X:Cx)(pins:List (Aj×Obj))(σ:St)(Q:VK)(u:Ag)(s':Ab):Prop:=∃v H',Inv X pins σ H' s'∧RelV v u∧Q v H'
def TP (X:Cx)(pins:List (Aj×Obj))(σ:St)(Q:Bool→Hp→Prop)(b:Bool)(s':Ab):Prop:=∃H',Inv X pins σ H' s'∧Q b H'
def AP (X:Cx)(pins:List (Aj×Obj))(σ:St)(Q:List V→Hp→Prop)(us:List Ag)(s':Ab):Prop:=∃vs H',Inv X pins σ H' s'∧Vals vs us∧Q vs H'
def SP (X:Cx)(pins:List (Aj×Obj))(D:Ends)(f:Flow)(s':Ab):Prop :=
 match f with
 |.next=>∃σ' H',Inv X pins σ' H' s'∧D.nx σ' H'
 |.brk=>∃σ' H',Inv X pins σ' H' s'∧D.bk σ' H'
 |.cont=>∃σ' H',Inv X pins σ' H' s'∧D.ct σ' H'
 |.ret u=>∃v σ' H',Inv X pins σ' H' s'∧RelV v u∧D.rt v H'
def PE (X:Cx)(e:Expr)(t:TE):Prop :=
 ∀(pins:List (Aj×Obj)) (s:Ab) (σ:St) (H:Hp) (Q:VK),Inv X pins σ H s→t σ H Q→wpAny (model X.prog X.w) X.A (eval e X.env) (EP X pins σ Q) X.xe s
def PT (X:Cx)(e:Expr)(t:TT):Prop :=
 ∀(pins:List (Aj×Obj)) (s:Ab) (σ:St) (H:Hp) (Q:Bool→Hp→Prop),Inv X pins σ H s→t σ H Q→wpAny (model X.prog X.w) X.A (isTrue e X.env (eval e X.env)) (TP X pins σ Q) X.xe s
def PW (X:Cx)(e:Expr)(t:TT):Prop :=
 ∀(whole:Sem Ag) (pins:List (Aj×Obj)) (s:Ab) (σ:St) (H:Hp) (Q:Bool→Hp→Prop),Inv X pins σ H s→t σ H Q→wpAny (model X.prog X.w) X.A (isTrue e X.env whole) (TP X pins σ Q) X.xe s
theorem PW.pt {X:Cx}{e:Expr}{t:TT}(h:PW X e t):PT X e t:=h _
def PA (X:Cx)(es:List Expr)(t:TA):Prop :=
 ∀(pos:Pos) (pins:List (Aj×Obj)) (s:Ab) (σ:St) (H:Hp) (Q:List V→Hp→Prop),Inv X pins σ H s→t σ H Q→wpAny (model X.prog X.w) X.A (spliced (backTo pos (starEach es X.env))) (AP X pins σ Q) X.xe s
def PS (X:Cx)(st:Stmt)(t:TS):Prop :=
 ∀(pins:List (Aj×Obj)) (s:Ab) (σ:St) (H:Hp) (D:Ends),Inv X pins σ H s→t D σ H→wpAny (model X.prog X.w) X.A (exec st X.env) (SP X pins D) X.xe s
def PSs (X:Cx)(st:List Stmt)(t:TS):Prop :=
 ∀(pins:List (Aj×Obj)) (s:Ab) (σ:St) (H:Hp) (D:Ends),Inv X pins σ H s→t D σ H→wpAny (model X.prog X.w) X.A (execs st X.env) (SP X pins D) X.xe s
theorem thn {α:Type}{t:Sem α}{Q Q':α→Ab→Prop}{M:Model}{A:Ae}{E:Ag→Ab→Prop}{s:Ab}(h:wpAny M A t Q E s)(hQ:∀a s,Q a s→Q' a s):wpAny M A t Q' E s:=aL h hQ λ_ _ x=>x
section
variable {X:Cx}
def ju (i:Nat):TE:=λσ H Q=>∃v,σ[i]?=some (some v)∧Q v H
def tC (v:V):TE:=λ_ H Q=>Q v H
theorem pe_var {i:Nat}{x:Str}{pos:Pos}(hN:X.N[i]?=some x)(hv:Vis X.env.scope x)(hd:(x==("__debug__" : Str))=false:=by decide)(hcd:(x==("__classdict__" : Str))=false:=by decide):PE X (.Name x pos) (ju i):=by
 intro pins s σ H Q I h
 obtain ⟨v,e,h⟩:=h
 obtain ⟨m,hn,hl⟩:=I.loc
 obtain ⟨u,r,l⟩:=hl i x v hN e hv
 have fin:EP X pins σ Q u s:=⟨v,H,I,r,h⟩
 rcases l with ⟨hk,hm⟩|⟨hk,c,hc,hcell⟩
 ·exact wpAny_Name (wpAny_loadName_local I.ok.kind hk hn hm fin) hd
 ·rcases hk with hk|hk
  ·exact wpAny_Name (wpAny_loadName_cell I.ok.kind hk hc hcell fin) hd
  ·exact wpAny_Name (wpAny_loadName_free I.ok.kind hk hc hcell fin hcd) hd
theorem qj {i j pos}:PE X (.Constant (.int i) j pos) (tC (.int i)):=λ_ _ _ H _ I h=>wpAny_Constant_int ⟨.int i,H,I.tok _,⟨_,rfl⟩,h⟩
theorem wjs {b j pos}:PE X (.Constant (.bool b) j pos) (tC (.bl b)):=λ_ _ _ H _ I h=>Constant_bool ⟨.bl b,H,I,rfl,h⟩
theorem Yk {j pos}:PE X (.Constant .none j pos) (tC .non):=λ_ _ _ H _ I h=>Constant_none ⟨.non,H,I,rfl,h⟩
theorem kh {x j pos}:PE X (.Constant (.str x) j pos) (tC (.str x)):=λ_ _ _ H _ I h=>Calls.Constant_str ⟨.str x,H,I.tok _,⟨_,rfl⟩,h⟩
def Gl (X:Cx)(x:Str):Prop:=X.env.kindOf x=some .globalImplicit
theorem ux {E:Ag→Ab→Prop}{pins:List (Aj×Obj)}{s:Ab}{σ:St}{H:Hp}{x:Str}{u:Ag}{pos:Pos}{Q:Ag→Ab→Prop}(I:Inv X pins σ H s)(hg:Gl X x)(hm:X.mg x=some u)(h:Q u s)
  (hd:(x==("__debug__" : Str))=false:=by decide):wpAny (model X.prog X.w) X.A (eval (.Name x pos) X.env) Q E s :=
 Calls.Name_function_global I.ok.kind hg (Calls.loadGlobal_global (by rw [I.ok.glob];exact I.mod.glob.keeps I.bk) hm h) hd
theorem yu {E:Ag→Ab→Prop}{pins:List (Aj×Obj)}{s:Ab}{σ:St}{H:Hp}{x:Str}{u:Ag}{pos:Pos}{Q:Ag→Ab→Prop}(I:Inv X pins σ H s)(hg:Gl X x)(hm:X.mg x=none)(hv:bootBuiltins x=some u)(h:Q u s)
  (hn:x ≠ "__name__" := by decide) (hd:(x==("__debug__" : Str))=false:=by decide):wpAny (model X.prog X.w) X.A (eval (.Name x pos) X.env) Q E s:=by
 obtain ⟨mb,h1,h2⟩:=I.mod.blt
 exact Calls.Name_function_global I.ok.kind hg (Calls.loadGlobal_builtin (by rw [I.ok.glob];exact I.mod.glob.keeps I.bk) hm (by rw [I.ok.blt];exact h1.keeps I.bk) ((h2 x hn).trans hv) h) hd
theorem Q6 {x:Str}{v:V}{u:Ag}{pos:Pos}(hg:Gl X x)(hm:X.mg x=some u)(r:RelV v u)(hd:(x==("__debug__" : Str))=false:=by decide):PE X (.Name x pos) (tC v) :=
 λ_ _ _ H _ I h=>ux I hg hm ⟨v,H,I,r,h⟩ hd
variable {a b:Expr}{ta tb:TE}{pos:Pos}
def PC (X:Cx)(op:CmpOp)(a b:Expr)(t:TE):Prop :=
 ∀(pins:List (Aj×Obj)) (s:Ab) (σ:St) (H:Hp) (Q:VK),Inv X pins σ H s→t σ H Q →
  wpAny (model X.prog X.w) X.A (eval a X.env) (λv s₁=>wpAny (model X.prog X.w) X.A (eval b X.env) (λu s₂=>wpAny (model X.prog X.w) X.A (compareOp op v u) (EP X pins σ Q) X.xe s₂) X.xe s₁) X.xe s
def tB (t:TE):TT:=λσ H Q=>t σ H λx H1=>∃c,x=.bl c∧Q c H1
theorem pt_cmp {op:CmpOp}{t:TE}(h:PC X op a b t)(h1:behindInMarks op b=false:=by first | exact nobehind _ (by decide) (by decide) | rfl):PT X (.Compare a [op] [b] pos) (tB t):=by
 intro pins s σ H Q I hw
 refine wpAny_isTrue_Compare1 (thn (h pins s σ H _ I hw) λv s1 h1=>thn h1 λu s2 h2=>thn h2 λc s3 ⟨x,H1,I1,r1,q1⟩=>?_) h1
 obtain ⟨d,rfl,q⟩:=q1
 cases r1
 exact df ⟨H1,I1,q⟩
theorem wwy {e:Expr}{t:TE}(h:PE X e t)(he:∀whole,isTrue e X.env whole=(do let v ←whole;standAt e.pos;holding [v] (truthy v)):=by intro _;rfl):PT X e (tB t):=by
 intro pins s σ H Q I hw
 refine isTrue_plain (thn (h pins s σ H _ I hw) λv s1 ⟨x,H1,I1,r1,q1⟩=>?_) (he _)
 obtain ⟨d,rfl,q⟩:=q1
 cases r1
 exact df ⟨H1,I1,q⟩
variable {tA tB':TT}{rest:List Expr}
def tAnd (t u:TT):TT:=λσ H Q=>t σ H λc H1=>if c=true then u σ H1 Q else Q false H1
def tOr (t u:TT):TT:=λσ H Q=>t σ H λc H1=>if c=true then Q true H1 else u σ H1 Q
def tNot (t:TT):TT:=λσ H Q=>t σ H λc H1=>Q (!c) H1
theorem qkj (ha:PT X a tA):PW X (.BoolOp .And [a] pos) tA:=by
 intro wh pins s σ H Q I h
 refine isTrue_and (thn (ha pins s σ H Q I h) λc s1 e=>?_)
 cases c with
 |true=>exact isTrue_and_nil e
 |false=>exact e
theorem qqb (ha:PT X a tA):PW X (.BoolOp .Or [a] pos) tA:=by
 intro wh pins s σ H Q I h
 refine isTrue_or (thn (ha pins s σ H Q I h) λc s1 e=>?_)
 cases c with
 |false=>exact isTrue_or_nil e
 |true=>exact e
theorem qu6 (ha:PT X a tA)(hb:PW X (.BoolOp .And (b::rest) pos) tB'):PW X (.BoolOp .And (a::b::rest) pos) (tAnd tA tB'):=by
 intro wh pins s σ H Q I h
 refine isTrue_and (thn (ha pins s σ H _ I h) λc s1 ⟨H1,I1,q1⟩=>?_)
 cases c with
 |true=>exact hb wh pins s1 σ H1 Q I1 q1
 |false=>exact ⟨H1,I1,q1⟩
theorem qyt (ha:PT X a tA)(hb:PW X (.BoolOp .Or (b::rest) pos) tB'):PW X (.BoolOp .Or (a::b::rest) pos) (tOr tA tB'):=by
 intro wh pins s σ H Q I h
 refine isTrue_or (thn (ha pins s σ H _ I h) λc s1 ⟨H1,I1,q1⟩=>?_)
 cases c with
 |true=>exact ⟨H1,I1,q1⟩
 |false=>exact hb wh pins s1 σ H1 Q I1 q1
theorem wk4 (ha:PT X a tA):PT X (.UnaryOp .Not a pos) (tNot tA):=by
 intro pins s σ H Q I h
 exact isTrue_not (ha pins s σ H (λc H1=>Q (!c) H1) I h)
def tAndV (ta tb:TE):TE:=λσ H Q=>ta σ H λx H1=>∃c,x=.bl c∧if c=true then tb σ H1 Q else Q (.bl false) H1
def tOrV (ta tb:TE):TE:=λσ H Q=>ta σ H λx H1=>∃c,x=.bl c∧if c=true then Q (.bl true) H1 else tb σ H1 Q
theorem wqg {op}{t:TE}(h:PE X a t):PE X (.BoolOp op [a] pos) t:=λpins s σ H Q I hw=>BoolOp_one (h pins s σ H Q I hw)
theorem wj0 (ha:PE X a ta)(hb:PE X (.BoolOp .And (b::rest) pos) tb):PE X (.BoolOp .And (a::b::rest) pos) (tAndV ta tb):=by
 intro pins s σ H Q I h
 refine BoolOp_and (thn (ha pins s σ H _ I h) λv s1 ⟨x,H1,I1,r1,q1⟩=>?_)
 obtain ⟨c,rfl,q1⟩:=q1
 cases r1
 refine df ?_
 cases c with
 |true=>exact hb pins s1 σ H1 Q I1 q1
 |false=>exact ⟨.bl false,H1,I1,rfl,q1⟩
theorem pe_or (ha:PE X a ta)(hb:PE X (.BoolOp .Or (b::rest) pos) tb):PE X (.BoolOp .Or (a::b::rest) pos) (tOrV ta tb):=by
 intro pins s σ H Q I h
 refine BoolOp_or (thn (ha pins s σ H _ I h) λv s1 ⟨x,H1,I1,r1,q1⟩=>?_)
 obtain ⟨c,rfl,q1⟩:=q1
 cases r1
 refine df ?_
 cases c with
 |false=>exact hb pins s1 σ H1 Q I1 q1
 |true=>exact ⟨.bl true,H1,I1,rfl,q1⟩
def tIf (t:TT)(ta tb:TE):TE:=λσ H Q=>t σ H λc H1=>if c=true then ta σ H1 Q else tb σ H1 Q
theorem qqc {c:Expr}(hc:PT X c tA)(ha:PE X a ta)(hb:PE X b tb):PE X (.IfExp c a b pos) (tIf tA ta tb):=by
 intro pins s σ H Q I h
 refine wpAny_IfExp (thn (hc pins s σ H _ I h) λd s1 ⟨H1,I1,q1⟩=>?_)
 cases d with
 |true=>exact ha pins s1 σ H1 Q I1 q1
 |false=>exact hb pins s1 σ H1 Q I1 q1
end
def SqL (K:Aa)(H:Hp)(a:Aj)(xs:List V):Prop :=
 Rd H a (.lst xs) ∨
  ∃(o:Obj) (its:Array Ag) (n:Nat),K.lookup a=some o∧o.cls=.type "list" ∧ o.dict=none∧o.data=.seq its n∧its.size≤sizeLine∧Vals xs its.toList
def SqT (K:Aa)(H:Hp)(a:Aj)(xs:List V):Prop :=
 Rd H a (.tup xs) ∨
  ∃(o:Obj) (its:Array Ag) (n:Nat),K.lookup a=some o∧o.cls=.type "tuple" ∧ o.data=.seq its n∧its.size≤sizeLine∧Vals xs its.toList
def absV:Ag→Option V
 |.none=>some .non
 |.bool b=>some (.bl b)
 |.int i _=>some (.int i)
 |.str x _=>some (.str x)
 |.bytes b _=>some (.byt b)
 |.float b _=>some (.flt b)
 |.ref a=>some (.ref a)
 |.type n=>some (.ty n)
 |_=>none
theorem RelV.abs {x:V}{u:Ag}(r:RelV x u):absV u=some x:=by
 cases x with
 |non=>cases r;rfl
 |bl _=>cases r;rfl
 |int _=>obtain ⟨t,rfl⟩:=r;rfl
 |str _=>obtain ⟨t,rfl⟩:=r;rfl
 |byt _=>obtain ⟨t,rfl⟩:=r;rfl
 |flt _=>obtain ⟨t,rfl⟩:=r;rfl
 |ref _=>cases r;rfl
 |ty _=>cases r;rfl
theorem RelV.inj {x y:V}{u:Ag}(r:RelV x u)(q:RelV y u):x=y:=aq (r.abs.symm.trans q.abs)
theorem Vals.inj:∀ {xs ys:List V} {us:List Ag},Vals xs us→Vals ys us→xs=ys
 |_,_,_,.nil,.nil=>rfl
 |_,_,_,.cons r t,.cons r' t'=>by rw [r.inj r',Vals.inj t t']
section
variable {X:Cx}{pins:List (Aj×Obj)}{σ:St}{H:Hp}{s:Ab}{a:Aj}{xs ys:List V}
theorem SqL.of {K:Aa}(h:H a=some (.lst xs)):SqL K H a xs:=.inl (.inl h)
theorem SqT.of {K:Aa}(h:H a=some (.tup xs)):SqT K H a xs:=.inl (.inl h)
theorem Inv.list (I:Inv X pins σ H s)(h:SqL X.K H a xs):∃its:List Ag,Vals xs its∧PlainL s.heap a its.toArray∧xs.length≤sizeLine:=by
 rcases h with h|⟨o,its,n,hk,hc,hd,hs,hz,r⟩
 ·obtain ⟨z,its,n,r,e⟩:=h.ok I.hok
  exact ⟨its,r,⟨_,n,e,rfl,rfl,rfl⟩,z⟩
 ·refine ⟨its.toList,r,⟨o,n,I.kIn a o hk,hc,hd,by simpa using hs⟩,?_⟩
  have e:=r.length
  simp only [aS] at e
  lia
theorem Inv.tuple (I:Inv X pins σ H s)(h:SqT X.K H a xs):∃its:List Ag,Vals xs its∧IsTup s.heap a its.toArray∧xs.length≤sizeLine:=by
 rcases h with h|⟨o,its,n,hk,hc,hs,hz,r⟩
 ·obtain ⟨z,its,r,p⟩:=h.ok I.hok
  exact ⟨its,r,p,z⟩
 ·refine ⟨its.toList,r,⟨o,I.kIn a o hk,hc,n,by simpa using hs⟩,?_⟩
  have e:=r.length
  simp only [aS] at e
  lia
theorem Inv.list_inj (I:Inv X pins σ H s)(h:SqL X.K H a xs)(h':SqL X.K H a ys):xs=ys:=by
 obtain ⟨its,r,⟨o,n,e,_,_,d⟩,_⟩:=I.list h
 obtain ⟨its',r',⟨o',n',e',_,_,d'⟩,_⟩:=I.list h'
 rw [e] at e';cases e'
 rw [d] at d'
 injection d' with d1 _
 have:its=its':=by simpa using cz Array.toList d1
 subst this
 exact r.inj r'
theorem Inv.tuple_inj (I:Inv X pins σ H s)(h:SqT X.K H a xs)(h':SqT X.K H a ys):xs=ys:=by
 obtain ⟨its,r,⟨o,e,_,n,d⟩,_⟩:=I.tuple h
 obtain ⟨its',r',⟨o',e',_,n',d'⟩,_⟩:=I.tuple h'
 rw [e] at e';cases e'
 rw [d] at d'
 injection d' with d1 _
 have:its=its':=by simpa using cz Array.toList d1
 subst this
 exact r.inj r'
end
abbrev Cx.wish (X:Cx)(E:Ag→Ab→Prop):Cx:={ X with xe:=E }
section
variable {X:Cx}{pins:List (Aj×Obj)}{σ:St}{H:Hp}{s:Ab}{E:Ag→Ab→Prop}
end
section
variable {X:Cx}{st:Stmt}{rest:List Stmt}{t u:TS}{e:Expr}{te:TE}{pos:Pos}
def tNext:TS:=λD σ H=>D.nx σ H
def tSeq (t u:TS):TS:=λD σ H=>t { D with nx:=u D } σ H
theorem xj:PSs X [] tNext:=λ_ _ σ H _ I h=>e8 ⟨σ,H,I,h⟩
theorem qk (h1:PS X st t)(h2:PSs X rest u):PSs X (st::rest) (tSeq t u):=by
 intro pins s σ H D I h
 refine ie (thn (h1 pins s σ H { D with nx:=u D } I h) λf s1 q=>?_)
 cases f with
 |next =>
  obtain ⟨σ',H',I',q⟩:=q
  exact h2 pins s1 σ' H' D I' q
 |ret v=>exact q
 |brk=>exact q
 |cont=>exact q
theorem qh (h1:PS X st t):PSs X [st] t:=by
 intro pins s σ H D I h
 refine ie (thn (h1 pins s σ H D I h) λf s1 q=>?_)
 cases f with
 |next=>exact e8 q
 |ret v=>exact q
 |brk=>exact q
 |cont=>exact q
theorem Inv.quiet {pins:List (Aj×Obj)}{σ:St}{H:Hp}{s:Ab}(I:Inv X pins σ H s):interactive X.env=false:=by simp [interactive,I.ok.kind]
def tDrop (te:TE):TS:=λD σ H=>te σ H λ_ H1=>D.nx σ H1
theorem zg (he:PE X e te)(hs:swapsWith e none pos.line X.env=pure false:=by rfl):PS X (.Expr e pos) (tDrop te):=by
 intro pins s σ H D I h
 exact wpAny_Expr_any (thn (he pins s σ H _ I h) λv s1 ⟨x,H1,I1,r1,q1⟩=>⟨σ,H1,I1,q1⟩) I.quiet hs
def tRet (te:TE):TS:=λD σ H=>te σ H D.rt
theorem wp (he:PE X e te):PS X (.Return (some e) pos) (tRet te):=by
 intro pins s σ H D I h
 exact wpAny_Return_some (thn (he pins s σ H _ I h) λv s1 ⟨x,H1,I1,r1,q1⟩=>⟨x,σ,H1,I1,r1,q1⟩)
def tIfS (c:TT)(t u:TS):TS:=λD σ H=>c σ H λb H1=>if b=true then t D σ H1 else u D σ H1
theorem zf {c:Expr}{a b:List Stmt}{tc:TT}(hc:PT X c tc)(ha:PSs X a t)(hb:PSs X b u):PS X (.If c a b pos) (tIfS tc t u):=by
 intro pins s σ H D I h
 refine wpAny_If (thn (hc pins s σ H _ I h) λd s1 ⟨H1,I1,q1⟩=>?_)
 cases d with
 |true=>exact ha pins s1 σ H1 D I1 q1
 |false=>exact hb pins s1 σ H1 D I1 q1
end
abbrev TG:=V→St→Hp→(St→Hp→Prop)→Prop
abbrev TGs:=List V→St→Hp→(St→Hp→Prop)→Prop
def PG (X:Cx)(target:Expr)(t:TG):Prop :=
 ∀(pins:List (Aj×Obj)) (s:Ab) (σ:St) (H:Hp) (v:V) (u:Ag) (Q:St→Hp→Prop),Inv X pins σ H s→RelV v u→t v σ H Q →
  wpAny (model X.prog X.w) X.A (assign target X.env u) (λ_ s'=>∃σ' H',Inv X pins σ' H' s'∧Q σ' H') X.xe s
def PGs (X:Cx)(ts:List Expr)(t:TGs):Prop :=
 ∀(pins:List (Aj×Obj)) (s:Ab) (σ:St) (H:Hp) (vs:List V) (us:List Ag) (Q:St→Hp→Prop),Inv X pins σ H s→Vals vs us→t vs σ H Q →
  wpAny (model X.prog X.w) X.A (assignInOrder ((assignEach ts X.env).map (·.2)) us) (λ_ s'=>∃σ' H',Inv X pins σ' H' s'∧Q σ' H') X.xe s
section
variable {X:Cx}{pos:Pos}
def Zj (i:Nat):TG:=λv σ H Q=>Q (σ.set i (some v)) H
theorem wt {i:Nat}{x:Str}(hN:X.N.Nodup)(hi:X.N[i]?=some x)(hx:Loc X.env.scope x)(hf:X.fn x=true∨X.env.scope.names.lookup x=some .local:=by first | exact .inl rfl | exact .inr rfl | assumption):PG X (.Name x pos) (Zj i):=by
 intro pins s σ H v u Q I r h
 exact gR (ym I hN hi hx r (λs' I'=>⟨_,H,I',h⟩) hf)
def gNil:TGs:=λvs σ H Q=>vs=[]∧Q σ H
def wjx (t:TG)(u:TGs):TGs:=λvs σ H Q=>∃v r,vs=v::r∧t v σ H λσ' H'=>u r σ' H' Q
theorem v5:PGs X [] gNil:=by
 intro pins s σ H vs us Q I r h
 obtain ⟨e,h⟩:=h
 subst e
 cases r
 exact assignInOrder_nil ⟨σ,H,I,h⟩
theorem xg {e:Expr}{es:List Expr}{t:TG}{u:TGs}(h1:PG X e t)(h2:PGs X es u)
  (hs:(assignEach (e::es) X.env).map (·.2)=assign e X.env::(assignEach es X.env).map (·.2):=by rfl):PGs X (e::es) (wjx t u):=by
 intro pins s σ H vs us Q I r h
 obtain ⟨v,vr,e1,h⟩:=h
 subst e1
 cases r with
 |cons r rr =>
  rw [hs]
  refine gu (thn (h1 pins s σ H _ _ _ I r h) λ_ s1 ⟨σ1,H1,I1,q1⟩=>?_)
  exact h2 pins s1 σ1 H1 _ _ Q I1 rr q1
def gTup (K:Aa)(n:Nat)(t:TGs):TG:=λv σ H Q=>∃a xs,v=.ref a∧SqT K H a xs∧xs.length=n∧t xs σ H Q
theorem jg {es:List Expr}{k:Nat}{t:TGs}{n:Nat}(hc:X.calm=true)(h:PGs X es t)
  (hn:(assignEach es X.env).length=n:=by rfl) (hst:(assignEach es X.env).findIdx? (·.1)=none:=by rfl):PG X (.Tuple es k pos) (gTup X.K n t):=by
 intro pins s σ H v u Q I r hw
 obtain ⟨a,xs,e1,hq,hl,hw⟩:=hw
 subst e1
 cases r
 obtain ⟨its,rv,ht,hz⟩:=I.tuple hq
 refine assign_Tuple_tuple (I.ok.hd hc) ht (by simp [hn,←hl,rv.length]) hst λh' hx=>?_
 have I1:Inv X pins σ H { s with heap:=h' }:=I.kept (t':=s.toks) λb o e=>hx b o (aB (al e)) e
 exact h pins _ σ H xs _ Q I1 (by simpa using rv) hw
def tAsg (te:TE)(g:TG):TS:=λD σ H=>te σ H λx H1=>g x σ H1 D.nx
theorem yx {tg e:Expr}{te:TE}{g:TG}(he:PE X e te)(hg:PG X tg g)(hs:swapsWithSole [tg] e pos.line X.env=pure false:=by rfl)(hw:swappedStores [tg] e X.env=pure none:=by rfl)
  (h1:(assignEach [tg] X.env).map (·.2)=[assign tg X.env]:=by rfl):PS X (.Assign [tg] e pos) (tAsg te g):=by
 intro pins s σ H D I h
 refine wpAny_Assign_stores (thn (he pins s σ H _ I h) λv s1 ⟨x,H1,I1,r1,q1⟩=>?_) hs hw
 rw [h1]
 exact thn (hg pins s1 σ H1 x v _ I1 r1 q1) λ_ s2 q=>q
theorem wb {i:Nat}{x:Str}{e:Expr}{te:TE}{pos':Pos}(hN:X.N.Nodup)(hi:X.N[i]?=some x)(hx:Loc X.env.scope x)(he:PE X e te)(hs:swapsWith e (some (.Name x pos')) pos.line X.env=pure false:=by rfl)(hf:X.fn x=true∨X.env.scope.names.lookup x=some .local:=by first | exact .inl rfl | exact .inr rfl | assumption) :
  PS X (.Assign [.Name x pos'] e pos) (tAsg te (Zj i)):=by
 intro pins s σ H D I h
 refine wpAny_Assign_Name (thn (he pins s σ H _ I h) λv s1 ⟨y,H1,I1,r1,q1⟩=>?_) hs
 exact ym I1 hN hi hx r1 (λs2 I2=>⟨_,H1,I2,q1⟩) hf
def tPar (i j:Nat)(ta:TA):TS:=λD σ H=>ta σ H λvs H1=>∃v w,vs=[v,w]∧D.nx ((σ.set i (some v)).set j (some w)) H1
theorem ps_par {i j:Nat}{x y:Str}{a b:Expr}{ta:TA}{px py pt:Pos}{kt k2 pt2}(hc:X.calm=true)(hN:X.N.Nodup)(hi:X.N[i]?=some x)(hj:X.N[j]?=some y)(hij:i≠j)
  (hx:X.env.scope.names.lookup x=some .local) (hy:X.env.scope.names.lookup y=some .local) (ha:PA X [a,b] ta)
  (hw:swappedStores [.Tuple [.Name x px,.Name y py] kt pt] (.Tuple [a,b] k2 pt2) X.env=pure (some [x,y]))
  (hs:swapsWithSole [.Tuple [.Name x px,.Name y py] kt pt] (.Tuple [a,b] k2 pt2) pos.line X.env=pure false:=by rfl) :
  PS X (.Assign [.Tuple [.Name x px,.Name y py] kt pt] (.Tuple [a,b] k2 pt2) pos) (tPar i j ta):=by
 intro pins s σ H D I h
 rw [exec_Assign_arm]
 refine aa (cL ?_)
 rw [hs]
 refine aa (ah ?_)
 rw [ao (by decide)]
 refine aa (Tuple_ (thn (ha _ pins s σ H _ I h) λus s1 ⟨vs,H1,I1,r1,q1⟩=>?_))
 obtain ⟨v,w,e1,q1⟩:=q1
 subst e1
 obtain ⟨u1,u2,rfl,rv,rw'⟩:∃u1 u2,us=[u1,u2]∧RelV v u1∧RelV w u2:=by
  cases r1 with
  |cons p q =>
   cases q with
   |cons p' q' =>
    cases q'
    exact ⟨_,_,rfl,p,p'⟩
 refine bU ?_ (by show 2≤sizeLine;decide)
 have I2:Inv X pins σ H1 { s1 with heap:=s1.heap.push { cls:=.type "tuple",data:=.seq [u1,u2].toArray } }:=I1.kept (t':=s1.toks) λb o e=>ai _ e
 rw [hw]
 refine aa (ah ?_)
 show wpAny (model X.prog X.w) X.A (do rule "assign.swapped-stores";let items ←unpackItems (.ref s1.heap.objs.size) 2 none;assignInOrder [λv=>bindName X.env y v,λv=>bindName X.env x v] items.reverse;pure Flow.next) _ _ _
 refine aa (dt (aa (unpackItems_tuple (items:=#[u1,u2]) (I.ok.hd hc) (IsTup.new s1.heap _) λh' hx'=>?_)))
 have I3:=I2.kept (h':=h') (t':=s1.toks) λb o e=>hx' b o (aB (al e)) e
 show wpAny _ _ (assignInOrder [λv=>bindName X.env y v,λv=>bindName X.env x v] [u2,u1] >>= λ_=>pure Flow.next) _ _ _
 refine aa (gu (wpAny_bindName (ym I3 hN hj (.inl hy) rw' (λs2 I4=>?_) (.inr hy))))
 refine gu (wpAny_bindName (ym I4 hN hi (.inl hx) rv (λs3 I5=>assignInOrder_nil (ah ?_)) (.inr hx)))
 rw [List.set_comm _ _ (de hij)] at I5
 exact ⟨_,H1,I5,q1⟩
end
section
variable {X:Cx}{pos:Pos}
def wwv (c:TT)(tb:TS):TS:=λD σ H=>∃W:Nat→St→Hp→Prop,(∃m,W m σ H)∧∀m σ H,W m σ H →
 c σ H λb H1=>if b=true then ∃N:St→Hp→Prop,(∀σ' H',N σ' H'→∃m',m'<m∧W m' σ' H')∧tb { D with nx:=N,ct:=N,bk:=D.nx } σ H1 else D.nx σ H1
theorem Zm {c:Expr}{body:List Stmt}{tc:TT}{tb:TS}(hp:PassesOwn (model X.prog X.w) X.A X.env X.xe)(hc:PT X c tc)(hb:PSs X body tb):PS X (.While c body [] pos) (wwv tc tb):=by
 intro pins s σ H D I h
 obtain ⟨W,⟨m0,w0⟩,turn⟩:=h
 refine wpAny_While (codeAny_whileLoop (λn s'=>∃σ' H',Inv X pins σ' H' s'∧W n σ' H') ?_ m0 ⟨σ,H,I,w0⟩)
 rintro n s1 ⟨σ1,H1,I1,w1⟩
 refine dI hp (thn (hc pins s1 σ1 H1 _ I1 (turn n σ1 H1 w1)) λb s2 ⟨H2,I2,q2⟩=>?_)
 cases b with
 |true =>
  obtain ⟨N,hN,q2⟩:=q2
  rw [av rfl]
  refine dI hp (thn (hb pins s2 σ1 H2 _ I2 q2) λf s3 q3=>?_)
  cases f with
  |next =>
   obtain ⟨σ3,H3,I3,n3⟩:=q3
   obtain ⟨m',hm,w3⟩:=hN σ3 H3 n3
   exact ⟨m',hm,σ3,H3,I3,w3⟩
  |cont =>
   obtain ⟨σ3,H3,I3,n3⟩:=q3
   obtain ⟨m',hm,w3⟩:=hN σ3 H3 n3
   exact ⟨m',hm,σ3,H3,I3,w3⟩
  |brk=>exact q3
  |ret v=>exact q3
 |false =>
  rw [ao aE]
  exact e8 ⟨σ1,H2,I2,q2⟩
end
structure It where
 go:Nat→Hp→Prop
 yld:Nat→Hp→V→Hp→Prop
 stop:Nat→Hp→Prop
def vz (X:Cx)(pins:List (Aj×Obj))(H:Hp)(b:Aj):Prop :=
 H b=none∧b≠X.env.locals∧b∉X.fs∧(b∈X.ex∨X.s₀.heap.objs.size≤b)∧(∀x c,X.env.cells.lookup x=some c→c≠b)∧∀p∈X.pn++pins,p.1≠b
theorem Inv.fpOk {X:Cx}{pins:List (Aj×Obj)}{σ:St}{H H':Hp}{s:Ab}{b:Aj}(I:Inv X pins σ H s)(hb:s.heap.objs.size≤b)(hn:H' b=none):vz X pins H' b:=by
 refine ⟨hn,eN (aI I.lt hb),I.nofs hb,.inr (bB I.sz hb),λx c e z=>?_,λp hp z=>?_⟩
 ·obtain ⟨v,q⟩:=I.cell x c e
  exact absurd (aI q.lt (by rw [z];exact hb)) (aW _)
 ·exact absurd (aI (al (I.pin p hp).1) (by rw [z];exact hb)) (aW _)
structure Turn (P:Ac)(w:Ah)(K:Aa)(tg:Expr)(J:It)(fp:List Aj)(it:Aj)(tn:Nat→Heap→Prop):Prop where
 mem:it∈fp
 obj:∀i h,tn i h→∀b∈fp,∃o,h.get? b=some o∧∀v,o.data≠.cell v
 keep:∀i h h',tn i h→(∀b∈fp,∀o,h.get? b=some o→h'.get? b=some o)→tn i h'
 item:∀(X:Cx),X.prog=P→X.w=w→X.K=K→X.calm=true→∀(i:Nat) (pins:List (Aj×Obj)) (s:Ab) (σ:St) (H:Hp) (E:Ag→Ab→Prop),Inv X pins σ H s→(∀b∈fp,vz X pins H b)→tn i s.heap→J.go i H →
  wpAny (model P w) X.A (pyNext (.ref it)) (λr s1=>∃u,r=some u ∧
   wpAny (model P w) X.A (letOwnedTupleGo tg (.ref it) u) (λ_ s2=>∃x H',Inv X pins σ H' s2∧RelV x u∧J.yld i H x H'∧tn (i+1) s2.heap∧∀b∈fp,H' b=none) E s1) E s
 done:∀(X:Cx),X.prog=P→X.w=w→X.K=K→X.calm=true→∀(i:Nat) (pins:List (Aj×Obj)) (s:Ab) (σ:St) (H:Hp) (E:Ag→Ab→Prop),Inv X pins σ H s→(∀b∈fp,vz X pins H b)→tn i s.heap→J.stop i H →
  wpAny (model P w) X.A (pyNext (.ref it)) (λr s1=>r=none∧Inv X pins σ H s1) E s
 self:∀(A:Ae) (i:Nat) (s:Ab) (Q:Ag→Ab→Prop) (E:Ag→Ab→Prop),tn i s.heap→Q (.ref it) s→wpAny (model P w) A (pyIter (.ref it)) Q E s
abbrev TI:=St→Hp→(It→Hp→Prop)→Prop
def PIE (X:Cx)(pins:List (Aj×Obj))(σ:St)(tg:Expr)(R:It→Hp→Prop)(itv:Ag)(s2:Ab):Prop :=
 ∃(it:Aj) (fp:List Aj) (tn:Nat→Heap→Prop) (J:It) (H':Hp),itv=.ref it∧Inv X pins σ H' s2∧Turn X.prog X.w X.K tg J fp it tn∧tn 0 s2.heap∧(∀b∈fp,vz X pins H' b)∧R J H'
def PI (X:Cx)(tg iter:Expr)(wi:TI):Prop :=
 ∀(pins:List (Aj×Obj)) (s:Ab) (σ:St) (H:Hp) (R:It→Hp→Prop),Inv X pins σ H s→wi σ H R →
  wpAny (model X.prog X.w) X.A (eval iter X.env) (λv s1=>wpAny (model X.prog X.w) X.A (pyIter v) (PIE X pins σ tg R) X.xe s1) X.xe s
theorem wxv {M:Model}{A:Ae}{E:Ag→Ab→Prop}{s:Ab}{tg:Expr}{it:Aj}{u:Ag}{o:Obj}{n:String}{vs:Array Ag}{Q:Unit→Ab→Prop}(ho:s.heap.get? it=some o)(hc:o.cls=.type n)(hd:o.data=.fields vs)
  (hn:["enumerate","zip","dict_itemiterator","dict_reverseitemiterator","odict_iterator","itertools.zip_longest","itertools.pairwise"].contains n=false) (hQ:Q () s):wpAny M A (letOwnedTupleGo tg (.ref it) u) Q E s:=by
 unfold letOwnedTupleGo
 cases tg <;> first
  |exact ah hQ
  |(cases u <;> first
    |exact ah hQ
    |(refine aa (wpAny_load ho ?_)
      rw [hc,hd]
      show wpAny M A (if (["enumerate","zip","dict_itemiterator","dict_reverseitemiterator","odict_iterator","itertools.zip_longest","itertools.pairwise"].contains n&&vs[0]?==some (rawInt _))=true then _ else _) Q E s
      rw [ao (by intro h;rw [hn,iL] at h;cases h)]
      exact ah hQ))
def Itl (K:Aa)(a:Aj):It :=
 ⟨λi H=>∃xs x,SqL K H a xs∧xs[i]?=some x,λi H x H'=>H'=H∧∀xs,SqL K H a xs→xs[i]?=some x,λi H=>∃xs,SqL K H a xs∧xs.length≤i⟩
def Itt (K:Aa)(a:Aj):It :=
 ⟨λi H=>∃xs x,SqT K H a xs∧xs[i]?=some x,λi H x H'=>H'=H∧∀xs,SqT K H a xs→xs[i]?=some x,λi H=>∃xs,SqT K H a xs∧xs.length≤i⟩
def Itr (lo:Int)(n:Nat):It:=⟨λi _=>i<n,λi H x H'=>H'=H∧x=.int (lo+i),λi _=>n≤i⟩
theorem wvx {P:Ac}{w:Ah}{K:Aa}{tg:Expr}(a it:Aj):Turn P w K tg (Itl K a) [it] it (λi h=>h.IsListIter it a i) where
 mem:=by simp
 obj:=λi h st b hb=>by
  have e:b=it:=by simpa using hb
  subst e
  obtain ⟨o,e,c,d⟩:=st
  exact ⟨o,e,λv z=>by rw [d] at z;cases z⟩
 keep:=λi h h' st k=>st.at λo e=>k it (by simp) o e
 item:=by
  intro X hP hw hK hc i pins s σ H E I hf st hg
  subst hP hw hK
  obtain ⟨xs,x,hq,hx⟩:=hg
  obtain ⟨its,rv,p,hz⟩:=I.list hq
  obtain ⟨u,hu,ru⟩:=rv.get hx
  obtain ⟨f0,f1,f2,f3,f4,f5⟩:=hf it (by simp)
  refine wpAny_pyNext_list_item st p.isList (x:=u) (by simpa using hu) λh' st' sb=>?_
  have I1:Inv X pins σ H { s with heap:=h' }:=I.turned (t':=s.toks) (λb o hb e=>(sb.2 b hb).trans e) f0 f1 f3 f4 f5
  obtain ⟨o,e,c,d⟩:=id st'
  exact ⟨u,rfl,wxv (s:={ s with heap:=h' }) e c d (by decide) ⟨x,H,I1,ru,⟨rfl,λys hy=>by rw [I.list_inj hy hq];exact hx⟩,st',λb hb=>(hf b hb).1⟩⟩
 done:=by
  intro X hP hw hK hc i pins s σ H E I hf st hg
  subst hP hw hK
  obtain ⟨xs,hq,hx⟩:=hg
  obtain ⟨its,rv,p,hz⟩:=I.list hq
  obtain ⟨f0,f1,f2,f3,f4,f5⟩:=hf it (by simp)
  have hl:=rv.length
  exact wpAny_pyNext_list_end (I.ok.hd hc) st p.isList (by simp;lia) λh' eb=>⟨rfl,I.turned (t':=s.toks) (λb o hb e=>eb b o hb e) f0 f1 f3 f4 f5⟩
 self:=λ_ _ _ _ _ st h=>wpAny_pyIter_listiter st h
theorem qud {P:Ac}{w:Ah}{K:Aa}{tg:Expr}(a it:Aj):Turn P w K tg (Itt K a) [it] it (λi h=>h.IsTupleIter it a i) where
 mem:=by simp
 obj:=λi h st b hb=>by
  have e:b=it:=by simpa using hb
  subst e
  obtain ⟨o,e,c,d⟩:=st
  exact ⟨o,e,λv z=>by rw [d] at z;cases z⟩
 keep:=λi h h' st k=>st.at λo e=>k it (by simp) o e
 item:=by
  intro X hP hw hK hc i pins s σ H E I hf st hg
  subst hP hw hK
  obtain ⟨xs,x,hq,hx⟩:=hg
  obtain ⟨its,rv,p,hz⟩:=I.tuple hq
  obtain ⟨u,hu,ru⟩:=rv.get hx
  obtain ⟨f0,f1,f2,f3,f4,f5⟩:=hf it (by simp)
  refine wpAny_pyNext_tuple_item st (show s.heap.IsTuple a its.toArray from p) (x:=u) (by simpa using hu) λh' st' sb=>?_
  have I1:Inv X pins σ H { s with heap:=h' }:=I.turned (t':=s.toks) (λb o hb e=>(sb.2 b hb).trans e) f0 f1 f3 f4 f5
  obtain ⟨o,e,c,d⟩:=id st'
  exact ⟨u,rfl,wxv (s:={ s with heap:=h' }) e c d (by decide) ⟨x,H,I1,ru,⟨rfl,λys hy=>by rw [I.tuple_inj hy hq];exact hx⟩,st',λb hb=>(hf b hb).1⟩⟩
 done:=by
  intro X hP hw hK hc i pins s σ H E I hf st hg
  subst hP hw hK
  obtain ⟨xs,hq,hx⟩:=hg
  obtain ⟨its,rv,p,hz⟩:=I.tuple hq
  obtain ⟨f0,f1,f2,f3,f4,f5⟩:=hf it (by simp)
  have hl:=rv.length
  exact wpAny_pyNext_tuple_end (I.ok.hd hc) st (show s.heap.IsTuple a its.toArray from p) (by simp;lia) λh' eb=>⟨rfl,I.turned (t':=s.toks) (λb o hb e=>eb b o hb e) f0 f1 f3 f4 f5⟩
 self:=λ_ _ _ _ _ st h=>wpAny_pyIter_tupleiter st h
theorem wqu {P:Ac}{w:Ah}{K:Aa}{tg:Expr}(it:Aj)(lo:Int)(n:Nat):Turn P w K tg (Itr lo n) [it] it (λi h=>IsRangeIter h it (lo+(i:Nat)*1) ((n:Int)-(i:Nat)) 1) where
 mem:=by simp
 obj:=λi h st b hb=>by
  have e:b=it:=by simpa using hb
  subst e
  exact ⟨_,st,λv z=>by
   have z':Data.fields _=Data.cell v:=z
   cases z'⟩
 keep:=λi h h' st k=>k it (by simp) _ st
 item:=by
  intro X hP hw hK hc i pins s σ H E I hf st hg
  subst hP hw hK
  obtain ⟨f0,f1,f2,f3,f4,f5⟩:=hf it (by simp)
  have W:=Walks.range (prog:=X.prog) (w:=X.w) (I.ok.hd hc) it lo 1 n
  refine W.item i s _ _ hg st λv h' tk hv st' kk=>?_
  obtain ⟨t,rfl⟩:=hv
  have I1:Inv X pins σ H { s with heap:=h',toks:=tk }:=I.turned (λb o hb e=>kk b o (by simpa using hb) e) f0 f1 f3 f4 f5
  refine ⟨_,rfl,wxv (s:={ s with heap:=h',toks:=tk }) (n := "range_iterator") st' rfl rfl (by decide) ⟨.int (lo+i),H,I1,⟨t,?_⟩,⟨rfl,rfl⟩,st',λb hb=>(hf b hb).1⟩⟩
  rw [Int.mul_one]
 done:=by
  intro X hP hw hK hc i pins s σ H E I hf st hg
  subst hP hw hK
  obtain ⟨f0,f1,f2,f3,f4,f5⟩:=hf it (by simp)
  exact wpAny_pyNext_range_end (I.ok.hd hc) st (by have:n≤i:=hg;lia) λh' eb=>⟨rfl,I.turned (t':=s.toks) (λb o hb e=>eb b o hb e) f0 f1 f3 f4 f5⟩
 self:=λ_ _ _ _ _ st h=>wpAny_pyIter_rangeiter st h
section
variable {X:Cx}{tg:Expr}
def iList (K:Aa)(tl:TE):TI:=λσ H R=>tl σ H λx H1=>∃a,x=.ref a∧(∃xs,SqL K H1 a xs)∧R (Itl K a) H1
def iTup (K:Aa)(tl:TE):TI:=λσ H R=>tl σ H λx H1=>∃a,x=.ref a∧(∃xs,SqT K H1 a xs)∧R (Itt K a) H1
theorem vy {l:Expr}{tl:TE}(hl:PE X l tl):PI X tg l (iList X.K tl):=by
 intro pins s σ H R I h
 refine thn (hl pins s σ H _ I h) λv s1 ⟨x,H1,I1,r1,q1⟩=>?_
 obtain ⟨a,e,⟨xs,hq⟩,q⟩:=q1
 subst e
 cases r1
 obtain ⟨its,rv,p,hz⟩:=I1.list hq
 refine gS p.isList ?_
 refine ⟨s1.heap.objs.size,[s1.heap.objs.size],_,_,H1,rfl,I1.kept (t':=s1.toks) λb o e=>ai _ e,wvx a _,⟨_,az _ rfl,rfl,rfl⟩,λb hb=>?_,q⟩
 have e:b=s1.heap.objs.size:=by simpa using hb
 subst e
 exact I1.fpOk (aj _) (I1.hok.fresh (aj _))
theorem pi_tup {l:Expr}{tl:TE}(hl:PE X l tl):PI X tg l (iTup X.K tl):=by
 intro pins s σ H R I h
 refine thn (hl pins s σ H _ I h) λv s1 ⟨x,H1,I1,r1,q1⟩=>?_
 obtain ⟨a,e,⟨xs,hq⟩,q⟩:=q1
 subst e
 cases r1
 obtain ⟨its,rv,p,hz⟩:=I1.tuple hq
 refine wpAny_pyIter_tuple (show s1.heap.IsTuple a its.toArray from p) ?_
 refine ⟨s1.heap.objs.size,[s1.heap.objs.size],_,_,H1,rfl,I1.kept (t':=s1.toks) λb o e=>ai _ e,qud a _,⟨_,az _ rfl,rfl,rfl⟩,λb hb=>?_,q⟩
 have e:b=s1.heap.objs.size:=by simpa using hb
 subst e
 exact I1.fpOk (aj _) (I1.hok.fresh (aj _))
theorem qjh {pins:List (Aj×Obj)}{σ:St}{H:Hp}{s:Ab}{R:It→Hp→Prop}{E:Ag→Ab→Prop}{lo hi:Int}{t u v:Tok}{tk:Nat}(I:Inv X pins σ H s)(h1:-(2 ^ 62)≤lo)(h2:lo<2 ^ 62)(h3:-(2 ^ 62)≤hi)(h4:hi<2 ^ 62)
  (q:R (Itr lo (hi-lo).toNat) H):wpAny (model X.prog X.w) X.A (pyIter (.ref s.heap.objs.size)) (PIE X pins σ tg R) E { s with heap:=s.heap.push { cls:=.type "range",data:=.fields #[.int lo t,.int hi u,.int 1 v] },toks:=tk }:=by
 refine wpAny_pyIter_range (IsRange.new ..) (small_one h1 h2 h3 h4) ?_
 have I1:Inv X pins σ H { s with heap:=s.heap.push { cls:=.type "range",data:=.fields #[.int lo t,.int hi u,.int 1 v] },toks:=tk }:=I.kept λb o e=>ai _ e
 refine ⟨(s.heap.push { cls:=.type "range",data:=.fields #[.int lo t,.int hi u,.int 1 v] }).objs.size,[(s.heap.push { cls:=.type "range",data:=.fields #[.int lo t,.int hi u,.int 1 v] }).objs.size],_,_,H,rfl,
  I1.kept (t':=tk) λb o e=>ai _ e,wqu _ lo (hi-lo).toNat,?_,λb hb=>?_,q⟩
 ·have e1:lo+((0:Nat):Int)*1=lo:=by simp
  have e2:(((hi-lo).toNat:Nat):Int)-((0:Nat):Int)=Builtin.Range.rangeSize lo hi 1:=by rw [rangeSize_one];split <;> lia
  show IsRangeIter _ _ (lo+((0:Nat):Int)*1) ((((hi-lo).toNat:Nat):Int)-((0:Nat):Int)) 1
  rw [e1,e2]
  exact az _ rfl
 ·have e:b=(s.heap.push { cls:=.type "range",data:=.fields #[.int lo t,.int hi u,.int 1 v] }).objs.size:=by simpa using hb
  subst e
  exact I1.fpOk (aj _) (I1.hok.fresh (aj _))
def iRng1 (ta:TA):TI:=λσ H R=>ta σ H λvs H1=>∃j:Int,vs=[.int j]∧-(2 ^ 62)≤j∧j<2 ^ 62∧R (Itr 0 j.toNat) H1
def iRng2 (ta:TA):TI:=λσ H R=>ta σ H λvs H1=>∃i j:Int,vs=[.int i,.int j]∧(-(2 ^ 62)≤i∧i<2 ^ 62∧-(2 ^ 62)≤j∧j<2 ^ 62)∧R (Itr i (j-i).toNat) H1
theorem xf {a:Expr}{ta:TA}{p pos:Pos}(hg:Gl X "range")(hm:X.mg "range" = none)(ha:PA X [a] ta)(hs:starEach [a] X.env=[(false,eval a X.env)]:=by rfl):PI X tg (.Call (.Name "range" p) [a] [] pos) (iRng1 ta):=by
 intro pins s σ H R I h
 refine Call_ (yu I hg hm boot_range (bN (thn (ha pos pins s σ H _ I h) λus s1 ⟨vs,H1,I1,r1,q1⟩=>?_) hs rfl))
 obtain ⟨j,e,q1,q2,q⟩:=q1
 subst e
 cases r1 with
 |cons r rr =>
  cases rr
  obtain ⟨t,rfl⟩:=r
  exact call_range_1 (qjh I1 (by lia) (by lia) q1 q2 (by simpa using q))
theorem wvv {a b:Expr}{ta:TA}{p pos:Pos}(hg:Gl X "range")(hm:X.mg "range" = none)(ha:PA X [a,b] ta)(hs:starEach [a,b] X.env=[(false,eval a X.env),(false,eval b X.env)]:=by rfl)(hs2:starEach [b] X.env=[(false,eval b X.env)]:=by rfl) :
  PI X tg (.Call (.Name "range" p) [a,b] [] pos) (iRng2 ta):=by
 intro pins s σ H R I h
 refine Call_ (yu I hg hm boot_range (bN (thn (ha pos pins s σ H _ I h) λus s1 ⟨vs,H1,I1,r1,q1⟩=>?_) (by rw [hs,hs2]) (by rw [hs2];rfl)))
 obtain ⟨i,j,e,⟨q1,q2,q3,q4⟩,q⟩:=q1
 subst e
 cases r1 with
 |cons r rr =>
  cases rr with
  |cons r' rr =>
   cases rr
   obtain ⟨t,rfl⟩:=r
   obtain ⟨t',rfl⟩:=r'
   exact call_range_2 (qjh I1 q1 q2 q3 q4 q)
def tFor (wi:TI)(g:TG)(tb:TS):TS:=λD σ H=>wi σ H λJ H1=>∃W:Nat→Nat→St→Hp→Prop,(∃m,W 0 m σ H1)∧∀i m σ H,W i m σ H →
 (J.stop i H∧D.nx σ H)∨(J.go i H∧∃N:St→Hp→Prop,(∀σ' H',N σ' H'→∃m',m'<m∧W (i+1) m' σ' H')∧∀x H',J.yld i H x H'→g x σ H' λσ2 H2=>tb { D with nx:=N,ct:=N,bk:=D.nx } σ2 H2)
def qz8 (fp:List Aj)(h:Heap):List (Aj×Obj):=fp.filterMap λb=>(h.get? b).map λo=>(b,o)
theorem km {fp:List Aj}{h:Heap}{b:Aj}{o:Obj}(hb:b∈fp)(e:h.get? b=some o):(b,o)∈qz8 fp h:=fi.mpr ⟨b,hb,by rw [e];rfl⟩
theorem wvu {fp:List Aj}{h:Heap}{p:Aj×Obj}(hp:p∈qz8 fp h):p.1∈fp∧h.get? p.1=some p.2:=by
 obtain ⟨b,hb,e⟩:=fi.mp hp
 cases q:h.get? b with
 |none=>rw [q] at e;cases e
 |some o =>
  rw [q] at e
  have e':(b,o)=p:=aq e
  subst e'
  exact ⟨hb,q⟩
theorem Inv.pinned {pins:List (Aj×Obj)}{σ:St}{H:Hp}{s:Ab}{fp:List Aj}(I:Inv X pins σ H s)(hf:∀b∈fp,vz X pins H b)(ho:∀b∈fp,∃o,s.heap.get? b=some o∧∀v,o.data≠.cell v):Inv X (pins++qz8 fp s.heap) σ H s :=
 I.pins_of λp hp=>(aU.mp hp).elim (λz=>I.pin p (aF _ z)) λz=>by
  obtain ⟨hb,e⟩:=wvu z
  obtain ⟨f0,f1,f2,_⟩:=hf p.1 hb
  obtain ⟨o,e',d⟩:=ho p.1 hb
  rw [e] at e';cases e'
  exact ⟨e,f0,f1,f2,d⟩
theorem Inv.unpinned {pins pl:List (Aj×Obj)}{σ:St}{H:Hp}{s:Ab}(I:Inv X (pins++pl) σ H s):Inv X pins σ H s:=I.pins_of λp hp=>I.pin p (aF _ (bW _ hp))
theorem yj {iter:Expr}{body:List Stmt}{wi:TI}{g:TG}{tb:TS}{pos:Pos}(hp:PassesOwn (model X.prog X.w) X.A X.env X.xe)(hc:X.calm=true)(hi:PI X tg iter wi)(hg:PG X tg g)(hb:PSs X body tb)
  (hs:∀x,foldedSetIterable iter X.env x=pure x:=by intro _;rfl):PS X (.For tg iter body [] pos) (tFor wi g tb):=by
 intro pins s σ H D I h
 refine wpAny_For (thn (hi pins s σ H _ I h) λv s1 h1=>thn h1 λitv s2 h2=>?_) hs
 obtain ⟨it,fp,tn,J,H2,e,I2,T,st2,f2,W,⟨m0,w0⟩,turn⟩:=h2
 subst e
 have stat:∀ {H':Hp},(∀b∈fp,H' b=none)→∀b∈fp,vz X pins H' b:=λhn b hb=>⟨hn b hb,(f2 b hb).2⟩
 refine codeAny_forLoop_any (λn s'=>∃i σ' H',Inv X pins σ' H' s'∧tn i s'.heap∧(∀b∈fp,H' b=none)∧W i n σ' H') ?_ m0 ⟨0,σ,H2,I2,st2,λb hb=>(f2 b hb).1,w0⟩
 rintro n s3 ⟨i,σ3,H3,I3,st3,fr3,w3⟩
 rcases turn i n σ3 H3 w3 with ⟨stop,qn⟩|⟨go,N,hN,step⟩
 ·refine dI hp (thn (T.done X rfl rfl rfl hc i pins s3 σ3 H3 X.xe I3 (stat fr3) st3 stop) λr s4 ⟨hr,I4⟩=>?_)
  subst hr
  exact e8 ⟨σ3,H3,I4,qn⟩
 ·refine dI hp (thn (T.item X rfl rfl rfl hc i pins s3 σ3 H3 X.xe I3 (stat fr3) st3 go) λr s4 ⟨u,hr,h4⟩=>?_)
  subst hr
  refine dI hp (thn h4 λ_ s5 ⟨x,H5,I5,r5,y5,st5,fr5⟩=>?_)
  have I5':=I5.pinned (stat fr5) (T.obj _ _ st5)
  refine dI hp (thn (hg _ s5 σ3 H5 x u _ I5' r5 (step x H5 y5)) λ_ s6 ⟨σ6,H6,I6,q6⟩=>?_)
  refine dI hp (thn (hb _ s6 σ6 H6 _ I6 q6) λf s7 q7=>?_)
  have again:∀ {σ7:St} {H7:Hp},Inv X (pins++qz8 fp s5.heap) σ7 H7 s7→N σ7 H7→∃m,m<n∧∃i σ' H',Inv X pins σ' H' s7∧tn i s7.heap∧(∀b∈fp,H' b=none)∧W i m σ' H':=λ{σ7 H7} I7 n7=>by
   obtain ⟨m',hm,w7⟩:=hN σ7 H7 n7
   refine ⟨m',hm,i+1,σ7,H7,I7.unpinned,T.keep _ _ _ st5 λb hb o e=>(I7.pin (b,o) (aF _ (aF _ (km hb e)))).1,λb hb=>?_,w7⟩
   obtain ⟨o,e,d⟩:=T.obj _ _ st5 b hb
   exact (I7.pin (b,o) (aF _ (aF _ (km hb e)))).2.1
  cases f with
  |next=>obtain ⟨σ7,H7,I7,n7⟩:=q7;exact again I7 n7
  |cont=>obtain ⟨σ7,H7,I7,n7⟩:=q7;exact again I7 n7
  |brk=>obtain ⟨σ7,H7,I7,q7⟩:=q7;exact ⟨σ7,H7,I7.unpinned,q7⟩
  |ret v=>obtain ⟨x7,σ7,H7,I7,r7,q7⟩:=q7;exact ⟨x7,σ7,H7,I7.unpinned,r7,q7⟩
end
theorem wk5 {K:Aa}{a:Aj}{xs:List V}{g:TG}{tb:TS}{D:Ends}{σ:St}{H:Hp}(Pv:Nat→St→Hp→Prop)(h0:Pv 0 σ H)(hl:∀i σ H,i≤xs.length→Pv i σ H→SqL K H a xs)
  (hs:∀i x σ H,xs[i]?=some x→Pv i σ H→g x σ H λσ2 H2=>tb { D with nx:=Pv (i+1),ct:=Pv (i+1),bk:=D.nx } σ2 H2) (hd:∀σ H,Pv xs.length σ H→D.nx σ H) :
  ∃W:Nat→Nat→St→Hp→Prop,(∃m,W 0 m σ H)∧∀i m σ H,W i m σ H →
   ((Itl K a).stop i H∧D.nx σ H)∨((Itl K a).go i H∧∃N:St→Hp→Prop,(∀σ' H',N σ' H'→∃m',m'<m∧W (i+1) m' σ' H')∧∀x H',(Itl K a).yld i H x H'→g x σ H' λσ2 H2=>tb { D with nx:=N,ct:=N,bk:=D.nx } σ2 H2):=by
 refine ⟨λi m σ H=>m=xs.length-i∧i≤xs.length∧Pv i σ H,⟨xs.length,by simp,aV _,h0⟩,?_⟩
 rintro i m σ H ⟨rfl,hi,p⟩
 have q:=hl i σ H hi p
 by_cases hlt:i<xs.length
 ·refine .inr ⟨⟨xs,xs[i],q,by simp [hlt]⟩,Pv (i+1),λσ' H' p'=>⟨xs.length-(i+1),by lia,rfl,hlt,p'⟩,λx H' y=>?_⟩
  obtain ⟨e,y⟩:=y
  subst e
  exact hs i x σ _ (y xs q) p
 ·have e:i=xs.length:=by lia
  subst e
  exact .inl ⟨⟨xs,q,aj _⟩,hd σ H p⟩
theorem xq1 {K:Aa}{a:Aj}{xs:List V}{g:TG}{tb:TS}{D:Ends}{σ:St}{H:Hp}(Pv:Nat→St→Hp→Prop)(h0:Pv 0 σ H)(hl:∀i σ H,i≤xs.length→Pv i σ H→SqT K H a xs)
  (hs:∀i x σ H,xs[i]?=some x→Pv i σ H→g x σ H λσ2 H2=>tb { D with nx:=Pv (i+1),ct:=Pv (i+1),bk:=D.nx } σ2 H2) (hd:∀σ H,Pv xs.length σ H→D.nx σ H) :
  ∃W:Nat→Nat→St→Hp→Prop,(∃m,W 0 m σ H)∧∀i m σ H,W i m σ H →
   ((Itt K a).stop i H∧D.nx σ H)∨((Itt K a).go i H∧∃N:St→Hp→Prop,(∀σ' H',N σ' H'→∃m',m'<m∧W (i+1) m' σ' H')∧∀x H',(Itt K a).yld i H x H'→g x σ H' λσ2 H2=>tb { D with nx:=N,ct:=N,bk:=D.nx } σ2 H2):=by
 refine ⟨λi m σ H=>m=xs.length-i∧i≤xs.length∧Pv i σ H,⟨xs.length,by simp,aV _,h0⟩,?_⟩
 rintro i m σ H ⟨rfl,hi,p⟩
 have q:=hl i σ H hi p
 by_cases hlt:i<xs.length
 ·refine .inr ⟨⟨xs,xs[i],q,by simp [hlt]⟩,Pv (i+1),λσ' H' p'=>⟨xs.length-(i+1),by lia,rfl,hlt,p'⟩,λx H' y=>?_⟩
  obtain ⟨e,y⟩:=y
  subst e
  exact hs i x σ _ (y xs q) p
 ·have e:i=xs.length:=by lia
  subst e
  exact .inl ⟨⟨xs,q,aj _⟩,hd σ H p⟩
theorem k9 {lo:Int}{n:Nat}{g:TG}{tb:TS}{D:Ends}{σ:St}{H:Hp}(Pv:Nat→St→Hp→Prop)(h0:Pv 0 σ H)
  (hs:∀i σ H,i<n→Pv i σ H→g (.int (lo+i)) σ H λσ2 H2=>tb { D with nx:=Pv (i+1),ct:=Pv (i+1),bk:=D.nx } σ2 H2) (hd:∀σ H,Pv n σ H→D.nx σ H) :
  ∃W:Nat→Nat→St→Hp→Prop,(∃m,W 0 m σ H)∧∀i m σ H,W i m σ H →
   ((Itr lo n).stop i H∧D.nx σ H)∨((Itr lo n).go i H∧∃N:St→Hp→Prop,(∀σ' H',N σ' H'→∃m',m'<m∧W (i+1) m' σ' H')∧∀x H',(Itr lo n).yld i H x H'→g x σ H' λσ2 H2=>tb { D with nx:=N,ct:=N,bk:=D.nx } σ2 H2):=by
 refine ⟨λi m σ H=>m=n-i∧i≤n∧Pv i σ H,⟨n,by simp,aV _,h0⟩,?_⟩
 rintro i m σ H ⟨rfl,hi,p⟩
 by_cases hlt:i<n
 ·refine .inr ⟨hlt,Pv (i+1),λσ' H' p'=>⟨n-(i+1),by lia,rfl,hlt,p'⟩,λx H' y=>?_⟩
  obtain ⟨e,y⟩:=y
  subst e y
  exact hs i σ _ hlt p
 ·have e:i=n:=by lia
  subst e
  exact .inl ⟨aj _,hd σ H p⟩
theorem Zz {c:TT}{tb:TS}{D:Ends}{σ:St}{H:Hp}(Pv:St→Hp→Prop)(μ:St→Hp→Nat)(h0:Pv σ H)
  (hs:∀σ H,Pv σ H→c σ H λb H1=>if b=true then tb { D with nx:=λσ' H'=>Pv σ' H'∧μ σ' H'<μ σ H,ct:=λσ' H'=>Pv σ' H'∧μ σ' H'<μ σ H,bk:=D.nx } σ H1 else D.nx σ H1)
  (mono:∀σ H Q Q',(∀b H1,Q b H1→Q' b H1)→c σ H Q→c σ H Q'):wwv c tb D σ H:=by
 refine ⟨λm σ H=>m=μ σ H∧Pv σ H,⟨_,rfl,h0⟩,?_⟩
 rintro m σ H ⟨rfl,p⟩
 refine mono σ H _ _ (λb H1 q=>?_) (hs σ H p)
 cases b with
 |true=>exact ⟨_,λσ' H' ⟨p',l⟩=>⟨_,l,rfl,p'⟩,q⟩
 |false=>exact q
abbrev R2:=V→V→Hp→VK→Prop
def OpR (X:Cx)(f:Ag→Ag→Sem Ag)(r:R2):Prop :=
 ∀(pins:List (Aj×Obj)) (s:Ab) (σ:St) (H:Hp) (x y:V) (v u:Ag) (Q:VK),Inv X pins σ H s→RelV x v→RelV y u→r x y H Q →
  wpAny (model X.prog X.w) X.A (f v u) (EP X pins σ Q) X.xe s
def UnR (X:Cx)(f:Ag→Sem Ag)(r:V→Hp→VK→Prop):Prop :=
 ∀(pins:List (Aj×Obj)) (s:Ab) (σ:St) (H:Hp) (x:V) (v:Ag) (Q:VK),Inv X pins σ H s→RelV x v→r x H Q →
  wpAny (model X.prog X.w) X.A (f v) (EP X pins σ Q) X.xe s
def jk (X:Cx)(f:Ag)(r:List V→Hp→VK→Prop):Prop :=
 ∀(pins:List (Aj×Obj)) (s:Ab) (σ:St) (H:Hp) (xs:List V) (us:List Ag) (Q:VK),Inv X pins σ H s→Vals xs us→r xs H Q →
  wpAny (model X.prog X.w) X.A (call f us) (EP X pins σ Q) X.xe s
def tOp (r:R2)(ta tb:TE):TE:=λσ H Q=>ta σ H λx H1=>tb σ H1 λy H2=>r x y H2 Q
def tUn (r:V→Hp→VK→Prop)(ta:TE):TE:=λσ H Q=>ta σ H λx H1=>r x H1 Q
def rI (C:Int→Int→Prop)(g:Int→Int→V):R2:=λx y H Q=>∃i j,x=.int i∧y=.int j∧C i j∧Q (g i j) H
def rI0 (g:Int→Int→V):R2:=λx y H Q=>∃i j,x=.int i∧y=.int j∧Q (g i j) H
def rU (g:Int→V):V→Hp→VK→Prop:=λx H Q=>∃i,x=.int i∧Q (g i) H
section
variable {X:Cx}{a b c:Expr}{ta tb tc:TE}{pos:Pos}
theorem binT (ha:PE X a ta)(hb:PE X b tb){pins:List (Aj×Obj)}{s:Ab}{σ:St}{H:Hp}{R:V→V→Hp→Prop}(I:Inv X pins σ H s)
  (h:ta σ H λx H1=>tb σ H1 λy H2=>R x y H2) {Q:Ag→Ab→Prop} {f:Ag→Ag→Sem Ag}
  (hf:∀v u s2 x y H2,Inv X pins σ H2 s2→RelV x v→RelV y u→R x y H2→wpAny (model X.prog X.w) X.A (f v u) Q X.xe s2) :
  wpAny (model X.prog X.w) X.A (eval a X.env) (λv s₁=>wpAny (model X.prog X.w) X.A (eval b X.env) (λu s₂=>wpAny (model X.prog X.w) X.A (f v u) Q X.xe s₂) X.xe s₁) X.xe s:=by
 refine thn (ha pins s σ H _ I h) λv s1 ⟨x,H1,I1,r1,q1⟩=>?_
 refine thn (hb pins s1 σ H1 _ I1 q1) λu s2 ⟨y,H2,I2,r2,q2⟩=>?_
 exact hf v u s2 x y H2 I2 r1 r2 q2
theorem ww {op:Operator}{r:R2}(ho:OpR X (binaryOp op) r)(ha:PE X a ta)(hb:PE X b tb):PE X (.BinOp a op b pos) (tOp r ta tb):=by
 intro pins s σ H Q I h
 exact wpAny_BinOp (binT ha hb I h λv u s2 x y H2 I2 rx ry q=>ho pins s2 σ H2 x y v u Q I2 rx ry q)
theorem qww {op:UnaryOp}{r:V→Hp→VK→Prop}(ho:UnR X (unaryOp op) r)(ha:PE X a ta):PE X (.UnaryOp op a pos) (tUn r ta):=by
 intro pins s σ H Q I h
 exact UnaryOp_ (thn (ha pins s σ H _ I h) λv s1 ⟨x,H1,I1,r1,q1⟩=>ho pins s1 σ H1 x v Q I1 r1 q1)
theorem opI {f:Ag→Ag→Sem Ag}{C:Int→Int→Prop}{g:Int→Int→Int}
  (rule:∀(i j:Int) (t u:Tok) (s:Ab) (Q:Ag→Ab→Prop) (E:Ag→Ab→Prop),C i j→Q (.int (g i j) s.toks) { s with toks:=s.toks+1 }→wpAny (model X.prog X.w) X.A (f (.int i t) (.int j u)) Q E s) :
  OpR X f (rI C λi j=>.int (g i j)):=by
 intro pins s σ H x y v u Q I rx ry h
 obtain ⟨i,j,rfl,rfl,hc,q⟩:=h
 obtain ⟨t,rfl⟩:=rx
 obtain ⟨t',rfl⟩:=ry
 exact rule i j t t' s _ _ hc ⟨.int (g i j),H,I.tok _,⟨_,rfl⟩,q⟩
theorem opI0 {f:Ag→Ag→Sem Ag}{g:Int→Int→Int}
  (rule:∀(i j:Int) (t u:Tok) (s:Ab) (Q:Ag→Ab→Prop) (E:Ag→Ab→Prop),Q (.int (g i j) s.toks) { s with toks:=s.toks+1 }→wpAny (model X.prog X.w) X.A (f (.int i t) (.int j u)) Q E s) :
  OpR X f (rI0 λi j=>.int (g i j)):=by
 intro pins s σ H x y v u Q I rx ry h
 obtain ⟨i,j,rfl,rfl,q⟩:=h
 obtain ⟨t,rfl⟩:=rx
 obtain ⟨t',rfl⟩:=ry
 exact rule i j t t' s _ _ ⟨.int (g i j),H,I.tok _,⟨_,rfl⟩,q⟩
theorem opB0 {f:Ag→Ag→Sem Ag}{g:Int→Int→Bool}
  (rule:∀(i j:Int) (t u:Tok) (s:Ab) (Q:Ag→Ab→Prop) (E:Ag→Ab→Prop),Q (.bool (g i j)) s→wpAny (model X.prog X.w) X.A (f (.int i t) (.int j u)) Q E s) :
  OpR X f (rI0 λi j=>.bl (g i j)):=by
 intro pins s σ H x y v u Q I rx ry h
 obtain ⟨i,j,rfl,rfl,q⟩:=h
 obtain ⟨t,rfl⟩:=rx
 obtain ⟨t',rfl⟩:=ry
 exact rule i j t t' s _ _ ⟨.bl (g i j),H,I,rfl,q⟩
def CPow (i j:Int):Prop:=0≤j∧j≤1000000∧i.natAbs<2 ^ 64
theorem xv:OpR X (binaryOp .Add) (rI0 λi j=>.int (i+j)):=opI0 λ_ _ _ _ _ _ _ q=>add_int q
theorem vq:OpR X (binaryOp .Sub) (rI0 λi j=>.int (i-j)):=opI0 λ_ _ _ _ _ _ _ q=>sub_int q
theorem v9:OpR X (binaryOp .Mod) (rI (λ_ j=>0<j) λi j=>.int (i%j)):=opI λi j _ _ _ _ _ hc q=>by
 have h1:(0:Int)<j:=hc
 exact mod_int' (by lia) (by rw [Int.fmod_eq_emod_of_nonneg i (by lia)];exact q)
theorem op_pow:OpR X (binaryOp .Pow) (rI CPow λi j=>.int (i ^ j.toNat)):=opI λ_ _ _ _ _ _ _ hc q=>pow_int_small hc.1 hc.2.1 hc.2.2 q
theorem unI {f:Ag→Sem Ag}{g:Int→Int}
  (rule:∀(i:Int) (t:Tok) (s:Ab) (Q:Ag→Ab→Prop) (E:Ag→Ab→Prop),Q (.int (g i) s.toks) { s with toks:=s.toks+1 }→wpAny (model X.prog X.w) X.A (f (.int i t)) Q E s) :
  UnR X f (rU λi=>.int (g i)):=by
 intro pins s σ H x v Q I rx h
 obtain ⟨i,rfl,q⟩:=h
 obtain ⟨t,rfl⟩:=rx
 exact rule i t s _ _ ⟨.int (g i),H,I.tok _,⟨_,rfl⟩,q⟩
theorem W4:UnR X (unaryOp .USub) (rU λi=>.int (-i)):=unI λ_ _ _ _ _ q=>neg_int q
end
def scal:V→V→Bool
 |.non,.non=>true|.non,.int _=>true|.int _,.non=>true|.non,.bl _=>true|.bl _,.non=>true|.non,.str _=>true|.str _,.non=>true
 |.int _,.int _=>true|.bl _,.bl _=>true|.str _,.str _=>true|.byt _,.byt _=>true
 |.int _,.str _=>true|.str _,.int _=>true|.bl _,.str _=>true|.str _,.bl _=>true
 |_,_=>false
def rEq:R2:=λx y H Q=>scal x y=true∧Q (.bl (decide (x=y))) H
def rNe:R2:=λx y H Q=>scal x y=true∧Q (.bl (!decide (x=y))) H
theorem ww1 {i j:Int}:decide (V.int i=V.int j)=(i==j):=by
 rw [ee]
 simp
theorem wjh {i j:Bool}:decide (V.bl i=V.bl j)=(i==j):=by
 rw [ee]
 simp
theorem wxt {i j:Str}:decide (V.str i=V.str j)=(i==j):=by
 rw [ee]
 simp
theorem wx8 {i j:Array UInt8}:decide (V.byt i=V.byt j)=(i.toList==j.toList):=by
 rw [ee]
 cases i
 cases j
 simp
section
variable {X:Cx}{a b c:Expr}{ta tb tc:TE}{pos:Pos}
theorem xn {pins:List (Aj×Obj)}{σ:St}{H:Hp}{s:Ab}{Q:VK}{k k':Bool}(I:Inv X pins σ H s)(q:Q (.bl k) H)(e:k=k'):EP X pins σ Q (.bool k') s:=by
 subst e
 exact ⟨.bl k,H,I,rfl,q⟩
theorem vf:OpR X (compareOp .Eq) rEq:=by
 intro pins s σ H x y v u Q I rx ry h
 obtain ⟨hs,q⟩:=h
 cases x with
 |non =>
  cases rx
  cases y with
  |non=>cases ry;exact PySem.EqNone.eq_none_none (xn I q (by simp))
  |bl j=>cases ry;exact PySem.EqNone.eq_none_bool (xn I q (by simp))
  |int j=>obtain ⟨t',rfl⟩:=ry;exact PySem.EqNone.eq_none_int (xn I q (by simp))
  |str j=>obtain ⟨t',rfl⟩:=ry;exact PySem.EqNone.eq_none_str (xn I q (by simp))
  |_=>exact absurd (show false=true from hs) aE
 |bl i =>
  cases rx
  cases y with
  |non=>cases ry;exact PySem.EqNone.eq_bool_none (xn I q (by simp))
  |bl j=>cases ry;exact eq_bool (xn I q wjh)
  |str j=>obtain ⟨t',rfl⟩:=ry;exact PySem.EqMixed.eq_bool_str (xn I q (by simp))
  |_=>exact absurd (show false=true from hs) aE
 |int i =>
  obtain ⟨t,rfl⟩:=rx
  cases y with
  |non=>cases ry;exact PySem.EqNone.eq_int_none (xn I q (by simp))
  |int j=>obtain ⟨t',rfl⟩:=ry;exact eq_int (xn I q ww1)
  |str j=>obtain ⟨t',rfl⟩:=ry;exact PySem.EqMixed.eq_int_str (xn I q (by simp))
  |_=>exact absurd (show false=true from hs) aE
 |str i =>
  obtain ⟨t,rfl⟩:=rx
  cases y with
  |non=>cases ry;exact PySem.EqNone.eq_str_none (xn I q (by simp))
  |bl j=>cases ry;exact PySem.EqMixed.eq_str_bool (xn I q (by simp))
  |int j=>obtain ⟨t',rfl⟩:=ry;exact PySem.EqMixed.eq_str_int (xn I q (by simp))
  |str j=>obtain ⟨t',rfl⟩:=ry;exact eq_str (xn I q wxt)
  |_=>exact absurd (show false=true from hs) aE
 |byt i =>
  obtain ⟨t,rfl⟩:=rx
  cases y with
  |byt j=>obtain ⟨t',rfl⟩:=ry;exact PySem.W.eq_bytes (xn I q wx8)
  |_=>exact absurd (show false=true from hs) aE
 |_=>cases y <;> exact absurd (show false=true from hs) aE
theorem op_ne:OpR X (compareOp .NotEq) rNe:=by
 intro pins s σ H x y v u Q I rx ry h
 obtain ⟨hs,q⟩:=h
 cases x with
 |non =>
  cases rx
  cases y with
  |non=>cases ry;exact PySem.EqNone.ne_none_none (xn I q (by simp))
  |bl j=>cases ry;exact PySem.EqNone.ne_none_bool (xn I q (by simp))
  |int j=>obtain ⟨t',rfl⟩:=ry;exact PySem.EqNone.ne_none_int (xn I q (by simp))
  |str j=>obtain ⟨t',rfl⟩:=ry;exact PySem.EqNone.ne_none_str (xn I q (by simp))
  |_=>exact absurd (show false=true from hs) aE
 |bl i =>
  cases rx
  cases y with
  |non=>cases ry;exact PySem.EqNone.ne_bool_none (xn I q (by simp))
  |bl j=>cases ry;exact ne_bool (xn I q (cz not wjh))
  |str j=>obtain ⟨t',rfl⟩:=ry;exact PySem.EqMixed.ne_bool_str (xn I q (by simp))
  |_=>exact absurd (show false=true from hs) aE
 |int i =>
  obtain ⟨t,rfl⟩:=rx
  cases y with
  |non=>cases ry;exact PySem.EqNone.ne_int_none (xn I q (by simp))
  |int j=>obtain ⟨t',rfl⟩:=ry;exact ne_int (xn I q (cz not ww1))
  |str j=>obtain ⟨t',rfl⟩:=ry;exact PySem.EqMixed.ne_int_str (xn I q (by simp))
  |_=>exact absurd (show false=true from hs) aE
 |str i =>
  obtain ⟨t,rfl⟩:=rx
  cases y with
  |non=>cases ry;exact PySem.EqNone.ne_str_none (xn I q (by simp))
  |bl j=>cases ry;exact PySem.EqMixed.ne_str_bool (xn I q (by simp))
  |int j=>obtain ⟨t',rfl⟩:=ry;exact PySem.EqMixed.ne_str_int (xn I q (by simp))
  |str j=>obtain ⟨t',rfl⟩:=ry;exact ne_str (xn I q (cz not wxt))
  |_=>exact absurd (show false=true from hs) aE
 |byt i =>
  obtain ⟨t,rfl⟩:=rx
  cases y with
  |byt j=>obtain ⟨t',rfl⟩:=ry;exact PySem.W.ne_bytes (xn I q (cz not wx8))
  |_=>exact absurd (show false=true from hs) aE
 |_=>cases y <;> exact absurd (show false=true from hs) aE
theorem qw6:OpR X (compareOp .Lt) (rI0 λi j=>.bl (decide (i<j))):=opB0 λ_ _ _ _ _ _ _ q=>lt_int q
theorem wwn:OpR X (compareOp .LtE) (rI0 λi j=>.bl (decide (i≤j))):=opB0 λ_ _ _ _ _ _ _ q=>le_int q
theorem Qj:OpR X (compareOp .Gt) (rI0 λi j=>.bl (decide (j<i))):=opB0 λ_ _ _ _ _ _ _ q=>gt_int q
theorem wxx:OpR X (compareOp .GtE) (rI0 λi j=>.bl (decide (j≤i))):=opB0 λ_ _ _ _ _ _ _ q=>ge_int q
theorem op_isN:OpR X (compareOp .Is) (λx y H Q=>y=.non∧Q (.bl (decide (x=.non))) H):=by
 intro pins s σ H x y v u Q I rx ry h
 obtain ⟨rfl,q⟩:=h
 cases ry
 refine is_none_gen (xn I q ?_)
 cases x <;> first
  |(cases rx;rfl)
  |(obtain ⟨t,rfl⟩:=rx;rfl)
theorem wx0:OpR X (compareOp .IsNot) (λx y H Q=>y=.non∧Q (.bl (!decide (x=.non))) H):=by
 intro pins s σ H x y v u Q I rx ry h
 obtain ⟨rfl,q⟩:=h
 cases ry
 refine isnot_none_gen (xn I q ?_)
 cases x <;> first
  |(cases rx;rfl)
  |(obtain ⟨t,rfl⟩:=rx;rfl)
theorem wn (b:Expr){op:CmpOp}(h:op≠.In:=by decide)(h2:op≠.NotIn:=by decide):behindInMarks op b=false:=by
 have e1:(op==CmpOp.In)=false:=by cases op <;> first | rfl | exact absurd rfl h
 have e2:(op==CmpOp.NotIn)=false:=by cases op <;> first | rfl | exact absurd rfl h2
 cases b <;> simp [behindInMarks,e1,e2]
theorem Q3 {op:CmpOp}{r:R2}(ho:OpR X (compareOp op) r)(ha:PE X a ta)(hb:PE X b tb)(hm:behindInMarks op b=false):PE X (.Compare a [op] [b] pos) (tOp r ta tb):=by
 intro pins s σ H Q I h
 exact wpAny_Compare1 (binT ha hb I h λv u s2 x y H2 I2 rx ry q=>ho pins s2 σ H2 x y v u Q I2 rx ry q) hm
def wuq (t:TE):TT:=λσ H Q=>t σ H λx H'=>∃k,x=.bl k∧Q k H'
theorem wc {op:CmpOp}{r:R2}(ho:OpR X (compareOp op) r)(ha:PE X a ta)(hb:PE X b tb)(hm:behindInMarks op b=false):PT X (.Compare a [op] [b] pos) (wuq (tOp r ta tb)):=by
 intro pins s σ H Q I h
 refine wpAny_isTrue_Compare1 (thn (ha pins s σ H _ I h) λv s1 ⟨x,H1,I1,r1,q1⟩=>thn (hb pins s1 σ H1 _ I1 q1) λu s2 ⟨y,H2,I2,r2,q2⟩ =>
  thn (ho pins s2 σ H2 x y v u _ I2 r1 r2 q2) λc s3 ⟨z,H3,I3,r3,k,e,q3⟩=>?_) hm
 subst e
 cases r3
 exact df ⟨H3,I3,q3⟩
theorem qvm:(sizeLine:Nat)<2 ^ 63:=by rw [dC];decide
theorem jh {x:V}{us:List Ag}(r:Vals [x] us):∃u,us=[u]∧RelV x u:=by
 cases r with
 |cons r1 r2=>cases r2;exact ⟨_,rfl,r1⟩
theorem vals2 {x y:V}{us:List Ag}(r:Vals [x,y] us):∃u w',us=[u,w']∧RelV x u∧RelV y w':=by
 cases r with
 |cons r1 r2 =>
  cases r2 with
  |cons r3 r4=>cases r4;exact ⟨_,_,rfl,r1,r3⟩
theorem qq2:jk X (.builtin "abs") (λxs H Q=>∃i,xs=[.int i]∧Q (.int (if i<0 then -i else i)) H):=by
 intro pins s σ H xs us Q I r h
 obtain ⟨i,rfl,q⟩:=h
 obtain ⟨u,rfl,t,rfl⟩:=jh r
 exact call_abs_int λu tk=>⟨.int (if i<0 then -i else i),H,I.tok _,⟨_,rfl⟩,q⟩
theorem Z6 (hc:X.calm=true):jk X (.builtin "max") (λxs H Q=>∃i j,xs=[.int i,.int j]∧Q (.int (if j>i then j else i)) H):=by
 intro pins s σ H xs us Q I r h
 obtain ⟨i,j,rfl,q⟩:=h
 obtain ⟨u,w',rfl,⟨t,rfl⟩,⟨t',rfl⟩⟩:=vals2 r
 refine max_two_ints (I.ok.hd hc) λh' tk k=>⟨_,H,I.kept k,?_,q⟩
 by_cases hj:j>i
 ·rw [av hj,av hj];exact ⟨_,rfl⟩
 ·rw [ao hj,ao hj];exact ⟨_,rfl⟩
theorem jd (hc:X.calm=true):jk X (.builtin "min") (λxs H Q=>∃i j,xs=[.int i,.int j]∧Q (.int (if j<i then j else i)) H):=by
 intro pins s σ H xs us Q I r h
 obtain ⟨i,j,rfl,q⟩:=h
 obtain ⟨u,w',rfl,⟨t,rfl⟩,⟨t',rfl⟩⟩:=vals2 r
 refine min_two_ints (I.ok.hd hc) λh' tk k=>⟨_,H,I.kept k,?_,q⟩
 by_cases hj:j<i
 ·rw [av hj,av hj];exact ⟨_,rfl⟩
 ·rw [ao hj,ao hj];exact ⟨_,rfl⟩
end
structure ObjM (h:Heap)(x dx C:Aj)(mA:Str→Option Ag):Prop where
 obj:h.get? x=some (PySem.W.instObj C dx)
 ns:h.Ns1 dx mA
 ne:dx≠x
theorem wzz {h:Heap}{dx:Aj}{mA:Str→Option Ag}(n:h.Ns1 dx mA):∃od,h.get? dx=some od∧∀name,PySem.W.lookIn name od=some (mA name):=by
 obtain ⟨o,es,ep,ho,hd,hk,_,hm⟩:=n
 refine ⟨o,ho,λname=>?_⟩
 have e:=hm name
 unfold nsFind findBy at e
 rw [←Array.find?_toList] at e
 unfold PySem.W.lookIn
 rw [hd]
 dsimp only
 split
 ·rename_i y q
  rw [q] at e
  exact cz some e
 ·rename_i q
  rw [q] at e
  have a:es.toList.any (·.refKey)=false:=by
   rw [List.any_eq_false]
   intro y hy
   obtain ⟨z,t,hkey⟩:=hk y (fR.mp hy)
   simp [DictEntry.refKey,hkey]
  have a':¬ es.toList.any (·.refKey)=true:=by rw [a];exact aE
  rw [ao a']
  exact cz some e
theorem ObjM.look {h:Heap}{x dx C:Aj}{mA:Str→Option Ag}(I:ObjM h x dx C mA):∃od,PySem.W.InstAt h x (PySem.W.instObj C dx) C (some od)∧∀name,PySem.W.lookIn name od=some (mA name) :=
 let ⟨od,ho,hl⟩:=wzz I.ns
 ⟨od,⟨I.obj,rfl,rfl,ho⟩,hl⟩
section
variable {prog:Ac}{w:Ah}{A:Ae}{E:Ag→Ab→Prop}{s:Ab}{K:Aa}{x dx C f:Aj}{mA:Str→Option Ag}{name:Str}{v:Ag}
theorem xqq {expr:Bool}{Q:Ag→Ab→Prop}(X:K.In s.heap)(I:ObjM s.heap x dx C mA)(hg:PySem.W.plainGet K C name=true)(hh:PySem.W.hasDictIn K C=true)
  (ha:PySem.W.findIn K (.ref C) name=some none) (hv:mA name=some v) (hv':PySem.W.handedIn v=true) (h:Q v { s with toks:=s.toks+1 }) :
  wpAny (model prog w) A (getAttr (.ref x) name expr) Q E s:=by
 obtain ⟨od,J,hl⟩:=I.look
 exact PySem.W.get_value X J (ge hg).1 (PySem.W.findObj_own hh ha rfl (by rw [hl,hv])) hv' h
theorem wy8 {pl:Sem Bool}{Q:Ag×List Ag→Ab→Prop}(X:K.In s.heap)(I:ObjM s.heap x dx C mA)(hg:PySem.W.plainGet K C name=true)
  (hf:PySem.W.findIn K (.ref C) name=some (some (.ref f))) (ht:PySem.W.isFn K (.ref f)=true) (hv:mA name=none) (h:Q (.ref f,[.ref x]) s) :
  wpAny (model prog w) A (getMethod (.ref x) name pl) Q E s:=by
 obtain ⟨od,J,hl⟩:=I.look
 exact PySem.W.method_fn X J (ge hg).1 (ge hg).2 hf (fj.mp ht) (by show (PySem.W.lookIn name od).map (·.isSome)=some false;rw [hl,hv];rfl) h
theorem xw7 {ns:List Str}{Q:Unit→Ab→Prop}(X:K.In s.heap)(I:ObjM s.heap x dx C mA)
  (hs:PySem.W.findIn K (.ref C) "__setattr__" = some (some (.builtin "object.__setattr__"))) (hp:PySem.W.plainOver K C=true) (ht:PySem.W.takerIn K C name=some none) (hh:PySem.W.hasDictIn K C=true)
  (hw:PySem.Within mA ns) (hsz:ns.length≤sizeLine)
  (h:∀h',ObjM h' x dx C (λy=>if y=name then some v else mA y)→Heap.SameBut dx s.heap h'→Q () { s with heap:=h',toks:=s.toks+2 }) :
  wpAny (model prog w) A (setAttr (.ref x) name v) Q E s:=by
 obtain ⟨od,J,hl⟩:=I.look
 refine PySem.W.set_plain X J hs (PySem.W.osa_open (s:={ s with toks:=s.toks+1 }) (r:=none) X J hp ht λb=>?_)
 obtain ⟨cd,hc,hd'⟩:=PySem.W.any_some hh
 have hx:s.heap.get? x=some ⟨.ref C,some dx,.plain,#[]⟩:=I.obj
 refine aa (ah (aa (aa (wpAny_loadPart hx (aa (PySem.W.Looks.here (s:={ s with toks:=s.toks+1 }) (PySem.W.looks_clsIn X hc) ?_))))))
 rw [hd']
 refine ah (a:=some dx) (aa (ah (aa ?_)))
 refine wpAny_nsSet1 (s:={ s with toks:=s.toks+1 }) I.ns λh' hn2 hs2=>?_
 obtain ⟨oD,esD,epD,hoD,hdD,hcD⟩:=hn2.count (PySem.Within.cons name v hw)
 refine aa (wpAny_lookBehind hoD (by rw [hdD];exact pastItsLine_dict (bB hcD (by rw [aQ];lia))) ?_)
 exact ah (h _ ⟨(hs2.2 _ (de I.ne)).trans I.obj,hn2,I.ne⟩ hs2)
theorem wkr {R:Result→Ab→Prop}{vs:List Ag}{kw:List (Str×Ag)}(X:K.In s.heap)(hm:PySem.W.makesIn K C=true)
  (hi:PySem.W.findIn K (.ref C) "__init__" = some (some (.ref f))) (hf:PySem.W.typeIn K (.ref f)=some (.type "function"))
  (h:codeAny (model prog w) (A.under (.builtin "type.__call__" ⟨.ref C::vs,kw⟩)) (.call (.ref f) ⟨.ref (s.heap.objs.size+1)::vs,kw⟩) (PySem.W.InitBack (s.heap.objs.size+1) R)
   { s with heap:=(s.heap.push PySem.W.emptyDict).push (PySem.W.instObj C s.heap.objs.size) }) :
  codeAny (model prog w) A (.call (.ref C) ⟨vs,kw⟩) R s:=by
 obtain ⟨hh,g,d,t,os⟩:=s
 exact PySem.W.make_core (PySem.W.makes_of X hm) (PySem.W.looks_findIn X hi) (λself=>PySem.W.bind_fn X self hf) (.inl rfl) h
end
def Q9 (f:Str)(v:V):List (Str×V)→List (Str×V)
 |[]=>[(f,v)]
 |(g,x)::r=>if g=f then (g,v)::r else (g,x)::Q9 f v r
theorem Y9 (f g:Str)(v:V):∀fs:List (Str×V),(Q9 f v fs).lookup g=if g=f then some v else fs.lookup g
 |[]=>by
  show List.lookup g [(f,v)]=_
  by_cases h:g=f
  ·have hb:(g==f)=true:=fj.mpr h
   simp only [List.lookup,hb,av h]
  ·have hb:(g==f)=false:=b8.mpr h
   simp only [List.lookup,hb,ao h]
 |(k,x)::r=>by
  have ih:=Y9 f g v r
  rw [show Q9 f v ((k,x)::r)=(if k=f then (k,v)::r else (k,x)::Q9 f v r) from rfl]
  by_cases hk:k=f
  ·rw [av hk]
   by_cases h:g=k
   ·have hb:(g==k)=true:=fj.mpr h
    simp only [List.lookup,hb,av (h.trans hk)]
   ·have hb:(g==k)=false:=b8.mpr h
    simp only [List.lookup,hb,ao (λe:g=f=>h (e.trans hk.symm))]
  ·rw [ao hk]
   by_cases h:g=k
   ·have hb:(g==k)=true:=fj.mpr h
    simp only [List.lookup,hb,ao (λe:g=f=>hk (h.symm.trans e))]
   ·have hb:(g==k)=false:=b8.mpr h
    simp only [List.lookup,hb]
    exact ih
theorem Ym (f:Str)(v:V):∀fs:List (Str×V),f∈(Q9 f v fs).map (·.1)∧∀g,g∈fs.map (·.1)→g∈(Q9 f v fs).map (·.1)
 |[]=>⟨by simp [Q9],λg h=>by simp at h⟩
 |(k,x)::r=>by
  obtain ⟨i1,i2⟩:=Ym f v r
  rw [show Q9 f v ((k,x)::r)=(if k=f then (k,v)::r else (k,x)::Q9 f v r) from rfl]
  by_cases hk:k=f
  ·rw [av hk]
   subst hk
   exact ⟨by simp,λg h=>by simpa using h⟩
  ·rw [ao hk]
   refine ⟨?_,λg h=>?_⟩
   ·rw [aN]
    exact bD _ i1
   ·rw [aN] at h ⊢
    rcases aM.mp h with e|e
    ·exact aM.mpr (.inl e)
    ·exact bD _ (i2 g e)
theorem Y7 (f:Str)(v:V):∀fs:List (Str×V),(Q9 f v fs).length≤fs.length+1
 |[]=>by simp [Q9]
 |(k,x)::r=>by
  have ih:=Y7 f v r
  rw [show Q9 f v ((k,x)::r)=(if k=f then (k,v)::r else (k,x)::Q9 f v r) from rfl]
  by_cases hk:k=f
  ·rw [av hk,aQ,aQ];lia
  ·rw [ao hk,aQ,aQ];lia
theorem RelO.some_of {v:V}{o:Option Ag}(r:RelO (some v) o):∃u,o=some u∧RelV v u:=by
 cases o with
 |none=>exact (show False from r).elim
 |some u=>exact ⟨u,rfl,r⟩
theorem RelO.none_of {o:Option Ag}(r:RelO none o):o=none:=by
 cases o with
 |none=>rfl
 |some u=>exact (show False from r).elim
theorem wkk {v:V}{u:Ag}(r:RelV v u):PySem.W.handedIn u=true:=by
 cases v with
 |non=>cases (show u=Value.none from r);rfl
 |bl b=>cases (show u=Value.bool b from r);rfl
 |int i=>obtain ⟨t,e⟩:=(show ∃t,u=Value.int i t from r);cases e;rfl
 |str x=>obtain ⟨t,e⟩:=(show ∃t,u=Value.str x t from r);cases e;rfl
 |byt b=>obtain ⟨t,e⟩:=(show ∃t,u=Value.bytes b t from r);cases e;rfl
 |flt b=>obtain ⟨t,e⟩:=(show ∃t,u=Value.float b t from r);cases e;rfl
 |ref a=>cases (show u=Value.ref a from r);rfl
 |ty n=>cases (show u=Value.type n from r);rfl
section
variable {P:Ac}{w:Ah}{H H':Hp}{h h':Heap}{a C dx:Aj}{fs fs':List (Str×V)}
theorem qkp (hok:HOk P w H h)(e:H a=some (.ins C dx fs)):∃mA,ObjM h a dx C mA∧(∀f,RelO (fs.lookup f) (mA f))∧PySem.Within mA (fs.map (·.1))∧fs.length≤1000∧H dx=some (.own a):=by
 obtain ⟨d,z,ne,ob,mA,n,r,q⟩:=(show ObjOk P w H h a (.ins C dx fs) from hok a _ e)
 exact ⟨mA,⟨ob,n,ne⟩,r,q,z,d⟩
end
structure Cls (K:Aa)(C:Aj):Prop where
 pg:PySem.W.plainGet K C Str.empty=true
 hd:PySem.W.hasDictIn K C=true
 po:PySem.W.plainOver K C=true
 sa:PySem.W.findIn K (.ref C) "__setattr__" = some (some (.builtin "object.__setattr__"))
theorem Cls.get {K:Aa}{C:Aj}(c:Cls K C)(f:Str):PySem.W.plainGet K C f=true:=c.pg
def NoAttr (K:Aa)(C:Aj)(f:Str):Prop:=PySem.W.findIn K (.ref C) f=some none
theorem NoAttr.taker {K:Aa}{C:Aj}{f:Str}(n:NoAttr K C f):PySem.W.takerIn K C f=some none:=by
 unfold PySem.W.takerIn
 rw [show PySem.W.findIn K (.ref C) f=some none from n]
 rfl
structure Con (K:Aa)(C:Aj)(f:Str)(v:V)(u:Ag):Prop where
 at_:PySem.W.findIn K (.ref C) f=some (some u)
 rel:RelV v u
 get:PySem.W.specialIn K u "__get__" = some none
 cp:PySem.W.copiedNames.contains f=false
structure Meth (K:Aa)(C:Aj)(m:Str)(f:Aj):Prop where
 at_:PySem.W.findIn K (.ref C) m=some (some (.ref f))
 fn:PySem.W.isFn K (.ref f)=true
 kp:PySem.W.keepIn K (.ref f)=true
section
variable {X:Cx}{pins:List (Aj×Obj)}{σ:St}{H:Hp}{s:Ab}{a C dx:Aj}{fs:List (Str×V)}{f:Str}{v:V}{A:Ae}{E:Ag→Ab→Prop}
theorem qu0 {b:Bool}{Q:Ag→Ab→Prop}(I:Inv X pins σ H s)(e:H a=some (.ins C dx fs))(c:Cls X.K C)(n:NoAttr X.K C f)(l:fs.lookup f=some v)
  (h:∀u s',Inv X pins σ H s'→RelV v u→Q u s'):wpAny (model X.prog X.w) A (getAttr (.ref a) f b) Q E s:=by
 obtain ⟨mA,O,r,_,_,_⟩:=qkp I.hok e
 obtain ⟨u,hu,ru⟩:=RelO.some_of (v:=v) (o:=mA f) (by rw [←l];exact r f)
 exact xqq I.kIn O (c.get f) c.hd n hu (wkk ru) (h u _ (I.tok _) ru)
theorem qwt {m:Str}{g:Aj}{pl:Sem Bool}{Q:Ag×List Ag→Ab→Prop}(I:Inv X pins σ H s)(e:H a=some (.ins C dx fs))(c:Cls X.K C)(k:Meth X.K C m g)(l:fs.lookup m=none)
  (h:Q (.ref g,[.ref a]) s):wpAny (model X.prog X.w) A (getMethod (.ref a) m pl) Q E s:=by
 obtain ⟨mA,O,r,_,_,_⟩:=qkp I.hok e
 have hn:mA m=none:=RelO.none_of (by rw [←l];exact r m)
 exact wy8 I.kIn O (c.get m) k.at_ k.fn hn h
theorem qu3 {y:V}{u:Ag}{Q:Unit→Ab→Prop}(I:Inv X pins σ H s)(e:H a=some (.ins C dx fs))(c:Cls X.K C)(n:NoAttr X.K C f)(hl:fs.length<1000)(ry:RelV y u)
  (h:∀s',Inv X pins σ (upd H a (.ins C dx (Q9 f y fs))) s'→Q () s'):wpAny (model X.prog X.w) A (setAttr (.ref a) f u) Q E s:=by
 obtain ⟨mA,O,r,wi,_,ho⟩:=qkp I.hok e
 have hz:(fs.map (·.1)).length≤sizeLine:=by rw [ag,dC];lia
 refine xw7 I.kIn O c.sa c.po n.taker c.hd wi hz λh' O' sb=>h _ ?_
 have hd:∃o,h'.get? dx=some o:=let ⟨o,_,_,e',_⟩:=O'.ns;⟨o,e'⟩
 refine I.write (x:=a) (e:=dx) (by rw [e];exact True.intro) (.inr ho) (λb q hb z=>(sb.2 b hb).trans z) hd ?_
 refine ⟨by rw [qr O.ne];exact ho,?_,O.ne,O'.obj,_,O'.ns,λg=>?_,λg hg=>?_⟩
 ·have:=Y7 f y fs;lia
 ·show RelO ((Q9 f y fs).lookup g) (if g=f then some u else mA g)
  rw [Y9]
  by_cases q:g=f
  ·rw [av q,av q];exact ry
  ·rw [ao q,ao q];exact r g
 ·by_cases q:g=f
  ·rw [q];exact (Ym f y fs).1
  ·refine (Ym f y fs).2 g (wi g λz=>hg ?_)
   show (if g=f then some u else mA g)=none
   rw [ao q];exact z
theorem Inv.made (I:Inv X pins σ H s):Inv X pins σ (upd (upd H s.heap.objs.size (.own (s.heap.objs.size+1))) (s.heap.objs.size+1) (.ins C s.heap.objs.size []))
  { s with heap:=(s.heap.push PySem.W.emptyDict).push (PySem.W.instObj C s.heap.objs.size) }:=by
 have e1:(s.heap.push PySem.W.emptyDict).get? s.heap.objs.size=some PySem.W.emptyDict:=az s.heap rfl
 have e2:((s.heap.push PySem.W.emptyDict).push (PySem.W.instObj C s.heap.objs.size)).get? (s.heap.objs.size+1)=some (PySem.W.instObj C s.heap.objs.size):=by
  have:=az (s.heap.push PySem.W.emptyDict) (o:=PySem.W.instObj C s.heap.objs.size) rfl
  rwa [cN] at this
 have e3:(s.heap.push PySem.W.emptyDict).Ns s.heap.objs.size (λ_=>none):=⟨PySem.W.emptyDict,#[],_,e1,rfl,(λe he=>absurd he (by simp)),λ_=>rfl⟩
 have I1:=I.laid (a:=s.heap.objs.size) (o:=.own (s.heap.objs.size+1)) (h':=s.heap.push PySem.W.emptyDict) (t':=s.toks) (λb u q=>ai _ q) (aj _) ⟨_,e1⟩
 refine I1.laid (a:=s.heap.objs.size+1) (o:=.ins C s.heap.objs.size []) (t':=s.toks) (λb u q=>ai _ q) (Nat.le_of_eq (cN _ _)) ?_
 have ne:s.heap.objs.size≠s.heap.objs.size+1:=aB (dQ _)
 refine ⟨by rw [qr ne,qb],aV _,ne,e2,λ_=>none,(Heap.Ns1.of_empty e3).at λo q=>ai _ q,λ_=>True.intro,λy hy=>absurd rfl hy⟩
theorem xw5 {prog:Ac}{w:Ah}{env:Env}{e:Expr}{f:Str}{pos:Pos}{s:Ab}{Q:Ag→Ab→Prop}(hb:attributeBase e f env (eval e env)=eval e env)
  (h:wpAny (model prog w) A (eval e env) (λo s₁=>wpAny (model prog w) A (getAttr o f true) Q E s₁) E s):wpAny (model prog w) A (eval (.Attribute e f pos) env) Q E s :=
 Attribute_any_ h (by rw [arm_eval_Attribute,hb])
end
def tFld (K:Aa)(ta:TE)(f:Str):TE:=λσ H Q=>ta σ H λx H1=>∃a C dx fs v,x=.ref a∧H1 a=some (.ins C dx fs)∧Cls K C∧NoAttr K C f∧fs.lookup f=some v∧Q v H1
def sFld (K:Aa)(ta tv:TE)(f:Str):TS:=λD σ H=>tv σ H λy H1=>ta σ H1 λx H2=>∃a C dx fs,x=.ref a∧H2 a=some (.ins C dx fs)∧Cls K C∧NoAttr K C f∧fs.length<1000 ∧
 D.nx σ (upd H2 a (.ins C dx (Q9 f y fs)))
section
variable {X:Cx}{o e value:Expr}{f:Str}{pos pos' tpos:Pos}{ta tv:TE}
theorem wwm (he:PE X e ta)(hb:attributeBase e f X.env (eval e X.env)=eval e X.env):PE X (.Attribute e f pos) (tFld X.K ta f):=by
 intro pins s σ H Q I h
 refine xw5 hb (thn (he pins s σ H _ I h) λu s1 ⟨x,H1,I1,rx,a,C,dx,fs,v,ex,ea,c,n,l,q⟩=>?_)
 subst ex
 obtain rfl:u=Value.ref a:=rx
 exact qu0 I1 ea c n l λu' s2 I2 ru=>⟨v,H1,I2,ru,q⟩
theorem ps_fld (ha:PE X o ta)(hv:PE X value tv)(hs:swapsWith value (some (.Attribute o f pos')) pos.line X.env=pure false):PS X (.Assign [.Attribute o f pos'] value pos) (sFld X.K ta tv f):=by
 intro pins s σ H D I h
 refine plainObj_wpAny_Assign_Attribute (thn (hv pins s σ H _ I h) λu s1 ⟨y,H1,I1,ry,q⟩=>thn (ha pins s1 σ H1 _ I1 q) λov s2 ⟨x,H2,I2,rx,a,C,dx,fs,ex,ea,c,n,l,q2⟩=>?_) hs
 subst ex
 obtain rfl:ov=Value.ref a:=rx
 exact qu3 I2 ea c n l ry λs3 I3=>⟨σ,_,I3,q2⟩
end
section
variable {X:Cx}{pins:List (Aj×Obj)}{σ:St}{H:Hp}{s:Ab}{A:Ae}{E:Ag→Ab→Prop}{Q:Ag→Ab→Prop}{c:Ag}{b:Bool}
inductive TyOf (K:Aa) (H:Hp):V→Ag→Prop where
 |non:TyOf K H .non (.type "NoneType")
 |bl (x:Bool):TyOf K H (.bl x) (.type "bool")
 |int (i:Int):TyOf K H (.int i) (.type "int")
 |str (x:Str):TyOf K H (.str x) (.type "str")
 |flt (x:UInt64):TyOf K H (.flt x) (.type "float")
 |lst {a:Aj} {xs:List V} (e:H a=some (.lst xs)):TyOf K H (.ref a) (.type "list")
 |frz {a:Aj} {o:Obj} {xs:List V} (e:H a=some (.frz o (.lst xs))):TyOf K H (.ref a) (.type "list")
 |tup {a:Aj} {xs:List V} (e:H a=some (.tup xs)):TyOf K H (.ref a) (.type "tuple")
 |dK {a:Aj} {kvs:List (Key×V)} (e:H a=some (.dK kvs)):TyOf K H (.ref a) (.type "dict")
 |dT {a:Aj} {kvs:List (List Key×V)} (e:H a=some (.dT kvs)):TyOf K H (.ref a) (.type "dict")
 |ins {a C dx:Aj} {fs:List (Str×V)} (e:H a=some (.ins C dx fs)) (cl:Cls K C) (ha:PySem.W.findIn K (.ref C) "__class__" = some (some (.builtin "object.__class__")))
   (hn:PySem.W.specialIn K (.builtin "object.__class__") "__get__" = some (some (.builtin "getset_descriptor.__get__"))) (htk:PySem.W.takesIn K (.builtin "object.__class__")=some true)
   (hm:PySem.W.mroIn K C (.type "object")=some true):TyOf K H (.ref a) (.ref C)
end
structure Room (k:Nat)(A:Ae):Prop where
 hd:A.handled=none
 dp:A.depth+3*k+5<recursionLimit
 un:A.units+16*k+200<cLine
theorem Room.mono {j k:Nat}{A:Ae}(r:Room k A)(h:j≤k):Room j A:=⟨r.hd,by have:=r.dp;lia,by have:=r.un;lia⟩
theorem Room.deeper {k:Nat}{A:Ae}(r:Room (k+1) A)(env:Env):Room k (A.deeper env) :=
 ⟨r.hd,by have:=r.dp;show A.depth+1+3*k+5<_;lia,by have:=r.un;show A.units+3+16*k+200<_;lia⟩
theorem Room.in1 {k:Nat}{A:Ae}(r:Room (k+1) A):Room k A.in1 :=
 ⟨r.hd,by have:=r.dp;show A.depth+3*k+5<_;lia,by have:=r.un;show A.units+1+16*k+200<_;lia⟩
theorem wqn {A:Ae}{C:Aj}{us:List Ag}{kw:List (Str×Ag)}:(A.under (.builtin "type.__call__" ⟨.ref C::us,kw⟩)).depth=A.depth+1:=by
 first | rfl | simp [Around.under,Code.weight,Code.isCreation,Code.isGuard,Code.isCaller,Code.frames,Code.isFrame,guardIds]
theorem wqj {A:Ae}{C:Aj}{us:List Ag}{kw:List (Str×Ag)}:(A.under (.builtin "type.__call__" ⟨.ref C::us,kw⟩)).units=A.units+1:=by
 first | rfl | simp [Around.under,Code.cUnits,Code.frames,Code.isFrame]
theorem Room.make {k:Nat}{A:Ae}(r:Room (k+1) A)(C:Aj)(us:List Ag)(kw:List (Str×Ag)):Room k (A.under (.builtin "type.__call__" ⟨.ref C::us,kw⟩)) :=
 ⟨r.hd,by have:=r.dp;rw [wqn];lia,by have:=r.un;rw [wqj];lia⟩
theorem Room.depth {k:Nat}{A:Ae}(r:Room k A):A.depth<recursionLimit:=by have:=r.dp;lia
theorem Room.units {k:Nat}{A:Ae}(r:Room k A):A.units+64<cLine:=by have:=r.un;lia
def qq0:TA:=λ_ H Q=>Q [] H
def vh (ta:TE)(tr:TA):TA:=λσ H Q=>ta σ H λx H1=>tr σ H1 λxs H2=>Q (x::xs) H2
section
variable {X:Cx}{e:Expr}{es:List Expr}{te:TE}{t:TA}{pos:Pos}
theorem qv:PA X [] qq0:=λ_ _ _ _ H Q I h=>Calls.spliced_nil ⟨[],H,I,.nil,h⟩
theorem vw (ha:PE X e te)(hr:PA X es t)(hs:starEach (e::es) X.env=(false,eval e X.env)::starEach es X.env:=by rfl):PA X (e::es) (vh te t):=by
 intro pos pins s σ H Q I h
 rw [hs]
 show wpAny _ _ (spliced ((false,eval e X.env)::backTo pos (starEach es X.env))) _ _ s
 refine Calls.spliced_cons (thn (ha pins s σ H _ I h) λu s1 ⟨x,H1,I1,r1,q1⟩=>?_)
 exact thn (hr pos pins s1 σ H1 _ I1 q1) λus s2 ⟨xs,H2,I2,r2,q2⟩=>⟨x::xs,H2,I2,.cons r1 r2,q2⟩
def tTup (t:TA):TE:=λσ H Q=>t σ H λxs H1=>xs.length≤sizeLine∧∀p,H1 p=none→Q (.ref p) (upd H1 p (.tup xs))
def tLst (t:TA):TE:=λσ H Q=>t σ H λxs H1=>xs.length≤sizeLine∧∀p,H1 p=none→Q (.ref p) (upd H1 p (.lst xs))
theorem jr {x1}(h:PA X es t):PE X (.Tuple es x1 pos) (tTup t):=by
 intro pins s σ H Q I hq
 refine wpAny_Tuple_spliced (thn (h pos pins s σ H _ I hq) λus s1 ⟨xs,H1,I1,r,z,q⟩=>⟨by rw [←r.length];exact z,?_⟩)
 have hf:H1 s1.heap.objs.size=none:=I1.hok.fresh (aj _)
 refine ⟨.ref s1.heap.objs.size,upd H1 s1.heap.objs.size (.tup xs),I1.laid (t':=s1.toks) (λb u e=>ai _ e) (aj _) ?_,rfl,q _ hf⟩
 exact ⟨z,us,r,⟨_,az _ rfl,rfl,_,rfl⟩⟩
theorem yk (h:PA X es t):PE X (.List es pos) (tLst t):=by
 intro pins s σ H Q I hq
 refine wpAny_List_spliced (thn (h pos pins s σ H _ I hq) λus s1 ⟨xs,H1,I1,r,z,q⟩=>⟨by rw [←r.length];exact z,?_⟩)
 have hf:H1 s1.heap.objs.size=none:=I1.hok.fresh (aj _)
 refine ⟨.ref s1.heap.objs.size,upd H1 s1.heap.objs.size (.lst xs),I1.laid (t':=s1.toks) (λb u e=>ai _ e) (aj _) ?_,rfl,q _ hf⟩
 exact ⟨z,us,0,r,az _ rfl⟩
end
abbrev Sp:=List V→Hp→VK→XK→Prop
abbrev CXT:=List Env→Hp→Ab→XK→Ag→Ab→Prop
structure Env0 (P:Ac)(w:Ah)(K:Aa)(mg:Str→Option Ag)(base:Heap)(A:Ae)(outer:List Env)(s:Ab)(H:Hp):Prop where
 frames:A.frames=some outer
 mod:Mod K mg base
 bs:∀b o,base.get? b=some o→s.heap.get? b=some o∧H b=none
 bsz:base.objs.size≤s.heap.objs.size
 funs:s.heap.FunFrames base outer
 frf:∀b∈frs outer,H b=none
 hok:HOk P w H s.heap
 bare:AllBare s.gens
def CE (outer:List Env)(P:Ac)(w:Ah)(H:Hp)(s:Ab)(Q:VK)(u:Ag)(s':Ab):Prop :=
 ∃v H',s'.os=s.os∧AllBare s'.gens∧Un (frs outer) [] H H' s.heap s'.heap∧HOk P w H' s'.heap∧RelV v u∧Q v H'
def CR (CX:CXT)(outer:List Env)(P:Ac)(w:Ah)(H:Hp)(s:Ab)(Q:VK)(E:XK)(r:Result)(s':Ab):Prop :=
 match r with
 |.ok (.ret u)=>CE outer P w H s Q u s'
 |.ok _=>False
 |.error e=>CX outer H s E e s'
structure FnOk (P:Ac)(w:Ah)(K:Aa)(mg:Str→Option Ag)(base:Heap)(CX:CXT)(k:Nat)(f:Aj)(fd:Ad)(ps:List Str)(sp:Sp):Prop where
 len:∀vs H Q E,sp vs H Q E→vs.length=ps.length
 run:∀(A:Ae) (outer:List Env) (s:Ab) (H:Hp) (args:Args) (us:List Ag) (vs:List V) (Q:VK) (E:XK),Room k A→Env0 P w K mg base A outer s H→BindsTo s fd args (ps.zip us)→Vals vs us→sp vs H Q E →
  codeAny (model P w) A (.call (.ref f) args) (CR CX outer P w H s Q E) s
theorem Env0.make {P:Ac}{w:Ah}{K:Aa}{mg:Str→Option Ag}{base:Heap}{A:Ae}{outer:List Env}{s:Ab}{H:Hp}(e:Env0 P w K mg base A outer s H)(C:Aj)(us:List Ag)(kw:List (Str×Ag)) :
  Env0 P w K mg base (A.under (.builtin "type.__call__" ⟨.ref C::us,kw⟩)) outer s H:=⟨by first | exact e.frames | (simpa [Around.under,Code.envs,Code.isFrame,pushEnvs] using e.frames),e.mod,e.bs,e.bsz,e.funs,e.frf,e.hok,e.bare⟩
theorem Env0.in1 {P:Ac}{w:Ah}{K:Aa}{mg:Str→Option Ag}{base:Heap}{A:Ae}{outer:List Env}{s:Ab}{H:Hp}(e:Env0 P w K mg base A outer s H) :
  Env0 P w K mg base A.in1 outer s H:=⟨e.frames,e.mod,e.bs,e.bsz,e.funs,e.frf,e.hok,e.bare⟩
section
variable {X:Cx}{pins:List (Aj×Obj)}{σ:St}{H:Hp}{s s':Ab}
theorem Inv.env0 (I:Inv X pins σ H s):Env0 X.prog X.w X.K X.mg X.base X.A X.stack s H :=
 ⟨I.ok.frames,I.ok.mod,I.bs,bB I.ok.bsz I.sz,I.stack,I.stkFree,I.hok,I.bare⟩
theorem Inv.after {Q:VK}{u:Ag}(I:Inv X pins σ H s)(h:CE X.stack X.prog X.w H s Q u s'):EP X pins σ Q u s':=by
 obtain ⟨v,H',os,bare,un,hok,r,q⟩:=h
 obtain ⟨hh,g,d,t,os'⟩:=s'
 obtain rfl:os'=s.os:=os
 exact ⟨v,H',I.call (h':=hh) (g':=g) (d':=d) (t':=t) (ch:=[]) un hok bare (λb z=>absurd z (by simp)),r,q⟩
end
def Binds (K:Aa)(fd:Ad)(ps:List Str)(ds:List Ag):Prop :=
 ∀(s:Ab) (us:List Ag),K.In s.heap→(us++ds).length=ps.length→BindsTo s fd ⟨us,[]⟩ (ps.zip (us++ds))
theorem Binds.all {K:Aa}{fd:Ad}{ps:List Str}(h:∀us:List Ag,us.length=ps.length→bindArgs fd ⟨us,[]⟩=pure (ps.zip us)):Binds K fd ps []:=λs us _ hl=>by
 rw [bQ] at hl ⊢
 exact .of_eq (h us hl)
section
variable {X:Cx}{CX:CXT}{k:Nat}{f C:Aj}{fd:Ad}{ps:List Str}{sp:Sp}{dvs:List V}{ds:List Ag}{E:XK}{x m:Str}{p pos apos:Pos}{e o:Expr}{es:List Expr}{ta:TE}{t:TA}
structure Mk (K:Aa)(C f:Aj):Prop where
 makes:PySem.W.makesIn K C=true
 init:PySem.W.findIn K (.ref C) "__init__" = some (some (.ref f))
 fn:PySem.W.isFn K (.ref f)=true
 kp:PySem.W.keepIn K (.ref C)=true
end
def PK (X:Cx)(kws:List Keyword)(t:TA):Prop :=
 ∀(pos:Pos) (pins:List (Aj×Obj)) (s:Ab) (σ:St) (H:Hp) (Q:List V→Hp→Prop),Inv X pins σ H s→t σ H Q→wpAny (model X.prog X.w) X.A (evalAll ((backToKw pos (keywordEach kws X.env)).map (·.2))) (AP X pins σ Q) X.xe s
section
variable {X:Cx}{CX:CXT}{k:Nat}{f C:Aj}{fd:Ad}{ps ks:List Str}{sp:Sp}{E:XK}{x m:Str}{p pos apos kpos:Pos}{e o:Expr}{es:List Expr}{kws:List Keyword}{te ta:TE}{t tk:TA}{nm:Option Str}
theorem wu1:PK X [] qq0:=λ_ _ _ _ H Q I h=>wpAny_evalAll_nil ⟨[],H,I,.nil,h⟩
theorem wx1 (ha:PE X e te)(hr:PK X kws t):PK X (⟨nm,e,kpos⟩::kws) (vh te t):=by
 intro pos pins s σ H Q I h
 show wpAny _ _ (evalAll ((do let v ←eval e X.env;standAt pos;pure v)::(backToKw pos (keywordEach kws X.env)).map (·.2))) _ _ s
 refine wpAny_evalAll_cons (aa (thn (ha pins s σ H _ I h) λu s1 ⟨x,H1,I1,r1,q1⟩=>aa (cL (ah ?_))))
 exact thn (hr pos pins s1 σ H1 _ I1 q1) λus s2 ⟨xs,H2,I2,r2,q2⟩=>⟨x::xs,H2,I2,.cons r1 r2,q2⟩
structure KBinds (K:Aa)(fd:Ad)(ps ks:List Str)(g:List Ag→List Ag→List Ag)(gV:List V→List V→List V):Prop where
 to:∀(s:Ab) (us ws:List Ag),K.In s.heap→(g us ws).length=ps.length→BindsTo s fd ⟨us,ks.zip ws⟩ (ps.zip (g us ws))
 rel:∀ {vs:List V} {us:List Ag} {zs:List V} {ws:List Ag},Vals vs us→Vals zs ws→Vals (gV vs zs) (g us ws)
variable {g:List Ag→List Ag→List Ag}{gV:List V→List V→List V}
end
structure FnScope (N P:List Str)(sc:Scope):Prop where
 kind:sc.kind=.function
 co:sc.isCoroutine=false
 gen:sc.isGenerator=false
 nd:N.Nodup
 pre:N.take P.length=P
 par:∀x∈P,sc.names.lookup x=some .local∨sc.names.lookup x=some .cell
 nofree:∀y∈sc.names,y.2≠.free
theorem qzt {kindOf:Str→Option NameKind}{x:Str}:∀ {binds:List (Str×Ag)} {m:Str→Option Ag},(∀v,(x,v)∉binds)→bindL kindOf binds m x=m x
 |[],_,_=>rfl
 |(n,v)::r,m,h=>by
  unfold bindL
  rw [qzt λw hw=>h w (bD _ hw)]
  split
  ·have:x≠n:=by rintro rfl;exact h v dD
   simp [this]
  ·rfl
theorem qzk {kindOf:Str→Option NameKind}{x:Str}:∀ {binds:List (Str×Ag)} {m:Str→Option Ag},(∀v,(x,v)∉binds)→bindC kindOf binds m x=m x
 |[],_,_=>rfl
 |(n,v)::r,m,h=>by
  unfold bindC
  rw [qzk λw hw=>h w (bD _ hw)]
  split
  ·rfl
  ·have:x≠n:=by rintro rfl;exact h v dD
   simp [this]
theorem qzg {kindOf:Str→Option NameKind}{x:Str}{v:Ag}:∀ {P:List Str} {vs:List Ag} {i:Nat} {m:Str→Option Ag},P.Nodup→P[i]?=some x→vs[i]?=some v→kindOf x=some .local →
  bindL kindOf (P.zip vs) m x=some v
 |[],_,_,_,_,h,_,_=>by simp at h
 |_::_,[],_,_,_,_,h,_=>by simp at h
 |p::P,w::vs,0,m,nd,h1,h2,hk=>by
  simp at h1 h2;subst h1;subst h2
  show bindL kindOf ((p,w)::P.zip vs) m p=_
  unfold bindL
  rw [qzt λv hv=>(du.mp nd).1 (iB hv).1,av hk]
  simp
 |p::P,w::vs,i+1,m,nd,h1,h2,hk=>by
  show bindL kindOf ((p,w)::P.zip vs) m x=_
  unfold bindL
  exact qzg (i:=i) (du.mp nd).2 (by simpa using h1) (by simpa using h2) hk
theorem qz6 {kindOf:Str→Option NameKind}{x:Str}{v:Ag}:∀ {P:List Str} {vs:List Ag} {i:Nat} {m:Str→Option Ag},P.Nodup→P[i]?=some x→vs[i]?=some v→kindOf x≠some .local →
  bindC kindOf (P.zip vs) m x=some v
 |[],_,_,_,_,h,_,_=>by simp at h
 |_::_,[],_,_,_,_,h,_=>by simp at h
 |p::P,w::vs,0,m,nd,h1,h2,hk=>by
  simp at h1 h2;subst h1;subst h2
  show bindC kindOf ((p,w)::P.zip vs) m p=_
  unfold bindC
  rw [qzk λv hv=>(du.mp nd).1 (iB hv).1,ao hk]
  simp
 |p::P,w::vs,i+1,m,nd,h1,h2,hk=>by
  show bindC kindOf ((p,w)::P.zip vs) m x=_
  unfold bindC
  exact qz6 (i:=i) (du.mp nd).2 (by simpa using h1) (by simpa using h2) hk
def Wj (N:List Str)(vs:List V):St:=vs.map some++List.replicate (N.length-vs.length) none
def qwx (CX:CXT)(P:Ac)(w:Ah)(K:Aa)(mg:Str→Option Ag)(base:Heap)(N:List Str)(qual:Str)(scope:Scope)(f:Aj)(cd:Ag)(A:Ae)(outer:List Env)(s:Ab)(H:Hp)(E:XK):Cx where
 prog:=P
 w:=w
 K:=K
 mg:=mg
 base:=base
 A:=A.deeper (envOfC qual scope s.heap.objs.size f cd)
 N:=N
 s₀:=s
 H₀:=H
 env:=envOfC qual scope s.heap.objs.size f cd
 outer:=outer
 stack:=envOfC qual scope s.heap.objs.size f cd::outer
 ex:=[]
 calm:=true
 fn:=λ_=>true
 pn:=[]
 xe:=λe s'=>wpAny (model P w) (A.deeper (envOfC qual scope s.heap.objs.size f cd)) (leaving (envOfC qual scope s.heap.objs.size f cd) e) (λ_ s''=>CX outer H s E e s'') (λe' s''=>CX outer H s E e' s'') s'
theorem qjf {sc:Scope}{n:Nat}{x:Str}(h:sc.names.lookup x=some .cell):∃c,(cellsFrom n sc.names []).lookup x=some c:=by
 have q:=PySem.W.cellsFrom_some sc.names n [] (.inl h)
 exact Option.isSome_iff_exists.mp q
theorem wkq {CX:CXT}{P:Ac}{w:Ah}{K:Aa}{mg:Str→Option Ag}{base:Heap}{N ps:List Str}{qual:Str}{scope:Scope}{f:Aj}{cd:Ag}{A:Ae}{outer:List Env}{s s1:Ab}{H:Hp}{E:XK}{us:List Ag}{vs:List V}
  (S:FnScope N ps scope) (hd:A.handled=none) (e0:Env0 P w K mg base A outer s H) (hl:vs.length=ps.length) (r:Vals vs us)
  (x:InCallC s s.heap.objs.size (bindL (envOfC qual scope s.heap.objs.size f cd).kindOf (ps.zip us) λ_=>none) (cellsFrom (s.heap.objs.size+1) scope.names []) (bindC (envOfC qual scope s.heap.objs.size f cd).kindOf (ps.zip us) λ_=>none) s1) :
  Inv (qwx CX P w K mg base N qual scope f cd A outer s H E) [] (Wj N vs) H s1:=by
 have hpl:ps.length≤N.length:=by have:=cz List.length S.pre;rw [ba] at this;lia
 obtain ⟨h1,tk,rfl,hk⟩:=x.done
 have noA:∀b:Aj,b∉(qwx CX P w K mg base N qual scope f cd A outer s H E).ex:=λb z=>absurd (show b∈([]:List Aj) from z) (by simp)
 refine ⟨⟨e0.mod,S.kind,rfl,rfl,aj _,λy z c h1 h2=>?_,λy hy=>?_,λy c _ h=>?_,λ_=>hd,Around.frames_deeper e0.frames,.inr ⟨rfl,rfl⟩,λb z=>absurd z (noA b),e0.bs,e0.bsz,λb _ _=>noA b,λb z=>absurd z (noA b),e0.funs,e0.frf⟩,
  rfl,e0.bare,Un.kept hk,⟨_,x.toInCall.ns,λi y v h1 h2 h3=>?_⟩,λy c h=>⟨_,x.cell y c h⟩,e0.hok.fresh (aj _),λy c h=>?_,λp hp=>absurd (show p∈([]:List (Aj×Obj)) from hp) (by simp),e0.hok.kept hk,?_⟩
 ·exact name_of_addr x.apart (dv h1) (dv h2)
 ·have hy:scope.names.lookup y=some .cell∨scope.names.lookup y=some .free:=hy
  rcases hy with hy|hy
  ·exact qjf hy
  ·exact absurd rfl (S.nofree _ (dv hy))
 ·exact bf (x.above y c (dv h))
 ·have hi:i<vs.length:=by
   unfold Wj at h2
   by_cases hi:i<vs.length
   ·exact hi
   ·rw [aA (by simpa using hi)] at h2
    rw [List.getElem?_replicate] at h2
    split at h2 <;> cases h2
  have ha:vs[i]?=some v:=by
   unfold Wj at h2
   rw [aP (by simpa using hi),ax] at h2
   cases e:vs[i]? with
   |none=>rw [e] at h2;cases h2
   |some a=>rw [e] at h2;cases h2;rfl
  obtain ⟨u,hu,rv⟩:=r.get ha
  have hp:ps[i]?=some y:=by
   rw [←S.pre,g9 (by lia)];exact h1
  have ndP:ps.Nodup:=by rw [←S.pre];exact S.nd.sublist (List.take_sublist _ _)
  refine ⟨u,rv,?_⟩
  rcases S.par y (aC hp) with k|k
  ·exact .inl ⟨k,qzg ndP hp hu k⟩
  ·obtain ⟨c,e⟩:=qjf (n:=s.heap.objs.size+1) k
   refine .inr ⟨.inl k,c,e,?_⟩
   have q:=x.cell y c e
   rw [qz6 ndP hp hu (by show scope.names.lookup y≠_;rw [k];decide)] at q
   exact q
 ·exact e0.hok.fresh (bf (x.above y c (dv h)))
 ·unfold Wj
  show _=N.length
  rw [am,ag,List.length_replicate]
  lia
theorem wy4 {CX:CXT}{P:Ac}{w:Ah}{K:Aa}{mg:Str→Option Ag}{base:Heap}{k:Nat}{f:Aj}{name qual:Str}{params:Arguments}{body:List Stmt}{scope:Scope}{dV kV doc pm cdv ct oc:Ag}{an od:Option Aj}
  {osl:Array (Option Ag)} {N ps:List Str} {sp:Sp} (lk:K.lookup f=some ⟨oc,od,.func (PySem.W.fnOf name qual params body scope dV kV doc pm an cdv ct),osl⟩) (hcd:PySem.W.codeIn K cdv qual=true) (S:FnScope N ps scope)
  (len:∀vs H Q E,sp vs H Q E→vs.length=ps.length)
  (hbody:∀(A:Ae) (outer:List Env) (s:Ab) (H:Hp) (vs:List V) (Q:VK) (E:XK),Room k (A.deeper (envOfC qual scope s.heap.objs.size f cdv))→sp vs H Q E →
   ∃t,PSs (qwx CX P w K mg base N qual scope f cdv A outer s H E) body t∧t { nx:=λ_ H'=>Q .non H',rt:=Q } (Wj N vs) H) :
  FnOk P w K mg base CX (k+1) f (PySem.W.fnOf name qual params body scope dV kV doc pm an cdv ct) ps sp:=by
 refine ⟨len,λA outer s H args us vs Q E hr e0 hb r hsp=>?_⟩
 have hl:=len _ _ _ _ hsp
 have KX:K.In s.heap:=e0.mod.kin.keeps λb o e=>(e0.bs b o e).1
 have lim:s.heap.NoLimit:=e0.mod.nolimit.keeps λb o e=>(e0.bs b o e).1
 have hkind:∀y∈ps.zip us,scope.names.lookup y.1=some .local∨(scope.names.lookup y.1=some .cell∧((cellsFrom (s.heap.objs.size+1) scope.names []).lookup y.1).isSome=true):=λ⟨n,v⟩ hy=>by
  rcases S.par n (iB hy).1 with q|q
  ·exact .inl q
  ·exact .inr ⟨q,PySem.W.cellsFrom_some _ _ _ (.inl q)⟩
 refine codeAny_call_function hr.depth (KX _ _ lk) rfl S.co S.gen rfl (PySem.W.codeRec_of KX hcd) (hb _ _ _ _ ?_)
 refine wpAny_newFunctionEnv_cells S.kind hkind λenv he s1 x=>?_
 subst he
 refine ⟨lim.keeps x.toInCall.keep,codeAny_func ?_⟩
 obtain ⟨t,ht,hq⟩:=hbody A outer s H vs Q E (hr.deeper _) hsp
 have I:Inv (qwx CX P w K mg base N qual scope f cdv A outer s H E) [] (Wj N vs) H s1:=wkq S hr.hd e0 hl r x
 refine aL (ht [] s1 (Wj N vs) H _ I hq) (λfl s' hs=>?_) λe s' hs=>hs
 have fin:∀ {σ':St} {H':Hp} {v:V} {u:Ag},Inv (qwx CX P w K mg base N qual scope f cdv A outer s H E) [] σ' H' s'→RelV v u→Q v H'→CE outer P w H s Q u s' :=
  λ{σ' H' v u} J rv q=>⟨v,H',J.os,J.bare,J.base,J.hok,rv,q⟩
 cases fl with
 |ret u =>
  obtain ⟨v,σ',H',J,rv,q⟩:=hs
  exact fin J rv q
 |next =>
  obtain ⟨σ',H',J,q⟩:=hs
  exact fin (v:=V.non) (u:=Value.none) J rfl q
 |brk =>
  obtain ⟨_,_,_,q⟩:=hs
  exact False.elim q
 |cont =>
  obtain ⟨_,_,_,q⟩:=hs
  exact False.elim q
section
variable {X:Cx}{x:Str}{p pos:Pos}{e:Expr}{es:List Expr}{t:TA}{id T:String}{r:List V→Hp→VK→Prop}
def tCB (r:List V→Hp→VK→Prop)(t:TA):TE:=λσ H Q=>t σ H λvs H1=>r vs H1 Q
theorem wg (hc:jk X (.builtin id) r)(hg:Gl X x)(hm:X.mg x=none)(hv:bootBuiltins x=some (.builtin id))(ha:PA X (e::es) t)(hn:x ≠ "__name__" := by decide)(hdb:(x==("__debug__" : Str))=false:=by decide)
  (he:starEach (e::es) X.env=(false,eval e X.env)::starEach es X.env:=by rfl) (hpl:(backTo pos (starEach es X.env)).any (·.1)=false:=by rfl):PE X (.Call (.Name x p) (e::es) [] pos) (tCB r t):=by
 intro pins s σ H Q I h
 refine cV (yu I hg hm hv ?_ hn hdb)
 exact PyProof.Rows.callWith_builtin1 (thn (ha pos pins s σ H _ I h) λus s1 ⟨vs,H1,I1,r1,q1⟩=>hc pins s1 σ H1 vs us Q I1 r1 q1) he hpl
theorem Z7 (hc:jk X (.type T) r)(hg:Gl X x)(hm:X.mg x=none)(hv:bootBuiltins x=some (.type T))(ha:PA X (e::es) t)(hn:x ≠ "__name__" := by decide)(hdb:(x==("__debug__" : Str))=false:=by decide)
  (he:starEach (e::es) X.env=(false,eval e X.env)::starEach es X.env:=by rfl) (hpl:(backTo pos (starEach es X.env)).any (·.1)=false:=by rfl):PE X (.Call (.Name x p) (e::es) [] pos) (tCB r t):=by
 intro pins s σ H Q I h
 refine cV (yu I hg hm hv ?_ hn hdb)
 exact bN (thn (ha pos pins s σ H _ I h) λus s1 ⟨vs,H1,I1,r1,q1⟩=>hc pins s1 σ H1 vs us Q I1 r1 q1) he hpl
end
end L2
namespace HT
open PySem PyProof.Rows
section
open PySem.SeqAt
open PySem.AutoSeq1 (wpAny_loadPart')
open PySem.MeetsSeq PySem.MeetsSeq2 PySem.MeetsSeq3
end
section
variable {prog:Ac}{w:Ah}{A:Ae}{E:Ag→Ab→Prop}{s:Ab}
theorem cat_tup {t b:Aj}{vs ws:List Ag}{Q:Ag→Ab→Prop}(ht:IsTup s.heap t vs.toArray)(hb:IsTup s.heap b ws.toArray)(hv:vs≠[])
  (h1:ws=[]→Q (.ref t) s) (h2:ws≠[]→Q (.ref s.heap.objs.size) { s with heap:=s.heap.push { cls:=.type "tuple",data:=.seq (vs++ws).toArray } })
  (hsz:vs.length+ws.length≤sizeLine):wpAny (model prog w) A (binaryOp .Add (.ref t) (.ref b)) Q E s:=by
 obtain ⟨⟨cls,dd,data,sl⟩,ho,hc,n,hd⟩:=id ht
 obtain ⟨⟨cls2,dd2,data2,sl2⟩,ho2,hc2,n2,hd2⟩:=id hb
 simp only at hc hd hc2 hd2
 subst hc hd hc2 hd2
 have e:vs.toArray++ws.toArray=(vs++ws).toArray:=by simp
 by_cases hw:ws=[]
 ·exact concat_meets ⟨_,ho,rfl⟩ ⟨_,ho2,rfl⟩ ig seq_tuple_add fC fv (eY _ _)
   (tuple_addW1 t b vs.toArray ws.toArray n n2 dd dd2 sl sl2 (by simpa using hv) (by simp [hw])) ⟨ho,ho2,h1 hw⟩
 ·refine concat_meets ⟨_,ho,rfl⟩ ⟨_,ho2,rfl⟩ ig seq_tuple_add fC fv (eY _ _)
   (tuple_addW2 t b vs.toArray ws.toArray n n2 dd dd2 sl sl2 (by simpa using hv) (by simpa using hw) (by rw [ar,ar];exact hsz)) ⟨ho,ho2,?_⟩
  rw [e]
  exact h2 hw
def sIx (n d:Nat):Option Int→Nat
 |none=>d
 |some v=>if v<0 then (v+(n:Int)).toNat else min v.toNat n
theorem sIx_nat (n d k:Nat):sIx n d (some (k:Int))=min k n:=by
 show (if (k:Int)<0 then ((k:Int)+(n:Int)).toNat else min (k:Int).toNat n)=min k n
 rw [ao (by lia),bG]
end
end HT
namespace L2
open PySem PySem.Spec PyProof.Rows
abbrev TO:=St→Hp→(Option Int→Hp→Prop)→Prop
def PO (X:Cx)(e:Option Expr)(t:TO):Prop :=
 ∀(pins:List (Aj×Obj)) (s:Ab) (σ:St) (H:Hp) (Q:Option Int→Hp→Prop),Inv X pins σ H s→t σ H Q →
  wpAny (model X.prog X.w) X.A (evalPart e X.env) (λu s'=>∃o H',Inv X pins σ H' s'∧IsPart u o∧Q o H') X.xe s
def tPart (t:TE):TO:=λσ H Q=>t σ H λx H1=>∃i,x=.int i∧Q (some i) H1
theorem uy {ns:List Int}:∀ {us:List Ag},Vals (ns.map V.int) us→IntsAre us ns:=by
 induction ns with
 |nil=>intro us r;rw [dJ] at r;cases r;exact .nil
 |cons n ns ih =>
  intro us r
  rw [aN] at r
  cases r with
  |cons r1 r2 =>
   obtain ⟨t,e⟩:=r1
   subst e
   exact .cons n t (ih r2)
section
variable {X:Cx}{e:Expr}{te:TE}{lo hi:Option Expr}{tl th:TO}{pos p2:Pos}
theorem wzw (h:PE X e te):PO X (some e) (tPart te):=by
 intro pins s σ H Q I hw
 rw [evalPart_some]
 refine thn (h pins s σ H _ I hw) λu s1 ⟨x,H1,I1,r1,q1⟩=>?_
 obtain ⟨i,rfl,q⟩:=q1
 obtain ⟨t,rfl⟩:=r1
 exact ⟨some i,H1,I1,.int i t,q⟩
def SlR (X:Cx)(r:V→Option Int→Option Int→Hp→VK→Prop):Prop :=
 ∀(pins:List (Aj×Obj)) (s:Ab) (σ:St) (H:Hp) (x:V) (v vl vu:Ag) (lo hi:Option Int) (sl:Aj) (Q:VK),Inv X pins σ H s→RelV x v→s.heap.IsSliceOf sl vl vu .none→IsPart vl lo→IsPart vu hi→r x lo hi H Q →
  ∃T id,typeLookup (.type T) "__getitem__" = pure (some (.builtin id))∧s.TypeIs v T∧wpAny (model X.prog X.w) X.A (getItem v (.ref sl)) (EP X pins σ Q) X.xe s
def tSl (r:V→Option Int→Option Int→Hp→VK→Prop)(te:TE)(tl th:TO):TE:=λσ H Q=>te σ H λx H1=>tl σ H1 λl H2=>th σ H2 λu H3=>r x l u H3 Q
theorem wj9 {r:V→Option Int→Option Int→Hp→VK→Prop}(hr:SlR X r)(he:PE X e te)(hl:PO X lo tl)(hu:PO X hi th):PE X (.Subscript e (.Slice lo hi none p2) pos) (tSl r te tl th):=by
 intro pins s σ H Q I h
 refine Subscript_ (thn (he pins s σ H _ I h) λv s1 ⟨x,H1,I1,r1,q1⟩=>?_)
 refine wpAny_Slice (thn (hl pins s1 σ H1 _ I1 q1) λvl s2 ⟨l,H2,I2,pl,q2⟩=>thn (hu pins s2 σ H2 _ I2 q2) λvu s3 ⟨u,H3,I3,pu,q3⟩=>?_)
 rw [evalPart_none]
 refine ah ?_
 have I4:Inv X pins σ H3 { s3 with heap:=s3.heap.push { cls:=.type "slice",data:=.fields #[vl,vu,.none] } }:=I3.kept (t':=s3.toks) λb ob q=>ai _ q
 obtain ⟨T,id,hT,ht,hg⟩:=hr pins { s3 with heap:=s3.heap.push { cls:=.type "slice",data:=.fields #[vl,vu,.none] } } σ H3 x v vl vu l u s3.heap.objs.size Q I4 r1 (Heap.IsSliceOf.new ..) pl pu q3
 show wpAny (model X.prog X.w) X.A (subscriptTail e (.Slice lo hi none p2) v (.ref s3.heap.objs.size)) (EP X pins σ Q) X.xe { s3 with heap:=s3.heap.push { cls:=.type "slice",data:=.fields #[vl,vu,.none] } }
 exact tail_any (ops:=[.ref s3.heap.objs.size,v]) ht hT hg (by with_unfolding_all rfl)
def qjz (xs:List V)(lo hi:Option Int):List V:=(xs.drop (HT.sIx xs.length 0 lo)).take (HT.sIx xs.length xs.length hi-HT.sIx xs.length 0 lo)
theorem qju (xs:List V)(lo hi:Option Int):(qjz xs lo hi).length≤xs.length:=by
 unfold qjz
 rw [ba,bS]
 lia
def rCatT (K:Aa):R2:=λx y H Q=>∃a b xs ys,x=.ref a∧y=.ref b∧SqT K H a xs∧SqT K H b ys∧xs≠[]∧xs.length+ys.length≤sizeLine ∧
 (ys=[]→Q (.ref a) H)∧(ys≠[]→∀p,H p=none→Q (.ref p) (upd H p (.tup (xs++ys))))
theorem Vals.nil_iff {xs:List V}{us:List Ag}(r:Vals xs us):us=[]↔xs=[]:=by
 cases r with
 |nil=>simp
 |cons _ _=>simp
theorem xq5:OpR X (binaryOp .Add) (rCatT X.K):=by
 intro pins s σ H x y v u Q I rx ry h
 obtain ⟨a,b,xs,ys,rfl,rfl,ha,hb,hx,hz,q1,q2⟩:=h
 cases rx
 cases ry
 obtain ⟨its,r1,p1,_⟩:=I.tuple ha
 obtain ⟨its2,r2,p2,_⟩:=I.tuple hb
 refine HT.cat_tup p1 p2 (λz=>hx (r1.nil_iff.mp z)) (λz=>⟨.ref a,H,I,rfl,q1 (r2.nil_iff.mp z)⟩) (λz=>?_) (by rw [←r1.length,←r2.length];exact hz)
 refine ⟨.ref s.heap.objs.size,_,I.laid (t':=s.toks) (o:=.tup (xs++ys)) (λb ob q=>ai _ q) (aj _) ?_,rfl,q2 (λw=>z (r2.nil_iff.mpr w)) _ (I.hok.fresh (aj _))⟩
 exact ⟨by rw [am];exact hz,_,r1.append r2,IsTup.new _ _⟩
end
def ixN (n:Nat)(i:Int):Option Nat:=if 0≤i then (if i<n then some i.toNat else none) else if -(n:Int)≤i then some (i+n).toNat else none
def atI {α:Type}(xs:List α)(i:Int):Option α:=(ixN xs.length i).bind λj=>xs[j]?
theorem xqz {n:Nat}{i:Int}{j:Nat}(h:ixN n i=some j):seqIndex? i n=some j∧j<n∧-(n:Int)≤i∧i<n:=by
 unfold ixN at h
 by_cases h0:0≤i
 ·rw [av h0] at h
  by_cases h1:i<n
  ·rw [av h1] at h
   have e:i.toNat=j:=aq h
   exact ⟨by rw [seqIndex_of h0 h1,e],by lia,by lia,h1⟩
  ·rw [ao h1] at h;cases h
 ·rw [ao h0] at h
  by_cases h1:-(n:Int)≤i
  ·rw [av h1] at h
   have e:(i+n).toNat=j:=aq h
   exact ⟨by rw [seqIndex_neg (by lia) h1,e],by lia,h1,by lia⟩
  ·rw [ao h1] at h;cases h
theorem ww5 {α:Type}{xs:List α}{i:Int}{v:α}(h:atI xs i=some v):∃j,seqIndex? i xs.length=some j∧xs[j]?=some v∧j<xs.length∧-(xs.length:Int)≤i∧i<xs.length:=by
 unfold atI at h
 cases e:ixN xs.length i with
 |none=>rw [e] at h;cases h
 |some j =>
  rw [e] at h
  obtain ⟨h1,h2,h3,h4⟩:=xqz e
  exact ⟨j,h1,h,h2,h3,h4⟩
theorem v6 {α:Type}{xs:List α}{j:Nat}{v:α}(h:xs[j]?=some v):atI xs (j:Int)=some v:=by
 have hj:j<xs.length:=(ak.mp h).1
 have e:ixN xs.length (j:Int)=some j:=by
  unfold ixN
  rw [av (by lia),av (by lia)];simp
 unfold atI;rw [e];exact h
theorem Qm {α:Type}(xs:List α)(v:α):atI (xs++[v]) (-1)=some v:=by
 have hl:(xs++[v]).length=xs.length+1:=by simp
 have e:ixN (xs++[v]).length (-1)=some xs.length:=by
  unfold ixN
  rw [hl,ao (by decide),av (by lia)]
  congr 1
  lia
 unfold atI
 rw [e]
 show (xs++[v])[xs.length]?=some v
 simp
def xxz (b:Expr):Prop:=∀o i,subscripted b false o i=operate [o,i] (getItem o i)
def IxR (X:Cx)(r:R2):Prop :=
 ∀(value slice:Expr) (pins:List (Aj×Obj)) (s:Ab) (σ:St) (H:Hp) (x y:V) (v u:Ag) (Q:VK),Inv X pins σ H s→RelV x v→RelV y u→r x y H Q →
  subscripted slice false v u=operate [v,u] (getItem v u)→wpAny (model X.prog X.w) X.A (subscriptTail value slice v u) (EP X pins σ Q) X.xe s
def MtR (X:Cx)(id:String)(r:V→List V→Hp→VK→Prop):Prop :=
 ∀(pins:List (Aj×Obj)) (s:Ab) (σ:St) (H:Hp) (x:V) (xs:List V) (v:Ag) (us:List Ag) (Q:VK),Inv X pins σ H s→RelV x v→Vals xs us→r x xs H Q →
  wpAny (model X.prog X.w) X.A (call (.builtin id) (v::us)) (EP X pins σ Q) X.xe s
section
variable {X:Cx}{a b:Expr}{ta tb:TE}{pos:Pos}
theorem zv {r:R2}(hr:IxR X r)(ha:PE X a ta)(hb:PE X b tb)(hs:xxz b):PE X (.Subscript a b pos) (tOp r ta tb):=by
 intro pins s σ H Q I h
 exact Subscript_ (binT ha hb I h λv u s2 x y H2 I2 rx ry q=>hr a b pins s2 σ H2 x y v u Q I2 rx ry q (hs _ _))
def wwc (K:Aa):R2:=λx y H Q=>∃p xs i v,x=.ref p∧y=.int i∧SqL K H p xs∧atI xs i=some v∧Q v H
def rIxT (K:Aa):R2:=λx y H Q=>∃p xs i v,x=.ref p∧y=.int i∧SqT K H p xs∧atI xs i=some v∧Q v H
theorem zk:IxR X (wwc X.K):=by
 intro value slice pins s σ H x y v u Q I rx ry h hs
 obtain ⟨p,xs,i,z,rfl,rfl,hq,he,q⟩:=h
 cases rx
 obtain ⟨t,rfl⟩:=ry
 obtain ⟨its,r,pl,hz⟩:=I.list hq
 obtain ⟨j,h1,h2,h3,h4,h5⟩:=ww5 he
 obtain ⟨w,ew,rw'⟩:=r.get h2
 have hl:=r.length
 have hn:=qvm
 have fin:EP X pins σ Q w s:=⟨z,H,I,rw',q⟩
 by_cases h0:0≤i
 ·have hj:i.toNat=j:=by
   rw [seqIndex_of h0 h5] at h1
   exact aq h1
  exact item_listR pl.isList h0 (by lia) (by rw [hj];simpa using ew) fin hs
 ·have hj:(i+(its.toArray.size:Int)).toNat=j:=by
   rw [seqIndex_neg (by lia) h4] at h1
   rw [ar,←hl]
   exact aq h1
  exact subscriptTail_builtinR (x:=w) pl.isList.typeIs slot_list_getitem.lookup
   (wpAny_getItem_list_neg (Q:=λr s'=>r=w∧EP X pins σ Q r s') pl.isList (by lia) (by rw [ar] <;> lia) (by lia) (by rw [hj];simpa using ew) ⟨rfl,fin⟩) hs
theorem qxk:IxR X (rIxT X.K):=by
 intro value slice pins s σ H x y v u Q I rx ry h hs
 obtain ⟨p,xs,i,z,rfl,rfl,hq,he,q⟩:=h
 cases rx
 obtain ⟨t,rfl⟩:=ry
 obtain ⟨its,r,pl,hz⟩:=I.tuple hq
 obtain ⟨j,h1,h2,h3,h4,h5⟩:=ww5 he
 obtain ⟨w,ew,rw'⟩:=r.get h2
 have hl:=r.length
 have hn:=qvm
 have fin:EP X pins σ Q w s:=⟨z,H,I,rw',q⟩
 exact subscriptTail_builtinR (x:=w) pl.typeIs slot_tuple_getitem.lookup
  (getItem_tuple (j:=j) (Q:=λr s'=>r=w∧EP X pins σ Q r s') pl (by lia) (by lia) (by rw [ar,←hl];exact h1) (by simpa using ew) ⟨rfl,fin⟩) hs
theorem qz9 (lo hi:Option Int)(n:Nat):(sliceBounds lo hi none n).1=((HT.sIx n 0 lo:Nat):Int)∧(sliceBounds lo hi none n).2.1=((HT.sIx n n hi:Nat):Int)∧(sliceBounds lo hi none n).2.2=1:=by
 refine ⟨?_,?_,rfl⟩
 ·cases lo with
  |none=>simp [sliceBounds,HT.sIx]
  |some i =>
   simp only [sliceBounds,HT.sIx,Option.getD_none,show (1:Int)>0 by decide,dz]
   by_cases h:i<0
   ·simp only [h,dz] <;> lia
   ·simp only [h,bE] <;> lia
 ·cases hi with
  |none=>simp [sliceBounds,HT.sIx]
  |some i =>
   simp only [sliceBounds,HT.sIx,Option.getD_none,show (1:Int)>0 by decide,dz]
   by_cases h:i<0
   ·simp only [h,dz] <;> lia
   ·simp only [h,bE] <;> lia
theorem qx1 (its:List Ag)(lo hi:Option Int):slicePick its.toArray lo hi none=((its.drop (HT.sIx its.length 0 lo)).take (HT.sIx its.length its.length hi-HT.sIx its.length 0 lo)).toArray:=by
 obtain ⟨h1,h2,h3⟩:=qz9 lo hi its.toArray.size
 unfold slicePick
 rw [h1,h2,h3]
 simp only [sliceRange_one,pick_run,ar] <;> rfl
def rSlL (K:Aa):V→Option Int→Option Int→Hp→VK→Prop:=λx lo hi H Q=>∃a xs,x=.ref a∧SqL K H a xs∧∀p,H p=none→Q (.ref p) (upd H p (.lst (qjz xs lo hi)))
theorem xqj:SlR X (rSlL X.K):=by
 intro pins s σ H x v vl vu lo hi sl Q I rx hs pl pu h
 obtain ⟨a,xs,rfl,hx,q⟩:=h
 cases rx
 obtain ⟨its,r,ht,hz⟩:=I.list hx
 have hlen:=r.length
 refine ⟨"list",_,slot_list_getitem.lookup,ht.isList.typeIs,?_⟩
 refine wpAny_getItem_list_slice ht.isList hs pl pu .none (by simp) ?_ (by rw [ar] <;> lia)
 rw [qx1,←hlen]
 refine ⟨.ref s.heap.objs.size,_,I.laid (t':=s.toks) (o:=.lst (qjz xs lo hi)) (λb ob q=>ai _ q) (aj _) ?_,rfl,q _ (I.hok.fresh (aj _))⟩
 exact ⟨bB (qju xs lo hi) hz,_,0,(r.drop (HT.sIx xs.length 0 lo)).take (HT.sIx xs.length xs.length hi-HT.sIx xs.length 0 lo),az _ rfl⟩
theorem xu:jk X (.builtin "len") (λxs H Q=>∃p ys,xs=[.ref p]∧(SqL X.K H p ys∨SqT X.K H p ys)∧Q (.int ys.length) H):=by
 intro pins s σ H xs us Q I r h
 obtain ⟨p,ys,rfl,hq,q⟩:=h
 obtain ⟨u,rfl,rx⟩:=jh r
 cases rx
 have hn:=qvm
 rcases hq with hq|hq
 ·obtain ⟨its,r',pl,hz⟩:=I.list hq
  have hlen:=r'.length
  exact Calls.call_len_list pl.isList (by simp only [ar] <;> lia) ⟨.int ys.length,H,I.tok _,⟨s.toks+1,by rw [ar,hlen]⟩,q⟩
 ·obtain ⟨its,r',pl,hz⟩:=I.tuple hq
  have hlen:=r'.length
  exact len_tuple pl (by simp only [ar] <;> lia) ⟨.int ys.length,H,I.tok _,⟨s.toks+1,by rw [ar,hlen]⟩,q⟩
theorem Zr:jk X (.type "list") (λxs H Q=>∃p ys,xs=[.ref p]∧(SqL X.K H p ys∨SqT X.K H p ys)∧∀l,H l=none→Q (.ref l) (upd H l (.lst ys))):=by
 intro pins s σ H xs us Q I r h
 obtain ⟨p,ys,rfl,hq,q⟩:=h
 obtain ⟨u,rfl,rx⟩:=jh r
 cases rx
 have fin:∀(its:List Ag),Vals ys its→ys.length≤sizeLine→∀(h':Heap) (c':Nat),(∀b o',s.heap.get? b=some o'→h'.get? b=some o') →
   h'.get? s.heap.objs.size=some { cls:=.type "list",dict:=none,data:=.seq its.toArray c',slots:=#[] }→EP X pins σ Q (.ref s.heap.objs.size) { s with heap:=h' }:=λits r' hz h' c' kp e =>
  ⟨.ref s.heap.objs.size,_,I.laid (t':=s.toks) kp (aj _) (show ObjOk X.prog X.w _ h' _ (.lst ys) from ⟨hz,its,c',r',e⟩),rfl,q _ (I.hok.fresh (aj _))⟩
 rcases hq with hq|hq
 ·obtain ⟨its,r',pl,hz⟩:=I.list hq
  have hlen:=r'.length
  obtain ⟨o,ho,hc,n,hd⟩:=pl.isList
  exact call_list_seq p (.inl rfl) ho hc hd (λh' c' kp e=>fin its r' hz h' c' kp e) (by simp only [ar] <;> lia)
 ·obtain ⟨its,r',pl,hz⟩:=I.tuple hq
  have hlen:=r'.length
  obtain ⟨o,ho,hc,n,hd⟩:=pl
  exact call_list_seq p (.inr rfl) ho hc hd (λh' c' kp e=>fin its r' hz h' c' kp e) (by simp only [ar] <;> lia)
def tyV (K:Aa)(T:String)(x:V)(H:Hp):Prop:=match x with
 |.str _=>T = "str"
 |.int _=>T = "int"
 |.ref p=>(T = "list" ∧ ∃xs,SqL K H p xs)∨(T = "tuple" ∧ ∃o,K.lookup p=some o∧o.cls=.type "tuple" ∧ o.dict=none) ∨
   (T = "dict" ∧ ((∃kvs,H p=some (.dK kvs))∨∃kvs,H p=some (.dT kvs)))∨(T = "set" ∧ ∃S n,H p=some (.set S n))
 |_=>False
theorem tyV_is {pins:List (Aj×Obj)}{σ:St}{H:Hp}{s:Ab}{T:String}{x:V}{v:Ag}(I:Inv X pins σ H s)(r:RelV x v)(ty:tyV X.K T x H) :
  s.TypeIs v T∧∀a,v=.ref a→∃ob,s.heap.get? a=some ob∧ob.dict=none:=by
 cases x with
 |str z =>
  obtain ⟨t,rfl⟩:=r
  cases (show T = "str" from ty)
  exact ⟨typeIs_str s z t,λ_ e=>nomatch e⟩
 |int i =>
  obtain ⟨t,rfl⟩:=r
  cases (show T = "int" from ty)
  exact ⟨typeIs_int s i t,λ_ e=>nomatch e⟩
 |ref p =>
  cases r
  rcases ty with ⟨rfl,xs,hq⟩|⟨rfl,o,hk,hc,hd⟩|⟨rfl,hk⟩|⟨rfl,S,n,hk⟩
  ·obtain ⟨its,_,pl,_⟩:=I.list hq
   refine ⟨pl.isList.typeIs,λa e=>?_⟩
   cases e
   obtain ⟨o,n,e,c,hd,_⟩:=pl
   exact ⟨o,e,hd⟩
  ·refine ⟨⟨o,I.kIn p o hk,hc⟩,λa e=>?_⟩
   cases e
   exact ⟨o,I.kIn _ o hk,hd⟩
  ·have z:∃o,s.heap.get? p=some o∧o.ExactDict:=by
    rcases hk with ⟨kvs,hk⟩|⟨kvs,hk⟩
    ·obtain ⟨_,_,_,_,o,_,_,e,ex,_⟩:=I.hok p _ hk
     exact ⟨o,e,ex⟩
    ·obtain ⟨_,_,_,_,o,_,_,e,ex,_⟩:=I.hok p _ hk
     exact ⟨o,e,ex⟩
   obtain ⟨o,e,ex⟩:=z
   refine ⟨⟨o,e,ex.1⟩,λa e2=>?_⟩
   cases e2
   exact ⟨o,e,ex.2.1⟩
  ·obtain ⟨o,_,_,_,e,ex,_⟩:=I.hok p _ hk
   refine ⟨⟨o,e,ex.1⟩,λa e2=>?_⟩
   cases e2
   exact ⟨o,e,ex.2.1⟩
 |_=>exact False.elim ty
def tBM (K:Aa)(T:String)(r:V→List V→Hp→VK→Prop)(to:TE)(t:TA):TE:=λσ H Q=>to σ H λx H1=>tyV K T x H1∧t σ H1 λxs H2=>r x xs H2 Q
variable {o e:Expr}{es:List Expr}{to:TE}{t:TA}{name:Str}{apos cpos:Pos}{T id:String}{r:V→List V→Hp→VK→Prop}
theorem qqh (pa:PlainAttrs T)(slot:Slot T name id)(hty:typeOf (.builtin id)=pure (.type "method_descriptor"))(hm:MtR X id r)(ho:PE X o to)(ha:PA X (e::es) t)
  (hbase:attributeBase o name X.env (eval o X.env)=eval o X.env:=by rfl)
  (hfew:((backTo cpos (starEach (e::es) X.env)).all (λx=>!x.1)&&(backToKw cpos (keywordEach [] X.env)).all (λx=>x.1.isSome)
   && decide ((e::es).length+([]:List Keyword).length+(if ([]:List Keyword).isEmpty then 0 else 1)<30))=true:=by rfl)
  (hline:(apos.endLine==cpos.line)=true:=by rfl) (hs:starEach (e::es) X.env=(false,eval e X.env)::starEach es X.env:=by rfl) (hplain:(backTo cpos (starEach es X.env)).any (·.1)=false:=by rfl) :
  PE X (.Call (.Attribute o name apos) (e::es) [] cpos) (tBM X.K T r to t):=by
 intro pins s σ H Q I h
 refine wpAny_Call_method_late hbase hfew hline rfl (thn (ho pins s σ H _ I h) λv s1 ⟨x,H1,I1,r1,ty,q1⟩=>?_)
 obtain ⟨h1,h2⟩:=tyV_is I1 r1 ty
 refine ⟨T,id,pa,slot,hty,h1,h2,?_⟩
 have hA:=ha cpos pins s1 σ H1 _ I1 q1
 rw [hs] at hA ⊢
 refine Calls.callWith_builtin (by show (false||(backTo cpos (starEach es X.env)).any (·.1))=false;rw [hplain] <;> rfl) (Calls.evalArgs_plain ?_)
 exact thn hA λus s2 ⟨vs,H2,I2,r2,q2⟩=>hm pins s2 σ H2 x vs v us Q I2 r1 r2 q2
end
def MtM (X:Cx)(id:String)(r:V→List V→Hp→VK→Prop):Prop :=
 ∀(pins:List (Aj×Obj)) (s:Ab) (σ:St) (H:Hp) (x:V) (xs:List V) (v:Ag) (us:List Ag) (Q:VK),Inv X pins σ H s→RelV x v→Vals xs us→r x xs H Q →
  wpAny (model X.prog X.w) X.A (call (.builtin id) (v::us)) (EP X pins σ Q) X.xe s
theorem Vals.one:∀ {x:V} {us:List Ag},Vals [x] us→∃u,us=[u]∧RelV x u
 |_,_,.cons r .nil=>⟨_,rfl,r⟩
section
variable {X:Cx}{pins:List (Aj×Obj)}{σ:St}{H:Hp}{s:Ab}{l b:Aj}{xs ys zs:List V}
theorem Inv.lset {its its':List Ag}{n:Nat}{f:Array Ag→Array Ag}{t':Nat}(I:Inv X pins σ H s)(hH:H l=some (.lst xs))
  (e:s.heap.get? l=some { cls:=.type "list",data:=.seq its.toArray n }) (hf:f its.toArray=its'.toArray) (hv:Vals ys its') (hz:ys.length≤sizeLine) :
  Inv X pins σ (upd H l (.lst ys)) { s with heap:=s.heap.update l (Obj.mapSeq f),toks:=t' }:=by
 have q:=PySem.IsL.update e f
 rw [hf] at q
 refine I.write (x:=l) (e:=l) (by rw [hH];exact trivial) (.inl rfl) (λb' u hb hu=>(bX s.heap (Obj.mapSeq f) (de hb)).trans hu) ⟨_,q⟩ ?_
 exact ⟨hz,its',_,hv,q⟩
theorem Inv.lnew {its:List Ag}{t':Nat}(I:Inv X pins σ H s)(hv:Vals ys its)(hz:ys.length≤sizeLine) :
  Inv X pins σ (upd H s.heap.objs.size (.lst ys)) { s with heap:=s.heap.push { cls:=.type "list",data:=.seq its.toArray },toks:=t' } :=
 I.laid (λ_ _ q=>ai _ q) (aj _) ⟨hz,its,0,hv,az _ rfl⟩
theorem Inv.fresh (I:Inv X pins σ H s):H s.heap.objs.size=none:=I.hok.fresh (aj _)
theorem Inv.lstM (I:Inv X pins σ H s)(hH:H l=some (.lst xs)):xs.length≤sizeLine∧∃(its:List Ag) (n:Nat),Vals xs its∧xs.length=its.length∧s.heap.get? l=some { cls:=.type "list",data:=.seq its.toArray n }:=by
 obtain ⟨z,its,n,r,e⟩:=I.hok l _ hH
 exact ⟨z,its,n,r,r.length,e⟩
theorem wjz {n:Nat}(h:n≤sizeLine):Builtin.List.listTooLong n=false:=by
 unfold Builtin.List.listTooLong
 exact bp (by lia)
end
section
variable {X:Cx}
def xxu:V→List V→Hp→VK→Prop:=λx vs H Q=>∃l xs y,x=.ref l∧vs=[y]∧H l=some (.lst xs)∧xs.length<sizeLine∧Q .non (upd H l (.lst (xs++[y])))
theorem v4:MtM X "list.append" xxu:=by
 intro pins s σ H x vs v us Q I rx rv h
 obtain ⟨l,xs,y,rfl,rfl,hH,hz,q⟩:=h
 cases rx
 obtain ⟨u,rfl,ru⟩:=rv.one
 obtain ⟨z,its,n,r,hl,e⟩:=I.lstM hH
 refine call_meets F.slot_list_append ⟨_,e,rfl⟩ F.entry_list_append (F.args_list_append_2 _ _) (PySem.list_append l its.toArray n u (by rw [ar];lia)) ⟨e,?_⟩
 refine ⟨.non,_,I.lset (its':=its++[u]) hH e (by simp) (r.append (.cons ru .nil)) ?_,rfl,q⟩
 rw [am,cf]
 lia
def xxv:V→List V→Hp→VK→Prop:=λx vs H Q=>∃l b xs zs,x=.ref l∧vs=[.ref b]∧H l=some (.lst xs)∧H b=some (.lst zs)∧xs.length+zs.length≤sizeLine∧Q .non (upd H l (.lst (xs++zs)))
theorem wz3:MtM X "list.extend" xxv:=by
 intro pins s σ H x vs v us Q I rx rv h
 obtain ⟨l,b,xs,zs,rfl,rfl,hH,hB,hz,q⟩:=h
 cases rx
 obtain ⟨u,rfl,ru⟩:=rv.one
 cases ru
 obtain ⟨z,its,n,r,hl,e⟩:=I.lstM hH
 obtain ⟨z2,its2,n2,r2,hl2,e2⟩:=I.lstM hB
 have hsz:its.toArray.size+its2.toArray.size≤sizeLine:=by rw [ar,ar];lia
 have hlong:¬ (!its.toArray.isEmpty&&Builtin.List.listTooLong (its.toArray.size+its2.toArray.size))=true:=by
  rw [wjz hsz,gv]
  exact aE
 refine call_meets F.slot_list_extend ⟨_,e,rfl⟩ F.entry_list_extend (F.args_list_extend_2 _ _)
  (AutoSeq1.list_extend_list_list_0 l its.toArray n b its2.toArray n2 hlong (by rw [ar];lia) (by lia)) ⟨e,e2,?_⟩
 refine ⟨.non,_,I.lset (its':=its++its2) hH e (by simp) (r.append r2) ?_,rfl,q⟩
 rw [am]
 lia
def rCat:R2:=λx y H Q=>∃l b xs zs,x=.ref l∧y=.ref b∧H l=some (.lst xs)∧H b=some (.lst zs)∧xs.length+zs.length≤sizeLine∧∀p,H p=none→Q (.ref p) (upd H p (.lst (xs++zs)))
theorem wyh:OpR X (binaryOp .Add) rCat:=by
 intro pins s σ H x y v u Q I rx ry h
 obtain ⟨l,b,xs,zs,rfl,rfl,hH,hB,hz,q⟩:=h
 cases rx
 cases ry
 obtain ⟨z,its,n,r,hl,e⟩:=I.lstM hH
 obtain ⟨z2,its2,n2,r2,hl2,e2⟩:=I.lstM hB
 refine PySem.P.add_list e e2 ?_ (by rw [ar,ar];lia)
 have ea:its.toArray++its2.toArray=(its++its2).toArray:=by simp
 rw [ea]
 exact ⟨.ref _,_,I.lnew (t':=s.toks) (r.append r2) (by rw [am];lia),rfl,q _ I.fresh⟩
end
section
variable {prog:Ac}{w:Ah}{A:Ae}{E:Ag→Ab→Prop}{s:Ab}
end
section
variable {X:Cx}
end
end L2
namespace Att
open PySem PySem.W PySem.Calls PyProof.Rows
theorem Jz {P:Params}{h:Heap}:∀(ns:List Int) (vs:List Ag),WellAll P h vs (ns.map WData.int)→IntsAre vs ns:=by
 intro ns
 induction ns with
 |nil =>
  intro vs w
  rw [dJ] at w
  cases w
  exact .nil
 |cons n ns ih =>
  intro vs w
  rw [aN] at w
  cases w with
  |cons a b =>
   cases a
   exact .cons _ _ (ih _ b)
theorem wzf {l:OpenLaw}{n:Nat}(hn:l.most=some n){P:Params}{h:Heap}{args:List WData}{vals:List Ag}
  (hpre:l.row.toRowW.claim.pre args=true) (hwl:WellAll P h vals args) :
  ∃a vs ns,vals=[Value.ref a]∧args=[WData.list (ns.map WData.int)]∧h.get? a=some { cls:=.type "list",data:=.seq vs.toArray }∧IntsAre vs ns∧ns.length≤n:=by
 have hsh:WShape.hasAll [] args [.list .int]=true:=(pre_splitW hpre).1
 have hc:l.pre.holds [] { args:=args }=true:=(pre_splitW hpre).2
 obtain ⟨d,r,rfl,h1,h2⟩:=hasAllW_cons hsh
 obtain rfl:=hasAllW_nil h2
 obtain ⟨xs,rfl,h3⟩:=hasW_list h1
 obtain ⟨ns,rfl⟩:=items_int h3
 have hlen:ns.length≤n:=by
  unfold OpenLaw.pre at hc
  have h4:(WTm.not (.lt (.lit (.int (n:Int))) (.len (.arg 0)))).holds [] { args:=[.list (ns.map .int)] }=true:=by
   have h4:=(holds_andW hc).1
   rw [hn] at h4
   exact h4
  have h5:=condW_of h4 (w_not (w_lt w_lit (w_len_list (w_arg rfl))))
  rw [ag] at h5
  refine Nat.le_of_not_lt λq=>?_
  have q':(n:Int)<((ns.length:Nat):Int):=by lia
  first
   |(rw [aT q'] at h5;exact absurd h5 (by decide))
   |(simp at h5;lia)
 cases hwl with
 |cons w1 w2 =>
  cases w2
  cases w1 with
  |list ho hall=>exact ⟨_,_,ns,rfl,rfl,ho,Jz ns _ hall,hlen⟩
theorem wzc (l:OpenLaw)(args:List WData):l.row.toRowW.claim.post args (.bool true) args=true :=
 postW_of (r:=l.row.toRowW) (X:=(true==true))
  (show WShape.has [] (.bool true) .bool=true by first | rfl | decide | simp [WShape.has,WShape.arms,WShape.armsAll])
  (show (WTm.eq .res (.lit (.bool true))).value [] { args:=args,res:=some (.bool true),after:=args }=some (.bool (true==true)) from w_eq_bool (w_res rfl) w_lit) rfl
theorem attach_call {l:OpenLaw}{n:Nat}{q:Ac}{loose:List Str}{XP:(Str→Option Ag)→Heap→Prop}{YP:Ah→Heap→Prop}{d:DefRec}
  (hn:l.most=some n) (hdf:d.params.defaults=[])
  (call:∀(w:Ah) (s₀ s₁:Ab) (mg mb:Str→Option Ag) (fa:Aj) (o:Obj) (pm cd doc:Ag) (a:Aj) (vs:List Ag) (ns:List Int),
   Ground q loose [] XP w s₀ mg mb s₁.heap→YP w s₁.heap →
   s₁.heap.get? fa=some o→o.data=.func (docDef d.name d.params d.body d.scope pm cd doc)→s₁.heap.CodeRec cd d.name→mg d.name=some (.ref fa) →
   s₁.heap.get? a=some { cls:=.type "list",data:=.seq vs.toArray }→IntsAre vs ns→ns.length≤n→s₁.gens=#[] →
   codeAny (model l.prog w) callerA (.call (.ref fa) ⟨[.ref a],[]⟩) (λr s'=>r=.ok (.ret (.bool true))∧OldK s₁.heap s'.heap∧s'.os=s₁.os∧AllBare s'.gens) s₁) :
  WalkO q loose XP YP l.row.toRowW d [] (λf vs=>PySem.call f vs):=by
 intro w s₀ s₁ mg mb G Y fa o pm cd doc dV kV ho hd hcd hD hmg hg args vals as hpre hlay hrd hwl hlo
 obtain rfl:dV=.none:=Dflts.none hD hdf
 obtain rfl:kV=.none:=Dflts.noKw hD
 obtain ⟨a,vs,ns,rfl,rfl,hobj,hints,hlen⟩:=wzf hn hpre hwl
 refine enter_call (eO (call w s₀ s₁ mg mb fa o pm cd doc a vs ns G Y ho (fd_plain hd) hcd hmg hobj hints hlen hg) λr s' hq=>?_)
 obtain ⟨rfl,h2,h3,h4⟩:=hq
 exact ⟨.inl ⟨.bool true,.bool true,[],rfl,λ_=>rfl,.bool true,wzc l _,λ_=>⟨List.Pairwise.nil,λ_ hm=>(nomatch hm)⟩⟩,h2,h3,h4⟩
section
variable {prog:Ac}{w:Ah}{A:Ae}{E:Ag→Ab→Prop}{s:Ab}{K:Frag}
end
end Att
namespace L2
open PySem PySem.Spec PyProof.Rows
theorem Yy:∀ {vs:List Ag} {ns:List Int},IntsAre vs ns→Vals (ns.map V.int) vs
 |_,_,.nil=>.nil
 |_,_,.cons n t h=>.cons ⟨t,rfl⟩ (Yy h)
def uw (s:Stmt)(j:Nat):Stmt:=match s with
 |.ClassDef _ _ _ body _ _ _ _ _ _ _=>body.getD j (.Pass ⟨0,0,0,0⟩)
 |_=>.Pass ⟨0,0,0,0⟩
def vm (s:Stmt):Arguments:=match s with
 |.FunctionDef _ a _ _ _ _ _ _ _ _=>a
 |_=>{ posonlyargs:=[],args:=[],vararg:=none,kwonlyargs:=[],kw_defaults:=[],kwarg:=none,defaults:=[] }
def zm (s:Stmt):List Stmt:=match s with
 |.FunctionDef _ _ b _ _ _ _ _ _ _=>b
 |_=>[]
def qt (s:Stmt):Scope:=match s with
 |.FunctionDef _ _ _ _ _ _ sc _ _ _=>sc
 |_=>{ kind:=.function,names:=[],isGenerator:=false,isCoroutine:=false }
abbrev E0:XK:=λ_ _ _=>False
structure Fun (K:Aa)(x qual:Str)(st:Stmt)(f:Aj)(fd:Ad):Prop where
 ex:∃(oc:Ag) (od:Option Aj) (kV doc pm:Ag) (an:Option Aj) (cdv ct:Ag) (osl:Array (Option Ag)),
  fd=PySem.W.fnOf x qual (vm st) (zm st) (qt st) .none kV doc pm an cdv ct∧K.lookup f=some ⟨oc,od,.func fd,osl⟩∧PySem.W.codeIn K cdv qual=true
 kp:PySem.W.keepIn K (.ref f)=true
section
variable {P:Ac}{w:Ah}{K:Aa}{mg:Str→Option Ag}{base:Heap}
theorem Fun.binds {x qual:Str}{st:Stmt}{f:Aj}{fd:Ad}{ps:List Str}(F:Fun K x qual st f fd)
  (h:∀(kV doc pm:Ag) (an:Option Aj) (cdv ct:Ag) (us:List Ag),us.length=ps.length→bindArgs (PySem.W.fnOf x qual (vm st) (zm st) (qt st) .none kV doc pm an cdv ct) ⟨us,[]⟩=pure (ps.zip us)):Binds K fd ps []:=by
 obtain ⟨oc,od,kV,doc,pm,an,cdv,ct,osl,rfl,lk,hcd⟩:=F.ex
 exact .all (h kV doc pm an cdv ct)
theorem wwf {x qual:Str}{st:Stmt}{f:Aj}{oc:Ag}{od an:Option Aj}{osl:Array (Option Ag)}{kV doc pm cdv ct:Ag}(l:K.lookup f=some ⟨oc,od,.func (PySem.W.fnOf x qual (vm st) (zm st) (qt st) .none kV doc pm an cdv ct),osl⟩)
  (c:PySem.W.codeIn K cdv qual=true) (k:PySem.W.keepIn K (.ref f)=true):Fun K x qual st f (PySem.W.fnOf x qual (vm st) (zm st) (qt st) .none kV doc pm an cdv ct):=⟨⟨oc,od,kV,doc,pm,an,cdv,ct,osl,rfl,l,c⟩,k⟩
end
theorem wyk {A:Ae}{k:Nat}(hr:Room k A):A.units+1<cLine:=d6 (Nat.add_le_add_left (by decide:1≤64) _) hr.units
theorem Y3 {n:Nat}(h:n≤1000):n<sizeLine:=d6 h (by decide)
section
variable {X:Cx}
theorem pv (i:Nat){x:Str}{pos:Pos}(hN:X.N[i]?=some x:=by rfl)(hv:Vis X.env.scope x:=by first | exact Or.inl rfl | exact Or.inr (Or.inl rfl) | exact Or.inr (Or.inr rfl))(hd:(x==("__debug__" : Str))=false:=by decide)
  (hcd:(x==("__classdict__" : Str))=false:=by decide):PE X (.Name x pos) (ju i):=pe_var hN hv hd hcd
end
theorem qw4 {A B:Prop}(h:B):if false=true then A else B:=by
 rw [ao aE]
 exact h
theorem Z9 {A B:Prop}(h:A):if true=true then A else B:=by
 rw [av rfl]
 exact h
def Same (H H':Hp):Prop:=∀b o,H b=some o→H' b=some o
theorem Same.refl (H:Hp):Same H H:=λ_ _ h=>h
theorem Same.trans {H H1 H2:Hp}(a:Same H H1)(b:Same H1 H2):Same H H2:=λc o h=>b c o (a c o h)
theorem Same.seq {K:Aa}{H H':Hp}{a:Aj}{xs:List V}(e:Same H H')(h:SqL K H a xs):SqL K H' a xs:=by
 rcases h with (h|⟨o,h⟩)|h
 ·exact .inl (.inl (e _ _ h))
 ·exact .inl (.inr ⟨o,e _ _ h⟩)
 ·exact .inr h
end L2
set_option maxHeartbeats 4000000
namespace L2
open PySem
def itF:Nat→Nat→Nat
 |0,x=>x
 |n+1,x=>itF n (5*x+1)
theorem wxh (a:Nat):∀b x,itF (b+a) x=itF a (itF b x)
 |0,x=>by rw [cE];rfl
 |b+1,x=>by rw [gz];exact wxh a b (5*x+1)
theorem qux:∀n x,4*itF n x+1=5 ^ n*(4*x+1)
 |0,x=>by simp [itF]
 |n+1,x=>by
  show 4*itF n (5*x+1)+1=_
  rw [qux n,dA,Nat.mul_assoc]
  congr 1
  lia
theorem qj1:∀e,∃d,d%2=1∧5 ^ (2 ^ e)=1+2 ^ (e+2)*d
 |0=>⟨1,rfl,rfl⟩
 |e+1=>by
  obtain ⟨d,h1,h2⟩:=qj1 e
  refine ⟨d+2 ^ (e+1)*(d*d),?_,?_⟩
  ·rw [dA,show 2 ^ e*2*(d*d)=2*(2 ^ e*(d*d)) by grind]
   lia
  ·have e1:5 ^ (2 ^ (e+1))=(1+2 ^ (e+2)*d) ^ 2:=by
    rw [show (2:Nat) ^ (e+1)=2 ^ e*2 from dA ..,Nat.pow_mul,h2]
   have e2:(2:Nat) ^ (e+2)=2*2 ^ (e+1):=by rw [show e+2=(e+1)+1 by lia,dA 2 (e+1)];lia
   have e3:(2:Nat) ^ (e+1+2)=4*2 ^ (e+1):=by rw [show e+1+2=(e+2)+1 by lia,dA 2 (e+2),e2];lia
   rw [e1,e3,e2]
   generalize 2 ^ (e+1)=X
   grind
theorem wj3 (e x:Nat):∃d,d%2=1∧itF (2 ^ e) x=x+2 ^ e*d:=by
 obtain ⟨d,h1,h2⟩:=qj1 e
 refine ⟨d*(4*x+1),?_,?_⟩
 ·rw [Nat.mul_mod,h1];lia
 ·have h:=qux (2 ^ e) x
  rw [h2,Nat.pow_add] at h
  have e1:(1+2 ^ e*2 ^ 2*d)*(4*x+1)=4*(x+2 ^ e*(d*(4*x+1)))+1:=by
   generalize 2 ^ e=X
   grind
  lia
theorem qkg {P q r:Nat}(h:r<P):(P*q+r)%(2*P)=P*(q%2)+r:=by
 have hq:q=2*(q/2)+q%2:=by lia
 have e:P*q+r=(P*(q%2)+r)+2*P*(q/2):=by
  have:P*q=P*(2*(q/2)+q%2):=by rw [←hq]
  rw [this]
  grind
 rw [e,Nat.add_mul_mod_self_left]
 refine eP ?_
 rcases eL q with z|z <;> rw [z] <;> lia
theorem qzv:∀e x j,∃k,k<2 ^ e∧itF k x%2 ^ e=j%2 ^ e
 |0,x,j=>⟨0,by decide,by rw [Nat.pow_zero,Nat.mod_one,Nat.mod_one]⟩
 |e+1,x,j=>by
  obtain ⟨k,hk,hm⟩:=qzv e x j
  have hP:0<2 ^ e:=iC e
  have e2:2 ^ (e+1)=2*2 ^ e:=by rw [dA];lia
  by_cases c:itF k x%2 ^ (e+1)=j%2 ^ (e+1)
  ·exact ⟨k,by lia,c⟩
  ·obtain ⟨d,h1,h2⟩:=wj3 e (itF k x)
   refine ⟨k+2 ^ e,by lia,?_⟩
   rw [wxh,h2]
   rw [e2] at c ⊢
   generalize itF k x=a at *
   generalize 2 ^ e=P at *
   have ea:=(Nat.div_add_mod a P).symm
   have ej:=(Nat.div_add_mod j P).symm
   have ra:a%P<P:=fk _ hP
   have s1:a%(2*P)=P*(a/P%2)+a%P:=by
    have:=qkg (q:=a/P) ra
    rwa [←ea] at this
   have s2:j%(2*P)=P*(j/P%2)+a%P:=by
    have:=qkg (q:=j/P) ra
    rw [hm,←ej] at this
    rw [hm]
    exact this
   have s3:(a+P*d)%(2*P)=P*((a/P+d)%2)+a%P:=by
    have:=qkg (q:=a/P+d) ra
    rwa [show P*(a/P+d)+a%P=a+P*d by rw [Nat.mul_add];lia] at this
   rw [s1,s2] at c
   rw [s3,s2]
   have:(a/P+d)%2=j/P%2:=by
    rcases eL (a/P) with z|z <;> rcases eL (j/P) with y|y <;> rw [z,y] at c <;> lia
   rw [this]
def lp (mask:Nat):Nat→Nat×Nat→Nat×Nat
 |0,q=>q
 |n+1,q=>lp mask n (SetTable.leap mask q.1 q.2)
theorem wuz (mask b:Nat):∀a q,lp mask (a+b) q=lp mask b (lp mask a q)
 |0,q=>by rw [cE];rfl
 |a+1,q=>by rw [gz];exact wuz mask b a _
theorem wjr (mask:Nat):∀n q,(lp mask n q).2=q.2/32 ^ n
 |0,q=>by simp [lp]
 |n+1,q=>by
  show (lp mask n (SetTable.leap mask q.1 q.2)).2=_
  rw [wjr mask n,dA,Nat.mul_comm,←Nat.div_div_eq_div_mul]
  rfl
theorem lp_lt {mask:Nat}:∀n q,q.1≤mask→(lp mask n q).1≤mask
 |0,q,h=>h
 |n+1,q,h=>lp_lt n _ (dh (fk _ (d7 _)))
theorem wxu {mask:Nat}:∀n i,i≤mask→(lp mask n (i,0)).1=itF n i%(mask+1)
 |0,i,h=>(eP (Nat.lt_succ_of_le h)).symm
 |n+1,i,h=>by
  have e:SetTable.leap mask i 0=((5*i+1)%(mask+1),0):=by
   simp [SetTable.leap,Nat.mul_comm]
  show (lp mask n (SetTable.leap mask i 0)).1=itF n (5*i+1)%(mask+1)
  rw [e,wxu n _ (dh (fk _ (d7 _)))]
  have key:∀n x,itF n (x%(mask+1))%(mask+1)=itF n x%(mask+1):=by
   intro n
   induction n with
   |zero=>intro x;exact Nat.mod_mod _ _
   |succ n ih =>
    intro x
    show itF n (5*(x%(mask+1))+1)%(mask+1)=itF n (5*x+1)%(mask+1)
    rw [←ih (5*(x%(mask+1))+1),←ih (5*x+1)]
    congr 2
    rw [Nat.add_mod,Nat.mul_mod,Nat.mod_mod,←Nat.mul_mod,←Nat.add_mod]
  exact key n _
theorem qjt {e mask:Nat}(hM:mask+1=2 ^ e){q:Nat×Nat}(h1:q.1≤mask)(h2:q.2<2 ^ 64){j:Nat}(hj:j≤mask):∃n,n≤mask+13∧(lp mask n q).1=j:=by
 have z:(lp mask 13 q).2=0:=by
  rw [wjr]
  exact Nat.div_eq_of_lt (aI h2 (by decide))
 have l1:=lp_lt (mask:=mask) 13 q h1
 obtain ⟨k,hk,hm⟩:=qzv e (lp mask 13 q).1 j
 refine ⟨13+k,by lia,?_⟩
 rw [wuz,show lp mask 13 q=((lp mask 13 q).1,0) from i9 rfl z,wxu k _ l1,hM,hm]
 exact eP (by lia)
def zw (t:SetTable):Nat→SetTable.Probe→SetTable.Probe
 |0,p=>p
 |n+1,p=>zw t n (t.advance p)
theorem Qv (t:SetTable)(b:Nat):∀a p,zw t (a+b) p=zw t b (zw t a p)
 |0,p=>by rw [cE];rfl
 |a+1,p=>by rw [gz];exact Qv t b a _
theorem qzs (t:SetTable)(p:SetTable.Probe):(t.advance p).dummy=p.dummy:=by
 unfold SetTable.advance
 split <;> rfl
theorem qw9 (t:SetTable):∀n p,(zw t n p).dummy=p.dummy
 |0,p=>rfl
 |n+1,p=>(qw9 t n _).trans (qzs t p)
def rs (mask:Nat)(q:Nat×Nat):SetTable.Probe:={ j:=q.1,more:=SetTable.runEnd mask q.1-q.1,i:=q.1,perturb:=q.2,dummy:=none }
theorem qwr (t:SetTable)(q:Nat×Nat):∀r j,zw t (r+1) { j:=j,more:=r,i:=q.1,perturb:=q.2,dummy:=none }=rs t.mask (SetTable.leap t.mask q.1 q.2)
 |0,j=>rfl
 |r+1,j=>by
  show zw t (r+1) (t.advance _)=_
  have e:t.advance { j:=j,more:=r+1,i:=q.1,perturb:=q.2,dummy:=none }={ j:=j+1,more:=r,i:=q.1,perturb:=q.2,dummy:=none }:=by
   unfold SetTable.advance
   rw [av (d7 r)]
   rfl
  rw [e]
  exact qwr t q r (j+1)
theorem xq4 (t:SetTable)(q:Nat×Nat):∃m,m≤10∧zw t m (rs t.mask q)=rs t.mask (SetTable.leap t.mask q.1 q.2):=by
 refine ⟨SetTable.runEnd t.mask q.1-q.1+1,?_,qwr t q _ _⟩
 unfold SetTable.runEnd
 split <;> lia
theorem qyb (t:SetTable):∀n q,∃N,N≤10*n∧zw t N (rs t.mask q)=rs t.mask (lp t.mask n q)
 |0,q=>⟨0,aj _,rfl⟩
 |n+1,q=>by
  obtain ⟨m,hm,e⟩:=xq4 t q
  obtain ⟨N,hN,e2⟩:=qyb t n (SetTable.leap t.mask q.1 q.2)
  exact ⟨m+N,by lia,by rw [Qv,e,e2];rfl⟩
theorem Z4 {t:SetTable}{j i:Nat}(h:t.slot j=.live i):t.place[i]?=some j:=by
 unfold SetTable.slot at h
 dsimp only at h
 split at h
 ·rename_i c
  cases h
  simpa using c
 ·split at h <;> cases h
theorem qw3 {t:SetTable}(hd:t.dummies=#[])(j:Nat):t.slot j=.empty∨∃i,t.slot j=.live i:=by
 unfold SetTable.slot
 dsimp only
 split
 ·exact .inr ⟨_,rfl⟩
 ·have:SetTable.has t.dummies j=false:=by rw [hd];simp [SetTable.has]
  rw [this]
  exact .inl rfl
theorem qxv:∀(l l':List Nat),l.Nodup→(∀a∈l,a∈l')→l.length≤l'.length
 |[],_,_,_=>aV _
 |a::l,l',hn,hs=>by
  have hn':=du.mp hn
  have ha:=hs a (.head _)
  have:=qxv l (l'.erase a) hn'.2 λb hb=>(List.mem_erase_of_ne (λz=>by subst z;exact hn'.1 hb)).mpr (hs b (.tail _ hb))
  rw [List.length_erase,av ha] at this
  have hp:0<l'.length:=List.length_pos_of_mem ha
  rw [aQ]
  lia
theorem wzg {t:SetTable}(hd:t.dummies=#[])(hz:t.place.size≤t.mask):∃j,j≤t.mask∧t.slot j=.empty:=by
 apply gM
 intro c
 have:=qxv (List.range (t.mask+1)) t.place.toList fL λa ha=>by
  have ha':a≤t.mask:=dh (au.mp ha)
  rcases qw3 hd a with h|⟨i,h⟩
  ·exact absurd ⟨a,ha',h⟩ c
  ·have e:=Z4 h
   exact fR.mpr (Array.mem_of_getElem? e)
 rw [aH,aS] at this
 lia
theorem wws (h:Int):SetTable.bits h<2 ^ 64:=by
 unfold SetTable.bits
 lia
theorem wvt {t:SetTable}{e:Nat}(hM:t.mask+1=2 ^ e)(hd:t.dummies=#[])(hz:t.place.size≤t.mask)(h:Int):∃N,N≤10*(t.mask+13)∧t.slot (zw t N (t.probeStart h)).j=.empty:=by
 obtain ⟨j,hj,hs⟩:=wzg hd hz
 obtain ⟨n,hn,en⟩:=qjt hM (q:=(SetTable.bits h%(t.mask+1),SetTable.bits h)) (dh (fk _ (d7 _))) (wws h) hj
 obtain ⟨N,hN,e2⟩:=qyb t n (SetTable.bits h%(t.mask+1),SetTable.bits h)
 refine ⟨N,by lia,?_⟩
 show t.slot (zw t N (rs t.mask (SetTable.bits h%(t.mask+1),SetTable.bits h))).j=.empty
 rw [e2]
 show t.slot (lp t.mask n _).1=.empty
 rw [en]
 exact hs
inductive MetOk (t:SetTable) (p:SetTable.Probe) (N:Nat):SetTable.Met→Prop
 |empty (j:Nat):MetOk t p N (.empty j none)
 |cand (m i:Nat) (hm:m<N) (hs:t.slot (zw t m p).j=.live i):MetOk t p N (.candidate (zw t m p).j i (zw t (m+1) p))
def liveL (mask:Nat)(owner:Array (Option Nat)):List (Nat×Nat):=(List.range (mask+1)).filterMap λj=>(owner.getD j none).map (j,·)
structure OwnI (mask:Nat)(owner:Array (Option Nat))(k:Nat):Prop where
 size:owner.size=mask+1
 len:(liveL mask owner).length=k
 low:∀j v:Nat,owner[j]?=some (some v)→v<k
end L2
namespace L2
open PySem PySem.Spec PyProof.Rows
theorem nin {b:Aj}:b∉([]:List Aj):=λz=>nomatch z
theorem wxp {K:Aa}{h:Heap}{C:Aj}{bmB:List Ag}{newId:String}(X:K.In h)(q:PySem.W.excIn K C bmB newId=true) :
  ∃tl N a1 a2 a3 a4 a5 a6 a7 a8 a9 b0 b1 b2 b3 b5 mN,h.get? C=some (excClassObj a1 a2 C N a3 tl a4 a5 a6 a7 a8 a9 b0 b1 b2 b3 b5 newId) ∧
   h.Ns N mN∧mN "__init__" = none∧OwnTail h bmB tl:=by
 unfold PySem.W.excIn at q
 split at q
 ·next dd cd sl ho =>
  split at q
  ·next C1 tl x0 x1 x2 x3 nn x5 hm hs =>
   rw [cy,cy,cy,cy,cy] at q
   obtain ⟨⟨⟨⟨⟨p1,p2⟩,p3⟩,p4⟩,p5⟩,p6⟩:=q
   have p1':=eq_of_beq p1
   have p2':=eq_of_beq p2
   have p6':=eq_of_beq p6
   have p3':cd.hasDel=false:=by simpa using p3
   subst p1' p2'
   obtain ⟨f1,f2,f3,f4,f5,f6,f7,f8,f9,f10,f11⟩:=cd
   have hm':f3=Value.ref C1::tl:=hm
   have p3'':f11=false:=p3'
   subst hm' p3''
   have hsl:sl=#[x0,x1,x2,x3,some (.builtin nn),x5]:=by
    cases sl with
    |mk l =>
     have:l=[x0,x1,x2,x3,some (.builtin nn),x5]:=hs
     rw [this]
   subst hsl
   have nsok:=PySem.W.isNs_of_in X p5
   exact ⟨tl,f4,f1,f5,f2,f6,f7,f8,f9,f10,dd,x0,x1,x2,x3,x5,_,X _ _ ho,.of_isNs nsok,PySem.W.nsMap_none_of_in X p5 p6',PySem.W.tail_of_in X p4⟩
  ·exact absurd q (by decide)
 ·exact absurd q (by decide)
def CXE (P:Ac)(w:Ah):CXT:=λouter H s E e s' =>
 ∃(a C:Aj) (a0:Ag) (B:Heap) (H':Hp),e=.ref a∧s'.os=s.os∧AllBare s'.gens∧Un (frs outer) [] H H' s.heap s'.heap∧HOk P w H' B ∧
  Heap.FlyingW B outer a (.ref C) a0 s'.heap∧(∀b o,s.heap.get? b=some o→b∉frs outer→∃o',B.get? b=some o'∧(H b=none→o'=o))∧E (.ref C) none H'
theorem CXE.no {P:Ac}{w:Ah}{outer:List Env}{H:Hp}{s s':Ab}{e:Ag}(h:CXE P w outer H s E0 e s'):False:=by
 obtain ⟨_,_,_,_,_,_,_,_,_,_,_,_,q⟩:=h
 exact q
def jx (X:Cx)(E:St→XK):Prop:=∀(pins:List (Aj×Obj)) (σ:St) (H:Hp) (s:Ab) (e:Ag) (s':Ab),Inv X pins σ H s→CXE X.prog X.w X.stack H s (E σ) e s'→X.xe e s'
theorem Yp {X:Cx}:jx X (λ_=>E0):=λ_ _ _ _ _ _ _ h=>h.no.elim
def wu2 (X:Cx)(E:St→XK):Prop:=∀(pins:List (Aj×Obj)) (σ:St) (H:Hp) (s:Ab) (h':Heap) (e C:Aj) (vs:List Ag),Inv X pins σ H s→Heap.MadeExcOf s.heap h' e (.ref C) vs→E σ (.ref C) none H→X.xe (.ref e) { s with heap:=h' }
theorem Zu {env:Env}{L:Aj}{outer:List Env}(h:env.frame=some L):frs (env::outer)=L::frs outer:=by
 unfold frs
 rw [dO,h]
section
variable {P:Ac}{w:Ah}{K:Aa}{mg:Str→Option Ag}{base:Heap}{N:List Str}{qual:Str}{scope:Scope}{f:Aj}{cdv:Ag}{A:Ae}{outer:List Env}{s0:Ab}{H0:Hp}{E:XK}
theorem qc:jx (qwx (CXE P w) P w K mg base N qual scope f cdv A outer s0 H0 E) (λ_=>E):=by
 intro pins σ H s e s' I hx
 obtain ⟨a,C,a0,B,H',rfl,hos,hba,un,hokB,hfl,old,q⟩:=hx
 have ub:=I.base
 have hL:∀b o,s0.heap.get? b=some o→b≠s0.heap.objs.size:=λb o e z=>aW _ (z▸al e)
 have hfs:frs (envOfC qual scope s0.heap.objs.size f cdv::outer)=s0.heap.objs.size::frs outer:=Zu rfl
 have hmem:∀b o,s0.heap.get? b=some o→b∉frs outer→b∉frs (envOfC qual scope s0.heap.objs.size f cdv::outer):=λb o e n=>by
  rw [hfs]
  intro z
  rcases aM.mp z with z|z
  ·exact hL b o e z
  ·exact n z
 have hold:∀b o,s0.heap.get? b=some o→b∉frs outer→∃o',B.get? b=some o'∧(H0 b=none→o'=o):=λb o e n=>by
  obtain ⟨o1,e1⟩:=ub.there b o e nin
  obtain ⟨o2,e2,e3⟩:=old b o1 e1 (hmem b o e n)
  refine ⟨o2,e2,λz=>?_⟩
  have e4:=ub.keep b o e z n nin
  have e5:=ub.free b o e z nin
  rw [e1] at e4
  rw [e3 e5]
  exact aq e4
 refine wpAny_leaves_onW I.ok.frames rfl hfl λh' hf' hup=>?_
 have toH:∀b,b∈frs outer→∀o,s0.heap.get? b=some o→H0 b=none→∃sl,h'.get? b=some { o with slots:=sl }:=λb hb o e n=>by
  obtain ⟨sl,e1⟩:=ub.slot b o e n hb nin
  obtain ⟨sl2,e2⟩:=un.slot b _ e1 (ub.free b o e n nin) (by show b∈frs (envOfC qual scope s0.heap.objs.size f cdv::outer);rw [hfs];exact .tail _ hb) nin
  obtain ⟨_,o3,e3,nf⟩:=hfl.2.2.1.mem (b:=b) (by show b∈frs (envOfC qual scope s0.heap.objs.size f cdv::outer);rw [hfs];exact .tail _ hb)
  obtain ⟨sl4,e4⟩:=hup b o3 e3 nf
  rw [e2] at e3
  have e5:=aq e3
  exact ⟨sl4,by rw [e4,←e5]⟩
 refine ⟨a,C,a0,B,H',rfl,hos.trans I.os,hba,⟨λb o e n nb _=>?_,λb o e n hb _=>toH b hb o e n,λb o e n _=>?_,λb o e _=>?_,λb xs e=>un.tups b xs (ub.tups b xs e),λb o u e=>un.frzs b o u (ub.frzs b o u e),λb ps e=>?_⟩,hokB,hf',hold,q⟩
 ·obtain ⟨o',e1,e2⟩:=hold b o e nb
  rw [e2 n] at e1
  exact hf'.1 b o e1
 ·obtain ⟨o1,e1⟩:=ub.there b o e nin
  exact un.free b o1 e1 (ub.free b o e n nin) nin
 ·by_cases hb:b∈frs outer
  ·obtain ⟨o1,e1⟩:=ub.there b o e nin
   obtain ⟨o2,e2⟩:=un.there b o1 e1 nin
   obtain ⟨_,o3,e3,nf⟩:=hfl.2.2.1.mem (b:=b) (by show b∈frs (envOfC qual scope s0.heap.objs.size f cdv::outer);rw [hfs];exact .tail _ hb)
   obtain ⟨sl4,e4⟩:=hup b o3 e3 nf
   exact ⟨_,e4⟩
  ·obtain ⟨o',e1,_⟩:=hold b o e hb
   exact ⟨o',hf'.1 b o' e1⟩
 ·obtain ⟨m1,e1⟩:=ub.tbls b ps e
  obtain ⟨m2,e2⟩:=un.tbls b _ e1
  exact ⟨m1++m2,by rw [e2,gm]⟩
theorem vt:wu2 (qwx (CXE P w) P w K mg base N qual scope f cdv A outer s0 H0 E) (λ_=>E):=by
 intro pins σ H s h' e C vs I hx q
 have ub:=I.base
 have hfs:frs (envOfC qual scope s0.heap.objs.size f cdv::outer)=s0.heap.objs.size::frs outer:=Zu rfl
 have hmem:∀b o,s0.heap.get? b=some o→b∉frs outer→b∉frs (envOfC qual scope s0.heap.objs.size f cdv::outer):=λb o e n=>by
  rw [hfs]
  intro z
  rcases aM.mp z with z|z
  ·exact aW _ (z▸al e)
  ·exact n z
 have hfree:∀b∈frs (envOfC qual scope s0.heap.objs.size f cdv::outer),H b=none:=I.stkFree
 have hB:∀b o,s.heap.get? b=some o→b∉frs (envOfC qual scope s0.heap.objs.size f cdv::outer)→(PySem.W.hideAll s.heap (frs (envOfC qual scope s0.heap.objs.size f cdv::outer))).get? b=some o:=λb o e n=>eW _ e n
 have hokB:HOk P w H (PySem.W.hideAll s.heap (frs (envOfC qual scope s0.heap.objs.size f cdv::outer))):=λb u hb=>by
  refine (I.hok b u hb).stay (λc v hc ec=>hB c v ec λhm=>?_) (λ_ z=>z) (λ_ _ z=>z)
  have hn:=hfree c hm
  rcases hc with rfl|hc
  ·rw [hn] at hb;cases hb
  ·rw [hn] at hc;cases hc
 have hold:∀b o,s0.heap.get? b=some o→b∉frs outer→∃o',(PySem.W.hideAll s.heap (frs (envOfC qual scope s0.heap.objs.size f cdv::outer))).get? b=some o'∧(H0 b=none→o'=o):=λb o e n=>by
  obtain ⟨o1,e1⟩:=ub.there b o e nin
  refine ⟨o1,hB b o1 e1 (hmem b o e n),λz=>?_⟩
  have e4:=ub.keep b o e z n nin
  rw [e1] at e4
  exact aq e4
 have hst:s.heap.FunFrames base (envOfC qual scope s0.heap.objs.size f cdv::outer):=I.stack
 have hff:=PySem.W.funFrames_hide (as:=frs (envOfC qual scope s0.heap.objs.size f cdv::outer)) hst (λenv he b hb=>fi.mpr ⟨env,he,hb⟩)
 refine wpAny_leaves_madeW (base:=PySem.W.hideAll s.heap (frs (envOfC qual scope s0.heap.objs.size f cdv::outer))) (h:=s.heap) I.ok.frames rfl (λb o e=>fh _ e) hff hx λh'' t hf' _ _ hup=>?_
 have toF:∀b,b∈frs outer→∃o,s.heap.get? b=some o∧∃sl,h''.get? b=some { o with slots:=sl }:=λb hb=>by
  obtain ⟨_,o3,e3,nf⟩:=hst.mem (b:=b) (by show b∈frs (envOfC qual scope s0.heap.objs.size f cdv::outer);rw [hfs];exact .tail _ hb)
  exact ⟨o3,e3,hup b o3 (hx.keeps b o3 e3) nf⟩
 refine ⟨e,C,.ref t,_,H,rfl,I.os,I.bare,⟨λb o e1 n nb _=>?_,λb o e1 n hb _=>?_,λb o e1 n _=>ub.free b o e1 n nin,λb o e1 _=>?_,ub.tups,ub.frzs,ub.tbls⟩,hokB,hf',hold,q⟩
 ·obtain ⟨o',e2,e3⟩:=hold b o e1 nb
  rw [e3 n] at e2
  exact hf'.1 b o e2
 ·obtain ⟨sl,e2⟩:=ub.slot b o e1 n hb nin
  obtain ⟨o3,e3,sl3,e4⟩:=toF b hb
  rw [e2] at e3
  have e5:=aq e3
  exact ⟨sl3,by rw [e4,←e5]⟩
 ·by_cases hb:b∈frs outer
  ·obtain ⟨o3,e3,sl3,e4⟩:=toF b hb
   exact ⟨_,e4⟩
  ·obtain ⟨o',e2,_⟩:=hold b o e1 hb
   exact ⟨o',hf'.1 b o' e2⟩
end
section
variable {P:Ac}{w:Ah}{K:Aa}{mg:Str→Option Ag}{base:Heap}
end
def qwv (sp:Sp)(E:St→XK)(t:TA):TE:=λσ H Q=>t σ H λvs H1=>sp vs H1 Q (E σ)
def qq4 (C:Aj)(m:Str)(sp:Sp)(E:St→XK)(ta:TE)(t:TA):TE:=λσ H Q=>ta σ H λx H1=>∃a dx fs,x=.ref a∧H1 a=some (.ins C dx fs)∧fs.lookup m=none ∧
 t σ H1 λvs H2=>sp (x::vs) H2 Q (E σ)
def wkt (C:Aj)(sp:Sp)(E:St→XK)(t:TA):TE:=λσ H Q=>t σ H λvs H1=>∀x dx,H1 x=none→H1 dx=none→dx≠x →
 sp (.ref x::vs) (upd (upd H1 dx (.own x)) x (.ins C dx [])) (λv H2=>v=.non∧Q (.ref x) H2) (E σ)
section
variable {X:Cx}{k:Nat}{f C:Aj}{fd:Ad}{ps:List Str}{sp:Sp}{E:St→XK}{x m:Str}{p pos apos:Pos}{e o:Expr}{es:List Expr}{ta:TE}{t:TA}
theorem qk0 {pins:List (Aj×Obj)}{σ:St}{H:Hp}{s:Ab}{Q:VK}{us:List Ag}{vs:List V}(F:FnOk X.prog X.w X.K X.mg X.base (CXE X.prog X.w) k f fd ps sp)(hr:Room k X.A)(hb:Binds X.K fd ps [])(hx:jx X E)
  (I:Inv X pins σ H s) (r:Vals vs us) (h:sp vs H Q (E σ)):wpAny (model X.prog X.w) X.A (call (.ref f) us) (EP X pins σ Q) X.xe s:=by
 have hl:(us++[]).length=ps.length:=by rw [bQ,←r.length];exact F.len _ _ _ _ h
 have hb':=hb s us I.kIn hl
 rw [bQ] at hb'
 refine wpAny_call (eO (F.run X.A X.stack s H ⟨us,[]⟩ us vs Q (E σ) hr I.env0 hb' r h) λr s' hq=>?_)
 cases r with
 |error e=>exact hx pins σ H s e s' I hq
 |ok fl =>
  cases fl with
  |ret u=>exact I.after hq
  |next=>exact False.elim hq
  |brk=>exact False.elim hq
  |cont=>exact False.elim hq
theorem wuh (F:FnOk X.prog X.w X.K X.mg X.base (CXE X.prog X.w) k f fd ps sp)(hr:Room k X.A)(hg:Gl X x)(hm:X.mg x=some (.ref f))(hk:PySem.W.keepIn X.K (.ref f)=true)(hb:Binds X.K fd ps [])(hx:jx X E)
  (ha:PA X (e::es) t) (hdb:(x==("__debug__" : Str))=false:=by decide) (he:starEach (e::es) X.env=(false,eval e X.env)::starEach es X.env:=by rfl) (hpl:(backTo pos (starEach es X.env)).any (·.1)=false:=by rfl) :
  PE X (.Call (.Name x p) (e::es) [] pos) (qwv sp E t):=by
 intro pins s σ H Q I h
 refine cV (ux I hg hm ?_ hdb)
 refine gC (h₀:=X.base) I.ok.mod.kin hk (thn (ha pos pins s σ H _ I h) λus s1 ⟨vs,H1,I1,r,q⟩=>⟨I1.kIn,?_⟩) he hpl
 exact qk0 F hr hb hx I1 r q
theorem wy7 {pl:Sem Bool}(he:PE X o ta)(c:Cls X.K C)(hm:Meth X.K C m f)(F:FnOk X.prog X.w X.K X.mg X.base (CXE X.prog X.w) k f fd ps sp)(hr:Room k X.A)(hb:Binds X.K fd ps [])(hx:jx X E)(ha:PA X (e::es) t)
  (hst:starEach (e::es) X.env=(false,eval e X.env)::starEach es X.env:=by rfl) (hpl:(backTo pos (starEach es X.env)).any (·.1)=false:=by rfl)
  (ht:eval (.Call (.Attribute o m apos) (e::es) [] pos) X.env=(do
   let ov ←eval o X.env
   standAt apos.atName
   let (f,first) ←holding [ov] (getMethod ov m pl)
   callWith pos f first (backTo pos (starEach (e::es) X.env)) (backToKw pos (keywordEach [] X.env))):=by rfl) :
  PE X (.Call (.Attribute o m apos) (e::es) [] pos) (qq4 C m sp E ta t):=by
 intro pins s σ H Q I h
 refine PySem.W.methodCall_KW (pl:=pl) (thn (he pins s σ H _ I h) λu s1 ⟨x,H1,I1,rx,a,dx,fs,ex,ea,l,q⟩=>?_) ht
 subst ex
 obtain rfl:u=Value.ref a:=rx
 refine qwt I1 ea c hm l ?_
 refine gC (first:=[.ref a]) (h₀:=X.base) I.ok.mod.kin hm.kp (thn (ha pos pins s1 σ H1 _ I1 q) λus s2 ⟨vs,H2,I2,r,q2⟩=>⟨I2.kIn,?_⟩) hst hpl
 exact qk0 (us:=.ref a::us) (vs:=.ref a::vs) F hr hb hx I2 (.cons rfl r) q2
theorem wvs {pl:Sem Bool}(he:PE X o ta)(c:Cls X.K C)(hm:Meth X.K C m f)(F:FnOk X.prog X.w X.K X.mg X.base (CXE X.prog X.w) k f fd ps sp)(hr:Room k X.A)(hb:Binds X.K fd ps [])(hx:jx X E)
  (ht:eval (.Call (.Attribute o m apos) [] [] pos) X.env=(do
   let ov ←eval o X.env
   standAt apos.atName
   let (f,first) ←holding [ov] (getMethod ov m pl)
   callWith pos f first (backTo pos (starEach [] X.env)) (backToKw pos (keywordEach [] X.env))):=by rfl) :
  PE X (.Call (.Attribute o m apos) [] [] pos) (qq4 C m sp E ta qq0):=by
 intro pins s σ H Q I h
 refine PySem.W.methodCall_KW (pl:=pl) (thn (he pins s σ H _ I h) λu s1 ⟨x,H1,I1,rx,a,dx,fs,ex,ea,l,q⟩=>?_) ht
 subst ex
 obtain rfl:u=Value.ref a:=rx
 refine qwt I1 ea c hm l ?_
 exact PySem.W.callWith_K0 (first:=[.ref a]) I1.kIn hm.kp (qk0 (us:=[.ref a]) (vs:=[.ref a]) F hr hb hx I1 (.cons rfl .nil) q)
theorem wzy {pins:List (Aj×Obj)}{σ:St}{H:Hp}{s:Ab}{Q:VK}{us:List Ag}{vs:List V}(M:Mk X.K C f)(F:FnOk X.prog X.w X.K X.mg X.base (CXE X.prog X.w) k f fd ps sp)(hr:Room (k+1) X.A)(hb:Binds X.K fd ps [])
  (hx:jx X E) (I:Inv X pins σ H s) (r:Vals vs us)
  (h:∀x dx,H x=none→H dx=none→dx≠x→sp (.ref x::vs) (upd (upd H dx (.own x)) x (.ins C dx [])) (λv H2=>v=.non∧Q (.ref x) H2) (E σ)) :
  wpAny (model X.prog X.w) X.A (call (.ref C) us) (EP X pins σ Q) X.xe s:=by
 have hq:=h (s.heap.objs.size+1) s.heap.objs.size (I.hok.fresh (iM _)) (I.hok.fresh (aj _)) (aB (dQ _))
 have I2:=Inv.made (C:=C) I
 have r2:Vals (V.ref (s.heap.objs.size+1)::vs) (Value.ref (s.heap.objs.size+1)::us):=.cons rfl r
 have hl:((Value.ref (s.heap.objs.size+1)::us)++[]).length=ps.length:=by
  rw [bQ,←r2.length]
  exact F.len _ _ _ _ hq
 have hb':=hb _ (Value.ref (s.heap.objs.size+1)::us) I2.kIn hl
 rw [bQ] at hb'
 refine wpAny_call (wkr (f:=f) I.kIn M.makes M.init (fj.mp M.fn) (eO (F.run _ X.stack _ _ ⟨Value.ref (s.heap.objs.size+1)::us,[]⟩ (Value.ref (s.heap.objs.size+1)::us) _ _ (E σ) (hr.make C us [])
  (I2.env0.make C us []) hb' r2 hq) λr s' hq'=>?_))
 cases r with
 |error e=>exact hx pins σ _ _ e s' I2 hq'
 |ok fl =>
  cases fl with
  |ret u =>
   obtain ⟨v,H',I3,rv,ev,q3⟩:=I2.after hq'
   subst ev
   exact ⟨rv,⟨V.ref (s.heap.objs.size+1),H',I3,rfl,q3⟩⟩
  |next=>exact False.elim hq'
  |brk=>exact False.elim hq'
  |cont=>exact False.elim hq'
theorem wkf (M:Mk X.K C f)(F:FnOk X.prog X.w X.K X.mg X.base (CXE X.prog X.w) k f fd ps sp)(hr:Room (k+1) X.A)(hg:Gl X x)(hm:X.mg x=some (.ref C))(hb:Binds X.K fd ps [])(hx:jx X E)
  (ha:PA X (e::es) t) (hdb:(x==("__debug__" : Str))=false:=by decide) (he:starEach (e::es) X.env=(false,eval e X.env)::starEach es X.env:=by rfl) (hpl:(backTo pos (starEach es X.env)).any (·.1)=false:=by rfl) :
  PE X (.Call (.Name x p) (e::es) [] pos) (wkt C sp E t):=by
 intro pins s σ H Q I h
 refine cV (ux I hg hm ?_ hdb)
 refine gC (h₀:=X.base) I.ok.mod.kin M.kp (thn (ha pos pins s σ H _ I h) λus s1 ⟨vs,H1,I1,r,q⟩=>⟨I1.kIn,?_⟩) he hpl
 exact wzy M F hr hb hx I1 r q
end
structure ExcC (K:Aa)(C:Aj):Prop where
 q:PySem.W.excIn K C [.type "ValueError",.type "Exception",.type "BaseException",.type "object"] "ValueError.__new__" = true
def tRaise (C:Aj)(E:St→XK)(t:TA):TS:=λD σ H=>t σ H λvs H1=>vs.length≤sizeLine∧E σ (.ref C) none H1
section
variable {X:Cx}{C:Aj}{E:St→XK}{x:Str}{np cpos pos:Pos}{e:Expr}{es:List Expr}{t:TA}
theorem jf (hc:X.calm=true)(c:ExcC X.K C)(hR:wu2 X E)(hg:Gl X x)(hm:X.mg x=some (.ref C))(ha:PA X (e::es) t)(hdb:(x==("__debug__" : Str))=false:=by decide)
  (he:starEach (e::es) X.env=(false,eval e X.env)::starEach es X.env:=by rfl) (hpl:(backTo cpos (starEach es X.env)).any (·.1)=false:=by rfl) :
  PS X (.Raise (some (.Call (.Name x np) (e::es) [] cpos)) none pos) (tRaise C E t):=by
 intro pins s σ H D I h
 obtain ⟨tl,N,a1,a2,a3,a4,a5,a6,a7,a8,a9,b0,b1,b2,b3,b5,mN,hC,hN,hni,T⟩:=wxp I.ok.mod.kin c.q
 refine wpAny_Raise_call_subT (C:=C) (nm:=a1) (q:=a2) (N:=N) (bs:=a3) (bm:=tl) (hdct:=a4) (sn:=a5) (sub:=a6) (ab:=a7) (col:=a8) (dd:=a9) (k0:=b0) (k1:=b1) (k2:=b2) (k3:=b3) (k5:=b5)
  eM (mN:=mN) (T.hasType eM.hasBase) (I.ok.hd hc) (by rw [he];show (false||(backTo cpos (starEach es X.env)).any (·.1))=false;rw [hpl];rfl) hni (ux I hg hm ⟨rfl,?_⟩ hdb)
 have hw:=ha cpos pins s σ H _ I h
 rw [he] at hw ⊢
 refine Calls.evalArgs_plain (aL hw (λus s1 ⟨vs,H1,I1,r,hl,q⟩=>⟨rfl,by rw [←r.length];exact hl,I1.bk _ _ hC,hN.keeps I1.bk,T.keeps I1.bk,λh' e hx=>hR pins σ H1 s1 h' e C us I1 hx q⟩) λ_ _ z=>z)
end
abbrev Cx.handling (X:Cx)(e:Aj):Cx:={ X with A:=X.A.mark (some (.ref e)),calm:=false,xe:=λ_ _=>False }
abbrev Cx.trying (X:Cx)(pn:List (Aj×Obj))(xe:Ag→Ab→Prop):Cx:={ X with pn:=pn,xe:=xe }
section
variable {X:Cx}{pins:List (Aj×Obj)}{σ:St}{H H':Hp}{s s':Ab}{e:Aj}
theorem Cx.Ok.handling (o:X.Ok)(e:Aj):(X.handling e).Ok :=
 ⟨o.mod,o.kind,o.glob,o.blt,o.above,o.inj,o.has,o.cab,λz=>(aE z).elim,o.frames,o.stk,o.exf,o.bs,o.bsz,o.noex,o.exfs,o.funs,o.frf⟩
theorem Cx.Ok.trying (o:X.Ok)(pn:List (Aj×Obj))(xe:Ag→Ab→Prop):(X.trying pn xe).Ok :=
 ⟨o.mod,o.kind,o.glob,o.blt,o.above,o.inj,o.has,o.cab,o.hd,o.frames,o.stk,o.exf,o.bs,o.bsz,o.noex,o.exfs,o.funs,o.frf⟩
theorem Inv.handling (I:Inv X pins σ H s)(e:Aj):Inv (X.handling e) pins σ H s:=⟨I.ok.handling e,I.os,I.bare,I.base,I.loc,I.cell,I.free,I.freeC,I.pin,I.hok,I.len⟩
theorem Inv.unhandling (o:X.Ok)(I:Inv (X.handling e) pins σ H s):Inv X pins σ H s:=⟨o,I.os,I.bare,I.base,I.loc,I.cell,I.free,I.freeC,I.pin,I.hok,I.len⟩
theorem Inv.trying (I:Inv X pins σ H s)(xe:Ag→Ab→Prop):Inv (X.trying (X.pn++pins) xe) [] σ H s :=
 ⟨I.ok.trying _ _,I.os,I.bare,I.base,I.loc,I.cell,I.free,I.freeC,λp hp=>I.pin p ((aU.mp hp).elim (λz=>z) λz=>nomatch z),I.hok,I.len⟩
theorem Inv.untrying {pins':List (Aj×Obj)}{xe:Ag→Ab→Prop}(o:X.Ok)(I:Inv (X.trying (X.pn++pins) xe) pins' σ H s):Inv X pins σ H s :=
 ⟨o,I.os,I.bare,I.base,I.loc,I.cell,I.free,I.freeC,λp hp=>I.pin p (bW _ hp),I.hok,I.len⟩
theorem SP.untrying {pins':List (Aj×Obj)}{xe:Ag→Ab→Prop}{D:Ends}{f:Flow}(o:X.Ok)(h:SP (X.trying (X.pn++pins) xe) pins' D f s'):SP X pins D f s':=by
 cases f with
 |next=>obtain ⟨a,b,c,d⟩:=h;exact ⟨a,b,c.untrying o,d⟩
 |brk=>obtain ⟨a,b,c,d⟩:=h;exact ⟨a,b,c.untrying o,d⟩
 |cont=>obtain ⟨a,b,c,d⟩:=h;exact ⟨a,b,c.untrying o,d⟩
 |ret u=>obtain ⟨v,a,b,c,d⟩:=h;exact ⟨v,a,b,c.untrying o,d⟩
theorem SP.unhandling {D:Ends}{f:Flow}(o:X.Ok)(h:SP (X.handling e) pins D f s'):SP X pins D f s':=by
 cases f with
 |next=>obtain ⟨a,b,c,d⟩:=h;exact ⟨a,b,c.unhandling o,d⟩
 |brk=>obtain ⟨a,b,c,d⟩:=h;exact ⟨a,b,c.unhandling o,d⟩
 |cont=>obtain ⟨a,b,c,d⟩:=h;exact ⟨a,b,c.unhandling o,d⟩
 |ret u=>obtain ⟨v,a,b,c,d⟩:=h;exact ⟨v,a,b,c.unhandling o,d⟩
def qq1 (K:Aa)(C D:Aj):Prop:=∀ {M:Model} {A:Ae} {E:Ag→Ab→Prop} {h:Heap} {g:Array GenState} {d:Drawn} {t:Nat} {os:OsState} {e:Aj} {oe:Obj} {Q:Bool→Ab→Prop},
 K.In h→h.get? e=some oe→oe.cls=.ref C→Q true ⟨h,g,d,t,os⟩→wpAny M A (excMatches (.ref e) (.ref D)) Q E ⟨h,g,d,t,os⟩
theorem qu4 {K:Aa}{C:Aj}(c:ExcC K C):qq1 K C C:=by
 intro M A E h g d t os e oe Q X he hc q
 obtain ⟨tl,N,a1,a2,a3,a4,a5,a6,a7,a8,a9,b0,b1,b2,b3,b5,mN,hC,hN,hni,T⟩:=wxp X c.q
 exact wpAny_excMatches_sub_self hC he hc (T.hasType eM.hasBase) q
end
section
variable {X:Cx}{x:Str}{D0:Aj}{np hpos pos:Pos}{b₀:Stmt}{body suite:List Stmt}{tb:(St→XK)→TS}{th:TS}
end
def Sm (n:Nat)(i:Int):Prop:=i.natAbs<2 ^ n
theorem Sm.bits {n:Nat}{i:Int}(h:Sm n i):Builtin.Int.intBits i≤n:=PyProof.Rows.intBits_le h
theorem Sm.mono {n m:Nat}{i:Int}(h:Sm n i)(hm:n≤m):Sm m i:=aI h (cX (by decide) hm)
theorem Sm.mul {n m:Nat}{i j:Int}(h:Sm n i)(h':Sm m j):Sm (n+m) (i*j):=by
 unfold Sm at *
 rw [fE,Nat.pow_add]
 exact Nat.mul_lt_mul_of_lt_of_le h (bf h') (iC m)
theorem Sm.of_le {n:Nat}{i j:Int}(h:Sm n j)(e:i.natAbs≤j.natAbs):Sm n i:=d6 e h
theorem Sm.ok {n m:Nat}{i j:Int}(h:Sm n i)(h':Sm m j)(e:n+m≤134217728):IntMulOk i j:=IntMulOk.of_le h.bits h'.bits e
theorem Sm.log {n:Nat}{i:Int}(h:Sm n i)(hn:n≤9000):i.natAbs.log2<9000:=by
 by_cases h0:i.natAbs=0
 ·rw [h0]
  decide
 ·exact aI ((Nat.log2_lt h0).mpr h) hn
theorem Sm.noPl {n:Nat}{i j:Int}(h:Sm n j)(hn:n≤9000):Builtin.divisionGoesByPylong i j=false:=PyProof.noPylong_of_log2 (h.log hn)
section
variable {X:Cx}
theorem xy:OpR X (binaryOp .Mult) (rI IntMulOk λi j=>.int (i*j)):=opI λ_ _ _ _ _ _ _ hc q=>mul_int q hc
theorem yt:OpR X (binaryOp .FloorDiv) (rI (λ_ j=>0<j∧Sm 9000 j) λi j=>.int (i/j)):=opI λi j _ _ _ _ _ hc q =>
 floordiv_int (by lia) (by rw [Int.fdiv_eq_ediv_of_nonneg i (fF hc.1)];exact q) (.inl (hc.2.noPl (aj _)))
end
mutual
def RD (K:Aa)(H:Hp):PyData→V→Prop
 |.none,v=>v=.non
 |.bool b,v=>v=.bl b
 |.int i,v=>v=.int i
 |.str x,v=>v=.str x
 |.list ds,v=>∃a xs,v=.ref a∧SqL K H a xs∧RDs K H ds xs
 |.tuple ds,v=>∃a xs,v=.ref a∧SqT K H a xs∧RDs K H ds xs
 |.dict _,_=>False
def RDs (K:Aa)(H:Hp):List PyData→List V→Prop
 |[],xs=>xs=[]
 |d::ds,xs=>∃y ys,xs=y::ys∧RD K H d y∧RDs K H ds ys
end
section
variable {X:Cx}{pins:List (Aj×Obj)}{σ:St}{H:Hp}{s:Ab}
mutual
theorem qqn (I:Inv X pins σ H s):∀(d:PyData) (v:V) (u:Ag),RD X.K H d v→RelV v u→∃as,Reads s.heap u d as
 |.none,v,u,h,r=>by
  rw [RD] at h;subst h
  cases (show u=Value.none from r)
  exact ⟨_,.none⟩
 |.bool b,v,u,h,r=>by
  rw [RD] at h;subst h
  cases (show u=Value.bool b from r)
  exact ⟨_,.bool b⟩
 |.int i,v,u,h,r=>by
  rw [RD] at h;subst h
  obtain ⟨t,rfl⟩:=(show ∃t,u=Value.int i t from r)
  exact ⟨_,.int i t⟩
 |.str x,v,u,h,r=>by
  rw [RD] at h;subst h
  obtain ⟨t,rfl⟩:=(show ∃t,u=Value.str x t from r)
  exact ⟨_,.str x t⟩
 |.list ds,v,u,h,r=>by
  rw [RD] at h
  obtain ⟨a,xs,rfl,hs,hd⟩:=h
  cases (show u=Value.ref a from r)
  obtain ⟨its,rv,⟨o,n,e1,e2,_,e3⟩,_⟩:=I.list hs
  obtain ⟨as,ha⟩:=Z5 I ds xs its hd rv
  exact ⟨_,.list e1 e2 e3 (by simpa using ha)⟩
 |.tuple ds,v,u,h,r=>by
  rw [RD] at h
  obtain ⟨a,xs,rfl,hs,hd⟩:=h
  cases (show u=Value.ref a from r)
  obtain ⟨its,rv,⟨o,e1,e2,n,e3⟩,_⟩:=I.tuple hs
  obtain ⟨as,ha⟩:=Z5 I ds xs its hd rv
  exact ⟨_,.tuple e1 e2 e3 (by simpa using ha)⟩
 |.dict _,_,_,h,_=>by
  rw [RD] at h
  exact h.elim
theorem Z5 (I:Inv X pins σ H s):∀(ds:List PyData) (vs:List V) (us:List Ag),RDs X.K H ds vs→Vals vs us→∃as,ReadsAll s.heap us ds as
 |[],vs,us,h,r=>by
  rw [RDs] at h;subst h
  cases r
  exact ⟨_,.nil⟩
 |d::ds,vs,us,h,r=>by
  rw [RDs] at h
  obtain ⟨y,ys,rfl,h1,h2⟩:=h
  cases r with
  |cons r1 r2 =>
   obtain ⟨as,a1⟩:=qqn I d y _ h1 r1
   obtain ⟨bs,a2⟩:=Z5 I ds ys _ h2 r2
   exact ⟨_,.cons a1 a2⟩
end
def rEqD (K:Aa)(neg:Bool):R2:=λx y H Q=>∃d e,RD K H d x∧RD K H e y∧d.canLay0=true∧e.canLay0=true∧min d.depth e.depth≤60∧Q (.bl (if neg then !PyData.eqv d e else PyData.eqv d e)) H
theorem op_eqD (hu:X.A.units+64<cLine):OpR X (compareOp .Eq) (rEqD X.K false):=by
 intro pins s σ H x y v u Q I rx ry h
 obtain ⟨d,e,h1,h2,c1,c2,dp,q⟩:=h
 obtain ⟨as,a1⟩:=qqn I d x v h1 rx
 obtain ⟨bs,a2⟩:=qqn I e y u h2 ry
 exact PySem.SeqAt.compareEq_reads a1 a2 c1 c2 (by lia) ⟨.bl _,H,I,rfl,q⟩
end
def ptD (p:Int×Int):PyData:=.tuple [.int p.1,.int p.2]
theorem qj7:∀(xs ys:List Int),PyData.eqvAll (xs.map .int) (ys.map .int)=decide (xs=ys)
 |[],[]=>rfl
 |[],_::_=>rfl
 |_::_,[]=>rfl
 |x::xs,y::ys=>by
  rw [aN,aN,PyData.eqvAll,qj7 xs ys,PyData.eqv]
  by_cases h:x=y
  ·subst h;simp
  ·simp [h]
theorem eqv_pt (p q:Int×Int):PyData.eqv (ptD p) (ptD q)=decide (p=q):=by
 obtain ⟨a,b⟩:=p
 obtain ⟨c,d⟩:=q
 unfold ptD
 rw [PyData.eqv]
 have:=qj7 [a,b] [c,d]
 rw [aN,aN,dJ,aN,aN,dJ] at this
 rw [this]
 simp
end L2
namespace L2
open PySem PySem.Spec PyProof.Rows
section
variable {P:Ac}{w:Ah}{K:Aa}{mg:Str→Option Ag}{base:Heap}
theorem Fun.okX {x qual:Str}{st:Stmt}{f:Aj}{fd:Ad}{N ps:List Str}{k:Nat}{sp:Sp}(F:Fun K x qual st f fd)(S:FnScope N ps (qt st))(len:∀vs H Q E,sp vs H Q E→vs.length=ps.length)
  (body:∀(cdv:Ag) (A:Ae) (outer:List Env) (s:Ab) (H:Hp) (vs:List V) (Q:VK) (E:XK),Room k (A.deeper (envOfC qual (qt st) s.heap.objs.size f cdv))→sp vs H Q E →
   ∃t,PSs (qwx (CXE P w) P w K mg base N qual (qt st) f cdv A outer s H E) (zm st) t∧t { nx:=λ_ H'=>Q .non H',rt:=Q } (Wj N vs) H):FnOk P w K mg base (CXE P w) (k+1) f fd ps sp:=by
 obtain ⟨oc,od,kV,doc,pm,an,cdv,ct,osl,rfl,lk,hcd⟩:=F.ex
 exact wy4 lk hcd S len λA outer s H vs Q E hr hsp=>body cdv A outer s H vs Q E hr hsp
structure DefIn (K:Aa)(x:Str)(st:Stmt):Prop where
 ex:∃f fd,PySem.W.nsIn K mainGlobals x=some (some (.ref f))∧Fun K x x st f fd
theorem def_mk {x:Str}{st:Stmt}{f:Aj}{oc:Ag}{od an:Option Aj}{osl:Array (Option Ag)}{kV doc pm cdv ct:Ag}(a:PySem.W.nsIn K mainGlobals x=some (some (.ref f)))
  (l:K.lookup f=some ⟨oc,od,.func (PySem.W.fnOf x x (vm st) (zm st) (qt st) .none kV doc pm an cdv ct),osl⟩) (c:PySem.W.codeIn K cdv x=true) (k:PySem.W.keepIn K (.ref f)=true):DefIn K x st:=⟨_,_,a,wwf l c k⟩
def xh (x:Str)(st:Stmt)(ps:List Str):Prop:=∀(kV doc pm:Ag) (an:Option Aj) (cdv ct:Ag) (us:List Ag),us.length=ps.length→bindArgs (PySem.W.fnOf x x (vm st) (zm st) (qt st) .none kV doc pm an cdv ct) ⟨us,[]⟩=pure (ps.zip us)
structure Cal (P:Ac)(w:Ah)(K:Aa)(mg:Str→Option Ag)(base:Heap)(x:Str)(k:Nat)(sp:Sp):Prop where
 ex:∃f fd ps,mg x=some (.ref f)∧FnOk P w K mg base (CXE P w) k f fd ps sp∧PySem.W.keepIn K (.ref f)=true∧Binds K fd ps []
theorem DefIn.cal {x:Str}{st:Stmt}{ps:List Str}{k:Nat}{sp:Sp}{h:Heap}(d:DefIn K x st)(KX:K.In h)(G:h.Ns mainGlobals mg)(b:xh x st ps)(ok:∀f fd,Fun K x x st f fd→FnOk P w K mg base (CXE P w) k f fd ps sp):Cal P w K mg base x k sp:=by
 obtain ⟨f,fd,a,F⟩:=d.ex
 exact ⟨f,fd,ps,bI KX G a,ok f fd F,F.kp,F.binds b⟩
end
section
variable {X:Cx}{x:Str}{k:Nat}{sp:Sp}{E:St→XK}{p pos:Pos}{e:Expr}{es:List Expr}{t:TA}
theorem W6 (c:Cal X.prog X.w X.K X.mg X.base x k sp)(hr:Room k X.A)(hg:Gl X x)(hx:jx X E)
  (ha:PA X (e::es) t) (hdb:(x==("__debug__" : Str))=false:=by decide) (he:starEach (e::es) X.env=(false,eval e X.env)::starEach es X.env:=by rfl) (hpl:(backTo pos (starEach es X.env)).any (·.1)=false:=by rfl) :
  PE X (.Call (.Name x p) (e::es) [] pos) (qwv sp E t):=by
 obtain ⟨f,fd,ps,hm,F,kp,b⟩:=c.ex
 exact wuh F hr hg hm kp b hx ha hdb he hpl
end
def tCut (t u:TS):TS:=λD σ H=>∃R:St→Hp→Prop,t { D with nx:=R } σ H∧∀σ' H',R σ' H'→u D σ' H'
theorem Jr {X:Cx}{st:Stmt}{rest:List Stmt}{t u:TS}(h1:PS X st t)(h2:PSs X rest u):PSs X (st::rest) (tCut t u):=by
 intro pins s σ H D I ⟨R,h,hR⟩
 refine ie (thn (h1 pins s σ H { D with nx:=R } I h) λf s1 q=>?_)
 cases f with
 |next =>
  obtain ⟨σ1,H1,I1,q1⟩:=q
  exact h2 pins s1 σ1 H1 D I1 (hR σ1 H1 q1)
 |brk=>exact q
 |cont=>exact q
 |ret u=>exact q
theorem jz {c A B:Prop}[Decidable c](h1:c→A)(h2:¬ c→B):if decide c=true then A else B:=by
 by_cases h:c
 ·rw [aT h]
  exact Z9 (h1 h)
 ·rw [bp h]
  exact qw4 (h2 h)
theorem deqI {i j:Int}:decide (V.int i=V.int j)=decide (i=j):=by
 by_cases h:i=j
 ·subst h;simp
 ·simp [h]
theorem z9 {i j:Int}{A B:Prop}(h1:i=j→A)(h2:i≠j→B):if decide (V.int i=V.int j)=true then A else B:=by
 rw [deqI]
 exact jz h1 h2
theorem Same.upd {H:Hp}{p:Aj}{o:HO}(n:H p=none):Same H (upd H p o):=λb u e=>by
 rw [qr (q8 e n)]
 exact e
theorem Same.rd {H H':Hp}{a:Aj}{o:HO}(h:Same H H')(r:Rd H a o):Rd H' a o:=by
 rcases r with r|⟨u,r⟩
 ·exact .inl (h a _ r)
 ·exact .inr ⟨u,h a _ r⟩
theorem Same.sqt {K:Aa}{H H':Hp}{a:Aj}{xs:List V}(h:Same H H')(s:SqT K H a xs):SqT K H' a xs:=by
 rcases s with s|s
 ·exact .inl (h.rd s)
 ·exact .inr s
theorem Same.sql {K:Aa}{H H':Hp}{a:Aj}{xs:List V}(h:Same H H')(s:SqL K H a xs):SqL K H' a xs:=h.seq s
theorem SqT.new {K:Aa}{H:Hp}{p:Aj}{xs:List V}:SqT K (upd H p (.tup xs)) p xs:=SqT.of qb
theorem SqL.new {K:Aa}{H:Hp}{p:Aj}{xs:List V}:SqL K (upd H p (.lst xs)) p xs:=SqL.of qb
theorem qqk:bootBuiltins "abs" = some (.builtin "abs"):=by decide +kernel
theorem qqq {ns:List Int}{i:Int}(h0:0≤i)(h1:i<ns.length):atI (ns.map V.int) i=some (V.int (ns.getD i.toNat 0)):=by
 have hl:i.toNat<ns.length:=by lia
 have e:(ns.map V.int)[i.toNat]?=some (V.int (ns.getD i.toNat 0)):=by
  rw [ax,af,ae hl]
  rfl
 have:=v6 e
 rwa [b9 h0] at this
def qj8 (ns:List Int)(i:Int):Int:=if i<ns.length then ns.getD i.toNat 0 else if (ns.length:Int)=0 then 7*i+3 else ns.getD (i%ns.length).toNat 0+1009*i
def divs (c:Int):Nat→Int
 |0=>c
 |n+1=>divs c n/1000
def qu5 (K:Aa):Sp:=λvs H Q _=>∃(a:Aj) (ns:List Int) (i:Int),vs=[.ref a,.int i]∧SqL K H a (ns.map V.int)∧0≤i∧∀r,r=qj8 ns i→Q (.int r) H
def Qn (c:Int):Int:=if c<0 then -c else c
def qvg (c t:Int):Int:=(c%1000003*48271+t*7919+101)%999983
def qy3 (c t:Int):Int:=(qvg c t*qvg c t+c%1000003*31+t*104729)%1000033
def qy1 (c t:Int):Int:=if 10 ^ 18≤Qn c then (if c<0 then divs (Qn c) t.toNat%1000 else divs (Qn c) t.toNat) else (qy3 c t*qy3 c t+qvg c t*17+t*30011)%999979
def qjw (ns:List Int)(i t m:Int):Int:=qy1 (qj8 ns i) t%m
theorem wyn (ns:List Int)(i t m:Int)(h:0<m):0≤qjw ns i t m:=bR _ (by lia)
theorem wuc (ns:List Int)(i t m:Int)(h:0<m):qjw ns i t m<m:=bA _ h
theorem wjn {c t:Int}(h:10 ^ 18≤Qn c)(n:c<0):qy1 c t=divs (Qn c) t.toNat%1000:=by rw [qy1,av h,av n]
theorem wvn {c t:Int}(h:10 ^ 18≤Qn c)(n:¬ c<0):qy1 c t=divs (Qn c) t.toNat:=by rw [qy1,av h,ao n]
theorem wk7 {c t:Int}(h:¬ 10 ^ 18≤Qn c):qy1 c t=(qy3 c t*qy3 c t+qvg c t*17+t*30011)%999979:=by rw [qy1,ao h]
def Wm (K:Aa):Sp:=λvs H Q _=>∃(a:Aj) (ns:List Int) (i t m:Int),vs=[.ref a,.int i,.int t,.int m]∧SqL K H a (ns.map V.int)∧0≤i∧0≤t∧t<1000000∧0<m ∧
 ∀r,r=qjw ns i t m→0≤r→r<m→Q (.int r) H
theorem Sm.small {n:Nat}{i:Int}(h1:-(2 ^ 64)≤i)(h2:i≤2 ^ 64)(hn:65≤n):Sm n i:=by
 refine Sm.mono (n:=65) ?_ hn
 unfold Sm
 lia
theorem sz1 {x:V}:[x].length≤sizeLine:=by show 1≤sizeLine;decide
theorem sz2 {x y:V}:[x,y].length≤sizeLine:=by show 2≤sizeLine;decide
theorem sz0:([]:List V).length≤sizeLine:=by show 0≤sizeLine;decide
end L2
namespace L2
open PySem
def Jv (x y:Int):Int:=((Nat.gcd x.toNat y.toNat:Nat):Int)
theorem wvr {x:Int}(h:0≤x):Jv x 0=x:=by
 unfold Jv
 have:(0:Int).toNat=0:=rfl
 rw [this,Nat.gcd_zero_right]
 lia
theorem wv0 {x y:Int}(hx:0≤x)(hy:0<y):Jv y (x%y)=Jv x y:=by
 unfold Jv
 have e:(x%y).toNat=x.toNat%y.toNat:=by
  have h1:x=(x.toNat:Int):=by lia
  have h2:y=(y.toNat:Int):=by lia
  have h3:x%y=((x.toNat%y.toNat:Nat):Int):=by
   conv=>lhs;rw [h1,h2]
   exact (Int.natCast_emod _ _).symm
  rw [h3]
  exact bG _
 rw [e,Nat.gcd_comm y.toNat,←Nat.gcd_rec,Nat.gcd_comm]
theorem ww9 (t:Int):Qn t=(t.natAbs:Int):=by
 unfold Qn
 split <;> lia
theorem xw4 (t:Int):0≤Qn t:=by
 rw [ww9]
 lia
theorem kj (t b:Int):Jv (Qn t) b=((Nat.gcd t.natAbs b.toNat:Nat):Int):=by
 unfold Jv
 rw [ww9,bG]
def gOf (t b:Int):Int:=Jv (Qn t) b
def wm (t b:Int):Int×Int:=(t/gOf t b,b/gOf t b)
theorem j7 {t b:Int}(h:1≤b):1≤gOf t b:=by
 unfold gOf
 rw [kj]
 have:0<Nat.gcd t.natAbs b.toNat:=Nat.gcd_pos_of_pos_right _ (by lia)
 lia
theorem gOf_le {t b:Int}(h:1≤b):gOf t b≤b:=by
 unfold gOf
 rw [kj]
 have:Nat.gcd t.natAbs b.toNat≤b.toNat:=Nat.gcd_le_right _ (by lia)
 lia
theorem wvp {t b:Int}(h:1≤b):gOf t b∣b:=by
 unfold gOf
 rw [kj]
 have h1:((Nat.gcd t.natAbs b.toNat:Nat):Int)∣(b.toNat:Int):=ii.mpr (Nat.gcd_dvd_right _ _)
 have h2:(b.toNat:Int)=b:=by lia
 rwa [h2] at h1
theorem wv1 {t b:Int}:gOf t b∣t:=by
 unfold gOf
 rw [kj]
 have h1:((Nat.gcd t.natAbs b.toNat:Nat):Int)∣(t.natAbs:Int):=ii.mpr (Nat.gcd_dvd_left _ _)
 exact Int.dvd_natAbs.mp h1
theorem qzx {t b:Int}:gOf t b*(t/gOf t b)=t:=fS wv1
theorem Jw {t b:Int}(h:1≤b):gOf t b*(b/gOf t b)=b:=fS (wvp h)
theorem jc {t b:Int}(h:1≤b):(wm t b).1*b=t*(wm t b).2:=by
 unfold wm
 dsimp only
 have h1:=qzx (t:=t) (b:=b)
 have h2:=Jw (t:=t) (b:=b) h
 conv=>lhs;rw [←h2]
 conv=>rhs;rw [←h1]
 rw [h1,h2]
 have e1:t/gOf t b*b=t/gOf t b*(gOf t b*(b/gOf t b)):=by rw [h2]
 have e2:t*(b/gOf t b)=gOf t b*(t/gOf t b)*(b/gOf t b):=by rw [h1]
 rw [e1,e2,←iY,eQ (t/gOf t b)]
theorem jq {t b:Int}(h:1≤b):1≤(wm t b).2:=by
 show 1≤b/gOf t b
 have h2:=Jw (t:=t) (b:=b) h
 have h3:=j7 (t:=t) h
 have:0<b/gOf t b:=by
  rcases cP 0 (b/gOf t b) with z|z
  ·exact z
  ·have:=aZ z (show 0≤gOf t b by lia)
   rw [h2,Int.mul_zero] at this
   lia
 lia
theorem Ws {t b:Int}(h:1≤b):(wm t b).2≤b:=Int.ediv_le_self _ (by lia)
theorem qur {t b:Int}(h:1≤b):gOf (wm t b).1 (wm t b).2=1:=by
 have h3:=j7 (t:=t) h
 have hb:=jq (t:=t) h
 obtain ⟨g,hg⟩:∃g:Nat,gOf t b=(g:Int):=⟨_,by unfold gOf;exact kj t b⟩
 have g1:0<g:=by lia
 have hgg:g=Nat.gcd t.natAbs b.toNat:=by
  have:(g:Int)=((Nat.gcd t.natAbs b.toNat:Nat):Int):=by rw [←hg];unfold gOf;exact kj t b
  lia
 have et:g*(wm t b).1.natAbs=t.natAbs:=by
  have:=qzx (t:=t) (b:=b)
  have e:=cz Int.natAbs this
  rw [fE,hg] at e
  simpa [wm,hg] using e
 have eb:g*(wm t b).2.toNat=b.toNat:=by
  have:=Jw (t:=t) (b:=b) h
  rw [hg] at this
  have q:(wm t b).2=b/(g:Int):=by unfold wm;rw [hg]
  have q2:b/(g:Int)=((b/(g:Int)).toNat:Int):=by rw [←q];lia
  rw [q]
  rw [q2] at this
  have:((g*(b/(g:Int)).toNat:Nat):Int)=b:=by rw [iD];exact this
  lia
 unfold gOf
 rw [kj]
 have key:g*Nat.gcd (wm t b).1.natAbs (wm t b).2.toNat=g*1:=by
  rw [←Nat.gcd_mul_left,et,eb,←hgg,Nat.mul_one]
 have:=Nat.eq_of_mul_eq_mul_left g1 key
 rw [this]
 rfl
theorem xqc {t b c:Int}(h:1≤b)(hc:1≤c):gOf (t*c) (b*c)=gOf t b*c:=by
 unfold gOf
 rw [kj,kj]
 have e1:(t*c).natAbs=t.natAbs*c.toNat:=by
  rw [fE]
  have:c.natAbs=c.toNat:=by lia
  rw [this]
 have e2:(b*c).toNat=b.toNat*c.toNat:=by
  have hb:b=(b.toNat:Int):=by lia
  have hc':c=(c.toNat:Int):=by lia
  have:b*c=((b.toNat*c.toNat:Nat):Int):=by
   rw [iD,←hb,←hc']
  lia
 rw [e1,e2,Nat.gcd_mul_right,iD]
 have:(c.toNat:Int)=c:=by lia
 rw [this]
theorem Jp {t b c:Int}(h:1≤b)(hc:1≤c):wm (t*c) (b*c)=wm t b:=by
 unfold wm
 rw [xqc h hc]
 have hg:=j7 (t:=t) h
 rw [eo _ _ (show 0<c by lia),eo _ _ (show 0<c by lia)]
end L2
namespace L2
open PySem PySem.Spec PyProof.Rows
def CapAll (env:Env):List (Str×Aj)→Prop
 |[]=>True
 |(y,c)::r=>env.cells.lookup y=some c∧CapAll env r
theorem CapAll.look {env:Env}:∀ {cl:List (Str×Aj)},CapAll env cl→∀ {y:Str} {c:Aj},cl.lookup y=some c→env.cells.lookup y=some c
 |[],_,_,_,e=>by cases e
 |(z,d)::r,h,y,c,e=>by
  rw [bo] at e
  cases hb:y==z with
  |true =>
   rw [hb] at e
   rw [eq_of_beq hb]
   exact h.1.trans e
  |false =>
   rw [hb] at e
   exact CapAll.look h.2 e
def HasAll (cl:List (Str×Aj)):List (Str×NameKind)→Prop
 |[]=>True
 |(n,k)::r=>(k=.free→∃c,cl.lookup n=some c)∧k≠.cell∧HasAll cl r
theorem HasAll.nocell {cl:List (Str×Aj)}:∀ {ns:List (Str×NameKind)},HasAll cl ns→∀y∈ns,y.2≠.cell
 |(n,k)::r,h,y,hy=>by
  rcases aM.mp hy with rfl|hy
  ·exact h.2.1
  ·exact HasAll.nocell h.2.2 y hy
theorem HasAll.has {cl:List (Str×Aj)}{env:Env}:∀ {ns:List (Str×NameKind)},HasAll cl ns→∀ {x:Str} {q:NameKind},q=.cell∨q=.free →
  (ns.map λ(n,k)=>if (k==NameKind.free&&env.scope.kind==.function&&env.kindOf n==some .cell) then (n,NameKind.cell) else (n,k)).lookup x=some q→∃c,cl.lookup x=some c
 |[],_,_,_,_,e=>by cases e
 |(n,k)::r,h,x,q,hq,e=>by
  have ih:=HasAll.has (env:=env) h.2.2 (x:=x) hq
  rw [aN] at e
  by_cases hc:(k==NameKind.free&&env.scope.kind==.function&&env.kindOf n==some .cell)=true
  ·have e':=e
   dsimp only at e'
   rw [av hc,bo] at e'
   cases hb:x==n with
   |true =>
    rw [cy,cy] at hc
    obtain ⟨c,hcc⟩:=h.1 (eq_of_beq hc.1.1)
    exact ⟨c,by rw [eq_of_beq hb];exact hcc⟩
   |false =>
    rw [hb] at e'
    exact ih e'
  ·have e':=e
   dsimp only at e'
   rw [ao hc,bo] at e'
   cases hb:x==n with
   |true =>
    rw [hb] at e'
    have ek:k=q:=aq e'
    rcases hq with rfl|rfl
    ·exact absurd ek h.2.1
    ·obtain ⟨c,hcc⟩:=h.1 ek
     exact ⟨c,by rw [eq_of_beq hb];exact hcc⟩
   |false =>
    rw [hb] at e'
    exact ih e'
def CapIx (X:Cx)(scope:Scope)(cl:List (Str×Aj)):List Nat→Prop
 |[]=>True
 |j::r=>(∃y c,X.N[j]?=some y∧X.env.scope.names.lookup y=some .cell∧(relabel scope X.env).names.lookup y=some .cell∧cl.lookup y=some c)∧CapIx X scope cl r
theorem CapIx.get {X:Cx}{scope:Scope}{cl:List (Str×Aj)}:∀ {M:List Nat},CapIx X scope cl M→∀ {k j:Nat},M[k]?=some j →
  ∃y c,X.N[j]?=some y∧X.env.scope.names.lookup y=some .cell∧(relabel scope X.env).names.lookup y=some .cell∧cl.lookup y=some c
 |[],_,k,j,e=>by cases e
 |i::r,h,0,j,e=>by
  cases e
  exact h.1
 |i::r,h,k+1,j,e=>CapIx.get h.2 (k:=k) e
def j6 (X:Cx)(x:Str)(M:List Nat):List Str:=x::M.map λj=>X.N.getD j Str.empty
def zx (M:List Nat)(σ:St)(o:Option V):St:=o::M.map λj=>(σ[j]?).join
abbrev x9 (X:Cx)(scope:Scope)(cl:List (Str×Aj))(x:Str)(M:List Nat)(C:Aj)(s2:Ab)(H2:Hp)(fp:List Aj)(pn:List (Aj×Obj)):Cx :=
 { X with N:=j6 X x M,s₀:=s2,H₀:=H2,env:=compEnvC scope cl C X.env,outer:=X.stack,ex:=fp,fn:=λ_=>false,pn:=pn,xe:=λ_ _=>False }
section
variable {X:Cx}{pins:List (Aj×Obj)}{σ:St}{H:Hp}{s2:Ab}{scope:Scope}{cl:List (Str×Aj)}{x:Str}{M:List Nat}{fp:List Aj}{C:Aj}{h1:Heap}{tk:Nat}
theorem Inv.compG {oo:HO}{xs:List Str}(I:Inv X pins σ H s2)(hc:CapAll X.env cl)(hh:HasAll cl scope.names)(hm:CapIx X scope cl M)(hk:scope.kind=.function)(hC:s2.heap.objs.size<C)
  (keep:∀b o,s2.heap.get? b=some o→h1.get? b=some o) (hn:h1.Ns C λ_=>none) (hD:ObjOk X.prog X.w (upd H s2.heap.objs.size oo) h1 s2.heap.objs.size oo)
  (hfp:∀b∈fp,vz X pins H b) (hob:∀b∈fp,∃o,s2.heap.get? b=some o) :
  Inv { X with N:=xs++M.map λj=>X.N.getD j Str.empty,s₀:=s2,H₀:=H,env:=compEnvC scope cl C X.env,outer:=X.stack,ex:=fp,fn:=λ_=>false,pn:=X.pn++pins,xe:=λ_ _=>False } [] ((xs.map λ_=>none)++M.map λj=>(σ[j]?).join) (upd H s2.heap.objs.size oo) { s2 with heap:=h1,toks:=tk }:=by
 have hfr:=I.hok.fresh (a:=s2.heap.objs.size) (aj _)
 have o:=I.ok
 have hcc:∀y c,cl.lookup y=some c→X.env.cells.lookup y=some c:=λy c e=>hc.look e
 have hlt:∀b∈fp,b<s2.heap.objs.size:=λb hb=>by
  obtain ⟨ob,e⟩:=hob b hb
  exact al e
 have hstk:∀b∈fp,b∉frs X.stack:=λb hb z=>by
  rcases aM.mp (I.stkSub b z) with z|z
  ·exact (hfp b hb).2.1 z
  ·exact (hfp b hb).2.2.1 z
 have hCn:H C=none:=I.hok.fresh (bf hC)
 refine ⟨⟨o.mod,hk,o.glob,o.blt,bf hC,λy z c e1 e2=>o.inj y z c (hcc y c e1) (hcc z c e2),λy hy=>?_,λy c z=>(aE z).elim,o.hd,o.frames,.inl rfl,λb hb=>⟨aB (bg (hlt b hb) hC),λy c e=>(hfp b hb).2.2.2.2.1 y c (hcc y c e)⟩,
  λb ob e=>I.bs b ob e,bB o.bsz I.sz,λb ob e z=>?_,hstk,I.stack,I.stkFree⟩,rfl,I.bare,?_,?_,λy c e=>?_,?_,λy c e=>?_,λp hp=>?_,?_,?_⟩
 ·rcases hy with hy|hy
  ·exact hh.has (.inl rfl) hy
  ·exact hh.has (.inr rfl) hy
 ·obtain ⟨e1,e2⟩:=I.bs b ob e
  exact (hfp b z).2.2.2.1.elim (λq=>o.noex b ob e q) λq=>by
   have:=o.bs b ob e
   exact aW _ (aI (al this.1) q)
 ·exact (Un.laid (fs:=frs X.stack) (ex:=fp) (o:=oo) keep (aj _) hfr)
 ·refine ⟨_,hn,λi z v e1 e2 e3=>?_⟩
  rcases bn i xs.length with hi|hi
  ·have e2:((xs.map λ_=>(none:Option V))++M.map λj=>(σ[j]?).join)[i]?=some (some v):=e2
   rw [aP (by rw [ag];exact hi),ax,ae hi] at e2
   cases e2
  have e1':(xs++M.map λj=>X.N.getD j Str.empty)[i]?=some z:=e1
  have e2':((xs.map λ_=>(none:Option V))++M.map λj=>(σ[j]?).join)[i]?=some (some v):=e2
  rw [aA hi] at e1'
  rw [aA (by rw [ag];exact hi),ag] at e2'
  generalize i-xs.length=k at e1' e2'
  rw [ax] at e1' e2'
  cases hj:M[k]? with
  |none=>rw [hj] at e1';cases e1'
  |some j =>
   rw [hj] at e1' e2'
   obtain ⟨y,c,f1,f2,f3,f4⟩:=hm.get hj
   have ez:X.N.getD j Str.empty=z:=aq e1'
   rw [af,f1] at ez
   have ez':y=z:=ez
   subst ez'
   have ev:(σ[j]?).join=some v:=aq e2'
   have ev':σ[j]?=some (some v):=by
    cases hs:σ[j]? with
    |none=>rw [hs] at ev;cases ev
    |some w' =>
     rw [hs] at ev
     have:w'=some v:=ev
     rw [this]
   obtain ⟨m,hns,hl⟩:=I.loc
   obtain ⟨u,r,l⟩:=hl j y v f1 ev' (.inr (.inl f2))
   refine ⟨u,r,.inr ⟨.inl f3,c,f4,?_⟩⟩
   rcases l with ⟨lk,_⟩|⟨_,c',lc,li⟩
   ·have:X.env.scope.names.lookup y=some .local:=lk
    rw [f2] at this
    cases this
   ·rw [hcc y c f4] at lc
    have:=aq lc
    subst this
    exact li.keeps keep
 ·obtain ⟨v,hv⟩:=I.cell y c (hcc y c e)
  exact ⟨v,hv.keeps keep⟩
 ·show upd H s2.heap.objs.size oo C=none
  rw [qr (eN hC)]
  exact hCn
 ·show upd H s2.heap.objs.size oo c=none
  obtain ⟨v,ob,e1,e2⟩:=I.cell y c (hcc y c e)
  rw [qr (aB (al e1))]
  exact I.freeC y c (hcc y c e)
 ·have hp':p∈X.pn++pins:=(aU.mp hp).elim (λz=>z) λz=>nomatch z
  obtain ⟨e1,e2,e3,e4,e5⟩:=I.pin p hp'
  refine ⟨keep _ _ e1,?_,aB (bg (al e1) hC),λz=>?_,e5⟩
  ·rw [qr (aB (al e1))]
   exact e2
  ·rcases aM.mp (I.stkSub p.1 z) with z|z
   ·exact e3 z
   ·exact e4 z
 ·exact I.hok.laid keep (aj _) hD
 ·show ((xs.map λ_=>(none:Option V))++M.map λj=>(σ[j]?).join).length=(xs++M.map λj=>X.N.getD j Str.empty).length
  simp only [am,ag]
theorem Inv.comp (I:Inv X pins σ H s2)(hc:CapAll X.env cl)(hh:HasAll cl scope.names)(hm:CapIx X scope cl M)(hk:scope.kind=.function)(hC:s2.heap.objs.size<C)
  (keep:∀b o,s2.heap.get? b=some o→h1.get? b=some o) (hn:h1.Ns C λ_=>none) (hD:h1.get? s2.heap.objs.size=some { cls:=.type "list",data:=.seq #[] 0 })
  (hfp:∀b∈fp,vz X pins H b) (hob:∀b∈fp,∃o,s2.heap.get? b=some o) :
  Inv (x9 X scope cl x M C s2 H fp (X.pn++pins)) [] (zx M σ none) (upd H s2.heap.objs.size (.lst [])) { s2 with heap:=h1,toks:=tk }:=I.compG (xs:=[x]) hc hh hm hk hC keep hn ⟨aV _,[],0,.nil,hD⟩ hfp hob
theorem Inv.uncomp {pins':List (Aj×Obj)}{σ':St}{H':Hp}{s':Ab}{h':Heap}(I:Inv X pins σ H s2)(hC:s2.heap.objs.size≤C)(hfp:∀b∈fp,vz X pins H b)
  (J:Inv (x9 X scope cl x M C s2 H fp (X.pn++pins)) pins' σ' H' s') (hs:Heap.SameBut C s'.heap h'):Inv X pins σ H' { s' with heap:=h' }:=by
 have hb:=J.base
 have nC:∀b o,s2.heap.get? b=some o→b≠C:=λb o e=>aB (aI (al e) hC)
 have st:∀b o,b≠C→s'.heap.get? b=some o→h'.get? b=some o:=λb o n e=>(hs.2 b n).trans e
 refine I.call' (s':={ s' with heap:=h' }) (ch:=fp) J.os ⟨λb o e n nb nx=>st b o (nC b o e) (hb.keep b o e n nb nx),λb o e n hb' nx=>?_,hb.free,λb o e nx=>?_,hb.tups,hb.frzs,hb.tbls⟩ ?_ J.bare λb hbf=>?_
 ·obtain ⟨sl,e1⟩:=hb.slot b o e n hb' nx
  exact ⟨sl,st b _ (nC b o e) e1⟩
 ·obtain ⟨o',e1⟩:=hb.there b o e nx
  exact ⟨o',st b _ (nC b o e) e1⟩
 ·intro b u hu
  have fr:H' C=none:=J.free
  refine (J.hok b u hu).stay (λc v hc e=>st c v ?_ e) (λ_ z=>z) λ_ _ z=>z
  rcases hc with rfl|hc
  ·intro z;rw [z,fr] at hu;cases hu
  ·intro z;rw [z,fr] at hc;cases hc
 ·obtain ⟨q1,q2,q3,q4,q5,q6⟩:=hfp b hbf
  exact ⟨q4,q2,q5,q6⟩
end
def Qf (J:It)(M:List Nat)(te:TE)(σ:St)(H1:Hp)(Q:VK):Prop:=∀p,H1 p=none→∃W:Nat→Nat→List V→Hp→Prop,(∃m,W 0 m [] (upd H1 p (.lst []))) ∧
 ∀i m ys H2,W i m ys H2→H2 p=some (.lst ys)∧ys.length<sizeLine∧((J.stop i H2∧Q (.ref p) H2)∨(J.go i H2∧∀v H3,J.yld i H2 v H3 →
  te (zx M σ (some v)) H3 λy H4=>H4 p=some (.lst ys)∧∃m',m'<m∧W (i+1) m' (ys++[y]) (upd H4 p (.lst (ys++[y])))))
def wwp (M:List Nat)(wi:TI)(te:TE):TE:=λσ H Q=>wi σ H λJ H1=>Qf J M te σ H1 Q
theorem kr {Y:Cx}{tg e:Expr}{k:Nat}{acc:Ag}{it:Aj}{fp:List Aj}{tn:Nat→Heap→Prop}{J:It}{ps:Pos}{REST:Sem PySem.Fin}{post:Result→Ab→Prop}{gg:TG}{pins:List (Aj×Obj)}{σ:St}{V:Nat→Nat→Hp→Prop}{Qd:Hp→Prop}{s0:Ab}{H0:Hp}{n0:Nat}
  (T:Turn Y.prog Y.w Y.K tg J fp it tn) (hc:Y.calm=true) (hx:∀v s,Y.xe v s→False)
  (hturn:compTurn e k (.ref it) acc Y.env=(standAt ps >>= λ_=>pyNext (.ref it) >>= λr=>match r with|none=>pure (.done .next)|some v=>letOwnedTupleGo tg (.ref it) v >>= λ_=>assign tg Y.env v >>= λ_=>REST))
  (hun:Y.A.under (.compLoop e k (.ref it) acc Y.env)=Y.A) (hden:(model Y.prog Y.w).den (.compLoop e k (.ref it) acc Y.env)=((compTurn e k (.ref it) acc Y.env).onRaise λz=>do noteFrame z Y.env;theTreesLotGoes z))
  (hg:PG Y tg gg) (fok:∀H2:Hp,(∀b∈fp,H2 b=none)→∀b∈fp,vz Y pins H2 b)
  (hV:∀i n H2,V i n H2→(J.stop i H2∧Qd H2)∨(J.go i H2∧∀v H3,J.yld i H2 v H3→∃Z:St→Hp→Prop,gg v σ H3 Z∧∀σ4 H4,Z σ4 H4→(σ.length=σ4.length∧∀(k:Nat) z,σ[k]?=some (some z)→σ4[k]?=some (some z))∧∀pins' s',Inv Y pins' σ4 H4 s' →
   wpAny (model Y.prog Y.w) Y.A REST (λr s5=>r=Fin.again (.compLoop e k (.ref it) acc Y.env)∧∃H5,Inv Y pins' σ4 H5 s5∧∃n',n'<n∧V (i+1) n' H5) Y.xe s'))
  (fin:∀H2 s4,Inv Y pins σ H2 s4→Qd H2→post (.ok .next) s4) (I:Inv Y pins σ H0 s0) (v0:V 0 n0 H0) (t0:tn 0 s0.heap) (nf:∀b∈fp,H0 b=none) :
  codeAny (model Y.prog Y.w) Y.A (.compLoop e k (.ref it) acc Y.env) post s0:=by
 refine codeAny_loop rfl (λn s3=>∃i H2,V i n H2∧Inv Y pins σ H2 s3∧tn i s3.heap∧∀b∈fp,H2 b=none) (λn s3 hI=>?_) n0 ⟨0,H0,v0,I,t0,nf⟩
 obtain ⟨i,H2,w,J2,t,nf2⟩:=hI
 rw [hun,hden]
 refine wpAny_noted ?_
 rw [hturn]
 refine aa (cL (aa ?_))
 rcases hV i n H2 w with ⟨hst,hq⟩|⟨hgo,hy⟩
 ·refine aL (T.done Y rfl rfl rfl hc i pins s3 _ H2 (λ_ _=>False) J2 (fok H2 nf2) t hst) (λr s4 hr=>?_) λ_ _ z=>z.elim
  obtain ⟨rfl,J4⟩:=hr
  exact ah (fin H2 s4 J4 hq)
 ·refine aL (T.item Y rfl rfl rfl hc i pins s3 _ H2 (λ_ _=>False) J2 (fok H2 nf2) t hgo) (λr s4 hr=>?_) λ_ _ z=>z.elim
  obtain ⟨u,rfl,hw⟩:=hr
  refine aa (aL hw (λ_ s5 hr5=>?_) λ_ _ z=>z.elim)
  obtain ⟨v,H3,J5,rv,yl,t5,nf⟩:=hr5
  obtain ⟨Z,hz,hZ⟩:=hy v H3 yl
  refine aa (aL (hg _ s5 _ H3 v u _ (J5.pinned (fok H3 nf) (T.obj _ _ t5)) rv hz) (λ_ s6 hr6=>?_) λv s z=>(hx v s z).elim)
  obtain ⟨σ6,H6,J6,z6⟩:=hr6
  obtain ⟨⟨hl,hw6⟩,hR⟩:=hZ σ6 H6 z6
  refine aL (hR _ s6 J6) (λr s7 hr7=>?_) λv s z=>(hx v s z).elim
  obtain ⟨rfl,H7,J7,n',hn',v7⟩:=hr7
  refine ⟨rfl,n',hn',i+1,H7,v7,(J7.unpinned (pins:=pins)).weak hl hw6,?_,?_⟩
  ·exact T.keep _ _ _ t5 λb hb o e=>(J7.pin (b,o) (aF _ (aF _ (km hb e)))).1
  ·intro b hb
   obtain ⟨o,e,_⟩:=T.obj _ _ t5 b hb
   exact (J7.pin (b,o) (aF _ (aF _ (km hb e)))).2.1
section
variable {Y:Cx}{elt cd:Expr}{te:TE}{tt:TT}{c:Code}{p:Aj}{σ:St}{H:Hp}{pins:List (Aj×Obj)}{s:Ab}
def qyh (elt:Expr)(acc:Ag)(env:Env)(c:Code):Sem PySem.Fin:=(eval elt env >>= λx=>call (.builtin "list.append") [acc,x] >>= λ_=>pure ()) >>= λ_=>again c
theorem W5 {ys:List V}{N:List V→Hp→Prop}(hx:∀v s,Y.xe v s→False)(he:PE Y elt te)(J:Inv Y pins σ H s)(hz:ys.length<sizeLine)(h:te σ H λy H4=>H4 p=some (.lst ys)∧N (ys++[y]) (upd H4 p (.lst (ys++[y])))) :
  wpAny (model Y.prog Y.w) Y.A (qyh elt (.ref p) Y.env c) (λr s5=>r=Fin.again c∧∃H5,Inv Y pins σ H5 s5∧∃zs,N zs H5) Y.xe s:=by
 refine aa (aa (aL (he _ s _ H _ J h) (λyv s7 hr7=>?_) λ_ _ z=>z))
 obtain ⟨y,H4,J7,ry,hp4,n4⟩:=hr7
 refine aa (aL (v4 (X:=Y) _ s7 _ H4 (.ref p) [y] (.ref p) [yv] (λ_ H8=>H8=upd H4 p (.lst (ys++[y]))) J7 rfl (.cons ry .nil) ⟨_,ys,y,rfl,rfl,hp4,hz,rfl⟩) (λ_ s8 hr8=>?_) λ_ _ z=>z)
 obtain ⟨_,H8,J8,_,rfl⟩:=hr8
 exact ah (ah ⟨rfl,_,J8,_,n4⟩)
def qu1 (cd:Expr)(env:Env)(a b:Sem PySem.Fin):Sem PySem.Fin:=(forIn [cd] true λc r=>if r=true then do let ok ←isTrue c env (eval c env);pure (ForInStep.yield ok) else pure (ForInStep.yield r)) >>= λok=>if ok=true then a else b
theorem Qp {a b:Sem PySem.Fin}{F:Hp→Prop}{G:Hp→Prop}{R:PySem.Fin→Ab→Prop}(ht:PT Y cd tt)(J:Inv Y pins σ H s)(h:tt σ H λok H4=>if ok=true then F H4 else G H4)
  (ha:∀s' H4,Inv Y pins σ H4 s'→F H4→wpAny (model Y.prog Y.w) Y.A a R Y.xe s') (hb:∀s' H4,Inv Y pins σ H4 s'→G H4→wpAny (model Y.prog Y.w) Y.A b R Y.xe s') :
  wpAny (model Y.prog Y.w) Y.A (qu1 cd Y.env a b) R Y.xe s:=by
 refine aa (wpAny_tests_one (aL (ht _ s _ H _ J h) (λok s6 hr6=>?_) λ_ _ z=>z))
 obtain ⟨H6,J6,hok⟩:=hr6
 cases ok with
 |false=>exact hb s6 H6 J6 hok
 |true=>exact ha s6 H6 J6 hok
end
section
variable {X:Cx}{elt iter cd:Expr}{x:Str}{px pos:Pos}{scope:Scope}{cl:List (Str×Aj)}{M:List Nat}{wi:TI}{te:TE}{tt:TT}{pins:List (Aj×Obj)}{σ:St}
theorem Q5 {N:List Str}{C:Aj}{s2:Ab}{H1:Hp}{fp:List Aj}(hcap:CapAll X.env cl)(I2:Inv X pins σ H1 s2)(hlt:s2.heap.objs.size<C)(hfp:∀b∈fp,vz X pins H1 b)(hbl:∀b∈fp,b<s2.heap.objs.size)(H2:Hp)(hn:∀b∈fp,H2 b=none) :
  ∀b∈fp,vz { X with N:=N,s₀:=s2,H₀:=H1,env:=compEnvC scope cl C X.env,outer:=X.stack,ex:=fp,fn:=λ_=>false,pn:=X.pn++pins,xe:=λ_ _=>False } [] H2 b:=λb hb=>by
 obtain ⟨q1,q2,q3,q4,q5,q6⟩:=hfp b hb
 refine ⟨hn b hb,aB (bg (hbl b hb) hlt),λz=>?_,.inl hb,λy c e=>q5 y c (hcap.look e),λp hp=>q6 p ((aU.mp hp).elim (λz=>z) λz=>nomatch z)⟩
 rcases aM.mp (I2.stkSub b z) with z|z
 ·exact q2 z
 ·exact q3 z
theorem Qt {tg:Expr}{ifs:List Expr}{rest:List Comprehension}(hclos:closureFor scope X.env=pure cl)(hhas:HasAll cl scope.names)(hk:scope.kind=.function)
  (hnames:∀y∈scope.names,y.2=.local→scope.names.lookup y.1=some .local) (hi:PI X tg iter wi) (hs:∀z,foldedSetIterable iter X.env z=pure z)
  {use:Option (Ag→Sem Unit)} {QQ:Ag→Ab→Prop} {s:Ab} {H:Hp} {ps:Pos} {R:It→Hp→Prop} (I:Inv X pins σ H s) (h:wi σ H R)
  (go:∀(it:Aj) (fp:List Aj) (tn:Nat→Heap→Prop) (J:It) (H1:Hp) (s2:Ab) (C:Aj) (h3:Heap) (tk:Nat),Inv X pins σ H1 s2→Turn X.prog X.w X.K tg J fp it tn→tn 0 h3→(∀b∈fp,vz X pins H1 b)→(∀b∈fp,b<s2.heap.objs.size)→(∀b∈fp,∃o,s2.heap.get? b=some o)→R J H1→s2.heap.objs.size<C →
   (∀b o,s2.heap.get? b=some o→h3.get? b=some o)→(h3.Ns C λ_=>none)→h3.get? s2.heap.objs.size=some { cls:=.type "list",data:=.seq #[] 0 } →
   codeAny (model X.prog X.w) X.A (.compLoop (.ListComp elt (⟨tg,iter,ifs,0⟩::rest) scope pos) 0 (.ref it) (.ref s2.heap.objs.size) (compEnvC scope cl C X.env)) (compPost (model X.prog X.w) X.A X.xe use QQ (.ref s2.heap.objs.size) C) { s2 with heap:=h3,toks:=tk }) :
  wpAny (model X.prog X.w) X.A (comprehension (.ListComp elt (⟨tg,iter,ifs,0⟩::rest) scope pos) scope X.env ps (newList []) false (eval iter X.env) use) QQ X.xe s:=by
 refine eZ (use:=use) rfl hs hclos hk hnames ?_
 refine thn (hi pins s σ H _ I h) λv s1 h1=>thn h1 λitv s2 h2=>?_
 obtain ⟨it,fp,tn,J,H1,rfl,I2,T,t0,hfp,hR⟩:=h2
 refine bU ?_
 refine fT hhas.nocell (by intro y hy;cases hy) (λh3 hns hsb=>?_) hk
 dsimp only at hns hsb ⊢
 generalize hH2:s2.heap.push { cls:=.type "list",dict:=none,data:=.seq ([]:List Ag).toArray }=G2 at hns hsb ⊢
 have hC:G2.objs.size=s2.heap.objs.size+1:=by rw [←hH2,cN]
 have hlt:s2.heap.objs.size<G2.objs.size:=by lia
 have keep:∀b o,s2.heap.get? b=some o→h3.get? b=some o:=λb o e=>by
  rw [hsb.2 b (aB (bg (al e) hlt))]
  exact ai _ (hH2▸ai _ e)
 have hD:h3.get? s2.heap.objs.size=some { cls:=.type "list",data:=.seq #[] 0 }:=by
  rw [hsb.2 _ (aB hlt)]
  exact ai _ (hH2▸az _ rfl)
 have t3:=T.keep 0 _ _ t0 λb _ o e=>keep b o e
 have loop:=λtk=>go it fp tn J H1 s2 G2.objs.size h3 tk I2 T t3 hfp (λb hb=>let ⟨o,e,_⟩:=T.obj 0 _ t0 b hb;al e) (λb hb=>let ⟨o,e,_⟩:=T.obj 0 _ t0 b hb;⟨o,e⟩) hR hlt keep hns hD
 exact codeAny_compStart_list (loop _) (T.self _ 0 _ _ _ t3 (loop _))
theorem jt (M:List Nat)(σ:St)(v:V):(zx M σ none).length=(zx M σ (some v)).length∧∀(k:Nat) z,(zx M σ none)[k]?=some (some z)→(zx M σ (some v))[k]?=some (some z):=⟨rfl,λk z ez=>by
 cases k with
 |zero=>cases ez
 |succ k=>exact ez⟩
end
section
variable {X:Cx}{elt iter:Expr}{x:Str}{px pos:Pos}{scope:Scope}{cl:List (Str×Aj)}{M:List Nat}{wi:TI}{te:TE}
theorem qyk (hc:X.calm=true)(hclos:closureFor scope X.env=pure cl)(hcap:CapAll X.env cl)(hhas:HasAll cl scope.names)(hix:CapIx X scope cl M)(hk:scope.kind=.function)
  (hnames:∀y∈scope.names,y.2=.local→scope.names.lookup y.1=some .local) (hx:scope.names.lookup x=some .local) (hnd:(j6 X x M).Nodup) (hi:PI X (.Name x px) iter wi)
  (he:∀C s2 H2 fp pn,PE (x9 X scope cl x M C s2 H2 fp pn) elt te) (hs:∀z,foldedSetIterable iter X.env z=pure z)
  {use:Option (Ag→Sem Unit)} {QQ:Ag→Ab→Prop} {pins:List (Aj×Obj)} {s:Ab} {σ:St} {H:Hp} {Q:VK} {ps:Pos} (I:Inv X pins σ H s) (h:wi σ H λJ H1=>Qf J M te σ H1 Q)
  (fin:∀(C:Aj) (s2 s4:Ab) (H1 H2:Hp) (fp:List Aj),Inv X pins σ H1 s2→s2.heap.objs.size<C→(∀b∈fp,vz X pins H1 b)→Inv (x9 X scope cl x M C s2 H1 fp (X.pn++pins)) [] (zx M σ none) H2 s4→Q (.ref s2.heap.objs.size) H2 →
   compPost (model X.prog X.w) X.A X.xe use QQ (.ref s2.heap.objs.size) C (.ok .next) s4) :
  wpAny (model X.prog X.w) X.A (comprehension (.ListComp elt [⟨.Name x px,iter,[],0⟩] scope pos) scope X.env ps (newList []) false (eval iter X.env) use) QQ X.xe s:=by
 refine Qt hclos hhas hk hnames hi hs I h λit fp tn J H1 s2 C h3 tk I2 T t3 hfp hbl hob hR hlt keep hns hD=>?_
 obtain ⟨W,⟨m0,w0⟩,hW⟩:=hR s2.heap.objs.size (I2.hok.fresh (aj _))
 have hxl:(relabel scope X.env).names.lookup x=some .local:=cY hx
 refine kr (Y:=x9 X scope cl x M C s2 H1 fp (X.pn++pins)) (V:=λi n H2=>∃ys,W i n ys H2) (Qd:=Q (.ref s2.heap.objs.size)) (REST:=qyh elt (.ref s2.heap.objs.size) (compEnvC scope cl C X.env) _) T hc (λ_ _ z=>z) (compTurn_list1 ..) rfl rfl (wt (i:=0) hnd rfl (.inl hxl) (.inr hxl)) (Q5 hcap I2 hlt hfp hbl) (λi n H2 ⟨ys,w⟩=>?_) (λH2 s4 J4 q=>fin C s2 s4 H1 H2 fp I2 hlt hfp J4 q) (I2.comp hcap hhas hix hk hlt keep hns hD hfp hob) ⟨[],w0⟩ t3 λb hb=>by rw [qr (aB (hbl b hb))];exact (hfp b hb).1
 obtain ⟨hp,hz,hcase⟩:=hW i n ys H2 w
 refine hcase.imp id λ⟨hgo,hy⟩=>⟨hgo,λv H3 yl=>⟨λσ4 H4=>σ4=zx M σ (some v)∧H3=H4,⟨rfl,rfl⟩,λ_ _ e=>?_⟩⟩
 obtain ⟨rfl,rfl⟩:=e
 refine ⟨jt M σ v,λpins' s' J=>?_⟩
 refine aL (W5 (N:=λzs H5=>∃m',m'<n∧W (i+1) m' zs H5) (λ_ _ z=>z) (he _ _ _ _ _) J hz (hy v H3 yl)) (λr s5 ⟨e,H5,J5,zs,m',hm,w'⟩=>⟨e,H5,J5,m',hm,zs,w'⟩) λ_ _ z=>z
theorem v8 (hc:X.calm=true)(hclos:closureFor scope X.env=pure cl)(hcap:CapAll X.env cl)(hhas:HasAll cl scope.names)(hix:CapIx X scope cl M)(hk:scope.kind=.function)
  (hnames:∀y∈scope.names,y.2=.local→scope.names.lookup y.1=some .local) (hx:scope.names.lookup x=some .local) (hnd:(j6 X x M).Nodup) (hi:PI X (.Name x px) iter wi)
  (he:∀C s2 H2 fp pn,PE (x9 X scope cl x M C s2 H2 fp pn) elt te) (hs:∀z,foldedSetIterable iter X.env z=pure z:=by intro _;rfl) :
  PE X (.ListComp elt [⟨.Name x px,iter,[],0⟩] scope pos) (wwp M wi te):=by
 intro pins s σ H Q I h
 rw [hU]
 refine qyk hc hclos hcap hhas hix hk hnames hx hnd hi he hs (use:=none) I h λC s2 s4 H1 H2 fp I2 hlt hfp J4 hq=>?_
 obtain ⟨m,hn,_⟩:=J4.loc
 exact ⟨m,hn,λh' hs'=>⟨.ref s2.heap.objs.size,H2,I2.uncomp (bf hlt) hfp J4 hs',rfl,hq⟩⟩
theorem Inv.but {pins:List (Aj×Obj)}{σ:St}{H:Hp}{s:Ab}{h':Heap}{C:Aj}(I:Inv X pins σ H s)(hn:H C=none)(h1:X.s₀.heap.objs.size≤C)(h2:C≠X.env.locals)(h3:∀y c,X.env.cells.lookup y=some c→c≠C)(h4:∀p∈X.pn++pins,p.1≠C)
  (hs:Heap.SameBut C s.heap h'):Inv X pins σ H { s with heap:=h' }:=by
 have st:∀b o,b≠C→s.heap.get? b=some o→h'.get? b=some o:=λb o n e=>(hs.2 b n).trans e
 have nc:∀b,b∉[C]→b≠C:=λb z e=>z (by rw [e];exact .head _)
 refine I.call' (s':={ s with heap:=h' }) (ch:=[C]) rfl ⟨λb o e n _ nx=>st b o (nc b nx) e,λb o e n _ nx=>⟨o.slots,st b o (nc b nx) e⟩,λb o e n _=>n,λb o e nx=>⟨o,st b o (nc b nx) e⟩,λ_ _ e=>e,λ_ _ _ e=>e,λb ps e=>⟨#[],by rw [e];simp⟩⟩ ?_ I.bare λb hb=>?_
 ·intro b u hu
  refine (I.hok b u hu).stay (λc v hc e=>st c v ?_ e) (λ_ z=>z) λ_ _ z=>z
  rcases hc with rfl|hc
  ·intro z;rw [z,hn] at hu;cases hu
  ·intro z;rw [z,hn] at hc;cases hc
 ·rw [aJ.mp hb]
  exact ⟨.inr h1,h2,h3,h4⟩
theorem jn {i:Nat}{y:Str}{py spos:Pos}(hN:X.N.Nodup)(hyi:X.N[i]?=some y)(hyl:Loc X.env.scope y)(hc:X.calm=true)(hclos:closureFor scope X.env=pure cl)(hcap:CapAll X.env cl)(hhas:HasAll cl scope.names)(hix:CapIx X scope cl M)(hk:scope.kind=.function)
  (hnames:∀y∈scope.names,y.2=.local→scope.names.lookup y.1=some .local) (hx:scope.names.lookup x=some .local) (hnd:(j6 X x M).Nodup) (hi:PI X (.Name x px) iter wi)
  (he:∀C s2 H2 fp pn,PE (x9 X scope cl x M C s2 H2 fp pn) elt te) (hs:∀z,foldedSetIterable iter X.env z=pure z:=by intro _;rfl)
  (hsw:swapsWith (.ListComp elt [⟨.Name x px,iter,[],0⟩] scope pos) (some (.Name y py)) spos.line X.env=pure true:=by rfl) (hyf:X.fn y=true∨X.env.scope.names.lookup y=some .local:=by first | exact .inl rfl | exact .inr rfl | assumption) :
  PS X (.Assign [.Name y py] (.ListComp elt [⟨.Name x px,iter,[],0⟩] scope pos) spos) (tAsg (wwp M wi te) (Zj i)):=by
 intro pins s σ H D I h
 rw [exec_Assign_Name_used _ _ _ _ hsw]
 refine aa (cL (aa ?_))
 refine aa (aL (qyk hc hclos hcap hhas hix hk hnames hx hnd hi he hs (use:=some (assign (.Name y py) X.env)) (QQ:=λ_ s'=>SP X pins D .next s') I h λC s2 s4 H1 H2 fp I2 hlt hfp J4 hq=>?_) (λ_ s' hq=>ah (ah hq)) λ_ _ e=>e)
 have I4:Inv X pins σ H2 s4:=I2.uncomp (h':=s4.heap) (bf hlt) hfp J4 (gU _ _)
 have hCn:H2 C=none:=J4.free
 obtain ⟨mC,hnC,_⟩:=J4.loc
 obtain ⟨oC,esC,epC,hoC,hdC⟩:=id hnC
 have hCl:C≠X.env.locals:=λz=>aW _ (bg hlt (z▸I2.lt))
 have hCs:X.s₀.heap.objs.size≤C:=bB I2.sz (bf hlt)
 have hCc:∀y c,X.env.cells.lookup y=some c→c≠C:=λy c e z=>by
  obtain ⟨v,o,e1,_⟩:=I2.cell y c e
  exact aW _ (bg hlt (z▸al e1))
 have hCp:∀p∈X.pn++pins,p.1≠C:=λp hp z=>aW _ (bg hlt (z▸al (I2.pin p hp).1))
 have hCf:C∉frs X.stack:=λz=>by
  rcases aM.mp (I2.stkSub C z) with q|q
  ·exact hCl q
  ·obtain ⟨_,o,e1,_⟩:=I2.funs.mem (b:=C) q
   exact aW _ (bg hlt (al e1))
 have hCx:C∉X.fs:=λz=>by
  obtain ⟨_,o,e1,_⟩:=I2.funs.mem (b:=C) z
  exact aW _ (bg hlt (al e1))
 have I4p:Inv X (pins++[(C,oC)]) σ H2 s4:=⟨I4.ok,I4.os,I4.bare,I4.base,I4.loc,I4.cell,I4.free,I4.freeC,λp hp=>by
  rcases aU.mp hp with q|q
  ·exact I4.pin p (bW _ q)
  ·rcases aU.mp q with q|q
   ·exact I4.pin p (aF _ q)
   ·rw [aJ.mp q]
    exact ⟨hoC,hCn,hCl,hCx,λv z=>by rw [hdC.1] at z;cases z⟩,I4.hok,I4.len⟩
 show wpAny _ _ (assign (.Name y py) X.env (.ref s2.heap.objs.size)) _ _ _
 refine gR (ym I4p hN hyi hyl (show RelV (.ref s2.heap.objs.size) (.ref s2.heap.objs.size) from rfl) (λs5 I5=>?_) hyf)
 have hC5:=(I5.pin (C,oC) (aF _ (aF _ (.head _)))).1
 exact ⟨mC,⟨oC,esC,epC,hC5,hdC⟩,λh' hs'=>⟨_,H2,I5.unpinned.but hCn hCs hCl hCc hCp hs',hq⟩⟩
end
theorem vk {M:List Nat}{lo:Int}{n:Nat}{te:TE}{σ:St}{H:Hp}{Q:VK}(f:Nat→V)(hn:n≤1000000)(he:∀(i:Nat) (H':Hp) (R:VK),i<n→Same H H'→R (f i) H'→te (zx M σ (some (.int (lo+i)))) H' R)
  (k:∀p,H p=none→Q (.ref p) (upd H p (.lst ((List.range n).map f)))):Qf (Itr lo n) M te σ H Q:=by
 intro p np
 refine ⟨λi m ys H2=>i≤n∧m=n-i∧ys=(List.range i).map f∧H2=upd H p (.lst ys),⟨n,aV _,rfl,rfl,rfl⟩,?_⟩
 rintro i m ys H2 ⟨hi,rfl,rfl,rfl⟩
 refine ⟨qb,?_,?_⟩
 ·rw [ag,aH]
  have:(1000000:Nat)<sizeLine:=by decide
  lia
 ·by_cases hlt:i<n
  ·refine .inr ⟨hlt,?_⟩
   rintro v H3 ⟨rfl,rfl⟩
   refine he i (upd H p (.lst ((List.range i).map f))) _ hlt (Same.upd np) ⟨qb,n-(i+1),by lia,by lia,rfl,?_,?_⟩
   ·rw [cx,be]
    rfl
   ·rw [qvx]
  ·have:i=n:=by lia
   subst this
   exact .inl ⟨aj _,k p np⟩
theorem wvm {K:Aa}{M:List Nat}{a:Aj}{xs:List V}{te:TE}{σ:St}{H:Hp}{Q:VK}(f:V→V)(hS:SqL K H a xs)(hn:xs.length≤1000000)(he:∀(x:V) (H':Hp) (R:VK),x∈xs→Same H H'→R (f x) H'→te (zx M σ (some x)) H' R)
  (k:∀p,H p=none→Q (.ref p) (upd H p (.lst (xs.map f)))):Qf (Itl K a) M te σ H Q:=by
 intro p np
 refine ⟨λi m ys H2=>i≤xs.length∧m=xs.length-i∧ys=(xs.take i).map f∧H2=upd H p (.lst ys),⟨xs.length,aV _,rfl,rfl,rfl⟩,?_⟩
 rintro i m ys H2 ⟨hi,rfl,rfl,rfl⟩
 have hS':SqL K (upd H p (.lst ((xs.take i).map f))) a xs:=Same.sql (Same.upd np) hS
 refine ⟨qb,?_,?_⟩
 ·rw [ag,ba]
  have:(1000000:Nat)<sizeLine:=by decide
  lia
 ·by_cases hlt:i<xs.length
  ·have hx:xs[i]?=some xs[i]:=ae hlt
   refine .inr ⟨⟨xs,_,hS',hx⟩,?_⟩
   rintro v H3 ⟨rfl,hv⟩
   have e:=hv xs hS'
   rw [hx] at e
   have e':=aq e
   subst e'
   refine he _ _ _ (bu hlt) (Same.upd np) ⟨qb,xs.length-(i+1),by lia,by lia,rfl,?_,?_⟩
   ·rw [List.take_succ,hx,be]
    rfl
   ·rw [qvx]
  ·have hi':i=xs.length:=by lia
   subst hi'
   refine .inl ⟨⟨xs,hS',aj _⟩,?_⟩
   rw [bv]
   exact k p np
end L2
namespace L2
open PySem PySem.Spec PyProof.Rows
section
variable {X:Cx}
theorem Y4 {pins:List (Aj×Obj)}{σ:St}{H:Hp}{s:Ab}{p:Aj}{ns:List Int}(I:Inv X pins σ H s)(hS:SqL X.K H p (ns.map V.int)) :
  ∃ts:Array (Int×Tok),s.heap.IsList p (intItems ts)∧ns=ts.toList.map (·.1):=by
 obtain ⟨its,rv,⟨o,n,e1,e2,e3,e4⟩,hz⟩:=I.list hS
 have hi:=uy rv
 obtain ⟨ts,ht⟩:=hi.allInts.items
 refine ⟨ts,⟨o,e1,e2,n,by rw [←ht];exact e4⟩,?_⟩
 have a1:=hi.numsOf
 have a2:=nums_intItems (xs:=ts)
 rw [←ht] at a2
 exact a1.symm.trans a2
theorem qxt (hc:X.calm=true):jk X (.builtin "min") (λxs H Q=>∃(p:Aj) (ns:List Int),xs=[.ref p]∧SqL X.K H p (ns.map V.int)∧0<ns.length∧∀m,m∈ns→(∀a∈ns,m≤a)→Q (.int m) H):=by
 intro pins s σ H xs us Q I r h
 obtain ⟨p,ns,rfl,hS,hne,q⟩:=h
 obtain ⟨u,rfl,ru⟩:=jh r
 cases (show u=Value.ref p from ru)
 obtain ⟨ts,hl,he⟩:=Y4 I hS
 have hsz:ts.size=ns.length:=by rw [he,ag,aS]
 refine min_intList (I.ok.hd hc) hl (by lia) λv h' tk hv hk=>?_
 obtain ⟨t,rfl⟩:=iN hv
 obtain ⟨b1,b2⟩:=argBest_lt (numAt ts) (ts.size-1)
 refine ⟨.int _,H,I.kept hk,⟨t,rfl⟩,q _ ?_ λa ha=>?_⟩
 ·rw [he,iO]
  refine getD_mem ?_
  rw [←he,←hsz]
  lia
 ·rw [he] at ha
  obtain ⟨j,hj,rfl⟩:=mem_getD ha
  rw [←he,←hsz] at hj
  rw [←iO]
  exact b2 j (by lia)
theorem Ww (hc:X.calm=true):jk X (.builtin "max") (λxs H Q=>∃(p:Aj) (ns:List Int),xs=[.ref p]∧SqL X.K H p (ns.map V.int)∧0<ns.length∧∀m,m∈ns→(∀a∈ns,a≤m)→Q (.int m) H):=by
 intro pins s σ H xs us Q I r h
 obtain ⟨p,ns,rfl,hS,hne,q⟩:=h
 obtain ⟨u,rfl,ru⟩:=jh r
 cases (show u=Value.ref p from ru)
 obtain ⟨ts,hl,he⟩:=Y4 I hS
 have hsz:ts.size=ns.length:=by rw [he,ag,aS]
 refine max_intList (I.ok.hd hc) hl (by lia) λv h' tk hv hk=>?_
 obtain ⟨t,rfl⟩:=iN hv
 obtain ⟨b1,b2⟩:=argBest_gt (numAt ts) (ts.size-1)
 refine ⟨.int _,H,I.kept hk,⟨t,rfl⟩,q _ ?_ λa ha=>?_⟩
 ·rw [he,iO]
  refine getD_mem ?_
  rw [←he,←hsz]
  lia
 ·rw [he] at ha
  obtain ⟨j,hj,rfl⟩:=mem_getD ha
  rw [←he,←hsz] at hj
  rw [←iO]
  exact b2 j (by lia)
theorem qjg:∀ {bs:List Bool} {its:List Ag},Vals (bs.map V.bl) its→its=bs.map Value.bool
 |[],_,.nil=>rfl
 |b::bs,_,.cons r t=>by
  have e:_=Value.bool b:=r
  rw [aN,←qjg t,e]
end
structure MCal (P:Ac)(w:Ah)(K:Aa)(mg:Str→Option Ag)(base:Heap)(C:Aj)(m:Str)(k:Nat)(sp:Sp):Prop where
 ex:∃f fd ps,Meth K C m f∧FnOk P w K mg base (CXE P w) k f fd ps sp∧Binds K fd ps []
structure CCal (P:Ac)(w:Ah)(K:Aa)(mg:Str→Option Ag)(base:Heap)(x:Str)(C:Aj)(k:Nat)(sp:Sp):Prop where
 ex:∃f fd ps,mg x=some (.ref C)∧Mk K C f∧FnOk P w K mg base (CXE P w) k f fd ps sp∧Binds K fd ps []
structure MethIn (K:Aa)(C:Aj)(m qual:Str)(st:Stmt):Prop where
 ex:∃f fd,PySem.W.findIn K (.ref C) m=some (some (.ref f))∧PySem.W.isFn K (.ref f)=true∧Fun K m qual st f fd
theorem xqs {K:Aa}{C:Aj}{m qual:Str}{st:Stmt}{f:Aj}{oc:Ag}{od an:Option Aj}{osl:Array (Option Ag)}{kV doc pm cdv ct:Ag}(a:PySem.W.findIn K (.ref C) m=some (some (.ref f)))(i:PySem.W.isFn K (.ref f)=true)
  (l:K.lookup f=some ⟨oc,od,.func (PySem.W.fnOf m qual (vm st) (zm st) (qt st) .none kV doc pm an cdv ct),osl⟩) (c:PySem.W.codeIn K cdv qual=true) (k:PySem.W.keepIn K (.ref f)=true):MethIn K C m qual st:=⟨_,_,a,i,wwf l c k⟩
def jj (x qual:Str)(st:Stmt)(ps:List Str):Prop:=∀(kV doc pm:Ag) (an:Option Aj) (cdv ct:Ag) (us:List Ag),us.length=ps.length→bindArgs (PySem.W.fnOf x qual (vm st) (zm st) (qt st) .none kV doc pm an cdv ct) ⟨us,[]⟩=pure (ps.zip us)
section
variable {P:Ac}{w:Ah}{K:Aa}{mg:Str→Option Ag}{base:Heap}{C:Aj}
theorem MethIn.cal {m qual:Str}{st:Stmt}{ps:List Str}{k:Nat}{sp:Sp}(d:MethIn K C m qual st)(b:jj m qual st ps)(ok:∀f fd,Fun K m qual st f fd→FnOk P w K mg base (CXE P w) k f fd ps sp):MCal P w K mg base C m k sp:=by
 obtain ⟨f,fd,a,i,F⟩:=d.ex
 exact ⟨f,fd,ps,⟨a,i,F.kp⟩,ok f fd F,F.binds b⟩
theorem MethIn.ccal {x qual:Str}{st:Stmt}{ps:List Str}{k:Nat}{sp:Sp}(d:MethIn K C "__init__" qual st)(hm:mg x=some (.ref C))(mk:PySem.W.makesIn K C=true)(kc:PySem.W.keepIn K (.ref C)=true)(b:jj "__init__" qual st ps)
  (ok:∀f fd,Fun K "__init__" qual st f fd→FnOk P w K mg base (CXE P w) k f fd ps sp):CCal P w K mg base x C k sp:=by
 obtain ⟨f,fd,a,i,F⟩:=d.ex
 exact ⟨f,fd,ps,hm,⟨mk,a,i,kc⟩,ok f fd F,F.binds b⟩
end
section
variable {X:Cx}{C:Aj}{x m:Str}{k:Nat}{sp:Sp}{E:St→XK}{p pos apos:Pos}{e o:Expr}{es:List Expr}{ta:TE}{t:TA}
theorem wym (c:CCal X.prog X.w X.K X.mg X.base x C k sp)(hr:Room (k+1) X.A)(hg:Gl X x)(hx:jx X E)
  (ha:PA X (e::es) t) (hdb:(x==("__debug__" : Str))=false:=by decide) (he:starEach (e::es) X.env=(false,eval e X.env)::starEach es X.env:=by rfl) (hpl:(backTo pos (starEach es X.env)).any (·.1)=false:=by rfl) :
  PE X (.Call (.Name x p) (e::es) [] pos) (wkt C sp E t):=by
 obtain ⟨f,fd,ps,hm,M,F,b⟩:=c.ex
 exact wkf M F hr hg hm b hx ha hdb he hpl
theorem wyv {pl:Sem Bool}(he:PE X o ta)(cl:Cls X.K C)(c:MCal X.prog X.w X.K X.mg X.base C m k sp)(hr:Room k X.A)(hx:jx X E)(ha:PA X (e::es) t)
  (hst:starEach (e::es) X.env=(false,eval e X.env)::starEach es X.env:=by rfl) (hpl:(backTo pos (starEach es X.env)).any (·.1)=false:=by rfl)
  (ht:eval (.Call (.Attribute o m apos) (e::es) [] pos) X.env=(do
   let ov ←eval o X.env
   standAt apos.atName
   let (f,first) ←holding [ov] (getMethod ov m pl)
   callWith pos f first (backTo pos (starEach (e::es) X.env)) (backToKw pos (keywordEach [] X.env))):=by rfl) :
  PE X (.Call (.Attribute o m apos) (e::es) [] pos) (qq4 C m sp E ta t):=by
 obtain ⟨f,fd,ps,hm,F,b⟩:=c.ex
 exact wy7 he cl hm F hr b hx ha hst hpl ht
theorem kg {pl:Sem Bool}(he:PE X o ta)(cl:Cls X.K C)(c:MCal X.prog X.w X.K X.mg X.base C m k sp)(hr:Room k X.A)(hx:jx X E)
  (ht:eval (.Call (.Attribute o m apos) [] [] pos) X.env=(do
   let ov ←eval o X.env
   standAt apos.atName
   let (f,first) ←holding [ov] (getMethod ov m pl)
   callWith pos f first (backTo pos (starEach [] X.env)) (backToKw pos (keywordEach [] X.env))):=by rfl) :
  PE X (.Call (.Attribute o m apos) [] [] pos) (qq4 C m sp E ta qq0):=by
 obtain ⟨f,fd,ps,hm,F,b⟩:=c.ex
 exact wvs he cl hm F hr b hx ht
end
end L2
namespace L2
open PySem
def hAt (hs:List Int)(k:Int):Int:=hs.getD k.toNat 0
def kF (hs:List Int)(t b:Int):Int:=if (hs.length:Int)-1-1<t/b then (hs.length:Int)-1-1 else t/b
def kf (hs:List Int)(t b:Int):Int:=hAt hs (kF hs t b)*b+(hAt hs (kF hs t b+1)-hAt hs (kF hs t b))*(t-kF hs t b*b)
theorem wy9 {hs:List Int}{t b:Int}(hl:2≤hs.length)(hb:1≤b)(h0:0≤t):0≤kF hs t b∧kF hs t b<(hs.length:Int)-1:=by
 have h:=iE h0 (show (0:Int)≤b by lia)
 unfold kF
 split <;> lia
theorem wyg {hs:List Int}{t b c:Int}(hc:1≤c):kF hs (t*c) (b*c)=kF hs t b:=by
 unfold kF
 rw [eo _ _ (show 0<c by lia)]
theorem qym {hs:List Int}{t b c:Int}(hc:1≤c):kf hs (t*c) (b*c)=kf hs t b*c:=by
 unfold kf
 rw [wyg hc]
 generalize hAt hs (kF hs t b)=u
 generalize hAt hs (kF hs t b+1)=v
 generalize kF hs t b=k
 grind
theorem div_in {k t b:Int}(hb:1≤b)(h1:k*b≤t)(h2:t<(k+1)*b):t/b=k:=by
 have a1:k≤t/b:=(fG (by lia)).mpr h1
 have a2:t/b<k+1:=(Int.ediv_lt_iff_lt_mul (by lia)).mpr h2
 lia
theorem qqj {hs:List Int}{k t b:Int}(hk:0≤k)(hk2:k<(hs.length:Int)-1)(hb:1≤b)(h1:k*b≤t)(h2:t≤(k+1)*b) :
  kf hs t b=hAt hs k*b+(hAt hs (k+1)-hAt hs k)*(t-k*b):=by
 by_cases hlt:t<(k+1)*b
 ·have e:=div_in hb h1 hlt
  have ek:kF hs t b=k:=by
   unfold kF
   rw [e]
   split <;> lia
  unfold kf
  rw [ek]
 ·have et:t=(k+1)*b:=by lia
  have e:t/b=k+1:=by
   rw [et]
   exact Int.mul_ediv_cancel _ (by lia)
  by_cases hn:(hs.length:Int)-1-1<k+1
  ·have ek:kF hs t b=k:=by
    unfold kF
    rw [e,av hn]
    lia
   unfold kf
   rw [ek]
  ·have ek:kF hs t b=k+1:=by
    unfold kF
    rw [e,ao hn]
   unfold kf
   rw [ek,et]
   generalize hAt hs k=u
   generalize hAt hs (k+1)=v
   generalize hAt hs (k+1+1)=z
   grind
def Zs (hs:List Int)(t b:Int):Int×Int:=wm (kf hs t b) b
theorem qzb {hs:List Int}{t b:Int}(hb:1≤b):Zs hs (wm t b).1 (wm t b).2=Zs hs t b:=by
 unfold Zs
 have hg:=j7 (t:=t) hb
 have e1:(wm t b).1*gOf t b=t:=by rw [eQ];exact qzx
 have e2:(wm t b).2*gOf t b=b:=by rw [eQ];exact Jw hb
 have h:=qym (hs:=hs) (t:=(wm t b).1) (b:=(wm t b).2) hg
 rw [e1,e2] at h
 rw [h]
 conv=>rhs;rw [←e2]
 rw [e2]
 have:=Jp (t:=kf hs (wm t b).1 (wm t b).2) (b:=(wm t b).2) (jq hb) hg
 rw [e2] at this
 exact this.symm
theorem qqz {t b:Int}(hb:1≤b):(wm t b).1<0↔t<0:=by
 have hg:=j7 (t:=t) hb
 have e1:gOf t b*(wm t b).1=t:=qzx
 constructor
 ·intro h
  have:=gD h (show 0<gOf t b by lia)
  rw [e1,Int.mul_zero] at this
  exact this
 ·intro h
  rcases cP (wm t b).1 0 with z|z
  ·exact z
  ·have:=aZ z (show 0≤gOf t b by lia)
   rw [e1,Int.mul_zero] at this
   lia
theorem wq7 {t b n:Int}(hb:1≤b):n*(wm t b).2<(wm t b).1↔n*b<t:=by
 have hg:=j7 (t:=t) hb
 have e1:gOf t b*(wm t b).1=t:=qzx
 have e2:gOf t b*(wm t b).2=b:=Jw hb
 have e3:gOf t b*(n*(wm t b).2)=n*b:=by
  generalize gOf t b=g at *
  generalize (wm t b).2=y at *
  grind
 constructor
 ·intro h
  have:=gD h (show 0<gOf t b by lia)
  rw [e1,e3] at this
  exact this
 ·intro h
  rcases cP (n*(wm t b).2) (wm t b).1 with z|z
  ·exact z
  ·have:=aZ z (show 0≤gOf t b by lia)
   rw [e1,e3] at this
   lia
theorem qzf {N b:Int}(hb:1≤b):b%(wm N b).2=0∧(wm N b).1*(b/(wm N b).2)=N:=by
 have hy:=jq (t:=N) hb
 have cr:=jc (t:=N) hb
 have hd:(wm N b).2∣b:=⟨gOf N b,by rw [eQ];exact (Jw hb).symm⟩
 refine ⟨Int.emod_eq_zero_of_dvd hd,?_⟩
 have e:=fS hd
 generalize b/(wm N b).2=q at *
 generalize (wm N b).1=x at *
 generalize (wm N b).2=y at *
 have:y*(x*q-N)=0:=by grind
 rcases Int.mul_eq_zero.mp this with h|h <;> lia
theorem wjf {u v b d:Int}(hb:0≤d)(hd:d≤b):(if v<u then v else u)*b≤u*b+(v-u)*d∧u*b+(v-u)*d≤(if v>u then v else u)*b:=by
 by_cases h:v<u
 ·rw [av h,ao (by lia)]
  have a1:=aZ hd (show 0≤u-v by lia)
  have a2:=cZ (show 0≤u-v by lia) hb
  constructor <;> grind
 ·rw [ao h]
  have a1:=aZ hd (show 0≤v-u by lia)
  have a2:=cZ (show 0≤v-u by lia) hb
  by_cases h2:v>u
  ·rw [av h2]
   constructor <;> grind
  ·rw [ao h2]
   have:v=u:=by lia
   subst this
   constructor <;> grind
end L2
namespace L2
open PySem PySem.Spec PyProof.Rows
def qv3 (J:It)(M:List Nat)(tt:TT)(te:TE)(σ:St)(H1:Hp)(Q:VK):Prop:=∀p,H1 p=none→∃W:Nat→Nat→List V→Hp→Prop,(∃m,W 0 m [] (upd H1 p (.lst []))) ∧
 ∀i m ys H2,W i m ys H2→H2 p=some (.lst ys)∧ys.length<sizeLine∧((J.stop i H2∧Q (.ref p) H2)∨(J.go i H2∧∀v H3,J.yld i H2 v H3 →
  tt (zx M σ (some v)) H3 λb H4=>if b=true then te (zx M σ (some v)) H4 (λy H5=>H5 p=some (.lst ys)∧∃m',m'<m∧W (i+1) m' (ys++[y]) (upd H5 p (.lst (ys++[y])))) else H4 p=some (.lst ys)∧∃m',m'<m∧W (i+1) m' ys H4))
def tCompI (M:List Nat)(wi:TI)(tt:TT)(te:TE):TE:=λσ H Q=>wi σ H λJ H1=>qv3 J M tt te σ H1 Q
section
variable {X:Cx}{elt iter cd:Expr}{x:Str}{px pos:Pos}{scope:Scope}{cl:List (Str×Aj)}{M:List Nat}{wi:TI}{tt:TT}{te:TE}
theorem wzh (hc:X.calm=true)(hclos:closureFor scope X.env=pure cl)(hcap:CapAll X.env cl)(hhas:HasAll cl scope.names)(hix:CapIx X scope cl M)(hk:scope.kind=.function)
  (hnames:∀y∈scope.names,y.2=.local→scope.names.lookup y.1=some .local) (hx:scope.names.lookup x=some .local) (hnd:(j6 X x M).Nodup) (hi:PI X (.Name x px) iter wi)
  (ht:∀C s2 H2 fp pn,PT (x9 X scope cl x M C s2 H2 fp pn) cd tt) (he:∀C s2 H2 fp pn,PE (x9 X scope cl x M C s2 H2 fp pn) elt te) (hs:∀z,foldedSetIterable iter X.env z=pure z)
  {use:Option (Ag→Sem Unit)} {QQ:Ag→Ab→Prop} {pins:List (Aj×Obj)} {s:Ab} {σ:St} {H:Hp} {Q:VK} {ps:Pos} (I:Inv X pins σ H s) (h:wi σ H λJ H1=>qv3 J M tt te σ H1 Q)
  (fin:∀(C:Aj) (s2 s4:Ab) (H1 H2:Hp) (fp:List Aj),Inv X pins σ H1 s2→s2.heap.objs.size<C→(∀b∈fp,vz X pins H1 b)→Inv (x9 X scope cl x M C s2 H1 fp (X.pn++pins)) [] (zx M σ none) H2 s4→Q (.ref s2.heap.objs.size) H2 →
   compPost (model X.prog X.w) X.A X.xe use QQ (.ref s2.heap.objs.size) C (.ok .next) s4) :
  wpAny (model X.prog X.w) X.A (comprehension (.ListComp elt [⟨.Name x px,iter,[cd],0⟩] scope pos) scope X.env ps (newList []) false (eval iter X.env) use) QQ X.xe s:=by
 refine Qt hclos hhas hk hnames hi hs I h λit fp tn J H1 s2 C h3 tk I2 T t3 hfp hbl hob hR hlt keep hns hD=>?_
 obtain ⟨W,⟨m0,w0⟩,hW⟩:=hR s2.heap.objs.size (I2.hok.fresh (aj _))
 have hxl:(relabel scope X.env).names.lookup x=some .local:=cY hx
 refine kr (Y:=x9 X scope cl x M C s2 H1 fp (X.pn++pins)) (V:=λi n H2=>∃ys,W i n ys H2) (Qd:=Q (.ref s2.heap.objs.size)) (REST:=qu1 cd (compEnvC scope cl C X.env) (qyh elt (.ref s2.heap.objs.size) (compEnvC scope cl C X.env) _) (again _)) T hc (λ_ _ z=>z) (compTurn_list ..) rfl rfl (wt (i:=0) hnd rfl (.inl hxl) (.inr hxl)) (Q5 hcap I2 hlt hfp hbl) (λi n H2 ⟨ys,w⟩=>?_) (λH2 s4 J4 q=>fin C s2 s4 H1 H2 fp I2 hlt hfp J4 q) (I2.comp hcap hhas hix hk hlt keep hns hD hfp hob) ⟨[],w0⟩ t3 λb hb=>by rw [qr (aB (hbl b hb))];exact (hfp b hb).1
 obtain ⟨hp,hz,hcase⟩:=hW i n ys H2 w
 refine hcase.imp id λ⟨hgo,hy⟩=>⟨hgo,λv H3 yl=>⟨λσ4 H4=>σ4=zx M σ (some v)∧H3=H4,⟨rfl,rfl⟩,λ_ _ e=>?_⟩⟩
 obtain ⟨rfl,rfl⟩:=e
 refine ⟨jt M σ v,λpins' s' J=>?_⟩
 exact Qp (ht _ _ _ _ _) J (hy v H3 yl) (λs6 H6 J6 h6=>aL (W5 (N:=λzs H5=>∃m',m'<n∧W (i+1) m' zs H5) (λ_ _ z=>z) (he _ _ _ _ _) J6 hz h6) (λr s5 ⟨e,H5,J5,zs,m',hm,w'⟩=>⟨e,H5,J5,m',hm,zs,w'⟩) λ_ _ z=>z)
  λs6 H6 J6 ⟨_,m',hm,w'⟩=>ah ⟨rfl,H6,J6,m',hm,ys,w'⟩
theorem qqs (hc:X.calm=true)(hclos:closureFor scope X.env=pure cl)(hcap:CapAll X.env cl)(hhas:HasAll cl scope.names)(hix:CapIx X scope cl M)(hk:scope.kind=.function)
  (hnames:∀y∈scope.names,y.2=.local→scope.names.lookup y.1=some .local) (hx:scope.names.lookup x=some .local) (hnd:(j6 X x M).Nodup) (hi:PI X (.Name x px) iter wi)
  (ht:∀C s2 H2 fp pn,PT (x9 X scope cl x M C s2 H2 fp pn) cd tt) (he:∀C s2 H2 fp pn,PE (x9 X scope cl x M C s2 H2 fp pn) elt te) (hs:∀z,foldedSetIterable iter X.env z=pure z:=by intro _;rfl) :
  PE X (.ListComp elt [⟨.Name x px,iter,[cd],0⟩] scope pos) (tCompI M wi tt te):=by
 intro pins s σ H Q I h
 rw [hU]
 refine wzh hc hclos hcap hhas hix hk hnames hx hnd hi ht he hs (use:=none) I h λC s2 s4 H1 H2 fp I2 hlt hfp J4 hq=>?_
 obtain ⟨m,hn,_⟩:=J4.loc
 exact ⟨m,hn,λh' hs'=>⟨.ref s2.heap.objs.size,H2,I2.uncomp (bf hlt) hfp J4 hs',rfl,hq⟩⟩
end
theorem wwz {i:Int}{acc:Array Ag}{n:Nat}(h:ItemsOf (λk v=>∃t,v=.int (i+k*1) t) acc n):Vals ((List.range n).map λk:Nat=>V.int (i+k)) acc.toList:=by
 obtain ⟨h1,h2⟩:=h
 have key:∀(l:List Ag) (b m:Nat),l.length=m→(∀(j:Nat) v,l[j]?=some v→∃t,v=.int (i+((b+j:Nat):Int)*1) t)→Vals ((List.range' b m).map λk:Nat=>V.int (i+k)) l:=by
  intro l
  induction l with
  |nil=>intro b m hm _;subst hm;exact .nil
  |cons x r ih =>
   intro b m hm hj
   subst hm
   rw [aQ,List.range'_succ,aN]
   refine .cons ?_ (ih (b+1) r.length rfl λj v e=>?_)
   ·obtain ⟨t,e⟩:=hj 0 x rfl
    refine ⟨t,?_⟩
    rw [e]
    simp
   ·obtain ⟨t,e'⟩:=hj (j+1) v e
    refine ⟨t,?_⟩
    rw [e',show b+1+j=b+(j+1) by lia]
 have:=key acc.toList 0 n (by simpa using h1) (λj v e=>by
  obtain ⟨t,e'⟩:=h2 j v (by simpa using e)
  exact ⟨t,by rw [e'];simp⟩)
 rwa [←List.range_eq_range'] at this
def tLR (ta:TA):TE:=λσ H Q=>ta σ H λvs H1=>∃i j:Int,vs=[.int i,.int j]∧(-(2 ^ 40)≤i∧i<2 ^ 40∧-(2 ^ 40)≤j∧j<2 ^ 40)∧(j-i).toNat≤1000000∧∀q,H1 q=none→Q (.ref q) (upd H1 q (.lst ((List.range (j-i).toNat).map λk:Nat=>V.int (i+k))))
theorem qx3 {X:Cx}{a b:Expr}{ta:TA}{p1 pos1 p2 pos2:Pos}(hc:X.calm=true)(hgl:Gl X "list")(hml:X.mg "list" = none)(hg:Gl X "range")(hm:X.mg "range" = none)(ha:PA X [a,b] ta)
  (hs:starEach [a,b] X.env=[(false,eval a X.env),(false,eval b X.env)]:=by rfl) (hs2:starEach [b] X.env=[(false,eval b X.env)]:=by rfl) (hs3:starEach [(.Call (.Name "range" p1) [a,b] [] pos1)] X.env=[(false,eval (.Call (.Name "range" p1) [a,b] [] pos1) X.env)]:=by rfl) :
  PE X (.Call (.Name "list" p2) [.Call (.Name "range" p1) [a,b] [] pos1] [] pos2) (tLR ta):=by
 intro pins s σ H Q I h
 refine cV (yu I hgl hml d8 ?_)
 refine bN (e:=.Call (.Name "range" p1) [a,b] [] pos1) (rest:=[]) ?_ hs3 rfl
 rw [hs3]
 show wpAny _ _ (spliced ((false,eval (.Call (.Name "range" p1) [a,b] [] pos1) X.env)::[])) _ _ s
 refine Calls.spliced_cons ?_
 refine Call_ (yu I hg hm boot_range (bN (thn (ha pos1 pins s σ H _ I h) λus s1 ⟨vs,H1,I1,r1,q1⟩=>?_) (by rw [hs,hs2]) (by rw [hs2];rfl)))
 obtain ⟨i,j,e,⟨q1,q2,q3,q4⟩,q5,q⟩:=q1
 subst e
 cases r1 with
 |cons r rr =>
  cases rr with
  |cons r' rr =>
   cases rr
   obtain ⟨t,rfl⟩:=r
   obtain ⟨t',rfl⟩:=r'
   refine call_range_2 (Calls.spliced_nil ?_)
   have I2:Inv X pins σ H1 { s1 with heap:=s1.heap.push { cls:=.type "range",data:=.fields #[.int i t,.int j t',.int 1 s1.toks] },toks:=s1.toks+1 }:=I1.kept λb o e=>ai _ e
   refine call_list_range (n:=(j-i).toNat) (I2.ok.hd hc) (IsRange.new ..) (small_one (by lia) (by lia) (by lia) (by lia)) (rangeSize_nat _ _) (by lia) λh' tk acc' c' kp e hit=>?_
   have hl:((List.range (j-i).toNat).map λk:Nat=>V.int (i+k)).length≤sizeLine:=by
    rw [ag,aH]
    have:(1000000:Nat)<sizeLine:=by decide
    lia
   exact ⟨.ref _,_,I2.laid (t':=tk) kp (aj _) (show ObjOk X.prog X.w _ h' _ (.lst _) from ⟨hl,acc'.toList,c',wwz hit,by simpa using e⟩),rfl,q _ (I2.hok.fresh (aj _))⟩
end L2
namespace L2
open PySem PySem.Spec PyProof.Rows
structure FunD (K:Aa)(x:Str)(st:Stmt)(f:Aj)(fd:Ad):Prop where
 ex:∃(oc:Ag) (od:Option Aj) (T:Aj) (kV doc pm:Ag) (an:Option Aj) (cdv ct:Ag) (osl:Array (Option Ag)),
  fd=PySem.W.fnOf x x (vm st) (zm st) (qt st) (.ref T) kV doc pm an cdv ct∧K.lookup f=some ⟨oc,od,.func fd,osl⟩∧PySem.W.codeIn K cdv x=true∧∃o n,K.lookup T=some o∧o.data=.seq #[.none] n
 kp:PySem.W.keepIn K (.ref f)=true
structure DefInD (K:Aa)(x:Str)(st:Stmt):Prop where
 ex:∃f fd,PySem.W.nsIn K mainGlobals x=some (some (.ref f))∧FunD K x st f fd
section
variable {P:Ac}{w:Ah}{K:Aa}{mg:Str→Option Ag}{base:Heap}
theorem xqp {x:Str}{st:Stmt}{f T:Aj}{oc:Ag}{od an:Option Aj}{osl:Array (Option Ag)}{kV doc pm cdv ct:Ag}(a:PySem.W.nsIn K mainGlobals x=some (some (.ref f)))
  (l:K.lookup f=some ⟨oc,od,.func (PySem.W.fnOf x x (vm st) (zm st) (qt st) (.ref T) kV doc pm an cdv ct),osl⟩) (c:PySem.W.codeIn K cdv x=true) (k:PySem.W.keepIn K (.ref f)=true) {tc:Ag} {td:Option Aj} {tn:Nat} {ts:Array (Option Ag)} (t:K.lookup T=some ⟨tc,td,.seq #[.none] tn,ts⟩):DefInD K x st:=⟨_,_,a,⟨oc,od,T,kV,doc,pm,an,cdv,ct,osl,rfl,l,c,_,_,t,rfl⟩,k⟩
theorem FunD.okX {x:Str}{st:Stmt}{f:Aj}{fd:Ad}{N ps:List Str}{k:Nat}{sp:Sp}(F:FunD K x st f fd)(S:FnScope N ps (qt st))(len:∀vs H Q E,sp vs H Q E→vs.length=ps.length)
  (body:∀(cdv:Ag) (A:Ae) (outer:List Env) (s:Ab) (H:Hp) (vs:List V) (Q:VK) (E:XK),Room k (A.deeper (envOfC x (qt st) s.heap.objs.size f cdv))→sp vs H Q E →
   ∃t,PSs (qwx (CXE P w) P w K mg base N x (qt st) f cdv A outer s H E) (zm st) t∧t { nx:=λ_ H'=>Q .non H',rt:=Q } (Wj N vs) H):FnOk P w K mg base (CXE P w) (k+1) f fd ps sp:=by
 obtain ⟨oc,od,T,kV,doc,pm,an,cdv,ct,osl,rfl,lk,hcd,_⟩:=F.ex
 exact wy4 lk hcd S len λA outer s H vs Q E hr hsp=>body cdv A outer s H vs Q E hr hsp
def W8 (x:Str)(st:Stmt)(ps:List Str)(ds:List Ag):Prop:=∀(T:Aj) (kV doc pm:Ag) (an:Option Aj) (cdv ct:Ag) (us:List Ag),(us++ds).length=ps.length →
 ∃kk,bindArgs (PySem.W.fnOf x x (vm st) (zm st) (qt st) (.ref T) kV doc pm an cdv ct) ⟨us,[]⟩=seqItems? (.ref T) >>= kk∧kk (some #[.none])=pure (ps.zip (us++ds))
structure CalD (P:Ac)(w:Ah)(K:Aa)(mg:Str→Option Ag)(base:Heap)(x:Str)(k:Nat)(sp:Sp):Prop where
 ex:∃f fd ps,mg x=some (.ref f)∧FnOk P w K mg base (CXE P w) k f fd ps sp∧PySem.W.keepIn K (.ref f)=true∧Binds K fd ps []∧Binds K fd ps [.none]
theorem FunD.binds {x:Str}{st:Stmt}{f:Aj}{fd:Ad}{ps:List Str}{ds:List Ag}(F:FunD K x st f fd)(b:W8 x st ps ds):Binds K fd ps ds:=by
 obtain ⟨oc,od,T,kV,doc,pm,an,cdv,ct,osl,rfl,lk,hcd,o,n,e1,e2⟩:=F.ex
 intro s us X hl
 obtain ⟨kk,h1,h2⟩:=b T kV doc pm an cdv ct us hl
 exact PySem.W.binds_K X rfl e1 e2 h1 h2
theorem DefInD.cal {x:Str}{st:Stmt}{ps:List Str}{k:Nat}{sp:Sp}{h:Heap}(d:DefInD K x st)(KX:K.In h)(G:h.Ns mainGlobals mg)(b:W8 x st ps [])(b':W8 x st ps [.none])(ok:∀f fd,FunD K x st f fd→FnOk P w K mg base (CXE P w) k f fd ps sp):CalD P w K mg base x k sp:=by
 obtain ⟨f,fd,a,F⟩:=d.ex
 exact ⟨f,fd,ps,bI KX G a,ok f fd F,F.kp,F.binds b,F.binds b'⟩
theorem CalD.all {x:Str}{k:Nat}{sp:Sp}(c:CalD P w K mg base x k sp):Cal P w K mg base x k sp:=by
 obtain ⟨f,fd,ps,h1,h2,h3,h4,_⟩:=c.ex
 exact ⟨f,fd,ps,h1,h2,h3,h4⟩
end
section
variable {X:Cx}{x:Str}{k:Nat}{sp:Sp}{E:St→XK}{p pos:Pos}{e:Expr}{es:List Expr}{t:TA}
end
end L2
namespace L2
open PySem PySem.Spec PyProof.Rows
section
variable {κ:Type}[DecidableEq κ]
def yc (kvs:List (κ×V))(k:κ):Option V:=(kvs.find? λkv=>decide (kv.1=k)).map (·.2)
def Yg (kvs:List (κ×V))(k:κ)(v:V):List (κ×V) :=
 if (kvs.any λkv=>decide (kv.1=k))=true then kvs.map (λkv=>if kv.1=k then (kv.1,v) else kv) else kvs++[(k,v)]
theorem j3 {p:κ×V}{r:List (κ×V)}{k:κ}(e:p.1=k):yc (p::r) k=some p.2:=by simp [yc,eA,e]
theorem jp {p:κ×V}{r:List (κ×V)}{k:κ}(e:¬ p.1=k):yc (p::r) k=yc r k:=by simp [yc,eA,e]
theorem qw8 (k:κ):∀kvs:List (κ×V),(kvs.any λkv=>decide (kv.1=k))=(yc kvs k).isSome
 |[]=>rfl
 |p::r=>by
  rw [iZ]
  by_cases e:p.1=k
  ·simp only [j3 e,aT e,Bool.true_or,Option.isSome_some]
  ·rw [jp e,bp e,Bool.false_or];exact qw8 k r
theorem qz3 (k j:κ)(y:V):∀kvs:List (κ×V),yc kvs k=none→yc (kvs++[(k,y)]) j=if j=k then some y else yc kvs j
 |[],_=>by
  by_cases e:k=j
  ·rw [av e.symm];exact j3 (p:=(k,y)) e
  ·rw [ao (λz=>e z.symm)];exact jp (p:=(k,y)) e
 |p::r,hn=>by
  rw [List.cons_append]
  have hk:¬ p.1=k:=λz=>by rw [j3 z] at hn;cases hn
  rw [jp hk] at hn
  have ih:=qz3 k j y r hn
  by_cases e:p.1=j
  ·rw [j3 e,j3 e,ao (λz=>hk (e.trans z))]
  ·rw [jp e,jp e,ih]
theorem Jq (kvs:List (κ×V))(k:κ)(v:V):(Yg kvs k v).length≤kvs.length+1:=by
 unfold Yg
 split
 ·rw [ag];lia
 ·rw [am,aQ,eB];lia
theorem wy3 {kvs:List (κ×V)}{k:κ}(v:V)(h:yc kvs k=none):Yg kvs k v=kvs++[(k,v)]:=by
 unfold Yg
 rw [qw8,h]
 exact ao (by decide)
theorem RelO.isSome_eq {o:Option V}{u:Option Ag}(r:RelO o u):o.isSome=u.isSome:=by
 cases o with
 |none=>cases u with
  |none=>rfl
  |some _=>exact (show False from r).elim
 |some _=>cases u with
  |none=>exact (show False from r).elim
  |some _=>rfl
theorem KV.val {kvs:List (κ×V)}{vs:List (κ×Ag)}(r:KV kvs vs)(k:κ):RelO (yc kvs k) (valueAt vs k):=by
 unfold KV at r
 induction r with
 |nil=>exact True.intro
 |@cons p q ps qs h t ih =>
  obtain ⟨h1,h2⟩:=h
  by_cases e:p.1=k
  ·have e':q.1=k:=h1.symm.trans e
   have b:valueAt (q::qs) k=some q.2:=by simp [valueAt,eA,e']
   rw [j3 e,b];exact h2
  ·have e':¬ q.1=k:=λz=>e (h1.trans z)
   have b:valueAt (q::qs) k=valueAt qs k:=by simp [valueAt,eA,e']
   rw [jp e,b];exact ih
theorem KV.any {kvs:List (κ×V)}{vs:List (κ×Ag)}(r:KV kvs vs)(k:κ):(kvs.any λkv=>decide (kv.1=k))=vs.any λkv=>decide (kv.1=k):=by
 unfold KV at r
 induction r with
 |nil=>rfl
 |cons h t ih=>rw [iZ,iZ,ih,h.1]
theorem KV.repl {kvs:List (κ×V)}{vs:List (κ×Ag)}(r:KV kvs vs)(k:κ){y:V}{u:Ag}(ry:RelV y u) :
  KV (kvs.map λkv=>if kv.1=k then (kv.1,y) else kv) (vs.map λkv=>if kv.1=k then (kv.1,u) else kv):=by
 unfold KV at r ⊢
 induction r with
 |nil=>exact .nil
 |@cons p q ps qs h t ih =>
  rw [aN,aN]
  refine .cons ?_ ih
  obtain ⟨h1,h2⟩:=h
  by_cases e:p.1=k
  ·rw [av e,av (h1.symm.trans e)];exact ⟨h1,ry⟩
  ·rw [ao e,ao (λz=>e (h1.trans z))];exact ⟨h1,h2⟩
theorem KV.put {kvs:List (κ×V)}{vs:List (κ×Ag)}(r:KV kvs vs)(k:κ){y:V}{u:Ag}(ry:RelV y u):KV (Yg kvs k y) (stored vs k u):=by
 unfold Yg stored
 rw [r.any k]
 by_cases e:(vs.any λkv=>decide (kv.1=k))=true
 ·rw [av e,av e];exact r.repl k ry
 ·rw [ao e,ao e];exact Paired.snoc r ⟨rfl,ry⟩
theorem KV.length {kvs:List (κ×V)}{vs:List (κ×Ag)}(r:KV kvs vs):kvs.length=vs.length:=bT r
end
theorem wwr {P:Ac}{w:Ah}{k:Key}{u:Ag}(r:RelV (kV k) u):(zr P w).is k u=true:=by
 cases k with
 |inl i=>obtain ⟨t,e⟩:=(show ∃t,u=Value.int i t from r);subst e;exact quu P w i t
 |inr x=>obtain ⟨t,e⟩:=(show ∃t,u=Value.str x t from r);subst e;exact qy9 P w x t
theorem qzj {P:Ac}{w:Ah}:∀ {ks:List Key} {us:List Ag},Vals (ks.map kV) us→ItemsAre (zr P w) ks us
 |[],_,r=>by rw [dJ] at r;cases r;exact .nil
 |k::ks,_,r=>by
  rw [aN] at r
  cases r with
  |cons h t=>exact .cons (wwr h) (qzj t)
abbrev KT (H:Hp):List (List Key×V)→List (List Key×Aj×Ag)→Prop:=Paired λp q=>p.1=q.1∧H q.2.1=some (.tup (p.1.map kV))∧RelV p.2 q.2.2
theorem KT.val {H:Hp}{kvs:List (List Key×V)}{xs:List (List Key×Aj×Ag)}(r:KT H kvs xs)(k:List Key):RelO (yc kvs k) ((atKey xs k).map (·.2)):=by
 induction r with
 |nil=>exact True.intro
 |@cons p q ps qs h t ih =>
  obtain ⟨h1,_,h2⟩:=h
  by_cases e:p.1=k
  ·have e':q.1=k:=h1.symm.trans e
   have b:atKey (q::qs) k=some q.2:=by simp [atKey,eA,e']
   rw [j3 e,b];exact h2
  ·have e':¬ q.1=k:=λz=>e (h1.trans z)
   have b:atKey (q::qs) k=atKey qs k:=by simp [atKey,eA,e']
   rw [jp e,b];exact ih
theorem KT.repl {H:Hp}{kvs:List (List Key×V)}{xs:List (List Key×Aj×Ag)}(r:KT H kvs xs)(k:List Key){y:V}{u:Ag}(ry:RelV y u) :
  KT H (kvs.map λkv=>if kv.1=k then (kv.1,y) else kv) (xs.map (putAt k u)):=by
 induction r with
 |nil=>exact .nil
 |@cons p q ps qs h t ih =>
  rw [aN,aN]
  refine .cons ?_ ih
  obtain ⟨h1,h2,h3⟩:=h
  unfold putAt
  by_cases e:p.1=k
  ·rw [av e,av (h1.symm.trans e)];exact ⟨h1,h2,ry⟩
  ·rw [ao e,ao (λz=>e (h1.trans z))];exact ⟨h1,h2,h3⟩
theorem KT.put {H:Hp}{kvs:List (List Key×V)}{xs:List (List Key×Aj×Ag)}(r:KT H kvs xs)(k:List Key){b:Aj}{y:V}{u:Ag}(hb:H b=some (.tup (k.map kV)))(ry:RelV y u) :
  KT H (Yg kvs k y) (storedH xs k b u):=by
 have e:(kvs.any λkv=>decide (kv.1=k))=(atKey xs k).isSome:=by
  rw [qw8,(r.val k).isSome_eq,Option.isSome_map]
 unfold Yg storedH
 rw [e]
 by_cases q:(atKey xs k).isSome=true
 ·rw [av q,av q];exact r.repl k ry
 ·rw [ao q,ao q];exact Paired.snoc r ⟨rfl,hb,ry⟩
theorem KT.keeps {H H':Hp}{kvs:List (List Key×V)}{xs:List (List Key×Aj×Ag)}(r:KT H kvs xs)(ht:∀b ys,H b=some (.tup ys)→H' b=some (.tup ys)):KT H' kvs xs :=
 Paired.mapP r λ_ _ z=>⟨z.1,ht _ _ z.2.1,z.2.2⟩
section
variable {P:Ac}{w:Ah}{H:Hp}{h:Heap}{a:Aj}
theorem rd_of {u:HO}(ok:HOk P w H h)(e:Rd H a u):ObjOk P w H h a u:=e.ok ok
theorem wxy {kvs:List (Key×V)}(ok:HOk P w H h)(e:Rd H a (.dK kvs)):kvs.length≤sizeLine∧(a==sysModules)=false∧∃vs,KV kvs vs∧h.DictOf (zr P w) a vs :=
 show ObjOk P w H h a (.dK kvs) from rd_of ok e
theorem dk_of {kvs:List (Key×V)}(ok:HOk P w H h)(e:H a=some (.dK kvs)):kvs.length≤sizeLine∧(a==sysModules)=false∧∃vs,KV kvs vs∧h.DictOf (zr P w) a vs:=wxy ok (.inl e)
theorem Ys {ks:List Key}(ok:HOk P w H h)(e:H a=some (.tup (ks.map kV))):(tupleKind (zr P w)).is h ks a:=by
 obtain ⟨_,its,r,o,h1,h2,n,h3⟩:=(show ObjOk P w H h a (.tup (ks.map kV)) from ok a _ e)
 exact ⟨o,its.toArray,n,h1,h2,h3,by simpa using qzj r⟩
theorem wxq {kvs:List (List Key×V)}(ok:HOk P w H h)(e:Rd H a (.dT kvs)):kvs.length≤sizeLine∧(a==sysModules)=false ∧
  ∃xs,KT H kvs xs∧h.DictOfH (tupleKind (zr P w)) a xs:=by
 obtain ⟨z,y,xs,r,o,es,ep,h1,h2,h3,h4,h5⟩:=(show ObjOk P w H h a (.dT kvs) from rd_of ok e)
 refine ⟨z,y,xs,r,o,es,ep,h1,h2,h3,h4,λx hx=>?_,h5⟩
 have all:∀ {l:List (List Key×V)} {m:List (List Key×Aj×Ag)},KT H l m→∀x∈m,(tupleKind (zr P w)).is h x.1 x.2.1:=by
  intro l m q
  induction q with
  |nil=>intro x hx;exact nomatch hx
  |@cons p q ps qs hq t ih =>
   intro x hx
   rcases aM.mp hx with e|hx
   ·subst e
    exact Ys ok (by rw [←hq.1];exact hq.2.1)
   ·exact ih x hx
 exact all r x hx
theorem dt_of {kvs:List (List Key×V)}(ok:HOk P w H h)(e:H a=some (.dT kvs)):kvs.length≤sizeLine∧(a==sysModules)=false ∧
  ∃xs,KT H kvs xs∧h.DictOfH (tupleKind (zr P w)) a xs:=wxq ok (.inl e)
end
def DGet (H:Hp)(a:Aj)(y:V)(r:Option V):Prop :=
 (∃kvs k,Rd H a (.dK kvs)∧y=kV k∧r=yc kvs k)∨∃kvs k b,Rd H a (.dT kvs)∧y=.ref b∧H b=some (.tup (k.map kV))∧r=yc kvs k
def DPut (H:Hp)(a:Aj)(y v:V)(H':Hp):Prop :=
 (∃kvs k,H a=some (.dK kvs)∧y=kV k∧kvs.length<sizeLine∧H'=upd H a (.dK (Yg kvs k v))) ∨
 ∃kvs k b,H a=some (.dT kvs)∧y=.ref b∧H b=some (.tup (k.map kV))∧kvs.length<sizeLine∧H'=upd H a (.dT (Yg kvs k v))
theorem DGet.t {H:Hp}{a b:Aj}{kvs:List (List Key×V)}{k:List Key}(e:H a=some (.dT kvs))(eb:H b=some (.tup (k.map kV))):DGet H a (.ref b) (yc kvs k):=.inr ⟨kvs,k,b,.inl e,rfl,eb,rfl⟩
theorem DPut.t {H:Hp}{a b:Aj}{kvs:List (List Key×V)}{k:List Key}{v:V}(e:H a=some (.dT kvs))(eb:H b=some (.tup (k.map kV)))(hl:kvs.length<sizeLine) :
  DPut H a (.ref b) v (upd H a (.dT (Yg kvs k v))):=.inr ⟨kvs,k,b,e,rfl,eb,hl,rfl⟩
section
variable {X:Cx}{pins:List (Aj×Obj)}{σ:St}{H:Hp}{s:Ab}{a:Aj}{y v:V}{u r:Ag}{o:Option V}{A:Ae}{E:Ag→Ab→Prop}
theorem Inv.big (I:Inv X pins σ H s):sysModules<s.heap.objs.size:=by
 have h:mainGlobals<s.heap.objs.size:=(I.mod.glob.keeps I.bk).lt
 exact bg (by decide) h
theorem wvd {Q:Ag→Ab→Prop}(hu:A.units+1<cLine)(I:Inv X pins σ H s)(g:DGet H a y (some v))(ry:RelV y u)(h:∀w' s',Inv X pins σ H s'→RelV v w'→Q w' s') :
  wpAny (model X.prog X.w) A (getItem (.ref a) u) Q E s:=by
 rcases g with ⟨kvs,k,e,ey,l⟩|⟨kvs,k,b,e,ey,eb,l⟩
 ·subst ey
  obtain ⟨z,hd,vs,rel,dd⟩:=wxy I.hok e
  obtain ⟨w',hw,rw'⟩:=RelO.some_of (v:=v) (o:=valueAt vs k) (by rw [l];exact rel.val k)
  exact wpAny_getItem_of (wwr ry) dd.mapOf hw (h w' _ (I.tok _) rw')
 ·subst ey
  cases (show u=Value.ref b from ry)
  obtain ⟨z,hd,xs,rel,dd⟩:=wxq I.hok e
  obtain ⟨w',hw,rw'⟩:=RelO.some_of (v:=v) (o:=(atKey xs k).map (·.2)) (by rw [l];exact rel.val k)
  obtain ⟨p,hp,hp2⟩:=d9.mp hw
  refine wpAny_getItem_heap (gE hu) (Ys I.hok eb) dd hp ?_
  rw [hp2]
  exact h w' _ (I.tok _) rw'
theorem xqn {Q:Ag→Ab→Prop}(hu:A.units+1<cLine)(I:Inv X pins σ H s)(g:DGet H a y o)(ry:RelV y u)(h:∀s',Inv X pins σ H s'→Q (.bool (!o.isSome)) s') :
  wpAny (model X.prog X.w) A (compareOp .NotIn u (.ref a)) Q E s:=by
 rcases g with ⟨kvs,k,e,ey,l⟩|⟨kvs,k,b,e,ey,eb,l⟩
 ·subst ey
  obtain ⟨z,hd,vs,rel,dd⟩:=wxy I.hok e
  refine wpAny_notIn_of (wwr ry) hd dd.mapOf ?_
  rw [← (rel.val k).isSome_eq,←l]
  exact h _ (I.tok _)
 ·subst ey
  cases (show u=Value.ref b from ry)
  obtain ⟨z,hd,xs,rel,dd⟩:=wxq I.hok e
  refine wpAny_notIn_heap (gE hu) (Ys I.hok eb) hd dd ?_
  have q:=(rel.val k).isSome_eq
  rw [Option.isSome_map] at q
  rw [←q,←l]
  exact h _ (I.tok _)
theorem qqx {h':Heap}{t':Nat}{ob:HO}(I:Inv X pins σ H s)(mu:Mut (H a))(hs:Heap.SameBut a s.heap h')(he:∃q,h'.get? a=some q)(new:ObjOk X.prog X.w (upd H a ob) h' a ob) :
  Inv X pins σ (upd H a ob) { s with heap:=h',toks:=t' } :=
 I.write (x:=a) (e:=a) mu (.inl rfl) (λb q hb z=>(hs.2 b hb).trans z) he new
theorem dk_new {P:Ac}{w:Ah}{H':Hp}{h':Heap}{kvs:List (Key×V)}{vs:List (Key×Ag)}(z:kvs.length≤sizeLine)(hd:(a==sysModules)=false)(rel:KV kvs vs)(dd:h'.DictOf (zr P w) a vs) :
  ObjOk P w H' h' a (.dK kvs):=⟨z,hd,vs,rel,dd⟩
theorem wv2 {H':Hp}{Q:Unit→Ab→Prop}(hu:A.units+1<cLine)(I:Inv X pins σ H s)(g:DPut H a y v H')(ry:RelV y u)(rv:RelV v r)(h:∀s',Inv X pins σ H' s'→Q () s') :
  wpAny (model X.prog X.w) A (setItem (.ref a) u r) Q E s:=by
 rcases g with ⟨kvs,k,e,ey,l,eH⟩|⟨kvs,k,b,e,ey,eb,l,eH⟩
 ·subst ey eH
  obtain ⟨z,hd,vs,rel,dd⟩:=dk_of I.hok e
  have hz:vs.length≤sizeLine:=by rw [←rel.length];exact z
  have hl:(Yg kvs k v).length≤sizeLine:=by have:=Jq kvs k v;lia
  refine wpAny_setItem_pairs (hsz:=hz) (wwr ry) dd λh' dd' hs=>h _ ?_
  have he:∃q,h'.get? a=some q:=let ⟨q,_,_,hq,_⟩:=dd';⟨q,hq⟩
  exact qqx I (by rw [e];exact True.intro) hs he (dk_new hl hd (rel.put k rv) dd')
 ·subst ey eH
  cases (show u=Value.ref b from ry)
  obtain ⟨z,hd,xs,rel,dd⟩:=dt_of I.hok e
  have hz:xs.length≤sizeLine:=by rw [←bT rel];exact z
  have hl:(Yg kvs k v).length≤sizeLine:=by have:=Jq kvs k v;lia
  refine wpAny_setItem_heap (hsz:=hz) (gE hu) (Ys I.hok eb) dd λh' dd' hs=>h _ ?_
  obtain ⟨q,es,ep,hq,h2,h3,h4,_,h5⟩:=dd'
  refine qqx I (by rw [e];exact True.intro) hs ⟨q,hq⟩ ⟨hl,hd,_,(rel.put k eb rv).keeps λc ys ec=>?_,q,es,ep,hq,h2,h3,h4,h5⟩
  rw [qr (ne_of ec e (λz=>nomatch z))]
  exact ec
end
section
variable {X:Cx}{pins:List (Aj×Obj)}{σ:St}{H:Hp}{s:Ab}{a:Aj}{kvs:List (Key×V)}{k:Key}{u:Ag}{A:Ae}{E:Ag→Ab→Prop}
end
def NoSl (i:Expr):Prop:=∀ov iv,subscripted i false ov iv=operate [ov,iv] (getItem ov iv)
theorem xqb {prog:Ac}{w:Ah}{A:Ae}{E:Ag→Ab→Prop}{s:Ab}{env:Env}{value slice:Expr}{pos:Pos}{T id:String}{Q:Ag→Ab→Prop}
  (hl:typeLookup (.type T) "__getitem__" = pure (some (.builtin id))) (hs:NoSl slice)
  (h:wpAny (model prog w) A (eval value env) (λo s₁=>wpAny (model prog w) A (eval slice env) (λi s₂=>s₂.TypeIs o T∧wpAny (model prog w) A (getItem o i) Q E s₂) E s₁) E s) :
  wpAny (model prog w) A (eval (.Subscript value slice pos) env) Q E s:=by
 refine Subscript_ (aL h (λo s₁ h₁=>aL h₁ (λi s₂ h₂=>?_) λ_ _ x=>x) λ_ _ x=>x)
 obtain ⟨hT,h₂⟩:=h₂
 unfold subscriptTail
 refine aa ?_
 rw [getitemInPython_of_ne hT.not_modules]
 refine aa (iF hT hl ?_)
 have fin:wpAny (model prog w) A (subscripted slice false o i) (λr s₃=>wpAny (model prog w) A (letTemporaryGo value o r >>= λ_=>pure r) Q E s₃) E s₂:=by
  rw [hs o i]
  exact wpAny_operating (aL h₂ (λr s₃ h₃=>aa (wpAny_letTemporaryGo (ah h₃))) λ_ _ x=>x)
 first
  |exact ah (aa fin)
  |exact aa (ah (aa fin))
  |exact aa fin
theorem qj5 {X:Cx}{pins:List (Aj×Obj)}{σ:St}{H:Hp}{s:Ab}{a:Aj}{y:V}{o:Option V}(I:Inv X pins σ H s)(g:DGet H a y o):s.TypeIs (.ref a) "dict" := by
 rcases g with ⟨kvs,k,e,_,_⟩|⟨kvs,k,b,e,_,_,_⟩
 ·obtain ⟨_,_,vs,_,dd⟩:=wxy I.hok e
  exact dd.typeIs
 ·obtain ⟨_,_,xs,_,dd⟩:=wxq I.hok e
  exact dd.typeIs
def tDGet (td ty:TE):TE:=λσ H Q=>td σ H λx H1=>ty σ H1 λy H2=>∃a v,x=.ref a∧DGet H2 a y (some v)∧Q v H2
def xw1 (ty td:TE):TE:=λσ H Q=>ty σ H λy H1=>td σ H1 λx H2=>∃a o,x=.ref a∧DGet H2 a y o∧Q (.bl (!o.isSome)) H2
def sDPut (td ty tv:TE):TS:=λD σ H=>tv σ H λv H1=>td σ H1 λx H2=>ty σ H2 λy H3=>∃a H4,x=.ref a∧DPut H3 a y v H4∧D.nx σ H4
section
variable {X:Cx}{o i e value:Expr}{pos pos' tpos:Pos}{td ty tv:TE}
theorem xqx (hu:X.A.units+1<cLine)(ho:PE X o td)(hi:PE X i ty)(hs:NoSl i):PE X (.Subscript o i pos) (tDGet td ty):=by
 intro pins s σ H Q I h
 refine xqb PySem.F.slot_dict_getitem.lookup hs (thn (ho pins s σ H _ I h) λu s1 ⟨x,H1,I1,rx,q1⟩=>thn (hi pins s1 σ H1 _ I1 q1) λiv s2 ⟨y,H2,I2,ry,a,v,ex,g,q2⟩=>?_)
 subst ex
 obtain rfl:u=Value.ref a:=rx
 exact ⟨qj5 I2 g,wvd hu I2 g ry λw' s3 I3 rw'=>⟨v,H2,I3,rw',q2⟩⟩
theorem wv4 (hu:X.A.units+1<cLine)(hi:PE X i ty)(ho:PE X o td):PC X .NotIn i o (xw1 ty td):=by
 intro pins s σ H Q I h
 refine thn (hi pins s σ H _ I h) λiv s1 ⟨y,H1,I1,ry,q1⟩=>thn (ho pins s1 σ H1 _ I1 q1) λu s2 ⟨x,H2,I2,rx,a,ov,ex,g,q2⟩=>?_
 subst ex
 obtain rfl:u=Value.ref a:=rx
 exact xqn hu I2 g ry λs3 I3=>⟨.bl (!ov.isSome),H2,I3,rfl,q2⟩
theorem xq2 (hu:X.A.units+1<cLine)(ho:PE X o td)(hi:PE X i ty)(hv:PE X value tv)(hs:swapsWith value (some (.Subscript o i pos')) pos.line X.env=pure false) :
  PS X (.Assign [.Subscript o i pos'] value pos) (sDPut td ty tv):=by
 intro pins s σ H D I h
 refine wpAny_Assign_Subscript (thn (hv pins s σ H _ I h) λr s1 ⟨v,H1,I1,rv,q1⟩=>thn (ho pins s1 σ H1 _ I1 q1) λu s2 ⟨x,H2,I2,rx,q2⟩=>thn (hi pins s2 σ H2 _ I2 q2) λiv s3 ⟨y,H3,I3,ry,a,H4,ex,g,q3⟩=>?_) hs
 subst ex
 obtain rfl:u=Value.ref a:=rx
 exact wv2 hu I3 g ry rv λs4 I4=>⟨σ,H4,I4,q3⟩
end
theorem wun {P:Ac}{w:Ah}{H:Hp}(h:Heap)(hb:sysModules<h.objs.size):ObjOk P w H (h.push { cls:=.type "dict",data:=.dict #[] }) h.objs.size (.dT []) :=
 ⟨aV _,b8.mpr (de (aB hb)),[],.nil,_,#[],0,az _ rfl,⟨rfl,rfl,rfl⟩,rfl,rfl,iP⟩
def tDNewT:TE:=λ_ H Q=>∀p,H p=none→Q (.ref p) (upd H p (.dT []))
section
variable {X:Cx}{pos:Pos}
theorem wk2:PE X (.Dict [] [] pos) tDNewT:=λpins s σ H Q I h =>
 wpAny_Dict_empty ⟨.ref s.heap.objs.size,_,I.laid (a:=s.heap.objs.size) (o:=.dT []) (t':=s.toks) (λ_ _ q=>ai _ q) (aj _) (wun s.heap I.big),rfl,h _ (I.hok.fresh (aj _))⟩
end
end L2
namespace L2
open PySem PySem.Spec PySem.Calls PySem.W PyProof.Rows
section
variable {prog:Ac}{w:Ah}{A:Ae}{E:Ag→Ab→Prop}{s:Ab}{S a:Aj}{es:Array (Int×Ag)}{ep:Nat}{t:SetTable}{o:Obj}{k:List Key}{ks:List (List Key)}{h:Int}{B:Nat}
abbrev KD (prog:Ac)(w:Ah):=tupleKind (zr prog w)
def EsIn (prog:Ac)(w:Ah)(B:Nat)(hp:Heap)(es:Array (Int×Ag))(ks:List (List Key)):Prop:=∀p∈es.toList,∃k∈ks,∃a,p.2=.ref a∧a<B∧(KD prog w).is hp k a
theorem wz2 (n:Nat){v:Ag}(h:carriedByValue v=true):ofAClassStatement n v=pure false:=by
 cases v with
 |ref x=>cases h
 |_=>first | rfl | (simp [ofAClassStatement];done) | (cases n <;> rfl)
theorem qyc (hx:(KD prog w).is s.heap k a){n:Nat}{Q:Bool→Ab→Prop}(hQ:Q false s):wpAny (model prog w) A (ofAClassStatement (n+1) (.ref a)) Q E s:=by
 have hT:s.TypeIs (.ref a) "tuple" := IsTupleKey.typeIs hx
 obtain ⟨o,items,m,ho,hc,hd,hi⟩:=hx
 unfold ofAClassStatement
 refine aa (wpAny_typeOf hT ?_)
 dsimp only
 rw [av (by decide)]
 refine aa (ah ?_)
 simp only [fO,aG,bE]
 refine aa (gF ho hd ?_)
 refine aa ?_
 show wpAny _ _ (forIn items _ _) _ _ s
 rw [←fm]
 refine ij _ (λrest r s'=>r.1=none∧s'=s∧∀v∈rest,carriedByValue v=true) _ ?_ ?_ _ _ ⟨rfl,rfl,hi.byValue⟩
 ·rintro v rest r s' ⟨hr,rfl,hall⟩
  rw [wz2 _ (hall v dD)]
  refine aa (ah ?_)
  simp only [aG,bE]
  exact ah ⟨rfl,rfl,λu hu=>hall u (bD _ hu)⟩
 ·rintro ⟨r1,r2⟩ s' ⟨hr,rfl,_⟩
  simp only at hr
  subst hr
  exact ah hQ
theorem xxq (hx:(KD prog w).is s.heap k a){Q:Bool→Ab→Prop}(hQ:Q false s):∀(l:List Ag),(∀y∈l,∃k' b,y=.ref b∧(KD prog w).is s.heap k' b)→wpAny (model prog w) A (searchCouldBeSeen (.ref a) l) Q E s:=by
 intro l hl
 unfold searchCouldBeSeen
 refine aa ?_
 refine ij _ (λrest r s'=>r.1=none∧s'=s∧∀y∈rest,∃k' b,y=.ref b∧(KD prog w).is s.heap k' b) _ ?_ ?_ _ _ ⟨rfl,rfl,hl⟩
 ·rintro y rest r s' ⟨hr,rfl,hall⟩
  obtain ⟨k',b,rfl,hb⟩:=hall y dD
  have nx:∀u∈rest,∃k' b,u=.ref b∧(KD prog w).is s'.heap k' b:=λu hu=>hall u (bD _ hu)
  dsimp only
  split
  ·exact ah ⟨rfl,rfl,nx⟩
  ·refine aa ((KD prog w).quiet hx ?_)
   simp only [fO,aG,bE]
   refine aa ((KD prog w).quiet hb ?_)
   simp only [fO,aG,bE]
   refine aa (qyc hx ?_)
   simp only [aG,bE]
   refine aa (qyc hb ?_)
   simp only [aG,bE]
   exact ah ⟨rfl,rfl,nx⟩
 ·rintro ⟨r1,r2⟩ s' ⟨hr,rfl,_⟩
  simp only at hr
  subst hr
  exact ah hQ
structure StAt (prog:Ac)(w:Ah)(B:Nat)(hp:Heap)(S:Aj)(ks:List (List Key))(es:Array (Int×Ag))(ep:Nat)(t:SetTable)(e:Nat)(o:Obj):Prop where
 ho:hp.get? S=some o
 ex:o.ExactSet
 hd:o.data=.set es ep t
 dm:t.dummies=#[]
 pl:t.place.size=es.size
 pw:t.mask+1=2 ^ e
 lo:3≤e
 hi:e≤12
 few:es.size*5<t.mask*3
 len:es.size=ks.length
 els:EsIn prog w B hp es ks
theorem wyx {b:Aj}{Q:Bool→Ab→Prop}(hQ:Q true s):wpAny (model prog w) A (isSame (.ref b) (.ref b)) Q E s:=by
 unfold isSame
 dsimp only
 rw [av (eR b)]
 exact ah hQ
end
end L2
namespace L2
open PySem PySem.Spec PySem.Calls PySem.W PyProof.Rows
section
variable {prog:Ac}{w:Ah}{A:Ae}{E:Ag→Ab→Prop}{s:Ab}{S a:Aj}{es:Array (Int×Ag)}{ep:Nat}{t:SetTable}{o:Obj}{k:List Key}{ks:List (List Key)}{h:Int}{B:Nat}
theorem qvj {hp:Heap}(ho:hp.get? S=some o)(hd:o.data=.set es ep t){es':Array (Int×Ag)}{t':SetTable}:(hp.update S (Obj.putSet es' t')).get? S=some { o with data:=.set es' (ep+1) t' }:=by
 have e:=putSet_of es' t' hd
 have:=cA (Obj.putSet es' t') ho (by rw [e];rfl)
 rw [e] at this
 exact this
end
end L2
namespace L2
open PySem
def qj2 (xs:Array Nat):Prop:=∀(i j x y:Nat),i<j→xs[i]?=some x→xs[j]?=some y→x<y
theorem qqg {xs:Array Nat}{j:Nat}(r:qj2 xs):∀f lo hi,hi-lo≤f→lo≤hi→hi≤xs.size→(∀(i x:Nat),i<lo→xs[i]?=some x→x<j)→(∀(i x:Nat),hi≤i→xs[i]?=some x→j≤x) →
  SetTable.below.go xs j f lo hi≤xs.size∧(∀(i x:Nat),i<SetTable.below.go xs j f lo hi→xs[i]?=some x→x<j)∧(∀(i x:Nat),SetTable.below.go xs j f lo hi≤i→xs[i]?=some x→j≤x)
 |0,lo,hi,hf,h1,h2,a,b=>by
  obtain rfl:lo=hi:=by lia
  exact ⟨h2,a,b⟩
 |f+1,lo,hi,hf,h1,h2,a,b=>by
  unfold SetTable.below.go
  by_cases c:lo<hi
  ·rw [av c]
   dsimp only
   have hm:(lo+hi)/2<xs.size:=by lia
   have e:xs[(lo+hi)/2]?=some xs[(lo+hi)/2]:=aY hm
   have eg:xs.getD ((lo+hi)/2) j=xs[(lo+hi)/2]:=by simp [Array.getD,hm]
   rw [eg]
   have mono:∀(i k x y:Nat),i≤k→xs[i]?=some x→xs[k]?=some y→x≤y:=λi k x y h ex ey=>by
    rcases bn i k with q|q
    ·exact bf (r i k x y q ex ey)
    ·obtain rfl:i=k:=by lia
     rw [ex] at ey
     cases ey
     exact aj _
   by_cases d:xs[(lo+hi)/2]<j
   ·rw [av d]
    exact qqg r f _ _ (by lia) (by lia) h2 (λi x hi' ex=>d6 (mono i _ _ _ (by lia) ex e) d) b
   ·rw [ao d]
    exact qqg r f _ _ (by lia) (by lia) (by lia) a (λi x hi' ex=>bB (by lia) (mono _ i _ _ hi' e ex))
  ·rw [ao c]
   obtain rfl:lo=hi:=by lia
   exact ⟨h2,a,b⟩
theorem ud {xs:Array Nat}(r:qj2 xs)(j:Nat):SetTable.below xs j≤xs.size∧(∀(i x:Nat),i<SetTable.below xs j→xs[i]?=some x→x<j)∧(∀(i x:Nat),SetTable.below xs j≤i→xs[i]?=some x→j≤x) :=
 qqg r _ _ _ (by lia) (aV _) (aj _) (λi x h=>by lia) λi x h ex=>by
  have:=(bi.mp ex).1
  lia
theorem wjd {xs:Array Nat}(r:qj2 xs){i j:Nat}(h:xs[i]?=some j):SetTable.below xs j=i:=by
 obtain ⟨a,b,c⟩:=ud r j
 have hi:=(bi.mp h).1
 rcases gW (SetTable.below xs j) i with q|q|q
 ·have e:xs[SetTable.below xs j]?=some (xs[SetTable.below xs j]'(by lia)):=aY _
  have h1:=c _ _ (aj _) e
  have h2:=r _ _ _ _ q e h
  lia
 ·exact q
 ·have:=b i j q h
  lia
theorem wqr {xs:Array Nat}(r:qj2 xs){i j:Nat}(h:xs[i]?=some j):SetTable.below xs (j+1)=i+1:=by
 obtain ⟨a,b,c⟩:=ud r (j+1)
 have hi:=(bi.mp h).1
 rcases gW (SetTable.below xs (j+1)) (i+1) with q|q|q
 ·have:=c i j (by lia) h
  lia
 ·exact q
 ·have hi2:i+1<xs.size:=by lia
  have e:xs[i+1]?=some xs[i+1]:=aY hi2
  have h1:=b _ _ q e
  have h2:=r _ _ _ _ (dQ i) h e
  lia
theorem wq0 {xs:Array Nat}(r:qj2 xs):SetTable.below xs 0=0:=by
 obtain ⟨a,b,c⟩:=ud r 0
 rcases Nat.eq_zero_or_pos (SetTable.below xs 0) with q|q
 ·exact q
 ·have e:xs[0]?=some (xs[0]'(by lia)):=aY _
  have:=b 0 _ q e
  lia
section
variable {t:SetTable}
theorem qvn (r:qj2 t.place){i j:Nat}(h:t.place[i]?=some j):t.slot j=.live i:=by
 unfold SetTable.slot
 dsimp only
 rw [wjd r h,h]
 simp
theorem wk9 {t t':SetTable}(h:t.mask=t'.mask)(p:SetTable.Probe):t.advance p=t'.advance p:=by
 unfold SetTable.advance
 rw [h]
theorem qzy {t t':SetTable}(h:t.mask=t'.mask):∀n p,zw t n p=zw t' n p
 |0,p=>rfl
 |n+1,p=>by
  show zw t n (t.advance p)=zw t' n (t'.advance p)
  rw [wk9 h,qzy h]
def pos (t:SetTable)(h:Int)(n:Nat):Nat:=(zw t n (t.probeStart h)).j
theorem qq3 {t t':SetTable}(h:t.mask=t'.mask)(x:Int)(n:Nat):pos t x n=pos t' x n:=by
 unfold pos
 have:t.probeStart x=t'.probeStart x:=by unfold SetTable.probeStart;rw [h]
 rw [this,qzy h]
structure Tab (bt:Bool)(t:SetTable)(hs:List Int):Prop where
 dm:t.dummies=#[]
 pl:t.place.size=hs.length
 pw:∃e,t.mask+1=2 ^ e∧3≤e∧e≤13
 few:hs.length≤t.mask
 rise:qj2 t.place
 reach:∀(i:Nat) (h:Int),hs[i]?=some h→∃N j,N≤10*(t.mask+14)∧t.place[i]?=some j∧pos t h N=j∧∀n,n<N→∃i':Nat,t.place[i']?=some (pos t h n)
 led:t.led=!bt
 plain:t.plain=true
variable {bt:Bool}{hs:List Int}{h:Int}
theorem Tab.fresh:Tab bt (.fresh 0 0 (!bt)) []:=by
 refine ⟨rfl,rfl,⟨3,rfl,aj _,by decide⟩,aV _,λi j x y _ ex=>?_,λi h e=>?_,rfl,rfl⟩
 ·have:(#[]:Array Nat)[i]?=some x:=ex
  simp at this
 ·simp at e
theorem Tab.fits (T:Tab bt t hs):t.fits hs.length=true:=by
 have h1:=T.pl
 have h2:=T.few
 have:t.fill≤t.mask:=by
  unfold SetTable.fill
  rw [T.dm,h1]
  simpa using h2
 simp [SetTable.fits,h1,this]
theorem Tab.big (T:Tab bt t hs):7≤t.mask∧t.mask<8192:=by
 obtain ⟨e,h1,h2,h3⟩:=T.pw
 have a:(2:Nat) ^ 3≤2 ^ e:=cX (by decide) h2
 have b:(2:Nat) ^ e≤2 ^ 13:=cX (by decide) h3
 have c:(2:Nat) ^ 13=8192:=by decide
 have d:(2:Nat) ^ 3=8:=by decide
 lia
theorem Tab.free (T:Tab bt t hs)(h:Int):∃N,N≤10*(t.mask+13)∧t.slot (pos t h N)=.empty∧∀n,n<N→∃i:Nat,t.slot (pos t h n)=.live i:=by
 obtain ⟨e,h1,_⟩:=T.pw
 obtain ⟨N0,hN,hs0⟩:=wvt h1 T.dm (by rw [T.pl];exact T.few) h
 have key:∀N0,t.slot (pos t h N0)=.empty→∃N,N≤N0∧t.slot (pos t h N)=.empty∧∀n,n<N→∃i:Nat,t.slot (pos t h n)=.live i:=by
  intro N0
  induction N0 using Nat.strongRecOn with
  |_ N0 ih =>
   intro h0
   by_cases c:∀n,n<N0→∃i:Nat,t.slot (pos t h n)=.live i
   ·exact ⟨N0,aj _,h0,c⟩
   ·rw [Classical.not_forall] at c
    obtain ⟨n,c⟩:=c
    rw [Classical.not_imp] at c
    obtain ⟨hn,c⟩:=c
    rcases qw3 T.dm (pos t h n) with q|q
    ·obtain ⟨N,a1,a2,a3⟩:=ih n hn q
     exact ⟨N,by lia,a2,a3⟩
    ·exact absurd q c
 obtain ⟨N,a1,a2,a3⟩:=key N0 hs0
 exact ⟨N,by lia,a2,a3⟩
theorem qq9 {α:Type}(xs:Array α)(p:Nat)(x:α):(SetTable.insertAt xs p x).toList=xs.toList.take p++x::xs.toList.drop p:=by
 unfold SetTable.insertAt
 rw [bJ,di,dL,dL]
 simp only [List.extract,aX,List.singleton_append,Nat.sub_zero,List.drop_zero]
 congr 2
 exact cQ (by simp)
theorem qyz {α:Type}(l:List α)(p:Nat)(x:α)(hp:p≤l.length)(i:Nat):(l.take p++x::l.drop p)[i]?=if i<p then l[i]? else if i=p then some x else l[i-1]?:=by
 have lt:(l.take p).length=p:=by rw [ba];lia
 by_cases c:i<p
 ·rw [av c,aP (by lia),g9 c]
 ·rw [ao c,aA (by lia),lt]
  by_cases d:i=p
  ·rw [av d,d,gk]
   rfl
  ·rw [ao d]
   obtain ⟨k,hk⟩:∃k,i-p=k+1:=⟨i-p-1,by lia⟩
   rw [hk,ik,cW]
   congr 1
   lia
def xm {α:Type}(l:List α)(p:Nat)(x:α):List α:=l.take p++x::l.drop p
theorem yg {α:Type}(l:List α)(p:Nat)(x:α):(xm l p x).Perm (x::l):=by
 unfold xm
 refine (List.perm_middle).trans ?_
 rw [cS]
theorem Tab.put (T:Tab bt t hs){N:Nat}(hN:N≤10*(t.mask+13))(he:t.slot (pos t h N)=.empty)(hl:∀n,n<N→∃i:Nat,t.slot (pos t h n)=.live i)(hf:hs.length+1≤t.mask) :
  Tab bt (t.put (pos t h N)).1 (xm hs (t.put (pos t h N)).2 h)∧(t.put (pos t h N)).2≤hs.length:=by
 obtain ⟨b1,b2,b3⟩:=ud T.rise (pos t h N)
 have hp:(t.put (pos t h N)).2=SetTable.below t.place (pos t h N):=rfl
 have hpl:(t.put (pos t h N)).1.place=SetTable.insertAt t.place (SetTable.below t.place (pos t h N)) (pos t h N):=rfl
 rw [hp]
 generalize hb:SetTable.below t.place (pos t h N)=p at b1 b2 b3 hpl
 have b1':p≤hs.length:=by rw [←T.pl];exact b1
 have noj:∀i:Nat,t.place[i]?≠some (pos t h N):=λi e=>by
  rw [qvn T.rise e] at he
  cases he
 have get:∀i:Nat,(SetTable.insertAt t.place p (pos t h N))[i]?=if i<p then t.place[i]? else if i=p then some (pos t h N) else t.place[i-1]?:=λi=>by
  rw [←aD,qq9,qyz _ _ _ (by rw [aS];exact b1)]
  simp only [aD]
 have up:∀i j:Nat,t.place[i]?=some j→∃i':Nat,(SetTable.insertAt t.place p (pos t h N))[i']?=some j:=λi j e=>by
  by_cases c:i<p
  ·exact ⟨i,by rw [get,av c];exact e⟩
  ·exact ⟨i+1,by rw [get,ao (by lia),ao (by lia),gG];exact e⟩
 refine ⟨⟨?_,?_,T.pw,?_,?_,?_,T.led,T.plain⟩,b1'⟩
 ·show (if SetTable.has t.dummies (pos t h N) then _ else t.dummies)=#[]
  rw [T.dm]
  simp [SetTable.has]
 ·rw [hpl,←aS,qq9]
  show (xm t.place.toList p (pos t h N)).length=_
  rw [(yg t.place.toList p _).length_eq,(yg hs p h).length_eq]
  simp [T.pl]
 ·rw [(yg hs p h).length_eq]
  exact hf
 ·intro i j x y hij ex ey
  rw [hpl,get] at ex ey
  by_cases c1:i<p
  ·rw [av c1] at ex
   have h1:=b2 i x c1 ex
   by_cases c2:j<p
   ·rw [av c2] at ey
    exact T.rise i j x y hij ex ey
   ·rw [ao c2] at ey
    by_cases c3:j=p
    ·rw [av c3] at ey
     cases ey
     exact h1
    ·rw [ao c3] at ey
     have:=b3 _ y (by lia) ey
     lia
  ·rw [ao c1] at ex
   rw [ao (by lia),ao (by lia)] at ey
   by_cases c3:i=p
   ·rw [av c3] at ex
    cases ex
    have h2:=b3 _ y (by lia) ey
    rcases bn (pos t h N) y with q|q
    ·exact q
    ·have:y=pos t h N:=by lia
     rw [this] at ey
     exact absurd ey (noj _)
   ·rw [ao c3] at ex
    exact T.rise (i-1) (j-1) x y (by lia) ex ey
 ·intro i h' eh
  have pm:∀x n,pos (t.put (pos t h N)).1 x n=pos t x n:=λx n=>qq3 (t:=(t.put (pos t h N)).1) (t':=t) rfl x n
  unfold xm at eh
  rw [qyz _ _ _ b1'] at eh
  have old:∀i0,hs[i0]?=some h'→(SetTable.insertAt t.place p (pos t h N))[i]?=t.place[i0]?→∃N1 j,N1≤10*((t.put (pos t h N)).1.mask+14)∧(t.put (pos t h N)).1.place[i]?=some j∧pos (t.put (pos t h N)).1 h' N1=j∧∀n,n<N1→∃i':Nat,(t.put (pos t h N)).1.place[i']?=some (pos (t.put (pos t h N)).1 h' n):=λi0 e0 e1=>by
   obtain ⟨N1,j,r1,r2,r3,r4⟩:=T.reach i0 h' e0
   refine ⟨N1,j,r1,by rw [hpl,e1];exact r2,by rw [pm];exact r3,λn hn=>?_⟩
   obtain ⟨i',e'⟩:=r4 n hn
   rw [pm,hpl]
   exact up i' _ e'
  by_cases c1:i<p
  ·rw [av c1] at eh
   exact old i eh (by rw [get,av c1])
  ·rw [ao c1] at eh
   by_cases c2:i=p
   ·rw [av c2] at eh
    cases eh
    refine ⟨N,pos t h N,bB hN (by show _≤10*(t.mask+14);lia),by rw [hpl,get,ao c1,av c2],pm _ _,λn hn=>?_⟩
    obtain ⟨i',e'⟩:=hl n hn
    rw [pm,hpl]
    exact up i' _ (Z4 e')
   ·rw [ao c2] at eh
    exact old (i-1) eh (by rw [get,ao c1,ao c2])
end
end L2
namespace L2
open PySem
theorem wj8 (t:SetTable)(q:Nat×Nat):∀k r j,k≤r→zw t k { j:=j,more:=r,i:=q.1,perturb:=q.2,dummy:=none }={ j:=j+k,more:=r-k,i:=q.1,perturb:=q.2,dummy:=none }
 |0,r,j,_=>rfl
 |k+1,r,j,h=>by
  show zw t k (t.advance _)=_
  have e:t.advance { j:=j,more:=r,i:=q.1,perturb:=q.2,dummy:=none }={ j:=j+1,more:=r-1,i:=q.1,perturb:=q.2,dummy:=none }:=by
   unfold SetTable.advance
   rw [av (by show r>0;lia)]
  rw [e,wj8 t q k (r-1) (j+1) (by lia)]
  congr 1 <;> lia
theorem wju (t:SetTable)(q:Nat×Nat){k:Nat}(h:q.1+k≤SetTable.runEnd t.mask q.1):(zw t k (rs t.mask q)).j=q.1+k:=by
 unfold rs
 rw [wj8 t q k _ _ (by lia)]
theorem wzp (mask i:Nat):i≤SetTable.runEnd mask i∧SetTable.runEnd mask i≤i+9∧(i≤mask→SetTable.runEnd mask i≤mask):=by
 unfold SetTable.runEnd
 split <;> lia
theorem wu7 (mask i p:Nat):(SetTable.leap mask i p).1≤mask:=by
 unfold SetTable.leap
 exact dh (fk _ (d7 _))
theorem wx9 {t:SetTable}{owner:Array (Option Nat)}:∀n fuel i p,n<fuel→i≤t.mask→owner.getD (lp t.mask n (i,p)).1 (some 0)=none →
  ∃j N,SetTable.layClean.free t.mask owner fuel i p=some j∧owner.getD j (some 0)=none∧N≤10*n+9∧(zw t N (rs t.mask (i,p))).j=j∧∀k,k<N→(zw t k (rs t.mask (i,p))).j≤t.mask∧owner.getD (zw t k (rs t.mask (i,p))).j (some 0)≠none
 |n,0,i,p,hf,_,_=>absurd hf (fX _)
 |n,fuel+1,i,p,hf,hi,hn=>by
  obtain ⟨r1,r2,r3⟩:=wzp t.mask i
  have r3:=r3 hi
  unfold SetTable.layClean.free
  cases q:(List.range (SetTable.runEnd t.mask i+1-i)).find? λk=>(owner.getD (i+k) (some 0)).isNone with
  |some k =>
   have hk:=au.mp (List.mem_of_find?_eq_some q)
   have hs:owner.getD (i+k) (some 0)=none:=by
    have:=List.find?_some q
    exact Option.isNone_iff_eq_none.mp this
   refine ⟨i+k,k,rfl,hs,by lia,wju t (i,p) (by show i+k≤SetTable.runEnd t.mask i;lia),λk' hk'=>?_⟩
   rw [wju t (i,p) (by show i+k'≤SetTable.runEnd t.mask i;lia)]
   refine ⟨by show i+k'≤_;lia,λz=>?_⟩
   have fs:=List.find?_eq_some_iff_append.mp q
   obtain ⟨_,as,bs,e,hall⟩:=fs
   have hl:as.length=k:=by
    have h1:(List.range (SetTable.runEnd t.mask i+1-i))[as.length]?=some k:=by rw [e];simp
    have h2:=(ak.mp h1).1
    rw [br (by simpa using h2)] at h1
    exact aq h1
   have hm:k'∈as:=by
    have h1:(List.range (SetTable.runEnd t.mask i+1-i))[k']?=some k':=br (by lia)
    rw [e,aP (by lia)] at h1
    exact aC h1
   have:=hall k' hm
   rw [show (i,p).1+k'=i+k' from rfl] at z
   rw [z] at this
   exact absurd this (by simp)
  |none =>
   have all:=List.find?_eq_none.mp q
   have occ:∀k,i+k≤SetTable.runEnd t.mask i→owner.getD (i+k) (some 0)≠none:=λk hk z=>by
    have:=all k (au.mpr (by lia))
    rw [z] at this
    exact this rfl
   cases n with
   |zero=>exact absurd hn (by have:=occ 0 (by lia);rw [Nat.add_zero] at this;exact this)
   |succ n =>
    obtain ⟨j,N,a1,a2,a3,a4,a5⟩:=wx9 (t:=t) (owner:=owner) n fuel (SetTable.leap t.mask i p).1 (SetTable.leap t.mask i p).2 (by lia) (wu7 _ _ _) hn
    have st:zw t (SetTable.runEnd t.mask i-i+1) (rs t.mask (i,p))=rs t.mask (SetTable.leap t.mask i p):=qwr t (i,p) _ _
    refine ⟨j,SetTable.runEnd t.mask i-i+1+N,a1,a2,by lia,by rw [Qv,st];exact a4,λk hk=>?_⟩
    by_cases c:k<SetTable.runEnd t.mask i-i+1
    ·rw [wju t (i,p) (by show i+k≤SetTable.runEnd t.mask i;lia)]
     exact ⟨by show i+k≤_;lia,occ k (by lia)⟩
    ·rw [show k=SetTable.runEnd t.mask i-i+1+(k-(SetTable.runEnd t.mask i-i+1)) by lia,Qv,st]
     exact a5 _ (by lia)
structure Own (t:SetTable)(hs:List Int)(owner:Array (Option Nat))(k:Nat):Prop where
 size:owner.size=t.mask+1
 low:∀j v:Nat,owner[j]?=some (some v)→v<k
 sur:∀v,v<k→∃j:Nat,owner[j]?=some (some v)
 inj:∀j j' v:Nat,owner[j]?=some (some v)→owner[j']?=some (some v)→j=j'
 way:∀(j v:Nat) (h:Int),owner[j]?=some (some v)→hs[v]?=some h→∃N,N≤10*(t.mask+14)∧pos t h N=j∧∀n,n<N→∃v',owner[pos t h n]?=some (some v')
section
variable {t:SetTable}{hs:List Int}{owner:Array (Option Nat)}{k:Nat}
theorem got {j:Nat}(h:owner.getD j (some 0)=none):owner[j]?=some none:=by
 rw [bO] at h
 cases q:owner[j]? with
 |none=>rw [q] at h;cases h
 |some v=>rw [q] at h;exact cz some h
theorem taken {j:Nat}(h:owner.getD j (some 0)≠none)(hj:j<owner.size):∃v,owner[j]?=some (some v):=by
 rw [bO,aY hj] at h
 rw [aY hj]
 cases q:owner[j] with
 |none=>rw [q] at h;exact absurd rfl h
 |some v=>exact ⟨v,rfl⟩
theorem Own.free (o:Own t hs owner k)(hk:k≤t.mask):∃j,j≤t.mask∧owner.getD j (some 0)=none:=by
 apply gM
 intro c
 have all:∀j,j<t.mask+1→∃v,v<k∧owner[j]?=some (some v):=λj hj=>by
  obtain ⟨v,e⟩:=taken (owner:=owner) (j:=j) (λz=>c ⟨j,by lia,z⟩) (by rw [o.size];exact hj)
  exact ⟨v,o.low j v e,e⟩
 have:=qxv ((List.range (t.mask+1)).map λj=>((owner.getD j none).getD 0)) (List.range k) ?_ ?_
 ·rw [ag,aH,aH] at this
  lia
 ·refine bV.mpr (bZ (λ{a b} ha hb hab=>?_) fL)
  obtain ⟨v,_,e⟩:=all a (au.mp ha)
  obtain ⟨v',_,e'⟩:=all b (au.mp hb)
  rw [bO,bO,e,e']
  intro z
  have z':v=v':=z
  subst z'
  exact hab (o.inj a b v e e')
 ·intro x hx
  obtain ⟨j,hj,rfl⟩:=aO.mp hx
  obtain ⟨v,hv,e⟩:=all j (au.mp hj)
  rw [bO,e]
  exact au.mpr hv
theorem Own.new (t:SetTable)(hs:List Int):Own t hs (Array.replicate (t.mask+1) none) 0:=by
 have no:∀j v:Nat,(Array.replicate (t.mask+1) (none:Option Nat))[j]?=some (some v)→False:=λj v e=>by
  rw [Array.getElem?_replicate] at e
  split at e <;> cases e
 exact ⟨Array.size_replicate,λj v e=>(no j v e).elim,λv hv=>absurd hv (fX _),λj j' v e=>(no j v e).elim,λj v h e=>(no j v e).elim⟩
theorem Own.set {h:Int}{j N:Nat}(o:Own t hs owner k)(hh:hs[k]?=some h)(hj:owner.getD j (some 0)=none)(hN:N≤10*(t.mask+14))(hp:pos t h N=j)(hw:∀n,n<N→pos t h n≤t.mask∧owner.getD (pos t h n) (some 0)≠none):Own t hs (owner.setIfInBounds j (some k)) (k+1):=by
 have ej:=got hj
 have hjs:=(bi.mp ej).1
 have at':∀i:Nat,(owner.setIfInBounds j (some k))[i]?=if i=j then some (some k) else owner[i]?:=λi=>by
  by_cases c:i=j
  ·rw [av c,c,Array.getElem?_setIfInBounds_self_of_lt hjs]
  ·rw [ao c,Array.getElem?_setIfInBounds_ne (λz=>c z.symm)]
 have up:∀i v:Nat,owner[i]?=some (some v)→(owner.setIfInBounds j (some k))[i]?=some (some v):=λi v e=>by
  rw [at',ao (λz=>by rw [z,ej] at e;cases e)]
  exact e
 refine ⟨by rw [hX];exact o.size,λi v e=>?_,λv hv=>?_,λi i' v e e'=>?_,λi v h' e eh=>?_⟩
 ·rw [at'] at e
  by_cases c:i=j
  ·rw [av c] at e;cases e;lia
  ·rw [ao c] at e
   have:=o.low i v e
   lia
 ·by_cases c:v=k
  ·exact ⟨j,by rw [at',av rfl,c]⟩
  ·obtain ⟨i,e⟩:=o.sur v (by lia)
   exact ⟨i,up i v e⟩
 ·rw [at'] at e e'
  by_cases c:i=j
  ·by_cases c':i'=j
   ·rw [c,c']
   ·rw [av c] at e
    rw [ao c'] at e'
    cases e
    have:=o.low i' k e'
    lia
  ·rw [ao c] at e
   by_cases c':i'=j
   ·rw [av c'] at e'
    cases e'
    have:=o.low i k e
    lia
   ·rw [ao c'] at e'
    exact o.inj i i' v e e'
 ·rw [at'] at e
  by_cases c:i=j
  ·rw [av c] at e
   cases e
   rw [hh] at eh
   cases eh
   refine ⟨N,hN,by rw [hp,c],λn hn=>?_⟩
   obtain ⟨h1,h2⟩:=hw n hn
   obtain ⟨v',e'⟩:=taken h2 (by rw [o.size];lia)
   exact ⟨v',up _ _ e'⟩
  ·rw [ao c] at e
   obtain ⟨N1,a1,a2,a3⟩:=o.way i v h' e eh
   refine ⟨N1,a1,a2,λn hn=>?_⟩
   obtain ⟨v',e'⟩:=a3 n hn
   exact ⟨v',up _ _ e'⟩
theorem Own.fold {e:Nat}(hM:t.mask+1=2 ^ e):∀(l:List Int) (owner:Array (Option Nat)) (k:Nat),Own t hs owner k→hs.drop k=l→hs.length≤t.mask→∃owner',l.foldl (λacc h=>do
   let (owner,k) ←acc
   let j ←SetTable.layClean.free t.mask owner (SetTable.turns t.mask) (SetTable.bits h%(t.mask+1)) (SetTable.bits h)
   pure (owner.setIfInBounds j (some k),k+1)) (some (owner,k))=some (owner',k+l.length)∧Own t hs owner' (k+l.length)
 |[],owner,k,o,_,_=>⟨owner,rfl,o⟩
 |h::l,owner,k,o,hd,hz=>by
  have hk:hs[k]?=some h:=by
   have:(hs.drop k)[0]?=some h:=by rw [hd];rfl
   rw [cW] at this
   exact this
  have hkl:=(ak.mp hk).1
  have hd':hs.drop (k+1)=l:=by
   rw [eU hkl] at hd
   exact (h9 hd).2
  obtain ⟨j0,hj0,en⟩:=o.free (by lia)
  obtain ⟨n,hn,e1⟩:=qjt hM (q:=(SetTable.bits h%(t.mask+1),SetTable.bits h)) (dh (fk _ (d7 _))) (wws h) hj0
  obtain ⟨j,N,e2,e3,e4,e5,e6⟩:=wx9 (t:=t) (owner:=owner) n (SetTable.turns t.mask) (SetTable.bits h%(t.mask+1)) (SetTable.bits h) (by unfold SetTable.turns;lia) (dh (fk _ (d7 _))) (by rw [e1];exact en)
  obtain ⟨owner',f1,f2⟩:=Own.fold hM l (owner.setIfInBounds j (some k)) (k+1) (o.set hk e3 (by lia) e5 e6) hd' hz
  refine ⟨owner',?_,by rw [aQ,show k+(l.length+1)=k+1+l.length by lia];exact f2⟩
  rw [List.foldl_cons,aQ,show k+(l.length+1)=k+1+l.length by lia,←f1]
  congr 1
  simp [e2]
theorem qqy:∀ {l m:List Nat},l.Nodup→m.Nodup→(∀a,a∈l↔a∈m)→l.Perm m
 |[],m,_,_,h=>by
  cases m with
  |nil=>exact .refl _
  |cons a m=>exact absurd ((h a).mpr (.head _)) (by simp)
 |a::l,m,hl,hm,h=>by
  have ha:a∈m:=(h a).mp (.head _)
  have hl':=du.mp hl
  refine (List.Perm.cons a (qqy hl'.2 (hm.erase a) λb=>?_)).trans (List.perm_cons_erase ha).symm
  rw [hm.mem_erase_iff]
  constructor
  ·intro hb
   exact ⟨λz=>by subst z;exact hl'.1 hb,(h b).mp (.tail _ hb)⟩
  ·rintro ⟨h1,h2⟩
   rcases aM.mp ((h b).mpr h2) with z|z
   ·exact absurd z h1
   ·exact z
end
theorem Y8:∀n,n<1100→∃e,3≤e∧e≤13∧SetTable.sizeAbove (4*n)=2 ^ e∧4*n<SetTable.sizeAbove (4*n):=by
 have:∀n,n<1100→(List.range 14).any (λe=>decide (3≤e)&&(SetTable.sizeAbove (4*n)==2 ^ e)&&decide (4*n<SetTable.sizeAbove (4*n)))=true:=by decide +kernel
 intro n hn
 obtain ⟨e,he,h⟩:=dR.mp (this n hn)
 simp only [cy,decide_eq_true_eq,fj] at h
 exact ⟨e,h.1.1,by have:=au.mp he;lia,h.1.2,h.2⟩
theorem Tab.relay {bt:Bool}{t:SetTable}{hs:List Int}(T:Tab bt t hs)(hn:hs.length<1100):∃t2 order,t.relaid hs.toArray (4*hs.length)=some (t2,order)∧order.toList.Perm (List.range hs.length)∧Tab bt t2 (order.toList.map λi=>hs.getD i 0)∧hs.length*4≤t2.mask:=by
 obtain ⟨e,e1,e2,e3,e4⟩:=Y8 hs.length hn
 have pos1:1≤(2:Nat) ^ e:=iC e
 obtain ⟨owner,f1,o⟩:=Own.fold (t:={ t with mask:=SetTable.sizeAbove (4*hs.length)-1 }) (hs:=hs) (e:=e) (by show SetTable.sizeAbove (4*hs.length)-1+1=_;lia) hs _ 0 (Own.new _ hs) rfl (by show hs.length≤SetTable.sizeAbove (4*hs.length)-1;lia)
 rw [cE] at f1 o
 have lc:SetTable.layClean (SetTable.sizeAbove (4*hs.length)-1) hs.toArray=some owner:=by
  unfold SetTable.layClean
  rw [←Array.foldl_toList]
  rw [show hs.toArray.toList=hs from rfl]
  rw [f1]
  rfl
 generalize hmask:SetTable.sizeAbove (4*hs.length)-1=mask at lc o f1
 have hmk:mask+1=2 ^ e:=by lia
 have hm4:hs.length*4≤mask:=by lia
 let live:List (Nat×Nat):=(List.range (mask+1)).filterMap λj=>(owner.getD j none).map (j,·)
 have mem:∀j v,(j,v)∈live↔owner[j]?=some (some v):=λj v=>by
  show (j,v)∈(List.range (mask+1)).filterMap _↔_
  rw [fi]
  constructor
  ·rintro ⟨j',_,e'⟩
   cases q:owner.getD j' none with
   |none=>rw [q] at e';cases e'
   |some v' =>
    rw [q] at e'
    cases e'
    rw [bO] at q
    cases q2:owner[j]? with
    |none=>rw [q2] at q;cases q
    |some y=>rw [q2] at q;exact cz some q
  ·intro e'
   have hj:=(bi.mp e').1
   rw [o.size] at hj
   exact ⟨j,au.mpr hj,by rw [bO,e'];rfl⟩
 have pw:live.Pairwise λa b=>a.1<b.1:=by
  refine List.pairwise_filterMap.mpr (List.pairwise_lt_range.imp λ{a b} hab x hx y hy=>?_)
  have hx1:x.1=a:=by
   cases q:owner.getD a none with
   |none=>rw [q] at hx;cases hx
   |some v=>rw [q] at hx;cases hx;rfl
  have hy1:y.1=b:=by
   cases q:owner.getD b none with
   |none=>rw [q] at hy;cases hy
   |some v=>rw [q] at hy;cases hy;rfl
  rw [hx1,hy1]
  exact hab
 have perm:(live.map (·.2)).Perm (List.range hs.length):=by
  refine qqy (bV.mpr (bZ (λ{a b} ha hb hab z=>?_) pw)) fL λv=>?_
  ·have:=o.inj a.1 b.1 a.2 ((mem _ _).mp ha) (by rw [z];exact (mem _ _).mp hb)
   lia
  ·rw [au,aO]
   constructor
   ·rintro ⟨a,ha,rfl⟩
    exact o.low _ _ ((mem _ _).mp ha)
   ·intro hv
    obtain ⟨j,ej⟩:=o.sur v hv
    exact ⟨(j,v),(mem _ _).mpr ej,rfl⟩
 have len:live.length=hs.length:=by
  have:=perm.length_eq
  rwa [ag,aH] at this
 refine ⟨{ mask:=mask,place:=(live.map (·.1)).toArray,dummies:=#[],finger:=t.finger,led:=t.led,moves:=t.movedTo mask,plain:=t.plain },(live.map (·.2)).toArray,?_,perm,?_,hm4⟩
 ·unfold SetTable.relaid SetTable.laid
  rw [hmask,lc]
  rfl
 ·refine ⟨rfl,?_,⟨e,hmk,e1,e2⟩,?_,?_,?_,T.led,T.plain⟩
  ·show (live.map (·.1)).toArray.size=((live.map (·.2)).toArray.toList.map _).length
   simp
  ·show ((live.map (·.2)).toArray.toList.map _).length≤mask
   rw [ag,show (live.map (·.2)).toArray.toList=live.map (·.2) from rfl,ag,len]
   lia
  ·intro i j x y hij ex ey
   have ex':(live.map (·.1))[i]?=some x:=by simpa using ex
   have ey':(live.map (·.1))[j]?=some y:=by simpa using ey
   obtain ⟨hi,rfl⟩:=ak.mp ex'
   obtain ⟨hj,rfl⟩:=ak.mp ey'
   rw [fM,fM]
   exact bb.mp pw i j _ _ hij
  ·intro i h eh
   have eh':((live.map (·.2)).map λi=>hs.getD i 0)[i]?=some h:=eh
   rw [ax,ax] at eh'
   cases q:live[i]? with
   |none=>rw [q] at eh';cases eh'
   |some jv =>
    rw [q] at eh'
    obtain ⟨j,v⟩:=jv
    have ov:=(mem j v).mp (aC q)
    have hv:=o.low j v ov
    have ehv:hs[v]?=some h:=by
     have:hs.getD v 0=h:=aq eh'
     rw [af,ae hv] at this
     rw [ae hv]
     exact cz some this
    obtain ⟨N,a1,a2,a3⟩:=o.way j v h ov ehv
    refine ⟨N,j,a1,?_,?_,λn hn=>?_⟩
    ·show (live.map (·.1)).toArray[i]?=some j
     simp [q]
    ·have pm:pos { mask:=mask,place:=(live.map (·.1)).toArray,dummies:=#[],finger:=t.finger,led:=t.led,moves:=t.movedTo mask,plain:=t.plain } h N=pos { t with mask:=mask } h N:=qq3 (by rfl) h N
     exact pm.trans a2
    ·obtain ⟨v',e'⟩:=a3 n hn
     obtain ⟨i',hi'⟩:=bL ((mem _ _).mpr e')
     refine ⟨i',?_⟩
     show (live.map (·.1)).toArray[i']?=_
     have pm:pos { mask:=mask,place:=(live.map (·.1)).toArray,dummies:=#[],finger:=t.finger,led:=t.led,moves:=t.movedTo mask,plain:=t.plain } h n=pos { t with mask:=mask } h n:=qq3 (by rfl) h n
     have e9:(live.map (·.1)).toArray[i']?=some (pos { t with mask:=mask } h n):=by simp [hi']
     rw [e9,←pm]
end L2
namespace L2
open PySem PySem.Spec PySem.Calls PySem.W PyProof.Rows
def byT (w:Ah):Bool:=w.params.followText "set-order"
def SAt (w:Ah)(hp:Heap)(S:Aj)(ps:List (Int×Ag)):Prop:=∃o ep t,hp.get? S=some o∧o.ExactSet∧o.data=.set ps.toArray ep t∧Tab (byT w) t (ps.map (·.1))∧ps.length*5<t.mask*3
section
variable {prog:Ac}{w:Ah}{A:Ae}{E:Ag→Ab→Prop}{s:Ab}{S a:Aj}{ps:List (Int×Ag)}{ep:Nat}{t:SetTable}{o:Obj}{k:List Key}{h:Int}
theorem SAt.typeIs (P:SAt w s.heap S ps):s.TypeIs (.ref S) "set" := let ⟨o,_,_,ho,hc,_⟩:=P;⟨o,ho,hc.1⟩
theorem SAt.at_ {hp h':Heap}(P:SAt w hp S ps)(k1:∀o,hp.get? S=some o→h'.get? S=some o):SAt w h' S ps:=let ⟨o,ep,t,ho,r⟩:=P;⟨o,ep,t,k1 o ho,r⟩
theorem Tab.fits' {bt:Bool}(T:Tab bt t (ps.map (·.1))):t.fits ps.toArray.size=true:=by
 have:=T.fits
 simpa using this
theorem ww6 (l:List (Int×Ag))(p:Nat)(x:Int×Ag):(xm l p x).map (·.1)=xm (l.map (·.1)) p x.1:=by
 unfold xm
 simp
theorem ww4 (l:List (Int×Ag))(p:Nat)(x:Int×Ag):SetTable.insertAt l.toArray p x=(xm l p x).toArray:=by
 apply dS.mp
 rw [qq9]
 rfl
theorem Wn (l:List (Int×Ag)):∀(il:List Nat),(∀i∈il,i<l.length)→il.filterMap (λi=>l.toArray[i]?)=il.map λi=>l.getD i (0,.none)
 |[],_=>rfl
 |i::il,hi=>by
  have h1:=hi i (.head _)
  have e:l.toArray[i]?=some (l.getD i (0,.none)):=by simp [h1]
  rw [dO,e,Wn l il λj hj=>hi j (.tail _ hj)]
  rfl
theorem lay_in {Q:Bool→Ab→Prop}{N:Nat}{x:Ag}(ho:s.heap.get? S=some o)(hex:o.ExactSet)(hd:o.data=.set ps.toArray ep t)(T:Tab (byT w) t (ps.map (·.1)))(few:ps.length*5<t.mask*3)(hn:ps.length<1099)
  (hN:N≤10*(t.mask+13)) (he:t.slot (pos t h N)=.empty) (hl:∀n,n<N→∃i:Nat,t.slot (pos t h n)=.live i)
  (hQ:∀h' ps',Heap.SameBut S s.heap h'→SAt w h' S ps'→ps'.Perm ((h,x)::ps)→Q true { s with heap:=h' }) :
  wpAny (model prog w) A (do
   storeSet S (SetTable.insertAt ps.toArray (t.put (pos t h N)).2 (h,x)) (t.put (pos t h N)).1
   if (!false&&(t.put (pos t h N)).1.tooFull)=true then do
    setRelay S (SetTable.grown (ps.toArray.size+1))
    pure true
   else pure true) Q E s:=by
 have big:100000≤sizeLine:=by decide
 have lm:ps.length=(ps.map (·.1)).length:=by simp
 have bm:=T.big
 obtain ⟨T1,hp1⟩:=T.put hN he hl (by rw [←lm];lia)
 have hm:(t.put (pos t h N)).1.mask=t.mask:=rfl
 generalize (t.put (pos t h N)).2=p at T1 hp1 ⊢
 generalize ht1:(t.put (pos t h N)).1=t1 at T1 hm ⊢
 rw [ww4]
 have pm:=yg ps p (h,x)
 have pl:=pm.length_eq
 rw [aQ] at pl
 rw [←ww6 ps p (h,x)] at T1
 refine aa (fH ho hd ?_ (by rw [ar];lia))
 have g1:(s.heap.update S (Obj.putSet (xm ps p (h,x)).toArray t1)).get? S=some { o with data:=.set (xm ps p (h,x)).toArray (ep+1) t1 }:=qvj ho hd
 have sb1:Heap.SameBut S s.heap (s.heap.update S (Obj.putSet (xm ps p (h,x)).toArray t1)):=ca _ _ _
 have fl:t1.fill=ps.length+1:=by
  unfold SetTable.fill
  rw [T1.dm,T1.pl,ag,pl]
  rfl
 generalize s.heap.update S (Obj.putSet (xm ps p (h,x)).toArray t1)=h1 at g1 sb1 ⊢
 show wpAny (model prog w) A _ Q E { s with heap:=h1 }
 by_cases tf:t1.tooFull=true
 ·rw [tf]
  simp only [iQ,i3,dz]
  refine aa ?_
  have gr:SetTable.grown (ps.toArray.size+1)=4*((xm ps p (h,x)).map (·.1)).length:=by
   unfold SetTable.grown
   rw [ao (by rw [ar];lia),ag,pl,ar]
   lia
  obtain ⟨t2,order,f1,f2,T2,f4⟩:=T1.relay (by rw [ag,pl];lia)
  rw [gr]
  unfold setRelay
  refine aa (bw (s:={ s with heap:=h1 }) g1 rfl T1.fits' ?_)
  dsimp only
  have hsz:(xm ps p (h,x)).toArray.map (·.1)=((xm ps p (h,x)).map (·.1)).toArray:=by simp
  have sl:¬ SetTable.sizeAbove (4*((xm ps p (h,x)).map (·.1)).length)>sizeLine:=by
   obtain ⟨e,e1,e2,e3,e4⟩:=Y8 ((xm ps p (h,x)).map (·.1)).length (by rw [ag,pl];lia)
   have b:(2:Nat) ^ e≤2 ^ 13:=cX (by decide) e2
   have c:(2:Nat) ^ 13=8192:=by decide
   lia
  rw [ao sl,hsz,f1]
  have hin:∀i∈order.toList,i<(xm ps p (h,x)).length:=λi hi=>by
   have:=au.mp (f2.mem_iff.mp hi)
   rwa [ag] at this
  have oe:order.filterMap (λi=>(xm ps p (h,x)).toArray[i]?)=(order.toList.map λi=>(xm ps p (h,x)).getD i (0,.none)).toArray:=by
   apply dS.mp
   rw [Array.toList_filterMap,Wn _ _ hin]
  have ol:(order.toList.map λi=>(xm ps p (h,x)).getD i (0,.none)).length=(xm ps p (h,x)).length:=by
   rw [ag,f2.length_eq,aH,ag]
  have op:(order.toList.map λi=>(xm ps p (h,x)).getD i (0,.none)).Perm (xm ps p (h,x)):=by
   refine (f2.map _).trans ?_
   rw [ag]
   have:(List.range (xm ps p (h,x)).length).map (λi=>(xm ps p (h,x)).getD i (0,.none))=xm ps p (h,x):=by
    refine bM λi=>?_
    rw [ax]
    by_cases c:i<(xm ps p (h,x)).length
    ·rw [br c]
     simp [af,c]
    ·rw [aK (by simp;lia),aK (by lia)]
     rfl
   rw [this]
  have om:(order.toList.map λi=>(xm ps p (h,x)).getD i (0,.none)).map (·.1)=order.toList.map λi=>((xm ps p (h,x)).map (·.1)).getD i 0:=by
   rw [bP]
   refine dP λi hi=>?_
   have:=hin i hi
   simp [af,this]
  rw [←om] at T2
  refine aa ?_
  show wpAny (model prog w) A (do
   if (order.filterMap (λi=>(xm ps p (h,x)).toArray[i]?)).size != (xm ps p (h,x)).toArray.size then unsupported "internal:set-table-lost-an-element"
   pure (order.filterMap (λi=>(xm ps p (h,x)).toArray[i]?),t2)) _ E _
  rw [oe]
  have ob:((order.toList.map λi=>(xm ps p (h,x)).getD i (0,.none)).toArray.size != (xm ps p (h,x)).toArray.size)=false:=by
   rw [ar,ar,ol]
   simp
  rw [ob]
  simp only [aG,bE]
  refine ah ?_
  dsimp only
  generalize (order.toList.map λi=>(xm ps p (h,x)).getD i (0,.none))=ps2 at T2 op ol
  refine fH (s:={ s with heap:=h1 }) g1 rfl ?_ (by rw [ar,ol];lia)
  refine ah ?_
  have sb2:Heap.SameBut S h1 (h1.update S (Obj.putSet ps2.toArray t2)):=ca _ _ _
  have g2:(h1.update S (Obj.putSet ps2.toArray t2)).get? S=some { o with data:=.set ps2.toArray (ep+1+1) t2 }:=qvj g1 rfl
  refine hQ _ ps2 (sb1.trans sb2) ⟨_,_,t2,g2,hex,rfl,T2,?_⟩ (op.trans pm)
  rw [ag] at f4
  lia
 ·rw [im] at tf
  rw [tf]
  simp only [gv,aG,bE]
  refine ah (hQ h1 _ sb1 ⟨_,_,t1,g1,hex,rfl,T1,?_⟩ pm)
  unfold SetTable.tooFull at tf
  have:=of_decide_eq_false tf
  rw [fl] at this
  lia
def KP (prog:Ac)(w:Ah)(hp:Heap)(ps:List (Int×Ag))(ks:List (List Key)):Prop:=Paired (λp k=>∃b,p=((KD prog w).hash k,.ref b)∧(KD prog w).is hp k b) ps ks
theorem KP.get {hp:Heap}{ks:List (List Key)}(K:KP prog w hp ps ks){i:Nat}{p:Int×Ag}(e:ps[i]?=some p):∃k' b,ks[i]?=some k'∧p=((KD prog w).hash k',.ref b)∧(KD prog w).is hp k' b:=by
 unfold KP at K
 induction K generalizing i with
 |nil=>simp at e
 |cons r t ih =>
  cases i with
  |zero =>
   obtain ⟨b,e1,e2⟩:=r
   simp at e
   subst e
   exact ⟨_,b,rfl,e1,e2⟩
  |succ i=>exact ih (by simpa using e)
theorem KP.len {hp:Heap}{ks:List (List Key)}(K:KP prog w hp ps ks):ps.length=ks.length:=bT K
inductive MetP (t:SetTable) (ha:Nat→Int) (h:Int) (p:SetTable.Probe) (N:Nat):SetTable.Met→Prop
 |empty (hs:t.slot (zw t N p).j=.empty):MetP t ha h p N (.empty (zw t N p).j none)
 |cand (m i:Nat) (hm:m≤N) (hs:t.slot (zw t m p).j=.live i) (hh:ha i=h):MetP t ha h p N (.candidate (zw t m p).j i (zw t (m+1) p))
theorem Z3 {ha:Nat→Int}:∀N fuel p,N<fuel→p.dummy=none→(∀n,n<N→∃i:Nat,t.slot (zw t n p).j=.live i)→(t.slot (zw t N p).j=.empty∨∃i:Nat,t.slot (zw t N p).j=.live i∧ha i=h)→∃m,SetTable.probe.go t ha h fuel p=some m∧MetP t ha h p N m
 |N,0,p,hf,_,_,_=>absurd hf (fX _)
 |0,fuel+1,p,_,hp,_,hs=>by
  unfold SetTable.probe.go
  rcases hs with hs|⟨i,hs,hh⟩
  ·have hs':t.slot p.j=.empty:=hs
   rw [hs',hp]
   exact ⟨_,rfl,.empty (p:=p) hs⟩
  ·have hs':t.slot p.j=.live i:=hs
   rw [hs']
   dsimp only
   rw [av (fj.mpr hh)]
   exact ⟨_,rfl,.cand (p:=p) 0 i (aj _) hs hh⟩
 |N+1,fuel+1,p,hf,hp,hl,hs=>by
  unfold SetTable.probe.go
  obtain ⟨i,c⟩:=hl 0 (d7 _)
  have c':t.slot p.j=.live i:=c
  rw [c']
  dsimp only
  by_cases q:(ha i==h)=true
  ·rw [av q]
   exact ⟨_,rfl,.cand (t:=t) (p:=p) 0 i (aV _) c (fj.mp q)⟩
  ·rw [ao q]
   obtain ⟨m,e,ok⟩:=Z3 (ha:=ha) N fuel (t.advance p) (by lia) ((qzs t p).trans hp) (λn hn=>hl (n+1) (by lia)) hs
   refine ⟨m,e,?_⟩
   cases ok with
   |empty hs=>exact .empty (p:=p) hs
   |cand m i hm hs hh=>exact .cand (t:=t) (p:=p) (m+1) i (by lia) hs hh
theorem qub {ks:List (List Key)}(ho:s.heap.get? S=some o)(hd:o.data=.set ps.toArray ep t)(T:Tab (byT w) t (ps.map (·.1)))(K:KP prog w s.heap ps ks)(hx:(KD prog w).is s.heap k a)(hu:A.units<cLine){Q:SetFound→Ab→Prop}
  (hQ1:k∈ks→Q (.there none) s):∀(N fuel:Nat) (stand:Option SetTable.Probe),N<fuel→N<10*SetTable.turns t.mask→(stand.getD (t.probeStart ((KD prog w).hash k))).dummy=none →
   (∀n,n<N→∃i:Nat,t.slot (zw t n (stand.getD (t.probeStart ((KD prog w).hash k)))).j=.live i) →
   (t.slot (zw t N (stand.getD (t.probeStart ((KD prog w).hash k)))).j=.empty∨∃i:Nat,t.slot (zw t N (stand.getD (t.probeStart ((KD prog w).hash k)))).j=.live i∧ks[i]?=some k) →
   (t.slot (zw t N (stand.getD (t.probeStart ((KD prog w).hash k)))).j=.empty→Q (.free (zw t N (stand.getD (t.probeStart ((KD prog w).hash k)))).j false) s) →
   wpAny (model prog w) A (setSearchFrom S (.ref a) ((KD prog w).hash k) true fuel stand) Q E s:=by
 intro N
 induction N using Nat.strongRecOn with
 |_ N ih =>
  intro fuel stand hf hT hp hl hs hQ2
  obtain ⟨fuel,rfl⟩:∃f,fuel=f+1:=⟨fuel-1,by lia⟩
  unfold setSearchFrom
  refine aa (bw ho hd T.fits' ?_)
  dsimp only
  have gw:t.gaveWay=false:=by
   unfold SetTable.gaveWay
   obtain ⟨e,h1,h2,_⟩:=T.pw
   obtain ⟨e',rfl⟩:∃e',e=e'+1:=⟨e-1,by lia⟩
   rw [dA] at h1
   simp only [b8]
   lia
  rw [gw]
  simp only [aG,bE]
  have hashAt:∀(i:Nat) (k':List Key),ks[i]?=some k'→∀(p:Int×Ag),ps[i]?=some p→p.1=(KD prog w).hash k':=λi k' ek p e=>by
   obtain ⟨k2,b,e1,e2,_⟩:=K.get e
   rw [ek] at e1
   cases e1
   rw [e2]
  have inP:∀ {j i:Nat},t.slot j=.live i→i<ps.length:=λ{j i} e=>by
   have:=(bi.mp (Z4 e)).1
   rw [T.pl,ag] at this
   exact this
  have key:∀ha:Nat→Int,(∀(i:Nat) (p:Int×Ag),ps[i]?=some p→ha i=p.1)→∃m,t.probe ha ((KD prog w).hash k) (stand.getD (t.probeStart ((KD prog w).hash k)))=some m∧MetP t ha ((KD prog w).hash k) (stand.getD (t.probeStart ((KD prog w).hash k))) N m:=λha hha=>by
   refine Z3 N _ _ hT hp hl ?_
   rcases hs with hs|⟨i,hs,ek⟩
   ·exact .inl hs
   ·have hi:=inP hs
    have e:=ae hi
    exact .inr ⟨i,hs,(hha i _ e).trans (hashAt i k ek _ e)⟩
  split
  ·rename_i met hm
   obtain ⟨m',e1,ok⟩:=key _ (λi p e=>by
    show (ps.toArray[i]?.map (·.1)).getD 0=p.1
    have:ps.toArray[i]?=some p:=by simpa using e
    rw [this]
    rfl)
   obtain rfl:m'=met:=aq (e1.symm.trans hm)
   cases ok with
   |empty hs'=>exact ah (hQ2 hs')
   |cand m i hm' hsl hh =>
    have hi:=inP hsl
    obtain ⟨k',b,ek,eb,hb⟩:=K.get (ae hi)
    have ei:ps.toArray[i]?=some ((KD prog w).hash k',.ref b):=by
     rw [←eb]
     simp [hi]
    have rest:wpAny (model prog w) A (do
      let some (_,y):=ps.toArray[i]? | unsupported "internal:set-entry"
      let equal ←holding [y] (eqBool y (.ref a))
      let (es',_,t') ←setState S
      if true&&equal then return .there none
      let some sm0:=t'.sameMemory t.moves t.mask | unsupported "set.changed-during-lookup:is-the-new-block-at-the-old-address"
      let still ←match (if sm0 then t'.slot (zw t m (stand.getD (t.probeStart ((KD prog w).hash k)))).j else .empty) with
       |.live i'=>match es'[i']? with
        |some (_,y')=>do pure (if ←isSame y' y then some i' else none)
        |none=>pure none
       |_=>pure none
      match still with
      |none=>rule "set.search.anew";setSearchFrom S (.ref a) ((KD prog w).hash k) true fuel none
      |some i'=>if equal then return .there (some i') else setSearchFrom S (.ref a) ((KD prog w).hash k) true fuel (some (zw t (m+1) (stand.getD (t.probeStart ((KD prog w).hash k)))))) Q E s:=by
     rw [ei]
     dsimp only
     refine aa (b7 ((KD prog w).eqBool hu hb hx ?_))
     refine aa (bw ho hd T.fits' ?_)
     by_cases ce:k'=k
     ·rw [aT ce]
      simp only [i3,dz]
      exact ah (hQ1 (by rw [←ce];exact aC ek))
     ·rw [bp ce]
      have sm:t.sameMemory t.moves t.mask=some true:=by simp [SetTable.sameMemory]
      simp only [gv,aG,bE,sm,dz,hsl,ei]
      refine aa ?_
      refine wyx ?_
      simp only [dz]
      refine aa (ah ?_)
      have mN:m<N:=by
       rcases bn m N with z|z
       ·exact z
       ·obtain rfl:m=N:=by lia
        rcases hs with hs|⟨i0,hs,ek0⟩
        ·rw [hs] at hsl;cases hsl
        ·rw [hs] at hsl
         cases hsl
         rw [ek0] at ek
         cases ek
         exact absurd rfl ce
      have sh:∀n,zw t n (zw t (m+1) (stand.getD (t.probeStart ((KD prog w).hash k))))=zw t (m+1+n) (stand.getD (t.probeStart ((KD prog w).hash k))):=λn=>(Qv t n (m+1) _).symm
      refine ih (N-(m+1)) (by lia) fuel (some (zw t (m+1) (stand.getD (t.probeStart ((KD prog w).hash k))))) (by lia) (by lia) ?_ (λn hn=>?_) ?_ ?_
      ·show (zw t (m+1) _).dummy=none
       rw [qw9];exact hp
      ·show ∃i:Nat,t.slot (zw t n (zw t (m+1) _)).j=.live i
       rw [sh]
       exact hl _ (by lia)
      ·show t.slot (zw t (N-(m+1)) (zw t (m+1) _)).j=.empty∨∃i:Nat,t.slot (zw t (N-(m+1)) (zw t (m+1) _)).j=.live i∧_
       rw [sh,show m+1+(N-(m+1))=N by lia]
       exact hs
      ·show t.slot (zw t (N-(m+1)) (zw t (m+1) _)).j=.empty→Q (.free (zw t (N-(m+1)) (zw t (m+1) _)).j false) s
       rw [sh,show m+1+(N-(m+1))=N by lia]
       exact hQ2
    dsimp only
    cases t.led with
    |true=>exact rest
    |false =>
     simp only [iQ,dz]
     refine aa (xxq hx ?_ _ λy hy=>?_)
     ·simp only [aG,bE]
      exact rest
     ·obtain ⟨p,hp',rfl⟩:=aO.mp hy
      have hp2:p∈ps:=by
       have:=fR.mp hp'
       simpa using Array.mem_of_mem_filter this
      obtain ⟨i2,e2⟩:=bL hp2
      obtain ⟨k2,b2,_,e3,h2⟩:=K.get e2
      exact ⟨k2,b2,by rw [e3],h2⟩
  ·rename_i hm
   obtain ⟨m',e1,_⟩:=key _ (λi p e=>by
    show (ps.toArray[i]?.map (·.1)).getD 0=p.1
    have:ps.toArray[i]?=some p:=by simpa using e
    rw [this]
    rfl)
   exact (hm _ e1).elim
theorem wvw {Q:Bool→Ab→Prop}{n:Nat}{items:List Ag}{m:Nat}(hx:(KD prog w).is s.heap k a)(ho:s.heap.get? a=some o)(hd:o.data=.seq items.toArray m)(hi:∀v∈items,∃i t,v=Value.int i t)(hQ:Q true s):wpAny (model prog w) A (hashByValue (n+1) (.ref a)) Q E s:=by
 have hT:s.TypeIs (.ref a) "tuple" := IsTupleKey.typeIs hx
 unfold hashByValue
 refine aa (iF hT PySem.F.slot_tuple_hash.lookup ?_)
 dsimp only
 refine aa (gF ho hd ?_)
 refine aa ?_
 show wpAny _ _ (forIn items.toArray _ _) _ _ s
 rw [←fm]
 refine ij _ (λrest r s'=>r.1=none∧s'=s∧∀v∈rest,∃i t,v=Value.int i t) _ ?_ ?_ _ _ ⟨rfl,rfl,by simpa using hi⟩
 ·rintro v rest r s' ⟨hr,rfl,hall⟩
  obtain ⟨i,t,rfl⟩:=hall v dD
  have eb:hashByValue n (.int i t)=pure true:=by cases n <;> rfl
  rw [eb]
  refine aa (ah ?_)
  exact ah ⟨rfl,rfl,λu hu=>hall u (bD _ hu)⟩
 ·rintro ⟨r1,r2⟩ s' ⟨hr,rfl,_⟩
  simp only at hr
  subst hr
  exact ah hQ
theorem wyj {ks:List (List Key)}{items:List Ag}{m:Nat}{oa:Obj}{Q:Bool→Ab→Prop}(P:SAt w s.heap S ps)(K:KP prog w s.heap ps ks)(hx:(KD prog w).is s.heap k a)(hoa:s.heap.get? a=some oa)(hda:oa.data=.seq items.toArray m)(hi:∀v∈items,∃i t,v=Value.int i t)
  (hu:A.units<cLine) (hn:ps.length<1099) (hQ1:k∈ks→∀tk,Q false { s with toks:=tk }) (hQ2:k∉ks→∀h' tk ps',Heap.SameBut S s.heap h'→SAt w h' S ps'→ps'.Perm (((KD prog w).hash k,.ref a)::ps)→Q true { s with heap:=h',toks:=tk }) :
  wpAny (model prog w) A (setAdd S (.ref a)) Q E s:=by
 obtain ⟨o,ep,t,ho,hex,hd,T,few⟩:=P
 have bm:=T.big
 unfold setAdd
 refine b7 (aa ((KD prog w).pyHash hu hx ?_))
 generalize s.toks+(KD prog w).draws k=tk
 unfold setAddHashed
 refine b7 ?_
 unfold setAddHashedIn
 refine aa (bw (s:={ s with toks:=tk }) ho hd T.fits' ?_)
 dsimp only
 have bs:byScan (.ref a) ps.toArray=false:=by simp [byScan,Value.scannable]
 rw [bs]
 simp only [aG,bE]
 refine aa ?_
 unfold setSearch
 by_cases ck:k∈ks
 ·obtain ⟨i,ei⟩:=bL ck
  have hi2:i<ps.length:=by rw [K.len];exact (ak.mp ei).1
  obtain ⟨k',b,e1,e2,_⟩:=K.get (ae hi2)
  rw [ei] at e1
  cases e1
  obtain ⟨N,j,r1,r2,r3,r4⟩:=T.reach i ((KD prog w).hash k) (by rw [ax,ae hi2,e2];rfl)
  have sj:=qvn T.rise r2
  refine qub (s:={ s with toks:=tk }) ho hd T K hx hu (λ_=>?_) N 100000 none (by lia) (by unfold SetTable.turns;lia) rfl (λn hn=>?_) (.inr ⟨i,?_,ei⟩) λz=>?_
  ·exact ah (hQ1 ck tk)
  ·obtain ⟨i',e'⟩:=r4 n hn
   exact ⟨i',qvn T.rise e'⟩
  ·show t.slot (pos t ((KD prog w).hash k) N)=_
   rw [r3]
   exact sj
  ·have z':t.slot (pos t ((KD prog w).hash k) N)=.empty:=z
   rw [r3,sj] at z'
   cases z'
 ·obtain ⟨N,r1,r2,r3⟩:=T.free ((KD prog w).hash k)
  refine qub (s:={ s with toks:=tk }) ho hd T K hx hu (λz=>absurd z ck) N 100000 none (by lia) (by unfold SetTable.turns;lia) rfl (λn hn=>r3 n hn) (.inl r2) λ_=>?_
  dsimp only
  refine aa (bw (s:={ s with toks:=tk }) ho hd T.fits' ?_)
  dsimp only
  have pt:(t.put (pos t ((KD prog w).hash k) N)).1.plain=true:=T.plain
  show wpAny (model prog w) A (do
   let byValue ←if (t.put (pos t ((KD prog w).hash k) N)).1.plain=true then hashByValue 8 (.ref a) else pure true
   _) Q E { s with toks:=tk }
  rw [av pt]
  refine aa (wvw (s:={ s with toks:=tk }) hx hoa hda hi ?_)
  exact lay_in (s:={ s with toks:=tk }) (w:=w) ho hex hd T few hn r1 r2 r3 λh' ps' sb P' pm=>hQ2 ck h' tk ps' sb P' pm
end
end L2
namespace L2
open PySem PySem.Spec PySem.Calls PySem.W PyProof.Rows
theorem slot_setit_next:Slot "set_iterator" "__next__" "set_iterator.__next__" := .of (owner := "set_iterator") (n := "__next__") (by rw [typeLookup_type,builtinLookup_eq_fast];kernel_rfl) (by decide +kernel) (by decide +kernel) (by decide +kernel) (by first | exact .inl (by decide +kernel) | exact .inr (by decide +kernel)) (by rw [isSubtype_type];kernel_rfl)
theorem uh:Slot "set_iterator" "__iter__" "set_iterator.__iter__" := .of (owner := "set_iterator") (n := "__iter__") (by rw [typeLookup_type,builtinLookup_eq_fast];kernel_rfl) (by decide +kernel) (by decide +kernel) (by decide +kernel) (by first | exact .inl (by decide +kernel) | exact .inr (by decide +kernel)) (by rw [isSubtype_type];kernel_rfl)
theorem yr:entryFor table "set_iterator.__next__" = some Builtin.«set_iterator.__next__»:=entryFor_of_tree (by kernel_rfl)
theorem Z2:entryFor table "set_iterator.__iter__" = some Builtin.«dict_keyiterator.__iter__»:=entryFor_alias (id' := "dict_keyiterator.__iter__") (by kernel_rfl) rfl (by decide +kernel) (by kernel_rfl)
theorem qw5:entryFor table "set.__iter__" = some Builtin.«frozenset.__iter__»:=entryFor_alias (id' := "frozenset.__iter__") (by kernel_rfl) rfl (by decide +kernel) (by kernel_rfl)
theorem Y6:Manifest.owners.lookup (String.ofList ['r','o','t','a','r','e','t','i','_','t','e','s'].reverse)=some Manifest.sig_set_iterator:=by kernel_rfl
theorem ug (a:Ag):argsOk "set_iterator.__next__" ⟨[a],[]⟩:=by (unfold argsOk;rw [signature?_of (id := "set_iterator.__next__") (n:=['_','_','t','x','e','n','_','_']) (o:=['r','o','t','a','r','e','t','i','_','t','e','s']) (by kernel_rfl) Y6];kernel_rfl)
theorem Jd (a:Ag):argsOk "set_iterator.__iter__" ⟨[a],[]⟩:=by (unfold argsOk;rw [signature?_of (id := "set_iterator.__iter__") (n:=['_','_','r','e','t','i','_','_']) (o:=['r','o','t','a','r','e','t','i','_','t','e','s']) (by kernel_rfl) Y6];kernel_rfl)
theorem ww7 {α:Type}(nx:Nat→Nat):∀(f k:Nat) (left:List α) (out:Array α),left.length=f→(pickOrder.go nx f k left out).toList.Perm (out.toList++left)
 |0,k,left,out,h=>by
  have:left=[]:=dY h
  subst this
  unfold pickOrder.go
  simp
 |f+1,k,left,out,h=>by
  have hi:nx k%left.length<left.length:=fk _ (by lia)
  unfold pickOrder.go
  rw [ae hi]
  dsimp only
  refine (ww7 nx f (k+1) (left.eraseIdx (nx k%left.length)) _ (by rw [List.length_eraseIdx,av hi];lia)).trans ?_
  rw [di,aX]
  refine cT _ ?_
  rw [List.singleton_append]
  rw [List.eraseIdx_eq_take_drop_succ]
  refine List.perm_middle.symm.trans ?_
  rw [←eU hi,cS]
def wk (w:Ah)(S:Aj)(ep:Nat)(ps:List (Int×Ag)):List (Int×Ag):=if byT w=true then (pickOrder (w.params.setOrder S ep) ps.toArray).toList else ps
theorem qqw (w:Ah)(S:Aj)(ep:Nat)(ps:List (Int×Ag)):(wk w S ep ps).Perm ps:=by
 unfold wk
 split
 ·unfold pickOrder
  exact (ww7 _ _ _ _ _ (by simp)).trans (by simp)
 ·exact .refl _
def SRaw (h:Heap)(S:Aj)(ps:List (Int×Ag))(ep:Nat)(t:SetTable):Prop:=∃o,h.get? S=some o∧o.ExactSet∧o.data=.set ps.toArray ep t
def SIt (h:Heap)(it S:Aj)(slot i n ep:Nat):Prop:=∃o,h.get? it=some o∧o.cls=.type "set_iterator" ∧ o.data=.fields #[.int slot 0,.int i 0,.ref S,.int n 0,.int ep 0]
theorem SRaw.at {h h':Heap}{S:Aj}{ps:List (Int×Ag)}{ep:Nat}{t:SetTable}(x:SRaw h S ps ep t)(k:∀o,h.get? S=some o→h'.get? S=some o):SRaw h' S ps ep t:=let ⟨o,e,r⟩:=x;⟨o,k o e,r⟩
theorem SIt.at {h h':Heap}{it S:Aj}{slot i n ep:Nat}(x:SIt h it S slot i n ep)(k:∀o,h.get? it=some o→h'.get? it=some o):SIt h' it S slot i n ep:=let ⟨o,e,r⟩:=x;⟨o,k o e,r⟩
section
variable {prog:Ac}{w:Ah}{A:Ae}{E:Ag→Ab→Prop}{s:Ab}{S it:Aj}{ps:List (Int×Ag)}{ep:Nat}{t:SetTable}
theorem SIt.ty {slot i n:Nat}(x:SIt s.heap it S slot i n ep):s.TypeIs (.ref it) "set_iterator" := let ⟨o,e,r⟩:=x;⟨o,e,r.1⟩
theorem SRaw.ty (x:SRaw s.heap S ps ep t):s.TypeIs (.ref S) "set" := let ⟨o,e,r⟩:=x;⟨o,e,r.1.1⟩
theorem Yb {Q:Bool→Ab→Prop}(h:Q (byT w) s):wpAny (model prog w) A setsByText Q E s:=by
 unfold setsByText
 exact aa (eS (ah h))
theorem wz5 {slot i:Nat}{Q:Option (Ag×Nat)→Ab→Prop}(R:SRaw s.heap S ps ep t)(T:Tab (byT w) t (ps.map (·.1)))(hs:byT w=false→SetTable.below t.place slot=i){p:Int×Ag}(hp:(wk w S ep ps)[i]?=some p)
  (hQ:∀nx:Nat,(byT w=false→SetTable.below t.place nx=i+1)→Q (some (p.2,nx)) s):wpAny (model prog w) A (setNext S slot i ep) Q E s:=by
 obtain ⟨o,ho,hex,hd⟩:=R
 unfold setNext
 refine aa (bw ho hd T.fits' ?_)
 dsimp only
 refine aa (Yb ?_)
 cases hb:byT w with
 |true =>
  rw [hb] at hs hQ
  simp only [dz,eJ,aG,bE]
  refine aa ?_
  unfold setWalk
  refine aa (bw ho hd T.fits' ?_)
  dsimp only
  refine aa (Yb ?_)
  rw [hb]
  simp only [dz]
  refine aa (eS (ah ?_))
  unfold wk at hp
  rw [av hb,aD] at hp
  show wpAny _ _ (pure (((pickOrder (w.params.setOrder S ep) ps.toArray)[i]?).map _)) _ _ _
  rw [hp]
  exact ah (hQ slot λz=>by cases z)
 |false =>
  rw [hb] at hs hQ
  simp only [aG,bE]
  refine ff (λhab=>absurd hab ?_) (λ_=>?_)
  ·show ¬ ((!t.plain&&decide (ps.toArray.size>1))=true)
   rw [T.plain]
   simp
  ·refine aa ?_
   show wpAny _ _ (if (!t.led&&!ps.toArray.isEmpty)=true then _ else _) _ _ s
   have hled:t.led=true:=by rw [T.led,hb];rfl
   rw [hled]
   simp only [fO,iL,aG,bE]
   refine ah ?_
   unfold wk at hp
   rw [ao (by rw [hb];exact aE)] at hp
   have hi:=(ak.mp hp).1
   have e1:ps.toArray[i]?=some (p.1,p.2):=by simpa using hp
   have hpl:i<t.place.size:=by rw [T.pl,ag];exact hi
   have e2:t.place[i]?=some t.place[i]:=aY hpl
   rw [hs rfl,e1,e2]
   exact ah (hQ _ λ_=>wqr T.rise e2)
theorem wku {slot i:Nat}{Q:Option (Ag×Nat)→Ab→Prop}(R:SRaw s.heap S ps ep t)(T:Tab (byT w) t (ps.map (·.1)))(hs:byT w=false→SetTable.below t.place slot=i)(hp:ps.length≤i)
  (hQ:Q none s):wpAny (model prog w) A (setNext S slot i ep) Q E s:=by
 obtain ⟨o,ho,hex,hd⟩:=R
 unfold setNext
 refine aa (bw ho hd T.fits' ?_)
 dsimp only
 refine aa (Yb ?_)
 cases hb:byT w with
 |true =>
  simp only [dz,eJ,aG,bE]
  refine aa ?_
  unfold setWalk
  refine aa (bw ho hd T.fits' ?_)
  dsimp only
  refine aa (Yb ?_)
  rw [hb]
  simp only [dz]
  refine aa (eS (ah ?_))
  have hl:=(qqw w S ep ps).length_eq
  unfold wk at hl
  rw [av hb,aS] at hl
  show wpAny _ _ (pure (((pickOrder (w.params.setOrder S ep) ps.toArray)[i]?).map _)) _ _ _
  rw [dB (by rw [hl];exact hp)]
  exact ah hQ
 |false =>
  rw [hb] at hs
  simp only [aG,bE]
  refine ff (λhab=>absurd hab ?_) (λ_=>?_)
  ·show ¬ ((!t.plain&&decide (ps.toArray.size>1))=true)
   rw [T.plain]
   simp
  ·refine aa ?_
   show wpAny _ _ (if (!t.led&&!ps.toArray.isEmpty)=true then _ else _) _ _ s
   have hled:t.led=true:=by rw [T.led,hb];rfl
   rw [hled]
   simp only [fO,iL,aG,bE]
   refine ah ?_
   have e1:ps.toArray[i]?=none:=dB (by rw [ar];exact hp)
   rw [hs rfl,e1]
   exact ah hQ
theorem wqh {slot i:Nat}{p:Int×Ag}{Q:Option Ag→Ab→Prop}(hit:SIt s.heap it S slot i ps.length ep)(R:SRaw s.heap S ps ep t)(T:Tab (byT w) t (ps.map (·.1)))(hs:byT w=false→SetTable.below t.place slot=i)(hp:(wk w S ep ps)[i]?=some p)
  (hQ:∀h' nx,SIt h' it S nx (i+1) ps.length ep→(byT w=false→SetTable.below t.place nx=i+1)→Heap.SameBut it s.heap h'→Q (some p.2) { s with heap:=h' }):wpAny (model prog w) A (pyNext (.ref it)) Q E s:=by
 obtain ⟨o,ho,hc,hd⟩:=id hit
 obtain ⟨oS,hoS,hexS,hdS⟩:=id R
 unfold pyNext
 refine aa (eF (dj (name:=Str.ofString "__next__") hit.ty slot_setit_next (cI slot_setit_next hit.ty yr ?_ (ug _))))
 unfold Builtin.«set_iterator.__next__»
 refine aa (ah ?_)
 refine aa (gH ho hd ?_)
 dsimp only
 refine aa ?_
 unfold setEntries
 refine aa (bw hoS hdS T.fits' (ah ?_))
 dsimp only
 rw [ao (by rw [ar];simp)]
 rw [bG,bG,bG]
 refine aa (wz5 R T hs hp λnx hnx=>?_)
 dsimp only
 refine aa (dU ho hd (by simp) ?_)
 have g1:=cA (Obj.mapFields (·.setIfInBounds 0 (rawInt (nx:Int)))) ho (eI (cH hd _))
 have d1:=cH hd (·.setIfInBounds 0 (rawInt (nx:Int)))
 have sb1:Heap.SameBut it s.heap (s.heap.update it (Obj.mapFields (·.setIfInBounds 0 (rawInt (nx:Int))))):=ca ..
 generalize s.heap.update it (Obj.mapFields (·.setIfInBounds 0 (rawInt (nx:Int))))=h1 at g1 sb1 ⊢
 refine aa (dU (s:={ s with heap:=h1 }) g1 d1 (by simp) ?_)
 have g2:=cA (Obj.mapFields (·.setIfInBounds 1 (rawInt ((i:Int)+1)))) g1 (eI (cH d1 _))
 have d2:=cH d1 (·.setIfInBounds 1 (rawInt ((i:Int)+1)))
 have sb2:Heap.SameBut it h1 (h1.update it (Obj.mapFields (·.setIfInBounds 1 (rawInt ((i:Int)+1))))):=ca ..
 refine ah ⟨_,rfl,ah (hQ _ nx ⟨_,g2,((gX ..).trans (gX ..)).trans hc,by rw [d2];simp [rawInt]⟩ hnx (sb1.trans sb2))⟩
theorem wvy {slot i:Nat}{Q:Option Ag→Ab→Prop}(hh:A.handled=none)(hit:SIt s.heap it S slot i ps.length ep)(R:SRaw s.heap S ps ep t)(T:Tab (byT w) t (ps.map (·.1)))(hs:byT w=false→SetTable.below t.place slot=i)(hp:ps.length≤i)
  (hQ:∀h',Heap.ExtBut it s.heap h'→Q none { s with heap:=h' }):wpAny (model prog w) A (pyNext (.ref it)) Q E s:=by
 obtain ⟨o,ho,hc,hd⟩:=id hit
 obtain ⟨oS,hoS,hexS,hdS⟩:=id R
 unfold pyNext
 refine aa (eF (dj (name:=Str.ofString "__next__") hit.ty slot_setit_next (cI slot_setit_next hit.ty yr ?_ (ug _))))
 unfold Builtin.«set_iterator.__next__»
 refine aa (ah ?_)
 refine aa (gH ho hd ?_)
 dsimp only
 refine aa ?_
 unfold setEntries
 refine aa (bw hoS hdS T.fits' (ah ?_))
 dsimp only
 rw [ao (by rw [ar];simp)]
 rw [bG,bG,bG]
 refine aa (wku R T hs hp ?_)
 dsimp only
 refine aa (dU ho hd (by simp) ?_)
 refine aa ?_
 simp only [newExc,newTuple]
 (refine aa (bU ?_ (by size_fits)) ;refine aa (m:=firstArgMember _ _) (wpAny_of_eq (a:=Value.none) (by first | rfl | (simp only [firstArgMember];rfl)) ?_) ;refine bU ?_ (by size_fits) ;simp only [raiseNew] ;refine aa (wpAny_handled ?_) ;rw [show A.in1.handled=none from hh] ;refine aa (ah (wpAny_throw ?_)))
 refine aa (io (T := "StopIteration") (b:=true) ⟨_,az _ rfl,rfl⟩ isSubtype_stop (ah (hQ _ (((ca ..).extBut.push _).push _))))
theorem qu2 {slot i:Nat}{Q:Ag→Ab→Prop}(hit:SIt s.heap it S slot i ps.length ep)(h:Q (.ref it) s):wpAny (model prog w) A (pyIter (.ref it)) Q E s:=by
 refine gY hit.ty uh (cI uh hit.ty Z2 ?_ (Jd _))
 show wpAny _ _ (ret (.ref it)) _ _ s
 exact ah ⟨_,rfl,"set_iterator",_,hit.ty,slot_setit_next.lookup,h⟩
theorem wjt {Q:Ag→Ab→Prop}(R:SRaw s.heap S ps ep t)(T:Tab (byT w) t (ps.map (·.1)))
  (hQ:Q (.ref s.heap.objs.size) { s with heap:=s.heap.push { cls:=.type "set_iterator",data:=.fields #[.int 0 0,.int 0 0,.ref S,.int ps.length 0,.int ep 0] } }):wpAny (model prog w) A (pyIter (.ref S)) Q E s:=by
 obtain ⟨oS,hoS,hexS,hdS⟩:=id R
 refine gY R.ty F.slot_set_iter (cI F.slot_set_iter R.ty qw5 ?_ (F.args_set_iter_1 _))
 unfold Builtin.«frozenset.__iter__»
 refine aa ?_
 unfold Builtin.Frozenset.slot0
 refine aa (ah ?_)
 show wpAny _ _ (pure S) _ _ s
 refine ah ?_
 refine aa ?_
 unfold Builtin.Frozenset.sizeOf setEntries
 refine aa (aa (bw hoS hdS T.fits' (ah (ah ?_))))
 dsimp only
 refine aa ?_
 unfold setDrawn
 refine aa (bw hoS hdS T.fits' ?_)
 dsimp only
 refine aa (Yb (ah ?_))
 have hdr:∀b:Bool,(b&&(!t.plain&&decide (ps.toArray.size>1)))=false:=λb=>by rw [T.plain];simp
 refine ff (λhab=>?_) (λ_=>?_)
 ·have:(!byT w&&(!t.plain&&decide (ps.toArray.size>1)))=true:=hab
  rw [hdr] at this
  cases this
 ·refine aa (ah ?_)
  refine aa (wpAny_setEpoch_of hoS hdS T.fits' ?_)
  refine aa (bU (ah ⟨_,rfl,"set_iterator",_,⟨_,az _ rfl,rfl⟩,slot_setit_next.lookup,?_⟩))
  simpa [rawInt] using hQ
theorem wzu (hh:A.handled=none)(I:Aj)(hne:S≠I)(T:Tab (byT w) t (ps.map (·.1))):Walks prog w A I [I,S] [I] ps.length (λi v=>∃p,(wk w S ep ps)[i]?=some p∧v=p.2) (λi h=>(∃slot,SIt h I S slot i ps.length ep∧(byT w=false→SetTable.below t.place slot=i))∧SRaw h S ps ep t) where
 sub:=λb hb=>by simp at hb;simp [hb]
 frame:=λ_ _ _ ⟨⟨sl,a,b⟩,c⟩ hk=>⟨⟨sl,a.at λo e=>hk I (by simp) o e,b⟩,c.at λo e=>hk S (by simp) o e⟩
 item:=λi s Q E hi ⟨⟨sl,a,b⟩,c⟩ hQ=>by
  have hl:=(qqw w S ep ps).length_eq
  have hx:=ae (l:=wk w S ep ps) (i:=i) (by lia)
  exact wqh a c T b hx λh' nx it' nx' sb=>hQ _ h' s.toks ⟨_,hx,rfl⟩ ⟨⟨nx,it',nx'⟩,c.at λo e=>sb.extBut S o hne e⟩ λb o hb e=>sb.extBut b o (λh=>hb (by simp [h])) e
 done:=λs Q E ⟨⟨sl,a,b⟩,c⟩ hQ=>wvy hh a c T b (aj _) λh' eb=>hQ h' s.toks λb o hb e=>eb b o (λh=>hb (by simp [h])) e
 self:=λ_ _ _ _ ⟨⟨sl,a,b⟩,c⟩ hQ=>qu2 a hQ
theorem wks {Q:Bool→Ab→Prop}(hT:s.TypeIs (.ref S) "set")(h:Q false s):wpAny (model prog w) A (Builtin.List.listLengthHint (.ref S)) Q E s:=by
 unfold Builtin.List.listLengthHint
 refine aa (iF hT F.slot_set_len.lookup ?_)
 generalize hid:("set.__len__" : String)=id0
 wp_delta
 rw [show splitId id0=some ("set","__len__") from by subst hid;decide +kernel]
 subst hid
 (refine aa (io (T := "set") (b:=true) hT (by rw [isSubtype_type];kernel_rfl) ?_) ;refine ff (λhab=>absurd hab (by decide)) (λ_=>?_) ;refine ff (λ_=>?_) (λhab=>absurd (by decide +kernel) hab))
 refine aa (wpAny_typeOf hT ?_)
 exact ah h
theorem xw6 (T:Tab (byT w) t (ps.map (·.1))):KdlSrc prog w "set" S S ps.length (λi v=>∃p,(wk w S ep ps)[i]?=some p∧v=p.2) (λh=>SRaw h S ps ep t) where
 type:=λ_ hm=>hm.ty
 there:=λ_ hm=>let ⟨_,e,_⟩:=hm;⟨al e,al e⟩
 keep:=λ_ _ hm hk=>hm.at λo e=>hk S (.inl rfl) o e
 notList:=by decide
 notTuple:=by decide
 hint:=λ_ _ _ _ hm hq=>wks hm.ty hq
 iter:=λ_ _ hh hm=>⟨_,_,(λ_ _ hq=>wjt hm T hq),wzu hh _ (let ⟨_,e,_⟩:=hm;aB (al e)) T,⟨⟨0,⟨_,az _ rfl,rfl,rfl⟩,λ_=>wq0 T.rise⟩,hm.at λo e=>ai _ e⟩⟩
end
end L2
namespace Tm
open PySem PyProof.Rows
def Q0:Bool→Ai→Array Ai→Nat→Nat→Nat→StateT Af Sem (Option Nat):=sortPriv% PySem.Builtin.gallop
def qjy:Array Ai→Array Ai→StateT Af Sem (Array Ai):=sortPriv% PySem.Builtin.mergeLo
def qjq:Array Ai→Array Ai→StateT Af Sem (Array Ai):=sortPriv% PySem.Builtin.mergeHi
local macro_rules | `(tactic| walk_at "tim gallop")=>do
 let n:=Lean.mkIdent (Lean.mkPrivateNameCore `PySem.Builtin.List.W1All `PySem.Builtin.gallop)
 `(tactic| unfold $n:ident)
section
variable {M:Model}{A:Ae}{E:Ag→Ab→Prop}{s:Ab}{G:Ai→Prop}{kz:Ai→Int}{kd:SortKind}
def yq (M:Model)(A:Ae)(E:Ag→Ab→Prop)(s:Ab)(G:Ai→Prop)(kz:Ai→Int)(kd:SortKind):Prop :=
 ∀(x y:Ai) (st:Af) (Q:Option Bool→Af→Prop),G x→G y→kindOf st=kd→Q (some (decide (kz x<kz y))) st→wpS M A E s (lt' x y) Q st
theorem w8 {arr:Array Ai}{i:Nat}{x:Ai}{st:Af}{Q:Ai→Af→Prop}(hx:arr[i]?=some x)(h:Q x st):wpS M A E s (elem' arr i) Q st:=by
 rw [elem'_eq,hx]
 exact ay h
def zp (kz:Ai→Int)(left:Bool)(key x:Ai):Bool:=if left=true then decide (kz x<kz key) else !decide (kz key<kz x)
theorem qjd {n lo0 hi0:Nat}{P:Nat→Bool}{st:Af}{f:Nat→Option (Option Nat)×Nat×Nat→StateT Af Sem (ForInStep (Option (Option Nat)×Nat×Nat))}{Q:Option (Option Nat)×Nat×Nat→Af→Prop}
  (f1:∀i a b (R:ForInStep (Option (Option Nat)×Nat×Nat)→Af→Prop),a≥b→R (.done (none,a,b)) st→wpS M A E s (f i (none,a,b)) R st)
  (f2:∀i a b (R:ForInStep (Option (Option Nat)×Nat×Nat)→Af→Prop),¬ a≥b→b≤n→(P (a+(b-a)/2)=true→R (.yield (none,a+(b-a)/2+1,b)) st)→(P (a+(b-a)/2)=false→R (.yield (none,a,a+(b-a)/2)) st)→wpS M A E s (f i (none,a,b)) R st)
  (h1:lo0≤hi0) (h2:hi0≤n) (hlo:∀i,i<lo0→P i=true) (hhi:∀i,hi0≤i→i<n→P i=false) (mono:∀i j,i≤j→j<n→P j=true→P i=true)
  (h:∀a k,k≤n→(∀i,i<k→P i=true)→(∀i,k≤i→i<n→P i=false)→Q (none,a,k) st) :
  wpS M A E s (forIn [:n] ((none,lo0,hi0):Option (Option Nat)×Nat×Nat) f) Q st:=by
 refine bY (I:=λi (c:Option (Option Nat)×Nat×Nat) st'=>st'=st∧c.1=none∧c.2.1≤c.2.2∧c.2.2≤n∧c.2.2-c.2.1≤n-i∧(∀i,i<c.2.1→P i=true)∧(∀i,c.2.2≤i→i<n→P i=false))
  ?step ?fin ⟨rfl,rfl,h1,h2,by dsimp only;lia,hlo,hhi⟩
 case fin =>
  rintro ⟨r,a,b⟩ st' ⟨rfl,hr,x1,x2,x3,x4,x5⟩
  dsimp only at hr x1 x2 x3 x4 x5 ⊢
  subst hr
  have:a=b:=by lia
  subst this
  exact h _ _ x2 x4 x5
 case step =>
  rintro i ⟨r,a,b⟩ st' _ hi ⟨rfl,hr,x1,x2,x3,x4,x5⟩
  dsimp only at hr x1 x2 x3 x4 x5 ⊢
  subst hr
  by_cases c:a≥b
  ·have:a=b:=by lia
   subst this
   exact f1 _ _ _ _ c (h _ _ x2 x4 x5)
  ·refine f2 _ _ _ _ c x2 (λhp=>?_) λhp=>?_
   ·exact ⟨rfl,rfl,by dsimp only;lia,x2,by dsimp only;lia,λj hj=>mono j _ (by dsimp only at hj;lia) (by lia) hp,x5⟩
   ·refine ⟨rfl,rfl,by dsimp only;lia,by dsimp only;lia,by dsimp only;lia,x4,λj hj hj2=>?_⟩
    cases hp2:P j with
    |false=>rfl
    |true =>
     have:=mono (a+(b-a)/2) j hj hj2 hp2
     rw [hp] at this
     cases this
theorem quf {left:Bool}{key:Ai}{arr:Array Ai}{base n hint:Nat}{P:Nat→Bool}{st:Af}{Q:Option Nat→Af→Prop}(O:yq M A E s G kz kd)(hk:kindOf st=kd)(hG:G key)
  (hA:∀i,i<n→∃x,arr[base+i]?=some x∧G x∧P i=zp kz left key x) (hh:hint<n) (mono:∀i j,i≤j→j<n→P j=true→P i=true)
  (h:∀k,k≤n→(∀i,i<k→P i=true)→(∀i,k≤i→i<n→P i=false)→Q (some k) st):wpS M A E s (Q0 left key arr base n hint) Q st:=by
 have hb:∀i (R:Option Bool→Af→Prop),i<n→R (some (P i)) st→wpS M A E s (do
   let x ←elem' arr (base+i)
   if left=true then lt' x key
   else do
    let r ←lt' key x
    pure (r.map λb=>!b)) R st:=by
  intro i R hi hR
  obtain ⟨x,e,g,hp⟩:=hA i hi
  refine aw (w8 e ?_)
  rw [hp] at hR
  unfold zp at hR
  cases left with
  |true =>
   rw [av rfl] at hR ⊢
   exact O _ _ _ _ g hG hk hR
  |false =>
   rw [ao aE] at hR ⊢
   exact aw (O _ _ _ _ hG g hk (ay hR))
 unfold Q0
 walk_at "tim gallop"
 dsimp only
 refine aw (hb hint _ hh ?_)
 dsimp only
 cases hp:P hint with
 |true =>
  rw [av rfl]
  refine aw (eC (bY (I:=λi (c:Option (Option Nat)×Nat×Nat) st'=>st'=st∧c.1=none∧i+1≤c.2.2∧c.2.1<c.2.2∧hint+c.2.1<n∧P (hint+c.2.1)=true)
   (Q:=λc st'=>st'=st∧c.1=none∧c.2.1<c.2.2∧hint+c.2.1<n∧P (hint+c.2.1)=true∧(n-hint≤c.2.2∨(hint+c.2.2<n∧P (hint+c.2.2)=false))) ?step ?fin ⟨rfl,rfl,aj 1,Nat.zero_lt_one,hh,hp⟩) ?post)
  case fin =>
   rintro ⟨r,a,b⟩ st' ⟨rfl,hr,x1,x2,x3,x4⟩
   dsimp only at hr x1 x2 x3 x4 ⊢
   exact ⟨rfl,hr,x2,x3,x4,.inl (by lia)⟩
  case step =>
   rintro i ⟨r,a,b⟩ st' _ hi ⟨rfl,hr,x1,x2,x3,x4⟩
   dsimp only at hr x1 x2 x3 x4 ⊢
   by_cases c:b≥n-hint
   ·rw [av c]
    exact ay ⟨rfl,rfl,x2,x3,x4,.inl c⟩
   ·rw [ao c]
    refine aw (hb _ _ (by lia) ?_)
    dsimp only
    cases hq:P (hint+b) with
    |true=>exact ay ⟨rfl,rfl,by dsimp only;lia,by dsimp only;lia,by dsimp only;lia,hq⟩
    |false=>exact ay ⟨rfl,rfl,x2,x3,x4,.inr ⟨by dsimp only;lia,hq⟩⟩
  case post =>
   rintro ⟨r,a,b⟩ st' ⟨rfl,hr,x2,x3,x4,x5⟩
   dsimp only at hr x2 x3 x4 x5 ⊢
   subst hr
   dsimp only
   refine aw (qjd (lo0:=hint+a+1) (hi0:=hint+min b (n-hint)) (λi a b R c hR=>?_) (λi a b R c hb2 r1 r2=>?_) (by lia) (by lia) (λi hi=>mono i (hint+a) (by lia) x3 x4) (λi hi1 hi2=>?_) mono λa k k1 k2 k3=>ay (h k k1 k2 k3))
   ·dsimp only
    rw [av c]
    exact ay hR
   ·dsimp only
    rw [ao c]
    refine aw (hb _ _ (by lia) ?_)
    dsimp only
    cases hp3:P (a+(b-a)/2) with
    |true=>exact ay (r1 hp3)
    |false=>exact ay (r2 hp3)
   ·rcases x5 with x5|⟨x5,x6⟩
    ·lia
    ·cases hp2:P i with
     |false=>rfl
     |true =>
      have:=mono (hint+b) i (by lia) hi2 hp2
      rw [x6] at this
      cases this
 |false =>
  rw [ao aE]
  refine aw (eC (bY (I:=λi (c:Option (Option Nat)×Nat×Nat) st'=>st'=st∧c.1=none∧i+1≤c.2.2∧c.2.1<c.2.2∧c.2.1≤hint∧P (hint-c.2.1)=false)
   (Q:=λc st'=>st'=st∧c.1=none∧c.2.1<c.2.2∧c.2.1≤hint∧P (hint-c.2.1)=false∧(hint+1≤c.2.2∨(c.2.2≤hint∧P (hint-c.2.2)=true))) ?step ?fin ⟨rfl,rfl,aj 1,Nat.zero_lt_one,aV _,hp⟩) ?post)
  case fin =>
   rintro ⟨r,a,b⟩ st' ⟨rfl,hr,x1,x2,x3,x4⟩
   dsimp only at hr x1 x2 x3 x4 ⊢
   exact ⟨rfl,hr,x2,x3,x4,.inl (by lia)⟩
  case step =>
   rintro i ⟨r,a,b⟩ st' _ hi ⟨rfl,hr,x1,x2,x3,x4⟩
   dsimp only at hr x1 x2 x3 x4 ⊢
   by_cases c:b≥hint+1
   ·rw [av c]
    exact ay ⟨rfl,rfl,x2,x3,x4,.inl c⟩
   ·rw [ao c]
    refine aw (hb _ _ (by lia) ?_)
    dsimp only
    cases hq:P (hint-b) with
    |true=>exact ay ⟨rfl,rfl,x2,x3,x4,.inr ⟨by dsimp only;lia,hq⟩⟩
    |false=>exact ay ⟨rfl,rfl,by dsimp only;lia,by dsimp only;lia,by dsimp only;lia,hq⟩
  case post =>
   rintro ⟨r,a,b⟩ st' ⟨rfl,hr,x2,x3,x4,x5⟩
   dsimp only at hr x2 x3 x4 x5 ⊢
   subst hr
   dsimp only
   refine aw (qjd (lo0:=hint+1-min b (hint+1)) (hi0:=hint-a) (λi a b R c hR=>?_) (λi a b R c hb2 r1 r2=>?_) (by lia) (by lia) (λi hi=>?_) (λi hi1 hi2=>?_) mono λa k k1 k2 k3=>ay (h k k1 k2 k3))
   ·dsimp only
    rw [av c]
    exact ay hR
   ·dsimp only
    rw [ao c]
    refine aw (hb _ _ (by lia) ?_)
    dsimp only
    cases hp3:P (a+(b-a)/2) with
    |true=>exact ay (r1 hp3)
    |false=>exact ay (r2 hp3)
   ·rcases x5 with x5|⟨x5,x6⟩
    ·lia
    ·exact mono i (hint-b) (by lia) (by lia) x6
   ·cases hp2:P i with
    |false=>rfl
    |true =>
     have:=mono (hint-a) i (by lia) hi2 hp2
     rw [x4] at this
     cases this
end
end Tm
namespace Tm
open PySem PyProof.Rows
def qxu:Nat→StateT Af Sem Unit:=sortPriv% PySem.Builtin.setMinGallop
local macro_rules | `(tactic| walk_at "tim lo")=>do
 let n:=Lean.mkIdent (Lean.mkPrivateNameCore `PySem.Builtin.List.W1All `PySem.Builtin.mergeLo)
 `(tactic| unfold $n:ident)
section
variable {kz:Ai→Int}
def SL (kz:Ai→Int)(l:List Ai):Prop:=l.Pairwise λx y=>kz x<kz y
structure LJ (kz:Ai→Int)(T O X Y:List Ai):Prop where
 x:SL kz (O++X)
 y:SL kz (O++Y)
 p:(O++(X++Y)).Perm T
variable {T O X Y X1 X2 Y1 Y2:List Ai}
theorem LJ.swap (h:LJ kz T O X Y):LJ kz T O Y X:=⟨h.y,h.x,(cT O dG).trans h.p⟩
theorem LJ.mvX (h:LJ kz T O (X1++X2) Y)(lt:∀u∈X1,∀v∈Y,kz u<kz v):LJ kz T (O++X1) X2 Y:=by
 obtain ⟨a,b,c⟩:=h
 have b':=bh.mp b
 refine ⟨by rw [aX];exact a,?_,by simpa [aX] using c⟩
 have a':SL kz (O++X1):=by
  rw [←aX] at a
  exact (bh.mp a).1
 refine bh.mpr ⟨a',b'.2.1,λu hu v hv=>?_⟩
 rcases aU.mp hu with hu|hu
 ·exact b'.2.2 u hu v hv
 ·exact lt u hu v hv
theorem LJ.mvY (h:LJ kz T O X (Y1++Y2))(lt:∀u∈Y1,∀v∈X,kz u<kz v):LJ kz T (O++Y1) X Y2:=(h.swap.mvX lt).swap
structure HJ (kz:Ai→Int)(T X Y O:List Ai):Prop where
 x:SL kz (X++O)
 y:SL kz (Y++O)
 p:(X++(Y++O)).Perm T
theorem HJ.swap (h:HJ kz T X Y O):HJ kz T Y X O:=⟨h.y,h.x,by
 refine List.Perm.trans ?_ h.p
 rw [←aX,←aX]
 exact cR O dG⟩
theorem HJ.mvX (h:HJ kz T (X1++X2) Y O)(lt:∀v∈Y,∀u∈X2,kz v<kz u):HJ kz T X1 Y (X2++O):=by
 obtain ⟨a,b,c⟩:=h
 have b':=bh.mp b
 refine ⟨by rw [←aX];exact a,?_,?_⟩
 ·have a':SL kz (X2++O):=by
   rw [aX] at a
   exact (bh.mp a).2.1
  refine bh.mpr ⟨b'.1,a',λv hv u hu=>?_⟩
  rcases aU.mp hu with hu|hu
  ·exact lt v hv u hu
  ·exact b'.2.2 v hv u hu
 ·refine List.Perm.trans ?_ c
  rw [aX]
  refine cT X1 ?_
  rw [←aX,←aX]
  exact cR O dG
theorem HJ.mvY (h:HJ kz T X (Y1++Y2) O)(lt:∀v∈X,∀u∈Y2,kz v<kz u):HJ kz T X Y1 (Y2++O):=(h.swap.mvX lt).swap
structure Mg (kz:Ai→Int)(G:Ai→Prop)(a b:Array Ai):Prop where
 sa:SL kz a.toList
 sb:SL kz b.toList
 ne:∀x∈a.toList,∀y∈b.toList,kz x≠kz y
 ga:∀x∈a.toList,G x
 gb:∀x∈b.toList,G x
def Yw (kz:Ai→Int)(a b r:Array Ai):Prop:=SL kz r.toList∧r.toList.Perm (a.toList++b.toList)
def SameSt (st st':Af):Prop:=kindOf st'=kindOf st∧arrOf st'=arrOf st∧pendingOf st'=pendingOf st∧failedOf st'=failedOf st
theorem SameSt.rfl' (st:Af):SameSt st st:=⟨rfl,rfl,rfl,rfl⟩
theorem SameSt.trans {a b c:Af}(h:SameSt a b)(k:SameSt b c):SameSt a c:=⟨k.1.trans h.1,k.2.1.trans h.2.1,k.2.2.1.trans h.2.2.1,k.2.2.2.trans h.2.2.2⟩
theorem SL.lt {l:List Ai}(h:SL kz l){i j:Nat}{x y:Ai}(hij:i<j)(hx:l[i]?=some x)(hy:l[j]?=some y):kz x<kz y:=by
 obtain ⟨hi,rfl⟩:=ak.mp hx
 obtain ⟨hj,rfl⟩:=ak.mp hy
 exact bb.mp h i j hi hj hij
theorem SL.le {l:List Ai}(h:SL kz l){i j:Nat}{x y:Ai}(hij:i≤j)(hx:l[i]?=some x)(hy:l[j]?=some y):kz x≤kz y:=by
 rcases bn i j with c|c
 ·exact fF (h.lt c hx hy)
 ·obtain rfl:i=j:=by lia
  rw [hx] at hy
  cases hy
  exact c0 _
theorem xc {a:Array Ai}{i:Nat}(h:i<a.size):∃x,a[i]?=some x∧a.toList[i]?=some x∧x∈a.toList:=⟨a[i],aY h,by simp [h],by simp⟩
theorem Yz {l:List Ai}{i:Nat}{x:Ai}(h:l[i]?=some x):l.drop i=[x]++l.drop (i+1):=by
 obtain ⟨hi,rfl⟩:=ak.mp h
 exact eU hi
theorem qqu (l:List Ai)(i k:Nat):l.drop i=(l.drop i).take k++l.drop (i+k):=by
 rw [←List.drop_drop]
 exact (cS k (l.drop i)).symm
theorem Qz {l:List Ai}{i:Nat}{x:Ai}(h:x∈l.drop i):∃j,i≤j∧l[j]?=some x:=by
 obtain ⟨j,hj⟩:=bL h
 exact ⟨i+j,by lia,by rw [←hj,cW]⟩
theorem Q1 {l:List Ai}{i k:Nat}{x:Ai}(h:x∈(l.drop i).take k):∃j,i≤j∧j<i+k∧l[j]?=some x:=by
 obtain ⟨j,hj⟩:=bL h
 rw [dE] at hj
 split at hj
 ·exact ⟨i+j,by lia,by lia,by rw [←hj,cW]⟩
 ·cases hj
theorem Qx {l:List Ai}{i:Nat}{x:Ai}(h:x∈l.take i):∃j,j<i∧l[j]?=some x:=by
 obtain ⟨j,hj⟩:=bL h
 rw [dE] at hj
 split at hj
 ·exact ⟨j,by lia,hj⟩
 ·cases hj
end
section
variable {M:Model}{A:Ae}{E:Ag→Ab→Prop}{s:Ab}{G:Ai→Prop}{kz:Ai→Int}{kd:SortKind}{a b:Array Ai}
theorem Zy {g:Nat}{st:Af}{Q:Unit→Af→Prop}(h:∀st',SameSt st st'→Q () st'):wpS M A E s (qxu g) Q st :=
 fu (h _ ⟨rfl,rfl,rfl,rfl⟩)
abbrev LJA (kz:Ai→Int)(a b out:Array Ai)(ia ib:Nat):Prop:=LJ kz (a.toList++b.toList) out.toList (a.toList.drop ia) (b.toList.drop ib)
theorem Jh (a:Array Ai)(i:Nat):(a.extract i a.size).toList=a.toList.drop i:=by
 rw [dL]
 simp only [List.extract]
 exact cQ (by simp)
theorem Q7 {out:Array Ai}{ia ib:Nat}(h:LJA kz a b out ia ib)(e:ib=b.size):Yw kz a b (out++a.extract ia a.size++b.extract ib b.size):=by
 subst e
 obtain ⟨x,y,p⟩:=h
 have e1:(out++a.extract ia a.size++b.extract b.size b.size).toList=out.toList++a.toList.drop ia:=by
  rw [bJ,bJ,Jh,Jh]
  simp
 have e2:b.toList.drop b.size=[]:=by simp
 rw [e2,bQ] at p
 exact ⟨by rw [e1];exact x,by rw [e1];exact p⟩
theorem uk {out:Array Ai}{ia ib:Nat}(h:LJA kz a b out ia ib)(e:ia+1=a.size)(hl:∀x,a[a.size-1]?=some x→∀y∈b.toList,kz y<kz x):Yw kz a b (out++b.extract ib b.size++a.extract ia a.size):=by
 obtain ⟨x,y,p⟩:=h
 have e1:(out++b.extract ib b.size++a.extract ia a.size).toList=(out.toList++b.toList.drop ib)++a.toList.drop ia:=by
  rw [bJ,bJ,Jh,Jh]
 obtain ⟨z,z1,z2,z3⟩:=xc (a:=a) (i:=ia) (by lia)
 have hz:=hl z (by rw [←z1];congr 1;lia)
 have e2:a.toList.drop ia=[z]:=by
  rw [Yz z2,List.drop_eq_nil_of_le (by rw [aS];lia)]
  rfl
 rw [e2] at x p
 refine ⟨?_,?_⟩
 ·rw [e1,e2]
  refine bh.mpr ⟨y,dW _ _,λu hu v hv=>?_⟩
  rcases aU.mp hu with hu|hu
  ·exact (bh.mp x).2.2 u hu v hv
  ·obtain rfl:=aJ.mp hv
   exact hz u (cJ hu)
 ·rw [e1,e2,aX]
  exact (cT _ dG).trans p
theorem Zh {out:Array Ai}{ia ib:Nat}{x y:Ai}(m:Mg kz G a b)(h:LJA kz a b out ia ib)(hx:a.toList[ia]?=some x)(hy:b.toList[ib]?=some y)(c:kz y<kz x):LJA kz a b (out.push y) ia (ib+1):=by
 have h':LJ kz (a.toList++b.toList) out.toList (a.toList.drop ia) ([y]++b.toList.drop (ib+1)):=by rw [←Yz hy];exact h
 have:=h'.mvY λu hu v hv=>by
  obtain rfl:=aJ.mp hu
  obtain ⟨j,hj,ej⟩:=Qz hv
  have:=m.sa.le hj hx ej
  lia
 show LJ kz _ (out.push y).toList _ _
 rw [di]
 exact this
theorem Qc {out:Array Ai}{ia ib:Nat}{x y:Ai}(m:Mg kz G a b)(h:LJA kz a b out ia ib)(hx:a.toList[ia]?=some x)(hy:b.toList[ib]?=some y)(c:¬ kz y<kz x):LJA kz a b (out.push x) (ia+1) ib:=by
 have h':LJ kz (a.toList++b.toList) out.toList ([x]++a.toList.drop (ia+1)) (b.toList.drop ib):=by rw [←Yz hx];exact h
 have ne:=m.ne x (aC hx) y (aC hy)
 have:=h'.mvX λu hu v hv=>by
  obtain rfl:=aJ.mp hu
  obtain ⟨j,hj,ej⟩:=Qz hv
  have:=m.sb.le hj hy ej
  lia
 show LJ kz _ (out.push x).toList _ _
 rw [di]
 exact this
theorem wkn {out:Array Ai}{ia ib k:Nat}{y:Ai}(m:Mg kz G a b)(h:LJA kz a b out ia ib)(hy:b.toList[ib]?=some y)(c:∀i x,i<k→a.toList[ia+i]?=some x→kz x≤kz y):LJA kz a b (out++a.extract ia (ia+k)) (ia+k) ib:=by
 have h':LJ kz (a.toList++b.toList) out.toList ((a.toList.drop ia).take k++a.toList.drop (ia+k)) (b.toList.drop ib):=by rw [←qqu];exact h
 have:=h'.mvX λu hu v hv=>by
  obtain ⟨i,hi1,hi2,ei⟩:=Q1 hu
  obtain ⟨j,hj,ej⟩:=Qz hv
  have h1:=m.sb.le hj hy ej
  have h2:=c (i-ia) u (by lia) (by rw [←ei];congr 1;lia)
  have ne:=m.ne u (aC ei) y (aC hy)
  lia
 have e:(out++a.extract ia (ia+k)).toList=out.toList++(a.toList.drop ia).take k:=by simp
 show LJ kz _ (out++a.extract ia (ia+k)).toList _ _
 rw [e]
 exact this
theorem qj9 {out:Array Ai}{ia ib k:Nat}{x:Ai}(m:Mg kz G a b)(h:LJA kz a b out ia ib)(hx:a.toList[ia]?=some x)(c:∀i y,i<k→b.toList[ib+i]?=some y→kz y<kz x):LJA kz a b (out++b.extract ib (ib+k)) ia (ib+k):=by
 have h':LJ kz (a.toList++b.toList) out.toList (a.toList.drop ia) ((b.toList.drop ib).take k++b.toList.drop (ib+k)):=by rw [←qqu];exact h
 have:=h'.mvY λu hu v hv=>by
  obtain ⟨i,hi1,hi2,ei⟩:=Q1 hu
  obtain ⟨j,hj,ej⟩:=Qz hv
  have h1:=m.sa.le hj hx ej
  have h2:=c (i-ib) u (by lia) (by rw [←ei];congr 1;lia)
  lia
 have e:(out++b.extract ib (ib+k)).toList=out.toList++(b.toList.drop ib).take k:=by simp
 show LJ kz _ (out++b.extract ib (ib+k)).toList _ _
 rw [e]
 exact this
theorem wxb {left:Bool}{key:Ai}{arr:Array Ai}{base n hint:Nat}{st:Af}{Q:Option Nat→Af→Prop}(O:yq M A E s G kz kd)(hk:kindOf st=kd)(hG:G key)
  (sl:∀i j x y,base≤i→i<j→j<base+n→arr[i]?=some x→arr[j]?=some y→kz x<kz y) (hg:∀i,base≤i→i<base+n→∃x,arr[i]?=some x∧G x) (hh:hint<n)
  (h:∀k,k≤n→(∀i x,i<k→arr[base+i]?=some x→zp kz left key x=true)→(∀i x,k≤i→i<n→arr[base+i]?=some x→zp kz left key x=false)→Q (some k) st) :
  wpS M A E s (Q0 left key arr base n hint) Q st:=by
 refine quf (P:=λi=>match arr[base+i]? with|some x=>zp kz left key x|none=>false) O hk hG (λi hi=>?_) hh (λi j hij hj hp=>?_) λk h1 h2 h3=>h k h1 (λi x hi ex=>?_) λi x hi hi2 ex=>?_
 ·obtain ⟨x,ex,gx⟩:=hg (base+i) (by lia) (by lia)
  exact ⟨x,ex,gx,by simp only [ex]⟩
 ·obtain ⟨y,ey,_⟩:=hg (base+j) (by lia) (by lia)
  obtain ⟨x,ex,_⟩:=hg (base+i) (by lia) (by lia)
  simp only [ey] at hp
  simp only [ex]
  rcases bn i j with c|c
  ·have:=sl (base+i) (base+j) x y (by lia) (by lia) (by lia) ex ey
   unfold zp at hp ⊢
   cases left with
   |true =>
    rw [av rfl] at hp ⊢
    have:=cg hp
    exact aT (by lia)
   |false =>
    rw [ao aE] at hp ⊢
    rw [gZ,fA] at hp ⊢
    lia
  ·obtain rfl:i=j:=by lia
   rw [ex] at ey
   cases ey
   exact hp
 ·have:=h2 i hi
  simp only [ex] at this
  exact this
 ·have:=h3 i hi hi2
  simp only [ex] at this
  exact this
end
end Tm
namespace Tm
open PySem PyProof.Rows
local macro_rules | `(tactic| walk_at "tim lo")=>do
 let n:=Lean.mkIdent (Lean.mkPrivateNameCore `PySem.Builtin.List.W1All `PySem.Builtin.mergeLo)
 `(tactic| unfold $n:ident)
section
variable {M:Model}{A:Ae}{E:Ag→Ab→Prop}{s:Ab}{G:Ai→Prop}{kz:Ai→Int}{kd:SortKind}{a b:Array Ai}
theorem qy0 {α:Type}{c:Nat→Prop}{i:∀z,Decidable (c z)}{u v:Nat→StateT Af Sem α}{Q:α→Af→Prop}{st:Af}(hu:∀z,u z=v (z-1))(h:∀z,wpS M A E s (v z) Q st):∀z,wpS M A E s (@ite _ (c z) (i z) (u z) (v z)) Q st:=λz=>by
 rw [hu z]
 split
 ·exact h _
 ·exact h z
theorem xq {α:Type}{c:Prop}[i:Decidable c]{t e:StateT Af Sem α}{Q:α→Af→Prop}{st:Af}(h1:c→wpS M A E s t Q st)(h2:¬ c→wpS M A E s e Q st):wpS M A E s (ite c t e) Q st:=by
 by_cases d:c
 ·rw [av d];exact h1 d
 ·rw [ao d];exact h2 d
theorem qv7 {α:Type}{c:Prop}[i:Decidable c]{t e:StateT Af Sem α}{Q:α→Af→Prop}{st:Af}(d:¬ c)(h:wpS M A E s e Q st):wpS M A E s (ite c t e) Q st:=by rw [ao d];exact h
theorem Js {left:Bool}{key:Ai}{arr:Array Ai}{base n hint:Nat}{st:Af}{Q:Option Nat→Af→Prop}(O:yq M A E s G kz kd)(hk:kindOf st=kd)(hG:G key)
  (sl:SL kz arr.toList) (hg:∀x∈arr.toList,G x) (hn:base+n≤arr.size) (hh:hint<n)
  (h:∀k,k≤n→(∀i x,i<k→arr.toList[base+i]?=some x→zp kz left key x=true)→(∀i x,k≤i→i<n→arr.toList[base+i]?=some x→zp kz left key x=false)→Q (some k) st) :
  wpS M A E s (Q0 left key arr base n hint) Q st:=by
 refine wxb O hk hG (λi j x y _ hij _ ex ey=>sl.lt hij (by rw [aD];exact ex) (by rw [aD];exact ey)) (λi _ hi=>?_) hh λk k1 k2 k3=>h k k1 (λi x hi ex=>k2 i x hi (by rw [←aD];exact ex)) λi x hi hi2 ex=>k3 i x hi hi2 (by rw [←aD];exact ex)
 obtain ⟨x,e1,e2,e3⟩:=xc (a:=arr) (i:=i) (by lia)
 exact ⟨x,e1,hg x e3⟩
theorem ah_f {key x:Ai}(h:zp kz false key x=true):kz x≤kz key:=by
 unfold zp at h
 rw [ao aE,gZ,fA] at h
 lia
theorem ah_t {key x:Ai}(h:zp kz true key x=true):kz x<kz key:=by
 unfold zp at h
 rw [av rfl] at h
 exact cg h
theorem wj2 {key x:Ai}(h:zp kz false key x=false):kz key<kz x:=by
 unfold zp at h
 rw [ao aE] at h
 simpa using h
theorem Wz {key x:Ai}(h:zp kz true key x=false):kz key≤kz x:=by
 unfold zp at h
 rw [av rfl,fA] at h
 lia
theorem qjk {st:Af}{Q:Array Ai→Af→Prop}(O:yq M A E s G kz kd)(hk:kindOf st=kd)(m:Mg kz G a b)(ha:1≤a.size)(hb:1≤b.size)
  (h0:∀x y,a[0]?=some x→b[0]?=some y→kz y<kz x) (hl:∀x,a[a.size-1]?=some x→∀y∈b.toList,kz y<kz x) (h:∀r st',SameSt st st'→Yw kz a b r→Q r st'):wpS M A E s (qjy a b) Q st:=by
 unfold qjy
 walk_at "tim lo"
 dsimp only
 refine aw (gI (dt ⟨rfl,?_⟩))
 obtain ⟨y0,f1,f2,f3⟩:=xc (a:=b) (i:=0) (by lia)
 obtain ⟨x0,e1,e2,e3⟩:=xc (a:=a) (i:=0) (by lia)
 refine aw (w8 f1 ?_)
 have J0:LJA kz a b #[y0] 0 1:=by
  have:=Zh (out:=#[]) m ⟨by simpa using m.sa,by simpa using m.sb,by simp⟩ e2 f2 (h0 _ _ e1 f1)
  exact this
 refine xq (λc1=>?_) λc1=>?_
 ·exact ay (h _ _ (SameSt.rfl' _) (Q7 J0 (by simpa using c1)))
 refine xq (λc2=>?_) λc2=>?_
 ·exact ay (h _ _ (SameSt.rfl' _) (uk J0 (by simpa using c2) hl))
 have c1':1<b.size:=by
  have:¬ 0+1=b.size:=by simpa using c1
  lia
 have c2':0+1<a.size:=by
  have:¬ 0+1=a.size:=by simpa using c2
  lia
 refine aw (fP ?_)
 refine aw (eC (bY (I:=λt (c:Option (Array Ai)×Array Ai×Nat×Nat×Nat) st'=>SameSt st st'∧c.1=none∧LJA kz a b c.2.1 c.2.2.1 c.2.2.2.1∧c.2.2.1+1<a.size∧c.2.2.2.1<b.size∧t+1≤c.2.2.1+c.2.2.2.1)
  (Q:=λc st'=>SameSt st st'∧∃r,c.1=some r∧Yw kz a b r) ?step ?fin ⟨SameSt.rfl' _,rfl,J0,c2',c1',aj 1⟩) ?post)
 case post =>
  rintro ⟨r,c⟩ st' ⟨S,r',hr,F⟩
  dsimp only at hr ⊢
  subst hr
  exact ay (h _ _ S F)
 case fin =>
  rintro ⟨r,out,ia,ib,mg⟩ st' ⟨S,_,_,x1,x2,x3⟩
  dsimp only at x1 x2 x3
  lia
 case step =>
  rintro t ⟨r,out,ia,ib,mg⟩ st1 _ ht ⟨S1,hr,J,x1,x2,x3⟩
  dsimp only at hr J x1 x2 x3 ⊢
  subst hr
  refine aw (eC (bY (I:=λx (c:Option (Array Ai)×Array Ai×Nat×Nat×Nat×Nat) st'=>SameSt st st'∧c.1=none∧LJA kz a b c.2.1 c.2.2.1 c.2.2.2.1∧c.2.2.1+1<a.size∧c.2.2.2.1<b.size∧t+1+x≤c.2.2.1+c.2.2.2.1)
   (Q:=λc st'=>SameSt st st'∧((c.1=none∧LJA kz a b c.2.1 c.2.2.1 c.2.2.2.1∧c.2.2.1+1<a.size∧c.2.2.2.1<b.size∧t+2≤c.2.2.1+c.2.2.2.1)∨∃r,c.1=some r∧Yw kz a b r)) ?sstep ?sfin ⟨S1,rfl,J,x1,x2,x3⟩) ?spost)
  case sfin =>
   rintro ⟨r,out,ia,ib,ac,bc⟩ st' ⟨S,hr,J,x1,x2,x3⟩
   dsimp only at hr J x1 x2 x3
   exact ⟨S,.inl ⟨hr,J,x1,x2,by dsimp only;lia⟩⟩
  case sstep =>
   rintro x ⟨r,out,ia,ib,ac,bc⟩ st2 _ hx ⟨S2,hr,J,x1,x2,x3⟩
   dsimp only at hr J x1 x2 x3 ⊢
   subst hr
   obtain ⟨u,u1,u2,u3⟩:=xc (a:=b) x2
   obtain ⟨v,v1,v2,v3⟩:=xc (a:=a) (i:=ia) (by lia)
   refine aw (w8 u1 (aw (w8 v1 ?_)))
   refine aw (O u v _ _ (m.gb u u3) (m.ga v v3) (S2.1.trans hk) ?_)
   dsimp only
   refine xq (λc=>?_) λc=>?_
   ·have c:=cg c
    refine aw (w8 u1 ?_)
    have J':=Zh m J v2 u2 c
    refine xq (λd=>?_) λd=>?_
    ·exact ay ⟨S2,.inr ⟨_,rfl,Q7 J' (by simpa using d)⟩⟩
    have d':ib+1<b.size:=by
     have:¬ ib+1=b.size:=by simpa using d
     lia
    refine xq (λ_=>?_) λ_=>?_
    ·exact ay ⟨S2,.inl ⟨rfl,J',x1,d',by dsimp only;lia⟩⟩
    ·exact ay ⟨S2,rfl,J',x1,d',by dsimp only;lia⟩
   ·have c:¬ (kz u<kz v):=by simpa using c
    refine aw (w8 v1 ?_)
    have J':=Qc m J v2 u2 c
    refine xq (λd=>?_) λd=>?_
    ·exact ay ⟨S2,.inr ⟨_,rfl,uk J' (by simpa using d) hl⟩⟩
    have d':ia+1+1<a.size:=by
     have:¬ ia+1+1=a.size:=by simpa using d
     lia
    refine xq (λ_=>?_) λ_=>?_
    ·exact ay ⟨S2,.inl ⟨rfl,J',d',x2,by dsimp only;lia⟩⟩
    ·exact ay ⟨S2,rfl,J',d',x2,by dsimp only;lia⟩
  case spost =>
   rintro ⟨r,out,ia,ib,ac,bc⟩ st2 ⟨S2,hc|⟨r',hr,F⟩⟩
   case inr =>
    dsimp only at hr ⊢
    subst hr
    exact ay ⟨S2,r',rfl,F⟩
   obtain ⟨hr,J,x1,x2,x3⟩:=hc
   dsimp only at hr J x1 x2 x3 ⊢
   subst hr
   dsimp only
   refine aw (gI (dt ⟨rfl,?_⟩))
   refine aw (eC (bY (I:=λx (c:Option (Array Ai)×Array Ai×Nat×Nat×Nat×Nat×Nat) st'=>SameSt st st'∧c.1=none∧LJA kz a b c.2.1 c.2.2.1 c.2.2.2.1∧c.2.2.1+1<a.size∧c.2.2.2.1<b.size∧t+2≤c.2.2.1+c.2.2.2.1)
    (Q:=λc st'=>SameSt st st'∧((c.1=none∧LJA kz a b c.2.1 c.2.2.1 c.2.2.2.1∧c.2.2.1+1<a.size∧c.2.2.2.1<b.size∧t+2≤c.2.2.1+c.2.2.2.1)∨∃r,c.1=some r∧Yw kz a b r)) ?gstep ?gfin ⟨S2,rfl,J,x1,x2,x3⟩) ?gpost)
   case gfin =>
    rintro ⟨r,out,ia,ib,mg,ac,bc⟩ st' ⟨S,hr,J,x1,x2,x3⟩
    exact ⟨S,.inl ⟨hr,J,x1,x2,x3⟩⟩
   case gpost =>
    rintro ⟨r,out,ia,ib,mg,ac,bc⟩ st3 ⟨S3,hc|⟨r',hr,F⟩⟩
    ·obtain ⟨hr,J,x1,x2,x3⟩:=hc
     dsimp only at hr J x1 x2 x3 ⊢
     subst hr
     dsimp only
     refine aw (Zy λst4 S4=>?_)
     exact ay ⟨S3.trans S4,rfl,J,x1,x2,by dsimp only;lia⟩
    ·dsimp only at hr ⊢
     subst hr
     exact ay ⟨S3,r',rfl,F⟩
   case gstep =>
    rintro x ⟨r,out,ia,ib,mg,ac,bc⟩ st3 _ hx ⟨S3,hr,J,x1,x2,x3⟩
    dsimp only at hr J x1 x2 x3 ⊢
    subst hr
    obtain ⟨u,u1,u2,u3⟩:=xc (a:=b) x2
    revert mg
    refine qy0 (λ_=>rfl) λmg=>?_
    all_goals
     refine aw (Zy λst4 S4=>?_)
     have S5:=S3.trans S4
     refine aw (w8 u1 ?_)
     refine aw (Js O (S5.1.trans hk) (m.gb u u3) m.sa m.ga (by lia) (by lia) λk k1 k2 k3=>?_)
     have kl:k<a.size-ia:=by
      rcases bn k (a.size-ia) with z|z
      ·exact z
      ·exfalso
       obtain ⟨v,v1,v2,v3⟩:=xc (a:=a) (i:=a.size-1) (by lia)
       have:=ah_f (k2 (a.size-1-ia) v (by lia) (by rw [←v2];congr 1;lia))
       have:=hl v v1 u u3
       lia
     have J':=wkn (k:=k) m J u2 λi x hi ex=>ah_f (k2 i x hi ex)
     have nxt:∀x,a.toList[ia+k]?=some x→kz u<kz x:=λx ex=>wj2 (k3 k x (aj _) kl ex)
     try dsimp only
     refine xq (λc=>?_) λc=>?_
     ·refine xq (λd=>?_) λd=>?_
      ·exact ay ⟨S5,.inr ⟨_,rfl,uk J' (by simpa using d) hl⟩⟩
      have d':ia+k+1<a.size:=by
       have:¬ ia+k+1=a.size:=by simpa using d
       lia
      refine qv7 (by simp;lia) ?_
      have x3':t+2≤ia+k+ib:=by lia
      generalize out++a.extract ia (ia+k)=out at J' ⊢
      generalize ia+k=ia at J' d' x3' nxt ⊢
      obtain ⟨v,v1,v2,v3⟩:=xc (a:=a) (i:=ia) (by lia)
      have J2:=Zh m J' v2 u2 (nxt v v2)
      refine aw (w8 u1 ?_)
      try dsimp only
      refine xq (λd2=>?_) λd2=>?_
      ·exact ay ⟨S5,.inr ⟨_,rfl,Q7 J2 (by simpa using d2)⟩⟩
      have d2':ib+1<b.size:=by
       have:¬ ib+1=b.size:=by simpa using d2
       lia
      refine aw (w8 v1 ?_)
      refine aw (Js O (S5.1.trans hk) (m.ga v v3) m.sb m.gb (by lia) (by lia) λk k1 k2 k3=>?_)
      have J3:=qj9 (k:=k) m J2 v2 λi x hi ex=>ah_t (k2 i x hi ex)
      try dsimp only
      refine xq (λc=>?_) λc=>?_
      ·refine xq (λd=>?_) λd=>?_
       ·exact ay ⟨S5,.inr ⟨_,rfl,Q7 J3 (by simpa using d)⟩⟩
       have d3:ib+1+k<b.size:=by
        have:¬ ib+1+k=b.size:=by simpa using d
        lia
       obtain ⟨u',w1,w2,w3⟩:=xc (a:=b) d3
       have J4:=Qc m J3 v2 w2 (by have:=Wz (k3 k u' (aj _) (by lia) w2);lia)
       refine aw (w8 v1 ?_)
       try dsimp only
       refine xq (λd=>?_) λd=>?_
       ·exact ay ⟨S5,.inr ⟨_,rfl,uk J4 (by simpa using d) hl⟩⟩
       have d4:ia+1+1<a.size:=by
        have:¬ ia+1+1=a.size:=by simpa using d
        lia
       refine xq (λ_=>?_) λ_=>?_
       ·exact ay ⟨S5,.inl ⟨rfl,J4,d4,d3,by dsimp only;lia⟩⟩
       ·exact ay ⟨S5,rfl,J4,d4,d3,by dsimp only;lia⟩
      ·obtain rfl:k=0:=by lia
       obtain ⟨u',w1,w2,w3⟩:=xc (a:=b) d2'
       have J4:=Qc m J2 v2 w2 (by have:=Wz (k3 0 u' (aj _) (by lia) w2);lia)
       refine aw (w8 v1 ?_)
       try dsimp only
       refine xq (λd=>?_) λd=>?_
       ·exact ay ⟨S5,.inr ⟨_,rfl,uk J4 (by simpa using d) hl⟩⟩
       have d4:ia+1+1<a.size:=by
        have:¬ ia+1+1=a.size:=by simpa using d
        lia
       refine xq (λ_=>?_) λ_=>?_
       ·exact ay ⟨S5,.inl ⟨rfl,J4,d4,d2',by dsimp only;lia⟩⟩
       ·exact ay ⟨S5,rfl,J4,d4,d2',by dsimp only;lia⟩
     ·obtain rfl:k=0:=by lia
      obtain ⟨v,v1,v2,v3⟩:=xc (a:=a) (i:=ia) (by lia)
      have J2:=Zh m J v2 u2 (nxt v v2)
      refine aw (w8 u1 ?_)
      try dsimp only
      refine xq (λd2=>?_) λd2=>?_
      ·exact ay ⟨S5,.inr ⟨_,rfl,Q7 J2 (by simpa using d2)⟩⟩
      have d2':ib+1<b.size:=by
       have:¬ ib+1=b.size:=by simpa using d2
       lia
      refine aw (w8 v1 ?_)
      refine aw (Js O (S5.1.trans hk) (m.ga v v3) m.sb m.gb (by lia) (by lia) λk k1 k2 k3=>?_)
      have J3:=qj9 (k:=k) m J2 v2 λi x hi ex=>ah_t (k2 i x hi ex)
      try dsimp only
      refine xq (λc=>?_) λc=>?_
      ·refine xq (λd=>?_) λd=>?_
       ·exact ay ⟨S5,.inr ⟨_,rfl,Q7 J3 (by simpa using d)⟩⟩
       have d3:ib+1+k<b.size:=by
        have:¬ ib+1+k=b.size:=by simpa using d
        lia
       obtain ⟨u',w1,w2,w3⟩:=xc (a:=b) d3
       have J4:=Qc m J3 v2 w2 (by have:=Wz (k3 k u' (aj _) (by lia) w2);lia)
       refine aw (w8 v1 ?_)
       try dsimp only
       refine xq (λd=>?_) λd=>?_
       ·exact ay ⟨S5,.inr ⟨_,rfl,uk J4 (by simpa using d) hl⟩⟩
       have d4:ia+1+1<a.size:=by
        have:¬ ia+1+1=a.size:=by simpa using d
        lia
       refine xq (λ_=>?_) λ_=>?_
       ·exact ay ⟨S5,.inl ⟨rfl,J4,d4,d3,by dsimp only;lia⟩⟩
       ·exact ay ⟨S5,rfl,J4,d4,d3,by dsimp only;lia⟩
      ·obtain rfl:k=0:=by lia
       obtain ⟨u',w1,w2,w3⟩:=xc (a:=b) d2'
       have J4:=Qc m J2 v2 w2 (by have:=Wz (k3 0 u' (aj _) (by lia) w2);lia)
       refine aw (w8 v1 ?_)
       try dsimp only
       refine xq (λd=>?_) λd=>?_
       ·exact ay ⟨S5,.inr ⟨_,rfl,uk J4 (by simpa using d) hl⟩⟩
       have d4:ia+1+1<a.size:=by
        have:¬ ia+1+1=a.size:=by simpa using d
        lia
       refine xq (λ_=>?_) λ_=>?_
       ·exact ay ⟨S5,.inl ⟨rfl,J4,d4,d2',by dsimp only;lia⟩⟩
       ·exact ay ⟨S5,rfl,J4,d4,d2',by dsimp only;lia⟩
end
end Tm
namespace Tm
open PySem PyProof.Rows
local macro_rules | `(tactic| walk_at "tim hi")=>do
 let n:=Lean.mkIdent (Lean.mkPrivateNameCore `PySem.Builtin.List.W1All `PySem.Builtin.mergeHi)
 `(tactic| unfold $n:ident)
section
variable {M:Model}{A:Ae}{E:Ag→Ab→Prop}{s:Ab}{G:Ai→Prop}{kz:Ai→Int}{kd:SortKind}{a b:Array Ai}
abbrev HJA (kz:Ai→Int)(a b:Array Ai)(na nb:Nat)(out:Array Ai):Prop:=HJ kz (a.toList++b.toList) (a.toList.take na) (b.toList.take nb) out.toList.reverse
theorem qkd (a:Array Ai)(i:Nat):(a.extract 0 i).toList=a.toList.take i:=by
 rw [dL]
 simp [List.extract]
theorem qk2 (a:Array Ai)(i j:Nat):(a.extract i j).toList=(a.toList.drop i).take (j-i):=by
 rw [dL]
theorem qwq (l:List Ai){i j:Nat}(h:i≤j):l.take j=l.take i++(l.drop i).take (j-i):=by
 rw [←List.take_add]
 congr 1
 lia
theorem Yv {l:List Ai}{i:Nat}{x:Ai}(h:l[i]?=some x):l.take (i+1)=l.take i++[x]:=by
 obtain ⟨hi,rfl⟩:=ak.mp h
 simp
theorem Z0 {out:Array Ai}{nb:Nat}(h:HJA kz a b 0 nb out):Yw kz a b (a.extract 0 0++b.extract 0 nb++out.reverse):=by
 obtain ⟨x,y,p⟩:=h
 have e1:(a.extract 0 0++b.extract 0 nb++out.reverse).toList=b.toList.take nb++out.toList.reverse:=by
  rw [bJ,bJ,qkd,qkd]
  simp
 exact ⟨by rw [e1];exact y,by rw [e1];simpa using p⟩
theorem yd {out:Array Ai}{na:Nat}(hb:1≤b.size)(h:HJA kz a b na 1 out)(hl:∀y,b[0]?=some y→∀x∈a.toList,kz y<kz x):Yw kz a b (b.extract 0 1++a.extract 0 na++out.reverse):=by
 obtain ⟨x,y,p⟩:=h
 obtain ⟨z,z1,z2,z3⟩:=xc (a:=b) (i:=0) (by lia)
 have e1:(b.extract 0 1++a.extract 0 na++out.reverse).toList=b.toList.take 1++(a.toList.take na++out.toList.reverse):=by
  rw [bJ,bJ,qkd,qkd]
  simp
 have e2:b.toList.take 1=[z]:=by
  rw [Yv z2]
  simp
 rw [e2] at y p
 refine ⟨?_,?_⟩
 ·rw [e1,e2]
  refine bh.mpr ⟨dW _ _,x,λu hu v hv=>?_⟩
  rcases aU.mp hv with hv'|hv'
  ·obtain rfl:=aJ.mp hu
   exact hl u z1 v (da hv')
  ·exact (bh.mp y).2.2 u hu v hv'
 ·rw [e1,e2]
  refine List.Perm.trans ?_ p
  rw [←aX,←aX]
  exact cR _ dG
theorem W9 {out:Array Ai}{na nb:Nat}{x y:Ai}(m:Mg kz G a b)(h:HJA kz a b (na+1) (nb+1) out)(hx:a.toList[na]?=some x)(hy:b.toList[nb]?=some y)(c:kz y<kz x):HJA kz a b na (nb+1) (out.push x):=by
 have h':HJ kz (a.toList++b.toList) (a.toList.take na++[x]) (b.toList.take (nb+1)) out.toList.reverse:=by rw [←Yv hx];exact h
 have:=h'.mvX λv hv u hu=>by
  obtain rfl:=aJ.mp hu
  obtain ⟨j,hj,ej⟩:=Qx hv
  have:=m.sb.le (show j≤nb by lia) ej hy
  lia
 show HJ kz _ _ _ (out.push x).toList.reverse
 rw [di,eX]
 exact this
theorem qw2 {out:Array Ai}{na nb:Nat}{x y:Ai}(m:Mg kz G a b)(h:HJA kz a b (na+1) (nb+1) out)(hx:a.toList[na]?=some x)(hy:b.toList[nb]?=some y)(c:¬ kz y<kz x):HJA kz a b (na+1) nb (out.push y):=by
 have h':HJ kz (a.toList++b.toList) (a.toList.take (na+1)) (b.toList.take nb++[y]) out.toList.reverse:=by rw [←Yv hy];exact h
 have ne:=m.ne x (aC hx) y (aC hy)
 have:=h'.mvY λv hv u hu=>by
  obtain rfl:=aJ.mp hu
  obtain ⟨j,hj,ej⟩:=Qx hv
  have:=m.sa.le (show j≤na by lia) ej hx
  lia
 show HJ kz _ _ _ (out.push y).toList.reverse
 rw [di,eX]
 exact this
theorem wjv {out:Array Ai}{na nb p:Nat}{y:Ai}(m:Mg kz G a b)(h:HJA kz a b na (nb+1) out)(hp:p≤na)(hy:b.toList[nb]?=some y)(c:∀i x,p≤i→i<na→a.toList[i]?=some x→kz y<kz x):HJA kz a b p (nb+1) (out++(a.extract p na).reverse):=by
 have h':HJ kz (a.toList++b.toList) (a.toList.take p++(a.toList.drop p).take (na-p)) (b.toList.take (nb+1)) out.toList.reverse:=by rw [←qwq _ hp];exact h
 have:=h'.mvX λv hv u hu=>by
  obtain ⟨i,hi1,hi2,ei⟩:=Q1 hu
  obtain ⟨j,hj,ej⟩:=Qx hv
  have h1:=m.sb.le (show j≤nb by lia) ej hy
  have h2:=c i u hi1 (by lia) ei
  lia
 have e:(out++(a.extract p na).reverse).toList.reverse=(a.toList.drop p).take (na-p)++out.toList.reverse:=by
  rw [bJ,Array.toList_reverse,qk2,eX,List.reverse_reverse]
 show HJ kz _ _ _ (out++(a.extract p na).reverse).toList.reverse
 rw [e]
 exact this
theorem qyw {out:Array Ai}{na nb p:Nat}{x:Ai}(m:Mg kz G a b)(h:HJA kz a b (na+1) nb out)(hp:p≤nb)(hx:a.toList[na]?=some x)(c:∀i y,p≤i→i<nb→b.toList[i]?=some y→kz x≤kz y):HJA kz a b (na+1) p (out++(b.extract p nb).reverse):=by
 have h':HJ kz (a.toList++b.toList) (a.toList.take (na+1)) (b.toList.take p++(b.toList.drop p).take (nb-p)) out.toList.reverse:=by rw [←qwq _ hp];exact h
 have:=h'.mvY λv hv u hu=>by
  obtain ⟨i,hi1,hi2,ei⟩:=Q1 hu
  obtain ⟨j,hj,ej⟩:=Qx hv
  have h1:=m.sa.le (show j≤na by lia) ej hx
  have h2:=c i u hi1 (by lia) ei
  have ne:=m.ne x (aC hx) u (aC ei)
  lia
 have e:(out++(b.extract p nb).reverse).toList.reverse=(b.toList.drop p).take (nb-p)++out.toList.reverse:=by
  rw [bJ,Array.toList_reverse,qk2,eX,List.reverse_reverse]
 show HJ kz _ _ _ (out++(b.extract p nb).reverse).toList.reverse
 rw [e]
 exact this
theorem wqv {left:Bool}{key:Ai}{arr:Array Ai}{n hint:Nat}{st:Af}{Q:Option Nat→Af→Prop}(O:yq M A E s G kz kd)(hk:kindOf st=kd)(hG:G key)
  (sl:SL kz arr.toList) (hg:∀x∈arr.toList,G x) (hn:n≤arr.size) (hh:hint<n)
  (h:∀k,k≤n→(∀i x,i<k→arr.toList[i]?=some x→zp kz left key x=true)→(∀i x,k≤i→i<n→arr.toList[i]?=some x→zp kz left key x=false)→Q (some k) st) :
  wpS M A E s (Q0 left key arr 0 n hint) Q st :=
 Js O hk hG sl hg (by lia) hh λk k1 k2 k3=>h k k1 (λi x hi ex=>k2 i x hi (by rw [cE];exact ex)) λi x hi hi2 ex=>k3 i x hi hi2 (by rw [cE];exact ex)
theorem qk6 {st:Af}{Q:Array Ai→Af→Prop}(O:yq M A E s G kz kd)(hk:kindOf st=kd)(m:Mg kz G a b)(ha:1≤a.size)(hb:1≤b.size)
  (h0:∀y,b[0]?=some y→∀x∈a.toList,kz y<kz x) (hl:∀x,a[a.size-1]?=some x→∀y∈b.toList,kz y<kz x) (h:∀r st',SameSt st st'→Yw kz a b r→Q r st'):wpS M A E s (qjq a b) Q st:=by
 unfold qjq
 walk_at "tim hi"
 dsimp only
 refine aw (gI (dt ⟨rfl,?_⟩))
 obtain ⟨y0,f1,f2,f3⟩:=xc (a:=b) (i:=b.size-1) (by lia)
 obtain ⟨x0,e1,e2,e3⟩:=xc (a:=a) (i:=a.size-1) (by lia)
 refine aw (w8 e1 ?_)
 have tk:∀c:Array Ai,c.toList.take c.size=c.toList:=λc=>cQ (by simp)
 have J0:HJA kz a b (a.size-1) b.size #[x0]:=by
  have st:HJA kz a b (a.size-1+1) (b.size-1+1) #[]:=by
   have ea:a.size-1+1=a.size:=by lia
   have eb:b.size-1+1=b.size:=by lia
   show HJ kz _ (a.toList.take (a.size-1+1)) (b.toList.take (b.size-1+1)) _
   rw [ea,eb,tk,tk]
   exact ⟨by simpa using m.sa,by simpa using m.sb,by simp⟩
  have:=W9 m st e2 f2 (hl _ e1 _ f3)
  have eb:b.size-1+1=b.size:=by lia
  rw [eb] at this
  exact this
 refine xq (λc1=>?_) λc1=>?_
 ·have e:a.size-1=0:=by simpa using c1
  rw [e] at J0 ⊢
  exact ay (h _ _ (SameSt.rfl' _) (Z0 J0))
 refine xq (λc2=>?_) λc2=>?_
 ·have e:b.size=1:=by simpa using c2
  rw [e] at J0 ⊢
  exact ay (h _ _ (SameSt.rfl' _) (yd hb J0 h0))
 have c1':1≤a.size-1:=by
  have:¬ a.size-1=0:=by simpa using c1
  lia
 have c2':2≤b.size:=by
  have:¬ b.size=1:=by simpa using c2
  lia
 refine aw (fP ?_)
 refine aw (eC (bY (I:=λt (c:Option (Array Ai)×Nat×Nat×Array Ai×Nat) st'=>SameSt st st'∧c.1=none∧HJA kz a b c.2.1 c.2.2.1 c.2.2.2.1∧1≤c.2.1∧2≤c.2.2.1∧c.2.1≤a.size∧c.2.2.1≤b.size∧c.2.1+c.2.2.1+t+1≤a.size+b.size)
  (Q:=λc st'=>SameSt st st'∧∃r,c.1=some r∧Yw kz a b r) ?step ?fin ⟨SameSt.rfl' _,rfl,J0,c1',c2',by dsimp only;lia,aj _,by dsimp only;lia⟩) ?post)
 case post =>
  rintro ⟨r,c⟩ st' ⟨S,r',hr,F⟩
  dsimp only at hr ⊢
  subst hr
  exact ay (h _ _ S F)
 case fin =>
  rintro ⟨r,na,nb,out,mg⟩ st' ⟨S,_,_,x1,x2,_,_,x3⟩
  dsimp only at x1 x2 x3
  lia
 case step =>
  rintro t ⟨r,na,nb,out,mg⟩ st1 _ ht ⟨S1,hr,J,x1,x2,xa,xb,x3⟩
  dsimp only at hr J x1 x2 xa xb x3 ⊢
  subst hr
  refine aw (eC (bY (I:=λx (c:Option (Array Ai)×Nat×Nat×Array Ai×Nat×Nat) st'=>SameSt st st'∧c.1=none∧HJA kz a b c.2.1 c.2.2.1 c.2.2.2.1∧1≤c.2.1∧2≤c.2.2.1∧c.2.1≤a.size∧c.2.2.1≤b.size∧c.2.1+c.2.2.1+t+1+x≤a.size+b.size)
   (Q:=λc st'=>SameSt st st'∧((c.1=none∧HJA kz a b c.2.1 c.2.2.1 c.2.2.2.1∧1≤c.2.1∧2≤c.2.2.1∧c.2.1≤a.size∧c.2.2.1≤b.size∧c.2.1+c.2.2.1+t+2≤a.size+b.size)∨∃r,c.1=some r∧Yw kz a b r)) ?sstep ?sfin ⟨S1,rfl,J,x1,x2,xa,xb,x3⟩) ?spost)
  case sfin =>
   rintro ⟨r,na,nb,out,ac,bc⟩ st' ⟨S,hr,J,x1,x2,xa,xb,x3⟩
   dsimp only at hr J x1 x2 xa xb x3
   exact ⟨S,.inl ⟨hr,J,x1,x2,xa,xb,by dsimp only;lia⟩⟩
  case sstep =>
   rintro x ⟨r,na,nb,out,ac,bc⟩ st2 _ hx ⟨S2,hr,J,x1,x2,xa,xb,x3⟩
   dsimp only at hr J x1 x2 xa xb x3 ⊢
   subst hr
   obtain ⟨na,rfl⟩:∃n,na=n+1:=⟨na-1,by lia⟩
   obtain ⟨nb,rfl⟩:∃n,nb=n+1:=⟨nb-1,by lia⟩
   dsimp only [Nat.add_one_sub_one]
   obtain ⟨u,u1,u2,u3⟩:=xc (a:=b) (i:=nb) (by lia)
   obtain ⟨v,v1,v2,v3⟩:=xc (a:=a) (i:=na) (by lia)
   refine aw (w8 u1 (aw (w8 v1 ?_)))
   refine aw (O u v _ _ (m.gb u u3) (m.ga v v3) (S2.1.trans hk) ?_)
   dsimp only
   refine xq (λc=>?_) λc=>?_
   ·have c:=cg c
    refine aw (w8 v1 ?_)
    have J':=W9 m J v2 u2 c
    refine xq (λd=>?_) λd=>?_
    ·have e:na=0:=by simpa using d
     subst e
     exact ay ⟨S2,.inr ⟨_,rfl,Z0 J'⟩⟩
    have d':1≤na:=by
     have:¬ na=0:=by simpa using d
     lia
    refine xq (λ_=>?_) λ_=>?_
    ·exact ay ⟨S2,.inl ⟨rfl,J',d',x2,by dsimp only;lia,xb,by dsimp only;lia⟩⟩
    ·exact ay ⟨S2,rfl,J',d',x2,by dsimp only;lia,xb,by dsimp only;lia⟩
   ·have c:¬ (kz u<kz v):=by simpa using c
    refine aw (w8 u1 ?_)
    have J':=qw2 m J v2 u2 c
    refine xq (λd=>?_) λd=>?_
    ·have e:nb=1:=by simpa using d
     subst e
     exact ay ⟨S2,.inr ⟨_,rfl,yd hb J' h0⟩⟩
    have d':2≤nb:=by
     have:¬ nb=1:=by simpa using d
     lia
    refine xq (λ_=>?_) λ_=>?_
    ·exact ay ⟨S2,.inl ⟨rfl,J',x1,d',xa,by dsimp only;lia,by dsimp only;lia⟩⟩
    ·exact ay ⟨S2,rfl,J',x1,d',xa,by dsimp only;lia,by dsimp only;lia⟩
  case spost =>
   rintro ⟨r,na,nb,out,ac,bc⟩ st2 ⟨S2,hc|⟨r',hr,F⟩⟩
   case inr =>
    dsimp only at hr ⊢
    subst hr
    exact ay ⟨S2,r',rfl,F⟩
   obtain ⟨hr,J,x1,x2,xa,xb,x3⟩:=hc
   dsimp only at hr J x1 x2 xa xb x3 ⊢
   subst hr
   dsimp only
   refine aw (gI (dt ⟨rfl,?_⟩))
   refine aw (eC (bY (I:=λx (c:Option (Array Ai)×Nat×Nat×Array Ai×Nat×Nat×Nat) st'=>SameSt st st'∧c.1=none∧HJA kz a b c.2.1 c.2.2.1 c.2.2.2.1∧1≤c.2.1∧2≤c.2.2.1∧c.2.1≤a.size∧c.2.2.1≤b.size∧c.2.1+c.2.2.1+t+2≤a.size+b.size)
    (Q:=λc st'=>SameSt st st'∧((c.1=none∧HJA kz a b c.2.1 c.2.2.1 c.2.2.2.1∧1≤c.2.1∧2≤c.2.2.1∧c.2.1≤a.size∧c.2.2.1≤b.size∧c.2.1+c.2.2.1+t+2≤a.size+b.size)∨∃r,c.1=some r∧Yw kz a b r)) ?gstep ?gfin ⟨S2,rfl,J,x1,x2,xa,xb,x3⟩) ?gpost)
   case gfin =>
    rintro ⟨r,na,nb,out,mg,ac,bc⟩ st' ⟨S,hr,J,x1,x2,xa,xb,x3⟩
    exact ⟨S,.inl ⟨hr,J,x1,x2,xa,xb,x3⟩⟩
   case gpost =>
    rintro ⟨r,na,nb,out,mg,ac,bc⟩ st3 ⟨S3,hc|⟨r',hr,F⟩⟩
    ·obtain ⟨hr,J,x1,x2,xa,xb,x3⟩:=hc
     dsimp only at hr J x1 x2 xa xb x3 ⊢
     subst hr
     dsimp only
     refine aw (Zy λst4 S4=>?_)
     exact ay ⟨S3.trans S4,rfl,J,x1,x2,xa,xb,by dsimp only;lia⟩
    ·dsimp only at hr ⊢
     subst hr
     exact ay ⟨S3,r',rfl,F⟩
   case gstep =>
    rintro x ⟨r,na,nb,out,mg,ac,bc⟩ st3 _ hx ⟨S3,hr,J,x1,x2,xa,xb,x3⟩
    dsimp only at hr J x1 x2 xa xb x3 ⊢
    subst hr
    obtain ⟨nb,rfl⟩:∃n,nb=n+1:=⟨nb-1,by lia⟩
    dsimp only [Nat.add_one_sub_one]
    obtain ⟨u,u1,u2,u3⟩:=xc (a:=b) (i:=nb) (by lia)
    revert mg
    refine qy0 (λ_=>rfl) λmg=>?_
    all_goals
     refine aw (Zy λst4 S4=>?_)
     have S5:=S3.trans S4
     refine aw (w8 u1 ?_)
     refine aw (wqv O (S5.1.trans hk) (m.gb u u3) m.sa m.ga xa (by lia) λp k1 k2 k3=>?_)
     have J':=wjv m J k1 u2 λi x hi hi2 ex=>wj2 (k3 i x hi hi2 ex)
     try dsimp only
     by_cases c:na-p>0
     case pos =>
      rw [av c]
      refine xq (λd=>?_) λd=>?_
      ·have e:p=0:=by simpa using d
       subst e
       exact ay ⟨S5,.inr ⟨_,rfl,Z0 J'⟩⟩
      have d':1≤p:=by
       have:¬ p=0:=by simpa using d
       lia
      have prv:∀x,a.toList[p-1]?=some x→¬ kz u<kz x:=λx ex=>by
       have:=ah_f (k2 (p-1) x (by lia) ex)
       lia
      have xa':p≤a.size:=by lia
      have x3':p+(nb+1)+t+2≤a.size+b.size:=by lia
      generalize out++(a.extract p na).reverse=out at J' ⊢
      obtain ⟨na,rfl⟩:∃n,p=n+1:=⟨p-1,by lia⟩
      dsimp only [Nat.add_one_sub_one] at prv ⊢
      obtain ⟨v,v1,v2,v3⟩:=xc (a:=a) (i:=na) (by lia)
      have J2:=qw2 m J' v2 u2 (prv v v2)
      refine aw (w8 u1 ?_)
      try dsimp only
      refine xq (λd2=>?_) λd2=>?_
      ·have e:nb=1:=by simpa using d2
       subst e
       exact ay ⟨S5,.inr ⟨_,rfl,yd hb J2 h0⟩⟩
      have d2':2≤nb:=by
       have:¬ nb=1:=by simpa using d2
       lia
      refine aw (w8 v1 ?_)
      refine aw (wqv O (S5.1.trans hk) (m.ga v v3) m.sb m.gb (by lia) (by lia) λq k1 k2 k3=>?_)
      have J3:=qyw m J2 k1 v2 λi x hi hi2 ex=>Wz (k3 i x hi hi2 ex)
      have q1:1≤q:=by
       rcases bn 0 q with z|z
       ·exact z
       ·exfalso
        obtain ⟨w,w1,w2,w3⟩:=xc (a:=b) (i:=0) (by lia)
        have:=Wz (k3 0 w (by lia) (by lia) w2)
        have:=h0 w w1 v v3
        lia
      have prv2:∀y,b.toList[q-1]?=some y→kz y<kz v:=λy ey=>ah_t (k2 (q-1) y (by lia) ey)
      try dsimp only
      by_cases c:nb-q>0
      case' pos =>
       rw [av c]
       refine xq (λd=>?_) λd=>?_
       ·have e:q=1:=by simpa using d
        subst e
        exact ay ⟨S5,.inr ⟨_,rfl,yd hb J3 h0⟩⟩
       refine qv7 (by simp;lia) ?_
       have d3:2≤q:=by
        have:¬ q=1:=by simpa using d
        lia
       have d5:q≤nb:=k1
       generalize out.push u++(b.extract q nb).reverse=out2 at J3 ⊢
      case' neg =>
       rw [ao c]
       obtain rfl:q=nb:=by lia
       have d3:2≤q:=d2'
       have d5:q≤q:=k1
       clear J3
       have J3:=J2
       generalize out.push u=out2 at J3 ⊢
      all_goals
       obtain ⟨q,rfl⟩:∃n,q=n+1:=⟨q-1,by lia⟩
       dsimp only [Nat.add_one_sub_one] at prv2
       obtain ⟨w,w1,w2,w3⟩:=xc (a:=b) (i:=q) (by lia)
       have J4:=W9 m J3 v2 w2 (prv2 w w2)
       refine aw (w8 v1 ?_)
       try dsimp only
       refine xq (λd=>?_) λd=>?_
       ·have e:na=0:=by simpa using d
        subst e
        exact ay ⟨S5,.inr ⟨_,rfl,Z0 J4⟩⟩
       have d4:1≤na:=by
        have:¬ na=0:=by simpa using d
        lia
       refine xq (λ_=>?_) λ_=>?_
       ·exact ay ⟨S5,.inl ⟨rfl,J4,d4,d3,by dsimp only;lia,by dsimp only;lia,by dsimp only;lia⟩⟩
       ·exact ay ⟨S5,rfl,J4,d4,d3,by dsimp only;lia,by dsimp only;lia,by dsimp only;lia⟩
     case neg =>
      rw [ao c]
      obtain rfl:p=na:=by lia
      have prv:∀x,a.toList[p-1]?=some x→¬ kz u<kz x:=λx ex=>by
       have:=ah_f (k2 (p-1) x (by lia) ex)
       lia
      clear J'
      have J':=J
      obtain ⟨na,rfl⟩:∃n,p=n+1:=⟨p-1,by lia⟩
      dsimp only [Nat.add_one_sub_one] at prv ⊢
      obtain ⟨v,v1,v2,v3⟩:=xc (a:=a) (i:=na) (by lia)
      have J2:=qw2 m J' v2 u2 (prv v v2)
      refine aw (w8 u1 ?_)
      try dsimp only
      refine xq (λd2=>?_) λd2=>?_
      ·have e:nb=1:=by simpa using d2
       subst e
       exact ay ⟨S5,.inr ⟨_,rfl,yd hb J2 h0⟩⟩
      have d2':2≤nb:=by
       have:¬ nb=1:=by simpa using d2
       lia
      refine aw (w8 v1 ?_)
      refine aw (wqv O (S5.1.trans hk) (m.ga v v3) m.sb m.gb (by lia) (by lia) λq k1 k2 k3=>?_)
      have J3:=qyw m J2 k1 v2 λi x hi hi2 ex=>Wz (k3 i x hi hi2 ex)
      have q1:1≤q:=by
       rcases bn 0 q with z|z
       ·exact z
       ·exfalso
        obtain ⟨w,w1,w2,w3⟩:=xc (a:=b) (i:=0) (by lia)
        have:=Wz (k3 0 w (by lia) (by lia) w2)
        have:=h0 w w1 v v3
        lia
      have prv2:∀y,b.toList[q-1]?=some y→kz y<kz v:=λy ey=>ah_t (k2 (q-1) y (by lia) ey)
      try dsimp only
      by_cases c:nb-q>0
      case' pos =>
       rw [av c]
       refine xq (λd=>?_) λd=>?_
       ·have e:q=1:=by simpa using d
        subst e
        exact ay ⟨S5,.inr ⟨_,rfl,yd hb J3 h0⟩⟩
       refine qv7 (by simp;lia) ?_
       have d3:2≤q:=by
        have:¬ q=1:=by simpa using d
        lia
       have d5:q≤nb:=k1
       generalize out.push u++(b.extract q nb).reverse=out2 at J3 ⊢
      case' neg =>
       rw [ao c]
       obtain rfl:q=nb:=by lia
       have d3:2≤q:=d2'
       have d5:q≤q:=k1
       clear J3
       have J3:=J2
       generalize out.push u=out2 at J3 ⊢
      all_goals
       obtain ⟨q,rfl⟩:∃n,q=n+1:=⟨q-1,by lia⟩
       dsimp only [Nat.add_one_sub_one] at prv2
       obtain ⟨w,w1,w2,w3⟩:=xc (a:=b) (i:=q) (by lia)
       have J4:=W9 m J3 v2 w2 (prv2 w w2)
       refine aw (w8 v1 ?_)
       try dsimp only
       refine xq (λd=>?_) λd=>?_
       ·have e:na=0:=by simpa using d
        subst e
        exact ay ⟨S5,.inr ⟨_,rfl,Z0 J4⟩⟩
       have d4:1≤na:=by
        have:¬ na=0:=by simpa using d
        lia
       refine xq (λ_=>?_) λ_=>?_
       ·exact ay ⟨S5,.inl ⟨rfl,J4,d4,d3,by dsimp only;lia,by dsimp only;lia,by dsimp only;lia⟩⟩
       ·exact ay ⟨S5,rfl,J4,d4,d3,by dsimp only;lia,by dsimp only;lia,by dsimp only;lia⟩
end
end Tm
namespace Tm
open PySem PyProof.Rows
section
variable {M:Model}{A:Ae}{E:Ag→Ab→Prop}{s:Ab}{G:Ai→Prop}{kz:Ai→Int}{kd:SortKind}
def Srt (kz:Ai→Int)(xs:Array Ai)(lo hi:Nat):Prop:=∀i j x y,lo≤i→i<j→j<hi→xs[i]?=some x→xs[j]?=some y→kz x<kz y
def Dsc (kz:Ai→Int)(xs:Array Ai)(lo hi:Nat):Prop:=∀i j x y,lo≤i→i<j→j<hi→xs[i]?=some x→xs[j]?=some y→kz y<kz x
structure Un (kz:Ai→Int)(G:Ai→Prop)(xs:Array Ai):Prop where
 ne:xs.toList.Pairwise λx y=>kz x≠kz y
 g:∀x∈xs.toList,G x
theorem Un.perm {xs ys:Array Ai}(u:Un kz G xs)(p:ys.Perm xs):Un kz G ys:=by
 have p':=dF.mp p
 exact ⟨(p'.pairwise_iff (λ{a b} h=>de h)).mpr u.ne,λx hx=>u.g x (p'.mem_iff.mp hx)⟩
theorem Un.at_ {xs:Array Ai}(u:Un kz G xs){i:Nat}(h:i<xs.size):∃x,xs[i]?=some x∧G x:=by
 obtain ⟨x,e1,_,e3⟩:=xc h
 exact ⟨x,e1,u.g x e3⟩
theorem Un.ne_at {xs:Array Ai}(u:Un kz G xs){i j:Nat}{x y:Ai}(hij:i<j)(hx:xs[i]?=some x)(hy:xs[j]?=some y):kz x≠kz y:=by
 rw [←aD] at hx hy
 obtain ⟨hi,rfl⟩:=ak.mp hx
 obtain ⟨hj,rfl⟩:=ak.mp hy
 exact bb.mp u.ne i j hi hj hij
theorem Yf {st:Af}{i j:Nat}{x y:Ai}{Q:Option Bool→Af→Prop}(O:yq M A E s G kz kd)(hk:kindOf st=kd)(hx:(arrOf st)[i]?=some x)(hy:(arrOf st)[j]?=some y)(gx:G x)(gy:G y)
  (h:Q (some (decide (kz x<kz y))) st):wpS M A E s (ltAt' i j) Q st:=by
 rw [ltAt'_eq]
 refine aw (fP ?_)
 exact aw (w8 hx (aw (w8 hy (O _ _ _ _ gx gy hk h))))
structure Ip (lo:Nat)(st st':Af):Prop where
 k:kindOf st'=kindOf st
 p:pendingOf st'=pendingOf st
 f:failedOf st'=failedOf st
 a:(arrOf st').Perm (arrOf st)
 low:∀i,i<lo→(arrOf st')[i]?=(arrOf st)[i]?
theorem Ip.rfl' (lo:Nat)(st:Af):Ip lo st st:=⟨rfl,rfl,rfl,.refl _,λ_ _=>rfl⟩
theorem Ip.trans {lo:Nat}{a b c:Af}(h:Ip lo a b)(k:Ip lo b c):Ip lo a c:=⟨k.k.trans h.k,k.p.trans h.p,k.f.trans h.f,k.a.trans h.a,λi hi=>(k.low i hi).trans (h.low i hi)⟩
theorem ip_bub {lo src d:Nat}{st:Af}(h:src<(arrOf st).size)(hd:lo+d≤src):Ip lo st (setArr st (bubble (arrOf st) src d)):=by
 refine ⟨rfl,rfl,rfl,bubble_perm _ _ _,λi hi=>?_⟩
 show (bubble (arrOf st) src d)[i]?=_
 rw [getElem?_bubble h d (by lia),ao (by lia),ao (by lia)]
theorem ip_mir {lo i j:Nat}{st:Af}(hj:j≤(arrOf st).size)(hi:lo≤i):Ip lo st (setArr st (mirror (arrOf st) i j ((j-i)/2))):=by
 refine ⟨rfl,rfl,rfl,mirror_perm _ _ _ _,λk hk=>?_⟩
 show (mirror (arrOf st) i j ((j-i)/2))[k]?=_
 rw [getElem?_mirror_all hj,ao (by lia)]
theorem Srt.one (xs:Array Ai)(lo:Nat):Srt kz xs lo (lo+1):=λi j x y a b c _ _=>by lia
theorem Srt.snoc {xs:Array Ai}{lo hi:Nat}{x y:Ai}(h:Srt kz xs lo (hi+1))(hlo:lo≤hi)(hx:xs[hi]?=some x)(hy:xs[hi+1]?=some y)(c:kz x<kz y):Srt kz xs lo (hi+1+1):=by
 intro i j u v a b d eu ev
 by_cases e:j=hi+1
 ·subst e
  rw [hy] at ev
  cases ev
  by_cases e2:i=hi
  ·subst e2
   rw [hx] at eu
   cases eu
   exact c
  ·have:=h i hi u x a (by lia) (by lia) eu hx
   lia
 ·exact h i j u v a b (by lia) eu ev
theorem Dsc.snoc {xs:Array Ai}{lo hi:Nat}{x y:Ai}(h:Dsc kz xs lo (hi+1))(hlo:lo≤hi)(hx:xs[hi]?=some x)(hy:xs[hi+1]?=some y)(c:kz y<kz x):Dsc kz xs lo (hi+1+1):=by
 intro i j u v a b d eu ev
 by_cases e:j=hi+1
 ·subst e
  rw [hy] at ev
  cases ev
  by_cases e2:i=hi
  ·subst e2
   rw [hx] at eu
   cases eu
   exact c
  ·have:=h i hi u x a (by lia) (by lia) eu hx
   lia
 ·exact h i j u v a b (by lia) eu ev
theorem Dsc.turn {xs:Array Ai}{lo n:Nat}(h:Dsc kz xs lo (lo+n))(hs:lo+n≤xs.size):Srt kz (mirror xs lo (lo+n) ((lo+n-lo)/2)) lo (lo+n):=by
 intro i j u v a b d eu ev
 rw [getElem?_mirror_all hs,av ⟨by lia,by lia⟩] at eu ev
 exact h _ _ v u (by lia) (by lia) (by lia) ev eu
theorem wj6 {st:Af}{lo n0 nrem:Nat}{f:Nat→Option (Option Nat)×Nat→StateT Af Sem (ForInStep (Option (Option Nat)×Nat))}{Q:Option (Option Nat)×Nat→Af→Prop}
  (hf:∀i n (R:ForInStep (Option (Option Nat)×Nat)→Af→Prop),1≤n→n<nrem→(∀x y,(arrOf st)[lo+n-1]?=some x→(arrOf st)[lo+n]?=some y→(kz y<kz x→R (.done (none,n)) st)∧(¬ kz y<kz x→R (.yield (none,n+1)) st))→wpS M A E s (f i (none,n)) R st)
  (u:Un kz G (arrOf st)) (h0:1≤n0) (hn:n0≤nrem) (hz:lo+nrem≤(arrOf st).size) (sr:Srt kz (arrOf st) lo (lo+n0))
  (h:∀n,n0≤n→n≤nrem→Srt kz (arrOf st) lo (lo+n)→(n=nrem∨∀x y,(arrOf st)[lo+n-1]?=some x→(arrOf st)[lo+n]?=some y→kz y<kz x)→Q (none,n) st) :
  wpS M A E s (forIn [n0:nrem] ((none,n0):Option (Option Nat)×Nat) f) Q st:=by
 refine bY (I:=λi (c:Option (Option Nat)×Nat) st'=>st'=st∧c=(none,i)∧n0≤i∧Srt kz (arrOf st) lo (lo+i)) ?step ?fin ⟨rfl,rfl,aj _,sr⟩
 case fin =>
  rintro c st' ⟨rfl,rfl,x1,x2⟩
  have e:max n0 nrem=nrem:=by lia
  rw [e] at x1 x2 ⊢
  exact h _ x1 (aj _) x2 (.inl rfl)
 case step =>
  rintro i c st' hi hi2 ⟨rfl,rfl,x1,x2⟩
  refine hf _ _ _ (by lia) hi2 λx y ex ey=>⟨λc=>?_,λc=>?_⟩
  ·refine h i x1 (by lia) x2 (.inr λx' y' ex' ey'=>?_)
   rw [ex] at ex'
   rw [ey] at ey'
   cases ex'
   cases ey'
   exact c
  ·have ne:=u.ne_at (show lo+i-1<lo+i by lia) ex ey
   refine ⟨rfl,rfl,by lia,?_⟩
   obtain ⟨m,e⟩:∃m,lo+i=m+1:=⟨lo+i-1,by lia⟩
   rw [show lo+(i+1)=m+1+1 by lia]
   rw [e] at x2 ey ex
   exact x2.snoc (by lia) (by simpa using ex) ey (by lia)
theorem wvz {st:Af}{lo nrem:Nat}{Q:Option Nat→Af→Prop}(O:yq M A E s G kz kd)(hk:kindOf st=kd)(u:Un kz G (arrOf st))(h1:1≤nrem)(hz:lo+nrem≤(arrOf st).size)
  (h:∀n st',1≤n→n≤nrem→Ip lo st st'→Srt kz (arrOf st') lo (lo+n)→Q (some n) st'):wpS M A E s (countRun' lo nrem) Q st:=by
 rw [countRun'_eq]
 dsimp only
 refine aw (wj6 (lo:=lo) (n0:=1) (nrem:=nrem) (λi n R n1 n2 hR=>?_) u (aj _) h1 hz (Srt.one _ _) λn n1 n2 sr hor=>?_)
 ·obtain ⟨x,ex,gx⟩:=u.at_ (i:=lo+n-1) (by lia)
  obtain ⟨y,ey,gy⟩:=u.at_ (i:=lo+n) (by lia)
  have:=hR x y ex ey
  dsimp only
  refine aw (Yf O hk ey ex gy gx ?_)
  dsimp only
  by_cases c:kz y<kz x
  ·rw [av (aT c)]
   exact ay (this.1 c)
  ·rw [ao (by simpa using c)]
   exact ay (this.2 c)
 dsimp only
 by_cases c:(n==nrem)=true
 ·rw [av c]
  exact ay (h n st n1 n2 (Ip.rfl' _ _) sr)
 rw [ao c]
 have c':n<nrem:=by
  have:¬ n=nrem:=by simpa using c
  lia
 by_cases c2:n>1
 ·rw [av c2]
  obtain ⟨x,ex,gx⟩:=u.at_ (i:=lo) (by lia)
  obtain ⟨y,ey,gy⟩:=u.at_ (i:=lo+n-1) (by lia)
  refine aw (Yf O hk ex ey gx gy ?_)
  dsimp only
  rw [av (aT (sr lo (lo+n-1) x y (aj _) (by lia) (by lia) ex ey))]
  exact ay (h n st n1 n2 (Ip.rfl' _ _) sr)
 rw [ao c2]
 obtain rfl:n=1:=by lia
 refine aw (gI (dt ⟨rfl,?_⟩))
 have fall:=hor.resolve_left (by lia)
 have d0:Dsc kz (arrOf st) lo (lo+(1+1)):=by
  obtain ⟨x,ex,gx⟩:=u.at_ (i:=lo) (by lia)
  obtain ⟨y,ey,gy⟩:=u.at_ (i:=lo+1) (by lia)
  exact Dsc.snoc (hi:=lo) (λi j u v a b d _ _=>by lia) (aj _) ex ey (fall x y (by simpa using ex) ey)
 refine aw (eC (bY (I:=λi (c:Option (Option Nat)×Nat×Nat) st'=>st'=st∧c=(none,i,0)∧2≤i∧i≤nrem∧Dsc kz (arrOf st) lo (lo+i))
  (Q:=λc st'=>st'=st∧∃i,c=(none,i,0)∧2≤i∧i≤nrem∧Dsc kz (arrOf st) lo (lo+i)) ?step ?fin ⟨rfl,rfl,aj _,by lia,d0⟩) ?post)
 case fin =>
  rintro c st' ⟨rfl,rfl,x1,x2,x3⟩
  exact ⟨rfl,_,rfl,x1,x2,x3⟩
 case step =>
  rintro i c st' hi hi2 ⟨rfl,rfl,x1,x2,x3⟩
  dsimp only
  obtain ⟨x,ex,gx⟩:=u.at_ (i:=lo+i-1) (by lia)
  obtain ⟨y,ey,gy⟩:=u.at_ (i:=lo+i) (by lia)
  refine aw (Yf O hk ey ex gy gx ?_)
  dsimp only
  have ne:=u.ne_at (show lo+i-1<lo+i by lia) ex ey
  by_cases c:kz y<kz x
  ·rw [av (aT c)]
   rw [ao (aW 0)]
   refine ay ⟨rfl,rfl,by lia,by lia,?_⟩
   obtain ⟨m,e⟩:∃m,lo+i=m+1:=⟨lo+i-1,by lia⟩
   rw [show lo+(i+1)=m+1+1 by lia]
   rw [e] at x3 ey ex
   exact x3.snoc (by lia) (by simpa using ex) ey c
  ·rw [ao (by simpa using c)]
   refine aw (Yf O hk ex ey gx gy ?_)
   dsimp only
   rw [av (aT (show kz x<kz y by lia))]
   exact ay ⟨rfl,i,rfl,x1,x2,x3⟩
 case post =>
  rintro c st' ⟨rfl,i,rfl,x1,x2,x3⟩
  dsimp only
  rw [ao (aW 0)]
  refine aw ?_
  rw [reverseSlice'_eq]
  refine fu ?_
  have ip:=ip_mir (lo:=lo) (i:=lo) (j:=lo+i) (st:=st') (by lia) (aj _)
  have sr2:Srt kz (arrOf (setArr st' (mirror (arrOf st') lo (lo+i) ((lo+i-lo)/2)))) lo (lo+i):=x3.turn (by lia)
  generalize setArr st' (mirror (arrOf st') lo (lo+i) ((lo+i-lo)/2))=st2 at ip sr2 ⊢
  have u2:=u.perm ip.a
  have z2:(arrOf st2).size=(arrOf st').size:=ip.a.size_eq
  refine aw (wj6 (lo:=lo) (n0:=i) (nrem:=nrem) (λi n R n1 n2 hR=>?_) u2 (by lia) x2 (by lia) sr2 λn n1 n2 sr hor=>?_)
  ·obtain ⟨x,ex,gx⟩:=u2.at_ (i:=lo+n-1) (by lia)
   obtain ⟨y,ey,gy⟩:=u2.at_ (i:=lo+n) (by lia)
   have:=hR x y ex ey
   dsimp only
   refine aw (Yf O (ip.k.trans hk) ey ex gy gx ?_)
   dsimp only
   by_cases c:kz y<kz x
   ·rw [av (aT c)]
    exact ay (this.1 c)
   ·rw [ao (by simpa using c)]
    exact ay (this.2 c)
  exact ay (h n st2 (by lia) n2 ip sr)
theorem xqr {st:Af}{lo n ok:Nat}{Q:Bool→Af→Prop}(O:yq M A E s G kz kd)(hk:kindOf st=kd)(u:Un kz G (arrOf st))(h1:1≤ok)(hok:ok≤n)(hz:lo+n≤(arrOf st).size)(sr:Srt kz (arrOf st) lo (lo+ok))
  (h:∀st',Ip lo st st'→Srt kz (arrOf st') lo (lo+n)→Q true st'):wpS M A E s (binarySort' lo n ok) Q st:=by
 rw [binarySort'_eq]
 have em:max ok 1=ok:=by lia
 rw [em]
 refine aw (eC (bY (I:=λk c st'=>c=(none,())∧Ip lo st st'∧Srt kz (arrOf st') lo (lo+k)) (Q:=λc st'=>c=(none,())∧Ip lo st st'∧Srt kz (arrOf st') lo (lo+n)) ?step ?fin ⟨rfl,Ip.rfl' _ _,sr⟩) ?post)
 case fin =>
  rintro c st' ⟨rfl,x1,x2⟩
  rw [show max ok n=n by lia] at x2
  exact ⟨rfl,x1,x2⟩
 case post =>
  rintro c st' ⟨rfl,x1,x2⟩
  exact ay (h st' x1 x2)
 case step =>
  rintro k c st1 hk1 hk2 ⟨rfl,ip,s1⟩
  dsimp only
  have u1:=u.perm ip.a
  have z1:(arrOf st1).size=(arrOf st).size:=ip.a.size_eq
  obtain ⟨x,ex,gx⟩:=u1.at_ (i:=lo+k) (by lia)
  refine aw (eC (bY (I:=λi (c:Option Bool×Nat×Nat) st'=>st'=st1∧c.1=none∧c.2.1≤c.2.2∧c.2.2≤k∧c.2.2-c.2.1≤k-i∧(∀j y,j<c.2.1→(arrOf st1)[lo+j]?=some y→kz y<kz x)∧(∀j y,c.2.2≤j→j<k→(arrOf st1)[lo+j]?=some y→kz x<kz y))
   (Q:=λc st'=>st'=st1∧∃l r,c=(none,l,r)∧l≤k∧(∀j y,j<l→(arrOf st1)[lo+j]?=some y→kz y<kz x)∧(∀j y,l≤j→j<k→(arrOf st1)[lo+j]?=some y→kz x<kz y)) ?step2 ?fin2 ⟨rfl,rfl,aV _,aj _,by dsimp only;lia,λj y hj=>by dsimp only at hj;lia,λj y a b=>by dsimp only at a;lia⟩) ?post2)
  case fin2 =>
   rintro ⟨r,a,b⟩ st' ⟨rfl,hr,y1,y2,y3,y4,y5⟩
   dsimp only at hr y1 y2 y3 y4 y5
   subst hr
   have:a=b:=by lia
   subst this
   exact ⟨rfl,_,_,rfl,y2,y4,y5⟩
  case step2 =>
   rintro i ⟨r,a,b⟩ st' _ hi ⟨rfl,hr,y1,y2,y3,y4,y5⟩
   dsimp only at hr y1 y2 y3 y4 y5 ⊢
   subst hr
   by_cases c:a≥b
   ·rw [av c]
    have:a=b:=by lia
    subst this
    exact ay ⟨rfl,_,_,rfl,y2,y4,y5⟩
   rw [ao c]
   obtain ⟨y,ey,gy⟩:=u1.at_ (i:=lo+(a+b)/2) (by lia)
   refine aw (Yf O (ip.k.trans hk) ex ey gx gy ?_)
   dsimp only
   have ne:=u1.ne_at (show lo+(a+b)/2<lo+k by lia) ey ex
   have mon:∀j j' z z',j≤j'→j'<k→(arrOf st')[lo+j]?=some z→(arrOf st')[lo+j']?=some z'→kz z≤kz z':=λj j' z z' h1 h2 e1 e2=>by
    rcases bn j j' with c|c
    ·exact fF (s1 (lo+j) (lo+j') z z' (by lia) (by lia) (by lia) e1 e2)
    ·obtain rfl:j=j':=by lia
     rw [e1] at e2
     cases e2
     exact c0 _
   by_cases d:kz x<kz y
   ·rw [av (aT d)]
    refine ay ⟨rfl,rfl,by dsimp only;lia,by dsimp only;lia,by dsimp only;lia,y4,λj z hj hj2 ez=>?_⟩
    have:=mon _ _ _ _ hj hj2 ey ez
    lia
   ·rw [ao (by simpa using d)]
    refine ay ⟨rfl,rfl,by dsimp only;lia,y2,by dsimp only;lia,λj z hj ez=>?_,y5⟩
    dsimp only at hj
    have:=mon j ((a+b)/2) _ _ (by lia) (by lia) ez ey
    lia
  case post2 =>
   rintro c st' ⟨rfl,l,r,rfl,hl,b1,b2⟩
   dsimp only
   refine aw ?_
   rw [moveDown'_eq]
   refine fu ?_
   have ed:lo+k-(lo+l)=k-l:=by lia
   rw [ed]
   refine ay ⟨rfl,ip.trans (ip_bub (by lia) (by lia)),?_⟩
   show Srt kz (bubble (arrOf st') (lo+k) (k-l)) lo (lo+(k+1))
   intro i j p q h1 h2 h3 ep eq
   rw [getElem?_bubble (by lia) (k-l) (by lia)] at ep eq
   have e4:lo+k-(k-l)=lo+l:=by lia
   rw [e4] at ep eq
   by_cases c1:i=lo+l
   ·rw [av c1,ex] at ep
    cases ep
    rw [ao (by lia),av ⟨by lia,by lia⟩] at eq
    exact b2 (j-1-lo) q (by lia) (by lia) (by rw [←eq];congr 1;lia)
   ·rw [ao c1] at ep
    by_cases c2:j=lo+l
    ·rw [av c2,ex] at eq
     cases eq
     rw [ao (by lia)] at ep
     exact b1 (i-lo) p (by lia) (by rw [←ep];congr 1;lia)
    ·rw [ao c2] at eq
     by_cases c3:lo+l<i∧i≤lo+k
     ·rw [av c3] at ep
      rw [av ⟨by lia,by lia⟩] at eq
      exact s1 (i-1) (j-1) p q (by lia) (by lia) (by lia) ep eq
     ·rw [ao c3] at ep
      by_cases c4:lo+l<j∧j≤lo+k
      ·rw [av c4] at eq
       have h5:=b1 (i-lo) p (by lia) (by rw [←ep];congr 1;lia)
       have h6:=b2 (j-1-lo) q (by lia) (by lia) (by rw [←eq];congr 1;lia)
       lia
      ·rw [ao c4] at eq
       exact s1 i j p q h1 h2 (by lia) ep eq
end
end Tm
namespace Tm
open PySem PyProof.Rows
local macro_rules | `(tactic| walk_at "tim at")=>do
 let n:=Lean.mkIdent (Lean.mkPrivateNameCore `PySem.Builtin.List.W1All `PySem.Builtin.mergeAt)
 `(tactic| unfold $n:ident)
section
variable {kz:Ai→Int}{G:Ai→Prop}
def Pend (kz:Ai→Int):List (Nat×Nat)→List (List Ai)→Nat→Prop
 |[],[],_=>True
 |q::ps,r::rs,lo=>q.1=lo∧q.2=r.length∧1≤r.length∧SL kz r∧Pend kz ps rs (lo+r.length)
 |[],_::_,_=>False
 |_::_,[],_=>False
def pr (q:Nat×Nat×Nat):Nat×Nat:=(q.1,q.2.1)
theorem Pend.len:∀ {ps:List (Nat×Nat)} {rs:List (List Ai)} {lo:Nat},Pend kz ps rs lo→ps.length=rs.length
 |[],[],_,_=>rfl
 |_::ps,_::rs,_,h=>by simp [Pend.len h.2.2.2.2]
 |[],_::_,_,h=>h.elim
 |_::_,[],_,h=>h.elim
theorem Pend.size:∀ {ps:List (Nat×Nat)} {rs:List (List Ai)} {lo:Nat},Pend kz ps rs lo→rs.length≤rs.flatten.length
 |[],[],_,_=>by simp
 |_::ps,r::rs,_,h=>by
  have:=Pend.size h.2.2.2.2
  have:=h.2.2.1
  simp only [dk,am,aQ]
  lia
 |[],_::_,_,h=>h.elim
 |_::_,[],_,h=>h.elim
theorem Pend.push:∀ {ps:List (Nat×Nat)} {rs:List (List Ai)} {lo:Nat} {r:List Ai} {q:Nat×Nat},Pend kz ps rs lo→q.1=lo+rs.flatten.length→q.2=r.length→1≤r.length→SL kz r→Pend kz (ps++[q]) (rs++[r]) lo
 |[],[],_,_,_,_,a,b,c,d=>⟨by simpa using a,b,c,d,trivial⟩
 |_::ps,r'::rs,_,_,_,h,a,b,c,d=>⟨h.1,h.2.1,h.2.2.1,h.2.2.2.1,Pend.push h.2.2.2.2 (by simp only [dk,am] at a;lia) b c d⟩
 |[],_::_,_,_,_,h,_,_,_,_=>h.elim
 |_::_,[],_,_,_,h,_,_,_,_=>h.elim
theorem Pend.split:∀(i:Nat) {p:List (Nat×Nat×Nat)} {rs:List (List Ai)} {lo:Nat},Pend kz (p.map pr) rs lo→i+1<p.length→∃p1 q1 q2 p2 rs1 RA RB rs2,p=p1++q1::q2::p2∧rs=rs1++RA::RB::rs2∧p1.length=i∧rs1.length=i∧q1.1=lo+rs1.flatten.length∧q1.2.1=RA.length∧q2.1=lo+rs1.flatten.length+RA.length∧q2.2.1=RB.length ∧
  1≤RA.length∧1≤RB.length∧SL kz RA∧SL kz RB∧∀(RN:List Ai) (q:Nat×Nat×Nat),q.1=q1.1→q.2.1=RN.length→RN.length=RA.length+RB.length→SL kz RN→Pend kz ((p1++q::p2).map pr) (rs1++RN::rs2) lo
 |0,q1::q2::p2,RA::RB::rs2,lo,h,_=>by
  obtain ⟨a1,a2,a3,a4,b1,b2,b3,b4,r⟩:=h
  refine ⟨[],q1,q2,p2,[],RA,RB,rs2,rfl,rfl,rfl,rfl,by simpa [pr] using a1,a2,by simpa [pr] using b1,b2,a3,b3,a4,b4,λRN q e1 e2 e3 e4=>⟨?_,e2,by lia,e4,?_⟩⟩
  ·show q.1=lo
   rw [e1]
   exact a1
  ·rw [e3,←Nat.add_assoc]
   exact r
 |i+1,q0::p,r0::rs,lo,h,hi=>by
  obtain ⟨a1,a2,a3,a4,r⟩:=h
  obtain ⟨p1,q1,q2,p2,rs1,RA,RB,rs2,e1,e2,e3,e4,c1,c2,c3,c4,c5,c6,c7,c8,c9⟩:=Pend.split i r (by simpa using hi)
  refine ⟨q0::p1,q1,q2,p2,r0::rs1,RA,RB,rs2,by rw [e1];rfl,by rw [e2];rfl,by simp [e3],by simp [e4],by rw [c1];simp only [dk,am];lia,c2,by rw [c3];simp only [dk,am];lia,c4,c5,c6,c7,c8,λRN q z1 z2 z3 z4=>?_⟩
  exact ⟨a1,a2,a3,a4,c9 RN q z1 z2 z3 z4⟩
 |0,[],_,_,_,hi=>by simp at hi
 |0,[_],_,_,_,hi=>by simp at hi
 |0,_::_::_,[],_,h,_=>h.elim
 |0,_::_::_,[_],_,h,_=>h.2.2.2.2.elim
 |i+1,[],_,_,_,hi=>by simp at hi
 |i+1,_::_,[],_,h,_=>h.elim
theorem Wf {xs:Array Ai}{P R S:List Ai}(h:xs.toList=P++(R++S)){i:Nat}(hi:i<R.length):xs[P.length+i]?=R[i]?:=by
 rw [←aD,h,aA (by lia),cK,aP hi]
theorem ww0 {g:Array Ai→Ai×Nat→Array Ai}{sa:Nat}(hg:∀xs p j,g xs (p,j)=xs.setIfInBounds (sa+j) p):∀(l:List Ai) (k:Nat) (xs:Array Ai),sa+k+l.length≤xs.size→∀i:Nat,((l.zipIdx k).foldl g xs)[i]?=if sa+k≤i∧i<sa+k+l.length then l[i-(sa+k)]? else xs[i]?
 |[],k,xs,h,i=>by
  rw [ao (by rw [eB];lia)]
  rfl
 |p::l,k,xs,h,i=>by
  simp only [aQ] at h
  rw [List.zipIdx_cons,List.foldl_cons,hg,ww0 hg l (k+1) _ (by rw [hX];lia)]
  simp only [aQ]
  by_cases c1:sa+(k+1)≤i∧i<sa+(k+1)+l.length
  ·rw [av c1,av ⟨by lia,by lia⟩]
   obtain ⟨d,hd⟩:∃d,i-(sa+k)=d+1:=⟨i-(sa+k)-1,by lia⟩
   rw [hd,ik]
   congr 1
   lia
  ·rw [ao c1]
   by_cases c2:i=sa+k
   ·subst c2
    rw [av ⟨aj _,by lia⟩,gk,fY,av rfl,av (by lia)]
    rfl
   ·rw [ao (by lia),fY,ao (by lia)]
theorem xq6 {g:Array Ai→Ai×Nat→Array Ai}{sa:Nat}(hg:∀xs p j,g xs (p,j)=xs.setIfInBounds (sa+j) p){xs:Array Ai}{P R S l:List Ai}(h:xs.toList=P++(R++S))(hs:P.length=sa)(hl:l.length=R.length):(l.zipIdx.foldl g xs).toList=P++(l++S):=by
 have hz:xs.size=P.length+(R.length+S.length):=by rw [←aS,h];simp
 refine bM λi=>?_
 rw [aD,ww0 hg l 0 xs (by lia)]
 by_cases c1:i<P.length
 ·rw [ao (by lia),←aD,h,aP c1,aP c1]
 ·rw [aA (by lia)]
  by_cases c2:i-P.length<l.length
  ·rw [av ⟨by lia,by lia⟩,aP c2]
   congr 1
   lia
  ·rw [ao (by lia),aA (by lia),←aD,h,aA (by lia),aA (by lia),hl]
theorem wx5 {xs:Array Ai}{P R S:List Ai}{i j:Nat}(h:xs.toList=P++(R++S))(hi:i=P.length)(hj:j=P.length+R.length):(xs.extract i j).toList=R:=by
 subst hi hj
 rw [qk2,h,List.drop_left,cK,List.take_left]
theorem SL.app {X Y:List Ai}(hx:SL kz X)(hy:SL kz Y)(h:∀x∈X,∀y∈Y,kz x<kz y):SL kz (X++Y):=bh.mpr ⟨hx,hy,h⟩
theorem SL.parts {X Y:List Ai}(h:SL kz (X++Y)):SL kz X∧SL kz Y∧∀x∈X,∀y∈Y,kz x<kz y:=bh.mp h
end
section
variable {M:Model}{A:Ae}{E:Ag→Ab→Prop}{s:Ab}{G:Ai→Prop}{kz:Ai→Int}{kd:SortKind}
theorem wxf {left:Bool}{key:Ai}{arr:Array Ai}{n hint base:Nat}{P R S:List Ai}{st:Af}{Q:Option Nat→Af→Prop}(O:yq M A E s G kz kd)(hk:kindOf st=kd)(hG:G key)
  (hT:arr.toList=P++(R++S)) (hb:base=P.length) (hn:n=R.length) (sl:SL kz R) (hg:∀x∈R,G x) (hh:hint<n)
  (h:∀k,k≤R.length→(∀x∈R.take k,zp kz left key x=true)→(∀x∈R.drop k,zp kz left key x=false)→Q (some k) st) :
  wpS M A E s (Q0 left key arr base n hint) Q st:=by
 subst hb hn
 refine wxb O hk hG (λi j x y h1 h2 h3 ex ey=>?_) (λi h1 h2=>?_) hh λk k1 k2 k3=>h k k1 (λx hx=>?_) λx hx=>?_
 ·have e1:=Wf hT (i:=i-P.length) (by lia)
  have e2:=Wf hT (i:=j-P.length) (by lia)
  rw [show P.length+(i-P.length)=i by lia,ex] at e1
  rw [show P.length+(j-P.length)=j by lia,ey] at e2
  exact sl.lt (by lia) e1.symm e2.symm
 ·have e1:=Wf hT (i:=i-P.length) (by lia)
  rw [show P.length+(i-P.length)=i by lia] at e1
  have hi:i-P.length<R.length:=by lia
  rw [ae hi] at e1
  exact ⟨_,e1,hg _ (bu _)⟩
 ·obtain ⟨j,hj,ej⟩:=Qx hx
  exact k2 j x hj (by rw [Wf hT (by lia)];exact ej)
 ·obtain ⟨j,hj,ej⟩:=Qz hx
  have hj2:j<R.length:=(ak.mp ej).1
  exact k3 j x hj hj2 (by rw [Wf hT hj2];exact ej)
theorem qy4 {st:Af}{i:Nat}{rs:List (List Ai)}{S:List Ai}{Q:Bool→Af→Prop}(O:yq M A E s G kz kd)(hk:kindOf st=kd)(hf:failedOf st=none)(u:Un kz G (arrOf st))
  (hT:(arrOf st).toList=rs.flatten++S) (Pd:Pend kz ((pendingOf st).toList.map pr) rs 0) (hi:i+1<rs.length)
  (h:∀st' rs',kindOf st'=kd→failedOf st'=none→(arrOf st').toList=rs'.flatten++S→rs'.flatten.Perm rs.flatten→Pend kz ((pendingOf st').toList.map pr) rs' 0→rs'.length+1=rs.length→Q true st'):wpS M A E s (mergeAt' i) Q st:=by
 have hpl:(pendingOf st).size=rs.length:=by
  have:=Pd.len
  simpa using this
 obtain ⟨p1,q1,q2,p2,rs1,RA,RB,rs2,e1,e2,e3,e4,c1,c2,c3,c4,c5,c6,c7,c8,c9⟩:=Pd.split i (by simp;lia)
 obtain ⟨sa,na,pw⟩:=q1
 obtain ⟨sb,nb,pw2⟩:=q2
 dsimp only at c1 c2 c3 c4 c9
 rw [cE] at c1 c3
 have g1:(pendingOf st)[i]?=some (sa,na,pw):=by
  rw [←aD,e1,aA (by lia),e3,gk]
  rfl
 have g2:(pendingOf st)[i+1]?=some (sb,nb,pw2):=by
  rw [←aD,e1,aA (by lia),e3,cK]
  rfl
 have g3:∀v,(((pendingOf st).setIfInBounds i v).eraseIdxIfInBounds (i+1)).toList=p1++v::p2:=λv=>by
  rw [Array.toList_eraseIdxIfInBounds,Array.toList_setIfInBounds,e1]
  rw [List.set_append_right _ _ (by lia),e3,gk,List.set_cons_zero,List.eraseIdx_append_of_length_le (by lia),e3,cK]
  rfl
 have hT2:(arrOf st).toList=rs1.flatten++(RA++(RB++(rs2.flatten++S))):=by
  rw [hT,e2]
  simp
 have hT3:(arrOf st).toList=(rs1.flatten++RA)++(RB++(rs2.flatten++S)):=by
  rw [hT2]
  simp
 have ne:∀x∈RA,∀y∈RB,kz x≠kz y:=by
  have:=u.ne
  rw [hT2] at this
  have:=(bh.mp this).2.1
  have:=(bh.mp this).2.2
  exact λx hx y hy=>this x hx y (bW _ hy)
 have gA:∀x∈RA,G x:=λx hx=>u.g x (by rw [hT2];simp [hx])
 have gB:∀x∈RB,G x:=λx hx=>u.g x (by rw [hT2];simp [hx])
 unfold mergeAt'
 walk_at "tim at"
 refine aw (fP ?_)
 rw [g1,g2]
 dsimp only
 refine aw (m:=set _) (show wpS M A E s (set _) _ st from ?_)
 refine fu (f:=λ_=>SortSt.mk' (kindOf st) (arrOf st) (((pendingOf st).setIfInBounds i (sa,na+nb,pw)).eraseIdxIfInBounds (i+1)) (gallopOf st) (failedOf st)) ?_
 have F:∀(st':Af) (RN:List Ai),kindOf st'=kd→failedOf st'=none→(arrOf st').toList=rs1.flatten++(RN++(rs2.flatten++S))→(pendingOf st').toList=p1++(sa,na+nb,pw)::p2→RN.Perm (RA++RB)→SL kz RN→Q true st':=λst' RN k1 k2 k3 k4 k5 k6=>by
  refine h st' (rs1++RN::rs2) k1 k2 (by rw [k3];simp) ?_ ?_ (by rw [e2];simp only [am,aQ];lia)
  ·rw [e2]
   simp only [List.flatten_append,dk]
   refine cT _ ?_
   rw [←aX]
   exact cR _ k5
  ·rw [k4]
   refine c9 RN _ rfl ?_ (by rw [k5.length_eq,am]) k6
   dsimp only
   rw [k5.length_eq,am,c2,c4]
 generalize hst1:SortSt.mk' (kindOf st) (arrOf st) (((pendingOf st).setIfInBounds i (sa,na+nb,pw)).eraseIdxIfInBounds (i+1)) (gallopOf st) (failedOf st)=st1
 have d1:kindOf st1=kd:=by rw [←hst1];exact hk
 have d2:failedOf st1=none:=by rw [←hst1];exact hf
 have d3:arrOf st1=arrOf st:=by rw [←hst1]
 have d4:(pendingOf st1).toList=p1++(sa,na+nb,pw)::p2:=by rw [←hst1];exact g3 _
 clear hst1
 obtain ⟨y0,RB',rfl⟩:∃y0 RB',RB=y0::RB':=by
  cases RB with
  |nil=>simp at c6
  |cons a b=>exact ⟨a,b,rfl⟩
 have ey:(arrOf st)[sb]?=some y0:=by
  have:=Wf hT3 (i:=0) (by simp)
  rw [Nat.add_zero,am] at this
  rw [c3,this]
  rfl
 have m0:y0∈y0::RB':=.head _
 refine aw (w8 ey ?_)
 refine aw (wxf O d1 (gB y0 m0) hT2 c1 c2 c7 gA (by lia) λk k1 k2 k3=>?_)
 dsimp only
 have lowY:∀y∈y0::RB',kz y0≤kz y:=λy hy=>by
  rcases aM.mp hy with rfl|z
  ·exact c0 _
  ·exact fF ((List.pairwise_cons.mp c8).1 y z)
 by_cases z1:(na-k==0)=true
 ·rw [av z1]
  have e:na-k=0:=by simpa using z1
  refine ay (F st1 (RA++y0::RB') d1 d2 (by rw [d3,hT2];simp) d4 (.refl _) (c7.app c8 λx hx y hy=>?_))
  have:=ah_f (k2 x (by rw [cQ (by lia)];exact hx))
  have:=lowY y hy
  have:=ne x hx y0 m0
  lia
 rw [ao z1]
 have z1':k<na:=by
  have:¬ na-k=0:=by simpa using z1
  lia
 have hx9:RA.length-1<RA.length:=by lia
 have ex:(arrOf st)[sa+k+(na-k)-1]?=some RA[RA.length-1]:=by
  have:=Wf hT2 (i:=RA.length-1) hx9
  rw [ae hx9] at this
  rw [←this]
  congr 1
  lia
 have mx:RA[RA.length-1]∈RA:=bu _
 have lastA:∀x∈RA,kz x≤kz RA[RA.length-1]:=λx hx=>by
  obtain ⟨j,hj⟩:=bL hx
  have hj2:j<RA.length:=(ak.mp hj).1
  exact c7.le (show j≤RA.length-1 by lia) hj (ae hx9)
 refine aw (w8 ex ?_)
 refine aw (wxf O d1 (gA _ mx) hT3 (by rw [c3,am]) c4 c8 gB (by lia) λn n1 n2 n3=>?_)
 dsimp only
 by_cases z2:(n==0)=true
 ·rw [av z2]
  have e:n=0:=by simpa using z2
  subst e
  refine ay (F st1 (RA++y0::RB') d1 d2 (by rw [d3,hT2];simp) d4 (.refl _) (c7.app c8 λx hx y hy=>?_))
  have:=Wz (n3 y (by simpa using hy))
  have:=lastA x hx
  have:=ne x hx y hy
  lia
 rw [ao z2]
 have z2':1≤n:=by
  have:¬ n=0:=by simpa using z2
  lia
 generalize hRB:y0::RB'=RB at *
 have tA:RA=RA.take k++RA.drop k:=(cS k RA).symm
 have tB:RB=RB.take n++RB.drop n:=(cS n RB).symm
 have hT4:(arrOf st).toList=(rs1.flatten++RA.take k)++(RA.drop k++(RB++(rs2.flatten++S))):=by
  rw [hT2]
  have e:RA++(RB++(rs2.flatten++S))=(RA.take k++RA.drop k)++(RB++(rs2.flatten++S)):=by rw [←tA]
  rw [e]
  simp only [aX]
 have hT5:(arrOf st).toList=(rs1.flatten++RA)++(RB.take n++(RB.drop n++(rs2.flatten++S))):=by
  rw [hT3]
  have e:RB++(rs2.flatten++S)=(RB.take n++RB.drop n)++(rs2.flatten++S):=by rw [←tB]
  rw [e]
  simp only [aX]
 have hT6:(arrOf st).toList=(rs1.flatten++RA.take k)++((RA.drop k++RB.take n)++(RB.drop n++(rs2.flatten++S))):=by
  rw [hT4]
  have e:RB++(rs2.flatten++S)=(RB.take n++RB.drop n)++(rs2.flatten++S):=by rw [←tB]
  rw [e]
  simp only [aX]
 have xx:((arrOf st).extract (sa+k) sb).toList=RA.drop k:=wx5 hT4 (by simp only [am,ba,bS];lia) (by simp only [am,ba,bS];lia)
 have yy:((arrOf st).extract sb (sb+n)).toList=RB.take n:=wx5 hT5 (by simp only [am,ba,bS];lia) (by simp only [am,ba,bS];lia)
 have sA:SL kz (RA.take k++RA.drop k):=by rw [←tA];exact c7
 have sB:SL kz (RB.take n++RB.drop n):=by rw [←tB];exact c8
 obtain ⟨a1,a2,a3⟩:=sA.parts
 obtain ⟨b1,b2,b3⟩:=sB.parts
 have mg:Mg kz G ((arrOf st).extract (sa+k) sb) ((arrOf st).extract sb (sb+n)):=by
  refine ⟨by rw [xx];exact a2,by rw [yy];exact b1,?_,?_,?_⟩
  ·rw [xx,yy]
   exact λx hx y hy=>ne x (cJ hx) y (da hy)
  ·rw [xx]
   exact λx hx=>gA x (cJ hx)
  ·rw [yy]
   exact λx hx=>gB x (da hx)
 have xz:((arrOf st).extract (sa+k) sb).size=RA.length-k:=by rw [←aS,xx,bS]
 have yz:((arrOf st).extract sb (sb+n)).size=n:=by rw [←aS,yy,ba];lia
 have h0:∀y,((arrOf st).extract sb (sb+n))[0]?=some y→∀x∈((arrOf st).extract (sa+k) sb).toList,kz y<kz x:=λy ey x hx=>by
  rw [←aD,yy,←hRB] at ey
  rw [xx] at hx
  obtain ⟨n',rfl⟩:∃n',n=n'+1:=⟨n-1,by lia⟩
  rw [List.take_succ_cons] at ey
  cases ey
  exact wj2 (k3 x hx)
 have hl:∀x,((arrOf st).extract (sa+k) sb)[((arrOf st).extract (sa+k) sb).size-1]?=some x→∀y∈((arrOf st).extract sb (sb+n)).toList,kz y<kz x:=λx ex y hy=>by
  rw [←aD,xx,xz,cW,show k+(RA.length-k-1)=RA.length-1 by lia,ae hx9] at ex
  cases ex
  rw [yy] at hy
  exact ah_t (n2 y hy)
 have fin:∀(r:Array Ai) (st2:Af),SameSt st1 st2→Yw kz ((arrOf st).extract (sa+k) sb) ((arrOf st).extract sb (sb+n)) r→wpS M A E s (do
   modify λs=>setArr s (List.foldl (λa (x:Ai×Nat)=>a.setIfInBounds (sa+k+x.2) x.1) (arrOf s) r.toList.zipIdx)
   let s ←get
   pure (failedOf s).isNone) Q st2:=λr st2 S2 ⟨r1,r2⟩=>by
  rw [xx,yy] at r2
  have hT7:(arrOf st2).toList=(rs1.flatten++RA.take k)++((RA.drop k++RB.take n)++(RB.drop n++(rs2.flatten++S))):=by rw [S2.2.1,d3];exact hT6
  have wr:=xq6 (g:=λa (x:Ai×Nat)=>a.setIfInBounds (sa+k+x.2) x.1) (λ_ _ _=>rfl) (l:=r.toList) hT7 (by simp only [am,ba,bS];lia) r2.length_eq
  refine aw (fu ?_)
  refine aw (fP (ay ?_))
  have f9:failedOf (setArr st2 (List.foldl (λa (x:Ai×Nat)=>a.setIfInBounds (sa+k+x.2) x.1) (arrOf st2) r.toList.zipIdx))=none:=S2.2.2.2.trans d2
  rw [f9]
  refine F _ (RA.take k++(r.toList++RB.drop n)) (S2.1.trans d1) f9 ?_ (by show (pendingOf st2).toList=_;rw [S2.2.2.1,d4]) ?_ ?_
  ·show (List.foldl _ (arrOf st2) r.toList.zipIdx).toList=_
   rw [wr]
   simp
  ·conv=>rhs;rw [tA,tB]
   rw [aX]
   refine cT _ ?_
   rw [←aX]
   exact cR _ r2
  ·refine a1.app (r1.app b2 λx hx y hy=>?_) λx hx y hy=>?_
   ·rcases aU.mp (r2.mem_iff.mp hx) with hx|hx
    ·have:=Wz (n3 y hy)
     have:=lastA x (cJ hx)
     have:=ne x (cJ hx) y (cJ hy)
     lia
    ·exact b3 x hx y hy
   ·have low:∀y∈RB,kz x<kz y:=λy hy=>by
     have:=ah_f (k2 x hx)
     have:=lowY y hy
     have:=ne x (da hx) y0 (by rw [←hRB];exact .head _)
     lia
    rcases aU.mp hy with hy|hy
    ·rcases aU.mp (r2.mem_iff.mp hy) with hy|hy
     ·exact a3 x hx y hy
     ·exact low y (da hy)
    ·exact low y (cJ hy)
 have x1z:1≤((arrOf st).extract (sa+k) sb).size:=by rw [xz];lia
 have y1z:1≤((arrOf st).extract sb (sb+n)).size:=by rw [yz];lia
 by_cases z3:na-k≤n
 ·rw [av z3]
  refine aw (qjk O d1 mg x1z y1z (λx y ex ey=>?_) hl λr st2 S2 Fn=>fin r st2 S2 Fn)
  rw [←aD] at ex
  exact h0 y ey x (aC ex)
 ·rw [ao z3]
  exact aw (qk6 O d1 mg x1z y1z h0 hl λr st2 S2 Fn=>fin r st2 S2 Fn)
end
end Tm
namespace Tm
open PySem PyProof.Rows
section
variable {M:Model}{A:Ae}{E:Ag→Ab→Prop}{s:Ab}{G:Ai→Prop}{kz:Ai→Int}{kd:SortKind}
structure Wt (kz:Ai→Int)(kd:SortKind)(a₀:Array Ai)(st:Af)(rs:List (List Ai))(S:List Ai):Prop where
 k:kindOf st=kd
 f:failedOf st=none
 a:(arrOf st).Perm a₀
 t:(arrOf st).toList=rs.flatten++S
 p:Pend kz ((pendingOf st).toList.map pr) rs 0
theorem Wt.size {a₀:Array Ai}{st:Af}{rs:List (List Ai)}{S:List Ai}(w:Wt kz kd a₀ st rs S):rs.flatten.length+S.length=a₀.size:=by
 rw [←w.a.size_eq,←aS,w.t,am]
theorem Wt.pl {a₀:Array Ai}{st:Af}{rs:List (List Ai)}{S:List Ai}(w:Wt kz kd a₀ st rs S):(pendingOf st).size=rs.length:=by
 have:=w.p.len
 simpa using this
theorem Wt.ip {a₀:Array Ai}{st st':Af}{rs:List (List Ai)}{S:List Ai}{lo:Nat}(w:Wt kz kd a₀ st rs S)(hlo:lo=rs.flatten.length)(i:Ip lo st st'):∃S',Wt kz kd a₀ st' rs S'∧S'.length=S.length:=by
 subst hlo
 have e:(arrOf st').toList=rs.flatten++(arrOf st').toList.drop rs.flatten.length:=by
  conv=>lhs;rw [←cS rs.flatten.length (arrOf st').toList]
  congr 1
  refine bM λj=>?_
  rw [dE]
  split
  ·rename_i h
   rw [aD,i.low j h,←aD,w.t,aP h]
  ·rename_i h
   rw [aK (by lia)]
 refine ⟨_,⟨i.k.trans w.k,i.f.trans w.f,i.a.trans w.a,e,by rw [i.p];exact w.p⟩,?_⟩
 have z:=i.a.size_eq
 have h1:=cz List.length w.t
 rw [am,aS] at h1
 rw [bS,aS]
 lia
theorem wj5 {xs:Array Ai}{P S:List Ai}{n:Nat}(h:xs.toList=P++S)(sr:Srt kz xs P.length (P.length+n))(hn:n≤S.length):SL kz (S.take n):=by
 refine bb.mpr λi j hi hj hij=>?_
 have hi':=hi
 have hj':=hj
 rw [ba] at hi' hj'
 refine sr (P.length+i) (P.length+j) _ _ (by lia) (by lia) (by lia) ?_ ?_
 ·rw [←aD,h,aA (by lia),cK,List.getElem_take,ae]
 ·rw [←aD,h,aA (by lia),cK,List.getElem_take,ae]
theorem Wt.push {a₀:Array Ai}{st:Af}{rs:List (List Ai)}{S:List Ai}{lo n:Nat}(w:Wt kz kd a₀ st rs S)(hlo:lo=rs.flatten.length)(h1:1≤n)(hn:n≤S.length)(sl:SL kz (S.take n)):Wt kz kd a₀ (setPending st ((pendingOf st).push (lo,n,0))) (rs++[S.take n]) (S.drop n):=by
 have el:(S.take n).length=n:=by rw [ba];lia
 refine ⟨w.k,w.f,w.a,?_,?_⟩
 ·show (arrOf st).toList=_
  rw [w.t]
  simp
 ·show Pend kz (((pendingOf st).push (lo,n,0)).toList.map pr) _ 0
  rw [di,be]
  exact w.p.push (by rw [cE];exact hlo) el.symm (by lia) sl
theorem Wt.pow {a₀:Array Ai}{st:Af}{rs:List (List Ai)}{S:List Ai}{i pw:Nat}(w:Wt kz kd a₀ st rs S):Wt kz kd a₀ (setPending st ((pendingOf st).modify i λx=>(x.1,x.2.1,pw))) rs S:=by
 refine ⟨w.k,w.f,w.a,w.t,?_⟩
 show Pend kz (((pendingOf st).modify i λx=>(x.1,x.2.1,pw)).toList.map pr) rs 0
 have e:((pendingOf st).modify i λx=>(x.1,x.2.1,pw)).toList.map pr=(pendingOf st).toList.map pr:=by
  refine bM λj=>?_
  rw [ax,ax,aD,aD,Array.getElem?_modify]
  split
  ·cases (pendingOf st)[j]? <;> rfl
  ·rfl
 rw [e]
 exact w.p
theorem Zt {a₀:Array Ai}{st:Af}{Q:Unit→Af→Prop}(O:yq M A E s G kz kd)(u:Un kz G a₀)(hk:kindOf st=kd)(hf:failedOf st=none)(ha:arrOf st=a₀)(hp:pendingOf st=#[])
  (h:∀st',(arrOf st').Perm a₀→failedOf st'=none→SL kz (arrOf st').toList→Q () st'):wpS M A E s sortRuns' Q st:=by
 rw [sortRuns'_eq]
 dsimp only
 refine aw (fP ?_)
 rw [ha]
 have w0:Wt kz kd a₀ st [] a₀.toList:=⟨hk,hf,by rw [ha],by rw [ha];rfl,by rw [hp];trivial⟩
 have mrg:∀(st1:Af) (rs:List (List Ai)) (S:List Ai) (i:Nat) (R:Bool→Af→Prop),Wt kz kd a₀ st1 rs S→i+1<rs.length→(∀st' rs',Wt kz kd a₀ st' rs' S→rs'.flatten.length=rs.flatten.length→rs'.length+1=rs.length→R true st')→wpS M A E s (mergeAt' i) R st1:=λst1 rs S i R w hi hR =>
  qy4 O w.k w.f (u.perm w.a) w.t w.p hi λst' rs' k1 k2 k3 k4 k5 k6=>hR st' rs' ⟨k1,k2,by
   refine Array.Perm.trans (dF.mpr ?_) w.a
   rw [k3,w.t]
   exact cR _ k4,k3,k5⟩ k4.length_eq k6
 generalize minRun' a₀.size a₀.size 0=mr
 have lp:∀(st1:Af) (rs:List (List Ai)) (S:List Ai) (z pw:Nat) (R:Option Unit×Unit→Af→Prop),Wt kz kd a₀ st1 rs S→(∀st' rs',Wt kz kd a₀ st' rs' S→rs'.flatten.length=rs.flatten.length→R (none,()) st') →
   ∀f:Nat→Option Unit×Unit→StateT Af Sem (ForInStep (Option Unit×Unit)),(∀i st2 rs2 (R2:ForInStep (Option Unit×Unit)→Af→Prop),Wt kz kd a₀ st2 rs2 S→R2 (.done (none,())) st2→(∀st' rs',Wt kz kd a₀ st' rs' S→rs'.flatten.length=rs2.flatten.length→R2 (.yield (none,())) st')→wpS M A E s (f i (none,())) R2 st2)→wpS M A E s (forIn [:z] ((none,()):Option Unit×Unit) f) R st1:=λst1 rs S z pw R w hR f hf =>
  bY (I:=λi c st'=>c=(none,())∧∃rs',Wt kz kd a₀ st' rs' S∧rs'.flatten.length=rs.flatten.length) (λi c st' _ _ ⟨e,rs',w',l'⟩=>by
   subst e
   exact hf i st' rs' _ w' (hR st' rs' w' l') λst3 rs3 w3 l3=>⟨rfl,rs3,w3,l3.trans l'⟩) (λc st' ⟨e,rs',w',l'⟩=>by
   subst e
   exact hR st' rs' w' l') ⟨rfl,rs,w,rfl⟩
 have tail:∀(st1:Af) (rs:List (List Ai)) (S:List Ai) (lo n x:Nat),Wt kz kd a₀ st1 rs S→lo=rs.flatten.length→1≤n→n≤S.length→SL kz (S.take n)→x≤lo→(∃rs' S',Wt kz kd a₀ (setPending st1 ((pendingOf st1).push (lo,n,0))) rs' S'∧lo+n=rs'.flatten.length∧x+1≤lo+n):=λst1 rs S lo n x w hlo h1 hn sl hx =>
  ⟨_,_,w.push hlo h1 hn sl,by simp only [List.flatten_append,dk,List.flatten_nil,bQ,am,ba];lia,by lia⟩
 refine aw (eC (bY (I:=λx (c:Option Unit×Nat) st'=>c.1=none∧∃rs S,Wt kz kd a₀ st' rs S∧c.2=rs.flatten.length∧x≤c.2) (Q:=λc st'=>c.1=none∧∃rs,Wt kz kd a₀ st' rs []) ?step ?fin ⟨rfl,[],a₀.toList,w0,rfl,aj _⟩) ?post)
 case fin =>
  rintro ⟨r,lo⟩ st' ⟨hr,rs,S,w,e,hx⟩
  dsimp only at e hx hr
  have z:=w.size
  have:S=[]:=dY (by lia)
  subst this
  exact ⟨hr,rs,w⟩
 case step =>
  rintro x ⟨r,lo⟩ st1 _ hx ⟨hr,rs,S,w,e,hx2⟩
  dsimp only at e hx2 hr ⊢
  subst hr
  have z:=w.size
  by_cases c:lo≥a₀.size
  ·rw [av c]
   have:S=[]:=dY (by lia)
   subst this
   exact ay ⟨rfl,rs,w⟩
  rw [ao c]
  refine aw (wvz O w.k (u.perm w.a) (by lia) (by rw [w.a.size_eq];lia) λn st2 n1 n2 ip sr=>?_)
  obtain ⟨S2,w2,z2⟩:=w.ip e ip
  have sl2:SL kz (S2.take n):=wj5 w2.t (by rw [←e];exact sr) (by lia)
  have nS:n≤S2.length:=by lia
  dsimp only
  by_cases c2:n<mr
  case' pos =>
   rw [av c2]
   refine aw (gI (dt ⟨rfl,?_⟩))
   refine aw (xqr O w2.k (u.perm w2.a) n1 (show n≤min (a₀.size-lo) mr by lia) (by rw [w2.a.size_eq];lia) sr λst3 ip3 sr3=>?_)
   obtain ⟨S3,w3,z3⟩:=w2.ip e ip3
   have sl3:SL kz (S3.take (min (a₀.size-lo) mr)):=wj5 w3.t (by rw [←e];exact sr3) (by lia)
   have nS3:min (a₀.size-lo) mr≤S3.length:=by lia
   have n3:1≤min (a₀.size-lo) mr:=by lia
   rw [ao (by decide)]
   generalize min (a₀.size-lo) mr=m at sl3 nS3 n3 ⊢
   clear sl2 nS sr n2 c2 n1 sr3 ip3
  case' neg =>
   rw [ao c2]
   obtain ⟨st3,rfl⟩:∃st3,st3=st2:=⟨_,rfl⟩
   obtain ⟨m,rfl⟩:∃m,m=n:=⟨_,rfl⟩
   obtain ⟨S3,rfl⟩:∃S3,S3=S2:=⟨_,rfl⟩
   have w3:=w2
   have sl3:=sl2
   have nS3:=nS
   have n3:=n1
  all_goals
   refine aw (fP ?_)
   split
   ·refine aw (lp st3 rs S3 a₀.size 0 _ w3 (λst4 rs4 w4 l4=>?_) _ λi st4 rs4 R2 w4 h1 h2=>?_)
    ·dsimp only
     refine aw (fu ?_)
     refine aw (fu (ay ?_))
     exact ⟨rfl,tail _ rs4 S3 lo m x w4.pow (by lia) n3 nS3 sl3 hx2⟩
    ·try dsimp only
     refine aw (fP ?_)
     split
     ·split
      ·exact ay h1
      ·rename_i hsz _
       have hs:(pendingOf st4).size>1:=by
        rcases bn 1 (pendingOf st4).size with q|q
        ·exact q
        ·rw [ao (by lia)] at hsz
         cases hsz
       have pl4:=w4.pl
       refine aw (mrg st4 rs4 S3 _ _ w4 (by lia) λst5 rs5 w5 l5 _=>?_)
       rw [ao (by decide)]
       exact ay (h2 st5 rs5 w5 l5)
     ·exact ay h1
   ·refine aw (fu (ay ?_))
    obtain ⟨rs',S',w6,l6,x6⟩:=tail st3 rs S3 lo m x w3 e n3 nS3 sl3 hx2
    exact ⟨rfl,rs',S',w6,l6,x6⟩
 case post =>
  rintro ⟨r,lo⟩ st1 ⟨hr,rs,w⟩
  dsimp only at hr ⊢
  subst hr
  dsimp only
  have z:=w.size
  have zz:=w.p.size
  refine aw (eC (bY (I:=λx (c:Option Unit×Unit) st'=>c=(none,())∧∃rs,Wt kz kd a₀ st' rs []∧(rs.length≤1∨rs.length+x≤a₀.size)) (Q:=λc st'=>c=(none,())∧∃rs,Wt kz kd a₀ st' rs []∧rs.length≤1) ?step2 ?fin2 ⟨rfl,rs,w,.inr (by rw [eB] at z;lia)⟩) ?post2)
  case fin2 =>
   rintro c st' ⟨rfl,rs,w,hor⟩
   exact ⟨rfl,rs,w,by lia⟩
  case step2 =>
   rintro x c st' _ hx ⟨rfl,rs,w,hor⟩
   try dsimp only
   have pl:=w.pl
   refine aw (fP ?_)
   by_cases c:(pendingOf st').size≤1
   ·rw [av c]
    exact ay ⟨rfl,rs,w,by lia⟩
   rw [ao c]
   refine aw (mrg st' rs [] _ _ w ?_ λst5 rs5 w5 l5 z5=>?_)
   ·have c':2≤rs.length:=by lia
    rw [pl]
    by_cases c2:rs.length-2>0
    ·rw [av c2]
     split <;> lia
    ·rw [ao c2]
     show (if (false=true) then _ else _)+1<_
     rw [ao aE]
     lia
   ·rw [ao (by decide)]
    exact ay ⟨rfl,rs5,w5,.inr (by lia)⟩
  case post2 =>
   rintro c st' ⟨rfl,rs,w,hl⟩
   dsimp only
   refine ay (h st' w.a w.f ?_)
   rw [w.t,bQ]
   match rs,hl,w.p with
   |[],_,_=>exact List.Pairwise.nil
   |[r],_,p =>
    simp only [dk,List.flatten_nil,bQ]
    cases hp9:(pendingOf st').toList.map pr with
    |nil=>rw [hp9] at p;exact p.elim
    |cons a b=>rw [hp9] at p;exact p.2.2.2.1
end
end Tm
namespace L2
open PySem PySem.Spec PyProof.Rows PySem.W
def RawD (h:Heap)(d:Aj)(es:Array DictEntry)(ep:Nat):Prop:=∃o,h.get? d=some o∧o.ExactDict∧o.data=.dict es ep
section
variable {prog:Ac}{w:Ah}{A:Ae}{E:Ag→Ab→Prop}{s:Ab}{d:Aj}{es:Array DictEntry}{ep:Nat}
theorem RawD.ty {s:Ab}(x:RawD s.heap d es ep):s.TypeIs (.ref d) "dict" := let ⟨o,ho,hc,_⟩:=x;⟨o,ho,hc.1⟩
theorem RawD.lt {h:Heap}(x:RawD h d es ep):d<h.objs.size:=let ⟨_,ho,_⟩:=x;al ho
theorem RawD.at {h h':Heap}(x:RawD h d es ep)(k:∀o,h.get? d=some o→h'.get? d=some o):RawD h' d es ep:=let ⟨o,ho,r⟩:=x;⟨o,k o ho,r⟩
theorem wu0 {Q:Ag→Ab→Prop}(hd:(d==sysModules)=false)(hm:RawD s.heap d es ep)
  (hQ:Q (.ref s.heap.objs.size) { s with heap:=s.heap.push { cls:=.type "dict_keyiterator",data:=.fields #[.ref d,.int 0 0,.int es.size 0,.int ep 0] } }):wpAny (model prog w) A (pyIter (.ref d)) Q E s:=by
 obtain ⟨o,ho,hc,hdat⟩:=id hm
 (refine gY hm.ty F.slot_dict_iter (cI F.slot_dict_iter hm.ty F.entry_dict_iter ?_ (F.args_dict_iter_1 _)) ;unfold Builtin.«dict.__iter__» ;refine aa ?_ ;unfold Builtin.Dict.dictSlotNone ;refine aa (wpAny_notOrdered_dict hm.ty ?_))
 (show wpAny _ _ (pure (Value.ref d)) _ _ s ;refine ah ?_ ;show wpAny _ _ (Builtin.Dict.showsAll d >>= _) _ _ s ;unfold Builtin.Dict.showsAll ;rw [ao (by rw [hd];exact aE)])
 (refine aa (ah ?_) ;refine aa (fI ho hdat ?_) ;refine aa (iG ho hdat ?_))
 refine aa (bU (ah ⟨_,rfl,"dict_keyiterator",_,⟨_,az _ rfl,rfl⟩,cG.lookup,?_⟩)) ;simpa [rawInt] using hQ
theorem wjm {it:Aj}{i:Nat}{e:DictEntry}{Q:Option Ag→Ab→Prop}(hit:s.heap.IsKeyIter it d i es.size ep)(hm:RawD s.heap d es ep)(hx:es[i]?=some e)
  (hQ:∀h',h'.IsKeyIter it d (i+1) es.size ep→Heap.SameBut it s.heap h'→Q (some e.key) { s with heap:=h' }):wpAny (model prog w) A (pyNext (.ref it)) Q E s:=by
 obtain ⟨o,ho,hc,hd⟩:=id hit ;obtain ⟨od,hod,hcd,hdd⟩:=id hm
 (unfold pyNext ;refine aa (eF (dj (name:=Str.ofString "__next__") hit.typeIs cG (cI cG hit.typeIs fU ?_ (fN _)))) ;refine aa (ah ?_) ;refine aa ?_ ;refine aa ?_)
 ((first | refine aa (dc hit.typeIs (ah ?_)) | refine aa (dN hit.typeIs (ah ?_))) ;refine aa (gH ho hd ?_) ;simp only [show Builtin.Dict_items.ownsTuple "dict_keyiterator" = false by decide,aG,bE] ;show wpAny _ _ (if (Value.ref d==Value.none)=true then _ else _) _ _ s ;rw [ao (show ¬ ((Value.ref d==Value.none)=true) from aE)] ;refine aa (ah ?_) ;refine aa (fI hod hdd ?_) ;rw [ao (by simp)] ;refine aa (ah ?_) ;refine aa (iG hod hdd ?_) ;rw [ao (by simp)] ;refine ah ?_)
 have hlt:i<es.size:=(bi.mp hx).1 ;have he:es[i]=e:=(bi.mp hx).2
 (simp only [show ¬ ((i:Int)<0) from by lia,bE,bG,aY hlt] ;refine aa ?_ ;(first | refine aa (dc hit.typeIs (ah ?_)) | refine aa (dN hit.typeIs (ah ?_))) ;refine aa (wpAny_isOneOf_keyiter hit.typeIs ?_) ;show wpAny _ _ (setField (.ref it) 1 (rawInt ((i:Int)+1)) >>= _) _ _ s ;refine aa (dU ho hd (by simp) ?_))
 have hit':(s.heap.update it (Obj.mapFields (·.setIfInBounds 1 (rawInt ((i:Int)+1))))).IsKeyIter it d (i+1) es.size ep:=⟨_,cA _ ho (eI (cH hd _)),(gX ..).trans hc,by rw [cH hd];simp [rawInt]⟩
 (refine aa (b7 ?_) ;refine aa (wpAny_isOneOf_keyiter (s:={ s with heap:=s.heap.update it (Obj.mapFields (·.setIfInBounds 1 (rawInt ((i:Int)+1)))) }) hit'.typeIs ?_) ;show wpAny _ _ (pure es[i].key) _ _ _ ;rw [he])
 exact ah (ah ⟨_,rfl,ah (hQ _ hit' (ca ..))⟩)
theorem xqg {it:Aj}{i:Nat}{Q:Option Ag→Ab→Prop}(hh:A.handled=none)(hit:s.heap.IsKeyIter it d i es.size ep)(hm:RawD s.heap d es ep)(hx:es.size≤i)(hQ:∀h',Heap.ExtBut it s.heap h'→Q none { s with heap:=h' }):wpAny (model prog w) A (pyNext (.ref it)) Q E s:=by
 obtain ⟨o,ho,hc,hd⟩:=id hit ;obtain ⟨od,hod,hcd,hdd⟩:=id hm
 (unfold pyNext ;refine aa (eF (dj (name:=Str.ofString "__next__") hit.typeIs cG (cI cG hit.typeIs fU ?_ (fN _)))) ;refine aa (ah ?_) ;refine aa ?_ ;refine aa ?_)
 ((first | refine aa (dc hit.typeIs (ah ?_)) | refine aa (dN hit.typeIs (ah ?_))) ;refine aa (gH ho hd ?_) ;simp only [show Builtin.Dict_items.ownsTuple "dict_keyiterator" = false by decide,aG,bE] ;show wpAny _ _ (if (Value.ref d==Value.none)=true then _ else _) _ _ s ;rw [ao (show ¬ ((Value.ref d==Value.none)=true) from aE)] ;refine aa (ah ?_) ;refine aa (fI hod hdd ?_) ;rw [ao (by simp)] ;refine aa (ah ?_) ;refine aa (iG hod hdd ?_) ;rw [ao (by simp)] ;refine ah ?_)
 (simp only [show ¬ ((i:Int)<0) from by lia,bE,bG,dB hx] ;refine aa ?_ ;(first | refine aa (dc hit.typeIs (ah ?_)) | refine aa (dN hit.typeIs (ah ?_))) ;show wpAny _ _ (setField (.ref it) 0 .none >>= _) _ _ s ;refine aa (dU ho hd (by simp) ?_) ;show wpAny _ _ (newExc (.type "StopIteration") [] >>= _) _ _ _ ;refine aa ?_ ;simp only [newExc,newTuple])
 (refine aa (bU ?_ (by size_fits)) ;refine aa (m:=firstArgMember _ _) (wpAny_of_eq (a:=Value.none) (by first | rfl | (simp only [firstArgMember];rfl)) ?_) ;refine bU ?_ (by size_fits) ;simp only [raiseNew] ;refine aa (wpAny_handled ?_) ;rw [show A.in1.handled=none from hh] ;refine aa (ah (wpAny_throw ?_)))
 refine aa (io (T := "StopIteration") (b:=true) ⟨_,az _ rfl,rfl⟩ isSubtype_stop (ah (hQ _ (((ca ..).extBut.push _).push _))))
theorem wz4 (hh:A.handled=none)(I:Aj)(hne:d≠I):Walks prog w A I [I,d] [I] es.size (λi v=>∃e,es[i]?=some e∧v=e.key) (λi h=>h.IsKeyIter I d i es.size ep∧RawD h d es ep) where
 sub:=λb hb=>by simp at hb;simp [hb]
 frame:=λ_ _ _ st hk=>⟨st.1.at λo e=>hk I (by simp) o e,st.2.at λo e=>hk d (by simp) o e⟩
 item:=λi s Q E hi st hQ=>wjm st.1 st.2 (aY hi) λh' it' sb=>hQ _ h' s.toks ⟨_,aY hi,rfl⟩ ⟨it',st.2.at λo e=>sb.extBut d o hne e⟩ λb o hb e=>sb.extBut b o (λh=>hb (by simp [h])) e
 done:=λs Q E st hQ=>xqg hh st.1 st.2 (aj _) λh' eb=>hQ h' s.toks λb o hb e=>eb b o (λh=>hb (by simp [h])) e
 self:=λ_ _ _ _ st hQ=>wpAny_pyIter_keyiter st.1 hQ
theorem xwq (lo:(d==sysModules)=false):KdlSrc prog w "dict" d d es.size (λi v=>∃e,es[i]?=some e∧v=e.key) (λh=>RawD h d es ep) where
 type:=λ_ hm=>hm.ty
 there:=λ_ hm=>⟨hm.lt,hm.lt⟩
 keep:=λ_ _ hm hk=>hm.at λo e=>hk d (.inl rfl) o e
 notList:=by decide
 notTuple:=by decide
 hint:=λ_ _ _ _ hm hq=>kdl_hint_dict hm.ty hq
 iter:=λ_ _ hh hm=>⟨_,_,(λ_ _ hq=>wu0 lo hm hq),wz4 hh _ (aB hm.lt),⟨⟨_,az _ rfl,rfl,rfl⟩,hm.at λo e=>ai _ e⟩⟩
theorem qx6 (hd:(d==sysModules)=false):MeetsIn prog w (Builtin.«dict.__len__» ⟨[.ref d],[]⟩) (λ_ R s=>∃es ep,RawD s.heap d es ep∧R (.ok (.ret (.int es.size s.toks))) { s with toks:=s.toks+1 }) :=
 .of_wp λA R s ⟨es,ep,hm,h⟩=>by
  obtain ⟨o,ho,hc,hdat⟩:=hm
  (show wpAny _ _ (dictSize d >>= _) _ _ s ;unfold dictSize ;refine aa (aa (fI ho hdat (ah ?_))) ;show wpAny _ _ (Builtin.Dict.pendingCount d >>= _) _ _ s ;refine aa (wpAny_pendingCount_other hd ?_) ;refine wpAny_ret_mkInt ?_ ;rw [Nat.add_zero] ;exact h)
theorem xq8 {Q:Ag→Ab→Prop}(hd:(d==sysModules)=false)(hm:RawD s.heap d es ep)(hfit:(es.size:Int)<2 ^ 63)(h:Q (.int es.size (s.toks+1)) { s with toks:=s.toks+1+1 }):wpAny (model prog w) A (call (.builtin "len") [.ref d]) Q E s:=by
 refine Calls.call_function_entry kind_len plain_len entry_len (args_len1 _) ?_ ;unfold Builtin.«len» ;refine aa (m:=oneArg "len" _) (ah ?_)
 refine aa (m:=callSpecial? (.ref d) (Str.ofString "__len__")) (dj (name:=Str.ofString "__len__") hm.ty F.slot_dict_len (call_meetsIn F.slot_dict_len hm.ty F.entry_dict_len (F.args_dict_len_1 _) (qx6 hd) ⟨es,ep,hm,?_⟩))
 (show wpAny _ _ _ _ _ { s with toks:=s.toks+1 } ;refine aa (b7 (ah ?_)) ;refine aa (fV ?_) ;show wpAny _ _ (if ((es.size:Nat):Int)<0 then _ else _) _ _ _ ;rw [ao (by lia)] ;show wpAny _ _ (if ((es.size:Nat):Int)≥2 ^ 63 then _ else _) _ _ _ ;rw [ao (by lia)])
 exact aa (wpAny_mkInt (ah ⟨_,rfl,h⟩))
end
section
variable {X:Cx}
theorem wj1 {P:Ac}{w:Ah}{H:Hp}{h:Heap}{a:Aj}{kvs:List (List Key×V)}(ok:HOk P w H h)(e:H a=some (.dT kvs)) :
  kvs.length≤sizeLine∧(a==sysModules)=false∧∃(xs:List (List Key×Aj×Ag)) (es:Array DictEntry) (ep:Nat),KT H kvs xs∧RawD h a es ep∧es.toList=xs.map (entryOfKey (tupleKind (zr P w))):=by
 obtain ⟨z,y,xs,r,o,es,ep,h1,h2,h3,h4,h5⟩:=(show ObjOk P w H h a (.dT kvs) from ok a _ e)
 exact ⟨z,y,xs,es,ep,r,⟨o,h1,h2,h3⟩,h4⟩
theorem qx9:jk X (.builtin "len") (λxs H Q=>∃a kvs,xs=[V.ref a]∧H a=some (.dT kvs)∧Q (.int kvs.length) H):=by
 intro pins s σ H xs us Q I r h
 obtain ⟨a,kvs,rfl,e,q⟩:=h
 obtain ⟨u,rfl,rx⟩:=jh r
 cases rx
 obtain ⟨z,hd,ys,es,ep,rel,raw,hes⟩:=wj1 I.hok e
 have hl:es.size=kvs.length:=by rw [←aS,hes,ag,bT rel]
 have hn:=qvm
 exact xq8 hd raw (by rw [hl];lia) ⟨.int kvs.length,H,I.tok _,⟨_,by rw [hl]⟩,q⟩
def wk3 (H:Hp)(kvs:List (List Key×V))(vs:List V):Prop:=Paired (λv (p:List Key×V)=>∃b,v=V.ref b∧H b=some (.tup (p.1.map kV))) vs kvs
theorem wqq (hc:X.calm=true):jk X (.type "list") (λxs H Q=>∃a kvs,xs=[V.ref a]∧H a=some (.dT kvs)∧∀p vs,H p=none→wk3 H kvs vs→Q (.ref p) (upd H p (.lst vs))):=by
 intro pins s σ H xs us Q I r h
 obtain ⟨a,kvs,rfl,e,q⟩:=h
 obtain ⟨u,rfl,rx⟩:=jh r
 cases rx
 obtain ⟨z,hd,ys,es,ep,rel,raw,hes⟩:=wj1 I.hok e
 have hl:es.size=kvs.length:=by rw [←aS,hes,ag,bT rel]
 refine kdl_call (xwq hd) (I.ok.hd hc) raw (by rw [hl];exact z) λh' tk acc' c' hk hD hacc=>?_
 have key:∀(l:List Ag) (kvs':List (List Key×V)) (ys':List (List Key×Aj×Ag)),KT H kvs' ys'→l.length=kvs'.length→(∀(j:Nat) v,l[j]?=some v→∃y,ys'[j]?=some y∧v=.ref y.2.1)→∃vs,Vals vs l∧wk3 H kvs' vs:=by
  intro l kvs' ys' rr
  induction rr generalizing l with
  |nil =>
   intro hl' _
   cases l with
   |nil=>exact ⟨[],.nil,.nil⟩
   |cons _ _=>simp at hl'
  |@cons p y ps yss hp t ih =>
   intro hl' hj
   cases l with
   |nil=>simp at hl'
   |cons v l =>
    obtain ⟨y',ey,rfl⟩:=hj 0 v rfl
    cases ey
    obtain ⟨vs,v1,v2⟩:=ih l (by simpa using hl') λj u hu=>by
     obtain ⟨y2,e2,e3⟩:=hj (j+1) u (by simpa using hu)
     exact ⟨y2,by simpa using e2,e3⟩
    exact ⟨.ref y.2.1::vs,.cons rfl v1,.cons ⟨_,rfl,hp.2.1⟩ v2⟩
 obtain ⟨vs,v1,v2⟩:=key acc'.toList kvs ys rel (by rw [aS,hacc.1,hl]) λj v ev=>by
  obtain ⟨en,e1,rfl⟩:=hacc.2 j v (by rw [←aD];exact ev)
  rw [←aD,hes,ax] at e1
  cases hy:ys[j]? with
  |none=>rw [hy] at e1;cases e1
  |some y =>
   rw [hy] at e1
   have e2:=aq e1
   exact ⟨y,rfl,by rw [←e2];rfl⟩
 have hv:vs.length≤sizeLine:=by rw [v1.length,aS,hacc.1,hl];exact z
 exact ⟨.ref _,_,I.laid (t':=tk) hk (aj _) (show ObjOk X.prog X.w _ h' _ (.lst vs) from ⟨hv,acc'.toList,c',v1,by simpa using hD⟩),rfl,q _ _ (I.hok.fresh (aj _)) v2⟩
end
end L2
namespace L2
open PySem PySem.Spec PyProof.Rows
theorem wky {M:Model}{A:Ae}{E:Ag→Ab→Prop}{s:Ab}{scope:Scope}{globals:Aj}{cl:List (Str×Aj)}{qual:Str}{func:Option Aj}{code:Ag}{outer:Env}{builtins:Aj}{x:Str}{Q:Env→Ab→Prop}(hk:scope.kind=.function)
  (hcf:cellsFrom (s.heap.objs.size+1) scope.names cl=(x,s.heap.objs.size+1)::cl) (hpc:pushCells (s.heap.push { cls:=.type "dict",data:=.dict #[] }) scope.names=(s.heap.push { cls:=.type "dict",data:=.dict #[] }).push { cls:=.type "cell",data:=.cell none })
  (hQ:Q (newEnv scope s.heap.objs.size globals ((x,s.heap.objs.size+1)::cl) qual func code (some outer) builtins) { s with heap:=(s.heap.push { cls:=.type "dict",data:=.dict #[] }).push { cls:=.type "cell",data:=.cell none } }) :
  wpAny M A (newFunctionEnv scope globals cl [] qual func code (some outer) builtins) Q E s:=by
 simp only [newFunctionEnv,Option.isSome_some,dz]
 refine aa (wpAny_alloc ?_)
 refine aa (wpAny_layCells _ (λname kind cells=>by cases hkc:kind==NameKind.cell <;> simp [hkc]) _ _ _ _ ?_)
 rw [show ({ s with heap:=s.heap.push { cls:=.type "dict",data:=.dict #[] } }:Ab).heap.objs.size=s.heap.objs.size+1 from cN ..,hcf,hpc]
 exact aa (ah (ah hQ))
def HasAllK (x:Str)(cl:List (Str×Aj)):List (Str×NameKind)→Prop
 |[]=>True
 |(n,k)::r=>(k=.free→∃c,cl.lookup n=some c)∧(k=.cell→n=x)∧HasAllK x cl r
theorem qjb {x y:Str}{c:Aj}{cl:List (Str×Aj)}(h:∃d,cl.lookup y=some d):∃d,((x,c)::cl).lookup y=some d:=by
 rw [bo]
 cases y==x with
 |true=>exact ⟨c,rfl⟩
 |false=>exact h
theorem HasAllK.has {x:Str}{c:Aj}{cl:List (Str×Aj)}{env:Env}:∀ {ns:List (Str×NameKind)},HasAllK x cl ns→∀ {y:Str} {q:NameKind},q=.cell∨q=.free →
  (ns.map λ(n,k)=>if (k==NameKind.free&&env.scope.kind==.function&&env.kindOf n==some .cell) then (n,NameKind.cell) else (n,k)).lookup y=some q→∃d,((x,c)::cl).lookup y=some d
 |[],_,_,_,_,e=>by cases e
 |(n,k)::r,h,y,q,hq,e=>by
  have ih:=HasAllK.has (c:=c) (env:=env) h.2.2 (y:=y) hq
  rw [aN] at e
  by_cases hc:(k==NameKind.free&&env.scope.kind==.function&&env.kindOf n==some .cell)=true
  ·have e':=e
   dsimp only at e'
   rw [av hc,bo] at e'
   cases hb:y==n with
   |true =>
    rw [cy,cy] at hc
    rw [eq_of_beq hb]
    exact qjb (h.1 (eq_of_beq hc.1.1))
   |false =>
    rw [hb] at e'
    exact ih e'
  ·have e':=e
   dsimp only at e'
   rw [ao hc,bo] at e'
   cases hb:y==n with
   |true =>
    rw [hb] at e'
    have ek:k=q:=aq e'
    rw [eq_of_beq hb]
    rcases hq with rfl|rfl
    ·rw [h.2.1 ek]
     exact ⟨c,by rw [bo,eR]⟩
    ·exact qjb (h.1 ek)
   |false =>
    rw [hb] at e'
    exact ih e'
abbrev j9 (X:Cx)(scope:Scope)(cl:List (Str×Aj))(x:Str)(c:Aj)(M:List Nat)(C:Aj)(s2:Ab)(H2:Hp)(fp:List Aj)(pn:List (Aj×Obj)):Cx :=
 { X with N:=j6 X x M,s₀:=s2,H₀:=H2,env:=compEnvC scope ((x,c)::cl) C X.env,outer:=X.stack,ex:=fp,fn:=λy=>y==x,pn:=pn,xe:=λ_ _=>False }
section
variable {X:Cx}{pins:List (Aj×Obj)}{σ:St}{H:Hp}{s2:Ab}{scope:Scope}{cl:List (Str×Aj)}{x:Str}{c:Aj}{M:List Nat}{fp:List Aj}{C:Aj}{h1:Heap}{tk:Nat}
theorem Inv.compK (I:Inv X pins σ H s2)(hc:CapAll X.env cl)(hh:HasAllK x cl scope.names)(hm:CapIx X scope cl M)(hk:scope.kind=.function)(hnd:(j6 X x M).Nodup)(hC:s2.heap.objs.size<C)(hcC:C<c)(hcl:h1.IsCell c none)
  (keep:∀b o,s2.heap.get? b=some o→h1.get? b=some o) (hn:h1.Ns C λ_=>none) (hD:h1.get? s2.heap.objs.size=some { cls:=.type "list",data:=.seq #[] 0 })
  (hfp:∀b∈fp,vz X pins H b) (hob:∀b∈fp,∃o,s2.heap.get? b=some o) :
  Inv (j9 X scope cl x c M C s2 H fp (X.pn++pins)) [] (zx M σ none) (upd H s2.heap.objs.size (.lst [])) { s2 with heap:=h1,toks:=tk }:=by
 have hfr:=I.hok.fresh (a:=s2.heap.objs.size) (aj _)
 have o:=I.ok
 have hcc:∀y c,cl.lookup y=some c→X.env.cells.lookup y=some c:=λy c e=>hc.look e
 have lk:∀y d,((x,c)::cl).lookup y=some d→(y=x∧d=c)∨(y≠x∧cl.lookup y=some d):=λy d e=>by
  rw [bo] at e
  cases hb:y==x with
  |true =>
   rw [hb] at e
   exact .inl ⟨eq_of_beq hb,(aq e).symm⟩
  |false =>
   rw [hb] at e
   exact .inr ⟨λz=>by rw [z] at hb;simp at hb,e⟩
 have old:∀y d,cl.lookup y=some d→d<s2.heap.objs.size:=λy d e=>by
  obtain ⟨v,ob,e1,e2⟩:=I.cell y d (hcc y d e)
  exact al e1
 have hcs:s2.heap.objs.size<c:=bg hC hcC
 have hlt:∀b∈fp,b<s2.heap.objs.size:=λb hb=>by
  obtain ⟨ob,e⟩:=hob b hb
  exact al e
 have hstk:∀b∈fp,b∉frs X.stack:=λb hb z=>by
  rcases aM.mp (I.stkSub b z) with z|z
  ·exact (hfp b hb).2.1 z
  ·exact (hfp b hb).2.2.1 z
 have hCn:H C=none:=I.hok.fresh (bf hC)
 refine ⟨⟨o.mod,hk,o.glob,o.blt,bf hC,λy z d e1 e2=>?_,λy hy=>?_,λy d z e=>?_,o.hd,o.frames,.inl rfl,λb hb=>⟨aB (bg (hlt b hb) hC),λy d e=>?_⟩,
  λb ob e=>I.bs b ob e,bB o.bsz I.sz,λb ob e z=>?_,hstk,I.stack,I.stkFree⟩,rfl,I.bare,?_,?_,λy d e=>?_,?_,λy d e=>?_,λp hp=>?_,?_,?_⟩
 ·rcases lk y d e1 with ⟨h1',h1⟩|⟨h1',h1⟩ <;> rcases lk z d e2 with ⟨h2',h2⟩|⟨h2',h2⟩
  ·exact h1'.trans h2'.symm
  ·exact absurd (old z d h2) (by rw [h1];exact Nat.not_lt_of_gt hcs)
  ·exact absurd (old y d h1) (by rw [h2];exact Nat.not_lt_of_gt hcs)
  ·exact o.inj y z d (hcc y d h1) (hcc z d h2)
 ·rcases hy with hy|hy
  ·exact hh.has (.inl rfl) hy
  ·exact hh.has (.inr rfl) hy
 ·rcases lk y d e with ⟨_,h1⟩|⟨h1',h1⟩
  ·rw [h1]
   exact bf hcs
  ·exact absurd (eq_of_beq z) h1'
 ·rcases lk y d e with ⟨_,h1⟩|⟨h1',h1⟩
  ·rw [h1]
   exact (aB (bg (hlt b hb) hcs)).symm
  ·exact (hfp b hb).2.2.2.2.1 y d (hcc y d h1)
 ·obtain ⟨e1,e2⟩:=I.bs b ob e
  exact (hfp b z).2.2.2.1.elim (λq=>o.noex b ob e q) λq=>by
   have:=o.bs b ob e
   exact aW _ (aI (al this.1) q)
 ·exact (Un.laid (fs:=frs X.stack) (ex:=fp) (o:=.lst []) keep (aj _) hfr)
 ·refine ⟨_,hn,λi z v e1 e2 e3=>?_⟩
  cases i with
  |zero=>cases e2
  |succ k =>
   have e1':(M.map λj=>X.N.getD j Str.empty)[k]?=some z:=e1
   have e2':(M.map λj=>(σ[j]?).join)[k]?=some (some v):=e2
   rw [ax] at e1' e2'
   cases hj:M[k]? with
   |none=>rw [hj] at e1';cases e1'
   |some j =>
    rw [hj] at e1' e2'
    obtain ⟨y,d,f1,f2,f3,f4⟩:=hm.get hj
    have ez:X.N.getD j Str.empty=z:=aq e1'
    rw [af,f1] at ez
    have ez':y=z:=ez
    subst ez'
    have nx:y≠x:=λz=>by
     have h0:=List.nodup_iff_pairwise_ne.mp hnd
     have h1:x∉M.map λj=>X.N.getD j Str.empty:=λhm'=>(List.pairwise_cons.mp h0).1 x hm' rfl
     refine h1 (aO.mpr ⟨j,aC hj,?_⟩)
     rw [af,f1,←z]
     rfl
    have f4':((x,c)::cl).lookup y=some d:=by
     rw [bo,show (y==x)=false from b8.mpr nx]
     exact f4
    have ev:(σ[j]?).join=some v:=aq e2'
    have ev':σ[j]?=some (some v):=by
     cases hs:σ[j]? with
     |none=>rw [hs] at ev;cases ev
     |some w' =>
      rw [hs] at ev
      have:w'=some v:=ev
      rw [this]
    obtain ⟨m,hns,hl⟩:=I.loc
    obtain ⟨u,r,l⟩:=hl j y v f1 ev' (.inr (.inl f2))
    refine ⟨u,r,.inr ⟨.inl f3,d,f4',?_⟩⟩
    rcases l with ⟨lk,_⟩|⟨_,c',lc,li⟩
    ·have:X.env.scope.names.lookup y=some .local:=lk
     rw [f2] at this
     cases this
    ·rw [hcc y d f4] at lc
     have:=aq lc
     subst this
     exact li.keeps keep
 ·rcases lk y d e with ⟨_,rfl⟩|⟨h1',h1⟩
  ·exact ⟨none,hcl⟩
  ·obtain ⟨v,hv⟩:=I.cell y d (hcc y d h1)
   exact ⟨v,hv.keeps keep⟩
 ·show upd H s2.heap.objs.size (.lst []) C=none
  rw [qr (eN hC)]
  exact hCn
 ·show upd H s2.heap.objs.size (.lst []) d=none
  rcases lk y d e with ⟨_,rfl⟩|⟨h1',h1⟩
  ·rw [qr (aB hcs).symm]
   exact I.hok.fresh (bf hcs)
  ·obtain ⟨v,ob,e1,e2⟩:=I.cell y d (hcc y d h1)
   rw [qr (aB (al e1))]
   exact I.freeC y d (hcc y d h1)
 ·have hp':p∈X.pn++pins:=(aU.mp hp).elim (λz=>z) λz=>nomatch z
  obtain ⟨e1,e2,e3,e4,e5⟩:=I.pin p hp'
  refine ⟨keep _ _ e1,?_,aB (bg (al e1) hC),λz=>?_,e5⟩
  ·rw [qr (aB (al e1))]
   exact e2
  ·rcases aM.mp (I.stkSub p.1 z) with z|z
   ·exact e3 z
   ·exact e4 z
 ·exact I.hok.laid keep (aj _) ⟨aV _,[],0,.nil,hD⟩
 ·show (none::M.map λj=>(σ[j]?).join).length=(x::M.map λj=>X.N.getD j Str.empty).length
  rw [aQ,aQ,ag,ag]
theorem Inv.uncompK {pins':List (Aj×Obj)}{σ':St}{H':Hp}{s':Ab}{h':Heap}(I:Inv X pins σ H s2)(hC:s2.heap.objs.size≤C)(hfp:∀b∈fp,vz X pins H b)
  (J:Inv (j9 X scope cl x c M C s2 H fp (X.pn++pins)) pins' σ' H' s') (hs:Heap.SameBut C s'.heap h'):Inv X pins σ H' { s' with heap:=h' }:=by
 have hb:=J.base
 have nC:∀b o,s2.heap.get? b=some o→b≠C:=λb o e=>aB (aI (al e) hC)
 have st:∀b o,b≠C→s'.heap.get? b=some o→h'.get? b=some o:=λb o n e=>(hs.2 b n).trans e
 refine I.call' (s':={ s' with heap:=h' }) (ch:=fp) J.os ⟨λb o e n nb nx=>st b o (nC b o e) (hb.keep b o e n nb nx),λb o e n hb' nx=>?_,hb.free,λb o e nx=>?_,hb.tups,hb.frzs,hb.tbls⟩ ?_ J.bare λb hbf=>?_
 ·obtain ⟨sl,e1⟩:=hb.slot b o e n hb' nx
  exact ⟨sl,st b _ (nC b o e) e1⟩
 ·obtain ⟨o',e1⟩:=hb.there b o e nx
  exact ⟨o',st b _ (nC b o e) e1⟩
 ·intro b u hu
  have fr:H' C=none:=J.free
  refine (J.hok b u hu).stay (λc v hc e=>st c v ?_ e) (λ_ z=>z) λ_ _ z=>z
  rcases hc with rfl|hc
  ·intro z;rw [z,fr] at hu;cases hu
  ·intro z;rw [z,fr] at hc;cases hc
 ·obtain ⟨q1,q2,q3,q4,q5,q6⟩:=hfp b hbf
  exact ⟨q4,q2,q5,q6⟩
end
section
variable {X:Cx}{elt iter:Expr}{x:Str}{px pos:Pos}{scope:Scope}{cl:List (Str×Aj)}{M:List Nat}{wi:TI}{te:TE}
theorem wkw (hc:X.calm=true)(hclos:closureFor scope X.env=pure cl)(hcap:CapAll X.env cl)(hhas:HasAllK x cl scope.names)(hix:CapIx X scope cl M)(hk:scope.kind=.function)
  (hnames:∀y∈scope.names,y.2=.local→scope.names.lookup y.1=some .local) (hcf:∀n,cellsFrom n scope.names cl=(x,n)::cl) (hpc:∀h,pushCells h scope.names=h.push { cls:=.type "cell",data:=.cell none }) (hx:(relabel scope X.env).names.lookup x=some .cell) (hnd:(j6 X x M).Nodup) (hi:PI X (.Name x px) iter wi)
  (he:∀C s2 H2 fp pn,PE (j9 X scope cl x (C+1) M C s2 H2 fp pn) elt te) (hs:∀z,foldedSetIterable iter X.env z=pure z)
  {use:Option (Ag→Sem Unit)} {QQ:Ag→Ab→Prop} {pins:List (Aj×Obj)} {s:Ab} {σ:St} {H:Hp} {Q:VK} {ps:Pos} (I:Inv X pins σ H s) (h:wi σ H λJ H1=>Qf J M te σ H1 Q)
  (fin:∀(C:Aj) (s2 s4:Ab) (H1 H2:Hp) (fp:List Aj),Inv X pins σ H1 s2→s2.heap.objs.size<C→(∀b∈fp,vz X pins H1 b)→Inv (j9 X scope cl x (C+1) M C s2 H1 fp (X.pn++pins)) [] (zx M σ none) H2 s4→Q (.ref s2.heap.objs.size) H2 →
   compPost (model X.prog X.w) X.A X.xe use QQ (.ref s2.heap.objs.size) C (.ok .next) s4) :
  wpAny (model X.prog X.w) X.A (comprehension (.ListComp elt [⟨.Name x px,iter,[],0⟩] scope pos) scope X.env ps (newList []) false (eval iter X.env) use) QQ X.xe s:=by
 refine eZ (use:=use) rfl hs hclos hk hnames ?_
 refine thn (hi pins s σ H _ I h) λv s1 h1=>thn h1 λitv s2 h2=>?_
 obtain ⟨it,fp,tn,J,H1,rfl,I2,T,t0,hfp,hR⟩:=h2
 have hob:∀b∈fp,∃o,s2.heap.get? b=some o∧∀v,o.data≠.cell v:=T.obj 0 _ t0
 obtain ⟨W,⟨m0,w0⟩,hW⟩:=hR s2.heap.objs.size (I2.hok.fresh (aj _))
 refine bU ?_
 refine wky (x:=x) hk (hcf _) (hpc _) ?_
 dsimp only
 generalize hH2:s2.heap.push { cls:=.type "list",dict:=none,data:=.seq ([]:List Ag).toArray }=G2
 have hC:G2.objs.size=s2.heap.objs.size+1:=by rw [←hH2,cN]
 have hlt:s2.heap.objs.size<G2.objs.size:=by lia
 have kG:∀b o,G2.get? b=some o→((G2.push { cls:=.type "dict",data:=.dict #[] }).push { cls:=.type "cell",data:=.cell none }).get? b=some o:=λb o e=>ai _ (ai _ e)
 have hcell:((G2.push { cls:=.type "dict",data:=.dict #[] }).push { cls:=.type "cell",data:=.cell none }).IsCell (G2.objs.size+1) none:=⟨_,by rw [show G2.objs.size+1=(G2.push { cls:=.type "dict",data:=.dict #[] }).objs.size from (cN ..).symm];exact az _ rfl,rfl⟩
 have hns':((G2.push { cls:=.type "dict",data:=.dict #[] }).push { cls:=.type "cell",data:=.cell none }).Ns G2.objs.size λ_=>none:=(Heap.Ns.new G2 (.type "dict")).keeps λb o e=>ai _ e
 generalize (G2.push { cls:=.type "dict",data:=.dict #[] }).push { cls:=.type "cell",data:=.cell none }=h3 at kG hcell hns'
 have keep:∀b o,s2.heap.get? b=some o→h3.get? b=some o:=λb o e=>kG b o (hH2▸ai _ e)
 have hD:h3.get? s2.heap.objs.size=some { cls:=.type "list",data:=.seq #[] 0 }:=kG _ _ (hH2▸az _ rfl)
 have J0:∀tk,Inv (j9 X scope cl x (G2.objs.size+1) M G2.objs.size s2 H1 fp (X.pn++pins)) [] (zx M σ none) (upd H1 s2.heap.objs.size (.lst [])) { s2 with heap:=h3,toks:=tk }:=λtk =>
  I2.compK hcap hhas hix hk hnd hlt (dQ _) hcell keep hns' hD hfp λb hb=>let ⟨o,e,_⟩:=hob b hb;⟨o,e⟩
 have hbl:∀b∈fp,b<s2.heap.objs.size:=λb hb=>let ⟨o,e,_⟩:=hob b hb;al e
 have fok:∀(H2:Hp),(∀b∈fp,H2 b=none)→∀b∈fp,vz (j9 X scope cl x (G2.objs.size+1) M G2.objs.size s2 H1 fp (X.pn++pins)) [] H2 b:=λH2 hn b hb=>by
  obtain ⟨q1,q2,q3,q4,q5,q6⟩:=hfp b hb
  refine ⟨hn b hb,aB (bg (hbl b hb) hlt),λz=>?_,.inl hb,λy d e=>?_,λp hp=>q6 p ((aU.mp hp).elim (λz=>z) λz=>nomatch z)⟩
  ·rcases aM.mp (I2.stkSub b z) with z|z
   ·exact q2 z
   ·exact q3 z
  ·have e':((x,G2.objs.size+1)::cl).lookup y=some d:=e
   rw [bo] at e'
   cases hb':y==x with
   |true =>
    rw [hb'] at e'
    have:d=G2.objs.size+1:=(aq e').symm
    rw [this]
    exact (aB (bg (bg (hbl b hb) hlt) (dQ _))).symm
   |false =>
    rw [hb'] at e'
    exact q5 y d (hcap.look e')
 have t3:=T.keep 0 _ _ t0 λb _ o e=>keep b o e
 have loop:=λtk=>kr (e:=.ListComp elt [⟨.Name x px,iter,[],0⟩] scope pos) (k:=0) (acc:=.ref s2.heap.objs.size) (Y:=j9 X scope cl x (G2.objs.size+1) M G2.objs.size s2 H1 fp (X.pn++pins)) (V:=λi n H2=>∃ys,W i n ys H2) (Qd:=Q (.ref s2.heap.objs.size)) (REST:=qyh elt (.ref s2.heap.objs.size) (compEnvC scope ((x,G2.objs.size+1)::cl) G2.objs.size X.env) _) (post:=compPost (model X.prog X.w) X.A X.xe use QQ (.ref s2.heap.objs.size) G2.objs.size) T hc (λ_ _ z=>z) (compTurn_list1 ..) rfl rfl (wt (i:=0) hnd rfl (.inr hx) (.inl (eR x))) fok (λi n H2 ⟨ys,w⟩=>by
  obtain ⟨hp,hz,hcase⟩:=hW i n ys H2 w
  refine hcase.imp id λ⟨hgo,hy⟩=>⟨hgo,λv H3 yl=>⟨λσ4 H4=>σ4=zx M σ (some v)∧H3=H4,⟨rfl,rfl⟩,λ_ _ e=>?_⟩⟩
  obtain ⟨rfl,rfl⟩:=e
  refine ⟨jt M σ v,λpins' s' J=>?_⟩
  exact aL (W5 (N:=λzs H5=>∃m',m'<n∧W (i+1) m' zs H5) (λ_ _ z=>z) (he _ _ _ _ _) J hz (hy v H3 yl)) (λr s5 ⟨e,H5,J5,zs,m',hm,w'⟩=>⟨e,H5,J5,m',hm,zs,w'⟩) λ_ _ z=>z)
  (λH2 s4 J4 q=>fin G2.objs.size s2 s4 H1 H2 fp I2 hlt hfp J4 q) (J0 tk) ⟨[],w0⟩ t3 λb hb=>by rw [qr (aB (hbl b hb))];exact (hfp b hb).1
 exact codeAny_compStart_list (loop _) (T.self _ 0 _ _ _ t3 (loop _))
theorem qwd (hc:X.calm=true)(hclos:closureFor scope X.env=pure cl)(hcap:CapAll X.env cl)(hhas:HasAllK x cl scope.names)(hix:CapIx X scope cl M)(hk:scope.kind=.function)
  (hnames:∀y∈scope.names,y.2=.local→scope.names.lookup y.1=some .local) (hcf:∀n,cellsFrom n scope.names cl=(x,n)::cl) (hpc:∀h,pushCells h scope.names=h.push { cls:=.type "cell",data:=.cell none }) (hx:(relabel scope X.env).names.lookup x=some .cell) (hnd:(j6 X x M).Nodup) (hi:PI X (.Name x px) iter wi)
  (he:∀C s2 H2 fp pn,PE (j9 X scope cl x (C+1) M C s2 H2 fp pn) elt te) (hs:∀z,foldedSetIterable iter X.env z=pure z:=by intro _;rfl) :
  PE X (.ListComp elt [⟨.Name x px,iter,[],0⟩] scope pos) (wwp M wi te):=by
 intro pins s σ H Q I h
 rw [hU]
 refine wkw hc hclos hcap hhas hix hk hnames hcf hpc hx hnd hi he hs (use:=none) I h λC s2 s4 H1 H2 fp I2 hlt hfp J4 hq=>?_
 obtain ⟨m,hn,_⟩:=J4.loc
 exact ⟨m,hn,λh' hs'=>⟨.ref s2.heap.objs.size,H2,I2.uncompK (bf hlt) hfp J4 hs',rfl,hq⟩⟩
end
end L2
namespace L2
open PySem PySem.Spec PyProof.Rows
theorem qyn {X:Cx}{tg l:Expr}{tl:TE}{K:Aa}(hK:X.K=K)(hl:PE X l tl):PI X tg l (iList K tl):=by
 subst hK
 exact vy hl
def Stay (G:Nat→V→Hp→Prop):Prop:=∀i v H H' p,G i v H→v≠.ref p→(∀b o,b≠p→H b=some o→H' b=some o)→G i v H'
theorem Qh {M:List Nat}{lo:Int}{n:Nat}{te:TE}{σ:St}{H:Hp}{Q:VK}(G:Nat→V→Hp→Prop)(gs:Stay G)(hn:n≤1000000)
  (he:∀(i:Nat) (H':Hp) (R:VK),i<n→Same H H'→(∀v H'',Same H' H''→G i v H''→(∀b,v=.ref b→H' b=none)→R v H'')→te (zx M σ (some (.int (lo+i)))) H' R)
  (k:∀p ys H',H p=none→Same H H'→H' p=some (.lst ys)→ys.length=n→(∀j v,ys[j]?=some v→G j v H'∧v≠.ref p)→Q (.ref p) H'):Qf (Itr lo n) M te σ H Q:=by
 intro p np
 refine ⟨λi m ys H2=>i≤n∧m=n-i∧ys.length=i∧Same H H2∧H2 p=some (.lst ys)∧∀j v,ys[j]?=some v→G j v H2∧v≠.ref p,⟨n,aV _,rfl,rfl,Same.upd np,qb,λj v e=>by cases e⟩,?_⟩
 rintro i m ys H2 ⟨hi,rfl,hy,sm,hp,hG⟩
 refine ⟨hp,?_,?_⟩
 ·have:(1000000:Nat)<sizeLine:=by decide
  lia
 ·by_cases hlt:i<n
  ·refine .inr ⟨hlt,?_⟩
   rintro v H3 ⟨rfl,rfl⟩
   refine he i _ _ hlt sm λv H4 s4 g4 fr=>⟨s4 _ _ hp,n-(i+1),by lia,by lia,rfl,by rw [am,hy];rfl,λb o e=>?_,qb,λj w e=>?_⟩
   ·rw [qr (q8 e np)]
    exact s4 _ _ (sm _ _ e)
   ·have vp:v≠.ref p:=λz=>by
     have:=fr p z
     rw [hp] at this
     cases this
    have st:∀b o,b≠p→H4 b=some o→upd H4 p (.lst (ys++[v])) b=some o:=λb o nb e=>by rw [qr nb];exact e
    rcases (bn j ys.length) with z|z
    ·rw [aP z] at e
     obtain ⟨g,nw⟩:=hG j w e
     exact ⟨gs j w _ _ p g nw λb o nb e=>st b o nb (s4 b o e),nw⟩
    ·rw [aA z] at e
     have hj:j=i:=by
      rcases bn (j-ys.length) 1 with y|y
      ·lia
      ·rw [aK (by simpa using y)] at e
       cases e
     subst hj
     rw [show j-ys.length=0 by lia] at e
     have:v=w:=aq e
     subst this
     exact ⟨gs j v H4 _ p g4 vp st,vp⟩
  ·have:i=n:=by lia
   subst this
   exact .inl ⟨aj _,k p ys _ np sm hp hy hG⟩
theorem uq {K:Aa}{M:List Nat}{a:Aj}{xs:List V}{te:TE}{σ:St}{H:Hp}{Q:VK}(G:Nat→V→Hp→Prop)(gs:Stay G)(hS:SqL K H a xs)(hn:xs.length≤1000000)
  (he:∀(i:Nat) (x:V) (H':Hp) (R:VK),xs[i]?=some x→Same H H'→(∀v H'',Same H' H''→G i v H''→(∀b,v=.ref b→H' b=none)→R v H'')→te (zx M σ (some x)) H' R)
  (k:∀p ys H',H p=none→Same H H'→H' p=some (.lst ys)→ys.length=xs.length→(∀j v,ys[j]?=some v→G j v H'∧v≠.ref p)→Q (.ref p) H'):Qf (Itl K a) M te σ H Q:=by
 intro p np
 refine ⟨λi m ys H2=>i≤xs.length∧m=xs.length-i∧ys.length=i∧Same H H2∧H2 p=some (.lst ys)∧∀j v,ys[j]?=some v→G j v H2∧v≠.ref p,⟨xs.length,aV _,rfl,rfl,Same.upd np,qb,λj v e=>by cases e⟩,?_⟩
 rintro i m ys H2 ⟨hi,rfl,hy,sm,hp,hG⟩
 have hS':SqL K H2 a xs:=Same.sql sm hS
 refine ⟨hp,?_,?_⟩
 ·have:(1000000:Nat)<sizeLine:=by decide
  lia
 ·by_cases hlt:i<xs.length
  ·have hx:xs[i]?=some xs[i]:=ae hlt
   refine .inr ⟨⟨xs,_,hS',hx⟩,?_⟩
   rintro v H3 ⟨rfl,hv⟩
   have e:=hv xs hS'
   rw [hx] at e
   have e':=aq e
   subst e'
   refine he i _ _ _ hx sm λv H4 s4 g4 fr=>⟨s4 _ _ hp,xs.length-(i+1),by lia,by lia,rfl,by rw [am,hy];rfl,λb o e=>?_,qb,λj w e=>?_⟩
   ·rw [qr (q8 e np)]
    exact s4 _ _ (sm _ _ e)
   ·have vp:v≠.ref p:=λz=>by
     have:=fr p z
     rw [hp] at this
     cases this
    have st:∀b o,b≠p→H4 b=some o→upd H4 p (.lst (ys++[v])) b=some o:=λb o nb e=>by rw [qr nb];exact e
    rcases (bn j ys.length) with z|z
    ·rw [aP z] at e
     obtain ⟨g,nw⟩:=hG j w e
     exact ⟨gs j w _ _ p g nw λb o nb e=>st b o nb (s4 b o e),nw⟩
    ·rw [aA z] at e
     have hj:j=i:=by
      rcases bn (j-ys.length) 1 with y|y
      ·lia
      ·rw [aK (by simpa using y)] at e
       cases e
     have e3:[v][j-ys.length]?=some w:=by assumption
     subst hj
     rw [show j-ys.length=0 by lia] at e3
     have:v=w:=aq e3
     subst this
     exact ⟨gs j v H4 _ p g4 vp st,vp⟩
  ·have hi':i=xs.length:=by lia
   subst hi'
   exact .inl ⟨⟨xs,hS',aj _⟩,k p ys _ np sm hp hy hG⟩
theorem wq5 {K:Aa}{M:List Nat}{a:Aj}{xs:List V}{te:TE}{σ:St}{H:Hp}{Q:VK}(f:V→V)(hf:∀x b,f x≠.ref b)(hS:SqL K H a xs)(hn:xs.length≤1000000)
  (he:∀(x:V) (H':Hp) (R:VK),x∈xs→Same H H'→(∀H'',Same H' H''→R (f x) H'')→te (zx M σ (some x)) H' R)
  (k:∀p H',H p=none→Same H H'→H' p=some (.lst (xs.map f))→Q (.ref p) H'):Qf (Itl K a) M te σ H Q:=by
 refine uq (λi v _=>∃x,xs[i]?=some x∧v=f x) (λi v H H' p g _ _=>g) hS hn (λi x H' R hx s hR=>he x H' R (aC hx) s λH'' s''=>hR _ _ s'' ⟨x,hx,rfl⟩ λb e=>absurd e (hf x b)) λp ys H' np s hp hl hG=>?_
 have e:ys=xs.map f:=by
  refine bM λj=>?_
  rw [ax]
  cases hj:ys[j]? with
  |none =>
   have:xs[j]?=none:=aK (by have:=eV.mp hj;lia)
   rw [this]
   rfl
  |some v =>
   obtain ⟨⟨x,hx,rfl⟩,_⟩:=hG j v hj
   rw [hx]
   rfl
 rw [e] at hp
 exact k p H' np s hp
theorem qyu {M:List Nat}{lo:Int}{n:Nat}{te:TE}{σ:St}{H:Hp}{Q:VK}(f:Nat→V)(hf:∀x b,f x≠.ref b)(hn:n≤1000000)
  (he:∀(i:Nat) (H':Hp) (R:VK),i<n→Same H H'→(∀H'',Same H' H''→R (f i) H'')→te (zx M σ (some (.int (lo+i)))) H' R)
  (k:∀p H',H p=none→Same H H'→H' p=some (.lst ((List.range n).map f))→Q (.ref p) H'):Qf (Itr lo n) M te σ H Q:=by
 refine Qh (λi v _=>v=f i) (λi v H H' p g _ _=>g) hn (λi H' R hi s hR=>he i H' R hi s λH'' s''=>hR _ _ s'' rfl λb e=>absurd e (hf i b)) λp ys H' np s hp hl hG=>?_
 have e:ys=(List.range n).map f:=by
  refine bM λj=>?_
  rw [ax]
  cases hj:ys[j]? with
  |none =>
   have:n≤j:=by have:=eV.mp hj;lia
   rw [aK (by rw [aH];exact this)]
   rfl
  |some v =>
   have hjn:j<n:=by have:=(ak.mp hj).1;lia
   rw [br hjn,(hG j v hj).1]
   rfl
 rw [e] at hp
 exact k p H' np s hp
end L2
namespace L2
open PySem PySem.Spec PyProof.Rows
theorem y8:bootBuiltins "sum" = some (.builtin "sum"):=by decide +kernel
section
variable {X:Cx}{K:Aa}
theorem js (hK:X.K=K):IxR X (wwc K):=by
 subst hK
 exact zk
theorem Wy (hK:X.K=K):jk X (.builtin "len") (λxs H Q=>∃p ys,xs=[.ref p]∧(SqL K H p ys∨SqT K H p ys)∧Q (.int ys.length) H):=by
 subst hK
 exact xu
theorem qzz (ns:List Int):∀n,preSum (λi=>ns.getD i 0) n=(ns.take n).sum
 |0=>by simp [preSum]
 |n+1=>by
  rw [preSum,qzz ns n,List.take_succ]
  cases e:ns[n]? with
  |none=>simp [af,e]
  |some v=>simp [af,e]
theorem vg (hK:X.K=K)(hc:X.calm=true):jk X (.builtin "sum") (λxs H Q=>∃(p:Aj) (ns:List Int),xs=[.ref p]∧SqL K H p (ns.map V.int)∧Q (.int ns.sum) H):=by
 subst hK
 intro pins s σ H xs us Q I r h
 obtain ⟨p,ns,rfl,hS,q⟩:=h
 obtain ⟨u,rfl,ru⟩:=jh r
 cases (show u=Value.ref p from ru)
 obtain ⟨its,rv,⟨o,n,e1,e2,e3,e4⟩,hz⟩:=I.list hS
 have hl:s.heap.IsList p its.toArray:=⟨o,e1,e2,n,e4⟩
 have hlt:p<s.heap.objs.size:=al e1
 have hlen:its.length=ns.length:=by rw [←rv.length,ag]
 refine call_sum_walkG (gS hl ?_)
 refine ⟨s.heap.objs.size,_,_,_,_,_,λi=>ns.getD i 0,rfl,Walks.list (A:=X.A.in1) (I.ok.hd hc) _ p (aB hlt) its.toArray,⟨⟨_,az _ rfl,rfl,rfl⟩,hl.push _⟩,λb hb=>?_,λi v hP=>?_,λh' tk t' hk=>?_⟩
 ·rcases aM.mp hb with z|z
  ·rw [z,cN]
   exact dQ _
  ·rw [aJ.mp z,cN]
   exact eK hlt
 ·have hv:its[i]?=some v:=by simpa using hP
  have hi:i<(ns.map V.int).length:=by
   rw [ag,←hlen]
   exact (ak.mp hv).1
  obtain ⟨u,eu,ru⟩:=rv.get (i:=i) (ae hi)
  rw [hv] at eu
  cases eu
  rw [fM] at ru
  obtain ⟨t,rfl⟩:=ru
  rw [ag] at hi
  exact ⟨t,by show Value.int ns[i] t=Value.int (ns.getD i 0) t;rw [af,ae hi];rfl⟩
 ·have e:preSum (λi=>ns.getD i 0) its.toArray.size=ns.sum:=by
   rw [qzz,ar,hlen,bv]
  rw [e]
  refine ⟨.int _,H,I.kept λb ob e=>hk b ob (λhm=>?_) (ai _ e),⟨t',rfl⟩,q⟩
  have z:b=s.heap.objs.size:=by simpa using hm
  exact aW _ (z▸al e)
end
def zy (n:Nat)(g:Nat→Int):List Int:=(List.range n).map g
theorem yb (n:Nat)(g:Nat→Int):(zy n g).length=n:=by
 unfold zy
 rw [ag,aH]
theorem qqf {n i:Nat}{g:Nat→Int}(h:i<n):(zy n g)[i]?=some (g i):=by
 unfold zy
 rw [ax,br h]
 rfl
theorem qw1 (n:Nat)(g:Nat→Int):(zy n g).map V.int=(List.range n).map λi=>V.int (g i):=by
 unfold zy
 rw [bP]
 rfl
theorem wq2 {n:Nat}{f g:Nat→Int}(h:∀i,i<n→f i=g i):zy n f=zy n g:=dP λi hi=>h i (au.mp hi)
def MatAt (H:Hp)(p:Aj)(n:Nat)(f:Nat→Nat→Int):Prop:=∃ys,H p=some (.lst ys)∧ys.length=n∧∀i v,ys[i]?=some v→∃q,v=.ref q∧H q=some (.lst ((zy n (f i)).map V.int))
theorem MatAt.same {H H':Hp}{p:Aj}{n:Nat}{f:Nat→Nat→Int}(h:MatAt H p n f)(s:Same H H'):MatAt H' p n f:=by
 obtain ⟨ys,e,l,r⟩:=h
 exact ⟨ys,s _ _ e,l,λi v z=>let ⟨q,a,b⟩:=r i v z;⟨q,a,s _ _ b⟩⟩
theorem MatAt.row {H:Hp}{p:Aj}{n:Nat}{f:Nat→Nat→Int}(h:MatAt H p n f){ys:List V}(e:H p=some (.lst ys)){i:Nat}(hi:i<n):∃q,ys[i]?=some (.ref q)∧H q=some (.lst ((zy n (f i)).map V.int)):=by
 obtain ⟨ys',e',l,r⟩:=h
 rw [e] at e'
 cases e'
 have z:ys[i]?=some ys[i]:=ae (by lia)
 obtain ⟨q,a,b⟩:=r i _ z
 exact ⟨q,by rw [z,a],b⟩
def ku (n:Nat)(g:Nat→Int):Int:=(zy n g).sum
theorem vc (n:Nat)(g:Nat→Int):ku (n+1) g=ku n g+g n:=by
 unfold ku zy
 rw [cx,be,iH]
 simp
theorem wjb (n:Nat)(g h:Nat→Int):ku n (λi=>g i+h i)=ku n g+ku n h:=by
 induction n with
 |zero=>rfl
 |succ n ih=>rw [vc,vc,vc,ih];lia
theorem Z8 (n:Nat)(g:Nat→Int)(h:∀i,i<n→g i=0):ku n g=0:=by
 induction n with
 |zero=>rfl
 |succ n ih=>rw [vc,ih λi hi=>h i (by lia),h n (by lia)];rfl
theorem uj {n:Nat}{g h:Nat→Int}(e:∀i,i<n→g i=h i):ku n g=ku n h:=by
 unfold ku
 rw [wq2 e]
theorem qjx {n i:Nat}(hi:i<n)(g:Nat→Int):ku n (λk=>(if k=i then 1 else 0)*g k)=g i:=by
 induction n with
 |zero=>lia
 |succ n ih =>
  rw [vc]
  rcases (by lia:i<n∨i=n) with z|z
  ·rw [ih z,ao (by lia)]
   lia
  ·subst z
   rw [av rfl,Z8 _ _ λk hk=>by rw [ao (by lia),Int.zero_mul]]
   lia
theorem qjv {α:Type}(n:Nat)(F:α→Nat→Int):∀L:List α,(L.map λv=>ku n (F v)).sum=ku n λk=>(L.map λv=>F v k).sum
 |[]=>by
  rw [dJ,List.sum_nil,Z8]
  intro i _
  rfl
 |v::L=>by
  rw [aN,cM,qjv n F L,←wjb]
  refine uj λk _=>?_
  rw [aN,cM]
def zj (cov:Nat→List Int):Nat→Nat→Nat→Int
 |0=>λi j=>if j=i then 1 else 0
 |m+1=>λi j=>((cov i).map λv=>zj cov m v.toNat j).sum
end L2
namespace L2
open PySem PySem.Spec PyProof.Rows
def qkr (X:Cx)(x y:Str)(M:List Nat):List Str:=x::y::M.map λj=>X.N.getD j Str.empty
def zq (M:List Nat)(σ:St)(o o':Option V):St:=o::o'::M.map λj=>(σ[j]?).join
abbrev x8 (X:Cx)(scope:Scope)(cl:List (Str×Aj))(x y:Str)(M:List Nat)(C:Aj)(s2:Ab)(H2:Hp)(fp:List Aj)(pn:List (Aj×Obj)):Cx :=
 { X with N:=qkr X x y M,s₀:=s2,H₀:=H2,env:=compEnvC scope cl C X.env,outer:=X.stack,ex:=fp,fn:=λ_=>false,pn:=pn,xe:=λ_ _=>False }
section
variable {X:Cx}{pins:List (Aj×Obj)}{σ:St}{H:Hp}{s2:Ab}{scope:Scope}{cl:List (Str×Aj)}{x y:Str}{M:List Nat}{fp:List Aj}{C:Aj}{h1:Heap}{tk:Nat}
theorem Inv.comp2 (I:Inv X pins σ H s2)(hc:CapAll X.env cl)(hh:HasAll cl scope.names)(hm:CapIx X scope cl M)(hk:scope.kind=.function)(hC:s2.heap.objs.size<C)
  (keep:∀b o,s2.heap.get? b=some o→h1.get? b=some o) (hn:h1.Ns C λ_=>none) (hD:h1.get? s2.heap.objs.size=some { cls:=.type "list",data:=.seq #[] 0 })
  (hfp:∀b∈fp,vz X pins H b) (hob:∀b∈fp,∃o,s2.heap.get? b=some o) :
  Inv (x8 X scope cl x y M C s2 H fp (X.pn++pins)) [] (zq M σ none none) (upd H s2.heap.objs.size (.lst [])) { s2 with heap:=h1,toks:=tk }:=I.compG (xs:=[x,y]) hc hh hm hk hC keep hn ⟨aV _,[],0,.nil,hD⟩ hfp hob
theorem Inv.uncomp2 {pins':List (Aj×Obj)}{σ':St}{H':Hp}{s':Ab}{h':Heap}(I:Inv X pins σ H s2)(hC:s2.heap.objs.size≤C)(hfp:∀b∈fp,vz X pins H b)
  (J:Inv (x8 X scope cl x y M C s2 H fp (X.pn++pins)) pins' σ' H' s') (hs:Heap.SameBut C s'.heap h'):Inv X pins σ H' { s' with heap:=h' }:=by
 have hb:=J.base
 have nC:∀b o,s2.heap.get? b=some o→b≠C:=λb o e=>aB (aI (al e) hC)
 have st:∀b o,b≠C→s'.heap.get? b=some o→h'.get? b=some o:=λb o n e=>(hs.2 b n).trans e
 refine I.call' (s':={ s' with heap:=h' }) (ch:=fp) J.os ⟨λb o e n nb nx=>st b o (nC b o e) (hb.keep b o e n nb nx),λb o e n hb' nx=>?_,hb.free,λb o e nx=>?_,hb.tups,hb.frzs,hb.tbls⟩ ?_ J.bare λb hbf=>?_
 ·obtain ⟨sl,e1⟩:=hb.slot b o e n hb' nx
  exact ⟨sl,st b _ (nC b o e) e1⟩
 ·obtain ⟨o',e1⟩:=hb.there b o e nx
  exact ⟨o',st b _ (nC b o e) e1⟩
 ·intro b u hu
  have fr:H' C=none:=J.free
  refine (J.hok b u hu).stay (λc v hc e=>st c v ?_ e) (λ_ z=>z) λ_ _ z=>z
  rcases hc with rfl|hc
  ·intro z;rw [z,fr] at hu;cases hu
  ·intro z;rw [z,fr] at hc;cases hc
 ·obtain ⟨q1,q2,q3,q4,q5,q6⟩:=hfp b hbf
  exact ⟨q4,q2,q5,q6⟩
end
theorem xwt {prog:Ac}{w:Ah}{A:Ae}{R:Result→Ab→Prop}{s:Ab}{elt t0 i0 t1 i1:Expr}{scope:Scope}{pos:Pos}{it acc:Ag}{env:Env}{ifs:List Expr}
  (h1:codeAny (model prog w) A (Code.compLoop (elt.ListComp [⟨t0,i0,[],0⟩,⟨t1,i1,ifs,0⟩] scope pos) 1 it acc env) R s)
  (h2:∀(E:Ag→Ab→Prop),wpAny (model prog w) A (pyIter it) (λit' s'=>codeAny (model prog w) A (Code.compLoop (elt.ListComp [⟨t0,i0,[],0⟩,⟨t1,i1,ifs,0⟩] scope pos) 1 it' acc env) R s') E s) :
  codeAny (model prog w) A (Code.compStart (elt.ListComp [⟨t0,i0,[],0⟩,⟨t1,i1,ifs,0⟩] scope pos) 1 it acc env) R s:=by
 refine codeAny_of_tree ?_
 show wpAny (model prog w) _ ((compStart (elt.ListComp [⟨t0,i0,[],0⟩,⟨t1,i1,ifs,0⟩] scope pos) 1 it acc env).onRaise (λz=>do noteFrame z env;standAt theWindowsPlace)) _ _ s
 refine wpAny_onRaise ?_
 unfold compStart
 rw [ao (show ¬ ((clausesOf (elt.ListComp [⟨t0,i0,[],0⟩,⟨t1,i1,ifs,0⟩] scope pos))[1]?.elim false λx=>x.is_async != 0)=true from aE)]
 refine aa (eS ?_)
 split
 ·exact ah ⟨rfl,h1⟩
 ·refine aa (dt ?_)
  show wpAny _ _ (standAt i1.pos >>= λ_=>pyIter it >>= λz=>again (Code.compLoop (elt.ListComp [⟨t0,i0,[],0⟩,⟨t1,i1,ifs,0⟩] scope pos) 1 z acc env)) _ _ s
  refine aa (cL (aa (aL (h2 _) (λz s' hz=>ah ⟨rfl,hz⟩) λ_ _ e=>e)))
section
variable {X:Cx}{elt iter iter2:Expr}{x y:Str}{px py pos:Pos}{scope:Scope}{cl:List (Str×Aj)}{M:List Nat}{wi wi2:TI}{te:TE}
end
section
variable {X:Cx}{elt iter iter2:Expr}{x y2:Str}{px py2 pos:Pos}{scope:Scope}{cl:List (Str×Aj)}{M:List Nat}{wi wi2:TI}{te:TE}
end
end L2
namespace L2
open PySem PySem.Spec PyProof.Rows
theorem Zv {X:Cx}{K:Aa}(hK:X.K=K):IxR X (rIxT K):=by
 subst hK
 exact qxk
end L2
namespace L2
open PySem PySem.Spec PyProof.Rows
section
variable {X:Cx}{pins:List (Aj×Obj)}{σ:St}{H:Hp}{s:Ab}{h':Heap}{ch:List Aj}
theorem Inv.turnedL {tk:Nat}(I:Inv X pins σ H s)(hk:∀b u,b∉ch→s.heap.get? b=some u→h'.get? b=some u)(hf:∀b∈ch,vz X pins H b):Inv X pins σ H { s with heap:=h',toks:=tk }:=by
 refine I.call' (s':={ s with heap:=h',toks:=tk }) (ch:=ch) rfl ⟨λb o e n _ nx=>hk b o nx e,λb o e n _ nx=>⟨o.slots,hk b o nx e⟩,λb o e n _=>n,λb o e nx=>⟨o,hk b o nx e⟩,λ_ _ e=>e,λ_ _ _ e=>e,λb ps e=>⟨#[],by rw [e];simp⟩⟩ ?_ I.bare λb hb=>?_
 ·intro b u hu
  refine (I.hok b u hu).stay (λc v hc e=>hk c v (λz=>?_) e) (λ_ z=>z) λ_ _ z=>z
  have:=(hf c z).1
  rcases hc with rfl|hc
  ·rw [this] at hu;cases hu
  ·rw [this] at hc;cases hc
 ·obtain ⟨q1,q2,q3,q4,q5,q6⟩:=hf b hb
  exact ⟨q4,q2,q5,q6⟩
theorem Inv.turnedT {tk:Nat}{o:HO}{ob:Obj}(I:Inv X pins σ H s)(hk:∀b u,b∉ch→s.heap.get? b=some u→h'.get? b=some u)(hn:h'.get? s.heap.objs.size=some ob)(hf:∀b∈ch,vz X pins H b)(hc:∀b∈ch,b≠s.heap.objs.size)
  (ok:ObjOk X.prog X.w (upd H s.heap.objs.size o) (s.heap.push ob) s.heap.objs.size o) (fr:ob.isFreed=false):Inv X pins σ (upd H s.heap.objs.size o) { s with heap:=h',toks:=tk }:=by
 have I1:Inv X pins σ (upd H s.heap.objs.size o) { s with heap:=s.heap.push ob,toks:=tk }:=I.laid (t':=tk) (λb u e=>ai _ e) (aj _) ok
 refine Inv.turnedL (s:={ s with heap:=s.heap.push ob,toks:=tk }) (ch:=ch) I1 (λb u nb e=>?_) λb hb=>?_
 ·rcases Heap.get?_push_cases e with ⟨rfl,rfl⟩|e
  ·exact hn
  ·exact hk b u nb e
 ·obtain ⟨q1,q⟩:=hf b hb
  exact ⟨by rw [qr (hc b hb)];exact q1,q⟩
theorem xq7 {x y:V}{u v:Ag}(I:Inv X pins σ H s)(rx:RelV x u)(ry:RelV y v):ObjOk X.prog X.w (upd H s.heap.objs.size (.tup [x,y])) (s.heap.push { cls:=.type "tuple",data:=.seq #[u,v] }) s.heap.objs.size (.tup [x,y]):=by
 refine ⟨by show 2≤sizeLine;decide,[u,v],.cons rx (.cons ry .nil),?_⟩
 exact ⟨_,az _ rfl,rfl,_,rfl⟩
end
def ItZ (K:Aa)(a b:Aj)(xs ys:List V):It :=
 ⟨λi H=>SqL K H a xs∧SqL K H b ys∧i<xs.length∧i<ys.length,λi H v H'=>∃q x y,H q=none∧v=.ref q∧xs[i]?=some x∧ys[i]?=some y∧H'=upd H q (.tup [x,y]),λi H=>SqL K H a xs∧SqL K H b ys∧(xs.length≤i∨ys.length≤i)⟩
theorem wuj {P:Ac}{w:Ah}{K:Aa}{es:List Expr}{k:Nat}{pos:Pos}(a b z TI TO i1 i2:Aj)(xs ys:List V)(ap:ZipApart z TI TO i1 i2 a b):Turn P w K (.Tuple es k pos) (ItZ K a b xs ys) [z,TI,TO,i1,i2] z
  (λi h=>IsZip h z TI TO .none∧IsPair h TI (.ref i1) (.ref i2)∧(∃u v,IsPair h TO u v)∧h.IsListIter i1 a i∧h.IsListIter i2 b i) where
 mem:=by simp
 obj:=λi h st c hc=>by
  obtain ⟨h1,h2,⟨u,v,h3⟩,⟨o4,h4,c4,d4⟩,⟨o5,h5,c5,d5⟩⟩:=st
  have hc':c=z∨c=TI∨c=TO∨c=i1∨c=i2:=by simpa using hc
  rcases hc' with rfl|rfl|rfl|rfl|rfl
  ·exact ⟨_,h1,λv z=>by cases z⟩
  ·exact ⟨_,h2,λv z=>by cases z⟩
  ·exact ⟨_,h3,λv z=>by cases z⟩
  ·exact ⟨_,h4,λv z=>by rw [d4] at z;cases z⟩
  ·exact ⟨_,h5,λv z=>by rw [d5] at z;cases z⟩
 keep:=λi h h' st k=>by
  obtain ⟨h1,h2,⟨u,v,h3⟩,h4,h5⟩:=st
  exact ⟨k z (by simp) _ h1,k TI (by simp) _ h2,⟨u,v,k TO (by simp) _ h3⟩,h4.at λo e=>k i1 (by simp) o e,h5.at λo e=>k i2 (by simp) o e⟩
 item:=by
  intro X hP hw hK hc i pins s σ H E I hf st hg
  subst hP hw hK
  obtain ⟨hq1,hq2,l1,l2⟩:=hg
  obtain ⟨its,rv,p,hz⟩:=I.list hq1
  obtain ⟨its2,rv2,p2,hz2⟩:=I.list hq2
  have e1:xs[i]?=some xs[i]:=ae l1
  have e2:ys[i]?=some ys[i]:=ae l2
  obtain ⟨u,hu,ru⟩:=rv.get e1
  obtain ⟨v,hv,rv'⟩:=rv2.get e2
  obtain ⟨h1,h2,⟨a0,b0,h3⟩,h4,h5⟩:=st
  refine wpAny_pyNext_zip_item ap h1 h2 h3 h4 h5 p.isList p2.isList (x:=u) (y:=v) (by simpa using hu) (by simpa using hv) λh' g1 g2 g3 g4 g5 g6 g7=>?_
  refine ⟨_,rfl,wpAny_letOwnedTupleGo_zip (s:={ s with heap:=h' }) g1 λh'' f1 f2=>?_⟩
  have hsz:∀c,c∈[z,TI,TO,i1,i2]→c≠s.heap.objs.size:=λc hc e=>by
   have hc':c=z∨c=TI∨c=TO∨c=i1∨c=i2:=by simpa using hc
   have hlt:c<s.heap.objs.size:=by
    rcases hc' with rfl|rfl|rfl|rfl|rfl
    ·exact al h1
    ·exact al h2
    ·exact al h3
    ·obtain ⟨o,e,_⟩:=h4;exact al e
    ·obtain ⟨o,e,_⟩:=h5;exact al e
   exact aW _ (e▸hlt)
  have keep:∀c o,c∉[z,TI,TO,i1,i2]→s.heap.get? c=some o→h''.get? c=some o:=λc o nc e=>by
   simp only [aM,List.not_mem_nil,or_false,not_or] at nc
   rw [f2.2 c nc.1]
   exact g7 c o nc.1 nc.2.2.1 nc.2.2.2.1 nc.2.2.2.2 e
  have keepz:∀c o,c≠z→h'.get? c=some o→h''.get? c=some o:=λc o nc e=>(f2.2 c nc).trans e
  have new:h''.get? s.heap.objs.size=some { cls:=.type "tuple",data:=.seq #[u,v] }:=keepz _ _ (de (hsz z (by simp))) g5
  have hTI:h''.get? TI=some { cls:=.type "tuple",data:=.seq #[.ref i1,.ref i2] }:=by
   refine keepz _ _ ap.TIz ?_
   exact g7 TI _ ap.TIz ap.TITO ap.TIi1 ap.TIi2 h2
  refine ⟨.ref s.heap.objs.size,_,Inv.turnedT (s:=s) (ch:=[z,TI,TO,i1,i2]) (tk:=s.toks) I keep new hf hsz (xq7 I ru rv') rfl,rfl,⟨_,_,_,I.hok.fresh (aj _),rfl,e1,e2,rfl⟩,⟨f1,hTI,⟨u,v,keepz _ _ ap.TOz g2⟩,g3.at λo e=>keepz _ _ ap.i1z e,g4.at λo e=>keepz _ _ ap.i2z e⟩,λc hc=>?_⟩
  rw [qr (hsz c hc)]
  exact (hf c hc).1
 done:=by
  intro X hP hw hK hc i pins s σ H E I hf st hg
  subst hP hw hK
  obtain ⟨hq1,hq2,le⟩:=hg
  obtain ⟨its,rv,p,hz⟩:=I.list hq1
  obtain ⟨its2,rv2,p2,hz2⟩:=I.list hq2
  have hl:=rv.length
  have hl2:=rv2.length
  obtain ⟨h1,h2,⟨a0,b0,h3⟩,h4,h5⟩:=st
  refine wpAny_pyNext_zip_end (I.ok.hd hc) ap h1 h2 h3 h4 h5 p.isList p2.isList ?_ λh' g=>⟨rfl,Inv.turnedL (ch:=[z,TI,TO,i1,i2]) (tk:=s.toks) I (λc o nc e=>?_) hf⟩
  ·rcases le with le|le
   ·exact .inl (dB (by rw [ar];lia))
   ·exact .inr (dB (by rw [ar];lia))
  ·simp only [aM,List.not_mem_nil,or_false,not_or] at nc
   exact g c o nc.1 nc.2.2.1 nc.2.2.2.1 nc.2.2.2.2 e
 self:=λ_ _ _ _ _ st h=>wpAny_pyIter_zip st.1 h
section
variable {X:Cx}
def iZip (K:Aa)(ta:TA):TI:=λσ H R=>ta σ H λvs H1=>∃a b xs ys,vs=[.ref a,.ref b]∧SqL K H1 a xs∧SqL K H1 b ys∧R (ItZ K a b xs ys) H1
theorem pi_zip {a b:Expr}{ta:TA}{p pos:Pos}{es:List Expr}{k:Nat}{tpos:Pos}(hg:Gl X "zip")(hm:X.mg "zip" = none)(ha:PA X [a,b] ta)(hv:bootBuiltins "zip" = some (.type "zip"):=by rfl)
  (hs:starEach [a,b] X.env=[(false,eval a X.env),(false,eval b X.env)]:=by rfl) (hs2:starEach [b] X.env=[(false,eval b X.env)]:=by rfl):PI X (.Tuple es k tpos) (.Call (.Name "zip" p) [a,b] [] pos) (iZip X.K ta):=by
 intro pins s σ H R I h
 refine Call_ (yu I hg hm hv (bN (thn (ha pos pins s σ H _ I h) λus s1 ⟨vs,H1,I1,r1,q1⟩=>?_) (by rw [hs,hs2]) (by rw [hs2];rfl)))
 obtain ⟨a,b,xs,ys,e,hq1,hq2,q⟩:=q1
 subst e
 cases r1 with
 |cons r rr =>
  cases rr with
  |cons r' rr =>
   cases rr
   cases r
   cases r'
   obtain ⟨its,rv,p,hz⟩:=I1.list hq1
   obtain ⟨its2,rv2,p2,hz2⟩:=I1.list hq2
   have la:a<s1.heap.objs.size:=by obtain ⟨o,n,e1,_⟩:=p;exact al e1
   have lb:b<s1.heap.objs.size:=by obtain ⟨o,n,e1,_⟩:=p2;exact al e1
   refine call_zip_2 p.isList p2.isList λh' g1 g2 g3 g4 g5 g6 g7=>?_
   refine wpAny_pyIter_zip g1 ?_
   have I2:Inv X pins σ H1 { s1 with heap:=h' }:=I1.kept (t':=s1.toks) g7
   refine ⟨s1.heap.objs.size+4,[s1.heap.objs.size+4,s1.heap.objs.size+2,s1.heap.objs.size+3,s1.heap.objs.size,s1.heap.objs.size+1],_,_,H1,rfl,I2,wuj a b _ _ _ _ _ xs ys (zipApart_new la lb),⟨g1,g2,⟨_,_,g3⟩,g4,g5⟩,λc hc=>?_,q⟩
   have hc':s1.heap.objs.size≤c:=by
    have:c=s1.heap.objs.size+4∨c=s1.heap.objs.size+2∨c=s1.heap.objs.size+3∨c=s1.heap.objs.size∨c=s1.heap.objs.size+1:=by simpa using hc
    rcases this with e | e | e | e | e <;> (rw [e];first | exact aj _ | exact iq _ _)
   exact I1.fpOk hc' (I1.hok.fresh hc')
end
section
variable {X:Cx}
end
section
variable {X:Cx}{elt iter tg:Expr}{x y2:Str}{pos:Pos}{scope:Scope}{cl:List (Str×Aj)}{M:List Nat}{wi:TI}{gg:TG}{te:TE}
end
theorem xxk {X:Cx}{K:Aa}{pos:Pos}{es:List Expr}{k:Nat}{t:TGs}{n:Nat}(hK:X.K=K)(hc:X.calm=true)(h:PGs X es t)(h1:(assignEach es X.env).length=n:=by rfl)(h2:List.findIdx? (λx=>x.fst) (assignEach es X.env)=none:=by rfl):PG X (.Tuple es k pos) (gTup K n t):=by
 subst hK
 exact jg hc h h1 h2
def StayT (G:Nat→V→Hp→Prop):Prop:=∀i v H H',G i v H→(∀b o,(∀xs,o≠.lst xs)→H b=some o→H' b=some o)→G i v H'
theorem qyy {M:List Nat}{lo:Int}{n:Nat}{te:TE}{σ:St}{H:Hp}{Q:VK}(G:Nat→V→Hp→Prop)(gs:StayT G)(hn:n≤1000000)
  (he:∀(i:Nat) (H':Hp) (R:VK),i<n→Same H H'→(∀v H'',Same H' H''→G i v H''→R v H'')→te (zx M σ (some (.int (lo+i)))) H' R)
  (k:∀p ys H',H p=none→Same H H'→H' p=some (.lst ys)→ys.length=n→(∀j v,ys[j]?=some v→G j v H')→Q (.ref p) H'):Qf (Itr lo n) M te σ H Q:=by
 intro p np
 have big:(1000000:Nat)<sizeLine:=by decide
 refine ⟨λi m ys H2=>i≤n∧m=n-i∧ys.length=i∧Same H H2∧H2 p=some (.lst ys)∧∀j v,ys[j]?=some v→G j v H2,⟨n,aV _,rfl,rfl,Same.upd np,qb,λj v e=>by cases e⟩,?_⟩
 rintro i m ys H2 ⟨hi,rfl,hl,sm,hp,hG⟩
 refine ⟨hp,by lia,?_⟩
 by_cases hlt:i<n
 ·refine .inr ⟨hlt,?_⟩
  rintro v H3 ⟨rfl,rfl⟩
  refine he i H3 _ hlt sm λw H4 s4 g4=>?_
  have hp4:=s4 _ _ hp
  have st:∀b o,(∀xs,o≠.lst xs)→H4 b=some o→upd H4 p (.lst (ys++[w])) b=some o:=λb o no e=>by
   rw [qr]
   ·exact e
   ·intro z
    rw [z,hp4] at e
    exact no _ (aq e).symm
  refine ⟨hp4,n-(i+1),by lia,by lia,rfl,by rw [am,hl];rfl,λb o e=>?_,qb,λj v e=>?_⟩
  ·rw [qr (q8 e np)]
   exact s4 _ _ (sm _ _ e)
  ·rcases bn j ys.length with z|z
   ·rw [aP z] at e
    exact gs j v _ _ (hG j v e) λb o no e=>st b o no (s4 _ _ e)
   ·rw [aA z] at e
    have hj:j=i:=by
     rcases bn (j-ys.length) 1 with y|y
     ·lia
     ·rw [aK (by simpa using y)] at e
      cases e
    subst hj
    rw [show j-ys.length=0 by lia] at e
    cases e
    exact gs j _ _ _ g4 st
 ·have:i=n:=by lia
  subst this
  exact .inl ⟨aj _,k p ys H2 np sm hp hl hG⟩
end L2
namespace HT
open PySem PySem.Spec PyProof.Rows
section
variable {prog:Ac}{w:Ah}{A:Ae}{E:Ag→Ab→Prop}{s:Ab}
theorem cat_tup0 {t b:Aj}{ws:List Ag}{Q:Ag→Ab→Prop}(ht:IsTup s.heap t #[])(hb:IsTup s.heap b ws.toArray)(h:Q (.ref b) s):wpAny (model prog w) A (binaryOp .Add (.ref t) (.ref b)) Q E s:=by
 obtain ⟨⟨cls,dd,data,sl⟩,ho,hc,n,hd⟩:=id ht ;obtain ⟨⟨cls2,dd2,data2,sl2⟩,ho2,hc2,n2,hd2⟩:=id hb
 simp only at hc hd hc2 hd2 ;subst hc hd hc2 hd2
 exact concat_meets ⟨_,ho,rfl⟩ ⟨_,ho2,rfl⟩ ig seq_tuple_add fC fv (eY _ _) (tuple_addW0 t b #[] ws.toArray n n2 dd dd2 sl sl2 (by simp)) ⟨ho,ho2,h⟩
end
end HT
namespace L2
open PySem PySem.Spec PyProof.Rows
section
variable {X:Cx}
def rCatW (K:Aa):R2:=λx y H Q=>∃a b xs ys,x=.ref a∧y=.ref b∧SqT K H a xs∧SqT K H b ys∧xs.length+ys.length≤sizeLine ∧
 (xs=[]→Q (.ref b) H)∧(xs≠[]→ys=[]→Q (.ref a) H)∧(xs≠[]→ys≠[]→∀p,H p=none→Q (.ref p) (upd H p (.tup (xs++ys))))
theorem xq0:OpR X (binaryOp .Add) (rCatW X.K):=by
 intro pins s σ H x y v u Q I rx ry h
 obtain ⟨a,b,xs,ys,rfl,rfl,ha,hb,hz,q0,q1,q2⟩:=h
 by_cases hx:xs=[]
 ·subst hx
  cases rx
  cases ry
  obtain ⟨its,r1,p1,_⟩:=I.tuple ha
  obtain ⟨its2,r2,p2,_⟩:=I.tuple hb
  cases r1
  exact HT.cat_tup0 p1 p2 ⟨.ref b,H,I,rfl,q0 rfl⟩
 ·exact xq5 pins s σ H (.ref a) (.ref b) v u Q I rx ry ⟨a,b,xs,ys,rfl,rfl,ha,hb,hx,hz,q1 hx,q2 hx⟩
end
end L2
namespace L2
open PySem PySem.Spec PyProof.Rows
end L2
namespace L2
open PySem PySem.Spec PyProof.Rows
section
universe u1 u2 u3 u4 u5 u6
variable {α:Sort u1}{β:Sort u2}{γ:Sort u3}{δ:Sort u4}{ε:Sort u5}{ζ:Sort u6}
theorem ex2 {p:α→β→Prop}(a:α)(b:β)(h:p a b):∃x y,p x y:=⟨a,b,h⟩
theorem ex3 {p:α→β→γ→Prop}(a:α)(b:β)(c:γ)(h:p a b c):∃x y z,p x y z:=⟨a,b,c,h⟩
theorem ex4 {p:α→β→γ→δ→Prop}(a:α)(b:β)(c:γ)(d:δ)(h:p a b c d):∃x y z t,p x y z t:=⟨a,b,c,d,h⟩
theorem ex5 {p:α→β→γ→δ→ε→Prop}(a:α)(b:β)(c:γ)(d:δ)(e:ε)(h:p a b c d e):∃x y z t r,p x y z t r:=⟨a,b,c,d,e,h⟩
theorem ex6 {p:α→β→γ→δ→ε→ζ→Prop}(a:α)(b:β)(c:γ)(d:δ)(e:ε)(f:ζ)(h:p a b c d e f):∃x y z t r s,p x y z t r s:=⟨a,b,c,d,e,f,h⟩
end
section
variable {K:Aa}{σ:St}{H:Hp}{Q:VK}{i i2:Nat}{j j2:Int}{p p2:Aj}{xs ys:List V}{v:V}
theorem rdT (e:σ[i]?=some (some (.ref p)))(h:SqT K H p xs)(a:atI xs j=some v)(q:Q v H):tOp (rIxT K) (ju i) (tC (.int j)) σ H Q:=⟨_,e,p,xs,j,v,rfl,rfl,h,a,q⟩
theorem rdTT (e:σ[i]?=some (some (.ref p)))(h:SqT K H p xs)(a:atI xs j=some (.ref p2))(h2:SqT K H p2 ys)(a2:atI ys j2=some v)(q:Q v H):tOp (rIxT K) (tOp (rIxT K) (ju i) (tC (.int j))) (tC (.int j2)) σ H Q:=⟨_,e,p,xs,j,_,rfl,rfl,h,a,p2,ys,j2,v,rfl,rfl,h2,a2,q⟩
theorem rdL (e:σ[i]?=some (some (.ref p)))(e2:σ[i2]?=some (some (.int j)))(h:SqL K H p xs)(a:atI xs j=some v)(q:Q v H):tOp (wwc K) (ju i) (ju i2) σ H Q:=⟨_,e,_,e2,p,xs,j,v,rfl,rfl,h,a,q⟩
theorem rdLC (e:σ[i]?=some (some (.ref p)))(h:SqL K H p xs)(a:atI xs j=some v)(q:Q v H):tOp (wwc K) (ju i) (tC (.int j)) σ H Q:=⟨_,e,p,xs,j,v,rfl,rfl,h,a,q⟩
end
theorem tn2 (n:Nat):((n:Int)-1).toNat=n-1:=by lia
theorem tn1 {m:Int}(h:1≤m):(m-1).toNat=m.toNat-1:=by
 obtain ⟨n,rfl⟩:=fB (show 0≤m by lia)
 rw [tn2,bG]
theorem tn3 {m:Int}(h:1≤m):(m-1).toNat+1=m.toNat:=by
 rw [tn1 h]
 exact Nat.sub_add_cancel (Int.lt_toNat.mpr h)
theorem tnlt {m:Int}(h:1≤m):((m.toNat-1:Nat):Int)<m:=by
 rw [←tn1 h,b9 (by lia)]
 lia
theorem tnsum {r t:Int}(h0:0≤r)(h1:1+r<t):(1+r).toNat-1+((t-(1+r)).toNat-1+1)=t.toNat-1:=by
 rw [←tn1 (show 1≤1+r by lia),←tn1 (show 1≤t-(1+r) by lia),←tn1 (show 1≤t by lia),tn3 (show 1≤t-(1+r) by lia),←Int.toNat_add (by lia) (by lia)]
 congr 1
 lia
end L2
namespace L2
open PySem PySem.Spec PyProof.Rows
def Rows (q:Aj)(B:Hp)(L:List (List V))(ys:List V)(H:Hp):Prop:=Paired (λv xs=>∃a,v=.ref a∧a≠q∧B a=none∧H a=some (.lst xs)) ys L
theorem Paired.mono {α β:Type}{R S:α→β→Prop}(h:∀a b,R a b→S a b):∀ {xs:List α} {ys:List β},Paired R xs ys→Paired S xs ys
 |_,_,.nil=>.nil
 |_,_,.cons r t=>.cons (h _ _ r) (Paired.mono h t)
theorem Paired.app {α β:Type}{R:α→β→Prop}:∀ {xs xs':List α} {ys ys':List β},Paired R xs ys→Paired R xs' ys'→Paired R (xs++xs') (ys++ys')
 |_,_,_,_,.nil,h=>h
 |_,_,_,_,.cons r t,h=>.cons r (Paired.app t h)
theorem jy {H H':Hp}(s:Same H H'){a:Aj}(n:H' a=none):H a=none:=by
 cases e:H a with
 |none=>rfl
 |some o=>rw [s _ _ e] at n;cases n
def y6 (c:Nat→Bool)(xs:List V)(n:Nat):List V:=((List.range n).filter c).map λi=>xs.getD i .non
theorem W1 {K:Aa}{M:List Nat}{a:Aj}{xs:List V}{tt:TT}{te:TE}{σ:St}{H:Hp}{Q:VK}(c:Nat→Bool)(hS:SqL K H a xs)(hn:xs.length≤1000000)
  (ht:∀(i:Nat) (x:V) (H':Hp) (R:Bool→Hp→Prop),xs[i]?=some x→Same H H'→(∀H'',Same H' H''→R (c i) H'')→tt (zx M σ (some x)) H' R)
  (he:∀(i:Nat) (x:V) (H':Hp) (R:VK),xs[i]?=some x→c i=true→Same H H'→(∀H'',Same H' H''→R x H'')→te (zx M σ (some x)) H' R)
  (k:∀p H',H p=none→Same H H'→H' p=some (.lst (y6 c xs xs.length))→Q (.ref p) H'):qv3 (Itl K a) M tt te σ H Q:=by
 intro p np
 refine ⟨λi m ys H2=>i≤xs.length∧m=xs.length-i∧ys=y6 c xs i∧Same H H2∧H2 p=some (.lst ys),⟨xs.length,aV _,rfl,rfl,Same.upd np,qb⟩,?_⟩
 rintro i m ys H2 ⟨hi,rfl,rfl,sm,hp⟩
 refine ⟨hp,?_,?_⟩
 ·unfold y6
  rw [ag]
  have:=dH c (List.range i)
  rw [aH] at this
  have:(1000000:Nat)<sizeLine:=by decide
  lia
 ·by_cases hlt:i<xs.length
  ·have hx:xs[i]?=some xs[i]:=ae hlt
   refine .inr ⟨⟨xs,_,sm.sql hS,hx⟩,?_⟩
   rintro v H3 ⟨rfl,hv⟩
   have e:=aq (hx.symm.trans (hv xs (sm.sql hS)))
   subst e
   refine ht i _ _ _ hx sm λH4 s4=>?_
   have hp4:=s4 _ _ hp
   have hg:xs.getD i .non=xs[i]:=by rw [af,hx];rfl
   cases hc:c i with
   |true =>
    refine Z9 ?_
    refine he i _ _ _ hx hc (sm.trans s4) λH5 s5=>⟨s5 _ _ hp4,xs.length-(i+1),by lia,by lia,rfl,?_,λb o e=>?_,qb⟩
    ·unfold y6
     rw [cx,gJ,be]
     simp only [eT,hc,dz,List.filter_nil,aN,dJ,hg]
    ·rw [qr (q8 e np)]
     exact s5 _ _ (s4 _ _ (sm _ _ e))
   |false =>
    refine qw4 ?_
    refine ⟨hp4,xs.length-(i+1),by lia,by lia,rfl,?_,sm.trans s4,hp4⟩
    unfold y6
    rw [cx,gJ,be]
    simp only [eT,hc,aG,bE,List.filter_nil,dJ,bQ]
  ·have:i=xs.length:=by lia
   subst this
   exact .inl ⟨⟨xs,sm.sql hS,aj _⟩,k p H2 np sm hp⟩
end L2
namespace L2
open PySem PySem.Spec PyProof.Rows
def InnRI (J2:It)(M:List Nat)(tt:TT)(te:TE)(σ:St)(v:V)(p:Aj)(ys:List V)(H4:Hp)(Wx:List V→Hp→Prop):Prop:=∃W2:Nat→Nat→List V→Hp→Prop,(∃m2,W2 0 m2 ys H4) ∧
 ∀j m2 zs H5,W2 j m2 zs H5→H5 p=some (.lst zs)∧zs.length<sizeLine∧((J2.stop j H5∧Wx zs H5)∨(J2.go j H5∧∀u H6,J2.yld j H5 u H6 →
  tt (zq M σ (some v) (some u)) H6 λb H6'=>if b=true then te (zq M σ (some v) (some u)) H6' (λy H7=>H7 p=some (.lst zs)∧∃m2',m2'<m2∧W2 (j+1) m2' (zs++[y]) (upd H7 p (.lst (zs++[y])))) else H6' p=some (.lst zs)∧∃m2',m2'<m2∧W2 (j+1) m2' zs H6'))
def qv2 (J:It)(M:List Nat)(wi2:TI)(tt:TT)(te:TE)(σ:St)(H1:Hp)(Q:VK):Prop:=∀p,H1 p=none→∃W:Nat→Nat→List V→Hp→Prop,(∃m,W 0 m [] (upd H1 p (.lst []))) ∧
 ∀i m ys H2,W i m ys H2→H2 p=some (.lst ys)∧((J.stop i H2∧Q (.ref p) H2)∨(J.go i H2∧∀v H3,J.yld i H2 v H3 →
  wi2 (zq M σ (some v) none) H3 λJ2 H4=>InnRI J2 M tt te σ v p ys H4 λzs H5=>∃m',m'<m∧W (i+1) m' zs H5))
def xqv (M:List Nat)(wi wi2:TI)(tt:TT)(te:TE):TE:=λσ H Q=>wi σ H λJ H1=>qv2 J M wi2 tt te σ H1 Q
section
variable {X:Cx}{elt iter iter2 cd:Expr}{x y:Str}{px py pos:Pos}{scope:Scope}{cl:List (Str×Aj)}{M:List Nat}{wi wi2:TI}{tt:TT}{te:TE}
theorem qv9 (M:List Nat)(σ:St)(v:V):(zq M σ none none).length=(zq M σ (some v) none).length∧∀(k:Nat) z,(zq M σ none none)[k]?=some (some z)→(zq M σ (some v) none)[k]?=some (some z):=⟨rfl,λk z ez=>by
 match k,ez with
 |0,ez=>cases ez
 |1,ez=>cases ez
 |k+2,ez=>exact ez⟩
theorem qvf (M:List Nat)(σ:St)(v:Option V)(u:V):(zq M σ v none).length=(zq M σ v (some u)).length∧∀(k:Nat) z,(zq M σ v none)[k]?=some (some z)→(zq M σ v (some u))[k]?=some (some z):=⟨rfl,λk z ez=>by
 match k,ez with
 |0,ez=>exact ez
 |1,ez=>cases ez
 |k+2,ez=>exact ez⟩
def inrS (i1:Expr)(e:Expr)(acc:Ag)(env:Env)(c:Code):Sem PySem.Fin:=eval i1 env >>= λx=>standAt i1.pos >>= λ_=>foldedSetIterable i1 env x >>= λx=>holding [x] (pyIter x) >>= λit1=>runOwn (Code.compStart e 1 it1 acc env) env >>= λ_=>again c
theorem wu3 (elt t0 i0 t1 i1 cd:Expr)(scope:Scope)(pos:Pos)(it acc:Ag)(env:Env):compTurn (elt.ListComp [⟨t0,i0,[],0⟩,⟨t1,i1,[cd],0⟩] scope pos) 0 it acc env=(standAt i0.pos >>= λ_=>pyNext it >>= λr=>match r with|none=>pure (.done .next)|some v=>letOwnedTupleGo t0 it v >>= λ_=>assign t0 env v >>= λ_=>inrS i1 (elt.ListComp [⟨t0,i0,[],0⟩,⟨t1,i1,[cd],0⟩] scope pos) acc env (Code.compLoop (elt.ListComp [⟨t0,i0,[],0⟩,⟨t1,i1,[cd],0⟩] scope pos) 0 it acc env)):=rfl
theorem xwx (elt t0 i0 t1 i1 cd:Expr)(scope:Scope)(pos:Pos)(it acc:Ag)(env:Env):compTurn (elt.ListComp [⟨t0,i0,[],0⟩,⟨t1,i1,[cd],0⟩] scope pos) 1 it acc env=(standAt i1.pos >>= λ_=>pyNext it >>= λr=>match r with|none=>pure (.done .next)|some v=>letOwnedTupleGo t1 it v >>= λ_=>assign t1 env v >>= λ_=>qu1 cd env (qyh elt acc env (Code.compLoop (elt.ListComp [⟨t0,i0,[],0⟩,⟨t1,i1,[cd],0⟩] scope pos) 1 it acc env)) (again (Code.compLoop (elt.ListComp [⟨t0,i0,[],0⟩,⟨t1,i1,[cd],0⟩] scope pos) 1 it acc env))):=rfl
theorem wum {Y:Cx}{t0 i0 t1:Expr}{p:Aj}{c:Code}{σ:St}{H:Hp}{pins:List (Aj×Obj)}{s:Ab}{R2:It→Hp→Prop}{Post:Ab→Prop}(hi2:PI Y t1 iter2 wi2)(hs2:∀z,foldedSetIterable iter2 Y.env z=pure z)(J:Inv Y pins σ H s)(h:wi2 σ H R2)
  (go:∀(it2:Aj) (fp2:List Aj) (tn2:Nat→Heap→Prop) (J2:It) (H8:Hp) (s8:Ab),Inv Y pins σ H8 s8→Turn Y.prog Y.w Y.K t1 J2 fp2 it2 tn2→tn2 0 s8.heap→(∀b∈fp2,vz Y pins H8 b)→R2 J2 H8 →
   codeAny (model Y.prog Y.w) Y.A (.compLoop (elt.ListComp [⟨t0,i0,[],0⟩,⟨t1,iter2,[cd],0⟩] scope pos) 1 (.ref it2) (.ref p) Y.env) (λr s'=>match r with|.ok _=>Post s'|.error _=>False) s8) :
  wpAny (model Y.prog Y.w) Y.A (inrS iter2 (elt.ListComp [⟨t0,i0,[],0⟩,⟨t1,iter2,[cd],0⟩] scope pos) (.ref p) Y.env c) (λr s5=>r=Fin.again c∧Post s5) Y.xe s:=by
 refine aa (aL (hi2 _ s _ H _ J h) (λv1 s7 h7=>?_) λ_ _ z=>z)
 refine aa (cL ?_)
 rw [hs2]
 refine aa (ah (aa (b7 (aL h7 (λitv2 s8 h8=>?_) λ_ _ z=>z))))
 obtain ⟨it2,fp2,tn2,Jb,H8,rfl,I8,T2,t8,hfp2,hR⟩:=h8
 refine aa (wpAny_runOwn ?_)
 have loop2:=go it2 fp2 tn2 Jb H8 s8 I8 T2 t8 hfp2 hR
 refine eO (xwt loop2 λE2=>T2.self _ 0 _ _ _ t8 loop2) λr s' hr=>?_
 cases r with
 |ok f=>exact ah ⟨rfl,hr⟩
 |error e=>exact hr.elim
theorem wq4 (hc:X.calm=true)(hclos:closureFor scope X.env=pure cl)(hcap:CapAll X.env cl)(hhas:HasAll cl scope.names)(hix:CapIx X scope cl M)(hk:scope.kind=.function)
  (hnames:∀y∈scope.names,y.2=.local→scope.names.lookup y.1=some .local) (hx:scope.names.lookup x=some .local) (hy:scope.names.lookup y=some .local) (hnd:(qkr X x y M).Nodup) (hi:PI X (.Name x px) iter wi)
  (hi2:∀C s2 H2 fp pn,PI (x8 X scope cl x y M C s2 H2 fp pn) (.Name y py) iter2 wi2)
  (ht:∀C s2 H2 fp pn,PT (x8 X scope cl x y M C s2 H2 fp pn) cd tt) (he:∀C s2 H2 fp pn,PE (x8 X scope cl x y M C s2 H2 fp pn) elt te) (hs:∀z,foldedSetIterable iter X.env z=pure z) (hs2:∀env z,foldedSetIterable iter2 env z=pure z)
  {use:Option (Ag→Sem Unit)} {QQ:Ag→Ab→Prop} {pins:List (Aj×Obj)} {s:Ab} {σ:St} {H:Hp} {Q:VK} {ps:Pos} (I:Inv X pins σ H s) (h:wi σ H λJ H1=>qv2 J M wi2 tt te σ H1 Q)
  (fin:∀(C:Aj) (s2 s4:Ab) (H1 H2:Hp) (fp:List Aj),Inv X pins σ H1 s2→s2.heap.objs.size<C→(∀b∈fp,vz X pins H1 b)→Inv (x8 X scope cl x y M C s2 H1 fp (X.pn++pins)) [] (zq M σ none none) H2 s4→Q (.ref s2.heap.objs.size) H2 →
   compPost (model X.prog X.w) X.A X.xe use QQ (.ref s2.heap.objs.size) C (.ok .next) s4) :
  wpAny (model X.prog X.w) X.A (comprehension (.ListComp elt [⟨.Name x px,iter,[],0⟩,⟨.Name y py,iter2,[cd],0⟩] scope pos) scope X.env ps (newList []) false (eval iter X.env) use) QQ X.xe s:=by
 refine Qt hclos hhas hk hnames hi hs I h λit fp tn J H1 s2 C h3 tk I2 T t3 hfp hbl hob hR hlt keep hns hD=>?_
 obtain ⟨W,⟨m0,w0⟩,hW⟩:=hR s2.heap.objs.size (I2.hok.fresh (aj _))
 have hxl:(relabel scope X.env).names.lookup x=some .local:=cY hx
 have hyl:(relabel scope X.env).names.lookup y=some .local:=cY hy
 have hT:=hi2 C s2 H1 fp (X.pn++pins)
 have hE:=he C s2 H1 fp (X.pn++pins)
 have hC:=ht C s2 H1 fp (X.pn++pins)
 have g0:PG (x8 X scope cl x y M C s2 H1 fp (X.pn++pins)) (.Name x px) (Zj 0):=wt (i:=0) hnd rfl (.inl hxl) (.inr hxl)
 have g1:PG (x8 X scope cl x y M C s2 H1 fp (X.pn++pins)) (.Name y py) (Zj 1):=wt (i:=1) hnd rfl (.inl hyl) (.inr hyl)
 have fo:=Q5 (N:=qkr X x y M) (scope:=scope) hcap I2 hlt hfp hbl
 have I0:=I2.comp2 (x:=x) (y:=y) (tk:=tk) hcap hhas hix hk hlt keep hns hD hfp hob
 have fn:=λH2 s4 J4 q=>fin C s2 s4 H1 H2 fp I2 hlt hfp J4 q
 refine kr (Y:=x8 X scope cl x y M C s2 H1 fp (X.pn++pins)) (V:=λi n H2=>∃ys,W i n ys H2) (Qd:=Q (.ref s2.heap.objs.size)) (REST:=inrS iter2 _ (.ref s2.heap.objs.size) (compEnvC scope cl C X.env) _) T hc (λ_ _ z=>z) (wu3 ..) rfl rfl g0 fo (λi n H2 ⟨ys,w⟩=>?_) fn I0 ⟨[],w0⟩ t3 λb hb=>by rw [qr (aB (hbl b hb))];exact (hfp b hb).1
 obtain ⟨hp,hcase⟩:=hW i n ys H2 w
 refine hcase.imp id λ⟨hgo,hyy⟩=>⟨hgo,λv H3 yl=>⟨λσ4 H4=>σ4=zq M σ (some v) none∧H3=H4,⟨rfl,rfl⟩,λ_ _ e=>?_⟩⟩
 obtain ⟨rfl,rfl⟩:=e
 refine ⟨qv9 M σ v,λpins' s' J=>?_⟩
 refine wum hT (hs2 _) J (hyy v H3 yl) λit2 fp2 tn2 J2 H8 s8 I8 T2 t8 hfp2 ⟨W2,⟨m2,w2⟩,hW2⟩=>?_
 refine kr (Y:=x8 X scope cl x y M C s2 H1 fp (X.pn++pins)) (V:=λj n2 H9=>∃zs,W2 j n2 zs H9) (Qd:=λH9=>∃zs m',m'<n∧W (i+1) m' zs H9) (REST:=qu1 cd (compEnvC scope cl C X.env) (qyh elt (.ref s2.heap.objs.size) (compEnvC scope cl C X.env) _) (again _)) T2 hc (λ_ _ z=>z) (xwx ..) rfl rfl g1 (λH9 hn b hb=>⟨hn b hb,(hfp2 b hb).2⟩) (λj n2 H9 ⟨zs,w9⟩=>?_)
  (λH9 s9 J9 ⟨zs,m',hm',wq⟩=>⟨H9,J9,m',hm',zs,wq⟩) I8 ⟨ys,w2⟩ t8 λb hb=>(hfp2 b hb).1
 obtain ⟨hp9,hz9,hcase9⟩:=hW2 j n2 zs H9 w9
 refine hcase9.imp (λ⟨hst,m',hm',wq⟩=>⟨hst,zs,m',hm',wq⟩) λ⟨hgo9,hy9⟩=>⟨hgo9,λu H11 yl11=>⟨λσ4 H4=>σ4=zq M σ (some v) (some u)∧H11=H4,⟨rfl,rfl⟩,λ_ _ e=>?_⟩⟩
 obtain ⟨rfl,rfl⟩:=e
 refine ⟨qvf M σ (some v) u,λpins9 s9 J9=>?_⟩
 exact Qp hC J9 (hy9 u H11 yl11) (λs6 H6 J6 h6=>aL (W5 (N:=λzs H5=>∃m',m'<n2∧W2 (j+1) m' zs H5) (λ_ _ z=>z) hE J6 hz9 h6) (λr s5 ⟨e,H5,J5,zs,m',hm,w'⟩=>⟨e,H5,J5,m',hm,zs,w'⟩) λ_ _ z=>z)
  λs6 H6 J6 ⟨_,m',hm,w'⟩=>ah ⟨rfl,H6,J6,m',hm,zs,w'⟩
end
section
variable {X:Cx}{elt iter iter2 cd:Expr}{x y2:Str}{px py2 pos:Pos}{scope:Scope}{cl:List (Str×Aj)}{M:List Nat}{wi wi2:TI}{tt:TT}{te:TE}
theorem qkf {i:Nat}{y:Str}{py spos:Pos}(hN:X.N.Nodup)(hyi:X.N[i]?=some y)(hyl:Loc X.env.scope y)(hc:X.calm=true)(hclos:closureFor scope X.env=pure cl)(hcap:CapAll X.env cl)(hhas:HasAll cl scope.names)(hix:CapIx X scope cl M)(hk:scope.kind=.function)
  (hnames:∀y∈scope.names,y.2=.local→scope.names.lookup y.1=some .local) (hx:scope.names.lookup x=some .local) (hy2:scope.names.lookup y2=some .local) (hnd:(qkr X x y2 M).Nodup) (hi:PI X (.Name x px) iter wi) (hi2:∀C s2 H2 fp pn,PI (x8 X scope cl x y2 M C s2 H2 fp pn) (.Name y2 py2) iter2 wi2)
  (ht:∀C s2 H2 fp pn,PT (x8 X scope cl x y2 M C s2 H2 fp pn) cd tt) (he:∀C s2 H2 fp pn,PE (x8 X scope cl x y2 M C s2 H2 fp pn) elt te) (hs:∀z,foldedSetIterable iter X.env z=pure z:=by intro _;rfl) (hs2:∀env z,foldedSetIterable iter2 env z=pure z:=by intros;rfl)
  (hsw:swapsWith (.ListComp elt [⟨.Name x px,iter,[],0⟩,⟨.Name y2 py2,iter2,[cd],0⟩] scope pos) (some (.Name y py)) spos.line X.env=pure true:=by rfl) (hyf:X.fn y=true∨X.env.scope.names.lookup y=some .local:=by first | exact .inl rfl | exact .inr rfl | assumption) :
  PS X (.Assign [.Name y py] (.ListComp elt [⟨.Name x px,iter,[],0⟩,⟨.Name y2 py2,iter2,[cd],0⟩] scope pos) spos) (tAsg (xqv M wi wi2 tt te) (Zj i)):=by
 intro pins s σ H D I h
 rw [exec_Assign_Name_used _ _ _ _ hsw]
 refine aa (cL (aa ?_))
 refine aa (aL (wq4 hc hclos hcap hhas hix hk hnames hx hy2 hnd hi hi2 ht he hs hs2 (use:=some (assign (.Name y py) X.env)) (QQ:=λ_ s'=>SP X pins D .next s') I h λC s2 s4 H1 H2 fp I2 hlt hfp J4 hq=>?_) (λ_ s' hq=>ah (ah hq)) λ_ _ e=>e)
 have I4:Inv X pins σ H2 s4:=I2.uncomp2 (h':=s4.heap) (bf hlt) hfp J4 (gU _ _)
 have hCn:H2 C=none:=J4.free
 obtain ⟨mC,hnC,_⟩:=J4.loc
 obtain ⟨oC,esC,epC,hoC,hdC⟩:=id hnC
 have hCl:C≠X.env.locals:=λz=>aW _ (bg hlt (z▸I2.lt))
 have hCs:X.s₀.heap.objs.size≤C:=bB I2.sz (bf hlt)
 have hCc:∀y c,X.env.cells.lookup y=some c→c≠C:=λy c e z=>by
  obtain ⟨v,o,e1,_⟩:=I2.cell y c e
  exact aW _ (bg hlt (z▸al e1))
 have hCp:∀p∈X.pn++pins,p.1≠C:=λp hp z=>aW _ (bg hlt (z▸al (I2.pin p hp).1))
 have hCf:C∉frs X.stack:=λz=>by
  rcases aM.mp (I2.stkSub C z) with q|q
  ·exact hCl q
  ·obtain ⟨_,o,e1,_⟩:=I2.funs.mem (b:=C) q
   exact aW _ (bg hlt (al e1))
 have hCx:C∉X.fs:=λz=>by
  obtain ⟨_,o,e1,_⟩:=I2.funs.mem (b:=C) z
  exact aW _ (bg hlt (al e1))
 have I4p:Inv X (pins++[(C,oC)]) σ H2 s4:=⟨I4.ok,I4.os,I4.bare,I4.base,I4.loc,I4.cell,I4.free,I4.freeC,λp hp=>by
  rcases aU.mp hp with q|q
  ·exact I4.pin p (bW _ q)
  ·rcases aU.mp q with q|q
   ·exact I4.pin p (aF _ q)
   ·rw [aJ.mp q]
    exact ⟨hoC,hCn,hCl,hCx,λv z=>by rw [hdC.1] at z;cases z⟩,I4.hok,I4.len⟩
 show wpAny _ _ (assign (.Name y py) X.env (.ref s2.heap.objs.size)) _ _ _
 refine gR (ym I4p hN hyi hyl (show RelV (.ref s2.heap.objs.size) (.ref s2.heap.objs.size) from rfl) (λs5 I5=>?_) hyf)
 have hC5:=(I5.pin (C,oC) (aF _ (aF _ (.head _)))).1
 exact ⟨mC,⟨oC,esC,epC,hC5,hdC⟩,λh' hs'=>⟨_,H2,I5.unpinned.but hCn hCs hCl hCc hCp hs',hq⟩⟩
end
end L2
namespace L2
open PySem PySem.Spec PyProof.Rows
def Itd (a:Int)(n:Nat):It:=⟨λi _=>i<n,λi H x H'=>H'=H∧x=.int (a-i),λi _=>n≤i⟩
theorem wzb {P:Ac}{w:Ah}{K:Aa}{tg:Expr}(it:Aj)(a:Int)(n:Nat):Turn P w K tg (Itd a n) [it] it (λi h=>IsRangeIter h it (a+(i:Nat)*(-1)) ((n:Int)-(i:Nat)) (-1)) where
 mem:=by simp
 obj:=λi h st b hb=>by
  cases (aJ.mp hb)
  exact ⟨_,st,λv z=>nomatch (show Data.fields _=Data.cell v from z)⟩
 keep:=λi h h' st k=>k it (by simp) _ st
 item:=by
  intro X hP hw hK hc i pins s σ H E I hf st hg
  subst hP hw hK
  have hfi:=hf it (by simp)
  refine (Walks.range (prog:=X.prog) (w:=X.w) (I.ok.hd hc) it a (-1) n).item i s _ _ hg st λv h' tk hv st' kk=>?_
  obtain ⟨t,rfl⟩:=hv
  have I1:Inv X pins σ H { s with heap:=h',toks:=tk }:=I.turned (λb o hb e=>kk b o (by simpa using hb) e) hfi.1 hfi.2.1 hfi.2.2.2.1 hfi.2.2.2.2.1 hfi.2.2.2.2.2
  refine ⟨_,rfl,wxv (s:={ s with heap:=h',toks:=tk }) (n := "range_iterator") st' rfl rfl (by decide) ⟨.int (a-i),H,I1,⟨t,?_⟩,⟨rfl,rfl⟩,st',λb hb=>(hf b hb).1⟩⟩
  congr 1
  lia
 done:=by
  intro X hP hw hK hc i pins s σ H E I hf st hg
  subst hP hw hK
  have hfi:=hf it (by simp)
  exact wpAny_pyNext_range_end (I.ok.hd hc) st (by have:n≤i:=hg;lia) λh' eb=>⟨rfl,I.turned (t':=s.toks) (λb o hb e=>eb b o hb e) hfi.1 hfi.2.1 hfi.2.2.2.1 hfi.2.2.2.2.1 hfi.2.2.2.2.2⟩
 self:=λ_ _ _ _ _ st h=>wpAny_pyIter_rangeiter st h
section
variable {X:Cx}{tg:Expr}
theorem xwr {pins:List (Aj×Obj)}{σ:St}{H:Hp}{s:Ab}{R:It→Hp→Prop}{E:Ag→Ab→Prop}{a b:Int}{t u v:Tok}{tk:Nat}(I:Inv X pins σ H s)(h1:-(2 ^ 62)≤a)(h2:a<2 ^ 62)(h3:-(2 ^ 62)≤b)(h4:b<2 ^ 62)
  (q:R (Itd a (a-b).toNat) H):wpAny (model X.prog X.w) X.A (pyIter (.ref s.heap.objs.size)) (PIE X pins σ tg R) E { s with heap:=s.heap.push { cls:=.type "range",data:=.fields #[.int a t,.int b u,.int (-1) v] },toks:=tk }:=by
 refine wpAny_pyIter_range (IsRange.new ..) (PySem.W.small_down h1 h2 h3 h4) ?_
 generalize eh:s.heap.push { cls:=.type "range",data:=.fields #[.int a t,.int b u,.int (-1) v] }=h1
 have I1:Inv X pins σ H { s with heap:=h1,toks:=tk }:=I.kept λb o e=>by rw [←eh];exact ai _ e
 refine ⟨h1.objs.size,[h1.objs.size],_,_,H,rfl,I1.kept (t':=tk) λb o e=>ai _ e,wzb _ a (a-b).toNat,?_,λc hb=>?_,q⟩
 ·have e1:a+((0:Nat):Int)*(-1)=a:=by lia
  have e2:(((a-b).toNat:Nat):Int)-((0:Nat):Int)=Builtin.Range.rangeSize a b (-1):=by rw [PySem.W.rangeSize_downNat];lia
  show IsRangeIter _ _ (a+((0:Nat):Int)*(-1)) ((((a-b).toNat:Nat):Int)-((0:Nat):Int)) (-1)
  rw [e1,e2]
  exact az _ rfl
 ·cases (aJ.mp hb)
  exact I1.fpOk (aj _) (I1.hok.fresh (aj _))
def iRngD (ta:TA):TI:=λσ H R=>ta σ H λvs H1=>∃i j:Int,vs=[.int i,.int j,.int (-1)]∧(-(2 ^ 40)≤i∧i<2 ^ 40∧-(2 ^ 40)≤j∧j<2 ^ 40)∧R (Itd i (i-j).toNat) H1
theorem wv8 {a b c:Expr}{ta:TA}{p pos:Pos}(hg:Gl X "range")(hm:X.mg "range" = none)(ha:PA X [a,b,c] ta)(hs:starEach [a,b,c] X.env=(false,eval a X.env)::starEach [b,c] X.env:=by rfl)(hs2:(backTo pos (starEach [b,c] X.env)).any (·.1)=false:=by rfl) :
  PI X tg (.Call (.Name "range" p) [a,b,c] [] pos) (iRngD ta):=by
 intro pins s σ H R I h
 refine Call_ (yu I hg hm boot_range (bN (thn (ha pos pins s σ H _ I h) λus s1 ⟨vs,H1,I1,r1,q1⟩=>?_) hs hs2))
 obtain ⟨i,j,rfl,⟨q1,q2,q3,q4⟩,q⟩:=q1
 cases r1 with
 |cons r rr =>
  cases rr with
  |cons r' rr =>
   cases rr with
   |cons r'' rr =>
    cases rr
    obtain ⟨t,rfl⟩:=r
    obtain ⟨t',rfl⟩:=r'
    obtain ⟨t'',rfl⟩:=r''
    exact PySem.call_range_3 (by decide) (xwr I1 (by lia) (by lia) (by lia) (by lia) q) (Or.inl (PyProof.noPylong_small (by lia)))
end
theorem wud {a:Int}{n:Nat}{g:TG}{tb:TS}{D:Ends}{σ:St}{H:Hp}(Pv:Nat→St→Hp→Prop)(h0:Pv 0 σ H)
  (hs:∀i σ H,i<n→Pv i σ H→g (.int (a-i)) σ H λσ2 H2=>tb { D with nx:=Pv (i+1),ct:=Pv (i+1),bk:=D.nx } σ2 H2) (hd:∀σ H,Pv n σ H→D.nx σ H) :
  ∃W:Nat→Nat→St→Hp→Prop,(∃m,W 0 m σ H)∧∀i m σ H,W i m σ H →
   ((Itd a n).stop i H∧D.nx σ H)∨((Itd a n).go i H∧∃N:St→Hp→Prop,(∀σ' H',N σ' H'→∃m',m'<m∧W (i+1) m' σ' H')∧∀x H',(Itd a n).yld i H x H'→g x σ H' λσ2 H2=>tb { D with nx:=N,ct:=N,bk:=D.nx } σ2 H2):=by
 refine ⟨λi m σ H=>m=n-i∧i≤n∧Pv i σ H,⟨n,by simp,aV _,h0⟩,?_⟩
 rintro i m σ H ⟨rfl,hi,p⟩
 rcases bn i n with z|z
 ·refine .inr ⟨z,Pv (i+1),λσ' H' hp=>⟨n-(i+1),by lia,rfl,by lia,hp⟩,?_⟩
  rintro x H' ⟨rfl,rfl⟩
  exact hs i σ _ z p
 ·obtain rfl:i=n:=by lia
  exact .inl ⟨aj _,hd σ H p⟩
end L2
namespace L2
def Yq (S:Int)(p:Int×Int):Int:=p.1*S/p.2
theorem wx4 {S:Int}{p q:Int×Int}(hS:0≤S)(hp:1≤p.2)(hq:1≤q.2)(h:p.1*q.2≤q.1*p.2):Yq S p≤Yq S q:=by
 unfold Yq
 refine (fG (by lia)).mpr ?_
 have a1:p.1*S/p.2*p.2≤p.1*S:=iI _ (by lia)
 generalize p.1*S/p.2=k at a1 ⊢
 have a2:k*p.2*q.2≤p.1*S*q.2:=aR a1 (by lia)
 have a3:p.1*q.2*S≤q.1*p.2*S:=aR h hS
 have a4:k*q.2*p.2≤q.1*S*p.2:=by
  have e1:k*q.2*p.2=k*p.2*q.2:=by grind
  have e2:p.1*S*q.2=p.1*q.2*S:=by grind
  have e3:q.1*S*p.2=q.1*p.2*S:=by grind
  lia
 exact gK a4 (by lia)
theorem wxw {G:Int}{p q:Int×Int}(hp:1≤p.2)(hq:1≤q.2)(gp:p.2≤G)(gq:q.2≤G)(h:p.1*q.2<q.1*p.2):Yq (G*G) p<Yq (G*G) q:=by
 have hS:0≤G*G:=cZ (by lia) (by lia)
 have hb:p.2*q.2≤G*G:=iS gp gq (by lia) (by lia)
 unfold Yq
 generalize G*G=S at hS hb
 have a1:p.1*S/p.2*p.2≤p.1*S:=iI _ (by lia)
 refine (fG (by lia)).mpr ?_
 generalize p.1*S/p.2=k at a1 ⊢
 have a2:k*p.2*q.2≤p.1*S*q.2:=aR a1 (by lia)
 have a3:(p.1*q.2+1)*S≤q.1*p.2*S:=aR (by lia) hS
 have a4:(k+1)*q.2*p.2≤q.1*S*p.2:=by
  have e1:(k+1)*q.2*p.2=k*p.2*q.2+p.2*q.2:=by grind
  have e2:p.1*S*q.2+S=(p.1*q.2+1)*S:=by grind
  have e3:q.1*S*p.2=q.1*p.2*S:=by grind
  lia
 exact gK a4 (by lia)
def Wor (pt:Nat→Int×Int)(i j:Nat):Prop:=(pt i).1*(pt j).2<(pt j).1*(pt i).2∨((pt i).1*(pt j).2=(pt j).1*(pt i).2∧i<j)
theorem qu9 {pt:Nat→Int×Int}{G:Int}{i j:Nat}(hi:1≤(pt i).2)(hj:1≤(pt j).2)(gi:(pt i).2≤G)(gj:(pt j).2≤G)
  (h:Yq (G*G) (pt i)<Yq (G*G) (pt j)∨(Yq (G*G) (pt i)=Yq (G*G) (pt j)∧i<j)):Wor pt i j:=by
 have hS:0≤G*G:=cZ (by lia) (by lia)
 unfold Wor
 rcases Int.lt_trichotomy ((pt i).1*(pt j).2) ((pt j).1*(pt i).2) with c|c|c
 ·exact .inl c
 ·have k1:=wx4 hS hi hj (Int.le_of_eq c)
  have k2:=wx4 hS hj hi (Int.le_of_eq c.symm)
  exact .inr ⟨c,by lia⟩
 ·have:=wxw hj hi gj gi c
  lia
end L2
namespace L2
open PySem PySem.Spec PySem.Calls PySem.W PyProof.Rows
def vx:List Int→List Int→Bool
 |x::xs,y::ys=>if x=y then vx xs ys else decide (x<y)
 |_,_=>false
section
variable {prog:Ac}{w:Ah}{A:Ae}{E:Ag→Ab→Prop}{s:Ab}{Q:Bool→Ab→Prop}
theorem wx6:∀ {us vs:List Ag} {xs ys:List Int} (i:Nat),IntsAre us xs→IntsAre vs ys→Q (vx xs ys) s→KatLex prog w A true false Q (us.zip vs) i s
 |_,_,_,_,i,.nil,b,h=>by cases b <;> exact h
 |_,_,_,_,i,.cons _ _ _,.nil,h=>h
 |_,_,_,_,i,@IntsAre.cons x t us xs a,@IntsAre.cons y u vs ys b,h=>by
  show KatLex prog w A true false Q ((Value.int x t,Value.int y u)::us.zip vs) i s
  refine kat_cons (wpAny_eqBool_int ?_)
  refine kat_go (λe=>kat_yes ?_) λe=>kat_no ?_
  ·refine wx6 (i+1) a b ?_
   have e':x=y:=by simpa using e
   unfold vx at h
   rw [av e'] at h
   exact h
  ·have e':¬ x=y:=by simpa using e
   unfold vx at h
   rw [ao e'] at h
   by_cases c:i=0
   ·subst c
    exact oneLt_int h
   ·have ci:(true&&i==0)=false:=by simp [c]
    rw [ci]
    exact kat_one _ _ (lt_int h)
theorem lex_lt {x y:Aj}{us vs:List Ag}{xs ys:List Int}{ox oy:Obj}{n k:Nat}(hx:s.heap.get? x=some ox)(dx:ox.data=.seq us.toArray n)(hy:s.heap.get? y=some oy)(dy:oy.data=.seq vs.toArray k)
  (a:IntsAre us xs) (b:IntsAre vs ys) (hl:us.length=vs.length) (h:Q (vx xs ys) s):wpAny (model prog w) A (keyLt' (tuples' true) (.ref x) (.ref y)) Q E s:=by
 refine kat_lt hx dx hy dy ?_
 have e:decide (us.toArray.size<vs.toArray.size)=false:=by simp [hl]
 rw [e]
 exact wx6 0 a b h
end
theorem wxk:∀xs,vx xs xs=false
 |[]=>rfl
 |x::xs=>by unfold vx;rw [av rfl];exact wxk xs
theorem qzn:∀ {n:Nat} {xs ys zs:List Int},xs.length=n→ys.length=n→zs.length=n→vx xs ys=true→vx ys zs=true→vx xs zs=true
 |0,[],[],[],_,_,_,h,_=>h
 |n+1,x::xs,y::ys,z::zs,h1,h2,h3,a,b=>by
  unfold vx at a b ⊢
  by_cases e1:x=y
  ·rw [av e1] at a
   subst e1
   by_cases e2:x=z
   ·rw [av e2] at b ⊢
    exact qzn (by simpa using h1) (by simpa using h2) (by simpa using h3) a b
   ·rw [ao e2] at b ⊢
    exact b
  ·rw [ao e1] at a
   have:=cg a
   by_cases e2:y=z
   ·rw [av e2] at b
    subst e2
    rw [ao e1]
    exact a
   ·rw [ao e2] at b
    have:=cg b
    rw [ao (by lia)]
    exact aT (by lia)
theorem qkh:∀ {n:Nat} {xs ys:List Int},xs.length=n→ys.length=n→vx xs ys=true∨xs=ys∨vx ys xs=true
 |0,[],[],_,_=>.inr (.inl rfl)
 |n+1,x::xs,y::ys,h1,h2=>by
  unfold vx
  by_cases e:x=y
  ·subst e
   rw [av rfl,av rfl]
   rcases qkh (n:=n) (xs:=xs) (ys:=ys) (by simpa using h1) (by simpa using h2) with h|h|h
   ·exact .inl h
   ·exact .inr (.inl (by rw [h]))
   ·exact .inr (.inr h)
  ·rw [ao e,ao (λz=>e z.symm)]
   by_cases c:x<y
   ·exact .inl (aT c)
   ·exact .inr (.inr (aT (by lia)))
def kzL (ks:List (List Int))(x:List Int):Int:=((ks.countP λy=>vx y x:Nat):Int)
theorem qv0 {n:Nat}{ks:List (List Int)}{x y:List Int}(hn:∀k∈ks,k.length=n)(hx:x∈ks)(hy:y∈ks):kzL ks x<kzL ks y↔vx x y=true:=by
 have le:∀u v,u∈ks→v∈ks→vx u v=true→(ks.countP λk=>vx k u)<ks.countP λk=>vx k v:=λu v hu hv h=>by
  have sub:∀k∈ks,vx k u=true→vx k v=true:=λk hk e=>qzn (hn k hk) (hn u hu) (hn v hv) e h
  have e1:(ks.countP λk=>vx k u)≤(ks.countP λk=>vx k v&&!(k==u)):=by
   refine List.countP_mono_left λk hk e=>?_
   have:k≠u:=λz=>by rw [z,wxk] at e;cases e
   simp [sub k hk e,this]
  have e2:(ks.countP λk=>vx k v&&!(k==u))+(ks.countP λk=>vx k v&&(k==u))≤ks.countP λk=>vx k v:=by
   clear sub e1 hu hv hn hx hy
   induction ks with
   |nil=>simp
   |cons k r ih =>
    simp only [List.countP_cons]
    by_cases c1:vx k v=true <;> by_cases c2:(k==u)=true <;> simp [c1,c2] at ih ⊢ <;> lia
  have e3:0<ks.countP λk=>vx k v&&(k==u):=List.countP_pos_iff.mpr ⟨u,hu,by simp [h]⟩
  lia
 unfold kzL
 constructor
 ·intro h
  rcases qkh (hn x hx) (hn y hy) with c|c|c
  ·exact c
  ·rw [c] at h;lia
  ·have:=le y x hy hx c
   lia
 ·intro h
  have:=le x y hx hy h
  lia
end L2
namespace L2
open PySem PySem.Spec PySem.Calls PySem.W PyProof.Rows
inductive TK (h:Heap) (d:Nat):List Ag→List (List Int)→Prop
 |nil:TK h d [] []
 |cons {x:Aj} {o:Obj} {us:List Ag} {n:Nat} {xs:List Int} {ks:List Ag} {kss:List (List Int)} (ho:h.get? x=some o) (hc:o.cls=.type "tuple") (hd:o.data=.seq us.toArray n) (hi:IntsAre us xs) (hl:xs.length=d) (t:TK h d ks kss):TK h d (.ref x::ks) (xs::kss)
theorem TK.length {h:Heap}{d:Nat}{ks:List Ag}{kss:List (List Int)}(t:TK h d ks kss):ks.length=kss.length:=by
 induction t with
 |nil=>rfl
 |cons _ _ _ _ _ _ ih=>simp [ih]
theorem TK.lens {h:Heap}{d:Nat}{ks:List Ag}{kss:List (List Int)}(t:TK h d ks kss):∀k∈kss,k.length=d:=by
 induction t with
 |nil=>intro k hk;cases hk
 |cons _ _ _ _ hl _ ih=>intro k hk;rcases aM.mp hk with rfl|z;exact hl;exact ih k z
theorem TK.kept {h h':Heap}{d:Nat}{ks:List Ag}{kss:List (List Int)}(t:TK h d ks kss)(k:∀b o,h.get? b=some o→o.cls=.type "tuple" → h'.get? b=some o):TK h' d ks kss:=by
 induction t with
 |nil=>exact .nil
 |cons a b c e f _ ih=>exact .cons (k _ _ a b) b c e f ih
theorem TK.at_ {h:Heap}{d:Nat}{ks:List Ag}{kss:List (List Int)}(t:TK h d ks kss):∀i,i<kss.length→∃x o us n,ks.getD i .none=.ref x∧h.get? x=some o∧o.data=.seq us.toArray n∧IntsAre us (kss.getD i [])∧(kss.getD i []).length=d:=by
 induction t with
 |nil=>intro i hi;simp at hi
 |@cons x o us n xs ks kss a b c e f _ ih =>
  intro i hi
  cases i with
  |zero=>exact ⟨x,o,us,n,rfl,a,c,e,f⟩
  |succ i=>exact ih i (by simpa using hi)
theorem Qg {us:List Ag}{xs:List Int}(h:IntsAre us xs):us.length=xs.length:=by
 induction h with
 |nil=>rfl
 |cons _ _ _ ih=>simp [ih]
theorem TK.tups {h:Heap}{d:Nat}{ks:List Ag}{kss:List (List Int)}(t:TK h d ks kss)(hd:1≤d):∃fs,KatTups h ks fs∧fs.length=ks.length∧∀v∈fs,∃i t,v=Value.int i t:=by
 induction t with
 |nil=>exact ⟨[],trivial,rfl,λv hv=>by cases hv⟩
 |@cons x o us n xs ks kss a b c e f _ ih =>
  obtain ⟨fs,h1,h2,h3⟩:=ih
  cases e with
  |nil=>simp at f;lia
  |@cons i t us' xs' e'=>exact ⟨.int i t::fs,KatTups.cons a b c (by simp) h1,by simp [h2],λv hv=>by rcases aM.mp hv with rfl|z;exact ⟨i,t,rfl⟩;exact h3 v z⟩
section
variable {prog:Ac}{w:Ah}{A:Ae}{E:Ag→Ab→Prop}{s:Ab}{a kS:Aj}{vs ks:List Ag}{P:PySem.Fin→Ab→Prop}
end
end L2
namespace L2
open PySem PySem.Spec PySem.Calls PySem.W PyProof.Rows
section
variable {prog:Ac}{w:Ah}{A:Ae}{E:Ag→Ab→Prop}{s:Ab}{a kS:Aj}{vs ks:List Ag}{P:PySem.Fin→Ab→Prop}{f:Ag}
theorem ww8 {α:Type}{J:List Ag→List α→Ab→Prop}{body:Ag→PUnit→Sem (ForInStep PUnit)}
  (hb:∀x ks kss (s:Ab),vs[ks.length]?=some x→J ks kss s→wpAny (model prog w) A (body x ⟨⟩) (λr s'=>r=.yield ⟨⟩∧∃k xs,J (ks++[k]) (kss++[xs]) s') E s):∀(r ks:List Ag) (kss:List α) (s:Ab),vs=vs.take ks.length++r→ks.length≤vs.length →
   J ks kss s→wpAny (model prog w) A (forIn r PUnit.unit body) (λ_ s'=>∃ks kss,ks.length=vs.length∧J ks kss s') E s
 |[],ks,kss,s,hv,hl,j=>by
  rw [List.forIn_nil]
  refine ah ⟨ks,kss,?_,j⟩
  rw [bQ] at hv
  have:=cz List.length hv
  rw [ba] at this
  lia
 |x::r,ks,kss,s,hv,hl,j=>by
  rw [List.forIn_cons]
  have hlen:=cz List.length hv
  rw [am,ba,aQ] at hlen
  have hx:vs[ks.length]?=some x:=by
   rw [hv,aA (by rw [ba];lia),ba]
   have:ks.length-min ks.length vs.length=0:=by lia
   rw [this]
   rfl
  refine aa (aL (hb x ks kss s hx j) (λq s' hq=>?_) λ_ _ x=>x)
  obtain ⟨rfl,k,xs,j'⟩:=hq
  show wpAny (model prog w) A (forIn r PUnit.unit body) _ E s'
  refine ww8 hb r (ks++[k]) (kss++[xs]) s' ?_ (by rw [am,cf];lia) j'
  rw [am,cf,dr,hx]
  simpa using hv
def W3 (h:Heap)(a:Aj)(vs:List Ag):Heap:=((h.update a (Obj.mapSeq λ_=>(#[]:Array Ag))).push (seqObj "tuple" vs.toArray 0)).push (seqObj "list" #[] 0)
end
end L2
namespace L2
open PySem PySem.Spec PySem.Calls PySem.W PyProof.Rows
section
variable {X:Cx}{pins:List (Aj×Obj)}{σ:St}{H:Hp}{s:Ab}
theorem Inv.track {D:Aj}{o:HO}(I:Inv X pins σ H s)(hD:vz X pins H D)(new:ObjOk X.prog X.w (upd H D o) s.heap D o):Inv X pins σ (upd H D o) s:=by
 obtain ⟨hn,q2,q3,q4,q5,q6⟩:=hD
 refine I.call' (s':=s) (ch:=[D]) rfl ⟨λb u q _ _ _=>q,λb u q _ _ _=>⟨u.slots,q⟩,λb u q n hx=>?_,λb u q _=>⟨u,q⟩,λb xs q=>?_,λb u xs q=>?_,λb ps q=>⟨#[],?_⟩⟩ (λb u e=>?_) I.bare λb hb=>?_
 ·rw [qr (λz=>hx (by simp [z]))];exact n
 ·rw [qr (q8 q hn)];exact q
 ·rw [qr (q8 q hn)];exact q
 ·rw [qr (q8 q hn),q];simp
 ·by_cases hb:b=D
  ·subst hb;rw [qb] at e;cases e;exact new
  ·rw [qr hb] at e
   exact (I.hok b u e).stay (λc v _ q=>q) (λc q=>by rw [qr (q8 q hn)];exact q) λc xs q=>by rw [qr (q8 q hn)];exact q
 ·obtain rfl:b=D:=by simpa using hb
  exact ⟨q4,q2,q5,q6⟩
end
end L2
namespace L2
open PySem PySem.Spec PySem.Calls PySem.W PyProof.Rows
def wyb (X:Cx)(f:Ag)(ks:List Str)(r:List V→List V→Hp→VK→Prop):Prop :=
 ∀(pins:List (Aj×Obj)) (s:Ab) (σ:St) (H:Hp) (xs zs:List V) (us ws:List Ag) (Q:VK),Inv X pins σ H s→Vals xs us→Vals zs ws→r xs zs H Q →
  wpAny (model X.prog X.w) X.A (call f us (ks.zip ws)) (EP X pins σ Q) X.xe s
def tCBK (r:List V→List V→Hp→VK→Prop)(t tk:TA):TE:=λσ H Q=>t σ H λvs H1=>tk σ H1 λzs H2=>r vs zs H2 Q
section
variable {X:Cx}{x:Str}{p pos:Pos}{e:Expr}{es:List Expr}{kws:List Keyword}{t tk:TA}{id:String}{ks:List Str}{r:List V→List V→Hp→VK→Prop}
theorem wvb (hc:wyb X (.builtin id) ks r)(hg:Gl X x)(hm:X.mg x=none)(hv:bootBuiltins x=some (.builtin id))(ha:PA X (e::es) t)(hkw:PK X kws tk)
  (hall:(backToKw pos (keywordEach kws X.env)).all (·.1.isSome)=true:=by rfl) (hks:(backToKw pos (keywordEach kws X.env)).filterMap (·.1)=ks:=by rfl) (hn:x ≠ "__name__" := by decide) (hdb:(x==("__debug__" : Str))=false:=by decide)
  (he:starEach (e::es) X.env=(false,eval e X.env)::starEach es X.env:=by rfl)
  (hpl:(backTo pos (starEach (e::es) X.env)).any (·.1)=false:=by rfl) (hpk:(backToKw pos (keywordEach kws X.env)).any (·.1.isNone)=false:=by rfl):PE X (.Call (.Name x p) (e::es) kws pos) (tCBK r t tk):=by
 intro pins s σ H Q I h
 refine cV (yu I hg hm hv ?_ hn hdb)
 refine callWith_builtin_kwB hpl hpk (evalArgs_kw2 hall (thn (ha pos pins s σ H _ I h) λus s1 ⟨vs,H1,I1,r1,q⟩=>?_) he)
 refine thn (hkw pos pins s1 σ H1 _ I1 q) λws s2 ⟨zs,H2,I2,rz,q2⟩=>?_
 dsimp only [List.nil_append]
 rw [hks]
 exact hc pins s2 σ H2 vs zs us ws Q I2 r1 rz q2
end
end L2
namespace L2
open PySem PySem.Spec PyProof.Rows
def Tups (L:List (List Int))(ys:List V)(H:Hp):Prop:=Paired (λv xs=>∃a,v=.ref a∧H a=some (.tup (xs.map V.int))) ys L
theorem Tups.keep {L:List (List Int)}{ys:List V}{H H':Hp}(h:Tups L ys H)(k:∀a xs,H a=some (.tup xs)→H' a=some (.tup xs)):Tups L ys H' :=
 Paired.mono (λ_ _ ⟨a,e,f⟩=>⟨a,e,k a _ f⟩) h
theorem Tups.same {L:List (List Int)}{ys:List V}{H H':Hp}(h:Tups L ys H)(s:Same H H'):Tups L ys H':=h.keep λa xs e=>s a _ e
theorem Tups.upd {L:List (List Int)}{ys zs:List V}{H:Hp}{p:Aj}{o:HO}(h:Tups L ys H)(hp:H p=some (.lst zs)):Tups L ys (upd H p o):=h.keep λa xs e=>by
 rw [qr (λz=>by rw [z,hp] at e;cases e)]
 exact e
theorem Tups.snoc {L:List (List Int)}{ys:List V}{H:Hp}{a:Aj}{xs:List Int}(h:Tups L ys H)(ha:H a=some (.tup (xs.map V.int))):Tups (L++[xs]) (ys++[.ref a]) H:=Paired.app h (.cons ⟨a,rfl,ha⟩ .nil)
theorem Tups.get {L:List (List Int)}{ys:List V}{H:Hp}(h:Tups L ys H){i:Nat}{v:V}(e:ys[i]?=some v):∃a xs,v=.ref a∧L[i]?=some xs∧H a=some (.tup (xs.map V.int)):=by
 unfold Tups at h
 induction h generalizing i with
 |nil=>simp at e
 |cons r t ih =>
  cases i with
  |zero =>
   obtain ⟨a,rfl,f⟩:=r
   simp at e
   exact ⟨a,_,e.symm,rfl,f⟩
  |succ i=>exact ih (by simpa using e)
theorem Tups.len {L:List (List Int)}{ys:List V}{H:Hp}(h:Tups L ys H):ys.length=L.length:=bT h
section
variable {X:Cx}{K:Aa}
theorem wyy (hK:X.K=K):OpR X (binaryOp .Add) (rCatW K):=by
 subst hK
 exact xq0
end
def Zc (c:Int→Bool)(row vs:List Int):List (List Int):=(vs.filter c).map λv=>row++[v]
theorem qzu (c:Int→Bool)(row vs:List Int)(v:Int):Zc c row (vs++[v])=Zc c row vs++if c v=true then [row++[v]] else []:=by
 unfold Zc
 rw [gJ,be]
 congr 1
 by_cases h:c v=true
 ·rw [av h,eT,av h];rfl
 ·rw [ao h,eT,ao h];rfl
theorem qj4 (c:Int→Bool)(row vs:List Int):(Zc c row vs).length≤vs.length:=by
 unfold Zc
 rw [ag]
 exact dH _ _
def Wh (c:Int→Bool)(g:List Int→List Int)(L:List (List Int)):List (List Int):=L.flatMap λr=>Zc c r (g r)
theorem qy5 {c:Int→Bool}{g:List Int→List Int}:∀ {L:List (List Int)},(∀r∈L,(g r).length≤24)→(Wh c g L).length≤24*L.length
 |[],_=>aj _
 |r::L,h=>by
  have ih:=qy5 (c:=c) (g:=g) (L:=L) λr hr=>h r (.tail _ hr)
  have h1:=qj4 c r (g r)
  have h2:=h r (.head _)
  have e:Wh c g (r::L)=Zc c r (g r)++Wh c g L:=by unfold Wh;rw [List.flatMap_cons]
  rw [e,am,aQ]
  lia
theorem wzt (c:Int→Bool)(g:List Int→List Int){L:List (List Int)}{i:Nat}{r:List Int}(h:L[i]?=some r):Wh c g (L.take (i+1))=Wh c g (L.take i)++Zc c r (g r):=by
 unfold Wh
 rw [dr,h,gf]
 simp
theorem qyr {K:Aa}{M:List Nat}{q:Aj}{us:List V}{wi2:TI}{tt:TT}{te:TE}{σ:St}{H:Hp}{Q:VK}(L:List (List Int))(g:List Int→List Int)(c:Int→Bool)(hq:SqL K H q us)(hL:Tups L us H)(hn:L.length≤10000)(hg:∀r∈L,(g r).length≤24)
  (hw:∀(r:List Int) (a:Aj) (H':Hp) (R:It→Hp→Prop),r∈L→H' a=some (.tup (r.map V.int))→Same H H'→(∀b,SqL K H b ((g r).map V.int)→R (Itl K b) H')→wi2 (zq M σ (some (.ref a)) none) H' R)
  (ht:∀(r:List Int) (a:Aj) (u:Int) (H':Hp) (R:Bool→Hp→Prop),r∈L→u∈g r→Same H H'→R (c u) H'→tt (zq M σ (some (.ref a)) (some (.int u))) H' R)
  (he:∀(r:List Int) (a:Aj) (u:Int) (H':Hp) (R:VK),r∈L→u∈g r→c u=true→H' a=some (.tup (r.map V.int))→Same H H'→(∀b H'',Same H' H''→H'' b=some (.tup ((r++[u]).map V.int))→R (.ref b) H'')→te (zq M σ (some (.ref a)) (some (.int u))) H' R)
  (k:∀p ys H',H p=none→Same H H'→H' p=some (.lst ys)→Tups (Wh c g L) ys H'→Q (.ref p) H'):qv2 (Itl K q) M wi2 tt te σ H Q:=by
 have big:(1000000:Nat)<sizeLine:=by decide
 intro p np
 have upd2:∀ {H':Hp} {o:HO},Same H H'→Same H (upd H' p o):=λs b u e=>by
  rw [qr (q8 e np)]
  exact s b u e
 have tl:∀i,∀r∈L.take i,(g r).length≤24:=λi r hr=>hg r (da hr)
 have lu:=hL.len
 refine ⟨λi m ys H2=>i≤L.length∧m=L.length-i∧Same H H2∧H2 p=some (.lst ys)∧Tups (Wh c g (L.take i)) ys H2,⟨L.length,aV _,rfl,Same.upd np,qb,.nil⟩,?_⟩
 rintro i m ys H2 ⟨hi,rfl,s2,f2,t2⟩
 refine ⟨f2,?_⟩
 rcases bn i L.length with z|z
 ·have ev:us[i]?=some us[i]:=ae (by lia)
  obtain ⟨a,r,ea,er,fa⟩:=(hL.same s2).get ev
  have rm:r∈L:=aC er
  refine .inr ⟨⟨us,_,s2.sql hq,ev⟩,?_⟩
  rintro v H3 ⟨rfl,hv⟩
  have e:=aq (ev.symm.trans (hv us (s2.sql hq)))
  rw [ea] at e
  subst e
  refine hw r a H3 _ rm fa s2 λb hb=>?_
  have lg:((g r).map V.int).length=(g r).length:=ag _
  refine ⟨λj m2 zs H5=>j≤(g r).length∧m2=(g r).length-j∧Same H H5∧H5 a=some (.tup (r.map V.int))∧H5 p=some (.lst zs)∧Tups (Wh c g (L.take i)++Zc c r ((g r).take j)) zs H5,⟨(g r).length,aV _,rfl,s2,fa,f2,by rw [show Zc c r ((g r).take 0)=[] from rfl,bQ];exact t2⟩,?_⟩
  rintro j m2 zs H5 ⟨hj,rfl,s5,fa5,f5,t5⟩
  have lz:zs.length<sizeLine:=by
   have e1:=t5.len
   have e2:=qy5 (c:=c) (tl i)
   have e3:=qj4 c r ((g r).take j)
   have e4:=hg r rm
   rw [ba] at e2 e3
   rw [am] at e1
   lia
  refine ⟨f5,lz,?_⟩
  rcases bn j (g r).length with y|y
  ·have eu:(g r)[j]?=some (g r)[j]:=ae y
   have um:(g r)[j]∈g r:=bu _
   have eu':((g r).map V.int)[j]?=some (.int (g r)[j]):=by rw [ax,eu];rfl
   refine .inr ⟨⟨_,_,s5.sql hb,eu'⟩,?_⟩
   rintro u H6 ⟨rfl,hu⟩
   have e:=aq (eu'.symm.trans (hu _ (s5.sql hb)))
   subst e
   refine ht r a _ H6 _ rm um s5 ?_
   have ap:a≠p:=λw=>by rw [w,f5] at fa5;cases fa5
   have et:(g r).take (j+1)=(g r).take j++[(g r)[j]]:=by rw [dr,eu];rfl
   cases hc:c (g r)[j] with
   |true =>
    refine Z9 ?_
    refine he r a _ H6 _ rm um hc fa5 s5 λb' H7 s7 f7=>⟨s7 _ _ f5,(g r).length-(j+1),by lia,by lia,rfl,upd2 (s5.trans s7),by rw [qr ap];exact s7 _ _ fa5,qb,?_⟩
    rw [et,qzu,av hc,←aX]
    exact ((t5.same s7).upd (s7 _ _ f5)).snoc (by rw [qr (λw=>by rw [w,s7 _ _ f5] at f7;cases f7)];exact f7)
   |false =>
    refine qw4 ⟨f5,(g r).length-(j+1),by lia,by lia,rfl,s5,fa5,f5,?_⟩
    rw [et,qzu,ao (by rw [hc];exact aE),bQ]
    exact t5
  ·obtain rfl:j=(g r).length:=by lia
   refine .inl ⟨⟨_,s5.sql hb,by rw [lg];exact aj _⟩,L.length-(i+1),by lia,by lia,rfl,s5,f5,?_⟩
   rw [wzt c g er]
   rw [bv] at t5
   exact t5
 ·obtain rfl:i=L.length:=by lia
  rw [bv] at t2
  exact .inl ⟨⟨us,s2.sql hq,by lia⟩,k p ys H2 np s2 f2 t2⟩
end L2
namespace L2
open PySem PySem.Spec PySem.Calls PySem.W PyProof.Rows
def yp (w:Ah)(S:Aj)(ps:List (Int×Ag)):HO:=.ext λh=>SAt w h S ps
theorem Jt {P:Ac}{w:Ah}{H:Hp}{h:Heap}{S:Aj}{ps:List (Int×Ag)}(x:SAt w h S ps):ObjOk P w H h S (yp w S ps):=⟨x,let ⟨o,_,_,e,_⟩:=x;⟨o,e⟩,λh1 h2 a k=>a.at_ k⟩
def PsT (P:Ac)(w:Ah)(H:Hp)(ps:List (Int×Ag))(L:List (List Int)):Prop:=Paired (λp (xs:List Int)=>∃a,p=((KD P w).hash (xs.map Sum.inl),Value.ref a)∧H a=some (.tup (xs.map V.int))) ps L
def PsI (P:Ac)(w:Ah)(ps:List (Int×Ag))(ns:List Int):Prop:=Paired (λp (n:Int)=>∃t,p=((intKind P w).hash n,Value.int n t)) ps ns
theorem wxg (xs:List Int):(xs.map (Sum.inl:Int→Key)).map kV=xs.map V.int:=by
 rw [bP]
 rfl
theorem xww {xs ys:List Int}(h:xs.map (Sum.inl:Int→Key)=ys.map Sum.inl):xs=ys:=(List.map_inj_right λa b e=>Sum.inl.inj e).mp h
theorem PsT.kp {P:Ac}{w:Ah}{H:Hp}{h:Heap}(ok:HOk P w H h):∀ {ps:List (Int×Ag)} {L:List (List Int)},PsT P w H ps L→KP P w h ps (L.map λxs=>xs.map Sum.inl)
 |_,_,.nil=>.nil
 |_,_,.cons ⟨a,e,f⟩ t=>.cons ⟨a,e,Ys ok (by rw [wxg];exact f)⟩ (PsT.kp ok t)
theorem PsT.keep {P:Ac}{w:Ah}{H H':Hp}{ps:List (Int×Ag)}{L:List (List Int)}(h:PsT P w H ps L)(k:∀a xs,H a=some (.tup xs)→H' a=some (.tup xs)):PsT P w H' ps L :=
 Paired.mono (λ_ _ ⟨a,e,f⟩=>⟨a,e,k a _ f⟩) h
theorem PsT.len {P:Ac}{w:Ah}{H:Hp}{ps:List (Int×Ag)}{L:List (List Int)}(h:PsT P w H ps L):ps.length=L.length:=bT h
theorem PsI.len {P:Ac}{w:Ah}{ps:List (Int×Ag)}{L:List Int}(h:PsI P w ps L):ps.length=L.length:=bT h
theorem Paired.perm {α β:Type}{R:α→β→Prop}{ps ps':List α}{L:List β}(p:ps'.Perm ps)(h:Paired R ps L):∃L',L'.Perm L∧Paired R ps' L':=by
 induction p generalizing L with
 |nil =>
  cases h
  exact ⟨[],.refl _,.nil⟩
 |cons x _ ih =>
  cases h with
  |cons r t =>
   obtain ⟨L',a,b⟩:=ih t
   exact ⟨_::L',a.cons _,.cons r b⟩
 |swap x y l =>
  cases h with
  |cons r t =>
   cases t with
   |cons r' t=>exact ⟨_,.swap _ _ _,.cons r' (.cons r t)⟩
 |trans _ _ ih1 ih2 =>
  obtain ⟨L1,a1,b1⟩:=ih2 h
  obtain ⟨L2,a2,b2⟩:=ih1 b1
  exact ⟨L2,a2.trans a1,b2⟩
abbrev qwu:=Aj→List (Int×Ag)→V→Hp→(List (Int×Ag)→Hp→Prop)→Prop
def Zq (X:Cx)(add:qwu):Prop:=∀(pins:List (Aj×Obj)) (s:Ab) (σ:St) (H:Hp) (p:Aj) (ps:List (Int×Ag)) (y:V) (yv:Ag) (Q:List (Int×Ag)→Hp→Prop),Inv X pins σ H s→RelV y yv→H p=some (yp X.w p ps)→add p ps y H Q →
 wpAny (model X.prog X.w) X.A (call (.builtin "set.add") [.ref p,yv]) (λ_ s'=>∃ps' H',Inv X pins σ H' s'∧Q ps' H') X.xe s
def addT (P:Ac)(w:Ah):qwu:=λp ps y H Q=>∃a xs L,y=.ref a∧H a=some (.tup (xs.map V.int))∧PsT P w H ps L∧ps.length<1099∧(xs∈L→Q ps H)∧(xs∉L→∀ps',ps'.Perm (((KD P w).hash (xs.map Sum.inl),.ref a)::ps)→Q ps' (upd H p (yp w p ps')))
def addI (P:Ac)(w:Ah):qwu:=λp ps y H Q=>∃(n:Int) (L:List Int),y=.int n∧PsI P w ps L∧ps.length<1000∧(n∈L→Q ps H)∧(n∉L→∀ps' t,ps'.Perm (((intKind P w).hash n,.int n t)::ps)→Q ps' (upd H p (yp w p ps')))
section
variable {prog:Ac}{w:Ah}{A:Ae}{E:Ag→Ab→Prop}{s:Ab}{S:Aj}{ps:List (Int×Ag)}
theorem xwg {L:List Int}(h:PsI prog w ps L):ElemsOf (intKind prog w) ps:=by
 induction h with
 |nil=>intro e he;cases he
 |@cons p n ps L r t ih =>
  obtain ⟨tk,rfl⟩:=r
  intro e he
  rcases aM.mp he with rfl|he
  ·exact ⟨⟨n,by simp [intKind,Value.isInt],rfl⟩,rfl⟩
  ·exact ih e he
theorem PsI.mem_of {L:List Int}{n:Int}(h:PsI prog w ps L):(∃j,ps.findIdx? (λe=>(intKind prog w).is n e.2)=some j)↔n∈L:=by
 constructor
 ·rintro ⟨j,ej⟩
  obtain ⟨hj,hp,_⟩:=List.findIdx?_eq_some_iff_getElem.mp ej
  have key:∀ {ps:List (Int×Ag)} {L:List Int},PsI prog w ps L→∀p∈ps,(intKind prog w).is n p.2=true→n∈L:=by
   intro ps L h
   induction h with
   |nil=>intro p hp;cases hp
   |@cons p m ps L r t ih =>
    obtain ⟨tk,rfl⟩:=r
    intro q hq hn
    rcases aM.mp hq with rfl|hq
    ·have:m=n:=by simpa [intKind,Value.isInt] using hn
     rw [this]
     exact .head _
    ·exact .tail _ (ih q hq hn)
  exact key h _ (bu hj) hp
 ·intro hn
  cases q:ps.findIdx? (λe=>(intKind prog w).is n e.2) with
  |some j=>exact ⟨j,rfl⟩
  |none =>
   have all:=List.findIdx?_eq_none_iff.mp q
   have key:∀ {ps:List (Int×Ag)} {L:List Int},PsI prog w ps L→n∈L→∃p∈ps,(intKind prog w).is n p.2=true:=by
    intro ps L h
    induction h with
    |nil=>intro hn;cases hn
    |@cons p m ps L r t ih =>
     obtain ⟨tk,rfl⟩:=r
     intro hn
     rcases aM.mp hn with rfl|hn
     ·exact ⟨_,.head _,by simp [intKind,Value.isInt]⟩
     ·obtain ⟨p,hp,e⟩:=ih hn
      exact ⟨p,.tail _ hp,e⟩
   obtain ⟨p,hp,e⟩:=key h hn
   have:=all p hp
   rw [e] at this
   cases this
theorem wkg {L:List Int}{n:Int}{t0:Tok}{Q:Bool→Ab→Prop}(P:SAt w s.heap S ps)(K:PsI prog w ps L)(hn:ps.length<1000)(hQ1:n∈L→∀tk,Q false { s with toks:=tk })
  (hQ2:n∉L→∀h' tk ps',Heap.SameBut S s.heap h'→SAt w h' S ps'→ps'.Perm (((intKind prog w).hash n,.int n t0)::ps)→Q true { s with heap:=h',toks:=tk }) :
  wpAny (model prog w) A (setAdd S (.int n t0)) Q E s:=by
 obtain ⟨o,ep,t,ho,hex,hd,T,few⟩:=P
 have bm:=T.big
 have hkey:(intKind prog w).is n (.int n t0)=true:=by simp [intKind,Value.isInt]
 have el:=xwg K
 have sb0:scanBound=4096:=rfl
 unfold setAdd
 refine b7 (aa ((intKind prog w).pyHash hkey ?_))
 generalize s.toks+1=tk
 unfold setAddHashed setAddHashedIn
 refine b7 (aa (bw (s:={ s with toks:=tk }) ho hd T.fits' ?_))
 dsimp only
 rw [byScan_of (knd:=intKind prog w) rfl (by rw [ar];lia) (by simpa using el)]
 simp only [dz]
 unfold setAddByScan
 refine aa ?_
 refine aa (dt ?_)
 refine aa (wpAny_setScan_of (s:={ s with toks:=tk }) hkey ho hd T.fits' (by simpa using el) ?_)
 rw [show ps.toArray.toList=ps from rfl]
 cases hr:ps.findIdx? (λe=>(intKind prog w).is n e.2) with
 |some j =>
  dsimp only
  exact ah (ah (hQ1 (K.mem_of.mp ⟨j,hr⟩) tk))
 |none =>
  have hno:n∉L:=λz=>by
   obtain ⟨j,ej⟩:=K.mem_of.mpr z
   rw [hr] at ej
   cases ej
  dsimp only
  obtain ⟨N,r1,r2,r3⟩:=T.free ((intKind prog w).hash n)
  generalize hh:(intKind prog w).hash n=h at r1 r2 r3 hQ2 ⊢
  have fs:t.freeSlot h=some (pos t h N,false):=by
   unfold SetTable.freeSlot SetTable.probe
   obtain ⟨m,e1,ok⟩:=Z3 (t:=t) (h:=h) (ha:=λ_=>h+1) N (10*SetTable.turns t.mask) (t.probeStart h) (by unfold SetTable.turns;lia) rfl r3 (.inl r2)
   rw [e1]
   cases ok with
   |empty hs=>rfl
   |cand m i hm hs hh=>lia
  obtain ⟨T1,hp1⟩:=T.put r1 r2 r3 (by rw [ag];lia)
  have pm:=yg ps (t.put (pos t h N)).2 (h,Value.int n t0)
  have pl:=pm.length_eq
  rw [aQ] at pl
  rw [←ww6 ps (t.put (pos t h N)).2 (h,Value.int n t0)] at T1
  have fits1:(t.put (pos t h N)).1.fits (xm ps (t.put (pos t h N)).2 (h,Value.int n t0)).toArray.size=true:=T1.fits'
  have ln:layNew t ps.toArray h (.int n t0)=((xm ps (t.put (pos t h N)).2 (h,Value.int n t0)).toArray,(t.put (pos t h N)).1,false,false):=by
   unfold layNew
   rw [fs]
   dsimp only
   rw [ww4]
   unfold SetTable.orStandIn
   rw [fits1]
   rfl
  rw [ln]
  dsimp only
  have hm:(t.put (pos t h N)).1.mask=t.mask:=rfl
  generalize (t.put (pos t h N)).2=p at T1 pm pl ⊢
  generalize (t.put (pos t h N)).1=t1 at T1 hm ⊢
  have big:100000≤sizeLine:=by decide
  have gw:∀ {s₁:Ab} {Q':Unit→Ab→Prop},Q' () s₁→wpAny (model prog w) A (match false with | true=>rule "set.scan.the-table-gave-way" | false=>pure ()) Q' E s₁:=λhq=>ah hq
  refine aa (gw ?_)
  rw [av T1.plain,hashByValue_scannable 8 rfl]
  refine aa (ah ?_)
  simp only [plainKind,dz]
  refine aa (fH (s:={ s with toks:=tk }) ho hd ?_ (by rw [ar];lia))
  have g1:(s.heap.update S (Obj.putSet (xm ps p (h,Value.int n t0)).toArray t1)).get? S=some { o with data:=.set (xm ps p (h,Value.int n t0)).toArray (ep+1) t1 }:=qvj ho hd
  have sb1:Heap.SameBut S s.heap (s.heap.update S (Obj.putSet (xm ps p (h,Value.int n t0)).toArray t1)):=ca _ _ _
  have fl:t1.fill=ps.length+1:=by
   unfold SetTable.fill
   rw [T1.dm,T1.pl,ag,pl]
   rfl
  generalize s.heap.update S (Obj.putSet (xm ps p (h,Value.int n t0)).toArray t1)=h1 at g1 sb1 ⊢
  by_cases tf:t1.tooFull=true
  ·rw [tf]
   simp only [iQ,i3,dz]
   have gr:SetTable.grown (xm ps p (h,Value.int n t0)).toArray.size=4*((xm ps p (h,Value.int n t0)).map (·.1)).length:=by
    unfold SetTable.grown
    rw [ao (by rw [ar];lia),ag,ar]
    lia
   obtain ⟨t2,order,f1,f2,T2,f4⟩:=T1.relay (by rw [ag,pl];lia)
   have hsz:(xm ps p (h,Value.int n t0)).toArray.map (·.1)=((xm ps p (h,Value.int n t0)).map (·.1)).toArray:=by simp
   have hin:∀i∈order.toList,i<(xm ps p (h,Value.int n t0)).length:=λi hi=>by
    have:=au.mp (f2.mem_iff.mp hi)
    rwa [ag] at this
   have oe:order.filterMap (λi=>(xm ps p (h,Value.int n t0)).toArray[i]?)=(order.toList.map λi=>(xm ps p (h,Value.int n t0)).getD i (0,.none)).toArray:=by
    apply dS.mp
    rw [Array.toList_filterMap,Wn _ _ hin]
   have ol:(order.toList.map λi=>(xm ps p (h,Value.int n t0)).getD i (0,.none)).length=(xm ps p (h,Value.int n t0)).length:=by
    rw [ag,f2.length_eq,aH,ag]
   have op:(order.toList.map λi=>(xm ps p (h,Value.int n t0)).getD i (0,.none)).Perm (xm ps p (h,Value.int n t0)):=by
    refine (f2.map _).trans ?_
    rw [ag]
    have:(List.range (xm ps p (h,Value.int n t0)).length).map (λi=>(xm ps p (h,Value.int n t0)).getD i (0,.none))=xm ps p (h,Value.int n t0):=by
     refine bM λi=>?_
     rw [ax]
     by_cases c:i<(xm ps p (h,Value.int n t0)).length
     ·rw [br c]
      simp [af,c]
     ·rw [aK (by simp;lia),aK (by lia)]
      rfl
    rw [this]
   have om:(order.toList.map λi=>(xm ps p (h,Value.int n t0)).getD i (0,.none)).map (·.1)=order.toList.map λi=>((xm ps p (h,Value.int n t0)).map (·.1)).getD i 0:=by
    rw [bP]
    refine dP λi hi=>?_
    have:=hin i hi
    simp [af,this]
   rw [←om] at T2
   have cov:coversAll order (xm ps p (h,Value.int n t0)).toArray.size=true:=by
    unfold coversAll
    rw [List.isPerm_iff,ar]
    have:=f2
    rwa [ag] at this
   have ra:relayAll t1 (xm ps p (h,Value.int n t0)).toArray (SetTable.grown (xm ps p (h,Value.int n t0)).toArray.size)=((order.toList.map λi=>(xm ps p (h,Value.int n t0)).getD i (0,.none)).toArray,t2,false):=by
    unfold relayAll
    rw [gr,hsz,f1]
    dsimp only
    rw [oe,cov]
    have:=T2.fits'
    rw [this]
    rfl
   rw [ra]
   dsimp only
   generalize (order.toList.map λi=>(xm ps p (h,Value.int n t0)).getD i (0,.none))=ps2 at T2 op ol
   refine aa (gw ?_)
   refine aa (fH (s:={ s with heap:=h1,toks:=tk }) g1 rfl ?_ (by rw [ar,ol];lia))
   refine ah ?_
   dsimp only
   have sb2:Heap.SameBut S h1 (h1.update S (Obj.putSet ps2.toArray t2)):=ca _ _ _
   have g2:(h1.update S (Obj.putSet ps2.toArray t2)).get? S=some { o with data:=.set ps2.toArray (ep+1+1) t2 }:=qvj g1 rfl
   refine ah (hQ2 hno _ tk ps2 (sb1.trans sb2) ⟨_,_,t2,g2,hex,rfl,T2,?_⟩ (op.trans pm))
   rw [ag] at f4
   lia
  ·rw [im] at tf
   rw [tf]
   simp only [gv,aG,bE]
   refine ah (ah (hQ2 hno h1 tk _ sb1 ⟨_,_,t1,g1,hex,rfl,T1,?_⟩ pm))
   unfold SetTable.tooFull at tf
   have:=of_decide_eq_false tf
   rw [fl] at this
   lia
theorem qyf {x:Ag}{Q:Ag→Ab→Prop}(hT:s.TypeIs (.ref S) "set")(h:wpAny (model prog w) A.in1 (setAdd S x) (λ_ s'=>Q .none s') E s):wpAny (model prog w) A (call (.builtin "set.add") [.ref S,x]) Q E s:=by
 refine cI F.slot_set_add hT F.entry_set_add ?_ (F.args_set_add_2 _ _)
 unfold Builtin.«set.add» Builtin.Frozenset.oneOther
 simp only [List.isEmpty_nil,bind_assoc]
 unfold Builtin.Frozenset.addrOf
 (refine aa (ah ?_) ;try dsimp only)
 (refine aa (ah ?_) ;try dsimp only)
 refine aa (aL h (λb s' hq=>?_) λ_ _ e=>e)
 show wpAny _ _ (ret Value.none) _ _ _
 exact ah ⟨_,rfl,hq⟩
end
section
variable {X:Cx}
theorem xxw (hu:X.A.units+64<cLine):Zq X (addT X.prog X.w):=by
 intro pins s σ H p ps y yv Q I ry hp h
 obtain ⟨a,xs,L,rfl,ha,hL,hn,q1,q2⟩:=h
 obtain rfl:yv=Value.ref a:=ry
 have P:SAt X.w s.heap p ps:=(I.hok p _ hp).1
 obtain ⟨_,its,rv,o,h1,h2,n,h3⟩:=(show ObjOk X.prog X.w H s.heap a (.tup (xs.map V.int)) from I.hok a _ ha)
 have K:=hL.kp I.hok
 have hx:(KD X.prog X.w).is s.heap (xs.map Sum.inl) a:=Ys I.hok (by rw [wxg];exact ha)
 refine qyf P.typeIs (wyj P K hx h1 h3 (λv hv=>?_) (by show X.A.in1.units<cLine;simp only [Around.in1];lia) hn (λz tk=>?_) λz h' tk ps' sb P' pm=>?_)
 ·exact (uy rv).all v hv
 ·refine ⟨ps,H,I.tok _,q1 ?_⟩
  obtain ⟨ys,hy,e⟩:=aO.mp z
  rw [←xww e]
  exact hy
 ·refine ⟨ps',_,qqx I (by rw [hp];trivial) sb (let ⟨o,_,_,e,_⟩:=P';⟨o,e⟩) (Jt P'),q2 (λz'=>z (aO.mpr ⟨xs,z',rfl⟩)) ps' pm⟩
theorem wu6:Zq X (addI X.prog X.w):=by
 intro pins s σ H p ps y yv Q I ry hp h
 obtain ⟨n,L,rfl,hL,hn,q1,q2⟩:=h
 obtain ⟨t,rfl⟩:=ry
 have P:SAt X.w s.heap p ps:=(I.hok p _ hp).1
 refine qyf P.typeIs (wkg P hL hn (λz tk=>⟨ps,H,I.tok _,q1 z⟩) λz h' tk ps' sb P' pm=>?_)
 exact ⟨ps',_,qqx I (by rw [hp];trivial) sb (let ⟨o,_,_,e,_⟩:=P';⟨o,e⟩) (Jt P'),q2 z ps' t pm⟩
end
end L2
namespace L2
open PySem PySem.Spec PySem.Calls PySem.W PyProof.Rows
theorem qyx {α:Type}:∀l:List α,l.zip l=l.map λv=>(v,v)
 |[]=>rfl
 |a::l=>by rw [List.zip_cons_cons,qyx l];rfl
theorem TK.at_' {h:Heap}{d:Nat}{ks:List Ag}{kss:List (List Int)}(t:TK h d ks kss):∀i,i<kss.length→∃x o us n,ks.getD i .none=.ref x∧h.get? x=some o∧o.cls=.type "tuple" ∧ o.data=.seq us.toArray n∧IntsAre us (kss.getD i [])∧(kss.getD i []).length=d:=by
 induction t with
 |nil=>intro i hi;simp at hi
 |@cons x o us n xs ks kss a b c e f _ ih =>
  intro i hi
  cases i with
  |zero=>exact ⟨x,o,us,n,rfl,a,b,c,e,f⟩
  |succ i=>exact ih i (by simpa using hi)
section
variable {prog:Ac}{w:Ah}{A:Ae}{E:Ag→Ab→Prop}{s:Ab}{S:Aj}{ps:List (Int×Ag)}
theorem qj0 {Q:List Ag→Ab→Prop}(hh:A.handled=none)(P:SAt w s.heap S ps)(hn:ps.length≤sizeLine)
  (h:∀h' tk (qs:List (Int×Ag)),(∀b o,s.heap.get? b=some o→h'.get? b=some o)→qs.Perm ps→s.heap.objs.size≤h'.objs.size→Q (qs.map (·.2)) { s with heap:=h',toks:=tk }):wpAny (model prog w) A (collect (.ref S)) Q E s:=by
 obtain ⟨o,ep,t,ho,hex,hd,T,few⟩:=P
 have hS:S<s.heap.objs.size:=al ho
 have R:SRaw (s.heap.push (seqObj "list" #[] 0)) S ps ep t:=⟨o,ai _ ho,hex,hd⟩
 have run:codeAny (model prog w) A (.builtin "proto.collect" ⟨[.ref S],[]⟩) (λr s'=>r=.ok (.ret (.ref s.heap.objs.size))∧∃h' tk acc' c',s'={ s with heap:=h',toks:=tk }∧(∀b o,b≠s.heap.objs.size→(s.heap.push (seqObj "list" #[] 0)).get? b=some o→h'.get? b=some o) ∧
   h'.get? s.heap.objs.size=some { cls:=.type "list",dict:=none,data:=.seq acc' c',slots:=#[] }∧ItemsOf (λi v=>∃p,(wk w S ep ps)[i]?=some p∧v=p.2) acc' ps.length) s:=by
  refine fZ entry_proto_collect' ?_
  show wpAny _ _ (do again (.builtin "list.__iadd__" ⟨[←newList [],.ref S],[]⟩)) _ _ s
  (refine aa (fQ (ah ⟨Code.quiet_builtin _ (by decide +kernel),fZ entry_list_iadd' ?_⟩)) ;rw [fW (show plainId "list.__iadd__" = true by decide +kernel) _])
  show wpAny _ _ (Builtin.List.listExtendWith (.ref s.heap.objs.size) (.ref S) (.ref s.heap.objs.size)) _ _ _
  exact kdl_extend (s:={ s with heap:=s.heap.push (seqObj "list" #[] 0) }) (R:=λr s'=>r=.ok (.ret (.ref s.heap.objs.size))∧∃h' tk acc' c',s'={ s with heap:=h',toks:=tk }∧(∀b o,b≠s.heap.objs.size→(s.heap.push (seqObj "list" #[] 0)).get? b=some o→h'.get? b=some o) ∧
   h'.get? s.heap.objs.size=some { cls:=.type "list",dict:=none,data:=.seq acc' c',slots:=#[] }∧ItemsOf (λi v=>∃p,(wk w S ep ps)[i]?=some p∧v=p.2) acc' ps.length) (xw6 T) (by simpa using hh) R s.heap.objs.size (eN hS) (eN hS) (.ref s.heap.objs.size) 0 (az _ rfl) (λh' tk acc' c' hk hS' hacc=>⟨rfl,h',tk,acc',c',rfl,hk,hS',hacc⟩) hn
 unfold collect
 refine aa (wpAny_runValue (eO run λr s' hr=>?_))
 obtain ⟨rfl,h',tk,acc',c',rfl,hk,hS',hacc⟩:=hr
 dsimp only
 refine aa (wpAny_load hS' ?_)
 refine ah ?_
 have e:acc'.toList=(wk w S ep ps).map (·.2):=by
  obtain ⟨a1,a2⟩:=hacc
  have hl:=(qqw w S ep ps).length_eq
  refine bM λi=>?_
  rw [ax]
  by_cases c:i<ps.length
  ·have hi:i<acc'.size:=by rw [a1];exact c
   obtain ⟨p,e1,e2⟩:=a2 i acc'[i] (aY hi)
   rw [aD,aY hi,e1,e2]
   rfl
  ·rw [aK (by rw [aS,a1];lia),aK (by lia)]
   rfl
 rw [e]
 refine h h' tk _ (λb o e=>hk b o (aB (al e)) (ai _ e)) (qqw w S ep ps) ?_
 exact bf (al hS')
theorem wqm {a:Aj}{vs:List Ag}{k d:Nat}{kss:List (List Int)}{P:PySem.Fin→Ab→Prop}(ho:s.heap.get? a=some (seqObj "list" vs.toArray k))(h6:vs.length≤100000)(hd:1≤d)(t:TK s.heap d vs kss)(nd:kss.Nodup)
  (h:∀(out:List Ag) (kss':List (List Int)),TK s.heap d out kss'→out.Perm vs→kss'.Perm kss→kss'.Pairwise (λx y=>vx x y=true)→P (.done (.ret .none)) { s with heap:=sortedHeap s.heap a vs out.toArray }):wpAny (model prog w) A (Builtin.«list.sort» ⟨[.ref a],[]⟩) P E s:=by
 have hkl:=t.length
 have ha:a<s.heap.objs.size:=al ho
 obtain ⟨e1,ho1⟩:∃e1,(s.heap.update a (Obj.mapSeq λ_=>(#[]:Array Ag))).get? a=some (seqObj "list" #[] e1):=⟨_,eD ho λ_=>#[]⟩
 have sz:(1000001:Nat)<sizeLine:=by decide
 rw [list_sort_plain]
 refine aa (listItems_at ho rfl ?_)
 refine aa (eG ho rfl ?_ (by rw [ar];lia) (aV _))
 refine aa (g8 ho1 rfl ?_)
 refine aa (wpAny_newTuple ?_ (by show vs.length≤_;lia))
 refine aa (fQ ?_ (aV _))
 refine b7 ?_
 show wpAny (model prog w) A _ P E { s with heap:=((s.heap.update a (Obj.mapSeq λ_=>(#[]:Array Ag))).push (seqObj "tuple" vs.toArray 0)).push (seqObj "list" #[] 0) }
 have ho6:(((s.heap.update a (Obj.mapSeq λ_=>(#[]:Array Ag))).push (seqObj "tuple" vs.toArray 0)).push (seqObj "list" #[] 0)).get? a=some (seqObj "list" #[] e1):=ai _ (ai _ ho1)
 have t6:TK (((s.heap.update a (Obj.mapSeq λ_=>(#[]:Array Ag))).push (seqObj "tuple" vs.toArray 0)).push (seqObj "list" #[] 0)) d vs kss:=t.kept λb o e c=>by
  refine ai _ (ai _ ?_)
  rw [bK _ _ _ _ (λz=>by rw [z,ho] at e;cases e;exact absurd c (by show ¬ Value.type "list" = Value.type "tuple";decide))]
  exact e
 have fin:∀(h':Heap) (out:List Ag) (kss':List (List Int)),h'=((s.heap.update a (Obj.mapSeq λ_=>(#[]:Array Ag))).push (seqObj "tuple" vs.toArray 0)).push (seqObj "list" #[] 0)→TK s.heap d out kss'→out.Perm vs→kss'.Perm kss→kss'.Pairwise (λx y=>vx x y=true)→P (.done (.ret .none)) { s with heap:=h'.update a (Obj.mapSeq λ_=>out.toArray) }:=λh' out kss' e a1 a2 a3 a4=>by
  subst e
  exact h out kss' a1 a2 a3 a4
 generalize ((s.heap.update a (Obj.mapSeq λ_=>(#[]:Array Ag))).push (seqObj "tuple" vs.toArray 0)).push (seqObj "list" #[] 0)=h6' at ho6 t6 fin ⊢
 have fin:=λout kss'=>fin h6' out kss' rfl
 dsimp only
 by_cases h2:vs.toArray.size<2
 ·rw [av h2,av h2]
  refine aa (ah ?_)
  rw [StateT.run_pure]
  refine aa (ah ?_)
  dsimp only
  have e:(arrOf (SortSt.mk' general' (vs.toArray.zip vs.toArray) #[] 7 none)).map (·.2)=vs.toArray:=by
   show (vs.toArray.zip vs.toArray).map (·.2)=vs.toArray
   match vs,h2 with
   |[],_=>simp
   |[v],_=>simp
   |_::_::_,h2=>simp at h2;lia
  rw [e]
  refine aa (g8 ho6 rfl ?_)
  refine aa (eG ho6 rfl ?_ (aV _) (by rw [ar];lia))
  simp only [eJ,aG,bE]
  refine ah (fin vs kss t (.refl _) (.refl _) ?_)
  have:kss.length<2:=by rw [←hkl];simpa using h2
  match kss,this with
  |[],_=>exact .nil
  |[x],_=>exact dW _ _
 ·rw [ao h2,ao h2]
  have hv2:2≤vs.length:=by simpa using h2
  obtain ⟨fs,t1,t2,t3⟩:=t6.tups hd
  refine aa (kat_kind (s:={ s with heap:=h6' }) (T:=.type "int") t1 (by lia) (λv hv=>?_) rfl ?_)
  ·obtain ⟨i,tk,rfl⟩:=t3 v hv
   exact Looks.of_pure rfl
  let ix:Ai→Nat:=λx=>vs.findIdx λu=>match u,x.1 with|.ref b,.ref c=>b==c|_,_=>false
  let kz:Ai→Int:=λx=>kzL kss (kss.getD (ix x) [])
  have inj:∀i j,i<kss.length→j<kss.length→kss.getD i []=kss.getD j []→i=j:=λi j hi hj e=>by
   rw [af,ae hi,af,ae hj] at e
   exact (List.getElem_inj nd).mp e
  have ref:∀i,i<vs.length→∃x o us n,vs[i]?=some (Value.ref x)∧h6'.get? x=some o∧o.data=.seq us.toArray n∧IntsAre us (kss.getD i [])∧(kss.getD i []).length=d:=λi hi=>by
   obtain ⟨x,o,us,n,b1,b2,b3,b4,b5⟩:=t6.at_ i (by lia)
   rw [af,ae hi] at b1
   exact ⟨x,o,us,n,by rw [ae hi];exact cz some b1,b2,b3,b4,b5⟩
  have sameKey:∀(i j:Nat) (x:Aj),vs[i]?=some (Value.ref x)→vs[j]?=some (.ref x)→i=j:=λi j x ei ej=>by
   have hi:=(ak.mp ei).1
   have hj:=(ak.mp ej).1
   obtain ⟨y,o,us,n,b1,b2,b3,b4,b5⟩:=ref i hi
   obtain ⟨y',o',us',n',c1,c2,c3,c4,c5⟩:=ref j hj
   rw [ei] at b1
   rw [ej] at c1
   cases b1
   cases c1
   rw [b2] at c2
   cases c2
   rw [b3] at c3
   have eu:us=us':=by
    have:us.toArray=us'.toArray:=(Data.seq.inj c3).1
    exact cz Array.toList this
   subst eu
   exact inj i j (by lia) (by lia) (b4.nums.symm.trans c4.nums)
  have ixv:∀(i:Nat) (x:Aj) (u:Ag),vs[i]?=some (Value.ref x)→ix (.ref x,u)=i:=λi x u ei=>by
   have hi:=(ak.mp ei).1
   refine (List.findIdx_eq hi).mpr ⟨?_,λj hj=>?_⟩
   ·have:vs[i]=.ref x:=by rw [ae hi] at ei;exact aq ei
    rw [this]
    simp
   ·obtain ⟨y,o,us,n,b1,_⟩:=ref j (by lia)
    have:vs[j]=.ref y:=by rw [ae (by lia)] at b1;exact aq b1
    rw [this]
    simp only [b8]
    intro z
    rw [z] at b1
    have:=sameKey j i x b1 ei
    lia
  let G:Ai→Prop:=λx=>∃(i:Nat) (y:Aj),vs[i]?=some (Value.ref y)∧x=(.ref y,.ref y)
  have mem:∀i,i<kss.length→kss.getD i []∈kss:=λi hi=>by
   rw [af,ae hi]
   exact bu _
  have kzv:∀(i:Nat) (y:Aj) (u:Ag),vs[i]?=some (Value.ref y)→kz (.ref y,u)=kzL kss (kss.getD i []):=λi y u e=>by
   show kzL kss (kss.getD (ix (.ref y,u)) [])=_
   rw [ixv i y u e]
  have O:Tm.yq (model prog w) A E { s with heap:=h6' } G kz (tuples' true):=by
   rintro x y st Q ⟨i,bx,ei,rfl⟩ ⟨j,by_,ej,rfl⟩ hk hQ
   have hi:=(ak.mp ei).1
   have hj:=(ak.mp ej).1
   obtain ⟨y1,o,us,n,b1,b2,b3,b4,b5⟩:=ref i hi
   obtain ⟨y2,o',us',n',c1,c2,c3,c4,c5⟩:=ref j hj
   rw [ei] at b1
   rw [ej] at c1
   cases b1
   cases c1
   rw [lt'_eq]
   refine aw (fP ?_)
   rw [hk]
   refine aw (gI (eF (lex_lt (s:={ s with heap:=h6' }) b2 b3 c2 c3 b4 c4 (by rw [Qg b4,Qg c4,b5,c5]) ⟨rfl,?_⟩)))
   refine ay ?_
   rw [kzv i _ _ ei,kzv j _ _ ej] at hQ
   have:=qv0 t.lens (mem i (by lia)) (mem j (by lia))
   have e:vx (kss.getD i []) (kss.getD j [])=decide (kzL kss (kss.getD i [])<kzL kss (kss.getD j [])):=by
    by_cases c:vx (kss.getD i []) (kss.getD j [])=true
    ·rw [c,aT (this.mpr c)]
    ·rw [bp (λz=>c (this.mp z))]
     simpa using c
   rw [e]
   exact hQ
  have zl:(vs.toArray.zip vs.toArray).toList=vs.map λv=>(v,v):=by
   rw [Array.toList_zip]
   exact qyx vs
  have kne:∀i j,i<kss.length→j<kss.length→i≠j→kzL kss (kss.getD i [])≠kzL kss (kss.getD j []):=λi j hi hj hij z=>by
   rcases qkh (t.lens _ (mem i hi)) (t.lens _ (mem j hj)) with c|c|c
   ·have:=(qv0 t.lens (mem i hi) (mem j hj)).mpr c
    lia
   ·exact hij (inj i j hi hj c)
   ·have:=(qv0 t.lens (mem j hj) (mem i hi)).mpr c
    lia
  have U:Tm.Un kz G (vs.toArray.zip vs.toArray):=by
   refine ⟨?_,λx hx=>?_⟩
   ·rw [zl,bV]
    refine bb.mpr λi j hi hj hij=>?_
    obtain ⟨y1,_,_,_,b1,_⟩:=ref i hi
    obtain ⟨y2,_,_,_,c1,_⟩:=ref j hj
    have f1:vs[i]=.ref y1:=by rw [ae hi] at b1;exact aq b1
    have f2:vs[j]=.ref y2:=by rw [ae hj] at c1;exact aq c1
    rw [f1,f2,kzv i _ _ b1,kzv j _ _ c1]
    exact kne i j (by lia) (by lia) (by lia)
   ·rw [zl] at hx
    obtain ⟨v,hv,rfl⟩:=aO.mp hx
    obtain ⟨i,ei⟩:=bL hv
    obtain ⟨y,_,_,_,b1,_⟩:=ref i (ak.mp ei).1
    rw [ei] at b1
    cases b1
    exact ⟨i,y,ei,rfl⟩
  refine aa (aL (Tm.Zt (Q:=λ_ st'=>(arrOf st').Perm (vs.toArray.zip vs.toArray)∧failedOf st'=none∧Tm.SL kz (arrOf st').toList) (st:=SortSt.mk' (tuples' true) (vs.toArray.zip vs.toArray) #[] 7 none) O U rfl rfl rfl rfl λst' a1 a2 a3=>⟨a1,a2,a3⟩) ?_ λ_ _ e=>e)
  rintro ⟨⟨⟩,st'⟩ s' ⟨rfl,b1,b2,b3⟩
  dsimp only
  have pl:=dF.mp b1
  rw [zl] at pl
  have op:((arrOf st').toList.map (·.2)).Perm vs:=by
   have:=pl.map (·.2)
   rwa [bP,show ((λx:Ag×Ag=>x.2)∘λv=>(v,v))=id from rfl,List.map_id] at this
  have oe:(arrOf st').map (·.2)=((arrOf st').toList.map (·.2)).toArray:=by
   apply dS.mp
   simp
  have tk2:∀l:List Ai,(∀x∈l,G x)→TK s.heap d (l.map (·.2)) (l.map λx=>kss.getD (ix x) []):=λl=>by
   induction l with
   |nil=>intro _;exact .nil
   |cons x l ih =>
    intro hx
    obtain ⟨i,y,ei,rfl⟩:=hx x (.head _)
    have hi:=(ak.mp ei).1
    obtain ⟨x0,o0,us0,n0,g1,g2,g2',g3,g4,g5⟩:=t.at_' i (by lia)
    rw [af,ei] at g1
    cases g1
    rw [aN,aN,ixv i y _ ei]
    exact .cons g2 g2' g3 g4 g5 (ih λz hz=>hx z (.tail _ hz))
  have gl:∀x∈(arrOf st').toList,G x:=λx hx=>by
   have:=pl.mem_iff.mp hx
   rw [←zl] at this
   exact U.g x this
  have kp:((arrOf st').toList.map λx=>kss.getD (ix x) []).Perm kss:=by
   refine (pl.map _).trans ?_
   rw [bP]
   have:vs.map ((λx=>kss.getD (ix x) [])∘λv=>(v,v))=kss:=by
    refine bM λi=>?_
    rw [ax]
    by_cases c:i<vs.length
    ·obtain ⟨y,_,_,_,e,_⟩:=ref i c
     rw [e]
     show some (kss.getD (ix (.ref y,.ref y)) [])=_
     rw [ixv i y _ e,af,ae (by lia)]
     rfl
    ·rw [aK (by lia),aK (by lia)]
     rfl
   rw [this]
  have kpw:((arrOf st').toList.map λx=>kss.getD (ix x) []).Pairwise (λx y=>vx x y=true):=by
   rw [bV]
   refine bZ (λ{x y} hx hy hxy=>?_) b3
   obtain ⟨i,a1,ei,rfl⟩:=gl x hx
   obtain ⟨j,a2,ej,rfl⟩:=gl y hy
   have hi:=(ak.mp ei).1
   have hj:=(ak.mp ej).1
   rw [kzv i _ _ ei,kzv j _ _ ej] at hxy
   rw [ixv i _ _ ei,ixv j _ _ ej]
   exact (qv0 t.lens (mem i (by lia)) (mem j (by lia))).mp hxy
  rw [oe]
  refine aa (g8 (s:={ s with heap:=h6' }) ho6 rfl ?_)
  refine aa (eG (s:={ s with heap:=h6' }) ho6 rfl ?_ (aV _) (by rw [ar,op.length_eq];lia))
  rw [b2]
  simp only [eJ,aG,bE]
  exact ah (fin _ _ (tk2 _ gl) op kp kpw)
end
end L2
namespace L2
open PySem PySem.Spec PySem.Calls PySem.W PyProof.Rows
section
variable {prog:Ac}{w:Ah}{A:Ae}{E:Ag→Ab→Prop}{s:Ab}
theorem Wv {h:Heap}{a:Aj}{vs:List Ag}{k:Nat}(ho:h.get? a=some (seqObj "list" vs.toArray k))(out:Array Ag):∃e,(sortedHeap h a vs out).get? a=some (seqObj "list" out e):=by
 obtain ⟨e1,ho1⟩:∃e1,(h.update a (Obj.mapSeq λ_=>(#[]:Array Ag))).get? a=some (seqObj "list" #[] e1):=⟨_,eD ho λ_=>#[]⟩
 exact ⟨_,eD (ai _ (ai _ ho1)) λ_=>out⟩
theorem Qy {h:Heap}{a b:Aj}{vs:List Ag}{o:Obj}(e:h.get? b=some o)(hb:b≠a)(out:Array Ag):(sortedHeap h a vs out).get? b=some o:=by
 unfold sortedHeap
 rw [bK _ _ _ _ hb]
 refine ai _ (ai _ ?_)
 rw [bK _ _ _ _ hb]
 exact e
theorem qxz {S:Aj}{ps:List (Int×Ag)}{Q:Ag→Ab→Prop}(hh:A.handled=none)(P:SAt w s.heap S ps)(hn:ps.length≤100000)
  (h:∀(h':Heap) (tk:Nat) (qs:List (Int×Ag)),(∀b o,s.heap.get? b=some o→h'.get? b=some o)→qs.Perm ps→s.heap.objs.size≤h'.objs.size →
   wpAny (model prog w) A.in1.in1 (Builtin.«list.sort» ⟨[.ref h'.objs.size],[]⟩) (λfin s'=>∃r,fin=.done (.ret r)∧Q (.ref h'.objs.size) s') E { s with heap:=h'.push (seqObj "list" (qs.map (·.2)).toArray 0),toks:=tk }) :
  wpAny (model prog w) A (call (.builtin "sorted") [.ref S]) Q E s:=by
 have sz:(100001:Nat)<sizeLine:=by decide
 refine Calls.call_function_entry kind_sorted plain_sorted entry_sorted (args_sorted1 _) ?_
 unfold Builtin.«sorted»
 refine aa (m:=checkCount "sorted" 1 1 _) (ah ?_)
 refine aa (qj0 (by simpa using hh) P (by lia) λh' tk qs hk pm hz=>?_)
 have hl:=pm.length_eq
 refine aa (fQ ?_ (by rw [ag];lia))
 have hoL:(h'.push (seqObj "list" (qs.map (·.2)).toArray 0)).get? h'.objs.size=some (seqObj "list" (qs.map (·.2)).toArray 0):=az _ rfl
 refine aa (b7 (cI slot_list_sort ⟨_,hoL,rfl⟩ entry_list_sort ?_ (args_list_sort _)))
 refine aL (h h' tk qs hk pm hz) (λfin s' hf=>?_) λ_ _ e=>e
 obtain ⟨r,rfl,hq⟩:=hf
 exact ⟨_,rfl,ah ⟨_,rfl,hq⟩⟩
end
section
variable {X:Cx}
theorem wkm {H:Hp}{s:Ab}{d:Nat}(ok:HOk X.prog X.w H s.heap):∀ {qs:List (Int×Ag)} {L:List (List Int)},PsT X.prog X.w H qs L→(∀r∈L,r.length=d)→TK s.heap d (qs.map (·.2)) L
 |_,_,.nil,_=>.nil
 |_,_,.cons ⟨a,e,f⟩ t,hl=>by
  subst e
  obtain ⟨_,us,rv,o,ho,hc,n,hd⟩:=(show ObjOk X.prog X.w H s.heap a (.tup _) from ok a _ f)
  exact .cons ho hc hd (uy rv) (hl _ (.head _)) (wkm ok t λr hr=>hl r (.tail _ hr))
theorem qxj (hc:X.calm=true):jk X (.builtin "sorted") (λxs H Q=>∃(S:Aj) (ps:List (Int×Ag)) (L:List (List Int)) (d:Nat),xs=[.ref S]∧H S=some (yp X.w S ps)∧PsT X.prog X.w H ps L∧L.Nodup∧L.length≤100000∧1≤d∧(∀r∈L,r.length=d) ∧
  ∀(l:Aj) (ys:List V) (L':List (List Int)),H l=none→L'.Perm L→L'.Pairwise (λx y=>vx x y=true)→Tups L' ys H→Q (.ref l) (upd H l (.lst ys))):=by
 intro pins s σ H xs us Q I r h
 obtain ⟨S,ps,L,d,rfl,hS,hL,nd,hn,hd,hl,q⟩:=h
 obtain ⟨u,rfl,ru⟩:=jh r
 cases (show u=Value.ref S from ru)
 have P:SAt X.w s.heap S ps:=(I.hok S _ hS).1
 have ll:=hL.len
 have sz:(100001:Nat)<sizeLine:=by decide
 refine qxz (I.ok.hd hc) P (by lia) λh' tk qs hk pm hz=>?_
 obtain ⟨L1,p1,q1⟩:=Paired.perm pm hL
 have q1:PsT X.prog X.w H qs L1:=q1
 have hoL:(h'.push (seqObj "list" (qs.map (·.2)).toArray 0)).get? h'.objs.size=some (seqObj "list" (qs.map (·.2)).toArray 0):=az _ rfl
 have I1:Inv X pins σ H { s with heap:=h',toks:=tk }:=I.kept hk
 have t1:TK h' d (qs.map (·.2)) L1:=wkm (s:={ s with heap:=h',toks:=tk }) I1.hok q1 λr hr=>hl r (p1.mem_iff.mp hr)
 have t2:=t1.kept (h':=h'.push (seqObj "list" (qs.map (·.2)).toArray 0)) λb o e _=>ai _ e
 have hlq:=pm.length_eq
 refine wqm (s:={ s with heap:=h'.push (seqObj "list" (qs.map (·.2)).toArray 0),toks:=tk }) hoL (by rw [ag];lia) hd t2 (p1.nodup_iff.mpr nd) λout kss' t3 op kp kpw=>⟨_,rfl,?_⟩
 have refs:∀v∈qs.map (·.2),∃(a:Aj) (xs:List Int),v=Value.ref a∧H a=some (.tup (xs.map V.int)):=λv hv=>by
  obtain ⟨p,hp,rfl⟩:=aO.mp hv
  obtain ⟨i,ei⟩:=bL hp
  have key:∀ {qs:List (Int×Ag)} {L:List (List Int)},PsT X.prog X.w H qs L→∀p∈qs,∃(a:Aj) (xs:List Int),p.2=Value.ref a∧H a=some (.tup (xs.map V.int)):=by
   intro qs L h
   induction h with
   |nil=>intro p hp;cases hp
   |cons r t ih =>
    obtain ⟨a,e,f⟩:=r
    intro p hp
    rcases aM.mp hp with rfl|hp
    ·exact ⟨a,_,by rw [e],f⟩
    ·exact ih p hp
  exact key q1 p hp
 have tr:∀ {out:List Ag} {kss:List (List Int)},TK (h'.push (seqObj "list" (qs.map (·.2)).toArray 0)) d out kss→(∀v∈out,v∈qs.map (·.2))→∃ys,Vals ys out∧Tups kss ys H:=by
  intro out kss t
  induction t with
  |nil=>intro _;exact ⟨[],.nil,.nil⟩
  |@cons x o us n xs ks kss a b c e f _ ih =>
   intro hv
   obtain ⟨ys,v1,v2⟩:=ih λv hv'=>hv v (.tail _ hv')
   obtain ⟨a',xs',ea,fa⟩:=refs _ (hv _ (.head _))
   cases ea
   obtain ⟨_,us',rv,o',ho',hc',n',hd'⟩:=(show ObjOk X.prog X.w H h' x (.tup _) from I1.hok x _ fa)
   have e9:o=o':=by
    have:=ai (seqObj "list" (qs.map (·.2)).toArray 0) ho'
    rw [a] at this
    exact aq this
   subst e9
   rw [c] at hd'
   have eu:us=us':=cz Array.toList (Data.seq.inj hd').1
   subst eu
   have ex:xs=xs':=e.nums.symm.trans (uy rv).nums
   subst ex
   exact ⟨.ref x::ys,.cons rfl v1,.cons ⟨x,rfl,fa⟩ v2⟩
 obtain ⟨ys,v1,v2⟩:=tr t3 λv hv=>op.mem_iff.mp hv
 obtain ⟨e,he⟩:=Wv hoL out.toArray
 have nl:H h'.objs.size=none:=I.hok.fresh hz
 refine ⟨.ref _,_,I.laid (t':=tk) (λb u hb=>Qy (ai _ (hk b u hb)) (aB (aI (al hb) hz)) _) hz (show ObjOk X.prog X.w _ _ _ (.lst ys) from ⟨?_,out,e,v1,he⟩),rfl,q _ ys kss' nl (kp.trans p1) kpw v2⟩
 rw [v1.length,op.length_eq,ag]
 lia
theorem qxd (hc:X.calm=true):jk X (.builtin "sorted") (λxs H Q=>∃(S:Aj) (ps:List (Int×Ag)) (ns:List Int),xs=[.ref S]∧H S=some (yp X.w S ps)∧PsI X.prog X.w ps ns∧ns.length<64 ∧
  ∀(l:Aj) (ms:List Int),H l=none→ms.Perm ns→ms.Pairwise (·≤·)→Q (.ref l) (upd H l (.lst (ms.map V.int)))):=by
 intro pins s σ H xs us Q I r h
 obtain ⟨S,ps,ns,rfl,hS,hL,hn,q⟩:=h
 obtain ⟨u,rfl,ru⟩:=jh r
 cases (show u=Value.ref S from ru)
 have P:SAt X.w s.heap S ps:=(I.hok S _ hS).1
 have ll:=hL.len
 have sz:(100001:Nat)<sizeLine:=by decide
 refine qxz (I.ok.hd hc) P (by lia) λh' tk qs hk pm hz=>?_
 obtain ⟨L1,p1,q1⟩:=Paired.perm pm hL
 have ia:∀ {qs:List (Int×Ag)} {L:List Int},PsI X.prog X.w qs L→IntsAre (qs.map (·.2)) L:=by
  intro qs L h
  induction h with
  |nil=>exact .nil
  |cons r t ih =>
   obtain ⟨tk,rfl⟩:=r
   exact .cons _ _ ih
 have hoL:(h'.push (seqObj "list" (qs.map (·.2)).toArray 0)).get? h'.objs.size=some (seqObj "list" (qs.map (·.2)).toArray 0):=az _ rfl
 have hlq:=pm.length_eq
 refine list_sort_tree (s:={ s with heap:=h'.push (seqObj "list" (qs.map (·.2)).toArray 0),toks:=tk }) hoL (ia q1) (by rw [ag];lia) λout ms a1 a2 a3=>⟨_,rfl,?_⟩
 obtain ⟨e,he⟩:=Wv hoL out
 have nl:H h'.objs.size=none:=I.hok.fresh hz
 refine ⟨.ref _,_,I.laid (t':=tk) (λb u hb=>Qy (ai _ (hk b u hb)) (aB (aI (al hb) hz)) _) hz (show ObjOk X.prog X.w _ _ _ (.lst (ms.map V.int)) from ⟨?_,out.toList,e,Yy a1,by simpa using he⟩),rfl,q _ ms nl (a2.trans p1) a3⟩
 rw [ag,a2.length_eq,p1.length_eq]
 lia
end
end L2
namespace L2
open PySem PySem.Spec PySem.Calls PyProof.Rows
section
variable {prog:Ac}{w:Ah}{A:Ae}{E:Ag→Ab→Prop}{s:Ab}{R:Result→Ab→Prop}
theorem wzx {Q:Ag→Ab→Prop}(h:Q (.ref s.heap.objs.size) { s with heap:=s.heap.push { cls:=.type "set",dict:=none,data:=.set #[] 0 (.fresh 0 0 (!byT w)) } }):wpAny (model prog w) A (newSet (.type "set")) Q E s:=by
 unfold newSet
 refine aa (Yb ?_)
 exact bU h
theorem wx2 {h:Heap}{S:Aj}(e:h.get? S=some { cls:=.type "set",dict:=none,data:=.set #[] 0 (.fresh 0 0 (!byT w)) }):SAt w h S []:=⟨_,0,_,e,⟨rfl,rfl,rfl⟩,rfl,Tab.fresh,by show 0*5<7*3;decide⟩
theorem wkx {elt:Expr}{target:Expr}{iter:Expr}{ifs:List Expr}{rest:List Comprehension}{scope:Scope}{pos:Pos}{it acc:Ag}{env:Env}(h0:codeAny (model prog w) A (.compLoop (.SetComp elt (⟨target,iter,ifs,0⟩::rest) scope pos) 0 it acc env) R s)
  (h:wpAny (model prog w) A (pyIter it) (λit' s'=>codeAny (model prog w) A (.compLoop (.SetComp elt (⟨target,iter,ifs,0⟩::rest) scope pos) 0 it' acc env) R s') (notedBy (model prog w) A env λx s'=>R (.error x) s') s) :
  codeAny (model prog w) A (.compStart (.SetComp elt (⟨target,iter,ifs,0⟩::rest) scope pos) 0 it acc env) R s:=by
 refine codeAny_of_tree ?_
 show wpAny _ _ ((compStart (.SetComp elt (⟨target,iter,ifs,0⟩::rest) scope pos) 0 it acc env).onRaise (λx=>do noteFrame x env;standAt theWindowsPlace)) _ _ s
 (refine wpAny_notedAt ?_ ;unfold compStart ;show wpAny _ _ (ask >>= _) _ _ s ;refine aa (eS (wpAny_ite ?_)))
 split
 ·(first | exact aa (ah (ah (And.intro rfl h0))) | exact ah (And.intro rfl h0))
 ·(first | exact aa (dt (aa (cL (aa (aL h (λit' s' h'=>ah (And.intro rfl h')) λ_ _ x=>x))))) | (refine aa (dt ?_);show wpAny _ _ (standAt iter.pos >>= _) _ _ s;exact aa (cL (aa (aL h (λit' s' h'=>ah (And.intro rfl h')) λ_ _ x=>x)))))
end
theorem qjp (elt:Expr)(gens:List Comprehension)(scope:Scope)(pos:Pos)(env:Env):eval (.SetComp elt gens scope pos) env=comprehension (.SetComp elt gens scope pos) scope env (firstIterPos gens pos) (newSet (.type "set")) (firstAsync gens) (firstIter gens env):=rfl
theorem qk8 (elt target iter:Expr)(cd:Expr)(scope:Scope)(pos:Pos)(it acc:Ag)(env:Env):compTurn (.SetComp elt [⟨target,iter,[cd],0⟩] scope pos) 0 it acc env=(standAt iter.pos >>= λ_=>pyNext it >>= λr=>match r with | none=>pure (.done .next) | some v=>letOwnedTupleGo target it v >>= λ_=>assign target env v >>= λ_=>(forIn [cd] true λc r=>if r=true then do let ok ←isTrue c env (eval c env);pure (ForInStep.yield ok) else pure (ForInStep.yield r)) >>= λok=>if ok=true then (eval elt env >>= λx=>standAt elt.pos >>= λ_=>call (.builtin "set.add") [acc,x] >>= λ_=>pure ()) >>= λ_=>again (.compLoop (.SetComp elt [⟨target,iter,[cd],0⟩] scope pos) 0 it acc env) else again (.compLoop (.SetComp elt [⟨target,iter,[cd],0⟩] scope pos) 0 it acc env)):=by rfl
section
variable {X:Cx}{pins:List (Aj×Obj)}{σ:St}{H:Hp}{s2:Ab}{scope:Scope}{cl:List (Str×Aj)}{x:Str}{M:List Nat}{fp:List Aj}{C:Aj}{h1:Heap}{tk:Nat}
theorem Inv.compO {oo:HO}(I:Inv X pins σ H s2)(hc:CapAll X.env cl)(hh:HasAll cl scope.names)(hm:CapIx X scope cl M)(hk:scope.kind=.function)(hC:s2.heap.objs.size<C)
  (keep:∀b o,s2.heap.get? b=some o→h1.get? b=some o) (hn:h1.Ns C λ_=>none) (hD:ObjOk X.prog X.w (upd H s2.heap.objs.size oo) h1 s2.heap.objs.size oo)
  (hfp:∀b∈fp,vz X pins H b) (hob:∀b∈fp,∃o,s2.heap.get? b=some o) :
  Inv (x9 X scope cl x M C s2 H fp (X.pn++pins)) [] (zx M σ none) (upd H s2.heap.objs.size oo) { s2 with heap:=h1,toks:=tk }:=I.compG (xs:=[x]) hc hh hm hk hC keep hn hD hfp hob
end
section
variable {X:Cx}{pins:List (Aj×Obj)}{σ:St}{H:Hp}{s2:Ab}{scope:Scope}{cl:List (Str×Aj)}{x y:Str}{M:List Nat}{fp:List Aj}{C:Aj}{h1:Heap}{tk:Nat}
theorem Inv.comp2O {oo:HO}(I:Inv X pins σ H s2)(hc:CapAll X.env cl)(hh:HasAll cl scope.names)(hm:CapIx X scope cl M)(hk:scope.kind=.function)(hC:s2.heap.objs.size<C)
  (keep:∀b o,s2.heap.get? b=some o→h1.get? b=some o) (hn:h1.Ns C λ_=>none) (hD:ObjOk X.prog X.w (upd H s2.heap.objs.size oo) h1 s2.heap.objs.size oo)
  (hfp:∀b∈fp,vz X pins H b) (hob:∀b∈fp,∃o,s2.heap.get? b=some o) :
  Inv (x8 X scope cl x y M C s2 H fp (X.pn++pins)) [] (zq M σ none none) (upd H s2.heap.objs.size oo) { s2 with heap:=h1,toks:=tk }:=I.compG (xs:=[x,y]) hc hh hm hk hC keep hn hD hfp hob
end
section
variable {Y:Cx}{elt cd:Expr}{te:TE}{tt:TT}{c:Code}{p:Aj}{σ:St}{H:Hp}{pins:List (Aj×Obj)}{s:Ab}
def addS (elt:Expr)(acc:Ag)(env:Env)(c:Code):Sem PySem.Fin:=(eval elt env >>= λx=>standAt elt.pos >>= λ_=>call (.builtin "set.add") [acc,x] >>= λ_=>pure ()) >>= λ_=>again c
theorem qjc {ys:List (Int×Ag)}{add:qwu}{N:List (Int×Ag)→Hp→Prop}(he:PE Y elt te)(ha:Zq Y add)(J:Inv Y pins σ H s)(h:te σ H λy H5=>H5 p=some (yp Y.w p ys)∧add p ys y H5 N) :
  wpAny (model Y.prog Y.w) Y.A (addS elt (.ref p) Y.env c) (λr s5=>r=Fin.again c∧∃H5,Inv Y pins σ H5 s5∧∃zs,N zs H5) Y.xe s:=by
 refine aa (aa (aL (he _ s _ H _ J h) (λyv s7 hr7=>?_) λ_ _ z=>z))
 obtain ⟨y,H4,J7,ry,hp4,hadd⟩:=hr7
 refine aa (cL (aa (aL (ha _ s7 _ H4 p ys y yv _ J7 ry hp4 hadd) (λ_ s8 hr8=>?_) λ_ _ z=>z)))
 obtain ⟨zs,H8,J8,n8⟩:=hr8
 exact ah (ah ⟨rfl,_,J8,zs,n8⟩)
end
section
variable {X:Cx}{elt iter cd tg:Expr}{x y2:Str}{px pos:Pos}{scope:Scope}{cl:List (Str×Aj)}{M:List Nat}{wi:TI}{te:TE}{tt:TT}{gg:TG}{add:qwu}{pins:List (Aj×Obj)}{σ:St}
theorem qwz (hclos:closureFor scope X.env=pure cl)(hhas:HasAll cl scope.names)(hk:scope.kind=.function)
  (hnames:∀y∈scope.names,y.2=.local→scope.names.lookup y.1=some .local) (hi:PI X tg iter wi) (hs:∀z,foldedSetIterable iter X.env z=pure z)
  {use:Option (Ag→Sem Unit)} {QQ:Ag→Ab→Prop} {s:Ab} {H:Hp} {ps:Pos} {R:It→Hp→Prop} (I:Inv X pins σ H s) (h:wi σ H R)
  (go:∀(it:Aj) (fp:List Aj) (tn:Nat→Heap→Prop) (J:It) (H1:Hp) (s2:Ab) (C:Aj) (h3:Heap) (tk:Nat),Inv X pins σ H1 s2→Turn X.prog X.w X.K tg J fp it tn→tn 0 h3→(∀b∈fp,vz X pins H1 b)→(∀b∈fp,b<s2.heap.objs.size)→(∀b∈fp,∃o,s2.heap.get? b=some o)→R J H1→s2.heap.objs.size<C →
   (∀b o,s2.heap.get? b=some o→h3.get? b=some o)→(h3.Ns C λ_=>none)→h3.get? s2.heap.objs.size=some { cls:=.type "set",dict:=none,data:=.set #[] 0 (.fresh 0 0 (!byT X.w)) } →
   codeAny (model X.prog X.w) X.A (.compLoop (.SetComp elt [⟨tg,iter,[cd],0⟩] scope pos) 0 (.ref it) (.ref s2.heap.objs.size) (compEnvC scope cl C X.env)) (compPost (model X.prog X.w) X.A X.xe use QQ (.ref s2.heap.objs.size) C) { s2 with heap:=h3,toks:=tk }) :
  wpAny (model X.prog X.w) X.A (comprehension (.SetComp elt [⟨tg,iter,[cd],0⟩] scope pos) scope X.env ps (newSet (.type "set")) false (eval iter X.env) use) QQ X.xe s:=by
 refine eZ (use:=use) rfl hs hclos hk hnames ?_
 refine thn (hi pins s σ H _ I h) λv s1 h1=>thn h1 λitv s2 h2=>?_
 obtain ⟨it,fp,tn,J,H1,rfl,I2,T,t0,hfp,hR⟩:=h2
 refine wzx ?_
 refine fT hhas.nocell (by intro y hy;cases hy) (λh3 hns hsb=>?_) hk
 dsimp only at hns hsb ⊢
 generalize hH2:s2.heap.push { cls:=.type "set",dict:=none,data:=.set #[] 0 (.fresh 0 0 (!byT X.w)) }=G2 at hns hsb ⊢
 have hC:G2.objs.size=s2.heap.objs.size+1:=by rw [←hH2,cN]
 have hlt:s2.heap.objs.size<G2.objs.size:=by lia
 have keep:∀b o,s2.heap.get? b=some o→h3.get? b=some o:=λb o e=>by
  rw [hsb.2 b (aB (bg (al e) hlt))]
  exact ai _ (hH2▸ai _ e)
 have hD:h3.get? s2.heap.objs.size=some { cls:=.type "set",dict:=none,data:=.set #[] 0 (.fresh 0 0 (!byT X.w)) }:=by
  rw [hsb.2 _ (aB hlt)]
  exact ai _ (hH2▸az _ rfl)
 have t3:=T.keep 0 _ _ t0 λb _ o e=>keep b o e
 have loop:=λtk=>go it fp tn J H1 s2 G2.objs.size h3 tk I2 T t3 hfp (λb hb=>let ⟨o,e,_⟩:=T.obj 0 _ t0 b hb;al e) (λb hb=>let ⟨o,e,_⟩:=T.obj 0 _ t0 b hb;⟨o,e⟩) hR hlt keep hns hD
 exact wkx (loop _) (T.self _ 0 _ _ _ t3 (loop _))
end
def qks (J:It)(M:List Nat)(tt:TT)(te:TE)(w:Ah)(add:qwu)(σ:St)(H1:Hp)(Q:VK):Prop:=∀p,H1 p=none→∃W:Nat→Nat→List (Int×Ag)→Hp→Prop,(∃m,W 0 m [] (upd H1 p (yp w p []))) ∧
 ∀i m ys H2,W i m ys H2→H2 p=some (yp w p ys)∧((J.stop i H2∧Q (.ref p) H2)∨(J.go i H2∧∀v H3,J.yld i H2 v H3 →
  tt (zx M σ (some v)) H3 λb H4=>if b=true then te (zx M σ (some v)) H4 (λy H5=>H5 p=some (yp w p ys)∧add p ys y H5 λzs H6=>∃m',m'<m∧W (i+1) m' zs H6) else H4 p=some (yp w p ys)∧∃m',m'<m∧W (i+1) m' ys H4))
def tSetI (M:List Nat)(wi:TI)(tt:TT)(te:TE)(w:Ah)(add:qwu):TE:=λσ H Q=>wi σ H λJ H1=>qks J M tt te w add σ H1 Q
section
variable {X:Cx}{elt iter cd:Expr}{x:Str}{px pos:Pos}{scope:Scope}{cl:List (Str×Aj)}{M:List Nat}{wi:TI}{tt:TT}{te:TE}{add:qwu}
theorem wwx (hc:X.calm=true)(hclos:closureFor scope X.env=pure cl)(hcap:CapAll X.env cl)(hhas:HasAll cl scope.names)(hix:CapIx X scope cl M)(hk:scope.kind=.function)
  (hnames:∀y∈scope.names,y.2=.local→scope.names.lookup y.1=some .local) (hx:scope.names.lookup x=some .local) (hnd:(j6 X x M).Nodup) (hi:PI X (.Name x px) iter wi)
  (ht:∀C s2 H2 fp pn,PT (x9 X scope cl x M C s2 H2 fp pn) cd tt) (he:∀C s2 H2 fp pn,PE (x9 X scope cl x M C s2 H2 fp pn) elt te) (ha:∀C s2 H2 fp pn,Zq (x9 X scope cl x M C s2 H2 fp pn) add) (hs:∀z,foldedSetIterable iter X.env z=pure z)
  {use:Option (Ag→Sem Unit)} {QQ:Ag→Ab→Prop} {pins:List (Aj×Obj)} {s:Ab} {σ:St} {H:Hp} {Q:VK} {ps:Pos} (I:Inv X pins σ H s) (h:wi σ H λJ H1=>qks J M tt te X.w add σ H1 Q)
  (fin:∀(C:Aj) (s2 s4:Ab) (H1 H2:Hp) (fp:List Aj),Inv X pins σ H1 s2→s2.heap.objs.size<C→(∀b∈fp,vz X pins H1 b)→Inv (x9 X scope cl x M C s2 H1 fp (X.pn++pins)) [] (zx M σ none) H2 s4→Q (.ref s2.heap.objs.size) H2 →
   compPost (model X.prog X.w) X.A X.xe use QQ (.ref s2.heap.objs.size) C (.ok .next) s4) :
  wpAny (model X.prog X.w) X.A (comprehension (.SetComp elt [⟨.Name x px,iter,[cd],0⟩] scope pos) scope X.env ps (newSet (.type "set")) false (eval iter X.env) use) QQ X.xe s:=by
 refine qwz hclos hhas hk hnames hi hs I h λit fp tn J H1 s2 C h3 tk I2 T t3 hfp hbl hob hR hlt keep hns hD=>?_
 obtain ⟨W,⟨m0,w0⟩,hW⟩:=hR s2.heap.objs.size (I2.hok.fresh (aj _))
 have hxl:(relabel scope X.env).names.lookup x=some .local:=cY hx
 refine kr (Y:=x9 X scope cl x M C s2 H1 fp (X.pn++pins)) (V:=λi n H2=>∃ys,W i n ys H2) (Qd:=Q (.ref s2.heap.objs.size)) (REST:=qu1 cd (compEnvC scope cl C X.env) (addS elt (.ref s2.heap.objs.size) (compEnvC scope cl C X.env) _) (again _)) T hc (λ_ _ z=>z) (qk8 ..) rfl rfl (wt (i:=0) hnd rfl (.inl hxl) (.inr hxl)) (Q5 hcap I2 hlt hfp hbl) (λi n H2 ⟨ys,w⟩=>?_) (λH2 s4 J4 q=>fin C s2 s4 H1 H2 fp I2 hlt hfp J4 q) (I2.compO hcap hhas hix hk hlt keep hns (Jt (wx2 hD)) hfp hob) ⟨[],w0⟩ t3 λb hb=>by rw [qr (aB (hbl b hb))];exact (hfp b hb).1
 obtain ⟨hp,hcase⟩:=hW i n ys H2 w
 refine hcase.imp id λ⟨hgo,hy⟩=>⟨hgo,λv H3 yl=>⟨λσ4 H4=>σ4=zx M σ (some v)∧H3=H4,⟨rfl,rfl⟩,λ_ _ e=>?_⟩⟩
 obtain ⟨rfl,rfl⟩:=e
 refine ⟨jt M σ v,λpins' s' J=>?_⟩
 exact Qp (ht _ _ _ _ _) J (hy v H3 yl) (λs6 H6 J6 h6=>aL (qjc (N:=λzs H5=>∃m',m'<n∧W (i+1) m' zs H5) (he _ _ _ _ _) (ha _ _ _ _ _) J6 h6) (λr s5 ⟨e,H5,J5,zs,m',hm,w'⟩=>⟨e,H5,J5,m',hm,zs,w'⟩) λ_ _ z=>z)
  λs6 H6 J6 ⟨_,m',hm,w'⟩=>ah ⟨rfl,H6,J6,m',hm,ys,w'⟩
theorem xxc (hc:X.calm=true)(hclos:closureFor scope X.env=pure cl)(hcap:CapAll X.env cl)(hhas:HasAll cl scope.names)(hix:CapIx X scope cl M)(hk:scope.kind=.function)
  (hnames:∀y∈scope.names,y.2=.local→scope.names.lookup y.1=some .local) (hx:scope.names.lookup x=some .local) (hnd:(j6 X x M).Nodup) (hi:PI X (.Name x px) iter wi)
  (ht:∀C s2 H2 fp pn,PT (x9 X scope cl x M C s2 H2 fp pn) cd tt) (he:∀C s2 H2 fp pn,PE (x9 X scope cl x M C s2 H2 fp pn) elt te) (ha:∀C s2 H2 fp pn,Zq (x9 X scope cl x M C s2 H2 fp pn) add) (hs:∀z,foldedSetIterable iter X.env z=pure z:=by intro _;rfl) :
  PE X (.SetComp elt [⟨.Name x px,iter,[cd],0⟩] scope pos) (tSetI M wi tt te X.w add):=by
 intro pins s σ H Q I h
 rw [qjp]
 refine wwx hc hclos hcap hhas hix hk hnames hx hnd hi ht he ha hs (use:=none) I h λC s2 s4 H1 H2 fp I2 hlt hfp J4 hq=>?_
 obtain ⟨m,hn,_⟩:=J4.loc
 exact ⟨m,hn,λh' hs'=>⟨.ref s2.heap.objs.size,H2,I2.uncomp (bf hlt) hfp J4 hs',rfl,hq⟩⟩
end
def qwn (J:It)(M:List Nat)(gg:TG)(tt:TT)(te:TE)(w:Ah)(add:qwu)(σ:St)(H1:Hp)(Q:VK):Prop:=∀p,H1 p=none→∃W:Nat→Nat→List (Int×Ag)→Hp→Prop,(∃m,W 0 m [] (upd H1 p (yp w p []))) ∧
 ∀i m ys H2,W i m ys H2→H2 p=some (yp w p ys)∧((J.stop i H2∧Q (.ref p) H2)∨(J.go i H2∧∀v H3,J.yld i H2 v H3 →
  gg v (zq M σ none none) H3 λσ4 H4=>(∃a b,σ4=zq M σ (some a) (some b))∧tt σ4 H4 λb H4=>if b=true then te σ4 H4 (λy H5=>H5 p=some (yp w p ys)∧add p ys y H5 λzs H6=>∃m',m'<m∧W (i+1) m' zs H6) else H4 p=some (yp w p ys)∧∃m',m'<m∧W (i+1) m' ys H4))
def tSetPI (M:List Nat)(wi:TI)(gg:TG)(tt:TT)(te:TE)(w:Ah)(add:qwu):TE:=λσ H Q=>wi σ H λJ H1=>qwn J M gg tt te w add σ H1 Q
section
variable {X:Cx}{elt iter tg cd:Expr}{x y2:Str}{pos:Pos}{scope:Scope}{cl:List (Str×Aj)}{M:List Nat}{wi:TI}{gg:TG}{tt:TT}{te:TE}{add:qwu}
theorem qjr (M:List Nat)(σ:St)(v u:V):(zq M σ none none).length=(zq M σ (some v) (some u)).length∧∀(k:Nat) z,(zq M σ none none)[k]?=some (some z)→(zq M σ (some v) (some u))[k]?=some (some z):=⟨rfl,λk z ez=>by
 match k,ez with
 |0,ez=>cases ez
 |1,ez=>cases ez
 |k+2,ez=>exact ez⟩
theorem qyq (hc:X.calm=true)(hclos:closureFor scope X.env=pure cl)(hcap:CapAll X.env cl)(hhas:HasAll cl scope.names)(hix:CapIx X scope cl M)(hk:scope.kind=.function)
  (hnames:∀y∈scope.names,y.2=.local→scope.names.lookup y.1=some .local) (hg:∀C s2 H2 fp pn,PG (x8 X scope cl x y2 M C s2 H2 fp pn) tg gg) (hi:PI X tg iter wi)
  (ht:∀C s2 H2 fp pn,PT (x8 X scope cl x y2 M C s2 H2 fp pn) cd tt) (he:∀C s2 H2 fp pn,PE (x8 X scope cl x y2 M C s2 H2 fp pn) elt te) (ha:∀C s2 H2 fp pn,Zq (x8 X scope cl x y2 M C s2 H2 fp pn) add) (hs:∀z,foldedSetIterable iter X.env z=pure z)
  {use:Option (Ag→Sem Unit)} {QQ:Ag→Ab→Prop} {pins:List (Aj×Obj)} {s:Ab} {σ:St} {H:Hp} {Q:VK} {ps:Pos} (I:Inv X pins σ H s) (h:wi σ H λJ H1=>qwn J M gg tt te X.w add σ H1 Q)
  (fin:∀(C:Aj) (s2 s4:Ab) (H1 H2:Hp) (fp:List Aj),Inv X pins σ H1 s2→s2.heap.objs.size<C→(∀b∈fp,vz X pins H1 b)→Inv (x8 X scope cl x y2 M C s2 H1 fp (X.pn++pins)) [] (zq M σ none none) H2 s4→Q (.ref s2.heap.objs.size) H2 →
   compPost (model X.prog X.w) X.A X.xe use QQ (.ref s2.heap.objs.size) C (.ok .next) s4) :
  wpAny (model X.prog X.w) X.A (comprehension (.SetComp elt [⟨tg,iter,[cd],0⟩] scope pos) scope X.env ps (newSet (.type "set")) false (eval iter X.env) use) QQ X.xe s:=by
 refine qwz hclos hhas hk hnames hi hs I h λit fp tn J H1 s2 C h3 tk I2 T t3 hfp hbl hob hR hlt keep hns hD=>?_
 obtain ⟨W,⟨m0,w0⟩,hW⟩:=hR s2.heap.objs.size (I2.hok.fresh (aj _))
 refine kr (Y:=x8 X scope cl x y2 M C s2 H1 fp (X.pn++pins)) (V:=λi n H2=>∃ys,W i n ys H2) (Qd:=Q (.ref s2.heap.objs.size)) (REST:=qu1 cd (compEnvC scope cl C X.env) (addS elt (.ref s2.heap.objs.size) (compEnvC scope cl C X.env) _) (again _)) T hc (λ_ _ z=>z) (qk8 ..) rfl rfl (λpn s σ H v u Q I r hq=>hg C s2 H1 fp (X.pn++pins) pn s σ H v u Q I r hq) (Q5 hcap I2 hlt hfp hbl) (λi n H2 ⟨ys,w⟩=>?_) (λH2 s4 J4 q=>fin C s2 s4 H1 H2 fp I2 hlt hfp J4 q) (I2.comp2O hcap hhas hix hk hlt keep hns (Jt (wx2 hD)) hfp hob) ⟨[],w0⟩ t3 λb hb=>by rw [qr (aB (hbl b hb))];exact (hfp b hb).1
 obtain ⟨hp,hcase⟩:=hW i n ys H2 w
 refine hcase.imp id λ⟨hgo,hy⟩=>⟨hgo,λv H3 yl=>?_⟩
 refine ⟨_,hy v H3 yl,λσ4 H4 hz=>?_⟩
 obtain ⟨⟨a,b,rfl⟩,hte⟩:=hz
 refine ⟨qjr M σ a b,λpins' s' J=>?_⟩
 exact Qp (ht _ _ _ _ _) J hte (λs6 H6 J6 h6=>aL (qjc (N:=λzs H5=>∃m',m'<n∧W (i+1) m' zs H5) (he _ _ _ _ _) (ha _ _ _ _ _) J6 h6) (λr s5 ⟨e,H5,J5,zs,m',hm,w'⟩=>⟨e,H5,J5,m',hm,zs,w'⟩) λ_ _ z=>z)
  λs6 H6 J6 ⟨_,m',hm,w'⟩=>ah ⟨rfl,H6,J6,m',hm,ys,w'⟩
theorem wyr (hc:X.calm=true)(hclos:closureFor scope X.env=pure cl)(hcap:CapAll X.env cl)(hhas:HasAll cl scope.names)(hix:CapIx X scope cl M)(hk:scope.kind=.function)
  (hnames:∀y∈scope.names,y.2=.local→scope.names.lookup y.1=some .local) (hg:∀C s2 H2 fp pn,PG (x8 X scope cl x y2 M C s2 H2 fp pn) tg gg) (hi:PI X tg iter wi)
  (ht:∀C s2 H2 fp pn,PT (x8 X scope cl x y2 M C s2 H2 fp pn) cd tt) (he:∀C s2 H2 fp pn,PE (x8 X scope cl x y2 M C s2 H2 fp pn) elt te) (ha:∀C s2 H2 fp pn,Zq (x8 X scope cl x y2 M C s2 H2 fp pn) add) (hs:∀z,foldedSetIterable iter X.env z=pure z:=by intro _;rfl) :
  PE X (.SetComp elt [⟨tg,iter,[cd],0⟩] scope pos) (tSetPI M wi gg tt te X.w add):=by
 intro pins s σ H Q I h
 rw [qjp]
 refine qyq hc hclos hcap hhas hix hk hnames hg hi ht he ha hs (use:=none) I h λC s2 s4 H1 H2 fp I2 hlt hfp J4 hq=>?_
 obtain ⟨m,hn,_⟩:=J4.loc
 exact ⟨m,hn,λh' hs'=>⟨.ref s2.heap.objs.size,H2,I2.uncomp2 (bf hlt) hfp J4 hs',rfl,hq⟩⟩
end
end L2
namespace L2
open PySem PySem.Spec PySem.Calls PyProof.Rows
theorem wvh {P:Ac}{w:Ah}{K:Aa}{M:List Nat}{q:Aj}{us:List V}{tt:TT}{te:TE}{σ:St}{H:Hp}{Q:VK}(L:List (List Int))(c:List Int→Bool)(hq:SqL K H q us)(hL:Tups L us H)(hn:L.length<1099)
  (ht:∀(xs:List Int) (a:Aj) (H':Hp) (R:Bool→Hp→Prop),xs∈L→H' a=some (.tup (xs.map V.int))→Same H H'→(∀H'',Same H' H''→R (c xs) H'')→tt (zx M σ (some (.ref a))) H' R)
  (he:∀(a:Aj) (H':Hp) (R:VK),R (.ref a) H'→te (zx M σ (some (.ref a))) H' R)
  (k:∀p ps H' L',H p=none→Same H H'→H' p=some (yp w p ps)→PsT P w H' ps L'→L'.Nodup→(∀xs,xs∈L'↔(xs∈L∧c xs=true))→L'.length≤L.length→Q (.ref p) H'):qks (Itl K q) M tt te w (addT P w) σ H Q:=by
 intro p np
 have ul:=hL.len
 refine ⟨λi m ps H2=>i≤L.length∧m=L.length-i∧Same H H2∧H2 p=some (yp w p ps)∧∃L',PsT P w H2 ps L'∧L'.Nodup∧L'.length≤i∧∀xs,xs∈L'↔(xs∈L.take i∧c xs=true),⟨L.length,aV _,rfl,Same.upd np,qb,[],.nil,iP,aj _,λxs=>by simp⟩,?_⟩
 rintro i m ps H2 ⟨hi,rfl,sm,hp,L',hT,hN,hl,hM⟩
 refine ⟨hp,?_⟩
 have hq2:SqL K H2 q us:=sm.sql hq
 by_cases hlt:i<L.length
 ·have hu:us[i]?=some us[i]:=ae (by lia)
  obtain ⟨a,xs,ea,ex,fa⟩:=hL.get hu
  refine .inr ⟨⟨us,_,hq2,hu⟩,?_⟩
  rintro v H3 ⟨rfl,hv⟩
  have e:=hv us hq2
  rw [hu] at e
  have e':=aq e
  subst e'
  rw [ea]
  have tk:L.take (i+1)=L.take i++[xs]:=by rw [dr,ex];rfl
  refine ht xs a _ _ (aC ex) (sm _ _ fa) sm λH4 s4=>?_
  have hT4:PsT P w H4 ps L':=hT.keep λb ys e=>s4 _ _ e
  have f4:H4 a=some (.tup (xs.map V.int)):=s4 _ _ (sm _ _ fa)
  cases hc:c xs with
  |true =>
   refine Z9 ?_
   refine he a H4 _ ⟨s4 _ _ hp,a,xs,L',rfl,f4,hT4,by rw [hT.len];lia,λz=>?_,λz ps' pm=>?_⟩
   ·refine ⟨L.length-(i+1),by lia,by lia,rfl,sm.trans s4,s4 _ _ hp,L',hT4,hN,by lia,λys=>?_⟩
    rw [tk,hM ys]
    constructor
    ·rintro ⟨h1,h2⟩
     exact ⟨bW _ h1,h2⟩
    ·rintro ⟨h1,h2⟩
     rcases aU.mp h1 with h1|h1
     ·exact ⟨h1,h2⟩
     ·rw [aJ.mp h1]
      exact (hM xs).mp z
   ·have ne:a≠p:=λz=>by rw [z,s4 _ _ hp] at f4;cases f4
    have base:PsT P w (upd H4 p (yp w p ps')) (((KD P w).hash (xs.map Sum.inl),.ref a)::ps) (xs::L'):=by
     refine .cons ⟨a,rfl,by rw [qr ne];exact f4⟩ (hT4.keep λb ys e=>?_)
     rw [qr (λz=>by rw [z,s4 _ _ hp] at e;cases e)]
     exact e
    obtain ⟨L2,p2,q2⟩:=Paired.perm pm base
    refine ⟨L.length-(i+1),by lia,by lia,rfl,?_,qb,L2,q2,p2.nodup_iff.mpr (du.mpr ⟨z,hN⟩),by rw [p2.length_eq,aQ];lia,λys=>?_⟩
    ·intro b o e
     rw [qr (q8 e np)]
     exact s4 _ _ (sm _ _ e)
    ·rw [p2.mem_iff,tk,aM,hM ys]
     constructor
     ·rintro (rfl|⟨h1,h2⟩)
      ·exact ⟨aF _ (.head _),hc⟩
      ·exact ⟨bW _ h1,h2⟩
     ·rintro ⟨h1,h2⟩
      rcases aU.mp h1 with h1|h1
      ·exact .inr ⟨h1,h2⟩
      ·exact .inl (aJ.mp h1)
  |false =>
   refine qw4 ?_
   refine ⟨s4 _ _ hp,L.length-(i+1),by lia,by lia,rfl,sm.trans s4,s4 _ _ hp,L',hT4,hN,by lia,λys=>?_⟩
   rw [tk,hM ys]
   constructor
   ·rintro ⟨h1,h2⟩
    exact ⟨bW _ h1,h2⟩
   ·rintro ⟨h1,h2⟩
    rcases aU.mp h1 with h1|h1
    ·exact ⟨h1,h2⟩
    ·rw [aJ.mp h1,hc] at h2
     cases h2
 ·have:i=L.length:=by lia
  subst this
  refine .inl ⟨⟨us,hq2,by lia⟩,k p ps H2 L' np sm hp hT hN (λxs=>?_) hl⟩
  rw [hM xs,bv]
theorem wqb {P:Ac}{w:Ah}{K:Aa}{J:It}{M:List Nat}{tt:TT}{te:TE}{σ:St}{H:Hp}{Q:VK}(n:Nat)(pr:Nat→V×V)(c:Nat→Bool)(f:Nat→Int)(bd:Nat)(hbd:∀i,i<n→0≤f i∧f i<bd)(hb:bd<1000)
  (hgo:∀i H',i<n→Same H H'→J.go i H') (hst:∀H',Same H H'→J.stop n H') (hy:∀i H2 v H3,i<n→Same H H2→J.yld i H2 v H3→Same H2 H3∧∃a,v=.ref a∧SqT K H3 a [(pr i).1,(pr i).2])
  (ht:∀(i:Nat) (H':Hp) (R:Bool→Hp→Prop),i<n→Same H H'→(∀H'',Same H' H''→R (c i) H'')→tt (zq M σ (some (pr i).1) (some (pr i).2)) H' R)
  (he:∀(i:Nat) (H':Hp) (R:VK),i<n→c i=true→Same H H'→(∀H'',Same H' H''→R (.int (f i)) H'')→te (zq M σ (some (pr i).1) (some (pr i).2)) H' R)
  (k:∀p ps H' ns,H p=none→Same H H'→H' p=some (yp w p ps)→PsI P w ps ns→ns.Nodup→(∀v,v∈ns↔∃i,i<n∧c i=true∧f i=v)→Q (.ref p) H') :
  qwn J M (gTup K 2 (wjx (Zj 0) (wjx (Zj 1) gNil))) tt te w (addI P w) σ H Q:=by
 intro p np
 refine ⟨λi m ps H2=>i≤n∧m=n-i∧Same H H2∧H2 p=some (yp w p ps)∧∃ns,PsI P w ps ns∧ns.Nodup∧∀v,v∈ns↔∃j,j<i∧c j=true∧f j=v,⟨n,aV _,rfl,Same.upd np,qb,[],.nil,iP,λv=>by simp⟩,?_⟩
 rintro i m ps H2 ⟨hi,rfl,sm,hp,ns,hT,hN,hM⟩
 refine ⟨hp,?_⟩
 by_cases hlt:i<n
 ·refine .inr ⟨hgo i H2 hlt sm,λv H3 yl=>?_⟩
  obtain ⟨s3,a,rfl,hq⟩:=hy i H2 v H3 hlt sm yl
  refine ⟨a,_,rfl,hq,rfl,_,_,rfl,_,_,rfl,rfl,⟨_,_,rfl⟩,?_⟩
  refine ht i _ _ hlt (sm.trans s3) λH4 s4=>?_
  cases hc:c i with
  |true =>
   refine Z9 ?_
   refine he i _ _ hlt hc ((sm.trans s3).trans s4) λH5 s5=>⟨s5 _ _ (s4 _ _ (s3 _ _ hp)),f i,ns,rfl,hT,?_,λz=>?_,λz ps' t pm=>?_⟩
   ·
    rw [hT.len]
    have:=qxv (ns.map Int.toNat) (List.range bd) ?_ λv hv=>?_
    ·rw [ag,aH] at this
     lia
    ·refine bV.mpr (bZ (λ{x y} hx hy hxy z=>?_) hN)
     obtain ⟨j1,h1,_,rfl⟩:=(hM x).mp hx
     obtain ⟨j2,h2,_,rfl⟩:=(hM y).mp hy
     have a1:=hbd j1 (by lia)
     have a2:=hbd j2 (by lia)
     exact hxy (by lia)
    ·obtain ⟨x,hx,rfl⟩:=aO.mp hv
     obtain ⟨j1,h1,_,rfl⟩:=(hM x).mp hx
     have a1:=hbd j1 (by lia)
     exact au.mpr (by lia)
   ·refine ⟨n-(i+1),by lia,by lia,rfl,((sm.trans s3).trans s4).trans s5,s5 _ _ (s4 _ _ (s3 _ _ hp)),ns,hT,hN,λv=>?_⟩
    rw [hM v]
    constructor
    ·rintro ⟨j,h1,h2⟩
     exact ⟨j,by lia,h2⟩
    ·rintro ⟨j,h1,h2,h3⟩
     by_cases cj:j=i
     ·subst cj
      rw [←h3]
      exact (hM _).mp z
     ·exact ⟨j,by lia,h2,h3⟩
   ·have base:PsI P w (((intKind P w).hash (f i),.int (f i) t)::ps) (f i::ns):=.cons ⟨t,rfl⟩ hT
    obtain ⟨L2,p2,q2⟩:=Paired.perm pm base
    refine ⟨n-(i+1),by lia,by lia,rfl,?_,qb,L2,q2,p2.nodup_iff.mpr (du.mpr ⟨z,hN⟩),λv=>?_⟩
    ·intro b o e
     rw [qr (q8 e np)]
     exact s5 _ _ (s4 _ _ (s3 _ _ (sm _ _ e)))
    ·rw [p2.mem_iff,aM,hM v]
     constructor
     ·rintro (rfl|⟨j,h1,h2⟩)
      ·exact ⟨i,by lia,hc,rfl⟩
      ·exact ⟨j,by lia,h2⟩
     ·rintro ⟨j,h1,h2,h3⟩
      by_cases cj:j=i
      ·subst cj
       exact .inl h3.symm
      ·exact .inr ⟨j,by lia,h2,h3⟩
  |false =>
   refine qw4 ?_
   refine ⟨s4 _ _ (s3 _ _ hp),n-(i+1),by lia,by lia,rfl,(sm.trans s3).trans s4,s4 _ _ (s3 _ _ hp),ns,hT,hN,λv=>?_⟩
   rw [hM v]
   constructor
   ·rintro ⟨j,h1,h2⟩
    exact ⟨j,by lia,h2⟩
   ·rintro ⟨j,h1,h2,h3⟩
    by_cases cj:j=i
    ·subst cj
     rw [hc] at h2
     cases h2
    ·exact ⟨j,by lia,h2,h3⟩
 ·have:i=n:=by lia
  subst this
  exact .inl ⟨hst H2 sm,k p ps H2 ns np sm hp hT hN hM⟩
end L2
namespace L2
open PySem PySem.Spec PySem.Calls PySem.W PyProof.Rows
def BMain (mg:Str→Option Ag)(h:Heap):Prop:=∃bm ob,mg "__builtins__" = some (.ref bm)∧bm≠builtinsNs∧h.get? bm=some ob∧ob.cls=.type "module" ∧ ob.dict=some builtinsNs∧ob.data=.plain
theorem BMain.kept {mg:Str→Option Ag}{h h':Heap}(b:BMain mg h)(k:∀b o,h.get? b=some o→h'.get? b=some o):BMain mg h' :=
 let ⟨bm,ob,h1,h2,h3,r⟩:=b;⟨bm,ob,h1,h2,k _ _ h3,r⟩
section
variable {P:Ac}{w:Ah}{K:Aa}{mg mb:Str→Option Ag}{CX:CXT}{k:Nat}{fa a c T:Aj}{fd:Ad}{x:Str}{sp:Sp}{s₁:Ab}{vs:List Ag}{ns:List Int}
theorem wzj (KX:K.In s₁.heap)(hns:s₁.heap.Ns mainGlobals mg)(hb:s₁.heap.Ns builtinsNs mb)(hbb:∀x:Str,x ≠ "__name__" → mb x=bootBuiltins x)(hlim:s₁.heap.NoLimit)(hg:s₁.gens=#[])(hbm:BMain mg s₁.heap)
  (hT:s₁.heap.get? T=some (tabObj #[])) (hC:CodeHd s₁.heap c T) (hKT:K.lookup T=none)
  (ha:s₁.heap.get? a=some { cls:=.type "list",data:=.seq vs.toArray }) (hi:IntsAre vs ns) (hl:ns.length≤sizeLine) (hr:Room k callerA)
  (F:∀base:Heap,K.In base→base.Ns mainGlobals mg→BMain mg base→FnOk P w K mg base CX k fa fd [x] sp) (hbind:∀(s:Ab) (u:Ag),BindsTo s fd ⟨[u],[]⟩ [(x,u)])
  (hsp:∀H:Hp,H T=some (.tbl #[])→SqL K H a (ns.map V.int)→sp [.ref a] H (λv _=>v=.bl true) λ_ _ _=>False)
  (hCX:∀H e s',CX [] H s₁ (λ_ _ _=>False) e s'→False) :
  codeAny (model P w) callerA (.call (.ref fa) ⟨[.ref a],[]⟩) (λr s'=>r=.ok (.ret (.bool true))∧OldK s₁.heap s'.heap∧s'.os=s₁.os∧AllBare s'.gens) s₁:=by
 have rv:=Yy hi
 have lenV:=hi.length
 have hne:a≠T:=λz=>by rw [z,hT] at ha;cases ha
 have core:∀H:Hp,H T=some (.tbl #[])→(∀b,b≠T→H b=none∨∃o xs,H b=some (.frz o (.lst xs)))→SqL K H a (ns.map V.int)→HOk P w H s₁.heap→(∀b,H b≠none→b=a∨b=T)→(H a≠none→K.lookup a=none) →
   codeAny (model P w) callerA (.call (.ref fa) ⟨[.ref a],[]⟩) (λr s'=>r=.ok (.ret (.bool true))∧OldK s₁.heap s'.heap∧s'.os=s₁.os∧AllBare s'.gens) s₁:=by
  intro H hHT hO hS hok hA hK
  have base_of:∀ {b:Aj} {o:Obj},s₁.heap.get? b=some o→H b=none→(qxg s₁.heap H).get? b=some o:=λe n=>wkd e n
  have apart:∀ {b:Aj} {o:Obj},s₁.heap.get? b=some o→o.cls≠.none→(∀its n,o.data≠.seq its n)→H b=none:=λ{b o} e d1 d2=>by
   cases q:H b with
   |none=>rfl
   |some u =>
    rcases hA b (by rw [q];simp) with z|z
    ·subst z
     rw [ha] at e;cases e
     exact absurd rfl (d2 _ _)
    ·subst z
     rw [hT] at e;cases e
     exact absurd rfl d1
  have noD:∀ {b:Aj} {o:Obj} {es:Array DictEntry} {ep:Nat},s₁.heap.get? b=some o→o.data=.dict es ep→H b=none:=λ{b o es ep} e d=>by
   cases q:H b with
   |none=>rfl
   |some u =>
    rcases hA b (by rw [q];simp) with z|z
    ·subst z
     rw [ha] at e;cases e
     have d':Data.seq vs.toArray _=Data.dict es ep:=d
     cases d'
    ·subst z
     rw [hT] at e;cases e
     have d':Data.fields #[]=Data.dict es ep:=d
     cases d'
  have nsK:∀ {b:Aj} {m:Str→Option Ag},s₁.heap.Ns b m→(qxg s₁.heap H).Ns b m:=λ{b m} ⟨o,es,ep,e,d,r⟩=>⟨o,es,ep,base_of e (noD e d),d,r⟩
  have hKb:K.In (qxg s₁.heap H):=λb o e=>base_of (KX b o e) (by
   cases q:H b with
   |none=>rfl
   |some u =>
    rcases hA b (by rw [q];simp) with z|z
    ·subst z
     rw [hK (by rw [q];simp)] at e;cases e
    ·subst z
     rw [hKT] at e;cases e)
  have hBM:BMain mg (qxg s₁.heap H):=by
   obtain ⟨bm,ob,b1,b2,b3,b4,b5,b6⟩:=hbm
   exact ⟨bm,ob,b1,b2,base_of b3 (apart b3 (by rw [b4];exact λz=>by cases z) (λits n z=>by rw [b6] at z;cases z)),b4,b5,b6⟩
  have hM:Mod K mg (qxg s₁.heap H):=⟨hKb,nsK hns,⟨mb,nsK hb,hbb⟩,let ⟨mc,h1,h2⟩:=hlim;⟨mc,nsK h1,h2⟩⟩
  have e0:Env0 P w K mg (qxg s₁.heap H) callerA [] s₁ H:=⟨rfl,hM,λb o e=>xw0 e,Nat.le_of_eq (wv3 _ _),trivial,λb hb=>absurd (show b∈([]:List Aj) from hb) (by simp),hok,.of_eq hg⟩
  refine eO ((F _ hKb (nsK hns) hBM).run callerA [] s₁ H ⟨[.ref a],[]⟩ [.ref a] [.ref a] _ _ hr e0 (hbind s₁ (.ref a)) (.cons rfl .nil) (hsp H hHT hS)) λr s' h=>?_
  cases r with
  |error e=>exact (hCX H e s' h).elim
  |ok fl =>
   cases fl with
   |next=>exact False.elim h
   |brk=>exact False.elim h
   |cont=>exact False.elim h
   |ret u =>
    obtain ⟨v,H',os,bare,un,hok',r',q⟩:=h
    have q':v=.bl true:=q
    subst q'
    obtain rfl:u=Value.bool true:=r'
    have keep:∀b o,b≠T→s₁.heap.get? b=some o→s'.heap.get? b=some o:=λb o hb e=>by
     cases q:H b with
     |none=>exact un.keep b o e q (by intro z;exact absurd (show b∈([]:List Aj) from z) (by simp)) (by simp)
     |some u =>
      rcases hO b hb with z|⟨ob,xs,z⟩
      ·rw [q] at z;cases z
      ·have z2:=un.frzs b ob _ z
       obtain ⟨e1,_⟩:=hok b _ z
       obtain ⟨e2,_⟩:=hok' b _ z2
       rw [e] at e1;cases e1
       exact e2
    obtain ⟨more,hm⟩:=un.tbls T _ hHT
    have hT':s'.heap.get? T=some { cls:=.none,data:=.fields (#[]++more) }:=hok' T _ hm
    have isT:isCodeTable s₁.heap T:=let ⟨o,cs,_,_,_,_,_,_,_,e1,e2,e3,e4,_⟩:=hC;⟨c,o,cs,e1,e2,e3,e4⟩
    refine ⟨rfl,⟨λb o e=>?_,λb o e=>?_⟩,os,bare⟩
    ·by_cases hbT:b=T
     ·subst hbT
      rw [hT] at e;cases e
      exact .inr (.inl ⟨isT,rfl,#[],more,rfl,hT'⟩)
     ·exact .inl (keep b o hbT e)
    ·by_cases hbT:b=T
     ·subst hbT
      exact ⟨_,hT'⟩
     ·exact ⟨o,keep b o hbT e⟩
 cases hk:K.lookup a with
 |some o =>
  have e:=KX a o hk
  rw [ha] at e
  cases e
  refine core (λb=>if b=T then some (.tbl #[]) else none) (av rfl) (λb hb=>.inl (ao hb)) (.inr ⟨_,vs.toArray,_,hk,rfl,rfl,rfl,by rw [ar,lenV];exact hl,by simpa using rv⟩) (λb u z=>?_) (λb z=>?_) λz=>absurd (ao hne) z
  ·by_cases hb:b=T
   ·have z':=(av hb).symm.trans z
    cases z'
    subst hb
    exact hT
   ·have z':=(ao hb).symm.trans z
    cases z'
  ·by_cases hb:b=T
   ·exact .inr hb
   ·exact absurd (ao hb) z
 |none =>
  refine core (λb=>if b=T then some (.tbl #[]) else if b=a then some (.frz { cls:=.type "list",data:=.seq vs.toArray } (.lst (ns.map V.int))) else none) (av rfl) (λb hb=>?_) (.inl (.inr ⟨{ cls:=.type "list",data:=.seq vs.toArray },(ao hne).trans (av rfl)⟩)) (λb u z=>?_) (λb z=>?_) λ_=>hk
  ·by_cases hba:b=a
   ·exact .inr ⟨_,_,(ao hb).trans (av hba)⟩
   ·exact .inl ((ao hb).trans (ao hba))
  ·by_cases hb:b=T
   ·have z':=(av hb).symm.trans z
    cases z'
    subst hb
    exact hT
   ·have z':=(ao hb).symm.trans z
    by_cases hba:b=a
    ·have z2:=(av hba).symm.trans z'
     cases z2
     subst hba
     exact ⟨ha,by rw [ag];exact hl,vs,_,rv,ha⟩
    ·have z2:=(ao hba).symm.trans z'
     cases z2
  ·by_cases hb:b=T
   ·exact .inr hb
   ·by_cases hba:b=a
    ·exact .inl hba
    ·exact absurd ((ao hb).trans (ao hba)) z
end
theorem wyq {l:PySem.W.OpenLaw}{n k:Nat}{q:Ac}{loose:List Str}{XP:(Str→Option Ag)→Heap→Prop}{YP:Ah→Heap→Prop}{d:DefRec}{K:Params→Aa}{CX:Ah→CXT}{sp:Ah→Sp}{x:Str}{c T:Aj}
  (hn:l.most=some n) (hn2:n≤sizeLine) (hdf:d.params.defaults=[]) (hr:Room k callerA)
  (hY:∀(w:Ah) (h:Heap),YP w h→(K w.params).In h∧h.get? T=some (tabObj #[])) (hcT:∀p,codeHdIn (K p) c T=true) (hKT:∀p,(K p).lookup T=none)
  (F:∀(w:Ah) (mg:Str→Option Ag) (fa:Aj) (h:Heap),(K w.params).In h→h.Ns mainGlobals mg→mg d.name=some (.ref fa) →
   ∃fd:Ad,(∀(s:Ab) (u:Ag),BindsTo s fd ⟨[u],[]⟩ [(x,u)]) ∧
    ∀base:Heap,(K w.params).In base→base.Ns mainGlobals mg→BMain mg base→FnOk l.prog w (K w.params) mg base (CX w) k fa fd [x] (sp w))
  (hsp:∀(w:Ah) (H:Hp) (a:Aj) (ns:List Int),ns.length≤n→H T=some (.tbl #[])→SqL (K w.params) H a (ns.map V.int)→sp w [.ref a] H (λv _=>v=.bl true) λ_ _ _=>False)
  (hCX:∀(w:Ah) (H:Hp) (s:Ab) (e:Ag) (s':Ab),CX w [] H s (λ_ _ _=>False) e s'→False) :
  PySem.W.WalkO q loose XP YP l.row.toRowW d [] (λf vs=>PySem.call f vs):=by
 refine Att.attach_call hn hdf λw s₀ s₁ mg mb fa o pm cd doc a vs ns G Y ho hd hcd hmg hobj hints hlen hg=>?_
 obtain ⟨KX,hT⟩:=hY w _ Y
 obtain ⟨fd,hb,hF⟩:=F w mg fa _ KX G.T.g hmg
 exact wzj KX G.T.g G.T.b G.T.builtins G.T.nolimit hg G.T.bmain hT (codeHd_of_K KX (hcT _)) (hKT _) hobj hints (bB hlen hn2) hr hF hb (λH hO hS=>hsp w H a ns hlen hO hS) λH e s'=>hCX w H s₁ e s'
end L2
namespace L2
open PySem PySem.Spec PySem.Calls PySem.W PyProof.Rows
def Stb (kz:List Int)(n:Nat)(il:List Nat):Prop:=il.Perm (List.range n)∧il.Pairwise λi j=>kz.getD i 0<kz.getD j 0∨(kz.getD i 0=kz.getD j 0∧i<j)
section
variable {prog:Ac}{w:Ah}{A:Ae}{E:Ag→Ab→Prop}{s:Ab}{a kS:Aj}{vs ks:List Ag}{P:PySem.Fin→Ab→Prop}{f:Ag}
end
end L2
namespace L2
open PySem PySem.Spec PySem.Calls PySem.W PyProof.Rows
def wxm (CX:CXT)(P:Ac)(w:Ah)(K:Aa)(mg:Str→Option Ag)(base:Heap)(N:List Str)(qual:Str)(scope:Scope)(g:Aj)(cd:Ag)(cl:List (Str×Aj))(A:Ae)(outer:List Env)(s:Ab)(H:Hp)(E:XK):Cx where
 prog:=P
 w:=w
 K:=K
 mg:=mg
 base:=base
 A:=A.deeper (envX qual scope s.heap.objs.size g cd cl)
 N:=N
 s₀:=s
 H₀:=H
 env:=envX qual scope s.heap.objs.size g cd cl
 outer:=outer
 stack:=envX qual scope s.heap.objs.size g cd cl::outer
 ex:=[]
 calm:=true
 fn:=λ_=>false
 pn:=[]
 xe:=λe s'=>wpAny (model P w) (A.deeper (envX qual scope s.heap.objs.size g cd cl)) (leaving (envX qual scope s.heap.objs.size g cd cl) e) (λ_ s''=>CX outer H s E e s'') (λe' s''=>CX outer H s E e' s'') s'
structure LamSc (x y:Str)(sc:Scope):Prop where
 kind:sc.kind=.function
 co:sc.isCoroutine=false
 gen:sc.isGenerator=false
 px:sc.names.lookup x=some .local
 fy:sc.names.lookup y=some .free
 nocell:∀z∈sc.names,z.2≠.cell
 free:∀z,sc.names.lookup z=some .free→z=y
 ne:y≠x
section
variable {CX:CXT}{P:Ac}{w:Ah}{K:Aa}{mg:Str→Option Ag}{base:Heap}{A:Ae}{outer:List Env}{s:Ab}{H:Hp}{E:XK}{name qual:Str}{params:Arguments}{body:Expr}{scope:Scope}{pm ctv:Ag}{c' g cF:Aj}{x y:Str}{k:Nat}{u uS:Ag}{v vS:V}{Q:VK}{t:TE}
theorem xxj (S:LamSc x y scope)(hr:Room (k+1) A)(e0:Env0 P w K mg base A outer s H)(ho:s.heap.get? g=some (kla_obj name qual params body scope [(y,cF)] pm c' ctv))(hcd:s.heap.CodeRec (.ref c') qual)
  (hb:bindArgs (kla_fn name qual params body scope [(y,cF)] pm (.ref c') ctv) ⟨[u],[]⟩=pure [(x,u)]) (hcell:s.heap.IsCell cF (some uS)) (hcF:H cF=none) (rv:RelV v u) (rS:RelV vS uS)
  (hpe:PE (wxm CX P w K mg base [x,y] qual scope g (.ref c') [(y,cF)] A outer s H E) body t) (ht:t [some v,some vS] H Q) :
  codeAny (model P w) A (.call (.ref g) ⟨[u],[]⟩) (CR CX outer P w H s Q E) s:=by
 have lim:s.heap.NoLimit:=e0.mod.nolimit.keeps λb o e=>(e0.bs b o e).1
 refine kla_callFunE hr.depth ho rfl S.co S.gen rfl hcd ?_
 rw [hb]
 refine ah (fT S.nocell (λz hz=>?_) (λh₁ hns hsb=>⟨lim.fresh _ hsb,?_⟩) S.kind)
 ·obtain rfl:=aJ.mp hz
  exact S.px
 show codeAny _ _ (.expr body (envX qual scope s.heap.objs.size g (.ref c') [(y,cF)])) _ _
 have hk:∀b o,s.heap.get? b=some o→h₁.get? b=some o:=λb o e=>hsb.extBut b o (aB (al e)) (ai _ e)
 have one:∀z c,([(y,cF)]:List (Str×Aj)).lookup z=some c→z=y∧c=cF:=λz c e=>by
  rw [bo] at e
  by_cases q:(z==y)=true
  ·rw [q] at e
   exact ⟨by simpa using q,(aq e).symm⟩
  ·rw [im] at q
   rw [q] at e
   cases e
 have oneY:([(y,cF)]:List (Str×Aj)).lookup y=some cF:=by rw [bo,eR]
 have noA:∀b:Aj,b∉(wxm CX P w K mg base [x,y] qual scope g (.ref c') [(y,cF)] A outer s H E).ex:=λb z=>absurd (show b∈([]:List Aj) from z) (by simp)
 have I:Inv (wxm CX P w K mg base [x,y] qual scope g (.ref c') [(y,cF)] A outer s H E) [] [some v,some vS] H { s with heap:=h₁,toks:=s.toks+1 }:=by
  refine ⟨⟨e0.mod,S.kind,rfl,rfl,aj _,λa b c h1 h2=>(one a c h1).1.trans (one b c h2).1.symm,λz hz=>?_,λz c hz=>(by cases hz),λ_=>hr.hd,Around.frames_deeper e0.frames,.inr ⟨rfl,rfl⟩,λb z=>absurd z (noA b),e0.bs,e0.bsz,λb _ _=>noA b,λb z=>absurd z (noA b),e0.funs,e0.frf⟩,
   rfl,e0.bare,Un.kept hk,⟨_,hns,λi z a h1 h2 h3=>?_⟩,λz c h=>?_,e0.hok.fresh (aj _),λz c h=>?_,λp hp=>absurd (show p∈([]:List (Aj×Obj)) from hp) (by simp),e0.hok.kept hk,rfl⟩
  ·rcases hz with hz|hz
   ·exact absurd rfl (S.nocell _ (dv hz))
   ·rw [S.free z hz]
    exact ⟨cF,oneY⟩
  ·match i,h1,h2 with
   |0,h1,h2 =>
    obtain rfl:x=z:=aq h1
    obtain rfl:v=a:=aq (aq h2)
    refine ⟨u,rv,.inl ⟨S.px,?_⟩⟩
    show List.lookup x [(x,u)]=some u
    rw [bo,eR]
   |1,h1,h2 =>
    obtain rfl:y=z:=aq h1
    obtain rfl:vS=a:=aq (aq h2)
    exact ⟨uS,rS,.inr ⟨.inr S.fy,cF,oneY,let ⟨o,h1,h2⟩:=hcell;⟨o,hk _ _ h1,h2⟩⟩⟩
   |n+2,h1,_=>cases h1
  ·obtain ⟨rfl,rfl⟩:=one z c h
   exact ⟨_,let ⟨o,h1,h2⟩:=hcell;⟨o,hk _ _ h1,h2⟩⟩
  ·obtain ⟨rfl,rfl⟩:=one z c h
   exact hcF
 refine kla_codeExpr (aL (hpe [] _ [some v,some vS] H _ I ht) (λr s' hs=>?_) λ_ _ h=>h)
 obtain ⟨v',H',J,rv',q⟩:=hs
 exact ⟨v',H',J.os,J.bare,J.base,J.hok,rv',q⟩
end
def qzw (q:Str)(c':Aj):HO:=.ext λh=>h.CodeRec (.ref c') q
def quw (g:Aj)(ob:Obj):HO:=.ext λh=>h.get? g=some ob
def qjm (pos:Pos)(c':Aj):Array Ag:=#[rawInt pos.line,rawInt pos.col,.ref c']
def TabAt (T:Aj)(pos:Pos)(q:Str)(c':Aj)(H:Hp):Prop:=H T=some (.tbl (qjm pos c'))∧H c'=some (qzw q c')
def zn (T:Aj)(pos:Pos)(q:Str)(H:Hp):Prop:=H T=some (.tbl #[])∨∃c',TabAt T pos q c' H
def KeepT (T:Aj)(H H':Hp):Prop:=∀b o,b≠T→H b=some o→H' b=some o
theorem wjk {P:Ac}{w:Ah}{H:Hp}{h:Heap}{c':Aj}{q:Str}(r:h.CodeRec (.ref c') q):ObjOk P w H h c' (qzw q c'):=by
 obtain ⟨c,oc,vs,t,e,ho,hd,hv⟩:=id r
 cases e
 refine ⟨r,⟨oc,ho⟩,λh1 h2 ⟨c,o1,v1,t1,e1,f1,f2,f3⟩ k=>?_⟩
 cases e1
 exact ⟨c',o1,v1,t1,rfl,k _ f1,f2,f3⟩
theorem wx3 {P:Ac}{w:Ah}{H:Hp}{h:Heap}{g:Aj}{ob:Obj}(e:h.get? g=some ob):ObjOk P w H h g (quw g ob) :=
 ⟨e,⟨ob,e⟩,λh1 h2 q k=>k _ q⟩
def tLam (T:Aj)(pos:Pos)(q:Str)(ob:Aj→Ag→Obj):TE:=λ_ H Q=>zn T pos q H∧∀(g c':Aj) (ctv:Ag) (H':Hp),KeepT T H H'→TabAt T pos q c' H'→H g=none→H' g=some (quw g (ob c' ctv))→Q (.ref g) H'
section
variable {X:Cx}{params:Arguments}{body:Expr}{scope:Scope}{pos:Pos}{c T:Aj}{clos:List (Str×Aj)}
theorem pe_lam (hB:BMain X.mg X.base)(hcd:X.env.code=.ref c)(hC:codeHdIn X.K c T=true)(hdef:defaultsOf params X.env=([],[]))(hcl:closureFor scope X.env=pure clos) :
  PE X (.Lambda params body scope pos) (tLam T pos (X.env.qual ++ "<lambda>") λc' ctv=>kla_obj "<lambda>" (X.env.qual ++ "<lambda>") params body scope clos ((X.mg "__name__").getD .none) c' ctv):=by
 intro pins s σ H Q I ⟨tab,h⟩
 refine kla_eval hdef ?_
 have hg:s.heap.Ns mainGlobals X.mg:=I.mod.glob.keeps I.bk
 have CH:CodeHd s.heap c T:=codeHd_of_K I.kIn hC
 obtain ⟨bm,ob,b1,b2,b3,b4,b5,b6⟩:=hB.kept I.bk
 have bat:∀ps,s.heap.get? T=some (tabObj ps)→mainGlobals≠T∧s.heap.BuiltinsAt X.mg T:=λps hP=>by
  refine ⟨λq=>?_,bm,ob,b1,b2,λq=>?_,λq=>?_,b3,b4,b5,b6⟩
  ·obtain ⟨o,es,ep,e,hd,_⟩:=hg
   rw [q,hP] at e;cases e;cases hd
  ·obtain ⟨o,es,ep,e,hd,_⟩:=hg
   rw [q,e] at b3;cases b3;rw [hd] at b6;cases b6
  ·rw [q,hP] at b3;cases b3;cases b4
 rcases tab with hT|⟨c',hT,hc'⟩
 ·have gT:s.heap.get? T=some (tabObj #[]):=I.hok T _ hT
  obtain ⟨hgT,hbT⟩:=bat _ gT
  refine kla_makeFunction (mg:=X.mg) hcl I.ok.glob hg hcd CH gT trivial rfl hgT hbT λc' ctv h' tk hx hge hlt hrec htb=>?_
  have htb':h'.get? T=some (tabObj (qjm pos c')):=by
   rw [htb]
   rfl
  have hTs:T<s.heap.objs.size:=al gT
  have hcs:H c'=none:=I.hok.fresh hge
  have hgs:H h'.objs.size=none:=I.hok.fresh (bf (d6 hge hlt))
  have d1:c'≠T:=λz=>absurd hge (by rw [z];exact Nat.not_le_of_lt hTs)
  have d2:h'.objs.size≠T:=λz=>by rw [z] at hlt;exact absurd hge (Nat.not_le_of_lt (bg hlt hTs))
  have d3:h'.objs.size≠c':=eN hlt
  have low:∀b o,s.heap.get? b=some o→b≠c'∧b≠h'.objs.size:=λb o e =>
   ⟨aB (aI (al e) hge),aB (bg (aI (al e) hge) hlt)⟩
  have at_:∀b,b≠T→b≠c'→b≠h'.objs.size→upd (upd (upd H T (.tbl (qjm pos c'))) c' (qzw (X.env.qual ++ "<lambda>") c')) h'.objs.size (quw h'.objs.size (kla_obj "<lambda>" (X.env.qual ++ "<lambda>") params body scope clos ((X.mg "__name__").getD .none) c' ctv)) b=H b:=λb e1 e2 e3=>by
   rw [qr e3,qr e2,qr e1]
  have kp:∀b o,b≠T→s.heap.get? b=some o→(h'.push (kla_obj "<lambda>" (X.env.qual ++ "<lambda>") params body scope clos ((X.mg "__name__").getD .none) c' ctv)).get? b=some o:=λb o e1 e=>ai _ (hx b o e1 e)
  have old:∀b o,b≠T→H b=some o→upd (upd (upd H T (.tbl (qjm pos c'))) c' (qzw (X.env.qual ++ "<lambda>") c')) h'.objs.size (quw h'.objs.size (kla_obj "<lambda>" (X.env.qual ++ "<lambda>") params body scope clos ((X.mg "__name__").getD .none) c' ctv)) b=some o:=λb o e1 e=>by
   rw [at_ b e1 (q8 e hcs) (q8 e hgs)];exact e
  have tT:upd (upd (upd H T (.tbl (qjm pos c'))) c' (qzw (X.env.qual ++ "<lambda>") c')) h'.objs.size (quw h'.objs.size (kla_obj "<lambda>" (X.env.qual ++ "<lambda>") params body scope clos ((X.mg "__name__").getD .none) c' ctv)) T=some (.tbl (qjm pos c')):=by
   rw [qr d2.symm,qr d1.symm,qb]
  have notT:∀b o,H b=some o→(∀ps,o≠.tbl ps)→b≠T:=λb o e n z=>by
   rw [z,hT] at e;cases e;exact n _ rfl
  refine ⟨.ref h'.objs.size,_,I.call' (s':={ s with heap:=h'.push (kla_obj "<lambda>" (X.env.qual ++ "<lambda>") params body scope clos ((X.mg "__name__").getD .none) c' ctv),toks:=tk }) (ch:=[]) rfl ⟨λb o e n _ _=>kp b o (λz=>by rw [z,hT] at n;cases n) e,λb o e n _ _=>⟨o.slots,kp b o (λz=>by rw [z,hT] at n;cases n) e⟩,λb o e n _=>?_,λb o e _=>?_,λb xs e=>old b _ (notT b _ e λps z=>by cases z) e,λb o u e=>old b _ (notT b _ e λps z=>by cases z) e,λb ps e=>?_⟩ (λb u e=>?_) I.bare (λb z=>absurd z (by simp)),rfl,h _ c' ctv _ old ⟨tT,?_⟩ hgs qb⟩
  ·obtain ⟨l1,l2⟩:=low b o e
   rw [at_ b (λz=>by rw [z,hT] at n;cases n) l1 l2];exact n
  ·by_cases hb:b=T
   ·rw [hb];exact ⟨_,ai _ htb'⟩
   ·exact ⟨o,kp b o hb e⟩
  ·by_cases hb:b=T
   ·subst hb
    rw [hT] at e;cases e
    exact ⟨qjm pos c',by rw [tT];simp⟩
   ·exact ⟨#[],by rw [old b _ hb e];simp⟩
  ·by_cases hbg:b=h'.objs.size
   ·subst hbg
    rw [qb] at e;cases e
    exact wx3 (az _ rfl)
   ·rw [qr hbg] at e
    by_cases hbc:b=c'
    ·subst hbc
     rw [qb] at e;cases e
     obtain ⟨c2,oc,vs,t,f1,f2,f3,f4⟩:=hrec
     exact wjk ⟨c2,oc,vs,t,f1,ai _ f2,f3,f4⟩
    ·rw [qr hbc] at e
     by_cases hbT:b=T
     ·subst hbT
      rw [qb] at e;cases e
      exact ai _ htb'
     ·rw [qr hbT] at e
      refine (I.hok b u e).stay (λc2 v hc q=>kp c2 v ?_ q) (λc2 q=>old c2 _ (notT c2 _ q λps z=>by cases z) q) λc2 xs q=>old c2 _ (notT c2 _ q λps z=>by cases z) q
      rcases hc with rfl|hc
      ·exact hbT
      ·exact notT c2 _ hc λps z=>by cases z
  ·rw [qr d3.symm,qb]
 ·have gT:s.heap.get? T=some (tabObj (qjm pos c')):=I.hok T _ hT
  obtain ⟨hgT,hbT⟩:=bat _ gT
  refine kla_makeFunctionHit (mg:=X.mg) (cv:=.ref c') hcl I.ok.glob hg hcd CH gT trivial ?_ hbT λctv h' tk hk hsz=>?_
  ·show codeAmong pos [rawInt pos.line,rawInt pos.col,.ref c']=some (.ref c')
   simp [codeAmong,rawInt]
  have hgs:H h'.objs.size=none:=I.hok.fresh hsz
  have old:∀b o,H b=some o→upd H h'.objs.size (quw h'.objs.size (kla_obj "<lambda>" (X.env.qual ++ "<lambda>") params body scope clos ((X.mg "__name__").getD .none) c' ctv)) b=some o:=λb o e=>by
   rw [qr (q8 e hgs)];exact e
  exact ⟨.ref h'.objs.size,_,I.laid (a:=h'.objs.size) (o:=quw h'.objs.size (kla_obj "<lambda>" (X.env.qual ++ "<lambda>") params body scope clos ((X.mg "__name__").getD .none) c' ctv)) (t':=tk) (λb u q=>ai _ (hk b u q)) hsz (wx3 (az _ rfl)),rfl,h _ c' ctv _ (λb o _ e=>old b o e) ⟨old _ _ hT,old _ _ hc'⟩ hgs qb⟩
end
end L2
namespace L2
open PySem PySem.Spec PySem.Calls PySem.W PyProof.Rows
theorem qwh {xs:List V}{its:List Ag}(rv:Vals xs its):∀(il:List Nat),(∀i∈il,i<xs.length)→Vals (il.map λi=>xs.getD i .non) (il.map λi=>its.getD i Value.none)
 |[],_=>.nil
 |i::r,hin=>by
  refine .cons ?_ (qwh rv r λj hj=>hin j (.tail _ hj))
  have hi:=hin i (.head _)
  obtain ⟨u,eu,ru⟩:=rv.get (i:=i) (ae hi)
  have e1:its.getD i Value.none=u:=by rw [af,eu];rfl
  have e2:xs.getD i .non=xs[i]:=by rw [af,ae hi];rfl
  show RelV (xs.getD i .non) (its.getD i Value.none)
  rw [e1,e2]
  exact ru
section
variable {X:Cx}{pins:List (Aj×Obj)}{σ:St}{H:Hp}{s:Ab}
end
def wxr (X:Cx)(f:Ag)(ks:List Str)(r:St→List V→List V→Hp→VK→Prop):Prop :=
 ∀(pins:List (Aj×Obj)) (s:Ab) (σ:St) (H:Hp) (xs zs:List V) (us ws:List Ag) (Q:VK),Inv X pins σ H s→Vals xs us→Vals zs ws→r σ xs zs H Q →
  wpAny (model X.prog X.w) X.A (call f us (ks.zip ws)) (EP X pins σ Q) X.xe s
def tCBKS (r:St→List V→List V→Hp→VK→Prop)(t tk:TA):TE:=λσ H Q=>t σ H λvs H1=>tk σ H1 λzs H2=>r σ vs zs H2 Q
section
variable {X:Cx}{x:Str}{p pos:Pos}{e:Expr}{es:List Expr}{kws:List Keyword}{t tk:TA}{id:String}{ks:List Str}{r:St→List V→List V→Hp→VK→Prop}
theorem wqf (hc:wxr X (.builtin id) ks r)(hg:Gl X x)(hm:X.mg x=none)(hv:bootBuiltins x=some (.builtin id))(ha:PA X (e::es) t)(hkw:PK X kws tk)
  (hall:(backToKw pos (keywordEach kws X.env)).all (·.1.isSome)=true:=by rfl) (hks:(backToKw pos (keywordEach kws X.env)).filterMap (·.1)=ks:=by rfl) (hn:x ≠ "__name__" := by decide) (hdb:(x==("__debug__" : Str))=false:=by decide)
  (he:starEach (e::es) X.env=(false,eval e X.env)::starEach es X.env:=by rfl)
  (hpl:(backTo pos (starEach (e::es) X.env)).any (·.1)=false:=by rfl) (hpk:(backToKw pos (keywordEach kws X.env)).any (·.1.isNone)=false:=by rfl):PE X (.Call (.Name x p) (e::es) kws pos) (tCBKS r t tk):=by
 intro pins s σ H Q I h
 refine cV (yu I hg hm hv ?_ hn hdb)
 refine callWith_builtin_kwB hpl hpk (evalArgs_kw2 hall (thn (ha pos pins s σ H _ I h) λus s1 ⟨vs,H1,I1,r1,q⟩=>?_) he)
 refine thn (hkw pos pins s1 σ H1 _ I1 q) λws s2 ⟨zs,H2,I2,rz,q2⟩=>?_
 dsimp only [List.nil_append]
 rw [hks]
 exact hc pins s2 σ H2 vs zs us ws Q I2 r1 rz q2
end
section
variable {X:Cx}{x y:Str}{params:Arguments}{body:Expr}{scope:Scope}{cF:Aj}{qual:Str}{pm:Ag}{iy k:Nat}{t:TE}
end
end L2
namespace L2
open PySem PySem.Spec PySem.Calls PySem.W PyProof.Rows
theorem xw8 {α:Type}{l l':List α}(d:α)(p:l'.Perm l):∃il:List Nat,il.Perm (List.range l.length)∧l'=il.map λi=>l.getD i d:=by
 have key:∀(l:List α) (k:Nat) (L:List α),(∀j,j<l.length→L[k+j]?=l[j]?)→Paired (λx i=>L[i]?=some x) l (List.range' k l.length):=by
  intro l
  induction l with
  |nil=>intro k L _;exact .nil
  |cons x l ih =>
   intro k L h
   rw [aQ,List.range'_succ]
   refine .cons (by have:=h 0 (by simp);simpa using this) (ih (k+1) L λj hj=>?_)
   have:=h (j+1) (by simp;lia)
   rw [show k+1+j=k+(j+1) by lia,this]
   rfl
 have h0:=key l 0 l λj _=>by rw [cE]
 rw [←List.range_eq_range'] at h0
 obtain ⟨il,p1,q1⟩:=Paired.perm p h0
 refine ⟨il,p1,?_⟩
 have:∀ {l':List α} {il:List Nat},Paired (λx i=>l[i]?=some x) l' il→l'=il.map λi=>l.getD i d:=by
  intro l' il h
  induction h with
  |nil=>rfl
  |cons r t ih=>rw [aN,af,r,←ih];rfl
 exact this q1
section
variable {prog:Ac}{w:Ah}{A:Ae}{E:Ag→Ab→Prop}{s:Ab}{a kS:Aj}{vs ks:List Ag}{P:PySem.Fin→Ab→Prop}{f:Ag}
theorem qy7 {st:Af}{e e1:Nat}{out:List Ag}(hka:kS≠a)(hk:s.heap.get? kS=some (seqObj "list" ks.toArray e))(ha:s.heap.get? a=some (seqObj "list" #[] e1))(hout:(arrOf st).map (·.2)=List.toArray out)(hz:out.length≤100000)(hkz:ks.length≤100000)(hf:failedOf st=none)
  (h:P (.done (.ret .none)) { s with heap:=(s.heap.update kS (Obj.mapSeq λ_=>(#[]:Array Ag))).update a (Obj.mapSeq λ_=>out.toArray) }):wpAny (model prog w) A (ksk_tail a false e1 (.ref kS) st) P E s:=by
 have ha2:(s.heap.update kS (Obj.mapSeq λ_=>(#[]:Array Ag))).get? a=some (seqObj "list" #[] e1):=by
  rw [bK _ _ _ _ (λz=>hka z.symm)];exact ha
 unfold ksk_tail
 try dsimp only
 rw [hout]
 refine aa (eG hk rfl ?_ (by rw [ar,dC];lia) (aV _))
 refine aa (fV ?_)
 refine aa (g8 ha2 rfl ?_)
 refine aa (eG ha2 rfl ?_ (aV _) (by simp only [aG,bE];rw [ar,dC];lia))
 rw [hf]
 simp only [eJ,aG,bE]
 exact ah h
theorem wqk {s:Ab}{G:Ai→Prop}(hG:∀x,G x→∃n t,x.1=Value.int n t):Tm.yq (model prog w) A E s G (λx=>numOf x.1) oneType':=by
 rintro ⟨x1,x2⟩ ⟨y1,y2⟩ st Q gx gy hk hQ
 obtain ⟨n,t,e1⟩:=hG _ gx
 obtain ⟨m,u,e2⟩:=hG _ gy
 dsimp only at e1 e2
 subst e1 e2
 rw [lt'_eq]
 refine aw (fP ?_)
 rw [hk,keyLt'_oneType]
 refine aw (gI (eF (oneLt_int ⟨rfl,?_⟩)))
 exact ay hQ
theorem wu8 {kz:List Int}{e e1:Nat}(hka:kS≠a)(hk:s.heap.get? kS=some (seqObj "list" ks.toArray e))(ha:s.heap.get? a=some (seqObj "list" #[] e1))(hl:ks.length=vs.length)(h64:vs.length≤100000)(t:IntsAre ks kz)(nd:kz.Pairwise (·≠·))
  (h:∀il,Stb kz vs.length il→P (.done (.ret .none)) { s with heap:=(s.heap.update kS (Obj.mapSeq λ_=>(#[]:Array Ag))).update a (Obj.mapSeq λ_=>(il.map λi=>vs.getD i Value.none).toArray) }) :
  wpAny (model prog w) A (ksk_end a false vs.toArray e1 (.ref kS) ks.toArray) P E s:=by
 have hkl:ks.length=kz.length:=Qg t
 have tt:IntsAre ks.toArray.toList kz:=t
 unfold ksk_end
 try dsimp only
 simp only [aG,bE]
 by_cases h2:vs.toArray.size<2
 ·rw [av h2,av h2]
  refine aa (ah ?_)
  have hv2:vs.length<2:=by simpa using h2
  refine aa (ah ?_)
  refine qy7 (out:=vs) hka hk ha ?_ h64 (by lia) rfl ?_
  ·show (ks.toArray.zip vs.toArray).map (·.2)=vs.toArray
   apply dS.mp
   simp
   rw [List.map_snd_zip (by lia)]
  ·have:=h (List.range vs.length) ⟨.refl _,by
    match vs,hv2 with
    |[],_=>exact .nil
    |[v],_=>exact dW _ _⟩
   have e:((List.range vs.length).map λi=>vs.getD i Value.none)=vs:=by
    match vs,hv2 with
    |[],_=>rfl
    |[v],_=>rfl
   rw [e] at this
   exact this
 ·rw [ao h2,ao h2]
  have hv2:2≤vs.length:=by simpa using h2
  rw [ksk_kind tt (by rw [ar];lia)]
  refine aa (ah ?_)
  have zl:(ks.toArray.zip vs.toArray).toList=ks.zip vs:=by rw [Array.toList_zip]
  have key:∀i x,(ks.zip vs)[i]?=some x→i<vs.length∧x.2=vs.getD i .none∧numOf x.1=kz.getD i 0∧∃n t,x.1=Value.int n t:=λi x ex=>by
   have hi:=(ak.mp ex).1
   rw [List.length_zip] at hi
   have h1:i<ks.length:=by lia
   have h3:i<vs.length:=by lia
   rw [List.getElem?_zip_eq_some] at ex
   obtain ⟨e1,e2⟩:=ex
   refine ⟨h3,by rw [af,e2];rfl,?_,t.all _ (aC e1)⟩
   rw [←t.nums,af,ax,e1]
   rfl
  have U:Tm.Un (λx:Ai=>numOf x.1) (λx=>∃n t,x.1=Value.int n t) (ks.toArray.zip vs.toArray):=by
   refine ⟨?_,λx hx=>?_⟩
   ·rw [zl]
    refine bb.mpr λi j hi hj hij=>?_
    obtain ⟨a1,_,a3,_⟩:=key i _ (ae hi)
    obtain ⟨b1,_,b3,_⟩:=key j _ (ae hj)
    rw [a3,b3,af,af,ae (by lia),ae (by lia)]
    exact bb.mp nd i j (by lia) (by lia) hij
   ·rw [zl] at hx
    obtain ⟨i,ei⟩:=bL hx
    exact (key i x ei).2.2.2
  refine aa (aL (Tm.Zt (Q:=λ_ st'=>(arrOf st').Perm (ks.toArray.zip vs.toArray)∧failedOf st'=none∧Tm.SL (λx:Ai=>numOf x.1) (arrOf st').toList) (st:=SortSt.mk' oneType' (ks.toArray.zip vs.toArray) #[] 7 none) (wqk λx hx=>hx) U rfl rfl rfl rfl λst' a1 a2 a3=>⟨a1,a2,a3⟩) ?_ λ_ _ e=>e)
  rintro ⟨⟨⟩,st'⟩ s' ⟨rfl,b1,b2,b3⟩
  try dsimp only
  have pl:=dF.mp b1
  rw [zl] at pl
  obtain ⟨il,p1,p2⟩:=xw8 (d:=((.none,.none):Ai)) pl
  have lz:(ks.zip vs).length=vs.length:=by rw [List.length_zip];lia
  rw [lz] at p1
  have hin:∀i∈il,i<vs.length:=λi hi=>au.mp (p1.mem_iff.mp hi)
  have at_:∀i,i<vs.length→(ks.zip vs)[i]?=some ((ks.zip vs).getD i (.none,.none)):=λi hi=>by
   rw [af,ae (by lia)]
   rfl
  have e3:(arrOf st').map (·.2)=List.toArray (il.map λi=>vs.getD i .none):=by
   apply dS.mp
   rw [Array.toList_map,p2,bP]
   exact dP λi hi=>(key i _ (at_ i (hin i hi))).2.1
  have st:Stb kz vs.length il:=by
   refine ⟨p1,?_⟩
   rw [p2] at b3
   unfold Tm.SL at b3
   rw [bV] at b3
   refine bZ (λ{i j} hi hj hij=>.inl ?_) b3
   have hij':numOf ((ks.zip vs).getD i (.none,.none)).1<numOf ((ks.zip vs).getD j (.none,.none)).1:=hij
   rwa [(key i _ (at_ i (hin i hi))).2.2.1,(key j _ (at_ j (hin j hj))).2.2.1] at hij'
  refine qy7 hka hk ha e3 ?_ (by lia) b2 (h il st)
  rw [ag,p1.length_eq,aH]
  exact h64
theorem wyp {J:List Ag→List Int→Ab→Prop}{e1:Nat}(hka:kS≠a)(h64:vs.length≤100000)
  (hJ:∀ks kz s,J ks kz s→(∃e,s.heap.get? kS=some (seqObj "list" ks.toArray e))∧s.heap.get? a=some (seqObj "list" #[] e1)∧IntsAre ks kz)
  (step:∀x ks kz (s:Ab),vs[ks.length]?=some x→J ks kz s→wpAny (model prog w) A (call f [x]) (λk s'=>(∃e,s'.heap.get? kS=some (seqObj "list" ks.toArray e))∧∃z,J (ks++[k]) (kz++[z]) { s' with heap:=s'.heap.update kS (Obj.mapSeq (·.push k)) }) (λ_ _=>False) s)
  (nd:∀ks kz (s:Ab),ks.length=vs.length→J ks kz s→kz.Pairwise (·≠·))
  (fin:∀ks kz (s:Ab),ks.length=vs.length→J ks kz s→∀il,Stb kz vs.length il →
   P (.done (.ret .none)) { s with heap:=(s.heap.update kS (Obj.mapSeq λ_=>(#[]:Array Ag))).update a (Obj.mapSeq λ_=>(il.map λi=>vs.getD i Value.none).toArray) })
  (j:J [] [] s):wpAny (model prog w) A (ksk_rest a f false vs.toArray e1 (.ref kS)) P E s:=by
 unfold ksk_rest
 refine aa (dt ?_)
 first
  |rw [List.forIn_toArray]
  |(rw [←fm];simp only [List.toList_toArray])
  |rw [←fm]
 refine aa (aL (ww8 (vs:=vs) (J:=J) (λx ks kz s' hx j'=>?_) vs [] [] s (by simp) (aV _) j) (λ_ s' hd'=>?_) λ_ _ x=>x)
 ·refine aa (eF (aL (step x ks kz s' hx j') (λk s'' hk=>?_) λ_ _ hF=>hF.elim))
  obtain ⟨⟨e,he⟩,xs,j2⟩:=hk
  have hz:ks.length<vs.length:=(ak.mp hx).1
  try dsimp only
  refine aa (eG he rfl ?_ (by rw [ar,dC];lia) (bB (Nat.le_of_eq (Array.size_push ..)) (by rw [ar,dC];lia)))
  exact ah ⟨rfl,k,xs,j2⟩
 ·obtain ⟨ks,kz,hl,j'⟩:=hd'
  obtain ⟨⟨e,he⟩,h1,h2⟩:=hJ _ _ _ j'
  try dsimp only
  refine aa (listItems_at he rfl ?_)
  exact wu8 hka he h1 hl h64 h2 (nd ks kz s' hl j') (fin ks kz s' hl j')
theorem wy5 {J:Nat→List Ag→List Int→Ab→Prop}{n:Nat}(ho:s.heap.get? a=some (seqObj "list" vs.toArray n))(h64:vs.length≤100000)
  (hJ:∀e1 ks kz s',J e1 ks kz s'→(∃e,s'.heap.get? (s.heap.objs.size+1)=some (seqObj "list" ks.toArray e))∧s'.heap.get? a=some (seqObj "list" #[] e1)∧IntsAre ks kz)
  (step:∀e1 x ks kz (s':Ab),vs[ks.length]?=some x→J e1 ks kz s'→wpAny (model prog w) A (call f [x]) (λk s2=>(∃e,s2.heap.get? (s.heap.objs.size+1)=some (seqObj "list" ks.toArray e))∧∃z,J e1 (ks++[k]) (kz++[z]) { s2 with heap:=s2.heap.update (s.heap.objs.size+1) (Obj.mapSeq (·.push k)) }) (λ_ _=>False) s')
  (nd:∀e1 ks kz (s':Ab),ks.length=vs.length→J e1 ks kz s'→kz.Pairwise (·≠·))
  (fin:∀e1 ks kz (s':Ab),ks.length=vs.length→J e1 ks kz s'→∀il,Stb kz vs.length il →
   P (.done (.ret .none)) { s' with heap:=(s'.heap.update (s.heap.objs.size+1) (Obj.mapSeq λ_=>(#[]:Array Ag))).update a (Obj.mapSeq λ_=>(il.map λi=>vs.getD i Value.none).toArray) })
  (j:∀e1,(W3 s.heap a vs).get? a=some (seqObj "list" #[] e1)→J e1 [] [] { s with heap:=W3 s.heap a vs }):wpAny (model prog w) A (ksk_tree a f false) P E s:=by
 have ha:a<s.heap.objs.size:=al ho
 obtain ⟨e1,ho1⟩:∃e1,(s.heap.update a (Obj.mapSeq λ_=>(#[]:Array Ag))).get? a=some (seqObj "list" #[] e1):=⟨_,eD ho λ_=>#[]⟩
 have hkS:((s.heap.update a (Obj.mapSeq λ_=>(#[]:Array Ag))).push (seqObj "tuple" vs.toArray 0)).objs.size=s.heap.objs.size+1:=by rw [size_push',ir]
 unfold ksk_tree
 refine aa (listItems_at ho rfl ?_)
 refine aa (eG ho rfl ?_ (by rw [ar,dC];lia) (aV _))
 refine aa (g8 ho1 rfl ?_)
 refine aa (wpAny_newTuple ?_ (by show vs.length≤_;rw [dC];lia))
 refine aa (fQ ?_ (aV _))
 refine b7 ?_
 show wpAny (model prog w) A (ksk_rest a f false vs.toArray e1 (.ref ((s.heap.update a (Obj.mapSeq λ_=>(#[]:Array Ag))).push (seqObj "tuple" vs.toArray 0)).objs.size)) P E { s with heap:=W3 s.heap a vs }
 rw [hkS]
 exact wyp (J:=J e1) (eN (eK ha)) h64 (hJ e1) (step e1) (nd e1) (fin e1) (j e1 (ai _ (ai _ ho1)))
end
section
variable {X:Cx}{pins:List (Aj×Obj)}{σ:St}{H:Hp}{s:Ab}
theorem qk7 {g p:Aj}{xs:List V}{kz:List Int}{Q:VK}(I:Inv X pins σ H s)(hS:SqL X.K H p xs)(h64:xs.length≤100000)(hnd:kz.Pairwise (·≠·))(hkz:kz.length=xs.length)
  (step:∀(pins':List (Aj×Obj)) (s':Ab) (i:Nat) (v:V) (u:Ag),Inv X pins' σ H s'→xs[i]?=some v→RelV v u →
   wpAny (model X.prog X.w) X.A.in1.in1 (call (.ref g) [u]) (λr s2=>(∃t,r=.int (kz.getD i 0) t)∧Inv X pins' σ H s2) (λ_ _=>False) s')
  (q:∀l il,H l=none→Stb kz xs.length il→Q (.ref l) (upd H l (.lst (il.map λi=>xs.getD i .non)))) :
  wpAny (model X.prog X.w) X.A (call (.builtin "sorted") [.ref p] [(Str.ofString "key",.ref g)]) (EP X pins σ Q) X.xe s:=by
 obtain ⟨its,rv,pl,hz⟩:=I.list hS
 have hl:s.heap.IsList p its.toArray:=pl.isList
 have hlen:its.length=xs.length:=rv.length.symm
 refine call_function_entry_kw kind_sorted plain_sorted entry_sorted (ksk_s1 _ _) ?_
 unfold Builtin.«sorted»
 refine aa (m:=checkCount "sorted" 1 1 _) (ah ?_)
 refine aa (collect_list hl ?_ (by rw [dC];lia))
 refine aa (fQ ?_ (by rw [dC];lia))
 have hsz:((s.heap.push (seqObj "list" #[] 0)).update s.heap.objs.size (Obj.mapSeq (·++its.toArray))).objs.size=s.heap.objs.size+1:=by
  rw [ir,size_push']
 have hoL:(((s.heap.push (seqObj "list" #[] 0)).update s.heap.objs.size (Obj.mapSeq (·++its.toArray))).push (seqObj "list" its.toArray 0)).get? (s.heap.objs.size+1)=some (seqObj "list" its.toArray 0):=by
  rw [←hsz];exact az _ rfl
 have keep:∀b o,s.heap.get? b=some o→(((s.heap.push (seqObj "list" #[] 0)).update s.heap.objs.size (Obj.mapSeq (·++its.toArray))).push (seqObj "list" its.toArray 0)).get? b=some o:=λb o q=>by
  have hlt:b<s.heap.objs.size:=al q
  rw [Heap.get?_push_ne _ _ _ (by rw [hsz];exact aB (eK hlt)),bK _ _ _ _ (aB hlt),Heap.get?_push_ne _ _ _ (aB hlt)]
  exact q
 show wpAny _ _ _ _ _ { s with heap:=((s.heap.push (seqObj "list" #[] 0)).update s.heap.objs.size (Obj.mapSeq (·++its.toArray))).push (seqObj "list" its.toArray 0) }
 rw [hsz]
 generalize hh1:((s.heap.push (seqObj "list" #[] 0)).update s.heap.objs.size (Obj.mapSeq (·++its.toArray))).push (seqObj "list" its.toArray 0)=h1 at hoL keep ⊢
 have hs1:h1.objs.size=s.heap.objs.size+2:=by rw [←hh1,size_push',hsz]
 have fD:vz X pins H (s.heap.objs.size+1):=I.fpOk (iM _) (I.hok.fresh (iM _))
 have nK:H (h1.objs.size+1)=none:=I.hok.fresh (by rw [hs1];exact iq _ 3)
 have fK:vz X pins H (h1.objs.size+1):=I.fpOk (by rw [hs1];exact iq _ 3) nK
 have nD:H (s.heap.objs.size+1)=none:=I.hok.fresh (iM _)
 have hne:(h1.objs.size+1:Nat)≠s.heap.objs.size+1:=by lia
 refine aa (b7 (wpAny_call_entry_kw slot_list_sort ⟨_,hoL,rfl⟩ entry_list_sort ?body (ksk_l1 _ _)))
 case body =>
  show wpAny (model X.prog X.w) X.A.in1.in1 (Builtin.«list.sort» ⟨[.ref (s.heap.objs.size+1)],[(Str.ofString "key",.ref g)]⟩) _ _ { s with heap:=h1 }
  rw [ksk_t1]
  refine wy5 (s:={ s with heap:=h1 }) (J:=λe1 ks zs s'=>Inv X pins σ H s'∧s'.heap.get? (s.heap.objs.size+1)=some (seqObj "list" #[] e1) ∧
   (∃e,s'.heap.get? (h1.objs.size+1)=some (seqObj "list" ks.toArray e))∧IntsAre ks zs∧zs=kz.take ks.length∧ks.length≤xs.length) hoL (by lia) ?_ ?_ ?_ ?_ ?_
  ·rintro e1 ks zs s' ⟨I',g1,g2,ia,_,_⟩
   exact ⟨g2,g1,ia⟩
  ·rintro e1 x ks zs s' hx ⟨I',g1,⟨e,g2⟩,ia,ek,lk⟩
   have hi:ks.length<xs.length:=by have:=(ak.mp hx).1;lia
   obtain ⟨u,eu,ru⟩:=rv.get (i:=ks.length) (ae hi)
   rw [hx] at eu
   cases eu
   have I2:Inv X ((s.heap.objs.size+1,seqObj "list" #[] e1)::(h1.objs.size+1,seqObj "list" ks.toArray e)::pins) σ H s':=I'.pins_of λp hp=>by
    rcases aM.mp hp with rfl|hp
    ·exact ⟨g1,nD,fD.2.1,fD.2.2.1,λv z=>by cases z⟩
    ·rcases aM.mp hp with rfl|hp
     ·exact ⟨g2,nK,fK.2.1,fK.2.2.1,λv z=>by cases z⟩
     ·exact I'.pin p (aF _ hp)
   refine aL (step _ s' ks.length _ x I2 (ae hi) ru) (λr s2 hq=>?_) λ_ _ h=>h
   obtain ⟨⟨t,rfl⟩,I3⟩:=hq
   obtain ⟨d1,d2,_⟩:=I3.pin (s.heap.objs.size+1,seqObj "list" #[] e1) (aF _ (.head _))
   obtain ⟨k1,k2,_⟩:=I3.pin (h1.objs.size+1,seqObj "list" ks.toArray e) (aF _ (.tail _ (.head _)))
   have I4:Inv X pins σ H s2:=I3.pins_of λp hp=>I3.pin p (aF _ (.tail _ (.tail _ hp)))
   refine ⟨⟨e,k1⟩,kz.getD ks.length 0,I4.turnedL (tk:=s2.toks) (ch:=[h1.objs.size+1]) (λb u hb e=>?_) (λb hb=>?_),?_,?_,ksk_snoc ia,?_,?_⟩
   ·rw [bK _ _ _ _ (λz=>hb (by simp [z]))];exact e
   ·obtain rfl:b=h1.objs.size+1:=by simpa using hb
    exact fK
   ·show (s2.heap.update (h1.objs.size+1) _).get? (s.heap.objs.size+1)=_
    rw [bK _ _ _ _ (λz=>hne z.symm)];exact d1
   ·have ea:(List.toArray ks).push (Value.int (kz.getD ks.length 0) t)=List.toArray (ks++[Value.int (kz.getD ks.length 0) t]):=by simp
    exact ⟨_,by rw [←ea];exact eD k1 (·.push (Value.int (kz.getD ks.length 0) t))⟩
   ·rw [ek,am,cf,dr,af,ae (by lia)]
    rfl
   ·rw [am,cf];lia
  ·rintro e1 ks zs s' hks ⟨I',g1,⟨e,g2⟩,ia,ek,lk⟩
   rw [ek,hks,hlen,←hkz,bv]
   exact hnd
  ·rintro e1 ks zs s' hks ⟨I',g1,⟨e,g2⟩,ia,ek,lk⟩ il hst
   have ekk:zs=kz:=by rw [ek,hks,hlen,←hkz,bv]
   rw [ekk,hlen] at hst
   have hin:∀i∈il,i<xs.length:=λi hi=>au.mp (hst.1.mem_iff.mp hi)
   have hk4:∀b u,b∉[h1.objs.size+1,s.heap.objs.size+1]→s'.heap.get? b=some u→((s'.heap.update (h1.objs.size+1) (Obj.mapSeq λ_=>(#[]:Array Ag))).update (s.heap.objs.size+1) (Obj.mapSeq λ_=>(il.map λi=>its.getD i Value.none).toArray)).get? b=some u:=λb u hb e=>by
    rw [bK _ _ _ _ (λz=>hb (by simp [z])),bK _ _ _ _ (λz=>hb (by simp [z]))];exact e
   have I5:=I'.turnedL (tk:=s'.toks) (ch:=[h1.objs.size+1,s.heap.objs.size+1]) hk4 λb hb=>by
    have hb':b=h1.objs.size+1∨b=s.heap.objs.size+1:=by simpa using hb
    rcases hb' with rfl|rfl
    ·exact fK
    ·exact fD
   have hg:(s'.heap.update (h1.objs.size+1) (Obj.mapSeq λ_=>(#[]:Array Ag))).get? (s.heap.objs.size+1)=some (seqObj "list" #[] e1):=by
    rw [bK _ _ _ _ (λz=>hne z.symm)];exact g1
   have outI:=qwh rv il hin
   have hlo:il.length=xs.length:=by have:=hst.1.length_eq;rw [aH] at this;lia
   refine ⟨_,rfl,ah ⟨_,rfl,.ref (s.heap.objs.size+1),_,Inv.track (o:=.lst (il.map λi=>xs.getD i .non)) I5 fD ⟨?_,_,_,outI,eD hg λ_=>_⟩,rfl,q _ il nD hst⟩⟩
   rw [ag,hlo,dC];lia
  ·intro e1 g1
   have kp:∀b o,b≠s.heap.objs.size+1→h1.get? b=some o→(W3 h1 (s.heap.objs.size+1) its).get? b=some o:=λb o hb e=>by
    unfold W3
    refine ai _ (ai _ ?_)
    rw [bK _ _ _ _ hb]
    exact e
   refine ⟨I.kept (t':=s.toks) (λb u e=>kp b u (aB (eK (al e))) (keep b u e)),g1,⟨0,?_⟩,.nil,by simp,aV _⟩
   have hkS:((h1.update (s.heap.objs.size+1) (Obj.mapSeq λ_=>(#[]:Array Ag))).push (seqObj "tuple" its.toArray 0)).objs.size=h1.objs.size+1:=by rw [size_push',ir]
   show (W3 h1 (s.heap.objs.size+1) its).get? (h1.objs.size+1)=_
   unfold W3
   rw [←hkS]
   exact az _ rfl
end
section
variable {X:Cx}{x y:Str}{params:Arguments}{body:Expr}{scope:Scope}{cF:Aj}{qual:Str}{pm:Ag}{iy k:Nat}{t:TE}
theorem qv6 (S:LamSc x y scope)(hr:Room (k+3) X.A)(hiy:X.N[iy]?=some y)(hky:X.env.kindOf y=some .cell)(hsy:X.env.scope.names.lookup y=some .cell)(hcF:X.env.cells.lookup y=some cF)
  (hb:∀(u ct:Ag) (c':Aj),bindArgs (kla_fn "<lambda>" qual params body scope [(y,cF)] pm (.ref c') ct) ⟨[u],[]⟩=pure [(x,u)])
  (hpe:∀(g c':Aj) (A:Ae) (outer:List Env) (s:Ab) (H:Hp) (E:XK),PE (wxm (CXE X.prog X.w) X.prog X.w X.K X.mg X.base [x,y] qual scope g (.ref c') [(y,cF)] A outer s H E) body t) :
  wxr X (.builtin "sorted") [Str.ofString "key"] (λσ xs zs H Q=>∃(p:Aj) (vs:List V) (kz:List Int) (g c':Aj) (ct:Ag) (vS:V),xs=[.ref p]∧zs=[.ref g]∧SqL X.K H p vs∧vs.length≤100000∧kz.Pairwise (·≠·)∧kz.length=vs.length ∧
   H g=some (quw g (kla_obj "<lambda>" qual params body scope [(y,cF)] pm c' ct))∧H c'=some (qzw qual c')∧σ[iy]?=some (some vS) ∧
   (∀i v,vs[i]?=some v→t [some v,some vS] H λr H'=>r=.int (kz.getD i 0)∧H'=H) ∧
   ∀l il,H l=none→Stb kz vs.length il→Q (.ref l) (upd H l (.lst (il.map λi=>vs.getD i .non)))):=by
 intro pins s σ H xs zs us ws Q I r rz h
 obtain ⟨p,vs,kz,g,c',ct,vS,rfl,rfl,hS,h64,hnd,hkz,hg,hc',hσ,ht,q⟩:=h
 obtain ⟨u,rfl,ru⟩:=jh r
 cases (show u=Value.ref p from ru)
 obtain ⟨v,rfl,rv⟩:=jh rz
 cases (show v=Value.ref g from rv)
 refine qk7 I hS h64 hnd hkz (λpins' s' i v u I' hv rv=>?_) q
 obtain ⟨m,hns,hlook⟩:=I'.loc
 obtain ⟨uS,rS,lk⟩:=hlook iy y vS hiy hσ (.inr (.inl hsy))
 have hcell:s'.heap.IsCell cF (some uS):=by
  rcases lk with ⟨z,_⟩|⟨_,c,e1,e2⟩
  ·rw [hky] at z;cases z
  ·rw [hcF] at e1;cases e1
   exact e2
 refine wpAny_call (eO (xxj (k:=k) S hr.in1.in1 I'.env0.in1.in1 (I'.hok g _ hg).1 (I'.hok c' _ hc').1 (hb u ct c') hcell (I'.freeC y cF hcF) rv rS (hpe g c' _ _ _ _ E0) (ht i v hv)) λr s2 hq=>?_)
 cases r with
 |error e=>exact CXE.no hq
 |ok fl =>
  cases fl with
  |next=>exact False.elim hq
  |brk=>exact False.elim hq
  |cont=>exact False.elim hq
  |ret w =>
   obtain ⟨v,H2,I3,rv3,rfl,rfl⟩:=I'.after hq
   obtain ⟨t,rfl⟩:=rv3
   exact ⟨⟨t,rfl⟩,I3⟩
end
end L2
namespace L2
open PySem PySem.Spec PyProof.Rows
theorem wz0 (bs:List Bool):(List.range bs.length).any (λi=>bs.getD i false)=bs.any id:=by
 rw [ee,dR,dR]
 constructor
 ·rintro ⟨i,hi,h⟩
  have hi':=au.mp hi
  rw [af,ae hi'] at h
  exact ⟨bs[i],bu hi',h⟩
 ·rintro ⟨b,hb,h⟩
  obtain ⟨i,hi,rfl⟩:=dw hb
  refine ⟨i,au.mpr hi,?_⟩
  rw [af,ae hi]
  exact h
section
variable {X:Cx}{K:Aa}
theorem qxp (hc:X.calm=true)(hK:X.K=K):jk X (.builtin "any") (λxs H Q=>∃(p:Aj) (bs:List Bool),xs=[.ref p]∧SqL K H p (bs.map V.bl)∧Q (.bl (bs.any id)) H):=by
 subst hK
 intro pins s σ H xs us Q I r h
 obtain ⟨p,bs,rfl,hS,q⟩:=h
 obtain ⟨u,rfl,ru⟩:=jh r
 cases (show u=Value.ref p from ru)
 obtain ⟨its,rv,⟨o,n,e1,e2,e3,e4⟩,hz⟩:=I.list hS
 have hits:=qjg rv
 have hl:s.heap.IsList p its.toArray:=⟨o,e1,e2,n,e4⟩
 have hlt:p<s.heap.objs.size:=al e1
 refine call_any_walk (gS hl ?_)
 refine ⟨s.heap.objs.size,_,_,_,_,_,λi=>bs.getD i false,rfl,Walks.list (A:=X.A.in1) (I.ok.hd hc) _ p (aB hlt) its.toArray,⟨⟨_,az _ rfl,rfl,rfl⟩,hl.push _⟩,λi v s' Q' E' hP hQ=>?_,λh' tk hk=>?_⟩
 ·have hv:its[i]?=some v:=by simpa using hP
  rw [hits,ax] at hv
  cases hb:bs[i]? with
  |none=>rw [hb] at hv;cases hv
  |some b =>
   rw [hb] at hv
   have ev:Value.bool b=v:=aq hv
   subst ev
   refine df ?_
   have e2:bs.getD i false=b:=by rw [af,hb];rfl
   have hQ':Q' (bs.getD i false) s':=hQ
   rw [e2] at hQ'
   exact hQ'
 ·have hlen:its.toArray.size=bs.length:=by rw [hits];simp
  rw [hlen,wz0]
  refine ⟨.bl _,H,I.kept λb ob e=>hk b ob (λhm=>?_) (ai _ e),rfl,q⟩
  have z:b=s.heap.objs.size:=by simpa using hm
  exact aW _ (z▸al e)
end
end L2
namespace L2
open PySem PySem.Spec PySem.Calls PySem.W PyProof.Rows
section
variable {prog:Ac}{w:Ah}{A:Ae}{R:Result→Ab→Prop}{I:Aj}{fp wr:List Aj}{n:Nat}{P:Nat→Ag→Prop}{St:Nat→Heap→Prop}
def MxAt (P:Nat→Ag→Prop)(bt:Nat→Nat→Bool)(j:Nat)(old:Array Ag):Prop:=(j=0∧old=#[])∨∃i v,j=i+1∧old=#[v,v]∧P (argBest bt i) v
theorem wux (W:Walks prog w A.in1 I fp wr n P St)(bt:Nat→Nat→Bool)(hcmp:CmpOf prog w A.in1 .Gt P bt)(S:Aj)(hSf:S∉fp)(d:Ag) :
  ∀(m j:Nat) (s:Ab) (old:Array Ag) (c:Nat),j+m=n→St j s.heap→s.heap.get? S=some ⟨.type "list",none,.seq old c,#[]⟩→MxAt P bt j old →
   (∀v h' tk,(n=0∧v=d∨∃i,n=i+1∧P (argBest bt i) v)→(∀b o,b∉wr→b≠S→s.heap.get? b=some o→h'.get? b=some o)→R (.ok (.ret v)) { s with heap:=h',toks:=tk }) →
   codeAny (model prog w) A (.builtin "max.loop" ⟨[.ref I,.none,.ref S],[("default",d)]⟩) R s:=by
 have hSw:S∉wr:=λh=>hSf (W.sub _ h)
 have hnm:(toString "max" ++ toString ".loop" : String) = "max.loop" := by decide
 intro m
 induction m with
 |zero =>
  intro j s old c hj st hS hat hR
  obtain rfl:j=n:=hj
  (refine fZ F.entry_max_loop ?_ ;rw [fW dX _] ;show wpAny _ A.in1 (seqItems? (.ref S) >>= _) _ _ s ;refine aa (gF hS rfl ?_))
  (show wpAny _ A.in1 (tryCatch (pyNext (.ref I)) _ >>= _) _ _ s ;refine aa (wpAny_tryCatch (W.done s _ _ st λh' tk hk=>?_)))
  rcases hat with ⟨rfl,rfl⟩|⟨i,v,rfl,rfl,hP⟩
  ·exact aa (dt (ah (hR d h' tk (.inl ⟨rfl,rfl⟩) λb o hbw _ e=>hk b o hbw e)))
  ·have hS':=hk S _ hSw hS
   (show wpAny _ A.in1 (updateSeq S (λ_=>#[]) >>= _) _ _ _ ;refine aa ?_ ;refine iJ hS' rfl (aa (fV (ah ?_))))
   exact hR v _ tk (.inr ⟨i,rfl,hP⟩) λb o hbw hbS e=>(bX _ _ (de hbS)).trans (hk b o hbw e)
 |succ m ih =>
  intro j s old c hj st hS hat hR
  have hlt:j<n:=by lia
  (refine fZ F.entry_max_loop ?_ ;rw [fW dX _] ;show wpAny _ A.in1 (seqItems? (.ref S) >>= _) _ _ s ;refine aa (gF hS rfl ?_))
  (show wpAny _ A.in1 (tryCatch (pyNext (.ref I)) _ >>= _) _ _ s ;refine aa (wpAny_tryCatch (W.item j s _ _ hlt st λv h' tk hP st' hk=>?_)))
  have hS':=hk S _ hSw hS
  have fr:∀(h2:Heap),(∀b o,b≠S→h'.get? b=some o→h2.get? b=some o)→St (j+1) h2:=λh2 k=>W.frame _ _ _ st' λb hbf o e=>k b o (λz=>hSf (by rw [←z];exact hbf)) e
  rcases hat with ⟨rfl,rfl⟩|⟨i,vb,rfl,rfl,hPb⟩
  ·(show wpAny _ A.in1 (updateSeq S (λ_=>#[v,v]) >>= _) _ _ _ ;refine aa ?_ ;refine iJ hS' rfl ?_ ;rw [hnm])
   refine ah ⟨ic dX _,ih (0+1) _ _ _ (by lia) (fr _ λb o hb e=>(bX _ _ (de hb)).trans e) (cA _ hS' rfl) (.inr ⟨0,v,rfl,rfl,hP⟩) λv' h'' tk' hv hk'=>?_⟩
   exact hR v' h'' tk' hv λb o hbw hbS e=>hk' b o hbw hbS ((bX _ _ (de hbS)).trans (hk b o hbw e))
  ·(show wpAny _ A.in1 (tryCatch (holding [v,v] (richCompare .Gt v vb >>= _)) _ >>= _) _ _ _ ;refine aa (wpAny_tryCatch (b7 (aa (hcmp (i+1) (argBest bt i) v vb _ _ _ hP hPb ?_)))))
   (refine aa (b7 (df ?_)) ;refine aa (fV (ah ?_)))
   cases hb:bt (i+1) (argBest bt i) with
   |true =>
    (simp only [dz] ;refine aa ?_ ;refine iJ hS' rfl (aa (fV ?_)) ;rw [hnm])
    refine ah ⟨ic dX _,ih (i+1+1) _ _ _ (by lia) (fr _ λb o hb e=>(bX _ _ (de hb)).trans e) (cA _ hS' rfl) (.inr ⟨i+1,v,rfl,rfl,by simp only [argBest,hb,dz];exact hP⟩) λv' h'' tk' hv hk'=>?_⟩
    exact hR v' h'' tk' hv λb o hbw hbS e=>hk' b o hbw hbS ((bX _ _ (de hbS)).trans (hk b o hbw e))
   |false =>
    (simp only [aG,bE] ;refine aa (fV ?_) ;rw [hnm])
    refine ah ⟨ic dX _,ih (i+1+1) _ _ _ (by lia) st' hS' (.inr ⟨i+1,vb,rfl,rfl,by simp only [argBest,hb,aG,bE];exact hPb⟩) λv' h'' tk' hv hk'=>?_⟩
    exact hR v' h'' tk' hv λb o hbw hbS e=>hk' b o hbw hbS (hk b o hbw e)
end
theorem wzn (a d:Ag):argsOk "max" ⟨[a],[(Str.ofString "default",d)]⟩:=by unfold argsOk;kernel_rfl
section
variable {prog:Ac}{w:Ah}{A:Ae}{E:Ag→Ab→Prop}{s:Ab}
theorem qvw {id:String}{b:Builtin}{args:List Ag}{kw:List (Str×Ag)}{Q:Ag→Ab→Prop}(hk:builtinKind id=none)(hp:plainId id=true)(hb:entryFor table id=some b)(ha:argsOk id ⟨args,kw⟩)
  (hc:wpAny (model prog w) A.in1 (b ⟨args,kw⟩) (λfin s'=>match fin with
   |.done f=>(match (Except.ok f:Result) with|.ok (.ret v)=>Q v s'|.ok _=>False|.error e=>E e s')
   |.again c'=>c'.quiet=true∧codeAny (model prog w) A c' (λr s'=>match r with|.ok (.ret v)=>Q v s'|.ok _=>False|.error e=>E e s') s') E s) :
  wpAny (model prog w) A (call (.builtin id) args kw) Q E s:=by
 refine wpAny_call (codeAny_call_builtin hp hb ?_)
 simp only [checkBuiltinCall,hk]
 cases g:Manifest.signature? id with
 |none=>exact ah hc
 |some sig =>
  have a2:Bind.checkArgs id sig ⟨args,kw⟩=pure ():=by simpa only [argsOk,g] using ha
  (simp only [a2] ;exact ah hc)
end
section
variable {X:Cx}
theorem wvf (hc:X.calm=true):wyb X (.builtin "max") [Str.ofString "default"] (λxs zs H Q=>∃(p:Aj) (ns:List Int) (d:Int),xs=[.ref p]∧zs=[.int d]∧SqL X.K H p (ns.map V.int) ∧
  ∀m,(∀a∈ns,a≤m)→(m∈ns∨(ns=[]∧m=d))→Q (.int m) H):=by
 intro pins s σ H xs zs us ws Q I r rz h
 obtain ⟨p,ns,d,rfl,rfl,hS,q⟩:=h
 obtain ⟨u,rfl,ru⟩:=jh r
 cases (show u=Value.ref p from ru)
 obtain ⟨v,rfl,tv,rfl⟩:=jh rz
 obtain ⟨ts,hl,he⟩:=Y4 I hS
 have hsz:ts.size=ns.length:=by rw [he,ag,aS]
 have hnm:(toString "max" ++ toString ".loop" : String) = "max.loop" := by decide
 show wpAny _ _ (call (.builtin "max") [.ref p] [(Str.ofString "default",.int d tv)]) _ _ _
 refine qvw F.kind_max F.plain_max F.entry_max (wzn _ _) ?_
 (show wpAny _ X.A.in1 (Builtin.Builtins.bindParams "max" ["key","default"] 0 ⟨[],[(Str.ofString "default",.int d tv)]⟩ >>= _) _ _ s ;refine aa (wpAny_of_eq (show Builtin.Builtins.bindParams "max" ["key","default"] 0 ⟨[],[(Str.ofString "default",.int d tv)]⟩=pure [none,some (.int d tv)] from rfl) ?_))
 (refine aa (ah ?_) ;refine aa (iter_intList hl λs₂ e st hfp hlI=>?_) ;subst e ;refine aa (bU ?_))
 have W:=Walks.list (A:=X.A.in1) (prog:=X.prog) (w:=X.w) (I.ok.hd hc) _ p hlI (intItems ts)
 have hSf:(s.heap.push { cls:=.type "list_iterator",data:=.fields #[.ref p,.int 0 0] }).objs.size∉[s.heap.objs.size,p]:=λhm=>aW _ (hfp _ hm)
 rw [hnm]
 refine ah ⟨ic dX _,wux W _ (CmpOf.ints_gt (numAt ts) λ_ _=>iN) _ hSf (.int d tv) _ 0 _ #[] _ (cE _) (W.frame _ _ _ st λb _ o e=>ai _ e) (az _ rfl) (.inl ⟨rfl,rfl⟩) λv h' tk hv hk=>?_⟩
 have keep:∀b o,s.heap.get? b=some o→h'.get? b=some o:=λb o e=>by
  have hb:b<s.heap.objs.size:=al e
  refine hk b o (λz=>?_) (aB ?_) (ai _ (ai _ e))
  ·obtain rfl:=aJ.mp z
   exact aW _ hb
  ·rw [cN];exact eK hb
 have zi:(intItems ts).size=ts.size:=by simp [intItems]
 rcases hv with ⟨h0,rfl⟩|⟨i,hi,hP⟩
 ·have e0:ns=[]:=List.length_eq_zero_iff.mp (by lia)
  exact ⟨.int d,H,I.kept keep,⟨tv,rfl⟩,q d (λa ha=>by rw [e0] at ha;cases ha) (.inr ⟨e0,rfl⟩)⟩
 ·obtain ⟨t,rfl⟩:=iN hP
  obtain ⟨b1,b2⟩:=argBest_gt (numAt ts) i
  refine ⟨.int _,H,I.kept keep,⟨t,rfl⟩,q _ (λa ha=>?_) (.inl ?_)⟩
  ·rw [he] at ha
   obtain ⟨j,hj,rfl⟩:=mem_getD ha
   rw [←he,←hsz] at hj
   rw [←iO]
   exact b2 j (by lia)
  ·rw [he,iO]
   refine getD_mem ?_
   rw [←he,←hsz]
   lia
end
end L2
namespace L2
open PySem PySem.Spec PySem.Calls PySem.W PyProof.Rows
structure FunT (K:Aa)(x:Str)(st:Stmt)(c f:Aj)(fd:Ad):Prop where
 F:Fun K x x st f fd
 code:fd.code=.ref c
section
variable {P:Ac}{w:Ah}{K:Aa}{mg:Str→Option Ag}{base:Heap}{x:Str}{st:Stmt}{c:Aj}
theorem FunT.okX {f:Aj}{fd:Ad}{N ps:List Str}{k:Nat}{sp:Sp}(F:FunT K x st c f fd)(S:FnScope N ps (qt st))(len:∀vs H Q E,sp vs H Q E→vs.length=ps.length)
  (body:∀(A:Ae) (outer:List Env) (s:Ab) (H:Hp) (vs:List V) (Q:VK) (E:XK),Room k (A.deeper (envOfC x (qt st) s.heap.objs.size f (.ref c)))→sp vs H Q E →
   ∃t,PSs (qwx (CXE P w) P w K mg base N x (qt st) f (.ref c) A outer s H E) (zm st) t∧t { nx:=λ_ H'=>Q .non H',rt:=Q } (Wj N vs) H):FnOk P w K mg base (CXE P w) (k+1) f fd ps sp:=by
 obtain ⟨oc,od,kV,doc,pm,an,cdv,ct,osl,rfl,lk,hcd⟩:=F.F.ex
 obtain rfl:cdv=.ref c:=F.code
 exact wy4 lk hcd S len λA outer s H vs Q E hr hsp=>body A outer s H vs Q E hr hsp
structure DefInT (K:Aa)(x:Str)(st:Stmt)(c:Aj):Prop where
 ex:∃f fd,PySem.W.nsIn K mainGlobals x=some (some (.ref f))∧FunT K x st c f fd
theorem xxx {f:Aj}{oc:Ag}{od an:Option Aj}{osl:Array (Option Ag)}{kV doc pm ct:Ag}(a:PySem.W.nsIn K mainGlobals x=some (some (.ref f)))
  (l:K.lookup f=some ⟨oc,od,.func (PySem.W.fnOf x x (vm st) (zm st) (qt st) .none kV doc pm an (.ref c) ct),osl⟩) (cc:PySem.W.codeIn K (.ref c) x=true) (k:PySem.W.keepIn K (.ref f)=true):DefInT K x st c:=⟨_,_,a,wwf l cc k,rfl⟩
theorem DefInT.cal {ps:List Str}{k:Nat}{sp:Sp}{h:Heap}(d:DefInT K x st c)(KX:K.In h)(G:h.Ns mainGlobals mg)(b:xh x st ps)(ok:∀f fd,FunT K x st c f fd→FnOk P w K mg base (CXE P w) k f fd ps sp):Cal P w K mg base x k sp:=by
 obtain ⟨f,fd,a,F⟩:=d.ex
 exact ⟨f,fd,ps,bI KX G a,ok f fd F,F.F.kp,F.F.binds b⟩
end
end L2
namespace L2
open PySem PySem.Spec PyProof.Rows
theorem qq7 {K:Aa}{M:List Nat}{a:Aj}{xs:List V}{te:TE}{σ:St}{H:Hp}{Q:VK}(G:Nat→V→Hp→Prop)(gs:StayT G)(hS:SqL K H a xs)(hn:xs.length≤1000000)
  (he:∀(i:Nat) (x:V) (H':Hp) (R:VK),xs[i]?=some x→Same H H'→(∀v H'',Same H' H''→G i v H''→R v H'')→te (zx M σ (some x)) H' R)
  (k:∀p ys H',H p=none→Same H H'→H' p=some (.lst ys)→ys.length=xs.length→(∀j v,ys[j]?=some v→G j v H')→Q (.ref p) H'):Qf (Itl K a) M te σ H Q:=by
 intro p np
 have big:(1000000:Nat)<sizeLine:=by decide
 refine ⟨λi m ys H2=>i≤xs.length∧m=xs.length-i∧ys.length=i∧Same H H2∧H2 p=some (.lst ys)∧∀j v,ys[j]?=some v→G j v H2,⟨xs.length,aV _,rfl,rfl,Same.upd np,qb,λj v e=>by cases e⟩,?_⟩
 rintro i m ys H2 ⟨hi,rfl,hl,sm,hp,hG⟩
 have hS':SqL K H2 a xs:=Same.sql sm hS
 refine ⟨hp,by lia,?_⟩
 by_cases hlt:i<xs.length
 ·have hx:xs[i]?=some xs[i]:=ae hlt
  refine .inr ⟨⟨xs,_,hS',hx⟩,?_⟩
  rintro v H3 ⟨rfl,hv⟩
  have e0:=hv xs hS'
  rw [hx] at e0
  have e':=aq e0
  subst e'
  clear e0
  refine he i _ _ _ hx sm λw H4 s4 g4=>?_
  have hp4:=s4 _ _ hp
  have st:∀b o,(∀xs,o≠.lst xs)→H4 b=some o→upd H4 p (.lst (ys++[w])) b=some o:=λb o no e=>by
   rw [qr]
   ·exact e
   ·intro z
    rw [z,hp4] at e
    exact no _ (aq e).symm
  refine ⟨hp4,xs.length-(i+1),by lia,by lia,rfl,by rw [am,hl];rfl,λb o e=>?_,qb,λj v e=>?_⟩
  ·rw [qr (q8 e np)]
   exact s4 _ _ (sm _ _ e)
  ·rcases bn j ys.length with z|z
   ·rw [aP z] at e
    exact gs j v _ _ (hG j v e) λb o no e=>st b o no (s4 _ _ e)
   ·rw [aA z] at e
    have hj:j=i:=by
     rcases bn (j-ys.length) 1 with y|y
     ·lia
     ·rw [aK (by simpa using y)] at e
      cases e
    subst hj
    rw [show j-ys.length=0 by lia] at e
    cases e
    exact gs j _ _ _ g4 st
 ·have:i=xs.length:=by lia
  subst this
  exact .inl ⟨⟨xs,hS',aj _⟩,k p ys H2 np sm hp hl hG⟩
theorem xwc {X:Cx}{K:Aa}(hK:X.K=K)(hu:X.A.units+64<cLine):OpR X (compareOp .Eq) (rEqD K false):=by
 subst hK
 exact op_eqD hu
theorem wyf {X:Cx}{P:Ac}{w:Ah}(hP:X.prog=P)(hw:X.w=w)(hu:X.A.units+64<cLine):Zq X (addT P w):=by
 subst hP hw
 exact xxw hu
theorem wjp {X:Cx}{P:Ac}{w:Ah}(hP:X.prog=P)(hw:X.w=w):Zq X (addI P w):=by
 subst hP hw
 exact wu6
end L2
namespace L2
open PySem PySem.Spec PyProof.Rows
def MissR (K:Aa)(C D:Aj):Prop:=∀ {M:Model} {A:Ae} {E:Ag→Ab→Prop} {h:Heap} {g:Array GenState} {d:Drawn} {t:Nat} {os:OsState} {e:Aj} {oe:Obj} {Q:Bool→Ab→Prop},
 K.In h→h.get? e=some oe→oe.cls=.ref C→Q false ⟨h,g,d,t,os⟩→wpAny M A (excMatches (.ref e) (.ref D)) Q E ⟨h,g,d,t,os⟩
section
variable {X:Cx}{pins:List (Aj×Obj)}{σ:St}{H H':Hp}{s s':Ab}{e:Aj}
theorem land2 {E:XK}{ev:Ag}{x x1:Str}{D0 D1:Aj}{np hpos np1 hpos1:Pos}{b₀ b₁:Stmt}{suite suite1:List Stmt}{th th1:TS}{D:Ends}(I:Inv X pins σ H s)(hst:X.stack=X.env::X.outer)(hfr:X.env.frame=some X.env.locals)
  (hg:Gl X x) (hm:X.mg x=some (.ref D0)) (hdb:(x==("__debug__" : Str))=false) (hg1:Gl X x1) (hm1:X.mg x1=some (.ref D1)) (hdb1:(x1==("__debug__" : Str))=false) (hx:CXE X.prog X.w X.stack H s E ev s') (hE:∀c d H',E c d H'→∃C,c=.ref C∧((qq1 X.K C D0∧th D σ H')∨(MissR X.K C D0∧qq1 X.K C D1∧th1 D σ H'))) (hh:∀e,PSs (X.handling e) (b₀::suite) th) (hh1:∀e,PSs (X.handling e) (b₁::suite1) th1) :
  wpAny (model X.prog X.w) X.A (noteFrame ev X.env) (λ_ s2=>wpAny (model X.prog X.w) X.A (setFlight ev none) (λ_ s3 =>
   wpAny (model X.prog X.w) X.A (handleBy ev X.env (.ExceptHandler (some (.Name x np)) none (b₀::suite) hpos::[.ExceptHandler (some (.Name x1 np1)) none (b₁::suite1) hpos1])) (SP X pins D) X.xe s3) X.xe s2) X.xe s':=by
 obtain ⟨a,C,a0,B,H',rfl,hos,hba,un,hokB,hfl,old,q⟩:=hx
 obtain ⟨C1,e1,hcase⟩:=hE _ _ _ q
 cases e1
 have mk:∀(h6:Heap),Heap.FlyingW B X.stack a (.ref C) a0 h6→s'.heap.UpToSlots h6→Inv X pins σ H' { s' with heap:=h6 }:=λh6 fl up=>by
  refine I.call' (s':={ s' with heap:=h6 }) (ch:=[]) hos ⟨λb o e n nb _=>?_,λb o e n hb _=>?_,λb o e n _=>un.free b o e n nin,λb o e _=>?_,un.tups,un.frzs,un.tbls⟩ (hokB.kept fl.1) hba (λb z=>nomatch z)
  ·obtain ⟨o',e1,e2⟩:=old b o e nb
   rw [e2 n] at e1
   exact fl.1 b o e1
  ·obtain ⟨sl,e2⟩:=un.slot b o e n hb nin
   obtain ⟨_,o3,e3,nf⟩:=hfl.2.2.1.mem (b:=b) hb
   obtain ⟨sl4,e4⟩:=up b o3 e3 nf
   rw [e2] at e3
   have e5:=aq e3
   exact ⟨sl4,by show h6.get? b=_;rw [e4,←e5]⟩
  ·by_cases hb:b∈frs X.stack
   ·obtain ⟨_,o3,e3,nf⟩:=hfl.2.2.1.mem (b:=b) hb
    obtain ⟨sl4,e4⟩:=up b o3 e3 nf
    exact ⟨_,e4⟩
   ·obtain ⟨o',e1,_⟩:=old b o e hb
    exact ⟨o',fl.1 b o' e1⟩
 have hfrm:X.A.frames=some (X.env::X.outer):=by rw [←hst];exact I.ok.frames
 have hfl':Heap.FlyingW B (X.env::X.outer) a (.ref C) a0 s'.heap:=by rw [←hst];exact hfl
 refine wpAny_looks_onW hfrm hfr hfl' λh4 held4 up4=>?_
 refine wpAny_landsW held4 λh5 fl5 up5=>?_
 have I5:=mk h5 (by rw [hst];exact fl5) (up4.trans up5)
 have I5h:=I5.handling a
 obtain ⟨ob,hob,hobc⟩:=fl5.there
 obtain ⟨hp,gg,dd,tk,os⟩:=s'
 rcases hcase with ⟨hcat,hth⟩|⟨hmiss,hcat,hth⟩
 ·refine gh (fJ (ux (X:=X.handling a) I5h hg hm ?_ hdb)) (by intro z;cases z)
  refine hcat (h:=h5) I5.kIn hob hobc ?_
  refine codeAny_handlers_suite ?_
  refine lands_againW fl5 λh6 fl6 up6=>?_
  have I6:=(mk h6 (by rw [hst];exact fl6) ((up4.trans up5).trans up6)).handling a
  exact aL (hh a pins _ σ H' D I6 hth) (λf s2 h2=>h2.unhandling I.ok) λ_ _ z=>z.elim
 ·refine gh (fJ (ux (X:=X.handling a) I5h hg hm ?_ hdb)) (by intro z;cases z)
  refine hmiss (h:=h5) I5.kIn hob hobc ?_
  refine gh (fJ (ux (X:=X.handling a) I5h hg1 hm1 ?_ hdb1)) (by intro z;cases z)
  refine hcat (h:=h5) I5.kIn hob hobc ?_
  refine codeAny_handlers_suite ?_
  refine lands_againW fl5 λh6 fl6 up6=>?_
  have I6:=(mk h6 (by rw [hst];exact fl6) ((up4.trans up5).trans up6)).handling a
  exact aL (hh1 a pins _ σ H' D I6 hth) (λf s2 h2=>h2.unhandling I.ok) λ_ _ z=>z.elim
end
def tTry2 (K:Aa)(D0 D1:Aj)(tb:(St→XK)→TS)(th th1:TS):TS:=λD σ H=>tb (λσ' c _ H'=>∃C,c=.ref C∧((qq1 K C D0∧th D σ' H')∨(MissR K C D0∧qq1 K C D1∧th1 D σ' H'))) D σ H
section
variable {X:Cx}{x x1:Str}{D0 D1:Aj}{np hpos np1 hpos1 pos:Pos}{b₀ b₁:Stmt}{body suite suite1:List Stmt}{tb:(St→XK)→TS}{th th1:TS}
theorem xw3 (hst:X.stack=X.env::X.outer)(hfr:X.env.frame=some X.env.locals)(hg:Gl X x)(hm:X.mg x=some (.ref D0))(hg1:Gl X x1)(hm1:X.mg x1=some (.ref D1))
  (hb:∀(pn:List (Aj×Obj)) (xe:Ag→Ab→Prop) (E:St→XK),jx (X.trying pn xe) E→PassesOwn (model X.prog X.w) X.A X.env xe→PSs (X.trying pn xe) body (tb E))
  (hh:∀e,PSs (X.handling e) (b₀::suite) th) (hh1:∀e,PSs (X.handling e) (b₁::suite1) th1) (hdb1:(x1==("__debug__" : Str))=false:=by decide) (hdb:(x==("__debug__" : Str))=false:=by decide) :
  PS X (.Try body [.ExceptHandler (some (.Name x np)) none (b₀::suite) hpos,.ExceptHandler (some (.Name x1 np1)) none (b₁::suite1) hpos1] [] [] pos) (tTry2 X.K D0 D1 tb th th1):=by
 intro pins s σ H D I h
 refine wpAny_Try_except ?_
 refine aL (hb (X.pn++pins) (λe s₁=>wpAny (model X.prog X.w) X.A (noteFrame e X.env) (λ_ s₂=>wpAny (model X.prog X.w) X.A (setFlight e none) (λ_ s₃ =>
   wpAny (model X.prog X.w) X.A (handleBy e X.env [.ExceptHandler (some (.Name x np)) none (b₀::suite) hpos,.ExceptHandler (some (.Name x1 np1)) none (b₁::suite1) hpos1]) (SP X pins D) X.xe s₃) X.xe s₂) X.xe s₁) _ ?_ PassesOwn.looking [] s σ H D (I.trying _) h) (λf s1 h1=>?_) λ_ _ z=>z
 ·intro pins' σ' H1 s1 e s1' I1 hx
  exact land2 (X:=X) (I1.untrying I.ok) hst hfr hg hm hdb hg1 hm1 hdb1 hx (λc d H' q=>q) hh hh1
 ·have h2:=h1.untrying I.ok
  cases f with
  |next=>exact e8 h2
  |brk=>exact h2
  |cont=>exact h2
  |ret u=>exact h2
end
end L2
namespace L2
open PySem PySem.Spec PyProof.Rows
def FlyA (B:Heap)(l:List Env)(e:Aj)(cls a0:Ag)(h:Heap):Prop:=B.StaysIn h∧B.get? e=none∧h.FunFrames B l∧∃fl,h.TracedAtW B e cls a0 fl
section
variable {M:Model}{A:Ae}{E:Ag→Ab→Prop}{s:Ab}
theorem qyd {base:Heap}{env:Env}{outer:List Env}{L e:Aj}{cls a0:Ag}{Q:Unit→Ab→Prop}
  (hfr:A.frames=some (env::outer)) (hf:env.frame=some L) (hx:FlyA base (env::outer) e cls a0 s.heap)
  (hQ:∀h',Heap.HeldW base (env::outer) e cls a0 L h'→s.heap.UpToSlots h'→Q () { s with heap:=h' }):wpAny M A (noteFrame (.ref e) env) Q E s:=by
 obtain ⟨hkb,hen,hl,fl,ht⟩:=hx
 by_cases z:fl=rawInt L
 ·subst z
  exact wpAny_noteFrame_againW hf ht (hQ s.heap ⟨hkb,hen,hl,ht⟩ λb o hb _=>⟨o.slots,hb⟩)
 obtain ⟨oe,vs,T,oT,ts,he,⟨hcls,h0⟩,hd,h1,hnT,hTe,hT,hdT,h3⟩:=ht
 subst hcls
 unfold noteFrame
 simp only [hf]
 refine aa (iU he hd h1 ?_)
 rw [av (show (Value.ref T != Value.none)=true from by simp)]
 refine aa (iU hT hdT h3 ?_)
 rw [ao (show ¬ ((fl==rawInt L)=true) from by simp [z])]
 refine aa (dU hT hdT (bi.mp h3).1 ?_)
 have other:∀b,b≠T→(s.heap.update T (Obj.mapFields (·.setIfInBounds 3 Value.none))).get? b=s.heap.get? b:=λb hb=>bX _ _ (de hb)
 have noRecord:∀b o,s.heap.get? b=some o→(∀vs,o.data≠.fields vs)→b≠T:=λb o hb hnf q=>by
  rw [q,hT] at hb;injection hb with hb;subst hb;exact hnf ts hdT
 refine wpAny_entryW hfr (hl.of_keeps λb o hb hnf=>⟨o,(other b (noRecord b o hb hnf)).trans hb,rfl⟩) hf ((other e (de hTe)).trans he)
  (λb o hbo=>(other b λq=>by rw [q,hnT] at hbo;cases hbo).trans (hkb b o hbo)) hen hd (bi.mp h1).1 h0
  λh' ⟨x1,x2,x3,x4⟩=>hQ h' ⟨x1,hen,x2,x3⟩ λb o hb hnf=>x4 b o ((other b (noRecord b o hb hnf)).trans hb) hnf
theorem wz7 {base:Heap}{env:Env}{outer:List Env}{L e:Aj}{cls a0:Ag}{Q:Unit→Ab→Prop}
  (hfr:A.frames=some (env::outer)) (hf:env.frame=some L) (hx:FlyA base (env::outer) e cls a0 s.heap)
  (hQ:∀h',Heap.FlyingW base outer e cls a0 h'→s.heap.UpToSlots h'→Q () { s with heap:=h' }):wpAny M A (leaving env (.ref e)) Q E s:=by
 unfold leaving
 refine aa (qyd hfr hf hx λh1 hh u1=>?_)
 refine wpAny_landsW hh λh' hfl u2=>?_
 obtain ⟨k1,k2,⟨_,_,k3⟩,k4⟩:=hfl
 exact hQ h' ⟨k1,k2,k3,k4⟩ (u1.trans u2)
theorem wuk {base:Heap}{l:List Env}{e:Aj}{cls a0 fl:Ag}{what:String}{cenv:Env}{Q:Ag→Ab→Prop}(hkb:base.StaysIn s.heap)(hen:base.get? e=none)(hl:s.heap.FunFrames base l)(ht:s.heap.TracedAtW base e cls a0 fl)
  (h:∀h',FlyA base l e cls a0 h'→s.heap.UpToSlots h'→E (.ref e) { s with heap:=h' }):wpAny M A (PySem.passOn what (.ref e) cenv:Sem Ag) Q E s:=by
 obtain ⟨oe,vs,T,oT,ts,he,hcls,hd,h1,hnT,hTe,hT,hdT,h3⟩:=ht
 have hsz3:3<ts.size:=(bi.mp h3).1
 generalize hv:(cenv.frame.elim Value.none λf=>rawInt f)=v
 have other:∀b,b≠T→(s.heap.update T (Obj.mapFields (·.setIfInBounds 3 v))).get? b=s.heap.get? b:=λb hb=>bX _ _ (de hb)
 have noRecord:∀b o,s.heap.get? b=some o→(∀vs,o.data≠.fields vs)→b≠T:=λb o hb hnf q=>by
  rw [q,hT] at hb;injection hb with hb;subst hb;exact hnf ts hdT
 unfold PySem.passOn
 refine aa (iU he hd h1 ?_)
 rw [ao (show ¬ ((Value.ref T==Value.none)=true) from by simp)]
 refine aa ?_
 unfold setFlight
 refine aa (iU he hd h1 ?_)
 rw [av (show (Value.ref T != Value.none)=true from by simp),hv]
 refine dU hT hdT hsz3 (wpAny_throw (h _ ⟨λb o hbo=>(other b λq=>by rw [q,hnT] at hbo;cases hbo).trans (hkb b o hbo),hen,hl.of_keeps λb o hb hnf=>⟨o,(other b (noRecord b o hb hnf)).trans hb,rfl⟩,v,
  oe,vs,T,_,_,(other e (de hTe)).trans he,hcls,hd,h1,hnT,hTe,cA _ hT (eI (cH hdT _)),cH hdT _,by simp [hsz3]⟩ λb o hb hnf=>⟨o.slots,(other b (noRecord b o hb hnf)).trans hb⟩))
end
end L2
namespace L2
open PySem PySem.Spec PyProof.Rows
def wk1 (X:Cx)(E:St→XK):Prop:=∀(pins:List (Aj×Obj)) (σ:St) (H:Hp) (s s5 s':Ab) (a Cc C:Aj) (a0:Ag) (B:Heap) (H':Hp),Inv X pins σ H s→s'.os=s.os→AllBare s'.gens→Un (frs X.stack) [] H H' s.heap s5.heap→HOk X.prog X.w H' B→FlyA B X.stack a (.ref Cc) a0 s'.heap →
 (∀b o,s.heap.get? b=some o→b∉frs X.stack→b≠C→∃o',B.get? b=some o'∧(H b=none→o'=o))→(∀b∈frs X.stack,∀o,s5.heap.get? b=some o→∃sl,s'.heap.get? b=some { o with slots:=sl })→X.s₀.heap.objs.size≤C→E σ (.ref Cc) none H'→X.xe (.ref a) s'
section
variable {P:Ac}{w:Ah}{K:Aa}{mg:Str→Option Ag}{base:Heap}{N:List Str}{qual:Str}{scope:Scope}{f:Aj}{cdv:Ag}{A:Ae}{outer:List Env}{s0:Ab}{H0:Hp}{E:XK}
theorem wzk:wk1 (qwx (CXE P w) P w K mg base N qual scope f cdv A outer s0 H0 E) (λ_=>E):=by
 intro pins σ H s s5 s' a C D a0 B H' I hos hba un hokB hfl old ups hD q
 have ub:=I.base
 have hL:∀b o,s0.heap.get? b=some o→b≠s0.heap.objs.size:=λb o e z=>aW _ (z▸al e)
 have hfs:frs (envOfC qual scope s0.heap.objs.size f cdv::outer)=s0.heap.objs.size::frs outer:=Zu rfl
 have hmem:∀b o,s0.heap.get? b=some o→b∉frs outer→b∉frs (envOfC qual scope s0.heap.objs.size f cdv::outer):=λb o e n=>by
  rw [hfs]
  intro z
  rcases aM.mp z with z|z
  ·exact hL b o e z
  ·exact n z
 have hin:∀b,b∈frs outer→b∈frs (envOfC qual scope s0.heap.objs.size f cdv::outer):=λb hb=>by rw [hfs];exact .tail _ hb
 have hold:∀b o,s0.heap.get? b=some o→b∉frs outer→∃o',B.get? b=some o'∧(H0 b=none→o'=o):=λb o e n=>by
  obtain ⟨o1,e1⟩:=ub.there b o e nin
  obtain ⟨o2,e2,e3⟩:=old b o1 e1 (hmem b o e n) (λz=>aW _ (aI (al e) (z▸hD)))
  refine ⟨o2,e2,λz=>?_⟩
  have e4:=ub.keep b o e z n nin
  have e5:=ub.free b o e z nin
  rw [e1] at e4
  rw [e3 e5]
  exact aq e4
 refine wz7 I.ok.frames rfl hfl λh' hf' hup=>?_
 have fr:∀b,b∈frs outer→∀o,s5.heap.get? b=some o→∃sl,h'.get? b=some { o with slots:=sl }:=λb hb o e=>by
  obtain ⟨sl,e1⟩:=ups b (hin b hb) o e
  obtain ⟨_,o3,e3,nf⟩:=hfl.2.2.1.mem (b:=b) (hin b hb)
  obtain ⟨sl4,e4⟩:=hup b o3 e3 nf
  rw [e1] at e3
  have e5:=aq e3
  exact ⟨sl4,by rw [e4,←e5]⟩
 have toH:∀b,b∈frs outer→∀o,s0.heap.get? b=some o→H0 b=none→∃sl,h'.get? b=some { o with slots:=sl }:=λb hb o e n=>by
  obtain ⟨sl,e1⟩:=ub.slot b o e n hb nin
  obtain ⟨sl2,e2⟩:=un.slot b _ e1 (ub.free b o e n nin) (hin b hb) nin
  obtain ⟨sl3,e3⟩:=fr b hb _ e2
  exact ⟨sl3,e3⟩
 refine ⟨a,C,a0,B,H',rfl,hos.trans I.os,hba,⟨λb o e n nb _=>?_,λb o e n hb _=>toH b hb o e n,λb o e n _=>?_,λb o e _=>?_,λb xs e=>un.tups b xs (ub.tups b xs e),λb o u e=>un.frzs b o u (ub.frzs b o u e),λb ps e=>?_⟩,hokB,hf',hold,q⟩
 ·obtain ⟨o',e1,e2⟩:=hold b o e nb
  rw [e2 n] at e1
  exact hf'.1 b o e1
 ·obtain ⟨o1,e1⟩:=ub.there b o e nin
  exact un.free b o1 e1 (ub.free b o e n nin) nin
 ·by_cases hb:b∈frs outer
  ·obtain ⟨o1,e1⟩:=ub.there b o e nin
   obtain ⟨o2,e2⟩:=un.there b o1 e1 nin
   obtain ⟨sl,e3⟩:=fr b hb o2 e2
   exact ⟨_,e3⟩
  ·obtain ⟨o',e1,_⟩:=hold b o e hb
   exact ⟨o',hf'.1 b o' e1⟩
 ·obtain ⟨m1,e1⟩:=ub.tbls b ps e
  obtain ⟨m2,e2⟩:=un.tbls b _ e1
  exact ⟨m1++m2,by rw [e2,gm]⟩
end
end L2
namespace L2
open PySem PySem.Spec PyProof.Rows
section
variable {Y:Cx}{pins:List (Aj×Obj)}{σ:St}{H:Hp}{s:Ab}
abbrev Cx.wx (Y:Cx)(xe:Ag→Ab→Prop):Cx:={ Y with xe:=xe }
theorem Cx.Ok.wx (o:Y.Ok)(xe:Ag→Ab→Prop):(Y.wx xe).Ok:=⟨o.mod,o.kind,o.glob,o.blt,o.above,o.inj,o.has,o.cab,o.hd,o.frames,o.stk,o.exf,o.bs,o.bsz,o.noex,o.exfs,o.funs,o.frf⟩
theorem Inv.wx (I:Inv Y pins σ H s)(xe:Ag→Ab→Prop):Inv (Y.wx xe) pins σ H s:=⟨Cx.Ok.wx I.ok xe,I.os,I.bare,I.base,I.loc,I.cell,I.free,I.freeC,I.pin,I.hok,I.len⟩
theorem Inv.unwx {xe:Ag→Ab→Prop}(I:Inv (Y.wx xe) pins σ H s):Inv Y pins σ H s:=⟨⟨I.ok.mod,I.ok.kind,I.ok.glob,I.ok.blt,I.ok.above,I.ok.inj,I.ok.has,I.ok.cab,I.ok.hd,I.ok.frames,I.ok.stk,I.ok.exf,I.ok.bs,I.ok.bsz,I.ok.noex,I.ok.exfs,I.ok.funs,I.ok.frf⟩,I.os,I.bare,I.base,I.loc,I.cell,I.free,I.freeC,I.pin,I.hok,I.len⟩
end
theorem wqx {Y:Cx}{tg e:Expr}{k:Nat}{acc:Ag}{it:Aj}{fp:List Aj}{tn:Nat→Heap→Prop}{J:It}{ps:Pos}{REST:Sem PySem.Fin}{post:Result→Ab→Prop}{gg:TG}{pins:List (Aj×Obj)}{σ:St}{V:Nat→Nat→Hp→Prop}{Qd:Hp→Prop}{s0:Ab}{H0:Hp}{n0:Nat}
  (T:Turn Y.prog Y.w Y.K tg J fp it tn) (hc:Y.calm=true) (hx:∀v s,Y.xe v s→notedBy (model Y.prog Y.w) Y.A Y.env (λe s'=>post (.error e) s') v s)
  (hturn:compTurn e k (.ref it) acc Y.env=(standAt ps >>= λ_=>pyNext (.ref it) >>= λr=>match r with|none=>pure (.done .next)|some v=>letOwnedTupleGo tg (.ref it) v >>= λ_=>assign tg Y.env v >>= λ_=>REST))
  (hun:Y.A.under (.compLoop e k (.ref it) acc Y.env)=Y.A) (hden:(model Y.prog Y.w).den (.compLoop e k (.ref it) acc Y.env)=((compTurn e k (.ref it) acc Y.env).onRaise λz=>do noteFrame z Y.env;theTreesLotGoes z))
  (hg:PG Y tg gg) (fok:∀H2:Hp,(∀b∈fp,H2 b=none)→∀b∈fp,vz Y pins H2 b)
  (hV:∀i n H2,V i n H2→(J.stop i H2∧Qd H2)∨(J.go i H2∧∀v H3,J.yld i H2 v H3→∃Z:St→Hp→Prop,gg v σ H3 Z∧∀σ4 H4,Z σ4 H4→(σ.length=σ4.length∧∀(k:Nat) z,σ[k]?=some (some z)→σ4[k]?=some (some z))∧∀pins' s',Inv Y pins' σ4 H4 s' →
   wpAny (model Y.prog Y.w) Y.A REST (λr s5=>r=Fin.again (.compLoop e k (.ref it) acc Y.env)∧∃H5,Inv Y pins' σ4 H5 s5∧∃n',n'<n∧V (i+1) n' H5) Y.xe s'))
  (fin:∀H2 s4,Inv Y pins σ H2 s4→Qd H2→post (.ok .next) s4) (I:Inv Y pins σ H0 s0) (v0:V 0 n0 H0) (t0:tn 0 s0.heap) (nf:∀b∈fp,H0 b=none) :
  codeAny (model Y.prog Y.w) Y.A (.compLoop e k (.ref it) acc Y.env) post s0:=by
 refine codeAny_loop rfl (λn s3=>∃i H2,V i n H2∧Inv Y pins σ H2 s3∧tn i s3.heap∧∀b∈fp,H2 b=none) (λn s3 hI=>?_) n0 ⟨0,H0,v0,I,t0,nf⟩
 obtain ⟨i,H2,w,J2,t,nf2⟩:=hI
 rw [hun,hden]
 refine wpAny_noted ?_
 rw [hturn]
 refine aa (cL (aa ?_))
 rcases hV i n H2 w with ⟨hst,hq⟩|⟨hgo,hy⟩
 ·refine aL (T.done Y rfl rfl rfl hc i pins s3 _ H2 (λ_ _=>False) J2 (fok H2 nf2) t hst) (λr s4 hr=>?_) λ_ _ z=>z.elim
  obtain ⟨rfl,J4⟩:=hr
  exact ah (fin H2 s4 J4 hq)
 ·refine aL (T.item Y rfl rfl rfl hc i pins s3 _ H2 (λ_ _=>False) J2 (fok H2 nf2) t hgo) (λr s4 hr=>?_) λ_ _ z=>z.elim
  obtain ⟨u,rfl,hw⟩:=hr
  refine aa (aL hw (λ_ s5 hr5=>?_) λ_ _ z=>z.elim)
  obtain ⟨v,H3,J5,rv,yl,t5,nf⟩:=hr5
  obtain ⟨Z,hz,hZ⟩:=hy v H3 yl
  refine aa (aL (hg _ s5 _ H3 v u _ (J5.pinned (fok H3 nf) (T.obj _ _ t5)) rv hz) (λ_ s6 hr6=>?_) λv s z=>hx v s z)
  obtain ⟨σ6,H6,J6,z6⟩:=hr6
  obtain ⟨⟨hl,hw6⟩,hR⟩:=hZ σ6 H6 z6
  refine aL (hR _ s6 J6) (λr s7 hr7=>?_) λv s z=>hx v s z
  obtain ⟨rfl,H7,J7,n',hn',v7⟩:=hr7
  refine ⟨rfl,n',hn',i+1,H7,v7,(J7.unpinned (pins:=pins)).weak hl hw6,?_,?_⟩
  ·exact T.keep _ _ _ t5 λb hb o e=>(J7.pin (b,o) (aF _ (aF _ (km hb e)))).1
  ·intro b hb
   obtain ⟨o,e,_⟩:=T.obj _ _ t5 b hb
   exact (J7.pin (b,o) (aF _ (aF _ (km hb e)))).2.1
section
variable {Y:Cx}{elt:Expr}{te:TE}{c:Code}{p:Aj}{σ:St}{H:Hp}{pins:List (Aj×Obj)}{s:Ab}
theorem wv5 {ys:List V}{N:List V→Hp→Prop}(he:PE Y elt te)(J:Inv Y pins σ H s)(hz:ys.length<sizeLine)(h:te σ H λy H4=>H4 p=some (.lst ys)∧N (ys++[y]) (upd H4 p (.lst (ys++[y])))) :
  wpAny (model Y.prog Y.w) Y.A (qyh elt (.ref p) Y.env c) (λr s5=>r=Fin.again c∧∃H5,Inv Y pins σ H5 s5∧∃zs,N zs H5) Y.xe s:=by
 refine aa (aa (aL (he _ s _ H _ J h) (λyv s7 hr7=>?_) λ_ _ z=>z))
 obtain ⟨y,H4,J7,ry,hp4,n4⟩:=hr7
 refine aa (aL (v4 (X:=Y) _ s7 _ H4 (.ref p) [y] (.ref p) [yv] (λ_ H8=>H8=upd H4 p (.lst (ys++[y]))) J7 rfl (.cons ry .nil) ⟨_,ys,y,rfl,rfl,hp4,hz,rfl⟩) (λ_ s8 hr8=>?_) λ_ _ z=>z)
 obtain ⟨_,H8,J8,_,rfl⟩:=hr8
 exact ah (ah ⟨rfl,_,J8,_,n4⟩)
end
theorem qzm {h h' B:Heap}{C:Aj}(st:∀b o,b≠C→h.get? b=some o→h'.get? b=some o):∀ {l:List Env},h.FunFrames B l→C∉frs l→h'.FunFrames (PySem.W.hideAll B [C]) l
 |[],_,_=>trivial
 |env::r,⟨k,⟨L,o,e1,e2,e3,e4⟩,hr⟩,hn=>by
  rw [Zu e1] at hn
  have hL:L≠C:=λz=>hn (by rw [z];exact .head _)
  refine ⟨k,⟨L,o,e1,?_,st L o hL e3,e4⟩,qzm st hr λz=>hn (.tail _ z)⟩
  cases q:(PySem.W.hideAll B [C]).get? L with
  |none=>rfl
  |some o'=>rw [fh _ q] at e2;cases e2
section
variable {X:Cx}{elt iter cd:Expr}{x:Str}{px pos:Pos}{scope:Scope}{cl:List (Str×Aj)}{M:List Nat}{wi:TI}{te:TE}{E:St→XK}
theorem quc {pins:List (Aj×Obj)}{σ:St}{H1:Hp}{s2:Ab}{C:Aj}{fp:List Aj}{use:Option (Ag→Sem Unit)}{QQ:Ag→Ab→Prop}{acc:Ag}(hpc:wk1 X E)(hstk:X.stack=X.env::X.outer)(hfr:X.env.frame=some X.env.locals)(I2:Inv X pins σ H1 s2)(hlt:s2.heap.objs.size<C)(hfp:∀b∈fp,vz X pins H1 b)
  {pins':List (Aj×Obj)} {σ':St} {H4:Hp} {s4 s':Ab} {v:Ag} (J:Inv (x9 X scope cl x M C s2 H1 fp (X.pn++pins)) pins' σ' H4 s4) (hx:CXE X.prog X.w X.stack H4 s4 (E σ) v s') :
  notedBy (model X.prog X.w) X.A (compEnvC scope cl C X.env) (λe s''=>compPost (model X.prog X.w) X.A X.xe use QQ acc C (.error e) s'') v s':=by
 obtain ⟨a,Cc,a0,B,H',rfl,hos,hba,un,hokB,hfl,old,q⟩:=hx
 have I4:Inv X pins σ H4 s4:=I2.uncomp (h':=s4.heap) (bf hlt) hfp J (gU _ _)
 have hCn:H4 C=none:=J.free
 obtain ⟨m,⟨oC,es,ep,hoC,hdC,hk1,hk2⟩,_⟩:=J.loc
 have hoC:s4.heap.get? C=some oC:=hoC
 have hCl:C≠X.env.locals:=λz=>aW _ (bg hlt (z▸I2.lt))
 have hCf:C∉frs X.stack:=λz=>by
  rcases aM.mp (I2.stkSub C z) with q|q
  ·exact hCl q
  ·obtain ⟨_,o,e1,_⟩:=I2.funs.mem (b:=C) q
   exact aW _ (bg hlt (al e1))
 have hBC:B.get? C=some oC:=by
  obtain ⟨o',e1,e2⟩:=old C oC hoC hCf
  rw [e2 hCn] at e1
  exact e1
 have hfrm:X.A.frames=some (X.env::X.outer):=by rw [←hstk];exact I2.ok.frames
 have hfl':FlyA B (X.env::X.outer) a (.ref Cc) a0 s'.heap:=by
  rw [←hstk]
  exact ⟨hfl.1,hfl.2.1,hfl.2.2.1,_,hfl.2.2.2⟩
 show wpAny _ _ (noteFrame (.ref a) X.env) _ _ s'
 refine qyd hfrm hfr hfl' λh6 held up6=>?_
 refine ⟨m,⟨oC,es,ep,held.1 _ _ hBC,hdC,hk1,hk2⟩,λh' hs' cenv _=>?_⟩
 have st:∀b o,b≠C→h6.get? b=some o→h'.get? b=some o:=λb o n e=>(hs'.2 b n).trans e
 have hid:∀b o,(PySem.W.hideAll B [C]).get? b=some o→b≠C∧B.get? b=some o:=λb o e=>⟨(λz=>by rw [PySem.W.hideAll_none [C] (h:=B) (b:=b) (by rw [z];exact .head _)] at e;cases e),fh _ e⟩
 have hno:∀b,B.get? b=none→(PySem.W.hideAll B [C]).get? b=none:=λb e=>by
  cases q:(PySem.W.hideAll B [C]).get? b with
  |none=>rfl
  |some o=>rw [(hid b o q).2] at e;cases e
 obtain ⟨hk,hen,hff,oe,vs,T,oT,ts,he,hcl,hd,h1,hnT,hTe,hT,hdT,h3⟩:=held
 have neC:∀b,B.get? b=none→b≠C:=λb e z=>by rw [z,hBC] at e;cases e
 refine wuk (base:=PySem.W.hideAll B [C]) (l:=X.stack) (e:=a) (cls:=.ref Cc) (a0:=a0) (λb o e=>st b o (hid b o e).1 (hk b o (hid b o e).2)) (hno a hen) (qzm st (by rw [hstk];exact hff) hCf)
  ⟨oe,vs,T,oT,ts,st _ _ (neC a hen) he,hcl,hd,h1,hno T hnT,hTe,st _ _ (neC T hnT) hT,hdT,h3⟩ λh7 fl7 up7=>?_
 refine hpc pins σ H4 s4 s' { s' with heap:=h7 } a Cc C a0 _ H' I4 hos hba un (λb u hb=>?_) fl7 (λb o e n nC=>?_) (λb hb o e=>?_) (bB I2.sz (bf hlt)) q
 ·refine (hokB b u hb).stay (λc v hc e=>eW _ e λz=>?_) (λ_ z=>z) λ_ _ z=>z
  have z:=aJ.mp z
  have hC':H' C=none:=un.free C oC hoC hCn nin
  rcases hc with rfl|hc
  ·rw [z,hC'] at hb;cases hb
  ·rw [z,hC'] at hc;cases hc
 ·obtain ⟨o',e1,e2⟩:=old b o e n
  exact ⟨o',eW _ e1 λz=>nC (aJ.mp z),e2⟩
 ·obtain ⟨_,o3,e3,nf⟩:=hfl.2.2.1.mem (b:=b) hb
  rw [e] at e3
  cases e3
  obtain ⟨sl,e4⟩:=up6 b o e nf
  have bC:b≠C:=λz=>hCf (z▸hb)
  obtain ⟨sl2,e5⟩:=up7 b _ (st b _ bC e4) nf
  exact ⟨sl2,e5⟩
def xqd (M:List Nat)(wi:TI)(tt:(St→XK)→TT)(te:TE)(E:St→XK):TE:=λσ H Q=>wi σ H λJ H1=>qv3 J M (tt λ_=>E σ) te σ H1 Q
theorem wvq {tt:(St→XK)→TT}(hpc:wk1 X E)(hstk:X.stack=X.env::X.outer)(hfr:X.env.frame=some X.env.locals)(hc:X.calm=true)(hclos:closureFor scope X.env=pure cl)(hcap:CapAll X.env cl)(hhas:HasAll cl scope.names)(hix:CapIx X scope cl M)(hk:scope.kind=.function)
  (hnames:∀y∈scope.names,y.2=.local→scope.names.lookup y.1=some .local) (hx:scope.names.lookup x=some .local) (hnd:(j6 X x M).Nodup) (hi:PI X (.Name x px) iter wi)
  (ht:∀C s2 H2 fp pn xe (E':St→XK),jx ((x9 X scope cl x M C s2 H2 fp pn).wx xe) E'→PT ((x9 X scope cl x M C s2 H2 fp pn).wx xe) cd (tt E')) (he:∀C s2 H2 fp pn xe,PE ((x9 X scope cl x M C s2 H2 fp pn).wx xe) elt te) (hs:∀z,foldedSetIterable iter X.env z=pure z:=by intro _;rfl) :
  PE X (.ListComp elt [⟨.Name x px,iter,[cd],0⟩] scope pos) (xqd M wi tt te E):=by
 intro pins s σ H Q I h
 rw [hU]
 refine Qt hclos hhas hk hnames hi hs I h λit fp tn J H1 s2 C h3 tk I2 T t3 hfp hbl hob hR hlt keep hns hD=>?_
 obtain ⟨W,⟨m0,w0⟩,hW⟩:=hR s2.heap.objs.size (I2.hok.fresh (aj _))
 have hxl:(relabel scope X.env).names.lookup x=some .local:=cY hx
 let xe:Ag→Ab→Prop:=λe s'=>∃pins' σ' H4 s4,Inv (x9 X scope cl x M C s2 H1 fp (X.pn++pins)) pins' σ' H4 s4∧CXE X.prog X.w X.stack H4 s4 (E σ) e s'
 have hpe:jx ((x9 X scope cl x M C s2 H1 fp (X.pn++pins)).wx xe) (λ_=>E σ):=λpins' σ' H4 s4 e s' J4 hx4=>⟨pins',σ',H4,s4,J4.unwx,hx4⟩
 refine wqx (Y:=(x9 X scope cl x M C s2 H1 fp (X.pn++pins)).wx xe) (V:=λi n H2=>∃ys,W i n ys H2) (Qd:=Q (.ref s2.heap.objs.size)) (REST:=qu1 cd (compEnvC scope cl C X.env) (qyh elt (.ref s2.heap.objs.size) (compEnvC scope cl C X.env) _) (again _)) T hc (λv s' ⟨_,_,_,_,J4,hx4⟩=>quc hpc hstk hfr I2 hlt hfp J4 hx4) (compTurn_list ..) rfl rfl (wt (i:=0) hnd rfl (.inl hxl) (.inr hxl)) (Q5 (N:=j6 X x M) hcap I2 hlt hfp hbl) (λi n H2 ⟨ys,w⟩=>?_) (λH2 s4 J4 q=>?_) ((I2.comp hcap hhas hix hk hlt keep hns hD hfp hob).wx xe) ⟨[],w0⟩ t3 λb hb=>by rw [qr (aB (hbl b hb))];exact (hfp b hb).1
 ·obtain ⟨hp,hz,hcase⟩:=hW i n ys H2 w
  refine hcase.imp id λ⟨hgo,hy⟩=>⟨hgo,λv H3 yl=>⟨λσ4 H4=>σ4=zx M σ (some v)∧H3=H4,⟨rfl,rfl⟩,λ_ _ e=>?_⟩⟩
  obtain ⟨rfl,rfl⟩:=e
  refine ⟨jt M σ v,λpins' s' J=>?_⟩
  exact Qp (ht _ _ _ _ _ _ _ hpe) J (hy v H3 yl) (λs6 H6 J6 h6=>aL (wv5 (N:=λzs H5=>∃m',m'<n∧W (i+1) m' zs H5) (he _ _ _ _ _ _) J6 hz h6) (λr s5 ⟨e,H5,J5,zs,m',hm,w'⟩=>⟨e,H5,J5,m',hm,zs,w'⟩) λ_ _ z=>z)
   λs6 H6 J6 ⟨_,m',hm,w'⟩=>ah ⟨rfl,H6,J6,m',hm,ys,w'⟩
 ·have J4:=J4.unwx
  obtain ⟨m,hn,_⟩:=J4.loc
  exact ⟨m,hn,λh' hs'=>⟨.ref s2.heap.objs.size,H2,I2.uncomp (bf hlt) hfp J4 hs',rfl,q⟩⟩
end
end L2
namespace L2
open PySem PySem.Spec PyProof.Rows
theorem ht_gen {o:Expr}{m:Str}{apos pos:Pos}{e:Expr}{es:List Expr}{env:Env}(hb:attributeBase o m env (eval o env)=eval o env)(hf:methodCallForm ((e::es).length+0) (backTo pos (starEach (e::es) env)) (backToKw pos (keywordEach [] env))=true)(hp:methodCallPos true o env apos pos=pure pos) :
  eval (.Call (.Attribute o m apos) (e::es) [] pos) env=(do
   let ov ←eval o env
   standAt apos.atName
   let (f,first) ←holding [ov] (getMethod ov m (do return (←importBound o env).getD true))
   callWith pos f first (backTo pos (starEach (e::es) env)) (backToKw pos (keywordEach [] env))):=by
 rw [arm_eval_Call,hb]
 unfold methodCall
 rw [show (e::es).length+([]:List Keyword).length=(e::es).length+0 from rfl,hf,hp]
 rfl
section
variable {X:Cx}{C:Aj}{x m:Str}{k:Nat}{sp:Sp}{E:St→XK}{p pos apos:Pos}{e o:Expr}{es:List Expr}{ta te:TE}{t:TA}
theorem xw {v j p'}(ha:PE X (.Constant v j p') te)(hr:PA X es t):PA X (.Constant v j p'::es) (vh te t):=vw ha hr rfl
theorem qg {v p'}(ha:PE X (.Name v p') te)(hr:PA X es t):PA X (.Name v p'::es) (vh te t):=vw ha hr rfl
theorem pa_cT {v j p'}(ha:PE X (.Tuple v j p') te)(hr:PA X es t):PA X (.Tuple v j p'::es) (vh te t):=vw ha hr rfl
theorem vv {a b c p'}(ha:PE X (.Call a b c p') te)(hr:PA X es t):PA X (.Call a b c p'::es) (vh te t):=vw ha hr rfl
theorem zu {a b c p'}(ha:PE X (.BinOp a b c p') te)(hr:PA X es t):PA X (.BinOp a b c p'::es) (vh te t):=vw ha hr rfl
theorem pa_cU {a b p'}(ha:PE X (.UnaryOp a b p') te)(hr:PA X es t):PA X (.UnaryOp a b p'::es) (vh te t):=vw ha hr rfl
theorem j4 {a b p'}(ha:PE X (.Subscript a b p') te)(hr:PA X es t):PA X (.Subscript a b p'::es) (vh te t):=vw ha hr rfl
def qvk:List Expr→Bool
 |[]=>true
 |.Starred _ _::_=>false
 |_::r=>qvk r
theorem Y5 {env:Env}:∀ {es:List Expr},qvk es=true→starEach es env=es.map λe=>(false,eval e env)
 |[],_=>rfl
 |e::r,h=>by
  cases e
  case Starred=>cases h
  all_goals exact cz _ (Y5 (es:=r) h)
theorem Y0 {pos:Pos}:∀ {l:List (Bool×Sem Ag)},(∀q∈l,q.1=false)→(backTo pos l).all (!·.1)=true∧(backTo pos l).any (·.1)=false:=by
 intro l h
 have key:∀q∈backTo pos l,q.1=false:=by
  intro q hq
  unfold backTo at hq
  obtain ⟨q',hq',rfl⟩:=aO.mp hq
  exact h q' hq'
 exact ⟨List.all_eq_true.mpr λq hq=>by rw [key q hq];rfl,List.any_eq_false.mpr λq hq=>by rw [key q hq];decide⟩
theorem vj (he:PE X o ta)(cl:Cls X.K C)(c:MCal X.prog X.w X.K X.mg X.base C m k sp)(hr:Room k X.A)(hx:jx X E)(ha:PA X (e::es) t)(hn:qvk (e::es)=true:=by rfl)(hl:(e::es).length+0<30:=by decide)
  (hb:∀z,attributeBase o m X.env z=z:=by intro _;rfl) (hp:methodCallPos true o X.env apos pos=pure pos:=by rfl):PE X (.Call (.Attribute o m apos) (e::es) [] pos) (qq4 C m sp E ta t):=by
 have h1:starEach (e::es) X.env=(false,eval e X.env)::starEach es X.env:=by
  cases e
  case Starred=>cases hn
  all_goals rfl
 have h2:∀q∈starEach (e::es) X.env,q.1=false:=λq hq=>by
  rw [Y5 hn] at hq
  obtain ⟨z,_,rfl⟩:=aO.mp hq
  rfl
 refine wyv he cl c hr hx ha h1 (Y0 λq hq=>h2 q (by rw [h1];exact bD _ hq)).2 (ht_gen (hb _) ?_ hp)
 unfold methodCallForm
 rw [(Y0 (pos:=pos) h2).1]
 exact aT hl
theorem q9 (c:Cal X.prog X.w X.K X.mg X.base x k sp)(hr:Room k X.A)(hg:Gl X x)(hx:jx X E)(ha:PA X (e::es) t)(hn:qvk (e::es)=true:=by rfl)(hdb:(x==("__debug__" : Str))=false:=by decide):PE X (.Call (.Name x p) (e::es) [] pos) (qwv sp E t):=by
 have h1:starEach (e::es) X.env=(false,eval e X.env)::starEach es X.env:=by
  cases e
  case Starred=>cases hn
  all_goals rfl
 have h2:∀q∈starEach (e::es) X.env,q.1=false:=λq hq=>by
  rw [Y5 hn] at hq
  obtain ⟨z,_,rfl⟩:=aO.mp hq
  rfl
 exact W6 c hr hg hx ha hdb h1 (Y0 λq hq=>h2 q (by rw [h1];exact bD _ hq)).2
end
end L2
namespace My
open PySem L2
def top (i:Nat):Stmt:=PySem.Challenge.pw_crookroad_k19_whole_too_many_rows.main.body.getD i (.Pass ⟨0,0,0,0⟩)
abbrev s_check_count:Stmt:=top 9
theorem qxx:FnScope ["number","fewest","most"] ["number","fewest","most"] (qt s_check_count):=⟨rfl,rfl,rfl,by decide +kernel,rfl,by decide +kernel,by decide +kernel⟩
theorem qwj:W8 "check_count" s_check_count ["number","fewest","most"] []:=λ_ _ _ _ _ _ _ us hl=>match us,hl with | [_,_,_],_=>exI rfl rfl
theorem qq6:W8 "check_count" s_check_count ["number","fewest","most"] [.none]:=λ_ _ _ _ _ _ _ us hl=>by
 have h2:us.length=2:=by simpa using hl
 match us,h2 with
 |[_,_],_=>exact exI rfl rfl
abbrev s_covered:Stmt:=top 13
theorem qun:FnScope ["road","stretch","lesser","greater"] ["road","stretch"] (qt s_covered):=⟨rfl,rfl,rfl,by decide +kernel,rfl,by decide +kernel,by decide +kernel⟩
theorem wq3:xh "covered" s_covered ["road","stretch"]:=λ_ _ _ _ _ _ us hl=>match us,hl with | [_,_],_=>rfl
abbrev s_covers_of:Stmt:=top 14
theorem qkk:FnScope ["road"] ["road"] (qt s_covers_of):=⟨rfl,rfl,rfl,by decide +kernel,rfl,by decide +kernel,by decide +kernel⟩
theorem qvq:xh "covers_of" s_covers_of ["road"]:=λ_ _ _ _ _ _ us hl=>match us,hl with | [_],_=>rfl
abbrev s_ways_of_no_step:Stmt:=top 15
theorem W0:FnScope ["width"] ["width"] (qt s_ways_of_no_step):=⟨rfl,rfl,rfl,by decide +kernel,rfl,by decide +kernel,by decide +kernel⟩
theorem Wg:xh "ways_of_no_step" s_ways_of_no_step ["width"]:=λ_ _ _ _ _ _ us hl=>match us,hl with | [_],_=>rfl
abbrev s_one_step_more:Stmt:=top 16
theorem Yx:FnScope ["covers","table"] ["covers","table"] (qt s_one_step_more):=⟨rfl,rfl,rfl,by decide +kernel,rfl,by decide +kernel,by decide +kernel⟩
theorem Yc:xh "one_step_more" s_one_step_more ["covers","table"]:=λ_ _ _ _ _ _ us hl=>match us,hl with | [_,_],_=>rfl
abbrev s_ways_up_to:Stmt:=top 17
theorem qxm:FnScope ["road","many","covers","tables"] ["road","many"] (qt s_ways_up_to):=⟨rfl,rfl,rfl,by decide +kernel,rfl,by decide +kernel,by decide +kernel⟩
theorem qxc:xh "ways_up_to" s_ways_up_to ["road","many"]:=λ_ _ _ _ _ _ us hl=>match us,hl with | [_,_],_=>rfl
abbrev s_rows_from:Stmt:=top 18
theorem qky:FnScope ["first","covers","tables","many","begun","left"] ["first","covers","tables"] (qt s_rows_from):=⟨rfl,rfl,rfl,by decide +kernel,rfl,by decide +kernel,by decide +kernel⟩
theorem qvr:xh "rows_from" s_rows_from ["first","covers","tables"]:=λ_ _ _ _ _ _ us hl=>match us,hl with | [_,_,_],_=>rfl
abbrev s_rows:Stmt:=top 19
theorem xwj:FnScope ["road","many","tables","covers","closed","first"] ["road","many"] (qt s_rows):=⟨rfl,rfl,rfl,by decide +kernel,rfl,by decide +kernel,by decide +kernel⟩
theorem xwy:xh "rows" s_rows ["road","many"]:=λ_ _ _ _ _ _ us hl=>match us,hl with | [_,_],_=>rfl
abbrev s_check_bottom:Stmt:=top 21
theorem Jj:FnScope ["bottom"] ["bottom"] (qt s_check_bottom):=⟨rfl,rfl,rfl,by decide +kernel,rfl,by decide +kernel,by decide +kernel⟩
theorem Jy:xh "check_bottom" s_check_bottom ["bottom"]:=λ_ _ _ _ _ _ us hl=>match us,hl with | [_],_=>rfl
abbrev s_common_divisor:Stmt:=top 22
theorem Zx:FnScope ["one","other"] ["one","other"] (qt s_common_divisor):=⟨rfl,rfl,rfl,by decide +kernel,rfl,by decide +kernel,by decide +kernel⟩
theorem Zk:xh "common_divisor" s_common_divisor ["one","other"]:=λ_ _ _ _ _ _ us hl=>match us,hl with | [_,_],_=>rfl
abbrev s_lowest:Stmt:=top 23
theorem wvj:FnScope ["top","bottom","divisor"] ["top","bottom"] (qt s_lowest):=⟨rfl,rfl,rfl,by decide +kernel,rfl,by decide +kernel,by decide +kernel⟩
theorem wz6:xh "lowest" s_lowest ["top","bottom"]:=λ_ _ _ _ _ _ us hl=>match us,hl with | [_,_],_=>rfl
abbrev s_ordered:Stmt:=top 24
theorem wq6:FnScope ["points","point","greatest","scale"] ["points"] (qt s_ordered):=⟨rfl,rfl,rfl,by decide +kernel,rfl,by decide +kernel,by decide +kernel⟩
theorem wwk:xh "ordered" s_ordered ["points"]:=λ_ _ _ _ _ _ us hl=>match us,hl with | [_],_=>rfl
abbrev s_is_line:Stmt:=top 27
theorem www:FnScope ["heights","width"] ["heights"] (qt s_is_line):=⟨rfl,rfl,rfl,by decide +kernel,rfl,by decide +kernel,by decide +kernel⟩
theorem qu7:xh "is_line" s_is_line ["heights"]:=λ_ _ _ _ _ _ us hl=>match us,hl with | [_],_=>rfl
abbrev s_Road___init__:Stmt:=uw (top 28) 0
theorem Yn:FnScope ["self","heights"] ["self","heights"] (qt s_Road___init__):=⟨rfl,rfl,rfl,by decide +kernel,rfl,by decide +kernel,by decide +kernel⟩
theorem Yu:jj "__init__" "Road.__init__" s_Road___init__ ["self","heights"]:=λ_ _ _ _ _ _ us hl=>match us,hl with | [_,_],_=>rfl
abbrev s_Road_width:Stmt:=uw (top 28) 1
theorem qxf:FnScope ["self"] ["self"] (qt s_Road_width):=⟨rfl,rfl,rfl,by decide +kernel,rfl,by decide +kernel,by decide +kernel⟩
theorem qxb:jj "width" "Road.width" s_Road_width ["self"]:=λ_ _ _ _ _ _ us hl=>match us,hl with | [_],_=>rfl
abbrev s_Road_ends:Stmt:=uw (top 28) 3
theorem qkx:FnScope ["self","stretch"] ["self","stretch"] (qt s_Road_ends):=⟨rfl,rfl,rfl,by decide +kernel,rfl,by decide +kernel,by decide +kernel⟩
theorem qkt:jj "ends" "Road.ends" s_Road_ends ["self","stretch"]:=λ_ _ _ _ _ _ us hl=>match us,hl with | [_,_],_=>rfl
abbrev s_Road_slope:Stmt:=uw (top 28) 4
theorem qxh:FnScope ["self","stretch","left","right"] ["self","stretch"] (qt s_Road_slope):=⟨rfl,rfl,rfl,by decide +kernel,rfl,by decide +kernel,by decide +kernel⟩
theorem qx4:jj "slope" "Road.slope" s_Road_slope ["self","stretch"]:=λ_ _ _ _ _ _ us hl=>match us,hl with | [_,_],_=>rfl
abbrev s_Road_reach:Stmt:=uw (top 28) 5
theorem qx8:FnScope ["self","stretch","left","right"] ["self","stretch"] (qt s_Road_reach):=⟨rfl,rfl,rfl,by decide +kernel,rfl,by decide +kernel,by decide +kernel⟩
theorem qxs:jj "reach" "Road.reach" s_Road_reach ["self","stretch"]:=λ_ _ _ _ _ _ us hl=>match us,hl with | [_,_],_=>rfl
abbrev s_Road_on_road:Stmt:=uw (top 28) 6
theorem Jf:FnScope ["self","point","top","bottom"] ["self","point"] (qt s_Road_on_road):=⟨rfl,rfl,rfl,by decide +kernel,rfl,by decide +kernel,by decide +kernel⟩
theorem Jg:jj "on_road" "Road.on_road" s_Road_on_road ["self","point"]:=λ_ _ _ _ _ _ us hl=>match us,hl with | [_,_],_=>rfl
abbrev s_Road_at:Stmt:=uw (top 28) 7
theorem wwu:FnScope ["self","point","top","bottom","stretch","left","right","beyond"] ["self","point"] (qt s_Road_at):=⟨rfl,rfl,rfl,by decide +kernel,rfl,by decide +kernel,by decide +kernel⟩
theorem wq8:jj "at" "Road.at" s_Road_at ["self","point"]:=λ_ _ _ _ _ _ us hl=>match us,hl with | [_,_],_=>rfl
abbrev s_walked:Stmt:=top 32
theorem wzm:FnScope ["road","point","many","here","points"] ["road","point","many"] (qt s_walked):=⟨rfl,rfl,rfl,by decide +kernel,rfl,by decide +kernel,by decide +kernel⟩
theorem wkj:xh "walked" s_walked ["road","point","many"]:=λ_ _ _ _ _ _ us hl=>match us,hl with | [_,_,_],_=>rfl
abbrev s_trace:Stmt:=top 33
theorem wyc:FnScope ["road","start","places","here"] ["road","start"] (qt s_trace):=⟨rfl,rfl,rfl,by decide +kernel,rfl,by decide +kernel,by decide +kernel⟩
theorem wyt:xh "trace" s_trace ["road","start"]:=λ_ _ _ _ _ _ us hl=>match us,hl with | [_,_],_=>rfl
abbrev s_least:Stmt:=top 34
theorem wjw:FnScope ["road","point","points","turn"] ["road","point"] (qt s_least):=⟨rfl,rfl,rfl,by decide +kernel,rfl,by decide +kernel,by decide +kernel⟩
theorem wk0:xh "least" s_least ["road","point"]:=λ_ _ _ _ _ _ us hl=>match us,hl with | [_,_],_=>rfl
abbrev s_line_along:Stmt:=top 36
theorem qx0:FnScope ["road","row","steep","height","stretch","slope","left"] ["road","row"] (qt s_line_along):=⟨rfl,rfl,rfl,by decide +kernel,rfl,by decide +kernel,by decide +kernel⟩
theorem qxy:xh "line_along" s_line_along ["road","row"]:=λ_ _ _ _ _ _ us hl=>match us,hl with | [_,_],_=>rfl
abbrev s_fixed_point:Stmt:=top 37
theorem qwf:FnScope ["road","row","steep","height"] ["road","row"] (qt s_fixed_point):=⟨rfl,rfl,rfl,by decide +kernel,rfl,by decide +kernel,by decide +kernel⟩
theorem qwp:xh "fixed_point" s_fixed_point ["road","row"]:=λ_ _ _ _ _ _ us hl=>match us,hl with | [_,_],_=>rfl
abbrev s_corners_back:Stmt:=top 38
theorem Ju:FnScope ["road","many","corners"] ["road","many"] (qt s_corners_back):=⟨rfl,rfl,rfl,by decide +kernel,rfl,by decide +kernel,by decide +kernel⟩
theorem Jc:xh "corners_back" s_corners_back ["road","many"]:=λ_ _ _ _ _ _ us hl=>match us,hl with | [_,_],_=>rfl
abbrev s_lies_in:Stmt:=top 39
theorem wwd:FnScope ["point","stretches","top","bottom"] ["point","stretches"] (qt s_lies_in):=⟨rfl,rfl,rfl,by decide +kernel,rfl,by decide +kernel,by decide +kernel⟩
theorem wq9:xh "lies_in" s_lies_in ["point","stretches"]:=λ_ _ _ _ _ _ us hl=>match us,hl with | [_,_],_=>rfl
abbrev s_back:Stmt:=top 40
theorem xqt:FnScope ["road","many","closed","fixed","wholes","single","points"] ["road","many"] (qt s_back):=⟨rfl,rfl,rfl,by decide +kernel,rfl,by decide +kernel,by decide +kernel⟩
theorem xqh:xh "back" s_back ["road","many"]:=λ_ _ _ _ _ _ us hl=>match us,hl with | [_,_],_=>rfl
abbrev s_candidates:Stmt:=top 41
theorem qxn:FnScope ["road","length","points","wholes","thirds"] ["road","length"] (qt s_candidates):=⟨rfl,rfl,rfl,by decide +kernel,rfl,by decide +kernel,by decide +kernel⟩
theorem qx5:xh "candidates" s_candidates ["road","length"]:=λ_ _ _ _ _ _ us hl=>match us,hl with | [_,_],_=>rfl
abbrev s_lengths:Stmt:=top 42
theorem wq1:FnScope ["road","most"] ["road","most"] (qt s_lengths):=⟨rfl,rfl,rfl,by decide +kernel,rfl,by decide +kernel,by decide +kernel⟩
theorem wqw:xh "lengths" s_lengths ["road","most"]:=λ_ _ _ _ _ _ us hl=>match us,hl with | [_,_],_=>rfl
abbrev s_ring:Stmt:=top 43
theorem xwn:FnScope ["road","length","found"] ["road","length"] (qt s_ring):=⟨rfl,rfl,rfl,by decide +kernel,rfl,by decide +kernel,by decide +kernel⟩
theorem xws:xh "ring" s_ring ["road","length"]:=λ_ _ _ _ _ _ us hl=>match us,hl with | [_,_],_=>rfl
abbrev s__law_cell:Stmt:=top 45
theorem qkz:FnScope ["_law_script","_law_at"] ["_law_script","_law_at"] (qt s__law_cell):=⟨rfl,rfl,rfl,by decide +kernel,rfl,by decide +kernel,by decide +kernel⟩
theorem qku:xh "_law_cell" s__law_cell ["_law_script","_law_at"]:=λ_ _ _ _ _ _ us hl=>match us,hl with | [_,_],_=>rfl
abbrev s__law_pick:Stmt:=top 46
theorem qvu:FnScope ["_law_script","_law_at","_law_turn","_law_many","_law_cell_here","_law_left","_law_k","_law_low","_law_one","_law_two"] ["_law_script","_law_at","_law_turn","_law_many"] (qt s__law_pick):=⟨rfl,rfl,rfl,by decide +kernel,rfl,by decide +kernel,by decide +kernel⟩
theorem qv4:xh "_law_pick" s__law_pick ["_law_script","_law_at","_law_turn","_law_many"]:=λ_ _ _ _ _ _ us hl=>match us,hl with | [_,_,_,_],_=>rfl
abbrev s__law_climb:Stmt:=top 47
theorem qx7:FnScope ["_law_script","_law_at","_law_wide","_law_row","_law_k"] ["_law_script","_law_at","_law_wide"] (qt s__law_climb):=⟨rfl,rfl,rfl,by decide +kernel,rfl,by decide +kernel,by decide +kernel⟩
theorem qxr:xh "_law_climb" s__law_climb ["_law_script","_law_at","_law_wide"]:=λ_ _ _ _ _ _ us hl=>match us,hl with | [_,_,_],_=>rfl
abbrev s__law_heights:Stmt:=top 48
theorem Jk:FnScope ["_law_script","_law_at","_law_most","_law_wide","_law_kind"] ["_law_script","_law_at","_law_most"] (qt s__law_heights):=⟨rfl,rfl,rfl,by decide +kernel,rfl,by decide +kernel,by decide +kernel⟩
theorem Jx:xh "_law_heights" s__law_heights ["_law_script","_law_at","_law_most"]:=λ_ _ _ _ _ _ us hl=>match us,hl with | [_,_,_],_=>rfl
abbrev s__law_crowds:Stmt:=top 49
theorem qwb:FnScope ["_law_heights_here","_law_most","_law_wide","_law_found","_law_made","_law_turn","_law_fresh","_law_k","_law_low"] ["_law_heights_here","_law_most"] (qt s__law_crowds):=⟨rfl,rfl,rfl,by decide +kernel,rfl,by decide +kernel,by decide +kernel⟩
theorem qws:xh "_law_crowds" s__law_crowds ["_law_heights_here","_law_most"]:=λ_ _ _ _ _ _ us hl=>match us,hl with | [_,_],_=>rfl
abbrev s__law_ask:Stmt:=top 51
theorem qy6:FnScope ["_law_road","_law_door","_law_many"] ["_law_road","_law_door","_law_many"] (qt s__law_ask):=⟨rfl,rfl,rfl,by decide +kernel,rfl,by decide +kernel,by decide +kernel⟩
theorem qjj:xh "_law_ask" s__law_ask ["_law_road","_law_door","_law_many"]:=λ_ _ _ _ _ _ us hl=>match us,hl with | [_,_,_],_=>rfl
abbrev s__law_told:Stmt:=top 52
theorem qkc:FnScope ["_law_road","_law_door","_law_many","_law_told_here"] ["_law_road","_law_door","_law_many"] (qt s__law_told):=⟨rfl,rfl,rfl,by decide +kernel,rfl,by decide +kernel,by decide +kernel⟩
theorem qvp:xh "_law_told" s__law_told ["_law_road","_law_door","_law_many"]:=λ_ _ _ _ _ _ us hl=>match us,hl with | [_,_,_],_=>rfl
abbrev s__law_layers:Stmt:=top 53
theorem qwg:FnScope ["_law_script","_law_size","_law_many","_law_made","_law_k","_law_layer"] ["_law_script"] (qt s__law_layers):=⟨rfl,rfl,rfl,by decide +kernel,rfl,by decide +kernel,by decide +kernel⟩
theorem qw0:xh "_law_layers" s__law_layers ["_law_script"]:=λ_ _ _ _ _ _ us hl=>match us,hl with | [_],_=>rfl
abbrev s_law:Stmt:=top 54
theorem sc_law:FnScope ["_law_script","_law_heights_here","_law_wide","_law_many","_law_road","_law_crowds_here","_law_long","_law_door"] ["_law_script"] (qt s_law):=⟨rfl,rfl,rfl,by decide +kernel,rfl,by decide +kernel,by decide +kernel⟩
local macro_rules | `(tactic| walk_at "sq")=>`(tactic| first | assumption | exact SqT.new | exact SqL.new | ((with_reducible refine Same.sqt (Same.upd (by assumption)) ?_);walk_at "sq") | ((with_reducible refine Same.sql (Same.upd (by assumption)) ?_);walk_at "sq"))
local macro_rules | `(tactic| walk_at "at")=>`(tactic| first | rfl | exact qqq (by lia) (by lia))
local macro_rules | `(tactic| walk_at "mul")=>`(tactic| first | assumption | exact IntMulOk.of_left (intBits_le_64 (by lia) (by lia)) | exact IntMulOk.of_right (intBits_le_64 (by lia) (by lia)) | exact Sm.ok (by assumption) (by assumption) (by decide))
local macro_rules | `(tactic| walk_at "pos")=>`(tactic| first | lia | decide +kernel)
local macro_rules | `(tactic| walk_at "div")=>`(tactic| exact ⟨by first | lia | decide +kernel,by unfold Sm;decide +kernel⟩)
local macro_rules | `(tactic| walk_at "loc")=>`(tactic| first | exact Or.inl rfl | exact Or.inr rfl)
local macro_rules | `(tactic| walk_at "cap")=>`(tactic| repeat (first | exact trivial | refine ⟨rfl,?_⟩))
local macro_rules | `(tactic| walk_at "has")=>`(tactic| repeat (first | exact trivial | (refine ⟨λz=>?_,by decide,?_⟩;(first | exact ⟨_,rfl⟩ | cases z))))
local macro_rules | `(tactic| walk_at "cix")=>`(tactic| repeat (first | exact trivial | refine ⟨⟨_,_,rfl,rfl,rfl,rfl⟩,?_⟩))
local macro_rules | `(tactic| walk_at "hasK")=>`(tactic| repeat (first | exact trivial | (refine ⟨λz=>?_,λz=>?_,?_⟩;(first | exact ⟨_,rfl⟩ | cases z);(first | rfl | cases z))))
structure Txt (K:Aa)(mg:Str→Option Ag)(qp:Aj)(qx:Aj)(qf:Aj)(qu:Aj)(qy:Aj)(qm:Aj)(qd:Aj)(qw:Aj):Prop where
 len_:mg "len" = none
 abs_:mg "abs" = none
 range_:mg "range" = none
 isinstance_:mg "isinstance" = none
 int_:mg "int" = none
 bool_:mg "bool" = none
 list_:mg "list" = none
 tuple_:mg "tuple" = none
 min_:mg "min" = none
 max_:mg "max" = none
 all_:mg "all" = none
 any_:mg "any" = none
 sum_:mg "sum" = none
 sorted_:mg "sorted" = none
 zip_:mg "zip" = none
 set_:mg "set" = none
 g_BadLine:mg "BadLine" = some (.ref qp)
 x_BadLine:ExcC K qp
 g_BadBottom:mg "BadBottom" = some (.ref qx)
 x_BadBottom:ExcC K qx
 g_OffRoad:mg "OffRoad" = some (.ref qf)
 x_OffRoad:ExcC K qf
 g_BadCount:mg "BadCount" = some (.ref qu)
 x_BadCount:ExcC K qu
 g_TooLong:mg "TooLong" = some (.ref qy)
 x_TooLong:ExcC K qy
 g_BadRow:mg "BadRow" = some (.ref qm)
 x_BadRow:ExcC K qm
 g_RoadError:mg "RoadError" = some (.ref qd)
 x_RoadError:ExcC K qd
 cl:Cls K qw
 na:NoAttr K qw "heights"
 g_WIDEST:∃t,mg "WIDEST" = some (.int 24 t)
 g_Road:mg "Road" = some (.ref qw)
 g_LONGEST_TRACE:∃t,mg "LONGEST_TRACE" = some (.int 1000 t)
 g_LONGEST_ROW:∃t,mg "LONGEST_ROW" = some (.int 12 t)
 g_MOST_WAYS:∃t,mg "MOST_WAYS" = some (.int 1000 t)
 g_MOST_WALKED:∃t,mg "MOST_WALKED" = some (.int 1000 t)
section
variable {P:Ac}{w:Ah}{K:Aa}{mg:Str→Option Ag}{base:Heap}{qp:Aj}{qx:Aj}{qf:Aj}{qu:Aj}{qy:Aj}{qm:Aj}{qd:Aj}{qw:Aj}
def Jm (C:Aj):Sp:=λvs H Q E=>∃b:Int,vs=[.int b]∧(1≤b→Q .non H)∧(b<1→E (.ref C) none H)
theorem wug {f:Aj}{fd:Ad}(F:Fun K "check_bottom" "check_bottom" s_check_bottom f fd)(T:Txt K mg qp qx qf qu qy qm qd qw):FnOk P w K mg base (CXE P w) 1 f fd ["bottom"] (Jm qx):=by
 have sc:=Jj
 refine F.okX sc (λvs H Q E h=>by obtain ⟨b,rfl,_⟩:=h;rfl) (λcdv A outer s H vs Q E hr h=>?_)
 obtain ⟨b,rfl,h1,h2⟩:=h
 refine ⟨_,(qh (zf (wc qw6 (pv 0) qj (wn _)) (qh (jf rfl T.x_BadBottom vt rfl T.g_BadBottom (xw kh qv))) xj)),?_⟩
 refine exI rfl (wy rfl rfl (exI rfl ?_))
 refine jz (λq1=>?_) (λq1=>?_)
 ·exact ⟨by decide,h2 q1⟩
 ·exact h1 (by lia)
theorem xwu {f:Aj}{fd:Ad}(F:Fun K "_law_cell" "_law_cell" s__law_cell f fd)(T:Txt K mg qp qx qf qu qy qm qd qw):FnOk P w K mg base (CXE P w) 1 f fd ["_law_script","_law_at"] (qu5 K):=by
 have sc:=qkz
 refine F.okX sc (λvs H Q E h=>by obtain ⟨a,ns,i,rfl,_⟩:=h;rfl) (λcdv A outer s H vs Q E hr h=>?_)
 obtain ⟨a,ns,i,rfl,hS,h0,k⟩:=h
 have hlen:(ns.map V.int).length=ns.length:=ag _
 refine ⟨_,(qk (zf (wc qw6 (pv 1) (wg xu rfl T.len_ bH (qg (pv 0) qv)) (wn _)) (qh (wp (zv zk (pv 0) (pv 1) (λ_ _=>rfl)))) xj)
   (qk (zf (wc vf (wg xu rfl T.len_ bH (qg (pv 0) qv)) qj (wn _)) (qh (wp (ww xv (ww xy qj (pv 1)) qj))) xj)
   (qh (wp (ww xv (zv zk (pv 0) (ww v9 (pv 1) (wg xu rfl T.len_ bH (qg (pv 0) qv))) (λ_ _=>rfl)) (ww xy qj (pv 1))))))),?_⟩
 refine exI rfl (exI rfl ⟨_,_,rfl,.inl hS,wy rfl rfl (exI rfl ?_)⟩)
 refine jz (λq1=>?_) (λq1=>?_)
 ·rw [hlen] at q1
  refine exI rfl (exI rfl (exX rfl rfl hS (qqq h0 q1) ?_))
  exact k _ (by rw [qj8,av q1])
 ·rw [hlen] at q1
  refine exI rfl ⟨_,_,rfl,.inl hS,rfl,_,rfl,?_⟩
  rw [hlen]
  refine z9 (λq2=>?_) (λq2=>?_)
  ·refine exI rfl (wy rfl rfl ⟨(by walk_at "mul"),wy rfl rfl ?_⟩)
   exact k _ (by rw [qj8,ao q1,av q2])
  ·refine exI rfl (exI rfl (exI rfl ⟨_,_,rfl,.inl hS,wy rfl rfl ⟨(by rw [hlen];lia),?_⟩⟩))
   rw [hlen]
   refine exX rfl rfl hS (qqq (bR _ q2) (bA _ (by lia))) (exI rfl (wy rfl rfl ⟨(by walk_at "mul"),wy rfl rfl ?_⟩))
   exact k _ (by rw [qj8,ao q1,ao q2])
theorem xw9 {f:Aj}{fd:Ad}(F:Fun K "_law_pick" "_law_pick" s__law_pick f fd)(T:Txt K mg qp qx qf qu qy qm qd qw)(c__law_cell:Cal P w K mg base "_law_cell" 1 (qu5 K)):FnOk P w K mg base (CXE P w) 2 f fd ["_law_script","_law_at","_law_turn","_law_many"] (Wm K):=by
 have sc:=qvu
 refine F.okX sc (λvs H Q E h=>by obtain ⟨a,ns,i,t,m,rfl,_⟩:=h;rfl) (λcdv A outer s H vs Q E hr h=>?_)
 obtain ⟨a,ns,i,t,m,rfl,hS,h0,t0,t1,m0,k⟩:=h
 refine ⟨_,(qk (wb (i:=4) sc.nd rfl (by walk_at "loc") (q9 c__law_cell (hr.mono (by decide)) rfl qc (qg (pv 0) (qg (pv 1) qv))))
   (qk (zf (wc wxx (wg qq2 rfl T.abs_ qqk (qg (pv 4) qv)) (ww op_pow qj qj) (wn _)) (qk (wb (i:=5) sc.nd rfl (by walk_at "loc") (wg qq2 rfl T.abs_ qqk (qg (pv 4) qv)))
   (qk (yj bz rfl (xf rfl T.range_ (qg (pv 2) qv)) (wt (i:=6) sc.nd rfl (by walk_at "loc")) (qh (wb (i:=5) sc.nd rfl (by walk_at "loc") (ww yt (pv 5) qj))))
   (qk (zf (wc qw6 (pv 4) qj (wn _)) (qh (wb (i:=5) sc.nd rfl (by walk_at "loc") (ww v9 (pv 5) qj))) xj)
   (qh (wp (ww v9 (pv 5) (pv 3))))))) xj)
   (qk (wb (i:=7) sc.nd rfl (by walk_at "loc") (ww v9 (pv 4) qj))
   (qk (wb (i:=8) sc.nd rfl (by walk_at "loc") (ww v9 (ww xv (ww xv (ww xy (pv 7) qj) (ww xy (pv 2) qj)) qj) qj))
   (qk (wb (i:=9) sc.nd rfl (by walk_at "loc") (ww v9 (ww xv (ww xv (ww xy (pv 8) (pv 8)) (ww xy (pv 7) qj)) (ww xy (pv 2) qj)) qj))
   (qh (wp (ww v9 (ww v9 (ww xv (ww xv (ww xy (pv 9) (pv 9)) (ww xy (pv 8) qj)) (ww xy (pv 2) qj)) qj) (pv 3))))))))),?_⟩
 refine exI rfl (exI rfl ?_)
 refine ⟨a,ns,i,rfl,hS,h0,λc hc=>?_⟩
 have fin:∀v,v=qy1 c t%m→Q (.int v) H:=λv hv=>by
  refine k v (by rw [hv,qjw,hc]) ?_ ?_
  ·rw [hv];exact bR _ (by lia)
  ·rw [hv];exact bA _ m0
 refine exI rfl (exI rfl (wy rfl rfl ⟨⟨by decide,by decide,by decide⟩,wy rfl rfl (exI rfl ?_)⟩))
 refine jz (λq1=>?_) (λq1=>?_)
 ·have q1':10 ^ 18≤Qn c:=q1
  refine exI rfl (exI rfl ?_)
  refine exI rfl ⟨t,rfl,(by lia),(by lia),k9 (λj σ H1=>H1=H∧∃z,σ=[some (.ref a),some (.int i),some (.int t),some (.int m),some (.int c),some (.int (divs (Qn c) j)),z,none,none,none]) ⟨rfl,_,rfl⟩ ?_ ?_⟩
  ·rintro j σ H1 hj ⟨rfl,z,rfl⟩
   exact exI rfl (wy rfl rfl ⟨(by walk_at "div"),rfl,_,rfl⟩)
  ·rintro σ H1 ⟨rfl,z,rfl⟩
   refine exI rfl (wy rfl rfl (exI rfl ?_))
   refine jz (λq2=>?_) (λq2=>?_)
   ·refine exI rfl (wy rfl rfl ⟨(by walk_at "pos"),exI rfl (exI rfl (wy rfl rfl ⟨(by walk_at "pos"),?_⟩))⟩)
    exact fin _ (by rw [wjn q1' q2])
   ·refine exI rfl (exI rfl (wy rfl rfl ⟨(by walk_at "pos"),?_⟩))
    exact fin _ (by rw [wvn q1' q2])
 ·have q1':¬ 10 ^ 18≤Qn c:=q1
  have l0:=bR c (show (1000003:Int)≠0 by decide)
  have l1:=bA c (show (0:Int)<1000003 by decide)
  refine exI rfl (wy rfl rfl ⟨(by walk_at "pos"),exI rfl (wy rfl rfl ⟨(by walk_at "mul"),exI rfl (wy rfl rfl ⟨(by walk_at "mul"),wy rfl rfl (wy rfl rfl (wy rfl rfl ⟨(by walk_at "pos"),?_⟩))⟩)⟩)⟩)
  have o0:0≤qvg c t:=bR _ (by decide)
  have o1:qvg c t<999983:=bA _ (by decide)
  refine ⟨V.int (qvg c t),rfl,V.int (qvg c t),rfl,wy rfl rfl ⟨(by walk_at "mul"),exI rfl (wy rfl rfl ⟨(by walk_at "mul"),wy rfl rfl (exI rfl (wy rfl rfl ⟨(by walk_at "mul"),wy rfl rfl (wy rfl rfl ⟨(by walk_at "pos"),?_⟩)⟩))⟩)⟩⟩
  have w0:0≤qy3 c t:=bR _ (by decide)
  have w1:qy3 c t<1000033:=bA _ (by decide)
  refine ⟨V.int (qy3 c t),rfl,V.int (qy3 c t),rfl,wy rfl rfl ⟨(by walk_at "mul"),V.int (qvg c t),rfl,wy rfl rfl ⟨(by walk_at "mul"),wy rfl rfl (exI rfl (wy rfl rfl ⟨(by walk_at "mul"),wy rfl rfl (wy rfl rfl ⟨(by walk_at "pos"),exI rfl (wy rfl rfl ⟨(by walk_at "pos"),?_⟩)⟩)⟩))⟩⟩⟩
  exact fin _ (by rw [wk7 q1'])
def Within (n f:Int)(m:Option Int):Prop:=f≤n∧∀b,m=some b→n≤b
def W7 (C:Aj):Sp:=λvs H Q E=>∃(n f:Int) (m:V) (o:Option Int),vs=[.int n,.int f,m]∧(m=.non∧o=none∨∃b,m=.int b∧o=some b)∧(Within n f o→Q .non H)∧(¬ Within n f o→E (.ref C) none H)
theorem wyw {f:Aj}{fd:Ad}(F:FunD K "check_count" s_check_count f fd)(T:Txt K mg qp qx qf qu qy qm qd qw):FnOk P w K mg base (CXE P w) 1 f fd ["number","fewest","most"] (W7 qu):=by
 have sc:=qxx
 refine F.okX sc (λvs H Q E h=>by obtain ⟨n,f,m,o,rfl,_⟩:=h;rfl) (λcdv A outer s H vs Q E hr h=>?_)
 obtain ⟨n,fe,m,o,rfl,hm,k,x⟩:=h
 refine ⟨_,(qh (zf (PW.pt (qyt (wc qw6 (pv 0) (pv 1) (wn _)) (qqb (PW.pt (qu6 (wc wx0 (pv 2) Yk (wn _)) (qkj (wc Qj (pv 0) (pv 2) (wn _)))))))) (qh (jf rfl T.x_BadCount vt rfl T.g_BadCount (xw kh qv))) xj)),?_⟩
 refine exI rfl (exI rfl (wy rfl rfl (exI rfl ?_)))
 refine jz (λq1=>?_) (λq1=>?_)
 ·refine Z9 ?_
  exact ⟨sz1,x (λz=>by have:=z.1;lia)⟩
 ·rcases hm with ⟨rfl,rfl⟩|⟨b,rfl,rfl⟩
  ·refine exI rfl ⟨rfl,_,rfl,?_⟩
   refine qw4 ?_
   exact k ⟨by lia,λb e=>nomatch e⟩
  ·refine exI rfl ⟨rfl,_,rfl,?_⟩
   refine Z9 ?_
   refine exI rfl (exI rfl (wy rfl rfl (exI rfl ?_)))
   refine jz (λq2=>?_) (λq2=>?_)
   ·exact ⟨sz1,x (λz=>by have:=z.2 b rfl;lia)⟩
   ·exact k ⟨by lia,λb' e=>by cases e;lia⟩
def wv (ns:List Int):Prop:=2≤ns.length∧ns.length≤25∧∀h∈ns,0≤h∧h≤(ns.length:Int)-1
def qq8 (K:Aa):Sp:=λvs H Q _=>∃(p:Aj) (ns:List Int),vs=[.ref p]∧SqL K H p (ns.map V.int)∧(wv ns→Q (.bl true) H)∧(¬ wv ns→Q (.bl false) H)
theorem wwj {f:Aj}{fd:Ad}(F:Fun K "is_line" "is_line" s_is_line f fd)(T:Txt K mg qp qx qf qu qy qm qd qw):FnOk P w K mg base (CXE P w) 1 f fd ["heights"] (qq8 K):=by
 have sc:=www
 refine F.okX sc (λvs H Q E h=>by obtain ⟨p,ns,rfl,_⟩:=h;rfl) (λcdv A outer s H vs Q E hr h=>?_)
 obtain ⟨p,ns,rfl,hS,k1,k2⟩:=h
 have hlen:(ns.map V.int).length=ns.length:=ag _
 obtain ⟨tw,g_WIDEST⟩:=T.g_WIDEST
 refine ⟨_,(qk (wb (i:=1) sc.nd rfl (by walk_at "loc") (ww vq (wg xu rfl T.len_ bH (qg (pv 0) qv)) qj))
   (qk (zf (PW.pt (qyt (wc qw6 (pv 1) qj (wn _)) (qqb (wc Qj (pv 1) (Q6 (v:=V.int 24) rfl g_WIDEST ⟨_,rfl⟩) (wn _))))) (qh (wp wjs)) xj)
   (qh (wp (wj0 (Q3 wxx (wg (qxt rfl) rfl T.min_ cB (qg (pv 0) qv)) qj (wn _)) (wqg (Q3 wwn (wg (Ww rfl) rfl T.max_ cU (qg (pv 0) qv)) (pv 1) (wn _)))))))),?_⟩
 refine exI rfl ⟨_,_,rfl,.inl hS,wy rfl rfl ?_⟩
 refine exI rfl (wy rfl rfl (exI rfl ?_))
 rw [hlen]
 refine jz (λq1=>?_) (λq1=>?_)
 ·refine Z9 ?_
  exact k2 (λz=>by have:=z.1;lia)
 ·refine exI rfl (wy rfl rfl (exI rfl ?_))
  refine jz (λq2=>?_) (λq2=>?_)
  ·exact k2 (λz=>by have:=z.2.1;lia)
  ·refine exI rfl ⟨p,ns,rfl,hS,(by lia),λm hm hle=>(wy rfl rfl (exI rfl ?_))⟩
   refine jz (λq3=>?_) (λq3=>?_)
   ·refine exI rfl ⟨p,ns,rfl,hS,(by lia),λm2 hm2 hle2=>(exI rfl (wy rfl rfl ?_))⟩
    show Q (.bl (decide (m2≤(ns.length:Int)-1))) H
    by_cases q4:m2≤(ns.length:Int)-1
    ·rw [aT q4]
     exact k1 ⟨by lia,by lia,λh hh=>by have:=hle h hh;have:=hle2 h hh;lia⟩
    ·rw [bp q4]
     exact k2 (λz=>q4 (z.2.2 m2 hm2).2)
   ·exact k2 (λz=>q3 (z.2.2 m hm).1)
def RoadAt (C:Aj)(H:Hp)(r:Aj)(ns:List Int):Prop:=∃dx q,H r=some (.ins C dx [("heights",.ref q)])∧H q=some (.lst (ns.map V.int))
theorem RoadAt.same {C:Aj}{H H':Hp}{r:Aj}{ns:List Int}(h:RoadAt C H r ns)(s:Same H H'):RoadAt C H' r ns:=by
 obtain ⟨dx,q,h1,h2⟩:=h
 exact ⟨dx,q,s _ _ h1,s _ _ h2⟩
theorem uu {q:Aj}:([("heights",V.ref q)]:List (Str×V)).lookup ("heights" : Str)=some (.ref q):=by
 rw [bo]
 simp
theorem xk {q:Aj}{m:Str}(h:¬ m = "heights"):([("heights",V.ref q)]:List (Str×V)).lookup m=none:=by
 rw [bo]
 have:(m==("heights" : Str))=false:=b8.mpr h
 rw [this]
 rfl
def qk1 (K:Aa)(CB C:Aj):Sp:=λvs H Q E=>∃(r dx p:Aj) (ns:List Int),vs=[.ref r,.ref p]∧H r=some (.ins C dx [])∧SqL K H p (ns.map V.int) ∧
 (wv ns→∀H' q,H q=none→(∀b o,H b=some o→b≠r→H' b=some o)→H' r=some (.ins C dx [("heights",.ref q)])→H' q=some (.lst (ns.map V.int))→Q .non H')∧(¬ wv ns→E (.ref CB) none H)
theorem xwf {f:Aj}{fd:Ad}(F:Fun K "__init__" "Road.__init__" s_Road___init__ f fd)(T:Txt K mg qp qx qf qu qy qm qd qw)(c_is_line:Cal P w K mg base "is_line" 1 (qq8 K)):FnOk P w K mg base (CXE P w) 2 f fd ["self","heights"] (qk1 K qp qw):=by
 have sc:=Yn
 refine F.okX sc (λvs H Q E h=>by obtain ⟨r,dx,p,ns,rfl,_⟩:=h;rfl) (λcdv A outer s H vs Q E hr h=>?_)
 obtain ⟨r,dx,p,ns,rfl,hr0,hS,k,x⟩:=h
 refine ⟨_,(qk (zf (wk4 (wwy (q9 c_is_line (hr.mono (by decide)) rfl qc (qg (pv 1) qv)))) (qh (jf rfl T.x_BadLine vt rfl T.g_BadLine (xw kh qv))) xj)
   (qh (ps_fld (pv 0) (Z7 Zr rfl T.list_ d8 (qg (pv 1) qv)) rfl))),?_⟩
 refine ⟨_,rfl,p,ns,rfl,hS,λok=>(exI rfl ?_),λbad=>(exI rfl ?_)⟩
 ·refine qw4 ?_
  refine exI rfl ⟨_,_,rfl,.inl hS,λq nq=>?_⟩
  have hr1:upd H q (.lst (ns.map V.int)) r=some (.ins qw dx []):=by rw [qr (q8 hr0 nq)];exact hr0
  refine exI rfl ⟨r,qw,dx,[],rfl,hr1,T.cl,T.na,(by show 0<1000;decide),?_⟩
  refine k ok _ q nq (λb o e n=>?_) qb ?_
  ·rw [qr n,qr (q8 e nq)]
   exact e
  ·rw [qr (q8 hr0 nq).symm,qb]
 ·refine Z9 ?_
  exact ⟨sz1,x bad⟩
def jb (C:Aj):Sp:=λvs H Q _=>∃(r:Aj) (ns:List Int),vs=[.ref r]∧RoadAt C H r ns∧Q (.int ((ns.length:Int)-1)) H
theorem wyz {f:Aj}{fd:Ad}(F:Fun K "width" "Road.width" s_Road_width f fd)(T:Txt K mg qp qx qf qu qy qm qd qw):FnOk P w K mg base (CXE P w) 1 f fd ["self"] (jb qw):=by
 have sc:=qxf
 refine F.okX sc (λvs H Q E h=>by obtain ⟨r,ns,rfl,_⟩:=h;rfl) (λcdv A outer s H vs Q E hr h=>?_)
 obtain ⟨r,ns,rfl,⟨dx,q,h1,h2⟩,k⟩:=h
 refine ⟨_,(qh (wp (ww vq (wg xu rfl T.len_ bH (vw (wwm (pv 0) rfl) qv)) qj))),?_⟩
 refine exI rfl ⟨r,qw,dx,_,_,rfl,h1,T.cl,T.na,uu,q,exI rfl ⟨.inl (SqL.of h2),wy rfl rfl ?_⟩⟩
 rw [ag]
 exact k
def InW (ns:List Int)(wd:Int):Prop:=(ns.length:Int)=wd+1∧∀h∈ns,0≤h∧h≤wd
def J1 (K:Aa):Sp:=λvs H Q _=>∃(a:Aj) (ns:List Int) (i wd:Int),vs=[.ref a,.int i,.int wd]∧SqL K H a (ns.map V.int)∧0≤i∧1≤wd∧wd≤24 ∧
 ∀p hs,H p=none→InW hs wd→Q (.ref p) (upd H p (.lst (hs.map V.int)))
theorem wur {f:Aj}{fd:Ad}(F:Fun K "_law_climb" "_law_climb" s__law_climb f fd)(T:Txt K mg qp qx qf qu qy qm qd qw)(c__law_pick:Cal P w K mg base "_law_pick" 2 (Wm K)):FnOk P w K mg base (CXE P w) 3 f fd ["_law_script","_law_at","_law_wide"] (J1 K):=by
 have sc:=qx7
 refine F.okX sc (λvs H Q E h=>by obtain ⟨a,ns,i,wd,rfl,_⟩:=h;rfl) (λcdv A outer s H vs Q E hr h=>?_)
 obtain ⟨a,ns,i,wd,rfl,hS,h0,w1,w2,k⟩:=h
 refine ⟨_,(qk (wb (i:=3) sc.nd rfl (by walk_at "loc") (yk (vv (q9 c__law_pick (hr.mono (by decide)) rfl qc (qg (pv 0) (qg (pv 1) (xw qj (zu (ww xv (pv 2) qj) qv))))) qv)))
   (qk (yj bz rfl (xf rfl T.range_ (qg (pv 2) qv)) (wt (i:=4) sc.nd rfl (by walk_at "loc")) (qh (zg (qqh cn cC cD v4 (pv 3) (vv (wg (Z6 rfl) rfl T.max_ cU (xw qj (vv (wg (jd rfl) rfl T.min_ cB (qg (pv 2) (zu (ww vq (ww xv (zv zk (pv 3) (qww W4 qj) (λ_ _=>rfl)) (ww xy qj (q9 c__law_pick (hr.mono (by decide)) rfl qc (qg (pv 0) (qg (pv 1) (zu (ww xv qj (pv 4)) (xw qj qv))))))) qj) qv))) qv))) qv)))))
   (qh (wp (pv 3))))),?_⟩
 refine exI rfl (exI rfl (exI rfl (wy rfl rfl ⟨a,ns,_,_,_,rfl,hS,h0,(by lia),(by lia),(by lia),λr1 _ l1 u1=>⟨sz1,λp np=>?_⟩⟩)))
 refine ⟨_,rfl,wd,rfl,(by lia),(by lia),k9 (λj σ H1=>∃(ys:List Int) (l:Int) (z:Option V),ys.length=j∧(∀h∈ys++[l],0≤h∧h≤wd)∧H1=upd H p (.lst ((ys++[l]).map V.int))∧σ=[some (.ref a),some (.int i),some (.int wd),some (.ref p),z])
  ⟨[],r1,none,rfl,(λh hh=>by have e:=aJ.mp hh;subst e;lia),rfl,rfl⟩ ?_ ?_⟩
 ·rintro j σ H1 hj ⟨ys,l,z,hy,hb,rfl,rfl⟩
  have hp:upd H p (.lst ((ys++[l]).map V.int)) p=some (.lst ((ys++[l]).map V.int)):=qb
  have hS1:SqL K (upd H p (.lst ((ys++[l]).map V.int))) a (ns.map V.int):=Same.sql (Same.upd np) hS
  have hlast:atI ((ys++[l]).map V.int) (-1)=some (V.int l):=by
   rw [be]
   exact Qm _ _
  have hl:=hb l (by simp)
  refine exI rfl ⟨.inl ⟨rfl,_,SqL.of hp⟩,exI rfl (exI rfl (exI rfl (exX rfl rfl (SqL.of hp) hlast (exI rfl (exI rfl (exI rfl (wy rfl rfl ⟨a,ns,_,_,_,rfl,hS1,h0,(by lia),(by lia),(by lia),λr2 _ l2 u2=>?_⟩)))))))⟩
  refine wy rfl rfl ⟨(by walk_at "mul"),wy rfl rfl (wy rfl rfl ⟨_,_,rfl,_,_,rfl,_,_,_,rfl,rfl,hp,?_,?_⟩)⟩
  ·rw [ag,am,hy]
   have:(1000000:Nat)<sizeLine:=by decide
   simp only [aQ,eB]
   lia
  ·refine ⟨ys++[l],(if (if l+2*r2-1<wd then l+2*r2-1 else wd)>0 then (if l+2*r2-1<wd then l+2*r2-1 else wd) else 0),_,by rw [am,hy];rfl,λh hh=>?_,?_,rfl⟩
   ·rcases aU.mp hh with hh|hh
    ·exact hb h hh
    ·have e:=aJ.mp hh
     subst e
     by_cases g1:l+2*r2-1<wd
     ·rw [av g1]
      by_cases g2:l+2*r2-1>0
      ·rw [av g2];lia
      ·rw [ao g2];lia
     ·rw [ao g1,av (show wd>0 by lia)];lia
   ·rw [qvx,be (l₁:=ys++[l])]
    rfl
 ·rintro σ H1 ⟨ys,l,z,hy,hb,rfl,rfl⟩
  refine exI rfl (k p _ np ⟨?_,hb⟩)
  rw [am,hy]
  simp only [aQ,eB]
  lia
def Yj (K:Aa):Sp:=λvs H Q _=>∃(a:Aj) (ns:List Int) (i m:Int),vs=[.ref a,.int i,.int m]∧SqL K H a (ns.map V.int)∧0≤i∧1≤m∧m≤24 ∧
 ∀p hs wd,H p=none→1≤wd→wd≤m→InW hs wd→Q (.ref p) (upd H p (.lst (hs.map V.int)))
theorem qzq {wd:Int}{n:Nat}(g:Nat→Int)(h1:(n:Int)=wd+1)(h2:∀i,i<n→0≤g i∧g i≤wd):InW ((List.range n).map g) wd:=by
 refine ⟨by rw [ag,aH];exact h1,λh hh=>?_⟩
 obtain ⟨i,hi,rfl⟩:=aO.mp hh
 exact h2 i (au.mp hi)
theorem Wk (n:Nat)(g:Nat→Int):(List.range n).map (λi=>V.int (g i))=((List.range n).map g).map V.int:=by
 rw [bP]
 rfl
theorem qus {f:Aj}{fd:Ad}(F:Fun K "_law_heights" "_law_heights" s__law_heights f fd)(T:Txt K mg qp qx qf qu qy qm qd qw)(c__law_pick:Cal P w K mg base "_law_pick" 2 (Wm K))(c__law_climb:Cal P w K mg base "_law_climb" 3 (J1 K)) :
  FnOk P w K mg base (CXE P w) 4 f fd ["_law_script","_law_at","_law_most"] (Yj K):=by
 have sc:=Jk
 refine F.okX sc (λvs H Q E h=>by obtain ⟨a,ns,i,m,rfl,_⟩:=h;rfl) (λcdv A outer s H vs Q E hr h=>?_)
 obtain ⟨a,ns,i,m,rfl,hS,h0,m1,m2,k⟩:=h
 refine ⟨_,(qk (wb (i:=3) sc.nd rfl (by walk_at "loc") (ww xv qj (q9 c__law_pick (hr.mono (by decide)) rfl qc (qg (pv 0) (qg (pv 1) (xw qj (qg (pv 2) qv)))))))
   (qk (wb (i:=4) sc.nd rfl (by walk_at "loc") (q9 c__law_pick (hr.mono (by decide)) rfl qc (qg (pv 0) (qg (pv 1) (xw qj (xw qj qv))))))
   (qk (zf (wc vf (pv 4) qj (wn _)) (qh (wp (v8 (M:=[3]) rfl rfl (by walk_at "cap") (by walk_at "has") (by walk_at "cix") rfl (by decide +kernel) rfl (show List.Nodup (["_law_k","_law_wide"]:List Str) by decide +kernel) (xf rfl T.range_ (zu (ww xv (pv 3) qj) qv)) (λ_ _ _ _ _=>(ww xy (pv 1) (ww v9 (pv 0) qj)))))) xj)
   (qk (zf (wc vf (pv 4) qj (wn _)) (qh (wp (v8 (M:=[]) rfl rfl (by walk_at "cap") (by walk_at "has") (by walk_at "cix") rfl (by decide +kernel) rfl (show List.Nodup (["_law_k"]:List Str) by decide +kernel) (xf rfl T.range_ (zu (ww xv (pv 3) qj) qv)) (λ_ _ _ _ _=>(pv 0))))) xj)
   (qk (zf (wc vf (pv 4) qj (wn _)) (qh (wp (v8 (M:=[3]) rfl rfl (by walk_at "cap") (by walk_at "has") (by walk_at "cix") rfl (by decide +kernel) rfl (show List.Nodup (["_law_k","_law_wide"]:List Str) by decide +kernel) (xf rfl T.range_ (zu (ww xv (pv 3) qj) qv)) (λ_ _ _ _ _=>(ww vq (pv 1) (pv 0)))))) xj)
   (qk (zf (wc vf (pv 4) qj (wn _)) (qh (wp (v8 (M:=[3]) rfl rfl (by walk_at "cap") (by walk_at "has") (by walk_at "cix") rfl (by decide +kernel) rfl (show List.Nodup (["_law_k","_law_wide"]:List Str) by decide +kernel) (xf rfl T.range_ (zu (ww xv (pv 3) qj) qv)) (λ_ _ _ _ _=>(ww v9 (ww xv (ww xy qj (pv 0)) qj) (ww xv (pv 1) qj)))))) xj)
   (qk (zf (PW.pt (qyt (wc vf (pv 4) qj (wn _)) (qqb (wc vf (pv 4) qj (wn _))))) (qh (wp (q9 c__law_climb (hr.mono (by decide)) rfl qc (qg (pv 0) (qg (pv 1) (qg (pv 3) qv)))))) xj)
   (qh (wp (v8 (M:=[0,1,3]) rfl rfl (by walk_at "cap") (by walk_at "has") (by walk_at "cix") rfl (by decide +kernel) rfl (show List.Nodup (["_law_k","_law_script","_law_at","_law_wide"]:List Str) by decide +kernel) (xf rfl T.range_ (zu (ww xv (pv 3) qj) qv)) (λ_ _ _ _ _=>(q9 c__law_pick (hr.mono (by decide)) rfl Yp (qg (pv 1) (qg (pv 2) (zu (ww xv qj (pv 0)) (zu (ww xv (pv 3) qj) qv)))))))))))))))),?_⟩
 refine exI rfl (exI rfl (exI rfl ⟨a,ns,_,_,_,rfl,hS,h0,(by lia),(by lia),(by lia),λr1 _ l1 u1=>?_⟩))
 refine wy rfl rfl (exI rfl (exI rfl ⟨a,ns,_,_,_,rfl,hS,h0,(by lia),(by lia),(by lia),λkd _ l2 u2=>?_⟩))
 have hn:((1+r1+1).toNat:Int)=1+r1+1:=by lia
 have hn2:(1+r1+1).toNat≤1000000:=by lia
 have fin:∀(g:Nat→Int) (p:Aj),(∀j,j<(1+r1+1).toNat→0≤g j∧g j≤1+r1)→H p=none→Q (.ref p) (upd H p (.lst ((List.range (1+r1+1).toNat).map λj=>V.int (g j)))):=λg p hg np=>by
  rw [Wk]
  exact k p _ (1+r1) np (by lia) (by lia) (qzq g hn hg)
 refine exI rfl ⟨rfl,_,rfl,z9 (λq1=>?_) (λq1=>?_)⟩
 ·refine exI rfl (wy rfl rfl ⟨1+r1+1,rfl,(by lia),(by lia),vk (λj=>V.int ((1+r1)*(((0:Int)+j)%2))) hn2 (λj H' R hj hs hR=>?_) λp np=>fin _ p (λj hj=>?_) np⟩)
  ·exact exI rfl (exI rfl (wy rfl rfl ⟨(by walk_at "pos"),wy rfl rfl ⟨(by walk_at "mul"),hR⟩⟩))
  ·have a1:=bR ((0:Int)+j) (show (2:Int)≠0 by decide)
   have a2:=bA ((0:Int)+j) (show (0:Int)<2 by decide)
   rcases (by lia:((0:Int)+j)%2=0∨((0:Int)+j)%2=1) with e|e <;> rw [e] <;> lia
 ·refine exI rfl ⟨rfl,_,rfl,z9 (λq2=>?_) (λq2=>?_)⟩
  ·refine exI rfl (wy rfl rfl ⟨1+r1+1,rfl,(by lia),(by lia),vk (λj=>V.int ((0:Int)+j)) hn2 (λj H' R hj hs hR=>?_) λp np=>fin _ p (λj hj=>by lia) np⟩)
   exact exI rfl hR
  ·refine exI rfl ⟨rfl,_,rfl,z9 (λq3=>?_) (λq3=>?_)⟩
   ·refine exI rfl (wy rfl rfl ⟨1+r1+1,rfl,(by lia),(by lia),vk (λj=>V.int (1+r1-((0:Int)+j))) hn2 (λj H' R hj hs hR=>?_) λp np=>fin _ p (λj hj=>by lia) np⟩)
    exact exI rfl (exI rfl (wy rfl rfl hR))
   ·refine exI rfl ⟨rfl,_,rfl,z9 (λq4=>?_) (λq4=>?_)⟩
    ·refine exI rfl (wy rfl rfl ⟨1+r1+1,rfl,(by lia),(by lia),vk (λj=>V.int ((2*((0:Int)+j)+1)%(1+r1+1))) hn2 (λj H' R hj hs hR=>?_) λp np=>fin _ p (λj hj=>?_) np⟩)
     ·exact exI rfl (wy rfl rfl ⟨(by walk_at "mul"),wy rfl rfl (exI rfl (wy rfl rfl (wy rfl rfl ⟨(by walk_at "pos"),hR⟩)))⟩)
     ·have a1:=bR (2*((0:Int)+j)+1) (show 1+r1+1≠0 by lia)
      have a2:=bA (2*((0:Int)+j)+1) (show 0<1+r1+1 by lia)
      lia
    ·have last:tRet (wwp [0,1,3] (iRng1 (vh (tOp (rI0 λi j=>.int (i+j)) (ju 3) (tC (.int 1))) qq0)) (qwv (Wm K) (λ_=>E0) (vh (ju 1) (vh (ju 2) (vh (tOp (rI0 λi j=>.int (i+j)) (tC (.int 3)) (ju 0)) (vh (tOp (rI0 λi j=>.int (i+j)) (ju 3) (tC (.int 1))) qq0))))))
       { nx:=λ_ H'=>Q .non H',rt:=Q } [some (.ref a),some (.int i),some (.int m),some (.int (1+r1)),some (.int kd)] H:=by
      refine exI rfl (wy rfl rfl ⟨1+r1+1,rfl,(by lia),(by lia),vk (λj=>V.int (qjw ns i (3+((0:Int)+j)) (1+r1+1))) hn2 (λj H' R hj hs hR=>?_) λp np=>fin _ p (λj hj=>?_) np⟩)
      ·refine exI rfl (exI rfl (exI rfl (wy rfl rfl (exI rfl (wy rfl rfl ⟨a,ns,_,_,_,rfl,Same.sql hs hS,h0,(by lia),(by lia),(by lia),λr e _ _=>?_⟩)))))
       rw [e]
       exact hR
      ·have a1:=wyn ns i (3+((0:Int)+j)) (1+r1+1) (by lia)
       have a2:=wuc ns i (3+((0:Int)+j)) (1+r1+1) (by lia)
       lia
     have climb:tRet (qwv (J1 K) (λ_=>E) (vh (ju 0) (vh (ju 1) (vh (ju 3) qq0)))) { nx:=λ_ H'=>Q .non H',rt:=Q } [some (.ref a),some (.int i),some (.int m),some (.int (1+r1)),some (.int kd)] H :=
      (exI rfl (exI rfl (exI rfl ⟨a,ns,i,1+r1,rfl,hS,h0,(by lia),(by lia),λp hs np hw=>k p hs (1+r1) np (by lia) (by lia) hw⟩)))
     refine exI rfl ⟨rfl,_,rfl,z9 (λq5=>Z9 climb) (λq5=>?_)⟩
     exact exI rfl ⟨rfl,_,rfl,z9 (λq6=>climb) (λq6=>last)⟩
def wut:Sp:=λvs H Q _=>∃x y:Int,vs=[.int x,.int y]∧0≤x∧0≤y∧Q (.int (Jv x y)) H
theorem wjg {tb:TS}{c:TT}{D:Ends}{H:Hp}{x y:Int}(hx:0≤x)(hy:0≤y)(hc:c=wuq (tOp (rI0 λi j=>.bl (decide (j<i))) (ju 1) (tC (.int 0))))(hb:tb=tPar 0 1 (vh (ju 1) (vh (tOp (rI (λ_ j=>0<j) λi j=>.int (i%j)) (ju 0) (ju 1)) qq0)))
  (hD:D.nx [some (.int (Jv x y)),some (.int 0)] H):wwv c tb D [some (.int x),some (.int y)] H:=by
 subst hc hb
 refine Zz (λσ H1=>H1=H∧∃u v:Int,σ=[some (.int u),some (.int v)]∧0≤u∧0≤v∧Jv u v=Jv x y) (λσ _=>match σ with|[_,some (.int v)]=>v.toNat|_=>0) ⟨rfl,x,y,rfl,hx,hy,rfl⟩ ?_ λσ H Q Q' h ⟨v,e,i,j,e1,e2,k,e3,q⟩=>⟨v,e,i,j,e1,e2,k,e3,h _ _ q⟩
 rintro σ H1 ⟨rfl,u,v,rfl,hu,hv,e⟩
 refine exI rfl (wy rfl rfl (exI rfl ?_))
 refine jz (λq=>?_) (λq=>?_)
 ·have h1:=bR u (show v≠0 by lia)
  have h2:=bA u q
  refine exI rfl (exI rfl (exI rfl (wy rfl rfl ⟨q,_,_,rfl,⟨rfl,v,u%v,rfl,hv,h1,?_⟩,?_⟩)))
  ·rw [wv0 hu q,e]
  ·show (u%v).toNat<v.toNat
   lia
 ·have z:v=0:=by lia
  subst z
  rw [wvr hu] at e
  subst e
  exact hD
theorem ok_gcd {f:Aj}{fd:Ad}(F:Fun K "common_divisor" "common_divisor" s_common_divisor f fd)(T:Txt K mg qp qx qf qu qy qm qd qw):FnOk P w K mg base (CXE P w) 1 f fd ["one","other"] wut:=by
 have sc:=Zx
 refine F.okX sc (λvs H Q E h=>by obtain ⟨x,y,rfl,_⟩:=h;rfl) (λcdv A outer s H vs Q E hr h=>?_)
 obtain ⟨x,y,rfl,hx,hy,k⟩:=h
 refine ⟨_,(qk (Zm bz (wc Qj (pv 1) qj (wn _)) (qh (ps_par (i:=0) (j:=1) rfl sc.nd rfl rfl (by decide) rfl rfl (qg (pv 1) (zu (ww v9 (pv 0) (pv 1)) qv)) rfl)))
   (qh (wp (pv 0)))),?_⟩
 exact wjg hx hy rfl rfl (exI rfl k)
def ptV (p:Int×Int):List V:=[.int p.1,.int p.2]
def Qb (C:Aj):Sp:=λvs H Q E=>∃t b:Int,vs=[.int t,.int b]∧(1≤b→Sm 9000 b∧∀p,H p=none→Q (.ref p) (upd H p (.tup (ptV (wm t b)))))∧(b<1→E (.ref C) none H)
theorem wz8 {f:Aj}{fd:Ad}(F:Fun K "lowest" "lowest" s_lowest f fd)(T:Txt K mg qp qx qf qu qy qm qd qw)(c_check_bottom:Cal P w K mg base "check_bottom" 1 (Jm qx))(c_common_divisor:Cal P w K mg base "common_divisor" 1 wut) :
  FnOk P w K mg base (CXE P w) 2 f fd ["top","bottom"] (Qb qx):=by
 have sc:=wvj
 refine F.okX sc (λvs H Q E h=>by obtain ⟨t,b,rfl,_⟩:=h;rfl) (λcdv A outer s H vs Q E hr h=>?_)
 obtain ⟨t,b,rfl,k,x⟩:=h
 refine ⟨_,(qk (zg (q9 c_check_bottom (hr.mono (by decide)) rfl qc (qg (pv 1) qv)))
   (qk (wb (i:=2) sc.nd rfl (by walk_at "loc") (q9 c_common_divisor (hr.mono (by decide)) rfl qc (vv (wg qq2 rfl T.abs_ qqk (qg (pv 0) qv)) (qg (pv 1) qv))))
   (qh (wp (jr (zu (ww yt (pv 0) (pv 2)) (zu (ww yt (pv 1) (pv 2)) qv))))))),?_⟩
 refine ⟨_,rfl,b,rfl,λg1=>?_,λg1=>x g1⟩
 obtain ⟨sb,k⟩:=k g1
 have hg:=j7 (t:=t) g1
 have hs:Sm 9000 (gOf t b):=sb.of_le (by have:=gOf_le (t:=t) g1;lia)
 refine exI rfl (exI rfl (exI rfl ⟨Qn t,b,rfl,xw4 t,(by lia),?_⟩))
 refine exI rfl ⟨V.int (gOf t b),rfl,wy rfl rfl ⟨⟨by lia,hs⟩,exI rfl ⟨V.int (gOf t b),rfl,wy rfl rfl ⟨⟨by lia,hs⟩,sz2,λp n=>?_⟩⟩⟩⟩
 exact k p n
theorem ww2 {hs:List Int}{wd:Int}(h:InW hs wd)(w1:1≤wd)(w2:wd≤24):wv hs:=by
 refine ⟨by have:=h.1;lia,by have:=h.1;lia,λx hx=>?_⟩
 have h1:=h.1
 have h2:=h.2 x hx
 lia
theorem wvg {H H':Hp}{x dx C:Aj}(nx:H x=none)(nd:H dx=none)(h:∀b o,upd (upd H dx (.own x)) x (.ins C dx []) b=some o→b≠x→H' b=some o):Same H H':=λb o e =>
 h b o (by rw [qr (q8 e nx),qr (q8 e nd)];exact e) (q8 e nx)
theorem Same.upd2 {H H':Hp}{p:Aj}{o:HO}(s:Same H H')(n:H p=none):Same H (L2.upd H' p o):=λb u e=>by
 rw [qr (q8 e n)]
 exact s b u e
theorem rd_pt {K:Aa}{H:Hp}{p:Aj}{q:Int×Int}(h:SqT K H p [.int q.1,.int q.2]):RD K H (ptD q) (.ref p):=by
 unfold ptD
 rw [RD]
 exact ⟨p,exI rfl ⟨h,by rw [RDs];exact ⟨_,_,rfl,by rw [RD],by rw [RDs];exact ⟨_,_,rfl,by rw [RD],by rw [RDs]⟩⟩⟩⟩
theorem dep_pt {p q:Int×Int}:min (ptD p).depth (ptD q).depth≤60:=by simp [ptD,PyData.depth,PyData.depthAll]
theorem qq5 {x y b d:Int}(hb:1≤b)(hd:1≤d):x*d=y*b↔wm x b=wm y d:=by
 constructor
 ·intro e
  rw [←Jp (t:=x) hb hd,e,eQ b d,Jp hd hb]
 ·intro e
  have c1:=jc (t:=x) hb
  have c2:=jc (t:=y) hd
  have v1:=jq (t:=x) hb
  rw [←e] at c2
  have h:x*d*(wm x b).2=y*b*(wm x b).2:=by
   have a1:x*d*(wm x b).2=x*(wm x b).2*d:=by grind
   have a2:y*b*(wm x b).2=y*(wm x b).2*b:=by grind
   rw [a1,a2,←c1,←c2]
   grind
  exact Int.eq_of_mul_eq_mul_right (by lia) h
theorem xqw {CB C:Aj}{H:Hp}{p x dx:Aj}{hs:List Int}{Pp:Hp→Prop}{E:XK}(f:H p=some (.lst (hs.map V.int)))(nx:H x=none)(nd:H dx=none)(k:wv hs→∀H',Same H H'→RoadAt C H' x hs→Pp H')(bad:¬ wv hs→∀H',Same H H'→E (.ref CB) none H') :
  qk1 K CB C [.ref x,.ref p] (upd (upd H dx (.own x)) x (.ins C dx [])) (λr H2=>r=.non∧Pp H2) E:=by
 refine ⟨x,dx,p,hs,rfl,qb,SqL.of (by rw [qr (q8 f nx),qr (q8 f nd)];exact f),λok H4 q nq kp r l=>⟨rfl,k ok H4 (wvg nx nd kp) ⟨dx,q,r,l⟩⟩,λz=>bad z _ ?_⟩
 exact λb o e=>by rw [qr (q8 e nx),qr (q8 e nd)];exact e
theorem at_h {hs:List Int}{k:Int}(h0:0≤k)(h1:k<hs.length):atI (hs.map V.int) k=some (V.int (hAt hs k)):=qqq h0 h1
theorem wxc {hs:List Int}(ok:wv hs)(k:Int):0≤hAt hs k∧hAt hs k≤24:=by
 unfold hAt
 rw [af]
 cases e:hs[k.toNat]? with
 |none=>exact ⟨by decide,by decide⟩
 |some v =>
  have hm:=ok.2.2 v (aC e)
  have:=ok.2.1
  show 0≤v∧v≤24
  lia
def Yd (C CR:Aj):Sp:=λvs H Q E=>∃(r:Aj) (hs:List Int) (k:Int),vs=[.ref r,.int k]∧RoadAt C H r hs∧(0≤k→k<(hs.length:Int)-1→∀p,H p=none→Q (.ref p) (upd H p (.tup [.int (hAt hs k),.int (hAt hs (k+1))]))) ∧
 (k<0∨(hs.length:Int)-1≤k→E (.ref CR) none H)
theorem xwz {f:Aj}{fd:Ad}(F:Fun K "ends" "Road.ends" s_Road_ends f fd)(T:Txt K mg qp qx qf qu qy qm qd qw)(c_width:MCal P w K mg base qw "width" 1 (jb qw)):FnOk P w K mg base (CXE P w) 2 f fd ["self","stretch"] (Yd qw qm):=by
 have sc:=qkx
 refine F.okX sc (λvs H Q E h=>by obtain ⟨r,hs,k,rfl,_⟩:=h;rfl) (λcdv A outer s H vs Q E hr h=>?_)
 obtain ⟨r,hs,k,rfl,hR,kq,x⟩:=h
 obtain ⟨dx,q,h1,h2⟩:=id hR
 refine ⟨_,(qk (zf (PW.pt (qyt (wc qw6 (pv 1) qj (wn _)) (qqb (wc wxx (pv 1) (kg (pv 0) T.cl c_width (hr.mono (by decide)) qc) (wn _))))) (qh (jf rfl T.x_BadRow vt rfl T.g_BadRow (xw kh qv))) xj)
   (qh (wp (jr (j4 (zv zk (wwm (pv 0) rfl) (pv 1) (λ_ _=>rfl)) (j4 (zv zk (wwm (pv 0) rfl) (ww xv (pv 1) qj) (λ_ _=>rfl)) qv)))))),?_⟩
 refine exI rfl (wy rfl rfl (exI rfl ?_))
 refine jz (λq1=>?_) (λq1=>?_)
 ·refine Z9 ?_
  exact ⟨sz1,x (.inl q1)⟩
 ·refine exI rfl (exI rfl ⟨r,dx,exI rfl ⟨h1,xk (by decide +kernel),r,hs,rfl,hR,wy rfl rfl (exI rfl ?_)⟩⟩)
  refine jz (λq2=>?_) (λq2=>?_)
  ·exact ⟨sz1,x (.inr q2)⟩
  ·refine exI rfl ⟨r,qw,dx,_,_,rfl,h1,T.cl,T.na,uu,exI rfl (exX rfl rfl (SqL.of h2) (at_h (by lia) (by lia)) (exI rfl ⟨r,qw,dx,_,_,rfl,h1,T.cl,T.na,uu,exI rfl (wy rfl rfl (exX rfl rfl (SqL.of h2) (at_h (by lia) (by lia)) ⟨sz2,λp np=>?_⟩))⟩))⟩
   exact kq (by lia) (by lia) p np
def zc (hs:List Int)(t b:Int):Prop:=0≤t∧t≤((hs.length:Int)-1)*b
def Qw (K:Aa)(C CB CO:Aj):Sp:=λvs H Q E=>∃(r p:Aj) (hs:List Int) (t b:Int),vs=[.ref r,.ref p]∧RoadAt C H r hs∧wv hs∧SqT K H p [.int t,.int b] ∧
 (1≤b→Sm 8000 b∧(zc hs t b→∀q H',Same H H'→H' q=some (.tup (ptV (wm t b)))→Q (.ref q) H')∧(¬ zc hs t b→∀H',Same H H'→E (.ref CO) none H'))∧(b<1→E (.ref CB) none H)
theorem qu8 {f:Aj}{fd:Ad}(F:Fun K "on_road" "Road.on_road" s_Road_on_road f fd)(T:Txt K mg qp qx qf qu qy qm qd qw)(c_width:MCal P w K mg base qw "width" 1 (jb qw))(c_lowest:Cal P w K mg base "lowest" 2 (Qb qx)) :
  FnOk P w K mg base (CXE P w) 3 f fd ["self","point"] (Qw K qw qx qf):=by
 have sc:=Jf
 refine F.okX sc (λvs H Q E h=>by obtain ⟨r,p,hs,t,b,rfl,_⟩:=h;rfl) (λcdv A outer s H vs Q E hr h=>?_)
 obtain ⟨r,p,hs,t,b,rfl,hR,hok,hp,kq,x⟩:=h
 obtain ⟨dx,q,h1,h2⟩:=id hR
 refine ⟨_,(qk (yx (q9 c_lowest (hr.mono (by decide)) rfl qc (j4 (zv qxk (pv 1) qj (λ_ _=>rfl)) (j4 (zv qxk (pv 1) qj (λ_ _=>rfl)) qv))) (jg rfl (xg (wt (i:=2) sc.nd rfl (by walk_at "loc")) (xg (wt (i:=3) sc.nd rfl (by walk_at "loc")) v5))))
   (qk (zf (PW.pt (qyt (wc qw6 (pv 2) qj (wn _)) (qqb (wc Qj (pv 2) (ww xy (kg (pv 0) T.cl c_width (hr.mono (by decide)) qc) (pv 3)) (wn _))))) (qh (jf rfl T.x_OffRoad vt rfl T.g_OffRoad (xw kh qv))) xj)
   (qh (wp (jr (qg (pv 2) (qg (pv 3) qv))))))),?_⟩
 refine ⟨_,rfl,_,_,_,_,rfl,rfl,hp,rfl,_,rfl,_,_,_,_,rfl,rfl,hp,rfl,t,b,rfl,λhb=>⟨(kq hb).1.mono (by decide),λp1 n1=>?_⟩,λz=>x z⟩
 obtain ⟨sb,k1,k2⟩:=kq hb
 have s1:Same H (upd H p1 (.tup (ptV (wm t b)))):=Same.upd n1
 have hl:=hok.2.1
 refine ⟨p1,exI rfl ⟨SqT.new,rfl,_,_,rfl,_,_,rfl,rfl,?_⟩⟩
 refine exI rfl (wy rfl rfl (exI rfl ?_))
 refine jz (λq1=>?_) (λq1=>?_)
 ·refine Z9 ?_
  exact ⟨sz1,k2 (λz=>by have:=(qqz hb).mp q1;have:=z.1;lia) _ s1⟩
 ·refine exI rfl (exI rfl ⟨r,dx,exI rfl ⟨s1 _ _ h1,xk (by decide +kernel),r,hs,rfl,hR.same s1,exI rfl (wy rfl rfl ⟨IntMulOk.of_left (intBits_le_64 (by lia) (by lia)),wy rfl rfl (exI rfl ?_)⟩)⟩⟩)
  refine jz (λq2=>?_) (λq2=>?_)
  ·exact ⟨sz1,k2 (λz=>by have:=(wq7 hb).mp q2;have:=z.2;lia) _ s1⟩
  ·refine exI rfl (exI rfl ⟨sz2,λp2 n2=>?_⟩)
   refine k1 ⟨?_,?_⟩ p2 _ (s1.trans (Same.upd n2)) qb
   ·rcases cP t 0 with z|z
    ·exact absurd ((qqz hb).mpr z) q1
    ·exact z
   ·rcases cP (((hs.length:Int)-1)*b) t with z|z
    ·exact absurd ((wq7 hb).mpr z) q2
    ·exact z
def spAt (K:Aa)(C CB CO:Aj):Sp:=λvs H Q E=>∃(r p:Aj) (hs:List Int) (t b:Int),vs=[.ref r,.ref p]∧RoadAt C H r hs∧wv hs∧SqT K H p [.int t,.int b] ∧
 (1≤b→Sm 8000 b∧(zc hs t b→∀q H',Same H H'→H' q=some (.tup (ptV (Zs hs t b)))→Q (.ref q) H')∧(¬ zc hs t b→∀H',Same H H'→E (.ref CO) none H'))∧(b<1→E (.ref CB) none H)
theorem ok_at {f:Aj}{fd:Ad}(F:Fun K "at" "Road.at" s_Road_at f fd)(T:Txt K mg qp qx qf qu qy qm qd qw)(c_width:MCal P w K mg base qw "width" 1 (jb qw))(c_lowest:Cal P w K mg base "lowest" 2 (Qb qx))(c_ends:MCal P w K mg base qw "ends" 2 (Yd qw qm))
  (c_on_road:MCal P w K mg base qw "on_road" 3 (Qw K qw qx qf)):FnOk P w K mg base (CXE P w) 4 f fd ["self","point"] (spAt K qw qx qf):=by
 have sc:=wwu
 refine F.okX sc (λvs H Q E h=>by obtain ⟨r,p,hs,t,b,rfl,_⟩:=h;rfl) (λcdv A outer s H vs Q E hr h=>?_)
 obtain ⟨r,p,hs,t,b,rfl,hR,hok,hp,kq,x⟩:=h
 obtain ⟨dx,q,h1,h2⟩:=id hR
 refine ⟨_,(qk (yx (vj (pv 0) T.cl c_on_road (hr.mono (by decide)) qc (qg (pv 1) qv)) (jg rfl (xg (wt (i:=2) sc.nd rfl (by walk_at "loc")) (xg (wt (i:=3) sc.nd rfl (by walk_at "loc")) v5))))
   (qk (wb (i:=4) sc.nd rfl (by walk_at "loc") (wg (jd rfl) rfl T.min_ cB (zu (ww yt (pv 2) (pv 3)) (zu (ww vq (kg (pv 0) T.cl c_width (hr.mono (by decide)) qc) qj) qv))))
   (qk (yx (vj (pv 0) T.cl c_ends (hr.mono (by decide)) qc (qg (pv 4) qv)) (jg rfl (xg (wt (i:=5) sc.nd rfl (by walk_at "loc")) (xg (wt (i:=6) sc.nd rfl (by walk_at "loc")) v5))))
   (qk (wb (i:=7) sc.nd rfl (by walk_at "loc") (ww vq (pv 2) (ww xy (pv 4) (pv 3))))
   (qh (wp (q9 c_lowest (hr.mono (by decide)) rfl qc (zu (ww xv (ww xy (pv 5) (pv 3)) (ww xy (ww vq (pv 6) (pv 5)) (pv 7))) (qg (pv 3) qv))))))))),?_⟩
 refine ⟨_,rfl,r,dx,_,rfl,h1,xk (by decide +kernel),_,rfl,r,p,hs,t,b,rfl,hR,hok,hp,λhb=>⟨(kq hb).1,λhon p1 H1 s1 f1=>?_,λhoff H1 s1=>(kq hb).2.2 hoff H1 s1⟩,λz=>x z⟩
 obtain ⟨sb,k1,k2⟩:=kq hb
 have hl1:=hok.1
 have hl2:=hok.2.1
 have hy:=jq (t:=t) hb
 have hyb:=Ws (t:=t) hb
 have hx:0≤(wm t b).1:=by
  rcases cP (wm t b).1 0 with z|z
  ·have:=(qqz hb).mp z
   have:=hon.1
   lia
  ·exact z
 have hk:=wy9 (hs:=hs) hl1 hy hx
 have sy:Sm 9000 (wm t b).2:=(sb.of_le (by lia)).mono (by decide)
 refine ⟨p1,exI rfl ⟨SqT.of f1,rfl,_,_,rfl,_,_,rfl,rfl,?_⟩⟩
 refine exI rfl (exI rfl (wy rfl rfl ⟨⟨by lia,sy⟩,exI rfl ⟨r,dx,exI rfl ⟨s1 _ _ h1,xk (by decide +kernel),r,hs,rfl,hR.same s1,wy rfl rfl ⟨_,_,rfl,?_⟩⟩⟩⟩))
 refine ⟨_,rfl,r,dx,_,rfl,s1 _ _ h1,xk (by decide +kernel),V.int (kF hs (wm t b).1 (wm t b).2),rfl,r,hs,kF hs (wm t b).1 (wm t b).2,rfl,hR.same s1,λ_ _ p2 n2=>?_,λz=>absurd z (by lia)⟩
 have g1:=wxc hok (kF hs (wm t b).1 (wm t b).2)
 have g2:=wxc hok (kF hs (wm t b).1 (wm t b).2+1)
 refine ⟨p2,exI rfl ⟨SqT.new,rfl,_,_,rfl,_,_,rfl,rfl,?_⟩⟩
 refine exI rfl ⟨V.int (kF hs (wm t b).1 (wm t b).2),rfl,exI rfl (wy rfl rfl ⟨IntMulOk.of_left (intBits_le_64 (by lia) (by lia)),wy rfl rfl ?_⟩)⟩
 refine exI rfl (exI rfl (wy rfl rfl ⟨IntMulOk.of_left (intBits_le_64 (by lia) (by lia)),exI rfl (exI rfl (wy rfl rfl (exI rfl (wy rfl rfl ⟨IntMulOk.of_left (intBits_le_64 (by lia) (by lia)),wy rfl rfl (exI rfl ?_)⟩))))⟩))
 refine ⟨kf hs (wm t b).1 (wm t b).2,(wm t b).2,rfl,λ_=>⟨sy,λp3 n3=>?_⟩,λz=>absurd z (by lia)⟩
 have e:wm (kf hs (wm t b).1 (wm t b).2) (wm t b).2=Zs hs t b:=qzb hb
 rw [e]
 exact k1 hon p3 _ (s1.trans ((Same.upd n2).trans (Same.upd n3))) qb
def Qs (a b:Int):Int:=if b<a then b else a
def Qu (a b:Int):Int:=if b>a then b else a
theorem xqu {a b:Int}:Qs a b≤a∧Qs a b≤b∧(Qs a b=a∨Qs a b=b):=by unfold Qs;split <;> lia
theorem xwh {a b:Int}:a≤Qu a b∧b≤Qu a b∧(Qu a b=a∨Qu a b=b):=by unfold Qu;split <;> lia
def loH (hs:List Int)(k:Int):Int:=Qs (hAt hs k) (hAt hs (k+1))
def hiH (hs:List Int)(k:Int):Int:=Qu (hAt hs k) (hAt hs (k+1))
def qvz (C CR:Aj):Sp:=λvs H Q E=>∃(r:Aj) (hs:List Int) (k:Int),vs=[.ref r,.int k]∧RoadAt C H r hs∧(0≤k→k<(hs.length:Int)-1→∀H',Same H H'→Q (.int (hAt hs (k+1)-hAt hs k)) H') ∧
 (k<0∨(hs.length:Int)-1≤k→E (.ref CR) none H)
theorem wkc {f:Aj}{fd:Ad}(F:Fun K "slope" "Road.slope" s_Road_slope f fd)(T:Txt K mg qp qx qf qu qy qm qd qw)(c_ends:MCal P w K mg base qw "ends" 2 (Yd qw qm)):FnOk P w K mg base (CXE P w) 3 f fd ["self","stretch"] (qvz qw qm):=by
 have sc:=qxh
 refine F.okX sc (λvs H Q E h=>by obtain ⟨r,hs,k,rfl,_⟩:=h;rfl) (λcdv A outer s H vs Q E hr h=>?_)
 obtain ⟨r,hs,k,rfl,hR,kq,x⟩:=h
 obtain ⟨dx,q,h1,h2⟩:=id hR
 refine ⟨_,(qk (yx (vj (pv 0) T.cl c_ends (hr.mono (by decide)) qc (qg (pv 1) qv)) (jg rfl (xg (wt (i:=2) sc.nd rfl (by walk_at "loc")) (xg (wt (i:=3) sc.nd rfl (by walk_at "loc")) v5))))
   (qh (wp (ww vq (pv 3) (pv 2))))),?_⟩
 refine ⟨_,rfl,r,dx,_,rfl,h1,xk (by decide +kernel),V.int k,rfl,r,hs,k,rfl,hR,λa b p n=>?_,λz=>x z⟩
 refine ⟨p,exI rfl ⟨SqT.new,rfl,_,_,rfl,_,_,rfl,rfl,?_⟩⟩
 exact exI rfl (exI rfl (wy rfl rfl (kq a b _ (Same.upd n))))
def qv1 (C CR:Aj):Sp:=λvs H Q E=>∃(r:Aj) (hs:List Int) (k:Int),vs=[.ref r,.int k]∧RoadAt C H r hs∧(0≤k→k<(hs.length:Int)-1→∀p H',Same H H'→H' p=some (.tup [.int (loH hs k),.int (hiH hs k)])→Q (.ref p) H') ∧
 (k<0∨(hs.length:Int)-1≤k→E (.ref CR) none H)
theorem wuf {f:Aj}{fd:Ad}(F:Fun K "reach" "Road.reach" s_Road_reach f fd)(T:Txt K mg qp qx qf qu qy qm qd qw)(c_ends:MCal P w K mg base qw "ends" 2 (Yd qw qm)):FnOk P w K mg base (CXE P w) 3 f fd ["self","stretch"] (qv1 qw qm):=by
 have sc:=qx8
 refine F.okX sc (λvs H Q E h=>by obtain ⟨r,hs,k,rfl,_⟩:=h;rfl) (λcdv A outer s H vs Q E hr h=>?_)
 obtain ⟨r,hs,k,rfl,hR,kq,x⟩:=h
 obtain ⟨dx,q,h1,h2⟩:=id hR
 refine ⟨_,(qk (yx (vj (pv 0) T.cl c_ends (hr.mono (by decide)) qc (qg (pv 1) qv)) (jg rfl (xg (wt (i:=2) sc.nd rfl (by walk_at "loc")) (xg (wt (i:=3) sc.nd rfl (by walk_at "loc")) v5))))
   (qh (wp (jr (vv (wg (jd rfl) rfl T.min_ cB (qg (pv 2) (qg (pv 3) qv))) (vv (wg (Z6 rfl) rfl T.max_ cU (qg (pv 2) (qg (pv 3) qv))) qv)))))),?_⟩
 refine ⟨_,rfl,r,dx,_,rfl,h1,xk (by decide +kernel),V.int k,rfl,r,hs,k,rfl,hR,λa b p n=>?_,λz=>x z⟩
 refine ⟨p,exI rfl ⟨SqT.new,rfl,_,_,rfl,_,_,rfl,rfl,?_⟩⟩
 refine exI rfl (exI rfl ⟨_,_,rfl,exI rfl (exI rfl ⟨_,_,rfl,sz2,λp2 n2=>?_⟩)⟩)
 exact kq a b p2 _ ((Same.upd n).trans (Same.upd n2)) qb
theorem lohi {hs:List Int}(ok:wv hs)(k:Int):0≤loH hs k∧loH hs k≤hiH hs k∧hiH hs k≤(hs.length:Int)-1:=by
 have g:∀j,0≤hAt hs j∧hAt hs j≤(hs.length:Int)-1:=λj=>by
  unfold hAt
  rw [af]
  have l:=ok.1
  cases e:hs[j.toNat]? with
  |none=>exact ⟨by decide,by show (0:Int)≤_;lia⟩
  |some v=>exact ok.2.2 v (aC e)
 have a:=g k
 have b:=g (k+1)
 have c:=xqu (a:=hAt hs k) (b:=hAt hs (k+1))
 have d:=xwh (a:=hAt hs k) (b:=hAt hs (k+1))
 unfold loH hiH
 lia
def u7 (hs:List Int)(k:Int):List Int:=(List.range (hiH hs k-loH hs k).toNat).map λj:Nat=>loH hs k+j
theorem wkp (hs:List Int)(k:Int):((List.range (hiH hs k-loH hs k).toNat).map λj:Nat=>V.int (loH hs k+j))=(u7 hs k).map V.int:=by
 unfold u7
 rw [bP]
 rfl
def Yt (C CR:Aj):Sp:=λvs H Q E=>∃(r:Aj) (hs:List Int) (k:Int),vs=[.ref r,.int k]∧RoadAt C H r hs∧wv hs∧(0≤k→k<(hs.length:Int)-1→∀p H',H p=none→Same H H'→H' p=some (.lst ((u7 hs k).map V.int))→Q (.ref p) H') ∧
 (k<0∨(hs.length:Int)-1≤k→E (.ref CR) none H)
theorem wwb {f:Aj}{fd:Ad}(F:Fun K "covered" "covered" s_covered f fd)(T:Txt K mg qp qx qf qu qy qm qd qw)(c_reach:MCal P w K mg base qw "reach" 3 (qv1 qw qm)):FnOk P w K mg base (CXE P w) 4 f fd ["road","stretch"] (Yt qw qm):=by
 have sc:=qun
 refine F.okX sc (λvs H Q E h=>by obtain ⟨r,hs,k,rfl,_⟩:=h;rfl) (λcdv A outer s H vs Q E hr h=>?_)
 obtain ⟨r,hs,k,rfl,hR,ok,kq,x⟩:=h
 obtain ⟨dx,q,h1,h2⟩:=id hR
 refine ⟨_,(qk (yx (vj (pv 0) T.cl c_reach (hr.mono (by decide)) qc (qg (pv 1) qv)) (jg rfl (xg (wt (i:=2) sc.nd rfl (by walk_at "loc")) (xg (wt (i:=3) sc.nd rfl (by walk_at "loc")) v5))))
   (qh (wp (qx3 rfl rfl T.list_ rfl T.range_ (qg (pv 2) (qg (pv 3) qv)))))),?_⟩
 refine ⟨_,rfl,r,dx,_,rfl,h1,xk (by decide +kernel),V.int k,rfl,r,hs,k,rfl,hR,λa b p H1 s1 f1=>?_,λz=>x z⟩
 have hl:=lohi ok k
 have ol:=ok.2.1
 refine ⟨p,exI rfl ⟨SqT.of f1,rfl,_,_,rfl,_,_,rfl,rfl,?_⟩⟩
 refine ⟨_,rfl,_,rfl,_,_,rfl,⟨by lia,by lia,by lia,by lia⟩,by lia,λp2 n2=>?_⟩
 refine kq a b p2 _ ?_ (s1.trans (Same.upd n2)) (by rw [qb,wkp])
 cases e:H p2 with
 |none=>rfl
 |some o=>rw [s1 _ _ e] at n2;cases n2
theorem wyu {hs:List Int}(ok:wv hs)(k:Int):0≤hAt hs k∧hAt hs k≤(hs.length:Int)-1:=by
 unfold hAt
 rw [af]
 have:=ok.1
 cases e:hs[k.toNat]? with
 |none=>exact ⟨by decide,by show (0:Int)≤_;lia⟩
 |some v=>exact ok.2.2 v (aC e)
theorem ww3 {hs:List Int}{t b:Int}(hok:wv hs)(hb:1≤b)(hon:zc hs t b):zc hs (kf hs t b) b:=by
 have hl1:=hok.1
 have hk:=wy9 (hs:=hs) hl1 hb hon.1
 have g1:=wyu hok (kF hs t b)
 have g2:=wyu hok (kF hs t b+1)
 have e1:0≤t-kF hs t b*b∧t-kF hs t b*b≤b:=by
  have h1:t/b*b≤t:=iI t (by lia)
  have h2:=Int.lt_ediv_add_one_mul_self t (show 0<b by lia)
  unfold kF
  split
  ·next z =>
   have h3:=aR (show (hs.length:Int)-1-1≤t/b by lia) (show 0≤b by lia)
   have h4:=hon.2
   constructor
   ·lia
   ·have:((hs.length:Int)-1)*b=((hs.length:Int)-1-1)*b+b:=by grind
    lia
  ·have:(t/b+1)*b=t/b*b+b:=by grind
   constructor <;> lia
 have r:=wjf (u:=hAt hs (kF hs t b)) (v:=hAt hs (kF hs t b+1)) e1.1 e1.2
 refine ⟨dM ?_ r.1,dM r.2 ?_⟩
 ·refine cZ ?_ (by lia)
  split <;> lia
 ·refine aR ?_ (by lia)
  split <;> lia
theorem low_on {hs:List Int}{t b:Int}(hb:1≤b)(hon:zc hs t b):zc hs (wm t b).1 (wm t b).2:=by
 constructor
 ·rcases cP (wm t b).1 0 with z|z
  ·have:=(qqz hb).mp z
   have:=hon.1
   lia
  ·exact z
 ·rcases cP (((hs.length:Int)-1)*(wm t b).2) (wm t b).1 with z|z
  ·have:=(wq7 hb).mp z
   have:=hon.2
   lia
  ·exact z
def itP (hs:List Int)(p:Int×Int):Nat→Int×Int
 |0=>p
 |n+1=>Zs hs (itP hs p n).1 (itP hs p n).2
def Pt (hs:List Int)(c:Int)(p:Int×Int):Prop:=1≤p.2∧p.2≤c∧gOf p.1 p.2=1∧zc hs p.1 p.2
theorem qut {hs:List Int}{t b:Int}(hb:1≤b)(hon:zc hs t b):Pt hs b (wm t b):=⟨jq hb,Ws hb,qur hb,low_on hb hon⟩
theorem xq3 {hs:List Int}{c:Int}{p:Int×Int}(hok:wv hs)(h:Pt hs c p):Pt hs c (Zs hs p.1 p.2):=by
 have a:=qut h.1 (ww3 hok h.1 h.2.2.2)
 exact ⟨a.1,dM a.2.1 h.2.1,a.2.2.1,a.2.2.2⟩
theorem wus {hs:List Int}{c:Int}{p:Int×Int}(hok:wv hs)(h:Pt hs c p):∀n,Pt hs c (itP hs p n)
 |0=>h
 |n+1=>xq3 hok (wus hok h n)
def trT (hs:List Int)(t b:Int):Nat→Int
 |0=>t
 |n+1=>kf hs (trT hs t b n) b
theorem wy0 {hs:List Int}{t b:Int}(hok:wv hs)(hb:1≤b)(hon:zc hs t b):∀n,zc hs (trT hs t b n) b
 |0=>hon
 |n+1=>ww3 hok hb (wy0 hok hb hon n)
theorem qkq {hs:List Int}{t b:Int}(hb:1≤b):∀n,wm (trT hs t b n) b=itP hs (wm t b) n
 |0=>rfl
 |n+1=>by
  show Zs hs (trT hs t b n) b=Zs hs (itP hs (wm t b) n).1 (itP hs (wm t b) n).2
  rw [←qkq hb n,qzb hb]
def qj3 (hs:List Int)(p:Int×Int)(n:Nat):List (Int×Int):=(List.range n).map (itP hs p)
theorem Yh (hs:List Int)(p:Int×Int)(n:Nat):qj3 hs p (n+1)=qj3 hs p n++[itP hs p n]:=by
 unfold qj3
 rw [cx,be]
 rfl
theorem y7 (hs:List Int)(p:Int×Int)(n:Nat):(qj3 hs p n).length=n:=by
 unfold qj3
 rw [ag,aH]
def PtR (H:Hp)(v:V)(p:Int×Int):Prop:=∃a,v=.ref a∧H a=some (.tup [.int p.1,.int p.2])
theorem PtR.same {H H':Hp}{v:V}{p:Int×Int}(h:PtR H v p)(s:Same H H'):PtR H' v p:=by
 obtain ⟨a,e,f⟩:=h
 exact ⟨a,e,s _ _ f⟩
theorem PtR.upd {H:Hp}{v:V}{p:Int×Int}{q:Aj}{xs:List V}{o:HO}(h:PtR H v p)(hq:H q=some (.lst xs)):PtR (L2.upd H q o) v p:=by
 obtain ⟨a,e,f⟩:=h
 refine ⟨a,e,?_⟩
 rw [qr (λz=>by rw [z,hq] at f;cases f)]
 exact f
theorem qk9 {α β:Type}{F G:α→β→Prop}(h:∀a b,F a b→G a b):∀ {l:List α} {m:List β},Paired F l m→Paired G l m
 |_,_,.nil=>.nil
 |_,_,.cons a t=>.cons (h _ _ a) (qk9 h t)
theorem Zf {α β:Type}{F:α→β→Prop}:∀ {l:List α} {m:List β} {i:Nat} {a:α},Paired F l m→l[i]?=some a→∃b,m[i]?=some b∧F a b
 |_,_,0,_,.cons a _,e=>by cases e;exact exI rfl a
 |_,_,i+1,_,.cons _ t,e=>Zf (i:=i) t e
theorem yf {α β:Type}{F:α→β→Prop}:∀ {l:List α} {m:List β} {i:Nat} {b:β},Paired F l m→m[i]?=some b→∃a,l[i]?=some a∧F a b
 |_,_,0,_,.cons a _,e=>by cases e;exact exI rfl a
 |_,_,i+1,_,.cons _ t,e=>yf (i:=i) t e
def PtsAt (H:Hp)(q:Aj)(ps:List (Int×Int)):Prop:=∃vs,H q=some (.lst vs)∧Paired (PtR H) vs ps
theorem Q2 {hs:List Int}(ok:wv hs)(k:Int):∀v∈u7 hs k,0≤v∧v<((hs.length-1:Nat):Int):=λv hv=>by
 have l:=lohi ok k
 have:=ok.1
 unfold u7 at hv
 obtain ⟨j,hj,rfl⟩:=aO.mp hv
 have:=au.mp hj
 lia
theorem quy {hs:List Int}(ok:wv hs)(k:Int):(u7 hs k).length≤24:=by
 have l:=lohi ok k
 have:=ok.2.1
 unfold u7
 rw [ag,aH]
 lia
def xr (hs:List Int):Nat→List Int:=λi=>u7 hs ((0:Int)+i)
def CovAt (H:Hp)(p:Aj)(hs:List Int):Prop:=∃ys,H p=some (.lst ys)∧ys.length=hs.length-1∧∀i v,ys[i]?=some v→∃q,v=.ref q∧H q=some (.lst ((xr hs i).map V.int))
theorem CovAt.same {H H':Hp}{p:Aj}{hs:List Int}(h:CovAt H p hs)(s:Same H H'):CovAt H' p hs:=by
 obtain ⟨ys,e,l,r⟩:=h
 exact ⟨ys,s _ _ e,l,λi v z=>let ⟨q,a,b⟩:=r i v z;⟨q,a,s _ _ b⟩⟩
theorem qwk (g:Nat→List V):Stay λi v H=>∃q,v=.ref q∧H q=some (.lst (g i)):=λi v H H' p h nv st=>by
 obtain ⟨q,rfl,e⟩:=h
 exact ⟨q,rfl,st q _ (λz=>nv (by rw [z])) e⟩
def uz (C:Aj):Sp:=λvs H Q _=>∃(r:Aj) (hs:List Int),vs=[.ref r]∧RoadAt C H r hs∧wv hs∧∀p H',H p=none→Same H H'→CovAt H' p hs→Q (.ref p) H'
theorem qvd {f:Aj}{fd:Ad}(F:Fun K "covers_of" "covers_of" s_covers_of f fd)(T:Txt K mg qp qx qf qu qy qm qd qw)(c_width:MCal P w K mg base qw "width" 1 (jb qw))(c_covered:Cal P w K mg base "covered" 4 (Yt qw qm)):FnOk P w K mg base (CXE P w) 5 f fd ["road"] (uz qw):=by
 have sc:=qkk
 refine F.okX sc (λvs H Q E h=>by obtain ⟨r,hs,rfl,_⟩:=h;rfl) (λcdv A outer s H vs Q E hr h=>?_)
 obtain ⟨r,hs,rfl,hR,ok,k⟩:=h
 obtain ⟨dx,q,h1,h2⟩:=id hR
 have o1:=ok.1
 have o2:=ok.2.1
 refine ⟨_,(qh (wp (v8 (M:=[0]) rfl rfl (by walk_at "cap") (by walk_at "has") (by walk_at "cix") rfl (by decide +kernel) rfl (show List.Nodup (["stretch","road"]:List Str) by decide +kernel) (xf rfl T.range_ (vv (kg (pv 0) T.cl c_width (hr.mono (by decide)) qc) qv)) (λ_ _ _ _ _=>(q9 c_covered (hr.mono (by decide)) rfl Yp (qg (pv 1) (qg (pv 0) qv))))))),?_⟩
 refine exI rfl ⟨r,dx,exI rfl ⟨h1,xk (by decide +kernel),r,hs,rfl,hR,exI rfl ⟨(by lia),(by lia),Qh (λi v H=>∃q,v=.ref q∧H q=some (.lst ((xr hs i).map V.int))) (qwk _) (by lia) (λi H' R hi s' hR'=>?_) λp ys H' np s' f l hG=>k p H' np s' ⟨ys,f,by lia,λi v e=>(hG i v e).1⟩⟩⟩⟩
 refine ⟨_,rfl,_,rfl,r,hs,_,rfl,hR.same s',ok,λ_ _ p2 H2 n2 s2 f2=>hR' (.ref p2) H2 s2 ⟨p2,rfl,f2⟩ λb e=>?_,λz=>absurd z (by lia)⟩
 cases e
 exact n2
def qxw:Sp:=λvs H Q _=>∃w:Int,vs=[.int w]∧0≤w∧w≤24∧∀(cov:Nat→List Int) p H',H p=none→Same H H'→MatAt H' p w.toNat (zj cov 0)→Q (.ref p) H'
theorem wwh {f:Aj}{fd:Ad}(F:Fun K "ways_of_no_step" "ways_of_no_step" s_ways_of_no_step f fd)(T:Txt K mg qp qx qf qu qy qm qd qw):FnOk P w K mg base (CXE P w) 1 f fd ["width"] qxw:=by
 have sc:=W0
 refine F.okX sc (λvs H Q E h=>by obtain ⟨w,rfl,_⟩:=h;rfl) (λcdv A outer s H vs Q E hr h=>?_)
 obtain ⟨w,rfl,w0,w1,k⟩:=h
 refine ⟨_,(qh (wp (qwd (M:=[0]) rfl rfl (by walk_at "cap") (by walk_at "hasK") (by walk_at "cix") rfl (by decide +kernel) (by intro _;rfl) (by intro _;rfl) rfl (show List.Nodup (["begin","width"]:List Str) by decide +kernel) (xf rfl T.range_ (qg (pv 0) qv)) (λ_ _ _ _ _=>(v8 (M:=[0]) rfl rfl (by walk_at "cap") (by walk_at "has") (by walk_at "cix") rfl (by decide +kernel) rfl (show List.Nodup (["end","begin"]:List Str) by decide +kernel) (xf rfl T.range_ (qg (pv 1) qv)) (λ_ _ _ _ _=>(qqc (wc vf (pv 0) (pv 1) (wn _)) qj qj))))))),?_⟩
 refine exI rfl ⟨w,rfl,(by lia),(by lia),Qh (λi v H=>∃q,v=.ref q∧H q=some (.lst ((zy w.toNat (zj (λ_=>[]) 0 i)).map V.int))) (qwk _) (by lia) (λi H' R hi s' hR'=>?_) λp ys H' np s' f l hG=>k (λ_=>[]) p H' np s' ⟨ys,f,l,λi v e=>(hG i v e).1⟩⟩
 refine exI rfl ⟨w,rfl,(by lia),(by lia),vk (λj=>V.int (zj (λ_=>[]) 0 i j)) (by lia) (λj H2 R2 hj s2 hR2=>?_) λq nq=>hR' (.ref q) _ (Same.upd nq) ⟨q,rfl,by rw [qb,qw1]⟩ λb e=>by cases e;exact nq⟩
 refine exI rfl (exI rfl ⟨rfl,_,rfl,z9 (λe=>?_) (λe=>?_)⟩)
 ·have:zj (λ_=>[]) 0 i j=1:=av (by lia)
  rw [this] at hR2
  exact hR2
 ·have:zj (λ_=>[]) 0 i j=0:=ao (by lia)
  rw [this] at hR2
  exact hR2
def Z1 (hs:List Int):Sp:=λvs H Q _=>∃(c t:Aj) (f:Nat→Nat→Int),vs=[.ref c,.ref t]∧CovAt H c hs∧MatAt H t (hs.length-1) f∧∀p H',H p=none→Same H H'→MatAt H' p (hs.length-1) (λi j=>((xr hs i).map λv=>f v.toNat j).sum)→Q (.ref p) H'
def picks (f:Nat→Nat→Int)(j:Nat):V→V
 |.int z=>.int (f z.toNat j)
 |_=>.non
theorem at_row {n j:Nat}{g:Nat→Int}(h:j<n):atI ((zy n g).map V.int) ((0:Int)+j)=some (V.int (g j)):=by
 rw [Int.zero_add]
 refine v6 ?_
 rw [ax,qqf h]
 rfl
theorem quk {hs:List Int}(ok:wv hs){f:Aj}{fd:Ad}(F:Fun K "one_step_more" "one_step_more" s_one_step_more f fd)(T:Txt K mg qp qx qf qu qy qm qd qw):FnOk P w K mg base (CXE P w) 1 f fd ["covers","table"] (Z1 hs):=by
 have sc:=Yx
 refine F.okX sc (λvs H Q E h=>by obtain ⟨c,t,g,rfl,_⟩:=h;rfl) (λcdv A outer s H vs Q E hr h=>?_)
 obtain ⟨c,t,g,rfl,⟨cs,fc,lc,gc⟩,hM,k⟩:=h
 obtain ⟨ts,ft,lt,gt⟩:=id hM
 have o1:=ok.1
 have o2:=ok.2.1
 refine ⟨_,(qh (wp (qwd (M:=[1]) rfl rfl (by walk_at "cap") (by walk_at "hasK") (by walk_at "cix") rfl (by decide +kernel) (by intro _;rfl) (by intro _;rfl) rfl (show List.Nodup (["vias","table"]:List Str) by decide +kernel) (vy (pv 0)) (λ_ _ _ _ _=>(qwd (M:=[0,1]) rfl rfl (by walk_at "cap") (by walk_at "hasK") (by walk_at "cix") rfl (by decide +kernel) (by intro _;rfl) (by intro _;rfl) rfl (show List.Nodup (["end","vias","table"]:List Str) by decide +kernel) (xf rfl T.range_ (vv (wg (Wy (K:=K) rfl) rfl T.len_ bH (qg (pv 1) qv)) qv)) (λ_ _ _ _ _=>(wg (vg (K:=K) rfl rfl) rfl T.sum_ y8 (vw (v8 (M:=[0,2]) rfl rfl (by walk_at "cap") (by walk_at "has") (by walk_at "cix") rfl (by decide +kernel) rfl (show List.Nodup (["via","end","table"]:List Str) by decide +kernel) (qyn (K:=K) rfl (pv 1)) (λ_ _ _ _ _=>(zv (js (K:=K) rfl) (zv (js (K:=K) rfl) (pv 2) (pv 0) (λ_ _=>rfl)) (pv 1) (λ_ _=>rfl)))) qv)))))))),?_⟩
 refine exI rfl ⟨c,rfl,⟨_,SqL.of fc⟩,uq (K:=K) (a:=c) (xs:=cs) (λi v H=>∃q,v=.ref q∧H q=some (.lst ((zy (hs.length-1) λj=>((xr hs i).map λv=>g v.toNat j).sum).map V.int))) (qwk _) (SqL.of fc) (by lia) (λi x H' R hx s' hR'=>?_) λp ys H' np s' f l hG=>k p H' np s' ⟨ys,f,by lia,λi v e=>(hG i v e).1⟩⟩
 obtain ⟨qi,rfl,fqi⟩:=gc i x hx
 refine exI rfl ⟨t,exI rfl ⟨.inl (SqL.of (s' _ _ ft)),exI rfl ⟨(by lia),(by lia),?_⟩⟩⟩
 rw [show ((ts.length:Int)).toNat=hs.length-1 by lia]
 refine qyu (λj=>V.int (((xr hs i).map λv=>g v.toNat j).sum)) (λ_ _ e=>nomatch e) (by lia) (λj H2 R2 hj s2 hR2=>?_) λq H2 nq s2 fq=>hR' (.ref q) H2 s2 ⟨q,rfl,by rw [fq,qw1]⟩ λb e=>by cases e;exact nq
 have s02:=s'.trans s2
 refine exI rfl ⟨qi,rfl,⟨_,SqL.of (s02 _ _ fqi)⟩,wvm (K:=K) (a:=qi) (xs:=(xr hs i).map V.int) (picks g j) (SqL.of (s02 _ _ fqi)) (by rw [ag];have:=quy ok ((0:Int)+i);unfold xr;lia) (λx3 H3 R3 hx3 s3 hR3=>?_) λpl nl=>?_⟩
 ·obtain ⟨z,hz,rfl⟩:=aO.mp hx3
  have zb:=Q2 ok _ z hz
  obtain ⟨qz,ez,fz⟩:=hM.row ft (i:=z.toNat) (by lia)
  have s03:=s02.trans s3
  have ez':atI ts z=some (.ref qz):=by
   have:=v6 ez
   rwa [b9 zb.1] at this
  exact exI rfl (exI rfl (exX rfl rfl (SqL.of (s03 _ _ ft)) ez' (exI rfl (exX rfl rfl (SqL.of (s03 _ _ fz)) (at_row hj) hR3))))
 ·have e:((xr hs i).map V.int).map (picks g j)=((xr hs i).map λv=>g v.toNat j).map V.int:=by
   rw [bP,bP]
   rfl
  rw [e]
  exact ⟨pl,exI rfl ⟨SqL.new,hR2 _ (Same.upd nl)⟩⟩
theorem MatAt.upd {H:Hp}{p q:Aj}{n:Nat}{f:Nat→Nat→Int}{ys:List V}{o:HO}{a:Aj}(h:MatAt H p n f)(hn:1≤n)(hq:H q=some (.lst ys))(hp:p≠q)(h0:ys[0]?=some (.ref a)):MatAt (L2.upd H q o) p n f:=by
 obtain ⟨zs,e,l,r⟩:=h
 refine ⟨zs,by rw [qr hp];exact e,l,λi v z=>?_⟩
 obtain ⟨q',a',b⟩:=r i v z
 refine ⟨q',a',?_⟩
 rw [qr (λe'=>?_)]
 ·exact b
 ·rw [e',hq] at b
  have e1:ys=(zy n (f i)).map V.int:=by
   injection b with b
   injection b
  rw [e1,ax,qqf (by lia)] at h0
  cases h0
def qqt (C:Aj):Sp:=λvs H Q _=>∃(r:Aj) (hs:List Int) (m:Int),vs=[.ref r,.int m]∧RoadAt C H r hs∧wv hs∧0≤m∧m≤60 ∧
 ∀p ys H',Same H H'→H' p=some (.lst ys)→ys.length=m.toNat+1→(∀i v,ys[i]?=some v→∃q,v=.ref q∧MatAt H' q (hs.length-1) (zj (xr hs) i))→Q (.ref p) H'
theorem wqc {f:Aj}{fd:Ad}(F:Fun K "ways_up_to" "ways_up_to" s_ways_up_to f fd)(T:Txt K mg qp qx qf qu qy qm qd qw)(c_covers_of:Cal P w K mg base "covers_of" 5 (uz qw))(c_width:MCal P w K mg base qw "width" 1 (jb qw))(c_ways_of_no_step:Cal P w K mg base "ways_of_no_step" 1 qxw)
  (c_more:∀hs,wv hs→Cal P w K mg base "one_step_more" 1 (Z1 hs)):FnOk P w K mg base (CXE P w) 6 f fd ["road","many"] (qqt qw):=by
 have sc:=qxm
 refine F.okX sc (λvs H Q E h=>by obtain ⟨r,hs,m,rfl,_⟩:=h;rfl) (λcdv A outer s H vs Q E hr h=>?_)
 obtain ⟨r,hs,m,rfl,hR,ok,m0,m1,k⟩:=h
 obtain ⟨dx,q,h1,h2⟩:=id hR
 have o1:=ok.1
 have o2:=ok.2.1
 have c_one_step_more:=c_more hs ok
 refine ⟨_,(qk (wb (i:=2) sc.nd rfl (by walk_at "loc") (q9 c_covers_of (hr.mono (by decide)) rfl qc (qg (pv 0) qv)))
   (qk (wb (i:=3) sc.nd rfl (by walk_at "loc") (yk (vv (q9 c_ways_of_no_step (hr.mono (by decide)) rfl qc (vv (kg (pv 0) T.cl c_width (hr.mono (by decide)) qc) qv)) qv)))
   (qk (Zm bz (wc wwn (wg xu rfl T.len_ bH (qg (pv 3) qv)) (pv 1) (wn _)) (qh (zg (qqh cn cC cD v4 (pv 3) (vv (q9 c_one_step_more (hr.mono (by decide)) rfl qc (qg (pv 2) (j4 (zv zk (pv 3) (qww W4 qj) (λ_ _=>rfl)) qv))) qv)))))
   (qh (wp (pv 3)))))),?_⟩
 refine exI rfl ⟨r,hs,rfl,hR,ok,λp1 H1 n1 s1 C1=>?_⟩
 refine exI rfl ⟨r,dx,exI rfl ⟨s1 _ _ h1,xk (by decide +kernel),r,hs,rfl,hR.same s1,exI rfl ⟨(by lia),(by lia),λcov p2 H2 n2 s2 M2=>?_⟩⟩⟩
 rw [show ((hs.length:Int)-1).toNat=hs.length-1 by lia] at M2
 have M2':MatAt H2 p2 (hs.length-1) (zj (xr hs) 0):=M2
 obtain ⟨zs2,e2,_,_⟩:=id M2
 refine ⟨sz1,λq nq=>?_⟩
 have dq:p2≠q:=q8 e2 nq
 have sq:Same H2 (upd H2 q (.lst [.ref p2])):=Same.upd nq
 refine Zz (λσ H3=>∃(i:Nat) (ys:List V),σ=[some (.ref r),some (.int m),some (.ref p1),some (.ref q)]∧(i:Int)≤m∧Same H2 H3∧H3 q=some (.lst ys)∧ys.length=i+1∧∀j v,ys[j]?=some v→∃q',v=.ref q'∧q'≠q∧MatAt H3 q' (hs.length-1) (zj (xr hs) j))
  (λ_ H3=>match H3 q with|some (.lst ys)=>(m+1).toNat-ys.length|_=>0) ⟨0,[.ref p2],rfl,by lia,sq,qb,rfl,λj v e=>?_⟩ ?_ λσ H Q Q' h ⟨v,e,p',ys,e1,e2,v2,e3,i,j,e4,e5,kk,e6,qq⟩=>⟨v,e,p',ys,e1,e2,v2,e3,i,j,e4,e5,kk,e6,h _ _ qq⟩
 ·rcases j with _|j
  ·cases e
   exact ⟨p2,rfl,dq,M2'.same sq⟩
  ·cases e
 ·rintro σ H3 ⟨i,ys,rfl,hi,s3,f3,l3,g3⟩
  have s03:=s1.trans (s2.trans s3)
  refine exI rfl ⟨_,_,rfl,.inl (SqL.of f3),exI rfl (wy rfl rfl (exI rfl ?_))⟩
  rw [l3]
  refine jz (λq1=>?_) (λq1=>?_)
  ·have ei:ys[i]?=some ys[i]:=ae (by lia)
   obtain ⟨qi,eqi,dqi,Mi⟩:=g3 i _ ei
   have hlast:atI ys (-1)=some (.ref qi):=by
    have hz:ys≠[]:=λz=>by rw [z] at l3;simp at l3
    have e1:ys=ys.dropLast++[ys.getLast hz]:=(eE hz).symm
    have e2:ys.getLast hz=.ref qi:=by
     rw [iu]
     have:ys[i]?=ys[ys.length-1]?:=by rw [l3];rfl
     rw [this,ae (by lia),eqi] at ei
     exact aq ei
    rw [e1,e2]
    exact Qm _ _
   obtain ⟨q0',e0,_,_⟩:=g3 0 _ (ae (show 0<ys.length by lia))
   have h0:ys[0]?=some (.ref q0'):=by rw [ae (show 0<ys.length by lia),e0]
   refine exI rfl ⟨.inl ⟨rfl,_,SqL.of f3⟩,exI rfl (exI rfl (exI rfl (exX rfl rfl (SqL.of f3) hlast ⟨p1,qi,zj (xr hs) i,rfl,C1.same (s2.trans s3),Mi,λp4 H4 n4 s4 M4=>?_⟩)))⟩
   have f4:=s4 _ _ f3
   have d4:p4≠q:=(q8 f3 n4).symm
   refine ⟨_,_,_,rfl,rfl,f4,Y3 (by lia),⟨i+1,ys++[.ref p4],rfl,by lia,Same.upd2 (s3.trans s4) nq,qb,by rw [am,l3];rfl,λj v e=>?_⟩,?_⟩
   ·rcases bn j ys.length with z|z
    ·rw [aP z] at e
     obtain ⟨q',e',d',M'⟩:=g3 j v e
     exact ⟨q',e',d',MatAt.upd (M'.same s4) (by lia) f4 d' h0⟩
    ·rw [aA z] at e
     have hj:j=i+1:=by
      rcases bn (j-ys.length) 1 with y|y
      ·lia
      ·rw [aK (by simpa using y)] at e
       cases e
     subst hj
     rw [show i+1-ys.length=0 by lia] at e
     have:V.ref p4=v:=aq e
     subst this
     exact ⟨p4,rfl,d4,MatAt.upd (f:=zj (xr hs) (i+1)) M4 (by lia) f4 d4 h0⟩
   ·show (match upd H4 q (.lst (ys++[.ref p4])) q with|some (.lst ys)=>(m+1).toNat-ys.length|_=>0)<(match H3 q with|some (.lst ys)=>(m+1).toNat-ys.length|_=>0)
    rw [qb,f3]
    show (m+1).toNat-(ys++[V.ref p4]).length<(m+1).toNat-ys.length
    rw [am,cf]
    lia
  ·refine exI rfl (k q ys H3 s03 f3 (by lia) λj v e=>?_)
   obtain ⟨q',e',_,M'⟩:=g3 j v e
   exact ⟨q',e',M'⟩
end
section
variable {P:Ac}{w:Ah}{K:Aa}{mg:Str→Option Ag}{base:Heap}{qp:Aj}{qx:Aj}{qf:Aj}{qu:Aj}{qy:Aj}{qm:Aj}{qd:Aj}{qw:Aj}
def covR (hs:List Int)(i j:Int):Prop:=(0≤i∧i<(hs.length:Int)-1)∧loH hs i≤j∧j+1≤hiH hs i
instance (hs:List Int)(i j:Int):Decidable (covR hs i j):=by unfold covR;exact inferInstance
def qx2 (xs:List Int):List Int:=xs.drop 1++xs.take 1
theorem xqm (xs:List Int):(qx2 xs).length=xs.length:=by
 unfold qx2
 rw [am,bS,ba]
 lia
def j8 (hs xs:List Int):Prop:=(1≤xs.length∧xs.length≤12)∧∀(i:Nat) (x y:Int),xs[i]?=some x→(qx2 xs)[i]?=some y→covR hs x y
def qyg (hs:List Int)(p:Int×Int)(x:Int):Int×Int:=(p.1*(hAt hs (x+1)-hAt hs x),hAt hs x+(hAt hs (x+1)-hAt hs x)*(p.2-x))
def wj (hs xs:List Int):Int×Int:=xs.foldl (qyg hs) (1,0)
theorem wwg (hs xs:List Int)(x:Int):wj hs (xs++[x])=qyg hs (wj hs xs) x:=by
 unfold wj
 rw [List.foldl_append]
 rfl
theorem jm (hs:List Int){xs:List Int}{i:Nat}{x:Int}(h:xs[i]?=some x):wj hs (xs.take (i+1))=qyg hs (wj hs (xs.take i)) x:=by
 rw [dr,h]
 exact wwg hs _ x
theorem qzh {hs:List Int}(ok:wv hs)(x:Int):(hAt hs (x+1)-hAt hs x).natAbs≤24:=by
 have a:=wxc ok x
 have b:=wxc ok (x+1)
 lia
theorem Yr {hs:List Int}(ok:wv hs){xs:List Int}:∀i:Nat,(wj hs (xs.take i)).1.natAbs≤24 ^ i
 |0=>by rw [gL];show (1:Int).natAbs≤1;decide
 |i+1=>by
  have ih:=Yr ok (xs:=xs) i
  cases e:xs[i]? with
  |none =>
   have:=eV.mp e
   have e1:xs.take (i+1)=xs.take i:=by rw [cQ (by lia),cQ (by lia)]
   rw [e1,dA]
   exact bB ih (iw _ (by decide))
  |some x =>
   rw [jm hs e]
   show ((wj hs (xs.take i)).1*(hAt hs (x+1)-hAt hs x)).natAbs≤24 ^ (i+1)
   rw [fE,dA]
   exact Nat.mul_le_mul ih (qzh ok x)
def qkm (K:Aa)(C:Aj):Sp:=λvs H Q _=>∃(r a:Aj) (hs xs:List Int),vs=[.ref r,.ref a]∧RoadAt C H r hs∧wv hs∧SqT K H a (xs.map V.int)∧(∀x∈xs,0≤x∧x<(hs.length:Int)-1) ∧
 ∀p H',Same H H'→H' p=some (.tup [.int (wj hs xs).1,.int (wj hs xs).2])→Q (.ref p) H'
theorem wkh {f:Aj}{fd:Ad}(F:Fun K "line_along" "line_along" s_line_along f fd)(T:Txt K mg qp qx qf qu qy qm qd qw)(c_slope:MCal P w K mg base qw "slope" 3 (qvz qw qm))(c_ends:MCal P w K mg base qw "ends" 2 (Yd qw qm)):FnOk P w K mg base (CXE P w) 4 f fd ["road","row"] (qkm K qw):=by
 have sc:=qx0
 refine F.okX sc (λvs H Q E h=>by obtain ⟨r,a,hs,xs,rfl,_⟩:=h;rfl) (λcdv A outer s H vs Q E hr h=>?_)
 obtain ⟨r,a,hs,xs,rfl,hR,ok,hT,hx,k⟩:=h
 refine ⟨_,(qk (wb (i:=2) sc.nd rfl (by walk_at "loc") qj)
   (qk (wb (i:=3) sc.nd rfl (by walk_at "loc") qj)
   (qk (yj bz rfl (pi_tup (pv 1)) (wt (i:=4) sc.nd rfl (by walk_at "loc")) (qk (wb (i:=5) sc.nd rfl (by walk_at "loc") (vj (pv 0) T.cl c_slope (hr.mono (by decide)) qc (qg (pv 4) qv)))
   (qk (wb (i:=6) sc.nd rfl (by walk_at "loc") (zv qxk (vj (pv 0) T.cl c_ends (hr.mono (by decide)) qc (qg (pv 4) qv)) qj (λ_ _=>rfl)))
   (qk (wb (i:=2) sc.nd rfl (by walk_at "loc") (ww xy (pv 2) (pv 5)))
   (qh (wb (i:=3) sc.nd rfl (by walk_at "loc") (ww xv (pv 6) (ww xy (pv 5) (ww vq (pv 3) (pv 4))))))))))
   (qh (wp (jr (qg (pv 2) (qg (pv 3) qv)))))))),?_⟩
 refine exI rfl ⟨a,rfl,⟨_,hT⟩,xq1 (xs:=xs.map V.int) (λi σ H'=>Same H H'∧∃z4 z5 z6,σ=[some (.ref r),some (.ref a),some (.int (wj hs (xs.take i)).1),some (.int (wj hs (xs.take i)).2),z4,z5,z6]) ⟨Same.refl _,_,_,_,rfl⟩ (λi σ H' _ h=>h.1.sqt hT) ?_ ?_⟩
 ·rintro i v σ H1 ev ⟨s1,z4,z5,z6,rfl⟩
  rw [ax] at ev
  obtain ⟨x,ex,rfl⟩:=d9.mp ev
  obtain ⟨x0,x1⟩:=hx x (aC ex)
  obtain ⟨dx,q0,h1,h2⟩:=id (hR.same s1)
  have sl:=qzh ok x
  refine ⟨_,rfl,r,dx,_,rfl,h1,xk (by decide +kernel),_,rfl,r,hs,x,rfl,hR.same s1,λ_ _ H2 s2=>?_,λz=>absurd z (by lia)⟩
  obtain ⟨dx,q0,h1,h2⟩:=id (hR.same (s1.trans s2))
  refine ⟨_,rfl,r,dx,_,rfl,h1,xk (by decide +kernel),_,rfl,r,hs,x,rfl,hR.same (s1.trans s2),λ_ _ p3 n3=>?_,λz=>absurd z (by lia)⟩
  have s3:=Same.upd (o:=.tup [.int (hAt hs x),.int (hAt hs (x+1))]) n3
  refine exX rfl rfl SqT.new rfl ?_
  refine exI rfl (exI rfl (wy rfl rfl ⟨IntMulOk.of_right (intBits_le_64 (by lia) (by lia)),?_⟩))
  refine exI rfl (exI rfl (exI rfl (exI rfl (wy rfl rfl (wy rfl rfl ⟨IntMulOk.of_left (intBits_le_64 (by lia) (by lia)),wy rfl rfl ?_⟩)))))
  refine ⟨s1.trans (s2.trans s3),some (.int x),some (.int (hAt hs (x+1)-hAt hs x)),some (.int (hAt hs x)),?_⟩
  rw [jm hs ex]
  rfl
 ·rintro σ H1 ⟨s1,z4,z5,z6,rfl⟩
  rw [ag,bv]
  refine exI rfl (exI rfl ⟨sz2,λp np=>k p _ (s1.trans (Same.upd np)) qb⟩)
theorem wzv {hs xs:List Int}(c:j8 hs xs):∀x∈xs,0≤x∧x<(hs.length:Int)-1:=λx hx=>by
 obtain ⟨i,hi,rfl⟩:=dw hx
 have h2:i<(qx2 xs).length:=by rw [xqm];exact hi
 exact (c.2 i xs[i] (qx2 xs)[i] (ae hi) (ae h2)).1
def FixR (H:Hp)(p:Int×Int)(v:V):Prop:=(p.1=1∧v=.non)∨(p.1≠1∧∃q,v=.ref q∧H q=some (.tup (ptV (if p.1>1 then wm (-p.2) (p.1-1) else wm p.2 (1-p.1)))))
def qvb (K:Aa)(C:Aj):Sp:=λvs H Q _=>∃(r a:Aj) (hs xs:List Int),vs=[.ref r,.ref a]∧RoadAt C H r hs∧wv hs∧SqT K H a (xs.map V.int)∧(∀x∈xs,0≤x∧x<(hs.length:Int)-1)∧xs.length≤12 ∧
 ∀v H',Same H H'→FixR H' (wj hs xs) v→Q v H'
theorem wjj {f:Aj}{fd:Ad}(F:Fun K "fixed_point" "fixed_point" s_fixed_point f fd)(T:Txt K mg qp qx qf qu qy qm qd qw)(c_line_along:Cal P w K mg base "line_along" 4 (qkm K qw))(c_lowest:Cal P w K mg base "lowest" 2 (Qb qx)):FnOk P w K mg base (CXE P w) 5 f fd ["road","row"] (qvb K qw):=by
 have sc:=qwf
 refine F.okX sc (λvs H Q E h=>by obtain ⟨r,a,hs,xs,rfl,_⟩:=h;rfl) (λcdv A outer s H vs Q E hr h=>?_)
 obtain ⟨r,a,hs,xs,rfl,hR,ok,hT,hx,hl,k⟩:=h
 have ab:=Yr ok (xs:=xs) xs.length
 rw [bv] at ab
 have ab:(wj hs xs).1.natAbs≤24 ^ 12:=bB ab (cX (by decide) hl)
 have p12:(24:Nat) ^ 12=36520347436056576:=by decide
 rw [p12] at ab
 refine ⟨_,(qk (yx (q9 c_line_along (hr.mono (by decide)) rfl qc (qg (pv 0) (qg (pv 1) qv))) (jg rfl (xg (wt (i:=2) sc.nd rfl (by walk_at "loc")) (xg (wt (i:=3) sc.nd rfl (by walk_at "loc")) v5))))
   (qk (zf (wc vf (pv 2) qj (wn _)) (qh (wp Yk)) xj)
   (qk (zf (wc Qj (pv 2) qj (wn _)) (qh (wp (q9 c_lowest (hr.mono (by decide)) rfl qc (pa_cU (qww W4 (pv 3)) (zu (ww vq (pv 2) qj) qv))))) xj)
   (qh (wp (q9 c_lowest (hr.mono (by decide)) rfl qc (qg (pv 3) (zu (ww vq qj (pv 2)) qv)))))))),?_⟩
 refine exI rfl (exI rfl ⟨r,a,hs,xs,rfl,hR,ok,hT,hx,λp H1 s1 f1=>?_⟩)
 unfold FixR at k
 generalize (wj hs xs).1=st at ab f1 k
 generalize (wj hs xs).2=ht at f1 k
 refine ⟨p,exI rfl ⟨SqT.of f1,rfl,_,_,rfl,_,_,rfl,rfl,?_⟩⟩
 refine exI rfl ⟨rfl,_,rfl,z9 (λz=>?_) (λz=>?_)⟩
 ·exact k _ _ s1 (.inl ⟨z,rfl⟩)
 ·refine exI rfl (wy rfl rfl (exI rfl (jz (λy=>?_) (λy=>?_))))
  ·refine ⟨_,rfl,_,rfl,_,rfl,_,_,rfl,rfl,_,_,rfl,λ_=>⟨Sm.small (by lia) (by lia) (by decide),λq nq=>?_⟩,λw=>absurd w (by lia)⟩
   refine k _ _ (s1.trans (Same.upd nq)) (.inr ⟨z,q,rfl,?_⟩)
   rw [av y]
   exact qb
  ·refine ⟨_,rfl,_,rfl,_,_,rfl,rfl,_,_,rfl,λ_=>⟨Sm.small (by lia) (by lia) (by decide),λq nq=>?_⟩,λw=>absurd w (by lia)⟩
   refine k _ _ (s1.trans (Same.upd nq)) (.inr ⟨z,q,rfl,?_⟩)
   rw [ao y]
   exact qb
theorem wxz {xs:List Int}{i:Nat}(h:i+1<xs.length):(qx2 xs)[i]?=xs[i+1]?:=by
 unfold qx2
 rw [aP (by rw [bS];lia),cW,Nat.add_comm]
theorem wxj {xs:List Int}{i:Nat}(h:i+1=xs.length):(qx2 xs)[i]?=xs[0]?:=by
 unfold qx2
 rw [aA (by rw [bS];lia),bS,show i-(xs.length-1)=0 by lia,dE,av (by decide)]
def covT (hs:List Int)(i j:Nat):Int:=if loH hs ((0:Int)+i)≤(0:Int)+j∧(0:Int)+j+1≤hiH hs ((0:Int)+i) then 1 else 0
theorem wx7:∀(m:Nat) (lo:Int) (j:Nat),0≤lo→((List.range m).map λk:Nat=>(if j=(lo+k).toNat then (1:Int) else 0)).sum=if lo≤j∧(j:Int)<lo+m then 1 else 0
 |0,lo,j,h=>by
  rw [ao (by lia)]
  rfl
 |m+1,lo,j,h=>by
  rw [cx,be,iH,wx7 m lo j h,aN,dJ,cM,List.sum_nil]
  by_cases z:j=(lo+m).toNat
  ·rw [av z,ao (by lia),av (by lia)]
   rfl
  ·rw [ao z]
   by_cases y:lo≤j∧(j:Int)<lo+m
   ·rw [av y,av (by lia)]
    rfl
   ·rw [ao y,ao (by lia)]
    rfl
theorem wxn {hs:List Int}(ok:wv hs)(i j:Nat):zj (xr hs) 1 i j=covT hs i j:=by
 show ((xr hs i).map λv=>if j=v.toNat then (1:Int) else 0).sum=_
 have l:=lohi ok ((0:Int)+i)
 unfold xr u7 covT
 rw [bP]
 have:=wx7 (hiH hs ((0:Int)+i)-loH hs ((0:Int)+i)).toNat (loH hs ((0:Int)+i)) j l.1
 show ((List.range _).map λk:Nat=>(if j=(loH hs ((0:Int)+i)+k).toNat then (1:Int) else 0)).sum=_
 rw [this]
 by_cases z:loH hs ((0:Int)+i)≤(0:Int)+j∧(0:Int)+j+1≤hiH hs ((0:Int)+i)
 ·rw [av z,av (by lia)]
 ·rw [ao z,ao (by lia)]
def bgR (hs:List Int)(f m:Nat):Nat→List (List Int)
 |0=>if 0<zj (xr hs) m f f then [[(0:Int)+f]] else []
 |t+1=>Wh (λv=>decide (0<zj (xr hs) (m-1-t) v.toNat f)) (λr=>xr hs (r.getLastD 0).toNat) (bgR hs f m t)
def xt (hs:List Int)(m:Nat):List (List Int):=(List.range (hs.length-1)).flatMap λf=>bgR hs f m (m-1)
def cvr (hs:List Int)(x y:Int):Prop:=loH hs x≤y∧y+1≤hiH hs x
theorem mem_cov {hs:List Int}{x y:Int}:y∈u7 hs x↔cvr hs x y:=by
 unfold u7 cvr
 constructor
 ·intro h
  obtain ⟨j,hj,rfl⟩:=aO.mp h
  have:=au.mp hj
  lia
 ·intro h
  exact aO.mpr ⟨(y-loH hs x).toNat,au.mpr (by lia),by lia⟩
theorem Jn {hs:List Int}{x:Int}(h:0≤x):xr hs x.toNat=u7 hs x:=by
 unfold xr
 rw [show (0:Int)+(x.toNat:Int)=x by lia]
theorem Wd (r:List Int)(x:Int):(r++[x]).getLastD 0=x:=by
 rw [gO,List.getLast?_append]
 rfl
theorem qz2 {r:List Int}(h:r≠[]):r.getLastD 0=r.getD (r.length-1) 0:=by
 rw [gO,List.getLast?_eq_getElem?,af]
theorem mem_addR {c:Int→Bool}{r vs x:List Int}:x∈Zc c r vs↔∃v∈vs,c v=true∧x=r++[v]:=by
 unfold Zc
 rw [aO]
 constructor
 ·rintro ⟨v,hv,rfl⟩
  obtain ⟨h1,h2⟩:=bF.mp hv
  exact ⟨v,h1,h2,rfl⟩
 ·rintro ⟨v,h1,h2,rfl⟩
  exact ⟨v,bF.mpr ⟨h1,h2⟩,rfl⟩
theorem mem_allR {c:Int→Bool}{g:List Int→List Int}{L:List (List Int)}{x:List Int}:x∈Wh c g L↔∃r∈L,∃v∈g r,c v=true∧x=r++[v]:=by
 unfold Wh
 rw [List.mem_flatMap]
 constructor
 ·rintro ⟨r,hr,h⟩
  exact ⟨r,hr,mem_addR.mp h⟩
 ·rintro ⟨r,hr,h⟩
  exact ⟨r,hr,mem_addR.mpr h⟩
def Beg (hs:List Int)(f m t:Nat)(r:List Int):Prop:=r.length=t+1∧r.getD 0 0=(0:Int)+f∧(∀x∈r,0≤x∧x<(hs.length:Int)-1)∧(∀i,i<t→cvr hs (r.getD i 0) (r.getD (i+1) 0))∧0<zj (xr hs) (m-t) (r.getLastD 0).toNat f
theorem Zb {r:List Int}{v:Int}{i:Nat}(h:i<r.length):(r++[v]).getD i 0=r.getD i 0:=by
 rw [af,af,aP h]
theorem wy1 {r:List Int}{v:Int}{i:Nat}(h:i=r.length):(r++[v]).getD i 0=v:=by
 subst h
 rw [af,aA (aj _),gk]
 rfl
theorem qqm {hs:List Int}{f m t:Nat}{r:List Int}(h:Beg hs f m t r):r.getLastD 0=r.getD t 0∧0≤r.getLastD 0∧r.getLastD 0<(hs.length:Int)-1:=by
 obtain ⟨l,_,g,_⟩:=h
 have hz:r≠[]:=λz=>by rw [z] at l;cases l
 have e:=qz2 hz
 rw [l,gG] at e
 refine ⟨e,?_⟩
 rw [e,af,ae (by lia)]
 exact g _ (bu _)
theorem Wc {hs:List Int}(ok:wv hs){f m:Nat}(hf:f<hs.length-1):∀t,∀r∈bgR hs f m t,Beg hs f m t r
 |0,r,hr=>by
  unfold bgR at hr
  split at hr
  ·next p =>
   obtain rfl:=aJ.mp hr
   refine ⟨rfl,rfl,λx hx=>?_,λi hi=>absurd hi (fX _),?_⟩
   ·rw [aJ.mp hx];lia
   ·show 0<zj (xr hs) m ((0:Int)+f).toNat f
    rw [show ((0:Int)+f).toNat=f by lia]
    exact p
  ·cases hr
 |t+1,r,hr=>by
  obtain ⟨q,hq,v,hv,hc,rfl⟩:=mem_allR.mp hr
  have b:=Wc ok hf t q hq
  obtain ⟨e1,e2,e3⟩:=qqm b
  obtain ⟨l,h0,g,ch,_⟩:=b
  rw [Jn e2] at hv
  have cv:=mem_cov.mp hv
  have vr:=Q2 ok _ v hv
  refine ⟨by rw [am,l];rfl,by rw [Zb (by lia)];exact h0,λx hx=>?_,λi hi=>?_,?_⟩
  ·rcases aU.mp hx with z|z
   ·exact g x z
   ·rw [aJ.mp z];lia
  ·rcases (by lia:i<t∨i=t) with z|z
   ·rw [Zb (by lia),Zb (by lia)]
    exact ch i z
   ·subst z
    rw [Zb (by lia),wy1 (by lia),←e1]
    exact cv
  ·rw [Wd,show m-(t+1)=m-1-t by lia]
   exact cg hc
theorem Qr (cov:Nat→List Int):∀(m i j:Nat),0≤zj cov m i j
 |0,i,j=>by unfold zj;split <;> decide
 |m+1,i,j=>by
  show 0≤((cov i).map λv=>zj cov m v.toNat j).sum
  generalize cov i=l
  induction l with
  |nil=>exact c0 _
  |cons v l ih =>
   rw [aN,cM]
   have:=Qr cov m v.toNat j
   lia
theorem qyp {F:Int→Int}(h:∀v,0≤F v)(r:List Int):∀vs:List Int,((Zc (λv=>decide (0<F v)) r vs).map λq=>F (q.getLastD 0)).sum=(vs.map F).sum
 |[]=>rfl
 |v::vs=>by
  have ih:=qyp h r vs
  unfold Zc at ih ⊢
  rw [eT,aN,cM,←ih]
  by_cases z:0<F v
  ·rw [av (aT z),aN,aN,cM,Wd]
  ·rw [ao (by simpa using z)]
   have:=h v
   lia
theorem qjn {F:Int→Int}(h:∀v,0≤F v)(g:List Int→List Int):∀L:List (List Int),((Wh (λv=>decide (0<F v)) g L).map λq=>F (q.getLastD 0)).sum=(L.map λr=>((g r).map F).sum).sum
 |[]=>rfl
 |r::L=>by
  have ih:=qjn h g L
  unfold Wh at ih ⊢
  rw [List.flatMap_cons,be,iH,ih,aN,cM,qyp h]
theorem wqy (hs:List Int)(f m:Nat):∀t,t≤m→((bgR hs f m t).map λr=>zj (xr hs) (m-t) (r.getLastD 0).toNat f).sum=zj (xr hs) m f f
 |0,_=>by
  have p:=Qr (xr hs) m f f
  unfold bgR
  split
  ·show zj (xr hs) m ((0:Int)+f).toNat f+0=_
   rw [show ((0:Int)+f).toNat=f by lia,Int.add_zero]
  ·show (0:Int)=_
   lia
 |t+1,h=>by
  have ih:=wqy hs f m t (by lia)
  rw [show m-t=(m-1-t)+1 by lia] at ih
  rw [←ih,show m-(t+1)=m-1-t by lia]
  exact qjn (F:=λv=>zj (xr hs) (m-1-t) v.toNat f) (λv=>Qr _ _ _ _) (λr=>xr hs (r.getLastD 0).toNat) (bgR hs f m t)
theorem qqd {α:Type}{F:α→Int}:∀ {L:List α},(∀r∈L,1≤F r)→(L.length:Int)≤(L.map F).sum
 |[],_=>c0 _
 |r::L,h=>by
  have ih:=qqd (L:=L) λr hr=>h r (.tail _ hr)
  have:=h r (.head _)
  rw [aN,cM,aQ]
  lia
theorem qqv {α:Type}{F:α→Int}:∀ {L:List α},(∀r∈L,F r=1)→(L.length:Int)=(L.map F).sum
 |[],_=>rfl
 |r::L,h=>by
  have ih:=qqv (L:=L) λr hr=>h r (.tail _ hr)
  have:=h r (.head _)
  rw [aN,cM,aQ]
  lia
theorem wkb {hs:List Int}(ok:wv hs){f m t:Nat}(hf:f<hs.length-1)(ht:t≤m):((bgR hs f m t).length:Int)≤zj (xr hs) m f f:=by
 rw [←wqy hs f m t ht]
 exact qqd λr hr=>(Wc ok hf t r hr).2.2.2.2
theorem bg_len {hs:List Int}(ok:wv hs){f m:Nat}(hf:f<hs.length-1)(hm:1≤m):((bgR hs f m (m-1)).length:Int)=zj (xr hs) m f f:=by
 rw [←wqy hs f m (m-1) (by lia)]
 refine qqv λr hr=>?_
 have h:=(Wc ok hf _ r hr).2.2.2.2
 rw [show m-(m-1)=1 by lia] at h ⊢
 rw [wxn ok] at h ⊢
 unfold covT at h ⊢
 split at h
 ·next z=>rw [av z]
 ·next z=>exact absurd h (i4 0)
theorem qw7 {α:Type}(F:Nat→List α)(n:Nat):((((List.range n).flatMap F).length:Nat):Int)=ku n λk=>((F k).length:Int):=by
 induction n with
 |zero=>rfl
 |succ n ih =>
  rw [vc,←ih,cx,gf,am]
  simp
theorem wz1 {hs:List Int}(ok:wv hs){m:Nat}(hm:1≤m):((xt hs m).length:Int)=ku (hs.length-1) λf=>zj (xr hs) m f f:=by
 unfold xt
 rw [qw7]
 exact uj λf hf=>bg_len ok hf hm
def qj2 (L:List (List Int)):Prop:=L.Pairwise λa b=>vx a b=true
def ClR (hs:List Int)(m:Nat)(r:List Int):Prop:=r.length=m∧(∀x∈r,0≤x∧x<(hs.length:Int)-1)∧(∀i,i+1<m→cvr hs (r.getD i 0) (r.getD (i+1) 0))∧cvr hs (r.getD (m-1) 0) (r.getD 0 0)
theorem qjs {hs:List Int}{c:Nat→Int}{m:Nat}(hc:∀t,t<m→c (t+1)∈xr hs (c t).toNat):∀d t,t+d=m→0<zj (xr hs) d (c t).toNat (c m).toNat
 |0,t,e=>by
  obtain rfl:t=m:=by lia
  unfold zj
  rw [av rfl]
  decide
 |d+1,t,e=>by
  have ih:=qjs hc d (t+1) (by lia)
  have hm:=hc t (by lia)
  show 0<((xr hs (c t).toNat).map λv=>zj (xr hs) d v.toNat (c m).toNat).sum
  generalize xr hs (c t).toNat=l at hm
  induction l with
  |nil=>cases hm
  |cons v l ihl =>
   rw [aN,cM]
   rcases aM.mp hm with z|z
   ·rw [←z]
    have:0≤(l.map λv=>zj (xr hs) d v.toNat (c m).toNat).sum:=by
     clear ihl hm
     induction l with
     |nil=>exact c0 _
     |cons w l ih2=>rw [aN,cM];have:=Qr (xr hs) d w.toNat (c m).toNat;lia
    lia
   ·have:=ihl z
    have:=Qr (xr hs) d v.toNat (c m).toNat
    lia
theorem kn {hs:List Int}(ok:wv hs){m:Nat}(hm:1≤m){r:List Int}:r∈xt hs m↔ClR hs m r:=by
 unfold xt
 rw [List.mem_flatMap]
 constructor
 ·rintro ⟨f,hf,hr⟩
  have hf:=au.mp hf
  have b:=Wc ok hf _ r hr
  obtain ⟨e1,e2,e3⟩:=qqm b
  obtain ⟨l,h0,g,ch,p⟩:=b
  refine ⟨by lia,g,λi hi=>ch i (by lia),?_⟩
  rw [show m-(m-1)=1 by lia,wxn ok] at p
  unfold covT at p
  split at p
  ·next z =>
   rw [show (0:Int)+((r.getLastD 0).toNat:Int)=r.getLastD 0 by lia] at z
   rw [←e1,h0]
   exact z
  ·exact absurd p (i4 0)
 ·rintro ⟨l,g,ch,cl⟩
  have rg:∀i,i<m→0≤r.getD i 0∧r.getD i 0<(hs.length:Int)-1:=λi hi=>by
   rw [af,ae (by lia)]
   exact g _ (bu _)
  have r0:=rg 0 (by lia)
  have hc:∀t,t<m→(if t+1=m then r.getD 0 0 else r.getD (t+1) 0)∈xr hs ((if t=m then r.getD 0 0 else r.getD t 0)).toNat:=λt ht=>by
   rw [ao (by lia),Jn (rg t ht).1]
   split
   ·next z =>
    obtain rfl:t=m-1:=by lia
    exact mem_cov.mpr cl
   ·next z=>exact mem_cov.mpr (ch t (by lia))
  have pp:∀t,t<m→0<zj (xr hs) (m-t) (r.getD t 0).toNat (r.getD 0 0).toNat:=λt ht=>by
   have:=qjs (c:=λt=>if t=m then r.getD 0 0 else r.getD t 0) hc (m-t) t (by lia)
   rw [ao (show ¬ t=m by lia),av rfl] at this
   exact this
  have key:∀t,t<m→r.take (t+1)∈bgR hs (r.getD 0 0).toNat m t:=λt=>by
   induction t with
   |zero =>
    intro _
    have p:=pp 0 (by lia)
    unfold bgR
    rw [Nat.sub_zero] at p
    rw [av p,show (0:Int)+((r.getD 0 0).toNat:Int)=r.getD 0 0 by lia]
    match r,l with
    |[],l=>simp at l;lia
    |x::r,_=>exact .head _
   |succ t ih =>
    intro ht
    have ih:=ih (by lia)
    have et:r.take (t+1+1)=r.take (t+1)++[r.getD (t+1) 0]:=by
     rw [dr,ae (by lia),af,ae (by lia)]
     rfl
    have el:(r.take (t+1)).getLastD 0=r.getD t 0:=by
     rw [qz2 (λz=>by have:=cz List.length z;rw [ba,eB] at this;lia),ba,iK (by lia),gG,af,dE,av (by lia),af]
    rw [et]
    refine mem_allR.mpr ⟨r.take (t+1),ih,r.getD (t+1) 0,?_,aT ?_,rfl⟩
    ·rw [el,Jn (rg t (by lia)).1]
     exact mem_cov.mpr (ch t (by lia))
    ·rw [show m-1-t=m-(t+1) by lia]
     exact pp (t+1) ht
  refine ⟨(r.getD 0 0).toNat,au.mpr (by lia),?_⟩
  have:=key (m-1) (by lia)
  rw [show m-1+1=r.length by lia,bv] at this
  exact this
def Byd (e B v:Int):Prop:=(0<v∧v≤e-B)∨(v<0∧e≤v)
theorem wjq {h a x y t B v:Int}(hB:1≤B)(up:a>0→h≤y∧y+1≤h+a)(dn:a<0→h+a≤y∧y+1≤h)(nz:a≠0)(b:Byd (t-x*B) B v):Byd (h*B+a*(t-x*B)-y*B) B (a*v):=by
 generalize t-x*B=e at b ⊢
 rcases (by lia:a>0∨a<0) with z|z
 ·obtain ⟨u1,u2⟩:=up z
  rcases b with ⟨v0,v1⟩|⟨v0,v1⟩
  ·refine .inl ⟨Int.mul_pos z v0,?_⟩
   have m1:a*v≤a*(e-B):=aZ v1 (by lia)
   have m2:(y+1)*B≤(h+a)*B:=aR u2 (by lia)
   rw [iV] at m1
   rw [cu,cu,cw] at m2
   lia
  ·refine .inr ⟨gP z v0,?_⟩
   have m1:a*e≤a*v:=aZ v1 (by lia)
   have m2:h*B≤y*B:=aR u1 (by lia)
   lia
 ·obtain ⟨u1,u2⟩:=dn z
  rcases b with ⟨v0,v1⟩|⟨v0,v1⟩
  ·refine .inr ⟨Int.mul_neg_of_neg_of_pos z v0,?_⟩
   have m1:a*(e-B)≤a*v:=dZ (by lia) v1
   have m2:(h+a)*B≤y*B:=aR u1 (by lia)
   rw [iV] at m1
   rw [cu] at m2
   lia
  ·refine .inl ⟨gQ z v0,?_⟩
   have m1:a*v≤a*e:=dZ (by lia) v1
   have m2:(y+1)*B≤h*B:=aR u2 (by lia)
   rw [cu,cw] at m2
   lia
def yw (a:Nat→Int)(i:Nat):Nat→Int
 |0=>1
 |k+1=>yw a i k*a (i+k)
theorem qv5 {n:Nat}{B:Int}{c t h a:Nat→Int}(hB:1≤B)(st:∀i,i<n→t (i+1)=h i*B+a i*(t i-c i*B))(up:∀i,i<n→a i>0→h i≤c (i+1)∧c (i+1)+1≤h i+a i)(dn:∀i,i<n→a i<0→h i+a i≤c (i+1)∧c (i+1)+1≤h i)(nz:∀i,i<n→a i≠0)
  {i:Nat} {v:Int} (b:Byd (t i-c i*B) B v):∀k,i+k≤n→Byd (t (i+k)-c (i+k)*B) B (v*yw a i k)
 |0,_=>by rw [show v*yw a i 0=v from Int.mul_one v];exact b
 |k+1,hk=>by
  have ih:=qv5 hB st up dn nz b k (by lia)
  have s:=wjq hB (up (i+k) (by lia)) (dn (i+k) (by lia)) (nz (i+k) (by lia)) ih
  rw [show h (i+k)*B+a (i+k)*(t (i+k)-c (i+k)*B)=t (i+k+1) from (st (i+k) (by lia)).symm] at s
  have e:v*yw a i (k+1)=a (i+k)*(v*yw a i k):=by
   show v*(yw a i k*a (i+k))=_
   rw [←iY,eQ]
  rw [e]
  exact s
theorem xqk {n:Nat}{B:Int}{c t h a:Nat→Int}(hB:1≤B)(st:∀i,i<n→t (i+1)=h i*B+a i*(t i-c i*B))(up:∀i,i<n→a i>0→h i≤c (i+1)∧c (i+1)+1≤h i+a i)(dn:∀i,i<n→a i<0→h i+a i≤c (i+1)∧c (i+1)+1≤h i)(nz:∀i,i<n→a i≠0)
  (et:t n=t 0) (ec:c n=c 0) (ns:yw a 0 n≠1) (ns0:yw a 0 n≠0):∀i,i≤n→0≤t i-c i*B∧t i-c i*B≤B:=by
 have no:∀v,¬ Byd (t 0-c 0*B) B v:=λv b=>by
  have key:∀v,Byd (t 0-c 0*B) B v→Byd (t 0-c 0*B) B (v*yw a 0 n):=λv b=>by
   have r:=qv5 hB st up dn nz b n (by lia)
   rw [cE,et,ec] at r
   exact r
  generalize t 0-c 0*B=e at b key
  generalize yw a 0 n=s at ns ns0 key
  rcases b with ⟨v0,v1⟩|⟨v0,v1⟩
  ·rcases key (e-B) (.inl ⟨by lia,by lia⟩) with ⟨w0,w1⟩|⟨w0,w1⟩
   ·have s0:0<s:=by
     rcases (by lia:0<s∨s<0) with q|q
     ·exact q
     ·have:=gP (show 0<e-B by lia) q;lia
    have:(e-B)*2≤(e-B)*s:=aZ (by lia) (by lia)
    lia
   ·lia
  ·rcases key e (.inr ⟨by lia,by lia⟩) with ⟨w0,w1⟩|⟨w0,w1⟩
   ·lia
   ·have s0:0<s:=by
     rcases (by lia:0<s∨s<0) with q|q
     ·exact q
     ·have:=gQ (show e<0 by lia) q;lia
    have:e*s≤e*2:=dZ (by lia) (by lia)
    lia
 intro i hi
 have non:∀v,¬ Byd (t i-c i*B) B v:=λv b=>by
  have r:=qv5 hB st up dn nz b (n-i) (by lia)
  rw [show i+(n-i)=n by lia,et,ec] at r
  exact no _ r
 constructor
 ·rcases cP (t i-c i*B) 0 with z|z
  ·exact absurd (.inr ⟨z,c0 _⟩) (non (t i-c i*B))
  ·exact z
 ·rcases cP B (t i-c i*B) with z|z
  ·exact absurd (.inl ⟨by lia,c0 _⟩) (non (t i-c i*B-B))
  ·exact z
def wu (xs:List Int)(i:Nat):Int:=xs.getD (i%xs.length) 0
def u8 (hs xs:List Int)(T B:Int)(i:Nat):Int:=(wj hs (xs.take i)).1*T+(wj hs (xs.take i)).2*B
theorem jw {xs:List Int}{i:Nat}(h:i<xs.length):xs[i]?=some (wu xs i):=by
 unfold wu
 rw [eP h,af,ae h]
 rfl
theorem Wp {xs:List Int}{i:Nat}(h:i<xs.length):(qx2 xs)[i]?=some (wu xs (i+1)):=by
 rcases (by lia:i+1<xs.length∨i+1=xs.length) with z|z
 ·rw [wxz z]
  exact jw z
 ·rw [wxj z]
  unfold wu
  rw [z,Nat.mod_self,af,ae (by lia)]
  rfl
theorem y9 (hs xs:List Int)(T B:Int):u8 hs xs T B 0=T:=by
 unfold u8
 rw [gL]
 show (1:Int)*T+(0:Int)*B=T
 lia
theorem Q4 {hs xs:List Int}{T B:Int}{i:Nat}(h:i<xs.length):u8 hs xs T B (i+1)=hAt hs (wu xs i)*B+(hAt hs (wu xs i+1)-hAt hs (wu xs i))*(u8 hs xs T B i-wu xs i*B):=by
 unfold u8
 rw [jm hs (jw h)]
 unfold qyg
 dsimp only
 generalize (wj hs (xs.take i)).1=p
 generalize (wj hs (xs.take i)).2=q
 generalize hAt hs (wu xs i)=u
 generalize hAt hs (wu xs i+1)=v
 generalize wu xs i=x
 grind
theorem qxq {hs xs:List Int}:∀k:Nat,k≤xs.length→yw (λi=>hAt hs (wu xs i+1)-hAt hs (wu xs i)) 0 k=(wj hs (xs.take k)).1
 |0,_=>by rw [gL];rfl
 |k+1,h=>by
  rw [jm hs (jw (show k<xs.length by lia))]
  show yw _ 0 k*(hAt hs (wu xs (0+k)+1)-hAt hs (wu xs (0+k)))=(wj hs (xs.take k)).1*(hAt hs (wu xs k+1)-hAt hs (wu xs k))
  rw [qxq k (by lia),cE]
theorem row_in {hs xs:List Int}(c:j8 hs xs){T B:Int}(hB:1≤B)(ns:(wj hs xs).1≠1)(fx:(wj hs xs).1*T+(wj hs xs).2*B=T){i:Nat}(hi:i<xs.length) :
  wu xs i*B≤u8 hs xs T B i∧u8 hs xs T B i≤(wu xs i+1)*B:=by
 have cv:∀j,j<xs.length→covR hs (wu xs j) (wu xs (j+1)):=λj hj=>c.2 j _ _ (jw hj) (Wp hj)
 have nz:∀j,j<xs.length→hAt hs (wu xs j+1)-hAt hs (wu xs j)≠0:=λj hj=>by
  have:=(cv j hj).2
  unfold loH hiH Qs Qu at this
  split at this <;> split at this <;> lia
 have ep:yw (λi=>hAt hs (wu xs i+1)-hAt hs (wu xs i)) 0 xs.length=(wj hs xs).1:=by
  rw [qxq _ (aj _),bv]
 have p0:∀k,k≤xs.length→yw (λi=>hAt hs (wu xs i+1)-hAt hs (wu xs i)) 0 k≠0:=λk=>by
  induction k with
  |zero=>intro _ z;cases z
  |succ k ih =>
   intro hk z
   rcases Int.mul_eq_zero.mp z with z|z
   ·exact ih (by lia) z
   ·rw [cE] at z
    exact nz k (by lia) z
 have r:=xqk (n:=xs.length) (B:=B) (c:=wu xs) (t:=u8 hs xs T B) (h:=λi=>hAt hs (wu xs i)) (a:=λi=>hAt hs (wu xs i+1)-hAt hs (wu xs i)) hB (λj hj=>Q4 hj)
  (λj hj z=>by
   have:=(cv j hj).2
   have z:hAt hs (wu xs j+1)-hAt hs (wu xs j)>0:=z
   unfold loH hiH Qs Qu at this
   show hAt hs (wu xs j)≤wu xs (j+1)∧wu xs (j+1)+1≤hAt hs (wu xs j)+(hAt hs (wu xs j+1)-hAt hs (wu xs j))
   split at this <;> split at this <;> lia)
  (λj hj z=>by
   have:=(cv j hj).2
   have z:hAt hs (wu xs j+1)-hAt hs (wu xs j)<0:=z
   unfold loH hiH Qs Qu at this
   show hAt hs (wu xs j)+(hAt hs (wu xs j+1)-hAt hs (wu xs j))≤wu xs (j+1)∧wu xs (j+1)+1≤hAt hs (wu xs j)
   split at this <;> split at this <;> lia)
  nz (by rw [y9];unfold u8;rw [bv];exact fx) (by unfold wu;rw [Nat.mod_self,Nat.zero_mod]) (by rw [ep];exact ns) (p0 _ (aj _)) i (bf hi)
 rw [cu,cw]
 lia
theorem yn {t b:Int}(hb:1≤b)(g:gOf t b=1):wm t b=(t,b):=by
 unfold wm
 rw [g,iA,iA]
theorem uf {hs r:List Int}{m:Nat}(m1:1≤m)(m2:m≤12)(c:ClR hs m r):j8 hs r:=by
 obtain ⟨hl,hx,hc,he⟩:=c
 refine ⟨⟨by lia,by lia⟩,λi x y ex ey=>?_⟩
 have hi:=(ak.mp ex).1
 have gx:r.getD i 0=x:=by rw [af,ex];rfl
 refine ⟨hx x (aC ex),?_⟩
 by_cases z:i+1<r.length
 ·rw [wxz z] at ey
  have gy:r.getD (i+1) 0=y:=by rw [af,ey];rfl
  have:=hc i (by lia)
  rw [gx,gy] at this
  exact this
 ·rw [wxj (by lia)] at ey
  have gy:r.getD 0 0=y:=by rw [af,ey];rfl
  rw [show m-1=i by lia,gx,gy] at he
  exact he
theorem qqp (xs:List Int):wu xs 0=xs.getD 0 0:=by unfold wu;rw [Nat.zero_mod]
theorem wvc (xs:List Int):wu xs xs.length=wu xs 0:=by unfold wu;rw [Nat.mod_self,Nat.zero_mod]
theorem Zw (hs xs:List Int)(T B:Int):u8 hs xs T B xs.length=(wj hs xs).1*T+(wj hs xs).2*B:=by unfold u8;rw [bv]
theorem wqd {hs xs:List Int}{T B:Int}(hB:1≤B)(hx:∀i,i<xs.length→0≤wu xs i∧wu xs i<(hs.length:Int)-1)(hin:∀i,i<xs.length→wu xs i*B≤u8 hs xs T B i∧u8 hs xs T B i≤(wu xs i+1)*B):∀i,i≤xs.length→trT hs T B i=u8 hs xs T B i
 |0,_=>(y9 hs xs T B).symm
 |i+1,hi=>by
  have ih:=wqd hB hx hin i (by lia)
  obtain ⟨x0,x1⟩:=hx i (by lia)
  obtain ⟨l1,l2⟩:=hin i (by lia)
  show kf hs (trT hs T B i) B=_
  rw [ih,qqj x0 x1 hB l1 l2,Q4 (by lia)]
theorem qk3 {hs xs:List Int}(c:j8 hs xs):∀i,i<xs.length→0≤wu xs i∧wu xs i<(hs.length:Int)-1:=λi hi=>wzv c _ (aC (jw hi))
def ut (p:Int×Int):Int×Int:=if p.1>1 then wm (-p.2) (p.1-1) else wm p.2 (1-p.1)
theorem wjy {p:Int×Int}(h:p.1≠1):1≤(ut p).2∧gOf (ut p).1 (ut p).2=1∧p.1*(ut p).1+p.2*(ut p).2=(ut p).1:=by
 unfold ut
 by_cases z:p.1>1
 ·rw [av z]
  have c:=jc (t:=-p.2) (b:=p.1-1) (by lia)
  exact ⟨jq (by lia),qur (by lia),by grind⟩
 ·rw [ao z]
  have c:=jc (t:=p.2) (b:=1-p.1) (by lia)
  exact ⟨jq (by lia),qur (by lia),by grind⟩
theorem wj4 {p:Int×Int}{t b:Int}(h:p.1≠1)(hb:1≤b)(g:gOf t b=1)(e:p.1*t+p.2*b=t):ut p=(t,b):=by
 unfold ut
 by_cases z:p.1>1
 ·rw [av z,←yn hb g]
  exact (qq5 (by lia) hb).mp (by grind)
 ·rw [ao z,←yn hb g]
  exact (qq5 (by lia) hb).mp (by grind)
theorem qj6 {hs xs:List Int}(c:j8 hs xs)(ns:(wj hs xs).1≠1):zc hs (ut (wj hs xs)).1 (ut (wj hs xs)).2∧trT hs (ut (wj hs xs)).1 (ut (wj hs xs)).2 xs.length=(ut (wj hs xs)).1:=by
 obtain ⟨hB,_,fx⟩:=wjy ns
 have hin:=λi hi=>row_in c hB ns fx (i:=i) hi
 constructor
 ·obtain ⟨l1,l2⟩:=hin 0 (by have:=c.1.1;lia)
  obtain ⟨x0,x1⟩:=qk3 c 0 (by have:=c.1.1;lia)
  rw [y9] at l1 l2
  exact ⟨dM (cZ x0 (by lia)) l1,dM l2 (aR (by lia) (by lia))⟩
 ·rw [wqd hB (qk3 c) hin _ (aj _),Zw]
  exact fx
theorem qum {hs xs:List Int}(c:j8 hs xs)(a1:(wj hs xs).1=1):∀i,i<xs.length→(hAt hs (wu xs i+1)-hAt hs (wu xs i)).natAbs=1:=by
 have cv:∀j,j<xs.length→covR hs (wu xs j) (wu xs (j+1)):=λj hj=>c.2 j _ _ (jw hj) (Wp hj)
 have nz:∀j,j<xs.length→1≤(hAt hs (wu xs j+1)-hAt hs (wu xs j)).natAbs:=λj hj=>by
  have:=(cv j hj).2
  unfold loH hiH Qs Qu at this
  split at this <;> split at this <;> lia
 have st:∀j,j<xs.length→(wj hs (xs.take (j+1))).1.natAbs=(wj hs (xs.take j)).1.natAbs*(hAt hs (wu xs j+1)-hAt hs (wu xs j)).natAbs:=λj hj=>by
  rw [jm hs (jw hj)]
  unfold qyg
  dsimp only
  rw [fE]
 have low:∀j,j≤xs.length→1≤(wj hs (xs.take j)).1.natAbs:=λj=>by
  induction j with
  |zero=>intro _;rw [gL];show 1≤(1:Int).natAbs;decide
  |succ j ih =>
   intro hj
   rw [st j (by lia)]
   exact Nat.mul_le_mul (ih (by lia)) (nz j (by lia))
 have mono:∀d j,j+d=xs.length→(wj hs (xs.take j)).1.natAbs≤(wj hs (xs.take xs.length)).1.natAbs:=λd=>by
  induction d with
  |zero=>intro j e;rw [show j=xs.length by lia];exact aj _
  |succ d ih =>
   intro j e
   refine bB ?_ (ih (j+1) (by lia))
   rw [st j (by lia)]
   exact iw _ (nz j (by lia))
 have one:∀j,j≤xs.length→(wj hs (xs.take j)).1.natAbs=1:=λj hj=>by
  have h1:=low j hj
  have h2:=mono (xs.length-j) j (by lia)
  rw [bv,a1] at h2
  have:(1:Int).natAbs=1:=rfl
  lia
 intro i hi
 have:=st i hi
 rw [one i (by lia),one (i+1) (by lia)] at this
 lia
theorem wqp {hs:List Int}{k j:Int}(c:covR hs k j)(o:(hAt hs (k+1)-hAt hs k).natAbs=1):(hAt hs k=j∧hAt hs (k+1)=j+1)∨(hAt hs k=j+1∧hAt hs (k+1)=j):=by
 have:=c.2
 unfold loH hiH Qs Qu at this
 split at this <;> split at this <;> lia
theorem Zp {hs xs:List Int}(c:j8 hs xs)(a1:(wj hs xs).1=1){t b:Int}(hb:1≤b)(h1:wu xs 0*b≤t)(h2:t≤(wu xs 0+1)*b):∀i,i≤xs.length→wu xs i*b≤u8 hs xs t b i∧u8 hs xs t b i≤(wu xs i+1)*b
 |0,_=>by rw [y9];exact ⟨h1,h2⟩
 |i+1,hi=>by
  obtain ⟨l1,l2⟩:=Zp c a1 hb h1 h2 i (by lia)
  have cv:=c.2 i _ _ (jw (show i<xs.length by lia)) (Wp (show i<xs.length by lia))
  have o:=qum c a1 i (by lia)
  rw [Q4 (show i<xs.length by lia)]
  generalize u8 hs xs t b i=u at l1 l2
  rcases wqp cv o with ⟨e1,e2⟩|⟨e1,e2⟩
  ·rw [e1,e2]
   generalize wu xs (i+1)=y
   generalize wu xs i=x at l1 l2
   have e:y*b+(y+1-y)*(u-x*b)=y*b+(u-x*b):=by rw [show y+1-y=(1:Int) by lia,cw]
   rw [e,cu,cw]
   rw [cu,cw] at l2
   lia
  ·rw [e1,e2]
   generalize wu xs (i+1)=y
   generalize wu xs i=x at l1 l2
   have e:(y+1)*b+(y-(y+1))*(u-x*b)=y*b+b-(u-x*b):=by rw [show y-(y+1)=(-1:Int) by lia,cu,cw];lia
   rw [e,cu,cw]
   rw [cu,cw] at l2
   lia
theorem qug {hs xs:List Int}(c:j8 hs xs)(a1:(wj hs xs).1=1){t b:Int}(hb:1≤b)(h1:wu xs 0*b≤t)(h2:t≤(wu xs 0+1)*b):trT hs t b xs.length=t:=by
 have all:=Zp c a1 hb h1 h2
 have z:(wj hs xs).2=0:=by
  have p:=Zp c a1 (t:=wu xs 0) (b:=1) (by decide) (by lia) (by lia) xs.length (aj _)
  have q:=Zp c a1 (t:=wu xs 0+1) (b:=1) (by decide) (by lia) (by lia) xs.length (aj _)
  rw [Zw,wvc,a1] at p q
  lia
 rw [wqd hb (qk3 c) (λi hi=>all i (by lia)) _ (aj _),Zw,a1,z]
 lia
theorem wk8 {hs:List Int}{t b:Int}(h:b∣t):b∣kf hs t b:=by
 unfold kf
 exact Int.dvd_add (iz _ _) (Int.dvd_trans (Int.dvd_sub h (iz _ _)) (iz _ _))
theorem wyd {hs:List Int}{t b:Int}{i:Nat}(h:b∣trT hs t b i):∀d,b∣trT hs t b (i+d)
 |0=>h
 |d+1=>wk8 (wyd h d)
theorem wj7 {hs:List Int}(ok:wv hs){t b:Int}{m:Nat}(m1:1≤m)(m2:m≤12)(hb:1≤b)(on:zc hs t b)(nd:¬ b∣t)(bk:trT hs t b m=t) :
  ∃r,ClR hs m r∧(wj hs r).1*t+(wj hs r).2*b=t∧r.getD 0 0*b<t∧t<(r.getD 0 0+1)*b:=by
 have n0:∀i,i≤m→¬ b∣trT hs t b i:=λi hi z=>by
  have:=wyd z (m-i)
  rw [show i+(m-i)=m by lia,bk] at this
  exact nd this
 let s:Nat→Int:=λi=>trT hs t b i/b
 have sl:∀i,i≤m→s i*b<trT hs t b i∧trT hs t b i<(s i+1)*b:=λi hi=>by
  have e:=Int.mul_ediv_add_emod (trT hs t b i) b
  have e0:=bR (trT hs t b i) (show b≠0 by lia)
  have e1:=bA (trT hs t b i) (show 0<b by lia)
  have e2:trT hs t b i%b≠0:=λz=>n0 i hi (Int.dvd_of_emod_eq_zero z)
  have cm:b*(trT hs t b i/b)=s i*b:=eQ _ _
  rw [cm] at e
  rw [cu,cw]
  lia
 have sr:∀i,i≤m→0≤s i∧s i<(hs.length:Int)-1:=λi hi=>by
  obtain ⟨o1,o2⟩:=wy0 ok hb on i
  obtain ⟨l1,l2⟩:=sl i hi
  constructor
  ·exact iE o1 (by lia)
  ·by_cases z:s i<(hs.length:Int)-1
   ·exact z
   ·have:=aR (show (hs.length:Int)-1≤s i by lia) (show 0≤b by lia)
    lia
 have cv:∀i,i<m→cvr hs (s i) (s (i+1)):=λi hi=>by
  obtain ⟨x0,x1⟩:=sr i (by lia)
  obtain ⟨l1,l2⟩:=sl i (by lia)
  obtain ⟨y1,y2⟩:=sl (i+1) (by lia)
  have e:trT hs t b (i+1)=hAt hs (s i)*b+(hAt hs (s i+1)-hAt hs (s i))*(trT hs t b i-s i*b):=by
   show kf hs (trT hs t b i) b=_
   exact qqj x0 x1 hb (by lia) (by lia)
  rw [e] at y1 y2
  rw [cu,cw] at l2 y2
  generalize hx:trT hs t b i-s i*b=x at y1 y2
  have xp:0<x:=by lia
  have xb:x<b:=by lia
  generalize s (i+1)=y at y1 y2
  unfold cvr loH hiH
  generalize hAt hs (s i)=p at y1 y2
  generalize hAt hs (s i+1)=q at y1 y2
  have key:∀p q:Int,p≤q→p*b≤p*b+(q-p)*x∧p*b+(q-p)*x≤q*b:=λp q h=>by
   have a1:0≤(q-p)*x:=cZ (by lia) (by lia)
   have a2:(q-p)*x≤(q-p)*b:=aZ (by lia) (by lia)
   have a3:(q-p)*b=q*b-p*b:=iW _ _ _
   lia
  have lt_of:∀u v:Int,u*b<v*b→u<v:=λu v h=>Int.lt_of_mul_lt_mul_right h (by lia)
  rcases Int.le_total p q with h|h
  ·obtain ⟨k1,k2⟩:=key p q h
   have m1:Qs p q=p:=by unfold Qs;split <;> lia
   have m2:Qu p q=q:=by unfold Qu;split <;> lia
   rw [m1,m2]
   have g1:p<y+1:=lt_of _ _ (by rw [cu,cw];lia)
   have g2:y<q:=lt_of _ _ (by lia)
   lia
  ·obtain ⟨k1,k2⟩:=key q p h
   have m1:Qs p q=q:=by unfold Qs;split <;> lia
   have m2:Qu p q=p:=by unfold Qu;split <;> lia
   rw [m1,m2]
   have ey:p*b+(q-p)*x=q*b+(p-q)*(b-x):=by rw [iW,iW,iV,iV];lia
   have a1:0≤(p-q)*(b-x):=cZ (by lia) (by lia)
   have a2:(p-q)*(b-x)≤(p-q)*b:=aZ (by lia) (by lia)
   have a3:(p-q)*b=p*b-q*b:=iW _ _ _
   have g1:q<y+1:=lt_of _ _ (by rw [cu,cw];lia)
   have g2:y<p:=lt_of _ _ (by lia)
   lia
 have sm:s m=s 0:=by show trT hs t b m/b=t/b;rw [bk]
 have gd:∀i,i<m→((List.range m).map s).getD i 0=s i:=λi hi=>by
  rw [af,ax,br hi]
  rfl
 have len:((List.range m).map s).length=m:=by simp
 have c:ClR hs m ((List.range m).map s):=by
  refine ⟨len,λx hx=>?_,λi hi=>?_,?_⟩
  ·obtain ⟨i,hi,rfl⟩:=aO.mp hx
   exact sr i (bf (au.mp hi))
  ·rw [gd i (by lia),gd (i+1) hi]
   exact cv i (by lia)
  ·rw [gd (m-1) (by lia),gd 0 (by lia),←sm]
   have:=cv (m-1) (by lia)
   rwa [show m-1+1=m by lia] at this
 have cl:=uf m1 m2 c
 have ce:∀i,i<m→wu ((List.range m).map s) i=s i:=λi hi=>by
  unfold wu
  rw [len,eP hi,gd i hi]
 refine ⟨_,c,?_,?_,?_⟩
 ·have tt:∀i,i≤m→trT hs t b i=u8 hs ((List.range m).map s) t b i:=λi=>by
   induction i with
   |zero=>intro _;exact (y9 _ _ _ _).symm
   |succ i ih =>
    intro hi
    have ih:=ih (by lia)
    obtain ⟨x0,x1⟩:=sr i (by lia)
    obtain ⟨l1,l2⟩:=sl i (by lia)
    show kf hs (trT hs t b i) b=_
    rw [qqj x0 x1 hb (by lia) (by lia),Q4 (by rw [len];lia),ce i (by lia),ih]
  have:=tt m (aj _)
  rw [bk] at this
  have tl:=Zw hs ((List.range m).map s) t b
  rw [len] at tl
  rw [←tl]
  exact this.symm
 ·rw [gd 0 (by lia)]
  exact (sl 0 (by lia)).1
 ·rw [gd 0 (by lia)]
  exact (sl 0 (by lia)).2
def Wu (hs:List Int)(m:Nat)(p:Int×Int):Prop:=(∃r∈xt hs m,(wj hs r).1≠1∧p=ut (wj hs r))∨(p.2=1∧0≤p.1∧p.1≤(hs.length:Int)-1∧trT hs p.1 1 m=p.1)
def Wq (hs:List Int)(m:Nat)(k:Int):Prop:=∃r∈xt hs m,(wj hs r).1=1∧r.getD 0 0=k
theorem qyv {hs:List Int}(ok:wv hs){m:Nat}(m1:1≤m)(m2:m≤12){p:Int×Int}(hb:1≤p.2)(g:gOf p.1 p.2=1)(on:zc hs p.1 p.2):trT hs p.1 p.2 m=p.1↔(Wu hs m p∨∃k,Wq hs m k∧k*p.2≤p.1∧p.1≤(k+1)*p.2):=by
 constructor
 ·intro bk
  by_cases nd:p.2∣p.1
  ·have e1:p.2=1:=by
    have:=yn hb g
    have hd:=Jp (t:=p.1/p.2) (b:=1) (c:=p.2) (by decide) hb
    rw [Int.ediv_mul_cancel nd,cw] at hd
    rw [this] at hd
    have h2:=cz Prod.snd hd
    have h3:=Ws (t:=p.1/p.2) (b:=1) (by decide)
    have h2:p.2=(wm (p.1/p.2) 1).2:=h2
    lia
   refine .inl (.inr ⟨e1,on.1,?_,by rw [e1] at bk;exact bk⟩)
   have:=on.2
   rw [e1] at this
   lia
  ·obtain ⟨r,c,e,l1,l2⟩:=wj7 ok m1 m2 hb on nd bk
   have hr:=(kn ok m1).mpr c
   by_cases z:(wj hs r).1=1
   ·exact .inr ⟨_,⟨r,hr,z,rfl⟩,fF l1,fF l2⟩
   ·exact .inl (.inl ⟨r,hr,z,(wj4 z hb g e).symm⟩)
 ·rintro ((⟨r,hr,z,rfl⟩|⟨e1,_,_,bk⟩)|⟨k,⟨r,hr,z,rfl⟩,l1,l2⟩)
  ·have c:=(kn ok m1).mp hr
   have:=(qj6 (uf m1 m2 c) z).2
   rwa [c.1] at this
  ·rw [e1];exact bk
  ·have c:=(kn ok m1).mp hr
   have:=qug (uf m1 m2 c) z hb (by rw [qqp];exact l1) (by rw [qqp];exact l2)
   rwa [c.1] at this
theorem Zd {hs:List Int}(ok:wv hs){m:Nat}(m1:1≤m)(m2:m≤12){p:Int×Int}(h:Wu hs m p):1≤p.2∧gOf p.1 p.2=1∧zc hs p.1 p.2:=by
 rcases h with ⟨r,hr,z,rfl⟩|⟨e1,h0,h1,_⟩
 ·have c:=(kn ok m1).mp hr
  obtain ⟨a,b,_⟩:=wjy z
  exact ⟨a,b,(qj6 (uf m1 m2 c) z).1⟩
 ·refine ⟨by lia,?_,h0,by rw [e1];lia⟩
  rw [e1]
  have:=Ws (t:=p.1) (b:=1) (by decide)
  have:=jq (t:=p.1) (b:=1) (by decide)
  have e:=Jw (t:=p.1) (b:=1) (by decide)
  have:(1:Int)/gOf p.1 1=1:=by
   show (wm p.1 1).2=1
   lia
  rw [this] at e
  lia
end
section
variable {P:Ac}{w:Ah}{K:Aa}{mg:Str→Option Ag}{base:Heap}{qp:Aj}{qx:Aj}{qf:Aj}{qu:Aj}{qy:Aj}{qm:Aj}{qd:Aj}{qw:Aj}
def Q8 (hs:List Int):Nat→Int→Int
 |0,_=>1
 |t+1,k=>((u7 hs k).map (Q8 hs t)).sum
def crS (hs:List Int)(t:Nat):Int:=(zy (hs.length-1) λk=>Q8 hs t k).sum
theorem yb (n:Nat)(g:Nat→Int):(zy n g).length=n:=by unfold zy;rw [ag,aH]
theorem qzd (n:Nat)(g:Nat→Int):zy (n+1) g=zy n g++[g n]:=by unfold zy;rw [cx,be];rfl
theorem wu5 {n:Nat}{g:Nat→Int}{x:Int}(h0:0≤x)(h1:x<n):atI ((zy n g).map V.int) x=some (V.int (g x.toNat)):=by
 have e:((zy n g).map V.int)[x.toNat]?=some (V.int (g x.toNat)):=by
  unfold zy
  rw [ax,ax,br (by lia)]
  rfl
 have:=v6 e
 rwa [show ((x.toNat:Nat):Int)=x by lia] at this
theorem wu4 {hs:List Int}(ok:wv hs){t:Nat}(k:Int):qjz ((zy (hs.length-1) λk=>Q8 hs t k).map V.int) (some (loH hs k)) (some (hiH hs k))=((u7 hs k).map (Q8 hs t)).map V.int:=by
 obtain ⟨l0,l1,l2⟩:=lohi ok k
 have o1:=ok.1
 unfold qjz u7
 generalize loH hs k=lo at l0 l1
 generalize hiH hs k=hi at l1 l2
 obtain ⟨a,rfl⟩:=fB l0
 obtain ⟨b,rfl⟩:=fB (dM l0 l1)
 have hl:((zy (hs.length-1) λk=>Q8 hs t k).map V.int).length=hs.length-1:=by rw [ag,yb]
 rw [hl,HT.sIx_nat,HT.sIx_nat,iK (by lia),iK (by lia),bP,bP]
 refine bM λi=>?_
 rw [dE]
 rcases bn i (b-a) with z|z
 ·rw [av z,cW,ax,ax,br (by lia)]
  unfold zy
  rw [ax,br (by lia)]
  show some (V.int (Q8 hs t ((a+i:Nat):Int)))=some (V.int (Q8 hs t ((a:Int)+(i:Int))))
  rw [Int.natCast_add]
 ·rw [ao (by lia),ax,aK (by rw [aH];lia)]
  rfl
def qqr (K:Aa):Sp:=λvs H Q _=>∃(p:Aj) (hs:List Int) (m:Int),vs=[.ref p,.int m]∧SqL K H p (hs.map V.int)∧wv hs∧1≤m∧m≤12∧∀q H',Same H H'→H' q=some (.lst ((zy m.toNat λi=>crS hs (i+1)).map V.int))→Q (.ref q) H'
theorem wvk {f:Aj}{fd:Ad}(F:Fun K "_law_crowds" "_law_crowds" s__law_crowds f fd)(T:Txt K mg qp qx qf qu qy qm qd qw):FnOk P w K mg base (CXE P w) 1 f fd ["_law_heights_here","_law_most"] (qqr K):=by
 have sc:=qwb
 refine F.okX sc (λvs H Q E h=>by obtain ⟨p,hs,m,rfl,_⟩:=h;rfl) (λcdv A outer s H vs Q E hr h=>?_)
 obtain ⟨p,hs,m,rfl,hS,ok,m1,m2,k⟩:=h
 have o1:=ok.1
 have o2:=ok.2.1
 have big:(1000000:Nat)<sizeLine:=by decide
 have hlen:(hs.map V.int).length=hs.length:=ag _
 refine ⟨_,(qk (wb (i:=2) sc.nd rfl (by walk_at "loc") (ww vq (wg xu rfl T.len_ bH (qg (pv 0) qv)) qj))
   (qk (jn (i:=3) (M:=[]) sc.nd rfl (by walk_at "loc") rfl rfl (by walk_at "cap") (by walk_at "has") (by walk_at "cix") rfl (by decide +kernel) rfl (show List.Nodup (["_law_k"]:List Str) by decide +kernel) (xf rfl T.range_ (qg (pv 2) qv)) (λ_ _ _ _ _=>qj))
   (qk (wb (i:=4) sc.nd rfl (by walk_at "loc") (yk qv))
   (qk (yj bz rfl (xf rfl T.range_ (qg (pv 1) qv)) (wt (i:=5) sc.nd rfl (by walk_at "loc")) (qk (wb (i:=6) sc.nd rfl (by walk_at "loc") (yk qv))
   (qk (yj bz rfl (xf rfl T.range_ (qg (pv 2) qv)) (wt (i:=7) sc.nd rfl (by walk_at "loc")) (qk (wb (i:=8) sc.nd rfl (by walk_at "loc") (wg (jd rfl) rfl T.min_ cB (j4 (zv zk (pv 0) (pv 7) (λ_ _=>rfl)) (j4 (zv zk (pv 0) (ww xv (pv 7) qj) (λ_ _=>rfl)) qv))))
   (qh (zg (qqh cn cC cD v4 (pv 6) (vv (wg (vg (K:=K) rfl rfl) rfl T.sum_ y8 (j4 (wj9 xqj (pv 3) (wzw (pv 8)) (wzw (wg (Z6 rfl) rfl T.max_ cU (j4 (zv zk (pv 0) (pv 7) (λ_ _=>rfl)) (j4 (zv zk (pv 0) (ww xv (pv 7) qj) (λ_ _=>rfl)) qv))))) qv)) qv))))))
   (qk (wb (i:=3) sc.nd rfl (by walk_at "loc") (pv 6))
   (qh (zg (qqh cn cC cD v4 (pv 4) (vv (wg (vg (K:=K) rfl rfl) rfl T.sum_ y8 (qg (pv 3) qv)) qv))))))))
   (qh (wp (pv 4))))))),?_⟩
 refine exI rfl ⟨_,_,rfl,.inl hS,wy rfl rfl ?_⟩
 rw [hlen]
 refine exI rfl (exI rfl ⟨(by lia),(by lia),?_⟩)
 rw [show ((hs.length:Int)-1).toNat=hs.length-1 by lia]
 refine vk (λ_=>V.int 1) (by lia) (λj H2 R2 hj s2 hR2=>hR2) λb nb=>?_
 have s1:=Same.upd (o:=.lst ((List.range (hs.length-1)).map λ_=>V.int 1)) nb
 have f1:upd H b (.lst ((List.range (hs.length-1)).map λ_=>V.int 1)) b=some (.lst ((zy (hs.length-1) λ_=>1).map V.int)):=by
  rw [qb,qw1]
 generalize upd H b (.lst ((List.range (hs.length-1)).map λ_=>V.int 1))=H1 at s1 f1
 refine ⟨sz0,λq nq=>?_⟩
 have nq0:H q=none:=by
  cases e:H q with
  |none=>rfl
  |some o=>rw [s1 _ _ e] at nq;cases nq
 refine exI rfl (exI rfl ⟨(by lia),(by lia),?_⟩)
 refine k9 (λt σ H'=>Same H H'∧∃(b:Aj) (z5 z6 z7 z8:Option V),σ=[some (.ref p),some (.int m),some (.int ((hs.length:Int)-1)),some (.ref b),some (.ref q),z5,z6,z7,z8]∧H' b=some (.lst ((zy (hs.length-1) λk=>Q8 hs t k).map V.int))∧b≠q∧H' q=some (.lst ((zy t λi=>crS hs (i+1)).map V.int)))
  ⟨s1.trans (Same.upd nq),b,_,_,_,_,rfl,(Same.upd nq) _ _ f1,q8 f1 nq,qb⟩ ?_ ?_
 ·rintro t σ H2 ht ⟨s2,b,z5,z6,z7,z8,rfl,fb,bq,fq⟩
  refine ⟨sz0,λc nc=>?_⟩
  have nc0:H c=none:=by
   cases e:H c with
   |none=>rfl
   |some o=>rw [s2 _ _ e] at nc;cases nc
  have cb:b≠c:=q8 fb nc
  have cq:q≠c:=q8 fq nc
  refine exI rfl (exI rfl ⟨(by lia),(by lia),?_⟩)
  refine k9 (λi σ H'=>Same H H'∧∃(z7 z8:Option V),σ=[some (.ref p),some (.int m),some (.int ((hs.length:Int)-1)),some (.ref b),some (.ref q),some (.int ((0:Int)+t)),some (.ref c),z7,z8]∧H' b=some (.lst ((zy (hs.length-1) λk=>Q8 hs t k).map V.int))∧H' q=some (.lst ((zy t λi=>crS hs (i+1)).map V.int))∧H' c=some (.lst ((zy i λk=>Q8 hs (t+1) k).map V.int)))
   ⟨s2.trans (Same.upd nc),_,_,rfl,(Same.upd nc) _ _ fb,(Same.upd nc) _ _ fq,qb⟩ ?_ ?_
  ·rintro i σ H3 hi ⟨s3,z7,z8,rfl,fb3,fq3,fc3⟩
   have hS3:=s3.sql hS
   have a0:=at_h (hs:=hs) (k:=(0:Int)+i) (by lia) (by lia)
   have a1:=at_h (hs:=hs) (k:=(0:Int)+i+1) (by lia) (by lia)
   refine exI rfl (exI rfl (exX rfl rfl hS3 a0 (exI rfl (exI rfl (wy rfl rfl (exX rfl rfl hS3 a1 ⟨_,_,rfl,?_⟩))))))
   refine exI rfl ⟨.inl ⟨rfl,_,SqL.of fc3⟩,?_⟩
   refine exI rfl (exI rfl (exI rfl (exI rfl (exI rfl (exX rfl rfl hS3 a0 (exI rfl (exI rfl (wy rfl rfl (exX rfl rfl hS3 a1 ⟨_,_,rfl,?_⟩)))))))))
   refine exI rfl ⟨b,exI rfl ⟨SqL.of fb3,λp4 n4=>?_⟩⟩
   have eg:=wu4 (t:=t) ok ((0:Int)+i)
   have eg:qjz ((zy (hs.length-1) λk=>Q8 hs t k).map V.int) (some (Qs (hAt hs ((0:Int)+i)) (hAt hs ((0:Int)+i+1)))) (some (Qu (hAt hs ((0:Int)+i)) (hAt hs ((0:Int)+i+1))))=((u7 hs ((0:Int)+i)).map (Q8 hs t)).map V.int:=eg
   have s4:=Same.upd (H:=H3) (o:=.lst (qjz ((zy (hs.length-1) λk=>Q8 hs t k).map V.int) (some (Qs (hAt hs ((0:Int)+i)) (hAt hs ((0:Int)+i+1)))) (some (Qu (hAt hs ((0:Int)+i)) (hAt hs ((0:Int)+i+1)))))) n4
   refine ⟨p4,(u7 hs ((0:Int)+i)).map (Q8 hs t),rfl,SqL.of (by rw [←eg];exact qb),?_⟩
   have fc4:=s4 _ _ fc3
   refine ⟨c,_,_,rfl,rfl,fc4,by rw [ag,yb];lia,?_⟩
   refine ⟨Same.upd2 (s3.trans s4) nc0,_,_,rfl,?_,?_,?_⟩
   ·rw [qr cb];exact s4 _ _ fb3
   ·rw [qr cq];exact s4 _ _ fq3
   ·rw [qb,qzd,be,Int.zero_add];rfl
  ·rintro σ H3 ⟨s3,z7,z8,rfl,fb3,fq3,fc3⟩
   refine exI rfl ?_
   refine ⟨_,rfl,.inl ⟨rfl,_,SqL.of fq3⟩,_,rfl,c,_,rfl,SqL.of fc3,q,_,_,rfl,rfl,fq3,by rw [ag,yb];lia,?_⟩
   rw [tn2] at fc3
   refine ⟨Same.upd2 s3 nq0,c,_,_,_,_,rfl,?_,de cq,?_⟩
   ·rw [qr (de cq)];exact fc3
   ·rw [qb,qzd,be,tn2];rfl
 ·rintro σ H2 ⟨s2,b,z5,z6,z7,z8,rfl,fb,bq,fq⟩
  exact exI rfl (k q H2 s2 fq)
theorem wxs {hs:List Int}(ok:wv hs):∀(t:Nat) (k:Int),0≤k→k<(hs.length:Int)-1→Q8 hs t k=ku (hs.length-1) (zj (xr hs) t k.toNat)
 |0,k,h0,h1=>by
  have:=qjx (n:=hs.length-1) (i:=k.toNat) (by lia) λ_=>1
  show (1:Int)=_
  rw [←this]
  refine uj λj _=>?_
  rw [Int.mul_one]
  rfl
 |t+1,k,h0,h1=>by
  show ((u7 hs k).map (Q8 hs t)).sum=ku (hs.length-1) λj=>((xr hs k.toNat).map λv=>zj (xr hs) t v.toNat j).sum
  rw [Jn h0,←qjv (hs.length-1) (λ(v:Int) j=>zj (xr hs) t v.toNat j)]
  congr 1
  refine dP λv hv=>?_
  have:=Q2 ok k v hv
  exact wxs ok t v this.1 (by lia)
theorem wqz {hs:List Int}(ok:wv hs)(m:Nat):crS hs m=ku (hs.length-1) λi=>ku (hs.length-1) (zj (xr hs) m i):=by
 show ku (hs.length-1) _=_
 refine uj λi hi=>?_
 rw [wxs ok m (i:Int) (by lia) (by lia),bG]
theorem qvy {n:Nat}{g h:Nat→Int}(e:∀i,i<n→g i≤h i):ku n g≤ku n h:=by
 induction n with
 |zero=>exact c0 _
 |succ n ih =>
  have:=ih λi hi=>e i (by lia)
  have:=e n (by lia)
  rw [vc,vc]
  lia
theorem qkw {n i:Nat}{g:Nat→Int}(h:∀i,0≤g i)(hi:i<n):g i≤ku n g:=by
 have:=qjx hi g
 rw [←this]
 refine qvy λk _=>?_
 have:=h k
 split <;> lia
theorem pow_cr {hs:List Int}(ok:wv hs){m f:Nat}(hf:f<hs.length-1):zj (xr hs) m f f≤crS hs m:=by
 rw [wqz ok]
 refine dM (qkw (g:=zj (xr hs) m f) (Qr _ _ _) hf) (qkw (g:=λi=>ku (hs.length-1) (zj (xr hs) m i)) (λi=>?_) hf)
 have:=qvy (n:=hs.length-1) (g:=λ_=>0) (h:=zj (xr hs) m i) λj _=>Qr _ _ _ _
 rwa [Z8 _ _ λ_ _=>rfl] at this
theorem qz7 {hs:List Int}(ok:wv hs){m:Nat}(hm:1≤m):((xt hs m).length:Int)≤crS hs m:=by
 rw [wz1 ok hm,wqz ok]
 exact qvy λi hi=>qkw (Qr _ _ _) hi
def TabsAt (H:Hp)(p:Aj)(hs:List Int)(m:Nat):Prop:=∃ys,H p=some (.lst ys)∧ys.length=m+1∧∀i v,ys[i]?=some v→∃q,v=.ref q∧MatAt H q (hs.length-1) (zj (xr hs) i)
theorem TabsAt.same {H H':Hp}{p:Aj}{hs:List Int}{m:Nat}(h:TabsAt H p hs m)(s:Same H H'):TabsAt H' p hs m:=by
 obtain ⟨ys,e,l,r⟩:=h
 exact ⟨ys,s _ _ e,l,λi v z=>let ⟨q,a,b⟩:=r i v z;⟨q,a,b.same s⟩⟩
theorem TabsAt.at_ {H:Hp}{p:Aj}{hs:List Int}{m:Nat}(h:TabsAt H p hs m){t i j:Int}(t0:0≤t)(t1:t≤m)(i0:0≤i)(i1:i<(hs.length:Int)-1)(j0:0≤j)(j1:j<(hs.length:Int)-1) :
  ∃ys q zs q',H p=some (.lst ys)∧atI ys t=some (.ref q)∧H q=some (.lst zs)∧atI zs i=some (.ref q')∧H q'=some (.lst ((zy (hs.length-1) (zj (xr hs) t.toNat i.toNat)).map V.int))∧atI ((zy (hs.length-1) (zj (xr hs) t.toNat i.toNat)).map V.int) j=some (.int (zj (xr hs) t.toNat i.toNat j.toNat)):=by
 obtain ⟨ys,fp,l,r⟩:=h
 have e:ys[t.toNat]?=some ys[t.toNat]:=ae (by lia)
 obtain ⟨q,eq,M⟩:=r _ _ e
 obtain ⟨zs,fq,lz,rz⟩:=id M
 obtain ⟨q',ez,fq'⟩:=M.row fq (i:=i.toNat) (by lia)
 have a1:=v6 e
 have a2:=v6 ez
 rw [b9 t0,eq] at a1
 rw [b9 i0] at a2
 exact ⟨ys,q,zs,q',fp,a1,fq,a2,fq',wu5 j0 (by lia)⟩
theorem CovAt.at_ {H:Hp}{p:Aj}{hs:List Int}(h:CovAt H p hs){i:Int}(i0:0≤i)(i1:i<(hs.length:Int)-1):∃ys q,H p=some (.lst ys)∧atI ys i=some (.ref q)∧H q=some (.lst ((xr hs i.toNat).map V.int)):=by
 obtain ⟨ys,fp,l,r⟩:=h
 have e:ys[i.toNat]?=some ys[i.toNat]:=ae (by lia)
 obtain ⟨q,eq,f⟩:=r _ _ e
 have a1:=v6 e
 rw [b9 i0,eq] at a1
 exact ⟨ys,q,fp,a1,f⟩
def Wr:Sp:=λvs H Q _=>∃(c tb:Aj) (hs:List Int) (f m:Nat),vs=[.int ((0:Int)+f),.ref c,.ref tb]∧wv hs∧CovAt H c hs∧TabsAt H tb hs m∧f<hs.length-1∧1≤m∧m≤12∧zj (xr hs) m f f≤1000 ∧
 ∀p ys H',H p=none→Same H H'→H' p=some (.lst ys)→Tups (bgR hs f m (m-1)) ys H'→Q (.ref p) H'
theorem wuu {r:List Int}(h:r≠[]):atI (r.map V.int) (-1)=some (V.int (r.getLastD 0)):=by
 have e:r=r.dropLast++[r.getLast h]:=(eE h).symm
 rw [e,be]
 have:=Qm (r.dropLast.map V.int) (V.int (r.getLast h))
 rw [Wd]
 exact this
theorem qvc {f:Aj}{fd:Ad}(F:Fun K "rows_from" "rows_from" s_rows_from f fd)(T:Txt K mg qp qx qf qu qy qm qd qw):FnOk P w K mg base (CXE P w) 1 f fd ["first","covers","tables"] Wr:=by
 have sc:=qky
 refine F.okX sc (λvs H Q E h=>by obtain ⟨c,tb,hs,f,m,rfl,_⟩:=h;rfl) (λcdv A outer s H vs Q E hr h=>?_)
 obtain ⟨c,tb,hs,f,m,rfl,ok,hC,hT,hf,m1,m2,few,k⟩:=h
 have o1:=ok.1
 have o2:=ok.2.1
 obtain ⟨ts,ft,lt,_⟩:=id hT
 refine ⟨_,(qk (wb (i:=3) sc.nd rfl (by walk_at "loc") (ww vq (wg xu rfl T.len_ bH (qg (pv 2) qv)) qj))
   (qk (wb (i:=4) sc.nd rfl (by walk_at "loc") (qqc (wc Qj (zv zk (zv zk (zv zk (pv 2) (pv 3) (λ_ _=>rfl)) (pv 0) (λ_ _=>rfl)) (pv 0) (λ_ _=>rfl)) qj (wn _)) (yk (pa_cT (jr (qg (pv 0) qv)) qv)) (yk qv)))
   (qk (yj bz rfl (wv8 rfl T.range_ (zu (ww vq (pv 3) qj) (xw qj (pa_cU (qww W4 qj) qv)))) (wt (i:=5) sc.nd rfl (by walk_at "loc")) (qh (qkf (i:=4) (M:=[0,1,2,5]) sc.nd rfl (by walk_at "loc") rfl rfl (by walk_at "cap") (by walk_at "has") (by walk_at "cix") rfl (by decide +kernel) rfl rfl (show List.Nodup (["row","onward","first","covers","tables","left"]:List Str) by decide +kernel) (vy (pv 4)) (λ_ _ _ _ _=>(qyn (K:=K) rfl (zv (js (K:=K) rfl) (pv 3) (zv (Zv (K:=K) rfl) (pv 0) (qww W4 qj) (λ_ _=>rfl)) (λ_ _=>rfl)))) (λ_ _ _ _ _=>(wc Qj (zv (js (K:=K) rfl) (zv (js (K:=K) rfl) (zv (js (K:=K) rfl) (pv 4) (pv 5) (λ_ _=>rfl)) (pv 1) (λ_ _=>rfl)) (pv 2) (λ_ _=>rfl)) qj (wn _))) (λ_ _ _ _ _=>(ww (wyy (K:=K) rfl) (pv 0) (jr (qg (pv 1) qv)))))))
   (qh (wp (pv 4)))))),?_⟩
 refine exI rfl ⟨_,_,rfl,.inl (SqL.of ft),wy rfl rfl ?_⟩
 rw [lt]
 have em:(((m+1:Nat):Int)-1).toNat=m:=by lia
 have ef:((0:Int)+f).toNat=f:=by lia
 obtain ⟨ys,q,zs,q',e1,e2,e3,e4,e5,e6⟩:=hT.at_ (t:=((m+1:Nat):Int)-1) (i:=(0:Int)+f) (j:=(0:Int)+f) (by lia) (by lia) (by lia) (by lia) (by lia) (by lia)
 rw [em,ef] at e5 e6
 have init:∀(Pp:St→Hp→Prop),(∀p us H1,H p=none→Same H H1→H1 p=some (.lst us)→Tups (bgR hs f m 0) us H1→Pp [some (.int ((0:Int)+f)),some (.ref c),some (.ref tb),some (.int (((m+1:Nat):Int)-1)),some (.ref p),none] H1)→tAsg (tIf (wuq (tOp (rI0 λi j=>V.bl (decide (j<i))) (tOp (wwc K) (tOp (wwc K) (tOp (wwc K) (ju 2) (ju 3)) (ju 0)) (ju 0)) (tC (V.int 0)))) (tLst (vh (tTup (vh (ju 0) qq0)) qq0)) (tLst qq0)) (Zj 4) { nx:=Pp,rt:=Q } [some (.int ((0:Int)+f)),some (.ref c),some (.ref tb),some (.int (((m+1:Nat):Int)-1)),none,none] H:=by
  intro Pp hP
  refine exI rfl (exI rfl (exX rfl rfl (SqL.of e1) e2 (exI rfl (exX rfl rfl (SqL.of e3) e4 (exI rfl (exX rfl rfl (SqL.of e5) e6 (wy rfl rfl (exI rfl (jz (λz=>?_) (λz=>?_))))))))))
  ·refine exI rfl ⟨sz1,λa na=>⟨sz1,λp np=>?_⟩⟩
   have s1:=Same.upd (o:=.tup [.int ((0:Int)+f)]) na
   refine hP p _ _ (jy s1 np) (s1.trans (Same.upd np)) qb ?_
   unfold bgR
   rw [av z]
   exact .cons ⟨a,rfl,(Same.upd np) _ _ qb⟩ .nil
  ·refine ⟨sz0,λp np=>?_⟩
   refine hP p _ _ np (Same.upd np) qb ?_
   unfold bgR
   rw [ao z]
   exact .nil
 refine init _ λp us H1 np s1 fp tp=>?_
 refine exI rfl (wy rfl rfl (exI rfl ⟨_,_,rfl,(by lia),?_⟩))
 rw [show (((m+1:Nat):Int)-1-1-0).toNat=m-1 by lia]
 refine wud (λi σ H'=>Same H H'∧∃(p:Aj) (us:List V) (z:Option V),σ=[some (.int ((0:Int)+f)),some (.ref c),some (.ref tb),some (.int (((m+1:Nat):Int)-1)),some (.ref p),z]∧H p=none∧H' p=some (.lst us)∧Tups (bgR hs f m i) us H') ⟨s1,p,us,exI rfl ⟨np,fp,tp⟩⟩ ?_ ?_
 ·rintro i σ H2 hi ⟨s2,p,us,z,rfl,np,fp,tp⟩
  have bl:=wkb ok (m:=m) (t:=i) hf (by lia)
  have eg:(((m+1:Nat):Int)-1-1-i).toNat=m-1-i:=by lia
  refine exI rfl ⟨p,rfl,⟨_,SqL.of fp⟩,qyr (K:=K) (bgR hs f m i) (λr=>xr hs (r.getLastD 0).toNat) (λv=>decide (0<zj (xr hs) (m-1-i) v.toNat f)) (SqL.of fp) tp (by lia) (λr _=>quy ok _) (λr a H' R hr fa s' hR=>?_) (λr a u H' R hr hu s' hR=>?_) (λr a u H' R hr hu hc fa s' hR=>?_) λp' ys' H' np' s' f' t'=>?_⟩
  ·obtain ⟨l1,l2,l3⟩:=qqm (Wc ok hf i r hr)
   obtain ⟨vs,q1,g1,g2,g3⟩:=(hC.same s2).at_ l2 l3
   have hz:r≠[]:=λz=>by have:=(Wc ok hf i r hr).1;rw [z] at this;cases this
   exact exI rfl (exI rfl (exI rfl (exX rfl rfl (SqT.of fa) (wuu hz) (exX rfl rfl (SqL.of (s' _ _ g1)) g2 ⟨q1,rfl,⟨_,SqL.of (s' _ _ g3)⟩,hR q1 (SqL.of g3)⟩))))
  ·have ur:=Q2 ok _ u hu
   obtain ⟨vs,q1,ws,q2,g1,g2,g3,g4,g5,g6⟩:=(hT.same (s2.trans s')).at_ (t:=((m+1:Nat):Int)-1-1-i) (i:=u) (j:=(0:Int)+f) (by lia) (by lia) ur.1 (by lia) (by lia) (by lia)
   rw [eg,ef] at g6
   rw [eg] at g5
   exact exI rfl (exI rfl (exX rfl rfl (SqL.of g1) g2 (exI rfl (exX rfl rfl (SqL.of g3) g4 (exI rfl (exX rfl rfl (SqL.of g5) g6 (wy rfl rfl (exI rfl hR))))))))
  ·have lr:=(Wc ok hf i r hr).1
   have big:(1000000:Nat)<sizeLine:=by decide
   refine exI rfl (exI rfl ⟨sz1,λb nb=>?_⟩)
   have s3:=Same.upd (o:=.tup [.int u]) nb
   refine ⟨_,_,_,_,rfl,rfl,SqT.of (s3 _ _ fa),SqT.new,by rw [ag];show r.length+1≤sizeLine;lia,λz=>?_,λ_ z=>absurd z (by simp),λ_ _ p7 n7=>?_⟩
   ·have:=cz List.length z
    rw [ag,lr] at this
    cases this
   ·refine hR p7 _ (s3.trans (Same.upd n7)) ?_
    rw [qb,be]
    rfl
  ·exact ⟨s2.trans s',p',ys',exI rfl ⟨jy s2 np',f',t'⟩⟩
 ·rintro σ H2 ⟨s2,p,us,z,rfl,np,fp,tp⟩
  exact exI rfl (k p us H2 np s2 fp tp)
def qkv (C CC CT:Aj):Sp:=λvs H Q E=>∃(r:Aj) (hs:List Int) (m:Int),vs=[.ref r,.int m]∧RoadAt C H r hs∧wv hs∧1≤m∧m≤12∧(¬ crS hs m.toNat≤1000→∀H',Same H H'→E (.ref CT) none H')∧(crS hs m.toNat≤1000 →
 ∀p ys H',H p=none→Same H H'→H' p=some (.lst ys)→Tups (xt hs m.toNat) ys H'→Q (.ref p) H')
theorem wzr (hs:List Int)(m i:Nat):((List.range (i+1)).flatMap λf=>bgR hs f m (m-1))=((List.range i).flatMap λf=>bgR hs f m (m-1))++bgR hs i m (m-1):=by
 rw [cx,gf]
 simp
theorem qz1 {g:Nat→Int}(h:∀i,0≤g i){i:Nat}:∀ {n:Nat},i≤n→ku i g≤ku n g
 |0,e=>by
  obtain rfl:i=0:=by lia
  exact c0 _
 |n+1,e=>by
  rcases (by lia:i=n+1∨i≤n) with z|z
  ·subst z;exact c0 _
  ·have:=qz1 h z
   have:=h n
   rw [vc]
   lia
theorem wzs {hs:List Int}(ok:wv hs){m:Nat}(hm:1≤m){i:Nat}(h:i≤hs.length-1):((((List.range i).flatMap λf=>bgR hs f m (m-1)).length:Nat):Int)≤crS hs m:=by
 refine dM ?_ (qz7 ok hm)
 unfold xt
 rw [qw7,qw7]
 exact qz1 (λ_=>Int.natCast_nonneg _) h
theorem xwd {f:Aj}{fd:Ad}(F:Fun K "rows" "rows" s_rows f fd)(T:Txt K mg qp qx qf qu qy qm qd qw)(c_check_count:CalD P w K mg base "check_count" 1 (W7 qu))(c_ways_up_to:Cal P w K mg base "ways_up_to" 6 (qqt qw))(c_covers_of:Cal P w K mg base "covers_of" 5 (uz qw))(c_width:MCal P w K mg base qw "width" 1 (jb qw))(c_rows_from:Cal P w K mg base "rows_from" 1 Wr) :
  FnOk P w K mg base (CXE P w) 7 f fd ["road","many"] (qkv qw qu qy):=by
 have sc:=xwj
 refine F.okX sc (λvs H Q E h=>by obtain ⟨r,hs,m,rfl,_⟩:=h;rfl) (λcdv A outer s H vs Q E hr h=>?_)
 obtain ⟨r,hs,m,rfl,hR,ok,m1,m2,kx,k⟩:=h
 obtain ⟨tl,g_LONGEST_ROW⟩:=T.g_LONGEST_ROW
 obtain ⟨tw,g_MOST_WAYS⟩:=T.g_MOST_WAYS
 have o1:=ok.1
 have o2:=ok.2.1
 have big:(1000000:Nat)<sizeLine:=by decide
 refine ⟨_,(qk (zg (W6 c_check_count.all (hr.mono (by decide)) rfl qc (qg (pv 1) (xw qj (qg (Q6 (v:=V.int 12) rfl g_LONGEST_ROW ⟨_,rfl⟩) qv)))))
   (qk (wb (i:=2) sc.nd rfl (by walk_at "loc") (q9 c_ways_up_to (hr.mono (by decide)) rfl qc (qg (pv 0) (qg (pv 1) qv))))
   (qk (zf (wc Qj (wg (vg (K:=K) rfl rfl) rfl T.sum_ y8 (vw (v8 (M:=[]) rfl rfl (by walk_at "cap") (by walk_at "has") (by walk_at "cix") rfl (by decide +kernel) rfl (show List.Nodup (["counts"]:List Str) by decide +kernel) (vy (zv zk (pv 2) (pv 1) (λ_ _=>rfl))) (λ_ _ _ _ _=>(wg (vg (K:=K) rfl rfl) rfl T.sum_ y8 (qg (pv 0) qv)))) qv)) (Q6 (v:=V.int 1000) rfl g_MOST_WAYS ⟨_,rfl⟩) (wn _)) (qh (jf rfl T.x_TooLong vt rfl T.g_TooLong (xw kh qv))) xj)
   (qk (wb (i:=3) sc.nd rfl (by walk_at "loc") (q9 c_covers_of (hr.mono (by decide)) rfl qc (qg (pv 0) qv)))
   (qk (wb (i:=4) sc.nd rfl (by walk_at "loc") (yk qv))
   (qk (yj bz rfl (xf rfl T.range_ (vv (kg (pv 0) T.cl c_width (hr.mono (by decide)) qc) qv)) (wt (i:=5) sc.nd rfl (by walk_at "loc")) (qh (zg (qqh cn PySem.F.slot_list_extend PySem.F.type_list_extend wz3 (pv 4) (vv (q9 c_rows_from (hr.mono (by decide)) rfl qc (qg (pv 5) (qg (pv 3) (qg (pv 2) qv)))) qv)))))
   (qh (wp (pv 4))))))))),?_⟩
 refine ⟨_,rfl,m,1,.int 12,some 12,rfl,.inr ⟨12,rfl,rfl⟩,λ_=>?_,λhw=>absurd ⟨m1,λz e=>by cases e;exact m2⟩ hw⟩
 refine exI rfl (exI rfl ⟨r,hs,m,rfl,hR,ok,(by lia),(by lia),λtb ts H1 s1 f1 l1 g1=>?_⟩)
 have e:ts[m.toNat]?=some ts[m.toNat]:=ae (by lia)
 obtain ⟨q,eq,M⟩:=g1 _ _ e
 have ea:atI ts m=some (.ref q):=by
  have:=v6 e
  rwa [b9 (by lia),eq] at this
 obtain ⟨zs,fq,lz,rz⟩:=id M
 have tabs:TabsAt H1 tb hs m.toNat:=⟨ts,f1,l1,g1⟩
 refine exI rfl (exI rfl (exX rfl rfl (SqL.of f1) ea ⟨q,rfl,⟨_,SqL.of fq⟩,uq (K:=K) (λi v _=>v=V.int (ku (hs.length-1) (zj (xr hs) m.toNat i))) (λi v H H' p g _ _=>g) (SqL.of fq) (by lia) (λi x H2 R hx s2 hR=>?_) λp2 ys2 H2 n2 s2 f2 l2 g2=>?_⟩))
 ·obtain ⟨a,rfl,fa⟩:=rz i x hx
  exact exI rfl ⟨a,exI rfl ⟨SqL.of (s2 _ _ fa),hR _ _ (Same.refl _) rfl λb e=>nomatch e⟩⟩
 have ey:ys2=(zy (hs.length-1) λi=>ku (hs.length-1) (zj (xr hs) m.toNat i)).map V.int:=by
  refine bM λi=>?_
  by_cases z:i<hs.length-1
  ·rw [ax,qqf z,ae (by lia),(g2 i _ (ae (by lia))).1]
   rfl
  ·rw [aK (by lia),aK (by rw [ag,yb];lia)]
 rw [ey] at f2
 refine ⟨p2,exI rfl ⟨SqL.of f2,wy rfl rfl (exI rfl ?_)⟩⟩
 have ec:(zy (hs.length-1) λi=>ku (hs.length-1) (zj (xr hs) m.toNat i)).sum=crS hs m.toNat:=(wqz ok _).symm
 rw [ec]
 refine jz (λz=>⟨sz1,kx (by lia) _ (s1.trans s2)⟩) (λz=>?_)
 have few:crS hs m.toNat≤1000:=by lia
 have k:=k few
 refine exI rfl ⟨r,hs,rfl,hR.same (s1.trans s2),ok,λc H3 n3 s3 C3=>?_⟩
 refine ⟨sz0,λp np=>?_⟩
 have s4:=Same.upd (o:=.lst []) np
 have s14:=s1.trans (s2.trans (s3.trans s4))
 obtain ⟨dx,q0,h1,h2⟩:=id hR
 refine exI rfl ⟨r,dx,exI rfl ⟨s14 _ _ h1,xk (by decide +kernel),r,hs,rfl,hR.same s14,exI rfl ⟨(by lia),(by lia),?_⟩⟩⟩
 rw [show ((hs.length:Int)-1).toNat=hs.length-1 by lia]
 have np0:H p=none:=jy (s1.trans (s2.trans s3)) np
 have s13:=s1.trans (s2.trans s3)
 have T3:=tabs.same (s2.trans s3)
 refine k9 (λi σ H'=>Same H3 H'∧∃(us:List V) (z:Option V),σ=[some (.ref r),some (.int m),some (.ref tb),some (.ref c),some (.ref p),z]∧H' p=some (.lst us)∧Tups ((List.range i).flatMap λf=>bgR hs f m.toNat (m.toNat-1)) us H')
  ⟨s4,[],exI rfl ⟨qb,.nil⟩⟩ ?_ ?_
 ·rintro i σ H5 hi ⟨s5,us,z,rfl,f5,t5⟩
  have pi:=pow_cr ok (m:=m.toNat) hi
  have l5:=wzs ok (m:=m.toNat) (by lia) (i:=i) (by lia)
  have l6:=wkb ok (m:=m.toNat) (t:=m.toNat-1) hi (by lia)
  refine exI rfl ⟨.inl ⟨rfl,_,SqL.of f5⟩,exI rfl (exI rfl (exI rfl ⟨c,tb,hs,i,m.toNat,rfl,ok,C3.same s5,T3.same s5,hi,(by lia),(by lia),(by lia),λp6 ys6 H6 n6 s6 f6 t6=>?_⟩))⟩
  have lu:=t5.len
  have ly:=t6.len
  refine ⟨p,p6,us,ys6,rfl,rfl,s6 _ _ f5,f6,by lia,?_⟩
  refine ⟨Same.upd2 (s5.trans s6) np,us++ys6,exI rfl ⟨qb,?_⟩⟩
  ·rw [wzr]
   exact Paired.app ((t5.same s6).upd (s6 _ _ f5)) (t6.upd (s6 _ _ f5))
 ·rintro σ H5 ⟨s5,us,z,rfl,f5,t5⟩
  exact exI rfl (k p us H5 np0 (s13.trans s5) f5 t5)
def Zg (K:Aa)(C CB CO CC:Aj):Sp:=λvs H Q E=>∃(r p:Aj) (hs:List Int) (t b m:Int),vs=[.ref r,.ref p,.int m]∧RoadAt C H r hs∧wv hs∧SqT K H p [.int t,.int b] ∧
 (1≤b→Sm 8000 b∧(zc hs t b→(Within m 0 (some 1000)→∀q H',H q=none→Same H H'→PtsAt H' q (qj3 hs (wm t b) (m.toNat+1))→Q (.ref q) H')∧(¬ Within m 0 (some 1000)→∀H',Same H H'→E (.ref CC) none H')) ∧
  (¬ zc hs t b→∀H',Same H H'→E (.ref CO) none H'))∧(b<1→E (.ref CB) none H)
theorem wv6 {f:Aj}{fd:Ad}(F:Fun K "walked" "walked" s_walked f fd)(T:Txt K mg qp qx qf qu qy qm qd qw)(c_check_count:CalD P w K mg base "check_count" 1 (W7 qu))(c_on_road:MCal P w K mg base qw "on_road" 3 (Qw K qw qx qf))
  (c_at:MCal P w K mg base qw "at" 4 (spAt K qw qx qf)):FnOk P w K mg base (CXE P w) 5 f fd ["road","point","many"] (Zg K qw qx qf qu):=by
 have sc:=wzm
 refine F.okX sc (λvs H Q E h=>by obtain ⟨r,p,hs,t,b,m,rfl,_⟩:=h;rfl) (λcdv A outer s H vs Q E hr h=>?_)
 obtain ⟨r,p,hs,t,b,m,rfl,hR,hok,hp,kq,x⟩:=h
 obtain ⟨dx,q0,h1,h2⟩:=id hR
 obtain ⟨tm,g_MOST_WALKED⟩:=T.g_MOST_WALKED
 refine ⟨_,(qk (wb (i:=3) sc.nd rfl (by walk_at "loc") (vj (pv 0) T.cl c_on_road (hr.mono (by decide)) qc (qg (pv 1) qv)))
   (qk (zg (W6 c_check_count.all (hr.mono (by decide)) rfl qc (qg (pv 2) (xw qj (qg (Q6 (v:=V.int 1000) rfl g_MOST_WALKED ⟨_,rfl⟩) qv)))))
   (qk (wb (i:=4) sc.nd rfl (by walk_at "loc") (yk (qg (pv 3) qv)))
   (qk (Zm bz (wc wwn (wg xu rfl T.len_ bH (qg (pv 4) qv)) (pv 2) (wn _)) (qh (zg (qqh cn cC cD v4 (pv 4) (vv (vj (pv 0) T.cl c_at (hr.mono (by decide)) qc (j4 (zv zk (pv 4) (qww W4 qj) (λ_ _=>rfl)) qv)) qv)))))
   (qh (wp (pv 4))))))),?_⟩
 refine ⟨_,rfl,r,dx,_,rfl,h1,xk (by decide +kernel),_,rfl,r,p,hs,t,b,rfl,hR,hok,hp,λhb=>⟨(kq hb).1,λhon p1 H1 s1 f1=>?_,λhoff H1 s1=>(kq hb).2.2 hoff H1 s1⟩,λz=>x z⟩
 obtain ⟨sb,k1,_⟩:=kq hb
 obtain ⟨k2,k3⟩:=k1 hon
 refine ⟨_,rfl,m,0,.int 1000,some 1000,rfl,.inr ⟨1000,rfl,rfl⟩,λhw=>?_,λhw=>k3 hw _ s1⟩
 have m0:=hw.1
 have m1:=hw.2 1000 rfl
 have P0:=qut hb hon
 refine exI rfl ⟨sz1,λq nq=>?_⟩
 have nq0:H q=none:=by
  cases e:H q with
  |none=>rfl
  |some o=>rw [s1 _ _ e] at nq;cases nq
 have dq:p1≠q:=q8 f1 nq
 refine Zz (λσ H2=>∃(n:Nat) (vs:List V),σ=[some (.ref r),some (.ref p),some (.int m),some (.ref p1),some (.ref q)]∧(n:Int)≤m∧Same H1 H2∧H2 q=some (.lst vs)∧Paired (PtR H2) vs (qj3 hs (wm t b) (n+1)))
  (λ_ H2=>match H2 q with|some (.lst vs)=>(m+1).toNat-vs.length|_=>0) ⟨0,[.ref p1],rfl,by lia,Same.upd nq,qb,.cons ⟨p1,rfl,by rw [qr dq];exact f1⟩ .nil⟩ ?_ λσ H Q Q' h ⟨v,e,p',ys,e1,e2,v2,e3,i,j,e4,e5,kk,e6,qq⟩=>⟨v,e,p',ys,e1,e2,v2,e3,i,j,e4,e5,kk,e6,h _ _ qq⟩
 rintro σ H2 ⟨n,vs,rfl,hn,s2,f2,pr⟩
 have hlen:vs.length=n+1:=by rw [pr.length,y7]
 refine exI rfl ⟨_,_,rfl,.inl (SqL.of f2),exI rfl (wy rfl rfl (exI rfl ?_))⟩
 rw [hlen]
 refine jz (λq1=>?_) (λq1=>?_)
 ·have Pn:=wus hok P0 n
  obtain ⟨v,ev,⟨a,rfl,fa⟩⟩:=yf (i:=n) (b:=itP hs (wm t b) n) pr (by rw [Yh,aA (by rw [y7];exact aj _),y7];simp)
  have hlast:atI vs (-1)=some (.ref a):=by
   have hz:vs≠[]:=λz=>by rw [z] at hlen;simp at hlen
   have e1:vs=vs.dropLast++[vs.getLast hz]:=(eE hz).symm
   have e2:vs.getLast hz=.ref a:=by
    rw [iu]
    have:vs[n]?=vs[vs.length-1]?:=by rw [hlen];rfl
    rw [this,ae (by lia)] at ev
    exact aq ev
   rw [e1,e2]
   exact Qm _ _
  have s02:=s1.trans s2
  refine ⟨_,rfl,.inl ⟨rfl,_,SqL.of f2⟩,_,rfl,r,dx,_,rfl,s02 _ _ h1,xk (by decide +kernel),_,rfl,_,rfl,_,_,_,_,rfl,rfl,SqL.of f2,hlast,r,a,hs,(itP hs (wm t b) n).1,(itP hs (wm t b) n).2,rfl,hR.same s02,hok,SqT.of fa,λ_=>⟨(sb.of_le (by have:=Pn.2.1;have:=Pn.1;lia)),λ_ p3 H3 s3 f3=>?_,λz=>absurd Pn.2.2.2 z⟩,λz=>absurd Pn.1 (by lia)⟩
  have g2:=s3 _ _ f2
  refine ⟨_,_,_,rfl,rfl,g2,Y3 (by lia),⟨n+1,vs++[.ref p3],rfl,(by lia),λb o e=>?_,qb,?_⟩,?_⟩
  ·rw [qr (q8 e nq)]
   exact s3 _ _ (s2 _ _ e)
  ·rw [Yh hs (wm t b) (n+1)]
   refine Paired.snoc (qk9 (λ_ _ z=>(z.same s3).upd g2) pr) (PtR.upd ⟨p3,rfl,?_⟩ g2)
   exact f3
  ·show (match upd H3 q (.lst (vs++[.ref p3])) q with|some (.lst vs)=>(m+1).toNat-vs.length|_=>0)<(match H2 q with|some (.lst vs)=>(m+1).toNat-vs.length|_=>0)
   rw [qb,f2]
   show (m+1).toNat-(vs++[V.ref p3]).length<(m+1).toNat-vs.length
   rw [am,cf]
   lia
 ·have en:m.toNat=n:=by lia
  refine exI rfl (k2 hw q H2 nq0 (s1.trans s2) ⟨vs,f2,?_⟩)
  rw [en]
  exact pr
def Dist {α:Type}(f:Nat→α)(n:Nat):Prop:=∀i j,i<j→j<n→f i≠f j
theorem Dist.mono {α:Type}{f:Nat→α}{m n:Nat}(h:Dist f n)(le:m≤n):Dist f m:=λi j a b=>h i j a (by lia)
theorem Dist.succ {α:Type}{f:Nat→α}{n:Nat}(h:Dist f n)(h':∀j,j<n→f j≠f n):Dist f (n+1):=λi j a b=>by
 rcases (by lia:j<n∨j=n) with z|z
 ·exact h i j a z
 ·subst z
  exact h' i a
theorem xwp {t b:Int}(hb:1≤b)(g:gOf t b=1):wm t b=(t,b):=by
 unfold wm
 rw [g,iA,iA]
theorem it_tr {hs:List Int}{c:Int}{p:Int×Int}(h:Pt hs c p)(n:Nat):itP hs p n=wm (trT hs p.1 p.2 n) p.2:=by
 rw [qkq h.1,xwp h.1 h.2.2.1]
theorem xwm {x y b:Int}(hb:1≤b)(e:wm x b=wm y b):x=y:=by
 have h1:=(qzf (N:=x) hb).2
 have h2:=(qzf (N:=y) hb).2
 rw [e] at h1
 lia
theorem it_eq {hs:List Int}{c:Int}{p:Int×Int}(h:Pt hs c p)(i j:Nat):itP hs p i=itP hs p j↔trT hs p.1 p.2 i=trT hs p.1 p.2 j:=by
 rw [it_tr h,it_tr h]
 exact ⟨λe=>xwm h.1 e,λe=>by rw [e]⟩
def uc (p:Int×Int):List Key:=[.inl p.1,.inl p.2]
theorem qy8 {p q:Int×Int}(e:uc p=uc q):p=q:=by
 unfold uc at e
 simp only [List.cons.injEq,Sum.inl.injEq,and_true] at e
 exact i9 e.1 e.2
def Qq {κ:Type}(k:Nat→κ)(n:Nat):List (κ×V):=(List.range n).map λi=>(k i,V.int i)
theorem qz5 {κ:Type}(k:Nat→κ)(n:Nat):Qq k (n+1)=Qq k n++[(k n,V.int n)]:=by
 unfold Qq
 rw [cx,be]
 rfl
theorem Qk {κ:Type}(k:Nat→κ)(n:Nat):(Qq k n).length=n:=by
 unfold Qq
 rw [ag,aH]
theorem qzc {κ:Type}[DecidableEq κ]{k:Nat→κ}{q:κ}{n:Nat}(h:∀j,j<n→k j≠q):yc (Qq k n) q=none:=by
 unfold yc Qq
 rw [List.find?_eq_none.mpr]
 ·rfl
 ·intro x hx
  obtain ⟨i,hi,rfl⟩:=aO.mp hx
  simpa using h i (au.mp hi)
theorem qzr {κ:Type}[DecidableEq κ]{k:Nat→κ}{j:Nat}:∀ {n:Nat},Dist k n→j<n→yc (Qq k n) (k j)=some (.int j)
 |0,_,h=>absurd h (by lia)
 |n+1,d,h=>by
  rw [qz5,qz3 _ _ _ _ (qzc λi hi=>d i n hi (by lia))]
  rcases (by lia:j<n∨j=n) with z|z
  ·rw [ao (d j n z (by lia)),qzr (d.mono (by lia)) z]
  ·subst z
   rw [av rfl]
theorem wwt {α β γ δ:Type}{F:α→β→Prop}{G:α→γ→Prop}(g:δ→β)(f:δ→γ)(h:∀a x,F a (g x)→G a (f x)):∀ {l:List δ} {vs:List α},Paired F vs (l.map g)→Paired G vs (l.map f)
 |[],_,.nil=>.nil
 |_::_,_,.cons a t=>.cons (h _ _ a) (wwt g f h t)
def qv8 (C CT:Aj):Sp:=λvs H Q E=>∃(r a:Aj) (hs:List Int) (p:Int×Int) (c:Int),vs=[.ref r,.ref a]∧RoadAt C H r hs∧wv hs∧H a=some (.tup [.int p.1,.int p.2])∧Pt hs c p∧Sm 8000 c ∧
 (∀n u q l H',n≤1000→Dist (itP hs p) n→u<n→itP hs p n=itP hs p u→Same H H'→H l=none→H' q=some (.tup [.ref l,.int ((u:Nat):Int)])→PtsAt H' l (qj3 hs p n)→Q (.ref q) H')∧(Dist (itP hs p) 1001→∀H',Same H H'→E (.ref CT) none H')
theorem wys {f:Aj}{fd:Ad}(F:Fun K "trace" "trace" s_trace f fd)(T:Txt K mg qp qx qf qu qy qm qd qw)(c_at:MCal P w K mg base qw "at" 4 (spAt K qw qx qf)):FnOk P w K mg base (CXE P w) 5 f fd ["road","start"] (qv8 qw qy):=by
 have sc:=wyc
 refine F.okX sc (λvs H Q E h=>by obtain ⟨r,a,hs,p,c,rfl,_⟩:=h;rfl) (λcdv A outer s H vs Q E hr h=>?_)
 obtain ⟨r,a,hs,p,c,rfl,hR,hok,ha,hP,sc8,k,x⟩:=h
 obtain ⟨dx,q0,h1,h2⟩:=id hR
 obtain ⟨tm,g_LONGEST_TRACE⟩:=T.g_LONGEST_TRACE
 refine ⟨_,(qk (wb (i:=2) sc.nd rfl (by walk_at "loc") wk2)
   (qk (wb (i:=3) sc.nd rfl (by walk_at "loc") (pv 1))
   (qk (Zm bz (pt_cmp (wv4 (wyk hr) (pv 3) (pv 2))) (qk (zf (wc vf (wg qx9 rfl T.len_ bH (qg (pv 2) qv)) (Q6 (v:=V.int 1000) rfl g_LONGEST_TRACE ⟨_,rfl⟩) (wn _)) (qh (jf rfl T.x_TooLong vt rfl T.g_TooLong (xw kh qv))) xj)
   (qk (xq2 (wyk hr) (pv 2) (pv 3) (wg qx9 rfl T.len_ bH (qg (pv 2) qv)) rfl)
   (qh (wb (i:=3) sc.nd rfl (by walk_at "loc") (vj (pv 0) T.cl c_at (hr.mono (by decide)) qc (qg (pv 3) qv)))))))
   (qh (wp (jr (vv (Z7 (wqq rfl) rfl T.list_ d8 (qg (pv 2) qv)) (j4 (xqx (wyk hr) (pv 2) (pv 3) (λ_ _=>rfl)) qv)))))))),?_⟩
 refine λD nD=>exI rfl ?_
 refine Zz (λσ H2=>∃(i:Nat) (b:Aj),σ=[some (.ref r),some (.ref a),some (.ref D),some (.ref b)]∧i≤1000∧Dist (itP hs p) i∧Same H H2∧H2 D=some (.dT (Qq (λj=>uc (itP hs p j)) i))∧H2 b=some (.tup [.int (itP hs p i).1,.int (itP hs p i).2]))
  (λ_ H2=>match H2 D with|some (.dT kvs)=>1001-kvs.length|_=>0) ⟨0,a,rfl,by lia,λi j _ z=>absurd z (by lia),Same.upd nD,qb,by rw [qr (q8 ha nD)];exact ha⟩ ?_ λσ H Q Q' h ⟨v,e,v2,e2,a',o,e3,g,kk,e4,q⟩=>⟨v,e,v2,e2,a',o,e3,g,kk,e4,h _ _ q⟩
 rintro σ H2 ⟨i,b,rfl,hi,hd,s2,f2,fb⟩
 have hd':Dist (λj=>uc (itP hs p j)) i:=λu v uv vi e=>hd u v uv vi (qy8 e)
 have fb':H2 b=some (.tup ((uc (itP hs p i)).map kV)):=fb
 by_cases hj:∃j,j<i∧itP hs p j=itP hs p i
 ·obtain ⟨j,ji,je⟩:=hj
  have hv:yc (Qq (λj=>uc (itP hs p j)) i) (uc (itP hs p i))=some (.int j):=by
   rw [←je]
   exact qzr hd' ji
  have dg:DGet H2 D (.ref b) (some (.int j)):=by
   have:=DGet.t f2 fb'
   rwa [hv] at this
  refine exI rfl (exI rfl ⟨D,exI rfl ⟨dg,_,rfl,?_⟩⟩)
  refine qw4 ?_
  refine exI rfl ⟨D,exI rfl ⟨f2,λl vs nl kat=>?_⟩⟩
  have s3:=Same.upd (o:=.lst vs) nl
  have dg3:DGet (upd H2 l (.lst vs)) D (.ref b) (some (.int j)):=by
   have:=DGet.t (s3 _ _ f2) (s3 _ _ fb')
   rwa [hv] at this
  refine exI rfl (exI rfl ⟨D,exI rfl ⟨dg3,sz2,λq nq=>?_⟩⟩)
  have s4:=s3.trans (Same.upd (o:=.tup [.ref l,.int j]) nq)
  have nl0:H l=none:=by
   cases e:H l with
   |none=>rfl
   |some o=>rw [s2 _ _ e] at nl;cases nl
  refine k i j q l _ hi hd ji je.symm (s2.trans s4) nl0 qb ⟨vs,Same.upd nq _ _ qb,?_⟩
  refine wwt (l:=List.range i) (λj=>(uc (itP hs p j),V.int j)) (itP hs p) (λv j hv=>?_) kat
  obtain ⟨b',rfl,fb2⟩:=hv
  exact ⟨b',rfl,s4 _ _ fb2⟩
 ·have hn:∀j,j<i→itP hs p j≠itP hs p i:=λj a b=>hj ⟨j,a,b⟩
  have hv:yc (Qq (λj=>uc (itP hs p j)) i) (uc (itP hs p i))=none:=qzc λj a b=>hn j a (qy8 b)
  have dg:DGet H2 D (.ref b) none:=by
   have:=DGet.t f2 fb'
   rwa [hv] at this
  have hd1:=hd.succ hn
  refine exI rfl (exI rfl ⟨D,exI rfl ⟨dg,_,rfl,?_⟩⟩)
  refine Z9 ?_
  refine exI rfl ⟨D,exI rfl ⟨f2,rfl,_,rfl,?_⟩⟩
  rw [Qk]
  refine z9 (λq1=>?_) (λq1=>?_)
  ·have:i=1000:=by lia
   subst this
   exact ⟨sz1,x hd1 _ s2⟩
  ·refine exI rfl ⟨D,exI rfl ⟨f2,exI rfl (exI rfl ⟨D,exI rfl ⟨DPut.t f2 fb' (Y3 (by rw [Qk];lia)),?_⟩⟩)⟩⟩
   rw [wy3 _ hv,Qk,←qz5 (λj=>uc (itP hs p j)) i]
   have s3:Same H (upd H2 D (.dT (Qq (λj=>uc (itP hs p j)) (i+1)))):=Same.upd2 s2 nD
   have db:b≠D:=λz=>by rw [z,f2] at fb;cases fb
   have fb3:upd H2 D (.dT (Qq (λj=>uc (itP hs p j)) (i+1))) b=some (.tup [.int (itP hs p i).1,.int (itP hs p i).2]):=by rw [qr db];exact fb
   have f3:upd H2 D (.dT (Qq (λj=>uc (itP hs p j)) (i+1))) D=some (.dT (Qq (λj=>uc (itP hs p j)) (i+1))):=qb
   generalize upd H2 D (.dT (Qq (λj=>uc (itP hs p j)) (i+1)))=H3 at s3 fb3 f3
   have Pn:=wus hok hP i
   refine ⟨_,rfl,r,dx,_,rfl,s3 _ _ h1,xk (by decide +kernel),_,rfl,r,b,hs,(itP hs p i).1,(itP hs p i).2,rfl,hR.same s3,hok,SqT.of fb3,λ_=>⟨(sc8.of_le (by have:=Pn.2.1;have:=Pn.1;lia)),λ_ p4 H4 s4 f4=>?_,λz=>absurd Pn.2.2.2 z⟩,λz=>absurd Pn.1 (by lia)⟩
   refine ⟨⟨i+1,p4,rfl,by lia,hd1,s3.trans s4,s4 _ _ f3,f4⟩,?_⟩
   show (match H4 D with|some (.dT kvs)=>1001-kvs.length|_=>0)<(match H2 D with|some (.dT kvs)=>1001-kvs.length|_=>0)
   rw [s4 _ _ f3,f2]
   show 1001-(Qq (λj=>uc (itP hs p j)) (i+1)).length<1001-(Qq (λj=>uc (itP hs p j)) i).length
   rw [Qk,Qk]
   lia
def qkn (K:Aa)(C:Aj):Sp:=λvs H Q _=>∃(r p:Aj) (hs:List Int) (t b:Int),vs=[.ref r,.ref p]∧RoadAt C H r hs∧wv hs∧SqT K H p [.int t,.int b]∧(1≤b∧Sm 8000 b∧zc hs t b∧¬ Dist (itP hs (wm t b)) 1001) ∧
 ∀n u H',Same H H'→n≤1000→Dist (itP hs (wm t b)) n→u<n→itP hs (wm t b) n=itP hs (wm t b) u→Q (if u=0 then .int (n:Nat) else .non) H'
theorem wuy {f:Aj}{fd:Ad}(F:Fun K "least" "least" s_least f fd)(T:Txt K mg qp qx qf qu qy qm qd qw)(c_on_road:MCal P w K mg base qw "on_road" 3 (Qw K qw qx qf))(c_trace:Cal P w K mg base "trace" 5 (qv8 qw qy)):FnOk P w K mg base (CXE P w) 6 f fd ["road","point"] (qkn K qw):=by
 have sc:=wjw
 refine F.okX sc (λvs H Q E h=>by obtain ⟨r,p,hs,t,b,rfl,_⟩:=h;rfl) (λcdv A outer s H vs Q E hr h=>?_)
 obtain ⟨r,p,hs,t,b,rfl,hR,hok,hp,⟨hb,sb,hon,nd⟩,k⟩:=h
 obtain ⟨dx,q0,h1,h2⟩:=id hR
 refine ⟨_,(qk (yx (q9 c_trace (hr.mono (by decide)) rfl qc (qg (pv 0) (vv (vj (pv 0) T.cl c_on_road (hr.mono (by decide)) qc (qg (pv 1) qv)) qv))) (jg rfl (xg (wt (i:=2) sc.nd rfl (by walk_at "loc")) (xg (wt (i:=3) sc.nd rfl (by walk_at "loc")) v5))))
   (qh (wp (qqc (wc vf (pv 3) qj (wn _)) (wg xu rfl T.len_ bH (qg (pv 2) qv)) Yk)))),?_⟩
 refine ⟨_,rfl,_,rfl,r,dx,_,rfl,h1,xk (by decide +kernel),_,rfl,r,p,hs,t,b,rfl,hR,hok,hp,λ_=>⟨sb,λ_ p1 H1 s1 f1=>?_,λz=>absurd hon z⟩,λz=>absurd hb (by lia)⟩
 refine ⟨r,p1,hs,wm t b,b,rfl,hR.same s1,hok,f1,qut hb hon,sb,λn u q3 l3 H3 n1 d1 u1 e1 s3 _ f3 pa3=>?_,λd=>absurd d nd⟩
 obtain ⟨ws,fl,pr⟩:=pa3
 have lw:ws.length=n:=by rw [pr.length,y7]
 refine ⟨q3,exI rfl ⟨SqT.of f3,rfl,_,_,rfl,_,_,rfl,rfl,?_⟩⟩
 have fin:=k n u H3 (s1.trans s3) n1 d1 u1 e1
 refine exI rfl ⟨rfl,_,rfl,z9 (λz=>?_) (λz=>?_)⟩
 ·rw [av (by lia)] at fin
  refine exI rfl ⟨_,_,rfl,.inl (SqL.of fl),?_⟩
  rw [lw]
  exact fin
 ·rw [ao (by lia)] at fin
  exact fin
end
section
variable {P:Ac}{w:Ah}{K:Aa}{mg:Str→Option Ag}{base:Heap}{qp:Aj}{qx:Aj}{qf:Aj}{qu:Aj}{qy:Aj}{qm:Aj}{qd:Aj}{qw:Aj}
def Kp (H H':Hp):Prop:=∀b o,(∀ps,o≠HO.tbl ps)→H b=some o→H' b=some o
theorem Kp.of {H H':Hp}(s:Same H H'):Kp H H':=λb o _ e=>s b o e
theorem Kp.ofT {T:Aj}{H H':Hp}{ps:Array Ag}(hT:H T=some (.tbl ps))(s:KeepT T H H'):Kp H H':=λb o n e=>s b o (λz=>by rw [z,hT] at e;cases e;exact n _ rfl) e
theorem Kp.trans {H H' H'':Hp}(a:Kp H H')(b:Kp H' H''):Kp H H'':=λc o n e=>b c o n (a c o n e)
theorem Kp.lst {H H':Hp}(k:Kp H H'){b:Aj}{xs:List V}(e:H b=some (.lst xs)):H' b=some (.lst xs):=k b _ (λps z=>by cases z) e
theorem Kp.tup {H H':Hp}(k:Kp H H'){b:Aj}{xs:List V}(e:H b=some (.tup xs)):H' b=some (.tup xs):=k b _ (λps z=>by cases z) e
theorem Kp.none {H H':Hp}(k:Kp H H'){b:Aj}(hT:∀ps,H b=some (.tbl ps)→False)(e:H' b=.none):H b=.none:=by
 cases q:H b with
 |none=>rfl
 |some o=>rw [k b o (λps z=>hT ps (by rw [q,z])) q] at e;cases e
theorem Kp.upd {H H':Hp}{p:Aj}{o:HO}(k:Kp H H')(n:H p=.none):Kp H (L2.upd H' p o):=λb u h e=>by
 rw [qr (q8 e n)]
 exact k b u h e
theorem Kp.sql {K:Aa}{H H':Hp}{a:Aj}{xs:List V}(k:Kp H H')(h:SqL K H a xs):SqL K H' a xs:=by
 rcases h with (h|⟨o,h⟩)|h
 ·exact .inl (.inl (k.lst h))
 ·exact .inl (.inr ⟨o,k _ _ (λps z=>by cases z) h⟩)
 ·exact .inr h
def PL (H:Hp)(vs:List V)(pt:Nat→Int×Int):Prop:=∀i v,vs[i]?=some v→∃a,v=.ref a∧H a=some (.tup [.int (pt i).1,.int (pt i).2])
theorem PL.kp {H H':Hp}{vs:List V}{pt:Nat→Int×Int}(h:PL H vs pt)(k:Kp H H'):PL H' vs pt:=λi v e=>by
 obtain ⟨a,e1,e2⟩:=h i v e
 exact ⟨a,e1,k.tup e2⟩
def OkP (q:Int×Int):Prop:=1≤q.2∧Sm 150 q.1∧Sm 150 q.2
theorem vn {T:Aj}{pos:Pos}{q:Str}{H H':Hp}(h:zn T pos q H)(s:Same H H'):zn T pos q H':=by
 rcases h with h|⟨c,h1,h2⟩
 ·exact .inl (s _ _ h)
 ·exact .inr ⟨c,s _ _ h1,s _ _ h2⟩
theorem tab_wr {T p:Aj}{pos:Pos}{q:Str}{H:Hp}{xs:List V}{o:HO}(h:zn T pos q H)(hp:H p=some (.lst xs)):zn T pos q (L2.upd H p o):=by
 rcases h with h|⟨c,h1,h2⟩
 ·exact .inl (by rw [qr (λz=>by rw [z,hp] at h;cases h)];exact h)
 ·exact .inr ⟨c,by rw [qr (λz=>by rw [z,hp] at h1;cases h1)];exact h1,by rw [qr (λz=>by rw [z,hp] at h2;cases h2)];exact h2⟩
theorem wjc {T:Aj}{pos:Pos}{q:Str}{H:Hp}(h:zn T pos q H):∃ps,H T=some (.tbl ps):=by
 rcases h with h|⟨c,h,_⟩
 ·exact ⟨_,h⟩
 ·exact ⟨_,h⟩
abbrev zh:Pos:=⟨71,30,71,72⟩
abbrev j5:Str:=("ordered" : Str) ++ ".<locals>." ++ "<lambda>"
def lamOf:Stmt→Expr
 |.Return (some (.Call _ _ [⟨_,l,_⟩] _)) _=>l
 |_=>.Constant .none 0 ⟨0,0,0,0⟩
def lamA:Expr→Arguments
 |.Lambda a _ _ _=>a
 |_=>⟨[],[],none,[],[],none,[]⟩
def lamB:Expr→Expr
 |.Lambda _ b _ _=>b
 |e=>e
abbrev wy6:Expr:=lamOf ((zm s_ordered).getD 3 (.Pass ⟨0,0,0,0⟩))
theorem wuv {x y z:Str}(h:([(x,NameKind.local),(y,NameKind.free)]:List (Str×NameKind)).lookup z=some .free):z=y:=by
 rw [bo] at h
 split at h
 ·cases h
 ·rw [bo] at h
  split at h
  ·rename_i e
   simpa using e
  ·cases h
def wzq (K:Aa)(T C:Aj):Sp:=λvs H Q E=>∃(p:Aj) (xs:List V) (pt:Nat→Int×Int),vs=[.ref p]∧SqL K H p xs∧PL H xs pt∧zn T zh j5 H∧(∀i,i<xs.length→OkP (pt i))∧(∀i j,i<j→j<xs.length→(pt i).1*(pt j).2≠(pt j).1*(pt i).2)∧xs.length≤2000∧∀(l:Aj) (il:List Nat) (H':Hp),Kp H H'→zn T zh j5 H'→H l=none→il.Perm (List.range xs.length)→il.Pairwise (Wor pt)→H' l=some (.lst (il.map λi=>xs.getD i .non))→Q (.ref l) H'
theorem ok_ord {f:Aj}{fd:Ad}{cO TT:Aj}(F:FunT K "ordered" s_ordered cO f fd)(T:Txt K mg qp qx qf qu qy qm qd qw)(hB:BMain mg base)(hC:PySem.W.codeHdIn K cO TT=true)(c_check_bottom:Cal P w K mg base "check_bottom" 1 (Jm qx)) :
  FnOk P w K mg base (CXE P w) 6 f fd ["points"] (wzq K TT qx):=by
 have sc:=wq6
 have lsc:LamSc "point" "scale" ⟨.function,[("point",.local),("scale",.free)],false,false,[]⟩:=⟨rfl,rfl,rfl,rfl,rfl,by decide,λz h=>wuv h,by decide⟩
 refine F.okX sc (λvs H Q E h=>by obtain ⟨p,xs,pt,rfl,_⟩:=h;rfl) (λA outer s H vs Q E hr h=>?_)
 obtain ⟨p,xs,pt,rfl,hS,hP,hT,hok,hne,h64,k⟩:=h
 refine ⟨_,(qk (yj bz rfl (vy (pv 0)) (wt (i:=1) sc.nd rfl (by walk_at "loc")) (qh (zg (q9 c_check_bottom (hr.mono (by decide)) rfl qc (j4 (zv qxk (pv 1) qj (λ_ _=>rfl)) qv)))))
   (qk (wb (i:=2) sc.nd rfl (by walk_at "loc") (wvb (wvf rfl) rfl T.max_ cU (vw (v8 (M:=[]) rfl rfl (by walk_at "cap") (by walk_at "has") (by walk_at "cix") rfl (by decide +kernel) rfl (show List.Nodup (["point"]:List Str) by decide +kernel) (vy (pv 0)) (λ_ _ _ _ _=>(zv (Zv (K:=K) rfl) (pv 0) qj (λ_ _=>rfl)))) qv) (wx1 qj wu1)))
   (qk (wb (i:=3) sc.nd rfl (by walk_at "loc") (ww xy (pv 2) (pv 2)))
   (qh (wp (wqf (qv6 (k:=0) (params:=lamA wy6) (body:=lamB wy6) (qual:=j5) (pm:=(mg "__name__").getD .none) (x := "point") (y := "scale") (iy:=3) lsc (hr.mono (by decide)) rfl rfl rfl rfl (by intro _ _ _;rfl) (λ_ _ _ _ _ _ _=>(ww yt (ww xy (zv (Zv (K:=K) rfl) (pv 0) qj (λ_ _=>rfl)) (pv 1)) (zv (Zv (K:=K) rfl) (pv 0) qj (λ_ _=>rfl))))) rfl T.sorted_ e7 (qg (pv 0) qv) (wx1 (pe_lam hB rfl hC rfl rfl) wu1))))))),?_⟩
 refine exI rfl ⟨p,rfl,⟨_,hS⟩,wk5 (K:=K) (a:=p) (xs:=xs) (λi σ H1=>H1=H∧(∀j,j<i→1≤(pt j).2)∧∃z,σ=[some (.ref p),z,none,none]) ⟨rfl,λj h=>absurd h (by lia),_,rfl⟩ ?_ ?_ ?_⟩
 ·rintro i σ H1 _ ⟨rfl,_,_,_⟩
  exact hS
 ·rintro i y σ H1 hy ⟨rfl,hn,z,rfl⟩
  obtain ⟨a,rfl,fa⟩:=hP i y hy
  have hi:i<xs.length:=(ak.mp hy).1
  refine ⟨_,rfl,_,_,_,_,rfl,rfl,SqT.of fa,rfl,_,rfl,λh1=>⟨rfl,λj hj=>?_,_,rfl⟩,λh2=>?_⟩
  ·by_cases e:j=i
   ·rw [e];exact h1
   ·exact hn j (by lia)
  ·exact absurd (hok i hi).1 (by lia)
 ·rintro σ H1 ⟨rfl,hn,z,rfl⟩
  refine exI rfl ⟨p,rfl,⟨_,hS⟩,uq (K:=K) (a:=p) (xs:=xs) (λj v _=>v=.int (pt j).2) (λi v H H' p g _ _=>g) hS (by lia) (λi x H2 R hx hs hR=>?_) λp2 ys H2 np2 s2 f2 hl2 hG2=>?_⟩
  ·obtain ⟨a,rfl,fa⟩:=hP i x hx
   exact exI rfl (exX rfl rfl (SqT.of (hs _ _ fa)) rfl (hR _ _ (Same.refl _) rfl λb e=>nomatch e))
  have ey:ys=((List.range xs.length).map λj=>(pt j).2).map V.int:=by
   refine bM λj=>?_
   rw [bP,ax]
   by_cases hj:j<xs.length
   ·rw [br hj]
    have e:ys[j]?=some ys[j]:=ae (by lia)
    rw [e,(hG2 j _ e).1]
    rfl
   ·rw [aK (by lia),aK (by rw [aH];lia)]
    rfl
  rw [ey] at f2
  refine ⟨p2,_,1,rfl,rfl,SqL.of f2,λG hG1 hG2=>?_⟩
  have gb:∀i,i<xs.length→(pt i).2≤G:=λi hi=>hG1 _ (aO.mpr ⟨i,au.mpr hi,rfl⟩)
  have gs:Sm 150 G:=by
   rcases hG2 with h|⟨_,h⟩
   ·obtain ⟨i,hi,rfl⟩:=aO.mp h
    exact (hok i (au.mp hi)).2.2
   ·rw [h];unfold Sm;decide +kernel
  refine exI rfl (exI rfl (wy rfl rfl ⟨gs.ok gs (by decide),?_⟩))
  refine exI rfl ⟨vn hT s2,λg c' ctv H3 kT tA ng fg=>?_⟩
  obtain ⟨ps,hps⟩:=wjc (vn hT s2)
  have k3:Kp H2 H3:=Kp.ofT hps kT
  have k13:Kp H1 H3:=(Kp.of s2).trans k3
  have P3:=hP.kp k13
  refine ⟨p,xs,(List.range xs.length).map (λi=>Yq (G*G) (pt i)),g,c',ctv,.int (G*G),rfl,rfl,k13.sql hS,(by lia),?_,by rw [ag,aH],fg,tA.2,rfl,λi v hv=>?_,λl il nl st=>?_⟩
  ·refine bb.mpr λi j hi hj hij=>?_
   rw [ag,aH] at hi hj
   simp only [fM,List.getElem_range]
   intro z
   have w:=qu9 (hok i hi).1 (hok j hj).1 (gb i hi) (gb j hj) (.inr ⟨z,hij⟩)
   have w':=λh=>qu9 (pt:=pt) (i:=j) (j:=i) (hok j hj).1 (hok i hi).1 (gb j hj) (gb i hi) h
   rcases w with w|⟨w,_⟩
   ·exact i4 _ (by have:=wxw (hok i hi).1 (hok j hj).1 (gb i hi) (gb j hj) w;rw [z] at this;exact this)
   ·exact hne i j hij hj w
  ·obtain ⟨a,rfl,fa⟩:=P3 i v hv
   have hi:i<xs.length:=(ak.mp hv).1
   obtain ⟨o1,o2,o3⟩:=hok i hi
   refine exI rfl (exX rfl rfl (SqT.of fa) rfl (exI rfl (wy rfl rfl ⟨o2.ok (gs.mul gs) (by decide),exI rfl (exX rfl rfl (SqT.of fa) rfl (wy rfl rfl ⟨⟨by lia,o3.mono (by decide)⟩,?_,rfl⟩))⟩)))
   rw [af,ax,br hi]
   rfl
  ·have hlT:∀ps,H1 l=some (.tbl ps)→False:=λps e=>by
    obtain ⟨ps2,e2⟩:=wjc hT
    have:H3 l=none:=nl
    by_cases h:l=TT
    ·rw [h,tA.1] at this;cases this
    ·rw [kT l _ h (s2 _ _ e)] at this;cases this
   have n1:H1 l=none:=k13.none hlT nl
   refine k l il _ (k13.upd n1) (vn (.inr ⟨c',tA⟩) (Same.upd nl)) n1 st.1 ?_ qb
   refine st.2.imp_of_mem λ{i j} hi hj h=>?_
   have hi':i<xs.length:=au.mp (st.1.mem_iff.mp hi)
   have hj':j<xs.length:=au.mp (st.1.mem_iff.mp hj)
   have e:∀i,i<xs.length→((List.range xs.length).map λi=>Yq (G*G) (pt i)).getD i 0=Yq (G*G) (pt i):=λi h=>by
    rw [af,ax,br h];rfl
   rw [e i hi',e j hj'] at h
   exact qu9 (hok i hi').1 (hok j hj').1 (gb i hi') (gb j hj') h
end
section
variable {P:Ac}{w:Ah}{K:Aa}{mg:Str→Option Ag}{base:Heap}{qp:Aj}{qx:Aj}{qf:Aj}{qu:Aj}{qy:Aj}{qm:Aj}{qd:Aj}{qw:Aj}
def inK (p:Int×Int)(k:Int):Bool:=decide (k*p.2≤p.1∧p.1≤(k+1)*p.2)
def Wb (ws:List Int)(p:Int×Int):Bool:=ws.any (inK p)
def liesV (p:Int×Int):V→V
 |.int k=>.bl (inK p k)
 |_=>.non
def quh (K:Aa):Sp:=λvs H Q _=>∃(a q:Aj) (p:Int×Int) (ws:List Int),vs=[.ref a,.ref q]∧SqT K H a [.int p.1,.int p.2]∧SqL K H q (ws.map V.int)∧ws.length≤1000∧(∀k∈ws,0≤k∧k<24)∧∀H',Same H H'→Q (.bl (Wb ws p)) H'
theorem xwk {f:Aj}{fd:Ad}(F:Fun K "lies_in" "lies_in" s_lies_in f fd)(T:Txt K mg qp qx qf qu qy qm qd qw):FnOk P w K mg base (CXE P w) 1 f fd ["point","stretches"] (quh K):=by
 have sc:=wwd
 refine F.okX sc (λvs H Q E h=>by obtain ⟨a,q,p,ws,rfl,_⟩:=h;rfl) (λcdv A outer s H vs Q E hr h=>?_)
 obtain ⟨a,q,p,ws,rfl,hA,hQ,hl,hw,k⟩:=h
 refine ⟨_,(qk (yx (pv 0) (jg rfl (xg (wt (i:=2) sc.nd rfl (by walk_at "loc")) (xg (wt (i:=3) sc.nd rfl (by walk_at "loc")) v5))))
   (qh (wp (wg (qxp (K:=K) rfl rfl) rfl T.any_ PyProof.Rows.boot_any (vw (v8 (M:=[2,3]) rfl rfl (by walk_at "cap") (by walk_at "has") (by walk_at "cix") rfl (by decide +kernel) rfl (show List.Nodup (["stretch","top","bottom"]:List Str) by decide +kernel) (vy (pv 1)) (λ_ _ _ _ _=>(wj0 (Q3 wxx (pv 1) (ww xy (pv 0) (pv 2)) (wn _)) (wqg (Q3 wwn (pv 1) (ww xy (ww xv (pv 0) qj) (pv 2)) (wn _)))))) qv))))),?_⟩
 refine exI rfl ⟨a,exI rfl ⟨hA,rfl,_,_,rfl,_,_,rfl,rfl,?_⟩⟩
 refine exI rfl ⟨q,rfl,⟨_,hQ⟩,wq5 (K:=K) (liesV p) (λx b z=>by cases x <;> cases z) hQ (by rw [ag];lia) (λx H' R hx hs hR=>?_) λp2 H2 np s2 f2=>?_⟩
 ·obtain ⟨i,hi,rfl⟩:=aO.mp hx
  obtain ⟨i0,i1⟩:=hw i hi
  have m1:∀x:Int,IntMulOk i x:=λx=>IntMulOk.of_left (intBits_le_64 (by lia) (by lia))
  have m2:∀x:Int,IntMulOk (i+1) x:=λx=>IntMulOk.of_left (intBits_le_64 (by lia) (by lia))
  refine exI rfl (exI rfl (exI rfl (wy rfl rfl ⟨m1 _,wy rfl rfl (exI rfl ?_)⟩)))
  have fin:R (.bl (decide (i*p.2≤p.1∧p.1≤(i+1)*p.2))) H':=hR H' (Same.refl _)
  refine jz (λz=>?_) (λz=>?_)
  ·refine exI rfl (exI rfl (wy rfl rfl (exI rfl (wy rfl rfl ⟨m2 _,wy rfl rfl ?_⟩))))
   have e:decide (i*p.2≤p.1∧p.1≤(i+1)*p.2)=decide (p.1≤(i+1)*p.2):=by
    by_cases y:p.1≤(i+1)*p.2
    ·rw [aT y,aT ⟨z,y⟩]
    ·rw [bp y,bp (λw=>y w.2)]
   rw [e] at fin
   exact fin
  ·rw [bp (λw=>z w.1)] at fin
   exact fin
 ·have e:(ws.map V.int).map (liesV p)=(ws.map (inK p)).map V.bl:=by
   rw [bP,bP]
   rfl
  rw [e] at f2
  refine ⟨p2,exI rfl ⟨SqL.of f2,?_⟩⟩
  have e2:(ws.map (inK p)).any id=Wb ws p:=by
   unfold Wb
   rw [List.any_map]
   rfl
  rw [e2]
  exact k _ s2
def qz4 (hs:List Int)(m:Nat):List (Int×Int):=((List.range hs.length).filter λc:Nat=>decide (itP hs ((0:Int)+c,1) m=((0:Int)+c,1))).map λc:Nat=>((0:Int)+c,(1:Int))
def qvs (C:Aj):Sp:=λvs H Q _=>∃(r:Aj) (hs:List Int) (m:Int),vs=[.ref r,.int m]∧RoadAt C H r hs∧wv hs∧1≤m∧m≤12∧∀p ys H',H p=none→Same H H'→H' p=some (.lst ys)→Paired (PtR H') ys (qz4 hs m.toNat)→Q (.ref p) H'
theorem quj {H H':Hp}{v:V}{p:Int×Int}(h:PtR H v p)(k:∀b o,(∀xs,o≠HO.lst xs)→H b=some o→H' b=some o):PtR H' v p:=by
 obtain ⟨a,e,f⟩:=h
 exact ⟨a,e,k a _ (λxs z=>by cases z) f⟩
theorem low1 (x:Int):wm x 1=(x,1):=by
 have h1:=jq (t:=x) (b:=1) (by decide)
 have h2:=Ws (t:=x) (b:=1) (by decide)
 have h3:=jc (t:=x) (b:=1) (by decide)
 have e2:(wm x 1).2=1:=by lia
 rw [e2] at h3
 exact i9 (by lia) e2
theorem yh {α β:Type}{R:α→β→Prop}{f:Nat→α}{g:Nat→β}:∀ {l:List Nat},(∀i∈l,R (f i) (g i))→Paired R (l.map f) (l.map g)
 |[],_=>.nil
 |i::l,h=>.cons (h i (.head _)) (yh λj hj=>h j (.tail _ hj))
theorem wy2 {f:Aj}{fd:Ad}(F:Fun K "corners_back" "corners_back" s_corners_back f fd)(T:Txt K mg qp qx qf qu qy qm qd qw)(c_width:MCal P w K mg base qw "width" 1 (jb qw))(c_walked:Cal P w K mg base "walked" 5 (Zg K qw qx qf qu)) :
  FnOk P w K mg base (CXE P w) 6 f fd ["road","many"] (qvs qw):=by
 have sc:=Ju
 refine F.okX sc (λvs H Q E h=>by obtain ⟨r,hs,m,rfl,_⟩:=h;rfl) (λcdv A outer s H vs Q E hr h=>?_)
 obtain ⟨r,hs,m,rfl,hR,ok,m1,m2,k⟩:=h
 have o1:=ok.1
 have o2:=ok.2.1
 obtain ⟨dx,q0,h1,h2⟩:=id hR
 refine ⟨_,(qk (jn (i:=2) (M:=[]) sc.nd rfl (by walk_at "loc") rfl rfl (by walk_at "cap") (by walk_at "has") (by walk_at "cix") rfl (by decide +kernel) rfl (show List.Nodup (["corner"]:List Str) by decide +kernel) (xf rfl T.range_ (zu (ww xv (kg (pv 0) T.cl c_width (hr.mono (by decide)) qc) qj) qv)) (λ_ _ _ _ _=>(jr (qg (pv 0) (xw qj qv)))))
   (qh (wp (qqs (M:=[0,1]) rfl rfl (by walk_at "cap") (by walk_at "has") (by walk_at "cix") rfl (by decide +kernel) rfl (show List.Nodup (["corner","road","many"]:List Str) by decide +kernel) (vy (pv 2)) (λ_ _ _ _ _=>(wc (xwc (K:=K) rfl hr.units) (zv (js (K:=K) rfl) (q9 c_walked (hr.mono (by decide)) rfl Yp (qg (pv 1) (qg (pv 0) (qg (pv 2) qv)))) (pv 2) (λ_ _=>rfl)) (pv 0) (wn _))) (λ_ _ _ _ _=>(pv 0)))))),?_⟩
 refine exI rfl ⟨r,dx,exI rfl ⟨h1,xk (by decide +kernel),r,hs,rfl,hR,wy rfl rfl (exI rfl ⟨(by lia),(by lia),?_⟩)⟩⟩
 rw [show ((hs.length:Int)-1+1).toNat=hs.length by lia]
 refine qyy (λi v H=>PtR H v ((0:Int)+i,1)) (λi v H1 H2 g st=>quj g st) (by lia) (λi H' R hi s' hR'=>?_) λp1 ys1 H1 n1 s1 f1 l1 g1=>?_
 ·exact exI rfl ⟨sz2,λp np=>hR' _ _ (Same.upd np) ⟨p,rfl,qb⟩⟩
 refine exI rfl ⟨p1,rfl,⟨_,SqL.of f1⟩,W1 (K:=K) (λi=>decide (itP hs ((0:Int)+i,1) m.toNat=((0:Int)+i,1))) (SqL.of f1) (by lia) (λi x H2 R hx s2 hR2=>?_) (λi x H2 R hx _ s2 hR2=>?_) λp3 H3 n3 s3 f3=>?_⟩
 ·obtain ⟨a,rfl,fa⟩:=g1 i x hx
  have hi:i<hs.length:=by rw [←l1];exact (ak.mp hx).1
  have fa2:=s2 _ _ fa
  have s02:=s1.trans s2
  have on:zc hs ((0:Int)+i) 1:=⟨by lia,by lia⟩
  refine ⟨_,rfl,_,rfl,_,rfl,r,a,hs,(0:Int)+i,1,m,rfl,hR.same s02,ok,SqT.of fa2,λ_=>⟨Sm.small (by lia) (by lia) (by decide),λ_=>⟨λ_ q H4 nq s4 P4=>?_,λz=>absurd ⟨by lia,λy e=>by cases e;lia⟩ z⟩,λz=>absurd on z⟩,λz=>absurd z (by decide)⟩
  rw [low1] at P4
  obtain ⟨vs4,f4,pr4⟩:=P4
  obtain ⟨v,ev,⟨b,rfl,fb⟩⟩:=yf (i:=m.toNat) (b:=itP hs ((0:Int)+i,1) m.toNat) pr4 (by rw [Yh,aA (by rw [y7];exact aj _),y7];simp)
  have ea:atI vs4 m=some (.ref b):=by
   have:=v6 ev
   rwa [b9 (by lia)] at this
  refine exI rfl (exX rfl rfl (SqL.of f4) ea (exI rfl ?_))
  refine ⟨ptD _,ptD ((0:Int)+i,1),rd_pt (SqT.of fb),rd_pt (SqT.of (s4 _ _ fa2)),rfl,rfl,dep_pt,?_⟩
  refine exI rfl ?_
  show R (PyData.eqv (ptD (itP hs ((0:Int)+i,1) m.toNat)) (ptD ((0:Int)+i,1))) H4
  rw [eqv_pt]
  exact hR2 _ s4
 ·exact exI rfl (hR2 _ (Same.refl _))
 ·refine k p3 _ H3 (jy s1 n3) (s1.trans s3) f3 ?_
  unfold y6 qz4
  rw [l1]
  refine yh λi hi=>?_
  have hi':i<ys1.length:=by rw [l1];exact au.mp (bF.mp hi).1
  have e:ys1[i]?=some (ys1.getD i .non):=by rw [af,ae hi'];rfl
  exact (g1 i _ e).same s3
end
section
variable {P:Ac}{w:Ah}{K:Aa}{mg:Str→Option Ag}{base:Heap}{qp:Aj}{qx:Aj}{qf:Aj}{qu:Aj}{qy:Aj}{qm:Aj}{qd:Aj}{qw:Aj}
def two (p:Int×Int):List Int:=[p.1,p.2]
theorem xxy {p q:Int×Int}(h:two p=two q):p=q:=by
 unfold two at h
 exact i9 (h9 h).1 (h9 (h9 h).2).1
theorem vd {α:Type}{l:List α}{i:Nat}{x d:α}(h:l[i]?=some x):l.getD i d=x:=by rw [af,h];rfl
def qz0 (hs:List Int)(m:Nat):List (Int×Int):=(((List.range (xt hs m).length).filter λi=>!decide ((wj hs ((xt hs m).getD i [])).1=1)).map λi=>ut (wj hs ((xt hs m).getD i [])))++qz4 hs m
theorem wuw {hs:List Int}(ok:wv hs){m:Nat}{p:Int×Int}:p∈qz4 hs m↔(p.2=1∧0≤p.1∧p.1≤(hs.length:Int)-1∧trT hs p.1 1 m=p.1):=by
 have o1:=ok.1
 have tl:∀t:Int,itP hs (t,1) m=(trT hs t 1 m,1):=λt=>by
  have:=qkq (hs:=hs) (t:=t) (b:=1) (by decide) m
  rw [low1,low1] at this
  exact this.symm
 unfold qz4
 rw [aO]
 constructor
 ·rintro ⟨c,hc,rfl⟩
  obtain ⟨h1,h2⟩:=bF.mp hc
  have h1:=au.mp h1
  have h2:=cg h2
  rw [tl] at h2
  refine ⟨rfl,?_,?_,(Prod.ext_iff.mp h2).1⟩
  ·show (0:Int)≤0+c
   lia
  ·show (0:Int)+c≤_
   lia
 ·rintro ⟨h1,h2,h3,h4⟩
  refine ⟨p.1.toNat,bF.mpr ⟨au.mpr (by lia),?_⟩,i9 (by show (0:Int)+(p.1.toNat:Int)=p.1;lia) h1.symm⟩
  rw [show (0:Int)+(p.1.toNat:Int)=p.1 by lia,tl,h4]
  exact aT rfl
theorem qkb {hs r:List Int}{m:Nat}(h:r∈xt hs m):∃i,i<(xt hs m).length∧(xt hs m).getD i []=r:=by
 obtain ⟨i,hi,e⟩:=dw h
 exact ⟨i,hi,by rw [af,ae hi,e];rfl⟩
theorem Zn {hs:List Int}{m i:Nat}(h:i<(xt hs m).length):(xt hs m).getD i []∈xt hs m:=by
 rw [af,ae h]
 exact bu h
theorem quv {hs:List Int}(ok:wv hs){m:Nat}{p:Int×Int}:p∈qz0 hs m↔Wu hs m p:=by
 unfold qz0 Wu
 rw [aU,wuw ok,aO]
 refine or_congr ?_ Iff.rfl
 constructor
 ·rintro ⟨i,hi,rfl⟩
  obtain ⟨h1,h2⟩:=bF.mp hi
  refine ⟨_,Zn (au.mp h1),λz=>?_,rfl⟩
  rw [z] at h2
  cases h2
 ·rintro ⟨r,hr,h1,rfl⟩
  obtain ⟨i,hi,rfl⟩:=qkb hr
  exact ⟨i,bF.mpr ⟨au.mpr hi,by rw [bp h1];rfl⟩,rfl⟩
theorem qwc {hs:List Int}(ok:wv hs){m:Nat}(m1:1≤m)(m2:m≤12){p:Int×Int}(h:Wu hs m p):OkP p:=by
 obtain ⟨hb,_,on⟩:=Zd ok m1 m2 h
 have o2:=ok.2.1
 have key:p.2≤36520347436056577:=by
  rcases h with ⟨r,hr,z,rfl⟩|⟨e1,_⟩
  ·have c:=(kn ok m1).mp hr
   have ab:=Yr ok (xs:=r) r.length
   rw [bv,c.1] at ab
   have ab:(wj hs r).1.natAbs≤24 ^ 12:=bB ab (cX (by decide) m2)
   have p12:(24:Nat) ^ 12=36520347436056576:=by decide
   rw [p12] at ab
   unfold ut
   split
   ·have:=Ws (t:=-(wj hs r).2) (b:=(wj hs r).1-1) (by lia)
    lia
   ·have:=Ws (t:=(wj hs r).2) (b:=1-(wj hs r).1) (by lia)
    lia
  ·lia
 have top:p.1≤24*p.2:=dM on.2 (aR (by lia) (by lia))
 have t0:=on.1
 exact ⟨hb,Sm.small (by lia) (by lia) (by decide),Sm.small (by lia) (by lia) (by decide)⟩
theorem qvh {hs:List Int}(ok:wv hs){m:Nat}(m1:1≤m){i:Nat}(h:i<(xt hs m).length):0≤((xt hs m).getD i []).getD 0 0∧((xt hs m).getD i []).getD 0 0<(hs.length:Int)-1:=by
 have c:=(kn ok m1).mp (Zn h)
 refine c.2.1 _ ?_
 have l:0<((xt hs m).getD i []).length:=by rw [c.1];lia
 generalize (xt hs m).getD i []=r at l
 rw [af,ae l]
 exact bu l
structure BackOf (hs:List Int)(m:Nat)(pts:List (Int×Int))(ws:List Int):Prop where
 wup:ws.Pairwise (·<·)
 wmem:∀v,v∈ws↔Wq hs m v
 pup:pts.Pairwise λp q=>p.1*q.2<q.1*p.2
 pmem:∀p,p∈pts↔(Wu hs m p∧Wb ws p=false)
 wfew:ws.length≤24
 pfew:pts.length≤1025
def qvt (C CT TT:Aj):Sp:=λvs H Q E=>∃(r:Aj) (hs:List Int) (m:Int),vs=[.ref r,.int m]∧RoadAt C H r hs∧wv hs∧1≤m∧m≤12∧(¬ crS hs m.toNat≤1000→∀H',Same H H'→E (.ref CT) none H')∧zn TT zh j5 H∧(crS hs m.toNat≤1000 →
 ∀(a lp lw:Aj) (ys:List V) (pts:List (Int×Int)) (ws:List Int) (H':Hp),Kp H H'→zn TT zh j5 H'→H' a=some (.tup [.ref lp,.ref lw])→H' lp=some (.lst ys)→Paired (PtR H') ys pts→H' lw=some (.lst (ws.map V.int))→BackOf hs m.toNat pts ws→Q (.ref a) H')
theorem quz {H:Hp}:∀ {ys:List V} {ps:List (Int×Int)},Paired (PtR H) ys ps→Tups (ps.map two) ys H
 |_,_,.nil=>.nil
 |_,_,.cons ⟨a,e,f⟩ t=>.cons ⟨a,e,f⟩ (quz t)
theorem xw2 {H:Hp}{ps:List (Int×Int)}{ys:List V}{L:List (List Int)}(h:Tups L ys H)(e:L=ps.map two):Paired (PtR H) ys ps:=by
 subst e
 induction ps generalizing ys with
 |nil=>cases h;exact .nil
 |cons p ps ih =>
  cases h with
  |cons r t=>exact .cons r (ih t)
theorem qwy {ps:List (Int×Int)}:∀ {L:List (List Int)},(∀x∈L,x∈ps.map two)→∃qs:List (Int×Int),L=qs.map two∧∀q∈qs,q∈ps
 |[],_=>⟨[],rfl,λq h=>by cases h⟩
 |x::L,h=>by
  obtain ⟨p,hp,e⟩:=aO.mp (h x (.head _))
  obtain ⟨qs,e2,h2⟩:=qwy (L:=L) λy hy=>h y (.tail _ hy)
  refine ⟨p::qs,by rw [e2,←e];rfl,λq hq=>?_⟩
  rcases aM.mp hq with rfl|hq
  ·exact hp
  ·exact h2 q hq
theorem wv7 {l:List Int}(h:l.Pairwise (·≤·))(nd:l.Nodup):l.Pairwise (·<·):=by
 refine List.Pairwise.imp₂ (λa b h1 h2=>?_) h nd
 have:a≠b:=h2
 lia
theorem xxb {f:Aj}{fd:Ad}{TT:Aj}(F:Fun K "back" "back" s_back f fd)(T:Txt K mg qp qx qf qu qy qm qd qw)(c_rows:Cal P w K mg base "rows" 7 (qkv qw qu qy))(c_fixed_point:Cal P w K mg base "fixed_point" 5 (qvb K qw))(c_corners_back:Cal P w K mg base "corners_back" 6 (qvs qw))(c_lies_in:Cal P w K mg base "lies_in" 1 (quh K))(c_ordered:Cal P w K mg base "ordered" 6 (wzq K TT qx)) :
  FnOk P w K mg base (CXE P w) 8 f fd ["road","many"] (qvt qw qy TT):=by
 have sc:=xqt
 refine F.okX sc (λvs H Q E h=>by obtain ⟨r,hs,m,rfl,_⟩:=h;rfl) (λcdv A outer s H vs Q E hr h=>?_)
 obtain ⟨r,hs,m,rfl,hR,ok,m1,m2,kx,hT,k⟩:=h
 have o1:=ok.1
 have o2:=ok.2.1
 have big:(1000000:Nat)<sizeLine:=by decide
 have n1:1≤m.toNat:=by lia
 have n2:m.toNat≤12:=by lia
 have rl:=qz7 ok n1
 have clr:∀x∈xt hs m.toNat,ClR hs m.toNat x:=λx hx=>(kn ok n1).mp hx
 refine ⟨_,(qk (wb (i:=2) sc.nd rfl (by walk_at "loc") (q9 c_rows (hr.mono (by decide)) rfl qc (qg (pv 0) (qg (pv 1) qv))))
   (qk (jn (i:=3) (M:=[0]) sc.nd rfl (by walk_at "loc") rfl rfl (by walk_at "cap") (by walk_at "has") (by walk_at "cix") rfl (by decide +kernel) rfl (show List.Nodup (["row","road"]:List Str) by decide +kernel) (vy (pv 2)) (λ_ _ _ _ _=>(q9 c_fixed_point (hr.mono (by decide)) rfl Yp (qg (pv 1) (qg (pv 0) qv)))))
   (qk (wb (i:=4) sc.nd rfl (by walk_at "loc") (wg (qxd rfl) rfl T.sorted_ e7 (vw (wyr (x := "row") (y2 := "point") (M:=[]) rfl rfl (by walk_at "cap") (by walk_at "has") (by walk_at "cix") rfl (by decide +kernel) (λ_ _ _ _ _=>xxk (K:=K) (n:=2) rfl rfl (xg (wt (i:=0) (show List.Nodup (["row","point"]:List Str) by decide +kernel) rfl (by walk_at "loc")) (xg (wt (i:=1) (show List.Nodup (["row","point"]:List Str) by decide +kernel) rfl (by walk_at "loc")) v5))) (pi_zip rfl T.zip_ (qg (pv 2) (qg (pv 3) qv))) (λ_ _ _ _ _=>(wc op_isN (pv 1) Yk (wn _))) (λ_ _ _ _ _=>(zv (Zv (K:=K) rfl) (pv 0) qj (λ_ _=>rfl))) (λ_ _ _ _ _=>(wjp (P:=P) (w:=w) rfl rfl))) qv)))
   (qk (wb (i:=5) sc.nd rfl (by walk_at "loc") (ww wyh (qqs (M:=[]) rfl rfl (by walk_at "cap") (by walk_at "has") (by walk_at "cix") rfl (by decide +kernel) rfl (show List.Nodup (["point"]:List Str) by decide +kernel) (vy (pv 3)) (λ_ _ _ _ _=>(wc wx0 (pv 0) Yk (wn _))) (λ_ _ _ _ _=>(pv 0))) (q9 c_corners_back (hr.mono (by decide)) rfl qc (qg (pv 0) (qg (pv 1) qv)))))
   (qk (wb (i:=6) sc.nd rfl (by walk_at "loc") (q9 c_ordered (hr.mono (by decide)) rfl qc (vv (wg (qxj rfl) rfl T.sorted_ e7 (vw (xxc (M:=[4]) rfl rfl (by walk_at "cap") (by walk_at "has") (by walk_at "cix") rfl (by decide +kernel) rfl (show List.Nodup (["point","wholes"]:List Str) by decide +kernel) (vy (pv 5)) (λ_ _ _ _ _=>(wk4 (wwy (q9 c_lies_in (hr.mono (by decide)) rfl Yp (qg (pv 0) (qg (pv 1) qv)))))) (λ_ _ _ _ _=>(pv 0)) (λ_ _ _ _ _=>(wyf (P:=P) (w:=w) rfl rfl hr.units))) qv)) qv)))
   (qh (wp (jr (qg (pv 6) (qg (pv 4) qv)))))))))),?_⟩
 refine exI rfl (exI rfl ⟨r,hs,m,rfl,hR,ok,m1,m2,kx,λfew p1 ys1 H1 np1 s1 f1 t1=>?_⟩)
 have k:=k few
 have l1:=t1.len
 have at1:∀i x,ys1[i]?=some x→∃a,x=.ref a∧i<(xt hs m.toNat).length∧H1 a=some (.tup (((xt hs m.toNat).getD i []).map V.int)):=λi x hx=>by
  obtain ⟨a,xs,e1,e2,e3⟩:=t1.get hx
  exact ⟨a,e1,(ak.mp e2).1,by rw [af,e2];exact e3⟩
 refine exI rfl ⟨p1,rfl,⟨_,SqL.of f1⟩,qq7 (K:=K) (λi v H=>FixR H (wj hs ((xt hs m.toNat).getD i [])) v) (λi v H H' g st=>?_) (SqL.of f1) (by lia) (λi x H2 R hx s2 hR2=>?_) λp3 fs H3 np3 s3 f3 l3 g3=>?_⟩
 ·rcases g with g|⟨g1,q,g2,g3⟩
  ·exact .inl g
  ·exact .inr ⟨g1,q,g2,st _ _ (λxs z=>by cases z) g3⟩
 ·obtain ⟨a,rfl,hi,fa⟩:=at1 i x hx
  have c:=clr _ (Zn hi)
  exact ⟨_,rfl,_,rfl,r,a,hs,_,rfl,hR.same (s1.trans s2),ok,SqT.of (s2 _ _ fa),c.2.1,by rw [c.1];lia,λv H4 s4 g4=>hR2 v H4 s4 g4⟩
 have s13:=s1.trans s3
 have fs_at:∀i,i<(xt hs m.toNat).length→FixR H3 (wj hs ((xt hs m.toNat).getD i [])) (fs.getD i .non):=λi hi=>by
  have e:fs[i]?=some fs[i]:=ae (by lia)
  have:=g3 i _ e
  rw [vd e]
  exact this
 have fs_non:∀i,i<(xt hs m.toNat).length→decide (fs.getD i .non=.non)=decide ((wj hs ((xt hs m.toNat).getD i [])).1=1):=λi hi=>by
  rcases fs_at i hi with ⟨g1,g2⟩|⟨g1,q,g2,_⟩
  ·rw [g2,aT g1]
   exact aT rfl
  ·rw [g2,bp g1]
   exact bp (λz=>by cases z)
 refine exI rfl (exI rfl ⟨p1,p3,ys1,fs,rfl,SqL.of (s3 _ _ f1),SqL.of f3,?_⟩)
 refine wqb (K:=K) (xt hs m.toNat).length (λi=>(ys1.getD i .non,fs.getD i .non)) (λi=>decide ((wj hs ((xt hs m.toNat).getD i [])).1=1)) (λi=>((xt hs m.toNat).getD i []).getD 0 0) 24 (λi hi=>?_) (by lia) (λi H' hi sH=>?_) (λH' sH=>?_) (λi H2 v H4 hi sH yl=>?_) (λi H' R hi sH hR'=>?_) (λi H' R hi hc sH hR'=>?_) λp5 ps H5 ns np5 s5 f5 I5 nd5 mem5=>?_
 ·have:=qvh ok n1 hi
  lia
 ·exact ⟨SqL.of (sH _ _ (s3 _ _ f1)),SqL.of (sH _ _ f3),by lia,by lia⟩
 ·exact ⟨SqL.of (sH _ _ (s3 _ _ f1)),SqL.of (sH _ _ f3),.inl (by lia)⟩
 ·obtain ⟨q,x,y,nq,rfl,ex,ey,rfl⟩:=yl
  refine ⟨Same.upd nq,q,rfl,?_⟩
  have e1:ys1.getD i .non=x:=by rw [af,ex];rfl
  have e2:fs.getD i .non=y:=by rw [af,ey];rfl
  show SqT K _ q [ys1.getD i .non,fs.getD i .non]
  rw [e1,e2]
  exact SqT.of qb
 ·refine exI rfl ⟨rfl,_,rfl,?_⟩
  have:=hR' H' (Same.refl _)
  rw [←fs_non i hi] at this
  exact this
 ·have ex:ys1[i]?=some (ys1.getD i .non):=by rw [af,ae (by lia)];rfl
  obtain ⟨a,ea,_,fa⟩:=at1 i _ ex
  have c:=clr _ (Zn hi)
  have z0:0<((xt hs m.toNat).getD i []).length:=by rw [c.1];lia
  have a0:∀r:List Int,0<r.length→atI (r.map V.int) 0=some (.int (r.getD 0 0)):=λr h=>by
   have:=v6 (xs:=r.map V.int) (j:=0) (v:=V.int (r.getD 0 0)) (by rw [ax,ae h,vd (ae h)];rfl)
   exact this
  refine exI rfl ⟨_,_,_,_,ea▸rfl,rfl,SqT.of (sH _ _ (s3 _ _ fa)),a0 _ z0,hR' _ (Same.refl _)⟩
 have i5:∀v∈ns,0≤v∧v<24:=λv hv=>by
  obtain ⟨i,hi,_,rfl⟩:=(mem5 v).mp hv
  have:=qvh ok n1 hi
  lia
 have ln:ns.length≤24:=by
  have:=qxv (ns.map Int.toNat) (List.range 24) ?_ λv hv=>?_
  ·rwa [ag,aH] at this
  ·refine bV.mpr (bZ (λ{x y} hx hy hxy z=>?_) nd5)
   have a1:=i5 x hx
   have a2:=i5 y hy
   exact hxy (by lia)
  ·obtain ⟨x,hx,rfl⟩:=aO.mp hv
   have a1:=i5 x hx
   exact au.mpr (by lia)
 refine ⟨p5,ps,ns,rfl,f5,I5,by lia,λp6 ws np6 pm6 up6=>?_⟩
 have s6:Same H5 (upd H5 p6 (.lst (ws.map V.int))):=Same.upd np6
 have f6:upd H5 p6 (.lst (ws.map V.int)) p6=some (.lst (ws.map V.int)):=qb
 generalize upd H5 p6 (.lst (ws.map V.int))=H6 at s6 f6
 have wmem:∀v,v∈ws↔Wq hs m.toNat v:=λv=>by
  rw [pm6.mem_iff,mem5 v]
  constructor
  ·rintro ⟨i,hi,h1,h2⟩
   exact ⟨_,Zn hi,cg h1,h2⟩
  ·rintro ⟨r,hr,h1,h2⟩
   obtain ⟨i,hi,rfl⟩:=qkb hr
   exact ⟨i,hi,aT h1,h2⟩
 have wup:=wv7 up6 (pm6.nodup_iff.mpr nd5)
 have wfew:ws.length≤24:=by rw [pm6.length_eq];exact ln
 have win:∀k∈ws,0≤k∧k<24:=λv hv=>i5 v (pm6.mem_iff.mp hv)
 have s36:=s5.trans s6
 refine exI rfl ⟨p3,rfl,⟨_,SqL.of (s36 _ _ f3)⟩,W1 (K:=K) (λi=>!decide (fs.getD i .non=.non)) (SqL.of (s36 _ _ f3)) (by lia) (λi x H2 R hx s2 hR2=>?_) (λi x H2 R hx _ s2 hR2=>?_) λp7 H7 np7 s7 f7=>?_⟩
 ·have e:fs.getD i .non=x:=by rw [af,hx];rfl
  refine exI rfl ⟨rfl,_,rfl,?_⟩
  have:=hR2 H2 (Same.refl _)
  rw [e] at this
  exact this
 ·exact exI rfl (hR2 _ (Same.refl _))
 have s17:=s13.trans (s36.trans s7)
 refine exI rfl (exI rfl ⟨r,hs,m,rfl,hR.same s17,ok,m1,m2,λp8 ys8 H8 np8 s8 f8 P8=>?_⟩)
 have l8:ys8.length≤25:=by
  rw [bT P8]
  unfold qz4
  rw [ag]
  have:=dH (λc:Nat=>decide (itP hs ((0:Int)+c,1) m.toNat=((0:Int)+c,1))) (List.range hs.length)
  rw [aH] at this
  lia
 have l7:(y6 (λi=>!decide (fs.getD i .non=.non)) fs fs.length).length≤fs.length:=by
  unfold y6
  rw [ag]
  have:=dH (λi=>!decide (fs.getD i .non=.non)) (List.range fs.length)
  rwa [aH] at this
 refine ⟨p7,p8,_,_,rfl,rfl,s8 _ _ f7,f8,by lia,λp9 np9=>?_⟩
 have P7:Paired (PtR H8) (y6 (λi=>!decide (fs.getD i .non=.non)) fs fs.length) (((List.range (xt hs m.toNat).length).filter λi=>!decide ((wj hs ((xt hs m.toNat).getD i [])).1=1)).map λi=>ut (wj hs ((xt hs m.toNat).getD i []))):=by
  unfold y6
  have e:(List.range fs.length).filter (λi=>!decide (fs.getD i .non=.non))=(List.range (xt hs m.toNat).length).filter (λi=>!decide ((wj hs ((xt hs m.toNat).getD i [])).1=1)):=by
   rw [show fs.length=(xt hs m.toNat).length by lia]
   refine List.filter_congr λi hi=>?_
   rw [fs_non i (au.mp hi)]
  rw [e]
  refine yh λi hi=>?_
  obtain ⟨h1,h2⟩:=bF.mp hi
  have h1:=au.mp h1
  rcases fs_at i h1 with ⟨g1,g2⟩|⟨g1,q,g2,g3⟩
  ·rw [g1] at h2
   cases h2
  ·exact ⟨q,g2,s8 _ _ (s7 _ _ (s36 _ _ g3))⟩
 have P9:Paired (PtR H8) (y6 (λi=>!decide (fs.getD i .non=.non)) fs fs.length++ys8) (qz0 hs m.toNat):=Paired.app P7 P8
 generalize y6 (λi=>!decide (fs.getD i .non=.non)) fs fs.length=us7 at P9 l7
 have s9:Same H8 (upd H8 p9 (.lst (us7++ys8))):=Same.upd np9
 have f9:upd H8 p9 (.lst (us7++ys8)) p9=some (.lst (us7++ys8)):=qb
 have T9:=(quz P9).same s9
 have l9:=bT P9
 generalize upd H8 p9 (.lst (us7++ys8))=H9 at s9 f9 T9
 rw [am] at l9
 have f69:H9 p6=some (.lst (ws.map V.int)):=s9 _ _ (s8 _ _ (s7 _ _ f6))
 refine exI rfl ⟨p9,rfl,⟨_,SqL.of f9⟩,?_⟩
 refine wvh (K:=K) ((qz0 hs m.toNat).map two) (λxs=>!Wb ws (xs.getD 0 0,xs.getD 1 0)) (SqL.of f9) T9 (by rw [ag];lia) (λxs a H' R hx fa sH hR'=>?_) (λa H' R hR'=>(exI rfl hR')) λp10 ps10 H10 L10 np10 s10 f10 T10 nd10 mem10 len10=>?_
 ·obtain ⟨q,hq,rfl⟩:=aO.mp hx
  refine ⟨_,rfl,_,rfl,a,p6,q,ws,rfl,SqT.of fa,SqL.of (sH _ _ f69),by lia,win,λH'' s''=>?_⟩
  exact exI rfl (hR' H'' s'')
 rw [ag] at len10
 obtain ⟨qs,eq,hq⟩:=qwy (L:=L10) (ps:=qz0 hs m.toNat) λx hx=>((mem10 x).mp hx).1
 refine ⟨p10,ps10,L10,2,rfl,f10,T10,nd10,by lia,by lia,λr hr=>?_,λp11 ys11 L11 np11 pm11 up11 t11=>?_⟩
 ·obtain ⟨q,_,rfl⟩:=aO.mp ((mem10 r).mp hr).1
  rfl
 obtain ⟨qs,eq,hq⟩:=qwy (L:=L11) (ps:=qz0 hs m.toNat) λx hx=>((mem10 x).mp (pm11.mem_iff.mp hx)).1
 have s11:Same H10 (upd H10 p11 (.lst ys11)):=Same.upd np11
 have f11:upd H10 p11 (.lst ys11) p11=some (.lst ys11):=qb
 have P11:Paired (PtR (upd H10 p11 (.lst ys11))) ys11 qs:=xw2 (t11.same s11) eq
 generalize upd H10 p11 (.lst ys11)=H11 at s11 f11 P11
 have s011:=s17.trans (s8.trans (s9.trans (s10.trans s11)))
 have l11:=bT P11
 have lq:qs.length=L10.length:=by rw [←pm11.length_eq,eq,ag]
 have ndq:qs.Nodup:=by
  have:=pm11.nodup_iff.mpr nd10
  rw [eq] at this
  exact List.Pairwise.imp (λh z=>h (by rw [z])) (bV.mp this)
 have okq:∀q∈qs,Wu hs m.toNat q:=λq h=>(quv ok).mp (hq q h)
 have gd:∀i,i<qs.length→qs.getD i (0,1)∈qs:=λi hi=>by
  rw [af,ae hi]
  exact bu hi
 have nw:∀i j,i<j→j<ys11.length→(qs.getD i (0,1)).1*(qs.getD j (0,1)).2≠(qs.getD j (0,1)).1*(qs.getD i (0,1)).2:=λi j hij hj z=>by
  obtain ⟨b1,g1,_⟩:=Zd ok n1 n2 (okq _ (gd i (by lia)))
  obtain ⟨b2,g2,_⟩:=Zd ok n1 n2 (okq _ (gd j (by lia)))
  have t1:=(qq5 b1 b2).mp z
  rw [yn b1 g1,yn b2 g2] at t1
  refine (bb.mp ndq) i j (by lia) (by lia) hij ?_
  have e1:=vd (d:=((0:Int),(1:Int))) (ae (show i<qs.length by lia))
  have e2:=vd (d:=((0:Int),(1:Int))) (ae (show j<qs.length by lia))
  rw [←e1,←e2]
  exact t1
 refine ⟨p11,ys11,λi=>qs.getD i (0,1),rfl,SqL.of f11,λi v e=>?_,vn hT s011,λi hi=>?_,nw,by lia,λl il H12 k12 T12 nl pm12 up12 f12=>?_⟩
 ·obtain ⟨q,e1,b,e2,e3⟩:=Zf P11 e
  show ∃a,v=.ref a∧H11 a=some (.tup [.int (qs.getD i (0,1)).1,.int (qs.getD i (0,1)).2])
  rw [vd e1]
  exact ⟨b,e2,e3⟩
 ·exact qwc ok n1 n2 (okq _ (gd i (by lia)))
 have k012:Kp H H12:=(Kp.of s011).trans k12
 refine exI rfl (exI rfl ⟨sz2,λa na=>?_⟩)
 have s12:Same H12 (upd H12 a (.tup [.ref l,.ref p6])):=Same.upd na
 have f13:upd H12 a (.tup [.ref l,.ref p6]) a=some (.tup [.ref l,.ref p6]):=qb
 generalize upd H12 a (.tup [.ref l,.ref p6])=H13 at s12 f13
 have P12:Paired (PtR H13) (il.map λi=>ys11.getD i .non) (il.map λi=>qs.getD i (0,1)):=yh λi hi=>by
  have hi:i<ys11.length:=au.mp (pm12.mem_iff.mp hi)
  have e:ys11[i]?=some ys11[i]:=ae hi
  obtain ⟨q,e1,b,e2,e3⟩:=Zf P11 e
  rw [vd e,vd e1]
  exact ⟨b,e2,s12 _ _ (k12.tup e3)⟩
 have mq:∀q,q∈(il.map λi=>qs.getD i (0,1))↔q∈qs:=λq=>by
  rw [aO]
  constructor
  ·rintro ⟨i,hi,rfl⟩
   have hi:i<ys11.length:=au.mp (pm12.mem_iff.mp hi)
   exact gd i (by lia)
  ·intro h
   obtain ⟨i,hi,e⟩:=dw h
   exact ⟨i,pm12.mem_iff.mpr (au.mpr (by lia)),by rw [vd (ae hi)];exact e⟩
 have lil:il.length≤1025:=by
  rw [pm12.length_eq,aH]
  lia
 refine k a l p6 _ _ ws H13 (k012.trans (Kp.of s12)) (vn T12 s12) f13 (s12 _ _ f12) P12 (s12 _ _ (k12.lst (s11 _ _ (s10 _ _ f69)))) ⟨wup,wmem,?_,λp=>?_,wfew,by rw [ag];exact lil⟩
 ·refine bV.mpr (up12.imp_of_mem λ{i j} hi hj h=>?_)
  have hi:i<ys11.length:=au.mp (pm12.mem_iff.mp hi)
  have hj:j<ys11.length:=au.mp (pm12.mem_iff.mp hj)
  rcases h with h|⟨h,hij⟩
  ·exact h
  ·exact absurd h (nw i j hij hj)
 ·rw [mq p]
  constructor
  ·intro h
   refine ⟨okq p h,?_⟩
   have:two p∈L11:=by rw [eq];exact aO.mpr ⟨p,h,rfl⟩
   have:=((mem10 _).mp (pm11.mem_iff.mp this)).2
   exact gZ _▸this
  ·rintro ⟨h1,h2⟩
   have:two p∈L11:=pm11.mem_iff.mpr ((mem10 _).mpr ⟨aO.mpr ⟨p,(quv ok).mpr h1,rfl⟩,by show (!Wb ws p)=true;rw [h2];rfl⟩)
   rw [eq] at this
   obtain ⟨q,hq,e⟩:=aO.mp this
   rw [←xxy e]
   exact hq
end
section
variable {P:Ac}{w:Ah}{K:Aa}{mg:Str→Option Ag}{base:Heap}{qp:Aj}{qx:Aj}{qf:Aj}{qu:Aj}{qy:Aj}{qm:Aj}{qd:Aj}{qw:Aj}
theorem RoadAt.kp {C:Aj}{H H':Hp}{r:Aj}{ns:List Int}(h:RoadAt C H r ns)(k:Kp H H'):RoadAt C H' r ns:=by
 obtain ⟨dx,q,h1,h2⟩:=h
 exact ⟨dx,q,k _ _ (λps z=>by cases z) h1,k.lst h2⟩
theorem PtR.kp {H H':Hp}{v:V}{p:Int×Int}(h:PtR H v p)(k:Kp H H'):PtR H' v p:=by
 obtain ⟨a,e,f⟩:=h
 exact ⟨a,e,k.tup f⟩
def ky (hs:List Int)(p:Int×Int)(l:Nat):Prop:=Dist (itP hs p) l∧itP hs p l=p
def CandP (hs:List Int)(m:Nat)(p:Int×Int):Prop:=((Wu hs m p∧¬ ∃k,Wq hs m k∧k*p.2≤p.1∧p.1≤(k+1)*p.2)∨∃k,Wq hs m k∧p=(3*k+1,3))∧ky hs p m
theorem qys (k:Int):gOf (3*k+1) 3=1:=by
 have h1:=j7 (t:=3*k+1) (b:=3) (by decide)
 have h2:gOf (3*k+1) 3*(wm (3*k+1) 3).2=3:=Jw (by decide)
 have h3:gOf (3*k+1) 3*(wm (3*k+1) 3).1=3*k+1:=qzx
 have hle:gOf (3*k+1) 3≤3:=by
  rcases cP 3 (gOf (3*k+1) 3) with z|z
  ·have p:0<(wm (3*k+1) 3).2:=by
    rcases cP 0 (wm (3*k+1) 3).2 with y|y
    ·exact y
    ·have:=Int.mul_nonpos_of_nonneg_of_nonpos (show 0≤gOf (3*k+1) 3 by lia) y
     lia
   have:=aZ (show (1:Int)≤(wm (3*k+1) 3).2 by lia) (show 0≤gOf (3*k+1) 3 by lia)
   lia
  ·exact z
 rcases (by lia:gOf (3*k+1) 3=1∨gOf (3*k+1) 3=2∨gOf (3*k+1) 3=3) with e|e|e
 ·exact e
 ·rw [e] at h2
  lia
 ·rw [e] at h3
  lia
theorem qy2 {hs:List Int}(ok:wv hs){m:Nat}(m1:1≤m){k:Int}(h:Wq hs m k):0≤k∧k<(hs.length:Int)-1:=by
 obtain ⟨r,hr,_,rfl⟩:=h
 obtain ⟨j,hj,rfl⟩:=qkb hr
 exact qvh ok m1 hj
theorem wxd {hs:List Int}(ok:wv hs){m:Nat}(m1:1≤m)(m2:m≤12){p:Int×Int}(h:Wu hs m p∨∃k,Wq hs m k∧p=(3*k+1,3)):OkP p∧Pt hs p.2 p∧itP hs p m=p:=by
 have key:∀p:Int×Int,OkP p→gOf p.1 p.2=1→zc hs p.1 p.2→trT hs p.1 p.2 m=p.1→OkP p∧Pt hs p.2 p∧itP hs p m=p:=λp o g on e=>by
  have h:Pt hs p.2 p:=⟨o.1,c0 _,g,on⟩
  exact ⟨o,h,(it_eq h m 0).mpr e⟩
 rcases h with h|⟨k,hk,rfl⟩
 ·obtain ⟨b,g,on⟩:=Zd ok m1 m2 h
  exact key p (qwc ok m1 m2 h) g on ((qyv ok m1 m2 b g on).mpr (.inl h))
 ·obtain ⟨k0,k1⟩:=qy2 ok m1 hk
  have o2:=ok.2.1
  have on:zc hs (3*k+1) 3:=⟨by lia,by lia⟩
  exact key _ ⟨show (1:Int)≤3 by decide,Sm.small (by show -(2 ^ 64)≤3*k+1;lia) (by show 3*k+1≤2 ^ 64;lia) (by decide),Sm.small (show -(2 ^ 64)≤(3:Int) by decide) (show (3:Int)≤2 ^ 64 by decide) (by decide)⟩ (qys k) on
   ((qyv ok m1 m2 (p:=(3*k+1,3)) (show (1:Int)≤3 by decide) (qys k) on).mpr (.inr ⟨k,hk,show k*3≤3*k+1 by lia,show 3*k+1≤(k+1)*3 by lia⟩))
theorem wv9 {hs:List Int}{p:Int×Int}{m n u:Nat}(m1:1≤m)(d:Dist (itP hs p) n)(hu:u<n)(e:itP hs p n=itP hs p u):(if u=0 then V.int (n:Nat) else V.non)=V.int (m:Nat)↔ky hs p m:=by
 constructor
 ·intro h
  by_cases z:u=0
  ·rw [av z] at h
   have:n=m:=by have:=V.int.inj h;lia
   subst this
   exact ⟨d,by rw [e,z];rfl⟩
  ·rw [ao z] at h
   cases h
 ·rintro ⟨d',e'⟩
  have e0:itP hs p m=itP hs p 0:=e'
  have nm:n=m:=by
   rcases gW n m with z|z|z
   ·exact absurd e.symm (d' u n hu z)
   ·exact z
   ·exact absurd e0.symm (d 0 m (by lia) z)
  subst nm
  have u0:u=0:=by
   rcases Nat.eq_zero_or_pos u with z|z
   ·exact z
   ·exact absurd (e0.symm.trans e) (d 0 u z hu)
  rw [av u0]
def zt (pts:List (Int×Int))(ws:List Int):List (Int×Int):=pts++ws.map λk=>(3*k+1,(3:Int))
theorem qyj {hs:List Int}{m:Nat}{pts:List (Int×Int)}{ws:List Int}(B:BackOf hs m pts ws){p:Int×Int}:p∈zt pts ws↔((Wu hs m p∧¬ ∃k,Wq hs m k∧k*p.2≤p.1∧p.1≤(k+1)*p.2)∨∃k,Wq hs m k∧p=(3*k+1,3)):=by
 unfold zt
 rw [aU,B.pmem]
 have l:Wb ws p=false↔¬ ∃k,Wq hs m k∧k*p.2≤p.1∧p.1≤(k+1)*p.2:=by
  cases hz:Wb ws p with
  |true =>
   obtain ⟨k,hk,e⟩:=dR.mp hz
   exact ⟨λz=>absurd z Bool.noConfusion,λz=>absurd ⟨k,(B.wmem k).mp hk,cg e⟩ z⟩
  |false =>
   refine ⟨λ_ ⟨k,hk,e⟩=>?_,λ_=>rfl⟩
   have:Wb ws p=true:=dR.mpr ⟨k,(B.wmem k).mpr hk,aT e⟩
   rw [this] at hz
   cases hz
 rw [l,aO]
 exact ⟨λh=>h.imp id λ⟨k,hk,e⟩=>⟨k,(B.wmem k).mp hk,e.symm⟩,λh=>h.imp id λ⟨k,hk,e⟩=>⟨k,(B.wmem k).mpr hk,e.symm⟩⟩
theorem wqs {hs:List Int}(ok:wv hs){m:Nat}(m1:1≤m)(m2:m≤12){pts:List (Int×Int)}{ws:List Int}(B:BackOf hs m pts ws):(zt pts ws).Pairwise λp q=>p.1*q.2≠q.1*p.2:=by
 unfold zt
 refine bh.mpr ⟨B.pup.imp λh=>Int.ne_of_lt h,bV.mpr (B.wup.imp λ{a b} h z=>?_),λp hp q hq z=>?_⟩
 ·have z:(3*a+1)*3=(3*b+1)*3:=z
  lia
 ·obtain ⟨k,hk,rfl⟩:=aO.mp hq
  have z:p.1*3=(3*k+1)*p.2:=z
  have b0:=(Zd ok m1 m2 ((B.pmem p).mp hp).1).1
  have nl:=((B.pmem p).mp hp).2
  have e1:(3*k+1)*p.2=3*(k*p.2)+p.2:=by rw [cu,cw,iY]
  have e2:(k+1)*p.2=k*p.2+p.2:=by rw [cu,cw]
  rw [e1] at z
  have:Wb ws p=true:=dR.mpr ⟨k,hk,aT ⟨by lia,by rw [e2];lia⟩⟩
  rw [this] at nl
  cases nl
theorem qk5 {α β:Type}{R:α→β→Prop}:∀ {l:List α} {m:List β},l.length=m.length→(∀(i:Nat) x y,l[i]?=some x→m[i]?=some y→R x y)→Paired R l m
 |[],[],_,_=>.nil
 |[],_::_,h,_=>by cases h
 |_::_,[],h,_=>by cases h
 |x::l,y::m,h,g=>.cons (g 0 x y rfl rfl) (qk5 (Nat.succ.inj h) λi u v e1 e2=>g (i+1) u v e1 e2)
theorem wub {n:Nat}{il:List Nat}(pm:il.Perm (List.range n)){pt:Nat→Int×Int}{G:Int×Int→Prop}{c:Nat→Bool}(hc:∀j,j<il.length→(c j=true↔G (pt (il.getD j 0))))(p:Int×Int):p∈((List.range il.length).filter c).map (λj=>pt (il.getD j 0))↔∃i,i<n∧G (pt i)∧pt i=p:=by
 rw [aO]
 constructor
 ·rintro ⟨j,hj,e⟩
  obtain ⟨h1,h2⟩:=bF.mp hj
  have h1:=au.mp h1
  have e1:il[j]?=some (il.getD j 0):=by rw [af,ae h1];rfl
  exact ⟨il.getD j 0,au.mp (pm.mem_iff.mp (aC e1)),(hc j h1).mp h2,e⟩
 ·rintro ⟨i,hi,g,e⟩
  obtain ⟨j,hj,e2⟩:=dw (pm.mem_iff.mpr (au.mpr hi))
  have e1:il.getD j 0=i:=by rw [af,ae hj,e2];rfl
  exact ⟨j,bF.mpr ⟨au.mpr hj,(hc j hj).mpr (by rw [e1];exact g)⟩,by rw [e1];exact e⟩
theorem xwb {il:List Nat}{pt:Nat→Int×Int}{c:Nat→Bool}(up:il.Pairwise (Wor pt))(ne:∀i j,i∈il→j∈il→i≠j→(pt i).1*(pt j).2≠(pt j).1*(pt i).2)(nd:il.Nodup):(((List.range il.length).filter c).map λj=>pt (il.getD j 0)).Pairwise λp q=>p.1*q.2<q.1*p.2:=by
 refine bV.mpr (bZ (R:=(·<·)) (λ{a b} ha hb h=>?_) ((List.pairwise_lt_range (n:=il.length)).sublist List.filter_sublist))
 have ha:=au.mp (bF.mp ha).1
 have hb:=au.mp (bF.mp hb).1
 have e1:il.getD a 0=il[a]:=by rw [af,ae ha];rfl
 have e2:il.getD b 0=il[b]:=by rw [af,ae hb];rfl
 rw [e1,e2]
 have w:=bb.mp up a b ha hb h
 have d:=bb.mp nd a b ha hb h
 rcases w with w|w
 ·exact w
 ·exact absurd w.1 (ne _ _ (bu ha) (bu hb) d)
def qk4 (C CT TT:Aj):Sp:=λvs H Q E=>∃(r:Aj) (hs:List Int) (m:Int),vs=[.ref r,.int m]∧RoadAt C H r hs∧wv hs∧1≤m∧m≤12∧(¬ crS hs m.toNat≤1000→∀H',Same H H'→E (.ref CT) none H')∧zn TT zh j5 H∧(crS hs m.toNat≤1000 →
 ∀(q:Aj) (ys:List V) (ps:List (Int×Int)) (H':Hp),Kp H H'→zn TT zh j5 H'→H' q=some (.lst ys)→Paired (PtR H') ys ps→(∀p,p∈ps↔CandP hs m.toNat p)→ps.Pairwise (λp q=>p.1*q.2<q.1*p.2)→ps.length≤1049→Q (.ref q) H')
theorem wu9 {f:Aj}{fd:Ad}{TT:Aj}(F:Fun K "candidates" "candidates" s_candidates f fd)(T:Txt K mg qp qx qf qu qy qm qd qw)(c_back:Cal P w K mg base "back" 8 (qvt qw qy TT))(c_ordered:Cal P w K mg base "ordered" 6 (wzq K TT qx))(c_least:Cal P w K mg base "least" 6 (qkn K qw)) :
  FnOk P w K mg base (CXE P w) 9 f fd ["road","length"] (qk4 qw qy TT):=by
 have sc:=qxn
 refine F.okX sc (λvs H Q E h=>by obtain ⟨r,hs,m,rfl,_⟩:=h;rfl) (λcdv A outer s H vs Q E hr h=>?_)
 obtain ⟨r,hs,m,rfl,hR,ok,m1,m2,kx,hT,k⟩:=h
 have o1:=ok.1
 have o2:=ok.2.1
 have big:(1000000:Nat)<sizeLine:=by decide
 have n1:1≤m.toNat:=by lia
 have n2:m.toNat≤12:=by lia
 refine ⟨_,(qk (yx (q9 c_back (hr.mono (by decide)) rfl qc (qg (pv 0) (qg (pv 1) qv))) (jg rfl (xg (wt (i:=2) sc.nd rfl (by walk_at "loc")) (xg (wt (i:=3) sc.nd rfl (by walk_at "loc")) v5))))
   (qk (jn (i:=4) (M:=[]) sc.nd rfl (by walk_at "loc") rfl rfl (by walk_at "cap") (by walk_at "has") (by walk_at "cix") rfl (by decide +kernel) rfl (show List.Nodup (["stretch"]:List Str) by decide +kernel) (vy (pv 3)) (λ_ _ _ _ _=>(jr (zu (ww xv (ww xy qj (pv 0)) qj) (xw qj qv)))))
   (qh (wp (qqs (M:=[0,1]) rfl rfl (by walk_at "cap") (by walk_at "has") (by walk_at "cix") rfl (by decide +kernel) rfl (show List.Nodup (["point","road","length"]:List Str) by decide +kernel) (vy (q9 c_ordered (hr.mono (by decide)) rfl qc (zu (ww wyh (pv 2) (pv 4)) qv))) (λ_ _ _ _ _=>(wc vf (q9 c_least (hr.mono (by decide)) rfl Yp (qg (pv 1) (qg (pv 0) qv))) (pv 2) (wn _))) (λ_ _ _ _ _=>(pv 0))))))),?_⟩
 refine exI rfl (exI rfl ⟨r,hs,m,rfl,hR,ok,m1,m2,kx,hT,λfew b1 lp lw ys pts ws H1 k1 T1 fb fl P1 fw B=>?_⟩)
 have k:=k few
 refine ⟨b1,exI rfl ⟨SqT.of fb,rfl,_,_,rfl,_,_,rfl,rfl,?_⟩⟩
 have pf:=B.pfew
 have wf:=B.wfew
 have ly:=bT P1
 refine exI rfl ⟨lw,rfl,⟨_,SqL.of fw⟩,qq7 (K:=K) (λi v H=>PtR H v (3*ws.getD i 0+1,3)) (λi v H H' g st=>quj g st) (SqL.of fw) (by rw [ag];lia) (λi x H2 R hx s2 hR2=>?_) λp3 ts H3 np3 s3 f3 l3 g3=>?_⟩
 ·rw [ax] at hx
  obtain ⟨z,ez,rfl⟩:=d9.mp hx
  have wz:=qy2 ok n1 ((B.wmem z).mp (aC ez))
  rw [vd ez] at hR2
  exact exI rfl (wy rfl rfl ⟨IntMulOk.of_left (intBits_le_64 (by lia) (by lia)),wy rfl rfl ⟨sz2,λp np=>hR2 _ _ (Same.upd np) ⟨p,rfl,qb⟩⟩⟩)
 rw [ag] at l3
 have P3:Paired (PtR H3) (ys++ts) (zt pts ws):=by
  refine Paired.app (L2.Paired.mono (λ_ _ x=>PtR.same x s3) P1) (qk5 (by rw [ag];exact l3) λi x y ex ey=>?_)
  rw [ax] at ey
  obtain ⟨z,ez,rfl⟩:=d9.mp ey
  have:=g3 i x ex
  rwa [vd ez] at this
 have lc:(ys++ts).length=(zt pts ws).length:=bT P3
 have ln:(zt pts ws).length≤1049:=by unfold zt;rw [am,ag];lia
 have ln2:(ys++ts).length=ys.length+ts.length:=am
 refine ⟨_,rfl,_,rfl,lp,p3,ys,ts,rfl,rfl,s3 _ _ fl,f3,by lia,λp4 np4=>?_⟩
 have s4:Same H3 (upd H3 p4 (.lst (ys++ts))):=Same.upd np4
 have f4:upd H3 p4 (.lst (ys++ts)) p4=some (.lst (ys++ts)):=qb
 have T4:zn TT zh j5 (upd H3 p4 (.lst (ys++ts))):=vn T1 (s3.trans s4)
 generalize upd H3 p4 (.lst (ys++ts))=H4 at s4 f4 T4
 have P4:=L2.Paired.mono (λ_ _ x=>PtR.same x s4) P3
 have gd:∀i,i<(zt pts ws).length→(zt pts ws)[i]?=some ((zt pts ws).getD i (0,1)):=λi hi=>by rw [af,ae hi];rfl
 have cm:∀i,i<(zt pts ws).length→OkP ((zt pts ws).getD i (0,1))∧Pt hs ((zt pts ws).getD i (0,1)).2 ((zt pts ws).getD i (0,1))∧itP hs ((zt pts ws).getD i (0,1)) m.toNat=(zt pts ws).getD i (0,1):=λi hi =>
  wxd ok n1 n2 (((qyj B).mp (aC (gd i hi))).imp (λz=>z.1) id)
 have ap:∀i j,i<j→j<(zt pts ws).length→((zt pts ws).getD i (0,1)).1*((zt pts ws).getD j (0,1)).2≠((zt pts ws).getD j (0,1)).1*((zt pts ws).getD i (0,1)).2:=λi j h1 h2=>by
  have:=bb.mp (wqs ok n1 n2 B) i j (by lia) h2 h1
  rw [vd (ae (show i<(zt pts ws).length by lia)),vd (ae h2)]
  exact this
 have mem:=λp=>qyj B (p:=p)
 have pl:PL H4 (ys++ts) λi=>(zt pts ws).getD i (0,1):=λi v hv=>by
  obtain ⟨q,eq,a,ea,fa⟩:=Zf P4 hv
  dsimp only
  rw [vd eq]
  exact ⟨a,ea,fa⟩
 generalize zt pts ws=cl at P4 lc ln gd cm ap mem pl
 refine ⟨p4,ys++ts,λi=>cl.getD i (0,1),rfl,SqL.of f4,pl,T4,λi hi=>(cm i (by lia)).1,λi j h1 h2=>ap i j h1 (by lia),by lia,λl il H5 k5 T5 nl pm up f5=>?_⟩
 have li:il.length=(ys++ts).length:=by rw [pm.length_eq,aH]
 have P5:Paired (PtR H5) (ys++ts) cl:=L2.Paired.mono (λ_ _ x=>PtR.kp x k5) P4
 have R5:RoadAt qw H5 r hs:=(((hR.kp k1).same s3).same s4).kp k5
 have at5:∀j,j<il.length→∃a,(ys++ts).getD (il.getD j 0) .non=.ref a∧il.getD j 0<cl.length∧H5 a=some (.tup [.int (cl.getD (il.getD j 0) (0,1)).1,.int (cl.getD (il.getD j 0) (0,1)).2]):=λj hj=>by
  have e1:il[j]?=some (il.getD j 0):=by rw [af,ae hj];rfl
  have hi:=au.mp (pm.mem_iff.mp (aC e1))
  generalize il.getD j 0=i at hi
  obtain ⟨a,ea,fa⟩:=yf P5 (gd i (by lia))
  obtain ⟨b,rfl,fb⟩:=fa
  exact ⟨b,by rw [af,ea];rfl,by lia,fb⟩
 have l5:(il.map λi=>(ys++ts).getD i .non).length=il.length:=ag ..
 refine ⟨l,rfl,⟨_,SqL.of f5⟩,W1 (K:=K) (λj=>@decide (ky hs (cl.getD (il.getD j 0) (0,1)) m.toNat) (Classical.propDecidable _)) (SqL.of f5) (by lia) (λj x H6 R hx s6 hR6=>?_) (λj x H6 R hx _ s6 hR6=>(exI rfl (hR6 _ (Same.refl _)))) λp7 H7 np7 s7 f7=>?_⟩
 ·have hj:j<il.length:=by rw [←l5];exact (ak.mp hx).1
  obtain ⟨a,ea,hi,fa⟩:=at5 j hj
  have ex:x=.ref a:=by
   rw [ax,ae hj] at hx
   have:=aq hx
   rw [←this,←ea,af (l:=il),ae hj]
   rfl
  subst ex
  obtain ⟨okp,ptp,itp⟩:=cm _ hi
  generalize cl.getD (il.getD j 0) (0,1)=pt at fa okp ptp itp hR6
  have lw:wm pt.1 pt.2=pt:=yn ptp.1 ptp.2.2.1
  refine exI rfl (exI rfl ⟨r,a,hs,pt.1,pt.2,rfl,R5.same s6,ok,SqT.of (s6 _ _ fa),⟨ptp.1,okp.2.2.mono (by decide),ptp.2.2.2,λd=>?_⟩,λn u H8 s8 hn d hu e=>?_⟩)
  ·rw [lw] at d
   exact d 0 m.toNat (by lia) (by lia) itp.symm
  ·rw [lw] at d e
   have li:=wv9 n1 d hu e
   refine exI rfl ⟨?_,_,rfl,?_⟩
   ·by_cases z:u=0
    ·rw [av z];rfl
    ·rw [ao z];rfl
   ·have:=hR6 H8 s8
    have e3:@decide (ky hs pt m.toNat) (Classical.propDecidable _)=decide ((if u=0 then V.int (n:Nat) else V.non)=V.int m):=by
     rw [ee,@decide_eq_true_iff _ (Classical.propDecidable _),decide_eq_true_eq,←li,b9 (by lia)]
    rw [e3] at this
    exact this
 ·have hc:∀j,j<il.length→(@decide (ky hs (cl.getD (il.getD j 0) (0,1)) m.toNat) (Classical.propDecidable _)=true↔ky hs (cl.getD (il.getD j 0) (0,1)) m.toNat):=λj _=>@decide_eq_true_iff _ (Classical.propDecidable _)
  refine k p7 _ (((List.range il.length).filter λj=>@decide (ky hs (cl.getD (il.getD j 0) (0,1)) m.toNat) (Classical.propDecidable _)).map λj=>cl.getD (il.getD j 0) (0,1)) H7 ?_ (vn T5 s7) f7 ?_ (λp=>?_) (xwb up (λi j hi hj ne=>?_) (pm.nodup_iff.mpr fL)) ?_
  ·exact ((k1.trans (Kp.of s3)).trans (Kp.of s4)).trans (k5.trans (Kp.of s7))
  ·unfold y6
   rw [l5]
   refine yh λj hj=>?_
   have hj:=au.mp (bF.mp hj).1
   obtain ⟨a,ea,hi,fa⟩:=at5 j hj
   refine ⟨a,?_,s7 _ _ fa⟩
   rw [af,ax,ae hj,←ea,af (l:=il),ae hj]
   rfl
  ·rw [wub (n:=(ys++ts).length) pm (pt:=λi=>cl.getD i (0,1)) (G:=λp=>ky hs p m.toNat) hc p]
   constructor
   ·rintro ⟨i,hi,g,e⟩
    have e:cl.getD i (0,1)=p:=e
    have g:ky hs (cl.getD i (0,1)) m.toNat:=g
    rw [e] at g
    exact ⟨(mem p).mp (by rw [←e];exact aC (gd i (by lia))),g⟩
   ·rintro ⟨h1,g⟩
    obtain ⟨i,hi,e⟩:=dw ((mem p).mpr h1)
    have e:cl.getD i (0,1)=p:=by rw [af,ae hi,e];rfl
    exact ⟨i,by lia,by show ky hs (cl.getD i (0,1)) m.toNat;rw [e];exact g,e⟩
  ·have hi:=au.mp (pm.mem_iff.mp hi)
   have hj:=au.mp (pm.mem_iff.mp hj)
   rcases Nat.lt_or_gt_of_ne ne with z|z
   ·exact ap i j z (by lia)
   ·exact (ap j i z (by lia)).symm
  ·rw [ag]
   have:=dH (λj=>@decide (ky hs (cl.getD (il.getD j 0) (0,1)) m.toNat) (Classical.propDecidable _)) (List.range il.length)
   rw [aH] at this
   lia
def wqt (C CT TT:Aj):Sp:=λvs H _ E=>∃(r:Aj) (hs:List Int) (m:Int),vs=[.ref r,.int m]∧RoadAt C H r hs∧wv hs∧1≤m∧m≤12∧(∃l:Nat,1≤l∧l≤m.toNat∧¬ crS hs l≤1000)∧zn TT zh j5 H ∧
 ∀(H':Hp),Kp H H'→zn TT zh j5 H'→E (.ref CT) none H'
theorem xwv {f:Aj}{fd:Ad}{TT:Aj}(F:Fun K "lengths" "lengths" s_lengths f fd)(T:Txt K mg qp qx qf qu qy qm qd qw)(c_check_count:CalD P w K mg base "check_count" 1 (W7 qu))(c_candidates:Cal P w K mg base "candidates" 9 (qk4 qw qy TT)) :
  FnOk P w K mg base (CXE P w) 10 f fd ["road","most"] (wqt qw qy TT):=by
 have sc:=wq1
 refine F.okX sc (λvs H Q E h=>by obtain ⟨r,hs,m,rfl,_⟩:=h;rfl) (λcdv A outer s H vs Q E hr h=>?_)
 obtain ⟨r,hs,m,rfl,hR,ok,m1,m2,⟨l,l1,l2,ln⟩,hT,k⟩:=h
 obtain ⟨tl,g_LONGEST_ROW⟩:=T.g_LONGEST_ROW
 have big:(1000000:Nat)<sizeLine:=by decide
 refine ⟨_,(qk (zg (W6 c_check_count.all (hr.mono (by decide)) rfl qc (qg (pv 1) (xw qj (qg (Q6 (v:=V.int 12) rfl g_LONGEST_ROW ⟨_,rfl⟩) qv)))))
   (qh (wp (wvq (M:=[0]) wzk rfl rfl rfl rfl (by walk_at "cap") (by walk_at "has") (by walk_at "cix") rfl (by decide +kernel) rfl (show List.Nodup (["length","road"]:List Str) by decide +kernel) (wvv rfl T.range_ (xw qj (zu (ww xv (pv 1) qj) qv))) (λ_ _ _ _ _ _ _ hE=>(wc Qj (wg (Wy (K:=K) rfl) rfl T.len_ bH (vv (q9 c_candidates (hr.mono (by decide)) rfl hE (qg (pv 1) (qg (pv 0) qv))) qv)) qj (wn _))) (λ_ _ _ _ _ _=>(pv 0)))))),?_⟩
 refine ⟨_,rfl,m,1,.int 12,some 12,rfl,.inr ⟨12,rfl,rfl⟩,λ_=>?_,λhw=>absurd ⟨m1,λz e=>by cases e;exact m2⟩ hw⟩
 refine exI rfl (wy rfl rfl ⟨_,_,rfl,⟨by lia,by lia,by lia,by lia⟩,?_⟩)
 rw [show (m+1-1).toNat=m.toNat by lia]
 intro p np
 refine ⟨λi mm vs H2=>mm=m.toNat-i∧i≤m.toNat∧i<l∧vs.length≤i∧Kp H H2∧zn TT zh j5 H2∧H2 p=some (.lst vs),⟨m.toNat,by lia,aV _,l1,aj _,(Kp.of (Same.refl H)).upd np,vn hT (Same.upd np),qb⟩,?_⟩
 rintro i mm vs H2 ⟨rfl,hi,hl,lv,k2,T2,f2⟩
 refine ⟨f2,by lia,.inr ⟨(show i<m.toNat by lia),?_⟩⟩
 rintro v H3 ⟨rfl,rfl⟩
 have e1:((1:Int)+i).toNat=1+i:=by lia
 refine ⟨_,rfl,_,rfl,r,hs,(1:Int)+i,rfl,hR.kp k2,ok,by lia,by lia,λ_ H4 s4=>k H4 (k2.trans (Kp.of s4)) (vn T2 s4),T2,λfew q ys ps H4 k4 T4 f4 P4 mem4 _ _=>?_⟩
 rw [e1] at few
 have il:1+i≠l:=λz=>ln (z▸few)
 refine ⟨_,_,rfl,.inl (SqL.of f4),wy rfl rfl (exI rfl ?_)⟩
 have f4p:=k4.lst f2
 have k24:=k2.trans k4
 refine jz (λ_=>⟨_,rfl,f4p,m.toNat-(i+1),by lia,rfl,by lia,by lia,?_,k24.upd np,tab_wr T4 f4p,qb⟩) (λ_=>⟨f4p,m.toNat-(i+1),by lia,rfl,by lia,by lia,by lia,k24,T4,f4p⟩)
 rw [am,cf]
 lia
def wwq (C CT TT:Aj):Sp:=λvs H Q E=>∃(r:Aj) (hs:List Int) (m:Int),vs=[.ref r,.int m]∧RoadAt C H r hs∧wv hs∧1≤m∧m≤12∧(¬ crS hs m.toNat≤1000→∀H',Same H H'→E (.ref CT) none H')∧zn TT zh j5 H ∧
 (crS hs m.toNat≤1000→∀(v:V) (H':Hp),Kp H H'→zn TT zh j5 H'→Q v H')
theorem xqf {f:Aj}{fd:Ad}{TT:Aj}(F:Fun K "ring" "ring" s_ring f fd)(T:Txt K mg qp qx qf qu qy qm qd qw)(c_candidates:Cal P w K mg base "candidates" 9 (qk4 qw qy TT))(c_walked:Cal P w K mg base "walked" 5 (Zg K qw qx qf qu)) :
  FnOk P w K mg base (CXE P w) 10 f fd ["road","length"] (wwq qw qy TT):=by
 have sc:=xwn
 refine F.okX sc (λvs H Q E h=>by obtain ⟨r,hs,m,rfl,_⟩:=h;rfl) (λcdv A outer s H vs Q E hr h=>?_)
 obtain ⟨r,hs,m,rfl,hR,ok,m1,m2,kx,hT,k⟩:=h
 have n1:1≤m.toNat:=by lia
 have n2:m.toNat≤12:=by lia
 refine ⟨_,(qk (wb (i:=2) sc.nd rfl (by walk_at "loc") (q9 c_candidates (hr.mono (by decide)) rfl qc (qg (pv 0) (qg (pv 1) qv))))
   (qk (zf (wc vf (wg xu rfl T.len_ bH (qg (pv 2) qv)) qj (wn _)) (qh (wp Yk)) xj)
   (qh (wp (q9 c_walked (hr.mono (by decide)) rfl qc (qg (pv 0) (j4 (zv zk (pv 2) qj (λ_ _=>rfl)) (zu (ww vq (pv 1) qj) qv)))))))),?_⟩
 refine exI rfl (exI rfl ⟨r,hs,m,rfl,hR,ok,m1,m2,kx,hT,λfew q ys ps H4 k4 T4 f4 P4 mem4 _ l4=>?_⟩)
 have lp:=bT P4
 refine exI rfl ⟨_,_,rfl,.inl (SqL.of f4),rfl,_,rfl,?_⟩
 refine z9 (λz=>k few _ H4 k4 T4) (λz=>?_)
 have h0:0<ps.length:=by lia
 have e0:ps[0]?=some ps[0]:=ae h0
 have cp:=(mem4 _).mp (bu h0)
 generalize ps[0]=p at e0 cp
 obtain ⟨v,ev,⟨b,rfl,fb⟩⟩:=yf P4 e0
 obtain ⟨okp,ptp,itp⟩:=wxd ok n1 n2 (cp.1.imp (λz=>z.1) id)
 have ea:atI ys 0=some (.ref b):=v6 (j:=0) ev
 refine ⟨_,rfl,_,rfl,_,_,_,_,rfl,rfl,SqL.of f4,ea,_,rfl,_,_,rfl,rfl,r,b,hs,p.1,p.2,m-1,rfl,hR.kp k4,ok,SqT.of fb,λ_=>⟨okp.2.2.mono (by decide),λ_=>⟨λ_ q5 H5 nq s5 P5=>?_,λz=>absurd ⟨by lia,λy e=>by cases e;lia⟩ z⟩,λz=>absurd ptp.2.2.2 z⟩,λz=>absurd ptp.1 (by lia)⟩
 exact k few _ H5 (k4.trans (Kp.of s5)) (vn T4 s5)
end
section
variable {P:Ac}{w:Ah}{K:Aa}{mg:Str→Option Ag}{base:Heap}{qp:Aj}{qx:Aj}{qf:Aj}{qu:Aj}{qy:Aj}{qm:Aj}{qd:Aj}{qw:Aj}
def qvv (K:Aa)(TT:Aj):Sp:=λvs H Q _=>∃(a:Aj) (ns:List Int),vs=[.ref a]∧SqL K H a (ns.map V.int)∧ns.length≤63∧H TT=some (.tbl #[])∧∀H',Q (.bl true) H'
def qwm (K:Aa):Sp:=λvs H Q _=>∃(a:Aj) (ns:List Int),vs=[.ref a]∧SqL K H a (ns.map V.int)∧∀(p:Aj) (hs:List Int) (H':Hp),Same H H'→wv hs→H' p=some (.lst (hs.map V.int))→Q (.ref p) H'
theorem wz9 {f:Aj}{fd:Ad}(F:Fun K "_law_layers" "_law_layers" s__law_layers f fd)(T:Txt K mg qp qx qf qu qy qm qd qw)(c__law_pick:Cal P w K mg base "_law_pick" 2 (Wm K)):FnOk P w K mg base (CXE P w) 3 f fd ["_law_script"] (qwm K):=by
 have sc:=qwg
 refine F.okX sc (λvs H Q E h=>by obtain ⟨a,ns,rfl,_⟩:=h;rfl) (λcdv A outer s H vs Q E hr h=>?_)
 obtain ⟨a,ns,rfl,hS,k⟩:=h
 have big:(1000000:Nat)<sizeLine:=by decide
 have sm:∀z:Int,-(2 ^ 64)≤z→z≤2 ^ 64→Sm 65 z:=λz z1 z2=>Sm.small z1 z2 (by decide)
 refine ⟨_,(qk (wb (i:=1) sc.nd rfl (by walk_at "loc") (ww xv qj (q9 c__law_pick (hr.mono (by decide)) rfl qc (qg (pv 0) (xw qj (xw qj (xw qj qv)))))))
   (qk (wb (i:=2) sc.nd rfl (by walk_at "loc") (ww xv qj (q9 c__law_pick (hr.mono (by decide)) rfl qc (qg (pv 0) (xw qj (xw qj (xw qj qv)))))))
   (qk (wb (i:=3) sc.nd rfl (by walk_at "loc") (yk qv))
   (qk (yj bz rfl (xf rfl T.range_ (zu (ww xv (ww xy (pv 1) (pv 2)) qj) qv)) (wt (i:=4) sc.nd rfl (by walk_at "loc")) (qk (wb (i:=5) sc.nd rfl (by walk_at "loc") (wg (jd rfl) rfl T.min_ cB (zu (ww yt (pv 4) (pv 1)) (zu (ww vq (pv 2) qj) qv))))
   (qh (zg (qqh cn cC cD v4 (pv 3) (vv (wg (jd rfl) rfl T.min_ cB (zu (ww xy (pv 1) (pv 2)) (zu (ww xy (pv 1) (ww vq (ww xv (pv 5) qj) (ww v9 (pv 4) qj))) qv))) qv))))))
   (qh (wp (pv 3))))))),?_⟩
 refine exI rfl ⟨a,ns,_,_,_,rfl,hS,(by lia),(by lia),(by lia),(by lia),λr1 _ l1 u1=>(wy rfl rfl ?_)⟩
 refine exI rfl ⟨a,ns,_,_,_,rfl,hS,(by lia),(by lia),(by lia),(by lia),λr2 _ l2 u2=>(wy rfl rfl ?_)⟩
 have w1:3*2≤(3+r1)*(2+r2):=iS (by lia) (by lia) (by lia) (by lia)
 have w2:(3+r1)*(2+r2)≤6*4:=iS (by lia) (by lia) (by lia) (by lia)
 generalize hW:(3+r1)*(2+r2)=W at w1 w2
 refine ⟨sz0,λp np=>?_⟩
 refine ⟨_,rfl,_,rfl,_,_,rfl,rfl,(sm _ (by lia) (by lia)).ok (sm _ (by lia) (by lia)) (by decide),_,_,rfl,rfl,W+1,by rw [←hW],(by lia),(by lia),k9 (n:=(W+1).toNat) (λi σ H'=>∃(xs:List Int) (z1 z2:Option V),xs.length=i∧(∀h∈xs,0≤h∧h≤W)∧Same H H'∧H' p=some (.lst (xs.map V.int))∧σ=[some (.ref a),some (.int (3+r1)),some (.int (2+r2)),some (.ref p),z1,z2])
  ⟨[],_,_,rfl,(λh hh=>nomatch hh),Same.upd np,qb,rfl⟩ ?_ ?_⟩
 ·rintro i σ H1 hi ⟨xs,z1,z2,lx,bx,s1,f1,rfl⟩
  have m0:=bR ((0:Int)+i) (show (2:Int)≠0 by decide)
  have m1:=bA ((0:Int)+i) (show (0:Int)<2 by decide)
  have d0:0≤((0:Int)+i)/(3+r1):=iE (by lia) (by lia)
  refine exI rfl (exI rfl (wy rfl rfl ⟨⟨(by lia),(sm _ (by lia) (by lia)).mono (by decide)⟩,exI rfl (wy rfl rfl ⟨_,_,rfl,?_⟩)⟩))
  have ly:∀q:Int,0≤q→0≤(if 2+r2-1<q then 2+r2-1 else q)∧(if 2+r2-1<q then 2+r2-1 else q)≤4:=λq hq=>by split <;> lia
  have ly:=ly _ d0
  generalize (if 2+r2-1<((0:Int)+i)/(3+r1) then 2+r2-1 else ((0:Int)+i)/(3+r1))=y at ly ⊢
  have pr:0≤(3+r1)*(y+2-((0:Int)+i)%2):=cZ (by lia) (by lia)
  refine exI rfl ⟨.inl ⟨rfl,_,SqL.of f1⟩,exI rfl (exI rfl (wy rfl rfl ⟨(sm _ (by lia) (by lia)).ok (sm _ (by lia) (by lia)) (by decide),exI rfl (exI rfl (wy rfl rfl (exI rfl (wy rfl rfl ⟨(by walk_at "pos"),wy rfl rfl (wy rfl rfl ⟨(sm _ (by lia) (by lia)).ok (sm _ (by lia) (by lia)) (by decide),_,_,rfl,_,_,_,rfl,rfl,f1,?_,?_⟩)⟩))))⟩))⟩
  ·rw [ag,lx]
   lia
  ·refine ⟨xs++[if (3+r1)*(y+2-((0:Int)+i)%2)<(3+r1)*(2+r2) then (3+r1)*(y+2-((0:Int)+i)%2) else (3+r1)*(2+r2)],_,_,by rw [am,lx];rfl,λh hh=>?_,Same.upd2 s1 np,?_,rfl⟩
   ·rcases aU.mp hh with hh|hh
    ·exact bx h hh
    ·rw [aJ.mp hh,hW]
     split <;> lia
   ·rw [be]
    exact qb
 ·rintro σ H1 ⟨xs,z1,z2,lx,bx,s1,f1,rfl⟩
  have lx:xs.length=(W+1).toNat:=lx
  exact exI rfl (k p xs H1 s1 ⟨by lia,by lia,λh hh=>by have:=bx h hh;lia⟩ f1)
def wk6 (C CT TT:Aj):Sp:=λvs H Q E=>∃(r:Aj) (hs:List Int) (d m:Int),vs=[.ref r,.int d,.int m]∧RoadAt C H r hs∧wv hs∧1≤m∧m≤12∧zn TT zh j5 H∧0≤d∧d≤3 ∧
 (d=3→∃l:Nat,1≤l∧l≤m.toNat∧¬ crS hs l≤1000)∧(d=3∨¬ crS hs m.toNat≤1000→∀H',Kp H H'→zn TT zh j5 H'→E (.ref CT) none H')∧(d≠3→crS hs m.toNat≤1000→∀H',Kp H H'→zn TT zh j5 H'→Q .non H')
theorem ok_ask {f:Aj}{fd:Ad}{TT:Aj}(F:Fun K "_law_ask" "_law_ask" s__law_ask f fd)(T:Txt K mg qp qx qf qu qy qm qd qw)(c_rows:Cal P w K mg base "rows" 7 (qkv qw qu qy))(c_back:Cal P w K mg base "back" 8 (qvt qw qy TT))(c_ring:Cal P w K mg base "ring" 10 (wwq qw qy TT))(c_lengths:Cal P w K mg base "lengths" 10 (wqt qw qy TT)) :
  FnOk P w K mg base (CXE P w) 11 f fd ["_law_road","_law_door","_law_many"] (wk6 qw qy TT):=by
 have sc:=qy6
 refine F.okX sc (λvs H Q E h=>by obtain ⟨r,hs,d,m,rfl,_⟩:=h;rfl) (λcdv A outer s H vs Q E hr h=>?_)
 obtain ⟨r,hs,d,m,rfl,hR,ok,m1,m2,hT,d0,d3,hl,kx,k⟩:=h
 refine ⟨_,(qk (zf (wc vf (pv 1) qj (wn _)) (qh (zg (q9 c_rows (hr.mono (by decide)) rfl qc (qg (pv 0) (qg (pv 2) qv))))) xj)
   (qk (zf (wc vf (pv 1) qj (wn _)) (qh (zg (q9 c_back (hr.mono (by decide)) rfl qc (qg (pv 0) (qg (pv 2) qv))))) xj)
   (qk (zf (wc vf (pv 1) qj (wn _)) (qh (zg (q9 c_ring (hr.mono (by decide)) rfl qc (qg (pv 0) (qg (pv 2) qv))))) xj)
   (qh (zf (wc vf (pv 1) qj (wn _)) (qh (zg (q9 c_lengths (hr.mono (by decide)) rfl qc (qg (pv 0) (qg (pv 2) qv))))) xj))))),?_⟩
 refine exI rfl ⟨rfl,_,rfl,z9 (λe=>?_) (λe0=>?_)⟩
 ·refine ⟨_,rfl,_,rfl,r,hs,m,rfl,hR,ok,m1,m2,λz H' s'=>kx (.inr z) H' (Kp.of s') (vn hT s'),λfew p ys H' _ s' _ _=>?_⟩
  refine exI rfl ⟨rfl,_,rfl,z9 (λz=>absurd z (by lia)) (λ_=>?_)⟩
  refine exI rfl ⟨rfl,_,rfl,z9 (λz=>absurd z (by lia)) (λ_=>?_)⟩
  exact exI rfl ⟨rfl,_,rfl,z9 (λz=>absurd z (by lia)) (λ_=>k (by lia) few H' (Kp.of s') (vn hT s'))⟩
 refine exI rfl ⟨rfl,_,rfl,z9 (λe=>?_) (λe1=>?_)⟩
 ·refine ⟨_,rfl,_,rfl,r,hs,m,rfl,hR,ok,m1,m2,λz H' s'=>kx (.inr z) H' (Kp.of s') (vn hT s'),hT,λfew a lp lw ys pts ws H' k' T' _ _ _ _ _=>?_⟩
  refine exI rfl ⟨rfl,_,rfl,z9 (λz=>absurd z (by lia)) (λ_=>?_)⟩
  exact exI rfl ⟨rfl,_,rfl,z9 (λz=>absurd z (by lia)) (λ_=>k (by lia) few H' k' T')⟩
 refine exI rfl ⟨rfl,_,rfl,z9 (λe=>?_) (λe2=>?_)⟩
 ·refine ⟨_,rfl,_,rfl,r,hs,m,rfl,hR,ok,m1,m2,λz H' s'=>kx (.inr z) H' (Kp.of s') (vn hT s'),hT,λfew v H' k' T'=>?_⟩
  exact exI rfl ⟨rfl,_,rfl,z9 (λz=>absurd z (by lia)) (λ_=>k (by lia) few H' k' T')⟩
 refine exI rfl ⟨rfl,_,rfl,z9 (λe=>?_) (λe3=>absurd d3 (by lia))⟩
 exact exI rfl (exI rfl ⟨r,hs,m,rfl,hR,ok,m1,m2,hl e,hT,λH' k' T'=>kx (.inl e) H' k' T'⟩)
def qup (C TT:Aj):Sp:=λvs H Q _=>∃(r:Aj) (hs:List Int) (d m:Int),vs=[.ref r,.int d,.int m]∧RoadAt C H r hs∧wv hs∧1≤m∧m≤12∧zn TT zh j5 H∧0≤d∧d≤3 ∧
 (d=3→∃l:Nat,1≤l∧l≤m.toNat∧¬ crS hs l≤1000)∧(d=3∨¬ crS hs m.toNat≤1000→∀H',Kp H H'→zn TT zh j5 H'→Q (.str "long") H')∧(d≠3→crS hs m.toNat≤1000→∀H',Kp H H'→zn TT zh j5 H'→Q (.str "none") H')
theorem xqy {f:Aj}{fd:Ad}{TT:Aj}(F:Fun K "_law_told" "_law_told" s__law_told f fd)(T:Txt K mg qp qx qf qu qy qm qd qw)(c__law_ask:Cal P w K mg base "_law_ask" 11 (wk6 qw qy TT)) :
  FnOk P w K mg base (CXE P w) 12 f fd ["_law_road","_law_door","_law_many"] (qup qw TT):=by
 have sc:=qkc
 refine F.okX sc (λvs H Q E h=>by obtain ⟨r,hs,d,m,rfl,_⟩:=h;rfl) (λcdv A outer s H vs Q E hr h=>?_)
 obtain ⟨r,hs,d,m,rfl,hR,ok,m1,m2,hT,d0,d3,hl,kx,k⟩:=h
 refine ⟨_,(qk (wb (i:=3) sc.nd rfl (by walk_at "loc") kh)
   (qk (xw3 rfl rfl rfl T.g_TooLong rfl T.g_RoadError (λpn xe E hE hO=>(qh (zg (q9 c__law_ask (hr.mono (by decide)) rfl hE (qg (pv 0) (qg (pv 1) (qg (pv 2) qv))))))) (λe=>(qh (wb (i:=3) sc.nd rfl (by walk_at "loc") kh))) (λe=>(qh (wb (i:=3) sc.nd rfl (by walk_at "loc") kh))))
   (qh (wp (pv 3))))),?_⟩
 refine ⟨_,rfl,_,rfl,_,rfl,r,hs,d,m,rfl,hR,ok,m1,m2,hT,d0,d3,hl,λz H' k' T'=>⟨qy,rfl,.inl ⟨qu4 T.x_TooLong,?_⟩⟩,λz1 z2 H' k' T'=>?_⟩
 ·exact exI rfl (kx z H' k' T')
 ·exact exI rfl (k z1 z2 H' k' T')
theorem iteSe {a:Str}{A B:Prop}(h:B):if (!decide (V.str a=V.str a))=true then A else B:=by
 rw [aT rfl]
 exact qw4 h
theorem at_two {r:Int}(x y:Int)(h0:0≤r)(h1:r<2):atI [V.int x,V.int y] r=some (.int (if r=1 then y else x)):=by
 have:r=0∨r=1:=by lia
 rcases this with rfl|rfl <;> rfl
set_option maxHeartbeats 0 in
theorem ok_law {f:Aj}{fd:Ad}{TT:Aj}(F:Fun K "law" "law" s_law f fd)(T:Txt K mg qp qx qf qu qy qm qd qw)(c__law_pick:Cal P w K mg base "_law_pick" 2 (Wm K))(c__law_heights:Cal P w K mg base "_law_heights" 4 (Yj K))(c__law_layers:Cal P w K mg base "_law_layers" 3 (qwm K))(c_Road:CCal P w K mg base "Road" qw 2 (qk1 K qp qw))(c__law_crowds:Cal P w K mg base "_law_crowds" 1 (qqr K))(c__law_told:Cal P w K mg base "_law_told" 12 (qup qw TT)) :
  FnOk P w K mg base (CXE P w) 13 f fd ["_law_script"] (qvv K TT):=by
 have sc:=sc_law
 refine F.okX sc (λvs H Q E h=>by obtain ⟨a,ns,rfl,_⟩:=h;rfl) (λcdv A outer s H vs Q E hr h=>?_)
 obtain ⟨a,ns,rfl,hS,hl,hT,k⟩:=h
 have big:(1000000:Nat)<sizeLine:=by decide
 have sm:∀z:Int,-(2 ^ 64)≤z→z≤2 ^ 64→Sm 65 z:=λz z1 z2=>Sm.small z1 z2 (by decide)
 refine ⟨_,(qk (wb (i:=1) sc.nd rfl (by walk_at "loc") (q9 c__law_heights (hr.mono (by decide)) rfl qc (qg (pv 0) (xw qj (j4 (zv zk (yk (xw qj (xw qj qv))) (q9 c__law_pick (hr.mono (by decide)) rfl qc (qg (pv 0) (xw qj (xw qj (xw qj qv))))) (λ_ _=>rfl)) qv)))))
   (Jr (zf (wc vf (q9 c__law_pick (hr.mono (by decide)) rfl qc (qg (pv 0) (xw qj (xw qj (xw qj qv))))) qj (wn _)) (qk (wb (i:=2) sc.nd rfl (by walk_at "loc") (ww vq (wg xu rfl T.len_ bH (qg (pv 1) qv)) qj))
   (qh (jn (i:=1) (M:=[2]) sc.nd rfl (by walk_at "loc") rfl rfl (by walk_at "cap") (by walk_at "has") (by walk_at "cix") rfl (by decide +kernel) rfl (show List.Nodup (["_law_k","_law_wide"]:List Str) by decide +kernel) (xf rfl T.range_ (zu (ww xv (pv 2) qj) qv)) (λ_ _ _ _ _=>(ww xy (pv 1) (ww v9 (pv 0) qj)))))) xj)
   (qk (wb (i:=3) sc.nd rfl (by walk_at "loc") (ww xv qj (q9 c__law_pick (hr.mono (by decide)) rfl qc (qg (pv 0) (xw qj (xw qj (xw qj qv)))))))
   (Jr (zf (wc vf (q9 c__law_pick (hr.mono (by decide)) rfl qc (qg (pv 0) (xw qj (xw qj (xw qj qv))))) qj (wn _)) (qh (wb (i:=3) sc.nd rfl (by walk_at "loc") (ww xv qj (ww v9 (pv 3) qj)))) xj)
   (Jr (zf (wc vf (q9 c__law_pick (hr.mono (by decide)) rfl qc (qg (pv 0) (xw qj (xw qj (xw qj qv))))) qj (wn _)) (qk (wb (i:=1) sc.nd rfl (by walk_at "loc") (q9 c__law_layers (hr.mono (by decide)) rfl qc (qg (pv 0) qv)))
   (qh (wb (i:=3) sc.nd rfl (by walk_at "loc") (ww xv qj (q9 c__law_pick (hr.mono (by decide)) rfl qc (qg (pv 0) (xw qj (xw qj (xw qj qv))))))))) xj)
   (qk (wb (i:=4) sc.nd rfl (by walk_at "loc") (wym c_Road (hr.mono (by decide)) rfl qc (vv (Z7 Zr rfl T.list_ d8 (qg (pv 1) qv)) qv)))
   (qk (wb (i:=5) sc.nd rfl (by walk_at "loc") (q9 c__law_crowds (hr.mono (by decide)) rfl qc (qg (pv 1) (qg (pv 3) qv))))
   (qk (wb (i:=6) sc.nd rfl (by walk_at "loc") (Q3 Qj (zv zk (pv 5) (qww W4 qj) (λ_ _=>rfl)) qj (wn _)))
   (Jr (zf (PW.pt (qu6 (wc Qj (wg (Ww rfl) rfl T.max_ cU (qg (pv 5) qv)) qj (wn _)) (qkj (wc op_ne (q9 c__law_told (hr.mono (by decide)) rfl qc (qg (pv 4) (xw qj (qg (pv 3) qv)))) kh (wn _))))) (qh (wp wjs)) xj)
   (qk (yj bz rfl (xf rfl T.range_ (xw qj qv)) (wt (i:=7) sc.nd rfl (by walk_at "loc")) (qh (zf (PW.pt (qu6 (wwy (pv 6)) (qkj (wc op_ne (q9 c__law_told (hr.mono (by decide)) rfl qc (qg (pv 4) (qg (pv 7) (qg (pv 3) qv)))) kh (wn _))))) (qh (wp wjs)) xj)))
   (qh (wp (pe_or (pv 6) (wqg (Q3 vf (q9 c__law_told (hr.mono (by decide)) rfl qc (qg (pv 4) (vv (q9 c__law_pick (hr.mono (by decide)) rfl qc (qg (pv 0) (xw qj (xw qj (xw qj qv))))) (qg (pv 3) qv)))) kh (wn _)))))))))))))))),?_⟩
 refine exI rfl ⟨sz2,λp0 n0=>?_⟩
 have s0:Same H (upd H p0 (.lst [.int 12,.int 6])):=Same.upd n0
 refine exI rfl ⟨a,ns,_,_,_,rfl,s0.sql hS,(by lia),(by lia),(by lia),(by lia),λr0 er0 l0 u0=>?_⟩
 refine exX rfl rfl SqL.new (at_two 12 6 l0 u0) ?_
 generalize upd H p0 (.lst [.int 12,.int 6])=H0 at s0
 refine ⟨a,ns,_,_,rfl,s0.sql hS,(by lia),(by split <;> lia),(by split <;> lia),λp1 hs1 w1 n1 a1 b1 i1=>?_⟩
 have ok1:wv hs1:=ww2 i1 a1 (by split at b1 <;> lia)
 have s1:Same H (upd H0 p1 (.lst (hs1.map V.int))):=s0.trans (Same.upd n1)
 have f1:upd H0 p1 (.lst (hs1.map V.int)) p1=some (.lst (hs1.map V.int)):=qb
 generalize upd H0 p1 (.lst (hs1.map V.int))=H1 at s1 f1
 refine ⟨λσ H'=>∃(p:Aj) (hs:List Int) (z:Option V),σ=[some (.ref a),some (.ref p),z,none,none,none,none,none]∧Same H H'∧wv hs∧H' p=some (.lst (hs.map V.int)),?_,?_⟩
 ·refine exI rfl ⟨a,ns,_,_,_,rfl,s1.sql hS,(by lia),(by lia),(by lia),(by lia),λr1 _ l1 u1=>?_⟩
  refine ⟨rfl,_,rfl,z9 (λq1=>?_) (λq1=>⟨p1,hs1,exI rfl ⟨s1,ok1,f1⟩⟩)⟩
  have o1:=ok1.1
  have o2:=ok1.2.1
  have lm:(hs1.map V.int).length=hs1.length:=ag _
  refine exI rfl ⟨p1,exI rfl ⟨.inl (SqL.of f1),wy rfl rfl ?_⟩⟩
  rw [lm]
  have hn:(((hs1.length:Int)-1+1).toNat:Int)=(hs1.length:Int)-1+1:=by lia
  refine exI rfl (wy rfl rfl ⟨(hs1.length:Int)-1+1,rfl,(by lia),(by lia),vk (λj=>V.int (((hs1.length:Int)-1)*(((0:Int)+j)%2))) (by lia) (λj H' R hj hs hR=>?_) λp np=>?_⟩)
  ·exact exI rfl (exI rfl (wy rfl rfl ⟨(by walk_at "pos"),wy rfl rfl ⟨(by walk_at "mul"),hR⟩⟩))
  ·rw [Wk]
   refine ⟨p,_,_,rfl,s1.trans (Same.upd np),ww2 (qzq _ hn λj hj=>?_) (by lia) (by lia),qb⟩
   have a1:=bR ((0:Int)+j) (show (2:Int)≠0 by decide)
   have a2:=bA ((0:Int)+j) (show (0:Int)<2 by decide)
   rcases (by lia:((0:Int)+j)%2=0∨((0:Int)+j)%2=1) with e|e <;> rw [e] <;> lia
 rintro σ H2 ⟨p2,hs2,z2,rfl,s2,ok2,f2⟩
 refine exI rfl ⟨a,ns,_,_,_,rfl,s2.sql hS,(by lia),(by lia),(by lia),(by lia),λr2 _ l2 u2=>(wy rfl rfl ?_)⟩
 refine ⟨λσ H'=>∃(m:Int),σ=[some (.ref a),some (.ref p2),z2,some (.int m),none,none,none,none]∧H'=H2∧1≤m∧m≤12,?_,?_⟩
 ·refine exI rfl ⟨a,ns,_,_,_,rfl,s2.sql hS,(by lia),(by lia),(by lia),(by lia),λr1 _ l1 u1=>?_⟩
  refine ⟨rfl,_,rfl,z9 (λq1=>?_) (λq1=>⟨_,rfl,rfl,by lia,by lia⟩)⟩
  have a1:=bR ((1:Int)+r2) (show (4:Int)≠0 by decide)
  have a2:=bA ((1:Int)+r2) (show (0:Int)<4 by decide)
  exact ⟨_,rfl,_,_,rfl,rfl,(by walk_at "pos"),_,_,rfl,rfl,_,rfl,rfl,by lia,by lia⟩
 rintro σ H2' ⟨m2,rfl,rfl,m21,m22⟩
 refine ⟨λσ H'=>∃(p:Aj) (hs:List Int) (m:Int),σ=[some (.ref a),some (.ref p),z2,some (.int m),none,none,none,none]∧Same H H'∧wv hs∧H' p=some (.lst (hs.map V.int))∧1≤m∧m≤12,?_,?_⟩
 ·refine exI rfl ⟨a,ns,_,_,_,rfl,s2.sql hS,(by lia),(by lia),(by lia),(by lia),λr1 _ l1 u1=>?_⟩
  refine ⟨rfl,_,rfl,z9 (λq1=>?_) (λq1=>⟨p2,hs2,m2,rfl,s2,ok2,f2,m21,m22⟩)⟩
  refine exI rfl ⟨a,ns,rfl,s2.sql hS,λp3 hs3 H3 s3 ok3 f3=>?_⟩
  exact exI rfl ⟨a,ns,_,_,_,rfl,(s2.trans s3).sql hS,(by lia),(by lia),(by lia),(by lia),λr3 _ l3 u3=>⟨_,_,rfl,rfl,p3,hs3,_,rfl,s2.trans s3,ok3,f3,by lia,by lia⟩⟩
 rintro σ H3 ⟨p3,hs,m,rfl,s3,ok,f3,m1,m2'⟩
 clear s1 s2 f2 f1 ok1 ok2
 have o1:=ok.1
 have o2:=ok.2.1
 refine exI rfl ⟨p3,exI rfl ⟨.inl (SqL.of f3),λp4 n4=>?_⟩⟩
 refine λrd d0 nr nd0 ne0=>xqw (H:=upd H3 p4 (.lst (hs.map V.int))) (hs:=hs) qb nr nd0 (λokl H4 s4' R4=>?_) λz=>absurd ok z
 have s34:Same H3 H4:=(Same.upd n4).trans s4'
 have s4:=s3.trans s34
 have f4:=s34 _ _ f3
 clear s4' nr nd0 ne0 n4 f3 s34
 refine exI rfl (exI rfl ⟨p3,hs,m,rfl,SqL.of f4,ok,m1,m2',λq5 H5 s5 f5=>?_⟩)
 have n1':1≤m.toNat:=by lia
 have R5:=R4.same s5
 have T5:zn TT zh j5 H5:=vn (.inl hT) (s4.trans s5)
 have S5:=(s4.trans s5).sql hS
 have lc:(zy m.toNat λi=>crS hs (i+1)).length=m.toNat:=yb ..
 have last:atI ((zy m.toNat λi=>crS hs (i+1)).map V.int) (-1)=some (.int (crS hs m.toNat)):=by
  obtain ⟨j,hj⟩:∃j,m.toNat=j+1:=⟨m.toNat-1,by lia⟩
  rw [hj]
  have:(zy (j+1) λi=>crS hs (i+1))=(zy j λi=>crS hs (i+1))++[crS hs (j+1)]:=by
   unfold zy
   rw [cx,be]
   rfl
  rw [this,be]
  exact Qm _ _
 refine exI rfl (exI rfl (exX rfl rfl (SqL.of f5) last (wy rfl rfl ?_)))
 refine ⟨λσ H'=>σ=[some (.ref a),some (.ref p3),z2,some (.int m),some (.ref rd),some (.ref q5),some (.bl (decide (crS hs m.toNat>1000))),none]∧Kp H5 H'∧zn TT zh j5 H',?_,?_⟩
 ·refine exI rfl ⟨q5,exI rfl ⟨SqL.of f5,(by rw [lc];lia),λmx hmx hall=>?_⟩⟩
  refine wy rfl rfl (exI rfl (jz (λz=>?_) (λz=>qw4 ⟨rfl,Kp.of (Same.refl _),T5⟩)))
  obtain ⟨i,hi,rfl⟩:∃i,i<m.toNat∧crS hs (i+1)=mx:=by
   unfold zy at hmx
   obtain ⟨i,hi,e⟩:=aO.mp hmx
   exact ⟨i,au.mp hi,e⟩
  refine ⟨_,rfl,_,rfl,rd,hs,3,m,rfl,R5,ok,m1,m2',T5,by decide,by decide,λ_=>⟨i+1,by lia,by lia,by lia⟩,λ_ H6 k6 T6=>⟨rfl,_,rfl,iteSe ⟨rfl,k6,T6⟩⟩,λz=>absurd rfl z⟩
 rintro σ H6 ⟨rfl,k6,T6⟩
 have R6:=RoadAt.kp R5 k6
 have S6:=k6.sql S5
 clear R5 T5 S5 k6 f5
 refine exI rfl ⟨(by decide),(by decide),k9 (n:=(3:Int).toNat) (λi σ H'=>Kp H6 H'∧zn TT zh j5 H'∧∃z,σ=[some (.ref a),some (.ref p3),z2,some (.int m),some (.ref rd),some (.ref q5),some (.bl (decide (crS hs m.toNat>1000))),z]) ⟨Kp.of (Same.refl _),T6,_,rfl⟩ ?_ ?_⟩
 ·rintro i σ H7 hi ⟨k7,T7,z,rfl⟩
  have hi:i<3:=hi
  refine exI rfl (exI rfl (jz (λy=>?_) (λy=>qw4 ⟨k7,T7,_,rfl⟩)))
  refine ⟨_,rfl,_,rfl,_,rfl,rd,hs,_,m,rfl,RoadAt.kp R6 k7,ok,m1,m2',T7,(by lia),(by lia),(λz=>by lia),λ_ H8 k8 T8=>⟨rfl,_,rfl,iteSe ⟨k7.trans k8,T8,_,rfl⟩⟩,λ_ z=>absurd z (by lia)⟩
 ·rintro σ H7 ⟨k7,T7,z,rfl⟩
  refine exI rfl (exI rfl (jz (λy=>k _) (λy=>?_)))
  refine exI rfl (exI rfl ⟨a,ns,_,_,_,rfl,k7.sql S6,(by lia),(by lia),(by lia),(by lia),λr9 _ l9 u9=>?_⟩)
  refine ⟨_,rfl,rd,hs,r9,m,rfl,RoadAt.kp R6 k7,ok,m1,m2',T7,(by lia),(by lia),(λz=>by lia),λz=>absurd z (by lia),λ_ _ H8 k8 T8=>⟨rfl,?_⟩⟩
  rw [aT rfl]
  exact k _
end
section
theorem all_mk {l:PySem.W.OpenLaw}{w:Ah}{K:Aa}{h:Heap}{mg:Str→Option Ag}{fa cO TT:Aj}{qp:Aj}{qx:Aj}{qf:Aj}{qu:Aj}{qy:Aj}{qm:Aj}{qd:Aj}{qw:Aj}{t_WIDEST:Tok}{t_LONGEST_TRACE:Tok}{t_LONGEST_ROW:Tok}{t_MOST_WAYS:Tok}{t_MOST_WALKED:Tok}(X:K.In h)(G:h.Ns mainGlobals mg)(hfa:mg "law" = some (.ref fa))
  (d__law_cell:DefIn K "_law_cell" s__law_cell)
  (d__law_pick:DefIn K "_law_pick" s__law_pick)
  (d_check_count:DefInD K "check_count" s_check_count)
  (d_check_bottom:DefIn K "check_bottom" s_check_bottom)
  (d_is_line:DefIn K "is_line" s_is_line)
  (d_covered:DefIn K "covered" s_covered)
  (d_covers_of:DefIn K "covers_of" s_covers_of)
  (d_ways_of_no_step:DefIn K "ways_of_no_step" s_ways_of_no_step)
  (d_one_step_more:DefIn K "one_step_more" s_one_step_more)
  (d_ways_up_to:DefIn K "ways_up_to" s_ways_up_to)
  (d_rows_from:DefIn K "rows_from" s_rows_from)
  (d_rows:DefIn K "rows" s_rows)
  (d_common_divisor:DefIn K "common_divisor" s_common_divisor)
  (d_lowest:DefIn K "lowest" s_lowest)
  (d_ordered:DefInT K "ordered" s_ordered cO) (hC:PySem.W.codeHdIn K cO TT=true)
  (d_walked:DefIn K "walked" s_walked)
  (d_corners_back:DefIn K "corners_back" s_corners_back)
  (d_lies_in:DefIn K "lies_in" s_lies_in)
  (d_line_along:DefIn K "line_along" s_line_along)
  (d_fixed_point:DefIn K "fixed_point" s_fixed_point)
  (d_back:DefIn K "back" s_back)
  (d__law_climb:DefIn K "_law_climb" s__law_climb)
  (d__law_heights:DefIn K "_law_heights" s__law_heights)
  (d__law_crowds:DefIn K "_law_crowds" s__law_crowds)
  (d_trace:DefIn K "trace" s_trace)
  (d_least:DefIn K "least" s_least)
  (d_candidates:DefIn K "candidates" s_candidates)
  (d_lengths:DefIn K "lengths" s_lengths)
  (d_ring:DefIn K "ring" s_ring)
  (d__law_layers:DefIn K "_law_layers" s__law_layers)
  (d__law_ask:DefIn K "_law_ask" s__law_ask)
  (d__law_told:DefIn K "_law_told" s__law_told)
  (d_law:DefIn K "law" s_law)
  (a_BadLine:PySem.W.nsIn K mainGlobals "BadLine" = some (some (.ref qp)))
  (x_BadLine:PySem.W.excIn K qp [.type "ValueError",.type "Exception",.type "BaseException",.type "object"] "ValueError.__new__" = true)
  (a_BadBottom:PySem.W.nsIn K mainGlobals "BadBottom" = some (some (.ref qx)))
  (x_BadBottom:PySem.W.excIn K qx [.type "ValueError",.type "Exception",.type "BaseException",.type "object"] "ValueError.__new__" = true)
  (a_OffRoad:PySem.W.nsIn K mainGlobals "OffRoad" = some (some (.ref qf)))
  (x_OffRoad:PySem.W.excIn K qf [.type "ValueError",.type "Exception",.type "BaseException",.type "object"] "ValueError.__new__" = true)
  (a_BadCount:PySem.W.nsIn K mainGlobals "BadCount" = some (some (.ref qu)))
  (x_BadCount:PySem.W.excIn K qu [.type "ValueError",.type "Exception",.type "BaseException",.type "object"] "ValueError.__new__" = true)
  (a_TooLong:PySem.W.nsIn K mainGlobals "TooLong" = some (some (.ref qy)))
  (x_TooLong:PySem.W.excIn K qy [.type "ValueError",.type "Exception",.type "BaseException",.type "object"] "ValueError.__new__" = true)
  (a_BadRow:PySem.W.nsIn K mainGlobals "BadRow" = some (some (.ref qm)))
  (x_BadRow:PySem.W.excIn K qm [.type "ValueError",.type "Exception",.type "BaseException",.type "object"] "ValueError.__new__" = true)
  (a_RoadError:PySem.W.nsIn K mainGlobals "RoadError" = some (some (.ref qd)))
  (x_RoadError:PySem.W.excIn K qd [.type "ValueError",.type "Exception",.type "BaseException",.type "object"] "ValueError.__new__" = true)
  (a_Road:PySem.W.nsIn K mainGlobals "Road" = some (some (.ref qw)))
  (pg_Road:PySem.W.plainGet K qw Str.empty=true)
  (hd_Road:PySem.W.hasDictIn K qw=true)
  (po_Road:PySem.W.plainOver K qw=true)
  (sa_Road:PySem.W.findIn K (.ref qw) "__setattr__" = some (some (.builtin "object.__setattr__")))
  (mk_Road:PySem.W.makesIn K qw=true)
  (kc_Road:PySem.W.keepIn K (.ref qw)=true)
  (m_Road___init__:MethIn K qw "__init__" "Road.__init__" s_Road___init__)
  (m_Road_width:MethIn K qw "width" "Road.width" s_Road_width)
  (m_Road_ends:MethIn K qw "ends" "Road.ends" s_Road_ends)
  (m_Road_reach:MethIn K qw "reach" "Road.reach" s_Road_reach)
  (m_Road_slope:MethIn K qw "slope" "Road.slope" s_Road_slope)
  (m_Road_on_road:MethIn K qw "on_road" "Road.on_road" s_Road_on_road)
  (m_Road_at:MethIn K qw "at" "Road.at" s_Road_at)
  (na_Road_heights:PySem.W.findIn K (.ref qw) "heights" = some none)
  (g_WIDEST:PySem.W.nsIn K mainGlobals "WIDEST" = some (some (.int 24 t_WIDEST)))
  (g_LONGEST_TRACE:PySem.W.nsIn K mainGlobals "LONGEST_TRACE" = some (some (.int 1000 t_LONGEST_TRACE)))
  (g_LONGEST_ROW:PySem.W.nsIn K mainGlobals "LONGEST_ROW" = some (some (.int 12 t_LONGEST_ROW)))
  (g_MOST_WAYS:PySem.W.nsIn K mainGlobals "MOST_WAYS" = some (some (.int 1000 t_MOST_WAYS)))
  (g_MOST_WALKED:PySem.W.nsIn K mainGlobals "MOST_WALKED" = some (some (.int 1000 t_MOST_WALKED)))
  (z_len:PySem.W.nsIn K mainGlobals "len" = some none)
  (z_abs:PySem.W.nsIn K mainGlobals "abs" = some none)
  (z_range:PySem.W.nsIn K mainGlobals "range" = some none)
  (z_isinstance:PySem.W.nsIn K mainGlobals "isinstance" = some none)
  (z_int:PySem.W.nsIn K mainGlobals "int" = some none)
  (z_bool:PySem.W.nsIn K mainGlobals "bool" = some none)
  (z_list:PySem.W.nsIn K mainGlobals "list" = some none)
  (z_tuple:PySem.W.nsIn K mainGlobals "tuple" = some none)
  (z_min:PySem.W.nsIn K mainGlobals "min" = some none)
  (z_max:PySem.W.nsIn K mainGlobals "max" = some none)
  (z_all:PySem.W.nsIn K mainGlobals "all" = some none)
  (z_any:PySem.W.nsIn K mainGlobals "any" = some none)
  (z_sum:PySem.W.nsIn K mainGlobals "sum" = some none)
  (z_sorted:PySem.W.nsIn K mainGlobals "sorted" = some none)
  (z_zip:PySem.W.nsIn K mainGlobals "zip" = some none)
  (z_set:PySem.W.nsIn K mainGlobals "set" = some none) :
  ∃fd:Ad,(∀(s:Ab) (v:Ag),BindsTo s fd ⟨[v],[]⟩ [("_law_script",v)])∧∀base:Heap,K.In base→base.Ns mainGlobals mg→BMain mg base→FnOk l.prog w K mg base (CXE l.prog w) 13 fa fd ["_law_script"] (qvv K TT):=by
 have T:Txt K mg qp qx qf qu qy qm qd qw:=⟨bj X G z_len,bj X G z_abs,bj X G z_range,bj X G z_isinstance,bj X G z_int,bj X G z_bool,bj X G z_list,bj X G z_tuple,bj X G z_min,bj X G z_max,bj X G z_all,bj X G z_any,bj X G z_sum,bj X G z_sorted,bj X G z_zip,bj X G z_set,bI X G a_BadLine,⟨x_BadLine⟩,bI X G a_BadBottom,⟨x_BadBottom⟩,bI X G a_OffRoad,⟨x_OffRoad⟩,bI X G a_BadCount,⟨x_BadCount⟩,bI X G a_TooLong,⟨x_TooLong⟩,bI X G a_BadRow,⟨x_BadRow⟩,bI X G a_RoadError,⟨x_RoadError⟩,⟨pg_Road,hd_Road,po_Road,sa_Road⟩,na_Road_heights,⟨t_WIDEST,bI X G g_WIDEST⟩,bI X G a_Road,⟨t_LONGEST_TRACE,bI X G g_LONGEST_TRACE⟩,⟨t_LONGEST_ROW,bI X G g_LONGEST_ROW⟩,⟨t_MOST_WAYS,bI X G g_MOST_WAYS⟩,⟨t_MOST_WALKED,bI X G g_MOST_WALKED⟩⟩
 obtain ⟨f,fd,a,F⟩:=d_law.ex
 have e:=hfa.symm.trans (bI X G a)
 cases e
 refine ⟨fd,λs v=>?_,λbase kb nb hB=>?_⟩
 ·obtain ⟨oc,od,kV,doc,pm,an,cdv,ct,osl,rfl,lk,hcd⟩:=F.ex
  exact .of_eq rfl
 ·have c1:Cal l.prog w K mg base "_law_cell" 1 (qu5 K):=d__law_cell.cal X G qku λf fd F=>xwu F T
  have c2:Cal l.prog w K mg base "_law_pick" 2 (Wm K):=d__law_pick.cal X G qv4 λf fd F=>xw9 F T c1
  have c3:CalD l.prog w K mg base "check_count" 1 (W7 qu):=d_check_count.cal X G qwj qq6 λf fd F=>wyw F T
  have c4:Cal l.prog w K mg base "check_bottom" 1 (Jm qx):=d_check_bottom.cal X G Jy λf fd F=>wug F T
  have c5:Cal l.prog w K mg base "is_line" 1 (qq8 K):=d_is_line.cal X G qu7 λf fd F=>wwj F T
  have c6:CCal l.prog w K mg base "Road" qw 2 (qk1 K qp qw):=m_Road___init__.ccal T.g_Road mk_Road kc_Road Yu λf fd F=>xwf F T c5
  have c7:MCal l.prog w K mg base qw "width" 1 (jb qw):=m_Road_width.cal qxb λf fd F=>wyz F T
  have c8:MCal l.prog w K mg base qw "ends" 2 (Yd qw qm):=m_Road_ends.cal qkt λf fd F=>xwz F T c7
  have c9:MCal l.prog w K mg base qw "reach" 3 (qv1 qw qm):=m_Road_reach.cal qxs λf fd F=>wuf F T c8
  have c10:MCal l.prog w K mg base qw "slope" 3 (qvz qw qm):=m_Road_slope.cal qx4 λf fd F=>wkc F T c8
  have c11:Cal l.prog w K mg base "covered" 4 (Yt qw qm):=d_covered.cal X G wq3 λf fd F=>wwb F T c9
  have c12:Cal l.prog w K mg base "covers_of" 5 (uz qw):=d_covers_of.cal X G qvq λf fd F=>qvd F T c7 c11
  have c13:Cal l.prog w K mg base "ways_of_no_step" 1 qxw:=d_ways_of_no_step.cal X G Wg λf fd F=>wwh F T
  have c14:∀hs,wv hs→Cal l.prog w K mg base "one_step_more" 1 (Z1 hs):=λhs ok=>d_one_step_more.cal X G Yc λf fd F=>quk ok F T
  have c15:Cal l.prog w K mg base "ways_up_to" 6 (qqt qw):=d_ways_up_to.cal X G qxc λf fd F=>wqc F T c12 c7 c13 c14
  have c16:Cal l.prog w K mg base "rows_from" 1 Wr:=d_rows_from.cal X G qvr λf fd F=>qvc F T
  have c17:Cal l.prog w K mg base "rows" 7 (qkv qw qu qy):=d_rows.cal X G xwy λf fd F=>xwd F T c3 c15 c12 c7 c16
  have c18:Cal l.prog w K mg base "common_divisor" 1 wut:=d_common_divisor.cal X G Zk λf fd F=>ok_gcd F T
  have c19:Cal l.prog w K mg base "lowest" 2 (Qb qx):=d_lowest.cal X G wz6 λf fd F=>wz8 F T c4 c18
  have c20:Cal l.prog w K mg base "ordered" 6 (wzq K TT qx):=d_ordered.cal X G wwk λf fd F=>ok_ord F T hB hC c4
  have c21:MCal l.prog w K mg base qw "on_road" 3 (Qw K qw qx qf):=m_Road_on_road.cal Jg λf fd F=>qu8 F T c7 c19
  have c22:MCal l.prog w K mg base qw "at" 4 (spAt K qw qx qf):=m_Road_at.cal wq8 λf fd F=>ok_at F T c7 c19 c8 c21
  have c23:Cal l.prog w K mg base "walked" 5 (Zg K qw qx qf qu):=d_walked.cal X G wkj λf fd F=>wv6 F T c3 c21 c22
  have c24:Cal l.prog w K mg base "corners_back" 6 (qvs qw):=d_corners_back.cal X G Jc λf fd F=>wy2 F T c7 c23
  have c25:Cal l.prog w K mg base "lies_in" 1 (quh K):=d_lies_in.cal X G wq9 λf fd F=>xwk F T
  have c26:Cal l.prog w K mg base "line_along" 4 (qkm K qw):=d_line_along.cal X G qxy λf fd F=>wkh F T c10 c8
  have c27:Cal l.prog w K mg base "fixed_point" 5 (qvb K qw):=d_fixed_point.cal X G qwp λf fd F=>wjj F T c26 c19
  have c28:Cal l.prog w K mg base "back" 8 (qvt qw qy TT):=d_back.cal X G xqh λf fd F=>xxb F T c17 c27 c24 c25 c20
  have c29:Cal l.prog w K mg base "_law_climb" 3 (J1 K):=d__law_climb.cal X G qxr λf fd F=>wur F T c2
  have c30:Cal l.prog w K mg base "_law_heights" 4 (Yj K):=d__law_heights.cal X G Jx λf fd F=>qus F T c2 c29
  have c31:Cal l.prog w K mg base "_law_crowds" 1 (qqr K):=d__law_crowds.cal X G qws λf fd F=>wvk F T
  have c32:Cal l.prog w K mg base "trace" 5 (qv8 qw qy):=d_trace.cal X G wyt λf fd F=>wys F T c22
  have c33:Cal l.prog w K mg base "least" 6 (qkn K qw):=d_least.cal X G wk0 λf fd F=>wuy F T c21 c32
  have c34:Cal l.prog w K mg base "candidates" 9 (qk4 qw qy TT):=d_candidates.cal X G qx5 λf fd F=>wu9 F T c28 c20 c33
  have c35:Cal l.prog w K mg base "lengths" 10 (wqt qw qy TT):=d_lengths.cal X G wqw λf fd F=>xwv F T c3 c34
  have c36:Cal l.prog w K mg base "ring" 10 (wwq qw qy TT):=d_ring.cal X G xws λf fd F=>xqf F T c34 c23
  have c37:Cal l.prog w K mg base "_law_layers" 3 (qwm K):=d__law_layers.cal X G qw0 λf fd F=>wz9 F T c2
  have c38:Cal l.prog w K mg base "_law_ask" 11 (wk6 qw qy TT):=d__law_ask.cal X G qjj λf fd F=>ok_ask F T c17 c28 c36 c35
  have c39:Cal l.prog w K mg base "_law_told" 12 (qup qw TT):=d__law_told.cal X G qvp λf fd F=>xqy F T c38
  exact ok_law F T c2 c30 c37 c6 c31 c39
theorem walk {l:PySem.W.OpenLaw}{q:Ac}{loose:List Str}{XP:(Str→Option Ag)→Heap→Prop}{YP:Ah→Heap→Prop}{d:DefRec}{K:Params→Aa}{cO TT:Aj}(hn:l.most=some 63)(hdf:d.params.defaults=[])
  (hY:∀(w:Ah) (h:Heap),YP w h→(K w.params).In h∧h.get? TT=some (PySem.W.tabObj #[])) (hcT:∀p,PySem.W.codeHdIn (K p) cO TT=true) (hKT:∀p,(K p).lookup TT=none)
  (F:∀(w:Ah) (mg:Str→Option Ag) (fa:Aj) (h:Heap),(K w.params).In h→h.Ns mainGlobals mg→mg d.name=some (.ref fa) →
   ∃fd:Ad,(∀(s:Ab) (u:Ag),BindsTo s fd ⟨[u],[]⟩ [("_law_script",u)])∧∀base:Heap,(K w.params).In base→base.Ns mainGlobals mg→BMain mg base→FnOk l.prog w (K w.params) mg base (CXE l.prog w) 13 fa fd ["_law_script"] (qvv (K w.params) TT)) :
  PySem.W.WalkO q loose XP YP l.row.toRowW d [] (λf vs=>PySem.call f vs) :=
 L2.wyq (n:=63) (k:=13) (x := "_law_script") (CX:=λw=>CXE l.prog w) (sp:=λw=>qvv (K w.params) TT) hn (by decide) hdf ⟨rfl,by decide,by decide⟩ hY hcT hKT F (λ_ _ a ns hl hT hS=>⟨a,ns,rfl,hS,hl,hT,λ_=>rfl⟩) λ_ _ _ _ _ z=>CXE.no z
end
end My
open PySem PySem.W PyProof.Rows
local macro_rules | `(tactic| walk_at "defT")=>`(tactic| (refine' L2.xxx ?a ?l ?c ?k;(case a=>k_is);(case l=>k_is);(case c=>k_is);(case k=>k_is)))
local macro_rules | `(tactic| walk_at "def")=>`(tactic| (refine' L2.def_mk ?a ?l ?c ?k;(case a=>k_is);(case l=>k_is);(case c=>k_is);(case k=>k_is)))
local macro_rules | `(tactic| walk_at "defD")=>`(tactic| (refine' L2.xqp ?a ?l ?c ?k ?t;(case a=>k_is);(case l=>k_is);(case c=>k_is);(case k=>k_is);(case t=>k_is)))
local macro_rules | `(tactic| walk_at "meth")=>`(tactic| (refine' L2.xqs ?a ?i ?l ?c ?k;(case a=>k_is);(case i=>k_is);(case l=>k_is);(case c=>k_is);(case k=>k_is)))
namespace PySem.W.Fast
theorem tw7738558918932422860:True:=trivial
theorem tw17831871049532329505:True:=trivial
theorem tw5995945145934383595:True:=trivial
theorem tw3600650945709001436:True:=trivial
theorem tw11662725115697916120:True:=trivial
theorem tw6678589691751003779:True:=trivial
theorem tw17364370152541264840:True:=trivial
theorem tw5569255720745196762:True:=trivial
theorem tw10380421186566167559:True:=trivial
theorem tw6863167575989426165:True:=trivial
theorem tw8904818331207145641:True:=trivial
theorem tw1845144640742567560:True:=trivial
theorem tw12260905821943467146:True:=trivial
theorem tw17932218828132505022:True:=trivial
theorem tw2437121820642806749:True:=trivial
theorem tw4181836197877234057:True:=trivial
theorem tw16158843572455935883:True:=trivial
theorem tw2001596373005765540:True:=trivial
theorem tw12183291809574093426:True:=trivial
theorem tw14173344720927453953:True:=trivial
theorem tw10826480019343858672:True:=trivial
theorem tw10858262122624227575:True:=trivial
theorem tw6564505720916343060:True:=trivial
theorem tw5068647407063307960:True:=trivial
theorem tw17055359537763995852:True:=trivial
theorem tw8199676972465848511:True:=trivial
theorem tw8343210383439530008:True:=trivial
theorem tw13803867584604472259:True:=trivial
theorem tw2287402993155499237:True:=trivial
theorem tw5182440472191703320:True:=trivial
theorem tw5274843778819807105:True:=trivial
theorem tw12201919779823777968:True:=trivial
theorem tw16993769047132318034:True:=trivial
theorem tw2173347549168553385:True:=trivial
theorem tw14130213319160587910:True:=trivial
theorem tw10875467152823394819:True:=trivial
theorem tw9899169497555825896:True:=trivial
theorem tw15542519384109627099:True:=trivial
theorem tw18151596553751209053:True:=trivial
theorem tw14441066136732822617:True:=trivial
theorem tw9327669684572509707:True:=trivial
theorem tw5114560732047967250:True:=trivial
theorem tw15625907407883361834:True:=trivial
theorem tw9051243252785649426:True:=trivial
theorem tw14838366337243526014:True:=trivial
theorem tw7695894473992862621:True:=trivial
theorem tw16406263952064063794:True:=trivial
theorem tw11099573552607809016:True:=trivial
theorem tw9984444125051040026:True:=trivial
theorem tw14679686839615398280:True:=trivial
theorem tw4373580642088963005:True:=trivial
theorem tw15529318317586360909:True:=trivial
theorem tw6060979530285448052:True:=trivial
theorem tw13460798670875892279:True:=trivial
theorem tw9105078647736348652:True:=trivial
theorem tw11579796714797566369:True:=trivial
theorem tw14983242687637597199:True:=trivial
theorem tw10681599196624668128:True:=trivial
theorem tw2775162957917705336:True:=trivial
theorem tw8366966442188236069:True:=trivial
theorem tw15826687286078690940:True:=trivial
theorem tw17409471145717788292:True:=trivial
theorem tw17794968334638074382:True:=trivial
theorem tw14865021989972610998:True:=trivial
theorem tw10761217613991621624:True:=trivial
theorem tw7896461939982154112:True:=trivial
theorem tw2931272159811298196:True:=trivial
theorem tw4264469107560035225:True:=trivial
theorem tw14613181504468646767:True:=trivial
theorem tw13954788934984203532:True:=trivial
theorem tw16600396408345855180:True:=trivial
theorem tw1571543397415050942:True:=trivial
theorem tw5359012695192980242:True:=trivial
theorem tw10889966787451256587:True:=trivial
theorem tw3497852841535903558:True:=trivial
theorem tw6684190193890009444:True:=trivial
theorem tw5685896126188778122:True:=trivial
theorem tw2326590929910127118:True:=trivial
theorem tw13869761829942253016:True:=trivial
theorem tw4306298168652559281:True:=trivial
theorem tw6721047552686136761:True:=trivial
theorem tw15636495371324850925:True:=trivial
theorem tw4383435283889937041:True:=trivial
theorem tw16574634751081529502:True:=trivial
theorem tw9566569739617587410:True:=trivial
theorem tw2771746239604888312:True:=trivial
theorem tw16082915245201220341:True:=trivial
theorem tw15215141998311307771:True:=trivial
theorem tw9945369887726017428:True:=trivial
theorem tw14236827671488516774:True:=trivial
theorem tw2453439739806687077:True:=trivial
theorem tw12247430511115894634:True:=trivial
theorem tw1666204201490783296:True:=trivial
theorem tw15339479354114001064:True:=trivial
theorem tw9409033471181181171:True:=trivial
theorem tw5953219273546042957:True:=trivial
theorem tw17180177259497095250:True:=trivial
theorem tw18191757697733654589:True:=trivial
theorem tw11665787591800505140:True:=trivial
theorem tw6454509747827584987:True:=trivial
theorem tw4372346415358308891:True:=trivial
theorem tw6478014178653269986:True:=trivial
theorem tw599403556507516925:True:=trivial
theorem tw9423792156882879860:True:=trivial
theorem tw103942155200816758:True:=trivial
theorem tw14799771795905100572:True:=trivial
theorem tw7635112786801089138:True:=trivial
theorem tw5056509724138340396:True:=trivial
theorem tw67217822961922187:True:=trivial
theorem tw11957150693639192317:True:=trivial
theorem tw4247289935518573196:True:=trivial
theorem tw1745586446354773090:True:=trivial
theorem tw6059990456109647628:True:=trivial
theorem tw2970121775244649239:True:=trivial
theorem tw2393926173845139650:True:=trivial
theorem tw8854947559721426166:True:=trivial
theorem tw7234886933899295218:True:=trivial
theorem tw5970997017199604260:True:=trivial
theorem tw14361932578173890923:True:=trivial
theorem tw1193807791776659277:True:=trivial
theorem tw12138241496169945143:True:=trivial
theorem tw2627374691820993309:True:=trivial
theorem tw12641710918042840350:True:=trivial
theorem tw5623210913319229881:True:=trivial
theorem tw3884963888965039409:True:=trivial
theorem tw1765165284063639231:True:=trivial
theorem tw7826764389900645258:True:=trivial
theorem tw17539613918763542418:True:=trivial
theorem tw17400224366743058898:True:=trivial
theorem tw16969610537620537969:True:=trivial
theorem tw6156833195149577317:True:=trivial
theorem tw11130758139840628645:True:=trivial
theorem tw10876426969583739884:True:=trivial
theorem tw17886173659176119469:True:=trivial
theorem tw16011461335570093667:True:=trivial
theorem tw17037358594691242854:True:=trivial
theorem tw7298111250963068626:True:=trivial
theorem tw879788844658238999:True:=trivial
theorem tw12095134154482036752:True:=trivial
theorem tw13653310645653861376:True:=trivial
theorem tw9971051251961212204:True:=trivial
theorem tw2339621563284734440:True:=trivial
theorem tw2114229572544740965:True:=trivial
theorem tw8252481233685774086:True:=trivial
theorem tw14952788304770603836:True:=trivial
theorem tw9142649624867141201:True:=trivial
theorem tw12270835934380977884:True:=trivial
theorem tw2832316662101404396:True:=trivial
theorem tw12208567317720701218:True:=trivial
theorem tw15689972183805887675:True:=trivial
theorem tw8090779372592971064:True:=trivial
theorem tw6358405906771879402:True:=trivial
theorem tw7279682228479802015:True:=trivial
theorem tw17540002945809738610:True:=trivial
theorem tw11403890404121662273:True:=trivial
theorem tw2377085999550063064:True:=trivial
theorem tw5102892157226504214:True:=trivial
theorem tw14887997304401702611:True:=trivial
theorem tw12553820695786103928:True:=trivial
theorem tw6397479878984958365:True:=trivial
theorem tw13394833304232584551:True:=trivial
theorem tw7791216925599391130:True:=trivial
theorem tw2345019451503879820:True:=trivial
theorem tw8685743907253825521:True:=trivial
theorem tw2975802047747600622:True:=trivial
theorem tw14390245315696691838:True:=trivial
theorem tw18104523708251686071:True:=trivial
theorem tw10505312430189942803:True:=trivial
theorem tw8975738821280403609:True:=trivial
theorem tw3715721363888294063:True:=trivial
theorem tw1047343020287559508:True:=trivial
theorem tw11035113930488174665:True:=trivial
theorem tw7101884883018510890:True:=trivial
theorem tw12194544578120081530:True:=trivial
theorem tw16408380474992455876:True:=trivial
theorem tw725643771856450250:True:=trivial
theorem tw15312110611673877839:True:=trivial
theorem tw15992817678403691470:True:=trivial
theorem tw16786117636395600528:True:=trivial
theorem tw1334480189999324308:True:=trivial
theorem tw16389213279154735198:True:=trivial
theorem tw6605173930444958715:True:=trivial
theorem tw2755650591121910445:True:=trivial
theorem tw1626254937182751808:True:=trivial
theorem tw1331608496688629207:True:=trivial
theorem tw7944359365318857343:True:=trivial
theorem tw7591830448373121234:True:=trivial
theorem tw13865557427297148418:True:=trivial
theorem tw14435073348085345322:True:=trivial
theorem tw17662849411375948678:True:=trivial
theorem tw18042437505377950886:True:=trivial
theorem tw11459976239938380436:True:=trivial
theorem tw7480056447236729567:True:=trivial
theorem tw13477113613193042860:True:=trivial
theorem tw11162678531116109534:True:=trivial
theorem tw7545988189486485854:True:=trivial
theorem tw8695489522580316894:True:=trivial
theorem tw8742765959961811247:True:=trivial
theorem tw12910196355522966766:True:=trivial
theorem tw9908690725495172561:True:=trivial
theorem tw18330075969371576389:True:=trivial
theorem tw17187297027555961673:True:=trivial
theorem tw15100815883641488564:True:=trivial
theorem tw1205443418413629582:True:=trivial
theorem tw4611836075988703173:True:=trivial
theorem tw12907014696006279376:True:=trivial
theorem tw2247816198047746108:True:=trivial
theorem tw2420598881298301813:True:=trivial
theorem tw603185164347181569:True:=trivial
theorem tw12755837572877187192:True:=trivial
theorem tw10452003167293935429:True:=trivial
theorem tw8385864962876113117:True:=trivial
theorem tw5139373988340545784:True:=trivial
theorem tw2530865297288663365:True:=trivial
theorem tw10556447742796153172:True:=trivial
theorem tw14588762948664157173:True:=trivial
theorem tw2994863021813936203:True:=trivial
theorem tw17021422186031544826:True:=trivial
theorem tw11638366043353803697:True:=trivial
theorem tw2463979387871454434:True:=trivial
theorem tw15441176471957607568:True:=trivial
theorem tw8277228244096838889:True:=trivial
theorem tw9671083145763203712:True:=trivial
theorem tw8801795394786872917:True:=trivial
theorem tw10617069668515074124:True:=trivial
theorem tw14667443987572267988:True:=trivial
theorem tw3028946411615671119:True:=trivial
theorem tw10743815361195975267:True:=trivial
theorem tw9111471927566153685:True:=trivial
theorem tw16700942732231609657:True:=trivial
theorem tw17378124564610060650:True:=trivial
theorem tw9005007466758250351:True:=trivial
theorem tw17867594424025787629:True:=trivial
theorem tw2962101807966655319:True:=trivial
theorem tw11267624628576897843:True:=trivial
theorem tw3327685282531453051:True:=trivial
theorem tw13332077306913069543:True:=trivial
theorem tw15242236947695557217:True:=trivial
theorem tw1380393683243136704:True:=trivial
theorem tw6286947122081650721:True:=trivial
theorem tw3383842654333097259:True:=trivial
theorem tw12453866725553343124:True:=trivial
theorem tw6657196637270695878:True:=trivial
theorem tw16462523619137250647:True:=trivial
theorem tw13096891370672794028:True:=trivial
theorem tw4664586839037082137:True:=trivial
theorem tw6803831383096541679:True:=trivial
theorem tw11354395568992925116:True:=trivial
theorem tw2632195832498156077:True:=trivial
theorem tw1160558546536733903:True:=trivial
theorem tw8606798753123289580:True:=trivial
theorem tw8836076201613906381:True:=trivial
theorem tw890439441259544134:True:=trivial
theorem tw9643897248386406659:True:=trivial
theorem tw14329105484670323335:True:=trivial
theorem tw11600141345243720949:True:=trivial
theorem tw4754815288778505889:True:=trivial
theorem tw14589827796309180219:True:=trivial
theorem tw9973401696026285996:True:=trivial
theorem tw15910741017247359524:True:=trivial
theorem tw4319254938734449011:True:=trivial
theorem tw13859107540986770221:True:=trivial
theorem tw1832064886669591490:True:=trivial
theorem tw1194317740424321561:True:=trivial
theorem tw3907397363195189933:True:=trivial
theorem tw8001926012922643065:True:=trivial
theorem tw17434098148593590100:True:=trivial
theorem tw9707849453633117442:True:=trivial
theorem tw12231161380746666404:True:=trivial
theorem tw17029708131950228218:True:=trivial
theorem tw5520325732927840135:True:=trivial
theorem tw17423585574576871863:True:=trivial
theorem tw11602858235524949237:True:=trivial
theorem tw10840049526569820675:True:=trivial
theorem tw6861908655773021143:True:=trivial
theorem tw6021145671295967913:True:=trivial
theorem tw8640621355382110825:True:=trivial
theorem tw2858641302780314996:True:=trivial
theorem tw7637074387102092387:True:=trivial
theorem tw9453086410632105084:True:=trivial
theorem tw348879643340476897:True:=trivial
theorem tw211275288186265505:True:=trivial
theorem tw232783478622819331:True:=trivial
theorem tw14057895683635663490:True:=trivial
theorem tw5199077912560454814:True:=trivial
theorem tw5442670190478906390:True:=trivial
theorem tw266802702849558794:True:=trivial
theorem tw3108271811778051569:True:=trivial
theorem tw8570406620500343145:True:=trivial
theorem tw3727903394095985133:True:=trivial
theorem tw3627065704386488051:True:=trivial
theorem tw2639618047626481518:True:=trivial
theorem tw15332908307005191009:True:=trivial
theorem tw2288818153406956052:True:=trivial
theorem tw13712033418544789650:True:=trivial
theorem tw1618579989539959514:True:=trivial
theorem tw16483711338459432799:True:=trivial
theorem tw12421708085122571244:True:=trivial
theorem tw6271282380262955810:True:=trivial
theorem tw777725594664135044:True:=trivial
theorem tw16105885698272536850:True:=trivial
theorem tw4163905767723674919:True:=trivial
theorem tw1420690353396268690:True:=trivial
theorem tw17164268715212491492:True:=trivial
theorem tw11753251365995095159:True:=trivial
theorem tw17887422554279063402:True:=trivial
theorem tw12541160815185574949:True:=trivial
theorem tw9230174371285570309:True:=trivial
theorem tw15247832564600199426:True:=trivial
theorem tw14224197857479088091:True:=trivial
theorem tw18330151803259866609:True:=trivial
theorem tw14960481184796681284:True:=trivial
theorem tw13078118554893482184:True:=trivial
theorem tw2977833836716572404:True:=trivial
theorem tw9353665925489595370:True:=trivial
theorem tw17613628435650196236:True:=trivial
theorem tw616540725188365053:True:=trivial
theorem tw8255738217673105917:True:=trivial
theorem tw7293093099785814702:True:=trivial
theorem tw16804629752073342252:True:=trivial
theorem tw10470196670637597900:True:=trivial
theorem tw15190706702507655846:True:=trivial
theorem tw5164736946941260955:True:=trivial
theorem tw6452754077771787519:True:=trivial
theorem tw4168661505992640245:True:=trivial
theorem tw771960138305015521:True:=trivial
theorem tw2405429617894251705:True:=trivial
theorem tw4549491958078633272:True:=trivial
theorem tw5668243652283978636:True:=trivial
theorem tw14923739121330576399:True:=trivial
theorem tw17841445355400130668:True:=trivial
theorem tw4864611528848383960:True:=trivial
theorem tw3012740836760965912:True:=trivial
theorem tw13344452748246637924:True:=trivial
theorem tw10246885221776752736:True:=trivial
theorem tw17217186495289225914:True:=trivial
theorem tw3046868996785491373:True:=trivial
theorem tw8089065333153149827:True:=trivial
theorem tw1428308784265785651:True:=trivial
theorem tw9227894067942446218:True:=trivial
theorem tw17351381833434012403:True:=trivial
theorem tw5306271165117255400:True:=trivial
theorem tw10291635697115065996:True:=trivial
theorem tw4695486168865789333:True:=trivial
theorem tw7626395953683911051:True:=trivial
theorem tw16962223849798426767:True:=trivial
theorem tw10934500466703650128:True:=trivial
theorem tw7606900452228349502:True:=trivial
theorem tw13504929031604376229:True:=trivial
theorem tw5592112659121612131:True:=trivial
theorem tw5194920943726105109:True:=trivial
theorem tw12183616824900409668:True:=trivial
theorem tw3438047350821292925:True:=trivial
theorem tw2433083441282226577:True:=trivial
theorem tw9722003346209171191:True:=trivial
theorem tw11479567833679364990:True:=trivial
theorem tw6542243540314571130:True:=trivial
theorem tw11679325648309819871:True:=trivial
theorem tw11334179990440560745:True:=trivial
theorem tw15667260931493202039:True:=trivial
theorem tw10027628295043978183:True:=trivial
theorem tw9599085015671603579:True:=trivial
theorem tw8761390862739445240:True:=trivial
theorem tw12503120320649303893:True:=trivial
theorem tw252353145349513589:True:=trivial
theorem tw4459291847642171986:True:=trivial
end PySem.W.Fast
set_option maxRecDepth 100000 in
set_option maxHeartbeats 0 in
theorem PySem.Challenge.cw_crookroad_k19_whole_too_many_rows_holds : PySem.Challenge.rw_crookroad_k19_whole_too_many_rows.Holds := by
 w_on;o_law;k_head;(case hw=>w_witness2)
 k_fill
 refine My.walk (l:=PySem.Challenge.rw_crookroad_k19_whole_too_many_rows) (cO:=171) (TT:=169) rfl rfl (fun w h Y=>⟨PySem.W.km_in_of Y,PySem.W.km_tabs_of Y 169 (.head _)⟩) (fun p=>by kernel_rfl) (fun p=>by kernel_rfl) ?F
 case F =>
  intro w mg fa h KX G hmg
  refine' My.all_mk (cO:=171) (TT:=169) KX G hmg ?d__law_cell ?d__law_pick ?d_check_count ?d_check_bottom ?d_is_line ?d_covered ?d_covers_of ?d_ways_of_no_step ?d_one_step_more ?d_ways_up_to ?d_rows_from ?d_rows ?d_common_divisor ?d_lowest ?d_ordered ?hC ?d_walked ?d_corners_back ?d_lies_in ?d_line_along ?d_fixed_point ?d_back ?d__law_climb ?d__law_heights ?d__law_crowds ?d_trace ?d_least ?d_candidates ?d_lengths ?d_ring ?d__law_layers ?d__law_ask ?d__law_told ?d_law ?a_BadLine ?x_BadLine ?a_BadBottom ?x_BadBottom ?a_OffRoad ?x_OffRoad ?a_BadCount ?x_BadCount ?a_TooLong ?x_TooLong ?a_BadRow ?x_BadRow ?a_RoadError ?x_RoadError ?a_Road ?pg_Road ?hd_Road ?po_Road ?sa_Road ?mk_Road ?kc_Road ?m_Road___init__ ?m_Road_width ?m_Road_ends ?m_Road_reach ?m_Road_slope ?m_Road_on_road ?m_Road_at ?na_Road_heights ?g_WIDEST ?g_LONGEST_TRACE ?g_LONGEST_ROW ?g_MOST_WAYS ?g_MOST_WALKED ?z_len ?z_abs ?z_range ?z_isinstance ?z_int ?z_bool ?z_list ?z_tuple ?z_min ?z_max ?z_all ?z_any ?z_sum ?z_sorted ?z_zip ?z_set
  (case d__law_cell=>walk_at "def")
  (case d__law_pick=>walk_at "def")
  (case d_check_count=>walk_at "defD")
  (case d_check_bottom=>walk_at "def")
  (case d_is_line=>walk_at "def")
  (case d_covered=>walk_at "def")
  (case d_covers_of=>walk_at "def")
  (case d_ways_of_no_step=>walk_at "def")
  (case d_one_step_more=>walk_at "def")
  (case d_ways_up_to=>walk_at "def")
  (case d_rows_from=>walk_at "def")
  (case d_rows=>walk_at "def")
  (case d_common_divisor=>walk_at "def")
  (case d_lowest=>walk_at "def")
  (case d_ordered=>walk_at "defT")
  (case hC=>exact (by kernel_rfl))
  (case d_walked=>walk_at "def")
  (case d_corners_back=>walk_at "def")
  (case d_lies_in=>walk_at "def")
  (case d_line_along=>walk_at "def")
  (case d_fixed_point=>walk_at "def")
  (case d_back=>walk_at "def")
  (case d__law_climb=>walk_at "def")
  (case d__law_heights=>walk_at "def")
  (case d__law_crowds=>walk_at "def")
  (case d_trace=>walk_at "def")
  (case d_least=>walk_at "def")
  (case d_candidates=>walk_at "def")
  (case d_lengths=>walk_at "def")
  (case d_ring=>walk_at "def")
  (case d__law_layers=>walk_at "def")
  (case d__law_ask=>walk_at "def")
  (case d__law_told=>walk_at "def")
  (case d_law=>walk_at "def")
  (case a_BadLine=>k_is)
  (case x_BadLine=>k_exc)
  (case a_BadBottom=>k_is)
  (case x_BadBottom=>k_exc)
  (case a_OffRoad=>k_is)
  (case x_OffRoad=>k_exc)
  (case a_BadCount=>k_is)
  (case x_BadCount=>k_exc)
  (case a_TooLong=>k_is)
  (case x_TooLong=>k_exc)
  (case a_BadRow=>k_is)
  (case x_BadRow=>k_exc)
  (case a_RoadError=>k_is)
  (case x_RoadError=>k_exc)
  (case a_Road=>k_is)
  (case pg_Road=>k_is)
  (case hd_Road=>k_is)
  (case po_Road=>k_is)
  (case sa_Road=>k_is)
  (case mk_Road=>k_is)
  (case kc_Road=>k_is)
  (case m_Road___init__=>walk_at "meth")
  (case m_Road_width=>walk_at "meth")
  (case m_Road_ends=>walk_at "meth")
  (case m_Road_reach=>walk_at "meth")
  (case m_Road_slope=>walk_at "meth")
  (case m_Road_on_road=>walk_at "meth")
  (case m_Road_at=>walk_at "meth")
  (case na_Road_heights=>k_is)
  (case g_WIDEST=>k_is)
  (case g_LONGEST_TRACE=>k_is)
  (case g_LONGEST_ROW=>k_is)
  (case g_MOST_WAYS=>k_is)
  (case g_MOST_WALKED=>k_is)
  (case z_len=>k_is)
  (case z_abs=>k_is)
  (case z_range=>k_is)
  (case z_isinstance=>k_is)
  (case z_int=>k_is)
  (case z_bool=>k_is)
  (case z_list=>k_is)
  (case z_tuple=>k_is)
  (case z_min=>k_is)
  (case z_max=>k_is)
  (case z_all=>k_is)
  (case z_any=>k_is)
  (case z_sum=>k_is)
  (case z_sorted=>k_is)
  (case z_zip=>k_is)
  (case z_set=>k_is)
