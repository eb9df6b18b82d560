import PyProof.Rows.All
import Wide.All
import OpenK.AllK
import Wide.FinOn
import Lean
import PyProof.EqAt
import PyProof.EqKinds
import PyProof.TupleCall
import PyProof.NeData
import KE.IntBitsLaws
import PyProof.SetRoads
import KE.KDictList
import PyProof.Rows.SortShell
import PyProof.Rows.SortRuns
import PyProof.Rows.Walk
import KE.KStateDown
import KE.KSortTup
import KE.KLam
import KE.KNestM
import PySem.Challenge.RW_crookroad_k30_whole_forced_lengths
set_option maxHeartbeats 0
set_option Elab.async false
set_option linter.all false
set_option maxRecDepth 100000
open Lean in
local macro_rules(kind:=Lean.Parser.Command.declaration)|s=>do {if s.getPos?.isNone||(`PySem.Challenge).isPrefixOf s[1][1][0].getId then Macro.throwUnsupported else let k:=s[1].getKind;let m←`(command|noncomputable def x:=0);let s:=if (k==`Lean.Parser.Command.definition||k==`Lean.Parser.Command.abbrev||k==`Lean.Parser.Command.instance)&&s[0][4].isNone then s.setArg 0 (s[0].setArg 4 m.raw[0][4]) else s;return Id.run (s.rewriteBottomUpM fun x=>x.setInfo .none)}
local macro_rules|`(tactic|lia)=>`(tactic|first|lia +splitIte|omega)
local macro_rules|`(⋯)=>`(by first|decide|lia)
local macro_rules|`(tactic|walk_at "iv")=>`(tactic|first|exact .inl rfl|exact .inr rfl|assumption)
local macro_rules|`(tactic|walk_at "vs")=>`(tactic|first|exact Or.inl rfl|exact Or.inr (Or.inl rfl)|exact Or.inr (Or.inr rfl))
def aa:=@PySem.wpAny_bind
def ae:=@List.getElem?_eq_getElem
def af:=@List.getD_eq_getElem?_getD
def ag:=@List.length_map
def ah:=@PySem.Heap.get?_push_of_some
def ai:=@PySem.wpAny_pure
def aj:=@Nat.le_refl
def ak:=@List.getElem?_eq_some_iff
def al:=@PySem.Heap.lt_size
def ao:=@if_neg
def aq:=@List.size_toArray
def ar:=@List.length_append
def au:=@Option.some.inj
def av:=@if_pos
def aw:=@List.mem_range
def ax:=@List.getElem?_map
def ay:=@PyProof.Rows.wpS_bind
def az:=@PySem.Heap.get?_push_size
def aA:=@List.getElem?_append_right
def aB:=@Nat.ne_of_lt
def aC:=@List.mem_of_getElem?
def aD:=@Classical.byContradiction
def aE:=@Array.getElem?_toList
def aF:=@Bool.false_ne_true
def aG:=@Bool.false_eq_true
def aH:=@List.length_range
def aI:=@PyProof.Rows.wpS_pure
def aJ:=@List.length_cons
def aK:=@Int.mul_le_mul_of_nonneg_right
def aL:=@Nat.lt_of_lt_of_le
def aM:=@List.map_cons
def aN:=@List.mem_append_right
def aO:=@List.getElem?_eq_none
def aP:=@Rat.le_refl
def aQ:=@List.mem_cons
def aR:=@decide_eq_true
def aS:=@List.mem_map
def aT:=@List.getElem?_append_left
def aU:=@Array.length_toList
def aV:=@List.mem_singleton
def aW:=@Nat.zero_le
def aX:=@List.append_assoc
def aY:=@List.mem_append
def aZ:=@PySem.wpAny_mono
def ba:=@decide_eq_false
def bb:=@Array.getElem?_eq_getElem
def be:=@Nat.lt_irrefl
def bf:=@Int.mul_le_mul_of_nonneg_left
def bg:=@List.length_take
def bh:=@List.pairwise_iff_getElem
def bi:=@List.pairwise_append
def bj:=@List.map_append
def bn:=@PySem.PassesOwn.leaving
def bo:=@Nat.lt_trans
def bp:=@Nat.lt_or_ge
def br:=@Nat.le_of_lt
def bu:=@PySem.W.mg_none_of
def bv:=@List.lookup_cons
def bw:=@List.getElem_mem
def bz:=@List.mem_filter
def bA:=@List.getElem?_range
def bB:=@if_false
def bC:=@Int.one_mul
def bD:=@List.take_length
def bE:=@PySem.wpAny_setState_of
def bF:=@List.map_map
def bG:=@Int.add_mul
def bH:=@Int.toNat_natCast
def bI:=@Array.getElem?_eq_some_iff
def bJ:=@PySem.boot_len
def bK:=@Nat.le_trans
def bN:=@PySem.wpAny_holding
def bO:=@Array.toList_append
def bP:=@PySem.Heap.get?_update_ne
def bQ:=@List.append_nil
def bR:=@Bool.and_eq_true
def bS:=@List.getElem?_of_mem
def bT:=@List.ext_getElem?
def bU:=@Rat.neg_neg
def bV:=@PySem.W.mg_of
def bW:=@PyProof.Rows.callWith_type1
def bX:=@Array.getD_eq_getD_getElem?
def bY:=@List.length_drop
def bZ:=@Nat.mod_two_eq_zero_or_one
def b7:=@PySem.Paired.length
def b8:=@PySem.wpAny_newObj_type
def b9:=@List.pairwise_map
def ca:=@of_decide_eq_true
def cf:=@List.mem_cons_of_mem
def cn:=@Rat.mul_le_mul_of_nonneg_left
def cu:=@Int.emod_lt_of_pos
def cw:=@PyProof.Rows.wpS_forRange
def cx:=@List.Pairwise.imp_of_mem
def cy:=@beq_eq_false_iff_ne
def cA:=@Int.toNat_of_nonneg
def cB:=@PySem.Heap.SameBut.update
def cC:=@PySem.F.plainAttrs_list
def cD:=@List.mem_append_left
def cE:=@PySem.W.kia_one
def cG:=@List.range_succ
def cH:=@List.sum_cons
def cI:=@PySem.Heap.get?_update_other
def cJ:=@Nat.zero_add
def cK:=@congrArg
def cL:=@Int.le_refl
def cM:=@PySem.Heap.get?_update_self
def cN:=@List.length_singleton
def cP:=@Bool.eq_iff_iff
def cQ:=@Int.emod_nonneg
def cR:=@PySem.F.slot_dict_keyiterator_next
def cS:=@PySem.wpAny_call_entry
def cT:=@List.mem_of_mem_drop
def cU:=@Nat.add_sub_cancel_left
def cV:=@PySem.wpAny_standAt
def cW:=@PySem.wpAny_truthy_bool
def cX:=@PySem.Heap.size_push
def cY:=@if_true
def cZ:=@Int.lt_or_le
def da:=@List.take_of_length_le
def dc:=@List.Perm.append_right
def de:=@List.getElem_of_mem
def df:=@List.length_nil
def dh:=@List.take_append_drop
def di:=@List.Perm.append_left
def dj:=@List.length_filter_le
def dk:=@PySem.wpAny_Call_Name_kw
def dr:=@List.getElem?_drop
def dt:=@PySem.F.slot_list_append
def du:=@PySem.F.type_list_append
def dv:=@Nat.pow_le_pow_right
def dw:=@Int.mul_nonneg
def dA:=@List.mem_of_mem_take
def dB:=@PySem.wpAny_typeNameOfWhole_keyiter
def dC:=@Nat.le_of_lt_succ
def dD:=@decide_eq_true_eq
def dE:=@Array.toList_push
def dF:=@PySem.wpAny_callSpecial?_slot
def dG:=@List.flatten_cons
def dH:=@List.take_add_one
def dI:=@PySem.wpAny_rule
def dJ:=@List.nodup_cons
def dL:=@Rat.intCast_mul
def dM:=@PySem.mem_of_lookup
def dN:=@Nat.pow_succ
def dO:=@PyProof.Rows.boot_list
def dP:=@Array.getElem?_eq_none
def dQ:=@PySem.sizeLine_eq
def dR:=@List.any_eq_true
def dS:=@List.mem_cons_self
def dU:=@PySem.Obj.data_mapFields
def dW:=@List.getElem?_take
def dX:=@Array.perm_iff_toList_perm
def dY:=@Ne.symm
def dZ:=@List.perm_append_comm
def d6:=@PyProof.Rows.boot_min
def d7:=@PyProof.Rows.boot_max
def d8:=@PySem.wpAny_passesOwn
def d9:=@List.map_nil
def ee:=@PySem.lookup_relabel_local
def eo:=@Array.toList_extract
def eA:=@Int.le_trans
def eB:=@Rat.le_trans
def eC:=@Nat.mod_lt
def eD:=@PySem.wpAny_typeNameOf_keyiter
def eE:=@List.filterMap_cons
def eF:=@List.map_congr_left
def eG:=@Nat.lt_succ_self
def eI:=@Array.toList_inj
def eJ:=@List.pairwise_singleton
def eK:=@PySem.F.plain_max_loop
def eL:=@List.eq_nil_of_length_eq_zero
def eM:=@Int.mul_le_mul_of_nonpos_left
def eN:=@Nat.lt_of_le_of_lt
def eO:=@Nat.succ_pos
def eP:=@Int.mul_comm
def eQ:=@Option.map_eq_some_iff
def eR:=@Int.mul_ediv_mul_of_pos_left
def eS:=@List.find?_cons
def eT:=@PyProof.Rows.wpS_mono
def eU:=@PyProof.Rows.get?_update_seq
def eV:=@PyProof.Rows.boot_isinstance
def eW:=@List.dropLast_concat_getLast
def eX:=@PySem.wpAny_attempt
def eY:=@PyProof.Rows.listUpdate_at
def eZ:=@bne_self_eq_false
def ff:=@Nat.lt_succ_of_lt
def fh:=@Int.eq_of_mul_eq_mul_right
def fi:=@Nat.ne_of_gt
def fj:=@PySem.codeAny_mono
def fk:=@Nat.mod_eq_of_lt
def fm:=@beq_self_eq_true
def fu:=@PySem.wpAny_askSetting
def fA:=@List.filter_cons
def fB:=@List.drop_eq_getElem_cons
def fC:=@List.getElem?_eq_none_iff
def fE:=@List.reverse_append
def fF:=@PySem.F.args_tuple_add_2
def fG:=@PySem.wpAny_comprehension_free
def fH:=@Bool.not_true
def fI:=@PyProof.Rows.boot_sorted
def fJ:=@Nat.le_of_dvd
def fN:=@Nat.not_lt_zero
def fO:=@PySem.wpAny_ite_split
def fP:=@List.mem_filterMap
def fQ:=@beq_iff_eq
def fS:=@Array.forIn_toList
def fT:=@PyProof.Rows.wpS_modify
def fU:=@List.filter_append
def fV:=@PySem.F.entry_tuple_add
def fW:=@decide_eq_false_iff_not
def fX:=@Int.eq_ofNat_of_zero_le
def fY:=@Rat.intCast_eq_zero_iff
def fZ:=@PySem.wpAny_pyIter_list
def ge:=@PySem.F.slot_tuple_add
def gf:=@Int.natAbs_mul
def gh:=@Int.le_of_lt
def gk:=@Int.le_ediv_iff_mul_le
def gm:=@PySem.wpAny_storeSet_of
def gn:=@PySem.wpAny_setField
def gu:=@PySem.wpAny_dictEntries
def gv:=@Nat.add_comm
def gz:=@Rat.intCast_le_intCast
def gC:=@PySem.Obj.isFreed_of_fields
def gD:=@PySem.wpAny_forIn_list
def gE:=@List.nodup_range
def gF:=@List.getElem_map
def gG:=@PySem.F.args_dict_keyiterator_next_1
def gH:=@Rat.mul_le_mul_of_nonneg_right
def gI:=@List.any_cons
def gJ:=@PyProof.Rows.wpS_get
def gK:=@PySem.wpAny_newList
def gL:=@Array.mem_toList_iff
def gM:=@Int.mul_ediv_cancel'
def gN:=@PySem.wpAny_newFunctionEnv
def gO:=@PySem.F.entry_dict_keyiterator_next
def gP:=@PySem.wpAny_letGo
def gQ:=@PySem.Around.under_plainId
def gR:=@PySem.wpAny_execs_nil
def gS:=@Array.getElem?_setIfInBounds
def gU:=@List.sum_append
def gW:=@Int.ediv_mul_le
def gX:=@PySem.codeAny_builtin
def gY:=@Int.lt_ediv_add_one_mul_self
def gZ:=@PySem.W.plainGet_of
def g8:=@Nat.add_one_sub_one
def g9:=@List.flatMap_append
def hU:=@Nat.sub_self
def hX:=@Rat.mul_lt_mul_of_pos_right
def ic:=@PyProof.Rows.assignInOrder_cons
def ie:=@List.zip_cons_cons
def ig:=@Bool.and_false
def ii:=@Nat.add_right_comm
def ik:=@PySem.W.callWith_K
def im:=@PySem.F.excBase_ValueError
def io:=@Int.mul_lt_mul_of_pos_left
def iq:=@PySem.tupleKind_room_in1
def ir:=@PySem.wpAny_seqItems
def iu:=@Nat.eq_zero_or_pos
def iw:=@Nat.add_sub_cancel
def iz:=@Bool.not_false
def iA:=@PySem.wpAny_fieldsOf
def iB:=@PyProof.Rows.wpS_lift
def iC:=@Int.le_of_mul_le_mul_right
def iD:=@List.take_zero
def iE:=@decide_eq_true_iff
def iF:=@Rat.mul_lt_mul_of_pos_left
def iH:=@List.getLastD_eq_getLast?
def iI:=@Int.mul_neg_of_pos_of_neg
def iK:=@Int.mul_pos_of_neg_of_neg
def iL:=@List.mem_or_eq_of_mem_set
def iM:=@PySem.wpAny_assign_Name
def iN:=@Nat.le_succ
def iO:=@Nat.lt_trichotomy
def iP:=@PySem.Obj.cls_mapFields
def iQ:=@PySem.wpAny_pyIter_slot
def iR:=@Bool.not_eq_true'
def iS:=@PyProof.Rows.seqEpoch_at
def iT:=@Int.sub_mul
def iU:=@List.getElem?_take_of_lt
def iV:=@Array.size_setIfInBounds
def iW:=@List.cons.inj
def iX:=@PySem.plainId_quiet
def iY:=@PySem.wpAny_execs_cons
def iZ:=@PySem.noFill_tuple_add
def i3:=@Int.natCast_dvd_natCast
def i4:=@List.all_eq_true
def i6:=@List.getElem?_cons_succ
def i7:=@Bool.not_eq_true
def i8:=@PySem.wpAny_isInstance
def i9:=@List.not_mem_nil
def ja:=@Nat.le_add_right
def jl:=@PySem.Heap.size_update
def jo:=@List.getLast_eq_getElem
def jA:=@Nat.le_mul_of_pos_right
def jB:=@Int.dvd_mul_left
def jC:=@Int.mul_zero
def jD:=@Int.ediv_one
def jE:=@List.of_mem_zip
def jF:=@List.length_set
def jG:=@Nat.two_pow_pos
def jH:=@Int.natCast_mul
def jI:=@PySem.wpAny_specialOf
def jJ:=@PySem.wpAny_dictEpoch
def jK:=@PySem.wpAny_updateSeq
def jL:=@Nat.min_eq_left
def jM:=@Bool.false_and
def jN:=@PySem.intItems_at
def jO:=@PySem.numAt_eq
def jP:=@List.nodup_nil
def jS:=@Int.mul_sub
def jU:=@List.all_cons
def jV:=@Int.mul_assoc
def jX:=@Bool.and_self
def jY:=@Int.lt_irrefl
def ko:=@Prod.ext
section
open PySem PySem.Spec PyProof.Rows
abbrev Aa:=PySem.W.Frag
abbrev Ab:=PySem.Shared
abbrev Ac:=PySem.Program
abbrev Ad:=PySem.FuncData
abbrev Ae:=Around
abbrev Af:=SortSt
abbrev Ag:=Value
abbrev Ah:=World
abbrev Ai:=Keyed
abbrev Aj:=Addr
end
namespace L2
theorem exI {α:Sort _}{A K:α->Prop}{v:α}(e:A v)(h:K v):∃x,A x/\K x:=⟨v,e,h⟩
theorem w8 {α β:Sort _}{A:α->Prop}{B:β->Prop}{K:α->β->Prop}{u:α}{v:β}(a:A u)(b:B v)(h:K u v):∃x y,A x/\B y/\K x y:=⟨u,v,a,b,h⟩
theorem exX {α β γ δ:Sort _}{A:α->Prop}{B:γ->Prop}{C:α->β->Prop}{D:β->γ->δ->Prop}{K:δ->Prop}{p:α}{xs:β}{i:γ}{v:δ}(a:A p)(b:B i)(c:C p xs)(d:D xs i v)(h:K v):∃p xs i v,A p/\B i/\C p xs/\D xs i v/\K v:=⟨p,xs,i,v,a,b,c,d,h⟩
end L2
namespace L2
open PySem PySem.Spec PyProof.Rows
abbrev Key:=Sum Int Str
def qkd:Key->Ag->Bool
 |.inl k,v=>Value.isInt k v
 |.inr x,v=>Value.isStrOf x v
def keyH (w:Ah):Key->Int
 |.inl k=>hashInt k
 |.inr x=>hashStr w x
theorem zn:∀ {k:Key} {v:Ag},qkd k v=true->(∃i t,k=Sum.inl i/\v=Value.int i t)\/(∃x t,k=Sum.inr x/\v=Value.str x t)
 |.inl i,v,h=>by obtain⟨t,e⟩:=Value.isInt_shape (k:=i) (v:=v) h;exact .inl ⟨i,t,rfl,e⟩
 |.inr x,v,h=>by obtain⟨t,e⟩:=Value.isStrOf_shape (x:=x) (v:=v) h;exact .inr ⟨x,t,rfl,e⟩
theorem wky (i:Int)(t:Tok):qkd (.inl i) (.int i t)=true:=by simp[qkd,Value.isInt]
theorem wk0 (x:Str)(t:Tok):qkd (.inr x) (.str x t)=true:=by simp[qkd,Value.isStrOf]
theorem key_ll (a b:Int):decide ((Sum.inl a:Key)=Sum.inl b)=(a==b):=by
 by_cases e:a=b
 .subst e;simp
 .have h:¬ (Sum.inl a:Key)=Sum.inl b:=λq=>e (Sum.inl.inj q);rw[ba h];exact(cy.mpr e).symm
theorem key_rr (a b:Str):decide ((Sum.inr a:Key)=Sum.inr b)=decide (a=b):=by
 by_cases e:a=b
 .subst e;simp
 .have h:¬ (Sum.inr a:Key)=Sum.inr b:=λq=>e (Sum.inr.inj q);rw[ba h,ba e]
theorem key_lr (a:Int)(b:Str):decide ((Sum.inl a:Key)=Sum.inr b)=false:=ba (λq=>nomatch q)
theorem key_rl (a:Str)(b:Int):decide ((Sum.inr a:Key)=Sum.inl b)=false:=ba (λq=>nomatch q)
def vx (prog:Ac)(w:Ah):PySem.KeyKind prog w Key where
 is:=qkd
 hash:=keyH w
 inj:=λv a b ha hb=>by
  rcases zn ha with⟨i,t,rfl,rfl⟩|⟨x,t,rfl,rfl⟩
  .rcases zn hb with⟨j,u,rfl,e⟩|⟨y,u,rfl,e⟩
   .injection e with e1 _;rw[e1]
   .exact nomatch e
  .rcases zn hb with⟨j,u,rfl,e⟩|⟨y,u,rfl,e⟩
   .exact nomatch e
   .injection e with e1 _;rw[e1]
 byValue:=λk v h=>by rcases zn h with⟨i,t,rfl,rfl⟩|⟨x,t,rfl,rfl⟩ <;> rfl
 pyHash:=λhv h=>by
  rcases zn hv with⟨i,t,rfl,rfl⟩|⟨x,t,rfl,rfl⟩
  .exact wpAny_pyHash_int h
  .exact wpAny_pyHash_str h
 eqBool:=λhu hv h=>by
  rcases zn hu with⟨i,t,rfl,rfl⟩|⟨x,t,rfl,rfl⟩
  .rcases zn hv with⟨j,u,rfl,rfl⟩|⟨y,u,rfl,rfl⟩
   .rw[key_ll]at h;exact wpAny_eqBool_int h
   .rw[key_lr]at h;exact SeqAt.EqAt.int_str i t y u _ _ _ _ h
  .rcases zn hv with⟨j,u,rfl,rfl⟩|⟨y,u,rfl,rfl⟩
   .rw[key_rl]at h;exact SeqAt.EqAt.str_int x t j u _ _ _ _ h
   .rw[key_rr]at h;exact wpAny_eqBool_str h
 «strs»:=λk x t v h=>by
  rcases zn h with⟨i,u,rfl,e⟩|⟨y,u,rfl,e⟩
  .exact nomatch e
  .injection e with e1 _
   subst e1;cases v <;> rfl
theorem qum (prog:Ac)(w:Ah)(i:Int)(t:Tok):(vx prog w).is (.inl i) (.int i t)=true:=wky i t
theorem qy7 (prog:Ac)(w:Ah)(x:Str)(t:Tok):(vx prog w).is (.inr x) (.str x t)=true:=wk0 x t
inductive V where
 |non|bl (b:Bool)|int (i:Int)|str (x:Str)|byt (b:Array UInt8)|flt (b:UInt64)|ref (a:Aj)|ty (n:String)
 deriving DecidableEq
def RelV:V->Ag->Prop
 |.non,u=>u=Value.none
 |.bl b,u=>u=Value.bool b
 |.int i,u=>∃t,u=Value.int i t
 |.str x,u=>∃t,u=Value.str x t
 |.byt b,u=>∃t,u=Value.bytes b t
 |.flt b,u=>∃t,u=Value.float b t
 |.ref a,u=>u=Value.ref a
 |.ty n,u=>u=Value.type n
abbrev Vals:List V->List Ag->Prop:=Paired RelV
theorem Vals.length {xs:List V}{us:List Ag}(r:Vals xs us):xs.length=us.length:=b7 r
theorem Vals.get:∀ {xs:List V} {us:List Ag} {i:Nat} {x:V},Vals xs us->xs[i]?=some x->∃u,us[i]?=some u/\RelV x u
 |_,_,_,_,.nil,e=>by simp at e
 |_,_,0,_,.cons r _,e=>by simp at e;subst e;exact⟨_,rfl,r⟩
 |_,_,i+1,x,.cons _ t,e=>by obtain⟨u,h1,h2⟩:=Vals.get (i:=i) (x:=x) t (by simpa using e);exact⟨u,by simpa using h1,h2⟩
theorem Vals.set {x:V}{u:Ag}(r:RelV x u):∀ {xs:List V} {us:List Ag} (i:Nat),Vals xs us->Vals (xs.set i x) (us.set i u)
 |_,_,_,.nil=>.nil
 |_,_,0,.cons _ t=>.cons r t
 |_,_,i+1,.cons q t=>.cons q (Vals.set r i t)
theorem Vals.append:∀ {xs ys:List V} {us ws:List Ag},Vals xs us->Vals ys ws->Vals (xs++ys) (us++ws)
 |_,_,_,_,.nil,s=>s
 |_,_,_,_,.cons r t,s=>.cons r (Vals.append t s)
theorem Vals.take:∀ {xs:List V} {us:List Ag} (n:Nat),Vals xs us->Vals (xs.take n) (us.take n)
 |_,_,0,_=>.nil
 |_,_,_+1,.nil=>.nil
 |_,_,n+1,.cons r t=>.cons r (Vals.take n t)
theorem Vals.drop:∀ {xs:List V} {us:List Ag} (n:Nat),Vals xs us->Vals (xs.drop n) (us.drop n)
 |_,_,0,r=>r
 |_,_,_+1,.nil=>.nil
 |_,_,n+1,.cons _ t=>Vals.drop n t
def RelO:Option V->Option Ag->Prop
 |some v,some u=>RelV v u
 |none,none=>True
 |_,_=>False
def KV {κ:Type}:List (κ×V)->List (κ×Ag)->Prop:=Paired λ(p:κ×V) (q:κ×Ag)=>p.1=q.1/\RelV p.2 q.2
def kV:Key->V
 |.inl i=>.int i
 |.inr x=>.str x
inductive HO where
 |lst (xs:List V)
 |tup (xs:List V)
 |dK (kvs:List (Key×V))|dT (kvs:List (List Key×V))
 |set (S:Int->Bool) (n:Nat)
 |ins (C dx:Aj) (fs:List (Str×V))
 |own (x:Aj)
 |xd (fs:List (Str×V))
 |met (f x:Aj)
 |rng (lo hi:Int)
 |frz (o:Obj) (u:HO)
 |tbl (ps:Array Ag)
 |ext (φ:Heap->Prop)
abbrev Hp:=Aj->Option HO
def upd (H:Hp)(a:Aj)(o:HO):Hp:=λb=>if b=a then some o else H b
theorem qc {H:Hp}{a:Aj}{o:HO}:upd H a o a=some o:=by unfold upd;rw[av rfl]
theorem qt {H:Hp}{a b:Aj}{o:HO}(h:b≠a):upd H a o b=H b:=by unfold upd;rw[ao h]
theorem qyx {H:Hp}{a:Aj}{o u:HO}:upd (upd H a o) a u=upd H a u:=by funext b;unfold upd;split <;> rfl
theorem ne_of {H:Hp}{a b:Aj}{o u:HO}(h:H a=some o)(h':H b=some u)(d:o≠u):a≠b:=by intro e;subst e;rw[h]at h';exact d (au h')
theorem q9 {H:Hp}{a b:Aj}{o:HO}(h:H a=some o)(h':H b=none):a≠b:=by intro e;subst e;rw[h]at h';cases h'
section
variable (P:Ac)(w:Ah)
def ObjOk (H:Hp)(h:Heap)(a:Aj):HO->Prop
 |.lst xs=>xs.length<=sizeLine/\∃(its:List Ag) (n:Nat),Vals xs its/\h.get? a=some { cls:=.type "list",data:=.seq its.toArray n }
 |.tup xs=>xs.length<=sizeLine/\∃its:List Ag,Vals xs its/\IsTup h a its.toArray
 |.dK kvs=>kvs.length<=sizeLine/\(a==sysModules)=false/\∃vs,KV kvs vs/\h.DictOf (vx P w) a vs
 |.dT kvs=>kvs.length<=sizeLine/\(a==sysModules)=false/\∃xs:List (List Key×Aj×Ag),
   Paired (λ(p:List Key×V) (q:List Key×Aj×Ag)=>p.1=q.1/\H q.2.1=some (.tup (p.1.map kV))/\RelV p.2 q.2.2) kvs xs /\
   ∃o es ep,h.get? a=some o/\o.ExactDict/\o.data=.dict es ep/\es.toList=xs.map (entryOfKey (tupleKind (vx P w)))/\(xs.map (·.1)).Nodup
 |.set S n=>h.SetOf (intKind P w) a S n
 |.ins C dx fs=>H dx=some (.own a)/\fs.length<=1000/\dx≠a/\h.get? a=some (W.instObj C dx) /\
   ∃mA,h.Ns1 dx mA/\(∀f,RelO (fs.lookup f) (mA f))/\PySem.Within mA (fs.map (·.1))
 |.own _=>∃o,h.get? a=some o
 |.xd fs=>∃mA,h.Ns1 a mA/\∀f,RelO (fs.lookup f) (mA f)
 |.rng lo hi=>∃t u v,h.get? a=some { cls:=.type "range",data:=.fields #[.int lo t,.int hi u,.int 1 v] }
 |.frz o u=>h.get? a=some o/\ObjOk H h a u
 |.tbl ps=>h.get? a=some { cls:=.none,data:=.fields ps }
 |.met f x=>h.get? a=some (W.methodObj (.ref f) (.ref x))
 |.ext φ=>φ h/\(∃o,h.get? a=some o)/\∀h1 h2:Heap,φ h1->(∀o,h1.get? a=some o->h2.get? a=some o)->φ h2
def HOk (H:Hp)(h:Heap):Prop:=∀a o,H a=some o->ObjOk P w H h a o
end
section
variable {P:Ac}{w:Ah}{H H':Hp}{h h':Heap}{a:Aj}{o:HO}
theorem ObjOk.lt (x:ObjOk P w H h a o):a<h.objs.size:=by
 cases o with
 |lst xs=>obtain⟨_,_,_,_,e⟩:=x;exact al e
 |tup xs=>obtain⟨_,_,_,p⟩:=x;exact p.lt
 |dK kvs=>obtain⟨_,_,_,_,o,_,_,e,_⟩:=x;exact al e
 |dT kvs=>obtain⟨_,_,_,_,o,_,_,e,_⟩:=x;exact al e
 |set S n=>obtain⟨o,_,_,_,e,_⟩:=x;exact al e
 |ins C dx fs=>obtain⟨_,_,_,e,_⟩:=x;exact al e
 |own y=>obtain⟨_,e⟩:=x;exact al e
 |xd fs=>obtain⟨_,⟨_,_,_,e,_⟩,_⟩:=x;exact al e
 |rng lo hi=>obtain⟨_,_,_,e⟩:=x;exact al e
 |frz ob u=>obtain⟨e,_⟩:=x;exact al e
 |tbl ps=>exact al (show h.get? a=some _ from x)
 |met f y=>exact al (show h.get? a=some _ from x)
 |ext φ=>obtain⟨_,⟨_,e⟩,_⟩:=x;exact al e
theorem Paired.mapP {α β:Type}{F G:α->β->Prop}:∀ {l₁:List α} {l₂:List β},Paired F l₁ l₂->(∀a b,F a b->G a b)->Paired G l₁ l₂
 |_,_,.nil,_=>.nil
 |_,_,.cons r t,f=>.cons (f _ _ r) (Paired.mapP t f)
theorem ObjOk.stay (x:ObjOk P w H h a o)(k:∀b u,(b=a\/H b=some (.own a))->h.get? b=some u->h'.get? b=some u)
  (ho:∀b,H b=some (.own a)->H' b=some (.own a)) (ht:∀b xs,H b=some (.tup xs)->H' b=some (.tup xs)):ObjOk P w H' h' a o:=by
 induction o with
 |lst xs=>obtain⟨z,J,n,r,e⟩:=x;exact⟨z,J,n,r,k _ _ (.inl rfl) e⟩
 |tup xs=>obtain⟨z,J,r,D,e,c⟩:=x;exact⟨z,J,r,D,k _ _ (.inl rfl) e,c⟩
 |dK kvs=>obtain⟨z,y,vs,r,D,es,ep,e,c⟩:=x;exact⟨z,y,vs,r,D,es,ep,k _ _ (.inl rfl) e,c⟩
 |dT kvs =>
  obtain⟨z,y,xs,r,D,es,ep,e,c⟩:=x;exact⟨z,y,xs,Paired.mapP r λp q z=>⟨z.1,ht _ _ z.2.1,z.2.2⟩,D,es,ep,k _ _ (.inl rfl) e,c⟩
 |set S n=>obtain⟨D,es,ep,t,e,c⟩:=x;exact⟨D,es,ep,t,k _ _ (.inl rfl) e,c⟩
 |ins C dx fs =>
  obtain⟨d,z,L,e,mA,⟨F,es,ep,U,c⟩,r⟩:=x;exact⟨ho _ d,z,L,k _ _ (.inl rfl) e,mA,⟨F,es,ep,k _ _ (.inr d) U,c⟩,r⟩
 |own y=>obtain⟨D,e⟩:=x;exact⟨D,k _ _ (.inl rfl) e⟩
 |xd fs=>obtain⟨mA,⟨F,es,ep,e,c⟩,r⟩:=x;exact⟨mA,⟨F,es,ep,k _ _ (.inl rfl) e,c⟩,r⟩
 |rng lo hi=>obtain⟨t,u,v,e⟩:=x;exact⟨t,u,v,k _ _ (.inl rfl) e⟩
 |frz D u ih=>obtain⟨e,q⟩:=x;exact⟨k _ _ (.inl rfl) e,ih q⟩
 |tbl ps =>
  have e:h.get? a=some { cls:=.none,data:=.fields ps }:=x;show h'.get? a=some { cls:=.none,data:=.fields ps };exact k a _ (.inl rfl) e
 |met f y =>
  have e:h.get? a=some (W.methodObj (.ref f) (.ref y)):=x;show h'.get? a=some (W.methodObj (.ref f) (.ref y));exact k a _ (.inl rfl) e
 |ext φ=>obtain⟨p,⟨o,e⟩,st⟩:=x;exact⟨st _ _ p λo q=>k _ _ (.inl rfl) q,⟨o,k _ _ (.inl rfl) e⟩,st⟩
theorem HOk.lt (x:HOk P w H h)(e:H a=some o):a<h.objs.size:=(x a o e).lt
theorem HOk.fresh (x:HOk P w H h)(e:h.objs.size<=a):H a=none:=by
 cases q:H a with
 |none=>rfl
 |some u=>exact absurd (aL (x.lt q) e) (be _)
theorem HOk.kept (x:HOk P w H h)(k:∀b u,h.get? b=some u->h'.get? b=some u):HOk P w H h':=λa o e =>
 (x a o e).stay (λb u _ q=>k b u q) (λ_ q=>q) λ_ _ q=>q
theorem HOk.laid (x:HOk P w H h)(k:∀b u,h.get? b=some u->h'.get? b=some u)(hp:h.objs.size<=a)(new:ObjOk P w (upd H a o) h' a o):HOk P w (upd H a o) h':=λb u e=>by
 have hn:=x.fresh hp;by_cases hb:b=a
 .subst hb;rw[qc]at e;cases e;exact new
 .rw[qt hb]at e;exact(x b u e).stay (λc v _ q=>k c v q) (λc q=>by rw[qt (q9 q hn)];exact q) λc xs q=>by rw[qt (q9 q hn)];exact q
end
def Rd (H:Hp)(a:Aj)(u:HO):Prop:=H a=some u\/∃o,H a=some (.frz o u)
theorem Rd.ok {P:Ac}{w:Ah}{H:Hp}{h:Heap}{a:Aj}{u:HO}(r:Rd H a u)(x:HOk P w H h):ObjOk P w H h a u:=by
 rcases r with r|⟨o,r⟩
 .exact x a u r
 .obtain⟨_,q⟩:=x a _ r;exact q
def Mut:Option HO->Prop
 |some (.lst _)=>True
 |some (.dK _)=>True
 |some (.dT _)=>True
 |some (.set _ _)=>True
 |some (.ins _ _ _)=>True
 |some (.ext _)=>True
 |_=>False
section
variable {P:Ac}{w:Ah}{H:Hp}{h h':Heap}{x e:Aj}{o':HO}
theorem HOk.write (ok:HOk P w H h)(mu:Mut (H x))(he:e=x\/H e=some (.own x))(k:∀b u,b≠e->h.get? b=some u->h'.get? b=some u)(heo:∃u,h'.get? e=some u)
  (new:ObjOk P w (upd H x o') h' x o'):HOk P w (upd H x o') h':=λb u q=>by
 have nown:∀c y,H c=some (.own y)->c≠x:=λc y r z=>by subst z;rw[r]at mu;exact mu
 have ntup:∀c xs,H c=some (.tup xs)->c≠x:=λc xs r z=>by subst z;rw[r]at mu;exact mu
 by_cases hb:b=x
 .subst hb;rw[qc]at q;cases q;exact new
 .rw[qt hb]at q;by_cases hbe:b=e
  .have q':H b=some (.own x):=by
    rcases he with z|z
    .exact absurd (hbe.trans z) hb
    .rw[hbe];exact z
   rw[q]at q';cases q';obtain⟨v,hv⟩:=heo;exact⟨v,by rw[hbe];exact hv⟩
  .refine(ok b u q).stay (λc v D r=>k c v ?_ r) (λc r=>by rw[qt (nown c b r)];exact r) λc xs r=>by rw[qt (ntup c xs r)];exact r
   rcases D with rfl|D
   .exact hbe
   .rintro rfl;rcases he with z|z
    .exact nown c b D z
    .rw[D]at z;cases z;exact hb rfl
end
structure Un (fs ex:List Aj)(H H':Hp)(h h':Heap):Prop where
 keep:∀b o,h.get? b=some o->H b=none->b∉fs->b∉ex->h'.get? b=some o
 slot:∀b o,h.get? b=some o->H b=none->b∈fs->b∉ex->∃sl,h'.get? b=some { o with slots:=sl }
 free:∀b o,h.get? b=some o->H b=none->b∉ex->H' b=none
 there:∀b o,h.get? b=some o->b∉ex->∃o',h'.get? b=some o'
 tups:∀b xs,H b=some (.tup xs)->H' b=some (.tup xs)
 frzs:∀b o u,H b=some (.frz o u)->H' b=some (.frz o u)
 tbls:∀b ps,H b=some (.tbl ps)->∃more,H' b=some (.tbl (ps++more))
section
variable {fs fs' ex ex':List Aj}{H H1 H2:Hp}{h h1 h2 h':Heap}{a x e:Aj}{o:HO}
theorem Un.any (u:Un fs ex H H1 h h1){b:Aj}{ob:Obj}(q:h.get? b=some ob)(n:H b=none)(hx:b∉ex):∃sl,h1.get? b=some { ob with slots:=sl }:=by
 by_cases hb:b∈fs
 .exact u.slot b ob q n hb hx
 .exact⟨ob.slots,u.keep b ob q n hb hx⟩
theorem Un.kept (k:∀b u,h.get? b=some u->h'.get? b=some u):Un fs ex H H h h' :=
 ⟨λb ob q _ _ _=>k b ob q,λb ob q _ _ _=>⟨ob.slots,k b ob q⟩,λ_ _ _ n _=>n,λb ob q _=>⟨ob,k b ob q⟩,λ_ _ q=>q,λ_ _ _ q=>q,λ_ ps q=>⟨#[],by rw[q];simp⟩⟩
theorem Un.refl:Un fs ex H H h h:=Un.kept λ_ _ q=>q
theorem Un.laid (k:∀b u,h.get? b=some u->h'.get? b=some u)(hp:h.objs.size<=a)(hn:H a=none):Un fs ex H (upd H a o) h h' where
 keep:=λb u q _ _ _=>k b u q
 slot:=λb u q _ _ _=>⟨u.slots,k b u q⟩
 free:=λb u q n _=>by rw[qt (aB (aL (al q) hp))];exact n
 there:=λb u q _=>⟨u,k b u q⟩
 tups:=λb xs q=>by rw[qt (q9 q hn)];exact q
 frzs:=λb u xs q=>by rw[qt (q9 q hn)];exact q
 tbls:=λb ps q=>⟨#[],by rw[qt (q9 q hn),q];simp⟩
theorem Un.write (mu:Mut (H x))(he:e=x\/H e=some (.own x))(k:∀b u,b≠e->h.get? b=some u->h'.get? b=some u)(heo:∃u,h'.get? e=some u):Un fs ex H (upd H x o) h h':=by
 have F:∀b,H b=none->b≠x:=λb n z=>by subst z;rw[n]at mu;exact mu
 have J:∀b,H b=none->b≠e:=λb n z=>by
  subst z;rcases he with r|r
  .exact F b n r
  .rw[n]at r;cases r
 have D:∀b u,H b=some u->¬ Mut (some u)->b≠x:=λb u q nm z=>by subst z;rw[q]at mu;exact nm mu
 refine⟨λb u q n _ _=>k b u (J b n) q,λb u q n _ _=>⟨u.slots,k b u (J b n) q⟩,λb u q n _=>by rw[qt (F b n)];exact n,λb u q _=>?_,
  λb xs q=>by rw[qt (D b _ q λz=>z)];exact q,λb u xs q=>by rw[qt (D b _ q λz=>z)];exact q,λb ps q=>⟨#[],by rw[qt (D b _ q λz=>z),q];simp⟩⟩
 by_cases hbe:b=e
 .subst hbe;exact heo
 .exact⟨u,k b u hbe q⟩
end
def trk (h:Heap)(H:Hp):List Aj:=(List.range h.objs.size).filter λa=>(H a).isSome
def qvu (h:Heap)(H:Hp):Heap:=W.hideAll h (trk h H)
theorem wjm (h:Heap)(H:Hp):(qvu h H).objs.size=h.objs.size:=W.hideAll_size _ _
theorem xqz {h:Heap}{H:Hp}{b:Aj}{o:Obj}(e:h.get? b=some o)(n:H b=none):(qvu h H).get? b=some o :=
 W.hideAll_get _ e λhm=>by have q:(H b).isSome=true:=(bz.mp hm).2;rw[n]at q;simp at q
theorem xxb {h:Heap}{H:Hp}{b:Aj}{o:Obj}(e:(qvu h H).get? b=some o):h.get? b=some o/\H b=none:=by
 have D:h.get? b=some o:=W.of_hideAll (trk h H) e;refine⟨D,?_⟩;cases q:H b with
 |none=>rfl
 |some x =>
  have F:b∈trk h H:=bz.mpr ⟨aw.mpr (al D),by simp[q]⟩;have z:(qvu h H).get? b=none:=W.hideAll_none (trk h H) F;rw[z]at e;cases e
def xzn (g h:Heap)(L:Aj):List (Aj×Obj):=(List.range h.objs.size).filterMap λa=>if a=L\/(g.get? a).isSome=true then none else(h.get? a).map λo=>(a,o)
def rest (g h:Heap)(L d:Aj):List (Aj×Obj):=(xzn g h L).filter λp=>decide (p.1≠d)
structure Mod (K:Aa)(mg:Str->Option Ag)(base:Heap):Prop where
 kin:K.In base
 glob:base.Ns mainGlobals mg
 blt:∃mb,base.Ns builtinsNs mb/\∀x:Str,x ≠ "__name__" -> mb x=bootBuiltins x
 nolimit:base.NoLimit
structure Cx where
 prog:Ac
 w:Ah
 K:Aa
 mg:Str->Option Ag
 base:Heap
 A:Ae
 N:List Str
 s₀:Ab
 H₀:Hp
 env:Env
 outer:List Env
 stack:List Env
 ex:List Aj
 fn:Str->Bool
 calm:Bool
 pn:List (Aj×Obj)
 xe:Ag->Ab->Prop
def frs (l:List Env):List Aj:=l.filterMap (·.frame)
abbrev Cx.fs (X:Cx):List Aj:=frs X.outer
def Vis (sc:Scope)(x:Str):Prop:=sc.names.lookup x=some .local\/sc.names.lookup x=some .cell\/sc.names.lookup x=some .free
def Loc (sc:Scope)(x:Str):Prop:=sc.names.lookup x=some .local\/sc.names.lookup x=some .cell
def Look (env:Env)(h:Heap)(m:Str->Option Ag)(x:Str)(u:Ag):Prop :=
 (env.kindOf x=some .local/\m x=some u)\/((env.kindOf x=some .cell\/env.kindOf x=some .free)/\∃c,env.cells.lookup x=some c/\h.IsCell c (some u))
structure Cx.Ok (X:Cx):Prop where
 mod:Mod X.K X.mg X.base
 kind:X.env.scope.kind=.function
 glob:X.env.globals=mainGlobals
 blt:X.env.builtins=builtinsNs
 above:X.s₀.heap.objs.size<=X.env.locals
 inj:∀x y c,X.env.cells.lookup x=some c->X.env.cells.lookup y=some c->x=y
 has:∀x,(X.env.kindOf x=some .cell\/X.env.kindOf x=some .free)->∃c,X.env.cells.lookup x=some c
 cab:∀x c,X.fn x=true->X.env.cells.lookup x=some c->X.s₀.heap.objs.size<=c
 hd:X.calm=true->X.A.handled=none
 frames:X.A.frames=some X.stack
 stk:X.stack=X.outer\/(X.stack=X.env::X.outer/\X.env.frame=some X.env.locals)
 exf:∀b∈X.ex,b≠X.env.locals/\∀x c,X.env.cells.lookup x=some c->c≠b
 bs:∀b o,X.base.get? b=some o->X.s₀.heap.get? b=some o/\X.H₀ b=none
 bsz:X.base.objs.size<=X.s₀.heap.objs.size
 noex:∀b o,X.base.get? b=some o->b∉X.ex
 exfs:∀b∈X.ex,b∉X.fs
 funs:X.s₀.heap.FunFrames X.base X.outer
 frf:∀b∈X.fs,X.H₀ b=none
structure Inv (X:Cx)(pins:List (Aj×Obj))(σ:List (Option V))(H:Hp)(s:Ab):Prop where
 ok:X.Ok
 os:s.os=X.s₀.os
 bare:AllBare s.gens
 base:Un X.fs X.ex X.H₀ H X.s₀.heap s.heap
 loc:∃m,s.heap.Ns X.env.locals m/\∀(i:Nat) (x:Str) (v:V),X.N[i]?=some x->σ[i]?=some (some v)->Vis X.env.scope x->∃u,RelV v u/\Look X.env s.heap m x u
 cell:∀x c,X.env.cells.lookup x=some c->∃v,s.heap.IsCell c v
 free:H X.env.locals=none
 freeC:∀x c,X.env.cells.lookup x=some c->H c=none
 pin:∀p∈X.pn++pins,s.heap.get? p.1=some p.2/\H p.1=none/\p.1≠X.env.locals/\p.1∉X.fs/\∀v,p.2.data≠.cell v
 hok:HOk X.prog X.w H s.heap
 len:σ.length=X.N.length
section
variable {X:Cx}{pins:List (Aj×Obj)}{σ:List (Option V)}{H H':Hp}{s:Ab}{h':Heap}
theorem Cx.Ok.nofr (ok:X.Ok){b:Aj}{o:Obj}(e:X.base.get? b=some o):b∉X.fs:=λhb=>by have:=(ok.funs.mem hb).1;rw[e]at this;cases this
theorem Inv.bs (I:Inv X pins σ H s):∀b o,X.base.get? b=some o->s.heap.get? b=some o/\H b=none:=λb o e =>
 ⟨I.base.keep b o (I.ok.bs b o e).1 (I.ok.bs b o e).2 (I.ok.nofr e) (I.ok.noex b o e),I.base.free b o (I.ok.bs b o e).1 (I.ok.bs b o e).2 (I.ok.noex b o e)⟩
theorem Inv.bk (I:Inv X pins σ H s):∀b o,X.base.get? b=some o->s.heap.get? b=some o:=λb o e=>(I.bs b o e).1
theorem Inv.mod (I:Inv X pins σ H s):Mod X.K X.mg X.base:=I.ok.mod
theorem Inv.kIn (I:Inv X pins σ H s):X.K.In s.heap:=I.ok.mod.kin.keeps I.bk
theorem Inv.lt (I:Inv X pins σ H s):X.env.locals<s.heap.objs.size:=let ⟨_,hn,_⟩:=I.loc;hn.lt
theorem Inv.sz (I:Inv X pins σ H s):X.s₀.heap.objs.size<=s.heap.objs.size:=bK I.ok.above (br I.lt)
theorem Inv.nofs (I:Inv X pins σ H s){a:Aj}(h:s.heap.objs.size<=a):a∉X.fs:=λhb=>by obtain⟨_,o,ho,_⟩:=I.ok.funs.mem hb;exact absurd (aL (al ho) (bK I.sz h)) (be _)
theorem Inv.cne (I:Inv X pins σ H s):∀x c,X.env.cells.lookup x=some c->c≠X.env.locals:=λx c e z=>by obtain⟨v,o,ho,hd⟩:=I.cell x c e;obtain⟨m,⟨o',es,ep,ho',hd',_⟩,_⟩:=I.loc;rw[z,ho']at ho;cases ho;rw[hd']at hd;cases hd
theorem Inv.funs (I:Inv X pins σ H s):s.heap.FunFrames X.base X.outer:=by
 have ab:∀(l:List Env),(∀b∈frs l,b∈X.fs)->X.s₀.heap.FunFrames X.base l->s.heap.FunFrames X.base l:=by
  intro l
  induction l with
  |nil=>intro _ _;trivial
  |cons env r ih =>
   intro hs hl;obtain⟨hk,⟨L,o,D,Z,W,hd⟩,U⟩:=hl;have J:L∈X.fs:=hs L (by unfold frs;rw[eE,D];exact dS);obtain⟨sl,e⟩:=I.base.slot L o W (I.ok.frf L J) J λz=>I.ok.exfs L z J;exact⟨hk,⟨L,_,D,Z,e,hd⟩,ih (λb F=>hs b (by unfold frs;rw[eE,D];exact cf _ F)) U⟩
 exact ab X.outer (λ_ F=>F) I.ok.funs
theorem Inv.stack (I:Inv X pins σ H s):s.heap.FunFrames X.base X.stack:=by
 rcases I.ok.stk with e|⟨e,hf⟩
 .rw[e];exact I.funs
 .rw[e];obtain⟨m,D,_⟩:=I.loc;refine .cons (by rw[I.ok.kind];decide) hf D ?_ I.funs;exact Heap.get?_none_of_le (bK I.ok.bsz I.ok.above)
theorem Inv.stkSub (I:Inv X pins σ H s):∀b∈frs X.stack,b∈X.env.locals::X.fs:=λb hb=>by
 rcases I.ok.stk with e|⟨e,hf⟩
 .rw[e]at hb;exact cf _ hb
 .rw[e]at hb;unfold frs at hb;rw[eE,hf]at hb;exact hb
theorem Inv.stkFree (I:Inv X pins σ H s):∀b∈frs X.stack,H b=none:=λb hb=>by
 rcases aQ.mp (I.stkSub b hb) with e|hb
 .rw[e];exact I.free
 .obtain⟨_,o,ho,_⟩:=I.ok.funs.mem hb;exact I.base.free b o ho (I.ok.frf b hb) λz=>I.ok.exfs b z hb
theorem Inv.step {g':Array GenState}{t':Nat}{d':Drawn}{ch:List Aj}(I:Inv X pins σ H s)
  (hch:∀b∈ch,(b∈X.ex\/X.s₀.heap.objs.size<=b)/\b≠X.env.locals/\(∀x c,X.env.cells.lookup x=some c->c≠b)/\∀p∈X.pn++pins,p.1≠b)
  (keep:∀b o,b≠X.env.locals->b∉X.fs->b∉ch->s.heap.get? b=some o->H b=none->h'.get? b=some o)
  (slot:∀b o,b≠X.env.locals->b∈X.fs->b∉ch->s.heap.get? b=some o->H b=none->∃sl,h'.get? b=some { o with slots:=sl }) (free:∀b o,b∉ch->s.heap.get? b=some o->H b=none->H' b=none)
  (there:∀b o,b∉ch->s.heap.get? b=some o->∃o',h'.get? b=some o')
  (tups:∀b xs,H b=some (.tup xs)->H' b=some (.tup xs)) (frzs:∀b o u,H b=some (.frz o u)->H' b=some (.frz o u)) (tbls:∀b ps,H b=some (.tbl ps)->∃more,H' b=some (.tbl (ps++more)))
  (ns:∀m,s.heap.Ns X.env.locals m->h'.Ns X.env.locals m) (hok:HOk X.prog X.w H' h') (hg:AllBare g') :
  Inv X pins σ H' { s with heap:=h',gens:=g',drawn:=d',toks:=t' }:=by
 have ab:∀b o,X.s₀.heap.get? b=some o->b≠X.env.locals:=λb o e=>aB (aL (al e) I.ok.above);have Z:∀b o,X.s₀.heap.get? b=some o->b∉X.ex->b∉ch:=λb o e D J=>by
  rcases(hch b J).1 with z|z
  .exact D z
  .exact absurd (aL (al e) z) (be _)
 have ac:∀x c,X.env.cells.lookup x=some c->∀v,s.heap.IsCell c v->h'.IsCell c v:=λx c e v ⟨o,L,hd⟩=>by
  have U:c∉ch:=λz=>(hch c z).2.2.1 x c e rfl;by_cases hc:c∈X.fs
  .obtain⟨sl,q⟩:=slot c o (I.cne x c e) hc U L (I.freeC x c e);exact⟨_,q,hd⟩
  .exact⟨o,keep c o (I.cne x c e) hc U L (I.freeC x c e),hd⟩
 refine⟨I.ok,I.os,hg,⟨λb o e n J D=>?_,λb o e n J D=>?_,λb o e n D=>?_,λb o e D=>?_,λb xs e=>tups b xs (I.base.tups b xs e),λb o xs e=>frzs b o xs (I.base.frzs b o xs e),λb ps e=>?_⟩,?_,λx c e=>?_,?_,λx c e=>?_,λp hp=>?_,hok,I.len⟩
 .exact keep b o (ab b o e) J (Z b o e D) (I.base.keep b o e n J D) (I.base.free b o e n D)
 .obtain⟨sl,F⟩:=I.base.slot b o e n J D;obtain⟨ad,W⟩:=slot b _ (ab b o e) J (Z b o e D) F (I.base.free b o e n D);exact⟨ad,W⟩
 .obtain⟨o',F⟩:=I.base.there b o e D;exact free b o' (Z b o e D) F (I.base.free b o e n D)
 .obtain⟨o',F⟩:=I.base.there b o e D;exact there b o' (Z b o e D) F
 .obtain⟨m1,F⟩:=I.base.tbls b ps e;obtain⟨m2,W⟩:=tbls b _ F;exact⟨m1++m2,by rw[W,Array.append_assoc]⟩
 .obtain⟨m,hn,hl⟩:=I.loc;refine⟨m,ns m hn,λi x v F W e3=>?_⟩;obtain⟨u,r,l⟩:=hl i x v F W e3;refine⟨u,r,?_⟩;rcases l with l|⟨k,c,e,z⟩
  .exact .inl l
  .exact .inr ⟨k,c,e,ac x c e _ z⟩
 .obtain⟨v,z⟩:=I.cell x c e;exact⟨v,ac x c e v z⟩
 .obtain⟨m,⟨o,_,_,L,_⟩,_⟩:=I.loc;exact free _ o (λz=>(hch _ z).2.1 rfl) L I.free
 .obtain⟨v,o,L,hd⟩:=I.cell x c e;exact free c o (λz=>(hch c z).2.2.1 x c e rfl) L (I.freeC x c e)
 .obtain⟨e,n,ne,nf,d⟩:=I.pin p hp;have U:p.1∉ch:=λz=>(hch p.1 z).2.2.2 p hp rfl;exact⟨keep p.1 p.2 ne nf U e n,free p.1 p.2 U e n,ne,nf,d⟩
theorem Inv.un {t':Nat}(I:Inv X pins σ H s)(u:Un X.fs [] H H' s.heap h')(hok:HOk X.prog X.w H' h'):Inv X pins σ H' { s with heap:=h',toks:=t' }:=by
 obtain⟨m,⟨o,es,ep,J,r⟩,_⟩:=id I.loc;obtain⟨sl,W⟩:=u.any J I.free (by simp);exact I.step (g':=s.gens) (d':=s.drawn) (ch:=[]) (λ_ z=>nomatch z) (λb o _ D _ e n=>u.keep b o e n D (by simp)) (λb o _ D _ e n=>u.slot b o e n D (by simp)) (λb o _ e n=>u.free b o e n (by simp)) (λb o _ e=>u.there b o e (by simp)) u.tups u.frzs u.tbls (λm' U=>by
  obtain⟨o',Z,ab,F,L⟩:=U
  rw[J]at F;cases F
  exact⟨_,Z,ab,W,L⟩) hok I.bare
theorem Inv.call {g':Array GenState}{t':Nat}{d':Drawn}{ch:List Aj}(I:Inv X pins σ H s)(u:Un (frs X.stack) ch H H' s.heap h')(hok:HOk X.prog X.w H' h')(hg:AllBare g')
  (hch:∀b∈ch,(b∈X.ex\/X.s₀.heap.objs.size<=b)/\b≠X.env.locals/\(∀x c,X.env.cells.lookup x=some c->c≠b)/\∀p∈X.pn++pins,p.1≠b) :
  Inv X pins σ H' { s with heap:=h',gens:=g',drawn:=d',toks:=t' }:=by
 obtain⟨m,⟨o,es,ep,L,r⟩,_⟩:=id I.loc;obtain⟨sl,F⟩:=u.any L I.free λz=>(hch _ z).2.1 rfl;exact I.step (ch:=ch) hch (λb o F Z D e n=>u.keep b o e n (λz=>(aQ.mp (I.stkSub b z)).elim F Z) D) (λb o _ _ D e n=>u.any e n D) (λb o D e n=>u.free b o e n D) (λb o D e=>u.there b o e D) u.tups u.frzs u.tbls (λm' W=>by
  obtain⟨o',ab,ac,J,U⟩:=W
  rw[L]at J;cases J
  exact⟨_,ab,ac,F,U⟩) hok hg
theorem Inv.turned {t':Nat}{it:Aj}(I:Inv X pins σ H s)(k:∀b o,b≠it->s.heap.get? b=some o->h'.get? b=some o)(hn:H it=none)(hL:it≠X.env.locals)
  (h1:it∈X.ex\/X.s₀.heap.objs.size<=it) (h2:∀x c,X.env.cells.lookup x=some c->c≠it) (h3:∀p∈X.pn++pins,p.1≠it):Inv X pins σ H { s with heap:=h',toks:=t' }:=by
 have F:∀b u,H b=some u->b≠it:=λb u e z=>by rw[z,hn]at e;cases e
 refine I.step (g':=s.gens) (d':=s.drawn) (ch:=[it]) (λb U=>?_) (λb o _ _ D e _=>k b o (λz=>D (by simp[z])) e) (λb o _ _ D e _=>⟨o.slots,k b o (λz=>D (by simp[z])) e⟩) (λ_ _ _ _ n=>n)
  (λb o D e=>⟨o,k b o (λz=>D (by simp[z])) e⟩) (λ_ _ e=>e) (λ_ _ _ e=>e) (λb ps e=>⟨#[],by rw[e];simp⟩) (λm L=>?_) (λb u e=>?_) I.bare
 .have e:b=it:=by simpa using U
  subst e;exact⟨h1,hL,h2,h3⟩
 .obtain⟨o,es,ep,J,r⟩:=L;exact⟨o,es,ep,k _ o (dY hL) J,r⟩
 .refine(I.hok b u e).stay (λc v D q=>k c v ?_ q) (λ_ q=>q) λ_ _ q=>q;rcases D with z|z
  .rw[z];exact F b u e
  .exact F c _ z
theorem Inv.tok (I:Inv X pins σ H s)(t:Nat):Inv X pins σ H { s with toks:=t }:=I.un (h':=s.heap) (t':=t) Un.refl I.hok
theorem Inv.kept {t':Nat}(I:Inv X pins σ H s)(k:∀b u,s.heap.get? b=some u->h'.get? b=some u):Inv X pins σ H { s with heap:=h',toks:=t' }:=I.un (Un.kept k) (I.hok.kept k)
theorem Inv.laid {a:Aj}{o:HO}{t':Nat}(I:Inv X pins σ H s)(k:∀b u,s.heap.get? b=some u->h'.get? b=some u)(hp:s.heap.objs.size<=a)(new:ObjOk X.prog X.w (upd H a o) h' a o) :
  Inv X pins σ (upd H a o) { s with heap:=h',toks:=t' }:=I.un (Un.laid k hp (I.hok.fresh hp)) (I.hok.laid k hp new)
theorem Inv.write {x e:Aj}{o:HO}{t':Nat}(I:Inv X pins σ H s)(mu:Mut (H x))(he:e=x\/H e=some (.own x))(k:∀b u,b≠e->s.heap.get? b=some u->h'.get? b=some u)(heo:∃u,h'.get? e=some u)
  (new:ObjOk X.prog X.w (upd H x o) h' x o):Inv X pins σ (upd H x o) { s with heap:=h',toks:=t' }:=I.un (Un.write mu he k heo) (I.hok.write mu he k heo new)
theorem Inv.weak {σ':List (Option V)}(I:Inv X pins σ H s)(hl:σ'.length=σ.length)(w:∀(i:Nat) v,σ'[i]?=some (some v)->σ[i]?=some (some v)):Inv X pins σ' H s :=
 ⟨I.ok,I.os,I.bare,I.base,let ⟨m,hn,hl'⟩:=I.loc;⟨m,hn,λi x v e1 e2 e3=>hl' i x v e1 (w i v e2) e3⟩,I.cell,I.free,I.freeC,I.pin,I.hok,hl.trans I.len⟩
theorem Inv.pins_of {pins':List (Aj×Obj)}(I:Inv X pins σ H s)(h:∀p∈pins',s.heap.get? p.1=some p.2/\H p.1=none/\p.1≠X.env.locals/\p.1∉X.fs/\∀v,p.2.data≠.cell v):Inv X pins' σ H s :=
 ⟨I.ok,I.os,I.bare,I.base,I.loc,I.cell,I.free,I.freeC,λp hp=>(aY.mp hp).elim (λz=>I.pin p (cD _ z)) (h p),I.hok,I.len⟩
theorem wqf {N:List Str}(hN:N.Nodup){i j:Nat}{x:Str}(a:N[i]?=some x)(b:N[j]?=some x):i=j:=by obtain⟨h1,e1⟩:=ak.mp a;obtain⟨h2,e2⟩:=ak.mp b;exact(List.getElem_inj hN).mp (e1.trans e2.symm)
theorem _root_.aU0 (h:True:=by walk_at "iv"):True:=h
theorem wjg {M:Model}{A:Ae}{E:Ag->Ab->Prop}{i:Nat}{x:Str}{v:V}{u:Ag}{Q:Unit->Ab->Prop}(I:Inv X pins σ H s)(hN:X.N.Nodup)(hi:X.N[i]?=some x)(hx:Loc X.env.scope x)(r:RelV v u)
  (h:∀s',Inv X pins (σ.set i (some v)) H s'->(∃a,Heap.SameBut a s.heap s'.heap/\(a=X.env.locals\/X.env.cells.lookup x=some a))->Q () s') (hf:autoParam (X.fn x=true\/X.env.scope.names.lookup x=some .local) aU0._auto_1):wpAny M A (storeName X.env x u) Q E s:=by
 obtain⟨m,hn,hl⟩:=id I.loc;have a3:(X.env.scope.kind==.class||(X.env.scope.kind==.module&&X.env.locals != X.env.globals))=false:=by rw[I.ok.kind];rfl
 have an:i<σ.length:=by rw[I.len];exact(ak.mp hi).1
 have ac:=I.cne;have ad:∀ {a:Aj} {h':Heap},(∃o,s.heap.get? a=some o/\H a=none)->Heap.SameBut a s.heap h'->HOk X.prog X.w H h':=λ{a h'} ha hs b ob e=>by
  obtain⟨_,_,ap⟩:=ha;refine(I.hok b ob e).stay (λc U F q=>(hs.2 c ?_).trans q) (λ_ q=>q) λ_ _ q=>q;rintro rfl;rcases F with rfl|F
  .rw[ap]at e;cases e
  .rw[ap]at F;cases F
 rcases hx with hk|hk
 .refine wpAny_storeName_local hk hn (λh' a2 hs=>?_) a3;obtain⟨oL,_,_,a1,_⟩:=id hn;refine h _ ⟨I.ok,I.os,I.bare,⟨λb o e n L hx=>?_,λb o e n L hx=>?_,I.base.free,λb o e hx=>?_,I.base.tups,I.base.frzs,I.base.tbls⟩,⟨_,a2,λj y Z D J e3=>?_⟩,λy c e=>?_,I.free,I.freeC,λp hp=>?_,ad ⟨oL,a1,I.free⟩ hs,by simpa using I.len⟩ ⟨_,hs,.inl rfl⟩
  .exact(hs.2 b (aB (aL (al e) I.ok.above))).trans (I.base.keep b o e n L hx)
  .obtain⟨sl,D⟩:=I.base.slot b o e n L hx;exact⟨sl,(hs.2 b (aB (aL (al e) I.ok.above))).trans D⟩
  .obtain⟨o',D⟩:=I.base.there b o e hx;exact⟨o',(hs.2 b (aB (aL (al e) I.ok.above))).trans D⟩
  .by_cases hj:j=i
   .subst hj;rw[hi]at D;cases D;rw[List.getElem?_set_self an]at J;cases J;exact⟨u,r,.inl ⟨hk,by simp⟩⟩
   .rw[List.getElem?_set_ne (dY hj)]at J;obtain⟨u',r',q⟩:=hl j y Z D J e3;refine⟨u',r',?_⟩;rcases q with⟨k,e⟩|⟨k,c,e,z⟩
    .refine .inl ⟨k,?_⟩;have:y≠x:=λe=>hj (wqf hN D (e▸hi));simp[this,e]
    .exact .inr ⟨k,c,e,z.sameBut hs (ac y c e)⟩
  .obtain⟨U,z⟩:=I.cell y c e;exact⟨U,z.sameBut hs (ac y c e)⟩
  .obtain⟨e,n,W,nf,d⟩:=I.pin p hp;exact⟨(hs.2 p.1 W).trans e,n,W,nf,d⟩
 .have ab:X.fn x=true:=by
   rcases hf with z|z
   .exact z
   .rw[z]at hk;cases hk
  obtain⟨c,F⟩:=I.ok.has x (.inl hk);obtain⟨U,z⟩:=I.cell x c F;refine wpAny_storeName_cell I.ok.kind hk F z (λh' as hs=>?_);obtain⟨oc,am,a0⟩:=id z;refine h { s with heap:=h' } ⟨I.ok,I.os,I.bare,⟨λb o e n L hx=>?_,λb o e n L hx=>?_,I.base.free,λb o e hx=>?_,I.base.tups,I.base.frzs,I.base.tbls⟩,⟨m,hn.sameBut hs (dY (ac x c F)),λj y Z D J e3=>?_⟩,λy c' e=>?_,I.free,I.freeC,λp hp=>?_,ad ⟨oc,am,I.freeC x c F⟩ hs,by simpa using I.len⟩ ⟨c,hs,.inr F⟩
  .exact(hs.2 b (aB (aL (al e) (I.ok.cab x c ab F)))).trans (I.base.keep b o e n L hx)
  .obtain⟨sl,D⟩:=I.base.slot b o e n L hx;exact⟨sl,(hs.2 b (aB (aL (al e) (I.ok.cab x c ab F)))).trans D⟩
  .obtain⟨o',D⟩:=I.base.there b o e hx;exact⟨o',(hs.2 b (aB (aL (al e) (I.ok.cab x c ab F)))).trans D⟩
  .by_cases hj:j=i
   .subst hj;rw[hi]at D;cases D;rw[List.getElem?_set_self an]at J;cases J;exact⟨u,r,.inr ⟨.inl hk,c,F,as⟩⟩
   .rw[List.getElem?_set_ne (dY hj)]at J;obtain⟨u',r',q⟩:=hl j y Z D J e3;refine⟨u',r',?_⟩;rcases q with q|⟨k,c',e,z'⟩
    .exact .inl q
    .refine .inr ⟨k,c',e,z'.sameBut hs ?_⟩;rintro rfl;exact hj (wqf hN D (I.ok.inj _ _ _ e F▸hi))
  .by_cases hcc:c'=c
   .subst hcc;exact⟨_,as⟩
   .obtain⟨w2,z2⟩:=I.cell y c' e;exact⟨w2,z2.sameBut hs hcc⟩
  .obtain⟨e,n,W,nf,d⟩:=I.pin p hp;refine⟨(hs.2 p.1 ?_).trans e,n,W,nf,d⟩;intro q;rw[q,am]at e;have q':oc=p.2:=au e;exact d U (by rw[<-q'];exact a0)
theorem yj {M:Model}{A:Ae}{E:Ag->Ab->Prop}{i:Nat}{x:Str}{v:V}{u:Ag}{Q:Unit->Ab->Prop}(I:Inv X pins σ H s)(hN:X.N.Nodup)(hi:X.N[i]?=some x)(hx:Loc X.env.scope x)(r:RelV v u)
  (h:∀s',Inv X pins (σ.set i (some v)) H s'->Q () s') (hf:autoParam (X.fn x=true\/X.env.scope.names.lookup x=some .local) aU0._auto_1):wpAny M A (storeName X.env x u) Q E s :=
 wjg I hN hi hx r (λs' I' _=>h s' I') hf
theorem Inv.call' {s':Ab}{ch:List Aj}(I:Inv X pins σ H s)(ho:s'.os=s.os)(u:Un (frs X.stack) ch H H' s.heap s'.heap)(hok:HOk X.prog X.w H' s'.heap)(hg:AllBare s'.gens)
  (hch:∀b∈ch,(b∈X.ex\/X.s₀.heap.objs.size<=b)/\b≠X.env.locals/\(∀x c,X.env.cells.lookup x=some c->c≠b)/\∀p∈X.pn++pins,p.1≠b):Inv X pins σ H' s':=by
 obtain⟨h',g',d',t',o'⟩:=s';have e:o'=s.os:=ho;subst e;exact I.call (g':=g') (t':=t') (d':=d') u hok hg hch
end
abbrev XK:=Ag->Option Aj->Hp->Prop
abbrev St:=List (Option V)
abbrev VK:=V->Hp->Prop
abbrev TE:=St->Hp->VK->Prop
abbrev TT:=St->Hp->(Bool->Hp->Prop)->Prop
abbrev TA:=St->Hp->(List V->Hp->Prop)->Prop
structure Ends where
 nx:St->Hp->Prop
 rt:VK
 bk:St->Hp->Prop:=λ_ _=>False
 ct:St->Hp->Prop:=λ_ _=>False
abbrev TS:=Ends->St->Hp->Prop
def EP (X:Cx)(pins:List (Aj×Obj))(σ:St)(Q:VK)(u:Ag)(s':Ab):Prop:=∃v H',Inv X pins σ H' s'/\RelV v u/\Q v H'
def TP (X:Cx)(pins:List (Aj×Obj))(σ:St)(Q:Bool->Hp->Prop)(b:Bool)(s':Ab):Prop:=∃H',Inv X pins σ H' s'/\Q b H'
def AP (X:Cx)(pins:List (Aj×Obj))(σ:St)(Q:List V->Hp->Prop)(us:List Ag)(s':Ab):Prop:=∃vs H',Inv X pins σ H' s'/\Vals vs us/\Q vs H'
def SP (X:Cx)(pins:List (Aj×Obj))(D:Ends)(f:Flow)(s':Ab):Prop :=
 match f with
 |.next=>∃σ' H',Inv X pins σ' H' s'/\D.nx σ' H'
 |.brk=>∃σ' H',Inv X pins σ' H' s'/\D.bk σ' H'
 |.cont=>∃σ' H',Inv X pins σ' H' s'/\D.ct σ' H'
 |.ret u=>∃v σ' H',Inv X pins σ' H' s'/\RelV v u/\D.rt v H'
def PE (X:Cx)(e:Expr)(t:TE):Prop :=
 ∀(pins:List (Aj×Obj)) (s:Ab) (σ:St) (H:Hp) (Q:VK),Inv X pins σ H s->t σ H Q->wpAny (model X.prog X.w) X.A (eval e X.env) (EP X pins σ Q) X.xe s
def PT (X:Cx)(e:Expr)(t:TT):Prop :=
 ∀(pins:List (Aj×Obj)) (s:Ab) (σ:St) (H:Hp) (Q:Bool->Hp->Prop),Inv X pins σ H s->t σ H Q->wpAny (model X.prog X.w) X.A (isTrue e X.env (eval e X.env)) (TP X pins σ Q) X.xe s
def PW (X:Cx)(e:Expr)(t:TT):Prop :=
 ∀(whole:Sem Ag) (pins:List (Aj×Obj)) (s:Ab) (σ:St) (H:Hp) (Q:Bool->Hp->Prop),Inv X pins σ H s->t σ H Q->wpAny (model X.prog X.w) X.A (isTrue e X.env whole) (TP X pins σ Q) X.xe s
theorem PW.pt {X:Cx}{e:Expr}{t:TT}(h:PW X e t):PT X e t:=h _
def PA (X:Cx)(es:List Expr)(t:TA):Prop :=
 ∀(pos:Pos) (pins:List (Aj×Obj)) (s:Ab) (σ:St) (H:Hp) (Q:List V->Hp->Prop),Inv X pins σ H s->t σ H Q->wpAny (model X.prog X.w) X.A (spliced (backTo pos (starEach es X.env))) (AP X pins σ Q) X.xe s
def PS (X:Cx)(st:Stmt)(t:TS):Prop :=
 ∀(pins:List (Aj×Obj)) (s:Ab) (σ:St) (H:Hp) (D:Ends),Inv X pins σ H s->t D σ H->wpAny (model X.prog X.w) X.A (exec st X.env) (SP X pins D) X.xe s
def PSs (X:Cx)(st:List Stmt)(t:TS):Prop :=
 ∀(pins:List (Aj×Obj)) (s:Ab) (σ:St) (H:Hp) (D:Ends),Inv X pins σ H s->t D σ H->wpAny (model X.prog X.w) X.A (execs st X.env) (SP X pins D) X.xe s
theorem thn {α:Type}{t:Sem α}{Q Q':α->Ab->Prop}{M:Model}{A:Ae}{E:Ag->Ab->Prop}{s:Ab}(h:wpAny M A t Q E s)(hQ:∀a s,Q a s->Q' a s):wpAny M A t Q' E s:=aZ h hQ λ_ _ x=>x
section
variable {X:Cx}
def jh (i:Nat):TE:=λσ H Q=>∃v,σ[i]?=some (some v)/\Q v H
def tC (v:V):TE:=λ_ H Q=>Q v H
theorem _root_.aU1 (h:True:=by decide):True:=h
theorem pe_var {i:Nat}{x:Str}{pos:Pos}(hN:X.N[i]?=some x)(hv:Vis X.env.scope x)(hd:autoParam ((x==("__debug__" : Str))=false) aU1._auto_1)(hcd:autoParam ((x==("__classdict__" : Str))=false) aU1._auto_1):PE X (.Name x pos) (jh i):=by
 intro pins s σ H Q I h;obtain⟨v,e,h⟩:=h;obtain⟨m,U,Z⟩:=I.loc;obtain⟨u,r,l⟩:=Z i x v hN e hv;have F:EP X pins σ Q u s:=⟨v,H,I,r,h⟩;rcases l with⟨D,W⟩|⟨D,c,L,J⟩
 .exact wpAny_Name (wpAny_loadName_local I.ok.kind D U W F) hd
 .rcases D with D|D
  .exact wpAny_Name (wpAny_loadName_cell I.ok.kind D L J F) hd
  .exact wpAny_Name (wpAny_loadName_free I.ok.kind D L J F hcd) hd
theorem qy {i j pos}:PE X (.Constant (.int i) j pos) (tC (.int i)):=λ_ _ _ H _ I h=>wpAny_Constant_int ⟨.int i,H,I.tok _,⟨_,rfl⟩,h⟩
theorem qug {b j pos}:PE X (.Constant (.bool b) j pos) (tC (.bl b)):=λ_ _ _ H _ I h=>Constant_bool ⟨.bl b,H,I,rfl,h⟩
theorem qxd {j pos}:PE X (.Constant .none j pos) (tC .non):=λ_ _ _ H _ I h=>Constant_none ⟨.non,H,I,rfl,h⟩
theorem W9 {x j pos}:PE X (.Constant (.str x) j pos) (tC (.str x)):=λ_ _ _ H _ I h=>Calls.Constant_str ⟨.str x,H,I.tok _,⟨_,rfl⟩,h⟩
def Gl (X:Cx)(x:Str):Prop:=X.env.kindOf x=some .globalImplicit
theorem qwq {E:Ag->Ab->Prop}{pins:List (Aj×Obj)}{s:Ab}{σ:St}{H:Hp}{x:Str}{u:Ag}{pos:Pos}{Q:Ag->Ab->Prop}(I:Inv X pins σ H s)(hg:Gl X x)(hm:X.mg x=some u)(h:Q u s)
  (hd:autoParam ((x==("__debug__" : Str))=false) aU1._auto_1):wpAny (model X.prog X.w) X.A (eval (.Name x pos) X.env) Q E s :=
 Calls.Name_function_global I.ok.kind hg (Calls.loadGlobal_global (by rw[I.ok.glob];exact I.mod.glob.keeps I.bk) hm h) hd
theorem _root_.aU2 (h:True:= by decide):True:=h
theorem j3 {E:Ag->Ab->Prop}{pins:List (Aj×Obj)}{s:Ab}{σ:St}{H:Hp}{x:Str}{u:Ag}{pos:Pos}{Q:Ag->Ab->Prop}(I:Inv X pins σ H s)(hg:Gl X x)(hm:X.mg x=none)(hv:bootBuiltins x=some u)(h:Q u s)
  (hn:autoParam (x ≠ "__name__") aU2._auto_1) (hd:autoParam ((x==("__debug__" : Str))=false) aU1._auto_1):wpAny (model X.prog X.w) X.A (eval (.Name x pos) X.env) Q E s:=by
 obtain⟨mb,h1,h2⟩:=I.mod.blt;exact Calls.Name_function_global I.ok.kind hg (Calls.loadGlobal_builtin (by rw[I.ok.glob];exact I.mod.glob.keeps I.bk) hm (by rw[I.ok.blt];exact h1.keeps I.bk) ((h2 x hn).trans hv) h) hd
theorem Wg {x:Str}{v:V}{u:Ag}{pos:Pos}(hg:Gl X x)(hm:X.mg x=some u)(r:RelV v u)(hd:autoParam ((x==("__debug__" : Str))=false) aU1._auto_1):PE X (.Name x pos) (tC v) :=
 λ_ _ _ H _ I h=>qwq I hg hm ⟨v,H,I,r,h⟩ hd
theorem qyz {x:Str}{v:V}{u:Ag}{pos:Pos}(hg:Gl X x)(hm:X.mg x=none)(hv:bootBuiltins x=some u)(r:RelV v u)(hn:autoParam (x ≠ "__name__") aU2._auto_1)(hd:autoParam ((x==("__debug__" : Str))=false) aU1._auto_1):PE X (.Name x pos) (tC v) :=
 λ_ _ _ H _ I h=>j3 I hg hm hv ⟨v,H,I,r,h⟩ hn hd
variable {a b:Expr}{ta tb:TE}{pos:Pos}
def PC (X:Cx)(op:CmpOp)(a b:Expr)(t:TE):Prop :=
 ∀(pins:List (Aj×Obj)) (s:Ab) (σ:St) (H:Hp) (Q:VK),Inv X pins σ H s->t σ H Q ->
  wpAny (model X.prog X.w) X.A (eval a X.env) (λv s₁=>wpAny (model X.prog X.w) X.A (eval b X.env) (λu s₂=>wpAny (model X.prog X.w) X.A (compareOp op v u) (EP X pins σ Q) X.xe s₂) X.xe s₁) X.xe s
def tB (t:TE):TT:=λσ H Q=>t σ H λx H1=>∃c,x=.bl c/\Q c H1
theorem pt_cmp {op:CmpOp}{t:TE}(h:PC X op a b t)(h1:behindInMarks op b=false:=by first | exact nobehind _ ⋯ ⋯ | rfl):PT X (.Compare a [op] [b] pos) (tB t):=by intro pins s σ H Q I D;refine wpAny_isTrue_Compare1 (thn (h pins s σ H _ I D) λv F h1=>thn h1 λu s2 h2=>thn h2 λc s3 ⟨x,H1,I1,r1,q1⟩=>?_) h1;obtain⟨d,rfl,q⟩:=q1;cases r1;exact cW ⟨H1,I1,q⟩
theorem _root_.aU3 (h:True:=by intro _;rfl):True:=h
theorem wwu {e:Expr}{t:TE}(h:PE X e t)(he:autoParam (∀whole,isTrue e X.env whole=(do let v <-whole;standAt e.pos;holding [v] (truthy v))) aU3._auto_1):PT X e (tB t):=by intro pins s σ H Q I D;refine isTrue_plain (thn (h pins s σ H _ I D) λv s1 ⟨x,H1,I1,r1,q1⟩=>?_) (he _);obtain⟨d,rfl,q⟩:=q1;cases r1;exact cW ⟨H1,I1,q⟩
variable {tA tB':TT}{rest:List Expr}
def tAnd (t u:TT):TT:=λσ H Q=>t σ H λc H1=>if c=true then u σ H1 Q else Q false H1
def tOr (t u:TT):TT:=λσ H Q=>t σ H λc H1=>if c=true then Q true H1 else u σ H1 Q
def tNot (t:TT):TT:=λσ H Q=>t σ H λc H1=>Q (!c) H1
theorem qj7 (ha:PT X a tA):PW X (.BoolOp .And [a] pos) tA:=by
 intro D pins s σ H Q I h;refine isTrue_and (thn (ha pins s σ H Q I h) λc F e=>?_);cases c with
 |true=>exact isTrue_and_nil e
 |false=>exact e
theorem Zv (ha:PT X a tA):PW X (.BoolOp .Or [a] pos) tA:=by
 intro D pins s σ H Q I h;refine isTrue_or (thn (ha pins s σ H Q I h) λc F e=>?_);cases c with
 |false=>exact isTrue_or_nil e
 |true=>exact e
theorem wwn (ha:PT X a tA)(hb:PW X (.BoolOp .And (b::rest) pos) tB'):PW X (.BoolOp .And (a::b::rest) pos) (tAnd tA tB'):=by
 intro D pins s σ H Q I h;refine isTrue_and (thn (ha pins s σ H _ I h) λc s1 ⟨H1,I1,q1⟩=>?_);cases c with
 |true=>exact hb D pins s1 σ H1 Q I1 q1
 |false=>exact⟨H1,I1,q1⟩
theorem qx4 (ha:PT X a tA)(hb:PW X (.BoolOp .Or (b::rest) pos) tB'):PW X (.BoolOp .Or (a::b::rest) pos) (tOr tA tB'):=by
 intro D pins s σ H Q I h;refine isTrue_or (thn (ha pins s σ H _ I h) λc s1 ⟨H1,I1,q1⟩=>?_);cases c with
 |true=>exact⟨H1,I1,q1⟩
 |false=>exact hb D pins s1 σ H1 Q I1 q1
theorem wxd (ha:PT X a tA):PT X (.UnaryOp .Not a pos) (tNot tA):=by intro pins s σ H Q I h;exact isTrue_not (ha pins s σ H (λc H1=>Q (!c) H1) I h)
def tAndV (ta tb:TE):TE:=λσ H Q=>ta σ H λx H1=>∃c,x=.bl c/\if c=true then tb σ H1 Q else Q (.bl false) H1
def tNotV (ta:TE):TE:=λσ H Q=>ta σ H λx H1=>∃c,x=.bl c/\Q (.bl (!c)) H1
theorem qj9 {op}{t:TE}(h:PE X a t):PE X (.BoolOp op [a] pos) t:=λpins s σ H Q I hw=>BoolOp_one (h pins s σ H Q I hw)
theorem qj0 (ha:PE X a ta)(hb:PE X (.BoolOp .And (b::rest) pos) tb):PE X (.BoolOp .And (a::b::rest) pos) (tAndV ta tb):=by
 intro pins s σ H Q I h;refine BoolOp_and (thn (ha pins s σ H _ I h) λv s1 ⟨x,H1,I1,r1,D⟩=>?_);obtain⟨c,rfl,D⟩:=D;cases r1;refine cW ?_;cases c with
 |true=>exact hb pins s1 σ H1 Q I1 D
 |false=>exact⟨.bl false,H1,I1,rfl,D⟩
theorem pe_not (ha:PE X a ta):PE X (.UnaryOp .Not a pos) (tNotV ta):=by intro pins s σ H Q I h;refine UnaryOp_ (thn (ha pins s σ H _ I h) λv s1 ⟨x,H1,I1,r1,D⟩=>?_);obtain⟨c,rfl,D⟩:=D;cases r1;exact not_of (cW ⟨.bl (!c),H1,I1,rfl,D⟩)
def tIf (t:TT)(ta tb:TE):TE:=λσ H Q=>t σ H λc H1=>if c=true then ta σ H1 Q else tb σ H1 Q
theorem qw5 {c:Expr}(hc:PT X c tA)(ha:PE X a ta)(hb:PE X b tb):PE X (.IfExp c a b pos) (tIf tA ta tb):=by
 intro pins s σ H Q I h;refine wpAny_IfExp (thn (hc pins s σ H _ I h) λd s1 ⟨H1,I1,q1⟩=>?_);cases d with
 |true=>exact ha pins s1 σ H1 Q I1 q1
 |false=>exact hb pins s1 σ H1 Q I1 q1
end
def SqL (K:Aa)(H:Hp)(a:Aj)(xs:List V):Prop :=
 Rd H a (.lst xs) \/
  ∃(o:Obj) (its:Array Ag) (n:Nat),K.lookup a=some o/\o.cls=.type "list" /\ o.dict=none/\o.data=.seq its n/\its.size<=sizeLine/\Vals xs its.toList
def SqT (K:Aa)(H:Hp)(a:Aj)(xs:List V):Prop :=
 Rd H a (.tup xs) \/
  ∃(o:Obj) (its:Array Ag) (n:Nat),K.lookup a=some o/\o.cls=.type "tuple" /\ o.data=.seq its n/\its.size<=sizeLine/\Vals xs its.toList
def absV:Ag->Option V
 |.none=>some .non
 |.bool b=>some (.bl b)
 |.int i _=>some (.int i)
 |.str x _=>some (.str x)
 |.bytes b _=>some (.byt b)
 |.float b _=>some (.flt b)
 |.ref a=>some (.ref a)
 |.type n=>some (.ty n)
 |_=>none
theorem RelV.abs {x:V}{u:Ag}(r:RelV x u):absV u=some x:=by
 cases x with
 |non=>cases r;rfl
 |bl _=>cases r;rfl
 |int _=>obtain⟨t,rfl⟩:=r;rfl
 |str _=>obtain⟨t,rfl⟩:=r;rfl
 |byt _=>obtain⟨t,rfl⟩:=r;rfl
 |flt _=>obtain⟨t,rfl⟩:=r;rfl
 |ref _=>cases r;rfl
 |ty _=>cases r;rfl
theorem RelV.inj {x y:V}{u:Ag}(r:RelV x u)(q:RelV y u):x=y:=au (r.abs.symm.trans q.abs)
theorem Vals.inj:∀ {xs ys:List V} {us:List Ag},Vals xs us->Vals ys us->xs=ys
 |_,_,_,.nil,.nil=>rfl
 |_,_,_,.cons r t,.cons r' t'=>by rw[r.inj r',Vals.inj t t']
section
variable {X:Cx}{pins:List (Aj×Obj)}{σ:St}{H:Hp}{s:Ab}{a:Aj}{xs ys:List V}
theorem SqL.of {K:Aa}(h:H a=some (.lst xs)):SqL K H a xs:=.inl (.inl h)
theorem SqT.of {K:Aa}(h:H a=some (.tup xs)):SqT K H a xs:=.inl (.inl h)
theorem Inv.list (I:Inv X pins σ H s)(h:SqL X.K H a xs):∃its:List Ag,Vals xs its/\PlainL s.heap a its.toArray/\xs.length<=sizeLine:=by
 rcases h with h|⟨o,its,n,hk,hc,hd,hs,hz,r⟩
 .obtain⟨z,its,n,r,e⟩:=h.ok I.hok;exact⟨its,r,⟨_,n,e,rfl,rfl,rfl⟩,z⟩
 .refine⟨its.toList,r,⟨o,n,I.kIn a o hk,hc,hd,by simpa using hs⟩,?_⟩;have e:=r.length;simp only[aU]at e;lia
theorem Inv.tuple (I:Inv X pins σ H s)(h:SqT X.K H a xs):∃its:List Ag,Vals xs its/\IsTup s.heap a its.toArray/\xs.length<=sizeLine:=by
 rcases h with h|⟨o,its,n,hk,hc,hs,hz,r⟩
 .obtain⟨z,its,r,p⟩:=h.ok I.hok;exact⟨its,r,p,z⟩
 .refine⟨its.toList,r,⟨o,I.kIn a o hk,hc,n,by simpa using hs⟩,?_⟩;have e:=r.length;simp only[aU]at e;lia
theorem Inv.list_inj (I:Inv X pins σ H s)(h:SqL X.K H a xs)(h':SqL X.K H a ys):xs=ys:=by
 obtain⟨U,r,⟨o,n,e,_,_,d⟩,_⟩:=I.list h;obtain⟨L,J,⟨o',W,D,_,_,F⟩,_⟩:=I.list h';rw[e]at D;cases D;rw[d]at F;injection F with d1 _;have:U=L:=by simpa using cK Array.toList d1
 subst this;exact r.inj J
theorem Inv.tuple_inj (I:Inv X pins σ H s)(h:SqT X.K H a xs)(h':SqT X.K H a ys):xs=ys:=by
 obtain⟨U,r,⟨o,e,_,n,d⟩,_⟩:=I.tuple h;obtain⟨L,J,⟨o',D,_,W,F⟩,_⟩:=I.tuple h';rw[e]at D;cases D;rw[d]at F;injection F with d1 _;have:U=L:=by simpa using cK Array.toList d1
 subst this;exact r.inj J
end
abbrev Cx.wish (X:Cx)(E:Ag->Ab->Prop):Cx:={ X with xe:=E }
section
variable {X:Cx}{pins:List (Aj×Obj)}{σ:St}{H:Hp}{s:Ab}{E:Ag->Ab->Prop}
end
section
variable {X:Cx}{st:Stmt}{rest:List Stmt}{t u:TS}{e:Expr}{te:TE}{pos:Pos}
def tNext:TS:=λD σ H=>D.nx σ H
def tSeq (t u:TS):TS:=λD σ H=>t { D with nx:=u D } σ H
theorem x8:PSs X [] tNext:=λ_ _ σ H _ I h=>gR ⟨σ,H,I,h⟩
theorem qj (h1:PS X st t)(h2:PSs X rest u):PSs X (st::rest) (tSeq t u):=by
 intro pins s σ H D I h;refine iY (thn (h1 pins s σ H { D with nx:=u D } I h) λf J q=>?_);cases f with
 |next =>
  obtain⟨F,H',L,q⟩:=q;exact h2 pins J F H' D L q
 |ret v=>exact q
 |brk=>exact q
 |cont=>exact q
theorem qr (h1:PS X st t):PSs X [st] t:=by
 intro pins s σ H D I h;refine iY (thn (h1 pins s σ H D I h) λf s1 q=>?_);cases f with
 |next=>exact gR q
 |ret v=>exact q
 |brk=>exact q
 |cont=>exact q
theorem Inv.quiet {pins:List (Aj×Obj)}{σ:St}{H:Hp}{s:Ab}(I:Inv X pins σ H s):interactive X.env=false:=by simp[interactive,I.ok.kind]
def tDrop (te:TE):TS:=λD σ H=>te σ H λ_ H1=>D.nx σ H1
theorem _root_.aU4 (h:True:=by rfl):True:=h
theorem km (he:PE X e te)(hs:autoParam (swapsWith e none pos.line X.env=pure false) aU4._auto_1):PS X (.Expr e pos) (tDrop te):=by intro pins s σ H D I h;exact wpAny_Expr_any (thn (he pins s σ H _ I h) λv s1 ⟨x,H1,I1,r1,q1⟩=>⟨σ,H1,I1,q1⟩) I.quiet hs
def tRet (te:TE):TS:=λD σ H=>te σ H D.rt
theorem xw (he:PE X e te):PS X (.Return (some e) pos) (tRet te):=by intro pins s σ H D I h;exact wpAny_Return_some (thn (he pins s σ H _ I h) λv s1 ⟨x,H1,I1,r1,q1⟩=>⟨x,σ,H1,I1,r1,q1⟩)
def tIfS (c:TT)(t u:TS):TS:=λD σ H=>c σ H λb H1=>if b=true then t D σ H1 else u D σ H1
theorem vy {c:Expr}{a b:List Stmt}{tc:TT}(hc:PT X c tc)(ha:PSs X a t)(hb:PSs X b u):PS X (.If c a b pos) (tIfS tc t u):=by
 intro pins s σ H D I h;refine wpAny_If (thn (hc pins s σ H _ I h) λd s1 ⟨H1,I1,q1⟩=>?_);cases d with
 |true=>exact ha pins s1 σ H1 D I1 q1
 |false=>exact hb pins s1 σ H1 D I1 q1
end
abbrev TG:=V->St->Hp->(St->Hp->Prop)->Prop
abbrev TGs:=List V->St->Hp->(St->Hp->Prop)->Prop
def PG (X:Cx)(target:Expr)(t:TG):Prop :=
 ∀(pins:List (Aj×Obj)) (s:Ab) (σ:St) (H:Hp) (v:V) (u:Ag) (Q:St->Hp->Prop),Inv X pins σ H s->RelV v u->t v σ H Q ->
  wpAny (model X.prog X.w) X.A (assign target X.env u) (λ_ s'=>∃σ' H',Inv X pins σ' H' s'/\Q σ' H') X.xe s
def PGs (X:Cx)(ts:List Expr)(t:TGs):Prop :=
 ∀(pins:List (Aj×Obj)) (s:Ab) (σ:St) (H:Hp) (vs:List V) (us:List Ag) (Q:St->Hp->Prop),Inv X pins σ H s->Vals vs us->t vs σ H Q ->
  wpAny (model X.prog X.w) X.A (assignInOrder ((assignEach ts X.env).map (·.2)) us) (λ_ s'=>∃σ' H',Inv X pins σ' H' s'/\Q σ' H') X.xe s
abbrev TSet:=V->V->V->Hp->(Hp->Prop)->Prop
def PSet (X:Cx)(t:TSet):Prop :=
 ∀(pins:List (Aj×Obj)) (s:Ab) (σ:St) (H:Hp) (o i v:V) (ov iv u:Ag) (Q:Hp->Prop),Inv X pins σ H s->RelV o ov->RelV i iv->RelV v u->t o i v H Q ->
  wpAny (model X.prog X.w) X.A (setItem ov iv u) (λ_ s'=>∃H',Inv X pins σ H' s'/\Q H') X.xe s
abbrev TIp:=V->V->Hp->VK->Prop
def PIp (X:Cx)(op:Operator)(t:TIp):Prop :=
 ∀(pins:List (Aj×Obj)) (s:Ab) (σ:St) (H:Hp) (x y:V) (v u:Ag) (Q:VK),Inv X pins σ H s->RelV x v->RelV y u->t x y H Q ->
  wpAny (model X.prog X.w) X.A (inplaceOp op v u) (EP X pins σ Q) X.xe s
section
variable {X:Cx}{pos:Pos}
def Zn (i:Nat):TG:=λv σ H Q=>Q (σ.set i (some v)) H
theorem _root_.aU5 (h:True:=by walk_at "loc"):True:=h
theorem _root_.aU6 (h:True:=by exact FnScope.nd (by assumption)):True:=h
theorem xv {i:Nat}{x:Str}(hN:autoParam (X.N.Nodup) aU6._auto_1)(hi:autoParam (X.N[i]?=some x) aU4._auto_1)(hx:autoParam (Loc X.env.scope x) aU5._auto_1)(hf:autoParam (X.fn x=true\/X.env.scope.names.lookup x=some .local) aU0._auto_1):PG X (.Name x pos) (Zn i):=by intro pins s σ H v u Q I r h;exact iM (yj I hN hi hx r (λs' D=>⟨_,H,D,h⟩) hf)
def gNil:TGs:=λvs σ H Q=>vs=[]/\Q σ H
def xw0 (t:TG)(u:TGs):TGs:=λvs σ H Q=>∃v r,vs=v::r/\t v σ H λσ' H'=>u r σ' H' Q
theorem kg:PGs X [] gNil:=by intro pins s σ H vs us Q I r h;obtain⟨e,h⟩:=h;subst e;cases r;exact assignInOrder_nil ⟨σ,H,I,h⟩
theorem xh {e:Expr}{es:List Expr}{t:TG}{u:TGs}(h1:PG X e t)(h2:PGs X es u)
  (hs:autoParam ((assignEach (e::es) X.env).map (·.2)=assign e X.env::(assignEach es X.env).map (·.2)) aU4._auto_1):PGs X (e::es) (xw0 t u):=by
 intro pins s σ H vs J Q I r h;obtain⟨v,F,D,h⟩:=h;subst D;cases r with
 |cons r rr =>
  rw[hs];refine ic (thn (h1 pins s σ H _ _ _ I r h) λ_ s1 ⟨σ1,H1,I1,q1⟩=>?_);exact h2 pins s1 σ1 H1 _ _ Q I1 rr q1
def gTup (K:Aa)(n:Nat)(t:TGs):TG:=λv σ H Q=>∃a xs,v=.ref a/\SqT K H a xs/\xs.length=n/\t xs σ H Q
theorem yu {es:List Expr}{k:Nat}{t:TGs}{n:Nat}(hc:X.calm=true)(h:PGs X es t)
  (hn:autoParam ((assignEach es X.env).length=n) aU4._auto_1) (hst:autoParam ((assignEach es X.env).findIdx? (·.1)=none) aU4._auto_1):PG X (.Tuple es k pos) (gTup X.K n t):=by
 intro pins s σ H v u Q I r D;obtain⟨a,xs,Z,U,W,D⟩:=D;subst Z;cases r;obtain⟨ab,F,L,hz⟩:=I.tuple U;refine assign_Tuple_tuple (I.ok.hd hc) L (by simp[hn,<-W,F.length]) hst λh' J=>?_;have I1:Inv X pins σ H { s with heap:=h' }:=I.kept (t':=s.toks) λb o e=>J b o (aB (al e)) e;exact h pins _ σ H xs _ Q I1 (by simpa using F) D
def gSub (to ti:TE)(t:TSet):TG:=λv σ H Q=>to σ H λo H1=>ti σ H1 λi H2=>t o i v H2 λH3=>Q σ H3
theorem wuy {o i:Expr}{to ti:TE}{t:TSet}(ho:PE X o to)(hi:PE X i ti)(hs:PSet X t)
  (ha:autoParam (∀v,assign (.Subscript o i pos) X.env v=(do
   let ov <-holding [v] (eval o X.env)
   let iv <-holding [v,ov] (eval i X.env)
   standAt pos
   holding [v,ov,iv] (setItem ov iv v)
   release [v,ov,iv] [])) aU3._auto_1):PG X (.Subscript o i pos) (gSub to ti t):=by
 intro pins s σ H v u Q I r h;rw[ha];refine aa (bN (thn (ho pins s σ H _ I h) λov s1 ⟨x,H1,I1,r1,q1⟩=>?_));refine aa (bN (thn (hi pins s1 σ H1 _ I1 q1) λiv s2 ⟨y,H2,I2,r2,q2⟩=>?_));refine aa (cV (aa (bN (thn (hs pins s2 σ H2 x y v ov iv u _ I2 r1 r2 r q2) λ_ s3 ⟨H3,I3,q3⟩=>?_))));exact wpAny_release ⟨σ,H3,I3,q3⟩
def tAsg (te:TE)(g:TG):TS:=λD σ H=>te σ H λx H1=>g x σ H1 D.nx
theorem jj {tg e:Expr}{te:TE}{g:TG}(he:PE X e te)(hg:PG X tg g)(hs:autoParam (swapsWithSole [tg] e pos.line X.env=pure false) aU4._auto_1)(hw:autoParam (swappedStores [tg] e X.env=pure none) aU4._auto_1)
  (h1:autoParam ((assignEach [tg] X.env).map (·.2)=[assign tg X.env]) aU4._auto_1):PS X (.Assign [tg] e pos) (tAsg te g):=by
 intro pins s σ H D I h;refine wpAny_Assign_stores (thn (he pins s σ H _ I h) λv s1 ⟨x,H1,I1,r1,q1⟩=>?_) hs hw;rw[h1];exact thn (hg pins s1 σ H1 x v _ I1 r1 q1) λ_ s2 q=>q
theorem xq {i:Nat}{x:Str}{e:Expr}{te:TE}{pos':Pos}(he:PE X e te)(hN:autoParam (X.N.Nodup) aU6._auto_1)(hi:autoParam (X.N[i]?=some x) aU4._auto_1)(hx:autoParam (Loc X.env.scope x) aU5._auto_1)(hs:autoParam (swapsWith e (some (.Name x pos')) pos.line X.env=pure false) aU4._auto_1)(hf:autoParam (X.fn x=true\/X.env.scope.names.lookup x=some .local) aU0._auto_1) :
  PS X (.Assign [.Name x pos'] e pos) (tAsg te (Zn i)):=by
 intro pins s σ H D I h;refine wpAny_Assign_Name (thn (he pins s σ H _ I h) λv s1 ⟨y,H1,I1,r1,q1⟩=>?_) hs;exact yj I1 hN hi hx r1 (λs2 F=>⟨_,H1,F,q1⟩) hf
def tPar (i j:Nat)(ta:TA):TS:=λD σ H=>ta σ H λvs H1=>∃v w,vs=[v,w]/\D.nx ((σ.set i (some v)).set j (some w)) H1
theorem ps_par {i j:Nat}{x y:Str}{a b:Expr}{ta:TA}{px py pt:Pos}{kt k2 pt2}(hc:X.calm=true)(hN:X.N.Nodup)(hi:X.N[i]?=some x)(hj:X.N[j]?=some y)(hij:i≠j)
  (hx:X.env.scope.names.lookup x=some .local) (hy:X.env.scope.names.lookup y=some .local) (ha:PA X [a,b] ta)
  (hw:swappedStores [.Tuple [.Name x px,.Name y py] kt pt] (.Tuple [a,b] k2 pt2) X.env=pure (some [x,y]))
  (hs:autoParam (swapsWithSole [.Tuple [.Name x px,.Name y py] kt pt] (.Tuple [a,b] k2 pt2) pos.line X.env=pure false) aU4._auto_1) :
  PS X (.Assign [.Tuple [.Name x px,.Name y py] kt pt] (.Tuple [a,b] k2 pt2) pos) (tPar i j ta):=by
 intro pins s σ H D I h;rw[exec_Assign_arm];refine aa (cV ?_);rw[hs];refine aa (ai ?_);rw[ao ⋯];refine aa (Tuple_ (thn (ha _ pins s σ H _ I h) λus s1 ⟨vs,H1,I1,r1,F⟩=>?_));obtain⟨v,w,Z,F⟩:=F;subst Z;obtain⟨u1,u2,rfl,U,L⟩:∃u1 u2,us=[u1,u2]/\RelV v u1/\RelV w u2:=by
  cases r1 with
  |cons p q =>
   cases q with
   |cons p' q' =>
    cases q';exact⟨_,_,rfl,p,p'⟩
 refine b8 ?_ (by show 2<=sizeLine;decide);have I2:Inv X pins σ H1 { s1 with heap:=s1.heap.push { cls:=.type "tuple",data:=.seq [u1,u2].toArray } }:=I1.kept (t':=s1.toks) λb o e=>ah _ e;rw[hw];refine aa (ai ?_);show wpAny (model X.prog X.w) X.A (do rule "assign.swapped-stores";let items <-unpackItems (.ref s1.heap.objs.size) 2 none;assignInOrder [λv=>bindName X.env y v,λv=>bindName X.env x v] items.reverse;pure Flow.next) _ _ _;refine aa (dI (aa (unpackItems_tuple (items:=#[u1,u2]) (I.ok.hd hc) (IsTup.new s1.heap _) λh' W=>?_)));have I3:=I2.kept (h':=h') (t':=s1.toks) λb o e=>W b o (aB (al e)) e;show wpAny _ _ (assignInOrder [λv=>bindName X.env y v,λv=>bindName X.env x v] [u2,u1] >>= λ_=>pure Flow.next) _ _ _;refine aa (ic (wpAny_bindName (yj I3 hN hj (.inl hy) L (λs2 I4=>?_) (.inr hy))));refine ic (wpAny_bindName (yj I4 hN hi (.inl hx) U (λs3 J=>assignInOrder_nil (ai ?_)) (.inr hx)));rw[List.set_comm _ _ (dY hij)]at J;exact⟨_,H1,J,F⟩
def tAug (i:Nat)(te:TE)(ti:TIp):TS:=λD σ H=>∃x,σ[i]?=some (some x)/\te σ H λy H1=>ti x y H1 λz H2=>D.nx (σ.set i (some z)) H2
theorem wuz {i:Nat}{x:Str}{e:Expr}{te:TE}{op:Operator}{ti:TIp}{pos':Pos}(hN:X.N.Nodup)(hi:X.N[i]?=some x)(hx:Loc X.env.scope x)(he:PE X e te)(ho:PIp X op ti)(hf:autoParam (X.fn x=true\/X.env.scope.names.lookup x=some .local) aU0._auto_1) :
  PS X (.AugAssign (.Name x pos') op e pos) (tAug i te ti):=by
 intro pins s σ H D I h;obtain⟨v,e1,h⟩:=h;obtain⟨m,Z,hl⟩:=I.loc;have L:Vis X.env.scope x:=by rcases hx with k|k;exact .inl k;exact .inr (.inl k)
 obtain⟨u,r,l⟩:=hl i x v hi e1 L;refine wpAny_AugAssign_Name ?_;have J:wpAny (model X.prog X.w) X.A (eval e X.env) (λw W=>wpAny (model X.prog X.w) X.A (inplaceOp op u w) (λr U=>wpAny (model X.prog X.w) X.A (storeName X.env x r) (λ_=>SP X pins D .next) X.xe U) X.xe W) X.xe s:=by refine thn (he pins s σ H _ I h) λw s1 ⟨y,H1,I1,r1,q1⟩=>?_;refine thn (ho pins s1 σ H1 v y u w _ I1 r r1 q1) λz s2 ⟨zv,H2,I2,r2,q2⟩=>?_;exact yj I2 hN hi hx r2 (λs3 I3=>⟨_,H2,I3,q2⟩) hf
 rcases l with⟨F,hm⟩|⟨F,c,hc,ab⟩
 .exact wpAny_loadName_local I.ok.kind F Z hm J
 .rcases F with F|F
  .exact wpAny_loadName_cell I.ok.kind F hc ab J
  .rcases hx with k|k
   .have:X.env.scope.names.lookup x=some .free:=F;rw[k]at this;cases this
   .have:X.env.scope.names.lookup x=some .free:=F;rw[k]at this;cases this
def ipI (f:Int->Int->Int):TIp:=λx y H Q=>∃i j,x=.int i/\y=.int j/\Q (.int (f i j)) H
theorem xwv:PIp X .Add (ipI λi j=>i+j):=by intro pins s σ H x y v u Q I F D h;obtain⟨i,j,L,J,q⟩:=h;subst L;subst J;obtain⟨t,rfl⟩:=F;obtain⟨U,rfl⟩:=D;exact iadd_int ⟨.int _,H,I.tok _,⟨_,rfl⟩,q⟩
end
section
variable {X:Cx}{pos:Pos}
def wxy (c:TT)(tb:TS):TS:=λD σ H=>∃W:Nat->St->Hp->Prop,(∃m,W m σ H)/\∀m σ H,W m σ H ->
 c σ H λb H1=>if b=true then ∃N:St->Hp->Prop,(∀σ' H',N σ' H'->∃m',m'<m/\W m' σ' H')/\tb { D with nx:=N,ct:=N,bk:=D.nx } σ H1 else D.nx σ H1
theorem y8 {c:Expr}{body:List Stmt}{tc:TT}{tb:TS}(hp:PassesOwn (model X.prog X.w) X.A X.env X.xe)(hc:PT X c tc)(hb:PSs X body tb):PS X (.While c body [] pos) (wxy tc tb):=by
 intro pins s σ H D I h;obtain⟨W,⟨m0,w0⟩,ab⟩:=h;refine wpAny_While (codeAny_whileLoop (λn s'=>∃σ' H',Inv X pins σ' H' s'/\W n σ' H') ?_ m0 ⟨σ,H,I,w0⟩);rintro n s1 ⟨σ1,H1,I1,w1⟩;refine d8 hp (thn (hc pins s1 σ1 H1 _ I1 (ab n σ1 H1 w1)) λb s2 ⟨H2,I2,U⟩=>?_);cases b with
 |true =>
  obtain⟨N,hN,U⟩:=U;rw[av rfl];refine d8 hp (thn (hb pins s2 σ1 H2 _ I2 U) λf s3 L=>?_);cases f with
  |next =>
   obtain⟨F,J,I3,n3⟩:=L;obtain⟨m',hm,Z⟩:=hN F J n3;exact⟨m',hm,F,J,I3,Z⟩
  |cont =>
   obtain⟨F,J,I3,n3⟩:=L;obtain⟨m',hm,Z⟩:=hN F J n3;exact⟨m',hm,F,J,I3,Z⟩
  |brk=>exact L
  |ret v=>exact L
 |false =>
  rw[ao aF];exact gR ⟨σ1,H2,I2,U⟩
end
structure It where
 go:Nat->Hp->Prop
 yld:Nat->Hp->V->Hp->Prop
 stop:Nat->Hp->Prop
def v6 (X:Cx)(pins:List (Aj×Obj))(H:Hp)(b:Aj):Prop :=
 H b=none/\b≠X.env.locals/\b∉X.fs/\(b∈X.ex\/X.s₀.heap.objs.size<=b)/\(∀x c,X.env.cells.lookup x=some c->c≠b)/\∀p∈X.pn++pins,p.1≠b
theorem Inv.fpOk {X:Cx}{pins:List (Aj×Obj)}{σ:St}{H H':Hp}{s:Ab}{b:Aj}(I:Inv X pins σ H s)(hb:s.heap.objs.size<=b)(hn:H' b=none):v6 X pins H' b:=by
 refine⟨hn,fi (aL I.lt hb),I.nofs hb,.inr (bK I.sz hb),λx c e z=>?_,λp D z=>?_⟩
 .obtain⟨v,q⟩:=I.cell x c e;exact absurd (aL q.lt (by rw[z];exact hb)) (be _)
 .exact absurd (aL (al (I.pin p D).1) (by rw[z];exact hb)) (be _)
structure Turn (P:Ac)(w:Ah)(K:Aa)(tg:Expr)(J:It)(fp:List Aj)(it:Aj)(tn:Nat->Heap->Prop):Prop where
 mem:it∈fp
 obj:∀i h,tn i h->∀b∈fp,∃o,h.get? b=some o/\∀v,o.data≠.cell v
 keep:∀i h h',tn i h->(∀b∈fp,∀o,h.get? b=some o->h'.get? b=some o)->tn i h'
 item:∀(X:Cx),X.prog=P->X.w=w->X.K=K->X.calm=true->∀(i:Nat) (pins:List (Aj×Obj)) (s:Ab) (σ:St) (H:Hp) (E:Ag->Ab->Prop),Inv X pins σ H s->(∀b∈fp,v6 X pins H b)->tn i s.heap->J.go i H ->
  wpAny (model P w) X.A (pyNext (.ref it)) (λr s1=>∃u,r=some u /\
   wpAny (model P w) X.A (letOwnedTupleGo tg (.ref it) u) (λ_ s2=>∃x H',Inv X pins σ H' s2/\RelV x u/\J.yld i H x H'/\tn (i+1) s2.heap/\∀b∈fp,H' b=none) E s1) E s
 done:∀(X:Cx),X.prog=P->X.w=w->X.K=K->X.calm=true->∀(i:Nat) (pins:List (Aj×Obj)) (s:Ab) (σ:St) (H:Hp) (E:Ag->Ab->Prop),Inv X pins σ H s->(∀b∈fp,v6 X pins H b)->tn i s.heap->J.stop i H ->
  wpAny (model P w) X.A (pyNext (.ref it)) (λr s1=>r=none/\Inv X pins σ H s1) E s
 self:∀(A:Ae) (i:Nat) (s:Ab) (Q:Ag->Ab->Prop) (E:Ag->Ab->Prop),tn i s.heap->Q (.ref it) s->wpAny (model P w) A (pyIter (.ref it)) Q E s
abbrev TI:=St->Hp->(It->Hp->Prop)->Prop
def PIE (X:Cx)(pins:List (Aj×Obj))(σ:St)(tg:Expr)(R:It->Hp->Prop)(itv:Ag)(s2:Ab):Prop :=
 ∃(it:Aj) (fp:List Aj) (tn:Nat->Heap->Prop) (J:It) (H':Hp),itv=.ref it/\Inv X pins σ H' s2/\Turn X.prog X.w X.K tg J fp it tn/\tn 0 s2.heap/\(∀b∈fp,v6 X pins H' b)/\R J H'
def PI (X:Cx)(tg iter:Expr)(wi:TI):Prop :=
 ∀(pins:List (Aj×Obj)) (s:Ab) (σ:St) (H:Hp) (R:It->Hp->Prop),Inv X pins σ H s->wi σ H R ->
  wpAny (model X.prog X.w) X.A (eval iter X.env) (λv s1=>wpAny (model X.prog X.w) X.A (pyIter v) (PIE X pins σ tg R) X.xe s1) X.xe s
theorem wzp {M:Model}{A:Ae}{E:Ag->Ab->Prop}{s:Ab}{tg:Expr}{it:Aj}{u:Ag}{o:Obj}{n:String}{vs:Array Ag}{Q:Unit->Ab->Prop}(ho:s.heap.get? it=some o)(hc:o.cls=.type n)(hd:o.data=.fields vs)
  (hn:["enumerate","zip","dict_itemiterator","dict_reverseitemiterator","odict_iterator","itertools.zip_longest","itertools.pairwise"].contains n=false) (hQ:Q () s):wpAny M A (letOwnedTupleGo tg (.ref it) u) Q E s:=by
 unfold letOwnedTupleGo;cases tg <;> first
  |exact ai hQ
  |(cases u <;> first
    |exact ai hQ
    |(refine aa (wpAny_load ho ?_)
      rw[hc,hd]
      show wpAny M A (if(["enumerate","zip","dict_itemiterator","dict_reverseitemiterator","odict_iterator","itertools.zip_longest","itertools.pairwise"].contains n&&vs[0]?==some (rawInt _))=true then _ else _) Q E s
      rw[ao (by intro h;rw[hn,jM]at h;cases h)]
      exact ai hQ))
def Itl (K:Aa)(a:Aj):It :=
 ⟨λi H=>∃xs x,SqL K H a xs/\xs[i]?=some x,λi H x H'=>H'=H/\∀xs,SqL K H a xs->xs[i]?=some x,λi H=>∃xs,SqL K H a xs/\xs.length<=i⟩
def Itt (K:Aa)(a:Aj):It :=
 ⟨λi H=>∃xs x,SqT K H a xs/\xs[i]?=some x,λi H x H'=>H'=H/\∀xs,SqT K H a xs->xs[i]?=some x,λi H=>∃xs,SqT K H a xs/\xs.length<=i⟩
def Itr (lo:Int)(n:Nat):It:=⟨λi _=>i<n,λi H x H'=>H'=H/\x=.int (lo+i),λi _=>n<=i⟩
theorem wkd {P:Ac}{w:Ah}{K:Aa}{tg:Expr}(a it:Aj):Turn P w K tg (Itl K a) [it] it (λi h=>h.IsListIter it a i) where
 mem:=by simp
 obj:=λi h st b hb=>by
  have e:b=it:=by simpa using hb
  subst e;obtain⟨o,e,c,d⟩:=st;exact⟨o,e,λv z=>by rw[d]at z;cases z⟩
 keep:=λi h h' st k=>st.at λo e=>k it (by simp) o e
 item:=by intro X hP hw hK hc i pins s σ H E I hf st hg;subst hP hw hK;obtain⟨xs,x,hq,hx⟩:=hg;obtain⟨its,rv,p,hz⟩:=I.list hq;obtain⟨u,hu,ru⟩:=rv.get hx;obtain⟨f0,f1,f2,f3,f4,f5⟩:=hf it (by simp);refine wpAny_pyNext_list_item st p.isList (x:=u) (by simpa using hu) λh' st' sb=>?_;have I1:Inv X pins σ H { s with heap:=h' }:=I.turned (t':=s.toks) (λb o hb e=>(sb.2 b hb).trans e) f0 f1 f3 f4 f5;obtain⟨o,e,c,d⟩:=id st';exact⟨u,rfl,wzp (s:={ s with heap:=h' }) e c d ⋯ ⟨x,H,I1,ru,⟨rfl,λys hy=>by rw[I.list_inj hy hq];exact hx⟩,st',λb hb=>(hf b hb).1⟩⟩
 done:=by intro X hP hw hK hc i pins s σ H E I hf st hg;subst hP hw hK;obtain⟨xs,hq,hx⟩:=hg;obtain⟨its,rv,p,hz⟩:=I.list hq;obtain⟨f0,f1,f2,f3,f4,f5⟩:=hf it (by simp);have hl:=rv.length;exact wpAny_pyNext_list_end (I.ok.hd hc) st p.isList (by simp;lia) λh' eb=>⟨rfl,I.turned (t':=s.toks) (λb o hb e=>eb b o hb e) f0 f1 f3 f4 f5⟩
 self:=λ_ _ _ _ _ st h=>wpAny_pyIter_listiter st h
theorem wxn {P:Ac}{w:Ah}{K:Aa}{tg:Expr}(a it:Aj):Turn P w K tg (Itt K a) [it] it (λi h=>h.IsTupleIter it a i) where
 mem:=by simp
 obj:=λi h st b hb=>by
  have e:b=it:=by simpa using hb
  subst e;obtain⟨o,e,c,d⟩:=st;exact⟨o,e,λv z=>by rw[d]at z;cases z⟩
 keep:=λi h h' st k=>st.at λo e=>k it (by simp) o e
 item:=by intro X hP hw hK hc i pins s σ H E I hf st hg;subst hP hw hK;obtain⟨xs,x,hq,hx⟩:=hg;obtain⟨its,rv,p,hz⟩:=I.tuple hq;obtain⟨u,hu,ru⟩:=rv.get hx;obtain⟨f0,f1,f2,f3,f4,f5⟩:=hf it (by simp);refine wpAny_pyNext_tuple_item st (show s.heap.IsTuple a its.toArray from p) (x:=u) (by simpa using hu) λh' st' sb=>?_;have I1:Inv X pins σ H { s with heap:=h' }:=I.turned (t':=s.toks) (λb o hb e=>(sb.2 b hb).trans e) f0 f1 f3 f4 f5;obtain⟨o,e,c,d⟩:=id st';exact⟨u,rfl,wzp (s:={ s with heap:=h' }) e c d ⋯ ⟨x,H,I1,ru,⟨rfl,λys hy=>by rw[I.tuple_inj hy hq];exact hx⟩,st',λb hb=>(hf b hb).1⟩⟩
 done:=by intro X hP hw hK hc i pins s σ H E I hf st hg;subst hP hw hK;obtain⟨xs,hq,hx⟩:=hg;obtain⟨its,rv,p,hz⟩:=I.tuple hq;obtain⟨f0,f1,f2,f3,f4,f5⟩:=hf it (by simp);have hl:=rv.length;exact wpAny_pyNext_tuple_end (I.ok.hd hc) st (show s.heap.IsTuple a its.toArray from p) (by simp;lia) λh' eb=>⟨rfl,I.turned (t':=s.toks) (λb o hb e=>eb b o hb e) f0 f1 f3 f4 f5⟩
 self:=λ_ _ _ _ _ st h=>wpAny_pyIter_tupleiter st h
theorem wx4 {P:Ac}{w:Ah}{K:Aa}{tg:Expr}(it:Aj)(lo:Int)(n:Nat):Turn P w K tg (Itr lo n) [it] it (λi h=>IsRangeIter h it (lo+(i:Nat)*1) ((n:Int)-(i:Nat)) 1) where
 mem:=by simp
 obj:=λi h st b hb=>by
  have e:b=it:=by simpa using hb
  subst e;exact⟨_,st,λv z=>by
   have z':Data.fields _=Data.cell v:=z
   cases z'⟩
 keep:=λi h h' st k=>k it (by simp) _ st
 item:=by intro X hP hw hK hc i pins s σ H E I hf st hg;subst hP hw hK;obtain⟨f0,f1,f2,f3,f4,f5⟩:=hf it (by simp);have W:=Walks.range (prog:=X.prog) (w:=X.w) (I.ok.hd hc) it lo 1 n;refine W.item i s _ _ hg st λv h' tk hv st' kk=>?_;obtain⟨t,rfl⟩:=hv;have I1:Inv X pins σ H { s with heap:=h',toks:=tk }:=I.turned (λb o hb e=>kk b o (by simpa using hb) e) f0 f1 f3 f4 f5;refine⟨_,rfl,wzp (s:={ s with heap:=h',toks:=tk }) (n := "range_iterator") st' rfl rfl ⋯ ⟨.int (lo+i),H,I1,⟨t,?_⟩,⟨rfl,rfl⟩,st',λb hb=>(hf b hb).1⟩⟩;rw[Int.mul_one]
 done:=by intro X hP hw hK hc i pins s σ H E I hf st hg;subst hP hw hK;obtain⟨f0,f1,f2,f3,f4,f5⟩:=hf it (by simp);exact wpAny_pyNext_range_end (I.ok.hd hc) st (by have:n<=i:=hg;lia) λh' eb=>⟨rfl,I.turned (t':=s.toks) (λb o hb e=>eb b o hb e) f0 f1 f3 f4 f5⟩
 self:=λ_ _ _ _ _ st h=>wpAny_pyIter_rangeiter st h
section
variable {X:Cx}{tg:Expr}
def iList (K:Aa)(tl:TE):TI:=λσ H R=>tl σ H λx H1=>∃a,x=.ref a/\(∃xs,SqL K H1 a xs)/\R (Itl K a) H1
def iTup (K:Aa)(tl:TE):TI:=λσ H R=>tl σ H λx H1=>∃a,x=.ref a/\(∃xs,SqT K H1 a xs)/\R (Itt K a) H1
theorem vz {l:Expr}{tl:TE}(hl:PE X l tl):PI X tg l (iList X.K tl):=by
 intro pins s σ H R I h;refine thn (hl pins s σ H _ I h) λv s1 ⟨x,H1,I1,r1,q1⟩=>?_;obtain⟨a,e,⟨xs,D⟩,q⟩:=q1;subst e;cases r1;obtain⟨L,J,p,U⟩:=I1.list D;refine fZ p.isList ?_;refine⟨s1.heap.objs.size,[s1.heap.objs.size],_,_,H1,rfl,I1.kept (t':=s1.toks) λb o e=>ah _ e,wkd a _,⟨_,az _ rfl,rfl,rfl⟩,λb F=>?_,q⟩;have e:b=s1.heap.objs.size:=by simpa using F
 subst e;exact I1.fpOk (aj _) (I1.hok.fresh (aj _))
theorem pi_tup {l:Expr}{tl:TE}(hl:PE X l tl):PI X tg l (iTup X.K tl):=by
 intro pins s σ H R I h;refine thn (hl pins s σ H _ I h) λv s1 ⟨x,H1,I1,r1,q1⟩=>?_;obtain⟨a,e,⟨xs,F⟩,q⟩:=q1;subst e;cases r1;obtain⟨D,L,p,U⟩:=I1.tuple F;refine wpAny_pyIter_tuple (show s1.heap.IsTuple a D.toArray from p) ?_;refine⟨s1.heap.objs.size,[s1.heap.objs.size],_,_,H1,rfl,I1.kept (t':=s1.toks) λb o e=>ah _ e,wxn a _,⟨_,az _ rfl,rfl,rfl⟩,λb J=>?_,q⟩;have e:b=s1.heap.objs.size:=by simpa using J
 subst e;exact I1.fpOk (aj _) (I1.hok.fresh (aj _))
theorem quc {pins:List (Aj×Obj)}{σ:St}{H:Hp}{s:Ab}{R:It->Hp->Prop}{E:Ag->Ab->Prop}{lo hi:Int}{t u v:Tok}{tk:Nat}(I:Inv X pins σ H s)(h1:-(2 ^ 62)<=lo)(h2:lo<2 ^ 62)(h3:-(2 ^ 62)<=hi)(h4:hi<2 ^ 62)
  (q:R (Itr lo (hi-lo).toNat) H):wpAny (model X.prog X.w) X.A (pyIter (.ref s.heap.objs.size)) (PIE X pins σ tg R) E { s with heap:=s.heap.push { cls:=.type "range",data:=.fields #[.int lo t,.int hi u,.int 1 v] },toks:=tk }:=by
 refine wpAny_pyIter_range (IsRange.new ..) (small_one h1 h2 h3 h4) ?_;have D:Inv X pins σ H { s with heap:=s.heap.push { cls:=.type "range",data:=.fields #[.int lo t,.int hi u,.int 1 v] },toks:=tk }:=I.kept λb o e=>ah _ e;refine⟨(s.heap.push { cls:=.type "range",data:=.fields #[.int lo t,.int hi u,.int 1 v] }).objs.size,[(s.heap.push { cls:=.type "range",data:=.fields #[.int lo t,.int hi u,.int 1 v] }).objs.size],_,_,H,rfl,
  D.kept (t':=tk) λb o e=>ah _ e,wx4 _ lo (hi-lo).toNat,?_,λb F=>?_,q⟩
 .have L:lo+((0:Nat):Int)*1=lo:=by simp
  have J:(((hi-lo).toNat:Nat):Int)-((0:Nat):Int)=Builtin.Range.rangeSize lo hi 1:=by rw[rangeSize_one];split <;> lia
  show IsRangeIter _ _ (lo+((0:Nat):Int)*1) ((((hi-lo).toNat:Nat):Int)-((0:Nat):Int)) 1;rw[L,J];exact az _ rfl
 .have e:b=(s.heap.push { cls:=.type "range",data:=.fields #[.int lo t,.int hi u,.int 1 v] }).objs.size:=by simpa using F
  subst e;exact D.fpOk (aj _) (D.hok.fresh (aj _))
def iRng1 (ta:TA):TI:=λσ H R=>ta σ H λvs H1=>∃j:Int,vs=[.int j]/\-(2 ^ 62)<=j/\j<2 ^ 62/\R (Itr 0 j.toNat) H1
def iRng2 (ta:TA):TI:=λσ H R=>ta σ H λvs H1=>∃i j:Int,vs=[.int i,.int j]/\(-(2 ^ 62)<=i/\i<2 ^ 62/\-(2 ^ 62)<=j/\j<2 ^ 62)/\R (Itr i (j-i).toNat) H1
theorem xm {a:Expr}{ta:TA}{p pos:Pos}(hg:Gl X "range")(hm:X.mg "range" = none)(ha:PA X [a] ta)(hs:autoParam (starEach [a] X.env=[(false,eval a X.env)]) aU4._auto_1):PI X tg (.Call (.Name "range" p) [a] [] pos) (iRng1 ta):=by
 intro pins s σ H R I h;refine Call_ (j3 I hg hm boot_range (bW (thn (ha pos pins s σ H _ I h) λus s1 ⟨vs,H1,I1,r1,D⟩=>?_) hs rfl));obtain⟨j,e,D,F,q⟩:=D;subst e;cases r1 with
 |cons r rr =>
  cases rr;obtain⟨t,rfl⟩:=r;exact call_range_1 (quc I1 ⋯ ⋯ D F (by simpa using q))
theorem Jg {a b:Expr}{ta:TA}{p pos:Pos}(hg:Gl X "range")(hm:X.mg "range" = none)(ha:PA X [a,b] ta)(hs:autoParam (starEach [a,b] X.env=[(false,eval a X.env),(false,eval b X.env)]) aU4._auto_1)(hs2:autoParam (starEach [b] X.env=[(false,eval b X.env)]) aU4._auto_1) :
  PI X tg (.Call (.Name "range" p) [a,b] [] pos) (iRng2 ta):=by
 intro pins s σ H R I h;refine Call_ (j3 I hg hm boot_range (bW (thn (ha pos pins s σ H _ I h) λus s1 ⟨vs,H1,I1,r1,D⟩=>?_) (by rw[hs,hs2]) (by rw[hs2];rfl)));obtain⟨i,j,e,⟨D,L,J,F⟩,q⟩:=D;subst e;cases r1 with
 |cons r rr =>
  cases rr with
  |cons r' rr =>
   cases rr;obtain⟨t,rfl⟩:=r;obtain⟨U,rfl⟩:=r';exact call_range_2 (quc I1 D L J F q)
def tFor (wi:TI)(g:TG)(tb:TS):TS:=λD σ H=>wi σ H λJ H1=>∃W:Nat->Nat->St->Hp->Prop,(∃m,W 0 m σ H1)/\∀i m σ H,W i m σ H ->
 (J.stop i H/\D.nx σ H)\/(J.go i H/\∃N:St->Hp->Prop,(∀σ' H',N σ' H'->∃m',m'<m/\W (i+1) m' σ' H')/\∀x H',J.yld i H x H'->g x σ H' λσ2 H2=>tb { D with nx:=N,ct:=N,bk:=D.nx } σ2 H2)
def qkt (fp:List Aj)(h:Heap):List (Aj×Obj):=fp.filterMap λb=>(h.get? b).map λo=>(b,o)
theorem Qx {fp:List Aj}{h:Heap}{b:Aj}{o:Obj}(hb:b∈fp)(e:h.get? b=some o):(b,o)∈qkt fp h:=fP.mpr ⟨b,hb,by rw[e];rfl⟩
theorem wjc {fp:List Aj}{h:Heap}{p:Aj×Obj}(hp:p∈qkt fp h):p.1∈fp/\h.get? p.1=some p.2:=by
 obtain⟨b,D,e⟩:=fP.mp hp;cases q:h.get? b with
 |none=>rw[q]at e;cases e
 |some o =>
  rw[q]at e;have F:(b,o)=p:=au e;subst F;exact⟨D,q⟩
theorem Inv.pinned {pins:List (Aj×Obj)}{σ:St}{H:Hp}{s:Ab}{fp:List Aj}(I:Inv X pins σ H s)(hf:∀b∈fp,v6 X pins H b)(ho:∀b∈fp,∃o,s.heap.get? b=some o/\∀v,o.data≠.cell v):Inv X (pins++qkt fp s.heap) σ H s :=
 I.pins_of λp hp=>(aY.mp hp).elim (λz=>I.pin p (aN _ z)) λz=>by obtain⟨hb,e⟩:=wjc z;obtain⟨f0,f1,f2,_⟩:=hf p.1 hb;obtain⟨o,e',d⟩:=ho p.1 hb;rw[e]at e';cases e';exact⟨e,f0,f1,f2,d⟩
theorem Inv.unpinned {pins pl:List (Aj×Obj)}{σ:St}{H:Hp}{s:Ab}(I:Inv X (pins++pl) σ H s):Inv X pins σ H s:=I.pins_of λp hp=>I.pin p (aN _ (cD _ hp))
theorem j9 {iter:Expr}{body:List Stmt}{wi:TI}{g:TG}{tb:TS}{pos:Pos}(hp:PassesOwn (model X.prog X.w) X.A X.env X.xe)(hc:X.calm=true)(hi:PI X tg iter wi)(hg:PG X tg g)(hb:PSs X body tb)
  (hs:autoParam (∀x,foldedSetIterable iter X.env x=pure x) aU3._auto_1):PS X (.For tg iter body [] pos) (tFor wi g tb):=by
 intro pins s σ H D I h;refine wpAny_For (thn (hi pins s σ H _ I h) λv s1 h1=>thn h1 λa0 s2 h2=>?_) hs;obtain⟨it,fp,tn,J,H2,e,I2,T,ap,f2,W,⟨m0,w0⟩,ad⟩:=h2;subst e;have ab:∀ {H':Hp},(∀b∈fp,H' b=none)->∀b∈fp,v6 X pins H' b:=λhn b hb=>⟨hn b hb,(f2 b hb).2⟩;refine codeAny_forLoop_any (λn s'=>∃i σ' H',Inv X pins σ' H' s'/\tn i s'.heap/\(∀b∈fp,H' b=none)/\W i n σ' H') ?_ m0 ⟨0,σ,H2,I2,ap,λb hb=>(f2 b hb).1,w0⟩;rintro n s3 ⟨i,σ3,H3,I3,st3,fr3,w3⟩;rcases ad i n σ3 H3 w3 with⟨am,qn⟩|⟨go,N,hN,an⟩
 .refine d8 hp (thn (T.done X rfl rfl rfl hc i pins s3 σ3 H3 X.xe I3 (ab fr3) st3 am) λr s4 ⟨hr,I4⟩=>?_);subst hr;exact gR ⟨σ3,H3,I4,qn⟩
 .refine d8 hp (thn (T.item X rfl rfl rfl hc i pins s3 σ3 H3 X.xe I3 (ab fr3) st3 go) λr s4 ⟨u,hr,h4⟩=>?_);subst hr;refine d8 hp (thn h4 λ_ s5 ⟨x,H5,I5,r5,y5,st5,fr5⟩=>?_);have as:=I5.pinned (ab fr5) (T.obj _ _ st5);refine d8 hp (thn (hg _ s5 σ3 H5 x u _ as r5 (an x H5 y5)) λ_ s6 ⟨σ6,H6,I6,q6⟩=>?_);refine d8 hp (thn (hb _ s6 σ6 H6 _ I6 q6) λf s7 Z=>?_);have ac:∀ {F:St} {U:Hp},Inv X (pins++qkt fp s5.heap) F U s7->N F U->∃m,m<n/\∃i σ' H',Inv X pins σ' H' s7/\tn i s7.heap/\(∀b∈fp,H' b=none)/\W i m σ' H':=λ{F U} L n7=>by obtain⟨m',hm,w7⟩:=hN F U n7;refine⟨m',hm,i+1,F,U,L.unpinned,T.keep _ _ _ st5 λb hb o e=>(L.pin (b,o) (aN _ (aN _ (Qx hb e)))).1,λb hb=>?_,w7⟩;obtain⟨o,e,d⟩:=T.obj _ _ st5 b hb;exact(L.pin (b,o) (aN _ (aN _ (Qx hb e)))).2.1
  cases f with
  |next=>obtain⟨F,U,L,n7⟩:=Z;exact ac L n7
  |cont=>obtain⟨F,U,L,n7⟩:=Z;exact ac L n7
  |brk=>obtain⟨F,U,L,Z⟩:=Z;exact⟨F,U,L.unpinned,Z⟩
  |ret v=>obtain⟨x7,F,U,L,r7,Z⟩:=Z;exact⟨x7,F,U,L.unpinned,r7,Z⟩
end
theorem wq0 {K:Aa}{a:Aj}{xs:List V}{g:TG}{tb:TS}{D:Ends}{σ:St}{H:Hp}(Pv:Nat->St->Hp->Prop)(h0:Pv 0 σ H)(hl:∀i σ H,i<=xs.length->Pv i σ H->SqL K H a xs)
  (hs:∀i x σ H,xs[i]?=some x->Pv i σ H->g x σ H λσ2 H2=>tb { D with nx:=Pv (i+1),ct:=Pv (i+1),bk:=D.nx } σ2 H2) (hd:∀σ H,Pv xs.length σ H->D.nx σ H) :
  ∃W:Nat->Nat->St->Hp->Prop,(∃m,W 0 m σ H)/\∀i m σ H,W i m σ H ->
   ((Itl K a).stop i H/\D.nx σ H)\/((Itl K a).go i H/\∃N:St->Hp->Prop,(∀σ' H',N σ' H'->∃m',m'<m/\W (i+1) m' σ' H')/\∀x H',(Itl K a).yld i H x H'->g x σ H' λσ2 H2=>tb { D with nx:=N,ct:=N,bk:=D.nx } σ2 H2):=by
 refine⟨λi m σ H=>m=xs.length-i/\i<=xs.length/\Pv i σ H,⟨xs.length,by simp,aW _,h0⟩,?_⟩;rintro i m σ H ⟨rfl,hi,p⟩;have q:=hl i σ H hi p;by_cases hlt:i<xs.length
 .refine .inr ⟨⟨xs,xs[i],q,by simp[hlt]⟩,Pv (i+1),λσ' H' F=>⟨xs.length-(i+1),⋯,rfl,hlt,F⟩,λx H' y=>?_⟩;obtain⟨e,y⟩:=y;subst e;exact hs i x σ _ (y xs q) p
 .have e:i=xs.length:=by lia
  subst e;exact .inl ⟨⟨xs,q,aj _⟩,hd σ H p⟩
theorem xzq {K:Aa}{a:Aj}{xs:List V}{g:TG}{tb:TS}{D:Ends}{σ:St}{H:Hp}(Pv:Nat->St->Hp->Prop)(h0:Pv 0 σ H)(hl:∀i σ H,i<=xs.length->Pv i σ H->SqT K H a xs)
  (hs:∀i x σ H,xs[i]?=some x->Pv i σ H->g x σ H λσ2 H2=>tb { D with nx:=Pv (i+1),ct:=Pv (i+1),bk:=D.nx } σ2 H2) (hd:∀σ H,Pv xs.length σ H->D.nx σ H) :
  ∃W:Nat->Nat->St->Hp->Prop,(∃m,W 0 m σ H)/\∀i m σ H,W i m σ H ->
   ((Itt K a).stop i H/\D.nx σ H)\/((Itt K a).go i H/\∃N:St->Hp->Prop,(∀σ' H',N σ' H'->∃m',m'<m/\W (i+1) m' σ' H')/\∀x H',(Itt K a).yld i H x H'->g x σ H' λσ2 H2=>tb { D with nx:=N,ct:=N,bk:=D.nx } σ2 H2):=by
 refine⟨λi m σ H=>m=xs.length-i/\i<=xs.length/\Pv i σ H,⟨xs.length,by simp,aW _,h0⟩,?_⟩;rintro i m σ H ⟨rfl,hi,p⟩;have q:=hl i σ H hi p;by_cases hlt:i<xs.length
 .refine .inr ⟨⟨xs,xs[i],q,by simp[hlt]⟩,Pv (i+1),λσ' H' F=>⟨xs.length-(i+1),⋯,rfl,hlt,F⟩,λx H' y=>?_⟩;obtain⟨e,y⟩:=y;subst e;exact hs i x σ _ (y xs q) p
 .have e:i=xs.length:=by lia
  subst e;exact .inl ⟨⟨xs,q,aj _⟩,hd σ H p⟩
theorem jq {lo:Int}{n:Nat}{g:TG}{tb:TS}{D:Ends}{σ:St}{H:Hp}(Pv:Nat->St->Hp->Prop)(h0:Pv 0 σ H)
  (hs:∀i σ H,i<n->Pv i σ H->g (.int (lo+i)) σ H λσ2 H2=>tb { D with nx:=Pv (i+1),ct:=Pv (i+1),bk:=D.nx } σ2 H2) (hd:∀σ H,Pv n σ H->D.nx σ H) :
  ∃W:Nat->Nat->St->Hp->Prop,(∃m,W 0 m σ H)/\∀i m σ H,W i m σ H ->
   ((Itr lo n).stop i H/\D.nx σ H)\/((Itr lo n).go i H/\∃N:St->Hp->Prop,(∀σ' H',N σ' H'->∃m',m'<m/\W (i+1) m' σ' H')/\∀x H',(Itr lo n).yld i H x H'->g x σ H' λσ2 H2=>tb { D with nx:=N,ct:=N,bk:=D.nx } σ2 H2):=by
 refine⟨λi m σ H=>m=n-i/\i<=n/\Pv i σ H,⟨n,by simp,aW _,h0⟩,?_⟩;rintro i m σ H ⟨rfl,hi,p⟩;by_cases hlt:i<n
 .refine .inr ⟨hlt,Pv (i+1),λσ' H' F=>⟨n-(i+1),⋯,rfl,hlt,F⟩,λx H' y=>?_⟩;obtain⟨e,y⟩:=y;subst e y;exact hs i σ _ hlt p
 .have e:i=n:=by lia
  subst e;exact .inl ⟨aj _,hd σ H p⟩
theorem y9 {c:TT}{tb:TS}{D:Ends}{σ:St}{H:Hp}(Pv:St->Hp->Prop)(μ:St->Hp->Nat)(h0:Pv σ H)
  (hs:∀σ H,Pv σ H->c σ H λb H1=>if b=true then tb { D with nx:=λσ' H'=>Pv σ' H'/\μ σ' H'<μ σ H,ct:=λσ' H'=>Pv σ' H'/\μ σ' H'<μ σ H,bk:=D.nx } σ H1 else D.nx σ H1)
  (mono:∀σ H Q Q',(∀b H1,Q b H1->Q' b H1)->c σ H Q->c σ H Q'):wxy c tb D σ H:=by
 refine⟨λm σ H=>m=μ σ H/\Pv σ H,⟨_,rfl,h0⟩,?_⟩;rintro m σ H ⟨rfl,p⟩;refine mono σ H _ _ (λb H1 q=>?_) (hs σ H p);cases b with
 |true=>exact⟨_,λσ' H' ⟨p',l⟩=>⟨_,l,rfl,p'⟩,q⟩
 |false=>exact q
abbrev R2:=V->V->Hp->VK->Prop
def OpR (X:Cx)(f:Ag->Ag->Sem Ag)(r:R2):Prop :=
 ∀(pins:List (Aj×Obj)) (s:Ab) (σ:St) (H:Hp) (x y:V) (v u:Ag) (Q:VK),Inv X pins σ H s->RelV x v->RelV y u->r x y H Q ->
  wpAny (model X.prog X.w) X.A (f v u) (EP X pins σ Q) X.xe s
def UnR (X:Cx)(f:Ag->Sem Ag)(r:V->Hp->VK->Prop):Prop :=
 ∀(pins:List (Aj×Obj)) (s:Ab) (σ:St) (H:Hp) (x:V) (v:Ag) (Q:VK),Inv X pins σ H s->RelV x v->r x H Q ->
  wpAny (model X.prog X.w) X.A (f v) (EP X pins σ Q) X.xe s
def kr (X:Cx)(f:Ag)(r:List V->Hp->VK->Prop):Prop :=
 ∀(pins:List (Aj×Obj)) (s:Ab) (σ:St) (H:Hp) (xs:List V) (us:List Ag) (Q:VK),Inv X pins σ H s->Vals xs us->r xs H Q ->
  wpAny (model X.prog X.w) X.A (call f us) (EP X pins σ Q) X.xe s
def tOp (r:R2)(ta tb:TE):TE:=λσ H Q=>ta σ H λx H1=>tb σ H1 λy H2=>r x y H2 Q
def tUn (r:V->Hp->VK->Prop)(ta:TE):TE:=λσ H Q=>ta σ H λx H1=>r x H1 Q
def rI (C:Int->Int->Prop)(g:Int->Int->V):R2:=λx y H Q=>∃i j,x=.int i/\y=.int j/\C i j/\Q (g i j) H
def rI0 (g:Int->Int->V):R2:=λx y H Q=>∃i j,x=.int i/\y=.int j/\Q (g i j) H
def rU (g:Int->V):V->Hp->VK->Prop:=λx H Q=>∃i,x=.int i/\Q (g i) H
section
variable {X:Cx}{a b c:Expr}{ta tb tc:TE}{pos:Pos}
theorem binT (ha:PE X a ta)(hb:PE X b tb){pins:List (Aj×Obj)}{s:Ab}{σ:St}{H:Hp}{R:V->V->Hp->Prop}(I:Inv X pins σ H s)
  (h:ta σ H λx H1=>tb σ H1 λy H2=>R x y H2) {Q:Ag->Ab->Prop} {f:Ag->Ag->Sem Ag}
  (hf:∀v u s2 x y H2,Inv X pins σ H2 s2->RelV x v->RelV y u->R x y H2->wpAny (model X.prog X.w) X.A (f v u) Q X.xe s2) :
  wpAny (model X.prog X.w) X.A (eval a X.env) (λv s₁=>wpAny (model X.prog X.w) X.A (eval b X.env) (λu s₂=>wpAny (model X.prog X.w) X.A (f v u) Q X.xe s₂) X.xe s₁) X.xe s:=by
 refine thn (ha pins s σ H _ I h) λv s1 ⟨x,H1,I1,r1,q1⟩=>?_;refine thn (hb pins s1 σ H1 _ I1 q1) λu s2 ⟨y,H2,I2,r2,q2⟩=>?_;exact hf v u s2 x y H2 I2 r1 r2 q2
theorem wb {op:Operator}{r:R2}(ho:OpR X (binaryOp op) r)(ha:PE X a ta)(hb:PE X b tb):PE X (.BinOp a op b pos) (tOp r ta tb):=by intro pins s σ H Q I h;exact wpAny_BinOp (binT ha hb I h λv u s2 x y H2 J F D q=>ho pins s2 σ H2 x y v u Q J F D q)
theorem qw0 {op:UnaryOp}{r:V->Hp->VK->Prop}(ho:UnR X (unaryOp op) r)(ha:PE X a ta):PE X (.UnaryOp op a pos) (tUn r ta):=by intro pins s σ H Q I h;exact UnaryOp_ (thn (ha pins s σ H _ I h) λv s1 ⟨x,H1,I1,r1,q1⟩=>ho pins s1 σ H1 x v Q I1 r1 q1)
theorem opI {f:Ag->Ag->Sem Ag}{C:Int->Int->Prop}{g:Int->Int->Int}
  (rule:∀(i j:Int) (t u:Tok) (s:Ab) (Q:Ag->Ab->Prop) (E:Ag->Ab->Prop),C i j->Q (.int (g i j) s.toks) { s with toks:=s.toks+1 }->wpAny (model X.prog X.w) X.A (f (.int i t) (.int j u)) Q E s) :
  OpR X f (rI C λi j=>.int (g i j)):=by
 intro pins s σ H x y v u Q I J F h;obtain⟨i,j,rfl,rfl,L,q⟩:=h;obtain⟨t,rfl⟩:=J;obtain⟨D,rfl⟩:=F;exact rule i j t D s _ _ L ⟨.int (g i j),H,I.tok _,⟨_,rfl⟩,q⟩
theorem opI0 {f:Ag->Ag->Sem Ag}{g:Int->Int->Int}
  (rule:∀(i j:Int) (t u:Tok) (s:Ab) (Q:Ag->Ab->Prop) (E:Ag->Ab->Prop),Q (.int (g i j) s.toks) { s with toks:=s.toks+1 }->wpAny (model X.prog X.w) X.A (f (.int i t) (.int j u)) Q E s) :
  OpR X f (rI0 λi j=>.int (g i j)):=by
 intro pins s σ H x y v u Q I J F h;obtain⟨i,j,rfl,rfl,q⟩:=h;obtain⟨t,rfl⟩:=J;obtain⟨D,rfl⟩:=F;exact rule i j t D s _ _ ⟨.int (g i j),H,I.tok _,⟨_,rfl⟩,q⟩
theorem opB0 {f:Ag->Ag->Sem Ag}{g:Int->Int->Bool}
  (rule:∀(i j:Int) (t u:Tok) (s:Ab) (Q:Ag->Ab->Prop) (E:Ag->Ab->Prop),Q (.bool (g i j)) s->wpAny (model X.prog X.w) X.A (f (.int i t) (.int j u)) Q E s) :
  OpR X f (rI0 λi j=>.bl (g i j)):=by
 intro pins s σ H x y v u Q I J F h;obtain⟨i,j,rfl,rfl,q⟩:=h;obtain⟨t,rfl⟩:=J;obtain⟨D,rfl⟩:=F;exact rule i j t D s _ _ ⟨.bl (g i j),H,I,rfl,q⟩
def CPow (i j:Int):Prop:=0<=j/\j<=1000000/\i.natAbs<2 ^ 64
theorem xu:OpR X (binaryOp .Add) (rI0 λi j=>.int (i+j)):=opI0 λ_ _ _ _ _ _ _ q=>add_int q
theorem ky:OpR X (binaryOp .Sub) (rI0 λi j=>.int (i-j)):=opI0 λ_ _ _ _ _ _ _ q=>sub_int q
theorem ju:OpR X (binaryOp .Mod) (rI (λ_ j=>0<j) λi j=>.int (i%j)):=opI λi j _ _ _ _ _ hc q=>by have h1:(0:Int)<j:=hc;exact mod_int' ⋯ (by rw[Int.fmod_eq_emod_of_nonneg i ⋯];exact q)
theorem op_pow:OpR X (binaryOp .Pow) (rI CPow λi j=>.int (i ^ j.toNat)):=opI λ_ _ _ _ _ _ _ hc q=>pow_int_small hc.1 hc.2.1 hc.2.2 q
theorem unI {f:Ag->Sem Ag}{g:Int->Int}
  (rule:∀(i:Int) (t:Tok) (s:Ab) (Q:Ag->Ab->Prop) (E:Ag->Ab->Prop),Q (.int (g i) s.toks) { s with toks:=s.toks+1 }->wpAny (model X.prog X.w) X.A (f (.int i t)) Q E s) :
  UnR X f (rU λi=>.int (g i)):=by
 intro pins s σ H x v Q I D h;obtain⟨i,rfl,q⟩:=h;obtain⟨t,rfl⟩:=D;exact rule i t s _ _ ⟨.int (g i),H,I.tok _,⟨_,rfl⟩,q⟩
theorem W7:UnR X (unaryOp .USub) (rU λi=>.int (-i)):=unI λ_ _ _ _ _ q=>neg_int q
end
def scal:V->V->Bool
 |.non,.non=>true|.non,.int _=>true|.int _,.non=>true|.non,.bl _=>true|.bl _,.non=>true|.non,.str _=>true|.str _,.non=>true
 |.int _,.int _=>true|.bl _,.bl _=>true|.str _,.str _=>true|.byt _,.byt _=>true
 |.int _,.str _=>true|.str _,.int _=>true|.bl _,.str _=>true|.str _,.bl _=>true
 |_,_=>false
def rEq:R2:=λx y H Q=>scal x y=true/\Q (.bl (decide (x=y))) H
theorem xvu {i j:Int}:decide (V.int i=V.int j)=(i==j):=by rw[cP];simp
theorem dec_bl {i j:Bool}:decide (V.bl i=V.bl j)=(i==j):=by rw[cP];simp
theorem xxm {i j:Str}:decide (V.str i=V.str j)=(i==j):=by rw[cP];simp
theorem xxh {i j:Array UInt8}:decide (V.byt i=V.byt j)=(i.toList==j.toList):=by rw[cP];cases i;cases j;simp
section
variable {X:Cx}{a b c:Expr}{ta tb tc:TE}{pos:Pos}
theorem vd {pins:List (Aj×Obj)}{σ:St}{H:Hp}{s:Ab}{Q:VK}{k k':Bool}(I:Inv X pins σ H s)(q:Q (.bl k) H)(e:k=k'):EP X pins σ Q (.bool k') s:=by subst e;exact⟨.bl k,H,I,rfl,q⟩
theorem yx:OpR X (compareOp .Eq) rEq:=by
 intro pins s σ H x y v u Q I J D h;obtain⟨hs,q⟩:=h;cases x with
 |non =>
  cases J;cases y with
  |non=>cases D;exact PySem.EqNone.eq_none_none (vd I q (by simp))
  |bl j=>cases D;exact PySem.EqNone.eq_none_bool (vd I q (by simp))
  |int j=>obtain⟨F,rfl⟩:=D;exact PySem.EqNone.eq_none_int (vd I q (by simp))
  |str j=>obtain⟨F,rfl⟩:=D;exact PySem.EqNone.eq_none_str (vd I q (by simp))
  |_=>exact absurd (show false=true from hs) aF
 |bl i =>
  cases J;cases y with
  |non=>cases D;exact PySem.EqNone.eq_bool_none (vd I q (by simp))
  |bl j=>cases D;exact eq_bool (vd I q dec_bl)
  |str j=>obtain⟨F,rfl⟩:=D;exact PySem.EqMixed.eq_bool_str (vd I q (by simp))
  |_=>exact absurd (show false=true from hs) aF
 |int i =>
  obtain⟨t,rfl⟩:=J;cases y with
  |non=>cases D;exact PySem.EqNone.eq_int_none (vd I q (by simp))
  |int j=>obtain⟨F,rfl⟩:=D;exact eq_int (vd I q xvu)
  |str j=>obtain⟨F,rfl⟩:=D;exact PySem.EqMixed.eq_int_str (vd I q (by simp))
  |_=>exact absurd (show false=true from hs) aF
 |str i =>
  obtain⟨t,rfl⟩:=J;cases y with
  |non=>cases D;exact PySem.EqNone.eq_str_none (vd I q (by simp))
  |bl j=>cases D;exact PySem.EqMixed.eq_str_bool (vd I q (by simp))
  |int j=>obtain⟨F,rfl⟩:=D;exact PySem.EqMixed.eq_str_int (vd I q (by simp))
  |str j=>obtain⟨F,rfl⟩:=D;exact eq_str (vd I q xxm)
  |_=>exact absurd (show false=true from hs) aF
 |byt i =>
  obtain⟨t,rfl⟩:=J;cases y with
  |byt j=>obtain⟨F,rfl⟩:=D;exact W.eq_bytes (vd I q xxh)
  |_=>exact absurd (show false=true from hs) aF
 |_=>cases y <;> exact absurd (show false=true from hs) aF
theorem Yy:OpR X (compareOp .Lt) (rI0 λi j=>.bl (decide (i<j))):=opB0 λ_ _ _ _ _ _ _ q=>lt_int q
theorem qu5:OpR X (compareOp .LtE) (rI0 λi j=>.bl (decide (i<=j))):=opB0 λ_ _ _ _ _ _ _ q=>le_int q
theorem Wp:OpR X (compareOp .Gt) (rI0 λi j=>.bl (decide (j<i))):=opB0 λ_ _ _ _ _ _ _ q=>gt_int q
theorem wv2:OpR X (compareOp .GtE) (rI0 λi j=>.bl (decide (j<=i))):=opB0 λ_ _ _ _ _ _ _ q=>ge_int q
theorem op_isN:OpR X (compareOp .Is) (λx y H Q=>y=.non/\Q (.bl (decide (x=.non))) H):=by
 intro pins s σ H x y v u Q I D F h;obtain⟨rfl,q⟩:=h;cases F;refine is_none_gen (vd I q ?_);cases x <;> first
  |(cases D;rfl)
  |(obtain⟨t,rfl⟩:=D;rfl)
theorem wzn:OpR X (compareOp .IsNot) (λx y H Q=>y=.non/\Q (.bl (!decide (x=.non))) H):=by
 intro pins s σ H x y v u Q I D F h;obtain⟨rfl,q⟩:=h;cases F;refine isnot_none_gen (vd I q ?_);cases x <;> first
  |(cases D;rfl)
  |(obtain⟨t,rfl⟩:=D;rfl)
theorem xk (b:Expr){op:CmpOp}(h:autoParam (op≠.In) aU1._auto_1)(h2:autoParam (op≠.NotIn) aU1._auto_1):behindInMarks op b=false:=by
 have F:(op==CmpOp.In)=false:=by cases op <;> first | rfl | exact absurd rfl h
 have D:(op==CmpOp.NotIn)=false:=by cases op <;> first | rfl | exact absurd rfl h2
 cases b <;> simp[behindInMarks,F,D]
theorem qq7 {op:CmpOp}{r:R2}(ho:OpR X (compareOp op) r)(ha:PE X a ta)(hb:PE X b tb)(hm:behindInMarks op b=false):PE X (.Compare a [op] [b] pos) (tOp r ta tb):=by intro pins s σ H Q I h;exact wpAny_Compare1 (binT ha hb I h λv u s2 x y H2 J F D q=>ho pins s2 σ H2 x y v u Q J F D q) hm
def wy7 (t:TE):TT:=λσ H Q=>t σ H λx H'=>∃k,x=.bl k/\Q k H'
theorem wt {op:CmpOp}{r:R2}(ho:OpR X (compareOp op) r)(ha:PE X a ta)(hb:PE X b tb)(hm:behindInMarks op b=false):PT X (.Compare a [op] [b] pos) (wy7 (tOp r ta tb)):=by
 intro pins s σ H Q I h;refine wpAny_isTrue_Compare1 (thn (ha pins s σ H _ I h) λv s1 ⟨x,H1,I1,r1,q1⟩=>thn (hb pins s1 σ H1 _ I1 q1) λu s2 ⟨y,H2,I2,r2,q2⟩ =>
  thn (ho pins s2 σ H2 x y v u _ I2 r1 r2 q2) λc s3 ⟨z,H3,I3,r3,k,e,q3⟩=>?_) hm
 subst e;cases r3;exact cW ⟨H3,I3,q3⟩
theorem qwg:(sizeLine:Nat)<2 ^ 63:=by rw[dQ];decide
theorem jb {x:V}{us:List Ag}(r:Vals [x] us):∃u,us=[u]/\RelV x u:=by
 cases r with
 |cons r1 r2=>cases r2;exact⟨_,rfl,r1⟩
theorem wuk {x y:V}{us:List Ag}(r:Vals [x,y] us):∃u w',us=[u,w']/\RelV x u/\RelV y w':=by
 cases r with
 |cons r1 r2 =>
  cases r2 with
  |cons r3 r4=>cases r4;exact⟨_,_,rfl,r1,r3⟩
theorem qwf:kr X (.builtin "abs") (λxs H Q=>∃i,xs=[.int i]/\Q (.int (if i<0 then -i else i)) H):=by intro pins s σ H xs D Q I r h;obtain⟨i,rfl,q⟩:=h;obtain⟨u,rfl,t,rfl⟩:=jb r;exact call_abs_int λu tk=>⟨.int (if i<0 then -i else i),H,I.tok _,⟨_,rfl⟩,q⟩
theorem Y5 (hc:X.calm=true):kr X (.builtin "max") (λxs H Q=>∃i j,xs=[.int i,.int j]/\Q (.int (if j>i then j else i)) H):=by
 intro pins s σ H xs F Q I r h;obtain⟨i,j,rfl,q⟩:=h;obtain⟨u,D,rfl,⟨t,rfl⟩,⟨J,rfl⟩⟩:=wuk r;refine max_two_ints (I.ok.hd hc) λh' tk k=>⟨_,H,I.kept k,?_,q⟩;by_cases hj:j>i
 .rw[av hj,av hj];exact⟨_,rfl⟩
 .rw[ao hj,ao hj];exact⟨_,rfl⟩
theorem Wf (hc:X.calm=true):kr X (.builtin "min") (λxs H Q=>∃i j,xs=[.int i,.int j]/\Q (.int (if j<i then j else i)) H):=by
 intro pins s σ H xs F Q I r h;obtain⟨i,j,rfl,q⟩:=h;obtain⟨u,D,rfl,⟨t,rfl⟩,⟨J,rfl⟩⟩:=wuk r;refine min_two_ints (I.ok.hd hc) λh' tk k=>⟨_,H,I.kept k,?_,q⟩;by_cases hj:j<i
 .rw[av hj,av hj];exact⟨_,rfl⟩
 .rw[ao hj,ao hj];exact⟨_,rfl⟩
end
structure ObjM (h:Heap)(x dx C:Aj)(mA:Str->Option Ag):Prop where
 obj:h.get? x=some (W.instObj C dx)
 ns:h.Ns1 dx mA
 ne:dx≠x
theorem wkg {h:Heap}{dx:Aj}{mA:Str->Option Ag}(n:h.Ns1 dx mA):∃od,h.get? dx=some od/\∀name,W.lookIn name od=some (mA name):=by
 obtain⟨o,es,ep,ho,hd,hk,_,hm⟩:=n;refine⟨o,ho,λname=>?_⟩;have e:=hm name;unfold nsFind findBy at e;rw[<-Array.find?_toList]at e;unfold W.lookIn;rw[hd];dsimp only;split
 .rename_i y q;rw[q]at e;exact cK some e
 .rename_i q;rw[q]at e;have a:es.toList.any (·.refKey)=false:=by rw[List.any_eq_false];intro y hy;obtain⟨z,t,hkey⟩:=hk y (gL.mp hy);simp[DictEntry.refKey,hkey]
  have a':¬ es.toList.any (·.refKey)=true:=by rw[a];exact aF
  rw[ao a'];exact cK some e
theorem ObjM.look {h:Heap}{x dx C:Aj}{mA:Str->Option Ag}(I:ObjM h x dx C mA):∃od,W.InstAt h x (W.instObj C dx) C (some od)/\∀name,W.lookIn name od=some (mA name) :=
 let ⟨od,ho,hl⟩:=wkg I.ns;⟨od,⟨I.obj,rfl,rfl,ho⟩,hl⟩
section
variable {prog:Ac}{w:Ah}{A:Ae}{E:Ag->Ab->Prop}{s:Ab}{K:Aa}{x dx C f:Aj}{mA:Str->Option Ag}{name:Str}{v:Ag}
theorem xz1 {expr:Bool}{Q:Ag->Ab->Prop}(X:K.In s.heap)(I:ObjM s.heap x dx C mA)(hg:W.plainGet K C name=true)(hh:W.hasDictIn K C=true)
  (ha:W.findIn K (.ref C) name=some none) (hv:mA name=some v) (hv':W.handedIn v=true) (h:Q v { s with toks:=s.toks+1 }) :
  wpAny (model prog w) A (getAttr (.ref x) name expr) Q E s:=by
 obtain⟨F,J,D⟩:=I.look;exact W.get_value X J (gZ hg).1 (W.findObj_own hh ha rfl (by rw[D,hv])) hv' h
theorem wyk {pl:Sem Bool}{Q:Ag×List Ag->Ab->Prop}(X:K.In s.heap)(I:ObjM s.heap x dx C mA)(hg:W.plainGet K C name=true)
  (hf:W.findIn K (.ref C) name=some (some (.ref f))) (ht:W.isFn K (.ref f)=true) (hv:mA name=none) (h:Q (.ref f,[.ref x]) s) :
  wpAny (model prog w) A (getMethod (.ref x) name pl) Q E s:=by
 obtain⟨D,J,F⟩:=I.look;exact W.method_fn X J (gZ hg).1 (gZ hg).2 hf (fQ.mp ht) (by show(W.lookIn name D).map (·.isSome)=some false;rw[F,hv];rfl) h
theorem xvt {ns:List Str}{Q:Unit->Ab->Prop}(X:K.In s.heap)(I:ObjM s.heap x dx C mA)
  (hs:W.findIn K (.ref C) "__setattr__" = some (some (.builtin "object.__setattr__"))) (hp:W.plainOver K C=true) (ht:W.takerIn K C name=some none) (hh:W.hasDictIn K C=true)
  (hw:PySem.Within mA ns) (hsz:ns.length<=sizeLine)
  (h:∀h',ObjM h' x dx C (λy=>if y=name then some v else mA y)->Heap.SameBut dx s.heap h'->Q () { s with heap:=h',toks:=s.toks+2 }) :
  wpAny (model prog w) A (setAttr (.ref x) name v) Q E s:=by
 obtain⟨od,J,hl⟩:=I.look;refine W.set_plain X J hs (W.osa_open (s:={ s with toks:=s.toks+1 }) (r:=none) X J hp ht λb=>?_);obtain⟨cd,hc,ab⟩:=W.any_some hh;have L:s.heap.get? x=some ⟨.ref C,some dx,.plain,#[]⟩:=I.obj;refine aa (ai (aa (aa (wpAny_loadPart L (aa (W.Looks.here (s:={ s with toks:=s.toks+1 }) (W.looks_clsIn X hc) ?_))))));rw[ab];refine ai (a:=some dx) (aa (ai (aa ?_)));refine wpAny_nsSet1 (s:={ s with toks:=s.toks+1 }) I.ns λh' F D=>?_;obtain⟨oD,ad,am,U,Z,ac⟩:=F.count (PySem.Within.cons name v hw);refine aa (wpAny_lookBehind U (by rw[Z];exact pastItsLine_dict (bK ac (by rw[aJ];lia))) ?_);exact ai (h _ ⟨(D.2 _ (dY I.ne)).trans I.obj,F,I.ne⟩ D)
theorem wu2 {R:Result->Ab->Prop}{vs:List Ag}{kw:List (Str×Ag)}(X:K.In s.heap)(hm:W.makesIn K C=true)
  (hi:W.findIn K (.ref C) "__init__" = some (some (.ref f))) (hf:W.typeIn K (.ref f)=some (.type "function"))
  (h:codeAny (model prog w) (A.under (.builtin "type.__call__" ⟨.ref C::vs,kw⟩)) (.call (.ref f) ⟨.ref (s.heap.objs.size+1)::vs,kw⟩) (W.InitBack (s.heap.objs.size+1) R)
   { s with heap:=(s.heap.push W.emptyDict).push (W.instObj C s.heap.objs.size) }) :
  codeAny (model prog w) A (.call (.ref C) ⟨vs,kw⟩) R s:=by
 obtain⟨J,g,d,t,F⟩:=s;exact W.make_core (W.makes_of X hm) (W.looks_findIn X hi) (λD=>W.bind_fn X D hf) (.inl rfl) h
end
def Wm (f:Str)(v:V):List (Str×V)->List (Str×V)
 |[]=>[(f,v)]
 |(g,x)::r=>if g=f then(g,v)::r else(g,x)::Wm f v r
theorem qqv (f g:Str)(v:V):∀fs:List (Str×V),(Wm f v fs).lookup g=if g=f then some v else fs.lookup g
 |[]=>by
  show List.lookup g [(f,v)]=_;by_cases h:g=f
  .have hb:(g==f)=true:=fQ.mpr h;simp only[List.lookup,hb,av h]
  .have hb:(g==f)=false:=cy.mpr h;simp only[List.lookup,hb,ao h]
 |(k,x)::r=>by
  have ih:=qqv f g v r;rw[show Wm f v ((k,x)::r)=(if k=f then(k,v)::r else(k,x)::Wm f v r) from rfl];by_cases hk:k=f
  .rw[av hk];by_cases h:g=k
   .have hb:(g==k)=true:=fQ.mpr h;simp only[List.lookup,hb,av (h.trans hk)]
   .have hb:(g==k)=false:=cy.mpr h;simp only[List.lookup,hb,ao (λe:g=f=>h (e.trans hk.symm))]
  .rw[ao hk];by_cases h:g=k
   .have hb:(g==k)=true:=fQ.mpr h;simp only[List.lookup,hb,ao (λe:g=f=>hk (h.symm.trans e))]
   .have hb:(g==k)=false:=cy.mpr h;simp only[List.lookup,hb];exact ih
theorem Y6 (f:Str)(v:V):∀fs:List (Str×V),f∈(Wm f v fs).map (·.1)/\∀g,g∈fs.map (·.1)->g∈(Wm f v fs).map (·.1)
 |[]=>⟨by simp[Wm],λg h=>by simp at h⟩
 |(k,x)::r=>by
  obtain⟨i1,i2⟩:=Y6 f v r;rw[show Wm f v ((k,x)::r)=(if k=f then(k,v)::r else(k,x)::Wm f v r) from rfl];by_cases hk:k=f
  .rw[av hk];subst hk;exact⟨by simp,λg h=>by simpa using h⟩
  .rw[ao hk];refine⟨?_,λg h=>?_⟩
   .rw[aM];exact cf _ i1
   .rw[aM]at h ⊢;rcases aQ.mp h with e|e
    .exact aQ.mpr (.inl e)
    .exact cf _ (i2 g e)
theorem qqw (f:Str)(v:V):∀fs:List (Str×V),(Wm f v fs).length<=fs.length+1
 |[]=>by simp[Wm]
 |(k,x)::r=>by
  have ih:=qqw f v r;rw[show Wm f v ((k,x)::r)=(if k=f then(k,v)::r else(k,x)::Wm f v r) from rfl];by_cases hk:k=f
  .rw[av hk,aJ,aJ];lia
  .rw[ao hk,aJ,aJ];lia
theorem RelO.some_of {v:V}{o:Option Ag}(r:RelO (some v) o):∃u,o=some u/\RelV v u:=by
 cases o with
 |none=>exact(show False from r).elim
 |some u=>exact⟨u,rfl,r⟩
theorem RelO.none_of {o:Option Ag}(r:RelO none o):o=none:=by
 cases o with
 |none=>rfl
 |some u=>exact(show False from r).elim
theorem wj6 {v:V}{u:Ag}(r:RelV v u):W.handedIn u=true:=by
 cases v with
 |non=>cases(show u=Value.none from r);rfl
 |bl b=>cases(show u=Value.bool b from r);rfl
 |int i=>obtain⟨t,e⟩:=(show ∃t,u=Value.int i t from r);cases e;rfl
 |str x=>obtain⟨t,e⟩:=(show ∃t,u=Value.str x t from r);cases e;rfl
 |byt b=>obtain⟨t,e⟩:=(show ∃t,u=Value.bytes b t from r);cases e;rfl
 |flt b=>obtain⟨t,e⟩:=(show ∃t,u=Value.float b t from r);cases e;rfl
 |ref a=>cases(show u=Value.ref a from r);rfl
 |ty n=>cases(show u=Value.type n from r);rfl
section
variable {P:Ac}{w:Ah}{H H':Hp}{h h':Heap}{a C dx:Aj}{fs fs':List (Str×V)}
theorem qq2 (hok:HOk P w H h)(e:H a=some (.ins C dx fs)):∃mA,ObjM h a dx C mA/\(∀f,RelO (fs.lookup f) (mA f))/\PySem.Within mA (fs.map (·.1))/\fs.length<=1000/\H dx=some (.own a):=by obtain⟨d,z,F,D,mA,n,r,q⟩:=(show ObjOk P w H h a (.ins C dx fs) from hok a _ e);exact⟨mA,⟨D,n,F⟩,r,q,z,d⟩
end
structure Cls (K:Aa)(C:Aj):Prop where
 pg:W.plainGet K C Str.empty=true
 hd:W.hasDictIn K C=true
 po:W.plainOver K C=true
 sa:W.findIn K (.ref C) "__setattr__" = some (some (.builtin "object.__setattr__"))
theorem Cls.get {K:Aa}{C:Aj}(c:Cls K C)(f:Str):W.plainGet K C f=true:=c.pg
def NoAttr (K:Aa)(C:Aj)(f:Str):Prop:=W.findIn K (.ref C) f=some none
theorem NoAttr.taker {K:Aa}{C:Aj}{f:Str}(n:NoAttr K C f):W.takerIn K C f=some none:=by unfold W.takerIn;rw[show W.findIn K (.ref C) f=some none from n];rfl
structure Con (K:Aa)(C:Aj)(f:Str)(v:V)(u:Ag):Prop where
 at_:W.findIn K (.ref C) f=some (some u)
 rel:RelV v u
 get:W.specialIn K u "__get__" = some none
 cp:W.copiedNames.contains f=false
structure Meth (K:Aa)(C:Aj)(m:Str)(f:Aj):Prop where
 at_:W.findIn K (.ref C) m=some (some (.ref f))
 fn:W.isFn K (.ref f)=true
 kp:W.keepIn K (.ref f)=true
section
variable {X:Cx}{pins:List (Aj×Obj)}{σ:St}{H:Hp}{s:Ab}{a C dx:Aj}{fs:List (Str×V)}{f:Str}{v:V}{A:Ae}{E:Ag->Ab->Prop}
theorem wwf {b:Bool}{Q:Ag->Ab->Prop}(I:Inv X pins σ H s)(e:H a=some (.ins C dx fs))(c:Cls X.K C)(n:NoAttr X.K C f)(l:fs.lookup f=some v)
  (h:∀u s',Inv X pins σ H s'->RelV v u->Q u s'):wpAny (model X.prog X.w) A (getAttr (.ref a) f b) Q E s:=by
 obtain⟨mA,O,r,_,_,_⟩:=qq2 I.hok e;obtain⟨u,F,D⟩:=RelO.some_of (v:=v) (o:=mA f) (by rw[<-l];exact r f);exact xz1 I.kIn O (c.get f) c.hd n F (wj6 D) (h u _ (I.tok _) D)
theorem qzv {m:Str}{g:Aj}{pl:Sem Bool}{Q:Ag×List Ag->Ab->Prop}(I:Inv X pins σ H s)(e:H a=some (.ins C dx fs))(c:Cls X.K C)(k:Meth X.K C m g)(l:fs.lookup m=none)
  (h:Q (.ref g,[.ref a]) s):wpAny (model X.prog X.w) A (getMethod (.ref a) m pl) Q E s:=by
 obtain⟨mA,O,r,_,_,_⟩:=qq2 I.hok e;have D:mA m=none:=RelO.none_of (by rw[<-l];exact r m);exact wyk I.kIn O (c.get m) k.at_ k.fn D h
theorem wxr {y:V}{u:Ag}{Q:Unit->Ab->Prop}(I:Inv X pins σ H s)(e:H a=some (.ins C dx fs))(c:Cls X.K C)(n:NoAttr X.K C f)(hl:fs.length<1000)(ry:RelV y u)
  (h:∀s',Inv X pins σ (upd H a (.ins C dx (Wm f y fs))) s'->Q () s'):wpAny (model X.prog X.w) A (setAttr (.ref a) f u) Q E s:=by
 obtain⟨mA,O,r,wi,_,F⟩:=qq2 I.hok e;have L:(fs.map (·.1)).length<=sizeLine:=by rw[ag,dQ];lia
 refine xvt I.kIn O c.sa c.po n.taker c.hd wi L λh' D J=>h _ ?_;have W:∃o,h'.get? dx=some o:=let ⟨o,_,_,e',_⟩:=D.ns;⟨o,e'⟩;refine I.write (x:=a) (e:=dx) (by rw[e];exact True.intro) (.inr F) (λb q Z z=>(J.2 b Z).trans z) W ?_;refine⟨by rw[qt O.ne];exact F,?_,O.ne,D.obj,_,D.ns,λg=>?_,λg U=>?_⟩
 .have:=qqw f y fs;lia
 .show RelO ((Wm f y fs).lookup g) (if g=f then some u else mA g);rw[qqv];by_cases q:g=f
  .rw[av q,av q];exact ry
  .rw[ao q,ao q];exact r g
 .by_cases q:g=f
  .rw[q];exact(Y6 f y fs).1
  .refine(Y6 f y fs).2 g (wi g λz=>U ?_);show(if g=f then some u else mA g)=none;rw[ao q];exact z
theorem Inv.made (I:Inv X pins σ H s):Inv X pins σ (upd (upd H s.heap.objs.size (.own (s.heap.objs.size+1))) (s.heap.objs.size+1) (.ins C s.heap.objs.size []))
  { s with heap:=(s.heap.push W.emptyDict).push (W.instObj C s.heap.objs.size) }:=by
 have F:(s.heap.push W.emptyDict).get? s.heap.objs.size=some W.emptyDict:=az s.heap rfl;have Z:((s.heap.push W.emptyDict).push (W.instObj C s.heap.objs.size)).get? (s.heap.objs.size+1)=some (W.instObj C s.heap.objs.size):=by have:=az (s.heap.push W.emptyDict) (o:=W.instObj C s.heap.objs.size) rfl;rwa [cX]at this
 have U:(s.heap.push W.emptyDict).Ns s.heap.objs.size (λ_=>none):=⟨W.emptyDict,#[],_,F,rfl,(λe L=>absurd L (by simp)),λ_=>rfl⟩;have I1:=I.laid (a:=s.heap.objs.size) (o:=.own (s.heap.objs.size+1)) (h':=s.heap.push W.emptyDict) (t':=s.toks) (λb u q=>ah _ q) (aj _) ⟨_,F⟩;refine I1.laid (a:=s.heap.objs.size+1) (o:=.ins C s.heap.objs.size []) (t':=s.toks) (λb u q=>ah _ q) (Nat.le_of_eq (cX _ _)) ?_;have D:s.heap.objs.size≠s.heap.objs.size+1:=aB (eG _);refine⟨by rw[qt D,qc],aW _,D,Z,λ_=>none,(Heap.Ns1.of_empty U).at λo q=>ah _ q,λ_=>True.intro,λy J=>absurd rfl J⟩
theorem xz3 {prog:Ac}{w:Ah}{env:Env}{e:Expr}{f:Str}{pos:Pos}{s:Ab}{Q:Ag->Ab->Prop}(hb:attributeBase e f env (eval e env)=eval e env)
  (h:wpAny (model prog w) A (eval e env) (λo s₁=>wpAny (model prog w) A (getAttr o f true) Q E s₁) E s):wpAny (model prog w) A (eval (.Attribute e f pos) env) Q E s :=
 Attribute_any_ h (by rw[arm_eval_Attribute,hb])
end
def tFld (K:Aa)(ta:TE)(f:Str):TE:=λσ H Q=>ta σ H λx H1=>∃a C dx fs v,x=.ref a/\H1 a=some (.ins C dx fs)/\Cls K C/\NoAttr K C f/\fs.lookup f=some v/\Q v H1
def sFld (K:Aa)(ta tv:TE)(f:Str):TS:=λD σ H=>tv σ H λy H1=>ta σ H1 λx H2=>∃a C dx fs,x=.ref a/\H2 a=some (.ins C dx fs)/\Cls K C/\NoAttr K C f/\fs.length<1000 /\
 D.nx σ (upd H2 a (.ins C dx (Wm f y fs)))
section
variable {X:Cx}{o e value:Expr}{f:Str}{pos pos' tpos:Pos}{ta tv:TE}
theorem wx9 (he:PE X e ta)(hb:attributeBase e f X.env (eval e X.env)=eval e X.env):PE X (.Attribute e f pos) (tFld X.K ta f):=by intro pins s σ H Q I h;refine xz3 hb (thn (he pins s σ H _ I h) λu s1 ⟨x,H1,I1,rx,a,C,dx,fs,v,ex,ea,c,n,l,q⟩=>?_);subst ex;obtain rfl:u=Value.ref a:=rx;exact wwf I1 ea c n l λJ s2 F D=>⟨v,H1,F,D,q⟩
theorem ps_fld (ha:PE X o ta)(hv:PE X value tv)(hs:swapsWith value (some (.Attribute o f pos')) pos.line X.env=pure false):PS X (.Assign [.Attribute o f pos'] value pos) (sFld X.K ta tv f):=by intro pins s σ H D I h;refine plainObj_wpAny_Assign_Attribute (thn (hv pins s σ H _ I h) λu s1 ⟨y,H1,I1,ry,q⟩=>thn (ha pins s1 σ H1 _ I1 q) λov s2 ⟨x,H2,I2,rx,a,C,dx,fs,ex,ea,c,n,l,q2⟩=>?_) hs;subst ex;obtain rfl:ov=Value.ref a:=rx;exact wxr I2 ea c n l ry λJ F=>⟨σ,_,F,q2⟩
end
section
variable {X:Cx}{pins:List (Aj×Obj)}{σ:St}{H:Hp}{s:Ab}{A:Ae}{E:Ag->Ab->Prop}{Q:Ag->Ab->Prop}{c:Ag}{b:Bool}
inductive TyOf (K:Aa) (H:Hp):V->Ag->Prop where
 |non:TyOf K H .non (.type "NoneType")
 |bl (x:Bool):TyOf K H (.bl x) (.type "bool")
 |int (i:Int):TyOf K H (.int i) (.type "int")
 |str (x:Str):TyOf K H (.str x) (.type "str")
 |flt (x:UInt64):TyOf K H (.flt x) (.type "float")
 |lst {a:Aj} {xs:List V} (e:H a=some (.lst xs)):TyOf K H (.ref a) (.type "list")
 |frz {a:Aj} {o:Obj} {xs:List V} (e:H a=some (.frz o (.lst xs))):TyOf K H (.ref a) (.type "list")
 |tup {a:Aj} {xs:List V} (e:H a=some (.tup xs)):TyOf K H (.ref a) (.type "tuple")
 |dK {a:Aj} {kvs:List (Key×V)} (e:H a=some (.dK kvs)):TyOf K H (.ref a) (.type "dict")
 |dT {a:Aj} {kvs:List (List Key×V)} (e:H a=some (.dT kvs)):TyOf K H (.ref a) (.type "dict")
 |ins {a C dx:Aj} {fs:List (Str×V)} (e:H a=some (.ins C dx fs)) (cl:Cls K C) (ha:W.findIn K (.ref C) "__class__" = some (some (.builtin "object.__class__")))
   (hn:W.specialIn K (.builtin "object.__class__") "__get__" = some (some (.builtin "getset_descriptor.__get__"))) (htk:W.takesIn K (.builtin "object.__class__")=some true)
   (hm:W.mroIn K C (.type "object")=some true):TyOf K H (.ref a) (.ref C)
theorem wjv {x:V}{u t:Ag}(I:Inv X pins σ H s)(rx:RelV x u)(ty:TyOf X.K H x t)(e:W.kitOne X.K t c=some b)(h:∀tk,Q (.bool b) { s with toks:=tk }) :
  wpAny (model X.prog X.w) A (call (.builtin "isinstance") [u,c]) Q E s:=by
 cases ty with
 |non=>cases(show u=Value.none from rx);exact cE W.kitx_none I.kIn True.intro e (λz=>nomatch z) h
 |bl y=>cases(show u=Value.bool y from rx);exact cE W.kitx_bool I.kIn True.intro e (λz=>nomatch z) h
 |int i=>obtain⟨t,q⟩:=(show ∃t,u=Value.int i t from rx);cases q;exact cE W.kitx_int I.kIn True.intro e (λz=>nomatch z) h
 |str y=>obtain⟨t,q⟩:=(show ∃t,u=Value.str y t from rx);cases q;exact cE W.kitx_str I.kIn True.intro e (λz=>nomatch z) h
 |flt y=>obtain⟨t,q⟩:=(show ∃t,u=Value.float y t from rx);cases q;exact cE W.kitx_float I.kIn True.intro e (λz=>nomatch z) h
 |@lst a xs ea =>
  cases(show u=Value.ref a from rx);obtain⟨_,_,n,_,h1⟩:=(show ObjOk X.prog X.w H s.heap a (.lst xs) from I.hok a _ ea);exact cE W.kitx_list I.kIn ⟨_,h1,rfl⟩ e (λz=>nomatch z) h
 |@frz a ob xs ea =>
  cases(show u=Value.ref a from rx);obtain⟨_,_,_,n,_,h1⟩:=(show ObjOk X.prog X.w H s.heap a (.frz ob (.lst xs)) from I.hok a _ ea);exact cE W.kitx_list I.kIn ⟨_,h1,rfl⟩ e (λz=>nomatch z) h
 |@tup a xs ea =>
  cases(show u=Value.ref a from rx);obtain⟨_,_,_,p⟩:=(show ObjOk X.prog X.w H s.heap a (.tup xs) from I.hok a _ ea);obtain⟨o,h1,h2,_⟩:=p;exact cE W.kitx_tuple I.kIn ⟨o,h1,h2⟩ e (λz=>nomatch z) h
 |@dK a kvs ea =>
  cases(show u=Value.ref a from rx);obtain⟨_,_,vs,_,p⟩:=(show ObjOk X.prog X.w H s.heap a (.dK kvs) from I.hok a _ ea);obtain⟨o,es,ep,h1,h2,_⟩:=p;exact cE W.kitx_dict I.kIn ⟨o,h1,h2.1⟩ e (λz=>nomatch z) h
 |@dT a kvs ea =>
  cases(show u=Value.ref a from rx);obtain⟨_,_,xs,_,o,es,ep,h1,h2,_⟩:=(show ObjOk X.prog X.w H s.heap a (.dT kvs) from I.hok a _ ea);exact cE W.kitx_dict I.kIn ⟨o,h1,h2.1⟩ e (λz=>nomatch z) h
 |@ins a C dx fs ea cl ha hn htk hm =>
  cases(show u=Value.ref a from rx);obtain⟨mA,O,_⟩:=qq2 I.hok ea;obtain⟨D,J,_⟩:=O.look;exact cE (W.kitx_own (cl.get _) cl.hd ha hn htk hm) I.kIn J e (λz=>nomatch z) h
end
structure Room (k:Nat)(A:Ae):Prop where
 hd:A.handled=none
 dp:A.depth+3*k+5<recursionLimit
 un:A.units+16*k+200<cLine
theorem Room.mono {j k:Nat}{A:Ae}(r:Room k A)(h:j<=k):Room j A:=⟨r.hd,by have:=r.dp;lia,by have:=r.un;lia⟩
theorem Room.deeper {k:Nat}{A:Ae}(r:Room (k+1) A)(env:Env):Room k (A.deeper env) :=
 ⟨r.hd,by have:=r.dp;show A.depth+1+3*k+5<_;lia,by have:=r.un;show A.units+3+16*k+200<_;lia⟩
theorem Room.in1 {k:Nat}{A:Ae}(r:Room (k+1) A):Room k A.in1 :=
 ⟨r.hd,by have:=r.dp;show A.depth+3*k+5<_;lia,by have:=r.un;show A.units+1+16*k+200<_;lia⟩
theorem ww0 {A:Ae}{C:Aj}{us:List Ag}{kw:List (Str×Ag)}:(A.under (.builtin "type.__call__" ⟨.ref C::us,kw⟩)).depth=A.depth+1:=by
 first | rfl | simp[Around.under,Code.weight,Code.isCreation,Code.isGuard,Code.isCaller,Code.frames,Code.isFrame,guardIds]
theorem wxc {A:Ae}{C:Aj}{us:List Ag}{kw:List (Str×Ag)}:(A.under (.builtin "type.__call__" ⟨.ref C::us,kw⟩)).units=A.units+1:=by
 first | rfl | simp[Around.under,Code.cUnits,Code.frames,Code.isFrame]
theorem Room.make {k:Nat}{A:Ae}(r:Room (k+1) A)(C:Aj)(us:List Ag)(kw:List (Str×Ag)):Room k (A.under (.builtin "type.__call__" ⟨.ref C::us,kw⟩)) :=
 ⟨r.hd,by have:=r.dp;rw[ww0];lia,by have:=r.un;rw[wxc];lia⟩
theorem Room.depth {k:Nat}{A:Ae}(r:Room k A):A.depth<recursionLimit:=by have:=r.dp;lia
theorem Room.units {k:Nat}{A:Ae}(r:Room k A):A.units+64<cLine:=by have:=r.un;lia
theorem Room.units0 {k:Nat}{A:Ae}(r:Room k A):A.units<cLine:=by have:=r.un;lia
def qwm:TA:=λ_ H Q=>Q [] H
def yr (ta:TE)(tr:TA):TA:=λσ H Q=>ta σ H λx H1=>tr σ H1 λxs H2=>Q (x::xs) H2
section
variable {X:Cx}{e:Expr}{es:List Expr}{te:TE}{t:TA}{pos:Pos}
theorem qk:PA X [] qwm:=λ_ _ _ _ H Q I h=>Calls.spliced_nil ⟨[],H,I,.nil,h⟩
theorem qw (ha:PE X e te)(hr:PA X es t)(hs:autoParam (starEach (e::es) X.env=(false,eval e X.env)::starEach es X.env) aU4._auto_1):PA X (e::es) (yr te t):=by intro pos pins s σ H Q I h;rw[hs];show wpAny _ _ (spliced ((false,eval e X.env)::backTo pos (starEach es X.env))) _ _ s;refine Calls.spliced_cons (thn (ha pins s σ H _ I h) λu s1 ⟨x,H1,I1,r1,q1⟩=>?_);exact thn (hr pos pins s1 σ H1 _ I1 q1) λus s2 ⟨xs,H2,I2,r2,q2⟩=>⟨x::xs,H2,I2,.cons r1 r2,q2⟩
def tTup (t:TA):TE:=λσ H Q=>t σ H λxs H1=>xs.length<=sizeLine/\∀p,H1 p=none->Q (.ref p) (upd H1 p (.tup xs))
def tLst (t:TA):TE:=λσ H Q=>t σ H λxs H1=>xs.length<=sizeLine/\∀p,H1 p=none->Q (.ref p) (upd H1 p (.lst xs))
theorem jx {x1}(h:PA X es t):PE X (.Tuple es x1 pos) (tTup t):=by intro pins s σ H Q I D;refine wpAny_Tuple_spliced (thn (h pos pins s σ H _ I D) λus s1 ⟨xs,H1,I1,r,z,q⟩=>⟨by rw[<-r.length];exact z,?_⟩);have F:H1 s1.heap.objs.size=none:=I1.hok.fresh (aj _);refine⟨.ref s1.heap.objs.size,upd H1 s1.heap.objs.size (.tup xs),I1.laid (t':=s1.toks) (λb u e=>ah _ e) (aj _) ?_,rfl,q _ F⟩;exact⟨z,us,r,⟨_,az _ rfl,rfl,_,rfl⟩⟩
theorem ug (h:PA X es t):PE X (.List es pos) (tLst t):=by intro pins s σ H Q I D;refine wpAny_List_spliced (thn (h pos pins s σ H _ I D) λus s1 ⟨xs,H1,I1,r,z,q⟩=>⟨by rw[<-r.length];exact z,?_⟩);have F:H1 s1.heap.objs.size=none:=I1.hok.fresh (aj _);refine⟨.ref s1.heap.objs.size,upd H1 s1.heap.objs.size (.lst xs),I1.laid (t':=s1.toks) (λb u e=>ah _ e) (aj _) ?_,rfl,q _ F⟩;exact⟨z,us,0,r,az _ rfl⟩
end
abbrev Sp:=List V->Hp->VK->XK->Prop
abbrev CXT:=List Env->Hp->Ab->XK->Ag->Ab->Prop
structure Env0 (P:Ac)(w:Ah)(K:Aa)(mg:Str->Option Ag)(base:Heap)(A:Ae)(outer:List Env)(s:Ab)(H:Hp):Prop where
 frames:A.frames=some outer
 mod:Mod K mg base
 bs:∀b o,base.get? b=some o->s.heap.get? b=some o/\H b=none
 bsz:base.objs.size<=s.heap.objs.size
 funs:s.heap.FunFrames base outer
 frf:∀b∈frs outer,H b=none
 hok:HOk P w H s.heap
 bare:AllBare s.gens
def CE (outer:List Env)(P:Ac)(w:Ah)(H:Hp)(s:Ab)(Q:VK)(u:Ag)(s':Ab):Prop :=
 ∃v H',s'.os=s.os/\AllBare s'.gens/\Un (frs outer) [] H H' s.heap s'.heap/\HOk P w H' s'.heap/\RelV v u/\Q v H'
def CR (CX:CXT)(outer:List Env)(P:Ac)(w:Ah)(H:Hp)(s:Ab)(Q:VK)(E:XK)(r:Result)(s':Ab):Prop :=
 match r with
 |.ok (.ret u)=>CE outer P w H s Q u s'
 |.ok _=>False
 |.error e=>CX outer H s E e s'
structure FnOk (P:Ac)(w:Ah)(K:Aa)(mg:Str->Option Ag)(base:Heap)(CX:CXT)(k:Nat)(f:Aj)(fd:Ad)(ps:List Str)(sp:Sp):Prop where
 len:∀vs H Q E,sp vs H Q E->vs.length=ps.length
 run:∀(A:Ae) (outer:List Env) (s:Ab) (H:Hp) (args:Args) (us:List Ag) (vs:List V) (Q:VK) (E:XK),Room k A->Env0 P w K mg base A outer s H->BindsTo s fd args (ps.zip us)->Vals vs us->sp vs H Q E ->
  codeAny (model P w) A (.call (.ref f) args) (CR CX outer P w H s Q E) s
theorem Env0.make {P:Ac}{w:Ah}{K:Aa}{mg:Str->Option Ag}{base:Heap}{A:Ae}{outer:List Env}{s:Ab}{H:Hp}(e:Env0 P w K mg base A outer s H)(C:Aj)(us:List Ag)(kw:List (Str×Ag)) :
  Env0 P w K mg base (A.under (.builtin "type.__call__" ⟨.ref C::us,kw⟩)) outer s H:=⟨by first | exact e.frames | (simpa [Around.under,Code.envs,Code.isFrame,pushEnvs] using e.frames),e.mod,e.bs,e.bsz,e.funs,e.frf,e.hok,e.bare⟩
theorem Env0.in1 {P:Ac}{w:Ah}{K:Aa}{mg:Str->Option Ag}{base:Heap}{A:Ae}{outer:List Env}{s:Ab}{H:Hp}(e:Env0 P w K mg base A outer s H) :
  Env0 P w K mg base A.in1 outer s H:=⟨e.frames,e.mod,e.bs,e.bsz,e.funs,e.frf,e.hok,e.bare⟩
section
variable {X:Cx}{pins:List (Aj×Obj)}{σ:St}{H:Hp}{s s':Ab}
theorem Inv.env0 (I:Inv X pins σ H s):Env0 X.prog X.w X.K X.mg X.base X.A X.stack s H :=
 ⟨I.ok.frames,I.ok.mod,I.bs,bK I.ok.bsz I.sz,I.stack,I.stkFree,I.hok,I.bare⟩
theorem Inv.after {Q:VK}{u:Ag}(I:Inv X pins σ H s)(h:CE X.stack X.prog X.w H s Q u s'):EP X pins σ Q u s':=by obtain⟨v,H',J,W,D,L,r,q⟩:=h;obtain⟨U,g,d,t,F⟩:=s';obtain rfl:F=s.os:=J;exact⟨v,H',I.call (h':=U) (g':=g) (d':=d) (t':=t) (ch:=[]) D L W (λb z=>absurd z (by simp)),r,q⟩
end
def Binds (K:Aa)(fd:Ad)(ps:List Str)(ds:List Ag):Prop :=
 ∀(s:Ab) (us:List Ag),K.In s.heap->(us++ds).length=ps.length->BindsTo s fd ⟨us,[]⟩ (ps.zip (us++ds))
theorem Binds.all {K:Aa}{fd:Ad}{ps:List Str}(h:∀us:List Ag,us.length=ps.length->bindArgs fd ⟨us,[]⟩=pure (ps.zip us)):Binds K fd ps []:=λs us _ hl=>by rw[bQ]at hl ⊢;exact .of_eq (h us hl)
section
variable {X:Cx}{CX:CXT}{k:Nat}{f C:Aj}{fd:Ad}{ps:List Str}{sp:Sp}{dvs:List V}{ds:List Ag}{E:XK}{x m:Str}{p pos apos:Pos}{e o:Expr}{es:List Expr}{ta:TE}{t:TA}
structure Mk (K:Aa)(C f:Aj):Prop where
 makes:W.makesIn K C=true
 init:W.findIn K (.ref C) "__init__" = some (some (.ref f))
 fn:W.isFn K (.ref f)=true
 kp:W.keepIn K (.ref C)=true
end
def PK (X:Cx)(kws:List Keyword)(t:TA):Prop :=
 ∀(pos:Pos) (pins:List (Aj×Obj)) (s:Ab) (σ:St) (H:Hp) (Q:List V->Hp->Prop),Inv X pins σ H s->t σ H Q->wpAny (model X.prog X.w) X.A (evalAll ((backToKw pos (keywordEach kws X.env)).map (·.2))) (AP X pins σ Q) X.xe s
section
variable {X:Cx}{CX:CXT}{k:Nat}{f C:Aj}{fd:Ad}{ps ks:List Str}{sp:Sp}{E:XK}{x m:Str}{p pos apos kpos:Pos}{e o:Expr}{es:List Expr}{kws:List Keyword}{te ta:TE}{t tk:TA}{nm:Option Str}
theorem wyp:PK X [] qwm:=λ_ _ _ _ H Q I h=>wpAny_evalAll_nil ⟨[],H,I,.nil,h⟩
theorem wv0 (ha:PE X e te)(hr:PK X kws t):PK X (⟨nm,e,kpos⟩::kws) (yr te t):=by intro pos pins s σ H Q I h;show wpAny _ _ (evalAll ((do let v <-eval e X.env;standAt pos;pure v)::(backToKw pos (keywordEach kws X.env)).map (·.2))) _ _ s;refine wpAny_evalAll_cons (aa (thn (ha pins s σ H _ I h) λu s1 ⟨x,H1,I1,r1,q1⟩=>aa (cV (ai ?_))));exact thn (hr pos pins s1 σ H1 _ I1 q1) λus s2 ⟨xs,H2,I2,r2,q2⟩=>⟨x::xs,H2,I2,.cons r1 r2,q2⟩
structure KBinds (K:Aa)(fd:Ad)(ps ks:List Str)(g:List Ag->List Ag->List Ag)(gV:List V->List V->List V):Prop where
 to:∀(s:Ab) (us ws:List Ag),K.In s.heap->(g us ws).length=ps.length->BindsTo s fd ⟨us,ks.zip ws⟩ (ps.zip (g us ws))
 rel:∀ {vs:List V} {us:List Ag} {zs:List V} {ws:List Ag},Vals vs us->Vals zs ws->Vals (gV vs zs) (g us ws)
variable {g:List Ag->List Ag->List Ag}{gV:List V->List V->List V}
end
structure FnScope (N P:List Str)(sc:Scope):Prop where
 kind:sc.kind=.function
 co:sc.isCoroutine=false
 gen:sc.isGenerator=false
 nd:N.Nodup
 pre:N.take P.length=P
 par:∀x∈P,sc.names.lookup x=some .local\/sc.names.lookup x=some .cell
 nofree:∀y∈sc.names,y.2≠.free
theorem qvr {kindOf:Str->Option NameKind}{x:Str}:∀ {binds:List (Str×Ag)} {m:Str->Option Ag},(∀v,(x,v)∉binds)->bindL kindOf binds m x=m x
 |[],_,_=>rfl
 |(n,v)::r,m,h=>by
  unfold bindL;rw[qvr λw hw=>h w (cf _ hw)];split
  .have:x≠n:=by rintro rfl;exact h v dS
   simp[this]
  .rfl
theorem qkk {kindOf:Str->Option NameKind}{x:Str}:∀ {binds:List (Str×Ag)} {m:Str->Option Ag},(∀v,(x,v)∉binds)->bindC kindOf binds m x=m x
 |[],_,_=>rfl
 |(n,v)::r,m,h=>by
  unfold bindC;rw[qkk λw hw=>h w (cf _ hw)];split
  .rfl
  .have:x≠n:=by rintro rfl;exact h v dS
   simp[this]
theorem qv0 {kindOf:Str->Option NameKind}{x:Str}{v:Ag}:∀ {P:List Str} {vs:List Ag} {i:Nat} {m:Str->Option Ag},P.Nodup->P[i]?=some x->vs[i]?=some v->kindOf x=some .local ->
  bindL kindOf (P.zip vs) m x=some v
 |[],_,_,_,_,h,_,_=>by simp at h
 |_::_,[],_,_,_,_,h,_=>by simp at h
 |p::P,w::vs,0,m,nd,h1,h2,hk=>by simp at h1 h2;subst h1;subst h2;show bindL kindOf ((p,w)::P.zip vs) m p=_;unfold bindL;rw[qvr λv hv=>(dJ.mp nd).1 (jE hv).1,av hk];simp
 |p::P,w::vs,i+1,m,nd,h1,h2,hk=>by show bindL kindOf ((p,w)::P.zip vs) m x=_;unfold bindL;exact qv0 (i:=i) (dJ.mp nd).2 (by simpa using h1) (by simpa using h2) hk
theorem qkv {kindOf:Str->Option NameKind}{x:Str}{v:Ag}:∀ {P:List Str} {vs:List Ag} {i:Nat} {m:Str->Option Ag},P.Nodup->P[i]?=some x->vs[i]?=some v->kindOf x≠some .local ->
  bindC kindOf (P.zip vs) m x=some v
 |[],_,_,_,_,h,_,_=>by simp at h
 |_::_,[],_,_,_,_,h,_=>by simp at h
 |p::P,w::vs,0,m,nd,h1,h2,hk=>by simp at h1 h2;subst h1;subst h2;show bindC kindOf ((p,w)::P.zip vs) m p=_;unfold bindC;rw[qkk λv hv=>(dJ.mp nd).1 (jE hv).1,ao hk];simp
 |p::P,w::vs,i+1,m,nd,h1,h2,hk=>by show bindC kindOf ((p,w)::P.zip vs) m x=_;unfold bindC;exact qkv (i:=i) (dJ.mp nd).2 (by simpa using h1) (by simpa using h2) hk
def W1 (N:List Str)(vs:List V):St:=vs.map some++List.replicate (N.length-vs.length) none
def Yx (CX:CXT)(P:Ac)(w:Ah)(K:Aa)(mg:Str->Option Ag)(base:Heap)(N:List Str)(qual:Str)(scope:Scope)(f:Aj)(cd:Ag)(A:Ae)(outer:List Env)(s:Ab)(H:Hp)(E:XK):Cx where
 prog:=P
 w:=w
 K:=K
 mg:=mg
 base:=base
 A:=A.deeper (envOfC qual scope s.heap.objs.size f cd)
 N:=N
 s₀:=s
 H₀:=H
 env:=envOfC qual scope s.heap.objs.size f cd
 outer:=outer
 stack:=envOfC qual scope s.heap.objs.size f cd::outer
 ex:=[]
 calm:=true
 fn:=λ_=>true
 pn:=[]
 xe:=λe s'=>wpAny (model P w) (A.deeper (envOfC qual scope s.heap.objs.size f cd)) (leaving (envOfC qual scope s.heap.objs.size f cd) e) (λ_ s''=>CX outer H s E e s'') (λe' s''=>CX outer H s E e' s'') s'
theorem qy8 {sc:Scope}{n:Nat}{x:Str}(h:sc.names.lookup x=some .cell):∃c,(cellsFrom n sc.names []).lookup x=some c:=by have q:=W.cellsFrom_some sc.names n [] (.inl h);exact Option.isSome_iff_exists.mp q
theorem wyw {CX:CXT}{P:Ac}{w:Ah}{K:Aa}{mg:Str->Option Ag}{base:Heap}{N ps:List Str}{qual:Str}{scope:Scope}{f:Aj}{cd:Ag}{A:Ae}{outer:List Env}{s s1:Ab}{H:Hp}{E:XK}{us:List Ag}{vs:List V}
  (S:FnScope N ps scope) (hd:A.handled=none) (e0:Env0 P w K mg base A outer s H) (hl:vs.length=ps.length) (r:Vals vs us)
  (x:InCallC s s.heap.objs.size (bindL (envOfC qual scope s.heap.objs.size f cd).kindOf (ps.zip us) λ_=>none) (cellsFrom (s.heap.objs.size+1) scope.names []) (bindC (envOfC qual scope s.heap.objs.size f cd).kindOf (ps.zip us) λ_=>none) s1) :
  Inv (Yx CX P w K mg base N qual scope f cd A outer s H E) [] (W1 N vs) H s1:=by
 have ab:ps.length<=N.length:=by have:=cK List.length S.pre;rw[bg]at this;lia
 obtain⟨h1,tk,rfl,W⟩:=x.done;have J:∀b:Aj,b∉(Yx CX P w K mg base N qual scope f cd A outer s H E).ex:=λb z=>absurd (show b∈([]:List Aj) from z) (by simp);refine⟨⟨e0.mod,S.kind,rfl,rfl,aj _,λy z c h1 h2=>?_,λy D=>?_,λy c _ h=>?_,λ_=>hd,Around.frames_deeper e0.frames,.inr ⟨rfl,rfl⟩,λb z=>absurd z (J b),e0.bs,e0.bsz,λb _ _=>J b,λb z=>absurd z (J b),e0.funs,e0.frf⟩,
  rfl,e0.bare,Un.kept W,⟨_,x.toInCall.ns,λi y v h1 h2 h3=>?_⟩,λy c h=>⟨_,x.cell y c h⟩,e0.hok.fresh (aj _),λy c h=>?_,λp F=>absurd (show p∈([]:List (Aj×Obj)) from F) (by simp),e0.hok.kept W,?_⟩
 .exact name_of_addr x.apart (dM h1) (dM h2)
 .have D:scope.names.lookup y=some .cell\/scope.names.lookup y=some .free:=D;rcases D with D|D
  .exact qy8 D
  .exact absurd rfl (S.nofree _ (dM D))
 .exact br (x.above y c (dM h))
 .have hi:i<vs.length:=by
   unfold W1 at h2;by_cases hi:i<vs.length
   .exact hi
   .rw[aA (by simpa using hi)]at h2;rw[List.getElem?_replicate]at h2;split at h2 <;> cases h2
  have ha:vs[i]?=some v:=by
   unfold W1 at h2;rw[aT (by simpa using hi),ax]at h2;cases e:vs[i]? with
   |none=>rw[e]at h2;cases h2
   |some a=>rw[e]at h2;cases h2;rfl
  obtain⟨u,U,Z⟩:=r.get ha;have F:ps[i]?=some y:=by rw[<-S.pre,iU ⋯];exact h1
  have L:ps.Nodup:=by rw[<-S.pre];exact S.nd.sublist (List.take_sublist _ _)
  refine⟨u,Z,?_⟩;rcases S.par y (aC F) with k|k
  .exact .inl ⟨k,qv0 L F U k⟩
  .obtain⟨c,e⟩:=qy8 (n:=s.heap.objs.size+1) k;refine .inr ⟨.inl k,c,e,?_⟩;have q:=x.cell y c e;rw[qkv L F U (by show scope.names.lookup y≠_;rw[k];decide)]at q;exact q
 .exact e0.hok.fresh (br (x.above y c (dM h)))
 .unfold W1;show _=N.length;rw[ar,ag,List.length_replicate];lia
theorem xwg {CX:CXT}{P:Ac}{w:Ah}{K:Aa}{mg:Str->Option Ag}{base:Heap}{k:Nat}{f:Aj}{name qual:Str}{params:Arguments}{body:List Stmt}{scope:Scope}{dV kV doc pm cdv ct oc:Ag}{an od:Option Aj}
  {osl:Array (Option Ag)} {N ps:List Str} {sp:Sp} (lk:K.lookup f=some ⟨oc,od,.func (W.fnOf name qual params body scope dV kV doc pm an cdv ct),osl⟩) (hcd:W.codeIn K cdv qual=true) (S:FnScope N ps scope)
  (len:∀vs H Q E,sp vs H Q E->vs.length=ps.length)
  (hbody:∀(A:Ae) (outer:List Env) (s:Ab) (H:Hp) (vs:List V) (Q:VK) (E:XK),Room k (A.deeper (envOfC qual scope s.heap.objs.size f cdv))->sp vs H Q E ->
   ∃t,PSs (Yx CX P w K mg base N qual scope f cdv A outer s H E) body t/\t { nx:=λ_ H'=>Q .non H',rt:=Q } (W1 N vs) H) :
  FnOk P w K mg base CX (k+1) f (W.fnOf name qual params body scope dV kV doc pm an cdv ct) ps sp:=by
 refine⟨len,λA outer s H as us vs Q E U D hb r ab=>?_⟩;have hl:=len _ _ _ _ ab;have KX:K.In s.heap:=D.mod.kin.keeps λb o e=>(D.bs b o e).1;have ad:s.heap.NoLimit:=D.mod.nolimit.keeps λb o e=>(D.bs b o e).1;have am:∀y∈ps.zip us,scope.names.lookup y.1=some .local\/(scope.names.lookup y.1=some .cell/\((cellsFrom (s.heap.objs.size+1) scope.names []).lookup y.1).isSome=true):=λ⟨n,v⟩ hy=>by
  rcases S.par n (jE hy).1 with q|q
  .exact .inl q
  .exact .inr ⟨q,W.cellsFrom_some _ _ _ (.inl q)⟩
 refine codeAny_call_function U.depth (KX _ _ lk) rfl S.co S.gen rfl (W.codeRec_of KX hcd) (hb _ _ _ _ ?_);refine wpAny_newFunctionEnv_cells S.kind am λap he Z x=>?_;subst he;refine⟨ad.keeps x.toInCall.keep,codeAny_func ?_⟩;obtain⟨t,ht,hq⟩:=hbody A outer s H vs Q E (U.deeper _) ab;have I:Inv (Yx CX P w K mg base N qual scope f cdv A outer s H E) [] (W1 N vs) H Z:=wyw S U.hd D hl r x;refine aZ (ht [] Z (W1 N vs) H _ I hq) (λfl s' hs=>?_) λe s' hs=>hs;have ac:∀ {F:St} {H':Hp} {v:V} {u:Ag},Inv (Yx CX P w K mg base N qual scope f cdv A outer s H E) [] F H' s'->RelV v u->Q v H'->CE outer P w H s Q u s' :=
  λ{F H' v u} J L q=>⟨v,H',J.os,J.bare,J.base,J.hok,L,q⟩
 cases fl with
 |ret u =>
  obtain⟨v,F,H',J,L,q⟩:=hs;exact ac J L q
 |next =>
  obtain⟨F,H',J,q⟩:=hs;exact ac (v:=V.non) (u:=Value.none) J rfl q
 |brk =>
  obtain⟨_,_,_,q⟩:=hs;exact False.elim q
 |cont =>
  obtain⟨_,_,_,q⟩:=hs;exact False.elim q
section
variable {X:Cx}{x:Str}{p pos:Pos}{e:Expr}{es:List Expr}{t:TA}{id T:String}{r:List V->Hp->VK->Prop}
def tCB (r:List V->Hp->VK->Prop)(t:TA):TE:=λσ H Q=>t σ H λvs H1=>r vs H1 Q
theorem wn (hc:kr X (.builtin id) r)(hg:Gl X x)(hm:X.mg x=none)(hv:bootBuiltins x=some (.builtin id))(ha:PA X (e::es) t)(hn:autoParam (x ≠ "__name__") aU2._auto_1)(hdb:autoParam ((x==("__debug__" : Str))=false) aU1._auto_1)
  (he:autoParam (starEach (e::es) X.env=(false,eval e X.env)::starEach es X.env) aU4._auto_1) (hpl:autoParam ((backTo pos (starEach es X.env)).any (·.1)=false) aU4._auto_1):PE X (.Call (.Name x p) (e::es) [] pos) (tCB r t):=by
 intro pins s σ H Q I h;refine dk (j3 I hg hm hv ?_ hn hdb);exact PyProof.Rows.callWith_builtin1 (thn (ha pos pins s σ H _ I h) λus s1 ⟨vs,H1,I1,r1,q1⟩=>hc pins s1 σ H1 vs us Q I1 r1 q1) he hpl
theorem Ys (hc:kr X (.type T) r)(hg:Gl X x)(hm:X.mg x=none)(hv:bootBuiltins x=some (.type T))(ha:PA X (e::es) t)(hn:autoParam (x ≠ "__name__") aU2._auto_1)(hdb:autoParam ((x==("__debug__" : Str))=false) aU1._auto_1)
  (he:autoParam (starEach (e::es) X.env=(false,eval e X.env)::starEach es X.env) aU4._auto_1) (hpl:autoParam ((backTo pos (starEach es X.env)).any (·.1)=false) aU4._auto_1):PE X (.Call (.Name x p) (e::es) [] pos) (tCB r t):=by
 intro pins s σ H Q I h;refine dk (j3 I hg hm hv ?_ hn hdb);exact bW (thn (ha pos pins s σ H _ I h) λus s1 ⟨vs,H1,I1,r1,q1⟩=>hc pins s1 σ H1 vs us Q I1 r1 q1) he hpl
end
end L2
namespace HT
open PySem PyProof.Rows
def lexLt:List Int->List Int->Bool
 |[],[]=>false
 |[],_::_=>true
 |_::_,[]=>false
 |x::xs,y::ys=>if x=y then lexLt xs ys else decide (x<y)
theorem lexLt_cons (x y:Int)(xs ys:List Int):lexLt (x::xs) (y::ys)=if x=y then lexLt xs ys else decide (x<y):=rfl
theorem qz6:lexLt [] []=false:=rfl
theorem qx8 (y:Int)(ys:List Int):lexLt [] (y::ys)=true:=rfl
theorem qx2 (x:Int)(xs:List Int):lexLt (x::xs) []=false:=rfl
theorem xxx (A:Ae)(s:Ab)(a:Int)(t:Tok)(c:Int)(u:Tok):∃e,SeqAt.EqAt A s (.int a t) (.int c u) e/\(e=true↔a=c) :=
 ⟨(a==c),SeqAt.EqAt.int_int a t c u,by simp⟩
theorem xq2 (A:Ae)(s:Ab)(a:Int)(t:Tok)(c:Int)(u:Tok)(prog:Ac)(w:Ah)(E:Ag->Ab->Prop)(Q:Ag->Ab->Prop)(h:Q (.bool (decide (a<c))) s) :
  wpAny (model prog w) A (richCompare .Lt (.int a t) (.int c u)) Q E s :=
 (PyProof.Rows.lt_int h:wpAny (model prog w) A (compareOp .Lt (.int a t) (.int c u)) Q E s)
section
open PySem.SeqAt
open PySem.AutoSeq1 (wpAny_loadPart')
open PySem.MeetsSeq PySem.MeetsSeq2 PySem.MeetsSeq3
theorem qvz (l b:Aj)(items items2:Array Ag)(n n2:Nat)(dd dd2:Option Aj)(sl sl2:Array (Option Ag))(ns ms:List Int)(hi:IntsAre items.toList ns)(hj:IntsAre items2.toList ms) :
  Meets (Builtin.«tuple.__lt__» ⟨[.ref l,.ref b],[]⟩)
   (λ_ R s=>s.heap.get? l=some { cls:=.type "tuple",dict:=dd,data:=.seq items n,slots:=sl }/\s.heap.get? b=some { cls:=.type "tuple",dict:=dd2,data:=.seq items2 n2,slots:=sl2 } /\
    R (.ok (.ret (.bool (lexLt ns ms)))) s) :=
 .of_wp λprog w A R s h=>by
  obtain⟨hp,g,d,tk,os⟩:=s;obtain⟨hl,hb,h⟩:=h;have f2:=AutoSeq1.sub_tuple_tuple;have z1:items.size=ns.length:=by rw[<-hi.length];simp
  have z2:items2.size=ms.length:=by rw[<-hj.length];simp
  wp_walk using wpAny_loadPart' hl,wpAny_loadPart' hb,gD _ (λrest b s'=>b.1=none/\s'=⟨hp,g,d,tk,os⟩/\∃(vs ws:List Ag) (ns' ms':List Int),rest=vs.zip ws /\
   IntsAre vs ns'/\IntsAre ws ms'/\ns'.length+items2.size=ms'.length+items.size/\R (.ok (.ret (.bool (lexLt ns' ms')))) ⟨hp,g,d,tk,os⟩) _
  case turn =>
   rintro⟨y,x⟩ rest b s' ⟨hb',rfl,vs,ws,ns',ms',hz,hvi,hwi,hlen,hR⟩;cases hvi with
   |nil=>rw[List.zip_nil_left]at hz;cases hz
   |cons a t hvi' =>
    cases hwi with
    |nil=>rw[List.zip_nil_right]at hz;cases hz
    |cons c u hwi' =>
     rw[ie]at hz;injection hz with hyx hrest
     injection hyx with hy hx
     subst hy hx;rw[lexLt_cons]at hR;simp only[aJ]at hlen;obtain⟨e,he,hiff⟩:=xxx A.in1 ⟨hp,g,d,tk,os⟩ a t c u;refine aa (he prog w _ _ ?_);cases e with
     |true =>
      rw[av (hiff.mp rfl)]at hR;wp_walk;exact⟨rfl,rfl,_,_,_,_,hrest,hvi',hwi',⋯,hR⟩
     |false =>
      rw[ao (λq=>absurd (hiff.mpr q) aF)]at hR;have hri:=xq2 A.in1 ⟨hp,g,d,tk,os⟩ a t c u prog w;wp_walk using hri;exact⟨_,rfl,by simpa using hR⟩
  case fin =>
   rintro⟨b1,b2⟩ s' ⟨hb',rfl,vs,ws,ns',ms',hz,hvi,hwi,hlen,hR⟩;simp only at hb';subst hb';have hv:lexLt ns' ms'=decide (items.size<items2.size):=by
    cases hvi with
    |nil =>
     cases hwi with
     |nil =>
      simp only[df]at hlen;rw[qz6];exact(ba ⋯).symm
     |cons c u hw =>
      simp only[df,aJ]at hlen;rw[qx8];exact(aR ⋯).symm
    |cons a t hv =>
     cases hwi with
     |nil =>
      simp only[df,aJ]at hlen;rw[qx2];exact(ba ⋯).symm
     |cons c u hw =>
      rw[ie]at hz;cases hz
   rw[hv]at hR;wp_walk;exact⟨_,rfl,by simpa [Builtin.Tuple.tupleCompareSizes] using hR⟩
  case h =>
   exact⟨rfl,rfl,items.toList,items2.toList,ns,ms,rfl,hi,hj,⋯,h⟩
end
section
variable {prog:Ac}{w:Ah}{A:Ae}{E:Ag->Ab->Prop}{s:Ab}
theorem lt_tupInts {l b:Aj}{items items2:Array Ag}{ns ms:List Int}{Q:Ag->Ab->Prop}(hl:IsTup s.heap l items)(hb:IsTup s.heap b items2)(hi:IntsAre items.toList ns)(hj:IntsAre items2.toList ms)
  (hu:A.units<cLine) (h:Q (.bool (lexLt ns ms)) s):wpAny (model prog w) A (compareOp .Lt (.ref l) (.ref b)) Q E s:=by
 obtain⟨⟨ap,dd,am,sl⟩,J,Z,n,U⟩:=id hl;obtain⟨⟨an,ac,ad,ab⟩,D,W,n2,L⟩:=id hb;simp only at Z U W L;subst Z U W L;exact richCompare_meets_room (op:=.Lt) ⟨_,J,rfl⟩ ⟨_,D,rfl⟩ PySem.F.slot_tuple_lt PySem.F.entry_tuple_lt (PySem.F.args_tuple_lt_2 _ _) (qvz l b items items2 n n2 dd ac sl ab ns ms hi hj)
  ⟨J,D,show Value.bool (lexLt ns ms)≠Value.notImplemented/\Q (.bool (lexLt ns ms)) s from ⟨(λx=>nomatch x),h⟩⟩ hu
theorem cat_tup {t b:Aj}{vs ws:List Ag}{Q:Ag->Ab->Prop}(ht:IsTup s.heap t vs.toArray)(hb:IsTup s.heap b ws.toArray)(hv:vs≠[])
  (h1:ws=[]->Q (.ref t) s) (h2:ws≠[]->Q (.ref s.heap.objs.size) { s with heap:=s.heap.push { cls:=.type "tuple",data:=.seq (vs++ws).toArray } })
  (hsz:vs.length+ws.length<=sizeLine):wpAny (model prog w) A (binaryOp .Add (.ref t) (.ref b)) Q E s:=by
 obtain⟨⟨cls,dd,data,L⟩,F,hc,n,Z⟩:=id ht;obtain⟨⟨am,ac,ad,J⟩,D,ab,U,W⟩:=id hb;simp only at hc Z ab W;subst hc Z ab W;have e:vs.toArray++ws.toArray=(vs++ws).toArray:=by simp
 by_cases hw:ws=[]
 .exact concat_meets ⟨_,F,rfl⟩ ⟨_,D,rfl⟩ iZ seq_tuple_add ge fV (fF _ _)
   (tuple_addW1 t b vs.toArray ws.toArray n U dd ac L J (by simpa using hv) (by simp[hw])) ⟨F,D,h1 hw⟩
 .refine concat_meets ⟨_,F,rfl⟩ ⟨_,D,rfl⟩ iZ seq_tuple_add ge fV (fF _ _)
   (tuple_addW2 t b vs.toArray ws.toArray n U dd ac L J (by simpa using hv) (by simpa using hw) (by rw[aq,aq];exact hsz)) ⟨F,D,?_⟩
  rw[e];exact h2 hw
def sIx (n d:Nat):Option Int->Nat
 |none=>d
 |some v=>if v<0 then(v+(n:Int)).toNat else min v.toNat n
theorem sIx_nat (n d k:Nat):sIx n d (some (k:Int))=min k n:=by show(if(k:Int)<0 then((k:Int)+(n:Int)).toNat else min (k:Int).toNat n)=min k n;rw[ao ⋯,bH]
end
end HT
namespace L2
open PySem PySem.Spec PyProof.Rows
abbrev TO:=St->Hp->(Option Int->Hp->Prop)->Prop
def PO (X:Cx)(e:Option Expr)(t:TO):Prop :=
 ∀(pins:List (Aj×Obj)) (s:Ab) (σ:St) (H:Hp) (Q:Option Int->Hp->Prop),Inv X pins σ H s->t σ H Q ->
  wpAny (model X.prog X.w) X.A (evalPart e X.env) (λu s'=>∃o H',Inv X pins σ H' s'/\IsPart u o/\Q o H') X.xe s
def tPart (t:TE):TO:=λσ H Q=>t σ H λx H1=>∃i,x=.int i/\Q (some i) H1
theorem jw {ns:List Int}:∀ {us:List Ag},Vals (ns.map V.int) us->IntsAre us ns:=by
 induction ns with
 |nil=>intro us r;rw[d9]at r;cases r;exact .nil
 |cons n ns ih =>
  intro us r;rw[aM]at r;cases r with
  |cons r1 r2 =>
   obtain⟨t,e⟩:=r1;subst e;exact .cons n t (ih r2)
section
variable {X:Cx}{e:Expr}{te:TE}{lo hi:Option Expr}{tl th:TO}{pos p2:Pos}
theorem wvv (h:PE X e te):PO X (some e) (tPart te):=by intro pins s σ H Q I D;rw[evalPart_some];refine thn (h pins s σ H _ I D) λu s1 ⟨x,H1,I1,r1,q1⟩=>?_;obtain⟨i,rfl,q⟩:=q1;obtain⟨t,rfl⟩:=r1;exact⟨some i,H1,I1,.int i t,q⟩
def SlR (X:Cx)(r:V->Option Int->Option Int->Hp->VK->Prop):Prop :=
 ∀(pins:List (Aj×Obj)) (s:Ab) (σ:St) (H:Hp) (x:V) (v vl vu:Ag) (lo hi:Option Int) (sl:Aj) (Q:VK),Inv X pins σ H s->RelV x v->s.heap.IsSliceOf sl vl vu .none->IsPart vl lo->IsPart vu hi->r x lo hi H Q ->
  ∃T id,typeLookup (.type T) "__getitem__" = pure (some (.builtin id))/\s.TypeIs v T/\wpAny (model X.prog X.w) X.A (getItem v (.ref sl)) (EP X pins σ Q) X.xe s
def tSl (r:V->Option Int->Option Int->Hp->VK->Prop)(te:TE)(tl th:TO):TE:=λσ H Q=>te σ H λx H1=>tl σ H1 λl H2=>th σ H2 λu H3=>r x l u H3 Q
theorem wu6 {r:V->Option Int->Option Int->Hp->VK->Prop}(hr:SlR X r)(he:PE X e te)(hl:PO X lo tl)(hu:PO X hi th):PE X (.Subscript e (.Slice lo hi none p2) pos) (tSl r te tl th):=by intro pins s σ H Q I h;refine Subscript_ (thn (he pins s σ H _ I h) λv s1 ⟨x,H1,I1,r1,q1⟩=>?_);refine wpAny_Slice (thn (hl pins s1 σ H1 _ I1 q1) λvl s2 ⟨l,H2,I2,pl,q2⟩=>thn (hu pins s2 σ H2 _ I2 q2) λvu s3 ⟨u,H3,I3,pu,q3⟩=>?_);rw[evalPart_none];refine ai ?_;have J:Inv X pins σ H3 { s3 with heap:=s3.heap.push { cls:=.type "slice",data:=.fields #[vl,vu,.none] } }:=I3.kept (t':=s3.toks) λb L q=>ah _ q;obtain⟨T,id,hT,D,F⟩:=hr pins { s3 with heap:=s3.heap.push { cls:=.type "slice",data:=.fields #[vl,vu,.none] } } σ H3 x v vl vu l u s3.heap.objs.size Q J r1 (Heap.IsSliceOf.new ..) pl pu q3;show wpAny (model X.prog X.w) X.A (subscriptTail e (.Slice lo hi none p2) v (.ref s3.heap.objs.size)) (EP X pins σ Q) X.xe { s3 with heap:=s3.heap.push { cls:=.type "slice",data:=.fields #[vl,vu,.none] } };exact tail_any (ops:=[.ref s3.heap.objs.size,v]) D hT F (by with_unfolding_all rfl)
def qu6 (xs:List V)(lo hi:Option Int):List V:=(xs.drop (HT.sIx xs.length 0 lo)).take (HT.sIx xs.length xs.length hi-HT.sIx xs.length 0 lo)
theorem qy6 (xs:List V)(lo hi:Option Int):(qu6 xs lo hi).length<=xs.length:=by unfold qu6;rw[bg,bY];lia
def rLtT (K:Aa):R2:=λx y H Q=>∃a b ns ms,x=.ref a/\y=.ref b/\SqT K H a (ns.map V.int)/\SqT K H b (ms.map V.int)/\Q (.bl (HT.lexLt ns ms)) H
theorem op_ltT (hu:X.A.units<cLine):OpR X (compareOp .Lt) (rLtT X.K):=by intro pins s σ H x y v u Q I J F h;obtain⟨a,b,ns,D,rfl,rfl,ha,hb,q⟩:=h;cases J;cases F;obtain⟨ab,U,W,_⟩:=I.tuple ha;obtain⟨Z,L,p2,_⟩:=I.tuple hb;have i1:IntsAre ab.toArray.toList ns:=jw U;have i2:IntsAre Z.toArray.toList D:=jw L;exact HT.lt_tupInts W p2 i1 i2 hu ⟨.bl (HT.lexLt ns D),H,I,rfl,q⟩
def rCatT (K:Aa):R2:=λx y H Q=>∃a b xs ys,x=.ref a/\y=.ref b/\SqT K H a xs/\SqT K H b ys/\xs≠[]/\xs.length+ys.length<=sizeLine /\
 (ys=[]->Q (.ref a) H)/\(ys≠[]->∀p,H p=none->Q (.ref p) (upd H p (.tup (xs++ys))))
theorem Vals.nil_iff {xs:List V}{us:List Ag}(r:Vals xs us):us=[]↔xs=[]:=by
 cases r with
 |nil=>simp
 |cons _ _=>simp
theorem xxd:OpR X (binaryOp .Add) (rCatT X.K):=by intro pins s σ H x y v u Q I U L h;obtain⟨a,b,xs,ys,rfl,rfl,ha,hb,hx,J,Z,W⟩:=h;cases U;cases L;obtain⟨ac,F,p1,_⟩:=I.tuple ha;obtain⟨ab,D,p2,_⟩:=I.tuple hb;refine HT.cat_tup p1 p2 (λz=>hx (F.nil_iff.mp z)) (λz=>⟨.ref a,H,I,rfl,Z (D.nil_iff.mp z)⟩) (λz=>?_) (by rw[<-F.length,<-D.length];exact J);refine⟨.ref s.heap.objs.size,_,I.laid (t':=s.toks) (o:=.tup (xs++ys)) (λb ob q=>ah _ q) (aj _) ?_,rfl,W (λw=>z (D.nil_iff.mpr w)) _ (I.hok.fresh (aj _))⟩;exact⟨by rw[ar];exact J,_,F.append D,IsTup.new _ _⟩
end
def ixN (n:Nat)(i:Int):Option Nat:=if 0<=i then(if i<n then some i.toNat else none) else if -(n:Int)<=i then some (i+n).toNat else none
def atI {α:Type}(xs:List α)(i:Int):Option α:=(ixN xs.length i).bind λj=>xs[j]?
theorem wzr {n:Nat}{i:Int}{j:Nat}(h:ixN n i=some j):seqIndex? i n=some j/\j<n/\-(n:Int)<=i/\i<n:=by
 unfold ixN at h;by_cases h0:0<=i
 .rw[av h0]at h;by_cases h1:i<n
  .rw[av h1]at h;have e:i.toNat=j:=au h;exact⟨by rw[seqIndex_of h0 h1,e],⋯,⋯,h1⟩
  .rw[ao h1]at h;cases h
 .rw[ao h0]at h;by_cases h1:-(n:Int)<=i
  .rw[av h1]at h;have e:(i+n).toNat=j:=au h;exact⟨by rw[seqIndex_neg ⋯ h1,e],⋯,h1,⋯⟩
  .rw[ao h1]at h;cases h
theorem wzt {α:Type}{xs:List α}{i:Int}{v:α}(h:atI xs i=some v):∃j,seqIndex? i xs.length=some j/\xs[j]?=some v/\j<xs.length/\-(xs.length:Int)<=i/\i<xs.length:=by
 unfold atI at h;cases e:ixN xs.length i with
 |none=>rw[e]at h;cases h
 |some j =>
  rw[e]at h;obtain⟨h1,h2,F,D⟩:=wzr e;exact⟨j,h1,h,h2,F,D⟩
theorem jz {α:Type}{xs:List α}{j:Nat}{v:α}(h:xs[j]?=some v):atI xs (j:Int)=some v:=by
 have D:j<xs.length:=(ak.mp h).1;have e:ixN xs.length (j:Int)=some j:=by unfold ixN;rw[av ⋯,av ⋯];simp
 unfold atI;rw[e];exact h
theorem Zd {α:Type}(xs:List α)(v:α):atI (xs++[v]) (-1)=some v:=by
 have D:(xs++[v]).length=xs.length+1:=by simp
 have e:ixN (xs++[v]).length (-1)=some xs.length:=by unfold ixN;rw[D,ao ⋯,av ⋯];congr 1;lia
 unfold atI;rw[e];show(xs++[v])[xs.length]?=some v;simp
def xz2 (b:Expr):Prop:=∀o i,subscripted b false o i=operate [o,i] (getItem o i)
def IxR (X:Cx)(r:R2):Prop :=
 ∀(value slice:Expr) (pins:List (Aj×Obj)) (s:Ab) (σ:St) (H:Hp) (x y:V) (v u:Ag) (Q:VK),Inv X pins σ H s->RelV x v->RelV y u->r x y H Q ->
  subscripted slice false v u=operate [v,u] (getItem v u)->wpAny (model X.prog X.w) X.A (subscriptTail value slice v u) (EP X pins σ Q) X.xe s
def MtR (X:Cx)(id:String)(r:V->List V->Hp->VK->Prop):Prop :=
 ∀(pins:List (Aj×Obj)) (s:Ab) (σ:St) (H:Hp) (x:V) (xs:List V) (v:Ag) (us:List Ag) (Q:VK),Inv X pins σ H s->RelV x v->Vals xs us->r x xs H Q ->
  wpAny (model X.prog X.w) X.A (call (.builtin id) (v::us)) (EP X pins σ Q) X.xe s
section
variable {X:Cx}{a b:Expr}{ta tb:TE}{pos:Pos}
theorem zu {r:R2}(hr:IxR X r)(ha:PE X a ta)(hb:PE X b tb)(hs:xz2 b):PE X (.Subscript a b pos) (tOp r ta tb):=by intro pins s σ H Q I h;exact Subscript_ (binT ha hb I h λv u s2 x y H2 J F D q=>hr a b pins s2 σ H2 x y v u Q J F D q (hs _ _))
def wwd (K:Aa):R2:=λx y H Q=>∃p xs i v,x=.ref p/\y=.int i/\SqL K H p xs/\atI xs i=some v/\Q v H
def rIxT (K:Aa):R2:=λx y H Q=>∃p xs i v,x=.ref p/\y=.int i/\SqT K H p xs/\atI xs i=some v/\Q v H
theorem zg:IxR X (wwd X.K):=by
 intro value ac pins s σ H x y v u Q I W U h hs;obtain⟨p,xs,i,z,rfl,rfl,hq,he,q⟩:=h;cases W;obtain⟨t,rfl⟩:=U;obtain⟨ab,r,D,hz⟩:=I.list hq;obtain⟨j,h1,h2,h3,h4,h5⟩:=wzt he;obtain⟨w,L,Z⟩:=r.get h2;have hl:=r.length;have hn:=qwg;have J:EP X pins σ Q w s:=⟨z,H,I,Z,q⟩;by_cases h0:0<=i
 .have F:i.toNat=j:=by rw[seqIndex_of h0 h5]at h1;exact au h1
  exact item_listR D.isList h0 ⋯ (by rw[F];simpa using L) J hs
 .have F:(i+(ab.toArray.size:Int)).toNat=j:=by rw[seqIndex_neg ⋯ h4]at h1;rw[aq,<-hl];exact au h1
  exact subscriptTail_builtinR (x:=w) D.isList.typeIs slot_list_getitem.lookup
   (wpAny_getItem_list_neg (Q:=λr s'=>r=w/\EP X pins σ Q r s') D.isList ⋯ (by rw[aq] <;> lia) ⋯ (by rw[F];simpa using L) ⟨rfl,J⟩) hs
theorem qwt:IxR X (rIxT X.K):=by
 intro value ac pins s σ H x y v u Q I J F h hs;obtain⟨p,xs,i,z,rfl,rfl,U,Z,q⟩:=h;cases J;obtain⟨t,rfl⟩:=F;obtain⟨ad,r,D,hz⟩:=I.tuple U;obtain⟨j,h1,h2,h3,h4,h5⟩:=wzt Z;obtain⟨w,ew,L⟩:=r.get h2;have W:=r.length;have hn:=qwg;have ab:EP X pins σ Q w s:=⟨z,H,I,L,q⟩;exact subscriptTail_builtinR (x:=w) D.typeIs slot_tuple_getitem.lookup
  (getItem_tuple (j:=j) (Q:=λr s'=>r=w/\EP X pins σ Q r s') D ⋯ ⋯ (by rw[aq,<-W];exact h1) (by simpa using ew) ⟨rfl,ab⟩) hs
theorem wwb (its:List Ag)(n j:Nat)(u:Ag):Obj.mapSeq (·.setIfInBounds j u) { cls:=.type "list",data:=.seq its.toArray n }={ cls:=.type "list",data:=.seq (its.set j u).toArray n }:=by simp[Obj.mapSeq]
theorem Inv.lst {pins:List (Aj×Obj)}{σ:St}{H:Hp}{s:Ab}{p:Aj}{xs:List V}(I:Inv X pins σ H s)(h:H p=some (.lst xs)) :
  ∃(its:List Ag) (n:Nat),Vals xs its/\s.heap.get? p=some { cls:=.type "list",data:=.seq its.toArray n }/\xs.length<=sizeLine:=by
 obtain⟨z,its,n,r,e⟩:=I.hok p _ h;exact⟨its,n,r,e,z⟩
theorem Inv.lstUpd {pins:List (Aj×Obj)}{σ:St}{H:Hp}{s:Ab}{p:Aj}{xs ys:List V}{its its':List Ag}{n n':Nat}{f:Obj->Obj}(I:Inv X pins σ H s)(h:H p=some (.lst xs))
  (ho:s.heap.get? p=some { cls:=.type "list",data:=.seq its.toArray n }) (hf:f { cls:=.type "list",data:=.seq its.toArray n }={ cls:=.type "list",data:=.seq its'.toArray n' }) (r:Vals ys its') (hz:ys.length<=sizeLine) (t:Nat) :
  Inv X pins σ (upd H p (.lst ys)) { s with heap:=s.heap.update p f,toks:=t }:=by
 have e:(s.heap.update p f).get? p=some { cls:=.type "list",data:=.seq its'.toArray n' }:=by rw[cM f ho (by rw[hf] <;> rfl),hf]
 refine I.write (x:=p) (e:=p) (by rw[h];trivial) (.inl rfl) (λb u D q=>(cI _ _ (dY D)).trans q) ⟨_,e⟩ ?_;exact⟨hz,its',n',r,e⟩
def rSetL:V->V->V->Hp->(Hp->Prop)->Prop:=λo i v H Q=>∃p xs k j,o=.ref p/\i=.int k/\H p=some (.lst xs)/\ixN xs.length k=some j/\Q (upd H p (.lst (xs.set j v)))
theorem wqj:PSet X rSetL:=by
 intro pins s σ H o i v ov iv u Q I ro ri rv h;obtain⟨p,xs,k,j,rfl,rfl,U,hj,q⟩:=h;cases ro;obtain⟨t,rfl⟩:=ri;obtain⟨L,n,r,D,hz⟩:=I.lst U;obtain⟨h1,h2,h3,Z⟩:=wzr hj;have F:=r.length;have hn:=qwg;have I':Inv X pins σ (upd H p (.lst (xs.set j v))) { s with heap:=s.heap.update p (Obj.mapSeq (·.setIfInBounds j u)) } :=
  I.lstUpd U D (wwb L n j u) (r.set rv j) (by rw[jF];exact hz) s.toks
 by_cases h0:0<=k
 .have J:k.toNat=j:=by rw[seqIndex_of h0 Z]at h1;exact au h1
  exact W.ki_setAt D h0 ⋯ (by rw[aq,<-F];exact Z) (by rw[J];exact⟨_,I',q⟩)
 .have J:(k+(L.toArray.size:Int)).toNat=j:=by rw[seqIndex_neg ⋯ h3]at h1;rw[aq,<-F];exact au h1
  exact W.ki_setBack D ⋯ (by rw[aq,<-F];exact h3) ⋯ (by rw[J];exact⟨_,I',q⟩)
theorem qjs (lo hi:Option Int)(n:Nat):(sliceBounds lo hi none n).1=((HT.sIx n 0 lo:Nat):Int)/\(sliceBounds lo hi none n).2.1=((HT.sIx n n hi:Nat):Int)/\(sliceBounds lo hi none n).2.2=1:=by
 refine⟨?_,?_,rfl⟩
 .cases lo with
  |none=>simp[sliceBounds,HT.sIx]
  |some i =>
   simp only[sliceBounds,HT.sIx,Option.getD_none,show(1:Int)>0 by decide,cY];by_cases h:i<0
   .simp only[h,cY] <;> lia
   .simp only[h,bB] <;> lia
 .cases hi with
  |none=>simp[sliceBounds,HT.sIx]
  |some i =>
   simp only[sliceBounds,HT.sIx,Option.getD_none,show(1:Int)>0 by decide,cY];by_cases h:i<0
   .simp only[h,cY] <;> lia
   .simp only[h,bB] <;> lia
theorem qzf (its:List Ag)(lo hi:Option Int):slicePick its.toArray lo hi none=((its.drop (HT.sIx its.length 0 lo)).take (HT.sIx its.length its.length hi-HT.sIx its.length 0 lo)).toArray:=by obtain⟨h1,h2,D⟩:=qjs lo hi its.toArray.size;unfold slicePick;rw[h1,h2,D];simp only[sliceRange_one,pick_run,aq] <;> rfl
def rSlL (K:Aa):V->Option Int->Option Int->Hp->VK->Prop:=λx lo hi H Q=>∃a xs,x=.ref a/\SqL K H a xs/\∀p,H p=none->Q (.ref p) (upd H p (.lst (qu6 xs lo hi)))
theorem xxt:SlR X (rSlL X.K):=by intro pins s σ H x v vl vu lo hi sl Q I F hs L J h;obtain⟨a,xs,rfl,W,q⟩:=h;cases F;obtain⟨ab,r,D,U⟩:=I.list W;have Z:=r.length;refine⟨"list",_,slot_list_getitem.lookup,D.isList.typeIs,?_⟩;refine wpAny_getItem_list_slice D.isList hs L J .none (by simp) ?_ (by rw[aq] <;> lia);rw[qzf,<-Z];refine⟨.ref s.heap.objs.size,_,I.laid (t':=s.toks) (o:=.lst (qu6 xs lo hi)) (λb ob q=>ah _ q) (aj _) ?_,rfl,q _ (I.hok.fresh (aj _))⟩;exact⟨bK (qy6 xs lo hi) U,_,0,(r.drop (HT.sIx xs.length 0 lo)).take (HT.sIx xs.length xs.length hi-HT.sIx xs.length 0 lo),az _ rfl⟩
def Z0:V->Bool
 |.non=>true
 |.bl _=>true
 |.int _=>true
 |.str _=>true
 |_=>false
def eqV:V->V->Bool
 |.non,.non=>true
 |.bl a,.bl b=>a==b
 |.bl a,.int b=>(if a then 1 else 0)==b
 |.int a,.bl b=>a==(if b then 1 else 0)
 |.int a,.int b=>a==b
 |.str a,.str b=>a==b
 |_,_=>false
theorem eqAt_V {A:Ae}{s:Ab}{y x:V}{u v:Ag}(ry:RelV y u)(rx:RelV x v)(fy:Z0 y=true)(fx:Z0 x=true):SeqAt.EqAt A s u v (eqV y x):=by
 cases y with
 |non =>
  cases ry;cases x with
  |non=>cases rx;exact SeqAt.EqAt.same _
  |bl b=>cases rx;exact SeqAt.EqAt.none_bool b
  |int b=>obtain⟨t,rfl⟩:=rx;exact SeqAt.EqAt.none_int b t
  |str b=>obtain⟨t,rfl⟩:=rx;exact SeqAt.EqAt.none_str b t
  |_=>exact absurd (show false=true from fx) aF
 |bl a =>
  cases ry;cases x with
  |non=>cases rx;exact SeqAt.EqAt.bool_none a
  |bl b=>cases rx;exact SeqAt.EqAt.bool_bool a b
  |int b=>obtain⟨t,rfl⟩:=rx;exact SeqAt.EqAt.bool_int a b t
  |str b=>obtain⟨t,rfl⟩:=rx;exact SeqAt.EqAt.bool_str a b t
  |_=>exact absurd (show false=true from fx) aF
 |int a =>
  obtain⟨D,rfl⟩:=ry;cases x with
  |non=>cases rx;exact SeqAt.EqAt.int_none a D
  |bl b=>cases rx;exact SeqAt.EqAt.int_bool a D b
  |int b=>obtain⟨t,rfl⟩:=rx;exact SeqAt.EqAt.int_int a D b t
  |str b=>obtain⟨t,rfl⟩:=rx;exact SeqAt.EqAt.int_str a D b t
  |_=>exact absurd (show false=true from fx) aF
 |str a =>
  obtain⟨D,rfl⟩:=ry;cases x with
  |non=>cases rx;exact SeqAt.EqAt.str_none a D
  |bl b=>cases rx;exact SeqAt.EqAt.str_bool a D b
  |int b=>obtain⟨t,rfl⟩:=rx;exact SeqAt.EqAt.str_int a D b t
  |str b=>obtain⟨t,rfl⟩:=rx;exact SeqAt.EqAt.str_str a D b t
  |_=>exact absurd (show false=true from fx) aF
 |_=>exact absurd (show false=true from fy) aF
def eqU (x:V)(u:Ag):Bool:=match u with
 |.none=>eqV .non x
 |.bool b=>eqV (.bl b) x
 |.int i _=>eqV (.int i) x
 |.str z _=>eqV (.str z) x
 |_=>false
theorem xxw {x y:V}{u:Ag}(r:RelV y u)(f:Z0 y=true):eqU x u=eqV y x:=by
 cases y with
 |non=>cases r;rfl
 |bl b=>cases r;rfl
 |int i=>obtain⟨t,rfl⟩:=r;rfl
 |str z=>obtain⟨t,rfl⟩:=r;rfl
 |_=>exact absurd (show false=true from f) aF
theorem qyk {x:V}:∀ {xs:List V} {us:List Ag},Vals xs us->xs.all Z0=true->us.any (eqU x)=xs.any λy=>eqV y x
 |_,_,.nil,_=>rfl
 |y::xs,u::us,.cons r t,f=>by rw[jU,bR]at f;rw[gI,gI,xxw r f.1,qyk t f.2]
theorem qxy {A:Ae}{s:Ab}{x:V}{v:Ag}(rx:RelV x v)(fx:Z0 x=true):∀ {xs:List V} {us:List Ag},Vals xs us->xs.all Z0=true->∀u∈us,SeqAt.EqAt A s u v (eqU x u)
 |_,_,.nil,_=>λu hu=>by cases hu
 |y::xs,u::us,.cons r t,f=>λu' hu=>by
  rw[jU,bR]at f;rcases aQ.mp hu with rfl|hu
  .rw[xxw r f.1];exact eqAt_V r rx f.1 fx
  .exact qxy rx fx t f.2 u' hu
def inV (x:V)(xs:List V):Bool:=xs.any λy=>eqV y x
def rIn (K:Aa)(neg:Bool):R2:=λx y H Q=>∃p xs,y=.ref p/\(SqL K H p xs\/SqT K H p xs)/\Z0 x=true/\xs.all Z0=true/\Q (.bl (if neg then !inV x xs else inV x xs)) H
theorem Zp:OpR X (compareOp .NotIn) (rIn X.K true):=by
 intro pins s σ H x y v u Q I U Z h;obtain⟨p,xs,rfl,F,W,fs,q⟩:=h;cases Z;rcases F with F|F
 .obtain⟨D,r,J,hz⟩:=I.list F;refine SeqAt.notIn_listAt (eqU x) J.isList (λw L=>qxy U W r fs w (by simpa using L)) ⟨.bl _,H,I,rfl,?_⟩;rw[show D.toArray.any (eqU x)=D.any (eqU x) by simp,qyk r fs];exact q
 .obtain⟨D,r,J,hz⟩:=I.tuple F;refine SeqAt.notIn_tupleAt (eqU x) J (λw L=>qxy U W r fs w (by simpa using L)) ⟨.bl _,H,I,rfl,?_⟩;rw[show D.toArray.any (eqU x)=D.any (eqU x) by simp,qyk r fs];exact q
theorem xf:kr X (.builtin "len") (λxs H Q=>∃p ys,xs=[.ref p]/\(SqL X.K H p ys\/SqT X.K H p ys)/\Q (.int ys.length) H):=by
 intro pins s σ H xs us Q I r h;obtain⟨p,ys,rfl,D,q⟩:=h;obtain⟨u,rfl,U⟩:=jb r;cases U;have hn:=qwg;rcases D with D|D
 .obtain⟨W,F,J,Z⟩:=I.list D;have L:=F.length;exact Calls.call_len_list J.isList (by simp only[aq] <;> lia) ⟨.int ys.length,H,I.tok _,⟨s.toks+1,by rw[aq,L]⟩,q⟩
 .obtain⟨W,F,J,Z⟩:=I.tuple D;have L:=F.length;exact len_tuple J (by simp only[aq] <;> lia) ⟨.int ys.length,H,I.tok _,⟨s.toks+1,by rw[aq,L]⟩,q⟩
theorem Yu:kr X (.type "list") (λxs H Q=>∃p ys,xs=[.ref p]/\(SqL X.K H p ys\/SqT X.K H p ys)/\∀l,H l=none->Q (.ref l) (upd H l (.lst ys))):=by
 intro pins s σ H xs us Q I r h;obtain⟨p,ys,rfl,U,q⟩:=h;obtain⟨u,rfl,rx⟩:=jb r;cases rx;have ab:∀(D:List Ag),Vals ys D->ys.length<=sizeLine->∀(h':Heap) (c':Nat),(∀b o',s.heap.get? b=some o'->h'.get? b=some o') ->
   h'.get? s.heap.objs.size=some { cls:=.type "list",dict:=none,data:=.seq D.toArray c',slots:=#[] }->EP X pins σ Q (.ref s.heap.objs.size) { s with heap:=h' }:=λD F L h' c' J e =>
  ⟨.ref s.heap.objs.size,_,I.laid (t':=s.toks) J (aj _) (show ObjOk X.prog X.w _ h' _ (.lst ys) from ⟨L,D,c',F,e⟩),rfl,q _ (I.hok.fresh (aj _))⟩
 rcases U with U|U
 .obtain⟨D,F,W,L⟩:=I.list U;have ac:=F.length;obtain⟨o,Z,hc,n,hd⟩:=W.isList;exact call_list_seq p (.inl rfl) Z hc hd (λh' c' J e=>ab D F L h' c' J e) (by simp only[aq] <;> lia)
 .obtain⟨D,F,W,L⟩:=I.tuple U;have ac:=F.length;obtain⟨o,Z,hc,n,hd⟩:=W;exact call_list_seq p (.inr rfl) Z hc hd (λh' c' J e=>ab D F L h' c' J e) (by simp only[aq] <;> lia)
def tyV (K:Aa)(T:String)(x:V)(H:Hp):Prop:=match x with
 |.str _=>T = "str"
 |.int _=>T = "int"
 |.ref p=>(T = "list" /\ ∃xs,SqL K H p xs)\/(T = "tuple" /\ ∃o,K.lookup p=some o/\o.cls=.type "tuple" /\ o.dict=none) \/
   (T = "dict" /\ ((∃kvs,H p=some (.dK kvs))\/∃kvs,H p=some (.dT kvs)))\/(T = "set" /\ ∃S n,H p=some (.set S n))
 |_=>False
theorem tyV_is {pins:List (Aj×Obj)}{σ:St}{H:Hp}{s:Ab}{T:String}{x:V}{v:Ag}(I:Inv X pins σ H s)(r:RelV x v)(ty:tyV X.K T x H) :
  s.TypeIs v T/\∀a,v=.ref a->∃ob,s.heap.get? a=some ob/\ob.dict=none:=by
 cases x with
 |str z =>
  obtain⟨t,rfl⟩:=r;cases(show T = "str" from ty);exact⟨typeIs_str s z t,λ_ e=>nomatch e⟩
 |int i =>
  obtain⟨t,rfl⟩:=r;cases(show T = "int" from ty);exact⟨typeIs_int s i t,λ_ e=>nomatch e⟩
 |ref p =>
  cases r;rcases ty with⟨rfl,xs,U⟩|⟨rfl,o,D,W,F⟩|⟨rfl,D⟩|⟨rfl,S,n,D⟩
  .obtain⟨Z,_,L,_⟩:=I.list U;refine⟨L.isList.typeIs,λa e=>?_⟩;cases e;obtain⟨o,n,e,c,F,_⟩:=L;exact⟨o,e,F⟩
  .refine⟨⟨o,I.kIn p o D,W⟩,λa e=>?_⟩;cases e;exact⟨o,I.kIn _ o D,F⟩
  .have z:∃o,s.heap.get? p=some o/\o.ExactDict:=by
    rcases D with⟨kvs,D⟩|⟨kvs,D⟩
    .obtain⟨_,_,_,_,o,_,_,e,ex,_⟩:=I.hok p _ D;exact⟨o,e,ex⟩
    .obtain⟨_,_,_,_,o,_,_,e,ex,_⟩:=I.hok p _ D;exact⟨o,e,ex⟩
   obtain⟨o,e,ex⟩:=z;refine⟨⟨o,e,ex.1⟩,λa J=>?_⟩;cases J;exact⟨o,e,ex.2.1⟩
  .obtain⟨o,_,_,_,e,ex,_⟩:=I.hok p _ D;refine⟨⟨o,e,ex.1⟩,λa J=>?_⟩;cases J;exact⟨o,e,ex.2.1⟩
 |_=>exact False.elim ty
def tBM (K:Aa)(T:String)(r:V->List V->Hp->VK->Prop)(to:TE)(t:TA):TE:=λσ H Q=>to σ H λx H1=>tyV K T x H1/\t σ H1 λxs H2=>r x xs H2 Q
variable {o e:Expr}{es:List Expr}{to:TE}{t:TA}{name:Str}{apos cpos:Pos}{T id:String}{r:V->List V->Hp->VK->Prop}
theorem qxq (pa:PlainAttrs T)(slot:Slot T name id)(hty:typeOf (.builtin id)=pure (.type "method_descriptor"))(hm:MtR X id r)(ho:PE X o to)(ha:PA X (e::es) t)
  (hbase:autoParam (attributeBase o name X.env (eval o X.env)=eval o X.env) aU4._auto_1)
  (hfew:autoParam (((backTo cpos (starEach (e::es) X.env)).all (λx=>!x.1)&&(backToKw cpos (keywordEach [] X.env)).all (λx=>x.1.isSome)
   && decide ((e::es).length+([]:List Keyword).length+(if([]:List Keyword).isEmpty then 0 else 1)<30))=true) aU4._auto_1)
  (hline:autoParam ((apos.endLine==cpos.line)=true) aU4._auto_1) (hs:autoParam (starEach (e::es) X.env=(false,eval e X.env)::starEach es X.env) aU4._auto_1) (hplain:autoParam ((backTo cpos (starEach es X.env)).any (·.1)=false) aU4._auto_1) :
  PE X (.Call (.Attribute o name apos) (e::es) [] cpos) (tBM X.K T r to t):=by
 intro pins s σ H Q I h;refine wpAny_Call_method_late hbase hfew hline rfl (thn (ho pins s σ H _ I h) λv s1 ⟨x,H1,I1,r1,ty,q1⟩=>?_);obtain⟨h1,h2⟩:=tyV_is I1 r1 ty;refine⟨T,id,pa,slot,hty,h1,h2,?_⟩;have D:=ha cpos pins s1 σ H1 _ I1 q1;rw[hs]at D ⊢;refine Calls.callWith_builtin (by show(false||(backTo cpos (starEach es X.env)).any (·.1))=false;rw[hplain] <;> rfl) (Calls.evalArgs_plain ?_);exact thn D λus s2 ⟨vs,H2,I2,r2,q2⟩=>hm pins s2 σ H2 x vs v us Q I2 r1 r2 q2
end
def MtM (X:Cx)(id:String)(r:V->List V->Hp->VK->Prop):Prop :=
 ∀(pins:List (Aj×Obj)) (s:Ab) (σ:St) (H:Hp) (x:V) (xs:List V) (v:Ag) (us:List Ag) (Q:VK),Inv X pins σ H s->RelV x v->Vals xs us->r x xs H Q ->
  wpAny (model X.prog X.w) X.A (call (.builtin id) (v::us)) (EP X pins σ Q) X.xe s
theorem Vals.one:∀ {x:V} {us:List Ag},Vals [x] us->∃u,us=[u]/\RelV x u
 |_,_,.cons r .nil=>⟨_,rfl,r⟩
theorem Vals.eraseIdx:∀ {xs:List V} {us:List Ag} (i:Nat),Vals xs us->Vals (xs.eraseIdx i) (us.eraseIdx i)
 |_,_,_,.nil=>.nil
 |_,_,0,.cons _ t=>t
 |_,_,i+1,.cons r t=>.cons r (Vals.eraseIdx i t)
theorem qv4 {α:Type}:∀(l:List α) (i:Nat),(l.eraseIdx i).length<=l.length
 |[],_=>aj _
 |_::_,0=>iN _
 |_::r,i+1=>Nat.succ_le_succ (qv4 r i)
section
variable {X:Cx}{pins:List (Aj×Obj)}{σ:St}{H:Hp}{s:Ab}{l b:Aj}{xs ys zs:List V}
theorem Inv.lset {its its':List Ag}{n:Nat}{f:Array Ag->Array Ag}{t':Nat}(I:Inv X pins σ H s)(hH:H l=some (.lst xs))
  (e:s.heap.get? l=some { cls:=.type "list",data:=.seq its.toArray n }) (hf:f its.toArray=its'.toArray) (hv:Vals ys its') (hz:ys.length<=sizeLine) :
  Inv X pins σ (upd H l (.lst ys)) { s with heap:=s.heap.update l (Obj.mapSeq f),toks:=t' }:=by
 have q:=PySem.IsL.update e f;rw[hf]at q;refine I.write (x:=l) (e:=l) (by rw[hH];exact trivial) (.inl rfl) (λJ u F D=>(cI s.heap (Obj.mapSeq f) (dY F)).trans D) ⟨_,q⟩ ?_;exact⟨hz,its',_,hv,q⟩
theorem Inv.lnew {its:List Ag}{t':Nat}(I:Inv X pins σ H s)(hv:Vals ys its)(hz:ys.length<=sizeLine) :
  Inv X pins σ (upd H s.heap.objs.size (.lst ys)) { s with heap:=s.heap.push { cls:=.type "list",data:=.seq its.toArray },toks:=t' } :=
 I.laid (λ_ _ q=>ah _ q) (aj _) ⟨hz,its,0,hv,az _ rfl⟩
theorem Inv.fresh (I:Inv X pins σ H s):H s.heap.objs.size=none:=I.hok.fresh (aj _)
theorem Inv.lstM (I:Inv X pins σ H s)(hH:H l=some (.lst xs)):xs.length<=sizeLine/\∃(its:List Ag) (n:Nat),Vals xs its/\xs.length=its.length/\s.heap.get? l=some { cls:=.type "list",data:=.seq its.toArray n }:=by obtain⟨z,its,n,r,e⟩:=I.hok l _ hH;exact⟨z,its,n,r,r.length,e⟩
theorem xwx {n:Nat}(h:n<=sizeLine):Builtin.List.listTooLong n=false:=by unfold Builtin.List.listTooLong;exact ba ⋯
end
section
variable {X:Cx}
def xvy:V->List V->Hp->VK->Prop:=λx vs H Q=>∃l xs y,x=.ref l/\vs=[y]/\H l=some (.lst xs)/\xs.length<sizeLine/\Q .non (upd H l (.lst (xs++[y])))
theorem jp:MtM X "list.append" xvy:=by intro pins s σ H x vs v Z Q I L U h;obtain⟨l,xs,y,rfl,rfl,J,hz,q⟩:=h;cases L;obtain⟨u,rfl,W⟩:=U.one;obtain⟨z,D,n,r,hl,e⟩:=I.lstM J;refine call_meets F.slot_list_append ⟨_,e,rfl⟩ F.entry_list_append (F.args_list_append_2 _ _) (PySem.list_append l D.toArray n u (by rw[aq];lia)) ⟨e,?_⟩;refine⟨.non,_,I.lset (its':=D++[u]) J e (by simp) (r.append (.cons W .nil)) ?_,rfl,q⟩;rw[ar,cN];lia
def xv0:V->List V->Hp->VK->Prop:=λx vs H Q=>∃l b xs zs,x=.ref l/\vs=[.ref b]/\H l=some (.lst xs)/\H b=some (.lst zs)/\xs.length+zs.length<=sizeLine/\Q .non (upd H l (.lst (xs++zs)))
theorem wkt:MtM X "list.extend" xv0:=by
 intro pins s σ H x vs v us Q I U W h;obtain⟨l,b,xs,zs,rfl,rfl,L,hB,hz,q⟩:=h;cases U;obtain⟨u,rfl,Z⟩:=W.one;cases Z;obtain⟨z,D,n,r,hl,e⟩:=I.lstM L;obtain⟨z2,J,n2,r2,ad,e2⟩:=I.lstM hB;have ab:D.toArray.size+J.toArray.size<=sizeLine:=by rw[aq,aq];lia
 have ac:¬ (!D.toArray.isEmpty&&Builtin.List.listTooLong (D.toArray.size+J.toArray.size))=true:=by rw[xwx ab,ig];exact aF
 refine call_meets F.slot_list_extend ⟨_,e,rfl⟩ F.entry_list_extend (F.args_list_extend_2 _ _)
  (AutoSeq1.list_extend_list_list_0 l D.toArray n b J.toArray n2 ac (by rw[aq];lia) ⋯) ⟨e,e2,?_⟩
 refine⟨.non,_,I.lset (its':=D++J) L e (by simp) (r.append r2) ?_,rfl,q⟩;rw[ar];lia
def rPopAt:V->List V->Hp->VK->Prop:=λx vs H Q=>∃l xs i k y,x=.ref l/\vs=[.int i]/\H l=some (.lst xs)/\-(2 ^ 63)<=i/\i<2 ^ 63/\seqIndex? i xs.length=some k/\xs[k]?=some y/\Q y (upd H l (.lst (xs.eraseIdx k)))
theorem wu9:MtM X "list.pop" rPopAt:=by
 intro pins s σ H x vs v us Q I L W h;obtain⟨l,xs,i,k,y,rfl,rfl,J,h1,h2,hk,hy,q⟩:=h;cases L;obtain⟨u,rfl,Z⟩:=W.one;obtain⟨t,rfl⟩:=Z;obtain⟨z,D,n,r,hl,e⟩:=I.lstM J;obtain⟨w,hw,U⟩:=r.get hy;refine call_meets F.slot_list_pop ⟨_,e,rfl⟩ F.entry_list_pop (F.args_list_pop_2 _ _)
  (MeetsSeq.list_pop_at l D.toArray n i t k w (fitsIndex_both h1 h2) (by rw[aq,<-hl];exact hk) (by rw[<-aE];exact hw) (by rw[aq];lia)) ⟨e,?_⟩
 refine⟨y,_,I.lset (its':=D.eraseIdx k) J e ?_ (r.eraseIdx k) ?_,U,q⟩
 .show D.toArray.eraseIdxIfInBounds k=(D.eraseIdx k).toArray;rw[List.eraseIdxIfInBounds_toArray]
 .have:=qv4 xs k;lia
def rCat:R2:=λx y H Q=>∃l b xs zs,x=.ref l/\y=.ref b/\H l=some (.lst xs)/\H b=some (.lst zs)/\xs.length+zs.length<=sizeLine/\∀p,H p=none->Q (.ref p) (upd H p (.lst (xs++zs)))
theorem wuf:OpR X (binaryOp .Add) rCat:=by
 intro pins s σ H x y v u Q I L J h;obtain⟨l,b,xs,zs,rfl,rfl,W,Z,hz,q⟩:=h;cases L;cases J;obtain⟨z,F,n,r,hl,e⟩:=I.lstM W;obtain⟨z2,D,n2,U,ab,e2⟩:=I.lstM Z;refine PySem.P.add_list e e2 ?_ (by rw[aq,aq];lia);have ea:F.toArray++D.toArray=(F++D).toArray:=by simp
 rw[ea];exact⟨.ref _,_,I.lnew (t':=s.toks) (r.append U) (by rw[ar];lia),rfl,q _ I.fresh⟩
end
section
variable {prog:Ac}{w:Ah}{A:Ae}{E:Ag->Ab->Prop}{s:Ab}
end
section
variable {X:Cx}
end
end L2
namespace Att
open PySem PySem.W PySem.Calls PyProof.Rows
theorem qqm {P:Params}{h:Heap}:∀(ns:List Int) (vs:List Ag),WellAll P h vs (ns.map WData.int)->IntsAre vs ns:=by
 intro ns
 induction ns with
 |nil =>
  intro vs w;rw[d9]at w;cases w;exact .nil
 |cons n ns ih =>
  intro vs w;rw[aM]at w;cases w with
  |cons a b =>
   cases a;exact .cons _ _ (ih _ b)
theorem wkj {l:OpenLaw}{n:Nat}(hn:l.most=some n){P:Params}{h:Heap}{args:List WData}{vals:List Ag}
  (hpre:l.row.toRowW.claim.pre args=true) (hwl:WellAll P h vals args) :
  ∃a vs ns,vals=[Value.ref a]/\args=[WData.list (ns.map WData.int)]/\h.get? a=some { cls:=.type "list",data:=.seq vs.toArray }/\IntsAre vs ns/\ns.length<=n:=by
 have U:WShape.hasAll [] args [.list .int]=true:=(pre_splitW hpre).1;have J:l.pre.holds [] { args:=args }=true:=(pre_splitW hpre).2;obtain⟨d,r,rfl,h1,h2⟩:=hasAllW_cons U;obtain rfl:=hasAllW_nil h2;obtain⟨xs,rfl,Z⟩:=hasW_list h1;obtain⟨ns,rfl⟩:=items_int Z;have W:ns.length<=n:=by
  unfold OpenLaw.pre at J;have F:(WTm.not (.lt (.lit (.int (n:Int))) (.len (.arg 0)))).holds [] { args:=[.list (ns.map .int)] }=true:=by have F:=(holds_andW J).1;rw[hn]at F;exact F
  have D:=condW_of F (w_not (w_lt w_lit (w_len_list (w_arg rfl))));rw[ag]at D;refine Nat.le_of_not_lt λq=>?_;have L:(n:Int)<((ns.length:Nat):Int):=by lia
  first
   |(rw[aR L]at D;exact absurd D ⋯)
   |(simp at D;lia)
 cases hwl with
 |cons w1 w2 =>
  cases w2;cases w1 with
  |list ho hall=>exact⟨_,_,ns,rfl,rfl,ho,qqm ns _ hall,W⟩
theorem wjj (l:OpenLaw)(args:List WData):l.row.toRowW.claim.post args (.bool true) args=true :=
 postW_of (r:=l.row.toRowW) (X:=(true==true))
  (show WShape.has [] (.bool true) .bool=true by first | rfl | decide | simp[WShape.has,WShape.arms,WShape.armsAll])
  (show(WTm.eq .res (.lit (.bool true))).value [] { args:=args,res:=some (.bool true),after:=args }=some (.bool (true==true)) from w_eq_bool (w_res rfl) w_lit) rfl
theorem attach_call {l:OpenLaw}{n:Nat}{q:Ac}{loose:List Str}{XP:(Str->Option Ag)->Heap->Prop}{YP:Ah->Heap->Prop}{d:DefRec}
  (hn:l.most=some n) (hdf:d.params.defaults=[])
  (call:∀(w:Ah) (s₀ s₁:Ab) (mg mb:Str->Option Ag) (fa:Aj) (o:Obj) (pm cd doc:Ag) (a:Aj) (vs:List Ag) (ns:List Int),
   Ground q loose [] XP w s₀ mg mb s₁.heap->YP w s₁.heap ->
   s₁.heap.get? fa=some o->o.data=.func (docDef d.name d.params d.body d.scope pm cd doc)->s₁.heap.CodeRec cd d.name->mg d.name=some (.ref fa) ->
   s₁.heap.get? a=some { cls:=.type "list",data:=.seq vs.toArray }->IntsAre vs ns->ns.length<=n->s₁.gens=#[] ->
   codeAny (model l.prog w) callerA (.call (.ref fa) ⟨[.ref a],[]⟩) (λr s'=>r=.ok (.ret (.bool true))/\OldK s₁.heap s'.heap/\s'.os=s₁.os/\AllBare s'.gens) s₁) :
  WalkO q loose XP YP l.row.toRowW d [] (λf vs=>PySem.call f vs):=by
 intro w s₀ s₁ mg mb G Y fa o pm cd doc dV kV W hd ad D Z hg a1 am as L a0 an F ap;obtain rfl:dV=.none:=Dflts.none D hdf;obtain rfl:kV=.none:=Dflts.noKw D;obtain⟨a,vs,ns,rfl,rfl,U,ac,ab⟩:=wkj hn L F;refine enter_call (fj (call w s₀ s₁ mg mb fa o pm cd doc a vs ns G Y W (fd_plain hd) ad Z U ac ab hg) λr s' J=>?_);obtain⟨rfl,h2,h3,h4⟩:=J;exact⟨.inl ⟨.bool true,.bool true,[],rfl,λ_=>rfl,.bool true,wjj l _,λ_=>⟨List.Pairwise.nil,λ_ hm=>(nomatch hm)⟩⟩,h2,h3,h4⟩
section
variable {prog:Ac}{w:Ah}{A:Ae}{E:Ag->Ab->Prop}{s:Ab}{K:Frag}
end
end Att
namespace L2
open PySem PySem.Spec PyProof.Rows
theorem Jf:∀ {vs:List Ag} {ns:List Int},IntsAre vs ns->Vals (ns.map V.int) vs
 |_,_,.nil=>.nil
 |_,_,.cons n t h=>.cons ⟨t,rfl⟩ (Jf h)
def u9 (s:Stmt)(j:Nat):Stmt:=match s with
 |.ClassDef _ _ _ body _ _ _ _ _ _ _=>body.getD j (.Pass ⟨0,0,0,0⟩)
 |_=>.Pass ⟨0,0,0,0⟩
def v9 (s:Stmt):Arguments:=match s with
 |.FunctionDef _ a _ _ _ _ _ _ _ _=>a
 |_=>{ posonlyargs:=[],args:=[],vararg:=none,kwonlyargs:=[],kw_defaults:=[],kwarg:=none,defaults:=[] }
def zt (s:Stmt):List Stmt:=match s with
 |.FunctionDef _ _ b _ _ _ _ _ _ _=>b
 |_=>[]
def q8 (s:Stmt):Scope:=match s with
 |.FunctionDef _ _ _ _ _ _ sc _ _ _=>sc
 |_=>{ kind:=.function,names:=[],isGenerator:=false,isCoroutine:=false }
abbrev E0:XK:=λ_ _ _=>False
structure Fun (K:Aa)(x qual:Str)(st:Stmt)(f:Aj)(fd:Ad):Prop where
 ex:∃(oc:Ag) (od:Option Aj) (kV doc pm:Ag) (an:Option Aj) (cdv ct:Ag) (osl:Array (Option Ag)),
  fd=W.fnOf x qual (v9 st) (zt st) (q8 st) .none kV doc pm an cdv ct/\K.lookup f=some ⟨oc,od,.func fd,osl⟩/\W.codeIn K cdv qual=true
 kp:W.keepIn K (.ref f)=true
section
variable {P:Ac}{w:Ah}{K:Aa}{mg:Str->Option Ag}{base:Heap}
theorem Fun.binds {x qual:Str}{st:Stmt}{f:Aj}{fd:Ad}{ps:List Str}(F:Fun K x qual st f fd)
  (h:∀(kV doc pm:Ag) (an:Option Aj) (cdv ct:Ag) (us:List Ag),us.length=ps.length->bindArgs (W.fnOf x qual (v9 st) (zt st) (q8 st) .none kV doc pm an cdv ct) ⟨us,[]⟩=pure (ps.zip us)):Binds K fd ps []:=by
 obtain⟨L,J,kV,doc,pm,an,cdv,ct,D,rfl,U,Z⟩:=F.ex;exact .all (h kV doc pm an cdv ct)
theorem wzd {x qual:Str}{st:Stmt}{f:Aj}{oc:Ag}{od an:Option Aj}{osl:Array (Option Ag)}{kV doc pm cdv ct:Ag}(l:K.lookup f=some ⟨oc,od,.func (W.fnOf x qual (v9 st) (zt st) (q8 st) .none kV doc pm an cdv ct),osl⟩)
  (c:W.codeIn K cdv qual=true) (k:W.keepIn K (.ref f)=true):Fun K x qual st f (W.fnOf x qual (v9 st) (zt st) (q8 st) .none kV doc pm an cdv ct):=⟨⟨oc,od,kV,doc,pm,an,cdv,ct,osl,rfl,l,c⟩,k⟩
end
theorem xqn {A:Ae}{k:Nat}(hr:Room k A):A.units+1<cLine:=eN (Nat.add_le_add_left (by decide:1<=64) _) hr.units
theorem Jp {n:Nat}(h:n<=1000):n<sizeLine:=eN h ⋯
section
variable {X:Cx}
theorem pv (i:Nat){x:Str}{pos:Pos}(hN:autoParam (X.N[i]?=some x) aU4._auto_1)(hv:Vis X.env.scope x:=by walk_at "vs")(hd:autoParam ((x==("__debug__" : Str))=false) aU1._auto_1)
  (hcd:autoParam ((x==("__classdict__" : Str))=false) aU1._auto_1):PE X (.Name x pos) (jh i):=pe_var hN hv hd hcd
end
theorem Q8 {A B:Prop}(h:B):if false=true then A else B:=by rw[ao aF];exact h
theorem Wj {A B:Prop}(h:A):if true=true then A else B:=by rw[av rfl];exact h
def Same (H H':Hp):Prop:=∀b o,H b=some o->H' b=some o
theorem Same.refl (H:Hp):Same H H:=λ_ _ h=>h
theorem Same.trans {H H1 H2:Hp}(a:Same H H1)(b:Same H1 H2):Same H H2:=λc o h=>b c o (a c o h)
theorem Same.free {H H':Hp}(e:Same H H'){l:Aj}(h:H' l=Option.none):H l=Option.none:=by
 cases q:H l with
 |none=>rfl
 |some o =>
  rw[e l o q]at h;cases h
theorem Same.seq {K:Aa}{H H':Hp}{a:Aj}{xs:List V}(e:Same H H')(h:SqL K H a xs):SqL K H' a xs:=by
 rcases h with (h|⟨o,h⟩)|h
 .exact .inl (.inl (e _ _ h))
 .exact .inl (.inr ⟨o,e _ _ h⟩)
 .exact .inr h
end L2
namespace L2
open PySem
def itF:Nat->Nat->Nat
 |0,x=>x
 |n+1,x=>itF n (5*x+1)
theorem wv9 (a:Nat):∀b x,itF (b+a) x=itF a (itF b x)
 |0,x=>by rw[cJ];rfl
 |b+1,x=>by rw[ii];exact wv9 a b (5*x+1)
theorem qu2:∀n x,4*itF n x+1=5 ^ n*(4*x+1)
 |0,x=>by simp[itF]
 |n+1,x=>by show 4*itF n (5*x+1)+1=_;rw[qu2 n,dN,Nat.mul_assoc];congr 1;lia
theorem qud:∀e,∃d,d%2=1/\5 ^ (2 ^ e)=1+2 ^ (e+2)*d
 |0=>⟨1,rfl,rfl⟩
 |e+1=>by
  obtain⟨d,h1,h2⟩:=qud e;refine⟨d+2 ^ (e+1)*(d*d),?_,?_⟩
  .rw[dN,show 2 ^ e*2*(d*d)=2*(2 ^ e*(d*d)) by grind];lia
  .have e1:5 ^ (2 ^ (e+1))=(1+2 ^ (e+2)*d) ^ 2:=by rw[show(2:Nat) ^ (e+1)=2 ^ e*2 from dN ..,Nat.pow_mul,h2]
   have D:(2:Nat) ^ (e+2)=2*2 ^ (e+1):=by rw[show e+2=(e+1)+1 by lia,dN 2 (e+1)];lia
   have F:(2:Nat) ^ (e+1+2)=4*2 ^ (e+1):=by rw[show e+1+2=(e+2)+1 by lia,dN 2 (e+2),D];lia
   rw[e1,F,D];generalize 2 ^ (e+1)=X;grind
theorem wy8 (e x:Nat):∃d,d%2=1/\itF (2 ^ e) x=x+2 ^ e*d:=by
 obtain⟨d,h1,h2⟩:=qud e;refine⟨d*(4*x+1),?_,?_⟩
 .rw[Nat.mul_mod,h1];lia
 .have h:=qu2 (2 ^ e) x;rw[h2,Nat.pow_add]at h;have D:(1+2 ^ e*2 ^ 2*d)*(4*x+1)=4*(x+2 ^ e*(d*(4*x+1)))+1:=by generalize 2 ^ e=X;grind
  lia
theorem qyn {P q r:Nat}(h:r<P):(P*q+r)%(2*P)=P*(q%2)+r:=by
 have D:q=2*(q/2)+q%2:=by lia
 have e:P*q+r=(P*(q%2)+r)+2*P*(q/2):=by
  have:P*q=P*(2*(q/2)+q%2):=by rw[<-D]
  rw[this];grind
 rw[e,Nat.add_mul_mod_self_left];refine fk ?_;rcases bZ q with z|z <;> rw[z] <;> lia
theorem qku:∀e x j,∃k,k<2 ^ e/\itF k x%2 ^ e=j%2 ^ e
 |0,x,j=>⟨0,⋯,by rw[Nat.pow_zero,Nat.mod_one,Nat.mod_one]⟩
 |e+1,x,j=>by
  obtain⟨k,hk,hm⟩:=qku e x j;have hP:0<2 ^ e:=jG e;have e2:2 ^ (e+1)=2*2 ^ e:=by rw[dN];lia
  by_cases c:itF k x%2 ^ (e+1)=j%2 ^ (e+1)
  .exact⟨k,⋯,c⟩
  .obtain⟨d,h1,h2⟩:=wy8 e (itF k x);refine⟨k+2 ^ e,⋯,?_⟩;rw[wv9,h2];rw[e2]at c ⊢;generalize itF k x=a at *;generalize 2 ^ e=P at *;have U:=(Nat.div_add_mod a P).symm;have L:=(Nat.div_add_mod j P).symm;have D:a%P<P:=eC _ hP;have J:a%(2*P)=P*(a/P%2)+a%P:=by have:=qyn (q:=a/P) D;rwa [<-U]at this
   have s2:j%(2*P)=P*(j/P%2)+a%P:=by have:=qyn (q:=j/P) D;rw[hm,<-L]at this;rw[hm];exact this
   have F:(a+P*d)%(2*P)=P*((a/P+d)%2)+a%P:=by have:=qyn (q:=a/P+d) D;rwa [show P*(a/P+d)+a%P=a+P*d by rw[Nat.mul_add];lia]at this
   rw[J,s2]at c;rw[F,s2];have:(a/P+d)%2=j/P%2:=by rcases bZ (a/P) with z|z <;> rcases bZ (j/P) with y|y <;> rw[z,y]at c <;> lia
   rw[this]
def lp (mask:Nat):Nat->Nat×Nat->Nat×Nat
 |0,q=>q
 |n+1,q=>lp mask n (SetTable.leap mask q.1 q.2)
theorem xwd (mask b:Nat):∀a q,lp mask (a+b) q=lp mask b (lp mask a q)
 |0,q=>by rw[cJ];rfl
 |a+1,q=>by rw[ii];exact xwd mask b a _
theorem xq3 (mask:Nat):∀n q,(lp mask n q).2=q.2/32 ^ n
 |0,q=>by simp[lp]
 |n+1,q=>by show(lp mask n (SetTable.leap mask q.1 q.2)).2=_;rw[xq3 mask n,dN,Nat.mul_comm,<-Nat.div_div_eq_div_mul];rfl
theorem lp_lt {mask:Nat}:∀n q,q.1<=mask->(lp mask n q).1<=mask
 |0,q,h=>h
 |n+1,q,h=>lp_lt n _ (dC (eC _ (eO _)))
theorem wzh {mask:Nat}:∀n i,i<=mask->(lp mask n (i,0)).1=itF n i%(mask+1)
 |0,i,h=>(fk (Nat.lt_succ_of_le h)).symm
 |n+1,i,h=>by
  have e:SetTable.leap mask i 0=((5*i+1)%(mask+1),0):=by simp[SetTable.leap,Nat.mul_comm]
  show(lp mask n (SetTable.leap mask i 0)).1=itF n (5*i+1)%(mask+1);rw[e,wzh n _ (dC (eC _ (eO _)))];have D:∀n x,itF n (x%(mask+1))%(mask+1)=itF n x%(mask+1):=by
   intro n
   induction n with
   |zero=>intro x;exact Nat.mod_mod _ _
   |succ n ih =>
    intro x;show itF n (5*(x%(mask+1))+1)%(mask+1)=itF n (5*x+1)%(mask+1);rw[<-ih (5*(x%(mask+1))+1),<-ih (5*x+1)];congr 2;rw[Nat.add_mod,Nat.mul_mod,Nat.mod_mod,<-Nat.mul_mod,<-Nat.add_mod]
  exact D n _
theorem wqb {e mask:Nat}(hM:mask+1=2 ^ e){q:Nat×Nat}(h1:q.1<=mask)(h2:q.2<2 ^ 64){j:Nat}(hj:j<=mask):∃n,n<=mask+13/\(lp mask n q).1=j:=by
 have z:(lp mask 13 q).2=0:=by rw[xq3];exact Nat.div_eq_of_lt (aL h2 ⋯)
 have D:=lp_lt (mask:=mask) 13 q h1;obtain⟨k,J,F⟩:=qku e (lp mask 13 q).1 j;refine⟨13+k,⋯,?_⟩;rw[xwd,show lp mask 13 q=((lp mask 13 q).1,0) from ko rfl z,wzh k _ D,hM,F];exact fk ⋯
def zk (t:SetTable):Nat->SetTable.Probe->SetTable.Probe
 |0,p=>p
 |n+1,p=>zk t n (t.advance p)
theorem Qh (t:SetTable)(b:Nat):∀a p,zk t (a+b) p=zk t b (zk t a p)
 |0,p=>by rw[cJ];rfl
 |a+1,p=>by rw[ii];exact Qh t b a _
theorem qkm (t:SetTable)(p:SetTable.Probe):(t.advance p).dummy=p.dummy:=by unfold SetTable.advance;split <;> rfl
theorem qxk (t:SetTable):∀n p,(zk t n p).dummy=p.dummy
 |0,p=>rfl
 |n+1,p=>(qxk t n _).trans (qkm t p)
def rs (mask:Nat)(q:Nat×Nat):SetTable.Probe:={ j:=q.1,more:=SetTable.runEnd mask q.1-q.1,i:=q.1,perturb:=q.2,dummy:=none }
theorem qzb (t:SetTable)(q:Nat×Nat):∀r j,zk t (r+1) { j:=j,more:=r,i:=q.1,perturb:=q.2,dummy:=none }=rs t.mask (SetTable.leap t.mask q.1 q.2)
 |0,j=>rfl
 |r+1,j=>by
  show zk t (r+1) (t.advance _)=_;have e:t.advance { j:=j,more:=r+1,i:=q.1,perturb:=q.2,dummy:=none }={ j:=j+1,more:=r,i:=q.1,perturb:=q.2,dummy:=none }:=by unfold SetTable.advance;rw[av (eO r)];rfl
  rw[e];exact qzb t q r (j+1)
theorem xxk (t:SetTable)(q:Nat×Nat):∃m,m<=10/\zk t m (rs t.mask q)=rs t.mask (SetTable.leap t.mask q.1 q.2):=by refine⟨SetTable.runEnd t.mask q.1-q.1+1,?_,qzb t q _ _⟩;unfold SetTable.runEnd;split <;> lia
theorem quw (t:SetTable):∀n q,∃N,N<=10*n/\zk t N (rs t.mask q)=rs t.mask (lp t.mask n q)
 |0,q=>⟨0,aj _,rfl⟩
 |n+1,q=>by obtain⟨m,hm,e⟩:=xxk t q;obtain⟨N,hN,e2⟩:=quw t n (SetTable.leap t.mask q.1 q.2);exact⟨m+N,⋯,by rw[Qh,e,e2];rfl⟩
theorem Jy {t:SetTable}{j i:Nat}(h:t.slot j=.live i):t.place[i]?=some j:=by
 unfold SetTable.slot at h;dsimp only at h;split at h
 .rename_i c;cases h;simpa using c
 .split at h <;> cases h
theorem qx7 {t:SetTable}(hd:t.dummies=#[])(j:Nat):t.slot j=.empty\/∃i,t.slot j=.live i:=by
 unfold SetTable.slot;dsimp only;split
 .exact .inr ⟨_,rfl⟩
 .have:SetTable.has t.dummies j=false:=by rw[hd];simp[SetTable.has]
  rw[this];exact .inl rfl
theorem qzc:∀(l l':List Nat),l.Nodup->(∀a∈l,a∈l')->l.length<=l'.length
 |[],_,_,_=>aW _
 |a::l,l',hn,hs=>by have hn':=dJ.mp hn;have ha:=hs a (.head _);have:=qzc l (l'.erase a) hn'.2 λb hb=>(List.mem_erase_of_ne (λz=>by subst z;exact hn'.1 hb)).mpr (hs b (.tail _ hb));rw[List.length_erase,av ha]at this;have hp:0<l'.length:=List.length_pos_of_mem ha;rw[aJ];lia
theorem wku {t:SetTable}(hd:t.dummies=#[])(hz:t.place.size<=t.mask):∃j,j<=t.mask/\t.slot j=.empty:=by
 apply aD;intro c;have:=qzc (List.range (t.mask+1)) t.place.toList gE λa F=>by
  have D:a<=t.mask:=dC (aw.mp F);rcases qx7 hd a with h|⟨i,h⟩
  .exact absurd ⟨a,D,h⟩ c
  .have e:=Jy h;exact gL.mpr (Array.mem_of_getElem? e)
 rw[aH,aU]at this;lia
theorem wvw (h:Int):SetTable.bits h<2 ^ 64:=by unfold SetTable.bits;lia
theorem wk3 {t:SetTable}{e:Nat}(hM:t.mask+1=2 ^ e)(hd:t.dummies=#[])(hz:t.place.size<=t.mask)(h:Int):∃N,N<=10*(t.mask+13)/\t.slot (zk t N (t.probeStart h)).j=.empty:=by obtain⟨j,D,hs⟩:=wku hd hz;obtain⟨n,L,F⟩:=wqb hM (q:=(SetTable.bits h%(t.mask+1),SetTable.bits h)) (dC (eC _ (eO _))) (wvw h) D;obtain⟨N,U,J⟩:=quw t n (SetTable.bits h%(t.mask+1),SetTable.bits h);refine⟨N,⋯,?_⟩;show t.slot (zk t N (rs t.mask (SetTable.bits h%(t.mask+1),SetTable.bits h))).j=.empty;rw[J];show t.slot (lp t.mask n _).1=.empty;rw[F];exact hs
inductive MetOk (t:SetTable) (p:SetTable.Probe) (N:Nat):SetTable.Met->Prop
 |empty (j:Nat):MetOk t p N (.empty j none)
 |cand (m i:Nat) (hm:m<N) (hs:t.slot (zk t m p).j=.live i):MetOk t p N (.candidate (zk t m p).j i (zk t (m+1) p))
def liveL (mask:Nat)(owner:Array (Option Nat)):List (Nat×Nat):=(List.range (mask+1)).filterMap λj=>(owner.getD j none).map (j,·)
structure OwnI (mask:Nat)(owner:Array (Option Nat))(k:Nat):Prop where
 size:owner.size=mask+1
 len:(liveL mask owner).length=k
 low:∀j v:Nat,owner[j]?=some (some v)->v<k
end L2
namespace L2
open PySem PySem.Spec PyProof.Rows
theorem nin {b:Aj}:b∉([]:List Aj):=λz=>nomatch z
theorem xxp {K:Aa}{h:Heap}{C:Aj}{bmB:List Ag}{newId:String}(X:K.In h)(q:W.excIn K C bmB newId=true) :
  ∃tl N a1 a2 a3 a4 a5 a6 a7 a8 a9 b0 b1 b2 b3 b5 mN,h.get? C=some (excClassObj a1 a2 C N a3 tl a4 a5 a6 a7 a8 a9 b0 b1 b2 b3 b5 newId) /\
   h.Ns N mN/\mN "__init__" = none/\OwnTail h bmB tl:=by
 unfold W.excIn at q;split at q
 .next dd cd sl ho =>
  split at q
  .next C1 tl x0 x1 x2 x3 nn x5 hm hs =>
   rw[bR,bR,bR,bR,bR]at q;obtain⟨⟨⟨⟨⟨p1,p2⟩,p3⟩,L⟩,D⟩,J⟩:=q;have ac:=eq_of_beq p1;have ab:=eq_of_beq p2;have F:=eq_of_beq J;have Z:cd.hasDel=false:=by simpa using p3
   subst ac ab;obtain⟨f1,f2,f3,f4,f5,f6,f7,f8,f9,as,ap⟩:=cd;have an:f3=Value.ref C1::tl:=hm;have U:ap=false:=Z;subst an U;have am:sl=#[x0,x1,x2,x3,some (.builtin nn),x5]:=by
    cases sl with
    |mk l =>
     have:l=[x0,x1,x2,x3,some (.builtin nn),x5]:=hs;rw[this]
   subst am;have ad:=W.isNs_of_in X D;exact⟨tl,f4,f1,f5,f2,f6,f7,f8,f9,as,dd,x0,x1,x2,x3,x5,_,X _ _ ho,.of_isNs ad,W.nsMap_none_of_in X D F,W.tail_of_in X L⟩
  .exact absurd q ⋯
 .exact absurd q ⋯
def CXE (P:Ac)(w:Ah):CXT:=λouter H s E e s' =>
 ∃(a C:Aj) (a0:Ag) (B:Heap) (H':Hp),e=.ref a/\s'.os=s.os/\AllBare s'.gens/\Un (frs outer) [] H H' s.heap s'.heap/\HOk P w H' B /\
  Heap.FlyingW B outer a (.ref C) a0 s'.heap/\(∀b o,s.heap.get? b=some o->b∉frs outer->∃o',B.get? b=some o'/\(H b=none->o'=o))/\E (.ref C) none H'
theorem CXE.no {P:Ac}{w:Ah}{outer:List Env}{H:Hp}{s s':Ab}{e:Ag}(h:CXE P w outer H s E0 e s'):False:=by obtain⟨_,_,_,_,_,_,_,_,_,_,_,_,q⟩:=h;exact q
def Qb (X:Cx)(E:St->XK):Prop:=∀(pins:List (Aj×Obj)) (σ:St) (H:Hp) (s:Ab) (e:Ag) (s':Ab),Inv X pins σ H s->CXE X.prog X.w X.stack H s (E σ) e s'->X.xe e s'
theorem Q7 {X:Cx}:Qb X (λ_=>E0):=λ_ _ _ _ _ _ _ h=>h.no.elim
def xqc (X:Cx)(E:St->XK):Prop:=∀(pins:List (Aj×Obj)) (σ:St) (H:Hp) (s:Ab) (h':Heap) (e C:Aj) (vs:List Ag),Inv X pins σ H s->Heap.MadeExcOf s.heap h' e (.ref C) vs->E σ (.ref C) none H->X.xe (.ref e) { s with heap:=h' }
theorem wqw {env:Env}{L:Aj}{outer:List Env}(h:env.frame=some L):frs (env::outer)=L::frs outer:=by unfold frs;rw[eE,h]
section
variable {P:Ac}{w:Ah}{K:Aa}{mg:Str->Option Ag}{base:Heap}{N:List Str}{qual:Str}{scope:Scope}{f:Aj}{cdv:Ag}{A:Ae}{outer:List Env}{s0:Ab}{H0:Hp}{E:XK}
theorem qh:Qb (Yx (CXE P w) P w K mg base N qual scope f cdv A outer s0 H0 E) (λ_=>E):=by
 intro pins σ H s e s' I hx;obtain⟨a,C,a0,B,H',rfl,a2,a5,W,a3,ad,a1,q⟩:=hx;have F:=I.base;have hL:∀b o,s0.heap.get? b=some o->b≠s0.heap.objs.size:=λb o e z=>be _ (z▸al e);have ab:frs (envOfC qual scope s0.heap.objs.size f cdv::outer)=s0.heap.objs.size::frs outer:=wqw rfl;have a4:∀b o,s0.heap.get? b=some o->b∉frs outer->b∉frs (envOfC qual scope s0.heap.objs.size f cdv::outer):=λb o e n=>by
  rw[ab];intro z;rcases aQ.mp z with z|z
  .exact hL b o e z
  .exact n z
 have ac:∀b o,s0.heap.get? b=some o->b∉frs outer->∃o',B.get? b=some o'/\(H0 b=none->o'=o):=λb o e n=>by obtain⟨o1,D⟩:=F.there b o e nin;obtain⟨o2,L,U⟩:=a1 b o1 D (a4 b o e n);refine⟨o2,L,λz=>?_⟩;have Z:=F.keep b o e z n nin;have e5:=F.free b o e z nin;rw[D]at Z;rw[U e5];exact au Z
 refine wpAny_leaves_onW I.ok.frames rfl ad λh' am ap=>?_;have as:∀b,b∈frs outer->∀o,s0.heap.get? b=some o->H0 b=none->∃sl,h'.get? b=some { o with slots:=sl }:=λb J o e n=>by obtain⟨sl,D⟩:=F.slot b o e n J nin;obtain⟨a6,L⟩:=W.slot b _ D (F.free b o e n nin) (by show b∈frs (envOfC qual scope s0.heap.objs.size f cdv::outer);rw[ab];exact .tail _ J) nin;obtain⟨_,o3,U,nf⟩:=ad.2.2.1.mem (b:=b) (by show b∈frs (envOfC qual scope s0.heap.objs.size f cdv::outer);rw[ab];exact .tail _ J);obtain⟨an,Z⟩:=ap b o3 U nf;rw[L]at U;have e5:=au U;exact⟨an,by rw[Z,<-e5]⟩
 refine⟨a,C,a0,B,H',rfl,a2.trans I.os,a5,⟨λb o e n nb _=>?_,λb o e n J _=>as b J o e n,λb o e n _=>?_,λb o e _=>?_,λb xs e=>W.tups b xs (F.tups b xs e),λb o u e=>W.frzs b o u (F.frzs b o u e),λb ps e=>?_⟩,a3,am,ac,q⟩
 .obtain⟨o',D,L⟩:=ac b o e nb;rw[L n]at D;exact am.1 b o D
 .obtain⟨o1,D⟩:=F.there b o e nin;exact W.free b o1 D (F.free b o e n nin) nin
 .by_cases J:b∈frs outer
  .obtain⟨o1,D⟩:=F.there b o e nin;obtain⟨o2,L⟩:=W.there b o1 D nin;obtain⟨_,o3,U,nf⟩:=ad.2.2.1.mem (b:=b) (by show b∈frs (envOfC qual scope s0.heap.objs.size f cdv::outer);rw[ab];exact .tail _ J);obtain⟨an,Z⟩:=ap b o3 U nf;exact⟨_,Z⟩
  .obtain⟨o',D,_⟩:=ac b o e J;exact⟨o',am.1 b o' D⟩
 .obtain⟨m1,D⟩:=F.tbls b ps e;obtain⟨m2,L⟩:=W.tbls b _ D;exact⟨m1++m2,by rw[L,Array.append_assoc]⟩
theorem kj:xqc (Yx (CXE P w) P w K mg base N qual scope f cdv A outer s0 H0 E) (λ_=>E):=by
 intro pins σ H s h' e C vs I hx q;have L:=I.base;have ap:frs (envOfC qual scope s0.heap.objs.size f cdv::outer)=s0.heap.objs.size::frs outer:=wqw rfl;have a2:∀b o,s0.heap.get? b=some o->b∉frs outer->b∉frs (envOfC qual scope s0.heap.objs.size f cdv::outer):=λb o e n=>by
  rw[ap];intro z;rcases aQ.mp z with z|z
  .exact be _ (z▸al e)
  .exact n z
 have a3:∀b∈frs (envOfC qual scope s0.heap.objs.size f cdv::outer),H b=none:=I.stkFree;have hB:∀b o,s.heap.get? b=some o->b∉frs (envOfC qual scope s0.heap.objs.size f cdv::outer)->(W.hideAll s.heap (frs (envOfC qual scope s0.heap.objs.size f cdv::outer))).get? b=some o:=λb o e n=>W.hideAll_get _ e n;have a1:HOk P w H (W.hideAll s.heap (frs (envOfC qual scope s0.heap.objs.size f cdv::outer))):=λb u D=>by
  refine(I.hok b u D).stay (λc v hc ec=>hB c v ec λhm=>?_) (λ_ z=>z) (λ_ _ z=>z);have hn:=a3 c hm;rcases hc with rfl|hc
  .rw[hn]at D;cases D
  .rw[hn]at hc;cases hc
 have ab:∀b o,s0.heap.get? b=some o->b∉frs outer->∃o',(W.hideAll s.heap (frs (envOfC qual scope s0.heap.objs.size f cdv::outer))).get? b=some o'/\(H0 b=none->o'=o):=λb o e n=>by obtain⟨o1,F⟩:=L.there b o e nin;refine⟨o1,hB b o1 F (a2 b o e n),λz=>?_⟩;have U:=L.keep b o e z n nin;rw[F]at U;exact au U
 have an:s.heap.FunFrames base (envOfC qual scope s0.heap.objs.size f cdv::outer):=I.stack;have a4:=W.funFrames_hide (as:=frs (envOfC qual scope s0.heap.objs.size f cdv::outer)) an (λa6 he b D=>fP.mpr ⟨a6,he,D⟩);refine wpAny_leaves_madeW (base:=W.hideAll s.heap (frs (envOfC qual scope s0.heap.objs.size f cdv::outer))) (h:=s.heap) I.ok.frames rfl (λb o e=>W.of_hideAll _ e) a4 hx λa5 t ac _ _ a0=>?_;have ad:∀b,b∈frs outer->∃o,s.heap.get? b=some o/\∃sl,a5.get? b=some { o with slots:=sl }:=λb D=>by obtain⟨_,o3,J,nf⟩:=an.mem (b:=b) (by show b∈frs (envOfC qual scope s0.heap.objs.size f cdv::outer);rw[ap];exact .tail _ D);exact⟨o3,J,a0 b o3 (hx.keeps b o3 J) nf⟩
 refine⟨e,C,.ref t,_,H,rfl,I.os,I.bare,⟨λb o F n nb _=>?_,λb o F n D _=>?_,λb o F n _=>L.free b o F n nin,λb o F _=>?_,L.tups,L.frzs,L.tbls⟩,a1,ac,ab,q⟩
 .obtain⟨o',Z,J⟩:=ab b o F nb;rw[J n]at Z;exact ac.1 b o Z
 .obtain⟨sl,Z⟩:=L.slot b o F n D nin;obtain⟨o3,J,am,U⟩:=ad b D;rw[Z]at J;have e5:=au J;exact⟨am,by rw[U,<-e5]⟩
 .by_cases D:b∈frs outer
  .obtain⟨o3,J,am,U⟩:=ad b D;exact⟨_,U⟩
  .obtain⟨o',Z,_⟩:=ab b o F D;exact⟨o',ac.1 b o' Z⟩
end
section
variable {P:Ac}{w:Ah}{K:Aa}{mg:Str->Option Ag}{base:Heap}
end
def qk9 (sp:Sp)(E:St->XK)(t:TA):TE:=λσ H Q=>t σ H λvs H1=>sp vs H1 Q (E σ)
def qkp (C:Aj)(m:Str)(sp:Sp)(E:St->XK)(ta:TE)(t:TA):TE:=λσ H Q=>ta σ H λx H1=>∃a dx fs,x=.ref a/\H1 a=some (.ins C dx fs)/\fs.lookup m=none /\
 t σ H1 λvs H2=>sp (x::vs) H2 Q (E σ)
def xwp (C:Aj)(sp:Sp)(E:St->XK)(t:TA):TE:=λσ H Q=>t σ H λvs H1=>∀x dx,H1 x=none->H1 dx=none->dx≠x ->
 sp (.ref x::vs) (upd (upd H1 dx (.own x)) x (.ins C dx [])) (λv H2=>v=.non/\Q (.ref x) H2) (E σ)
section
variable {X:Cx}{k:Nat}{f C:Aj}{fd:Ad}{ps:List Str}{sp:Sp}{E:St->XK}{x m:Str}{p pos apos:Pos}{e o:Expr}{es:List Expr}{ta:TE}{t:TA}
theorem qj2 {pins:List (Aj×Obj)}{σ:St}{H:Hp}{s:Ab}{Q:VK}{us:List Ag}{vs:List V}(F:FnOk X.prog X.w X.K X.mg X.base (CXE X.prog X.w) k f fd ps sp)(hr:Room k X.A)(hb:Binds X.K fd ps [])(hx:Qb X E)
  (I:Inv X pins σ H s) (r:Vals vs us) (h:sp vs H Q (E σ)):wpAny (model X.prog X.w) X.A (call (.ref f) us) (EP X pins σ Q) X.xe s:=by
 have L:(us++[]).length=ps.length:=by rw[bQ,<-r.length];exact F.len _ _ _ _ h
 have J:=hb s us I.kIn L;rw[bQ]at J;refine wpAny_call (fj (F.run X.A X.stack s H ⟨us,[]⟩ us vs Q (E σ) hr I.env0 J r h) λr s' D=>?_);cases r with
 |error e=>exact hx pins σ H s e s' I D
 |ok fl =>
  cases fl with
  |ret u=>exact I.after D
  |next=>exact False.elim D
  |brk=>exact False.elim D
  |cont=>exact False.elim D
theorem xxq (F:FnOk X.prog X.w X.K X.mg X.base (CXE X.prog X.w) k f fd ps sp)(hr:Room k X.A)(hg:Gl X x)(hm:X.mg x=some (.ref f))(hk:W.keepIn X.K (.ref f)=true)(hb:Binds X.K fd ps [])(hx:Qb X E)
  (ha:PA X (e::es) t) (hdb:autoParam ((x==("__debug__" : Str))=false) aU1._auto_1) (he:autoParam (starEach (e::es) X.env=(false,eval e X.env)::starEach es X.env) aU4._auto_1) (hpl:autoParam ((backTo pos (starEach es X.env)).any (·.1)=false) aU4._auto_1) :
  PE X (.Call (.Name x p) (e::es) [] pos) (qk9 sp E t):=by
 intro pins s σ H Q I h;refine dk (qwq I hg hm ?_ hdb);refine ik (h₀:=X.base) I.ok.mod.kin hk (thn (ha pos pins s σ H _ I h) λus s1 ⟨vs,H1,I1,r,q⟩=>⟨I1.kIn,?_⟩) he hpl;exact qj2 F hr hb hx I1 r q
theorem xq5 {pl:Sem Bool}(he:PE X o ta)(c:Cls X.K C)(hm:Meth X.K C m f)(F:FnOk X.prog X.w X.K X.mg X.base (CXE X.prog X.w) k f fd ps sp)(hr:Room k X.A)(hb:Binds X.K fd ps [])(hx:Qb X E)(ha:PA X (e::es) t)
  (hst:autoParam (starEach (e::es) X.env=(false,eval e X.env)::starEach es X.env) aU4._auto_1) (hpl:autoParam ((backTo pos (starEach es X.env)).any (·.1)=false) aU4._auto_1)
  (ht:autoParam (eval (.Call (.Attribute o m apos) (e::es) [] pos) X.env=(do
   let ov <-eval o X.env
   standAt apos.atName
   let (f,first) <-holding [ov] (getMethod ov m pl)
   callWith pos f first (backTo pos (starEach (e::es) X.env)) (backToKw pos (keywordEach [] X.env)))) aU4._auto_1) :
  PE X (.Call (.Attribute o m apos) (e::es) [] pos) (qkp C m sp E ta t):=by
 intro pins s σ H Q I h;refine W.methodCall_KW (pl:=pl) (thn (he pins s σ H _ I h) λu s1 ⟨x,H1,I1,rx,a,dx,fs,ex,ea,l,q⟩=>?_) ht;subst ex;obtain rfl:u=Value.ref a:=rx;refine qzv I1 ea c hm l ?_;refine ik (first:=[.ref a]) (h₀:=X.base) I.ok.mod.kin hm.kp (thn (ha pos pins s1 σ H1 _ I1 q) λus s2 ⟨vs,H2,I2,r,q2⟩=>⟨I2.kIn,?_⟩) hst hpl;exact qj2 (us:=.ref a::us) (vs:=.ref a::vs) F hr hb hx I2 (.cons rfl r) q2
theorem wj5 {pl:Sem Bool}(he:PE X o ta)(c:Cls X.K C)(hm:Meth X.K C m f)(F:FnOk X.prog X.w X.K X.mg X.base (CXE X.prog X.w) k f fd ps sp)(hr:Room k X.A)(hb:Binds X.K fd ps [])(hx:Qb X E)
  (ht:autoParam (eval (.Call (.Attribute o m apos) [] [] pos) X.env=(do
   let ov <-eval o X.env
   standAt apos.atName
   let (f,first) <-holding [ov] (getMethod ov m pl)
   callWith pos f first (backTo pos (starEach [] X.env)) (backToKw pos (keywordEach [] X.env)))) aU4._auto_1) :
  PE X (.Call (.Attribute o m apos) [] [] pos) (qkp C m sp E ta qwm):=by
 intro pins s σ H Q I h;refine W.methodCall_KW (pl:=pl) (thn (he pins s σ H _ I h) λu s1 ⟨x,H1,I1,rx,a,dx,fs,ex,ea,l,q⟩=>?_) ht;subst ex;obtain rfl:u=Value.ref a:=rx;refine qzv I1 ea c hm l ?_;exact W.callWith_K0 (first:=[.ref a]) I1.kIn hm.kp (qj2 (us:=[.ref a]) (vs:=[.ref a]) F hr hb hx I1 (.cons rfl .nil) q)
theorem wjf {pins:List (Aj×Obj)}{σ:St}{H:Hp}{s:Ab}{Q:VK}{us:List Ag}{vs:List V}(M:Mk X.K C f)(F:FnOk X.prog X.w X.K X.mg X.base (CXE X.prog X.w) k f fd ps sp)(hr:Room (k+1) X.A)(hb:Binds X.K fd ps [])
  (hx:Qb X E) (I:Inv X pins σ H s) (r:Vals vs us)
  (h:∀x dx,H x=none->H dx=none->dx≠x->sp (.ref x::vs) (upd (upd H dx (.own x)) x (.ins C dx [])) (λv H2=>v=.non/\Q (.ref x) H2) (E σ)) :
  wpAny (model X.prog X.w) X.A (call (.ref C) us) (EP X pins σ Q) X.xe s:=by
 have U:=h (s.heap.objs.size+1) s.heap.objs.size (I.hok.fresh (iN _)) (I.hok.fresh (aj _)) (aB (eG _));have J:=Inv.made (C:=C) I;have L:Vals (V.ref (s.heap.objs.size+1)::vs) (Value.ref (s.heap.objs.size+1)::us):=.cons rfl r;have hl:((Value.ref (s.heap.objs.size+1)::us)++[]).length=ps.length:=by rw[bQ,<-L.length];exact F.len _ _ _ _ U
 have W:=hb _ (Value.ref (s.heap.objs.size+1)::us) J.kIn hl;rw[bQ]at W;refine wpAny_call (wu2 (f:=f) I.kIn M.makes M.init (fQ.mp M.fn) (fj (F.run _ X.stack _ _ ⟨Value.ref (s.heap.objs.size+1)::us,[]⟩ (Value.ref (s.heap.objs.size+1)::us) _ _ (E σ) (hr.make C us [])
  (J.env0.make C us []) W L U) λr s' D=>?_))
 cases r with
 |error e=>exact hx pins σ _ _ e s' J D
 |ok fl =>
  cases fl with
  |ret u =>
   obtain⟨v,H',I3,Z,ev,q3⟩:=J.after D;subst ev;exact⟨Z,⟨V.ref (s.heap.objs.size+1),H',I3,rfl,q3⟩⟩
  |next=>exact False.elim D
  |brk=>exact False.elim D
  |cont=>exact False.elim D
theorem xwc (M:Mk X.K C f)(F:FnOk X.prog X.w X.K X.mg X.base (CXE X.prog X.w) k f fd ps sp)(hr:Room (k+1) X.A)(hg:Gl X x)(hm:X.mg x=some (.ref C))(hb:Binds X.K fd ps [])(hx:Qb X E)
  (ha:PA X (e::es) t) (hdb:autoParam ((x==("__debug__" : Str))=false) aU1._auto_1) (he:autoParam (starEach (e::es) X.env=(false,eval e X.env)::starEach es X.env) aU4._auto_1) (hpl:autoParam ((backTo pos (starEach es X.env)).any (·.1)=false) aU4._auto_1) :
  PE X (.Call (.Name x p) (e::es) [] pos) (xwp C sp E t):=by
 intro pins s σ H Q I h;refine dk (qwq I hg hm ?_ hdb);refine ik (h₀:=X.base) I.ok.mod.kin M.kp (thn (ha pos pins s σ H _ I h) λus s1 ⟨vs,H1,I1,r,q⟩=>⟨I1.kIn,?_⟩) he hpl;exact wjf M F hr hb hx I1 r q
end
structure ExcC (K:Aa)(C:Aj):Prop where
 q:W.excIn K C [.type "ValueError",.type "Exception",.type "BaseException",.type "object"] "ValueError.__new__" = true
def tRaise (C:Aj)(E:St->XK)(t:TA):TS:=λD σ H=>t σ H λvs H1=>vs.length<=sizeLine/\E σ (.ref C) none H1
section
variable {X:Cx}{C:Aj}{E:St->XK}{x:Str}{np cpos pos:Pos}{e:Expr}{es:List Expr}{t:TA}
theorem j8 (hc:X.calm=true)(c:ExcC X.K C)(hR:xqc X E)(hg:Gl X x)(hm:X.mg x=some (.ref C))(ha:PA X (e::es) t)(hdb:autoParam ((x==("__debug__" : Str))=false) aU1._auto_1)
  (he:autoParam (starEach (e::es) X.env=(false,eval e X.env)::starEach es X.env) aU4._auto_1) (hpl:autoParam ((backTo cpos (starEach es X.env)).any (·.1)=false) aU4._auto_1) :
  PS X (.Raise (some (.Call (.Name x np) (e::es) [] cpos)) none pos) (tRaise C E t):=by
 intro pins s σ H D I h;obtain⟨tl,N,a1,a2,a3,a4,a5,a6,a7,a8,a9,b0,b1,b2,b3,Z,mN,W,U,L,T⟩:=xxp I.ok.mod.kin c.q;refine wpAny_Raise_call_subT (C:=C) (nm:=a1) (q:=a2) (N:=N) (bs:=a3) (bm:=tl) (hdct:=a4) (sn:=a5) (sub:=a6) (ab:=a7) (col:=a8) (dd:=a9) (k0:=b0) (k1:=b1) (k2:=b2) (k3:=b3) (k5:=Z)
  im (mN:=mN) (T.hasType im.hasBase) (I.ok.hd hc) (by rw[he];show(false||(backTo cpos (starEach es X.env)).any (·.1))=false;rw[hpl];rfl) L (qwq I hg hm ⟨rfl,?_⟩ hdb)
 have F:=ha cpos pins s σ H _ I h;rw[he]at F ⊢;refine Calls.evalArgs_plain (aZ F (λus s1 ⟨vs,H1,I1,r,hl,q⟩=>⟨rfl,by rw[<-r.length];exact hl,I1.bk _ _ W,U.keeps I1.bk,T.keeps I1.bk,λh' e J=>hR pins σ H1 s1 h' e C us I1 J q⟩) λ_ _ z=>z)
end
def Sm (n:Nat)(i:Int):Prop:=i.natAbs<2 ^ n
theorem Sm.bits {n:Nat}{i:Int}(h:Sm n i):Builtin.Int.intBits i<=n:=PyProof.Rows.intBits_le h
theorem Sm.mono {n m:Nat}{i:Int}(h:Sm n i)(hm:n<=m):Sm m i:=aL h (dv ⋯ hm)
theorem Sm.mul {n m:Nat}{i j:Int}(h:Sm n i)(h':Sm m j):Sm (n+m) (i*j):=by unfold Sm at *;rw[gf,Nat.pow_add];exact Nat.mul_lt_mul_of_lt_of_le h (br h') (jG m)
theorem Sm.of_le {n:Nat}{i j:Int}(h:Sm n j)(e:i.natAbs<=j.natAbs):Sm n i:=eN e h
theorem Sm.ok {n m:Nat}{i j:Int}(h:Sm n i)(h':Sm m j)(e:n+m<=134217728):IntMulOk i j:=IntMulOk.of_le h.bits h'.bits e
theorem Sm.log {n:Nat}{i:Int}(h:Sm n i)(hn:n<=9000):i.natAbs.log2<9000:=by
 by_cases h0:i.natAbs=0
 .rw[h0];decide
 .exact aL ((Nat.log2_lt h0).mpr h) hn
theorem Sm.noPl {n:Nat}{i j:Int}(h:Sm n j)(hn:n<=9000):Builtin.divisionGoesByPylong i j=false:=PyProof.noPylong_of_log2 (h.log hn)
section
variable {X:Cx}
theorem zw:OpR X (binaryOp .Mult) (rI IntMulOk λi j=>.int (i*j)):=opI λ_ _ _ _ _ _ _ hc q=>mul_int q hc
theorem uc:OpR X (binaryOp .FloorDiv) (rI (λ_ j=>0<j/\Sm 9000 j) λi j=>.int (i/j)):=opI λi j _ _ _ _ _ hc q =>
 floordiv_int ⋯ (by rw[Int.fdiv_eq_ediv_of_nonneg i (gh hc.1)];exact q) (.inl (hc.2.noPl (aj _)))
theorem Qr:kr X (.builtin "isinstance") (λxs H Q=>∃x T t b,xs=[x,.ty T]/\TyOf X.K H x t/\W.kitOne X.K t (.type T)=some b/\Q (.bl b) H):=by intro pins s σ H xs J Q I r h;obtain⟨x,T,t,b,rfl,ty,e,q⟩:=h;obtain⟨u,L,rfl,F,D⟩:=wuk r;cases D;exact wjv I F ty e λtk=>⟨.bl b,H,I.tok tk,rfl,q⟩
end
mutual
def RD (K:Aa)(H:Hp):PyData->V->Prop
 |.none,v=>v=.non
 |.bool b,v=>v=.bl b
 |.int i,v=>v=.int i
 |.str x,v=>v=.str x
 |.list ds,v=>∃a xs,v=.ref a/\SqL K H a xs/\RDs K H ds xs
 |.tuple ds,v=>∃a xs,v=.ref a/\SqT K H a xs/\RDs K H ds xs
 |.dict _,_=>False
def RDs (K:Aa)(H:Hp):List PyData->List V->Prop
 |[],xs=>xs=[]
 |d::ds,xs=>∃y ys,xs=y::ys/\RD K H d y/\RDs K H ds ys
end
section
variable {X:Cx}{pins:List (Aj×Obj)}{σ:St}{H:Hp}{s:Ab}
mutual
theorem qxf (I:Inv X pins σ H s):∀(d:PyData) (v:V) (u:Ag),RD X.K H d v->RelV v u->∃as,Reads s.heap u d as
 |.none,v,u,h,r=>by rw[RD]at h;subst h;cases(show u=Value.none from r);exact⟨_,.none⟩
 |.bool b,v,u,h,r=>by rw[RD]at h;subst h;cases(show u=Value.bool b from r);exact⟨_,.bool b⟩
 |.int i,v,u,h,r=>by rw[RD]at h;subst h;obtain⟨t,rfl⟩:=(show ∃t,u=Value.int i t from r);exact⟨_,.int i t⟩
 |.str x,v,u,h,r=>by rw[RD]at h;subst h;obtain⟨t,rfl⟩:=(show ∃t,u=Value.str x t from r);exact⟨_,.str x t⟩
 |.list ds,v,u,h,r=>by rw[RD]at h;obtain⟨a,xs,rfl,hs,hd⟩:=h;cases(show u=Value.ref a from r);obtain⟨its,rv,⟨o,n,e1,e2,_,e3⟩,_⟩:=I.list hs;obtain⟨as,ha⟩:=Jn I ds xs its hd rv;exact⟨_,.list e1 e2 e3 (by simpa using ha)⟩
 |.tuple ds,v,u,h,r=>by rw[RD]at h;obtain⟨a,xs,rfl,hs,hd⟩:=h;cases(show u=Value.ref a from r);obtain⟨its,rv,⟨o,e1,e2,n,e3⟩,_⟩:=I.tuple hs;obtain⟨as,ha⟩:=Jn I ds xs its hd rv;exact⟨_,.tuple e1 e2 e3 (by simpa using ha)⟩
 |.dict _,_,_,h,_=>by rw[RD]at h;exact h.elim
theorem Jn (I:Inv X pins σ H s):∀(ds:List PyData) (vs:List V) (us:List Ag),RDs X.K H ds vs->Vals vs us->∃as,ReadsAll s.heap us ds as
 |[],vs,us,h,r=>by rw[RDs]at h;subst h;cases r;exact⟨_,.nil⟩
 |d::ds,vs,us,h,r=>by
  rw[RDs]at h;obtain⟨y,ys,rfl,h1,h2⟩:=h;cases r with
  |cons r1 r2 =>
   obtain⟨as,a1⟩:=qxf I d y _ h1 r1;obtain⟨bs,a2⟩:=Jn I ds ys _ h2 r2;exact⟨_,.cons a1 a2⟩
end
def rEqD (K:Aa)(neg:Bool):R2:=λx y H Q=>∃d e,RD K H d x/\RD K H e y/\d.canLay0=true/\e.canLay0=true/\min d.depth e.depth<=60/\Q (.bl (if neg then !PyData.eqv d e else PyData.eqv d e)) H
theorem op_eqD (hu:X.A.units+64<cLine):OpR X (compareOp .Eq) (rEqD X.K false):=by intro pins s σ H x y v u Q I F D h;obtain⟨d,e,h1,h2,L,J,Z,q⟩:=h;obtain⟨as,W⟩:=qxf I d x v h1 F;obtain⟨bs,U⟩:=qxf I e y u h2 D;exact PySem.SeqAt.compareEq_reads W U L J ⋯ ⟨.bl _,H,I,rfl,q⟩
end
def ptD (p:Int×Int):PyData:=.tuple [.int p.1,.int p.2]
theorem qun:∀(xs ys:List Int),PyData.eqvAll (xs.map .int) (ys.map .int)=decide (xs=ys)
 |[],[]=>rfl
 |[],_::_=>rfl
 |_::_,[]=>rfl
 |x::xs,y::ys=>by
  rw[aM,aM,PyData.eqvAll,qun xs ys,PyData.eqv];by_cases h:x=y
  .subst h;simp
  .simp[h]
theorem eqv_pt (p q:Int×Int):PyData.eqv (ptD p) (ptD q)=decide (p=q):=by obtain⟨a,b⟩:=p;obtain⟨c,d⟩:=q;unfold ptD;rw[PyData.eqv];have:=qun [a,b] [c,d];rw[aM,aM,d9,aM,aM,d9]at this;rw[this];simp
end L2
namespace L2
open PySem PySem.Spec PyProof.Rows
section
variable {P:Ac}{w:Ah}{K:Aa}{mg:Str->Option Ag}{base:Heap}
theorem Fun.okX {x qual:Str}{st:Stmt}{f:Aj}{fd:Ad}{N ps:List Str}{k:Nat}{sp:Sp}(F:Fun K x qual st f fd)(S:FnScope N ps (q8 st))(len:∀vs H Q E,sp vs H Q E->vs.length=ps.length)
  (body:∀(cdv:Ag) (A:Ae) (outer:List Env) (s:Ab) (H:Hp) (vs:List V) (Q:VK) (E:XK),Room k (A.deeper (envOfC qual (q8 st) s.heap.objs.size f cdv))->sp vs H Q E ->
   ∃t,PSs (Yx (CXE P w) P w K mg base N qual (q8 st) f cdv A outer s H E) (zt st) t/\t { nx:=λ_ H'=>Q .non H',rt:=Q } (W1 N vs) H):FnOk P w K mg base (CXE P w) (k+1) f fd ps sp:=by
 obtain⟨oc,Z,kV,ab,pm,an,cdv,ct,W,rfl,D,U⟩:=F.ex;exact xwg D U S len λA outer s H vs Q E L J=>body cdv A outer s H vs Q E L J
structure DefIn (K:Aa)(x:Str)(st:Stmt):Prop where
 ex:∃f fd,W.nsIn K mainGlobals x=some (some (.ref f))/\Fun K x x st f fd
theorem def_mk {x:Str}{st:Stmt}{f:Aj}{oc:Ag}{od an:Option Aj}{osl:Array (Option Ag)}{kV doc pm cdv ct:Ag}(a:W.nsIn K mainGlobals x=some (some (.ref f)))
  (l:K.lookup f=some ⟨oc,od,.func (W.fnOf x x (v9 st) (zt st) (q8 st) .none kV doc pm an cdv ct),osl⟩) (c:W.codeIn K cdv x=true) (k:W.keepIn K (.ref f)=true):DefIn K x st:=⟨_,_,a,wzd l c k⟩
def xg (x:Str)(st:Stmt)(ps:List Str):Prop:=∀(kV doc pm:Ag) (an:Option Aj) (cdv ct:Ag) (us:List Ag),us.length=ps.length->bindArgs (W.fnOf x x (v9 st) (zt st) (q8 st) .none kV doc pm an cdv ct) ⟨us,[]⟩=pure (ps.zip us)
theorem bA1 {f}{ps:List Str}{u:List Ag}(h:u.length=1)(k:∀a,bindArgs f ⟨[a],[]⟩=pure (ps.zip [a])):bindArgs f ⟨u,[]⟩=pure (ps.zip u):=match u,h with|[a],_=>k a
theorem bA2 {f}{ps:List Str}{u:List Ag}(h:u.length=2)(k:∀a b,bindArgs f ⟨[a,b],[]⟩=pure (ps.zip [a,b])):bindArgs f ⟨u,[]⟩=pure (ps.zip u):=match u,h with|[a,b],_=>k a b
theorem bA3 {f}{ps:List Str}{u:List Ag}(h:u.length=3)(k:∀a b c,bindArgs f ⟨[a,b,c],[]⟩=pure (ps.zip [a,b,c])):bindArgs f ⟨u,[]⟩=pure (ps.zip u):=match u,h with|[a,b,c],_=>k a b c
theorem bA4 {f}{ps:List Str}{u:List Ag}(h:u.length=4)(k:∀a b c d,bindArgs f ⟨[a,b,c,d],[]⟩=pure (ps.zip [a,b,c,d])):bindArgs f ⟨u,[]⟩=pure (ps.zip u):=match u,h with|[a,b,c,d],_=>k a b c d
structure Cal (P:Ac)(w:Ah)(K:Aa)(mg:Str->Option Ag)(base:Heap)(x:Str)(k:Nat)(sp:Sp):Prop where
 ex:∃f fd ps,mg x=some (.ref f)/\FnOk P w K mg base (CXE P w) k f fd ps sp/\W.keepIn K (.ref f)=true/\Binds K fd ps []
theorem DefIn.cal {x:Str}{st:Stmt}{ps:List Str}{k:Nat}{sp:Sp}{h:Heap}(d:DefIn K x st)(KX:K.In h)(G:h.Ns mainGlobals mg)(b:xg x st ps)(ok:∀f fd,Fun K x x st f fd->FnOk P w K mg base (CXE P w) k f fd ps sp):Cal P w K mg base x k sp:=by obtain⟨f,fd,a,F⟩:=d.ex;exact⟨f,fd,ps,bV KX G a,ok f fd F,F.kp,F.binds b⟩
end
section
variable {X:Cx}{x:Str}{k:Nat}{sp:Sp}{E:St->XK}{p pos:Pos}{e:Expr}{es:List Expr}{t:TA}
theorem wj (c:Cal X.prog X.w X.K X.mg X.base x k sp)(hr:Room k X.A)(hg:Gl X x)(hx:Qb X E)
  (ha:PA X (e::es) t) (hdb:autoParam ((x==("__debug__" : Str))=false) aU1._auto_1) (he:autoParam (starEach (e::es) X.env=(false,eval e X.env)::starEach es X.env) aU4._auto_1) (hpl:autoParam ((backTo pos (starEach es X.env)).any (·.1)=false) aU4._auto_1) :
  PE X (.Call (.Name x p) (e::es) [] pos) (qk9 sp E t):=by
 obtain⟨f,fd,ps,J,F,D,b⟩:=c.ex;exact xxq F hr hg J D b hx ha hdb he hpl
end
def tCut (t u:TS):TS:=λD σ H=>∃R:St->Hp->Prop,t { D with nx:=R } σ H/\∀σ' H',R σ' H'->u D σ' H'
theorem xxg {X:Cx}{st:Stmt}{rest:List Stmt}{t u:TS}(h1:PS X st t)(h2:PSs X rest u):PSs X (st::rest) (tCut t u):=by
 intro pins s σ H D I ⟨R,h,hR⟩;refine iY (thn (h1 pins s σ H { D with nx:=R } I h) λf J q=>?_);cases f with
 |next =>
  obtain⟨F,H1,U,L⟩:=q;exact h2 pins J F H1 D U (hR F H1 L)
 |brk=>exact q
 |cont=>exact q
 |ret u=>exact q
theorem j6 {c A B:Prop}[Decidable c](h1:c->A)(h2:¬ c->B):if decide c=true then A else B:=by
 by_cases h:c
 .rw[aR h];exact Wj (h1 h)
 .rw[ba h];exact Q8 (h2 h)
theorem deqI {i j:Int}:decide (V.int i=V.int j)=decide (i=j):=by
 by_cases h:i=j
 .subst h;simp
 .simp[h]
theorem yp {i j:Int}{A B:Prop}(h1:i=j->A)(h2:i≠j->B):if decide (V.int i=V.int j)=true then A else B:=by rw[deqI];exact j6 h1 h2
theorem xN {i j:Int}{A B:Prop}(k:B)(h:autoParam (i≠j) aU1._auto_1):if decide (V.int i=V.int j)=true then A else B:=yp (λz=>absurd z h) (λ_=>k)
theorem Same.upd {H:Hp}{p:Aj}{o:HO}(n:H p=none):Same H (upd H p o):=λb u e=>by rw[qt (q9 e n)];exact e
theorem Same.rd {H H':Hp}{a:Aj}{o:HO}(h:Same H H')(r:Rd H a o):Rd H' a o:=by
 rcases r with r|⟨u,r⟩
 .exact .inl (h a _ r)
 .exact .inr ⟨u,h a _ r⟩
theorem Same.sqt {K:Aa}{H H':Hp}{a:Aj}{xs:List V}(h:Same H H')(s:SqT K H a xs):SqT K H' a xs:=by
 rcases s with s|s
 .exact .inl (h.rd s)
 .exact .inr s
theorem Same.sql {K:Aa}{H H':Hp}{a:Aj}{xs:List V}(h:Same H H')(s:SqL K H a xs):SqL K H' a xs:=h.seq s
theorem SqT.new {K:Aa}{H:Hp}{p:Aj}{xs:List V}:SqT K (upd H p (.tup xs)) p xs:=SqT.of qc
theorem SqL.new {K:Aa}{H:Hp}{p:Aj}{xs:List V}:SqL K (upd H p (.lst xs)) p xs:=SqL.of qc
theorem qxn:bootBuiltins "abs" = some (.builtin "abs"):=by decide +kernel
theorem xqm:bootBuiltins "all" = some (.builtin "all"):=by decide +kernel
theorem qq3 {ns:List Int}{i:Int}(h0:0<=i)(h1:i<ns.length):atI (ns.map V.int) i=some (V.int (ns.getD i.toNat 0)):=by
 have D:i.toNat<ns.length:=by lia
 have e:(ns.map V.int)[i.toNat]?=some (V.int (ns.getD i.toNat 0)):=by rw[ax,af,ae D];rfl
 have:=jz e;rwa [cA h0]at this
def qu9 (ns:List Int)(i:Int):Int:=if i<ns.length then ns.getD i.toNat 0 else if(ns.length:Int)=0 then 7*i+3 else ns.getD (i%ns.length).toNat 0+1009*i
def divs (c:Int):Nat->Int
 |0=>c
 |n+1=>divs c n/1000
def wxk (K:Aa):Sp:=λvs H Q _=>∃(a:Aj) (ns:List Int) (i:Int),vs=[.ref a,.int i]/\SqL K H a (ns.map V.int)/\0<=i/\∀r,r=qu9 ns i->Q (.int r) H
def Q6 (c:Int):Int:=if c<0 then -c else c
def qkr (c t:Int):Int:=(c%1000003*48271+t*7919+101)%999983
def qy5 (c t:Int):Int:=(qkr c t*qkr c t+c%1000003*31+t*104729)%1000033
def wq7 (c t:Int):Int:=if 10 ^ 18<=Q6 c then(if c<0 then divs (Q6 c) t.toNat%1000 else divs (Q6 c) t.toNat) else(qy5 c t*qy5 c t+qkr c t*17+t*30011)%999979
def wwx (ns:List Int)(i t m:Int):Int:=wq7 (qu9 ns i) t%m
theorem wy3 (ns:List Int)(i t m:Int)(h:0<m):0<=wwx ns i t m:=cQ _ ⋯
theorem wyh (ns:List Int)(i t m:Int)(h:0<m):wwx ns i t m<m:=cu _ h
theorem xws {c t:Int}(h:10 ^ 18<=Q6 c)(n:c<0):wq7 c t=divs (Q6 c) t.toNat%1000:=by rw[wq7,av h,av n]
theorem wjz {c t:Int}(h:10 ^ 18<=Q6 c)(n:¬ c<0):wq7 c t=divs (Q6 c) t.toNat:=by rw[wq7,av h,ao n]
theorem xqw {c t:Int}(h:¬ 10 ^ 18<=Q6 c):wq7 c t=(qy5 c t*qy5 c t+qkr c t*17+t*30011)%999979:=by rw[wq7,ao h]
def Zy (K:Aa):Sp:=λvs H Q _=>∃(a:Aj) (ns:List Int) (i t m:Int),vs=[.ref a,.int i,.int t,.int m]/\SqL K H a (ns.map V.int)/\0<=i/\0<=t/\t<1000000/\0<m /\
 ∀r,r=wwx ns i t m->0<=r->r<m->Q (.int r) H
theorem Sm.small {n:Nat}{i:Int}(h1:-(2 ^ 64)<=i)(h2:i<=2 ^ 64)(hn:65<=n):Sm n i:=by refine Sm.mono (n:=65) ?_ hn;unfold Sm;lia
theorem sz1 {x:V}:[x].length<=sizeLine:=by show 1<=sizeLine;decide
theorem sz2 {x y:V}:[x,y].length<=sizeLine:=by show 2<=sizeLine;decide
theorem sz0:([]:List V).length<=sizeLine:=by show 0<=sizeLine;decide
end L2
namespace L2
open PySem
def qqd (x y:Int):Int:=((Nat.gcd x.toNat y.toNat:Nat):Int)
theorem wkq {x:Int}(h:0<=x):qqd x 0=x:=by unfold qqd;have:(0:Int).toNat=0:=rfl;rw[this,Nat.gcd_zero_right];lia
theorem wj3 {x y:Int}(hx:0<=x)(hy:0<y):qqd y (x%y)=qqd x y:=by
 unfold qqd;have e:(x%y).toNat=x.toNat%y.toNat:=by
  have h1:x=(x.toNat:Int):=by lia
  have h2:y=(y.toNat:Int):=by lia
  have D:x%y=((x.toNat%y.toNat:Nat):Int):=by
   conv=>lhs;rw[h1,h2]
   exact(Int.natCast_emod _ _).symm
  rw[D];exact bH _
 rw[e,Nat.gcd_comm y.toNat,<-Nat.gcd_rec,Nat.gcd_comm]
theorem wvy (t:Int):Q6 t=(t.natAbs:Int):=by unfold Q6;split <;> lia
theorem xz5 (t:Int):0<=Q6 t:=by rw[wvy];lia
theorem kh (t b:Int):qqd (Q6 t) b=((Nat.gcd t.natAbs b.toNat:Nat):Int):=by unfold qqd;rw[wvy,bH]
def gOf (t b:Int):Int:=qqd (Q6 t) b
def wc (t b:Int):Int×Int:=(t/gOf t b,b/gOf t b)
theorem ym {t b:Int}(h:1<=b):1<=gOf t b:=by unfold gOf;rw[kh];have:0<Nat.gcd t.natAbs b.toNat:=Nat.gcd_pos_of_pos_right _ ⋯;lia
theorem gOf_le {t b:Int}(h:1<=b):gOf t b<=b:=by unfold gOf;rw[kh];have:Nat.gcd t.natAbs b.toNat<=b.toNat:=Nat.gcd_le_right _ ⋯;lia
theorem wkv {t b:Int}(h:1<=b):gOf t b∣b:=by
 unfold gOf;rw[kh];have h1:((Nat.gcd t.natAbs b.toNat:Nat):Int)∣(b.toNat:Int):=i3.mpr (Nat.gcd_dvd_right _ _);have h2:(b.toNat:Int)=b:=by lia
 rwa [h2]at h1
theorem wkk {t b:Int}:gOf t b∣t:=by unfold gOf;rw[kh];have h1:((Nat.gcd t.natAbs b.toNat:Nat):Int)∣(t.natAbs:Int):=i3.mpr (Nat.gcd_dvd_left _ _);exact Int.dvd_natAbs.mp h1
theorem qkz {t b:Int}:gOf t b*(t/gOf t b)=t:=gM wkk
theorem qqq {t b:Int}(h:1<=b):gOf t b*(b/gOf t b)=b:=gM (wkv h)
theorem jr {t b:Int}(h:1<=b):(wc t b).1*b=t*(wc t b).2:=by
 unfold wc;dsimp only;have h1:=qkz (t:=t) (b:=b);have h2:=qqq (t:=t) (b:=b) h
 conv=>lhs;rw[<-h2]
 conv=>rhs;rw[<-h1]
 rw[h1,h2];have F:t/gOf t b*b=t/gOf t b*(gOf t b*(b/gOf t b)):=by rw[h2]
 have D:t*(b/gOf t b)=gOf t b*(t/gOf t b)*(b/gOf t b):=by rw[h1]
 rw[F,D,<-jV,eP (t/gOf t b)]
theorem vt {t b:Int}(h:1<=b):1<=(wc t b).2:=by
 show 1<=b/gOf t b;have h2:=qqq (t:=t) (b:=b) h;have D:=ym (t:=t) h;have:0<b/gOf t b:=by
  rcases cZ 0 (b/gOf t b) with z|z
  .exact z
  .have:=bf z (show 0<=gOf t b by lia);rw[h2,jC]at this;lia
 lia
theorem Zw {t b:Int}(h:1<=b):(wc t b).2<=b:=Int.ediv_le_self _ ⋯
theorem Ju {t b:Int}(h:1<=b):gOf (wc t b).1 (wc t b).2=1:=by
 have h3:=ym (t:=t) h;have hb:=vt (t:=t) h;obtain⟨g,D⟩:∃g:Nat,gOf t b=(g:Int):=⟨_,by unfold gOf;exact kh t b⟩;have U:0<g:=by lia
 have L:g=Nat.gcd t.natAbs b.toNat:=by
  have:(g:Int)=((Nat.gcd t.natAbs b.toNat:Nat):Int):=by rw[<-D];unfold gOf;exact kh t b
  lia
 have W:g*(wc t b).1.natAbs=t.natAbs:=by have:=qkz (t:=t) (b:=b);have e:=cK Int.natAbs this;rw[gf,D]at e;simpa [wc,D] using e
 have Z:g*(wc t b).2.toNat=b.toNat:=by
  have:=qqq (t:=t) (b:=b) h;rw[D]at this;have q:(wc t b).2=b/(g:Int):=by unfold wc;rw[D]
  have F:b/(g:Int)=((b/(g:Int)).toNat:Int):=by rw[<-q];lia
  rw[q];rw[F]at this;have:((g*(b/(g:Int)).toNat:Nat):Int)=b:=by rw[jH];exact this
  lia
 unfold gOf;rw[kh];have J:g*Nat.gcd (wc t b).1.natAbs (wc t b).2.toNat=g*1:=by rw[<-Nat.gcd_mul_left,W,Z,<-L,Nat.mul_one]
 have:=Nat.eq_of_mul_eq_mul_left U J;rw[this];rfl
theorem xvk {t b c:Int}(h:1<=b)(hc:1<=c):gOf (t*c) (b*c)=gOf t b*c:=by
 unfold gOf;rw[kh,kh];have L:(t*c).natAbs=t.natAbs*c.toNat:=by
  rw[gf];have:c.natAbs=c.toNat:=by lia
  rw[this]
 have J:(b*c).toNat=b.toNat*c.toNat:=by
  have F:b=(b.toNat:Int):=by lia
  have D:c=(c.toNat:Int):=by lia
  have:b*c=((b.toNat*c.toNat:Nat):Int):=by rw[jH,<-F,<-D]
  lia
 rw[L,J,Nat.gcd_mul_right,jH];have:(c.toNat:Int)=c:=by lia
 rw[this]
theorem qq6 {t b c:Int}(h:1<=b)(hc:1<=c):wc (t*c) (b*c)=wc t b:=by unfold wc;rw[xvk h hc];have hg:=ym (t:=t) h;rw[eR _ _ (show 0<c by lia),eR _ _ (show 0<c by lia)]
end L2
namespace L2
open PySem PySem.Spec PyProof.Rows
def CapAll (env:Env):List (Str×Aj)->Prop
 |[]=>True
 |(y,c)::r=>env.cells.lookup y=some c/\CapAll env r
theorem CapAll.look {env:Env}:∀ {cl:List (Str×Aj)},CapAll env cl->∀ {y:Str} {c:Aj},cl.lookup y=some c->env.cells.lookup y=some c
 |[],_,_,_,e=>by cases e
 |(z,d)::r,h,y,c,e=>by
  rw[bv]at e;cases hb:y==z with
  |true =>
   rw[hb]at e;rw[eq_of_beq hb];exact h.1.trans e
  |false =>
   rw[hb]at e;exact CapAll.look h.2 e
def HasAll (cl:List (Str×Aj)):List (Str×NameKind)->Prop
 |[]=>True
 |(n,k)::r=>(k=.free->∃c,cl.lookup n=some c)/\k≠.cell/\HasAll cl r
theorem HasAll.nocell {cl:List (Str×Aj)}:∀ {ns:List (Str×NameKind)},HasAll cl ns->∀y∈ns,y.2≠.cell
 |(n,k)::r,h,y,hy=>by
  rcases aQ.mp hy with rfl|hy
  .exact h.2.1
  .exact HasAll.nocell h.2.2 y hy
theorem HasAll.has {cl:List (Str×Aj)}{env:Env}:∀ {ns:List (Str×NameKind)},HasAll cl ns->∀ {x:Str} {q:NameKind},q=.cell\/q=.free ->
  (ns.map λ(n,k)=>if(k==NameKind.free&&env.scope.kind==.function&&env.kindOf n==some .cell) then(n,NameKind.cell) else(n,k)).lookup x=some q->∃c,cl.lookup x=some c
 |[],_,_,_,_,e=>by cases e
 |(n,k)::r,h,x,q,hq,e=>by
  have ih:=HasAll.has (env:=env) h.2.2 (x:=x) hq;rw[aM]at e;by_cases hc:(k==NameKind.free&&env.scope.kind==.function&&env.kindOf n==some .cell)=true
  .have e':=e;dsimp only at e';rw[av hc,bv]at e';cases hb:x==n with
   |true =>
    rw[bR,bR]at hc;obtain⟨c,hcc⟩:=h.1 (eq_of_beq hc.1.1);exact⟨c,by rw[eq_of_beq hb];exact hcc⟩
   |false =>
    rw[hb]at e';exact ih e'
  .have e':=e;dsimp only at e';rw[ao hc,bv]at e';cases hb:x==n with
   |true =>
    rw[hb]at e';have ek:k=q:=au e';rcases hq with rfl|rfl
    .exact absurd ek h.2.1
    .obtain⟨c,hcc⟩:=h.1 ek;exact⟨c,by rw[eq_of_beq hb];exact hcc⟩
   |false =>
    rw[hb]at e';exact ih e'
def CapIx (X:Cx)(scope:Scope)(cl:List (Str×Aj)):List Nat->Prop
 |[]=>True
 |j::r=>(∃y c,X.N[j]?=some y/\X.env.scope.names.lookup y=some .cell/\(relabel scope X.env).names.lookup y=some .cell/\cl.lookup y=some c)/\CapIx X scope cl r
theorem CapIx.get {X:Cx}{scope:Scope}{cl:List (Str×Aj)}:∀ {M:List Nat},CapIx X scope cl M->∀ {k j:Nat},M[k]?=some j ->
  ∃y c,X.N[j]?=some y/\X.env.scope.names.lookup y=some .cell/\(relabel scope X.env).names.lookup y=some .cell/\cl.lookup y=some c
 |[],_,k,j,e=>by cases e
 |i::r,h,0,j,e=>by cases e;exact h.1
 |i::r,h,k+1,j,e=>CapIx.get h.2 (k:=k) e
def Qy (X:Cx)(x:Str)(M:List Nat):List Str:=x::M.map λj=>X.N.getD j Str.empty
def zc (M:List Nat)(σ:St)(o:Option V):St:=o::M.map λj=>(σ[j]?).join
abbrev zm (X:Cx)(scope:Scope)(cl:List (Str×Aj))(x:Str)(M:List Nat)(C:Aj)(s2:Ab)(H2:Hp)(fp:List Aj)(pn:List (Aj×Obj)):Cx :=
 { X with N:=Qy X x M,s₀:=s2,H₀:=H2,env:=compEnvC scope cl C X.env,outer:=X.stack,ex:=fp,fn:=λ_=>false,pn:=pn,xe:=λ_ _=>False }
section
variable {X:Cx}{pins:List (Aj×Obj)}{σ:St}{H:Hp}{s2:Ab}{scope:Scope}{cl:List (Str×Aj)}{x:Str}{M:List Nat}{fp:List Aj}{C:Aj}{h1:Heap}{tk:Nat}
theorem Inv.compG {oo:HO}{xs:List Str}(I:Inv X pins σ H s2)(hc:CapAll X.env cl)(hh:HasAll cl scope.names)(hm:CapIx X scope cl M)(hk:scope.kind=.function)(hC:s2.heap.objs.size<C)
  (keep:∀b o,s2.heap.get? b=some o->h1.get? b=some o) (hn:h1.Ns C λ_=>none) (hD:ObjOk X.prog X.w (upd H s2.heap.objs.size oo) h1 s2.heap.objs.size oo)
  (hfp:∀b∈fp,v6 X pins H b) (hob:∀b∈fp,∃o,s2.heap.get? b=some o) :
  Inv { X with N:=xs++M.map λj=>X.N.getD j Str.empty,s₀:=s2,H₀:=H,env:=compEnvC scope cl C X.env,outer:=X.stack,ex:=fp,fn:=λ_=>false,pn:=X.pn++pins,xe:=λ_ _=>False } [] ((xs.map λ_=>none)++M.map λj=>(σ[j]?).join) (upd H s2.heap.objs.size oo) { s2 with heap:=h1,toks:=tk }:=by
 have an:=I.hok.fresh (a:=s2.heap.objs.size) (aj _);have o:=I.ok;have L:∀y c,cl.lookup y=some c->X.env.cells.lookup y=some c:=λy c e=>hc.look e;have am:∀b∈fp,b<s2.heap.objs.size:=λb U=>by obtain⟨J,e⟩:=hob b U;exact al e
 have ac:∀b∈fp,b∉frs X.stack:=λb U z=>by
  rcases aQ.mp (I.stkSub b z) with z|z
  .exact(hfp b U).2.1 z
  .exact(hfp b U).2.2.1 z
 have ap:H C=none:=I.hok.fresh (br hC);refine⟨⟨o.mod,hk,o.glob,o.blt,br hC,λy z c F D=>o.inj y z c (L y c F) (L z c D),λy Z=>?_,λy c z=>(aF z).elim,o.hd,o.frames,.inl rfl,λb U=>⟨aB (bo (am b U) hC),λy c e=>(hfp b U).2.2.2.2.1 y c (L y c e)⟩,
  λb J e=>I.bs b J e,bK o.bsz I.sz,λb J e z=>?_,ac,I.stack,I.stkFree⟩,rfl,I.bare,?_,?_,λy c e=>?_,?_,λy c e=>?_,λp hp=>?_,?_,?_⟩
 .rcases Z with Z|Z
  .exact hh.has (.inl rfl) Z
  .exact hh.has (.inr rfl) Z
 .obtain⟨F,D⟩:=I.bs b J e;exact(hfp b z).2.2.2.1.elim (λq=>o.noex b J e q) λq=>by have:=o.bs b J e;exact be _ (aL (al this.1) q)
 .exact(Un.laid (fs:=frs X.stack) (ex:=fp) (o:=oo) keep (aj _) an)
 .refine⟨_,hn,λi z v F D e3=>?_⟩;rcases bp i xs.length with hi|hi
  .have D:((xs.map λ_=>(none:Option V))++M.map λj=>(σ[j]?).join)[i]?=some (some v):=D;rw[aT (by rw[ag];exact hi),ax,ae hi]at D;cases D
  have W:(xs++M.map λj=>X.N.getD j Str.empty)[i]?=some z:=F;have ab:((xs.map λ_=>(none:Option V))++M.map λj=>(σ[j]?).join)[i]?=some (some v):=D;rw[aA hi]at W;rw[aA (by rw[ag];exact hi),ag]at ab;generalize i-xs.length=k at W ab;rw[ax]at W ab;cases hj:M[k]? with
  |none=>rw[hj]at W;cases W
  |some j =>
   rw[hj]at W ab;obtain⟨y,c,f1,f2,f3,f4⟩:=hm.get hj;have ez:X.N.getD j Str.empty=z:=au W;rw[af,f1]at ez;have as:y=z:=ez;subst as;have ev:(σ[j]?).join=some v:=au ab;have a0:σ[j]?=some (some v):=by
    cases hs:σ[j]? with
    |none=>rw[hs]at ev;cases ev
    |some w' =>
     rw[hs]at ev;have:w'=some v:=ev;rw[this]
   obtain⟨m,a1,hl⟩:=I.loc;obtain⟨u,r,l⟩:=hl j y v f1 a0 (.inr (.inl f2));refine⟨u,r,.inr ⟨.inl f3,c,f4,?_⟩⟩;rcases l with⟨lk,_⟩|⟨_,c',lc,li⟩
   .have:X.env.scope.names.lookup y=some .local:=lk;rw[f2]at this;cases this
   .rw[L y c f4]at lc;have:=au lc;subst this;exact li.keeps keep
 .obtain⟨v,hv⟩:=I.cell y c (L y c e);exact⟨v,hv.keeps keep⟩
 .show upd H s2.heap.objs.size oo C=none;rw[qt (fi hC)];exact ap
 .show upd H s2.heap.objs.size oo c=none;obtain⟨v,J,F,D⟩:=I.cell y c (L y c e);rw[qt (aB (al F))];exact I.freeC y c (L y c e)
 .have ad:p∈X.pn++pins:=(aY.mp hp).elim (λz=>z) λz=>nomatch z;obtain⟨F,D,e3,e4,e5⟩:=I.pin p ad;refine⟨keep _ _ F,?_,aB (bo (al F) hC),λz=>?_,e5⟩
  .rw[qt (aB (al F))];exact D
  .rcases aQ.mp (I.stkSub p.1 z) with z|z
   .exact e3 z
   .exact e4 z
 .exact I.hok.laid keep (aj _) hD
 .show((xs.map λ_=>(none:Option V))++M.map λj=>(σ[j]?).join).length=(xs++M.map λj=>X.N.getD j Str.empty).length;simp only[ar,ag]
theorem Inv.comp (I:Inv X pins σ H s2)(hc:CapAll X.env cl)(hh:HasAll cl scope.names)(hm:CapIx X scope cl M)(hk:scope.kind=.function)(hC:s2.heap.objs.size<C)
  (keep:∀b o,s2.heap.get? b=some o->h1.get? b=some o) (hn:h1.Ns C λ_=>none) (hD:h1.get? s2.heap.objs.size=some { cls:=.type "list",data:=.seq #[] 0 })
  (hfp:∀b∈fp,v6 X pins H b) (hob:∀b∈fp,∃o,s2.heap.get? b=some o) :
  Inv (zm X scope cl x M C s2 H fp (X.pn++pins)) [] (zc M σ none) (upd H s2.heap.objs.size (.lst [])) { s2 with heap:=h1,toks:=tk }:=I.compG (xs:=[x]) hc hh hm hk hC keep hn ⟨aW _,[],0,.nil,hD⟩ hfp hob
theorem Inv.uncomp {pins':List (Aj×Obj)}{σ':St}{H':Hp}{s':Ab}{h':Heap}(I:Inv X pins σ H s2)(hC:s2.heap.objs.size<=C)(hfp:∀b∈fp,v6 X pins H b)
  (J:Inv (zm X scope cl x M C s2 H fp (X.pn++pins)) pins' σ' H' s') (hs:Heap.SameBut C s'.heap h'):Inv X pins σ H' { s' with heap:=h' }:=by
 have D:=J.base;have U:∀b o,s2.heap.get? b=some o->b≠C:=λb o e=>aB (aL (al e) hC);have st:∀b o,b≠C->s'.heap.get? b=some o->h'.get? b=some o:=λb o n e=>(hs.2 b n).trans e;refine I.call' (s':={ s' with heap:=h' }) (ch:=fp) J.os ⟨λb o e n nb F=>st b o (U b o e) (D.keep b o e n nb F),λb o e n ac F=>?_,D.free,λb o e F=>?_,D.tups,D.frzs,D.tbls⟩ ?_ J.bare λb ab=>?_
 .obtain⟨sl,Z⟩:=D.slot b o e n ac F;exact⟨sl,st b _ (U b o e) Z⟩
 .obtain⟨o',Z⟩:=D.there b o e F;exact⟨o',st b _ (U b o e) Z⟩
 .intro b u W;have fr:H' C=none:=J.free;refine(J.hok b u W).stay (λc v L e=>st c v ?_ e) (λ_ z=>z) λ_ _ z=>z;rcases L with rfl|L
  .intro z;rw[z,fr]at W;cases W
  .intro z;rw[z,fr]at L;cases L
 .obtain⟨q1,q2,q3,q4,q5,q6⟩:=hfp b ab;exact⟨q4,q2,q5,q6⟩
end
def Wk (J:It)(M:List Nat)(te:TE)(σ:St)(H1:Hp)(Q:VK):Prop:=∀p,H1 p=none->∃W:Nat->Nat->List V->Hp->Prop,(∃m,W 0 m [] (upd H1 p (.lst []))) /\
 ∀i m ys H2,W i m ys H2->H2 p=some (.lst ys)/\ys.length<sizeLine/\((J.stop i H2/\Q (.ref p) H2)\/(J.go i H2/\∀v H3,J.yld i H2 v H3 ->
  te (zc M σ (some v)) H3 λy H4=>H4 p=some (.lst ys)/\∃m',m'<m/\W (i+1) m' (ys++[y]) (upd H4 p (.lst (ys++[y])))))
def wz5 (M:List Nat)(wi:TI)(te:TE):TE:=λσ H Q=>wi σ H λJ H1=>Wk J M te σ H1 Q
theorem k9 {Y:Cx}{tg e:Expr}{k:Nat}{acc:Ag}{it:Aj}{fp:List Aj}{tn:Nat->Heap->Prop}{J:It}{ps:Pos}{REST:Sem PySem.Fin}{post:Result->Ab->Prop}{gg:TG}{pins:List (Aj×Obj)}{σ:St}{V:Nat->Nat->Hp->Prop}{Qd:Hp->Prop}{s0:Ab}{H0:Hp}{n0:Nat}
  (T:Turn Y.prog Y.w Y.K tg J fp it tn) (hc:Y.calm=true) (hx:∀v s,Y.xe v s->False)
  (hturn:compTurn e k (.ref it) acc Y.env=(standAt ps >>= λ_=>pyNext (.ref it) >>= λr=>match r with|none=>pure (.done .next)|some v=>letOwnedTupleGo tg (.ref it) v >>= λ_=>assign tg Y.env v >>= λ_=>REST))
  (hun:Y.A.under (.compLoop e k (.ref it) acc Y.env)=Y.A) (hden:(model Y.prog Y.w).den (.compLoop e k (.ref it) acc Y.env)=((compTurn e k (.ref it) acc Y.env).onRaise λz=>do noteFrame z Y.env;theTreesLotGoes z))
  (hg:PG Y tg gg) (fok:∀H2:Hp,(∀b∈fp,H2 b=none)->∀b∈fp,v6 Y pins H2 b)
  (hV:∀i n H2,V i n H2->(J.stop i H2/\Qd H2)\/(J.go i H2/\∀v H3,J.yld i H2 v H3->∃Z:St->Hp->Prop,gg v σ H3 Z/\∀σ4 H4,Z σ4 H4->(σ.length=σ4.length/\∀(k:Nat) z,σ[k]?=some (some z)->σ4[k]?=some (some z))/\∀pins' s',Inv Y pins' σ4 H4 s' ->
   wpAny (model Y.prog Y.w) Y.A REST (λr s5=>r=Fin.again (.compLoop e k (.ref it) acc Y.env)/\∃H5,Inv Y pins' σ4 H5 s5/\∃n',n'<n/\V (i+1) n' H5) Y.xe s'))
  (fin:∀H2 s4,Inv Y pins σ H2 s4->Qd H2->post (.ok .next) s4) (I:Inv Y pins σ H0 s0) (v0:V 0 n0 H0) (t0:tn 0 s0.heap) (nf:∀b∈fp,H0 b=none) :
  codeAny (model Y.prog Y.w) Y.A (.compLoop e k (.ref it) acc Y.env) post s0:=by
 refine codeAny_loop rfl (λn D=>∃i H2,V i n H2/\Inv Y pins σ H2 D/\tn i D.heap/\∀b∈fp,H2 b=none) (λn D hI=>?_) n0 ⟨0,H0,v0,I,t0,nf⟩;obtain⟨i,H2,w,J2,t,ab⟩:=hI;rw[hun,hden];refine wpAny_noted ?_;rw[hturn];refine aa (cV (aa ?_));rcases hV i n H2 w with⟨ad,hq⟩|⟨a0,hy⟩
 .refine aZ (T.done Y rfl rfl rfl hc i pins D _ H2 (λ_ _=>False) J2 (fok H2 ab) t ad) (λr s4 U=>?_) λ_ _ z=>z.elim;obtain⟨rfl,J4⟩:=U;exact ai (fin H2 s4 J4 hq)
 .refine aZ (T.item Y rfl rfl rfl hc i pins D _ H2 (λ_ _=>False) J2 (fok H2 ab) t a0) (λr s4 U=>?_) λ_ _ z=>z.elim;obtain⟨u,rfl,hw⟩:=U;refine aa (aZ hw (λ_ s5 ap=>?_) λ_ _ z=>z.elim);obtain⟨v,H3,J5,rv,yl,L,nf⟩:=ap;obtain⟨Z,hz,hZ⟩:=hy v H3 yl;refine aa (aZ (hg _ s5 _ H3 v u _ (J5.pinned (fok H3 nf) (T.obj _ _ L)) rv hz) (λ_ s6 an=>?_) λv s z=>(hx v s z).elim);obtain⟨σ6,H6,J6,z6⟩:=an;obtain⟨⟨hl,ac⟩,hR⟩:=hZ σ6 H6 z6;refine aZ (hR _ s6 J6) (λr s7 am=>?_) λv s z=>(hx v s z).elim;obtain⟨rfl,H7,W,n',as,v7⟩:=am;refine⟨rfl,n',as,i+1,H7,v7,(W.unpinned (pins:=pins)).weak hl ac,?_,?_⟩
  .exact T.keep _ _ _ L λb F o e=>(W.pin (b,o) (aN _ (aN _ (Qx F e)))).1
  .intro b F;obtain⟨o,e,_⟩:=T.obj _ _ L b F;exact(W.pin (b,o) (aN _ (aN _ (Qx F e)))).2.1
section
variable {Y:Cx}{elt cd:Expr}{te:TE}{tt:TT}{c:Code}{p:Aj}{σ:St}{H:Hp}{pins:List (Aj×Obj)}{s:Ab}
def appS (elt:Expr)(acc:Ag)(env:Env)(c:Code):Sem PySem.Fin:=(eval elt env >>= λx=>call (.builtin "list.append") [acc,x] >>= λ_=>pure ()) >>= λ_=>again c
theorem Z7 {ys:List V}{N:List V->Hp->Prop}(hx:∀v s,Y.xe v s->False)(he:PE Y elt te)(J:Inv Y pins σ H s)(hz:ys.length<sizeLine)(h:te σ H λy H4=>H4 p=some (.lst ys)/\N (ys++[y]) (upd H4 p (.lst (ys++[y])))) :
  wpAny (model Y.prog Y.w) Y.A (appS elt (.ref p) Y.env c) (λr s5=>r=Fin.again c/\∃H5,Inv Y pins σ H5 s5/\∃zs,N zs H5) Y.xe s:=by
 refine aa (aa (aZ (he _ s _ H _ J h) (λF L ab=>?_) λ_ _ z=>z));obtain⟨y,H4,J7,U,ac,W⟩:=ab;refine aa (aZ (jp (X:=Y) _ L _ H4 (.ref p) [y] (.ref p) [F] (λ_ D=>D=upd H4 p (.lst (ys++[y]))) J7 rfl (.cons U .nil) ⟨_,ys,y,rfl,rfl,ac,hz,rfl⟩) (λ_ s8 Z=>?_) λ_ _ z=>z);obtain⟨_,D,J8,_,rfl⟩:=Z;exact ai (ai ⟨rfl,_,J8,_,W⟩)
def tstS (cd:Expr)(env:Env)(a b:Sem PySem.Fin):Sem PySem.Fin:=(forIn [cd] true λc r=>if r=true then do let ok <-isTrue c env (eval c env);pure (ForInStep.yield ok) else pure (ForInStep.yield r)) >>= λok=>if ok=true then a else b
theorem Zg {a b:Sem PySem.Fin}{F:Hp->Prop}{G:Hp->Prop}{R:PySem.Fin->Ab->Prop}(ht:PT Y cd tt)(J:Inv Y pins σ H s)(h:tt σ H λok H4=>if ok=true then F H4 else G H4)
  (ha:∀s' H4,Inv Y pins σ H4 s'->F H4->wpAny (model Y.prog Y.w) Y.A a R Y.xe s') (hb:∀s' H4,Inv Y pins σ H4 s'->G H4->wpAny (model Y.prog Y.w) Y.A b R Y.xe s') :
  wpAny (model Y.prog Y.w) Y.A (tstS cd Y.env a b) R Y.xe s:=by
 refine aa (wpAny_tests_one (aZ (ht _ s _ H _ J h) (λok D Z=>?_) λ_ _ z=>z));obtain⟨W,U,L⟩:=Z;cases ok with
 |false=>exact hb D W U L
 |true=>exact ha D W U L
end
section
variable {X:Cx}{elt iter cd:Expr}{x:Str}{px pos:Pos}{scope:Scope}{cl:List (Str×Aj)}{M:List Nat}{wi:TI}{te:TE}{tt:TT}{pins:List (Aj×Obj)}{σ:St}
theorem Zf {N:List Str}{C:Aj}{s2:Ab}{H1:Hp}{fp:List Aj}(hcap:CapAll X.env cl)(I2:Inv X pins σ H1 s2)(hlt:s2.heap.objs.size<C)(hfp:∀b∈fp,v6 X pins H1 b)(hbl:∀b∈fp,b<s2.heap.objs.size)(H2:Hp)(hn:∀b∈fp,H2 b=none) :
  ∀b∈fp,v6 { X with N:=N,s₀:=s2,H₀:=H1,env:=compEnvC scope cl C X.env,outer:=X.stack,ex:=fp,fn:=λ_=>false,pn:=X.pn++pins,xe:=λ_ _=>False } [] H2 b:=λb hb=>by
 obtain⟨q1,q2,q3,q4,q5,q6⟩:=hfp b hb;refine⟨hn b hb,aB (bo (hbl b hb) hlt),λz=>?_,.inl hb,λy c e=>q5 y c (hcap.look e),λp hp=>q6 p ((aY.mp hp).elim (λz=>z) λz=>nomatch z)⟩;rcases aQ.mp (I2.stkSub b z) with z|z
 .exact q2 z
 .exact q3 z
theorem Yc {tg:Expr}{ifs:List Expr}{rest:List Comprehension}(hclos:closureFor scope X.env=pure cl)(hhas:HasAll cl scope.names)(hk:scope.kind=.function)
  (hnames:∀y∈scope.names,y.2=.local->scope.names.lookup y.1=some .local) (hi:PI X tg iter wi) (hs:∀z,foldedSetIterable iter X.env z=pure z)
  {use:Option (Ag->Sem Unit)} {QQ:Ag->Ab->Prop} {s:Ab} {H:Hp} {ps:Pos} {R:It->Hp->Prop} (I:Inv X pins σ H s) (h:wi σ H R)
  (go:∀(it:Aj) (fp:List Aj) (tn:Nat->Heap->Prop) (J:It) (H1:Hp) (s2:Ab) (C:Aj) (h3:Heap) (tk:Nat),Inv X pins σ H1 s2->Turn X.prog X.w X.K tg J fp it tn->tn 0 h3->(∀b∈fp,v6 X pins H1 b)->(∀b∈fp,b<s2.heap.objs.size)->(∀b∈fp,∃o,s2.heap.get? b=some o)->R J H1->s2.heap.objs.size<C ->
   (∀b o,s2.heap.get? b=some o->h3.get? b=some o)->(h3.Ns C λ_=>none)->h3.get? s2.heap.objs.size=some { cls:=.type "list",data:=.seq #[] 0 } ->
   codeAny (model X.prog X.w) X.A (.compLoop (.ListComp elt (⟨tg,iter,ifs,0⟩::rest) scope pos) 0 (.ref it) (.ref s2.heap.objs.size) (compEnvC scope cl C X.env)) (compPost (model X.prog X.w) X.A X.xe use QQ (.ref s2.heap.objs.size) C) { s2 with heap:=h3,toks:=tk }) :
  wpAny (model X.prog X.w) X.A (comprehension (.ListComp elt (⟨tg,iter,ifs,0⟩::rest) scope pos) scope X.env ps (newList []) false (eval iter X.env) use) QQ X.xe s:=by
 refine fG (use:=use) rfl hs hclos hk hnames ?_;refine thn (hi pins s σ H _ I h) λv s1 h1=>thn h1 λad s2 h2=>?_;obtain⟨it,fp,tn,J,H1,rfl,I2,T,F,ac,hR⟩:=h2;refine b8 ?_;refine gN hhas.nocell (by intro y hy;cases hy) (λh3 L D=>?_) hk;dsimp only at L D ⊢;generalize hH2:s2.heap.push { cls:=.type "list",dict:=none,data:=.seq ([]:List Ag).toArray }=G2 at L D ⊢;have hC:G2.objs.size=s2.heap.objs.size+1:=by rw[<-hH2,cX]
 have U:s2.heap.objs.size<G2.objs.size:=by lia
 have ab:∀b o,s2.heap.get? b=some o->h3.get? b=some o:=λb o e=>by rw[D.2 b (aB (bo (al e) U))];exact ah _ (hH2▸ah _ e)
 have hD:h3.get? s2.heap.objs.size=some { cls:=.type "list",data:=.seq #[] 0 }:=by rw[D.2 _ (aB U)];exact ah _ (hH2▸az _ rfl)
 have Z:=T.keep 0 _ _ F λb _ o e=>ab b o e;have qqh:=λtk=>go it fp tn J H1 s2 G2.objs.size h3 tk I2 T Z ac (λb W=>let ⟨o,e,_⟩:=T.obj 0 _ F b W;al e) (λb W=>let ⟨o,e,_⟩:=T.obj 0 _ F b W;⟨o,e⟩) hR U ab L hD;exact codeAny_compStart_list (qqh _) (T.self _ 0 _ _ _ Z (qqh _))
theorem Qv (M:List Nat)(σ:St)(v:V):(zc M σ none).length=(zc M σ (some v)).length/\∀(k:Nat) z,(zc M σ none)[k]?=some (some z)->(zc M σ (some v))[k]?=some (some z):=⟨rfl,λk z ez=>by
 cases k with
 |zero=>cases ez
 |succ k=>exact ez⟩
end
section
variable {X:Cx}{elt iter:Expr}{x:Str}{px pos:Pos}{scope:Scope}{cl:List (Str×Aj)}{M:List Nat}{wi:TI}{te:TE}
theorem wqn (hc:X.calm=true)(hclos:closureFor scope X.env=pure cl)(hcap:CapAll X.env cl)(hhas:HasAll cl scope.names)(hix:CapIx X scope cl M)(hk:scope.kind=.function)
  (hnames:∀y∈scope.names,y.2=.local->scope.names.lookup y.1=some .local) (hx:scope.names.lookup x=some .local) (hnd:(Qy X x M).Nodup) (hi:PI X (.Name x px) iter wi)
  (he:∀C s2 H2 fp pn,PE (zm X scope cl x M C s2 H2 fp pn) elt te) (hs:∀z,foldedSetIterable iter X.env z=pure z)
  {use:Option (Ag->Sem Unit)} {QQ:Ag->Ab->Prop} {pins:List (Aj×Obj)} {s:Ab} {σ:St} {H:Hp} {Q:VK} {ps:Pos} (I:Inv X pins σ H s) (h:wi σ H λJ H1=>Wk J M te σ H1 Q)
  (fin:∀(C:Aj) (s2 s4:Ab) (H1 H2:Hp) (fp:List Aj),Inv X pins σ H1 s2->s2.heap.objs.size<C->(∀b∈fp,v6 X pins H1 b)->Inv (zm X scope cl x M C s2 H1 fp (X.pn++pins)) [] (zc M σ none) H2 s4->Q (.ref s2.heap.objs.size) H2 ->
   compPost (model X.prog X.w) X.A X.xe use QQ (.ref s2.heap.objs.size) C (.ok .next) s4) :
  wpAny (model X.prog X.w) X.A (comprehension (.ListComp elt [⟨.Name x px,iter,[],0⟩] scope pos) scope X.env ps (newList []) false (eval iter X.env) use) QQ X.xe s:=by
 refine Yc hclos hhas hk hnames hi hs I h λit fp tn J H1 s2 C h3 tk F T t3 D ab ad hR L ac am hD=>?_;obtain⟨W,⟨m0,w0⟩,hW⟩:=hR s2.heap.objs.size (F.hok.fresh (aj _));have Z:(relabel scope X.env).names.lookup x=some .local:=ee hx;refine k9 (Y:=zm X scope cl x M C s2 H1 fp (X.pn++pins)) (V:=λi n H2=>∃ys,W i n ys H2) (Qd:=Q (.ref s2.heap.objs.size)) (REST:=appS elt (.ref s2.heap.objs.size) (compEnvC scope cl C X.env) _) T hc (λ_ _ z=>z) (compTurn_list1 ..) rfl rfl (xv (i:=0) hnd rfl (.inl Z) (.inr Z)) (Zf hcap F L D ab) (λi n H2 ⟨ys,w⟩=>?_) (λH2 s4 J4 q=>fin C s2 s4 H1 H2 fp F L D J4 q) (F.comp hcap hhas hix hk L ac am hD D ad) ⟨[],w0⟩ t3 λb hb=>by rw[qt (aB (ab b hb))];exact(D b hb).1
 obtain⟨hp,hz,ap⟩:=hW i n ys H2 w;refine ap.imp id λ⟨an,hy⟩=>⟨an,λv H3 yl=>⟨λσ4 H4=>σ4=zc M σ (some v)/\H3=H4,⟨rfl,rfl⟩,λ_ _ e=>?_⟩⟩;obtain⟨rfl,rfl⟩:=e;refine⟨Qv M σ v,λas s' J=>?_⟩;refine aZ (Z7 (N:=λzs U=>∃m',m'<n/\W (i+1) m' zs U) (λ_ _ z=>z) (he _ _ _ _ _) J hz (hy v H3 yl)) (λr s5 ⟨e,U,J5,zs,m',hm,w'⟩=>⟨e,U,J5,m',hm,zs,w'⟩) λ_ _ z=>z
theorem kx (hc:X.calm=true)(hclos:closureFor scope X.env=pure cl)(hcap:CapAll X.env cl)(hhas:HasAll cl scope.names)(hix:CapIx X scope cl M)(hk:scope.kind=.function)
  (hnames:∀y∈scope.names,y.2=.local->scope.names.lookup y.1=some .local) (hx:scope.names.lookup x=some .local) (hnd:(Qy X x M).Nodup) (hi:PI X (.Name x px) iter wi)
  (he:∀C s2 H2 fp pn,PE (zm X scope cl x M C s2 H2 fp pn) elt te) (hs:autoParam (∀z,foldedSetIterable iter X.env z=pure z) aU3._auto_1) :
  PE X (.ListComp elt [⟨.Name x px,iter,[],0⟩] scope pos) (wz5 M wi te):=by
 intro pins s σ H Q I h;rw[eval_ListComp];refine wqn hc hclos hcap hhas hix hk hnames hx hnd hi he hs (use:=none) I h λC s2 s4 H1 H2 fp Z U W D J=>?_;obtain⟨m,L,_⟩:=D.loc;exact⟨m,L,λh' F=>⟨.ref s2.heap.objs.size,H2,Z.uncomp (br U) W D F,rfl,J⟩⟩
theorem Inv.but {pins:List (Aj×Obj)}{σ:St}{H:Hp}{s:Ab}{h':Heap}{C:Aj}(I:Inv X pins σ H s)(hn:H C=none)(h1:X.s₀.heap.objs.size<=C)(h2:C≠X.env.locals)(h3:∀y c,X.env.cells.lookup y=some c->c≠C)(h4:∀p∈X.pn++pins,p.1≠C)
  (hs:Heap.SameBut C s.heap h'):Inv X pins σ H { s with heap:=h' }:=by
 have st:∀b o,b≠C->s.heap.get? b=some o->h'.get? b=some o:=λb o n e=>(hs.2 b n).trans e;have J:∀b,b∉[C]->b≠C:=λb z e=>z (by rw[e];exact .head _);refine I.call' (s':={ s with heap:=h' }) (ch:=[C]) rfl ⟨λb o e n _ D=>st b o (J b D) e,λb o e n _ D=>⟨o.slots,st b o (J b D) e⟩,λb o e n _=>n,λb o e D=>⟨o,st b o (J b D) e⟩,λ_ _ e=>e,λ_ _ _ e=>e,λb ps e=>⟨#[],by rw[e];simp⟩⟩ ?_ I.bare λb U=>?_
 .intro b u L;refine(I.hok b u L).stay (λc v F e=>st c v ?_ e) (λ_ z=>z) λ_ _ z=>z;rcases F with rfl|F
  .intro z;rw[z,hn]at L;cases L
  .intro z;rw[z,hn]at F;cases F
 .rw[aV.mp U];exact⟨.inr h1,h2,h3,h4⟩
theorem k7 {i:Nat}{y:Str}{py spos:Pos}(hN:X.N.Nodup)(hyi:X.N[i]?=some y)(hyl:Loc X.env.scope y)(hc:X.calm=true)(hclos:closureFor scope X.env=pure cl)(hcap:CapAll X.env cl)(hhas:HasAll cl scope.names)(hix:CapIx X scope cl M)(hk:scope.kind=.function)
  (hnames:∀y∈scope.names,y.2=.local->scope.names.lookup y.1=some .local) (hx:scope.names.lookup x=some .local) (hnd:(Qy X x M).Nodup) (hi:PI X (.Name x px) iter wi)
  (he:∀C s2 H2 fp pn,PE (zm X scope cl x M C s2 H2 fp pn) elt te) (hs:autoParam (∀z,foldedSetIterable iter X.env z=pure z) aU3._auto_1)
  (hsw:autoParam (swapsWith (.ListComp elt [⟨.Name x px,iter,[],0⟩] scope pos) (some (.Name y py)) spos.line X.env=pure true) aU4._auto_1) (hyf:autoParam (X.fn y=true\/X.env.scope.names.lookup y=some .local) aU0._auto_1) :
  PS X (.Assign [.Name y py] (.ListComp elt [⟨.Name x px,iter,[],0⟩] scope pos) spos) (tAsg (wz5 M wi te) (Zn i)):=by
 intro pins s σ H D I h;rw[exec_Assign_Name_used _ _ _ _ hsw];refine aa (cV (aa ?_));refine aa (aZ (wqn hc hclos hcap hhas hix hk hnames hx hnd hi he hs (use:=some (assign (.Name y py) X.env)) (QQ:=λ_ s'=>SP X pins D .next s') I h λC s2 W H1 H2 fp J L as J4 hq=>?_) (λ_ s' hq=>ai (ai hq)) λ_ _ e=>e);have F:Inv X pins σ H2 W:=J.uncomp (h':=W.heap) (br L) as J4 (Heap.SameBut.refl _ _);have ad:H2 C=none:=J4.free;obtain⟨mC,ap,_⟩:=J4.loc;obtain⟨Z,a5,a6,an,ac⟩:=id ap;have ab:C≠X.env.locals:=λz=>be _ (bo L (z▸J.lt));have a1:X.s₀.heap.objs.size<=C:=bK J.sz (br L);have a3:∀y c,X.env.cells.lookup y=some c->c≠C:=λy c e z=>by obtain⟨v,o,U,_⟩:=J.cell y c e;exact be _ (bo L (z▸al U))
 have a2:∀p∈X.pn++pins,p.1≠C:=λp hp z=>be _ (bo L (z▸al (J.pin p hp).1));have a8:C∉frs X.stack:=λz=>by
  rcases aQ.mp (J.stkSub C z) with q|q
  .exact ab q
  .obtain⟨_,o,U,_⟩:=J.funs.mem (b:=C) q;exact be _ (bo L (al U))
 have a0:C∉X.fs:=λz=>by obtain⟨_,o,U,_⟩:=J.funs.mem (b:=C) z;exact be _ (bo L (al U))
 have a7:Inv X (pins++[(C,Z)]) σ H2 W:=⟨F.ok,F.os,F.bare,F.base,F.loc,F.cell,F.free,F.freeC,λp hp=>by
  rcases aY.mp hp with q|q
  .exact F.pin p (cD _ q)
  .rcases aY.mp q with q|q
   .exact F.pin p (aN _ q)
   .rw[aV.mp q]
    exact⟨an,ad,ab,a0,λv z=>by rw[ac.1]at z;cases z⟩,F.hok,F.len⟩
 show wpAny _ _ (assign (.Name y py) X.env (.ref s2.heap.objs.size)) _ _ _;refine iM (yj a7 hN hyi hyl (show RelV (.ref s2.heap.objs.size) (.ref s2.heap.objs.size) from rfl) (λs5 I5=>?_) hyf);have a4:=(I5.pin (C,Z) (aN _ (aN _ (.head _)))).1;exact⟨mC,⟨Z,a5,a6,a4,ac⟩,λh' am=>⟨_,H2,I5.unpinned.but ad a1 ab a3 a2 am,hq⟩⟩
end
theorem vw {M:List Nat}{lo:Int}{n:Nat}{te:TE}{σ:St}{H:Hp}{Q:VK}(f:Nat->V)(hn:n<=1000000)(he:∀(i:Nat) (H':Hp) (R:VK),i<n->Same H H'->R (f i) H'->te (zc M σ (some (.int (lo+i)))) H' R)
  (k:∀p,H p=none->Q (.ref p) (upd H p (.lst ((List.range n).map f)))):Wk (Itr lo n) M te σ H Q:=by
 intro p np;refine⟨λi m ys H2=>i<=n/\m=n-i/\ys=(List.range i).map f/\H2=upd H p (.lst ys),⟨n,aW _,rfl,rfl,rfl⟩,?_⟩;rintro i m ys H2 ⟨hi,rfl,rfl,rfl⟩;refine⟨qc,?_,?_⟩
 .rw[ag,aH];have:(1000000:Nat)<sizeLine:=by decide
  lia
 .by_cases hlt:i<n
  .refine .inr ⟨hlt,?_⟩;rintro v H3 ⟨rfl,rfl⟩;refine he i (upd H p (.lst ((List.range i).map f))) _ hlt (Same.upd np) ⟨qc,n-(i+1),⋯,⋯,rfl,?_,?_⟩
   .rw[cG,bj];rfl
   .rw[qyx]
  .have:i=n:=by lia
   subst this;exact .inl ⟨aj _,k p np⟩
theorem qvt {K:Aa}{M:List Nat}{a:Aj}{xs:List V}{te:TE}{σ:St}{H:Hp}{Q:VK}(f:V->V)(hS:SqL K H a xs)(hn:xs.length<=1000000)(he:∀(x:V) (H':Hp) (R:VK),x∈xs->Same H H'->R (f x) H'->te (zc M σ (some x)) H' R)
  (k:∀p,H p=none->Q (.ref p) (upd H p (.lst (xs.map f)))):Wk (Itl K a) M te σ H Q:=by
 intro p np;refine⟨λi m ys H2=>i<=xs.length/\m=xs.length-i/\ys=(xs.take i).map f/\H2=upd H p (.lst ys),⟨xs.length,aW _,rfl,rfl,rfl⟩,?_⟩;rintro i m ys H2 ⟨hi,rfl,rfl,rfl⟩;have F:SqL K (upd H p (.lst ((xs.take i).map f))) a xs:=Same.sql (Same.upd np) hS;refine⟨qc,?_,?_⟩
 .rw[ag,bg];have:(1000000:Nat)<sizeLine:=by decide
  lia
 .by_cases hlt:i<xs.length
  .have D:xs[i]?=some xs[i]:=ae hlt;refine .inr ⟨⟨xs,_,F,D⟩,?_⟩;rintro v H3 ⟨rfl,hv⟩;have e:=hv xs F;rw[D]at e;have L:=au e;subst L;refine he _ _ _ (bw hlt) (Same.upd np) ⟨qc,xs.length-(i+1),⋯,⋯,rfl,?_,?_⟩
   .rw[List.take_succ,D,bj];rfl
   .rw[qyx]
  .have J:i=xs.length:=by lia
   subst J;refine .inl ⟨⟨xs,F,aj _⟩,?_⟩;rw[bD];exact k p np
end L2
namespace L2
open PySem PySem.Spec PyProof.Rows
section
variable {X:Cx}
theorem Jx {pins:List (Aj×Obj)}{σ:St}{H:Hp}{s:Ab}{p:Aj}{ns:List Int}(I:Inv X pins σ H s)(hS:SqL X.K H p (ns.map V.int)) :
  ∃ts:Array (Int×Tok),s.heap.IsList p (intItems ts)/\ns=ts.toList.map (·.1):=by
 obtain⟨ab,J,⟨o,n,W,U,e3,L⟩,hz⟩:=I.list hS;have hi:=jw J;obtain⟨ts,D⟩:=hi.allInts.items;refine⟨ts,⟨o,W,U,n,by rw[<-D];exact L⟩,?_⟩;have Z:=hi.numsOf;have F:=nums_intItems (xs:=ts);rw[<-D]at F;exact Z.symm.trans F
theorem qzm (hc:X.calm=true):kr X (.builtin "min") (λxs H Q=>∃(p:Aj) (ns:List Int),xs=[.ref p]/\SqL X.K H p (ns.map V.int)/\0<ns.length/\∀m,m∈ns->(∀a∈ns,m<=a)->Q (.int m) H):=by
 intro pins s σ H xs us Q I r h;obtain⟨p,ns,rfl,hS,ab,q⟩:=h;obtain⟨u,rfl,U⟩:=jb r;cases(show u=Value.ref p from U);obtain⟨F,W,D⟩:=Jx I hS;have J:F.size=ns.length:=by rw[D,ag,aU]
 refine min_intList (I.ok.hd hc) W ⋯ λv h' tk hv Z=>?_;obtain⟨t,rfl⟩:=jN hv;obtain⟨b1,b2⟩:=argBest_lt (numAt F) (F.size-1);refine⟨.int _,H,I.kept Z,⟨t,rfl⟩,q _ ?_ λa L=>?_⟩
 .rw[D,jO];refine getD_mem ?_;rw[<-D,<-J];lia
 .rw[D]at L;obtain⟨j,hj,rfl⟩:=mem_getD L;rw[<-D,<-J]at hj;rw[<-jO];exact b2 j ⋯
theorem qvk (hc:X.calm=true):kr X (.builtin "max") (λxs H Q=>∃(p:Aj) (ns:List Int),xs=[.ref p]/\SqL X.K H p (ns.map V.int)/\0<ns.length/\∀m,m∈ns->(∀a∈ns,a<=m)->Q (.int m) H):=by
 intro pins s σ H xs us Q I r h;obtain⟨p,ns,rfl,hS,ab,q⟩:=h;obtain⟨u,rfl,U⟩:=jb r;cases(show u=Value.ref p from U);obtain⟨F,W,D⟩:=Jx I hS;have J:F.size=ns.length:=by rw[D,ag,aU]
 refine max_intList (I.ok.hd hc) W ⋯ λv h' tk hv Z=>?_;obtain⟨t,rfl⟩:=jN hv;obtain⟨b1,b2⟩:=argBest_gt (numAt F) (F.size-1);refine⟨.int _,H,I.kept Z,⟨t,rfl⟩,q _ ?_ λa L=>?_⟩
 .rw[D,jO];refine getD_mem ?_;rw[<-D,<-J];lia
 .rw[D]at L;obtain⟨j,hj,rfl⟩:=mem_getD L;rw[<-D,<-J]at hj;rw[<-jO];exact b2 j ⋯
theorem qzu:∀ {bs:List Bool} {its:List Ag},Vals (bs.map V.bl) its->its=bs.map Value.bool
 |[],_,.nil=>rfl
 |b::bs,_,.cons r t=>by have e:_=Value.bool b:=r;rw[aM,<-qzu t,e]
theorem wj7 (bs:List Bool):(List.range bs.length).all (λi=>bs.getD i true)=bs.all id:=by
 rw[cP,i4,i4];constructor
 .intro h b F;obtain⟨i,hi,rfl⟩:=de F;have:=h i (aw.mpr hi);rw[af,ae hi]at this;exact this
 .intro h i hi;have D:=aw.mp hi;rw[af,ae D];exact h _ (bw D)
theorem qvq (hc:X.calm=true):kr X (.builtin "all") (λxs H Q=>∃(p:Aj) (bs:List Bool),xs=[.ref p]/\SqL X.K H p (bs.map V.bl)/\Q (.bl (bs.all id)) H):=by
 intro pins s σ H xs us Q I r h;obtain⟨p,bs,rfl,hS,q⟩:=h;obtain⟨u,rfl,ru⟩:=jb r;cases(show u=Value.ref p from ru);obtain⟨D,Z,⟨o,n,W,F,e3,e4⟩,hz⟩:=I.list hS;have L:=qzu Z;have J:s.heap.IsList p D.toArray:=⟨o,W,F,n,e4⟩;have ab:p<s.heap.objs.size:=al W;refine call_all_walk (fZ J ?_);refine⟨s.heap.objs.size,_,_,_,_,_,λi=>bs.getD i true,rfl,Walks.list (A:=X.A.in1) (I.ok.hd hc) _ p (aB ab) D.toArray,⟨⟨_,az _ rfl,rfl,rfl⟩,J.push _⟩,λi v s' Q' E' hP hQ=>?_,λh' tk hk=>?_⟩
 .have hv:D[i]?=some v:=by simpa using hP
  rw[L,ax]at hv;cases hb:bs[i]? with
  |none=>rw[hb]at hv;cases hv
  |some b =>
   rw[hb]at hv;have ev:Value.bool b=v:=au hv;subst ev;refine cW ?_;have F:bs.getD i true=b:=by rw[af,hb];rfl
   have U:Q' (bs.getD i true) s':=hQ;rw[F]at U;exact U
 .have ac:D.toArray.size=bs.length:=by rw[L];simp
  rw[ac,wj7];refine⟨.bl _,H,I.kept λb ob e=>hk b ob (λhm=>?_) (ah _ e),rfl,q⟩;have z:b=s.heap.objs.size:=by simpa using hm
  exact be _ (z▸al e)
end
structure MCal (P:Ac)(w:Ah)(K:Aa)(mg:Str->Option Ag)(base:Heap)(C:Aj)(m:Str)(k:Nat)(sp:Sp):Prop where
 ex:∃f fd ps,Meth K C m f/\FnOk P w K mg base (CXE P w) k f fd ps sp/\Binds K fd ps []
structure CCal (P:Ac)(w:Ah)(K:Aa)(mg:Str->Option Ag)(base:Heap)(x:Str)(C:Aj)(k:Nat)(sp:Sp):Prop where
 ex:∃f fd ps,mg x=some (.ref C)/\Mk K C f/\FnOk P w K mg base (CXE P w) k f fd ps sp/\Binds K fd ps []
structure MethIn (K:Aa)(C:Aj)(m qual:Str)(st:Stmt):Prop where
 ex:∃f fd,W.findIn K (.ref C) m=some (some (.ref f))/\W.isFn K (.ref f)=true/\Fun K m qual st f fd
theorem xzf {K:Aa}{C:Aj}{m qual:Str}{st:Stmt}{f:Aj}{oc:Ag}{od an:Option Aj}{osl:Array (Option Ag)}{kV doc pm cdv ct:Ag}(a:W.findIn K (.ref C) m=some (some (.ref f)))(i:W.isFn K (.ref f)=true)
  (l:K.lookup f=some ⟨oc,od,.func (W.fnOf m qual (v9 st) (zt st) (q8 st) .none kV doc pm an cdv ct),osl⟩) (c:W.codeIn K cdv qual=true) (k:W.keepIn K (.ref f)=true):MethIn K C m qual st:=⟨_,_,a,i,wzd l c k⟩
def jf (x qual:Str)(st:Stmt)(ps:List Str):Prop:=∀(kV doc pm:Ag) (an:Option Aj) (cdv ct:Ag) (us:List Ag),us.length=ps.length->bindArgs (W.fnOf x qual (v9 st) (zt st) (q8 st) .none kV doc pm an cdv ct) ⟨us,[]⟩=pure (ps.zip us)
section
variable {P:Ac}{w:Ah}{K:Aa}{mg:Str->Option Ag}{base:Heap}{C:Aj}
theorem MethIn.cal {m qual:Str}{st:Stmt}{ps:List Str}{k:Nat}{sp:Sp}(d:MethIn K C m qual st)(b:jf m qual st ps)(ok:∀f fd,Fun K m qual st f fd->FnOk P w K mg base (CXE P w) k f fd ps sp):MCal P w K mg base C m k sp:=by obtain⟨f,fd,a,i,F⟩:=d.ex;exact⟨f,fd,ps,⟨a,i,F.kp⟩,ok f fd F,F.binds b⟩
theorem MethIn.ccal {x qual:Str}{st:Stmt}{ps:List Str}{k:Nat}{sp:Sp}(d:MethIn K C "__init__" qual st)(hm:mg x=some (.ref C))(mk:W.makesIn K C=true)(kc:W.keepIn K (.ref C)=true)(b:jf "__init__" qual st ps)
  (ok:∀f fd,Fun K "__init__" qual st f fd->FnOk P w K mg base (CXE P w) k f fd ps sp):CCal P w K mg base x C k sp:=by
 obtain⟨f,fd,a,i,F⟩:=d.ex;exact⟨f,fd,ps,hm,⟨mk,a,i,kc⟩,ok f fd F,F.binds b⟩
end
section
variable {X:Cx}{C:Aj}{x m:Str}{k:Nat}{sp:Sp}{E:St->XK}{p pos apos:Pos}{e o:Expr}{es:List Expr}{ta:TE}{t:TA}
theorem xwr (c:CCal X.prog X.w X.K X.mg X.base x C k sp)(hr:Room (k+1) X.A)(hg:Gl X x)(hx:Qb X E)
  (ha:PA X (e::es) t) (hdb:autoParam ((x==("__debug__" : Str))=false) aU1._auto_1) (he:autoParam (starEach (e::es) X.env=(false,eval e X.env)::starEach es X.env) aU4._auto_1) (hpl:autoParam ((backTo pos (starEach es X.env)).any (·.1)=false) aU4._auto_1) :
  PE X (.Call (.Name x p) (e::es) [] pos) (xwp C sp E t):=by
 obtain⟨f,fd,ps,D,M,F,b⟩:=c.ex;exact xwc M F hr hg D b hx ha hdb he hpl
theorem vc {pl:Sem Bool}(he:PE X o ta)(cl:Cls X.K C)(c:MCal X.prog X.w X.K X.mg X.base C m k sp)(hr:Room k X.A)(hx:Qb X E)(ha:PA X (e::es) t)
  (hst:autoParam (starEach (e::es) X.env=(false,eval e X.env)::starEach es X.env) aU4._auto_1) (hpl:autoParam ((backTo pos (starEach es X.env)).any (·.1)=false) aU4._auto_1)
  (ht:autoParam (eval (.Call (.Attribute o m apos) (e::es) [] pos) X.env=(do
   let ov <-eval o X.env
   standAt apos.atName
   let (f,first) <-holding [ov] (getMethod ov m pl)
   callWith pos f first (backTo pos (starEach (e::es) X.env)) (backToKw pos (keywordEach [] X.env)))) aU4._auto_1) :
  PE X (.Call (.Attribute o m apos) (e::es) [] pos) (qkp C m sp E ta t):=by
 obtain⟨f,fd,ps,D,F,b⟩:=c.ex;exact xq5 he cl D F hr b hx ha hst hpl ht
theorem k8 {pl:Sem Bool}(he:PE X o ta)(cl:Cls X.K C)(c:MCal X.prog X.w X.K X.mg X.base C m k sp)(hr:Room k X.A)(hx:Qb X E)
  (ht:autoParam (eval (.Call (.Attribute o m apos) [] [] pos) X.env=(do
   let ov <-eval o X.env
   standAt apos.atName
   let (f,first) <-holding [ov] (getMethod ov m pl)
   callWith pos f first (backTo pos (starEach [] X.env)) (backToKw pos (keywordEach [] X.env)))) aU4._auto_1) :
  PE X (.Call (.Attribute o m apos) [] [] pos) (qkp C m sp E ta qwm):=by
 obtain⟨f,fd,ps,D,F,b⟩:=c.ex;exact wj5 he cl D F hr b hx ht
end
end L2
namespace L2
open PySem
def hAt (hs:List Int)(k:Int):Int:=hs.getD k.toNat 0
def kF (hs:List Int)(t b:Int):Int:=if(hs.length:Int)-1-1<t/b then(hs.length:Int)-1-1 else t/b
def vv (hs:List Int)(t b:Int):Int:=hAt hs (kF hs t b)*b+(hAt hs (kF hs t b+1)-hAt hs (kF hs t b))*(t-kF hs t b*b)
theorem wzg {hs:List Int}{t b:Int}(hl:2<=hs.length)(hb:1<=b)(h0:0<=t):0<=kF hs t b/\kF hs t b<(hs.length:Int)-1:=by have h:=Int.ediv_nonneg h0 (show(0:Int)<=b by lia);unfold kF;split <;> lia
theorem xqj {hs:List Int}{t b c:Int}(hc:1<=c):kF hs (t*c) (b*c)=kF hs t b:=by unfold kF;rw[eR _ _ (show 0<c by lia)]
theorem quq {hs:List Int}{t b c:Int}(hc:1<=c):vv hs (t*c) (b*c)=vv hs t b*c:=by unfold vv;rw[xqj hc];generalize hAt hs (kF hs t b)=u;generalize hAt hs (kF hs t b+1)=v;generalize kF hs t b=k;grind
theorem div_in {k t b:Int}(hb:1<=b)(h1:k*b<=t)(h2:t<(k+1)*b):t/b=k:=by have a1:k<=t/b:=(gk ⋯).mpr h1;have a2:t/b<k+1:=(Int.ediv_lt_iff_lt_mul ⋯).mpr h2;lia
theorem j4 {hs:List Int}{k t b:Int}(hk:0<=k)(hk2:k<(hs.length:Int)-1)(hb:1<=b)(h1:k*b<=t)(h2:t<=(k+1)*b) :
  vv hs t b=hAt hs k*b+(hAt hs (k+1)-hAt hs k)*(t-k*b):=by
 by_cases hlt:t<(k+1)*b
 .have e:=div_in hb h1 hlt;have D:kF hs t b=k:=by unfold kF;rw[e];split <;> lia
  unfold vv;rw[D]
 .have F:t=(k+1)*b:=by lia
  have e:t/b=k+1:=by rw[F];exact Int.mul_ediv_cancel _ ⋯
  by_cases hn:(hs.length:Int)-1-1<k+1
  .have D:kF hs t b=k:=by unfold kF;rw[e,av hn];lia
   unfold vv;rw[D]
  .have D:kF hs t b=k+1:=by unfold kF;rw[e,ao hn]
   unfold vv;rw[D,F];generalize hAt hs k=u;generalize hAt hs (k+1)=v;generalize hAt hs (k+1+1)=z;grind
def Wn (hs:List Int)(t b:Int):Int×Int:=wc (vv hs t b) b
theorem qv2 {hs:List Int}{t b:Int}(hb:1<=b):Wn hs (wc t b).1 (wc t b).2=Wn hs t b:=by
 unfold Wn;have F:=ym (t:=t) hb;have J:(wc t b).1*gOf t b=t:=by rw[eP];exact qkz
 have D:(wc t b).2*gOf t b=b:=by rw[eP];exact qqq hb
 have h:=quq (hs:=hs) (t:=(wc t b).1) (b:=(wc t b).2) F;rw[J,D]at h;rw[h]
 conv=>rhs;rw[<-D]
 rw[D];have:=qq6 (t:=vv hs (wc t b).1 (wc t b).2) (b:=(wc t b).2) (vt hb) F;rw[D]at this;exact this.symm
theorem qwb {t b:Int}(hb:1<=b):(wc t b).1<0↔t<0:=by
 have F:=ym (t:=t) hb;have D:gOf t b*(wc t b).1=t:=qkz;constructor
 .intro h;have:=io h (show 0<gOf t b by lia);rw[D,jC]at this;exact this
 .intro h;rcases cZ (wc t b).1 0 with z|z
  .exact z
  .have:=bf z (show 0<=gOf t b by lia);rw[D,jC]at this;lia
theorem ww8 {t b n:Int}(hb:1<=b):n*(wc t b).2<(wc t b).1↔n*b<t:=by
 have J:=ym (t:=t) hb;have F:gOf t b*(wc t b).1=t:=qkz;have L:gOf t b*(wc t b).2=b:=qqq hb;have D:gOf t b*(n*(wc t b).2)=n*b:=by generalize gOf t b=g at *;generalize (wc t b).2=y at *;grind
 constructor
 .intro h;have:=io h (show 0<gOf t b by lia);rw[F,D]at this;exact this
 .intro h;rcases cZ (n*(wc t b).2) (wc t b).1 with z|z
  .exact z
  .have:=bf z (show 0<=gOf t b by lia);rw[F,D]at this;lia
theorem qkb {N b:Int}(hb:1<=b):b%(wc N b).2=0/\(wc N b).1*(b/(wc N b).2)=N:=by
 have F:=vt (t:=N) hb;have J:=jr (t:=N) hb;have D:(wc N b).2∣b:=⟨gOf N b,by rw[eP];exact(qqq hb).symm⟩;refine⟨Int.emod_eq_zero_of_dvd D,?_⟩;have e:=gM D;generalize b/(wc N b).2=q at *;generalize (wc N b).1=x at *;generalize (wc N b).2=y at *;have:y*(x*q-N)=0:=by grind
 rcases Int.mul_eq_zero.mp this with h|h <;> lia
theorem xq9 {u v b d:Int}(hb:0<=d)(hd:d<=b):(if v<u then v else u)*b<=u*b+(v-u)*d/\u*b+(v-u)*d<=(if v>u then v else u)*b:=by
 by_cases h:v<u
 .rw[av h,ao ⋯];have F:=bf hd (show 0<=u-v by lia);have D:=dw (show 0<=u-v by lia) hb;constructor <;> grind
 .rw[ao h];have F:=bf hd (show 0<=v-u by lia);have D:=dw (show 0<=v-u by lia) hb;by_cases h2:v>u
  .rw[av h2];constructor <;> grind
  .rw[ao h2];have:v=u:=by lia
   subst this;constructor <;> grind
end L2
namespace L2
open PySem PySem.Spec PyProof.Rows
def wxm (J:It)(M:List Nat)(tt:TT)(te:TE)(σ:St)(H1:Hp)(Q:VK):Prop:=∀p,H1 p=none->∃W:Nat->Nat->List V->Hp->Prop,(∃m,W 0 m [] (upd H1 p (.lst []))) /\
 ∀i m ys H2,W i m ys H2->H2 p=some (.lst ys)/\ys.length<sizeLine/\((J.stop i H2/\Q (.ref p) H2)\/(J.go i H2/\∀v H3,J.yld i H2 v H3 ->
  tt (zc M σ (some v)) H3 λb H4=>if b=true then te (zc M σ (some v)) H4 (λy H5=>H5 p=some (.lst ys)/\∃m',m'<m/\W (i+1) m' (ys++[y]) (upd H5 p (.lst (ys++[y])))) else H4 p=some (.lst ys)/\∃m',m'<m/\W (i+1) m' ys H4))
def tCompI (M:List Nat)(wi:TI)(tt:TT)(te:TE):TE:=λσ H Q=>wi σ H λJ H1=>wxm J M tt te σ H1 Q
section
variable {X:Cx}{elt iter cd:Expr}{x:Str}{px pos:Pos}{scope:Scope}{cl:List (Str×Aj)}{M:List Nat}{wi:TI}{tt:TT}{te:TE}
theorem wj0 (hc:X.calm=true)(hclos:closureFor scope X.env=pure cl)(hcap:CapAll X.env cl)(hhas:HasAll cl scope.names)(hix:CapIx X scope cl M)(hk:scope.kind=.function)
  (hnames:∀y∈scope.names,y.2=.local->scope.names.lookup y.1=some .local) (hx:scope.names.lookup x=some .local) (hnd:(Qy X x M).Nodup) (hi:PI X (.Name x px) iter wi)
  (ht:∀C s2 H2 fp pn,PT (zm X scope cl x M C s2 H2 fp pn) cd tt) (he:∀C s2 H2 fp pn,PE (zm X scope cl x M C s2 H2 fp pn) elt te) (hs:∀z,foldedSetIterable iter X.env z=pure z)
  {use:Option (Ag->Sem Unit)} {QQ:Ag->Ab->Prop} {pins:List (Aj×Obj)} {s:Ab} {σ:St} {H:Hp} {Q:VK} {ps:Pos} (I:Inv X pins σ H s) (h:wi σ H λJ H1=>wxm J M tt te σ H1 Q)
  (fin:∀(C:Aj) (s2 s4:Ab) (H1 H2:Hp) (fp:List Aj),Inv X pins σ H1 s2->s2.heap.objs.size<C->(∀b∈fp,v6 X pins H1 b)->Inv (zm X scope cl x M C s2 H1 fp (X.pn++pins)) [] (zc M σ none) H2 s4->Q (.ref s2.heap.objs.size) H2 ->
   compPost (model X.prog X.w) X.A X.xe use QQ (.ref s2.heap.objs.size) C (.ok .next) s4) :
  wpAny (model X.prog X.w) X.A (comprehension (.ListComp elt [⟨.Name x px,iter,[cd],0⟩] scope pos) scope X.env ps (newList []) false (eval iter X.env) use) QQ X.xe s:=by
 refine Yc hclos hhas hk hnames hi hs I h λit fp tn J H1 s2 C h3 tk F T t3 D ac am hR L ad an hD=>?_;obtain⟨W,⟨m0,w0⟩,hW⟩:=hR s2.heap.objs.size (F.hok.fresh (aj _));have ab:(relabel scope X.env).names.lookup x=some .local:=ee hx;refine k9 (Y:=zm X scope cl x M C s2 H1 fp (X.pn++pins)) (V:=λi n H2=>∃ys,W i n ys H2) (Qd:=Q (.ref s2.heap.objs.size)) (REST:=tstS cd (compEnvC scope cl C X.env) (appS elt (.ref s2.heap.objs.size) (compEnvC scope cl C X.env) _) (again _)) T hc (λ_ _ z=>z) (compTurn_list ..) rfl rfl (xv (i:=0) hnd rfl (.inl ab) (.inr ab)) (Zf hcap F L D ac) (λi n H2 ⟨ys,w⟩=>?_) (λH2 s4 J4 q=>fin C s2 s4 H1 H2 fp F L D J4 q) (F.comp hcap hhas hix hk L ad an hD D am) ⟨[],w0⟩ t3 λb hb=>by rw[qt (aB (ac b hb))];exact(D b hb).1
 obtain⟨hp,hz,as⟩:=hW i n ys H2 w;refine as.imp id λ⟨ap,hy⟩=>⟨ap,λv H3 yl=>⟨λσ4 H4=>σ4=zc M σ (some v)/\H3=H4,⟨rfl,rfl⟩,λ_ _ e=>?_⟩⟩;obtain⟨rfl,rfl⟩:=e;refine⟨Qv M σ v,λa0 s' J=>?_⟩;exact Zg (ht _ _ _ _ _) J (hy v H3 yl) (λs6 H6 U h6=>aZ (Z7 (N:=λzs Z=>∃m',m'<n/\W (i+1) m' zs Z) (λ_ _ z=>z) (he _ _ _ _ _) U hz h6) (λr s5 ⟨e,Z,J5,zs,m',hm,w'⟩=>⟨e,Z,J5,m',hm,zs,w'⟩) λ_ _ z=>z)
  λs6 H6 U ⟨_,m',hm,w'⟩=>ai ⟨rfl,H6,U,m',hm,ys,w'⟩
theorem Z1 (hc:X.calm=true)(hclos:closureFor scope X.env=pure cl)(hcap:CapAll X.env cl)(hhas:HasAll cl scope.names)(hix:CapIx X scope cl M)(hk:scope.kind=.function)
  (hnames:∀y∈scope.names,y.2=.local->scope.names.lookup y.1=some .local) (hx:scope.names.lookup x=some .local) (hnd:(Qy X x M).Nodup) (hi:PI X (.Name x px) iter wi)
  (ht:∀C s2 H2 fp pn,PT (zm X scope cl x M C s2 H2 fp pn) cd tt) (he:∀C s2 H2 fp pn,PE (zm X scope cl x M C s2 H2 fp pn) elt te) (hs:autoParam (∀z,foldedSetIterable iter X.env z=pure z) aU3._auto_1) :
  PE X (.ListComp elt [⟨.Name x px,iter,[cd],0⟩] scope pos) (tCompI M wi tt te):=by
 intro pins s σ H Q I h;rw[eval_ListComp];refine wj0 hc hclos hcap hhas hix hk hnames hx hnd hi ht he hs (use:=none) I h λC s2 s4 H1 H2 fp Z U W D J=>?_;obtain⟨m,L,_⟩:=D.loc;exact⟨m,L,λh' F=>⟨.ref s2.heap.objs.size,H2,Z.uncomp (br U) W D F,rfl,J⟩⟩
end
theorem wx3 {i:Int}{acc:Array Ag}{n:Nat}(h:ItemsOf (λk v=>∃t,v=.int (i+k*1) t) acc n):Vals ((List.range n).map λk:Nat=>V.int (i+k)) acc.toList:=by
 obtain⟨h1,h2⟩:=h;have L:∀(l:List Ag) (b m:Nat),l.length=m->(∀(j:Nat) v,l[j]?=some v->∃t,v=.int (i+((b+j:Nat):Int)*1) t)->Vals ((List.range' b m).map λk:Nat=>V.int (i+k)) l:=by
  intro l
  induction l with
  |nil=>intro b m D _;subst D;exact .nil
  |cons x r ih =>
   intro b m D J;subst D;rw[aJ,List.range'_succ,aM];refine .cons ?_ (ih (b+1) r.length rfl λj v e=>?_)
   .obtain⟨t,e⟩:=J 0 x rfl;refine⟨t,?_⟩;rw[e];simp
   .obtain⟨t,F⟩:=J (j+1) v e;refine⟨t,?_⟩;rw[F,show b+1+j=b+(j+1) by lia]
 have:=L acc.toList 0 n (by simpa using h1) (λj v e=>by
  obtain⟨t,F⟩:=h2 j v (by simpa using e)
  exact⟨t,by rw[F];simp⟩)
 rwa [<-List.range_eq_range']at this
def tLR (ta:TA):TE:=λσ H Q=>ta σ H λvs H1=>∃i j:Int,vs=[.int i,.int j]/\(-(2 ^ 40)<=i/\i<2 ^ 40/\-(2 ^ 40)<=j/\j<2 ^ 40)/\(j-i).toNat<=1000000/\∀q,H1 q=none->Q (.ref q) (upd H1 q (.lst ((List.range (j-i).toNat).map λk:Nat=>V.int (i+k))))
theorem qz9 {X:Cx}{a b:Expr}{ta:TA}{p1 pos1 p2 pos2:Pos}(hc:X.calm=true)(hgl:Gl X "list")(hml:X.mg "list" = none)(hg:Gl X "range")(hm:X.mg "range" = none)(ha:PA X [a,b] ta)
  (hs:autoParam (starEach [a,b] X.env=[(false,eval a X.env),(false,eval b X.env)]) aU4._auto_1) (hs2:autoParam (starEach [b] X.env=[(false,eval b X.env)]) aU4._auto_1) (hs3:autoParam (starEach [(.Call (.Name "range" p1) [a,b] [] pos1)] X.env=[(false,eval (.Call (.Name "range" p1) [a,b] [] pos1) X.env)]) aU4._auto_1) :
  PE X (.Call (.Name "list" p2) [.Call (.Name "range" p1) [a,b] [] pos1] [] pos2) (tLR ta):=by
 intro pins s σ H Q I h;refine dk (j3 I hgl hml dO ?_);refine bW (e:=.Call (.Name "range" p1) [a,b] [] pos1) (rest:=[]) ?_ hs3 rfl;rw[hs3];show wpAny _ _ (spliced ((false,eval (.Call (.Name "range" p1) [a,b] [] pos1) X.env)::[])) _ _ s;refine Calls.spliced_cons ?_;refine Call_ (j3 I hg hm boot_range (bW (thn (ha pos1 pins s σ H _ I h) λus s1 ⟨vs,H1,I1,r1,F⟩=>?_) (by rw[hs,hs2]) (by rw[hs2];rfl)));obtain⟨i,j,e,⟨F,q2,q3,q4⟩,Z,q⟩:=F;subst e;cases r1 with
 |cons r rr =>
  cases rr with
  |cons r' rr =>
   cases rr;obtain⟨t,rfl⟩:=r;obtain⟨t',rfl⟩:=r';refine call_range_2 (Calls.spliced_nil ?_);have D:Inv X pins σ H1 { s1 with heap:=s1.heap.push { cls:=.type "range",data:=.fields #[.int i t,.int j t',.int 1 s1.toks] },toks:=s1.toks+1 }:=I1.kept λb o e=>ah _ e;refine call_list_range (n:=(j-i).toNat) (D.ok.hd hc) (IsRange.new ..) (small_one ⋯ ⋯ ⋯ ⋯) (rangeSize_nat _ _) ⋯ λh' tk W c' J e U=>?_;have L:((List.range (j-i).toNat).map λk:Nat=>V.int (i+k)).length<=sizeLine:=by
    rw[ag,aH];have:(1000000:Nat)<sizeLine:=by decide
    lia
   exact⟨.ref _,_,D.laid (t':=tk) J (aj _) (show ObjOk X.prog X.w _ h' _ (.lst _) from ⟨L,W.toList,c',wx3 U,by simpa using e⟩),rfl,q _ (D.hok.fresh (aj _))⟩
end L2
namespace L2
open PySem PySem.Spec PyProof.Rows
structure FunD (K:Aa)(x:Str)(st:Stmt)(f:Aj)(fd:Ad):Prop where
 ex:∃(oc:Ag) (od:Option Aj) (T:Aj) (kV doc pm:Ag) (an:Option Aj) (cdv ct:Ag) (osl:Array (Option Ag)),
  fd=W.fnOf x x (v9 st) (zt st) (q8 st) (.ref T) kV doc pm an cdv ct/\K.lookup f=some ⟨oc,od,.func fd,osl⟩/\W.codeIn K cdv x=true/\∃o n,K.lookup T=some o/\o.data=.seq #[.none] n
 kp:W.keepIn K (.ref f)=true
structure DefInD (K:Aa)(x:Str)(st:Stmt):Prop where
 ex:∃f fd,W.nsIn K mainGlobals x=some (some (.ref f))/\FunD K x st f fd
section
variable {P:Ac}{w:Ah}{K:Aa}{mg:Str->Option Ag}{base:Heap}
theorem xzx {x:Str}{st:Stmt}{f T:Aj}{oc:Ag}{od an:Option Aj}{osl:Array (Option Ag)}{kV doc pm cdv ct:Ag}(a:W.nsIn K mainGlobals x=some (some (.ref f)))
  (l:K.lookup f=some ⟨oc,od,.func (W.fnOf x x (v9 st) (zt st) (q8 st) (.ref T) kV doc pm an cdv ct),osl⟩) (c:W.codeIn K cdv x=true) (k:W.keepIn K (.ref f)=true) {tc:Ag} {td:Option Aj} {tn:Nat} {ts:Array (Option Ag)} (t:K.lookup T=some ⟨tc,td,.seq #[.none] tn,ts⟩):DefInD K x st:=⟨_,_,a,⟨oc,od,T,kV,doc,pm,an,cdv,ct,osl,rfl,l,c,_,_,t,rfl⟩,k⟩
theorem FunD.okX {x:Str}{st:Stmt}{f:Aj}{fd:Ad}{N ps:List Str}{k:Nat}{sp:Sp}(F:FunD K x st f fd)(S:FnScope N ps (q8 st))(len:∀vs H Q E,sp vs H Q E->vs.length=ps.length)
  (body:∀(cdv:Ag) (A:Ae) (outer:List Env) (s:Ab) (H:Hp) (vs:List V) (Q:VK) (E:XK),Room k (A.deeper (envOfC x (q8 st) s.heap.objs.size f cdv))->sp vs H Q E ->
   ∃t,PSs (Yx (CXE P w) P w K mg base N x (q8 st) f cdv A outer s H E) (zt st) t/\t { nx:=λ_ H'=>Q .non H',rt:=Q } (W1 N vs) H):FnOk P w K mg base (CXE P w) (k+1) f fd ps sp:=by
 obtain⟨oc,Z,T,kV,ab,pm,an,cdv,ct,W,rfl,D,U,_⟩:=F.ex;exact xwg D U S len λA outer s H vs Q E L J=>body cdv A outer s H vs Q E L J
def Zh (x:Str)(st:Stmt)(ps:List Str)(ds:List Ag):Prop:=∀(T:Aj) (kV doc pm:Ag) (an:Option Aj) (cdv ct:Ag) (us:List Ag),(us++ds).length=ps.length ->
 ∃kk,bindArgs (W.fnOf x x (v9 st) (zt st) (q8 st) (.ref T) kV doc pm an cdv ct) ⟨us,[]⟩=seqItems? (.ref T) >>= kk/\kk (some #[.none])=pure (ps.zip (us++ds))
structure CalD (P:Ac)(w:Ah)(K:Aa)(mg:Str->Option Ag)(base:Heap)(x:Str)(k:Nat)(sp:Sp):Prop where
 ex:∃f fd ps,mg x=some (.ref f)/\FnOk P w K mg base (CXE P w) k f fd ps sp/\W.keepIn K (.ref f)=true/\Binds K fd ps []/\Binds K fd ps [.none]
theorem FunD.binds {x:Str}{st:Stmt}{f:Aj}{fd:Ad}{ps:List Str}{ds:List Ag}(F:FunD K x st f fd)(b:Zh x st ps ds):Binds K fd ps ds:=by obtain⟨oc,od,T,kV,Z,pm,an,cdv,ct,ab,rfl,lk,ac,o,n,U,L⟩:=F.ex;intro s D X J;obtain⟨kk,h1,h2⟩:=b T kV Z pm an cdv ct D J;exact W.binds_K X rfl U L h1 h2
theorem DefInD.cal {x:Str}{st:Stmt}{ps:List Str}{k:Nat}{sp:Sp}{h:Heap}(d:DefInD K x st)(KX:K.In h)(G:h.Ns mainGlobals mg)(b:Zh x st ps [])(b':Zh x st ps [.none])(ok:∀f fd,FunD K x st f fd->FnOk P w K mg base (CXE P w) k f fd ps sp):CalD P w K mg base x k sp:=by obtain⟨f,fd,a,F⟩:=d.ex;exact⟨f,fd,ps,bV KX G a,ok f fd F,F.kp,F.binds b,F.binds b'⟩
theorem CalD.all {x:Str}{k:Nat}{sp:Sp}(c:CalD P w K mg base x k sp):Cal P w K mg base x k sp:=by obtain⟨f,fd,ps,h1,h2,h3,h4,_⟩:=c.ex;exact⟨f,fd,ps,h1,h2,h3,h4⟩
end
section
variable {X:Cx}{x:Str}{k:Nat}{sp:Sp}{E:St->XK}{p pos:Pos}{e:Expr}{es:List Expr}{t:TA}
end
end L2
namespace L2
open PySem
def hv (n:Nat):Nat×Nat:=if h:n%2=0/\0<n then((hv (n/2)).1+1,(hv (n/2)).2) else(0,n)
termination_by n
decreasing_by all_goals lia
theorem xxj {n:Nat}(h:n%2=0)(p:0<n):hv n=((hv (n/2)).1+1,(hv (n/2)).2):=by rw[hv,dif_pos ⟨h,p⟩]
theorem hv_odd {n:Nat}(h:¬ n%2=0):hv n=(0,n):=by rw[hv,dif_neg λz=>h z.1]
def hT (n:Int):Int:=((hv n.toNat).1:Int)
def hO (n:Int):Int:=((hv n.toNat).2:Int)
def jd (n:Int):List Int:=if hO n=1 then [1,-hT n] else [0,hT n,hO n]
theorem lexB {x y:Int}{xs ys:List Int}:HT.lexLt (x::xs) (y::ys)=true↔x<y\/(x=y/\HT.lexLt xs ys=true):=by
 rw[HT.lexLt_cons];by_cases h:x=y
 .rw[av h];constructor
  .intro z;exact .inr ⟨h,z⟩
  .rintro (z|z)
   .lia
   .exact z.2
 .rw[ao h,dD];constructor
  .intro z;exact .inl z
  .rintro (z|z)
   .exact z
   .exact absurd z.1 h
theorem lexN:HT.lexLt [] []=true↔False:=by simp[HT.lexLt]
theorem lexNC {y:Int}{ys:List Int}:HT.lexLt [] (y::ys)=true↔True:=by simp[HT.lexLt]
theorem lexCN {y:Int}{ys:List Int}:HT.lexLt (y::ys) []=true↔False:=by simp[HT.lexLt]
def qqk (a b:Int):Prop:=(¬ hO a=1/\hO b=1)\/(hO a=1/\hO b=1/\hT b<hT a)\/(¬ hO a=1/\¬ hO b=1/\(hT a<hT b\/(hT a=hT b/\hO a<hO b)))
instance (a b:Int):Decidable (qqk a b):=by unfold qqk;infer_instance
theorem aheadL (a b:Int):HT.lexLt (jd a) (jd b)=decide (qqk a b):=by rw[cP,dD];unfold jd qqk;by_cases h1:hO a=1 <;> by_cases h2:hO b=1 <;> simp[h1,h2,lexB,lexN,lexNC,lexCN] <;> lia
theorem Qk {u:Int}(h1:1<=u)(e:u%2=0):hT u=hT (u/2)+1/\hO u=hO (u/2):=by
 unfold hT hO;have:(u/2).toNat=u.toNat/2:=by lia
 rw[this,xxj (n:=u.toNat) ⋯ ⋯];exact⟨by push_cast;rfl,rfl⟩
theorem Zu {u:Int}(h1:1<=u)(e:¬ u%2=0):hT u=0/\hO u=u:=by unfold hT hO;rw[hv_odd (n:=u.toNat) ⋯];exact⟨rfl,by show((u.toNat:Nat):Int)=u;lia⟩
end L2
namespace L2
open PySem PySem.Spec PyProof.Rows
section
variable {κ:Type}[DecidableEq κ]
def uu (kvs:List (κ×V))(k:κ):Option V:=(kvs.find? λkv=>decide (kv.1=k)).map (·.2)
def Jv (kvs:List (κ×V))(k:κ)(v:V):List (κ×V) :=
 if(kvs.any λkv=>decide (kv.1=k))=true then kvs.map (λkv=>if kv.1=k then(kv.1,v) else kv) else kvs++[(k,v)]
theorem jt {p:κ×V}{r:List (κ×V)}{k:κ}(e:p.1=k):uu (p::r) k=some p.2:=by simp[uu,eS,e]
theorem yb {p:κ×V}{r:List (κ×V)}{k:κ}(e:¬ p.1=k):uu (p::r) k=uu r k:=by simp[uu,eS,e]
theorem qwc (k:κ):∀kvs:List (κ×V),(kvs.any λkv=>decide (kv.1=k))=(uu kvs k).isSome
 |[]=>rfl
 |p::r=>by
  rw[gI];by_cases e:p.1=k
  .simp only[jt e,aR e,Bool.true_or,Option.isSome_some]
  .rw[yb e,ba e,Bool.false_or];exact qwc k r
theorem qvm (k j:κ)(y:V):∀kvs:List (κ×V),uu kvs k=none->uu (kvs++[(k,y)]) j=if j=k then some y else uu kvs j
 |[],_=>by
  by_cases e:k=j
  .rw[av e.symm];exact jt (p:=(k,y)) e
  .rw[ao (λz=>e z.symm)];exact yb (p:=(k,y)) e
 |p::r,hn=>by
  rw[List.cons_append];have hk:¬ p.1=k:=λz=>by rw[jt z]at hn;cases hn
  rw[yb hk]at hn;have ih:=qvm k j y r hn;by_cases e:p.1=j
  .rw[jt e,jt e,ao (λz=>hk (e.trans z))]
  .rw[yb e,yb e,ih]
theorem qqz (kvs:List (κ×V))(k:κ)(v:V):(Jv kvs k v).length<=kvs.length+1:=by
 unfold Jv;split
 .rw[ag];lia
 .rw[ar,aJ,df];lia
theorem wy6 {kvs:List (κ×V)}{k:κ}(v:V)(h:uu kvs k=none):Jv kvs k v=kvs++[(k,v)]:=by unfold Jv;rw[qwc,h];exact ao ⋯
theorem RelO.isSome_eq {o:Option V}{u:Option Ag}(r:RelO o u):o.isSome=u.isSome:=by
 cases o with
 |none=>cases u with
  |none=>rfl
  |some _=>exact(show False from r).elim
 |some _=>cases u with
  |none=>exact(show False from r).elim
  |some _=>rfl
theorem KV.val {kvs:List (κ×V)}{vs:List (κ×Ag)}(r:KV kvs vs)(k:κ):RelO (uu kvs k) (valueAt vs k):=by
 unfold KV at r
 induction r with
 |nil=>exact True.intro
 |@cons p q ps qs h t ih =>
  obtain⟨h1,h2⟩:=h;by_cases e:p.1=k
  .have D:q.1=k:=h1.symm.trans e;have b:valueAt (q::qs) k=some q.2:=by simp[valueAt,eS,D]
   rw[jt e,b];exact h2
  .have D:¬ q.1=k:=λz=>e (h1.trans z);have b:valueAt (q::qs) k=valueAt qs k:=by simp[valueAt,eS,D]
   rw[yb e,b];exact ih
theorem KV.any {kvs:List (κ×V)}{vs:List (κ×Ag)}(r:KV kvs vs)(k:κ):(kvs.any λkv=>decide (kv.1=k))=vs.any λkv=>decide (kv.1=k):=by
 unfold KV at r
 induction r with
 |nil=>rfl
 |cons h t ih=>rw[gI,gI,ih,h.1]
theorem KV.repl {kvs:List (κ×V)}{vs:List (κ×Ag)}(r:KV kvs vs)(k:κ){y:V}{u:Ag}(ry:RelV y u) :
  KV (kvs.map λkv=>if kv.1=k then(kv.1,y) else kv) (vs.map λkv=>if kv.1=k then(kv.1,u) else kv):=by
 unfold KV at r ⊢
 induction r with
 |nil=>exact .nil
 |@cons p q ps qs h t ih =>
  rw[aM,aM];refine .cons ?_ ih;obtain⟨h1,h2⟩:=h;by_cases e:p.1=k
  .rw[av e,av (h1.symm.trans e)];exact⟨h1,ry⟩
  .rw[ao e,ao (λz=>e (h1.trans z))];exact⟨h1,h2⟩
theorem KV.put {kvs:List (κ×V)}{vs:List (κ×Ag)}(r:KV kvs vs)(k:κ){y:V}{u:Ag}(ry:RelV y u):KV (Jv kvs k y) (stored vs k u):=by
 unfold Jv stored;rw[r.any k];by_cases e:(vs.any λD=>decide (D.1=k))=true
 .rw[av e,av e];exact r.repl k ry
 .rw[ao e,ao e];exact Paired.snoc r ⟨rfl,ry⟩
theorem KV.length {kvs:List (κ×V)}{vs:List (κ×Ag)}(r:KV kvs vs):kvs.length=vs.length:=b7 r
end
theorem wvq {P:Ac}{w:Ah}{k:Key}{u:Ag}(r:RelV (kV k) u):(vx P w).is k u=true:=by
 cases k with
 |inl i=>obtain⟨t,e⟩:=(show ∃t,u=Value.int i t from r);subst e;exact qum P w i t
 |inr x=>obtain⟨t,e⟩:=(show ∃t,u=Value.str x t from r);subst e;exact qy7 P w x t
theorem qkw {P:Ac}{w:Ah}:∀ {ks:List Key} {us:List Ag},Vals (ks.map kV) us->ItemsAre (vx P w) ks us
 |[],_,r=>by rw[d9]at r;cases r;exact .nil
 |k::ks,_,r=>by
  rw[aM]at r;cases r with
  |cons h t=>exact .cons (wvq h) (qkw t)
abbrev KT (H:Hp):List (List Key×V)->List (List Key×Aj×Ag)->Prop:=Paired λp q=>p.1=q.1/\H q.2.1=some (.tup (p.1.map kV))/\RelV p.2 q.2.2
theorem KT.val {H:Hp}{kvs:List (List Key×V)}{xs:List (List Key×Aj×Ag)}(r:KT H kvs xs)(k:List Key):RelO (uu kvs k) ((atKey xs k).map (·.2)):=by
 induction r with
 |nil=>exact True.intro
 |@cons p q ps qs h t ih =>
  obtain⟨h1,_,h2⟩:=h;by_cases e:p.1=k
  .have D:q.1=k:=h1.symm.trans e;have b:atKey (q::qs) k=some q.2:=by simp[atKey,eS,D]
   rw[jt e,b];exact h2
  .have D:¬ q.1=k:=λz=>e (h1.trans z);have b:atKey (q::qs) k=atKey qs k:=by simp[atKey,eS,D]
   rw[yb e,b];exact ih
theorem KT.repl {H:Hp}{kvs:List (List Key×V)}{xs:List (List Key×Aj×Ag)}(r:KT H kvs xs)(k:List Key){y:V}{u:Ag}(ry:RelV y u) :
  KT H (kvs.map λkv=>if kv.1=k then(kv.1,y) else kv) (xs.map (putAt k u)):=by
 induction r with
 |nil=>exact .nil
 |@cons p q ps qs h t ih =>
  rw[aM,aM];refine .cons ?_ ih;obtain⟨h1,h2,D⟩:=h;unfold putAt;by_cases e:p.1=k
  .rw[av e,av (h1.symm.trans e)];exact⟨h1,h2,ry⟩
  .rw[ao e,ao (λz=>e (h1.trans z))];exact⟨h1,h2,D⟩
theorem KT.put {H:Hp}{kvs:List (List Key×V)}{xs:List (List Key×Aj×Ag)}(r:KT H kvs xs)(k:List Key){b:Aj}{y:V}{u:Ag}(hb:H b=some (.tup (k.map kV)))(ry:RelV y u) :
  KT H (Jv kvs k y) (storedH xs k b u):=by
 have e:(kvs.any λD=>decide (D.1=k))=(atKey xs k).isSome:=by rw[qwc,(r.val k).isSome_eq,Option.isSome_map]
 unfold Jv storedH;rw[e];by_cases q:(atKey xs k).isSome=true
 .rw[av q,av q];exact r.repl k ry
 .rw[ao q,ao q];exact Paired.snoc r ⟨rfl,hb,ry⟩
theorem KT.keeps {H H':Hp}{kvs:List (List Key×V)}{xs:List (List Key×Aj×Ag)}(r:KT H kvs xs)(ht:∀b ys,H b=some (.tup ys)->H' b=some (.tup ys)):KT H' kvs xs :=
 Paired.mapP r λ_ _ z=>⟨z.1,ht _ _ z.2.1,z.2.2⟩
section
variable {P:Ac}{w:Ah}{H:Hp}{h:Heap}{a:Aj}
theorem rd_of {u:HO}(ok:HOk P w H h)(e:Rd H a u):ObjOk P w H h a u:=e.ok ok
theorem wv6 {kvs:List (Key×V)}(ok:HOk P w H h)(e:Rd H a (.dK kvs)):kvs.length<=sizeLine/\(a==sysModules)=false/\∃vs,KV kvs vs/\h.DictOf (vx P w) a vs :=
 show ObjOk P w H h a (.dK kvs) from rd_of ok e
theorem dk_of {kvs:List (Key×V)}(ok:HOk P w H h)(e:H a=some (.dK kvs)):kvs.length<=sizeLine/\(a==sysModules)=false/\∃vs,KV kvs vs/\h.DictOf (vx P w) a vs:=wv6 ok (.inl e)
theorem Jc {ks:List Key}(ok:HOk P w H h)(e:H a=some (.tup (ks.map kV))):(tupleKind (vx P w)).is h ks a:=by obtain⟨_,D,r,o,h1,h2,n,F⟩:=(show ObjOk P w H h a (.tup (ks.map kV)) from ok a _ e);exact⟨o,D.toArray,n,h1,h2,F,by simpa using qkw r⟩
theorem wzm {kvs:List (List Key×V)}(ok:HOk P w H h)(e:Rd H a (.dT kvs)):kvs.length<=sizeLine/\(a==sysModules)=false /\
  ∃xs,KT H kvs xs/\h.DictOfH (tupleKind (vx P w)) a xs:=by
 obtain⟨z,y,xs,r,o,es,ep,h1,h2,L,J,F⟩:=(show ObjOk P w H h a (.dT kvs) from rd_of ok e);refine⟨z,y,xs,r,o,es,ep,h1,h2,L,J,λx D=>?_,F⟩;have U:∀ {l:List (List Key×V)} {m:List (List Key×Aj×Ag)},KT H l m->∀x∈m,(tupleKind (vx P w)).is h x.1 x.2.1:=by
  intro l m q
  induction q with
  |nil=>intro x D;exact nomatch D
  |@cons p q ps qs hq t ih =>
   intro x D;rcases aQ.mp D with e|D
   .subst e;exact Jc ok (by rw[<-hq.1];exact hq.2.1)
   .exact ih x D
 exact U r x D
theorem dt_of {kvs:List (List Key×V)}(ok:HOk P w H h)(e:H a=some (.dT kvs)):kvs.length<=sizeLine/\(a==sysModules)=false /\
  ∃xs,KT H kvs xs/\h.DictOfH (tupleKind (vx P w)) a xs:=wzm ok (.inl e)
end
def DGet (H:Hp)(a:Aj)(y:V)(r:Option V):Prop :=
 (∃kvs k,Rd H a (.dK kvs)/\y=kV k/\r=uu kvs k)\/∃kvs k b,Rd H a (.dT kvs)/\y=.ref b/\H b=some (.tup (k.map kV))/\r=uu kvs k
def DPut (H:Hp)(a:Aj)(y v:V)(H':Hp):Prop :=
 (∃kvs k,H a=some (.dK kvs)/\y=kV k/\kvs.length<sizeLine/\H'=upd H a (.dK (Jv kvs k v))) \/
 ∃kvs k b,H a=some (.dT kvs)/\y=.ref b/\H b=some (.tup (k.map kV))/\kvs.length<sizeLine/\H'=upd H a (.dT (Jv kvs k v))
theorem DGet.t {H:Hp}{a b:Aj}{kvs:List (List Key×V)}{k:List Key}(e:H a=some (.dT kvs))(eb:H b=some (.tup (k.map kV))):DGet H a (.ref b) (uu kvs k):=.inr ⟨kvs,k,b,.inl e,rfl,eb,rfl⟩
theorem DPut.t {H:Hp}{a b:Aj}{kvs:List (List Key×V)}{k:List Key}{v:V}(e:H a=some (.dT kvs))(eb:H b=some (.tup (k.map kV)))(hl:kvs.length<sizeLine) :
  DPut H a (.ref b) v (upd H a (.dT (Jv kvs k v))):=.inr ⟨kvs,k,b,e,rfl,eb,hl,rfl⟩
section
variable {X:Cx}{pins:List (Aj×Obj)}{σ:St}{H:Hp}{s:Ab}{a:Aj}{y v:V}{u r:Ag}{o:Option V}{A:Ae}{E:Ag->Ab->Prop}
theorem Inv.big (I:Inv X pins σ H s):sysModules<s.heap.objs.size:=by have h:mainGlobals<s.heap.objs.size:=(I.mod.glob.keeps I.bk).lt;exact bo ⋯ h
theorem wyz {Q:Ag->Ab->Prop}(hu:A.units+1<cLine)(I:Inv X pins σ H s)(g:DGet H a y (some v))(ry:RelV y u)(h:∀w' s',Inv X pins σ H s'->RelV v w'->Q w' s') :
  wpAny (model X.prog X.w) A (getItem (.ref a) u) Q E s:=by
 rcases g with⟨kvs,k,e,L,l⟩|⟨kvs,k,b,e,L,eb,l⟩
 .subst L;obtain⟨z,hd,vs,F,U⟩:=wv6 I.hok e;obtain⟨w',J,D⟩:=RelO.some_of (v:=v) (o:=valueAt vs k) (by rw[l];exact F.val k);exact wpAny_getItem_of (wvq ry) U.mapOf J (h w' _ (I.tok _) D)
 .subst L;cases(show u=Value.ref b from ry);obtain⟨z,hd,xs,F,U⟩:=wzm I.hok e;obtain⟨w',J,D⟩:=RelO.some_of (v:=v) (o:=(atKey xs k).map (·.2)) (by rw[l];exact F.val k);obtain⟨p,Z,W⟩:=eQ.mp J;refine wpAny_getItem_heap (iq hu) (Jc I.hok eb) U Z ?_;rw[W];exact h w' _ (I.tok _) D
theorem xz9 {Q:Ag->Ab->Prop}(hu:A.units+1<cLine)(I:Inv X pins σ H s)(g:DGet H a y o)(ry:RelV y u)(h:∀s',Inv X pins σ H s'->Q (.bool (!o.isSome)) s') :
  wpAny (model X.prog X.w) A (compareOp .NotIn u (.ref a)) Q E s:=by
 rcases g with⟨kvs,k,e,J,l⟩|⟨kvs,k,b,e,J,U,l⟩
 .subst J;obtain⟨z,F,vs,D,L⟩:=wv6 I.hok e;refine wpAny_notIn_of (wvq ry) F L.mapOf ?_;rw[<- (D.val k).isSome_eq,<-l];exact h _ (I.tok _)
 .subst J;cases(show u=Value.ref b from ry);obtain⟨z,F,xs,D,L⟩:=wzm I.hok e;refine wpAny_notIn_heap (iq hu) (Jc I.hok U) F L ?_;have q:=(D.val k).isSome_eq;rw[Option.isSome_map]at q;rw[<-q,<-l];exact h _ (I.tok _)
theorem qwz {h':Heap}{t':Nat}{ob:HO}(I:Inv X pins σ H s)(mu:Mut (H a))(hs:Heap.SameBut a s.heap h')(he:∃q,h'.get? a=some q)(new:ObjOk X.prog X.w (upd H a ob) h' a ob) :
  Inv X pins σ (upd H a ob) { s with heap:=h',toks:=t' } :=
 I.write (x:=a) (e:=a) mu (.inl rfl) (λb q hb z=>(hs.2 b hb).trans z) he new
theorem dk_new {P:Ac}{w:Ah}{H':Hp}{h':Heap}{kvs:List (Key×V)}{vs:List (Key×Ag)}(z:kvs.length<=sizeLine)(hd:(a==sysModules)=false)(rel:KV kvs vs)(dd:h'.DictOf (vx P w) a vs) :
  ObjOk P w H' h' a (.dK kvs):=⟨z,hd,vs,rel,dd⟩
theorem wj9 {H':Hp}{Q:Unit->Ab->Prop}(hu:A.units+1<cLine)(I:Inv X pins σ H s)(g:DPut H a y v H')(ry:RelV y u)(rv:RelV v r)(h:∀s',Inv X pins σ H' s'->Q () s') :
  wpAny (model X.prog X.w) A (setItem (.ref a) u r) Q E s:=by
 rcases g with⟨kvs,k,e,Z,l,eH⟩|⟨kvs,k,b,e,Z,eb,l,eH⟩
 .subst Z eH;obtain⟨z,W,vs,D,dd⟩:=dk_of I.hok e;have L:vs.length<=sizeLine:=by rw[<-D.length];exact z
  have U:(Jv kvs k v).length<=sizeLine:=by have:=qqz kvs k v;lia
  refine wpAny_setItem_pairs (hsz:=L) (wvq ry) dd λh' J hs=>h _ ?_;have he:∃q,h'.get? a=some q:=let ⟨q,_,_,F,_⟩:=J;⟨q,F⟩;exact qwz I (by rw[e];exact True.intro) hs he (dk_new U W (D.put k rv) J)
 .subst Z eH;cases(show u=Value.ref b from ry);obtain⟨z,W,xs,D,dd⟩:=dt_of I.hok e;have L:xs.length<=sizeLine:=by rw[<-b7 D];exact z
  have U:(Jv kvs k v).length<=sizeLine:=by have:=qqz kvs k v;lia
  refine wpAny_setItem_heap (hsz:=L) (iq hu) (Jc I.hok eb) dd λh' J hs=>h _ ?_;obtain⟨q,es,ep,F,h2,h3,h4,_,h5⟩:=J;refine qwz I (by rw[e];exact True.intro) hs ⟨q,F⟩ ⟨U,W,_,(D.put k eb rv).keeps λc ys ec=>?_,q,es,ep,F,h2,h3,h4,h5⟩;rw[qt (ne_of ec e (λz=>nomatch z))];exact ec
end
section
variable {X:Cx}{pins:List (Aj×Obj)}{σ:St}{H:Hp}{s:Ab}{a:Aj}{kvs:List (Key×V)}{k:Key}{u:Ag}{A:Ae}{E:Ag->Ab->Prop}
end
def NoSl (i:Expr):Prop:=∀ov iv,subscripted i false ov iv=operate [ov,iv] (getItem ov iv)
theorem xz6 {prog:Ac}{w:Ah}{A:Ae}{E:Ag->Ab->Prop}{s:Ab}{env:Env}{value slice:Expr}{pos:Pos}{T id:String}{Q:Ag->Ab->Prop}
  (hl:typeLookup (.type T) "__getitem__" = pure (some (.builtin id))) (hs:NoSl slice)
  (h:wpAny (model prog w) A (eval value env) (λo s₁=>wpAny (model prog w) A (eval slice env) (λi s₂=>s₂.TypeIs o T/\wpAny (model prog w) A (getItem o i) Q E s₂) E s₁) E s) :
  wpAny (model prog w) A (eval (.Subscript value slice pos) env) Q E s:=by
 refine Subscript_ (aZ h (λo s₁ U=>aZ U (λi s₂ D=>?_) λ_ _ x=>x) λ_ _ x=>x);obtain⟨hT,D⟩:=D;unfold subscriptTail;refine aa ?_;rw[getitemInPython_of_ne hT.not_modules];refine aa (jI hT hl ?_);have F:wpAny (model prog w) A (subscripted slice false o i) (λr J=>wpAny (model prog w) A (letTemporaryGo value o r >>= λ_=>pure r) Q E J) E s₂:=by rw[hs o i];exact wpAny_operating (aZ D (λr J L=>aa (wpAny_letTemporaryGo (ai L))) λ_ _ x=>x)
 first
  |exact ai (aa F)
  |exact aa (ai (aa F))
  |exact aa F
theorem qut {X:Cx}{pins:List (Aj×Obj)}{σ:St}{H:Hp}{s:Ab}{a:Aj}{y:V}{o:Option V}(I:Inv X pins σ H s)(g:DGet H a y o):s.TypeIs (.ref a) "dict" := by
 rcases g with⟨kvs,k,e,_,_⟩|⟨kvs,k,b,e,_,_,_⟩
 .obtain⟨_,_,vs,_,dd⟩:=wv6 I.hok e;exact dd.typeIs
 .obtain⟨_,_,xs,_,dd⟩:=wzm I.hok e;exact dd.typeIs
def tDGet (td ty:TE):TE:=λσ H Q=>td σ H λx H1=>ty σ H1 λy H2=>∃a v,x=.ref a/\DGet H2 a y (some v)/\Q v H2
def xx6 (ty td:TE):TE:=λσ H Q=>ty σ H λy H1=>td σ H1 λx H2=>∃a o,x=.ref a/\DGet H2 a y o/\Q (.bl (!o.isSome)) H2
def sDPut (td ty tv:TE):TS:=λD σ H=>tv σ H λv H1=>td σ H1 λx H2=>ty σ H2 λy H3=>∃a H4,x=.ref a/\DPut H3 a y v H4/\D.nx σ H4
section
variable {X:Cx}{o i e value:Expr}{pos pos' tpos:Pos}{td ty tv:TE}
theorem xz8 (hu:X.A.units+1<cLine)(ho:PE X o td)(hi:PE X i ty)(hs:NoSl i):PE X (.Subscript o i pos) (tDGet td ty):=by intro pins s σ H Q I h;refine xz6 PySem.F.slot_dict_getitem.lookup hs (thn (ho pins s σ H _ I h) λu s1 ⟨x,H1,I1,rx,q1⟩=>thn (hi pins s1 σ H1 _ I1 q1) λiv s2 ⟨y,H2,I2,ry,a,v,ex,g,q2⟩=>?_);subst ex;obtain rfl:u=Value.ref a:=rx;exact⟨qut I2 g,wyz hu I2 g ry λL U J D=>⟨v,H2,J,D,q2⟩⟩
theorem wjp (hu:X.A.units+1<cLine)(hi:PE X i ty)(ho:PE X o td):PC X .NotIn i o (xx6 ty td):=by intro pins s σ H Q I h;refine thn (hi pins s σ H _ I h) λiv s1 ⟨y,H1,I1,ry,q1⟩=>thn (ho pins s1 σ H1 _ I1 q1) λu s2 ⟨x,H2,I2,rx,a,ov,ex,g,q2⟩=>?_;subst ex;obtain rfl:u=Value.ref a:=rx;exact xz9 hu I2 g ry λF D=>⟨.bl (!ov.isSome),H2,D,rfl,q2⟩
theorem xx0 (hu:X.A.units+1<cLine)(ho:PE X o td)(hi:PE X i ty)(hv:PE X value tv)(hs:swapsWith value (some (.Subscript o i pos')) pos.line X.env=pure false) :
  PS X (.Assign [.Subscript o i pos'] value pos) (sDPut td ty tv):=by
 intro pins s σ H D I h;refine wpAny_Assign_Subscript (thn (hv pins s σ H _ I h) λr s1 ⟨v,H1,I1,rv,q1⟩=>thn (ho pins s1 σ H1 _ I1 q1) λu s2 ⟨x,H2,I2,rx,q2⟩=>thn (hi pins s2 σ H2 _ I2 q2) λiv s3 ⟨y,H3,I3,ry,a,H4,ex,g,q3⟩=>?_) hs;subst ex;obtain rfl:u=Value.ref a:=rx;exact wj9 hu I3 g ry rv λJ F=>⟨σ,H4,F,q3⟩
end
theorem xqf {P:Ac}{w:Ah}{H:Hp}(h:Heap)(hb:sysModules<h.objs.size):ObjOk P w H (h.push { cls:=.type "dict",data:=.dict #[] }) h.objs.size (.dT []) :=
 ⟨aW _,cy.mpr (dY (aB hb)),[],.nil,_,#[],0,az _ rfl,⟨rfl,rfl,rfl⟩,rfl,rfl,jP⟩
def tDNewT:TE:=λ_ H Q=>∀p,H p=none->Q (.ref p) (upd H p (.dT []))
section
variable {X:Cx}{pos:Pos}
theorem wuu:PE X (.Dict [] [] pos) tDNewT:=λpins s σ H Q I h =>
 wpAny_Dict_empty ⟨.ref s.heap.objs.size,_,I.laid (a:=s.heap.objs.size) (o:=.dT []) (t':=s.toks) (λ_ _ q=>ah _ q) (aj _) (xqf s.heap I.big),rfl,h _ (I.hok.fresh (aj _))⟩
end
end L2
namespace L2
open PySem PySem.Spec PySem.Calls PySem.W PyProof.Rows
section
variable {prog:Ac}{w:Ah}{A:Ae}{E:Ag->Ab->Prop}{s:Ab}{S a:Aj}{es:Array (Int×Ag)}{ep:Nat}{t:SetTable}{o:Obj}{k:List Key}{ks:List (List Key)}{h:Int}{B:Nat}
abbrev KD (prog:Ac)(w:Ah):=tupleKind (vx prog w)
def EsIn (prog:Ac)(w:Ah)(B:Nat)(hp:Heap)(es:Array (Int×Ag))(ks:List (List Key)):Prop:=∀p∈es.toList,∃k∈ks,∃a,p.2=.ref a/\a<B/\(KD prog w).is hp k a
theorem wk8 (n:Nat){v:Ag}(h:carriedByValue v=true):ofAClassStatement n v=pure false:=by
 cases v with
 |ref x=>cases h
 |_=>first | rfl | (simp[ofAClassStatement];done) | (cases n <;> rfl)
theorem quu (hx:(KD prog w).is s.heap k a){n:Nat}{Q:Bool->Ab->Prop}(hQ:Q false s):wpAny (model prog w) A (ofAClassStatement (n+1) (.ref a)) Q E s:=by
 have hT:s.TypeIs (.ref a) "tuple" := IsTupleKey.typeIs hx;obtain⟨o,D,m,J,Z,L,hi⟩:=hx;unfold ofAClassStatement;refine aa (wpAny_typeOf hT ?_);dsimp only;rw[av ⋯];refine aa (ai ?_);simp only[fH,aG,bB];refine aa (ir J L ?_);refine aa ?_;show wpAny _ _ (forIn D _ _) _ _ s;rw[<-fS];refine gD _ (λrest r s'=>r.1=none/\s'=s/\∀v∈rest,carriedByValue v=true) _ ?_ ?_ _ _ ⟨rfl,rfl,hi.byValue⟩
 .rintro v rest r s' ⟨hr,rfl,hall⟩;rw[wk8 _ (hall v dS)];refine aa (ai ?_);simp only[aG,bB];exact ai ⟨rfl,rfl,λu F=>hall u (cf _ F)⟩
 .rintro⟨W,U⟩ s' ⟨hr,rfl,_⟩;simp only at hr;subst hr;exact ai hQ
theorem xxu (hx:(KD prog w).is s.heap k a){Q:Bool->Ab->Prop}(hQ:Q false s):∀(l:List Ag),(∀y∈l,∃k' b,y=.ref b/\(KD prog w).is s.heap k' b)->wpAny (model prog w) A (searchCouldBeSeen (.ref a) l) Q E s:=by
 intro l L;unfold searchCouldBeSeen;refine aa ?_;refine gD _ (λrest r s'=>r.1=none/\s'=s/\∀y∈rest,∃k' b,y=.ref b/\(KD prog w).is s.heap k' b) _ ?_ ?_ _ _ ⟨rfl,rfl,L⟩
 .rintro y rest r s' ⟨hr,rfl,hall⟩;obtain⟨k',b,rfl,F⟩:=hall y dS;have D:∀u∈rest,∃k' b,u=.ref b/\(KD prog w).is s'.heap k' b:=λu J=>hall u (cf _ J);dsimp only;split
  .exact ai ⟨rfl,rfl,D⟩
  .refine aa ((KD prog w).quiet hx ?_);simp only[fH,aG,bB];refine aa ((KD prog w).quiet F ?_);simp only[fH,aG,bB];refine aa (quu hx ?_);simp only[aG,bB];refine aa (quu F ?_);simp only[aG,bB];exact ai ⟨rfl,rfl,D⟩
 .rintro⟨W,U⟩ s' ⟨hr,rfl,_⟩;simp only at hr;subst hr;exact ai hQ
structure StAt (prog:Ac)(w:Ah)(B:Nat)(hp:Heap)(S:Aj)(ks:List (List Key))(es:Array (Int×Ag))(ep:Nat)(t:SetTable)(e:Nat)(o:Obj):Prop where
 ho:hp.get? S=some o
 ex:o.ExactSet
 hd:o.data=.set es ep t
 dm:t.dummies=#[]
 pl:t.place.size=es.size
 pw:t.mask+1=2 ^ e
 lo:3<=e
 hi:e<=12
 few:es.size*5<t.mask*3
 len:es.size=ks.length
 els:EsIn prog w B hp es ks
theorem wuj {b:Aj}{Q:Bool->Ab->Prop}(hQ:Q true s):wpAny (model prog w) A (isSame (.ref b) (.ref b)) Q E s:=by unfold isSame;dsimp only;rw[av (fm b)];exact ai hQ
end
end L2
namespace L2
open PySem PySem.Spec PySem.Calls PySem.W PyProof.Rows
section
variable {prog:Ac}{w:Ah}{A:Ae}{E:Ag->Ab->Prop}{s:Ab}{S a:Aj}{es:Array (Int×Ag)}{ep:Nat}{t:SetTable}{o:Obj}{k:List Key}{ks:List (List Key)}{h:Int}{B:Nat}
theorem qjq {hp:Heap}(ho:hp.get? S=some o)(hd:o.data=.set es ep t){es':Array (Int×Ag)}{t':SetTable}:(hp.update S (Obj.putSet es' t')).get? S=some { o with data:=.set es' (ep+1) t' }:=by have e:=putSet_of es' t' hd;have:=cM (Obj.putSet es' t') ho (by rw[e];rfl);rw[e]at this;exact this
end
end L2
namespace L2
open PySem
def wq5 (xs:Array Nat):Prop:=∀(i j x y:Nat),i<j->xs[i]?=some x->xs[j]?=some y->x<y
theorem qw4 {xs:Array Nat}{j:Nat}(r:wq5 xs):∀f lo hi,hi-lo<=f->lo<=hi->hi<=xs.size->(∀(i x:Nat),i<lo->xs[i]?=some x->x<j)->(∀(i x:Nat),hi<=i->xs[i]?=some x->j<=x) ->
  SetTable.below.go xs j f lo hi<=xs.size/\(∀(i x:Nat),i<SetTable.below.go xs j f lo hi->xs[i]?=some x->x<j)/\(∀(i x:Nat),SetTable.below.go xs j f lo hi<=i->xs[i]?=some x->j<=x)
 |0,lo,hi,hf,h1,h2,a,b=>by
  obtain rfl:lo=hi:=by lia
  exact⟨h2,a,b⟩
 |f+1,lo,hi,hf,h1,h2,a,b=>by
  unfold SetTable.below.go;by_cases c:lo<hi
  .rw[av c];dsimp only;have J:(lo+hi)/2<xs.size:=by lia
   have e:xs[(lo+hi)/2]?=some xs[(lo+hi)/2]:=bb J;have U:xs.getD ((lo+hi)/2) j=xs[(lo+hi)/2]:=by simp[Array.getD,J]
   rw[U];have F:∀(i k x y:Nat),i<=k->xs[i]?=some x->xs[k]?=some y->x<=y:=λi k x y h ex D=>by
    rcases bp i k with q|q
    .exact br (r i k x y q ex D)
    .obtain rfl:i=k:=by lia
     rw[ex]at D;cases D;exact aj _
   by_cases d:xs[(lo+hi)/2]<j
   .rw[av d];exact qw4 r f _ _ ⋯ ⋯ h2 (λi x L ex=>eN (F i _ _ _ ⋯ ex e) d) b
   .rw[ao d];exact qw4 r f _ _ ⋯ ⋯ ⋯ a (λi x L ex=>bK ⋯ (F _ i _ _ L e ex))
  .rw[ao c];obtain rfl:lo=hi:=by lia
   exact⟨h2,a,b⟩
theorem ud {xs:Array Nat}(r:wq5 xs)(j:Nat):SetTable.below xs j<=xs.size/\(∀(i x:Nat),i<SetTable.below xs j->xs[i]?=some x->x<j)/\(∀(i x:Nat),SetTable.below xs j<=i->xs[i]?=some x->j<=x) :=
 qw4 r _ _ _ ⋯ (aW _) (aj _) (λi x h=>by lia) λi x h ex=>by have:=(bI.mp ex).1;lia
theorem xw3 {xs:Array Nat}(r:wq5 xs){i j:Nat}(h:xs[i]?=some j):SetTable.below xs j=i:=by
 obtain⟨a,b,c⟩:=ud r j;have hi:=(bI.mp h).1;rcases iO (SetTable.below xs j) i with q|q|q
 .have e:xs[SetTable.below xs j]?=some (xs[SetTable.below xs j]'⋯):=bb _;have h1:=c _ _ (aj _) e;have h2:=r _ _ _ _ q e h;lia
 .exact q
 .have:=b i j q h;lia
theorem wzk {xs:Array Nat}(r:wq5 xs){i j:Nat}(h:xs[i]?=some j):SetTable.below xs (j+1)=i+1:=by
 obtain⟨a,b,c⟩:=ud r (j+1);have hi:=(bI.mp h).1;rcases iO (SetTable.below xs (j+1)) (i+1) with q|q|q
 .have:=c i j ⋯ h;lia
 .exact q
 .have D:i+1<xs.size:=by lia
  have e:xs[i+1]?=some xs[i+1]:=bb D;have h1:=b _ _ q e;have h2:=r _ _ _ _ (eG i) h e;lia
theorem wxh {xs:Array Nat}(r:wq5 xs):SetTable.below xs 0=0:=by
 obtain⟨a,b,c⟩:=ud r 0;rcases iu (SetTable.below xs 0) with q|q
 .exact q
 .have e:xs[0]?=some (xs[0]'⋯):=bb _;have:=b 0 _ q e;lia
section
variable {t:SetTable}
theorem qjf (r:wq5 t.place){i j:Nat}(h:t.place[i]?=some j):t.slot j=.live i:=by unfold SetTable.slot;dsimp only;rw[xw3 r h,h];simp
theorem xw6 {t t':SetTable}(h:t.mask=t'.mask)(p:SetTable.Probe):t.advance p=t'.advance p:=by unfold SetTable.advance;rw[h]
theorem qky {t t':SetTable}(h:t.mask=t'.mask):∀n p,zk t n p=zk t' n p
 |0,p=>rfl
 |n+1,p=>by show zk t n (t.advance p)=zk t' n (t'.advance p);rw[xw6 h,qky h]
def pos (t:SetTable)(h:Int)(n:Nat):Nat:=(zk t n (t.probeStart h)).j
theorem qxt {t t':SetTable}(h:t.mask=t'.mask)(x:Int)(n:Nat):pos t x n=pos t' x n:=by
 unfold pos;have:t.probeStart x=t'.probeStart x:=by unfold SetTable.probeStart;rw[h]
 rw[this,qky h]
structure Tab (bt:Bool)(t:SetTable)(hs:List Int):Prop where
 dm:t.dummies=#[]
 pl:t.place.size=hs.length
 pw:∃e,t.mask+1=2 ^ e/\3<=e/\e<=13
 few:hs.length<=t.mask
 rise:wq5 t.place
 reach:∀(i:Nat) (h:Int),hs[i]?=some h->∃N j,N<=10*(t.mask+14)/\t.place[i]?=some j/\pos t h N=j/\∀n,n<N->∃i':Nat,t.place[i']?=some (pos t h n)
 led:t.led=!bt
 plain:t.plain=true
variable {bt:Bool}{hs:List Int}{h:Int}
theorem Tab.fresh:Tab bt (.fresh 0 0 (!bt)) []:=by
 refine⟨rfl,rfl,⟨3,rfl,aj _,⋯⟩,aW _,λi j x y _ ex=>?_,λi h e=>?_,rfl,rfl⟩
 .have:(#[]:Array Nat)[i]?=some x:=ex;simp at this
 .simp at e
theorem Tab.fits (T:Tab bt t hs):t.fits hs.length=true:=by
 have h1:=T.pl;have h2:=T.few;have:t.fill<=t.mask:=by unfold SetTable.fill;rw[T.dm,h1];simpa using h2
 simp[SetTable.fits,h1,this]
theorem Tab.big (T:Tab bt t hs):7<=t.mask/\t.mask<8192:=by
 obtain⟨e,h1,h2,D⟩:=T.pw;have a:(2:Nat) ^ 3<=2 ^ e:=dv ⋯ h2;have b:(2:Nat) ^ e<=2 ^ 13:=dv ⋯ D;have c:(2:Nat) ^ 13=8192:=by decide
 have d:(2:Nat) ^ 3=8:=by decide
 lia
theorem Tab.free (T:Tab bt t hs)(h:Int):∃N,N<=10*(t.mask+13)/\t.slot (pos t h N)=.empty/\∀n,n<N->∃i:Nat,t.slot (pos t h n)=.live i:=by
 obtain⟨e,h1,_⟩:=T.pw;obtain⟨D,hN,U⟩:=wk3 h1 T.dm (by rw[T.pl];exact T.few) h;have L:∀D,t.slot (pos t h D)=.empty->∃N,N<=D/\t.slot (pos t h N)=.empty/\∀n,n<N->∃i:Nat,t.slot (pos t h n)=.live i:=by
  intro D
  induction D using Nat.strongRecOn with
  |_ D ih =>
   intro Z;by_cases c:∀n,n<D->∃i:Nat,t.slot (pos t h n)=.live i
   .exact⟨D,aj _,Z,c⟩
   .rw[Classical.not_forall]at c;obtain⟨n,c⟩:=c;rw[Classical.not_imp]at c;obtain⟨W,c⟩:=c;rcases qx7 T.dm (pos t h n) with q|q
    .obtain⟨N,a1,J,F⟩:=ih n W q;exact⟨N,⋯,J,F⟩
    .exact absurd q c
 obtain⟨N,a1,J,F⟩:=L D U;exact⟨N,⋯,J,F⟩
theorem qxb {α:Type}(xs:Array α)(p:Nat)(x:α):(SetTable.insertAt xs p x).toList=xs.toList.take p++x::xs.toList.drop p:=by unfold SetTable.insertAt;rw[bO,dE,eo,eo];simp only[List.extract,aX,List.singleton_append,Nat.sub_zero,List.drop_zero];congr 2;exact da (by simp)
theorem wqd {α:Type}(l:List α)(p:Nat)(x:α)(hp:p<=l.length)(i:Nat):(l.take p++x::l.drop p)[i]?=if i<p then l[i]? else if i=p then some x else l[i-1]?:=by
 have D:(l.take p).length=p:=by rw[bg];lia
 by_cases c:i<p
 .rw[av c,aT ⋯,iU c]
 .rw[ao c,aA ⋯,D];by_cases d:i=p
  .rw[av d,d,hU];rfl
  .rw[ao d];obtain⟨k,F⟩:∃k,i-p=k+1:=⟨i-p-1,⋯⟩;rw[F,i6,dr];congr 1;lia
def xn {α:Type}(l:List α)(p:Nat)(x:α):List α:=l.take p++x::l.drop p
theorem uw {α:Type}(l:List α)(p:Nat)(x:α):(xn l p x).Perm (x::l):=by unfold xn;refine(List.perm_middle).trans ?_;rw[dh]
theorem Tab.put (T:Tab bt t hs){N:Nat}(hN:N<=10*(t.mask+13))(he:t.slot (pos t h N)=.empty)(hl:∀n,n<N->∃i:Nat,t.slot (pos t h n)=.live i)(hf:hs.length+1<=t.mask) :
  Tab bt (t.put (pos t h N)).1 (xn hs (t.put (pos t h N)).2 h)/\(t.put (pos t h N)).2<=hs.length:=by
 obtain⟨b1,b2,b3⟩:=ud T.rise (pos t h N);have hp:(t.put (pos t h N)).2=SetTable.below t.place (pos t h N):=rfl;have L:(t.put (pos t h N)).1.place=SetTable.insertAt t.place (SetTable.below t.place (pos t h N)) (pos t h N):=rfl;rw[hp];generalize hb:SetTable.below t.place (pos t h N)=p at b1 b2 b3 L;have ac:p<=hs.length:=by rw[<-T.pl];exact b1
 have ad:∀i:Nat,t.place[i]?≠some (pos t h N):=λi e=>by rw[qjf T.rise e]at he;cases he
 have U:∀i:Nat,(SetTable.insertAt t.place p (pos t h N))[i]?=if i<p then t.place[i]? else if i=p then some (pos t h N) else t.place[i-1]?:=λi=>by rw[<-aE,qxb,wqd _ _ _ (by rw[aU];exact b1)];simp only[aE]
 have up:∀i j:Nat,t.place[i]?=some j->∃J:Nat,(SetTable.insertAt t.place p (pos t h N))[J]?=some j:=λi j e=>by
  by_cases c:i<p
  .exact⟨i,by rw[U,av c];exact e⟩
  .exact⟨i+1,by rw[U,ao ⋯,ao ⋯,iw];exact e⟩
 refine⟨⟨?_,?_,T.pw,?_,?_,?_,T.led,T.plain⟩,ac⟩
 .show(if SetTable.has t.dummies (pos t h N) then _ else t.dummies)=#[];rw[T.dm];simp[SetTable.has]
 .rw[L,<-aU,qxb];show(xn t.place.toList p (pos t h N)).length=_;rw[(uw t.place.toList p _).length_eq,(uw hs p h).length_eq];simp[T.pl]
 .rw[(uw hs p h).length_eq];exact hf
 .intro i j x y am ex D;rw[L,U]at ex D;by_cases c1:i<p
  .rw[av c1]at ex;have h1:=b2 i x c1 ex;by_cases c2:j<p
   .rw[av c2]at D;exact T.rise i j x y am ex D
   .rw[ao c2]at D;by_cases c3:j=p
    .rw[av c3]at D;cases D;exact h1
    .rw[ao c3]at D;have:=b3 _ y ⋯ D;lia
  .rw[ao c1]at ex;rw[ao ⋯,ao ⋯]at D;by_cases c3:i=p
   .rw[av c3]at ex;cases ex;have h2:=b3 _ y ⋯ D;rcases bp (pos t h N) y with q|q
    .exact q
    .have:y=pos t h N:=by lia
     rw[this]at D;exact absurd D (ad _)
   .rw[ao c3]at ex;exact T.rise (i-1) (j-1) x y ⋯ ex D
 .intro i h' F;have pm:∀x n,pos (t.put (pos t h N)).1 x n=pos t x n:=λx n=>qxt (t:=(t.put (pos t h N)).1) (t':=t) rfl x n;unfold xn at F;rw[wqd _ _ _ ac]at F;have ab:∀Z,hs[Z]?=some h'->(SetTable.insertAt t.place p (pos t h N))[i]?=t.place[Z]?->∃W j,W<=10*((t.put (pos t h N)).1.mask+14)/\(t.put (pos t h N)).1.place[i]?=some j/\pos (t.put (pos t h N)).1 h' W=j/\∀n,n<W->∃J:Nat,(t.put (pos t h N)).1.place[J]?=some (pos (t.put (pos t h N)).1 h' n):=λZ e0 e1=>by obtain⟨W,j,r1,r2,r3,r4⟩:=T.reach Z h' e0;refine⟨W,j,r1,by rw[L,e1];exact r2,by rw[pm];exact r3,λn hn=>?_⟩;obtain⟨J,e'⟩:=r4 n hn;rw[pm,L];exact up J _ e'
  by_cases c1:i<p
  .rw[av c1]at F;exact ab i F (by rw[U,av c1])
  .rw[ao c1]at F;by_cases c2:i=p
   .rw[av c2]at F;cases F;refine⟨N,pos t h N,bK hN (by show _<=10*(t.mask+14);lia),by rw[L,U,ao c1,av c2],pm _ _,λn hn=>?_⟩;obtain⟨J,e'⟩:=hl n hn;rw[pm,L];exact up J _ (Jy e')
   .rw[ao c2]at F;exact ab (i-1) F (by rw[U,ao c1,ao c2])
end
end L2
namespace L2
open PySem
theorem xqx (t:SetTable)(q:Nat×Nat):∀k r j,k<=r->zk t k { j:=j,more:=r,i:=q.1,perturb:=q.2,dummy:=none }={ j:=j+k,more:=r-k,i:=q.1,perturb:=q.2,dummy:=none }
 |0,r,j,_=>rfl
 |k+1,r,j,h=>by
  show zk t k (t.advance _)=_;have e:t.advance { j:=j,more:=r,i:=q.1,perturb:=q.2,dummy:=none }={ j:=j+1,more:=r-1,i:=q.1,perturb:=q.2,dummy:=none }:=by unfold SetTable.advance;rw[av (by show r>0;lia)]
  rw[e,xqx t q k (r-1) (j+1) ⋯];congr 1 <;> lia
theorem wus (t:SetTable)(q:Nat×Nat){k:Nat}(h:q.1+k<=SetTable.runEnd t.mask q.1):(zk t k (rs t.mask q)).j=q.1+k:=by unfold rs;rw[xqx t q k _ _ ⋯]
theorem wk2 (mask i:Nat):i<=SetTable.runEnd mask i/\SetTable.runEnd mask i<=i+9/\(i<=mask->SetTable.runEnd mask i<=mask):=by unfold SetTable.runEnd;split <;> lia
theorem xzu (mask i p:Nat):(SetTable.leap mask i p).1<=mask:=by unfold SetTable.leap;exact dC (eC _ (eO _))
theorem wvb {t:SetTable}{owner:Array (Option Nat)}:∀n fuel i p,n<fuel->i<=t.mask->owner.getD (lp t.mask n (i,p)).1 (some 0)=none ->
  ∃j N,SetTable.layClean.free t.mask owner fuel i p=some j/\owner.getD j (some 0)=none/\N<=10*n+9/\(zk t N (rs t.mask (i,p))).j=j/\∀k,k<N->(zk t k (rs t.mask (i,p))).j<=t.mask/\owner.getD (zk t k (rs t.mask (i,p))).j (some 0)≠none
 |n,0,i,p,hf,_,_=>absurd hf (fN _)
 |n,fuel+1,i,p,hf,hi,hn=>by
  obtain⟨r1,r2,r3⟩:=wk2 t.mask i;have r3:=r3 hi;unfold SetTable.layClean.free;cases q:(List.range (SetTable.runEnd t.mask i+1-i)).find? λk=>(owner.getD (i+k) (some 0)).isNone with
  |some k =>
   have hk:=aw.mp (List.mem_of_find?_eq_some q);have hs:owner.getD (i+k) (some 0)=none:=by have:=List.find?_some q;exact Option.isNone_iff_eq_none.mp this
   refine⟨i+k,k,rfl,hs,⋯,wus t (i,p) (by show i+k<=SetTable.runEnd t.mask i;lia),λD ab=>?_⟩;rw[wus t (i,p) (by show i+D<=SetTable.runEnd t.mask i;lia)];refine⟨by show i+D<=_;lia,λz=>?_⟩;have fs:=List.find?_eq_some_iff_append.mp q;obtain⟨_,F,bs,e,U⟩:=fs;have hl:F.length=k:=by
    have h1:(List.range (SetTable.runEnd t.mask i+1-i))[F.length]?=some k:=by rw[e];simp
    have h2:=(ak.mp h1).1;rw[bA (by simpa using h2)]at h1;exact au h1
   have L:D∈F:=by have h1:(List.range (SetTable.runEnd t.mask i+1-i))[D]?=some D:=bA ⋯;rw[e,aT ⋯]at h1;exact aC h1
   have:=U D L;rw[show(i,p).1+D=i+D from rfl]at z;rw[z]at this;exact absurd this (by simp)
  |none =>
   have W:=List.find?_eq_none.mp q;have J:∀k,i+k<=SetTable.runEnd t.mask i->owner.getD (i+k) (some 0)≠none:=λk hk z=>by have:=W k (aw.mpr ⋯);rw[z]at this;exact this rfl
   cases n with
   |zero=>exact absurd hn (by have:=J 0 ⋯;rw[Nat.add_zero]at this;exact this)
   |succ n =>
    obtain⟨j,N,a1,a2,a3,a4,Z⟩:=wvb (t:=t) (owner:=owner) n fuel (SetTable.leap t.mask i p).1 (SetTable.leap t.mask i p).2 ⋯ (xzu _ _ _) hn;have st:zk t (SetTable.runEnd t.mask i-i+1) (rs t.mask (i,p))=rs t.mask (SetTable.leap t.mask i p):=qzb t (i,p) _ _;refine⟨j,SetTable.runEnd t.mask i-i+1+N,a1,a2,⋯,by rw[Qh,st];exact a4,λk hk=>?_⟩;by_cases c:k<SetTable.runEnd t.mask i-i+1
    .rw[wus t (i,p) (by show i+k<=SetTable.runEnd t.mask i;lia)];exact⟨by show i+k<=_;lia,J k ⋯⟩
    .rw[show k=SetTable.runEnd t.mask i-i+1+(k-(SetTable.runEnd t.mask i-i+1)) by lia,Qh,st];exact Z _ ⋯
structure Own (t:SetTable)(hs:List Int)(owner:Array (Option Nat))(k:Nat):Prop where
 size:owner.size=t.mask+1
 low:∀j v:Nat,owner[j]?=some (some v)->v<k
 sur:∀v,v<k->∃j:Nat,owner[j]?=some (some v)
 inj:∀j j' v:Nat,owner[j]?=some (some v)->owner[j']?=some (some v)->j=j'
 way:∀(j v:Nat) (h:Int),owner[j]?=some (some v)->hs[v]?=some h->∃N,N<=10*(t.mask+14)/\pos t h N=j/\∀n,n<N->∃v',owner[pos t h n]?=some (some v')
section
variable {t:SetTable}{hs:List Int}{owner:Array (Option Nat)}{k:Nat}
theorem got {j:Nat}(h:owner.getD j (some 0)=none):owner[j]?=some none:=by
 rw[bX]at h;cases q:owner[j]? with
 |none=>rw[q]at h;cases h
 |some v=>rw[q]at h;exact cK some h
theorem taken {j:Nat}(h:owner.getD j (some 0)≠none)(hj:j<owner.size):∃v,owner[j]?=some (some v):=by
 rw[bX,bb hj]at h;rw[bb hj];cases q:owner[j] with
 |none=>rw[q]at h;exact absurd rfl h
 |some v=>exact⟨v,rfl⟩
theorem Own.free (o:Own t hs owner k)(hk:k<=t.mask):∃j,j<=t.mask/\owner.getD j (some 0)=none:=by
 apply aD;intro c;have F:∀j,j<t.mask+1->∃v,v<k/\owner[j]?=some (some v):=λj D=>by obtain⟨v,e⟩:=taken (owner:=owner) (j:=j) (λz=>c ⟨j,⋯,z⟩) (by rw[o.size];exact D);exact⟨v,o.low j v e,e⟩
 have:=qzc ((List.range (t.mask+1)).map λj=>((owner.getD j none).getD 0)) (List.range k) ?_ ?_
 .rw[ag,aH,aH]at this;lia
 .refine b9.mpr (cx (λ{a b} ha hb hab=>?_) gE);obtain⟨v,_,e⟩:=F a (aw.mp ha);obtain⟨U,_,J⟩:=F b (aw.mp hb);rw[bX,bX,e,J];intro z;have L:v=U:=z;subst L;exact hab (o.inj a b v e J)
 .intro x W;obtain⟨j,D,rfl⟩:=aS.mp W;obtain⟨v,hv,e⟩:=F j (aw.mp D);rw[bX,e];exact aw.mpr hv
theorem Own.new (t:SetTable)(hs:List Int):Own t hs (Array.replicate (t.mask+1) none) 0:=by
 have D:∀j v:Nat,(Array.replicate (t.mask+1) (none:Option Nat))[j]?=some (some v)->False:=λj v e=>by rw[Array.getElem?_replicate]at e;split at e <;> cases e
 exact⟨Array.size_replicate,λj v e=>(D j v e).elim,λv hv=>absurd hv (fN _),λj F v e=>(D j v e).elim,λj v h e=>(D j v e).elim⟩
theorem Own.set {h:Int}{j N:Nat}(o:Own t hs owner k)(hh:hs[k]?=some h)(hj:owner.getD j (some 0)=none)(hN:N<=10*(t.mask+14))(hp:pos t h N=j)(hw:∀n,n<N->pos t h n<=t.mask/\owner.getD (pos t h n) (some 0)≠none):Own t hs (owner.setIfInBounds j (some k)) (k+1):=by
 have ej:=got hj;have ab:=(bI.mp ej).1;have F:∀i:Nat,(owner.setIfInBounds j (some k))[i]?=if i=j then some (some k) else owner[i]?:=λi=>by
  by_cases c:i=j
  .rw[av c,c,Array.getElem?_setIfInBounds_self_of_lt ab]
  .rw[ao c,Array.getElem?_setIfInBounds_ne (λz=>c z.symm)]
 have U:∀i v:Nat,owner[i]?=some (some v)->(owner.setIfInBounds j (some k))[i]?=some (some v):=λi v e=>by rw[F,ao (λz=>by rw[z,ej]at e;cases e)];exact e
 refine⟨by rw[iV];exact o.size,λi v e=>?_,λv hv=>?_,λi J v e D=>?_,λi v h' e Z=>?_⟩
 .rw[F]at e;by_cases c:i=j
  .rw[av c]at e;cases e;lia
  .rw[ao c]at e;have:=o.low i v e;lia
 .by_cases c:v=k
  .exact⟨j,by rw[F,av rfl,c]⟩
  .obtain⟨i,e⟩:=o.sur v ⋯;exact⟨i,U i v e⟩
 .rw[F]at e D;by_cases c:i=j
  .by_cases c':J=j
   .rw[c,c']
   .rw[av c]at e;rw[ao c']at D;cases e;have:=o.low J k D;lia
  .rw[ao c]at e;by_cases c':J=j
   .rw[av c']at D;cases D;have:=o.low i k e;lia
   .rw[ao c']at D;exact o.inj i J v e D
 .rw[F]at e;by_cases c:i=j
  .rw[av c]at e;cases e;rw[hh]at Z;cases Z;refine⟨N,hN,by rw[hp,c],λn W=>?_⟩;obtain⟨h1,h2⟩:=hw n W;obtain⟨L,D⟩:=taken h2 (by rw[o.size];lia);exact⟨L,U _ _ D⟩
  .rw[ao c]at e;obtain⟨N1,a1,a2,a3⟩:=o.way i v h' e Z;refine⟨N1,a1,a2,λn W=>?_⟩;obtain⟨L,D⟩:=a3 n W;exact⟨L,U _ _ D⟩
theorem Own.fold {e:Nat}(hM:t.mask+1=2 ^ e):∀(l:List Int) (owner:Array (Option Nat)) (k:Nat),Own t hs owner k->hs.drop k=l->hs.length<=t.mask->∃owner',l.foldl (λacc h=>do
   let (owner,k) <-acc
   let j <-SetTable.layClean.free t.mask owner (SetTable.turns t.mask) (SetTable.bits h%(t.mask+1)) (SetTable.bits h)
   pure (owner.setIfInBounds j (some k),k+1)) (some (owner,k))=some (owner',k+l.length)/\Own t hs owner' (k+l.length)
 |[],owner,k,o,_,_=>⟨owner,rfl,o⟩
 |h::l,owner,k,o,hd,hz=>by
  have hk:hs[k]?=some h:=by
   have:(hs.drop k)[0]?=some h:=by rw[hd];rfl
   rw[dr]at this;exact this
  have D:=(ak.mp hk).1;have J:hs.drop (k+1)=l:=by rw[fB D]at hd;exact(iW hd).2
  obtain⟨j0,F,W⟩:=o.free ⋯;obtain⟨n,hn,e1⟩:=wqb hM (q:=(SetTable.bits h%(t.mask+1),SetTable.bits h)) (dC (eC _ (eO _))) (wvw h) F;obtain⟨j,N,e2,e3,e4,e5,Z⟩:=wvb (t:=t) (owner:=owner) n (SetTable.turns t.mask) (SetTable.bits h%(t.mask+1)) (SetTable.bits h) (by unfold SetTable.turns;lia) (dC (eC _ (eO _))) (by rw[e1];exact W);obtain⟨owner',U,L⟩:=Own.fold hM l (owner.setIfInBounds j (some k)) (k+1) (o.set hk e3 ⋯ e5 Z) J hz;refine⟨owner',?_,by rw[aJ,show k+(l.length+1)=k+1+l.length by lia];exact L⟩;rw[List.foldl_cons,aJ,show k+(l.length+1)=k+1+l.length by lia,<-U];congr 1;simp[e2]
theorem qzj:∀ {l m:List Nat},l.Nodup->m.Nodup->(∀a,a∈l↔a∈m)->l.Perm m
 |[],m,_,_,h=>by
  cases m with
  |nil=>exact .refl _
  |cons a m=>exact absurd ((h a).mpr (.head _)) (by simp)
 |a::l,m,hl,hm,h=>by
  have ha:a∈m:=(h a).mp (.head _);have hl':=dJ.mp hl;refine(List.Perm.cons a (qzj hl'.2 (hm.erase a) λb=>?_)).trans (List.perm_cons_erase ha).symm;rw[hm.mem_erase_iff];constructor
  .intro hb;exact⟨λz=>by subst z;exact hl'.1 hb,(h b).mp (.tail _ hb)⟩
  .rintro⟨h1,h2⟩;rcases aQ.mp ((h b).mpr h2) with z|z
   .exact absurd z h1
   .exact z
end
theorem qqx:∀n,n<1100->∃e,3<=e/\e<=13/\SetTable.sizeAbove (4*n)=2 ^ e/\4*n<SetTable.sizeAbove (4*n):=by
 have:∀n,n<1100->(List.range 14).any (λe=>decide (3<=e)&&(SetTable.sizeAbove (4*n)==2 ^ e)&&decide (4*n<SetTable.sizeAbove (4*n)))=true:=by decide +kernel
 intro n D;obtain⟨e,F,h⟩:=dR.mp (this n D);simp only[bR,dD,fQ]at h;exact⟨e,h.1.1,by have:=aw.mp F;lia,h.1.2,h.2⟩
theorem Tab.relay {bt:Bool}{t:SetTable}{hs:List Int}(T:Tab bt t hs)(hn:hs.length<1100):∃t2 order,t.relaid hs.toArray (4*hs.length)=some (t2,order)/\order.toList.Perm (List.range hs.length)/\Tab bt t2 (order.toList.map λi=>hs.getD i 0)/\hs.length*4<=t2.mask:=by
 obtain⟨e,e1,e2,e3,e4⟩:=qqx hs.length hn;have a6:1<=(2:Nat) ^ e:=jG e;obtain⟨owner,f1,o⟩:=Own.fold (t:={ t with mask:=SetTable.sizeAbove (4*hs.length)-1 }) (hs:=hs) (e:=e) (by show SetTable.sizeAbove (4*hs.length)-1+1=_;lia) hs _ 0 (Own.new _ hs) rfl (by show hs.length<=SetTable.sizeAbove (4*hs.length)-1;lia);rw[cJ]at f1 o;have lc:SetTable.layClean (SetTable.sizeAbove (4*hs.length)-1) hs.toArray=some owner:=by unfold SetTable.layClean;rw[<-Array.foldl_toList];rw[show hs.toArray.toList=hs from rfl];rw[f1];rfl
 generalize hmask:SetTable.sizeAbove (4*hs.length)-1=mask at lc o f1;have an:mask+1=2 ^ e:=by lia
 have ap:hs.length*4<=mask:=by lia
 let D:List (Nat×Nat):=(List.range (mask+1)).filterMap λj=>(owner.getD j none).map (j,·);have J:∀j v,(j,v)∈D↔owner[j]?=some (some v):=λj v=>by
  show(j,v)∈(List.range (mask+1)).filterMap _↔_;rw[fP];constructor
  .rintro⟨j',_,F⟩;cases q:owner.getD j' none with
   |none=>rw[q]at F;cases F
   |some v' =>
    rw[q]at F;cases F;rw[bX]at q;cases q2:owner[j]? with
    |none=>rw[q2]at q;cases q
    |some y=>rw[q2]at q;exact cK some q
  .intro F;have W:=(bI.mp F).1;rw[o.size]at W;exact⟨j,aw.mpr W,by rw[bX,F];rfl⟩
 have pw:D.Pairwise λa b=>a.1<b.1:=by
  refine List.pairwise_filterMap.mpr (List.pairwise_lt_range.imp λ{a b} hab x hx y hy=>?_);have am:x.1=a:=by
   cases q:owner.getD a none with
   |none=>rw[q]at hx;cases hx
   |some v=>rw[q]at hx;cases hx;rfl
  have ad:y.1=b:=by
   cases q:owner.getD b none with
   |none=>rw[q]at hy;cases hy
   |some v=>rw[q]at hy;cases hy;rfl
  rw[am,ad];exact hab
 have ab:(D.map (·.2)).Perm (List.range hs.length):=by
  refine qzj (b9.mpr (cx (λ{a b} Z hb hab z=>?_) pw)) gE λv=>?_
  .have:=o.inj a.1 b.1 a.2 ((J _ _).mp Z) (by rw[z];exact(J _ _).mp hb);lia
  .rw[aw,aS];constructor
   .rintro⟨a,Z,rfl⟩;exact o.low _ _ ((J _ _).mp Z)
   .intro hv;obtain⟨j,ej⟩:=o.sur v hv;exact⟨(j,v),(J _ _).mpr ej,rfl⟩
 have ac:D.length=hs.length:=by have:=ab.length_eq;rwa [ag,aH]at this
 refine⟨{ mask:=mask,place:=(D.map (·.1)).toArray,dummies:=#[],finger:=t.finger,led:=t.led,moves:=t.movedTo mask,plain:=t.plain },(D.map (·.2)).toArray,?_,ab,?_,ap⟩
 .unfold SetTable.relaid SetTable.laid;rw[hmask,lc];rfl
 .refine⟨rfl,?_,⟨e,an,e1,e2⟩,?_,?_,?_,T.led,T.plain⟩
  .show(D.map (·.1)).toArray.size=((D.map (·.2)).toArray.toList.map _).length;simp
  .show((D.map (·.2)).toArray.toList.map _).length<=mask;rw[ag,show(D.map (·.2)).toArray.toList=D.map (·.2) from rfl,ag,ac];lia
  .intro i j x y as ex ey;have ex':(D.map (·.1))[i]?=some x:=by simpa using ex
   have a4:(D.map (·.1))[j]?=some y:=by simpa using ey
   obtain⟨hi,rfl⟩:=ak.mp ex';obtain⟨W,rfl⟩:=ak.mp a4;rw[gF,gF];exact bh.mp pw i j _ _ as
  .intro i h eh;have L:((D.map (·.2)).map λi=>hs.getD i 0)[i]?=some h:=eh;rw[ax,ax]at L;cases q:D[i]? with
   |none=>rw[q]at L;cases L
   |some jv =>
    rw[q]at L;obtain⟨j,v⟩:=jv;have ov:=(J j v).mp (aC q);have hv:=o.low j v ov;have a5:hs[v]?=some h:=by have:hs.getD v 0=h:=au L;rw[af,ae hv]at this;rw[ae hv];exact cK some this
    obtain⟨N,a1,a2,a3⟩:=o.way j v h ov a5;refine⟨N,j,a1,?_,?_,λn hn=>?_⟩
    .show(D.map (·.1)).toArray[i]?=some j;simp[q]
    .have pm:pos { mask:=mask,place:=(D.map (·.1)).toArray,dummies:=#[],finger:=t.finger,led:=t.led,moves:=t.movedTo mask,plain:=t.plain } h N=pos { t with mask:=mask } h N:=qxt (by rfl) h N;exact pm.trans a2
    .obtain⟨v',F⟩:=a3 n hn;obtain⟨U,a0⟩:=bS ((J _ _).mpr F);refine⟨U,?_⟩;show(D.map (·.1)).toArray[U]?=_;have pm:pos { mask:=mask,place:=(D.map (·.1)).toArray,dummies:=#[],finger:=t.finger,led:=t.led,moves:=t.movedTo mask,plain:=t.plain } h n=pos { t with mask:=mask } h n:=qxt (by rfl) h n;have e9:(D.map (·.1)).toArray[U]?=some (pos { t with mask:=mask } h n):=by simp[a0]
     rw[e9,<-pm]
end L2
namespace L2
open PySem PySem.Spec PySem.Calls PySem.W PyProof.Rows
def byT (w:Ah):Bool:=w.params.followText "set-order"
def SAt (w:Ah)(hp:Heap)(S:Aj)(ps:List (Int×Ag)):Prop:=∃o ep t,hp.get? S=some o/\o.ExactSet/\o.data=.set ps.toArray ep t/\Tab (byT w) t (ps.map (·.1))/\ps.length*5<t.mask*3
section
variable {prog:Ac}{w:Ah}{A:Ae}{E:Ag->Ab->Prop}{s:Ab}{S a:Aj}{ps:List (Int×Ag)}{ep:Nat}{t:SetTable}{o:Obj}{k:List Key}{h:Int}
theorem SAt.typeIs (P:SAt w s.heap S ps):s.TypeIs (.ref S) "set" := let ⟨o,_,_,ho,hc,_⟩:=P;⟨o,ho,hc.1⟩
theorem SAt.at_ {hp h':Heap}(P:SAt w hp S ps)(k1:∀o,hp.get? S=some o->h'.get? S=some o):SAt w h' S ps:=let ⟨o,ep,t,ho,r⟩:=P;⟨o,ep,t,k1 o ho,r⟩
theorem Tab.fits' {bt:Bool}(T:Tab bt t (ps.map (·.1))):t.fits ps.toArray.size=true:=by have:=T.fits;simpa using this
theorem wv3 (l:List (Int×Ag))(p:Nat)(x:Int×Ag):(xn l p x).map (·.1)=xn (l.map (·.1)) p x.1:=by unfold xn;simp
theorem wvj (l:List (Int×Ag))(p:Nat)(x:Int×Ag):SetTable.insertAt l.toArray p x=(xn l p x).toArray:=by apply eI.mp;rw[qxb];rfl
theorem Zb (l:List (Int×Ag)):∀(il:List Nat),(∀i∈il,i<l.length)->il.filterMap (λi=>l.toArray[i]?)=il.map λi=>l.getD i (0,.none)
 |[],_=>rfl
 |i::il,hi=>by
  have h1:=hi i (.head _);have e:l.toArray[i]?=some (l.getD i (0,.none)):=by simp[h1]
  rw[eE,e,Zb l il λj D=>hi j (.tail _ D)];rfl
theorem lay_in {Q:Bool->Ab->Prop}{N:Nat}{x:Ag}(ho:s.heap.get? S=some o)(hex:o.ExactSet)(hd:o.data=.set ps.toArray ep t)(T:Tab (byT w) t (ps.map (·.1)))(few:ps.length*5<t.mask*3)(hn:ps.length<1099)
  (hN:N<=10*(t.mask+13)) (he:t.slot (pos t h N)=.empty) (hl:∀n,n<N->∃i:Nat,t.slot (pos t h n)=.live i)
  (hQ:∀h' ps',Heap.SameBut S s.heap h'->SAt w h' S ps'->ps'.Perm ((h,x)::ps)->Q true { s with heap:=h' }) :
  wpAny (model prog w) A (do
   storeSet S (SetTable.insertAt ps.toArray (t.put (pos t h N)).2 (h,x)) (t.put (pos t h N)).1
   if(!false&&(t.put (pos t h N)).1.tooFull)=true then do
    setRelay S (SetTable.grown (ps.toArray.size+1))
    pure true
   else pure true) Q E s:=by
 have an:100000<=sizeLine:=by decide
 have lm:ps.length=(ps.map (·.1)).length:=by simp
 have bm:=T.big;obtain⟨F,am⟩:=T.put hN he hl (by rw[<-lm];lia);have hm:(t.put (pos t h N)).1.mask=t.mask:=rfl;generalize (t.put (pos t h N)).2=p at F am ⊢;generalize ht1:(t.put (pos t h N)).1=t1 at F hm ⊢;rw[wvj];have pm:=uw ps p (h,x);have L:=pm.length_eq;rw[aJ]at L;rw[<-wv3 ps p (h,x)]at F;refine aa (gm ho hd ?_ (by rw[aq];lia));have U:(s.heap.update S (Obj.putSet (xn ps p (h,x)).toArray t1)).get? S=some { o with data:=.set (xn ps p (h,x)).toArray (ep+1) t1 }:=qjq ho hd;have W:Heap.SameBut S s.heap (s.heap.update S (Obj.putSet (xn ps p (h,x)).toArray t1)):=cB _ _ _;have fl:t1.fill=ps.length+1:=by unfold SetTable.fill;rw[F.dm,F.pl,ag,L];rfl
 generalize s.heap.update S (Obj.putSet (xn ps p (h,x)).toArray t1)=h1 at U W ⊢;show wpAny (model prog w) A _ Q E { s with heap:=h1 };by_cases tf:t1.tooFull=true
 .rw[tf];simp only[iz,jX,cY];refine aa ?_;have gr:SetTable.grown (ps.toArray.size+1)=4*((xn ps p (h,x)).map (·.1)).length:=by unfold SetTable.grown;rw[ao (by rw[aq];lia),ag,L,aq];lia
  obtain⟨J,D,f1,f2,T2,f4⟩:=F.relay (by rw[ag,L];lia);rw[gr];unfold setRelay;refine aa (bE (s:={ s with heap:=h1 }) U rfl F.fits' ?_);dsimp only;have ad:(xn ps p (h,x)).toArray.map (·.1)=((xn ps p (h,x)).map (·.1)).toArray:=by simp
  have sl:¬ SetTable.sizeAbove (4*((xn ps p (h,x)).map (·.1)).length)>sizeLine:=by
   obtain⟨e,e1,e2,e3,e4⟩:=qqx ((xn ps p (h,x)).map (·.1)).length (by rw[ag,L];lia);have b:(2:Nat) ^ e<=2 ^ 13:=dv ⋯ e2;have c:(2:Nat) ^ 13=8192:=by decide
   lia
  rw[ao sl,ad,f1];have ab:∀i∈D.toList,i<(xn ps p (h,x)).length:=λi hi=>by have:=aw.mp (f2.mem_iff.mp hi);rwa [ag]at this
  have oe:D.filterMap (λi=>(xn ps p (h,x)).toArray[i]?)=(D.toList.map λi=>(xn ps p (h,x)).getD i (0,.none)).toArray:=by apply eI.mp;rw[Array.toList_filterMap,Zb _ _ ab]
  have Z:(D.toList.map λi=>(xn ps p (h,x)).getD i (0,.none)).length=(xn ps p (h,x)).length:=by rw[ag,f2.length_eq,aH,ag]
  have op:(D.toList.map λi=>(xn ps p (h,x)).getD i (0,.none)).Perm (xn ps p (h,x)):=by
   refine(f2.map _).trans ?_;rw[ag];have:(List.range (xn ps p (h,x)).length).map (λi=>(xn ps p (h,x)).getD i (0,.none))=xn ps p (h,x):=by
    refine bT λi=>?_;rw[ax];by_cases c:i<(xn ps p (h,x)).length
    .rw[bA c];simp[af,c]
    .rw[aO (by simp;lia),aO ⋯];rfl
   rw[this]
  have om:(D.toList.map λi=>(xn ps p (h,x)).getD i (0,.none)).map (·.1)=D.toList.map λi=>((xn ps p (h,x)).map (·.1)).getD i 0:=by rw[bF];refine eF λi hi=>?_;have:=ab i hi;simp[af,this]
  rw[<-om]at T2;refine aa ?_;show wpAny (model prog w) A (do
   if(D.filterMap (λi=>(xn ps p (h,x)).toArray[i]?)).size != (xn ps p (h,x)).toArray.size then unsupported "internal:set-table-lost-an-element"
   pure (D.filterMap (λi=>(xn ps p (h,x)).toArray[i]?),J)) _ E _
  rw[oe];have ob:((D.toList.map λi=>(xn ps p (h,x)).getD i (0,.none)).toArray.size != (xn ps p (h,x)).toArray.size)=false:=by rw[aq,aq,Z];simp
  rw[ob];simp only[aG,bB];refine ai ?_;dsimp only;generalize (D.toList.map λi=>(xn ps p (h,x)).getD i (0,.none))=ps2 at T2 op Z;refine gm (s:={ s with heap:=h1 }) U rfl ?_ (by rw[aq,Z];lia);refine ai ?_;have ac:Heap.SameBut S h1 (h1.update S (Obj.putSet ps2.toArray J)):=cB _ _ _;have g2:(h1.update S (Obj.putSet ps2.toArray J)).get? S=some { o with data:=.set ps2.toArray (ep+1+1) J }:=qjq U rfl;refine hQ _ ps2 (W.trans ac) ⟨_,_,J,g2,hex,rfl,T2,?_⟩ (op.trans pm);rw[ag]at f4;lia
 .rw[i7]at tf;rw[tf];simp only[ig,aG,bB];refine ai (hQ h1 _ W ⟨_,_,t1,U,hex,rfl,F,?_⟩ pm);unfold SetTable.tooFull at tf;have:=of_decide_eq_false tf;rw[fl]at this;lia
def KP (prog:Ac)(w:Ah)(hp:Heap)(ps:List (Int×Ag))(ks:List (List Key)):Prop:=Paired (λp k=>∃b,p=((KD prog w).hash k,.ref b)/\(KD prog w).is hp k b) ps ks
theorem KP.get {hp:Heap}{ks:List (List Key)}(K:KP prog w hp ps ks){i:Nat}{p:Int×Ag}(e:ps[i]?=some p):∃k' b,ks[i]?=some k'/\p=((KD prog w).hash k',.ref b)/\(KD prog w).is hp k' b:=by
 unfold KP at K
 induction K generalizing i with
 |nil=>simp at e
 |cons r t ih =>
  cases i with
  |zero =>
   obtain⟨b,F,D⟩:=r;simp at e;subst e;exact⟨_,b,rfl,F,D⟩
  |succ i=>exact ih (by simpa using e)
theorem KP.len {hp:Heap}{ks:List (List Key)}(K:KP prog w hp ps ks):ps.length=ks.length:=b7 K
inductive MetP (t:SetTable) (ha:Nat->Int) (h:Int) (p:SetTable.Probe) (N:Nat):SetTable.Met->Prop
 |empty (hs:t.slot (zk t N p).j=.empty):MetP t ha h p N (.empty (zk t N p).j none)
 |cand (m i:Nat) (hm:m<=N) (hs:t.slot (zk t m p).j=.live i) (hh:ha i=h):MetP t ha h p N (.candidate (zk t m p).j i (zk t (m+1) p))
theorem Yf {ha:Nat->Int}:∀N fuel p,N<fuel->p.dummy=none->(∀n,n<N->∃i:Nat,t.slot (zk t n p).j=.live i)->(t.slot (zk t N p).j=.empty\/∃i:Nat,t.slot (zk t N p).j=.live i/\ha i=h)->∃m,SetTable.probe.go t ha h fuel p=some m/\MetP t ha h p N m
 |N,0,p,hf,_,_,_=>absurd hf (fN _)
 |0,fuel+1,p,_,hp,_,hs=>by
  unfold SetTable.probe.go;rcases hs with hs|⟨i,hs,hh⟩
  .have hs':t.slot p.j=.empty:=hs;rw[hs',hp];exact⟨_,rfl,.empty (p:=p) hs⟩
  .have hs':t.slot p.j=.live i:=hs;rw[hs'];dsimp only;rw[av (fQ.mpr hh)];exact⟨_,rfl,.cand (p:=p) 0 i (aj _) hs hh⟩
 |N+1,fuel+1,p,hf,hp,hl,hs=>by
  unfold SetTable.probe.go;obtain⟨i,c⟩:=hl 0 (eO _);have c':t.slot p.j=.live i:=c;rw[c'];dsimp only;by_cases q:(ha i==h)=true
  .rw[av q];exact⟨_,rfl,.cand (t:=t) (p:=p) 0 i (aW _) c (fQ.mp q)⟩
  .rw[ao q];obtain⟨m,e,ok⟩:=Yf (ha:=ha) N fuel (t.advance p) ⋯ ((qkm t p).trans hp) (λn hn=>hl (n+1) ⋯) hs;refine⟨m,e,?_⟩;cases ok with
   |empty hs=>exact .empty (p:=p) hs
   |cand m i hm hs hh=>exact .cand (t:=t) (p:=p) (m+1) i ⋯ hs hh
theorem wq3 {ks:List (List Key)}(ho:s.heap.get? S=some o)(hd:o.data=.set ps.toArray ep t)(T:Tab (byT w) t (ps.map (·.1)))(K:KP prog w s.heap ps ks)(hx:(KD prog w).is s.heap k a)(hu:A.units<cLine){Q:SetFound->Ab->Prop}
  (hQ1:k∈ks->Q (.there none) s):∀(N fuel:Nat) (stand:Option SetTable.Probe),N<fuel->N<10*SetTable.turns t.mask->(stand.getD (t.probeStart ((KD prog w).hash k))).dummy=none ->
   (∀n,n<N->∃i:Nat,t.slot (zk t n (stand.getD (t.probeStart ((KD prog w).hash k)))).j=.live i) ->
   (t.slot (zk t N (stand.getD (t.probeStart ((KD prog w).hash k)))).j=.empty\/∃i:Nat,t.slot (zk t N (stand.getD (t.probeStart ((KD prog w).hash k)))).j=.live i/\ks[i]?=some k) ->
   (t.slot (zk t N (stand.getD (t.probeStart ((KD prog w).hash k)))).j=.empty->Q (.free (zk t N (stand.getD (t.probeStart ((KD prog w).hash k)))).j false) s) ->
   wpAny (model prog w) A (setSearchFrom S (.ref a) ((KD prog w).hash k) true fuel stand) Q E s:=by
 intro N
 induction N using Nat.strongRecOn with
 |_ N ih =>
  intro fuel stand hf hT hp hl hs hQ2;obtain⟨fuel,rfl⟩:∃f,fuel=f+1:=⟨fuel-1,⋯⟩;unfold setSearchFrom;refine aa (bE ho hd T.fits' ?_);dsimp only;have gw:t.gaveWay=false:=by unfold SetTable.gaveWay;obtain⟨e,h1,h2,_⟩:=T.pw;obtain⟨e',rfl⟩:∃e',e=e'+1:=⟨e-1,⋯⟩;rw[dN]at h1;simp only[cy];lia
  rw[gw];simp only[aG,bB];have hashAt:∀(i:Nat) (k':List Key),ks[i]?=some k'->∀(p:Int×Ag),ps[i]?=some p->p.1=(KD prog w).hash k':=λi k' ek p e=>by obtain⟨k2,b,e1,e2,_⟩:=K.get e;rw[ek]at e1;cases e1;rw[e2]
  have inP:∀ {j i:Nat},t.slot j=.live i->i<ps.length:=λ{j i} e=>by have:=(bI.mp (Jy e)).1;rw[T.pl,ag]at this;exact this
  have key:∀ha:Nat->Int,(∀(i:Nat) (p:Int×Ag),ps[i]?=some p->ha i=p.1)->∃m,t.probe ha ((KD prog w).hash k) (stand.getD (t.probeStart ((KD prog w).hash k)))=some m/\MetP t ha ((KD prog w).hash k) (stand.getD (t.probeStart ((KD prog w).hash k))) N m:=λha hha=>by
   refine Yf N _ _ hT hp hl ?_;rcases hs with hs|⟨i,hs,ek⟩
   .exact .inl hs
   .have hi:=inP hs;have e:=ae hi;exact .inr ⟨i,hs,(hha i _ e).trans (hashAt i k ek _ e)⟩
  split
  .rename_i met hm;obtain⟨m',e1,ok⟩:=key _ (λi p e=>by
    show(ps.toArray[i]?.map (·.1)).getD 0=p.1
    have:ps.toArray[i]?=some p:=by simpa using e
    rw[this]
    rfl)
   obtain rfl:m'=met:=au (e1.symm.trans hm);cases ok with
   |empty hs'=>exact ai (hQ2 hs')
   |cand m i hm' hsl hh =>
    have hi:=inP hsl;obtain⟨k',b,ek,eb,hb⟩:=K.get (ae hi);have ei:ps.toArray[i]?=some ((KD prog w).hash k',.ref b):=by rw[<-eb];simp[hi]
    have rest:wpAny (model prog w) A (do
      let some (_,y):=ps.toArray[i]? | unsupported "internal:set-entry"
      let equal <-holding [y] (eqBool y (.ref a))
      let (es',_,t') <-setState S
      if true&&equal then return .there none
      let some sm0:=t'.sameMemory t.moves t.mask | unsupported "set.changed-during-lookup:is-the-new-block-at-the-old-address"
      let still <-match (if sm0 then t'.slot (zk t m (stand.getD (t.probeStart ((KD prog w).hash k)))).j else .empty) with
       |.live i'=>match es'[i']? with
        |some (_,y')=>do pure (if <-isSame y' y then some i' else none)
        |none=>pure none
       |_=>pure none
      match still with
      |none=>rule "set.search.anew";setSearchFrom S (.ref a) ((KD prog w).hash k) true fuel none
      |some i'=>if equal then return .there (some i') else setSearchFrom S (.ref a) ((KD prog w).hash k) true fuel (some (zk t (m+1) (stand.getD (t.probeStart ((KD prog w).hash k)))))) Q E s:=by
     rw[ei];dsimp only;refine aa (bN ((KD prog w).eqBool hu hb hx ?_));refine aa (bE ho hd T.fits' ?_);by_cases ce:k'=k
     .rw[aR ce];simp only[jX,cY];exact ai (hQ1 (by rw[<-ce];exact aC ek))
     .rw[ba ce];have sm:t.sameMemory t.moves t.mask=some true:=by simp[SetTable.sameMemory]
      simp only[ig,aG,bB,sm,cY,hsl,ei];refine aa ?_;refine wuj ?_;simp only[cY];refine aa (ai ?_);have mN:m<N:=by
       rcases bp m N with z|z
       .exact z
       .obtain rfl:m=N:=by lia
        rcases hs with hs|⟨i0,hs,ek0⟩
        .rw[hs]at hsl;cases hsl
        .rw[hs]at hsl;cases hsl;rw[ek0]at ek;cases ek;exact absurd rfl ce
      have sh:∀n,zk t n (zk t (m+1) (stand.getD (t.probeStart ((KD prog w).hash k))))=zk t (m+1+n) (stand.getD (t.probeStart ((KD prog w).hash k))):=λn=>(Qh t n (m+1) _).symm;refine ih (N-(m+1)) ⋯ fuel (some (zk t (m+1) (stand.getD (t.probeStart ((KD prog w).hash k))))) ⋯ ⋯ ?_ (λn hn=>?_) ?_ ?_
      .show(zk t (m+1) _).dummy=none;rw[qxk];exact hp
      .show ∃i:Nat,t.slot (zk t n (zk t (m+1) _)).j=.live i;rw[sh];exact hl _ ⋯
      .show t.slot (zk t (N-(m+1)) (zk t (m+1) _)).j=.empty\/∃i:Nat,t.slot (zk t (N-(m+1)) (zk t (m+1) _)).j=.live i/\_;rw[sh,show m+1+(N-(m+1))=N by lia];exact hs
      .show t.slot (zk t (N-(m+1)) (zk t (m+1) _)).j=.empty->Q (.free (zk t (N-(m+1)) (zk t (m+1) _)).j false) s;rw[sh,show m+1+(N-(m+1))=N by lia];exact hQ2
    dsimp only;cases t.led with
    |true=>exact rest
    |false =>
     simp only[iz,cY];refine aa (xxu hx ?_ _ λy hy=>?_)
     .simp only[aG,bB];exact rest
     .obtain⟨p,hp',rfl⟩:=aS.mp hy;have hp2:p∈ps:=by have:=gL.mp hp';simpa using Array.mem_of_mem_filter this
      obtain⟨i2,e2⟩:=bS hp2;obtain⟨k2,b2,_,e3,h2⟩:=K.get e2;exact⟨k2,b2,by rw[e3],h2⟩
  .rename_i hm;obtain⟨m',e1,_⟩:=key _ (λi p e=>by
    show(ps.toArray[i]?.map (·.1)).getD 0=p.1
    have:ps.toArray[i]?=some p:=by simpa using e
    rw[this]
    rfl)
   exact(hm _ e1).elim
theorem wjq {Q:Bool->Ab->Prop}{n:Nat}{items:List Ag}{m:Nat}(hx:(KD prog w).is s.heap k a)(ho:s.heap.get? a=some o)(hd:o.data=.seq items.toArray m)(hi:∀v∈items,∃i t,v=Value.int i t)(hQ:Q true s):wpAny (model prog w) A (hashByValue (n+1) (.ref a)) Q E s:=by
 have hT:s.TypeIs (.ref a) "tuple" := IsTupleKey.typeIs hx;unfold hashByValue;refine aa (jI hT PySem.F.slot_tuple_hash.lookup ?_);dsimp only;refine aa (ir ho hd ?_);refine aa ?_;show wpAny _ _ (forIn items.toArray _ _) _ _ s;rw[<-fS];refine gD _ (λrest r s'=>r.1=none/\s'=s/\∀v∈rest,∃i t,v=Value.int i t) _ ?_ ?_ _ _ ⟨rfl,rfl,by simpa using hi⟩
 .rintro v rest r s' ⟨hr,rfl,hall⟩;obtain⟨i,t,rfl⟩:=hall v dS;have J:hashByValue n (.int i t)=pure true:=by cases n <;> rfl
  rw[J];refine aa (ai ?_);exact ai ⟨rfl,rfl,λu D=>hall u (cf _ D)⟩
 .rintro⟨U,L⟩ s' ⟨hr,rfl,_⟩;simp only at hr;subst hr;exact ai hQ
theorem xqp {ks:List (List Key)}{items:List Ag}{m:Nat}{oa:Obj}{Q:Bool->Ab->Prop}(P:SAt w s.heap S ps)(K:KP prog w s.heap ps ks)(hx:(KD prog w).is s.heap k a)(hoa:s.heap.get? a=some oa)(hda:oa.data=.seq items.toArray m)(hi:∀v∈items,∃i t,v=Value.int i t)
  (hu:A.units<cLine) (hn:ps.length<1099) (hQ1:k∈ks->∀tk,Q false { s with toks:=tk }) (hQ2:k∉ks->∀h' tk ps',Heap.SameBut S s.heap h'->SAt w h' S ps'->ps'.Perm (((KD prog w).hash k,.ref a)::ps)->Q true { s with heap:=h',toks:=tk }) :
  wpAny (model prog w) A (setAdd S (.ref a)) Q E s:=by
 obtain⟨o,ep,t,F,ac,J,T,ad⟩:=P;have bm:=T.big;unfold setAdd;refine bN (aa ((KD prog w).pyHash hu hx ?_));generalize s.toks+(KD prog w).draws k=tk;unfold setAddHashed;refine bN ?_;unfold setAddHashedIn;refine aa (bE (s:={ s with toks:=tk }) F J T.fits' ?_);dsimp only;have bs:byScan (.ref a) ps.toArray=false:=by simp[byScan,Value.scannable]
 rw[bs];simp only[aG,bB];refine aa ?_;unfold setSearch;by_cases ck:k∈ks
 .obtain⟨i,U⟩:=bS ck;have ab:i<ps.length:=by rw[K.len];exact(ak.mp U).1
  obtain⟨k',b,e1,e2,_⟩:=K.get (ae ab);rw[U]at e1;cases e1;obtain⟨N,j,r1,L,D,r4⟩:=T.reach i ((KD prog w).hash k) (by rw[ax,ae ab,e2];rfl);have Z:=qjf T.rise L;refine wq3 (s:={ s with toks:=tk }) F J T K hx hu (λ_=>?_) N 100000 none ⋯ (by unfold SetTable.turns;lia) rfl (λn hn=>?_) (.inr ⟨i,?_,U⟩) λz=>?_
  .exact ai (hQ1 ck tk)
  .obtain⟨i',e'⟩:=r4 n hn;exact⟨i',qjf T.rise e'⟩
  .show t.slot (pos t ((KD prog w).hash k) N)=_;rw[D];exact Z
  .have W:t.slot (pos t ((KD prog w).hash k) N)=.empty:=z;rw[D,Z]at W;cases W
 .obtain⟨N,r1,L,D⟩:=T.free ((KD prog w).hash k);refine wq3 (s:={ s with toks:=tk }) F J T K hx hu (λz=>absurd z ck) N 100000 none ⋯ (by unfold SetTable.turns;lia) rfl (λn hn=>D n hn) (.inl L) λ_=>?_;dsimp only;refine aa (bE (s:={ s with toks:=tk }) F J T.fits' ?_);dsimp only;have pt:(t.put (pos t ((KD prog w).hash k) N)).1.plain=true:=T.plain;show wpAny (model prog w) A (do
   let am <-if(t.put (pos t ((KD prog w).hash k) N)).1.plain=true then hashByValue 8 (.ref a) else pure true
   _) Q E { s with toks:=tk }
  rw[av pt];refine aa (wjq (s:={ s with toks:=tk }) hx hoa hda hi ?_);exact lay_in (s:={ s with toks:=tk }) (w:=w) F ac J T ad hn r1 L D λh' ps' sb P' pm=>hQ2 ck h' tk ps' sb P' pm
end
end L2
namespace L2
open PySem PySem.Spec PySem.Calls PySem.W PyProof.Rows
theorem slot_setit_next:Slot "set_iterator" "__next__" "set_iterator.__next__" := .of (owner := "set_iterator") (n := "__next__") (by rw[typeLookup_type,builtinLookup_eq_fast];kernel_rfl) (by decide +kernel) (by decide +kernel) (by decide +kernel) (by first | exact .inl (by decide +kernel) | exact .inr (by decide +kernel)) (by rw[isSubtype_type];kernel_rfl)
theorem Qj:Slot "set_iterator" "__iter__" "set_iterator.__iter__" := .of (owner := "set_iterator") (n := "__iter__") (by rw[typeLookup_type,builtinLookup_eq_fast];kernel_rfl) (by decide +kernel) (by decide +kernel) (by decide +kernel) (by first | exact .inl (by decide +kernel) | exact .inr (by decide +kernel)) (by rw[isSubtype_type];kernel_rfl)
theorem ux:entryFor table "set_iterator.__next__" = some Builtin.«set_iterator.__next__»:=entryFor_of_tree (by kernel_rfl)
theorem Jj:entryFor table "set_iterator.__iter__" = some Builtin.«dict_keyiterator.__iter__»:=entryFor_alias (id' := "dict_keyiterator.__iter__") (by kernel_rfl) rfl (by decide +kernel) (by kernel_rfl)
theorem qxv:entryFor table "set.__iter__" = some Builtin.«frozenset.__iter__»:=entryFor_alias (id' := "frozenset.__iter__") (by kernel_rfl) rfl (by decide +kernel) (by kernel_rfl)
theorem Jt:Manifest.owners.lookup (String.ofList ['r','o','t','a','r','e','t','i','_','t','e','s'].reverse)=some Manifest.sig_set_iterator:=by kernel_rfl
theorem Qu (a:Ag):argsOk "set_iterator.__next__" ⟨[a],[]⟩:=by(unfold argsOk;rw[signature?_of (id := "set_iterator.__next__") (n:=['_','_','t','x','e','n','_','_']) (o:=['r','o','t','a','r','e','t','i','_','t','e','s']) (by kernel_rfl) Jt];kernel_rfl)
theorem qqb (a:Ag):argsOk "set_iterator.__iter__" ⟨[a],[]⟩:=by(unfold argsOk;rw[signature?_of (id := "set_iterator.__iter__") (n:=['_','_','r','e','t','i','_','_']) (o:=['r','o','t','a','r','e','t','i','_','t','e','s']) (by kernel_rfl) Jt];kernel_rfl)
theorem wz1 {α:Type}(nx:Nat->Nat):∀(f k:Nat) (left:List α) (out:Array α),left.length=f->(pickOrder.go nx f k left out).toList.Perm (out.toList++left)
 |0,k,left,out,h=>by have:left=[]:=eL h;subst this;unfold pickOrder.go;simp
 |f+1,k,left,out,h=>by have hi:nx k%left.length<left.length:=eC _ ⋯;unfold pickOrder.go;rw[ae hi];dsimp only;refine(wz1 nx f (k+1) (left.eraseIdx (nx k%left.length)) _ (by rw[List.length_eraseIdx,av hi];lia)).trans ?_;rw[dE,aX];refine di _ ?_;rw[List.singleton_append];rw[List.eraseIdx_eq_take_drop_succ];refine List.perm_middle.symm.trans ?_;rw[<-fB hi,dh]
def wk (w:Ah)(S:Aj)(ep:Nat)(ps:List (Int×Ag)):List (Int×Ag):=if byT w=true then(pickOrder (w.params.setOrder S ep) ps.toArray).toList else ps
theorem qwy (w:Ah)(S:Aj)(ep:Nat)(ps:List (Int×Ag)):(wk w S ep ps).Perm ps:=by
 unfold wk;split
 .unfold pickOrder;exact(wz1 _ _ _ _ _ (by simp)).trans (by simp)
 .exact .refl _
def SRaw (h:Heap)(S:Aj)(ps:List (Int×Ag))(ep:Nat)(t:SetTable):Prop:=∃o,h.get? S=some o/\o.ExactSet/\o.data=.set ps.toArray ep t
def SIt (h:Heap)(it S:Aj)(slot i n ep:Nat):Prop:=∃o,h.get? it=some o/\o.cls=.type "set_iterator" /\ o.data=.fields #[.int slot 0,.int i 0,.ref S,.int n 0,.int ep 0]
theorem SRaw.at {h h':Heap}{S:Aj}{ps:List (Int×Ag)}{ep:Nat}{t:SetTable}(x:SRaw h S ps ep t)(k:∀o,h.get? S=some o->h'.get? S=some o):SRaw h' S ps ep t:=let ⟨o,e,r⟩:=x;⟨o,k o e,r⟩
theorem SIt.at {h h':Heap}{it S:Aj}{slot i n ep:Nat}(x:SIt h it S slot i n ep)(k:∀o,h.get? it=some o->h'.get? it=some o):SIt h' it S slot i n ep:=let ⟨o,e,r⟩:=x;⟨o,k o e,r⟩
section
variable {prog:Ac}{w:Ah}{A:Ae}{E:Ag->Ab->Prop}{s:Ab}{S it:Aj}{ps:List (Int×Ag)}{ep:Nat}{t:SetTable}
theorem SIt.ty {slot i n:Nat}(x:SIt s.heap it S slot i n ep):s.TypeIs (.ref it) "set_iterator" := let ⟨o,e,r⟩:=x;⟨o,e,r.1⟩
theorem SRaw.ty (x:SRaw s.heap S ps ep t):s.TypeIs (.ref S) "set" := let ⟨o,e,r⟩:=x;⟨o,e,r.1.1⟩
theorem Ym {Q:Bool->Ab->Prop}(h:Q (byT w) s):wpAny (model prog w) A setsByText Q E s:=by unfold setsByText;exact aa (fu (ai h))
theorem wkx {slot i:Nat}{Q:Option (Ag×Nat)->Ab->Prop}(R:SRaw s.heap S ps ep t)(T:Tab (byT w) t (ps.map (·.1)))(hs:byT w=false->SetTable.below t.place slot=i){p:Int×Ag}(hp:(wk w S ep ps)[i]?=some p)
  (hQ:∀nx:Nat,(byT w=false->SetTable.below t.place nx=i+1)->Q (some (p.2,nx)) s):wpAny (model prog w) A (setNext S slot i ep) Q E s:=by
 obtain⟨o,D,ab,F⟩:=R;unfold setNext;refine aa (bE D F T.fits' ?_);dsimp only;refine aa (Ym ?_);cases hb:byT w with
 |true =>
  rw[hb]at hs hQ;simp only[cY,eZ,aG,bB];refine aa ?_;unfold setWalk;refine aa (bE D F T.fits' ?_);dsimp only;refine aa (Ym ?_);rw[hb];simp only[cY];refine aa (fu (ai ?_));unfold wk at hp;rw[av hb,aE]at hp;show wpAny _ _ (pure (((pickOrder (w.params.setOrder S ep) ps.toArray)[i]?).map _)) _ _ _;rw[hp];exact ai (hQ slot λz=>by cases z)
 |false =>
  rw[hb]at hs hQ;simp only[aG,bB];refine fO (λW=>absurd W ?_) (λ_=>?_)
  .show ¬ ((!t.plain&&decide (ps.toArray.size>1))=true);rw[T.plain];simp
  .refine aa ?_;show wpAny _ _ (if(!t.led&&!ps.toArray.isEmpty)=true then _ else _) _ _ s;have U:t.led=true:=by rw[T.led,hb];rfl
   rw[U];simp only[fH,jM,aG,bB];refine ai ?_;unfold wk at hp;rw[ao (by rw[hb];exact aF)]at hp;have hi:=(ak.mp hp).1;have Z:ps.toArray[i]?=some (p.1,p.2):=by simpa using hp
   have L:i<t.place.size:=by rw[T.pl,ag];exact hi
   have J:t.place[i]?=some t.place[i]:=bb L;rw[hs rfl,Z,J];exact ai (hQ _ λ_=>wzk T.rise J)
theorem wy4 {slot i:Nat}{Q:Option (Ag×Nat)->Ab->Prop}(R:SRaw s.heap S ps ep t)(T:Tab (byT w) t (ps.map (·.1)))(hs:byT w=false->SetTable.below t.place slot=i)(hp:ps.length<=i)
  (hQ:Q none s):wpAny (model prog w) A (setNext S slot i ep) Q E s:=by
 obtain⟨o,F,Z,J⟩:=R;unfold setNext;refine aa (bE F J T.fits' ?_);dsimp only;refine aa (Ym ?_);cases hb:byT w with
 |true =>
  simp only[cY,eZ,aG,bB];refine aa ?_;unfold setWalk;refine aa (bE F J T.fits' ?_);dsimp only;refine aa (Ym ?_);rw[hb];simp only[cY];refine aa (fu (ai ?_));have D:=(qwy w S ep ps).length_eq;unfold wk at D;rw[av hb,aU]at D;show wpAny _ _ (pure (((pickOrder (w.params.setOrder S ep) ps.toArray)[i]?).map _)) _ _ _;rw[dP (by rw[D];exact hp)];exact ai hQ
 |false =>
  rw[hb]at hs;simp only[aG,bB];refine fO (λU=>absurd U ?_) (λ_=>?_)
  .show ¬ ((!t.plain&&decide (ps.toArray.size>1))=true);rw[T.plain];simp
  .refine aa ?_;show wpAny _ _ (if(!t.led&&!ps.toArray.isEmpty)=true then _ else _) _ _ s;have L:t.led=true:=by rw[T.led,hb];rfl
   rw[L];simp only[fH,jM,aG,bB];refine ai ?_;have W:ps.toArray[i]?=none:=dP (by rw[aq];exact hp);rw[hs rfl,W];exact ai hQ
theorem wxz {slot i:Nat}{p:Int×Ag}{Q:Option Ag->Ab->Prop}(hit:SIt s.heap it S slot i ps.length ep)(R:SRaw s.heap S ps ep t)(T:Tab (byT w) t (ps.map (·.1)))(hs:byT w=false->SetTable.below t.place slot=i)(hp:(wk w S ep ps)[i]?=some p)
  (hQ:∀h' nx,SIt h' it S nx (i+1) ps.length ep->(byT w=false->SetTable.below t.place nx=i+1)->Heap.SameBut it s.heap h'->Q (some p.2) { s with heap:=h' }):wpAny (model prog w) A (pyNext (.ref it)) Q E s:=by
 obtain⟨o,F,hc,D⟩:=id hit;obtain⟨oS,Z,ad,ac⟩:=id R;unfold pyNext;refine aa (eX (dF (name:=Str.ofString "__next__") hit.ty slot_setit_next (cS slot_setit_next hit.ty ux ?_ (Qu _))));unfold Builtin.«set_iterator.__next__»;refine aa (ai ?_);refine aa (iA F D ?_);dsimp only;refine aa ?_;unfold setEntries;refine aa (bE Z ac T.fits' (ai ?_));dsimp only;rw[ao (by rw[aq];simp)];rw[bH,bH,bH];refine aa (wkx R T hs hp λnx ab=>?_);dsimp only;refine aa (gn F D (by simp) ?_);have J:=cM (Obj.mapFields (·.setIfInBounds 0 (rawInt (nx:Int)))) F (gC (dU D _));have L:=dU D (·.setIfInBounds 0 (rawInt (nx:Int)));have U:Heap.SameBut it s.heap (s.heap.update it (Obj.mapFields (·.setIfInBounds 0 (rawInt (nx:Int))))):=cB ..;generalize s.heap.update it (Obj.mapFields (·.setIfInBounds 0 (rawInt (nx:Int))))=h1 at J U ⊢;refine aa (gn (s:={ s with heap:=h1 }) J L (by simp) ?_);have g2:=cM (Obj.mapFields (·.setIfInBounds 1 (rawInt ((i:Int)+1)))) J (gC (dU L _));have d2:=dU L (·.setIfInBounds 1 (rawInt ((i:Int)+1)));have W:Heap.SameBut it h1 (h1.update it (Obj.mapFields (·.setIfInBounds 1 (rawInt ((i:Int)+1))))):=cB ..;refine ai ⟨_,rfl,ai (hQ _ nx ⟨_,g2,((iP ..).trans (iP ..)).trans hc,by rw[d2];simp[rawInt]⟩ ab (U.trans W))⟩
theorem wk9 {slot i:Nat}{Q:Option Ag->Ab->Prop}(hh:A.handled=none)(hit:SIt s.heap it S slot i ps.length ep)(R:SRaw s.heap S ps ep t)(T:Tab (byT w) t (ps.map (·.1)))(hs:byT w=false->SetTable.below t.place slot=i)(hp:ps.length<=i)
  (hQ:∀h',Heap.ExtBut it s.heap h'->Q none { s with heap:=h' }):wpAny (model prog w) A (pyNext (.ref it)) Q E s:=by
 obtain⟨o,D,Z,F⟩:=id hit;obtain⟨U,J,W,L⟩:=id R;unfold pyNext;refine aa (eX (dF (name:=Str.ofString "__next__") hit.ty slot_setit_next (cS slot_setit_next hit.ty ux ?_ (Qu _))));unfold Builtin.«set_iterator.__next__»;refine aa (ai ?_);refine aa (iA D F ?_);dsimp only;refine aa ?_;unfold setEntries;refine aa (bE J L T.fits' (ai ?_));dsimp only;rw[ao (by rw[aq];simp)];rw[bH,bH,bH];refine aa (wy4 R T hs hp ?_);dsimp only;refine aa (gn D F (by simp) ?_);refine aa ?_;simp only[newExc,newTuple];(refine aa (b8 ?_ (by size_fits)) ;refine aa (m:=firstArgMember _ _) (wpAny_of_eq (a:=Value.none) (by first | rfl | (simp only[firstArgMember];rfl)) ?_) ;refine b8 ?_ (by size_fits) ;simp only[raiseNew] ;refine aa (wpAny_handled ?_) ;rw[show A.in1.handled=none from hh] ;refine aa (ai (wpAny_throw ?_)));refine aa (i8 (T := "StopIteration") (b:=true) ⟨_,az _ rfl,rfl⟩ isSubtype_stop (ai (hQ _ (((cB ..).extBut.push _).push _))))
theorem wzv {slot i:Nat}{Q:Ag->Ab->Prop}(hit:SIt s.heap it S slot i ps.length ep)(h:Q (.ref it) s):wpAny (model prog w) A (pyIter (.ref it)) Q E s:=by refine iQ hit.ty Qj (cS Qj hit.ty Jj ?_ (qqb _));show wpAny _ _ (ret (.ref it)) _ _ s;exact ai ⟨_,rfl,"set_iterator",_,hit.ty,slot_setit_next.lookup,h⟩
theorem xxv {Q:Ag->Ab->Prop}(R:SRaw s.heap S ps ep t)(T:Tab (byT w) t (ps.map (·.1)))
  (hQ:Q (.ref s.heap.objs.size) { s with heap:=s.heap.push { cls:=.type "set_iterator",data:=.fields #[.int 0 0,.int 0 0,.ref S,.int ps.length 0,.int ep 0] } }):wpAny (model prog w) A (pyIter (.ref S)) Q E s:=by
 obtain⟨W,D,Z,J⟩:=id R;refine iQ R.ty F.slot_set_iter (cS F.slot_set_iter R.ty qxv ?_ (F.args_set_iter_1 _));unfold Builtin.«frozenset.__iter__»;refine aa ?_;unfold Builtin.Frozenset.slot0;refine aa (ai ?_);show wpAny _ _ (pure S) _ _ s;refine ai ?_;refine aa ?_;unfold Builtin.Frozenset.sizeOf setEntries;refine aa (aa (bE D J T.fits' (ai (ai ?_))));dsimp only;refine aa ?_;unfold setDrawn;refine aa (bE D J T.fits' ?_);dsimp only;refine aa (Ym (ai ?_));have L:∀b:Bool,(b&&(!t.plain&&decide (ps.toArray.size>1)))=false:=λb=>by rw[T.plain];simp
 refine fO (λU=>?_) (λ_=>?_)
 .have:(!byT w&&(!t.plain&&decide (ps.toArray.size>1)))=true:=U;rw[L]at this;cases this
 .refine aa (ai ?_);refine aa (wpAny_setEpoch_of D J T.fits' ?_);refine aa (b8 (ai ⟨_,rfl,"set_iterator",_,⟨_,az _ rfl,rfl⟩,slot_setit_next.lookup,?_⟩));simpa [rawInt] using hQ
theorem wyx (hh:A.handled=none)(I:Aj)(hne:S≠I)(T:Tab (byT w) t (ps.map (·.1))):Walks prog w A I [I,S] [I] ps.length (λi v=>∃p,(wk w S ep ps)[i]?=some p/\v=p.2) (λi h=>(∃slot,SIt h I S slot i ps.length ep/\(byT w=false->SetTable.below t.place slot=i))/\SRaw h S ps ep t) where
 sub:=λb hb=>by simp at hb;simp[hb]
 frame:=λ_ _ _ ⟨⟨sl,a,b⟩,c⟩ hk=>⟨⟨sl,a.at λo e=>hk I (by simp) o e,b⟩,c.at λo e=>hk S (by simp) o e⟩
 item:=λi s Q E hi ⟨⟨sl,a,b⟩,c⟩ hQ=>by have hl:=(qwy w S ep ps).length_eq;have hx:=ae (l:=wk w S ep ps) (i:=i) ⋯;exact wxz a c T b hx λh' nx it' nx' sb=>hQ _ h' s.toks ⟨_,hx,rfl⟩ ⟨⟨nx,it',nx'⟩,c.at λo e=>sb.extBut S o hne e⟩ λb o hb e=>sb.extBut b o (λh=>hb (by simp[h])) e
 done:=λs Q E ⟨⟨sl,a,b⟩,c⟩ hQ=>wk9 hh a c T b (aj _) λh' eb=>hQ h' s.toks λb o hb e=>eb b o (λh=>hb (by simp[h])) e
 self:=λ_ _ _ _ ⟨⟨sl,a,b⟩,c⟩ hQ=>wzv a hQ
theorem wyb {Q:Bool->Ab->Prop}(hT:s.TypeIs (.ref S) "set")(h:Q false s):wpAny (model prog w) A (Builtin.List.listLengthHint (.ref S)) Q E s:=by unfold Builtin.List.listLengthHint;refine aa (jI hT F.slot_set_len.lookup ?_);generalize hid:("set.__len__" : String)=id0;wp_delta;rw[show splitId id0=some ("set","__len__") from by subst hid;decide +kernel];subst hid;(refine aa (i8 (T := "set") (b:=true) hT (by rw[isSubtype_type];kernel_rfl) ?_) ;refine fO (λD=>absurd D ⋯) (λ_=>?_) ;refine fO (λ_=>?_) (λD=>absurd (by decide +kernel) D));refine aa (wpAny_typeOf hT ?_);exact ai h
theorem xvp (T:Tab (byT w) t (ps.map (·.1))):KdlSrc prog w "set" S S ps.length (λi v=>∃p,(wk w S ep ps)[i]?=some p/\v=p.2) (λh=>SRaw h S ps ep t) where
 type:=λ_ hm=>hm.ty
 there:=λ_ hm=>let ⟨_,e,_⟩:=hm;⟨al e,al e⟩
 keep:=λ_ _ hm hk=>hm.at λo e=>hk S (.inl rfl) o e
 notList:=by decide
 notTuple:=by decide
 hint:=λ_ _ _ _ hm hq=>wyb hm.ty hq
 iter:=λ_ _ hh hm=>⟨_,_,(λ_ _ hq=>xxv hm T hq),wyx hh _ (let ⟨_,e,_⟩:=hm;aB (al e)) T,⟨⟨0,⟨_,az _ rfl,rfl,rfl⟩,λ_=>wxh T.rise⟩,hm.at λo e=>ah _ e⟩⟩
end
end L2
namespace Tm
open PySem PyProof.Rows
def Wy:Bool->Ai->Array Ai->Nat->Nat->Nat->StateT Af Sem (Option Nat):=sortPriv% PySem.Builtin.gallop
def qy2:Array Ai->Array Ai->StateT Af Sem (Array Ai):=sortPriv% PySem.Builtin.mergeLo
def qys:Array Ai->Array Ai->StateT Af Sem (Array Ai):=sortPriv% PySem.Builtin.mergeHi
local macro_rules | `(tactic| walk_at "tim gallop")=>do
 let n:=Lean.mkIdent (Lean.mkPrivateNameCore `PySem.Builtin.List.W1All `PySem.Builtin.gallop);`(tactic| unfold $n:ident)
section
variable {M:Model}{A:Ae}{E:Ag->Ab->Prop}{s:Ab}{G:Ai->Prop}{kz:Ai->Int}{kd:SortKind}
def yg (M:Model)(A:Ae)(E:Ag->Ab->Prop)(s:Ab)(G:Ai->Prop)(kz:Ai->Int)(kd:SortKind):Prop :=
 ∀(x y:Ai) (st:Af) (Q:Option Bool->Af->Prop),G x->G y->kindOf st=kd->Q (some (decide (kz x<kz y))) st->wpS M A E s (lt' x y) Q st
theorem xy {arr:Array Ai}{i:Nat}{x:Ai}{st:Af}{Q:Ai->Af->Prop}(hx:arr[i]?=some x)(h:Q x st):wpS M A E s (elem' arr i) Q st:=by rw[elem'_eq,hx];exact aI h
def z9 (kz:Ai->Int)(left:Bool)(key x:Ai):Bool:=if left=true then decide (kz x<kz key) else !decide (kz key<kz x)
theorem wqp {n lo0 hi0:Nat}{P:Nat->Bool}{st:Af}{f:Nat->Option (Option Nat)×Nat×Nat->StateT Af Sem (ForInStep (Option (Option Nat)×Nat×Nat))}{Q:Option (Option Nat)×Nat×Nat->Af->Prop}
  (f1:∀i a b (R:ForInStep (Option (Option Nat)×Nat×Nat)->Af->Prop),a>=b->R (.done (none,a,b)) st->wpS M A E s (f i (none,a,b)) R st)
  (f2:∀i a b (R:ForInStep (Option (Option Nat)×Nat×Nat)->Af->Prop),¬ a>=b->b<=n->(P (a+(b-a)/2)=true->R (.yield (none,a+(b-a)/2+1,b)) st)->(P (a+(b-a)/2)=false->R (.yield (none,a,a+(b-a)/2)) st)->wpS M A E s (f i (none,a,b)) R st)
  (h1:lo0<=hi0) (h2:hi0<=n) (hlo:∀i,i<lo0->P i=true) (hhi:∀i,hi0<=i->i<n->P i=false) (mono:∀i j,i<=j->j<n->P j=true->P i=true)
  (h:∀a k,k<=n->(∀i,i<k->P i=true)->(∀i,k<=i->i<n->P i=false)->Q (none,a,k) st) :
  wpS M A E s (forIn [:n] ((none,lo0,hi0):Option (Option Nat)×Nat×Nat) f) Q st:=by
 refine cw (I:=λi (c:Option (Option Nat)×Nat×Nat) st'=>st'=st/\c.1=none/\c.2.1<=c.2.2/\c.2.2<=n/\c.2.2-c.2.1<=n-i/\(∀i,i<c.2.1->P i=true)/\(∀i,c.2.2<=i->i<n->P i=false))
  ?step ?fin ⟨rfl,rfl,h1,h2,by dsimp only;lia,hlo,hhi⟩
 case fin =>
  rintro⟨r,a,b⟩ st' ⟨rfl,hr,x1,x2,x3,x4,x5⟩;dsimp only at hr x1 x2 x3 x4 x5 ⊢;subst hr;have:a=b:=by lia
  subst this;exact h _ _ x2 x4 x5
 case step =>
  rintro i ⟨r,a,b⟩ st' _ hi ⟨rfl,hr,x1,x2,x3,x4,x5⟩;dsimp only at hr x1 x2 x3 x4 x5 ⊢;subst hr;by_cases c:a>=b
  .have:a=b:=by lia
   subst this;exact f1 _ _ _ _ c (h _ _ x2 x4 x5)
  .refine f2 _ _ _ _ c x2 (λhp=>?_) λhp=>?_
   .exact⟨rfl,rfl,by dsimp only;lia,x2,by dsimp only;lia,λj hj=>mono j _ (by dsimp only at hj;lia) ⋯ hp,x5⟩
   .refine⟨rfl,rfl,by dsimp only;lia,by dsimp only;lia,by dsimp only;lia,x4,λj hj hj2=>?_⟩;cases hp2:P j with
    |false=>rfl
    |true =>
     have:=mono (a+(b-a)/2) j hj hj2 hp2;rw[hp]at this;cases this
theorem ww3 {left:Bool}{key:Ai}{arr:Array Ai}{base n hint:Nat}{P:Nat->Bool}{st:Af}{Q:Option Nat->Af->Prop}(O:yg M A E s G kz kd)(hk:kindOf st=kd)(hG:G key)
  (hA:∀i,i<n->∃x,arr[base+i]?=some x/\G x/\P i=z9 kz left key x) (hh:hint<n) (mono:∀i j,i<=j->j<n->P j=true->P i=true)
  (h:∀k,k<=n->(∀i,i<k->P i=true)->(∀i,k<=i->i<n->P i=false)->Q (some k) st):wpS M A E s (Wy left key arr base n hint) Q st:=by
 have hb:∀i (R:Option Bool->Af->Prop),i<n->R (some (P i)) st->wpS M A E s (do
   let x <-elem' arr (base+i)
   if left=true then lt' x key
   else do
    let r <-lt' key x
    pure (r.map λb=>!b)) R st:=by
  intro i R hi hR;obtain⟨x,e,g,hp⟩:=hA i hi;refine ay (xy e ?_);rw[hp]at hR;unfold z9 at hR;cases left with
  |true =>
   rw[av rfl]at hR ⊢;exact O _ _ _ _ g hG hk hR
  |false =>
   rw[ao aF]at hR ⊢;exact ay (O _ _ _ _ hG g hk (aI hR))
 unfold Wy;walk_at "tim gallop";dsimp only;refine ay (hb hint _ hh ?_);dsimp only;cases hp:P hint with
 |true =>
  rw[av rfl];refine ay (eT (cw (I:=λi (c:Option (Option Nat)×Nat×Nat) st'=>st'=st/\c.1=none/\i+1<=c.2.2/\c.2.1<c.2.2/\hint+c.2.1<n/\P (hint+c.2.1)=true)
   (Q:=λc st'=>st'=st/\c.1=none/\c.2.1<c.2.2/\hint+c.2.1<n/\P (hint+c.2.1)=true/\(n-hint<=c.2.2\/(hint+c.2.2<n/\P (hint+c.2.2)=false))) ?step ?fin ⟨rfl,rfl,aj 1,Nat.zero_lt_one,hh,hp⟩) ?post)
  case fin =>
   rintro⟨r,a,b⟩ st' ⟨rfl,hr,x1,x2,x3,x4⟩;dsimp only at hr x1 x2 x3 x4 ⊢;exact⟨rfl,hr,x2,x3,x4,.inl ⋯⟩
  case step =>
   rintro i ⟨r,a,b⟩ st' _ hi ⟨rfl,hr,x1,x2,x3,x4⟩;dsimp only at hr x1 x2 x3 x4 ⊢;by_cases c:b>=n-hint
   .rw[av c];exact aI ⟨rfl,rfl,x2,x3,x4,.inl c⟩
   .rw[ao c];refine ay (hb _ _ ⋯ ?_);dsimp only;cases hq:P (hint+b) with
    |true=>exact aI ⟨rfl,rfl,by dsimp only;lia,by dsimp only;lia,by dsimp only;lia,hq⟩
    |false=>exact aI ⟨rfl,rfl,x2,x3,x4,.inr ⟨by dsimp only;lia,hq⟩⟩
  case post =>
   rintro⟨r,a,b⟩ st' ⟨rfl,hr,x2,x3,x4,x5⟩;dsimp only at hr x2 x3 x4 x5 ⊢;subst hr;dsimp only;refine ay (wqp (lo0:=hint+a+1) (hi0:=hint+min b (n-hint)) (λi a b R c hR=>?_) (λi a b R c hb2 r1 r2=>?_) ⋯ ⋯ (λi hi=>mono i (hint+a) ⋯ x3 x4) (λi hi1 hi2=>?_) mono λa k k1 k2 k3=>aI (h k k1 k2 k3))
   .dsimp only;rw[av c];exact aI hR
   .dsimp only;rw[ao c];refine ay (hb _ _ ⋯ ?_);dsimp only;cases hp3:P (a+(b-a)/2) with
    |true=>exact aI (r1 hp3)
    |false=>exact aI (r2 hp3)
   .rcases x5 with x5|⟨x5,x6⟩
    .lia
    .cases hp2:P i with
     |false=>rfl
     |true =>
      have:=mono (hint+b) i ⋯ hi2 hp2;rw[x6]at this;cases this
 |false =>
  rw[ao aF];refine ay (eT (cw (I:=λi (c:Option (Option Nat)×Nat×Nat) st'=>st'=st/\c.1=none/\i+1<=c.2.2/\c.2.1<c.2.2/\c.2.1<=hint/\P (hint-c.2.1)=false)
   (Q:=λc st'=>st'=st/\c.1=none/\c.2.1<c.2.2/\c.2.1<=hint/\P (hint-c.2.1)=false/\(hint+1<=c.2.2\/(c.2.2<=hint/\P (hint-c.2.2)=true))) ?step ?fin ⟨rfl,rfl,aj 1,Nat.zero_lt_one,aW _,hp⟩) ?post)
  case fin =>
   rintro⟨r,a,b⟩ st' ⟨rfl,hr,x1,x2,x3,x4⟩;dsimp only at hr x1 x2 x3 x4 ⊢;exact⟨rfl,hr,x2,x3,x4,.inl ⋯⟩
  case step =>
   rintro i ⟨r,a,b⟩ st' _ hi ⟨rfl,hr,x1,x2,x3,x4⟩;dsimp only at hr x1 x2 x3 x4 ⊢;by_cases c:b>=hint+1
   .rw[av c];exact aI ⟨rfl,rfl,x2,x3,x4,.inl c⟩
   .rw[ao c];refine ay (hb _ _ ⋯ ?_);dsimp only;cases hq:P (hint-b) with
    |true=>exact aI ⟨rfl,rfl,x2,x3,x4,.inr ⟨by dsimp only;lia,hq⟩⟩
    |false=>exact aI ⟨rfl,rfl,by dsimp only;lia,by dsimp only;lia,by dsimp only;lia,hq⟩
  case post =>
   rintro⟨r,a,b⟩ st' ⟨rfl,hr,x2,x3,x4,x5⟩;dsimp only at hr x2 x3 x4 x5 ⊢;subst hr;dsimp only;refine ay (wqp (lo0:=hint+1-min b (hint+1)) (hi0:=hint-a) (λi a b R c hR=>?_) (λi a b R c hb2 r1 r2=>?_) ⋯ ⋯ (λi hi=>?_) (λi hi1 hi2=>?_) mono λa k k1 k2 k3=>aI (h k k1 k2 k3))
   .dsimp only;rw[av c];exact aI hR
   .dsimp only;rw[ao c];refine ay (hb _ _ ⋯ ?_);dsimp only;cases hp3:P (a+(b-a)/2) with
    |true=>exact aI (r1 hp3)
    |false=>exact aI (r2 hp3)
   .rcases x5 with x5|⟨x5,x6⟩
    .lia
    .exact mono i (hint-b) ⋯ ⋯ x6
   .cases hp2:P i with
    |false=>rfl
    |true =>
     have:=mono (hint-a) i ⋯ hi2 hp2;rw[x4]at this;cases this
end
end Tm
namespace Tm
open PySem PyProof.Rows
def qvd:Nat->StateT Af Sem Unit:=sortPriv% PySem.Builtin.setMinGallop
local macro_rules | `(tactic| walk_at "tim lo")=>do
 let n:=Lean.mkIdent (Lean.mkPrivateNameCore `PySem.Builtin.List.W1All `PySem.Builtin.mergeLo);`(tactic| unfold $n:ident)
section
variable {kz:Ai->Int}
def SL (kz:Ai->Int)(l:List Ai):Prop:=l.Pairwise λx y=>kz x<kz y
structure LJ (kz:Ai->Int)(T O X Y:List Ai):Prop where
 x:SL kz (O++X)
 y:SL kz (O++Y)
 p:(O++(X++Y)).Perm T
variable {T O X Y X1 X2 Y1 Y2:List Ai}
theorem LJ.swap (h:LJ kz T O X Y):LJ kz T O Y X:=⟨h.y,h.x,(di O dZ).trans h.p⟩
theorem LJ.mvX (h:LJ kz T O (X1++X2) Y)(lt:∀u∈X1,∀v∈Y,kz u<kz v):LJ kz T (O++X1) X2 Y:=by
 obtain⟨a,b,c⟩:=h;have F:=bi.mp b;refine⟨by rw[aX];exact a,?_,by simpa [aX] using c⟩;have J:SL kz (O++X1):=by rw[<-aX]at a;exact(bi.mp a).1
 refine bi.mpr ⟨J,F.2.1,λu D v hv=>?_⟩;rcases aY.mp D with D|D
 .exact F.2.2 u D v hv
 .exact lt u D v hv
theorem LJ.mvY (h:LJ kz T O X (Y1++Y2))(lt:∀u∈Y1,∀v∈X,kz u<kz v):LJ kz T (O++Y1) X Y2:=(h.swap.mvX lt).swap
structure HJ (kz:Ai->Int)(T X Y O:List Ai):Prop where
 x:SL kz (X++O)
 y:SL kz (Y++O)
 p:(X++(Y++O)).Perm T
theorem HJ.swap (h:HJ kz T X Y O):HJ kz T Y X O:=⟨h.y,h.x,by
 refine List.Perm.trans ?_ h.p
 rw[<-aX,<-aX]
 exact dc O dZ⟩
theorem HJ.mvX (h:HJ kz T (X1++X2) Y O)(lt:∀v∈Y,∀u∈X2,kz v<kz u):HJ kz T X1 Y (X2++O):=by
 obtain⟨a,b,c⟩:=h;have F:=bi.mp b;refine⟨by rw[<-aX];exact a,?_,?_⟩
 .have J:SL kz (X2++O):=by rw[aX]at a;exact(bi.mp a).2.1
  refine bi.mpr ⟨F.1,J,λv hv u D=>?_⟩;rcases aY.mp D with D|D
  .exact lt v hv u D
  .exact F.2.2 v hv u D
 .refine List.Perm.trans ?_ c;rw[aX];refine di X1 ?_;rw[<-aX,<-aX];exact dc O dZ
theorem HJ.mvY (h:HJ kz T X (Y1++Y2) O)(lt:∀v∈X,∀u∈Y2,kz v<kz u):HJ kz T X Y1 (Y2++O):=(h.swap.mvX lt).swap
structure Mg (kz:Ai->Int)(G:Ai->Prop)(a b:Array Ai):Prop where
 sa:SL kz a.toList
 sb:SL kz b.toList
 ne:∀x∈a.toList,∀y∈b.toList,kz x≠kz y
 ga:∀x∈a.toList,G x
 gb:∀x∈b.toList,G x
def Yr (kz:Ai->Int)(a b r:Array Ai):Prop:=SL kz r.toList/\r.toList.Perm (a.toList++b.toList)
def SameSt (st st':Af):Prop:=kindOf st'=kindOf st/\arrOf st'=arrOf st/\pendingOf st'=pendingOf st/\failedOf st'=failedOf st
theorem SameSt.rfl' (st:Af):SameSt st st:=⟨rfl,rfl,rfl,rfl⟩
theorem SameSt.trans {a b c:Af}(h:SameSt a b)(k:SameSt b c):SameSt a c:=⟨k.1.trans h.1,k.2.1.trans h.2.1,k.2.2.1.trans h.2.2.1,k.2.2.2.trans h.2.2.2⟩
theorem SL.lt {l:List Ai}(h:SL kz l){i j:Nat}{x y:Ai}(hij:i<j)(hx:l[i]?=some x)(hy:l[j]?=some y):kz x<kz y:=by obtain⟨hi,rfl⟩:=ak.mp hx;obtain⟨hj,rfl⟩:=ak.mp hy;exact bh.mp h i j hi hj hij
theorem SL.le {l:List Ai}(h:SL kz l){i j:Nat}{x y:Ai}(hij:i<=j)(hx:l[i]?=some x)(hy:l[j]?=some y):kz x<=kz y:=by
 rcases bp i j with c|c
 .exact gh (h.lt c hx hy)
 .obtain rfl:i=j:=by lia
  rw[hx]at hy;cases hy;exact cL _
theorem zy {a:Array Ai}{i:Nat}(h:i<a.size):∃x,a[i]?=some x/\a.toList[i]?=some x/\x∈a.toList:=⟨a[i],bb h,by simp[h],by simp⟩
theorem Y8 {l:List Ai}{i:Nat}{x:Ai}(h:l[i]?=some x):l.drop i=[x]++l.drop (i+1):=by obtain⟨hi,rfl⟩:=ak.mp h;exact fB hi
theorem qx5 (l:List Ai)(i k:Nat):l.drop i=(l.drop i).take k++l.drop (i+k):=by rw[<-List.drop_drop];exact(dh k (l.drop i)).symm
theorem Q4 {l:List Ai}{i:Nat}{x:Ai}(h:x∈l.drop i):∃j,i<=j/\l[j]?=some x:=by obtain⟨j,hj⟩:=bS h;exact⟨i+j,⋯,by rw[<-hj,dr]⟩
theorem Wd {l:List Ai}{i k:Nat}{x:Ai}(h:x∈(l.drop i).take k):∃j,i<=j/\j<i+k/\l[j]?=some x:=by
 obtain⟨j,hj⟩:=bS h;rw[dW]at hj;split at hj
 .exact⟨i+j,⋯,⋯,by rw[<-hj,dr]⟩
 .cases hj
theorem Qp {l:List Ai}{i:Nat}{x:Ai}(h:x∈l.take i):∃j,j<i/\l[j]?=some x:=by
 obtain⟨j,hj⟩:=bS h;rw[dW]at hj;split at hj
 .exact⟨j,⋯,hj⟩
 .cases hj
end
section
variable {M:Model}{A:Ae}{E:Ag->Ab->Prop}{s:Ab}{G:Ai->Prop}{kz:Ai->Int}{kd:SortKind}{a b:Array Ai}
theorem Zm {g:Nat}{st:Af}{Q:Unit->Af->Prop}(h:∀st',SameSt st st'->Q () st'):wpS M A E s (qvd g) Q st :=
 fT (h _ ⟨rfl,rfl,rfl,rfl⟩)
abbrev LJA (kz:Ai->Int)(a b out:Array Ai)(ia ib:Nat):Prop:=LJ kz (a.toList++b.toList) out.toList (a.toList.drop ia) (b.toList.drop ib)
theorem qwu (a:Array Ai)(i:Nat):(a.extract i a.size).toList=a.toList.drop i:=by rw[eo];simp only[List.extract];exact da (by simp)
theorem qwv {out:Array Ai}{ia ib:Nat}(h:LJA kz a b out ia ib)(e:ib=b.size):Yr kz a b (out++a.extract ia a.size++b.extract ib b.size):=by
 subst e;obtain⟨x,y,p⟩:=h;have D:(out++a.extract ia a.size++b.extract b.size b.size).toList=out.toList++a.toList.drop ia:=by rw[bO,bO,qwu,qwu];simp
 have F:b.toList.drop b.size=[]:=by simp
 rw[F,bQ]at p;exact⟨by rw[D];exact x,by rw[D];exact p⟩
theorem qwx {out:Array Ai}{ia ib:Nat}(h:LJA kz a b out ia ib)(e:ia+1=a.size)(hl:∀x,a[a.size-1]?=some x->∀y∈b.toList,kz y<kz x):Yr kz a b (out++b.extract ib b.size++a.extract ia a.size):=by
 obtain⟨x,y,p⟩:=h;have J:(out++b.extract ib b.size++a.extract ia a.size).toList=(out.toList++b.toList.drop ib)++a.toList.drop ia:=by rw[bO,bO,qwu,qwu]
 obtain⟨z,U,L,Z⟩:=zy (a:=a) (i:=ia) ⋯;have W:=hl z (by rw[<-U];congr 1;lia);have F:a.toList.drop ia=[z]:=by rw[Y8 L,List.drop_eq_nil_of_le (by rw[aU];lia)];rfl
 rw[F]at x p;refine⟨?_,?_⟩
 .rw[J,F];refine bi.mpr ⟨y,eJ _ _,λu D v hv=>?_⟩;rcases aY.mp D with D|D
  .exact(bi.mp x).2.2 u D v hv
  .obtain rfl:=aV.mp hv;exact W u (cT D)
 .rw[J,F,aX];exact(di _ dZ).trans p
theorem qzy {out:Array Ai}{ia ib:Nat}{x y:Ai}(m:Mg kz G a b)(h:LJA kz a b out ia ib)(hx:a.toList[ia]?=some x)(hy:b.toList[ib]?=some y)(c:kz y<kz x):LJA kz a b (out.push y) ia (ib+1):=by
 have h':LJ kz (a.toList++b.toList) out.toList (a.toList.drop ia) ([y]++b.toList.drop (ib+1)):=by rw[<-Y8 hy];exact h
 have:=h'.mvY λu D v hv=>by obtain rfl:=aV.mp D;obtain⟨j,F,J⟩:=Q4 hv;have:=m.sa.le F hx J;lia
 show LJ kz _ (out.push y).toList _ _;rw[dE];exact this
theorem qux {out:Array Ai}{ia ib:Nat}{x y:Ai}(m:Mg kz G a b)(h:LJA kz a b out ia ib)(hx:a.toList[ia]?=some x)(hy:b.toList[ib]?=some y)(c:¬ kz y<kz x):LJA kz a b (out.push x) (ia+1) ib:=by
 have h':LJ kz (a.toList++b.toList) out.toList ([x]++a.toList.drop (ia+1)) (b.toList.drop ib):=by rw[<-Y8 hx];exact h
 have L:=m.ne x (aC hx) y (aC hy);have:=h'.mvX λu D v hv=>by obtain rfl:=aV.mp D;obtain⟨j,F,J⟩:=Q4 hv;have:=m.sb.le F hy J;lia
 show LJ kz _ (out.push x).toList _ _;rw[dE];exact this
theorem xwq {out:Array Ai}{ia ib k:Nat}{y:Ai}(m:Mg kz G a b)(h:LJA kz a b out ia ib)(hy:b.toList[ib]?=some y)(c:∀i x,i<k->a.toList[ia+i]?=some x->kz x<=kz y):LJA kz a b (out++a.extract ia (ia+k)) (ia+k) ib:=by
 have h':LJ kz (a.toList++b.toList) out.toList ((a.toList.drop ia).take k++a.toList.drop (ia+k)) (b.toList.drop ib):=by rw[<-qx5];exact h
 have:=h'.mvX λu F v hv=>by obtain⟨i,Z,W,D⟩:=Wd F;obtain⟨j,J,L⟩:=Q4 hv;have h1:=m.sb.le J hy L;have h2:=c (i-ia) u ⋯ (by rw[<-D];congr 1;lia);have U:=m.ne u (aC D) y (aC hy);lia
 have e:(out++a.extract ia (ia+k)).toList=out.toList++(a.toList.drop ia).take k:=by simp
 show LJ kz _ (out++a.extract ia (ia+k)).toList _ _;rw[e];exact this
theorem wyg {out:Array Ai}{ia ib k:Nat}{x:Ai}(m:Mg kz G a b)(h:LJA kz a b out ia ib)(hx:a.toList[ia]?=some x)(c:∀i y,i<k->b.toList[ib+i]?=some y->kz y<kz x):LJA kz a b (out++b.extract ib (ib+k)) ia (ib+k):=by
 have h':LJ kz (a.toList++b.toList) out.toList (a.toList.drop ia) ((b.toList.drop ib).take k++b.toList.drop (ib+k)):=by rw[<-qx5];exact h
 have:=h'.mvY λu D v hv=>by obtain⟨i,W,U,L⟩:=Wd D;obtain⟨j,F,J⟩:=Q4 hv;have h1:=m.sa.le F hx J;have h2:=c (i-ib) u ⋯ (by rw[<-L];congr 1;lia);lia
 have e:(out++b.extract ib (ib+k)).toList=out.toList++(b.toList.drop ib).take k:=by simp
 show LJ kz _ (out++b.extract ib (ib+k)).toList _ _;rw[e];exact this
theorem wz3 {left:Bool}{key:Ai}{arr:Array Ai}{base n hint:Nat}{st:Af}{Q:Option Nat->Af->Prop}(O:yg M A E s G kz kd)(hk:kindOf st=kd)(hG:G key)
  (sl:∀i j x y,base<=i->i<j->j<base+n->arr[i]?=some x->arr[j]?=some y->kz x<kz y) (hg:∀i,base<=i->i<base+n->∃x,arr[i]?=some x/\G x) (hh:hint<n)
  (h:∀k,k<=n->(∀i x,i<k->arr[base+i]?=some x->z9 kz left key x=true)->(∀i x,k<=i->i<n->arr[base+i]?=some x->z9 kz left key x=false)->Q (some k) st) :
  wpS M A E s (Wy left key arr base n hint) Q st:=by
 refine ww3 (P:=λi=>match arr[base+i]? with|some x=>z9 kz left key x|none=>false) O hk hG (λi hi=>?_) hh (λi j Z W D=>?_) λk h1 h2 L=>h k h1 (λi x hi ex=>?_) λi x hi J ex=>?_
 .obtain⟨x,ex,U⟩:=hg (base+i) ⋯ ⋯;exact⟨x,ex,U,by simp only[ex]⟩
 .obtain⟨y,F,_⟩:=hg (base+j) ⋯ ⋯;obtain⟨x,ex,_⟩:=hg (base+i) ⋯ ⋯;simp only[F]at D;simp only[ex];rcases bp i j with c|c
  .have:=sl (base+i) (base+j) x y ⋯ ⋯ ⋯ ex F;unfold z9 at D ⊢;cases left with
   |true =>
    rw[av rfl]at D ⊢;have:=ca D;exact aR ⋯
   |false =>
    rw[ao aF]at D ⊢;rw[iR,fW]at D ⊢;lia
  .obtain rfl:i=j:=by lia
   rw[ex]at F;cases F;exact D
 .have:=h2 i hi;simp only[ex]at this;exact this
 .have:=L i hi J;simp only[ex]at this;exact this
end
end Tm
namespace Tm
open PySem PyProof.Rows
local macro_rules | `(tactic| walk_at "tim lo")=>do
 let n:=Lean.mkIdent (Lean.mkPrivateNameCore `PySem.Builtin.List.W1All `PySem.Builtin.mergeLo);`(tactic| unfold $n:ident)
section
variable {M:Model}{A:Ae}{E:Ag->Ab->Prop}{s:Ab}{G:Ai->Prop}{kz:Ai->Int}{kd:SortKind}{a b:Array Ai}
theorem tupS {A B:Type}{P:Option A×B->Prop}{r:A}(h:∀b,P (some r,b)):∀c:Option A×B,c.1=some r->P c:=λ⟨_,b⟩ e=>by cases e;exact h b
theorem tup5 {A B C D E:Type}{P:Option A×B×C×D×E->Prop}(h:∀b c d e,P (none,b,c,d,e)):∀x:Option A×B×C×D×E,x.1=none->P x:=λ⟨_,b,c,d,e⟩ z=>by cases z;exact h b c d e
theorem tup6 {A B C D E F:Type}{P:Option A×B×C×D×E×F->Prop}(h:∀b c d e f,P (none,b,c,d,e,f)):∀x:Option A×B×C×D×E×F,x.1=none->P x:=λ⟨_,b,c,d,e,f⟩ z=>by cases z;exact h b c d e f
theorem tup7 {A B C D E F G:Type}{P:Option A×B×C×D×E×F×G->Prop}(h:∀b c d e f g,P (none,b,c,d,e,f,g)):∀x:Option A×B×C×D×E×F×G,x.1=none->P x:=λ⟨_,b,c,d,e,f,g⟩ z=>by cases z;exact h b c d e f g
theorem qu7 {α:Type}{c:Nat->Prop}{i:∀z,Decidable (c z)}{u v:Nat->StateT Af Sem α}{Q:α->Af->Prop}{st:Af}(hu:∀z,u z=v (z-1))(h:∀z,wpS M A E s (v z) Q st):∀z,wpS M A E s (@ite _ (c z) (i z) (u z) (v z)) Q st:=λz=>by
 rw[hu z];split
 .exact h _
 .exact h z
theorem zd {α:Type}{c:Prop}[i:Decidable c]{t e:StateT Af Sem α}{Q:α->Af->Prop}{st:Af}(h1:c->wpS M A E s t Q st)(h2:¬ c->wpS M A E s e Q st):wpS M A E s (ite c t e) Q st:=by
 by_cases d:c
 .rw[av d];exact h1 d
 .rw[ao d];exact h2 d
theorem wz0 {α:Type}{c:Prop}[i:Decidable c]{t e:StateT Af Sem α}{Q:α->Af->Prop}{st:Af}(d:¬ c)(h:wpS M A E s e Q st):wpS M A E s (ite c t e) Q st:=by rw[ao d];exact h
theorem qq1 {A':Ae}{α A B:Type}{c:Prop}{i':Decidable c}{t:StateT Af Sem α}{R:A->B->StateT Af Sem α}{Q:α->Af->Prop}{st:Af}{o:A}{i:B}(P:A->B->Prop)(hp:¬ c->P o i)(tail:∀x y,P x y->wpS M A' E s (R x y) Q st)(ht:c->(∀x y,P x y->wpS M A' E s (R x y) Q st)->wpS M A' E s t Q st):wpS M A' E s (@ite _ c i' t (R o i)) Q st:=by
 by_cases d:c
 .rw[av d];exact ht d tail
 .rw[ao d];exact tail _ _ (hp d)
theorem qk4 {left:Bool}{key:Ai}{arr:Array Ai}{base n hint:Nat}{st:Af}{Q:Option Nat->Af->Prop}(O:yg M A E s G kz kd)(hk:kindOf st=kd)(hG:G key)
  (sl:SL kz arr.toList) (hg:∀x∈arr.toList,G x) (hn:base+n<=arr.size) (hh:hint<n)
  (h:∀k,k<=n->(∀i x,i<k->arr.toList[base+i]?=some x->z9 kz left key x=true)->(∀i x,k<=i->i<n->arr.toList[base+i]?=some x->z9 kz left key x=false)->Q (some k) st) :
  wpS M A E s (Wy left key arr base n hint) Q st:=by
 refine wz3 O hk hG (λi j x y _ L _ ex W=>sl.lt L (by rw[aE];exact ex) (by rw[aE];exact W)) (λi _ hi=>?_) hh λk J F D=>h k J (λi x hi ex=>F i x hi (by rw[<-aE];exact ex)) λi x hi U ex=>D i x hi U (by rw[<-aE];exact ex);obtain⟨x,e1,e2,Z⟩:=zy (a:=arr) (i:=i) ⋯;exact⟨x,e1,hg x Z⟩
theorem ah_f {key x:Ai}(h:z9 kz false key x=true):kz x<=kz key:=by unfold z9 at h;rw[ao aF,iR,fW]at h;lia
theorem ah_t {key x:Ai}(h:z9 kz true key x=true):kz x<kz key:=by unfold z9 at h;rw[av rfl]at h;exact ca h
theorem xwb {key x:Ai}(h:z9 kz false key x=false):kz key<kz x:=by unfold z9 at h;rw[ao aF]at h;simpa using h
theorem qv7 {key x:Ai}(h:z9 kz true key x=false):kz key<=kz x:=by unfold z9 at h;rw[av rfl,fW]at h;lia
theorem wq8 {st:Af}{Q:Array Ai->Af->Prop}(O:yg M A E s G kz kd)(hk:kindOf st=kd)(m:Mg kz G a b)(ha:1<=a.size)(hb:1<=b.size)
  (h0:∀x y,a[0]?=some x->b[0]?=some y->kz y<kz x) (hl:∀x,a[a.size-1]?=some x->∀y∈b.toList,kz y<kz x) (h:∀r st',SameSt st st'->Yr kz a b r->Q r st'):wpS M A E s (qy2 a b) Q st:=by
 unfold qy2;walk_at "tim lo";refine ay (iB (dI ⟨rfl,?_⟩));obtain⟨y0,f1,f2,f3⟩:=zy (a:=b) (i:=0) ⋯;obtain⟨x0,e1,e2,e3⟩:=zy (a:=a) (i:=0) ⋯;refine ay (xy f1 ?_);have J0:LJA kz a b #[y0] 0 1:=by have:=qzy (out:=#[]) m ⟨by simpa using m.sa,by simpa using m.sb,by simp⟩ e2 f2 (h0 _ _ e1 f1);exact this
 refine zd (λc1=>?_) λc1=>?_
 .exact aI (h _ _ (SameSt.rfl' _) (qwv J0 (by simpa using c1)))
 refine zd (λc2=>?_) λc2=>?_
 .exact aI (h _ _ (SameSt.rfl' _) (qwx J0 (by simpa using c2) hl))
 have c1':1<b.size:=by
  have:¬ 0+1=b.size:=by simpa using c1
  lia
 have c2':0+1<a.size:=by
  have:¬ 0+1=a.size:=by simpa using c2
  lia
 refine ay (gJ ?_);refine ay (eT (cw (I:=λt (c:Option (Array Ai)×Array Ai×Nat×Nat×Nat) st'=>SameSt st st'/\c.1=none/\LJA kz a b c.2.1 c.2.2.1 c.2.2.2.1/\c.2.2.1+1<a.size/\c.2.2.2.1<b.size/\t+1<=c.2.2.1+c.2.2.2.1)
  (Q:=λc st'=>SameSt st st'/\∃r,c.1=some r/\Yr kz a b r) ?step ?fin ⟨SameSt.rfl' _,rfl,J0,c2',c1',aj 1⟩) ?post)
 case post =>
  intro c0 st' hI;obtain⟨S,r',hr,F⟩:=hI;revert c0;refine tupS λc=>?_;exact aI (h _ _ S F)
 case fin =>
  rintro⟨r,out,ia,ib,mg⟩ st' ⟨S,_,_,x1,x2,x3⟩;dsimp only at x1 x2 x3;lia
 case step =>
  intro t c0 st1 _ ht hI;obtain⟨S1,hr,J,x1,x2,x3⟩:=hI;revert c0;refine tup5 λout ia ib mg=>?_;intro J x1 x2 x3;dsimp only at J x1 x2 x3;refine ay (eT (cw (I:=λx (c:Option (Array Ai)×Array Ai×Nat×Nat×Nat×Nat) st'=>SameSt st st'/\c.1=none/\LJA kz a b c.2.1 c.2.2.1 c.2.2.2.1/\c.2.2.1+1<a.size/\c.2.2.2.1<b.size/\t+1+x<=c.2.2.1+c.2.2.2.1)
   (Q:=λc st'=>SameSt st st'/\((c.1=none/\LJA kz a b c.2.1 c.2.2.1 c.2.2.2.1/\c.2.2.1+1<a.size/\c.2.2.2.1<b.size/\t+2<=c.2.2.1+c.2.2.2.1)\/∃r,c.1=some r/\Yr kz a b r)) ?sstep ?sfin ⟨S1,rfl,J,x1,x2,x3⟩) ?spost)
  case sfin =>
   rintro⟨r,out,ia,ib,ac,bc⟩ st' ⟨S,hr,J,x1,x2,x3⟩;dsimp only at hr J x1 x2 x3;exact⟨S,.inl ⟨hr,J,x1,x2,by dsimp only;lia⟩⟩
  case sstep =>
   intro x c0 st2 _ hx hI;obtain⟨S2,hr,J,x1,x2,x3⟩:=hI;revert c0;refine tup6 λout ia ib ac bc=>?_;intro J x1 x2 x3;dsimp only at J x1 x2 x3;obtain⟨u,u1,u2,u3⟩:=zy (a:=b) x2;obtain⟨v,v1,v2,v3⟩:=zy (a:=a) (i:=ia) ⋯;refine ay (xy u1 (ay (xy v1 ?_)));refine ay (O u v _ _ (m.gb u u3) (m.ga v v3) (S2.1.trans hk) ?_);refine zd (λc=>?_) λc=>?_
   .have c:=ca c;refine ay (xy u1 ?_);have J':=qzy m J v2 u2 c;refine zd (λd=>?_) λd=>?_
    .exact aI ⟨S2,.inr ⟨_,rfl,qwv J' (by simpa using d)⟩⟩
    have d':ib+1<b.size:=by
     have:¬ ib+1=b.size:=by simpa using d
     lia
    refine zd (λ_=>?_) λ_=>?_
    .exact aI ⟨S2,.inl ⟨rfl,J',x1,d',by dsimp only;lia⟩⟩
    .exact aI ⟨S2,rfl,J',x1,d',by dsimp only;lia⟩
   .have c:¬ (kz u<kz v):=by simpa using c
    refine ay (xy v1 ?_);have J':=qux m J v2 u2 c;refine zd (λd=>?_) λd=>?_
    .exact aI ⟨S2,.inr ⟨_,rfl,qwx J' (by simpa using d) hl⟩⟩
    have d':ia+1+1<a.size:=by
     have:¬ ia+1+1=a.size:=by simpa using d
     lia
    refine zd (λ_=>?_) λ_=>?_
    .exact aI ⟨S2,.inl ⟨rfl,J',d',x2,by dsimp only;lia⟩⟩
    .exact aI ⟨S2,rfl,J',d',x2,by dsimp only;lia⟩
  case spost =>
   intro c0 st2 hI;obtain⟨S2,hc|⟨r',hr,F⟩⟩:=hI
   case inr =>
    revert c0
    refine tupS λb0=>?_;exact aI ⟨S2,r',rfl,F⟩
   obtain⟨hr,J,x1,x2,x3⟩:=hc;revert c0;refine tup6 λout ia ib ac bc=>?_;intro J x1 x2 x3;dsimp only at J x1 x2 x3;refine ay (iB (dI ⟨rfl,?_⟩));refine ay (eT (cw (I:=λx (c:Option (Array Ai)×Array Ai×Nat×Nat×Nat×Nat×Nat) st'=>SameSt st st'/\c.1=none/\LJA kz a b c.2.1 c.2.2.1 c.2.2.2.1/\c.2.2.1+1<a.size/\c.2.2.2.1<b.size/\t+2<=c.2.2.1+c.2.2.2.1)
    (Q:=λc st'=>SameSt st st'/\((c.1=none/\LJA kz a b c.2.1 c.2.2.1 c.2.2.2.1/\c.2.2.1+1<a.size/\c.2.2.2.1<b.size/\t+2<=c.2.2.1+c.2.2.2.1)\/∃r,c.1=some r/\Yr kz a b r)) ?gstep ?gfin ⟨S2,rfl,J,x1,x2,x3⟩) ?gpost)
   case gfin =>
    rintro⟨r,out,ia,ib,mg,ac,bc⟩ st' ⟨S,hr,J,x1,x2,x3⟩;exact⟨S,.inl ⟨hr,J,x1,x2,x3⟩⟩
   case gpost =>
    intro c0 st3 hI;obtain⟨S3,hc|⟨r',hr,F⟩⟩:=hI
    .obtain⟨hr,J,x1,x2,x3⟩:=hc;revert c0;refine tup7 λout ia ib mg ac bc=>?_;intro J x1 x2 x3;dsimp only at J x1 x2 x3;refine ay (Zm λst4 S4=>?_);exact aI ⟨S3.trans S4,rfl,J,x1,x2,by dsimp only;lia⟩
    .revert c0;refine tupS λb0=>?_;exact aI ⟨S3,r',rfl,F⟩
   case gstep =>
    intro x c0 st3 _ hx hI;obtain⟨S3,hr,J,x1,x2,x3⟩:=hI;revert c0;refine tup7 λout ia ib mg ac bc=>?_;intro J x1 x2 x3;dsimp only at J x1 x2 x3;obtain⟨u,u1,u2,u3⟩:=zy (a:=b) x2;revert mg;refine qu7 (λ_=>rfl) λmg=>?_
    all_goals
     refine ay (Zm λst4 S4=>?_);have S5:=S3.trans S4;refine ay (xy u1 ?_);refine ay (qk4 O (S5.1.trans hk) (m.gb u u3) m.sa m.ga (by dsimp only;lia) (by dsimp only;lia) λk k1 k2 k3=>?_)
     try dsimp only at k1 k2 k3
     have kl:k<a.size-ia:=by
      rcases bp k (a.size-ia) with z|z
      .exact z
      .exfalso;obtain⟨v,v1,v2,v3⟩:=zy (a:=a) (i:=a.size-1) ⋯;have:=ah_f (k2 (a.size-1-ia) v ⋯ (by rw[<-v2];congr 1;lia));have:=hl v v1 u u3;lia
     have J':=xwq (k:=k) m J u2 λi x hi ex=>ah_f (k2 i x hi ex);have nxt:∀x,a.toList[ia+k]?=some x->kz u<kz x:=λx ex=>xwb (k3 k x (aj _) kl ex);apply qq1 (o:=out) (i:=ia) (λout ia=>LJA kz a b out ia ib/\ia+1<a.size/\(∀x,a.toList[ia]?=some x->kz u<kz x)/\t+2<=ia+ib)
     .intro c;obtain rfl:k=0:=by lia
      exact⟨J,x1,nxt,x3⟩
     rotate_left
     .intro c key;refine zd (λd=>?_) λd=>?_
      .exact aI ⟨S5,.inr ⟨_,rfl,qwx J' (by simpa using d) hl⟩⟩
      have d':ia+k+1<a.size:=by
       have:¬ ia+k+1=a.size:=by simpa using d
       lia
      refine wz0 (by simp;lia) ?_;exact key _ _ ⟨J',d',nxt,⋯⟩
     clear nxt J' kl k1 k2 k3 J x1 x3 out ia;rintro out ia ⟨J',d',nxt,x3'⟩;obtain⟨v,v1,v2,v3⟩:=zy (a:=a) (i:=ia) ⋯;have J2:=qzy m J' v2 u2 (nxt v v2);refine ay (xy u1 ?_);refine zd (λd2=>?_) λd2=>?_
     .exact aI ⟨S5,.inr ⟨_,rfl,qwv J2 (by simpa using d2)⟩⟩
     have d2':ib+1<b.size:=by
      have:¬ ib+1=b.size:=by simpa using d2
      lia
     have x4:t+2<=ia+(ib+1):=by lia
     clear d2;generalize out.push u=out2 at J2 ⊢;generalize ib+1=ib2 at J2 d2' x4 ⊢;refine ay (xy v1 ?_);refine ay (qk4 O (S5.1.trans hk) (m.ga v v3) m.sb m.gb ⋯ ⋯ λk k1 k2 k3=>?_)
     try dsimp only at k1 k2 k3
     have J3:=wyg (k:=k) m J2 v2 λi x hi ex=>ah_t (k2 i x hi ex);apply qq1 (o:=out2) (i:=ib2) (λout ib=>LJA kz a b out ia ib/\ib<b.size/\(∀y,b.toList[ib]?=some y->kz v<=kz y)/\t+2<=ia+ib)
     .intro c;obtain rfl:k=0:=by lia
      exact⟨J2,d2',λy ey=>qv7 (k3 0 y (aj _) ⋯ ey),x4⟩
     rotate_left
     .intro c key;refine zd (λd=>?_) λd=>?_
      .exact aI ⟨S5,.inr ⟨_,rfl,qwv J3 (by simpa using d)⟩⟩
      have d3:ib2+k<b.size:=by
       have:¬ ib2+k=b.size:=by simpa using d
       lia
      exact key _ _ ⟨J3,d3,λy ey=>qv7 (k3 k y (aj _) ⋯ ey),⋯⟩
     clear J3 k1 k2 k3 J2 d2' x4 out2 ib2;rintro out ib ⟨J3,d3,nx,x5⟩;obtain⟨u',w1,w2,w3⟩:=zy (a:=b) d3;have J4:=qux m J3 v2 w2 (by have:=nx u' w2;lia);refine ay (xy v1 ?_);refine zd (λd=>?_) λd=>?_
     .exact aI ⟨S5,.inr ⟨_,rfl,qwx J4 (by simpa using d) hl⟩⟩
     have d4:ia+1+1<a.size:=by
      have:¬ ia+1+1=a.size:=by simpa using d
      lia
     refine zd (λ_=>?_) λ_=>?_
     .exact aI ⟨S5,.inl ⟨rfl,J4,d4,d3,by dsimp only;lia⟩⟩
     .exact aI ⟨S5,rfl,J4,d4,d3,by dsimp only;lia⟩
end
end Tm
namespace Tm
open PySem PyProof.Rows
local macro_rules | `(tactic| walk_at "tim hi")=>do
 let n:=Lean.mkIdent (Lean.mkPrivateNameCore `PySem.Builtin.List.W1All `PySem.Builtin.mergeHi);`(tactic| unfold $n:ident)
section
variable {M:Model}{A:Ae}{E:Ag->Ab->Prop}{s:Ab}{G:Ai->Prop}{kz:Ai->Int}{kd:SortKind}{a b:Array Ai}
abbrev HJA (kz:Ai->Int)(a b:Array Ai)(na nb:Nat)(out:Array Ai):Prop:=HJ kz (a.toList++b.toList) (a.toList.take na) (b.toList.take nb) out.toList.reverse
theorem qjn (a:Array Ai)(i:Nat):(a.extract 0 i).toList=a.toList.take i:=by rw[eo];simp[List.extract]
theorem qk1 (a:Array Ai)(i j:Nat):(a.extract i j).toList=(a.toList.drop i).take (j-i):=by rw[eo]
theorem qzq (l:List Ai){i j:Nat}(h:i<=j):l.take j=l.take i++(l.drop i).take (j-i):=by rw[<-List.take_add];congr 1;lia
theorem Jh {l:List Ai}{i:Nat}{x:Ai}(h:l[i]?=some x):l.take (i+1)=l.take i++[x]:=by obtain⟨hi,rfl⟩:=ak.mp h;simp
theorem qq4 {out:Array Ai}{nb:Nat}(h:HJA kz a b 0 nb out):Yr kz a b (a.extract 0 0++b.extract 0 nb++out.reverse):=by
 obtain⟨x,y,p⟩:=h;have D:(a.extract 0 0++b.extract 0 nb++out.reverse).toList=b.toList.take nb++out.toList.reverse:=by rw[bO,bO,qjn,qjn];simp
 exact⟨by rw[D];exact y,by rw[D];simpa using p⟩
theorem Zt {out:Array Ai}{na:Nat}(hb:1<=b.size)(h:HJA kz a b na 1 out)(hl:∀y,b[0]?=some y->∀x∈a.toList,kz y<kz x):Yr kz a b (b.extract 0 1++a.extract 0 na++out.reverse):=by
 obtain⟨x,y,p⟩:=h;obtain⟨z,U,L,W⟩:=zy (a:=b) (i:=0) ⋯;have J:(b.extract 0 1++a.extract 0 na++out.reverse).toList=b.toList.take 1++(a.toList.take na++out.toList.reverse):=by rw[bO,bO,qjn,qjn];simp
 have D:b.toList.take 1=[z]:=by rw[Jh L];simp
 rw[D]at y p;refine⟨?_,?_⟩
 .rw[J,D];refine bi.mpr ⟨eJ _ _,x,λu F v hv=>?_⟩;rcases aY.mp hv with hv'|hv'
  .obtain rfl:=aV.mp F;exact hl u U v (dA hv')
  .exact(bi.mp y).2.2 u F v hv'
 .rw[J,D];refine List.Perm.trans ?_ p;rw[<-aX,<-aX];exact dc _ dZ
theorem qzw {out:Array Ai}{na nb:Nat}{x y:Ai}(m:Mg kz G a b)(h:HJA kz a b (na+1) (nb+1) out)(hx:a.toList[na]?=some x)(hy:b.toList[nb]?=some y)(c:kz y<kz x):HJA kz a b na (nb+1) (out.push x):=by
 have h':HJ kz (a.toList++b.toList) (a.toList.take na++[x]) (b.toList.take (nb+1)) out.toList.reverse:=by rw[<-Jh hx];exact h
 have:=h'.mvX λv hv u D=>by obtain rfl:=aV.mp D;obtain⟨j,J,F⟩:=Qp hv;have:=m.sb.le (show j<=nb by lia) F hy;lia
 show HJ kz _ _ _ (out.push x).toList.reverse;rw[dE,fE];exact this
theorem qy4 {out:Array Ai}{na nb:Nat}{x y:Ai}(m:Mg kz G a b)(h:HJA kz a b (na+1) (nb+1) out)(hx:a.toList[na]?=some x)(hy:b.toList[nb]?=some y)(c:¬ kz y<kz x):HJA kz a b (na+1) nb (out.push y):=by
 have h':HJ kz (a.toList++b.toList) (a.toList.take (na+1)) (b.toList.take nb++[y]) out.toList.reverse:=by rw[<-Jh hy];exact h
 have J:=m.ne x (aC hx) y (aC hy);have:=h'.mvY λv hv u D=>by obtain rfl:=aV.mp D;obtain⟨j,L,F⟩:=Qp hv;have:=m.sa.le (show j<=na by lia) F hx;lia
 show HJ kz _ _ _ (out.push y).toList.reverse;rw[dE,fE];exact this
theorem wym {out:Array Ai}{na nb p:Nat}{y:Ai}(m:Mg kz G a b)(h:HJA kz a b na (nb+1) out)(hp:p<=na)(hy:b.toList[nb]?=some y)(c:∀i x,p<=i->i<na->a.toList[i]?=some x->kz y<kz x):HJA kz a b p (nb+1) (out++(a.extract p na).reverse):=by
 have h':HJ kz (a.toList++b.toList) (a.toList.take p++(a.toList.drop p).take (na-p)) (b.toList.take (nb+1)) out.toList.reverse:=by rw[<-qzq _ hp];exact h
 have:=h'.mvX λv hv u D=>by obtain⟨i,F,W,L⟩:=Wd D;obtain⟨j,U,J⟩:=Qp hv;have h1:=m.sb.le (show j<=nb by lia) J hy;have h2:=c i u F ⋯ L;lia
 have e:(out++(a.extract p na).reverse).toList.reverse=(a.toList.drop p).take (na-p)++out.toList.reverse:=by rw[bO,Array.toList_reverse,qk1,fE,List.reverse_reverse]
 show HJ kz _ _ _ (out++(a.extract p na).reverse).toList.reverse;rw[e];exact this
theorem wy0 {out:Array Ai}{na nb p:Nat}{x:Ai}(m:Mg kz G a b)(h:HJA kz a b (na+1) nb out)(hp:p<=nb)(hx:a.toList[na]?=some x)(c:∀i y,p<=i->i<nb->b.toList[i]?=some y->kz x<=kz y):HJA kz a b (na+1) p (out++(b.extract p nb).reverse):=by
 have h':HJ kz (a.toList++b.toList) (a.toList.take (na+1)) (b.toList.take p++(b.toList.drop p).take (nb-p)) out.toList.reverse:=by rw[<-qzq _ hp];exact h
 have:=h'.mvY λv hv u F=>by obtain⟨i,J,Z,D⟩:=Wd F;obtain⟨j,W,L⟩:=Qp hv;have h1:=m.sa.le (show j<=na by lia) L hx;have h2:=c i u J ⋯ D;have U:=m.ne x (aC hx) u (aC D);lia
 have e:(out++(b.extract p nb).reverse).toList.reverse=(b.toList.drop p).take (nb-p)++out.toList.reverse:=by rw[bO,Array.toList_reverse,qk1,fE,List.reverse_reverse]
 show HJ kz _ _ _ (out++(b.extract p nb).reverse).toList.reverse;rw[e];exact this
theorem xwz {left:Bool}{key:Ai}{arr:Array Ai}{n hint:Nat}{st:Af}{Q:Option Nat->Af->Prop}(O:yg M A E s G kz kd)(hk:kindOf st=kd)(hG:G key)
  (sl:SL kz arr.toList) (hg:∀x∈arr.toList,G x) (hn:n<=arr.size) (hh:hint<n)
  (h:∀k,k<=n->(∀i x,i<k->arr.toList[i]?=some x->z9 kz left key x=true)->(∀i x,k<=i->i<n->arr.toList[i]?=some x->z9 kz left key x=false)->Q (some k) st) :
  wpS M A E s (Wy left key arr 0 n hint) Q st :=
 qk4 O hk hG sl hg ⋯ hh λk k1 k2 k3=>h k k1 (λi x hi ex=>k2 i x hi (by rw[cJ];exact ex)) λi x hi hi2 ex=>k3 i x hi hi2 (by rw[cJ];exact ex)
theorem wqt {st:Af}{Q:Array Ai->Af->Prop}(O:yg M A E s G kz kd)(hk:kindOf st=kd)(m:Mg kz G a b)(ha:1<=a.size)(hb:1<=b.size)
  (h0:∀y,b[0]?=some y->∀x∈a.toList,kz y<kz x) (hl:∀x,a[a.size-1]?=some x->∀y∈b.toList,kz y<kz x) (h:∀r st',SameSt st st'->Yr kz a b r->Q r st'):wpS M A E s (qys a b) Q st:=by
 unfold qys;walk_at "tim hi";refine ay (iB (dI ⟨rfl,?_⟩));obtain⟨y0,f1,f2,f3⟩:=zy (a:=b) (i:=b.size-1) ⋯;obtain⟨x0,e1,e2,e3⟩:=zy (a:=a) (i:=a.size-1) ⋯;refine ay (xy e1 ?_);have tk:∀c:Array Ai,c.toList.take c.size=c.toList:=λc=>da (by simp);have J0:HJA kz a b (a.size-1) b.size #[x0]:=by
  have st:HJA kz a b (a.size-1+1) (b.size-1+1) #[]:=by
   have ea:a.size-1+1=a.size:=by lia
   have eb:b.size-1+1=b.size:=by lia
   show HJ kz _ (a.toList.take (a.size-1+1)) (b.toList.take (b.size-1+1)) _;rw[ea,eb,tk,tk];exact⟨by simpa using m.sa,by simpa using m.sb,by simp⟩
  have:=qzw m st e2 f2 (hl _ e1 _ f3);have eb:b.size-1+1=b.size:=by lia
  rw[eb]at this;exact this
 refine zd (λc1=>?_) λc1=>?_
 .have e:a.size-1=0:=by simpa using c1
  rw[e]at J0 ⊢;exact aI (h _ _ (SameSt.rfl' _) (qq4 J0))
 refine zd (λc2=>?_) λc2=>?_
 .have e:b.size=1:=by simpa using c2
  rw[e]at J0 ⊢;exact aI (h _ _ (SameSt.rfl' _) (Zt hb J0 h0))
 have c1':1<=a.size-1:=by
  have:¬ a.size-1=0:=by simpa using c1
  lia
 have c2':2<=b.size:=by
  have:¬ b.size=1:=by simpa using c2
  lia
 refine ay (gJ ?_);refine ay (eT (cw (I:=λt (c:Option (Array Ai)×Nat×Nat×Array Ai×Nat) st'=>SameSt st st'/\c.1=none/\HJA kz a b c.2.1 c.2.2.1 c.2.2.2.1/\1<=c.2.1/\2<=c.2.2.1/\c.2.1<=a.size/\c.2.2.1<=b.size/\c.2.1+c.2.2.1+t+1<=a.size+b.size)
  (Q:=λc st'=>SameSt st st'/\∃r,c.1=some r/\Yr kz a b r) ?step ?fin ⟨SameSt.rfl' _,rfl,J0,c1',c2',by dsimp only;lia,aj _,by dsimp only;lia⟩) ?post)
 case post =>
  intro c0 st' hI;obtain⟨S,r',hr,F⟩:=hI;revert c0;refine tupS λc=>?_;exact aI (h _ _ S F)
 case fin =>
  rintro⟨r,na,nb,out,mg⟩ st' ⟨S,_,_,x1,x2,_,_,x3⟩;dsimp only at x1 x2 x3;lia
 case step =>
  intro t c0 st1 _ ht hI;obtain⟨S1,hr,J,x1,x2,xa,xb,x3⟩:=hI;revert c0;refine tup5 λna nb out mg=>?_;intro J x1 x2 xa xb x3;dsimp only at J x1 x2 xa xb x3;refine ay (eT (cw (I:=λx (c:Option (Array Ai)×Nat×Nat×Array Ai×Nat×Nat) st'=>SameSt st st'/\c.1=none/\HJA kz a b c.2.1 c.2.2.1 c.2.2.2.1/\1<=c.2.1/\2<=c.2.2.1/\c.2.1<=a.size/\c.2.2.1<=b.size/\c.2.1+c.2.2.1+t+1+x<=a.size+b.size)
   (Q:=λc st'=>SameSt st st'/\((c.1=none/\HJA kz a b c.2.1 c.2.2.1 c.2.2.2.1/\1<=c.2.1/\2<=c.2.2.1/\c.2.1<=a.size/\c.2.2.1<=b.size/\c.2.1+c.2.2.1+t+2<=a.size+b.size)\/∃r,c.1=some r/\Yr kz a b r)) ?sstep ?sfin ⟨S1,rfl,J,x1,x2,xa,xb,x3⟩) ?spost)
  case sfin =>
   rintro⟨r,na,nb,out,ac,bc⟩ st' ⟨S,hr,J,x1,x2,xa,xb,x3⟩;dsimp only at hr J x1 x2 xa xb x3;exact⟨S,.inl ⟨hr,J,x1,x2,xa,xb,by dsimp only;lia⟩⟩
  case sstep =>
   intro x c0 st2 _ hx hI;obtain⟨S2,hr,J,x1,x2,xa,xb,x3⟩:=hI;revert c0;refine tup6 λna nb out ac bc=>?_;intro J x1 x2 xa xb x3;dsimp only at J x1 x2 xa xb x3;obtain⟨na,rfl⟩:∃n,na=n+1:=⟨na-1,⋯⟩;obtain⟨nb,rfl⟩:∃n,nb=n+1:=⟨nb-1,⋯⟩;obtain⟨u,u1,u2,u3⟩:=zy (a:=b) (i:=nb) ⋯;obtain⟨v,v1,v2,v3⟩:=zy (a:=a) (i:=na) ⋯;refine ay (xy u1 (ay (xy v1 ?_)));refine ay (O u v _ _ (m.gb u u3) (m.ga v v3) (S2.1.trans hk) ?_);refine zd (λc=>?_) λc=>?_
   .have c:=ca c;refine ay (xy v1 ?_);have J':=qzw m J v2 u2 c;refine zd (λd=>?_) λd=>?_
    .have e:na=0:=by simpa using d
     subst e;exact aI ⟨S2,.inr ⟨_,rfl,qq4 J'⟩⟩
    have d':1<=na:=by
     have:¬ na=0:=by simpa using d
     lia
    refine zd (λ_=>?_) λ_=>?_
    .exact aI ⟨S2,.inl ⟨rfl,J',d',x2,by dsimp only;lia,xb,by dsimp only;lia⟩⟩
    .exact aI ⟨S2,rfl,J',d',x2,by dsimp only;lia,xb,by dsimp only;lia⟩
   .have c:¬ (kz u<kz v):=by simpa using c
    refine ay (xy u1 ?_);have J':=qy4 m J v2 u2 c;refine zd (λd=>?_) λd=>?_
    .have e:nb=1:=by simpa using d
     subst e;exact aI ⟨S2,.inr ⟨_,rfl,Zt hb J' h0⟩⟩
    have d':2<=nb:=by
     have:¬ nb=1:=by simpa using d
     lia
    refine zd (λ_=>?_) λ_=>?_
    .exact aI ⟨S2,.inl ⟨rfl,J',x1,d',xa,by dsimp only;lia,by dsimp only;lia⟩⟩
    .exact aI ⟨S2,rfl,J',x1,d',xa,by dsimp only;lia,by dsimp only;lia⟩
  case spost =>
   intro c0 st2 hI;obtain⟨S2,hc|⟨r',hr,F⟩⟩:=hI
   case inr =>
    revert c0
    refine tupS λb0=>?_;exact aI ⟨S2,r',rfl,F⟩
   obtain⟨hr,J,x1,x2,xa,xb,x3⟩:=hc;revert c0;refine tup6 λna nb out ac bc=>?_;intro J x1 x2 xa xb x3;dsimp only at J x1 x2 xa xb x3;refine ay (iB (dI ⟨rfl,?_⟩));refine ay (eT (cw (I:=λx (c:Option (Array Ai)×Nat×Nat×Array Ai×Nat×Nat×Nat) st'=>SameSt st st'/\c.1=none/\HJA kz a b c.2.1 c.2.2.1 c.2.2.2.1/\1<=c.2.1/\2<=c.2.2.1/\c.2.1<=a.size/\c.2.2.1<=b.size/\c.2.1+c.2.2.1+t+2<=a.size+b.size)
    (Q:=λc st'=>SameSt st st'/\((c.1=none/\HJA kz a b c.2.1 c.2.2.1 c.2.2.2.1/\1<=c.2.1/\2<=c.2.2.1/\c.2.1<=a.size/\c.2.2.1<=b.size/\c.2.1+c.2.2.1+t+2<=a.size+b.size)\/∃r,c.1=some r/\Yr kz a b r)) ?gstep ?gfin ⟨S2,rfl,J,x1,x2,xa,xb,x3⟩) ?gpost)
   case gfin =>
    rintro⟨r,na,nb,out,mg,ac,bc⟩ st' ⟨S,hr,J,x1,x2,xa,xb,x3⟩;exact⟨S,.inl ⟨hr,J,x1,x2,xa,xb,x3⟩⟩
   case gpost =>
    intro c0 st3 hI;obtain⟨S3,hc|⟨r',hr,F⟩⟩:=hI
    .obtain⟨hr,J,x1,x2,xa,xb,x3⟩:=hc;revert c0;refine tup7 λna nb out mg ac bc=>?_;intro J x1 x2 xa xb x3;dsimp only at J x1 x2 xa xb x3;refine ay (Zm λst4 S4=>?_);exact aI ⟨S3.trans S4,rfl,J,x1,x2,xa,xb,by dsimp only;lia⟩
    .revert c0;refine tupS λb0=>?_;exact aI ⟨S3,r',rfl,F⟩
   case gstep =>
    intro x c0 st3 _ hx hI;obtain⟨S3,hr,J,x1,x2,xa,xb,x3⟩:=hI;revert c0;refine tup7 λna nb out mg ac bc=>?_;intro J x1 x2 xa xb x3;dsimp only at J x1 x2 xa xb x3;obtain⟨nb,rfl⟩:∃n,nb=n+1:=⟨nb-1,⋯⟩;obtain⟨u,u1,u2,u3⟩:=zy (a:=b) (i:=nb) ⋯;revert mg;refine qu7 (λ_=>rfl) λmg=>?_
    all_goals
     refine ay (Zm λst4 S4=>?_);have S5:=S3.trans S4;refine ay (xy u1 ?_);refine ay (xwz O (S5.1.trans hk) (m.gb u u3) m.sa m.ga xa (by dsimp only;lia) λp k1 k2 k3=>?_)
     try dsimp only at k1 k2 k3
     have J':=wym m J k1 u2 λi x hi hi2 ex=>xwb (k3 i x hi hi2 ex);have prv:1<=p->∀x,a.toList[p-1]?=some x->¬ kz u<kz x:=λh x ex=>by have:=ah_f (k2 (p-1) x ⋯ ex);lia
     have xa':p<=a.size:=by lia
     have x3':p+(nb+1)+t+2<=a.size+b.size:=by lia
     clear k2 k3;dsimp -zeta only;generalize hac:na-p=ac;apply qq1 (o:=na) (i:=out) (λna out=>HJA kz a b na (nb+1) out/\1<=na/\na<=a.size/\(∀x,a.toList[na-1]?=some x->¬ kz u<kz x)/\na+(nb+1)+t+2<=a.size+b.size)
     .intro c;obtain rfl:p=na:=by lia
      exact⟨J,x1,xa,prv x1,x3⟩
     rotate_left
     .intro c key;refine zd (λd=>?_) λd=>?_
      .have e:p=0:=by simpa using d
       subst e;exact aI ⟨S5,.inr ⟨_,rfl,qq4 J'⟩⟩
      have d':1<=p:=by
       have:¬ p=0:=by simpa using d
       lia
      exact key _ _ ⟨J',d',xa',prv d',x3'⟩
     clear prv J' xa' x3' hac k1 J x1 xa x3 out na p;rintro na out ⟨J',x1,xa,prv,x3⟩;obtain⟨na,rfl⟩:∃n,na=n+1:=⟨na-1,⋯⟩;rw[g8]at prv;obtain⟨v,v1,v2,v3⟩:=zy (a:=a) (i:=na) ⋯;have J2:=qy4 m J' v2 u2 (prv v v2);refine ay (xy u1 ?_);refine zd (λd2=>?_) λd2=>?_
     .have e:nb=1:=by simpa using d2
      subst e;exact aI ⟨S5,.inr ⟨_,rfl,Zt hb J2 h0⟩⟩
     have d2':2<=nb:=by
      have:¬ nb=1:=by simpa using d2
      lia
     have xb':nb<=b.size:=by lia
     have x4:na+1+nb+t+3<=a.size+b.size:=by lia
     refine ay (xy v1 ?_);clear d2 prv J' x3 u1 u2 u3 xb;generalize out.push u=out2 at J2 ⊢;rw[g8 nb];refine ay (xwz O (S5.1.trans hk) (m.ga v v3) m.sb m.gb (by(try dsimp only);lia) (by(try dsimp only);lia) λq k1 k2 k3=>?_)
     try dsimp only at k1 k2 k3
     have J3:=wy0 m J2 k1 v2 λi x hi hi2 ex=>qv7 (k3 i x hi hi2 ex);have q1:1<=q:=by
      rcases bp 0 q with z|z
      .exact z
      .exfalso;obtain⟨w,w1,w2,w3⟩:=zy (a:=b) (i:=0) ⋯;have:=qv7 (k3 0 w ⋯ ⋯ w2);have:=h0 w w1 v v3;lia
     have prv2:∀y,b.toList[q-1]?=some y->kz y<kz v:=λy ey=>ah_t (k2 (q-1) y ⋯ ey);clear k2 k3;dsimp -zeta only;generalize hbc:nb-q=bc;apply qq1 (o:=nb) (i:=out2) (λnb out=>HJA kz a b (na+1) nb out/\2<=nb/\nb<=b.size/\(∀y,b.toList[nb-1]?=some y->kz y<kz v)/\na+1+nb+t+3<=a.size+b.size)
     .intro c;obtain rfl:q=nb:=by lia
      exact⟨J2,d2',xb',prv2,x4⟩
     rotate_left
     .intro c key;refine zd (λd=>?_) λd=>?_
      .have e:q=1:=by simpa using d
       subst e;exact aI ⟨S5,.inr ⟨_,rfl,Zt hb J3 h0⟩⟩
      refine wz0 (by simp;lia) ?_;exact key _ _ ⟨J3,by have:¬ q=1:=(by simpa using d);lia,⋯,prv2,⋯⟩
     clear J3 k1 J2 prv2 q1 d2' xb' x4 hbc x2 out2 q nb;rintro nb out ⟨J3,d3,d5,prv2,x5⟩;obtain⟨q,rfl⟩:∃n,nb=n+1:=⟨nb-1,⋯⟩;rw[g8]at prv2;obtain⟨w,w1,w2,w3⟩:=zy (a:=b) (i:=q) ⋯;have J4:=qzw m J3 v2 w2 (prv2 w w2);refine ay (xy v1 ?_);refine zd (λd=>?_) λd=>?_
     .have e:na=0:=by simpa using d
      subst e;exact aI ⟨S5,.inr ⟨_,rfl,qq4 J4⟩⟩
     have d4:1<=na:=by
      have:¬ na=0:=by simpa using d
      lia
     refine zd (λ_=>?_) λ_=>?_
     .exact aI ⟨S5,.inl ⟨rfl,J4,d4,d3,by dsimp only;lia,by dsimp only;lia,by dsimp only;lia⟩⟩
     .exact aI ⟨S5,rfl,J4,d4,d3,by dsimp only;lia,by dsimp only;lia,by dsimp only;lia⟩
end
end Tm
namespace Tm
open PySem PyProof.Rows
section
variable {M:Model}{A:Ae}{E:Ag->Ab->Prop}{s:Ab}{G:Ai->Prop}{kz:Ai->Int}{kd:SortKind}
def Srt (kz:Ai->Int)(xs:Array Ai)(lo hi:Nat):Prop:=∀i j x y,lo<=i->i<j->j<hi->xs[i]?=some x->xs[j]?=some y->kz x<kz y
def Dsc (kz:Ai->Int)(xs:Array Ai)(lo hi:Nat):Prop:=∀i j x y,lo<=i->i<j->j<hi->xs[i]?=some x->xs[j]?=some y->kz y<kz x
structure Un (kz:Ai->Int)(G:Ai->Prop)(xs:Array Ai):Prop where
 ne:xs.toList.Pairwise λx y=>kz x≠kz y
 g:∀x∈xs.toList,G x
theorem Un.perm {xs ys:Array Ai}(u:Un kz G xs)(p:ys.Perm xs):Un kz G ys:=by have p':=dX.mp p;exact⟨(p'.pairwise_iff (λ{a b} h=>dY h)).mpr u.ne,λx hx=>u.g x (p'.mem_iff.mp hx)⟩
theorem Un.at_ {xs:Array Ai}(u:Un kz G xs){i:Nat}(h:i<xs.size):∃x,xs[i]?=some x/\G x:=by obtain⟨x,e1,_,e3⟩:=zy h;exact⟨x,e1,u.g x e3⟩
theorem Un.ne_at {xs:Array Ai}(u:Un kz G xs){i j:Nat}{x y:Ai}(hij:i<j)(hx:xs[i]?=some x)(hy:xs[j]?=some y):kz x≠kz y:=by rw[<-aE]at hx hy;obtain⟨hi,rfl⟩:=ak.mp hx;obtain⟨D,rfl⟩:=ak.mp hy;exact bh.mp u.ne i j hi D hij
theorem Jd {st:Af}{i j:Nat}{x y:Ai}{Q:Option Bool->Af->Prop}(O:yg M A E s G kz kd)(hk:kindOf st=kd)(hx:(arrOf st)[i]?=some x)(hy:(arrOf st)[j]?=some y)(gx:G x)(gy:G y)
  (h:Q (some (decide (kz x<kz y))) st):wpS M A E s (ltAt' i j) Q st:=by
 rw[ltAt'_eq];refine ay (gJ ?_);exact ay (xy hx (ay (xy hy (O _ _ _ _ gx gy hk h))))
structure Ip (lo:Nat)(st st':Af):Prop where
 k:kindOf st'=kindOf st
 p:pendingOf st'=pendingOf st
 f:failedOf st'=failedOf st
 a:(arrOf st').Perm (arrOf st)
 low:∀i,i<lo->(arrOf st')[i]?=(arrOf st)[i]?
theorem Ip.rfl' (lo:Nat)(st:Af):Ip lo st st:=⟨rfl,rfl,rfl,.refl _,λ_ _=>rfl⟩
theorem Ip.trans {lo:Nat}{a b c:Af}(h:Ip lo a b)(k:Ip lo b c):Ip lo a c:=⟨k.k.trans h.k,k.p.trans h.p,k.f.trans h.f,k.a.trans h.a,λi hi=>(k.low i hi).trans (h.low i hi)⟩
theorem ip_bub {lo src d:Nat}{st:Af}(h:src<(arrOf st).size)(hd:lo+d<=src):Ip lo st (setArr st (bubble (arrOf st) src d)):=by refine⟨rfl,rfl,rfl,bubble_perm _ _ _,λi hi=>?_⟩;show(bubble (arrOf st) src d)[i]?=_;rw[getElem?_bubble h d ⋯,ao ⋯,ao ⋯]
theorem ip_mir {lo i j:Nat}{st:Af}(hj:j<=(arrOf st).size)(hi:lo<=i):Ip lo st (setArr st (mirror (arrOf st) i j ((j-i)/2))):=by refine⟨rfl,rfl,rfl,mirror_perm _ _ _ _,λk D=>?_⟩;show(mirror (arrOf st) i j ((j-i)/2))[k]?=_;rw[getElem?_mirror_all hj,ao ⋯]
theorem Srt.one (xs:Array Ai)(lo:Nat):Srt kz xs lo (lo+1):=λi j x y a b c _ _=>by lia
theorem Srt.snoc {xs:Array Ai}{lo hi:Nat}{x y:Ai}(h:Srt kz xs lo (hi+1))(hlo:lo<=hi)(hx:xs[hi]?=some x)(hy:xs[hi+1]?=some y)(c:kz x<kz y):Srt kz xs lo (hi+1+1):=by
 intro i j u v a b d D F;by_cases e:j=hi+1
 .subst e;rw[hy]at F;cases F;by_cases e2:i=hi
  .subst e2;rw[hx]at D;cases D;exact c
  .have:=h i hi u x a ⋯ ⋯ D hx;lia
 .exact h i j u v a b ⋯ D F
theorem Dsc.snoc {xs:Array Ai}{lo hi:Nat}{x y:Ai}(h:Dsc kz xs lo (hi+1))(hlo:lo<=hi)(hx:xs[hi]?=some x)(hy:xs[hi+1]?=some y)(c:kz y<kz x):Dsc kz xs lo (hi+1+1):=by
 intro i j u v a b d D F;by_cases e:j=hi+1
 .subst e;rw[hy]at F;cases F;by_cases e2:i=hi
  .subst e2;rw[hx]at D;cases D;exact c
  .have:=h i hi u x a ⋯ ⋯ D hx;lia
 .exact h i j u v a b ⋯ D F
theorem Dsc.turn {xs:Array Ai}{lo n:Nat}(h:Dsc kz xs lo (lo+n))(hs:lo+n<=xs.size):Srt kz (mirror xs lo (lo+n) ((lo+n-lo)/2)) lo (lo+n):=by intro i j u v a b d F D;rw[getElem?_mirror_all hs,av ⟨⋯,⋯⟩]at F D;exact h _ _ v u ⋯ ⋯ ⋯ D F
theorem xq1 {st:Af}{lo n0 nrem:Nat}{f:Nat->Option (Option Nat)×Nat->StateT Af Sem (ForInStep (Option (Option Nat)×Nat))}{Q:Option (Option Nat)×Nat->Af->Prop}
  (hf:∀i n (R:ForInStep (Option (Option Nat)×Nat)->Af->Prop),1<=n->n<nrem->(∀x y,(arrOf st)[lo+n-1]?=some x->(arrOf st)[lo+n]?=some y->(kz y<kz x->R (.done (none,n)) st)/\(¬ kz y<kz x->R (.yield (none,n+1)) st))->wpS M A E s (f i (none,n)) R st)
  (u:Un kz G (arrOf st)) (h0:1<=n0) (hn:n0<=nrem) (hz:lo+nrem<=(arrOf st).size) (sr:Srt kz (arrOf st) lo (lo+n0))
  (h:∀n,n0<=n->n<=nrem->Srt kz (arrOf st) lo (lo+n)->(n=nrem\/∀x y,(arrOf st)[lo+n-1]?=some x->(arrOf st)[lo+n]?=some y->kz y<kz x)->Q (none,n) st) :
  wpS M A E s (forIn [n0:nrem] ((none,n0):Option (Option Nat)×Nat) f) Q st:=by
 refine cw (I:=λi (c:Option (Option Nat)×Nat) st'=>st'=st/\c=(none,i)/\n0<=i/\Srt kz (arrOf st) lo (lo+i)) ?step ?fin ⟨rfl,rfl,aj _,sr⟩
 case fin =>
  rintro c st' ⟨rfl,rfl,x1,x2⟩;have e:max n0 nrem=nrem:=by lia
  rw[e]at x1 x2 ⊢;exact h _ x1 (aj _) x2 (.inl rfl)
 case step =>
  rintro i c st' hi hi2 ⟨rfl,rfl,x1,x2⟩;refine hf _ _ _ ⋯ hi2 λx y ex ey=>⟨λc=>?_,λc=>?_⟩
  .refine h i x1 ⋯ x2 (.inr λx' y' ex' ey'=>?_);rw[ex]at ex';rw[ey]at ey';cases ex';cases ey';exact c
  .have ne:=u.ne_at (show lo+i-1<lo+i by lia) ex ey;refine⟨rfl,rfl,⋯,?_⟩;obtain⟨m,e⟩:∃m,lo+i=m+1:=⟨lo+i-1,⋯⟩;rw[show lo+(i+1)=m+1+1 by lia];rw[e]at x2 ey ex;exact x2.snoc ⋯ (by simpa using ex) ey ⋯
theorem wjd {st:Af}{lo nrem:Nat}{Q:Option Nat->Af->Prop}(O:yg M A E s G kz kd)(hk:kindOf st=kd)(u:Un kz G (arrOf st))(h1:1<=nrem)(hz:lo+nrem<=(arrOf st).size)
  (h:∀n st',1<=n->n<=nrem->Ip lo st st'->Srt kz (arrOf st') lo (lo+n)->Q (some n) st'):wpS M A E s (countRun' lo nrem) Q st:=by
 rw[countRun'_eq];dsimp only;refine ay (xq1 (lo:=lo) (n0:=1) (nrem:=nrem) (λi n R n1 n2 hR=>?_) u (aj _) h1 hz (Srt.one _ _) λn n1 n2 sr hor=>?_)
 .obtain⟨x,ex,gx⟩:=u.at_ (i:=lo+n-1) ⋯;obtain⟨y,ey,gy⟩:=u.at_ (i:=lo+n) ⋯;have:=hR x y ex ey;dsimp only;refine ay (Jd O hk ey ex gy gx ?_);dsimp only;by_cases c:kz y<kz x
  .rw[av (aR c)];exact aI (this.1 c)
  .rw[ao (by simpa using c)];exact aI (this.2 c)
 dsimp only;by_cases c:(n==nrem)=true
 .rw[av c];exact aI (h n st n1 n2 (Ip.rfl' _ _) sr)
 rw[ao c];have c':n<nrem:=by
  have:¬ n=nrem:=by simpa using c
  lia
 by_cases c2:n>1
 .rw[av c2];obtain⟨x,ex,gx⟩:=u.at_ (i:=lo) ⋯;obtain⟨y,ey,gy⟩:=u.at_ (i:=lo+n-1) ⋯;refine ay (Jd O hk ex ey gx gy ?_);dsimp only;rw[av (aR (sr lo (lo+n-1) x y (aj _) ⋯ ⋯ ex ey))];exact aI (h n st n1 n2 (Ip.rfl' _ _) sr)
 rw[ao c2];obtain rfl:n=1:=by lia
 refine ay (iB (dI ⟨rfl,?_⟩));have fall:=hor.resolve_left ⋯;have d0:Dsc kz (arrOf st) lo (lo+(1+1)):=by obtain⟨x,ex,gx⟩:=u.at_ (i:=lo) ⋯;obtain⟨y,ey,gy⟩:=u.at_ (i:=lo+1) ⋯;exact Dsc.snoc (hi:=lo) (λi j u v a b d _ _=>by lia) (aj _) ex ey (fall x y (by simpa using ex) ey)
 refine ay (eT (cw (I:=λi (c:Option (Option Nat)×Nat×Nat) st'=>st'=st/\c=(none,i,0)/\2<=i/\i<=nrem/\Dsc kz (arrOf st) lo (lo+i))
  (Q:=λc st'=>st'=st/\∃i,c=(none,i,0)/\2<=i/\i<=nrem/\Dsc kz (arrOf st) lo (lo+i)) ?step ?fin ⟨rfl,rfl,aj _,⋯,d0⟩) ?post)
 case fin =>
  rintro c st' ⟨rfl,rfl,x1,x2,x3⟩;exact⟨rfl,_,rfl,x1,x2,x3⟩
 case step =>
  rintro i c st' hi hi2 ⟨rfl,rfl,x1,x2,x3⟩;dsimp only;obtain⟨x,ex,gx⟩:=u.at_ (i:=lo+i-1) ⋯;obtain⟨y,ey,gy⟩:=u.at_ (i:=lo+i) ⋯;refine ay (Jd O hk ey ex gy gx ?_);dsimp only;have ne:=u.ne_at (show lo+i-1<lo+i by lia) ex ey;by_cases c:kz y<kz x
  .rw[av (aR c)];rw[ao (be 0)];refine aI ⟨rfl,rfl,⋯,⋯,?_⟩;obtain⟨m,e⟩:∃m,lo+i=m+1:=⟨lo+i-1,⋯⟩;rw[show lo+(i+1)=m+1+1 by lia];rw[e]at x3 ey ex;exact x3.snoc ⋯ (by simpa using ex) ey c
  .rw[ao (by simpa using c)];refine ay (Jd O hk ex ey gx gy ?_);dsimp only;rw[av (aR (show kz x<kz y by lia))];exact aI ⟨rfl,i,rfl,x1,x2,x3⟩
 case post =>
  rintro c st' ⟨rfl,i,rfl,x1,x2,x3⟩;dsimp only;rw[ao (be 0)];refine ay ?_;rw[reverseSlice'_eq];refine fT ?_;have ip:=ip_mir (lo:=lo) (i:=lo) (j:=lo+i) (st:=st') ⋯ (aj _);have sr2:Srt kz (arrOf (setArr st' (mirror (arrOf st') lo (lo+i) ((lo+i-lo)/2)))) lo (lo+i):=x3.turn ⋯;generalize setArr st' (mirror (arrOf st') lo (lo+i) ((lo+i-lo)/2))=st2 at ip sr2 ⊢;have u2:=u.perm ip.a;have z2:(arrOf st2).size=(arrOf st').size:=ip.a.size_eq;refine ay (xq1 (lo:=lo) (n0:=i) (nrem:=nrem) (λi n R n1 n2 hR=>?_) u2 ⋯ x2 ⋯ sr2 λn n1 n2 sr hor=>?_)
  .obtain⟨x,ex,gx⟩:=u2.at_ (i:=lo+n-1) ⋯;obtain⟨y,ey,gy⟩:=u2.at_ (i:=lo+n) ⋯;have:=hR x y ex ey;dsimp only;refine ay (Jd O (ip.k.trans hk) ey ex gy gx ?_);dsimp only;by_cases c:kz y<kz x
   .rw[av (aR c)];exact aI (this.1 c)
   .rw[ao (by simpa using c)];exact aI (this.2 c)
  exact aI (h n st2 ⋯ n2 ip sr)
theorem xvd {st:Af}{lo n ok:Nat}{Q:Bool->Af->Prop}(O:yg M A E s G kz kd)(hk:kindOf st=kd)(u:Un kz G (arrOf st))(h1:1<=ok)(hok:ok<=n)(hz:lo+n<=(arrOf st).size)(sr:Srt kz (arrOf st) lo (lo+ok))
  (h:∀st',Ip lo st st'->Srt kz (arrOf st') lo (lo+n)->Q true st'):wpS M A E s (binarySort' lo n ok) Q st:=by
 rw[binarySort'_eq];have em:max ok 1=ok:=by lia
 rw[em];refine ay (eT (cw (I:=λk c st'=>c=(none,())/\Ip lo st st'/\Srt kz (arrOf st') lo (lo+k)) (Q:=λc st'=>c=(none,())/\Ip lo st st'/\Srt kz (arrOf st') lo (lo+n)) ?step ?fin ⟨rfl,Ip.rfl' _ _,sr⟩) ?post)
 case fin =>
  rintro c st' ⟨rfl,x1,x2⟩;rw[show max ok n=n by lia]at x2;exact⟨rfl,x1,x2⟩
 case post =>
  rintro c st' ⟨rfl,x1,x2⟩;exact aI (h st' x1 x2)
 case step =>
  rintro k c st1 hk1 hk2 ⟨rfl,ip,s1⟩;dsimp only;have u1:=u.perm ip.a;have z1:(arrOf st1).size=(arrOf st).size:=ip.a.size_eq;obtain⟨x,ex,gx⟩:=u1.at_ (i:=lo+k) ⋯;refine ay (eT (cw (I:=λi (c:Option Bool×Nat×Nat) st'=>st'=st1/\c.1=none/\c.2.1<=c.2.2/\c.2.2<=k/\c.2.2-c.2.1<=k-i/\(∀j y,j<c.2.1->(arrOf st1)[lo+j]?=some y->kz y<kz x)/\(∀j y,c.2.2<=j->j<k->(arrOf st1)[lo+j]?=some y->kz x<kz y))
   (Q:=λc st'=>st'=st1/\∃l r,c=(none,l,r)/\l<=k/\(∀j y,j<l->(arrOf st1)[lo+j]?=some y->kz y<kz x)/\(∀j y,l<=j->j<k->(arrOf st1)[lo+j]?=some y->kz x<kz y)) ?step2 ?fin2 ⟨rfl,rfl,aW _,aj _,by dsimp only;lia,λj y hj=>by dsimp only at hj;lia,λj y a b=>by dsimp only at a;lia⟩) ?post2)
  case fin2 =>
   rintro⟨r,a,b⟩ st' ⟨rfl,hr,y1,y2,y3,y4,y5⟩;dsimp only at hr y1 y2 y3 y4 y5;subst hr;have:a=b:=by lia
   subst this;exact⟨rfl,_,_,rfl,y2,y4,y5⟩
  case step2 =>
   rintro i ⟨r,a,b⟩ st' _ hi ⟨rfl,hr,y1,y2,y3,y4,y5⟩;dsimp only at hr y1 y2 y3 y4 y5 ⊢;subst hr;by_cases c:a>=b
   .rw[av c];have:a=b:=by lia
    subst this;exact aI ⟨rfl,_,_,rfl,y2,y4,y5⟩
   rw[ao c];obtain⟨y,ey,gy⟩:=u1.at_ (i:=lo+(a+b)/2) ⋯;refine ay (Jd O (ip.k.trans hk) ex ey gx gy ?_);dsimp only;have ne:=u1.ne_at (show lo+(a+b)/2<lo+k by lia) ey ex;have mon:∀j j' z z',j<=j'->j'<k->(arrOf st')[lo+j]?=some z->(arrOf st')[lo+j']?=some z'->kz z<=kz z':=λj j' z z' h1 h2 e1 e2=>by
    rcases bp j j' with c|c
    .exact gh (s1 (lo+j) (lo+j') z z' ⋯ ⋯ ⋯ e1 e2)
    .obtain rfl:j=j':=by lia
     rw[e1]at e2;cases e2;exact cL _
   by_cases d:kz x<kz y
   .rw[av (aR d)];refine aI ⟨rfl,rfl,by dsimp only;lia,by dsimp only;lia,by dsimp only;lia,y4,λj z hj hj2 ez=>?_⟩;have:=mon _ _ _ _ hj hj2 ey ez;lia
   .rw[ao (by simpa using d)];refine aI ⟨rfl,rfl,by dsimp only;lia,y2,by dsimp only;lia,λj z hj ez=>?_,y5⟩;dsimp only at hj;have:=mon j ((a+b)/2) _ _ ⋯ ⋯ ez ey;lia
  case post2 =>
   rintro c st' ⟨rfl,l,r,rfl,hl,b1,b2⟩;dsimp only;refine ay ?_;rw[moveDown'_eq];refine fT ?_;have ed:lo+k-(lo+l)=k-l:=by lia
   rw[ed];refine aI ⟨rfl,ip.trans (ip_bub ⋯ ⋯),?_⟩;show Srt kz (bubble (arrOf st') (lo+k) (k-l)) lo (lo+(k+1));intro i j p q h1 h2 h3 ep eq;rw[getElem?_bubble ⋯ (k-l) ⋯]at ep eq;have e4:lo+k-(k-l)=lo+l:=by lia
   rw[e4]at ep eq;by_cases c1:i=lo+l
   .rw[av c1,ex]at ep;cases ep;rw[ao ⋯,av ⟨⋯,⋯⟩]at eq;exact b2 (j-1-lo) q ⋯ ⋯ (by rw[<-eq];congr 1;lia)
   .rw[ao c1]at ep;by_cases c2:j=lo+l
    .rw[av c2,ex]at eq;cases eq;rw[ao ⋯]at ep;exact b1 (i-lo) p ⋯ (by rw[<-ep];congr 1;lia)
    .rw[ao c2]at eq;by_cases c3:lo+l<i/\i<=lo+k
     .rw[av c3]at ep;rw[av ⟨⋯,⋯⟩]at eq;exact s1 (i-1) (j-1) p q ⋯ ⋯ ⋯ ep eq
     .rw[ao c3]at ep;by_cases c4:lo+l<j/\j<=lo+k
      .rw[av c4]at eq;have h5:=b1 (i-lo) p ⋯ (by rw[<-ep];congr 1;lia);have h6:=b2 (j-1-lo) q ⋯ ⋯ (by rw[<-eq];congr 1;lia);lia
      .rw[ao c4]at eq;exact s1 i j p q h1 h2 ⋯ ep eq
end
end Tm
namespace Tm
open PySem PyProof.Rows
local macro_rules | `(tactic| walk_at "tim at")=>do
 let n:=Lean.mkIdent (Lean.mkPrivateNameCore `PySem.Builtin.List.W1All `PySem.Builtin.mergeAt);`(tactic| unfold $n:ident)
section
variable {kz:Ai->Int}{G:Ai->Prop}
def Pend (kz:Ai->Int):List (Nat×Nat)->List (List Ai)->Nat->Prop
 |[],[],_=>True
 |q::ps,r::rs,lo=>q.1=lo/\q.2=r.length/\1<=r.length/\SL kz r/\Pend kz ps rs (lo+r.length)
 |[],_::_,_=>False
 |_::_,[],_=>False
def pr (q:Nat×Nat×Nat):Nat×Nat:=(q.1,q.2.1)
theorem Pend.len:∀ {ps:List (Nat×Nat)} {rs:List (List Ai)} {lo:Nat},Pend kz ps rs lo->ps.length=rs.length
 |[],[],_,_=>rfl
 |_::ps,_::rs,_,h=>by simp[Pend.len h.2.2.2.2]
 |[],_::_,_,h=>h.elim
 |_::_,[],_,h=>h.elim
theorem Pend.size:∀ {ps:List (Nat×Nat)} {rs:List (List Ai)} {lo:Nat},Pend kz ps rs lo->rs.length<=rs.flatten.length
 |[],[],_,_=>by simp
 |_::ps,r::rs,_,h=>by have:=Pend.size h.2.2.2.2;have:=h.2.2.1;simp only[dG,ar,aJ];lia
 |[],_::_,_,h=>h.elim
 |_::_,[],_,h=>h.elim
theorem Pend.push:∀ {ps:List (Nat×Nat)} {rs:List (List Ai)} {lo:Nat} {r:List Ai} {q:Nat×Nat},Pend kz ps rs lo->q.1=lo+rs.flatten.length->q.2=r.length->1<=r.length->SL kz r->Pend kz (ps++[q]) (rs++[r]) lo
 |[],[],_,_,_,_,a,b,c,d=>⟨by simpa using a,b,c,d,trivial⟩
 |_::ps,r'::rs,_,_,_,h,a,b,c,d=>⟨h.1,h.2.1,h.2.2.1,h.2.2.2.1,Pend.push h.2.2.2.2 (by simp only[dG,ar]at a;lia) b c d⟩
 |[],_::_,_,_,_,h,_,_,_,_=>h.elim
 |_::_,[],_,_,_,h,_,_,_,_=>h.elim
theorem Pend.split:∀(i:Nat) {p:List (Nat×Nat×Nat)} {rs:List (List Ai)} {lo:Nat},Pend kz (p.map pr) rs lo->i+1<p.length->∃p1 q1 q2 p2 rs1 RA RB rs2,p=p1++q1::q2::p2/\rs=rs1++RA::RB::rs2/\p1.length=i/\rs1.length=i/\q1.1=lo+rs1.flatten.length/\q1.2.1=RA.length/\q2.1=lo+rs1.flatten.length+RA.length/\q2.2.1=RB.length /\
  1<=RA.length/\1<=RB.length/\SL kz RA/\SL kz RB/\∀(RN:List Ai) (q:Nat×Nat×Nat),q.1=q1.1->q.2.1=RN.length->RN.length=RA.length+RB.length->SL kz RN->Pend kz ((p1++q::p2).map pr) (rs1++RN::rs2) lo
 |0,q1::q2::p2,RA::RB::rs2,lo,h,_=>by
  obtain⟨a1,a2,a3,a4,b1,b2,b3,b4,r⟩:=h;refine⟨[],q1,q2,p2,[],RA,RB,rs2,rfl,rfl,rfl,rfl,by simpa [pr] using a1,a2,by simpa [pr] using b1,b2,a3,b3,a4,b4,λRN q e1 e2 e3 e4=>⟨?_,e2,⋯,e4,?_⟩⟩
  .show q.1=lo;rw[e1];exact a1
  .rw[e3,<-Nat.add_assoc];exact r
 |i+1,q0::p,r0::rs,lo,h,hi=>by obtain⟨a1,a2,a3,a4,r⟩:=h;obtain⟨p1,q1,q2,p2,rs1,RA,RB,rs2,e1,e2,e3,e4,c1,c2,c3,c4,c5,c6,c7,c8,c9⟩:=Pend.split i r (by simpa using hi);refine⟨q0::p1,q1,q2,p2,r0::rs1,RA,RB,rs2,by rw[e1];rfl,by rw[e2];rfl,by simp[e3],by simp[e4],by rw[c1];simp only[dG,ar];lia,c2,by rw[c3];simp only[dG,ar];lia,c4,c5,c6,c7,c8,λRN q z1 z2 z3 z4=>?_⟩;exact⟨a1,a2,a3,a4,c9 RN q z1 z2 z3 z4⟩
 |0,[],_,_,_,hi=>by simp at hi
 |0,[_],_,_,_,hi=>by simp at hi
 |0,_::_::_,[],_,h,_=>h.elim
 |0,_::_::_,[_],_,h,_=>h.2.2.2.2.elim
 |i+1,[],_,_,_,hi=>by simp at hi
 |i+1,_::_,[],_,h,_=>h.elim
theorem Zq {xs:Array Ai}{P R S:List Ai}(h:xs.toList=P++(R++S)){i:Nat}(hi:i<R.length):xs[P.length+i]?=R[i]?:=by rw[<-aE,h,aA ⋯,cU,aT hi]
theorem wz9 {g:Array Ai->Ai×Nat->Array Ai}{sa:Nat}(hg:∀xs p j,g xs (p,j)=xs.setIfInBounds (sa+j) p):∀(l:List Ai) (k:Nat) (xs:Array Ai),sa+k+l.length<=xs.size->∀i:Nat,((l.zipIdx k).foldl g xs)[i]?=if sa+k<=i/\i<sa+k+l.length then l[i-(sa+k)]? else xs[i]?
 |[],k,xs,h,i=>by rw[ao (by rw[df];lia)];rfl
 |p::l,k,xs,h,i=>by
  simp only[aJ]at h;rw[List.zipIdx_cons,List.foldl_cons,hg,wz9 hg l (k+1) _ (by rw[iV];lia)];simp only[aJ];by_cases c1:sa+(k+1)<=i/\i<sa+(k+1)+l.length
  .rw[av c1,av ⟨⋯,⋯⟩];obtain⟨d,hd⟩:∃d,i-(sa+k)=d+1:=⟨i-(sa+k)-1,⋯⟩;rw[hd,i6];congr 1;lia
  .rw[ao c1];by_cases c2:i=sa+k
   .subst c2;rw[av ⟨aj _,⋯⟩,hU,gS,av rfl,av ⋯];rfl
   .rw[ao ⋯,gS,ao ⋯]
theorem xvb {g:Array Ai->Ai×Nat->Array Ai}{sa:Nat}(hg:∀xs p j,g xs (p,j)=xs.setIfInBounds (sa+j) p){xs:Array Ai}{P R S l:List Ai}(h:xs.toList=P++(R++S))(hs:P.length=sa)(hl:l.length=R.length):(l.zipIdx.foldl g xs).toList=P++(l++S):=by
 have D:xs.size=P.length+(R.length+S.length):=by rw[<-aU,h];simp
 refine bT λi=>?_;rw[aE,wz9 hg l 0 xs ⋯];by_cases c1:i<P.length
 .rw[ao ⋯,<-aE,h,aT c1,aT c1]
 .rw[aA ⋯];by_cases c2:i-P.length<l.length
  .rw[av ⟨⋯,⋯⟩,aT c2];congr 1;lia
  .rw[ao ⋯,aA ⋯,<-aE,h,aA ⋯,aA ⋯,hl]
theorem wvc {xs:Array Ai}{P R S:List Ai}{i j:Nat}(h:xs.toList=P++(R++S))(hi:i=P.length)(hj:j=P.length+R.length):(xs.extract i j).toList=R:=by subst hi hj;rw[qk1,h,List.drop_left,cU,List.take_left]
theorem SL.app {X Y:List Ai}(hx:SL kz X)(hy:SL kz Y)(h:∀x∈X,∀y∈Y,kz x<kz y):SL kz (X++Y):=bi.mpr ⟨hx,hy,h⟩
theorem SL.parts {X Y:List Ai}(h:SL kz (X++Y)):SL kz X/\SL kz Y/\∀x∈X,∀y∈Y,kz x<kz y:=bi.mp h
end
section
variable {M:Model}{A:Ae}{E:Ag->Ab->Prop}{s:Ab}{G:Ai->Prop}{kz:Ai->Int}{kd:SortKind}
theorem wvs {left:Bool}{key:Ai}{arr:Array Ai}{n hint base:Nat}{P R S:List Ai}{st:Af}{Q:Option Nat->Af->Prop}(O:yg M A E s G kz kd)(hk:kindOf st=kd)(hG:G key)
  (hT:arr.toList=P++(R++S)) (hb:base=P.length) (hn:n=R.length) (sl:SL kz R) (hg:∀x∈R,G x) (hh:hint<n)
  (h:∀k,k<=R.length->(∀x∈R.take k,z9 kz left key x=true)->(∀x∈R.drop k,z9 kz left key x=false)->Q (some k) st) :
  wpS M A E s (Wy left key arr base n hint) Q st:=by
 subst hb hn;refine wz3 O hk hG (λi j x y h1 h2 h3 ex ey=>?_) (λi h1 h2=>?_) hh λk k1 k2 Z=>h k k1 (λx J=>?_) λx J=>?_
 .have D:=Zq hT (i:=i-P.length) ⋯;have W:=Zq hT (i:=j-P.length) ⋯;rw[show P.length+(i-P.length)=i by lia,ex]at D;rw[show P.length+(j-P.length)=j by lia,ey]at W;exact sl.lt ⋯ D.symm W.symm
 .have D:=Zq hT (i:=i-P.length) ⋯;rw[show P.length+(i-P.length)=i by lia]at D;have hi:i-P.length<R.length:=by lia
  rw[ae hi]at D;exact⟨_,D,hg _ (bw _)⟩
 .obtain⟨j,L,F⟩:=Qp J;exact k2 j x L (by rw[Zq hT ⋯];exact F)
 .obtain⟨j,L,F⟩:=Q4 J;have U:j<R.length:=(ak.mp F).1;exact Z j x L U (by rw[Zq hT U];exact F)
theorem quy {st:Af}{i:Nat}{rs:List (List Ai)}{S:List Ai}{Q:Bool->Af->Prop}(O:yg M A E s G kz kd)(hk:kindOf st=kd)(hf:failedOf st=none)(u:Un kz G (arrOf st))
  (hT:(arrOf st).toList=rs.flatten++S) (Pd:Pend kz ((pendingOf st).toList.map pr) rs 0) (hi:i+1<rs.length)
  (h:∀st' rs',kindOf st'=kd->failedOf st'=none->(arrOf st').toList=rs'.flatten++S->rs'.flatten.Perm rs.flatten->Pend kz ((pendingOf st').toList.map pr) rs' 0->rs'.length+1=rs.length->Q true st'):wpS M A E s (mergeAt' i) Q st:=by
 have bs:(pendingOf st).size=rs.length:=by have:=Pd.len;simpa using this
 obtain⟨p1,q1,q2,p2,am,D,L,ab,e1,e2,e3,e4,c1,c2,c3,c4,c5,c6,c7,c8,c9⟩:=Pd.split i (by simp;lia);obtain⟨Z,na,pw⟩:=q1;obtain⟨W,nb,bc⟩:=q2;dsimp only at c1 c2 c3 c4 c9;rw[cJ]at c1 c3;have g1:(pendingOf st)[i]?=some (Z,na,pw):=by rw[<-aE,e1,aA ⋯,e3,hU];rfl
 have g2:(pendingOf st)[i+1]?=some (W,nb,bc):=by rw[<-aE,e1,aA ⋯,e3,cU];rfl
 have g3:∀v,(((pendingOf st).setIfInBounds i v).eraseIdxIfInBounds (i+1)).toList=p1++v::p2:=λv=>by rw[Array.toList_eraseIdxIfInBounds,Array.toList_setIfInBounds,e1];rw[List.set_append_right _ _ ⋯,e3,hU,List.set_cons_zero,List.eraseIdx_append_of_length_le ⋯,e3,cU];rfl
 have ad:(arrOf st).toList=am.flatten++(D++(L++(ab.flatten++S))):=by rw[hT,e2];simp
 have as:(arrOf st).toList=(am.flatten++D)++(L++(ab.flatten++S)):=by rw[ad];simp
 have ne:∀x∈D,∀y∈L,kz x≠kz y:=by have:=u.ne;rw[ad]at this;have:=(bi.mp this).2.1;have:=(bi.mp this).2.2;exactλx J y U=>this x J y (cD _ U)
 have gA:∀x∈D,G x:=λx J=>u.g x (by rw[ad];simp[J]);have gB:∀x∈L,G x:=λx J=>u.g x (by rw[ad];simp[J]);unfold mergeAt';walk_at "tim at";refine ay (gJ ?_);rw[g1,g2];dsimp only;refine ay (m:=set _) (show wpS M A E s (set _) _ st from ?_);refine fT (f:=λ_=>SortSt.mk' (kindOf st) (arrOf st) (((pendingOf st).setIfInBounds i (Z,na+nb,pw)).eraseIdxIfInBounds (i+1)) (gallopOf st) (failedOf st)) ?_;have F:∀(st':Af) (RN:List Ai),kindOf st'=kd->failedOf st'=none->(arrOf st').toList=am.flatten++(RN++(ab.flatten++S))->(pendingOf st').toList=p1++(Z,na+nb,pw)::p2->RN.Perm (D++L)->SL kz RN->Q true st':=λst' RN k1 k2 k3 k4 k5 k6=>by
  refine h st' (am++RN::ab) k1 k2 (by rw[k3];simp) ?_ ?_ (by rw[e2];simp only[ar,aJ];lia)
  .rw[e2];simp only[List.flatten_append,dG];refine di _ ?_;rw[<-aX];exact dc _ k5
  .rw[k4];refine c9 RN _ rfl ?_ (by rw[k5.length_eq,ar]) k6;dsimp only;rw[k5.length_eq,ar,c2,c4]
 generalize hst1:SortSt.mk' (kindOf st) (arrOf st) (((pendingOf st).setIfInBounds i (Z,na+nb,pw)).eraseIdxIfInBounds (i+1)) (gallopOf st) (failedOf st)=st1;have d1:kindOf st1=kd:=by rw[<-hst1];exact hk
 have d2:failedOf st1=none:=by rw[<-hst1];exact hf
 have d3:arrOf st1=arrOf st:=by rw[<-hst1]
 have d4:(pendingOf st1).toList=p1++(Z,na+nb,pw)::p2:=by rw[<-hst1];exact g3 _
 clear hst1;obtain⟨y0,an,rfl⟩:∃y0 an,L=y0::an:=by
  cases L with
  |nil=>simp at c6
  |cons a b=>exact⟨a,b,rfl⟩
 have ey:(arrOf st)[W]?=some y0:=by have:=Zq as (i:=0) (by simp);rw[Nat.add_zero,ar]at this;rw[c3,this];rfl
 have m0:y0∈y0::an:=.head _;refine ay (xy ey ?_);refine ay (wvs O d1 (gB y0 m0) ad c1 c2 c7 gA ⋯ λk k1 k2 k3=>?_);dsimp only;have a5:∀y∈y0::an,kz y0<=kz y:=λy U=>by
  rcases aQ.mp U with rfl|z
  .exact cL _
  .exact gh ((List.pairwise_cons.mp c8).1 y z)
 by_cases z1:(na-k==0)=true
 .rw[av z1];have e:na-k=0:=by simpa using z1
  refine aI (F st1 (D++y0::an) d1 d2 (by rw[d3,ad];simp) d4 (.refl _) (c7.app c8 λx J y U=>?_));have:=ah_f (k2 x (by rw[da ⋯];exact J));have:=a5 y U;have:=ne x J y0 m0;lia
 rw[ao z1];have bq:k<na:=by
  have:¬ na-k=0:=by simpa using z1
  lia
 have ap:D.length-1<D.length:=by lia
 have ex:(arrOf st)[Z+k+(na-k)-1]?=some D[D.length-1]:=by have:=Zq ad (i:=D.length-1) ap;rw[ae ap]at this;rw[<-this];congr 1;lia
 have mx:D[D.length-1]∈D:=bw _;have a7:∀x∈D,kz x<=kz D[D.length-1]:=λx J=>by obtain⟨j,hj⟩:=bS J;have bx:j<D.length:=(ak.mp hj).1;exact c7.le (show j<=D.length-1 by lia) hj (ae ap)
 refine ay (xy ex ?_);refine ay (wvs O d1 (gA _ mx) as (by rw[c3,ar]) c4 c8 gB ⋯ λn n1 n2 n3=>?_);dsimp only;by_cases z2:(n==0)=true
 .rw[av z2];have e:n=0:=by simpa using z2
  subst e;refine aI (F st1 (D++y0::an) d1 d2 (by rw[d3,ad];simp) d4 (.refl _) (c7.app c8 λx J y U=>?_));have:=qv7 (n3 y (by simpa using U));have:=a7 x J;have:=ne x J y U;lia
 rw[ao z2];have bm:1<=n:=by
  have:¬ n=0:=by simpa using z2
  lia
 generalize hRB:y0::an=L at *;have tA:D=D.take k++D.drop k:=(dh k D).symm;have tB:L=L.take n++L.drop n:=(dh n L).symm;have a8:(arrOf st).toList=(am.flatten++D.take k)++(D.drop k++(L++(ab.flatten++S))):=by
  rw[ad];have e:D++(L++(ab.flatten++S))=(D.take k++D.drop k)++(L++(ab.flatten++S)):=by rw[<-tA]
  rw[e];simp only[aX]
 have bl:(arrOf st).toList=(am.flatten++D)++(L.take n++(L.drop n++(ab.flatten++S))):=by
  rw[as];have e:L++(ab.flatten++S)=(L.take n++L.drop n)++(ab.flatten++S):=by rw[<-tB]
  rw[e];simp only[aX]
 have bk:(arrOf st).toList=(am.flatten++D.take k)++((D.drop k++L.take n)++(L.drop n++(ab.flatten++S))):=by
  rw[a8];have e:L++(ab.flatten++S)=(L.take n++L.drop n)++(ab.flatten++S):=by rw[<-tB]
  rw[e];simp only[aX]
 have xx:((arrOf st).extract (Z+k) W).toList=D.drop k:=wvc a8 (by simp only[ar,bg,bY];lia) (by simp only[ar,bg,bY];lia);have yy:((arrOf st).extract W (W+n)).toList=L.take n:=wvc bl (by simp only[ar,bg,bY];lia) (by simp only[ar,bg,bY];lia);have sA:SL kz (D.take k++D.drop k):=by rw[<-tA];exact c7
 have sB:SL kz (L.take n++L.drop n):=by rw[<-tB];exact c8
 obtain⟨a1,a2,a3⟩:=sA.parts;obtain⟨b1,b2,b3⟩:=sB.parts;have mg:Mg kz G ((arrOf st).extract (Z+k) W) ((arrOf st).extract W (W+n)):=by
  refine⟨by rw[xx];exact a2,by rw[yy];exact b1,?_,?_,?_⟩
  .rw[xx,yy];exactλx J y U=>ne x (cT J) y (dA U)
  .rw[xx];exactλx J=>gA x (cT J)
  .rw[yy];exactλx J=>gB x (dA J)
 have xz:((arrOf st).extract (Z+k) W).size=D.length-k:=by rw[<-aU,xx,bY]
 have yz:((arrOf st).extract W (W+n)).size=n:=by rw[<-aU,yy,bg];lia
 have h0:∀y,((arrOf st).extract W (W+n))[0]?=some y->∀x∈((arrOf st).extract (Z+k) W).toList,kz y<kz x:=λy ey x J=>by rw[<-aE,yy,<-hRB]at ey;rw[xx]at J;obtain⟨n',rfl⟩:∃n',n=n'+1:=⟨n-1,⋯⟩;rw[List.take_succ_cons]at ey;cases ey;exact xwb (k3 x J)
 have hl:∀x,((arrOf st).extract (Z+k) W)[((arrOf st).extract (Z+k) W).size-1]?=some x->∀y∈((arrOf st).extract W (W+n)).toList,kz y<kz x:=λx ex y U=>by rw[<-aE,xx,xz,dr,show k+(D.length-k-1)=D.length-1 by lia,ae ap]at ex;cases ex;rw[yy]at U;exact ah_t (n2 y U)
 have a9:∀(r:Array Ai) (ac:Af),SameSt st1 ac->Yr kz ((arrOf st).extract (Z+k) W) ((arrOf st).extract W (W+n)) r->wpS M A E s (do
   modify λs=>setArr s (List.foldl (λa (x:Ai×Nat)=>a.setIfInBounds (Z+k+x.2) x.1) (arrOf s) r.toList.zipIdx)
   let s <-get
   pure (failedOf s).isNone) Q ac:=λr ac S2 ⟨r1,r2⟩=>by
  rw[xx,yy]at r2;have bd:(arrOf ac).toList=(am.flatten++D.take k)++((D.drop k++L.take n)++(L.drop n++(ab.flatten++S))):=by rw[S2.2.1,d3];exact bk
  have wr:=xvb (g:=λa (x:Ai×Nat)=>a.setIfInBounds (Z+k+x.2) x.1) (λ_ _ _=>rfl) (l:=r.toList) bd (by simp only[ar,bg,bY];lia) r2.length_eq;refine ay (fT ?_);refine ay (gJ (aI ?_));have f9:failedOf (setArr ac (List.foldl (λa (x:Ai×Nat)=>a.setIfInBounds (Z+k+x.2) x.1) (arrOf ac) r.toList.zipIdx))=none:=S2.2.2.2.trans d2;rw[f9];refine F _ (D.take k++(r.toList++L.drop n)) (S2.1.trans d1) f9 ?_ (by show(pendingOf ac).toList=_;rw[S2.2.2.1,d4]) ?_ ?_
  .show(List.foldl _ (arrOf ac) r.toList.zipIdx).toList=_;rw[wr];simp
  .conv=>rhs;rw[tA,tB]
   rw[aX];refine di _ ?_;rw[<-aX];exact dc _ r2
  .refine a1.app (r1.app b2 λx J y U=>?_) λx J y U=>?_
   .rcases aY.mp (r2.mem_iff.mp J) with J|J
    .have:=qv7 (n3 y U);have:=a7 x (cT J);have:=ne x (cT J) y (cT U);lia
    .exact b3 x J y U
   .have a6:∀y∈L,kz x<kz y:=λy U=>by have:=ah_f (k2 x J);have:=a5 y U;have:=ne x (dA J) y0 (by rw[<-hRB];exact .head _);lia
    rcases aY.mp U with U|U
    .rcases aY.mp (r2.mem_iff.mp U) with U|U
     .exact a3 x J y U
     .exact a6 y (dA U)
    .exact a6 y (cT U)
 have a4:1<=((arrOf st).extract (Z+k) W).size:=by rw[xz];lia
 have a0:1<=((arrOf st).extract W (W+n)).size:=by rw[yz];lia
 by_cases z3:na-k<=n
 .rw[av z3];refine ay (wq8 O d1 mg a4 a0 (λx y ex ey=>?_) hl λr ac S2 Fn=>a9 r ac S2 Fn);rw[<-aE]at ex;exact h0 y ey x (aC ex)
 .rw[ao z3];exact ay (wqt O d1 mg a4 a0 h0 hl λr ac S2 Fn=>a9 r ac S2 Fn)
end
end Tm
namespace Tm
open PySem PyProof.Rows
section
variable {M:Model}{A:Ae}{E:Ag->Ab->Prop}{s:Ab}{G:Ai->Prop}{kz:Ai->Int}{kd:SortKind}
structure Wt (kz:Ai->Int)(kd:SortKind)(a₀:Array Ai)(st:Af)(rs:List (List Ai))(S:List Ai):Prop where
 k:kindOf st=kd
 f:failedOf st=none
 a:(arrOf st).Perm a₀
 t:(arrOf st).toList=rs.flatten++S
 p:Pend kz ((pendingOf st).toList.map pr) rs 0
theorem Wt.size {a₀:Array Ai}{st:Af}{rs:List (List Ai)}{S:List Ai}(w:Wt kz kd a₀ st rs S):rs.flatten.length+S.length=a₀.size:=by rw[<-w.a.size_eq,<-aU,w.t,ar]
theorem Wt.pl {a₀:Array Ai}{st:Af}{rs:List (List Ai)}{S:List Ai}(w:Wt kz kd a₀ st rs S):(pendingOf st).size=rs.length:=by have:=w.p.len;simpa using this
theorem Wt.ip {a₀:Array Ai}{st st':Af}{rs:List (List Ai)}{S:List Ai}{lo:Nat}(w:Wt kz kd a₀ st rs S)(hlo:lo=rs.flatten.length)(i:Ip lo st st'):∃S',Wt kz kd a₀ st' rs S'/\S'.length=S.length:=by
 subst hlo;have e:(arrOf st').toList=rs.flatten++(arrOf st').toList.drop rs.flatten.length:=by
  conv=>lhs;rw[<-dh rs.flatten.length (arrOf st').toList]
  congr 1;refine bT λj=>?_;rw[dW];split
  .rename_i h;rw[aE,i.low j h,<-aE,w.t,aT h]
  .rename_i h;rw[aO ⋯]
 refine⟨_,⟨i.k.trans w.k,i.f.trans w.f,i.a.trans w.a,e,by rw[i.p];exact w.p⟩,?_⟩;have z:=i.a.size_eq;have h1:=cK List.length w.t;rw[ar,aU]at h1;rw[bY,aU];lia
theorem wu1 {xs:Array Ai}{P S:List Ai}{n:Nat}(h:xs.toList=P++S)(sr:Srt kz xs P.length (P.length+n))(hn:n<=S.length):SL kz (S.take n):=by
 refine bh.mpr λi j hi F L=>?_;have J:=hi;have D:=F;rw[bg]at J D;refine sr (P.length+i) (P.length+j) _ _ ⋯ ⋯ ⋯ ?_ ?_
 .rw[<-aE,h,aA ⋯,cU,List.getElem_take,ae]
 .rw[<-aE,h,aA ⋯,cU,List.getElem_take,ae]
theorem Wt.push {a₀:Array Ai}{st:Af}{rs:List (List Ai)}{S:List Ai}{lo n:Nat}(w:Wt kz kd a₀ st rs S)(hlo:lo=rs.flatten.length)(h1:1<=n)(hn:n<=S.length)(sl:SL kz (S.take n)):Wt kz kd a₀ (setPending st ((pendingOf st).push (lo,n,0))) (rs++[S.take n]) (S.drop n):=by
 have D:(S.take n).length=n:=by rw[bg];lia
 refine⟨w.k,w.f,w.a,?_,?_⟩
 .show(arrOf st).toList=_;rw[w.t];simp
 .show Pend kz (((pendingOf st).push (lo,n,0)).toList.map pr) _ 0;rw[dE,bj];exact w.p.push (by rw[cJ];exact hlo) D.symm ⋯ sl
theorem Wt.pow {a₀:Array Ai}{st:Af}{rs:List (List Ai)}{S:List Ai}{i pw:Nat}(w:Wt kz kd a₀ st rs S):Wt kz kd a₀ (setPending st ((pendingOf st).modify i λx=>(x.1,x.2.1,pw))) rs S:=by
 refine⟨w.k,w.f,w.a,w.t,?_⟩;show Pend kz (((pendingOf st).modify i λx=>(x.1,x.2.1,pw)).toList.map pr) rs 0;have e:((pendingOf st).modify i λx=>(x.1,x.2.1,pw)).toList.map pr=(pendingOf st).toList.map pr:=by
  refine bT λj=>?_;rw[ax,ax,aE,aE,Array.getElem?_modify];split
  .cases(pendingOf st)[j]? <;> rfl
  .rfl
 rw[e];exact w.p
theorem Yj {a₀:Array Ai}{st:Af}{Q:Unit->Af->Prop}(O:yg M A E s G kz kd)(u:Un kz G a₀)(hk:kindOf st=kd)(hf:failedOf st=none)(ha:arrOf st=a₀)(hp:pendingOf st=#[])
  (h:∀st',(arrOf st').Perm a₀->failedOf st'=none->SL kz (arrOf st').toList->Q () st'):wpS M A E s sortRuns' Q st:=by
 rw[sortRuns'_eq];dsimp only;refine ay (gJ ?_);rw[ha];have w0:Wt kz kd a₀ st [] a₀.toList:=⟨hk,hf,by rw[ha],by rw[ha];rfl,by rw[hp];trivial⟩;have mrg:∀(st1:Af) (rs:List (List Ai)) (S:List Ai) (i:Nat) (R:Bool->Af->Prop),Wt kz kd a₀ st1 rs S->i+1<rs.length->(∀st' rs',Wt kz kd a₀ st' rs' S->rs'.flatten.length=rs.flatten.length->rs'.length+1=rs.length->R true st')->wpS M A E s (mergeAt' i) R st1:=λst1 rs S i R w hi hR =>
  quy O w.k w.f (u.perm w.a) w.t w.p hi λst' rs' k1 k2 k3 k4 k5 k6=>hR st' rs' ⟨k1,k2,by
   refine Array.Perm.trans (dX.mpr ?_) w.a
   rw[k3,w.t]
   exact dc _ k4,k3,k5⟩ k4.length_eq k6
 generalize minRun' a₀.size a₀.size 0=mr;have lp:∀(st1:Af) (rs:List (List Ai)) (S:List Ai) (z pw:Nat) (R:Option Unit×Unit->Af->Prop),Wt kz kd a₀ st1 rs S->(∀st' rs',Wt kz kd a₀ st' rs' S->rs'.flatten.length=rs.flatten.length->R (none,()) st') ->
   ∀f:Nat->Option Unit×Unit->StateT Af Sem (ForInStep (Option Unit×Unit)),(∀i st2 rs2 (R2:ForInStep (Option Unit×Unit)->Af->Prop),Wt kz kd a₀ st2 rs2 S->R2 (.done (none,())) st2->(∀st' rs',Wt kz kd a₀ st' rs' S->rs'.flatten.length=rs2.flatten.length->R2 (.yield (none,())) st')->wpS M A E s (f i (none,())) R2 st2)->wpS M A E s (forIn [:z] ((none,()):Option Unit×Unit) f) R st1:=λst1 rs S z pw R w hR f hf =>
  cw (I:=λi c st'=>c=(none,())/\∃rs',Wt kz kd a₀ st' rs' S/\rs'.flatten.length=rs.flatten.length) (λi c st' _ _ ⟨e,rs',w',l'⟩=>by
   subst e
   exact hf i st' rs' _ w' (hR st' rs' w' l') λst3 rs3 w3 l3=>⟨rfl,rs3,w3,l3.trans l'⟩) (λc st' ⟨e,rs',w',l'⟩=>by
   subst e
   exact hR st' rs' w' l') ⟨rfl,rs,w,rfl⟩
 have tail:∀(st1:Af) (rs:List (List Ai)) (S:List Ai) (lo n x:Nat),Wt kz kd a₀ st1 rs S->lo=rs.flatten.length->1<=n->n<=S.length->SL kz (S.take n)->x<=lo->(∃rs' S',Wt kz kd a₀ (setPending st1 ((pendingOf st1).push (lo,n,0))) rs' S'/\lo+n=rs'.flatten.length/\x+1<=lo+n):=λst1 rs S lo n x w hlo h1 hn sl hx =>
  ⟨_,_,w.push hlo h1 hn sl,by simp only[List.flatten_append,dG,List.flatten_nil,bQ,ar,bg];lia,⋯⟩
 refine ay (eT (cw (I:=λx (c:Option Unit×Nat) st'=>c.1=none/\∃rs S,Wt kz kd a₀ st' rs S/\c.2=rs.flatten.length/\x<=c.2) (Q:=λc st'=>c.1=none/\∃rs,Wt kz kd a₀ st' rs []) ?step ?fin ⟨rfl,[],a₀.toList,w0,rfl,aj _⟩) ?post)
 case fin =>
  rintro⟨r,lo⟩ st' ⟨hr,rs,S,w,e,hx⟩;dsimp only at e hx hr;have z:=w.size;have:S=[]:=eL ⋯;subst this;exact⟨hr,rs,w⟩
 case step =>
  rintro x ⟨r,lo⟩ st1 _ hx ⟨hr,rs,S,w,e,hx2⟩;dsimp only at e hx2 hr ⊢;subst hr;have z:=w.size;by_cases c:lo>=a₀.size
  .rw[av c];have:S=[]:=eL ⋯;subst this;exact aI ⟨rfl,rs,w⟩
  rw[ao c];refine ay (wjd O w.k (u.perm w.a) ⋯ (by rw[w.a.size_eq];lia) λn st2 n1 n2 ip sr=>?_);obtain⟨S2,w2,z2⟩:=w.ip e ip;have sl2:SL kz (S2.take n):=wu1 w2.t (by rw[<-e];exact sr) ⋯;have nS:n<=S2.length:=by lia
  dsimp only;by_cases c2:n<mr
  case' pos =>
   rw[av c2];refine ay (iB (dI ⟨rfl,?_⟩));refine ay (xvd O w2.k (u.perm w2.a) n1 (show n<=min (a₀.size-lo) mr by lia) (by rw[w2.a.size_eq];lia) sr λst3 ip3 sr3=>?_);obtain⟨S3,w3,z3⟩:=w2.ip e ip3;have sl3:SL kz (S3.take (min (a₀.size-lo) mr)):=wu1 w3.t (by rw[<-e];exact sr3) ⋯;have nS3:min (a₀.size-lo) mr<=S3.length:=by lia
   have n3:1<=min (a₀.size-lo) mr:=by lia
   rw[ao ⋯];generalize min (a₀.size-lo) mr=m at sl3 nS3 n3 ⊢;clear sl2 nS sr n2 c2 n1 sr3 ip3
  case' neg =>
   rw[ao c2];obtain⟨st3,rfl⟩:∃st3,st3=st2:=⟨_,rfl⟩;obtain⟨m,rfl⟩:∃m,m=n:=⟨_,rfl⟩;obtain⟨S3,rfl⟩:∃S3,S3=S2:=⟨_,rfl⟩;have w3:=w2;have sl3:=sl2;have nS3:=nS;have n3:=n1
  all_goals
   refine ay (gJ ?_);split
   .refine ay (lp st3 rs S3 a₀.size 0 _ w3 (λst4 rs4 w4 l4=>?_) _ λi st4 rs4 R2 w4 h1 h2=>?_)
    .dsimp only;refine ay (fT ?_);refine ay (fT (aI ?_));exact⟨rfl,tail _ rs4 S3 lo m x w4.pow ⋯ n3 nS3 sl3 hx2⟩
    .try dsimp only
     refine ay (gJ ?_);split
     .split
      .exact aI h1
      .rename_i hsz _;have hs:(pendingOf st4).size>1:=by
        rcases bp 1 (pendingOf st4).size with q|q
        .exact q
        .rw[ao ⋯]at hsz;cases hsz
       have pl4:=w4.pl;refine ay (mrg st4 rs4 S3 _ _ w4 ⋯ λst5 rs5 w5 l5 _=>?_);rw[ao ⋯];exact aI (h2 st5 rs5 w5 l5)
     .exact aI h1
   .refine ay (fT (aI ?_));obtain⟨rs',S',w6,l6,x6⟩:=tail st3 rs S3 lo m x w3 e n3 nS3 sl3 hx2;exact⟨rfl,rs',S',w6,l6,x6⟩
 case post =>
  rintro⟨r,lo⟩ st1 ⟨hr,rs,w⟩;dsimp only at hr ⊢;subst hr;dsimp only;have z:=w.size;have zz:=w.p.size;refine ay (eT (cw (I:=λx (c:Option Unit×Unit) st'=>c=(none,())/\∃rs,Wt kz kd a₀ st' rs []/\(rs.length<=1\/rs.length+x<=a₀.size)) (Q:=λc st'=>c=(none,())/\∃rs,Wt kz kd a₀ st' rs []/\rs.length<=1) ?step2 ?fin2 ⟨rfl,rs,w,.inr (by rw[df]at z;lia)⟩) ?post2)
  case fin2 =>
   rintro c st' ⟨rfl,rs,w,hor⟩;exact⟨rfl,rs,w,⋯⟩
  case step2 =>
   rintro x c st' _ hx ⟨rfl,rs,w,hor⟩
   try dsimp only
   have pl:=w.pl;refine ay (gJ ?_);by_cases c:(pendingOf st').size<=1
   .rw[av c];exact aI ⟨rfl,rs,w,⋯⟩
   rw[ao c];refine ay (mrg st' rs [] _ _ w ?_ λst5 rs5 w5 l5 z5=>?_)
   .have c':2<=rs.length:=by lia
    rw[pl];by_cases c2:rs.length-2>0
    .rw[av c2];split <;> lia
    .rw[ao c2];show(if(false=true) then _ else _)+1<_;rw[ao aF];lia
   .rw[ao ⋯];exact aI ⟨rfl,rs5,w5,.inr ⋯⟩
  case post2 =>
   rintro c st' ⟨rfl,rs,w,hl⟩;dsimp only;refine aI (h st' w.a w.f ?_);rw[w.t,bQ]
   match rs,hl,w.p with
   |[],_,_=>exact List.Pairwise.nil
   |[r],_,p =>
    simp only[dG,List.flatten_nil,bQ];cases hp9:(pendingOf st').toList.map pr with
    |nil=>rw[hp9]at p;exact p.elim
    |cons a b=>rw[hp9]at p;exact p.2.2.2.1
end
end Tm
namespace L2
open PySem PySem.Spec PyProof.Rows PySem.W
def RawD (h:Heap)(d:Aj)(es:Array DictEntry)(ep:Nat):Prop:=∃o,h.get? d=some o/\o.ExactDict/\o.data=.dict es ep
section
variable {prog:Ac}{w:Ah}{A:Ae}{E:Ag->Ab->Prop}{s:Ab}{d:Aj}{es:Array DictEntry}{ep:Nat}
theorem RawD.ty {s:Ab}(x:RawD s.heap d es ep):s.TypeIs (.ref d) "dict" := let ⟨o,ho,hc,_⟩:=x;⟨o,ho,hc.1⟩
theorem RawD.lt {h:Heap}(x:RawD h d es ep):d<h.objs.size:=let ⟨_,ho,_⟩:=x;al ho
theorem RawD.at {h h':Heap}(x:RawD h d es ep)(k:∀o,h.get? d=some o->h'.get? d=some o):RawD h' d es ep:=let ⟨o,ho,r⟩:=x;⟨o,k o ho,r⟩
theorem wyy {Q:Ag->Ab->Prop}(hd:(d==sysModules)=false)(hm:RawD s.heap d es ep)
  (hQ:Q (.ref s.heap.objs.size) { s with heap:=s.heap.push { cls:=.type "dict_keyiterator",data:=.fields #[.ref d,.int 0 0,.int es.size 0,.int ep 0] } }):wpAny (model prog w) A (pyIter (.ref d)) Q E s:=by
 obtain⟨o,D,L,J⟩:=id hm;(refine iQ hm.ty F.slot_dict_iter (cS F.slot_dict_iter hm.ty F.entry_dict_iter ?_ (F.args_dict_iter_1 _)) ;unfold Builtin.«dict.__iter__» ;refine aa ?_ ;unfold Builtin.Dict.dictSlotNone ;refine aa (wpAny_notOrdered_dict hm.ty ?_));(show wpAny _ _ (pure (Value.ref d)) _ _ s ;refine ai ?_ ;show wpAny _ _ (Builtin.Dict.showsAll d >>= _) _ _ s ;unfold Builtin.Dict.showsAll ;rw[ao (by rw[hd];exact aF)]);(refine aa (ai ?_) ;refine aa (gu D J ?_) ;refine aa (jJ D J ?_));refine aa (b8 (ai ⟨_,rfl,"dict_keyiterator",_,⟨_,az _ rfl,rfl⟩,cR.lookup,?_⟩)) ;simpa [rawInt] using hQ
theorem xqk {it:Aj}{i:Nat}{e:DictEntry}{Q:Option Ag->Ab->Prop}(hit:s.heap.IsKeyIter it d i es.size ep)(hm:RawD s.heap d es ep)(hx:es[i]?=some e)
  (hQ:∀h',h'.IsKeyIter it d (i+1) es.size ep->Heap.SameBut it s.heap h'->Q (some e.key) { s with heap:=h' }):wpAny (model prog w) A (pyNext (.ref it)) Q E s:=by
 obtain⟨o,F,hc,D⟩:=id hit ;obtain⟨od,J,ab,U⟩:=id hm;(unfold pyNext ;refine aa (eX (dF (name:=Str.ofString "__next__") hit.typeIs cR (cS cR hit.typeIs gO ?_ (gG _)))) ;refine aa (ai ?_) ;refine aa ?_ ;refine aa ?_);((first | refine aa (dB hit.typeIs (ai ?_)) | refine aa (eD hit.typeIs (ai ?_))) ;refine aa (iA F D ?_) ;simp only[show Builtin.Dict_items.ownsTuple "dict_keyiterator" = false by decide,aG,bB] ;show wpAny _ _ (if(Value.ref d==Value.none)=true then _ else _) _ _ s ;rw[ao (show ¬ ((Value.ref d==Value.none)=true) from aF)] ;refine aa (ai ?_) ;refine aa (gu J U ?_) ;rw[ao (by simp)] ;refine aa (ai ?_) ;refine aa (jJ J U ?_) ;rw[ao (by simp)] ;refine ai ?_);have W:i<es.size:=(bI.mp hx).1 ;have Z:es[i]=e:=(bI.mp hx).2;(simp only[show ¬ ((i:Int)<0) from by lia,bB,bH,bb W] ;refine aa ?_ ;(first | refine aa (dB hit.typeIs (ai ?_)) | refine aa (eD hit.typeIs (ai ?_))) ;refine aa (wpAny_isOneOf_keyiter hit.typeIs ?_) ;show wpAny _ _ (setField (.ref it) 1 (rawInt ((i:Int)+1)) >>= _) _ _ s ;refine aa (gn F D (by simp) ?_));have L:(s.heap.update it (Obj.mapFields (·.setIfInBounds 1 (rawInt ((i:Int)+1))))).IsKeyIter it d (i+1) es.size ep:=⟨_,cM _ F (gC (dU D _)),(iP ..).trans hc,by rw[dU D];simp[rawInt]⟩;(refine aa (bN ?_) ;refine aa (wpAny_isOneOf_keyiter (s:={ s with heap:=s.heap.update it (Obj.mapFields (·.setIfInBounds 1 (rawInt ((i:Int)+1)))) }) L.typeIs ?_) ;show wpAny _ _ (pure es[i].key) _ _ _ ;rw[Z]);exact ai (ai ⟨_,rfl,ai (hQ _ L (cB ..))⟩)
theorem xxc {it:Aj}{i:Nat}{Q:Option Ag->Ab->Prop}(hh:A.handled=none)(hit:s.heap.IsKeyIter it d i es.size ep)(hm:RawD s.heap d es ep)(hx:es.size<=i)(hQ:∀h',Heap.ExtBut it s.heap h'->Q none { s with heap:=h' }):wpAny (model prog w) A (pyNext (.ref it)) Q E s:=by obtain⟨o,F,Z,L⟩:=id hit ;obtain⟨U,D,W,J⟩:=id hm;(unfold pyNext ;refine aa (eX (dF (name:=Str.ofString "__next__") hit.typeIs cR (cS cR hit.typeIs gO ?_ (gG _)))) ;refine aa (ai ?_) ;refine aa ?_ ;refine aa ?_);((first | refine aa (dB hit.typeIs (ai ?_)) | refine aa (eD hit.typeIs (ai ?_))) ;refine aa (iA F L ?_) ;simp only[show Builtin.Dict_items.ownsTuple "dict_keyiterator" = false by decide,aG,bB] ;show wpAny _ _ (if(Value.ref d==Value.none)=true then _ else _) _ _ s ;rw[ao (show ¬ ((Value.ref d==Value.none)=true) from aF)] ;refine aa (ai ?_) ;refine aa (gu D J ?_) ;rw[ao (by simp)] ;refine aa (ai ?_) ;refine aa (jJ D J ?_) ;rw[ao (by simp)] ;refine ai ?_);(simp only[show ¬ ((i:Int)<0) from by lia,bB,bH,dP hx] ;refine aa ?_ ;(first | refine aa (dB hit.typeIs (ai ?_)) | refine aa (eD hit.typeIs (ai ?_))) ;show wpAny _ _ (setField (.ref it) 0 .none >>= _) _ _ s ;refine aa (gn F L (by simp) ?_) ;show wpAny _ _ (newExc (.type "StopIteration") [] >>= _) _ _ _ ;refine aa ?_ ;simp only[newExc,newTuple]);(refine aa (b8 ?_ (by size_fits)) ;refine aa (m:=firstArgMember _ _) (wpAny_of_eq (a:=Value.none) (by first | rfl | (simp only[firstArgMember];rfl)) ?_) ;refine b8 ?_ (by size_fits) ;simp only[raiseNew] ;refine aa (wpAny_handled ?_) ;rw[show A.in1.handled=none from hh] ;refine aa (ai (wpAny_throw ?_)));refine aa (i8 (T := "StopIteration") (b:=true) ⟨_,az _ rfl,rfl⟩ isSubtype_stop (ai (hQ _ (((cB ..).extBut.push _).push _))))
theorem wjk (hh:A.handled=none)(I:Aj)(hne:d≠I):Walks prog w A I [I,d] [I] es.size (λi v=>∃e,es[i]?=some e/\v=e.key) (λi h=>h.IsKeyIter I d i es.size ep/\RawD h d es ep) where
 sub:=λb hb=>by simp at hb;simp[hb]
 frame:=λ_ _ _ st hk=>⟨st.1.at λo e=>hk I (by simp) o e,st.2.at λo e=>hk d (by simp) o e⟩
 item:=λi s Q E hi st hQ=>xqk st.1 st.2 (bb hi) λh' it' sb=>hQ _ h' s.toks ⟨_,bb hi,rfl⟩ ⟨it',st.2.at λo e=>sb.extBut d o hne e⟩ λb o hb e=>sb.extBut b o (λh=>hb (by simp[h])) e
 done:=λs Q E st hQ=>xxc hh st.1 st.2 (aj _) λh' eb=>hQ h' s.toks λb o hb e=>eb b o (λh=>hb (by simp[h])) e
 self:=λ_ _ _ _ st hQ=>wpAny_pyIter_keyiter st.1 hQ
theorem xvj (lo:(d==sysModules)=false):KdlSrc prog w "dict" d d es.size (λi v=>∃e,es[i]?=some e/\v=e.key) (λh=>RawD h d es ep) where
 type:=λ_ hm=>hm.ty
 there:=λ_ hm=>⟨hm.lt,hm.lt⟩
 keep:=λ_ _ hm hk=>hm.at λo e=>hk d (.inl rfl) o e
 notList:=by decide
 notTuple:=by decide
 hint:=λ_ _ _ _ hm hq=>kdl_hint_dict hm.ty hq
 iter:=λ_ _ hh hm=>⟨_,_,(λ_ _ hq=>wyy lo hm hq),wjk hh _ (aB hm.lt),⟨⟨_,az _ rfl,rfl,rfl⟩,hm.at λo e=>ah _ e⟩⟩
theorem qz3 (hd:(d==sysModules)=false):MeetsIn prog w (Builtin.«dict.__len__» ⟨[.ref d],[]⟩) (λ_ R s=>∃es ep,RawD s.heap d es ep/\R (.ok (.ret (.int es.size s.toks))) { s with toks:=s.toks+1 }) :=
 .of_wp λA R s ⟨es,ep,hm,h⟩=>by obtain⟨o,ho,hc,hdat⟩:=hm;(show wpAny _ _ (dictSize d >>= _) _ _ s ;unfold dictSize ;refine aa (aa (gu ho hdat (ai ?_))) ;show wpAny _ _ (Builtin.Dict.pendingCount d >>= _) _ _ s ;refine aa (wpAny_pendingCount_other hd ?_) ;refine wpAny_ret_mkInt ?_ ;rw[Nat.add_zero] ;exact h)
theorem xx2 {Q:Ag->Ab->Prop}(hd:(d==sysModules)=false)(hm:RawD s.heap d es ep)(hfit:(es.size:Int)<2 ^ 63)(h:Q (.int es.size (s.toks+1)) { s with toks:=s.toks+1+1 }):wpAny (model prog w) A (call (.builtin "len") [.ref d]) Q E s:=by refine Calls.call_function_entry kind_len plain_len entry_len (args_len1 _) ?_ ;unfold Builtin.«len» ;refine aa (m:=oneArg "len" _) (ai ?_);refine aa (m:=callSpecial? (.ref d) (Str.ofString "__len__")) (dF (name:=Str.ofString "__len__") hm.ty F.slot_dict_len (call_meetsIn F.slot_dict_len hm.ty F.entry_dict_len (F.args_dict_len_1 _) (qz3 hd) ⟨es,ep,hm,?_⟩));(show wpAny _ _ _ _ _ { s with toks:=s.toks+1 } ;refine aa (bN (ai ?_)) ;refine aa (gP ?_) ;show wpAny _ _ (if((es.size:Nat):Int)<0 then _ else _) _ _ _ ;rw[ao ⋯] ;show wpAny _ _ (if((es.size:Nat):Int)>=2 ^ 63 then _ else _) _ _ _ ;rw[ao ⋯]);exact aa (wpAny_mkInt (ai ⟨_,rfl,h⟩))
end
section
variable {X:Cx}
theorem xw9 {P:Ac}{w:Ah}{H:Hp}{h:Heap}{a:Aj}{kvs:List (List Key×V)}(ok:HOk P w H h)(e:H a=some (.dT kvs)) :
  kvs.length<=sizeLine/\(a==sysModules)=false/\∃(xs:List (List Key×Aj×Ag)) (es:Array DictEntry) (ep:Nat),KT H kvs xs/\RawD h a es ep/\es.toList=xs.map (entryOfKey (tupleKind (vx P w))):=by
 obtain⟨z,y,xs,r,o,es,ep,h1,h2,F,D,J⟩:=(show ObjOk P w H h a (.dT kvs) from ok a _ e);exact⟨z,y,xs,es,ep,r,⟨o,h1,h2,F⟩,D⟩
theorem qkg:kr X (.builtin "len") (λxs H Q=>∃a kvs,xs=[V.ref a]/\H a=some (.dT kvs)/\Q (.int kvs.length) H):=by
 intro pins s σ H xs Z Q I r h;obtain⟨a,kvs,rfl,e,q⟩:=h;obtain⟨u,rfl,F⟩:=jb r;cases F;obtain⟨z,W,ys,es,ep,J,L,U⟩:=xw9 I.hok e;have D:es.size=kvs.length:=by rw[<-aU,U,ag,b7 J]
 have hn:=qwg;exact xx2 W L (by rw[D];lia) ⟨.int kvs.length,H,I.tok _,⟨_,by rw[D]⟩,q⟩
def wub (H:Hp)(kvs:List (List Key×V))(vs:List V):Prop:=Paired (λv (p:List Key×V)=>∃b,v=V.ref b/\H b=some (.tup (p.1.map kV))) vs kvs
theorem ww7 (hc:X.calm=true):kr X (.type "list") (λxs H Q=>∃a kvs,xs=[V.ref a]/\H a=some (.dT kvs)/\∀p vs,H p=none->wub H kvs vs->Q (.ref p) (upd H p (.lst vs))):=by
 intro pins s σ H xs us Q I r h;obtain⟨a,kvs,rfl,e,q⟩:=h;obtain⟨u,rfl,rx⟩:=jb r;cases rx;obtain⟨z,hd,ys,es,ep,ac,an,ad⟩:=xw9 I.hok e;have Z:es.size=kvs.length:=by rw[<-aU,ad,ag,b7 ac]
 refine kdl_call (xvj hd) (I.ok.hd hc) an (by rw[Z];exact z) λh' tk am c' hk hD ab=>?_;have ap:∀(l:List Ag) (J:List (List Key×V)) (U:List (List Key×Aj×Ag)),KT H J U->l.length=J.length->(∀(j:Nat) v,l[j]?=some v->∃y,U[j]?=some y/\v=.ref y.2.1)->∃vs,Vals vs l/\wub H J vs:=by
  intro l J U rr
  induction rr generalizing l with
  |nil =>
   intro L _;cases l with
   |nil=>exact⟨[],.nil,.nil⟩
   |cons _ _=>simp at L
  |@cons p y ps yss hp t ih =>
   intro L hj;cases l with
   |nil=>simp at L
   |cons v l =>
    obtain⟨y',ey,rfl⟩:=hj 0 v rfl;cases ey;obtain⟨vs,F,W⟩:=ih l (by simpa using L) λj u hu=>by obtain⟨y2,e2,e3⟩:=hj (j+1) u (by simpa using hu);exact⟨y2,by simpa using e2,e3⟩
    exact⟨.ref y.2.1::vs,.cons rfl F,.cons ⟨_,rfl,hp.2.1⟩ W⟩
 obtain⟨vs,F,W⟩:=ap am.toList kvs ys ac (by rw[aU,ab.1,Z]) λj v ev=>by
  obtain⟨en,D,rfl⟩:=ab.2 j v (by rw[<-aE];exact ev);rw[<-aE,ad,ax]at D;cases hy:ys[j]? with
  |none=>rw[hy]at D;cases D
  |some y =>
   rw[hy]at D;have e2:=au D;exact⟨y,rfl,by rw[<-e2];rfl⟩
 have hv:vs.length<=sizeLine:=by rw[F.length,aU,ab.1,Z];exact z
 exact⟨.ref _,_,I.laid (t':=tk) hk (aj _) (show ObjOk X.prog X.w _ h' _ (.lst vs) from ⟨hv,am.toList,c',F,by simpa using hD⟩),rfl,q _ _ (I.hok.fresh (aj _)) W⟩
end
end L2
namespace L2
open PySem PySem.Spec PyProof.Rows
theorem wu7 {M:Model}{A:Ae}{E:Ag->Ab->Prop}{s:Ab}{scope:Scope}{globals:Aj}{cl:List (Str×Aj)}{qual:Str}{func:Option Aj}{code:Ag}{outer:Env}{builtins:Aj}{x:Str}{Q:Env->Ab->Prop}(hk:scope.kind=.function)
  (hcf:cellsFrom (s.heap.objs.size+1) scope.names cl=(x,s.heap.objs.size+1)::cl) (hpc:pushCells (s.heap.push { cls:=.type "dict",data:=.dict #[] }) scope.names=(s.heap.push { cls:=.type "dict",data:=.dict #[] }).push { cls:=.type "cell",data:=.cell none })
  (hQ:Q (newEnv scope s.heap.objs.size globals ((x,s.heap.objs.size+1)::cl) qual func code (some outer) builtins) { s with heap:=(s.heap.push { cls:=.type "dict",data:=.dict #[] }).push { cls:=.type "cell",data:=.cell none } }) :
  wpAny M A (newFunctionEnv scope globals cl [] qual func code (some outer) builtins) Q E s:=by
 simp only[newFunctionEnv,Option.isSome_some,cY];refine aa (wpAny_alloc ?_);refine aa (wpAny_layCells _ (λname kind D=>by cases hkc:kind==NameKind.cell <;> simp[hkc]) _ _ _ _ ?_);rw[show({ s with heap:=s.heap.push { cls:=.type "dict",data:=.dict #[] } }:Ab).heap.objs.size=s.heap.objs.size+1 from cX ..,hcf,hpc];exact aa (ai (ai hQ))
def HasAllK (x:Str)(cl:List (Str×Aj)):List (Str×NameKind)->Prop
 |[]=>True
 |(n,k)::r=>(k=.free->∃c,cl.lookup n=some c)/\(k=.cell->n=x)/\HasAllK x cl r
theorem qy9 {x y:Str}{c:Aj}{cl:List (Str×Aj)}(h:∃d,cl.lookup y=some d):∃d,((x,c)::cl).lookup y=some d:=by
 rw[bv];cases y==x with
 |true=>exact⟨c,rfl⟩
 |false=>exact h
theorem HasAllK.has {x:Str}{c:Aj}{cl:List (Str×Aj)}{env:Env}:∀ {ns:List (Str×NameKind)},HasAllK x cl ns->∀ {y:Str} {q:NameKind},q=.cell\/q=.free ->
  (ns.map λ(n,k)=>if(k==NameKind.free&&env.scope.kind==.function&&env.kindOf n==some .cell) then(n,NameKind.cell) else(n,k)).lookup y=some q->∃d,((x,c)::cl).lookup y=some d
 |[],_,_,_,_,e=>by cases e
 |(n,k)::r,h,y,q,hq,e=>by
  have ih:=HasAllK.has (c:=c) (env:=env) h.2.2 (y:=y) hq;rw[aM]at e;by_cases hc:(k==NameKind.free&&env.scope.kind==.function&&env.kindOf n==some .cell)=true
  .have e':=e;dsimp only at e';rw[av hc,bv]at e';cases hb:y==n with
   |true =>
    rw[bR,bR]at hc;rw[eq_of_beq hb];exact qy9 (h.1 (eq_of_beq hc.1.1))
   |false =>
    rw[hb]at e';exact ih e'
  .have e':=e;dsimp only at e';rw[ao hc,bv]at e';cases hb:y==n with
   |true =>
    rw[hb]at e';have ek:k=q:=au e';rw[eq_of_beq hb];rcases hq with rfl|rfl
    .rw[h.2.1 ek];exact⟨c,by rw[bv,fm]⟩
    .exact qy9 (h.1 ek)
   |false =>
    rw[hb]at e';exact ih e'
abbrev yt (X:Cx)(scope:Scope)(cl:List (Str×Aj))(x:Str)(c:Aj)(M:List Nat)(C:Aj)(s2:Ab)(H2:Hp)(fp:List Aj)(pn:List (Aj×Obj)):Cx :=
 { X with N:=Qy X x M,s₀:=s2,H₀:=H2,env:=compEnvC scope ((x,c)::cl) C X.env,outer:=X.stack,ex:=fp,fn:=λy=>y==x,pn:=pn,xe:=λ_ _=>False }
section
variable {X:Cx}{pins:List (Aj×Obj)}{σ:St}{H:Hp}{s2:Ab}{scope:Scope}{cl:List (Str×Aj)}{x:Str}{c:Aj}{M:List Nat}{fp:List Aj}{C:Aj}{h1:Heap}{tk:Nat}
theorem Inv.compK (I:Inv X pins σ H s2)(hc:CapAll X.env cl)(hh:HasAllK x cl scope.names)(hm:CapIx X scope cl M)(hk:scope.kind=.function)(hnd:(Qy X x M).Nodup)(hC:s2.heap.objs.size<C)(hcC:C<c)(hcl:h1.IsCell c none)
  (keep:∀b o,s2.heap.get? b=some o->h1.get? b=some o) (hn:h1.Ns C λ_=>none) (hD:h1.get? s2.heap.objs.size=some { cls:=.type "list",data:=.seq #[] 0 })
  (hfp:∀b∈fp,v6 X pins H b) (hob:∀b∈fp,∃o,s2.heap.get? b=some o) :
  Inv (yt X scope cl x c M C s2 H fp (X.pn++pins)) [] (zc M σ none) (upd H s2.heap.objs.size (.lst [])) { s2 with heap:=h1,toks:=tk }:=by
 have a2:=I.hok.fresh (a:=s2.heap.objs.size) (aj _);have o:=I.ok;have W:∀y c,cl.lookup y=some c->X.env.cells.lookup y=some c:=λy c e=>hc.look e;have U:∀y d,((x,c)::cl).lookup y=some d->(y=x/\d=c)\/(y≠x/\cl.lookup y=some d):=λy d e=>by
  rw[bv]at e;cases D:y==x with
  |true =>
   rw[D]at e;exact .inl ⟨eq_of_beq D,(au e).symm⟩
  |false =>
   rw[D]at e;exact .inr ⟨λz=>by rw[z]at D;simp at D,e⟩
 have am:∀y d,cl.lookup y=some d->d<s2.heap.objs.size:=λy d e=>by obtain⟨v,L,F,J⟩:=I.cell y d (W y d e);exact al F
 have ab:s2.heap.objs.size<c:=bo hC hcC;have an:∀b∈fp,b<s2.heap.objs.size:=λb D=>by obtain⟨L,e⟩:=hob b D;exact al e
 have as:∀b∈fp,b∉frs X.stack:=λb D z=>by
  rcases aQ.mp (I.stkSub b z) with z|z
  .exact(hfp b D).2.1 z
  .exact(hfp b D).2.2.1 z
 have a3:H C=none:=I.hok.fresh (br hC);refine⟨⟨o.mod,hk,o.glob,o.blt,br hC,λy z d F J=>?_,λy hy=>?_,λy d z e=>?_,o.hd,o.frames,.inl rfl,λb D=>⟨aB (bo (an b D) hC),λy d e=>?_⟩,
  λb L e=>I.bs b L e,bK o.bsz I.sz,λb L e z=>?_,as,I.stack,I.stkFree⟩,rfl,I.bare,?_,?_,λy d e=>?_,?_,λy d e=>?_,λp hp=>?_,?_,?_⟩
 .rcases U y d F with⟨Z,h1⟩|⟨Z,h1⟩ <;> rcases U z d J with⟨ap,h2⟩|⟨ap,h2⟩
  .exact Z.trans ap.symm
  .exact absurd (am z d h2) (by rw[h1];exact Nat.not_lt_of_gt ab)
  .exact absurd (am y d h1) (by rw[h2];exact Nat.not_lt_of_gt ab)
  .exact o.inj y z d (W y d h1) (W z d h2)
 .rcases hy with hy|hy
  .exact hh.has (.inl rfl) hy
  .exact hh.has (.inr rfl) hy
 .rcases U y d e with⟨_,h1⟩|⟨Z,h1⟩
  .rw[h1];exact br ab
  .exact absurd (eq_of_beq z) Z
 .rcases U y d e with⟨_,h1⟩|⟨Z,h1⟩
  .rw[h1];exact(aB (bo (an b D) ab)).symm
  .exact(hfp b D).2.2.2.2.1 y d (W y d h1)
 .obtain⟨F,J⟩:=I.bs b L e;exact(hfp b z).2.2.2.1.elim (λq=>o.noex b L e q) λq=>by have:=o.bs b L e;exact be _ (aL (al this.1) q)
 .exact(Un.laid (fs:=frs X.stack) (ex:=fp) (o:=.lst []) keep (aj _) a2)
 .refine⟨_,hn,λi z v F J e3=>?_⟩;cases i with
  |zero=>cases J
  |succ k =>
   have ac:(M.map λj=>X.N.getD j Str.empty)[k]?=some z:=F;have ad:(M.map λj=>(σ[j]?).join)[k]?=some (some v):=J;rw[ax]at ac ad;cases hj:M[k]? with
   |none=>rw[hj]at ac;cases ac
   |some j =>
    rw[hj]at ac ad;obtain⟨y,d,f1,f2,f3,f4⟩:=hm.get hj;have ez:X.N.getD j Str.empty=z:=au ac;rw[af,f1]at ez;have a5:y=z:=ez;subst a5;have nx:y≠x:=λz=>by have h0:=List.nodup_iff_pairwise_ne.mp hnd;have h1:x∉M.map λj=>X.N.getD j Str.empty:=λa1=>(List.pairwise_cons.mp h0).1 x a1 rfl;refine h1 (aS.mpr ⟨j,aC hj,?_⟩);rw[af,f1,<-z];rfl
    have a4:((x,c)::cl).lookup y=some d:=by rw[bv,show(y==x)=false from cy.mpr nx];exact f4
    have ev:(σ[j]?).join=some v:=au ad;have a6:σ[j]?=some (some v):=by
     cases hs:σ[j]? with
     |none=>rw[hs]at ev;cases ev
     |some w' =>
      rw[hs]at ev;have:w'=some v:=ev;rw[this]
    obtain⟨m,a7,hl⟩:=I.loc;obtain⟨u,r,l⟩:=hl j y v f1 a6 (.inr (.inl f2));refine⟨u,r,.inr ⟨.inl f3,d,a4,?_⟩⟩;rcases l with⟨U,_⟩|⟨_,c',lc,li⟩
    .have:X.env.scope.names.lookup y=some .local:=U;rw[f2]at this;cases this
    .rw[W y d f4]at lc;have:=au lc;subst this;exact li.keeps keep
 .rcases U y d e with⟨_,rfl⟩|⟨Z,h1⟩
  .exact⟨none,hcl⟩
  .obtain⟨v,hv⟩:=I.cell y d (W y d h1);exact⟨v,hv.keeps keep⟩
 .show upd H s2.heap.objs.size (.lst []) C=none;rw[qt (fi hC)];exact a3
 .show upd H s2.heap.objs.size (.lst []) d=none;rcases U y d e with⟨_,rfl⟩|⟨Z,h1⟩
  .rw[qt (aB ab).symm];exact I.hok.fresh (br ab)
  .obtain⟨v,L,F,J⟩:=I.cell y d (W y d h1);rw[qt (aB (al F))];exact I.freeC y d (W y d h1)
 .have a0:p∈X.pn++pins:=(aY.mp hp).elim (λz=>z) λz=>nomatch z;obtain⟨F,J,e3,e4,e5⟩:=I.pin p a0;refine⟨keep _ _ F,?_,aB (bo (al F) hC),λz=>?_,e5⟩
  .rw[qt (aB (al F))];exact J
  .rcases aQ.mp (I.stkSub p.1 z) with z|z
   .exact e3 z
   .exact e4 z
 .exact I.hok.laid keep (aj _) ⟨aW _,[],0,.nil,hD⟩
 .show(none::M.map λj=>(σ[j]?).join).length=(x::M.map λj=>X.N.getD j Str.empty).length;rw[aJ,aJ,ag,ag]
theorem Inv.uncompK {pins':List (Aj×Obj)}{σ':St}{H':Hp}{s':Ab}{h':Heap}(I:Inv X pins σ H s2)(hC:s2.heap.objs.size<=C)(hfp:∀b∈fp,v6 X pins H b)
  (J:Inv (yt X scope cl x c M C s2 H fp (X.pn++pins)) pins' σ' H' s') (hs:Heap.SameBut C s'.heap h'):Inv X pins σ H' { s' with heap:=h' }:=by
 have D:=J.base;have U:∀b o,s2.heap.get? b=some o->b≠C:=λb o e=>aB (aL (al e) hC);have st:∀b o,b≠C->s'.heap.get? b=some o->h'.get? b=some o:=λb o n e=>(hs.2 b n).trans e;refine I.call' (s':={ s' with heap:=h' }) (ch:=fp) J.os ⟨λb o e n nb F=>st b o (U b o e) (D.keep b o e n nb F),λb o e n ac F=>?_,D.free,λb o e F=>?_,D.tups,D.frzs,D.tbls⟩ ?_ J.bare λb ab=>?_
 .obtain⟨sl,Z⟩:=D.slot b o e n ac F;exact⟨sl,st b _ (U b o e) Z⟩
 .obtain⟨o',Z⟩:=D.there b o e F;exact⟨o',st b _ (U b o e) Z⟩
 .intro b u W;have fr:H' C=none:=J.free;refine(J.hok b u W).stay (λc v L e=>st c v ?_ e) (λ_ z=>z) λ_ _ z=>z;rcases L with rfl|L
  .intro z;rw[z,fr]at W;cases W
  .intro z;rw[z,fr]at L;cases L
 .obtain⟨q1,q2,q3,q4,q5,q6⟩:=hfp b ab;exact⟨q4,q2,q5,q6⟩
end
section
variable {X:Cx}{elt iter:Expr}{x:Str}{px pos:Pos}{scope:Scope}{cl:List (Str×Aj)}{M:List Nat}{wi:TI}{te:TE}
theorem wyq (hc:X.calm=true)(hclos:closureFor scope X.env=pure cl)(hcap:CapAll X.env cl)(hhas:HasAllK x cl scope.names)(hix:CapIx X scope cl M)(hk:scope.kind=.function)
  (hnames:∀y∈scope.names,y.2=.local->scope.names.lookup y.1=some .local) (hcf:∀n,cellsFrom n scope.names cl=(x,n)::cl) (hpc:∀h,pushCells h scope.names=h.push { cls:=.type "cell",data:=.cell none }) (hx:(relabel scope X.env).names.lookup x=some .cell) (hnd:(Qy X x M).Nodup) (hi:PI X (.Name x px) iter wi)
  (he:∀C s2 H2 fp pn,PE (yt X scope cl x (C+1) M C s2 H2 fp pn) elt te) (hs:∀z,foldedSetIterable iter X.env z=pure z)
  {use:Option (Ag->Sem Unit)} {QQ:Ag->Ab->Prop} {pins:List (Aj×Obj)} {s:Ab} {σ:St} {H:Hp} {Q:VK} {ps:Pos} (I:Inv X pins σ H s) (h:wi σ H λJ H1=>Wk J M te σ H1 Q)
  (fin:∀(C:Aj) (s2 s4:Ab) (H1 H2:Hp) (fp:List Aj),Inv X pins σ H1 s2->s2.heap.objs.size<C->(∀b∈fp,v6 X pins H1 b)->Inv (yt X scope cl x (C+1) M C s2 H1 fp (X.pn++pins)) [] (zc M σ none) H2 s4->Q (.ref s2.heap.objs.size) H2 ->
   compPost (model X.prog X.w) X.A X.xe use QQ (.ref s2.heap.objs.size) C (.ok .next) s4) :
  wpAny (model X.prog X.w) X.A (comprehension (.ListComp elt [⟨.Name x px,iter,[],0⟩] scope pos) scope X.env ps (newList []) false (eval iter X.env) use) QQ X.xe s:=by
 refine fG (use:=use) rfl hs hclos hk hnames ?_;refine thn (hi pins s σ H _ I h) λv s1 h1=>thn h1 λa2 s2 h2=>?_;obtain⟨it,fp,tn,J,H1,rfl,Z,T,t0,U,hR⟩:=h2;have ad:∀b∈fp,∃o,s2.heap.get? b=some o/\∀v,o.data≠.cell v:=T.obj 0 _ t0;obtain⟨W,⟨m0,w0⟩,hW⟩:=hR s2.heap.objs.size (Z.hok.fresh (aj _));refine b8 ?_;refine wu7 (x:=x) hk (hcf _) (hpc _) ?_;dsimp only;generalize hH2:s2.heap.push { cls:=.type "list",dict:=none,data:=.seq ([]:List Ag).toArray }=G2;have hC:G2.objs.size=s2.heap.objs.size+1:=by rw[<-hH2,cX]
 have L:s2.heap.objs.size<G2.objs.size:=by lia
 have kG:∀b o,G2.get? b=some o->((G2.push { cls:=.type "dict",data:=.dict #[] }).push { cls:=.type "cell",data:=.cell none }).get? b=some o:=λb o e=>ah _ (ah _ e);have an:((G2.push { cls:=.type "dict",data:=.dict #[] }).push { cls:=.type "cell",data:=.cell none }).IsCell (G2.objs.size+1) none:=⟨_,by rw[show G2.objs.size+1=(G2.push { cls:=.type "dict",data:=.dict #[] }).objs.size from (cX ..).symm];exact az _ rfl,rfl⟩;have am:((G2.push { cls:=.type "dict",data:=.dict #[] }).push { cls:=.type "cell",data:=.cell none }).Ns G2.objs.size λ_=>none:=(Heap.Ns.new G2 (.type "dict")).keeps λb o e=>ah _ e;generalize (G2.push { cls:=.type "dict",data:=.dict #[] }).push { cls:=.type "cell",data:=.cell none }=h3 at kG an am;have ac:∀b o,s2.heap.get? b=some o->h3.get? b=some o:=λb o e=>kG b o (hH2▸ah _ e);have hD:h3.get? s2.heap.objs.size=some { cls:=.type "list",data:=.seq #[] 0 }:=kG _ _ (hH2▸az _ rfl);have J0:∀tk,Inv (yt X scope cl x (G2.objs.size+1) M G2.objs.size s2 H1 fp (X.pn++pins)) [] (zc M σ none) (upd H1 s2.heap.objs.size (.lst [])) { s2 with heap:=h3,toks:=tk }:=λtk =>
  Z.compK hcap hhas hix hk hnd L (eG _) an ac am hD U λb D=>let ⟨o,e,_⟩:=ad b D;⟨o,e⟩
 have ab:∀b∈fp,b<s2.heap.objs.size:=λb D=>let ⟨o,e,_⟩:=ad b D;al e;have a0:∀(H2:Hp),(∀b∈fp,H2 b=none)->∀b∈fp,v6 (yt X scope cl x (G2.objs.size+1) M G2.objs.size s2 H1 fp (X.pn++pins)) [] H2 b:=λH2 hn b D=>by
  obtain⟨q1,q2,q3,q4,q5,q6⟩:=U b D;refine⟨hn b D,aB (bo (ab b D) L),λz=>?_,.inl D,λy d e=>?_,λp hp=>q6 p ((aY.mp hp).elim (λz=>z) λz=>nomatch z)⟩
  .rcases aQ.mp (Z.stkSub b z) with z|z
   .exact q2 z
   .exact q3 z
  .have F:((x,G2.objs.size+1)::cl).lookup y=some d:=e;rw[bv]at F;cases hb':y==x with
   |true =>
    rw[hb']at F;have:d=G2.objs.size+1:=(au F).symm;rw[this];exact(aB (bo (bo (ab b D) L) (eG _))).symm
   |false =>
    rw[hb']at F;exact q5 y d (hcap.look F)
 have t3:=T.keep 0 _ _ t0 λb _ o e=>ac b o e;have qqh:=λtk=>k9 (e:=.ListComp elt [⟨.Name x px,iter,[],0⟩] scope pos) (k:=0) (acc:=.ref s2.heap.objs.size) (Y:=yt X scope cl x (G2.objs.size+1) M G2.objs.size s2 H1 fp (X.pn++pins)) (V:=λi n H2=>∃ys,W i n ys H2) (Qd:=Q (.ref s2.heap.objs.size)) (REST:=appS elt (.ref s2.heap.objs.size) (compEnvC scope ((x,G2.objs.size+1)::cl) G2.objs.size X.env) _) (post:=compPost (model X.prog X.w) X.A X.xe use QQ (.ref s2.heap.objs.size) G2.objs.size) T hc (λ_ _ z=>z) (compTurn_list1 ..) rfl rfl (xv (i:=0) hnd rfl (.inr hx) (.inl (fm x))) a0 (λi n H2 ⟨ys,w⟩=>by
  obtain⟨hp,hz,as⟩:=hW i n ys H2 w
  refine as.imp id λ⟨ap,hy⟩=>⟨ap,λv H3 yl=>⟨λσ4 H4=>σ4=zc M σ (some v)/\H3=H4,⟨rfl,rfl⟩,λ_ _ e=>?_⟩⟩
  obtain⟨rfl,rfl⟩:=e
  refine⟨Qv M σ v,λa1 s' J=>?_⟩
  exact aZ (Z7 (N:=λzs H5=>∃m',m'<n/\W (i+1) m' zs H5) (λ_ _ z=>z) (he _ _ _ _ _) J hz (hy v H3 yl)) (λr s5 ⟨e,H5,J5,zs,m',hm,w'⟩=>⟨e,H5,J5,m',hm,zs,w'⟩) λ_ _ z=>z)
  (λH2 s4 J4 q=>fin G2.objs.size s2 s4 H1 H2 fp Z L U J4 q) (J0 tk) ⟨[],w0⟩ t3 λb D=>by rw[qt (aB (ab b D))];exact(U b D).1
 exact codeAny_compStart_list (qqh _) (T.self _ 0 _ _ _ t3 (qqh _))
theorem qw3 (hc:X.calm=true)(hclos:closureFor scope X.env=pure cl)(hcap:CapAll X.env cl)(hhas:HasAllK x cl scope.names)(hix:CapIx X scope cl M)(hk:scope.kind=.function)
  (hnames:∀y∈scope.names,y.2=.local->scope.names.lookup y.1=some .local) (hcf:∀n,cellsFrom n scope.names cl=(x,n)::cl) (hpc:∀h,pushCells h scope.names=h.push { cls:=.type "cell",data:=.cell none }) (hx:(relabel scope X.env).names.lookup x=some .cell) (hnd:(Qy X x M).Nodup) (hi:PI X (.Name x px) iter wi)
  (he:∀C s2 H2 fp pn,PE (yt X scope cl x (C+1) M C s2 H2 fp pn) elt te) (hs:autoParam (∀z,foldedSetIterable iter X.env z=pure z) aU3._auto_1) :
  PE X (.ListComp elt [⟨.Name x px,iter,[],0⟩] scope pos) (wz5 M wi te):=by
 intro pins s σ H Q I h;rw[eval_ListComp];refine wyq hc hclos hcap hhas hix hk hnames hcf hpc hx hnd hi he hs (use:=none) I h λC s2 s4 H1 H2 fp Z U W D J=>?_;obtain⟨m,L,_⟩:=D.loc;exact⟨m,L,λh' F=>⟨.ref s2.heap.objs.size,H2,Z.uncompK (br U) W D F,rfl,J⟩⟩
end
end L2
namespace L2
open PySem PySem.Spec PyProof.Rows
theorem wqq {X:Cx}{tg l:Expr}{tl:TE}{K:Aa}(hK:X.K=K)(hl:PE X l tl):PI X tg l (iList K tl):=by subst hK;exact vz hl
def Stay (G:Nat->V->Hp->Prop):Prop:=∀i v H H' p,G i v H->v≠.ref p->(∀b o,b≠p->H b=some o->H' b=some o)->G i v H'
theorem Q2 {M:List Nat}{lo:Int}{n:Nat}{te:TE}{σ:St}{H:Hp}{Q:VK}(G:Nat->V->Hp->Prop)(gs:Stay G)(hn:n<=1000000)
  (he:∀(i:Nat) (H':Hp) (R:VK),i<n->Same H H'->(∀v H'',Same H' H''->G i v H''->(∀b,v=.ref b->H' b=none)->R v H'')->te (zc M σ (some (.int (lo+i)))) H' R)
  (k:∀p ys H',H p=none->Same H H'->H' p=some (.lst ys)->ys.length=n->(∀j v,ys[j]?=some v->G j v H'/\v≠.ref p)->Q (.ref p) H'):Wk (Itr lo n) M te σ H Q:=by
 intro p np;refine⟨λi m ys H2=>i<=n/\m=n-i/\ys.length=i/\Same H H2/\H2 p=some (.lst ys)/\∀j v,ys[j]?=some v->G j v H2/\v≠.ref p,⟨n,aW _,rfl,rfl,Same.upd np,qc,λj v e=>by cases e⟩,?_⟩;rintro i m ys H2 ⟨hi,rfl,hy,sm,hp,hG⟩;refine⟨hp,?_,?_⟩
 .have:(1000000:Nat)<sizeLine:=by decide
  lia
 .by_cases hlt:i<n
  .refine .inr ⟨hlt,?_⟩;rintro v H3 ⟨rfl,rfl⟩;refine he i _ _ hlt sm λv J D Z fr=>⟨D _ _ hp,n-(i+1),⋯,⋯,rfl,by rw[ar,hy];rfl,λb o e=>?_,qc,λj w e=>?_⟩
   .rw[qt (q9 e np)];exact D _ _ (sm _ _ e)
   .have L:v≠.ref p:=λz=>by have:=fr p z;rw[hp]at this;cases this
    have st:∀b o,b≠p->J b=some o->upd J p (.lst (ys++[v])) b=some o:=λb o F e=>by rw[qt F];exact e
    rcases(bp j ys.length) with z|z
    .rw[aT z]at e;obtain⟨g,U⟩:=hG j w e;exact⟨gs j w _ _ p g U λb o F e=>st b o F (D b o e),U⟩
    .rw[aA z]at e;have W:j=i:=by
      rcases bp (j-ys.length) 1 with y|y
      .lia
      .rw[aO (by simpa using y)]at e;cases e
     subst W;rw[show j-ys.length=0 by lia]at e;have:v=w:=au e;subst this;exact⟨gs j v J _ p Z L st,L⟩
  .have:i=n:=by lia
   subst this;exact .inl ⟨aj _,k p ys _ np sm hp hy hG⟩
theorem Qz {K:Aa}{M:List Nat}{a:Aj}{xs:List V}{te:TE}{σ:St}{H:Hp}{Q:VK}(G:Nat->V->Hp->Prop)(gs:Stay G)(hS:SqL K H a xs)(hn:xs.length<=1000000)
  (he:∀(i:Nat) (x:V) (H':Hp) (R:VK),xs[i]?=some x->Same H H'->(∀v H'',Same H' H''->G i v H''->(∀b,v=.ref b->H' b=none)->R v H'')->te (zc M σ (some x)) H' R)
  (k:∀p ys H',H p=none->Same H H'->H' p=some (.lst ys)->ys.length=xs.length->(∀j v,ys[j]?=some v->G j v H'/\v≠.ref p)->Q (.ref p) H'):Wk (Itl K a) M te σ H Q:=by
 intro p np;refine⟨λi m ys H2=>i<=xs.length/\m=xs.length-i/\ys.length=i/\Same H H2/\H2 p=some (.lst ys)/\∀j v,ys[j]?=some v->G j v H2/\v≠.ref p,⟨xs.length,aW _,rfl,rfl,Same.upd np,qc,λj v e=>by cases e⟩,?_⟩;rintro i m ys H2 ⟨hi,rfl,hy,sm,hp,hG⟩;have L:SqL K H2 a xs:=Same.sql sm hS;refine⟨hp,?_,?_⟩
 .have:(1000000:Nat)<sizeLine:=by decide
  lia
 .by_cases hlt:i<xs.length
  .have J:xs[i]?=some xs[i]:=ae hlt;refine .inr ⟨⟨xs,_,L,J⟩,?_⟩;rintro v H3 ⟨rfl,hv⟩;have e:=hv xs L;rw[J]at e;have e':=au e;subst e';refine he i _ _ _ J sm λv U D g4 fr=>⟨D _ _ hp,xs.length-(i+1),⋯,⋯,rfl,by rw[ar,hy];rfl,λb o e=>?_,qc,λj w e=>?_⟩
   .rw[qt (q9 e np)];exact D _ _ (sm _ _ e)
   .have W:v≠.ref p:=λz=>by have:=fr p z;rw[hp]at this;cases this
    have st:∀b o,b≠p->U b=some o->upd U p (.lst (ys++[v])) b=some o:=λb o F e=>by rw[qt F];exact e
    rcases(bp j ys.length) with z|z
    .rw[aT z]at e;obtain⟨g,Z⟩:=hG j w e;exact⟨gs j w _ _ p g Z λb o F e=>st b o F (D b o e),Z⟩
    .rw[aA z]at e;have hj:j=i:=by
      rcases bp (j-ys.length) 1 with y|y
      .lia
      .rw[aO (by simpa using y)]at e;cases e
     have e3:[v][j-ys.length]?=some w:=by assumption
     subst hj;rw[show j-ys.length=0 by lia]at e3;have:v=w:=au e3;subst this;exact⟨gs j v U _ p g4 W st,W⟩
  .have ab:i=xs.length:=by lia
   subst ab;exact .inl ⟨⟨xs,L,aj _⟩,k p ys _ np sm hp hy hG⟩
theorem wwp {K:Aa}{M:List Nat}{a:Aj}{xs:List V}{te:TE}{σ:St}{H:Hp}{Q:VK}(f:V->V)(hf:∀x b,f x≠.ref b)(hS:SqL K H a xs)(hn:xs.length<=1000000)
  (he:∀(x:V) (H':Hp) (R:VK),x∈xs->Same H H'->(∀H'',Same H' H''->R (f x) H'')->te (zc M σ (some x)) H' R)
  (k:∀p H',H p=none->Same H H'->H' p=some (.lst (xs.map f))->Q (.ref p) H'):Wk (Itl K a) M te σ H Q:=by
 refine Qz (λi v _=>∃x,xs[i]?=some x/\v=f x) (λi v H H' p g _ _=>g) hS hn (λi x H' R D s L=>he x H' R (aC D) s λH'' J=>L _ _ J ⟨x,D,rfl⟩ λb e=>absurd e (hf x b)) λp ys H' np s F W U=>?_;have e:ys=xs.map f:=by
  refine bT λj=>?_;rw[ax];cases hj:ys[j]? with
  |none =>
   have:xs[j]?=none:=aO (by have:=fC.mp hj;lia);rw[this];rfl
  |some v =>
   obtain⟨⟨x,D,rfl⟩,_⟩:=U j v hj;rw[D];rfl
 rw[e]at F;exact k p H' np s F
theorem qyr {M:List Nat}{lo:Int}{n:Nat}{te:TE}{σ:St}{H:Hp}{Q:VK}(f:Nat->V)(hf:∀x b,f x≠.ref b)(hn:n<=1000000)
  (he:∀(i:Nat) (H':Hp) (R:VK),i<n->Same H H'->(∀H'',Same H' H''->R (f i) H'')->te (zc M σ (some (.int (lo+i)))) H' R)
  (k:∀p H',H p=none->Same H H'->H' p=some (.lst ((List.range n).map f))->Q (.ref p) H'):Wk (Itr lo n) M te σ H Q:=by
 refine Q2 (λi v _=>v=f i) (λi v H H' p g _ _=>g) hn (λi H' R hi s L=>he i H' R hi s λH'' F=>L _ _ F rfl λb e=>absurd e (hf i b)) λp ys H' np s D W U=>?_;have e:ys=(List.range n).map f:=by
  refine bT λj=>?_;rw[ax];cases hj:ys[j]? with
  |none =>
   have:n<=j:=by have:=fC.mp hj;lia
   rw[aO (by rw[aH];exact this)];rfl
  |some v =>
   have J:j<n:=by have:=(ak.mp hj).1;lia
   rw[bA J,(U j v hj).1];rfl
 rw[e]at D;exact k p H' np s D
end L2
namespace L2
open PySem PySem.Spec PyProof.Rows
theorem uy:bootBuiltins "sum" = some (.builtin "sum"):=by decide +kernel
section
variable {X:Cx}{K:Aa}
theorem yk (hK:X.K=K):IxR X (wwd K):=by subst hK;exact zg
theorem W3 (hK:X.K=K):kr X (.builtin "len") (λxs H Q=>∃p ys,xs=[.ref p]/\(SqL K H p ys\/SqT K H p ys)/\Q (.int ys.length) H):=by subst hK;exact xf
theorem qv1 (ns:List Int):∀n,preSum (λi=>ns.getD i 0) n=(ns.take n).sum
 |0=>by simp[preSum]
 |n+1=>by
  rw[preSum,qv1 ns n,List.take_succ];cases e:ns[n]? with
  |none=>simp[af,e]
  |some v=>simp[af,e]
theorem v8 (hK:X.K=K)(hc:X.calm=true):kr X (.builtin "sum") (λxs H Q=>∃(p:Aj) (ns:List Int),xs=[.ref p]/\SqL K H p (ns.map V.int)/\Q (.int ns.sum) H):=by
 subst hK;intro pins s σ H xs us Q I r h;obtain⟨p,ns,rfl,hS,q⟩:=h;obtain⟨u,rfl,F⟩:=jb r;cases(show u=Value.ref p from F);obtain⟨D,J,⟨o,n,e1,e2,e3,e4⟩,hz⟩:=I.list hS;have W:s.heap.IsList p D.toArray:=⟨o,e1,e2,n,e4⟩;have L:p<s.heap.objs.size:=al e1;have U:D.length=ns.length:=by rw[<-J.length,ag]
 refine call_sum_walkG (fZ W ?_);refine⟨s.heap.objs.size,_,_,_,_,_,λi=>ns.getD i 0,rfl,Walks.list (A:=X.A.in1) (I.ok.hd hc) _ p (aB L) D.toArray,⟨⟨_,az _ rfl,rfl,rfl⟩,W.push _⟩,λb hb=>?_,λi v hP=>?_,λh' tk t' hk=>?_⟩
 .rcases aQ.mp hb with z|z
  .rw[z,cX];exact eG _
  .rw[aV.mp z,cX];exact ff L
 .have hv:D[i]?=some v:=by simpa using hP
  have hi:i<(ns.map V.int).length:=by rw[ag,<-U];exact(ak.mp hv).1
  obtain⟨u,Z,F⟩:=J.get (i:=i) (ae hi);rw[hv]at Z;cases Z;rw[gF]at F;obtain⟨t,rfl⟩:=F;rw[ag]at hi;exact⟨t,by show Value.int ns[i] t=Value.int (ns.getD i 0) t;rw[af,ae hi];rfl⟩
 .have e:preSum (λi=>ns.getD i 0) D.toArray.size=ns.sum:=by rw[qv1,aq,U,bD]
  rw[e];refine⟨.int _,H,I.kept λb ob e=>hk b ob (λhm=>?_) (ah _ e),⟨t',rfl⟩,q⟩;have z:b=s.heap.objs.size:=by simpa using hm
  exact be _ (z▸al e)
end
def zr (n:Nat)(g:Nat->Int):List Int:=(List.range n).map g
theorem Wq (n:Nat)(g:Nat->Int):(zr n g).length=n:=by unfold zr;rw[ag,aH]
theorem qx1 {n i:Nat}{g:Nat->Int}(h:i<n):(zr n g)[i]?=some (g i):=by unfold zr;rw[ax,bA h];rfl
theorem qxm (n:Nat)(g:Nat->Int):(zr n g).map V.int=(List.range n).map λi=>V.int (g i):=by unfold zr;rw[bF];rfl
theorem wxu {n:Nat}{f g:Nat->Int}(h:∀i,i<n->f i=g i):zr n f=zr n g:=eF λi hi=>h i (aw.mp hi)
def MatAt (H:Hp)(p:Aj)(n:Nat)(f:Nat->Nat->Int):Prop:=∃ys,H p=some (.lst ys)/\ys.length=n/\∀i v,ys[i]?=some v->∃q,v=.ref q/\H q=some (.lst ((zr n (f i)).map V.int))
theorem MatAt.same {H H':Hp}{p:Aj}{n:Nat}{f:Nat->Nat->Int}(h:MatAt H p n f)(s:Same H H'):MatAt H' p n f:=by obtain⟨ys,e,l,r⟩:=h;exact⟨ys,s _ _ e,l,λi v z=>let ⟨q,a,b⟩:=r i v z;⟨q,a,s _ _ b⟩⟩
theorem MatAt.row {H:Hp}{p:Aj}{n:Nat}{f:Nat->Nat->Int}(h:MatAt H p n f){ys:List V}(e:H p=some (.lst ys)){i:Nat}(hi:i<n):∃q,ys[i]?=some (.ref q)/\H q=some (.lst ((zr n (f i)).map V.int)):=by obtain⟨F,D,l,r⟩:=h;rw[e]at D;cases D;have z:ys[i]?=some ys[i]:=ae ⋯;obtain⟨q,a,b⟩:=r i _ z;exact⟨q,by rw[z,a],b⟩
def kf (n:Nat)(g:Nat->Int):Int:=(zr n g).sum
theorem vg (n:Nat)(g:Nat->Int):kf (n+1) g=kf n g+g n:=by unfold kf zr;rw[cG,bj,gU];simp
theorem xxz (n:Nat)(g h:Nat->Int):kf n (λi=>g i+h i)=kf n g+kf n h:=by
 induction n with
 |zero=>rfl
 |succ n ih=>rw[vg,vg,vg,ih];lia
theorem Y0 (n:Nat)(g:Nat->Int)(h:∀i,i<n->g i=0):kf n g=0:=by
 induction n with
 |zero=>rfl
 |succ n ih=>rw[vg,ih λi hi=>h i ⋯,h n ⋯];rfl
theorem ut {n:Nat}{g h:Nat->Int}(e:∀i,i<n->g i=h i):kf n g=kf n h:=by unfold kf;rw[wxu e]
theorem qur {n i:Nat}(hi:i<n)(g:Nat->Int):kf n (λk=>(if k=i then 1 else 0)*g k)=g i:=by
 induction n with
 |zero=>lia
 |succ n ih =>
  rw[vg];rcases(by lia:i<n\/i=n) with z|z
  .rw[ih z,ao ⋯];lia
  .subst z;rw[av rfl,Y0 _ _ λk D=>by rw[ao ⋯,Int.zero_mul]];lia
theorem wq9 {α:Type}(n:Nat)(F:α->Nat->Int):∀L:List α,(L.map λv=>kf n (F v)).sum=kf n λk=>(L.map λv=>F v k).sum
 |[]=>by rw[d9,List.sum_nil,Y0];intro i _;rfl
 |v::L=>by rw[aM,cH,wq9 n F L,<-xxz];refine ut λk _=>?_;rw[aM,cH]
def zf (cov:Nat->List Int):Nat->Nat->Nat->Int
 |0=>λi j=>if j=i then 1 else 0
 |m+1=>λi j=>((cov i).map λv=>zf cov m v.toNat j).sum
end L2
namespace L2
open PySem PySem.Spec PyProof.Rows
def qyy (X:Cx)(x y:Str)(M:List Nat):List Str:=x::y::M.map λj=>X.N.getD j Str.empty
def zx (M:List Nat)(σ:St)(o o':Option V):St:=o::o'::M.map λj=>(σ[j]?).join
abbrev x9 (X:Cx)(scope:Scope)(cl:List (Str×Aj))(x y:Str)(M:List Nat)(C:Aj)(s2:Ab)(H2:Hp)(fp:List Aj)(pn:List (Aj×Obj)):Cx :=
 { X with N:=qyy X x y M,s₀:=s2,H₀:=H2,env:=compEnvC scope cl C X.env,outer:=X.stack,ex:=fp,fn:=λ_=>false,pn:=pn,xe:=λ_ _=>False }
section
variable {X:Cx}{pins:List (Aj×Obj)}{σ:St}{H:Hp}{s2:Ab}{scope:Scope}{cl:List (Str×Aj)}{x y:Str}{M:List Nat}{fp:List Aj}{C:Aj}{h1:Heap}{tk:Nat}
theorem Inv.comp2 (I:Inv X pins σ H s2)(hc:CapAll X.env cl)(hh:HasAll cl scope.names)(hm:CapIx X scope cl M)(hk:scope.kind=.function)(hC:s2.heap.objs.size<C)
  (keep:∀b o,s2.heap.get? b=some o->h1.get? b=some o) (hn:h1.Ns C λ_=>none) (hD:h1.get? s2.heap.objs.size=some { cls:=.type "list",data:=.seq #[] 0 })
  (hfp:∀b∈fp,v6 X pins H b) (hob:∀b∈fp,∃o,s2.heap.get? b=some o) :
  Inv (x9 X scope cl x y M C s2 H fp (X.pn++pins)) [] (zx M σ none none) (upd H s2.heap.objs.size (.lst [])) { s2 with heap:=h1,toks:=tk }:=I.compG (xs:=[x,y]) hc hh hm hk hC keep hn ⟨aW _,[],0,.nil,hD⟩ hfp hob
theorem Inv.uncomp2 {pins':List (Aj×Obj)}{σ':St}{H':Hp}{s':Ab}{h':Heap}(I:Inv X pins σ H s2)(hC:s2.heap.objs.size<=C)(hfp:∀b∈fp,v6 X pins H b)
  (J:Inv (x9 X scope cl x y M C s2 H fp (X.pn++pins)) pins' σ' H' s') (hs:Heap.SameBut C s'.heap h'):Inv X pins σ H' { s' with heap:=h' }:=by
 have D:=J.base;have U:∀b o,s2.heap.get? b=some o->b≠C:=λb o e=>aB (aL (al e) hC);have st:∀b o,b≠C->s'.heap.get? b=some o->h'.get? b=some o:=λb o n e=>(hs.2 b n).trans e;refine I.call' (s':={ s' with heap:=h' }) (ch:=fp) J.os ⟨λb o e n nb F=>st b o (U b o e) (D.keep b o e n nb F),λb o e n ac F=>?_,D.free,λb o e F=>?_,D.tups,D.frzs,D.tbls⟩ ?_ J.bare λb ab=>?_
 .obtain⟨sl,Z⟩:=D.slot b o e n ac F;exact⟨sl,st b _ (U b o e) Z⟩
 .obtain⟨o',Z⟩:=D.there b o e F;exact⟨o',st b _ (U b o e) Z⟩
 .intro b u W;have fr:H' C=none:=J.free;refine(J.hok b u W).stay (λc v L e=>st c v ?_ e) (λ_ z=>z) λ_ _ z=>z;rcases L with rfl|L
  .intro z;rw[z,fr]at W;cases W
  .intro z;rw[z,fr]at L;cases L
 .obtain⟨q1,q2,q3,q4,q5,q6⟩:=hfp b ab;exact⟨q4,q2,q5,q6⟩
end
theorem xzz {prog:Ac}{w:Ah}{A:Ae}{R:Result->Ab->Prop}{s:Ab}{elt t0 i0 t1 i1:Expr}{scope:Scope}{pos:Pos}{it acc:Ag}{env:Env}{ifs:List Expr}
  (h1:codeAny (model prog w) A (Code.compLoop (elt.ListComp [⟨t0,i0,[],0⟩,⟨t1,i1,ifs,0⟩] scope pos) 1 it acc env) R s)
  (h2:∀(E:Ag->Ab->Prop),wpAny (model prog w) A (pyIter it) (λit' s'=>codeAny (model prog w) A (Code.compLoop (elt.ListComp [⟨t0,i0,[],0⟩,⟨t1,i1,ifs,0⟩] scope pos) 1 it' acc env) R s') E s) :
  codeAny (model prog w) A (Code.compStart (elt.ListComp [⟨t0,i0,[],0⟩,⟨t1,i1,ifs,0⟩] scope pos) 1 it acc env) R s:=by
 refine codeAny_of_tree ?_;show wpAny (model prog w) _ ((compStart (elt.ListComp [⟨t0,i0,[],0⟩,⟨t1,i1,ifs,0⟩] scope pos) 1 it acc env).onRaise (λz=>do noteFrame z env;standAt theWindowsPlace)) _ _ s;refine wpAny_onRaise ?_;unfold compStart;rw[ao (show ¬ ((clausesOf (elt.ListComp [⟨t0,i0,[],0⟩,⟨t1,i1,ifs,0⟩] scope pos))[1]?.elim false λx=>x.is_async != 0)=true from aF)];refine aa (fu ?_);split
 .exact ai ⟨rfl,h1⟩
 .refine aa (dI ?_);show wpAny _ _ (standAt i1.pos >>= λ_=>pyIter it >>= λz=>again (Code.compLoop (elt.ListComp [⟨t0,i0,[],0⟩,⟨t1,i1,ifs,0⟩] scope pos) 1 z acc env)) _ _ s;refine aa (cV (aa (aZ (h2 _) (λz s' D=>ai ⟨rfl,D⟩) λ_ _ e=>e)))
section
variable {X:Cx}{elt iter iter2:Expr}{x y:Str}{px py pos:Pos}{scope:Scope}{cl:List (Str×Aj)}{M:List Nat}{wi wi2:TI}{te:TE}
end
section
variable {X:Cx}{elt iter iter2:Expr}{x y2:Str}{px py2 pos:Pos}{scope:Scope}{cl:List (Str×Aj)}{M:List Nat}{wi wi2:TI}{te:TE}
end
end L2
namespace L2
open PySem PySem.Spec PyProof.Rows
theorem Z8 {X:Cx}{K:Aa}(hK:X.K=K):IxR X (rIxT K):=by subst hK;exact qwt
end L2
namespace L2
open PySem PySem.Spec PyProof.Rows
section
variable {X:Cx}{pins:List (Aj×Obj)}{σ:St}{H:Hp}{s:Ab}{h':Heap}{ch:List Aj}
theorem Inv.turnedL {tk:Nat}(I:Inv X pins σ H s)(hk:∀b u,b∉ch->s.heap.get? b=some u->h'.get? b=some u)(hf:∀b∈ch,v6 X pins H b):Inv X pins σ H { s with heap:=h',toks:=tk }:=by
 refine I.call' (s':={ s with heap:=h',toks:=tk }) (ch:=ch) rfl ⟨λb o e n _ D=>hk b o D e,λb o e n _ D=>⟨o.slots,hk b o D e⟩,λb o e n _=>n,λb o e D=>⟨o,hk b o D e⟩,λ_ _ e=>e,λ_ _ _ e=>e,λb ps e=>⟨#[],by rw[e];simp⟩⟩ ?_ I.bare λb hb=>?_
 .intro b u J;refine(I.hok b u J).stay (λc v F e=>hk c v (λz=>?_) e) (λ_ z=>z) λ_ _ z=>z;have:=(hf c z).1;rcases F with rfl|F
  .rw[this]at J;cases J
  .rw[this]at F;cases F
 .obtain⟨q1,Z,q3,W,U,L⟩:=hf b hb;exact⟨W,Z,U,L⟩
theorem Inv.turnedT {tk:Nat}{o:HO}{ob:Obj}(I:Inv X pins σ H s)(hk:∀b u,b∉ch->s.heap.get? b=some u->h'.get? b=some u)(hn:h'.get? s.heap.objs.size=some ob)(hf:∀b∈ch,v6 X pins H b)(hc:∀b∈ch,b≠s.heap.objs.size)
  (ok:ObjOk X.prog X.w (upd H s.heap.objs.size o) (s.heap.push ob) s.heap.objs.size o) (fr:ob.isFreed=false):Inv X pins σ (upd H s.heap.objs.size o) { s with heap:=h',toks:=tk }:=by
 have L:Inv X pins σ (upd H s.heap.objs.size o) { s with heap:=s.heap.push ob,toks:=tk }:=I.laid (t':=tk) (λb u e=>ah _ e) (aj _) ok;refine Inv.turnedL (s:={ s with heap:=s.heap.push ob,toks:=tk }) (ch:=ch) L (λb u J e=>?_) λb D=>?_
 .rcases Heap.get?_push_cases e with⟨rfl,rfl⟩|e
  .exact hn
  .exact hk b u J e
 .obtain⟨F,q⟩:=hf b D;exact⟨by rw[qt (hc b D)];exact F,q⟩
theorem xvh {x y:V}{u v:Ag}(I:Inv X pins σ H s)(rx:RelV x u)(ry:RelV y v):ObjOk X.prog X.w (upd H s.heap.objs.size (.tup [x,y])) (s.heap.push { cls:=.type "tuple",data:=.seq #[u,v] }) s.heap.objs.size (.tup [x,y]):=by refine⟨by show 2<=sizeLine;decide,[u,v],.cons rx (.cons ry .nil),?_⟩;exact⟨_,az _ rfl,rfl,_,rfl⟩
end
def ItZ (K:Aa)(a b:Aj)(xs ys:List V):It :=
 ⟨λi H=>SqL K H a xs/\SqL K H b ys/\i<xs.length/\i<ys.length,λi H v H'=>∃q x y,H q=none/\v=.ref q/\xs[i]?=some x/\ys[i]?=some y/\H'=upd H q (.tup [x,y]),λi H=>SqL K H a xs/\SqL K H b ys/\(xs.length<=i\/ys.length<=i)⟩
theorem wuw {P:Ac}{w:Ah}{K:Aa}{es:List Expr}{k:Nat}{pos:Pos}(a b z TI TO i1 i2:Aj)(xs ys:List V)(ap:ZipApart z TI TO i1 i2 a b):Turn P w K (.Tuple es k pos) (ItZ K a b xs ys) [z,TI,TO,i1,i2] z
  (λi h=>IsZip h z TI TO .none/\IsPair h TI (.ref i1) (.ref i2)/\(∃u v,IsPair h TO u v)/\h.IsListIter i1 a i/\h.IsListIter i2 b i) where
 mem:=by simp
 obj:=λi h st c hc=>by
  obtain⟨h1,h2,⟨u,v,h3⟩,⟨o4,h4,c4,d4⟩,⟨o5,h5,c5,d5⟩⟩:=st;have hc':c=z\/c=TI\/c=TO\/c=i1\/c=i2:=by simpa using hc
  rcases hc' with rfl|rfl|rfl|rfl|rfl
  .exact⟨_,h1,λv z=>by cases z⟩
  .exact⟨_,h2,λv z=>by cases z⟩
  .exact⟨_,h3,λv z=>by cases z⟩
  .exact⟨_,h4,λv z=>by rw[d4]at z;cases z⟩
  .exact⟨_,h5,λv z=>by rw[d5]at z;cases z⟩
 keep:=λi h h' st k=>by obtain⟨h1,h2,⟨u,v,h3⟩,h4,h5⟩:=st;exact⟨k z (by simp) _ h1,k TI (by simp) _ h2,⟨u,v,k TO (by simp) _ h3⟩,h4.at λo e=>k i1 (by simp) o e,h5.at λo e=>k i2 (by simp) o e⟩
 item:=by
  intro X hP hw hK hc i pins s σ H E I hf st hg;subst hP hw hK;obtain⟨hq1,hq2,l1,l2⟩:=hg;obtain⟨its,rv,p,hz⟩:=I.list hq1;obtain⟨its2,rv2,p2,hz2⟩:=I.list hq2;have e1:xs[i]?=some xs[i]:=ae l1;have e2:ys[i]?=some ys[i]:=ae l2;obtain⟨u,hu,ru⟩:=rv.get e1;obtain⟨v,hv,rv'⟩:=rv2.get e2;obtain⟨h1,h2,⟨a0,b0,h3⟩,h4,h5⟩:=st;refine wpAny_pyNext_zip_item ap h1 h2 h3 h4 h5 p.isList p2.isList (x:=u) (y:=v) (by simpa using hu) (by simpa using hv) λh' g1 g2 g3 g4 g5 g6 g7=>?_;refine⟨_,rfl,wpAny_letOwnedTupleGo_zip (s:={ s with heap:=h' }) g1 λh'' f1 f2=>?_⟩;have hsz:∀c,c∈[z,TI,TO,i1,i2]->c≠s.heap.objs.size:=λc hc e=>by
   have hc':c=z\/c=TI\/c=TO\/c=i1\/c=i2:=by simpa using hc
   have hlt:c<s.heap.objs.size:=by
    rcases hc' with rfl|rfl|rfl|rfl|rfl
    .exact al h1
    .exact al h2
    .exact al h3
    .obtain⟨o,e,_⟩:=h4;exact al e
    .obtain⟨o,e,_⟩:=h5;exact al e
   exact be _ (e▸hlt)
  have keep:∀c o,c∉[z,TI,TO,i1,i2]->s.heap.get? c=some o->h''.get? c=some o:=λc o nc e=>by simp only[aQ,i9,or_false,not_or]at nc;rw[f2.2 c nc.1];exact g7 c o nc.1 nc.2.2.1 nc.2.2.2.1 nc.2.2.2.2 e
  have keepz:∀c o,c≠z->h'.get? c=some o->h''.get? c=some o:=λc o nc e=>(f2.2 c nc).trans e;have new:h''.get? s.heap.objs.size=some { cls:=.type "tuple",data:=.seq #[u,v] }:=keepz _ _ (dY (hsz z (by simp))) g5;have hTI:h''.get? TI=some { cls:=.type "tuple",data:=.seq #[.ref i1,.ref i2] }:=by refine keepz _ _ ap.TIz ?_;exact g7 TI _ ap.TIz ap.TITO ap.TIi1 ap.TIi2 h2
  refine⟨.ref s.heap.objs.size,_,Inv.turnedT (s:=s) (ch:=[z,TI,TO,i1,i2]) (tk:=s.toks) I keep new hf hsz (xvh I ru rv') rfl,rfl,⟨_,_,_,I.hok.fresh (aj _),rfl,e1,e2,rfl⟩,⟨f1,hTI,⟨u,v,keepz _ _ ap.TOz g2⟩,g3.at λo e=>keepz _ _ ap.i1z e,g4.at λo e=>keepz _ _ ap.i2z e⟩,λc hc=>?_⟩;rw[qt (hsz c hc)];exact(hf c hc).1
 done:=by
  intro X hP hw hK hc i pins s σ H E I hf st hg;subst hP hw hK;obtain⟨hq1,hq2,le⟩:=hg;obtain⟨its,rv,p,hz⟩:=I.list hq1;obtain⟨its2,rv2,p2,hz2⟩:=I.list hq2;have hl:=rv.length;have hl2:=rv2.length;obtain⟨h1,h2,⟨a0,b0,h3⟩,h4,h5⟩:=st;refine wpAny_pyNext_zip_end (I.ok.hd hc) ap h1 h2 h3 h4 h5 p.isList p2.isList ?_ λh' g=>⟨rfl,Inv.turnedL (ch:=[z,TI,TO,i1,i2]) (tk:=s.toks) I (λc o nc e=>?_) hf⟩
  .rcases le with le|le
   .exact .inl (dP (by rw[aq];lia))
   .exact .inr (dP (by rw[aq];lia))
  .simp only[aQ,i9,or_false,not_or]at nc;exact g c o nc.1 nc.2.2.1 nc.2.2.2.1 nc.2.2.2.2 e
 self:=λ_ _ _ _ _ st h=>wpAny_pyIter_zip st.1 h
section
variable {X:Cx}
def iZip (K:Aa)(ta:TA):TI:=λσ H R=>ta σ H λvs H1=>∃a b xs ys,vs=[.ref a,.ref b]/\SqL K H1 a xs/\SqL K H1 b ys/\R (ItZ K a b xs ys) H1
theorem pi_zip {a b:Expr}{ta:TA}{p pos:Pos}{es:List Expr}{k:Nat}{tpos:Pos}(hg:Gl X "zip")(hm:X.mg "zip" = none)(ha:PA X [a,b] ta)(hv:autoParam (bootBuiltins "zip" = some (.type "zip")) aU4._auto_1)
  (hs:autoParam (starEach [a,b] X.env=[(false,eval a X.env),(false,eval b X.env)]) aU4._auto_1) (hs2:autoParam (starEach [b] X.env=[(false,eval b X.env)]) aU4._auto_1):PI X (.Tuple es k tpos) (.Call (.Name "zip" p) [a,b] [] pos) (iZip X.K ta):=by
 intro pins s σ H R I h;refine Call_ (j3 I hg hm hv (bW (thn (ha pos pins s σ H _ I h) λus s1 ⟨vs,H1,I1,r1,q1⟩=>?_) (by rw[hs,hs2]) (by rw[hs2];rfl)));obtain⟨a,b,xs,ys,e,Z,W,q⟩:=q1;subst e;cases r1 with
 |cons r rr =>
  cases rr with
  |cons r' rr =>
   cases rr;cases r;cases r';obtain⟨ad,rv,p,hz⟩:=I1.list Z;obtain⟨ac,ab,p2,am⟩:=I1.list W;have U:a<s1.heap.objs.size:=by obtain⟨o,n,D,_⟩:=p;exact al D
   have L:b<s1.heap.objs.size:=by obtain⟨o,n,D,_⟩:=p2;exact al D
   refine call_zip_2 p.isList p2.isList λh' J g2 g3 g4 g5 g6 g7=>?_;refine wpAny_pyIter_zip J ?_;have I2:Inv X pins σ H1 { s1 with heap:=h' }:=I1.kept (t':=s1.toks) g7;refine⟨s1.heap.objs.size+4,[s1.heap.objs.size+4,s1.heap.objs.size+2,s1.heap.objs.size+3,s1.heap.objs.size,s1.heap.objs.size+1],_,_,H1,rfl,I2,wuw a b _ _ _ _ _ xs ys (zipApart_new U L),⟨J,g2,⟨_,_,g3⟩,g4,g5⟩,λc hc=>?_,q⟩;have F:s1.heap.objs.size<=c:=by
    have:c=s1.heap.objs.size+4\/c=s1.heap.objs.size+2\/c=s1.heap.objs.size+3\/c=s1.heap.objs.size\/c=s1.heap.objs.size+1:=by simpa using hc
    rcases this with e | e | e | e | e <;> (rw[e];first | exact aj _ | exact ja _ _)
   exact I1.fpOk F (I1.hok.fresh F)
end
section
variable {X:Cx}
end
section
variable {X:Cx}{elt iter tg:Expr}{x y2:Str}{pos:Pos}{scope:Scope}{cl:List (Str×Aj)}{M:List Nat}{wi:TI}{gg:TG}{te:TE}
end
theorem xx9 {X:Cx}{K:Aa}{pos:Pos}{es:List Expr}{k:Nat}{t:TGs}{n:Nat}(hK:X.K=K)(hc:X.calm=true)(h:PGs X es t)(h1:autoParam ((assignEach es X.env).length=n) aU4._auto_1)(h2:autoParam (List.findIdx? (λx=>x.fst) (assignEach es X.env)=none) aU4._auto_1):PG X (.Tuple es k pos) (gTup K n t):=by subst hK;exact yu hc h h1 h2
def StayT (G:Nat->V->Hp->Prop):Prop:=∀i v H H',G i v H->(∀b o,(∀xs,o≠.lst xs)->H b=some o->H' b=some o)->G i v H'
theorem www {M:List Nat}{lo:Int}{n:Nat}{te:TE}{σ:St}{H:Hp}{Q:VK}(G:Nat->V->Hp->Prop)(gs:StayT G)(hn:n<=1000000)
  (he:∀(i:Nat) (H':Hp) (R:VK),i<n->Same H H'->(∀v H'',Same H' H''->G i v H''->R v H'')->te (zc M σ (some (.int (lo+i)))) H' R)
  (k:∀p ys H',H p=none->Same H H'->H' p=some (.lst ys)->ys.length=n->(∀j v,ys[j]?=some v->G j v H')->Q (.ref p) H'):Wk (Itr lo n) M te σ H Q:=by
 intro p np;have Z:(1000000:Nat)<sizeLine:=by decide
 refine⟨λi m ys H2=>i<=n/\m=n-i/\ys.length=i/\Same H H2/\H2 p=some (.lst ys)/\∀j v,ys[j]?=some v->G j v H2,⟨n,aW _,rfl,rfl,Same.upd np,qc,λj v e=>by cases e⟩,?_⟩;rintro i m ys H2 ⟨hi,rfl,hl,sm,hp,hG⟩;refine⟨hp,⋯,?_⟩;by_cases hlt:i<n
 .refine .inr ⟨hlt,?_⟩;rintro v H3 ⟨rfl,rfl⟩;refine he i H3 _ hlt sm λw L D W=>?_;have J:=D _ _ hp;have st:∀b o,(∀xs,o≠.lst xs)->L b=some o->upd L p (.lst (ys++[w])) b=some o:=λb o F e=>by
   rw[qt]
   .exact e
   .intro z;rw[z,J]at e;exact F _ (au e).symm
  refine⟨J,n-(i+1),⋯,⋯,rfl,by rw[ar,hl];rfl,λb o e=>?_,qc,λj v e=>?_⟩
  .rw[qt (q9 e np)];exact D _ _ (sm _ _ e)
  .rcases bp j ys.length with z|z
   .rw[aT z]at e;exact gs j v _ _ (hG j v e) λb o F e=>st b o F (D _ _ e)
   .rw[aA z]at e;have U:j=i:=by
     rcases bp (j-ys.length) 1 with y|y
     .lia
     .rw[aO (by simpa using y)]at e;cases e
    subst U;rw[show j-ys.length=0 by lia]at e;cases e;exact gs j _ _ _ W st
 .have:i=n:=by lia
  subst this;exact .inl ⟨aj _,k p ys H2 np sm hp hl hG⟩
end L2
namespace HT
open PySem PySem.Spec PyProof.Rows
section
variable {prog:Ac}{w:Ah}{A:Ae}{E:Ag->Ab->Prop}{s:Ab}
theorem cat_tup0 {t b:Aj}{ws:List Ag}{Q:Ag->Ab->Prop}(ht:IsTup s.heap t #[])(hb:IsTup s.heap b ws.toArray)(h:Q (.ref b) s):wpAny (model prog w) A (binaryOp .Add (.ref t) (.ref b)) Q E s:=by obtain⟨⟨an,dd,ad,sl⟩,F,W,n,L⟩:=id ht ;obtain⟨⟨am,ab,ac,Z⟩,D,U,n2,J⟩:=id hb;simp only at W L U J ;subst W L U J;exact concat_meets ⟨_,F,rfl⟩ ⟨_,D,rfl⟩ iZ seq_tuple_add ge fV (fF _ _) (tuple_addW0 t b #[] ws.toArray n n2 dd ab sl Z (by simp)) ⟨F,D,h⟩
end
end HT
namespace L2
open PySem PySem.Spec PyProof.Rows
section
variable {X:Cx}
def rCatW (K:Aa):R2:=λx y H Q=>∃a b xs ys,x=.ref a/\y=.ref b/\SqT K H a xs/\SqT K H b ys/\xs.length+ys.length<=sizeLine /\
 (xs=[]->Q (.ref b) H)/\(xs≠[]->ys=[]->Q (.ref a) H)/\(xs≠[]->ys≠[]->∀p,H p=none->Q (.ref p) (upd H p (.tup (xs++ys))))
theorem xx7:OpR X (binaryOp .Add) (rCatW X.K):=by
 intro pins s σ H x y v u Q I F D h;obtain⟨a,b,xs,ys,rfl,rfl,L,J,hz,q0,Z,W⟩:=h;by_cases hx:xs=[]
 .subst hx;cases F;cases D;obtain⟨ac,U,p1,_⟩:=I.tuple L;obtain⟨ab,r2,p2,_⟩:=I.tuple J;cases U;exact HT.cat_tup0 p1 p2 ⟨.ref b,H,I,rfl,q0 rfl⟩
 .exact xxd pins s σ H (.ref a) (.ref b) v u Q I F D ⟨a,b,xs,ys,rfl,rfl,L,J,hx,hz,Z hx,W hx⟩
end
end L2
namespace L2
open PySem PySem.Spec PyProof.Rows
end L2
namespace L2
open PySem PySem.Spec PyProof.Rows
section
universe u1 u2 u3 u4 u5 u6
variable {α:Sort u1}{β:Sort u2}{γ:Sort u3}{δ:Sort u4}{ε:Sort u5}{ζ:Sort u6}
theorem ex2 {p:α->β->Prop}(a:α)(b:β)(h:p a b):∃x y,p x y:=⟨a,b,h⟩
theorem ex3 {p:α->β->γ->Prop}(a:α)(b:β)(c:γ)(h:p a b c):∃x y z,p x y z:=⟨a,b,c,h⟩
theorem ex4 {p:α->β->γ->δ->Prop}(a:α)(b:β)(c:γ)(d:δ)(h:p a b c d):∃x y z t,p x y z t:=⟨a,b,c,d,h⟩
theorem ex5 {p:α->β->γ->δ->ε->Prop}(a:α)(b:β)(c:γ)(d:δ)(e:ε)(h:p a b c d e):∃x y z t r,p x y z t r:=⟨a,b,c,d,e,h⟩
theorem ex6 {p:α->β->γ->δ->ε->ζ->Prop}(a:α)(b:β)(c:γ)(d:δ)(e:ε)(f:ζ)(h:p a b c d e f):∃x y z t r s,p x y z t r s:=⟨a,b,c,d,e,f,h⟩
end
section
variable {K:Aa}{σ:St}{H:Hp}{Q:VK}{i i2:Nat}{j j2:Int}{p p2:Aj}{xs ys:List V}{v:V}
theorem rdT (e:σ[i]?=some (some (.ref p)))(h:SqT K H p xs)(a:atI xs j=some v)(q:Q v H):tOp (rIxT K) (jh i) (tC (.int j)) σ H Q:=⟨_,e,p,xs,j,v,rfl,rfl,h,a,q⟩
theorem rdTT (e:σ[i]?=some (some (.ref p)))(h:SqT K H p xs)(a:atI xs j=some (.ref p2))(h2:SqT K H p2 ys)(a2:atI ys j2=some v)(q:Q v H):tOp (rIxT K) (tOp (rIxT K) (jh i) (tC (.int j))) (tC (.int j2)) σ H Q:=⟨_,e,p,xs,j,_,rfl,rfl,h,a,p2,ys,j2,v,rfl,rfl,h2,a2,q⟩
theorem rdL (e:σ[i]?=some (some (.ref p)))(e2:σ[i2]?=some (some (.int j)))(h:SqL K H p xs)(a:atI xs j=some v)(q:Q v H):tOp (wwd K) (jh i) (jh i2) σ H Q:=⟨_,e,_,e2,p,xs,j,v,rfl,rfl,h,a,q⟩
theorem rdLC (e:σ[i]?=some (some (.ref p)))(h:SqL K H p xs)(a:atI xs j=some v)(q:Q v H):tOp (wwd K) (jh i) (tC (.int j)) σ H Q:=⟨_,e,p,xs,j,v,rfl,rfl,h,a,q⟩
end
theorem tn2 (n:Nat):((n:Int)-1).toNat=n-1:=by lia
theorem tn1 {m:Int}(h:1<=m):(m-1).toNat=m.toNat-1:=by obtain⟨n,rfl⟩:=fX (show 0<=m by lia);rw[tn2,bH]
theorem tn3 {m:Int}(h:1<=m):(m-1).toNat+1=m.toNat:=by rw[tn1 h];exact Nat.sub_add_cancel (Int.lt_toNat.mpr h)
theorem tnlt {m:Int}(h:1<=m):((m.toNat-1:Nat):Int)<m:=by rw[<-tn1 h,cA ⋯];lia
theorem tnsum {r t:Int}(h0:0<=r)(h1:1+r<t):(1+r).toNat-1+((t-(1+r)).toNat-1+1)=t.toNat-1:=by rw[<-tn1 (show 1<=1+r by lia),<-tn1 (show 1<=t-(1+r) by lia),<-tn1 (show 1<=t by lia),tn3 (show 1<=t-(1+r) by lia),<-Int.toNat_add ⋯ ⋯];congr 1;lia
end L2
namespace L2
open PySem PySem.Spec PyProof.Rows
def Rows (q:Aj)(B:Hp)(L:List (List V))(ys:List V)(H:Hp):Prop:=Paired (λv xs=>∃a,v=.ref a/\a≠q/\B a=none/\H a=some (.lst xs)) ys L
theorem Paired.mono {α β:Type}{R S:α->β->Prop}(h:∀a b,R a b->S a b):∀ {xs:List α} {ys:List β},Paired R xs ys->Paired S xs ys
 |_,_,.nil=>.nil
 |_,_,.cons r t=>.cons (h _ _ r) (Paired.mono h t)
theorem Paired.app {α β:Type}{R:α->β->Prop}:∀ {xs xs':List α} {ys ys':List β},Paired R xs ys->Paired R xs' ys'->Paired R (xs++xs') (ys++ys')
 |_,_,_,_,.nil,h=>h
 |_,_,_,_,.cons r t,h=>.cons r (Paired.app t h)
theorem jg {H H':Hp}(s:Same H H'){a:Aj}(n:H' a=none):H a=none:=by
 cases e:H a with
 |none=>rfl
 |some o=>rw[s _ _ e]at n;cases n
def uk (c:Nat->Bool)(xs:List V)(n:Nat):List V:=((List.range n).filter c).map λi=>xs.getD i .non
theorem W5 {K:Aa}{M:List Nat}{a:Aj}{xs:List V}{tt:TT}{te:TE}{σ:St}{H:Hp}{Q:VK}(c:Nat->Bool)(hS:SqL K H a xs)(hn:xs.length<=1000000)
  (ht:∀(i:Nat) (x:V) (H':Hp) (R:Bool->Hp->Prop),xs[i]?=some x->Same H H'->(∀H'',Same H' H''->R (c i) H'')->tt (zc M σ (some x)) H' R)
  (he:∀(i:Nat) (x:V) (H':Hp) (R:VK),xs[i]?=some x->c i=true->Same H H'->(∀H'',Same H' H''->R x H'')->te (zc M σ (some x)) H' R)
  (k:∀p H',H p=none->Same H H'->H' p=some (.lst (uk c xs xs.length))->Q (.ref p) H'):wxm (Itl K a) M tt te σ H Q:=by
 intro p np;refine⟨λi m ys H2=>i<=xs.length/\m=xs.length-i/\ys=uk c xs i/\Same H H2/\H2 p=some (.lst ys),⟨xs.length,aW _,rfl,rfl,Same.upd np,qc⟩,?_⟩;rintro i m ys H2 ⟨hi,rfl,rfl,sm,hp⟩;refine⟨hp,?_,?_⟩
 .unfold uk;rw[ag];have:=dj c (List.range i);rw[aH]at this;have:(1000000:Nat)<sizeLine:=by decide
  lia
 .by_cases hlt:i<xs.length
  .have D:xs[i]?=some xs[i]:=ae hlt;refine .inr ⟨⟨xs,_,sm.sql hS,D⟩,?_⟩;rintro v H3 ⟨rfl,hv⟩;have e:=au (D.symm.trans (hv xs (sm.sql hS)));subst e;refine ht i _ _ _ D sm λZ F=>?_;have J:=F _ _ hp;have U:xs.getD i .non=xs[i]:=by rw[af,D];rfl
   cases hc:c i with
   |true =>
    refine Wj ?_;refine he i _ _ _ D hc (sm.trans F) λW L=>⟨L _ _ J,xs.length-(i+1),⋯,⋯,rfl,?_,λb o e=>?_,qc⟩
    .unfold uk;rw[cG,fU,bj];simp only[fA,hc,cY,List.filter_nil,aM,d9,U]
    .rw[qt (q9 e np)];exact L _ _ (F _ _ (sm _ _ e))
   |false =>
    refine Q8 ?_;refine⟨J,xs.length-(i+1),⋯,⋯,rfl,?_,sm.trans F,J⟩;unfold uk;rw[cG,fU,bj];simp only[fA,hc,aG,bB,List.filter_nil,d9,bQ]
  .have:i=xs.length:=by lia
   subst this;exact .inl ⟨⟨xs,sm.sql hS,aj _⟩,k p H2 np sm hp⟩
end L2
namespace L2
open PySem PySem.Spec PyProof.Rows
def InnRI (J2:It)(M:List Nat)(tt:TT)(te:TE)(σ:St)(v:V)(p:Aj)(ys:List V)(H4:Hp)(Wx:List V->Hp->Prop):Prop:=∃W2:Nat->Nat->List V->Hp->Prop,(∃m2,W2 0 m2 ys H4) /\
 ∀j m2 zs H5,W2 j m2 zs H5->H5 p=some (.lst zs)/\zs.length<sizeLine/\((J2.stop j H5/\Wx zs H5)\/(J2.go j H5/\∀u H6,J2.yld j H5 u H6 ->
  tt (zx M σ (some v) (some u)) H6 λb H6'=>if b=true then te (zx M σ (some v) (some u)) H6' (λy H7=>H7 p=some (.lst zs)/\∃m2',m2'<m2/\W2 (j+1) m2' (zs++[y]) (upd H7 p (.lst (zs++[y])))) else H6' p=some (.lst zs)/\∃m2',m2'<m2/\W2 (j+1) m2' zs H6'))
def qju (J:It)(M:List Nat)(wi2:TI)(tt:TT)(te:TE)(σ:St)(H1:Hp)(Q:VK):Prop:=∀p,H1 p=none->∃W:Nat->Nat->List V->Hp->Prop,(∃m,W 0 m [] (upd H1 p (.lst []))) /\
 ∀i m ys H2,W i m ys H2->H2 p=some (.lst ys)/\((J.stop i H2/\Q (.ref p) H2)\/(J.go i H2/\∀v H3,J.yld i H2 v H3 ->
  wi2 (zx M σ (some v) none) H3 λJ2 H4=>InnRI J2 M tt te σ v p ys H4 λzs H5=>∃m',m'<m/\W (i+1) m' zs H5))
def xvc (M:List Nat)(wi wi2:TI)(tt:TT)(te:TE):TE:=λσ H Q=>wi σ H λJ H1=>qju J M wi2 tt te σ H1 Q
section
variable {X:Cx}{elt iter iter2 cd:Expr}{x y:Str}{px py pos:Pos}{scope:Scope}{cl:List (Str×Aj)}{M:List Nat}{wi wi2:TI}{tt:TT}{te:TE}
theorem qyh (M:List Nat)(σ:St)(v:V):(zx M σ none none).length=(zx M σ (some v) none).length/\∀(k:Nat) z,(zx M σ none none)[k]?=some (some z)->(zx M σ (some v) none)[k]?=some (some z):=⟨rfl,λk z ez=>by
 match k,ez with
 |0,ez=>cases ez
 |1,ez=>cases ez
 |k+2,ez=>exact ez⟩
theorem qj4 (M:List Nat)(σ:St)(v:Option V)(u:V):(zx M σ v none).length=(zx M σ v (some u)).length/\∀(k:Nat) z,(zx M σ v none)[k]?=some (some z)->(zx M σ v (some u))[k]?=some (some z):=⟨rfl,λk z ez=>by
 match k,ez with
 |0,ez=>exact ez
 |1,ez=>cases ez
 |k+2,ez=>exact ez⟩
def inrS (i1:Expr)(e:Expr)(acc:Ag)(env:Env)(c:Code):Sem PySem.Fin:=eval i1 env >>= λx=>standAt i1.pos >>= λ_=>foldedSetIterable i1 env x >>= λx=>holding [x] (pyIter x) >>= λit1=>runOwn (Code.compStart e 1 it1 acc env) env >>= λ_=>again c
theorem xzr (elt t0 i0 t1 i1 cd:Expr)(scope:Scope)(pos:Pos)(it acc:Ag)(env:Env):compTurn (elt.ListComp [⟨t0,i0,[],0⟩,⟨t1,i1,[cd],0⟩] scope pos) 0 it acc env=(standAt i0.pos >>= λ_=>pyNext it >>= λr=>match r with|none=>pure (.done .next)|some v=>letOwnedTupleGo t0 it v >>= λ_=>assign t0 env v >>= λ_=>inrS i1 (elt.ListComp [⟨t0,i0,[],0⟩,⟨t1,i1,[cd],0⟩] scope pos) acc env (Code.compLoop (elt.ListComp [⟨t0,i0,[],0⟩,⟨t1,i1,[cd],0⟩] scope pos) 0 it acc env)):=rfl
theorem xzs (elt t0 i0 t1 i1 cd:Expr)(scope:Scope)(pos:Pos)(it acc:Ag)(env:Env):compTurn (elt.ListComp [⟨t0,i0,[],0⟩,⟨t1,i1,[cd],0⟩] scope pos) 1 it acc env=(standAt i1.pos >>= λ_=>pyNext it >>= λr=>match r with|none=>pure (.done .next)|some v=>letOwnedTupleGo t1 it v >>= λ_=>assign t1 env v >>= λ_=>tstS cd env (appS elt acc env (Code.compLoop (elt.ListComp [⟨t0,i0,[],0⟩,⟨t1,i1,[cd],0⟩] scope pos) 1 it acc env)) (again (Code.compLoop (elt.ListComp [⟨t0,i0,[],0⟩,⟨t1,i1,[cd],0⟩] scope pos) 1 it acc env))):=rfl
theorem wyv {Y:Cx}{t0 i0 t1:Expr}{p:Aj}{c:Code}{σ:St}{H:Hp}{pins:List (Aj×Obj)}{s:Ab}{R2:It->Hp->Prop}{Post:Ab->Prop}(hi2:PI Y t1 iter2 wi2)(hs2:∀z,foldedSetIterable iter2 Y.env z=pure z)(J:Inv Y pins σ H s)(h:wi2 σ H R2)
  (go:∀(it2:Aj) (fp2:List Aj) (tn2:Nat->Heap->Prop) (J2:It) (H8:Hp) (s8:Ab),Inv Y pins σ H8 s8->Turn Y.prog Y.w Y.K t1 J2 fp2 it2 tn2->tn2 0 s8.heap->(∀b∈fp2,v6 Y pins H8 b)->R2 J2 H8 ->
   codeAny (model Y.prog Y.w) Y.A (.compLoop (elt.ListComp [⟨t0,i0,[],0⟩,⟨t1,iter2,[cd],0⟩] scope pos) 1 (.ref it2) (.ref p) Y.env) (λr s'=>match r with|.ok _=>Post s'|.error _=>False) s8) :
  wpAny (model Y.prog Y.w) Y.A (inrS iter2 (elt.ListComp [⟨t0,i0,[],0⟩,⟨t1,iter2,[cd],0⟩] scope pos) (.ref p) Y.env c) (λr s5=>r=Fin.again c/\Post s5) Y.xe s:=by
 refine aa (aZ (hi2 _ s _ H _ J h) (λv1 s7 h7=>?_) λ_ _ z=>z);refine aa (cV ?_);rw[hs2];refine aa (ai (aa (bN (aZ h7 (λab s8 h8=>?_) λ_ _ z=>z))));obtain⟨it2,fp2,tn2,Jb,H8,rfl,I8,U,D,W,Z⟩:=h8;refine aa (wpAny_runOwn ?_);have F:=go it2 fp2 tn2 Jb H8 s8 I8 U D W Z;refine fj (xzz F λE2=>U.self _ 0 _ _ _ D F) λr s' L=>?_;cases r with
 |ok f=>exact ai ⟨rfl,L⟩
 |error e=>exact L.elim
theorem wzf (hc:X.calm=true)(hclos:closureFor scope X.env=pure cl)(hcap:CapAll X.env cl)(hhas:HasAll cl scope.names)(hix:CapIx X scope cl M)(hk:scope.kind=.function)
  (hnames:∀y∈scope.names,y.2=.local->scope.names.lookup y.1=some .local) (hx:scope.names.lookup x=some .local) (hy:scope.names.lookup y=some .local) (hnd:(qyy X x y M).Nodup) (hi:PI X (.Name x px) iter wi)
  (hi2:∀C s2 H2 fp pn,PI (x9 X scope cl x y M C s2 H2 fp pn) (.Name y py) iter2 wi2)
  (ht:∀C s2 H2 fp pn,PT (x9 X scope cl x y M C s2 H2 fp pn) cd tt) (he:∀C s2 H2 fp pn,PE (x9 X scope cl x y M C s2 H2 fp pn) elt te) (hs:∀z,foldedSetIterable iter X.env z=pure z) (hs2:∀env z,foldedSetIterable iter2 env z=pure z)
  {use:Option (Ag->Sem Unit)} {QQ:Ag->Ab->Prop} {pins:List (Aj×Obj)} {s:Ab} {σ:St} {H:Hp} {Q:VK} {ps:Pos} (I:Inv X pins σ H s) (h:wi σ H λJ H1=>qju J M wi2 tt te σ H1 Q)
  (fin:∀(C:Aj) (s2 s4:Ab) (H1 H2:Hp) (fp:List Aj),Inv X pins σ H1 s2->s2.heap.objs.size<C->(∀b∈fp,v6 X pins H1 b)->Inv (x9 X scope cl x y M C s2 H1 fp (X.pn++pins)) [] (zx M σ none none) H2 s4->Q (.ref s2.heap.objs.size) H2 ->
   compPost (model X.prog X.w) X.A X.xe use QQ (.ref s2.heap.objs.size) C (.ok .next) s4) :
  wpAny (model X.prog X.w) X.A (comprehension (.ListComp elt [⟨.Name x px,iter,[],0⟩,⟨.Name y py,iter2,[cd],0⟩] scope pos) scope X.env ps (newList []) false (eval iter X.env) use) QQ X.xe s:=by
 refine Yc hclos hhas hk hnames hi hs I h λit fp tn J H1 s2 C h3 tk I2 T t3 Z an a5 hR ac a0 a6 hD=>?_;obtain⟨W,⟨m0,w0⟩,hW⟩:=hR s2.heap.objs.size (I2.hok.fresh (aj _));have am:(relabel scope X.env).names.lookup x=some .local:=ee hx;have ad:(relabel scope X.env).names.lookup y=some .local:=ee hy;have hT:=hi2 C s2 H1 fp (X.pn++pins);have hE:=he C s2 H1 fp (X.pn++pins);have hC:=ht C s2 H1 fp (X.pn++pins);have g0:PG (x9 X scope cl x y M C s2 H1 fp (X.pn++pins)) (.Name x px) (Zn 0):=xv (i:=0) hnd rfl (.inl am) (.inr am);have g1:PG (x9 X scope cl x y M C s2 H1 fp (X.pn++pins)) (.Name y py) (Zn 1):=xv (i:=1) hnd rfl (.inl ad) (.inr ad);have fo:=Zf (N:=qyy X x y M) (scope:=scope) hcap I2 ac Z an;have I0:=I2.comp2 (x:=x) (y:=y) (tk:=tk) hcap hhas hix hk ac a0 a6 hD Z a5;have fn:=λH2 s4 J4 q=>fin C s2 s4 H1 H2 fp I2 ac Z J4 q;refine k9 (Y:=x9 X scope cl x y M C s2 H1 fp (X.pn++pins)) (V:=λi n H2=>∃ys,W i n ys H2) (Qd:=Q (.ref s2.heap.objs.size)) (REST:=inrS iter2 _ (.ref s2.heap.objs.size) (compEnvC scope cl C X.env) _) T hc (λ_ _ z=>z) (xzr ..) rfl rfl g0 fo (λi n H2 ⟨ys,w⟩=>?_) fn I0 ⟨[],w0⟩ t3 λb L=>by rw[qt (aB (an b L))];exact(Z b L).1
 obtain⟨hp,bc⟩:=hW i n ys H2 w;refine bc.imp id λ⟨a8,a2⟩=>⟨a8,λv H3 yl=>⟨λσ4 H4=>σ4=zx M σ (some v) none/\H3=H4,⟨rfl,rfl⟩,λ_ _ e=>?_⟩⟩;obtain⟨rfl,rfl⟩:=e;refine⟨qyh M σ v,λbk s' J=>?_⟩;refine wyv hT (hs2 _) J (a2 v H3 yl) λit2 fp2 tn2 J2 H8 s8 I8 T2 t8 hfp2 ⟨W2,⟨m2,w2⟩,hW2⟩=>?_;refine k9 (Y:=x9 X scope cl x y M C s2 H1 fp (X.pn++pins)) (V:=λj U F=>∃zs,W2 j U zs F) (Qd:=λF=>∃zs D,D<n/\W (i+1) D zs F) (REST:=tstS cd (compEnvC scope cl C X.env) (appS elt (.ref s2.heap.objs.size) (compEnvC scope cl C X.env) _) (again _)) T2 hc (λ_ _ z=>z) (xzs ..) rfl rfl g1 (λF hn b L=>⟨hn b L,(hfp2 b L).2⟩) (λj U F ⟨zs,w9⟩=>?_)
  (λF s9 J9 ⟨zs,D,ab,wq⟩=>⟨F,J9,D,ab,zs,wq⟩) I8 ⟨ys,w2⟩ t8 λb L=>(hfp2 b L).1
 obtain⟨bl,a1,a9⟩:=hW2 j U zs F w9;refine a9.imp (λ⟨a4,D,ab,wq⟩=>⟨a4,zs,D,ab,wq⟩) λ⟨a7,a3⟩=>⟨a7,λu ap as=>⟨λσ4 H4=>σ4=zx M σ (some v) (some u)/\ap=H4,⟨rfl,rfl⟩,λ_ _ e=>?_⟩⟩;obtain⟨rfl,rfl⟩:=e;refine⟨qj4 M σ (some v) u,λbd s9 J9=>?_⟩;exact Zg hC J9 (a3 u ap as) (λs6 H6 J6 h6=>aZ (Z7 (N:=λzs H5=>∃D,D<U/\W2 (j+1) D zs H5) (λ_ _ z=>z) hE J6 a1 h6) (λr s5 ⟨e,H5,J5,zs,D,hm,w'⟩=>⟨e,H5,J5,D,hm,zs,w'⟩) λ_ _ z=>z)
  λs6 H6 J6 ⟨_,D,hm,w'⟩=>ai ⟨rfl,H6,J6,D,hm,zs,w'⟩
end
section
variable {X:Cx}{elt iter iter2 cd:Expr}{x y2:Str}{px py2 pos:Pos}{scope:Scope}{cl:List (Str×Aj)}{M:List Nat}{wi wi2:TI}{tt:TT}{te:TE}
theorem qj5 {i:Nat}{y:Str}{py spos:Pos}(hN:X.N.Nodup)(hyi:X.N[i]?=some y)(hyl:Loc X.env.scope y)(hc:X.calm=true)(hclos:closureFor scope X.env=pure cl)(hcap:CapAll X.env cl)(hhas:HasAll cl scope.names)(hix:CapIx X scope cl M)(hk:scope.kind=.function)
  (hnames:∀y∈scope.names,y.2=.local->scope.names.lookup y.1=some .local) (hx:scope.names.lookup x=some .local) (hy2:scope.names.lookup y2=some .local) (hnd:(qyy X x y2 M).Nodup) (hi:PI X (.Name x px) iter wi) (hi2:∀C s2 H2 fp pn,PI (x9 X scope cl x y2 M C s2 H2 fp pn) (.Name y2 py2) iter2 wi2)
  (ht:∀C s2 H2 fp pn,PT (x9 X scope cl x y2 M C s2 H2 fp pn) cd tt) (he:∀C s2 H2 fp pn,PE (x9 X scope cl x y2 M C s2 H2 fp pn) elt te) (hs:autoParam (∀z,foldedSetIterable iter X.env z=pure z) aU3._auto_1) (hs2:∀env z,foldedSetIterable iter2 env z=pure z:=by intros;rfl)
  (hsw:autoParam (swapsWith (.ListComp elt [⟨.Name x px,iter,[],0⟩,⟨.Name y2 py2,iter2,[cd],0⟩] scope pos) (some (.Name y py)) spos.line X.env=pure true) aU4._auto_1) (hyf:autoParam (X.fn y=true\/X.env.scope.names.lookup y=some .local) aU0._auto_1) :
  PS X (.Assign [.Name y py] (.ListComp elt [⟨.Name x px,iter,[],0⟩,⟨.Name y2 py2,iter2,[cd],0⟩] scope pos) spos) (tAsg (xvc M wi wi2 tt te) (Zn i)):=by
 intro pins s σ H D I h;rw[exec_Assign_Name_used _ _ _ _ hsw];refine aa (cV (aa ?_));refine aa (aZ (wzf hc hclos hcap hhas hix hk hnames hx hy2 hnd hi hi2 ht he hs hs2 (use:=some (assign (.Name y py) X.env)) (QQ:=λ_ s'=>SP X pins D .next s') I h λC s2 W H1 H2 fp J L as J4 hq=>?_) (λ_ s' hq=>ai (ai hq)) λ_ _ e=>e);have F:Inv X pins σ H2 W:=J.uncomp2 (h':=W.heap) (br L) as J4 (Heap.SameBut.refl _ _);have ad:H2 C=none:=J4.free;obtain⟨mC,ap,_⟩:=J4.loc;obtain⟨Z,a5,a6,an,ac⟩:=id ap;have ab:C≠X.env.locals:=λz=>be _ (bo L (z▸J.lt));have a1:X.s₀.heap.objs.size<=C:=bK J.sz (br L);have a3:∀y c,X.env.cells.lookup y=some c->c≠C:=λy c e z=>by obtain⟨v,o,U,_⟩:=J.cell y c e;exact be _ (bo L (z▸al U))
 have a2:∀p∈X.pn++pins,p.1≠C:=λp hp z=>be _ (bo L (z▸al (J.pin p hp).1));have a8:C∉frs X.stack:=λz=>by
  rcases aQ.mp (J.stkSub C z) with q|q
  .exact ab q
  .obtain⟨_,o,U,_⟩:=J.funs.mem (b:=C) q;exact be _ (bo L (al U))
 have a0:C∉X.fs:=λz=>by obtain⟨_,o,U,_⟩:=J.funs.mem (b:=C) z;exact be _ (bo L (al U))
 have a7:Inv X (pins++[(C,Z)]) σ H2 W:=⟨F.ok,F.os,F.bare,F.base,F.loc,F.cell,F.free,F.freeC,λp hp=>by
  rcases aY.mp hp with q|q
  .exact F.pin p (cD _ q)
  .rcases aY.mp q with q|q
   .exact F.pin p (aN _ q)
   .rw[aV.mp q]
    exact⟨an,ad,ab,a0,λv z=>by rw[ac.1]at z;cases z⟩,F.hok,F.len⟩
 show wpAny _ _ (assign (.Name y py) X.env (.ref s2.heap.objs.size)) _ _ _;refine iM (yj a7 hN hyi hyl (show RelV (.ref s2.heap.objs.size) (.ref s2.heap.objs.size) from rfl) (λs5 I5=>?_) hyf);have a4:=(I5.pin (C,Z) (aN _ (aN _ (.head _)))).1;exact⟨mC,⟨Z,a5,a6,a4,ac⟩,λh' am=>⟨_,H2,I5.unpinned.but ad a1 ab a3 a2 am,hq⟩⟩
end
end L2
namespace L2
open PySem PySem.Spec PyProof.Rows
def Itd (a:Int)(n:Nat):It:=⟨λi _=>i<n,λi H x H'=>H'=H/\x=.int (a-i),λi _=>n<=i⟩
theorem wjs {P:Ac}{w:Ah}{K:Aa}{tg:Expr}(it:Aj)(a:Int)(n:Nat):Turn P w K tg (Itd a n) [it] it (λi h=>IsRangeIter h it (a+(i:Nat)*(-1)) ((n:Int)-(i:Nat)) (-1)) where
 mem:=by simp
 obj:=λi h st b hb=>by cases(aV.mp hb);exact⟨_,st,λv z=>nomatch (show Data.fields _=Data.cell v from z)⟩
 keep:=λi h h' st k=>k it (by simp) _ st
 item:=by intro X hP hw hK hc i pins s σ H E I hf st hg;subst hP hw hK;have hfi:=hf it (by simp);refine(Walks.range (prog:=X.prog) (w:=X.w) (I.ok.hd hc) it a (-1) n).item i s _ _ hg st λv h' tk hv st' kk=>?_;obtain⟨t,rfl⟩:=hv;have I1:Inv X pins σ H { s with heap:=h',toks:=tk }:=I.turned (λb o hb e=>kk b o (by simpa using hb) e) hfi.1 hfi.2.1 hfi.2.2.2.1 hfi.2.2.2.2.1 hfi.2.2.2.2.2;refine⟨_,rfl,wzp (s:={ s with heap:=h',toks:=tk }) (n := "range_iterator") st' rfl rfl ⋯ ⟨.int (a-i),H,I1,⟨t,?_⟩,⟨rfl,rfl⟩,st',λb hb=>(hf b hb).1⟩⟩;congr 1;lia
 done:=by intro X hP hw hK hc i pins s σ H E I hf st hg;subst hP hw hK;have hfi:=hf it (by simp);exact wpAny_pyNext_range_end (I.ok.hd hc) st (by have:n<=i:=hg;lia) λh' eb=>⟨rfl,I.turned (t':=s.toks) (λb o hb e=>eb b o hb e) hfi.1 hfi.2.1 hfi.2.2.2.1 hfi.2.2.2.2.1 hfi.2.2.2.2.2⟩
 self:=λ_ _ _ _ _ st h=>wpAny_pyIter_rangeiter st h
section
variable {X:Cx}{tg:Expr}
theorem xzw {pins:List (Aj×Obj)}{σ:St}{H:Hp}{s:Ab}{R:It->Hp->Prop}{E:Ag->Ab->Prop}{a b:Int}{t u v:Tok}{tk:Nat}(I:Inv X pins σ H s)(h1:-(2 ^ 62)<=a)(h2:a<2 ^ 62)(h3:-(2 ^ 62)<=b)(h4:b<2 ^ 62)
  (q:R (Itd a (a-b).toNat) H):wpAny (model X.prog X.w) X.A (pyIter (.ref s.heap.objs.size)) (PIE X pins σ tg R) E { s with heap:=s.heap.push { cls:=.type "range",data:=.fields #[.int a t,.int b u,.int (-1) v] },toks:=tk }:=by
 refine wpAny_pyIter_range (IsRange.new ..) (W.small_down h1 h2 h3 h4) ?_;generalize eh:s.heap.push { cls:=.type "range",data:=.fields #[.int a t,.int b u,.int (-1) v] }=h1;have D:Inv X pins σ H { s with heap:=h1,toks:=tk }:=I.kept λb o e=>by rw[<-eh];exact ah _ e
 refine⟨h1.objs.size,[h1.objs.size],_,_,H,rfl,D.kept (t':=tk) λb o e=>ah _ e,wjs _ a (a-b).toNat,?_,λc F=>?_,q⟩
 .have L:a+((0:Nat):Int)*(-1)=a:=by lia
  have J:(((a-b).toNat:Nat):Int)-((0:Nat):Int)=Builtin.Range.rangeSize a b (-1):=by rw[W.rangeSize_downNat];lia
  show IsRangeIter _ _ (a+((0:Nat):Int)*(-1)) ((((a-b).toNat:Nat):Int)-((0:Nat):Int)) (-1);rw[L,J];exact az _ rfl
 .cases(aV.mp F);exact D.fpOk (aj _) (D.hok.fresh (aj _))
def iRngD (ta:TA):TI:=λσ H R=>ta σ H λvs H1=>∃i j:Int,vs=[.int i,.int j,.int (-1)]/\(-(2 ^ 40)<=i/\i<2 ^ 40/\-(2 ^ 40)<=j/\j<2 ^ 40)/\R (Itd i (i-j).toNat) H1
theorem wkf {a b c:Expr}{ta:TA}{p pos:Pos}(hg:Gl X "range")(hm:X.mg "range" = none)(ha:PA X [a,b,c] ta)(hs:autoParam (starEach [a,b,c] X.env=(false,eval a X.env)::starEach [b,c] X.env) aU4._auto_1)(hs2:autoParam ((backTo pos (starEach [b,c] X.env)).any (·.1)=false) aU4._auto_1) :
  PI X tg (.Call (.Name "range" p) [a,b,c] [] pos) (iRngD ta):=by
 intro pins s σ H R I h;refine Call_ (j3 I hg hm boot_range (bW (thn (ha pos pins s σ H _ I h) λus s1 ⟨vs,H1,I1,r1,D⟩=>?_) hs hs2));obtain⟨i,j,rfl,⟨D,W,U,L⟩,q⟩:=D;cases r1 with
 |cons r rr =>
  cases rr with
  |cons r' rr =>
   cases rr with
   |cons r'' rr =>
    cases rr;obtain⟨t,rfl⟩:=r;obtain⟨J,rfl⟩:=r';obtain⟨F,rfl⟩:=r'';exact PySem.call_range_3 ⋯ (xzw I1 ⋯ ⋯ ⋯ ⋯ q) (Or.inl (PyProof.noPylong_small ⋯))
end
theorem xwf {a:Int}{n:Nat}{g:TG}{tb:TS}{D:Ends}{σ:St}{H:Hp}(Pv:Nat->St->Hp->Prop)(h0:Pv 0 σ H)
  (hs:∀i σ H,i<n->Pv i σ H->g (.int (a-i)) σ H λσ2 H2=>tb { D with nx:=Pv (i+1),ct:=Pv (i+1),bk:=D.nx } σ2 H2) (hd:∀σ H,Pv n σ H->D.nx σ H) :
  ∃W:Nat->Nat->St->Hp->Prop,(∃m,W 0 m σ H)/\∀i m σ H,W i m σ H ->
   ((Itd a n).stop i H/\D.nx σ H)\/((Itd a n).go i H/\∃N:St->Hp->Prop,(∀σ' H',N σ' H'->∃m',m'<m/\W (i+1) m' σ' H')/\∀x H',(Itd a n).yld i H x H'->g x σ H' λσ2 H2=>tb { D with nx:=N,ct:=N,bk:=D.nx } σ2 H2):=by
 refine⟨λi m σ H=>m=n-i/\i<=n/\Pv i σ H,⟨n,by simp,aW _,h0⟩,?_⟩;rintro i m σ H ⟨rfl,hi,p⟩;rcases bp i n with z|z
 .refine .inr ⟨z,Pv (i+1),λσ' H' F=>⟨n-(i+1),⋯,rfl,⋯,F⟩,?_⟩;rintro x H' ⟨rfl,rfl⟩;exact hs i σ _ z p
 .obtain rfl:i=n:=by lia
  exact .inl ⟨aj _,hd σ H p⟩
end L2
namespace L2
def Yt (S:Int)(p:Int×Int):Int:=p.1*S/p.2
theorem wvt {S:Int}{p q:Int×Int}(hS:0<=S)(hp:1<=p.2)(hq:1<=q.2)(h:p.1*q.2<=q.1*p.2):Yt S p<=Yt S q:=by
 unfold Yt;refine(gk ⋯).mpr ?_;have D:p.1*S/p.2*p.2<=p.1*S:=gW _ ⋯;generalize p.1*S/p.2=k at D ⊢;have Z:k*p.2*q.2<=p.1*S*q.2:=aK D ⋯;have W:p.1*q.2*S<=q.1*p.2*S:=aK h hS;have F:k*q.2*p.2<=q.1*S*p.2:=by
  have U:k*q.2*p.2=k*p.2*q.2:=by grind
  have L:p.1*S*q.2=p.1*q.2*S:=by grind
  have J:q.1*S*p.2=q.1*p.2*S:=by grind
  lia
 exact iC F ⋯
theorem wvd {G:Int}{p q:Int×Int}(hp:1<=p.2)(hq:1<=q.2)(gp:p.2<=G)(gq:q.2<=G)(h:p.1*q.2<q.1*p.2):Yt (G*G) p<Yt (G*G) q:=by
 have D:0<=G*G:=dw ⋯ ⋯;have J:p.2*q.2<=G*G:=Int.mul_le_mul gp gq ⋯ ⋯;unfold Yt;generalize G*G=S at D J;have F:p.1*S/p.2*p.2<=p.1*S:=gW _ ⋯;refine(gk ⋯).mpr ?_;generalize p.1*S/p.2=k at F ⊢;have a2:k*p.2*q.2<=p.1*S*q.2:=aK F ⋯;have a3:(p.1*q.2+1)*S<=q.1*p.2*S:=aK ⋯ D;have L:(k+1)*q.2*p.2<=q.1*S*p.2:=by
  have Z:(k+1)*q.2*p.2=k*p.2*q.2+p.2*q.2:=by grind
  have W:p.1*S*q.2+S=(p.1*q.2+1)*S:=by grind
  have U:q.1*S*p.2=q.1*p.2*S:=by grind
  lia
 exact iC L ⋯
def Wor (pt:Nat->Int×Int)(i j:Nat):Prop:=(pt i).1*(pt j).2<(pt j).1*(pt i).2\/((pt i).1*(pt j).2=(pt j).1*(pt i).2/\i<j)
theorem wxt {pt:Nat->Int×Int}{G:Int}{i j:Nat}(hi:1<=(pt i).2)(hj:1<=(pt j).2)(gi:(pt i).2<=G)(gj:(pt j).2<=G)
  (h:Yt (G*G) (pt i)<Yt (G*G) (pt j)\/(Yt (G*G) (pt i)=Yt (G*G) (pt j)/\i<j)):Wor pt i j:=by
 have D:0<=G*G:=dw ⋯ ⋯;unfold Wor;rcases Int.lt_trichotomy ((pt i).1*(pt j).2) ((pt j).1*(pt i).2) with c|c|c
 .exact .inl c
 .have J:=wvt D hi hj (Int.le_of_eq c);have F:=wvt D hj hi (Int.le_of_eq c.symm);exact .inr ⟨c,⋯⟩
 .have:=wvd hj hi gj gi c;lia
end L2
namespace L2
open PySem PySem.Spec PySem.Calls PySem.W PyProof.Rows
def vf:List Int->List Int->Bool
 |x::xs,y::ys=>if x=y then vf xs ys else decide (x<y)
 |_,_=>false
section
variable {prog:Ac}{w:Ah}{A:Ae}{E:Ag->Ab->Prop}{s:Ab}{Q:Bool->Ab->Prop}
theorem wvg:∀ {us vs:List Ag} {xs ys:List Int} (i:Nat),IntsAre us xs->IntsAre vs ys->Q (vf xs ys) s->KatLex prog w A true false Q (us.zip vs) i s
 |_,_,_,_,i,.nil,b,h=>by cases b <;> exact h
 |_,_,_,_,i,.cons _ _ _,.nil,h=>h
 |_,_,_,_,i,@IntsAre.cons x t us xs a,@IntsAre.cons y u vs ys b,h=>by
  show KatLex prog w A true false Q ((Value.int x t,Value.int y u)::us.zip vs) i s;refine kat_cons (wpAny_eqBool_int ?_);refine kat_go (λe=>kat_yes ?_) λe=>kat_no ?_
  .refine wvg (i+1) a b ?_;have e':x=y:=by simpa using e
   unfold vf at h;rw[av e']at h;exact h
  .have e':¬ x=y:=by simpa using e
   unfold vf at h;rw[ao e']at h;by_cases c:i=0
   .subst c;exact oneLt_int h
   .have D:(true&&i==0)=false:=by simp[c]
    rw[D];exact kat_one _ _ (lt_int h)
theorem lex_lt {x y:Aj}{us vs:List Ag}{xs ys:List Int}{ox oy:Obj}{n k:Nat}(hx:s.heap.get? x=some ox)(dx:ox.data=.seq us.toArray n)(hy:s.heap.get? y=some oy)(dy:oy.data=.seq vs.toArray k)
  (a:IntsAre us xs) (b:IntsAre vs ys) (hl:us.length=vs.length) (h:Q (vf xs ys) s):wpAny (model prog w) A (keyLt' (tuples' true) (.ref x) (.ref y)) Q E s:=by
 refine kat_lt hx dx hy dy ?_;have e:decide (us.toArray.size<vs.toArray.size)=false:=by simp[hl]
 rw[e];exact wvg 0 a b h
end
theorem wvm:∀xs,vf xs xs=false
 |[]=>rfl
 |x::xs=>by unfold vf;rw[av rfl];exact wvm xs
theorem qv9:∀ {n:Nat} {xs ys zs:List Int},xs.length=n->ys.length=n->zs.length=n->vf xs ys=true->vf ys zs=true->vf xs zs=true
 |0,[],[],[],_,_,_,h,_=>h
 |n+1,x::xs,y::ys,z::zs,h1,h2,h3,a,b=>by
  unfold vf at a b ⊢;by_cases e1:x=y
  .rw[av e1]at a;subst e1;by_cases e2:x=z
   .rw[av e2]at b ⊢;exact qv9 (by simpa using h1) (by simpa using h2) (by simpa using h3) a b
   .rw[ao e2]at b ⊢;exact b
  .rw[ao e1]at a;have:=ca a;by_cases e2:y=z
   .rw[av e2]at b;subst e2;rw[ao e1];exact a
   .rw[ao e2]at b;have:=ca b;rw[ao ⋯];exact aR ⋯
theorem qj8:∀ {n:Nat} {xs ys:List Int},xs.length=n->ys.length=n->vf xs ys=true\/xs=ys\/vf ys xs=true
 |0,[],[],_,_=>.inr (.inl rfl)
 |n+1,x::xs,y::ys,h1,h2=>by
  unfold vf;by_cases e:x=y
  .subst e;rw[av rfl,av rfl];rcases qj8 (n:=n) (xs:=xs) (ys:=ys) (by simpa using h1) (by simpa using h2) with h|h|h
   .exact .inl h
   .exact .inr (.inl (by rw[h]))
   .exact .inr (.inr h)
  .rw[ao e,ao (λz=>e z.symm)];by_cases c:x<y
   .exact .inl (aR c)
   .exact .inr (.inr (aR ⋯))
def kzL (ks:List (List Int))(x:List Int):Int:=((ks.countP λy=>vf y x:Nat):Int)
theorem qjg {n:Nat}{ks:List (List Int)}{x y:List Int}(hn:∀k∈ks,k.length=n)(hx:x∈ks)(hy:y∈ks):kzL ks x<kzL ks y↔vf x y=true:=by
 have L:∀u v,u∈ks->v∈ks->vf u v=true->(ks.countP λk=>vf k u)<ks.countP λk=>vf k v:=λu v D hv h=>by
  have J:∀k∈ks,vf k u=true->vf k v=true:=λk F e=>qv9 (hn k F) (hn u D) (hn v hv) e h;have U:(ks.countP λk=>vf k u)<=(ks.countP λk=>vf k v&&!(k==u)):=by
   refine List.countP_mono_left λk F e=>?_;have:k≠u:=λz=>by rw[z,wvm]at e;cases e
   simp[J k F e,this]
  have Z:(ks.countP λk=>vf k v&&!(k==u))+(ks.countP λk=>vf k v&&(k==u))<=ks.countP λk=>vf k v:=by
   clear J U D hv hn hx hy
   induction ks with
   |nil=>simp
   |cons k r ih =>
    simp only[List.countP_cons];by_cases c1:vf k v=true <;> by_cases c2:(k==u)=true <;> simp[c1,c2]at ih ⊢ <;> lia
  have W:0<ks.countP λk=>vf k v&&(k==u):=List.countP_pos_iff.mpr ⟨u,D,by simp[h]⟩;lia
 unfold kzL;constructor
 .intro h;rcases qj8 (hn x hx) (hn y hy) with c|c|c
  .exact c
  .rw[c]at h;lia
  .have:=L y x hy hx c;lia
 .intro h;have:=L x y hx hy h;lia
end L2
namespace L2
open PySem PySem.Spec PySem.Calls PySem.W PyProof.Rows
inductive TK (h:Heap) (d:Nat):List Ag->List (List Int)->Prop
 |nil:TK h d [] []
 |cons {x:Aj} {o:Obj} {us:List Ag} {n:Nat} {xs:List Int} {ks:List Ag} {kss:List (List Int)} (ho:h.get? x=some o) (hc:o.cls=.type "tuple") (hd:o.data=.seq us.toArray n) (hi:IntsAre us xs) (hl:xs.length=d) (t:TK h d ks kss):TK h d (.ref x::ks) (xs::kss)
theorem TK.length {h:Heap}{d:Nat}{ks:List Ag}{kss:List (List Int)}(t:TK h d ks kss):ks.length=kss.length:=by
 induction t with
 |nil=>rfl
 |cons _ _ _ _ _ _ ih=>simp[ih]
theorem TK.lens {h:Heap}{d:Nat}{ks:List Ag}{kss:List (List Int)}(t:TK h d ks kss):∀k∈kss,k.length=d:=by
 induction t with
 |nil=>intro k D;cases D
 |cons _ _ _ _ hl _ ih=>intro k D;rcases aQ.mp D with rfl|z;exact hl;exact ih k z
theorem TK.kept {h h':Heap}{d:Nat}{ks:List Ag}{kss:List (List Int)}(t:TK h d ks kss)(k:∀b o,h.get? b=some o->o.cls=.type "tuple" -> h'.get? b=some o):TK h' d ks kss:=by
 induction t with
 |nil=>exact .nil
 |cons a b c e f _ ih=>exact .cons (k _ _ a b) b c e f ih
theorem TK.at_ {h:Heap}{d:Nat}{ks:List Ag}{kss:List (List Int)}(t:TK h d ks kss):∀i,i<kss.length->∃x o us n,ks.getD i .none=.ref x/\h.get? x=some o/\o.data=.seq us.toArray n/\IntsAre us (kss.getD i [])/\(kss.getD i []).length=d:=by
 induction t with
 |nil=>intro i hi;simp at hi
 |@cons x o us n xs ks kss a b c e f _ ih =>
  intro i hi;cases i with
  |zero=>exact⟨x,o,us,n,rfl,a,c,e,f⟩
  |succ i=>exact ih i (by simpa using hi)
theorem Wv {us:List Ag}{xs:List Int}(h:IntsAre us xs):us.length=xs.length:=by
 induction h with
 |nil=>rfl
 |cons _ _ _ ih=>simp[ih]
theorem TK.tups {h:Heap}{d:Nat}{ks:List Ag}{kss:List (List Int)}(t:TK h d ks kss)(hd:1<=d):∃fs,KatTups h ks fs/\fs.length=ks.length/\∀v∈fs,∃i t,v=Value.int i t:=by
 induction t with
 |nil=>exact⟨[],trivial,rfl,λv hv=>by cases hv⟩
 |@cons x o us n xs ks kss a b c e f _ ih =>
  obtain⟨fs,h1,h2,D⟩:=ih;cases e with
  |nil=>simp at f;lia
  |@cons i t us' xs' e'=>exact⟨.int i t::fs,KatTups.cons a b c (by simp) h1,by simp[h2],λv hv=>by rcases aQ.mp hv with rfl|z;exact⟨i,t,rfl⟩;exact D v z⟩
section
variable {prog:Ac}{w:Ah}{A:Ae}{E:Ag->Ab->Prop}{s:Ab}{a kS:Aj}{vs ks:List Ag}{P:PySem.Fin->Ab->Prop}
end
end L2
namespace L2
open PySem PySem.Spec PySem.Calls PySem.W PyProof.Rows
section
variable {prog:Ac}{w:Ah}{A:Ae}{E:Ag->Ab->Prop}{s:Ab}{a kS:Aj}{vs ks:List Ag}{P:PySem.Fin->Ab->Prop}{f:Ag}
theorem wvx {α:Type}{J:List Ag->List α->Ab->Prop}{body:Ag->PUnit->Sem (ForInStep PUnit)}
  (hb:∀x ks kss (s:Ab),vs[ks.length]?=some x->J ks kss s->wpAny (model prog w) A (body x ⟨⟩) (λr s'=>r=.yield ⟨⟩/\∃k xs,J (ks++[k]) (kss++[xs]) s') E s):∀(r ks:List Ag) (kss:List α) (s:Ab),vs=vs.take ks.length++r->ks.length<=vs.length ->
   J ks kss s->wpAny (model prog w) A (forIn r PUnit.unit body) (λ_ s'=>∃ks kss,ks.length=vs.length/\J ks kss s') E s
 |[],ks,kss,s,hv,hl,j=>by rw[List.forIn_nil];refine ai ⟨ks,kss,?_,j⟩;rw[bQ]at hv;have:=cK List.length hv;rw[bg]at this;lia
 |x::r,ks,kss,s,hv,hl,j=>by
  rw[List.forIn_cons];have hlen:=cK List.length hv;rw[ar,bg,aJ]at hlen;have hx:vs[ks.length]?=some x:=by
   rw[hv,aA (by rw[bg];lia),bg];have:ks.length-min ks.length vs.length=0:=by lia
   rw[this];rfl
  refine aa (aZ (hb x ks kss s hx j) (λq s' F=>?_) λ_ _ x=>x);obtain⟨rfl,k,xs,D⟩:=F;show wpAny (model prog w) A (forIn r PUnit.unit body) _ E s';refine wvx hb r (ks++[k]) (kss++[xs]) s' ?_ (by rw[ar,cN];lia) D;rw[ar,cN,dH,hx];simpa using hv
def Zc (h:Heap)(a:Aj)(vs:List Ag):Heap:=((h.update a (Obj.mapSeq λ_=>(#[]:Array Ag))).push (seqObj "tuple" vs.toArray 0)).push (seqObj "list" #[] 0)
end
end L2
namespace L2
open PySem PySem.Spec PySem.Calls PySem.W PyProof.Rows
section
variable {X:Cx}{pins:List (Aj×Obj)}{σ:St}{H:Hp}{s:Ab}
theorem Inv.track {D:Aj}{o:HO}(I:Inv X pins σ H s)(hD:v6 X pins H D)(new:ObjOk X.prog X.w (upd H D o) s.heap D o):Inv X pins σ (upd H D o) s:=by
 obtain⟨F,Z,q3,W,U,L⟩:=hD;refine I.call' (s':=s) (ch:=[D]) rfl ⟨λb u q _ _ _=>q,λb u q _ _ _=>⟨u.slots,q⟩,λb u q n hx=>?_,λb u q _=>⟨u,q⟩,λb xs q=>?_,λb u xs q=>?_,λb ps q=>⟨#[],?_⟩⟩ (λb u e=>?_) I.bare λb J=>?_
 .rw[qt (λz=>hx (by simp[z]))];exact n
 .rw[qt (q9 q F)];exact q
 .rw[qt (q9 q F)];exact q
 .rw[qt (q9 q F),q];simp
 .by_cases J:b=D
  .subst J;rw[qc]at e;cases e;exact new
  .rw[qt J]at e;exact(I.hok b u e).stay (λc v _ q=>q) (λc q=>by rw[qt (q9 q F)];exact q) λc xs q=>by rw[qt (q9 q F)];exact q
 .obtain rfl:b=D:=by simpa using J
  exact⟨W,Z,U,L⟩
end
end L2
namespace L2
open PySem PySem.Spec PySem.Calls PySem.W PyProof.Rows
def xwy (X:Cx)(f:Ag)(ks:List Str)(r:List V->List V->Hp->VK->Prop):Prop :=
 ∀(pins:List (Aj×Obj)) (s:Ab) (σ:St) (H:Hp) (xs zs:List V) (us ws:List Ag) (Q:VK),Inv X pins σ H s->Vals xs us->Vals zs ws->r xs zs H Q ->
  wpAny (model X.prog X.w) X.A (call f us (ks.zip ws)) (EP X pins σ Q) X.xe s
def tCBK (r:List V->List V->Hp->VK->Prop)(t tk:TA):TE:=λσ H Q=>t σ H λvs H1=>tk σ H1 λzs H2=>r vs zs H2 Q
section
variable {X:Cx}{x:Str}{p pos:Pos}{e:Expr}{es:List Expr}{kws:List Keyword}{t tk:TA}{id:String}{ks:List Str}{r:List V->List V->Hp->VK->Prop}
theorem wjw (hc:xwy X (.builtin id) ks r)(hg:Gl X x)(hm:X.mg x=none)(hv:bootBuiltins x=some (.builtin id))(ha:PA X (e::es) t)(hkw:PK X kws tk)
  (hall:autoParam ((backToKw pos (keywordEach kws X.env)).all (·.1.isSome)=true) aU4._auto_1) (hks:autoParam ((backToKw pos (keywordEach kws X.env)).filterMap (·.1)=ks) aU4._auto_1) (hn:autoParam (x ≠ "__name__") aU2._auto_1) (hdb:autoParam ((x==("__debug__" : Str))=false) aU1._auto_1)
  (he:autoParam (starEach (e::es) X.env=(false,eval e X.env)::starEach es X.env) aU4._auto_1)
  (hpl:autoParam ((backTo pos (starEach (e::es) X.env)).any (·.1)=false) aU4._auto_1) (hpk:autoParam ((backToKw pos (keywordEach kws X.env)).any (·.1.isNone)=false) aU4._auto_1):PE X (.Call (.Name x p) (e::es) kws pos) (tCBK r t tk):=by
 intro pins s σ H Q I h;refine dk (j3 I hg hm hv ?_ hn hdb);refine callWith_builtin_kwB hpl hpk (evalArgs_kw2 hall (thn (ha pos pins s σ H _ I h) λus s1 ⟨vs,H1,I1,r1,q⟩=>?_) he);refine thn (hkw pos pins s1 σ H1 _ I1 q) λws s2 ⟨zs,H2,I2,rz,q2⟩=>?_;dsimp only [List.nil_append];rw[hks];exact hc pins s2 σ H2 vs zs us ws Q I2 r1 rz q2
end
end L2
namespace L2
open PySem PySem.Spec PyProof.Rows
def Tups (L:List (List Int))(ys:List V)(H:Hp):Prop:=Paired (λv xs=>∃a,v=.ref a/\H a=some (.tup (xs.map V.int))) ys L
theorem Tups.keep {L:List (List Int)}{ys:List V}{H H':Hp}(h:Tups L ys H)(k:∀a xs,H a=some (.tup xs)->H' a=some (.tup xs)):Tups L ys H' :=
 Paired.mono (λ_ _ ⟨a,e,f⟩=>⟨a,e,k a _ f⟩) h
theorem Tups.same {L:List (List Int)}{ys:List V}{H H':Hp}(h:Tups L ys H)(s:Same H H'):Tups L ys H':=h.keep λa xs e=>s a _ e
theorem Tups.upd {L:List (List Int)}{ys zs:List V}{H:Hp}{p:Aj}{o:HO}(h:Tups L ys H)(hp:H p=some (.lst zs)):Tups L ys (upd H p o):=h.keep λa xs e=>by rw[qt (λz=>by rw[z,hp]at e;cases e)];exact e
theorem Tups.snoc {L:List (List Int)}{ys:List V}{H:Hp}{a:Aj}{xs:List Int}(h:Tups L ys H)(ha:H a=some (.tup (xs.map V.int))):Tups (L++[xs]) (ys++[.ref a]) H:=Paired.app h (.cons ⟨a,rfl,ha⟩ .nil)
theorem Tups.get {L:List (List Int)}{ys:List V}{H:Hp}(h:Tups L ys H){i:Nat}{v:V}(e:ys[i]?=some v):∃a xs,v=.ref a/\L[i]?=some xs/\H a=some (.tup (xs.map V.int)):=by
 unfold Tups at h
 induction h generalizing i with
 |nil=>simp at e
 |cons r t ih =>
  cases i with
  |zero =>
   obtain⟨a,rfl,f⟩:=r;simp at e;exact⟨a,_,e.symm,rfl,f⟩
  |succ i=>exact ih (by simpa using e)
theorem Tups.len {L:List (List Int)}{ys:List V}{H:Hp}(h:Tups L ys H):ys.length=L.length:=b7 h
section
variable {X:Cx}{K:Aa}
theorem xw7 (hK:X.K=K):OpR X (binaryOp .Add) (rCatW K):=by subst hK;exact xx7
end
def Z5 (c:Int->Bool)(row vs:List Int):List (List Int):=(vs.filter c).map λv=>row++[v]
theorem qkh (c:Int->Bool)(row vs:List Int)(v:Int):Z5 c row (vs++[v])=Z5 c row vs++if c v=true then [row++[v]] else []:=by
 unfold Z5;rw[fU,bj];congr 1;by_cases h:c v=true
 .rw[av h,fA,av h];rfl
 .rw[ao h,fA,ao h];rfl
theorem qu1 (c:Int->Bool)(row vs:List Int):(Z5 c row vs).length<=vs.length:=by unfold Z5;rw[ag];exact dj _ _
def W4 (c:Int->Bool)(g:List Int->List Int)(L:List (List Int)):List (List Int):=L.flatMap λr=>Z5 c r (g r)
theorem quk {c:Int->Bool}{g:List Int->List Int}:∀ {L:List (List Int)},(∀r∈L,(g r).length<=24)->(W4 c g L).length<=24*L.length
 |[],_=>aj _
 |r::L,h=>by
  have ih:=quk (c:=c) (g:=g) (L:=L) λr hr=>h r (.tail _ hr);have h1:=qu1 c r (g r);have h2:=h r (.head _);have e:W4 c g (r::L)=Z5 c r (g r)++W4 c g L:=by unfold W4;rw[List.flatMap_cons]
  rw[e,ar,aJ];lia
theorem wkn (c:Int->Bool)(g:List Int->List Int){L:List (List Int)}{i:Nat}{r:List Int}(h:L[i]?=some r):W4 c g (L.take (i+1))=W4 c g (L.take i)++Z5 c r (g r):=by unfold W4;rw[dH,h,g9];simp
theorem qy3 {K:Aa}{M:List Nat}{q:Aj}{us:List V}{wi2:TI}{tt:TT}{te:TE}{σ:St}{H:Hp}{Q:VK}(L:List (List Int))(g:List Int->List Int)(c:Int->Bool)(hq:SqL K H q us)(hL:Tups L us H)(hn:L.length<=10000)(hg:∀r∈L,(g r).length<=24)
  (hw:∀(r:List Int) (a:Aj) (H':Hp) (R:It->Hp->Prop),r∈L->H' a=some (.tup (r.map V.int))->Same H H'->(∀b,SqL K H b ((g r).map V.int)->R (Itl K b) H')->wi2 (zx M σ (some (.ref a)) none) H' R)
  (ht:∀(r:List Int) (a:Aj) (u:Int) (H':Hp) (R:Bool->Hp->Prop),r∈L->u∈g r->Same H H'->R (c u) H'->tt (zx M σ (some (.ref a)) (some (.int u))) H' R)
  (he:∀(r:List Int) (a:Aj) (u:Int) (H':Hp) (R:VK),r∈L->u∈g r->c u=true->H' a=some (.tup (r.map V.int))->Same H H'->(∀b H'',Same H' H''->H'' b=some (.tup ((r++[u]).map V.int))->R (.ref b) H'')->te (zx M σ (some (.ref a)) (some (.int u))) H' R)
  (k:∀p ys H',H p=none->Same H H'->H' p=some (.lst ys)->Tups (W4 c g L) ys H'->Q (.ref p) H'):qju (Itl K q) M wi2 tt te σ H Q:=by
 have ad:(1000000:Nat)<sizeLine:=by decide
 intro p np;have ac:∀ {H':Hp} {o:HO},Same H H'->Same H (upd H' p o):=λs b u e=>by rw[qt (q9 e np)];exact s b u e
 have tl:∀i,∀r∈L.take i,(g r).length<=24:=λi r hr=>hg r (dA hr);have lu:=hL.len;refine⟨λi m ys H2=>i<=L.length/\m=L.length-i/\Same H H2/\H2 p=some (.lst ys)/\Tups (W4 c g (L.take i)) ys H2,⟨L.length,aW _,rfl,Same.upd np,qc,.nil⟩,?_⟩;rintro i m ys H2 ⟨hi,rfl,s2,f2,t2⟩;refine⟨f2,?_⟩;rcases bp i L.length with z|z
 .have Z:us[i]?=some us[i]:=ae ⋯;obtain⟨a,r,ea,er,fa⟩:=(hL.same s2).get Z;have J:r∈L:=aC er;refine .inr ⟨⟨us,_,s2.sql hq,Z⟩,?_⟩;rintro v H3 ⟨rfl,hv⟩;have e:=au (Z.symm.trans (hv us (s2.sql hq)));rw[ea]at e;subst e;refine hw r a H3 _ J fa s2 λb U=>?_;have lg:((g r).map V.int).length=(g r).length:=ag _;refine⟨λj m2 zs F=>j<=(g r).length/\m2=(g r).length-j/\Same H F/\F a=some (.tup (r.map V.int))/\F p=some (.lst zs)/\Tups (W4 c g (L.take i)++Z5 c r ((g r).take j)) zs F,⟨(g r).length,aW _,rfl,s2,fa,f2,by rw[show Z5 c r ((g r).take 0)=[] from rfl,bQ];exact t2⟩,?_⟩;rintro j m2 zs F ⟨hj,rfl,s5,fa5,f5,t5⟩;have lz:zs.length<sizeLine:=by have e1:=t5.len;have e2:=quk (c:=c) (tl i);have e3:=qu1 c r ((g r).take j);have e4:=hg r J;rw[bg]at e2 e3;rw[ar]at e1;lia
  refine⟨f5,lz,?_⟩;rcases bp j (g r).length with y|y
  .have eu:(g r)[j]?=some (g r)[j]:=ae y;have um:(g r)[j]∈g r:=bw _;have ab:((g r).map V.int)[j]?=some (.int (g r)[j]):=by rw[ax,eu];rfl
   refine .inr ⟨⟨_,_,s5.sql U,ab⟩,?_⟩;rintro u H6 ⟨rfl,hu⟩;have e:=au (ab.symm.trans (hu _ (s5.sql U)));subst e;refine ht r a _ H6 _ J um s5 ?_;have ap:a≠p:=λw=>by rw[w,f5]at fa5;cases fa5
   have et:(g r).take (j+1)=(g r).take j++[(g r)[j]]:=by rw[dH,eu];rfl
   cases hc:c (g r)[j] with
   |true =>
    refine Wj ?_;refine he r a _ H6 _ J um hc fa5 s5 λb' H7 D W=>⟨D _ _ f5,(g r).length-(j+1),⋯,⋯,rfl,ac (s5.trans D),by rw[qt ap];exact D _ _ fa5,qc,?_⟩;rw[et,qkh,av hc,<-aX];exact((t5.same D).upd (D _ _ f5)).snoc (by rw[qt (λw=>by rw[w,D _ _ f5]at W;cases W)];exact W)
   |false =>
    refine Q8 ⟨f5,(g r).length-(j+1),⋯,⋯,rfl,s5,fa5,f5,?_⟩;rw[et,qkh,ao (by rw[hc];exact aF),bQ];exact t5
  .obtain rfl:j=(g r).length:=by lia
   refine .inl ⟨⟨_,s5.sql U,by rw[lg];exact aj _⟩,L.length-(i+1),⋯,⋯,rfl,s5,f5,?_⟩;rw[wkn c g er];rw[bD]at t5;exact t5
 .obtain rfl:i=L.length:=by lia
  rw[bD]at t2;exact .inl ⟨⟨us,s2.sql hq,⋯⟩,k p ys H2 np s2 f2 t2⟩
end L2
namespace L2
open PySem PySem.Spec PySem.Calls PySem.W PyProof.Rows
def uz (w:Ah)(S:Aj)(ps:List (Int×Ag)):HO:=.ext λh=>SAt w h S ps
theorem qq9 {P:Ac}{w:Ah}{H:Hp}{h:Heap}{S:Aj}{ps:List (Int×Ag)}(x:SAt w h S ps):ObjOk P w H h S (uz w S ps):=⟨x,let ⟨o,_,_,e,_⟩:=x;⟨o,e⟩,λh1 h2 a k=>a.at_ k⟩
def PsT (P:Ac)(w:Ah)(H:Hp)(ps:List (Int×Ag))(L:List (List Int)):Prop:=Paired (λp (xs:List Int)=>∃a,p=((KD P w).hash (xs.map Sum.inl),Value.ref a)/\H a=some (.tup (xs.map V.int))) ps L
def PsI (P:Ac)(w:Ah)(ps:List (Int×Ag))(ns:List Int):Prop:=Paired (λp (n:Int)=>∃t,p=((intKind P w).hash n,Value.int n t)) ps ns
theorem wv4 (xs:List Int):(xs.map (Sum.inl:Int->Key)).map kV=xs.map V.int:=by rw[bF];rfl
theorem xzy {xs ys:List Int}(h:xs.map (Sum.inl:Int->Key)=ys.map Sum.inl):xs=ys:=(List.map_inj_right λa b e=>Sum.inl.inj e).mp h
theorem PsT.kp {P:Ac}{w:Ah}{H:Hp}{h:Heap}(ok:HOk P w H h):∀ {ps:List (Int×Ag)} {L:List (List Int)},PsT P w H ps L->KP P w h ps (L.map λxs=>xs.map Sum.inl)
 |_,_,.nil=>.nil
 |_,_,.cons ⟨a,e,f⟩ t=>.cons ⟨a,e,Jc ok (by rw[wv4];exact f)⟩ (PsT.kp ok t)
theorem PsT.keep {P:Ac}{w:Ah}{H H':Hp}{ps:List (Int×Ag)}{L:List (List Int)}(h:PsT P w H ps L)(k:∀a xs,H a=some (.tup xs)->H' a=some (.tup xs)):PsT P w H' ps L :=
 Paired.mono (λ_ _ ⟨a,e,f⟩=>⟨a,e,k a _ f⟩) h
theorem PsT.len {P:Ac}{w:Ah}{H:Hp}{ps:List (Int×Ag)}{L:List (List Int)}(h:PsT P w H ps L):ps.length=L.length:=b7 h
theorem PsI.len {P:Ac}{w:Ah}{ps:List (Int×Ag)}{L:List Int}(h:PsI P w ps L):ps.length=L.length:=b7 h
theorem Paired.perm {α β:Type}{R:α->β->Prop}{ps ps':List α}{L:List β}(p:ps'.Perm ps)(h:Paired R ps L):∃L',L'.Perm L/\Paired R ps' L':=by
 induction p generalizing L with
 |nil =>
  cases h;exact⟨[],.refl _,.nil⟩
 |cons x _ ih =>
  cases h with
  |cons r t =>
   obtain⟨L',a,b⟩:=ih t;exact⟨_::L',a.cons _,.cons r b⟩
 |swap x y l =>
  cases h with
  |cons r t =>
   cases t with
   |cons r' t=>exact⟨_,.swap _ _ _,.cons r' (.cons r t)⟩
 |trans _ _ ih1 ih2 =>
  obtain⟨Z,U,F⟩:=ih2 h;obtain⟨W,J,D⟩:=ih1 F;exact⟨W,J.trans U,D⟩
abbrev qxg:=Aj->List (Int×Ag)->V->Hp->(List (Int×Ag)->Hp->Prop)->Prop
def Yq (X:Cx)(add:qxg):Prop:=∀(pins:List (Aj×Obj)) (s:Ab) (σ:St) (H:Hp) (p:Aj) (ps:List (Int×Ag)) (y:V) (yv:Ag) (Q:List (Int×Ag)->Hp->Prop),Inv X pins σ H s->RelV y yv->H p=some (uz X.w p ps)->add p ps y H Q ->
 wpAny (model X.prog X.w) X.A (call (.builtin "set.add") [.ref p,yv]) (λ_ s'=>∃ps' H',Inv X pins σ H' s'/\Q ps' H') X.xe s
def addT (P:Ac)(w:Ah):qxg:=λp ps y H Q=>∃a xs L,y=.ref a/\H a=some (.tup (xs.map V.int))/\PsT P w H ps L/\ps.length<1099/\(xs∈L->Q ps H)/\(xs∉L->∀ps',ps'.Perm (((KD P w).hash (xs.map Sum.inl),.ref a)::ps)->Q ps' (upd H p (uz w p ps')))
def addI (P:Ac)(w:Ah):qxg:=λp ps y H Q=>∃(n:Int) (L:List Int),y=.int n/\PsI P w ps L/\ps.length<1000/\(n∈L->Q ps H)/\(n∉L->∀ps' t,ps'.Perm (((intKind P w).hash n,.int n t)::ps)->Q ps' (upd H p (uz w p ps')))
section
variable {prog:Ac}{w:Ah}{A:Ae}{E:Ag->Ab->Prop}{s:Ab}{S:Aj}{ps:List (Int×Ag)}
theorem xv1 {L:List Int}(h:PsI prog w ps L):ElemsOf (intKind prog w) ps:=by
 induction h with
 |nil=>intro e D;cases D
 |@cons p n ps L r t ih =>
  obtain⟨tk,rfl⟩:=r;intro e D;rcases aQ.mp D with rfl|D
  .exact⟨⟨n,by simp[intKind,Value.isInt],rfl⟩,rfl⟩
  .exact ih e D
theorem PsI.mem_of {L:List Int}{n:Int}(h:PsI prog w ps L):(∃j,ps.findIdx? (λe=>(intKind prog w).is n e.2)=some j)↔n∈L:=by
 constructor
 .rintro⟨j,Z⟩;obtain⟨W,F,_⟩:=List.findIdx?_eq_some_iff_getElem.mp Z;have J:∀ {ps:List (Int×Ag)} {L:List Int},PsI prog w ps L->∀p∈ps,(intKind prog w).is n p.2=true->n∈L:=by
   intro ps L h
   induction h with
   |nil=>intro p F;cases F
   |@cons p m ps L r t ih =>
    obtain⟨tk,rfl⟩:=r;intro q U D;rcases aQ.mp U with rfl|U
    .have:m=n:=by simpa [intKind,Value.isInt] using D
     rw[this];exact .head _
    .exact .tail _ (ih q U D)
  exact J h _ (bw W) F
 .intro D;cases q:ps.findIdx? (λe=>(intKind prog w).is n e.2) with
  |some j=>exact⟨j,rfl⟩
  |none =>
   have ab:=List.findIdx?_eq_none_iff.mp q;have J:∀ {ps:List (Int×Ag)} {L:List Int},PsI prog w ps L->n∈L->∃p∈ps,(intKind prog w).is n p.2=true:=by
    intro ps L h
    induction h with
    |nil=>intro D;cases D
    |@cons p m ps L r t ih =>
     obtain⟨tk,rfl⟩:=r;intro D;rcases aQ.mp D with rfl|D
     .exact⟨_,.head _,by simp[intKind,Value.isInt]⟩
     .obtain⟨p,F,e⟩:=ih D;exact⟨p,.tail _ F,e⟩
   obtain⟨p,F,e⟩:=J h D;have:=ab p F;rw[e]at this;cases this
theorem xwk {L:List Int}{n:Int}{t0:Tok}{Q:Bool->Ab->Prop}(P:SAt w s.heap S ps)(K:PsI prog w ps L)(hn:ps.length<1000)(hQ1:n∈L->∀tk,Q false { s with toks:=tk })
  (hQ2:n∉L->∀h' tk ps',Heap.SameBut S s.heap h'->SAt w h' S ps'->ps'.Perm (((intKind prog w).hash n,.int n t0)::ps)->Q true { s with heap:=h',toks:=tk }) :
  wpAny (model prog w) A (setAdd S (.int n t0)) Q E s:=by
 obtain⟨o,ep,t,W,an,Z,T,a4⟩:=P;have bm:=T.big;have ad:(intKind prog w).is n (.int n t0)=true:=by simp[intKind,Value.isInt]
 have el:=xv1 K;have a2:scanBound=4096:=rfl;unfold setAdd;refine bN (aa ((intKind prog w).pyHash ad ?_));generalize s.toks+1=tk;unfold setAddHashed setAddHashedIn;refine bN (aa (bE (s:={ s with toks:=tk }) W Z T.fits' ?_));dsimp only;rw[byScan_of (knd:=intKind prog w) rfl (by rw[aq];lia) (by simpa using el)];simp only[cY];unfold setAddByScan;refine aa ?_;refine aa (dI ?_);refine aa (wpAny_setScan_of (s:={ s with toks:=tk }) ad W Z T.fits' (by simpa using el) ?_);rw[show ps.toArray.toList=ps from rfl];cases hr:ps.findIdx? (λe=>(intKind prog w).is n e.2) with
 |some j =>
  dsimp only;exact ai (ai (hQ1 (K.mem_of.mp ⟨j,hr⟩) tk))
 |none =>
  have ac:n∉L:=λz=>by obtain⟨j,ej⟩:=K.mem_of.mpr z;rw[hr]at ej;cases ej
  dsimp only;obtain⟨N,r1,r2,r3⟩:=T.free ((intKind prog w).hash n);generalize hh:(intKind prog w).hash n=h at r1 r2 r3 hQ2 ⊢;have fs:t.freeSlot h=some (pos t h N,false):=by
   unfold SetTable.freeSlot SetTable.probe;obtain⟨m,e1,ok⟩:=Yf (t:=t) (h:=h) (ha:=λ_=>h+1) N (10*SetTable.turns t.mask) (t.probeStart h) (by unfold SetTable.turns;lia) rfl r3 (.inl r2);rw[e1];cases ok with
   |empty hs=>rfl
   |cand m i hm hs hh=>lia
  obtain⟨F,a3⟩:=T.put r1 r2 r3 (by rw[ag];lia);have pm:=uw ps (t.put (pos t h N)).2 (h,Value.int n t0);have U:=pm.length_eq;rw[aJ]at U;rw[<-wv3 ps (t.put (pos t h N)).2 (h,Value.int n t0)]at F;have a0:(t.put (pos t h N)).1.fits (xn ps (t.put (pos t h N)).2 (h,Value.int n t0)).toArray.size=true:=F.fits';have ln:layNew t ps.toArray h (.int n t0)=((xn ps (t.put (pos t h N)).2 (h,Value.int n t0)).toArray,(t.put (pos t h N)).1,false,false):=by unfold layNew;rw[fs];dsimp only;rw[wvj];unfold SetTable.orStandIn;rw[a0];rfl
  rw[ln];dsimp only;have hm:(t.put (pos t h N)).1.mask=t.mask:=rfl;generalize (t.put (pos t h N)).2=p at F pm U ⊢;generalize (t.put (pos t h N)).1=t1 at F hm ⊢;have a5:100000<=sizeLine:=by decide
  have gw:∀ {s₁:Ab} {Q':Unit->Ab->Prop},Q' () s₁->wpAny (model prog w) A (match false with | true=>rule "set.scan.the-table-gave-way" | false=>pure ()) Q' E s₁:=λhq=>ai hq;refine aa (gw ?_);rw[av F.plain,hashByValue_scannable 8 rfl];refine aa (ai ?_);simp only[plainKind,cY];refine aa (gm (s:={ s with toks:=tk }) W Z ?_ (by rw[aq];lia));have g1:(s.heap.update S (Obj.putSet (xn ps p (h,Value.int n t0)).toArray t1)).get? S=some { o with data:=.set (xn ps p (h,Value.int n t0)).toArray (ep+1) t1 }:=qjq W Z;have ab:Heap.SameBut S s.heap (s.heap.update S (Obj.putSet (xn ps p (h,Value.int n t0)).toArray t1)):=cB _ _ _;have fl:t1.fill=ps.length+1:=by unfold SetTable.fill;rw[F.dm,F.pl,ag,U];rfl
  generalize s.heap.update S (Obj.putSet (xn ps p (h,Value.int n t0)).toArray t1)=h1 at g1 ab ⊢;by_cases tf:t1.tooFull=true
  .rw[tf];simp only[iz,jX,cY];have gr:SetTable.grown (xn ps p (h,Value.int n t0)).toArray.size=4*((xn ps p (h,Value.int n t0)).map (·.1)).length:=by unfold SetTable.grown;rw[ao (by rw[aq];lia),ag,aq];lia
   obtain⟨J,D,f1,f2,T2,f4⟩:=F.relay (by rw[ag,U];lia);have as:(xn ps p (h,Value.int n t0)).toArray.map (·.1)=((xn ps p (h,Value.int n t0)).map (·.1)).toArray:=by simp
   have am:∀i∈D.toList,i<(xn ps p (h,Value.int n t0)).length:=λi hi=>by have:=aw.mp (f2.mem_iff.mp hi);rwa [ag]at this
   have oe:D.filterMap (λi=>(xn ps p (h,Value.int n t0)).toArray[i]?)=(D.toList.map λi=>(xn ps p (h,Value.int n t0)).getD i (0,.none)).toArray:=by apply eI.mp;rw[Array.toList_filterMap,Zb _ _ am]
   have ol:(D.toList.map λi=>(xn ps p (h,Value.int n t0)).getD i (0,.none)).length=(xn ps p (h,Value.int n t0)).length:=by rw[ag,f2.length_eq,aH,ag]
   have op:(D.toList.map λi=>(xn ps p (h,Value.int n t0)).getD i (0,.none)).Perm (xn ps p (h,Value.int n t0)):=by
    refine(f2.map _).trans ?_;rw[ag];have:(List.range (xn ps p (h,Value.int n t0)).length).map (λi=>(xn ps p (h,Value.int n t0)).getD i (0,.none))=xn ps p (h,Value.int n t0):=by
     refine bT λi=>?_;rw[ax];by_cases c:i<(xn ps p (h,Value.int n t0)).length
     .rw[bA c];simp[af,c]
     .rw[aO (by simp;lia),aO ⋯];rfl
    rw[this]
   have om:(D.toList.map λi=>(xn ps p (h,Value.int n t0)).getD i (0,.none)).map (·.1)=D.toList.map λi=>((xn ps p (h,Value.int n t0)).map (·.1)).getD i 0:=by rw[bF];refine eF λi hi=>?_;have:=am i hi;simp[af,this]
   rw[<-om]at T2;have a1:coversAll D (xn ps p (h,Value.int n t0)).toArray.size=true:=by unfold coversAll;rw[List.isPerm_iff,aq];have:=f2;rwa [ag]at this
   have ra:relayAll t1 (xn ps p (h,Value.int n t0)).toArray (SetTable.grown (xn ps p (h,Value.int n t0)).toArray.size)=((D.toList.map λi=>(xn ps p (h,Value.int n t0)).getD i (0,.none)).toArray,J,false):=by unfold relayAll;rw[gr,as,f1];dsimp only;rw[oe,a1];have:=T2.fits';rw[this];rfl
   rw[ra];dsimp only;generalize (D.toList.map λi=>(xn ps p (h,Value.int n t0)).getD i (0,.none))=ps2 at T2 op ol;refine aa (gw ?_);refine aa (gm (s:={ s with heap:=h1,toks:=tk }) g1 rfl ?_ (by rw[aq,ol];lia));refine ai ?_;dsimp only;have ap:Heap.SameBut S h1 (h1.update S (Obj.putSet ps2.toArray J)):=cB _ _ _;have g2:(h1.update S (Obj.putSet ps2.toArray J)).get? S=some { o with data:=.set ps2.toArray (ep+1+1) J }:=qjq g1 rfl;refine ai (hQ2 ac _ tk ps2 (ab.trans ap) ⟨_,_,J,g2,an,rfl,T2,?_⟩ (op.trans pm));rw[ag]at f4;lia
  .rw[i7]at tf;rw[tf];simp only[ig,aG,bB];refine ai (ai (hQ2 ac h1 tk _ ab ⟨_,_,t1,g1,an,rfl,F,?_⟩ pm));unfold SetTable.tooFull at tf;have:=of_decide_eq_false tf;rw[fl]at this;lia
theorem qy1 {x:Ag}{Q:Ag->Ab->Prop}(hT:s.TypeIs (.ref S) "set")(h:wpAny (model prog w) A.in1 (setAdd S x) (λ_ s'=>Q .none s') E s):wpAny (model prog w) A (call (.builtin "set.add") [.ref S,x]) Q E s:=by refine cS F.slot_set_add hT F.entry_set_add ?_ (F.args_set_add_2 _ _);unfold Builtin.«set.add» Builtin.Frozenset.oneOther;simp only[List.isEmpty_nil,bind_assoc];unfold Builtin.Frozenset.addrOf;(refine aa (ai ?_) ;try dsimp only);(refine aa (ai ?_) ;try dsimp only);refine aa (aZ h (λb s' D=>?_) λ_ _ e=>e);show wpAny _ _ (ret Value.none) _ _ _;exact ai ⟨_,rfl,D⟩
end
section
variable {X:Cx}
theorem xzp (hu:X.A.units+64<cLine):Yq X (addT X.prog X.w):=by
 intro pins s σ H p ps y Z Q I ry F h;obtain⟨a,xs,L,rfl,J,hL,hn,q1,q2⟩:=h;obtain rfl:Z=Value.ref a:=ry;have P:SAt X.w s.heap p ps:=(I.hok p _ F).1;obtain⟨_,ab,rv,o,h1,h2,n,h3⟩:=(show ObjOk X.prog X.w H s.heap a (.tup (xs.map V.int)) from I.hok a _ J);have K:=hL.kp I.hok;have hx:(KD X.prog X.w).is s.heap (xs.map Sum.inl) a:=Jc I.hok (by rw[wv4];exact J);refine qy1 P.typeIs (xqp P K hx h1 h3 (λv hv=>?_) (by show X.A.in1.units<cLine;simp only[Around.in1];lia) hn (λz tk=>?_) λz h' tk D sb U pm=>?_)
 .exact(jw rv).all v hv
 .refine⟨ps,H,I.tok _,q1 ?_⟩;obtain⟨ys,hy,e⟩:=aS.mp z;rw[<-xzy e];exact hy
 .refine⟨D,_,qwz I (by rw[F];trivial) sb (let ⟨o,_,_,e,_⟩:=U;⟨o,e⟩) (qq9 U),q2 (λW=>z (aS.mpr ⟨xs,W,rfl⟩)) D pm⟩
theorem xvs:Yq X (addI X.prog X.w):=by intro pins s σ H p ps y yv Q I W F h;obtain⟨n,L,rfl,hL,hn,q1,Z⟩:=h;obtain⟨t,rfl⟩:=W;have P:SAt X.w s.heap p ps:=(I.hok p _ F).1;refine qy1 P.typeIs (xwk P hL hn (λz tk=>⟨ps,H,I.tok _,q1 z⟩) λz h' tk D U J pm=>?_);exact⟨D,_,qwz I (by rw[F];trivial) U (let ⟨o,_,_,e,_⟩:=J;⟨o,e⟩) (qq9 J),Z z D t pm⟩
end
end L2
namespace L2
open PySem PySem.Spec PySem.Calls PySem.W PyProof.Rows
theorem wqh {α:Type}:∀l:List α,l.zip l=l.map λv=>(v,v)
 |[]=>rfl
 |a::l=>by rw[ie,wqh l];rfl
theorem TK.at_' {h:Heap}{d:Nat}{ks:List Ag}{kss:List (List Int)}(t:TK h d ks kss):∀i,i<kss.length->∃x o us n,ks.getD i .none=.ref x/\h.get? x=some o/\o.cls=.type "tuple" /\ o.data=.seq us.toArray n/\IntsAre us (kss.getD i [])/\(kss.getD i []).length=d:=by
 induction t with
 |nil=>intro i hi;simp at hi
 |@cons x o us n xs ks kss a b c e f _ ih =>
  intro i hi;cases i with
  |zero=>exact⟨x,o,us,n,rfl,a,b,c,e,f⟩
  |succ i=>exact ih i (by simpa using hi)
section
variable {prog:Ac}{w:Ah}{A:Ae}{E:Ag->Ab->Prop}{s:Ab}{S:Aj}{ps:List (Int×Ag)}
theorem quf {Q:List Ag->Ab->Prop}(hh:A.handled=none)(P:SAt w s.heap S ps)(hn:ps.length<=sizeLine)
  (h:∀h' tk (qs:List (Int×Ag)),(∀b o,s.heap.get? b=some o->h'.get? b=some o)->qs.Perm ps->s.heap.objs.size<=h'.objs.size->Q (qs.map (·.2)) { s with heap:=h',toks:=tk }):wpAny (model prog w) A (collect (.ref S)) Q E s:=by
 obtain⟨o,ep,t,U,ab,hd,T,ac⟩:=P;have W:S<s.heap.objs.size:=al U;have R:SRaw (s.heap.push (seqObj "list" #[] 0)) S ps ep t:=⟨o,ah _ U,ab,hd⟩;have run:codeAny (model prog w) A (.builtin "proto.collect" ⟨[.ref S],[]⟩) (λr s'=>r=.ok (.ret (.ref s.heap.objs.size))/\∃h' tk D c',s'={ s with heap:=h',toks:=tk }/\(∀b o,b≠s.heap.objs.size->(s.heap.push (seqObj "list" #[] 0)).get? b=some o->h'.get? b=some o) /\
   h'.get? s.heap.objs.size=some { cls:=.type "list",dict:=none,data:=.seq D c',slots:=#[] }/\ItemsOf (λi v=>∃p,(wk w S ep ps)[i]?=some p/\v=p.2) D ps.length) s:=by
  refine gX entry_proto_collect' ?_;show wpAny _ _ (do again (.builtin "list.__iadd__" ⟨[<-newList [],.ref S],[]⟩)) _ _ s;(refine aa (gK (ai ⟨Code.quiet_builtin _ (by decide +kernel),gX entry_list_iadd' ?_⟩)) ;rw[gQ (show plainId "list.__iadd__" = true by decide +kernel) _]);show wpAny _ _ (Builtin.List.listExtendWith (.ref s.heap.objs.size) (.ref S) (.ref s.heap.objs.size)) _ _ _;exact kdl_extend (s:={ s with heap:=s.heap.push (seqObj "list" #[] 0) }) (R:=λr s'=>r=.ok (.ret (.ref s.heap.objs.size))/\∃h' tk D c',s'={ s with heap:=h',toks:=tk }/\(∀b o,b≠s.heap.objs.size->(s.heap.push (seqObj "list" #[] 0)).get? b=some o->h'.get? b=some o) /\
   h'.get? s.heap.objs.size=some { cls:=.type "list",dict:=none,data:=.seq D c',slots:=#[] }/\ItemsOf (λi v=>∃p,(wk w S ep ps)[i]?=some p/\v=p.2) D ps.length) (xvp T) (by simpa using hh) R s.heap.objs.size (fi W) (fi W) (.ref s.heap.objs.size) 0 (az _ rfl) (λh' tk D c' J F L=>⟨rfl,h',tk,D,c',rfl,J,F,L⟩) hn
 unfold collect;refine aa (wpAny_runValue (fj run λr s' hr=>?_));obtain⟨rfl,h',tk,D,c',rfl,J,F,L⟩:=hr;dsimp only;refine aa (wpAny_load F ?_);refine ai ?_;have e:D.toList=(wk w S ep ps).map (·.2):=by
  obtain⟨Z,a2⟩:=L;have hl:=(qwy w S ep ps).length_eq;refine bT λi=>?_;rw[ax];by_cases c:i<ps.length
  .have hi:i<D.size:=by rw[Z];exact c
   obtain⟨p,e1,e2⟩:=a2 i D[i] (bb hi);rw[aE,bb hi,e1,e2];rfl
  .rw[aO (by rw[aU,Z];lia),aO ⋯];rfl
 rw[e];refine h h' tk _ (λb o e=>J b o (aB (al e)) (ah _ e)) (qwy w S ep ps) ?_;exact br (al F)
theorem wwj {a:Aj}{vs:List Ag}{k d:Nat}{kss:List (List Int)}{P:PySem.Fin->Ab->Prop}(ho:s.heap.get? a=some (seqObj "list" vs.toArray k))(h6:vs.length<=100000)(hd:1<=d)(t:TK s.heap d vs kss)(nd:kss.Nodup)
  (h:∀(out:List Ag) (kss':List (List Int)),TK s.heap d out kss'->out.Perm vs->kss'.Perm kss->kss'.Pairwise (λx y=>vf x y=true)->P (.done (.ret .none)) { s with heap:=sortedHeap s.heap a vs out.toArray }):wpAny (model prog w) A (Builtin.«list.sort» ⟨[.ref a],[]⟩) P E s:=by
 have a9:=t.length;have ha:a<s.heap.objs.size:=al ho;obtain⟨e1,as⟩:∃e1,(s.heap.update a (Obj.mapSeq λ_=>(#[]:Array Ag))).get? a=some (seqObj "list" #[] e1):=⟨_,eU ho λ_=>#[]⟩;have sz:(1000001:Nat)<sizeLine:=by decide
 rw[list_sort_plain];refine aa (listItems_at ho rfl ?_);refine aa (eY ho rfl ?_ (by rw[aq];lia) (aW _));refine aa (iS as rfl ?_);refine aa (wpAny_newTuple ?_ (by show vs.length<=_;lia));refine aa (gK ?_ (aW _));refine bN ?_;show wpAny (model prog w) A _ P E { s with heap:=((s.heap.update a (Obj.mapSeq λ_=>(#[]:Array Ag))).push (seqObj "tuple" vs.toArray 0)).push (seqObj "list" #[] 0) };have ad:(((s.heap.update a (Obj.mapSeq λ_=>(#[]:Array Ag))).push (seqObj "tuple" vs.toArray 0)).push (seqObj "list" #[] 0)).get? a=some (seqObj "list" #[] e1):=ah _ (ah _ as);have t6:TK (((s.heap.update a (Obj.mapSeq λ_=>(#[]:Array Ag))).push (seqObj "tuple" vs.toArray 0)).push (seqObj "list" #[] 0)) d vs kss:=t.kept λb o e c=>by refine ah _ (ah _ ?_);rw[bP _ _ _ _ (λz=>by rw[z,ho]at e;cases e;exact absurd c (by show ¬ Value.type "list" = Value.type "tuple";decide))];exact e
 have am:∀(h':Heap) (out:List Ag) (kss':List (List Int)),h'=((s.heap.update a (Obj.mapSeq λ_=>(#[]:Array Ag))).push (seqObj "tuple" vs.toArray 0)).push (seqObj "list" #[] 0)->TK s.heap d out kss'->out.Perm vs->kss'.Perm kss->kss'.Pairwise (λx y=>vf x y=true)->P (.done (.ret .none)) { s with heap:=h'.update a (Obj.mapSeq λ_=>out.toArray) }:=λh' out kss' e a1 a2 a3 a4=>by subst e;exact h out kss' a1 a2 a3 a4
 generalize ((s.heap.update a (Obj.mapSeq λ_=>(#[]:Array Ag))).push (seqObj "tuple" vs.toArray 0)).push (seqObj "list" #[] 0)=h6' at ad t6 am ⊢;have am:=λout kss'=>am h6' out kss' rfl;dsimp only;by_cases h2:vs.toArray.size<2
 .rw[av h2,av h2];refine aa (ai ?_);rw[StateT.run_pure];refine aa (ai ?_);dsimp only;have e:(arrOf (SortSt.mk' general' (vs.toArray.zip vs.toArray) #[] 7 none)).map (·.2)=vs.toArray:=by
   show(vs.toArray.zip vs.toArray).map (·.2)=vs.toArray
   match vs,h2 with
   |[],_=>simp
   |[v],_=>simp
   |_::_::_,h2=>simp at h2;lia
  rw[e];refine aa (iS ad rfl ?_);refine aa (eY ad rfl ?_ (aW _) (by rw[aq];lia));simp only[eZ,aG,bB];refine ai (am vs kss t (.refl _) (.refl _) ?_);have:kss.length<2:=by rw[<-a9];simpa using h2
  match kss,this with
  |[],_=>exact .nil
  |[x],_=>exact eJ _ _
 .rw[ao h2,ao h2];have bk:2<=vs.length:=by simpa using h2
  obtain⟨fs,t1,t2,t3⟩:=t6.tups hd;refine aa (kat_kind (s:={ s with heap:=h6' }) (T:=.type "int") t1 ⋯ (λv hv=>?_) rfl ?_)
  .obtain⟨i,tk,rfl⟩:=t3 v hv;exact Looks.of_pure rfl
  let ix:Ai->Nat:=λx=>vs.findIdx λu=>match u,x.1 with|.ref b,.ref c=>b==c|_,_=>false
  let kz:Ai->Int:=λx=>kzL kss (kss.getD (ix x) []);have ap:∀i j,i<kss.length->j<kss.length->kss.getD i []=kss.getD j []->i=j:=λi j hi J e=>by rw[af,ae hi,af,ae J]at e;exact(List.getElem_inj nd).mp e
  have ref:∀i,i<vs.length->∃x o us n,vs[i]?=some (Value.ref x)/\h6'.get? x=some o/\o.data=.seq us.toArray n/\IntsAre us (kss.getD i [])/\(kss.getD i []).length=d:=λi hi=>by obtain⟨x,o,us,n,F,b2,b3,b4,b5⟩:=t6.at_ i ⋯;rw[af,ae hi]at F;exact⟨x,o,us,n,by rw[ae hi];exact cK some F,b2,b3,b4,b5⟩
  have a6:∀(i j:Nat) (x:Aj),vs[i]?=some (Value.ref x)->vs[j]?=some (.ref x)->i=j:=λi j x D Z=>by
   have hi:=(ak.mp D).1;have J:=(ak.mp Z).1;obtain⟨y,o,us,n,F,b2,b3,b4,b5⟩:=ref i hi;obtain⟨y',o',an,n',c1,c2,c3,c4,c5⟩:=ref j J;rw[D]at F;rw[Z]at c1;cases F;cases c1;rw[b2]at c2;cases c2;rw[b3]at c3;have eu:us=an:=by have:us.toArray=an.toArray:=(Data.seq.inj c3).1;exact cK Array.toList this
   subst eu;exact ap i j ⋯ ⋯ (b4.nums.symm.trans c4.nums)
  have ac:∀(i:Nat) (x:Aj) (u:Ag),vs[i]?=some (Value.ref x)->ix (.ref x,u)=i:=λi x u D=>by
   have hi:=(ak.mp D).1;refine(List.findIdx_eq hi).mpr ⟨?_,λj J=>?_⟩
   .have:vs[i]=.ref x:=by rw[ae hi]at D;exact au D
    rw[this];simp
   .obtain⟨y,o,us,n,F,_⟩:=ref j ⋯;have:vs[j]=.ref y:=by rw[ae ⋯]at F;exact au F
    rw[this];simp only[cy];intro z;rw[z]at F;have:=a6 j i x F D;lia
  let G:Ai->Prop:=λx=>∃(i:Nat) (y:Aj),vs[i]?=some (Value.ref y)/\x=(.ref y,.ref y);have W:∀i,i<kss.length->kss.getD i []∈kss:=λi hi=>by rw[af,ae hi];exact bw _
  have ab:∀(i:Nat) (y:Aj) (u:Ag),vs[i]?=some (Value.ref y)->kz (.ref y,u)=kzL kss (kss.getD i []):=λi y u e=>by show kzL kss (kss.getD (ix (.ref y,u)) [])=_;rw[ac i y u e]
  have O:Tm.yg (model prog w) A E { s with heap:=h6' } G kz (tuples' true):=by
   rintro x y st Q ⟨i,bx,D,rfl⟩ ⟨j,by_,Z,rfl⟩ hk hQ;have hi:=(ak.mp D).1;have J:=(ak.mp Z).1;obtain⟨y1,o,us,n,F,b2,b3,b4,b5⟩:=ref i hi;obtain⟨y2,o',an,n',c1,c2,c3,c4,c5⟩:=ref j J;rw[D]at F;rw[Z]at c1;cases F;cases c1;rw[lt'_eq];refine ay (gJ ?_);rw[hk];refine ay (iB (eX (lex_lt (s:={ s with heap:=h6' }) b2 b3 c2 c3 b4 c4 (by rw[Wv b4,Wv c4,b5,c5]) ⟨rfl,?_⟩)));refine aI ?_;rw[ab i _ _ D,ab j _ _ Z]at hQ;have:=qjg t.lens (W i ⋯) (W j ⋯);have e:vf (kss.getD i []) (kss.getD j [])=decide (kzL kss (kss.getD i [])<kzL kss (kss.getD j [])):=by
    by_cases c:vf (kss.getD i []) (kss.getD j [])=true
    .rw[c,aR (this.mpr c)]
    .rw[ba (λz=>c (this.mp z))];simpa using c
   rw[e];exact hQ
  have zl:(vs.toArray.zip vs.toArray).toList=vs.map λv=>(v,v):=by rw[Array.toList_zip];exact wqh vs
  have a8:∀i j,i<kss.length->j<kss.length->i≠j->kzL kss (kss.getD i [])≠kzL kss (kss.getD j []):=λi j hi J a0 z=>by
   rcases qj8 (t.lens _ (W i hi)) (t.lens _ (W j J)) with c|c|c
   .have:=(qjg t.lens (W i hi) (W j J)).mpr c;lia
   .exact a0 (ap i j hi J c)
   .have:=(qjg t.lens (W j J) (W i hi)).mpr c;lia
  have U:Tm.Un kz G (vs.toArray.zip vs.toArray):=by
   refine⟨?_,λx hx=>?_⟩
   .rw[zl,b9];refine bh.mpr λi j hi J a0=>?_;obtain⟨y1,_,_,_,F,_⟩:=ref i hi;obtain⟨y2,_,_,_,c1,_⟩:=ref j J;have f1:vs[i]=.ref y1:=by rw[ae hi]at F;exact au F
    have f2:vs[j]=.ref y2:=by rw[ae J]at c1;exact au c1
    rw[f1,f2,ab i _ _ F,ab j _ _ c1];exact a8 i j ⋯ ⋯ ⋯
   .rw[zl]at hx;obtain⟨v,hv,rfl⟩:=aS.mp hx;obtain⟨i,D⟩:=bS hv;obtain⟨y,_,_,_,F,_⟩:=ref i (ak.mp D).1;rw[D]at F;cases F;exact⟨i,y,D,rfl⟩
  refine aa (aZ (Tm.Yj (Q:=λ_ L=>(arrOf L).Perm (vs.toArray.zip vs.toArray)/\failedOf L=none/\Tm.SL kz (arrOf L).toList) (st:=SortSt.mk' (tuples' true) (vs.toArray.zip vs.toArray) #[] 7 none) O U rfl rfl rfl rfl λL a1 a2 a3=>⟨a1,a2,a3⟩) ?_ λ_ _ e=>e);rintro⟨⟨⟩,L⟩ s' ⟨rfl,F,b2,b3⟩;dsimp only;have pl:=dX.mp F;rw[zl]at pl;have op:((arrOf L).toList.map (·.2)).Perm vs:=by have:=pl.map (·.2);rwa [bF,show((λx:Ag×Ag=>x.2)∘λv=>(v,v))=id from rfl,List.map_id]at this
  have oe:(arrOf L).map (·.2)=((arrOf L).toList.map (·.2)).toArray:=by apply eI.mp;simp
  have a5:∀l:List Ai,(∀x∈l,G x)->TK s.heap d (l.map (·.2)) (l.map λx=>kss.getD (ix x) []):=λl=>by
   induction l with
   |nil=>intro _;exact .nil
   |cons x l ih =>
    intro hx;obtain⟨i,y,D,rfl⟩:=hx x (.head _);have hi:=(ak.mp D).1;obtain⟨x0,o0,bd,n0,g1,g2,bc,g3,g4,g5⟩:=t.at_' i ⋯;rw[af,D]at g1;cases g1;rw[aM,aM,ac i y _ D];exact .cons g2 bc g3 g4 g5 (ih λz hz=>hx z (.tail _ hz))
  have gl:∀x∈(arrOf L).toList,G x:=λx hx=>by have:=pl.mem_iff.mp hx;rw[<-zl]at this;exact U.g x this
  have kp:((arrOf L).toList.map λx=>kss.getD (ix x) []).Perm kss:=by
   refine(pl.map _).trans ?_;rw[bF];have:vs.map ((λx=>kss.getD (ix x) [])∘λv=>(v,v))=kss:=by
    refine bT λi=>?_;rw[ax];by_cases c:i<vs.length
    .obtain⟨y,_,_,_,e,_⟩:=ref i c;rw[e];show some (kss.getD (ix (.ref y,.ref y)) [])=_;rw[ac i y _ e,af,ae ⋯];rfl
    .rw[aO ⋯,aO ⋯];rfl
   rw[this]
  have a7:((arrOf L).toList.map λx=>kss.getD (ix x) []).Pairwise (λx y=>vf x y=true):=by rw[b9];refine cx (λ{x y} hx hy hxy=>?_) b3;obtain⟨i,a1,D,rfl⟩:=gl x hx;obtain⟨j,a2,Z,rfl⟩:=gl y hy;have hi:=(ak.mp D).1;have J:=(ak.mp Z).1;rw[ab i _ _ D,ab j _ _ Z]at hxy;rw[ac i _ _ D,ac j _ _ Z];exact(qjg t.lens (W i ⋯) (W j ⋯)).mp hxy
  rw[oe];refine aa (iS (s:={ s with heap:=h6' }) ad rfl ?_);refine aa (eY (s:={ s with heap:=h6' }) ad rfl ?_ (aW _) (by rw[aq,op.length_eq];lia));rw[b2];simp only[eZ,aG,bB];exact ai (am _ _ (a5 _ gl) op kp a7)
end
end L2
namespace L2
open PySem PySem.Spec PySem.Calls PySem.W PyProof.Rows
section
variable {prog:Ac}{w:Ah}{A:Ae}{E:Ag->Ab->Prop}{s:Ab}
theorem W0 {h:Heap}{a:Aj}{vs:List Ag}{k:Nat}(ho:h.get? a=some (seqObj "list" vs.toArray k))(out:Array Ag):∃e,(sortedHeap h a vs out).get? a=some (seqObj "list" out e):=by obtain⟨D,F⟩:∃D,(h.update a (Obj.mapSeq λ_=>(#[]:Array Ag))).get? a=some (seqObj "list" #[] D):=⟨_,eU ho λ_=>#[]⟩;exact⟨_,eU (ah _ (ah _ F)) λ_=>out⟩
theorem Wz {h:Heap}{a b:Aj}{vs:List Ag}{o:Obj}(e:h.get? b=some o)(hb:b≠a)(out:Array Ag):(sortedHeap h a vs out).get? b=some o:=by unfold sortedHeap;rw[bP _ _ _ _ hb];refine ah _ (ah _ ?_);rw[bP _ _ _ _ hb];exact e
theorem qx9 {S:Aj}{ps:List (Int×Ag)}{Q:Ag->Ab->Prop}(hh:A.handled=none)(P:SAt w s.heap S ps)(hn:ps.length<=100000)
  (h:∀(h':Heap) (tk:Nat) (qs:List (Int×Ag)),(∀b o,s.heap.get? b=some o->h'.get? b=some o)->qs.Perm ps->s.heap.objs.size<=h'.objs.size ->
   wpAny (model prog w) A.in1.in1 (Builtin.«list.sort» ⟨[.ref h'.objs.size],[]⟩) (λfin s'=>∃r,fin=.done (.ret r)/\Q (.ref h'.objs.size) s') E { s with heap:=h'.push (seqObj "list" (qs.map (·.2)).toArray 0),toks:=tk }) :
  wpAny (model prog w) A (call (.builtin "sorted") [.ref S]) Q E s:=by
 have W:(100001:Nat)<sizeLine:=by decide
 refine Calls.call_function_entry kind_sorted plain_sorted entry_sorted (args_sorted1 _) ?_;unfold Builtin.«sorted»;refine aa (m:=checkCount "sorted" 1 1 _) (ai ?_);refine aa (quf (by simpa using hh) P ⋯ λh' tk qs L pm D=>?_);have Z:=pm.length_eq;refine aa (gK ?_ (by rw[ag];lia));have J:(h'.push (seqObj "list" (qs.map (·.2)).toArray 0)).get? h'.objs.size=some (seqObj "list" (qs.map (·.2)).toArray 0):=az _ rfl;refine aa (bN (cS slot_list_sort ⟨_,J,rfl⟩ entry_list_sort ?_ (args_list_sort _)));refine aZ (h h' tk qs L pm D) (λfin s' U=>?_) λ_ _ e=>e;obtain⟨r,rfl,F⟩:=U;exact⟨_,rfl,ai ⟨_,rfl,F⟩⟩
end
section
variable {X:Cx}
theorem xqu {H:Hp}{s:Ab}{d:Nat}(ok:HOk X.prog X.w H s.heap):∀ {qs:List (Int×Ag)} {L:List (List Int)},PsT X.prog X.w H qs L->(∀r∈L,r.length=d)->TK s.heap d (qs.map (·.2)) L
 |_,_,.nil,_=>.nil
 |_,_,.cons ⟨a,e,f⟩ t,hl=>by subst e;obtain⟨_,us,rv,o,ho,hc,n,hd⟩:=(show ObjOk X.prog X.w H s.heap a (.tup _) from ok a _ f);exact .cons ho hc hd (jw rv) (hl _ (.head _)) (xqu ok t λr hr=>hl r (.tail _ hr))
theorem qzt (hc:X.calm=true):kr X (.builtin "sorted") (λxs H Q=>∃(S:Aj) (ps:List (Int×Ag)) (L:List (List Int)) (d:Nat),xs=[.ref S]/\H S=some (uz X.w S ps)/\PsT X.prog X.w H ps L/\L.Nodup/\L.length<=100000/\1<=d/\(∀r∈L,r.length=d) /\
  ∀(l:Aj) (ys:List V) (L':List (List Int)),H l=none->L'.Perm L->L'.Pairwise (λx y=>vf x y=true)->Tups L' ys H->Q (.ref l) (upd H l (.lst ys))):=by
 intro pins s σ H xs us Q I r h;obtain⟨S,ps,L,d,rfl,hS,hL,nd,hn,hd,hl,q⟩:=h;obtain⟨u,rfl,ru⟩:=jb r;cases(show u=Value.ref S from ru);have P:SAt X.w s.heap S ps:=(I.hok S _ hS).1;have ll:=hL.len;have sz:(100001:Nat)<sizeLine:=by decide
 refine qx9 (I.ok.hd hc) P ⋯ λh' tk D hk pm hz=>?_;obtain⟨L1,p1,W⟩:=Paired.perm pm hL;have W:PsT X.prog X.w H D L1:=W;have ab:(h'.push (seqObj "list" (D.map (·.2)).toArray 0)).get? h'.objs.size=some (seqObj "list" (D.map (·.2)).toArray 0):=az _ rfl;have I1:Inv X pins σ H { s with heap:=h',toks:=tk }:=I.kept hk;have t1:TK h' d (D.map (·.2)) L1:=xqu (s:={ s with heap:=h',toks:=tk }) I1.hok W λr hr=>hl r (p1.mem_iff.mp hr);have t2:=t1.kept (h':=h'.push (seqObj "list" (D.map (·.2)).toArray 0)) λb o e _=>ah _ e;have a3:=pm.length_eq;refine wwj (s:={ s with heap:=h'.push (seqObj "list" (D.map (·.2)).toArray 0),toks:=tk }) ab (by rw[ag];lia) hd t2 (p1.nodup_iff.mpr nd) λJ ap t3 op kp as=>⟨_,rfl,?_⟩;have an:∀v∈D.map (·.2),∃(a:Aj) (xs:List Int),v=Value.ref a/\H a=some (.tup (xs.map V.int)):=λv hv=>by
  obtain⟨p,F,rfl⟩:=aS.mp hv;obtain⟨i,ei⟩:=bS F;have a0:∀ {D:List (Int×Ag)} {L:List (List Int)},PsT X.prog X.w H D L->∀p∈D,∃(a:Aj) (xs:List Int),p.2=Value.ref a/\H a=some (.tup (xs.map V.int)):=by
   intro D L h
   induction h with
   |nil=>intro p F;cases F
   |cons r t ih =>
    obtain⟨a,e,f⟩:=r;intro p F;rcases aQ.mp F with rfl|F
    .exact⟨a,_,by rw[e],f⟩
    .exact ih p F
  exact a0 W p F
 have tr:∀ {J:List Ag} {Z:List (List Int)},TK (h'.push (seqObj "list" (D.map (·.2)).toArray 0)) d J Z->(∀v∈J,v∈D.map (·.2))->∃ys,Vals ys J/\Tups Z ys H:=by
  intro J Z t
  induction t with
  |nil=>intro _;exact⟨[],.nil,.nil⟩
  |@cons x o us n xs ks Z a b c e f _ ih =>
   intro hv;obtain⟨ys,U,v2⟩:=ih λv a1=>hv v (.tail _ a1);obtain⟨a',ad,ea,fa⟩:=an _ (hv _ (.head _));cases ea;obtain⟨_,am,rv,o',a2,a4,n',ac⟩:=(show ObjOk X.prog X.w H h' x (.tup _) from I1.hok x _ fa);have e9:o=o':=by have:=ah (seqObj "list" (D.map (·.2)).toArray 0) a2;rw[a]at this;exact au this
   subst e9;rw[c]at ac;have eu:us=am:=cK Array.toList (Data.seq.inj ac).1;subst eu;have ex:xs=ad:=e.nums.symm.trans (jw rv).nums;subst ex;exact⟨.ref x::ys,.cons rfl U,.cons ⟨x,rfl,fa⟩ v2⟩
 obtain⟨ys,U,v2⟩:=tr t3 λv hv=>op.mem_iff.mp hv;obtain⟨e,he⟩:=W0 ab J.toArray;have nl:H h'.objs.size=none:=I.hok.fresh hz;refine⟨.ref _,_,I.laid (t':=tk) (λb u hb=>Wz (ah _ (hk b u hb)) (aB (aL (al hb) hz)) _) hz (show ObjOk X.prog X.w _ _ _ (.lst ys) from ⟨?_,J,e,U,he⟩),rfl,q _ ys ap nl (kp.trans p1) as v2⟩;rw[U.length,op.length_eq,ag];lia
theorem qzr (hc:X.calm=true):kr X (.builtin "sorted") (λxs H Q=>∃(S:Aj) (ps:List (Int×Ag)) (ns:List Int),xs=[.ref S]/\H S=some (uz X.w S ps)/\PsI X.prog X.w ps ns/\ns.length<64 /\
  ∀(l:Aj) (ms:List Int),H l=none->ms.Perm ns->ms.Pairwise (·<=·)->Q (.ref l) (upd H l (.lst (ms.map V.int)))):=by
 intro pins s σ H xs us Q I r h;obtain⟨S,ps,ns,rfl,hS,hL,hn,q⟩:=h;obtain⟨u,rfl,ru⟩:=jb r;cases(show u=Value.ref S from ru);have P:SAt X.w s.heap S ps:=(I.hok S _ hS).1;have ll:=hL.len;have sz:(100001:Nat)<sizeLine:=by decide
 refine qx9 (I.ok.hd hc) P ⋯ λh' tk D hk pm F=>?_;obtain⟨L1,J,q1⟩:=Paired.perm pm hL;have ia:∀ {D:List (Int×Ag)} {L:List Int},PsI X.prog X.w D L->IntsAre (D.map (·.2)) L:=by
  intro D L h
  induction h with
  |nil=>exact .nil
  |cons r t ih =>
   obtain⟨tk,rfl⟩:=r;exact .cons _ _ ih
 have W:(h'.push (seqObj "list" (D.map (·.2)).toArray 0)).get? h'.objs.size=some (seqObj "list" (D.map (·.2)).toArray 0):=az _ rfl;have ab:=pm.length_eq;refine list_sort_tree (s:={ s with heap:=h'.push (seqObj "list" (D.map (·.2)).toArray 0),toks:=tk }) W (ia q1) (by rw[ag];lia) λU ms a1 a2 a3=>⟨_,rfl,?_⟩;obtain⟨e,he⟩:=W0 W U;have nl:H h'.objs.size=none:=I.hok.fresh F;refine⟨.ref _,_,I.laid (t':=tk) (λb u Z=>Wz (ah _ (hk b u Z)) (aB (aL (al Z) F)) _) F (show ObjOk X.prog X.w _ _ _ (.lst (ms.map V.int)) from ⟨?_,U.toList,e,Jf a1,by simpa using he⟩),rfl,q _ ms nl (a2.trans J) a3⟩;rw[ag,a2.length_eq,J.length_eq];lia
end
end L2
namespace L2
open PySem PySem.Spec PySem.Calls PyProof.Rows
section
variable {prog:Ac}{w:Ah}{A:Ae}{E:Ag->Ab->Prop}{s:Ab}{R:Result->Ab->Prop}
theorem wkh {Q:Ag->Ab->Prop}(h:Q (.ref s.heap.objs.size) { s with heap:=s.heap.push { cls:=.type "set",dict:=none,data:=.set #[] 0 (.fresh 0 0 (!byT w)) } }):wpAny (model prog w) A (newSet (.type "set")) Q E s:=by unfold newSet;refine aa (Ym ?_);exact b8 h
theorem wvk {h:Heap}{S:Aj}(e:h.get? S=some { cls:=.type "set",dict:=none,data:=.set #[] 0 (.fresh 0 0 (!byT w)) }):SAt w h S []:=⟨_,0,_,e,⟨rfl,rfl,rfl⟩,rfl,Tab.fresh,by show 0*5<7*3;decide⟩
theorem wju {elt:Expr}{target:Expr}{iter:Expr}{ifs:List Expr}{rest:List Comprehension}{scope:Scope}{pos:Pos}{it acc:Ag}{env:Env}(h0:codeAny (model prog w) A (.compLoop (.SetComp elt (⟨target,iter,ifs,0⟩::rest) scope pos) 0 it acc env) R s)
  (h:wpAny (model prog w) A (pyIter it) (λit' s'=>codeAny (model prog w) A (.compLoop (.SetComp elt (⟨target,iter,ifs,0⟩::rest) scope pos) 0 it' acc env) R s') (notedBy (model prog w) A env λx s'=>R (.error x) s') s) :
  codeAny (model prog w) A (.compStart (.SetComp elt (⟨target,iter,ifs,0⟩::rest) scope pos) 0 it acc env) R s:=by
 refine codeAny_of_tree ?_;show wpAny _ _ ((compStart (.SetComp elt (⟨target,iter,ifs,0⟩::rest) scope pos) 0 it acc env).onRaise (λx=>do noteFrame x env;standAt theWindowsPlace)) _ _ s;(refine wpAny_notedAt ?_ ;unfold compStart ;show wpAny _ _ (ask >>= _) _ _ s ;refine aa (fu (wpAny_ite ?_)));split
 ·(first | exact aa (ai (ai (And.intro rfl h0))) | exact ai (And.intro rfl h0))
 ·(first | exact aa (dI (aa (cV (aa (aZ h (λit' s' h'=>ai (And.intro rfl h')) λ_ _ x=>x))))) | (refine aa (dI ?_);show wpAny _ _ (standAt iter.pos >>= _) _ _ s;exact aa (cV (aa (aZ h (λit' s' h'=>ai (And.intro rfl h')) λ_ _ x=>x)))))
end
theorem wq6 (elt:Expr)(gens:List Comprehension)(scope:Scope)(pos:Pos)(env:Env):eval (.SetComp elt gens scope pos) env=comprehension (.SetComp elt gens scope pos) scope env (firstIterPos gens pos) (newSet (.type "set")) (firstAsync gens) (firstIter gens env):=rfl
theorem wwz (elt target iter:Expr)(cd:Expr)(scope:Scope)(pos:Pos)(it acc:Ag)(env:Env):compTurn (.SetComp elt [⟨target,iter,[cd],0⟩] scope pos) 0 it acc env=(standAt iter.pos >>= λ_=>pyNext it >>= λr=>match r with | none=>pure (.done .next) | some v=>letOwnedTupleGo target it v >>= λ_=>assign target env v >>= λ_=>(forIn [cd] true λc r=>if r=true then do let ok <-isTrue c env (eval c env);pure (ForInStep.yield ok) else pure (ForInStep.yield r)) >>= λok=>if ok=true then(eval elt env >>= λx=>standAt elt.pos >>= λ_=>call (.builtin "set.add") [acc,x] >>= λ_=>pure ()) >>= λ_=>again (.compLoop (.SetComp elt [⟨target,iter,[cd],0⟩] scope pos) 0 it acc env) else again (.compLoop (.SetComp elt [⟨target,iter,[cd],0⟩] scope pos) 0 it acc env)):=by rfl
section
variable {X:Cx}{pins:List (Aj×Obj)}{σ:St}{H:Hp}{s2:Ab}{scope:Scope}{cl:List (Str×Aj)}{x:Str}{M:List Nat}{fp:List Aj}{C:Aj}{h1:Heap}{tk:Nat}
theorem Inv.compO {oo:HO}(I:Inv X pins σ H s2)(hc:CapAll X.env cl)(hh:HasAll cl scope.names)(hm:CapIx X scope cl M)(hk:scope.kind=.function)(hC:s2.heap.objs.size<C)
  (keep:∀b o,s2.heap.get? b=some o->h1.get? b=some o) (hn:h1.Ns C λ_=>none) (hD:ObjOk X.prog X.w (upd H s2.heap.objs.size oo) h1 s2.heap.objs.size oo)
  (hfp:∀b∈fp,v6 X pins H b) (hob:∀b∈fp,∃o,s2.heap.get? b=some o) :
  Inv (zm X scope cl x M C s2 H fp (X.pn++pins)) [] (zc M σ none) (upd H s2.heap.objs.size oo) { s2 with heap:=h1,toks:=tk }:=I.compG (xs:=[x]) hc hh hm hk hC keep hn hD hfp hob
end
section
variable {X:Cx}{pins:List (Aj×Obj)}{σ:St}{H:Hp}{s2:Ab}{scope:Scope}{cl:List (Str×Aj)}{x y:Str}{M:List Nat}{fp:List Aj}{C:Aj}{h1:Heap}{tk:Nat}
theorem Inv.comp2O {oo:HO}(I:Inv X pins σ H s2)(hc:CapAll X.env cl)(hh:HasAll cl scope.names)(hm:CapIx X scope cl M)(hk:scope.kind=.function)(hC:s2.heap.objs.size<C)
  (keep:∀b o,s2.heap.get? b=some o->h1.get? b=some o) (hn:h1.Ns C λ_=>none) (hD:ObjOk X.prog X.w (upd H s2.heap.objs.size oo) h1 s2.heap.objs.size oo)
  (hfp:∀b∈fp,v6 X pins H b) (hob:∀b∈fp,∃o,s2.heap.get? b=some o) :
  Inv (x9 X scope cl x y M C s2 H fp (X.pn++pins)) [] (zx M σ none none) (upd H s2.heap.objs.size oo) { s2 with heap:=h1,toks:=tk }:=I.compG (xs:=[x,y]) hc hh hm hk hC keep hn hD hfp hob
end
section
variable {Y:Cx}{elt cd:Expr}{te:TE}{tt:TT}{c:Code}{p:Aj}{σ:St}{H:Hp}{pins:List (Aj×Obj)}{s:Ab}
def addS (elt:Expr)(acc:Ag)(env:Env)(c:Code):Sem PySem.Fin:=(eval elt env >>= λx=>standAt elt.pos >>= λ_=>call (.builtin "set.add") [acc,x] >>= λ_=>pure ()) >>= λ_=>again c
theorem wq4 {ys:List (Int×Ag)}{add:qxg}{N:List (Int×Ag)->Hp->Prop}(he:PE Y elt te)(ha:Yq Y add)(J:Inv Y pins σ H s)(h:te σ H λy H5=>H5 p=some (uz Y.w p ys)/\add p ys y H5 N) :
  wpAny (model Y.prog Y.w) Y.A (addS elt (.ref p) Y.env c) (λr s5=>r=Fin.again c/\∃H5,Inv Y pins σ H5 s5/\∃zs,N zs H5) Y.xe s:=by
 refine aa (aa (aZ (he _ s _ H _ J h) (λD F Z=>?_) λ_ _ z=>z));obtain⟨y,H4,J7,L,ab,ac⟩:=Z;refine aa (cV (aa (aZ (ha _ F _ H4 p ys y D _ J7 L ab ac) (λ_ s8 W=>?_) λ_ _ z=>z)));obtain⟨zs,H8,J8,U⟩:=W;exact ai (ai ⟨rfl,_,J8,zs,U⟩)
end
section
variable {X:Cx}{elt iter cd tg:Expr}{x y2:Str}{px pos:Pos}{scope:Scope}{cl:List (Str×Aj)}{M:List Nat}{wi:TI}{te:TE}{tt:TT}{gg:TG}{add:qxg}{pins:List (Aj×Obj)}{σ:St}
theorem qxu (hclos:closureFor scope X.env=pure cl)(hhas:HasAll cl scope.names)(hk:scope.kind=.function)
  (hnames:∀y∈scope.names,y.2=.local->scope.names.lookup y.1=some .local) (hi:PI X tg iter wi) (hs:∀z,foldedSetIterable iter X.env z=pure z)
  {use:Option (Ag->Sem Unit)} {QQ:Ag->Ab->Prop} {s:Ab} {H:Hp} {ps:Pos} {R:It->Hp->Prop} (I:Inv X pins σ H s) (h:wi σ H R)
  (go:∀(it:Aj) (fp:List Aj) (tn:Nat->Heap->Prop) (J:It) (H1:Hp) (s2:Ab) (C:Aj) (h3:Heap) (tk:Nat),Inv X pins σ H1 s2->Turn X.prog X.w X.K tg J fp it tn->tn 0 h3->(∀b∈fp,v6 X pins H1 b)->(∀b∈fp,b<s2.heap.objs.size)->(∀b∈fp,∃o,s2.heap.get? b=some o)->R J H1->s2.heap.objs.size<C ->
   (∀b o,s2.heap.get? b=some o->h3.get? b=some o)->(h3.Ns C λ_=>none)->h3.get? s2.heap.objs.size=some { cls:=.type "set",dict:=none,data:=.set #[] 0 (.fresh 0 0 (!byT X.w)) } ->
   codeAny (model X.prog X.w) X.A (.compLoop (.SetComp elt [⟨tg,iter,[cd],0⟩] scope pos) 0 (.ref it) (.ref s2.heap.objs.size) (compEnvC scope cl C X.env)) (compPost (model X.prog X.w) X.A X.xe use QQ (.ref s2.heap.objs.size) C) { s2 with heap:=h3,toks:=tk }) :
  wpAny (model X.prog X.w) X.A (comprehension (.SetComp elt [⟨tg,iter,[cd],0⟩] scope pos) scope X.env ps (newSet (.type "set")) false (eval iter X.env) use) QQ X.xe s:=by
 refine fG (use:=use) rfl hs hclos hk hnames ?_;refine thn (hi pins s σ H _ I h) λv s1 h1=>thn h1 λad s2 h2=>?_;obtain⟨it,fp,tn,J,H1,rfl,I2,T,F,ac,hR⟩:=h2;refine wkh ?_;refine gN hhas.nocell (by intro y hy;cases hy) (λh3 L D=>?_) hk;dsimp only at L D ⊢;generalize hH2:s2.heap.push { cls:=.type "set",dict:=none,data:=.set #[] 0 (.fresh 0 0 (!byT X.w)) }=G2 at L D ⊢;have hC:G2.objs.size=s2.heap.objs.size+1:=by rw[<-hH2,cX]
 have U:s2.heap.objs.size<G2.objs.size:=by lia
 have ab:∀b o,s2.heap.get? b=some o->h3.get? b=some o:=λb o e=>by rw[D.2 b (aB (bo (al e) U))];exact ah _ (hH2▸ah _ e)
 have hD:h3.get? s2.heap.objs.size=some { cls:=.type "set",dict:=none,data:=.set #[] 0 (.fresh 0 0 (!byT X.w)) }:=by rw[D.2 _ (aB U)];exact ah _ (hH2▸az _ rfl)
 have Z:=T.keep 0 _ _ F λb _ o e=>ab b o e;have qqh:=λtk=>go it fp tn J H1 s2 G2.objs.size h3 tk I2 T Z ac (λb W=>let ⟨o,e,_⟩:=T.obj 0 _ F b W;al e) (λb W=>let ⟨o,e,_⟩:=T.obj 0 _ F b W;⟨o,e⟩) hR U ab L hD;exact wju (qqh _) (T.self _ 0 _ _ _ Z (qqh _))
end
def qyv (J:It)(M:List Nat)(tt:TT)(te:TE)(w:Ah)(add:qxg)(σ:St)(H1:Hp)(Q:VK):Prop:=∀p,H1 p=none->∃W:Nat->Nat->List (Int×Ag)->Hp->Prop,(∃m,W 0 m [] (upd H1 p (uz w p []))) /\
 ∀i m ys H2,W i m ys H2->H2 p=some (uz w p ys)/\((J.stop i H2/\Q (.ref p) H2)\/(J.go i H2/\∀v H3,J.yld i H2 v H3 ->
  tt (zc M σ (some v)) H3 λb H4=>if b=true then te (zc M σ (some v)) H4 (λy H5=>H5 p=some (uz w p ys)/\add p ys y H5 λzs H6=>∃m',m'<m/\W (i+1) m' zs H6) else H4 p=some (uz w p ys)/\∃m',m'<m/\W (i+1) m' ys H4))
def tSetI (M:List Nat)(wi:TI)(tt:TT)(te:TE)(w:Ah)(add:qxg):TE:=λσ H Q=>wi σ H λJ H1=>qyv J M tt te w add σ H1 Q
section
variable {X:Cx}{elt iter cd:Expr}{x:Str}{px pos:Pos}{scope:Scope}{cl:List (Str×Aj)}{M:List Nat}{wi:TI}{tt:TT}{te:TE}{add:qxg}
theorem ww5 (hc:X.calm=true)(hclos:closureFor scope X.env=pure cl)(hcap:CapAll X.env cl)(hhas:HasAll cl scope.names)(hix:CapIx X scope cl M)(hk:scope.kind=.function)
  (hnames:∀y∈scope.names,y.2=.local->scope.names.lookup y.1=some .local) (hx:scope.names.lookup x=some .local) (hnd:(Qy X x M).Nodup) (hi:PI X (.Name x px) iter wi)
  (ht:∀C s2 H2 fp pn,PT (zm X scope cl x M C s2 H2 fp pn) cd tt) (he:∀C s2 H2 fp pn,PE (zm X scope cl x M C s2 H2 fp pn) elt te) (ha:∀C s2 H2 fp pn,Yq (zm X scope cl x M C s2 H2 fp pn) add) (hs:∀z,foldedSetIterable iter X.env z=pure z)
  {use:Option (Ag->Sem Unit)} {QQ:Ag->Ab->Prop} {pins:List (Aj×Obj)} {s:Ab} {σ:St} {H:Hp} {Q:VK} {ps:Pos} (I:Inv X pins σ H s) (h:wi σ H λJ H1=>qyv J M tt te X.w add σ H1 Q)
  (fin:∀(C:Aj) (s2 s4:Ab) (H1 H2:Hp) (fp:List Aj),Inv X pins σ H1 s2->s2.heap.objs.size<C->(∀b∈fp,v6 X pins H1 b)->Inv (zm X scope cl x M C s2 H1 fp (X.pn++pins)) [] (zc M σ none) H2 s4->Q (.ref s2.heap.objs.size) H2 ->
   compPost (model X.prog X.w) X.A X.xe use QQ (.ref s2.heap.objs.size) C (.ok .next) s4) :
  wpAny (model X.prog X.w) X.A (comprehension (.SetComp elt [⟨.Name x px,iter,[cd],0⟩] scope pos) scope X.env ps (newSet (.type "set")) false (eval iter X.env) use) QQ X.xe s:=by
 refine qxu hclos hhas hk hnames hi hs I h λit fp tn J H1 s2 C h3 tk F T t3 D ac am hR L ad an hD=>?_;obtain⟨W,⟨m0,w0⟩,hW⟩:=hR s2.heap.objs.size (F.hok.fresh (aj _));have ab:(relabel scope X.env).names.lookup x=some .local:=ee hx;refine k9 (Y:=zm X scope cl x M C s2 H1 fp (X.pn++pins)) (V:=λi n H2=>∃ys,W i n ys H2) (Qd:=Q (.ref s2.heap.objs.size)) (REST:=tstS cd (compEnvC scope cl C X.env) (addS elt (.ref s2.heap.objs.size) (compEnvC scope cl C X.env) _) (again _)) T hc (λ_ _ z=>z) (wwz ..) rfl rfl (xv (i:=0) hnd rfl (.inl ab) (.inr ab)) (Zf hcap F L D ac) (λi n H2 ⟨ys,w⟩=>?_) (λH2 s4 J4 q=>fin C s2 s4 H1 H2 fp F L D J4 q) (F.compO hcap hhas hix hk L ad an (qq9 (wvk hD)) D am) ⟨[],w0⟩ t3 λb hb=>by rw[qt (aB (ac b hb))];exact(D b hb).1
 obtain⟨hp,as⟩:=hW i n ys H2 w;refine as.imp id λ⟨ap,hy⟩=>⟨ap,λv H3 yl=>⟨λσ4 H4=>σ4=zc M σ (some v)/\H3=H4,⟨rfl,rfl⟩,λ_ _ e=>?_⟩⟩;obtain⟨rfl,rfl⟩:=e;refine⟨Qv M σ v,λa0 s' J=>?_⟩;exact Zg (ht _ _ _ _ _) J (hy v H3 yl) (λs6 H6 U h6=>aZ (wq4 (N:=λzs Z=>∃m',m'<n/\W (i+1) m' zs Z) (he _ _ _ _ _) (ha _ _ _ _ _) U h6) (λr s5 ⟨e,Z,J5,zs,m',hm,w'⟩=>⟨e,Z,J5,m',hm,zs,w'⟩) λ_ _ z=>z)
  λs6 H6 U ⟨_,m',hm,w'⟩=>ai ⟨rfl,H6,U,m',hm,ys,w'⟩
theorem xx1 (hc:X.calm=true)(hclos:closureFor scope X.env=pure cl)(hcap:CapAll X.env cl)(hhas:HasAll cl scope.names)(hix:CapIx X scope cl M)(hk:scope.kind=.function)
  (hnames:∀y∈scope.names,y.2=.local->scope.names.lookup y.1=some .local) (hx:scope.names.lookup x=some .local) (hnd:(Qy X x M).Nodup) (hi:PI X (.Name x px) iter wi)
  (ht:∀C s2 H2 fp pn,PT (zm X scope cl x M C s2 H2 fp pn) cd tt) (he:∀C s2 H2 fp pn,PE (zm X scope cl x M C s2 H2 fp pn) elt te) (ha:∀C s2 H2 fp pn,Yq (zm X scope cl x M C s2 H2 fp pn) add) (hs:autoParam (∀z,foldedSetIterable iter X.env z=pure z) aU3._auto_1) :
  PE X (.SetComp elt [⟨.Name x px,iter,[cd],0⟩] scope pos) (tSetI M wi tt te X.w add):=by
 intro pins s σ H Q I h;rw[wq6];refine ww5 hc hclos hcap hhas hix hk hnames hx hnd hi ht he ha hs (use:=none) I h λC s2 s4 H1 H2 fp Z U W D J=>?_;obtain⟨m,L,_⟩:=D.loc;exact⟨m,L,λh' F=>⟨.ref s2.heap.objs.size,H2,Z.uncomp (br U) W D F,rfl,J⟩⟩
end
def qxz (J:It)(M:List Nat)(gg:TG)(tt:TT)(te:TE)(w:Ah)(add:qxg)(σ:St)(H1:Hp)(Q:VK):Prop:=∀p,H1 p=none->∃W:Nat->Nat->List (Int×Ag)->Hp->Prop,(∃m,W 0 m [] (upd H1 p (uz w p []))) /\
 ∀i m ys H2,W i m ys H2->H2 p=some (uz w p ys)/\((J.stop i H2/\Q (.ref p) H2)\/(J.go i H2/\∀v H3,J.yld i H2 v H3 ->
  gg v (zx M σ none none) H3 λσ4 H4=>(∃a b,σ4=zx M σ (some a) (some b))/\tt σ4 H4 λb H4=>if b=true then te σ4 H4 (λy H5=>H5 p=some (uz w p ys)/\add p ys y H5 λzs H6=>∃m',m'<m/\W (i+1) m' zs H6) else H4 p=some (uz w p ys)/\∃m',m'<m/\W (i+1) m' ys H4))
def tSetPI (M:List Nat)(wi:TI)(gg:TG)(tt:TT)(te:TE)(w:Ah)(add:qxg):TE:=λσ H Q=>wi σ H λJ H1=>qxz J M gg tt te w add σ H1 Q
section
variable {X:Cx}{elt iter tg cd:Expr}{x y2:Str}{pos:Pos}{scope:Scope}{cl:List (Str×Aj)}{M:List Nat}{wi:TI}{gg:TG}{tt:TT}{te:TE}{add:qxg}
theorem qy0 (M:List Nat)(σ:St)(v u:V):(zx M σ none none).length=(zx M σ (some v) (some u)).length/\∀(k:Nat) z,(zx M σ none none)[k]?=some (some z)->(zx M σ (some v) (some u))[k]?=some (some z):=⟨rfl,λk z ez=>by
 match k,ez with
 |0,ez=>cases ez
 |1,ez=>cases ez
 |k+2,ez=>exact ez⟩
theorem wqx (hc:X.calm=true)(hclos:closureFor scope X.env=pure cl)(hcap:CapAll X.env cl)(hhas:HasAll cl scope.names)(hix:CapIx X scope cl M)(hk:scope.kind=.function)
  (hnames:∀y∈scope.names,y.2=.local->scope.names.lookup y.1=some .local) (hg:∀C s2 H2 fp pn,PG (x9 X scope cl x y2 M C s2 H2 fp pn) tg gg) (hi:PI X tg iter wi)
  (ht:∀C s2 H2 fp pn,PT (x9 X scope cl x y2 M C s2 H2 fp pn) cd tt) (he:∀C s2 H2 fp pn,PE (x9 X scope cl x y2 M C s2 H2 fp pn) elt te) (ha:∀C s2 H2 fp pn,Yq (x9 X scope cl x y2 M C s2 H2 fp pn) add) (hs:∀z,foldedSetIterable iter X.env z=pure z)
  {use:Option (Ag->Sem Unit)} {QQ:Ag->Ab->Prop} {pins:List (Aj×Obj)} {s:Ab} {σ:St} {H:Hp} {Q:VK} {ps:Pos} (I:Inv X pins σ H s) (h:wi σ H λJ H1=>qxz J M gg tt te X.w add σ H1 Q)
  (fin:∀(C:Aj) (s2 s4:Ab) (H1 H2:Hp) (fp:List Aj),Inv X pins σ H1 s2->s2.heap.objs.size<C->(∀b∈fp,v6 X pins H1 b)->Inv (x9 X scope cl x y2 M C s2 H1 fp (X.pn++pins)) [] (zx M σ none none) H2 s4->Q (.ref s2.heap.objs.size) H2 ->
   compPost (model X.prog X.w) X.A X.xe use QQ (.ref s2.heap.objs.size) C (.ok .next) s4) :
  wpAny (model X.prog X.w) X.A (comprehension (.SetComp elt [⟨tg,iter,[cd],0⟩] scope pos) scope X.env ps (newSet (.type "set")) false (eval iter X.env) use) QQ X.xe s:=by
 refine qxu hclos hhas hk hnames hi hs I h λit fp tn J H1 s2 C h3 tk F T t3 D ab am hR L ac an hD=>?_;obtain⟨W,⟨m0,w0⟩,hW⟩:=hR s2.heap.objs.size (F.hok.fresh (aj _));refine k9 (Y:=x9 X scope cl x y2 M C s2 H1 fp (X.pn++pins)) (V:=λi n H2=>∃ys,W i n ys H2) (Qd:=Q (.ref s2.heap.objs.size)) (REST:=tstS cd (compEnvC scope cl C X.env) (addS elt (.ref s2.heap.objs.size) (compEnvC scope cl C X.env) _) (again _)) T hc (λ_ _ z=>z) (wwz ..) rfl rfl (λpn s σ H v u Q I r hq=>hg C s2 H1 fp (X.pn++pins) pn s σ H v u Q I r hq) (Zf hcap F L D ab) (λi n H2 ⟨ys,w⟩=>?_) (λH2 s4 J4 q=>fin C s2 s4 H1 H2 fp F L D J4 q) (F.comp2O hcap hhas hix hk L ac an (qq9 (wvk hD)) D am) ⟨[],w0⟩ t3 λb hb=>by rw[qt (aB (ab b hb))];exact(D b hb).1
 obtain⟨hp,as⟩:=hW i n ys H2 w;refine as.imp id λ⟨ap,hy⟩=>⟨ap,λv H3 yl=>?_⟩;refine⟨_,hy v H3 yl,λσ4 H4 hz=>?_⟩;obtain⟨⟨a,b,rfl⟩,ad⟩:=hz;refine⟨qy0 M σ a b,λa0 s' J=>?_⟩;exact Zg (ht _ _ _ _ _) J ad (λs6 H6 U h6=>aZ (wq4 (N:=λzs Z=>∃m',m'<n/\W (i+1) m' zs Z) (he _ _ _ _ _) (ha _ _ _ _ _) U h6) (λr s5 ⟨e,Z,J5,zs,m',hm,w'⟩=>⟨e,Z,J5,m',hm,zs,w'⟩) λ_ _ z=>z)
  λs6 H6 U ⟨_,m',hm,w'⟩=>ai ⟨rfl,H6,U,m',hm,ys,w'⟩
theorem wy2 (hc:X.calm=true)(hclos:closureFor scope X.env=pure cl)(hcap:CapAll X.env cl)(hhas:HasAll cl scope.names)(hix:CapIx X scope cl M)(hk:scope.kind=.function)
  (hnames:∀y∈scope.names,y.2=.local->scope.names.lookup y.1=some .local) (hg:∀C s2 H2 fp pn,PG (x9 X scope cl x y2 M C s2 H2 fp pn) tg gg) (hi:PI X tg iter wi)
  (ht:∀C s2 H2 fp pn,PT (x9 X scope cl x y2 M C s2 H2 fp pn) cd tt) (he:∀C s2 H2 fp pn,PE (x9 X scope cl x y2 M C s2 H2 fp pn) elt te) (ha:∀C s2 H2 fp pn,Yq (x9 X scope cl x y2 M C s2 H2 fp pn) add) (hs:autoParam (∀z,foldedSetIterable iter X.env z=pure z) aU3._auto_1) :
  PE X (.SetComp elt [⟨tg,iter,[cd],0⟩] scope pos) (tSetPI M wi gg tt te X.w add):=by
 intro pins s σ H Q I h;rw[wq6];refine wqx hc hclos hcap hhas hix hk hnames hg hi ht he ha hs (use:=none) I h λC s2 s4 H1 H2 fp Z U W D J=>?_;obtain⟨m,L,_⟩:=D.loc;exact⟨m,L,λh' F=>⟨.ref s2.heap.objs.size,H2,Z.uncomp2 (br U) W D F,rfl,J⟩⟩
end
end L2
namespace L2
open PySem PySem.Spec PySem.Calls PyProof.Rows
theorem wjn {P:Ac}{w:Ah}{K:Aa}{M:List Nat}{q:Aj}{us:List V}{tt:TT}{te:TE}{σ:St}{H:Hp}{Q:VK}(L:List (List Int))(c:List Int->Bool)(hq:SqL K H q us)(hL:Tups L us H)(hn:L.length<1099)
  (ht:∀(xs:List Int) (a:Aj) (H':Hp) (R:Bool->Hp->Prop),xs∈L->H' a=some (.tup (xs.map V.int))->Same H H'->(∀H'',Same H' H''->R (c xs) H'')->tt (zc M σ (some (.ref a))) H' R)
  (he:∀(a:Aj) (H':Hp) (R:VK),R (.ref a) H'->te (zc M σ (some (.ref a))) H' R)
  (k:∀p ps H' L',H p=none->Same H H'->H' p=some (uz w p ps)->PsT P w H' ps L'->L'.Nodup->(∀xs,xs∈L'↔(xs∈L/\c xs=true))->L'.length<=L.length->Q (.ref p) H'):qyv (Itl K q) M tt te w (addT P w) σ H Q:=by
 intro p np;have ul:=hL.len;refine⟨λi m ps H2=>i<=L.length/\m=L.length-i/\Same H H2/\H2 p=some (uz w p ps)/\∃L',PsT P w H2 ps L'/\L'.Nodup/\L'.length<=i/\∀xs,xs∈L'↔(xs∈L.take i/\c xs=true),⟨L.length,aW _,rfl,Same.upd np,qc,[],.nil,jP,aj _,λxs=>by simp⟩,?_⟩;rintro i m ps H2 ⟨hi,rfl,sm,hp,L',hT,hN,hl,hM⟩;refine⟨hp,?_⟩;have Z:SqL K H2 q us:=sm.sql hq;by_cases hlt:i<L.length
 .have W:us[i]?=some us[i]:=ae ⋯;obtain⟨a,xs,ea,ex,fa⟩:=hL.get W;refine .inr ⟨⟨us,_,Z,W⟩,?_⟩;rintro v H3 ⟨rfl,hv⟩;have e:=hv us Z;rw[W]at e;have e':=au e;subst e';rw[ea];have tk:L.take (i+1)=L.take i++[xs]:=by rw[dH,ex];rfl
  refine ht xs a _ _ (aC ex) (sm _ _ fa) sm λU D=>?_;have F:PsT P w U ps L':=hT.keep λb ys e=>D _ _ e;have J:U a=some (.tup (xs.map V.int)):=D _ _ (sm _ _ fa);cases hc:c xs with
  |true =>
   refine Wj ?_;refine he a U _ ⟨D _ _ hp,a,xs,L',rfl,J,F,by rw[hT.len];lia,λz=>?_,λz ab pm=>?_⟩
   .refine⟨L.length-(i+1),⋯,⋯,rfl,sm.trans D,D _ _ hp,L',F,hN,⋯,λys=>?_⟩;rw[tk,hM ys];constructor
    .rintro⟨h1,h2⟩;exact⟨cD _ h1,h2⟩
    .rintro⟨h1,h2⟩;rcases aY.mp h1 with h1|h1
     .exact⟨h1,h2⟩
     .rw[aV.mp h1];exact(hM xs).mp z
   .have ne:a≠p:=λz=>by rw[z,D _ _ hp]at J;cases J
    have base:PsT P w (upd U p (uz w p ab)) (((KD P w).hash (xs.map Sum.inl),.ref a)::ps) (xs::L'):=by refine .cons ⟨a,rfl,by rw[qt ne];exact J⟩ (F.keep λb ys e=>?_);rw[qt (λz=>by rw[z,D _ _ hp]at e;cases e)];exact e
    obtain⟨L2,p2,q2⟩:=Paired.perm pm base;refine⟨L.length-(i+1),⋯,⋯,rfl,?_,qc,L2,q2,p2.nodup_iff.mpr (dJ.mpr ⟨z,hN⟩),by rw[p2.length_eq,aJ];lia,λys=>?_⟩
    .intro b o e;rw[qt (q9 e np)];exact D _ _ (sm _ _ e)
    .rw[p2.mem_iff,tk,aQ,hM ys];constructor
     .rintro (rfl|⟨h1,h2⟩)
      .exact⟨aN _ (.head _),hc⟩
      .exact⟨cD _ h1,h2⟩
     .rintro⟨h1,h2⟩;rcases aY.mp h1 with h1|h1
      .exact .inr ⟨h1,h2⟩
      .exact .inl (aV.mp h1)
  |false =>
   refine Q8 ?_;refine⟨D _ _ hp,L.length-(i+1),⋯,⋯,rfl,sm.trans D,D _ _ hp,L',F,hN,⋯,λys=>?_⟩;rw[tk,hM ys];constructor
   .rintro⟨h1,h2⟩;exact⟨cD _ h1,h2⟩
   .rintro⟨h1,h2⟩;rcases aY.mp h1 with h1|h1
    .exact⟨h1,h2⟩
    .rw[aV.mp h1,hc]at h2;cases h2
 .have:i=L.length:=by lia
  subst this;refine .inl ⟨⟨us,Z,⋯⟩,k p ps H2 L' np sm hp hT hN (λxs=>?_) hl⟩;rw[hM xs,bD]
theorem wx1 {P:Ac}{w:Ah}{K:Aa}{J:It}{M:List Nat}{tt:TT}{te:TE}{σ:St}{H:Hp}{Q:VK}(n:Nat)(pr:Nat->V×V)(c:Nat->Bool)(f:Nat->Int)(bd:Nat)(hbd:∀i,i<n->0<=f i/\f i<bd)(hb:bd<1000)
  (hgo:∀i H',i<n->Same H H'->J.go i H') (hst:∀H',Same H H'->J.stop n H') (hy:∀i H2 v H3,i<n->Same H H2->J.yld i H2 v H3->Same H2 H3/\∃a,v=.ref a/\SqT K H3 a [(pr i).1,(pr i).2])
  (ht:∀(i:Nat) (H':Hp) (R:Bool->Hp->Prop),i<n->Same H H'->(∀H'',Same H' H''->R (c i) H'')->tt (zx M σ (some (pr i).1) (some (pr i).2)) H' R)
  (he:∀(i:Nat) (H':Hp) (R:VK),i<n->c i=true->Same H H'->(∀H'',Same H' H''->R (.int (f i)) H'')->te (zx M σ (some (pr i).1) (some (pr i).2)) H' R)
  (k:∀p ps H' ns,H p=none->Same H H'->H' p=some (uz w p ps)->PsI P w ps ns->ns.Nodup->(∀v,v∈ns↔∃i,i<n/\c i=true/\f i=v)->Q (.ref p) H') :
  qxz J M (gTup K 2 (xw0 (Zn 0) (xw0 (Zn 1) gNil))) tt te w (addI P w) σ H Q:=by
 intro p np;refine⟨λi m ps H2=>i<=n/\m=n-i/\Same H H2/\H2 p=some (uz w p ps)/\∃ns,PsI P w ps ns/\ns.Nodup/\∀v,v∈ns↔∃j,j<i/\c j=true/\f j=v,⟨n,aW _,rfl,Same.upd np,qc,[],.nil,jP,λv=>by simp⟩,?_⟩;rintro i m ps H2 ⟨hi,rfl,sm,hp,ns,hT,hN,hM⟩;refine⟨hp,?_⟩;by_cases hlt:i<n
 .refine .inr ⟨hgo i H2 hlt sm,λv H3 yl=>?_⟩;obtain⟨D,a,rfl,hq⟩:=hy i H2 v H3 hlt sm yl;refine⟨a,_,rfl,hq,rfl,_,_,rfl,_,_,rfl,rfl,⟨_,_,rfl⟩,?_⟩;refine ht i _ _ hlt (sm.trans D) λH4 F=>?_;cases hc:c i with
  |true =>
   refine Wj ?_;refine he i _ _ hlt hc ((sm.trans D).trans F) λH5 U=>⟨U _ _ (F _ _ (D _ _ hp)),f i,ns,rfl,hT,?_,λz=>?_,λz ab t pm=>?_⟩
   ·
    rw[hT.len];have:=qzc (ns.map Int.toNat) (List.range bd) ?_ λv hv=>?_
    .rw[ag,aH]at this;lia
    .refine b9.mpr (cx (λ{x y} Z hy hxy z=>?_) hN);obtain⟨W,h1,_,rfl⟩:=(hM x).mp Z;obtain⟨j2,h2,_,rfl⟩:=(hM y).mp hy;have a1:=hbd W ⋯;have a2:=hbd j2 ⋯;exact hxy ⋯
    .obtain⟨x,Z,rfl⟩:=aS.mp hv;obtain⟨W,h1,_,rfl⟩:=(hM x).mp Z;have a1:=hbd W ⋯;exact aw.mpr ⋯
   .refine⟨n-(i+1),⋯,⋯,rfl,((sm.trans D).trans F).trans U,U _ _ (F _ _ (D _ _ hp)),ns,hT,hN,λv=>?_⟩;rw[hM v];constructor
    .rintro⟨j,h1,h2⟩;exact⟨j,⋯,h2⟩
    .rintro⟨j,h1,h2,L⟩;by_cases cj:j=i
     .subst cj;rw[<-L];exact(hM _).mp z
     .exact⟨j,⋯,h2,L⟩
   .have base:PsI P w (((intKind P w).hash (f i),.int (f i) t)::ps) (f i::ns):=.cons ⟨t,rfl⟩ hT;obtain⟨L2,p2,q2⟩:=Paired.perm pm base;refine⟨n-(i+1),⋯,⋯,rfl,?_,qc,L2,q2,p2.nodup_iff.mpr (dJ.mpr ⟨z,hN⟩),λv=>?_⟩
    .intro b o e;rw[qt (q9 e np)];exact U _ _ (F _ _ (D _ _ (sm _ _ e)))
    .rw[p2.mem_iff,aQ,hM v];constructor
     .rintro (rfl|⟨j,h1,h2⟩)
      .exact⟨i,⋯,hc,rfl⟩
      .exact⟨j,⋯,h2⟩
     .rintro⟨j,h1,h2,L⟩;by_cases cj:j=i
      .subst cj;exact .inl L.symm
      .exact .inr ⟨j,⋯,h2,L⟩
  |false =>
   refine Q8 ?_;refine⟨F _ _ (D _ _ hp),n-(i+1),⋯,⋯,rfl,(sm.trans D).trans F,F _ _ (D _ _ hp),ns,hT,hN,λv=>?_⟩;rw[hM v];constructor
   .rintro⟨j,h1,h2⟩;exact⟨j,⋯,h2⟩
   .rintro⟨j,h1,h2,L⟩;by_cases cj:j=i
    .subst cj;rw[hc]at h2;cases h2
    .exact⟨j,⋯,h2,L⟩
 .have:i=n:=by lia
  subst this;exact .inl ⟨hst H2 sm,k p ps H2 ns np sm hp hT hN hM⟩
end L2
namespace L2
open PySem PySem.Spec PySem.Calls PySem.W PyProof.Rows
def BMain (mg:Str->Option Ag)(h:Heap):Prop:=∃bm ob,mg "__builtins__" = some (.ref bm)/\bm≠builtinsNs/\h.get? bm=some ob/\ob.cls=.type "module" /\ ob.dict=some builtinsNs/\ob.data=.plain
theorem BMain.kept {mg:Str->Option Ag}{h h':Heap}(b:BMain mg h)(k:∀b o,h.get? b=some o->h'.get? b=some o):BMain mg h' :=
 let ⟨bm,ob,h1,h2,h3,r⟩:=b;⟨bm,ob,h1,h2,k _ _ h3,r⟩
section
variable {P:Ac}{w:Ah}{K:Aa}{mg mb:Str->Option Ag}{CX:CXT}{k:Nat}{fa a c T:Aj}{fd:Ad}{x:Str}{sp:Sp}{s₁:Ab}{vs:List Ag}{ns:List Int}
theorem wkz (KX:K.In s₁.heap)(hns:s₁.heap.Ns mainGlobals mg)(hb:s₁.heap.Ns builtinsNs mb)(hbb:∀x:Str,x ≠ "__name__" -> mb x=bootBuiltins x)(hlim:s₁.heap.NoLimit)(hg:s₁.gens=#[])(hbm:BMain mg s₁.heap)
  (hT:s₁.heap.get? T=some (tabObj #[])) (hC:CodeHd s₁.heap c T) (hKT:K.lookup T=none)
  (ha:s₁.heap.get? a=some { cls:=.type "list",data:=.seq vs.toArray }) (hi:IntsAre vs ns) (hl:ns.length<=sizeLine) (hr:Room k callerA)
  (F:∀base:Heap,K.In base->base.Ns mainGlobals mg->BMain mg base->FnOk P w K mg base CX k fa fd [x] sp) (hbind:∀(s:Ab) (u:Ag),BindsTo s fd ⟨[u],[]⟩ [(x,u)])
  (hsp:∀H:Hp,H T=some (.tbl #[])->SqL K H a (ns.map V.int)->sp [.ref a] H (λv _=>v=.bl true) λ_ _ _=>False)
  (hCX:∀H e s',CX [] H s₁ (λ_ _ _=>False) e s'->False) :
  codeAny (model P w) callerA (.call (.ref fa) ⟨[.ref a],[]⟩) (λr s'=>r=.ok (.ret (.bool true))/\OldK s₁.heap s'.heap/\s'.os=s₁.os/\AllBare s'.gens) s₁:=by
 have rv:=Jf hi;have a5:=hi.length;have as:a≠T:=λz=>by rw[z,hT]at ha;cases ha
 have a3:∀H:Hp,H T=some (.tbl #[])->(∀b,b≠T->H b=none\/∃o xs,H b=some (.frz o (.lst xs)))->SqL K H a (ns.map V.int)->HOk P w H s₁.heap->(∀b,H b≠none->b=a\/b=T)->(H a≠none->K.lookup a=none) ->
   codeAny (model P w) callerA (.call (.ref fa) ⟨[.ref a],[]⟩) (λr s'=>r=.ok (.ret (.bool true))/\OldK s₁.heap s'.heap/\s'.os=s₁.os/\AllBare s'.gens) s₁:=by
  intro H a2 hO hS ap hA hK;have ab:∀ {b:Aj} {o:Obj},s₁.heap.get? b=some o->H b=none->(qvu s₁.heap H).get? b=some o:=λe n=>xqz e n;have a9:∀ {b:Aj} {o:Obj},s₁.heap.get? b=some o->o.cls≠.none->(∀am n,o.data≠.seq am n)->H b=none:=λ{b o} e d1 d2=>by
   cases q:H b with
   |none=>rfl
   |some u =>
    rcases hA b (by rw[q];simp) with z|z
    .subst z;rw[ha]at e;cases e;exact absurd rfl (d2 _ _)
    .subst z;rw[hT]at e;cases e;exact absurd rfl d1
  have a4:∀ {b:Aj} {o:Obj} {es:Array DictEntry} {ep:Nat},s₁.heap.get? b=some o->o.data=.dict es ep->H b=none:=λ{b o es ep} e d=>by
   cases q:H b with
   |none=>rfl
   |some u =>
    rcases hA b (by rw[q];simp) with z|z
    .subst z;rw[ha]at e;cases e;have d':Data.seq vs.toArray _=Data.dict es ep:=d;cases d'
    .subst z;rw[hT]at e;cases e;have d':Data.fields #[]=Data.dict es ep:=d;cases d'
  have L:∀ {b:Aj} {m:Str->Option Ag},s₁.heap.Ns b m->(qvu s₁.heap H).Ns b m:=λ{b m} ⟨o,es,ep,e,d,r⟩=>⟨o,es,ep,ab e (a4 e d),d,r⟩;have a1:K.In (qvu s₁.heap H):=λb o e=>ab (KX b o e) (by
   cases q:H b with
   |none=>rfl
   |some u =>
    rcases hA b (by rw[q];simp) with z|z
    .subst z
     rw[hK (by rw[q];simp)]at e;cases e
    .subst z
     rw[hKT]at e;cases e)
  have a7:BMain mg (qvu s₁.heap H):=by obtain⟨bm,Z,b1,b2,b3,b4,b5,b6⟩:=hbm;exact⟨bm,Z,b1,b2,ab b3 (a9 b3 (by rw[b4];exactλz=>by cases z) (λam n z=>by rw[b6]at z;cases z)),b4,b5,b6⟩
  have hM:Mod K mg (qvu s₁.heap H):=⟨a1,L hns,⟨mb,L hb,hbb⟩,let ⟨mc,h1,h2⟩:=hlim;⟨mc,L h1,h2⟩⟩;have e0:Env0 P w K mg (qvu s₁.heap H) callerA [] s₁ H:=⟨rfl,hM,λb o e=>xxb e,Nat.le_of_eq (wjm _ _),trivial,λb hb=>absurd (show b∈([]:List Aj) from hb) (by simp),ap,.of_eq hg⟩;refine fj ((F _ a1 (L hns) a7).run callerA [] s₁ H ⟨[.ref a],[]⟩ [.ref a] [.ref a] _ _ hr e0 (hbind s₁ (.ref a)) (.cons rfl .nil) (hsp H a2 hS)) λr s' h=>?_;cases r with
  |error e=>exact(hCX H e s' h).elim
  |ok fl =>
   cases fl with
   |next=>exact False.elim h
   |brk=>exact False.elim h
   |cont=>exact False.elim h
   |ret u =>
    obtain⟨v,H',os,a8,W,an,r',q⟩:=h;have q':v=.bl true:=q;subst q';obtain rfl:u=Value.bool true:=r';have ad:∀b o,b≠T->s₁.heap.get? b=some o->s'.heap.get? b=some o:=λb o hb e=>by
     cases q:H b with
     |none=>exact W.keep b o e q (by intro z;exact absurd (show b∈([]:List Aj) from z) (by simp)) (by simp)
     |some u =>
      rcases hO b hb with z|⟨Z,xs,z⟩
      .rw[q]at z;cases z
      .have J:=W.frzs b Z _ z;obtain⟨U,_⟩:=ap b _ z;obtain⟨e2,_⟩:=an b _ J;rw[e]at U;cases U;exact e2
    obtain⟨ac,hm⟩:=W.tbls T _ a2;have a0:s'.heap.get? T=some { cls:=.none,data:=.fields (#[]++ac) }:=an T _ hm;have a6:isCodeTable s₁.heap T:=let ⟨o,cs,_,_,_,_,_,_,_,U,e2,e3,e4,_⟩:=hC;⟨c,o,cs,U,e2,e3,e4⟩;refine⟨rfl,⟨λb o e=>?_,λb o e=>?_⟩,os,a8⟩
    .by_cases hbT:b=T
     .subst hbT;rw[hT]at e;cases e;exact .inr (.inl ⟨a6,rfl,#[],ac,rfl,a0⟩)
     .exact .inl (ad b o hbT e)
    .by_cases hbT:b=T
     .subst hbT;exact⟨_,a0⟩
     .exact⟨o,ad b o hbT e⟩
 cases hk:K.lookup a with
 |some o =>
  have e:=KX a o hk;rw[ha]at e;cases e;refine a3 (λb=>if b=T then some (.tbl #[]) else none) (av rfl) (λb hb=>.inl (ao hb)) (.inr ⟨_,vs.toArray,_,hk,rfl,rfl,rfl,by rw[aq,a5];exact hl,by simpa using rv⟩) (λb u z=>?_) (λb z=>?_) λz=>absurd (ao as) z
  .by_cases hb:b=T
   .have D:=(av hb).symm.trans z;cases D;subst hb;exact hT
   .have D:=(ao hb).symm.trans z;cases D
  .by_cases hb:b=T
   .exact .inr hb
   .exact absurd (ao hb) z
 |none =>
  refine a3 (λb=>if b=T then some (.tbl #[]) else if b=a then some (.frz { cls:=.type "list",data:=.seq vs.toArray } (.lst (ns.map V.int))) else none) (av rfl) (λb hb=>?_) (.inl (.inr ⟨{ cls:=.type "list",data:=.seq vs.toArray },(ao as).trans (av rfl)⟩)) (λb u z=>?_) (λb z=>?_) λ_=>hk
  .by_cases hba:b=a
   .exact .inr ⟨_,_,(ao hb).trans (av hba)⟩
   .exact .inl ((ao hb).trans (ao hba))
  .by_cases hb:b=T
   .have D:=(av hb).symm.trans z;cases D;subst hb;exact hT
   .have D:=(ao hb).symm.trans z;by_cases hba:b=a
    .have J:=(av hba).symm.trans D;cases J;subst hba;exact⟨ha,by rw[ag];exact hl,vs,_,rv,ha⟩
    .have J:=(ao hba).symm.trans D;cases J
  .by_cases hb:b=T
   .exact .inr hb
   .by_cases hba:b=a
    .exact .inl hba
    .exact absurd ((ao hb).trans (ao hba)) z
end
theorem wyu {l:W.OpenLaw}{n k:Nat}{q:Ac}{loose:List Str}{XP:(Str->Option Ag)->Heap->Prop}{YP:Ah->Heap->Prop}{d:DefRec}{K:Params->Aa}{CX:Ah->CXT}{sp:Ah->Sp}{x:Str}{c T:Aj}
  (hn:l.most=some n) (hn2:n<=sizeLine) (hdf:d.params.defaults=[]) (hr:Room k callerA)
  (hY:∀(w:Ah) (h:Heap),YP w h->(K w.params).In h/\h.get? T=some (tabObj #[])) (hcT:∀p,codeHdIn (K p) c T=true) (hKT:∀p,(K p).lookup T=none)
  (F:∀(w:Ah) (mg:Str->Option Ag) (fa:Aj) (h:Heap),(K w.params).In h->h.Ns mainGlobals mg->mg d.name=some (.ref fa) ->
   ∃fd:Ad,(∀(s:Ab) (u:Ag),BindsTo s fd ⟨[u],[]⟩ [(x,u)]) /\
    ∀base:Heap,(K w.params).In base->base.Ns mainGlobals mg->BMain mg base->FnOk l.prog w (K w.params) mg base (CX w) k fa fd [x] (sp w))
  (hsp:∀(w:Ah) (H:Hp) (a:Aj) (ns:List Int),ns.length<=n->H T=some (.tbl #[])->SqL (K w.params) H a (ns.map V.int)->sp w [.ref a] H (λv _=>v=.bl true) λ_ _ _=>False)
  (hCX:∀(w:Ah) (H:Hp) (s:Ab) (e:Ag) (s':Ab),CX w [] H s (λ_ _ _=>False) e s'->False) :
  W.WalkO q loose XP YP l.row.toRowW d [] (λf vs=>PySem.call f vs):=by
 refine Att.attach_call hn hdf λw s₀ s₁ mg mb fa o pm cd ac a vs ns G Y ho hd ab U L Z J hg=>?_;obtain⟨D,hT⟩:=hY w _ Y;obtain⟨fd,hb,hF⟩:=F w mg fa _ D G.T.g U;exact wkz D G.T.g G.T.b G.T.builtins G.T.nolimit hg G.T.bmain hT (codeHd_of_K D (hcT _)) (hKT _) L Z (bK J hn2) hr hF hb (λH hO hS=>hsp w H a ns J hO hS) λH e s'=>hCX w H s₁ e s'
end L2
namespace L2
open PySem PySem.Spec PySem.Calls PySem.W PyProof.Rows
def Stb (kz:List Int)(n:Nat)(il:List Nat):Prop:=il.Perm (List.range n)/\il.Pairwise λi j=>kz.getD i 0<kz.getD j 0\/(kz.getD i 0=kz.getD j 0/\i<j)
section
variable {prog:Ac}{w:Ah}{A:Ae}{E:Ag->Ab->Prop}{s:Ab}{a kS:Aj}{vs ks:List Ag}{P:PySem.Fin->Ab->Prop}{f:Ag}
end
end L2
namespace L2
open PySem PySem.Spec PySem.Calls PySem.W PyProof.Rows
def wv5 (CX:CXT)(P:Ac)(w:Ah)(K:Aa)(mg:Str->Option Ag)(base:Heap)(N:List Str)(qual:Str)(scope:Scope)(g:Aj)(cd:Ag)(cl:List (Str×Aj))(A:Ae)(outer:List Env)(s:Ab)(H:Hp)(E:XK):Cx where
 prog:=P
 w:=w
 K:=K
 mg:=mg
 base:=base
 A:=A.deeper (envX qual scope s.heap.objs.size g cd cl)
 N:=N
 s₀:=s
 H₀:=H
 env:=envX qual scope s.heap.objs.size g cd cl
 outer:=outer
 stack:=envX qual scope s.heap.objs.size g cd cl::outer
 ex:=[]
 calm:=true
 fn:=λ_=>false
 pn:=[]
 xe:=λe s'=>wpAny (model P w) (A.deeper (envX qual scope s.heap.objs.size g cd cl)) (leaving (envX qual scope s.heap.objs.size g cd cl) e) (λ_ s''=>CX outer H s E e s'') (λe' s''=>CX outer H s E e' s'') s'
structure LamSc (x y:Str)(sc:Scope):Prop where
 kind:sc.kind=.function
 co:sc.isCoroutine=false
 gen:sc.isGenerator=false
 px:sc.names.lookup x=some .local
 fy:sc.names.lookup y=some .free
 nocell:∀z∈sc.names,z.2≠.cell
 free:∀z,sc.names.lookup z=some .free->z=y
 ne:y≠x
section
variable {CX:CXT}{P:Ac}{w:Ah}{K:Aa}{mg:Str->Option Ag}{base:Heap}{A:Ae}{outer:List Env}{s:Ab}{H:Hp}{E:XK}{name qual:Str}{params:Arguments}{body:Expr}{scope:Scope}{pm ctv:Ag}{c' g cF:Aj}{x y:Str}{k:Nat}{u uS:Ag}{v vS:V}{Q:VK}{t:TE}
theorem xx4 (S:LamSc x y scope)(hr:Room (k+1) A)(e0:Env0 P w K mg base A outer s H)(ho:s.heap.get? g=some (kla_obj name qual params body scope [(y,cF)] pm c' ctv))(hcd:s.heap.CodeRec (.ref c') qual)
  (hb:bindArgs (kla_fn name qual params body scope [(y,cF)] pm (.ref c') ctv) ⟨[u],[]⟩=pure [(x,u)]) (hcell:s.heap.IsCell cF (some uS)) (hcF:H cF=none) (rv:RelV v u) (rS:RelV vS uS)
  (hpe:PE (wv5 CX P w K mg base [x,y] qual scope g (.ref c') [(y,cF)] A outer s H E) body t) (ht:t [some v,some vS] H Q) :
  codeAny (model P w) A (.call (.ref g) ⟨[u],[]⟩) (CR CX outer P w H s Q E) s:=by
 have ad:s.heap.NoLimit:=e0.mod.nolimit.keeps λb o e=>(e0.bs b o e).1;refine kla_callFunE hr.depth ho rfl S.co S.gen rfl hcd ?_;rw[hb];refine ai (gN S.nocell (λz D=>?_) (λZ am ab=>⟨ad.fresh _ ab,?_⟩) S.kind)
 .obtain rfl:=aV.mp D;exact S.px
 show codeAny _ _ (.expr body (envX qual scope s.heap.objs.size g (.ref c') [(y,cF)])) _ _;have L:∀b o,s.heap.get? b=some o->Z.get? b=some o:=λb o e=>ab.extBut b o (aB (al e)) (ah _ e);have F:∀z c,([(y,cF)]:List (Str×Aj)).lookup z=some c->z=y/\c=cF:=λz c e=>by
  rw[bv]at e;by_cases q:(z==y)=true
  .rw[q]at e;exact⟨by simpa using q,(au e).symm⟩
  .rw[i7]at q;rw[q]at e;cases e
 have W:([(y,cF)]:List (Str×Aj)).lookup y=some cF:=by rw[bv,fm]
 have U:∀b:Aj,b∉(wv5 CX P w K mg base [x,y] qual scope g (.ref c') [(y,cF)] A outer s H E).ex:=λb z=>absurd (show b∈([]:List Aj) from z) (by simp);have I:Inv (wv5 CX P w K mg base [x,y] qual scope g (.ref c') [(y,cF)] A outer s H E) [] [some v,some vS] H { s with heap:=Z,toks:=s.toks+1 }:=by
  refine⟨⟨e0.mod,S.kind,rfl,rfl,aj _,λa b c h1 h2=>(F a c h1).1.trans (F b c h2).1.symm,λz D=>?_,λz c D=>(by cases D),λ_=>hr.hd,Around.frames_deeper e0.frames,.inr ⟨rfl,rfl⟩,λb z=>absurd z (U b),e0.bs,e0.bsz,λb _ _=>U b,λb z=>absurd z (U b),e0.funs,e0.frf⟩,
   rfl,e0.bare,Un.kept L,⟨_,am,λi z a h1 h2 h3=>?_⟩,λz c h=>?_,e0.hok.fresh (aj _),λz c h=>?_,λp hp=>absurd (show p∈([]:List (Aj×Obj)) from hp) (by simp),e0.hok.kept L,rfl⟩
  .rcases D with D|D
   .exact absurd rfl (S.nocell _ (dM D))
   .rw[S.free z D];exact⟨cF,W⟩
  .match i,h1,h2 with
   |0,h1,h2 =>
    obtain rfl:x=z:=au h1;obtain rfl:v=a:=au (au h2);refine⟨u,rv,.inl ⟨S.px,?_⟩⟩;show List.lookup x [(x,u)]=some u;rw[bv,fm]
   |1,h1,h2 =>
    obtain rfl:y=z:=au h1;obtain rfl:vS=a:=au (au h2);exact⟨uS,rS,.inr ⟨.inr S.fy,cF,W,let ⟨o,h1,h2⟩:=hcell;⟨o,L _ _ h1,h2⟩⟩⟩
   |n+2,h1,_=>cases h1
  .obtain⟨rfl,rfl⟩:=F z c h;exact⟨_,let ⟨o,h1,h2⟩:=hcell;⟨o,L _ _ h1,h2⟩⟩
  .obtain⟨rfl,rfl⟩:=F z c h;exact hcF
 refine kla_codeExpr (aZ (hpe [] _ [some v,some vS] H _ I ht) (λr s' hs=>?_) λ_ _ h=>h);obtain⟨v',H',J,ac,q⟩:=hs;exact⟨v',H',J.os,J.bare,J.base,J.hok,ac,q⟩
end
def qv5 (q:Str)(c':Aj):HO:=.ext λh=>h.CodeRec (.ref c') q
def qus (g:Aj)(ob:Obj):HO:=.ext λh=>h.get? g=some ob
def quh (pos:Pos)(c':Aj):Array Ag:=#[rawInt pos.line,rawInt pos.col,.ref c']
def TabAt (T:Aj)(pos:Pos)(q:Str)(c':Aj)(H:Hp):Prop:=H T=some (.tbl (quh pos c'))/\H c'=some (qv5 q c')
def jk (T:Aj)(pos:Pos)(q:Str)(H:Hp):Prop:=H T=some (.tbl #[])\/∃c',TabAt T pos q c' H
def KeepT (T:Aj)(H H':Hp):Prop:=∀b o,b≠T->H b=some o->H' b=some o
theorem wu0 {P:Ac}{w:Ah}{H:Hp}{h:Heap}{c':Aj}{q:Str}(r:h.CodeRec (.ref c') q):ObjOk P w H h c' (qv5 q c'):=by obtain⟨c,D,vs,t,e,F,J,hv⟩:=id r;cases e;refine⟨r,⟨D,F⟩,λh1 h2 ⟨c,o1,v1,t1,e1,f1,f2,f3⟩ k=>?_⟩;cases e1;exact⟨c',o1,v1,t1,rfl,k _ f1,f2,f3⟩
theorem wvp {P:Ac}{w:Ah}{H:Hp}{h:Heap}{g:Aj}{ob:Obj}(e:h.get? g=some ob):ObjOk P w H h g (qus g ob) :=
 ⟨e,⟨ob,e⟩,λh1 h2 q k=>k _ q⟩
def tLam (T:Aj)(pos:Pos)(q:Str)(ob:Aj->Ag->Obj):TE:=λ_ H Q=>jk T pos q H/\∀(g c':Aj) (ctv:Ag) (H':Hp),KeepT T H H'->TabAt T pos q c' H'->H g=none->H' g=some (qus g (ob c' ctv))->Q (.ref g) H'
section
variable {X:Cx}{params:Arguments}{body:Expr}{scope:Scope}{pos:Pos}{c T:Aj}{clos:List (Str×Aj)}
theorem pe_lam (hB:BMain X.mg X.base)(hcd:X.env.code=.ref c)(hC:codeHdIn X.K c T=true)(hdef:defaultsOf params X.env=([],[]))(hcl:closureFor scope X.env=pure clos) :
  PE X (.Lambda params body scope pos) (tLam T pos (X.env.qual ++ "<lambda>") λc' ctv=>kla_obj "<lambda>" (X.env.qual ++ "<lambda>") params body scope clos ((X.mg "__name__").getD .none) c' ctv):=by
 intro pins s σ H Q I ⟨tab,h⟩;refine kla_eval hdef ?_;have hg:s.heap.Ns mainGlobals X.mg:=I.mod.glob.keeps I.bk;have CH:CodeHd s.heap c T:=codeHd_of_K I.kIn hC;obtain⟨bm,ob,b1,b2,b3,b4,b5,b6⟩:=hB.kept I.bk;have ap:∀ps,s.heap.get? T=some (tabObj ps)->mainGlobals≠T/\s.heap.BuiltinsAt X.mg T:=λps hP=>by
  refine⟨λq=>?_,bm,ob,b1,b2,λq=>?_,λq=>?_,b3,b4,b5,b6⟩
  .obtain⟨o,es,ep,e,hd,_⟩:=hg;rw[q,hP]at e;cases e;cases hd
  .obtain⟨o,es,ep,e,hd,_⟩:=hg;rw[q,e]at b3;cases b3;rw[hd]at b6;cases b6
  .rw[q,hP]at b3;cases b3;cases b4
 rcases tab with hT|⟨c',hT,hc'⟩
 .have U:s.heap.get? T=some (tabObj #[]):=I.hok T _ hT;obtain⟨am,J⟩:=ap _ U;refine kla_makeFunction (mg:=X.mg) hcl I.ok.glob hg hcd CH U trivial rfl am J λc' ctv h' tk hx L Z a2 a1=>?_;have ac:h'.get? T=some (tabObj (quh pos c')):=by rw[a1];rfl
  have an:T<s.heap.objs.size:=al U;have a3:H c'=none:=I.hok.fresh L;have ab:H h'.objs.size=none:=I.hok.fresh (br (eN L Z));have d1:c'≠T:=λz=>absurd L (by rw[z];exact Nat.not_le_of_lt an);have d2:h'.objs.size≠T:=λz=>by rw[z]at Z;exact absurd L (Nat.not_le_of_lt (bo Z an))
  have d3:h'.objs.size≠c':=fi Z;have a0:∀b o,s.heap.get? b=some o->b≠c'/\b≠h'.objs.size:=λb o e =>
   ⟨aB (aL (al e) L),aB (bo (aL (al e) L) Z)⟩
  have as:∀b,b≠T->b≠c'->b≠h'.objs.size->upd (upd (upd H T (.tbl (quh pos c'))) c' (qv5 (X.env.qual ++ "<lambda>") c')) h'.objs.size (qus h'.objs.size (kla_obj "<lambda>" (X.env.qual ++ "<lambda>") params body scope clos ((X.mg "__name__").getD .none) c' ctv)) b=H b:=λb e1 e2 e3=>by rw[qt e3,qt e2,qt e1]
  have kp:∀b o,b≠T->s.heap.get? b=some o->(h'.push (kla_obj "<lambda>" (X.env.qual ++ "<lambda>") params body scope clos ((X.mg "__name__").getD .none) c' ctv)).get? b=some o:=λb o e1 e=>ah _ (hx b o e1 e);have D:∀b o,b≠T->H b=some o->upd (upd (upd H T (.tbl (quh pos c'))) c' (qv5 (X.env.qual ++ "<lambda>") c')) h'.objs.size (qus h'.objs.size (kla_obj "<lambda>" (X.env.qual ++ "<lambda>") params body scope clos ((X.mg "__name__").getD .none) c' ctv)) b=some o:=λb o e1 e=>by rw[as b e1 (q9 e a3) (q9 e ab)];exact e
  have tT:upd (upd (upd H T (.tbl (quh pos c'))) c' (qv5 (X.env.qual ++ "<lambda>") c')) h'.objs.size (qus h'.objs.size (kla_obj "<lambda>" (X.env.qual ++ "<lambda>") params body scope clos ((X.mg "__name__").getD .none) c' ctv)) T=some (.tbl (quh pos c')):=by rw[qt d2.symm,qt d1.symm,qc]
  have W:∀b o,H b=some o->(∀ps,o≠.tbl ps)->b≠T:=λb o e n z=>by rw[z,hT]at e;cases e;exact n _ rfl
  refine⟨.ref h'.objs.size,_,I.call' (s':={ s with heap:=h'.push (kla_obj "<lambda>" (X.env.qual ++ "<lambda>") params body scope clos ((X.mg "__name__").getD .none) c' ctv),toks:=tk }) (ch:=[]) rfl ⟨λb o e n _ _=>kp b o (λz=>by rw[z,hT]at n;cases n) e,λb o e n _ _=>⟨o.slots,kp b o (λz=>by rw[z,hT]at n;cases n) e⟩,λb o e n _=>?_,λb o e _=>?_,λb xs e=>D b _ (W b _ e λps z=>by cases z) e,λb o u e=>D b _ (W b _ e λps z=>by cases z) e,λb ps e=>?_⟩ (λb u e=>?_) I.bare (λb z=>absurd z (by simp)),rfl,h _ c' ctv _ D ⟨tT,?_⟩ ab qc⟩
  .obtain⟨l1,l2⟩:=a0 b o e;rw[as b (λz=>by rw[z,hT]at n;cases n) l1 l2];exact n
  .by_cases hb:b=T
   .rw[hb];exact⟨_,ah _ ac⟩
   .exact⟨o,kp b o hb e⟩
  .by_cases hb:b=T
   .subst hb;rw[hT]at e;cases e;exact⟨quh pos c',by rw[tT];simp⟩
   .exact⟨#[],by rw[D b _ hb e];simp⟩
  .by_cases hbg:b=h'.objs.size
   .subst hbg;rw[qc]at e;cases e;exact wvp (az _ rfl)
   .rw[qt hbg]at e;by_cases hbc:b=c'
    .subst hbc;rw[qc]at e;cases e;obtain⟨F,oc,vs,t,f1,f2,f3,f4⟩:=a2;exact wu0 ⟨F,oc,vs,t,f1,ah _ f2,f3,f4⟩
    .rw[qt hbc]at e;by_cases J:b=T
     .subst J;rw[qc]at e;cases e;exact ah _ ac
     .rw[qt J]at e;refine(I.hok b u e).stay (λF v hc q=>kp F v ?_ q) (λF q=>D F _ (W F _ q λps z=>by cases z) q) λF xs q=>D F _ (W F _ q λps z=>by cases z) q;rcases hc with rfl|hc
      .exact J
      .exact W F _ hc λps z=>by cases z
  .rw[qt d3.symm,qc]
 .have U:s.heap.get? T=some (tabObj (quh pos c')):=I.hok T _ hT;obtain⟨am,J⟩:=ap _ U;refine kla_makeFunctionHit (mg:=X.mg) (cv:=.ref c') hcl I.ok.glob hg hcd CH U trivial ?_ J λctv h' tk hk ad=>?_
  .show codeAmong pos [rawInt pos.line,rawInt pos.col,.ref c']=some (.ref c');simp[codeAmong,rawInt]
  have ab:H h'.objs.size=none:=I.hok.fresh ad;have D:∀b o,H b=some o->upd H h'.objs.size (qus h'.objs.size (kla_obj "<lambda>" (X.env.qual ++ "<lambda>") params body scope clos ((X.mg "__name__").getD .none) c' ctv)) b=some o:=λb o e=>by rw[qt (q9 e ab)];exact e
  exact⟨.ref h'.objs.size,_,I.laid (a:=h'.objs.size) (o:=qus h'.objs.size (kla_obj "<lambda>" (X.env.qual ++ "<lambda>") params body scope clos ((X.mg "__name__").getD .none) c' ctv)) (t':=tk) (λb u q=>ah _ (hk b u q)) ad (wvp (az _ rfl)),rfl,h _ c' ctv _ (λb o _ e=>D b o e) ⟨D _ _ hT,D _ _ hc'⟩ ab qc⟩
end
end L2
namespace L2
open PySem PySem.Spec PySem.Calls PySem.W PyProof.Rows
theorem qxr {xs:List V}{its:List Ag}(rv:Vals xs its):∀(il:List Nat),(∀i∈il,i<xs.length)->Vals (il.map λi=>xs.getD i .non) (il.map λi=>its.getD i Value.none)
 |[],_=>.nil
 |i::r,hin=>by
  refine .cons ?_ (qxr rv r λj hj=>hin j (.tail _ hj));have hi:=hin i (.head _);obtain⟨u,eu,ru⟩:=rv.get (i:=i) (ae hi);have e1:its.getD i Value.none=u:=by rw[af,eu];rfl
  have D:xs.getD i .non=xs[i]:=by rw[af,ae hi];rfl
  show RelV (xs.getD i .non) (its.getD i Value.none);rw[e1,D];exact ru
section
variable {X:Cx}{pins:List (Aj×Obj)}{σ:St}{H:Hp}{s:Ab}
end
def wv1 (X:Cx)(f:Ag)(ks:List Str)(r:St->List V->List V->Hp->VK->Prop):Prop :=
 ∀(pins:List (Aj×Obj)) (s:Ab) (σ:St) (H:Hp) (xs zs:List V) (us ws:List Ag) (Q:VK),Inv X pins σ H s->Vals xs us->Vals zs ws->r σ xs zs H Q ->
  wpAny (model X.prog X.w) X.A (call f us (ks.zip ws)) (EP X pins σ Q) X.xe s
def tCBKS (r:St->List V->List V->Hp->VK->Prop)(t tk:TA):TE:=λσ H Q=>t σ H λvs H1=>tk σ H1 λzs H2=>r σ vs zs H2 Q
section
variable {X:Cx}{x:Str}{p pos:Pos}{e:Expr}{es:List Expr}{kws:List Keyword}{t tk:TA}{id:String}{ks:List Str}{r:St->List V->List V->Hp->VK->Prop}
theorem wxs (hc:wv1 X (.builtin id) ks r)(hg:Gl X x)(hm:X.mg x=none)(hv:bootBuiltins x=some (.builtin id))(ha:PA X (e::es) t)(hkw:PK X kws tk)
  (hall:autoParam ((backToKw pos (keywordEach kws X.env)).all (·.1.isSome)=true) aU4._auto_1) (hks:autoParam ((backToKw pos (keywordEach kws X.env)).filterMap (·.1)=ks) aU4._auto_1) (hn:autoParam (x ≠ "__name__") aU2._auto_1) (hdb:autoParam ((x==("__debug__" : Str))=false) aU1._auto_1)
  (he:autoParam (starEach (e::es) X.env=(false,eval e X.env)::starEach es X.env) aU4._auto_1)
  (hpl:autoParam ((backTo pos (starEach (e::es) X.env)).any (·.1)=false) aU4._auto_1) (hpk:autoParam ((backToKw pos (keywordEach kws X.env)).any (·.1.isNone)=false) aU4._auto_1):PE X (.Call (.Name x p) (e::es) kws pos) (tCBKS r t tk):=by
 intro pins s σ H Q I h;refine dk (j3 I hg hm hv ?_ hn hdb);refine callWith_builtin_kwB hpl hpk (evalArgs_kw2 hall (thn (ha pos pins s σ H _ I h) λus s1 ⟨vs,H1,I1,r1,q⟩=>?_) he);refine thn (hkw pos pins s1 σ H1 _ I1 q) λws s2 ⟨zs,H2,I2,rz,q2⟩=>?_;dsimp only [List.nil_append];rw[hks];exact hc pins s2 σ H2 vs zs us ws Q I2 r1 rz q2
end
section
variable {X:Cx}{x y:Str}{params:Arguments}{body:Expr}{scope:Scope}{cF:Aj}{qual:Str}{pm:Ag}{iy k:Nat}{t:TE}
end
end L2
namespace L2
open PySem PySem.Spec PySem.Calls PySem.W PyProof.Rows
theorem xzk {α:Type}{l l':List α}(d:α)(p:l'.Perm l):∃il:List Nat,il.Perm (List.range l.length)/\l'=il.map λi=>l.getD i d:=by
 have U:∀(l:List α) (k:Nat) (L:List α),(∀j,j<l.length->L[k+j]?=l[j]?)->Paired (λx i=>L[i]?=some x) l (List.range' k l.length):=by
  intro l
  induction l with
  |nil=>intro k L _;exact .nil
  |cons x l ih =>
   intro k L h;rw[aJ,List.range'_succ];refine .cons (by have:=h 0 (by simp);simpa using this) (ih (k+1) L λj W=>?_);have:=h (j+1) (by simp;lia);rw[show k+1+j=k+(j+1) by lia,this];rfl
 have D:=U l 0 l λj _=>by rw[cJ]
 rw[<-List.range_eq_range']at D;obtain⟨il,J,F⟩:=Paired.perm p D;refine⟨il,J,?_⟩;have:∀ {l':List α} {il:List Nat},Paired (λx i=>l[i]?=some x) l' il->l'=il.map λi=>l.getD i d:=by
  intro l' il h
  induction h with
  |nil=>rfl
  |cons r t ih=>rw[aM,af,r,<-ih];rfl
 exact this F
section
variable {prog:Ac}{w:Ah}{A:Ae}{E:Ag->Ab->Prop}{s:Ab}{a kS:Aj}{vs ks:List Ag}{P:PySem.Fin->Ab->Prop}{f:Ag}
theorem wqz {st:Af}{e e1:Nat}{out:List Ag}(hka:kS≠a)(hk:s.heap.get? kS=some (seqObj "list" ks.toArray e))(ha:s.heap.get? a=some (seqObj "list" #[] e1))(hout:(arrOf st).map (·.2)=List.toArray out)(hz:out.length<=100000)(hkz:ks.length<=100000)(hf:failedOf st=none)
  (h:P (.done (.ret .none)) { s with heap:=(s.heap.update kS (Obj.mapSeq λ_=>(#[]:Array Ag))).update a (Obj.mapSeq λ_=>out.toArray) }):wpAny (model prog w) A (ksk_tail a false e1 (.ref kS) st) P E s:=by
 have D:(s.heap.update kS (Obj.mapSeq λ_=>(#[]:Array Ag))).get? a=some (seqObj "list" #[] e1):=by rw[bP _ _ _ _ (λz=>hka z.symm)];exact ha
 unfold ksk_tail
 try dsimp only
 rw[hout];refine aa (eY hk rfl ?_ (by rw[aq,dQ];lia) (aW _));refine aa (gP ?_);refine aa (iS D rfl ?_);refine aa (eY D rfl ?_ (aW _) (by simp only[aG,bB];rw[aq,dQ];lia));rw[hf];simp only[eZ,aG,bB];exact ai h
theorem wwh {s:Ab}{G:Ai->Prop}(hG:∀x,G x->∃n t,x.1=Value.int n t):Tm.yg (model prog w) A E s G (λx=>numOf x.1) oneType':=by rintro⟨L,J⟩ ⟨y1,y2⟩ st Q gx gy hk hQ;obtain⟨n,t,F⟩:=hG _ gx;obtain⟨m,u,D⟩:=hG _ gy;dsimp only at F D;subst F D;rw[lt'_eq];refine ay (gJ ?_);rw[hk,keyLt'_oneType];refine ay (iB (eX (oneLt_int ⟨rfl,?_⟩)));exact aI hQ
theorem wk1 {R:Nat->Nat->Prop}{n:Nat}(h:n<2):(List.range n).Pairwise R:=by
 match n,h with
 |0,_=>exact .nil
 |1,_=>exact eJ _ _
theorem wzx {vs:List Ag}(h:vs.length<2):((List.range vs.length).map λi=>vs.getD i Value.none)=vs:=by
 match vs,h with
 |[],_=>rfl
 |[v],_=>rfl
theorem xzd {kz:List Int}{e e1:Nat}(hka:kS≠a)(hk:s.heap.get? kS=some (seqObj "list" ks.toArray e))(ha:s.heap.get? a=some (seqObj "list" #[] e1))(hl:ks.length=vs.length)(h64:vs.length<=100000)(t:IntsAre ks kz)(nd:kz.Pairwise (·≠·))
  (h:∀il,Stb kz vs.length il->P (.done (.ret .none)) { s with heap:=(s.heap.update kS (Obj.mapSeq λ_=>(#[]:Array Ag))).update a (Obj.mapSeq λ_=>(il.map λi=>vs.getD i Value.none).toArray) }) :
  wpAny (model prog w) A (ksk_end a false vs.toArray e1 (.ref kS) ks.toArray) P E s:=by
 have ap:ks.length=kz.length:=Wv t;have tt:IntsAre ks.toArray.toList kz:=t;unfold ksk_end
 try dsimp only
 simp only[aG,bB];by_cases h2:vs.toArray.size<2
 .rw[av h2,av h2];refine aa (ai ?_);have ab:vs.length<2:=by simpa using h2
  refine aa (ai ?_);refine wqz (out:=vs) hka hk ha ?_ h64 ⋯ rfl ?_
  .show(ks.toArray.zip vs.toArray).map (·.2)=vs.toArray;apply eI.mp;simp;rw[List.map_snd_zip ⋯]
  .have:=h (List.range vs.length) ⟨.refl _,wk1 ab⟩;have e:=wzx ab;rw[e]at this;exact this
 .rw[ao h2,ao h2];have ab:2<=vs.length:=by simpa using h2
  rw[ksk_kind tt (by rw[aq];lia)];refine aa (ai ?_);have Z:(ks.toArray.zip vs.toArray).toList=ks.zip vs:=by rw[Array.toList_zip]
  have F:∀i x,(ks.zip vs)[i]?=some x->i<vs.length/\x.2=vs.getD i .none/\numOf x.1=kz.getD i 0/\∃n t,x.1=Value.int n t:=λi x ex=>by
   have hi:=(ak.mp ex).1;rw[List.length_zip]at hi;have h1:i<ks.length:=by lia
   have h3:i<vs.length:=by lia
   rw[List.getElem?_zip_eq_some]at ex;obtain⟨e1,e2⟩:=ex;refine⟨h3,by rw[af,e2];rfl,?_,t.all _ (aC e1)⟩;rw[<-t.nums,af,ax,e1];rfl
  have U:Tm.Un (λx:Ai=>numOf x.1) (λx=>∃n t,x.1=Value.int n t) (ks.toArray.zip vs.toArray):=by
   refine⟨?_,λx W=>?_⟩
   .rw[Z];refine bh.mpr λi j hi hj ad=>?_;obtain⟨a1,_,a3,_⟩:=F i _ (ae hi);obtain⟨b1,_,J,_⟩:=F j _ (ae hj);rw[a3,J,af,af,ae ⋯,ae ⋯];exact bh.mp nd i j ⋯ ⋯ ad
   .rw[Z]at W;obtain⟨i,ei⟩:=bS W;exact(F i x ei).2.2.2
  refine aa (aZ (Tm.Yj (Q:=λ_ D=>(arrOf D).Perm (ks.toArray.zip vs.toArray)/\failedOf D=none/\Tm.SL (λx:Ai=>numOf x.1) (arrOf D).toList) (st:=SortSt.mk' oneType' (ks.toArray.zip vs.toArray) #[] 7 none) (wwh λx W=>W) U rfl rfl rfl rfl λD a1 a2 a3=>⟨a1,a2,a3⟩) ?_ λ_ _ e=>e);rintro⟨⟨⟩,D⟩ s' ⟨rfl,b1,b2,J⟩
  try dsimp only
  have pl:=dX.mp b1;rw[Z]at pl;obtain⟨il,L,p2⟩:=xzk (d:=((.none,.none):Ai)) pl;have lz:(ks.zip vs).length=vs.length:=by rw[List.length_zip];lia
  rw[lz]at L;have ac:∀i∈il,i<vs.length:=λi hi=>aw.mp (L.mem_iff.mp hi);have am:∀i,i<vs.length->(ks.zip vs)[i]?=some ((ks.zip vs).getD i (.none,.none)):=λi hi=>by rw[af,ae ⋯];rfl
  have e3:(arrOf D).map (·.2)=List.toArray (il.map λi=>vs.getD i .none):=by apply eI.mp;rw[Array.toList_map,p2,bF];exact eF λi hi=>(F i _ (am i (ac i hi))).2.1
  have st:Stb kz vs.length il:=by refine⟨L,?_⟩;rw[p2]at J;unfold Tm.SL at J;rw[b9]at J;refine cx (λ{i j} hi hj ad=>.inl ?_) J;have an:numOf ((ks.zip vs).getD i (.none,.none)).1<numOf ((ks.zip vs).getD j (.none,.none)).1:=ad;rwa [(F i _ (am i (ac i hi))).2.2.1,(F j _ (am j (ac j hj))).2.2.1]at an
  refine wqz hka hk ha e3 ?_ ⋯ b2 (h il st);rw[ag,L.length_eq,aH];exact h64
theorem xq6 {J:List Ag->List Int->Ab->Prop}{e1:Nat}(hka:kS≠a)(h64:vs.length<=100000)
  (hJ:∀ks kz s,J ks kz s->(∃e,s.heap.get? kS=some (seqObj "list" ks.toArray e))/\s.heap.get? a=some (seqObj "list" #[] e1)/\IntsAre ks kz)
  (step:∀x ks kz (s:Ab),vs[ks.length]?=some x->J ks kz s->wpAny (model prog w) A (call f [x]) (λk s'=>(∃e,s'.heap.get? kS=some (seqObj "list" ks.toArray e))/\∃z,J (ks++[k]) (kz++[z]) { s' with heap:=s'.heap.update kS (Obj.mapSeq (·.push k)) }) (λ_ _=>False) s)
  (nd:∀ks kz (s:Ab),ks.length=vs.length->J ks kz s->kz.Pairwise (·≠·))
  (fin:∀ks kz (s:Ab),ks.length=vs.length->J ks kz s->∀il,Stb kz vs.length il ->
   P (.done (.ret .none)) { s with heap:=(s.heap.update kS (Obj.mapSeq λ_=>(#[]:Array Ag))).update a (Obj.mapSeq λ_=>(il.map λi=>vs.getD i Value.none).toArray) })
  (j:J [] [] s):wpAny (model prog w) A (ksk_rest a f false vs.toArray e1 (.ref kS)) P E s:=by
 unfold ksk_rest;refine aa (dI ?_)
 first
  |rw[List.forIn_toArray]
  |(rw[<-fS];simp only[List.toList_toArray])
  |rw[<-fS]
 refine aa (aZ (wvx (vs:=vs) (J:=J) (λx ks kz s' U D=>?_) vs [] [] s (by simp) (aW _) j) (λ_ s' Z=>?_) λ_ _ x=>x)
 .refine aa (eX (aZ (step x ks kz s' U D) (λk ab W=>?_) λ_ _ hF=>hF.elim));obtain⟨⟨e,F⟩,xs,j2⟩:=W;have hz:ks.length<vs.length:=(ak.mp U).1
  try dsimp only
  refine aa (eY F rfl ?_ (by rw[aq,dQ];lia) (bK (Nat.le_of_eq (Array.size_push ..)) (by rw[aq,dQ];lia)));exact ai ⟨rfl,k,xs,j2⟩
 .obtain⟨ks,kz,L,D⟩:=Z;obtain⟨⟨e,F⟩,h1,h2⟩:=hJ _ _ _ D
  try dsimp only
  refine aa (listItems_at F rfl ?_);exact xzd hka F h1 L h64 h2 (nd ks kz s' L D) (fin ks kz s' L D)
theorem xqq {J:Nat->List Ag->List Int->Ab->Prop}{n:Nat}(ho:s.heap.get? a=some (seqObj "list" vs.toArray n))(h64:vs.length<=100000)
  (hJ:∀e1 ks kz s',J e1 ks kz s'->(∃e,s'.heap.get? (s.heap.objs.size+1)=some (seqObj "list" ks.toArray e))/\s'.heap.get? a=some (seqObj "list" #[] e1)/\IntsAre ks kz)
  (step:∀e1 x ks kz (s':Ab),vs[ks.length]?=some x->J e1 ks kz s'->wpAny (model prog w) A (call f [x]) (λk s2=>(∃e,s2.heap.get? (s.heap.objs.size+1)=some (seqObj "list" ks.toArray e))/\∃z,J e1 (ks++[k]) (kz++[z]) { s2 with heap:=s2.heap.update (s.heap.objs.size+1) (Obj.mapSeq (·.push k)) }) (λ_ _=>False) s')
  (nd:∀e1 ks kz (s':Ab),ks.length=vs.length->J e1 ks kz s'->kz.Pairwise (·≠·))
  (fin:∀e1 ks kz (s':Ab),ks.length=vs.length->J e1 ks kz s'->∀il,Stb kz vs.length il ->
   P (.done (.ret .none)) { s' with heap:=(s'.heap.update (s.heap.objs.size+1) (Obj.mapSeq λ_=>(#[]:Array Ag))).update a (Obj.mapSeq λ_=>(il.map λi=>vs.getD i Value.none).toArray) })
  (j:∀e1,(Zc s.heap a vs).get? a=some (seqObj "list" #[] e1)->J e1 [] [] { s with heap:=Zc s.heap a vs }):wpAny (model prog w) A (ksk_tree a f false) P E s:=by
 have L:a<s.heap.objs.size:=al ho;obtain⟨e1,D⟩:∃e1,(s.heap.update a (Obj.mapSeq λ_=>(#[]:Array Ag))).get? a=some (seqObj "list" #[] e1):=⟨_,eU ho λ_=>#[]⟩;have F:((s.heap.update a (Obj.mapSeq λ_=>(#[]:Array Ag))).push (seqObj "tuple" vs.toArray 0)).objs.size=s.heap.objs.size+1:=by rw[size_push',jl]
 unfold ksk_tree;refine aa (listItems_at ho rfl ?_);refine aa (eY ho rfl ?_ (by rw[aq,dQ];lia) (aW _));refine aa (iS D rfl ?_);refine aa (wpAny_newTuple ?_ (by show vs.length<=_;rw[dQ];lia));refine aa (gK ?_ (aW _));refine bN ?_;show wpAny (model prog w) A (ksk_rest a f false vs.toArray e1 (.ref ((s.heap.update a (Obj.mapSeq λ_=>(#[]:Array Ag))).push (seqObj "tuple" vs.toArray 0)).objs.size)) P E { s with heap:=Zc s.heap a vs };rw[F];exact xq6 (J:=J e1) (fi (ff L)) h64 (hJ e1) (step e1) (nd e1) (fin e1) (j e1 (ah _ (ah _ D)))
end
section
variable {X:Cx}{pins:List (Aj×Obj)}{σ:St}{H:Hp}{s:Ab}
theorem quj {g p:Aj}{xs:List V}{kz:List Int}{Q:VK}(I:Inv X pins σ H s)(hS:SqL X.K H p xs)(h64:xs.length<=100000)(hnd:kz.Pairwise (·≠·))(hkz:kz.length=xs.length)
  (step:∀(pins':List (Aj×Obj)) (s':Ab) (i:Nat) (v:V) (u:Ag),Inv X pins' σ H s'->xs[i]?=some v->RelV v u ->
   wpAny (model X.prog X.w) X.A.in1.in1 (call (.ref g) [u]) (λr s2=>(∃t,r=.int (kz.getD i 0) t)/\Inv X pins' σ H s2) (λ_ _=>False) s')
  (q:∀l il,H l=none->Stb kz xs.length il->Q (.ref l) (upd H l (.lst (il.map λi=>xs.getD i .non)))) :
  wpAny (model X.prog X.w) X.A (call (.builtin "sorted") [.ref p] [(Str.ofString "key",.ref g)]) (EP X pins σ Q) X.xe s:=by
 obtain⟨its,rv,pl,hz⟩:=I.list hS;have hl:s.heap.IsList p its.toArray:=pl.isList;have hlen:its.length=xs.length:=rv.length.symm;refine call_function_entry_kw kind_sorted plain_sorted entry_sorted (ksk_s1 _ _) ?_;unfold Builtin.«sorted»;refine aa (m:=checkCount "sorted" 1 1 _) (ai ?_);refine aa (collect_list hl ?_ (by rw[dQ];lia));refine aa (gK ?_ (by rw[dQ];lia));have hsz:((s.heap.push (seqObj "list" #[] 0)).update s.heap.objs.size (Obj.mapSeq (·++its.toArray))).objs.size=s.heap.objs.size+1:=by rw[jl,size_push']
 have hoL:(((s.heap.push (seqObj "list" #[] 0)).update s.heap.objs.size (Obj.mapSeq (·++its.toArray))).push (seqObj "list" its.toArray 0)).get? (s.heap.objs.size+1)=some (seqObj "list" its.toArray 0):=by rw[<-hsz];exact az _ rfl
 have keep:∀b o,s.heap.get? b=some o->(((s.heap.push (seqObj "list" #[] 0)).update s.heap.objs.size (Obj.mapSeq (·++its.toArray))).push (seqObj "list" its.toArray 0)).get? b=some o:=λb o q=>by have hlt:b<s.heap.objs.size:=al q;rw[Heap.get?_push_ne _ _ _ (by rw[hsz];exact aB (ff hlt)),bP _ _ _ _ (aB hlt),Heap.get?_push_ne _ _ _ (aB hlt)];exact q
 show wpAny _ _ _ _ _ { s with heap:=((s.heap.push (seqObj "list" #[] 0)).update s.heap.objs.size (Obj.mapSeq (·++its.toArray))).push (seqObj "list" its.toArray 0) };rw[hsz];generalize hh1:((s.heap.push (seqObj "list" #[] 0)).update s.heap.objs.size (Obj.mapSeq (·++its.toArray))).push (seqObj "list" its.toArray 0)=h1 at hoL keep ⊢;have hs1:h1.objs.size=s.heap.objs.size+2:=by rw[<-hh1,size_push',hsz]
 have fD:v6 X pins H (s.heap.objs.size+1):=I.fpOk (iN _) (I.hok.fresh (iN _));have nK:H (h1.objs.size+1)=none:=I.hok.fresh (by rw[hs1];exact ja _ 3);have fK:v6 X pins H (h1.objs.size+1):=I.fpOk (by rw[hs1];exact ja _ 3) nK;have nD:H (s.heap.objs.size+1)=none:=I.hok.fresh (iN _);have hne:(h1.objs.size+1:Nat)≠s.heap.objs.size+1:=by lia
 refine aa (bN (wpAny_call_entry_kw slot_list_sort ⟨_,hoL,rfl⟩ entry_list_sort ?body (ksk_l1 _ _)))
 case body =>
  show wpAny (model X.prog X.w) X.A.in1.in1 (Builtin.«list.sort» ⟨[.ref (s.heap.objs.size+1)],[(Str.ofString "key",.ref g)]⟩) _ _ { s with heap:=h1 };rw[ksk_t1];refine xqq (s:={ s with heap:=h1 }) (J:=λe1 ks zs s'=>Inv X pins σ H s'/\s'.heap.get? (s.heap.objs.size+1)=some (seqObj "list" #[] e1) /\
   (∃e,s'.heap.get? (h1.objs.size+1)=some (seqObj "list" ks.toArray e))/\IntsAre ks zs/\zs=kz.take ks.length/\ks.length<=xs.length) hoL ⋯ ?_ ?_ ?_ ?_ ?_
  .rintro e1 ks zs s' ⟨I',g1,g2,ia,_,_⟩;exact⟨g2,g1,ia⟩
  .rintro e1 x ks zs s' hx ⟨I',g1,⟨e,g2⟩,ia,ek,lk⟩;have hi:ks.length<xs.length:=by have:=(ak.mp hx).1;lia
   obtain⟨u,eu,ru⟩:=rv.get (i:=ks.length) (ae hi);rw[hx]at eu;cases eu;have I2:Inv X ((s.heap.objs.size+1,seqObj "list" #[] e1)::(h1.objs.size+1,seqObj "list" ks.toArray e)::pins) σ H s':=I'.pins_of λp hp=>by
    rcases aQ.mp hp with rfl|hp
    .exact⟨g1,nD,fD.2.1,fD.2.2.1,λv z=>by cases z⟩
    .rcases aQ.mp hp with rfl|hp
     .exact⟨g2,nK,fK.2.1,fK.2.2.1,λv z=>by cases z⟩
     .exact I'.pin p (aN _ hp)
   refine aZ (step _ s' ks.length _ x I2 (ae hi) ru) (λr s2 hq=>?_) λ_ _ h=>h;obtain⟨⟨t,rfl⟩,I3⟩:=hq;obtain⟨d1,d2,_⟩:=I3.pin (s.heap.objs.size+1,seqObj "list" #[] e1) (aN _ (.head _));obtain⟨k1,k2,_⟩:=I3.pin (h1.objs.size+1,seqObj "list" ks.toArray e) (aN _ (.tail _ (.head _)));have I4:Inv X pins σ H s2:=I3.pins_of λp hp=>I3.pin p (aN _ (.tail _ (.tail _ hp)));refine⟨⟨e,k1⟩,kz.getD ks.length 0,I4.turnedL (tk:=s2.toks) (ch:=[h1.objs.size+1]) (λb u hb e=>?_) (λb hb=>?_),?_,?_,ksk_snoc ia,?_,?_⟩
   .rw[bP _ _ _ _ (λz=>hb (by simp[z]))];exact e
   .obtain rfl:b=h1.objs.size+1:=by simpa using hb
    exact fK
   .show(s2.heap.update (h1.objs.size+1) _).get? (s.heap.objs.size+1)=_;rw[bP _ _ _ _ (λz=>hne z.symm)];exact d1
   .have ea:(List.toArray ks).push (Value.int (kz.getD ks.length 0) t)=List.toArray (ks++[Value.int (kz.getD ks.length 0) t]):=by simp
    exact⟨_,by rw[<-ea];exact eU k1 (·.push (Value.int (kz.getD ks.length 0) t))⟩
   .rw[ek,ar,cN,dH,af,ae ⋯];rfl
   .rw[ar,cN];lia
  .rintro e1 ks zs s' hks ⟨I',g1,⟨e,g2⟩,ia,ek,lk⟩;rw[ek,hks,hlen,<-hkz,bD];exact hnd
  .rintro e1 ks zs s' hks ⟨I',g1,⟨e,g2⟩,ia,ek,lk⟩ il hst;have ekk:zs=kz:=by rw[ek,hks,hlen,<-hkz,bD]
   rw[ekk,hlen]at hst;have hin:∀i∈il,i<xs.length:=λi hi=>aw.mp (hst.1.mem_iff.mp hi);have hk4:∀b u,b∉[h1.objs.size+1,s.heap.objs.size+1]->s'.heap.get? b=some u->((s'.heap.update (h1.objs.size+1) (Obj.mapSeq λ_=>(#[]:Array Ag))).update (s.heap.objs.size+1) (Obj.mapSeq λ_=>(il.map λi=>its.getD i Value.none).toArray)).get? b=some u:=λb u hb e=>by rw[bP _ _ _ _ (λz=>hb (by simp[z])),bP _ _ _ _ (λz=>hb (by simp[z]))];exact e
   have I5:=I'.turnedL (tk:=s'.toks) (ch:=[h1.objs.size+1,s.heap.objs.size+1]) hk4 λb hb=>by
    have hb':b=h1.objs.size+1\/b=s.heap.objs.size+1:=by simpa using hb
    rcases hb' with rfl|rfl
    .exact fK
    .exact fD
   have hg:(s'.heap.update (h1.objs.size+1) (Obj.mapSeq λ_=>(#[]:Array Ag))).get? (s.heap.objs.size+1)=some (seqObj "list" #[] e1):=by rw[bP _ _ _ _ (λz=>hne z.symm)];exact g1
   have outI:=qxr rv il hin;have hlo:il.length=xs.length:=by have:=hst.1.length_eq;rw[aH]at this;lia
   refine⟨_,rfl,ai ⟨_,rfl,.ref (s.heap.objs.size+1),_,Inv.track (o:=.lst (il.map λi=>xs.getD i .non)) I5 fD ⟨?_,_,_,outI,eU hg λ_=>_⟩,rfl,q _ il nD hst⟩⟩;rw[ag,hlo,dQ];lia
  .intro e1 g1;have kp:∀b o,b≠s.heap.objs.size+1->h1.get? b=some o->(Zc h1 (s.heap.objs.size+1) its).get? b=some o:=λb o hb e=>by unfold Zc;refine ah _ (ah _ ?_);rw[bP _ _ _ _ hb];exact e
   refine⟨I.kept (t':=s.toks) (λb u e=>kp b u (aB (ff (al e))) (keep b u e)),g1,⟨0,?_⟩,.nil,by simp,aW _⟩;have hkS:((h1.update (s.heap.objs.size+1) (Obj.mapSeq λ_=>(#[]:Array Ag))).push (seqObj "tuple" its.toArray 0)).objs.size=h1.objs.size+1:=by rw[size_push',jl]
   show(Zc h1 (s.heap.objs.size+1) its).get? (h1.objs.size+1)=_;unfold Zc;rw[<-hkS];exact az _ rfl
end
section
variable {X:Cx}{x y:Str}{params:Arguments}{body:Expr}{scope:Scope}{cF:Aj}{qual:Str}{pm:Ag}{iy k:Nat}{t:TE}
theorem qk8 (S:LamSc x y scope)(hr:Room (k+3) X.A)(hiy:X.N[iy]?=some y)(hky:X.env.kindOf y=some .cell)(hsy:X.env.scope.names.lookup y=some .cell)(hcF:X.env.cells.lookup y=some cF)
  (hb:∀(u ct:Ag) (c':Aj),bindArgs (kla_fn "<lambda>" qual params body scope [(y,cF)] pm (.ref c') ct) ⟨[u],[]⟩=pure [(x,u)])
  (hpe:∀(g c':Aj) (A:Ae) (outer:List Env) (s:Ab) (H:Hp) (E:XK),PE (wv5 (CXE X.prog X.w) X.prog X.w X.K X.mg X.base [x,y] qual scope g (.ref c') [(y,cF)] A outer s H E) body t) :
  wv1 X (.builtin "sorted") [Str.ofString "key"] (λσ xs zs H Q=>∃(p:Aj) (vs:List V) (kz:List Int) (g c':Aj) (ct:Ag) (vS:V),xs=[.ref p]/\zs=[.ref g]/\SqL X.K H p vs/\vs.length<=100000/\kz.Pairwise (·≠·)/\kz.length=vs.length /\
   H g=some (qus g (kla_obj "<lambda>" qual params body scope [(y,cF)] pm c' ct))/\H c'=some (qv5 qual c')/\σ[iy]?=some (some vS) /\
   (∀i v,vs[i]?=some v->t [some v,some vS] H λr H'=>r=.int (kz.getD i 0)/\H'=H) /\
   ∀l il,H l=none->Stb kz vs.length il->Q (.ref l) (upd H l (.lst (il.map λi=>vs.getD i .non)))):=by
 intro pins s σ H xs zs us ws Q I r U h;obtain⟨p,vs,kz,g,c',ct,vS,rfl,rfl,hS,ap,ab,ad,hg,an,hσ,ht,q⟩:=h;obtain⟨u,rfl,Z⟩:=jb r;cases(show u=Value.ref p from Z);obtain⟨v,rfl,J⟩:=jb U;cases(show v=Value.ref g from J);refine quj I hS ap ab ad (λas s' i v u D hv J=>?_) q;obtain⟨m,a0,ac⟩:=D.loc;obtain⟨uS,rS,lk⟩:=ac iy y vS hiy hσ (.inr (.inl hsy));have am:s'.heap.IsCell cF (some uS):=by
  rcases lk with⟨z,_⟩|⟨_,c,L,e2⟩
  .rw[hky]at z;cases z
  .rw[hcF]at L;cases L;exact e2
 refine wpAny_call (fj (xx4 (k:=k) S hr.in1.in1 D.env0.in1.in1 (D.hok g _ hg).1 (D.hok c' _ an).1 (hb u ct c') am (D.freeC y cF hcF) J rS (hpe g c' _ _ _ _ E0) (ht i v hv)) λr s2 F=>?_);cases r with
 |error e=>exact CXE.no F
 |ok fl =>
  cases fl with
  |next=>exact False.elim F
  |brk=>exact False.elim F
  |cont=>exact False.elim F
  |ret w =>
   obtain⟨v,H2,I3,W,rfl,rfl⟩:=D.after F;obtain⟨t,rfl⟩:=W;exact⟨⟨t,rfl⟩,I3⟩
end
end L2
namespace L2
open PySem PySem.Spec PyProof.Rows
theorem wjh (bs:List Bool):(List.range bs.length).any (λi=>bs.getD i false)=bs.any id:=by
 rw[cP,dR,dR];constructor
 .rintro⟨i,hi,h⟩;have D:=aw.mp hi;rw[af,ae D]at h;exact⟨bs[i],bw D,h⟩
 .rintro⟨b,F,h⟩;obtain⟨i,hi,rfl⟩:=de F;refine⟨i,aw.mpr hi,?_⟩;rw[af,ae hi];exact h
section
variable {X:Cx}{K:Aa}
theorem qz5 (hc:X.calm=true)(hK:X.K=K):kr X (.builtin "any") (λxs H Q=>∃(p:Aj) (bs:List Bool),xs=[.ref p]/\SqL K H p (bs.map V.bl)/\Q (.bl (bs.any id)) H):=by
 subst hK;intro pins s σ H xs us Q I r h;obtain⟨p,bs,rfl,hS,q⟩:=h;obtain⟨u,rfl,ru⟩:=jb r;cases(show u=Value.ref p from ru);obtain⟨D,Z,⟨o,n,W,F,e3,e4⟩,hz⟩:=I.list hS;have L:=qzu Z;have J:s.heap.IsList p D.toArray:=⟨o,W,F,n,e4⟩;have ab:p<s.heap.objs.size:=al W;refine call_any_walk (fZ J ?_);refine⟨s.heap.objs.size,_,_,_,_,_,λi=>bs.getD i false,rfl,Walks.list (A:=X.A.in1) (I.ok.hd hc) _ p (aB ab) D.toArray,⟨⟨_,az _ rfl,rfl,rfl⟩,J.push _⟩,λi v s' Q' E' hP hQ=>?_,λh' tk hk=>?_⟩
 .have hv:D[i]?=some v:=by simpa using hP
  rw[L,ax]at hv;cases hb:bs[i]? with
  |none=>rw[hb]at hv;cases hv
  |some b =>
   rw[hb]at hv;have ev:Value.bool b=v:=au hv;subst ev;refine cW ?_;have F:bs.getD i false=b:=by rw[af,hb];rfl
   have U:Q' (bs.getD i false) s':=hQ;rw[F]at U;exact U
 .have ac:D.toArray.size=bs.length:=by rw[L];simp
  rw[ac,wjh];refine⟨.bl _,H,I.kept λb ob e=>hk b ob (λhm=>?_) (ah _ e),rfl,q⟩;have z:b=s.heap.objs.size:=by simpa using hm
  exact be _ (z▸al e)
end
end L2
namespace L2
open PySem PySem.Spec PySem.Calls PySem.W PyProof.Rows
section
variable {prog:Ac}{w:Ah}{A:Ae}{R:Result->Ab->Prop}{I:Aj}{fp wr:List Aj}{n:Nat}{P:Nat->Ag->Prop}{St:Nat->Heap->Prop}
def MxAt (P:Nat->Ag->Prop)(bt:Nat->Nat->Bool)(j:Nat)(old:Array Ag):Prop:=(j=0/\old=#[])\/∃i v,j=i+1/\old=#[v,v]/\P (argBest bt i) v
theorem xqs (W:Walks prog w A.in1 I fp wr n P St)(bt:Nat->Nat->Bool)(hcmp:CmpOf prog w A.in1 .Gt P bt)(S:Aj)(hSf:S∉fp)(d:Ag) :
  ∀(m j:Nat) (s:Ab) (old:Array Ag) (c:Nat),j+m=n->St j s.heap->s.heap.get? S=some ⟨.type "list",none,.seq old c,#[]⟩->MxAt P bt j old ->
   (∀v h' tk,(n=0/\v=d\/∃i,n=i+1/\P (argBest bt i) v)->(∀b o,b∉wr->b≠S->s.heap.get? b=some o->h'.get? b=some o)->R (.ok (.ret v)) { s with heap:=h',toks:=tk }) ->
   codeAny (model prog w) A (.builtin "max.loop" ⟨[.ref I,.none,.ref S],[("default",d)]⟩) R s:=by
 have as:S∉wr:=λh=>hSf (W.sub _ h);have am:(toString "max" ++ toString ".loop" : String) = "max.loop" := by decide
 intro m
 induction m with
 |zero =>
  intro j s old c hj st hS an hR;obtain rfl:j=n:=hj;(refine gX F.entry_max_loop ?_ ;rw[gQ eK _] ;show wpAny _ A.in1 (seqItems? (.ref S) >>= _) _ _ s ;refine aa (ir hS rfl ?_));(show wpAny _ A.in1 (tryCatch (pyNext (.ref I)) _ >>= _) _ _ s ;refine aa (wpAny_tryCatch (W.done s _ _ st λh' tk L=>?_)));rcases an with⟨rfl,rfl⟩|⟨i,v,rfl,rfl,hP⟩
  .exact aa (dI (ai (hR d h' tk (.inl ⟨rfl,rfl⟩) λb o D _ e=>L b o D e)))
  .have U:=L S _ as hS;(show wpAny _ A.in1 (updateSeq S (λ_=>#[]) >>= _) _ _ _ ;refine aa ?_ ;refine jK U rfl (aa (gP (ai ?_))));exact hR v _ tk (.inr ⟨i,rfl,hP⟩) λb o D J e=>(cI _ _ (dY J)).trans (L b o D e)
 |succ m ih =>
  intro j s old c hj st hS an hR;have a1:j<n:=by lia
  (refine gX F.entry_max_loop ?_ ;rw[gQ eK _] ;show wpAny _ A.in1 (seqItems? (.ref S) >>= _) _ _ s ;refine aa (ir hS rfl ?_));(show wpAny _ A.in1 (tryCatch (pyNext (.ref I)) _ >>= _) _ _ s ;refine aa (wpAny_tryCatch (W.item j s _ _ a1 st λv h' tk hP ap L=>?_)));have U:=L S _ as hS;have fr:∀(h2:Heap),(∀b o,b≠S->h'.get? b=some o->h2.get? b=some o)->St (j+1) h2:=λh2 k=>W.frame _ _ _ ap λb a2 o e=>k b o (λz=>hSf (by rw[<-z];exact a2)) e;rcases an with⟨rfl,rfl⟩|⟨i,vb,rfl,rfl,a0⟩
  ·(show wpAny _ A.in1 (updateSeq S (λ_=>#[v,v]) >>= _) _ _ _ ;refine aa ?_ ;refine jK U rfl ?_ ;rw[am]);refine ai ⟨iX eK _,ih (0+1) _ _ _ ⋯ (fr _ λb o Z e=>(cI _ _ (dY Z)).trans e) (cM _ U rfl) (.inr ⟨0,v,rfl,rfl,hP⟩) λv' ad ab hv ac=>?_⟩;exact hR v' ad ab hv λb o D J e=>ac b o D J ((cI _ _ (dY J)).trans (L b o D e))
  ·(show wpAny _ A.in1 (tryCatch (holding [v,v] (richCompare .Gt v vb >>= _)) _ >>= _) _ _ _ ;refine aa (wpAny_tryCatch (bN (aa (hcmp (i+1) (argBest bt i) v vb _ _ _ hP a0 ?_)))));(refine aa (bN (cW ?_)) ;refine aa (gP (ai ?_)));cases Z:bt (i+1) (argBest bt i) with
   |true =>
    (simp only[cY] ;refine aa ?_ ;refine jK U rfl (aa (gP ?_)) ;rw[am])
    refine ai ⟨iX eK _,ih (i+1+1) _ _ _ ⋯ (fr _ λb o Z e=>(cI _ _ (dY Z)).trans e) (cM _ U rfl) (.inr ⟨i+1,v,rfl,rfl,by simp only[argBest,Z,cY];exact hP⟩) λv' ad ab hv ac=>?_⟩;exact hR v' ad ab hv λb o D J e=>ac b o D J ((cI _ _ (dY J)).trans (L b o D e))
   |false =>
    (simp only[aG,bB] ;refine aa (gP ?_) ;rw[am])
    refine ai ⟨iX eK _,ih (i+1+1) _ _ _ ⋯ ap U (.inr ⟨i+1,vb,rfl,rfl,by simp only[argBest,Z,aG,bB];exact a0⟩) λv' ad ab hv ac=>?_⟩;exact hR v' ad ab hv λb o D J e=>ac b o D J (L b o D e)
end
theorem wk5 (a d:Ag):argsOk "max" ⟨[a],[(Str.ofString "default",d)]⟩:=by unfold argsOk;kernel_rfl
section
variable {prog:Ac}{w:Ah}{A:Ae}{E:Ag->Ab->Prop}{s:Ab}
theorem qjp {id:String}{b:Builtin}{args:List Ag}{kw:List (Str×Ag)}{Q:Ag->Ab->Prop}(hk:builtinKind id=none)(hp:plainId id=true)(hb:entryFor table id=some b)(ha:argsOk id ⟨args,kw⟩)
  (hc:wpAny (model prog w) A.in1 (b ⟨args,kw⟩) (λfin s'=>match fin with
   |.done f=>(match (Except.ok f:Result) with|.ok (.ret v)=>Q v s'|.ok _=>False|.error e=>E e s')
   |.again c'=>c'.quiet=true/\codeAny (model prog w) A c' (λr s'=>match r with|.ok (.ret v)=>Q v s'|.ok _=>False|.error e=>E e s') s') E s) :
  wpAny (model prog w) A (call (.builtin id) args kw) Q E s:=by
 refine wpAny_call (codeAny_call_builtin hp hb ?_);simp only[checkBuiltinCall,hk];cases g:Manifest.signature? id with
 |none=>exact ai hc
 |some sig =>
  have D:Bind.checkArgs id sig ⟨args,kw⟩=pure ():=by simpa only [argsOk,g] using ha
  (simp only[D] ;exact ai hc)
end
section
variable {X:Cx}
theorem wkw (hc:X.calm=true):xwy X (.builtin "max") [Str.ofString "default"] (λxs zs H Q=>∃(p:Aj) (ns:List Int) (d:Int),xs=[.ref p]/\zs=[.int d]/\SqL X.K H p (ns.map V.int) /\
  ∀m,(∀a∈ns,a<=m)->(m∈ns\/(ns=[]/\m=d))->Q (.int m) H):=by
 intro pins s σ H xs zs us ws Q I r rz h;obtain⟨p,ns,d,rfl,rfl,hS,q⟩:=h;obtain⟨u,rfl,ru⟩:=jb r;cases(show u=Value.ref p from ru);obtain⟨v,rfl,tv,rfl⟩:=jb rz;obtain⟨D,hl,J⟩:=Jx I hS;have Z:D.size=ns.length:=by rw[J,ag,aU]
 have ab:(toString "max" ++ toString ".loop" : String) = "max.loop" := by decide
 show wpAny _ _ (call (.builtin "max") [.ref p] [(Str.ofString "default",.int d tv)]) _ _ _;refine qjp F.kind_max F.plain_max F.entry_max (wk5 _ _) ?_;(show wpAny _ X.A.in1 (Builtin.Builtins.bindParams "max" ["key","default"] 0 ⟨[],[(Str.ofString "default",.int d tv)]⟩ >>= _) _ _ s ;refine aa (wpAny_of_eq (show Builtin.Builtins.bindParams "max" ["key","default"] 0 ⟨[],[(Str.ofString "default",.int d tv)]⟩=pure [none,some (.int d tv)] from rfl) ?_));(refine aa (ai ?_) ;refine aa (iter_intList hl λs₂ e st ad ac=>?_) ;subst e ;refine aa (b8 ?_));have W:=Walks.list (A:=X.A.in1) (prog:=X.prog) (w:=X.w) (I.ok.hd hc) _ p ac (intItems D);have am:(s.heap.push { cls:=.type "list_iterator",data:=.fields #[.ref p,.int 0 0] }).objs.size∉[s.heap.objs.size,p]:=λhm=>be _ (ad _ hm);rw[ab];refine ai ⟨iX eK _,xqs W _ (CmpOf.ints_gt (numAt D) λ_ _=>jN) _ am (.int d tv) _ 0 _ #[] _ (cJ _) (W.frame _ _ _ st λb _ o e=>ah _ e) (az _ rfl) (.inl ⟨rfl,rfl⟩) λv h' tk hv hk=>?_⟩;have U:∀b o,s.heap.get? b=some o->h'.get? b=some o:=λb o e=>by
  have hb:b<s.heap.objs.size:=al e;refine hk b o (λz=>?_) (aB ?_) (ah _ (ah _ e))
  .obtain rfl:=aV.mp z;exact be _ hb
  .rw[cX];exact ff hb
 have zi:(intItems D).size=D.size:=by simp[intItems]
 rcases hv with⟨h0,rfl⟩|⟨i,hi,hP⟩
 .have e0:ns=[]:=List.length_eq_zero_iff.mp ⋯;exact⟨.int d,H,I.kept U,⟨tv,rfl⟩,q d (λa L=>by rw[e0]at L;cases L) (.inr ⟨e0,rfl⟩)⟩
 .obtain⟨t,rfl⟩:=jN hP;obtain⟨b1,b2⟩:=argBest_gt (numAt D) i;refine⟨.int _,H,I.kept U,⟨t,rfl⟩,q _ (λa L=>?_) (.inl ?_)⟩
  .rw[J]at L;obtain⟨j,hj,rfl⟩:=mem_getD L;rw[<-J,<-Z]at hj;rw[<-jO];exact b2 j ⋯
  .rw[J,jO];refine getD_mem ?_;rw[<-J,<-Z];lia
end
end L2
namespace L2
open PySem PySem.Spec PySem.Calls PySem.W PyProof.Rows
structure FunT (K:Aa)(x:Str)(st:Stmt)(c f:Aj)(fd:Ad):Prop where
 F:Fun K x x st f fd
 code:fd.code=.ref c
section
variable {P:Ac}{w:Ah}{K:Aa}{mg:Str->Option Ag}{base:Heap}{x:Str}{st:Stmt}{c:Aj}
theorem FunT.okX {f:Aj}{fd:Ad}{N ps:List Str}{k:Nat}{sp:Sp}(F:FunT K x st c f fd)(S:FnScope N ps (q8 st))(len:∀vs H Q E,sp vs H Q E->vs.length=ps.length)
  (body:∀(A:Ae) (outer:List Env) (s:Ab) (H:Hp) (vs:List V) (Q:VK) (E:XK),Room k (A.deeper (envOfC x (q8 st) s.heap.objs.size f (.ref c)))->sp vs H Q E ->
   ∃t,PSs (Yx (CXE P w) P w K mg base N x (q8 st) f (.ref c) A outer s H E) (zt st) t/\t { nx:=λ_ H'=>Q .non H',rt:=Q } (W1 N vs) H):FnOk P w K mg base (CXE P w) (k+1) f fd ps sp:=by
 obtain⟨oc,Z,kV,ab,pm,an,cdv,ct,W,rfl,D,U⟩:=F.F.ex;obtain rfl:cdv=.ref c:=F.code;exact xwg D U S len λA outer s H vs Q E L J=>body A outer s H vs Q E L J
structure DefInT (K:Aa)(x:Str)(st:Stmt)(c:Aj):Prop where
 ex:∃f fd,W.nsIn K mainGlobals x=some (some (.ref f))/\FunT K x st c f fd
theorem xxn {f:Aj}{oc:Ag}{od an:Option Aj}{osl:Array (Option Ag)}{kV doc pm ct:Ag}(a:W.nsIn K mainGlobals x=some (some (.ref f)))
  (l:K.lookup f=some ⟨oc,od,.func (W.fnOf x x (v9 st) (zt st) (q8 st) .none kV doc pm an (.ref c) ct),osl⟩) (cc:W.codeIn K (.ref c) x=true) (k:W.keepIn K (.ref f)=true):DefInT K x st c:=⟨_,_,a,wzd l cc k,rfl⟩
theorem DefInT.cal {ps:List Str}{k:Nat}{sp:Sp}{h:Heap}(d:DefInT K x st c)(KX:K.In h)(G:h.Ns mainGlobals mg)(b:xg x st ps)(ok:∀f fd,FunT K x st c f fd->FnOk P w K mg base (CXE P w) k f fd ps sp):Cal P w K mg base x k sp:=by obtain⟨f,fd,a,F⟩:=d.ex;exact⟨f,fd,ps,bV KX G a,ok f fd F,F.F.kp,F.F.binds b⟩
end
end L2
namespace L2
open PySem PySem.Spec PyProof.Rows
theorem qwd {K:Aa}{M:List Nat}{a:Aj}{xs:List V}{te:TE}{σ:St}{H:Hp}{Q:VK}(G:Nat->V->Hp->Prop)(gs:StayT G)(hS:SqL K H a xs)(hn:xs.length<=1000000)
  (he:∀(i:Nat) (x:V) (H':Hp) (R:VK),xs[i]?=some x->Same H H'->(∀v H'',Same H' H''->G i v H''->R v H'')->te (zc M σ (some x)) H' R)
  (k:∀p ys H',H p=none->Same H H'->H' p=some (.lst ys)->ys.length=xs.length->(∀j v,ys[j]?=some v->G j v H')->Q (.ref p) H'):Wk (Itl K a) M te σ H Q:=by
 intro p np;have ab:(1000000:Nat)<sizeLine:=by decide
 refine⟨λi m ys H2=>i<=xs.length/\m=xs.length-i/\ys.length=i/\Same H H2/\H2 p=some (.lst ys)/\∀j v,ys[j]?=some v->G j v H2,⟨xs.length,aW _,rfl,rfl,Same.upd np,qc,λj v e=>by cases e⟩,?_⟩;rintro i m ys H2 ⟨hi,rfl,hl,sm,hp,hG⟩;have L:SqL K H2 a xs:=Same.sql sm hS;refine⟨hp,⋯,?_⟩;by_cases hlt:i<xs.length
 .have J:xs[i]?=some xs[i]:=ae hlt;refine .inr ⟨⟨xs,_,L,J⟩,?_⟩;rintro v H3 ⟨rfl,hv⟩;have U:=hv xs L;rw[J]at U;have e':=au U;subst e';clear U;refine he i _ _ _ J sm λw Z D g4=>?_;have W:=D _ _ hp;have st:∀b o,(∀xs,o≠.lst xs)->Z b=some o->upd Z p (.lst (ys++[w])) b=some o:=λb o F e=>by
   rw[qt]
   .exact e
   .intro z;rw[z,W]at e;exact F _ (au e).symm
  refine⟨W,xs.length-(i+1),⋯,⋯,rfl,by rw[ar,hl];rfl,λb o e=>?_,qc,λj v e=>?_⟩
  .rw[qt (q9 e np)];exact D _ _ (sm _ _ e)
  .rcases bp j ys.length with z|z
   .rw[aT z]at e;exact gs j v _ _ (hG j v e) λb o F e=>st b o F (D _ _ e)
   .rw[aA z]at e;have hj:j=i:=by
     rcases bp (j-ys.length) 1 with y|y
     .lia
     .rw[aO (by simpa using y)]at e;cases e
    subst hj;rw[show j-ys.length=0 by lia]at e;cases e;exact gs j _ _ _ g4 st
 .have:i=xs.length:=by lia
  subst this;exact .inl ⟨⟨xs,L,aj _⟩,k p ys H2 np sm hp hl hG⟩
theorem xx3 {X:Cx}{K:Aa}(hK:X.K=K)(hu:X.A.units+64<cLine):OpR X (compareOp .Eq) (rEqD K false):=by subst hK;exact op_eqD hu
theorem wyj {X:Cx}{P:Ac}{w:Ah}(hP:X.prog=P)(hw:X.w=w)(hu:X.A.units+64<cLine):Yq X (addT P w):=by subst hP hw;exact xzp hu
theorem wun {X:Cx}{P:Ac}{w:Ah}(hP:X.prog=P)(hw:X.w=w):Yq X (addI P w):=by subst hP hw;exact xvs
end L2
namespace My
open PySem L2
def top (i:Nat):Stmt:=PySem.Challenge.pw_crookroad_k30_whole_forced_lengths.main.body.getD i (.Pass ⟨0,0,0,0⟩)
abbrev zak:Stmt:=top 9
theorem _root_.aU7 (h:True:=by decide +kernel):True:=h
theorem scA{N P:List Str}{c:Scope}(a:autoParam (c.kind=.function) aU4._auto_1)(b:autoParam (c.isCoroutine=false) aU4._auto_1)(d:autoParam (c.isGenerator=false) aU4._auto_1)(e:autoParam (N.Nodup) aU7._auto_1)(f:autoParam (N.take P.length=P) aU4._auto_1)(g:autoParam (∀x∈P,c.names.lookup x=some .local\/c.names.lookup x=some .cell) aU7._auto_1)(h:autoParam (∀y∈c.names,y.2≠.free) aU7._auto_1):FnScope N P c:=⟨a,b,d,e,f,g,h⟩
theorem qxc:FnScope ["number","fewest","most"] ["number","fewest","most"] (q8 zak):=scA
theorem qx6:Zh "check_count" zak ["number","fewest","most"] []:=λ_ _ _ _ _ _ _ u h=>match u,h with|[_,_,_],_=>exI rfl rfl
theorem qxj:Zh "check_count" zak ["number","fewest","most"] [.none]:=λ_ _ _ _ _ _ _ us hl=>by
 have h2:us.length=2:=by simpa using hl
 match us,h2 with
 |[_,_],_=>exact exI rfl rfl
abbrev zat:Stmt:=top 13
theorem wzq:FnScope ["road","stretch","lesser","greater"] ["road","stretch"] (q8 zat):=scA
theorem wxx:xg "covered" zat ["road","stretch"]:=λ_ _ _ _ _ _ _ h=>bA2 h λ_ _=>rfl
abbrev zau:Stmt:=top 14
theorem qjh:FnScope ["road"] ["road"] (q8 zau):=scA
theorem qjc:xg "covers_of" zau ["road"]:=λ_ _ _ _ _ _ _ h=>bA1 h λ_=>rfl
abbrev zav:Stmt:=top 15
theorem Zj:FnScope ["width"] ["width"] (q8 zav):=scA
theorem Zz:xg "ways_of_no_step" zav ["width"]:=λ_ _ _ _ _ _ _ h=>bA1 h λ_=>rfl
abbrev zaw:Stmt:=top 16
theorem Jw:FnScope ["covers","table"] ["covers","table"] (q8 zaw):=scA
theorem Jm:xg "one_step_more" zaw ["covers","table"]:=λ_ _ _ _ _ _ _ h=>bA2 h λ_ _=>rfl
abbrev zax:Stmt:=top 17
theorem qz8:FnScope ["road","many","covers","tables"] ["road","many"] (q8 zax):=scA
theorem qzn:xg "ways_up_to" zax ["road","many"]:=λ_ _ _ _ _ _ _ h=>bA2 h λ_ _=>rfl
abbrev zay:Stmt:=top 18
theorem qyq:FnScope ["first","covers","tables","many","begun","left"] ["first","covers","tables"] (q8 zay):=scA
theorem qyw:xg "rows_from" zay ["first","covers","tables"]:=λ_ _ _ _ _ _ _ h=>bA3 h λ_ _ _=>rfl
abbrev zaz:Stmt:=top 19
theorem xzb:FnScope ["road","many","tables","covers","closed","first"] ["road","many"] (q8 zaz):=scA
theorem xvx:xg "rows" zaz ["road","many"]:=λ_ _ _ _ _ _ _ h=>bA2 h λ_ _=>rfl
abbrev za0:Stmt:=top 21
theorem qqg:FnScope ["bottom"] ["bottom"] (q8 za0):=scA
theorem qqj:xg "check_bottom" za0 ["bottom"]:=λ_ _ _ _ _ _ _ h=>bA1 h λ_=>rfl
abbrev za1:Stmt:=top 22
theorem Yw:FnScope ["one","other"] ["one","other"] (q8 za1):=scA
theorem Z6:xg "common_divisor" za1 ["one","other"]:=λ_ _ _ _ _ _ _ h=>bA2 h λ_ _=>rfl
abbrev za2:Stmt:=top 23
theorem wk4:FnScope ["top","bottom","divisor"] ["top","bottom"] (q8 za2):=scA
theorem wjb:xg "lowest" za2 ["top","bottom"]:=λ_ _ _ _ _ _ _ h=>bA2 h λ_ _=>rfl
abbrev zal:Stmt:=top 24
theorem ww2:FnScope ["points","point","greatest","scale"] ["points"] (q8 zal):=scA
theorem wwk:xg "ordered" zal ["points"]:=λ_ _ _ _ _ _ _ h=>bA1 h λ_=>rfl
abbrev za3:Stmt:=top 28
theorem wkr:FnScope ["road","point","many","here","points"] ["road","point","many"] (q8 za3):=scA
theorem wj2:xg "walked" za3 ["road","point","many"]:=λ_ _ _ _ _ _ _ h=>bA3 h λ_ _ _=>rfl
abbrev za4:Stmt:=top 29
theorem xqr:FnScope ["road","start","places","here"] ["road","start"] (q8 za4):=scA
theorem wyc:xg "trace" za4 ["road","start"]:=λ_ _ _ _ _ _ _ h=>bA2 h λ_ _=>rfl
abbrev za5:Stmt:=top 30
theorem xq4:FnScope ["road","point","points","turn"] ["road","point"] (q8 za5):=scA
theorem wy5:xg "least" za5 ["road","point"]:=λ_ _ _ _ _ _ _ h=>bA2 h λ_ _=>rfl
abbrev za6:Stmt:=top 32
theorem qvy:FnScope ["road","row","steep","height","stretch","slope","left"] ["road","row"] (q8 za6):=scA
theorem qvv:xg "line_along" za6 ["road","row"]:=λ_ _ _ _ _ _ _ h=>bA2 h λ_ _=>rfl
abbrev za7:Stmt:=top 33
theorem qxw:FnScope ["road","row","steep","height"] ["road","row"] (q8 za7):=scA
theorem qxx:xg "fixed_point" za7 ["road","row"]:=λ_ _ _ _ _ _ _ h=>bA2 h λ_ _=>rfl
abbrev za8:Stmt:=top 34
theorem qqs:FnScope ["road","many","corners"] ["road","many"] (q8 za8):=scA
theorem qqu:xg "corners_back" za8 ["road","many"]:=λ_ _ _ _ _ _ _ h=>bA2 h λ_ _=>rfl
abbrev za9:Stmt:=top 35
theorem wzy:FnScope ["point","stretches","top","bottom"] ["point","stretches"] (q8 za9):=scA
theorem ww9:xg "lies_in" za9 ["point","stretches"]:=λ_ _ _ _ _ _ _ h=>bA2 h λ_ _=>rfl
abbrev zba:Stmt:=top 36
theorem xzh:FnScope ["road","many","closed","fixed","wholes","single","points"] ["road","many"] (q8 zba):=scA
theorem xxr:xg "back" zba ["road","many"]:=λ_ _ _ _ _ _ _ h=>bA2 h λ_ _=>rfl
abbrev zbb:Stmt:=top 37
theorem qvj:FnScope ["road","length","points","wholes","thirds"] ["road","length"] (q8 zbb):=scA
theorem qzh:xg "candidates" zbb ["road","length"]:=λ_ _ _ _ _ _ _ h=>bA2 h λ_ _=>rfl
abbrev zbc:Stmt:=top 38
theorem wxw:FnScope ["road","most"] ["road","most"] (q8 zbc):=scA
theorem wwt:xg "lengths" zbc ["road","most"]:=λ_ _ _ _ _ _ _ h=>bA2 h λ_ _=>rfl
abbrev zbd:Stmt:=top 41
theorem ww1:FnScope ["heights","width"] ["heights"] (q8 zbd):=scA
theorem wxb:xg "is_line" zbd ["heights"]:=λ_ _ _ _ _ _ _ h=>bA1 h λ_=>rfl
abbrev zbe:Stmt:=u9 (top 42) 0
theorem Y4:FnScope ["self","heights"] ["self","heights"] (q8 zbe):=scA
theorem Y3:jf "__init__" "Road.__init__" zbe ["self","heights"]:=λ_ _ _ _ _ _ _ h=>bA2 h λ_ _=>rfl
abbrev zbf:Stmt:=u9 (top 42) 1
theorem qz4:FnScope ["self"] ["self"] (q8 zbf):=scA
theorem qz2:jf "width" "Road.width" zbf ["self"]:=λ_ _ _ _ _ _ _ h=>bA1 h λ_=>rfl
abbrev zbg:Stmt:=u9 (top 42) 3
theorem qjj:FnScope ["self","stretch"] ["self","stretch"] (q8 zbg):=scA
theorem qk6:jf "ends" "Road.ends" zbg ["self","stretch"]:=λ_ _ _ _ _ _ _ h=>bA2 h λ_ _=>rfl
abbrev zbh:Stmt:=u9 (top 42) 4
theorem qvx:FnScope ["self","stretch","left","right"] ["self","stretch"] (q8 zbh):=scA
theorem qzg:jf "slope" "Road.slope" zbh ["self","stretch"]:=λ_ _ _ _ _ _ _ h=>bA2 h λ_ _=>rfl
abbrev zbi:Stmt:=u9 (top 42) 5
theorem qz7:FnScope ["self","stretch","left","right"] ["self","stretch"] (q8 zbi):=scA
theorem qvc:jf "reach" "Road.reach" zbi ["self","stretch"]:=λ_ _ _ _ _ _ _ h=>bA2 h λ_ _=>rfl
abbrev zbj:Stmt:=u9 (top 42) 6
theorem qqc:FnScope ["self","point","top","bottom"] ["self","point"] (q8 zbj):=scA
theorem qqp:jf "on_road" "Road.on_road" zbj ["self","point"]:=λ_ _ _ _ _ _ _ h=>bA2 h λ_ _=>rfl
abbrev zbk:Stmt:=u9 (top 42) 7
theorem wx8:FnScope ["self","point","top","bottom","stretch","left","right","beyond"] ["self","point"] (q8 zbk):=scA
theorem wx6:jf "at" "Road.at" zbk ["self","point"]:=λ_ _ _ _ _ _ _ h=>bA2 h λ_ _=>rfl
abbrev zbl:Stmt:=top 44
theorem qjt:FnScope ["_law_script","_law_at"] ["_law_script","_law_at"] (q8 zbl):=scA
theorem qyg:xg "_law_cell" zbl ["_law_script","_law_at"]:=λ_ _ _ _ _ _ _ h=>bA2 h λ_ _=>rfl
abbrev zbm:Stmt:=top 45
theorem qjy:FnScope ["_law_script","_law_at","_law_turn","_law_many","_law_cell_here","_law_left","_law_k","_law_low","_law_one","_law_two"] ["_law_script","_law_at","_law_turn","_law_many"] (q8 zbm):=scA
theorem qyb:xg "_law_pick" zbm ["_law_script","_law_at","_law_turn","_law_many"]:=λ_ _ _ _ _ _ _ h=>bA4 h λ_ _ _ _=>rfl
abbrev zbn:Stmt:=top 46
theorem qvg:FnScope ["_law_script","_law_at","_law_wide","_law_row","_law_k"] ["_law_script","_law_at","_law_wide"] (q8 zbn):=scA
theorem qvf:xg "_law_climb" zbn ["_law_script","_law_at","_law_wide"]:=λ_ _ _ _ _ _ _ h=>bA3 h λ_ _ _=>rfl
abbrev zbo:Stmt:=top 47
theorem qqf:FnScope ["_law_script","_law_at","_law_most","_law_wide","_law_kind"] ["_law_script","_law_at","_law_most"] (q8 zbo):=scA
theorem qqr:xg "_law_heights" zbo ["_law_script","_law_at","_law_most"]:=λ_ _ _ _ _ _ _ h=>bA3 h λ_ _ _=>rfl
abbrev zbp:Stmt:=top 48
theorem qwn:FnScope ["_law_heights_here","_law_most","_law_wide","_law_found","_law_made","_law_turn","_law_fresh","_law_k","_law_low"] ["_law_heights_here","_law_most"] (q8 zbp):=scA
theorem qxp:xg "_law_crowds" zbp ["_law_heights_here","_law_most"]:=λ_ _ _ _ _ _ _ h=>bA2 h λ_ _=>rfl
abbrev zbq:Stmt:=top 49
theorem qz0:FnScope ["_law_heights_here","_law_wish","_law_room","_law_crowds_here","_law_many"] ["_law_heights_here","_law_wish","_law_room"] (q8 zbq):=scA
theorem qvb:xg "_law_times" zbq ["_law_heights_here","_law_wish","_law_room"]:=λ_ _ _ _ _ _ _ h=>bA3 h λ_ _ _=>rfl
abbrev zbr:Stmt:=top 50
theorem qz1:FnScope ["_law_found"] ["_law_found"] (q8 zbr):=scA
theorem qzs:xg "_law_whole" zbr ["_law_found"]:=λ_ _ _ _ _ _ _ h=>bA1 h λ_=>rfl
abbrev zbs:Stmt:=top 51
theorem qqt:FnScope ["_law_found"] ["_law_found"] (q8 zbs):=scA
theorem qqy:xg "_law_numbers" zbs ["_law_found"]:=λ_ _ _ _ _ _ _ h=>bA1 h λ_=>rfl
abbrev zbt:Stmt:=top 52
theorem qyu:FnScope ["_law_number","_law_times_here"] ["_law_number"] (q8 zbt):=scA
theorem qym:xg "_law_rank" zbt ["_law_number"]:=λ_ _ _ _ _ _ _ h=>bA1 h λ_=>rfl
abbrev zbu:Stmt:=top 53
theorem Jz:FnScope ["_law_script","_law_wide","_law_left","_law_made","_law_at","_law_k","_law_going"] ["_law_script","_law_wide"] (q8 zbu):=scA
theorem Yd:xg "_law_one_ring" zbu ["_law_script","_law_wide"]:=λ_ _ _ _ _ _ _ h=>bA2 h λ_ _=>rfl
abbrev zbv:Stmt:=top 54
theorem zd5:FnScope ["_law_script","_law_heights_here","_law_most","_law_found","_law_one","_law_other"] ["_law_script"] (q8 zbv):=scA
local macro_rules | `(tactic| walk_at "sq")=>`(tactic| first | assumption | exact SqT.new | exact SqL.new | ((with_reducible refine Same.sqt (Same.upd (by assumption)) ?_);walk_at "sq") | ((with_reducible refine Same.sql (Same.upd (by assumption)) ?_);walk_at "sq"))
local macro_rules | `(tactic| walk_at "at")=>`(tactic| first | rfl | exact qq3 (by lia) (by lia))
local macro_rules | `(tactic| walk_at "mul")=>`(tactic| first | assumption | exact IntMulOk.of_left (intBits_le_64 (by lia) (by lia)) | exact IntMulOk.of_right (intBits_le_64 (by lia) (by lia)) | exact Sm.ok (by assumption) (by assumption) (by lia))
local macro_rules | `(tactic| walk_at "pos")=>`(tactic| first | lia | decide +kernel)
local macro_rules | `(tactic| walk_at "div")=>`(tactic| exact⟨by first | lia | decide +kernel,by unfold Sm;decide +kernel⟩)
local macro_rules | `(tactic| walk_at "loc")=>`(tactic| first | exact Or.inl rfl | exact Or.inr rfl)
local macro_rules | `(tactic| walk_at "cap")=>`(tactic| repeat (first | exact trivial | refine⟨rfl,?_⟩))
local macro_rules | `(tactic| walk_at "has")=>`(tactic| repeat (first | exact trivial | (refine⟨λz=>?_,(by lia),?_⟩;(first | exact⟨_,rfl⟩ | cases z))))
local macro_rules | `(tactic| walk_at "cix")=>`(tactic| repeat (first | exact trivial | refine⟨⟨_,_,rfl,rfl,rfl,rfl⟩,?_⟩))
local macro_rules | `(tactic| walk_at "hasK")=>`(tactic| repeat (first | exact trivial | (refine⟨λz=>?_,λz=>?_,?_⟩;(first | exact⟨_,rfl⟩ | cases z);(first | rfl | cases z))))
structure Txt (K:Aa)(mg:Str->Option Ag)(qp:Aj)(qx:Aj)(qd:Aj)(qu:Aj)(qf:Aj)(qg:Aj)(qv:Aj):Prop where
 len_:mg "len" = none
 abs_:mg "abs" = none
 range_:mg "range" = none
 isinstance_:mg "isinstance" = none
 int_:mg "int" = none
 bool_:mg "bool" = none
 list_:mg "list" = none
 min_:mg "min" = none
 max_:mg "max" = none
 all_:mg "all" = none
 any_:mg "any" = none
 sum_:mg "sum" = none
 sorted_:mg "sorted" = none
 zip_:mg "zip" = none
 tuple_:mg "tuple" = none
 zd6:mg "BadLine" = some (.ref qp)
 zam:ExcC K qp
 zd7:mg "BadBottom" = some (.ref qx)
 zan:ExcC K qx
 zd8:mg "OffRoad" = some (.ref qd)
 zao:ExcC K qd
 zd9:mg "BadCount" = some (.ref qu)
 zap:ExcC K qu
 zdy:mg "TooLong" = some (.ref qf)
 zai:ExcC K qf
 zea:mg "BadRow" = some (.ref qg)
 zaq:ExcC K qg
 cl:Cls K qv
 na:NoAttr K qv "heights"
 zad:∃t,mg "WIDEST" = some (.int 24 t)
 zeb:mg "Road" = some (.ref qv)
 zae:∃t,mg "LONGEST_TRACE" = some (.int 1000 t)
 zac:∃t,mg "LONGEST_ROW" = some (.int 12 t)
 zaf:∃t,mg "MOST_WAYS" = some (.int 1000 t)
 zag:∃t,mg "MOST_WALKED" = some (.int 1000 t)
abbrev FK(P:Ac)(w:Ah)(K:Aa)(mg:Str->Option Ag)(base:Heap):=FnOk P w K mg base (CXE P w)
section
variable {P:Ac}{w:Ah}{K:Aa}{mg:Str->Option Ag}{base:Heap}{qp:Aj}{qx:Aj}{qd:Aj}{qu:Aj}{qf:Aj}{qg:Aj}{qv:Aj}
variable {f:Aj}{fd:Ad}(T:Txt K mg qp qx qd qu qf qg qv)
def qwk (C:Aj):Sp:=λvs H Q E=>∃b:Int,vs=[.int b]/\(1<=b->Q .non H)/\(b<1->E (.ref C) none H)
include T in
theorem wu4 (F:Fun K "check_bottom" "check_bottom" za0 f fd):FK P w K mg base 1 f fd ["bottom"] (qwk qx):=by
 have J:=qqg;refine F.okX J (λvs H Q E h=>by obtain⟨_,rfl,_⟩:=h;rfl) λ_ _ _ _ H vs Q E L h=>?_;obtain⟨b,rfl,h1,h2⟩:=h;refine⟨_,(qr (vy (wt Yy (pv 0) qy (xk _)) (qr (j8 rfl T.zan kj rfl T.zd7 (qw W9 qk))) x8)),?_⟩;refine exI rfl (w8 rfl rfl (exI rfl ?_));refine j6 (λD=>?_) (λD=>?_)
 .exact⟨⋯,h2 D⟩
 .exact h1 ⋯
include T in
theorem xvv (F:Fun K "_law_cell" "_law_cell" zbl f fd):FK P w K mg base 1 f fd ["_law_script","_law_at"] (wxk K):=by
 have W:=qjt;refine F.okX W (λvs H Q E h=>by obtain⟨_,_,_,rfl,_⟩:=h;rfl) λ_ _ _ _ H vs Q E hr h=>?_;obtain⟨a,ns,i,rfl,L,Z,k⟩:=h;have J:(ns.map V.int).length=ns.length:=ag _;refine⟨_,(qj (vy (wt Yy (pv 1) (wn xf rfl T.len_ bJ (qw (pv 0) qk)) (xk _)) (qr (xw (zu zg (pv 0) (pv 1) (λ_ _=>rfl)))) x8)
   (qj (vy (wt yx (wn xf rfl T.len_ bJ (qw (pv 0) qk)) qy (xk _)) (qr (xw (wb xu (wb zw qy (pv 1)) qy))) x8)
   (qr (xw (wb xu (zu zg (pv 0) (wb ju (pv 1) (wn xf rfl T.len_ bJ (qw (pv 0) qk))) (λ_ _=>rfl)) (wb zw qy (pv 1))))))),?_⟩
 refine exI rfl (exI rfl ⟨_,_,rfl,.inl L,w8 rfl rfl (exI rfl ?_)⟩);refine j6 (λD=>?_) (λD=>?_)
 .rw[J]at D;refine exI rfl (exI rfl (exX rfl rfl L (qq3 Z D) ?_));exact k _ (by rw[qu9,av D])
 .rw[J]at D;refine exI rfl ⟨_,_,rfl,.inl L,rfl,_,rfl,?_⟩;rw[J];refine yp (λU=>?_) (λU=>?_)
  .refine exI rfl (w8 rfl rfl ⟨(by walk_at "mul"),w8 rfl rfl ?_⟩);exact k _ (by rw[qu9,ao D,av U])
  .refine exI rfl (exI rfl (exI rfl ⟨_,_,rfl,.inl L,w8 rfl rfl ⟨(by rw[J];lia),?_⟩⟩));rw[J];refine exX rfl rfl L (qq3 (cQ _ U) (cu _ ⋯)) (exI rfl (w8 rfl rfl ⟨(by walk_at "mul"),w8 rfl rfl ?_⟩));exact k _ (by rw[qu9,ao D,ao U])
include T in
theorem xzv (F:Fun K "_law_pick" "_law_pick" zbm f fd)(zec:Cal P w K mg base "_law_cell" 1 (wxk K)):FK P w K mg base 2 f fd ["_law_script","_law_at","_law_turn","_law_many"] (Zy K):=by
 have W:=qjy;refine F.okX W (λvs H Q E h=>by obtain⟨_,_,_,_,_,rfl,_⟩:=h;rfl) λ_ _ _ _ H vs Q E hr h=>?_;obtain⟨a,ns,i,t,m,rfl,hS,h0,t0,t1,Z,k⟩:=h;refine⟨_,(qj (xq (i:=4) (wj zec (hr.mono ⋯) rfl qh (qw (pv 0) (qw (pv 1) qk))))
   (qj (vy (wt wv2 (wn qwf rfl T.abs_ qxn (qw (pv 4) qk)) (wb op_pow qy qy) (xk _)) (qj (xq (i:=5) (wn qwf rfl T.abs_ qxn (qw (pv 4) qk)))
   (qj (j9 bn rfl (xm rfl T.range_ (qw (pv 2) qk)) (xv (i:=6)) (qr (xq (i:=5) (wb uc (pv 5) qy))))
   (qj (vy (wt Yy (pv 4) qy (xk _)) (qr (xq (i:=5) (wb ju (pv 5) qy))) x8)
   (qr (xw (wb ju (pv 5) (pv 3))))))) x8)
   (qj (xq (i:=7) (wb ju (pv 4) qy))
   (qj (xq (i:=8) (wb ju (wb xu (wb xu (wb zw (pv 7) qy) (wb zw (pv 2) qy)) qy) qy))
   (qj (xq (i:=9) (wb ju (wb xu (wb xu (wb zw (pv 8) (pv 8)) (wb zw (pv 7) qy)) (wb zw (pv 2) qy)) qy))
   (qr (xw (wb ju (wb ju (wb xu (wb xu (wb zw (pv 9) (pv 9)) (wb zw (pv 8) qy)) (wb zw (pv 2) qy)) qy) (pv 3))))))))),?_⟩
 refine exI rfl (exI rfl ?_);refine⟨a,ns,i,rfl,hS,h0,λc hc=>?_⟩;have U:∀v,v=wq7 c t%m->Q (.int v) H:=λv hv=>by
  refine k v (by rw[hv,wwx,hc]) ?_ ?_
  .rw[hv];exact cQ _ ⋯
  .rw[hv];exact cu _ Z
 refine exI rfl (exI rfl (w8 rfl rfl ⟨⟨⋯,⋯,⋯⟩,w8 rfl rfl (exI rfl ?_)⟩));refine j6 (λL=>?_) (λL=>?_)
 .have D:10 ^ 18<=Q6 c:=L;refine exI rfl (exI rfl ?_);refine exI rfl ⟨t,rfl,⋯,⋯,jq (λj σ H1=>H1=H/\∃z,σ=[some (.ref a),some (.int i),some (.int t),some (.int m),some (.int c),some (.int (divs (Q6 c) j)),z,none,none,none]) ⟨rfl,_,rfl⟩ ?_ ?_⟩
  .rintro j σ H1 hj ⟨rfl,z,rfl⟩;exact exI rfl (w8 rfl rfl ⟨(by walk_at "div"),rfl,_,rfl⟩)
  .rintro σ H1 ⟨rfl,z,rfl⟩;refine exI rfl (w8 rfl rfl (exI rfl ?_));refine j6 (λJ=>?_) (λJ=>?_)
   .refine exI rfl (w8 rfl rfl ⟨(by walk_at "pos"),exI rfl (exI rfl (w8 rfl rfl ⟨(by walk_at "pos"),?_⟩))⟩);exact U _ (by rw[xws D J])
   .refine exI rfl (exI rfl (w8 rfl rfl ⟨(by walk_at "pos"),?_⟩));exact U _ (by rw[wjz D J])
 .have D:¬ 10 ^ 18<=Q6 c:=L;have l0:=cQ c (show(1000003:Int)≠0 by decide);have l1:=cu c (show(0:Int)<1000003 by decide);refine exI rfl (w8 rfl rfl ⟨(by walk_at "pos"),exI rfl (w8 rfl rfl ⟨(by walk_at "mul"),exI rfl (w8 rfl rfl ⟨(by walk_at "mul"),w8 rfl rfl (w8 rfl rfl (w8 rfl rfl ⟨(by walk_at "pos"),?_⟩))⟩)⟩)⟩);have o0:0<=qkr c t:=cQ _ ⋯;have o1:qkr c t<999983:=cu _ ⋯;refine⟨V.int (qkr c t),rfl,V.int (qkr c t),rfl,w8 rfl rfl ⟨(by walk_at "mul"),exI rfl (w8 rfl rfl ⟨(by walk_at "mul"),w8 rfl rfl (exI rfl (w8 rfl rfl ⟨(by walk_at "mul"),w8 rfl rfl (w8 rfl rfl ⟨(by walk_at "pos"),?_⟩)⟩))⟩)⟩⟩;have w0:0<=qy5 c t:=cQ _ ⋯;have w1:qy5 c t<1000033:=cu _ ⋯;refine⟨V.int (qy5 c t),rfl,V.int (qy5 c t),rfl,w8 rfl rfl ⟨(by walk_at "mul"),V.int (qkr c t),rfl,w8 rfl rfl ⟨(by walk_at "mul"),w8 rfl rfl (exI rfl (w8 rfl rfl ⟨(by walk_at "mul"),w8 rfl rfl (w8 rfl rfl ⟨(by walk_at "pos"),exI rfl (w8 rfl rfl ⟨(by walk_at "pos"),?_⟩)⟩)⟩))⟩⟩⟩;exact U _ (by rw[xqw D])
def Within (n f:Int)(m:Option Int):Prop:=f<=n/\∀b,m=some b->n<=b
def Yk (C:Aj):Sp:=λvs H Q E=>∃(n f:Int) (m:V) (o:Option Int),vs=[.int n,.int f,m]/\(m=.non/\o=none\/∃b,m=.int b/\o=some b)/\(Within n f o->Q .non H)/\(¬ Within n f o->E (.ref C) none H)
include T in
theorem wuc (F:FunD K "check_count" zak f fd):FK P w K mg base 1 f fd ["number","fewest","most"] (Yk qu):=by
 have D:=qxc;refine F.okX D (λvs H Q E h=>by obtain⟨_,_,_,_,rfl,_⟩:=h;rfl) λ_ _ _ _ H vs Q E W h=>?_;obtain⟨n,Z,m,o,rfl,U,k,x⟩:=h;refine⟨_,(qr (vy (PW.pt (qx4 (wt Yy (pv 0) (pv 1) (xk _)) (Zv (PW.pt (wwn (wt wzn (pv 2) qxd (xk _)) (qj7 (wt Wp (pv 0) (pv 2) (xk _)))))))) (qr (j8 rfl T.zap kj rfl T.zd9 (qw W9 qk))) x8)),?_⟩;refine exI rfl (exI rfl (w8 rfl rfl (exI rfl ?_)));refine j6 (λL=>?_) (λL=>?_)
 .refine Wj ?_;exact⟨sz1,x (λz=>by have:=z.1;lia)⟩
 .rcases U with⟨rfl,rfl⟩|⟨b,rfl,rfl⟩
  .refine exI rfl ⟨rfl,_,rfl,?_⟩;refine Q8 ?_;exact k ⟨⋯,λb e=>nomatch e⟩
  .refine exI rfl ⟨rfl,_,rfl,?_⟩;refine Wj ?_;refine exI rfl (exI rfl (w8 rfl rfl (exI rfl ?_)));refine j6 (λJ=>?_) (λJ=>?_)
   .exact⟨sz1,x (λz=>by have:=z.2 b rfl;lia)⟩
   .exact k ⟨⋯,λb' e=>by cases e;lia⟩
def wu (ns:List Int):Prop:=2<=ns.length/\ns.length<=25/\∀h∈ns,0<=h/\h<=(ns.length:Int)-1
def qzx (K:Aa):Sp:=λvs H Q _=>∃(p:Aj) (ns:List Int),vs=[.ref p]/\SqL K H p (ns.map V.int)/\(wu ns->Q (.bl true) H)/\(¬ wu ns->Q (.bl false) H)
include T in
theorem wzc (F:Fun K "is_line" "is_line" zbd f fd):FK P w K mg base 1 f fd ["heights"] (qzx K):=by
 have sc:=ww1;refine F.okX sc (λvs H Q E h=>by obtain⟨_,_,rfl,_⟩:=h;rfl) λ_ _ _ _ H vs Q E hr h=>?_;obtain⟨p,ns,rfl,L,k1,D⟩:=h;have ac:(ns.map V.int).length=ns.length:=ag _;obtain⟨tw,Z⟩:=T.zad;refine⟨_,(qj (xq (i:=1) (wb ky (wn xf rfl T.len_ bJ (qw (pv 0) qk)) qy))
   (qj (vy (PW.pt (qx4 (wt Yy (pv 1) qy (xk _)) (Zv (wt Wp (pv 1) (Wg (v:=V.int 24) rfl Z ⟨_,rfl⟩) (xk _))))) (qr (xw qug)) x8)
   (qr (xw (qj0 (qq7 wv2 (wn (qzm rfl) rfl T.min_ d6 (qw (pv 0) qk)) qy (xk _)) (qj9 (qq7 qu5 (wn (qvk rfl) rfl T.max_ d7 (qw (pv 0) qk)) (pv 1) (xk _)))))))),?_⟩
 refine exI rfl ⟨_,_,rfl,.inl L,w8 rfl rfl ?_⟩;refine exI rfl (w8 rfl rfl (exI rfl ?_));rw[ac];refine j6 (λq1=>?_) (λq1=>?_)
 .refine Wj ?_;exact D (λz=>by have:=z.1;lia)
 .refine exI rfl (w8 rfl rfl (exI rfl ?_));refine j6 (λq2=>?_) (λq2=>?_)
  .exact D (λz=>by have:=z.2.1;lia)
  .refine exI rfl ⟨p,ns,rfl,L,⋯,λm hm am=>(w8 rfl rfl (exI rfl ?_))⟩;refine j6 (λU=>?_) (λU=>?_)
   .refine exI rfl ⟨p,ns,rfl,L,⋯,λJ ab ad=>(exI rfl (w8 rfl rfl ?_))⟩;show Q (.bl (decide (J<=(ns.length:Int)-1))) H;by_cases q4:J<=(ns.length:Int)-1
    .rw[aR q4];exact k1 ⟨⋯,⋯,λh W=>by have:=am h W;have:=ad h W;lia⟩
    .rw[ba q4];exact D (λz=>q4 (z.2.2 J ab).2)
   .exact D (λz=>U (z.2.2 m hm).1)
def RoadAt (C:Aj)(H:Hp)(r:Aj)(ns:List Int):Prop:=∃dx q,H r=some (.ins C dx [("heights",.ref q)])/\H q=some (.lst (ns.map V.int))
variable {C:Aj}{H H':Hp}
theorem RoadAt.same {r:Aj}{ns:List Int}(h:RoadAt C H r ns)(s:Same H H'):RoadAt C H' r ns:=by obtain⟨dx,q,h1,h2⟩:=h;exact⟨dx,q,s _ _ h1,s _ _ h2⟩
theorem Qw {q:Aj}:([("heights",V.ref q)]:List (Str×V)).lookup ("heights" : Str)=some (.ref q):=by rw[bv];simp
theorem xj {q:Aj}{m:Str}(h:¬ m = "heights"):([("heights",V.ref q)]:List (Str×V)).lookup m=none:=by rw[bv];have:(m==("heights" : Str))=false:=cy.mpr h;rw[this];rfl
def qjv (K:Aa)(CB C:Aj):Sp:=λvs H Q E=>∃(r dx p:Aj) (ns:List Int),vs=[.ref r,.ref p]/\H r=some (.ins C dx [])/\SqL K H p (ns.map V.int) /\
 (wu ns->∀H' q,H q=none->(∀b o,H b=some o->b≠r->H' b=some o)->H' r=some (.ins C dx [("heights",.ref q)])->H' q=some (.lst (ns.map V.int))->Q .non H')/\(¬ wu ns->E (.ref CB) none H)
include T in
theorem xzt (F:Fun K "__init__" "Road.__init__" zbe f fd)(zed:Cal P w K mg base "is_line" 1 (qzx K)):FK P w K mg base 2 f fd ["self","heights"] (qjv K qp qv):=by
 have U:=Y4;refine F.okX U (λvs H Q E h=>by obtain⟨_,_,_,_,rfl,_⟩:=h;rfl) λ_ _ _ _ H vs Q E hr h=>?_;obtain⟨r,dx,p,ns,rfl,J,L,k,x⟩:=h;refine⟨_,(qj (vy (wxd (wwu (wj zed (hr.mono ⋯) rfl qh (qw (pv 1) qk)))) (qr (j8 rfl T.zam kj rfl T.zd6 (qw W9 qk))) x8)
   (qr (ps_fld (pv 0) (Ys Yu rfl T.list_ dO (qw (pv 1) qk)) rfl))),?_⟩
 refine⟨_,rfl,p,ns,rfl,L,λW=>(exI rfl ?_),λab=>(exI rfl ?_)⟩
 .refine Q8 ?_;refine exI rfl ⟨_,_,rfl,.inl L,λq D=>?_⟩;have Z:upd H q (.lst (ns.map V.int)) r=some (.ins qv dx []):=by rw[qt (q9 J D)];exact J
  refine exI rfl ⟨r,qv,dx,[],rfl,Z,T.cl,T.na,(by show 0<1000;decide),?_⟩;refine k W _ q D (λb o e n=>?_) qc ?_
  .rw[qt n,qt (q9 e D)];exact e
  .rw[qt (q9 J D).symm,qc]
 .refine Wj ?_;exact⟨sz1,x ab⟩
def jn (C:Aj):Sp:=λvs H Q _=>∃(r:Aj) (ns:List Int),vs=[.ref r]/\RoadAt C H r ns/\Q (.int ((ns.length:Int)-1)) H
include T in
theorem xw4 (F:Fun K "width" "Road.width" zbf f fd):FK P w K mg base 1 f fd ["self"] (jn qv):=by have D:=qz4;refine F.okX D (λvs H Q E h=>by obtain⟨_,_,rfl,_⟩:=h;rfl) λ_ _ _ _ H vs Q E J h=>?_;obtain⟨r,ns,rfl,⟨dx,q,h1,h2⟩,k⟩:=h;refine⟨_,(qr (xw (wb ky (wn xf rfl T.len_ bJ (qw (wx9 (pv 0) rfl) qk)) qy))),?_⟩;refine exI rfl ⟨r,qv,dx,_,_,rfl,h1,T.cl,T.na,Qw,q,exI rfl ⟨.inl (SqL.of h2),w8 rfl rfl ?_⟩⟩;rw[ag];exact k
def InW (ns:List Int)(wd:Int):Prop:=(ns.length:Int)=wd+1/\∀h∈ns,0<=h/\h<=wd
def qq5 (K:Aa):Sp:=λvs H Q _=>∃(a:Aj) (ns:List Int) (i wd:Int),vs=[.ref a,.int i,.int wd]/\SqL K H a (ns.map V.int)/\0<=i/\1<=wd/\wd<=24 /\
 ∀p hs,H p=none->InW hs wd->Q (.ref p) (upd H p (.lst (hs.map V.int)))
include T in
theorem wux (F:Fun K "_law_climb" "_law_climb" zbn f fd)(zab:Cal P w K mg base "_law_pick" 2 (Zy K)):FK P w K mg base 3 f fd ["_law_script","_law_at","_law_wide"] (qq5 K):=by
 have sc:=qvg;refine F.okX sc (λvs H Q E h=>by obtain⟨_,_,_,_,rfl,_⟩:=h;rfl) λ_ _ _ _ H vs Q E W h=>?_;obtain⟨a,ns,i,D,rfl,Z,h0,w1,w2,k⟩:=h;refine⟨_,(qj (xq (i:=3) (ug (qw (wj zab (W.mono ⋯) rfl qh (qw (pv 0) (qw (pv 1) (qw qy (qw (wb xu (pv 2) qy) qk))))) qk)))
   (qj (j9 bn rfl (xm rfl T.range_ (qw (pv 2) qk)) (xv (i:=4)) (qr (km (qxq cC dt du jp (pv 3) (qw (wn (Y5 rfl) rfl T.max_ d7 (qw qy (qw (wn (Wf rfl) rfl T.min_ d6 (qw (pv 2) (qw (wb ky (wb xu (zu zg (pv 3) (qw0 W7 qy) (λ_ _=>rfl)) (wb zw qy (wj zab (W.mono ⋯) rfl qh (qw (pv 0) (qw (pv 1) (qw (wb xu qy (pv 4)) (qw qy qk))))))) qy) qk))) qk))) qk)))))
   (qr (xw (pv 3))))),?_⟩
 refine exI rfl (exI rfl (exI rfl (w8 rfl rfl ⟨a,ns,_,_,_,rfl,Z,h0,⋯,⋯,⋯,λr1 _ l1 u1=>⟨sz1,λp np=>?_⟩⟩)));refine⟨_,rfl,D,rfl,⋯,⋯,jq (λj σ H1=>∃(ys:List Int) (l:Int) (z:Option V),ys.length=j/\(∀h∈ys++[l],0<=h/\h<=D)/\H1=upd H p (.lst ((ys++[l]).map V.int))/\σ=[some (.ref a),some (.int i),some (.int D),some (.ref p),z])
  ⟨[],r1,none,rfl,(λh J=>by have e:=aV.mp J;subst e;lia),rfl,rfl⟩ ?_ ?_⟩
 .rintro j σ H1 hj ⟨ys,l,z,hy,hb,rfl,rfl⟩;have U:upd H p (.lst ((ys++[l]).map V.int)) p=some (.lst ((ys++[l]).map V.int)):=qc;have ac:SqL K (upd H p (.lst ((ys++[l]).map V.int))) a (ns.map V.int):=Same.sql (Same.upd np) Z;have ab:atI ((ys++[l]).map V.int) (-1)=some (V.int l):=by rw[bj];exact Zd _ _
  have hl:=hb l (by simp);refine exI rfl ⟨.inl ⟨rfl,_,SqL.of U⟩,exI rfl (exI rfl (exI rfl (exX rfl rfl (SqL.of U) ab (exI rfl (exI rfl (exI rfl (w8 rfl rfl ⟨a,ns,_,_,_,rfl,ac,h0,⋯,⋯,⋯,λL _ l2 u2=>?_⟩)))))))⟩;refine w8 rfl rfl ⟨(by walk_at "mul"),w8 rfl rfl (w8 rfl rfl ⟨_,_,rfl,_,_,rfl,_,_,_,rfl,rfl,U,?_,?_⟩)⟩
  .rw[ag,ar,hy];have:(1000000:Nat)<sizeLine:=by decide
   simp only[aJ,df];lia
  .refine⟨ys++[l],(if(if l+2*L-1<D then l+2*L-1 else D)>0 then(if l+2*L-1<D then l+2*L-1 else D) else 0),_,by rw[ar,hy];rfl,λh J=>?_,?_,rfl⟩
   .rcases aY.mp J with J|J
    .exact hb h J
    .have e:=aV.mp J;subst e;by_cases g1:l+2*L-1<D
     .rw[av g1];by_cases g2:l+2*L-1>0
      .rw[av g2];lia
      .rw[ao g2];lia
     .rw[ao g1,av (show D>0 by lia)];lia
   .rw[qyx,bj (l₁:=ys++[l])];rfl
 .rintro σ H1 ⟨ys,l,z,hy,hb,rfl,rfl⟩;refine exI rfl (k p _ np ⟨?_,hb⟩);rw[ar,hy];simp only[aJ,df];lia
def Jq (K:Aa):Sp:=λvs H Q _=>∃(a:Aj) (ns:List Int) (i m:Int),vs=[.ref a,.int i,.int m]/\SqL K H a (ns.map V.int)/\0<=i/\1<=m/\m<=24 /\
 ∀p hs wd,H p=none->1<=wd->wd<=m->InW hs wd->Q (.ref p) (upd H p (.lst (hs.map V.int)))
variable {n:Nat}
theorem wkc {wd:Int}(g:Nat->Int)(h1:(n:Int)=wd+1)(h2:∀i,i<n->0<=g i/\g i<=wd):InW ((List.range n).map g) wd:=by refine⟨by rw[ag,aH];exact h1,λh D=>?_⟩;obtain⟨i,hi,rfl⟩:=aS.mp D;exact h2 i (aw.mp hi)
theorem qzp (n:Nat)(g:Nat->Int):(List.range n).map (λi=>V.int (g i))=((List.range n).map g).map V.int:=by rw[bF];rfl
include T in
theorem wws (F:Fun K "_law_heights" "_law_heights" zbo f fd)(zab:Cal P w K mg base "_law_pick" 2 (Zy K))(zee:Cal P w K mg base "_law_climb" 3 (qq5 K)) :
  FK P w K mg base 4 f fd ["_law_script","_law_at","_law_most"] (Jq K):=by
 have sc:=qqf;refine F.okX sc (λvs H Q E h=>by obtain⟨_,_,_,_,rfl,_⟩:=h;rfl) λ_ _ _ _ H vs Q E Z h=>?_;obtain⟨a,ns,i,m,rfl,hS,h0,m1,m2,k⟩:=h;refine⟨_,(qj (xq (i:=3) (wb xu qy (wj zab (Z.mono ⋯) rfl qh (qw (pv 0) (qw (pv 1) (qw qy (qw (pv 2) qk)))))))
   (qj (xq (i:=4) (wj zab (Z.mono ⋯) rfl qh (qw (pv 0) (qw (pv 1) (qw qy (qw qy qk))))))
   (qj (vy (wt yx (pv 4) qy (xk _)) (qr (xw (kx (M:=[3]) rfl rfl (by walk_at "cap") (by walk_at "has") (by walk_at "cix") rfl (by decide +kernel) rfl (show List.Nodup (["_law_k","_law_wide"]:List Str) by decide +kernel) (xm rfl T.range_ (qw (wb xu (pv 3) qy) qk)) (λ_ _ _ _ _=>(wb zw (pv 1) (wb ju (pv 0) qy)))))) x8)
   (qj (vy (wt yx (pv 4) qy (xk _)) (qr (xw (kx (M:=[]) rfl rfl (by walk_at "cap") (by walk_at "has") (by walk_at "cix") rfl (by decide +kernel) rfl (show List.Nodup (["_law_k"]:List Str) by decide +kernel) (xm rfl T.range_ (qw (wb xu (pv 3) qy) qk)) (λ_ _ _ _ _=>(pv 0))))) x8)
   (qj (vy (wt yx (pv 4) qy (xk _)) (qr (xw (kx (M:=[3]) rfl rfl (by walk_at "cap") (by walk_at "has") (by walk_at "cix") rfl (by decide +kernel) rfl (show List.Nodup (["_law_k","_law_wide"]:List Str) by decide +kernel) (xm rfl T.range_ (qw (wb xu (pv 3) qy) qk)) (λ_ _ _ _ _=>(wb ky (pv 1) (pv 0)))))) x8)
   (qj (vy (wt yx (pv 4) qy (xk _)) (qr (xw (kx (M:=[3]) rfl rfl (by walk_at "cap") (by walk_at "has") (by walk_at "cix") rfl (by decide +kernel) rfl (show List.Nodup (["_law_k","_law_wide"]:List Str) by decide +kernel) (xm rfl T.range_ (qw (wb xu (pv 3) qy) qk)) (λ_ _ _ _ _=>(wb ju (wb xu (wb zw qy (pv 0)) qy) (wb xu (pv 1) qy)))))) x8)
   (qj (vy (PW.pt (qx4 (wt yx (pv 4) qy (xk _)) (Zv (wt yx (pv 4) qy (xk _))))) (qr (xw (wj zee (Z.mono ⋯) rfl qh (qw (pv 0) (qw (pv 1) (qw (pv 3) qk)))))) x8)
   (qr (xw (kx (M:=[0,1,3]) rfl rfl (by walk_at "cap") (by walk_at "has") (by walk_at "cix") rfl (by decide +kernel) rfl (show List.Nodup (["_law_k","_law_script","_law_at","_law_wide"]:List Str) by decide +kernel) (xm rfl T.range_ (qw (wb xu (pv 3) qy) qk)) (λ_ _ _ _ _=>(wj zab (Z.mono ⋯) rfl Q7 (qw (pv 1) (qw (pv 2) (qw (wb xu qy (pv 0)) (qw (wb xu (pv 3) qy) qk)))))))))))))))),?_⟩
 refine exI rfl (exI rfl (exI rfl ⟨a,ns,_,_,_,rfl,hS,h0,⋯,⋯,⋯,λD _ l1 u1=>?_⟩));refine w8 rfl rfl (exI rfl (exI rfl ⟨a,ns,_,_,_,rfl,hS,h0,⋯,⋯,⋯,λkd _ l2 u2=>?_⟩));have hn:((1+D+1).toNat:Int)=1+D+1:=by lia
 have U:(1+D+1).toNat<=1000000:=by lia
 have W:∀(g:Nat->Int) (p:Aj),(∀j,j<(1+D+1).toNat->0<=g j/\g j<=1+D)->H p=none->Q (.ref p) (upd H p (.lst ((List.range (1+D+1).toNat).map λj=>V.int (g j)))):=λg p hg np=>by rw[qzp];exact k p _ (1+D) np ⋯ ⋯ (wkc g hn hg)
 refine exI rfl ⟨rfl,_,rfl,yp (λq1=>?_) (λq1=>?_)⟩
 .refine exI rfl (w8 rfl rfl ⟨1+D+1,rfl,⋯,⋯,vw (λj=>V.int ((1+D)*(((0:Int)+j)%2))) U (λj H' R J hs L=>?_) λp np=>W _ p (λj J=>?_) np⟩)
  .exact exI rfl (exI rfl (w8 rfl rfl ⟨(by walk_at "pos"),w8 rfl rfl ⟨(by walk_at "mul"),L⟩⟩))
  .have a1:=cQ ((0:Int)+j) (show(2:Int)≠0 by decide);have a2:=cu ((0:Int)+j) (show(0:Int)<2 by decide);rcases(by lia:((0:Int)+j)%2=0\/((0:Int)+j)%2=1) with e|e <;> rw[e] <;> lia
 .refine exI rfl ⟨rfl,_,rfl,yp (λq2=>?_) (λq2=>?_)⟩
  .refine exI rfl (w8 rfl rfl ⟨1+D+1,rfl,⋯,⋯,vw (λj=>V.int ((0:Int)+j)) U (λj H' R J hs L=>?_) λp np=>W _ p (λj J=>by lia) np⟩);exact exI rfl L
  .refine exI rfl ⟨rfl,_,rfl,yp (λq3=>?_) (λq3=>?_)⟩
   .refine exI rfl (w8 rfl rfl ⟨1+D+1,rfl,⋯,⋯,vw (λj=>V.int (1+D-((0:Int)+j))) U (λj H' R J hs L=>?_) λp np=>W _ p (λj J=>by lia) np⟩);exact exI rfl (exI rfl (w8 rfl rfl L))
   .refine exI rfl ⟨rfl,_,rfl,yp (λq4=>?_) (λq4=>?_)⟩
    .refine exI rfl (w8 rfl rfl ⟨1+D+1,rfl,⋯,⋯,vw (λj=>V.int ((2*((0:Int)+j)+1)%(1+D+1))) U (λj H' R J hs L=>?_) λp np=>W _ p (λj J=>?_) np⟩)
     .exact exI rfl (w8 rfl rfl ⟨(by walk_at "mul"),w8 rfl rfl (exI rfl (w8 rfl rfl (w8 rfl rfl ⟨(by walk_at "pos"),L⟩)))⟩)
     .have a1:=cQ (2*((0:Int)+j)+1) (show 1+D+1≠0 by lia);have a2:=cu (2*((0:Int)+j)+1) (show 0<1+D+1 by lia);lia
    .have ac:tRet (wz5 [0,1,3] (iRng1 (yr (tOp (rI0 λi j=>.int (i+j)) (jh 3) (tC (.int 1))) qwm)) (qk9 (Zy K) (λ_=>E0) (yr (jh 1) (yr (jh 2) (yr (tOp (rI0 λi j=>.int (i+j)) (tC (.int 3)) (jh 0)) (yr (tOp (rI0 λi j=>.int (i+j)) (jh 3) (tC (.int 1))) qwm))))))
       { nx:=λ_ H'=>Q .non H',rt:=Q } [some (.ref a),some (.int i),some (.int m),some (.int (1+D)),some (.int kd)] H:=by
      refine exI rfl (w8 rfl rfl ⟨1+D+1,rfl,⋯,⋯,vw (λj=>V.int (wwx ns i (3+((0:Int)+j)) (1+D+1))) U (λj H' R J hs L=>?_) λp np=>W _ p (λj J=>?_) np⟩)
      .refine exI rfl (exI rfl (exI rfl (w8 rfl rfl (exI rfl (w8 rfl rfl ⟨a,ns,_,_,_,rfl,Same.sql hs hS,h0,⋯,⋯,⋯,λr e _ _=>?_⟩)))));rw[e];exact L
      .have a1:=wy3 ns i (3+((0:Int)+j)) (1+D+1) ⋯;have a2:=wyh ns i (3+((0:Int)+j)) (1+D+1) ⋯;lia
     have ab:tRet (qk9 (qq5 K) (λ_=>E) (yr (jh 0) (yr (jh 1) (yr (jh 3) qwm)))) { nx:=λ_ H'=>Q .non H',rt:=Q } [some (.ref a),some (.int i),some (.int m),some (.int (1+D)),some (.int kd)] H :=
      (exI rfl (exI rfl (exI rfl ⟨a,ns,i,1+D,rfl,hS,h0,⋯,⋯,λp hs np hw=>k p hs (1+D) np ⋯ ⋯ hw⟩)))
     refine exI rfl ⟨rfl,_,rfl,yp (λq5=>Wj ab) (λq5=>?_)⟩;exact exI rfl ⟨rfl,_,rfl,yp (λq6=>ab) (λq6=>ac)⟩
def qk5:Sp:=λvs H Q _=>∃i:Int,vs=[.int i]/\Q (.bl true) H
include T in
theorem wum (F:Fun K "_law_whole" "_law_whole" zbr f fd):FK P w K mg base 1 f fd ["_law_found"] qk5:=by have D:=qz1;refine F.okX D (λvs H Q E h=>by obtain⟨_,rfl,_⟩:=h;rfl) λ_ _ _ _ H vs Q E J h=>?_;obtain⟨i,rfl,k⟩:=h;refine⟨_,(qr (xw (qj0 (wn Qr rfl T.isinstance_ eV (qw (pv 0) (qw (qyz (v:=V.ty "int") rfl T.int_ PyProof.Rows.boot_int rfl) qk))) (qj9 (pe_not (wn Qr rfl T.isinstance_ eV (qw (pv 0) (qw (qyz (v:=V.ty "bool") rfl T.bool_ PyProof.Rows.boot_bool rfl) qk)))))))),?_⟩;refine exI rfl ⟨_,_,_,_,rfl,TyOf.int i,rfl,_,rfl,?_⟩;refine Wj ?_;refine exI rfl ⟨_,_,_,_,rfl,TyOf.int i,rfl,_,rfl,?_⟩;exact k
def Yh (K:Aa):Sp:=λvs H Q _=>∃(p:Aj) (ns:List Int),vs=[.ref p]/\H p=some (.lst (ns.map V.int))/\ns.length<=1000/\∀H',Same H H'->Q (.bl true) H'
theorem xww (ns:List Int):(ns.map λ_=>true).all id=true:=by
 induction ns with
 |nil=>rfl
 |cons a r ih=>rw[aM,jU,ih];rfl
include T in
theorem wzz (F:Fun K "_law_numbers" "_law_numbers" zbs f fd)(zef:Cal P w K mg base "_law_whole" 1 qk5):FK P w K mg base 2 f fd ["_law_found"] (Yh K):=by
 have L:=qqt;refine F.okX L (λvs H Q E h=>by obtain⟨_,_,rfl,_⟩:=h;rfl) λ_ _ _ _ H vs Q E Z h=>?_;obtain⟨p,ns,rfl,D,hn,k⟩:=h;have J:SqL K H p (ns.map V.int):=SqL.of D;refine⟨_,(qr (xw (qj0 (wn Qr rfl T.isinstance_ eV (qw (pv 0) (qw (qyz (v:=V.ty "list") rfl T.list_ dO rfl) qk))) (qj9 (wn (qvq rfl) rfl T.all_ xqm (qw (kx (M:=[]) rfl rfl (by walk_at "cap") (by walk_at "has") (by walk_at "cix") rfl (by decide +kernel) rfl (show List.Nodup (["_law_number"]:List Str) by decide +kernel) (vz (pv 0)) (λ_ _ _ _ _=>(wj zef (Z.mono ⋯) rfl Q7 (qw (pv 0) qk)))) qk)))))),?_⟩;refine exI rfl ⟨_,_,_,_,rfl,TyOf.lst D,rfl,_,rfl,?_⟩;refine Wj ?_;refine exI rfl ⟨p,rfl,⟨_,J⟩,?_⟩;refine qvt (K:=K) (M:=[]) (a:=p) (xs:=ns.map V.int) (λ_=>V.bl true) J (by rw[ag];lia) (λx H' R W hs hR=>?_) λq U=>?_
 .obtain⟨i,_,rfl⟩:=aS.mp W;exact exI rfl ⟨i,rfl,hR⟩
 .have e:(ns.map V.int).map (λ_=>V.bl true)=(ns.map λ_=>true).map V.bl:=by rw[bF,bF];rfl
  rw[e];refine⟨q,ns.map λ_=>true,rfl,SqL.new,?_⟩;rw[xww];exact k _ (Same.upd U)
def xqt:Sp:=λvs H Q _=>∃x y:Int,vs=[.int x,.int y]/\0<=x/\0<=y/\Q (.int (qqd x y)) H
variable {y:Int}
theorem wy9 {tb:TS}{c:TT}{D:Ends}{x:Int}(hx:0<=x)(hy:0<=y)(hc:c=wy7 (tOp (rI0 λi j=>.bl (decide (j<i))) (jh 1) (tC (.int 0))))(hb:tb=tPar 0 1 (yr (jh 1) (yr (tOp (rI (λ_ j=>0<j) λi j=>.int (i%j)) (jh 0) (jh 1)) qwm)))
  (hD:D.nx [some (.int (qqd x y)),some (.int 0)] H):wxy c tb D [some (.int x),some (.int y)] H:=by
 subst hc hb;refine y9 (λσ H1=>H1=H/\∃u v:Int,σ=[some (.int u),some (.int v)]/\0<=u/\0<=v/\qqd u v=qqd x y) (λσ _=>match σ with|[_,some (.int v)]=>v.toNat|_=>0) ⟨rfl,x,y,rfl,hx,hy,rfl⟩ ?_ λσ H Q Q' h ⟨v,e,i,j,e1,e2,k,e3,q⟩=>⟨v,e,i,j,e1,e2,k,e3,h _ _ q⟩;rintro σ H1 ⟨rfl,u,v,rfl,hu,hv,e⟩;refine exI rfl (w8 rfl rfl (exI rfl ?_));refine j6 (λq=>?_) (λq=>?_)
 .have h1:=cQ u (show v≠0 by lia);have h2:=cu u q;refine exI rfl (exI rfl (exI rfl (w8 rfl rfl ⟨q,_,_,rfl,⟨rfl,v,u%v,rfl,hv,h1,?_⟩,?_⟩)))
  .rw[wj3 hu q,e]
  .show(u%v).toNat<v.toNat;lia
 .have z:v=0:=by lia
  subst z;rw[wkq hu]at e;subst e;exact hD
include T in
theorem zeg (F:Fun K "common_divisor" "common_divisor" za1 f fd):FK P w K mg base 1 f fd ["one","other"] xqt:=by
 have D:=Yw;refine F.okX D (λvs H Q E h=>by obtain⟨_,_,rfl,_⟩:=h;rfl) λ_ _ _ _ H vs Q E U h=>?_;obtain⟨x,y,rfl,L,J,k⟩:=h;refine⟨_,(qj (y8 bn (wt Wp (pv 1) qy (xk _)) (qr (ps_par (i:=0) (j:=1) rfl D.nd rfl rfl ⋯ rfl rfl (qw (pv 1) (qw (wb ju (pv 0) (pv 1)) qk)) rfl)))
   (qr (xw (pv 0)))),?_⟩
 exact wy9 L J rfl rfl (exI rfl k)
def ptV (p:Int×Int):List V:=[.int p.1,.int p.2]
def Qs (C:Aj):Sp:=λvs H Q E=>∃t b:Int,vs=[.int t,.int b]/\(1<=b->Sm 9000 b/\∀p,H p=none->Q (.ref p) (upd H p (.tup (ptV (wc t b)))))/\(b<1->E (.ref C) none H)
include T in
theorem wkb (F:Fun K "lowest" "lowest" za2 f fd)(zbw:Cal P w K mg base "check_bottom" 1 (qwk qx))(zeh:Cal P w K mg base "common_divisor" 1 xqt) :
  FK P w K mg base 2 f fd ["top","bottom"] (Qs qx):=by
 have L:=wk4;refine F.okX L (λvs H Q E h=>by obtain⟨_,_,rfl,_⟩:=h;rfl) λ_ _ _ _ H vs Q E J h=>?_;obtain⟨t,b,rfl,k,x⟩:=h;refine⟨_,(qj (km (wj zbw (J.mono ⋯) rfl qh (qw (pv 1) qk)))
   (qj (xq (i:=2) (wj zeh (J.mono ⋯) rfl qh (qw (wn qwf rfl T.abs_ qxn (qw (pv 0) qk)) (qw (pv 1) qk))))
   (qr (xw (jx (qw (wb uc (pv 0) (pv 2)) (qw (wb uc (pv 1) (pv 2)) qk))))))),?_⟩
 refine⟨_,rfl,b,rfl,λD=>?_,λD=>x D⟩;obtain⟨U,k⟩:=k D;have W:=ym (t:=t) D;have hs:Sm 9000 (gOf t b):=U.of_le (by have:=gOf_le (t:=t) D;lia);refine exI rfl (exI rfl (exI rfl ⟨Q6 t,b,rfl,xz5 t,⋯,?_⟩));refine exI rfl ⟨V.int (gOf t b),rfl,w8 rfl rfl ⟨⟨⋯,hs⟩,exI rfl ⟨V.int (gOf t b),rfl,w8 rfl rfl ⟨⟨⋯,hs⟩,sz2,λp n=>?_⟩⟩⟩⟩;exact k p n
variable {hs:List Int}
theorem xxf {wd:Int}(h:InW hs wd)(w1:1<=wd)(w2:wd<=24):wu hs:=by refine⟨by have:=h.1;lia,by have:=h.1;lia,λx hx=>?_⟩;have h1:=h.1;have h2:=h.2 x hx;lia
theorem wj4 {x dx:Aj}(nx:H x=none)(nd:H dx=none)(h:∀b o,upd (upd H dx (.own x)) x (.ins C dx []) b=some o->b≠x->H' b=some o):Same H H':=λb o e =>
 h b o (by rw[qt (q9 e nx),qt (q9 e nd)];exact e) (q9 e nx)
variable {o:HO}
theorem Same.upd2 {p:Aj}(s:Same H H')(n:H p=none):Same H (L2.upd H' p o):=λb u e=>by rw[qt (q9 e n)];exact s b u e
theorem rd_pt {p:Aj}{q:Int×Int}(h:SqT K H p [.int q.1,.int q.2]):RD K H (ptD q) (.ref p):=by unfold ptD;rw[RD];exact⟨p,exI rfl ⟨h,by rw[RDs];exact⟨_,_,rfl,by rw[RD],by rw[RDs];exact⟨_,_,rfl,by rw[RD],by rw[RDs]⟩⟩⟩⟩
variable {p:Int×Int}
theorem dep_pt {q:Int×Int}:min (ptD p).depth (ptD q).depth<=60:=by simp[ptD,PyData.depth,PyData.depthAll]
variable {b:Int}
theorem Q9 {x d:Int}(hb:1<=b)(hd:1<=d):x*d=y*b↔wc x b=wc y d:=by
 constructor
 .intro e;rw[<-qq6 (t:=x) hb hd,e,eP b d,qq6 hd hb]
 .intro e;have F:=jr (t:=x) hb;have D:=jr (t:=y) hd;have U:=vt (t:=x) hb;rw[<-e]at D;have h:x*d*(wc x b).2=y*b*(wc x b).2:=by
   have L:x*d*(wc x b).2=x*(wc x b).2*d:=by grind
   have J:y*b*(wc x b).2=y*(wc x b).2*b:=by grind
   rw[L,J,<-F,<-D];grind
  exact fh ⋯ h
theorem xvq {CB:Aj}{p x dx:Aj}{Pp:Hp->Prop}{E:XK}(f:H p=some (.lst (hs.map V.int)))(nx:H x=none)(nd:H dx=none)(k:wu hs->∀H',Same H H'->RoadAt C H' x hs->Pp H')(bad:¬ wu hs->∀H',Same H H'->E (.ref CB) none H') :
  qjv K CB C [.ref x,.ref p] (upd (upd H dx (.own x)) x (.ins C dx [])) (λr H2=>r=.non/\Pp H2) E:=by
 refine⟨x,dx,p,hs,rfl,qc,SqL.of (by rw[qt (q9 f nx),qt (q9 f nd)];exact f),λD J q L F r l=>⟨rfl,k D J (wj4 nx nd F) ⟨dx,q,r,l⟩⟩,λz=>bad z _ ?_⟩;exactλb o e=>by rw[qt (q9 e nx),qt (q9 e nd)];exact e
variable {k:Int}
theorem at_h (h0:0<=k)(h1:k<hs.length):atI (hs.map V.int) k=some (V.int (hAt hs k)):=qq3 h0 h1
theorem wz7 (ok:wu hs)(k:Int):0<=hAt hs k/\hAt hs k<=24:=by
 unfold hAt;rw[af];cases e:hs[k.toNat]? with
 |none=>exact⟨⋯,⋯⟩
 |some v =>
  have hm:=ok.2.2 v (aC e);have:=ok.2.1;show 0<=v/\v<=24;lia
def Y7 (C CR:Aj):Sp:=λvs H Q E=>∃(r:Aj) (hs:List Int) (k:Int),vs=[.ref r,.int k]/\RoadAt C H r hs/\(0<=k->k<(hs.length:Int)-1->∀p,H p=none->Q (.ref p) (upd H p (.tup [.int (hAt hs k),.int (hAt hs (k+1))]))) /\
 (k<0\/(hs.length:Int)-1<=k->E (.ref CR) none H)
include T in
theorem xz0 (F:Fun K "ends" "Road.ends" zbg f fd)(zaa:MCal P w K mg base qv "width" 1 (jn qv)):FK P w K mg base 2 f fd ["self","stretch"] (Y7 qv qg):=by
 have U:=qjj;refine F.okX U (λvs H Q E h=>by obtain⟨_,_,_,rfl,_⟩:=h;rfl) λ_ _ _ _ H vs Q E Z h=>?_;obtain⟨r,hs,k,rfl,L,W,x⟩:=h;obtain⟨dx,q,h1,h2⟩:=id L;refine⟨_,(qj (vy (PW.pt (qx4 (wt Yy (pv 1) qy (xk _)) (Zv (wt wv2 (pv 1) (k8 (pv 0) T.cl zaa (Z.mono ⋯) qh) (xk _))))) (qr (j8 rfl T.zaq kj rfl T.zea (qw W9 qk))) x8)
   (qr (xw (jx (qw (zu zg (wx9 (pv 0) rfl) (pv 1) (λ_ _=>rfl)) (qw (zu zg (wx9 (pv 0) rfl) (wb xu (pv 1) qy) (λ_ _=>rfl)) qk)))))),?_⟩
 refine exI rfl (w8 rfl rfl (exI rfl ?_));refine j6 (λJ=>?_) (λJ=>?_)
 .refine Wj ?_;exact⟨sz1,x (.inl J)⟩
 .refine exI rfl (exI rfl ⟨r,dx,exI rfl ⟨h1,xj (by decide +kernel),r,hs,rfl,L,w8 rfl rfl (exI rfl ?_)⟩⟩);refine j6 (λD=>?_) (λD=>?_)
  .exact⟨sz1,x (.inr D)⟩
  .refine exI rfl ⟨r,qv,dx,_,_,rfl,h1,T.cl,T.na,Qw,exI rfl (exX rfl rfl (SqL.of h2) (at_h ⋯ ⋯) (exI rfl ⟨r,qv,dx,_,_,rfl,h1,T.cl,T.na,Qw,exI rfl (w8 rfl rfl (exX rfl rfl (SqL.of h2) (at_h ⋯ ⋯) ⟨sz2,λp np=>?_⟩))⟩))⟩;exact W ⋯ ⋯ p np
def zj (hs:List Int)(t b:Int):Prop:=0<=t/\t<=((hs.length:Int)-1)*b
def Q5 (K:Aa)(C CB CO:Aj):Sp:=λvs H Q E=>∃(r p:Aj) (hs:List Int) (t b:Int),vs=[.ref r,.ref p]/\RoadAt C H r hs/\wu hs/\SqT K H p [.int t,.int b] /\
 (1<=b->Sm 8000 b/\(zj hs t b->∀q H',Same H H'->H' q=some (.tup (ptV (wc t b)))->Q (.ref q) H')/\(¬ zj hs t b->∀H',Same H H'->E (.ref CO) none H'))/\(b<1->E (.ref CB) none H)
include T in
theorem wwc (F:Fun K "on_road" "Road.on_road" zbj f fd)(zaa:MCal P w K mg base qv "width" 1 (jn qv))(zaj:Cal P w K mg base "lowest" 2 (Qs qx)) :
  FK P w K mg base 3 f fd ["self","point"] (Q5 K qv qx qd):=by
 have sc:=qqc;refine F.okX sc (λvs H Q E h=>by obtain⟨_,_,_,_,_,rfl,_⟩:=h;rfl) λ_ _ _ _ H vs Q E hr h=>?_;obtain⟨r,p,hs,t,b,rfl,hR,ab,hp,Z,x⟩:=h;obtain⟨dx,q,h1,h2⟩:=id hR;refine⟨_,(qj (jj (wj zaj (hr.mono ⋯) rfl qh (qw (zu qwt (pv 1) qy (λ_ _=>rfl)) (qw (zu qwt (pv 1) qy (λ_ _=>rfl)) qk))) (yu rfl (xh (xv (i:=2)) (xh (xv (i:=3)) kg))))
   (qj (vy (PW.pt (qx4 (wt Yy (pv 2) qy (xk _)) (Zv (wt Wp (pv 2) (wb zw (k8 (pv 0) T.cl zaa (hr.mono ⋯) qh) (pv 3)) (xk _))))) (qr (j8 rfl T.zao kj rfl T.zd8 (qw W9 qk))) x8)
   (qr (xw (jx (qw (pv 2) (qw (pv 3) qk))))))),?_⟩
 refine⟨_,rfl,_,_,_,_,rfl,rfl,hp,rfl,_,rfl,_,_,_,_,rfl,rfl,hp,rfl,t,b,rfl,λD=>⟨(Z D).1.mono ⋯,λW n1=>?_⟩,λz=>x z⟩;obtain⟨sb,k1,k2⟩:=Z D;have J:Same H (upd H W (.tup (ptV (wc t b)))):=Same.upd n1;have hl:=ab.2.1;refine⟨W,exI rfl ⟨SqT.new,rfl,_,_,rfl,_,_,rfl,rfl,?_⟩⟩;refine exI rfl (w8 rfl rfl (exI rfl ?_));refine j6 (λU=>?_) (λU=>?_)
 .refine Wj ?_;exact⟨sz1,k2 (λz=>by have:=(qwb D).mp U;have:=z.1;lia) _ J⟩
 .refine exI rfl (exI rfl ⟨r,dx,exI rfl ⟨J _ _ h1,xj (by decide +kernel),r,hs,rfl,hR.same J,exI rfl (w8 rfl rfl ⟨IntMulOk.of_left (intBits_le_64 ⋯ ⋯),w8 rfl rfl (exI rfl ?_)⟩)⟩⟩);refine j6 (λL=>?_) (λL=>?_)
  .exact⟨sz1,k2 (λz=>by have:=(ww8 D).mp L;have:=z.2;lia) _ J⟩
  .refine exI rfl (exI rfl ⟨sz2,λp2 n2=>?_⟩);refine k1 ⟨?_,?_⟩ p2 _ (J.trans (Same.upd n2)) qc
   .rcases cZ t 0 with z|z
    .exact absurd ((qwb D).mpr z) U
    .exact z
   .rcases cZ (((hs.length:Int)-1)*b) t with z|z
    .exact absurd ((ww8 D).mpr z) L
    .exact z
def spAt (K:Aa)(C CB CO:Aj):Sp:=λvs H Q E=>∃(r p:Aj) (hs:List Int) (t b:Int),vs=[.ref r,.ref p]/\RoadAt C H r hs/\wu hs/\SqT K H p [.int t,.int b] /\
 (1<=b->Sm 8000 b/\(zj hs t b->∀q H',Same H H'->H' q=some (.tup (ptV (Wn hs t b)))->Q (.ref q) H')/\(¬ zj hs t b->∀H',Same H H'->E (.ref CO) none H'))/\(b<1->E (.ref CB) none H)
include T in
theorem zei (F:Fun K "at" "Road.at" zbk f fd)(zaa:MCal P w K mg base qv "width" 1 (jn qv))(zaj:Cal P w K mg base "lowest" 2 (Qs qx))(zah:MCal P w K mg base qv "ends" 2 (Y7 qv qg))
  (zar:MCal P w K mg base qv "on_road" 3 (Q5 K qv qx qd)):FK P w K mg base 4 f fd ["self","point"] (spAt K qv qx qd):=by
 have sc:=wx8;refine F.okX sc (λvs H Q E h=>by obtain⟨_,_,_,_,_,rfl,_⟩:=h;rfl) λ_ _ _ _ H vs Q E U h=>?_;obtain⟨r,p,hs,t,b,rfl,W,L,hp,Z,x⟩:=h;obtain⟨dx,q,h1,h2⟩:=id W;refine⟨_,(qj (jj (vc (pv 0) T.cl zar (U.mono ⋯) qh (qw (pv 1) qk)) (yu rfl (xh (xv (i:=2)) (xh (xv (i:=3)) kg))))
   (qj (xq (i:=4) (wn (Wf rfl) rfl T.min_ d6 (qw (wb uc (pv 2) (pv 3)) (qw (wb ky (k8 (pv 0) T.cl zaa (U.mono ⋯) qh) qy) qk))))
   (qj (jj (vc (pv 0) T.cl zah (U.mono ⋯) qh (qw (pv 4) qk)) (yu rfl (xh (xv (i:=5)) (xh (xv (i:=6)) kg))))
   (qj (xq (i:=7) (wb ky (pv 2) (wb zw (pv 4) (pv 3))))
   (qr (xw (wj zaj (U.mono ⋯) rfl qh (qw (wb xu (wb zw (pv 5) (pv 3)) (wb zw (wb ky (pv 6) (pv 5)) (pv 7))) (qw (pv 3) qk))))))))),?_⟩
 refine⟨_,rfl,r,dx,_,rfl,h1,xj (by decide +kernel),_,rfl,r,p,hs,t,b,rfl,W,L,hp,λJ=>⟨(Z J).1,λab p1 H1 D f1=>?_,λac H1 D=>(Z J).2.2 ac H1 D⟩,λz=>x z⟩;obtain⟨sb,k1,k2⟩:=Z J;have ad:=L.1;have an:=L.2.1;have hy:=vt (t:=t) J;have am:=Zw (t:=t) J;have hx:0<=(wc t b).1:=by
  rcases cZ (wc t b).1 0 with z|z
  .have:=(qwb J).mp z;have:=ab.1;lia
  .exact z
 have hk:=wzg (hs:=hs) ad hy hx;have sy:Sm 9000 (wc t b).2:=(sb.of_le ⋯).mono ⋯;refine⟨p1,exI rfl ⟨SqT.of f1,rfl,_,_,rfl,_,_,rfl,rfl,?_⟩⟩;refine exI rfl (exI rfl (w8 rfl rfl ⟨⟨⋯,sy⟩,exI rfl ⟨r,dx,exI rfl ⟨D _ _ h1,xj (by decide +kernel),r,hs,rfl,W.same D,w8 rfl rfl ⟨_,_,rfl,?_⟩⟩⟩⟩));refine⟨_,rfl,r,dx,_,rfl,D _ _ h1,xj (by decide +kernel),V.int (kF hs (wc t b).1 (wc t b).2),rfl,r,hs,kF hs (wc t b).1 (wc t b).2,rfl,W.same D,λ_ _ p2 n2=>?_,λz=>absurd z ⋯⟩;have g1:=wz7 L (kF hs (wc t b).1 (wc t b).2);have g2:=wz7 L (kF hs (wc t b).1 (wc t b).2+1);refine⟨p2,exI rfl ⟨SqT.new,rfl,_,_,rfl,_,_,rfl,rfl,?_⟩⟩;refine exI rfl ⟨V.int (kF hs (wc t b).1 (wc t b).2),rfl,exI rfl (w8 rfl rfl ⟨IntMulOk.of_left (intBits_le_64 ⋯ ⋯),w8 rfl rfl ?_⟩)⟩;refine exI rfl (exI rfl (w8 rfl rfl ⟨IntMulOk.of_left (intBits_le_64 ⋯ ⋯),exI rfl (exI rfl (w8 rfl rfl (exI rfl (w8 rfl rfl ⟨IntMulOk.of_left (intBits_le_64 ⋯ ⋯),w8 rfl rfl (exI rfl ?_)⟩))))⟩));refine⟨vv hs (wc t b).1 (wc t b).2,(wc t b).2,rfl,λ_=>⟨sy,λp3 n3=>?_⟩,λz=>absurd z ⋯⟩;have e:wc (vv hs (wc t b).1 (wc t b).2) (wc t b).2=Wn hs t b:=qv2 J;rw[e];exact k1 ab p3 _ (D.trans ((Same.upd n2).trans (Same.upd n3))) qc
def Qt (a b:Int):Int:=if b<a then b else a
def Q3 (a b:Int):Int:=if b>a then b else a
theorem xvf {a:Int}:Qt a b<=a/\Qt a b<=b/\(Qt a b=a\/Qt a b=b):=by unfold Qt;split <;> lia
theorem xxs {a:Int}:a<=Q3 a b/\b<=Q3 a b/\(Q3 a b=a\/Q3 a b=b):=by unfold Q3;split <;> lia
def loH (hs:List Int)(k:Int):Int:=Qt (hAt hs k) (hAt hs (k+1))
def hiH (hs:List Int)(k:Int):Int:=Q3 (hAt hs k) (hAt hs (k+1))
def qj6 (C CR:Aj):Sp:=λvs H Q E=>∃(r:Aj) (hs:List Int) (k:Int),vs=[.ref r,.int k]/\RoadAt C H r hs/\(0<=k->k<(hs.length:Int)-1->∀H',Same H H'->Q (.int (hAt hs (k+1)-hAt hs k)) H') /\
 (k<0\/(hs.length:Int)-1<=k->E (.ref CR) none H)
include T in
theorem wut (F:Fun K "slope" "Road.slope" zbh f fd)(zah:MCal P w K mg base qv "ends" 2 (Y7 qv qg)):FK P w K mg base 3 f fd ["self","stretch"] (qj6 qv qg):=by
 have J:=qvx;refine F.okX J (λvs H Q E h=>by obtain⟨_,_,_,rfl,_⟩:=h;rfl) λ_ _ _ _ H vs Q E U h=>?_;obtain⟨r,hs,k,rfl,D,L,x⟩:=h;obtain⟨dx,q,h1,h2⟩:=id D;refine⟨_,(qj (jj (vc (pv 0) T.cl zah (U.mono ⋯) qh (qw (pv 1) qk)) (yu rfl (xh (xv (i:=2)) (xh (xv (i:=3)) kg))))
   (qr (xw (wb ky (pv 3) (pv 2))))),?_⟩
 refine⟨_,rfl,r,dx,_,rfl,h1,xj (by decide +kernel),V.int k,rfl,r,hs,k,rfl,D,λa b p n=>?_,λz=>x z⟩;refine⟨p,exI rfl ⟨SqT.new,rfl,_,_,rfl,_,_,rfl,rfl,?_⟩⟩;exact exI rfl (exI rfl (w8 rfl rfl (L a b _ (Same.upd n))))
def qyj (C CR:Aj):Sp:=λvs H Q E=>∃(r:Aj) (hs:List Int) (k:Int),vs=[.ref r,.int k]/\RoadAt C H r hs/\(0<=k->k<(hs.length:Int)-1->∀p H',Same H H'->H' p=some (.tup [.int (loH hs k),.int (hiH hs k)])->Q (.ref p) H') /\
 (k<0\/(hs.length:Int)-1<=k->E (.ref CR) none H)
include T in
theorem xwm (F:Fun K "reach" "Road.reach" zbi f fd)(zah:MCal P w K mg base qv "ends" 2 (Y7 qv qg)):FK P w K mg base 3 f fd ["self","stretch"] (qyj qv qg):=by
 have J:=qz7;refine F.okX J (λvs H Q E h=>by obtain⟨_,_,_,rfl,_⟩:=h;rfl) λ_ _ _ _ H vs Q E W h=>?_;obtain⟨r,hs,k,rfl,D,U,x⟩:=h;obtain⟨dx,q,h1,h2⟩:=id D;refine⟨_,(qj (jj (vc (pv 0) T.cl zah (W.mono ⋯) qh (qw (pv 1) qk)) (yu rfl (xh (xv (i:=2)) (xh (xv (i:=3)) kg))))
   (qr (xw (jx (qw (wn (Wf rfl) rfl T.min_ d6 (qw (pv 2) (qw (pv 3) qk))) (qw (wn (Y5 rfl) rfl T.max_ d7 (qw (pv 2) (qw (pv 3) qk))) qk)))))),?_⟩
 refine⟨_,rfl,r,dx,_,rfl,h1,xj (by decide +kernel),V.int k,rfl,r,hs,k,rfl,D,λa b p n=>?_,λz=>x z⟩;refine⟨p,exI rfl ⟨SqT.new,rfl,_,_,rfl,_,_,rfl,rfl,?_⟩⟩;refine exI rfl (exI rfl ⟨_,_,rfl,exI rfl (exI rfl ⟨_,_,rfl,sz2,λp2 L=>?_⟩)⟩);exact U a b p2 _ ((Same.upd n).trans (Same.upd L)) qc
theorem lohi (ok:wu hs)(k:Int):0<=loH hs k/\loH hs k<=hiH hs k/\hiH hs k<=(hs.length:Int)-1:=by
 have g:∀j,0<=hAt hs j/\hAt hs j<=(hs.length:Int)-1:=λj=>by
  unfold hAt;rw[af];have l:=ok.1;cases e:hs[j.toNat]? with
  |none=>exact⟨⋯,by show(0:Int)<=_;lia⟩
  |some v=>exact ok.2.2 v (aC e)
 have a:=g k;have b:=g (k+1);have c:=xvf (a:=hAt hs k) (b:=hAt hs (k+1));have d:=xxs (a:=hAt hs k) (b:=hAt hs (k+1));unfold loH hiH;lia
def yf (hs:List Int)(k:Int):List Int:=(List.range (hiH hs k-loH hs k).toNat).map λj:Nat=>loH hs k+j
theorem wyr (hs:List Int)(k:Int):((List.range (hiH hs k-loH hs k).toNat).map λj:Nat=>V.int (loH hs k+j))=(yf hs k).map V.int:=by unfold yf;rw[bF];rfl
def Js (C CR:Aj):Sp:=λvs H Q E=>∃(r:Aj) (hs:List Int) (k:Int),vs=[.ref r,.int k]/\RoadAt C H r hs/\wu hs/\(0<=k->k<(hs.length:Int)-1->∀p H',H p=none->Same H H'->H' p=some (.lst ((yf hs k).map V.int))->Q (.ref p) H') /\
 (k<0\/(hs.length:Int)-1<=k->E (.ref CR) none H)
include T in
theorem wxj (F:Fun K "covered" "covered" zat f fd)(zej:MCal P w K mg base qv "reach" 3 (qyj qv qg)):FK P w K mg base 4 f fd ["road","stretch"] (Js qv qg):=by
 have W:=wzq;refine F.okX W (λvs H Q E h=>by obtain⟨_,_,_,rfl,_⟩:=h;rfl) λ_ _ _ _ H vs Q E hr h=>?_;obtain⟨r,hs,k,rfl,U,L,Z,x⟩:=h;obtain⟨dx,q,h1,h2⟩:=id U;refine⟨_,(qj (jj (vc (pv 0) T.cl zej (hr.mono ⋯) qh (qw (pv 1) qk)) (yu rfl (xh (xv (i:=2)) (xh (xv (i:=3)) kg))))
   (qr (xw (qz9 rfl rfl T.list_ rfl T.range_ (qw (pv 2) (qw (pv 3) qk)))))),?_⟩
 refine⟨_,rfl,r,dx,_,rfl,h1,xj (by decide +kernel),V.int k,rfl,r,hs,k,rfl,U,λa b p H1 J f1=>?_,λz=>x z⟩;have hl:=lohi L k;have ol:=L.2.1;refine⟨p,exI rfl ⟨SqT.of f1,rfl,_,_,rfl,_,_,rfl,rfl,?_⟩⟩;refine⟨_,rfl,_,rfl,_,_,rfl,⟨⋯,⋯,⋯,⋯⟩,⋯,λp2 D=>?_⟩;refine Z a b p2 _ ?_ (J.trans (Same.upd D)) (by rw[qc,wyr]);cases e:H p2 with
 |none=>rfl
 |some o=>rw[J _ _ e]at D;cases D
theorem qjx (ok:wu hs)(k:Int):0<=hAt hs k/\hAt hs k<=(hs.length:Int)-1:=by
 unfold hAt;rw[af];have:=ok.1;cases e:hs[k.toNat]? with
 |none=>exact⟨⋯,by show(0:Int)<=_;lia⟩
 |some v=>exact ok.2.2 v (aC e)
theorem qyc {t:Int}(hok:wu hs)(hb:1<=b)(hon:zj hs t b):zj hs (vv hs t b) b:=by
 have F:=hok.1;have J:=wzg (hs:=hs) F hb hon.1;have Z:=qjx hok (kF hs t b);have W:=qjx hok (kF hs t b+1);have D:0<=t-kF hs t b*b/\t-kF hs t b*b<=b:=by
  have h1:t/b*b<=t:=gW t ⋯;have h2:=gY t (show 0<b by lia);unfold kF;split
  .next z =>
   have U:=aK (show(hs.length:Int)-1-1<=t/b by lia) (show 0<=b by lia);have L:=hon.2;constructor
   .lia
   .have:((hs.length:Int)-1)*b=((hs.length:Int)-1-1)*b+b:=by grind
    lia
  .have:(t/b+1)*b=t/b*b+b:=by grind
   constructor <;> lia
 have r:=xq9 (u:=hAt hs (kF hs t b)) (v:=hAt hs (kF hs t b+1)) D.1 D.2;refine⟨eA ?_ r.1,eA r.2 ?_⟩
 .refine dw ?_ ⋯;split <;> lia
 .refine aK ?_ ⋯;split <;> lia
theorem wzj {t:Int}(hb:1<=b)(hon:zj hs t b):zj hs (wc t b).1 (wc t b).2:=by
 constructor
 .rcases cZ (wc t b).1 0 with z|z
  .have:=(qwb hb).mp z;have:=hon.1;lia
  .exact z
 .rcases cZ (((hs.length:Int)-1)*(wc t b).2) (wc t b).1 with z|z
  .have:=(ww8 hb).mp z;have:=hon.2;lia
  .exact z
def itP (hs:List Int)(p:Int×Int):Nat->Int×Int
 |0=>p
 |n+1=>Wn hs (itP hs p n).1 (itP hs p n).2
def Pt (hs:List Int)(c:Int)(p:Int×Int):Prop:=1<=p.2/\p.2<=c/\gOf p.1 p.2=1/\zj hs p.1 p.2
theorem wwy {t:Int}(hb:1<=b)(hon:zj hs t b):Pt hs b (wc t b):=⟨vt hb,Zw hb,Ju hb,wzj hb hon⟩
variable {c:Int}
theorem xz7 (hok:wu hs)(h:Pt hs c p):Pt hs c (Wn hs p.1 p.2):=by have a:=wwy h.1 (qyc hok h.1 h.2.2.2);exact⟨a.1,eA a.2.1 h.2.1,a.2.2.1,a.2.2.2⟩
theorem xq8 (hok:wu hs)(h:Pt hs c p):∀n,Pt hs c (itP hs p n)
 |0=>h
 |n+1=>xz7 hok (xq8 hok h n)
def trT (hs:List Int)(t b:Int):Nat->Int
 |0=>t
 |n+1=>vv hs (trT hs t b n) b
theorem wxf {t:Int}(hok:wu hs)(hb:1<=b)(hon:zj hs t b):∀n,zj hs (trT hs t b n) b
 |0=>hon
 |n+1=>qyc hok hb (wxf hok hb hon n)
theorem Yz {t:Int}(hb:1<=b):∀n,wc (trT hs t b n) b=itP hs (wc t b) n
 |0=>rfl
 |n+1=>by show Wn hs (trT hs t b n) b=Wn hs (itP hs (wc t b) n).1 (itP hs (wc t b) n).2;rw[<-Yz hb n,qv2 hb]
def qu3 (hs:List Int)(p:Int×Int)(n:Nat):List (Int×Int):=(List.range n).map (itP hs p)
theorem Jk (hs:List Int)(p:Int×Int)(n:Nat):qu3 hs p (n+1)=qu3 hs p n++[itP hs p n]:=by unfold qu3;rw[cG,bj];rfl
theorem uj (hs:List Int)(p:Int×Int)(n:Nat):(qu3 hs p n).length=n:=by unfold qu3;rw[ag,aH]
def PtR (H:Hp)(v:V)(p:Int×Int):Prop:=∃a,v=.ref a/\H a=some (.tup [.int p.1,.int p.2])
variable {v:V}
theorem PtR.same (h:PtR H v p)(s:Same H H'):PtR H' v p:=by obtain⟨a,e,f⟩:=h;exact⟨a,e,s _ _ f⟩
theorem PtR.upd {q:Aj}{xs:List V}(h:PtR H v p)(hq:H q=some (.lst xs)):PtR (L2.upd H q o) v p:=by obtain⟨a,e,f⟩:=h;refine⟨a,e,?_⟩;rw[qt (λz=>by rw[z,hq]at f;cases f)];exact f
variable {α β:Type}
theorem wq1 {F G:α->β->Prop}(h:∀a b,F a b->G a b):∀ {l:List α} {m:List β},Paired F l m->Paired G l m
 |_,_,.nil=>.nil
 |_,_,.cons a t=>.cons (h _ _ a) (wq1 h t)
theorem Yv {F:α->β->Prop}:∀ {l:List α} {m:List β} {i:Nat} {a:α},Paired F l m->l[i]?=some a->∃b,m[i]?=some b/\F a b
 |_,_,0,_,.cons a _,e=>by cases e;exact exI rfl a
 |_,_,i+1,_,.cons _ t,e=>Yv (i:=i) t e
theorem Wc {F:α->β->Prop}:∀ {l:List α} {m:List β} {i:Nat} {b:β},Paired F l m->m[i]?=some b->∃a,l[i]?=some a/\F a b
 |_,_,0,_,.cons a _,e=>by cases e;exact exI rfl a
 |_,_,i+1,_,.cons _ t,e=>Wc (i:=i) t e
def PtsAt (H:Hp)(q:Aj)(ps:List (Int×Int)):Prop:=∃vs,H q=some (.lst vs)/\Paired (PtR H) vs ps
theorem Wh (ok:wu hs)(k:Int):∀v∈yf hs k,0<=v/\v<((hs.length-1:Nat):Int):=λv hv=>by have l:=lohi ok k;have:=ok.1;unfold yf at hv;obtain⟨j,hj,rfl⟩:=aS.mp hv;have:=aw.mp hj;lia
theorem wqs (ok:wu hs)(k:Int):(yf hs k).length<=24:=by have l:=lohi ok k;have:=ok.2.1;unfold yf;rw[ag,aH];lia
def xr (hs:List Int):Nat->List Int:=λi=>yf hs ((0:Int)+i)
def CovAt (H:Hp)(p:Aj)(hs:List Int):Prop:=∃ys,H p=some (.lst ys)/\ys.length=hs.length-1/\∀i v,ys[i]?=some v->∃q,v=.ref q/\H q=some (.lst ((xr hs i).map V.int))
theorem CovAt.same {p:Aj}(h:CovAt H p hs)(s:Same H H'):CovAt H' p hs:=by obtain⟨ys,e,l,r⟩:=h;exact⟨ys,s _ _ e,l,λi v z=>let ⟨q,a,b⟩:=r i v z;⟨q,a,s _ _ b⟩⟩
theorem qwp (g:Nat->List V):Stay λi v H=>∃q,v=.ref q/\H q=some (.lst (g i)):=λi v H H' p h nv st=>by obtain⟨q,rfl,e⟩:=h;exact⟨q,rfl,st q _ (λz=>nv (by rw[z])) e⟩
def u8 (C:Aj):Sp:=λvs H Q _=>∃(r:Aj) (hs:List Int),vs=[.ref r]/\RoadAt C H r hs/\wu hs/\∀p H',H p=none->Same H H'->CovAt H' p hs->Q (.ref p) H'
include T in
theorem qyf (F:Fun K "covers_of" "covers_of" zau f fd)(zaa:MCal P w K mg base qv "width" 1 (jn qv))(zek:Cal P w K mg base "covered" 4 (Js qv qg)):FK P w K mg base 5 f fd ["road"] (u8 qv):=by have U:=qjh;refine F.okX U (λvs H Q E h=>by obtain⟨_,_,rfl,_⟩:=h;rfl) λ_ _ _ s H vs Q E L h=>?_;obtain⟨r,hs,rfl,J,D,k⟩:=h;obtain⟨dx,q,h1,h2⟩:=id J;have o1:=D.1;have o2:=D.2.1;refine⟨_,(qr (xw (kx (M:=[0]) rfl rfl (by walk_at "cap") (by walk_at "has") (by walk_at "cix") rfl (by decide +kernel) rfl (show List.Nodup (["stretch","road"]:List Str) by decide +kernel) (xm rfl T.range_ (qw (k8 (pv 0) T.cl zaa (L.mono ⋯) qh) qk)) (λ_ _ _ _ _=>(wj zek (L.mono ⋯) rfl Q7 (qw (pv 1) (qw (pv 0) qk))))))),?_⟩;refine exI rfl ⟨r,dx,exI rfl ⟨h1,xj (by decide +kernel),r,hs,rfl,J,exI rfl ⟨⋯,⋯,Q2 (λi v H=>∃q,v=.ref q/\H q=some (.lst ((xr hs i).map V.int))) (qwp _) ⋯ (λi H' R hi s' Z=>?_) λp ys H' np s' f l hG=>k p H' np s' ⟨ys,f,⋯,λi v e=>(hG i v e).1⟩⟩⟩⟩;refine⟨_,rfl,_,rfl,r,hs,_,rfl,J.same s',D,λ_ _ p2 H2 W s2 f2=>Z (.ref p2) H2 s2 ⟨p2,rfl,f2⟩ λb e=>?_,λz=>absurd z ⋯⟩;cases e;exact W
def qw7:Sp:=λvs H Q _=>∃w:Int,vs=[.int w]/\0<=w/\w<=24/\∀(cov:Nat->List Int) p H',H p=none->Same H H'->MatAt H' p w.toNat (zf cov 0)->Q (.ref p) H'
include T in
theorem wx5 (F:Fun K "ways_of_no_step" "ways_of_no_step" zav f fd):FK P w K mg base 1 f fd ["width"] qw7:=by
 have L:=Zj;refine F.okX L (λvs H Q E h=>by obtain⟨_,rfl,_⟩:=h;rfl) λ_ _ _ s H vs Q E hr h=>?_;obtain⟨w,rfl,w0,Z,k⟩:=h;refine⟨_,(qr (xw (qw3 (M:=[0]) rfl rfl (by walk_at "cap") (by walk_at "hasK") (by walk_at "cix") rfl (by decide +kernel) (by intro _;rfl) (by intro _;rfl) rfl (show List.Nodup (["begin","width"]:List Str) by decide +kernel) (xm rfl T.range_ (qw (pv 0) qk)) (λ_ _ _ _ _=>(kx (M:=[0]) rfl rfl (by walk_at "cap") (by walk_at "has") (by walk_at "cix") rfl (by decide +kernel) rfl (show List.Nodup (["end","begin"]:List Str) by decide +kernel) (xm rfl T.range_ (qw (pv 1) qk)) (λ_ _ _ _ _=>(qw5 (wt yx (pv 0) (pv 1) (xk _)) qy qy))))))),?_⟩;refine exI rfl ⟨w,rfl,⋯,⋯,Q2 (λi v H=>∃q,v=.ref q/\H q=some (.lst ((zr w.toNat (zf (λ_=>[]) 0 i)).map V.int))) (qwp _) ⋯ (λi H' R hi s' U=>?_) λp ys H' np s' f l W=>k (λ_=>[]) p H' np s' ⟨ys,f,l,λi v e=>(W i v e).1⟩⟩;refine exI rfl ⟨w,rfl,⋯,⋯,vw (λj=>V.int (zf (λ_=>[]) 0 i j)) ⋯ (λj H2 R2 hj s2 D=>?_) λq J=>U (.ref q) _ (Same.upd J) ⟨q,rfl,by rw[qc,qxm]⟩ λb e=>by cases e;exact J⟩;refine exI rfl (exI rfl ⟨rfl,_,rfl,yp (λe=>?_) (λe=>?_)⟩)
 .have:zf (λ_=>[]) 0 i j=1:=av ⋯;rw[this]at D;exact D
 .have:zf (λ_=>[]) 0 i j=0:=ao ⋯;rw[this]at D;exact D
def Yp (hs:List Int):Sp:=λvs H Q _=>∃(c t:Aj) (f:Nat->Nat->Int),vs=[.ref c,.ref t]/\CovAt H c hs/\MatAt H t (hs.length-1) f/\∀p H',H p=none->Same H H'->MatAt H' p (hs.length-1) (λi j=>((xr hs i).map λv=>f v.toNat j).sum)->Q (.ref p) H'
def picks (f:Nat->Nat->Int)(j:Nat):V->V
 |.int z=>.int (f z.toNat j)
 |_=>.non
theorem at_row {j:Nat}{g:Nat->Int}(h:j<n):atI ((zr n g).map V.int) ((0:Int)+j)=some (V.int (g j)):=by rw[Int.zero_add];refine jz ?_;rw[ax,qx1 h];rfl
theorem qu0 (ok:wu hs)(F:Fun K "one_step_more" "one_step_more" zaw f fd)(T:Txt K mg qp qx qd qu qf qg qv):FK P w K mg base 1 f fd ["covers","table"] (Yp hs):=by
 have sc:=Jw;refine F.okX sc (λvs H Q E h=>by obtain⟨_,_,_,rfl,_⟩:=h;rfl) λ_ _ _ s H vs Q E hr h=>?_;obtain⟨c,t,g,rfl,⟨cs,fc,lc,gc⟩,Z,k⟩:=h;obtain⟨L,J,lt,gt⟩:=id Z;have o1:=ok.1;have o2:=ok.2.1;refine⟨_,(qr (xw (qw3 (M:=[1]) rfl rfl (by walk_at "cap") (by walk_at "hasK") (by walk_at "cix") rfl (by decide +kernel) (by intro _;rfl) (by intro _;rfl) rfl (show List.Nodup (["vias","table"]:List Str) by decide +kernel) (vz (pv 0)) (λ_ _ _ _ _=>(qw3 (M:=[0,1]) rfl rfl (by walk_at "cap") (by walk_at "hasK") (by walk_at "cix") rfl (by decide +kernel) (by intro _;rfl) (by intro _;rfl) rfl (show List.Nodup (["end","vias","table"]:List Str) by decide +kernel) (xm rfl T.range_ (qw (wn (W3 (K:=K) rfl) rfl T.len_ bJ (qw (pv 1) qk)) qk)) (λ_ _ _ _ _=>(wn (v8 (K:=K) rfl rfl) rfl T.sum_ uy (qw (kx (M:=[0,2]) rfl rfl (by walk_at "cap") (by walk_at "has") (by walk_at "cix") rfl (by decide +kernel) rfl (show List.Nodup (["via","end","table"]:List Str) by decide +kernel) (wqq (K:=K) rfl (pv 1)) (λ_ _ _ _ _=>(zu (yk (K:=K) rfl) (zu (yk (K:=K) rfl) (pv 2) (pv 0) (λ_ _=>rfl)) (pv 1) (λ_ _=>rfl)))) qk)))))))),?_⟩;refine exI rfl ⟨c,rfl,⟨_,SqL.of fc⟩,Qz (K:=K) (a:=c) (xs:=cs) (λi v H=>∃q,v=.ref q/\H q=some (.lst ((zr (hs.length-1) λj=>((xr hs i).map λv=>g v.toNat j).sum).map V.int))) (qwp _) (SqL.of fc) ⋯ (λi x H' R hx s' an=>?_) λp ys H' np s' f l hG=>k p H' np s' ⟨ys,f,⋯,λi v e=>(hG i v e).1⟩⟩;obtain⟨W,rfl,ab⟩:=gc i x hx;refine exI rfl ⟨t,exI rfl ⟨.inl (SqL.of (s' _ _ J)),exI rfl ⟨⋯,⋯,?_⟩⟩⟩;rw[show((L.length:Int)).toNat=hs.length-1 by lia];refine qyr (λj=>V.int (((xr hs i).map λv=>g v.toNat j).sum)) (λ_ _ e=>nomatch e) ⋯ (λj H2 R2 hj s2 am=>?_) λq H2 nq s2 fq=>an (.ref q) H2 s2 ⟨q,rfl,by rw[fq,qxm]⟩ λb e=>by cases e;exact nq
 have D:=s'.trans s2;refine exI rfl ⟨W,rfl,⟨_,SqL.of (D _ _ ab)⟩,qvt (K:=K) (a:=W) (xs:=(xr hs i).map V.int) (picks g j) (SqL.of (D _ _ ab)) (by rw[ag];have:=wqs ok ((0:Int)+i);unfold xr;lia) (λx3 H3 R3 ac s3 ad=>?_) λpl nl=>?_⟩
 .obtain⟨z,hz,rfl⟩:=aS.mp ac;have zb:=Wh ok _ z hz;obtain⟨qz,ez,fz⟩:=Z.row J (i:=z.toNat) ⋯;have U:=D.trans s3;have ap:atI L z=some (.ref qz):=by have:=jz ez;rwa [cA zb.1]at this
  exact exI rfl (exI rfl (exX rfl rfl (SqL.of (U _ _ J)) ap (exI rfl (exX rfl rfl (SqL.of (U _ _ fz)) (at_row hj) ad))))
 .have e:((xr hs i).map V.int).map (picks g j)=((xr hs i).map λv=>g v.toNat j).map V.int:=by rw[bF,bF];rfl
  rw[e];exact⟨pl,exI rfl ⟨SqL.new,am _ (Same.upd nl)⟩⟩
theorem MatAt.upd {p q:Aj}{f:Nat->Nat->Int}{ys:List V}{a:Aj}(h:MatAt H p n f)(hn:1<=n)(hq:H q=some (.lst ys))(hp:p≠q)(h0:ys[0]?=some (.ref a)):MatAt (L2.upd H q o) p n f:=by
 obtain⟨zs,e,l,r⟩:=h;refine⟨zs,by rw[qt hp];exact e,l,λi v z=>?_⟩;obtain⟨D,L,b⟩:=r i v z;refine⟨D,L,?_⟩;rw[qt (λJ=>?_)]
 .exact b
 .rw[J,hq]at b;have F:ys=(zr n (f i)).map V.int:=by
   injection b with b
   injection b
  rw[F,ax,qx1 ⋯]at h0;cases h0
def qwr (C:Aj):Sp:=λvs H Q _=>∃(r:Aj) (hs:List Int) (m:Int),vs=[.ref r,.int m]/\RoadAt C H r hs/\wu hs/\0<=m/\m<=60 /\
 ∀p ys H',Same H H'->H' p=some (.lst ys)->ys.length=m.toNat+1->(∀i v,ys[i]?=some v->∃q,v=.ref q/\MatAt H' q (hs.length-1) (zf (xr hs) i))->Q (.ref p) H'
include T in
theorem wx7 (F:Fun K "ways_up_to" "ways_up_to" zax f fd)(zbx:Cal P w K mg base "covers_of" 5 (u8 qv))(zaa:MCal P w K mg base qv "width" 1 (jn qv))(zel:Cal P w K mg base "ways_of_no_step" 1 qw7)
  (zem:∀hs,wu hs->Cal P w K mg base "one_step_more" 1 (Yp hs)):FK P w K mg base 6 f fd ["road","many"] (qwr qv):=by
 have sc:=qz8;refine F.okX sc (λvs H Q E h=>by obtain⟨_,_,_,rfl,_⟩:=h;rfl) λ_ _ _ _ H vs Q E Z h=>?_;obtain⟨r,hs,m,rfl,hR,W,m0,m1,k⟩:=h;obtain⟨dx,q,h1,h2⟩:=id hR;have o1:=W.1;have o2:=W.2.1;have an:=zem hs W;refine⟨_,(qj (xq (i:=2) (wj zbx (Z.mono ⋯) rfl qh (qw (pv 0) qk)))
   (qj (xq (i:=3) (ug (qw (wj zel (Z.mono ⋯) rfl qh (qw (k8 (pv 0) T.cl zaa (Z.mono ⋯) qh) qk)) qk)))
   (qj (y8 bn (wt qu5 (wn xf rfl T.len_ bJ (qw (pv 3) qk)) (pv 1) (xk _)) (qr (km (qxq cC dt du jp (pv 3) (qw (wj an (Z.mono ⋯) rfl qh (qw (pv 2) (qw (zu zg (pv 3) (qw0 W7 qy) (λ_ _=>rfl)) qk))) qk)))))
   (qr (xw (pv 3)))))),?_⟩
 refine exI rfl ⟨r,hs,rfl,hR,W,λp1 H1 n1 s1 C1=>?_⟩;refine exI rfl ⟨r,dx,exI rfl ⟨s1 _ _ h1,xj (by decide +kernel),r,hs,rfl,hR.same s1,exI rfl ⟨⋯,⋯,λa1 p2 H2 n2 s2 M2=>?_⟩⟩⟩;rw[show((hs.length:Int)-1).toNat=hs.length-1 by lia]at M2;have ap:MatAt H2 p2 (hs.length-1) (zf (xr hs) 0):=M2;obtain⟨as,U,_,_⟩:=id M2;refine⟨sz1,λq nq=>?_⟩;have dq:p2≠q:=q9 U nq;have sq:Same H2 (upd H2 q (.lst [.ref p2])):=Same.upd nq;refine y9 (λσ D=>∃(i:Nat) (ys:List V),σ=[some (.ref r),some (.int m),some (.ref p1),some (.ref q)]/\(i:Int)<=m/\Same H2 D/\D q=some (.lst ys)/\ys.length=i+1/\∀j v,ys[j]?=some v->∃J,v=.ref J/\J≠q/\MatAt D J (hs.length-1) (zf (xr hs) j))
  (λ_ D=>match D q with|some (.lst ys)=>(m+1).toNat-ys.length|_=>0) ⟨0,[.ref p2],rfl,⋯,sq,qc,rfl,λj v e=>?_⟩ ?_ λσ H Q Q' h ⟨v,e,p',ys,e1,U,v2,e3,i,j,e4,e5,kk,e6,qq⟩=>⟨v,e,p',ys,e1,U,v2,e3,i,j,e4,e5,kk,e6,h _ _ qq⟩
 .rcases j with _|j
  .cases e;exact⟨p2,rfl,dq,ap.same sq⟩
  .cases e
 .rintro σ D ⟨i,ys,rfl,hi,s3,f3,l3,g3⟩;have ab:=s1.trans (s2.trans s3);refine exI rfl ⟨_,_,rfl,.inl (SqL.of f3),exI rfl (w8 rfl rfl (exI rfl ?_))⟩;rw[l3];refine j6 (λq1=>?_) (λq1=>?_)
  .have ei:ys[i]?=some ys[i]:=ae ⋯;obtain⟨qi,am,a0,Mi⟩:=g3 i _ ei;have ad:atI ys (-1)=some (.ref qi):=by
    have hz:ys≠[]:=λz=>by rw[z]at l3;simp at l3
    have e1:ys=ys.dropLast++[ys.getLast hz]:=(eW hz).symm;have U:ys.getLast hz=.ref qi:=by
     rw[jo];have:ys[i]?=ys[ys.length-1]?:=by rw[l3];rfl
     rw[this,ae ⋯,am]at ei;exact au ei
    rw[e1,U];exact Zd _ _
   obtain⟨ac,e0,_,_⟩:=g3 0 _ (ae (show 0<ys.length by lia));have h0:ys[0]?=some (.ref ac):=by rw[ae (show 0<ys.length by lia),e0]
   refine exI rfl ⟨.inl ⟨rfl,_,SqL.of f3⟩,exI rfl (exI rfl (exI rfl (exX rfl rfl (SqL.of f3) ad ⟨p1,qi,zf (xr hs) i,rfl,C1.same (s2.trans s3),Mi,λL H4 n4 s4 M4=>?_⟩)))⟩;have f4:=s4 _ _ f3;have d4:L≠q:=(q9 f3 n4).symm;refine⟨_,_,_,rfl,rfl,f4,Jp ⋯,⟨i+1,ys++[.ref L],rfl,⋯,Same.upd2 (s3.trans s4) nq,qc,by rw[ar,l3];rfl,λj v e=>?_⟩,?_⟩
   .rcases bp j ys.length with z|z
    .rw[aT z]at e;obtain⟨J,e',d',M'⟩:=g3 j v e;exact⟨J,e',d',MatAt.upd (M'.same s4) ⋯ f4 d' h0⟩
    .rw[aA z]at e;have hj:j=i+1:=by
      rcases bp (j-ys.length) 1 with y|y
      .lia
      .rw[aO (by simpa using y)]at e;cases e
     subst hj;rw[show i+1-ys.length=0 by lia]at e;have:V.ref L=v:=au e;subst this;exact⟨L,rfl,d4,MatAt.upd (f:=zf (xr hs) (i+1)) M4 ⋯ f4 d4 h0⟩
   .show(match upd H4 q (.lst (ys++[.ref L])) q with|some (.lst ys)=>(m+1).toNat-ys.length|_=>0)<(match D q with|some (.lst ys)=>(m+1).toNat-ys.length|_=>0);rw[qc,f3];show(m+1).toNat-(ys++[V.ref L]).length<(m+1).toNat-ys.length;rw[ar,cN];lia
  .refine exI rfl (k q ys D ab f3 ⋯ λj v e=>?_);obtain⟨J,e',_,M'⟩:=g3 j v e;exact⟨J,e',M'⟩
def covR (hs:List Int)(i j:Int):Prop:=(0<=i/\i<(hs.length:Int)-1)/\loH hs i<=j/\j+1<=hiH hs i
instance (hs:List Int)(i j:Int):Decidable (covR hs i j):=by unfold covR;exact inferInstance
def qvw (xs:List Int):List Int:=xs.drop 1++xs.take 1
theorem xzm (xs:List Int):(qvw xs).length=xs.length:=by unfold qvw;rw[ar,bY,bg];lia
def y6 (hs xs:List Int):Prop:=(1<=xs.length/\xs.length<=12)/\∀(i:Nat) (x y:Int),xs[i]?=some x->(qvw xs)[i]?=some y->covR hs x y
def qu8 (hs:List Int)(p:Int×Int)(x:Int):Int×Int:=(p.1*(hAt hs (x+1)-hAt hs x),hAt hs x+(hAt hs (x+1)-hAt hs x)*(p.2-x))
def wg (hs xs:List Int):Int×Int:=xs.foldl (qu8 hs) (1,0)
theorem wxg (hs xs:List Int)(x:Int):wg hs (xs++[x])=qu8 hs (wg hs xs) x:=by unfold wg;rw[List.foldl_append];rfl
theorem yq (hs:List Int){xs:List Int}{i:Nat}{x:Int}(h:xs[i]?=some x):wg hs (xs.take (i+1))=qu8 hs (wg hs (xs.take i)) x:=by rw[dH,h];exact wxg hs _ x
theorem qvs (ok:wu hs)(x:Int):(hAt hs (x+1)-hAt hs x).natAbs<=24:=by have a:=wz7 ok x;have b:=wz7 ok (x+1);lia
theorem Yn (ok:wu hs){xs:List Int}:∀i:Nat,(wg hs (xs.take i)).1.natAbs<=24 ^ i
 |0=>by rw[iD];show(1:Int).natAbs<=1;decide
 |i+1=>by
  have ih:=Yn ok (xs:=xs) i;cases e:xs[i]? with
  |none =>
   have:=fC.mp e;have e1:xs.take (i+1)=xs.take i:=by rw[da ⋯,da ⋯]
   rw[e1,dN];exact bK ih (jA _ ⋯)
  |some x =>
   rw[yq hs e];show((wg hs (xs.take i)).1*(hAt hs (x+1)-hAt hs x)).natAbs<=24 ^ (i+1);rw[gf,dN];exact Nat.mul_le_mul ih (qvs ok x)
def qjd (K:Aa)(C:Aj):Sp:=λvs H Q _=>∃(r a:Aj) (hs xs:List Int),vs=[.ref r,.ref a]/\RoadAt C H r hs/\wu hs/\SqT K H a (xs.map V.int)/\(∀x∈xs,0<=x/\x<(hs.length:Int)-1) /\
 ∀p H',Same H H'->H' p=some (.tup [.int (wg hs xs).1,.int (wg hs xs).2])->Q (.ref p) H'
include T in
theorem wur (F:Fun K "line_along" "line_along" za6 f fd)(zen:MCal P w K mg base qv "slope" 3 (qj6 qv qg))(zah:MCal P w K mg base qv "ends" 2 (Y7 qv qg)):FK P w K mg base 4 f fd ["road","row"] (qjd K qv):=by
 have L:=qvy;refine F.okX L (λvs H Q E h=>by obtain⟨_,_,_,_,rfl,_⟩:=h;rfl) λ_ _ _ _ H vs Q E J h=>?_;obtain⟨r,a,hs,xs,rfl,D,Z,hT,hx,k⟩:=h;refine⟨_,(qj (xq (i:=2) qy)
   (qj (xq (i:=3) qy)
   (qj (j9 bn rfl (pi_tup (pv 1)) (xv (i:=4)) (qj (xq (i:=5) (vc (pv 0) T.cl zen (J.mono ⋯) qh (qw (pv 4) qk)))
   (qj (xq (i:=6) (zu qwt (vc (pv 0) T.cl zah (J.mono ⋯) qh (qw (pv 4) qk)) qy (λ_ _=>rfl)))
   (qj (xq (i:=2) (wb zw (pv 2) (pv 5)))
   (qr (xq (i:=3) (wb xu (pv 6) (wb zw (pv 5) (wb ky (pv 3) (pv 4))))))))))
   (qr (xw (jx (qw (pv 2) (qw (pv 3) qk)))))))),?_⟩
 refine exI rfl ⟨a,rfl,⟨_,hT⟩,xzq (xs:=xs.map V.int) (λi σ H'=>Same H H'/\∃z4 z5 z6,σ=[some (.ref r),some (.ref a),some (.int (wg hs (xs.take i)).1),some (.int (wg hs (xs.take i)).2),z4,z5,z6]) ⟨Same.refl _,_,_,_,rfl⟩ (λi σ H' _ h=>h.1.sqt hT) ?_ ?_⟩
 .rintro i v σ H1 ev ⟨s1,z4,z5,z6,rfl⟩;rw[ax]at ev;obtain⟨x,ex,rfl⟩:=eQ.mp ev;obtain⟨x0,x1⟩:=hx x (aC ex);obtain⟨dx,W,h1,h2⟩:=id (D.same s1);have sl:=qvs Z x;refine⟨_,rfl,r,dx,_,rfl,h1,xj (by decide +kernel),_,rfl,r,hs,x,rfl,D.same s1,λ_ _ H2 s2=>?_,λz=>absurd z ⋯⟩;obtain⟨dx,W,h1,h2⟩:=id (D.same (s1.trans s2));refine⟨_,rfl,r,dx,_,rfl,h1,xj (by decide +kernel),_,rfl,r,hs,x,rfl,D.same (s1.trans s2),λ_ _ p3 n3=>?_,λz=>absurd z ⋯⟩;have U:=Same.upd (o:=.tup [.int (hAt hs x),.int (hAt hs (x+1))]) n3;refine exX rfl rfl SqT.new rfl ?_;refine exI rfl (exI rfl (w8 rfl rfl ⟨IntMulOk.of_right (intBits_le_64 ⋯ ⋯),?_⟩));refine exI rfl (exI rfl (exI rfl (exI rfl (w8 rfl rfl (w8 rfl rfl ⟨IntMulOk.of_left (intBits_le_64 ⋯ ⋯),w8 rfl rfl ?_⟩)))));refine⟨s1.trans (s2.trans U),some (.int x),some (.int (hAt hs (x+1)-hAt hs x)),some (.int (hAt hs x)),?_⟩;rw[yq hs ex];rfl
 .rintro σ H1 ⟨s1,z4,z5,z6,rfl⟩;rw[ag,bD];refine exI rfl (exI rfl ⟨sz2,λp np=>k p _ (s1.trans (Same.upd np)) qc⟩)
variable {xs:List Int}
theorem wk6 (c:y6 hs xs):∀x∈xs,0<=x/\x<(hs.length:Int)-1:=λx hx=>by
 obtain⟨i,hi,rfl⟩:=de hx;have h2:i<(qvw xs).length:=by rw[xzm];exact hi
 exact(c.2 i xs[i] (qvw xs)[i] (ae hi) (ae h2)).1
def FixR (H:Hp)(p:Int×Int)(v:V):Prop:=(p.1=1/\v=.non)\/(p.1≠1/\∃q,v=.ref q/\H q=some (.tup (ptV (if p.1>1 then wc (-p.2) (p.1-1) else wc p.2 (1-p.1)))))
def qk2 (K:Aa)(C:Aj):Sp:=λvs H Q _=>∃(r a:Aj) (hs xs:List Int),vs=[.ref r,.ref a]/\RoadAt C H r hs/\wu hs/\SqT K H a (xs.map V.int)/\(∀x∈xs,0<=x/\x<(hs.length:Int)-1)/\xs.length<=12 /\
 ∀v H',Same H H'->FixR H' (wg hs xs) v->Q v H'
include T in
theorem xqy (F:Fun K "fixed_point" "fixed_point" za7 f fd)(zeo:Cal P w K mg base "line_along" 4 (qjd K qv))(zaj:Cal P w K mg base "lowest" 2 (Qs qx)):FK P w K mg base 5 f fd ["road","row"] (qk2 K qv):=by
 have sc:=qxw;refine F.okX sc (λvs H Q E h=>by obtain⟨_,_,_,_,rfl,_⟩:=h;rfl) λ_ _ _ _ H vs Q E U h=>?_;obtain⟨r,a,hs,xs,rfl,hR,Z,hT,hx,hl,k⟩:=h;have D:=Yn Z (xs:=xs) xs.length;rw[bD]at D;have D:(wg hs xs).1.natAbs<=24 ^ 12:=bK D (dv ⋯ hl);have ac:(24:Nat) ^ 12=36520347436056576:=by decide
 rw[ac]at D;refine⟨_,(qj (jj (wj zeo (U.mono ⋯) rfl qh (qw (pv 0) (qw (pv 1) qk))) (yu rfl (xh (xv (i:=2)) (xh (xv (i:=3)) kg))))
   (qj (vy (wt yx (pv 2) qy (xk _)) (qr (xw qxd)) x8)
   (qj (vy (wt Wp (pv 2) qy (xk _)) (qr (xw (wj zaj (U.mono ⋯) rfl qh (qw (qw0 W7 (pv 3)) (qw (wb ky (pv 2) qy) qk))))) x8)
   (qr (xw (wj zaj (U.mono ⋯) rfl qh (qw (pv 3) (qw (wb ky qy (pv 2)) qk)))))))),?_⟩
 refine exI rfl (exI rfl ⟨r,a,hs,xs,rfl,hR,Z,hT,hx,λp H1 J W=>?_⟩);unfold FixR at k;generalize (wg hs xs).1=st at D W k;generalize (wg hs xs).2=ht at W k;refine⟨p,exI rfl ⟨SqT.of W,rfl,_,_,rfl,_,_,rfl,rfl,?_⟩⟩;refine exI rfl ⟨rfl,_,rfl,yp (λz=>?_) (λz=>?_)⟩
 .exact k _ _ J (.inl ⟨z,rfl⟩)
 .refine exI rfl (w8 rfl rfl (exI rfl (j6 (λy=>?_) (λy=>?_))))
  .refine⟨_,rfl,_,rfl,_,rfl,_,_,rfl,rfl,_,_,rfl,λ_=>⟨Sm.small ⋯ ⋯ ⋯,λq L=>?_⟩,λw=>absurd w ⋯⟩;refine k _ _ (J.trans (Same.upd L)) (.inr ⟨z,q,rfl,?_⟩);rw[av y];exact qc
  .refine⟨_,rfl,_,rfl,_,_,rfl,rfl,_,_,rfl,λ_=>⟨Sm.small ⋯ ⋯ ⋯,λq L=>?_⟩,λw=>absurd w ⋯⟩;refine k _ _ (J.trans (Same.upd L)) (.inr ⟨z,q,rfl,?_⟩);rw[ao y];exact qc
variable {i:Nat}
theorem wvf (h:i+1<xs.length):(qvw xs)[i]?=xs[i+1]?:=by unfold qvw;rw[aT (by rw[bY];lia),dr,gv]
theorem wz4 (h:i+1=xs.length):(qvw xs)[i]?=xs[0]?:=by unfold qvw;rw[aA (by rw[bY];lia),bY,show i-(xs.length-1)=0 by lia,dW,av ⋯]
def covT (hs:List Int)(i j:Nat):Int:=if loH hs ((0:Int)+i)<=(0:Int)+j/\(0:Int)+j+1<=hiH hs ((0:Int)+i) then 1 else 0
theorem wvu:∀(m:Nat) (lo:Int) (j:Nat),0<=lo->((List.range m).map λk:Nat=>(if j=(lo+k).toNat then(1:Int) else 0)).sum=if lo<=j/\(j:Int)<lo+m then 1 else 0
 |0,lo,j,h=>by rw[ao ⋯];rfl
 |m+1,lo,j,h=>by
  rw[cG,bj,gU,wvu m lo j h,aM,d9,cH,List.sum_nil];by_cases z:j=(lo+m).toNat
  .rw[av z,ao ⋯,av ⋯];rfl
  .rw[ao z];by_cases y:lo<=j/\(j:Int)<lo+m
   .rw[av y,av ⋯];rfl
   .rw[ao y,ao ⋯];rfl
theorem wvh (ok:wu hs)(i j:Nat):zf (xr hs) 1 i j=covT hs i j:=by
 show((xr hs i).map λv=>if j=v.toNat then(1:Int) else 0).sum=_;have l:=lohi ok ((0:Int)+i);unfold xr yf covT;rw[bF];have:=wvu (hiH hs ((0:Int)+i)-loH hs ((0:Int)+i)).toNat (loH hs ((0:Int)+i)) j l.1;show((List.range _).map λk:Nat=>(if j=(loH hs ((0:Int)+i)+k).toNat then(1:Int) else 0)).sum=_;rw[this];by_cases z:loH hs ((0:Int)+i)<=(0:Int)+j/\(0:Int)+j+1<=hiH hs ((0:Int)+i)
 .rw[av z,av ⋯]
 .rw[ao z,ao ⋯]
def bgR (hs:List Int)(f m:Nat):Nat->List (List Int)
 |0=>if 0<zf (xr hs) m f f then [[(0:Int)+f]] else []
 |t+1=>W4 (λv=>decide (0<zf (xr hs) (m-1-t) v.toNat f)) (λr=>xr hs (r.getLastD 0).toNat) (bgR hs f m t)
def xt (hs:List Int)(m:Nat):List (List Int):=(List.range (hs.length-1)).flatMap λf=>bgR hs f m (m-1)
def cvr (hs:List Int)(x y:Int):Prop:=loH hs x<=y/\y+1<=hiH hs x
theorem mem_cov {x:Int}:y∈yf hs x↔cvr hs x y:=by
 unfold yf cvr;constructor
 .intro h;obtain⟨j,hj,rfl⟩:=aS.mp h;have:=aw.mp hj;lia
 .intro h;exact aS.mpr ⟨(y-loH hs x).toNat,aw.mpr ⋯,⋯⟩
theorem qww {x:Int}(h:0<=x):xr hs x.toNat=yf hs x:=by unfold xr;rw[show(0:Int)+(x.toNat:Int)=x by lia]
theorem Zx (r:List Int)(x:Int):(r++[x]).getLastD 0=x:=by rw[iH,List.getLast?_append];rfl
variable {r:List Int}
theorem qv8 (h:r≠[]):r.getLastD 0=r.getD (r.length-1) 0:=by rw[iH,List.getLast?_eq_getElem?,af]
theorem mem_addR {c:Int->Bool}{vs x:List Int}:x∈Z5 c r vs↔∃v∈vs,c v=true/\x=r++[v]:=by
 unfold Z5;rw[aS];constructor
 .rintro⟨v,hv,rfl⟩;obtain⟨h1,h2⟩:=bz.mp hv;exact⟨v,h1,h2,rfl⟩
 .rintro⟨v,h1,h2,rfl⟩;exact⟨v,bz.mpr ⟨h1,h2⟩,rfl⟩
theorem mem_allR {c:Int->Bool}{g:List Int->List Int}{L:List (List Int)}{x:List Int}:x∈W4 c g L↔∃r∈L,∃v∈g r,c v=true/\x=r++[v]:=by
 unfold W4;rw[List.mem_flatMap];constructor
 .rintro⟨r,D,h⟩;exact⟨r,D,mem_addR.mp h⟩
 .rintro⟨r,D,h⟩;exact⟨r,D,mem_addR.mpr h⟩
def Beg (hs:List Int)(f m t:Nat)(r:List Int):Prop:=r.length=t+1/\r.getD 0 0=(0:Int)+f/\(∀x∈r,0<=x/\x<(hs.length:Int)-1)/\(∀i,i<t->cvr hs (r.getD i 0) (r.getD (i+1) 0))/\0<zf (xr hs) (m-t) (r.getLastD 0).toNat f
theorem Z9 {v:Int}(h:i<r.length):(r++[v]).getD i 0=r.getD i 0:=by rw[af,af,aT h]
theorem wu5 {v:Int}(h:i=r.length):(r++[v]).getD i 0=v:=by subst h;rw[af,aA (aj _),hU];rfl
variable {m:Nat}
theorem qx3 {f t:Nat}(h:Beg hs f m t r):r.getLastD 0=r.getD t 0/\0<=r.getLastD 0/\r.getLastD 0<(hs.length:Int)-1:=by
 obtain⟨l,_,g,_⟩:=h;have D:r≠[]:=λz=>by rw[z]at l;cases l
 have e:=qv8 D;rw[l,iw]at e;refine⟨e,?_⟩;rw[e,af,ae ⋯];exact g _ (bw _)
theorem W6 (ok:wu hs){f m:Nat}(hf:f<hs.length-1):∀t,∀r∈bgR hs f m t,Beg hs f m t r
 |0,r,hr=>by
  unfold bgR at hr;split at hr
  .next p =>
   obtain rfl:=aV.mp hr;refine⟨rfl,rfl,λx hx=>?_,λi hi=>absurd hi (fN _),?_⟩
   .rw[aV.mp hx];lia
   .show 0<zf (xr hs) m ((0:Int)+f).toNat f;rw[show((0:Int)+f).toNat=f by lia];exact p
  .cases hr
 |t+1,r,hr=>by
  obtain⟨q,hq,v,hv,hc,rfl⟩:=mem_allR.mp hr;have b:=W6 ok hf t q hq;obtain⟨e1,e2,e3⟩:=qx3 b;obtain⟨l,h0,g,ch,_⟩:=b;rw[qww e2]at hv;have cv:=mem_cov.mp hv;have vr:=Wh ok _ v hv;refine⟨by rw[ar,l];rfl,by rw[Z9 ⋯];exact h0,λx hx=>?_,λi hi=>?_,?_⟩
  .rcases aY.mp hx with z|z
   .exact g x z
   .rw[aV.mp z];lia
  .rcases(by lia:i<t\/i=t) with z|z
   .rw[Z9 ⋯,Z9 ⋯];exact ch i z
   .subst z;rw[Z9 ⋯,wu5 ⋯,<-e1];exact cv
  .rw[Zx,show m-(t+1)=m-1-t by lia];exact ca hc
theorem Q1 (cov:Nat->List Int):∀(m i j:Nat),0<=zf cov m i j
 |0,i,j=>by unfold zf;split <;> decide
 |m+1,i,j=>by
  show 0<=((cov i).map λv=>zf cov m v.toNat j).sum;generalize cov i=l
  induction l with
  |nil=>exact cL _
  |cons v l ih =>
   rw[aM,cH];have:=Q1 cov m v.toNat j;lia
theorem qyt {F:Int->Int}(h:∀v,0<=F v)(r:List Int):∀vs:List Int,((Z5 (λv=>decide (0<F v)) r vs).map λq=>F (q.getLastD 0)).sum=(vs.map F).sum
 |[]=>rfl
 |v::vs=>by
  have ih:=qyt h r vs;unfold Z5 at ih ⊢;rw[fA,aM,cH,<-ih];by_cases z:0<F v
  .rw[av (aR z),aM,aM,cH,Zx]
  .rw[ao (by simpa using z)];have:=h v;lia
theorem wwv {F:Int->Int}(h:∀v,0<=F v)(g:List Int->List Int):∀L:List (List Int),((W4 (λv=>decide (0<F v)) g L).map λq=>F (q.getLastD 0)).sum=(L.map λr=>((g r).map F).sum).sum
 |[]=>rfl
 |r::L=>by have ih:=wwv h g L;unfold W4 at ih ⊢;rw[List.flatMap_cons,bj,gU,ih,aM,cH,qyt h]
theorem wwr (hs:List Int)(f m:Nat):∀t,t<=m->((bgR hs f m t).map λr=>zf (xr hs) (m-t) (r.getLastD 0).toNat f).sum=zf (xr hs) m f f
 |0,_=>by
  have p:=Q1 (xr hs) m f f;unfold bgR;split
  .show zf (xr hs) m ((0:Int)+f).toNat f+0=_;rw[show((0:Int)+f).toNat=f by lia,Int.add_zero]
  .show(0:Int)=_;lia
 |t+1,h=>by have ih:=wwr hs f m t ⋯;rw[show m-t=(m-1-t)+1 by lia]at ih;rw[<-ih,show m-(t+1)=m-1-t by lia];exact wwv (F:=λv=>zf (xr hs) (m-1-t) v.toNat f) (λv=>Q1 _ _ _ _) (λr=>xr hs (r.getLastD 0).toNat) (bgR hs f m t)
theorem qxh {F:α->Int}:∀ {L:List α},(∀r∈L,1<=F r)->(L.length:Int)<=(L.map F).sum
 |[],_=>cL _
 |r::L,h=>by have ih:=qxh (L:=L) λr hr=>h r (.tail _ hr);have:=h r (.head _);rw[aM,cH,aJ];lia
theorem qzz {F:α->Int}:∀ {L:List α},(∀r∈L,F r=1)->(L.length:Int)=(L.map F).sum
 |[],_=>rfl
 |r::L,h=>by have ih:=qzz (L:=L) λr hr=>h r (.tail _ hr);have:=h r (.head _);rw[aM,cH,aJ];lia
theorem wyf (ok:wu hs){f m t:Nat}(hf:f<hs.length-1)(ht:t<=m):((bgR hs f m t).length:Int)<=zf (xr hs) m f f:=by rw[<-wwr hs f m t ht];exact qxh λr hr=>(W6 ok hf t r hr).2.2.2.2
theorem bg_len (ok:wu hs){f m:Nat}(hf:f<hs.length-1)(hm:1<=m):((bgR hs f m (m-1)).length:Int)=zf (xr hs) m f f:=by
 rw[<-wwr hs f m (m-1) ⋯];refine qzz λr D=>?_;have h:=(W6 ok hf _ r D).2.2.2.2;rw[show m-(m-1)=1 by lia]at h ⊢;rw[wvh ok]at h ⊢;unfold covT at h ⊢;split at h
 .next z=>rw[av z]
 .next z=>exact absurd h (jY 0)
theorem qw9 (F:Nat->List α)(n:Nat):((((List.range n).flatMap F).length:Nat):Int)=kf n λk=>((F k).length:Int):=by
 induction n with
 |zero=>rfl
 |succ n ih =>
  rw[vg,<-ih,cG,g9,ar];simp
theorem wk7 (ok:wu hs){m:Nat}(hm:1<=m):((xt hs m).length:Int)=kf (hs.length-1) λf=>zf (xr hs) m f f:=by unfold xt;rw[qw9];exact ut λf hf=>bg_len ok hf hm
def wq5 (L:List (List Int)):Prop:=L.Pairwise λa b=>vf a b=true
def ClR (hs:List Int)(m:Nat)(r:List Int):Prop:=r.length=m/\(∀x∈r,0<=x/\x<(hs.length:Int)-1)/\(∀i,i+1<m->cvr hs (r.getD i 0) (r.getD (i+1) 0))/\cvr hs (r.getD (m-1) 0) (r.getD 0 0)
theorem wqc {c:Nat->Int}(hc:∀t,t<m->c (t+1)∈xr hs (c t).toNat):∀d t,t+d=m->0<zf (xr hs) d (c t).toNat (c m).toNat
 |0,t,e=>by
  obtain rfl:t=m:=by lia
  unfold zf;rw[av rfl];decide
 |d+1,t,e=>by
  have F:=wqc hc d (t+1) ⋯;have D:=hc t ⋯;show 0<((xr hs (c t).toNat).map λv=>zf (xr hs) d v.toNat (c m).toNat).sum;generalize xr hs (c t).toNat=l at D
  induction l with
  |nil=>cases D
  |cons v l ihl =>
   rw[aM,cH];rcases aQ.mp D with z|z
   .rw[<-z];have:0<=(l.map λv=>zf (xr hs) d v.toNat (c m).toNat).sum:=by
     clear ihl D
     induction l with
     |nil=>exact cL _
     |cons w l ih2=>rw[aM,cH];have:=Q1 (xr hs) d w.toNat (c m).toNat;lia
    lia
   .have:=ihl z;have:=Q1 (xr hs) d v.toNat (c m).toNat;lia
theorem ku (ok:wu hs){m:Nat}(hm:1<=m){r:List Int}:r∈xt hs m↔ClR hs m r:=by
 unfold xt;rw[List.mem_flatMap];constructor
 .rintro⟨f,L,Z⟩;have L:=aw.mp L;have b:=W6 ok L _ r Z;obtain⟨e1,e2,e3⟩:=qx3 b;obtain⟨l,h0,g,ch,p⟩:=b;refine⟨⋯,g,λi hi=>ch i ⋯,?_⟩;rw[show m-(m-1)=1 by lia,wvh ok]at p;unfold covT at p;split at p
  .next z =>
   rw[show(0:Int)+((r.getLastD 0).toNat:Int)=r.getLastD 0 by lia]at z;rw[<-e1,h0];exact z
  .exact absurd p (jY 0)
 .rintro⟨l,g,ch,cl⟩;have F:∀i,i<m->0<=r.getD i 0/\r.getD i 0<(hs.length:Int)-1:=λi hi=>by rw[af,ae ⋯];exact g _ (bw _)
  have r0:=F 0 ⋯;have hc:∀t,t<m->(if t+1=m then r.getD 0 0 else r.getD (t+1) 0)∈xr hs ((if t=m then r.getD 0 0 else r.getD t 0)).toNat:=λt D=>by
   rw[ao ⋯,qww (F t D).1];split
   .next z =>
    obtain rfl:t=m-1:=by lia
    exact mem_cov.mpr cl
   .next z=>exact mem_cov.mpr (ch t ⋯)
  have U:∀t,t<m->0<zf (xr hs) (m-t) (r.getD t 0).toNat (r.getD 0 0).toNat:=λt D=>by have:=wqc (c:=λt=>if t=m then r.getD 0 0 else r.getD t 0) hc (m-t) t ⋯;rw[ao (show ¬ t=m by lia),av rfl]at this;exact this
  have W:∀t,t<m->r.take (t+1)∈bgR hs (r.getD 0 0).toNat m t:=λt=>by
   induction t with
   |zero =>
    intro _;have p:=U 0 ⋯;unfold bgR;rw[Nat.sub_zero]at p;rw[av p,show(0:Int)+((r.getD 0 0).toNat:Int)=r.getD 0 0 by lia]
    match r,l with
    |[],l=>simp at l;lia
    |x::r,_=>exact .head _
   |succ t J =>
    intro D;have J:=J ⋯;have et:r.take (t+1+1)=r.take (t+1)++[r.getD (t+1) 0]:=by rw[dH,ae ⋯,af,ae ⋯];rfl
    have el:(r.take (t+1)).getLastD 0=r.getD t 0:=by rw[qv8 (λz=>by have:=cK List.length z;rw[bg,df]at this;lia),bg,jL ⋯,iw,af,dW,av ⋯,af]
    rw[et];refine mem_allR.mpr ⟨r.take (t+1),J,r.getD (t+1) 0,?_,aR ?_,rfl⟩
    .rw[el,qww (F t ⋯).1];exact mem_cov.mpr (ch t ⋯)
    .rw[show m-1-t=m-(t+1) by lia];exact U (t+1) D
  refine⟨(r.getD 0 0).toNat,aw.mpr ⋯,?_⟩;have:=W (m-1) ⋯;rw[show m-1+1=r.length by lia,bD]at this;exact this
def Byd (e B v:Int):Prop:=(0<v/\v<=e-B)\/(v<0/\e<=v)
variable {B:Int}
theorem xq7 {h a x t v:Int}(hB:1<=B)(up:a>0->h<=y/\y+1<=h+a)(dn:a<0->h+a<=y/\y+1<=h)(nz:a≠0)(b:Byd (t-x*B) B v):Byd (h*B+a*(t-x*B)-y*B) B (a*v):=by
 generalize t-x*B=e at b ⊢;rcases(by lia:a>0\/a<0) with z|z
 .obtain⟨u1,u2⟩:=up z;rcases b with⟨F,D⟩|⟨F,D⟩
  .refine .inl ⟨Int.mul_pos z F,?_⟩;have L:a*v<=a*(e-B):=bf D ⋯;have J:(y+1)*B<=(h+a)*B:=aK u2 ⋯;rw[jS]at L;rw[bG,bG,bC]at J;lia
  .refine .inr ⟨iI z F,?_⟩;have L:a*e<=a*v:=bf D ⋯;have J:h*B<=y*B:=aK u1 ⋯;lia
 .obtain⟨u1,u2⟩:=dn z;rcases b with⟨F,D⟩|⟨F,D⟩
  .refine .inr ⟨Int.mul_neg_of_neg_of_pos z F,?_⟩;have L:a*(e-B)<=a*v:=eM ⋯ D;have J:(h+a)*B<=y*B:=aK u1 ⋯;rw[jS]at L;rw[bG]at J;lia
  .refine .inl ⟨iK z F,?_⟩;have L:a*v<=a*e:=eM ⋯ D;have J:(y+1)*B<=h*B:=aK u2 ⋯;rw[bG,bC]at J;lia
def yn (a:Nat->Int)(i:Nat):Nat->Int
 |0=>1
 |k+1=>yn a i k*a (i+k)
variable {h:Nat->Int}
theorem qkn {c t a:Nat->Int}(hB:1<=B)(st:∀i,i<n->t (i+1)=h i*B+a i*(t i-c i*B))(up:∀i,i<n->a i>0->h i<=c (i+1)/\c (i+1)+1<=h i+a i)(dn:∀i,i<n->a i<0->h i+a i<=c (i+1)/\c (i+1)+1<=h i)(nz:∀i,i<n->a i≠0)
  {i:Nat} {v:Int} (b:Byd (t i-c i*B) B v):∀k,i+k<=n->Byd (t (i+k)-c (i+k)*B) B (v*yn a i k)
 |0,_=>by rw[show v*yn a i 0=v from Int.mul_one v];exact b
 |k+1,hk=>by
  have ih:=qkn hB st up dn nz b k ⋯;have s:=xq7 hB (up (i+k) ⋯) (dn (i+k) ⋯) (nz (i+k) ⋯) ih;rw[show h (i+k)*B+a (i+k)*(t (i+k)-c (i+k)*B)=t (i+k+1) from (st (i+k) ⋯).symm]at s;have e:v*yn a i (k+1)=a (i+k)*(v*yn a i k):=by show v*(yn a i k*a (i+k))=_;rw[<-jV,eP]
  rw[e];exact s
theorem xx8 {c t a:Nat->Int}(hB:1<=B)(st:∀i,i<n->t (i+1)=h i*B+a i*(t i-c i*B))(up:∀i,i<n->a i>0->h i<=c (i+1)/\c (i+1)+1<=h i+a i)(dn:∀i,i<n->a i<0->h i+a i<=c (i+1)/\c (i+1)+1<=h i)(nz:∀i,i<n->a i≠0)
  (et:t n=t 0) (ec:c n=c 0) (ns:yn a 0 n≠1) (ns0:yn a 0 n≠0):∀i,i<=n->0<=t i-c i*B/\t i-c i*B<=B:=by
 have Z:∀v,¬ Byd (t 0-c 0*B) B v:=λv b=>by
  have D:∀v,Byd (t 0-c 0*B) B v->Byd (t 0-c 0*B) B (v*yn a 0 n):=λv b=>by have r:=qkn hB st up dn nz b n ⋯;rw[cJ,et,ec]at r;exact r
  generalize t 0-c 0*B=e at b D;generalize yn a 0 n=s at ns ns0 D;rcases b with⟨W,U⟩|⟨W,U⟩
  .rcases D (e-B) (.inl ⟨⋯,⋯⟩) with⟨J,F⟩|⟨J,F⟩
   .have s0:0<s:=by
     rcases(by lia:0<s\/s<0) with q|q
     .exact q
     .have:=iI (show 0<e-B by lia) q;lia
    have:(e-B)*2<=(e-B)*s:=bf ⋯ ⋯;lia
   .lia
  .rcases D e (.inr ⟨⋯,⋯⟩) with⟨J,F⟩|⟨J,F⟩
   .lia
   .have s0:0<s:=by
     rcases(by lia:0<s\/s<0) with q|q
     .exact q
     .have:=iK (show e<0 by lia) q;lia
    have:e*s<=e*2:=eM ⋯ ⋯;lia
 intro i hi;have L:∀v,¬ Byd (t i-c i*B) B v:=λv b=>by have r:=qkn hB st up dn nz b (n-i) ⋯;rw[show i+(n-i)=n by lia,et,ec]at r;exact Z _ r
 constructor
 .rcases cZ (t i-c i*B) 0 with z|z
  .exact absurd (.inr ⟨z,cL _⟩) (L (t i-c i*B))
  .exact z
 .rcases cZ B (t i-c i*B) with z|z
  .exact absurd (.inl ⟨⋯,cL _⟩) (L (t i-c i*B-B))
  .exact z
def wx (xs:List Int)(i:Nat):Int:=xs.getD (i%xs.length) 0
def Qg (hs xs:List Int)(T B:Int)(i:Nat):Int:=(wg hs (xs.take i)).1*T+(wg hs (xs.take i)).2*B
theorem kn (h:i<xs.length):xs[i]?=some (wx xs i):=by unfold wx;rw[fk h,af,ae h];rfl
theorem uf (h:i<xs.length):(qvw xs)[i]?=some (wx xs (i+1)):=by
 rcases(by lia:i+1<xs.length\/i+1=xs.length) with z|z
 .rw[wvf z];exact kn z
 .rw[wz4 z];unfold wx;rw[z,Nat.mod_self,af,ae ⋯];rfl
theorem uq (hs xs:List Int)(T B:Int):Qg hs xs T B 0=T:=by unfold Qg;rw[iD];show(1:Int)*T+(0:Int)*B=T;lia
theorem Wu {T:Int}(h:i<xs.length):Qg hs xs T B (i+1)=hAt hs (wx xs i)*B+(hAt hs (wx xs i+1)-hAt hs (wx xs i))*(Qg hs xs T B i-wx xs i*B):=by unfold Qg;rw[yq hs (kn h)];unfold qu8;dsimp only;generalize (wg hs (xs.take i)).1=p;generalize (wg hs (xs.take i)).2=q;generalize hAt hs (wx xs i)=u;generalize hAt hs (wx xs i+1)=v;generalize wx xs i=x;grind
theorem qx0:∀k:Nat,k<=xs.length->yn (λi=>hAt hs (wx xs i+1)-hAt hs (wx xs i)) 0 k=(wg hs (xs.take k)).1
 |0,_=>by rw[iD];rfl
 |k+1,h=>by rw[yq hs (kn (show k<xs.length by lia))];show yn _ 0 k*(hAt hs (wx xs (0+k)+1)-hAt hs (wx xs (0+k)))=(wg hs (xs.take k)).1*(hAt hs (wx xs k+1)-hAt hs (wx xs k));rw[qx0 k ⋯,cJ]
theorem row_in (c:y6 hs xs){T B:Int}(hB:1<=B)(ns:(wg hs xs).1≠1)(fx:(wg hs xs).1*T+(wg hs xs).2*B=T){i:Nat}(hi:i<xs.length) :
  wx xs i*B<=Qg hs xs T B i/\Qg hs xs T B i<=(wx xs i+1)*B:=by
 have F:∀j,j<xs.length->covR hs (wx xs j) (wx xs (j+1)):=λj D=>c.2 j _ _ (kn D) (uf D);have J:∀j,j<xs.length->hAt hs (wx xs j+1)-hAt hs (wx xs j)≠0:=λj D=>by have:=(F j D).2;unfold loH hiH Qt Q3 at this;split at this <;> split at this <;> lia
 have ep:yn (λi=>hAt hs (wx xs i+1)-hAt hs (wx xs i)) 0 xs.length=(wg hs xs).1:=by rw[qx0 _ (aj _),bD]
 have L:∀k,k<=xs.length->yn (λi=>hAt hs (wx xs i+1)-hAt hs (wx xs i)) 0 k≠0:=λk=>by
  induction k with
  |zero=>intro _ z;cases z
  |succ k ih =>
   intro U z;rcases Int.mul_eq_zero.mp z with z|z
   .exact ih ⋯ z
   .rw[cJ]at z;exact J k ⋯ z
 have r:=xx8 (n:=xs.length) (B:=B) (c:=wx xs) (t:=Qg hs xs T B) (h:=λi=>hAt hs (wx xs i)) (a:=λi=>hAt hs (wx xs i+1)-hAt hs (wx xs i)) hB (λj D=>Wu D)
  (λj D z=>by
   have:=(F j D).2
   have z:hAt hs (wx xs j+1)-hAt hs (wx xs j)>0:=z
   unfold loH hiH Qt Q3 at this
   show hAt hs (wx xs j)<=wx xs (j+1)/\wx xs (j+1)+1<=hAt hs (wx xs j)+(hAt hs (wx xs j+1)-hAt hs (wx xs j))
   split at this <;> split at this <;> lia)
  (λj D z=>by
   have:=(F j D).2
   have z:hAt hs (wx xs j+1)-hAt hs (wx xs j)<0:=z
   unfold loH hiH Qt Q3 at this
   show hAt hs (wx xs j)+(hAt hs (wx xs j+1)-hAt hs (wx xs j))<=wx xs (j+1)/\wx xs (j+1)+1<=hAt hs (wx xs j)
   split at this <;> split at this <;> lia)
  J (by rw[uq];unfold Qg;rw[bD];exact fx) (by unfold wx;rw[Nat.mod_self,Nat.zero_mod]) (by rw[ep];exact ns) (L _ (aj _)) i (br hi)
 rw[bG,bC];lia
theorem j7 {t:Int}(hb:1<=b)(g:gOf t b=1):wc t b=(t,b):=by unfold wc;rw[g,jD,jD]
theorem j5 (m1:1<=m)(m2:m<=12)(c:ClR hs m r):y6 hs r:=by
 obtain⟨Z,U,W,J⟩:=c;refine⟨⟨⋯,⋯⟩,λi x y ex D=>?_⟩;have hi:=(ak.mp ex).1;have L:r.getD i 0=x:=by rw[af,ex];rfl
 refine⟨U x (aC ex),?_⟩;by_cases z:i+1<r.length
 .rw[wvf z]at D;have F:r.getD (i+1) 0=y:=by rw[af,D];rfl
  have:=W i ⋯;rw[L,F]at this;exact this
 .rw[wz4 ⋯]at D;have F:r.getD 0 0=y:=by rw[af,D];rfl
  rw[show m-1=i by lia,L,F]at J;exact J
theorem W8 (xs:List Int):wx xs 0=xs.getD 0 0:=by unfold wx;rw[Nat.zero_mod]
theorem wjr (xs:List Int):wx xs xs.length=wx xs 0:=by unfold wx;rw[Nat.mod_self,Nat.zero_mod]
theorem Z3 (hs xs:List Int)(T B:Int):Qg hs xs T B xs.length=(wg hs xs).1*T+(wg hs xs).2*B:=by unfold Qg;rw[bD]
theorem ww6 {T:Int}(hB:1<=B)(hx:∀i,i<xs.length->0<=wx xs i/\wx xs i<(hs.length:Int)-1)(hin:∀i,i<xs.length->wx xs i*B<=Qg hs xs T B i/\Qg hs xs T B i<=(wx xs i+1)*B):∀i,i<=xs.length->trT hs T B i=Qg hs xs T B i
 |0,_=>(uq hs xs T B).symm
 |i+1,hi=>by have ih:=ww6 hB hx hin i ⋯;obtain⟨x0,x1⟩:=hx i ⋯;obtain⟨l1,l2⟩:=hin i ⋯;show vv hs (trT hs T B i) B=_;rw[ih,j4 x0 x1 hB l1 l2,Wu ⋯]
theorem qjz (c:y6 hs xs):∀i,i<xs.length->0<=wx xs i/\wx xs i<(hs.length:Int)-1:=λi hi=>wk6 c _ (aC (kn hi))
def Qf (p:Int×Int):Int×Int:=if p.1>1 then wc (-p.2) (p.1-1) else wc p.2 (1-p.1)
theorem wys (h:p.1≠1):1<=(Qf p).2/\gOf (Qf p).1 (Qf p).2=1/\p.1*(Qf p).1+p.2*(Qf p).2=(Qf p).1:=by
 unfold Qf;by_cases z:p.1>1
 .rw[av z];have c:=jr (t:=-p.2) (b:=p.1-1) ⋯;exact⟨vt ⋯,Ju ⋯,by grind⟩
 .rw[ao z];have c:=jr (t:=p.2) (b:=1-p.1) ⋯;exact⟨vt ⋯,Ju ⋯,by grind⟩
theorem wuq {t:Int}(h:p.1≠1)(hb:1<=b)(g:gOf t b=1)(e:p.1*t+p.2*b=t):Qf p=(t,b):=by
 unfold Qf;by_cases z:p.1>1
 .rw[av z,<-j7 hb g];exact(Q9 ⋯ hb).mp (by grind)
 .rw[ao z,<-j7 hb g];exact(Q9 ⋯ hb).mp (by grind)
theorem wqk (c:y6 hs xs)(ns:(wg hs xs).1≠1):zj hs (Qf (wg hs xs)).1 (Qf (wg hs xs)).2/\trT hs (Qf (wg hs xs)).1 (Qf (wg hs xs)).2 xs.length=(Qf (wg hs xs)).1:=by
 obtain⟨L,_,U⟩:=wys ns;have J:=λi hi=>row_in c L ns U (i:=i) hi;constructor
 .obtain⟨F,D⟩:=J 0 (by have:=c.1.1;lia);obtain⟨W,Z⟩:=qjz c 0 (by have:=c.1.1;lia);rw[uq]at F D;exact⟨eA (dw W ⋯) F,eA D (aK ⋯ ⋯)⟩
 .rw[ww6 L (qjz c) J _ (aj _),Z3];exact U
theorem qw8 (c:y6 hs xs)(a1:(wg hs xs).1=1):∀i,i<xs.length->(hAt hs (wx xs i+1)-hAt hs (wx xs i)).natAbs=1:=by
 have W:∀j,j<xs.length->covR hs (wx xs j) (wx xs (j+1)):=λj D=>c.2 j _ _ (kn D) (uf D);have J:∀j,j<xs.length->1<=(hAt hs (wx xs j+1)-hAt hs (wx xs j)).natAbs:=λj D=>by have:=(W j D).2;unfold loH hiH Qt Q3 at this;split at this <;> split at this <;> lia
 have st:∀j,j<xs.length->(wg hs (xs.take (j+1))).1.natAbs=(wg hs (xs.take j)).1.natAbs*(hAt hs (wx xs j+1)-hAt hs (wx xs j)).natAbs:=λj D=>by rw[yq hs (kn D)];unfold qu8;dsimp only;rw[gf]
 have U:∀j,j<=xs.length->1<=(wg hs (xs.take j)).1.natAbs:=λj=>by
  induction j with
  |zero=>intro _;rw[iD];show 1<=(1:Int).natAbs;decide
  |succ j ih =>
   intro D;rw[st j ⋯];exact Nat.mul_le_mul (ih ⋯) (J j ⋯)
 have L:∀d j,j+d=xs.length->(wg hs (xs.take j)).1.natAbs<=(wg hs (xs.take xs.length)).1.natAbs:=λd=>by
  induction d with
  |zero=>intro j e;rw[show j=xs.length by lia];exact aj _
  |succ d ih =>
   intro j e;refine bK ?_ (ih (j+1) ⋯);rw[st j ⋯];exact jA _ (J j ⋯)
 have F:∀j,j<=xs.length->(wg hs (xs.take j)).1.natAbs=1:=λj D=>by have h1:=U j D;have h2:=L (xs.length-j) j ⋯;rw[bD,a1]at h2;have:(1:Int).natAbs=1:=rfl;lia
 intro i hi;have:=st i hi;rw[F i ⋯,F (i+1) ⋯]at this;lia
theorem qw2 {j:Int}(c:covR hs k j)(o:(hAt hs (k+1)-hAt hs k).natAbs=1):(hAt hs k=j/\hAt hs (k+1)=j+1)\/(hAt hs k=j+1/\hAt hs (k+1)=j):=by have:=c.2;unfold loH hiH Qt Q3 at this;split at this <;> split at this <;> lia
theorem Zs (c:y6 hs xs)(a1:(wg hs xs).1=1){t b:Int}(hb:1<=b)(h1:wx xs 0*b<=t)(h2:t<=(wx xs 0+1)*b):∀i,i<=xs.length->wx xs i*b<=Qg hs xs t b i/\Qg hs xs t b i<=(wx xs i+1)*b
 |0,_=>by rw[uq];exact⟨h1,h2⟩
 |i+1,hi=>by
  obtain⟨l1,l2⟩:=Zs c a1 hb h1 h2 i ⋯;have cv:=c.2 i _ _ (kn (show i<xs.length by lia)) (uf (show i<xs.length by lia));have o:=qw8 c a1 i ⋯;rw[Wu (show i<xs.length by lia)];generalize Qg hs xs t b i=u at l1 l2;rcases qw2 cv o with⟨e1,e2⟩|⟨e1,e2⟩
  .rw[e1,e2];generalize wx xs (i+1)=y;generalize wx xs i=x at l1 l2;have e:y*b+(y+1-y)*(u-x*b)=y*b+(u-x*b):=by rw[show y+1-y=(1:Int) by lia,bC]
   rw[e,bG,bC];rw[bG,bC]at l2;lia
  .rw[e1,e2];generalize wx xs (i+1)=y;generalize wx xs i=x at l1 l2;have e:(y+1)*b+(y-(y+1))*(u-x*b)=y*b+b-(u-x*b):=by rw[show y-(y+1)=(-1:Int) by lia,bG,bC];lia
   rw[e,bG,bC];rw[bG,bC]at l2;lia
theorem qzk (c:y6 hs xs)(a1:(wg hs xs).1=1){t b:Int}(hb:1<=b)(h1:wx xs 0*b<=t)(h2:t<=(wx xs 0+1)*b):trT hs t b xs.length=t:=by
 have D:=Zs c a1 hb h1 h2;have z:(wg hs xs).2=0:=by have p:=Zs c a1 (t:=wx xs 0) (b:=1) ⋯ ⋯ ⋯ xs.length (aj _);have q:=Zs c a1 (t:=wx xs 0+1) (b:=1) ⋯ ⋯ ⋯ xs.length (aj _);rw[Z3,wjr,a1]at p q;lia
 rw[ww6 hb (qjz c) (λi hi=>D i ⋯) _ (aj _),Z3,a1,z];lia
theorem wuv {t:Int}(h:b∣t):b∣vv hs t b:=by unfold vv;exact Int.dvd_add (jB _ _) (Int.dvd_trans (Int.dvd_sub h (jB _ _)) (jB _ _))
theorem xw1 {t:Int}(h:b∣trT hs t b i):∀d,b∣trT hs t b (i+d)
 |0=>h
 |d+1=>wuv (xw1 h d)
theorem xwu (ok:wu hs){t b:Int}{m:Nat}(m1:1<=m)(m2:m<=12)(hb:1<=b)(on:zj hs t b)(nd:¬ b∣t)(bk:trT hs t b m=t) :
  ∃r,ClR hs m r/\(wg hs r).1*t+(wg hs r).2*b=t/\r.getD 0 0*b<t/\t<(r.getD 0 0+1)*b:=by
 have n0:∀i,i<=m->¬ b∣trT hs t b i:=λi hi z=>by have:=xw1 z (m-i);rw[show i+(m-i)=m by lia,bk]at this;exact nd this
 let s:Nat->Int:=λi=>trT hs t b i/b;have F:∀i,i<=m->s i*b<trT hs t b i/\trT hs t b i<(s i+1)*b:=λi hi=>by have e:=Int.mul_ediv_add_emod (trT hs t b i) b;have e0:=cQ (trT hs t b i) (show b≠0 by lia);have e1:=cu (trT hs t b i) (show 0<b by lia);have e2:trT hs t b i%b≠0:=λz=>n0 i hi (Int.dvd_of_emod_eq_zero z);have cm:b*(trT hs t b i/b)=s i*b:=eP _ _;rw[cm]at e;rw[bG,bC];lia
 have sr:∀i,i<=m->0<=s i/\s i<(hs.length:Int)-1:=λi hi=>by
  obtain⟨o1,o2⟩:=wxf ok hb on i;obtain⟨l1,l2⟩:=F i hi;constructor
  .exact Int.ediv_nonneg o1 ⋯
  .by_cases z:s i<(hs.length:Int)-1
   .exact z
   .have:=aK (show(hs.length:Int)-1<=s i by lia) (show 0<=b by lia);lia
 have cv:∀i,i<m->cvr hs (s i) (s (i+1)):=λi hi=>by
  obtain⟨Z,W⟩:=sr i ⋯;obtain⟨l1,l2⟩:=F i ⋯;obtain⟨J,y2⟩:=F (i+1) ⋯;have e:trT hs t b (i+1)=hAt hs (s i)*b+(hAt hs (s i+1)-hAt hs (s i))*(trT hs t b i-s i*b):=by show vv hs (trT hs t b i) b=_;exact j4 Z W hb ⋯ ⋯
  rw[e]at J y2;rw[bG,bC]at l2 y2;generalize hx:trT hs t b i-s i*b=x at J y2;have xp:0<x:=by lia
  have xb:x<b:=by lia
  generalize s (i+1)=y at J y2;unfold cvr loH hiH;generalize hAt hs (s i)=p at J y2;generalize hAt hs (s i+1)=q at J y2;have ab:∀p q:Int,p<=q->p*b<=p*b+(q-p)*x/\p*b+(q-p)*x<=q*b:=λp q h=>by have a1:0<=(q-p)*x:=dw ⋯ ⋯;have a2:(q-p)*x<=(q-p)*b:=bf ⋯ ⋯;have a3:(q-p)*b=q*b-p*b:=iT _ _ _;lia
  have L:∀u v:Int,u*b<v*b->u<v:=λu v h=>Int.lt_of_mul_lt_mul_right h ⋯;rcases Int.le_total p q with h|h
  .obtain⟨k1,k2⟩:=ab p q h;have m1:Qt p q=p:=by unfold Qt;split <;> lia
   have m2:Q3 p q=q:=by unfold Q3;split <;> lia
   rw[m1,m2];have g1:p<y+1:=L _ _ (by rw[bG,bC];lia);have g2:y<q:=L _ _ ⋯;lia
  .obtain⟨k1,k2⟩:=ab q p h;have m1:Qt p q=q:=by unfold Qt;split <;> lia
   have m2:Q3 p q=p:=by unfold Q3;split <;> lia
   rw[m1,m2];have ey:p*b+(q-p)*x=q*b+(p-q)*(b-x):=by rw[iT,iT,jS,jS];lia
   have a1:0<=(p-q)*(b-x):=dw ⋯ ⋯;have a2:(p-q)*(b-x)<=(p-q)*b:=bf ⋯ ⋯;have a3:(p-q)*b=p*b-q*b:=iT _ _ _;have g1:q<y+1:=L _ _ (by rw[bG,bC];lia);have g2:y<p:=L _ _ ⋯;lia
 have sm:s m=s 0:=by show trT hs t b m/b=t/b;rw[bk]
 have D:∀i,i<m->((List.range m).map s).getD i 0=s i:=λi hi=>by rw[af,ax,bA hi];rfl
 have U:((List.range m).map s).length=m:=by simp
 have c:ClR hs m ((List.range m).map s):=by
  refine⟨U,λx hx=>?_,λi hi=>?_,?_⟩
  .obtain⟨i,hi,rfl⟩:=aS.mp hx;exact sr i (br (aw.mp hi))
  .rw[D i ⋯,D (i+1) hi];exact cv i ⋯
  .rw[D (m-1) ⋯,D 0 ⋯,<-sm];have:=cv (m-1) ⋯;rwa [show m-1+1=m by lia]at this
 have cl:=j5 m1 m2 c;have ce:∀i,i<m->wx ((List.range m).map s) i=s i:=λi hi=>by unfold wx;rw[U,fk hi,D i hi]
 refine⟨_,c,?_,?_,?_⟩
 .have tt:∀i,i<=m->trT hs t b i=Qg hs ((List.range m).map s) t b i:=λi=>by
   induction i with
   |zero=>intro _;exact(uq _ _ _ _).symm
   |succ i ih =>
    intro hi;have ih:=ih ⋯;obtain⟨Z,W⟩:=sr i ⋯;obtain⟨l1,l2⟩:=F i ⋯;show vv hs (trT hs t b i) b=_;rw[j4 Z W hb ⋯ ⋯,Wu (by rw[U];lia),ce i ⋯,ih]
  have:=tt m (aj _);rw[bk]at this;have tl:=Z3 hs ((List.range m).map s) t b;rw[U]at tl;rw[<-tl];exact this.symm
 .rw[D 0 ⋯];exact(F 0 ⋯).1
 .rw[D 0 ⋯];exact(F 0 ⋯).2
def Qn (hs:List Int)(m:Nat)(p:Int×Int):Prop:=(∃r∈xt hs m,(wg hs r).1≠1/\p=Qf (wg hs r))\/(p.2=1/\0<=p.1/\p.1<=(hs.length:Int)-1/\trT hs p.1 1 m=p.1)
def yh (hs:List Int)(m:Nat)(k:Int):Prop:=∃r∈xt hs m,(wg hs r).1=1/\r.getD 0 0=k
theorem Zr (ok:wu hs){m:Nat}(m1:1<=m)(m2:m<=12){p:Int×Int}(hb:1<=p.2)(g:gOf p.1 p.2=1)(on:zj hs p.1 p.2):trT hs p.1 p.2 m=p.1↔(Qn hs m p\/∃k,yh hs m k/\k*p.2<=p.1/\p.1<=(k+1)*p.2):=by
 constructor
 .intro J;by_cases nd:p.2∣p.1
  .have F:p.2=1:=by have:=j7 hb g;have W:=qq6 (t:=p.1/p.2) (b:=1) (c:=p.2) ⋯ hb;rw[Int.ediv_mul_cancel nd,bC]at W;rw[this]at W;have h2:=cK Prod.snd W;have Z:=Zw (t:=p.1/p.2) (b:=1) ⋯;have h2:p.2=(wc (p.1/p.2) 1).2:=h2;lia
   refine .inl (.inr ⟨F,on.1,?_,by rw[F]at J;exact J⟩);have:=on.2;rw[F]at this;lia
  .obtain⟨r,c,e,U,L⟩:=xwu ok m1 m2 hb on nd J;have D:=(ku ok m1).mpr c;by_cases z:(wg hs r).1=1
   .exact .inr ⟨_,⟨r,D,z,rfl⟩,gh U,gh L⟩
   .exact .inl (.inl ⟨r,D,z,(wuq z hb g e).symm⟩)
 .rintro ((⟨r,D,z,rfl⟩|⟨F,_,_,J⟩)|⟨k,⟨r,D,z,rfl⟩,U,L⟩)
  .have c:=(ku ok m1).mp D;have:=(wqk (j5 m1 m2 c) z).2;rwa [c.1]at this
  .rw[F];exact J
  .have c:=(ku ok m1).mp D;have:=qzk (j5 m1 m2 c) z hb (by rw[W8];exact U) (by rw[W8];exact L);rwa [c.1]at this
theorem Z2 (ok:wu hs){m:Nat}(m1:1<=m)(m2:m<=12){p:Int×Int}(h:Qn hs m p):1<=p.2/\gOf p.1 p.2=1/\zj hs p.1 p.2:=by
 rcases h with⟨r,F,z,rfl⟩|⟨D,J,h1,_⟩
 .have c:=(ku ok m1).mp F;obtain⟨a,b,_⟩:=wys z;exact⟨a,b,(wqk (j5 m1 m2 c) z).1⟩
 .refine⟨⋯,?_,J,by rw[D];lia⟩;rw[D];have:=Zw (t:=p.1) (b:=1) ⋯;have:=vt (t:=p.1) (b:=1) ⋯;have e:=qqq (t:=p.1) (b:=1) ⋯;have:(1:Int)/gOf p.1 1=1:=by show(wc p.1 1).2=1;lia
  rw[this]at e;lia
def u7 (hs:List Int):Nat->Int->Int
 |0,_=>1
 |t+1,k=>((yf hs k).map (u7 hs t)).sum
def crS (hs:List Int)(t:Nat):Int:=(zr (hs.length-1) λk=>u7 hs t k).sum
theorem Wq (n:Nat)(g:Nat->Int):(zr n g).length=n:=by unfold zr;rw[ag,aH]
theorem Yg (n:Nat)(g:Nat->Int):zr (n+1) g=zr n g++[g n]:=by unfold zr;rw[cG,bj];rfl
theorem wzs {g:Nat->Int}{x:Int}(h0:0<=x)(h1:x<n):atI ((zr n g).map V.int) x=some (V.int (g x.toNat)):=by
 have e:((zr n g).map V.int)[x.toNat]?=some (V.int (g x.toNat)):=by unfold zr;rw[ax,ax,bA ⋯];rfl
 have:=jz e;rwa [show((x.toNat:Nat):Int)=x by lia]at this
theorem xzj (ok:wu hs){t:Nat}(k:Int):qu6 ((zr (hs.length-1) λk=>u7 hs t k).map V.int) (some (loH hs k)) (some (hiH hs k))=((yf hs k).map (u7 hs t)).map V.int:=by
 obtain⟨F,D,J⟩:=lohi ok k;have U:=ok.1;unfold qu6 yf;generalize loH hs k=lo at F D;generalize hiH hs k=hi at D J;obtain⟨a,rfl⟩:=fX F;obtain⟨b,rfl⟩:=fX (eA F D);have L:((zr (hs.length-1) λk=>u7 hs t k).map V.int).length=hs.length-1:=by rw[ag,Wq]
 rw[L,HT.sIx_nat,HT.sIx_nat,jL ⋯,jL ⋯,bF,bF];refine bT λi=>?_;rw[dW];rcases bp i (b-a) with z|z
 .rw[av z,dr,ax,ax,bA ⋯];unfold zr;rw[ax,bA ⋯];show some (V.int (u7 hs t ((a+i:Nat):Int)))=some (V.int (u7 hs t ((a:Int)+(i:Int))));rw[Int.natCast_add]
 .rw[ao ⋯,ax,aO (by rw[aH];lia)];rfl
def qws (K:Aa):Sp:=λvs H Q _=>∃(p:Aj) (hs:List Int) (m:Int),vs=[.ref p,.int m]/\SqL K H p (hs.map V.int)/\wu hs/\1<=m/\m<=12/\∀q H',Same H H'->H' q=some (.lst ((zr m.toNat λi=>crS hs (i+1)).map V.int))->Q (.ref q) H'
include T in
theorem wjy (F:Fun K "_law_crowds" "_law_crowds" zbp f fd):FK P w K mg base 1 f fd ["_law_heights_here","_law_most"] (qws K):=by
 have sc:=qwn;refine F.okX sc (λvs H Q E h=>by obtain⟨_,_,_,rfl,_⟩:=h;rfl) λ_ _ _ _ H vs Q E hr h=>?_;obtain⟨p,hs,m,rfl,hS,Z,m1,m2,k⟩:=h;have o1:=Z.1;have o2:=Z.2.1;have ap:(1000000:Nat)<sizeLine:=by decide
 have ad:(hs.map V.int).length=hs.length:=ag _;refine⟨_,(qj (xq (i:=2) (wb ky (wn xf rfl T.len_ bJ (qw (pv 0) qk)) qy))
   (qj (k7 (i:=3) (M:=[]) sc.nd rfl (by walk_at "loc") rfl rfl (by walk_at "cap") (by walk_at "has") (by walk_at "cix") rfl (by decide +kernel) rfl (show List.Nodup (["_law_k"]:List Str) by decide +kernel) (xm rfl T.range_ (qw (pv 2) qk)) (λ_ _ _ _ _=>qy))
   (qj (xq (i:=4) (ug qk))
   (qj (j9 bn rfl (xm rfl T.range_ (qw (pv 1) qk)) (xv (i:=5)) (qj (xq (i:=6) (ug qk))
   (qj (j9 bn rfl (xm rfl T.range_ (qw (pv 2) qk)) (xv (i:=7)) (qj (xq (i:=8) (wn (Wf rfl) rfl T.min_ d6 (qw (zu zg (pv 0) (pv 7) (λ_ _=>rfl)) (qw (zu zg (pv 0) (wb xu (pv 7) qy) (λ_ _=>rfl)) qk))))
   (qr (km (qxq cC dt du jp (pv 6) (qw (wn (v8 (K:=K) rfl rfl) rfl T.sum_ uy (qw (wu6 xxt (pv 3) (wvv (pv 8)) (wvv (wn (Y5 rfl) rfl T.max_ d7 (qw (zu zg (pv 0) (pv 7) (λ_ _=>rfl)) (qw (zu zg (pv 0) (wb xu (pv 7) qy) (λ_ _=>rfl)) qk))))) qk)) qk))))))
   (qj (xq (i:=3) (pv 6))
   (qr (km (qxq cC dt du jp (pv 4) (qw (wn (v8 (K:=K) rfl rfl) rfl T.sum_ uy (qw (pv 3) qk)) qk))))))))
   (qr (xw (pv 4))))))),?_⟩
 dsimp only [Yx];refine exI rfl ⟨_,_,rfl,.inl hS,w8 rfl rfl ?_⟩;rw[ad];refine exI rfl (exI rfl ⟨⋯,⋯,?_⟩);rw[show((hs.length:Int)-1).toNat=hs.length-1 by lia];refine vw (λ_=>V.int 1) ⋯ (λj H2 R2 hj s2 am=>am) λb nb=>?_;have W:=Same.upd (o:=.lst ((List.range (hs.length-1)).map λ_=>V.int 1)) nb;have f1:upd H b (.lst ((List.range (hs.length-1)).map λ_=>V.int 1)) b=some (.lst ((zr (hs.length-1) λ_=>1).map V.int)):=by rw[qc,qxm]
 generalize upd H b (.lst ((List.range (hs.length-1)).map λ_=>V.int 1))=H1 at W f1;refine⟨sz0,λq J=>?_⟩;have ab:H q=none:=by
  cases e:H q with
  |none=>rfl
  |some o=>rw[W _ _ e]at J;cases J
 refine exI rfl (exI rfl ⟨⋯,⋯,?_⟩);refine jq (λt σ H'=>Same H H'/\∃(b:Aj) (z5 z6 z7 z8:Option V),σ=[some (.ref p),some (.int m),some (.int ((hs.length:Int)-1)),some (.ref b),some (.ref q),z5,z6,z7,z8]/\H' b=some (.lst ((zr (hs.length-1) λk=>u7 hs t k).map V.int))/\b≠q/\H' q=some (.lst ((zr t λi=>crS hs (i+1)).map V.int)))
  ⟨W.trans (Same.upd J),b,_,_,_,_,rfl,(Same.upd J) _ _ f1,q9 f1 J,qc⟩ ?_ ?_
 .rintro t σ H2 ht ⟨s2,b,z5,z6,z7,z8,rfl,fb,bq,fq⟩;refine⟨sz0,λc D=>?_⟩;have ac:H c=none:=by
   cases e:H c with
   |none=>rfl
   |some o=>rw[s2 _ _ e]at D;cases D
  have cb:b≠c:=q9 fb D;have cq:q≠c:=q9 fq D;refine exI rfl (exI rfl ⟨⋯,⋯,?_⟩);refine jq (λi σ H'=>Same H H'/\∃(z7 z8:Option V),σ=[some (.ref p),some (.int m),some (.int ((hs.length:Int)-1)),some (.ref b),some (.ref q),some (.int ((0:Int)+t)),some (.ref c),z7,z8]/\H' b=some (.lst ((zr (hs.length-1) λk=>u7 hs t k).map V.int))/\H' q=some (.lst ((zr t λi=>crS hs (i+1)).map V.int))/\H' c=some (.lst ((zr i λk=>u7 hs (t+1) k).map V.int)))
   ⟨s2.trans (Same.upd D),_,_,rfl,(Same.upd D) _ _ fb,(Same.upd D) _ _ fq,qc⟩ ?_ ?_
  .rintro i σ H3 hi ⟨s3,z7,z8,rfl,fb3,fq3,fc3⟩;have U:=s3.sql hS;have a0:=at_h (hs:=hs) (k:=(0:Int)+i) ⋯ ⋯;have a1:=at_h (hs:=hs) (k:=(0:Int)+i+1) ⋯ ⋯;refine exI rfl (exI rfl (exX rfl rfl U a0 (exI rfl (exI rfl (w8 rfl rfl (exX rfl rfl U a1 ⟨_,_,rfl,?_⟩))))));refine exI rfl ⟨.inl ⟨rfl,_,SqL.of fc3⟩,?_⟩;refine exI rfl (exI rfl (exI rfl (exI rfl (exI rfl (exX rfl rfl U a0 (exI rfl (exI rfl (w8 rfl rfl (exX rfl rfl U a1 ⟨_,_,rfl,?_⟩)))))))));refine exI rfl ⟨b,exI rfl ⟨SqL.of fb3,λp4 n4=>?_⟩⟩;have eg:=xzj (t:=t) Z ((0:Int)+i);have eg:qu6 ((zr (hs.length-1) λk=>u7 hs t k).map V.int) (some (Qt (hAt hs ((0:Int)+i)) (hAt hs ((0:Int)+i+1)))) (some (Q3 (hAt hs ((0:Int)+i)) (hAt hs ((0:Int)+i+1))))=((yf hs ((0:Int)+i)).map (u7 hs t)).map V.int:=eg;have L:=Same.upd (H:=H3) (o:=.lst (qu6 ((zr (hs.length-1) λk=>u7 hs t k).map V.int) (some (Qt (hAt hs ((0:Int)+i)) (hAt hs ((0:Int)+i+1)))) (some (Q3 (hAt hs ((0:Int)+i)) (hAt hs ((0:Int)+i+1)))))) n4;refine⟨p4,(yf hs ((0:Int)+i)).map (u7 hs t),rfl,SqL.of (by rw[<-eg];exact qc),?_⟩;have an:=L _ _ fc3;refine⟨c,_,_,rfl,rfl,an,by rw[ag,Wq];lia,?_⟩;refine⟨Same.upd2 (s3.trans L) ac,_,_,rfl,?_,?_,?_⟩
   .rw[qt cb];exact L _ _ fb3
   .rw[qt cq];exact L _ _ fq3
   .rw[qc,Yg,bj,Int.zero_add];rfl
  .rintro σ H3 ⟨s3,z7,z8,rfl,fb3,fq3,fc3⟩;refine exI rfl ?_;refine⟨_,rfl,.inl ⟨rfl,_,SqL.of fq3⟩,_,rfl,c,_,rfl,SqL.of fc3,q,_,_,rfl,rfl,fq3,by rw[ag,Wq];lia,?_⟩;rw[tn2]at fc3;refine⟨Same.upd2 s3 ab,c,_,_,_,_,rfl,?_,dY cq,?_⟩
   .rw[qt (dY cq)];exact fc3
   .rw[qc,Yg,bj,tn2];rfl
 .rintro σ H2 ⟨s2,b,z5,z6,z7,z8,rfl,fb,bq,fq⟩;exact exI rfl (k q H2 s2 fq)
def qyd (K:Aa):Sp:=λvs H Q _=>∃(p:Aj) (hs:List Int) (m r:Int),vs=[.ref p,.int m,.int r]/\SqL K H p (hs.map V.int)/\wu hs/\1<=m/\m<=12/\∀x H',1<=x->x<=m->(∀i:Nat,1<=i->(i:Int)<x->crS hs (i+1)<=r)->Same H H'->Q (.int x) H'
include T in
theorem xwj (F:Fun K "_law_times" "_law_times" zbq f fd)(zep:Cal P w K mg base "_law_crowds" 1 (qws K)):FK P w K mg base 2 f fd ["_law_heights_here","_law_wish","_law_room"] (qyd K):=by
 have D:=qz0;refine F.okX D (λvs H Q E h=>by obtain⟨_,_,_,_,rfl,_⟩:=h;rfl) λ_ _ _ _ H vs Q E hr h=>?_;obtain⟨p,hs,m,r,rfl,hS,ok,m1,m2,k⟩:=h;refine⟨_,(qj (xq (i:=3) (wj zep (hr.mono ⋯) rfl qh (qw (pv 0) (qw (pv 1) qk))))
   (qj (xq (i:=4) qy)
   (qj (y8 bn (PW.pt (wwn (wt Yy (pv 4) (pv 1) (xk _)) (qj7 (wt qu5 (zu zg (pv 3) (pv 4) (λ_ _=>rfl)) (pv 2) (xk _))))) (qr (wuz (i:=4) D.nd rfl (Or.inl rfl) qy xwv)))
   (qr (xw (pv 4)))))),?_⟩
 refine exI rfl (exI rfl ⟨p,hs,m,rfl,hS,ok,m1,m2,λq H1 J f1=>?_⟩);refine y9 (λσ H'=>H'=H1/\∃x:Int,1<=x/\x<=m/\(∀i:Nat,1<=i->(i:Int)<x->crS hs (i+1)<=r)/\σ=[some (.ref p),some (.int m),some (.int r),some (.ref q),some (.int x)]) (λσ _=>match σ with|[_,_,_,_,some (.int x)]=>(20-x).toNat|_=>0) ⟨rfl,1,⋯,⋯,λi h1 h2=>absurd h2 ⋯,rfl⟩ ?_ ?_
 .rintro σ H' ⟨rfl,x,x1,x2,hx,rfl⟩;refine exI rfl (exI rfl (w8 rfl rfl (exI rfl (j6 (λz=>?_) (λz=>?_)))))
  .refine exI rfl (exI rfl (exX rfl rfl (SqL.of f1) (wzs ⋯ ⋯) (exI rfl (w8 rfl rfl (exI rfl (j6 (λy=>?_) (λy=>?_)))))))
   .refine exI rfl (w8 rfl rfl ⟨⟨rfl,x+1,⋯,⋯,λi h1 h2=>?_,rfl⟩,?_⟩)
    .rcases(by lia:(i:Int)<x\/(i:Int)=x) with w|w
     .exact hx i h1 w
     .rw[show i=x.toNat by lia];exact y
    show(20-(x+1)).toNat<(20-x).toNat;lia
   .exact exI rfl (k x _ x1 x2 hx J)
  .exact Q8 (exI rfl (k x _ x1 x2 hx J))
 .intro σ H Q Q' h hc;obtain⟨v1,e1,Z,e2,i,j,e3,e4,b,e5,q⟩:=hc;refine⟨v1,e1,Z,e2,i,j,e3,e4,b,e5,?_⟩;cases b with
  |false =>
   rw[ao aF]at q ⊢;exact h _ _ q
  |true =>
   rw[av rfl]at q ⊢;obtain⟨W,e6,U,e7,a1,a2,a3,a4,e8,e9,sq,ea,L,am,i2,j2,ad,ac,b2,ab,q2⟩:=q;exact⟨W,e6,U,e7,a1,a2,a3,a4,e8,e9,sq,ea,L,am,i2,j2,ad,ac,b2,ab,h _ _ q2⟩
theorem xxy (ok:wu hs)(k:Int):(yf hs k).length<=24:=by obtain⟨l0,l1,l2⟩:=lohi ok k;have:=ok.2.1;unfold yf;rw[ag,aH];lia
theorem cr_one (ok:wu hs):crS hs 1<=576:=by
 have D:=ok.2.1;have:∀n:Nat,(zr n λk=>u7 hs 1 k).sum<=24*n:=λn=>by
  induction n with
  |zero=>exact cL _
  |succ n ih =>
   rw[Yg,gU];have e:u7 hs 1 (n:Int)=((yf hs n).length:Int):=by
    show((yf hs n).map (u7 hs 0)).sum=_;generalize yf hs n=L
    induction L with
    |nil=>rfl
    |cons r L ih=>rw[aM,cH,ih,aJ];show(1:Int)+_=_;lia
   have:=xxy ok (n:Int);simp only[cH,List.sum_nil];lia
 have:=this (hs.length-1);unfold crS;lia
theorem wvz (ok:wu hs):∀(t:Nat) (k:Int),0<=k->k<(hs.length:Int)-1->u7 hs t k=kf (hs.length-1) (zf (xr hs) t k.toNat)
 |0,k,h0,h1=>by have:=qur (n:=hs.length-1) (i:=k.toNat) ⋯ λ_=>1;show(1:Int)=_;rw[<-this];refine ut λj _=>?_;rw[Int.mul_one];rfl
 |t+1,k,h0,h1=>by show((yf hs k).map (u7 hs t)).sum=kf (hs.length-1) λj=>((xr hs k.toNat).map λv=>zf (xr hs) t v.toNat j).sum;rw[qww h0,<-wq9 (hs.length-1) (λ(v:Int) j=>zf (xr hs) t v.toNat j)];congr 1;refine eF λv hv=>?_;have:=Wh ok k v hv;exact wvz ok t v this.1 ⋯
theorem wxv (ok:wu hs)(m:Nat):crS hs m=kf (hs.length-1) λi=>kf (hs.length-1) (zf (xr hs) m i):=by show kf (hs.length-1) _=_;refine ut λi hi=>?_;rw[wvz ok m (i:Int) ⋯ ⋯,bH]
theorem qjb {g:Nat->Int}(e:∀i,i<n->g i<=h i):kf n g<=kf n h:=by
 induction n with
 |zero=>exact cL _
 |succ n ih =>
  have:=ih λi hi=>e i ⋯;have:=e n ⋯;rw[vg,vg];lia
theorem qk3 {g:Nat->Int}(h:∀i,0<=g i)(hi:i<n):g i<=kf n g:=by have:=qur hi g;rw[<-this];refine qjb λk _=>?_;have:=h k;split <;> lia
theorem pow_cr (ok:wu hs){m f:Nat}(hf:f<hs.length-1):zf (xr hs) m f f<=crS hs m:=by rw[wxv ok];refine eA (qk3 (g:=zf (xr hs) m f) (Q1 _ _ _) hf) (qk3 (g:=λi=>kf (hs.length-1) (zf (xr hs) m i)) (λi=>?_) hf);have:=qjb (n:=hs.length-1) (g:=λ_=>0) (h:=zf (xr hs) m i) λj _=>Q1 _ _ _ _;rwa [Y0 _ _ λ_ _=>rfl]at this
theorem qv6 (ok:wu hs){m:Nat}(hm:1<=m):((xt hs m).length:Int)<=crS hs m:=by rw[wk7 ok hm,wxv ok];exact qjb λi hi=>qk3 (Q1 _ _ _) hi
def TabsAt (H:Hp)(p:Aj)(hs:List Int)(m:Nat):Prop:=∃ys,H p=some (.lst ys)/\ys.length=m+1/\∀i v,ys[i]?=some v->∃q,v=.ref q/\MatAt H q (hs.length-1) (zf (xr hs) i)
theorem TabsAt.same {p:Aj}(h:TabsAt H p hs m)(s:Same H H'):TabsAt H' p hs m:=by obtain⟨ys,e,l,r⟩:=h;exact⟨ys,s _ _ e,l,λi v z=>let ⟨q,a,b⟩:=r i v z;⟨q,a,b.same s⟩⟩
theorem TabsAt.at_ {p:Aj}(h:TabsAt H p hs m){t i j:Int}(t0:0<=t)(t1:t<=m)(i0:0<=i)(i1:i<(hs.length:Int)-1)(j0:0<=j)(j1:j<(hs.length:Int)-1) :
  ∃ys q zs q',H p=some (.lst ys)/\atI ys t=some (.ref q)/\H q=some (.lst zs)/\atI zs i=some (.ref q')/\H q'=some (.lst ((zr (hs.length-1) (zf (xr hs) t.toNat i.toNat)).map V.int))/\atI ((zr (hs.length-1) (zf (xr hs) t.toNat i.toNat)).map V.int) j=some (.int (zf (xr hs) t.toNat i.toNat j.toNat)):=by
 obtain⟨ys,fp,l,r⟩:=h;have e:ys[t.toNat]?=some ys[t.toNat]:=ae ⋯;obtain⟨q,W,M⟩:=r _ _ e;obtain⟨zs,D,lz,Z⟩:=id M;obtain⟨q',U,L⟩:=M.row D (i:=i.toNat) ⋯;have J:=jz e;have F:=jz U;rw[cA t0,W]at J;rw[cA i0]at F;exact⟨ys,q,zs,q',fp,J,D,F,L,wzs j0 ⋯⟩
theorem CovAt.at_ {p:Aj}(h:CovAt H p hs){i:Int}(i0:0<=i)(i1:i<(hs.length:Int)-1):∃ys q,H p=some (.lst ys)/\atI ys i=some (.ref q)/\H q=some (.lst ((xr hs i.toNat).map V.int)):=by obtain⟨ys,fp,l,r⟩:=h;have e:ys[i.toNat]?=some ys[i.toNat]:=ae ⋯;obtain⟨q,F,f⟩:=r _ _ e;have D:=jz e;rw[cA i0,F]at D;exact⟨ys,q,fp,D,f⟩
def Zk:Sp:=λvs H Q _=>∃(c tb:Aj) (hs:List Int) (f m:Nat),vs=[.int ((0:Int)+f),.ref c,.ref tb]/\wu hs/\CovAt H c hs/\TabsAt H tb hs m/\f<hs.length-1/\1<=m/\m<=12/\zf (xr hs) m f f<=1000 /\
 ∀p ys H',H p=none->Same H H'->H' p=some (.lst ys)->Tups (bgR hs f m (m-1)) ys H'->Q (.ref p) H'
theorem wyt (h:r≠[]):atI (r.map V.int) (-1)=some (V.int (r.getLastD 0)):=by have e:r=r.dropLast++[r.getLast h]:=(eW h).symm;rw[e,bj];have:=Zd (r.dropLast.map V.int) (V.int (r.getLast h));rw[Zx];exact this
include T in
theorem qks (F:Fun K "rows_from" "rows_from" zay f fd):FK P w K mg base 1 f fd ["first","covers","tables"] Zk:=by
 have sc:=qyq;refine F.okX sc (λvs H Q E h=>by obtain⟨_,_,_,_,_,rfl,_⟩:=h;rfl) λ_ _ _ s H vs Q E L h=>?_;obtain⟨c,tb,hs,f,m,rfl,J,hC,hT,hf,m1,m2,am,k⟩:=h;have o1:=J.1;have o2:=J.2.1;obtain⟨ts,ft,lt,_⟩:=id hT;refine⟨_,(qj (xq (i:=3) (wb ky (wn xf rfl T.len_ bJ (qw (pv 2) qk)) qy))
   (qj (xq (i:=4) (qw5 (wt Wp (zu zg (zu zg (zu zg (pv 2) (pv 3) (λ_ _=>rfl)) (pv 0) (λ_ _=>rfl)) (pv 0) (λ_ _=>rfl)) qy (xk _)) (ug (qw (jx (qw (pv 0) qk)) qk)) (ug qk)))
   (qj (j9 bn rfl (wkf rfl T.range_ (qw (wb ky (pv 3) qy) (qw qy (qw (qw0 W7 qy) qk)))) (xv (i:=5)) (qr (qj5 (i:=4) (M:=[0,1,2,5]) sc.nd rfl (by walk_at "loc") rfl rfl (by walk_at "cap") (by walk_at "has") (by walk_at "cix") rfl (by decide +kernel) rfl rfl (show List.Nodup (["row","onward","first","covers","tables","left"]:List Str) by decide +kernel) (vz (pv 4)) (λ_ _ _ _ _=>(wqq (K:=K) rfl (zu (yk (K:=K) rfl) (pv 3) (zu (Z8 (K:=K) rfl) (pv 0) (qw0 W7 qy) (λ_ _=>rfl)) (λ_ _=>rfl)))) (λ_ _ _ _ _=>(wt Wp (zu (yk (K:=K) rfl) (zu (yk (K:=K) rfl) (zu (yk (K:=K) rfl) (pv 4) (pv 5) (λ_ _=>rfl)) (pv 1) (λ_ _=>rfl)) (pv 2) (λ_ _=>rfl)) qy (xk _))) (λ_ _ _ _ _=>(wb (xw7 (K:=K) rfl) (pv 0) (jx (qw (pv 1) qk)))))))
   (qr (xw (pv 4)))))),?_⟩
 dsimp only [Yx];refine exI rfl ⟨_,_,rfl,.inl (SqL.of ft),w8 rfl rfl ?_⟩;rw[lt];have em:(((m+1:Nat):Int)-1).toNat=m:=by lia
 have ef:((0:Int)+f).toNat=f:=by lia
 obtain⟨ys,q,zs,q',e1,e2,e3,e4,e5,e6⟩:=hT.at_ (t:=((m+1:Nat):Int)-1) (i:=(0:Int)+f) (j:=(0:Int)+f) ⋯ ⋯ ⋯ ⋯ ⋯ ⋯;rw[em,ef]at e5 e6;have ad:∀(Pp:St->Hp->Prop),(∀p D H1,H p=none->Same H H1->H1 p=some (.lst D)->Tups (bgR hs f m 0) D H1->Pp [some (.int ((0:Int)+f)),some (.ref c),some (.ref tb),some (.int (((m+1:Nat):Int)-1)),some (.ref p),none] H1)->tAsg (tIf (wy7 (tOp (rI0 λi j=>V.bl (decide (j<i))) (tOp (wwd K) (tOp (wwd K) (tOp (wwd K) (jh 2) (jh 3)) (jh 0)) (jh 0)) (tC (V.int 0)))) (tLst (yr (tTup (yr (jh 0) qwm)) qwm)) (tLst qwm)) (Zn 4) { nx:=Pp,rt:=Q } [some (.int ((0:Int)+f)),some (.ref c),some (.ref tb),some (.int (((m+1:Nat):Int)-1)),none,none] H:=by
  intro Pp hP;refine exI rfl (exI rfl (exX rfl rfl (SqL.of e1) e2 (exI rfl (exX rfl rfl (SqL.of e3) e4 (exI rfl (exX rfl rfl (SqL.of e5) e6 (w8 rfl rfl (exI rfl (j6 (λz=>?_) (λz=>?_))))))))))
  .refine exI rfl ⟨sz1,λa na=>⟨sz1,λp np=>?_⟩⟩;have Z:=Same.upd (o:=.tup [.int ((0:Int)+f)]) na;refine hP p _ _ (jg Z np) (Z.trans (Same.upd np)) qc ?_;unfold bgR;rw[av z];exact .cons ⟨a,rfl,(Same.upd np) _ _ qc⟩ .nil
  .refine⟨sz0,λp np=>?_⟩;refine hP p _ _ np (Same.upd np) qc ?_;unfold bgR;rw[ao z];exact .nil
 refine ad _ λp D H1 np Z fp U=>?_;refine exI rfl (w8 rfl rfl (exI rfl ⟨_,_,rfl,⋯,?_⟩));rw[show(((m+1:Nat):Int)-1-1-0).toNat=m-1 by lia];refine xwf (λi σ H'=>Same H H'/\∃(p:Aj) (D:List V) (z:Option V),σ=[some (.int ((0:Int)+f)),some (.ref c),some (.ref tb),some (.int (((m+1:Nat):Int)-1)),some (.ref p),z]/\H p=none/\H' p=some (.lst D)/\Tups (bgR hs f m i) D H') ⟨Z,p,D,exI rfl ⟨np,fp,U⟩⟩ ?_ ?_
 .rintro i σ H2 hi ⟨s2,p,D,z,rfl,np,fp,U⟩;have bl:=wyf J (m:=m) (t:=i) hf ⋯;have eg:(((m+1:Nat):Int)-1-1-i).toNat=m-1-i:=by lia
  refine exI rfl ⟨p,rfl,⟨_,SqL.of fp⟩,qy3 (K:=K) (bgR hs f m i) (λr=>xr hs (r.getLastD 0).toNat) (λv=>decide (0<zf (xr hs) (m-1-i) v.toNat f)) (SqL.of fp) U ⋯ (λr _=>wqs J _) (λr a H' R L fa s' W=>?_) (λr a u H' R L hu s' W=>?_) (λr a u H' R L hu hc fa s' W=>?_) λp' ab H' ac s' f' t'=>?_⟩
  .obtain⟨l1,l2,l3⟩:=qx3 (W6 J hf i r L);obtain⟨vs,q1,g1,g2,g3⟩:=(hC.same s2).at_ l2 l3;have hz:r≠[]:=λz=>by have:=(W6 J hf i r L).1;rw[z]at this;cases this
   exact exI rfl (exI rfl (exI rfl (exX rfl rfl (SqT.of fa) (wyt hz) (exX rfl rfl (SqL.of (s' _ _ g1)) g2 ⟨q1,rfl,⟨_,SqL.of (s' _ _ g3)⟩,W q1 (SqL.of g3)⟩))))
  .have ur:=Wh J _ u hu;obtain⟨vs,q1,ws,q2,g1,g2,g3,g4,g5,g6⟩:=(hT.same (s2.trans s')).at_ (t:=((m+1:Nat):Int)-1-1-i) (i:=u) (j:=(0:Int)+f) ⋯ ⋯ ur.1 ⋯ ⋯ ⋯;rw[eg,ef]at g6;rw[eg]at g5;exact exI rfl (exI rfl (exX rfl rfl (SqL.of g1) g2 (exI rfl (exX rfl rfl (SqL.of g3) g4 (exI rfl (exX rfl rfl (SqL.of g5) g6 (w8 rfl rfl (exI rfl W))))))))
  .have lr:=(W6 J hf i r L).1;have an:(1000000:Nat)<sizeLine:=by decide
   refine exI rfl (exI rfl ⟨sz1,λb nb=>?_⟩);have s3:=Same.upd (o:=.tup [.int u]) nb;refine⟨_,_,_,_,rfl,rfl,SqT.of (s3 _ _ fa),SqT.new,by rw[ag];show r.length+1<=sizeLine;lia,λz=>?_,λ_ z=>absurd z (by simp),λ_ _ p7 n7=>?_⟩
   .have:=cK List.length z;rw[ag,lr]at this;cases this
   .refine W p7 _ (s3.trans (Same.upd n7)) ?_;rw[qc,bj];rfl
  .exact⟨s2.trans s',p',ab,exI rfl ⟨jg s2 ac,f',t'⟩⟩
 .rintro σ H2 ⟨s2,p,D,z,rfl,np,fp,U⟩;exact exI rfl (k p D H2 np s2 fp U)
def wxq (C CC CT:Aj):Sp:=λvs H Q E=>∃(r:Aj) (hs:List Int) (m:Int),vs=[.ref r,.int m]/\RoadAt C H r hs/\wu hs/\1<=m/\m<=12/\crS hs m.toNat<=1000 /\
 ∀p ys H',H p=none->Same H H'->H' p=some (.lst ys)->Tups (xt hs m.toNat) ys H'->Q (.ref p) H'
theorem wj1 (hs:List Int)(m i:Nat):((List.range (i+1)).flatMap λf=>bgR hs f m (m-1))=((List.range i).flatMap λf=>bgR hs f m (m-1))++bgR hs i m (m-1):=by rw[cG,g9];simp
theorem qvh {g:Nat->Int}(h:∀i,0<=g i){i:Nat}:∀ {n:Nat},i<=n->kf i g<=kf n g
 |0,e=>by
  obtain rfl:i=0:=by lia
  exact cL _
 |n+1,e=>by
  rcases(by lia:i=n+1\/i<=n) with z|z
  .subst z;exact cL _
  .have:=qvh h z;have:=h n;rw[vg];lia
theorem wj8 (ok:wu hs){m:Nat}(hm:1<=m){i:Nat}(h:i<=hs.length-1):((((List.range i).flatMap λf=>bgR hs f m (m-1)).length:Nat):Int)<=crS hs m:=by refine eA ?_ (qv6 ok hm);unfold xt;rw[qw9,qw9];exact qvh (λ_=>Int.natCast_nonneg _) h
include T in
theorem xv2 (F:Fun K "rows" "rows" zaz f fd)(zas:CalD P w K mg base "check_count" 1 (Yk qu))(zeq:Cal P w K mg base "ways_up_to" 6 (qwr qv))(zbx:Cal P w K mg base "covers_of" 5 (u8 qv))(zaa:MCal P w K mg base qv "width" 1 (jn qv))(zer:Cal P w K mg base "rows_from" 1 Zk) :
  FK P w K mg base 7 f fd ["road","many"] (wxq qv qu qf):=by
 have sc:=xzb;refine F.okX sc (λvs H Q E h=>by obtain⟨_,_,_,rfl,_⟩:=h;rfl) λ_ _ _ _ H vs Q E U h=>?_;obtain⟨r,hs,m,rfl,J,D,m1,m2,a1,k⟩:=h;obtain⟨tl,am⟩:=T.zac;obtain⟨tw,ad⟩:=T.zaf;have o1:=D.1;have o2:=D.2.1;have a2:(1000000:Nat)<sizeLine:=by decide
 refine⟨_,(qj (km (wj zas.all (U.mono ⋯) rfl qh (qw (pv 1) (qw qy (qw (Wg (v:=V.int 12) rfl am ⟨_,rfl⟩) qk)))))
   (qj (xq (i:=2) (wj zeq (U.mono ⋯) rfl qh (qw (pv 0) (qw (pv 1) qk))))
   (qj (vy (wt Wp (wn (v8 (K:=K) rfl rfl) rfl T.sum_ uy (qw (kx (M:=[]) rfl rfl (by walk_at "cap") (by walk_at "has") (by walk_at "cix") rfl (by decide +kernel) rfl (show List.Nodup (["counts"]:List Str) by decide +kernel) (vz (zu zg (pv 2) (pv 1) (λ_ _=>rfl))) (λ_ _ _ _ _=>(wn (v8 (K:=K) rfl rfl) rfl T.sum_ uy (qw (pv 0) qk)))) qk)) (Wg (v:=V.int 1000) rfl ad ⟨_,rfl⟩) (xk _)) (qr (j8 rfl T.zai kj rfl T.zdy (qw W9 qk))) x8)
   (qj (xq (i:=3) (wj zbx (U.mono ⋯) rfl qh (qw (pv 0) qk)))
   (qj (xq (i:=4) (ug qk))
   (qj (j9 bn rfl (xm rfl T.range_ (qw (k8 (pv 0) T.cl zaa (U.mono ⋯) qh) qk)) (xv (i:=5)) (qr (km (qxq cC PySem.F.slot_list_extend PySem.F.type_list_extend wkt (pv 4) (qw (wj zer (U.mono ⋯) rfl qh (qw (pv 5) (qw (pv 3) (qw (pv 2) qk)))) qk)))))
   (qr (xw (pv 4))))))))),?_⟩
 dsimp only [Yx];refine⟨_,rfl,m,1,.int 12,some 12,rfl,.inr ⟨12,rfl,rfl⟩,λ_=>?_,λhw=>absurd ⟨m1,λz e=>by cases e;exact m2⟩ hw⟩;refine exI rfl (exI rfl ⟨r,hs,m,rfl,J,D,⋯,⋯,λtb W H1 s1 f1 l1 g1=>?_⟩);have e:W[m.toNat]?=some W[m.toNat]:=ae ⋯;obtain⟨q,eq,M⟩:=g1 _ _ e;have ea:atI W m=some (.ref q):=by have:=jz e;rwa [cA ⋯,eq]at this
 obtain⟨zs,fq,lz,rz⟩:=id M;have ap:TabsAt H1 tb hs m.toNat:=⟨W,f1,l1,g1⟩;refine exI rfl (exI rfl (exX rfl rfl (SqL.of f1) ea ⟨q,rfl,⟨_,SqL.of fq⟩,Qz (K:=K) (λi v _=>v=V.int (kf (hs.length-1) (zf (xr hs) m.toNat i))) (λi v H H' p g _ _=>g) (SqL.of fq) ⋯ (λi x H2 R hx s2 J=>?_) λp2 an H2 n2 s2 f2 l2 g2=>?_⟩))
 .obtain⟨a,rfl,fa⟩:=rz i x hx;exact exI rfl ⟨a,exI rfl ⟨SqL.of (s2 _ _ fa),J _ _ (Same.refl _) rfl λb e=>nomatch e⟩⟩
 have ey:an=(zr (hs.length-1) λi=>kf (hs.length-1) (zf (xr hs) m.toNat i)).map V.int:=by
  refine bT λi=>?_;by_cases z:i<hs.length-1
  .rw[ax,qx1 z,ae ⋯,(g2 i _ (ae ⋯)).1];rfl
  .rw[aO ⋯,aO (by rw[ag,Wq];lia)]
 rw[ey]at f2;refine⟨p2,exI rfl ⟨SqL.of f2,w8 rfl rfl (exI rfl ?_)⟩⟩;have ec:(zr (hs.length-1) λi=>kf (hs.length-1) (zf (xr hs) m.toNat i)).sum=crS hs m.toNat:=(wxv D _).symm;rw[ec];refine j6 (λz=>absurd z ⋯) (λz=>?_);refine exI rfl ⟨r,hs,rfl,J.same (s1.trans s2),D,λc H3 n3 Z C3=>?_⟩;refine⟨sz0,λp np=>?_⟩;have s4:=Same.upd (o:=.lst []) np;have ac:=s1.trans (s2.trans (Z.trans s4));obtain⟨dx,q0,h1,h2⟩:=id J;refine exI rfl ⟨r,dx,exI rfl ⟨ac _ _ h1,xj (by decide +kernel),r,hs,rfl,J.same ac,exI rfl ⟨⋯,⋯,?_⟩⟩⟩;rw[show((hs.length:Int)-1).toNat=hs.length-1 by lia];have a0:H p=none:=jg (s1.trans (s2.trans Z)) np;have as:=s1.trans (s2.trans Z);have T3:=ap.same (s2.trans Z);refine jq (λi σ H'=>Same H3 H'/\∃(us:List V) (z:Option V),σ=[some (.ref r),some (.int m),some (.ref tb),some (.ref c),some (.ref p),z]/\H' p=some (.lst us)/\Tups ((List.range i).flatMap λf=>bgR hs f m.toNat (m.toNat-1)) us H')
  ⟨s4,[],exI rfl ⟨qc,.nil⟩⟩ ?_ ?_
 .rintro i σ H5 hi ⟨s5,us,z,rfl,f5,t5⟩;have pi:=pow_cr D (m:=m.toNat) hi;have l5:=wj8 D (m:=m.toNat) ⋯ (i:=i) ⋯;have l6:=wyf D (m:=m.toNat) (t:=m.toNat-1) hi ⋯;refine exI rfl ⟨.inl ⟨rfl,_,SqL.of f5⟩,exI rfl (exI rfl (exI rfl ⟨c,tb,hs,i,m.toNat,rfl,D,C3.same s5,T3.same s5,hi,⋯,⋯,⋯,λp6 ab H6 n6 L f6 t6=>?_⟩))⟩;have lu:=t5.len;have ly:=t6.len;refine⟨p,p6,us,ab,rfl,rfl,L _ _ f5,f6,⋯,?_⟩;refine⟨Same.upd2 (s5.trans L) np,us++ab,exI rfl ⟨qc,?_⟩⟩
  .rw[wj1];exact Paired.app ((t5.same L).upd (L _ _ f5)) (t6.upd (L _ _ f5))
 .rintro σ H5 ⟨s5,us,z,rfl,f5,t5⟩;exact exI rfl (k p us H5 a0 (as.trans s5) f5 t5)
def qxs (K:Aa)(C CB CO CC:Aj):Sp:=λvs H Q E=>∃(r p:Aj) (hs:List Int) (t b m:Int),vs=[.ref r,.ref p,.int m]/\RoadAt C H r hs/\wu hs/\SqT K H p [.int t,.int b] /\
 (1<=b->Sm 8000 b/\(zj hs t b->(Within m 0 (some 1000)->∀q H',H q=none->Same H H'->PtsAt H' q (qu3 hs (wc t b) (m.toNat+1))->Q (.ref q) H')/\(¬ Within m 0 (some 1000)->∀H',Same H H'->E (.ref CC) none H')) /\
  (¬ zj hs t b->∀H',Same H H'->E (.ref CO) none H'))/\(b<1->E (.ref CB) none H)
include T in
theorem wkp (F:Fun K "walked" "walked" za3 f fd)(zas:CalD P w K mg base "check_count" 1 (Yk qu))(zar:MCal P w K mg base qv "on_road" 3 (Q5 K qv qx qd))
  (zby:MCal P w K mg base qv "at" 4 (spAt K qv qx qd)):FK P w K mg base 5 f fd ["road","point","many"] (qxs K qv qx qd qu):=by
 have sc:=wkr;refine F.okX sc (λvs H Q E h=>by obtain⟨_,_,_,_,_,_,rfl,_⟩:=h;rfl) λ_ _ _ _ H vs Q E hr h=>?_;obtain⟨r,p,hs,t,b,m,rfl,hR,ab,hp,kq,x⟩:=h;obtain⟨dx,q0,h1,h2⟩:=id hR;obtain⟨tm,am⟩:=T.zag;refine⟨_,(qj (xq (i:=3) (vc (pv 0) T.cl zar (hr.mono ⋯) qh (qw (pv 1) qk)))
   (qj (km (wj zas.all (hr.mono ⋯) rfl qh (qw (pv 2) (qw qy (qw (Wg (v:=V.int 1000) rfl am ⟨_,rfl⟩) qk)))))
   (qj (xq (i:=4) (ug (qw (pv 3) qk)))
   (qj (y8 bn (wt qu5 (wn xf rfl T.len_ bJ (qw (pv 4) qk)) (pv 2) (xk _)) (qr (km (qxq cC dt du jp (pv 4) (qw (vc (pv 0) T.cl zby (hr.mono ⋯) qh (qw (zu zg (pv 4) (qw0 W7 qy) (λ_ _=>rfl)) qk)) qk)))))
   (qr (xw (pv 4))))))),?_⟩
 refine⟨_,rfl,r,dx,_,rfl,h1,xj (by decide +kernel),_,rfl,r,p,hs,t,b,rfl,hR,ab,hp,λhb=>⟨(kq hb).1,λad W H1 D f1=>?_,λap H1 D=>(kq hb).2.2 ap H1 D⟩,λz=>x z⟩;obtain⟨sb,k1,_⟩:=kq hb;obtain⟨k2,k3⟩:=k1 ad;refine⟨_,rfl,m,0,.int 1000,some 1000,rfl,.inr ⟨1000,rfl,rfl⟩,λL=>?_,λL=>k3 L _ D⟩;have m0:=L.1;have m1:=L.2 1000 rfl;have P0:=wwy hb ad;refine exI rfl ⟨sz1,λq J=>?_⟩;have an:H q=none:=by
  cases e:H q with
  |none=>rfl
  |some o=>rw[D _ _ e]at J;cases J
 have dq:W≠q:=q9 f1 J;refine y9 (λσ H2=>∃(n:Nat) (vs:List V),σ=[some (.ref r),some (.ref p),some (.int m),some (.ref W),some (.ref q)]/\(n:Int)<=m/\Same H1 H2/\H2 q=some (.lst vs)/\Paired (PtR H2) vs (qu3 hs (wc t b) (n+1)))
  (λ_ H2=>match H2 q with|some (.lst vs)=>(m+1).toNat-vs.length|_=>0) ⟨0,[.ref W],rfl,⋯,Same.upd J,qc,.cons ⟨W,rfl,by rw[qt dq];exact f1⟩ .nil⟩ ?_ λσ H Q Q' h ⟨v,e,p',ys,e1,e2,v2,e3,i,j,e4,e5,kk,e6,qq⟩=>⟨v,e,p',ys,e1,e2,v2,e3,i,j,e4,e5,kk,e6,h _ _ qq⟩
 rintro σ H2 ⟨n,vs,rfl,hn,s2,f2,pr⟩;have Z:vs.length=n+1:=by rw[pr.length,uj]
 refine exI rfl ⟨_,_,rfl,.inl (SqL.of f2),exI rfl (w8 rfl rfl (exI rfl ?_))⟩;rw[Z];refine j6 (λq1=>?_) (λq1=>?_)
 .have Pn:=xq8 ab P0 n;obtain⟨v,ev,⟨a,rfl,fa⟩⟩:=Wc (i:=n) (b:=itP hs (wc t b) n) pr (by rw[Jk,aA (by rw[uj];exact aj _),uj];simp);have as:atI vs (-1)=some (.ref a):=by
   have hz:vs≠[]:=λz=>by rw[z]at Z;simp at Z
   have e1:vs=vs.dropLast++[vs.getLast hz]:=(eW hz).symm;have e2:vs.getLast hz=.ref a:=by
    rw[jo];have:vs[n]?=vs[vs.length-1]?:=by rw[Z];rfl
    rw[this,ae ⋯]at ev;exact au ev
   rw[e1,e2];exact Zd _ _
  have ac:=D.trans s2;refine⟨_,rfl,.inl ⟨rfl,_,SqL.of f2⟩,_,rfl,r,dx,_,rfl,ac _ _ h1,xj (by decide +kernel),_,rfl,_,rfl,_,_,_,_,rfl,rfl,SqL.of f2,as,r,a,hs,(itP hs (wc t b) n).1,(itP hs (wc t b) n).2,rfl,hR.same ac,ab,SqT.of fa,λ_=>⟨(sb.of_le (by have:=Pn.2.1;have:=Pn.1;lia)),λ_ U H3 s3 f3=>?_,λz=>absurd Pn.2.2.2 z⟩,λz=>absurd Pn.1 ⋯⟩;have g2:=s3 _ _ f2;refine⟨_,_,_,rfl,rfl,g2,Jp ⋯,⟨n+1,vs++[.ref U],rfl,⋯,λb o e=>?_,qc,?_⟩,?_⟩
  .rw[qt (q9 e J)];exact s3 _ _ (s2 _ _ e)
  .rw[Jk hs (wc t b) (n+1)];refine Paired.snoc (wq1 (λ_ _ z=>(z.same s3).upd g2) pr) (PtR.upd ⟨U,rfl,?_⟩ g2);exact f3
  .show(match upd H3 q (.lst (vs++[.ref U])) q with|some (.lst vs)=>(m+1).toNat-vs.length|_=>0)<(match H2 q with|some (.lst vs)=>(m+1).toNat-vs.length|_=>0);rw[qc,f2];show(m+1).toNat-(vs++[V.ref U]).length<(m+1).toNat-vs.length;rw[ar,cN];lia
 .have en:m.toNat=n:=by lia
  refine exI rfl (k2 L q H2 an (D.trans s2) ⟨vs,f2,?_⟩);rw[en];exact pr
def Dist {α:Type}(f:Nat->α)(n:Nat):Prop:=∀i j,i<j->j<n->f i≠f j
theorem Dist.mono {α:Type}{f:Nat->α}(h:Dist f n)(le:m<=n):Dist f m:=λi j a b=>h i j a ⋯
theorem Dist.succ {α:Type}{f:Nat->α}(h:Dist f n)(h':∀j,j<n->f j≠f n):Dist f (n+1):=λi j a b=>by
 rcases(by lia:j<n\/j=n) with z|z
 .exact h i j a z
 .subst z;exact h' i a
theorem shift {α:Type}{f:Nat->α}(st:∀i j,f i=f j->f (i+1)=f (j+1)){n u:Nat}(e:f n=f u):∀k,f (n+k)=f (u+k)
 |0=>e
 |k+1=>st _ _ (shift st e k)
theorem tr_st {t:Int}:∀i j,trT hs t b i=trT hs t b j->trT hs t b (i+1)=trT hs t b (j+1):=λi j e=>by show vv hs (trT hs t b i) b=vv hs (trT hs t b j) b;rw[e]
theorem vj (m:Nat):∀n,itP hs (itP hs p m) n=itP hs p (m+n)
 |0=>rfl
 |n+1=>by show Wn hs (itP hs (itP hs p m) n).1 (itP hs (itP hs p m) n).2=_;rw[vj m n];rfl
theorem xvn {t:Int}(hb:1<=b)(g:gOf t b=1):wc t b=(t,b):=by unfold wc;rw[g,jD,jD]
theorem it_tr (h:Pt hs c p)(n:Nat):itP hs p n=wc (trT hs p.1 p.2 n) p.2:=by rw[Yz h.1,xvn h.1 h.2.2.1]
theorem xvm {x:Int}(hb:1<=b)(e:wc x b=wc y b):x=y:=by have h1:=(qkb (N:=x) hb).2;have h2:=(qkb (N:=y) hb).2;rw[e]at h1;lia
theorem qvn (h:Pt hs c p)(i j:Nat):itP hs p i=itP hs p j↔trT hs p.1 p.2 i=trT hs p.1 p.2 j:=by rw[it_tr h,it_tr h];exact⟨λe=>xvm h.1 e,λe=>by rw[e]⟩
def Qq (p:Int×Int):List Key:=[.inl p.1,.inl p.2]
theorem quz {q:Int×Int}(e:Qq p=Qq q):p=q:=by unfold Qq at e;simp only[List.cons.injEq,Sum.inl.injEq,and_true]at e;exact ko e.1 e.2
def Qc {κ:Type}(k:Nat->κ)(n:Nat):List (κ×V):=(List.range n).map λi=>(k i,V.int i)
variable {κ:Type}
theorem qv3 (k:Nat->κ)(n:Nat):Qc k (n+1)=Qc k n++[(k n,V.int n)]:=by unfold Qc;rw[cG,bj];rfl
theorem Qm (k:Nat->κ)(n:Nat):(Qc k n).length=n:=by unfold Qc;rw[ag,aH]
theorem qvp [DecidableEq κ]{k:Nat->κ}{q:κ}{n:Nat}(h:∀j,j<n->k j≠q):uu (Qc k n) q=none:=by
 unfold uu Qc;rw[List.find?_eq_none.mpr]
 .rfl
 .intro x D;obtain⟨i,hi,rfl⟩:=aS.mp D;simpa using h i (aw.mp hi)
theorem qkf [DecidableEq κ]{k:Nat->κ}{j:Nat}:∀ {n:Nat},Dist k n->j<n->uu (Qc k n) (k j)=some (.int j)
 |0,_,h=>absurd h ⋯
 |n+1,d,h=>by
  rw[qv3,qvm _ _ _ _ (qvp λi hi=>d i n hi ⋯)];rcases(by lia:j<n\/j=n) with z|z
  .rw[ao (d j n z ⋯),qkf (d.mono ⋯) z]
  .subst z;rw[av rfl]
theorem wvn {γ δ:Type}{F:α->β->Prop}{G:α->γ->Prop}(g:δ->β)(f:δ->γ)(h:∀a x,F a (g x)->G a (f x)):∀ {l:List δ} {vs:List α},Paired F vs (l.map g)->Paired G vs (l.map f)
 |[],_,.nil=>.nil
 |_::_,_,.cons a t=>.cons (h _ _ a) (wvn g f h t)
def qj3 (C CT:Aj):Sp:=λvs H Q E=>∃(r a:Aj) (hs:List Int) (p:Int×Int) (c:Int),vs=[.ref r,.ref a]/\RoadAt C H r hs/\wu hs/\H a=some (.tup [.int p.1,.int p.2])/\Pt hs c p/\Sm 8000 c /\
 (∀n u q l H',n<=1000->Dist (itP hs p) n->u<n->itP hs p n=itP hs p u->Same H H'->H l=none->H' q=some (.tup [.ref l,.int ((u:Nat):Int)])->PtsAt H' l (qu3 hs p n)->Q (.ref q) H')/\(Dist (itP hs p) 1001->∀H',Same H H'->E (.ref CT) none H')
include T in
theorem xqh (F:Fun K "trace" "trace" za4 f fd)(zby:MCal P w K mg base qv "at" 4 (spAt K qv qx qd)):FK P w K mg base 5 f fd ["road","start"] (qj3 qv qf):=by
 have sc:=xqr;refine F.okX sc (λvs H Q E h=>by obtain⟨_,_,_,_,_,rfl,_⟩:=h;rfl) λ_ _ _ _ H vs Q E U h=>?_;obtain⟨r,a,hs,p,c,rfl,hR,ab,ha,hP,an,k,x⟩:=h;obtain⟨dx,q0,h1,h2⟩:=id hR;obtain⟨tm,am⟩:=T.zae;refine⟨_,(qj (xq (i:=2) wuu)
   (qj (xq (i:=3) (pv 1))
   (qj (y8 bn (pt_cmp (wjp (xqn U) (pv 3) (pv 2))) (qj (vy (wt yx (wn qkg rfl T.len_ bJ (qw (pv 2) qk)) (Wg (v:=V.int 1000) rfl am ⟨_,rfl⟩) (xk _)) (qr (j8 rfl T.zai kj rfl T.zdy (qw W9 qk))) x8)
   (qj (xx0 (xqn U) (pv 2) (pv 3) (wn qkg rfl T.len_ bJ (qw (pv 2) qk)) rfl)
   (qr (xq (i:=3) (vc (pv 0) T.cl zby (U.mono ⋯) qh (qw (pv 3) qk)))))))
   (qr (xw (jx (qw (Ys (ww7 rfl) rfl T.list_ dO (qw (pv 2) qk)) (qw (xz8 (xqn U) (pv 2) (pv 3) (λ_ _=>rfl)) qk)))))))),?_⟩
 refineλD nD=>exI rfl ?_;refine y9 (λσ H2=>∃(i:Nat) (b:Aj),σ=[some (.ref r),some (.ref a),some (.ref D),some (.ref b)]/\i<=1000/\Dist (itP hs p) i/\Same H H2/\H2 D=some (.dT (Qc (λj=>Qq (itP hs p j)) i))/\H2 b=some (.tup [.int (itP hs p i).1,.int (itP hs p i).2]))
  (λ_ H2=>match H2 D with|some (.dT kvs)=>1001-kvs.length|_=>0) ⟨0,a,rfl,⋯,λi j _ z=>absurd z ⋯,Same.upd nD,qc,by rw[qt (q9 ha nD)];exact ha⟩ ?_ λσ H Q Q' h ⟨v,e,v2,e2,a',o,e3,g,kk,e4,q⟩=>⟨v,e,v2,e2,a',o,e3,g,kk,e4,h _ _ q⟩
 rintro σ H2 ⟨i,b,rfl,hi,hd,s2,f2,fb⟩;have a0:Dist (λj=>Qq (itP hs p j)) i:=λu v uv vi e=>hd u v uv vi (quz e);have W:H2 b=some (.tup ((Qq (itP hs p i)).map kV)):=fb;by_cases hj:∃j,j<i/\itP hs p j=itP hs p i
 .obtain⟨j,ji,je⟩:=hj;have hv:uu (Qc (λj=>Qq (itP hs p j)) i) (Qq (itP hs p i))=some (.int j):=by rw[<-je];exact qkf a0 ji
  have dg:DGet H2 D (.ref b) (some (.int j)):=by have:=DGet.t f2 W;rwa [hv]at this
  refine exI rfl (exI rfl ⟨D,exI rfl ⟨dg,_,rfl,?_⟩⟩);refine Q8 ?_;refine exI rfl ⟨D,exI rfl ⟨f2,λl vs nl as=>?_⟩⟩;have J:=Same.upd (o:=.lst vs) nl;have a2:DGet (upd H2 l (.lst vs)) D (.ref b) (some (.int j)):=by have:=DGet.t (J _ _ f2) (J _ _ W);rwa [hv]at this
  refine exI rfl (exI rfl ⟨D,exI rfl ⟨a2,sz2,λq nq=>?_⟩⟩);have L:=J.trans (Same.upd (o:=.tup [.ref l,.int j]) nq);have ap:H l=none:=by
   cases e:H l with
   |none=>rfl
   |some o=>rw[s2 _ _ e]at nl;cases nl
  refine k i j q l _ hi hd ji je.symm (s2.trans L) ap qc ⟨vs,Same.upd nq _ _ qc,?_⟩;refine wvn (l:=List.range i) (λj=>(Qq (itP hs p j),V.int j)) (itP hs p) (λv j hv=>?_) as;obtain⟨b',rfl,a1⟩:=hv;exact⟨b',rfl,L _ _ a1⟩
 .have hn:∀j,j<i->itP hs p j≠itP hs p i:=λj a b=>hj ⟨j,a,b⟩;have hv:uu (Qc (λj=>Qq (itP hs p j)) i) (Qq (itP hs p i))=none:=qvp λj a b=>hn j a (quz b);have dg:DGet H2 D (.ref b) none:=by have:=DGet.t f2 W;rwa [hv]at this
  have ac:=hd.succ hn;refine exI rfl (exI rfl ⟨D,exI rfl ⟨dg,_,rfl,?_⟩⟩);refine Wj ?_;refine exI rfl ⟨D,exI rfl ⟨f2,rfl,_,rfl,?_⟩⟩;rw[Qm];refine yp (λq1=>?_) (λq1=>?_)
  .have:i=1000:=by lia
   subst this;exact⟨sz1,x ac _ s2⟩
  .refine exI rfl ⟨D,exI rfl ⟨f2,exI rfl (exI rfl ⟨D,exI rfl ⟨DPut.t f2 W (Jp (by rw[Qm];lia)),?_⟩⟩)⟩⟩;rw[wy6 _ hv,Qm,<-qv3 (λj=>Qq (itP hs p j)) i];have J:Same H (upd H2 D (.dT (Qc (λj=>Qq (itP hs p j)) (i+1)))):=Same.upd2 s2 nD;have db:b≠D:=λz=>by rw[z,f2]at fb;cases fb
   have ad:upd H2 D (.dT (Qc (λj=>Qq (itP hs p j)) (i+1))) b=some (.tup [.int (itP hs p i).1,.int (itP hs p i).2]):=by rw[qt db];exact fb
   have f3:upd H2 D (.dT (Qc (λj=>Qq (itP hs p j)) (i+1))) D=some (.dT (Qc (λj=>Qq (itP hs p j)) (i+1))):=qc;generalize upd H2 D (.dT (Qc (λj=>Qq (itP hs p j)) (i+1)))=H3 at J ad f3;have Z:=xq8 ab hP i;refine⟨_,rfl,r,dx,_,rfl,J _ _ h1,xj (by decide +kernel),_,rfl,r,b,hs,(itP hs p i).1,(itP hs p i).2,rfl,hR.same J,ab,SqT.of ad,λ_=>⟨(an.of_le (by have:=Z.2.1;have:=Z.1;lia)),λ_ p4 H4 L f4=>?_,λz=>absurd Z.2.2.2 z⟩,λz=>absurd Z.1 ⋯⟩;refine⟨⟨i+1,p4,rfl,⋯,ac,J.trans L,L _ _ f3,f4⟩,?_⟩;show(match H4 D with|some (.dT kvs)=>1001-kvs.length|_=>0)<(match H2 D with|some (.dT kvs)=>1001-kvs.length|_=>0);rw[L _ _ f3,f2];show 1001-(Qc (λj=>Qq (itP hs p j)) (i+1)).length<1001-(Qc (λj=>Qq (itP hs p j)) i).length;rw[Qm,Qm];lia
def qjw (K:Aa)(C:Aj):Sp:=λvs H Q _=>∃(r p:Aj) (hs:List Int) (t b:Int),vs=[.ref r,.ref p]/\RoadAt C H r hs/\wu hs/\SqT K H p [.int t,.int b]/\(1<=b/\Sm 8000 b/\zj hs t b/\¬ Dist (itP hs (wc t b)) 1001) /\
 ∀n u H',Same H H'->n<=1000->Dist (itP hs (wc t b)) n->u<n->itP hs (wc t b) n=itP hs (wc t b) u->Q (if u=0 then .int (n:Nat) else .non) H'
include T in
theorem wyn (F:Fun K "least" "least" za5 f fd)(zar:MCal P w K mg base qv "on_road" 3 (Q5 K qv qx qd))(zes:Cal P w K mg base "trace" 5 (qj3 qv qf)):FK P w K mg base 6 f fd ["road","point"] (qjw K qv):=by
 have sc:=xq4;refine F.okX sc (λvs H Q E h=>by obtain⟨_,_,_,_,_,rfl,_⟩:=h;rfl) λ_ _ _ _ H vs Q E W h=>?_;obtain⟨r,p,hs,t,b,rfl,J,ab,hp,⟨hb,L,Z,nd⟩,k⟩:=h;obtain⟨dx,q0,h1,h2⟩:=id J;refine⟨_,(qj (jj (wj zes (W.mono ⋯) rfl qh (qw (pv 0) (qw (vc (pv 0) T.cl zar (W.mono ⋯) qh (qw (pv 1) qk)) qk))) (yu rfl (xh (xv (i:=2)) (xh (xv (i:=3)) kg))))
   (qr (xw (qw5 (wt yx (pv 3) qy (xk _)) (wn xf rfl T.len_ bJ (qw (pv 2) qk)) qxd)))),?_⟩
 refine⟨_,rfl,_,rfl,r,dx,_,rfl,h1,xj (by decide +kernel),_,rfl,r,p,hs,t,b,rfl,J,ab,hp,λ_=>⟨L,λ_ p1 H1 U f1=>?_,λz=>absurd Z z⟩,λz=>absurd hb ⋯⟩;refine⟨r,p1,hs,wc t b,b,rfl,J.same U,ab,f1,wwy hb Z,L,λn u q3 l3 H3 n1 d1 u1 e1 s3 _ f3 ac=>?_,λd=>absurd d nd⟩;obtain⟨ws,fl,pr⟩:=ac;have lw:ws.length=n:=by rw[pr.length,uj]
 refine⟨q3,exI rfl ⟨SqT.of f3,rfl,_,_,rfl,_,_,rfl,rfl,?_⟩⟩;have D:=k n u H3 (U.trans s3) n1 d1 u1 e1;refine exI rfl ⟨rfl,_,rfl,yp (λz=>?_) (λz=>?_)⟩
 .rw[av ⋯]at D;refine exI rfl ⟨_,_,rfl,.inl (SqL.of fl),?_⟩;rw[lw];exact D
 .rw[ao ⋯]at D;exact D
def Kp (H H':Hp):Prop:=∀b o,(∀ps,o≠HO.tbl ps)->H b=some o->H' b=some o
theorem Kp.of (s:Same H H'):Kp H H':=λb o _ e=>s b o e
theorem Kp.ofT {T:Aj}{ps:Array Ag}(hT:H T=some (.tbl ps))(s:KeepT T H H'):Kp H H':=λb o n e=>s b o (λz=>by rw[z,hT]at e;cases e;exact n _ rfl) e
theorem Kp.trans {H'':Hp}(a:Kp H H')(b:Kp H' H''):Kp H H'':=λc o n e=>b c o n (a c o n e)
theorem Kp.lst (k:Kp H H'){b:Aj}{xs:List V}(e:H b=some (.lst xs)):H' b=some (.lst xs):=k b _ (λps z=>by cases z) e
theorem Kp.tup (k:Kp H H'){b:Aj}{xs:List V}(e:H b=some (.tup xs)):H' b=some (.tup xs):=k b _ (λps z=>by cases z) e
theorem Kp.none (k:Kp H H'){b:Aj}(hT:∀ps,H b=some (.tbl ps)->False)(e:H' b=.none):H b=.none:=by
 cases q:H b with
 |none=>rfl
 |some o=>rw[k b o (λps z=>hT ps (by rw[q,z])) q]at e;cases e
theorem Kp.upd {p:Aj}(k:Kp H H')(n:H p=.none):Kp H (L2.upd H' p o):=λb u h e=>by rw[qt (q9 e n)];exact k b u h e
theorem Kp.sql {a:Aj}{xs:List V}(k:Kp H H')(h:SqL K H a xs):SqL K H' a xs:=by
 rcases h with (h|⟨o,h⟩)|h
 .exact .inl (.inl (k.lst h))
 .exact .inl (.inr ⟨o,k _ _ (λps z=>by cases z) h⟩)
 .exact .inr h
def PL (H:Hp)(vs:List V)(pt:Nat->Int×Int):Prop:=∀i v,vs[i]?=some v->∃a,v=.ref a/\H a=some (.tup [.int (pt i).1,.int (pt i).2])
theorem PL.kp {vs:List V}{pt:Nat->Int×Int}(h:PL H vs pt)(k:Kp H H'):PL H' vs pt:=λi v e=>by obtain⟨a,e1,e2⟩:=h i v e;exact⟨a,e1,k.tup e2⟩
def OkP (q:Int×Int):Prop:=1<=q.2/\Sm 150 q.1/\Sm 150 q.2
theorem uh {T:Aj}{pos:Pos}{q:Str}(h:jk T pos q H)(s:Same H H'):jk T pos q H':=by
 rcases h with h|⟨c,h1,h2⟩
 .exact .inl (s _ _ h)
 .exact .inr ⟨c,s _ _ h1,s _ _ h2⟩
theorem tab_wr {T p:Aj}{pos:Pos}{q:Str}{xs:List V}(h:jk T pos q H)(hp:H p=some (.lst xs)):jk T pos q (L2.upd H p o):=by
 rcases h with h|⟨c,h1,h2⟩
 .exact .inl (by rw[qt (λz=>by rw[z,hp]at h;cases h)];exact h)
 .exact .inr ⟨c,by rw[qt (λz=>by rw[z,hp]at h1;cases h1)];exact h1,by rw[qt (λz=>by rw[z,hp]at h2;cases h2)];exact h2⟩
theorem xqg {T:Aj}{pos:Pos}{q:Str}(h:jk T pos q H):∃ps,H T=some (.tbl ps):=by
 rcases h with h|⟨c,h,_⟩
 .exact⟨_,h⟩
 .exact⟨_,h⟩
abbrev js:Pos:=⟨71,30,71,72⟩
abbrev qqn:Str:=("ordered" : Str) ++ ".<locals>." ++ "<lambda>"
def lamOf:Stmt->Expr
 |.Return (some (.Call _ _ [⟨_,l,_⟩] _)) _=>l
 |_=>.Constant .none 0 ⟨0,0,0,0⟩
def lamA:Expr->Arguments
 |.Lambda a _ _ _=>a
 |_=>⟨[],[],none,[],[],none,[]⟩
def lamB:Expr->Expr
 |.Lambda _ b _ _=>b
 |e=>e
abbrev wu3:Expr:=lamOf ((zt zal).getD 3 (.Pass ⟨0,0,0,0⟩))
theorem xwh {x y z:Str}(h:([(x,NameKind.local),(y,NameKind.free)]:List (Str×NameKind)).lookup z=some .free):z=y:=by
 rw[bv]at h;split at h
 .cases h
 .rw[bv]at h;split at h
  .rename_i e;simpa using e
  .cases h
def wz2 (K:Aa)(T C:Aj):Sp:=λvs H Q E=>∃(p:Aj) (xs:List V) (pt:Nat->Int×Int),vs=[.ref p]/\SqL K H p xs/\PL H xs pt/\jk T js qqn H/\(∀i,i<xs.length->OkP (pt i))/\(∀i j,i<j->j<xs.length->(pt i).1*(pt j).2≠(pt j).1*(pt i).2)/\xs.length<=2000/\∀(l:Aj) (il:List Nat) (H':Hp),Kp H H'->jk T js qqn H'->H l=none->il.Perm (List.range xs.length)->il.Pairwise (Wor pt)->H' l=some (.lst (il.map λi=>xs.getD i .non))->Q (.ref l) H'
theorem zet {f:Aj}{fd:Ad}{cO TT:Aj}(F:FunT K "ordered" zal cO f fd)(T:Txt K mg qp qx qd qu qf qg qv)(hB:BMain mg base)(hC:PySem.W.codeHdIn K cO TT=true)(zbw:Cal P w K mg base "check_bottom" 1 (qwk qx)) :
  FK P w K mg base 6 f fd ["points"] (wz2 K TT qx):=by
 have sc:=ww2;have an:LamSc "point" "scale" ⟨.function,[("point",.local),("scale",.free)],false,false,[]⟩:=⟨rfl,rfl,rfl,rfl,rfl,⋯,λz h=>xwh h,⋯⟩;refine F.okX sc (λvs H Q E h=>by obtain⟨_,_,_,rfl,_⟩:=h;rfl) (λA outer s H vs Q E hr h=>?_);obtain⟨p,xs,pt,rfl,U,hP,hT,J,as,a5,k⟩:=h;refine⟨_,(qj (j9 bn rfl (vz (pv 0)) (xv (i:=1)) (qr (km (wj zbw (hr.mono ⋯) rfl qh (qw (zu qwt (pv 1) qy (λ_ _=>rfl)) qk)))))
   (qj (xq (i:=2) (wjw (wkw rfl) rfl T.max_ d7 (qw (kx (M:=[]) rfl rfl (by walk_at "cap") (by walk_at "has") (by walk_at "cix") rfl (by decide +kernel) rfl (show List.Nodup (["point"]:List Str) by decide +kernel) (vz (pv 0)) (λ_ _ _ _ _=>(zu (Z8 (K:=K) rfl) (pv 0) qy (λ_ _=>rfl)))) qk) (wv0 qy wyp)))
   (qj (xq (i:=3) (wb zw (pv 2) (pv 2)))
   (qr (xw (wxs (qk8 (k:=0) (params:=lamA wu3) (body:=lamB wu3) (qual:=qqn) (pm:=(mg "__name__").getD .none) (x := "point") (y := "scale") (iy:=3) an (hr.mono ⋯) rfl rfl rfl rfl (by intro _ _ _;rfl) (λ_ _ _ _ _ _ _=>(wb uc (wb zw (zu (Z8 (K:=K) rfl) (pv 0) qy (λ_ _=>rfl)) (pv 1)) (zu (Z8 (K:=K) rfl) (pv 0) qy (λ_ _=>rfl))))) rfl T.sorted_ fI (qw (pv 0) qk) (wv0 (pe_lam hB rfl hC rfl rfl) wyp))))))),?_⟩
 refine exI rfl ⟨p,rfl,⟨_,U⟩,wq0 (K:=K) (a:=p) (xs:=xs) (λi σ H1=>H1=H/\(∀j,j<i->1<=(pt j).2)/\∃z,σ=[some (.ref p),z,none,none]) ⟨rfl,λj h=>absurd h ⋯,_,rfl⟩ ?_ ?_ ?_⟩
 .rintro i σ H1 _ ⟨rfl,_,_,_⟩;exact U
 .rintro i y σ H1 hy ⟨rfl,hn,z,rfl⟩;obtain⟨a,rfl,fa⟩:=hP i y hy;have hi:i<xs.length:=(ak.mp hy).1;refine⟨_,rfl,_,_,_,_,rfl,rfl,SqT.of fa,rfl,_,rfl,λh1=>⟨rfl,λj D=>?_,_,rfl⟩,λh2=>?_⟩
  .by_cases e:j=i
   .rw[e];exact h1
   .exact hn j ⋯
  .exact absurd (J i hi).1 ⋯
 .rintro σ H1 ⟨rfl,hn,z,rfl⟩;refine exI rfl ⟨p,rfl,⟨_,U⟩,Qz (K:=K) (a:=p) (xs:=xs) (λj v _=>v=.int (pt j).2) (λi v H H' p g _ _=>g) U ⋯ (λi x H2 R hx hs hR=>?_) λp2 ys H2 a3 s2 f2 a4 ad=>?_⟩
  .obtain⟨a,rfl,fa⟩:=hP i x hx;exact exI rfl (exX rfl rfl (SqT.of (hs _ _ fa)) rfl (hR _ _ (Same.refl _) rfl λb e=>nomatch e))
  have ey:ys=((List.range xs.length).map λj=>(pt j).2).map V.int:=by
   refine bT λj=>?_;rw[bF,ax];by_cases D:j<xs.length
   .rw[bA D];have e:ys[j]?=some ys[j]:=ae ⋯;rw[e,(ad j _ e).1];rfl
   .rw[aO ⋯,aO (by rw[aH];lia)];rfl
  rw[ey]at f2;refine⟨p2,_,1,rfl,rfl,SqL.of f2,λG a1 ad=>?_⟩;have L:∀i,i<xs.length->(pt i).2<=G:=λi hi=>a1 _ (aS.mpr ⟨i,aw.mpr hi,rfl⟩);have gs:Sm 150 G:=by
   rcases ad with h|⟨_,h⟩
   .obtain⟨i,hi,rfl⟩:=aS.mp h;exact(J i (aw.mp hi)).2.2
   .rw[h];unfold Sm;decide +kernel
  refine exI rfl (exI rfl (w8 rfl rfl ⟨gs.ok gs ⋯,?_⟩));refine exI rfl ⟨uh hT s2,λg c' ctv H3 kT tA ng fg=>?_⟩;obtain⟨ps,ap⟩:=xqg (uh hT s2);have k3:Kp H2 H3:=Kp.ofT ap kT;have Z:Kp H1 H3:=(Kp.of s2).trans k3;have P3:=hP.kp Z;refine⟨p,xs,(List.range xs.length).map (λi=>Yt (G*G) (pt i)),g,c',ctv,.int (G*G),rfl,rfl,Z.sql U,⋯,?_,by rw[ag,aH],fg,tA.2,rfl,λi v hv=>?_,λl il nl st=>?_⟩
  .refine bh.mpr λi j hi D am=>?_;rw[ag,aH]at hi D;simp only[gF,List.getElem_range];intro z;have w:=wxt (J i hi).1 (J j D).1 (L i hi) (L j D) (.inr ⟨z,am⟩);have w':=λh=>wxt (pt:=pt) (i:=j) (j:=i) (J j D).1 (J i hi).1 (L j D) (L i hi) h;rcases w with w|⟨w,_⟩
   .exact jY _ (by have:=wvd (J i hi).1 (J j D).1 (L i hi) (L j D) w;rw[z]at this;exact this)
   .exact as i j am D w
  .obtain⟨a,rfl,fa⟩:=P3 i v hv;have hi:i<xs.length:=(ak.mp hv).1;obtain⟨o1,o2,o3⟩:=J i hi;refine exI rfl (exX rfl rfl (SqT.of fa) rfl (exI rfl (w8 rfl rfl ⟨o2.ok (gs.mul gs) ⋯,exI rfl (exX rfl rfl (SqT.of fa) rfl (w8 rfl rfl ⟨⟨⋯,o3.mono ⋯⟩,?_,rfl⟩))⟩)));rw[af,ax,bA hi];rfl
  .have a0:∀ps,H1 l=some (.tbl ps)->False:=λps e=>by
    obtain⟨a2,e2⟩:=xqg hT;have:H3 l=none:=nl;by_cases h:l=TT
    .rw[h,tA.1]at this;cases this
    .rw[kT l _ h (s2 _ _ e)]at this;cases this
   have n1:H1 l=none:=Z.none a0 nl;refine k l il _ (Z.upd n1) (uh (.inr ⟨c',tA⟩) (Same.upd nl)) n1 st.1 ?_ qc;refine st.2.imp_of_mem λ{i j} hi D h=>?_;have ac:i<xs.length:=aw.mp (st.1.mem_iff.mp hi);have ab:j<xs.length:=aw.mp (st.1.mem_iff.mp D);have e:∀i,i<xs.length->((List.range xs.length).map λi=>Yt (G*G) (pt i)).getD i 0=Yt (G*G) (pt i):=λi h=>by rw[af,ax,bA h];rfl
   rw[e i ac,e j ab]at h;exact wxt (J i ac).1 (J j ab).1 (L i ac) (L j ab) h
def inK (p:Int×Int)(k:Int):Bool:=decide (k*p.2<=p.1/\p.1<=(k+1)*p.2)
def Wr (ws:List Int)(p:Int×Int):Bool:=ws.any (inK p)
def liesV (p:Int×Int):V->V
 |.int k=>.bl (inK p k)
 |_=>.non
def wzb (K:Aa):Sp:=λvs H Q _=>∃(a q:Aj) (p:Int×Int) (ws:List Int),vs=[.ref a,.ref q]/\SqT K H a [.int p.1,.int p.2]/\SqL K H q (ws.map V.int)/\ws.length<=1000/\(∀k∈ws,0<=k/\k<24)/\∀H',Same H H'->Q (.bl (Wr ws p)) H'
include T in
theorem xvw (F:Fun K "lies_in" "lies_in" za9 f fd):FK P w K mg base 1 f fd ["point","stretches"] (wzb K):=by
 have W:=wzy;refine F.okX W (λvs H Q E h=>by obtain⟨_,_,_,_,rfl,_⟩:=h;rfl) λ_ _ _ _ H vs Q E hr h=>?_;obtain⟨a,q,p,D,rfl,hA,L,hl,hw,k⟩:=h;refine⟨_,(qj (jj (pv 0) (yu rfl (xh (xv (i:=2)) (xh (xv (i:=3)) kg))))
   (qr (xw (wn (qz5 (K:=K) rfl rfl) rfl T.any_ PyProof.Rows.boot_any (qw (kx (M:=[2,3]) rfl rfl (by walk_at "cap") (by walk_at "has") (by walk_at "cix") rfl (by decide +kernel) rfl (show List.Nodup (["stretch","top","bottom"]:List Str) by decide +kernel) (vz (pv 1)) (λ_ _ _ _ _=>(qj0 (qq7 wv2 (pv 1) (wb zw (pv 0) (pv 2)) (xk _)) (qj9 (qq7 qu5 (pv 1) (wb zw (wb xu (pv 0) qy) (pv 2)) (xk _)))))) qk))))),?_⟩
 refine exI rfl ⟨a,exI rfl ⟨hA,rfl,_,_,rfl,_,_,rfl,rfl,?_⟩⟩;refine exI rfl ⟨q,rfl,⟨_,L⟩,wwp (K:=K) (liesV p) (λx b z=>by cases x <;> cases z) L (by rw[ag];lia) (λx H' R hx hs hR=>?_) λp2 H2 np s2 U=>?_⟩
 .obtain⟨i,hi,rfl⟩:=aS.mp hx;obtain⟨i0,i1⟩:=hw i hi;have m1:∀x:Int,IntMulOk i x:=λx=>IntMulOk.of_left (intBits_le_64 ⋯ ⋯);have Z:∀x:Int,IntMulOk (i+1) x:=λx=>IntMulOk.of_left (intBits_le_64 ⋯ ⋯);refine exI rfl (exI rfl (exI rfl (w8 rfl rfl ⟨m1 _,w8 rfl rfl (exI rfl ?_)⟩)));have J:R (.bl (decide (i*p.2<=p.1/\p.1<=(i+1)*p.2))) H':=hR H' (Same.refl _);refine j6 (λz=>?_) (λz=>?_)
  .refine exI rfl (exI rfl (w8 rfl rfl (exI rfl (w8 rfl rfl ⟨Z _,w8 rfl rfl ?_⟩))));have e:decide (i*p.2<=p.1/\p.1<=(i+1)*p.2)=decide (p.1<=(i+1)*p.2):=by
    by_cases y:p.1<=(i+1)*p.2
    .rw[aR y,aR ⟨z,y⟩]
    .rw[ba y,ba (λw=>y w.2)]
   rw[e]at J;exact J
  .rw[ba (λw=>z w.1)]at J;exact J
 .have e:(D.map V.int).map (liesV p)=(D.map (inK p)).map V.bl:=by rw[bF,bF];rfl
  rw[e]at U;refine⟨p2,exI rfl ⟨SqL.of U,?_⟩⟩;have e2:(D.map (inK p)).any id=Wr D p:=by unfold Wr;rw[List.any_map];rfl
  rw[e2];exact k _ s2
def qkj (hs:List Int)(m:Nat):List (Int×Int):=((List.range hs.length).filter λc:Nat=>decide (itP hs ((0:Int)+c,1) m=((0:Int)+c,1))).map λc:Nat=>((0:Int)+c,(1:Int))
def qj1 (C:Aj):Sp:=λvs H Q _=>∃(r:Aj) (hs:List Int) (m:Int),vs=[.ref r,.int m]/\RoadAt C H r hs/\wu hs/\1<=m/\m<=12/\∀p ys H',H p=none->Same H H'->H' p=some (.lst ys)->Paired (PtR H') ys (qkj hs m.toNat)->Q (.ref p) H'
theorem wqr (h:PtR H v p)(k:∀b o,(∀xs,o≠HO.lst xs)->H b=some o->H' b=some o):PtR H' v p:=by obtain⟨a,e,f⟩:=h;exact⟨a,e,k a _ (λxs z=>by cases z) f⟩
theorem low1 (x:Int):wc x 1=(x,1):=by
 have h1:=vt (t:=x) (b:=1) ⋯;have h2:=Zw (t:=x) (b:=1) ⋯;have h3:=jr (t:=x) (b:=1) ⋯;have e2:(wc x 1).2=1:=by lia
 rw[e2]at h3;exact ko ⋯ e2
theorem y7 {α β:Type}{R:α->β->Prop}{f:Nat->α}{g:Nat->β}:∀ {l:List Nat},(∀i∈l,R (f i) (g i))->Paired R (l.map f) (l.map g)
 |[],_=>.nil
 |i::l,h=>.cons (h i (.head _)) (y7 λj hj=>h j (.tail _ hj))
include T in
theorem xwt (F:Fun K "corners_back" "corners_back" za8 f fd)(zaa:MCal P w K mg base qv "width" 1 (jn qv))(zeu:Cal P w K mg base "walked" 5 (qxs K qv qx qd qu)) :
  FK P w K mg base 6 f fd ["road","many"] (qj1 qv):=by
 have sc:=qqs;refine F.okX sc (λvs H Q E h=>by obtain⟨_,_,_,rfl,_⟩:=h;rfl) λ_ _ _ s H vs Q E Z h=>?_;obtain⟨r,hs,m,rfl,hR,L,m1,m2,k⟩:=h;have o1:=L.1;have o2:=L.2.1;obtain⟨dx,q0,h1,h2⟩:=id hR;refine⟨_,(qj (k7 (i:=2) (M:=[]) sc.nd rfl (by walk_at "loc") rfl rfl (by walk_at "cap") (by walk_at "has") (by walk_at "cix") rfl (by decide +kernel) rfl (show List.Nodup (["corner"]:List Str) by decide +kernel) (xm rfl T.range_ (qw (wb xu (k8 (pv 0) T.cl zaa (Z.mono ⋯) qh) qy) qk)) (λ_ _ _ _ _=>(jx (qw (pv 0) (qw qy qk)))))
   (qr (xw (Z1 (M:=[0,1]) rfl rfl (by walk_at "cap") (by walk_at "has") (by walk_at "cix") rfl (by decide +kernel) rfl (show List.Nodup (["corner","road","many"]:List Str) by decide +kernel) (vz (pv 2)) (λ_ _ _ _ _=>(wt (xx3 (K:=K) rfl Z.units) (zu (yk (K:=K) rfl) (wj zeu (Z.mono ⋯) rfl Q7 (qw (pv 1) (qw (pv 0) (qw (pv 2) qk)))) (pv 2) (λ_ _=>rfl)) (pv 0) (xk _))) (λ_ _ _ _ _=>(pv 0)))))),?_⟩
 refine exI rfl ⟨r,dx,exI rfl ⟨h1,xj (by decide +kernel),r,hs,rfl,hR,w8 rfl rfl (exI rfl ⟨⋯,⋯,?_⟩)⟩⟩;rw[show((hs.length:Int)-1+1).toNat=hs.length by lia];refine www (λi v H=>PtR H v ((0:Int)+i,1)) (λi v H1 H2 g st=>wqr g st) ⋯ (λi H' R hi s' as=>?_) λp1 D H1 n1 J f1 U g1=>?_
 .exact exI rfl ⟨sz2,λp np=>as _ _ (Same.upd np) ⟨p,rfl,qc⟩⟩
 refine exI rfl ⟨p1,rfl,⟨_,SqL.of f1⟩,W5 (K:=K) (λi=>decide (itP hs ((0:Int)+i,1) m.toNat=((0:Int)+i,1))) (SqL.of f1) ⋯ (λi x H2 R W s2 ab=>?_) (λi x H2 R W _ s2 ab=>?_) λp3 H3 n3 s3 f3=>?_⟩
 .obtain⟨a,rfl,fa⟩:=g1 i x W;have hi:i<hs.length:=by rw[<-U];exact(ak.mp W).1
  have ac:=s2 _ _ fa;have am:=J.trans s2;have on:zj hs ((0:Int)+i) 1:=⟨⋯,⋯⟩;refine⟨_,rfl,_,rfl,_,rfl,r,a,hs,(0:Int)+i,1,m,rfl,hR.same am,L,SqT.of ac,λ_=>⟨Sm.small ⋯ ⋯ ⋯,λ_=>⟨λ_ q H4 nq s4 P4=>?_,λz=>absurd ⟨⋯,λy e=>by cases e;lia⟩ z⟩,λz=>absurd on z⟩,λz=>absurd z ⋯⟩;rw[low1]at P4;obtain⟨ad,f4,an⟩:=P4;obtain⟨v,ev,⟨b,rfl,fb⟩⟩:=Wc (i:=m.toNat) (b:=itP hs ((0:Int)+i,1) m.toNat) an (by rw[Jk,aA (by rw[uj];exact aj _),uj];simp);have ea:atI ad m=some (.ref b):=by have:=jz ev;rwa [cA ⋯]at this
  refine exI rfl (exX rfl rfl (SqL.of f4) ea (exI rfl ?_));refine⟨ptD _,ptD ((0:Int)+i,1),rd_pt (SqT.of fb),rd_pt (SqT.of (s4 _ _ ac)),rfl,rfl,dep_pt,?_⟩;refine exI rfl ?_;show R (PyData.eqv (ptD (itP hs ((0:Int)+i,1) m.toNat)) (ptD ((0:Int)+i,1))) H4;rw[eqv_pt];exact ab _ s4
 .exact exI rfl (ab _ (Same.refl _))
 .refine k p3 _ H3 (jg J n3) (J.trans s3) f3 ?_;unfold uk qkj;rw[U];refine y7 λi hi=>?_;have ap:i<D.length:=by rw[U];exact aw.mp (bz.mp hi).1
  have e:D[i]?=some (D.getD i .non):=by rw[af,ae ap];rfl
  exact(g1 i _ e).same s3
def two (p:Int×Int):List Int:=[p.1,p.2]
theorem xzc {q:Int×Int}(h:two p=two q):p=q:=by unfold two at h;exact ko (iW h).1 (iW (iW h).2).1
theorem vn {α:Type}{l:List α}{x d:α}(h:l[i]?=some x):l.getD i d=x:=by rw[af,h];rfl
def qkx (hs:List Int)(m:Nat):List (Int×Int):=(((List.range (xt hs m).length).filter λi=>!decide ((wg hs ((xt hs m).getD i [])).1=1)).map λi=>Qf (wg hs ((xt hs m).getD i [])))++qkj hs m
theorem wy1 (ok:wu hs){m:Nat}{p:Int×Int}:p∈qkj hs m↔(p.2=1/\0<=p.1/\p.1<=(hs.length:Int)-1/\trT hs p.1 1 m=p.1):=by
 have J:=ok.1;have tl:∀t:Int,itP hs (t,1) m=(trT hs t 1 m,1):=λt=>by have:=Yz (hs:=hs) (t:=t) (b:=1) ⋯ m;rw[low1,low1]at this;exact this.symm
 unfold qkj;rw[aS];constructor
 .rintro⟨c,D,rfl⟩;obtain⟨h1,h2⟩:=bz.mp D;have h1:=aw.mp h1;have h2:=ca h2;rw[tl]at h2;refine⟨rfl,?_,?_,(Prod.ext_iff.mp h2).1⟩
  .show(0:Int)<=0+c;lia
  .show(0:Int)+c<=_;lia
 .rintro⟨h1,h2,L,F⟩;refine⟨p.1.toNat,bz.mpr ⟨aw.mpr ⋯,?_⟩,ko (by show(0:Int)+(p.1.toNat:Int)=p.1;lia) h1.symm⟩;rw[show(0:Int)+(p.1.toNat:Int)=p.1 by lia,tl,F];exact aR rfl
theorem qk0 (h:r∈xt hs m):∃i,i<(xt hs m).length/\(xt hs m).getD i []=r:=by obtain⟨i,hi,e⟩:=de h;exact⟨i,hi,by rw[af,ae hi,e];rfl⟩
theorem Z4 (h:i<(xt hs m).length):(xt hs m).getD i []∈xt hs m:=by rw[af,ae h];exact bw h
theorem wqv (ok:wu hs){m:Nat}{p:Int×Int}:p∈qkx hs m↔Qn hs m p:=by
 unfold qkx Qn;rw[aY,wy1 ok,aS];refine or_congr ?_ Iff.rfl;constructor
 .rintro⟨i,hi,rfl⟩;obtain⟨h1,h2⟩:=bz.mp hi;refine⟨_,Z4 (aw.mp h1),λz=>?_,rfl⟩;rw[z]at h2;cases h2
 .rintro⟨r,D,h1,rfl⟩;obtain⟨i,hi,rfl⟩:=qk0 D;exact⟨i,bz.mpr ⟨aw.mpr hi,by rw[ba h1];rfl⟩,rfl⟩
theorem qw6 (ok:wu hs){m:Nat}(m1:1<=m)(m2:m<=12){p:Int×Int}(h:Qn hs m p):OkP p:=by
 obtain⟨U,_,F⟩:=Z2 ok m1 m2 h;have Z:=ok.2.1;have ac:p.2<=36520347436056577:=by
  rcases h with⟨r,L,z,rfl⟩|⟨e1,_⟩
  .have c:=(ku ok m1).mp L;have D:=Yn ok (xs:=r) r.length;rw[bD,c.1]at D;have D:(wg hs r).1.natAbs<=24 ^ 12:=bK D (dv ⋯ m2);have J:(24:Nat) ^ 12=36520347436056576:=by decide
   rw[J]at D;unfold Qf;split
   .have:=Zw (t:=-(wg hs r).2) (b:=(wg hs r).1-1) ⋯;lia
   .have:=Zw (t:=(wg hs r).2) (b:=1-(wg hs r).1) ⋯;lia
  .lia
 have top:p.1<=24*p.2:=eA F.2 (aK ⋯ ⋯);have W:=F.1;exact⟨U,Sm.small ⋯ ⋯ ⋯,Sm.small ⋯ ⋯ ⋯⟩
theorem qjr (ok:wu hs){m:Nat}(m1:1<=m){i:Nat}(h:i<(xt hs m).length):0<=((xt hs m).getD i []).getD 0 0/\((xt hs m).getD i []).getD 0 0<(hs.length:Int)-1:=by
 have c:=(ku ok m1).mp (Z4 h);refine c.2.1 _ ?_;have l:0<((xt hs m).getD i []).length:=by rw[c.1];lia
 generalize (xt hs m).getD i []=r at l;rw[af,ae l];exact bw l
structure BackOf (hs:List Int)(m:Nat)(pts:List (Int×Int))(ws:List Int):Prop where
 wup:ws.Pairwise (·<·)
 wmem:∀v,v∈ws↔yh hs m v
 pup:pts.Pairwise λp q=>p.1*q.2<q.1*p.2
 pmem:∀p,p∈pts↔(Qn hs m p/\Wr ws p=false)
 wfew:ws.length<=24
 pfew:pts.length<=1025
def ww4 (C TT:Aj):Sp:=λvs H Q _=>∃(r:Aj) (hs:List Int) (m:Int),vs=[.ref r,.int m]/\RoadAt C H r hs/\wu hs/\1<=m/\m<=12/\crS hs m.toNat<=1000/\jk TT js qqn H /\
 ∀(a lp lw:Aj) (ys:List V) (pts:List (Int×Int)) (ws:List Int) (H':Hp),Kp H H'->jk TT js qqn H'->H' a=some (.tup [.ref lp,.ref lw])->H' lp=some (.lst ys)->Paired (PtR H') ys pts->H' lw=some (.lst (ws.map V.int))->BackOf hs m.toNat pts ws->Q (.ref a) H'
theorem wq2:∀ {ys:List V} {ps:List (Int×Int)},Paired (PtR H) ys ps->Tups (ps.map two) ys H
 |_,_,.nil=>.nil
 |_,_,.cons ⟨a,e,f⟩ t=>.cons ⟨a,e,f⟩ (wq2 t)
theorem xvz {ps:List (Int×Int)}{ys:List V}{L:List (List Int)}(h:Tups L ys H)(e:L=ps.map two):Paired (PtR H) ys ps:=by
 subst e
 induction ps generalizing ys with
 |nil=>cases h;exact .nil
 |cons p ps ih =>
  cases h with
  |cons r t=>exact .cons r (ih t)
theorem qwh {ps:List (Int×Int)}:∀ {L:List (List Int)},(∀x∈L,x∈ps.map two)->∃qs:List (Int×Int),L=qs.map two/\∀q∈qs,q∈ps
 |[],_=>⟨[],rfl,λq h=>by cases h⟩
 |x::L,h=>by
  obtain⟨p,hp,e⟩:=aS.mp (h x (.head _));obtain⟨qs,e2,h2⟩:=qwh (L:=L) λy hy=>h y (.tail _ hy);refine⟨p::qs,by rw[e2,<-e];rfl,λq hq=>?_⟩;rcases aQ.mp hq with rfl|hq
  .exact hp
  .exact h2 q hq
theorem wks {l:List Int}(h:l.Pairwise (·<=·))(nd:l.Nodup):l.Pairwise (·<·):=by refine List.Pairwise.imp₂ (λa b h1 h2=>?_) h nd;have:a≠b:=h2;lia
include T in
theorem xvr {f:Aj}{fd:Ad}{TT:Aj}(F:Fun K "back" "back" zba f fd)(zev:Cal P w K mg base "rows" 7 (wxq qv qu qf))(zew:Cal P w K mg base "fixed_point" 5 (qk2 K qv))(zex:Cal P w K mg base "corners_back" 6 (qj1 qv))(zey:Cal P w K mg base "lies_in" 1 (wzb K))(zbz:Cal P w K mg base "ordered" 6 (wz2 K TT qx)) :
  FK P w K mg base 8 f fd ["road","many"] (ww4 qv TT):=by
 have sc:=xzh;refine F.okX sc (λvs H Q E h=>by obtain⟨_,_,_,rfl,_⟩:=h;rfl) λ_ _ _ s H vs Q E hr h=>?_;obtain⟨r,hs,m,rfl,hR,W,m1,m2,c8,hT,k⟩:=h;have o1:=W.1;have o2:=W.2.1;have d3:(1000000:Nat)<sizeLine:=by decide
 have n1:1<=m.toNat:=by lia
 have n2:m.toNat<=12:=by lia
 have rl:=qv6 W n1;have ci:∀x∈xt hs m.toNat,ClR hs m.toNat x:=λx J=>(ku W n1).mp J;refine⟨_,(qj (xq (i:=2) (wj zev (hr.mono ⋯) rfl qh (qw (pv 0) (qw (pv 1) qk))))
   (qj (k7 (i:=3) (M:=[0]) sc.nd rfl (by walk_at "loc") rfl rfl (by walk_at "cap") (by walk_at "has") (by walk_at "cix") rfl (by decide +kernel) rfl (show List.Nodup (["row","road"]:List Str) by decide +kernel) (vz (pv 2)) (λ_ _ _ _ _=>(wj zew (hr.mono ⋯) rfl Q7 (qw (pv 1) (qw (pv 0) qk)))))
   (qj (xq (i:=4) (wn (qzr rfl) rfl T.sorted_ fI (qw (wy2 (x := "row") (y2 := "point") (M:=[]) rfl rfl (by walk_at "cap") (by walk_at "has") (by walk_at "cix") rfl (by decide +kernel) (λ_ _ _ _ _=>xx9 (K:=K) (n:=2) rfl rfl (xh (xv (i:=0) (show List.Nodup (["row","point"]:List Str) by decide +kernel) rfl (by walk_at "loc")) (xh (xv (i:=1) (show List.Nodup (["row","point"]:List Str) by decide +kernel) rfl (by walk_at "loc")) kg))) (pi_zip rfl T.zip_ (qw (pv 2) (qw (pv 3) qk))) (λ_ _ _ _ _=>(wt op_isN (pv 1) qxd (xk _))) (λ_ _ _ _ _=>(zu (Z8 (K:=K) rfl) (pv 0) qy (λ_ _=>rfl))) (λ_ _ _ _ _=>(wun (P:=P) (w:=w) rfl rfl))) qk)))
   (qj (xq (i:=5) (wb wuf (Z1 (M:=[]) rfl rfl (by walk_at "cap") (by walk_at "has") (by walk_at "cix") rfl (by decide +kernel) rfl (show List.Nodup (["point"]:List Str) by decide +kernel) (vz (pv 3)) (λ_ _ _ _ _=>(wt wzn (pv 0) qxd (xk _))) (λ_ _ _ _ _=>(pv 0))) (wj zex (hr.mono ⋯) rfl qh (qw (pv 0) (qw (pv 1) qk)))))
   (qj (xq (i:=6) (wj zbz (hr.mono ⋯) rfl qh (qw (wn (qzt rfl) rfl T.sorted_ fI (qw (xx1 (M:=[4]) rfl rfl (by walk_at "cap") (by walk_at "has") (by walk_at "cix") rfl (by decide +kernel) rfl (show List.Nodup (["point","wholes"]:List Str) by decide +kernel) (vz (pv 5)) (λ_ _ _ _ _=>(wxd (wwu (wj zey (hr.mono ⋯) rfl Q7 (qw (pv 0) (qw (pv 1) qk)))))) (λ_ _ _ _ _=>(pv 0)) (λ_ _ _ _ _=>(wyj (P:=P) (w:=w) rfl rfl hr.units))) qk)) qk)))
   (qr (xw (jx (qw (pv 6) (qw (pv 4) qk)))))))))),?_⟩
 dsimp only [Yx];refine exI rfl (exI rfl ⟨r,hs,m,rfl,hR,W,m1,m2,c8,λp1 ab H1 d1 s1 f1 t1=>?_⟩);have l1:=t1.len;have cj:∀i x,ab[i]?=some x->∃a,x=.ref a/\i<(xt hs m.toNat).length/\H1 a=some (.tup (((xt hs m.toNat).getD i []).map V.int)):=λi x J=>by obtain⟨a,xs,e1,e2,e3⟩:=t1.get J;exact⟨a,e1,(ak.mp e2).1,by rw[af,e2];exact e3⟩
 refine exI rfl ⟨p1,rfl,⟨_,SqL.of f1⟩,qwd (K:=K) (λi v H=>FixR H (wg hs ((xt hs m.toNat).getD i [])) v) (λi v H H' g st=>?_) (SqL.of f1) ⋯ (λi x H2 R J s2 a4=>?_) λp3 fs H3 dz s3 f3 l3 g3=>?_⟩
 .rcases g with g|⟨g1,q,g2,g3⟩
  .exact .inl g
  .exact .inr ⟨g1,q,g2,st _ _ (λxs z=>by cases z) g3⟩
 .obtain⟨a,rfl,hi,fa⟩:=cj i x J;have c:=ci _ (Z4 hi);exact⟨_,rfl,_,rfl,r,a,hs,_,rfl,hR.same (s1.trans s2),W,SqT.of (s2 _ _ fa),c.2.1,by rw[c.1];lia,λv H4 s4 g4=>a4 v H4 s4 g4⟩
 have ct:=s1.trans s3;have cb:∀i,i<(xt hs m.toNat).length->FixR H3 (wg hs ((xt hs m.toNat).getD i [])) (fs.getD i .non):=λi hi=>by have e:fs[i]?=some fs[i]:=ae ⋯;have:=g3 i _ e;rw[vn e];exact this
 have b6:∀i,i<(xt hs m.toNat).length->decide (fs.getD i .non=.non)=decide ((wg hs ((xt hs m.toNat).getD i [])).1=1):=λi hi=>by
  rcases cb i hi with⟨g1,g2⟩|⟨g1,q,g2,_⟩
  .rw[g2,aR g1];exact aR rfl
  .rw[g2,ba g1];exact ba (λz=>by cases z)
 refine exI rfl (exI rfl ⟨p1,p3,ab,fs,rfl,SqL.of (s3 _ _ f1),SqL.of f3,?_⟩);refine wx1 (K:=K) (xt hs m.toNat).length (λi=>(ab.getD i .non,fs.getD i .non)) (λi=>decide ((wg hs ((xt hs m.toNat).getD i [])).1=1)) (λi=>((xt hs m.toNat).getD i []).getD 0 0) 24 (λi hi=>?_) ⋯ (λi H' hi sH=>?_) (λH' sH=>?_) (λi H2 v H4 hi sH yl=>?_) (λi H' R hi sH ac=>?_) (λi H' R hi hc sH ac=>?_) λp5 ps H5 ns dy s5 f5 I5 b3 b5=>?_
 .have:=qjr W n1 hi;lia
 .exact⟨SqL.of (sH _ _ (s3 _ _ f1)),SqL.of (sH _ _ f3),⋯,⋯⟩
 .exact⟨SqL.of (sH _ _ (s3 _ _ f1)),SqL.of (sH _ _ f3),.inl ⋯⟩
 .obtain⟨q,x,y,nq,rfl,ex,ey,rfl⟩:=yl;refine⟨Same.upd nq,q,rfl,?_⟩;have e1:ab.getD i .non=x:=by rw[af,ex];rfl
  have e2:fs.getD i .non=y:=by rw[af,ey];rfl
  show SqT K _ q [ab.getD i .non,fs.getD i .non];rw[e1,e2];exact SqT.of qc
 .refine exI rfl ⟨rfl,_,rfl,?_⟩;have:=ac H' (Same.refl _);rw[<-b6 i hi]at this;exact this
 .have ex:ab[i]?=some (ab.getD i .non):=by rw[af,ae ⋯];rfl
  obtain⟨a,ea,_,fa⟩:=cj i _ ex;have c:=ci _ (Z4 hi);have z0:0<((xt hs m.toNat).getD i []).length:=by rw[c.1];lia
  have a0:∀r:List Int,0<r.length->atI (r.map V.int) 0=some (.int (r.getD 0 0)):=λr h=>by have:=jz (xs:=r.map V.int) (j:=0) (v:=V.int (r.getD 0 0)) (by rw[ax,ae h,vn (ae h)];rfl);exact this
  refine exI rfl ⟨_,_,_,_,ea▸rfl,rfl,SqT.of (sH _ _ (s3 _ _ fa)),a0 _ z0,ac _ (Same.refl _)⟩
 have i5:∀v∈ns,0<=v/\v<24:=λv hv=>by obtain⟨i,hi,_,rfl⟩:=(b5 v).mp hv;have:=qjr W n1 hi;lia
 have ln:ns.length<=24:=by
  have:=qzc (ns.map Int.toNat) (List.range 24) ?_ λv hv=>?_
  .rwa [ag,aH]at this
  .refine b9.mpr (cx (λ{x y} J hy hxy z=>?_) b3);have a1:=i5 x J;have a2:=i5 y hy;exact hxy ⋯
  .obtain⟨x,J,rfl⟩:=aS.mp hv;have a1:=i5 x J;exact aw.mpr ⋯
 refine⟨p5,ps,ns,rfl,f5,I5,⋯,λp6 Z c2 a9 cq=>?_⟩;have s6:Same H5 (upd H5 p6 (.lst (Z.map V.int))):=Same.upd c2;have f6:upd H5 p6 (.lst (Z.map V.int)) p6=some (.lst (Z.map V.int)):=qc;generalize upd H5 p6 (.lst (Z.map V.int))=H6 at s6 f6;have cm:∀v,v∈Z↔yh hs m.toNat v:=λv=>by
  rw[a9.mem_iff,b5 v];constructor
  .rintro⟨i,hi,h1,h2⟩;exact⟨_,Z4 hi,ca h1,h2⟩
  .rintro⟨r,hr,h1,h2⟩;obtain⟨i,hi,rfl⟩:=qk0 hr;exact⟨i,hi,aR h1,h2⟩
 have ck:=wks cq (a9.nodup_iff.mpr b3);have cp:Z.length<=24:=by rw[a9.length_eq];exact ln
 have co:∀k∈Z,0<=k/\k<24:=λv hv=>i5 v (a9.mem_iff.mp hv);have a7:=s5.trans s6;refine exI rfl ⟨p3,rfl,⟨_,SqL.of (a7 _ _ f3)⟩,W5 (K:=K) (λi=>!decide (fs.getD i .non=.non)) (SqL.of (a7 _ _ f3)) ⋯ (λi x H2 R J s2 a4=>?_) (λi x H2 R J _ s2 a4=>?_) λp7 H7 dq s7 f7=>?_⟩
 .have e:fs.getD i .non=x:=by rw[af,J];rfl
  refine exI rfl ⟨rfl,_,rfl,?_⟩;have:=a4 H2 (Same.refl _);rw[e]at this;exact this
 .exact exI rfl (a4 _ (Same.refl _))
 have bs:=ct.trans (a7.trans s7);refine exI rfl (exI rfl ⟨r,hs,m,rfl,hR.same bs,W,m1,m2,λp8 ad H8 dp s8 f8 P8=>?_⟩);have l8:ad.length<=25:=by rw[b7 P8];unfold qkj;rw[ag];have:=dj (λc:Nat=>decide (itP hs ((0:Int)+c,1) m.toNat=((0:Int)+c,1))) (List.range hs.length);rw[aH]at this;lia
 have l7:(uk (λi=>!decide (fs.getD i .non=.non)) fs fs.length).length<=fs.length:=by unfold uk;rw[ag];have:=dj (λi=>!decide (fs.getD i .non=.non)) (List.range fs.length);rwa [aH]at this
 refine⟨p7,p8,_,_,rfl,rfl,s8 _ _ f7,f8,⋯,λp9 c1=>?_⟩;have P7:Paired (PtR H8) (uk (λi=>!decide (fs.getD i .non=.non)) fs fs.length) (((List.range (xt hs m.toNat).length).filter λi=>!decide ((wg hs ((xt hs m.toNat).getD i [])).1=1)).map λi=>Qf (wg hs ((xt hs m.toNat).getD i []))):=by
  unfold uk;have e:(List.range fs.length).filter (λi=>!decide (fs.getD i .non=.non))=(List.range (xt hs m.toNat).length).filter (λi=>!decide ((wg hs ((xt hs m.toNat).getD i [])).1=1)):=by rw[show fs.length=(xt hs m.toNat).length by lia];refine List.filter_congr λi hi=>?_;rw[b6 i (aw.mp hi)]
  rw[e];refine y7 λi hi=>?_;obtain⟨h1,h2⟩:=bz.mp hi;have h1:=aw.mp h1;rcases cb i h1 with⟨g1,g2⟩|⟨g1,q,g2,g3⟩
  .rw[g1]at h2;cases h2
  .exact⟨q,g2,s8 _ _ (s7 _ _ (a7 _ _ g3))⟩
 have P9:Paired (PtR H8) (uk (λi=>!decide (fs.getD i .non=.non)) fs fs.length++ad) (qkx hs m.toNat):=Paired.app P7 P8;generalize uk (λi=>!decide (fs.getD i .non=.non)) fs fs.length=us7 at P9 l7;have s9:Same H8 (upd H8 p9 (.lst (us7++ad))):=Same.upd c1;have f9:upd H8 p9 (.lst (us7++ad)) p9=some (.lst (us7++ad)):=qc;have T9:=(wq2 P9).same s9;have l9:=b7 P9;generalize upd H8 p9 (.lst (us7++ad))=H9 at s9 f9 T9;rw[ar]at l9;have cc:H9 p6=some (.lst (Z.map V.int)):=s9 _ _ (s8 _ _ (s7 _ _ f6));refine exI rfl ⟨p9,rfl,⟨_,SqL.of f9⟩,?_⟩;refine wjn (K:=K) ((qkx hs m.toNat).map two) (λxs=>!Wr Z (xs.getD 0 0,xs.getD 1 0)) (SqL.of f9) T9 (by rw[ag];lia) (λxs a H' R J fa sH ac=>?_) (λa H' R ac=>(exI rfl ac)) λc0 cz a6 bq d0 bx db dg b4 a3 c6=>?_
 .obtain⟨q,hq,rfl⟩:=aS.mp J;refine⟨_,rfl,_,rfl,a,p6,q,Z,rfl,SqT.of fa,SqL.of (sH _ _ cc),⋯,co,λdm cv=>?_⟩;exact exI rfl (ac dm cv)
 rw[ag]at c6;obtain⟨D,eq,hq⟩:=qwh (L:=bq) (ps:=qkx hs m.toNat) λx J=>((a3 x).mp J).1;refine⟨c0,cz,bq,2,rfl,db,dg,b4,⋯,⋯,λr hr=>?_,λap U bm c3 as dn cs=>?_⟩
 .obtain⟨q,_,rfl⟩:=aS.mp ((a3 r).mp hr).1;rfl
 obtain⟨D,eq,hq⟩:=qwh (L:=bm) (ps:=qkx hs m.toNat) λx J=>((a3 x).mp (as.mem_iff.mp J)).1;have a8:Same a6 (upd a6 ap (.lst U)):=Same.upd c3;have cg:upd a6 ap (.lst U) ap=some (.lst U):=qc;have bd:Paired (PtR (upd a6 ap (.lst U))) U D:=xvz (cs.same a8) eq;generalize upd a6 ap (.lst U)=H11 at a8 cg bd;have b0:=bs.trans (s8.trans (s9.trans (bx.trans a8)));have d2:=b7 bd;have lq:D.length=bq.length:=by rw[<-as.length_eq,eq,ag]
 have c4:D.Nodup:=by have:=as.nodup_iff.mpr b4;rw[eq]at this;exact List.Pairwise.imp (λh z=>h (by rw[z])) (b9.mp this)
 have bc:∀q∈D,Qn hs m.toNat q:=λq h=>(wqv W).mp (hq q h);have gd:∀i,i<D.length->D.getD i (0,1)∈D:=λi hi=>by rw[af,ae hi];exact bw hi
 have nw:∀i j,i<j->j<U.length->(D.getD i (0,1)).1*(D.getD j (0,1)).2≠(D.getD j (0,1)).1*(D.getD i (0,1)).2:=λi j bl hj z=>by obtain⟨b1,g1,_⟩:=Z2 W n1 n2 (bc _ (gd i ⋯));obtain⟨b2,g2,_⟩:=Z2 W n1 n2 (bc _ (gd j ⋯));have t1:=(Q9 b1 b2).mp z;rw[j7 b1 g1,j7 b2 g2]at t1;refine(bh.mp c4) i j ⋯ ⋯ bl ?_;have e1:=vn (d:=((0:Int),(1:Int))) (ae (show i<D.length by lia));have e2:=vn (d:=((0:Int),(1:Int))) (ae (show j<D.length by lia));rw[<-e1,<-e2];exact t1
 refine⟨ap,U,λi=>D.getD i (0,1),rfl,SqL.of cg,λi v e=>?_,uh hT b0,λi hi=>?_,nw,⋯,λl il a5 bk dd nl an cr c9=>?_⟩
 .obtain⟨q,e1,b,e2,e3⟩:=Yv bd e;show ∃a,v=.ref a/\H11 a=some (.tup [.int (D.getD i (0,1)).1,.int (D.getD i (0,1)).2]);rw[vn e1];exact⟨b,e2,e3⟩
 .exact qw6 W n1 n2 (bc _ (gd i ⋯))
 have c7:Kp H a5:=(Kp.of b0).trans bk;refine exI rfl (exI rfl ⟨sz2,λa na=>?_⟩);have am:Same a5 (upd a5 a (.tup [.ref l,.ref p6])):=Same.upd na;have ce:upd a5 a (.tup [.ref l,.ref p6]) a=some (.tup [.ref l,.ref p6]):=qc;generalize upd a5 a (.tup [.ref l,.ref p6])=H13 at am ce;have dl:Paired (PtR H13) (il.map λi=>U.getD i .non) (il.map λi=>D.getD i (0,1)):=y7 λi hi=>by have hi:i<U.length:=aw.mp (an.mem_iff.mp hi);have e:U[i]?=some U[i]:=ae hi;obtain⟨q,e1,b,e2,e3⟩:=Yv bd e;rw[vn e,vn e1];exact⟨b,e2,am _ _ (bk.tup e3)⟩
 have mq:∀q,q∈(il.map λi=>D.getD i (0,1))↔q∈D:=λq=>by
  rw[aS];constructor
  .rintro⟨i,hi,rfl⟩;have hi:i<U.length:=aw.mp (an.mem_iff.mp hi);exact gd i ⋯
  .intro h;obtain⟨i,hi,e⟩:=de h;exact⟨i,an.mem_iff.mpr (aw.mpr ⋯),by rw[vn (ae hi)];exact e⟩
 have c5:il.length<=1025:=by rw[an.length_eq,aH];lia
 refine k a l p6 _ _ Z H13 (c7.trans (Kp.of am)) (uh dd am) ce (am _ _ c9) dl (am _ _ (bk.lst (a8 _ _ (bx _ _ cc)))) ⟨ck,cm,?_,λp=>?_,cp,by rw[ag];exact c5⟩
 .refine b9.mpr (cr.imp_of_mem λ{i j} hi hj h=>?_);have hi:i<U.length:=aw.mp (an.mem_iff.mp hi);have hj:j<U.length:=aw.mp (an.mem_iff.mp hj);rcases h with h|⟨h,bl⟩
  .exact h
  .exact absurd h (nw i j bl hj)
 .rw[mq p];constructor
  .intro h;refine⟨bc p h,?_⟩;have:two p∈bm:=by rw[eq];exact aS.mpr ⟨p,h,rfl⟩
   have:=((a3 _).mp (as.mem_iff.mp this)).2;exact iR _▸this
  .rintro⟨h1,h2⟩;have:two p∈bm:=as.mem_iff.mpr ((a3 _).mpr ⟨aS.mpr ⟨p,(wqv W).mpr h1,rfl⟩,by show(!Wr Z p)=true;rw[h2];rfl⟩);rw[eq]at this;obtain⟨q,hq,e⟩:=aS.mp this;rw[<-xzc e];exact hq
theorem RoadAt.kp {r:Aj}{ns:List Int}(h:RoadAt C H r ns)(k:Kp H H'):RoadAt C H' r ns:=by obtain⟨dx,q,h1,h2⟩:=h;exact⟨dx,q,k _ _ (λps z=>by cases z) h1,k.lst h2⟩
theorem PtR.kp (h:PtR H v p)(k:Kp H H'):PtR H' v p:=by obtain⟨a,e,f⟩:=h;exact⟨a,e,k.tup f⟩
def vh (hs:List Int)(p:Int×Int)(l:Nat):Prop:=Dist (itP hs p) l/\itP hs p l=p
def CandP (hs:List Int)(m:Nat)(p:Int×Int):Prop:=((Qn hs m p/\¬ ∃k,yh hs m k/\k*p.2<=p.1/\p.1<=(k+1)*p.2)\/∃k,yh hs m k/\p=(3*k+1,3))/\vh hs p m
theorem wqg (k:Int):gOf (3*k+1) 3=1:=by
 have h1:=ym (t:=3*k+1) (b:=3) ⋯;have h2:gOf (3*k+1) 3*(wc (3*k+1) 3).2=3:=qqq ⋯;have D:gOf (3*k+1) 3*(wc (3*k+1) 3).1=3*k+1:=qkz;have F:gOf (3*k+1) 3<=3:=by
  rcases cZ 3 (gOf (3*k+1) 3) with z|z
  .have p:0<(wc (3*k+1) 3).2:=by
    rcases cZ 0 (wc (3*k+1) 3).2 with y|y
    .exact y
    .have:=Int.mul_nonpos_of_nonneg_of_nonpos (show 0<=gOf (3*k+1) 3 by lia) y;lia
   have:=bf (show(1:Int)<=(wc (3*k+1) 3).2 by lia) (show 0<=gOf (3*k+1) 3 by lia);lia
  .exact z
 rcases(by lia:gOf (3*k+1) 3=1\/gOf (3*k+1) 3=2\/gOf (3*k+1) 3=3) with e|e|e
 .exact e
 .rw[e]at h2;lia
 .rw[e]at D;lia
theorem qup (ok:wu hs){m:Nat}(m1:1<=m){k:Int}(h:yh hs m k):0<=k/\k<(hs.length:Int)-1:=by obtain⟨r,hr,_,rfl⟩:=h;obtain⟨j,hj,rfl⟩:=qk0 hr;exact qjr ok m1 hj
theorem qwj (ok:wu hs){m:Nat}(m1:1<=m)(m2:m<=12){p:Int×Int}(h:Qn hs m p\/∃k,yh hs m k/\p=(3*k+1,3)):OkP p/\Pt hs p.2 p/\itP hs p m=p:=by
 have F:∀p:Int×Int,OkP p->gOf p.1 p.2=1->zj hs p.1 p.2->trT hs p.1 p.2 m=p.1->OkP p/\Pt hs p.2 p/\itP hs p m=p:=λp o g D e=>by have h:Pt hs p.2 p:=⟨o.1,cL _,g,D⟩;exact⟨o,h,(qvn h m 0).mpr e⟩
 rcases h with h|⟨k,hk,rfl⟩
 .obtain⟨b,g,D⟩:=Z2 ok m1 m2 h;exact F p (qw6 ok m1 m2 h) g D ((Zr ok m1 m2 b g D).mpr (.inl h))
 .obtain⟨U,L⟩:=qup ok m1 hk;have J:=ok.2.1;have D:zj hs (3*k+1) 3:=⟨⋯,⋯⟩;exact F _ ⟨show(1:Int)<=3 by decide,Sm.small (by show -(2 ^ 64)<=3*k+1;lia) (by show 3*k+1<=2 ^ 64;lia) ⋯,Sm.small (show -(2 ^ 64)<=(3:Int) by decide) (show(3:Int)<=2 ^ 64 by decide) ⋯⟩ (wqg k) D
   ((Zr ok m1 m2 (p:=(3*k+1,3)) (show(1:Int)<=3 by decide) (wqg k) D).mpr (.inr ⟨k,hk,show k*3<=3*k+1 by lia,show 3*k+1<=(k+1)*3 by lia⟩))
theorem wjt {u:Nat}(m1:1<=m)(d:Dist (itP hs p) n)(hu:u<n)(e:itP hs p n=itP hs p u):(if u=0 then V.int (n:Nat) else V.non)=V.int (m:Nat)↔vh hs p m:=by
 constructor
 .intro h;by_cases z:u=0
  .rw[av z]at h;have:n=m:=by have:=V.int.inj h;lia
   subst this;exact⟨d,by rw[e,z];rfl⟩
  .rw[ao z]at h;cases h
 .rintro⟨L,J⟩;have D:itP hs p m=itP hs p 0:=J;have nm:n=m:=by
   rcases iO n m with z|z|z
   .exact absurd e.symm (L u n hu z)
   .exact z
   .exact absurd D.symm (d 0 m ⋯ z)
  subst nm;have F:u=0:=by
   rcases iu u with z|z
   .exact z
   .exact absurd (D.symm.trans e) (d 0 u z hu)
  rw[av F]
def vk (pts:List (Int×Int))(ws:List Int):List (Int×Int):=pts++ws.map λk=>(3*k+1,(3:Int))
theorem qyp {pts:List (Int×Int)}{ws:List Int}(B:BackOf hs m pts ws){p:Int×Int}:p∈vk pts ws↔((Qn hs m p/\¬ ∃k,yh hs m k/\k*p.2<=p.1/\p.1<=(k+1)*p.2)\/∃k,yh hs m k/\p=(3*k+1,3)):=by
 unfold vk;rw[aY,B.pmem];have l:Wr ws p=false↔¬ ∃k,yh hs m k/\k*p.2<=p.1/\p.1<=(k+1)*p.2:=by
  cases hz:Wr ws p with
  |true =>
   obtain⟨k,D,e⟩:=dR.mp hz;exact⟨λz=>absurd z Bool.noConfusion,λz=>absurd ⟨k,(B.wmem k).mp D,ca e⟩ z⟩
  |false =>
   refine⟨λ_ ⟨k,D,e⟩=>?_,λ_=>rfl⟩;have:Wr ws p=true:=dR.mpr ⟨k,(B.wmem k).mpr D,aR e⟩;rw[this]at hz;cases hz
 rw[l,aS];exact⟨λh=>h.imp id λ⟨k,D,e⟩=>⟨k,(B.wmem k).mp D,e.symm⟩,λh=>h.imp id λ⟨k,D,e⟩=>⟨k,(B.wmem k).mpr D,e.symm⟩⟩
theorem wzw (ok:wu hs){m:Nat}(m1:1<=m)(m2:m<=12){pts:List (Int×Int)}{ws:List Int}(B:BackOf hs m pts ws):(vk pts ws).Pairwise λp q=>p.1*q.2≠q.1*p.2:=by
 unfold vk;refine bi.mpr ⟨B.pup.imp λh=>Int.ne_of_lt h,b9.mpr (B.wup.imp λ{a b} h z=>?_),λp F q J z=>?_⟩
 .have z:(3*a+1)*3=(3*b+1)*3:=z;lia
 .obtain⟨k,L,rfl⟩:=aS.mp J;have z:p.1*3=(3*k+1)*p.2:=z;have Z:=(Z2 ok m1 m2 ((B.pmem p).mp F).1).1;have D:=((B.pmem p).mp F).2;have W:(3*k+1)*p.2=3*(k*p.2)+p.2:=by rw[bG,bC,jV]
  have U:(k+1)*p.2=k*p.2+p.2:=by rw[bG,bC]
  rw[W]at z;have:Wr ws p=true:=dR.mpr ⟨k,L,aR ⟨⋯,by rw[U];lia⟩⟩;rw[this]at D;cases D
theorem qu4 {R:α->β->Prop}:∀ {l:List α} {m:List β},l.length=m.length->(∀(i:Nat) x y,l[i]?=some x->m[i]?=some y->R x y)->Paired R l m
 |[],[],_,_=>.nil
 |[],_::_,h,_=>by cases h
 |_::_,[],h,_=>by cases h
 |x::l,y::m,h,g=>.cons (g 0 x y rfl rfl) (qu4 (Nat.succ.inj h) λi u v e1 e2=>g (i+1) u v e1 e2)
theorem xq0 {il:List Nat}(pm:il.Perm (List.range n)){pt:Nat->Int×Int}{G:Int×Int->Prop}{c:Nat->Bool}(hc:∀j,j<il.length->(c j=true↔G (pt (il.getD j 0))))(p:Int×Int):p∈((List.range il.length).filter c).map (λj=>pt (il.getD j 0))↔∃i,i<n/\G (pt i)/\pt i=p:=by
 rw[aS];constructor
 .rintro⟨j,D,e⟩;obtain⟨h1,h2⟩:=bz.mp D;have h1:=aw.mp h1;have F:il[j]?=some (il.getD j 0):=by rw[af,ae h1];rfl
  exact⟨il.getD j 0,aw.mp (pm.mem_iff.mp (aC F)),(hc j h1).mp h2,e⟩
 .rintro⟨i,hi,g,e⟩;obtain⟨j,D,J⟩:=de (pm.mem_iff.mpr (aw.mpr hi));have F:il.getD j 0=i:=by rw[af,ae D,J];rfl
  exact⟨j,bz.mpr ⟨aw.mpr D,(hc j D).mpr (by rw[F];exact g)⟩,by rw[F];exact e⟩
theorem xzg {il:List Nat}{pt:Nat->Int×Int}{c:Nat->Bool}(up:il.Pairwise (Wor pt))(ne:∀i j,i∈il->j∈il->i≠j->(pt i).1*(pt j).2≠(pt j).1*(pt i).2)(nd:il.Nodup):(((List.range il.length).filter c).map λj=>pt (il.getD j 0)).Pairwise λp q=>p.1*q.2<q.1*p.2:=by
 refine b9.mpr (cx (R:=(·<·)) (λ{a b} F D h=>?_) ((List.pairwise_lt_range (n:=il.length)).sublist List.filter_sublist));have F:=aw.mp (bz.mp F).1;have D:=aw.mp (bz.mp D).1;have L:il.getD a 0=il[a]:=by rw[af,ae F];rfl
 have J:il.getD b 0=il[b]:=by rw[af,ae D];rfl
 rw[L,J];have w:=bh.mp up a b F D h;have d:=bh.mp nd a b F D h;rcases w with w|w
 .exact w
 .exact absurd w.1 (ne _ _ (bw F) (bw D) d)
def wxp (C TT:Aj):Sp:=λvs H Q _=>∃(r:Aj) (hs:List Int) (m:Int),vs=[.ref r,.int m]/\RoadAt C H r hs/\wu hs/\1<=m/\m<=12/\crS hs m.toNat<=1000/\jk TT js qqn H /\
 ∀(q:Aj) (ys:List V) (ps:List (Int×Int)) (H':Hp),Kp H H'->jk TT js qqn H'->H' q=some (.lst ys)->Paired (PtR H') ys ps->(∀p,p∈ps↔CandP hs m.toNat p)->ps.Pairwise (λp q=>p.1*q.2<q.1*p.2)->ps.length<=1049->Q (.ref q) H'
include T in
theorem xx5 {f:Aj}{fd:Ad}{TT:Aj}(F:Fun K "candidates" "candidates" zbb f fd)(zez:Cal P w K mg base "back" 8 (ww4 qv TT))(zbz:Cal P w K mg base "ordered" 6 (wz2 K TT qx))(ze0:Cal P w K mg base "least" 6 (qjw K qv)) :
  FK P w K mg base 9 f fd ["road","length"] (wxp qv TT):=by
 have sc:=qvj;refine F.okX sc (λvs H Q E h=>by obtain⟨_,_,_,rfl,_⟩:=h;rfl) λ_ _ _ _ H vs Q E hr h=>?_;obtain⟨r,hs,m,rfl,hR,Z,m1,m2,a2,hT,k⟩:=h;have o1:=Z.1;have o2:=Z.2.1;have a6:(1000000:Nat)<sizeLine:=by decide
 have n1:1<=m.toNat:=by lia
 have n2:m.toNat<=12:=by lia
 refine⟨_,(qj (jj (wj zez (hr.mono ⋯) rfl qh (qw (pv 0) (qw (pv 1) qk))) (yu rfl (xh (xv (i:=2)) (xh (xv (i:=3)) kg))))
   (qj (k7 (i:=4) (M:=[]) sc.nd rfl (by walk_at "loc") rfl rfl (by walk_at "cap") (by walk_at "has") (by walk_at "cix") rfl (by decide +kernel) rfl (show List.Nodup (["stretch"]:List Str) by decide +kernel) (vz (pv 3)) (λ_ _ _ _ _=>(jx (qw (wb xu (wb zw qy (pv 0)) qy) (qw qy qk)))))
   (qr (xw (Z1 (M:=[0,1]) rfl rfl (by walk_at "cap") (by walk_at "has") (by walk_at "cix") rfl (by decide +kernel) rfl (show List.Nodup (["point","road","length"]:List Str) by decide +kernel) (vz (wj zbz (hr.mono ⋯) rfl qh (qw (wb wuf (pv 2) (pv 4)) qk))) (λ_ _ _ _ _=>(wt yx (wj ze0 (hr.mono ⋯) rfl Q7 (qw (pv 1) (qw (pv 0) qk))) (pv 2) (xk _))) (λ_ _ _ _ _=>(pv 0))))))),?_⟩
 refine exI rfl (exI rfl ⟨r,hs,m,rfl,hR,Z,m1,m2,a2,hT,λb1 lp lw ys L J H1 k1 T1 fb fl P1 fw B=>?_⟩);refine⟨b1,exI rfl ⟨SqT.of fb,rfl,_,_,rfl,_,_,rfl,rfl,?_⟩⟩;have pf:=B.pfew;have wf:=B.wfew;have ly:=b7 P1;refine exI rfl ⟨lw,rfl,⟨_,SqL.of fw⟩,qwd (K:=K) (λi v H=>PtR H v (3*J.getD i 0+1,3)) (λi v H H' g st=>wqr g st) (SqL.of fw) (by rw[ag];lia) (λi x H2 R hx s2 as=>?_) λp3 U H3 a4 s3 f3 l3 g3=>?_⟩
 .rw[ax]at hx;obtain⟨z,ez,rfl⟩:=eQ.mp hx;have wz:=qup Z n1 ((B.wmem z).mp (aC ez));rw[vn ez]at as;exact exI rfl (w8 rfl rfl ⟨IntMulOk.of_left (intBits_le_64 ⋯ ⋯),w8 rfl rfl ⟨sz2,λp np=>as _ _ (Same.upd np) ⟨p,rfl,qc⟩⟩⟩)
 rw[ag]at l3;have P3:Paired (PtR H3) (ys++U) (vk L J):=by refine Paired.app (L2.Paired.mono (λ_ _ x=>PtR.same x s3) P1) (qu4 (by rw[ag];exact l3) λi x y ex ey=>?_);rw[ax]at ey;obtain⟨z,ez,rfl⟩:=eQ.mp ey;have:=g3 i x ex;rwa [vn ez]at this
 have lc:(ys++U).length=(vk L J).length:=b7 P3;have ln:(vk L J).length<=1049:=by unfold vk;rw[ar,ag];lia
 have a5:(ys++U).length=ys.length+U.length:=ar;refine⟨_,rfl,_,rfl,lp,p3,ys,U,rfl,rfl,s3 _ _ fl,f3,⋯,λp4 a1=>?_⟩;have s4:Same H3 (upd H3 p4 (.lst (ys++U))):=Same.upd a1;have f4:upd H3 p4 (.lst (ys++U)) p4=some (.lst (ys++U)):=qc;have T4:jk TT js qqn (upd H3 p4 (.lst (ys++U))):=uh T1 (s3.trans s4);generalize upd H3 p4 (.lst (ys++U))=H4 at s4 f4 T4;have P4:=L2.Paired.mono (λ_ _ x=>PtR.same x s4) P3;have gd:∀i,i<(vk L J).length->(vk L J)[i]?=some ((vk L J).getD i (0,1)):=λi hi=>by rw[af,ae hi];rfl
 have cm:∀i,i<(vk L J).length->OkP ((vk L J).getD i (0,1))/\Pt hs ((vk L J).getD i (0,1)).2 ((vk L J).getD i (0,1))/\itP hs ((vk L J).getD i (0,1)) m.toNat=(vk L J).getD i (0,1):=λi hi =>
  qwj Z n1 n2 (((qyp B).mp (aC (gd i hi))).imp (λz=>z.1) id)
 have ap:∀i j,i<j->j<(vk L J).length->((vk L J).getD i (0,1)).1*((vk L J).getD j (0,1)).2≠((vk L J).getD j (0,1)).1*((vk L J).getD i (0,1)).2:=λi j h1 h2=>by have:=bh.mp (wzw Z n1 n2 B) i j ⋯ h2 h1;rw[vn (ae (show i<(vk L J).length by lia)),vn (ae h2)];exact this
 have ad:=λp=>qyp B (p:=p);have pl:PL H4 (ys++U) λi=>(vk L J).getD i (0,1):=λi v hv=>by obtain⟨q,eq,a,ea,fa⟩:=Yv P4 hv;dsimp only;rw[vn eq];exact⟨a,ea,fa⟩
 generalize vk L J=cl at P4 lc ln gd cm ap ad pl;refine⟨p4,ys++U,λi=>cl.getD i (0,1),rfl,SqL.of f4,pl,T4,λi hi=>(cm i ⋯).1,λi j h1 h2=>ap i j h1 ⋯,⋯,λl D H5 k5 T5 nl pm up f5=>?_⟩;have li:D.length=(ys++U).length:=by rw[pm.length_eq,aH]
 have P5:Paired (PtR H5) (ys++U) cl:=L2.Paired.mono (λ_ _ x=>PtR.kp x k5) P4;have R5:RoadAt qv H5 r hs:=(((hR.kp k1).same s3).same s4).kp k5;have a0:∀j,j<D.length->∃a,(ys++U).getD (D.getD j 0) .non=.ref a/\D.getD j 0<cl.length/\H5 a=some (.tup [.int (cl.getD (D.getD j 0) (0,1)).1,.int (cl.getD (D.getD j 0) (0,1)).2]):=λj W=>by
  have e1:D[j]?=some (D.getD j 0):=by rw[af,ae W];rfl
  have hi:=aw.mp (pm.mem_iff.mp (aC e1));generalize D.getD j 0=i at hi;obtain⟨a,ea,fa⟩:=Wc P5 (gd i ⋯);obtain⟨b,rfl,fb⟩:=fa;exact⟨b,by rw[af,ea];rfl,⋯,fb⟩
 have l5:(D.map λi=>(ys++U).getD i .non).length=D.length:=ag ..;refine⟨l,rfl,⟨_,SqL.of f5⟩,W5 (K:=K) (λj=>@decide (vh hs (cl.getD (D.getD j 0) (0,1)) m.toNat) (Classical.propDecidable _)) (SqL.of f5) ⋯ (λj x H6 R hx s6 ac=>?_) (λj x H6 R hx _ s6 ac=>(exI rfl (ac _ (Same.refl _)))) λp7 H7 a3 s7 f7=>?_⟩
 .have W:j<D.length:=by rw[<-l5];exact(ak.mp hx).1
  obtain⟨a,ea,hi,fa⟩:=a0 j W;have ex:x=.ref a:=by rw[ax,ae W]at hx;have:=au hx;rw[<-this,<-ea,af (l:=D),ae W];rfl
  subst ex;obtain⟨am,ab,an⟩:=cm _ hi;generalize cl.getD (D.getD j 0) (0,1)=pt at fa am ab an ac;have lw:wc pt.1 pt.2=pt:=j7 ab.1 ab.2.2.1;refine exI rfl (exI rfl ⟨r,a,hs,pt.1,pt.2,rfl,R5.same s6,Z,SqT.of (s6 _ _ fa),⟨ab.1,am.2.2.mono ⋯,ab.2.2.2,λd=>?_⟩,λn u H8 s8 hn d hu e=>?_⟩)
  .rw[lw]at d;exact d 0 m.toNat ⋯ ⋯ an.symm
  .rw[lw]at d e;have li:=wjt n1 d hu e;refine exI rfl ⟨?_,_,rfl,?_⟩
   .by_cases z:u=0
    .rw[av z];rfl
    .rw[ao z];rfl
   .have:=ac H8 s8;have e3:@decide (vh hs pt m.toNat) (Classical.propDecidable _)=decide ((if u=0 then V.int (n:Nat) else V.non)=V.int m):=by rw[cP,@iE _ (Classical.propDecidable _),dD,<-li,cA ⋯]
    rw[e3]at this;exact this
 .have hc:∀j,j<D.length->(@decide (vh hs (cl.getD (D.getD j 0) (0,1)) m.toNat) (Classical.propDecidable _)=true↔vh hs (cl.getD (D.getD j 0) (0,1)) m.toNat):=λj _=>@iE _ (Classical.propDecidable _);refine k p7 _ (((List.range D.length).filter λj=>@decide (vh hs (cl.getD (D.getD j 0) (0,1)) m.toNat) (Classical.propDecidable _)).map λj=>cl.getD (D.getD j 0) (0,1)) H7 ?_ (uh T5 s7) f7 ?_ (λp=>?_) (xzg up (λi j hi W ne=>?_) (pm.nodup_iff.mpr gE)) ?_
  .exact((k1.trans (Kp.of s3)).trans (Kp.of s4)).trans (k5.trans (Kp.of s7))
  .unfold uk;rw[l5];refine y7 λj W=>?_;have W:=aw.mp (bz.mp W).1;obtain⟨a,ea,hi,fa⟩:=a0 j W;refine⟨a,?_,s7 _ _ fa⟩;rw[af,ax,ae W,<-ea,af (l:=D),ae W];rfl
  .rw[xq0 (n:=(ys++U).length) pm (pt:=λi=>cl.getD i (0,1)) (G:=λp=>vh hs p m.toNat) hc p];constructor
   .rintro⟨i,hi,g,e⟩;have e:cl.getD i (0,1)=p:=e;have g:vh hs (cl.getD i (0,1)) m.toNat:=g;rw[e]at g;exact⟨(ad p).mp (by rw[<-e];exact aC (gd i ⋯)),g⟩
   .rintro⟨h1,g⟩;obtain⟨i,hi,e⟩:=de ((ad p).mpr h1);have e:cl.getD i (0,1)=p:=by rw[af,ae hi,e];rfl
    exact⟨i,⋯,by show vh hs (cl.getD i (0,1)) m.toNat;rw[e];exact g,e⟩
  .have hi:=aw.mp (pm.mem_iff.mp hi);have W:=aw.mp (pm.mem_iff.mp W);rcases Nat.lt_or_gt_of_ne ne with z|z
   .exact ap i j z ⋯
   .exact(ap j i z ⋯).symm
  .rw[ag];have:=dj (λj=>@decide (vh hs (cl.getD (D.getD j 0) (0,1)) m.toNat) (Classical.propDecidable _)) (List.range D.length);rw[aH]at this;lia
def qjm (hs:List Int)(m:Nat):Prop:=∃p,CandP hs m p
noncomputable def wqm (hs:List Int) (m:Nat):Bool:=@decide (qjm hs m) (Classical.propDecidable _)
theorem hasB_iff:wqm hs m=true↔qjm hs m:=@iE _ (Classical.propDecidable _)
noncomputable def Ws (hs:List Int) (n:Nat):List Int:=((List.range n).filter λi=>wqm hs (1+i)).map λi:Nat=>(1:Int)+i
theorem wjx (hs:List Int)(n:Nat):Ws hs (n+1)=Ws hs n++if wqm hs (1+n)=true then [(1:Int)+n] else []:=by unfold Ws;rw[cG,fU,bj];cases h:wqm hs (1+n) <;> simp[h]
theorem wwq (hs:List Int)(n:Nat):(Ws hs n).length<=n:=by unfold Ws;rw[ag];have:=dj (λi=>wqm hs (1+i)) (List.range n);rwa [aH]at this
theorem xwn {v:Int}:v∈Ws hs n↔(1<=v/\v<=n/\qjm hs v.toNat):=by
 unfold Ws;rw[aS];constructor
 .rintro⟨i,hi,rfl⟩;obtain⟨h1,h2⟩:=bz.mp hi;have h1:=aw.mp h1;refine⟨⋯,⋯,?_⟩;rw[show((1:Int)+i).toNat=1+i by lia];exact hasB_iff.mp h2
 .rintro⟨h1,h2,D⟩;refine⟨v.toNat-1,bz.mpr ⟨aw.mpr ⋯,hasB_iff.mpr ?_⟩,⋯⟩;rw[show 1+(v.toNat-1)=v.toNat by lia];exact D
def wwm (C TT:Aj):Sp:=λvs H Q _=>∃(r:Aj) (hs:List Int) (m:Int),vs=[.ref r,.int m]/\RoadAt C H r hs/\wu hs/\1<=m/\m<=12/\(∀l:Nat,1<=l->l<=m.toNat->crS hs l<=1000)/\jk TT js qqn H /\
 ∀(q:Aj) (H':Hp),Kp H H'->jk TT js qqn H'->H' q=some (.lst ((Ws hs m.toNat).map V.int))->H q=none->Q (.ref q) H'
include T in
theorem xz4 {f:Aj}{fd:Ad}{TT:Aj}(F:Fun K "lengths" "lengths" zbc f fd)(zas:CalD P w K mg base "check_count" 1 (Yk qu))(ze1:Cal P w K mg base "candidates" 9 (wxp qv TT)) :
  FK P w K mg base 10 f fd ["road","most"] (wwm qv TT):=by
 have sc:=wxw;refine F.okX sc (λvs H Q E h=>by obtain⟨_,_,_,rfl,_⟩:=h;rfl) λ_ _ _ _ H vs Q E hr h=>?_;obtain⟨r,hs,m,rfl,hR,ok,m1,m2,ac,hT,k⟩:=h;obtain⟨tl,ab⟩:=T.zac;have ad:(1000000:Nat)<sizeLine:=by decide
 refine⟨_,(qj (km (wj zas.all (hr.mono ⋯) rfl qh (qw (pv 1) (qw qy (qw (Wg (v:=V.int 12) rfl ab ⟨_,rfl⟩) qk)))))
   (qr (xw (Z1 (M:=[0]) rfl rfl (by walk_at "cap") (by walk_at "has") (by walk_at "cix") rfl (by decide +kernel) rfl (show List.Nodup (["length","road"]:List Str) by decide +kernel) (Jg rfl T.range_ (qw qy (qw (wb xu (pv 1) qy) qk))) (λ_ _ _ _ _=>(wt Wp (wn (W3 (K:=K) rfl) rfl T.len_ bJ (qw (wj ze1 (hr.mono ⋯) rfl Q7 (qw (pv 1) (qw (pv 0) qk))) qk)) qy (xk _))) (λ_ _ _ _ _=>(pv 0)))))),?_⟩
 refine⟨_,rfl,m,1,.int 12,some 12,rfl,.inr ⟨12,rfl,rfl⟩,λ_=>?_,λhw=>absurd ⟨m1,λz e=>by cases e;exact m2⟩ hw⟩;refine exI rfl (w8 rfl rfl ⟨_,_,rfl,⟨⋯,⋯,⋯,⋯⟩,?_⟩);rw[show(m+1-1).toNat=m.toNat by lia];intro p np;refine⟨λi U vs H2=>U=m.toNat-i/\i<=m.toNat/\vs=(Ws hs i).map V.int/\Kp H H2/\jk TT js qqn H2/\H2 p=some (.lst vs),⟨m.toNat,⋯,aW _,rfl,(Kp.of (Same.refl H)).upd np,uh hT (Same.upd np),qc⟩,?_⟩;rintro i U vs H2 ⟨rfl,hi,rfl,k2,T2,f2⟩;have ll:=wwq hs i;refine⟨f2,by rw[ag];lia,?_⟩;rcases bp i m.toNat with z|z
 .refine .inr ⟨z,?_⟩;rintro v H3 ⟨rfl,rfl⟩;have e1:((1:Int)+i).toNat=1+i:=by lia
  refine⟨_,rfl,_,rfl,r,hs,(1:Int)+i,rfl,hR.kp k2,ok,⋯,⋯,ac _ ⋯ ⋯,T2,λq ys ps H4 W T4 f4 P4 L _ _=>?_⟩;rw[e1]at L;have lp:=b7 P4;have ht:wqm hs (1+i)=decide ((ys.length:Int)>0):=by
   rw[cP,hasB_iff,dD];constructor
   .rintro⟨c,hc⟩;have:=List.length_pos_of_mem ((L c).mpr hc);lia
   .intro h;have:0<ps.length:=by lia
    exact⟨ps[0],(L _).mp (bw this)⟩
  refine⟨_,_,rfl,.inl (SqL.of f4),w8 rfl rfl (exI rfl ?_)⟩;have J:=W.lst f2;have Z:=k2.trans W;have D:=wjx hs i;show if decide ((0:Int)<ys.length)=true then _ else _
  rw[show decide ((0:Int)<ys.length)=wqm hs (1+i) from ht.symm];cases hb:wqm hs (1+i) with
  |true =>
   rw[hb,av rfl]at D;refine Wj ⟨_,rfl,J,m.toNat-(i+1),⋯,rfl,z,?_,Z.upd np,tab_wr T4 J,qc⟩;rw[D,bj];rfl
  |false =>
   rw[hb,ao aF,bQ]at D;refine Q8 ⟨J,m.toNat-(i+1),⋯,rfl,z,?_,Z,T4,J⟩;rw[D]
 .obtain rfl:i=m.toNat:=by lia
  exact .inl ⟨aj _,k p H2 k2 T2 f2 np⟩
def wvr (hs:List Int)(x y:Int)(u:Bool):Prop:=(0<=x/\x<(hs.length:Int)-1)/\hAt hs x=y+(if u=true then 1 else 0)/\hAt hs (x+1)=y+(if u=true then 0 else 1)
def wqy (d:Nat->Bool):Nat->Bool
 |0=>false
 |i+1=>Bool.xor (wqy d i) (d i)
def inS (s:Bool)(b x:Int):Int:=if s=true then b-x else x
theorem inS_in {s:Bool}{x:Int}(x0:0<=x)(x1:x<=b):0<=inS s b x/\inS s b x<=b:=by unfold inS;split <;> lia
theorem wkm {x z:Int}{s u:Bool}(h:wvr hs x y u):hAt hs x*b+(hAt hs (x+1)-hAt hs x)*inS s b z=y*b+inS (Bool.xor s u) b z:=by
 obtain⟨_,h1,h2⟩:=h;cases u with
 |false =>
  simp only[aG,bB]at h1 h2;rw[h1,h2,show y+1-(y+0)=1 by lia,bC,Int.add_zero,Bool.xor_false]
 |true =>
  simp only[cY]at h1 h2;rw[h1,h2,show y+0-(y+1)=-1 by lia,Int.neg_mul,bC,bG,bC];cases s <;> simp only[inS,Bool.xor_true,fH,iz,aG,cY,bB] <;> lia
theorem qq0 {c:Nat->Int}{d:Nat->Bool}(h:∀i,i<n->wvr hs (c i) (c (i+1)) (d i)){b x:Int}(hb:1<=b)(x0:0<=x)(x1:x<=b):∀i,i<=n->trT hs (c 0*b+x) b i=c i*b+inS (wqy d i) b x
 |0,_=>rfl
 |i+1,hi=>by have ih:=qq0 h hb x0 x1 i ⋯;have u:=h i ⋯;have hi2:=inS_in (s:=wqy d i) x0 x1;show vv hs (trT hs (c 0*b+x) b i) b=_;rw[ih,j4 u.1.1 u.1.2 hb ⋯ (by rw[bG,bC];lia),show c i*b+inS (wqy d i) b x-c i*b=inS (wqy d i) b x by lia,wkm u];rfl
theorem wyd (ok:wu hs){m:Nat}(m1:1<=m)(m2:m<=12){k:Int}(h:yh hs m k):∃(c:Nat->Int) (d:Nat->Bool),c 0=k/\(∀i,wvr hs (c i) (c (i+1)) (d i))/\(∀i,c (m+i)=c i/\d (m+i)=d i)/\wqy d m=false:=by
 obtain⟨r,hr,Z,rfl⟩:=h;have c:=(ku ok m1).mp hr;have cl:=j5 m1 m2 c;have F:=c.1;have D:∀i,wx r (m+i)=wx r i:=λi=>by unfold wx;rw[F,Nat.add_mod_left]
 have U:∀i,wx r (i+1)=wx r (i%m+1)/\wx r i=wx r (i%m):=λi=>by unfold wx;rw[F,Nat.mod_add_mod,Nat.mod_mod];exact⟨rfl,rfl⟩
 have L:∀i,wvr hs (wx r i) (wx r (i+1)) (decide (hAt hs (wx r i)=wx r (i+1)+1)):=λi=>by
  rw[(U i).1,(U i).2];have hi:i%m<r.length:=by rw[F];exact eC _ ⋯
  have W:=cl.2 (i%m) _ _ (kn hi) (uf hi);refine⟨W.1,?_⟩;rcases qw2 W (qw8 cl Z (i%m) hi) with⟨h1,h2⟩|⟨h1,h2⟩
  .rw[h1,h2,ba ⋯];exact⟨by simp,by simp⟩
  .rw[h1,h2,aR rfl];exact⟨by simp,by simp⟩
 refine⟨wx r,λi=>decide (hAt hs (wx r i)=wx r (i+1)+1),W8 r,L,λi=>⟨D i,?_⟩,?_⟩
 .show decide (hAt hs (wx r (m+i))=wx r (m+i+1)+1)=decide (hAt hs (wx r i)=wx r (i+1)+1);rw[D i,Nat.add_assoc,D (i+1)]
 .have e1:=qq0 (d:=λi=>decide (hAt hs (wx r i)=wx r (i+1)+1)) (λi _=>L i) (b:=3) (x:=1) ⋯ ⋯ ⋯ m (aj _);have J:=qzk cl Z (t:=wx r 0*3+1) (b:=3) ⋯ ⋯ ⋯;rw[F,e1,show wx r m=wx r 0 from D 0]at J;cases hz:wqy (λi=>decide (hAt hs (wx r i)=wx r (i+1)+1)) m with
  |false=>rfl
  |true =>
   rw[hz]at J;simp only[inS,cY]at J;lia
theorem qub {t:Int}(hb:1<=b)(n:Nat):trT hs t b n=t↔trT hs (wc t b).1 (wc t b).2 n=(wc t b).1:=by
 have D:=vt (t:=t) hb;have L:=Yz (hs:=hs) (t:=t) hb n;have F:=Yz (hs:=hs) (t:=(wc t b).1) D n;have J:wc (wc t b).1 (wc t b).2=wc t b:=j7 D (Ju hb);rw[J]at F;constructor
 .intro h;rw[h]at L;have:=(Q9 D D).mpr ((F.trans L.symm).trans J.symm);exact fh ⋯ this
 .intro h;rw[h,J]at F;have:=(Q9 hb hb).mpr (L.trans F.symm);exact fh ⋯ this
theorem xvg (ok:wu hs):∃k:Int,0<=k/\k<(hs.length:Int)-1/\k<=hAt hs k/\hAt hs (k+1)<=k+1:=by
 apply aD;intro D;have J:=ok.1;have F:∀j:Nat,(j:Int)<=(hs.length:Int)-1->(j:Int)<=hAt hs j:=λj=>by
  induction j with
  |zero=>intro _;exact(qjx ok _).1
  |succ j ih =>
   intro L;have:=ih ⋯;have:¬ hAt hs ((j:Int)+1)<=(j:Int)+1:=λz=>D ⟨j,⋯,⋯,this,z⟩;rw[show((j+1:Nat):Int)=(j:Int)+1 by lia];lia
 have a:=F (hs.length-2) ⋯;have b:=(qjx ok (((hs.length-2:Nat):Int)+1)).2;exact D ⟨((hs.length-2:Nat):Int),⋯,⋯,a,⋯⟩
theorem fix_at (ok:wu hs):∃t b:Int,1<=b/\zj hs t b/\vv hs t b=t:=by
 obtain⟨k,D,U,h1,h2⟩:=xvg ok;have J:∀b:Int,1<=b->(hAt hs (k+1)-hAt hs k)*(hAt hs k-k)+hAt hs k*b=k*b+(hAt hs k-k)->0<=hAt hs k-k->hAt hs k-k<=b->∃t b:Int,1<=b/\zj hs t b/\vv hs t b=t:=λb F e x0 Z=>by have p0:=dw D (show 0<=b by lia);have L:=aK (show k+1<=(hs.length:Int)-1 by lia) (show 0<=b by lia);rw[bG,bC]at L;refine⟨k*b+(hAt hs k-k),b,F,⟨⋯,⋯⟩,?_⟩;rw[j4 D U F ⋯ (by rw[bG,bC];lia),show k*b+(hAt hs k-k)-k*b=hAt hs k-k by lia];lia
 by_cases z:hAt hs k-k+(k+1-hAt hs (k+1))=0
 .have W:hAt hs k=k:=by lia
  refine J 1 ⋯ ?_ ⋯ ⋯;rw[W,Int.sub_self,jC];lia
 .refine J (hAt hs k-k+(k+1-hAt hs (k+1))) ⋯ ?_ ⋯ ⋯;generalize hx:hAt hs k-k=x;generalize hy:k+1-hAt hs (k+1)=y;rw[show hAt hs (k+1)-hAt hs k=1-(x+y) by lia,show hAt hs k=k+x by lia,iT,bC];simp only[bG,Int.mul_add,eP y x];lia
theorem wz8 (ok:wu hs):qjm hs 1:=by
 obtain⟨t,b,F,Z,e⟩:=fix_at ok;have W:trT hs (wc t b).1 (wc t b).2 1=(wc t b).1:=(qub F 1).mp e;have U:=vt (t:=t) F;have L:=Ju (t:=t) F;have lo:=wzj F Z;generalize wc t b=p at W U L lo;have J:∀p,(Qn hs 1 p\/∃k,yh hs 1 k/\p=(3*k+1,3))->vh hs p 1:=λp h=>⟨λi j a b=>by lia,(qwj ok ⋯ ⋯ h).2.2⟩;by_cases w:∃k,yh hs 1 k
 .obtain⟨k,D⟩:=w;exact⟨(3*k+1,3),.inr ⟨k,D,rfl⟩,J _ (.inr ⟨k,D,rfl⟩)⟩
 .rcases(Zr ok ⋯ ⋯ U L lo).mp W with s|⟨k,D,_⟩
  .exact⟨p,.inl ⟨s,λ⟨k,D,_⟩=>w ⟨k,D⟩⟩,J p (.inl s)⟩
  .exact absurd ⟨k,D⟩ w
theorem wug (x:Int)(ws:List Int):inV (.int x) (ws.map V.int)=decide (x∈ws):=by
 unfold inV;rw[List.any_map,cP,dR,dD];constructor
 .rintro⟨y,D,e⟩;have e:decide (y=x)=true:=e;exact ca e▸D
 .intro h;exact⟨x,h,aR rfl⟩
namespace Sh
inductive PL (g:Rat->Rat):Rat->Rat->Prop
 |aff {a b:Rat} (m c:Rat):a<=b->(∀x,a<=x->x<=b->g x=m*x+c)->PL g a b
 |cat {a b c:Rat}:PL g a b->PL g b c->PL g a c
variable {g:Rat->Rat}{a:Rat}
theorem PL.le {b:Rat}(h:PL g a b):a<=b:=by
 induction h with
 |aff _ _ h _=>exact h
 |cat _ _ h1 h2=>exact eB h1 h2
theorem PL.congr {g':Rat->Rat}{b:Rat}(h:PL g a b):(∀x,a<=x->x<=b->g x=g' x)->PL g' a b:=by
 induction h with
 |aff m c h e=>exactλz=>.aff m c h λx F D=>(z x F D).symm.trans (e x F D)
 |cat h1 h2 i1 i2=>exactλz=>.cat (i1 λx F D=>z x F (eB D h2.le)) (i2 λx F D=>z x (eB h1.le F) D)
theorem PL.sub {b:Rat}(h:PL g a b):∀ {p q:Rat},a<=p->p<=q->q<=b->PL g p q:=by
 induction h with
 |aff m c h e=>exactλh1 h2 W=>.aff m c h2 λx U L=>e x (by grind) (by grind)
 |@cat a b c h1 h2 i1 i2 =>
  intro p q J F D;by_cases z:q<=b
  .exact i1 J F z
  .by_cases y:b<=p
   .exact i2 y F D
   .exact .cat (i1 (q:=b) J (by grind) aP) (i2 (p:=b) aP (by grind) D)
theorem PL.neg {b:Rat}(h:PL g a b):PL (λx=>-g x) a b:=by
 induction h with
 |aff m c h e=>exact .aff (-m) (-c) h λx x0 x1=>by rw[e x x0 x1];grind
 |cat _ _ i1 i2=>exact .cat i1 i2
theorem PL.flip {b:Rat}(h:PL g a b):PL (λx=>g (-x)) (-b) (-a):=by
 induction h with
 |aff m c h e=>exact .aff (-m) c (by grind) λx F D=>by show g (-x)=_;rw[e (-x) (by grind) (by grind)];grind
 |cat _ _ i1 i2=>exact .cat i2 i1
theorem PL.minus {b:Rat}(h:PL g a b):PL (λx=>g x-x) a b:=by
 induction h with
 |aff m c h e=>exact .aff (m-1) c h λx x0 x1=>by rw[e x x0 x1];grind
 |cat _ _ i1 i2=>exact .cat i1 i2
variable {u:Rat}
theorem PL.up {f:Rat->Rat}{v:Rat}(h:PL f u v){m c:Rat}(m0:0<m):∀ {a b:Rat},m*a+c=u->m*b+c=v->PL (λx=>f (m*x+c)) a b:=by
 induction h with
 |aff k l h e =>
  intro a b F D;have U:a<=b:=by apply aD;intro z;have:=iF (show b<a by grind) m0;grind
  refine .aff (k*m) (k*c+l) U λx L J=>?_;have h1:=cn L (show 0<=m by grind);have h2:=cn J (show 0<=m by grind);show f (m*x+c)=_;rw[e _ (by grind) (by grind)];grind
 |@cat u w v _ _ i1 i2 =>
  intro a b F D;have e:m*((w-c)/m)+c=w:=by grind
  exact .cat (i1 F e) (i2 e D)
theorem PL.down {f:Rat->Rat}{v:Rat}(h:PL f u v){m c:Rat}(m0:m<0){a b:Rat}(ea:m*a+c=v)(eb:m*b+c=u):PL (λx=>f (m*x+c)) a b:=by have h1:=(h.up (m:=-m) (c:=c) (by grind) (a:=-b) (b:=-a) (by grind) (by grind)).flip;rw[bU,bU]at h1;exact h1.congr λx _ _=>by show f (-m*-x+c)=_;rw[show -m*-x=m*x by grind]
variable {lo hi:Rat}
theorem PL.comp {f:Rat->Rat}(hf:PL f lo hi){a b:Rat}(h:PL g a b):(∀x,a<=x->x<=b->lo<=g x/\g x<=hi)->PL (λx=>f (g x)) a b:=by
 induction h with
 |@aff a b m c h e =>
  intro r;have L:=r a aP h;have J:=r b h aP;have W:=e a aP h;have U:=e b h aP;have Z:∀x,a<=x->x<=b->f (m*x+c)=f (g x):=λx F D=>by rw[e x F D]
  rcases(by grind:0<m\/m<0\/m=0) with z|z|z
  .have h1:=cn h (show 0<=m by grind);exact((hf.sub L.1 (show g a<=g b by grind) J.2).up z W.symm U.symm).congr Z
  .have h1:=cn h (show 0<=-m by grind);exact((hf.sub J.1 (show g b<=g a by grind) L.2).down z W.symm U.symm).congr Z
  .exact .aff 0 (f c) h λx F D=>by show f (g x)=_;rw[e x F D,z,show 0*x+c=c by grind];grind
 |cat h1 h2 i1 i2=>exactλr=>.cat (i1 λx F D=>r x F (eB D h2.le)) (i2 λx F D=>r x (eB h1.le F) D)
theorem PL.last {b:Rat}(h:PL g a b){c:Rat}:∀ {p:Rat},a<=p->p<=b->g p<=c->c<=g b->∃u,p<=u/\u<=b/\g u=c/\∀x,u<=x->x<=b->c<=g x:=by
 induction h with
 |@aff a b m k h e =>
  intro p L J W hb;have ep:=e p L J;have eb:=e b h aP;by_cases z:0<m
  .have h1:∀x y,m*x<=m*y->x<=y:=λx y l=>by apply aD;intro w;have:=iF (show y<x by grind) z;grind
   have eu:m*((c-k)/m)+k=c:=by grind
   generalize (c-k)/m=u at eu;refine⟨u,h1 _ _ (by grind),h1 _ _ (by grind),?_,λx F D=>?_⟩
   .rw[e u (eB L (h1 _ _ (by grind))) (h1 _ _ (by grind))];exact eu
   .have:=h1 p u (by grind);rw[e x (by grind) D];have:=cn F (show 0<=m by grind);grind
  .have:=cn J (show 0<=-m by grind);exact⟨b,J,aP,by grind,λx F D=>by rw[show x=b by grind];exact hb⟩
 |@cat a b d h1 h2 i1 i2 =>
  intro p L J W hd;by_cases z:∃x,b<=x/\x<=d/\p<=x/\g x<=c
  .obtain⟨x,F,D,x2,x3⟩:=z;obtain⟨u,U,u1,u2,u3⟩:=i2 F D x3 hd;exact⟨u,eB x2 U,u1,u2,u3⟩
  .have Z:p<=b:=by apply aD;intro w;exact z ⟨p,by grind,J,aP,W⟩
   have gb:c<=g b:=by apply aD;intro w;exact z ⟨b,aP,h2.le,Z,by grind⟩
   obtain⟨u,U,u1,u2,u3⟩:=i1 L Z W gb;refine⟨u,U,eB u1 h2.le,u2,λx F D=>?_⟩;by_cases y:x<=b
   .exact u3 x F y
   .apply aD;intro w;exact z ⟨x,by grind,D,by grind,by grind⟩
def Bt (u v x:Rat):Prop:=(u<=x/\x<=v)\/(v<=x/\x<=u)
variable {x:Rat}
theorem Bt.symm {v:Rat}(h:Bt u v x):Bt v u x:=Or.symm h
variable {q d:Rat}
theorem seg0 {p c:Rat}(h:PL g p q)(h1:g p<=c)(h2:c<=d)(h3:d<=g q):∃u v,p<=u/\u<=v/\v<=q/\g u=c/\g v=d/\∀x,u<=x->x<=v->c<=g x/\g x<=d:=by obtain⟨u,D,u1,u2,u3⟩:=h.last (c:=c) aP h.le h1 (eB h2 h3);obtain⟨v,Z,W,U,J⟩:=((h.sub D u1 aP).flip.neg).last (c:=-d) aP (by grind) (show -g (-(-q))<=-d by rw[bU];grind) (show -d<=-g (-(-u)) by rw[bU];grind);refine⟨u,-v,D,by grind,by grind,u2,by grind,λx F L=>⟨u3 x F (by grind),?_⟩⟩;have:=J (-x) (by grind) (by grind);rw[bU]at this;grind
theorem seg1 {p c:Rat}(h:PL g p q)(h2:c<=d)(hc:Bt (g p) (g q) c)(hd:Bt (g p) (g q) d):∃u v,p<=u/\u<=q/\p<=v/\v<=q/\g u=c/\g v=d/\∀x,Bt u v x->c<=g x/\g x<=d:=by
 unfold Bt at hc hd;by_cases z:g p<=g q
 .obtain⟨u,v,L,Z,J,W,U,F⟩:=seg0 h (c:=c) (d:=d) (by grind) h2 (by grind);exact⟨u,v,L,by grind,by grind,J,W,U,λx D=>F x (by unfold Bt at D;grind) (by unfold Bt at D;grind)⟩
 .obtain⟨u,v,L,Z,J,W,U,F⟩:=seg0 h.neg (c:=-d) (d:=-c) (by grind) (by grind) (by grind);refine⟨v,u,by grind,J,L,by grind,by grind,by grind,λx D=>?_⟩;have:=F x (by unfold Bt at D;grind) (by unfold Bt at D;grind);grind
theorem seg {p c:Rat}(h:PL g lo hi)(p0:lo<=p)(p1:p<=hi)(q0:lo<=q)(q1:q<=hi)(hc:Bt (g p) (g q) c)(hd:Bt (g p) (g q) d):∃u v,Bt p q u/\Bt p q v/\g u=c/\g v=d/\∀x,Bt u v x->Bt c d (g x):=by
 have ab:∀ {p q:Rat},lo<=p->p<=q->q<=hi->Bt (g p) (g q) c->Bt (g p) (g q) d->∃u v,Bt p q u/\Bt p q v/\g u=c/\g v=d/\∀x,Bt u v x->Bt c d (g x):=λ{p q} p0 pq q1 hc hd=>by
  by_cases z:c<=d
  .obtain⟨u,v,J,F,D,a4,Z,W,U⟩:=seg1 (h.sub p0 pq q1) z hc hd;exact⟨u,v,.inl ⟨J,F⟩,.inl ⟨D,a4⟩,Z,W,λx L=>.inl (U x L)⟩
  .obtain⟨u,v,J,F,D,a4,Z,W,U⟩:=seg1 (h.sub p0 pq q1) (show d<=c by grind) hd hc;exact⟨v,u,.inl ⟨D,a4⟩,.inl ⟨J,F⟩,W,Z,λx L=>.inr (U x L.symm)⟩
 by_cases z:p<=q
 .exact ab p0 z q1 hc hd
 .obtain⟨u,v,J,F,D⟩:=ab q0 (show q<=p by grind) p1 hc.symm hd.symm;exact⟨u,v,J.symm,F.symm,D⟩
structure Mp (f:Rat->Rat)(lo hi:Rat):Prop where
 inv:∀x,lo<=x->x<=hi->lo<=f x/\f x<=hi
 pl:PL f lo hi
theorem Mp.comp {f:Rat->Rat}(hf:Mp f lo hi)(hg:Mp g lo hi):Mp (λx=>f (g x)) lo hi :=
 ⟨λx x0 x1=>hf.inv _ (hg.inv x x0 x1).1 (hg.inv x x0 x1).2,hf.pl.comp hg.pl hg.inv⟩
theorem Mp.id (h:lo<=hi):Mp (λx=>x) lo hi:=⟨λ_ a b=>⟨a,b⟩,.aff 1 0 h λx _ _=>by grind⟩
theorem Mp.flip {f:Rat->Rat}(h:Mp f lo hi):Mp (λx=>-f (-x)) (-hi) (-lo) :=
 ⟨λx x0 x1=>by have:=h.inv (-x) (by grind) (by grind);grind,h.pl.flip.neg⟩
def it (f:Rat->Rat):Nat->Rat->Rat
 |0,x=>x
 |n+1,x=>f (it f n x)
theorem vj (f:Rat->Rat)(x:Rat)(n:Nat):∀m,it f (m+n) x=it f m (it f n x)
 |0=>by rw[cJ];rfl
 |m+1=>by rw[Nat.succ_add];exact cK f (vj f x n m)
theorem Ww (f:Rat->Rat)(x:Rat)(m:Nat):∀n,it (it f m) n x=it f (m*n) x
 |0=>rfl
 |n+1=>by show it f m (it (it f m) n x)=_;rw[Ww f x m n,<-vj,Nat.mul_succ,gv]
theorem qzd {f:Rat->Rat}(h:it f m x=x):∀k,it f (m*k) x=x
 |0=>rfl
 |k+1=>by rw[Nat.mul_succ,gv,vj,qzd h k,h]
theorem Mp.it {f:Rat->Rat}(h:Mp f lo hi):∀n,Mp (it f n) lo hi
 |0=>Mp.id h.pl.le
 |n+1=>h.comp (Mp.it h n)
def run (G:Nat->Rat->Rat):Nat->Rat->Rat
 |0,x=>x
 |n+1,x=>G n (run G n x)
theorem Yb (n:Nat):∀(G:Nat->Rat->Rat) (x:Rat),run G (n+1) x=run (λi=>G (i+1)) n (G 0 x):=by
 induction n with
 |zero=>intro G x;rfl
 |succ n ih=>intro G x;show G (n+1) (run G (n+1) x)=_;rw[ih];rfl
variable {G:Nat->Rat->Rat}
theorem xw2 (l:lo<=hi)(h:∀i,Mp (G i) lo hi):∀n,Mp (run G n) lo hi
 |0=>Mp.id l
 |n+1=>(h n).comp (xw2 l h n)
def In (J:Rat×Rat)(x:Rat):Prop:=J.1<=x/\x<=J.2
def Iv (lo hi:Rat)(J:Rat×Rat):Prop:=lo<=J.1/\J.1<=J.2/\J.2<=hi
def Cov (g:Rat->Rat)(J K:Rat×Rat):Prop:=∃p q,In J p/\In J q/\g p<=K.1/\K.2<=g q
theorem path (n:Nat):∀(G:Nat->Rat->Rat) (I:Nat->Rat×Rat),(∀i,Mp (G i) lo hi)->(∀i,Iv lo hi (I i))->(∀i,i<n->Cov (G i) (I i) (I (i+1))) ->
  ∃u v,In (I 0) u/\In (I 0) v/\run G n u=(I n).1/\run G n v=(I n).2/\∀x,Bt u v x->∀i,i<=n->In (I i) (run G i x):=by
 induction n with
 |zero =>
  intro G I _ F _;have:=F 0;refine⟨(I 0).1,(I 0).2,⟨aP,this.2.1⟩,⟨this.2.1,aP⟩,rfl,rfl,λx D i hi=>?_⟩;obtain rfl:i=0:=by lia
  show In (I 0) x;exact D.elim (λh=>h) λh=>by have:=this.2.1;exact⟨by grind,by grind⟩
 |succ n ih =>
  intro G I J F L;obtain⟨u1,Z,a1,a2,a3,a4,a5⟩:=ih (λi=>G (i+1)) (λi=>I (i+1)) (λi=>J _) (λi=>F _) (λi hi=>L (i+1) ⋯);obtain⟨p,q,hp,hq,c1,c2⟩:=L 0 ⋯;have i0:=F 0;unfold In at a1 a2 hp hq;unfold Iv at i0;obtain⟨u,v,W,U,b3,b4,b5⟩:=seg (J 0).pl (p:=p) (q:=q) (c:=u1) (d:=Z) (by grind) (by grind) (by grind) (by grind) (.inl ⟨by grind,by grind⟩) (.inl ⟨by grind,by grind⟩);refine⟨u,v,by unfold Bt at W;unfold In;grind,by unfold Bt at U;unfold In;grind,by rw[Yb,b3,a3],by rw[Yb,b4,a4],λx D i hi=>?_⟩;cases i with
  |zero=>show In (I 0) x;unfold Bt at W U D;unfold In;grind
  |succ i=>rw[Yb];exact a5 _ (b5 x D) i ⋯
theorem qqh {I:Nat->Rat×Rat}(hG:∀i,Mp (G i) lo hi)(hI:∀i,Iv lo hi (I i))(hC:∀i,i<n->Cov (G i) (I i) (I (i+1)))(e:I n=I 0) :
  ∃x,lo<=x/\x<=hi/\run G n x=x/\∀i,i<=n->In (I i) (run G i x):=by
 obtain⟨u,v,Z,W,U,L,J⟩:=path n G I hG hI hC;have F:=hI 0;unfold In at Z W;unfold Iv at F;rw[e]at U L;have M:=xw2 (n:=n) (by grind) hG;obtain⟨x,_,D,_,b3,_,_⟩:=seg M.pl.minus (p:=u) (q:=v) (c:=0) (d:=0) (by grind) (by grind) (by grind) (by grind) (.inl ⟨by grind,by grind⟩) (.inl ⟨by grind,by grind⟩);refine⟨x,?_,?_,by grind,J x D⟩ <;> (unfold Bt at D;grind)
structure Cyc (f:Rat->Rat)(lo hi:Rat)(m:Nat)(x:Rat):Prop where
 rng:lo<=x/\x<=hi
 pos:0<m
 back:it f m x=x
 no:∀j,0<j->j<m->it f j x≠x
def Per (f:Rat->Rat)(lo hi:Rat)(m:Nat):Prop:=∃x,Cyc f lo hi m x
theorem wuh {P:Nat->Prop}:∀n,P n->∃m,P m/\∀j,j<m->¬ P j:=λn=>by
 induction n using Nat.strongRecOn with
 |_ n ih =>
  intro h;by_cases z:∃j,j<n/\P j
  .obtain⟨j,hj,p⟩:=z;exact ih j hj p
  .exact⟨n,h,λj hj p=>z ⟨j,hj,p⟩⟩
theorem xqb {f:Rat->Rat}(r:lo<=x/\x<=hi){n:Nat}(n0:0<n)(h:it f n x=x):∃e,e∣n/\Cyc f lo hi e x:=by
 obtain⟨e,⟨J,F⟩,D⟩:=wuh (P:=λj=>0<j/\it f j x=x) n ⟨n0,h⟩;refine⟨e,?_,r,J,F,λj U L z=>D j L ⟨U,z⟩⟩;have W:it f (n%e) x=x:=by have:=Nat.mod_add_div n e;rw[<-this,vj,qzd F]at h;exact h
 apply Nat.dvd_of_mod_eq_zero;rcases iu (n%e) with z|z
 .exact z
 .exact absurd ⟨z,W⟩ (D _ (eC _ J))
theorem it_rng {f:Rat->Rat}(M:Mp f lo hi)(r:lo<=x/\x<=hi)(n:Nat):lo<=it f n x/\it f n x<=hi:=(M.it n).inv x r.1 r.2
def On (f:Rat->Rat)(x y:Rat):Prop:=∃i,it f i x=y
theorem On.next {f:Rat->Rat}{y:Rat}(h:On f x y):On f x (f y):=by obtain⟨i,rfl⟩:=h;exact⟨i+1,rfl⟩
theorem Cyc.reach {f:Rat->Rat}(C:Cyc f lo hi m x){y z:Rat}(hy:On f x y)(hz:On f x z):∃s,s<m/\it f s y=z:=by
 obtain⟨i,rfl⟩:=hy;obtain⟨j,rfl⟩:=hz;have D:∀a b,it f (a+m*b) x=it f a x:=λa b=>by rw[vj,qzd C.back]
 have F:i<=m*i:=Nat.le_mul_of_pos_left i C.pos;refine⟨(j+m*i-i)%m,eC _ C.pos,?_⟩;have h1:it f (j+m*i-i) (it f i x)=it f j x:=by rw[<-vj,show j+m*i-i+i=j+m*i by lia,D]
 have h2:it f m (it f i x)=it f i x:=by rw[<-vj,gv,vj,C.back]
 have:=Nat.mod_add_div (j+m*i-i) m;rw[<-this,vj,qzd h2]at h1;exact h1
theorem Cyc.rngs {f:Rat->Rat}(M:Mp f lo hi)(C:Cyc f lo hi m x){y:Rat}(h:On f x y):lo<=y/\y<=hi:=by obtain⟨i,rfl⟩:=h;exact it_rng M C.rng i
theorem Cyc.noFix {f:Rat->Rat}(C:Cyc f lo hi m x){y:Rat}(h:On f x y){j:Nat}(j0:0<j)(j1:j<m):it f j y≠y:=λz=>by obtain⟨s,_,e⟩:=C.reach h ⟨0,rfl⟩;refine C.no j j0 j1 ?_;show it f j (it f 0 x)=it f 0 x;rw[<-e,<-vj,gv,vj,z]
theorem Cyc.all {f:Rat->Rat}(C:Cyc f lo hi m x){S:Rat->Prop}{y:Rat}(hy:On f x y)(sy:S y)(st:∀z,On f x z->S z->S (f z)){z:Rat}(hz:On f x z):S z:=by
 obtain⟨s,_,rfl⟩:=C.reach hy hz;have:∀s,On f x (it f s y)/\S (it f s y):=λs=>by
  induction s with
  |zero=>exact⟨hy,sy⟩
  |succ s ih=>exact⟨ih.1.next,st _ ih.1 ih.2⟩
 exact(this s).2
theorem wx2 {P:Rat->Prop}(s:Nat->Rat):∀n,(∃i,i<n/\P (s i))->∃i,i<n/\P (s i)/\∀j,j<n->P (s j)->s i<=s j
 |0,⟨i,h,_⟩=>absurd h (fN i)
 |n+1,h=>by
  by_cases z:∃i,i<n/\P (s i)
  .obtain⟨i,h1,h2,h3⟩:=wx2 s n z;by_cases y:P (s n)/\s n<s i
   .refine⟨n,⋯,y.1,λj hj pj=>?_⟩;rcases(by lia:j<n\/j=n) with w|w
    .have:=h3 j w pj;have:=y.2;grind
    .rw[w];exact aP
   .refine⟨i,⋯,h2,λj hj pj=>?_⟩;rcases(by lia:j<n\/j=n) with w|w
    .exact h3 j w pj
    .subst w;apply aD;intro q;exact y ⟨pj,by grind⟩
  .obtain⟨i,h1,h2⟩:=h;obtain rfl:i=n:=by apply aD;intro q;exact z ⟨i,⋯,h2⟩
   refine⟨i,⋯,h2,λj hj pj=>?_⟩;rcases(by lia:j<i\/j=i) with w|w
   .exact absurd ⟨j,w,pj⟩ z
   .rw[w];exact aP
theorem Cyc.min {f:Rat->Rat}(C:Cyc f lo hi m x){P:Rat->Prop}{y:Rat}(hy:On f x y)(py:P y):∃z,On f x z/\P z/\∀w,On f x w->P w->z<=w:=by have F:∀w,On f x w->∃i,i<m/\it f i x=w:=λw D=>C.reach ⟨0,rfl⟩ D;obtain⟨i,hi,e⟩:=F y hy;obtain⟨i,h1,h2,U⟩:=wx2 (P:=P) (λi=>it f i x) m ⟨i,hi,by show P (it f i x);rw[e];exact py⟩;refine⟨_,⟨i,rfl⟩,h2,λw D J=>?_⟩;obtain⟨j,L,rfl⟩:=F w D;exact U j L J
theorem Cyc.max {f:Rat->Rat}(C:Cyc f lo hi m x){P:Rat->Prop}{y:Rat}(hy:On f x y)(py:P y):∃z,On f x z/\P z/\∀w,On f x w->P w->w<=z:=by have F:∀w,On f x w->∃i,i<m/\it f i x=w:=λw D=>C.reach ⟨0,rfl⟩ D;obtain⟨i,hi,e⟩:=F y hy;obtain⟨i,h1,h2,U⟩:=wx2 (P:=λw=>P (-w)) (λi=>-it f i x) m ⟨i,hi,by show P (-(-it f i x));rw[bU,e];exact py⟩;rw[bU]at h2;refine⟨_,⟨i,rfl⟩,h2,λw D J=>?_⟩;obtain⟨j,L,rfl⟩:=F w D;have:=U j L (by rw[bU];exact J);grind
structure Cen (f:Rat->Rat)(x p q z:Rat):Prop where
 hp:On f x p
 hq:On f x q
 pz:p<z
 zq:z<q
 nb:∀y,On f x y->y<=p\/q<=y
 fp:q<=f p
 fq:f q<=p
 fz:f z=z
theorem Cyc.cen {f:Rat->Rat}(M:Mp f lo hi)(C:Cyc f lo hi m x)(m1:1<m):∃p q z,Cen f x p q z:=by
 have ne:∀y,On f x y->f y≠y:=λy J=>C.noFix J (j:=1) ⋯ m1;have h0:On f x x:=⟨0,rfl⟩;obtain⟨a,L,_,am⟩:=C.min (P:=λ_=>True) h0 trivial;have fa:f a>a:=by have:=am _ L.next trivial;have:=ne a L;grind
 obtain⟨p,F,fp,pm⟩:=C.max (P:=λy=>y<f y) L fa;obtain⟨q,D,pq,qm⟩:=C.min (P:=λy=>p<y) F.next fp;have nb:∀y,On f x y->y<=p\/q<=y:=λy J=>by
  by_cases z:p<y
  .exact .inr (qm y J z)
  .exact .inl (by grind)
 have fq:f q<q:=by have:=ne q D;apply aD;intro z;have:=pm q D (by grind);grind
 have ac:q<=f p:=qm _ F.next fp;have ab:f q<=p:=by
  rcases nb _ D.next with z|z
  .exact z
  .exfalso;grind
 have Z:=C.rngs M F;have W:=C.rngs M D;obtain⟨z,_,b1,_,b3,_,_⟩:=seg M.pl.minus (p:=p) (q:=q) (c:=0) (d:=0) Z.1 Z.2 W.1 W.2 (.inr ⟨by grind,by grind⟩) (.inr ⟨by grind,by grind⟩);have U:f z=z:=by grind
 unfold Bt at b1;have zp:z≠p:=λe=>by rw[e]at U;grind
 have zq:z≠q:=λe=>by rw[e]at U;grind
 exact⟨p,q,z,F,D,by grind,by grind,nb,ac,ab,U⟩
theorem qq8 (f:Rat->Rat)(x:Rat):∀n,it (λx=>-f (-x)) n (-x)=-it f n x
 |0=>rfl
 |n+1=>by show -f (-it (λx=>-f (-x)) n (-x))=_;rw[qq8 f x n,bU];rfl
theorem Cyc.flip {f:Rat->Rat}(C:Cyc f lo hi m x):Cyc (λx=>-f (-x)) (-hi) (-lo) m (-x) :=
 ⟨by have:=C.rng;grind,C.pos,by rw[qq8,C.back],λj j0 j1 e=>C.no j j0 j1 (by rw[qq8]at e;grind)⟩
theorem On.flip {f:Rat->Rat}{y:Rat}(h:On f x y):On (λx=>-f (-x)) (-x) (-y):=by obtain⟨i,rfl⟩:=h;exact⟨i,qq8 f x i⟩
theorem qkq {f:Rat->Rat}:(λx=>-(λx=>-f (-x)) (-x))=f:=by funext x;show -(-f (-(-x)))=f x;rw[bU,bU]
theorem On.unflip {f:Rat->Rat}{y:Rat}(h:On (λx=>-f (-x)) (-x) y):On f x (-y):=by have:=h.flip;rw[qkq,bU]at this;exact this
theorem Per.unflip {f:Rat->Rat}(h:Per (λx=>-f (-x)) (-hi) (-lo) m):Per f lo hi m:=by obtain⟨y,C⟩:=h;have:=C.flip;rw[qkq,bU,bU]at this;exact⟨_,this⟩
variable {z:Rat}
theorem Cen.flip {f:Rat->Rat}{p:Rat}(h:Cen f x p q z):Cen (λx=>-f (-x)) (-x) (-q) (-p) (-z) :=
 ⟨h.hq.flip,h.hp.flip,by have:=h.zq;grind,by have:=h.pz;grind,λy hy=>by have:=h.nb _ hy.unflip;grind,by have:=h.fq;rw[bU];grind,by have:=h.fp;rw[bU];grind,by have:=h.fz;rw[bU];grind⟩
theorem Y9 (g:Rat->Rat)(x:Rat):∀n,run (λ_=>g) n x=it g n x
 |0=>rfl
 |n+1=>cK g (Y9 g x n)
theorem evens {f:Rat->Rat}{y c:Rat}(M:Mp f lo hi)(ly:lo<=y)(yc:y<c)(cz:c<z)(zh:z<=hi)(fz:f z=z)(fy:f y=z)(fc:f (f c)<y)(ab:∀t,y<=t->t<=c->z<=f t){k:Nat}(k1:1<=k):Per f lo hi (2*k):=by
 have ap:∀J K:Rat×Rat,In J c->(In J y\/In J z)->y<=K.1->K.2<=z->Cov (it f 2) J K:=λJ K jc L k0 k1=>by
  rcases L with L|L
  .exact⟨c,y,jc,L,by show f (f c)<=_;grind,by show _<=f (f y);rw[fy,fz];exact k1⟩
  .exact⟨c,z,jc,L,by show f (f c)<=_;grind,by show _<=f (f z);rw[fz,fz];exact k1⟩
 have D:∀i:Nat,(λi:Nat=>if i=0\/i=k then(y,c) else(c,z)) i=(y,c)\/(λi:Nat=>if i=0\/i=k then(y,c) else(c,z)) i=(c,z):=λi=>by
  dsimp only;split
  .exact .inl rfl
  .exact .inr rfl
 have W:(λi:Nat=>if i=0\/i=k then(y,c) else(c,z)) 0=(y,c):=av (.inl rfl);have an:(λi:Nat=>if i=0\/i=k then(y,c) else(c,z)) k=(y,c):=av (.inr rfl);have am:∀i,0<i->i<k->(λi:Nat=>if i=0\/i=k then(y,c) else(c,z)) i=(c,z):=λi h0 h1=>ao ⋯;generalize (λi:Nat=>if i=0\/i=k then(y,c) else(c,z))=I at D W an am;obtain⟨x,x0,x1,Z,wh⟩:=qqh (n:=k) (G:=λ_=>it f 2) (I:=I) (λ_=>M.it 2) (λi=>by rcases D i with e|e <;> (rw[e];unfold Iv;grind)) (λi _=>by
  refine ap _ _ ?_ ?_ ?_ ?_
  .rcases D i with e|e <;> (rw[e];unfold In;grind)
  .rcases D i with e|e
   .exact .inl (by rw[e];unfold In;grind)
   .exact .inr (by rw[e];unfold In;grind)
  .rcases D (i+1) with e|e <;> (rw[e];grind)
  .rcases D (i+1) with e|e <;> (rw[e];grind)) (an.trans W.symm)
 have ac:∀i,i<=k->In (I i) (it f (2*i) x):=λi hi=>by have:=wh i hi;rwa [Y9,Ww]at this
 have ad:∀i,i<=k->y<=it f (2*i) x/\it f (2*i) x<=z:=λi hi=>by have:=ac i hi;rcases D i with e|e <;> (rw[e]at this;unfold In at this;grind)
 rw[Y9,Ww]at Z;have F:=ac 0 ⋯;rw[W]at F;have F:y<=x/\x<=c:=F;refine⟨x,⟨x0,x1⟩,⋯,Z,λe e0 e1 h=>?_⟩;rcases bZ e with z0|z0
 .obtain⟨d,rfl⟩:∃d,e=2*d:=⟨e/2,⋯⟩;have U:=ac d ⋯;rw[h,am d ⋯ ⋯]at U;have U:c<=x/\x<=z:=U;have xc:x=c:=by grind
  have:=(ad 1 ⋯).1;rw[xc]at this;have this:y<=f (f c):=this;grind
 .obtain⟨d,hd⟩:∃d,e+1=2*d:=⟨(e+1)/2,⋯⟩;have e2:f x=it f (2*d) x:=by rw[<-hd];show _=f (it f e x);rw[h]
  have U:=(ad d ⋯).2;rw[<-e2]at U;have fx:f x=z:=by have:=ab x F.1 F.2;grind
  have st:∀n,it f (n+1) x=z:=λn=>by
   induction n with
   |zero=>exact fx
   |succ n ih=>show f (it f (n+1) x)=z;rw[ih,fz]
  have:=st (2*k-1);rw[show 2*k-1+1=2*k by lia,Z]at this;grind
theorem qw1 {f:Rat->Rat}{p:Rat}(M:Mp f lo hi)(C:Cyc f lo hi m x)(c:Cen f x p q z)(no:∃w,On f x w/\((w<=p/\f w<=p)\/(q<=w/\q<=f w))){k:Nat}(k1:1<=k):Per f lo hi (2*k):=by
 have ab:∀ {f:Rat->Rat} {lo hi x p q z:Rat},Mp f lo hi->Cyc f lo hi m x->Cen f x p q z->(∃v,On f x v/\(∀w,On f x w->w<=p->f w<=p->w<v)/\(∀w,On f x w->q<=w->q<=f w->v<w)/\∃w,On f x w/\w<=p/\f w<=p/\f v<=w)->Per f lo hi (2*k):=by
  intro f lo hi x p q z M C c ⟨v0,hv0,U,L,w0,hw0,Z,W,w3⟩;have pz:=c.pz;have zq:=c.zq;obtain⟨w,F,⟨wp,fw⟩,wm⟩:=C.max (P:=λw=>w<=p/\f w<=p) hw0 ⟨Z,W⟩;have ww:=wm w0 hw0 ⟨Z,W⟩;have ad:∀v,On f x v->(∀w,On f x w->w<=p->f w<=p->w<v)->f v<=w->q<=v:=λv hv h1 h3=>by
   rcases c.nb v hv with y|y
   .have:=h1 v hv y (by grind);grind
   .exact y
  obtain⟨v,hv,⟨a1,a2,a3⟩,vm⟩:=C.min (P:=λv=>(∀w,On f x w->w<=p->f w<=p->w<v)/\(∀w,On f x w->q<=w->q<=f w->v<w)/\f v<=w) hv0 ⟨U,L,by grind⟩;have vq:=ad v hv a1 a3;have pl:∀w,On f x w->w<=p->f w<=p->w<p:=λD J h1 h2=>by
   have:D≠p:=λe=>by rw[e]at h2;have:=c.fp;grind
   grind
  have ⟨u,hu,u1,u2,u3,u4⟩:∃u,On f x u/\w<u/\u<=p/\v<=f u/\True:=by
   apply aD;intro no;have:=C.all (S:=λy=>(∀w,On f x w->w<=p->f w<=p->w<y)/\(∀w,On f x w->q<=w->q<=f w->y<w)/\y<v) c.hp ⟨pl,λD _ h1 _=>by grind,by grind⟩ (λy hy ⟨s1,s2,s3⟩=>by
    have wy:=s1 w F wp fw
    rcases c.nb y hy with s|s
    .have t1:q<=f y:=by
      rcases c.nb _ hy.next with t|t
      .have:=s1 y hy s t
       grind
      .exact t
     have t2:f y<v:=by
      apply aD
      intro t
      exact no ⟨y,hy,wy,s,by grind,trivial⟩
     exact⟨λD _ h1 _=>by grind,λD J h1 h2=>by have:=a2 D J h1 h2;grind,t2⟩
    .have t1:f y<=p:=by
      rcases c.nb _ hy.next with t|t
      .exact t
      .have:=s2 y hy s t
       grind
     have t2:w<f y:=by
      apply aD
      intro t
      have:=vm y hy ⟨s1,s2,by grind⟩
      grind
     exact⟨λD J h1 h2=>by have:=wm D J ⟨h1,h2⟩;grind,λD _ h1 _=>by grind,by grind⟩) hv
   grind
  have ac:=C.rngs M F;have ru:=C.rngs M hu;have rq:=C.rngs M c.hq;have fz:=c.fz;obtain⟨d,_,b1,_,b3,_,_⟩:=seg M.pl (p:=u) (q:=z) (c:=v) (d:=v) (by grind) (by grind) (by grind) (by grind) (.inr ⟨by grind,by grind⟩) (.inr ⟨by grind,by grind⟩);unfold Bt at b1;have dz:d≠z:=λe=>by rw[e]at b3;grind
  obtain⟨y,y0,y1,y2,y3⟩:=(M.pl.sub (p:=w) (q:=d) ac.1 (by grind) (by grind)).last (c:=z) aP (by grind) (by grind) (by grind);have yw:y≠w:=λe=>by rw[e]at y2;grind
  have yd:y≠d:=λe=>by rw[e]at y2;grind
  exact evens M (y:=y) (c:=d) (z:=z) (by grind) (by grind) (by grind) (by grind) fz y2 (by rw[b3];grind) y3 k1
 have am:∃v,On f x v/\(∀w,On f x w->w<=p->f w<=p->w<v)/\(∀w,On f x w->q<=w->q<=f w->v<w)/\((∃w,On f x w/\w<=p/\f w<=p/\f v<=w)\/∃w,On f x w/\q<=w/\q<=f w/\w<=f v):=by
  apply aD;intro h;have pz:=c.pz;have zq:=c.zq;have:=λ{y} hy=>C.all (z:=y) (S:=λy=>(∀w,On f x w->w<=p->f w<=p->w<y)/\(∀w,On f x w->q<=w->q<=f w->y<w)) c.hp ⟨λD J h1 h2=>by
    have:D≠p:=λe=>by rw[e]at h2;have:=c.fp;grind
    grind,λD _ h1 _=>by grind⟩ (λy hy ⟨s1,s2⟩=>⟨λD J h1 h2=>by
     apply aD
     intro t
     exact h ⟨y,hy,s1,s2,.inl ⟨D,J,h1,h2,by grind⟩⟩,λD J h1 h2=>by
     apply aD
     intro t
     exact h ⟨y,hy,s1,s2,.inr ⟨D,J,h1,h2,by grind⟩⟩⟩) hy
  obtain⟨w,F,z|z⟩:=no
  .have:=(this F).1 w F z.1 z.2;grind
  .have:=(this F).2 w F z.1 z.2;grind
 obtain⟨v,hv,U,L,z|⟨w,F,Z,W,w3⟩⟩:=am
 .exact ab M C c ⟨v,hv,U,L,z⟩
 .refine Per.unflip (ab M.flip C.flip c.flip ⟨-v,hv.flip,λw F h1 h2=>?_,λw F h1 h2=>?_,-w,F.flip,by grind,by rw[bU];grind,by rw[bU];grind⟩)
  .have:=L (-w) F.unflip (by grind) (by grind);grind
  .have:=U (-w) F.unflip (by grind) (by grind);grind
theorem two {f:Rat->Rat}(M:Mp f lo hi)(C:Cyc f lo hi m x)(m1:1<m):Per f lo hi 2:=by
 obtain⟨p,q,z,c⟩:=C.cen M m1;have pz:=c.pz;have zq:=c.zq;by_cases no:∃w,On f x w/\((w<=p/\f w<=p)\/(q<=w/\q<=f w))
 .exact qw1 M C c no (k:=1) ⋯
 .have sl:∀w,On f x w->w<=p->q<=f w:=λw D h=>(c.nb _ D.next).elim (λt=>absurd ⟨w,D,.inl ⟨h,t⟩⟩ no) id;have sr:∀w,On f x w->q<=w->f w<=p:=λw D h=>(c.nb _ D.next).elim id λt=>absurd ⟨w,D,.inr ⟨h,t⟩⟩ no;have U:∀y,On f x y->∃w,On f x w/\f w=y:=λy F=>by
   obtain⟨s,_,e⟩:=C.reach F.next F;cases s with
   |zero=>exact⟨y,F,e⟩
   |succ s =>
    obtain⟨i,hi⟩:=F.next;exact⟨it f s (f y),⟨s+i,by rw[vj,hi]⟩,e⟩
  obtain⟨a,ha,_,am⟩:=C.min (P:=λ_=>True) c.hp trivial;obtain⟨b,Z,_,bm⟩:=C.max (P:=λ_=>True) c.hp trivial;have ap:=am p c.hp trivial;have qb:=bm q c.hq trivial;have ra:=C.rngs M ha;have rb:=C.rngs M Z;have L:∀y,On f x y->q<=y->∃w,In (a,p) w/\f w=y:=λy F h=>by
   obtain⟨w,D,e⟩:=U y F;refine⟨w,⟨am w D trivial,?_⟩,e⟩;rcases c.nb w D with t|t
   .exact t
   .have:=sr w D t;grind
  have R:∀y,On f x y->y<=p->∃w,In (q,b) w/\f w=y:=λy F h=>by
   obtain⟨w,D,e⟩:=U y F;refine⟨w,⟨?_,bm w D trivial⟩,e⟩;rcases c.nb w D with t|t
   .have:=sl w D t;grind
   .exact t
  obtain⟨l1,i1,e1⟩:=L q c.hq aP;obtain⟨l2,i2,e2⟩:=L b Z qb;obtain⟨r1,W,g1⟩:=R a ha ap;obtain⟨r2,j2,g2⟩:=R p c.hp aP;obtain⟨y,y0,y1,bk,J⟩:=qqh (lo:=lo) (hi:=hi) (n:=2) (G:=λ_=>f) (I:=λi=>if i=1 then(q,b) else(a,p)) (λ_=>M) (λi=>by
    split <;> (unfold Iv;grind)) (λi hi=>by
    rcases(by lia:i=0\/i=1) with rfl|rfl
    .exact⟨l1,l2,i1,i2,by rw[e1];exact aP,by rw[e2];exact aP⟩
    .exact⟨r1,r2,W,j2,by rw[g1];exact aP,by rw[g2];exact aP⟩) rfl
  have w0:In (a,p) y:=J 0 ⋯;have w1:In (q,b) (f y):=J 1 ⋯;refine⟨y,⟨y0,y1⟩,⋯,bk,λj j0 W e=>?_⟩;obtain rfl:j=1:=by lia
  have e:f y=y:=e;unfold In at w0 w1;grind
theorem qkc {f:Rat->Rat}{p:Rat}(C:Cyc f lo hi m x)(c:Cen f x p q z)(o:m%2=1):∃w,On f x w/\((w<=p/\f w<=p)\/(q<=w/\q<=f w)):=by
 apply aD;intro F;have W:=c.pz;have U:=c.zq;have st:∀n,(it f n p<=p↔n%2=0):=λn=>by
  induction n with
  |zero=>exact⟨λ_=>rfl,λ_=>aP⟩
  |succ n ih =>
   have D:On f x (it f n p):=by obtain⟨i,e⟩:=c.hp;exact⟨n+i,by rw[vj,e]⟩
   show f (it f n p)<=p↔_;have:=c.nb _ D;have:=c.nb _ D.next;by_cases t:it f n p<=p
   .have J:=ih.mp t;refine⟨λh=>absurd ⟨_,D,.inl ⟨t,h⟩⟩ F,λh=>by lia⟩
   .have J:n%2≠0:=λh=>t (ih.mpr h);refine⟨λ_=>by lia,λ_=>?_⟩;apply aD;intro h;exact F ⟨_,D,.inr ⟨by grind,by grind⟩⟩
 have L:it f m p=p:=by obtain⟨i,rfl⟩:=c.hp;rw[<-vj,gv,vj,C.back]
 have:=(st m).mp (by rw[L];exact aP);lia
theorem xqd {f:Rat->Rat}(M:Mp f lo hi)(C:Cyc f lo hi m x)(m1:1<m)(o:m%2=1){k:Nat}(k1:1<=k):Per f lo hi (2*k):=by obtain⟨p,q,z,c⟩:=C.cen M m1;exact qw1 M C c (qkc C c o) k1
theorem quv {f:Rat->Rat}(t:Nat)(h:∀i,i<t->G i=f)(x:Rat):∀i,i<=t->run G i x=it f i x
 |0,_=>rfl
 |i+1,hi=>by show G i (run G i x)=_;rw[h i ⋯,quv t h x i ⋯];rfl
theorem star {f:Rat->Rat}(M:Mp f lo hi)(C:Cyc f lo hi m x)(m1:1<m)(o:m%2=1){l:Nat}(ml:m<l):∃e,e∣l/\l<e+m/\Per f lo hi e:=by
 have ad:∀ {f:Rat->Rat} {lo hi x p q z:Rat},Mp f lo hi->Cyc f lo hi m x->Cen f x p q z->(∃w,On f x w/\w<=p/\f w<=p)->∃e,e∣l/\l<e+m/\Per f lo hi e:=by
  intro f lo hi x p q z M C c ⟨w0,hw0,w1,w2⟩;have pz:=c.pz;have zq:=c.zq;have fz:=c.fz;have fp:=c.fp;have fq:=c.fq;obtain⟨w,U,⟨wp,fw⟩,wm⟩:=C.max (P:=λw=>w<=p/\f w<=p) hw0 ⟨w1,w2⟩;have ab:w<p:=by
   have:w≠p:=λe=>by rw[e]at fw;grind
   grind
  obtain⟨v,hv,wv,vm⟩:=C.min (P:=λy=>w<y) c.hp ab;have vp:=vm p c.hp ab;have fv:q<=f v:=(c.nb _ hv.next).elim (λt=>by have:=wm v hv ⟨vp,t⟩;grind) id;have as:=C.rngs M U;have rp:=C.rngs M c.hp;have rq:=C.rngs M c.hq;obtain⟨y,_,b1,_,b3,_,_⟩:=seg M.pl (p:=w) (q:=v) (c:=z) (d:=z) (by grind) (by grind) (by grind) (by grind) (.inl ⟨by grind,by grind⟩) (.inl ⟨by grind,by grind⟩);unfold Bt at b1;have yv:y≠v:=λe=>by rw[e]at b3;grind
  obtain⟨s,hs,es⟩:=C.reach c.hp U;have zs:∀n,it f n z=z:=λn=>by
   induction n with
   |zero=>rfl
   |succ n ih=>show f (it f n z)=z;rw[ih,fz]
  have ac:∀ {G:Nat->Rat->Rat} {I:Nat->Rat×Rat} {J:Rat×Rat},(∀i,G i=if i<l-s then f else it f s)->(∀i,I i=if i=0\/l-s<i then J else if(l-s-i)%2=0 then(p,z) else(z,q))->Iv lo hi J->J.2<=v->w<=J.1->Cov f J (I 1)->(∀a b:Rat,J=(a,b)->b<p\/(l-s)%2=0)->∃e,e∣l/\l<e+m/\Per f lo hi e:=by
   intro G I J L F iJ J2 J1 c1 an;have ap:∀i,Iv lo hi (I i):=λi=>by
    rw[F];split
    .exact iJ
    .split <;> (unfold Iv;grind)
   have t2:2<=l-s:=by lia
   have hA:∀i,0<i->i<=l-s->(l-s-i)%2=0->I i=(p,z):=λi W h1 h2=>by rw[F,ao ⋯,av h2]
   have hB:∀i,0<i->i<=l-s->(l-s-i)%2=1->I i=(z,q):=λi W h1 h2=>by rw[F,ao ⋯,ao ⋯]
   obtain⟨D,x0,x1,bk,wh⟩:=qqh (n:=l-s+1) (G:=G) (I:=I) (λi=>by rw[L];split;exact M;exact M.it s) ap (λi am=>by
    rcases(by lia:i=0\/i=l-s\/(0<i/\i<l-s)) with rfl|rfl|⟨W,h1⟩
    .rw[L,av ⋯,F 0,av (.inl rfl)]
     exact c1
    .rw[L,ao ⋯,hA _ ⋯ (aj _) ⋯,F,av ⋯]
     exact⟨p,z,⟨aP,by grind⟩,⟨by grind,aP⟩,by rw[es];exact J1,by rw[zs];grind⟩
    .rw[L,av h1]
     rcases bZ (l-s-i) with e|e
     .rw[hA i W ⋯ e,hB (i+1) ⋯ ⋯ ⋯]
      exact⟨z,p,⟨by grind,aP⟩,⟨aP,by grind⟩,by rw[fz];exact aP,fp⟩
     .rw[hB i W ⋯ e,hA (i+1) ⋯ ⋯ ⋯]
      exact⟨q,z,⟨by grind,aP⟩,⟨aP,by grind⟩,fq,by rw[fz];exact aP⟩) (by rw[F,av ⋯,F,av (.inl rfl)])
   have up:=quv (f:=f) (G:=G) (l-s) (λi am=>by rw[L,av am]) D;have bk:it f l D=D:=by have:G (l-s) (run G (l-s) D)=D:=bk;rw[up _ (aj _),L,ao ⋯,<-vj,show s+(l-s)=l by lia]at this;exact this
   obtain⟨e,ed,ce⟩:=xqb (f:=f) ⟨x0,x1⟩ (show 0<l by lia) bk;refine⟨e,ed,?_,D,ce⟩;have st:∀i,0<i->i<=l-s->In (if(l-s-i)%2=0 then(p,z) else(z,q)) (it f i D):=λi W h1=>by have:=wh i ⋯;rwa [up i h1,F,ao ⋯]at this
   apply aD;intro no;have s1:=st e ce.pos ⋯;rw[ce.back]at s1;have s0:=wh 0 ⋯;rw[F,av (.inl rfl)]at s0;have s0:J.1<=D/\D<=J.2:=s0;have px:p<=D:=by split at s1 <;> (unfold In at s1;grind)
   have xp:D=p:=by grind
   rcases an J.1 J.2 rfl with t|t
   .grind
   .have a1:=st 1 ⋯ ⋯;have Z:=st 2 ⋯ ⋯;rw[ao ⋯,xp]at a1;rw[av ⋯,xp]at Z;have a1:z<=f p/\f p<=q:=a1;have Z:p<=f (f p)/\f (f p)<=z:=Z;have f1:f p=q:=by grind
    rw[f1]at Z;have f2:f q=p:=by grind
    exact C.noFix c.hp (j:=2) ⋯ ⋯ (show f (f p)=p by rw[f1,f2])
  rcases bZ (l-s) with e|e
  .refine ac (J:=(y,v)) (λ_=>rfl) (λ_=>rfl) (by unfold Iv;grind) aP (by grind) ?_ λ_ _ _=>.inr e;rw[ao ⋯,ao ⋯];exact⟨y,v,⟨aP,by grind⟩,⟨by grind,aP⟩,by rw[b3];exact aP,fv⟩
  .refine ac (J:=(w,y)) (λ_=>rfl) (λ_=>rfl) (by unfold Iv;grind) (by grind) aP ?_ λa b h=>.inl (by cases h;grind);rw[ao ⋯,av ⋯];exact⟨w,y,⟨aP,by grind⟩,⟨by grind,aP⟩,fw,by rw[b3];exact aP⟩
 obtain⟨p,q,z,c⟩:=C.cen M m1;obtain⟨w,U,h|h⟩:=qkc C c o
 .exact ad M C c ⟨w,U,h⟩
 .obtain⟨e,a,b,d⟩:=ad M.flip C.flip c.flip ⟨-w,U.flip,by grind,by rw[bU];grind⟩;exact⟨e,a,b,d.unflip⟩
theorem half {f:Rat->Rat}{k:Nat}(h:Per f lo hi (2*k))(k0:0<k):Per (it f 2) lo hi k:=by obtain⟨x,C⟩:=h;exact⟨x,C.rng,k0,by rw[Ww];exact C.back,λj j0 j1 e=>C.no (2*j) ⋯ ⋯ (by rw[Ww]at e;exact e)⟩
theorem wqu {f:Rat->Rat}{k:Nat}(h:Per (it f 2) lo hi k):Per f lo hi (2*k)\/(k%2=1/\Per f lo hi k):=by
 obtain⟨x,C⟩:=h;have b:=C.back;have:=C.pos;rw[Ww]at b;obtain⟨e,J,D⟩:=xqb (f:=f) C.rng ⋯ b;have U:=D.pos;have L:=fJ ⋯ J;rcases bZ e with z|z
 .obtain⟨d,rfl⟩:∃d,e=2*d:=⟨e/2,⋯⟩;have:¬ d<k:=λh=>C.no d ⋯ h (by rw[Ww];exact D.back);obtain rfl:d=k:=by lia
  exact .inl ⟨x,D⟩
 .have:¬ e<k:=λh=>C.no e ⋯ h (by rw[Ww,Nat.mul_comm];exact qzd D.back 2);obtain⟨c,F⟩:=J;have W:c<3:=by apply aD;intro h;have:=Nat.mul_le_mul_left e (show 3<=c by lia);lia
  have:c≠1:=λh=>by rw[h]at F;lia
  have:c≠0:=λh=>by rw[h]at F;lia
  obtain rfl:c=2:=by lia
  obtain rfl:e=k:=by lia
  exact .inr ⟨z,x,D⟩
theorem chain {f:Rat->Rat}(M:Mp f lo hi){m k:Nat}(h:(m,k)∈[(3,5),(5,7),(7,9),(9,11),(11,6),(6,10),(10,12),(12,8),(8,4),(4,2)]):Per f lo hi m->Per f lo hi k:=by
 have U:∀ {f:Rat->Rat},Mp f lo hi->Per f lo hi 3->Per f lo hi 5:=λM ⟨x,C⟩=>by obtain⟨e,D,J,F⟩:=star M C ⋯ rfl (l:=5) ⋯;rwa [(by decide:∀e,e<6->e∣5->5<e+3->e=5) e (by have:=fJ ⋯ D;lia) D J]at F
 have W:Per f lo hi 3->Per f lo hi 9:=λ⟨x,C⟩=>by obtain⟨e,D,J,F⟩:=star M C ⋯ rfl (l:=9) ⋯;rwa [(by decide:∀e,e<10->e∣9->9<e+3->e=9) e (by have:=fJ ⋯ D;lia) D J]at F
 have L:∀ {f:Rat->Rat} {m k:Nat},Mp f lo hi->1<m->m%2=1->1<=k->Per f lo hi m->Per f lo hi (2*k):=λM m1 o k1 ⟨x,C⟩=>xqd M C m1 o k1;simp only[aQ,Prod.mk.injEq,i9,or_false]at h;intro p;rcases h with⟨rfl,rfl⟩|⟨rfl,rfl⟩|⟨rfl,rfl⟩|⟨rfl,rfl⟩|⟨rfl,rfl⟩|⟨rfl,rfl⟩|⟨rfl,rfl⟩|⟨rfl,rfl⟩|⟨rfl,rfl⟩|⟨rfl,rfl⟩
 .exact U M p
 .obtain⟨x,C⟩:=p;obtain⟨e,D,J,F⟩:=star M C ⋯ rfl (l:=7) ⋯;rwa [(by decide:∀e,e<8->e∣7->7<e+5->e=7) e (by have:=fJ ⋯ D;lia) D J]at F
 .obtain⟨x,C⟩:=p;obtain⟨e,D,J,F⟩:=star M C ⋯ rfl (l:=9) ⋯;rcases(by decide:∀e,e<10->e∣9->9<e+7->e=9\/e=3) e (by have:=fJ ⋯ D;lia) D J with rfl|rfl
  .exact F
  .exact W F
 .obtain⟨x,C⟩:=p;obtain⟨e,D,J,F⟩:=star M C ⋯ rfl (l:=11) ⋯;rwa [(by decide:∀e,e<12->e∣11->11<e+9->e=11) e (by have:=fJ ⋯ D;lia) D J]at F
 .exact L M ⋯ rfl (k:=3) ⋯ p
 .rcases wqu (U (M.it 2) (half (k:=3) p ⋯)) with h|h
  .exact h
  .exact L M ⋯ rfl (k:=5) ⋯ h.2
 .rcases wqu (L (M.it 2) ⋯ rfl (k:=3) ⋯ (half (k:=5) p ⋯)) with h|h
  .exact h
  .exact absurd h.1 ⋯
 .have Z:=half (half (k:=6) p ⋯) (k:=3) ⋯;rcases wqu (L ((M.it 2).it 2) ⋯ rfl (k:=1) ⋯ Z) with h|h
  .rcases wqu h with h|h
   .exact h
   .exact absurd h.1 ⋯
  .exact absurd h.1 ⋯
 .obtain⟨x,C⟩:=half (k:=4) p ⋯;rcases wqu (two (M.it 2) C ⋯) with h|h
  .exact h
  .exact absurd h.1 ⋯
 .obtain⟨x,C⟩:=p;exact two M C ⋯
end Sh
def qR (t b:Int):Rat:=(t:Rat)/(b:Rat)
theorem Q0 {t:Int}(hb:1<=b):qR t b*(b:Rat)=t:=by
 have:(b:Rat)≠0:=λh=>by have:=fY.mp h;lia
 exact Rat.div_mul_cancel this
theorem xqv {t:Int}(hb:1<=b):(k:Rat)<=qR t b↔k*b<=t:=by
 have e:=Q0 (t:=t) hb;have D:(0:Rat)<(b:Rat):=Rat.intCast_pos.mpr ⋯;rw[<-gz,dL,<-e];constructor
 .exactλh=>gH h (by grind)
 .intro h;apply aD;intro z;have:=hX (show qR t b<(k:Rat) by grind) D;grind
theorem wud {t:Int}(hb:1<=b):qR t b<=(k:Rat)↔t<=k*b:=by
 have e:=Q0 (t:=t) hb;have D:(0:Rat)<(b:Rat):=Rat.intCast_pos.mpr ⋯;rw[<-gz,dL,<-e];constructor
 .exactλh=>gH h (by grind)
 .intro h;apply aD;intro z;have:=hX (show(k:Rat)<qR t b by grind) D;grind
theorem wu8 {t u:Int}(hb:1<=b)(h:qR t b=qR u b):t=u:=by have e1:=Q0 (t:=t) hb;have e2:=Q0 (t:=u) hb;rw[h,e2]at e1;exact(Rat.intCast_inj.mp e1).symm
theorem Wb (q:Rat):qR q.num q.den=q:=by unfold qR;rw[<-Rat.divInt_eq_div];exact Rat.num_divInt_den q
def fR (hs:List Int)(q:Rat):Rat:=qR (vv hs q.num q.den) q.den
theorem fR_on (k0:0<=k)(k1:k<(hs.length:Int)-1){q:Rat}(h0:(k:Rat)<=q)(h1:q<=((k+1:Int):Rat)):fR hs q=(hAt hs k:Rat)+((hAt hs (k+1)-hAt hs k:Int):Rat)*(q-k):=by
 have D:(1:Int)<=q.den:=by have:=q.den_pos;lia
 have e:=Wb q;have L:=(xqv (t:=q.num) D).mp (by rw[e];exact h0);have J:=(wud (t:=q.num) D).mp (by rw[e];exact h1);unfold fR;rw[j4 k0 k1 D L J];have m:=Q0 (t:=q.num) D;rw[e]at m;have F:((q.den:Int):Rat)≠0:=λh=>by have:=fY.mp h;lia
 generalize ((q.den:Int))=b at D m F;generalize q.num=t at m;have U:qR (hAt hs k*b+(hAt hs (k+1)-hAt hs k)*(t-k*b)) b*(b:Rat)=((hAt hs k:Rat)+((hAt hs (k+1)-hAt hs k:Int):Rat)*(q-k))*b:=by rw[Q0 D,Rat.intCast_add,dL,dL,Rat.intCast_sub t,dL,<-m];grind
 have h2:=cK (λz=>z/(b:Rat)) U;simp only[Rat.mul_div_cancel F]at h2;exact h2
theorem fR_eq (ok:wu hs){t b:Int}(hb:1<=b)(on:zj hs t b):fR hs (qR t b)=qR (vv hs t b) b:=by
 obtain⟨F,D⟩:=wzg (hs:=hs) ok.1 hb on.1;have l:kF hs t b*b<=t/\t<=(kF hs t b+1)*b:=by
  have h1:t/b*b<=t:=gW t ⋯;have h2:=gY t (show 0<b by lia);unfold kF;split
  .next z =>
   have U:=aK (show(hs.length:Int)-1-1<=t/b by lia) (show 0<=b by lia);exact⟨⋯,by rw[show(hs.length:Int)-1-1+1=(hs.length:Int)-1 by lia];exact on.2⟩
  .exact⟨h1,⋯⟩
 generalize kF hs t b=k at F D l;rw[fR_on F D ((xqv hb).mpr l.1) ((wud hb).mpr l.2),j4 F D hb l.1 l.2];have m:=Q0 (t:=t) hb;have L:(b:Rat)≠0:=λh=>by have:=fY.mp h;lia
 have J:qR (hAt hs k*b+(hAt hs (k+1)-hAt hs k)*(t-k*b)) b*(b:Rat)=((hAt hs k:Rat)+((hAt hs (k+1)-hAt hs k:Int):Rat)*(qR t b-k))*b:=by rw[Q0 hb,Rat.intCast_add,dL,dL,Rat.intCast_sub t,dL,<-m];grind
 have h2:=cK (λz=>z/(b:Rat)) J;simp only[Rat.mul_div_cancel L]at h2;exact h2.symm
theorem wv7 (ok:wu hs){t b:Int}(hb:1<=b)(on:zj hs t b):∀n,Sh.it (fR hs) n (qR t b)=qR (trT hs t b n) b
 |0=>rfl
 |n+1=>by show fR hs (Sh.it (fR hs) n (qR t b))=_;rw[wv7 ok hb on n,fR_eq ok hb (wxf ok hb on n)];rfl
def wR (hs:List Int):Rat:=(((hs.length:Int)-1:Int):Rat)
theorem wz6 {t:Int}(hb:1<=b):(0<=qR t b/\qR t b<=wR hs)↔zj hs t b:=by have h1:=xqv (t:=t) (k:=0) hb;have h2:=wud (t:=t) (k:=(hs.length:Int)-1) hb;rw[Int.zero_mul,Rat.intCast_zero]at h1;exact⟨λh=>⟨h1.mp h.1,h2.mp h.2⟩,λh=>⟨h1.mpr h.1,h2.mpr h.2⟩⟩
theorem fR_mp (ok:wu hs):Sh.Mp (fR hs) 0 (wR hs):=by
 refine⟨λq D h1=>?_,?_⟩
 .have F:(1:Int)<=q.den:=by have:=q.den_pos;lia
  have J:=(wz6 (hs:=hs) (t:=q.num) F).mp (by rw[Wb];exact⟨D,h1⟩);exact(wz6 F).mpr (qyc ok F J)
 .have L:∀n:Nat,(n:Int)<=(hs.length:Int)-1->Sh.PL (fR hs) 0 (((n:Int):Int):Rat):=λn=>by
   induction n with
   |zero =>
    refineλ_=>.aff 0 (fR hs 0) (by exact aP) λx D h1=>?_
    have h1:x<=((0:Int):Rat):=h1;rw[Rat.intCast_zero]at h1;rw[show x=0 by grind];grind
   |succ n ih =>
    intro h;have l:((n:Int):Rat)<=(((n+1:Nat):Int):Rat):=gz.mpr ⋯;refine .cat (ih ⋯) (.aff ((hAt hs ((n:Int)+1)-hAt hs n:Int):Rat) ((hAt hs n:Rat)-((hAt hs ((n:Int)+1)-hAt hs n:Int):Rat)*((n:Int):Rat)) l λx D h1=>?_);rw[fR_on (k:=n) ⋯ ⋯ D (by rw[show(n:Int)+1=((n+1:Nat):Int) by lia];exact h1)];grind
  have:=L (hs.length-1) (by have:=ok.1;lia);rwa [show((hs.length-1:Nat):Int)=(hs.length:Int)-1 by have:=ok.1;lia]at this
theorem wv8 (ok:wu hs){m:Nat}(m1:1<=m)(m2:m<=12):qjm hs m↔Sh.Per (fR hs) 0 (wR hs) m:=by
 constructor
 .rintro⟨p,cp,d,e⟩;obtain⟨_,F,_⟩:=qwj ok m1 m2 (p:=p) (cp.elim (λh=>.inl h.1) λh=>.inr h);obtain⟨D,_,g,W⟩:=F;have F:Pt hs p.2 p:=⟨D,cL _,g,W⟩;refine⟨qR p.1 p.2,(wz6 D).mpr W,⋯,?_,λj U L z=>?_⟩
  .rw[wv7 ok D W,(qvn F m 0).mp e];rfl
  .rw[wv7 ok D W]at z;exact d 0 j U L ((qvn F 0 j).mpr (wu8 D z).symm)
 .rintro⟨q,C⟩;have D:(1:Int)<=q.den:=by have:=q.den_pos;lia
  have ab:=(wz6 (hs:=hs) (t:=q.num) D).mp (by rw[Wb];exact C.rng);have Z:=vt (t:=q.num) D;have lg:=Ju (t:=q.num) D;have lo:=wzj D ab;have ad:∀j,trT hs q.num q.den j=q.num↔Sh.it (fR hs) j q=q:=λj=>by
   have h:=wv7 ok D ab j;rw[Wb]at h;rw[h];constructor
   .intro z;rw[z,Wb]
   .intro z;exact wu8 D (z.trans (Wb q).symm)
  have bk:∀j,trT hs (wc q.num q.den).1 (wc q.num q.den).2 j=(wc q.num q.den).1↔Sh.it (fR hs) j q=q:=λj=>(qub D j).symm.trans (ad j);generalize wc q.num q.den=p at Z lg lo bk;have F:Pt hs p.2 p:=⟨Z,cL _,lg,lo⟩;have ac:∀ {c:Int×Int},Pt hs c.2 c->trT hs c.1 c.2 m=c.1->(∀j,0<j->j<m->trT hs c.1 c.2 j≠c.1)->vh hs c m:=λ{c} hc h0 h1=>by refine⟨λi j ij jm z=>?_,(qvn hc m 0).mpr h0⟩;have z:=(qvn hc i j).mp z;have h2:=shift (f:=trT hs c.1 c.2) tr_st z (m-j);rw[show j+(m-j)=m by lia,h0]at h2;exact h1 (i+(m-j)) ⋯ ⋯ h2
  have nb:∀j,0<j->j<m->trT hs p.1 p.2 j≠p.1:=λj U L z=>C.no j U L ((bk j).mp z);have mb:=(bk m).mpr C.back;by_cases w:∃k,yh hs m k/\k*p.2<=p.1/\p.1<=(k+1)*p.2
  .obtain⟨k,hk,l1,l2⟩:=w;obtain⟨_,ht,e⟩:=qwj ok m1 m2 (p:=(3*k+1,3)) (.inr ⟨k,hk,rfl⟩);refine⟨(3*k+1,3),.inr ⟨k,hk,rfl⟩,ac ht ((qvn ht m 0).mp e) λj U L z=>?_⟩;obtain⟨c,d,rfl,un,_,_⟩:=wyd ok m1 m2 hk;have J:=qq0 (λi (_:i<m)=>un i) (b:=3) (x:=1) ⋯ ⋯ ⋯ j ⋯;rw[show c 0*3+1=3*c 0+1 by lia]at J;have z:trT hs (3*c 0+1) 3 j=3*c 0+1:=z;rw[z]at J;rw[bG,bC]at l2;have e2:=qq0 (λi (_:i<m)=>un i) (b:=p.2) (x:=p.1-c 0*p.2) Z ⋯ ⋯ j ⋯;rw[show c 0*p.2+(p.1-c 0*p.2)=p.1 by lia]at e2;cases hz:wqy d j with
   |false =>
    rw[hz]at J e2;simp only[inS,aG,bB]at J e2;have ec:c j=c 0:=by lia
    rw[ec]at e2;exact nb j U L ⋯
   |true =>
    rw[hz]at J;simp only[inS,cY]at J;lia
  .refine⟨p,.inl ⟨?_,w⟩,ac F mb nb⟩;rcases(Zr ok m1 m2 Z lg lo).mp mb with s|s
   .exact s
   .exact absurd s w
def behind:List Nat:=[3,5,7,9,11,6,10,12,8,4,2,1]
theorem wx0 (ok:wu hs):∀i j:Nat,i<=j->∀a b,behind[i]?=some a->behind[j]?=some b->qjm hs a->qjm hs b:=λi j ij=>by
 have st:∀i a b,behind[i]?=some a->behind[i+1]?=some b->qjm hs a->qjm hs b:=λi a b ha hb=>by
  have hi:i+1<12:=(ak.mp hb).1;rcases(by lia:i+1<11\/i=10) with z|rfl
  .have hm:(a,b)∈[(3,5),(5,7),(7,9),(9,11),(11,6),(6,10),(10,12),(12,8),(8,4),(4,2)]:=by have:=(by decide:∀i,i<10->(behind.getD i 0,behind.getD (i+1) 0)∈[(3,5),(5,7),(7,9),(9,11),(11,6),(6,10),(10,12),(12,8),(8,4),(4,2)]) i ⋯;rw[af,af,ha,hb]at this;exact this
   have r:=(by decide:∀x∈[(3,5),(5,7),(7,9),(9,11),(11,6),(6,10),(10,12),(12,8),(8,4),(4,2)],1<=x.1/\x.1<=12/\1<=x.2/\x.2<=12) _ hm;exactλh=>(wv8 ok r.2.2.1 r.2.2.2).mpr (Sh.chain (fR_mp ok) hm ((wv8 ok r.1 r.2.1).mp h))
  .cases hb;exactλ_=>wz8 ok
 induction j with
 |zero =>
  intro a b ha hb h;obtain rfl:i=0:=by lia
  rw[ha]at hb;cases hb;exact h
 |succ j ih =>
  intro a b ha hb h;rcases(by lia:i=j+1\/i<=j) with rfl|z
  .rw[ha]at hb;cases hb;exact h
  .have D:j+1<12:=(ak.mp hb).1;have e:behind[j]?=some (behind[j]'(by show j<12;lia)):=ae (by show j<12;lia);exact st j _ b e hb (ih z a _ ha e h)
def wzu (f:Int->List Int):Sp:=λvs H Q _=>∃n:Int,vs=[.int n]/\1<=n/\∀p,H p=none->Q (.ref p) (upd H p (.tup ((f n).map V.int)))
theorem sz3 {x y z:V}:[x,y,z].length<=sizeLine:=by show 3<=sizeLine;decide
include T in
theorem xw5 (F:Fun K "_law_rank" "_law_rank" zbt f fd):FK P w K mg base 1 f fd ["_law_number"] (wzu jd):=by
 have D:=qyu;refine F.okX D (λvs H Q E h=>by obtain⟨_,rfl,_⟩:=h;rfl) λ_ _ _ _ H vs Q E Z h=>?_;obtain⟨n,rfl,U,k⟩:=h;refine⟨_,(qj (xq (i:=1) qy)
   (qj (y8 bn (wt yx (wb ju (pv 0) qy) qy (xk _)) (qj (xq (i:=0) (wb uc (pv 0) qy))
   (qr (wuz (i:=1) D.nd rfl (Or.inl rfl) qy xwv))))
   (qj (vy (wt yx (pv 0) qy (xk _)) (qr (xw (jx (qw qy (qw (qw0 W7 (pv 1)) qk))))) x8)
   (qr (xw (jx (qw qy (qw (pv 1) (qw (pv 0) qk))))))))),?_⟩
 refine y9 (λσ H1=>H1=H/\∃u t:Int,σ=[some (.int u),some (.int t)]/\1<=u/\hT n=hT u+t/\hO n=hO u) (λσ _=>match σ with|[some (.int u),_]=>u.toNat|_=>0) ⟨rfl,n,0,rfl,U,⋯,rfl⟩ ?_ λσ H Q Q' h ⟨v,e,i,j,e1,e2,e3,e4,kk,e5,q⟩=>⟨v,e,i,j,e1,e2,e3,e4,kk,e5,h _ _ q⟩;rintro σ H1 ⟨rfl,u,t,rfl,u1,e1,e2⟩;refine⟨_,rfl,_,_,rfl,rfl,(by walk_at "pos"),rfl,_,rfl,yp (λq=>?_) (λq=>?_)⟩
 .have st:=Qk u1 q;refine⟨_,rfl,_,_,rfl,rfl,(by walk_at "div"),_,rfl,_,_,rfl,rfl,⟨rfl,u/2,t+1,rfl,⋯,⋯,⋯⟩,?_⟩;show(u/2).toNat<u.toNat;lia
 .have st:=Zu u1 q;have J:t=hT n:=by lia
  have W:u=hO n:=by lia
  refine⟨_,rfl,rfl,_,rfl,yp (λL=>?_) (λL=>?_)⟩
  .refine⟨_,rfl,_,rfl,sz2,λp np=>?_⟩;have:=k p np;rw[jd,av ⋯]at this;rw[J];exact this
  .refine⟨_,rfl,_,rfl,sz3,λp np=>?_⟩;have:=k p np;rw[jd,ao ⋯]at this;rw[J,W];exact this
def Jr (K:Aa):Sp:=λvs H Q _=>∃(a:Aj) (ns:List Int) (wd:Int),vs=[.ref a,.int wd]/\SqL K H a (ns.map V.int)/\1<=wd/\wd<=24/\∀(p:Aj) (hs:List Int) (H':Hp),Same H H'->H p=none->H' p=some (.lst (hs.map V.int))->(hs.length:Int)=wd+1->(∀h∈hs,0<=h/\h<=wd)->Q (.ref p) H'
theorem Same.wr (h:Same H H'){p:Aj}{o:HO}(n:H p=none):Same H (upd H' p o):=λb u e=>by rw[qt (λz=>by rw[z,n]at e;cases e)];exact h b u e
theorem xw8:∀(L:List Int) (k:Nat),(L.map V.int).eraseIdx k=(L.eraseIdx k).map V.int
 |[],_=>rfl
 |_::_,0=>rfl
 |x::L,k+1=>cK (V.int x::·) (xw8 L k)
include T in
theorem wwg (F:Fun K "_law_one_ring" "_law_one_ring" zbu f fd)(zab:Cal P w K mg base "_law_pick" 2 (Zy K)):FK P w K mg base 3 f fd ["_law_script","_law_wide"] (Jr K):=by
 have sc:=Jz;refine F.okX sc (λvs H Q E h=>by obtain⟨_,_,_,rfl,_⟩:=h;rfl) λ_ _ _ _ H vs Q E hr h=>?_;obtain⟨a,ns,D,rfl,hS,w1,w2,k⟩:=h;refine⟨_,(qj (k7 (i:=2) (M:=[]) sc.nd rfl (by walk_at "loc") rfl rfl (by walk_at "cap") (by walk_at "has") (by walk_at "cix") rfl (by decide +kernel) rfl (show List.Nodup (["_law_k"]:List Str) by decide +kernel) (Jg rfl T.range_ (qw qy (qw (wb xu (pv 1) qy) qk))) (λ_ _ _ _ _=>(pv 0)))
   (qj (k7 (i:=3) (M:=[]) sc.nd rfl (by walk_at "loc") rfl rfl (by walk_at "cap") (by walk_at "has") (by walk_at "cix") rfl (by decide +kernel) rfl (show List.Nodup (["_law_k"]:List Str) by decide +kernel) (xm rfl T.range_ (qw (wb xu (pv 1) qy) qk)) (λ_ _ _ _ _=>qy))
   (qj (xq (i:=4) qy)
   (qj (j9 bn rfl (xm rfl T.range_ (qw (pv 1) qk)) (xv (i:=5)) (qj (xq (i:=6) (qxq cC PySem.F.slot_list_pop PySem.F.type_list_pop wu9 (pv 2) (qw (wj zab (hr.mono ⋯) rfl qh (qw (pv 0) (qw qy (qw (pv 5) (qw (wn xf rfl T.len_ bJ (qw (pv 2) qk)) qk))))) qk)))
   (qj (jj (pv 6) (wuy (pv 3) (pv 4) wqj))
   (qr (xq (i:=4) (pv 6))))))
   (qj (jj qy (wuy (pv 3) (pv 4) wqj))
   (qr (xw (pv 3)))))))),?_⟩
 refine⟨_,rfl,_,_,rfl,rfl,1,D+1,rfl,⟨⋯,⋯,⋯,⋯⟩,vw (λj=>V.int (1+j)) ⋯ (λi H' R hi ac hR=>⟨_,rfl,hR⟩) λp n1=>?_⟩;have e1:((List.range (D+1-1).toNat).map λj:Nat=>V.int (1+j))=((List.range D.toNat).map λj:Nat=>(1+j:Int)).map V.int:=by rw[bF,show D+1-1=D by lia];rfl
 rw[e1];have lL:(((List.range D.toNat).map λj:Nat=>(1+j:Int))).length=D.toNat:=by rw[ag,aH]
 have Z:∀x∈((List.range D.toNat).map λj:Nat=>(1+j:Int)),1<=x/\x<=D:=λx J=>by obtain⟨j,hj,rfl⟩:=aS.mp J;have:=aw.mp hj;lia
 generalize ((List.range D.toNat).map λj:Nat=>(1+j:Int))=L0 at lL Z;have s1:Same H (upd H p (.lst (L0.map V.int))):=Same.upd n1;have f1:upd H p (.lst (L0.map V.int)) p=some (.lst (L0.map V.int)):=qc;generalize upd H p (.lst (L0.map V.int))=H1 at s1 f1;refine⟨_,rfl,_,_,rfl,rfl,D+1,rfl,⋯,⋯,vw (λ_=>V.int 0) ⋯ (λi H' R hi ac hR=>hR) λq n2=>?_⟩;have e2:((List.range (D+1).toNat).map λ_:Nat=>V.int 0)=(List.replicate (D.toNat+1) (0:Int)).map V.int:=by rw[List.map_replicate,show(D+1).toNat=D.toNat+1 by lia,List.map_const',aH]
 rw[e2];have lM:(List.replicate (D.toNat+1) (0:Int)).length=D.toNat+1:=List.length_replicate;have W:∀x∈List.replicate (D.toNat+1) (0:Int),0<=x/\x<=D:=λx J=>by rw[(List.mem_replicate.mp J).2];lia
 generalize List.replicate (D.toNat+1) (0:Int)=M0 at lM W;have pq:p≠q:=λz=>by rw[<-z,f1]at n2;cases n2
 have np:=n1;have nq:H q=none:=s1.free n2;have s2:Same H (upd H1 q (.lst (M0.map V.int))):=Same.wr s1 nq;have f2:upd H1 q (.lst (M0.map V.int)) q=some (.lst (M0.map V.int)):=qc;have ab:upd H1 q (.lst (M0.map V.int)) p=some (.lst (L0.map V.int)):=by rw[qt pq];exact f1
 generalize upd H1 q (.lst (M0.map V.int))=H2 at s2 f2 ab;refine⟨_,rfl,D,rfl,⋯,⋯,jq (λj σ U=>∃(L M:List Int) (at0:Int) (z5 z6:Option V),σ=[some (.ref a),some (.int D),some (.ref p),some (.ref q),some (.int at0),z5,z6]/\Same H U/\U p=some (.lst (L.map V.int))/\U q=some (.lst (M.map V.int))/\L.length+j=D.toNat/\M.length=D.toNat+1/\(∀x∈L,1<=x/\x<=D)/\(∀x∈M,0<=x/\x<=D)/\0<=at0/\at0<=D)
  ⟨L0,M0,0,none,none,rfl,s2,ab,f2,⋯,lM,Z,W,⋯,⋯⟩ ?_ ?_⟩
 .rintro j σ U hj ⟨L,M,at0,z5,z6,rfl,s3,fL,fM,lL,lM,Z,W,a0,a1⟩;have am:(1000000:Nat)<sizeLine:=by decide
  refine⟨_,rfl,.inl ⟨rfl,_,SqL.of fL⟩,_,rfl,_,rfl,_,rfl,_,_,rfl,.inl (SqL.of fL),a,ns,_,_,_,rfl,s3.sql hS,⋯,⋯,⋯,(by rw[ag];lia),λr _ l u=>?_⟩;rw[ag]at u;have hr:r.toNat<L.length:=by lia
  have ey:(L.map V.int)[r.toNat]?=some (.int L[r.toNat]):=by rw[ax,ae hr];rfl
  have ad:=Z _ (bw hr);generalize L[r.toNat]=y at ey ad;refine⟨p,_,r,r.toNat,.int y,rfl,rfl,fL,⋯,⋯,StrLaws.seqIndex_nonneg ⋯ (by rw[ag];lia),ey,?_⟩;have s4:Same H (upd U p (.lst ((L.map V.int).eraseIdx r.toNat))):=Same.wr s3 np;have f4:upd U p (.lst ((L.map V.int).eraseIdx r.toNat)) p=some (.lst ((L.eraseIdx r.toNat).map V.int)):=by rw[<-xw8];exact qc
  have g4:upd U p (.lst ((L.map V.int).eraseIdx r.toNat)) q=some (.lst (M.map V.int)):=by rw[qt (dY pq)];exact fM
  generalize upd U p (.lst ((L.map V.int).eraseIdx r.toNat))=H4 at s4 f4 g4;have ix:ixN (M.map V.int).length at0=some at0.toNat:=by unfold ixN;rw[av a0,av (by rw[ag];lia)]
  refine⟨_,rfl,_,rfl,_,rfl,q,_,at0,at0.toNat,rfl,rfl,g4,ix,_,rfl,?_⟩;refine⟨L.eraseIdx r.toNat,M.set at0.toNat y,y,_,_,rfl,Same.wr s4 nq,by rw[qt pq];exact f4,by rw[<-List.map_set];exact qc,?_,by rw[jF];exact lM,λx J=>Z x (List.mem_of_mem_eraseIdx J),λx J=>?_,⋯,⋯⟩
  .rw[List.length_eraseIdx_of_lt hr];lia
  .rcases iL J with z|rfl
   .exact W x z
   .lia
 .rintro σ U ⟨L,M,at0,z5,z6,rfl,s3,fL,fM,lL,lM,Z,W,a0,a1⟩;have ix:ixN (M.map V.int).length at0=some at0.toNat:=by unfold ixN;rw[av a0,av (by rw[ag];lia)]
  refine⟨_,rfl,_,rfl,q,_,at0,at0.toNat,rfl,rfl,fM,ix,_,rfl,k q (M.set at0.toNat 0) _ (Same.wr s3 nq) nq (by rw[List.map_set];exact qc) (by rw[jF];lia) λx J=>?_⟩;rcases iL J with z|rfl
  .exact W x z
  .lia
def oL (n:Nat):Int:=[1,1,3,1,5,3,7,1,9,5,11,3].getD n 1
def tL (n:Nat):Nat:=[0,1,0,2,0,1,0,3,0,1,0,2].getD n 0
theorem hot (h:n<12):hO ((1:Int)+n)=oL n/\hT ((1:Int)+n)=tL n:=by
 have e1:=Zu (u:=1) ⋯ ⋯;have L:=Qk (u:=2) ⋯ ⋯;have e3:=Zu (u:=3) ⋯ ⋯;have J:=Qk (u:=4) ⋯ ⋯;have e5:=Zu (u:=5) ⋯ ⋯;have F:=Qk (u:=6) ⋯ ⋯;have e7:=Zu (u:=7) ⋯ ⋯;have D:=Qk (u:=8) ⋯ ⋯;have Z:=Zu (u:=9) ⋯ ⋯;have W:=Qk (u:=10) ⋯ ⋯;have ab:=Zu (u:=11) ⋯ ⋯;have U:=Qk (u:=12) ⋯ ⋯;rw[show(2:Int)/2=1 by decide]at L;rw[show(4:Int)/2=2 by decide]at J;rw[show(6:Int)/2=3 by decide]at F;rw[show(8:Int)/2=4 by decide]at D;rw[show(10:Int)/2=5 by decide]at W;rw[show(12:Int)/2=6 by decide]at U;have:n=0\/n=1\/n=2\/n=3\/n=4\/n=5\/n=6\/n=7\/n=8\/n=9\/n=10\/n=11:=by lia
 rcases this with h|h|h|h|h|h|h|h|h|h|h|h <;> subst h
 .show hO 1=1/\hT 1=0;lia
 .show hO 2=1/\hT 2=1;lia
 .show hO 3=3/\hT 3=0;lia
 .show hO 4=1/\hT 4=2;lia
 .show hO 5=5/\hT 5=0;lia
 .show hO 6=3/\hT 6=1;lia
 .show hO 7=7/\hT 7=0;lia
 .show hO 8=1/\hT 8=3;lia
 .show hO 9=9/\hT 9=0;lia
 .show hO 10=5/\hT 10=1;lia
 .show hO 11=11/\hT 11=0;lia
 .show hO 12=3/\hT 12=2;lia
abbrev AhN (o t o' t':Int):Prop:=(¬ o=1/\o'=1)\/(o=1/\o'=1/\t'<t)\/(¬ o=1/\¬ o'=1/\(t<t'\/(t=t'/\o<o')))
def ixB (n:Nat):Nat:=[11,10,0,9,1,5,2,8,3,6,4,7].getD n 0
theorem qk7 {a:Int}(a1:1<=a)(a2:a<=12)(b1:1<=b)(b2:b<=12)(h:qqk a b):∃i j:Nat,i<=j/\behind[i]?=some a.toNat/\behind[j]?=some b.toNat:=by
 obtain⟨n,D,rfl⟩:∃n:Nat,n<12/\a=(1:Int)+n:=⟨(a-1).toNat,⋯,⋯⟩;obtain⟨m,F,rfl⟩:∃m:Nat,m<12/\b=(1:Int)+m:=⟨(b-1).toNat,⋯,⋯⟩;unfold qqk at h;rw[(hot D).1,(hot D).2,(hot F).1,(hot F).2]at h;rw[show((1:Int)+n).toNat=1+n by lia,show((1:Int)+m).toNat=1+m by lia];have J:∀n:Fin 12,∀m:Fin 12,(decide (¬ AhN (oL n) (tL n) (oL m) (tL m))||(decide (ixB n<=ixB m)&&(decide (behind[ixB n]?=some (1+n.1))&&decide (behind[ixB m]?=some (1+m.1)))))=true:=by decide +kernel
 have:=J ⟨n,D⟩ ⟨m,F⟩;simp only[Bool.or_eq_true,bR,dD]at this;rcases this with z|⟨z1,z2,z3⟩
 .exact absurd h z
 .exact⟨_,_,z1,z2,z3⟩
def qjk (K:Aa)(TT:Aj):Sp:=λvs H Q _=>∃(a:Aj) (ns:List Int),vs=[.ref a]/\SqL K H a (ns.map V.int)/\ns.length<=63/\H TT=some (.tbl #[])/\∀H',Q (.bl true) H'
include T in
theorem ze2 {f:Aj}{fd:Ad}{TT:Aj}(F:Fun K "law" "law" zbv f fd)(zab:Cal P w K mg base "_law_pick" 2 (Zy K))(ze3:Cal P w K mg base "_law_heights" 4 (Jq K))(ze4:Cal P w K mg base "_law_one_ring" 3 (Jr K))(ze5:CCal P w K mg base "Road" qv 2 (qjv K qp qv))(ze6:Cal P w K mg base "_law_times" 2 (qyd K))
  (ze7:Cal P w K mg base "lengths" 10 (wwm qv TT)) (ze8:Cal P w K mg base "_law_numbers" 2 (Yh K)) (zdz:Cal P w K mg base "_law_rank" 1 (wzu jd)) :
  FK P w K mg base 11 f fd ["_law_script"] (qjk K TT):=by
 have sc:=zd5;refine F.okX sc (λvs H Q E h=>by obtain⟨_,_,rfl,_⟩:=h;rfl) λ_ _ _ _ H vs Q E J h=>?_;obtain⟨a,ns,rfl,Z,hl,hT,k⟩:=h;refine⟨_,(qj (xq (i:=1) (wj ze3 (J.mono ⋯) rfl qh (qw (pv 0) (qw qy (qw (zu zg (ug (qw qy (qw qy (qw qy qk)))) (wj zab (J.mono ⋯) rfl qh (qw (pv 0) (qw qy (qw qy (qw qy qk))))) (λ_ _=>rfl)) qk)))))
   (xxg (vy (wt yx (wj zab (J.mono ⋯) rfl qh (qw (pv 0) (qw qy (qw qy (qw qy qk))))) qy (xk _)) (qr (xq (i:=1) (wj ze4 (J.mono ⋯) rfl qh (qw (pv 0) (qw (wb ky (wn xf rfl T.len_ bJ (qw (pv 1) qk)) qy) qk))))) x8)
   (qj (xq (i:=2) (wj ze6 (J.mono ⋯) rfl qh (qw (pv 1) (qw (wb xu qy (wj zab (J.mono ⋯) rfl qh (qw (pv 0) (qw qy (qw qy (qw qy qk)))))) (qw qy qk)))))
   (qj (xq (i:=3) (wj ze7 (J.mono ⋯) rfl qh (qw (xwr ze5 (J.mono ⋯) rfl qh (qw (Ys Yu rfl T.list_ dO (qw (pv 1) qk)) qk)) (qw (pv 2) qk))))
   (qj (vy (PW.pt (qx4 (wxd (wwu (wj ze8 (J.mono ⋯) rfl qh (qw (pv 3) qk)))) (Zv (wt Zp qy (pv 3) rfl)))) (qr (xw qug)) x8)
   (qj (j9 bn rfl (vz (pv 3)) (xv (i:=4)) (qj (vy (PW.pt (qx4 (wt Yy (pv 4) qy (xk _)) (Zv (wt Wp (pv 4) (pv 2) (xk _))))) (qr (xw qug)) x8)
   (qr (j9 bn rfl (Jg rfl T.range_ (qw qy (qw (wb xu (pv 2) qy) qk))) (xv (i:=5)) (qr (vy (PW.pt (wwn (wt (op_ltT J.units0) (wj zdz (J.mono ⋯) rfl qh (qw (pv 4) qk)) (wj zdz (J.mono ⋯) rfl qh (qw (pv 5) qk)) (xk _)) (qj7 (wt Zp (pv 5) (pv 3) rfl)))) (qr (xw qug)) x8))))))
   (qr (xw qug)))))))),?_⟩
 refine⟨_,rfl,sz3,λp0 n0=>?_⟩;have s0:Same H (upd H p0 (.lst [.int 6,.int 6,.int 24])):=Same.upd n0;refine⟨_,rfl,a,ns,_,_,_,rfl,s0.sql Z,⋯,⋯,⋯,⋯,λr0 _ l0 u0=>?_⟩;have ex:∃m:Int,atI [V.int 6,V.int 6,V.int 24] r0=some (.int m)/\1<=m/\m<=24:=by
  rcases(by lia:r0=0\/r0=1\/r0=2) with e|e|e
  .subst e;exact⟨6,rfl,⋯,⋯⟩
  .subst e;exact⟨6,rfl,⋯,⋯⟩
  .subst e;exact⟨24,rfl,⋯,⋯⟩
 obtain⟨m0,hm,a2,a0⟩:=ex;refine⟨_,_,_,_,rfl,rfl,SqL.new,hm,?_⟩;generalize upd H p0 (.lst [.int 6,.int 6,.int 24])=H0 at s0;refine⟨a,ns,_,m0,rfl,s0.sql Z,⋯,a2,a0,λp hs w1 n1 a1 b1 i1=>?_⟩;have D:wu hs:=xxf i1 a1 ⋯;have s1:Same H0 (upd H0 p (.lst (hs.map V.int))):=Same.upd n1;have f1:upd H0 p (.lst (hs.map V.int)) p=some (.lst (hs.map V.int)):=qc;generalize upd H0 p (.lst (hs.map V.int))=H1 at s1 f1;have ab:=s0.trans s1;refine⟨λσ H2=>∃(p:Aj) (hs:List Int),σ=[some (.ref a),some (.ref p),none,none,none,none]/\Same H H2/\H2 p=some (.lst (hs.map V.int))/\wu hs,?_,?_⟩
 .refine⟨_,rfl,a,ns,_,_,_,rfl,ab.sql Z,⋯,⋯,⋯,⋯,λr1 _ l1 u1=>?_⟩;refine⟨rfl,_,rfl,yp (λq1=>?_) (λq1=>⟨p,hs,rfl,ab,f1,D⟩)⟩;have o2:=D.2.1;refine⟨_,rfl,_,rfl,_,_,rfl,.inl (SqL.of f1),_,_,rfl,rfl,a,ns,(hs.length:Int)-1,by rw[ag],ab.sql Z,by have:=D.1;lia,⋯,λp2 a3 H2 s2 n2 f2 l2 b2=>?_⟩;exact⟨p2,a3,rfl,ab.trans s2,f2,⟨by have:=D.1;lia,⋯,λh hh=>by have:=b2 h hh;lia⟩⟩
 .rintro σ H2 ⟨p,hs,rfl,s2,f2,D⟩;have o1:=D.1;have o2:=D.2.1;refine⟨_,rfl,_,rfl,a,ns,_,_,_,rfl,s2.sql Z,⋯,⋯,⋯,⋯,λr2 _ l2 u2=>?_⟩;refine⟨_,_,rfl,rfl,p,hs,2+r2,60,rfl,SqL.of f2,D,⋯,⋯,λU H3 e1 e2 hx s3=>?_⟩;have ap:=s2.trans s3;have f3:=s3 _ _ f2;have a4:∀l:Nat,1<=l->l<=U.toNat->crS hs l<=1000:=λl h1 h2=>by
   rcases(by lia:l=1\/2<=l) with z|z
   .subst z;have:=cr_one D;lia
   .have:=hx (l-1) ⋯ ⋯;rw[show l-1+1=l by lia]at this;lia
  refine⟨_,rfl,_,_,rfl,.inl (SqL.of f3),λp4 n4=>?_⟩;have s4:Same H3 (upd H3 p4 (.lst (hs.map V.int))):=Same.upd n4;refineλrd d0 nx as a6=>xvq qc nx as (λ_ H5 s5 R5=>?_) λz=>absurd D z;have an:=ap.trans (s4.trans s5);have T5:jk TT js qqn H5:=uh (.inl hT) an;refine⟨_,rfl,rd,hs,U,rfl,R5,D,e1,⋯,a4,T5,λW H6 k6 T6 f6 a5=>?_⟩;have ll:=wwq hs U.toNat;have ac:=λv=>xwn (hs:=hs) (n:=U.toNat) (v:=v);generalize Ws hs U.toNat=fl at f6 ll ac;refine⟨_,rfl,W,fl,rfl,f6,⋯,λH7 s7=>⟨_,rfl,Q8 ?_⟩⟩;have f7:=s7 _ _ f6;have fz:(fl.map V.int).all Z0=true:=i4.mpr λv hv=>by obtain⟨x,_,rfl⟩:=aS.mp hv;rfl
  refine⟨_,rfl,W,fl.map V.int,rfl,.inl (SqL.of f7),rfl,fz,_,rfl,?_⟩;rw[wug,aR ((ac 1).mpr ⟨⋯,⋯,wz8 D⟩)];refine Q8 ?_;refine⟨_,rfl,W,rfl,⟨_,SqL.of f7⟩,wq0 (K:=K) (a:=W) (xs:=fl.map V.int) (λi σ H8=>Same H7 H8/\∃z4 z5,σ=[some (.ref a),some (.ref p),some (.int U),some (.ref W),z4,z5]) ⟨Same.refl _,none,none,rfl⟩ (λi σ H8 _ h=>h.1.sql (SqL.of f7)) ?_ ?_⟩
  .rintro i x σ H8 hx ⟨s8,z4,z5,rfl⟩;obtain⟨L,ho,rfl⟩:=aS.mp (aC hx);obtain⟨g1,g2,g3⟩:=(ac L).mp ho;refine⟨_,rfl,_,_,rfl,rfl,_,rfl,?_⟩;rw[ba ⋯];refine Q8 ?_;refine⟨_,rfl,_,rfl,_,_,rfl,rfl,_,rfl,?_⟩;rw[ba ⋯];refine Q8 ?_;refine⟨_,rfl,_,_,rfl,rfl,1,U+1,rfl,⟨⋯,⋯,⋯,⋯⟩,jq (λj σ H9=>Same H7 H9/\∃z5,σ=[some (.ref a),some (.ref p),some (.int U),some (.ref W),some (.int L),z5]) ⟨s8,_,rfl⟩ ?_ ?_⟩
   .rintro j σ H9 hj ⟨s9,z5,rfl⟩;refine⟨_,rfl,L,rfl,g1,λr1 m1=>?_⟩;have am:=Same.upd (o:=.tup ((jd L).map V.int)) m1;refine⟨_,rfl,_,rfl,⋯,λr2 m2=>?_⟩;have ad:=Same.upd (o:=.tup ((jd (1+j)).map V.int)) m2;refine⟨_,_,jd L,jd (1+j),rfl,rfl,Same.sqt ad SqT.new,SqT.new,_,rfl,?_⟩;rw[aheadL];have t9:Same H7 (upd (upd H9 r1 (.tup ((jd L).map V.int))) r2 (.tup ((jd (1+j)).map V.int))):=s9.trans (am.trans ad);generalize upd (upd H9 r1 (.tup ((jd L).map V.int))) r2 (.tup ((jd (1+j)).map V.int))=H11 at t9;show if decide (qqk L (1+j))=true then _ else _
    by_cases ha:qqk L (1+j)
    .rw[aR ha];refine Wj ?_;obtain⟨i1,j1,le,h1,h2⟩:=qk7 g1 ⋯ ⋯ ⋯ ha;have hm:((1:Int)+j)∈fl:=(ac _).mpr ⟨⋯,⋯,wx0 D i1 j1 le _ _ h1 h2 g3⟩;refine⟨_,rfl,_,rfl,W,fl.map V.int,rfl,.inl (SqL.of (t9 _ _ f7)),rfl,fz,_,rfl,?_⟩;rw[wug,aR hm];exact Q8 ⟨t9,_,rfl⟩
    .rw[ba ha];exact Q8 (Q8 ⟨t9,_,rfl⟩)
   .rintro σ H9 ⟨s9,z5,rfl⟩;exact⟨s9,_,_,rfl⟩
  .rintro σ H8 ⟨s8,z4,z5,rfl⟩;exact k _
end
section
theorem all_mk {l:PySem.W.OpenLaw}{w:Ah}{K:Aa}{h:Heap}{mg:Str->Option Ag}{fa cO TT:Aj}{qp:Aj}{qx:Aj}{qd:Aj}{qu:Aj}{qf:Aj}{qg:Aj}{qv:Aj}{zd0:Tok}{zd1:Tok}{zd2:Tok}{zd3:Tok}{zd4:Tok}(X:K.In h)(G:h.Ns mainGlobals mg)(hfa:mg "law" = some (.ref fa))
  (zb0:DefIn K "_law_cell" zbl)
  (zb1:DefIn K "_law_pick" zbm)
  (zb2:DefInD K "check_count" zak)
  (zb3:DefIn K "check_bottom" za0)
  (zb4:DefIn K "is_line" zbd)
  (zb5:DefIn K "covered" zat)
  (zb6:DefIn K "covers_of" zau)
  (zb7:DefIn K "ways_of_no_step" zav)
  (zb8:DefIn K "one_step_more" zaw)
  (zb9:DefIn K "ways_up_to" zax)
  (zca:DefIn K "rows_from" zay)
  (zcb:DefIn K "rows" zaz)
  (zcc:DefIn K "common_divisor" za1)
  (zcd:DefIn K "lowest" za2)
  (zce:DefInT K "ordered" zal cO) (hC:PySem.W.codeHdIn K cO TT=true)
  (zcf:DefIn K "walked" za3)
  (zcg:DefIn K "corners_back" za8)
  (zch:DefIn K "lies_in" za9)
  (zci:DefIn K "line_along" za6)
  (zcj:DefIn K "fixed_point" za7)
  (zck:DefIn K "back" zba)
  (zcl:DefIn K "trace" za4)
  (zcm:DefIn K "least" za5)
  (zcn:DefIn K "candidates" zbb)
  (zco:DefIn K "lengths" zbc)
  (zcp:DefIn K "_law_climb" zbn)
  (zcq:DefIn K "_law_heights" zbo)
  (zcr:DefIn K "_law_crowds" zbp)
  (zcs:DefIn K "_law_times" zbq)
  (zct:DefIn K "_law_whole" zbr)
  (zcu:DefIn K "_law_numbers" zbs)
  (zcv:DefIn K "_law_rank" zbt)
  (zcw:DefIn K "_law_one_ring" zbu)
  (zcx:DefIn K "law" zbv)
  (zcy:PySem.W.nsIn K mainGlobals "BadLine" = some (some (.ref qp)))
  (zam:PySem.W.excIn K qp [.type "ValueError",.type "Exception",.type "BaseException",.type "object"] "ValueError.__new__" = true)
  (zcz:PySem.W.nsIn K mainGlobals "BadBottom" = some (some (.ref qx)))
  (zan:PySem.W.excIn K qx [.type "ValueError",.type "Exception",.type "BaseException",.type "object"] "ValueError.__new__" = true)
  (zc0:PySem.W.nsIn K mainGlobals "OffRoad" = some (some (.ref qd)))
  (zao:PySem.W.excIn K qd [.type "ValueError",.type "Exception",.type "BaseException",.type "object"] "ValueError.__new__" = true)
  (zc1:PySem.W.nsIn K mainGlobals "BadCount" = some (some (.ref qu)))
  (zap:PySem.W.excIn K qu [.type "ValueError",.type "Exception",.type "BaseException",.type "object"] "ValueError.__new__" = true)
  (zc2:PySem.W.nsIn K mainGlobals "TooLong" = some (some (.ref qf)))
  (zai:PySem.W.excIn K qf [.type "ValueError",.type "Exception",.type "BaseException",.type "object"] "ValueError.__new__" = true)
  (zc3:PySem.W.nsIn K mainGlobals "BadRow" = some (some (.ref qg)))
  (zaq:PySem.W.excIn K qg [.type "ValueError",.type "Exception",.type "BaseException",.type "object"] "ValueError.__new__" = true)
  (zc4:PySem.W.nsIn K mainGlobals "Road" = some (some (.ref qv)))
  (zc5:PySem.W.plainGet K qv Str.empty=true)
  (zc6:PySem.W.hasDictIn K qv=true)
  (zc7:PySem.W.plainOver K qv=true)
  (zc8:PySem.W.findIn K (.ref qv) "__setattr__" = some (some (.builtin "object.__setattr__")))
  (zc9:PySem.W.makesIn K qv=true)
  (zda:PySem.W.keepIn K (.ref qv)=true)
  (zdb:MethIn K qv "__init__" "Road.__init__" zbe)
  (zdc:MethIn K qv "width" "Road.width" zbf)
  (zdd:MethIn K qv "ends" "Road.ends" zbg)
  (zde:MethIn K qv "reach" "Road.reach" zbi)
  (zdf:MethIn K qv "slope" "Road.slope" zbh)
  (zdg:MethIn K qv "on_road" "Road.on_road" zbj)
  (zdh:MethIn K qv "at" "Road.at" zbk)
  (zdi:PySem.W.findIn K (.ref qv) "heights" = some none)
  (zad:PySem.W.nsIn K mainGlobals "WIDEST" = some (some (.int 24 zd0)))
  (zae:PySem.W.nsIn K mainGlobals "LONGEST_TRACE" = some (some (.int 1000 zd1)))
  (zac:PySem.W.nsIn K mainGlobals "LONGEST_ROW" = some (some (.int 12 zd2)))
  (zaf:PySem.W.nsIn K mainGlobals "MOST_WAYS" = some (some (.int 1000 zd3)))
  (zag:PySem.W.nsIn K mainGlobals "MOST_WALKED" = some (some (.int 1000 zd4)))
  (zdj:PySem.W.nsIn K mainGlobals "len" = some none)
  (zdk:PySem.W.nsIn K mainGlobals "abs" = some none)
  (zdl:PySem.W.nsIn K mainGlobals "range" = some none)
  (zdm:PySem.W.nsIn K mainGlobals "isinstance" = some none)
  (zdn:PySem.W.nsIn K mainGlobals "int" = some none)
  (zdo:PySem.W.nsIn K mainGlobals "bool" = some none)
  (zdp:PySem.W.nsIn K mainGlobals "list" = some none)
  (zdq:PySem.W.nsIn K mainGlobals "min" = some none)
  (zdr:PySem.W.nsIn K mainGlobals "max" = some none)
  (zds:PySem.W.nsIn K mainGlobals "all" = some none)
  (zdt:PySem.W.nsIn K mainGlobals "any" = some none)
  (zdu:PySem.W.nsIn K mainGlobals "sum" = some none)
  (zdv:PySem.W.nsIn K mainGlobals "sorted" = some none)
  (zdw:PySem.W.nsIn K mainGlobals "zip" = some none)
  (zdx:PySem.W.nsIn K mainGlobals "tuple" = some none) :
  ∃fd:Ad,(∀(s:Ab) (v:Ag),BindsTo s fd ⟨[v],[]⟩ [("_law_script",v)])/\∀base:Heap,K.In base->base.Ns mainGlobals mg->BMain mg base->FnOk l.prog w K mg base (CXE l.prog w) 11 fa fd ["_law_script"] (qjk K TT):=by
 have T:Txt K mg qp qx qd qu qf qg qv:=⟨bu X G zdj,bu X G zdk,bu X G zdl,bu X G zdm,bu X G zdn,bu X G zdo,bu X G zdp,bu X G zdq,bu X G zdr,bu X G zds,bu X G zdt,bu X G zdu,bu X G zdv,bu X G zdw,bu X G zdx,bV X G zcy,⟨zam⟩,bV X G zcz,⟨zan⟩,bV X G zc0,⟨zao⟩,bV X G zc1,⟨zap⟩,bV X G zc2,⟨zai⟩,bV X G zc3,⟨zaq⟩,⟨zc5,zc6,zc7,zc8⟩,zdi,⟨zd0,bV X G zad⟩,bV X G zc4,⟨zd1,bV X G zae⟩,⟨zd2,bV X G zac⟩,⟨zd3,bV X G zaf⟩,⟨zd4,bV X G zag⟩⟩;obtain⟨f,fd,a,F⟩:=zcx.ex;have e:=hfa.symm.trans (bV X G a);cases e;refine⟨fd,λs v=>?_,λbase kb nb hB=>?_⟩
 .obtain⟨oc,od,kV,cc,pm,an,cdv,ct,b6,rfl,lk,cb⟩:=F.ex;exact .of_eq rfl
 .have c1:Cal l.prog w K mg base "_law_cell" 1 (wxk K):=zb0.cal X G qyg λf fd F=>xvv T F;have L:Cal l.prog w K mg base "_law_pick" 2 (Zy K):=zb1.cal X G qyb λf fd F=>xzv T F c1;have U:CalD l.prog w K mg base "check_count" 1 (Yk qu):=zb2.cal X G qx6 qxj λf fd F=>wuc T F;have c4:Cal l.prog w K mg base "check_bottom" 1 (qwk qx):=zb3.cal X G qqj λf fd F=>wu4 T F;have c5:Cal l.prog w K mg base "is_line" 1 (qzx K):=zb4.cal X G wxb λf fd F=>wzc T F;have c6:CCal l.prog w K mg base "Road" qv 2 (qjv K qp qv):=zdb.ccal T.zeb zc9 zda Y3 λf fd F=>xzt T F c5;have D:MCal l.prog w K mg base qv "width" 1 (jn qv):=zdc.cal qz2 λf fd F=>xw4 T F;have J:MCal l.prog w K mg base qv "ends" 2 (Y7 qv qg):=zdd.cal qk6 λf fd F=>xz0 T F D;have c9:MCal l.prog w K mg base qv "reach" 3 (qyj qv qg):=zde.cal qvc λf fd F=>xwm T F J;have b5:MCal l.prog w K mg base qv "slope" 3 (qj6 qv qg):=zdf.cal qzg λf fd F=>wut T F J;have b4:Cal l.prog w K mg base "covered" 4 (Js qv qg):=zb5.cal X G wxx λf fd F=>wxj T F c9;have am:Cal l.prog w K mg base "covers_of" 5 (u8 qv):=zb6.cal X G qjc λf fd F=>qyf T F D b4;have b3:Cal l.prog w K mg base "ways_of_no_step" 1 qw7:=zb7.cal X G Zz λf fd F=>wx5 T F;have b2:∀hs,wu hs->Cal l.prog w K mg base "one_step_more" 1 (Yp hs):=λhs ok=>zb8.cal X G Jm λf fd F=>qu0 ok F T;have b1:Cal l.prog w K mg base "ways_up_to" 6 (qwr qv):=zb9.cal X G qzn λf fd F=>wx7 T F am D b3 b2;have b0:Cal l.prog w K mg base "rows_from" 1 Zk:=zca.cal X G qyw λf fd F=>qks T F;have bx:Cal l.prog w K mg base "rows" 7 (wxq qv qu qf):=zcb.cal X G xvx λf fd F=>xv2 T F U b1 am D b0;have bs:Cal l.prog w K mg base "common_divisor" 1 xqt:=zcc.cal X G Z6 λf fd F=>zeg T F;have ab:Cal l.prog w K mg base "lowest" 2 (Qs qx):=zcd.cal X G wjb λf fd F=>wkb T F c4 bs;have ad:Cal l.prog w K mg base "ordered" 6 (wz2 K TT qx):=zce.cal X G wwk λf fd F=>zet F T hB hC c4;have Z:MCal l.prog w K mg base qv "on_road" 3 (Q5 K qv qx qd):=zdg.cal qqp λf fd F=>wwc T F D ab;have ac:MCal l.prog w K mg base qv "at" 4 (spAt K qv qx qd):=zdh.cal wx6 λf fd F=>zei T F D ab J Z;have bq:Cal l.prog w K mg base "walked" 5 (qxs K qv qx qd qu):=zcf.cal X G wj2 λf fd F=>wkp T F U Z ac;have bm:Cal l.prog w K mg base "corners_back" 6 (qj1 qv):=zcg.cal X G qqu λf fd F=>xwt T F D bq;have bl:Cal l.prog w K mg base "lies_in" 1 (wzb K):=zch.cal X G ww9 λf fd F=>xvw T F;have bk:Cal l.prog w K mg base "line_along" 4 (qjd K qv):=zci.cal X G qvv λf fd F=>wur T F b5 J;have bd:Cal l.prog w K mg base "fixed_point" 5 (qk2 K qv):=zcj.cal X G qxx λf fd F=>xqy T F bk ab;have bc:Cal l.prog w K mg base "back" 8 (ww4 qv TT):=zck.cal X G xxr λf fd F=>xvr T F bx bd bm bl ad;have a9:Cal l.prog w K mg base "trace" 5 (qj3 qv qf):=zcl.cal X G wyc λf fd F=>xqh T F ac;have a8:Cal l.prog w K mg base "least" 6 (qjw K qv):=zcm.cal X G wy5 λf fd F=>wyn T F Z a9;have a7:Cal l.prog w K mg base "candidates" 9 (wxp qv TT):=zcn.cal X G qzh λf fd F=>xx5 T F bc ad a8;have a6:Cal l.prog w K mg base "lengths" 10 (wwm qv TT):=zco.cal X G wwt λf fd F=>xz4 T F U a7;have a5:Cal l.prog w K mg base "_law_climb" 3 (qq5 K):=zcp.cal X G qvf λf fd F=>wux T F L;have a4:Cal l.prog w K mg base "_law_heights" 4 (Jq K):=zcq.cal X G qqr λf fd F=>wws T F L a5;have a3:Cal l.prog w K mg base "_law_crowds" 1 (qws K):=zcr.cal X G qxp λf fd F=>wjy T F;have a2:Cal l.prog w K mg base "_law_times" 2 (qyd K):=zcs.cal X G qvb λf fd F=>xwj T F a3;have a1:Cal l.prog w K mg base "_law_whole" 1 qk5:=zct.cal X G qzs λf fd F=>wum T F;have a0:Cal l.prog w K mg base "_law_numbers" 2 (Yh K):=zcu.cal X G qqy λf fd F=>wzz T F a1;have as:Cal l.prog w K mg base "_law_rank" 1 (wzu jd):=zcv.cal X G qym λf fd F=>xw5 T F;have ap:Cal l.prog w K mg base "_law_one_ring" 3 (Jr K):=zcw.cal X G Yd λf fd F=>wwg T F L;exact ze2 T F L a4 ap c6 a2 a6 a0 as
theorem walk {l:PySem.W.OpenLaw}{q:Ac}{loose:List Str}{XP:(Str->Option Ag)->Heap->Prop}{YP:Ah->Heap->Prop}{d:DefRec}{K:Params->Aa}{cO TT:Aj}(hn:l.most=some 63)(hdf:d.params.defaults=[])
  (hY:∀(w:Ah) (h:Heap),YP w h->(K w.params).In h/\h.get? TT=some (PySem.W.tabObj #[])) (hcT:∀p,PySem.W.codeHdIn (K p) cO TT=true) (hKT:∀p,(K p).lookup TT=none)
  (F:∀(w:Ah) (mg:Str->Option Ag) (fa:Aj) (h:Heap),(K w.params).In h->h.Ns mainGlobals mg->mg d.name=some (.ref fa) ->
   ∃fd:Ad,(∀(s:Ab) (u:Ag),BindsTo s fd ⟨[u],[]⟩ [("_law_script",u)])/\∀base:Heap,(K w.params).In base->base.Ns mainGlobals mg->BMain mg base->FnOk l.prog w (K w.params) mg base (CXE l.prog w) 11 fa fd ["_law_script"] (qjk (K w.params) TT)) :
  PySem.W.WalkO q loose XP YP l.row.toRowW d [] (λf vs=>PySem.call f vs) :=
 L2.wyu (n:=63) (k:=11) (x := "_law_script") (CX:=λw=>CXE l.prog w) (sp:=λw=>qjk (K w.params) TT) hn ⋯ hdf ⟨rfl,⋯,⋯⟩ hY hcT hKT F (λ_ _ a ns hl hT hS=>⟨a,ns,rfl,hS,hl,hT,λ_=>rfl⟩) λ_ _ _ _ _ z=>CXE.no z
end
end My
open PySem PySem.W PyProof.Rows
local macro_rules | `(tactic| walk_at "defT")=>`(tactic| (refine' L2.xxn ?a ?l ?c ?k;(case a=>k_is);(case l=>k_is);(case c=>k_is);(case k=>k_is)))
local macro_rules | `(tactic| walk_at "def")=>`(tactic| (refine' L2.def_mk ?a ?l ?c ?k;(case a=>k_is);(case l=>k_is);(case c=>k_is);(case k=>k_is)))
local macro_rules | `(tactic| walk_at "defD")=>`(tactic| (refine' L2.xzx ?a ?l ?c ?k ?t;(case a=>k_is);(case l=>k_is);(case c=>k_is);(case k=>k_is);(case t=>k_is)))
local macro_rules | `(tactic| walk_at "meth")=>`(tactic| (refine' L2.xzf ?a ?i ?l ?c ?k;(case a=>k_is);(case i=>k_is);(case l=>k_is);(case c=>k_is);(case k=>k_is)))
section
open Lean
local macro_rules|`(universe $x*)=>do let mut r:=#[];for i in x do {let s:=i.getId.toString;let n:=((s.drop 1).toString.splitOn "_").map String.toNat!;for j in [n.head!:n.getLast!+1] do {r:=r.push (<-`(command|theorem $(mkIdent (.str `PySem.W.Fast s!"tw{(Name.str `PySem.Challenge.cw_crookroad_k30_whole_forced_lengths_holds ((match s.front with|'h'=>"heap_"|'t'=>"tree_"|'v'=>"view_"|'s'=>"sts_"|'e'=>"env_"|_=>"o_")++toString j)).hash}")):ident:True:=trivial))}};return mkNullNode r
universe h39 h46 h441 t47 t63 t78 t93 t108 t123 t138 t183 t256 t297 t369 t440 v39 o43_440 s49 s64 s79 s94 s109 s124 s139 s184 s257 s298 s370 e41
end
theorem PySem.W.Fast.tw5509484336653724336:True:=trivial
theorem PySem.W.Fast.tw2023507091394545761:True:=trivial
set_option maxRecDepth 100000 in
set_option maxHeartbeats 0 in
theorem PySem.Challenge.cw_crookroad_k30_whole_forced_lengths_holds : PySem.Challenge.rw_crookroad_k30_whole_forced_lengths.Holds := by
 w_on;o_law;k_head;(case hw=>w_witness2)
 k_fill
 refine My.walk (l:=PySem.Challenge.rw_crookroad_k30_whole_forced_lengths) (cO:=171) (TT:=169) rfl rfl (fun w h Y=>⟨PySem.W.km_in_of Y,PySem.W.km_tabs_of Y 169 (.head _)⟩) (fun p=>by kernel_rfl) (fun p=>by kernel_rfl) ?F
 case F =>
  intro w mg fa h KX G hmg
  refine' My.all_mk (cO:=171) (TT:=169) KX G hmg ?zb0 ?zb1 ?zb2 ?zb3 ?zb4 ?zb5 ?zb6 ?zb7 ?zb8 ?zb9 ?zca ?zcb ?zcc ?zcd ?zce ?hC ?zcf ?zcg ?zch ?zci ?zcj ?zck ?zcl ?zcm ?zcn ?zco ?zcp ?zcq ?zcr ?zcs ?zct ?zcu ?zcv ?zcw ?zcx ?zcy ?zam ?zcz ?zan ?zc0 ?zao ?zc1 ?zap ?zc2 ?zai ?zc3 ?zaq ?zc4 ?zc5 ?zc6 ?zc7 ?zc8 ?zc9 ?zda ?zdb ?zdc ?zdd ?zde ?zdf ?zdg ?zdh ?zdi ?zad ?zae ?zac ?zaf ?zag ?zdj ?zdk ?zdl ?zdm ?zdn ?zdo ?zdp ?zdq ?zdr ?zds ?zdt ?zdu ?zdv ?zdw ?zdx
  (case zb0=>walk_at "def")
  (case zb1=>walk_at "def")
  (case zb2=>walk_at "defD")
  (case zb3=>walk_at "def")
  (case zb4=>walk_at "def")
  (case zb5=>walk_at "def")
  (case zb6=>walk_at "def")
  (case zb7=>walk_at "def")
  (case zb8=>walk_at "def")
  (case zb9=>walk_at "def")
  (case zca=>walk_at "def")
  (case zcb=>walk_at "def")
  (case zcc=>walk_at "def")
  (case zcd=>walk_at "def")
  (case zce=>walk_at "defT")
  (case hC=>exact(by kernel_rfl))
  (case zcf=>walk_at "def")
  (case zcg=>walk_at "def")
  (case zch=>walk_at "def")
  (case zci=>walk_at "def")
  (case zcj=>walk_at "def")
  (case zck=>walk_at "def")
  (case zcl=>walk_at "def")
  (case zcm=>walk_at "def")
  (case zcn=>walk_at "def")
  (case zco=>walk_at "def")
  (case zcp=>walk_at "def")
  (case zcq=>walk_at "def")
  (case zcr=>walk_at "def")
  (case zcs=>walk_at "def")
  (case zct=>walk_at "def")
  (case zcu=>walk_at "def")
  (case zcv=>walk_at "def")
  (case zcw=>walk_at "def")
  (case zcx=>walk_at "def")
  (case zcy=>k_is)
  (case zam=>k_exc)
  (case zcz=>k_is)
  (case zan=>k_exc)
  (case zc0=>k_is)
  (case zao=>k_exc)
  (case zc1=>k_is)
  (case zap=>k_exc)
  (case zc2=>k_is)
  (case zai=>k_exc)
  (case zc3=>k_is)
  (case zaq=>k_exc)
  (case zc4=>k_is)
  (case zc5=>k_is)
  (case zc6=>k_is)
  (case zc7=>k_is)
  (case zc8=>k_is)
  (case zc9=>k_is)
  (case zda=>k_is)
  (case zdb=>walk_at "meth")
  (case zdc=>walk_at "meth")
  (case zdd=>walk_at "meth")
  (case zde=>walk_at "meth")
  (case zdf=>walk_at "meth")
  (case zdg=>walk_at "meth")
  (case zdh=>walk_at "meth")
  (case zdi=>k_is)
  (case zad=>k_is)
  (case zae=>k_is)
  (case zac=>k_is)
  (case zaf=>k_is)
  (case zag=>k_is)
  (case zdj=>k_is)
  (case zdk=>k_is)
  (case zdl=>k_is)
  (case zdm=>k_is)
  (case zdn=>k_is)
  (case zdo=>k_is)
  (case zdp=>k_is)
  (case zdq=>k_is)
  (case zdr=>k_is)
  (case zds=>k_is)
  (case zdt=>k_is)
  (case zdu=>k_is)
  (case zdv=>k_is)
  (case zdw=>k_is)
  (case zdx=>k_is)
