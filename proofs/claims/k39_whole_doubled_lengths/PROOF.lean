import PyProof.Rows.All
import Wide.All
import OpenK.AllK
import Wide.FinOn
import Lean
import PyProof.EqAt
import PyProof.EqKinds
import PyProof.TupleCall
import PyProof.Rows.SortRuns
import PyProof.Rows.Walk
import PyProof.NeData
import KE.IntBitsLaws
import PyProof.SetRoads
import KE.KDictList
import PyProof.Rows.SortShell
import KE.KRevIter
import KE.KStateDown
import KE.KSortTup
import KE.KLam
import KE.KNestM
import PySem.Challenge.RW_crookroad_k39_whole_doubled_lengths
set_option maxHeartbeats 0
set_option Elab.async false
set_option linter.all false
set_option maxRecDepth 100000
open Lean in
local macro_rules(kind:=Lean.Parser.Command.declaration)|s=>do {if s.getPos?.isNone||(`PySem.Challenge).isPrefixOf s[1][1][0].getId then Macro.throwUnsupported else let k:=s[1].getKind;let m←`(command|noncomputable def x:=0);let s:=if (k==`Lean.Parser.Command.definition||k==`Lean.Parser.Command.abbrev||k==`Lean.Parser.Command.instance)&&s[0][4].isNone then s.setArg 0 (s[0].setArg 4 m.raw[0][4]) else s;return Id.run (s.rewriteBottomUpM fun x=>x.setInfo .none)}
local macro_rules|`(tactic|lia)=>`(tactic|first|lia +splitIte|omega)
local macro_rules|`(⋯)=>`(by first|decide|lia)
local macro_rules|`(tactic|walk_at "iv")=>`(tactic|first|exact .inl rfl|exact .inr rfl|assumption)
local macro_rules|`(tactic|walk_at "vs")=>`(tactic|first|exact Or.inl rfl|exact Or.inr (Or.inl rfl)|exact Or.inr (Or.inr rfl))
def aa:=@List.getElem?_eq_getElem
def ac:=@PySem.wpAny_bind
def ae:=@List.getD_eq_getElem?_getD
def af:=@List.length_map
def ag:=@PySem.Heap.get?_push_of_some
def ai:=@PySem.wpAny_pure
def aj:=@Int.mul_le_mul_of_nonneg_right
def ak:=@Nat.le_refl
def al:=@List.mem_range
def am:=@List.getElem?_eq_some_iff
def ao:=@PySem.Heap.lt_size
def aq:=@Option.some.inj
def ar:=@if_neg
def au:=@List.length_append
def av:=@List.size_toArray
def aw:=@if_pos
def ax:=@List.getElem?_map
def ay:=@List.length_range
def az:=@List.mem_map
def aA:=@PySem.Heap.get?_push_size
def aB:=@Nat.ne_of_lt
def aC:=@List.map_cons
def aD:=@Bool.false_eq_true
def aE:=@List.mem_of_getElem?
def aF:=@decide_eq_true
def aG:=@List.getElem?_append_right
def aH:=@List.mem_append_right
def aI:=@Bool.false_ne_true
def aJ:=@List.length_cons
def aK:=@List.map_append
def aL:=@Nat.lt_of_lt_of_le
def aM:=@List.mem_singleton
def aN:=@List.map_map
def aO:=@List.mem_cons
def aP:=@List.getElem?_eq_none
def aQ:=@Nat.zero_le
def aR:=@Int.mul_le_mul_of_nonneg_left
def aS:=@Int.one_mul
def aT:=@decide_eq_false
def aU:=@List.getElem?_append_left
def aV:=@PySem.PassesOwn.leaving
def aW:=@List.mem_append
def aX:=@Int.mul_nonneg
def aY:=@PySem.wpAny_mono
def aZ:=@Array.getElem?_eq_getElem
def ba:=@List.pairwise_iff_getElem
def bb:=@Nat.lt_irrefl
def bc:=@Array.length_toList
def be:=@Int.add_mul
def bf:=@List.take_length
def bg:=@List.getElem?_range
def bh:=@Int.lt_or_le
def bi:=@List.sum_cons
def bj:=@Int.mul_comm
def bn:=@Nat.lt_trans
def bo:=@List.mem_filter
def bp:=@Nat.le_of_lt
def br:=@Int.mul_le_mul
def bu:=@PySem.W.mg_none_of
def bv:=@List.lookup_cons
def bw:=@List.map_congr_left
def bz:=@List.range_succ
def bA:=@if_false
def bB:=@PyProof.Rows.callWith_type1
def bC:=@List.length_take
def bD:=@List.getElem_mem
def bE:=@List.append_nil
def bF:=@Nat.lt_or_ge
def bG:=@List.mem_cons_of_mem
def bH:=@PySem.boot_len
def bI:=@Nat.le_trans
def bJ:=@PySem.wpAny_setState_of
def bK:=@PySem.F.plainAttrs_list
def bL:=@Array.getElem?_toList
def bM:=@Int.emod_lt_of_pos
def bN:=@PySem.F.slot_list_append
def bO:=@PySem.F.type_list_append
def bP:=@Int.toNat_natCast
def bQ:=@Array.getElem?_eq_some_iff
def bR:=@Int.toNat_of_nonneg
def bS:=@PySem.Heap.get?_update_ne
def bT:=@Int.eq_of_mul_eq_mul_left
def bU:=@PyProof.Rows.wpS_bind
def bV:=@Int.le_refl
def bW:=@PySem.W.mg_of
def bX:=@Array.getD_eq_getD_getElem?
def bY:=@Int.emod_nonneg
def bZ:=@List.sum_append
def b7:=@congrArg
def b8:=@Bool.and_eq_true
def b9:=@PySem.Paired.length
def ca:=@PySem.wpAny_newObj_type
def cf:=@List.pairwise_map
def cg:=@PySem.wpAny_holding
def cn:=@List.mem_append_left
def cu:=@Classical.byContradiction
def cx:=@Int.le_of_mul_le_mul_left
def cA:=@Bool.eq_iff_iff
def cB:=@List.Pairwise.imp_of_mem
def cC:=@List.any_eq_true
def cD:=@beq_eq_false_iff_ne
def cE:=@List.getElem_of_mem
def cG:=@PySem.Heap.SameBut.update
def cH:=@List.ext_getElem?
def cI:=@Nat.mod_two_eq_zero_or_one
def cJ:=@PySem.W.kia_one
def cK:=@PyProof.Rows.boot_list
def cL:=@Option.map_eq_some_iff
def cM:=@List.length_singleton
def cN:=@List.length_filter_le
def cP:=@PySem.F.slot_dict_keyiterator_next
def cQ:=@PySem.wpAny_Call_Name_kw
def cR:=@Int.mul_nonpos_of_nonneg_of_nonpos
def cS:=@PyProof.Rows.wpS_pure
def cT:=@PySem.wpAny_call_entry
def cU:=@List.pairwise_singleton
def cV:=@if_true
def cW:=@Nat.zero_add
def cX:=@PySem.wpAny_truthy_bool
def cY:=@PySem.Heap.size_push
def cZ:=@PySem.Heap.get?_update_other
def c0:=@of_decide_eq_true
def da:=@List.length_nil
def dc:=@List.nodup_cons
def de:=@PySem.Heap.get?_update_self
def df:=@PyProof.Rows.boot_max
def dh:=@PySem.wpAny_standAt
def di:=@List.map_nil
def dj:=@Nat.pow_succ
def dk:=@Int.mul_zero
def dr:=@Int.le_trans
def dt:=@List.eq_nil_of_length_eq_zero
def du:=@Nat.pow_le_pow_right
def dv:=@List.getElem?_of_mem
def dw:=@PySem.wpAny_typeNameOfWhole_keyiter
def dz:=@Nat.le_of_lt_succ
def dA:=@PySem.wpAny_callSpecial?_slot
def dB:=@List.take_add_one
def dC:=@Int.mul_eq_zero
def dD:=@List.dropLast_concat_getLast
def dE:=@PySem.mem_of_lookup
def dF:=@Ne.symm
def dG:=@Array.getElem?_eq_none
def dH:=@Int.zero_add
def dI:=@Int.add_zero
def dJ:=@PySem.sizeLine_eq
def dL:=@List.length_drop
def dM:=@List.filter_cons
def dN:=@List.mem_cons_self
def dO:=@Int.eq_of_mul_eq_mul_right
def dP:=@PySem.Obj.data_mapFields
def dQ:=@Int.le_of_mul_le_mul_right
def dR:=@PyProof.Rows.boot_min
def dS:=@List.getLast?_eq_getElem?
def dU:=@PySem.wpAny_passesOwn
def dW:=@List.flatten_cons
def dX:=@PySem.lookup_relabel_local
def dY:=@List.getLast?_append
def dZ:=@PySem.wpAny_typeNameOf_keyiter
def d6:=@List.filterMap_cons
def d7:=@Nat.lt_succ_self
def d8:=@Nat.mod_eq_of_lt
def d9:=@Array.toList_inj
def ee:=@PySem.F.plain_max_loop
def eA:=@Int.mul_le_mul_of_nonpos_left
def eB:=@PySem.wpAny_rule
def eC:=@Nat.lt_of_le_of_lt
def eE:=@Nat.succ_pos
def eF:=@List.take_of_length_le
def eG:=@List.sum_nil
def eI:=@Int.mul_ediv_mul_of_pos_left
def eJ:=@List.find?_cons
def eK:=@PyProof.Rows.get?_update_seq
def eL:=@PyProof.Rows.boot_isinstance
def eN:=@PySem.wpAny_attempt
def eO:=@PyProof.Rows.listUpdate_at
def eQ:=@Int.mul_ediv_add_emod
def eR:=@decide_eq_true_eq
def eT:=@bne_self_eq_false
def eU:=@Nat.lt_succ_of_lt
def eV:=@Array.perm_iff_toList_perm
def eW:=@Nat.mod_lt
def eX:=@Int.natAbs_mul
def eY:=@Int.mul_pos
def eZ:=@List.pairwise_append
def ff:=@Nat.ne_of_gt
def fh:=@PySem.codeAny_mono
def fj:=@beq_self_eq_true
def fk:=@PySem.wpAny_askSetting
def fu:=@List.drop_eq_getElem_cons
def fv:=@List.getElem?_eq_none_iff
def fA:=@Int.mul_pos_of_neg_of_neg
def fB:=@List.getLast?_eq_none_iff
def fC:=@PySem.F.args_tuple_add_2
def fE:=@List.any_cons
def fF:=@PySem.wpAny_comprehension_free
def fG:=@Bool.not_true
def fH:=@PyProof.Rows.boot_sorted
def fI:=@Int.ediv_nonneg
def fJ:=@Int.ediv_mul_le
def fL:=@PySem.wpAny_ite_split
def fM:=@List.getElem?_take
def fN:=@List.mem_filterMap
def fO:=@beq_iff_eq
def fR:=@Array.forIn_toList
def fS:=@Nat.eq_zero_or_pos
def fT:=@List.getElem?_drop
def fU:=@Nat.add_sub_cancel
def fV:=@List.filter_append
def fW:=@PySem.F.entry_tuple_add
def fX:=@Int.eq_ofNat_of_zero_le
def fY:=@List.getLast_eq_getElem
def fZ:=@Int.mul_sub
def gf:=@Int.sub_mul
def gh:=@PyProof.Rows.wpS_forRange
def gk:=@PySem.wpAny_pyIter_list
def gm:=@PySem.F.slot_tuple_add
def gn:=@Bool.and_false
def gu:=@List.length_pos_of_mem
def gv:=@Int.le_ediv_iff_mul_le
def gz:=@PySem.wpAny_storeSet_of
def gA:=@PySem.wpAny_setField
def gB:=@PySem.wpAny_dictEntries
def gC:=@Int.lt_trichotomy
def gD:=@List.take_append_drop
def gE:=@PySem.Obj.isFreed_of_fields
def gF:=@List.flatten_nil
def gG:=@List.nodup_range
def gH:=@List.getElem_map
def gI:=@PySem.F.args_dict_keyiterator_next_1
def gJ:=@List.mem_flatten
def gK:=@Int.mul_assoc
def gL:=@PySem.wpAny_newList
def gM:=@Array.mem_toList_iff
def gN:=@Int.mul_ediv_cancel'
def gO:=@PySem.wpAny_newFunctionEnv
def gP:=@PySem.F.entry_dict_keyiterator_next
def gQ:=@PySem.wpAny_letGo
def gR:=@List.mem_of_mem_take
def gS:=@PySem.Around.under_plainId
def gU:=@PySem.wpAny_execs_nil
def gW:=@Int.lt_ediv_add_one_mul_self
def gX:=@Nat.not_lt_zero
def gY:=@PySem.codeAny_builtin
def gZ:=@PySem.W.plainGet_of
def g8:=@List.flatMap_append
def g9:=@Int.le_of_lt
def hU:=@Int.zero_mul
def h9:=@PyProof.Rows.assignInOrder_cons
def ib:=@PySem.Calls.spliced_cons
def ic:=@PySem.SeqAt.EqAt.int_int
def ie:=@Nat.add_right_comm
def ig:=@PySem.W.callWith_K
def ii:=@PySem.F.excBase_ValueError
def ik:=@List.take_succ
def im:=@Int.mul_lt_mul_of_pos_left
def io:=@PySem.tupleKind_room_in1
def iq:=@PySem.wpAny_seqItems
def ir:=@Bool.not_false
def iu:=@PySem.wpAny_fieldsOf
def iw:=@List.pairwise_cons
def iz:=@List.take_zero
def iA:=@decide_eq_true_iff
def iC:=@List.getLastD_eq_getLast?
def iD:=@Int.mul_neg_of_pos_of_neg
def iE:=@List.getElem_take
def iF:=@Array.toList_push
def iG:=@PySem.wpAny_assign_Name
def iH:=@Int.mul_one
def iI:=@PySem.Calls.spliced_nil
def iJ:=@Nat.lt_trichotomy
def iK:=@List.append_assoc
def iL:=@PySem.Obj.cls_mapFields
def iM:=@PySem.wpAny_pyIter_slot
def iN:=@PyProof.Rows.seqEpoch_at
def iO:=@List.getElem?_take_of_lt
def iP:=@List.cons.inj
def iQ:=@PySem.plainId_quiet
def iR:=@Nat.add_sub_cancel_left
def iS:=@PySem.wpAny_execs_cons
def iT:=@PySem.noFill_tuple_add
def iU:=@Prod.ext
def iV:=@Int.natCast_dvd_natCast
def iW:=@List.all_eq_true
def iX:=@PySem.wpAny_forIn_list
def iY:=@Bool.not_eq_true
def iZ:=@PySem.wpAny_isInstance
def i3:=@Nat.le_add_right
def i4:=@PySem.Heap.size_update
def i6:=@List.length_eq_zero_iff
def i7:=@Nat.le_mul_of_pos_right
def i8:=@Int.dvd_mul_left
def i9:=@PyProof.Rows.boot_range
def ja:=@Int.le_of_eq
def jl:=@Int.ediv_one
def jo:=@List.of_mem_zip
def jA:=@Nat.two_pow_pos
def jB:=@Int.natCast_mul
def jC:=@PySem.wpAny_specialOf
def jD:=@PySem.wpAny_dictEpoch
def jE:=@PySem.wpAny_updateSeq
def jF:=@Nat.min_eq_left
def jG:=@Bool.false_and
def jH:=@PySem.IsRange.new
def jI:=@Nat.le_succ
def jJ:=@PySem.intItems_at
def jK:=@PySem.numAt_eq
def jL:=@List.nodup_nil
def jO:=@Int.neg_mul
def jP:=@Int.mul_add
def jR:=@List.all_cons
def jT:=@Bool.and_self
def jU:=@Int.lt_irrefl
def jV:=@Int.add_assoc
section
open PySem PySem.Spec PyProof.Rows
abbrev Aa:=PySem.W.Frag
abbrev Ab:=PySem.Shared
abbrev Ac:=PySem.Program
abbrev Ad:=PySem.FuncData
abbrev Ae:=Around
abbrev Af:=SortSt
abbrev Ag:=Value
abbrev Ah:=World
abbrev Ai:=Keyed
abbrev Aj:=Addr
end
namespace L2
theorem exI {α:Sort _}{A K:α->Prop}{v:α}(e:A v)(h:K v):∃x,A x/\K x:=⟨v,e,h⟩
theorem wy {α β:Sort _}{A:α->Prop}{B:β->Prop}{K:α->β->Prop}{u:α}{v:β}(a:A u)(b:B v)(h:K u v):∃x y,A x/\B y/\K x y:=⟨u,v,a,b,h⟩
theorem exX {α β γ δ:Sort _}{A:α->Prop}{B:γ->Prop}{C:α->β->Prop}{D:β->γ->δ->Prop}{K:δ->Prop}{p:α}{xs:β}{i:γ}{v:δ}(a:A p)(b:B i)(c:C p xs)(d:D xs i v)(h:K v):∃p xs i v,A p/\B i/\C p xs/\D xs i v/\K v:=⟨p,xs,i,v,a,b,c,d,h⟩
end L2
namespace Tm
open PySem PyProof.Rows
local macro_rules | `(tactic| walk_at "tim gallop")=>do
 let n:=Lean.mkIdent (Lean.mkPrivateNameCore `PySem.Builtin.List.W1All `PySem.Builtin.gallop);`(tactic| unfold $n:ident)
section
variable {M:Model}{A:Ae}{E:Ag->Ab->Prop}{s:Ab}{G:Ai->Prop}{kz:Ai->Int}{kd:SortKind}
def qk9 (M:Model)(A:Ae)(E:Ag->Ab->Prop)(s:Ab)(G:Ai->Prop)(kz:Ai->Int)(kd:SortKind):Prop :=
 ∀(x y:Ai) (st:Af) (Q:Option Bool->Af->Prop),G x->G y->kindOf st=kd->Q (some (decide (kz x<kz y))) st->wpS M A E s (lt' x y) Q st
theorem wxq {arr:Array Ai}{i:Nat}{x:Ai}{st:Af}{Q:Ai->Af->Prop}(hx:arr[i]?=some x)(h:Q x st):wpS M A E s (elem' arr i) Q st:=by rw[elem'_eq,hx];exact cS h
end
local macro_rules | `(tactic| walk_at "tim lo")=>do
 let n:=Lean.mkIdent (Lean.mkPrivateNameCore `PySem.Builtin.List.W1All `PySem.Builtin.mergeLo);`(tactic| unfold $n:ident)
section
variable {kz:Ai->Int}
def SL (kz:Ai->Int)(l:List Ai):Prop:=l.Pairwise λx y=>kz x<kz y
structure LJ (kz:Ai->Int)(T O X Y:List Ai):Prop where
 x:SL kz (O++X)
 y:SL kz (O++Y)
 p:(O++(X++Y)).Perm T
variable {T O X Y X1 X2 Y1 Y2:List Ai}
structure HJ (kz:Ai->Int)(T X Y O:List Ai):Prop where
 x:SL kz (X++O)
 y:SL kz (Y++O)
 p:(X++(Y++O)).Perm T
structure Mg (kz:Ai->Int)(G:Ai->Prop)(a b:Array Ai):Prop where
 sa:SL kz a.toList
 sb:SL kz b.toList
 ne:∀x∈a.toList,∀y∈b.toList,kz x≠kz y
 ga:∀x∈a.toList,G x
 gb:∀x∈b.toList,G x
theorem xkm {a:Array Ai}{i:Nat}(h:i<a.size):∃x,a[i]?=some x/\a.toList[i]?=some x/\x∈a.toList:=⟨a[i],aZ h,by simp[h],by simp⟩
end
section
variable {M:Model}{A:Ae}{E:Ag->Ab->Prop}{s:Ab}{G:Ai->Prop}{kz:Ai->Int}{kd:SortKind}{a b:Array Ai}
end
section
variable {M:Model}{A:Ae}{E:Ag->Ab->Prop}{s:Ab}{G:Ai->Prop}{kz:Ai->Int}{kd:SortKind}
def Srt (kz:Ai->Int)(xs:Array Ai)(lo hi:Nat):Prop:=∀i j x y,lo<=i->i<j->j<hi->xs[i]?=some x->xs[j]?=some y->kz x<kz y
def Dsc (kz:Ai->Int)(xs:Array Ai)(lo hi:Nat):Prop:=∀i j x y,lo<=i->i<j->j<hi->xs[i]?=some x->xs[j]?=some y->kz y<kz x
structure Un (kz:Ai->Int)(G:Ai->Prop)(xs:Array Ai):Prop where
 ne:xs.toList.Pairwise λx y=>kz x≠kz y
 g:∀x∈xs.toList,G x
theorem Un.perm {xs ys:Array Ai}(u:Un kz G xs)(p:ys.Perm xs):Un kz G ys:=by have p':=eV.mp p;exact⟨(p'.pairwise_iff (λ{a b} h=>dF h)).mpr u.ne,λx hx=>u.g x (p'.mem_iff.mp hx)⟩
theorem Un.at_ {xs:Array Ai}(u:Un kz G xs){i:Nat}(h:i<xs.size):∃x,xs[i]?=some x/\G x:=by obtain⟨x,e1,_,e3⟩:=xkm h;exact⟨x,e1,u.g x e3⟩
theorem Un.ne_at {xs:Array Ai}(u:Un kz G xs){i j:Nat}{x y:Ai}(hij:i<j)(hx:xs[i]?=some x)(hy:xs[j]?=some y):kz x≠kz y:=by rw[<-bL]at hx hy;obtain⟨hi,rfl⟩:=am.mp hx;obtain⟨z,rfl⟩:=am.mp hy;exact ba.mp u.ne i j hi z hij
theorem qqv {st:Af}{i j:Nat}{x y:Ai}{Q:Option Bool->Af->Prop}(O:qk9 M A E s G kz kd)(hk:kindOf st=kd)(hx:(arrOf st)[i]?=some x)(hy:(arrOf st)[j]?=some y)(gx:G x)(gy:G y)
  (h:Q (some (decide (kz x<kz y))) st):wpS M A E s (ltAt' i j) Q st:=by
 rw[ltAt'_eq];refine bU (wpS_get ?_);exact bU (wxq hx (bU (wxq hy (O _ _ _ _ gx gy hk h))))
structure Ip (lo:Nat)(st st':Af):Prop where
 k:kindOf st'=kindOf st
 p:pendingOf st'=pendingOf st
 f:failedOf st'=failedOf st
 a:(arrOf st').Perm (arrOf st)
 low:∀i,i<lo->(arrOf st')[i]?=(arrOf st)[i]?
theorem Ip.rfl' (lo:Nat)(st:Af):Ip lo st st:=⟨rfl,rfl,rfl,.refl _,λ_ _=>rfl⟩
theorem Ip.trans {lo:Nat}{a b c:Af}(h:Ip lo a b)(k:Ip lo b c):Ip lo a c:=⟨k.k.trans h.k,k.p.trans h.p,k.f.trans h.f,k.a.trans h.a,λi hi=>(k.low i hi).trans (h.low i hi)⟩
theorem ip_bub {lo src d:Nat}{st:Af}(h:src<(arrOf st).size)(hd:lo+d<=src):Ip lo st (setArr st (bubble (arrOf st) src d)):=by refine⟨rfl,rfl,rfl,bubble_perm _ _ _,λi hi=>?_⟩;show(bubble (arrOf st) src d)[i]?=_;rw[getElem?_bubble h d ⋯,ar ⋯,ar ⋯]
theorem ip_mir {lo i j:Nat}{st:Af}(hj:j<=(arrOf st).size)(hi:lo<=i):Ip lo st (setArr st (mirror (arrOf st) i j ((j-i)/2))):=by refine⟨rfl,rfl,rfl,mirror_perm _ _ _ _,λk z=>?_⟩;show(mirror (arrOf st) i j ((j-i)/2))[k]?=_;rw[getElem?_mirror_all hj,ar ⋯]
theorem Srt.one (xs:Array Ai)(lo:Nat):Srt kz xs lo (lo+1):=λi j x y a b c _ _=>by lia
theorem Srt.snoc {xs:Array Ai}{lo hi:Nat}{x y:Ai}(h:Srt kz xs lo (hi+1))(hlo:lo<=hi)(hx:xs[hi]?=some x)(hy:xs[hi+1]?=some y)(c:kz x<kz y):Srt kz xs lo (hi+1+1):=by
 intro i j u v a b d z D;by_cases e:j=hi+1
 .subst e;rw[hy]at D;cases D;by_cases e2:i=hi
  .subst e2;rw[hx]at z;cases z;exact c
  .have:=h i hi u x a ⋯ ⋯ z hx;lia
 .exact h i j u v a b ⋯ z D
theorem Dsc.snoc {xs:Array Ai}{lo hi:Nat}{x y:Ai}(h:Dsc kz xs lo (hi+1))(hlo:lo<=hi)(hx:xs[hi]?=some x)(hy:xs[hi+1]?=some y)(c:kz y<kz x):Dsc kz xs lo (hi+1+1):=by
 intro i j u v a b d z D;by_cases e:j=hi+1
 .subst e;rw[hy]at D;cases D;by_cases e2:i=hi
  .subst e2;rw[hx]at z;cases z;exact c
  .have:=h i hi u x a ⋯ ⋯ z hx;lia
 .exact h i j u v a b ⋯ z D
theorem Dsc.turn {xs:Array Ai}{lo n:Nat}(h:Dsc kz xs lo (lo+n))(hs:lo+n<=xs.size):Srt kz (mirror xs lo (lo+n) ((lo+n-lo)/2)) lo (lo+n):=by intro i j u v a b d D z;rw[getElem?_mirror_all hs,aw ⟨⋯,⋯⟩]at D z;exact h _ _ v u ⋯ ⋯ ⋯ z D
theorem xwx {st:Af}{lo n0 nrem:Nat}{f:Nat->Option (Option Nat)×Nat->StateT Af Sem (ForInStep (Option (Option Nat)×Nat))}{Q:Option (Option Nat)×Nat->Af->Prop}
  (hf:∀i n (R:ForInStep (Option (Option Nat)×Nat)->Af->Prop),1<=n->n<nrem->(∀x y,(arrOf st)[lo+n-1]?=some x->(arrOf st)[lo+n]?=some y->(kz y<kz x->R (.done (none,n)) st)/\(¬ kz y<kz x->R (.yield (none,n+1)) st))->wpS M A E s (f i (none,n)) R st)
  (u:Un kz G (arrOf st)) (h0:1<=n0) (hn:n0<=nrem) (hz:lo+nrem<=(arrOf st).size) (sr:Srt kz (arrOf st) lo (lo+n0))
  (h:∀n,n0<=n->n<=nrem->Srt kz (arrOf st) lo (lo+n)->(n=nrem\/∀x y,(arrOf st)[lo+n-1]?=some x->(arrOf st)[lo+n]?=some y->kz y<kz x)->Q (none,n) st) :
  wpS M A E s (forIn [n0:nrem] ((none,n0):Option (Option Nat)×Nat) f) Q st:=by
 refine gh (I:=λi (c:Option (Option Nat)×Nat) st'=>st'=st/\c=(none,i)/\n0<=i/\Srt kz (arrOf st) lo (lo+i)) ?step ?fin ⟨rfl,rfl,ak _,sr⟩
 case fin =>
  rintro c st' ⟨rfl,rfl,x1,x2⟩;have e:max n0 nrem=nrem:=by lia
  rw[e]at x1 x2 ⊢;exact h _ x1 (ak _) x2 (.inl rfl)
 case step =>
  rintro i c st' hi hi2 ⟨rfl,rfl,x1,x2⟩;refine hf _ _ _ ⋯ hi2 λx y ex ey=>⟨λc=>?_,λc=>?_⟩
  .refine h i x1 ⋯ x2 (.inr λx' y' ex' ey'=>?_);rw[ex]at ex';rw[ey]at ey';cases ex';cases ey';exact c
  .have ne:=u.ne_at (show lo+i-1<lo+i by lia) ex ey;refine⟨rfl,rfl,⋯,?_⟩;obtain⟨m,e⟩:∃m,lo+i=m+1:=⟨lo+i-1,⋯⟩;rw[show lo+(i+1)=m+1+1 by lia];rw[e]at x2 ey ex;exact x2.snoc ⋯ (by simpa using ex) ey ⋯
theorem wur {st:Af}{lo nrem:Nat}{Q:Option Nat->Af->Prop}(O:qk9 M A E s G kz kd)(hk:kindOf st=kd)(u:Un kz G (arrOf st))(h1:1<=nrem)(hz:lo+nrem<=(arrOf st).size)
  (h:∀n st',1<=n->n<=nrem->Ip lo st st'->Srt kz (arrOf st') lo (lo+n)->Q (some n) st'):wpS M A E s (countRun' lo nrem) Q st:=by
 rw[countRun'_eq];dsimp only;refine bU (xwx (lo:=lo) (n0:=1) (nrem:=nrem) (λi n R n1 n2 hR=>?_) u (ak _) h1 hz (Srt.one _ _) λn n1 n2 sr hor=>?_)
 .obtain⟨x,ex,gx⟩:=u.at_ (i:=lo+n-1) ⋯;obtain⟨y,ey,gy⟩:=u.at_ (i:=lo+n) ⋯;have:=hR x y ex ey;dsimp only;refine bU (qqv O hk ey ex gy gx ?_);dsimp only;by_cases c:kz y<kz x
  .rw[aw (aF c)];exact cS (this.1 c)
  .rw[ar (by simpa using c)];exact cS (this.2 c)
 dsimp only;by_cases c:(n==nrem)=true
 .rw[aw c];exact cS (h n st n1 n2 (Ip.rfl' _ _) sr)
 rw[ar c];have c':n<nrem:=by
  have:¬ n=nrem:=by simpa using c
  lia
 by_cases c2:n>1
 .rw[aw c2];obtain⟨x,ex,gx⟩:=u.at_ (i:=lo) ⋯;obtain⟨y,ey,gy⟩:=u.at_ (i:=lo+n-1) ⋯;refine bU (qqv O hk ex ey gx gy ?_);dsimp only;rw[aw (aF (sr lo (lo+n-1) x y (ak _) ⋯ ⋯ ex ey))];exact cS (h n st n1 n2 (Ip.rfl' _ _) sr)
 rw[ar c2];obtain rfl:n=1:=by lia
 refine bU (wpS_lift (eB ⟨rfl,?_⟩));have fall:=hor.resolve_left ⋯;have d0:Dsc kz (arrOf st) lo (lo+(1+1)):=by obtain⟨x,ex,gx⟩:=u.at_ (i:=lo) ⋯;obtain⟨y,ey,gy⟩:=u.at_ (i:=lo+1) ⋯;exact Dsc.snoc (hi:=lo) (λi j u v a b d _ _=>by lia) (ak _) ex ey (fall x y (by simpa using ex) ey)
 refine bU (wpS_mono (gh (I:=λi (c:Option (Option Nat)×Nat×Nat) st'=>st'=st/\c=(none,i,0)/\2<=i/\i<=nrem/\Dsc kz (arrOf st) lo (lo+i))
  (Q:=λc st'=>st'=st/\∃i,c=(none,i,0)/\2<=i/\i<=nrem/\Dsc kz (arrOf st) lo (lo+i)) ?step ?fin ⟨rfl,rfl,ak _,⋯,d0⟩) ?post)
 case fin =>
  rintro c st' ⟨rfl,rfl,x1,x2,x3⟩;exact⟨rfl,_,rfl,x1,x2,x3⟩
 case step =>
  rintro i c st' hi hi2 ⟨rfl,rfl,x1,x2,x3⟩;dsimp only;obtain⟨x,ex,gx⟩:=u.at_ (i:=lo+i-1) ⋯;obtain⟨y,ey,gy⟩:=u.at_ (i:=lo+i) ⋯;refine bU (qqv O hk ey ex gy gx ?_);dsimp only;have ne:=u.ne_at (show lo+i-1<lo+i by lia) ex ey;by_cases c:kz y<kz x
  .rw[aw (aF c)];rw[ar (bb 0)];refine cS ⟨rfl,rfl,⋯,⋯,?_⟩;obtain⟨m,e⟩:∃m,lo+i=m+1:=⟨lo+i-1,⋯⟩;rw[show lo+(i+1)=m+1+1 by lia];rw[e]at x3 ey ex;exact x3.snoc ⋯ (by simpa using ex) ey c
  .rw[ar (by simpa using c)];refine bU (qqv O hk ex ey gx gy ?_);dsimp only;rw[aw (aF (show kz x<kz y by lia))];exact cS ⟨rfl,i,rfl,x1,x2,x3⟩
 case post =>
  rintro c st' ⟨rfl,i,rfl,x1,x2,x3⟩;dsimp only;rw[ar (bb 0)];refine bU ?_;rw[reverseSlice'_eq];refine wpS_modify ?_;have ip:=ip_mir (lo:=lo) (i:=lo) (j:=lo+i) (st:=st') ⋯ (ak _);have sr2:Srt kz (arrOf (setArr st' (mirror (arrOf st') lo (lo+i) ((lo+i-lo)/2)))) lo (lo+i):=x3.turn ⋯;generalize setArr st' (mirror (arrOf st') lo (lo+i) ((lo+i-lo)/2))=st2 at ip sr2 ⊢;have u2:=u.perm ip.a;have z2:(arrOf st2).size=(arrOf st').size:=ip.a.size_eq;refine bU (xwx (lo:=lo) (n0:=i) (nrem:=nrem) (λi n R n1 n2 hR=>?_) u2 ⋯ x2 ⋯ sr2 λn n1 n2 sr hor=>?_)
  .obtain⟨x,ex,gx⟩:=u2.at_ (i:=lo+n-1) ⋯;obtain⟨y,ey,gy⟩:=u2.at_ (i:=lo+n) ⋯;have:=hR x y ex ey;dsimp only;refine bU (qqv O (ip.k.trans hk) ey ex gy gx ?_);dsimp only;by_cases c:kz y<kz x
   .rw[aw (aF c)];exact cS (this.1 c)
   .rw[ar (by simpa using c)];exact cS (this.2 c)
  exact cS (h n st2 ⋯ n2 ip sr)
theorem xkq {st:Af}{lo n ok:Nat}{Q:Bool->Af->Prop}(O:qk9 M A E s G kz kd)(hk:kindOf st=kd)(u:Un kz G (arrOf st))(h1:1<=ok)(hok:ok<=n)(hz:lo+n<=(arrOf st).size)(sr:Srt kz (arrOf st) lo (lo+ok))
  (h:∀st',Ip lo st st'->Srt kz (arrOf st') lo (lo+n)->Q true st'):wpS M A E s (binarySort' lo n ok) Q st:=by
 rw[binarySort'_eq];have em:max ok 1=ok:=by lia
 rw[em];refine bU (wpS_mono (gh (I:=λk c st'=>c=(none,())/\Ip lo st st'/\Srt kz (arrOf st') lo (lo+k)) (Q:=λc st'=>c=(none,())/\Ip lo st st'/\Srt kz (arrOf st') lo (lo+n)) ?step ?fin ⟨rfl,Ip.rfl' _ _,sr⟩) ?post)
 case fin =>
  rintro c st' ⟨rfl,x1,x2⟩;rw[show max ok n=n by lia]at x2;exact⟨rfl,x1,x2⟩
 case post =>
  rintro c st' ⟨rfl,x1,x2⟩;exact cS (h st' x1 x2)
 case step =>
  rintro k c st1 hk1 hk2 ⟨rfl,ip,s1⟩;dsimp only;have u1:=u.perm ip.a;have z1:(arrOf st1).size=(arrOf st).size:=ip.a.size_eq;obtain⟨x,ex,gx⟩:=u1.at_ (i:=lo+k) ⋯;refine bU (wpS_mono (gh (I:=λi (c:Option Bool×Nat×Nat) st'=>st'=st1/\c.1=none/\c.2.1<=c.2.2/\c.2.2<=k/\c.2.2-c.2.1<=k-i/\(∀j y,j<c.2.1->(arrOf st1)[lo+j]?=some y->kz y<kz x)/\(∀j y,c.2.2<=j->j<k->(arrOf st1)[lo+j]?=some y->kz x<kz y))
   (Q:=λc st'=>st'=st1/\∃l r,c=(none,l,r)/\l<=k/\(∀j y,j<l->(arrOf st1)[lo+j]?=some y->kz y<kz x)/\(∀j y,l<=j->j<k->(arrOf st1)[lo+j]?=some y->kz x<kz y)) ?step2 ?fin2 ⟨rfl,rfl,aQ _,ak _,by dsimp only;lia,λj y hj=>by dsimp only at hj;lia,λj y a b=>by dsimp only at a;lia⟩) ?post2)
  case fin2 =>
   rintro⟨r,a,b⟩ st' ⟨rfl,hr,y1,y2,y3,y4,y5⟩;dsimp only at hr y1 y2 y3 y4 y5;subst hr;have:a=b:=by lia
   subst this;exact⟨rfl,_,_,rfl,y2,y4,y5⟩
  case step2 =>
   rintro i ⟨r,a,b⟩ st' _ hi ⟨rfl,hr,y1,y2,y3,y4,y5⟩;dsimp only at hr y1 y2 y3 y4 y5 ⊢;subst hr;by_cases c:a>=b
   .rw[aw c];have:a=b:=by lia
    subst this;exact cS ⟨rfl,_,_,rfl,y2,y4,y5⟩
   rw[ar c];obtain⟨y,ey,gy⟩:=u1.at_ (i:=lo+(a+b)/2) ⋯;refine bU (qqv O (ip.k.trans hk) ex ey gx gy ?_);dsimp only;have ne:=u1.ne_at (show lo+(a+b)/2<lo+k by lia) ey ex;have mon:∀j j' z z',j<=j'->j'<k->(arrOf st')[lo+j]?=some z->(arrOf st')[lo+j']?=some z'->kz z<=kz z':=λj j' z z' h1 h2 e1 e2=>by
    rcases bF j j' with c|c
    .exact g9 (s1 (lo+j) (lo+j') z z' ⋯ ⋯ ⋯ e1 e2)
    .obtain rfl:j=j':=by lia
     rw[e1]at e2;cases e2;exact bV _
   by_cases d:kz x<kz y
   .rw[aw (aF d)];refine cS ⟨rfl,rfl,by dsimp only;lia,by dsimp only;lia,by dsimp only;lia,y4,λj z hj hj2 ez=>?_⟩;have:=mon _ _ _ _ hj hj2 ey ez;lia
   .rw[ar (by simpa using d)];refine cS ⟨rfl,rfl,by dsimp only;lia,y2,by dsimp only;lia,λj z hj ez=>?_,y5⟩;dsimp only at hj;have:=mon j ((a+b)/2) _ _ ⋯ ⋯ ez ey;lia
  case post2 =>
   rintro c st' ⟨rfl,l,r,rfl,hl,b1,b2⟩;dsimp only;refine bU ?_;rw[moveDown'_eq];refine wpS_modify ?_;have ed:lo+k-(lo+l)=k-l:=by lia
   rw[ed];refine cS ⟨rfl,ip.trans (ip_bub ⋯ ⋯),?_⟩;show Srt kz (bubble (arrOf st') (lo+k) (k-l)) lo (lo+(k+1));intro i j p q h1 h2 h3 ep eq;rw[getElem?_bubble ⋯ (k-l) ⋯]at ep eq;have e4:lo+k-(k-l)=lo+l:=by lia
   rw[e4]at ep eq;by_cases c1:i=lo+l
   .rw[aw c1,ex]at ep;cases ep;rw[ar ⋯,aw ⟨⋯,⋯⟩]at eq;exact b2 (j-1-lo) q ⋯ ⋯ (by rw[<-eq];congr 1;lia)
   .rw[ar c1]at ep;by_cases c2:j=lo+l
    .rw[aw c2,ex]at eq;cases eq;rw[ar ⋯]at ep;exact b1 (i-lo) p ⋯ (by rw[<-ep];congr 1;lia)
    .rw[ar c2]at eq;by_cases c3:lo+l<i/\i<=lo+k
     .rw[aw c3]at ep;rw[aw ⟨⋯,⋯⟩]at eq;exact s1 (i-1) (j-1) p q ⋯ ⋯ ⋯ ep eq
     .rw[ar c3]at ep;by_cases c4:lo+l<j/\j<=lo+k
      .rw[aw c4]at eq;have h5:=b1 (i-lo) p ⋯ (by rw[<-ep];congr 1;lia);have h6:=b2 (j-1-lo) q ⋯ ⋯ (by rw[<-eq];congr 1;lia);lia
      .rw[ar c4]at eq;exact s1 i j p q h1 h2 ⋯ ep eq
end
local macro_rules | `(tactic| walk_at "tim at")=>do
 let n:=Lean.mkIdent (Lean.mkPrivateNameCore `PySem.Builtin.List.W1All `PySem.Builtin.mergeAt);`(tactic| unfold $n:ident)
section
variable {kz:Ai->Int}{G:Ai->Prop}
def Pend (kz:Ai->Int):List (Nat×Nat)->List (List Ai)->Nat->Prop
 |[],[],_=>True
 |q::ps,r::rs,lo=>q.1=lo/\q.2=r.length/\1<=r.length/\SL kz r/\Pend kz ps rs (lo+r.length)
 |[],_::_,_=>False
 |_::_,[],_=>False
def pr (q:Nat×Nat×Nat):Nat×Nat:=(q.1,q.2.1)
theorem Pend.len:∀ {ps:List (Nat×Nat)} {rs:List (List Ai)} {lo:Nat},Pend kz ps rs lo->ps.length=rs.length
 |[],[],_,_=>rfl
 |_::ps,_::rs,_,h=>by simp[Pend.len h.2.2.2.2]
 |[],_::_,_,h=>h.elim
 |_::_,[],_,h=>h.elim
theorem Pend.size:∀ {ps:List (Nat×Nat)} {rs:List (List Ai)} {lo:Nat},Pend kz ps rs lo->rs.length<=rs.flatten.length
 |[],[],_,_=>by simp
 |_::ps,r::rs,_,h=>by have:=Pend.size h.2.2.2.2;have:=h.2.2.1;simp only[dW,au,aJ];lia
 |[],_::_,_,h=>h.elim
 |_::_,[],_,h=>h.elim
theorem Pend.push:∀ {ps:List (Nat×Nat)} {rs:List (List Ai)} {lo:Nat} {r:List Ai} {q:Nat×Nat},Pend kz ps rs lo->q.1=lo+rs.flatten.length->q.2=r.length->1<=r.length->SL kz r->Pend kz (ps++[q]) (rs++[r]) lo
 |[],[],_,_,_,_,a,b,c,d=>⟨by simpa using a,b,c,d,trivial⟩
 |_::ps,r'::rs,_,_,_,h,a,b,c,d=>⟨h.1,h.2.1,h.2.2.1,h.2.2.2.1,Pend.push h.2.2.2.2 (by simp only[dW,au]at a;lia) b c d⟩
 |[],_::_,_,_,_,h,_,_,_,_=>h.elim
 |_::_,[],_,_,_,h,_,_,_,_=>h.elim
end
section
variable {M:Model}{A:Ae}{E:Ag->Ab->Prop}{s:Ab}{G:Ai->Prop}{kz:Ai->Int}{kd:SortKind}
end
section
variable {M:Model}{A:Ae}{E:Ag->Ab->Prop}{s:Ab}{G:Ai->Prop}{kz:Ai->Int}{kd:SortKind}
structure Wt (kz:Ai->Int)(kd:SortKind)(a₀:Array Ai)(st:Af)(rs:List (List Ai))(S:List Ai):Prop where
 k:kindOf st=kd
 f:failedOf st=none
 a:(arrOf st).Perm a₀
 t:(arrOf st).toList=rs.flatten++S
 p:Pend kz ((pendingOf st).toList.map pr) rs 0
theorem Wt.size {a₀:Array Ai}{st:Af}{rs:List (List Ai)}{S:List Ai}(w:Wt kz kd a₀ st rs S):rs.flatten.length+S.length=a₀.size:=by rw[<-w.a.size_eq,<-bc,w.t,au]
theorem Wt.pl {a₀:Array Ai}{st:Af}{rs:List (List Ai)}{S:List Ai}(w:Wt kz kd a₀ st rs S):(pendingOf st).size=rs.length:=by have:=w.p.len;simpa using this
theorem Wt.ip {a₀:Array Ai}{st st':Af}{rs:List (List Ai)}{S:List Ai}{lo:Nat}(w:Wt kz kd a₀ st rs S)(hlo:lo=rs.flatten.length)(i:Ip lo st st'):∃S',Wt kz kd a₀ st' rs S'/\S'.length=S.length:=by
 subst hlo;have e:(arrOf st').toList=rs.flatten++(arrOf st').toList.drop rs.flatten.length:=by
  conv=>lhs;rw[<-gD rs.flatten.length (arrOf st').toList]
  congr 1;refine cH λj=>?_;rw[fM];split
  .rename_i h;rw[bL,i.low j h,<-bL,w.t,aU h]
  .rename_i h;rw[aP ⋯]
 refine⟨_,⟨i.k.trans w.k,i.f.trans w.f,i.a.trans w.a,e,by rw[i.p];exact w.p⟩,?_⟩;have z:=i.a.size_eq;have h1:=b7 List.length w.t;rw[au,bc]at h1;rw[dL,bc];lia
theorem xx5 {xs:Array Ai}{P S:List Ai}{n:Nat}(h:xs.toList=P++S)(sr:Srt kz xs P.length (P.length+n))(hn:n<=S.length):SL kz (S.take n):=by
 refine ba.mpr λi j hi D J=>?_;have F:=hi;have z:=D;rw[bC]at F z;refine sr (P.length+i) (P.length+j) _ _ ⋯ ⋯ ⋯ ?_ ?_
 .rw[<-bL,h,aG ⋯,iR,iE,aa]
 .rw[<-bL,h,aG ⋯,iR,iE,aa]
theorem Wt.push {a₀:Array Ai}{st:Af}{rs:List (List Ai)}{S:List Ai}{lo n:Nat}(w:Wt kz kd a₀ st rs S)(hlo:lo=rs.flatten.length)(h1:1<=n)(hn:n<=S.length)(sl:SL kz (S.take n)):Wt kz kd a₀ (setPending st ((pendingOf st).push (lo,n,0))) (rs++[S.take n]) (S.drop n):=by
 have z:(S.take n).length=n:=by rw[bC];lia
 refine⟨w.k,w.f,w.a,?_,?_⟩
 .show(arrOf st).toList=_;rw[w.t];simp
 .show Pend kz (((pendingOf st).push (lo,n,0)).toList.map pr) _ 0;rw[iF,aK];exact w.p.push (by rw[cW];exact hlo) z.symm ⋯ sl
end
section
variable {M:Model}{A:Ae}{E:Ag->Ab->Prop}{s:Ab}{G:Ai->Prop}{kz:Ai->Int}{kd:SortKind}
theorem xqz {n:Nat}(h:n<64):minRun' n n 0=n:=by
 cases n with
 |zero=>rfl
 |succ f=>rw[minRun'_succ,aw h]
theorem Zc {a₀:Array Ai}{st:Af}{Q:Unit->Af->Prop}(O:qk9 M A E s G kz kd)(u:Un kz G a₀)(hk:kindOf st=kd)(hf:failedOf st=none)(ha:arrOf st=a₀)(hp:pendingOf st=#[])(hn:a₀.size<64)
  (h:∀st',(arrOf st').Perm a₀->failedOf st'=none->SL kz (arrOf st').toList->Q () st'):wpS M A E s sortRuns' Q st:=by
 rw[sortRuns'_eq];dsimp only;refine bU (wpS_get ?_);rw[ha];have w0:Wt kz kd a₀ st [] a₀.toList:=⟨hk,hf,by rw[ha],by rw[ha];rfl,by rw[hp];trivial⟩;have emr:minRun' a₀.size a₀.size 0=a₀.size:=xqz hn;generalize minRun' a₀.size a₀.size 0=mr at emr;refine bU (wpS_mono (gh (I:=λx (c:Option Unit×Nat) st'=>c.1=none/\∃rs S,Wt kz kd a₀ st' rs S/\c.2=rs.flatten.length/\x<=c.2/\rs.length<=1/\(rs=[]\/S=[])) (Q:=λc st'=>c.1=none/\∃rs,Wt kz kd a₀ st' rs []/\rs.length<=1) ?step ?fin ⟨rfl,[],a₀.toList,w0,rfl,ak _,aQ _,.inl rfl⟩) ?post)
 case fin =>
  rintro⟨r,lo⟩ st' ⟨hr,rs,S,w,e,hx,r1,ro⟩;dsimp only at e hx hr;have z:=w.size;have:S=[]:=dt ⋯;subst this;exact⟨hr,rs,w,r1⟩
 case step =>
  rintro x ⟨r,lo⟩ st1 _ hx ⟨hr,rs,S,w,e,hx2,r1,ro⟩;dsimp only at e hx2 hr ⊢;subst hr;have z:=w.size;by_cases c:lo>=a₀.size
  .rw[aw c];have:S=[]:=dt ⋯;subst this;exact cS ⟨rfl,rs,w,r1⟩
  rw[ar c];have rs0:rs=[]:=by
   rcases ro with h|h
   .exact h
   .rw[h,da]at z;lia
  subst rs0;have lo0:lo=0:=e;refine bU (wur O w.k (u.perm w.a) ⋯ (by rw[w.a.size_eq];lia) λn st2 n1 n2 ip sr=>?_);obtain⟨S2,w2,z2⟩:=w.ip e ip;have sl2:SL kz (S2.take n):=xx5 w2.t (by rw[<-e];exact sr) ⋯;have nS:n<=S2.length:=by lia
  dsimp only;by_cases c2:n<mr
  case' pos =>
   rw[aw c2];refine bU (wpS_lift (eB ⟨rfl,?_⟩));refine bU (xkq O w2.k (u.perm w2.a) n1 (show n<=min (a₀.size-lo) mr by lia) (by rw[w2.a.size_eq];lia) sr λst3 ip3 sr3=>?_);obtain⟨S3,w3,z3⟩:=w2.ip e ip3;have sl3:SL kz (S3.take (min (a₀.size-lo) mr)):=xx5 w3.t (by rw[<-e];exact sr3) ⋯;have nS3:min (a₀.size-lo) mr<=S3.length:=by lia
   have n3:1<=min (a₀.size-lo) mr:=by lia
   rw[ar ⋯];have em:min (a₀.size-lo) mr=a₀.size:=by lia
   generalize min (a₀.size-lo) mr=m at sl3 nS3 n3 em ⊢;clear sl2 nS sr n2 c2 n1 sr3 ip3
  case' neg =>
   rw[ar c2];obtain⟨st3,rfl⟩:∃st3,st3=st2:=⟨_,rfl⟩;obtain⟨m,rfl⟩:∃m,m=n:=⟨_,rfl⟩;obtain⟨S3,rfl⟩:∃S3,S3=S2:=⟨_,rfl⟩;have w3:=w2;have sl3:=sl2;have nS3:=nS;have n3:=n1;have em:m=a₀.size:=by have:=w2.size;rw[gF,da]at this;lia
  all_goals
   refine bU (wpS_get ?_);have pl3:=w3.pl;split
   .rename_i hsz;have p0:pendingOf st3=#[]:=Array.eq_empty_of_size_eq_zero pl3;rw[p0]at hsz;cases hsz
   .refine bU (wpS_modify (cS ?_));have w6:=w3.push e n3 nS3 sl3;have z3':=w3.size;refine⟨rfl,_,_,w6,?_,?_,ak _,.inr ?_⟩
    .simp only[List.nil_append,dW,gF,bE,bC];lia
    .lia
    .refine dt ?_;rw[dL];rw[gF,da]at z3';lia
 case post =>
  rintro⟨r,lo⟩ st1 ⟨hr,rs,w,r1⟩;dsimp only at hr ⊢;subst hr;dsimp only;have z:=w.size;have zz:=w.p.size;refine bU (wpS_mono (gh (I:=λx (c:Option Unit×Unit) st'=>c=(none,())/\∃rs,Wt kz kd a₀ st' rs []/\rs.length<=1) (Q:=λc st'=>c=(none,())/\∃rs,Wt kz kd a₀ st' rs []/\rs.length<=1) ?step2 ?fin2 ⟨rfl,rs,w,r1⟩) ?post2)
  case fin2 =>
   rintro c st' ⟨rfl,rs,w,hor⟩;exact⟨rfl,rs,w,⋯⟩
  case step2 =>
   rintro x c st' _ hx ⟨rfl,rs,w,hor⟩
   try dsimp only
   have pl:=w.pl;refine bU (wpS_get ?_);by_cases c:(pendingOf st').size<=1
   .rw[aw c];exact cS ⟨rfl,rs,w,⋯⟩
   rw[ar c];exact absurd ⋯ c
  case post2 =>
   rintro c st' ⟨rfl,rs,w,hl⟩;dsimp only;refine cS (h st' w.a w.f ?_);rw[w.t,bE]
   match rs,hl,w.p with
   |[],_,_=>exact List.Pairwise.nil
   |[r],_,p =>
    simp only[dW,gF,bE];cases hp9:(pendingOf st').toList.map pr with
    |nil=>rw[hp9]at p;exact p.elim
    |cons a b=>rw[hp9]at p;exact p.2.2.2.1
end
end Tm
namespace L2
open PySem PySem.Spec PyProof.Rows
abbrev Key:=Sum Int Str
def qks:Key->Ag->Bool
 |.inl k,v=>Value.isInt k v
 |.inr x,v=>Value.isStrOf x v
def keyH (w:Ah):Key->Int
 |.inl k=>hashInt k
 |.inr x=>hashStr w x
theorem zt:∀ {k:Key} {v:Ag},qks k v=true->(∃i t,k=Sum.inl i/\v=Value.int i t)\/(∃x t,k=Sum.inr x/\v=Value.str x t)
 |.inl i,v,h=>by obtain⟨t,e⟩:=Value.isInt_shape (k:=i) (v:=v) h;exact .inl ⟨i,t,rfl,e⟩
 |.inr x,v,h=>by obtain⟨t,e⟩:=Value.isStrOf_shape (x:=x) (v:=v) h;exact .inr ⟨x,t,rfl,e⟩
theorem wus (i:Int)(t:Tok):qks (.inl i) (.int i t)=true:=by simp[qks,Value.isInt]
theorem wy7 (x:Str)(t:Tok):qks (.inr x) (.str x t)=true:=by simp[qks,Value.isStrOf]
theorem key_ll (a b:Int):decide ((Sum.inl a:Key)=Sum.inl b)=(a==b):=by
 by_cases e:a=b
 .subst e;simp
 .have h:¬ (Sum.inl a:Key)=Sum.inl b:=λq=>e (Sum.inl.inj q);rw[aT h];exact(cD.mpr e).symm
theorem key_rr (a b:Str):decide ((Sum.inr a:Key)=Sum.inr b)=decide (a=b):=by
 by_cases e:a=b
 .subst e;simp
 .have h:¬ (Sum.inr a:Key)=Sum.inr b:=λq=>e (Sum.inr.inj q);rw[aT h,aT e]
theorem key_lr (a:Int)(b:Str):decide ((Sum.inl a:Key)=Sum.inr b)=false:=aT (λq=>nomatch q)
theorem key_rl (a:Str)(b:Int):decide ((Sum.inr a:Key)=Sum.inl b)=false:=aT (λq=>nomatch q)
def vd (prog:Ac)(w:Ah):PySem.KeyKind prog w Key where
 is:=qks
 hash:=keyH w
 inj:=λv a b ha hb=>by
  rcases zt ha with⟨i,t,rfl,rfl⟩|⟨x,t,rfl,rfl⟩
  .rcases zt hb with⟨j,u,rfl,e⟩|⟨y,u,rfl,e⟩
   .injection e with e1 _;rw[e1]
   .exact nomatch e
  .rcases zt hb with⟨j,u,rfl,e⟩|⟨y,u,rfl,e⟩
   .exact nomatch e
   .injection e with e1 _;rw[e1]
 byValue:=λk v h=>by rcases zt h with⟨i,t,rfl,rfl⟩|⟨x,t,rfl,rfl⟩ <;> rfl
 pyHash:=λhv h=>by
  rcases zt hv with⟨i,t,rfl,rfl⟩|⟨x,t,rfl,rfl⟩
  .exact wpAny_pyHash_int h
  .exact wpAny_pyHash_str h
 eqBool:=λhu hv h=>by
  rcases zt hu with⟨i,t,rfl,rfl⟩|⟨x,t,rfl,rfl⟩
  .rcases zt hv with⟨j,u,rfl,rfl⟩|⟨y,u,rfl,rfl⟩
   .rw[key_ll]at h;exact wpAny_eqBool_int h
   .rw[key_lr]at h;exact SeqAt.EqAt.int_str i t y u _ _ _ _ h
  .rcases zt hv with⟨j,u,rfl,rfl⟩|⟨y,u,rfl,rfl⟩
   .rw[key_rl]at h;exact SeqAt.EqAt.str_int x t j u _ _ _ _ h
   .rw[key_rr]at h;exact wpAny_eqBool_str h
 «strs»:=λk x t v h=>by
  rcases zt h with⟨i,u,rfl,e⟩|⟨y,u,rfl,e⟩
  .exact nomatch e
  .injection e with e1 _
   subst e1;cases v <;> rfl
theorem wq8 (prog:Ac)(w:Ah)(i:Int)(t:Tok):(vd prog w).is (.inl i) (.int i t)=true:=wus i t
theorem wwf (prog:Ac)(w:Ah)(x:Str)(t:Tok):(vd prog w).is (.inr x) (.str x t)=true:=wy7 x t
inductive V where
 |non|bl (b:Bool)|int (i:Int)|str (x:Str)|byt (b:Array UInt8)|flt (b:UInt64)|ref (a:Aj)|ty (n:String)
 deriving DecidableEq
def RelV:V->Ag->Prop
 |.non,u=>u=Value.none
 |.bl b,u=>u=Value.bool b
 |.int i,u=>∃t,u=Value.int i t
 |.str x,u=>∃t,u=Value.str x t
 |.byt b,u=>∃t,u=Value.bytes b t
 |.flt b,u=>∃t,u=Value.float b t
 |.ref a,u=>u=Value.ref a
 |.ty n,u=>u=Value.type n
abbrev Vals:List V->List Ag->Prop:=Paired RelV
theorem Vals.length {xs:List V}{us:List Ag}(r:Vals xs us):xs.length=us.length:=b9 r
theorem Vals.get:∀ {xs:List V} {us:List Ag} {i:Nat} {x:V},Vals xs us->xs[i]?=some x->∃u,us[i]?=some u/\RelV x u
 |_,_,_,_,.nil,e=>by simp at e
 |_,_,0,_,.cons r _,e=>by simp at e;subst e;exact⟨_,rfl,r⟩
 |_,_,i+1,x,.cons _ t,e=>by obtain⟨u,h1,h2⟩:=Vals.get (i:=i) (x:=x) t (by simpa using e);exact⟨u,by simpa using h1,h2⟩
theorem Vals.append:∀ {xs ys:List V} {us ws:List Ag},Vals xs us->Vals ys ws->Vals (xs++ys) (us++ws)
 |_,_,_,_,.nil,s=>s
 |_,_,_,_,.cons r t,s=>.cons r (Vals.append t s)
theorem Vals.take:∀ {xs:List V} {us:List Ag} (n:Nat),Vals xs us->Vals (xs.take n) (us.take n)
 |_,_,0,_=>.nil
 |_,_,_+1,.nil=>.nil
 |_,_,n+1,.cons r t=>.cons r (Vals.take n t)
theorem Vals.drop:∀ {xs:List V} {us:List Ag} (n:Nat),Vals xs us->Vals (xs.drop n) (us.drop n)
 |_,_,0,r=>r
 |_,_,_+1,.nil=>.nil
 |_,_,n+1,.cons _ t=>Vals.drop n t
def RelO:Option V->Option Ag->Prop
 |some v,some u=>RelV v u
 |none,none=>True
 |_,_=>False
def KV {κ:Type}:List (κ×V)->List (κ×Ag)->Prop:=Paired λ(p:κ×V) (q:κ×Ag)=>p.1=q.1/\RelV p.2 q.2
def kV:Key->V
 |.inl i=>.int i
 |.inr x=>.str x
inductive HO where
 |lst (xs:List V)
 |tup (xs:List V)
 |dK (kvs:List (Key×V))|dT (kvs:List (List Key×V))
 |set (S:Int->Bool) (n:Nat)
 |ins (C dx:Aj) (fs:List (Str×V))
 |own (x:Aj)
 |xd (fs:List (Str×V))
 |met (f x:Aj)
 |rng (lo hi:Int)
 |frz (o:Obj) (u:HO)
 |tbl (ps:Array Ag)
 |ext (φ:Heap->Prop)
abbrev Hp:=Aj->Option HO
def upd (H:Hp)(a:Aj)(o:HO):Hp:=λb=>if b=a then some o else H b
theorem qu {H:Hp}{a:Aj}{o:HO}:upd H a o a=some o:=by unfold upd;rw[aw rfl]
theorem wx {H:Hp}{a b:Aj}{o:HO}(h:b≠a):upd H a o b=H b:=by unfold upd;rw[ar h]
theorem qu2 {H:Hp}{a:Aj}{o u:HO}:upd (upd H a o) a u=upd H a u:=by funext b;unfold upd;split <;> rfl
theorem ne_of {H:Hp}{a b:Aj}{o u:HO}(h:H a=some o)(h':H b=some u)(d:o≠u):a≠b:=by intro e;subst e;rw[h]at h';exact d (aq h')
theorem wj {H:Hp}{a b:Aj}{o:HO}(h:H a=some o)(h':H b=none):a≠b:=by intro e;subst e;rw[h]at h';cases h'
section
variable (P:Ac)(w:Ah)
def ObjOk (H:Hp)(h:Heap)(a:Aj):HO->Prop
 |.lst xs=>xs.length<=sizeLine/\∃(its:List Ag) (n:Nat),Vals xs its/\h.get? a=some { cls:=.type "list",data:=.seq its.toArray n }
 |.tup xs=>xs.length<=sizeLine/\∃its:List Ag,Vals xs its/\IsTup h a its.toArray
 |.dK kvs=>kvs.length<=sizeLine/\(a==sysModules)=false/\∃vs,KV kvs vs/\h.DictOf (vd P w) a vs
 |.dT kvs=>kvs.length<=sizeLine/\(a==sysModules)=false/\∃xs:List (List Key×Aj×Ag),
   Paired (λ(p:List Key×V) (q:List Key×Aj×Ag)=>p.1=q.1/\H q.2.1=some (.tup (p.1.map kV))/\RelV p.2 q.2.2) kvs xs /\
   ∃o es ep,h.get? a=some o/\o.ExactDict/\o.data=.dict es ep/\es.toList=xs.map (entryOfKey (tupleKind (vd P w)))/\(xs.map (·.1)).Nodup
 |.set S n=>h.SetOf (intKind P w) a S n
 |.ins C dx fs=>H dx=some (.own a)/\fs.length<=1000/\dx≠a/\h.get? a=some (W.instObj C dx) /\
   ∃mA,h.Ns1 dx mA/\(∀f,RelO (fs.lookup f) (mA f))/\PySem.Within mA (fs.map (·.1))
 |.own _=>∃o,h.get? a=some o
 |.xd fs=>∃mA,h.Ns1 a mA/\∀f,RelO (fs.lookup f) (mA f)
 |.rng lo hi=>∃t u v,h.get? a=some { cls:=.type "range",data:=.fields #[.int lo t,.int hi u,.int 1 v] }
 |.frz o u=>h.get? a=some o/\ObjOk H h a u
 |.tbl ps=>h.get? a=some { cls:=.none,data:=.fields ps }
 |.met f x=>h.get? a=some (W.methodObj (.ref f) (.ref x))
 |.ext φ=>φ h/\(∃o,h.get? a=some o)/\∀h1 h2:Heap,φ h1->(∀o,h1.get? a=some o->h2.get? a=some o)->φ h2
def HOk (H:Hp)(h:Heap):Prop:=∀a o,H a=some o->ObjOk P w H h a o
end
section
variable {P:Ac}{w:Ah}{H H':Hp}{h h':Heap}{a:Aj}{o:HO}
theorem ObjOk.lt (x:ObjOk P w H h a o):a<h.objs.size:=by
 cases o with
 |lst xs=>obtain⟨_,_,_,_,e⟩:=x;exact ao e
 |tup xs=>obtain⟨_,_,_,p⟩:=x;exact p.lt
 |dK kvs=>obtain⟨_,_,_,_,o,_,_,e,_⟩:=x;exact ao e
 |dT kvs=>obtain⟨_,_,_,_,o,_,_,e,_⟩:=x;exact ao e
 |set S n=>obtain⟨o,_,_,_,e,_⟩:=x;exact ao e
 |ins C dx fs=>obtain⟨_,_,_,e,_⟩:=x;exact ao e
 |own y=>obtain⟨_,e⟩:=x;exact ao e
 |xd fs=>obtain⟨_,⟨_,_,_,e,_⟩,_⟩:=x;exact ao e
 |rng lo hi=>obtain⟨_,_,_,e⟩:=x;exact ao e
 |frz ob u=>obtain⟨e,_⟩:=x;exact ao e
 |tbl ps=>exact ao (show h.get? a=some _ from x)
 |met f y=>exact ao (show h.get? a=some _ from x)
 |ext φ=>obtain⟨_,⟨_,e⟩,_⟩:=x;exact ao e
theorem Paired.mapP {α β:Type}{F G:α->β->Prop}:∀ {l₁:List α} {l₂:List β},Paired F l₁ l₂->(∀a b,F a b->G a b)->Paired G l₁ l₂
 |_,_,.nil,_=>.nil
 |_,_,.cons r t,f=>.cons (f _ _ r) (Paired.mapP t f)
theorem Paired.imp' {α β:Type}{F G:α->β->Prop}(f:∀a b,F a b->G a b){l₁:List α}{l₂:List β}(r:Paired F l₁ l₂):Paired G l₁ l₂:=Paired.mapP r f
theorem ObjOk.stay (x:ObjOk P w H h a o)(k:∀b u,(b=a\/H b=some (.own a))->h.get? b=some u->h'.get? b=some u)
  (ho:∀b,H b=some (.own a)->H' b=some (.own a)) (ht:∀b xs,H b=some (.tup xs)->H' b=some (.tup xs)):ObjOk P w H' h' a o:=by
 induction o with
 |lst xs=>obtain⟨z,J,n,r,e⟩:=x;exact⟨z,J,n,r,k _ _ (.inl rfl) e⟩
 |tup xs=>obtain⟨z,J,r,D,e,c⟩:=x;exact⟨z,J,r,D,k _ _ (.inl rfl) e,c⟩
 |dK kvs=>obtain⟨z,y,vs,r,D,es,ep,e,c⟩:=x;exact⟨z,y,vs,r,D,es,ep,k _ _ (.inl rfl) e,c⟩
 |dT kvs =>
  obtain⟨z,y,xs,r,D,es,ep,e,c⟩:=x;exact⟨z,y,xs,Paired.mapP r λp q z=>⟨z.1,ht _ _ z.2.1,z.2.2⟩,D,es,ep,k _ _ (.inl rfl) e,c⟩
 |set S n=>obtain⟨D,es,ep,t,e,c⟩:=x;exact⟨D,es,ep,t,k _ _ (.inl rfl) e,c⟩
 |ins C dx fs =>
  obtain⟨d,z,L,e,mA,⟨F,es,ep,U,c⟩,r⟩:=x;exact⟨ho _ d,z,L,k _ _ (.inl rfl) e,mA,⟨F,es,ep,k _ _ (.inr d) U,c⟩,r⟩
 |own y=>obtain⟨D,e⟩:=x;exact⟨D,k _ _ (.inl rfl) e⟩
 |xd fs=>obtain⟨mA,⟨F,es,ep,e,c⟩,r⟩:=x;exact⟨mA,⟨F,es,ep,k _ _ (.inl rfl) e,c⟩,r⟩
 |rng lo hi=>obtain⟨t,u,v,e⟩:=x;exact⟨t,u,v,k _ _ (.inl rfl) e⟩
 |frz D u ih=>obtain⟨e,q⟩:=x;exact⟨k _ _ (.inl rfl) e,ih q⟩
 |tbl ps =>
  have e:h.get? a=some { cls:=.none,data:=.fields ps }:=x;show h'.get? a=some { cls:=.none,data:=.fields ps };exact k a _ (.inl rfl) e
 |met f y =>
  have e:h.get? a=some (W.methodObj (.ref f) (.ref y)):=x;show h'.get? a=some (W.methodObj (.ref f) (.ref y));exact k a _ (.inl rfl) e
 |ext φ=>obtain⟨p,⟨o,e⟩,st⟩:=x;exact⟨st _ _ p λo q=>k _ _ (.inl rfl) q,⟨o,k _ _ (.inl rfl) e⟩,st⟩
theorem HOk.lt (x:HOk P w H h)(e:H a=some o):a<h.objs.size:=(x a o e).lt
theorem HOk.fresh (x:HOk P w H h)(e:h.objs.size<=a):H a=none:=by
 cases q:H a with
 |none=>rfl
 |some u=>exact absurd (aL (x.lt q) e) (bb _)
theorem HOk.kept (x:HOk P w H h)(k:∀b u,h.get? b=some u->h'.get? b=some u):HOk P w H h':=λa o e =>
 (x a o e).stay (λb u _ q=>k b u q) (λ_ q=>q) λ_ _ q=>q
theorem HOk.laid (x:HOk P w H h)(k:∀b u,h.get? b=some u->h'.get? b=some u)(hp:h.objs.size<=a)(new:ObjOk P w (upd H a o) h' a o):HOk P w (upd H a o) h':=λb u e=>by
 have hn:=x.fresh hp;by_cases hb:b=a
 .subst hb;rw[qu]at e;cases e;exact new
 .rw[wx hb]at e;exact(x b u e).stay (λc v _ q=>k c v q) (λc q=>by rw[wx (wj q hn)];exact q) λc xs q=>by rw[wx (wj q hn)];exact q
end
def Rd (H:Hp)(a:Aj)(u:HO):Prop:=H a=some u\/∃o,H a=some (.frz o u)
theorem Rd.ok {P:Ac}{w:Ah}{H:Hp}{h:Heap}{a:Aj}{u:HO}(r:Rd H a u)(x:HOk P w H h):ObjOk P w H h a u:=by
 rcases r with r|⟨o,r⟩
 .exact x a u r
 .obtain⟨_,q⟩:=x a _ r;exact q
def Mut:Option HO->Prop
 |some (.lst _)=>True
 |some (.dK _)=>True
 |some (.dT _)=>True
 |some (.set _ _)=>True
 |some (.ins _ _ _)=>True
 |some (.ext _)=>True
 |_=>False
section
variable {P:Ac}{w:Ah}{H:Hp}{h h':Heap}{x e:Aj}{o':HO}
theorem HOk.write (ok:HOk P w H h)(mu:Mut (H x))(he:e=x\/H e=some (.own x))(k:∀b u,b≠e->h.get? b=some u->h'.get? b=some u)(heo:∃u,h'.get? e=some u)
  (new:ObjOk P w (upd H x o') h' x o'):HOk P w (upd H x o') h':=λb u q=>by
 have nown:∀c y,H c=some (.own y)->c≠x:=λc y r z=>by subst z;rw[r]at mu;exact mu
 have ntup:∀c xs,H c=some (.tup xs)->c≠x:=λc xs r z=>by subst z;rw[r]at mu;exact mu
 by_cases hb:b=x
 .subst hb;rw[qu]at q;cases q;exact new
 .rw[wx hb]at q;by_cases hbe:b=e
  .have q':H b=some (.own x):=by
    rcases he with z|z
    .exact absurd (hbe.trans z) hb
    .rw[hbe];exact z
   rw[q]at q';cases q';obtain⟨v,F⟩:=heo;exact⟨v,by rw[hbe];exact F⟩
  .refine(ok b u q).stay (λc v D r=>k c v ?_ r) (λc r=>by rw[wx (nown c b r)];exact r) λc xs r=>by rw[wx (ntup c xs r)];exact r
   rcases D with rfl|D
   .exact hbe
   .rintro rfl;rcases he with z|z
    .exact nown c b D z
    .rw[D]at z;cases z;exact hb rfl
end
structure Un (fs ex:List Aj)(H H':Hp)(h h':Heap):Prop where
 keep:∀b o,h.get? b=some o->H b=none->b∉fs->b∉ex->h'.get? b=some o
 slot:∀b o,h.get? b=some o->H b=none->b∈fs->b∉ex->∃sl,h'.get? b=some { o with slots:=sl }
 free:∀b o,h.get? b=some o->H b=none->b∉ex->H' b=none
 there:∀b o,h.get? b=some o->b∉ex->∃o',h'.get? b=some o'
 tups:∀b xs,H b=some (.tup xs)->H' b=some (.tup xs)
 frzs:∀b o u,H b=some (.frz o u)->H' b=some (.frz o u)
 tbls:∀b ps,H b=some (.tbl ps)->∃more,H' b=some (.tbl (ps++more))
section
variable {fs fs' ex ex':List Aj}{H H1 H2:Hp}{h h1 h2 h':Heap}{a x e:Aj}{o:HO}
theorem Un.any (u:Un fs ex H H1 h h1){b:Aj}{ob:Obj}(q:h.get? b=some ob)(n:H b=none)(hx:b∉ex):∃sl,h1.get? b=some { ob with slots:=sl }:=by
 by_cases hb:b∈fs
 .exact u.slot b ob q n hb hx
 .exact⟨ob.slots,u.keep b ob q n hb hx⟩
theorem Un.kept (k:∀b u,h.get? b=some u->h'.get? b=some u):Un fs ex H H h h' :=
 ⟨λb ob q _ _ _=>k b ob q,λb ob q _ _ _=>⟨ob.slots,k b ob q⟩,λ_ _ _ n _=>n,λb ob q _=>⟨ob,k b ob q⟩,λ_ _ q=>q,λ_ _ _ q=>q,λ_ ps q=>⟨#[],by rw[q];simp⟩⟩
theorem Un.refl:Un fs ex H H h h:=Un.kept λ_ _ q=>q
theorem Un.laid (k:∀b u,h.get? b=some u->h'.get? b=some u)(hp:h.objs.size<=a)(hn:H a=none):Un fs ex H (upd H a o) h h' where
 keep:=λb u q _ _ _=>k b u q
 slot:=λb u q _ _ _=>⟨u.slots,k b u q⟩
 free:=λb u q n _=>by rw[wx (aB (aL (ao q) hp))];exact n
 there:=λb u q _=>⟨u,k b u q⟩
 tups:=λb xs q=>by rw[wx (wj q hn)];exact q
 frzs:=λb u xs q=>by rw[wx (wj q hn)];exact q
 tbls:=λb ps q=>⟨#[],by rw[wx (wj q hn),q];simp⟩
theorem Un.write (mu:Mut (H x))(he:e=x\/H e=some (.own x))(k:∀b u,b≠e->h.get? b=some u->h'.get? b=some u)(heo:∃u,h'.get? e=some u):Un fs ex H (upd H x o) h h':=by
 have F:∀b,H b=none->b≠x:=λb n z=>by subst z;rw[n]at mu;exact mu
 have J:∀b,H b=none->b≠e:=λb n z=>by
  subst z;rcases he with r|r
  .exact F b n r
  .rw[n]at r;cases r
 have D:∀b u,H b=some u->¬ Mut (some u)->b≠x:=λb u q nm z=>by subst z;rw[q]at mu;exact nm mu
 refine⟨λb u q n _ _=>k b u (J b n) q,λb u q n _ _=>⟨u.slots,k b u (J b n) q⟩,λb u q n _=>by rw[wx (F b n)];exact n,λb u q _=>?_,
  λb xs q=>by rw[wx (D b _ q λz=>z)];exact q,λb u xs q=>by rw[wx (D b _ q λz=>z)];exact q,λb ps q=>⟨#[],by rw[wx (D b _ q λz=>z),q];simp⟩⟩
 by_cases hbe:b=e
 .subst hbe;exact heo
 .exact⟨u,k b u hbe q⟩
end
def trk (h:Heap)(H:Hp):List Aj:=(List.range h.objs.size).filter λa=>(H a).isSome
def qv3 (h:Heap)(H:Hp):Heap:=W.hideAll h (trk h H)
theorem wyr (h:Heap)(H:Hp):(qv3 h H).objs.size=h.objs.size:=W.hideAll_size _ _
theorem xwp {h:Heap}{H:Hp}{b:Aj}{o:Obj}(e:h.get? b=some o)(n:H b=none):(qv3 h H).get? b=some o :=
 W.hideAll_get _ e λhm=>by have q:(H b).isSome=true:=(bo.mp hm).2;rw[n]at q;simp at q
theorem xj2 {h:Heap}{H:Hp}{b:Aj}{o:Obj}(e:(qv3 h H).get? b=some o):h.get? b=some o/\H b=none:=by
 have D:h.get? b=some o:=W.of_hideAll (trk h H) e;refine⟨D,?_⟩;cases q:H b with
 |none=>rfl
 |some x =>
  have F:b∈trk h H:=bo.mpr ⟨al.mpr (ao D),by simp[q]⟩;have z:(qv3 h H).get? b=none:=W.hideAll_none (trk h H) F;rw[z]at e;cases e
def xyj (g h:Heap)(L:Aj):List (Aj×Obj):=(List.range h.objs.size).filterMap λa=>if a=L\/(g.get? a).isSome=true then none else(h.get? a).map λo=>(a,o)
def rest (g h:Heap)(L d:Aj):List (Aj×Obj):=(xyj g h L).filter λp=>decide (p.1≠d)
structure Mod (K:Aa)(mg:Str->Option Ag)(base:Heap):Prop where
 kin:K.In base
 glob:base.Ns mainGlobals mg
 blt:∃mb,base.Ns builtinsNs mb/\∀x:Str,x ≠ "__name__" -> mb x=bootBuiltins x
 nolimit:base.NoLimit
structure Cx where
 prog:Ac
 w:Ah
 K:Aa
 mg:Str->Option Ag
 base:Heap
 A:Ae
 N:List Str
 s₀:Ab
 H₀:Hp
 env:Env
 outer:List Env
 stack:List Env
 ex:List Aj
 fn:Str->Bool
 calm:Bool
 pn:List (Aj×Obj)
 xe:Ag->Ab->Prop
def frs (l:List Env):List Aj:=l.filterMap (·.frame)
abbrev Cx.fs (X:Cx):List Aj:=frs X.outer
def Vis (sc:Scope)(x:Str):Prop:=sc.names.lookup x=some .local\/sc.names.lookup x=some .cell\/sc.names.lookup x=some .free
def Loc (sc:Scope)(x:Str):Prop:=sc.names.lookup x=some .local\/sc.names.lookup x=some .cell
def Look (env:Env)(h:Heap)(m:Str->Option Ag)(x:Str)(u:Ag):Prop :=
 (env.kindOf x=some .local/\m x=some u)\/((env.kindOf x=some .cell\/env.kindOf x=some .free)/\∃c,env.cells.lookup x=some c/\h.IsCell c (some u))
structure Cx.Ok (X:Cx):Prop where
 mod:Mod X.K X.mg X.base
 kind:X.env.scope.kind=.function
 glob:X.env.globals=mainGlobals
 blt:X.env.builtins=builtinsNs
 above:X.s₀.heap.objs.size<=X.env.locals
 inj:∀x y c,X.env.cells.lookup x=some c->X.env.cells.lookup y=some c->x=y
 has:∀x,(X.env.kindOf x=some .cell\/X.env.kindOf x=some .free)->∃c,X.env.cells.lookup x=some c
 cab:∀x c,X.fn x=true->X.env.cells.lookup x=some c->X.s₀.heap.objs.size<=c
 hd:X.calm=true->X.A.handled=none
 frames:X.A.frames=some X.stack
 stk:X.stack=X.outer\/(X.stack=X.env::X.outer/\X.env.frame=some X.env.locals)
 exf:∀b∈X.ex,b≠X.env.locals/\∀x c,X.env.cells.lookup x=some c->c≠b
 bs:∀b o,X.base.get? b=some o->X.s₀.heap.get? b=some o/\X.H₀ b=none
 bsz:X.base.objs.size<=X.s₀.heap.objs.size
 noex:∀b o,X.base.get? b=some o->b∉X.ex
 exfs:∀b∈X.ex,b∉X.fs
 funs:X.s₀.heap.FunFrames X.base X.outer
 frf:∀b∈X.fs,X.H₀ b=none
structure Inv (X:Cx)(pins:List (Aj×Obj))(σ:List (Option V))(H:Hp)(s:Ab):Prop where
 ok:X.Ok
 os:s.os=X.s₀.os
 bare:AllBare s.gens
 base:Un X.fs X.ex X.H₀ H X.s₀.heap s.heap
 loc:∃m,s.heap.Ns X.env.locals m/\∀(i:Nat) (x:Str) (v:V),X.N[i]?=some x->σ[i]?=some (some v)->Vis X.env.scope x->∃u,RelV v u/\Look X.env s.heap m x u
 cell:∀x c,X.env.cells.lookup x=some c->∃v,s.heap.IsCell c v
 free:H X.env.locals=none
 freeC:∀x c,X.env.cells.lookup x=some c->H c=none
 pin:∀p∈X.pn++pins,s.heap.get? p.1=some p.2/\H p.1=none/\p.1≠X.env.locals/\p.1∉X.fs/\∀v,p.2.data≠.cell v
 hok:HOk X.prog X.w H s.heap
 len:σ.length=X.N.length
section
variable {X:Cx}{pins:List (Aj×Obj)}{σ:List (Option V)}{H H':Hp}{s:Ab}{h':Heap}
theorem Cx.Ok.nofr (ok:X.Ok){b:Aj}{o:Obj}(e:X.base.get? b=some o):b∉X.fs:=λhb=>by have:=(ok.funs.mem hb).1;rw[e]at this;cases this
theorem Inv.bs (I:Inv X pins σ H s):∀b o,X.base.get? b=some o->s.heap.get? b=some o/\H b=none:=λb o e =>
 ⟨I.base.keep b o (I.ok.bs b o e).1 (I.ok.bs b o e).2 (I.ok.nofr e) (I.ok.noex b o e),I.base.free b o (I.ok.bs b o e).1 (I.ok.bs b o e).2 (I.ok.noex b o e)⟩
theorem Inv.bk (I:Inv X pins σ H s):∀b o,X.base.get? b=some o->s.heap.get? b=some o:=λb o e=>(I.bs b o e).1
theorem Inv.mod (I:Inv X pins σ H s):Mod X.K X.mg X.base:=I.ok.mod
theorem Inv.kIn (I:Inv X pins σ H s):X.K.In s.heap:=I.ok.mod.kin.keeps I.bk
theorem Inv.lt (I:Inv X pins σ H s):X.env.locals<s.heap.objs.size:=let ⟨_,hn,_⟩:=I.loc;hn.lt
theorem Inv.sz (I:Inv X pins σ H s):X.s₀.heap.objs.size<=s.heap.objs.size:=bI I.ok.above (bp I.lt)
theorem Inv.nofs (I:Inv X pins σ H s){a:Aj}(h:s.heap.objs.size<=a):a∉X.fs:=λhb=>by obtain⟨_,o,ho,_⟩:=I.ok.funs.mem hb;exact absurd (aL (ao ho) (bI I.sz h)) (bb _)
theorem Inv.cne (I:Inv X pins σ H s):∀x c,X.env.cells.lookup x=some c->c≠X.env.locals:=λx c e z=>by obtain⟨v,o,ho,hd⟩:=I.cell x c e;obtain⟨m,⟨o',es,ep,ho',hd',_⟩,_⟩:=I.loc;rw[z,ho']at ho;cases ho;rw[hd']at hd;cases hd
theorem Inv.funs (I:Inv X pins σ H s):s.heap.FunFrames X.base X.outer:=by
 have ab:∀(l:List Env),(∀b∈frs l,b∈X.fs)->X.s₀.heap.FunFrames X.base l->s.heap.FunFrames X.base l:=by
  intro l
  induction l with
  |nil=>intro _ _;trivial
  |cons env r ih =>
   intro hs hl;obtain⟨hk,⟨L,o,D,Z,W,hd⟩,U⟩:=hl;have J:L∈X.fs:=hs L (by unfold frs;rw[d6,D];exact dN);obtain⟨sl,e⟩:=I.base.slot L o W (I.ok.frf L J) J λz=>I.ok.exfs L z J;exact⟨hk,⟨L,_,D,Z,e,hd⟩,ih (λb F=>hs b (by unfold frs;rw[d6,D];exact bG _ F)) U⟩
 exact ab X.outer (λ_ F=>F) I.ok.funs
theorem Inv.stack (I:Inv X pins σ H s):s.heap.FunFrames X.base X.stack:=by
 rcases I.ok.stk with e|⟨e,hf⟩
 .rw[e];exact I.funs
 .rw[e];obtain⟨m,z,_⟩:=I.loc;refine .cons (by rw[I.ok.kind];decide) hf z ?_ I.funs;exact Heap.get?_none_of_le (bI I.ok.bsz I.ok.above)
theorem Inv.stkSub (I:Inv X pins σ H s):∀b∈frs X.stack,b∈X.env.locals::X.fs:=λb hb=>by
 rcases I.ok.stk with e|⟨e,hf⟩
 .rw[e]at hb;exact bG _ hb
 .rw[e]at hb;unfold frs at hb;rw[d6,hf]at hb;exact hb
theorem Inv.stkFree (I:Inv X pins σ H s):∀b∈frs X.stack,H b=none:=λb hb=>by
 rcases aO.mp (I.stkSub b hb) with e|hb
 .rw[e];exact I.free
 .obtain⟨_,o,ho,_⟩:=I.ok.funs.mem hb;exact I.base.free b o ho (I.ok.frf b hb) λz=>I.ok.exfs b z hb
theorem Inv.step {g':Array GenState}{t':Nat}{d':Drawn}{ch:List Aj}(I:Inv X pins σ H s)
  (hch:∀b∈ch,(b∈X.ex\/X.s₀.heap.objs.size<=b)/\b≠X.env.locals/\(∀x c,X.env.cells.lookup x=some c->c≠b)/\∀p∈X.pn++pins,p.1≠b)
  (keep:∀b o,b≠X.env.locals->b∉X.fs->b∉ch->s.heap.get? b=some o->H b=none->h'.get? b=some o)
  (slot:∀b o,b≠X.env.locals->b∈X.fs->b∉ch->s.heap.get? b=some o->H b=none->∃sl,h'.get? b=some { o with slots:=sl }) (free:∀b o,b∉ch->s.heap.get? b=some o->H b=none->H' b=none)
  (there:∀b o,b∉ch->s.heap.get? b=some o->∃o',h'.get? b=some o')
  (tups:∀b xs,H b=some (.tup xs)->H' b=some (.tup xs)) (frzs:∀b o u,H b=some (.frz o u)->H' b=some (.frz o u)) (tbls:∀b ps,H b=some (.tbl ps)->∃more,H' b=some (.tbl (ps++more)))
  (ns:∀m,s.heap.Ns X.env.locals m->h'.Ns X.env.locals m) (hok:HOk X.prog X.w H' h') (hg:AllBare g') :
  Inv X pins σ H' { s with heap:=h',gens:=g',drawn:=d',toks:=t' }:=by
 have ab:∀b o,X.s₀.heap.get? b=some o->b≠X.env.locals:=λb o e=>aB (aL (ao e) I.ok.above);have Z:∀b o,X.s₀.heap.get? b=some o->b∉X.ex->b∉ch:=λb o e D J=>by
  rcases(hch b J).1 with z|z
  .exact D z
  .exact absurd (aL (ao e) z) (bb _)
 have ad:∀x c,X.env.cells.lookup x=some c->∀v,s.heap.IsCell c v->h'.IsCell c v:=λx c e v ⟨o,L,hd⟩=>by
  have U:c∉ch:=λz=>(hch c z).2.2.1 x c e rfl;by_cases hc:c∈X.fs
  .obtain⟨sl,q⟩:=slot c o (I.cne x c e) hc U L (I.freeC x c e);exact⟨_,q,hd⟩
  .exact⟨o,keep c o (I.cne x c e) hc U L (I.freeC x c e),hd⟩
 refine⟨I.ok,I.os,hg,⟨λb o e n J D=>?_,λb o e n J D=>?_,λb o e n D=>?_,λb o e D=>?_,λb xs e=>tups b xs (I.base.tups b xs e),λb o xs e=>frzs b o xs (I.base.frzs b o xs e),λb ps e=>?_⟩,?_,λx c e=>?_,?_,λx c e=>?_,λp hp=>?_,hok,I.len⟩
 .exact keep b o (ab b o e) J (Z b o e D) (I.base.keep b o e n J D) (I.base.free b o e n D)
 .obtain⟨sl,F⟩:=I.base.slot b o e n J D;obtain⟨ah,W⟩:=slot b _ (ab b o e) J (Z b o e D) F (I.base.free b o e n D);exact⟨ah,W⟩
 .obtain⟨o',F⟩:=I.base.there b o e D;exact free b o' (Z b o e D) F (I.base.free b o e n D)
 .obtain⟨o',F⟩:=I.base.there b o e D;exact there b o' (Z b o e D) F
 .obtain⟨m1,F⟩:=I.base.tbls b ps e;obtain⟨m2,W⟩:=tbls b _ F;exact⟨m1++m2,by rw[W,Array.append_assoc]⟩
 .obtain⟨m,hn,hl⟩:=I.loc;refine⟨m,ns m hn,λi x v F W e3=>?_⟩;obtain⟨u,r,l⟩:=hl i x v F W e3;refine⟨u,r,?_⟩;rcases l with l|⟨k,c,e,z⟩
  .exact .inl l
  .exact .inr ⟨k,c,e,ad x c e _ z⟩
 .obtain⟨v,z⟩:=I.cell x c e;exact⟨v,ad x c e v z⟩
 .obtain⟨m,⟨o,_,_,L,_⟩,_⟩:=I.loc;exact free _ o (λz=>(hch _ z).2.1 rfl) L I.free
 .obtain⟨v,o,L,hd⟩:=I.cell x c e;exact free c o (λz=>(hch c z).2.2.1 x c e rfl) L (I.freeC x c e)
 .obtain⟨e,n,ne,nf,d⟩:=I.pin p hp;have U:p.1∉ch:=λz=>(hch p.1 z).2.2.2 p hp rfl;exact⟨keep p.1 p.2 ne nf U e n,free p.1 p.2 U e n,ne,nf,d⟩
theorem Inv.un {t':Nat}(I:Inv X pins σ H s)(u:Un X.fs [] H H' s.heap h')(hok:HOk X.prog X.w H' h'):Inv X pins σ H' { s with heap:=h',toks:=t' }:=by
 obtain⟨m,⟨o,es,ep,J,r⟩,_⟩:=id I.loc;obtain⟨sl,W⟩:=u.any J I.free (by simp);exact I.step (g':=s.gens) (d':=s.drawn) (ch:=[]) (λ_ z=>nomatch z) (λb o _ D _ e n=>u.keep b o e n D (by simp)) (λb o _ D _ e n=>u.slot b o e n D (by simp)) (λb o _ e n=>u.free b o e n (by simp)) (λb o _ e=>u.there b o e (by simp)) u.tups u.frzs u.tbls (λm' U=>by
  obtain⟨o',Z,ab,F,L⟩:=U
  rw[J]at F;cases F
  exact⟨_,Z,ab,W,L⟩) hok I.bare
theorem Inv.call {g':Array GenState}{t':Nat}{d':Drawn}{ch:List Aj}(I:Inv X pins σ H s)(u:Un (frs X.stack) ch H H' s.heap h')(hok:HOk X.prog X.w H' h')(hg:AllBare g')
  (hch:∀b∈ch,(b∈X.ex\/X.s₀.heap.objs.size<=b)/\b≠X.env.locals/\(∀x c,X.env.cells.lookup x=some c->c≠b)/\∀p∈X.pn++pins,p.1≠b) :
  Inv X pins σ H' { s with heap:=h',gens:=g',drawn:=d',toks:=t' }:=by
 obtain⟨m,⟨o,es,ep,L,r⟩,_⟩:=id I.loc;obtain⟨sl,F⟩:=u.any L I.free λz=>(hch _ z).2.1 rfl;exact I.step (ch:=ch) hch (λb o F Z D e n=>u.keep b o e n (λz=>(aO.mp (I.stkSub b z)).elim F Z) D) (λb o _ _ D e n=>u.any e n D) (λb o D e n=>u.free b o e n D) (λb o D e=>u.there b o e D) u.tups u.frzs u.tbls (λm' W=>by
  obtain⟨o',ab,ad,J,U⟩:=W
  rw[L]at J;cases J
  exact⟨_,ab,ad,F,U⟩) hok hg
theorem Inv.turned {t':Nat}{it:Aj}(I:Inv X pins σ H s)(k:∀b o,b≠it->s.heap.get? b=some o->h'.get? b=some o)(hn:H it=none)(hL:it≠X.env.locals)
  (h1:it∈X.ex\/X.s₀.heap.objs.size<=it) (h2:∀x c,X.env.cells.lookup x=some c->c≠it) (h3:∀p∈X.pn++pins,p.1≠it):Inv X pins σ H { s with heap:=h',toks:=t' }:=by
 have F:∀b u,H b=some u->b≠it:=λb u e z=>by rw[z,hn]at e;cases e
 refine I.step (g':=s.gens) (d':=s.drawn) (ch:=[it]) (λb U=>?_) (λb o _ _ D e _=>k b o (λz=>D (by simp[z])) e) (λb o _ _ D e _=>⟨o.slots,k b o (λz=>D (by simp[z])) e⟩) (λ_ _ _ _ n=>n)
  (λb o D e=>⟨o,k b o (λz=>D (by simp[z])) e⟩) (λ_ _ e=>e) (λ_ _ _ e=>e) (λb ps e=>⟨#[],by rw[e];simp⟩) (λm L=>?_) (λb u e=>?_) I.bare
 .have e:b=it:=by simpa using U
  subst e;exact⟨h1,hL,h2,h3⟩
 .obtain⟨o,es,ep,J,r⟩:=L;exact⟨o,es,ep,k _ o (dF hL) J,r⟩
 .refine(I.hok b u e).stay (λc v D q=>k c v ?_ q) (λ_ q=>q) λ_ _ q=>q;rcases D with z|z
  .rw[z];exact F b u e
  .exact F c _ z
theorem Inv.tok (I:Inv X pins σ H s)(t:Nat):Inv X pins σ H { s with toks:=t }:=I.un (h':=s.heap) (t':=t) Un.refl I.hok
theorem Inv.kept {t':Nat}(I:Inv X pins σ H s)(k:∀b u,s.heap.get? b=some u->h'.get? b=some u):Inv X pins σ H { s with heap:=h',toks:=t' }:=I.un (Un.kept k) (I.hok.kept k)
theorem Inv.laid {a:Aj}{o:HO}{t':Nat}(I:Inv X pins σ H s)(k:∀b u,s.heap.get? b=some u->h'.get? b=some u)(hp:s.heap.objs.size<=a)(new:ObjOk X.prog X.w (upd H a o) h' a o) :
  Inv X pins σ (upd H a o) { s with heap:=h',toks:=t' }:=I.un (Un.laid k hp (I.hok.fresh hp)) (I.hok.laid k hp new)
theorem Inv.write {x e:Aj}{o:HO}{t':Nat}(I:Inv X pins σ H s)(mu:Mut (H x))(he:e=x\/H e=some (.own x))(k:∀b u,b≠e->s.heap.get? b=some u->h'.get? b=some u)(heo:∃u,h'.get? e=some u)
  (new:ObjOk X.prog X.w (upd H x o) h' x o):Inv X pins σ (upd H x o) { s with heap:=h',toks:=t' }:=I.un (Un.write mu he k heo) (I.hok.write mu he k heo new)
theorem Inv.weak {σ':List (Option V)}(I:Inv X pins σ H s)(hl:σ'.length=σ.length)(w:∀(i:Nat) v,σ'[i]?=some (some v)->σ[i]?=some (some v)):Inv X pins σ' H s :=
 ⟨I.ok,I.os,I.bare,I.base,let ⟨m,hn,hl'⟩:=I.loc;⟨m,hn,λi x v e1 e2 e3=>hl' i x v e1 (w i v e2) e3⟩,I.cell,I.free,I.freeC,I.pin,I.hok,hl.trans I.len⟩
theorem Inv.pins_of {pins':List (Aj×Obj)}(I:Inv X pins σ H s)(h:∀p∈pins',s.heap.get? p.1=some p.2/\H p.1=none/\p.1≠X.env.locals/\p.1∉X.fs/\∀v,p.2.data≠.cell v):Inv X pins' σ H s :=
 ⟨I.ok,I.os,I.bare,I.base,I.loc,I.cell,I.free,I.freeC,λp hp=>(aW.mp hp).elim (λz=>I.pin p (cn _ z)) (h p),I.hok,I.len⟩
theorem wwz {N:List Str}(hN:N.Nodup){i j:Nat}{x:Str}(a:N[i]?=some x)(b:N[j]?=some x):i=j:=by obtain⟨h1,e1⟩:=am.mp a;obtain⟨h2,e2⟩:=am.mp b;exact(List.getElem_inj hN).mp (e1.trans e2.symm)
theorem _root_.aU0 (h:True:=by walk_at "iv"):True:=h
theorem wu9 {M:Model}{A:Ae}{E:Ag->Ab->Prop}{i:Nat}{x:Str}{v:V}{u:Ag}{Q:Unit->Ab->Prop}(I:Inv X pins σ H s)(hN:X.N.Nodup)(hi:X.N[i]?=some x)(hx:Loc X.env.scope x)(r:RelV v u)
  (h:∀s',Inv X pins (σ.set i (some v)) H s'->(∃a,Heap.SameBut a s.heap s'.heap/\(a=X.env.locals\/X.env.cells.lookup x=some a))->Q () s') (hf:autoParam (X.fn x=true\/X.env.scope.names.lookup x=some .local) aU0._auto_1):wpAny M A (storeName X.env x u) Q E s:=by
 obtain⟨m,hn,hl⟩:=id I.loc;have a4:(X.env.scope.kind==.class||(X.env.scope.kind==.module&&X.env.locals != X.env.globals))=false:=by rw[I.ok.kind];rfl
 have ap:i<σ.length:=by rw[I.len];exact(am.mp hi).1
 have ad:=I.cne;have ah:∀ {a:Aj} {h':Heap},(∃o,s.heap.get? a=some o/\H a=none)->Heap.SameBut a s.heap h'->HOk X.prog X.w H h':=λ{a h'} ha hs b ob e=>by
  obtain⟨_,_,as⟩:=ha;refine(I.hok b ob e).stay (λc U F q=>(hs.2 c ?_).trans q) (λ_ q=>q) λ_ _ q=>q;rintro rfl;rcases F with rfl|F
  .rw[as]at e;cases e
  .rw[as]at F;cases F
 rcases hx with hk|hk
 .refine wpAny_storeName_local hk hn (λh' a3 hs=>?_) a4;obtain⟨oL,_,_,a2,_⟩:=id hn;refine h _ ⟨I.ok,I.os,I.bare,⟨λb o e n L hx=>?_,λb o e n L hx=>?_,I.base.free,λb o e hx=>?_,I.base.tups,I.base.frzs,I.base.tbls⟩,⟨_,a3,λj y Z D J e3=>?_⟩,λy c e=>?_,I.free,I.freeC,λp hp=>?_,ah ⟨oL,a2,I.free⟩ hs,by simpa using I.len⟩ ⟨_,hs,.inl rfl⟩
  .exact(hs.2 b (aB (aL (ao e) I.ok.above))).trans (I.base.keep b o e n L hx)
  .obtain⟨sl,D⟩:=I.base.slot b o e n L hx;exact⟨sl,(hs.2 b (aB (aL (ao e) I.ok.above))).trans D⟩
  .obtain⟨o',D⟩:=I.base.there b o e hx;exact⟨o',(hs.2 b (aB (aL (ao e) I.ok.above))).trans D⟩
  .by_cases hj:j=i
   .subst hj;rw[hi]at D;cases D;rw[List.getElem?_set_self ap]at J;cases J;exact⟨u,r,.inl ⟨hk,by simp⟩⟩
   .rw[List.getElem?_set_ne (dF hj)]at J;obtain⟨u',r',q⟩:=hl j y Z D J e3;refine⟨u',r',?_⟩;rcases q with⟨k,e⟩|⟨k,c,e,z⟩
    .refine .inl ⟨k,?_⟩;have:y≠x:=λe=>hj (wwz hN D (e▸hi));simp[this,e]
    .exact .inr ⟨k,c,e,z.sameBut hs (ad y c e)⟩
  .obtain⟨U,z⟩:=I.cell y c e;exact⟨U,z.sameBut hs (ad y c e)⟩
  .obtain⟨e,n,W,nf,d⟩:=I.pin p hp;exact⟨(hs.2 p.1 W).trans e,n,W,nf,d⟩
 .have ab:X.fn x=true:=by
   rcases hf with z|z
   .exact z
   .rw[z]at hk;cases hk
  obtain⟨c,F⟩:=I.ok.has x (.inl hk);obtain⟨U,z⟩:=I.cell x c F;refine wpAny_storeName_cell I.ok.kind hk F z (λh' a0 hs=>?_);obtain⟨oc,an,a1⟩:=id z;refine h { s with heap:=h' } ⟨I.ok,I.os,I.bare,⟨λb o e n L hx=>?_,λb o e n L hx=>?_,I.base.free,λb o e hx=>?_,I.base.tups,I.base.frzs,I.base.tbls⟩,⟨m,hn.sameBut hs (dF (ad x c F)),λj y Z D J e3=>?_⟩,λy c' e=>?_,I.free,I.freeC,λp hp=>?_,ah ⟨oc,an,I.freeC x c F⟩ hs,by simpa using I.len⟩ ⟨c,hs,.inr F⟩
  .exact(hs.2 b (aB (aL (ao e) (I.ok.cab x c ab F)))).trans (I.base.keep b o e n L hx)
  .obtain⟨sl,D⟩:=I.base.slot b o e n L hx;exact⟨sl,(hs.2 b (aB (aL (ao e) (I.ok.cab x c ab F)))).trans D⟩
  .obtain⟨o',D⟩:=I.base.there b o e hx;exact⟨o',(hs.2 b (aB (aL (ao e) (I.ok.cab x c ab F)))).trans D⟩
  .by_cases hj:j=i
   .subst hj;rw[hi]at D;cases D;rw[List.getElem?_set_self ap]at J;cases J;exact⟨u,r,.inr ⟨.inl hk,c,F,a0⟩⟩
   .rw[List.getElem?_set_ne (dF hj)]at J;obtain⟨u',r',q⟩:=hl j y Z D J e3;refine⟨u',r',?_⟩;rcases q with q|⟨k,c',e,z'⟩
    .exact .inl q
    .refine .inr ⟨k,c',e,z'.sameBut hs ?_⟩;rintro rfl;exact hj (wwz hN D (I.ok.inj _ _ _ e F▸hi))
  .by_cases hcc:c'=c
   .subst hcc;exact⟨_,a0⟩
   .obtain⟨w2,z2⟩:=I.cell y c' e;exact⟨w2,z2.sameBut hs hcc⟩
  .obtain⟨e,n,W,nf,d⟩:=I.pin p hp;refine⟨(hs.2 p.1 ?_).trans e,n,W,nf,d⟩;intro q;rw[q,an]at e;have q':oc=p.2:=aq e;exact d U (by rw[<-q'];exact a1)
theorem yr {M:Model}{A:Ae}{E:Ag->Ab->Prop}{i:Nat}{x:Str}{v:V}{u:Ag}{Q:Unit->Ab->Prop}(I:Inv X pins σ H s)(hN:X.N.Nodup)(hi:X.N[i]?=some x)(hx:Loc X.env.scope x)(r:RelV v u)
  (h:∀s',Inv X pins (σ.set i (some v)) H s'->Q () s') (hf:autoParam (X.fn x=true\/X.env.scope.names.lookup x=some .local) aU0._auto_1):wpAny M A (storeName X.env x u) Q E s :=
 wu9 I hN hi hx r (λs' I' _=>h s' I') hf
theorem Inv.call' {s':Ab}{ch:List Aj}(I:Inv X pins σ H s)(ho:s'.os=s.os)(u:Un (frs X.stack) ch H H' s.heap s'.heap)(hok:HOk X.prog X.w H' s'.heap)(hg:AllBare s'.gens)
  (hch:∀b∈ch,(b∈X.ex\/X.s₀.heap.objs.size<=b)/\b≠X.env.locals/\(∀x c,X.env.cells.lookup x=some c->c≠b)/\∀p∈X.pn++pins,p.1≠b):Inv X pins σ H' s':=by
 obtain⟨h',g',d',t',o'⟩:=s';have e:o'=s.os:=ho;subst e;exact I.call (g':=g') (t':=t') (d':=d') u hok hg hch
end
abbrev XK:=Ag->Option Aj->Hp->Prop
abbrev St:=List (Option V)
abbrev VK:=V->Hp->Prop
abbrev TE:=St->Hp->VK->Prop
abbrev TT:=St->Hp->(Bool->Hp->Prop)->Prop
abbrev TA:=St->Hp->(List V->Hp->Prop)->Prop
structure Ends where
 nx:St->Hp->Prop
 rt:VK
 bk:St->Hp->Prop:=λ_ _=>False
 ct:St->Hp->Prop:=λ_ _=>False
abbrev TS:=Ends->St->Hp->Prop
def EP (X:Cx)(pins:List (Aj×Obj))(σ:St)(Q:VK)(u:Ag)(s':Ab):Prop:=∃v H',Inv X pins σ H' s'/\RelV v u/\Q v H'
def TP (X:Cx)(pins:List (Aj×Obj))(σ:St)(Q:Bool->Hp->Prop)(b:Bool)(s':Ab):Prop:=∃H',Inv X pins σ H' s'/\Q b H'
def AP (X:Cx)(pins:List (Aj×Obj))(σ:St)(Q:List V->Hp->Prop)(us:List Ag)(s':Ab):Prop:=∃vs H',Inv X pins σ H' s'/\Vals vs us/\Q vs H'
def SP (X:Cx)(pins:List (Aj×Obj))(D:Ends)(f:Flow)(s':Ab):Prop :=
 match f with
 |.next=>∃σ' H',Inv X pins σ' H' s'/\D.nx σ' H'
 |.brk=>∃σ' H',Inv X pins σ' H' s'/\D.bk σ' H'
 |.cont=>∃σ' H',Inv X pins σ' H' s'/\D.ct σ' H'
 |.ret u=>∃v σ' H',Inv X pins σ' H' s'/\RelV v u/\D.rt v H'
def PE (X:Cx)(e:Expr)(t:TE):Prop :=
 ∀(pins:List (Aj×Obj)) (s:Ab) (σ:St) (H:Hp) (Q:VK),Inv X pins σ H s->t σ H Q->wpAny (model X.prog X.w) X.A (eval e X.env) (EP X pins σ Q) X.xe s
def PT (X:Cx)(e:Expr)(t:TT):Prop :=
 ∀(pins:List (Aj×Obj)) (s:Ab) (σ:St) (H:Hp) (Q:Bool->Hp->Prop),Inv X pins σ H s->t σ H Q->wpAny (model X.prog X.w) X.A (isTrue e X.env (eval e X.env)) (TP X pins σ Q) X.xe s
def PW (X:Cx)(e:Expr)(t:TT):Prop :=
 ∀(whole:Sem Ag) (pins:List (Aj×Obj)) (s:Ab) (σ:St) (H:Hp) (Q:Bool->Hp->Prop),Inv X pins σ H s->t σ H Q->wpAny (model X.prog X.w) X.A (isTrue e X.env whole) (TP X pins σ Q) X.xe s
theorem PW.pt {X:Cx}{e:Expr}{t:TT}(h:PW X e t):PT X e t:=h _
def PA (X:Cx)(es:List Expr)(t:TA):Prop :=
 ∀(pos:Pos) (pins:List (Aj×Obj)) (s:Ab) (σ:St) (H:Hp) (Q:List V->Hp->Prop),Inv X pins σ H s->t σ H Q->wpAny (model X.prog X.w) X.A (spliced (backTo pos (starEach es X.env))) (AP X pins σ Q) X.xe s
def PS (X:Cx)(st:Stmt)(t:TS):Prop :=
 ∀(pins:List (Aj×Obj)) (s:Ab) (σ:St) (H:Hp) (D:Ends),Inv X pins σ H s->t D σ H->wpAny (model X.prog X.w) X.A (exec st X.env) (SP X pins D) X.xe s
def PSs (X:Cx)(st:List Stmt)(t:TS):Prop :=
 ∀(pins:List (Aj×Obj)) (s:Ab) (σ:St) (H:Hp) (D:Ends),Inv X pins σ H s->t D σ H->wpAny (model X.prog X.w) X.A (execs st X.env) (SP X pins D) X.xe s
theorem thn {α:Type}{t:Sem α}{Q Q':α->Ab->Prop}{M:Model}{A:Ae}{E:Ag->Ab->Prop}{s:Ab}(h:wpAny M A t Q E s)(hQ:∀a s,Q a s->Q' a s):wpAny M A t Q' E s:=aY h hQ λ_ _ x=>x
section
variable {X:Cx}
def yd (i:Nat):TE:=λσ H Q=>∃v,σ[i]?=some (some v)/\Q v H
def tC (v:V):TE:=λ_ H Q=>Q v H
theorem _root_.aU1 (h:True:=by decide):True:=h
theorem pe_var {i:Nat}{x:Str}{pos:Pos}(hN:X.N[i]?=some x)(hv:Vis X.env.scope x)(hd:autoParam ((x==("__debug__" : Str))=false) aU1._auto_1)(hcd:autoParam ((x==("__classdict__" : Str))=false) aU1._auto_1):PE X (.Name x pos) (yd i):=by
 intro pins s σ H Q I h;obtain⟨v,e,h⟩:=h;obtain⟨m,L,W⟩:=I.loc;obtain⟨u,r,l⟩:=W i x v hN e hv;have D:EP X pins σ Q u s:=⟨v,H,I,r,h⟩;rcases l with⟨z,U⟩|⟨z,c,J,F⟩
 .exact wpAny_Name (wpAny_loadName_local I.ok.kind z L U D) hd
 .rcases z with z|z
  .exact wpAny_Name (wpAny_loadName_cell I.ok.kind z J F D) hd
  .exact wpAny_Name (wpAny_loadName_free I.ok.kind z J F D hcd) hd
theorem qv {i j pos}:PE X (.Constant (.int i) j pos) (tC (.int i)):=λ_ _ _ H _ I h=>wpAny_Constant_int ⟨.int i,H,I.tok _,⟨_,rfl⟩,h⟩
theorem xxy {b j pos}:PE X (.Constant (.bool b) j pos) (tC (.bl b)):=λ_ _ _ H _ I h=>Constant_bool ⟨.bl b,H,I,rfl,h⟩
theorem qxu {j pos}:PE X (.Constant .none j pos) (tC .non):=λ_ _ _ H _ I h=>Constant_none ⟨.non,H,I,rfl,h⟩
theorem Zt {x j pos}:PE X (.Constant (.str x) j pos) (tC (.str x)):=λ_ _ _ H _ I h=>Calls.Constant_str ⟨.str x,H,I.tok _,⟨_,rfl⟩,h⟩
def Gl (X:Cx)(x:Str):Prop:=X.env.kindOf x=some .globalImplicit
theorem qwf {E:Ag->Ab->Prop}{pins:List (Aj×Obj)}{s:Ab}{σ:St}{H:Hp}{x:Str}{u:Ag}{pos:Pos}{Q:Ag->Ab->Prop}(I:Inv X pins σ H s)(hg:Gl X x)(hm:X.mg x=some u)(h:Q u s)
  (hd:autoParam ((x==("__debug__" : Str))=false) aU1._auto_1):wpAny (model X.prog X.w) X.A (eval (.Name x pos) X.env) Q E s :=
 Calls.Name_function_global I.ok.kind hg (Calls.loadGlobal_global (by rw[I.ok.glob];exact I.mod.glob.keeps I.bk) hm h) hd
theorem _root_.aU2 (h:True:= by decide):True:=h
theorem j3 {E:Ag->Ab->Prop}{pins:List (Aj×Obj)}{s:Ab}{σ:St}{H:Hp}{x:Str}{u:Ag}{pos:Pos}{Q:Ag->Ab->Prop}(I:Inv X pins σ H s)(hg:Gl X x)(hm:X.mg x=none)(hv:bootBuiltins x=some u)(h:Q u s)
  (hn:autoParam (x ≠ "__name__") aU2._auto_1) (hd:autoParam ((x==("__debug__" : Str))=false) aU1._auto_1):wpAny (model X.prog X.w) X.A (eval (.Name x pos) X.env) Q E s:=by
 obtain⟨mb,h1,h2⟩:=I.mod.blt;exact Calls.Name_function_global I.ok.kind hg (Calls.loadGlobal_builtin (by rw[I.ok.glob];exact I.mod.glob.keeps I.bk) hm (by rw[I.ok.blt];exact h1.keeps I.bk) ((h2 x hn).trans hv) h) hd
theorem Zx {x:Str}{v:V}{u:Ag}{pos:Pos}(hg:Gl X x)(hm:X.mg x=some u)(r:RelV v u)(hd:autoParam ((x==("__debug__" : Str))=false) aU1._auto_1):PE X (.Name x pos) (tC v) :=
 λ_ _ _ H _ I h=>qwf I hg hm ⟨v,H,I,r,h⟩ hd
theorem qym {x:Str}{v:V}{u:Ag}{pos:Pos}(hg:Gl X x)(hm:X.mg x=none)(hv:bootBuiltins x=some u)(r:RelV v u)(hn:autoParam (x ≠ "__name__") aU2._auto_1)(hd:autoParam ((x==("__debug__" : Str))=false) aU1._auto_1):PE X (.Name x pos) (tC v) :=
 λ_ _ _ H _ I h=>j3 I hg hm hv ⟨v,H,I,r,h⟩ hn hd
variable {a b:Expr}{ta tb:TE}{pos:Pos}
def PC (X:Cx)(op:CmpOp)(a b:Expr)(t:TE):Prop :=
 ∀(pins:List (Aj×Obj)) (s:Ab) (σ:St) (H:Hp) (Q:VK),Inv X pins σ H s->t σ H Q ->
  wpAny (model X.prog X.w) X.A (eval a X.env) (λv s₁=>wpAny (model X.prog X.w) X.A (eval b X.env) (λu s₂=>wpAny (model X.prog X.w) X.A (compareOp op v u) (EP X pins σ Q) X.xe s₂) X.xe s₁) X.xe s
def tB (t:TE):TT:=λσ H Q=>t σ H λx H1=>∃c,x=.bl c/\Q c H1
theorem pt_cmp {op:CmpOp}{t:TE}(h:PC X op a b t)(h1:behindInMarks op b=false:=by first | exact nobehind _ ⋯ ⋯ | rfl):PT X (.Compare a [op] [b] pos) (tB t):=by intro pins s σ H Q I z;refine wpAny_isTrue_Compare1 (thn (h pins s σ H _ I z) λv D h1=>thn h1 λu s2 h2=>thn h2 λc s3 ⟨x,H1,I1,r1,q1⟩=>?_) h1;obtain⟨d,rfl,q⟩:=q1;cases r1;exact cX ⟨H1,I1,q⟩
theorem _root_.aU3 (h:True:=by intro _;rfl):True:=h
theorem wzj {e:Expr}{t:TE}(h:PE X e t)(he:autoParam (∀whole,isTrue e X.env whole=(do let v <-whole;standAt e.pos;holding [v] (truthy v))) aU3._auto_1):PT X e (tB t):=by intro pins s σ H Q I z;refine isTrue_plain (thn (h pins s σ H _ I z) λv s1 ⟨x,H1,I1,r1,q1⟩=>?_) (he _);obtain⟨d,rfl,q⟩:=q1;cases r1;exact cX ⟨H1,I1,q⟩
variable {tA tB':TT}{rest:List Expr}
def tAnd (t u:TT):TT:=λσ H Q=>t σ H λc H1=>if c=true then u σ H1 Q else Q false H1
def tOr (t u:TT):TT:=λσ H Q=>t σ H λc H1=>if c=true then Q true H1 else u σ H1 Q
def tNot (t:TT):TT:=λσ H Q=>t σ H λc H1=>Q (!c) H1
theorem Qt (ha:PT X a tA):PW X (.BoolOp .And [a] pos) tA:=by
 intro z pins s σ H Q I h;refine isTrue_and (thn (ha pins s σ H Q I h) λc D e=>?_);cases c with
 |true=>exact isTrue_and_nil e
 |false=>exact e
theorem qqk (ha:PT X a tA):PW X (.BoolOp .Or [a] pos) tA:=by
 intro z pins s σ H Q I h;refine isTrue_or (thn (ha pins s σ H Q I h) λc D e=>?_);cases c with
 |false=>exact isTrue_or_nil e
 |true=>exact e
theorem Zs (ha:PT X a tA)(hb:PW X (.BoolOp .And (b::rest) pos) tB'):PW X (.BoolOp .And (a::b::rest) pos) (tAnd tA tB'):=by
 intro z pins s σ H Q I h;refine isTrue_and (thn (ha pins s σ H _ I h) λc s1 ⟨H1,I1,q1⟩=>?_);cases c with
 |true=>exact hb z pins s1 σ H1 Q I1 q1
 |false=>exact⟨H1,I1,q1⟩
theorem qjk (ha:PT X a tA)(hb:PW X (.BoolOp .Or (b::rest) pos) tB'):PW X (.BoolOp .Or (a::b::rest) pos) (tOr tA tB'):=by
 intro z pins s σ H Q I h;refine isTrue_or (thn (ha pins s σ H _ I h) λc s1 ⟨H1,I1,q1⟩=>?_);cases c with
 |true=>exact⟨H1,I1,q1⟩
 |false=>exact hb z pins s1 σ H1 Q I1 q1
theorem wvg (ha:PT X a tA):PT X (.UnaryOp .Not a pos) (tNot tA):=by intro pins s σ H Q I h;exact isTrue_not (ha pins s σ H (λc H1=>Q (!c) H1) I h)
def tAndV (ta tb:TE):TE:=λσ H Q=>ta σ H λx H1=>∃c,x=.bl c/\if c=true then tb σ H1 Q else Q (.bl false) H1
def tNotV (ta:TE):TE:=λσ H Q=>ta σ H λx H1=>∃c,x=.bl c/\Q (.bl (!c)) H1
theorem qxr {op}{t:TE}(h:PE X a t):PE X (.BoolOp op [a] pos) t:=λpins s σ H Q I hw=>BoolOp_one (h pins s σ H Q I hw)
theorem qzz (ha:PE X a ta)(hb:PE X (.BoolOp .And (b::rest) pos) tb):PE X (.BoolOp .And (a::b::rest) pos) (tAndV ta tb):=by
 intro pins s σ H Q I h;refine BoolOp_and (thn (ha pins s σ H _ I h) λv s1 ⟨x,H1,I1,r1,z⟩=>?_);obtain⟨c,rfl,z⟩:=z;cases r1;refine cX ?_;cases c with
 |true=>exact hb pins s1 σ H1 Q I1 z
 |false=>exact⟨.bl false,H1,I1,rfl,z⟩
theorem pe_not (ha:PE X a ta):PE X (.UnaryOp .Not a pos) (tNotV ta):=by intro pins s σ H Q I h;refine UnaryOp_ (thn (ha pins s σ H _ I h) λv s1 ⟨x,H1,I1,r1,z⟩=>?_);obtain⟨c,rfl,z⟩:=z;cases r1;exact not_of (cX ⟨.bl (!c),H1,I1,rfl,z⟩)
def tIf (t:TT)(ta tb:TE):TE:=λσ H Q=>t σ H λc H1=>if c=true then ta σ H1 Q else tb σ H1 Q
theorem qvx {c:Expr}(hc:PT X c tA)(ha:PE X a ta)(hb:PE X b tb):PE X (.IfExp c a b pos) (tIf tA ta tb):=by
 intro pins s σ H Q I h;refine wpAny_IfExp (thn (hc pins s σ H _ I h) λd s1 ⟨H1,I1,q1⟩=>?_);cases d with
 |true=>exact ha pins s1 σ H1 Q I1 q1
 |false=>exact hb pins s1 σ H1 Q I1 q1
end
def SqL (K:Aa)(H:Hp)(a:Aj)(xs:List V):Prop :=
 Rd H a (.lst xs) \/
  ∃(o:Obj) (its:Array Ag) (n:Nat),K.lookup a=some o/\o.cls=.type "list" /\ o.dict=none/\o.data=.seq its n/\its.size<=sizeLine/\Vals xs its.toList
def SqT (K:Aa)(H:Hp)(a:Aj)(xs:List V):Prop :=
 Rd H a (.tup xs) \/
  ∃(o:Obj) (its:Array Ag) (n:Nat),K.lookup a=some o/\o.cls=.type "tuple" /\ o.data=.seq its n/\its.size<=sizeLine/\Vals xs its.toList
def absV:Ag->Option V
 |.none=>some .non
 |.bool b=>some (.bl b)
 |.int i _=>some (.int i)
 |.str x _=>some (.str x)
 |.bytes b _=>some (.byt b)
 |.float b _=>some (.flt b)
 |.ref a=>some (.ref a)
 |.type n=>some (.ty n)
 |_=>none
theorem RelV.abs {x:V}{u:Ag}(r:RelV x u):absV u=some x:=by
 cases x with
 |non=>cases r;rfl
 |bl _=>cases r;rfl
 |int _=>obtain⟨t,rfl⟩:=r;rfl
 |str _=>obtain⟨t,rfl⟩:=r;rfl
 |byt _=>obtain⟨t,rfl⟩:=r;rfl
 |flt _=>obtain⟨t,rfl⟩:=r;rfl
 |ref _=>cases r;rfl
 |ty _=>cases r;rfl
theorem RelV.inj {x y:V}{u:Ag}(r:RelV x u)(q:RelV y u):x=y:=aq (r.abs.symm.trans q.abs)
theorem Vals.inj:∀ {xs ys:List V} {us:List Ag},Vals xs us->Vals ys us->xs=ys
 |_,_,_,.nil,.nil=>rfl
 |_,_,_,.cons r t,.cons r' t'=>by rw[r.inj r',Vals.inj t t']
section
variable {X:Cx}{pins:List (Aj×Obj)}{σ:St}{H:Hp}{s:Ab}{a:Aj}{xs ys:List V}
theorem SqL.of {K:Aa}(h:H a=some (.lst xs)):SqL K H a xs:=.inl (.inl h)
theorem SqT.of {K:Aa}(h:H a=some (.tup xs)):SqT K H a xs:=.inl (.inl h)
theorem Inv.list (I:Inv X pins σ H s)(h:SqL X.K H a xs):∃its:List Ag,Vals xs its/\PlainL s.heap a its.toArray/\xs.length<=sizeLine:=by
 rcases h with h|⟨o,its,n,hk,hc,hd,hs,hz,r⟩
 .obtain⟨z,its,n,r,e⟩:=h.ok I.hok;exact⟨its,r,⟨_,n,e,rfl,rfl,rfl⟩,z⟩
 .refine⟨its.toList,r,⟨o,n,I.kIn a o hk,hc,hd,by simpa using hs⟩,?_⟩;have e:=r.length;simp only[bc]at e;lia
theorem Inv.tuple (I:Inv X pins σ H s)(h:SqT X.K H a xs):∃its:List Ag,Vals xs its/\IsTup s.heap a its.toArray/\xs.length<=sizeLine:=by
 rcases h with h|⟨o,its,n,hk,hc,hs,hz,r⟩
 .obtain⟨z,its,r,p⟩:=h.ok I.hok;exact⟨its,r,p,z⟩
 .refine⟨its.toList,r,⟨o,I.kIn a o hk,hc,n,by simpa using hs⟩,?_⟩;have e:=r.length;simp only[bc]at e;lia
theorem Inv.list_inj (I:Inv X pins σ H s)(h:SqL X.K H a xs)(h':SqL X.K H a ys):xs=ys:=by
 obtain⟨L,r,⟨o,n,e,_,_,d⟩,_⟩:=I.list h;obtain⟨J,F,⟨o',U,z,_,_,D⟩,_⟩:=I.list h';rw[e]at z;cases z;rw[d]at D;injection D with d1 _;have:L=J:=by simpa using b7 Array.toList d1
 subst this;exact r.inj F
theorem Inv.tuple_inj (I:Inv X pins σ H s)(h:SqT X.K H a xs)(h':SqT X.K H a ys):xs=ys:=by
 obtain⟨L,r,⟨o,e,_,n,d⟩,_⟩:=I.tuple h;obtain⟨J,F,⟨o',z,_,U,D⟩,_⟩:=I.tuple h';rw[e]at z;cases z;rw[d]at D;injection D with d1 _;have:L=J:=by simpa using b7 Array.toList d1
 subst this;exact r.inj F
end
abbrev Cx.wish (X:Cx)(E:Ag->Ab->Prop):Cx:={ X with xe:=E }
section
variable {X:Cx}{pins:List (Aj×Obj)}{σ:St}{H:Hp}{s:Ab}{E:Ag->Ab->Prop}
end
section
variable {X:Cx}{st:Stmt}{rest:List Stmt}{t u:TS}{e:Expr}{te:TE}{pos:Pos}
def tNext:TS:=λD σ H=>D.nx σ H
def tSeq (t u:TS):TS:=λD σ H=>t { D with nx:=u D } σ H
theorem xn:PSs X [] tNext:=λ_ _ σ H _ I h=>gU ⟨σ,H,I,h⟩
theorem qj (h1:PS X st t)(h2:PSs X rest u):PSs X (st::rest) (tSeq t u):=by
 intro pins s σ H D I h;refine iS (thn (h1 pins s σ H { D with nx:=u D } I h) λf F q=>?_);cases f with
 |next =>
  obtain⟨z,H',J,q⟩:=q;exact h2 pins F z H' D J q
 |ret v=>exact q
 |brk=>exact q
 |cont=>exact q
theorem qr (h1:PS X st t):PSs X [st] t:=by
 intro pins s σ H D I h;refine iS (thn (h1 pins s σ H D I h) λf s1 q=>?_);cases f with
 |next=>exact gU q
 |ret v=>exact q
 |brk=>exact q
 |cont=>exact q
theorem Inv.quiet {pins:List (Aj×Obj)}{σ:St}{H:Hp}{s:Ab}(I:Inv X pins σ H s):interactive X.env=false:=by simp[interactive,I.ok.kind]
def tDrop (te:TE):TS:=λD σ H=>te σ H λ_ H1=>D.nx σ H1
theorem _root_.aU4 (h:True:=by rfl):True:=h
theorem vg (he:PE X e te)(hs:autoParam (swapsWith e none pos.line X.env=pure false) aU4._auto_1):PS X (.Expr e pos) (tDrop te):=by intro pins s σ H D I h;exact wpAny_Expr_any (thn (he pins s σ H _ I h) λv s1 ⟨x,H1,I1,r1,q1⟩=>⟨σ,H1,I1,q1⟩) I.quiet hs
def tRet (te:TE):TS:=λD σ H=>te σ H D.rt
theorem xx (he:PE X e te):PS X (.Return (some e) pos) (tRet te):=by intro pins s σ H D I h;exact wpAny_Return_some (thn (he pins s σ H _ I h) λv s1 ⟨x,H1,I1,r1,q1⟩=>⟨x,σ,H1,I1,r1,q1⟩)
def tIfS (c:TT)(t u:TS):TS:=λD σ H=>c σ H λb H1=>if b=true then t D σ H1 else u D σ H1
theorem zp {c:Expr}{a b:List Stmt}{tc:TT}(hc:PT X c tc)(ha:PSs X a t)(hb:PSs X b u):PS X (.If c a b pos) (tIfS tc t u):=by
 intro pins s σ H D I h;refine wpAny_If (thn (hc pins s σ H _ I h) λd s1 ⟨H1,I1,q1⟩=>?_);cases d with
 |true=>exact ha pins s1 σ H1 D I1 q1
 |false=>exact hb pins s1 σ H1 D I1 q1
end
abbrev TG:=V->St->Hp->(St->Hp->Prop)->Prop
abbrev TGs:=List V->St->Hp->(St->Hp->Prop)->Prop
def PG (X:Cx)(target:Expr)(t:TG):Prop :=
 ∀(pins:List (Aj×Obj)) (s:Ab) (σ:St) (H:Hp) (v:V) (u:Ag) (Q:St->Hp->Prop),Inv X pins σ H s->RelV v u->t v σ H Q ->
  wpAny (model X.prog X.w) X.A (assign target X.env u) (λ_ s'=>∃σ' H',Inv X pins σ' H' s'/\Q σ' H') X.xe s
def PGs (X:Cx)(ts:List Expr)(t:TGs):Prop :=
 ∀(pins:List (Aj×Obj)) (s:Ab) (σ:St) (H:Hp) (vs:List V) (us:List Ag) (Q:St->Hp->Prop),Inv X pins σ H s->Vals vs us->t vs σ H Q ->
  wpAny (model X.prog X.w) X.A (assignInOrder ((assignEach ts X.env).map (·.2)) us) (λ_ s'=>∃σ' H',Inv X pins σ' H' s'/\Q σ' H') X.xe s
abbrev TIp:=V->V->Hp->VK->Prop
def PIp (X:Cx)(op:Operator)(t:TIp):Prop :=
 ∀(pins:List (Aj×Obj)) (s:Ab) (σ:St) (H:Hp) (x y:V) (v u:Ag) (Q:VK),Inv X pins σ H s->RelV x v->RelV y u->t x y H Q ->
  wpAny (model X.prog X.w) X.A (inplaceOp op v u) (EP X pins σ Q) X.xe s
section
variable {X:Cx}{pos:Pos}
def Yt (i:Nat):TG:=λv σ H Q=>Q (σ.set i (some v)) H
theorem _root_.aU5 (h:True:=by walk_at "loc"):True:=h
theorem _root_.aU6 (h:True:=by exact FnScope.nd (by assumption)):True:=h
theorem xz {i:Nat}{x:Str}(hN:autoParam (X.N.Nodup) aU6._auto_1)(hi:autoParam (X.N[i]?=some x) aU4._auto_1)(hx:autoParam (Loc X.env.scope x) aU5._auto_1)(hf:autoParam (X.fn x=true\/X.env.scope.names.lookup x=some .local) aU0._auto_1):PG X (.Name x pos) (Yt i):=by intro pins s σ H v u Q I r h;exact iG (yr I hN hi hx r (λs' z=>⟨_,H,z,h⟩) hf)
def gNil:TGs:=λvs σ H Q=>vs=[]/\Q σ H
def xzc (t:TG)(u:TGs):TGs:=λvs σ H Q=>∃v r,vs=v::r/\t v σ H λσ' H'=>u r σ' H' Q
theorem jw:PGs X [] gNil:=by intro pins s σ H vs us Q I r h;obtain⟨e,h⟩:=h;subst e;cases r;exact assignInOrder_nil ⟨σ,H,I,h⟩
theorem xt {e:Expr}{es:List Expr}{t:TG}{u:TGs}(h1:PG X e t)(h2:PGs X es u)
  (hs:autoParam ((assignEach (e::es) X.env).map (·.2)=assign e X.env::(assignEach es X.env).map (·.2)) aU4._auto_1):PGs X (e::es) (xzc t u):=by
 intro pins s σ H vs us Q I r h;obtain⟨v,D,z,h⟩:=h;subst z;cases r with
 |cons r rr =>
  rw[hs];refine h9 (thn (h1 pins s σ H _ _ _ I r h) λ_ s1 ⟨σ1,H1,I1,q1⟩=>?_);exact h2 pins s1 σ1 H1 _ _ Q I1 rr q1
def gTup (K:Aa)(n:Nat)(t:TGs):TG:=λv σ H Q=>∃a xs,v=.ref a/\SqT K H a xs/\xs.length=n/\t xs σ H Q
theorem yz {es:List Expr}{k:Nat}{t:TGs}{n:Nat}(hc:X.calm=true)(h:PGs X es t)
  (hn:autoParam ((assignEach es X.env).length=n) aU4._auto_1) (hst:autoParam ((assignEach es X.env).findIdx? (·.1)=none) aU4._auto_1):PG X (.Tuple es k pos) (gTup X.K n t):=by
 intro pins s σ H v u Q I r z;obtain⟨a,xs,W,L,U,z⟩:=z;subst W;cases r;obtain⟨ab,D,J,hz⟩:=I.tuple L;refine assign_Tuple_tuple (I.ok.hd hc) J (by simp[hn,<-U,D.length]) hst λh' F=>?_;have Z:Inv X pins σ H { s with heap:=h' }:=I.kept (t':=s.toks) λb o e=>F b o (aB (ao e)) e;exact h pins _ σ H xs _ Q Z (by simpa using D) z
def tAsg (te:TE)(g:TG):TS:=λD σ H=>te σ H λx H1=>g x σ H1 D.nx
theorem yn {tg e:Expr}{te:TE}{g:TG}(he:PE X e te)(hg:PG X tg g)(hs:autoParam (swapsWithSole [tg] e pos.line X.env=pure false) aU4._auto_1)(hw:autoParam (swappedStores [tg] e X.env=pure none) aU4._auto_1)
  (h1:autoParam ((assignEach [tg] X.env).map (·.2)=[assign tg X.env]) aU4._auto_1):PS X (.Assign [tg] e pos) (tAsg te g):=by
 intro pins s σ H D I h;refine wpAny_Assign_stores (thn (he pins s σ H _ I h) λv s1 ⟨x,H1,I1,r1,q1⟩=>?_) hs hw;rw[h1];exact thn (hg pins s1 σ H1 x v _ I1 r1 q1) λ_ s2 q=>q
theorem wg {i:Nat}{x:Str}{e:Expr}{te:TE}{pos':Pos}(he:PE X e te)(hN:autoParam (X.N.Nodup) aU6._auto_1)(hi:autoParam (X.N[i]?=some x) aU4._auto_1)(hx:autoParam (Loc X.env.scope x) aU5._auto_1)(hs:autoParam (swapsWith e (some (.Name x pos')) pos.line X.env=pure false) aU4._auto_1)(hf:autoParam (X.fn x=true\/X.env.scope.names.lookup x=some .local) aU0._auto_1) :
  PS X (.Assign [.Name x pos'] e pos) (tAsg te (Yt i)):=by
 intro pins s σ H D I h;refine wpAny_Assign_Name (thn (he pins s σ H _ I h) λv s1 ⟨y,H1,I1,r1,q1⟩=>?_) hs;exact yr I1 hN hi hx r1 (λs2 z=>⟨_,H1,z,q1⟩) hf
def tPar (i j:Nat)(ta:TA):TS:=λD σ H=>ta σ H λvs H1=>∃v w,vs=[v,w]/\D.nx ((σ.set i (some v)).set j (some w)) H1
theorem xzq {i j:Nat}{x y:Str}{a b:Expr}{ta:TA}{px py pt:Pos}{kt k2 pt2}(hc:X.calm=true)(hN:X.N.Nodup)(hi:X.N[i]?=some x)(hj:X.N[j]?=some y)(hij:i≠j)
  (hx:X.env.scope.names.lookup x=some .local) (hy:X.env.scope.names.lookup y=some .local) (ha:PA X [a,b] ta)
  (hw:swappedStores [.Tuple [.Name x px,.Name y py] kt pt] (.Tuple [a,b] k2 pt2) X.env=pure (some [x,y]))
  (hs:autoParam (swapsWithSole [.Tuple [.Name x px,.Name y py] kt pt] (.Tuple [a,b] k2 pt2) pos.line X.env=pure false) aU4._auto_1) :
  PS X (.Assign [.Tuple [.Name x px,.Name y py] kt pt] (.Tuple [a,b] k2 pt2) pos) (tPar i j ta):=by
 intro pins s σ H D I h;rw[exec_Assign_arm];refine ac (dh ?_);rw[hs];refine ac (ai ?_);rw[ar ⋯];refine ac (Tuple_ (thn (ha _ pins s σ H _ I h) λus s1 ⟨vs,H1,I1,r1,z⟩=>?_));obtain⟨v,w,W,z⟩:=z;subst W;obtain⟨u1,u2,rfl,L,J⟩:∃u1 u2,us=[u1,u2]/\RelV v u1/\RelV w u2:=by
  cases r1 with
  |cons p q =>
   cases q with
   |cons p' q' =>
    cases q';exact⟨_,_,rfl,p,p'⟩
 refine ca ?_ (by show 2<=sizeLine;decide);have I2:Inv X pins σ H1 { s1 with heap:=s1.heap.push { cls:=.type "tuple",data:=.seq [u1,u2].toArray } }:=I1.kept (t':=s1.toks) λb o e=>ag _ e;rw[hw];refine ac (ai ?_);show wpAny (model X.prog X.w) X.A (do rule "assign.swapped-stores";let items <-unpackItems (.ref s1.heap.objs.size) 2 none;assignInOrder [λv=>bindName X.env y v,λv=>bindName X.env x v] items.reverse;pure Flow.next) _ _ _;refine ac (eB (ac (unpackItems_tuple (items:=#[u1,u2]) (I.ok.hd hc) (IsTup.new s1.heap _) λh' U=>?_)));have I3:=I2.kept (h':=h') (t':=s1.toks) λb o e=>U b o (aB (ao e)) e;show wpAny _ _ (assignInOrder [λv=>bindName X.env y v,λv=>bindName X.env x v] [u2,u1] >>= λ_=>pure Flow.next) _ _ _;refine ac (h9 (wpAny_bindName (yr I3 hN hj (.inl hy) J (λs2 Z=>?_) (.inr hy))));refine h9 (wpAny_bindName (yr Z hN hi (.inl hx) L (λs3 F=>assignInOrder_nil (ai ?_)) (.inr hx)));rw[List.set_comm _ _ (dF hij)]at F;exact⟨_,H1,F,z⟩
def tAug (i:Nat)(te:TE)(ti:TIp):TS:=λD σ H=>∃x,σ[i]?=some (some x)/\te σ H λy H1=>ti x y H1 λz H2=>D.nx (σ.set i (some z)) H2
theorem quq {i:Nat}{x:Str}{e:Expr}{te:TE}{op:Operator}{ti:TIp}{pos':Pos}(hN:X.N.Nodup)(hi:X.N[i]?=some x)(hx:Loc X.env.scope x)(he:PE X e te)(ho:PIp X op ti)(hf:autoParam (X.fn x=true\/X.env.scope.names.lookup x=some .local) aU0._auto_1) :
  PS X (.AugAssign (.Name x pos') op e pos) (tAug i te ti):=by
 intro pins s σ H D I h;obtain⟨v,e1,h⟩:=h;obtain⟨m,Z,hl⟩:=I.loc;have L:Vis X.env.scope x:=by rcases hx with k|k;exact .inl k;exact .inr (.inl k)
 obtain⟨u,r,l⟩:=hl i x v hi e1 L;refine wpAny_AugAssign_Name ?_;have J:wpAny (model X.prog X.w) X.A (eval e X.env) (λw W=>wpAny (model X.prog X.w) X.A (inplaceOp op u w) (λr U=>wpAny (model X.prog X.w) X.A (storeName X.env x r) (λ_=>SP X pins D .next) X.xe U) X.xe W) X.xe s:=by refine thn (he pins s σ H _ I h) λw s1 ⟨y,H1,I1,r1,q1⟩=>?_;refine thn (ho pins s1 σ H1 v y u w _ I1 r r1 q1) λz s2 ⟨zv,H2,I2,r2,q2⟩=>?_;exact yr I2 hN hi hx r2 (λs3 I3=>⟨_,H2,I3,q2⟩) hf
 rcases l with⟨F,hm⟩|⟨F,c,hc,ab⟩
 .exact wpAny_loadName_local I.ok.kind F Z hm J
 .rcases F with F|F
  .exact wpAny_loadName_cell I.ok.kind F hc ab J
  .rcases hx with k|k
   .have:X.env.scope.names.lookup x=some .free:=F;rw[k]at this;cases this
   .have:X.env.scope.names.lookup x=some .free:=F;rw[k]at this;cases this
def ipI (f:Int->Int->Int):TIp:=λx y H Q=>∃i j,x=.int i/\y=.int j/\Q (.int (f i j)) H
theorem xxk:PIp X .Add (ipI λi j=>i+j):=by intro pins s σ H x y v u Q I D z h;obtain⟨i,j,J,F,q⟩:=h;subst J;subst F;obtain⟨t,rfl⟩:=D;obtain⟨L,rfl⟩:=z;exact iadd_int ⟨.int _,H,I.tok _,⟨_,rfl⟩,q⟩
end
section
variable {X:Cx}{pos:Pos}
def wx8 (c:TT)(tb:TS):TS:=λD σ H=>∃W:Nat->St->Hp->Prop,(∃m,W m σ H)/\∀m σ H,W m σ H ->
 c σ H λb H1=>if b=true then ∃N:St->Hp->Prop,(∀σ' H',N σ' H'->∃m',m'<m/\W m' σ' H')/\tb { D with nx:=N,ct:=N,bk:=D.nx } σ H1 else D.nx σ H1
theorem u7 {c:Expr}{body:List Stmt}{tc:TT}{tb:TS}(hp:PassesOwn (model X.prog X.w) X.A X.env X.xe)(hc:PT X c tc)(hb:PSs X body tb):PS X (.While c body [] pos) (wx8 tc tb):=by
 intro pins s σ H D I h;obtain⟨W,⟨m0,w0⟩,ab⟩:=h;refine wpAny_While (codeAny_whileLoop (λn s'=>∃σ' H',Inv X pins σ' H' s'/\W n σ' H') ?_ m0 ⟨σ,H,I,w0⟩);rintro n s1 ⟨σ1,H1,I1,w1⟩;refine dU hp (thn (hc pins s1 σ1 H1 _ I1 (ab n σ1 H1 w1)) λb s2 ⟨H2,I2,L⟩=>?_);cases b with
 |true =>
  obtain⟨N,hN,L⟩:=L;rw[aw rfl];refine dU hp (thn (hb pins s2 σ1 H2 _ I2 L) λf s3 J=>?_);cases f with
  |next =>
   obtain⟨z,F,I3,Z⟩:=J;obtain⟨m',hm,U⟩:=hN z F Z;exact⟨m',hm,z,F,I3,U⟩
  |cont =>
   obtain⟨z,F,I3,Z⟩:=J;obtain⟨m',hm,U⟩:=hN z F Z;exact⟨m',hm,z,F,I3,U⟩
  |brk=>exact J
  |ret v=>exact J
 |false =>
  rw[ar aI];exact gU ⟨σ1,H2,I2,L⟩
end
structure It where
 go:Nat->Hp->Prop
 yld:Nat->Hp->V->Hp->Prop
 stop:Nat->Hp->Prop
def k8 (X:Cx)(pins:List (Aj×Obj))(H:Hp)(b:Aj):Prop :=
 H b=none/\b≠X.env.locals/\b∉X.fs/\(b∈X.ex\/X.s₀.heap.objs.size<=b)/\(∀x c,X.env.cells.lookup x=some c->c≠b)/\∀p∈X.pn++pins,p.1≠b
theorem Inv.fpOk {X:Cx}{pins:List (Aj×Obj)}{σ:St}{H H':Hp}{s:Ab}{b:Aj}(I:Inv X pins σ H s)(hb:s.heap.objs.size<=b)(hn:H' b=none):k8 X pins H' b:=by
 refine⟨hn,ff (aL I.lt hb),I.nofs hb,.inr (bI I.sz hb),λx c e z=>?_,λp D z=>?_⟩
 .obtain⟨v,q⟩:=I.cell x c e;exact absurd (aL q.lt (by rw[z];exact hb)) (bb _)
 .exact absurd (aL (ao (I.pin p D).1) (by rw[z];exact hb)) (bb _)
structure Turn (P:Ac)(w:Ah)(K:Aa)(tg:Expr)(J:It)(fp:List Aj)(it:Aj)(tn:Nat->Heap->Prop):Prop where
 mem:it∈fp
 obj:∀i h,tn i h->∀b∈fp,∃o,h.get? b=some o/\∀v,o.data≠.cell v
 keep:∀i h h',tn i h->(∀b∈fp,∀o,h.get? b=some o->h'.get? b=some o)->tn i h'
 item:∀(X:Cx),X.prog=P->X.w=w->X.K=K->X.calm=true->∀(i:Nat) (pins:List (Aj×Obj)) (s:Ab) (σ:St) (H:Hp) (E:Ag->Ab->Prop),Inv X pins σ H s->(∀b∈fp,k8 X pins H b)->tn i s.heap->J.go i H ->
  wpAny (model P w) X.A (pyNext (.ref it)) (λr s1=>∃u,r=some u /\
   wpAny (model P w) X.A (letOwnedTupleGo tg (.ref it) u) (λ_ s2=>∃x H',Inv X pins σ H' s2/\RelV x u/\J.yld i H x H'/\tn (i+1) s2.heap/\∀b∈fp,H' b=none) E s1) E s
 done:∀(X:Cx),X.prog=P->X.w=w->X.K=K->X.calm=true->∀(i:Nat) (pins:List (Aj×Obj)) (s:Ab) (σ:St) (H:Hp) (E:Ag->Ab->Prop),Inv X pins σ H s->(∀b∈fp,k8 X pins H b)->tn i s.heap->J.stop i H ->
  wpAny (model P w) X.A (pyNext (.ref it)) (λr s1=>r=none/\Inv X pins σ H s1) E s
 self:∀(A:Ae) (i:Nat) (s:Ab) (Q:Ag->Ab->Prop) (E:Ag->Ab->Prop),tn i s.heap->Q (.ref it) s->wpAny (model P w) A (pyIter (.ref it)) Q E s
abbrev TI:=St->Hp->(It->Hp->Prop)->Prop
def PIE (X:Cx)(pins:List (Aj×Obj))(σ:St)(tg:Expr)(R:It->Hp->Prop)(itv:Ag)(s2:Ab):Prop :=
 ∃(it:Aj) (fp:List Aj) (tn:Nat->Heap->Prop) (J:It) (H':Hp),itv=.ref it/\Inv X pins σ H' s2/\Turn X.prog X.w X.K tg J fp it tn/\tn 0 s2.heap/\(∀b∈fp,k8 X pins H' b)/\R J H'
def PI (X:Cx)(tg iter:Expr)(wi:TI):Prop :=
 ∀(pins:List (Aj×Obj)) (s:Ab) (σ:St) (H:Hp) (R:It->Hp->Prop),Inv X pins σ H s->wi σ H R ->
  wpAny (model X.prog X.w) X.A (eval iter X.env) (λv s1=>wpAny (model X.prog X.w) X.A (pyIter v) (PIE X pins σ tg R) X.xe s1) X.xe s
theorem wjq {M:Model}{A:Ae}{E:Ag->Ab->Prop}{s:Ab}{tg:Expr}{it:Aj}{u:Ag}{o:Obj}{n:String}{vs:Array Ag}{Q:Unit->Ab->Prop}(ho:s.heap.get? it=some o)(hc:o.cls=.type n)(hd:o.data=.fields vs)
  (hn:["enumerate","zip","dict_itemiterator","dict_reverseitemiterator","odict_iterator","itertools.zip_longest","itertools.pairwise"].contains n=false) (hQ:Q () s):wpAny M A (letOwnedTupleGo tg (.ref it) u) Q E s:=by
 unfold letOwnedTupleGo;cases tg <;> first
  |exact ai hQ
  |(cases u <;> first
    |exact ai hQ
    |(refine ac (wpAny_load ho ?_)
      rw[hc,hd]
      show wpAny M A (if(["enumerate","zip","dict_itemiterator","dict_reverseitemiterator","odict_iterator","itertools.zip_longest","itertools.pairwise"].contains n&&vs[0]?==some (rawInt _))=true then _ else _) Q E s
      rw[ar (by intro h;rw[hn,jG]at h;cases h)]
      exact ai hQ))
def Itl (K:Aa)(a:Aj):It :=
 ⟨λi H=>∃xs x,SqL K H a xs/\xs[i]?=some x,λi H x H'=>H'=H/\∀xs,SqL K H a xs->xs[i]?=some x,λi H=>∃xs,SqL K H a xs/\xs.length<=i⟩
def Itt (K:Aa)(a:Aj):It :=
 ⟨λi H=>∃xs x,SqT K H a xs/\xs[i]?=some x,λi H x H'=>H'=H/\∀xs,SqT K H a xs->xs[i]?=some x,λi H=>∃xs,SqT K H a xs/\xs.length<=i⟩
def Itr (lo:Int)(n:Nat):It:=⟨λi _=>i<n,λi H x H'=>H'=H/\x=.int (lo+i),λi _=>n<=i⟩
theorem xqs {P:Ac}{w:Ah}{K:Aa}{tg:Expr}(a it:Aj):Turn P w K tg (Itl K a) [it] it (λi h=>h.IsListIter it a i) where
 mem:=by simp
 obj:=λi h st b hb=>by
  have e:b=it:=by simpa using hb
  subst e;obtain⟨o,e,c,d⟩:=st;exact⟨o,e,λv z=>by rw[d]at z;cases z⟩
 keep:=λi h h' st k=>st.at λo e=>k it (by simp) o e
 item:=by intro X hP hw hK hc i pins s σ H E I hf st hg;subst hP hw hK;obtain⟨xs,x,hq,hx⟩:=hg;obtain⟨its,rv,p,hz⟩:=I.list hq;obtain⟨u,hu,ru⟩:=rv.get hx;obtain⟨f0,f1,f2,f3,f4,f5⟩:=hf it (by simp);refine wpAny_pyNext_list_item st p.isList (x:=u) (by simpa using hu) λh' st' sb=>?_;have I1:Inv X pins σ H { s with heap:=h' }:=I.turned (t':=s.toks) (λb o hb e=>(sb.2 b hb).trans e) f0 f1 f3 f4 f5;obtain⟨o,e,c,d⟩:=id st';exact⟨u,rfl,wjq (s:={ s with heap:=h' }) e c d ⋯ ⟨x,H,I1,ru,⟨rfl,λys hy=>by rw[I.list_inj hy hq];exact hx⟩,st',λb hb=>(hf b hb).1⟩⟩
 done:=by intro X hP hw hK hc i pins s σ H E I hf st hg;subst hP hw hK;obtain⟨xs,hq,hx⟩:=hg;obtain⟨its,rv,p,hz⟩:=I.list hq;obtain⟨f0,f1,f2,f3,f4,f5⟩:=hf it (by simp);have hl:=rv.length;exact wpAny_pyNext_list_end (I.ok.hd hc) st p.isList (by simp;lia) λh' eb=>⟨rfl,I.turned (t':=s.toks) (λb o hb e=>eb b o hb e) f0 f1 f3 f4 f5⟩
 self:=λ_ _ _ _ _ st h=>wpAny_pyIter_listiter st h
theorem wvj {P:Ac}{w:Ah}{K:Aa}{tg:Expr}(a it:Aj):Turn P w K tg (Itt K a) [it] it (λi h=>h.IsTupleIter it a i) where
 mem:=by simp
 obj:=λi h st b hb=>by
  have e:b=it:=by simpa using hb
  subst e;obtain⟨o,e,c,d⟩:=st;exact⟨o,e,λv z=>by rw[d]at z;cases z⟩
 keep:=λi h h' st k=>st.at λo e=>k it (by simp) o e
 item:=by intro X hP hw hK hc i pins s σ H E I hf st hg;subst hP hw hK;obtain⟨xs,x,hq,hx⟩:=hg;obtain⟨its,rv,p,hz⟩:=I.tuple hq;obtain⟨u,hu,ru⟩:=rv.get hx;obtain⟨f0,f1,f2,f3,f4,f5⟩:=hf it (by simp);refine wpAny_pyNext_tuple_item st (show s.heap.IsTuple a its.toArray from p) (x:=u) (by simpa using hu) λh' st' sb=>?_;have I1:Inv X pins σ H { s with heap:=h' }:=I.turned (t':=s.toks) (λb o hb e=>(sb.2 b hb).trans e) f0 f1 f3 f4 f5;obtain⟨o,e,c,d⟩:=id st';exact⟨u,rfl,wjq (s:={ s with heap:=h' }) e c d ⋯ ⟨x,H,I1,ru,⟨rfl,λys hy=>by rw[I.tuple_inj hy hq];exact hx⟩,st',λb hb=>(hf b hb).1⟩⟩
 done:=by intro X hP hw hK hc i pins s σ H E I hf st hg;subst hP hw hK;obtain⟨xs,hq,hx⟩:=hg;obtain⟨its,rv,p,hz⟩:=I.tuple hq;obtain⟨f0,f1,f2,f3,f4,f5⟩:=hf it (by simp);have hl:=rv.length;exact wpAny_pyNext_tuple_end (I.ok.hd hc) st (show s.heap.IsTuple a its.toArray from p) (by simp;lia) λh' eb=>⟨rfl,I.turned (t':=s.toks) (λb o hb e=>eb b o hb e) f0 f1 f3 f4 f5⟩
 self:=λ_ _ _ _ _ st h=>wpAny_pyIter_tupleiter st h
theorem wvn {P:Ac}{w:Ah}{K:Aa}{tg:Expr}(it:Aj)(lo:Int)(n:Nat):Turn P w K tg (Itr lo n) [it] it (λi h=>IsRangeIter h it (lo+(i:Nat)*1) ((n:Int)-(i:Nat)) 1) where
 mem:=by simp
 obj:=λi h st b hb=>by
  have e:b=it:=by simpa using hb
  subst e;exact⟨_,st,λv z=>by
   have z':Data.fields _=Data.cell v:=z
   cases z'⟩
 keep:=λi h h' st k=>k it (by simp) _ st
 item:=by intro X hP hw hK hc i pins s σ H E I hf st hg;subst hP hw hK;obtain⟨f0,f1,f2,f3,f4,f5⟩:=hf it (by simp);have W:=Walks.range (prog:=X.prog) (w:=X.w) (I.ok.hd hc) it lo 1 n;refine W.item i s _ _ hg st λv h' tk hv st' kk=>?_;obtain⟨t,rfl⟩:=hv;have I1:Inv X pins σ H { s with heap:=h',toks:=tk }:=I.turned (λb o hb e=>kk b o (by simpa using hb) e) f0 f1 f3 f4 f5;refine⟨_,rfl,wjq (s:={ s with heap:=h',toks:=tk }) (n := "range_iterator") st' rfl rfl ⋯ ⟨.int (lo+i),H,I1,⟨t,?_⟩,⟨rfl,rfl⟩,st',λb hb=>(hf b hb).1⟩⟩;rw[iH]
 done:=by intro X hP hw hK hc i pins s σ H E I hf st hg;subst hP hw hK;obtain⟨f0,f1,f2,f3,f4,f5⟩:=hf it (by simp);exact wpAny_pyNext_range_end (I.ok.hd hc) st (by have:n<=i:=hg;lia) λh' eb=>⟨rfl,I.turned (t':=s.toks) (λb o hb e=>eb b o hb e) f0 f1 f3 f4 f5⟩
 self:=λ_ _ _ _ _ st h=>wpAny_pyIter_rangeiter st h
section
variable {X:Cx}{tg:Expr}
def iList (K:Aa)(tl:TE):TI:=λσ H R=>tl σ H λx H1=>∃a,x=.ref a/\(∃xs,SqL K H1 a xs)/\R (Itl K a) H1
def iTup (K:Aa)(tl:TE):TI:=λσ H R=>tl σ H λx H1=>∃a,x=.ref a/\(∃xs,SqT K H1 a xs)/\R (Itt K a) H1
theorem zc {l:Expr}{tl:TE}(hl:PE X l tl):PI X tg l (iList X.K tl):=by
 intro pins s σ H R I h;refine thn (hl pins s σ H _ I h) λv s1 ⟨x,H1,I1,r1,q1⟩=>?_;obtain⟨a,e,⟨xs,z⟩,q⟩:=q1;subst e;cases r1;obtain⟨J,F,p,L⟩:=I1.list z;refine gk p.isList ?_;refine⟨s1.heap.objs.size,[s1.heap.objs.size],_,_,H1,rfl,I1.kept (t':=s1.toks) λb o e=>ag _ e,xqs a _,⟨_,aA _ rfl,rfl,rfl⟩,λb D=>?_,q⟩;have e:b=s1.heap.objs.size:=by simpa using D
 subst e;exact I1.fpOk (ak _) (I1.hok.fresh (ak _))
theorem pi_tup {l:Expr}{tl:TE}(hl:PE X l tl):PI X tg l (iTup X.K tl):=by
 intro pins s σ H R I h;refine thn (hl pins s σ H _ I h) λv s1 ⟨x,H1,I1,r1,q1⟩=>?_;obtain⟨a,e,⟨xs,D⟩,q⟩:=q1;subst e;cases r1;obtain⟨z,J,p,L⟩:=I1.tuple D;refine wpAny_pyIter_tuple (show s1.heap.IsTuple a z.toArray from p) ?_;refine⟨s1.heap.objs.size,[s1.heap.objs.size],_,_,H1,rfl,I1.kept (t':=s1.toks) λb o e=>ag _ e,wvj a _,⟨_,aA _ rfl,rfl,rfl⟩,λb F=>?_,q⟩;have e:b=s1.heap.objs.size:=by simpa using F
 subst e;exact I1.fpOk (ak _) (I1.hok.fresh (ak _))
theorem ww7 {pins:List (Aj×Obj)}{σ:St}{H:Hp}{s:Ab}{R:It->Hp->Prop}{E:Ag->Ab->Prop}{lo hi:Int}{t u v:Tok}{tk:Nat}(I:Inv X pins σ H s)(h1:-(2 ^ 62)<=lo)(h2:lo<2 ^ 62)(h3:-(2 ^ 62)<=hi)(h4:hi<2 ^ 62)
  (q:R (Itr lo (hi-lo).toNat) H):wpAny (model X.prog X.w) X.A (pyIter (.ref s.heap.objs.size)) (PIE X pins σ tg R) E { s with heap:=s.heap.push { cls:=.type "range",data:=.fields #[.int lo t,.int hi u,.int 1 v] },toks:=tk }:=by
 refine wpAny_pyIter_range (jH ..) (small_one h1 h2 h3 h4) ?_;have z:Inv X pins σ H { s with heap:=s.heap.push { cls:=.type "range",data:=.fields #[.int lo t,.int hi u,.int 1 v] },toks:=tk }:=I.kept λb o e=>ag _ e;refine⟨(s.heap.push { cls:=.type "range",data:=.fields #[.int lo t,.int hi u,.int 1 v] }).objs.size,[(s.heap.push { cls:=.type "range",data:=.fields #[.int lo t,.int hi u,.int 1 v] }).objs.size],_,_,H,rfl,
  z.kept (t':=tk) λb o e=>ag _ e,wvn _ lo (hi-lo).toNat,?_,λb D=>?_,q⟩
 .have J:lo+((0:Nat):Int)*1=lo:=by simp
  have F:(((hi-lo).toNat:Nat):Int)-((0:Nat):Int)=Builtin.Range.rangeSize lo hi 1:=by rw[rangeSize_one];split <;> lia
  show IsRangeIter _ _ (lo+((0:Nat):Int)*1) ((((hi-lo).toNat:Nat):Int)-((0:Nat):Int)) 1;rw[J,F];exact aA _ rfl
 .have e:b=(s.heap.push { cls:=.type "range",data:=.fields #[.int lo t,.int hi u,.int 1 v] }).objs.size:=by simpa using D
  subst e;exact z.fpOk (ak _) (z.hok.fresh (ak _))
def iRng1 (ta:TA):TI:=λσ H R=>ta σ H λvs H1=>∃j:Int,vs=[.int j]/\-(2 ^ 62)<=j/\j<2 ^ 62/\R (Itr 0 j.toNat) H1
def iRng2 (ta:TA):TI:=λσ H R=>ta σ H λvs H1=>∃i j:Int,vs=[.int i,.int j]/\(-(2 ^ 62)<=i/\i<2 ^ 62/\-(2 ^ 62)<=j/\j<2 ^ 62)/\R (Itr i (j-i).toNat) H1
theorem xg {a:Expr}{ta:TA}{p pos:Pos}(hg:Gl X "range")(hm:X.mg "range" = none)(ha:PA X [a] ta)(hs:autoParam (starEach [a] X.env=[(false,eval a X.env)]) aU4._auto_1):PI X tg (.Call (.Name "range" p) [a] [] pos) (iRng1 ta):=by
 intro pins s σ H R I h;refine Call_ (j3 I hg hm i9 (bB (thn (ha pos pins s σ H _ I h) λus s1 ⟨vs,H1,I1,r1,z⟩=>?_) hs rfl));obtain⟨j,e,z,D,q⟩:=z;subst e;cases r1 with
 |cons r rr =>
  cases rr;obtain⟨t,rfl⟩:=r;exact call_range_1 (ww7 I1 ⋯ ⋯ z D (by simpa using q))
theorem Jp {a b:Expr}{ta:TA}{p pos:Pos}(hg:Gl X "range")(hm:X.mg "range" = none)(ha:PA X [a,b] ta)(hs:autoParam (starEach [a,b] X.env=[(false,eval a X.env),(false,eval b X.env)]) aU4._auto_1)(hs2:autoParam (starEach [b] X.env=[(false,eval b X.env)]) aU4._auto_1) :
  PI X tg (.Call (.Name "range" p) [a,b] [] pos) (iRng2 ta):=by
 intro pins s σ H R I h;refine Call_ (j3 I hg hm i9 (bB (thn (ha pos pins s σ H _ I h) λus s1 ⟨vs,H1,I1,r1,z⟩=>?_) (by rw[hs,hs2]) (by rw[hs2];rfl)));obtain⟨i,j,e,⟨z,J,F,D⟩,q⟩:=z;subst e;cases r1 with
 |cons r rr =>
  cases rr with
  |cons r' rr =>
   cases rr;obtain⟨t,rfl⟩:=r;obtain⟨L,rfl⟩:=r';exact call_range_2 (ww7 I1 z J F D q)
def tFor (wi:TI)(g:TG)(tb:TS):TS:=λD σ H=>wi σ H λJ H1=>∃W:Nat->Nat->St->Hp->Prop,(∃m,W 0 m σ H1)/\∀i m σ H,W i m σ H ->
 (J.stop i H/\D.nx σ H)\/(J.go i H/\∃N:St->Hp->Prop,(∀σ' H',N σ' H'->∃m',m'<m/\W (i+1) m' σ' H')/\∀x H',J.yld i H x H'->g x σ H' λσ2 H2=>tb { D with nx:=N,ct:=N,bk:=D.nx } σ2 H2)
def qyr (fp:List Aj)(h:Heap):List (Aj×Obj):=fp.filterMap λb=>(h.get? b).map λo=>(b,o)
theorem Qg {fp:List Aj}{h:Heap}{b:Aj}{o:Obj}(hb:b∈fp)(e:h.get? b=some o):(b,o)∈qyr fp h:=fN.mpr ⟨b,hb,by rw[e];rfl⟩
theorem wyv {fp:List Aj}{h:Heap}{p:Aj×Obj}(hp:p∈qyr fp h):p.1∈fp/\h.get? p.1=some p.2:=by
 obtain⟨b,z,e⟩:=fN.mp hp;cases q:h.get? b with
 |none=>rw[q]at e;cases e
 |some o =>
  rw[q]at e;have D:(b,o)=p:=aq e;subst D;exact⟨z,q⟩
theorem Inv.pinned {pins:List (Aj×Obj)}{σ:St}{H:Hp}{s:Ab}{fp:List Aj}(I:Inv X pins σ H s)(hf:∀b∈fp,k8 X pins H b)(ho:∀b∈fp,∃o,s.heap.get? b=some o/\∀v,o.data≠.cell v):Inv X (pins++qyr fp s.heap) σ H s :=
 I.pins_of λp hp=>(aW.mp hp).elim (λz=>I.pin p (aH _ z)) λz=>by obtain⟨hb,e⟩:=wyv z;obtain⟨f0,f1,f2,_⟩:=hf p.1 hb;obtain⟨o,e',d⟩:=ho p.1 hb;rw[e]at e';cases e';exact⟨e,f0,f1,f2,d⟩
theorem Inv.unpinned {pins pl:List (Aj×Obj)}{σ:St}{H:Hp}{s:Ab}(I:Inv X (pins++pl) σ H s):Inv X pins σ H s:=I.pins_of λp hp=>I.pin p (aH _ (cn _ hp))
theorem ky {iter:Expr}{body:List Stmt}{wi:TI}{g:TG}{tb:TS}{pos:Pos}(hp:PassesOwn (model X.prog X.w) X.A X.env X.xe)(hc:X.calm=true)(hi:PI X tg iter wi)(hg:PG X tg g)(hb:PSs X body tb)
  (hs:autoParam (∀x,foldedSetIterable iter X.env x=pure x) aU3._auto_1):PS X (.For tg iter body [] pos) (tFor wi g tb):=by
 intro pins s σ H D I h;refine wpAny_For (thn (hi pins s σ H _ I h) λv s1 h1=>thn h1 λa1 s2 h2=>?_) hs;obtain⟨it,fp,tn,J,H2,e,I2,T,as,f2,W,⟨m0,w0⟩,ah⟩:=h2;subst e;have ab:∀ {H':Hp},(∀b∈fp,H' b=none)->∀b∈fp,k8 X pins H' b:=λhn b hb=>⟨hn b hb,(f2 b hb).2⟩;refine codeAny_forLoop_any (λn s'=>∃i σ' H',Inv X pins σ' H' s'/\tn i s'.heap/\(∀b∈fp,H' b=none)/\W i n σ' H') ?_ m0 ⟨0,σ,H2,I2,as,λb hb=>(f2 b hb).1,w0⟩;rintro n s3 ⟨i,σ3,H3,I3,st3,fr3,w3⟩;rcases ah i n σ3 H3 w3 with⟨an,qn⟩|⟨go,N,hN,ap⟩
 .refine dU hp (thn (T.done X rfl rfl rfl hc i pins s3 σ3 H3 X.xe I3 (ab fr3) st3 an) λr s4 ⟨hr,I4⟩=>?_);subst hr;exact gU ⟨σ3,H3,I4,qn⟩
 .refine dU hp (thn (T.item X rfl rfl rfl hc i pins s3 σ3 H3 X.xe I3 (ab fr3) st3 go) λr s4 ⟨u,hr,h4⟩=>?_);subst hr;refine dU hp (thn h4 λ_ s5 ⟨x,H5,I5,r5,y5,st5,fr5⟩=>?_);have a0:=I5.pinned (ab fr5) (T.obj _ _ st5);refine dU hp (thn (hg _ s5 σ3 H5 x u _ a0 r5 (ap x H5 y5)) λ_ s6 ⟨σ6,H6,I6,q6⟩=>?_);refine dU hp (thn (hb _ s6 σ6 H6 _ I6 q6) λf s7 U=>?_);have ad:∀ {z:St} {L:Hp},Inv X (pins++qyr fp s5.heap) z L s7->N z L->∃m,m<n/\∃i σ' H',Inv X pins σ' H' s7/\tn i s7.heap/\(∀b∈fp,H' b=none)/\W i m σ' H':=λ{z L} F Z=>by obtain⟨m',hm,w7⟩:=hN z L Z;refine⟨m',hm,i+1,z,L,F.unpinned,T.keep _ _ _ st5 λb hb o e=>(F.pin (b,o) (aH _ (aH _ (Qg hb e)))).1,λb hb=>?_,w7⟩;obtain⟨o,e,d⟩:=T.obj _ _ st5 b hb;exact(F.pin (b,o) (aH _ (aH _ (Qg hb e)))).2.1
  cases f with
  |next=>obtain⟨z,L,F,Z⟩:=U;exact ad F Z
  |cont=>obtain⟨z,L,F,Z⟩:=U;exact ad F Z
  |brk=>obtain⟨z,L,F,U⟩:=U;exact⟨z,L,F.unpinned,U⟩
  |ret v=>obtain⟨x7,z,L,F,r7,U⟩:=U;exact⟨x7,z,L,F.unpinned,r7,U⟩
end
theorem Yj {K:Aa}{a:Aj}{xs:List V}{g:TG}{tb:TS}{D:Ends}{σ:St}{H:Hp}(Pv:Nat->St->Hp->Prop)(h0:Pv 0 σ H)(hl:∀i σ H,i<=xs.length->Pv i σ H->SqL K H a xs)
  (hs:∀i x σ H,xs[i]?=some x->Pv i σ H->g x σ H λσ2 H2=>tb { D with nx:=Pv (i+1),ct:=Pv (i+1),bk:=D.nx } σ2 H2) (hd:∀σ H,Pv xs.length σ H->D.nx σ H) :
  ∃W:Nat->Nat->St->Hp->Prop,(∃m,W 0 m σ H)/\∀i m σ H,W i m σ H ->
   ((Itl K a).stop i H/\D.nx σ H)\/((Itl K a).go i H/\∃N:St->Hp->Prop,(∀σ' H',N σ' H'->∃m',m'<m/\W (i+1) m' σ' H')/\∀x H',(Itl K a).yld i H x H'->g x σ H' λσ2 H2=>tb { D with nx:=N,ct:=N,bk:=D.nx } σ2 H2):=by
 refine⟨λi m σ H=>m=xs.length-i/\i<=xs.length/\Pv i σ H,⟨xs.length,by simp,aQ _,h0⟩,?_⟩;rintro i m σ H ⟨rfl,hi,p⟩;have q:=hl i σ H hi p;by_cases hlt:i<xs.length
 .refine .inr ⟨⟨xs,xs[i],q,by simp[hlt]⟩,Pv (i+1),λσ' H' z=>⟨xs.length-(i+1),⋯,rfl,hlt,z⟩,λx H' y=>?_⟩;obtain⟨e,y⟩:=y;subst e;exact hs i x σ _ (y xs q) p
 .have e:i=xs.length:=by lia
  subst e;exact .inl ⟨⟨xs,q,ak _⟩,hd σ H p⟩
theorem xjy {K:Aa}{a:Aj}{xs:List V}{g:TG}{tb:TS}{D:Ends}{σ:St}{H:Hp}(Pv:Nat->St->Hp->Prop)(h0:Pv 0 σ H)(hl:∀i σ H,i<=xs.length->Pv i σ H->SqT K H a xs)
  (hs:∀i x σ H,xs[i]?=some x->Pv i σ H->g x σ H λσ2 H2=>tb { D with nx:=Pv (i+1),ct:=Pv (i+1),bk:=D.nx } σ2 H2) (hd:∀σ H,Pv xs.length σ H->D.nx σ H) :
  ∃W:Nat->Nat->St->Hp->Prop,(∃m,W 0 m σ H)/\∀i m σ H,W i m σ H ->
   ((Itt K a).stop i H/\D.nx σ H)\/((Itt K a).go i H/\∃N:St->Hp->Prop,(∀σ' H',N σ' H'->∃m',m'<m/\W (i+1) m' σ' H')/\∀x H',(Itt K a).yld i H x H'->g x σ H' λσ2 H2=>tb { D with nx:=N,ct:=N,bk:=D.nx } σ2 H2):=by
 refine⟨λi m σ H=>m=xs.length-i/\i<=xs.length/\Pv i σ H,⟨xs.length,by simp,aQ _,h0⟩,?_⟩;rintro i m σ H ⟨rfl,hi,p⟩;have q:=hl i σ H hi p;by_cases hlt:i<xs.length
 .refine .inr ⟨⟨xs,xs[i],q,by simp[hlt]⟩,Pv (i+1),λσ' H' z=>⟨xs.length-(i+1),⋯,rfl,hlt,z⟩,λx H' y=>?_⟩;obtain⟨e,y⟩:=y;subst e;exact hs i x σ _ (y xs q) p
 .have e:i=xs.length:=by lia
  subst e;exact .inl ⟨⟨xs,q,ak _⟩,hd σ H p⟩
theorem vj {lo:Int}{n:Nat}{g:TG}{tb:TS}{D:Ends}{σ:St}{H:Hp}(Pv:Nat->St->Hp->Prop)(h0:Pv 0 σ H)
  (hs:∀i σ H,i<n->Pv i σ H->g (.int (lo+i)) σ H λσ2 H2=>tb { D with nx:=Pv (i+1),ct:=Pv (i+1),bk:=D.nx } σ2 H2) (hd:∀σ H,Pv n σ H->D.nx σ H) :
  ∃W:Nat->Nat->St->Hp->Prop,(∃m,W 0 m σ H)/\∀i m σ H,W i m σ H ->
   ((Itr lo n).stop i H/\D.nx σ H)\/((Itr lo n).go i H/\∃N:St->Hp->Prop,(∀σ' H',N σ' H'->∃m',m'<m/\W (i+1) m' σ' H')/\∀x H',(Itr lo n).yld i H x H'->g x σ H' λσ2 H2=>tb { D with nx:=N,ct:=N,bk:=D.nx } σ2 H2):=by
 refine⟨λi m σ H=>m=n-i/\i<=n/\Pv i σ H,⟨n,by simp,aQ _,h0⟩,?_⟩;rintro i m σ H ⟨rfl,hi,p⟩;by_cases hlt:i<n
 .refine .inr ⟨hlt,Pv (i+1),λσ' H' z=>⟨n-(i+1),⋯,rfl,hlt,z⟩,λx H' y=>?_⟩;obtain⟨e,y⟩:=y;subst e y;exact hs i σ _ hlt p
 .have e:i=n:=by lia
  subst e;exact .inl ⟨ak _,hd σ H p⟩
theorem Wb {c:TT}{tb:TS}{D:Ends}{σ:St}{H:Hp}(Pv:St->Hp->Prop)(μ:St->Hp->Nat)(h0:Pv σ H)
  (hs:∀σ H,Pv σ H->c σ H λb H1=>if b=true then tb { D with nx:=λσ' H'=>Pv σ' H'/\μ σ' H'<μ σ H,ct:=λσ' H'=>Pv σ' H'/\μ σ' H'<μ σ H,bk:=D.nx } σ H1 else D.nx σ H1)
  (mono:∀σ H Q Q',(∀b H1,Q b H1->Q' b H1)->c σ H Q->c σ H Q'):wx8 c tb D σ H:=by
 refine⟨λm σ H=>m=μ σ H/\Pv σ H,⟨_,rfl,h0⟩,?_⟩;rintro m σ H ⟨rfl,p⟩;refine mono σ H _ _ (λb H1 q=>?_) (hs σ H p);cases b with
 |true=>exact⟨_,λσ' H' ⟨p',l⟩=>⟨_,l,rfl,p'⟩,q⟩
 |false=>exact q
abbrev R2:=V->V->Hp->VK->Prop
def OpR (X:Cx)(f:Ag->Ag->Sem Ag)(r:R2):Prop :=
 ∀(pins:List (Aj×Obj)) (s:Ab) (σ:St) (H:Hp) (x y:V) (v u:Ag) (Q:VK),Inv X pins σ H s->RelV x v->RelV y u->r x y H Q ->
  wpAny (model X.prog X.w) X.A (f v u) (EP X pins σ Q) X.xe s
def UnR (X:Cx)(f:Ag->Sem Ag)(r:V->Hp->VK->Prop):Prop :=
 ∀(pins:List (Aj×Obj)) (s:Ab) (σ:St) (H:Hp) (x:V) (v:Ag) (Q:VK),Inv X pins σ H s->RelV x v->r x H Q ->
  wpAny (model X.prog X.w) X.A (f v) (EP X pins σ Q) X.xe s
def js (X:Cx)(f:Ag)(r:List V->Hp->VK->Prop):Prop :=
 ∀(pins:List (Aj×Obj)) (s:Ab) (σ:St) (H:Hp) (xs:List V) (us:List Ag) (Q:VK),Inv X pins σ H s->Vals xs us->r xs H Q ->
  wpAny (model X.prog X.w) X.A (call f us) (EP X pins σ Q) X.xe s
def tOp (r:R2)(ta tb:TE):TE:=λσ H Q=>ta σ H λx H1=>tb σ H1 λy H2=>r x y H2 Q
def tUn (r:V->Hp->VK->Prop)(ta:TE):TE:=λσ H Q=>ta σ H λx H1=>r x H1 Q
def rI (C:Int->Int->Prop)(g:Int->Int->V):R2:=λx y H Q=>∃i j,x=.int i/\y=.int j/\C i j/\Q (g i j) H
def rI0 (g:Int->Int->V):R2:=λx y H Q=>∃i j,x=.int i/\y=.int j/\Q (g i j) H
def rU (g:Int->V):V->Hp->VK->Prop:=λx H Q=>∃i,x=.int i/\Q (g i) H
section
variable {X:Cx}{a b c:Expr}{ta tb tc:TE}{pos:Pos}
theorem binT (ha:PE X a ta)(hb:PE X b tb){pins:List (Aj×Obj)}{s:Ab}{σ:St}{H:Hp}{R:V->V->Hp->Prop}(I:Inv X pins σ H s)
  (h:ta σ H λx H1=>tb σ H1 λy H2=>R x y H2) {Q:Ag->Ab->Prop} {f:Ag->Ag->Sem Ag}
  (hf:∀v u s2 x y H2,Inv X pins σ H2 s2->RelV x v->RelV y u->R x y H2->wpAny (model X.prog X.w) X.A (f v u) Q X.xe s2) :
  wpAny (model X.prog X.w) X.A (eval a X.env) (λv s₁=>wpAny (model X.prog X.w) X.A (eval b X.env) (λu s₂=>wpAny (model X.prog X.w) X.A (f v u) Q X.xe s₂) X.xe s₁) X.xe s:=by
 refine thn (ha pins s σ H _ I h) λv s1 ⟨x,H1,I1,r1,q1⟩=>?_;refine thn (hb pins s1 σ H1 _ I1 q1) λu s2 ⟨y,H2,I2,r2,q2⟩=>?_;exact hf v u s2 x y H2 I2 r1 r2 q2
theorem q9 {op:Operator}{r:R2}(ho:OpR X (binaryOp op) r)(ha:PE X a ta)(hb:PE X b tb):PE X (.BinOp a op b pos) (tOp r ta tb):=by intro pins s σ H Q I h;exact wpAny_BinOp (binT ha hb I h λv u s2 x y H2 F D z q=>ho pins s2 σ H2 x y v u Q F D z q)
theorem Q6 {op:UnaryOp}{r:V->Hp->VK->Prop}(ho:UnR X (unaryOp op) r)(ha:PE X a ta):PE X (.UnaryOp op a pos) (tUn r ta):=by intro pins s σ H Q I h;exact UnaryOp_ (thn (ha pins s σ H _ I h) λv s1 ⟨x,H1,I1,r1,q1⟩=>ho pins s1 σ H1 x v Q I1 r1 q1)
theorem opI {f:Ag->Ag->Sem Ag}{C:Int->Int->Prop}{g:Int->Int->Int}
  (rule:∀(i j:Int) (t u:Tok) (s:Ab) (Q:Ag->Ab->Prop) (E:Ag->Ab->Prop),C i j->Q (.int (g i j) s.toks) { s with toks:=s.toks+1 }->wpAny (model X.prog X.w) X.A (f (.int i t) (.int j u)) Q E s) :
  OpR X f (rI C λi j=>.int (g i j)):=by
 intro pins s σ H x y v u Q I F D h;obtain⟨i,j,rfl,rfl,J,q⟩:=h;obtain⟨t,rfl⟩:=F;obtain⟨z,rfl⟩:=D;exact rule i j t z s _ _ J ⟨.int (g i j),H,I.tok _,⟨_,rfl⟩,q⟩
theorem opI0 {f:Ag->Ag->Sem Ag}{g:Int->Int->Int}
  (rule:∀(i j:Int) (t u:Tok) (s:Ab) (Q:Ag->Ab->Prop) (E:Ag->Ab->Prop),Q (.int (g i j) s.toks) { s with toks:=s.toks+1 }->wpAny (model X.prog X.w) X.A (f (.int i t) (.int j u)) Q E s) :
  OpR X f (rI0 λi j=>.int (g i j)):=by
 intro pins s σ H x y v u Q I F D h;obtain⟨i,j,rfl,rfl,q⟩:=h;obtain⟨t,rfl⟩:=F;obtain⟨z,rfl⟩:=D;exact rule i j t z s _ _ ⟨.int (g i j),H,I.tok _,⟨_,rfl⟩,q⟩
theorem opB0 {f:Ag->Ag->Sem Ag}{g:Int->Int->Bool}
  (rule:∀(i j:Int) (t u:Tok) (s:Ab) (Q:Ag->Ab->Prop) (E:Ag->Ab->Prop),Q (.bool (g i j)) s->wpAny (model X.prog X.w) X.A (f (.int i t) (.int j u)) Q E s) :
  OpR X f (rI0 λi j=>.bl (g i j)):=by
 intro pins s σ H x y v u Q I F D h;obtain⟨i,j,rfl,rfl,q⟩:=h;obtain⟨t,rfl⟩:=F;obtain⟨z,rfl⟩:=D;exact rule i j t z s _ _ ⟨.bl (g i j),H,I,rfl,q⟩
def CPow (i j:Int):Prop:=0<=j/\j<=1000000/\i.natAbs<2 ^ 64
theorem xj:OpR X (binaryOp .Add) (rI0 λi j=>.int (i+j)):=opI0 λ_ _ _ _ _ _ _ q=>add_int q
theorem zd:OpR X (binaryOp .Sub) (rI0 λi j=>.int (i-j)):=opI0 λ_ _ _ _ _ _ _ q=>sub_int q
theorem yk:OpR X (binaryOp .Mod) (rI (λ_ j=>0<j) λi j=>.int (i%j)):=opI λi j _ _ _ _ _ hc q=>by have h1:(0:Int)<j:=hc;exact mod_int' ⋯ (by rw[Int.fmod_eq_emod_of_nonneg i ⋯];exact q)
theorem op_pow:OpR X (binaryOp .Pow) (rI CPow λi j=>.int (i ^ j.toNat)):=opI λ_ _ _ _ _ _ _ hc q=>pow_int_small hc.1 hc.2.1 hc.2.2 q
theorem unI {f:Ag->Sem Ag}{g:Int->Int}
  (rule:∀(i:Int) (t:Tok) (s:Ab) (Q:Ag->Ab->Prop) (E:Ag->Ab->Prop),Q (.int (g i) s.toks) { s with toks:=s.toks+1 }->wpAny (model X.prog X.w) X.A (f (.int i t)) Q E s) :
  UnR X f (rU λi=>.int (g i)):=by
 intro pins s σ H x v Q I z h;obtain⟨i,rfl,q⟩:=h;obtain⟨t,rfl⟩:=z;exact rule i t s _ _ ⟨.int (g i),H,I.tok _,⟨_,rfl⟩,q⟩
theorem yj:UnR X (unaryOp .USub) (rU λi=>.int (-i)):=unI λ_ _ _ _ _ q=>neg_int q
end
def scal:V->V->Bool
 |.non,.non=>true|.non,.int _=>true|.int _,.non=>true|.non,.bl _=>true|.bl _,.non=>true|.non,.str _=>true|.str _,.non=>true
 |.int _,.int _=>true|.bl _,.bl _=>true|.str _,.str _=>true|.byt _,.byt _=>true
 |.int _,.str _=>true|.str _,.int _=>true|.bl _,.str _=>true|.str _,.bl _=>true
 |_,_=>false
def rEq:R2:=λx y H Q=>scal x y=true/\Q (.bl (decide (x=y))) H
theorem xv9 {i j:Int}:decide (V.int i=V.int j)=(i==j):=by rw[cA];simp
theorem dec_bl {i j:Bool}:decide (V.bl i=V.bl j)=(i==j):=by rw[cA];simp
theorem xj1 {i j:Str}:decide (V.str i=V.str j)=(i==j):=by rw[cA];simp
theorem xjf {i j:Array UInt8}:decide (V.byt i=V.byt j)=(i.toList==j.toList):=by rw[cA];cases i;cases j;simp
section
variable {X:Cx}{a b c:Expr}{ta tb tc:TE}{pos:Pos}
theorem kf {pins:List (Aj×Obj)}{σ:St}{H:Hp}{s:Ab}{Q:VK}{k k':Bool}(I:Inv X pins σ H s)(q:Q (.bl k) H)(e:k=k'):EP X pins σ Q (.bool k') s:=by subst e;exact⟨.bl k,H,I,rfl,q⟩
theorem j8:OpR X (compareOp .Eq) rEq:=by
 intro pins s σ H x y v u Q I F z h;obtain⟨hs,q⟩:=h;cases x with
 |non =>
  cases F;cases y with
  |non=>cases z;exact PySem.EqNone.eq_none_none (kf I q (by simp))
  |bl j=>cases z;exact PySem.EqNone.eq_none_bool (kf I q (by simp))
  |int j=>obtain⟨D,rfl⟩:=z;exact PySem.EqNone.eq_none_int (kf I q (by simp))
  |str j=>obtain⟨D,rfl⟩:=z;exact PySem.EqNone.eq_none_str (kf I q (by simp))
  |_=>exact absurd (show false=true from hs) aI
 |bl i =>
  cases F;cases y with
  |non=>cases z;exact PySem.EqNone.eq_bool_none (kf I q (by simp))
  |bl j=>cases z;exact eq_bool (kf I q dec_bl)
  |str j=>obtain⟨D,rfl⟩:=z;exact PySem.EqMixed.eq_bool_str (kf I q (by simp))
  |_=>exact absurd (show false=true from hs) aI
 |int i =>
  obtain⟨t,rfl⟩:=F;cases y with
  |non=>cases z;exact PySem.EqNone.eq_int_none (kf I q (by simp))
  |int j=>obtain⟨D,rfl⟩:=z;exact eq_int (kf I q xv9)
  |str j=>obtain⟨D,rfl⟩:=z;exact PySem.EqMixed.eq_int_str (kf I q (by simp))
  |_=>exact absurd (show false=true from hs) aI
 |str i =>
  obtain⟨t,rfl⟩:=F;cases y with
  |non=>cases z;exact PySem.EqNone.eq_str_none (kf I q (by simp))
  |bl j=>cases z;exact PySem.EqMixed.eq_str_bool (kf I q (by simp))
  |int j=>obtain⟨D,rfl⟩:=z;exact PySem.EqMixed.eq_str_int (kf I q (by simp))
  |str j=>obtain⟨D,rfl⟩:=z;exact eq_str (kf I q xj1)
  |_=>exact absurd (show false=true from hs) aI
 |byt i =>
  obtain⟨t,rfl⟩:=F;cases y with
  |byt j=>obtain⟨D,rfl⟩:=z;exact W.eq_bytes (kf I q xjf)
  |_=>exact absurd (show false=true from hs) aI
 |_=>cases y <;> exact absurd (show false=true from hs) aI
theorem Zf:OpR X (compareOp .Lt) (rI0 λi j=>.bl (decide (i<j))):=opB0 λ_ _ _ _ _ _ _ q=>lt_int q
theorem qz5:OpR X (compareOp .LtE) (rI0 λi j=>.bl (decide (i<=j))):=opB0 λ_ _ _ _ _ _ _ q=>le_int q
theorem Q9:OpR X (compareOp .Gt) (rI0 λi j=>.bl (decide (j<i))):=opB0 λ_ _ _ _ _ _ _ q=>gt_int q
theorem wkv:OpR X (compareOp .GtE) (rI0 λi j=>.bl (decide (j<=i))):=opB0 λ_ _ _ _ _ _ _ q=>ge_int q
theorem op_isN:OpR X (compareOp .Is) (λx y H Q=>y=.non/\Q (.bl (decide (x=.non))) H):=by
 intro pins s σ H x y v u Q I z D h;obtain⟨rfl,q⟩:=h;cases D;refine is_none_gen (kf I q ?_);cases x <;> first
  |(cases z;rfl)
  |(obtain⟨t,rfl⟩:=z;rfl)
theorem wjp:OpR X (compareOp .IsNot) (λx y H Q=>y=.non/\Q (.bl (!decide (x=.non))) H):=by
 intro pins s σ H x y v u Q I z D h;obtain⟨rfl,q⟩:=h;cases D;refine isnot_none_gen (kf I q ?_);cases x <;> first
  |(cases z;rfl)
  |(obtain⟨t,rfl⟩:=z;rfl)
theorem xv (b:Expr){op:CmpOp}(h:autoParam (op≠.In) aU1._auto_1)(h2:autoParam (op≠.NotIn) aU1._auto_1):behindInMarks op b=false:=by
 have D:(op==CmpOp.In)=false:=by cases op <;> first | rfl | exact absurd rfl h
 have z:(op==CmpOp.NotIn)=false:=by cases op <;> first | rfl | exact absurd rfl h2
 cases b <;> simp[behindInMarks,D,z]
theorem Yv {op:CmpOp}{r:R2}(ho:OpR X (compareOp op) r)(ha:PE X a ta)(hb:PE X b tb)(hm:behindInMarks op b=false):PE X (.Compare a [op] [b] pos) (tOp r ta tb):=by intro pins s σ H Q I h;exact wpAny_Compare1 (binT ha hb I h λv u s2 x y H2 F D z q=>ho pins s2 σ H2 x y v u Q F D z q) hm
def xvc (t:TE):TT:=λσ H Q=>t σ H λx H'=>∃k,x=.bl k/\Q k H'
theorem w8 {op:CmpOp}{r:R2}(ho:OpR X (compareOp op) r)(ha:PE X a ta)(hb:PE X b tb)(hm:behindInMarks op b=false):PT X (.Compare a [op] [b] pos) (xvc (tOp r ta tb)):=by
 intro pins s σ H Q I h;refine wpAny_isTrue_Compare1 (thn (ha pins s σ H _ I h) λv s1 ⟨x,H1,I1,r1,q1⟩=>thn (hb pins s1 σ H1 _ I1 q1) λu s2 ⟨y,H2,I2,r2,q2⟩ =>
  thn (ho pins s2 σ H2 x y v u _ I2 r1 r2 q2) λc s3 ⟨z,H3,I3,r3,k,e,q3⟩=>?_) hm
 subst e;cases r3;exact cX ⟨H3,I3,q3⟩
theorem qyp:(sizeLine:Nat)<2 ^ 63:=by rw[dJ];decide
theorem yy {x:V}{us:List Ag}(r:Vals [x] us):∃u,us=[u]/\RelV x u:=by
 cases r with
 |cons r1 r2=>cases r2;exact⟨_,rfl,r1⟩
theorem xwg {x y:V}{us:List Ag}(r:Vals [x,y] us):∃u w',us=[u,w']/\RelV x u/\RelV y w':=by
 cases r with
 |cons r1 r2 =>
  cases r2 with
  |cons r3 r4=>cases r4;exact⟨_,_,rfl,r1,r3⟩
theorem W9:js X (.builtin "abs") (λxs H Q=>∃i,xs=[.int i]/\Q (.int (if i<0 then -i else i)) H):=by intro pins s σ H xs us Q I r h;obtain⟨i,rfl,q⟩:=h;obtain⟨u,rfl,t,rfl⟩:=yy r;exact call_abs_int λu tk=>⟨.int (if i<0 then -i else i),H,I.tok _,⟨_,rfl⟩,q⟩
theorem Zz (hc:X.calm=true):js X (.builtin "max") (λxs H Q=>∃i j,xs=[.int i,.int j]/\Q (.int (if j>i then j else i)) H):=by
 intro pins s σ H xs us Q I r h;obtain⟨i,j,rfl,q⟩:=h;obtain⟨u,z,rfl,⟨t,rfl⟩,⟨D,rfl⟩⟩:=xwg r;refine max_two_ints (I.ok.hd hc) λh' tk k=>⟨_,H,I.kept k,?_,q⟩;by_cases hj:j>i
 .rw[aw hj,aw hj];exact⟨_,rfl⟩
 .rw[ar hj,ar hj];exact⟨_,rfl⟩
theorem Zv (hc:X.calm=true):js X (.builtin "min") (λxs H Q=>∃i j,xs=[.int i,.int j]/\Q (.int (if j<i then j else i)) H):=by
 intro pins s σ H xs us Q I r h;obtain⟨i,j,rfl,q⟩:=h;obtain⟨u,z,rfl,⟨t,rfl⟩,⟨D,rfl⟩⟩:=xwg r;refine min_two_ints (I.ok.hd hc) λh' tk k=>⟨_,H,I.kept k,?_,q⟩;by_cases hj:j<i
 .rw[aw hj,aw hj];exact⟨_,rfl⟩
 .rw[ar hj,ar hj];exact⟨_,rfl⟩
end
structure ObjM (h:Heap)(x dx C:Aj)(mA:Str->Option Ag):Prop where
 obj:h.get? x=some (W.instObj C dx)
 ns:h.Ns1 dx mA
 ne:dx≠x
theorem wy4 {h:Heap}{dx:Aj}{mA:Str->Option Ag}(n:h.Ns1 dx mA):∃od,h.get? dx=some od/\∀name,W.lookIn name od=some (mA name):=by
 obtain⟨o,es,ep,ho,hd,hk,_,hm⟩:=n;refine⟨o,ho,λname=>?_⟩;have e:=hm name;unfold nsFind findBy at e;rw[<-Array.find?_toList]at e;unfold W.lookIn;rw[hd];dsimp only;split
 .rename_i y q;rw[q]at e;exact b7 some e
 .rename_i q;rw[q]at e;have a:es.toList.any (·.refKey)=false:=by rw[List.any_eq_false];intro y hy;obtain⟨z,t,hkey⟩:=hk y (gM.mp hy);simp[DictEntry.refKey,hkey]
  have a':¬ es.toList.any (·.refKey)=true:=by rw[a];exact aI
  rw[ar a'];exact b7 some e
theorem ObjM.look {h:Heap}{x dx C:Aj}{mA:Str->Option Ag}(I:ObjM h x dx C mA):∃od,W.InstAt h x (W.instObj C dx) C (some od)/\∀name,W.lookIn name od=some (mA name) :=
 let ⟨od,ho,hl⟩:=wy4 I.ns;⟨od,⟨I.obj,rfl,rfl,ho⟩,hl⟩
section
variable {prog:Ac}{w:Ah}{A:Ae}{E:Ag->Ab->Prop}{s:Ab}{K:Aa}{x dx C f:Aj}{mA:Str->Option Ag}{name:Str}{v:Ag}
theorem xkh {expr:Bool}{Q:Ag->Ab->Prop}(X:K.In s.heap)(I:ObjM s.heap x dx C mA)(hg:W.plainGet K C name=true)(hh:W.hasDictIn K C=true)
  (ha:W.findIn K (.ref C) name=some none) (hv:mA name=some v) (hv':W.handedIn v=true) (h:Q v { s with toks:=s.toks+1 }) :
  wpAny (model prog w) A (getAttr (.ref x) name expr) Q E s:=by
 obtain⟨D,J,z⟩:=I.look;exact W.get_value X J (gZ hg).1 (W.findObj_own hh ha rfl (by rw[z,hv])) hv' h
theorem xxd {pl:Sem Bool}{Q:Ag×List Ag->Ab->Prop}(X:K.In s.heap)(I:ObjM s.heap x dx C mA)(hg:W.plainGet K C name=true)
  (hf:W.findIn K (.ref C) name=some (some (.ref f))) (ht:W.isFn K (.ref f)=true) (hv:mA name=none) (h:Q (.ref f,[.ref x]) s) :
  wpAny (model prog w) A (getMethod (.ref x) name pl) Q E s:=by
 obtain⟨z,J,D⟩:=I.look;exact W.method_fn X J (gZ hg).1 (gZ hg).2 hf (fO.mp ht) (by show(W.lookIn name z).map (·.isSome)=some false;rw[D,hv];rfl) h
theorem xkx {ns:List Str}{Q:Unit->Ab->Prop}(X:K.In s.heap)(I:ObjM s.heap x dx C mA)
  (hs:W.findIn K (.ref C) "__setattr__" = some (some (.builtin "object.__setattr__"))) (hp:W.plainOver K C=true) (ht:W.takerIn K C name=some none) (hh:W.hasDictIn K C=true)
  (hw:PySem.Within mA ns) (hsz:ns.length<=sizeLine)
  (h:∀h',ObjM h' x dx C (λy=>if y=name then some v else mA y)->Heap.SameBut dx s.heap h'->Q () { s with heap:=h',toks:=s.toks+2 }) :
  wpAny (model prog w) A (setAttr (.ref x) name v) Q E s:=by
 obtain⟨od,J,hl⟩:=I.look;refine W.set_plain X J hs (W.osa_open (s:={ s with toks:=s.toks+1 }) (r:=none) X J hp ht λb=>?_);obtain⟨cd,hc,Z⟩:=W.any_some hh;have F:s.heap.get? x=some ⟨.ref C,some dx,.plain,#[]⟩:=I.obj;refine ac (ai (ac (ac (wpAny_loadPart F (ac (W.Looks.here (s:={ s with toks:=s.toks+1 }) (W.looks_clsIn X hc) ?_))))));rw[Z];refine ai (a:=some dx) (ac (ai (ac ?_)));refine wpAny_nsSet1 (s:={ s with toks:=s.toks+1 }) I.ns λh' D z=>?_;obtain⟨oD,ad,ah,L,U,ab⟩:=D.count (PySem.Within.cons name v hw);refine ac (wpAny_lookBehind L (by rw[U];exact pastItsLine_dict (bI ab (by rw[aJ];lia))) ?_);exact ai (h _ ⟨(z.2 _ (dF I.ne)).trans I.obj,D,I.ne⟩ z)
theorem xx6 {R:Result->Ab->Prop}{vs:List Ag}{kw:List (Str×Ag)}(X:K.In s.heap)(hm:W.makesIn K C=true)
  (hi:W.findIn K (.ref C) "__init__" = some (some (.ref f))) (hf:W.typeIn K (.ref f)=some (.type "function"))
  (h:codeAny (model prog w) (A.under (.builtin "type.__call__" ⟨.ref C::vs,kw⟩)) (.call (.ref f) ⟨.ref (s.heap.objs.size+1)::vs,kw⟩) (W.InitBack (s.heap.objs.size+1) R)
   { s with heap:=(s.heap.push W.emptyDict).push (W.instObj C s.heap.objs.size) }) :
  codeAny (model prog w) A (.call (.ref C) ⟨vs,kw⟩) R s:=by
 obtain⟨F,g,d,t,D⟩:=s;exact W.make_core (W.makes_of X hm) (W.looks_findIn X hi) (λz=>W.bind_fn X z hf) (.inl rfl) h
end
def Zu (f:Str)(v:V):List (Str×V)->List (Str×V)
 |[]=>[(f,v)]
 |(g,x)::r=>if g=f then(g,v)::r else(g,x)::Zu f v r
theorem qqr (f g:Str)(v:V):∀fs:List (Str×V),(Zu f v fs).lookup g=if g=f then some v else fs.lookup g
 |[]=>by
  show List.lookup g [(f,v)]=_;by_cases h:g=f
  .have hb:(g==f)=true:=fO.mpr h;simp only[List.lookup,hb,aw h]
  .have hb:(g==f)=false:=cD.mpr h;simp only[List.lookup,hb,ar h]
 |(k,x)::r=>by
  have ih:=qqr f g v r;rw[show Zu f v ((k,x)::r)=(if k=f then(k,v)::r else(k,x)::Zu f v r) from rfl];by_cases hk:k=f
  .rw[aw hk];by_cases h:g=k
   .have hb:(g==k)=true:=fO.mpr h;simp only[List.lookup,hb,aw (h.trans hk)]
   .have hb:(g==k)=false:=cD.mpr h;simp only[List.lookup,hb,ar (λe:g=f=>h (e.trans hk.symm))]
  .rw[ar hk];by_cases h:g=k
   .have hb:(g==k)=true:=fO.mpr h;simp only[List.lookup,hb,ar (λe:g=f=>hk (h.symm.trans e))]
   .have hb:(g==k)=false:=cD.mpr h;simp only[List.lookup,hb];exact ih
theorem qqw (f:Str)(v:V):∀fs:List (Str×V),f∈(Zu f v fs).map (·.1)/\∀g,g∈fs.map (·.1)->g∈(Zu f v fs).map (·.1)
 |[]=>⟨by simp[Zu],λg h=>by simp at h⟩
 |(k,x)::r=>by
  obtain⟨i1,i2⟩:=qqw f v r;rw[show Zu f v ((k,x)::r)=(if k=f then(k,v)::r else(k,x)::Zu f v r) from rfl];by_cases hk:k=f
  .rw[aw hk];subst hk;exact⟨by simp,λg h=>by simpa using h⟩
  .rw[ar hk];refine⟨?_,λg h=>?_⟩
   .rw[aC];exact bG _ i1
   .rw[aC]at h ⊢;rcases aO.mp h with e|e
    .exact aO.mpr (.inl e)
    .exact bG _ (i2 g e)
theorem qqt (f:Str)(v:V):∀fs:List (Str×V),(Zu f v fs).length<=fs.length+1
 |[]=>by simp[Zu]
 |(k,x)::r=>by
  have ih:=qqt f v r;rw[show Zu f v ((k,x)::r)=(if k=f then(k,v)::r else(k,x)::Zu f v r) from rfl];by_cases hk:k=f
  .rw[aw hk,aJ,aJ];lia
  .rw[ar hk,aJ,aJ];lia
theorem RelO.some_of {v:V}{o:Option Ag}(r:RelO (some v) o):∃u,o=some u/\RelV v u:=by
 cases o with
 |none=>exact(show False from r).elim
 |some u=>exact⟨u,rfl,r⟩
theorem RelO.none_of {o:Option Ag}(r:RelO none o):o=none:=by
 cases o with
 |none=>rfl
 |some u=>exact(show False from r).elim
theorem wuh {v:V}{u:Ag}(r:RelV v u):W.handedIn u=true:=by
 cases v with
 |non=>cases(show u=Value.none from r);rfl
 |bl b=>cases(show u=Value.bool b from r);rfl
 |int i=>obtain⟨t,e⟩:=(show ∃t,u=Value.int i t from r);cases e;rfl
 |str x=>obtain⟨t,e⟩:=(show ∃t,u=Value.str x t from r);cases e;rfl
 |byt b=>obtain⟨t,e⟩:=(show ∃t,u=Value.bytes b t from r);cases e;rfl
 |flt b=>obtain⟨t,e⟩:=(show ∃t,u=Value.float b t from r);cases e;rfl
 |ref a=>cases(show u=Value.ref a from r);rfl
 |ty n=>cases(show u=Value.type n from r);rfl
section
variable {P:Ac}{w:Ah}{H H':Hp}{h h':Heap}{a C dx:Aj}{fs fs':List (Str×V)}
theorem qw1 (hok:HOk P w H h)(e:H a=some (.ins C dx fs)):∃mA,ObjM h a dx C mA/\(∀f,RelO (fs.lookup f) (mA f))/\PySem.Within mA (fs.map (·.1))/\fs.length<=1000/\H dx=some (.own a):=by obtain⟨d,z,F,D,mA,n,r,q⟩:=(show ObjOk P w H h a (.ins C dx fs) from hok a _ e);exact⟨mA,⟨D,n,F⟩,r,q,z,d⟩
end
structure Cls (K:Aa)(C:Aj):Prop where
 pg:W.plainGet K C Str.empty=true
 hd:W.hasDictIn K C=true
 po:W.plainOver K C=true
 sa:W.findIn K (.ref C) "__setattr__" = some (some (.builtin "object.__setattr__"))
theorem Cls.get {K:Aa}{C:Aj}(c:Cls K C)(f:Str):W.plainGet K C f=true:=c.pg
def NoAttr (K:Aa)(C:Aj)(f:Str):Prop:=W.findIn K (.ref C) f=some none
theorem NoAttr.taker {K:Aa}{C:Aj}{f:Str}(n:NoAttr K C f):W.takerIn K C f=some none:=by unfold W.takerIn;rw[show W.findIn K (.ref C) f=some none from n];rfl
structure Con (K:Aa)(C:Aj)(f:Str)(v:V)(u:Ag):Prop where
 at_:W.findIn K (.ref C) f=some (some u)
 rel:RelV v u
 get:W.specialIn K u "__get__" = some none
 cp:W.copiedNames.contains f=false
structure Meth (K:Aa)(C:Aj)(m:Str)(f:Aj):Prop where
 at_:W.findIn K (.ref C) m=some (some (.ref f))
 fn:W.isFn K (.ref f)=true
 kp:W.keepIn K (.ref f)=true
section
variable {X:Cx}{pins:List (Aj×Obj)}{σ:St}{H:Hp}{s:Ab}{a C dx:Aj}{fs:List (Str×V)}{f:Str}{v:V}{A:Ae}{E:Ag->Ab->Prop}
theorem wvv {b:Bool}{Q:Ag->Ab->Prop}(I:Inv X pins σ H s)(e:H a=some (.ins C dx fs))(c:Cls X.K C)(n:NoAttr X.K C f)(l:fs.lookup f=some v)
  (h:∀u s',Inv X pins σ H s'->RelV v u->Q u s'):wpAny (model X.prog X.w) A (getAttr (.ref a) f b) Q E s:=by
 obtain⟨mA,O,r,_,_,_⟩:=qw1 I.hok e;obtain⟨u,D,z⟩:=RelO.some_of (v:=v) (o:=mA f) (by rw[<-l];exact r f);exact xkh I.kIn O (c.get f) c.hd n D (wuh z) (h u _ (I.tok _) z)
theorem qz1 {m:Str}{g:Aj}{pl:Sem Bool}{Q:Ag×List Ag->Ab->Prop}(I:Inv X pins σ H s)(e:H a=some (.ins C dx fs))(c:Cls X.K C)(k:Meth X.K C m g)(l:fs.lookup m=none)
  (h:Q (.ref g,[.ref a]) s):wpAny (model X.prog X.w) A (getMethod (.ref a) m pl) Q E s:=by
 obtain⟨mA,O,r,_,_,_⟩:=qw1 I.hok e;have z:mA m=none:=RelO.none_of (by rw[<-l];exact r m);exact xxd I.kIn O (c.get m) k.at_ k.fn z h
theorem wzp {y:V}{u:Ag}{Q:Unit->Ab->Prop}(I:Inv X pins σ H s)(e:H a=some (.ins C dx fs))(c:Cls X.K C)(n:NoAttr X.K C f)(hl:fs.length<1000)(ry:RelV y u)
  (h:∀s',Inv X pins σ (upd H a (.ins C dx (Zu f y fs))) s'->Q () s'):wpAny (model X.prog X.w) A (setAttr (.ref a) f u) Q E s:=by
 obtain⟨mA,O,r,wi,_,F⟩:=qw1 I.hok e;have L:(fs.map (·.1)).length<=sizeLine:=by rw[af,dJ];lia
 refine xkx I.kIn O c.sa c.po n.taker c.hd wi L λh' D J=>h _ ?_;have W:∃o,h'.get? dx=some o:=let ⟨o,_,_,e',_⟩:=D.ns;⟨o,e'⟩;refine I.write (x:=a) (e:=dx) (by rw[e];exact True.intro) (.inr F) (λb q Z z=>(J.2 b Z).trans z) W ?_;refine⟨by rw[wx O.ne];exact F,?_,O.ne,D.obj,_,D.ns,λg=>?_,λg U=>?_⟩
 .have:=qqt f y fs;lia
 .show RelO ((Zu f y fs).lookup g) (if g=f then some u else mA g);rw[qqr];by_cases q:g=f
  .rw[aw q,aw q];exact ry
  .rw[ar q,ar q];exact r g
 .by_cases q:g=f
  .rw[q];exact(qqw f y fs).1
  .refine(qqw f y fs).2 g (wi g λz=>U ?_);show(if g=f then some u else mA g)=none;rw[ar q];exact z
theorem Inv.made (I:Inv X pins σ H s):Inv X pins σ (upd (upd H s.heap.objs.size (.own (s.heap.objs.size+1))) (s.heap.objs.size+1) (.ins C s.heap.objs.size []))
  { s with heap:=(s.heap.push W.emptyDict).push (W.instObj C s.heap.objs.size) }:=by
 have D:(s.heap.push W.emptyDict).get? s.heap.objs.size=some W.emptyDict:=aA s.heap rfl;have U:((s.heap.push W.emptyDict).push (W.instObj C s.heap.objs.size)).get? (s.heap.objs.size+1)=some (W.instObj C s.heap.objs.size):=by have:=aA (s.heap.push W.emptyDict) (o:=W.instObj C s.heap.objs.size) rfl;rwa [cY]at this
 have L:(s.heap.push W.emptyDict).Ns s.heap.objs.size (λ_=>none):=⟨W.emptyDict,#[],_,D,rfl,(λe J=>absurd J (by simp)),λ_=>rfl⟩;have Z:=I.laid (a:=s.heap.objs.size) (o:=.own (s.heap.objs.size+1)) (h':=s.heap.push W.emptyDict) (t':=s.toks) (λb u q=>ag _ q) (ak _) ⟨_,D⟩;refine Z.laid (a:=s.heap.objs.size+1) (o:=.ins C s.heap.objs.size []) (t':=s.toks) (λb u q=>ag _ q) (Nat.le_of_eq (cY _ _)) ?_;have z:s.heap.objs.size≠s.heap.objs.size+1:=aB (d7 _);refine⟨by rw[wx z,qu],aQ _,z,U,λ_=>none,(Heap.Ns1.of_empty L).at λo q=>ag _ q,λ_=>True.intro,λy F=>absurd rfl F⟩
theorem xjs {prog:Ac}{w:Ah}{env:Env}{e:Expr}{f:Str}{pos:Pos}{s:Ab}{Q:Ag->Ab->Prop}(hb:attributeBase e f env (eval e env)=eval e env)
  (h:wpAny (model prog w) A (eval e env) (λo s₁=>wpAny (model prog w) A (getAttr o f true) Q E s₁) E s):wpAny (model prog w) A (eval (.Attribute e f pos) env) Q E s :=
 Attribute_any_ h (by rw[arm_eval_Attribute,hb])
end
def tFld (K:Aa)(ta:TE)(f:Str):TE:=λσ H Q=>ta σ H λx H1=>∃a C dx fs v,x=.ref a/\H1 a=some (.ins C dx fs)/\Cls K C/\NoAttr K C f/\fs.lookup f=some v/\Q v H1
def sFld (K:Aa)(ta tv:TE)(f:Str):TS:=λD σ H=>tv σ H λy H1=>ta σ H1 λx H2=>∃a C dx fs,x=.ref a/\H2 a=some (.ins C dx fs)/\Cls K C/\NoAttr K C f/\fs.length<1000 /\
 D.nx σ (upd H2 a (.ins C dx (Zu f y fs)))
section
variable {X:Cx}{o e value:Expr}{f:Str}{pos pos' tpos:Pos}{ta tv:TE}
theorem qj6 (he:PE X e ta)(hb:attributeBase e f X.env (eval e X.env)=eval e X.env):PE X (.Attribute e f pos) (tFld X.K ta f):=by intro pins s σ H Q I h;refine xjs hb (thn (he pins s σ H _ I h) λu s1 ⟨x,H1,I1,rx,a,C,dx,fs,v,ex,ea,c,n,l,q⟩=>?_);subst ex;obtain rfl:u=Value.ref a:=rx;exact wvv I1 ea c n l λF s2 D z=>⟨v,H1,D,z,q⟩
theorem ps_fld (ha:PE X o ta)(hv:PE X value tv)(hs:swapsWith value (some (.Attribute o f pos')) pos.line X.env=pure false):PS X (.Assign [.Attribute o f pos'] value pos) (sFld X.K ta tv f):=by intro pins s σ H D I h;refine plainObj_wpAny_Assign_Attribute (thn (hv pins s σ H _ I h) λu s1 ⟨y,H1,I1,ry,q⟩=>thn (ha pins s1 σ H1 _ I1 q) λov s2 ⟨x,H2,I2,rx,a,C,dx,fs,ex,ea,c,n,l,q2⟩=>?_) hs;subst ex;obtain rfl:ov=Value.ref a:=rx;exact wzp I2 ea c n l ry λF z=>⟨σ,_,z,q2⟩
end
section
variable {X:Cx}{pins:List (Aj×Obj)}{σ:St}{H:Hp}{s:Ab}{A:Ae}{E:Ag->Ab->Prop}{Q:Ag->Ab->Prop}{c:Ag}{b:Bool}
inductive TyOf (K:Aa) (H:Hp):V->Ag->Prop where
 |non:TyOf K H .non (.type "NoneType")
 |bl (x:Bool):TyOf K H (.bl x) (.type "bool")
 |int (i:Int):TyOf K H (.int i) (.type "int")
 |str (x:Str):TyOf K H (.str x) (.type "str")
 |flt (x:UInt64):TyOf K H (.flt x) (.type "float")
 |lst {a:Aj} {xs:List V} (e:H a=some (.lst xs)):TyOf K H (.ref a) (.type "list")
 |frz {a:Aj} {o:Obj} {xs:List V} (e:H a=some (.frz o (.lst xs))):TyOf K H (.ref a) (.type "list")
 |tup {a:Aj} {xs:List V} (e:H a=some (.tup xs)):TyOf K H (.ref a) (.type "tuple")
 |dK {a:Aj} {kvs:List (Key×V)} (e:H a=some (.dK kvs)):TyOf K H (.ref a) (.type "dict")
 |dT {a:Aj} {kvs:List (List Key×V)} (e:H a=some (.dT kvs)):TyOf K H (.ref a) (.type "dict")
 |ins {a C dx:Aj} {fs:List (Str×V)} (e:H a=some (.ins C dx fs)) (cl:Cls K C) (ha:W.findIn K (.ref C) "__class__" = some (some (.builtin "object.__class__")))
   (hn:W.specialIn K (.builtin "object.__class__") "__get__" = some (some (.builtin "getset_descriptor.__get__"))) (htk:W.takesIn K (.builtin "object.__class__")=some true)
   (hm:W.mroIn K C (.type "object")=some true):TyOf K H (.ref a) (.ref C)
theorem wyg {x:V}{u t:Ag}(I:Inv X pins σ H s)(rx:RelV x u)(ty:TyOf X.K H x t)(e:W.kitOne X.K t c=some b)(h:∀tk,Q (.bool b) { s with toks:=tk }) :
  wpAny (model X.prog X.w) A (call (.builtin "isinstance") [u,c]) Q E s:=by
 cases ty with
 |non=>cases(show u=Value.none from rx);exact cJ W.kitx_none I.kIn True.intro e (λz=>nomatch z) h
 |bl y=>cases(show u=Value.bool y from rx);exact cJ W.kitx_bool I.kIn True.intro e (λz=>nomatch z) h
 |int i=>obtain⟨t,q⟩:=(show ∃t,u=Value.int i t from rx);cases q;exact cJ W.kitx_int I.kIn True.intro e (λz=>nomatch z) h
 |str y=>obtain⟨t,q⟩:=(show ∃t,u=Value.str y t from rx);cases q;exact cJ W.kitx_str I.kIn True.intro e (λz=>nomatch z) h
 |flt y=>obtain⟨t,q⟩:=(show ∃t,u=Value.float y t from rx);cases q;exact cJ W.kitx_float I.kIn True.intro e (λz=>nomatch z) h
 |@lst a xs ea =>
  cases(show u=Value.ref a from rx);obtain⟨_,_,n,_,h1⟩:=(show ObjOk X.prog X.w H s.heap a (.lst xs) from I.hok a _ ea);exact cJ W.kitx_list I.kIn ⟨_,h1,rfl⟩ e (λz=>nomatch z) h
 |@frz a ob xs ea =>
  cases(show u=Value.ref a from rx);obtain⟨_,_,_,n,_,h1⟩:=(show ObjOk X.prog X.w H s.heap a (.frz ob (.lst xs)) from I.hok a _ ea);exact cJ W.kitx_list I.kIn ⟨_,h1,rfl⟩ e (λz=>nomatch z) h
 |@tup a xs ea =>
  cases(show u=Value.ref a from rx);obtain⟨_,_,_,p⟩:=(show ObjOk X.prog X.w H s.heap a (.tup xs) from I.hok a _ ea);obtain⟨o,h1,h2,_⟩:=p;exact cJ W.kitx_tuple I.kIn ⟨o,h1,h2⟩ e (λz=>nomatch z) h
 |@dK a kvs ea =>
  cases(show u=Value.ref a from rx);obtain⟨_,_,vs,_,p⟩:=(show ObjOk X.prog X.w H s.heap a (.dK kvs) from I.hok a _ ea);obtain⟨o,es,ep,h1,h2,_⟩:=p;exact cJ W.kitx_dict I.kIn ⟨o,h1,h2.1⟩ e (λz=>nomatch z) h
 |@dT a kvs ea =>
  cases(show u=Value.ref a from rx);obtain⟨_,_,xs,_,o,es,ep,h1,h2,_⟩:=(show ObjOk X.prog X.w H s.heap a (.dT kvs) from I.hok a _ ea);exact cJ W.kitx_dict I.kIn ⟨o,h1,h2.1⟩ e (λz=>nomatch z) h
 |@ins a C dx fs ea cl ha hn htk hm =>
  cases(show u=Value.ref a from rx);obtain⟨mA,O,_⟩:=qw1 I.hok ea;obtain⟨D,J,_⟩:=O.look;exact cJ (W.kitx_own (cl.get _) cl.hd ha hn htk hm) I.kIn J e (λz=>nomatch z) h
end
structure Room (k:Nat)(A:Ae):Prop where
 hd:A.handled=none
 dp:A.depth+3*k+5<recursionLimit
 un:A.units+16*k+200<cLine
theorem Room.mono {j k:Nat}{A:Ae}(r:Room k A)(h:j<=k):Room j A:=⟨r.hd,by have:=r.dp;lia,by have:=r.un;lia⟩
theorem Room.deeper {k:Nat}{A:Ae}(r:Room (k+1) A)(env:Env):Room k (A.deeper env) :=
 ⟨r.hd,by have:=r.dp;show A.depth+1+3*k+5<_;lia,by have:=r.un;show A.units+3+16*k+200<_;lia⟩
theorem Room.in1 {k:Nat}{A:Ae}(r:Room (k+1) A):Room k A.in1 :=
 ⟨r.hd,by have:=r.dp;show A.depth+3*k+5<_;lia,by have:=r.un;show A.units+1+16*k+200<_;lia⟩
theorem wvq {A:Ae}{C:Aj}{us:List Ag}{kw:List (Str×Ag)}:(A.under (.builtin "type.__call__" ⟨.ref C::us,kw⟩)).depth=A.depth+1:=by
 first | rfl | simp[Around.under,Code.weight,Code.isCreation,Code.isGuard,Code.isCaller,Code.frames,Code.isFrame,guardIds]
theorem wx1 {A:Ae}{C:Aj}{us:List Ag}{kw:List (Str×Ag)}:(A.under (.builtin "type.__call__" ⟨.ref C::us,kw⟩)).units=A.units+1:=by
 first | rfl | simp[Around.under,Code.cUnits,Code.frames,Code.isFrame]
theorem Room.make {k:Nat}{A:Ae}(r:Room (k+1) A)(C:Aj)(us:List Ag)(kw:List (Str×Ag)):Room k (A.under (.builtin "type.__call__" ⟨.ref C::us,kw⟩)) :=
 ⟨r.hd,by have:=r.dp;rw[wvq];lia,by have:=r.un;rw[wx1];lia⟩
theorem Room.depth {k:Nat}{A:Ae}(r:Room k A):A.depth<recursionLimit:=by have:=r.dp;lia
theorem Room.units {k:Nat}{A:Ae}(r:Room k A):A.units+64<cLine:=by have:=r.un;lia
def qxd:TA:=λ_ H Q=>Q [] H
def uj (ta:TE)(tr:TA):TA:=λσ H Q=>ta σ H λx H1=>tr σ H1 λxs H2=>Q (x::xs) H2
section
variable {X:Cx}{e:Expr}{es:List Expr}{te:TE}{t:TA}{pos:Pos}
theorem qk:PA X [] qxd:=λ_ _ _ _ H Q I h=>iI ⟨[],H,I,.nil,h⟩
theorem qw (ha:PE X e te)(hr:PA X es t)(hs:autoParam (starEach (e::es) X.env=(false,eval e X.env)::starEach es X.env) aU4._auto_1):PA X (e::es) (uj te t):=by intro pos pins s σ H Q I h;rw[hs];show wpAny _ _ (spliced ((false,eval e X.env)::backTo pos (starEach es X.env))) _ _ s;refine ib (thn (ha pins s σ H _ I h) λu s1 ⟨x,H1,I1,r1,q1⟩=>?_);exact thn (hr pos pins s1 σ H1 _ I1 q1) λus s2 ⟨xs,H2,I2,r2,q2⟩=>⟨x::xs,H2,I2,.cons r1 r2,q2⟩
def tTup (t:TA):TE:=λσ H Q=>t σ H λxs H1=>xs.length<=sizeLine/\∀p,H1 p=none->Q (.ref p) (upd H1 p (.tup xs))
def tLst (t:TA):TE:=λσ H Q=>t σ H λxs H1=>xs.length<=sizeLine/\∀p,H1 p=none->Q (.ref p) (upd H1 p (.lst xs))
theorem vy {x1}(h:PA X es t):PE X (.Tuple es x1 pos) (tTup t):=by intro pins s σ H Q I D;refine wpAny_Tuple_spliced (thn (h pos pins s σ H _ I D) λus s1 ⟨xs,H1,I1,r,z,q⟩=>⟨by rw[<-r.length];exact z,?_⟩);have F:H1 s1.heap.objs.size=none:=I1.hok.fresh (ak _);refine⟨.ref s1.heap.objs.size,upd H1 s1.heap.objs.size (.tup xs),I1.laid (t':=s1.toks) (λb u e=>ag _ e) (ak _) ?_,rfl,q _ F⟩;exact⟨z,us,r,⟨_,aA _ rfl,rfl,_,rfl⟩⟩
theorem vt (h:PA X es t):PE X (.List es pos) (tLst t):=by intro pins s σ H Q I D;refine wpAny_List_spliced (thn (h pos pins s σ H _ I D) λus s1 ⟨xs,H1,I1,r,z,q⟩=>⟨by rw[<-r.length];exact z,?_⟩);have F:H1 s1.heap.objs.size=none:=I1.hok.fresh (ak _);refine⟨.ref s1.heap.objs.size,upd H1 s1.heap.objs.size (.lst xs),I1.laid (t':=s1.toks) (λb u e=>ag _ e) (ak _) ?_,rfl,q _ F⟩;exact⟨z,us,0,r,aA _ rfl⟩
end
abbrev Sp:=List V->Hp->VK->XK->Prop
abbrev CXT:=List Env->Hp->Ab->XK->Ag->Ab->Prop
structure Env0 (P:Ac)(w:Ah)(K:Aa)(mg:Str->Option Ag)(base:Heap)(A:Ae)(outer:List Env)(s:Ab)(H:Hp):Prop where
 frames:A.frames=some outer
 mod:Mod K mg base
 bs:∀b o,base.get? b=some o->s.heap.get? b=some o/\H b=none
 bsz:base.objs.size<=s.heap.objs.size
 funs:s.heap.FunFrames base outer
 frf:∀b∈frs outer,H b=none
 hok:HOk P w H s.heap
 bare:AllBare s.gens
def CE (outer:List Env)(P:Ac)(w:Ah)(H:Hp)(s:Ab)(Q:VK)(u:Ag)(s':Ab):Prop :=
 ∃v H',s'.os=s.os/\AllBare s'.gens/\Un (frs outer) [] H H' s.heap s'.heap/\HOk P w H' s'.heap/\RelV v u/\Q v H'
def CR (CX:CXT)(outer:List Env)(P:Ac)(w:Ah)(H:Hp)(s:Ab)(Q:VK)(E:XK)(r:Result)(s':Ab):Prop :=
 match r with
 |.ok (.ret u)=>CE outer P w H s Q u s'
 |.ok _=>False
 |.error e=>CX outer H s E e s'
structure FnOk (P:Ac)(w:Ah)(K:Aa)(mg:Str->Option Ag)(base:Heap)(CX:CXT)(k:Nat)(f:Aj)(fd:Ad)(ps:List Str)(sp:Sp):Prop where
 len:∀vs H Q E,sp vs H Q E->vs.length=ps.length
 run:∀(A:Ae) (outer:List Env) (s:Ab) (H:Hp) (args:Args) (us:List Ag) (vs:List V) (Q:VK) (E:XK),Room k A->Env0 P w K mg base A outer s H->BindsTo s fd args (ps.zip us)->Vals vs us->sp vs H Q E ->
  codeAny (model P w) A (.call (.ref f) args) (CR CX outer P w H s Q E) s
theorem Env0.make {P:Ac}{w:Ah}{K:Aa}{mg:Str->Option Ag}{base:Heap}{A:Ae}{outer:List Env}{s:Ab}{H:Hp}(e:Env0 P w K mg base A outer s H)(C:Aj)(us:List Ag)(kw:List (Str×Ag)) :
  Env0 P w K mg base (A.under (.builtin "type.__call__" ⟨.ref C::us,kw⟩)) outer s H:=⟨by first | exact e.frames | (simpa [Around.under,Code.envs,Code.isFrame,pushEnvs] using e.frames),e.mod,e.bs,e.bsz,e.funs,e.frf,e.hok,e.bare⟩
theorem Env0.in1 {P:Ac}{w:Ah}{K:Aa}{mg:Str->Option Ag}{base:Heap}{A:Ae}{outer:List Env}{s:Ab}{H:Hp}(e:Env0 P w K mg base A outer s H) :
  Env0 P w K mg base A.in1 outer s H:=⟨e.frames,e.mod,e.bs,e.bsz,e.funs,e.frf,e.hok,e.bare⟩
section
variable {X:Cx}{pins:List (Aj×Obj)}{σ:St}{H:Hp}{s s':Ab}
theorem Inv.env0 (I:Inv X pins σ H s):Env0 X.prog X.w X.K X.mg X.base X.A X.stack s H :=
 ⟨I.ok.frames,I.ok.mod,I.bs,bI I.ok.bsz I.sz,I.stack,I.stkFree,I.hok,I.bare⟩
theorem Inv.after {Q:VK}{u:Ag}(I:Inv X pins σ H s)(h:CE X.stack X.prog X.w H s Q u s'):EP X pins σ Q u s':=by obtain⟨v,H',J,W,D,L,r,q⟩:=h;obtain⟨U,g,d,t,F⟩:=s';obtain rfl:F=s.os:=J;exact⟨v,H',I.call (h':=U) (g':=g) (d':=d) (t':=t) (ch:=[]) D L W (λb z=>absurd z (by simp)),r,q⟩
end
def Binds (K:Aa)(fd:Ad)(ps:List Str)(ds:List Ag):Prop :=
 ∀(s:Ab) (us:List Ag),K.In s.heap->(us++ds).length=ps.length->BindsTo s fd ⟨us,[]⟩ (ps.zip (us++ds))
theorem Binds.all {K:Aa}{fd:Ad}{ps:List Str}(h:∀us:List Ag,us.length=ps.length->bindArgs fd ⟨us,[]⟩=pure (ps.zip us)):Binds K fd ps []:=λs us _ hl=>by rw[bE]at hl ⊢;exact .of_eq (h us hl)
section
variable {X:Cx}{CX:CXT}{k:Nat}{f C:Aj}{fd:Ad}{ps:List Str}{sp:Sp}{dvs:List V}{ds:List Ag}{E:XK}{x m:Str}{p pos apos:Pos}{e o:Expr}{es:List Expr}{ta:TE}{t:TA}
structure Mk (K:Aa)(C f:Aj):Prop where
 makes:W.makesIn K C=true
 init:W.findIn K (.ref C) "__init__" = some (some (.ref f))
 fn:W.isFn K (.ref f)=true
 kp:W.keepIn K (.ref C)=true
end
def PK (X:Cx)(kws:List Keyword)(t:TA):Prop :=
 ∀(pos:Pos) (pins:List (Aj×Obj)) (s:Ab) (σ:St) (H:Hp) (Q:List V->Hp->Prop),Inv X pins σ H s->t σ H Q->wpAny (model X.prog X.w) X.A (evalAll ((backToKw pos (keywordEach kws X.env)).map (·.2))) (AP X pins σ Q) X.xe s
section
variable {X:Cx}{CX:CXT}{k:Nat}{f C:Aj}{fd:Ad}{ps ks:List Str}{sp:Sp}{E:XK}{x m:Str}{p pos apos kpos:Pos}{e o:Expr}{es:List Expr}{kws:List Keyword}{te ta:TE}{t tk:TA}{nm:Option Str}
theorem xvp:PK X [] qxd:=λ_ _ _ _ H Q I h=>wpAny_evalAll_nil ⟨[],H,I,.nil,h⟩
theorem wk1 (ha:PE X e te)(hr:PK X kws t):PK X (⟨nm,e,kpos⟩::kws) (uj te t):=by intro pos pins s σ H Q I h;show wpAny _ _ (evalAll ((do let v <-eval e X.env;standAt pos;pure v)::(backToKw pos (keywordEach kws X.env)).map (·.2))) _ _ s;refine wpAny_evalAll_cons (ac (thn (ha pins s σ H _ I h) λu s1 ⟨x,H1,I1,r1,q1⟩=>ac (dh (ai ?_))));exact thn (hr pos pins s1 σ H1 _ I1 q1) λus s2 ⟨xs,H2,I2,r2,q2⟩=>⟨x::xs,H2,I2,.cons r1 r2,q2⟩
structure KBinds (K:Aa)(fd:Ad)(ps ks:List Str)(g:List Ag->List Ag->List Ag)(gV:List V->List V->List V):Prop where
 to:∀(s:Ab) (us ws:List Ag),K.In s.heap->(g us ws).length=ps.length->BindsTo s fd ⟨us,ks.zip ws⟩ (ps.zip (g us ws))
 rel:∀ {vs:List V} {us:List Ag} {zs:List V} {ws:List Ag},Vals vs us->Vals zs ws->Vals (gV vs zs) (g us ws)
variable {g:List Ag->List Ag->List Ag}{gV:List V->List V->List V}
end
structure FnScope (N P:List Str)(sc:Scope):Prop where
 kind:sc.kind=.function
 co:sc.isCoroutine=false
 gen:sc.isGenerator=false
 nd:N.Nodup
 pre:N.take P.length=P
 par:∀x∈P,sc.names.lookup x=some .local\/sc.names.lookup x=some .cell
 nofree:∀y∈sc.names,y.2≠.free
theorem qjz {kindOf:Str->Option NameKind}{x:Str}:∀ {binds:List (Str×Ag)} {m:Str->Option Ag},(∀v,(x,v)∉binds)->bindL kindOf binds m x=m x
 |[],_,_=>rfl
 |(n,v)::r,m,h=>by
  unfold bindL;rw[qjz λw hw=>h w (bG _ hw)];split
  .have:x≠n:=by rintro rfl;exact h v dN
   simp[this]
  .rfl
theorem qkg {kindOf:Str->Option NameKind}{x:Str}:∀ {binds:List (Str×Ag)} {m:Str->Option Ag},(∀v,(x,v)∉binds)->bindC kindOf binds m x=m x
 |[],_,_=>rfl
 |(n,v)::r,m,h=>by
  unfold bindC;rw[qkg λw hw=>h w (bG _ hw)];split
  .rfl
  .have:x≠n:=by rintro rfl;exact h v dN
   simp[this]
theorem qju {kindOf:Str->Option NameKind}{x:Str}{v:Ag}:∀ {P:List Str} {vs:List Ag} {i:Nat} {m:Str->Option Ag},P.Nodup->P[i]?=some x->vs[i]?=some v->kindOf x=some .local ->
  bindL kindOf (P.zip vs) m x=some v
 |[],_,_,_,_,h,_,_=>by simp at h
 |_::_,[],_,_,_,_,h,_=>by simp at h
 |p::P,w::vs,0,m,nd,h1,h2,hk=>by simp at h1 h2;subst h1;subst h2;show bindL kindOf ((p,w)::P.zip vs) m p=_;unfold bindL;rw[qjz λv hv=>(dc.mp nd).1 (jo hv).1,aw hk];simp
 |p::P,w::vs,i+1,m,nd,h1,h2,hk=>by show bindL kindOf ((p,w)::P.zip vs) m x=_;unfold bindL;exact qju (i:=i) (dc.mp nd).2 (by simpa using h1) (by simpa using h2) hk
theorem qjb {kindOf:Str->Option NameKind}{x:Str}{v:Ag}:∀ {P:List Str} {vs:List Ag} {i:Nat} {m:Str->Option Ag},P.Nodup->P[i]?=some x->vs[i]?=some v->kindOf x≠some .local ->
  bindC kindOf (P.zip vs) m x=some v
 |[],_,_,_,_,h,_,_=>by simp at h
 |_::_,[],_,_,_,_,h,_=>by simp at h
 |p::P,w::vs,0,m,nd,h1,h2,hk=>by simp at h1 h2;subst h1;subst h2;show bindC kindOf ((p,w)::P.zip vs) m p=_;unfold bindC;rw[qkg λv hv=>(dc.mp nd).1 (jo hv).1,ar hk];simp
 |p::P,w::vs,i+1,m,nd,h1,h2,hk=>by show bindC kindOf ((p,w)::P.zip vs) m x=_;unfold bindC;exact qjb (i:=i) (dc.mp nd).2 (by simpa using h1) (by simpa using h2) hk
def Zb (N:List Str)(vs:List V):St:=vs.map some++List.replicate (N.length-vs.length) none
def Ww (CX:CXT)(P:Ac)(w:Ah)(K:Aa)(mg:Str->Option Ag)(base:Heap)(N:List Str)(qual:Str)(scope:Scope)(f:Aj)(cd:Ag)(A:Ae)(outer:List Env)(s:Ab)(H:Hp)(E:XK):Cx where
 prog:=P
 w:=w
 K:=K
 mg:=mg
 base:=base
 A:=A.deeper (envOfC qual scope s.heap.objs.size f cd)
 N:=N
 s₀:=s
 H₀:=H
 env:=envOfC qual scope s.heap.objs.size f cd
 outer:=outer
 stack:=envOfC qual scope s.heap.objs.size f cd::outer
 ex:=[]
 calm:=true
 fn:=λ_=>true
 pn:=[]
 xe:=λe s'=>wpAny (model P w) (A.deeper (envOfC qual scope s.heap.objs.size f cd)) (leaving (envOfC qual scope s.heap.objs.size f cd) e) (λ_ s''=>CX outer H s E e s'') (λe' s''=>CX outer H s E e' s'') s'
theorem wxs {sc:Scope}{n:Nat}{x:Str}(h:sc.names.lookup x=some .cell):∃c,(cellsFrom n sc.names []).lookup x=some c:=by have q:=W.cellsFrom_some sc.names n [] (.inl h);exact Option.isSome_iff_exists.mp q
theorem wyf {CX:CXT}{P:Ac}{w:Ah}{K:Aa}{mg:Str->Option Ag}{base:Heap}{N ps:List Str}{qual:Str}{scope:Scope}{f:Aj}{cd:Ag}{A:Ae}{outer:List Env}{s s1:Ab}{H:Hp}{E:XK}{us:List Ag}{vs:List V}
  (S:FnScope N ps scope) (hd:A.handled=none) (e0:Env0 P w K mg base A outer s H) (hl:vs.length=ps.length) (r:Vals vs us)
  (x:InCallC s s.heap.objs.size (bindL (envOfC qual scope s.heap.objs.size f cd).kindOf (ps.zip us) λ_=>none) (cellsFrom (s.heap.objs.size+1) scope.names []) (bindC (envOfC qual scope s.heap.objs.size f cd).kindOf (ps.zip us) λ_=>none) s1) :
  Inv (Ww CX P w K mg base N qual scope f cd A outer s H E) [] (Zb N vs) H s1:=by
 have ab:ps.length<=N.length:=by have:=b7 List.length S.pre;rw[bC]at this;lia
 obtain⟨h1,tk,rfl,W⟩:=x.done;have J:∀b:Aj,b∉(Ww CX P w K mg base N qual scope f cd A outer s H E).ex:=λb z=>absurd (show b∈([]:List Aj) from z) (by simp);refine⟨⟨e0.mod,S.kind,rfl,rfl,ak _,λy z c h1 h2=>?_,λy D=>?_,λy c _ h=>?_,λ_=>hd,Around.frames_deeper e0.frames,.inr ⟨rfl,rfl⟩,λb z=>absurd z (J b),e0.bs,e0.bsz,λb _ _=>J b,λb z=>absurd z (J b),e0.funs,e0.frf⟩,
  rfl,e0.bare,Un.kept W,⟨_,x.toInCall.ns,λi y v h1 h2 h3=>?_⟩,λy c h=>⟨_,x.cell y c h⟩,e0.hok.fresh (ak _),λy c h=>?_,λp F=>absurd (show p∈([]:List (Aj×Obj)) from F) (by simp),e0.hok.kept W,?_⟩
 .exact name_of_addr x.apart (dE h1) (dE h2)
 .have D:scope.names.lookup y=some .cell\/scope.names.lookup y=some .free:=D;rcases D with D|D
  .exact wxs D
  .exact absurd rfl (S.nofree _ (dE D))
 .exact bp (x.above y c (dE h))
 .have hi:i<vs.length:=by
   unfold Zb at h2;by_cases hi:i<vs.length
   .exact hi
   .rw[aG (by simpa using hi)]at h2;rw[List.getElem?_replicate]at h2;split at h2 <;> cases h2
  have ha:vs[i]?=some v:=by
   unfold Zb at h2;rw[aU (by simpa using hi),ax]at h2;cases e:vs[i]? with
   |none=>rw[e]at h2;cases h2
   |some a=>rw[e]at h2;cases h2;rfl
  obtain⟨u,U,Z⟩:=r.get ha;have F:ps[i]?=some y:=by rw[<-S.pre,iO ⋯];exact h1
  have L:ps.Nodup:=by rw[<-S.pre];exact S.nd.sublist (List.take_sublist _ _)
  refine⟨u,Z,?_⟩;rcases S.par y (aE F) with k|k
  .exact .inl ⟨k,qju L F U k⟩
  .obtain⟨c,e⟩:=wxs (n:=s.heap.objs.size+1) k;refine .inr ⟨.inl k,c,e,?_⟩;have q:=x.cell y c e;rw[qjb L F U (by show scope.names.lookup y≠_;rw[k];decide)]at q;exact q
 .exact e0.hok.fresh (bp (x.above y c (dE h)))
 .unfold Zb;show _=N.length;rw[au,af,List.length_replicate];lia
theorem xzv {CX:CXT}{P:Ac}{w:Ah}{K:Aa}{mg:Str->Option Ag}{base:Heap}{k:Nat}{f:Aj}{name qual:Str}{params:Arguments}{body:List Stmt}{scope:Scope}{dV kV doc pm cdv ct oc:Ag}{an od:Option Aj}
  {osl:Array (Option Ag)} {N ps:List Str} {sp:Sp} (lk:K.lookup f=some ⟨oc,od,.func (W.fnOf name qual params body scope dV kV doc pm an cdv ct),osl⟩) (hcd:W.codeIn K cdv qual=true) (S:FnScope N ps scope)
  (len:∀vs H Q E,sp vs H Q E->vs.length=ps.length)
  (hbody:∀(A:Ae) (outer:List Env) (s:Ab) (H:Hp) (vs:List V) (Q:VK) (E:XK),Room k (A.deeper (envOfC qual scope s.heap.objs.size f cdv))->sp vs H Q E ->
   ∃t,PSs (Ww CX P w K mg base N qual scope f cdv A outer s H E) body t/\t { nx:=λ_ H'=>Q .non H',rt:=Q } (Zb N vs) H) :
  FnOk P w K mg base CX (k+1) f (W.fnOf name qual params body scope dV kV doc pm an cdv ct) ps sp:=by
 refine⟨len,λA outer s H as us vs Q E L z hb r Z=>?_⟩;have hl:=len _ _ _ _ Z;have KX:K.In s.heap:=z.mod.kin.keeps λb o e=>(z.bs b o e).1;have ad:s.heap.NoLimit:=z.mod.nolimit.keeps λb o e=>(z.bs b o e).1;have ah:∀y∈ps.zip us,scope.names.lookup y.1=some .local\/(scope.names.lookup y.1=some .cell/\((cellsFrom (s.heap.objs.size+1) scope.names []).lookup y.1).isSome=true):=λ⟨n,v⟩ hy=>by
  rcases S.par n (jo hy).1 with q|q
  .exact .inl q
  .exact .inr ⟨q,W.cellsFrom_some _ _ _ (.inl q)⟩
 refine codeAny_call_function L.depth (KX _ _ lk) rfl S.co S.gen rfl (W.codeRec_of KX hcd) (hb _ _ _ _ ?_);refine wpAny_newFunctionEnv_cells S.kind ah λap he U x=>?_;subst he;refine⟨ad.keeps x.toInCall.keep,codeAny_func ?_⟩;obtain⟨t,ht,hq⟩:=hbody A outer s H vs Q E (L.deeper _) Z;have I:Inv (Ww CX P w K mg base N qual scope f cdv A outer s H E) [] (Zb N vs) H U:=wyf S L.hd z hl r x;refine aY (ht [] U (Zb N vs) H _ I hq) (λfl s' hs=>?_) λe s' hs=>hs;have ab:∀ {D:St} {H':Hp} {v:V} {u:Ag},Inv (Ww CX P w K mg base N qual scope f cdv A outer s H E) [] D H' s'->RelV v u->Q v H'->CE outer P w H s Q u s' :=
  λ{D H' v u} J F q=>⟨v,H',J.os,J.bare,J.base,J.hok,F,q⟩
 cases fl with
 |ret u =>
  obtain⟨v,D,H',J,F,q⟩:=hs;exact ab J F q
 |next =>
  obtain⟨D,H',J,q⟩:=hs;exact ab (v:=V.non) (u:=Value.none) J rfl q
 |brk =>
  obtain⟨_,_,_,q⟩:=hs;exact False.elim q
 |cont =>
  obtain⟨_,_,_,q⟩:=hs;exact False.elim q
section
variable {X:Cx}{x:Str}{p pos:Pos}{e:Expr}{es:List Expr}{t:TA}{id T:String}{r:List V->Hp->VK->Prop}
def tCB (r:List V->Hp->VK->Prop)(t:TA):TE:=λσ H Q=>t σ H λvs H1=>r vs H1 Q
theorem w5 (hc:js X (.builtin id) r)(hg:Gl X x)(hm:X.mg x=none)(hv:bootBuiltins x=some (.builtin id))(ha:PA X (e::es) t)(hn:autoParam (x ≠ "__name__") aU2._auto_1)(hdb:autoParam ((x==("__debug__" : Str))=false) aU1._auto_1)
  (he:autoParam (starEach (e::es) X.env=(false,eval e X.env)::starEach es X.env) aU4._auto_1) (hpl:autoParam ((backTo pos (starEach es X.env)).any (·.1)=false) aU4._auto_1):PE X (.Call (.Name x p) (e::es) [] pos) (tCB r t):=by
 intro pins s σ H Q I h;refine cQ (j3 I hg hm hv ?_ hn hdb);exact PyProof.Rows.callWith_builtin1 (thn (ha pos pins s σ H _ I h) λus s1 ⟨vs,H1,I1,r1,q1⟩=>hc pins s1 σ H1 vs us Q I1 r1 q1) he hpl
theorem Zw (hc:js X (.type T) r)(hg:Gl X x)(hm:X.mg x=none)(hv:bootBuiltins x=some (.type T))(ha:PA X (e::es) t)(hn:autoParam (x ≠ "__name__") aU2._auto_1)(hdb:autoParam ((x==("__debug__" : Str))=false) aU1._auto_1)
  (he:autoParam (starEach (e::es) X.env=(false,eval e X.env)::starEach es X.env) aU4._auto_1) (hpl:autoParam ((backTo pos (starEach es X.env)).any (·.1)=false) aU4._auto_1):PE X (.Call (.Name x p) (e::es) [] pos) (tCB r t):=by
 intro pins s σ H Q I h;refine cQ (j3 I hg hm hv ?_ hn hdb);exact bB (thn (ha pos pins s σ H _ I h) λus s1 ⟨vs,H1,I1,r1,q1⟩=>hc pins s1 σ H1 vs us Q I1 r1 q1) he hpl
end
end L2
namespace HT
open PySem PyProof.Rows
section
open PySem.SeqAt
open PySem.AutoSeq1 (wpAny_loadPart')
open PySem.MeetsSeq PySem.MeetsSeq2 PySem.MeetsSeq3
end
section
variable {prog:Ac}{w:Ah}{A:Ae}{E:Ag->Ab->Prop}{s:Ab}
theorem cat_tup {t b:Aj}{vs ws:List Ag}{Q:Ag->Ab->Prop}(ht:IsTup s.heap t vs.toArray)(hb:IsTup s.heap b ws.toArray)(hv:vs≠[])
  (h1:ws=[]->Q (.ref t) s) (h2:ws≠[]->Q (.ref s.heap.objs.size) { s with heap:=s.heap.push { cls:=.type "tuple",data:=.seq (vs++ws).toArray } })
  (hsz:vs.length+ws.length<=sizeLine):wpAny (model prog w) A (binaryOp .Add (.ref t) (.ref b)) Q E s:=by
 obtain⟨⟨cls,dd,data,J⟩,D,hc,n,W⟩:=id ht;obtain⟨⟨ah,ab,ad,F⟩,z,Z,L,U⟩:=id hb;simp only at hc W Z U;subst hc W Z U;have e:vs.toArray++ws.toArray=(vs++ws).toArray:=by simp
 by_cases hw:ws=[]
 .exact concat_meets ⟨_,D,rfl⟩ ⟨_,z,rfl⟩ iT seq_tuple_add gm fW (fC _ _)
   (tuple_addW1 t b vs.toArray ws.toArray n L dd ab J F (by simpa using hv) (by simp[hw])) ⟨D,z,h1 hw⟩
 .refine concat_meets ⟨_,D,rfl⟩ ⟨_,z,rfl⟩ iT seq_tuple_add gm fW (fC _ _)
   (tuple_addW2 t b vs.toArray ws.toArray n L dd ab J F (by simpa using hv) (by simpa using hw) (by rw[av,av];exact hsz)) ⟨D,z,?_⟩
  rw[e];exact h2 hw
def sIx (n d:Nat):Option Int->Nat
 |none=>d
 |some v=>if v<0 then(v+(n:Int)).toNat else min v.toNat n
theorem sIx_none (n d:Nat):sIx n d none=d:=rfl
theorem sIx_nat (n d k:Nat):sIx n d (some (k:Int))=min k n:=by show(if(k:Int)<0 then((k:Int)+(n:Int)).toNat else min (k:Int).toNat n)=min k n;rw[ar ⋯,bP]
theorem clip_eq (v:Int)(n d:Nat):(if v<0 then max (v+(n:Int)) 0 else min v (n:Int))=((sIx n d (some v):Nat):Int):=by
 show(if v<0 then max (v+(n:Int)) 0 else min v (n:Int))=(((if v<0 then(v+(n:Int)).toNat else min v.toNat n):Nat):Int);by_cases hv:v<0
 .simp only[aw hv];lia
 .simp only[ar hv];lia
end
end HT
namespace L2
open PySem PySem.Spec PyProof.Rows
abbrev TO:=St->Hp->(Option Int->Hp->Prop)->Prop
def PO (X:Cx)(e:Option Expr)(t:TO):Prop :=
 ∀(pins:List (Aj×Obj)) (s:Ab) (σ:St) (H:Hp) (Q:Option Int->Hp->Prop),Inv X pins σ H s->t σ H Q ->
  wpAny (model X.prog X.w) X.A (evalPart e X.env) (λu s'=>∃o H',Inv X pins σ H' s'/\IsPart u o/\Q o H') X.xe s
def xyc:TO:=λ_ H Q=>Q none H
def tPart (t:TE):TO:=λσ H Q=>t σ H λx H1=>∃i,x=.int i/\Q (some i) H1
theorem Qs {ns:List Int}:∀ {us:List Ag},Vals (ns.map V.int) us->IntsAre us ns:=by
 induction ns with
 |nil=>intro us r;rw[di]at r;cases r;exact .nil
 |cons n ns ih =>
  intro us r;rw[aC]at r;cases r with
  |cons r1 r2 =>
   obtain⟨t,e⟩:=r1;subst e;exact .cons n t (ih r2)
section
variable {X:Cx}{e:Expr}{te:TE}{lo hi:Option Expr}{tl th:TO}{pos p2:Pos}
theorem xkw:PO X none xyc:=by intro pins s σ H Q I h;rw[evalPart_none];exact ai ⟨none,H,I,.none,h⟩
theorem quu (h:PE X e te):PO X (some e) (tPart te):=by intro pins s σ H Q I z;rw[evalPart_some];refine thn (h pins s σ H _ I z) λu s1 ⟨x,H1,I1,r1,q1⟩=>?_;obtain⟨i,rfl,q⟩:=q1;obtain⟨t,rfl⟩:=r1;exact⟨some i,H1,I1,.int i t,q⟩
def SlR (X:Cx)(r:V->Option Int->Option Int->Hp->VK->Prop):Prop :=
 ∀(pins:List (Aj×Obj)) (s:Ab) (σ:St) (H:Hp) (x:V) (v vl vu:Ag) (lo hi:Option Int) (sl:Aj) (Q:VK),Inv X pins σ H s->RelV x v->s.heap.IsSliceOf sl vl vu .none->IsPart vl lo->IsPart vu hi->r x lo hi H Q ->
  ∃T id,typeLookup (.type T) "__getitem__" = pure (some (.builtin id))/\s.TypeIs v T/\wpAny (model X.prog X.w) X.A (getItem v (.ref sl)) (EP X pins σ Q) X.xe s
def tSl (r:V->Option Int->Option Int->Hp->VK->Prop)(te:TE)(tl th:TO):TE:=λσ H Q=>te σ H λx H1=>tl σ H1 λl H2=>th σ H2 λu H3=>r x l u H3 Q
theorem wxu {r:V->Option Int->Option Int->Hp->VK->Prop}(hr:SlR X r)(he:PE X e te)(hl:PO X lo tl)(hu:PO X hi th):PE X (.Subscript e (.Slice lo hi none p2) pos) (tSl r te tl th):=by intro pins s σ H Q I h;refine Subscript_ (thn (he pins s σ H _ I h) λv s1 ⟨x,H1,I1,r1,q1⟩=>?_);refine wpAny_Slice (thn (hl pins s1 σ H1 _ I1 q1) λvl s2 ⟨l,H2,I2,pl,q2⟩=>thn (hu pins s2 σ H2 _ I2 q2) λvu s3 ⟨u,H3,I3,pu,q3⟩=>?_);rw[evalPart_none];refine ai ?_;have J:Inv X pins σ H3 { s3 with heap:=s3.heap.push { cls:=.type "slice",data:=.fields #[vl,vu,.none] } }:=I3.kept (t':=s3.toks) λb L q=>ag _ q;obtain⟨T,id,F,z,D⟩:=hr pins { s3 with heap:=s3.heap.push { cls:=.type "slice",data:=.fields #[vl,vu,.none] } } σ H3 x v vl vu l u s3.heap.objs.size Q J r1 (Heap.IsSliceOf.new ..) pl pu q3;show wpAny (model X.prog X.w) X.A (subscriptTail e (.Slice lo hi none p2) v (.ref s3.heap.objs.size)) (EP X pins σ Q) X.xe { s3 with heap:=s3.heap.push { cls:=.type "slice",data:=.fields #[vl,vu,.none] } };exact tail_any (ops:=[.ref s3.heap.objs.size,v]) z F D (by with_unfolding_all rfl)
def Yy (xs:List V)(lo hi:Option Int):List V:=(xs.drop (HT.sIx xs.length 0 lo)).take (HT.sIx xs.length xs.length hi-HT.sIx xs.length 0 lo)
theorem wwc (xs:List V)(lo hi:Option Int):(Yy xs lo hi).length<=xs.length:=by unfold Yy;rw[bC,dL];lia
def rCatT (K:Aa):R2:=λx y H Q=>∃a b xs ys,x=.ref a/\y=.ref b/\SqT K H a xs/\SqT K H b ys/\xs≠[]/\xs.length+ys.length<=sizeLine /\
 (ys=[]->Q (.ref a) H)/\(ys≠[]->∀p,H p=none->Q (.ref p) (upd H p (.tup (xs++ys))))
theorem Vals.nil_iff {xs:List V}{us:List Ag}(r:Vals xs us):us=[]↔xs=[]:=by
 cases r with
 |nil=>simp
 |cons _ _=>simp
theorem xyn:OpR X (binaryOp .Add) (rCatT X.K):=by intro pins s σ H x y v u Q I U L h;obtain⟨a,b,xs,ys,rfl,rfl,ha,hb,hx,J,Z,W⟩:=h;cases U;cases L;obtain⟨ad,F,p1,_⟩:=I.tuple ha;obtain⟨ab,D,p2,_⟩:=I.tuple hb;refine HT.cat_tup p1 p2 (λz=>hx (F.nil_iff.mp z)) (λz=>⟨.ref a,H,I,rfl,Z (D.nil_iff.mp z)⟩) (λz=>?_) (by rw[<-F.length,<-D.length];exact J);refine⟨.ref s.heap.objs.size,_,I.laid (t':=s.toks) (o:=.tup (xs++ys)) (λb ob q=>ag _ q) (ak _) ?_,rfl,W (λw=>z (D.nil_iff.mpr w)) _ (I.hok.fresh (ak _))⟩;exact⟨by rw[au];exact J,_,F.append D,IsTup.new _ _⟩
end
def ixN (n:Nat)(i:Int):Option Nat:=if 0<=i then(if i<n then some i.toNat else none) else if -(n:Int)<=i then some (i+n).toNat else none
def atI {α:Type}(xs:List α)(i:Int):Option α:=(ixN xs.length i).bind λj=>xs[j]?
theorem xj6 {n:Nat}{i:Int}{j:Nat}(h:ixN n i=some j):seqIndex? i n=some j/\j<n/\-(n:Int)<=i/\i<n:=by
 unfold ixN at h;by_cases h0:0<=i
 .rw[aw h0]at h;by_cases h1:i<n
  .rw[aw h1]at h;have e:i.toNat=j:=aq h;exact⟨by rw[seqIndex_of h0 h1,e],⋯,⋯,h1⟩
  .rw[ar h1]at h;cases h
 .rw[ar h0]at h;by_cases h1:-(n:Int)<=i
  .rw[aw h1]at h;have e:(i+n).toNat=j:=aq h;exact⟨by rw[seqIndex_neg ⋯ h1,e],⋯,h1,⋯⟩
  .rw[ar h1]at h;cases h
theorem wjb {α:Type}{xs:List α}{i:Int}{v:α}(h:atI xs i=some v):∃j,seqIndex? i xs.length=some j/\xs[j]?=some v/\j<xs.length/\-(xs.length:Int)<=i/\i<xs.length:=by
 unfold atI at h;cases e:ixN xs.length i with
 |none=>rw[e]at h;cases h
 |some j =>
  rw[e]at h;obtain⟨h1,h2,D,z⟩:=xj6 e;exact⟨j,h1,h,h2,D,z⟩
theorem v6 {α:Type}{xs:List α}{j:Nat}{v:α}(h:xs[j]?=some v):atI xs (j:Int)=some v:=by
 have z:j<xs.length:=(am.mp h).1;have e:ixN xs.length (j:Int)=some j:=by unfold ixN;rw[aw ⋯,aw ⋯];simp
 unfold atI;rw[e];exact h
theorem Wj {α:Type}(xs:List α)(v:α):atI (xs++[v]) (-1)=some v:=by
 have z:(xs++[v]).length=xs.length+1:=by simp
 have e:ixN (xs++[v]).length (-1)=some xs.length:=by unfold ixN;rw[z,ar ⋯,aw ⋯];congr 1;lia
 unfold atI;rw[e];show(xs++[v])[xs.length]?=some v;simp
def xyg (b:Expr):Prop:=∀o i,subscripted b false o i=operate [o,i] (getItem o i)
def IxR (X:Cx)(r:R2):Prop :=
 ∀(value slice:Expr) (pins:List (Aj×Obj)) (s:Ab) (σ:St) (H:Hp) (x y:V) (v u:Ag) (Q:VK),Inv X pins σ H s->RelV x v->RelV y u->r x y H Q ->
  subscripted slice false v u=operate [v,u] (getItem v u)->wpAny (model X.prog X.w) X.A (subscriptTail value slice v u) (EP X pins σ Q) X.xe s
def MtR (X:Cx)(id:String)(r:V->List V->Hp->VK->Prop):Prop :=
 ∀(pins:List (Aj×Obj)) (s:Ab) (σ:St) (H:Hp) (x:V) (xs:List V) (v:Ag) (us:List Ag) (Q:VK),Inv X pins σ H s->RelV x v->Vals xs us->r x xs H Q ->
  wpAny (model X.prog X.w) X.A (call (.builtin id) (v::us)) (EP X pins σ Q) X.xe s
section
variable {X:Cx}{a b:Expr}{ta tb:TE}{pos:Pos}
theorem wn {r:R2}(hr:IxR X r)(ha:PE X a ta)(hb:PE X b tb)(hs:xyg b):PE X (.Subscript a b pos) (tOp r ta tb):=by intro pins s σ H Q I h;exact Subscript_ (binT ha hb I h λv u s2 x y H2 F D z q=>hr a b pins s2 σ H2 x y v u Q F D z q (hs _ _))
def wv6 (K:Aa):R2:=λx y H Q=>∃p xs i v,x=.ref p/\y=.int i/\SqL K H p xs/\atI xs i=some v/\Q v H
def rIxT (K:Aa):R2:=λx y H Q=>∃p xs i v,x=.ref p/\y=.int i/\SqT K H p xs/\atI xs i=some v/\Q v H
theorem xr:IxR X (wv6 X.K):=by
 intro value ad pins s σ H x y v u Q I W U h hs;obtain⟨p,xs,i,z,rfl,rfl,hq,he,q⟩:=h;cases W;obtain⟨t,rfl⟩:=U;obtain⟨ab,r,D,hz⟩:=I.list hq;obtain⟨j,h1,h2,h3,h4,h5⟩:=wjb he;obtain⟨w,L,Z⟩:=r.get h2;have hl:=r.length;have hn:=qyp;have J:EP X pins σ Q w s:=⟨z,H,I,Z,q⟩;by_cases h0:0<=i
 .have F:i.toNat=j:=by rw[seqIndex_of h0 h5]at h1;exact aq h1
  exact item_listR D.isList h0 ⋯ (by rw[F];simpa using L) J hs
 .have F:(i+(ab.toArray.size:Int)).toNat=j:=by rw[seqIndex_neg ⋯ h4]at h1;rw[av,<-hl];exact aq h1
  exact subscriptTail_builtinR (x:=w) D.isList.typeIs slot_list_getitem.lookup
   (wpAny_getItem_list_neg (Q:=λr s'=>r=w/\EP X pins σ Q r s') D.isList ⋯ (by rw[av] <;> lia) ⋯ (by rw[F];simpa using L) ⟨rfl,J⟩) hs
theorem wt:IxR X (rIxT X.K):=by
 intro value ad pins s σ H x y v u Q I J F h hs;obtain⟨p,xs,i,z,rfl,rfl,U,Z,q⟩:=h;cases J;obtain⟨t,rfl⟩:=F;obtain⟨ah,r,D,hz⟩:=I.tuple U;obtain⟨j,h1,h2,h3,h4,h5⟩:=wjb Z;obtain⟨w,ew,L⟩:=r.get h2;have W:=r.length;have hn:=qyp;have ab:EP X pins σ Q w s:=⟨z,H,I,L,q⟩;exact subscriptTail_builtinR (x:=w) D.typeIs slot_tuple_getitem.lookup
  (getItem_tuple (j:=j) (Q:=λr s'=>r=w/\EP X pins σ Q r s') D ⋯ ⋯ (by rw[av,<-W];exact h1) (by simpa using ew) ⟨rfl,ab⟩) hs
theorem qu1 (lo hi:Option Int)(n:Nat):(sliceBounds lo hi none n).1=((HT.sIx n 0 lo:Nat):Int)/\(sliceBounds lo hi none n).2.1=((HT.sIx n n hi:Nat):Int)/\(sliceBounds lo hi none n).2.2=1:=by
 refine⟨?_,?_,rfl⟩
 .cases lo with
  |none=>simp[sliceBounds,HT.sIx]
  |some i =>
   simp only[sliceBounds,HT.sIx,Option.getD_none,show(1:Int)>0 by decide,cV];by_cases h:i<0
   .simp only[h,cV] <;> lia
   .simp only[h,bA] <;> lia
 .cases hi with
  |none=>simp[sliceBounds,HT.sIx]
  |some i =>
   simp only[sliceBounds,HT.sIx,Option.getD_none,show(1:Int)>0 by decide,cV];by_cases h:i<0
   .simp only[h,cV] <;> lia
   .simp only[h,bA] <;> lia
theorem qkk (its:List Ag)(lo hi:Option Int):slicePick its.toArray lo hi none=((its.drop (HT.sIx its.length 0 lo)).take (HT.sIx its.length its.length hi-HT.sIx its.length 0 lo)).toArray:=by obtain⟨h1,h2,z⟩:=qu1 lo hi its.toArray.size;unfold slicePick;rw[h1,h2,z];simp only[sliceRange_one,pick_run,av] <;> rfl
def rSlL (K:Aa):V->Option Int->Option Int->Hp->VK->Prop:=λx lo hi H Q=>∃a xs,x=.ref a/\SqL K H a xs/\∀p,H p=none->Q (.ref p) (upd H p (.lst (Yy xs lo hi)))
theorem wky:SlR X (rSlL X.K):=by intro pins s σ H x v vl Z lo hi sl Q I D hs J F h;obtain⟨a,xs,rfl,U,q⟩:=h;cases D;obtain⟨ab,r,z,L⟩:=I.list U;have W:=r.length;refine⟨"list",_,slot_list_getitem.lookup,z.isList.typeIs,?_⟩;refine wpAny_getItem_list_slice z.isList hs J F .none (by simp) ?_ (by rw[av] <;> lia);rw[qkk,<-W];refine⟨.ref s.heap.objs.size,_,I.laid (t':=s.toks) (o:=.lst (Yy xs lo hi)) (λb ob q=>ag _ q) (ak _) ?_,rfl,q _ (I.hok.fresh (ak _))⟩;exact⟨bI (wwc xs lo hi) L,_,0,(r.drop (HT.sIx xs.length 0 lo)).take (HT.sIx xs.length xs.length hi-HT.sIx xs.length 0 lo),aA _ rfl⟩
def Y3:V->Bool
 |.non=>true
 |.bl _=>true
 |.int _=>true
 |.str _=>true
 |_=>false
def eqV:V->V->Bool
 |.non,.non=>true
 |.bl a,.bl b=>a==b
 |.bl a,.int b=>(if a then 1 else 0)==b
 |.int a,.bl b=>a==(if b then 1 else 0)
 |.int a,.int b=>a==b
 |.str a,.str b=>a==b
 |_,_=>false
theorem eqAt_V {A:Ae}{s:Ab}{y x:V}{u v:Ag}(ry:RelV y u)(rx:RelV x v)(fy:Y3 y=true)(fx:Y3 x=true):SeqAt.EqAt A s u v (eqV y x):=by
 cases y with
 |non =>
  cases ry;cases x with
  |non=>cases rx;exact SeqAt.EqAt.same _
  |bl b=>cases rx;exact SeqAt.EqAt.none_bool b
  |int b=>obtain⟨t,rfl⟩:=rx;exact SeqAt.EqAt.none_int b t
  |str b=>obtain⟨t,rfl⟩:=rx;exact SeqAt.EqAt.none_str b t
  |_=>exact absurd (show false=true from fx) aI
 |bl a =>
  cases ry;cases x with
  |non=>cases rx;exact SeqAt.EqAt.bool_none a
  |bl b=>cases rx;exact SeqAt.EqAt.bool_bool a b
  |int b=>obtain⟨t,rfl⟩:=rx;exact SeqAt.EqAt.bool_int a b t
  |str b=>obtain⟨t,rfl⟩:=rx;exact SeqAt.EqAt.bool_str a b t
  |_=>exact absurd (show false=true from fx) aI
 |int a =>
  obtain⟨z,rfl⟩:=ry;cases x with
  |non=>cases rx;exact SeqAt.EqAt.int_none a z
  |bl b=>cases rx;exact SeqAt.EqAt.int_bool a z b
  |int b=>obtain⟨t,rfl⟩:=rx;exact ic a z b t
  |str b=>obtain⟨t,rfl⟩:=rx;exact SeqAt.EqAt.int_str a z b t
  |_=>exact absurd (show false=true from fx) aI
 |str a =>
  obtain⟨z,rfl⟩:=ry;cases x with
  |non=>cases rx;exact SeqAt.EqAt.str_none a z
  |bl b=>cases rx;exact SeqAt.EqAt.str_bool a z b
  |int b=>obtain⟨t,rfl⟩:=rx;exact SeqAt.EqAt.str_int a z b t
  |str b=>obtain⟨t,rfl⟩:=rx;exact SeqAt.EqAt.str_str a z b t
  |_=>exact absurd (show false=true from fx) aI
 |_=>exact absurd (show false=true from fy) aI
def eqU (x:V)(u:Ag):Bool:=match u with
 |.none=>eqV .non x
 |.bool b=>eqV (.bl b) x
 |.int i _=>eqV (.int i) x
 |.str z _=>eqV (.str z) x
 |_=>false
theorem xwf {x y:V}{u:Ag}(r:RelV y u)(f:Y3 y=true):eqU x u=eqV y x:=by
 cases y with
 |non=>cases r;rfl
 |bl b=>cases r;rfl
 |int i=>obtain⟨t,rfl⟩:=r;rfl
 |str z=>obtain⟨t,rfl⟩:=r;rfl
 |_=>exact absurd (show false=true from f) aI
theorem qj8 {x:V}:∀ {xs:List V} {us:List Ag},Vals xs us->xs.all Y3=true->us.any (eqU x)=xs.any λy=>eqV y x
 |_,_,.nil,_=>rfl
 |y::xs,u::us,.cons r t,f=>by rw[jR,b8]at f;rw[fE,fE,xwf r f.1,qj8 t f.2]
theorem qxm {A:Ae}{s:Ab}{x:V}{v:Ag}(rx:RelV x v)(fx:Y3 x=true):∀ {xs:List V} {us:List Ag},Vals xs us->xs.all Y3=true->∀u∈us,SeqAt.EqAt A s u v (eqU x u)
 |_,_,.nil,_=>λu hu=>by cases hu
 |y::xs,u::us,.cons r t,f=>λu' hu=>by
  rw[jR,b8]at f;rcases aO.mp hu with rfl|hu
  .rw[xwf r f.1];exact eqAt_V r rx f.1 fx
  .exact qxm rx fx t f.2 u' hu
def inV (x:V)(xs:List V):Bool:=xs.any λy=>eqV y x
def rIn (K:Aa)(neg:Bool):R2:=λx y H Q=>∃p xs,y=.ref p/\(SqL K H p xs\/SqT K H p xs)/\Y3 x=true/\xs.all Y3=true/\Q (.bl (if neg then !inV x xs else inV x xs)) H
theorem qyw:OpR X (compareOp .NotIn) (rIn X.K true):=by
 intro pins s σ H x y v u Q I L W h;obtain⟨p,xs,rfl,D,U,fs,q⟩:=h;cases W;rcases D with D|D
 .obtain⟨z,r,F,Z⟩:=I.list D;refine SeqAt.notIn_listAt (eqU x) F.isList (λw J=>qxm L U r fs w (by simpa using J)) ⟨.bl _,H,I,rfl,?_⟩;rw[show z.toArray.any (eqU x)=z.any (eqU x) by simp,qj8 r fs];exact q
 .obtain⟨z,r,F,Z⟩:=I.tuple D;refine SeqAt.notIn_tupleAt (eqU x) F (λw J=>qxm L U r fs w (by simpa using J)) ⟨.bl _,H,I,rfl,?_⟩;rw[show z.toArray.any (eqU x)=z.any (eqU x) by simp,qj8 r fs];exact q
theorem xh:js X (.builtin "len") (λxs H Q=>∃p ys,xs=[.ref p]/\(SqL X.K H p ys\/SqT X.K H p ys)/\Q (.int ys.length) H):=by
 intro pins s σ H xs us Q I r h;obtain⟨p,ys,rfl,z,q⟩:=h;obtain⟨u,rfl,L⟩:=yy r;cases L;have Z:=qyp;rcases z with z|z
 .obtain⟨U,D,F,W⟩:=I.list z;have J:=D.length;exact Calls.call_len_list F.isList (by simp only[av] <;> lia) ⟨.int ys.length,H,I.tok _,⟨s.toks+1,by rw[av,J]⟩,q⟩
 .obtain⟨U,D,F,W⟩:=I.tuple z;have J:=D.length;exact len_tuple F (by simp only[av] <;> lia) ⟨.int ys.length,H,I.tok _,⟨s.toks+1,by rw[av,J]⟩,q⟩
theorem Qn:js X (.type "list") (λxs H Q=>∃p ys,xs=[.ref p]/\(SqL X.K H p ys\/SqT X.K H p ys)/\∀l,H l=none->Q (.ref l) (upd H l (.lst ys))):=by
 intro pins s σ H xs us Q I r h;obtain⟨p,ys,rfl,L,q⟩:=h;obtain⟨u,rfl,rx⟩:=yy r;cases rx;have ab:∀(z:List Ag),Vals ys z->ys.length<=sizeLine->∀(h':Heap) (c':Nat),(∀b o',s.heap.get? b=some o'->h'.get? b=some o') ->
   h'.get? s.heap.objs.size=some { cls:=.type "list",dict:=none,data:=.seq z.toArray c',slots:=#[] }->EP X pins σ Q (.ref s.heap.objs.size) { s with heap:=h' }:=λz D J h' c' F e =>
  ⟨.ref s.heap.objs.size,_,I.laid (t':=s.toks) F (ak _) (show ObjOk X.prog X.w _ h' _ (.lst ys) from ⟨J,z,c',D,e⟩),rfl,q _ (I.hok.fresh (ak _))⟩
 rcases L with L|L
 .obtain⟨z,D,U,J⟩:=I.list L;have ad:=D.length;obtain⟨o,W,hc,n,Z⟩:=U.isList;exact call_list_seq p (.inl rfl) W hc Z (λh' c' F e=>ab z D J h' c' F e) (by simp only[av] <;> lia)
 .obtain⟨z,D,U,J⟩:=I.tuple L;have ad:=D.length;obtain⟨o,W,hc,n,Z⟩:=U;exact call_list_seq p (.inr rfl) W hc Z (λh' c' F e=>ab z D J h' c' F e) (by simp only[av] <;> lia)
def tyV (K:Aa)(T:String)(x:V)(H:Hp):Prop:=match x with
 |.str _=>T = "str"
 |.int _=>T = "int"
 |.ref p=>(T = "list" /\ ∃xs,SqL K H p xs)\/(T = "tuple" /\ ∃o,K.lookup p=some o/\o.cls=.type "tuple" /\ o.dict=none) \/
   (T = "dict" /\ ((∃kvs,H p=some (.dK kvs))\/∃kvs,H p=some (.dT kvs)))\/(T = "set" /\ ∃S n,H p=some (.set S n))
 |_=>False
theorem tyV_is {pins:List (Aj×Obj)}{σ:St}{H:Hp}{s:Ab}{T:String}{x:V}{v:Ag}(I:Inv X pins σ H s)(r:RelV x v)(ty:tyV X.K T x H) :
  s.TypeIs v T/\∀a,v=.ref a->∃ob,s.heap.get? a=some ob/\ob.dict=none:=by
 cases x with
 |str z =>
  obtain⟨t,rfl⟩:=r;cases(show T = "str" from ty);exact⟨typeIs_str s z t,λ_ e=>nomatch e⟩
 |int i =>
  obtain⟨t,rfl⟩:=r;cases(show T = "int" from ty);exact⟨typeIs_int s i t,λ_ e=>nomatch e⟩
 |ref p =>
  cases r;rcases ty with⟨rfl,xs,U⟩|⟨rfl,o,D,W,F⟩|⟨rfl,D⟩|⟨rfl,S,n,D⟩
  .obtain⟨Z,_,L,_⟩:=I.list U;refine⟨L.isList.typeIs,λa e=>?_⟩;cases e;obtain⟨o,n,e,c,F,_⟩:=L;exact⟨o,e,F⟩
  .refine⟨⟨o,I.kIn p o D,W⟩,λa e=>?_⟩;cases e;exact⟨o,I.kIn _ o D,F⟩
  .have z:∃o,s.heap.get? p=some o/\o.ExactDict:=by
    rcases D with⟨kvs,D⟩|⟨kvs,D⟩
    .obtain⟨_,_,_,_,o,_,_,e,ex,_⟩:=I.hok p _ D;exact⟨o,e,ex⟩
    .obtain⟨_,_,_,_,o,_,_,e,ex,_⟩:=I.hok p _ D;exact⟨o,e,ex⟩
   obtain⟨o,e,ex⟩:=z;refine⟨⟨o,e,ex.1⟩,λa J=>?_⟩;cases J;exact⟨o,e,ex.2.1⟩
  .obtain⟨o,_,_,_,e,ex,_⟩:=I.hok p _ D;refine⟨⟨o,e,ex.1⟩,λa J=>?_⟩;cases J;exact⟨o,e,ex.2.1⟩
 |_=>exact False.elim ty
def tBM (K:Aa)(T:String)(r:V->List V->Hp->VK->Prop)(to:TE)(t:TA):TE:=λσ H Q=>to σ H λx H1=>tyV K T x H1/\t σ H1 λxs H2=>r x xs H2 Q
variable {o e:Expr}{es:List Expr}{to:TE}{t:TA}{name:Str}{apos cpos:Pos}{T id:String}{r:V->List V->Hp->VK->Prop}
theorem Zd (pa:PlainAttrs T)(slot:Slot T name id)(hty:typeOf (.builtin id)=pure (.type "method_descriptor"))(hm:MtR X id r)(ho:PE X o to)(ha:PA X (e::es) t)
  (hbase:autoParam (attributeBase o name X.env (eval o X.env)=eval o X.env) aU4._auto_1)
  (hfew:autoParam (((backTo cpos (starEach (e::es) X.env)).all (λx=>!x.1)&&(backToKw cpos (keywordEach [] X.env)).all (λx=>x.1.isSome)
   && decide ((e::es).length+([]:List Keyword).length+(if([]:List Keyword).isEmpty then 0 else 1)<30))=true) aU4._auto_1)
  (hline:autoParam ((apos.endLine==cpos.line)=true) aU4._auto_1) (hs:autoParam (starEach (e::es) X.env=(false,eval e X.env)::starEach es X.env) aU4._auto_1) (hplain:autoParam ((backTo cpos (starEach es X.env)).any (·.1)=false) aU4._auto_1) :
  PE X (.Call (.Attribute o name apos) (e::es) [] cpos) (tBM X.K T r to t):=by
 intro pins s σ H Q I h;refine wpAny_Call_method_late hbase hfew hline rfl (thn (ho pins s σ H _ I h) λv s1 ⟨x,H1,I1,r1,ty,q1⟩=>?_);obtain⟨h1,h2⟩:=tyV_is I1 r1 ty;refine⟨T,id,pa,slot,hty,h1,h2,?_⟩;have z:=ha cpos pins s1 σ H1 _ I1 q1;rw[hs]at z ⊢;refine Calls.callWith_builtin (by show(false||(backTo cpos (starEach es X.env)).any (·.1))=false;rw[hplain] <;> rfl) (Calls.evalArgs_plain ?_);exact thn z λus s2 ⟨vs,H2,I2,r2,q2⟩=>hm pins s2 σ H2 x vs v us Q I2 r1 r2 q2
end
def MtM (X:Cx)(id:String)(r:V->List V->Hp->VK->Prop):Prop :=
 ∀(pins:List (Aj×Obj)) (s:Ab) (σ:St) (H:Hp) (x:V) (xs:List V) (v:Ag) (us:List Ag) (Q:VK),Inv X pins σ H s->RelV x v->Vals xs us->r x xs H Q ->
  wpAny (model X.prog X.w) X.A (call (.builtin id) (v::us)) (EP X pins σ Q) X.xe s
theorem Vals.one:∀ {x:V} {us:List Ag},Vals [x] us->∃u,us=[u]/\RelV x u
 |_,_,.cons r .nil=>⟨_,rfl,r⟩
theorem Vals.two:∀ {x y:V} {us:List Ag},Vals [x,y] us->∃u v,us=[u,v]/\RelV x u/\RelV y v
 |_,_,_,.cons r (.cons q .nil)=>⟨_,_,rfl,r,q⟩
section
variable {X:Cx}{pins:List (Aj×Obj)}{σ:St}{H:Hp}{s:Ab}{l b:Aj}{xs ys zs:List V}
theorem Inv.lset {its its':List Ag}{n:Nat}{f:Array Ag->Array Ag}{t':Nat}(I:Inv X pins σ H s)(hH:H l=some (.lst xs))
  (e:s.heap.get? l=some { cls:=.type "list",data:=.seq its.toArray n }) (hf:f its.toArray=its'.toArray) (hv:Vals ys its') (hz:ys.length<=sizeLine) :
  Inv X pins σ (upd H l (.lst ys)) { s with heap:=s.heap.update l (Obj.mapSeq f),toks:=t' }:=by
 have q:=PySem.IsL.update e f;rw[hf]at q;refine I.write (x:=l) (e:=l) (by rw[hH];exact trivial) (.inl rfl) (λF u D z=>(cZ s.heap (Obj.mapSeq f) (dF D)).trans z) ⟨_,q⟩ ?_;exact⟨hz,its',_,hv,q⟩
theorem Inv.lnew {its:List Ag}{t':Nat}(I:Inv X pins σ H s)(hv:Vals ys its)(hz:ys.length<=sizeLine) :
  Inv X pins σ (upd H s.heap.objs.size (.lst ys)) { s with heap:=s.heap.push { cls:=.type "list",data:=.seq its.toArray },toks:=t' } :=
 I.laid (λ_ _ q=>ag _ q) (ak _) ⟨hz,its,0,hv,aA _ rfl⟩
theorem Inv.fresh (I:Inv X pins σ H s):H s.heap.objs.size=none:=I.hok.fresh (ak _)
theorem Inv.lstM (I:Inv X pins σ H s)(hH:H l=some (.lst xs)):xs.length<=sizeLine/\∃(its:List Ag) (n:Nat),Vals xs its/\xs.length=its.length/\s.heap.get? l=some { cls:=.type "list",data:=.seq its.toArray n }:=by obtain⟨z,its,n,r,e⟩:=I.hok l _ hH;exact⟨z,its,n,r,r.length,e⟩
theorem wq5 {n:Nat}(h:n<=sizeLine):Builtin.List.listTooLong n=false:=by unfold Builtin.List.listTooLong;exact aT ⋯
end
section
variable {X:Cx}
def xjd:V->List V->Hp->VK->Prop:=λx vs H Q=>∃l xs y,x=.ref l/\vs=[y]/\H l=some (.lst xs)/\xs.length<sizeLine/\Q .non (upd H l (.lst (xs++[y])))
theorem vn:MtM X "list.append" xjd:=by intro pins s σ H x vs v us Q I L U h;obtain⟨l,xs,y,rfl,rfl,J,Z,q⟩:=h;cases L;obtain⟨u,rfl,W⟩:=U.one;obtain⟨z,D,n,r,hl,e⟩:=I.lstM J;refine call_meets F.slot_list_append ⟨_,e,rfl⟩ F.entry_list_append (F.args_list_append_2 _ _) (PySem.list_append l D.toArray n u (by rw[av];lia)) ⟨e,?_⟩;refine⟨.non,_,I.lset (its':=D++[u]) J e (by simp) (r.append (.cons W .nil)) ?_,rfl,q⟩;rw[au,cM];lia
def xv3:V->List V->Hp->VK->Prop:=λx vs H Q=>∃l b xs zs,x=.ref l/\vs=[.ref b]/\H l=some (.lst xs)/\H b=some (.lst zs)/\xs.length+zs.length<=sizeLine/\Q .non (upd H l (.lst (xs++zs)))
theorem wym:MtM X "list.extend" xv3:=by
 intro pins s σ H x vs v us Q I U W h;obtain⟨l,b,xs,zs,rfl,rfl,L,hB,hz,q⟩:=h;cases U;obtain⟨u,rfl,Z⟩:=W.one;cases Z;obtain⟨z,D,n,r,hl,e⟩:=I.lstM L;obtain⟨z2,J,n2,r2,ah,e2⟩:=I.lstM hB;have ab:D.toArray.size+J.toArray.size<=sizeLine:=by rw[av,av];lia
 have ad:¬ (!D.toArray.isEmpty&&Builtin.List.listTooLong (D.toArray.size+J.toArray.size))=true:=by rw[wq5 ab,gn];exact aI
 refine call_meets F.slot_list_extend ⟨_,e,rfl⟩ F.entry_list_extend (F.args_list_extend_2 _ _)
  (AutoSeq1.list_extend_list_list_0 l D.toArray n b J.toArray n2 ad (by rw[av];lia) ⋯) ⟨e,e2,?_⟩
 refine⟨.non,_,I.lset (its':=D++J) L e (by simp) (r.append r2) ?_,rfl,q⟩;rw[au];lia
def rCat:R2:=λx y H Q=>∃l b xs zs,x=.ref l/\y=.ref b/\H l=some (.lst xs)/\H b=some (.lst zs)/\xs.length+zs.length<=sizeLine/\∀p,H p=none->Q (.ref p) (upd H p (.lst (xs++zs)))
theorem Z7:OpR X (binaryOp .Add) rCat:=by
 intro pins s σ H x y v u Q I L J h;obtain⟨l,b,xs,zs,rfl,rfl,W,Z,hz,q⟩:=h;cases L;cases J;obtain⟨z,F,n,r,hl,e⟩:=I.lstM W;obtain⟨z2,D,n2,U,ab,e2⟩:=I.lstM Z;refine PySem.P.add_list e e2 ?_ (by rw[av,av];lia);have ea:F.toArray++D.toArray=(F++D).toArray:=by simp
 rw[ea];exact⟨.ref _,_,I.lnew (t':=s.toks) (r.append U) (by rw[au];lia),rfl,q _ I.fresh⟩
end
section
variable {prog:Ac}{w:Ah}{A:Ae}{E:Ag->Ab->Prop}{s:Ab}
end
section
variable {X:Cx}
end
end L2
namespace Att
open PySem PySem.W PySem.Calls PyProof.Rows
theorem qq4 {P:Params}{h:Heap}:∀(ns:List Int) (vs:List Ag),WellAll P h vs (ns.map WData.int)->IntsAre vs ns:=by
 intro ns
 induction ns with
 |nil =>
  intro vs w;rw[di]at w;cases w;exact .nil
 |cons n ns ih =>
  intro vs w;rw[aC]at w;cases w with
  |cons a b =>
   cases a;exact .cons _ _ (ih _ b)
theorem xqc {l:OpenLaw}{n:Nat}(hn:l.most=some n){P:Params}{h:Heap}{args:List WData}{vals:List Ag}
  (hpre:l.row.toRowW.claim.pre args=true) (hwl:WellAll P h vals args) :
  ∃a vs ns,vals=[Value.ref a]/\args=[WData.list (ns.map WData.int)]/\h.get? a=some { cls:=.type "list",data:=.seq vs.toArray }/\IntsAre vs ns/\ns.length<=n:=by
 have L:WShape.hasAll [] args [.list .int]=true:=(pre_splitW hpre).1;have F:l.pre.holds [] { args:=args }=true:=(pre_splitW hpre).2;obtain⟨d,r,rfl,h1,h2⟩:=hasAllW_cons L;obtain rfl:=hasAllW_nil h2;obtain⟨xs,rfl,W⟩:=hasW_list h1;obtain⟨ns,rfl⟩:=items_int W;have U:ns.length<=n:=by
  unfold OpenLaw.pre at F;have D:(WTm.not (.lt (.lit (.int (n:Int))) (.len (.arg 0)))).holds [] { args:=[.list (ns.map .int)] }=true:=by have D:=(holds_andW F).1;rw[hn]at D;exact D
  have z:=condW_of D (w_not (w_lt w_lit (w_len_list (w_arg rfl))));rw[af]at z;refine Nat.le_of_not_lt λq=>?_;have J:(n:Int)<((ns.length:Nat):Int):=by lia
  first
   |(rw[aF J]at z;exact absurd z ⋯)
   |(simp at z;lia)
 cases hwl with
 |cons w1 w2 =>
  cases w2;cases w1 with
  |list ho hall=>exact⟨_,_,ns,rfl,rfl,ho,qq4 ns _ hall,U⟩
theorem wy9 (l:OpenLaw)(args:List WData):l.row.toRowW.claim.post args (.bool true) args=true :=
 postW_of (r:=l.row.toRowW) (X:=(true==true))
  (show WShape.has [] (.bool true) .bool=true by first | rfl | decide | simp[WShape.has,WShape.arms,WShape.armsAll])
  (show(WTm.eq .res (.lit (.bool true))).value [] { args:=args,res:=some (.bool true),after:=args }=some (.bool (true==true)) from w_eq_bool (w_res rfl) w_lit) rfl
theorem attach_call {l:OpenLaw}{n:Nat}{q:Ac}{loose:List Str}{XP:(Str->Option Ag)->Heap->Prop}{YP:Ah->Heap->Prop}{d:DefRec}
  (hn:l.most=some n) (hdf:d.params.defaults=[])
  (call:∀(w:Ah) (s₀ s₁:Ab) (mg mb:Str->Option Ag) (fa:Aj) (o:Obj) (pm cd doc:Ag) (a:Aj) (vs:List Ag) (ns:List Int),
   Ground q loose [] XP w s₀ mg mb s₁.heap->YP w s₁.heap ->
   s₁.heap.get? fa=some o->o.data=.func (docDef d.name d.params d.body d.scope pm cd doc)->s₁.heap.CodeRec cd d.name->mg d.name=some (.ref fa) ->
   s₁.heap.get? a=some { cls:=.type "list",data:=.seq vs.toArray }->IntsAre vs ns->ns.length<=n->s₁.gens=#[] ->
   codeAny (model l.prog w) callerA (.call (.ref fa) ⟨[.ref a],[]⟩) (λr s'=>r=.ok (.ret (.bool true))/\OldK s₁.heap s'.heap/\s'.os=s₁.os/\AllBare s'.gens) s₁) :
  WalkO q loose XP YP l.row.toRowW d [] (λf vs=>PySem.call f vs):=by
 intro w s₀ s₁ mg mb G Y fa o pm cd doc dV kV U hd ah z W hg a2 an as J a1 ap D a0;obtain rfl:dV=.none:=Dflts.none z hdf;obtain rfl:kV=.none:=Dflts.noKw z;obtain⟨a,vs,ns,rfl,rfl,L,ad,ab⟩:=xqc hn J D;refine enter_call (fh (call w s₀ s₁ mg mb fa o pm cd doc a vs ns G Y U (fd_plain hd) ah W L ad ab hg) λr s' F=>?_);obtain⟨rfl,h2,h3,h4⟩:=F;exact⟨.inl ⟨.bool true,.bool true,[],rfl,λ_=>rfl,.bool true,wy9 l _,λ_=>⟨List.Pairwise.nil,λ_ Z=>(nomatch Z)⟩⟩,h2,h3,h4⟩
section
variable {prog:Ac}{w:Ah}{A:Ae}{E:Ag->Ab->Prop}{s:Ab}{K:Frag}
end
end Att
namespace L2
open PySem PySem.Spec PyProof.Rows
theorem qqu:∀ {vs:List Ag} {ns:List Int},IntsAre vs ns->Vals (ns.map V.int) vs
 |_,_,.nil=>.nil
 |_,_,.cons n t h=>.cons ⟨t,rfl⟩ (qqu h)
def uw (s:Stmt)(j:Nat):Stmt:=match s with
 |.ClassDef _ _ _ body _ _ _ _ _ _ _=>body.getD j (.Pass ⟨0,0,0,0⟩)
 |_=>.Pass ⟨0,0,0,0⟩
def jx (s:Stmt):Arguments:=match s with
 |.FunctionDef _ a _ _ _ _ _ _ _ _=>a
 |_=>{ posonlyargs:=[],args:=[],vararg:=none,kwonlyargs:=[],kw_defaults:=[],kwarg:=none,defaults:=[] }
def vz (s:Stmt):List Stmt:=match s with
 |.FunctionDef _ _ b _ _ _ _ _ _ _=>b
 |_=>[]
def ww (s:Stmt):Scope:=match s with
 |.FunctionDef _ _ _ _ _ _ sc _ _ _=>sc
 |_=>{ kind:=.function,names:=[],isGenerator:=false,isCoroutine:=false }
abbrev E0:XK:=λ_ _ _=>False
structure Fun (K:Aa)(x qual:Str)(st:Stmt)(f:Aj)(fd:Ad):Prop where
 ex:∃(oc:Ag) (od:Option Aj) (kV doc pm:Ag) (an:Option Aj) (cdv ct:Ag) (osl:Array (Option Ag)),
  fd=W.fnOf x qual (jx st) (vz st) (ww st) .none kV doc pm an cdv ct/\K.lookup f=some ⟨oc,od,.func fd,osl⟩/\W.codeIn K cdv qual=true
 kp:W.keepIn K (.ref f)=true
section
variable {P:Ac}{w:Ah}{K:Aa}{mg:Str->Option Ag}{base:Heap}
theorem Fun.binds {x qual:Str}{st:Stmt}{f:Aj}{fd:Ad}{ps:List Str}(F:Fun K x qual st f fd)
  (h:∀(kV doc pm:Ag) (an:Option Aj) (cdv ct:Ag) (us:List Ag),us.length=ps.length->bindArgs (W.fnOf x qual (jx st) (vz st) (ww st) .none kV doc pm an cdv ct) ⟨us,[]⟩=pure (ps.zip us)):Binds K fd ps []:=by
 obtain⟨J,D,kV,doc,pm,an,cdv,ct,z,rfl,L,U⟩:=F.ex;exact .all (h kV doc pm an cdv ct)
theorem wzn {x qual:Str}{st:Stmt}{f:Aj}{oc:Ag}{od an:Option Aj}{osl:Array (Option Ag)}{kV doc pm cdv ct:Ag}(l:K.lookup f=some ⟨oc,od,.func (W.fnOf x qual (jx st) (vz st) (ww st) .none kV doc pm an cdv ct),osl⟩)
  (c:W.codeIn K cdv qual=true) (k:W.keepIn K (.ref f)=true):Fun K x qual st f (W.fnOf x qual (jx st) (vz st) (ww st) .none kV doc pm an cdv ct):=⟨⟨oc,od,kV,doc,pm,an,cdv,ct,osl,rfl,l,c⟩,k⟩
end
theorem xz0 {A:Ae}{k:Nat}(hr:Room k A):A.units+1<cLine:=eC (Nat.add_le_add_left (by decide:1<=64) _) hr.units
theorem Jt {n:Nat}(h:n<=1000):n<sizeLine:=eC h ⋯
section
variable {X:Cx}
theorem pv (i:Nat){x:Str}{pos:Pos}(hN:autoParam (X.N[i]?=some x) aU4._auto_1)(hv:Vis X.env.scope x:=by walk_at "vs")(hd:autoParam ((x==("__debug__" : Str))=false) aU1._auto_1)
  (hcd:autoParam ((x==("__classdict__" : Str))=false) aU1._auto_1):PE X (.Name x pos) (yd i):=pe_var hN hv hd hcd
end
theorem uc {A B:Prop}(h:B):if false=true then A else B:=by rw[ar aI];exact h
theorem y9 {A B:Prop}(h:A):if true=true then A else B:=by rw[aw rfl];exact h
def Same (H H':Hp):Prop:=∀b o,H b=some o->H' b=some o
theorem Same.refl (H:Hp):Same H H:=λ_ _ h=>h
theorem Same.trans {H H1 H2:Hp}(a:Same H H1)(b:Same H1 H2):Same H H2:=λc o h=>b c o (a c o h)
theorem Same.free {H H':Hp}(e:Same H H'){l:Aj}(h:H' l=Option.none):H l=Option.none:=by
 cases q:H l with
 |none=>rfl
 |some o =>
  rw[e l o q]at h;cases h
theorem Same.seq {K:Aa}{H H':Hp}{a:Aj}{xs:List V}(e:Same H H')(h:SqL K H a xs):SqL K H' a xs:=by
 rcases h with (h|⟨o,h⟩)|h
 .exact .inl (.inl (e _ _ h))
 .exact .inl (.inr ⟨o,e _ _ h⟩)
 .exact .inr h
end L2
namespace L2
open PySem
def itF:Nat->Nat->Nat
 |0,x=>x
 |n+1,x=>itF n (5*x+1)
theorem wk8 (a:Nat):∀b x,itF (b+a) x=itF a (itF b x)
 |0,x=>by rw[cW];rfl
 |b+1,x=>by rw[ie];exact wk8 a b (5*x+1)
theorem wws:∀n x,4*itF n x+1=5 ^ n*(4*x+1)
 |0,x=>by simp[itF]
 |n+1,x=>by show 4*itF n (5*x+1)+1=_;rw[wws n,dj,Nat.mul_assoc];congr 1;lia
theorem wxh:∀e,∃d,d%2=1/\5 ^ (2 ^ e)=1+2 ^ (e+2)*d
 |0=>⟨1,rfl,rfl⟩
 |e+1=>by
  obtain⟨d,h1,h2⟩:=wxh e;refine⟨d+2 ^ (e+1)*(d*d),?_,?_⟩
  .rw[dj,show 2 ^ e*2*(d*d)=2*(2 ^ e*(d*d)) by grind];lia
  .have e1:5 ^ (2 ^ (e+1))=(1+2 ^ (e+2)*d) ^ 2:=by rw[show(2:Nat) ^ (e+1)=2 ^ e*2 from dj ..,Nat.pow_mul,h2]
   have z:(2:Nat) ^ (e+2)=2*2 ^ (e+1):=by rw[show e+2=(e+1)+1 by lia,dj 2 (e+1)];lia
   have D:(2:Nat) ^ (e+1+2)=4*2 ^ (e+1):=by rw[show e+1+2=(e+2)+1 by lia,dj 2 (e+2),z];lia
   rw[e1,D,z];generalize 2 ^ (e+1)=X;grind
theorem xwn (e x:Nat):∃d,d%2=1/\itF (2 ^ e) x=x+2 ^ e*d:=by
 obtain⟨d,h1,h2⟩:=wxh e;refine⟨d*(4*x+1),?_,?_⟩
 .rw[Nat.mul_mod,h1];lia
 .have h:=wws (2 ^ e) x;rw[h2,Nat.pow_add]at h;have z:(1+2 ^ e*2 ^ 2*d)*(4*x+1)=4*(x+2 ^ e*(d*(4*x+1)))+1:=by generalize 2 ^ e=X;grind
  lia
theorem qu9 {P q r:Nat}(h:r<P):(P*q+r)%(2*P)=P*(q%2)+r:=by
 have D:q=2*(q/2)+q%2:=by lia
 have e:P*q+r=(P*(q%2)+r)+2*P*(q/2):=by
  have:P*q=P*(2*(q/2)+q%2):=by rw[<-D]
  rw[this];grind
 rw[e,Nat.add_mul_mod_self_left];refine d8 ?_;rcases cI q with z|z <;> rw[z] <;> lia
theorem qk0:∀e x j,∃k,k<2 ^ e/\itF k x%2 ^ e=j%2 ^ e
 |0,x,j=>⟨0,⋯,by rw[Nat.pow_zero,Nat.mod_one,Nat.mod_one]⟩
 |e+1,x,j=>by
  obtain⟨k,hk,hm⟩:=qk0 e x j;have hP:0<2 ^ e:=jA e;have e2:2 ^ (e+1)=2*2 ^ e:=by rw[dj];lia
  by_cases c:itF k x%2 ^ (e+1)=j%2 ^ (e+1)
  .exact⟨k,⋯,c⟩
  .obtain⟨d,h1,h2⟩:=xwn e (itF k x);refine⟨k+2 ^ e,⋯,?_⟩;rw[wk8,h2];rw[e2]at c ⊢;generalize itF k x=a at *;generalize 2 ^ e=P at *;have U:=(Nat.div_add_mod a P).symm;have L:=(Nat.div_add_mod j P).symm;have D:a%P<P:=eW _ hP;have J:a%(2*P)=P*(a/P%2)+a%P:=by have:=qu9 (q:=a/P) D;rwa [<-U]at this
   have s2:j%(2*P)=P*(j/P%2)+a%P:=by have:=qu9 (q:=j/P) D;rw[hm,<-L]at this;rw[hm];exact this
   have F:(a+P*d)%(2*P)=P*((a/P+d)%2)+a%P:=by have:=qu9 (q:=a/P+d) D;rwa [show P*(a/P+d)+a%P=a+P*d by rw[Nat.mul_add];lia]at this
   rw[J,s2]at c;rw[F,s2];have:(a/P+d)%2=j/P%2:=by rcases cI (a/P) with z|z <;> rcases cI (j/P) with y|y <;> rw[z,y]at c <;> lia
   rw[this]
def lp (mask:Nat):Nat->Nat×Nat->Nat×Nat
 |0,q=>q
 |n+1,q=>lp mask n (SetTable.leap mask q.1 q.2)
theorem xw2 (mask b:Nat):∀a q,lp mask (a+b) q=lp mask b (lp mask a q)
 |0,q=>by rw[cW];rfl
 |a+1,q=>by rw[ie];exact xw2 mask b a _
theorem xxu (mask:Nat):∀n q,(lp mask n q).2=q.2/32 ^ n
 |0,q=>by simp[lp]
 |n+1,q=>by show(lp mask n (SetTable.leap mask q.1 q.2)).2=_;rw[xxu mask n,dj,Nat.mul_comm,<-Nat.div_div_eq_div_mul];rfl
theorem lp_lt {mask:Nat}:∀n q,q.1<=mask->(lp mask n q).1<=mask
 |0,q,h=>h
 |n+1,q,h=>lp_lt n _ (dz (eW _ (eE _)))
theorem wj9 {mask:Nat}:∀n i,i<=mask->(lp mask n (i,0)).1=itF n i%(mask+1)
 |0,i,h=>(d8 (Nat.lt_succ_of_le h)).symm
 |n+1,i,h=>by
  have e:SetTable.leap mask i 0=((5*i+1)%(mask+1),0):=by simp[SetTable.leap,Nat.mul_comm]
  show(lp mask n (SetTable.leap mask i 0)).1=itF n (5*i+1)%(mask+1);rw[e,wj9 n _ (dz (eW _ (eE _)))];have z:∀n x,itF n (x%(mask+1))%(mask+1)=itF n x%(mask+1):=by
   intro n
   induction n with
   |zero=>intro x;exact Nat.mod_mod _ _
   |succ n ih =>
    intro x;show itF n (5*(x%(mask+1))+1)%(mask+1)=itF n (5*x+1)%(mask+1);rw[<-ih (5*(x%(mask+1))+1),<-ih (5*x+1)];congr 2;rw[Nat.add_mod,Nat.mul_mod,Nat.mod_mod,<-Nat.mul_mod,<-Nat.add_mod]
  exact z n _
theorem wqd {e mask:Nat}(hM:mask+1=2 ^ e){q:Nat×Nat}(h1:q.1<=mask)(h2:q.2<2 ^ 64){j:Nat}(hj:j<=mask):∃n,n<=mask+13/\(lp mask n q).1=j:=by
 have z:(lp mask 13 q).2=0:=by rw[xxu];exact Nat.div_eq_of_lt (aL h2 ⋯)
 have D:=lp_lt (mask:=mask) 13 q h1;obtain⟨k,J,F⟩:=qk0 e (lp mask 13 q).1 j;refine⟨13+k,⋯,?_⟩;rw[xw2,show lp mask 13 q=((lp mask 13 q).1,0) from iU rfl z,wj9 k _ D,hM,F];exact d8 ⋯
def zj (t:SetTable):Nat->SetTable.Probe->SetTable.Probe
 |0,p=>p
 |n+1,p=>zj t n (t.advance p)
theorem W4 (t:SetTable)(b:Nat):∀a p,zj t (a+b) p=zj t b (zj t a p)
 |0,p=>by rw[cW];rfl
 |a+1,p=>by rw[ie];exact W4 t b a _
theorem qjx (t:SetTable)(p:SetTable.Probe):(t.advance p).dummy=p.dummy:=by unfold SetTable.advance;split <;> rfl
theorem qx7 (t:SetTable):∀n p,(zj t n p).dummy=p.dummy
 |0,p=>rfl
 |n+1,p=>(qx7 t n _).trans (qjx t p)
def rs (mask:Nat)(q:Nat×Nat):SetTable.Probe:={ j:=q.1,more:=SetTable.runEnd mask q.1-q.1,i:=q.1,perturb:=q.2,dummy:=none }
theorem qxv (t:SetTable)(q:Nat×Nat):∀r j,zj t (r+1) { j:=j,more:=r,i:=q.1,perturb:=q.2,dummy:=none }=rs t.mask (SetTable.leap t.mask q.1 q.2)
 |0,j=>rfl
 |r+1,j=>by
  show zj t (r+1) (t.advance _)=_;have e:t.advance { j:=j,more:=r+1,i:=q.1,perturb:=q.2,dummy:=none }={ j:=j+1,more:=r,i:=q.1,perturb:=q.2,dummy:=none }:=by unfold SetTable.advance;rw[aw (eE r)];rfl
  rw[e];exact qxv t q r (j+1)
theorem xk9 (t:SetTable)(q:Nat×Nat):∃m,m<=10/\zj t m (rs t.mask q)=rs t.mask (SetTable.leap t.mask q.1 q.2):=by refine⟨SetTable.runEnd t.mask q.1-q.1+1,?_,qxv t q _ _⟩;unfold SetTable.runEnd;split <;> lia
theorem wqf (t:SetTable):∀n q,∃N,N<=10*n/\zj t N (rs t.mask q)=rs t.mask (lp t.mask n q)
 |0,q=>⟨0,ak _,rfl⟩
 |n+1,q=>by obtain⟨m,hm,e⟩:=xk9 t q;obtain⟨N,hN,e2⟩:=wqf t n (SetTable.leap t.mask q.1 q.2);exact⟨m+N,⋯,by rw[W4,e,e2];rfl⟩
theorem Jc {t:SetTable}{j i:Nat}(h:t.slot j=.live i):t.place[i]?=some j:=by
 unfold SetTable.slot at h;dsimp only at h;split at h
 .rename_i c;cases h;simpa using c
 .split at h <;> cases h
theorem qzk {t:SetTable}(hd:t.dummies=#[])(j:Nat):t.slot j=.empty\/∃i,t.slot j=.live i:=by
 unfold SetTable.slot;dsimp only;split
 .exact .inr ⟨_,rfl⟩
 .have:SetTable.has t.dummies j=false:=by rw[hd];simp[SetTable.has]
  rw[this];exact .inl rfl
theorem qx3:∀(l l':List Nat),l.Nodup->(∀a∈l,a∈l')->l.length<=l'.length
 |[],_,_,_=>aQ _
 |a::l,l',hn,hs=>by have hn':=dc.mp hn;have ha:=hs a (.head _);have:=qx3 l (l'.erase a) hn'.2 λb hb=>(List.mem_erase_of_ne (λz=>by subst z;exact hn'.1 hb)).mpr (hs b (.tail _ hb));rw[List.length_erase,aw ha]at this;have hp:0<l'.length:=gu ha;rw[aJ];lia
theorem xqm {t:SetTable}(hd:t.dummies=#[])(hz:t.place.size<=t.mask):∃j,j<=t.mask/\t.slot j=.empty:=by
 apply cu;intro c;have:=qx3 (List.range (t.mask+1)) t.place.toList gG λa D=>by
  have z:a<=t.mask:=dz (al.mp D);rcases qzk hd a with h|⟨i,h⟩
  .exact absurd ⟨a,z,h⟩ c
  .have e:=Jc h;exact gM.mpr (Array.mem_of_getElem? e)
 rw[ay,bc]at this;lia
theorem wk3 (h:Int):SetTable.bits h<2 ^ 64:=by unfold SetTable.bits;lia
theorem wyn {t:SetTable}{e:Nat}(hM:t.mask+1=2 ^ e)(hd:t.dummies=#[])(hz:t.place.size<=t.mask)(h:Int):∃N,N<=10*(t.mask+13)/\t.slot (zj t N (t.probeStart h)).j=.empty:=by obtain⟨j,z,hs⟩:=xqm hd hz;obtain⟨n,J,D⟩:=wqd hM (q:=(SetTable.bits h%(t.mask+1),SetTable.bits h)) (dz (eW _ (eE _))) (wk3 h) z;obtain⟨N,L,F⟩:=wqf t n (SetTable.bits h%(t.mask+1),SetTable.bits h);refine⟨N,⋯,?_⟩;show t.slot (zj t N (rs t.mask (SetTable.bits h%(t.mask+1),SetTable.bits h))).j=.empty;rw[F];show t.slot (lp t.mask n _).1=.empty;rw[D];exact hs
inductive MetOk (t:SetTable) (p:SetTable.Probe) (N:Nat):SetTable.Met->Prop
 |empty (j:Nat):MetOk t p N (.empty j none)
 |cand (m i:Nat) (hm:m<N) (hs:t.slot (zj t m p).j=.live i):MetOk t p N (.candidate (zj t m p).j i (zj t (m+1) p))
def liveL (mask:Nat)(owner:Array (Option Nat)):List (Nat×Nat):=(List.range (mask+1)).filterMap λj=>(owner.getD j none).map (j,·)
structure OwnI (mask:Nat)(owner:Array (Option Nat))(k:Nat):Prop where
 size:owner.size=mask+1
 len:(liveL mask owner).length=k
 low:∀j v:Nat,owner[j]?=some (some v)->v<k
end L2
namespace L2
open PySem PySem.Spec PyProof.Rows
theorem nin {b:Aj}:b∉([]:List Aj):=λz=>nomatch z
theorem xjr {K:Aa}{h:Heap}{C:Aj}{bmB:List Ag}{newId:String}(X:K.In h)(q:W.excIn K C bmB newId=true) :
  ∃tl N a1 a2 a3 a4 a5 a6 a7 a8 a9 b0 b1 b2 b3 b5 mN,h.get? C=some (excClassObj a1 a2 C N a3 tl a4 a5 a6 a7 a8 a9 b0 b1 b2 b3 b5 newId) /\
   h.Ns N mN/\mN "__init__" = none/\OwnTail h bmB tl:=by
 unfold W.excIn at q;split at q
 .next dd cd sl ho =>
  split at q
  .next C1 tl x0 x1 x2 x3 nn x5 hm hs =>
   rw[b8,b8,b8,b8,b8]at q;obtain⟨⟨⟨⟨⟨p1,p2⟩,Z⟩,J⟩,z⟩,F⟩:=q;have ad:=eq_of_beq p1;have ab:=eq_of_beq p2;have D:=eq_of_beq F;have U:cd.hasDel=false:=by simpa using Z
   subst ad ab;obtain⟨f1,f2,f3,f4,f5,f6,f7,f8,f9,a0,as⟩:=cd;have ap:f3=Value.ref C1::tl:=hm;have L:as=false:=U;subst ap L;have an:sl=#[x0,x1,x2,x3,some (.builtin nn),x5]:=by
    cases sl with
    |mk l =>
     have:l=[x0,x1,x2,x3,some (.builtin nn),x5]:=hs;rw[this]
   subst an;have ah:=W.isNs_of_in X z;exact⟨tl,f4,f1,f5,f2,f6,f7,f8,f9,a0,dd,x0,x1,x2,x3,x5,_,X _ _ ho,.of_isNs ah,W.nsMap_none_of_in X z D,W.tail_of_in X J⟩
  .exact absurd q ⋯
 .exact absurd q ⋯
def CXE (P:Ac)(w:Ah):CXT:=λouter H s E e s' =>
 ∃(a C:Aj) (a0:Ag) (B:Heap) (H':Hp),e=.ref a/\s'.os=s.os/\AllBare s'.gens/\Un (frs outer) [] H H' s.heap s'.heap/\HOk P w H' B /\
  Heap.FlyingW B outer a (.ref C) a0 s'.heap/\(∀b o,s.heap.get? b=some o->b∉frs outer->∃o',B.get? b=some o'/\(H b=none->o'=o))/\E (.ref C) none H'
theorem CXE.no {P:Ac}{w:Ah}{outer:List Env}{H:Hp}{s s':Ab}{e:Ag}(h:CXE P w outer H s E0 e s'):False:=by obtain⟨_,_,_,_,_,_,_,_,_,_,_,_,q⟩:=h;exact q
def Q8 (X:Cx)(E:St->XK):Prop:=∀(pins:List (Aj×Obj)) (σ:St) (H:Hp) (s:Ab) (e:Ag) (s':Ab),Inv X pins σ H s->CXE X.prog X.w X.stack H s (E σ) e s'->X.xe e s'
theorem Wc {X:Cx}:Q8 X (λ_=>E0):=λ_ _ _ _ _ _ _ h=>h.no.elim
def xw5 (X:Cx)(E:St->XK):Prop:=∀(pins:List (Aj×Obj)) (σ:St) (H:Hp) (s:Ab) (h':Heap) (e C:Aj) (vs:List Ag),Inv X pins σ H s->Heap.MadeExcOf s.heap h' e (.ref C) vs->E σ (.ref C) none H->X.xe (.ref e) { s with heap:=h' }
theorem wwg {env:Env}{L:Aj}{outer:List Env}(h:env.frame=some L):frs (env::outer)=L::frs outer:=by unfold frs;rw[d6,h]
section
variable {P:Ac}{w:Ah}{K:Aa}{mg:Str->Option Ag}{base:Heap}{N:List Str}{qual:Str}{scope:Scope}{f:Aj}{cdv:Ag}{A:Ae}{outer:List Env}{s0:Ab}{H0:Hp}{E:XK}
theorem q8:Q8 (Ww (CXE P w) P w K mg base N qual scope f cdv A outer s0 H0 E) (λ_=>E):=by
 intro pins σ H s e s' I hx;obtain⟨a,C,a0,B,H',rfl,a3,a6,W,a4,ah,a2,q⟩:=hx;have F:=I.base;have hL:∀b o,s0.heap.get? b=some o->b≠s0.heap.objs.size:=λb o e z=>bb _ (z▸ao e);have ab:frs (envOfC qual scope s0.heap.objs.size f cdv::outer)=s0.heap.objs.size::frs outer:=wwg rfl;have a5:∀b o,s0.heap.get? b=some o->b∉frs outer->b∉frs (envOfC qual scope s0.heap.objs.size f cdv::outer):=λb o e n=>by
  rw[ab];intro z;rcases aO.mp z with z|z
  .exact hL b o e z
  .exact n z
 have ad:∀b o,s0.heap.get? b=some o->b∉frs outer->∃o',B.get? b=some o'/\(H0 b=none->o'=o):=λb o e n=>by obtain⟨o1,D⟩:=F.there b o e nin;obtain⟨o2,L,U⟩:=a2 b o1 D (a5 b o e n);refine⟨o2,L,λz=>?_⟩;have Z:=F.keep b o e z n nin;have e5:=F.free b o e z nin;rw[D]at Z;rw[U e5];exact aq Z
 refine wpAny_leaves_onW I.ok.frames rfl ah λh' an as=>?_;have a1:∀b,b∈frs outer->∀o,s0.heap.get? b=some o->H0 b=none->∃sl,h'.get? b=some { o with slots:=sl }:=λb J o e n=>by obtain⟨sl,D⟩:=F.slot b o e n J nin;obtain⟨a7,L⟩:=W.slot b _ D (F.free b o e n nin) (by show b∈frs (envOfC qual scope s0.heap.objs.size f cdv::outer);rw[ab];exact .tail _ J) nin;obtain⟨_,o3,U,nf⟩:=ah.2.2.1.mem (b:=b) (by show b∈frs (envOfC qual scope s0.heap.objs.size f cdv::outer);rw[ab];exact .tail _ J);obtain⟨ap,Z⟩:=as b o3 U nf;rw[L]at U;have e5:=aq U;exact⟨ap,by rw[Z,<-e5]⟩
 refine⟨a,C,a0,B,H',rfl,a3.trans I.os,a6,⟨λb o e n nb _=>?_,λb o e n J _=>a1 b J o e n,λb o e n _=>?_,λb o e _=>?_,λb xs e=>W.tups b xs (F.tups b xs e),λb o u e=>W.frzs b o u (F.frzs b o u e),λb ps e=>?_⟩,a4,an,ad,q⟩
 .obtain⟨o',D,L⟩:=ad b o e nb;rw[L n]at D;exact an.1 b o D
 .obtain⟨o1,D⟩:=F.there b o e nin;exact W.free b o1 D (F.free b o e n nin) nin
 .by_cases J:b∈frs outer
  .obtain⟨o1,D⟩:=F.there b o e nin;obtain⟨o2,L⟩:=W.there b o1 D nin;obtain⟨_,o3,U,nf⟩:=ah.2.2.1.mem (b:=b) (by show b∈frs (envOfC qual scope s0.heap.objs.size f cdv::outer);rw[ab];exact .tail _ J);obtain⟨ap,Z⟩:=as b o3 U nf;exact⟨_,Z⟩
  .obtain⟨o',D,_⟩:=ad b o e J;exact⟨o',an.1 b o' D⟩
 .obtain⟨m1,D⟩:=F.tbls b ps e;obtain⟨m2,L⟩:=W.tbls b _ D;exact⟨m1++m2,by rw[L,Array.append_assoc]⟩
theorem jz:xw5 (Ww (CXE P w) P w K mg base N qual scope f cdv A outer s0 H0 E) (λ_=>E):=by
 intro pins σ H s h' e C vs I hx q;have L:=I.base;have a0:frs (envOfC qual scope s0.heap.objs.size f cdv::outer)=s0.heap.objs.size::frs outer:=wwg rfl;have a3:∀b o,s0.heap.get? b=some o->b∉frs outer->b∉frs (envOfC qual scope s0.heap.objs.size f cdv::outer):=λb o e n=>by
  rw[a0];intro z;rcases aO.mp z with z|z
  .exact bb _ (z▸ao e)
  .exact n z
 have a4:∀b∈frs (envOfC qual scope s0.heap.objs.size f cdv::outer),H b=none:=I.stkFree;have hB:∀b o,s.heap.get? b=some o->b∉frs (envOfC qual scope s0.heap.objs.size f cdv::outer)->(W.hideAll s.heap (frs (envOfC qual scope s0.heap.objs.size f cdv::outer))).get? b=some o:=λb o e n=>W.hideAll_get _ e n;have a2:HOk P w H (W.hideAll s.heap (frs (envOfC qual scope s0.heap.objs.size f cdv::outer))):=λb u D=>by
  refine(I.hok b u D).stay (λc v hc ec=>hB c v ec λhm=>?_) (λ_ z=>z) (λ_ _ z=>z);have hn:=a4 c hm;rcases hc with rfl|hc
  .rw[hn]at D;cases D
  .rw[hn]at hc;cases hc
 have ab:∀b o,s0.heap.get? b=some o->b∉frs outer->∃o',(W.hideAll s.heap (frs (envOfC qual scope s0.heap.objs.size f cdv::outer))).get? b=some o'/\(H0 b=none->o'=o):=λb o e n=>by obtain⟨o1,F⟩:=L.there b o e nin;refine⟨o1,hB b o1 F (a3 b o e n),λz=>?_⟩;have U:=L.keep b o e z n nin;rw[F]at U;exact aq U
 have ap:s.heap.FunFrames base (envOfC qual scope s0.heap.objs.size f cdv::outer):=I.stack;have a5:=W.funFrames_hide (as:=frs (envOfC qual scope s0.heap.objs.size f cdv::outer)) ap (λa7 he b D=>fN.mpr ⟨a7,he,D⟩);refine wpAny_leaves_madeW (base:=W.hideAll s.heap (frs (envOfC qual scope s0.heap.objs.size f cdv::outer))) (h:=s.heap) I.ok.frames rfl (λb o e=>W.of_hideAll _ e) a5 hx λa6 t ad _ _ a1=>?_;have ah:∀b,b∈frs outer->∃o,s.heap.get? b=some o/\∃sl,a6.get? b=some { o with slots:=sl }:=λb D=>by obtain⟨_,o3,J,nf⟩:=ap.mem (b:=b) (by show b∈frs (envOfC qual scope s0.heap.objs.size f cdv::outer);rw[a0];exact .tail _ D);exact⟨o3,J,a1 b o3 (hx.keeps b o3 J) nf⟩
 refine⟨e,C,.ref t,_,H,rfl,I.os,I.bare,⟨λb o F n nb _=>?_,λb o F n D _=>?_,λb o F n _=>L.free b o F n nin,λb o F _=>?_,L.tups,L.frzs,L.tbls⟩,a2,ad,ab,q⟩
 .obtain⟨o',Z,J⟩:=ab b o F nb;rw[J n]at Z;exact ad.1 b o Z
 .obtain⟨sl,Z⟩:=L.slot b o F n D nin;obtain⟨o3,J,an,U⟩:=ah b D;rw[Z]at J;have e5:=aq J;exact⟨an,by rw[U,<-e5]⟩
 .by_cases D:b∈frs outer
  .obtain⟨o3,J,an,U⟩:=ah b D;exact⟨_,U⟩
  .obtain⟨o',Z,_⟩:=ab b o F D;exact⟨o',ad.1 b o' Z⟩
end
section
variable {P:Ac}{w:Ah}{K:Aa}{mg:Str->Option Ag}{base:Heap}
end
def qu6 (sp:Sp)(E:St->XK)(t:TA):TE:=λσ H Q=>t σ H λvs H1=>sp vs H1 Q (E σ)
def qyx (C:Aj)(m:Str)(sp:Sp)(E:St->XK)(ta:TE)(t:TA):TE:=λσ H Q=>ta σ H λx H1=>∃a dx fs,x=.ref a/\H1 a=some (.ins C dx fs)/\fs.lookup m=none /\
 t σ H1 λvs H2=>sp (x::vs) H2 Q (E σ)
def xxn (C:Aj)(sp:Sp)(E:St->XK)(t:TA):TE:=λσ H Q=>t σ H λvs H1=>∀x dx,H1 x=none->H1 dx=none->dx≠x ->
 sp (.ref x::vs) (upd (upd H1 dx (.own x)) x (.ins C dx [])) (λv H2=>v=.non/\Q (.ref x) H2) (E σ)
section
variable {X:Cx}{k:Nat}{f C:Aj}{fd:Ad}{ps:List Str}{sp:Sp}{E:St->XK}{x m:Str}{p pos apos:Pos}{e o:Expr}{es:List Expr}{ta:TE}{t:TA}
theorem qyb {pins:List (Aj×Obj)}{σ:St}{H:Hp}{s:Ab}{Q:VK}{us:List Ag}{vs:List V}(F:FnOk X.prog X.w X.K X.mg X.base (CXE X.prog X.w) k f fd ps sp)(hr:Room k X.A)(hb:Binds X.K fd ps [])(hx:Q8 X E)
  (I:Inv X pins σ H s) (r:Vals vs us) (h:sp vs H Q (E σ)):wpAny (model X.prog X.w) X.A (call (.ref f) us) (EP X pins σ Q) X.xe s:=by
 have J:(us++[]).length=ps.length:=by rw[bE,<-r.length];exact F.len _ _ _ _ h
 have D:=hb s us I.kIn J;rw[bE]at D;refine wpAny_call (fh (F.run X.A X.stack s H ⟨us,[]⟩ us vs Q (E σ) hr I.env0 D r h) λr s' z=>?_);cases r with
 |error e=>exact hx pins σ H s e s' I z
 |ok fl =>
  cases fl with
  |ret u=>exact I.after z
  |next=>exact False.elim z
  |brk=>exact False.elim z
  |cont=>exact False.elim z
theorem xvf (F:FnOk X.prog X.w X.K X.mg X.base (CXE X.prog X.w) k f fd ps sp)(hr:Room k X.A)(hg:Gl X x)(hm:X.mg x=some (.ref f))(hk:W.keepIn X.K (.ref f)=true)(hb:Binds X.K fd ps [])(hx:Q8 X E)
  (ha:PA X (e::es) t) (hdb:autoParam ((x==("__debug__" : Str))=false) aU1._auto_1) (he:autoParam (starEach (e::es) X.env=(false,eval e X.env)::starEach es X.env) aU4._auto_1) (hpl:autoParam ((backTo pos (starEach es X.env)).any (·.1)=false) aU4._auto_1) :
  PE X (.Call (.Name x p) (e::es) [] pos) (qu6 sp E t):=by
 intro pins s σ H Q I h;refine cQ (qwf I hg hm ?_ hdb);refine ig (h₀:=X.base) I.ok.mod.kin hk (thn (ha pos pins s σ H _ I h) λus s1 ⟨vs,H1,I1,r,q⟩=>⟨I1.kIn,?_⟩) he hpl;exact qyb F hr hb hx I1 r q
theorem xw1 {pl:Sem Bool}(he:PE X o ta)(c:Cls X.K C)(hm:Meth X.K C m f)(F:FnOk X.prog X.w X.K X.mg X.base (CXE X.prog X.w) k f fd ps sp)(hr:Room k X.A)(hb:Binds X.K fd ps [])(hx:Q8 X E)(ha:PA X (e::es) t)
  (hst:autoParam (starEach (e::es) X.env=(false,eval e X.env)::starEach es X.env) aU4._auto_1) (hpl:autoParam ((backTo pos (starEach es X.env)).any (·.1)=false) aU4._auto_1)
  (ht:autoParam (eval (.Call (.Attribute o m apos) (e::es) [] pos) X.env=(do
   let ov <-eval o X.env
   standAt apos.atName
   let (f,first) <-holding [ov] (getMethod ov m pl)
   callWith pos f first (backTo pos (starEach (e::es) X.env)) (backToKw pos (keywordEach [] X.env)))) aU4._auto_1) :
  PE X (.Call (.Attribute o m apos) (e::es) [] pos) (qyx C m sp E ta t):=by
 intro pins s σ H Q I h;refine W.methodCall_KW (pl:=pl) (thn (he pins s σ H _ I h) λu s1 ⟨x,H1,I1,rx,a,dx,fs,ex,ea,l,q⟩=>?_) ht;subst ex;obtain rfl:u=Value.ref a:=rx;refine qz1 I1 ea c hm l ?_;refine ig (first:=[.ref a]) (h₀:=X.base) I.ok.mod.kin hm.kp (thn (ha pos pins s1 σ H1 _ I1 q) λus s2 ⟨vs,H2,I2,r,q2⟩=>⟨I2.kIn,?_⟩) hst hpl;exact qyb (us:=.ref a::us) (vs:=.ref a::vs) F hr hb hx I2 (.cons rfl r) q2
theorem wu4 {pl:Sem Bool}(he:PE X o ta)(c:Cls X.K C)(hm:Meth X.K C m f)(F:FnOk X.prog X.w X.K X.mg X.base (CXE X.prog X.w) k f fd ps sp)(hr:Room k X.A)(hb:Binds X.K fd ps [])(hx:Q8 X E)
  (ht:autoParam (eval (.Call (.Attribute o m apos) [] [] pos) X.env=(do
   let ov <-eval o X.env
   standAt apos.atName
   let (f,first) <-holding [ov] (getMethod ov m pl)
   callWith pos f first (backTo pos (starEach [] X.env)) (backToKw pos (keywordEach [] X.env)))) aU4._auto_1) :
  PE X (.Call (.Attribute o m apos) [] [] pos) (qyx C m sp E ta qxd):=by
 intro pins s σ H Q I h;refine W.methodCall_KW (pl:=pl) (thn (he pins s σ H _ I h) λu s1 ⟨x,H1,I1,rx,a,dx,fs,ex,ea,l,q⟩=>?_) ht;subst ex;obtain rfl:u=Value.ref a:=rx;refine qz1 I1 ea c hm l ?_;exact W.callWith_K0 (first:=[.ref a]) I1.kIn hm.kp (qyb (us:=[.ref a]) (vs:=[.ref a]) F hr hb hx I1 (.cons rfl .nil) q)
theorem wyz {pins:List (Aj×Obj)}{σ:St}{H:Hp}{s:Ab}{Q:VK}{us:List Ag}{vs:List V}(M:Mk X.K C f)(F:FnOk X.prog X.w X.K X.mg X.base (CXE X.prog X.w) k f fd ps sp)(hr:Room (k+1) X.A)(hb:Binds X.K fd ps [])
  (hx:Q8 X E) (I:Inv X pins σ H s) (r:Vals vs us)
  (h:∀x dx,H x=none->H dx=none->dx≠x->sp (.ref x::vs) (upd (upd H dx (.own x)) x (.ins C dx [])) (λv H2=>v=.non/\Q (.ref x) H2) (E σ)) :
  wpAny (model X.prog X.w) X.A (call (.ref C) us) (EP X pins σ Q) X.xe s:=by
 have L:=h (s.heap.objs.size+1) s.heap.objs.size (I.hok.fresh (jI _)) (I.hok.fresh (ak _)) (aB (d7 _));have D:=Inv.made (C:=C) I;have J:Vals (V.ref (s.heap.objs.size+1)::vs) (Value.ref (s.heap.objs.size+1)::us):=.cons rfl r;have hl:((Value.ref (s.heap.objs.size+1)::us)++[]).length=ps.length:=by rw[bE,<-J.length];exact F.len _ _ _ _ L
 have U:=hb _ (Value.ref (s.heap.objs.size+1)::us) D.kIn hl;rw[bE]at U;refine wpAny_call (xx6 (f:=f) I.kIn M.makes M.init (fO.mp M.fn) (fh (F.run _ X.stack _ _ ⟨Value.ref (s.heap.objs.size+1)::us,[]⟩ (Value.ref (s.heap.objs.size+1)::us) _ _ (E σ) (hr.make C us [])
  (D.env0.make C us []) U J L) λr s' z=>?_))
 cases r with
 |error e=>exact hx pins σ _ _ e s' D z
 |ok fl =>
  cases fl with
  |ret u =>
   obtain⟨v,H',I3,W,ev,Z⟩:=D.after z;subst ev;exact⟨W,⟨V.ref (s.heap.objs.size+1),H',I3,rfl,Z⟩⟩
  |next=>exact False.elim z
  |brk=>exact False.elim z
  |cont=>exact False.elim z
theorem xzs (M:Mk X.K C f)(F:FnOk X.prog X.w X.K X.mg X.base (CXE X.prog X.w) k f fd ps sp)(hr:Room (k+1) X.A)(hg:Gl X x)(hm:X.mg x=some (.ref C))(hb:Binds X.K fd ps [])(hx:Q8 X E)
  (ha:PA X (e::es) t) (hdb:autoParam ((x==("__debug__" : Str))=false) aU1._auto_1) (he:autoParam (starEach (e::es) X.env=(false,eval e X.env)::starEach es X.env) aU4._auto_1) (hpl:autoParam ((backTo pos (starEach es X.env)).any (·.1)=false) aU4._auto_1) :
  PE X (.Call (.Name x p) (e::es) [] pos) (xxn C sp E t):=by
 intro pins s σ H Q I h;refine cQ (qwf I hg hm ?_ hdb);refine ig (h₀:=X.base) I.ok.mod.kin M.kp (thn (ha pos pins s σ H _ I h) λus s1 ⟨vs,H1,I1,r,q⟩=>⟨I1.kIn,?_⟩) he hpl;exact wyz M F hr hb hx I1 r q
end
structure ExcC (K:Aa)(C:Aj):Prop where
 q:W.excIn K C [.type "ValueError",.type "Exception",.type "BaseException",.type "object"] "ValueError.__new__" = true
def tRaise (C:Aj)(E:St->XK)(t:TA):TS:=λD σ H=>t σ H λvs H1=>vs.length<=sizeLine/\E σ (.ref C) none H1
section
variable {X:Cx}{C:Aj}{E:St->XK}{x:Str}{np cpos pos:Pos}{e:Expr}{es:List Expr}{t:TA}
theorem yh (hc:X.calm=true)(c:ExcC X.K C)(hR:xw5 X E)(hg:Gl X x)(hm:X.mg x=some (.ref C))(ha:PA X (e::es) t)(hdb:autoParam ((x==("__debug__" : Str))=false) aU1._auto_1)
  (he:autoParam (starEach (e::es) X.env=(false,eval e X.env)::starEach es X.env) aU4._auto_1) (hpl:autoParam ((backTo cpos (starEach es X.env)).any (·.1)=false) aU4._auto_1) :
  PS X (.Raise (some (.Call (.Name x np) (e::es) [] cpos)) none pos) (tRaise C E t):=by
 intro pins s σ H D I h;obtain⟨tl,N,a1,a2,a3,a4,a5,a6,a7,a8,a9,b0,b1,b2,b3,Z,mN,W,U,L,T⟩:=xjr I.ok.mod.kin c.q;refine wpAny_Raise_call_subT (C:=C) (nm:=a1) (q:=a2) (N:=N) (bs:=a3) (bm:=tl) (hdct:=a4) (sn:=a5) (sub:=a6) (ab:=a7) (col:=a8) (dd:=a9) (k0:=b0) (k1:=b1) (k2:=b2) (k3:=b3) (k5:=Z)
  ii (mN:=mN) (T.hasType ii.hasBase) (I.ok.hd hc) (by rw[he];show(false||(backTo cpos (starEach es X.env)).any (·.1))=false;rw[hpl];rfl) L (qwf I hg hm ⟨rfl,?_⟩ hdb)
 have F:=ha cpos pins s σ H _ I h;rw[he]at F ⊢;refine Calls.evalArgs_plain (aY F (λus s1 ⟨vs,H1,I1,r,hl,q⟩=>⟨rfl,by rw[<-r.length];exact hl,I1.bk _ _ W,U.keeps I1.bk,T.keeps I1.bk,λh' e J=>hR pins σ H1 s1 h' e C us I1 J q⟩) λ_ _ z=>z)
end
def Sm (n:Nat)(i:Int):Prop:=i.natAbs<2 ^ n
theorem Sm.bits {n:Nat}{i:Int}(h:Sm n i):Builtin.Int.intBits i<=n:=PyProof.Rows.intBits_le h
theorem Sm.mono {n m:Nat}{i:Int}(h:Sm n i)(hm:n<=m):Sm m i:=aL h (du ⋯ hm)
theorem Sm.mul {n m:Nat}{i j:Int}(h:Sm n i)(h':Sm m j):Sm (n+m) (i*j):=by unfold Sm at *;rw[eX,Nat.pow_add];exact Nat.mul_lt_mul_of_lt_of_le h (bp h') (jA m)
theorem Sm.neg {n:Nat}{i:Int}(h:Sm n i):Sm n (-i):=by unfold Sm at *;rw[Int.natAbs_neg];exact h
theorem Sm.sub {n:Nat}{i j:Int}(h:Sm n i)(h':Sm n j):Sm (n+1) (i-j):=by unfold Sm at *;have:=dj (n:=2) (m:=n);lia
theorem Sm.of_le {n:Nat}{i j:Int}(h:Sm n j)(e:i.natAbs<=j.natAbs):Sm n i:=eC e h
theorem Sm.ok {n m:Nat}{i j:Int}(h:Sm n i)(h':Sm m j)(e:n+m<=134217728):IntMulOk i j:=IntMulOk.of_le h.bits h'.bits e
theorem Sm.log {n:Nat}{i:Int}(h:Sm n i)(hn:n<=9000):i.natAbs.log2<9000:=by
 by_cases h0:i.natAbs=0
 .rw[h0];decide
 .exact aL ((Nat.log2_lt h0).mpr h) hn
theorem Sm.noPl {n:Nat}{i j:Int}(h:Sm n j)(hn:n<=9000):Builtin.divisionGoesByPylong i j=false:=PyProof.noPylong_of_log2 (h.log hn)
section
variable {X:Cx}
theorem xq:OpR X (binaryOp .Mult) (rI IntMulOk λi j=>.int (i*j)):=opI λ_ _ _ _ _ _ _ hc q=>mul_int q hc
theorem jc:OpR X (binaryOp .FloorDiv) (rI (λ_ j=>0<j/\Sm 9000 j) λi j=>.int (i/j)):=opI λi j _ _ _ _ _ hc q =>
 floordiv_int ⋯ (by rw[Int.fdiv_eq_ediv_of_nonneg i (g9 hc.1)];exact q) (.inl (hc.2.noPl (ak _)))
theorem Wg:js X (.builtin "isinstance") (λxs H Q=>∃x T t b,xs=[x,.ty T]/\TyOf X.K H x t/\W.kitOne X.K t (.type T)=some b/\Q (.bl b) H):=by intro pins s σ H xs us Q I r h;obtain⟨x,T,t,b,rfl,ty,e,q⟩:=h;obtain⟨u,F,rfl,D,z⟩:=xwg r;cases z;exact wyg I D ty e λtk=>⟨.bl b,H,I.tok tk,rfl,q⟩
end
mutual
def RD (K:Aa)(H:Hp):PyData->V->Prop
 |.none,v=>v=.non
 |.bool b,v=>v=.bl b
 |.int i,v=>v=.int i
 |.str x,v=>v=.str x
 |.list ds,v=>∃a xs,v=.ref a/\SqL K H a xs/\RDs K H ds xs
 |.tuple ds,v=>∃a xs,v=.ref a/\SqT K H a xs/\RDs K H ds xs
 |.dict _,_=>False
def RDs (K:Aa)(H:Hp):List PyData->List V->Prop
 |[],xs=>xs=[]
 |d::ds,xs=>∃y ys,xs=y::ys/\RD K H d y/\RDs K H ds ys
end
section
variable {X:Cx}{pins:List (Aj×Obj)}{σ:St}{H:Hp}{s:Ab}
mutual
theorem qxh (I:Inv X pins σ H s):∀(d:PyData) (v:V) (u:Ag),RD X.K H d v->RelV v u->∃as,Reads s.heap u d as
 |.none,v,u,h,r=>by rw[RD]at h;subst h;cases(show u=Value.none from r);exact⟨_,.none⟩
 |.bool b,v,u,h,r=>by rw[RD]at h;subst h;cases(show u=Value.bool b from r);exact⟨_,.bool b⟩
 |.int i,v,u,h,r=>by rw[RD]at h;subst h;obtain⟨t,rfl⟩:=(show ∃t,u=Value.int i t from r);exact⟨_,.int i t⟩
 |.str x,v,u,h,r=>by rw[RD]at h;subst h;obtain⟨t,rfl⟩:=(show ∃t,u=Value.str x t from r);exact⟨_,.str x t⟩
 |.list ds,v,u,h,r=>by rw[RD]at h;obtain⟨a,xs,rfl,hs,hd⟩:=h;cases(show u=Value.ref a from r);obtain⟨its,rv,⟨o,n,e1,e2,_,e3⟩,_⟩:=I.list hs;obtain⟨as,ha⟩:=Jm I ds xs its hd rv;exact⟨_,.list e1 e2 e3 (by simpa using ha)⟩
 |.tuple ds,v,u,h,r=>by rw[RD]at h;obtain⟨a,xs,rfl,hs,hd⟩:=h;cases(show u=Value.ref a from r);obtain⟨its,rv,⟨o,e1,e2,n,e3⟩,_⟩:=I.tuple hs;obtain⟨as,ha⟩:=Jm I ds xs its hd rv;exact⟨_,.tuple e1 e2 e3 (by simpa using ha)⟩
 |.dict _,_,_,h,_=>by rw[RD]at h;exact h.elim
theorem Jm (I:Inv X pins σ H s):∀(ds:List PyData) (vs:List V) (us:List Ag),RDs X.K H ds vs->Vals vs us->∃as,ReadsAll s.heap us ds as
 |[],vs,us,h,r=>by rw[RDs]at h;subst h;cases r;exact⟨_,.nil⟩
 |d::ds,vs,us,h,r=>by
  rw[RDs]at h;obtain⟨y,ys,rfl,h1,h2⟩:=h;cases r with
  |cons r1 r2 =>
   obtain⟨as,a1⟩:=qxh I d y _ h1 r1;obtain⟨bs,a2⟩:=Jm I ds ys _ h2 r2;exact⟨_,.cons a1 a2⟩
end
def rEqD (K:Aa)(neg:Bool):R2:=λx y H Q=>∃d e,RD K H d x/\RD K H e y/\d.canLay0=true/\e.canLay0=true/\min d.depth e.depth<=60/\Q (.bl (if neg then !PyData.eqv d e else PyData.eqv d e)) H
theorem qj5 (hu:X.A.units+64<cLine):OpR X (compareOp .Eq) (rEqD X.K false):=by intro pins s σ H x y v u Q I D z h;obtain⟨d,e,h1,h2,J,F,W,q⟩:=h;obtain⟨as,U⟩:=qxh I d x v h1 D;obtain⟨Z,L⟩:=qxh I e y u h2 z;exact PySem.SeqAt.compareEq_reads U L J F ⋯ ⟨.bl _,H,I,rfl,q⟩
end
def ptD (p:Int×Int):PyData:=.tuple [.int p.1,.int p.2]
theorem qz7:∀(xs ys:List Int),PyData.eqvAll (xs.map .int) (ys.map .int)=decide (xs=ys)
 |[],[]=>rfl
 |[],_::_=>rfl
 |_::_,[]=>rfl
 |x::xs,y::ys=>by
  rw[aC,aC,PyData.eqvAll,qz7 xs ys,PyData.eqv];by_cases h:x=y
  .subst h;simp
  .simp[h]
theorem wz5 (p q:Int×Int):PyData.eqv (ptD p) (ptD q)=decide (p=q):=by obtain⟨a,b⟩:=p;obtain⟨c,d⟩:=q;unfold ptD;rw[PyData.eqv];have:=qz7 [a,b] [c,d];rw[aC,aC,di,aC,aC,di]at this;rw[this];simp
theorem wwb:∀(xs:List Int),PyData.canLayAll0 (xs.map .int)=true
 |[]=>rfl
 |x::xs=>by rw[aC,PyData.canLayAll0,wwb xs];rfl
theorem wwh:∀(xs:List Int),PyData.depthAll (xs.map .int)<=1
 |[]=>by simp[PyData.depthAll]
 |x::xs=>by have:=wwh xs;simp only[aC,PyData.depthAll,PyData.depth];lia
theorem wkr {K:Aa}{H:Hp}:∀(xs:List Int),RDs K H (xs.map .int) (xs.map V.int)
 |[]=>by rw[di,di,RDs]
 |x::xs=>by rw[aC,aC,RDs];exact⟨_,_,rfl,by rw[RD],wkr xs⟩
end L2
namespace L2
open PySem PySem.Spec PyProof.Rows
section
variable {P:Ac}{w:Ah}{K:Aa}{mg:Str->Option Ag}{base:Heap}
theorem Fun.okX {x qual:Str}{st:Stmt}{f:Aj}{fd:Ad}{N ps:List Str}{k:Nat}{sp:Sp}(F:Fun K x qual st f fd)(S:FnScope N ps (ww st))(len:∀vs H Q E,sp vs H Q E->vs.length=ps.length)
  (body:∀(cdv:Ag) (A:Ae) (outer:List Env) (s:Ab) (H:Hp) (vs:List V) (Q:VK) (E:XK),Room k (A.deeper (envOfC qual (ww st) s.heap.objs.size f cdv))->sp vs H Q E ->
   ∃t,PSs (Ww (CXE P w) P w K mg base N qual (ww st) f cdv A outer s H E) (vz st) t/\t { nx:=λ_ H'=>Q .non H',rt:=Q } (Zb N vs) H):FnOk P w K mg base (CXE P w) (k+1) f fd ps sp:=by
 obtain⟨Z,W,kV,ab,pm,an,cdv,ct,U,rfl,z,L⟩:=F.ex;exact xzv z L S len λA outer s H vs Q E J D=>body cdv A outer s H vs Q E J D
structure DefIn (K:Aa)(x:Str)(st:Stmt):Prop where
 ex:∃f fd,W.nsIn K mainGlobals x=some (some (.ref f))/\Fun K x x st f fd
theorem def_mk {x:Str}{st:Stmt}{f:Aj}{oc:Ag}{od an:Option Aj}{osl:Array (Option Ag)}{kV doc pm cdv ct:Ag}(a:W.nsIn K mainGlobals x=some (some (.ref f)))
  (l:K.lookup f=some ⟨oc,od,.func (W.fnOf x x (jx st) (vz st) (ww st) .none kV doc pm an cdv ct),osl⟩) (c:W.codeIn K cdv x=true) (k:W.keepIn K (.ref f)=true):DefIn K x st:=⟨_,_,a,wzn l c k⟩
def xy (x:Str)(st:Stmt)(ps:List Str):Prop:=∀(kV doc pm:Ag) (an:Option Aj) (cdv ct:Ag) (us:List Ag),us.length=ps.length->bindArgs (W.fnOf x x (jx st) (vz st) (ww st) .none kV doc pm an cdv ct) ⟨us,[]⟩=pure (ps.zip us)
theorem bA1 {f}{ps:List Str}{u:List Ag}(h:u.length=1)(k:∀a,bindArgs f ⟨[a],[]⟩=pure (ps.zip [a])):bindArgs f ⟨u,[]⟩=pure (ps.zip u):=match u,h with|[a],_=>k a
theorem bA2 {f}{ps:List Str}{u:List Ag}(h:u.length=2)(k:∀a b,bindArgs f ⟨[a,b],[]⟩=pure (ps.zip [a,b])):bindArgs f ⟨u,[]⟩=pure (ps.zip u):=match u,h with|[a,b],_=>k a b
theorem bA3 {f}{ps:List Str}{u:List Ag}(h:u.length=3)(k:∀a b c,bindArgs f ⟨[a,b,c],[]⟩=pure (ps.zip [a,b,c])):bindArgs f ⟨u,[]⟩=pure (ps.zip u):=match u,h with|[a,b,c],_=>k a b c
theorem bA4 {f}{ps:List Str}{u:List Ag}(h:u.length=4)(k:∀a b c d,bindArgs f ⟨[a,b,c,d],[]⟩=pure (ps.zip [a,b,c,d])):bindArgs f ⟨u,[]⟩=pure (ps.zip u):=match u,h with|[a,b,c,d],_=>k a b c d
structure Cal (P:Ac)(w:Ah)(K:Aa)(mg:Str->Option Ag)(base:Heap)(x:Str)(k:Nat)(sp:Sp):Prop where
 ex:∃f fd ps,mg x=some (.ref f)/\FnOk P w K mg base (CXE P w) k f fd ps sp/\W.keepIn K (.ref f)=true/\Binds K fd ps []
theorem DefIn.cal {x:Str}{st:Stmt}{ps:List Str}{k:Nat}{sp:Sp}{h:Heap}(d:DefIn K x st)(KX:K.In h)(G:h.Ns mainGlobals mg)(b:xy x st ps)(ok:∀f fd,Fun K x x st f fd->FnOk P w K mg base (CXE P w) k f fd ps sp):Cal P w K mg base x k sp:=by obtain⟨f,fd,a,F⟩:=d.ex;exact⟨f,fd,ps,bW KX G a,ok f fd F,F.kp,F.binds b⟩
end
section
variable {X:Cx}{x:Str}{k:Nat}{sp:Sp}{E:St->XK}{p pos:Pos}{e:Expr}{es:List Expr}{t:TA}
theorem wu (c:Cal X.prog X.w X.K X.mg X.base x k sp)(hr:Room k X.A)(hg:Gl X x)(hx:Q8 X E)
  (ha:PA X (e::es) t) (hdb:autoParam ((x==("__debug__" : Str))=false) aU1._auto_1) (he:autoParam (starEach (e::es) X.env=(false,eval e X.env)::starEach es X.env) aU4._auto_1) (hpl:autoParam ((backTo pos (starEach es X.env)).any (·.1)=false) aU4._auto_1) :
  PE X (.Call (.Name x p) (e::es) [] pos) (qu6 sp E t):=by
 obtain⟨f,fd,ps,D,F,z,b⟩:=c.ex;exact xvf F hr hg D z b hx ha hdb he hpl
end
def tCut (t u:TS):TS:=λD σ H=>∃R:St->Hp->Prop,t { D with nx:=R } σ H/\∀σ' H',R σ' H'->u D σ' H'
theorem qwn {X:Cx}{st:Stmt}{rest:List Stmt}{t u:TS}(h1:PS X st t)(h2:PSs X rest u):PSs X (st::rest) (tCut t u):=by
 intro pins s σ H D I ⟨R,h,hR⟩;refine iS (thn (h1 pins s σ H { D with nx:=R } I h) λf F q=>?_);cases f with
 |next =>
  obtain⟨z,H1,L,J⟩:=q;exact h2 pins F z H1 D L (hR z H1 J)
 |brk=>exact q
 |cont=>exact q
 |ret u=>exact q
theorem jb {c A B:Prop}[Decidable c](h1:c->A)(h2:¬ c->B):if decide c=true then A else B:=by
 by_cases h:c
 .rw[aF h];exact y9 (h1 h)
 .rw[aT h];exact uc (h2 h)
theorem deqI {i j:Int}:decide (V.int i=V.int j)=decide (i=j):=by
 by_cases h:i=j
 .subst h;simp
 .simp[h]
theorem jr {i j:Int}{A B:Prop}(h1:i=j->A)(h2:i≠j->B):if decide (V.int i=V.int j)=true then A else B:=by rw[deqI];exact jb h1 h2
theorem xN {i j:Int}{A B:Prop}(k:B)(h:autoParam (i≠j) aU1._auto_1):if decide (V.int i=V.int j)=true then A else B:=jr (λz=>absurd z h) (λ_=>k)
theorem Same.upd {H:Hp}{p:Aj}{o:HO}(n:H p=none):Same H (upd H p o):=λb u e=>by rw[wx (wj e n)];exact e
theorem Same.rd {H H':Hp}{a:Aj}{o:HO}(h:Same H H')(r:Rd H a o):Rd H' a o:=by
 rcases r with r|⟨u,r⟩
 .exact .inl (h a _ r)
 .exact .inr ⟨u,h a _ r⟩
theorem Same.sqt {K:Aa}{H H':Hp}{a:Aj}{xs:List V}(h:Same H H')(s:SqT K H a xs):SqT K H' a xs:=by
 rcases s with s|s
 .exact .inl (h.rd s)
 .exact .inr s
theorem Same.sql {K:Aa}{H H':Hp}{a:Aj}{xs:List V}(h:Same H H')(s:SqL K H a xs):SqL K H' a xs:=h.seq s
theorem SqT.new {K:Aa}{H:Hp}{p:Aj}{xs:List V}:SqT K (upd H p (.tup xs)) p xs:=SqT.of qu
theorem SqL.new {K:Aa}{H:Hp}{p:Aj}{xs:List V}:SqL K (upd H p (.lst xs)) p xs:=SqL.of qu
theorem Wr:bootBuiltins "abs" = some (.builtin "abs"):=by decide +kernel
theorem xq9:bootBuiltins "all" = some (.builtin "all"):=by decide +kernel
theorem qw2 {ns:List Int}{i:Int}(h0:0<=i)(h1:i<ns.length):atI (ns.map V.int) i=some (V.int (ns.getD i.toNat 0)):=by
 have z:i.toNat<ns.length:=by lia
 have e:(ns.map V.int)[i.toNat]?=some (V.int (ns.getD i.toNat 0)):=by rw[ax,ae,aa z];rfl
 have:=v6 e;rwa [bR h0]at this
def wqs (ns:List Int)(i:Int):Int:=if i<ns.length then ns.getD i.toNat 0 else if(ns.length:Int)=0 then 7*i+3 else ns.getD (i%ns.length).toNat 0+1009*i
def divs (c:Int):Nat->Int
 |0=>c
 |n+1=>divs c n/1000
def wzq (K:Aa):Sp:=λvs H Q _=>∃(a:Aj) (ns:List Int) (i:Int),vs=[.ref a,.int i]/\SqL K H a (ns.map V.int)/\0<=i/\∀r,r=wqs ns i->Q (.int r) H
def Wz (c:Int):Int:=if c<0 then -c else c
def quv (c t:Int):Int:=(c%1000003*48271+t*7919+101)%999983
def wxf (c t:Int):Int:=(quv c t*quv c t+c%1000003*31+t*104729)%1000033
def wqm (c t:Int):Int:=if 10 ^ 18<=Wz c then(if c<0 then divs (Wz c) t.toNat%1000 else divs (Wz c) t.toNat) else(wxf c t*wxf c t+quv c t*17+t*30011)%999979
def www (ns:List Int)(i t m:Int):Int:=wqm (wqs ns i) t%m
theorem xz5 (ns:List Int)(i t m:Int)(h:0<m):0<=www ns i t m:=bY _ ⋯
theorem xwu (ns:List Int)(i t m:Int)(h:0<m):www ns i t m<m:=bM _ h
theorem xz2 {c t:Int}(h:10 ^ 18<=Wz c)(n:c<0):wqm c t=divs (Wz c) t.toNat%1000:=by rw[wqm,aw h,aw n]
theorem wuc {c t:Int}(h:10 ^ 18<=Wz c)(n:¬ c<0):wqm c t=divs (Wz c) t.toNat:=by rw[wqm,aw h,ar n]
theorem xwz {c t:Int}(h:¬ 10 ^ 18<=Wz c):wqm c t=(wxf c t*wxf c t+quv c t*17+t*30011)%999979:=by rw[wqm,ar h]
def Jh (K:Aa):Sp:=λvs H Q _=>∃(a:Aj) (ns:List Int) (i t m:Int),vs=[.ref a,.int i,.int t,.int m]/\SqL K H a (ns.map V.int)/\0<=i/\0<=t/\t<1000000/\0<m /\
 ∀r,r=www ns i t m->0<=r->r<m->Q (.int r) H
theorem Sm.small {n:Nat}{i:Int}(h1:-(2 ^ 64)<=i)(h2:i<=2 ^ 64)(hn:65<=n):Sm n i:=by refine Sm.mono (n:=65) ?_ hn;unfold Sm;lia
theorem sz1 {x:V}:[x].length<=sizeLine:=by show 1<=sizeLine;decide
theorem sz2 {x y:V}:[x,y].length<=sizeLine:=by show 2<=sizeLine;decide
theorem sz0:([]:List V).length<=sizeLine:=by show 0<=sizeLine;decide
end L2
namespace L2
open PySem
def qq5 (x y:Int):Int:=((Nat.gcd x.toNat y.toNat:Nat):Int)
theorem xqr {x:Int}(h:0<=x):qq5 x 0=x:=by unfold qq5;have:(0:Int).toNat=0:=rfl;rw[this,Nat.gcd_zero_right];lia
theorem wyc {x y:Int}(hx:0<=x)(hy:0<y):qq5 y (x%y)=qq5 x y:=by
 unfold qq5;have e:(x%y).toNat=x.toNat%y.toNat:=by
  have h1:x=(x.toNat:Int):=by lia
  have h2:y=(y.toNat:Int):=by lia
  have z:x%y=((x.toNat%y.toNat:Nat):Int):=by
   conv=>lhs;rw[h1,h2]
   exact(Int.natCast_emod _ _).symm
  rw[z];exact bP _
 rw[e,Nat.gcd_comm y.toNat,<-Nat.gcd_rec,Nat.gcd_comm]
theorem wjx (t:Int):Wz t=(t.natAbs:Int):=by unfold Wz;split <;> lia
theorem wks (t:Int):0<=Wz t:=by rw[wjx];lia
theorem ju (t b:Int):qq5 (Wz t) b=((Nat.gcd t.natAbs b.toNat:Nat):Int):=by unfold qq5;rw[wjx,bP]
def gOf (t b:Int):Int:=qq5 (Wz t) b
def wv (t b:Int):Int×Int:=(t/gOf t b,b/gOf t b)
theorem yb {t b:Int}(h:1<=b):1<=gOf t b:=by unfold gOf;rw[ju];have:0<Nat.gcd t.natAbs b.toNat:=Nat.gcd_pos_of_pos_right _ ⋯;lia
theorem xx9 {t b:Int}(h:1<=b):gOf t b<=b:=by unfold gOf;rw[ju];have:Nat.gcd t.natAbs b.toNat<=b.toNat:=Nat.gcd_le_right _ ⋯;lia
theorem wyb {t b:Int}(h:1<=b):gOf t b∣b:=by
 unfold gOf;rw[ju];have h1:((Nat.gcd t.natAbs b.toNat:Nat):Int)∣(b.toNat:Int):=iV.mpr (Nat.gcd_dvd_right _ _);have h2:(b.toNat:Int)=b:=by lia
 rwa [h2]at h1
theorem wuq {t b:Int}:gOf t b∣t:=by unfold gOf;rw[ju];have h1:((Nat.gcd t.natAbs b.toNat:Nat):Int)∣(t.natAbs:Int):=iV.mpr (Nat.gcd_dvd_left _ _);exact Int.dvd_natAbs.mp h1
theorem qjj {t b:Int}:gOf t b*(t/gOf t b)=t:=gN wuq
theorem qqm {t b:Int}(h:1<=b):gOf t b*(b/gOf t b)=b:=gN (wyb h)
theorem zu {t b:Int}(h:1<=b):(wv t b).1*b=t*(wv t b).2:=by
 unfold wv;dsimp only;have h1:=qjj (t:=t) (b:=b);have h2:=qqm (t:=t) (b:=b) h
 conv=>lhs;rw[<-h2]
 conv=>rhs;rw[<-h1]
 rw[h1,h2];have D:t/gOf t b*b=t/gOf t b*(gOf t b*(b/gOf t b)):=by rw[h2]
 have z:t*(b/gOf t b)=gOf t b*(t/gOf t b)*(b/gOf t b):=by rw[h1]
 rw[D,z,<-gK,bj (t/gOf t b)]
theorem zx {t b:Int}(h:1<=b):1<=(wv t b).2:=by
 show 1<=b/gOf t b;have h2:=qqm (t:=t) (b:=b) h;have D:=yb (t:=t) h;have:0<b/gOf t b:=by
  rcases bh 0 (b/gOf t b) with z|z
  .exact z
  .have:=aR z (show 0<=gOf t b by lia);rw[h2,dk]at this;lia
 lia
theorem ud {t b:Int}(h:1<=b):(wv t b).2<=b:=Int.ediv_le_self _ ⋯
theorem Yq {t b:Int}(h:1<=b):gOf (wv t b).1 (wv t b).2=1:=by
 have h3:=yb (t:=t) h;have Z:=zx (t:=t) h;obtain⟨g,z⟩:∃g:Nat,gOf t b=(g:Int):=⟨_,by unfold gOf;exact ju t b⟩;have L:0<g:=by lia
 have J:g=Nat.gcd t.natAbs b.toNat:=by
  have:(g:Int)=((Nat.gcd t.natAbs b.toNat:Nat):Int):=by rw[<-z];unfold gOf;exact ju t b
  lia
 have U:g*(wv t b).1.natAbs=t.natAbs:=by have:=qjj (t:=t) (b:=b);have e:=b7 Int.natAbs this;rw[eX,z]at e;simpa [wv,z] using e
 have W:g*(wv t b).2.toNat=b.toNat:=by
  have:=qqm (t:=t) (b:=b) h;rw[z]at this;have q:(wv t b).2=b/(g:Int):=by unfold wv;rw[z]
  have D:b/(g:Int)=((b/(g:Int)).toNat:Int):=by rw[<-q];lia
  rw[q];rw[D]at this;have:((g*(b/(g:Int)).toNat:Nat):Int)=b:=by rw[jB];exact this
  lia
 unfold gOf;rw[ju];have F:g*Nat.gcd (wv t b).1.natAbs (wv t b).2.toNat=g*1:=by rw[<-Nat.gcd_mul_left,U,W,<-J,Nat.mul_one]
 have:=Nat.eq_of_mul_eq_mul_left L F;rw[this];rfl
theorem xyd {t b c:Int}(h:1<=b)(hc:1<=c):gOf (t*c) (b*c)=gOf t b*c:=by
 unfold gOf;rw[ju,ju];have J:(t*c).natAbs=t.natAbs*c.toNat:=by
  rw[eX];have:c.natAbs=c.toNat:=by lia
  rw[this]
 have F:(b*c).toNat=b.toNat*c.toNat:=by
  have D:b=(b.toNat:Int):=by lia
  have z:c=(c.toNat:Int):=by lia
  have:b*c=((b.toNat*c.toNat:Nat):Int):=by rw[jB,<-D,<-z]
  lia
 rw[J,F,Nat.gcd_mul_right,jB];have:(c.toNat:Int)=c:=by lia
 rw[this]
theorem Qm {t b c:Int}(h:1<=b)(hc:1<=c):wv (t*c) (b*c)=wv t b:=by unfold wv;rw[xyd h hc];have hg:=yb (t:=t) h;rw[eI _ _ (show 0<c by lia),eI _ _ (show 0<c by lia)]
end L2
namespace L2
open PySem PySem.Spec PyProof.Rows
def CapAll (env:Env):List (Str×Aj)->Prop
 |[]=>True
 |(y,c)::r=>env.cells.lookup y=some c/\CapAll env r
theorem CapAll.look {env:Env}:∀ {cl:List (Str×Aj)},CapAll env cl->∀ {y:Str} {c:Aj},cl.lookup y=some c->env.cells.lookup y=some c
 |[],_,_,_,e=>by cases e
 |(z,d)::r,h,y,c,e=>by
  rw[bv]at e;cases hb:y==z with
  |true =>
   rw[hb]at e;rw[eq_of_beq hb];exact h.1.trans e
  |false =>
   rw[hb]at e;exact CapAll.look h.2 e
def HasAll (cl:List (Str×Aj)):List (Str×NameKind)->Prop
 |[]=>True
 |(n,k)::r=>(k=.free->∃c,cl.lookup n=some c)/\k≠.cell/\HasAll cl r
theorem HasAll.nocell {cl:List (Str×Aj)}:∀ {ns:List (Str×NameKind)},HasAll cl ns->∀y∈ns,y.2≠.cell
 |(n,k)::r,h,y,hy=>by
  rcases aO.mp hy with rfl|hy
  .exact h.2.1
  .exact HasAll.nocell h.2.2 y hy
theorem HasAll.has {cl:List (Str×Aj)}{env:Env}:∀ {ns:List (Str×NameKind)},HasAll cl ns->∀ {x:Str} {q:NameKind},q=.cell\/q=.free ->
  (ns.map λ(n,k)=>if(k==NameKind.free&&env.scope.kind==.function&&env.kindOf n==some .cell) then(n,NameKind.cell) else(n,k)).lookup x=some q->∃c,cl.lookup x=some c
 |[],_,_,_,_,e=>by cases e
 |(n,k)::r,h,x,q,hq,e=>by
  have ih:=HasAll.has (env:=env) h.2.2 (x:=x) hq;rw[aC]at e;by_cases hc:(k==NameKind.free&&env.scope.kind==.function&&env.kindOf n==some .cell)=true
  .have e':=e;dsimp only at e';rw[aw hc,bv]at e';cases hb:x==n with
   |true =>
    rw[b8,b8]at hc;obtain⟨c,hcc⟩:=h.1 (eq_of_beq hc.1.1);exact⟨c,by rw[eq_of_beq hb];exact hcc⟩
   |false =>
    rw[hb]at e';exact ih e'
  .have e':=e;dsimp only at e';rw[ar hc,bv]at e';cases hb:x==n with
   |true =>
    rw[hb]at e';have ek:k=q:=aq e';rcases hq with rfl|rfl
    .exact absurd ek h.2.1
    .obtain⟨c,hcc⟩:=h.1 ek;exact⟨c,by rw[eq_of_beq hb];exact hcc⟩
   |false =>
    rw[hb]at e';exact ih e'
def CapIx (X:Cx)(scope:Scope)(cl:List (Str×Aj)):List Nat->Prop
 |[]=>True
 |j::r=>(∃y c,X.N[j]?=some y/\X.env.scope.names.lookup y=some .cell/\(relabel scope X.env).names.lookup y=some .cell/\cl.lookup y=some c)/\CapIx X scope cl r
theorem CapIx.get {X:Cx}{scope:Scope}{cl:List (Str×Aj)}:∀ {M:List Nat},CapIx X scope cl M->∀ {k j:Nat},M[k]?=some j ->
  ∃y c,X.N[j]?=some y/\X.env.scope.names.lookup y=some .cell/\(relabel scope X.env).names.lookup y=some .cell/\cl.lookup y=some c
 |[],_,k,j,e=>by cases e
 |i::r,h,0,j,e=>by cases e;exact h.1
 |i::r,h,k+1,j,e=>CapIx.get h.2 (k:=k) e
def Q4 (X:Cx)(x:Str)(M:List Nat):List Str:=x::M.map λj=>X.N.getD j Str.empty
def zh (M:List Nat)(σ:St)(o:Option V):St:=o::M.map λj=>(σ[j]?).join
abbrev zn (X:Cx)(scope:Scope)(cl:List (Str×Aj))(x:Str)(M:List Nat)(C:Aj)(s2:Ab)(H2:Hp)(fp:List Aj)(pn:List (Aj×Obj)):Cx :=
 { X with N:=Q4 X x M,s₀:=s2,H₀:=H2,env:=compEnvC scope cl C X.env,outer:=X.stack,ex:=fp,fn:=λ_=>false,pn:=pn,xe:=λ_ _=>False }
section
variable {X:Cx}{pins:List (Aj×Obj)}{σ:St}{H:Hp}{s2:Ab}{scope:Scope}{cl:List (Str×Aj)}{x:Str}{M:List Nat}{fp:List Aj}{C:Aj}{h1:Heap}{tk:Nat}
theorem Inv.compG {oo:HO}{xs:List Str}(I:Inv X pins σ H s2)(hc:CapAll X.env cl)(hh:HasAll cl scope.names)(hm:CapIx X scope cl M)(hk:scope.kind=.function)(hC:s2.heap.objs.size<C)
  (keep:∀b o,s2.heap.get? b=some o->h1.get? b=some o) (hn:h1.Ns C λ_=>none) (hD:ObjOk X.prog X.w (upd H s2.heap.objs.size oo) h1 s2.heap.objs.size oo)
  (hfp:∀b∈fp,k8 X pins H b) (hob:∀b∈fp,∃o,s2.heap.get? b=some o) :
  Inv { X with N:=xs++M.map λj=>X.N.getD j Str.empty,s₀:=s2,H₀:=H,env:=compEnvC scope cl C X.env,outer:=X.stack,ex:=fp,fn:=λ_=>false,pn:=X.pn++pins,xe:=λ_ _=>False } [] ((xs.map λ_=>none)++M.map λj=>(σ[j]?).join) (upd H s2.heap.objs.size oo) { s2 with heap:=h1,toks:=tk }:=by
 have ap:=I.hok.fresh (a:=s2.heap.objs.size) (ak _);have o:=I.ok;have L:∀y c,cl.lookup y=some c->X.env.cells.lookup y=some c:=λy c e=>hc.look e;have an:∀b∈fp,b<s2.heap.objs.size:=λb U=>by obtain⟨J,e⟩:=hob b U;exact ao e
 have ad:∀b∈fp,b∉frs X.stack:=λb U z=>by
  rcases aO.mp (I.stkSub b z) with z|z
  .exact(hfp b U).2.1 z
  .exact(hfp b U).2.2.1 z
 have as:H C=none:=I.hok.fresh (bp hC);refine⟨⟨o.mod,hk,o.glob,o.blt,bp hC,λy z c F D=>o.inj y z c (L y c F) (L z c D),λy Z=>?_,λy c z=>(aI z).elim,o.hd,o.frames,.inl rfl,λb U=>⟨aB (bn (an b U) hC),λy c e=>(hfp b U).2.2.2.2.1 y c (L y c e)⟩,
  λb J e=>I.bs b J e,bI o.bsz I.sz,λb J e z=>?_,ad,I.stack,I.stkFree⟩,rfl,I.bare,?_,?_,λy c e=>?_,?_,λy c e=>?_,λp hp=>?_,?_,?_⟩
 .rcases Z with Z|Z
  .exact hh.has (.inl rfl) Z
  .exact hh.has (.inr rfl) Z
 .obtain⟨F,D⟩:=I.bs b J e;exact(hfp b z).2.2.2.1.elim (λq=>o.noex b J e q) λq=>by have:=o.bs b J e;exact bb _ (aL (ao this.1) q)
 .exact(Un.laid (fs:=frs X.stack) (ex:=fp) (o:=oo) keep (ak _) ap)
 .refine⟨_,hn,λi z v F D e3=>?_⟩;rcases bF i xs.length with hi|hi
  .have D:((xs.map λ_=>(none:Option V))++M.map λj=>(σ[j]?).join)[i]?=some (some v):=D;rw[aU (by rw[af];exact hi),ax,aa hi]at D;cases D
  have W:(xs++M.map λj=>X.N.getD j Str.empty)[i]?=some z:=F;have ab:((xs.map λ_=>(none:Option V))++M.map λj=>(σ[j]?).join)[i]?=some (some v):=D;rw[aG hi]at W;rw[aG (by rw[af];exact hi),af]at ab;generalize i-xs.length=k at W ab;rw[ax]at W ab;cases hj:M[k]? with
  |none=>rw[hj]at W;cases W
  |some j =>
   rw[hj]at W ab;obtain⟨y,c,f1,f2,f3,f4⟩:=hm.get hj;have ez:X.N.getD j Str.empty=z:=aq W;rw[ae,f1]at ez;have a0:y=z:=ez;subst a0;have ev:(σ[j]?).join=some v:=aq ab;have a1:σ[j]?=some (some v):=by
    cases hs:σ[j]? with
    |none=>rw[hs]at ev;cases ev
    |some w' =>
     rw[hs]at ev;have:w'=some v:=ev;rw[this]
   obtain⟨m,a2,hl⟩:=I.loc;obtain⟨u,r,l⟩:=hl j y v f1 a1 (.inr (.inl f2));refine⟨u,r,.inr ⟨.inl f3,c,f4,?_⟩⟩;rcases l with⟨lk,_⟩|⟨_,c',lc,li⟩
   .have:X.env.scope.names.lookup y=some .local:=lk;rw[f2]at this;cases this
   .rw[L y c f4]at lc;have:=aq lc;subst this;exact li.keeps keep
 .obtain⟨v,hv⟩:=I.cell y c (L y c e);exact⟨v,hv.keeps keep⟩
 .show upd H s2.heap.objs.size oo C=none;rw[wx (ff hC)];exact as
 .show upd H s2.heap.objs.size oo c=none;obtain⟨v,J,F,D⟩:=I.cell y c (L y c e);rw[wx (aB (ao F))];exact I.freeC y c (L y c e)
 .have ah:p∈X.pn++pins:=(aW.mp hp).elim (λz=>z) λz=>nomatch z;obtain⟨F,D,e3,e4,e5⟩:=I.pin p ah;refine⟨keep _ _ F,?_,aB (bn (ao F) hC),λz=>?_,e5⟩
  .rw[wx (aB (ao F))];exact D
  .rcases aO.mp (I.stkSub p.1 z) with z|z
   .exact e3 z
   .exact e4 z
 .exact I.hok.laid keep (ak _) hD
 .show((xs.map λ_=>(none:Option V))++M.map λj=>(σ[j]?).join).length=(xs++M.map λj=>X.N.getD j Str.empty).length;simp only[au,af]
theorem Inv.comp (I:Inv X pins σ H s2)(hc:CapAll X.env cl)(hh:HasAll cl scope.names)(hm:CapIx X scope cl M)(hk:scope.kind=.function)(hC:s2.heap.objs.size<C)
  (keep:∀b o,s2.heap.get? b=some o->h1.get? b=some o) (hn:h1.Ns C λ_=>none) (hD:h1.get? s2.heap.objs.size=some { cls:=.type "list",data:=.seq #[] 0 })
  (hfp:∀b∈fp,k8 X pins H b) (hob:∀b∈fp,∃o,s2.heap.get? b=some o) :
  Inv (zn X scope cl x M C s2 H fp (X.pn++pins)) [] (zh M σ none) (upd H s2.heap.objs.size (.lst [])) { s2 with heap:=h1,toks:=tk }:=I.compG (xs:=[x]) hc hh hm hk hC keep hn ⟨aQ _,[],0,.nil,hD⟩ hfp hob
theorem Inv.uncomp {pins':List (Aj×Obj)}{σ':St}{H':Hp}{s':Ab}{h':Heap}(I:Inv X pins σ H s2)(hC:s2.heap.objs.size<=C)(hfp:∀b∈fp,k8 X pins H b)
  (J:Inv (zn X scope cl x M C s2 H fp (X.pn++pins)) pins' σ' H' s') (hs:Heap.SameBut C s'.heap h'):Inv X pins σ H' { s' with heap:=h' }:=by
 have D:=J.base;have U:∀b o,s2.heap.get? b=some o->b≠C:=λb o e=>aB (aL (ao e) hC);have st:∀b o,b≠C->s'.heap.get? b=some o->h'.get? b=some o:=λb o n e=>(hs.2 b n).trans e;refine I.call' (s':={ s' with heap:=h' }) (ch:=fp) J.os ⟨λb o e n nb F=>st b o (U b o e) (D.keep b o e n nb F),λb o e n ad F=>?_,D.free,λb o e F=>?_,D.tups,D.frzs,D.tbls⟩ ?_ J.bare λb ab=>?_
 .obtain⟨sl,Z⟩:=D.slot b o e n ad F;exact⟨sl,st b _ (U b o e) Z⟩
 .obtain⟨o',Z⟩:=D.there b o e F;exact⟨o',st b _ (U b o e) Z⟩
 .intro b u W;have fr:H' C=none:=J.free;refine(J.hok b u W).stay (λc v L e=>st c v ?_ e) (λ_ z=>z) λ_ _ z=>z;rcases L with rfl|L
  .intro z;rw[z,fr]at W;cases W
  .intro z;rw[z,fr]at L;cases L
 .obtain⟨q1,q2,q3,q4,q5,q6⟩:=hfp b ab;exact⟨q4,q2,q5,q6⟩
end
def W6 (J:It)(M:List Nat)(te:TE)(σ:St)(H1:Hp)(Q:VK):Prop:=∀p,H1 p=none->∃W:Nat->Nat->List V->Hp->Prop,(∃m,W 0 m [] (upd H1 p (.lst []))) /\
 ∀i m ys H2,W i m ys H2->H2 p=some (.lst ys)/\ys.length<sizeLine/\((J.stop i H2/\Q (.ref p) H2)\/(J.go i H2/\∀v H3,J.yld i H2 v H3 ->
  te (zh M σ (some v)) H3 λy H4=>H4 p=some (.lst ys)/\∃m',m'<m/\W (i+1) m' (ys++[y]) (upd H4 p (.lst (ys++[y])))))
def wjf (M:List Nat)(wi:TI)(te:TE):TE:=λσ H Q=>wi σ H λJ H1=>W6 J M te σ H1 Q
theorem j4 {Y:Cx}{tg e:Expr}{k:Nat}{acc:Ag}{it:Aj}{fp:List Aj}{tn:Nat->Heap->Prop}{J:It}{ps:Pos}{REST:Sem PySem.Fin}{post:Result->Ab->Prop}{gg:TG}{pins:List (Aj×Obj)}{σ:St}{V:Nat->Nat->Hp->Prop}{Qd:Hp->Prop}{s0:Ab}{H0:Hp}{n0:Nat}
  (T:Turn Y.prog Y.w Y.K tg J fp it tn) (hc:Y.calm=true) (hx:∀v s,Y.xe v s->False)
  (hturn:compTurn e k (.ref it) acc Y.env=(standAt ps >>= λ_=>pyNext (.ref it) >>= λr=>match r with|none=>pure (.done .next)|some v=>letOwnedTupleGo tg (.ref it) v >>= λ_=>assign tg Y.env v >>= λ_=>REST))
  (hun:Y.A.under (.compLoop e k (.ref it) acc Y.env)=Y.A) (hden:(model Y.prog Y.w).den (.compLoop e k (.ref it) acc Y.env)=((compTurn e k (.ref it) acc Y.env).onRaise λz=>do noteFrame z Y.env;theTreesLotGoes z))
  (hg:PG Y tg gg) (fok:∀H2:Hp,(∀b∈fp,H2 b=none)->∀b∈fp,k8 Y pins H2 b)
  (hV:∀i n H2,V i n H2->(J.stop i H2/\Qd H2)\/(J.go i H2/\∀v H3,J.yld i H2 v H3->∃Z:St->Hp->Prop,gg v σ H3 Z/\∀σ4 H4,Z σ4 H4->(σ.length=σ4.length/\∀(k:Nat) z,σ[k]?=some (some z)->σ4[k]?=some (some z))/\∀pins' s',Inv Y pins' σ4 H4 s' ->
   wpAny (model Y.prog Y.w) Y.A REST (λr s5=>r=Fin.again (.compLoop e k (.ref it) acc Y.env)/\∃H5,Inv Y pins' σ4 H5 s5/\∃n',n'<n/\V (i+1) n' H5) Y.xe s'))
  (fin:∀H2 s4,Inv Y pins σ H2 s4->Qd H2->post (.ok .next) s4) (I:Inv Y pins σ H0 s0) (v0:V 0 n0 H0) (t0:tn 0 s0.heap) (nf:∀b∈fp,H0 b=none) :
  codeAny (model Y.prog Y.w) Y.A (.compLoop e k (.ref it) acc Y.env) post s0:=by
 refine codeAny_loop rfl (λn D=>∃i H2,V i n H2/\Inv Y pins σ H2 D/\tn i D.heap/\∀b∈fp,H2 b=none) (λn D hI=>?_) n0 ⟨0,H0,v0,I,t0,nf⟩;obtain⟨i,H2,w,J2,t,ab⟩:=hI;rw[hun,hden];refine wpAny_noted ?_;rw[hturn];refine ac (dh (ac ?_));rcases hV i n H2 w with⟨ah,hq⟩|⟨a1,hy⟩
 .refine aY (T.done Y rfl rfl rfl hc i pins D _ H2 (λ_ _=>False) J2 (fok H2 ab) t ah) (λr s4 U=>?_) λ_ _ z=>z.elim;obtain⟨rfl,J4⟩:=U;exact ai (fin H2 s4 J4 hq)
 .refine aY (T.item Y rfl rfl rfl hc i pins D _ H2 (λ_ _=>False) J2 (fok H2 ab) t a1) (λr s4 U=>?_) λ_ _ z=>z.elim;obtain⟨u,rfl,hw⟩:=U;refine ac (aY hw (λ_ s5 as=>?_) λ_ _ z=>z.elim);obtain⟨v,H3,J5,rv,yl,L,nf⟩:=as;obtain⟨Z,hz,hZ⟩:=hy v H3 yl;refine ac (aY (hg _ s5 _ H3 v u _ (J5.pinned (fok H3 nf) (T.obj _ _ L)) rv hz) (λ_ s6 ap=>?_) λv s z=>(hx v s z).elim);obtain⟨σ6,H6,J6,z6⟩:=ap;obtain⟨⟨hl,ad⟩,hR⟩:=hZ σ6 H6 z6;refine aY (hR _ s6 J6) (λr s7 an=>?_) λv s z=>(hx v s z).elim;obtain⟨rfl,H7,W,n',a0,v7⟩:=an;refine⟨rfl,n',a0,i+1,H7,v7,(W.unpinned (pins:=pins)).weak hl ad,?_,?_⟩
  .exact T.keep _ _ _ L λb F o e=>(W.pin (b,o) (aH _ (aH _ (Qg F e)))).1
  .intro b F;obtain⟨o,e,_⟩:=T.obj _ _ L b F;exact(W.pin (b,o) (aH _ (aH _ (Qg F e)))).2.1
section
variable {Y:Cx}{elt cd:Expr}{te:TE}{tt:TT}{c:Code}{p:Aj}{σ:St}{H:Hp}{pins:List (Aj×Obj)}{s:Ab}
def appS (elt:Expr)(acc:Ag)(env:Env)(c:Code):Sem PySem.Fin:=(eval elt env >>= λx=>call (.builtin "list.append") [acc,x] >>= λ_=>pure ()) >>= λ_=>again c
theorem Yd {ys:List V}{N:List V->Hp->Prop}(hx:∀v s,Y.xe v s->False)(he:PE Y elt te)(J:Inv Y pins σ H s)(hz:ys.length<sizeLine)(h:te σ H λy H4=>H4 p=some (.lst ys)/\N (ys++[y]) (upd H4 p (.lst (ys++[y])))) :
  wpAny (model Y.prog Y.w) Y.A (appS elt (.ref p) Y.env c) (λr s5=>r=Fin.again c/\∃H5,Inv Y pins σ H5 s5/\∃zs,N zs H5) Y.xe s:=by
 refine ac (ac (aY (he _ s _ H _ J h) (λF L ab=>?_) λ_ _ z=>z));obtain⟨y,H4,J7,U,ad,W⟩:=ab;refine ac (aY (vn (X:=Y) _ L _ H4 (.ref p) [y] (.ref p) [F] (λ_ D=>D=upd H4 p (.lst (ys++[y]))) J7 rfl (.cons U .nil) ⟨_,ys,y,rfl,rfl,ad,hz,rfl⟩) (λ_ s8 Z=>?_) λ_ _ z=>z);obtain⟨_,D,J8,_,rfl⟩:=Z;exact ai (ai ⟨rfl,_,J8,_,W⟩)
def tstS (cd:Expr)(env:Env)(a b:Sem PySem.Fin):Sem PySem.Fin:=(forIn [cd] true λc r=>if r=true then do let ok <-isTrue c env (eval c env);pure (ForInStep.yield ok) else pure (ForInStep.yield r)) >>= λok=>if ok=true then a else b
theorem Y4 {a b:Sem PySem.Fin}{F:Hp->Prop}{G:Hp->Prop}{R:PySem.Fin->Ab->Prop}(ht:PT Y cd tt)(J:Inv Y pins σ H s)(h:tt σ H λok H4=>if ok=true then F H4 else G H4)
  (ha:∀s' H4,Inv Y pins σ H4 s'->F H4->wpAny (model Y.prog Y.w) Y.A a R Y.xe s') (hb:∀s' H4,Inv Y pins σ H4 s'->G H4->wpAny (model Y.prog Y.w) Y.A b R Y.xe s') :
  wpAny (model Y.prog Y.w) Y.A (tstS cd Y.env a b) R Y.xe s:=by
 refine ac (wpAny_tests_one (aY (ht _ s _ H _ J h) (λok D Z=>?_) λ_ _ z=>z));obtain⟨W,U,L⟩:=Z;cases ok with
 |false=>exact hb D W U L
 |true=>exact ha D W U L
end
section
variable {X:Cx}{elt iter cd:Expr}{x:Str}{px pos:Pos}{scope:Scope}{cl:List (Str×Aj)}{M:List Nat}{wi:TI}{te:TE}{tt:TT}{pins:List (Aj×Obj)}{σ:St}
theorem Ym {N:List Str}{C:Aj}{s2:Ab}{H1:Hp}{fp:List Aj}(hcap:CapAll X.env cl)(I2:Inv X pins σ H1 s2)(hlt:s2.heap.objs.size<C)(hfp:∀b∈fp,k8 X pins H1 b)(hbl:∀b∈fp,b<s2.heap.objs.size)(H2:Hp)(hn:∀b∈fp,H2 b=none) :
  ∀b∈fp,k8 { X with N:=N,s₀:=s2,H₀:=H1,env:=compEnvC scope cl C X.env,outer:=X.stack,ex:=fp,fn:=λ_=>false,pn:=X.pn++pins,xe:=λ_ _=>False } [] H2 b:=λb hb=>by
 obtain⟨q1,q2,q3,q4,q5,q6⟩:=hfp b hb;refine⟨hn b hb,aB (bn (hbl b hb) hlt),λz=>?_,.inl hb,λy c e=>q5 y c (hcap.look e),λp hp=>q6 p ((aW.mp hp).elim (λz=>z) λz=>nomatch z)⟩;rcases aO.mp (I2.stkSub b z) with z|z
 .exact q2 z
 .exact q3 z
theorem Jy {tg:Expr}{ifs:List Expr}{rest:List Comprehension}(hclos:closureFor scope X.env=pure cl)(hhas:HasAll cl scope.names)(hk:scope.kind=.function)
  (hnames:∀y∈scope.names,y.2=.local->scope.names.lookup y.1=some .local) (hi:PI X tg iter wi) (hs:∀z,foldedSetIterable iter X.env z=pure z)
  {use:Option (Ag->Sem Unit)} {QQ:Ag->Ab->Prop} {s:Ab} {H:Hp} {ps:Pos} {R:It->Hp->Prop} (I:Inv X pins σ H s) (h:wi σ H R)
  (go:∀(it:Aj) (fp:List Aj) (tn:Nat->Heap->Prop) (J:It) (H1:Hp) (s2:Ab) (C:Aj) (h3:Heap) (tk:Nat),Inv X pins σ H1 s2->Turn X.prog X.w X.K tg J fp it tn->tn 0 h3->(∀b∈fp,k8 X pins H1 b)->(∀b∈fp,b<s2.heap.objs.size)->(∀b∈fp,∃o,s2.heap.get? b=some o)->R J H1->s2.heap.objs.size<C ->
   (∀b o,s2.heap.get? b=some o->h3.get? b=some o)->(h3.Ns C λ_=>none)->h3.get? s2.heap.objs.size=some { cls:=.type "list",data:=.seq #[] 0 } ->
   codeAny (model X.prog X.w) X.A (.compLoop (.ListComp elt (⟨tg,iter,ifs,0⟩::rest) scope pos) 0 (.ref it) (.ref s2.heap.objs.size) (compEnvC scope cl C X.env)) (compPost (model X.prog X.w) X.A X.xe use QQ (.ref s2.heap.objs.size) C) { s2 with heap:=h3,toks:=tk }) :
  wpAny (model X.prog X.w) X.A (comprehension (.ListComp elt (⟨tg,iter,ifs,0⟩::rest) scope pos) scope X.env ps (newList []) false (eval iter X.env) use) QQ X.xe s:=by
 refine fF (use:=use) rfl hs hclos hk hnames ?_;refine thn (hi pins s σ H _ I h) λv s1 h1=>thn h1 λan s2 h2=>?_;obtain⟨it,fp,tn,J,H1,rfl,I2,T,F,ah,hR⟩:=h2;refine ca ?_;refine gO hhas.nocell (by intro y hy;cases hy) (λh3 L D=>?_) hk;dsimp only at L D ⊢;generalize hH2:s2.heap.push { cls:=.type "list",dict:=none,data:=.seq ([]:List Ag).toArray }=G2 at L D ⊢;have hC:G2.objs.size=s2.heap.objs.size+1:=by rw[<-hH2,cY]
 have U:s2.heap.objs.size<G2.objs.size:=by lia
 have ad:∀b o,s2.heap.get? b=some o->h3.get? b=some o:=λb o e=>by rw[D.2 b (aB (bn (ao e) U))];exact ag _ (hH2▸ag _ e)
 have hD:h3.get? s2.heap.objs.size=some { cls:=.type "list",data:=.seq #[] 0 }:=by rw[D.2 _ (aB U)];exact ag _ (hH2▸aA _ rfl)
 have Z:=T.keep 0 _ _ F λb _ o e=>ad b o e;have ab:=λtk=>go it fp tn J H1 s2 G2.objs.size h3 tk I2 T Z ah (λb W=>let ⟨o,e,_⟩:=T.obj 0 _ F b W;ao e) (λb W=>let ⟨o,e,_⟩:=T.obj 0 _ F b W;⟨o,e⟩) hR U ad L hD;exact codeAny_compStart_list (ab _) (T.self _ 0 _ _ _ Z (ab _))
theorem Q3 (M:List Nat)(σ:St)(v:V):(zh M σ none).length=(zh M σ (some v)).length/\∀(k:Nat) z,(zh M σ none)[k]?=some (some z)->(zh M σ (some v))[k]?=some (some z):=⟨rfl,λk z ez=>by
 cases k with
 |zero=>cases ez
 |succ k=>exact ez⟩
end
section
variable {X:Cx}{elt iter:Expr}{x:Str}{px pos:Pos}{scope:Scope}{cl:List (Str×Aj)}{M:List Nat}{wi:TI}{te:TE}
theorem wxt (hc:X.calm=true)(hclos:closureFor scope X.env=pure cl)(hcap:CapAll X.env cl)(hhas:HasAll cl scope.names)(hix:CapIx X scope cl M)(hk:scope.kind=.function)
  (hnames:∀y∈scope.names,y.2=.local->scope.names.lookup y.1=some .local) (hx:scope.names.lookup x=some .local) (hnd:(Q4 X x M).Nodup) (hi:PI X (.Name x px) iter wi)
  (he:∀C s2 H2 fp pn,PE (zn X scope cl x M C s2 H2 fp pn) elt te) (hs:∀z,foldedSetIterable iter X.env z=pure z)
  {use:Option (Ag->Sem Unit)} {QQ:Ag->Ab->Prop} {pins:List (Aj×Obj)} {s:Ab} {σ:St} {H:Hp} {Q:VK} {ps:Pos} (I:Inv X pins σ H s) (h:wi σ H λJ H1=>W6 J M te σ H1 Q)
  (fin:∀(C:Aj) (s2 s4:Ab) (H1 H2:Hp) (fp:List Aj),Inv X pins σ H1 s2->s2.heap.objs.size<C->(∀b∈fp,k8 X pins H1 b)->Inv (zn X scope cl x M C s2 H1 fp (X.pn++pins)) [] (zh M σ none) H2 s4->Q (.ref s2.heap.objs.size) H2 ->
   compPost (model X.prog X.w) X.A X.xe use QQ (.ref s2.heap.objs.size) C (.ok .next) s4) :
  wpAny (model X.prog X.w) X.A (comprehension (.ListComp elt [⟨.Name x px,iter,[],0⟩] scope pos) scope X.env ps (newList []) false (eval iter X.env) use) QQ X.xe s:=by
 refine Jy hclos hhas hk hnames hi hs I h λit fp tn J H1 s2 C h3 tk F T t3 D ab ah hR L ad an hD=>?_;obtain⟨W,⟨m0,w0⟩,hW⟩:=hR s2.heap.objs.size (F.hok.fresh (ak _));have Z:(relabel scope X.env).names.lookup x=some .local:=dX hx;refine j4 (Y:=zn X scope cl x M C s2 H1 fp (X.pn++pins)) (V:=λi n H2=>∃ys,W i n ys H2) (Qd:=Q (.ref s2.heap.objs.size)) (REST:=appS elt (.ref s2.heap.objs.size) (compEnvC scope cl C X.env) _) T hc (λ_ _ z=>z) (compTurn_list1 ..) rfl rfl (xz (i:=0) hnd rfl (.inl Z) (.inr Z)) (Ym hcap F L D ab) (λi n H2 ⟨ys,w⟩=>?_) (λH2 s4 J4 q=>fin C s2 s4 H1 H2 fp F L D J4 q) (F.comp hcap hhas hix hk L ad an hD D ah) ⟨[],w0⟩ t3 λb hb=>by rw[wx (aB (ab b hb))];exact(D b hb).1
 obtain⟨hp,hz,as⟩:=hW i n ys H2 w;refine as.imp id λ⟨ap,hy⟩=>⟨ap,λv H3 yl=>⟨λσ4 H4=>σ4=zh M σ (some v)/\H3=H4,⟨rfl,rfl⟩,λ_ _ e=>?_⟩⟩;obtain⟨rfl,rfl⟩:=e;refine⟨Q3 M σ v,λa0 s' J=>?_⟩;refine aY (Yd (N:=λzs U=>∃m',m'<n/\W (i+1) m' zs U) (λ_ _ z=>z) (he _ _ _ _ _) J hz (hy v H3 yl)) (λr s5 ⟨e,U,J5,zs,m',hm,w'⟩=>⟨e,U,J5,m',hm,zs,w'⟩) λ_ _ z=>z
theorem zr (hc:X.calm=true)(hclos:closureFor scope X.env=pure cl)(hcap:CapAll X.env cl)(hhas:HasAll cl scope.names)(hix:CapIx X scope cl M)(hk:scope.kind=.function)
  (hnames:∀y∈scope.names,y.2=.local->scope.names.lookup y.1=some .local) (hx:scope.names.lookup x=some .local) (hnd:(Q4 X x M).Nodup) (hi:PI X (.Name x px) iter wi)
  (he:∀C s2 H2 fp pn,PE (zn X scope cl x M C s2 H2 fp pn) elt te) (hs:autoParam (∀z,foldedSetIterable iter X.env z=pure z) aU3._auto_1) :
  PE X (.ListComp elt [⟨.Name x px,iter,[],0⟩] scope pos) (wjf M wi te):=by
 intro pins s σ H Q I h;rw[eval_ListComp];refine wxt hc hclos hcap hhas hix hk hnames hx hnd hi he hs (use:=none) I h λC s2 s4 H1 H2 fp Z U W D J=>?_;obtain⟨m,L,_⟩:=D.loc;exact⟨m,L,λh' F=>⟨.ref s2.heap.objs.size,H2,Z.uncomp (bp U) W D F,rfl,J⟩⟩
theorem Inv.but {pins:List (Aj×Obj)}{σ:St}{H:Hp}{s:Ab}{h':Heap}{C:Aj}(I:Inv X pins σ H s)(hn:H C=none)(h1:X.s₀.heap.objs.size<=C)(h2:C≠X.env.locals)(h3:∀y c,X.env.cells.lookup y=some c->c≠C)(h4:∀p∈X.pn++pins,p.1≠C)
  (hs:Heap.SameBut C s.heap h'):Inv X pins σ H { s with heap:=h' }:=by
 have st:∀b o,b≠C->s.heap.get? b=some o->h'.get? b=some o:=λb o n e=>(hs.2 b n).trans e;have J:∀b,b∉[C]->b≠C:=λb z e=>z (by rw[e];exact .head _);refine I.call' (s':={ s with heap:=h' }) (ch:=[C]) rfl ⟨λb o e n _ D=>st b o (J b D) e,λb o e n _ D=>⟨o.slots,st b o (J b D) e⟩,λb o e n _=>n,λb o e D=>⟨o,st b o (J b D) e⟩,λ_ _ e=>e,λ_ _ _ e=>e,λb ps e=>⟨#[],by rw[e];simp⟩⟩ ?_ I.bare λb U=>?_
 .intro b u L;refine(I.hok b u L).stay (λc v F e=>st c v ?_ e) (λ_ z=>z) λ_ _ z=>z;rcases F with rfl|F
  .intro z;rw[z,hn]at L;cases L
  .intro z;rw[z,hn]at F;cases F
 .rw[aM.mp U];exact⟨.inr h1,h2,h3,h4⟩
theorem y8 {i:Nat}{y:Str}{py spos:Pos}(hN:X.N.Nodup)(hyi:X.N[i]?=some y)(hyl:Loc X.env.scope y)(hc:X.calm=true)(hclos:closureFor scope X.env=pure cl)(hcap:CapAll X.env cl)(hhas:HasAll cl scope.names)(hix:CapIx X scope cl M)(hk:scope.kind=.function)
  (hnames:∀y∈scope.names,y.2=.local->scope.names.lookup y.1=some .local) (hx:scope.names.lookup x=some .local) (hnd:(Q4 X x M).Nodup) (hi:PI X (.Name x px) iter wi)
  (he:∀C s2 H2 fp pn,PE (zn X scope cl x M C s2 H2 fp pn) elt te) (hs:autoParam (∀z,foldedSetIterable iter X.env z=pure z) aU3._auto_1)
  (hsw:autoParam (swapsWith (.ListComp elt [⟨.Name x px,iter,[],0⟩] scope pos) (some (.Name y py)) spos.line X.env=pure true) aU4._auto_1) (hyf:autoParam (X.fn y=true\/X.env.scope.names.lookup y=some .local) aU0._auto_1) :
  PS X (.Assign [.Name y py] (.ListComp elt [⟨.Name x px,iter,[],0⟩] scope pos) spos) (tAsg (wjf M wi te) (Yt i)):=by
 intro pins s σ H D I h;rw[exec_Assign_Name_used _ _ _ _ hsw];refine ac (dh (ac ?_));refine ac (aY (wxt hc hclos hcap hhas hix hk hnames hx hnd hi he hs (use:=some (assign (.Name y py) X.env)) (QQ:=λ_ s'=>SP X pins D .next s') I h λC s2 W H1 H2 fp J L a0 J4 hq=>?_) (λ_ s' hq=>ai (ai hq)) λ_ _ e=>e);have F:Inv X pins σ H2 W:=J.uncomp (h':=W.heap) (bp L) a0 J4 (Heap.SameBut.refl _ _);have ah:H2 C=none:=J4.free;obtain⟨mC,as,_⟩:=J4.loc;obtain⟨Z,a6,a7,ap,ad⟩:=id as;have ab:C≠X.env.locals:=λz=>bb _ (bn L (z▸J.lt));have a2:X.s₀.heap.objs.size<=C:=bI J.sz (bp L);have a4:∀y c,X.env.cells.lookup y=some c->c≠C:=λy c e z=>by obtain⟨v,o,U,_⟩:=J.cell y c e;exact bb _ (bn L (z▸ao U))
 have a3:∀p∈X.pn++pins,p.1≠C:=λp hp z=>bb _ (bn L (z▸ao (J.pin p hp).1));have a9:C∉frs X.stack:=λz=>by
  rcases aO.mp (J.stkSub C z) with q|q
  .exact ab q
  .obtain⟨_,o,U,_⟩:=J.funs.mem (b:=C) q;exact bb _ (bn L (ao U))
 have a1:C∉X.fs:=λz=>by obtain⟨_,o,U,_⟩:=J.funs.mem (b:=C) z;exact bb _ (bn L (ao U))
 have a8:Inv X (pins++[(C,Z)]) σ H2 W:=⟨F.ok,F.os,F.bare,F.base,F.loc,F.cell,F.free,F.freeC,λp hp=>by
  rcases aW.mp hp with q|q
  .exact F.pin p (cn _ q)
  .rcases aW.mp q with q|q
   .exact F.pin p (aH _ q)
   .rw[aM.mp q]
    exact⟨ap,ah,ab,a1,λv z=>by rw[ad.1]at z;cases z⟩,F.hok,F.len⟩
 show wpAny _ _ (assign (.Name y py) X.env (.ref s2.heap.objs.size)) _ _ _;refine iG (yr a8 hN hyi hyl (show RelV (.ref s2.heap.objs.size) (.ref s2.heap.objs.size) from rfl) (λs5 I5=>?_) hyf);have a5:=(I5.pin (C,Z) (aH _ (aH _ (.head _)))).1;exact⟨mC,⟨Z,a6,a7,a5,ad⟩,λh' an=>⟨_,H2,I5.unpinned.but ah a2 ab a4 a3 an,hq⟩⟩
end
theorem v9 {M:List Nat}{lo:Int}{n:Nat}{te:TE}{σ:St}{H:Hp}{Q:VK}(f:Nat->V)(hn:n<=1000000)(he:∀(i:Nat) (H':Hp) (R:VK),i<n->Same H H'->R (f i) H'->te (zh M σ (some (.int (lo+i)))) H' R)
  (k:∀p,H p=none->Q (.ref p) (upd H p (.lst ((List.range n).map f)))):W6 (Itr lo n) M te σ H Q:=by
 intro p np;refine⟨λi m ys H2=>i<=n/\m=n-i/\ys=(List.range i).map f/\H2=upd H p (.lst ys),⟨n,aQ _,rfl,rfl,rfl⟩,?_⟩;rintro i m ys H2 ⟨hi,rfl,rfl,rfl⟩;refine⟨qu,?_,?_⟩
 .rw[af,ay];have:(1000000:Nat)<sizeLine:=by decide
  lia
 .by_cases hlt:i<n
  .refine .inr ⟨hlt,?_⟩;rintro v H3 ⟨rfl,rfl⟩;refine he i (upd H p (.lst ((List.range i).map f))) _ hlt (Same.upd np) ⟨qu,n-(i+1),⋯,⋯,rfl,?_,?_⟩
   .rw[bz,aK];rfl
   .rw[qu2]
  .have:i=n:=by lia
   subst this;exact .inl ⟨ak _,k p np⟩
theorem Qv {K:Aa}{M:List Nat}{a:Aj}{xs:List V}{te:TE}{σ:St}{H:Hp}{Q:VK}(f:V->V)(hS:SqL K H a xs)(hn:xs.length<=1000000)(he:∀(x:V) (H':Hp) (R:VK),x∈xs->Same H H'->R (f x) H'->te (zh M σ (some x)) H' R)
  (k:∀p,H p=none->Q (.ref p) (upd H p (.lst (xs.map f)))):W6 (Itl K a) M te σ H Q:=by
 intro p np;refine⟨λi m ys H2=>i<=xs.length/\m=xs.length-i/\ys=(xs.take i).map f/\H2=upd H p (.lst ys),⟨xs.length,aQ _,rfl,rfl,rfl⟩,?_⟩;rintro i m ys H2 ⟨hi,rfl,rfl,rfl⟩;have D:SqL K (upd H p (.lst ((xs.take i).map f))) a xs:=Same.sql (Same.upd np) hS;refine⟨qu,?_,?_⟩
 .rw[af,bC];have:(1000000:Nat)<sizeLine:=by decide
  lia
 .by_cases hlt:i<xs.length
  .have z:xs[i]?=some xs[i]:=aa hlt;refine .inr ⟨⟨xs,_,D,z⟩,?_⟩;rintro v H3 ⟨rfl,hv⟩;have e:=hv xs D;rw[z]at e;have J:=aq e;subst J;refine he _ _ _ (bD hlt) (Same.upd np) ⟨qu,xs.length-(i+1),⋯,⋯,rfl,?_,?_⟩
   .rw[ik,z,aK];rfl
   .rw[qu2]
  .have F:i=xs.length:=by lia
   subst F;refine .inl ⟨⟨xs,D,ak _⟩,?_⟩;rw[bf];exact k p np
end L2
namespace L2
open PySem PySem.Spec PyProof.Rows
section
variable {X:Cx}
theorem Ju {pins:List (Aj×Obj)}{σ:St}{H:Hp}{s:Ab}{p:Aj}{ns:List Int}(I:Inv X pins σ H s)(hS:SqL X.K H p (ns.map V.int)) :
  ∃ts:Array (Int×Tok),s.heap.IsList p (intItems ts)/\ns=ts.toList.map (·.1):=by
 obtain⟨Z,F,⟨o,n,U,L,e3,J⟩,hz⟩:=I.list hS;have hi:=Qs F;obtain⟨ts,z⟩:=hi.allInts.items;refine⟨ts,⟨o,U,L,n,by rw[<-z];exact J⟩,?_⟩;have W:=hi.numsOf;have D:=nums_intItems (xs:=ts);rw[<-z]at D;exact W.symm.trans D
theorem qkc (hc:X.calm=true):js X (.builtin "min") (λxs H Q=>∃(p:Aj) (ns:List Int),xs=[.ref p]/\SqL X.K H p (ns.map V.int)/\0<ns.length/\∀m,m∈ns->(∀a∈ns,m<=a)->Q (.int m) H):=by
 intro pins s σ H xs us Q I r h;obtain⟨p,ns,rfl,hS,ab,q⟩:=h;obtain⟨u,rfl,L⟩:=yy r;cases(show u=Value.ref p from L);obtain⟨D,W,z⟩:=Ju I hS;have F:D.size=ns.length:=by rw[z,af,bc]
 refine min_intList (I.ok.hd hc) W ⋯ λv h' tk U Z=>?_;obtain⟨t,rfl⟩:=jJ U;obtain⟨b1,b2⟩:=argBest_lt (numAt D) (D.size-1);refine⟨.int _,H,I.kept Z,⟨t,rfl⟩,q _ ?_ λa J=>?_⟩
 .rw[z,jK];refine getD_mem ?_;rw[<-z,<-F];lia
 .rw[z]at J;obtain⟨j,hj,rfl⟩:=mem_getD J;rw[<-z,<-F]at hj;rw[<-jK];exact b2 j ⋯
theorem qkv (hc:X.calm=true):js X (.builtin "max") (λxs H Q=>∃(p:Aj) (ns:List Int),xs=[.ref p]/\SqL X.K H p (ns.map V.int)/\0<ns.length/\∀m,m∈ns->(∀a∈ns,a<=m)->Q (.int m) H):=by
 intro pins s σ H xs us Q I r h;obtain⟨p,ns,rfl,hS,ab,q⟩:=h;obtain⟨u,rfl,L⟩:=yy r;cases(show u=Value.ref p from L);obtain⟨D,W,z⟩:=Ju I hS;have F:D.size=ns.length:=by rw[z,af,bc]
 refine max_intList (I.ok.hd hc) W ⋯ λv h' tk U Z=>?_;obtain⟨t,rfl⟩:=jJ U;obtain⟨b1,b2⟩:=argBest_gt (numAt D) (D.size-1);refine⟨.int _,H,I.kept Z,⟨t,rfl⟩,q _ ?_ λa J=>?_⟩
 .rw[z,jK];refine getD_mem ?_;rw[<-z,<-F];lia
 .rw[z]at J;obtain⟨j,hj,rfl⟩:=mem_getD J;rw[<-z,<-F]at hj;rw[<-jK];exact b2 j ⋯
theorem qz3:∀ {bs:List Bool} {its:List Ag},Vals (bs.map V.bl) its->its=bs.map Value.bool
 |[],_,.nil=>rfl
 |b::bs,_,.cons r t=>by have e:_=Value.bool b:=r;rw[aC,<-qz3 t,e]
theorem xqy (bs:List Bool):(List.range bs.length).all (λi=>bs.getD i true)=bs.all id:=by
 rw[cA,iW,iW];constructor
 .intro h b D;obtain⟨i,hi,rfl⟩:=cE D;have:=h i (al.mpr hi);rw[ae,aa hi]at this;exact this
 .intro h i hi;have z:=al.mp hi;rw[ae,aa z];exact h _ (bD z)
theorem qv1 (hc:X.calm=true):js X (.builtin "all") (λxs H Q=>∃(p:Aj) (bs:List Bool),xs=[.ref p]/\SqL X.K H p (bs.map V.bl)/\Q (.bl (bs.all id)) H):=by
 intro pins s σ H xs us Q I r h;obtain⟨p,bs,rfl,hS,q⟩:=h;obtain⟨u,rfl,ru⟩:=yy r;cases(show u=Value.ref p from ru);obtain⟨F,rv,⟨o,n,Z,J,e3,e4⟩,hz⟩:=I.list hS;have U:=qz3 rv;have L:s.heap.IsList p F.toArray:=⟨o,Z,J,n,e4⟩;have ab:p<s.heap.objs.size:=ao Z;refine call_all_walk (gk L ?_);refine⟨s.heap.objs.size,_,_,_,_,_,λi=>bs.getD i true,rfl,Walks.list (A:=X.A.in1) (I.ok.hd hc) _ p (aB ab) F.toArray,⟨⟨_,aA _ rfl,rfl,rfl⟩,L.push _⟩,λi v s' Q' E' hP hQ=>?_,λh' tk hk=>?_⟩
 .have D:F[i]?=some v:=by simpa using hP
  rw[U,ax]at D;cases hb:bs[i]? with
  |none=>rw[hb]at D;cases D
  |some b =>
   rw[hb]at D;have ev:Value.bool b=v:=aq D;subst ev;refine cX ?_;have J:bs.getD i true=b:=by rw[ae,hb];rfl
   have W:Q' (bs.getD i true) s':=hQ;rw[J]at W;exact W
 .have ad:F.toArray.size=bs.length:=by rw[U];simp
  rw[ad,xqy];refine⟨.bl _,H,I.kept λb ob e=>hk b ob (λhm=>?_) (ag _ e),rfl,q⟩;have z:b=s.heap.objs.size:=by simpa using hm
  exact bb _ (z▸ao e)
end
structure MCal (P:Ac)(w:Ah)(K:Aa)(mg:Str->Option Ag)(base:Heap)(C:Aj)(m:Str)(k:Nat)(sp:Sp):Prop where
 ex:∃f fd ps,Meth K C m f/\FnOk P w K mg base (CXE P w) k f fd ps sp/\Binds K fd ps []
structure CCal (P:Ac)(w:Ah)(K:Aa)(mg:Str->Option Ag)(base:Heap)(x:Str)(C:Aj)(k:Nat)(sp:Sp):Prop where
 ex:∃f fd ps,mg x=some (.ref C)/\Mk K C f/\FnOk P w K mg base (CXE P w) k f fd ps sp/\Binds K fd ps []
structure MethIn (K:Aa)(C:Aj)(m qual:Str)(st:Stmt):Prop where
 ex:∃f fd,W.findIn K (.ref C) m=some (some (.ref f))/\W.isFn K (.ref f)=true/\Fun K m qual st f fd
theorem xjq {K:Aa}{C:Aj}{m qual:Str}{st:Stmt}{f:Aj}{oc:Ag}{od an:Option Aj}{osl:Array (Option Ag)}{kV doc pm cdv ct:Ag}(a:W.findIn K (.ref C) m=some (some (.ref f)))(i:W.isFn K (.ref f)=true)
  (l:K.lookup f=some ⟨oc,od,.func (W.fnOf m qual (jx st) (vz st) (ww st) .none kV doc pm an cdv ct),osl⟩) (c:W.codeIn K cdv qual=true) (k:W.keepIn K (.ref f)=true):MethIn K C m qual st:=⟨_,_,a,i,wzn l c k⟩
def j7 (x qual:Str)(st:Stmt)(ps:List Str):Prop:=∀(kV doc pm:Ag) (an:Option Aj) (cdv ct:Ag) (us:List Ag),us.length=ps.length->bindArgs (W.fnOf x qual (jx st) (vz st) (ww st) .none kV doc pm an cdv ct) ⟨us,[]⟩=pure (ps.zip us)
section
variable {P:Ac}{w:Ah}{K:Aa}{mg:Str->Option Ag}{base:Heap}{C:Aj}
theorem MethIn.cal {m qual:Str}{st:Stmt}{ps:List Str}{k:Nat}{sp:Sp}(d:MethIn K C m qual st)(b:j7 m qual st ps)(ok:∀f fd,Fun K m qual st f fd->FnOk P w K mg base (CXE P w) k f fd ps sp):MCal P w K mg base C m k sp:=by obtain⟨f,fd,a,i,F⟩:=d.ex;exact⟨f,fd,ps,⟨a,i,F.kp⟩,ok f fd F,F.binds b⟩
theorem MethIn.ccal {x qual:Str}{st:Stmt}{ps:List Str}{k:Nat}{sp:Sp}(d:MethIn K C "__init__" qual st)(hm:mg x=some (.ref C))(mk:W.makesIn K C=true)(kc:W.keepIn K (.ref C)=true)(b:j7 "__init__" qual st ps)
  (ok:∀f fd,Fun K "__init__" qual st f fd->FnOk P w K mg base (CXE P w) k f fd ps sp):CCal P w K mg base x C k sp:=by
 obtain⟨f,fd,a,i,F⟩:=d.ex;exact⟨f,fd,ps,hm,⟨mk,a,i,kc⟩,ok f fd F,F.binds b⟩
end
section
variable {X:Cx}{C:Aj}{x m:Str}{k:Nat}{sp:Sp}{E:St->XK}{p pos apos:Pos}{e o:Expr}{es:List Expr}{ta:TE}{t:TA}
theorem wxw (c:CCal X.prog X.w X.K X.mg X.base x C k sp)(hr:Room (k+1) X.A)(hg:Gl X x)(hx:Q8 X E)
  (ha:PA X (e::es) t) (hdb:autoParam ((x==("__debug__" : Str))=false) aU1._auto_1) (he:autoParam (starEach (e::es) X.env=(false,eval e X.env)::starEach es X.env) aU4._auto_1) (hpl:autoParam ((backTo pos (starEach es X.env)).any (·.1)=false) aU4._auto_1) :
  PE X (.Call (.Name x p) (e::es) [] pos) (xxn C sp E t):=by
 obtain⟨f,fd,ps,z,M,F,b⟩:=c.ex;exact xzs M F hr hg z b hx ha hdb he hpl
theorem km {pl:Sem Bool}(he:PE X o ta)(cl:Cls X.K C)(c:MCal X.prog X.w X.K X.mg X.base C m k sp)(hr:Room k X.A)(hx:Q8 X E)(ha:PA X (e::es) t)
  (hst:autoParam (starEach (e::es) X.env=(false,eval e X.env)::starEach es X.env) aU4._auto_1) (hpl:autoParam ((backTo pos (starEach es X.env)).any (·.1)=false) aU4._auto_1)
  (ht:autoParam (eval (.Call (.Attribute o m apos) (e::es) [] pos) X.env=(do
   let ov <-eval o X.env
   standAt apos.atName
   let (f,first) <-holding [ov] (getMethod ov m pl)
   callWith pos f first (backTo pos (starEach (e::es) X.env)) (backToKw pos (keywordEach [] X.env)))) aU4._auto_1) :
  PE X (.Call (.Attribute o m apos) (e::es) [] pos) (qyx C m sp E ta t):=by
 obtain⟨f,fd,ps,z,F,b⟩:=c.ex;exact xw1 he cl z F hr b hx ha hst hpl ht
theorem kr {pl:Sem Bool}(he:PE X o ta)(cl:Cls X.K C)(c:MCal X.prog X.w X.K X.mg X.base C m k sp)(hr:Room k X.A)(hx:Q8 X E)
  (ht:autoParam (eval (.Call (.Attribute o m apos) [] [] pos) X.env=(do
   let ov <-eval o X.env
   standAt apos.atName
   let (f,first) <-holding [ov] (getMethod ov m pl)
   callWith pos f first (backTo pos (starEach [] X.env)) (backToKw pos (keywordEach [] X.env)))) aU4._auto_1) :
  PE X (.Call (.Attribute o m apos) [] [] pos) (qyx C m sp E ta qxd):=by
 obtain⟨f,fd,ps,z,F,b⟩:=c.ex;exact wu4 he cl z F hr b hx ht
end
end L2
namespace L2
open PySem
def hAt (hs:List Int)(k:Int):Int:=hs.getD k.toNat 0
def kF (hs:List Int)(t b:Int):Int:=if(hs.length:Int)-1-1<t/b then(hs.length:Int)-1-1 else t/b
def x9 (hs:List Int)(t b:Int):Int:=hAt hs (kF hs t b)*b+(hAt hs (kF hs t b+1)-hAt hs (kF hs t b))*(t-kF hs t b*b)
theorem qj4 {hs:List Int}{t b:Int}(hl:2<=hs.length)(hb:1<=b)(h0:0<=t):0<=kF hs t b/\kF hs t b<(hs.length:Int)-1:=by have h:=fI h0 (show(0:Int)<=b by lia);unfold kF;split <;> lia
theorem xx7 {hs:List Int}{t b c:Int}(hc:1<=c):kF hs (t*c) (b*c)=kF hs t b:=by unfold kF;rw[eI _ _ (show 0<c by lia)]
theorem wq2 {hs:List Int}{t b c:Int}(hc:1<=c):x9 hs (t*c) (b*c)=x9 hs t b*c:=by unfold x9;rw[xx7 hc];generalize hAt hs (kF hs t b)=u;generalize hAt hs (kF hs t b+1)=v;generalize kF hs t b=k;grind
theorem div_in {k t b:Int}(hb:1<=b)(h1:k*b<=t)(h2:t<(k+1)*b):t/b=k:=by have a1:k<=t/b:=(gv ⋯).mpr h1;have a2:t/b<k+1:=(Int.ediv_lt_iff_lt_mul ⋯).mpr h2;lia
theorem vh {hs:List Int}{k t b:Int}(hk:0<=k)(hk2:k<(hs.length:Int)-1)(hb:1<=b)(h1:k*b<=t)(h2:t<=(k+1)*b) :
  x9 hs t b=hAt hs k*b+(hAt hs (k+1)-hAt hs k)*(t-k*b):=by
 by_cases hlt:t<(k+1)*b
 .have e:=div_in hb h1 hlt;have D:kF hs t b=k:=by unfold kF;rw[e];split <;> lia
  unfold x9;rw[D]
 .have F:t=(k+1)*b:=by lia
  have e:t/b=k+1:=by rw[F];exact Int.mul_ediv_cancel _ ⋯
  by_cases hn:(hs.length:Int)-1-1<k+1
  .have D:kF hs t b=k:=by unfold kF;rw[e,aw hn];lia
   unfold x9;rw[D]
  .have D:kF hs t b=k+1:=by unfold kF;rw[e,ar hn]
   unfold x9;rw[D,F];generalize hAt hs k=u;generalize hAt hs (k+1)=v;generalize hAt hs (k+1+1)=z;grind
def Yx (hs:List Int)(t b:Int):Int×Int:=wv (x9 hs t b) b
theorem qjq {hs:List Int}{t b:Int}(hb:1<=b):Yx hs (wv t b).1 (wv t b).2=Yx hs t b:=by
 unfold Yx;have D:=yb (t:=t) hb;have F:(wv t b).1*gOf t b=t:=by rw[bj];exact qjj
 have z:(wv t b).2*gOf t b=b:=by rw[bj];exact qqm hb
 have h:=wq2 (hs:=hs) (t:=(wv t b).1) (b:=(wv t b).2) D;rw[F,z]at h;rw[h]
 conv=>rhs;rw[<-z]
 rw[z];have:=Qm (t:=x9 hs (wv t b).1 (wv t b).2) (b:=(wv t b).2) (zx hb) D;rw[z]at this;exact this.symm
theorem Y6 {t b:Int}(hb:1<=b):(wv t b).1<0↔t<0:=by
 have F:=yb (t:=t) hb;have D:gOf t b*(wv t b).1=t:=qjj;constructor
 .intro h;have:=im h (show 0<gOf t b by lia);rw[D,dk]at this;exact this
 .intro h;rcases bh (wv t b).1 0 with z|z
  .exact z
  .have:=aR z (show 0<=gOf t b by lia);rw[D,dk]at this;lia
theorem qyu {t b n:Int}(hb:1<=b):n*(wv t b).2<(wv t b).1↔n*b<t:=by
 have J:=yb (t:=t) hb;have F:gOf t b*(wv t b).1=t:=qjj;have L:gOf t b*(wv t b).2=b:=qqm hb;have D:gOf t b*(n*(wv t b).2)=n*b:=by generalize gOf t b=g at *;generalize (wv t b).2=y at *;grind
 constructor
 .intro h;have:=im h (show 0<gOf t b by lia);rw[F,D]at this;exact this
 .intro h;rcases bh (n*(wv t b).2) (wv t b).1 with z|z
  .exact z
  .have:=aR z (show 0<=gOf t b by lia);rw[F,D]at this;lia
theorem qjc {N b:Int}(hb:1<=b):b%(wv N b).2=0/\(wv N b).1*(b/(wv N b).2)=N:=by
 have D:=zx (t:=N) hb;have F:=zu (t:=N) hb;have z:(wv N b).2∣b:=⟨gOf N b,by rw[bj];exact(qqm hb).symm⟩;refine⟨Int.emod_eq_zero_of_dvd z,?_⟩;have e:=gN z;generalize b/(wv N b).2=q at *;generalize (wv N b).1=x at *;generalize (wv N b).2=y at *;have:y*(x*q-N)=0:=by grind
 rcases dC.mp this with h|h <;> lia
def wkz (hs:List Int)(t b:Int):Int:=if t/b*b=t then hAt hs (t/b)*b else hAt hs (t/b)*b+(hAt hs (t/b+1)-hAt hs (t/b))*(t-t/b*b)
theorem xw3 {hs:List Int}{t b:Int}(hl:2<=hs.length)(hb:1<=b)(h0:0<=t)(h1:t<=((hs.length:Int)-1)*b):wkz hs t b=x9 hs t b:=by
 have U:=fI h0 (show(0:Int)<=b by lia);have L:t/b*b<=t:=fJ t ⋯;have J:t<(t/b+1)*b:=by have:=gW t (show 0<b by lia);exact this
 unfold wkz;by_cases hlt:t/b<(hs.length:Int)-1
 .rw[vh U hlt hb L (g9 J)];split
  .next e=>rw[e];simp
  .rfl
 .have W:(hs.length:Int)-1<=t/b:=by lia
  have m1:=aj W (show 0<=b by lia);have D:t/b*b=t:=by lia
  have F:t/b=(hs.length:Int)-1:=by
   have:t/b*b=((hs.length:Int)-1)*b:=by lia
   exact dO ⋯ this
  rw[aw D];have z:t=((hs.length:Int)-1)*b:=by rw[<-F];exact D.symm
  rw[vh (k:=(hs.length:Int)-1-1) ⋯ ⋯ hb (by rw[z];exact aj ⋯ ⋯) (by rw[z];exact aj ⋯ ⋯),F];have Z:(hs.length:Int)-1-1+1=(hs.length:Int)-1:=by lia
  rw[Z,z];generalize hAt hs ((hs.length:Int)-1)=u;generalize hAt hs ((hs.length:Int)-1-1)=v;generalize (hs.length:Int)-1=n;grind
theorem xzr {u v b d:Int}(hb:0<=d)(hd:d<=b):(if v<u then v else u)*b<=u*b+(v-u)*d/\u*b+(v-u)*d<=(if v>u then v else u)*b:=by
 by_cases h:v<u
 .rw[aw h,ar ⋯];have D:=aR hd (show 0<=u-v by lia);have z:=aX (show 0<=u-v by lia) hb;constructor <;> grind
 .rw[ar h];have D:=aR hd (show 0<=v-u by lia);have z:=aX (show 0<=v-u by lia) hb;by_cases h2:v>u
  .rw[aw h2];constructor <;> grind
  .rw[ar h2];have:v=u:=by lia
   subst this;constructor <;> grind
end L2
namespace L2
open PySem PySem.Spec PyProof.Rows
def wzs (J:It)(M:List Nat)(tt:TT)(te:TE)(σ:St)(H1:Hp)(Q:VK):Prop:=∀p,H1 p=none->∃W:Nat->Nat->List V->Hp->Prop,(∃m,W 0 m [] (upd H1 p (.lst []))) /\
 ∀i m ys H2,W i m ys H2->H2 p=some (.lst ys)/\ys.length<sizeLine/\((J.stop i H2/\Q (.ref p) H2)\/(J.go i H2/\∀v H3,J.yld i H2 v H3 ->
  tt (zh M σ (some v)) H3 λb H4=>if b=true then te (zh M σ (some v)) H4 (λy H5=>H5 p=some (.lst ys)/\∃m',m'<m/\W (i+1) m' (ys++[y]) (upd H5 p (.lst (ys++[y])))) else H4 p=some (.lst ys)/\∃m',m'<m/\W (i+1) m' ys H4))
def tCompI (M:List Nat)(wi:TI)(tt:TT)(te:TE):TE:=λσ H Q=>wi σ H λJ H1=>wzs J M tt te σ H1 Q
section
variable {X:Cx}{elt iter cd:Expr}{x:Str}{px pos:Pos}{scope:Scope}{cl:List (Str×Aj)}{M:List Nat}{wi:TI}{tt:TT}{te:TE}
theorem wy1 (hc:X.calm=true)(hclos:closureFor scope X.env=pure cl)(hcap:CapAll X.env cl)(hhas:HasAll cl scope.names)(hix:CapIx X scope cl M)(hk:scope.kind=.function)
  (hnames:∀y∈scope.names,y.2=.local->scope.names.lookup y.1=some .local) (hx:scope.names.lookup x=some .local) (hnd:(Q4 X x M).Nodup) (hi:PI X (.Name x px) iter wi)
  (ht:∀C s2 H2 fp pn,PT (zn X scope cl x M C s2 H2 fp pn) cd tt) (he:∀C s2 H2 fp pn,PE (zn X scope cl x M C s2 H2 fp pn) elt te) (hs:∀z,foldedSetIterable iter X.env z=pure z)
  {use:Option (Ag->Sem Unit)} {QQ:Ag->Ab->Prop} {pins:List (Aj×Obj)} {s:Ab} {σ:St} {H:Hp} {Q:VK} {ps:Pos} (I:Inv X pins σ H s) (h:wi σ H λJ H1=>wzs J M tt te σ H1 Q)
  (fin:∀(C:Aj) (s2 s4:Ab) (H1 H2:Hp) (fp:List Aj),Inv X pins σ H1 s2->s2.heap.objs.size<C->(∀b∈fp,k8 X pins H1 b)->Inv (zn X scope cl x M C s2 H1 fp (X.pn++pins)) [] (zh M σ none) H2 s4->Q (.ref s2.heap.objs.size) H2 ->
   compPost (model X.prog X.w) X.A X.xe use QQ (.ref s2.heap.objs.size) C (.ok .next) s4) :
  wpAny (model X.prog X.w) X.A (comprehension (.ListComp elt [⟨.Name x px,iter,[cd],0⟩] scope pos) scope X.env ps (newList []) false (eval iter X.env) use) QQ X.xe s:=by
 refine Jy hclos hhas hk hnames hi hs I h λit fp tn J H1 s2 C h3 tk F T t3 D ad an hR L ah ap hD=>?_;obtain⟨W,⟨m0,w0⟩,hW⟩:=hR s2.heap.objs.size (F.hok.fresh (ak _));have ab:(relabel scope X.env).names.lookup x=some .local:=dX hx;refine j4 (Y:=zn X scope cl x M C s2 H1 fp (X.pn++pins)) (V:=λi n H2=>∃ys,W i n ys H2) (Qd:=Q (.ref s2.heap.objs.size)) (REST:=tstS cd (compEnvC scope cl C X.env) (appS elt (.ref s2.heap.objs.size) (compEnvC scope cl C X.env) _) (again _)) T hc (λ_ _ z=>z) (compTurn_list ..) rfl rfl (xz (i:=0) hnd rfl (.inl ab) (.inr ab)) (Ym hcap F L D ad) (λi n H2 ⟨ys,w⟩=>?_) (λH2 s4 J4 q=>fin C s2 s4 H1 H2 fp F L D J4 q) (F.comp hcap hhas hix hk L ah ap hD D an) ⟨[],w0⟩ t3 λb hb=>by rw[wx (aB (ad b hb))];exact(D b hb).1
 obtain⟨hp,hz,a0⟩:=hW i n ys H2 w;refine a0.imp id λ⟨as,hy⟩=>⟨as,λv H3 yl=>⟨λσ4 H4=>σ4=zh M σ (some v)/\H3=H4,⟨rfl,rfl⟩,λ_ _ e=>?_⟩⟩;obtain⟨rfl,rfl⟩:=e;refine⟨Q3 M σ v,λa1 s' J=>?_⟩;exact Y4 (ht _ _ _ _ _) J (hy v H3 yl) (λs6 H6 U h6=>aY (Yd (N:=λzs Z=>∃m',m'<n/\W (i+1) m' zs Z) (λ_ _ z=>z) (he _ _ _ _ _) U hz h6) (λr s5 ⟨e,Z,J5,zs,m',hm,w'⟩=>⟨e,Z,J5,m',hm,zs,w'⟩) λ_ _ z=>z)
  λs6 H6 U ⟨_,m',hm,w'⟩=>ai ⟨rfl,H6,U,m',hm,ys,w'⟩
theorem Ys (hc:X.calm=true)(hclos:closureFor scope X.env=pure cl)(hcap:CapAll X.env cl)(hhas:HasAll cl scope.names)(hix:CapIx X scope cl M)(hk:scope.kind=.function)
  (hnames:∀y∈scope.names,y.2=.local->scope.names.lookup y.1=some .local) (hx:scope.names.lookup x=some .local) (hnd:(Q4 X x M).Nodup) (hi:PI X (.Name x px) iter wi)
  (ht:∀C s2 H2 fp pn,PT (zn X scope cl x M C s2 H2 fp pn) cd tt) (he:∀C s2 H2 fp pn,PE (zn X scope cl x M C s2 H2 fp pn) elt te) (hs:autoParam (∀z,foldedSetIterable iter X.env z=pure z) aU3._auto_1) :
  PE X (.ListComp elt [⟨.Name x px,iter,[cd],0⟩] scope pos) (tCompI M wi tt te):=by
 intro pins s σ H Q I h;rw[eval_ListComp];refine wy1 hc hclos hcap hhas hix hk hnames hx hnd hi ht he hs (use:=none) I h λC s2 s4 H1 H2 fp Z U W D J=>?_;obtain⟨m,L,_⟩:=D.loc;exact⟨m,L,λh' F=>⟨.ref s2.heap.objs.size,H2,Z.uncomp (bp U) W D F,rfl,J⟩⟩
end
theorem qxn {i:Int}{acc:Array Ag}{n:Nat}(h:ItemsOf (λk v=>∃t,v=.int (i+k*1) t) acc n):Vals ((List.range n).map λk:Nat=>V.int (i+k)) acc.toList:=by
 obtain⟨h1,h2⟩:=h;have J:∀(l:List Ag) (b m:Nat),l.length=m->(∀(j:Nat) v,l[j]?=some v->∃t,v=.int (i+((b+j:Nat):Int)*1) t)->Vals ((List.range' b m).map λk:Nat=>V.int (i+k)) l:=by
  intro l
  induction l with
  |nil=>intro b m z _;subst z;exact .nil
  |cons x r ih =>
   intro b m z F;subst z;rw[aJ,List.range'_succ,aC];refine .cons ?_ (ih (b+1) r.length rfl λj v e=>?_)
   .obtain⟨t,e⟩:=F 0 x rfl;refine⟨t,?_⟩;rw[e];simp
   .obtain⟨t,D⟩:=F (j+1) v e;refine⟨t,?_⟩;rw[D,show b+1+j=b+(j+1) by lia]
 have:=J acc.toList 0 n (by simpa using h1) (λj v e=>by
  obtain⟨t,D⟩:=h2 j v (by simpa using e)
  exact⟨t,by rw[D];simp⟩)
 rwa [<-List.range_eq_range']at this
def tLR (ta:TA):TE:=λσ H Q=>ta σ H λvs H1=>∃i j:Int,vs=[.int i,.int j]/\(-(2 ^ 40)<=i/\i<2 ^ 40/\-(2 ^ 40)<=j/\j<2 ^ 40)/\(j-i).toNat<=1000000/\∀q,H1 q=none->Q (.ref q) (upd H1 q (.lst ((List.range (j-i).toNat).map λk:Nat=>V.int (i+k))))
theorem qvy {X:Cx}{a b:Expr}{ta:TA}{p1 pos1 p2 pos2:Pos}(hc:X.calm=true)(hgl:Gl X "list")(hml:X.mg "list" = none)(hg:Gl X "range")(hm:X.mg "range" = none)(ha:PA X [a,b] ta)
  (hs:autoParam (starEach [a,b] X.env=[(false,eval a X.env),(false,eval b X.env)]) aU4._auto_1) (hs2:autoParam (starEach [b] X.env=[(false,eval b X.env)]) aU4._auto_1) (hs3:autoParam (starEach [(.Call (.Name "range" p1) [a,b] [] pos1)] X.env=[(false,eval (.Call (.Name "range" p1) [a,b] [] pos1) X.env)]) aU4._auto_1) :
  PE X (.Call (.Name "list" p2) [.Call (.Name "range" p1) [a,b] [] pos1] [] pos2) (tLR ta):=by
 intro pins s σ H Q I h;refine cQ (j3 I hgl hml cK ?_);refine bB (e:=.Call (.Name "range" p1) [a,b] [] pos1) (rest:=[]) ?_ hs3 rfl;rw[hs3];show wpAny _ _ (spliced ((false,eval (.Call (.Name "range" p1) [a,b] [] pos1) X.env)::[])) _ _ s;refine ib ?_;refine Call_ (j3 I hg hm i9 (bB (thn (ha pos1 pins s σ H _ I h) λus s1 ⟨vs,H1,I1,r1,D⟩=>?_) (by rw[hs,hs2]) (by rw[hs2];rfl)));obtain⟨i,j,e,⟨D,q2,q3,Z⟩,W,q⟩:=D;subst e;cases r1 with
 |cons r rr =>
  cases rr with
  |cons r' rr =>
   cases rr;obtain⟨t,rfl⟩:=r;obtain⟨t',rfl⟩:=r';refine call_range_2 (iI ?_);have z:Inv X pins σ H1 { s1 with heap:=s1.heap.push { cls:=.type "range",data:=.fields #[.int i t,.int j t',.int 1 s1.toks] },toks:=s1.toks+1 }:=I1.kept λb o e=>ag _ e;refine call_list_range (n:=(j-i).toNat) (z.ok.hd hc) (jH ..) (small_one ⋯ ⋯ ⋯ ⋯) (rangeSize_nat _ _) ⋯ λh' tk U c' F e L=>?_;have J:((List.range (j-i).toNat).map λk:Nat=>V.int (i+k)).length<=sizeLine:=by
    rw[af,ay];have:(1000000:Nat)<sizeLine:=by decide
    lia
   exact⟨.ref _,_,z.laid (t':=tk) F (ak _) (show ObjOk X.prog X.w _ h' _ (.lst _) from ⟨J,U.toList,c',qxn L,by simpa using e⟩),rfl,q _ (z.hok.fresh (ak _))⟩
end L2
namespace L2
open PySem PySem.Spec PyProof.Rows
structure FunD (K:Aa)(x:Str)(st:Stmt)(f:Aj)(fd:Ad):Prop where
 ex:∃(oc:Ag) (od:Option Aj) (T:Aj) (kV doc pm:Ag) (an:Option Aj) (cdv ct:Ag) (osl:Array (Option Ag)),
  fd=W.fnOf x x (jx st) (vz st) (ww st) (.ref T) kV doc pm an cdv ct/\K.lookup f=some ⟨oc,od,.func fd,osl⟩/\W.codeIn K cdv x=true/\∃o n,K.lookup T=some o/\o.data=.seq #[.none] n
 kp:W.keepIn K (.ref f)=true
structure DefInD (K:Aa)(x:Str)(st:Stmt):Prop where
 ex:∃f fd,W.nsIn K mainGlobals x=some (some (.ref f))/\FunD K x st f fd
section
variable {P:Ac}{w:Ah}{K:Aa}{mg:Str->Option Ag}{base:Heap}
theorem xjm {x:Str}{st:Stmt}{f T:Aj}{oc:Ag}{od an:Option Aj}{osl:Array (Option Ag)}{kV doc pm cdv ct:Ag}(a:W.nsIn K mainGlobals x=some (some (.ref f)))
  (l:K.lookup f=some ⟨oc,od,.func (W.fnOf x x (jx st) (vz st) (ww st) (.ref T) kV doc pm an cdv ct),osl⟩) (c:W.codeIn K cdv x=true) (k:W.keepIn K (.ref f)=true) {tc:Ag} {td:Option Aj} {tn:Nat} {ts:Array (Option Ag)} (t:K.lookup T=some ⟨tc,td,.seq #[.none] tn,ts⟩):DefInD K x st:=⟨_,_,a,⟨oc,od,T,kV,doc,pm,an,cdv,ct,osl,rfl,l,c,_,_,t,rfl⟩,k⟩
theorem FunD.okX {x:Str}{st:Stmt}{f:Aj}{fd:Ad}{N ps:List Str}{k:Nat}{sp:Sp}(F:FunD K x st f fd)(S:FnScope N ps (ww st))(len:∀vs H Q E,sp vs H Q E->vs.length=ps.length)
  (body:∀(cdv:Ag) (A:Ae) (outer:List Env) (s:Ab) (H:Hp) (vs:List V) (Q:VK) (E:XK),Room k (A.deeper (envOfC x (ww st) s.heap.objs.size f cdv))->sp vs H Q E ->
   ∃t,PSs (Ww (CXE P w) P w K mg base N x (ww st) f cdv A outer s H E) (vz st) t/\t { nx:=λ_ H'=>Q .non H',rt:=Q } (Zb N vs) H):FnOk P w K mg base (CXE P w) (k+1) f fd ps sp:=by
 obtain⟨Z,W,T,kV,ab,pm,an,cdv,ct,U,rfl,z,L,_⟩:=F.ex;exact xzv z L S len λA outer s H vs Q E J D=>body cdv A outer s H vs Q E J D
def Yz (x:Str)(st:Stmt)(ps:List Str)(ds:List Ag):Prop:=∀(T:Aj) (kV doc pm:Ag) (an:Option Aj) (cdv ct:Ag) (us:List Ag),(us++ds).length=ps.length ->
 ∃kk,bindArgs (W.fnOf x x (jx st) (vz st) (ww st) (.ref T) kV doc pm an cdv ct) ⟨us,[]⟩=seqItems? (.ref T) >>= kk/\kk (some #[.none])=pure (ps.zip (us++ds))
structure CalD (P:Ac)(w:Ah)(K:Aa)(mg:Str->Option Ag)(base:Heap)(x:Str)(k:Nat)(sp:Sp):Prop where
 ex:∃f fd ps,mg x=some (.ref f)/\FnOk P w K mg base (CXE P w) k f fd ps sp/\W.keepIn K (.ref f)=true/\Binds K fd ps []/\Binds K fd ps [.none]
theorem FunD.binds {x:Str}{st:Stmt}{f:Aj}{fd:Ad}{ps:List Str}{ds:List Ag}(F:FunD K x st f fd)(b:Yz x st ps ds):Binds K fd ps ds:=by obtain⟨oc,od,T,kV,L,pm,Z,cdv,U,ab,rfl,lk,ad,o,n,J,D⟩:=F.ex;intro s us X z;obtain⟨kk,h1,h2⟩:=b T kV L pm Z cdv U us z;exact W.binds_K X rfl J D h1 h2
theorem DefInD.cal {x:Str}{st:Stmt}{ps:List Str}{k:Nat}{sp:Sp}{h:Heap}(d:DefInD K x st)(KX:K.In h)(G:h.Ns mainGlobals mg)(b:Yz x st ps [])(b':Yz x st ps [.none])(ok:∀f fd,FunD K x st f fd->FnOk P w K mg base (CXE P w) k f fd ps sp):CalD P w K mg base x k sp:=by obtain⟨f,fd,a,F⟩:=d.ex;exact⟨f,fd,ps,bW KX G a,ok f fd F,F.kp,F.binds b,F.binds b'⟩
theorem CalD.all {x:Str}{k:Nat}{sp:Sp}(c:CalD P w K mg base x k sp):Cal P w K mg base x k sp:=by obtain⟨f,fd,ps,h1,h2,h3,h4,_⟩:=c.ex;exact⟨f,fd,ps,h1,h2,h3,h4⟩
end
section
variable {X:Cx}{x:Str}{k:Nat}{sp:Sp}{E:St->XK}{p pos:Pos}{e:Expr}{es:List Expr}{t:TA}
end
end L2
namespace L2
open PySem PySem.Spec PyProof.Rows
section
variable {κ:Type}[DecidableEq κ]
def u9 (kvs:List (κ×V))(k:κ):Option V:=(kvs.find? λkv=>decide (kv.1=k)).map (·.2)
def Js (kvs:List (κ×V))(k:κ)(v:V):List (κ×V) :=
 if(kvs.any λkv=>decide (kv.1=k))=true then kvs.map (λkv=>if kv.1=k then(kv.1,v) else kv) else kvs++[(k,v)]
theorem y6 {p:κ×V}{r:List (κ×V)}{k:κ}(e:p.1=k):u9 (p::r) k=some p.2:=by simp[u9,eJ,e]
theorem y7 {p:κ×V}{r:List (κ×V)}{k:κ}(e:¬ p.1=k):u9 (p::r) k=u9 r k:=by simp[u9,eJ,e]
theorem qvv (k:κ):∀kvs:List (κ×V),(kvs.any λkv=>decide (kv.1=k))=(u9 kvs k).isSome
 |[]=>rfl
 |p::r=>by
  rw[fE];by_cases e:p.1=k
  .simp only[y6 e,aF e,Bool.true_or,Option.isSome_some]
  .rw[y7 e,aT e,Bool.false_or];exact qvv k r
theorem qjm (k j:κ)(y:V):∀kvs:List (κ×V),u9 kvs k=none->u9 (kvs++[(k,y)]) j=if j=k then some y else u9 kvs j
 |[],_=>by
  by_cases e:k=j
  .rw[aw e.symm];exact y6 (p:=(k,y)) e
  .rw[ar (λz=>e z.symm)];exact y7 (p:=(k,y)) e
 |p::r,hn=>by
  rw[List.cons_append];have hk:¬ p.1=k:=λz=>by rw[y6 z]at hn;cases hn
  rw[y7 hk]at hn;have ih:=qjm k j y r hn;by_cases e:p.1=j
  .rw[y6 e,y6 e,ar (λz=>hk (e.trans z))]
  .rw[y7 e,y7 e,ih]
theorem qqh (kvs:List (κ×V))(k:κ)(v:V):(Js kvs k v).length<=kvs.length+1:=by
 unfold Js;split
 .rw[af];lia
 .rw[au,aJ,da];lia
theorem xvu {kvs:List (κ×V)}{k:κ}(v:V)(h:u9 kvs k=none):Js kvs k v=kvs++[(k,v)]:=by unfold Js;rw[qvv,h];exact ar ⋯
theorem RelO.isSome_eq {o:Option V}{u:Option Ag}(r:RelO o u):o.isSome=u.isSome:=by
 cases o with
 |none=>cases u with
  |none=>rfl
  |some _=>exact(show False from r).elim
 |some _=>cases u with
  |none=>exact(show False from r).elim
  |some _=>rfl
theorem KV.val {kvs:List (κ×V)}{vs:List (κ×Ag)}(r:KV kvs vs)(k:κ):RelO (u9 kvs k) (valueAt vs k):=by
 unfold KV at r
 induction r with
 |nil=>exact True.intro
 |@cons p q ps qs h t ih =>
  obtain⟨h1,h2⟩:=h;by_cases e:p.1=k
  .have D:q.1=k:=h1.symm.trans e;have b:valueAt (q::qs) k=some q.2:=by simp[valueAt,eJ,D]
   rw[y6 e,b];exact h2
  .have D:¬ q.1=k:=λz=>e (h1.trans z);have b:valueAt (q::qs) k=valueAt qs k:=by simp[valueAt,eJ,D]
   rw[y7 e,b];exact ih
theorem KV.any {kvs:List (κ×V)}{vs:List (κ×Ag)}(r:KV kvs vs)(k:κ):(kvs.any λkv=>decide (kv.1=k))=vs.any λkv=>decide (kv.1=k):=by
 unfold KV at r
 induction r with
 |nil=>rfl
 |cons h t ih=>rw[fE,fE,ih,h.1]
theorem KV.repl {kvs:List (κ×V)}{vs:List (κ×Ag)}(r:KV kvs vs)(k:κ){y:V}{u:Ag}(ry:RelV y u) :
  KV (kvs.map λkv=>if kv.1=k then(kv.1,y) else kv) (vs.map λkv=>if kv.1=k then(kv.1,u) else kv):=by
 unfold KV at r ⊢
 induction r with
 |nil=>exact .nil
 |@cons p q ps qs h t ih =>
  rw[aC,aC];refine .cons ?_ ih;obtain⟨h1,h2⟩:=h;by_cases e:p.1=k
  .rw[aw e,aw (h1.symm.trans e)];exact⟨h1,ry⟩
  .rw[ar e,ar (λz=>e (h1.trans z))];exact⟨h1,h2⟩
theorem KV.put {kvs:List (κ×V)}{vs:List (κ×Ag)}(r:KV kvs vs)(k:κ){y:V}{u:Ag}(ry:RelV y u):KV (Js kvs k y) (stored vs k u):=by
 unfold Js stored;rw[r.any k];by_cases e:(vs.any λz=>decide (z.1=k))=true
 .rw[aw e,aw e];exact r.repl k ry
 .rw[ar e,ar e];exact Paired.snoc r ⟨rfl,ry⟩
theorem KV.length {kvs:List (κ×V)}{vs:List (κ×Ag)}(r:KV kvs vs):kvs.length=vs.length:=b9 r
end
theorem wjz {P:Ac}{w:Ah}{k:Key}{u:Ag}(r:RelV (kV k) u):(vd P w).is k u=true:=by
 cases k with
 |inl i=>obtain⟨t,e⟩:=(show ∃t,u=Value.int i t from r);subst e;exact wq8 P w i t
 |inr x=>obtain⟨t,e⟩:=(show ∃t,u=Value.str x t from r);subst e;exact wwf P w x t
theorem qk5 {P:Ac}{w:Ah}:∀ {ks:List Key} {us:List Ag},Vals (ks.map kV) us->ItemsAre (vd P w) ks us
 |[],_,r=>by rw[di]at r;cases r;exact .nil
 |k::ks,_,r=>by
  rw[aC]at r;cases r with
  |cons h t=>exact .cons (wjz h) (qk5 t)
abbrev KT (H:Hp):List (List Key×V)->List (List Key×Aj×Ag)->Prop:=Paired λp q=>p.1=q.1/\H q.2.1=some (.tup (p.1.map kV))/\RelV p.2 q.2.2
theorem KT.val {H:Hp}{kvs:List (List Key×V)}{xs:List (List Key×Aj×Ag)}(r:KT H kvs xs)(k:List Key):RelO (u9 kvs k) ((atKey xs k).map (·.2)):=by
 induction r with
 |nil=>exact True.intro
 |@cons p q ps qs h t ih =>
  obtain⟨h1,_,h2⟩:=h;by_cases e:p.1=k
  .have D:q.1=k:=h1.symm.trans e;have b:atKey (q::qs) k=some q.2:=by simp[atKey,eJ,D]
   rw[y6 e,b];exact h2
  .have D:¬ q.1=k:=λz=>e (h1.trans z);have b:atKey (q::qs) k=atKey qs k:=by simp[atKey,eJ,D]
   rw[y7 e,b];exact ih
theorem KT.repl {H:Hp}{kvs:List (List Key×V)}{xs:List (List Key×Aj×Ag)}(r:KT H kvs xs)(k:List Key){y:V}{u:Ag}(ry:RelV y u) :
  KT H (kvs.map λkv=>if kv.1=k then(kv.1,y) else kv) (xs.map (putAt k u)):=by
 induction r with
 |nil=>exact .nil
 |@cons p q ps qs h t ih =>
  rw[aC,aC];refine .cons ?_ ih;obtain⟨h1,h2,D⟩:=h;unfold putAt;by_cases e:p.1=k
  .rw[aw e,aw (h1.symm.trans e)];exact⟨h1,h2,ry⟩
  .rw[ar e,ar (λz=>e (h1.trans z))];exact⟨h1,h2,D⟩
theorem KT.put {H:Hp}{kvs:List (List Key×V)}{xs:List (List Key×Aj×Ag)}(r:KT H kvs xs)(k:List Key){b:Aj}{y:V}{u:Ag}(hb:H b=some (.tup (k.map kV)))(ry:RelV y u) :
  KT H (Js kvs k y) (storedH xs k b u):=by
 have e:(kvs.any λz=>decide (z.1=k))=(atKey xs k).isSome:=by rw[qvv,(r.val k).isSome_eq,Option.isSome_map]
 unfold Js storedH;rw[e];by_cases q:(atKey xs k).isSome=true
 .rw[aw q,aw q];exact r.repl k ry
 .rw[ar q,ar q];exact Paired.snoc r ⟨rfl,hb,ry⟩
theorem KT.keeps {H H':Hp}{kvs:List (List Key×V)}{xs:List (List Key×Aj×Ag)}(r:KT H kvs xs)(ht:∀b ys,H b=some (.tup ys)->H' b=some (.tup ys)):KT H' kvs xs :=
 Paired.mapP r λ_ _ z=>⟨z.1,ht _ _ z.2.1,z.2.2⟩
section
variable {P:Ac}{w:Ah}{H:Hp}{h:Heap}{a:Aj}
theorem rd_of {u:HO}(ok:HOk P w H h)(e:Rd H a u):ObjOk P w H h a u:=e.ok ok
theorem wju {kvs:List (Key×V)}(ok:HOk P w H h)(e:Rd H a (.dK kvs)):kvs.length<=sizeLine/\(a==sysModules)=false/\∃vs,KV kvs vs/\h.DictOf (vd P w) a vs :=
 show ObjOk P w H h a (.dK kvs) from rd_of ok e
theorem dk_of {kvs:List (Key×V)}(ok:HOk P w H h)(e:H a=some (.dK kvs)):kvs.length<=sizeLine/\(a==sysModules)=false/\∃vs,KV kvs vs/\h.DictOf (vd P w) a vs:=wju ok (.inl e)
theorem qqf {ks:List Key}(ok:HOk P w H h)(e:H a=some (.tup (ks.map kV))):(tupleKind (vd P w)).is h ks a:=by obtain⟨_,z,r,o,h1,h2,n,D⟩:=(show ObjOk P w H h a (.tup (ks.map kV)) from ok a _ e);exact⟨o,z.toArray,n,h1,h2,D,by simpa using qk5 r⟩
theorem wk6 {kvs:List (List Key×V)}(ok:HOk P w H h)(e:Rd H a (.dT kvs)):kvs.length<=sizeLine/\(a==sysModules)=false /\
  ∃xs,KT H kvs xs/\h.DictOfH (tupleKind (vd P w)) a xs:=by
 obtain⟨z,y,xs,r,o,es,ep,h1,h2,L,J,F⟩:=(show ObjOk P w H h a (.dT kvs) from rd_of ok e);refine⟨z,y,xs,r,o,es,ep,h1,h2,L,J,λx D=>?_,F⟩;have U:∀ {l:List (List Key×V)} {m:List (List Key×Aj×Ag)},KT H l m->∀x∈m,(tupleKind (vd P w)).is h x.1 x.2.1:=by
  intro l m q
  induction q with
  |nil=>intro x D;exact nomatch D
  |@cons p q ps qs hq t ih =>
   intro x D;rcases aO.mp D with e|D
   .subst e;exact qqf ok (by rw[<-hq.1];exact hq.2.1)
   .exact ih x D
 exact U r x D
theorem dt_of {kvs:List (List Key×V)}(ok:HOk P w H h)(e:H a=some (.dT kvs)):kvs.length<=sizeLine/\(a==sysModules)=false /\
  ∃xs,KT H kvs xs/\h.DictOfH (tupleKind (vd P w)) a xs:=wk6 ok (.inl e)
end
def DGet (H:Hp)(a:Aj)(y:V)(r:Option V):Prop :=
 (∃kvs k,Rd H a (.dK kvs)/\y=kV k/\r=u9 kvs k)\/∃kvs k b,Rd H a (.dT kvs)/\y=.ref b/\H b=some (.tup (k.map kV))/\r=u9 kvs k
def DPut (H:Hp)(a:Aj)(y v:V)(H':Hp):Prop :=
 (∃kvs k,H a=some (.dK kvs)/\y=kV k/\kvs.length<sizeLine/\H'=upd H a (.dK (Js kvs k v))) \/
 ∃kvs k b,H a=some (.dT kvs)/\y=.ref b/\H b=some (.tup (k.map kV))/\kvs.length<sizeLine/\H'=upd H a (.dT (Js kvs k v))
theorem DGet.t {H:Hp}{a b:Aj}{kvs:List (List Key×V)}{k:List Key}(e:H a=some (.dT kvs))(eb:H b=some (.tup (k.map kV))):DGet H a (.ref b) (u9 kvs k):=.inr ⟨kvs,k,b,.inl e,rfl,eb,rfl⟩
theorem DPut.t {H:Hp}{a b:Aj}{kvs:List (List Key×V)}{k:List Key}{v:V}(e:H a=some (.dT kvs))(eb:H b=some (.tup (k.map kV)))(hl:kvs.length<sizeLine) :
  DPut H a (.ref b) v (upd H a (.dT (Js kvs k v))):=.inr ⟨kvs,k,b,e,rfl,eb,hl,rfl⟩
section
variable {X:Cx}{pins:List (Aj×Obj)}{σ:St}{H:Hp}{s:Ab}{a:Aj}{y v:V}{u r:Ag}{o:Option V}{A:Ae}{E:Ag->Ab->Prop}
theorem Inv.big (I:Inv X pins σ H s):sysModules<s.heap.objs.size:=by have h:mainGlobals<s.heap.objs.size:=(I.mod.glob.keeps I.bk).lt;exact bn ⋯ h
theorem wyp {Q:Ag->Ab->Prop}(hu:A.units+1<cLine)(I:Inv X pins σ H s)(g:DGet H a y (some v))(ry:RelV y u)(h:∀w' s',Inv X pins σ H s'->RelV v w'->Q w' s') :
  wpAny (model X.prog X.w) A (getItem (.ref a) u) Q E s:=by
 rcases g with⟨kvs,k,e,L,l⟩|⟨kvs,k,b,e,L,eb,l⟩
 .subst L;obtain⟨z,hd,vs,F,U⟩:=wju I.hok e;obtain⟨w',J,D⟩:=RelO.some_of (v:=v) (o:=valueAt vs k) (by rw[l];exact F.val k);exact wpAny_getItem_of (wjz ry) U.mapOf J (h w' _ (I.tok _) D)
 .subst L;cases(show u=Value.ref b from ry);obtain⟨z,hd,xs,F,U⟩:=wk6 I.hok e;obtain⟨w',J,D⟩:=RelO.some_of (v:=v) (o:=(atKey xs k).map (·.2)) (by rw[l];exact F.val k);obtain⟨p,Z,W⟩:=cL.mp J;refine wpAny_getItem_heap (io hu) (qqf I.hok eb) U Z ?_;rw[W];exact h w' _ (I.tok _) D
theorem xk5 {Q:Ag->Ab->Prop}(hu:A.units+1<cLine)(I:Inv X pins σ H s)(g:DGet H a y o)(ry:RelV y u)(h:∀s',Inv X pins σ H s'->Q (.bool (!o.isSome)) s') :
  wpAny (model X.prog X.w) A (compareOp .NotIn u (.ref a)) Q E s:=by
 rcases g with⟨kvs,k,e,J,l⟩|⟨kvs,k,b,e,J,U,l⟩
 .subst J;obtain⟨z,F,vs,D,L⟩:=wju I.hok e;refine wpAny_notIn_of (wjz ry) F L.mapOf ?_;rw[<- (D.val k).isSome_eq,<-l];exact h _ (I.tok _)
 .subst J;cases(show u=Value.ref b from ry);obtain⟨z,F,xs,D,L⟩:=wk6 I.hok e;refine wpAny_notIn_heap (io hu) (qqf I.hok U) F L ?_;have q:=(D.val k).isSome_eq;rw[Option.isSome_map]at q;rw[<-q,<-l];exact h _ (I.tok _)
theorem qwh {h':Heap}{t':Nat}{ob:HO}(I:Inv X pins σ H s)(mu:Mut (H a))(hs:Heap.SameBut a s.heap h')(he:∃q,h'.get? a=some q)(new:ObjOk X.prog X.w (upd H a ob) h' a ob) :
  Inv X pins σ (upd H a ob) { s with heap:=h',toks:=t' } :=
 I.write (x:=a) (e:=a) mu (.inl rfl) (λb q hb z=>(hs.2 b hb).trans z) he new
theorem dk_new {P:Ac}{w:Ah}{H':Hp}{h':Heap}{kvs:List (Key×V)}{vs:List (Key×Ag)}(z:kvs.length<=sizeLine)(hd:(a==sysModules)=false)(rel:KV kvs vs)(dd:h'.DictOf (vd P w) a vs) :
  ObjOk P w H' h' a (.dK kvs):=⟨z,hd,vs,rel,dd⟩
theorem wu7 {H':Hp}{Q:Unit->Ab->Prop}(hu:A.units+1<cLine)(I:Inv X pins σ H s)(g:DPut H a y v H')(ry:RelV y u)(rv:RelV v r)(h:∀s',Inv X pins σ H' s'->Q () s') :
  wpAny (model X.prog X.w) A (setItem (.ref a) u r) Q E s:=by
 rcases g with⟨kvs,k,e,Z,l,eH⟩|⟨kvs,k,b,e,Z,eb,l,eH⟩
 .subst Z eH;obtain⟨z,W,vs,D,dd⟩:=dk_of I.hok e;have L:vs.length<=sizeLine:=by rw[<-D.length];exact z
  have U:(Js kvs k v).length<=sizeLine:=by have:=qqh kvs k v;lia
  refine wpAny_setItem_pairs (hsz:=L) (wjz ry) dd λh' J hs=>h _ ?_;have he:∃q,h'.get? a=some q:=let ⟨q,_,_,F,_⟩:=J;⟨q,F⟩;exact qwh I (by rw[e];exact True.intro) hs he (dk_new U W (D.put k rv) J)
 .subst Z eH;cases(show u=Value.ref b from ry);obtain⟨z,W,xs,D,dd⟩:=dt_of I.hok e;have L:xs.length<=sizeLine:=by rw[<-b9 D];exact z
  have U:(Js kvs k v).length<=sizeLine:=by have:=qqh kvs k v;lia
  refine wpAny_setItem_heap (hsz:=L) (io hu) (qqf I.hok eb) dd λh' J hs=>h _ ?_;obtain⟨q,es,ep,F,h2,h3,h4,_,h5⟩:=J;refine qwh I (by rw[e];exact True.intro) hs ⟨q,F⟩ ⟨U,W,_,(D.put k eb rv).keeps λc ys ec=>?_,q,es,ep,F,h2,h3,h4,h5⟩;rw[wx (ne_of ec e (λz=>nomatch z))];exact ec
end
section
variable {X:Cx}{pins:List (Aj×Obj)}{σ:St}{H:Hp}{s:Ab}{a:Aj}{kvs:List (Key×V)}{k:Key}{u:Ag}{A:Ae}{E:Ag->Ab->Prop}
end
def NoSl (i:Expr):Prop:=∀ov iv,subscripted i false ov iv=operate [ov,iv] (getItem ov iv)
theorem xyz {prog:Ac}{w:Ah}{A:Ae}{E:Ag->Ab->Prop}{s:Ab}{env:Env}{value slice:Expr}{pos:Pos}{T id:String}{Q:Ag->Ab->Prop}
  (hl:typeLookup (.type T) "__getitem__" = pure (some (.builtin id))) (hs:NoSl slice)
  (h:wpAny (model prog w) A (eval value env) (λo s₁=>wpAny (model prog w) A (eval slice env) (λi s₂=>s₂.TypeIs o T/\wpAny (model prog w) A (getItem o i) Q E s₂) E s₁) E s) :
  wpAny (model prog w) A (eval (.Subscript value slice pos) env) Q E s:=by
 refine Subscript_ (aY h (λo s₁ U=>aY U (λi s₂ z=>?_) λ_ _ x=>x) λ_ _ x=>x);obtain⟨J,z⟩:=z;unfold subscriptTail;refine ac ?_;rw[getitemInPython_of_ne J.not_modules];refine ac (jC J hl ?_);have D:wpAny (model prog w) A (subscripted slice false o i) (λr F=>wpAny (model prog w) A (letTemporaryGo value o r >>= λ_=>pure r) Q E F) E s₂:=by rw[hs o i];exact wpAny_operating (aY z (λr F L=>ac (wpAny_letTemporaryGo (ai L))) λ_ _ x=>x)
 first
  |exact ai (ac D)
  |exact ac (ai (ac D))
  |exact ac D
theorem wqr {X:Cx}{pins:List (Aj×Obj)}{σ:St}{H:Hp}{s:Ab}{a:Aj}{y:V}{o:Option V}(I:Inv X pins σ H s)(g:DGet H a y o):s.TypeIs (.ref a) "dict" := by
 rcases g with⟨kvs,k,e,_,_⟩|⟨kvs,k,b,e,_,_,_⟩
 .obtain⟨_,_,vs,_,dd⟩:=wju I.hok e;exact dd.typeIs
 .obtain⟨_,_,xs,_,dd⟩:=wk6 I.hok e;exact dd.typeIs
def tDGet (td ty:TE):TE:=λσ H Q=>td σ H λx H1=>ty σ H1 λy H2=>∃a v,x=.ref a/\DGet H2 a y (some v)/\Q v H2
def xjx (ty td:TE):TE:=λσ H Q=>ty σ H λy H1=>td σ H1 λx H2=>∃a o,x=.ref a/\DGet H2 a y o/\Q (.bl (!o.isSome)) H2
def sDPut (td ty tv:TE):TS:=λD σ H=>tv σ H λv H1=>td σ H1 λx H2=>ty σ H2 λy H3=>∃a H4,x=.ref a/\DPut H3 a y v H4/\D.nx σ H4
section
variable {X:Cx}{o i e value:Expr}{pos pos' tpos:Pos}{td ty tv:TE}
theorem xj9 (hu:X.A.units+1<cLine)(ho:PE X o td)(hi:PE X i ty)(hs:NoSl i):PE X (.Subscript o i pos) (tDGet td ty):=by intro pins s σ H Q I h;refine xyz PySem.F.slot_dict_getitem.lookup hs (thn (ho pins s σ H _ I h) λu s1 ⟨x,H1,I1,rx,q1⟩=>thn (hi pins s1 σ H1 _ I1 q1) λiv s2 ⟨y,H2,I2,ry,a,v,ex,g,q2⟩=>?_);subst ex;obtain rfl:u=Value.ref a:=rx;exact⟨wqr I2 g,wyp hu I2 g ry λJ L D z=>⟨v,H2,D,z,q2⟩⟩
theorem wuk (hu:X.A.units+1<cLine)(hi:PE X i ty)(ho:PE X o td):PC X .NotIn i o (xjx ty td):=by intro pins s σ H Q I h;refine thn (hi pins s σ H _ I h) λiv s1 ⟨y,H1,I1,ry,q1⟩=>thn (ho pins s1 σ H1 _ I1 q1) λu s2 ⟨x,H2,I2,rx,a,ov,ex,g,q2⟩=>?_;subst ex;obtain rfl:u=Value.ref a:=rx;exact xk5 hu I2 g ry λD z=>⟨.bl (!ov.isSome),H2,z,rfl,q2⟩
theorem xk7 (hu:X.A.units+1<cLine)(ho:PE X o td)(hi:PE X i ty)(hv:PE X value tv)(hs:swapsWith value (some (.Subscript o i pos')) pos.line X.env=pure false) :
  PS X (.Assign [.Subscript o i pos'] value pos) (sDPut td ty tv):=by
 intro pins s σ H D I h;refine wpAny_Assign_Subscript (thn (hv pins s σ H _ I h) λr s1 ⟨v,H1,I1,rv,q1⟩=>thn (ho pins s1 σ H1 _ I1 q1) λu s2 ⟨x,H2,I2,rx,q2⟩=>thn (hi pins s2 σ H2 _ I2 q2) λiv s3 ⟨y,H3,I3,ry,a,H4,ex,g,q3⟩=>?_) hs;subst ex;obtain rfl:u=Value.ref a:=rx;exact wu7 hu I3 g ry rv λF z=>⟨σ,H4,z,q3⟩
end
theorem xwk {P:Ac}{w:Ah}{H:Hp}(h:Heap)(hb:sysModules<h.objs.size):ObjOk P w H (h.push { cls:=.type "dict",data:=.dict #[] }) h.objs.size (.dT []) :=
 ⟨aQ _,cD.mpr (dF (aB hb)),[],.nil,_,#[],0,aA _ rfl,⟨rfl,rfl,rfl⟩,rfl,rfl,jL⟩
def tDNewT:TE:=λ_ H Q=>∀p,H p=none->Q (.ref p) (upd H p (.dT []))
section
variable {X:Cx}{pos:Pos}
theorem xx4:PE X (.Dict [] [] pos) tDNewT:=λpins s σ H Q I h =>
 wpAny_Dict_empty ⟨.ref s.heap.objs.size,_,I.laid (a:=s.heap.objs.size) (o:=.dT []) (t':=s.toks) (λ_ _ q=>ag _ q) (ak _) (xwk s.heap I.big),rfl,h _ (I.hok.fresh (ak _))⟩
end
end L2
namespace L2
open PySem PySem.Spec PySem.Calls PySem.W PyProof.Rows
section
variable {prog:Ac}{w:Ah}{A:Ae}{E:Ag->Ab->Prop}{s:Ab}{S a:Aj}{es:Array (Int×Ag)}{ep:Nat}{t:SetTable}{o:Obj}{k:List Key}{ks:List (List Key)}{h:Int}{B:Nat}
abbrev KD (prog:Ac)(w:Ah):=tupleKind (vd prog w)
def EsIn (prog:Ac)(w:Ah)(B:Nat)(hp:Heap)(es:Array (Int×Ag))(ks:List (List Key)):Prop:=∀p∈es.toList,∃k∈ks,∃a,p.2=.ref a/\a<B/\(KD prog w).is hp k a
theorem xqp (n:Nat){v:Ag}(h:carriedByValue v=true):ofAClassStatement n v=pure false:=by
 cases v with
 |ref x=>cases h
 |_=>first | rfl | (simp[ofAClassStatement];done) | (cases n <;> rfl)
theorem wqt (hx:(KD prog w).is s.heap k a){n:Nat}{Q:Bool->Ab->Prop}(hQ:Q false s):wpAny (model prog w) A (ofAClassStatement (n+1) (.ref a)) Q E s:=by
 have L:s.TypeIs (.ref a) "tuple" := IsTupleKey.typeIs hx;obtain⟨o,z,m,F,Z,J,hi⟩:=hx;unfold ofAClassStatement;refine ac (wpAny_typeOf L ?_);dsimp only;rw[aw ⋯];refine ac (ai ?_);simp only[fG,aD,bA];refine ac (iq F J ?_);refine ac ?_;show wpAny _ _ (forIn z _ _) _ _ s;rw[<-fR];refine iX _ (λrest r s'=>r.1=none/\s'=s/\∀v∈rest,carriedByValue v=true) _ ?_ ?_ _ _ ⟨rfl,rfl,hi.byValue⟩
 .rintro v rest r s' ⟨hr,rfl,hall⟩;rw[xqp _ (hall v dN)];refine ac (ai ?_);simp only[aD,bA];exact ai ⟨rfl,rfl,λu D=>hall u (bG _ D)⟩
 .rintro⟨W,U⟩ s' ⟨hr,rfl,_⟩;simp only at hr;subst hr;exact ai hQ
theorem xjb (hx:(KD prog w).is s.heap k a){Q:Bool->Ab->Prop}(hQ:Q false s):∀(l:List Ag),(∀y∈l,∃k' b,y=.ref b/\(KD prog w).is s.heap k' b)->wpAny (model prog w) A (searchCouldBeSeen (.ref a) l) Q E s:=by
 intro l J;unfold searchCouldBeSeen;refine ac ?_;refine iX _ (λrest r s'=>r.1=none/\s'=s/\∀y∈rest,∃k' b,y=.ref b/\(KD prog w).is s.heap k' b) _ ?_ ?_ _ _ ⟨rfl,rfl,J⟩
 .rintro y rest r s' ⟨hr,rfl,hall⟩;obtain⟨k',b,rfl,D⟩:=hall y dN;have z:∀u∈rest,∃k' b,u=.ref b/\(KD prog w).is s'.heap k' b:=λu F=>hall u (bG _ F);dsimp only;split
  .exact ai ⟨rfl,rfl,z⟩
  .refine ac ((KD prog w).quiet hx ?_);simp only[fG,aD,bA];refine ac ((KD prog w).quiet D ?_);simp only[fG,aD,bA];refine ac (wqt hx ?_);simp only[aD,bA];refine ac (wqt D ?_);simp only[aD,bA];exact ai ⟨rfl,rfl,z⟩
 .rintro⟨U,L⟩ s' ⟨hr,rfl,_⟩;simp only at hr;subst hr;exact ai hQ
structure StAt (prog:Ac)(w:Ah)(B:Nat)(hp:Heap)(S:Aj)(ks:List (List Key))(es:Array (Int×Ag))(ep:Nat)(t:SetTable)(e:Nat)(o:Obj):Prop where
 ho:hp.get? S=some o
 ex:o.ExactSet
 hd:o.data=.set es ep t
 dm:t.dummies=#[]
 pl:t.place.size=es.size
 pw:t.mask+1=2 ^ e
 lo:3<=e
 hi:e<=12
 few:es.size*5<t.mask*3
 len:es.size=ks.length
 els:EsIn prog w B hp es ks
theorem xq3 {b:Aj}{Q:Bool->Ab->Prop}(hQ:Q true s):wpAny (model prog w) A (isSame (.ref b) (.ref b)) Q E s:=by unfold isSame;dsimp only;rw[aw (fj b)];exact ai hQ
end
end L2
namespace L2
open PySem PySem.Spec PySem.Calls PySem.W PyProof.Rows
section
variable {prog:Ac}{w:Ah}{A:Ae}{E:Ag->Ab->Prop}{s:Ab}{S a:Aj}{es:Array (Int×Ag)}{ep:Nat}{t:SetTable}{o:Obj}{k:List Key}{ks:List (List Key)}{h:Int}{B:Nat}
theorem qj3 {hp:Heap}(ho:hp.get? S=some o)(hd:o.data=.set es ep t){es':Array (Int×Ag)}{t':SetTable}:(hp.update S (Obj.putSet es' t')).get? S=some { o with data:=.set es' (ep+1) t' }:=by have e:=putSet_of es' t' hd;have:=de (Obj.putSet es' t') ho (by rw[e];rfl);rw[e]at this;exact this
end
end L2
namespace L2
open PySem
def wwv (xs:Array Nat):Prop:=∀(i j x y:Nat),i<j->xs[i]?=some x->xs[j]?=some y->x<y
theorem qz0 {xs:Array Nat}{j:Nat}(r:wwv xs):∀f lo hi,hi-lo<=f->lo<=hi->hi<=xs.size->(∀(i x:Nat),i<lo->xs[i]?=some x->x<j)->(∀(i x:Nat),hi<=i->xs[i]?=some x->j<=x) ->
  SetTable.below.go xs j f lo hi<=xs.size/\(∀(i x:Nat),i<SetTable.below.go xs j f lo hi->xs[i]?=some x->x<j)/\(∀(i x:Nat),SetTable.below.go xs j f lo hi<=i->xs[i]?=some x->j<=x)
 |0,lo,hi,hf,h1,h2,a,b=>by
  obtain rfl:lo=hi:=by lia
  exact⟨h2,a,b⟩
 |f+1,lo,hi,hf,h1,h2,a,b=>by
  unfold SetTable.below.go;by_cases c:lo<hi
  .rw[aw c];dsimp only;have F:(lo+hi)/2<xs.size:=by lia
   have e:xs[(lo+hi)/2]?=some xs[(lo+hi)/2]:=aZ F;have L:xs.getD ((lo+hi)/2) j=xs[(lo+hi)/2]:=by simp[Array.getD,F]
   rw[L];have D:∀(i k x y:Nat),i<=k->xs[i]?=some x->xs[k]?=some y->x<=y:=λi k x y h ex z=>by
    rcases bF i k with q|q
    .exact bp (r i k x y q ex z)
    .obtain rfl:i=k:=by lia
     rw[ex]at z;cases z;exact ak _
   by_cases d:xs[(lo+hi)/2]<j
   .rw[aw d];exact qz0 r f _ _ ⋯ ⋯ h2 (λi x J ex=>eC (D i _ _ _ ⋯ ex e) d) b
   .rw[ar d];exact qz0 r f _ _ ⋯ ⋯ ⋯ a (λi x J ex=>bI ⋯ (D _ i _ _ J e ex))
  .rw[ar c];obtain rfl:lo=hi:=by lia
   exact⟨h2,a,b⟩
theorem Qb {xs:Array Nat}(r:wwv xs)(j:Nat):SetTable.below xs j<=xs.size/\(∀(i x:Nat),i<SetTable.below xs j->xs[i]?=some x->x<j)/\(∀(i x:Nat),SetTable.below xs j<=i->xs[i]?=some x->j<=x) :=
 qz0 r _ _ _ ⋯ (aQ _) (ak _) (λi x h=>by lia) λi x h ex=>by have:=(bQ.mp ex).1;lia
theorem xzj {xs:Array Nat}(r:wwv xs){i j:Nat}(h:xs[i]?=some j):SetTable.below xs j=i:=by
 obtain⟨a,b,c⟩:=Qb r j;have hi:=(bQ.mp h).1;rcases iJ (SetTable.below xs j) i with q|q|q
 .have e:xs[SetTable.below xs j]?=some (xs[SetTable.below xs j]'⋯):=aZ _;have h1:=c _ _ (ak _) e;have h2:=r _ _ _ _ q e h;lia
 .exact q
 .have:=b i j q h;lia
theorem wzc {xs:Array Nat}(r:wwv xs){i j:Nat}(h:xs[i]?=some j):SetTable.below xs (j+1)=i+1:=by
 obtain⟨a,b,c⟩:=Qb r (j+1);have hi:=(bQ.mp h).1;rcases iJ (SetTable.below xs (j+1)) (i+1) with q|q|q
 .have:=c i j ⋯ h;lia
 .exact q
 .have z:i+1<xs.size:=by lia
  have e:xs[i+1]?=some xs[i+1]:=aZ z;have h1:=b _ _ q e;have h2:=r _ _ _ _ (d7 i) h e;lia
theorem wx9 {xs:Array Nat}(r:wwv xs):SetTable.below xs 0=0:=by
 obtain⟨a,b,c⟩:=Qb r 0;rcases fS (SetTable.below xs 0) with q|q
 .exact q
 .have e:xs[0]?=some (xs[0]'⋯):=aZ _;have:=b 0 _ q e;lia
section
variable {t:SetTable}
theorem qyh (r:wwv t.place){i j:Nat}(h:t.place[i]?=some j):t.slot j=.live i:=by unfold SetTable.slot;dsimp only;rw[xzj r h,h];simp
theorem xw6 {t t':SetTable}(h:t.mask=t'.mask)(p:SetTable.Probe):t.advance p=t'.advance p:=by unfold SetTable.advance;rw[h]
theorem qk6 {t t':SetTable}(h:t.mask=t'.mask):∀n p,zj t n p=zj t' n p
 |0,p=>rfl
 |n+1,p=>by show zj t n (t.advance p)=zj t' n (t'.advance p);rw[xw6 h,qk6 h]
def pos (t:SetTable)(h:Int)(n:Nat):Nat:=(zj t n (t.probeStart h)).j
theorem qxy {t t':SetTable}(h:t.mask=t'.mask)(x:Int)(n:Nat):pos t x n=pos t' x n:=by
 unfold pos;have:t.probeStart x=t'.probeStart x:=by unfold SetTable.probeStart;rw[h]
 rw[this,qk6 h]
structure Tab (bt:Bool)(t:SetTable)(hs:List Int):Prop where
 dm:t.dummies=#[]
 pl:t.place.size=hs.length
 pw:∃e,t.mask+1=2 ^ e/\3<=e/\e<=13
 few:hs.length<=t.mask
 rise:wwv t.place
 reach:∀(i:Nat) (h:Int),hs[i]?=some h->∃N j,N<=10*(t.mask+14)/\t.place[i]?=some j/\pos t h N=j/\∀n,n<N->∃i':Nat,t.place[i']?=some (pos t h n)
 led:t.led=!bt
 plain:t.plain=true
variable {bt:Bool}{hs:List Int}{h:Int}
theorem Tab.fresh:Tab bt (.fresh 0 0 (!bt)) []:=by
 refine⟨rfl,rfl,⟨3,rfl,ak _,⋯⟩,aQ _,λi j x y _ ex=>?_,λi h e=>?_,rfl,rfl⟩
 .have:(#[]:Array Nat)[i]?=some x:=ex;simp at this
 .simp at e
theorem Tab.fits (T:Tab bt t hs):t.fits hs.length=true:=by
 have h1:=T.pl;have h2:=T.few;have:t.fill<=t.mask:=by unfold SetTable.fill;rw[T.dm,h1];simpa using h2
 simp[SetTable.fits,h1,this]
theorem Tab.big (T:Tab bt t hs):7<=t.mask/\t.mask<8192:=by
 obtain⟨e,h1,h2,z⟩:=T.pw;have a:(2:Nat) ^ 3<=2 ^ e:=du ⋯ h2;have b:(2:Nat) ^ e<=2 ^ 13:=du ⋯ z;have c:(2:Nat) ^ 13=8192:=by decide
 have d:(2:Nat) ^ 3=8:=by decide
 lia
theorem Tab.free (T:Tab bt t hs)(h:Int):∃N,N<=10*(t.mask+13)/\t.slot (pos t h N)=.empty/\∀n,n<N->∃i:Nat,t.slot (pos t h n)=.live i:=by
 obtain⟨e,h1,_⟩:=T.pw;obtain⟨z,hN,L⟩:=wyn h1 T.dm (by rw[T.pl];exact T.few) h;have J:∀z,t.slot (pos t h z)=.empty->∃N,N<=z/\t.slot (pos t h N)=.empty/\∀n,n<N->∃i:Nat,t.slot (pos t h n)=.live i:=by
  intro z
  induction z using Nat.strongRecOn with
  |_ z ih =>
   intro W;by_cases c:∀n,n<z->∃i:Nat,t.slot (pos t h n)=.live i
   .exact⟨z,ak _,W,c⟩
   .rw[Classical.not_forall]at c;obtain⟨n,c⟩:=c;rw[Classical.not_imp]at c;obtain⟨U,c⟩:=c;rcases qzk T.dm (pos t h n) with q|q
    .obtain⟨N,Z,F,D⟩:=ih n U q;exact⟨N,⋯,F,D⟩
    .exact absurd q c
 obtain⟨N,Z,F,D⟩:=J z L;exact⟨N,⋯,F,D⟩
theorem qw5 {α:Type}(xs:Array α)(p:Nat)(x:α):(SetTable.insertAt xs p x).toList=xs.toList.take p++x::xs.toList.drop p:=by unfold SetTable.insertAt;rw[Array.toList_append,iF,Array.toList_extract,Array.toList_extract];simp only[List.extract,iK,List.singleton_append,Nat.sub_zero,List.drop_zero];congr 2;exact eF (by simp)
theorem wwr {α:Type}(l:List α)(p:Nat)(x:α)(hp:p<=l.length)(i:Nat):(l.take p++x::l.drop p)[i]?=if i<p then l[i]? else if i=p then some x else l[i-1]?:=by
 have z:(l.take p).length=p:=by rw[bC];lia
 by_cases c:i<p
 .rw[aw c,aU ⋯,iO c]
 .rw[ar c,aG ⋯,z];by_cases d:i=p
  .rw[aw d,d,Nat.sub_self];rfl
  .rw[ar d];obtain⟨k,D⟩:∃k,i-p=k+1:=⟨i-p-1,⋯⟩;rw[D,List.getElem?_cons_succ,fT];congr 1;lia
def zq {α:Type}(l:List α)(p:Nat)(x:α):List α:=l.take p++x::l.drop p
theorem Qj {α:Type}(l:List α)(p:Nat)(x:α):(zq l p x).Perm (x::l):=by unfold zq;refine(List.perm_middle).trans ?_;rw[gD]
theorem Tab.put (T:Tab bt t hs){N:Nat}(hN:N<=10*(t.mask+13))(he:t.slot (pos t h N)=.empty)(hl:∀n,n<N->∃i:Nat,t.slot (pos t h n)=.live i)(hf:hs.length+1<=t.mask) :
  Tab bt (t.put (pos t h N)).1 (zq hs (t.put (pos t h N)).2 h)/\(t.put (pos t h N)).2<=hs.length:=by
 obtain⟨b1,b2,b3⟩:=Qb T.rise (pos t h N);have hp:(t.put (pos t h N)).2=SetTable.below t.place (pos t h N):=rfl;have J:(t.put (pos t h N)).1.place=SetTable.insertAt t.place (SetTable.below t.place (pos t h N)) (pos t h N):=rfl;rw[hp];generalize hb:SetTable.below t.place (pos t h N)=p at b1 b2 b3 J;have ad:p<=hs.length:=by rw[<-T.pl];exact b1
 have ah:∀i:Nat,t.place[i]?≠some (pos t h N):=λi e=>by rw[qyh T.rise e]at he;cases he
 have L:∀i:Nat,(SetTable.insertAt t.place p (pos t h N))[i]?=if i<p then t.place[i]? else if i=p then some (pos t h N) else t.place[i-1]?:=λi=>by rw[<-bL,qw5,wwr _ _ _ (by rw[bc];exact b1)];simp only[bL]
 have up:∀i j:Nat,t.place[i]?=some j->∃F:Nat,(SetTable.insertAt t.place p (pos t h N))[F]?=some j:=λi j e=>by
  by_cases c:i<p
  .exact⟨i,by rw[L,aw c];exact e⟩
  .exact⟨i+1,by rw[L,ar ⋯,ar ⋯,fU];exact e⟩
 refine⟨⟨?_,?_,T.pw,?_,?_,?_,T.led,T.plain⟩,ad⟩
 .show(if SetTable.has t.dummies (pos t h N) then _ else t.dummies)=#[];rw[T.dm];simp[SetTable.has]
 .rw[J,<-bc,qw5];show(zq t.place.toList p (pos t h N)).length=_;rw[(Qj t.place.toList p _).length_eq,(Qj hs p h).length_eq];simp[T.pl]
 .rw[(Qj hs p h).length_eq];exact hf
 .intro i j x y an ex z;rw[J,L]at ex z;by_cases c1:i<p
  .rw[aw c1]at ex;have h1:=b2 i x c1 ex;by_cases c2:j<p
   .rw[aw c2]at z;exact T.rise i j x y an ex z
   .rw[ar c2]at z;by_cases c3:j=p
    .rw[aw c3]at z;cases z;exact h1
    .rw[ar c3]at z;have:=b3 _ y ⋯ z;lia
  .rw[ar c1]at ex;rw[ar ⋯,ar ⋯]at z;by_cases c3:i=p
   .rw[aw c3]at ex;cases ex;have h2:=b3 _ y ⋯ z;rcases bF (pos t h N) y with q|q
    .exact q
    .have:y=pos t h N:=by lia
     rw[this]at z;exact absurd z (ah _)
   .rw[ar c3]at ex;exact T.rise (i-1) (j-1) x y ⋯ ex z
 .intro i h' D;have pm:∀x n,pos (t.put (pos t h N)).1 x n=pos t x n:=λx n=>qxy (t:=(t.put (pos t h N)).1) (t':=t) rfl x n;unfold zq at D;rw[wwr _ _ _ ad]at D;have ab:∀W,hs[W]?=some h'->(SetTable.insertAt t.place p (pos t h N))[i]?=t.place[W]?->∃U j,U<=10*((t.put (pos t h N)).1.mask+14)/\(t.put (pos t h N)).1.place[i]?=some j/\pos (t.put (pos t h N)).1 h' U=j/\∀n,n<U->∃F:Nat,(t.put (pos t h N)).1.place[F]?=some (pos (t.put (pos t h N)).1 h' n):=λW e0 e1=>by obtain⟨U,j,r1,r2,r3,r4⟩:=T.reach W h' e0;refine⟨U,j,r1,by rw[J,e1];exact r2,by rw[pm];exact r3,λn Z=>?_⟩;obtain⟨F,e'⟩:=r4 n Z;rw[pm,J];exact up F _ e'
  by_cases c1:i<p
  .rw[aw c1]at D;exact ab i D (by rw[L,aw c1])
  .rw[ar c1]at D;by_cases c2:i=p
   .rw[aw c2]at D;cases D;refine⟨N,pos t h N,bI hN (by show _<=10*(t.mask+14);lia),by rw[J,L,ar c1,aw c2],pm _ _,λn Z=>?_⟩;obtain⟨F,e'⟩:=hl n Z;rw[pm,J];exact up F _ (Jc e')
   .rw[ar c2]at D;exact ab (i-1) D (by rw[L,ar c1,ar c2])
end
end L2
namespace L2
open PySem
theorem xvb (t:SetTable)(q:Nat×Nat):∀k r j,k<=r->zj t k { j:=j,more:=r,i:=q.1,perturb:=q.2,dummy:=none }={ j:=j+k,more:=r-k,i:=q.1,perturb:=q.2,dummy:=none }
 |0,r,j,_=>rfl
 |k+1,r,j,h=>by
  show zj t k (t.advance _)=_;have e:t.advance { j:=j,more:=r,i:=q.1,perturb:=q.2,dummy:=none }={ j:=j+1,more:=r-1,i:=q.1,perturb:=q.2,dummy:=none }:=by unfold SetTable.advance;rw[aw (by show r>0;lia)]
  rw[e,xvb t q k (r-1) (j+1) ⋯];congr 1 <;> lia
theorem xvm (t:SetTable)(q:Nat×Nat){k:Nat}(h:q.1+k<=SetTable.runEnd t.mask q.1):(zj t k (rs t.mask q)).j=q.1+k:=by unfold rs;rw[xvb t q k _ _ ⋯]
theorem wug (mask i:Nat):i<=SetTable.runEnd mask i/\SetTable.runEnd mask i<=i+9/\(i<=mask->SetTable.runEnd mask i<=mask):=by unfold SetTable.runEnd;split <;> lia
theorem xk8 (mask i p:Nat):(SetTable.leap mask i p).1<=mask:=by unfold SetTable.leap;exact dz (eW _ (eE _))
theorem wk7 {t:SetTable}{owner:Array (Option Nat)}:∀n fuel i p,n<fuel->i<=t.mask->owner.getD (lp t.mask n (i,p)).1 (some 0)=none ->
  ∃j N,SetTable.layClean.free t.mask owner fuel i p=some j/\owner.getD j (some 0)=none/\N<=10*n+9/\(zj t N (rs t.mask (i,p))).j=j/\∀k,k<N->(zj t k (rs t.mask (i,p))).j<=t.mask/\owner.getD (zj t k (rs t.mask (i,p))).j (some 0)≠none
 |n,0,i,p,hf,_,_=>absurd hf (gX _)
 |n,fuel+1,i,p,hf,hi,hn=>by
  obtain⟨r1,r2,r3⟩:=wug t.mask i;have r3:=r3 hi;unfold SetTable.layClean.free;cases q:(List.range (SetTable.runEnd t.mask i+1-i)).find? λk=>(owner.getD (i+k) (some 0)).isNone with
  |some k =>
   have hk:=al.mp (List.mem_of_find?_eq_some q);have hs:owner.getD (i+k) (some 0)=none:=by have:=List.find?_some q;exact Option.isNone_iff_eq_none.mp this
   refine⟨i+k,k,rfl,hs,⋯,xvm t (i,p) (by show i+k<=SetTable.runEnd t.mask i;lia),λD ab=>?_⟩;rw[xvm t (i,p) (by show i+D<=SetTable.runEnd t.mask i;lia)];refine⟨by show i+D<=_;lia,λz=>?_⟩;have fs:=List.find?_eq_some_iff_append.mp q;obtain⟨_,F,bs,e,U⟩:=fs;have hl:F.length=k:=by
    have h1:(List.range (SetTable.runEnd t.mask i+1-i))[F.length]?=some k:=by rw[e];simp
    have h2:=(am.mp h1).1;rw[bg (by simpa using h2)]at h1;exact aq h1
   have L:D∈F:=by have h1:(List.range (SetTable.runEnd t.mask i+1-i))[D]?=some D:=bg ⋯;rw[e,aU ⋯]at h1;exact aE h1
   have:=U D L;rw[show(i,p).1+D=i+D from rfl]at z;rw[z]at this;exact absurd this (by simp)
  |none =>
   have W:=List.find?_eq_none.mp q;have J:∀k,i+k<=SetTable.runEnd t.mask i->owner.getD (i+k) (some 0)≠none:=λk hk z=>by have:=W k (al.mpr ⋯);rw[z]at this;exact this rfl
   cases n with
   |zero=>exact absurd hn (by have:=J 0 ⋯;rw[Nat.add_zero]at this;exact this)
   |succ n =>
    obtain⟨j,N,a1,a2,a3,a4,Z⟩:=wk7 (t:=t) (owner:=owner) n fuel (SetTable.leap t.mask i p).1 (SetTable.leap t.mask i p).2 ⋯ (xk8 _ _ _) hn;have st:zj t (SetTable.runEnd t.mask i-i+1) (rs t.mask (i,p))=rs t.mask (SetTable.leap t.mask i p):=qxv t (i,p) _ _;refine⟨j,SetTable.runEnd t.mask i-i+1+N,a1,a2,⋯,by rw[W4,st];exact a4,λk hk=>?_⟩;by_cases c:k<SetTable.runEnd t.mask i-i+1
    .rw[xvm t (i,p) (by show i+k<=SetTable.runEnd t.mask i;lia)];exact⟨by show i+k<=_;lia,J k ⋯⟩
    .rw[show k=SetTable.runEnd t.mask i-i+1+(k-(SetTable.runEnd t.mask i-i+1)) by lia,W4,st];exact Z _ ⋯
structure Own (t:SetTable)(hs:List Int)(owner:Array (Option Nat))(k:Nat):Prop where
 size:owner.size=t.mask+1
 low:∀j v:Nat,owner[j]?=some (some v)->v<k
 sur:∀v,v<k->∃j:Nat,owner[j]?=some (some v)
 inj:∀j j' v:Nat,owner[j]?=some (some v)->owner[j']?=some (some v)->j=j'
 way:∀(j v:Nat) (h:Int),owner[j]?=some (some v)->hs[v]?=some h->∃N,N<=10*(t.mask+14)/\pos t h N=j/\∀n,n<N->∃v',owner[pos t h n]?=some (some v')
section
variable {t:SetTable}{hs:List Int}{owner:Array (Option Nat)}{k:Nat}
theorem got {j:Nat}(h:owner.getD j (some 0)=none):owner[j]?=some none:=by
 rw[bX]at h;cases q:owner[j]? with
 |none=>rw[q]at h;cases h
 |some v=>rw[q]at h;exact b7 some h
theorem taken {j:Nat}(h:owner.getD j (some 0)≠none)(hj:j<owner.size):∃v,owner[j]?=some (some v):=by
 rw[bX,aZ hj]at h;rw[aZ hj];cases q:owner[j] with
 |none=>rw[q]at h;exact absurd rfl h
 |some v=>exact⟨v,rfl⟩
theorem Own.free (o:Own t hs owner k)(hk:k<=t.mask):∃j,j<=t.mask/\owner.getD j (some 0)=none:=by
 apply cu;intro c;have F:∀j,j<t.mask+1->∃v,v<k/\owner[j]?=some (some v):=λj D=>by obtain⟨v,e⟩:=taken (owner:=owner) (j:=j) (λz=>c ⟨j,⋯,z⟩) (by rw[o.size];exact D);exact⟨v,o.low j v e,e⟩
 have:=qx3 ((List.range (t.mask+1)).map λj=>((owner.getD j none).getD 0)) (List.range k) ?_ ?_
 .rw[af,ay,ay]at this;lia
 .refine cf.mpr (cB (λ{a b} ha hb hab=>?_) gG);obtain⟨v,_,e⟩:=F a (al.mp ha);obtain⟨U,_,J⟩:=F b (al.mp hb);rw[bX,bX,e,J];intro z;have L:v=U:=z;subst L;exact hab (o.inj a b v e J)
 .intro x W;obtain⟨j,D,rfl⟩:=az.mp W;obtain⟨v,Z,e⟩:=F j (al.mp D);rw[bX,e];exact al.mpr Z
theorem Own.new (t:SetTable)(hs:List Int):Own t hs (Array.replicate (t.mask+1) none) 0:=by
 have z:∀j v:Nat,(Array.replicate (t.mask+1) (none:Option Nat))[j]?=some (some v)->False:=λj v e=>by rw[Array.getElem?_replicate]at e;split at e <;> cases e
 exact⟨Array.size_replicate,λj v e=>(z j v e).elim,λv D=>absurd D (gX _),λj F v e=>(z j v e).elim,λj v h e=>(z j v e).elim⟩
theorem Own.set {h:Int}{j N:Nat}(o:Own t hs owner k)(hh:hs[k]?=some h)(hj:owner.getD j (some 0)=none)(hN:N<=10*(t.mask+14))(hp:pos t h N=j)(hw:∀n,n<N->pos t h n<=t.mask/\owner.getD (pos t h n) (some 0)≠none):Own t hs (owner.setIfInBounds j (some k)) (k+1):=by
 have ej:=got hj;have ab:=(bQ.mp ej).1;have F:∀i:Nat,(owner.setIfInBounds j (some k))[i]?=if i=j then some (some k) else owner[i]?:=λi=>by
  by_cases c:i=j
  .rw[aw c,c,Array.getElem?_setIfInBounds_self_of_lt ab]
  .rw[ar c,Array.getElem?_setIfInBounds_ne (λz=>c z.symm)]
 have U:∀i v:Nat,owner[i]?=some (some v)->(owner.setIfInBounds j (some k))[i]?=some (some v):=λi v e=>by rw[F,ar (λz=>by rw[z,ej]at e;cases e)];exact e
 refine⟨by rw[Array.size_setIfInBounds];exact o.size,λi v e=>?_,λv hv=>?_,λi J v e D=>?_,λi v h' e Z=>?_⟩
 .rw[F]at e;by_cases c:i=j
  .rw[aw c]at e;cases e;lia
  .rw[ar c]at e;have:=o.low i v e;lia
 .by_cases c:v=k
  .exact⟨j,by rw[F,aw rfl,c]⟩
  .obtain⟨i,e⟩:=o.sur v ⋯;exact⟨i,U i v e⟩
 .rw[F]at e D;by_cases c:i=j
  .by_cases c':J=j
   .rw[c,c']
   .rw[aw c]at e;rw[ar c']at D;cases e;have:=o.low J k D;lia
  .rw[ar c]at e;by_cases c':J=j
   .rw[aw c']at D;cases D;have:=o.low i k e;lia
   .rw[ar c']at D;exact o.inj i J v e D
 .rw[F]at e;by_cases c:i=j
  .rw[aw c]at e;cases e;rw[hh]at Z;cases Z;refine⟨N,hN,by rw[hp,c],λn W=>?_⟩;obtain⟨h1,h2⟩:=hw n W;obtain⟨L,D⟩:=taken h2 (by rw[o.size];lia);exact⟨L,U _ _ D⟩
  .rw[ar c]at e;obtain⟨N1,a1,a2,a3⟩:=o.way i v h' e Z;refine⟨N1,a1,a2,λn W=>?_⟩;obtain⟨L,D⟩:=a3 n W;exact⟨L,U _ _ D⟩
theorem Own.fold {e:Nat}(hM:t.mask+1=2 ^ e):∀(l:List Int) (owner:Array (Option Nat)) (k:Nat),Own t hs owner k->hs.drop k=l->hs.length<=t.mask->∃owner',l.foldl (λacc h=>do
   let (owner,k) <-acc
   let j <-SetTable.layClean.free t.mask owner (SetTable.turns t.mask) (SetTable.bits h%(t.mask+1)) (SetTable.bits h)
   pure (owner.setIfInBounds j (some k),k+1)) (some (owner,k))=some (owner',k+l.length)/\Own t hs owner' (k+l.length)
 |[],owner,k,o,_,_=>⟨owner,rfl,o⟩
 |h::l,owner,k,o,hd,hz=>by
  have hk:hs[k]?=some h:=by
   have:(hs.drop k)[0]?=some h:=by rw[hd];rfl
   rw[fT]at this;exact this
  have z:=(am.mp hk).1;have F:hs.drop (k+1)=l:=by rw[fu z]at hd;exact(iP hd).2
  obtain⟨j0,D,U⟩:=o.free ⋯;obtain⟨n,hn,e1⟩:=wqd hM (q:=(SetTable.bits h%(t.mask+1),SetTable.bits h)) (dz (eW _ (eE _))) (wk3 h) D;obtain⟨j,N,e2,e3,e4,Z,W⟩:=wk7 (t:=t) (owner:=owner) n (SetTable.turns t.mask) (SetTable.bits h%(t.mask+1)) (SetTable.bits h) (by unfold SetTable.turns;lia) (dz (eW _ (eE _))) (by rw[e1];exact U);obtain⟨owner',L,J⟩:=Own.fold hM l (owner.setIfInBounds j (some k)) (k+1) (o.set hk e3 ⋯ Z W) F hz;refine⟨owner',?_,by rw[aJ,show k+(l.length+1)=k+1+l.length by lia];exact J⟩;rw[List.foldl_cons,aJ,show k+(l.length+1)=k+1+l.length by lia,<-L];congr 1;simp[e2]
theorem qxq:∀ {l m:List Nat},l.Nodup->m.Nodup->(∀a,a∈l↔a∈m)->l.Perm m
 |[],m,_,_,h=>by
  cases m with
  |nil=>exact .refl _
  |cons a m=>exact absurd ((h a).mpr (.head _)) (by simp)
 |a::l,m,hl,hm,h=>by
  have ha:a∈m:=(h a).mp (.head _);have hl':=dc.mp hl;refine(List.Perm.cons a (qxq hl'.2 (hm.erase a) λb=>?_)).trans (List.perm_cons_erase ha).symm;rw[hm.mem_erase_iff];constructor
  .intro hb;exact⟨λz=>by subst z;exact hl'.1 hb,(h b).mp (.tail _ hb)⟩
  .rintro⟨h1,h2⟩;rcases aO.mp ((h b).mpr h2) with z|z
   .exact absurd z h1
   .exact z
end
theorem qq1:∀n,n<1100->∃e,3<=e/\e<=13/\SetTable.sizeAbove (4*n)=2 ^ e/\4*n<SetTable.sizeAbove (4*n):=by
 have:∀n,n<1100->(List.range 14).any (λe=>decide (3<=e)&&(SetTable.sizeAbove (4*n)==2 ^ e)&&decide (4*n<SetTable.sizeAbove (4*n)))=true:=by decide +kernel
 intro n z;obtain⟨e,D,h⟩:=cC.mp (this n z);simp only[b8,eR,fO]at h;exact⟨e,h.1.1,by have:=al.mp D;lia,h.1.2,h.2⟩
theorem Tab.relay {bt:Bool}{t:SetTable}{hs:List Int}(T:Tab bt t hs)(hn:hs.length<1100):∃t2 order,t.relaid hs.toArray (4*hs.length)=some (t2,order)/\order.toList.Perm (List.range hs.length)/\Tab bt t2 (order.toList.map λi=>hs.getD i 0)/\hs.length*4<=t2.mask:=by
 obtain⟨e,e1,e2,e3,e4⟩:=qq1 hs.length hn;have a7:1<=(2:Nat) ^ e:=jA e;obtain⟨owner,f1,o⟩:=Own.fold (t:={ t with mask:=SetTable.sizeAbove (4*hs.length)-1 }) (hs:=hs) (e:=e) (by show SetTable.sizeAbove (4*hs.length)-1+1=_;lia) hs _ 0 (Own.new _ hs) rfl (by show hs.length<=SetTable.sizeAbove (4*hs.length)-1;lia);rw[cW]at f1 o;have lc:SetTable.layClean (SetTable.sizeAbove (4*hs.length)-1) hs.toArray=some owner:=by unfold SetTable.layClean;rw[<-Array.foldl_toList];rw[show hs.toArray.toList=hs from rfl];rw[f1];rfl
 generalize hmask:SetTable.sizeAbove (4*hs.length)-1=mask at lc o f1;have ap:mask+1=2 ^ e:=by lia
 have as:hs.length*4<=mask:=by lia
 let D:List (Nat×Nat):=(List.range (mask+1)).filterMap λj=>(owner.getD j none).map (j,·);have J:∀j v,(j,v)∈D↔owner[j]?=some (some v):=λj v=>by
  show(j,v)∈(List.range (mask+1)).filterMap _↔_;rw[fN];constructor
  .rintro⟨j',_,F⟩;cases q:owner.getD j' none with
   |none=>rw[q]at F;cases F
   |some v' =>
    rw[q]at F;cases F;rw[bX]at q;cases q2:owner[j]? with
    |none=>rw[q2]at q;cases q
    |some y=>rw[q2]at q;exact b7 some q
  .intro F;have Z:=(bQ.mp F).1;rw[o.size]at Z;exact⟨j,al.mpr Z,by rw[bX,F];rfl⟩
 have pw:D.Pairwise λa b=>a.1<b.1:=by
  refine List.pairwise_filterMap.mpr (List.pairwise_lt_range.imp λ{a b} hab x hx y hy=>?_);have an:x.1=a:=by
   cases q:owner.getD a none with
   |none=>rw[q]at hx;cases hx
   |some v=>rw[q]at hx;cases hx;rfl
  have ah:y.1=b:=by
   cases q:owner.getD b none with
   |none=>rw[q]at hy;cases hy
   |some v=>rw[q]at hy;cases hy;rfl
  rw[an,ah];exact hab
 have ab:(D.map (·.2)).Perm (List.range hs.length):=by
  refine qxq (cf.mpr (cB (λ{a b} ha hb hab z=>?_) pw)) gG λv=>?_
  .have:=o.inj a.1 b.1 a.2 ((J _ _).mp ha) (by rw[z];exact(J _ _).mp hb);lia
  .rw[al,az];constructor
   .rintro⟨a,ha,rfl⟩;exact o.low _ _ ((J _ _).mp ha)
   .intro U;obtain⟨j,ej⟩:=o.sur v U;exact⟨(j,v),(J _ _).mpr ej,rfl⟩
 have ad:D.length=hs.length:=by have:=ab.length_eq;rwa [af,ay]at this
 refine⟨{ mask:=mask,place:=(D.map (·.1)).toArray,dummies:=#[],finger:=t.finger,led:=t.led,moves:=t.movedTo mask,plain:=t.plain },(D.map (·.2)).toArray,?_,ab,?_,as⟩
 .unfold SetTable.relaid SetTable.laid;rw[hmask,lc];rfl
 .refine⟨rfl,?_,⟨e,ap,e1,e2⟩,?_,?_,?_,T.led,T.plain⟩
  .show(D.map (·.1)).toArray.size=((D.map (·.2)).toArray.toList.map _).length;simp
  .show((D.map (·.2)).toArray.toList.map _).length<=mask;rw[af,show(D.map (·.2)).toArray.toList=D.map (·.2) from rfl,af,ad];lia
  .intro i j x y a0 ex ey;have ex':(D.map (·.1))[i]?=some x:=by simpa using ex
   have a5:(D.map (·.1))[j]?=some y:=by simpa using ey
   obtain⟨hi,rfl⟩:=am.mp ex';obtain⟨Z,rfl⟩:=am.mp a5;rw[gH,gH];exact ba.mp pw i j _ _ a0
  .intro i h eh;have L:((D.map (·.2)).map λi=>hs.getD i 0)[i]?=some h:=eh;rw[ax,ax]at L;cases q:D[i]? with
   |none=>rw[q]at L;cases L
   |some jv =>
    rw[q]at L;obtain⟨j,v⟩:=jv;have ov:=(J j v).mp (aE q);have U:=o.low j v ov;have a6:hs[v]?=some h:=by have:hs.getD v 0=h:=aq L;rw[ae,aa U]at this;rw[aa U];exact b7 some this
    obtain⟨N,a1,a2,a3⟩:=o.way j v h ov a6;refine⟨N,j,a1,?_,?_,λn hn=>?_⟩
    .show(D.map (·.1)).toArray[i]?=some j;simp[q]
    .have pm:pos { mask:=mask,place:=(D.map (·.1)).toArray,dummies:=#[],finger:=t.finger,led:=t.led,moves:=t.movedTo mask,plain:=t.plain } h N=pos { t with mask:=mask } h N:=qxy (by rfl) h N;exact pm.trans a2
    .obtain⟨v',F⟩:=a3 n hn;obtain⟨W,a4⟩:=dv ((J _ _).mpr F);refine⟨W,?_⟩;show(D.map (·.1)).toArray[W]?=_;have pm:pos { mask:=mask,place:=(D.map (·.1)).toArray,dummies:=#[],finger:=t.finger,led:=t.led,moves:=t.movedTo mask,plain:=t.plain } h n=pos { t with mask:=mask } h n:=qxy (by rfl) h n;have e9:(D.map (·.1)).toArray[W]?=some (pos { t with mask:=mask } h n):=by simp[a4]
     rw[e9,<-pm]
end L2
namespace L2
open PySem PySem.Spec PySem.Calls PySem.W PyProof.Rows
def byT (w:Ah):Bool:=w.params.followText "set-order"
def SAt (w:Ah)(hp:Heap)(S:Aj)(ps:List (Int×Ag)):Prop:=∃o ep t,hp.get? S=some o/\o.ExactSet/\o.data=.set ps.toArray ep t/\Tab (byT w) t (ps.map (·.1))/\ps.length*5<t.mask*3
section
variable {prog:Ac}{w:Ah}{A:Ae}{E:Ag->Ab->Prop}{s:Ab}{S a:Aj}{ps:List (Int×Ag)}{ep:Nat}{t:SetTable}{o:Obj}{k:List Key}{h:Int}
theorem SAt.typeIs (P:SAt w s.heap S ps):s.TypeIs (.ref S) "set" := let ⟨o,_,_,ho,hc,_⟩:=P;⟨o,ho,hc.1⟩
theorem SAt.at_ {hp h':Heap}(P:SAt w hp S ps)(k1:∀o,hp.get? S=some o->h'.get? S=some o):SAt w h' S ps:=let ⟨o,ep,t,ho,r⟩:=P;⟨o,ep,t,k1 o ho,r⟩
theorem Tab.fits' {bt:Bool}(T:Tab bt t (ps.map (·.1))):t.fits ps.toArray.size=true:=by have:=T.fits;simpa using this
theorem wj5 (l:List (Int×Ag))(p:Nat)(x:Int×Ag):(zq l p x).map (·.1)=zq (l.map (·.1)) p x.1:=by unfold zq;simp
theorem wjw (l:List (Int×Ag))(p:Nat)(x:Int×Ag):SetTable.insertAt l.toArray p x=(zq l p x).toArray:=by apply d9.mp;rw[qw5];rfl
theorem Zr (l:List (Int×Ag)):∀(il:List Nat),(∀i∈il,i<l.length)->il.filterMap (λi=>l.toArray[i]?)=il.map λi=>l.getD i (0,.none)
 |[],_=>rfl
 |i::il,hi=>by
  have h1:=hi i (.head _);have e:l.toArray[i]?=some (l.getD i (0,.none)):=by simp[h1]
  rw[d6,e,Zr l il λj z=>hi j (.tail _ z)];rfl
theorem lay_in {Q:Bool->Ab->Prop}{N:Nat}{x:Ag}(ho:s.heap.get? S=some o)(hex:o.ExactSet)(hd:o.data=.set ps.toArray ep t)(T:Tab (byT w) t (ps.map (·.1)))(few:ps.length*5<t.mask*3)(hn:ps.length<1099)
  (hN:N<=10*(t.mask+13)) (he:t.slot (pos t h N)=.empty) (hl:∀n,n<N->∃i:Nat,t.slot (pos t h n)=.live i)
  (hQ:∀h' ps',Heap.SameBut S s.heap h'->SAt w h' S ps'->ps'.Perm ((h,x)::ps)->Q true { s with heap:=h' }) :
  wpAny (model prog w) A (do
   storeSet S (SetTable.insertAt ps.toArray (t.put (pos t h N)).2 (h,x)) (t.put (pos t h N)).1
   if(!false&&(t.put (pos t h N)).1.tooFull)=true then do
    setRelay S (SetTable.grown (ps.toArray.size+1))
    pure true
   else pure true) Q E s:=by
 have ap:100000<=sizeLine:=by decide
 have lm:ps.length=(ps.map (·.1)).length:=by simp
 have bm:=T.big;obtain⟨D,an⟩:=T.put hN he hl (by rw[<-lm];lia);have hm:(t.put (pos t h N)).1.mask=t.mask:=rfl;generalize (t.put (pos t h N)).2=p at D an ⊢;generalize ht1:(t.put (pos t h N)).1=t1 at D hm ⊢;rw[wjw];have pm:=Qj ps p (h,x);have J:=pm.length_eq;rw[aJ]at J;rw[<-wj5 ps p (h,x)]at D;refine ac (gz ho hd ?_ (by rw[av];lia));have L:(s.heap.update S (Obj.putSet (zq ps p (h,x)).toArray t1)).get? S=some { o with data:=.set (zq ps p (h,x)).toArray (ep+1) t1 }:=qj3 ho hd;have U:Heap.SameBut S s.heap (s.heap.update S (Obj.putSet (zq ps p (h,x)).toArray t1)):=cG _ _ _;have fl:t1.fill=ps.length+1:=by unfold SetTable.fill;rw[D.dm,D.pl,af,J];rfl
 generalize s.heap.update S (Obj.putSet (zq ps p (h,x)).toArray t1)=h1 at L U ⊢;show wpAny (model prog w) A _ Q E { s with heap:=h1 };by_cases tf:t1.tooFull=true
 .rw[tf];simp only[ir,jT,cV];refine ac ?_;have gr:SetTable.grown (ps.toArray.size+1)=4*((zq ps p (h,x)).map (·.1)).length:=by unfold SetTable.grown;rw[ar (by rw[av];lia),af,J,av];lia
  obtain⟨F,z,f1,Z,T2,f4⟩:=D.relay (by rw[af,J];lia);rw[gr];unfold setRelay;refine ac (bJ (s:={ s with heap:=h1 }) L rfl D.fits' ?_);dsimp only;have ah:(zq ps p (h,x)).toArray.map (·.1)=((zq ps p (h,x)).map (·.1)).toArray:=by simp
  have sl:¬ SetTable.sizeAbove (4*((zq ps p (h,x)).map (·.1)).length)>sizeLine:=by
   obtain⟨e,e1,e2,e3,e4⟩:=qq1 ((zq ps p (h,x)).map (·.1)).length (by rw[af,J];lia);have b:(2:Nat) ^ e<=2 ^ 13:=du ⋯ e2;have c:(2:Nat) ^ 13=8192:=by decide
   lia
  rw[ar sl,ah,f1];have ab:∀i∈z.toList,i<(zq ps p (h,x)).length:=λi hi=>by have:=al.mp (Z.mem_iff.mp hi);rwa [af]at this
  have oe:z.filterMap (λi=>(zq ps p (h,x)).toArray[i]?)=(z.toList.map λi=>(zq ps p (h,x)).getD i (0,.none)).toArray:=by apply d9.mp;rw[Array.toList_filterMap,Zr _ _ ab]
  have W:(z.toList.map λi=>(zq ps p (h,x)).getD i (0,.none)).length=(zq ps p (h,x)).length:=by rw[af,Z.length_eq,ay,af]
  have op:(z.toList.map λi=>(zq ps p (h,x)).getD i (0,.none)).Perm (zq ps p (h,x)):=by
   refine(Z.map _).trans ?_;rw[af];have:(List.range (zq ps p (h,x)).length).map (λi=>(zq ps p (h,x)).getD i (0,.none))=zq ps p (h,x):=by
    refine cH λi=>?_;rw[ax];by_cases c:i<(zq ps p (h,x)).length
    .rw[bg c];simp[ae,c]
    .rw[aP (by simp;lia),aP ⋯];rfl
   rw[this]
  have om:(z.toList.map λi=>(zq ps p (h,x)).getD i (0,.none)).map (·.1)=z.toList.map λi=>((zq ps p (h,x)).map (·.1)).getD i 0:=by rw[aN];refine bw λi hi=>?_;have:=ab i hi;simp[ae,this]
  rw[<-om]at T2;refine ac ?_;show wpAny (model prog w) A (do
   if(z.filterMap (λi=>(zq ps p (h,x)).toArray[i]?)).size != (zq ps p (h,x)).toArray.size then unsupported "internal:set-table-lost-an-element"
   pure (z.filterMap (λi=>(zq ps p (h,x)).toArray[i]?),F)) _ E _
  rw[oe];have ob:((z.toList.map λi=>(zq ps p (h,x)).getD i (0,.none)).toArray.size != (zq ps p (h,x)).toArray.size)=false:=by rw[av,av,W];simp
  rw[ob];simp only[aD,bA];refine ai ?_;dsimp only;generalize (z.toList.map λi=>(zq ps p (h,x)).getD i (0,.none))=ps2 at T2 op W;refine gz (s:={ s with heap:=h1 }) L rfl ?_ (by rw[av,W];lia);refine ai ?_;have ad:Heap.SameBut S h1 (h1.update S (Obj.putSet ps2.toArray F)):=cG _ _ _;have g2:(h1.update S (Obj.putSet ps2.toArray F)).get? S=some { o with data:=.set ps2.toArray (ep+1+1) F }:=qj3 L rfl;refine hQ _ ps2 (U.trans ad) ⟨_,_,F,g2,hex,rfl,T2,?_⟩ (op.trans pm);rw[af]at f4;lia
 .rw[iY]at tf;rw[tf];simp only[gn,aD,bA];refine ai (hQ h1 _ U ⟨_,_,t1,L,hex,rfl,D,?_⟩ pm);unfold SetTable.tooFull at tf;have:=of_decide_eq_false tf;rw[fl]at this;lia
def KP (prog:Ac)(w:Ah)(hp:Heap)(ps:List (Int×Ag))(ks:List (List Key)):Prop:=Paired (λp k=>∃b,p=((KD prog w).hash k,.ref b)/\(KD prog w).is hp k b) ps ks
theorem KP.get {hp:Heap}{ks:List (List Key)}(K:KP prog w hp ps ks){i:Nat}{p:Int×Ag}(e:ps[i]?=some p):∃k' b,ks[i]?=some k'/\p=((KD prog w).hash k',.ref b)/\(KD prog w).is hp k' b:=by
 unfold KP at K
 induction K generalizing i with
 |nil=>simp at e
 |cons r t ih =>
  cases i with
  |zero =>
   obtain⟨b,D,z⟩:=r;simp at e;subst e;exact⟨_,b,rfl,D,z⟩
  |succ i=>exact ih (by simpa using e)
theorem KP.len {hp:Heap}{ks:List (List Key)}(K:KP prog w hp ps ks):ps.length=ks.length:=b9 K
inductive MetP (t:SetTable) (ha:Nat->Int) (h:Int) (p:SetTable.Probe) (N:Nat):SetTable.Met->Prop
 |empty (hs:t.slot (zj t N p).j=.empty):MetP t ha h p N (.empty (zj t N p).j none)
 |cand (m i:Nat) (hm:m<=N) (hs:t.slot (zj t m p).j=.live i) (hh:ha i=h):MetP t ha h p N (.candidate (zj t m p).j i (zj t (m+1) p))
theorem qqq {ha:Nat->Int}:∀N fuel p,N<fuel->p.dummy=none->(∀n,n<N->∃i:Nat,t.slot (zj t n p).j=.live i)->(t.slot (zj t N p).j=.empty\/∃i:Nat,t.slot (zj t N p).j=.live i/\ha i=h)->∃m,SetTable.probe.go t ha h fuel p=some m/\MetP t ha h p N m
 |N,0,p,hf,_,_,_=>absurd hf (gX _)
 |0,fuel+1,p,_,hp,_,hs=>by
  unfold SetTable.probe.go;rcases hs with hs|⟨i,hs,hh⟩
  .have hs':t.slot p.j=.empty:=hs;rw[hs',hp];exact⟨_,rfl,.empty (p:=p) hs⟩
  .have hs':t.slot p.j=.live i:=hs;rw[hs'];dsimp only;rw[aw (fO.mpr hh)];exact⟨_,rfl,.cand (p:=p) 0 i (ak _) hs hh⟩
 |N+1,fuel+1,p,hf,hp,hl,hs=>by
  unfold SetTable.probe.go;obtain⟨i,c⟩:=hl 0 (eE _);have c':t.slot p.j=.live i:=c;rw[c'];dsimp only;by_cases q:(ha i==h)=true
  .rw[aw q];exact⟨_,rfl,.cand (t:=t) (p:=p) 0 i (aQ _) c (fO.mp q)⟩
  .rw[ar q];obtain⟨m,e,ok⟩:=qqq (ha:=ha) N fuel (t.advance p) ⋯ ((qjx t p).trans hp) (λn hn=>hl (n+1) ⋯) hs;refine⟨m,e,?_⟩;cases ok with
   |empty hs=>exact .empty (p:=p) hs
   |cand m i hm hs hh=>exact .cand (t:=t) (p:=p) (m+1) i ⋯ hs hh
theorem wxn {ks:List (List Key)}(ho:s.heap.get? S=some o)(hd:o.data=.set ps.toArray ep t)(T:Tab (byT w) t (ps.map (·.1)))(K:KP prog w s.heap ps ks)(hx:(KD prog w).is s.heap k a)(hu:A.units<cLine){Q:SetFound->Ab->Prop}
  (hQ1:k∈ks->Q (.there none) s):∀(N fuel:Nat) (stand:Option SetTable.Probe),N<fuel->N<10*SetTable.turns t.mask->(stand.getD (t.probeStart ((KD prog w).hash k))).dummy=none ->
   (∀n,n<N->∃i:Nat,t.slot (zj t n (stand.getD (t.probeStart ((KD prog w).hash k)))).j=.live i) ->
   (t.slot (zj t N (stand.getD (t.probeStart ((KD prog w).hash k)))).j=.empty\/∃i:Nat,t.slot (zj t N (stand.getD (t.probeStart ((KD prog w).hash k)))).j=.live i/\ks[i]?=some k) ->
   (t.slot (zj t N (stand.getD (t.probeStart ((KD prog w).hash k)))).j=.empty->Q (.free (zj t N (stand.getD (t.probeStart ((KD prog w).hash k)))).j false) s) ->
   wpAny (model prog w) A (setSearchFrom S (.ref a) ((KD prog w).hash k) true fuel stand) Q E s:=by
 intro N
 induction N using Nat.strongRecOn with
 |_ N ih =>
  intro fuel stand hf hT hp hl hs hQ2;obtain⟨fuel,rfl⟩:∃f,fuel=f+1:=⟨fuel-1,⋯⟩;unfold setSearchFrom;refine ac (bJ ho hd T.fits' ?_);dsimp only;have gw:t.gaveWay=false:=by unfold SetTable.gaveWay;obtain⟨e,h1,h2,_⟩:=T.pw;obtain⟨e',rfl⟩:∃e',e=e'+1:=⟨e-1,⋯⟩;rw[dj]at h1;simp only[cD];lia
  rw[gw];simp only[aD,bA];have hashAt:∀(i:Nat) (k':List Key),ks[i]?=some k'->∀(p:Int×Ag),ps[i]?=some p->p.1=(KD prog w).hash k':=λi k' ek p e=>by obtain⟨k2,b,e1,e2,_⟩:=K.get e;rw[ek]at e1;cases e1;rw[e2]
  have inP:∀ {j i:Nat},t.slot j=.live i->i<ps.length:=λ{j i} e=>by have:=(bQ.mp (Jc e)).1;rw[T.pl,af]at this;exact this
  have key:∀ha:Nat->Int,(∀(i:Nat) (p:Int×Ag),ps[i]?=some p->ha i=p.1)->∃m,t.probe ha ((KD prog w).hash k) (stand.getD (t.probeStart ((KD prog w).hash k)))=some m/\MetP t ha ((KD prog w).hash k) (stand.getD (t.probeStart ((KD prog w).hash k))) N m:=λha hha=>by
   refine qqq N _ _ hT hp hl ?_;rcases hs with hs|⟨i,hs,ek⟩
   .exact .inl hs
   .have hi:=inP hs;have e:=aa hi;exact .inr ⟨i,hs,(hha i _ e).trans (hashAt i k ek _ e)⟩
  split
  .rename_i met hm;obtain⟨m',e1,ok⟩:=key _ (λi p e=>by
    show(ps.toArray[i]?.map (·.1)).getD 0=p.1
    have:ps.toArray[i]?=some p:=by simpa using e
    rw[this]
    rfl)
   obtain rfl:m'=met:=aq (e1.symm.trans hm);cases ok with
   |empty hs'=>exact ai (hQ2 hs')
   |cand m i hm' hsl hh =>
    have hi:=inP hsl;obtain⟨k',b,ek,eb,hb⟩:=K.get (aa hi);have ei:ps.toArray[i]?=some ((KD prog w).hash k',.ref b):=by rw[<-eb];simp[hi]
    have rest:wpAny (model prog w) A (do
      let some (_,y):=ps.toArray[i]? | unsupported "internal:set-entry"
      let equal <-holding [y] (eqBool y (.ref a))
      let (es',_,t') <-setState S
      if true&&equal then return .there none
      let some sm0:=t'.sameMemory t.moves t.mask | unsupported "set.changed-during-lookup:is-the-new-block-at-the-old-address"
      let still <-match (if sm0 then t'.slot (zj t m (stand.getD (t.probeStart ((KD prog w).hash k)))).j else .empty) with
       |.live i'=>match es'[i']? with
        |some (_,y')=>do pure (if <-isSame y' y then some i' else none)
        |none=>pure none
       |_=>pure none
      match still with
      |none=>rule "set.search.anew";setSearchFrom S (.ref a) ((KD prog w).hash k) true fuel none
      |some i'=>if equal then return .there (some i') else setSearchFrom S (.ref a) ((KD prog w).hash k) true fuel (some (zj t (m+1) (stand.getD (t.probeStart ((KD prog w).hash k)))))) Q E s:=by
     rw[ei];dsimp only;refine ac (cg ((KD prog w).eqBool hu hb hx ?_));refine ac (bJ ho hd T.fits' ?_);by_cases ce:k'=k
     .rw[aF ce];simp only[jT,cV];exact ai (hQ1 (by rw[<-ce];exact aE ek))
     .rw[aT ce];have sm:t.sameMemory t.moves t.mask=some true:=by simp[SetTable.sameMemory]
      simp only[gn,aD,bA,sm,cV,hsl,ei];refine ac ?_;refine xq3 ?_;simp only[cV];refine ac (ai ?_);have mN:m<N:=by
       rcases bF m N with z|z
       .exact z
       .obtain rfl:m=N:=by lia
        rcases hs with hs|⟨i0,hs,ek0⟩
        .rw[hs]at hsl;cases hsl
        .rw[hs]at hsl;cases hsl;rw[ek0]at ek;cases ek;exact absurd rfl ce
      have sh:∀n,zj t n (zj t (m+1) (stand.getD (t.probeStart ((KD prog w).hash k))))=zj t (m+1+n) (stand.getD (t.probeStart ((KD prog w).hash k))):=λn=>(W4 t n (m+1) _).symm;refine ih (N-(m+1)) ⋯ fuel (some (zj t (m+1) (stand.getD (t.probeStart ((KD prog w).hash k))))) ⋯ ⋯ ?_ (λn hn=>?_) ?_ ?_
      .show(zj t (m+1) _).dummy=none;rw[qx7];exact hp
      .show ∃i:Nat,t.slot (zj t n (zj t (m+1) _)).j=.live i;rw[sh];exact hl _ ⋯
      .show t.slot (zj t (N-(m+1)) (zj t (m+1) _)).j=.empty\/∃i:Nat,t.slot (zj t (N-(m+1)) (zj t (m+1) _)).j=.live i/\_;rw[sh,show m+1+(N-(m+1))=N by lia];exact hs
      .show t.slot (zj t (N-(m+1)) (zj t (m+1) _)).j=.empty->Q (.free (zj t (N-(m+1)) (zj t (m+1) _)).j false) s;rw[sh,show m+1+(N-(m+1))=N by lia];exact hQ2
    dsimp only;cases t.led with
    |true=>exact rest
    |false =>
     simp only[ir,cV];refine ac (xjb hx ?_ _ λy hy=>?_)
     .simp only[aD,bA];exact rest
     .obtain⟨p,hp',rfl⟩:=az.mp hy;have hp2:p∈ps:=by have:=gM.mp hp';simpa using Array.mem_of_mem_filter this
      obtain⟨i2,e2⟩:=dv hp2;obtain⟨k2,b2,_,e3,h2⟩:=K.get e2;exact⟨k2,b2,by rw[e3],h2⟩
  .rename_i hm;obtain⟨m',e1,_⟩:=key _ (λi p e=>by
    show(ps.toArray[i]?.map (·.1)).getD 0=p.1
    have:ps.toArray[i]?=some p:=by simpa using e
    rw[this]
    rfl)
   exact(hm _ e1).elim
theorem xqv {Q:Bool->Ab->Prop}{n:Nat}{items:List Ag}{m:Nat}(hx:(KD prog w).is s.heap k a)(ho:s.heap.get? a=some o)(hd:o.data=.seq items.toArray m)(hi:∀v∈items,∃i t,v=Value.int i t)(hQ:Q true s):wpAny (model prog w) A (hashByValue (n+1) (.ref a)) Q E s:=by
 have D:s.TypeIs (.ref a) "tuple" := IsTupleKey.typeIs hx;unfold hashByValue;refine ac (jC D PySem.F.slot_tuple_hash.lookup ?_);dsimp only;refine ac (iq ho hd ?_);refine ac ?_;show wpAny _ _ (forIn items.toArray _ _) _ _ s;rw[<-fR];refine iX _ (λrest r s'=>r.1=none/\s'=s/\∀v∈rest,∃i t,v=Value.int i t) _ ?_ ?_ _ _ ⟨rfl,rfl,by simpa using hi⟩
 .rintro v rest r s' ⟨hr,rfl,hall⟩;obtain⟨i,t,rfl⟩:=hall v dN;have J:hashByValue n (.int i t)=pure true:=by cases n <;> rfl
  rw[J];refine ac (ai ?_);exact ai ⟨rfl,rfl,λu z=>hall u (bG _ z)⟩
 .rintro⟨U,L⟩ s' ⟨hr,rfl,_⟩;simp only at hr;subst hr;exact ai hQ
theorem xxp {ks:List (List Key)}{items:List Ag}{m:Nat}{oa:Obj}{Q:Bool->Ab->Prop}(P:SAt w s.heap S ps)(K:KP prog w s.heap ps ks)(hx:(KD prog w).is s.heap k a)(hoa:s.heap.get? a=some oa)(hda:oa.data=.seq items.toArray m)(hi:∀v∈items,∃i t,v=Value.int i t)
  (hu:A.units<cLine) (hn:ps.length<1099) (hQ1:k∈ks->∀tk,Q false { s with toks:=tk }) (hQ2:k∉ks->∀h' tk ps',Heap.SameBut S s.heap h'->SAt w h' S ps'->ps'.Perm (((KD prog w).hash k,.ref a)::ps)->Q true { s with heap:=h',toks:=tk }) :
  wpAny (model prog w) A (setAdd S (.ref a)) Q E s:=by
 obtain⟨o,ep,t,F,ad,J,T,ah⟩:=P;have bm:=T.big;unfold setAdd;refine cg (ac ((KD prog w).pyHash hu hx ?_));generalize s.toks+(KD prog w).draws k=tk;unfold setAddHashed;refine cg ?_;unfold setAddHashedIn;refine ac (bJ (s:={ s with toks:=tk }) F J T.fits' ?_);dsimp only;have bs:byScan (.ref a) ps.toArray=false:=by simp[byScan,Value.scannable]
 rw[bs];simp only[aD,bA];refine ac ?_;unfold setSearch;by_cases ck:k∈ks
 .obtain⟨i,U⟩:=dv ck;have ab:i<ps.length:=by rw[K.len];exact(am.mp U).1
  obtain⟨k',b,e1,e2,_⟩:=K.get (aa ab);rw[U]at e1;cases e1;obtain⟨N,j,r1,L,D,r4⟩:=T.reach i ((KD prog w).hash k) (by rw[ax,aa ab,e2];rfl);have Z:=qyh T.rise L;refine wxn (s:={ s with toks:=tk }) F J T K hx hu (λ_=>?_) N 100000 none ⋯ (by unfold SetTable.turns;lia) rfl (λn hn=>?_) (.inr ⟨i,?_,U⟩) λz=>?_
  .exact ai (hQ1 ck tk)
  .obtain⟨i',e'⟩:=r4 n hn;exact⟨i',qyh T.rise e'⟩
  .show t.slot (pos t ((KD prog w).hash k) N)=_;rw[D];exact Z
  .have W:t.slot (pos t ((KD prog w).hash k) N)=.empty:=z;rw[D,Z]at W;cases W
 .obtain⟨N,r1,L,D⟩:=T.free ((KD prog w).hash k);refine wxn (s:={ s with toks:=tk }) F J T K hx hu (λz=>absurd z ck) N 100000 none ⋯ (by unfold SetTable.turns;lia) rfl (λn hn=>D n hn) (.inl L) λ_=>?_;dsimp only;refine ac (bJ (s:={ s with toks:=tk }) F J T.fits' ?_);dsimp only;have pt:(t.put (pos t ((KD prog w).hash k) N)).1.plain=true:=T.plain;show wpAny (model prog w) A (do
   let an <-if(t.put (pos t ((KD prog w).hash k) N)).1.plain=true then hashByValue 8 (.ref a) else pure true
   _) Q E { s with toks:=tk }
  rw[aw pt];refine ac (xqv (s:={ s with toks:=tk }) hx hoa hda hi ?_);exact lay_in (s:={ s with toks:=tk }) (w:=w) F ad J T ah hn r1 L D λh' ps' sb P' pm=>hQ2 ck h' tk ps' sb P' pm
end
end L2
namespace L2
open PySem PySem.Spec PySem.Calls PySem.W PyProof.Rows
theorem slot_setit_next:Slot "set_iterator" "__next__" "set_iterator.__next__" := .of (owner := "set_iterator") (n := "__next__") (by rw[typeLookup_type,builtinLookup_eq_fast];kernel_rfl) (by decide +kernel) (by decide +kernel) (by decide +kernel) (by first | exact .inl (by decide +kernel) | exact .inr (by decide +kernel)) (by rw[isSubtype_type];kernel_rfl)
theorem Q5:Slot "set_iterator" "__iter__" "set_iterator.__iter__" := .of (owner := "set_iterator") (n := "__iter__") (by rw[typeLookup_type,builtinLookup_eq_fast];kernel_rfl) (by decide +kernel) (by decide +kernel) (by decide +kernel) (by first | exact .inl (by decide +kernel) | exact .inr (by decide +kernel)) (by rw[isSubtype_type];kernel_rfl)
theorem Qk:entryFor table "set_iterator.__next__" = some Builtin.«set_iterator.__next__»:=entryFor_of_tree (by kernel_rfl)
theorem qqb:entryFor table "set_iterator.__iter__" = some Builtin.«dict_keyiterator.__iter__»:=entryFor_alias (id' := "dict_keyiterator.__iter__") (by kernel_rfl) rfl (by decide +kernel) (by kernel_rfl)
theorem qzu:entryFor table "set.__iter__" = some Builtin.«frozenset.__iter__»:=entryFor_alias (id' := "frozenset.__iter__") (by kernel_rfl) rfl (by decide +kernel) (by kernel_rfl)
theorem qqn:Manifest.owners.lookup (String.ofList ['r','o','t','a','r','e','t','i','_','t','e','s'].reverse)=some Manifest.sig_set_iterator:=by kernel_rfl
theorem Wq (a:Ag):argsOk "set_iterator.__next__" ⟨[a],[]⟩:=by(unfold argsOk;rw[signature?_of (id := "set_iterator.__next__") (n:=['_','_','t','x','e','n','_','_']) (o:=['r','o','t','a','r','e','t','i','_','t','e','s']) (by kernel_rfl) qqn];kernel_rfl)
theorem qwq (a:Ag):argsOk "set_iterator.__iter__" ⟨[a],[]⟩:=by(unfold argsOk;rw[signature?_of (id := "set_iterator.__iter__") (n:=['_','_','r','e','t','i','_','_']) (o:=['r','o','t','a','r','e','t','i','_','t','e','s']) (by kernel_rfl) qqn];kernel_rfl)
theorem wj4 {α:Type}(nx:Nat->Nat):∀(f k:Nat) (left:List α) (out:Array α),left.length=f->(pickOrder.go nx f k left out).toList.Perm (out.toList++left)
 |0,k,left,out,h=>by have:left=[]:=dt h;subst this;unfold pickOrder.go;simp
 |f+1,k,left,out,h=>by have hi:nx k%left.length<left.length:=eW _ ⋯;unfold pickOrder.go;rw[aa hi];dsimp only;refine(wj4 nx f (k+1) (left.eraseIdx (nx k%left.length)) _ (by rw[List.length_eraseIdx,aw hi];lia)).trans ?_;rw[iF,iK];refine List.Perm.append_left _ ?_;rw[List.singleton_append];rw[List.eraseIdx_eq_take_drop_succ];refine List.perm_middle.symm.trans ?_;rw[<-fu hi,gD]
def wk (w:Ah)(S:Aj)(ep:Nat)(ps:List (Int×Ag)):List (Int×Ag):=if byT w=true then(pickOrder (w.params.setOrder S ep) ps.toArray).toList else ps
theorem qwp (w:Ah)(S:Aj)(ep:Nat)(ps:List (Int×Ag)):(wk w S ep ps).Perm ps:=by
 unfold wk;split
 .unfold pickOrder;exact(wj4 _ _ _ _ _ (by simp)).trans (by simp)
 .exact .refl _
def SRaw (h:Heap)(S:Aj)(ps:List (Int×Ag))(ep:Nat)(t:SetTable):Prop:=∃o,h.get? S=some o/\o.ExactSet/\o.data=.set ps.toArray ep t
def SIt (h:Heap)(it S:Aj)(slot i n ep:Nat):Prop:=∃o,h.get? it=some o/\o.cls=.type "set_iterator" /\ o.data=.fields #[.int slot 0,.int i 0,.ref S,.int n 0,.int ep 0]
theorem SRaw.at {h h':Heap}{S:Aj}{ps:List (Int×Ag)}{ep:Nat}{t:SetTable}(x:SRaw h S ps ep t)(k:∀o,h.get? S=some o->h'.get? S=some o):SRaw h' S ps ep t:=let ⟨o,e,r⟩:=x;⟨o,k o e,r⟩
theorem SIt.at {h h':Heap}{it S:Aj}{slot i n ep:Nat}(x:SIt h it S slot i n ep)(k:∀o,h.get? it=some o->h'.get? it=some o):SIt h' it S slot i n ep:=let ⟨o,e,r⟩:=x;⟨o,k o e,r⟩
section
variable {prog:Ac}{w:Ah}{A:Ae}{E:Ag->Ab->Prop}{s:Ab}{S it:Aj}{ps:List (Int×Ag)}{ep:Nat}{t:SetTable}
theorem SIt.ty {slot i n:Nat}(x:SIt s.heap it S slot i n ep):s.TypeIs (.ref it) "set_iterator" := let ⟨o,e,r⟩:=x;⟨o,e,r.1⟩
theorem SRaw.ty (x:SRaw s.heap S ps ep t):s.TypeIs (.ref S) "set" := let ⟨o,e,r⟩:=x;⟨o,e,r.1.1⟩
theorem Jg {Q:Bool->Ab->Prop}(h:Q (byT w) s):wpAny (model prog w) A setsByText Q E s:=by unfold setsByText;exact ac (fk (ai h))
theorem wyt {slot i:Nat}{Q:Option (Ag×Nat)->Ab->Prop}(R:SRaw s.heap S ps ep t)(T:Tab (byT w) t (ps.map (·.1)))(hs:byT w=false->SetTable.below t.place slot=i){p:Int×Ag}(hp:(wk w S ep ps)[i]?=some p)
  (hQ:∀nx:Nat,(byT w=false->SetTable.below t.place nx=i+1)->Q (some (p.2,nx)) s):wpAny (model prog w) A (setNext S slot i ep) Q E s:=by
 obtain⟨o,D,ab,F⟩:=R;unfold setNext;refine ac (bJ D F T.fits' ?_);dsimp only;refine ac (Jg ?_);cases hb:byT w with
 |true =>
  rw[hb]at hs hQ;simp only[cV,eT,aD,bA];refine ac ?_;unfold setWalk;refine ac (bJ D F T.fits' ?_);dsimp only;refine ac (Jg ?_);rw[hb];simp only[cV];refine ac (fk (ai ?_));unfold wk at hp;rw[aw hb,bL]at hp;show wpAny _ _ (pure (((pickOrder (w.params.setOrder S ep) ps.toArray)[i]?).map _)) _ _ _;rw[hp];exact ai (hQ slot λz=>by cases z)
 |false =>
  rw[hb]at hs hQ;simp only[aD,bA];refine fL (λW=>absurd W ?_) (λ_=>?_)
  .show ¬ ((!t.plain&&decide (ps.toArray.size>1))=true);rw[T.plain];simp
  .refine ac ?_;show wpAny _ _ (if(!t.led&&!ps.toArray.isEmpty)=true then _ else _) _ _ s;have U:t.led=true:=by rw[T.led,hb];rfl
   rw[U];simp only[fG,jG,aD,bA];refine ai ?_;unfold wk at hp;rw[ar (by rw[hb];exact aI)]at hp;have hi:=(am.mp hp).1;have Z:ps.toArray[i]?=some (p.1,p.2):=by simpa using hp
   have L:i<t.place.size:=by rw[T.pl,af];exact hi
   have J:t.place[i]?=some t.place[i]:=aZ L;rw[hs rfl,Z,J];exact ai (hQ _ λ_=>wzc T.rise J)
theorem xzy {slot i:Nat}{Q:Option (Ag×Nat)->Ab->Prop}(R:SRaw s.heap S ps ep t)(T:Tab (byT w) t (ps.map (·.1)))(hs:byT w=false->SetTable.below t.place slot=i)(hp:ps.length<=i)
  (hQ:Q none s):wpAny (model prog w) A (setNext S slot i ep) Q E s:=by
 obtain⟨o,D,W,F⟩:=R;unfold setNext;refine ac (bJ D F T.fits' ?_);dsimp only;refine ac (Jg ?_);cases hb:byT w with
 |true =>
  simp only[cV,eT,aD,bA];refine ac ?_;unfold setWalk;refine ac (bJ D F T.fits' ?_);dsimp only;refine ac (Jg ?_);rw[hb];simp only[cV];refine ac (fk (ai ?_));have z:=(qwp w S ep ps).length_eq;unfold wk at z;rw[aw hb,bc]at z;show wpAny _ _ (pure (((pickOrder (w.params.setOrder S ep) ps.toArray)[i]?).map _)) _ _ _;rw[dG (by rw[z];exact hp)];exact ai hQ
 |false =>
  rw[hb]at hs;simp only[aD,bA];refine fL (λL=>absurd L ?_) (λ_=>?_)
  .show ¬ ((!t.plain&&decide (ps.toArray.size>1))=true);rw[T.plain];simp
  .refine ac ?_;show wpAny _ _ (if(!t.led&&!ps.toArray.isEmpty)=true then _ else _) _ _ s;have J:t.led=true:=by rw[T.led,hb];rfl
   rw[J];simp only[fG,jG,aD,bA];refine ai ?_;have U:ps.toArray[i]?=none:=dG (by rw[av];exact hp);rw[hs rfl,U];exact ai hQ
theorem wx4 {slot i:Nat}{p:Int×Ag}{Q:Option Ag->Ab->Prop}(hit:SIt s.heap it S slot i ps.length ep)(R:SRaw s.heap S ps ep t)(T:Tab (byT w) t (ps.map (·.1)))(hs:byT w=false->SetTable.below t.place slot=i)(hp:(wk w S ep ps)[i]?=some p)
  (hQ:∀h' nx,SIt h' it S nx (i+1) ps.length ep->(byT w=false->SetTable.below t.place nx=i+1)->Heap.SameBut it s.heap h'->Q (some p.2) { s with heap:=h' }):wpAny (model prog w) A (pyNext (.ref it)) Q E s:=by
 obtain⟨o,D,hc,z⟩:=id hit;obtain⟨oS,W,ad,ab⟩:=id R;unfold pyNext;refine ac (eN (dA (name:=Str.ofString "__next__") hit.ty slot_setit_next (cT slot_setit_next hit.ty Qk ?_ (Wq _))));unfold Builtin.«set_iterator.__next__»;refine ac (ai ?_);refine ac (iu D z ?_);dsimp only;refine ac ?_;unfold setEntries;refine ac (bJ W ab T.fits' (ai ?_));dsimp only;rw[ar (by rw[av];simp)];rw[bP,bP,bP];refine ac (wyt R T hs hp λnx Z=>?_);dsimp only;refine ac (gA D z (by simp) ?_);have F:=de (Obj.mapFields (·.setIfInBounds 0 (rawInt (nx:Int)))) D (gE (dP z _));have J:=dP z (·.setIfInBounds 0 (rawInt (nx:Int)));have L:Heap.SameBut it s.heap (s.heap.update it (Obj.mapFields (·.setIfInBounds 0 (rawInt (nx:Int))))):=cG ..;generalize s.heap.update it (Obj.mapFields (·.setIfInBounds 0 (rawInt (nx:Int))))=h1 at F L ⊢;refine ac (gA (s:={ s with heap:=h1 }) F J (by simp) ?_);have g2:=de (Obj.mapFields (·.setIfInBounds 1 (rawInt ((i:Int)+1)))) F (gE (dP J _));have d2:=dP J (·.setIfInBounds 1 (rawInt ((i:Int)+1)));have U:Heap.SameBut it h1 (h1.update it (Obj.mapFields (·.setIfInBounds 1 (rawInt ((i:Int)+1))))):=cG ..;refine ai ⟨_,rfl,ai (hQ _ nx ⟨_,g2,((iL ..).trans (iL ..)).trans hc,by rw[d2];simp[rawInt]⟩ Z (L.trans U))⟩
theorem wub {slot i:Nat}{Q:Option Ag->Ab->Prop}(hh:A.handled=none)(hit:SIt s.heap it S slot i ps.length ep)(R:SRaw s.heap S ps ep t)(T:Tab (byT w) t (ps.map (·.1)))(hs:byT w=false->SetTable.below t.place slot=i)(hp:ps.length<=i)
  (hQ:∀h',Heap.ExtBut it s.heap h'->Q none { s with heap:=h' }):wpAny (model prog w) A (pyNext (.ref it)) Q E s:=by
 obtain⟨o,z,W,D⟩:=id hit;obtain⟨L,F,U,J⟩:=id R;unfold pyNext;refine ac (eN (dA (name:=Str.ofString "__next__") hit.ty slot_setit_next (cT slot_setit_next hit.ty Qk ?_ (Wq _))));unfold Builtin.«set_iterator.__next__»;refine ac (ai ?_);refine ac (iu z D ?_);dsimp only;refine ac ?_;unfold setEntries;refine ac (bJ F J T.fits' (ai ?_));dsimp only;rw[ar (by rw[av];simp)];rw[bP,bP,bP];refine ac (xzy R T hs hp ?_);dsimp only;refine ac (gA z D (by simp) ?_);refine ac ?_;simp only[newExc,newTuple];(refine ac (ca ?_ (by size_fits)) ;refine ac (m:=firstArgMember _ _) (wpAny_of_eq (a:=Value.none) (by first | rfl | (simp only[firstArgMember];rfl)) ?_) ;refine ca ?_ (by size_fits) ;simp only[raiseNew] ;refine ac (wpAny_handled ?_) ;rw[show A.in1.handled=none from hh] ;refine ac (ai (wpAny_throw ?_)));refine ac (iZ (T := "StopIteration") (b:=true) ⟨_,aA _ rfl,rfl⟩ isSubtype_stop (ai (hQ _ (((cG ..).extBut.push _).push _))))
theorem wvr {slot i:Nat}{Q:Ag->Ab->Prop}(hit:SIt s.heap it S slot i ps.length ep)(h:Q (.ref it) s):wpAny (model prog w) A (pyIter (.ref it)) Q E s:=by refine iM hit.ty Q5 (cT Q5 hit.ty qqb ?_ (qwq _));show wpAny _ _ (ret (.ref it)) _ _ s;exact ai ⟨_,rfl,"set_iterator",_,hit.ty,slot_setit_next.lookup,h⟩
theorem xxm {Q:Ag->Ab->Prop}(R:SRaw s.heap S ps ep t)(T:Tab (byT w) t (ps.map (·.1)))
  (hQ:Q (.ref s.heap.objs.size) { s with heap:=s.heap.push { cls:=.type "set_iterator",data:=.fields #[.int 0 0,.int 0 0,.ref S,.int ps.length 0,.int ep 0] } }):wpAny (model prog w) A (pyIter (.ref S)) Q E s:=by
 obtain⟨U,z,W,D⟩:=id R;refine iM R.ty F.slot_set_iter (cT F.slot_set_iter R.ty qzu ?_ (F.args_set_iter_1 _));unfold Builtin.«frozenset.__iter__»;refine ac ?_;unfold Builtin.Frozenset.slot0;refine ac (ai ?_);show wpAny _ _ (pure S) _ _ s;refine ai ?_;refine ac ?_;unfold Builtin.Frozenset.sizeOf setEntries;refine ac (ac (bJ z D T.fits' (ai (ai ?_))));dsimp only;refine ac ?_;unfold setDrawn;refine ac (bJ z D T.fits' ?_);dsimp only;refine ac (Jg (ai ?_));have J:∀b:Bool,(b&&(!t.plain&&decide (ps.toArray.size>1)))=false:=λb=>by rw[T.plain];simp
 refine fL (λL=>?_) (λ_=>?_)
 .have:(!byT w&&(!t.plain&&decide (ps.toArray.size>1)))=true:=L;rw[J]at this;cases this
 .refine ac (ai ?_);refine ac (wpAny_setEpoch_of z D T.fits' ?_);refine ac (ca (ai ⟨_,rfl,"set_iterator",_,⟨_,aA _ rfl,rfl⟩,slot_setit_next.lookup,?_⟩));simpa [rawInt] using hQ
theorem xqf (hh:A.handled=none)(I:Aj)(hne:S≠I)(T:Tab (byT w) t (ps.map (·.1))):Walks prog w A I [I,S] [I] ps.length (λi v=>∃p,(wk w S ep ps)[i]?=some p/\v=p.2) (λi h=>(∃slot,SIt h I S slot i ps.length ep/\(byT w=false->SetTable.below t.place slot=i))/\SRaw h S ps ep t) where
 sub:=λb hb=>by simp at hb;simp[hb]
 frame:=λ_ _ _ ⟨⟨sl,a,b⟩,c⟩ hk=>⟨⟨sl,a.at λo e=>hk I (by simp) o e,b⟩,c.at λo e=>hk S (by simp) o e⟩
 item:=λi s Q E hi ⟨⟨sl,a,b⟩,c⟩ hQ=>by have hl:=(qwp w S ep ps).length_eq;have hx:=aa (l:=wk w S ep ps) (i:=i) ⋯;exact wx4 a c T b hx λh' nx it' nx' sb=>hQ _ h' s.toks ⟨_,hx,rfl⟩ ⟨⟨nx,it',nx'⟩,c.at λo e=>sb.extBut S o hne e⟩ λb o hb e=>sb.extBut b o (λh=>hb (by simp[h])) e
 done:=λs Q E ⟨⟨sl,a,b⟩,c⟩ hQ=>wub hh a c T b (ak _) λh' eb=>hQ h' s.toks λb o hb e=>eb b o (λh=>hb (by simp[h])) e
 self:=λ_ _ _ _ ⟨⟨sl,a,b⟩,c⟩ hQ=>wvr a hQ
theorem xq6 {Q:Bool->Ab->Prop}(hT:s.TypeIs (.ref S) "set")(h:Q false s):wpAny (model prog w) A (Builtin.List.listLengthHint (.ref S)) Q E s:=by unfold Builtin.List.listLengthHint;refine ac (jC hT F.slot_set_len.lookup ?_);generalize hid:("set.__len__" : String)=id0;wp_delta;rw[show splitId id0=some ("set","__len__") from by subst hid;decide +kernel];subst hid;(refine ac (iZ (T := "set") (b:=true) hT (by rw[isSubtype_type];kernel_rfl) ?_) ;refine fL (λz=>absurd z ⋯) (λ_=>?_) ;refine fL (λ_=>?_) (λz=>absurd (by decide +kernel) z));refine ac (wpAny_typeOf hT ?_);exact ai h
theorem xj7 (T:Tab (byT w) t (ps.map (·.1))):KdlSrc prog w "set" S S ps.length (λi v=>∃p,(wk w S ep ps)[i]?=some p/\v=p.2) (λh=>SRaw h S ps ep t) where
 type:=λ_ hm=>hm.ty
 there:=λ_ hm=>let ⟨_,e,_⟩:=hm;⟨ao e,ao e⟩
 keep:=λ_ _ hm hk=>hm.at λo e=>hk S (.inl rfl) o e
 notList:=by decide
 notTuple:=by decide
 hint:=λ_ _ _ _ hm hq=>xq6 hm.ty hq
 iter:=λ_ _ hh hm=>⟨_,_,(λ_ _ hq=>xxm hm T hq),xqf hh _ (let ⟨_,e,_⟩:=hm;aB (ao e)) T,⟨⟨0,⟨_,aA _ rfl,rfl,rfl⟩,λ_=>wx9 T.rise⟩,hm.at λo e=>ag _ e⟩⟩
end
end L2
namespace L2
open PySem PySem.Spec PyProof.Rows PySem.W
def RawD (h:Heap)(d:Aj)(es:Array DictEntry)(ep:Nat):Prop:=∃o,h.get? d=some o/\o.ExactDict/\o.data=.dict es ep
section
variable {prog:Ac}{w:Ah}{A:Ae}{E:Ag->Ab->Prop}{s:Ab}{d:Aj}{es:Array DictEntry}{ep:Nat}
theorem RawD.ty {s:Ab}(x:RawD s.heap d es ep):s.TypeIs (.ref d) "dict" := let ⟨o,ho,hc,_⟩:=x;⟨o,ho,hc.1⟩
theorem RawD.lt {h:Heap}(x:RawD h d es ep):d<h.objs.size:=let ⟨_,ho,_⟩:=x;ao ho
theorem RawD.at {h h':Heap}(x:RawD h d es ep)(k:∀o,h.get? d=some o->h'.get? d=some o):RawD h' d es ep:=let ⟨o,ho,r⟩:=x;⟨o,k o ho,r⟩
theorem xwh {Q:Ag->Ab->Prop}(hd:(d==sysModules)=false)(hm:RawD s.heap d es ep)
  (hQ:Q (.ref s.heap.objs.size) { s with heap:=s.heap.push { cls:=.type "dict_keyiterator",data:=.fields #[.ref d,.int 0 0,.int es.size 0,.int ep 0] } }):wpAny (model prog w) A (pyIter (.ref d)) Q E s:=by
 obtain⟨o,z,J,D⟩:=id hm;(refine iM hm.ty F.slot_dict_iter (cT F.slot_dict_iter hm.ty F.entry_dict_iter ?_ (F.args_dict_iter_1 _)) ;unfold Builtin.«dict.__iter__» ;refine ac ?_ ;unfold Builtin.Dict.dictSlotNone ;refine ac (wpAny_notOrdered_dict hm.ty ?_));(show wpAny _ _ (pure (Value.ref d)) _ _ s ;refine ai ?_ ;show wpAny _ _ (Builtin.Dict.showsAll d >>= _) _ _ s ;unfold Builtin.Dict.showsAll ;rw[ar (by rw[hd];exact aI)]);(refine ac (ai ?_) ;refine ac (gB z D ?_) ;refine ac (jD z D ?_));refine ac (ca (ai ⟨_,rfl,"dict_keyiterator",_,⟨_,aA _ rfl,rfl⟩,cP.lookup,?_⟩)) ;simpa [rawInt] using hQ
theorem xxw {it:Aj}{i:Nat}{e:DictEntry}{Q:Option Ag->Ab->Prop}(hit:s.heap.IsKeyIter it d i es.size ep)(hm:RawD s.heap d es ep)(hx:es[i]?=some e)
  (hQ:∀h',h'.IsKeyIter it d (i+1) es.size ep->Heap.SameBut it s.heap h'->Q (some e.key) { s with heap:=h' }):wpAny (model prog w) A (pyNext (.ref it)) Q E s:=by
 obtain⟨o,D,Z,z⟩:=id hit ;obtain⟨od,F,ab,L⟩:=id hm;(unfold pyNext ;refine ac (eN (dA (name:=Str.ofString "__next__") hit.typeIs cP (cT cP hit.typeIs gP ?_ (gI _)))) ;refine ac (ai ?_) ;refine ac ?_ ;refine ac ?_);((first | refine ac (dw hit.typeIs (ai ?_)) | refine ac (dZ hit.typeIs (ai ?_))) ;refine ac (iu D z ?_) ;simp only[show Builtin.Dict_items.ownsTuple "dict_keyiterator" = false by decide,aD,bA] ;show wpAny _ _ (if(Value.ref d==Value.none)=true then _ else _) _ _ s ;rw[ar (show ¬ ((Value.ref d==Value.none)=true) from aI)] ;refine ac (ai ?_) ;refine ac (gB F L ?_) ;rw[ar (by simp)] ;refine ac (ai ?_) ;refine ac (jD F L ?_) ;rw[ar (by simp)] ;refine ai ?_);have U:i<es.size:=(bQ.mp hx).1 ;have W:es[i]=e:=(bQ.mp hx).2;(simp only[show ¬ ((i:Int)<0) from by lia,bA,bP,aZ U] ;refine ac ?_ ;(first | refine ac (dw hit.typeIs (ai ?_)) | refine ac (dZ hit.typeIs (ai ?_))) ;refine ac (wpAny_isOneOf_keyiter hit.typeIs ?_) ;show wpAny _ _ (setField (.ref it) 1 (rawInt ((i:Int)+1)) >>= _) _ _ s ;refine ac (gA D z (by simp) ?_));have J:(s.heap.update it (Obj.mapFields (·.setIfInBounds 1 (rawInt ((i:Int)+1))))).IsKeyIter it d (i+1) es.size ep:=⟨_,de _ D (gE (dP z _)),(iL ..).trans Z,by rw[dP z];simp[rawInt]⟩;(refine ac (cg ?_) ;refine ac (wpAny_isOneOf_keyiter (s:={ s with heap:=s.heap.update it (Obj.mapFields (·.setIfInBounds 1 (rawInt ((i:Int)+1)))) }) J.typeIs ?_) ;show wpAny _ _ (pure es[i].key) _ _ _ ;rw[W]);exact ai (ai ⟨_,rfl,ai (hQ _ J (cG ..))⟩)
theorem xv8 {it:Aj}{i:Nat}{Q:Option Ag->Ab->Prop}(hh:A.handled=none)(hit:s.heap.IsKeyIter it d i es.size ep)(hm:RawD s.heap d es ep)(hx:es.size<=i)(hQ:∀h',Heap.ExtBut it s.heap h'->Q none { s with heap:=h' }):wpAny (model prog w) A (pyNext (.ref it)) Q E s:=by obtain⟨o,D,W,J⟩:=id hit ;obtain⟨L,z,U,F⟩:=id hm;(unfold pyNext ;refine ac (eN (dA (name:=Str.ofString "__next__") hit.typeIs cP (cT cP hit.typeIs gP ?_ (gI _)))) ;refine ac (ai ?_) ;refine ac ?_ ;refine ac ?_);((first | refine ac (dw hit.typeIs (ai ?_)) | refine ac (dZ hit.typeIs (ai ?_))) ;refine ac (iu D J ?_) ;simp only[show Builtin.Dict_items.ownsTuple "dict_keyiterator" = false by decide,aD,bA] ;show wpAny _ _ (if(Value.ref d==Value.none)=true then _ else _) _ _ s ;rw[ar (show ¬ ((Value.ref d==Value.none)=true) from aI)] ;refine ac (ai ?_) ;refine ac (gB z F ?_) ;rw[ar (by simp)] ;refine ac (ai ?_) ;refine ac (jD z F ?_) ;rw[ar (by simp)] ;refine ai ?_);(simp only[show ¬ ((i:Int)<0) from by lia,bA,bP,dG hx] ;refine ac ?_ ;(first | refine ac (dw hit.typeIs (ai ?_)) | refine ac (dZ hit.typeIs (ai ?_))) ;show wpAny _ _ (setField (.ref it) 0 .none >>= _) _ _ s ;refine ac (gA D J (by simp) ?_) ;show wpAny _ _ (newExc (.type "StopIteration") [] >>= _) _ _ _ ;refine ac ?_ ;simp only[newExc,newTuple]);(refine ac (ca ?_ (by size_fits)) ;refine ac (m:=firstArgMember _ _) (wpAny_of_eq (a:=Value.none) (by first | rfl | (simp only[firstArgMember];rfl)) ?_) ;refine ca ?_ (by size_fits) ;simp only[raiseNew] ;refine ac (wpAny_handled ?_) ;rw[show A.in1.handled=none from hh] ;refine ac (ai (wpAny_throw ?_)));refine ac (iZ (T := "StopIteration") (b:=true) ⟨_,aA _ rfl,rfl⟩ isSubtype_stop (ai (hQ _ (((cG ..).extBut.push _).push _))))
theorem wyj (hh:A.handled=none)(I:Aj)(hne:d≠I):Walks prog w A I [I,d] [I] es.size (λi v=>∃e,es[i]?=some e/\v=e.key) (λi h=>h.IsKeyIter I d i es.size ep/\RawD h d es ep) where
 sub:=λb hb=>by simp at hb;simp[hb]
 frame:=λ_ _ _ st hk=>⟨st.1.at λo e=>hk I (by simp) o e,st.2.at λo e=>hk d (by simp) o e⟩
 item:=λi s Q E hi st hQ=>xxw st.1 st.2 (aZ hi) λh' it' sb=>hQ _ h' s.toks ⟨_,aZ hi,rfl⟩ ⟨it',st.2.at λo e=>sb.extBut d o hne e⟩ λb o hb e=>sb.extBut b o (λh=>hb (by simp[h])) e
 done:=λs Q E st hQ=>xv8 hh st.1 st.2 (ak _) λh' eb=>hQ h' s.toks λb o hb e=>eb b o (λh=>hb (by simp[h])) e
 self:=λ_ _ _ _ st hQ=>wpAny_pyIter_keyiter st.1 hQ
theorem xkc (lo:(d==sysModules)=false):KdlSrc prog w "dict" d d es.size (λi v=>∃e,es[i]?=some e/\v=e.key) (λh=>RawD h d es ep) where
 type:=λ_ hm=>hm.ty
 there:=λ_ hm=>⟨hm.lt,hm.lt⟩
 keep:=λ_ _ hm hk=>hm.at λo e=>hk d (.inl rfl) o e
 notList:=by decide
 notTuple:=by decide
 hint:=λ_ _ _ _ hm hq=>kdl_hint_dict hm.ty hq
 iter:=λ_ _ hh hm=>⟨_,_,(λ_ _ hq=>xwh lo hm hq),wyj hh _ (aB hm.lt),⟨⟨_,aA _ rfl,rfl,rfl⟩,hm.at λo e=>ag _ e⟩⟩
theorem qvp (hd:(d==sysModules)=false):MeetsIn prog w (Builtin.«dict.__len__» ⟨[.ref d],[]⟩) (λ_ R s=>∃es ep,RawD s.heap d es ep/\R (.ok (.ret (.int es.size s.toks))) { s with toks:=s.toks+1 }) :=
 .of_wp λA R s ⟨es,ep,hm,h⟩=>by obtain⟨o,ho,hc,hdat⟩:=hm;(show wpAny _ _ (dictSize d >>= _) _ _ s ;unfold dictSize ;refine ac (ac (gB ho hdat (ai ?_))) ;show wpAny _ _ (Builtin.Dict.pendingCount d >>= _) _ _ s ;refine ac (wpAny_pendingCount_other hd ?_) ;refine wpAny_ret_mkInt ?_ ;rw[Nat.add_zero] ;exact h)
theorem xkk {Q:Ag->Ab->Prop}(hd:(d==sysModules)=false)(hm:RawD s.heap d es ep)(hfit:(es.size:Int)<2 ^ 63)(h:Q (.int es.size (s.toks+1)) { s with toks:=s.toks+1+1 }):wpAny (model prog w) A (call (.builtin "len") [.ref d]) Q E s:=by refine Calls.call_function_entry kind_len plain_len entry_len (args_len1 _) ?_ ;unfold Builtin.«len» ;refine ac (m:=oneArg "len" _) (ai ?_);refine ac (m:=callSpecial? (.ref d) (Str.ofString "__len__")) (dA (name:=Str.ofString "__len__") hm.ty F.slot_dict_len (call_meetsIn F.slot_dict_len hm.ty F.entry_dict_len (F.args_dict_len_1 _) (qvp hd) ⟨es,ep,hm,?_⟩));(show wpAny _ _ _ _ _ { s with toks:=s.toks+1 } ;refine ac (cg (ai ?_)) ;refine ac (gQ ?_) ;show wpAny _ _ (if((es.size:Nat):Int)<0 then _ else _) _ _ _ ;rw[ar ⋯] ;show wpAny _ _ (if((es.size:Nat):Int)>=2 ^ 63 then _ else _) _ _ _ ;rw[ar ⋯]);exact ac (wpAny_mkInt (ai ⟨_,rfl,h⟩))
end
section
variable {X:Cx}
theorem xw4 {P:Ac}{w:Ah}{H:Hp}{h:Heap}{a:Aj}{kvs:List (List Key×V)}(ok:HOk P w H h)(e:H a=some (.dT kvs)) :
  kvs.length<=sizeLine/\(a==sysModules)=false/\∃(xs:List (List Key×Aj×Ag)) (es:Array DictEntry) (ep:Nat),KT H kvs xs/\RawD h a es ep/\es.toList=xs.map (entryOfKey (tupleKind (vd P w))):=by
 obtain⟨z,y,xs,r,o,es,ep,h1,h2,F,D,J⟩:=(show ObjOk P w H h a (.dT kvs) from ok a _ e);exact⟨z,y,xs,es,ep,r,⟨o,h1,h2,F⟩,D⟩
theorem qjp:js X (.builtin "len") (λxs H Q=>∃a kvs,xs=[V.ref a]/\H a=some (.dT kvs)/\Q (.int kvs.length) H):=by
 intro pins s σ H xs us Q I r h;obtain⟨a,kvs,rfl,e,q⟩:=h;obtain⟨u,rfl,F⟩:=yy r;cases F;obtain⟨z,W,ys,es,ep,J,L,U⟩:=xw4 I.hok e;have D:es.size=kvs.length:=by rw[<-bc,U,af,b9 J]
 have Z:=qyp;exact xkk W L (by rw[D];lia) ⟨.int kvs.length,H,I.tok _,⟨_,by rw[D]⟩,q⟩
def xxr (H:Hp)(kvs:List (List Key×V))(vs:List V):Prop:=Paired (λv (p:List Key×V)=>∃b,v=V.ref b/\H b=some (.tup (p.1.map kV))) vs kvs
theorem wvf (hc:X.calm=true):js X (.type "list") (λxs H Q=>∃a kvs,xs=[V.ref a]/\H a=some (.dT kvs)/\∀p vs,H p=none->xxr H kvs vs->Q (.ref p) (upd H p (.lst vs))):=by
 intro pins s σ H xs us Q I r h;obtain⟨a,kvs,rfl,e,q⟩:=h;obtain⟨u,rfl,rx⟩:=yy r;cases rx;obtain⟨z,hd,ys,es,ep,ad,ap,ah⟩:=xw4 I.hok e;have Z:es.size=kvs.length:=by rw[<-bc,ah,af,b9 ad]
 refine kdl_call (xkc hd) (I.ok.hd hc) ap (by rw[Z];exact z) λh' tk an c' hk hD ab=>?_;have as:∀(l:List Ag) (J:List (List Key×V)) (U:List (List Key×Aj×Ag)),KT H J U->l.length=J.length->(∀(j:Nat) v,l[j]?=some v->∃y,U[j]?=some y/\v=.ref y.2.1)->∃vs,Vals vs l/\xxr H J vs:=by
  intro l J U rr
  induction rr generalizing l with
  |nil =>
   intro L _;cases l with
   |nil=>exact⟨[],.nil,.nil⟩
   |cons _ _=>simp at L
  |@cons p y ps yss hp t ih =>
   intro L hj;cases l with
   |nil=>simp at L
   |cons v l =>
    obtain⟨y',ey,rfl⟩:=hj 0 v rfl;cases ey;obtain⟨vs,F,W⟩:=ih l (by simpa using L) λj u hu=>by obtain⟨y2,e2,e3⟩:=hj (j+1) u (by simpa using hu);exact⟨y2,by simpa using e2,e3⟩
    exact⟨.ref y.2.1::vs,.cons rfl F,.cons ⟨_,rfl,hp.2.1⟩ W⟩
 obtain⟨vs,F,W⟩:=as an.toList kvs ys ad (by rw[bc,ab.1,Z]) λj v ev=>by
  obtain⟨en,D,rfl⟩:=ab.2 j v (by rw[<-bL];exact ev);rw[<-bL,ah,ax]at D;cases hy:ys[j]? with
  |none=>rw[hy]at D;cases D
  |some y =>
   rw[hy]at D;have e2:=aq D;exact⟨y,rfl,by rw[<-e2];rfl⟩
 have hv:vs.length<=sizeLine:=by rw[F.length,bc,ab.1,Z];exact z
 exact⟨.ref _,_,I.laid (t':=tk) hk (ak _) (show ObjOk X.prog X.w _ h' _ (.lst vs) from ⟨hv,an.toList,c',F,by simpa using hD⟩),rfl,q _ _ (I.hok.fresh (ak _)) W⟩
end
end L2
namespace L2
open PySem PySem.Spec PyProof.Rows
theorem xxz {M:Model}{A:Ae}{E:Ag->Ab->Prop}{s:Ab}{scope:Scope}{globals:Aj}{cl:List (Str×Aj)}{qual:Str}{func:Option Aj}{code:Ag}{outer:Env}{builtins:Aj}{x:Str}{Q:Env->Ab->Prop}(hk:scope.kind=.function)
  (hcf:cellsFrom (s.heap.objs.size+1) scope.names cl=(x,s.heap.objs.size+1)::cl) (hpc:pushCells (s.heap.push { cls:=.type "dict",data:=.dict #[] }) scope.names=(s.heap.push { cls:=.type "dict",data:=.dict #[] }).push { cls:=.type "cell",data:=.cell none })
  (hQ:Q (newEnv scope s.heap.objs.size globals ((x,s.heap.objs.size+1)::cl) qual func code (some outer) builtins) { s with heap:=(s.heap.push { cls:=.type "dict",data:=.dict #[] }).push { cls:=.type "cell",data:=.cell none } }) :
  wpAny M A (newFunctionEnv scope globals cl [] qual func code (some outer) builtins) Q E s:=by
 simp only[newFunctionEnv,Option.isSome_some,cV];refine ac (wpAny_alloc ?_);refine ac (wpAny_layCells _ (λname kind z=>by cases hkc:kind==NameKind.cell <;> simp[hkc]) _ _ _ _ ?_);rw[show({ s with heap:=s.heap.push { cls:=.type "dict",data:=.dict #[] } }:Ab).heap.objs.size=s.heap.objs.size+1 from cY ..,hcf,hpc];exact ac (ai (ai hQ))
def HasAllK (x:Str)(cl:List (Str×Aj)):List (Str×NameKind)->Prop
 |[]=>True
 |(n,k)::r=>(k=.free->∃c,cl.lookup n=some c)/\(k=.cell->n=x)/\HasAllK x cl r
theorem wxj {x y:Str}{c:Aj}{cl:List (Str×Aj)}(h:∃d,cl.lookup y=some d):∃d,((x,c)::cl).lookup y=some d:=by
 rw[bv];cases y==x with
 |true=>exact⟨c,rfl⟩
 |false=>exact h
theorem HasAllK.has {x:Str}{c:Aj}{cl:List (Str×Aj)}{env:Env}:∀ {ns:List (Str×NameKind)},HasAllK x cl ns->∀ {y:Str} {q:NameKind},q=.cell\/q=.free ->
  (ns.map λ(n,k)=>if(k==NameKind.free&&env.scope.kind==.function&&env.kindOf n==some .cell) then(n,NameKind.cell) else(n,k)).lookup y=some q->∃d,((x,c)::cl).lookup y=some d
 |[],_,_,_,_,e=>by cases e
 |(n,k)::r,h,y,q,hq,e=>by
  have ih:=HasAllK.has (c:=c) (env:=env) h.2.2 (y:=y) hq;rw[aC]at e;by_cases hc:(k==NameKind.free&&env.scope.kind==.function&&env.kindOf n==some .cell)=true
  .have e':=e;dsimp only at e';rw[aw hc,bv]at e';cases hb:y==n with
   |true =>
    rw[b8,b8]at hc;rw[eq_of_beq hb];exact wxj (h.1 (eq_of_beq hc.1.1))
   |false =>
    rw[hb]at e';exact ih e'
  .have e':=e;dsimp only at e';rw[ar hc,bv]at e';cases hb:y==n with
   |true =>
    rw[hb]at e';have ek:k=q:=aq e';rw[eq_of_beq hb];rcases hq with rfl|rfl
    .rw[h.2.1 ek];exact⟨c,by rw[bv,fj]⟩
    .exact wxj (h.1 ek)
   |false =>
    rw[hb]at e';exact ih e'
abbrev uz (X:Cx)(scope:Scope)(cl:List (Str×Aj))(x:Str)(c:Aj)(M:List Nat)(C:Aj)(s2:Ab)(H2:Hp)(fp:List Aj)(pn:List (Aj×Obj)):Cx :=
 { X with N:=Q4 X x M,s₀:=s2,H₀:=H2,env:=compEnvC scope ((x,c)::cl) C X.env,outer:=X.stack,ex:=fp,fn:=λy=>y==x,pn:=pn,xe:=λ_ _=>False }
section
variable {X:Cx}{pins:List (Aj×Obj)}{σ:St}{H:Hp}{s2:Ab}{scope:Scope}{cl:List (Str×Aj)}{x:Str}{c:Aj}{M:List Nat}{fp:List Aj}{C:Aj}{h1:Heap}{tk:Nat}
theorem Inv.compK (I:Inv X pins σ H s2)(hc:CapAll X.env cl)(hh:HasAllK x cl scope.names)(hm:CapIx X scope cl M)(hk:scope.kind=.function)(hnd:(Q4 X x M).Nodup)(hC:s2.heap.objs.size<C)(hcC:C<c)(hcl:h1.IsCell c none)
  (keep:∀b o,s2.heap.get? b=some o->h1.get? b=some o) (hn:h1.Ns C λ_=>none) (hD:h1.get? s2.heap.objs.size=some { cls:=.type "list",data:=.seq #[] 0 })
  (hfp:∀b∈fp,k8 X pins H b) (hob:∀b∈fp,∃o,s2.heap.get? b=some o) :
  Inv (uz X scope cl x c M C s2 H fp (X.pn++pins)) [] (zh M σ none) (upd H s2.heap.objs.size (.lst [])) { s2 with heap:=h1,toks:=tk }:=by
 have a3:=I.hok.fresh (a:=s2.heap.objs.size) (ak _);have o:=I.ok;have W:∀y c,cl.lookup y=some c->X.env.cells.lookup y=some c:=λy c e=>hc.look e;have U:∀y d,((x,c)::cl).lookup y=some d->(y=x/\d=c)\/(y≠x/\cl.lookup y=some d):=λy d e=>by
  rw[bv]at e;cases D:y==x with
  |true =>
   rw[D]at e;exact .inl ⟨eq_of_beq D,(aq e).symm⟩
  |false =>
   rw[D]at e;exact .inr ⟨λz=>by rw[z]at D;simp at D,e⟩
 have an:∀y d,cl.lookup y=some d->d<s2.heap.objs.size:=λy d e=>by obtain⟨v,L,F,J⟩:=I.cell y d (W y d e);exact ao F
 have ab:s2.heap.objs.size<c:=bn hC hcC;have ap:∀b∈fp,b<s2.heap.objs.size:=λb D=>by obtain⟨L,e⟩:=hob b D;exact ao e
 have a0:∀b∈fp,b∉frs X.stack:=λb D z=>by
  rcases aO.mp (I.stkSub b z) with z|z
  .exact(hfp b D).2.1 z
  .exact(hfp b D).2.2.1 z
 have a4:H C=none:=I.hok.fresh (bp hC);refine⟨⟨o.mod,hk,o.glob,o.blt,bp hC,λy z d F J=>?_,λy hy=>?_,λy d z e=>?_,o.hd,o.frames,.inl rfl,λb D=>⟨aB (bn (ap b D) hC),λy d e=>?_⟩,
  λb L e=>I.bs b L e,bI o.bsz I.sz,λb L e z=>?_,a0,I.stack,I.stkFree⟩,rfl,I.bare,?_,?_,λy d e=>?_,?_,λy d e=>?_,λp hp=>?_,?_,?_⟩
 .rcases U y d F with⟨Z,h1⟩|⟨Z,h1⟩ <;> rcases U z d J with⟨as,h2⟩|⟨as,h2⟩
  .exact Z.trans as.symm
  .exact absurd (an z d h2) (by rw[h1];exact Nat.not_lt_of_gt ab)
  .exact absurd (an y d h1) (by rw[h2];exact Nat.not_lt_of_gt ab)
  .exact o.inj y z d (W y d h1) (W z d h2)
 .rcases hy with hy|hy
  .exact hh.has (.inl rfl) hy
  .exact hh.has (.inr rfl) hy
 .rcases U y d e with⟨_,h1⟩|⟨Z,h1⟩
  .rw[h1];exact bp ab
  .exact absurd (eq_of_beq z) Z
 .rcases U y d e with⟨_,h1⟩|⟨Z,h1⟩
  .rw[h1];exact(aB (bn (ap b D) ab)).symm
  .exact(hfp b D).2.2.2.2.1 y d (W y d h1)
 .obtain⟨F,J⟩:=I.bs b L e;exact(hfp b z).2.2.2.1.elim (λq=>o.noex b L e q) λq=>by have:=o.bs b L e;exact bb _ (aL (ao this.1) q)
 .exact(Un.laid (fs:=frs X.stack) (ex:=fp) (o:=.lst []) keep (ak _) a3)
 .refine⟨_,hn,λi z v F J e3=>?_⟩;cases i with
  |zero=>cases J
  |succ k =>
   have ad:(M.map λj=>X.N.getD j Str.empty)[k]?=some z:=F;have ah:(M.map λj=>(σ[j]?).join)[k]?=some (some v):=J;rw[ax]at ad ah;cases hj:M[k]? with
   |none=>rw[hj]at ad;cases ad
   |some j =>
    rw[hj]at ad ah;obtain⟨y,d,f1,f2,f3,f4⟩:=hm.get hj;have ez:X.N.getD j Str.empty=z:=aq ad;rw[ae,f1]at ez;have a6:y=z:=ez;subst a6;have nx:y≠x:=λz=>by have h0:=List.nodup_iff_pairwise_ne.mp hnd;have h1:x∉M.map λj=>X.N.getD j Str.empty:=λa2=>(iw.mp h0).1 x a2 rfl;refine h1 (az.mpr ⟨j,aE hj,?_⟩);rw[ae,f1,<-z];rfl
    have a5:((x,c)::cl).lookup y=some d:=by rw[bv,show(y==x)=false from cD.mpr nx];exact f4
    have ev:(σ[j]?).join=some v:=aq ah;have a7:σ[j]?=some (some v):=by
     cases hs:σ[j]? with
     |none=>rw[hs]at ev;cases ev
     |some w' =>
      rw[hs]at ev;have:w'=some v:=ev;rw[this]
    obtain⟨m,a8,hl⟩:=I.loc;obtain⟨u,r,l⟩:=hl j y v f1 a7 (.inr (.inl f2));refine⟨u,r,.inr ⟨.inl f3,d,a5,?_⟩⟩;rcases l with⟨U,_⟩|⟨_,c',lc,li⟩
    .have:X.env.scope.names.lookup y=some .local:=U;rw[f2]at this;cases this
    .rw[W y d f4]at lc;have:=aq lc;subst this;exact li.keeps keep
 .rcases U y d e with⟨_,rfl⟩|⟨Z,h1⟩
  .exact⟨none,hcl⟩
  .obtain⟨v,hv⟩:=I.cell y d (W y d h1);exact⟨v,hv.keeps keep⟩
 .show upd H s2.heap.objs.size (.lst []) C=none;rw[wx (ff hC)];exact a4
 .show upd H s2.heap.objs.size (.lst []) d=none;rcases U y d e with⟨_,rfl⟩|⟨Z,h1⟩
  .rw[wx (aB ab).symm];exact I.hok.fresh (bp ab)
  .obtain⟨v,L,F,J⟩:=I.cell y d (W y d h1);rw[wx (aB (ao F))];exact I.freeC y d (W y d h1)
 .have a1:p∈X.pn++pins:=(aW.mp hp).elim (λz=>z) λz=>nomatch z;obtain⟨F,J,e3,e4,e5⟩:=I.pin p a1;refine⟨keep _ _ F,?_,aB (bn (ao F) hC),λz=>?_,e5⟩
  .rw[wx (aB (ao F))];exact J
  .rcases aO.mp (I.stkSub p.1 z) with z|z
   .exact e3 z
   .exact e4 z
 .exact I.hok.laid keep (ak _) ⟨aQ _,[],0,.nil,hD⟩
 .show(none::M.map λj=>(σ[j]?).join).length=(x::M.map λj=>X.N.getD j Str.empty).length;rw[aJ,aJ,af,af]
theorem Inv.uncompK {pins':List (Aj×Obj)}{σ':St}{H':Hp}{s':Ab}{h':Heap}(I:Inv X pins σ H s2)(hC:s2.heap.objs.size<=C)(hfp:∀b∈fp,k8 X pins H b)
  (J:Inv (uz X scope cl x c M C s2 H fp (X.pn++pins)) pins' σ' H' s') (hs:Heap.SameBut C s'.heap h'):Inv X pins σ H' { s' with heap:=h' }:=by
 have D:=J.base;have U:∀b o,s2.heap.get? b=some o->b≠C:=λb o e=>aB (aL (ao e) hC);have st:∀b o,b≠C->s'.heap.get? b=some o->h'.get? b=some o:=λb o n e=>(hs.2 b n).trans e;refine I.call' (s':={ s' with heap:=h' }) (ch:=fp) J.os ⟨λb o e n nb F=>st b o (U b o e) (D.keep b o e n nb F),λb o e n ad F=>?_,D.free,λb o e F=>?_,D.tups,D.frzs,D.tbls⟩ ?_ J.bare λb ab=>?_
 .obtain⟨sl,Z⟩:=D.slot b o e n ad F;exact⟨sl,st b _ (U b o e) Z⟩
 .obtain⟨o',Z⟩:=D.there b o e F;exact⟨o',st b _ (U b o e) Z⟩
 .intro b u W;have fr:H' C=none:=J.free;refine(J.hok b u W).stay (λc v L e=>st c v ?_ e) (λ_ z=>z) λ_ _ z=>z;rcases L with rfl|L
  .intro z;rw[z,fr]at W;cases W
  .intro z;rw[z,fr]at L;cases L
 .obtain⟨q1,q2,q3,q4,q5,q6⟩:=hfp b ab;exact⟨q4,q2,q5,q6⟩
end
section
variable {X:Cx}{elt iter:Expr}{x:Str}{px pos:Pos}{scope:Scope}{cl:List (Str×Aj)}{M:List Nat}{wi:TI}{te:TE}
theorem xqg (hc:X.calm=true)(hclos:closureFor scope X.env=pure cl)(hcap:CapAll X.env cl)(hhas:HasAllK x cl scope.names)(hix:CapIx X scope cl M)(hk:scope.kind=.function)
  (hnames:∀y∈scope.names,y.2=.local->scope.names.lookup y.1=some .local) (hcf:∀n,cellsFrom n scope.names cl=(x,n)::cl) (hpc:∀h,pushCells h scope.names=h.push { cls:=.type "cell",data:=.cell none }) (hx:(relabel scope X.env).names.lookup x=some .cell) (hnd:(Q4 X x M).Nodup) (hi:PI X (.Name x px) iter wi)
  (he:∀C s2 H2 fp pn,PE (uz X scope cl x (C+1) M C s2 H2 fp pn) elt te) (hs:∀z,foldedSetIterable iter X.env z=pure z)
  {use:Option (Ag->Sem Unit)} {QQ:Ag->Ab->Prop} {pins:List (Aj×Obj)} {s:Ab} {σ:St} {H:Hp} {Q:VK} {ps:Pos} (I:Inv X pins σ H s) (h:wi σ H λJ H1=>W6 J M te σ H1 Q)
  (fin:∀(C:Aj) (s2 s4:Ab) (H1 H2:Hp) (fp:List Aj),Inv X pins σ H1 s2->s2.heap.objs.size<C->(∀b∈fp,k8 X pins H1 b)->Inv (uz X scope cl x (C+1) M C s2 H1 fp (X.pn++pins)) [] (zh M σ none) H2 s4->Q (.ref s2.heap.objs.size) H2 ->
   compPost (model X.prog X.w) X.A X.xe use QQ (.ref s2.heap.objs.size) C (.ok .next) s4) :
  wpAny (model X.prog X.w) X.A (comprehension (.ListComp elt [⟨.Name x px,iter,[],0⟩] scope pos) scope X.env ps (newList []) false (eval iter X.env) use) QQ X.xe s:=by
 refine fF (use:=use) rfl hs hclos hk hnames ?_;refine thn (hi pins s σ H _ I h) λv s1 h1=>thn h1 λa4 s2 h2=>?_;obtain⟨it,fp,tn,J,H1,rfl,Z,T,t0,U,hR⟩:=h2;have an:∀b∈fp,∃o,s2.heap.get? b=some o/\∀v,o.data≠.cell v:=T.obj 0 _ t0;obtain⟨W,⟨m0,w0⟩,hW⟩:=hR s2.heap.objs.size (Z.hok.fresh (ak _));refine ca ?_;refine xxz (x:=x) hk (hcf _) (hpc _) ?_;dsimp only;generalize hH2:s2.heap.push { cls:=.type "list",dict:=none,data:=.seq ([]:List Ag).toArray }=G2;have hC:G2.objs.size=s2.heap.objs.size+1:=by rw[<-hH2,cY]
 have L:s2.heap.objs.size<G2.objs.size:=by lia
 have kG:∀b o,G2.get? b=some o->((G2.push { cls:=.type "dict",data:=.dict #[] }).push { cls:=.type "cell",data:=.cell none }).get? b=some o:=λb o e=>ag _ (ag _ e);have as:((G2.push { cls:=.type "dict",data:=.dict #[] }).push { cls:=.type "cell",data:=.cell none }).IsCell (G2.objs.size+1) none:=⟨_,by rw[show G2.objs.size+1=(G2.push { cls:=.type "dict",data:=.dict #[] }).objs.size from (cY ..).symm];exact aA _ rfl,rfl⟩;have ap:((G2.push { cls:=.type "dict",data:=.dict #[] }).push { cls:=.type "cell",data:=.cell none }).Ns G2.objs.size λ_=>none:=(Heap.Ns.new G2 (.type "dict")).keeps λb o e=>ag _ e;generalize (G2.push { cls:=.type "dict",data:=.dict #[] }).push { cls:=.type "cell",data:=.cell none }=h3 at kG as ap;have ah:∀b o,s2.heap.get? b=some o->h3.get? b=some o:=λb o e=>kG b o (hH2▸ag _ e);have hD:h3.get? s2.heap.objs.size=some { cls:=.type "list",data:=.seq #[] 0 }:=kG _ _ (hH2▸aA _ rfl);have J0:∀tk,Inv (uz X scope cl x (G2.objs.size+1) M G2.objs.size s2 H1 fp (X.pn++pins)) [] (zh M σ none) (upd H1 s2.heap.objs.size (.lst [])) { s2 with heap:=h3,toks:=tk }:=λtk =>
  Z.compK hcap hhas hix hk hnd L (d7 _) as ah ap hD U λb D=>let ⟨o,e,_⟩:=an b D;⟨o,e⟩
 have ab:∀b∈fp,b<s2.heap.objs.size:=λb D=>let ⟨o,e,_⟩:=an b D;ao e;have a2:∀(H2:Hp),(∀b∈fp,H2 b=none)->∀b∈fp,k8 (uz X scope cl x (G2.objs.size+1) M G2.objs.size s2 H1 fp (X.pn++pins)) [] H2 b:=λH2 hn b D=>by
  obtain⟨q1,q2,q3,q4,q5,q6⟩:=U b D;refine⟨hn b D,aB (bn (ab b D) L),λz=>?_,.inl D,λy d e=>?_,λp hp=>q6 p ((aW.mp hp).elim (λz=>z) λz=>nomatch z)⟩
  .rcases aO.mp (Z.stkSub b z) with z|z
   .exact q2 z
   .exact q3 z
  .have F:((x,G2.objs.size+1)::cl).lookup y=some d:=e;rw[bv]at F;cases hb':y==x with
   |true =>
    rw[hb']at F;have:d=G2.objs.size+1:=(aq F).symm;rw[this];exact(aB (bn (bn (ab b D) L) (d7 _))).symm
   |false =>
    rw[hb']at F;exact q5 y d (hcap.look F)
 have t3:=T.keep 0 _ _ t0 λb _ o e=>ah b o e;have ad:=λtk=>j4 (e:=.ListComp elt [⟨.Name x px,iter,[],0⟩] scope pos) (k:=0) (acc:=.ref s2.heap.objs.size) (Y:=uz X scope cl x (G2.objs.size+1) M G2.objs.size s2 H1 fp (X.pn++pins)) (V:=λi n H2=>∃ys,W i n ys H2) (Qd:=Q (.ref s2.heap.objs.size)) (REST:=appS elt (.ref s2.heap.objs.size) (compEnvC scope ((x,G2.objs.size+1)::cl) G2.objs.size X.env) _) (post:=compPost (model X.prog X.w) X.A X.xe use QQ (.ref s2.heap.objs.size) G2.objs.size) T hc (λ_ _ z=>z) (compTurn_list1 ..) rfl rfl (xz (i:=0) hnd rfl (.inr hx) (.inl (fj x))) a2 (λi n H2 ⟨ys,w⟩=>by
  obtain⟨hp,hz,a1⟩:=hW i n ys H2 w
  refine a1.imp id λ⟨a0,hy⟩=>⟨a0,λv H3 yl=>⟨λσ4 H4=>σ4=zh M σ (some v)/\H3=H4,⟨rfl,rfl⟩,λ_ _ e=>?_⟩⟩
  obtain⟨rfl,rfl⟩:=e
  refine⟨Q3 M σ v,λa3 s' J=>?_⟩
  exact aY (Yd (N:=λzs H5=>∃m',m'<n/\W (i+1) m' zs H5) (λ_ _ z=>z) (he _ _ _ _ _) J hz (hy v H3 yl)) (λr s5 ⟨e,H5,J5,zs,m',hm,w'⟩=>⟨e,H5,J5,m',hm,zs,w'⟩) λ_ _ z=>z)
  (λH2 s4 J4 q=>fin G2.objs.size s2 s4 H1 H2 fp Z L U J4 q) (J0 tk) ⟨[],w0⟩ t3 λb D=>by rw[wx (aB (ab b D))];exact(U b D).1
 exact codeAny_compStart_list (ad _) (T.self _ 0 _ _ _ t3 (ad _))
theorem qzn (hc:X.calm=true)(hclos:closureFor scope X.env=pure cl)(hcap:CapAll X.env cl)(hhas:HasAllK x cl scope.names)(hix:CapIx X scope cl M)(hk:scope.kind=.function)
  (hnames:∀y∈scope.names,y.2=.local->scope.names.lookup y.1=some .local) (hcf:∀n,cellsFrom n scope.names cl=(x,n)::cl) (hpc:∀h,pushCells h scope.names=h.push { cls:=.type "cell",data:=.cell none }) (hx:(relabel scope X.env).names.lookup x=some .cell) (hnd:(Q4 X x M).Nodup) (hi:PI X (.Name x px) iter wi)
  (he:∀C s2 H2 fp pn,PE (uz X scope cl x (C+1) M C s2 H2 fp pn) elt te) (hs:autoParam (∀z,foldedSetIterable iter X.env z=pure z) aU3._auto_1) :
  PE X (.ListComp elt [⟨.Name x px,iter,[],0⟩] scope pos) (wjf M wi te):=by
 intro pins s σ H Q I h;rw[eval_ListComp];refine xqg hc hclos hcap hhas hix hk hnames hcf hpc hx hnd hi he hs (use:=none) I h λC s2 s4 H1 H2 fp Z U W D J=>?_;obtain⟨m,L,_⟩:=D.loc;exact⟨m,L,λh' F=>⟨.ref s2.heap.objs.size,H2,Z.uncompK (bp U) W D F,rfl,J⟩⟩
end
end L2
namespace L2
open PySem PySem.Spec PyProof.Rows
theorem wwn {X:Cx}{tg l:Expr}{tl:TE}{K:Aa}(hK:X.K=K)(hl:PE X l tl):PI X tg l (iList K tl):=by subst hK;exact zc hl
def Stay (G:Nat->V->Hp->Prop):Prop:=∀i v H H' p,G i v H->v≠.ref p->(∀b o,b≠p->H b=some o->H' b=some o)->G i v H'
theorem Ws {M:List Nat}{lo:Int}{n:Nat}{te:TE}{σ:St}{H:Hp}{Q:VK}(G:Nat->V->Hp->Prop)(gs:Stay G)(hn:n<=1000000)
  (he:∀(i:Nat) (H':Hp) (R:VK),i<n->Same H H'->(∀v H'',Same H' H''->G i v H''->(∀b,v=.ref b->H' b=none)->R v H'')->te (zh M σ (some (.int (lo+i)))) H' R)
  (k:∀p ys H',H p=none->Same H H'->H' p=some (.lst ys)->ys.length=n->(∀j v,ys[j]?=some v->G j v H'/\v≠.ref p)->Q (.ref p) H'):W6 (Itr lo n) M te σ H Q:=by
 intro p np;refine⟨λi m ys H2=>i<=n/\m=n-i/\ys.length=i/\Same H H2/\H2 p=some (.lst ys)/\∀j v,ys[j]?=some v->G j v H2/\v≠.ref p,⟨n,aQ _,rfl,rfl,Same.upd np,qu,λj v e=>by cases e⟩,?_⟩;rintro i m ys H2 ⟨hi,rfl,hy,sm,hp,hG⟩;refine⟨hp,?_,?_⟩
 .have:(1000000:Nat)<sizeLine:=by decide
  lia
 .by_cases hlt:i<n
  .refine .inr ⟨hlt,?_⟩;rintro v H3 ⟨rfl,rfl⟩;refine he i _ _ hlt sm λv J D Z fr=>⟨D _ _ hp,n-(i+1),⋯,⋯,rfl,by rw[au,hy];rfl,λb o e=>?_,qu,λj w e=>?_⟩
   .rw[wx (wj e np)];exact D _ _ (sm _ _ e)
   .have L:v≠.ref p:=λz=>by have:=fr p z;rw[hp]at this;cases this
    have st:∀b o,b≠p->J b=some o->upd J p (.lst (ys++[v])) b=some o:=λb o F e=>by rw[wx F];exact e
    rcases(bF j ys.length) with z|z
    .rw[aU z]at e;obtain⟨g,U⟩:=hG j w e;exact⟨gs j w _ _ p g U λb o F e=>st b o F (D b o e),U⟩
    .rw[aG z]at e;have W:j=i:=by
      rcases bF (j-ys.length) 1 with y|y
      .lia
      .rw[aP (by simpa using y)]at e;cases e
     subst W;rw[show j-ys.length=0 by lia]at e;have:v=w:=aq e;subst this;exact⟨gs j v J _ p Z L st,L⟩
  .have:i=n:=by lia
   subst this;exact .inl ⟨ak _,k p ys _ np sm hp hy hG⟩
theorem Qp {K:Aa}{M:List Nat}{a:Aj}{xs:List V}{te:TE}{σ:St}{H:Hp}{Q:VK}(G:Nat->V->Hp->Prop)(gs:Stay G)(hS:SqL K H a xs)(hn:xs.length<=1000000)
  (he:∀(i:Nat) (x:V) (H':Hp) (R:VK),xs[i]?=some x->Same H H'->(∀v H'',Same H' H''->G i v H''->(∀b,v=.ref b->H' b=none)->R v H'')->te (zh M σ (some x)) H' R)
  (k:∀p ys H',H p=none->Same H H'->H' p=some (.lst ys)->ys.length=xs.length->(∀j v,ys[j]?=some v->G j v H'/\v≠.ref p)->Q (.ref p) H'):W6 (Itl K a) M te σ H Q:=by
 intro p np;refine⟨λi m ys H2=>i<=xs.length/\m=xs.length-i/\ys.length=i/\Same H H2/\H2 p=some (.lst ys)/\∀j v,ys[j]?=some v->G j v H2/\v≠.ref p,⟨xs.length,aQ _,rfl,rfl,Same.upd np,qu,λj v e=>by cases e⟩,?_⟩;rintro i m ys H2 ⟨hi,rfl,hy,sm,hp,hG⟩;have L:SqL K H2 a xs:=Same.sql sm hS;refine⟨hp,?_,?_⟩
 .have:(1000000:Nat)<sizeLine:=by decide
  lia
 .by_cases hlt:i<xs.length
  .have J:xs[i]?=some xs[i]:=aa hlt;refine .inr ⟨⟨xs,_,L,J⟩,?_⟩;rintro v H3 ⟨rfl,hv⟩;have e:=hv xs L;rw[J]at e;have e':=aq e;subst e';refine he i _ _ _ J sm λv U D g4 fr=>⟨D _ _ hp,xs.length-(i+1),⋯,⋯,rfl,by rw[au,hy];rfl,λb o e=>?_,qu,λj w e=>?_⟩
   .rw[wx (wj e np)];exact D _ _ (sm _ _ e)
   .have W:v≠.ref p:=λz=>by have:=fr p z;rw[hp]at this;cases this
    have st:∀b o,b≠p->U b=some o->upd U p (.lst (ys++[v])) b=some o:=λb o F e=>by rw[wx F];exact e
    rcases(bF j ys.length) with z|z
    .rw[aU z]at e;obtain⟨g,Z⟩:=hG j w e;exact⟨gs j w _ _ p g Z λb o F e=>st b o F (D b o e),Z⟩
    .rw[aG z]at e;have hj:j=i:=by
      rcases bF (j-ys.length) 1 with y|y
      .lia
      .rw[aP (by simpa using y)]at e;cases e
     have e3:[v][j-ys.length]?=some w:=by assumption
     subst hj;rw[show j-ys.length=0 by lia]at e3;have:v=w:=aq e3;subst this;exact⟨gs j v U _ p g4 W st,W⟩
  .have ab:i=xs.length:=by lia
   subst ab;exact .inl ⟨⟨xs,L,ak _⟩,k p ys _ np sm hp hy hG⟩
theorem wx5 {K:Aa}{M:List Nat}{a:Aj}{xs:List V}{te:TE}{σ:St}{H:Hp}{Q:VK}(f:V->V)(hf:∀x b,f x≠.ref b)(hS:SqL K H a xs)(hn:xs.length<=1000000)
  (he:∀(x:V) (H':Hp) (R:VK),x∈xs->Same H H'->(∀H'',Same H' H''->R (f x) H'')->te (zh M σ (some x)) H' R)
  (k:∀p H',H p=none->Same H H'->H' p=some (.lst (xs.map f))->Q (.ref p) H'):W6 (Itl K a) M te σ H Q:=by
 refine Qp (λi v _=>∃x,xs[i]?=some x/\v=f x) (λi v H H' p g _ _=>g) hS hn (λi x H' R z s J=>he x H' R (aE z) s λH'' F=>J _ _ F ⟨x,z,rfl⟩ λb e=>absurd e (hf x b)) λp ys H' np s D U L=>?_;have e:ys=xs.map f:=by
  refine cH λj=>?_;rw[ax];cases hj:ys[j]? with
  |none =>
   have:xs[j]?=none:=aP (by have:=fv.mp hj;lia);rw[this];rfl
  |some v =>
   obtain⟨⟨x,z,rfl⟩,_⟩:=L j v hj;rw[z];rfl
 rw[e]at D;exact k p H' np s D
theorem wxx {M:List Nat}{lo:Int}{n:Nat}{te:TE}{σ:St}{H:Hp}{Q:VK}(f:Nat->V)(hf:∀x b,f x≠.ref b)(hn:n<=1000000)
  (he:∀(i:Nat) (H':Hp) (R:VK),i<n->Same H H'->(∀H'',Same H' H''->R (f i) H'')->te (zh M σ (some (.int (lo+i)))) H' R)
  (k:∀p H',H p=none->Same H H'->H' p=some (.lst ((List.range n).map f))->Q (.ref p) H'):W6 (Itr lo n) M te σ H Q:=by
 refine Ws (λi v _=>v=f i) (λi v H H' p g _ _=>g) hn (λi H' R hi s J=>he i H' R hi s λH'' D=>J _ _ D rfl λb e=>absurd e (hf i b)) λp ys H' np s z U L=>?_;have e:ys=(List.range n).map f:=by
  refine cH λj=>?_;rw[ax];cases hj:ys[j]? with
  |none =>
   have:n<=j:=by have:=fv.mp hj;lia
   rw[aP (by rw[ay];exact this)];rfl
  |some v =>
   have F:j<n:=by have:=(am.mp hj).1;lia
   rw[bg F,(L j v hj).1];rfl
 rw[e]at z;exact k p H' np s z
end L2
namespace L2
open PySem PySem.Spec PyProof.Rows
theorem u8:bootBuiltins "sum" = some (.builtin "sum"):=by decide +kernel
section
variable {X:Cx}{K:Aa}
theorem yw (hK:X.K=K):IxR X (wv6 K):=by subst hK;exact xr
theorem Zh (hK:X.K=K):js X (.builtin "len") (λxs H Q=>∃p ys,xs=[.ref p]/\(SqL K H p ys\/SqT K H p ys)/\Q (.int ys.length) H):=by subst hK;exact xh
theorem qjy (ns:List Int):∀n,preSum (λi=>ns.getD i 0) n=(ns.take n).sum
 |0=>by simp[preSum]
 |n+1=>by
  rw[preSum,qjy ns n,ik];cases e:ns[n]? with
  |none=>simp[ae,e]
  |some v=>simp[ae,e]
theorem k9 (hK:X.K=K)(hc:X.calm=true):js X (.builtin "sum") (λxs H Q=>∃(p:Aj) (ns:List Int),xs=[.ref p]/\SqL K H p (ns.map V.int)/\Q (.int ns.sum) H):=by
 subst hK;intro pins s σ H xs us Q I r h;obtain⟨p,ns,rfl,hS,q⟩:=h;obtain⟨u,rfl,F⟩:=yy r;cases(show u=Value.ref p from F);obtain⟨D,J,⟨o,n,e1,e2,e3,e4⟩,hz⟩:=I.list hS;have Z:s.heap.IsList p D.toArray:=⟨o,e1,e2,n,e4⟩;have U:p<s.heap.objs.size:=ao e1;have W:D.length=ns.length:=by rw[<-J.length,af]
 refine call_sum_walkG (gk Z ?_);refine⟨s.heap.objs.size,_,_,_,_,_,λi=>ns.getD i 0,rfl,Walks.list (A:=X.A.in1) (I.ok.hd hc) _ p (aB U) D.toArray,⟨⟨_,aA _ rfl,rfl,rfl⟩,Z.push _⟩,λb hb=>?_,λi v hP=>?_,λh' tk t' hk=>?_⟩
 .rcases aO.mp hb with z|z
  .rw[z,cY];exact d7 _
  .rw[aM.mp z,cY];exact eU U
 .have L:D[i]?=some v:=by simpa using hP
  have hi:i<(ns.map V.int).length:=by rw[af,<-W];exact(am.mp L).1
  obtain⟨u,eu,F⟩:=J.get (i:=i) (aa hi);rw[L]at eu;cases eu;rw[gH]at F;obtain⟨t,rfl⟩:=F;rw[af]at hi;exact⟨t,by show Value.int ns[i] t=Value.int (ns.getD i 0) t;rw[ae,aa hi];rfl⟩
 .have e:preSum (λi=>ns.getD i 0) D.toArray.size=ns.sum:=by rw[qjy,av,W,bf]
  rw[e];refine⟨.int _,H,I.kept λb ob e=>hk b ob (λhm=>?_) (ag _ e),⟨t',rfl⟩,q⟩;have z:b=s.heap.objs.size:=by simpa using hm
  exact bb _ (z▸ao e)
end
def x8 (n:Nat)(g:Nat->Int):List Int:=(List.range n).map g
theorem W3 (n:Nat)(g:Nat->Int):(x8 n g).length=n:=by unfold x8;rw[af,ay]
theorem qw9 {n i:Nat}{g:Nat->Int}(h:i<n):(x8 n g)[i]?=some (g i):=by unfold x8;rw[ax,bg h];rfl
theorem qzf (n:Nat)(g:Nat->Int):(x8 n g).map V.int=(List.range n).map λi=>V.int (g i):=by unfold x8;rw[aN];rfl
theorem vf {n:Nat}{f g:Nat->Int}(h:∀i,i<n->f i=g i):x8 n f=x8 n g:=bw λi hi=>h i (al.mp hi)
def MatAt (H:Hp)(p:Aj)(n:Nat)(f:Nat->Nat->Int):Prop:=∃ys,H p=some (.lst ys)/\ys.length=n/\∀i v,ys[i]?=some v->∃q,v=.ref q/\H q=some (.lst ((x8 n (f i)).map V.int))
theorem MatAt.same {H H':Hp}{p:Aj}{n:Nat}{f:Nat->Nat->Int}(h:MatAt H p n f)(s:Same H H'):MatAt H' p n f:=by obtain⟨ys,e,l,r⟩:=h;exact⟨ys,s _ _ e,l,λi v z=>let ⟨q,a,b⟩:=r i v z;⟨q,a,s _ _ b⟩⟩
theorem MatAt.row {H:Hp}{p:Aj}{n:Nat}{f:Nat->Nat->Int}(h:MatAt H p n f){ys:List V}(e:H p=some (.lst ys)){i:Nat}(hi:i<n):∃q,ys[i]?=some (.ref q)/\H q=some (.lst ((x8 n (f i)).map V.int)):=by obtain⟨F,D,l,r⟩:=h;rw[e]at D;cases D;have z:ys[i]?=some ys[i]:=aa ⋯;obtain⟨q,a,b⟩:=r i _ z;exact⟨q,by rw[z,a],b⟩
def vw (n:Nat)(g:Nat->Int):Int:=(x8 n g).sum
theorem k7 (n:Nat)(g:Nat->Int):vw (n+1) g=vw n g+g n:=by unfold vw x8;rw[bz,aK,bZ];simp
theorem xz1 (n:Nat)(g h:Nat->Int):vw n (λi=>g i+h i)=vw n g+vw n h:=by
 induction n with
 |zero=>rfl
 |succ n ih=>rw[k7,k7,k7,ih];lia
theorem qqy (n:Nat)(g:Nat->Int)(h:∀i,i<n->g i=0):vw n g=0:=by
 induction n with
 |zero=>rfl
 |succ n ih=>rw[k7,ih λi hi=>h i ⋯,h n ⋯];rfl
theorem jy {n:Nat}{g h:Nat->Int}(e:∀i,i<n->g i=h i):vw n g=vw n h:=by unfold vw;rw[vf e]
theorem wwp {n i:Nat}(hi:i<n)(g:Nat->Int):vw n (λk=>(if k=i then 1 else 0)*g k)=g i:=by
 induction n with
 |zero=>lia
 |succ n ih =>
  rw[k7];rcases(by lia:i<n\/i=n) with z|z
  .rw[ih z,ar ⋯];lia
  .subst z;rw[aw rfl,qqy _ _ λk D=>by rw[ar ⋯,hU]];lia
theorem wwd {α:Type}(n:Nat)(F:α->Nat->Int):∀L:List α,(L.map λv=>vw n (F v)).sum=vw n λk=>(L.map λv=>F v k).sum
 |[]=>by rw[di,eG,qqy];intro i _;rfl
 |v::L=>by rw[aC,bi,wwd n F L,<-xz1];refine jy λk _=>?_;rw[aC,bi]
def x4 (cov:Nat->List Int):Nat->Nat->Nat->Int
 |0=>λi j=>if j=i then 1 else 0
 |m+1=>λi j=>((cov i).map λv=>x4 cov m v.toNat j).sum
end L2
namespace L2
open PySem PySem.Spec PyProof.Rows
section
variable {X:Cx}{tg:Expr}
end
end L2
namespace L2
open PySem
end L2
namespace L2
open PySem PySem.Spec PyProof.Rows
def tLR1 (ta:TA):TE:=λσ H Q=>ta σ H λvs H1=>∃j:Int,vs=[.int j]/\(-(2 ^ 40)<=j/\j<2 ^ 40)/\j.toNat<=1000000/\∀q,H1 q=none->Q (.ref q) (upd H1 q (.lst ((List.range j.toNat).map λk:Nat=>V.int ((0:Int)+k))))
theorem qkj {X:Cx}{b:Expr}{ta:TA}{p1 pos1 p2 pos2:Pos}(hc:X.calm=true)(hgl:Gl X "list")(hml:X.mg "list" = none)(hg:Gl X "range")(hm:X.mg "range" = none)(ha:PA X [b] ta)
  (hs:autoParam (starEach [b] X.env=[(false,eval b X.env)]) aU4._auto_1) (hs3:autoParam (starEach [(.Call (.Name "range" p1) [b] [] pos1)] X.env=[(false,eval (.Call (.Name "range" p1) [b] [] pos1) X.env)]) aU4._auto_1) :
  PE X (.Call (.Name "list" p2) [.Call (.Name "range" p1) [b] [] pos1] [] pos2) (tLR1 ta):=by
 intro pins s σ H Q I h;refine cQ (j3 I hgl hml cK ?_);refine bB (e:=.Call (.Name "range" p1) [b] [] pos1) (rest:=[]) ?_ hs3 rfl;rw[hs3];show wpAny _ _ (spliced ((false,eval (.Call (.Name "range" p1) [b] [] pos1) X.env)::[])) _ _ s;refine ib ?_;refine Call_ (j3 I hg hm i9 (bB (thn (ha pos1 pins s σ H _ I h) λus s1 ⟨vs,H1,I1,r1,q1⟩=>?_) hs rfl));obtain⟨j,e,⟨Z,W⟩,U,q⟩:=q1;subst e;cases r1 with
 |cons r rr =>
   cases rr;obtain⟨t',rfl⟩:=r;refine call_range_1 (iI ?_);have z:Inv X pins σ H1 { s1 with heap:=s1.heap.push { cls:=.type "range",data:=.fields #[.int 0 s1.toks,.int j t',.int 1 (s1.toks+1)] },toks:=s1.toks+1+1 }:=I1.kept λb o e=>ag _ e;refine call_list_range (n:=j.toNat) (z.ok.hd hc) (jH ..) (small_one ⋯ ⋯ ⋯ ⋯) (by have:=rangeSize_nat 0 j;simpa using this) ⋯ λh' tk L c' D e J=>?_;have F:((List.range j.toNat).map λk:Nat=>V.int ((0:Int)+k)).length<=sizeLine:=by
    rw[af,ay];have:(1000000:Nat)<sizeLine:=by decide
    lia
   exact⟨.ref _,_,z.laid (t':=tk) D (ak _) (show ObjOk X.prog X.w _ h' _ (.lst _) from ⟨F,L.toList,c',qxn J,by simpa using e⟩),rfl,q _ (z.hok.fresh (ak _))⟩
end L2
namespace L2
open PySem PySem.Spec PyProof.Rows
def qyy (X:Cx)(x y:Str)(M:List Nat):List Str:=x::y::M.map λj=>X.N.getD j Str.empty
def zk (M:List Nat)(σ:St)(o o':Option V):St:=o::o'::M.map λj=>(σ[j]?).join
abbrev zw (X:Cx)(scope:Scope)(cl:List (Str×Aj))(x y:Str)(M:List Nat)(C:Aj)(s2:Ab)(H2:Hp)(fp:List Aj)(pn:List (Aj×Obj)):Cx :=
 { X with N:=qyy X x y M,s₀:=s2,H₀:=H2,env:=compEnvC scope cl C X.env,outer:=X.stack,ex:=fp,fn:=λ_=>false,pn:=pn,xe:=λ_ _=>False }
section
variable {X:Cx}{pins:List (Aj×Obj)}{σ:St}{H:Hp}{s2:Ab}{scope:Scope}{cl:List (Str×Aj)}{x y:Str}{M:List Nat}{fp:List Aj}{C:Aj}{h1:Heap}{tk:Nat}
theorem Inv.comp2 (I:Inv X pins σ H s2)(hc:CapAll X.env cl)(hh:HasAll cl scope.names)(hm:CapIx X scope cl M)(hk:scope.kind=.function)(hC:s2.heap.objs.size<C)
  (keep:∀b o,s2.heap.get? b=some o->h1.get? b=some o) (hn:h1.Ns C λ_=>none) (hD:h1.get? s2.heap.objs.size=some { cls:=.type "list",data:=.seq #[] 0 })
  (hfp:∀b∈fp,k8 X pins H b) (hob:∀b∈fp,∃o,s2.heap.get? b=some o) :
  Inv (zw X scope cl x y M C s2 H fp (X.pn++pins)) [] (zk M σ none none) (upd H s2.heap.objs.size (.lst [])) { s2 with heap:=h1,toks:=tk }:=I.compG (xs:=[x,y]) hc hh hm hk hC keep hn ⟨aQ _,[],0,.nil,hD⟩ hfp hob
theorem Inv.uncomp2 {pins':List (Aj×Obj)}{σ':St}{H':Hp}{s':Ab}{h':Heap}(I:Inv X pins σ H s2)(hC:s2.heap.objs.size<=C)(hfp:∀b∈fp,k8 X pins H b)
  (J:Inv (zw X scope cl x y M C s2 H fp (X.pn++pins)) pins' σ' H' s') (hs:Heap.SameBut C s'.heap h'):Inv X pins σ H' { s' with heap:=h' }:=by
 have D:=J.base;have U:∀b o,s2.heap.get? b=some o->b≠C:=λb o e=>aB (aL (ao e) hC);have st:∀b o,b≠C->s'.heap.get? b=some o->h'.get? b=some o:=λb o n e=>(hs.2 b n).trans e;refine I.call' (s':={ s' with heap:=h' }) (ch:=fp) J.os ⟨λb o e n nb F=>st b o (U b o e) (D.keep b o e n nb F),λb o e n ad F=>?_,D.free,λb o e F=>?_,D.tups,D.frzs,D.tbls⟩ ?_ J.bare λb ab=>?_
 .obtain⟨sl,Z⟩:=D.slot b o e n ad F;exact⟨sl,st b _ (U b o e) Z⟩
 .obtain⟨o',Z⟩:=D.there b o e F;exact⟨o',st b _ (U b o e) Z⟩
 .intro b u W;have fr:H' C=none:=J.free;refine(J.hok b u W).stay (λc v L e=>st c v ?_ e) (λ_ z=>z) λ_ _ z=>z;rcases L with rfl|L
  .intro z;rw[z,fr]at W;cases W
  .intro z;rw[z,fr]at L;cases L
 .obtain⟨q1,q2,q3,q4,q5,q6⟩:=hfp b ab;exact⟨q4,q2,q5,q6⟩
end
theorem xyq {prog:Ac}{w:Ah}{A:Ae}{R:Result->Ab->Prop}{s:Ab}{elt t0 i0 t1 i1:Expr}{scope:Scope}{pos:Pos}{it acc:Ag}{env:Env}{ifs:List Expr}
  (h1:codeAny (model prog w) A (Code.compLoop (elt.ListComp [⟨t0,i0,[],0⟩,⟨t1,i1,ifs,0⟩] scope pos) 1 it acc env) R s)
  (h2:∀(E:Ag->Ab->Prop),wpAny (model prog w) A (pyIter it) (λit' s'=>codeAny (model prog w) A (Code.compLoop (elt.ListComp [⟨t0,i0,[],0⟩,⟨t1,i1,ifs,0⟩] scope pos) 1 it' acc env) R s') E s) :
  codeAny (model prog w) A (Code.compStart (elt.ListComp [⟨t0,i0,[],0⟩,⟨t1,i1,ifs,0⟩] scope pos) 1 it acc env) R s:=by
 refine codeAny_of_tree ?_;show wpAny (model prog w) _ ((compStart (elt.ListComp [⟨t0,i0,[],0⟩,⟨t1,i1,ifs,0⟩] scope pos) 1 it acc env).onRaise (λz=>do noteFrame z env;standAt theWindowsPlace)) _ _ s;refine wpAny_onRaise ?_;unfold compStart;rw[ar (show ¬ ((clausesOf (elt.ListComp [⟨t0,i0,[],0⟩,⟨t1,i1,ifs,0⟩] scope pos))[1]?.elim false λx=>x.is_async != 0)=true from aI)];refine ac (fk ?_);split
 .exact ai ⟨rfl,h1⟩
 .refine ac (eB ?_);show wpAny _ _ (standAt i1.pos >>= λ_=>pyIter it >>= λz=>again (Code.compLoop (elt.ListComp [⟨t0,i0,[],0⟩,⟨t1,i1,ifs,0⟩] scope pos) 1 z acc env)) _ _ s;refine ac (dh (ac (aY (h2 _) (λz s' D=>ai ⟨rfl,D⟩) λ_ _ e=>e)))
section
variable {X:Cx}{elt iter iter2:Expr}{x y:Str}{px py pos:Pos}{scope:Scope}{cl:List (Str×Aj)}{M:List Nat}{wi wi2:TI}{te:TE}
end
section
variable {X:Cx}{elt iter iter2:Expr}{x y2:Str}{px py2 pos:Pos}{scope:Scope}{cl:List (Str×Aj)}{M:List Nat}{wi wi2:TI}{te:TE}
end
end L2
namespace L2
open PySem PySem.Spec PyProof.Rows
theorem Yb {X:Cx}{K:Aa}(hK:X.K=K):IxR X (rIxT K):=by subst hK;exact wt
end L2
namespace L2
open PySem PySem.Spec PyProof.Rows
theorem wy5 {prog:Ac}{w:Ah}{A:Ae}{E:Ag->Ab->Prop}{s:Ab}{l b:Aj}{Q:Ag->Ab->Prop}(h1:s.TypeIs (.ref l) "list")(h2:s.TypeIs (.ref b) "list")
  (h:wpAny (model prog w) A (call (.builtin "list.__iadd__") [.ref l,.ref b]) Q E s):wpAny (model prog w) A (inplaceOp .Add (.ref l) (.ref b)) Q E s:=by
 unfold inplaceOp;refine cg ?_;refine ac (wpAny_typeOf h1 ?_);have D:typeLookup (.type "list") (dunderI "add")=pure (some (.builtin "list.__iadd__")):=F.slot_list_iadd.lookup;have z:isSeqSlot (some (.builtin "list.__iadd__"))=true:=by decide +kernel
 have U:fillsInplaceSlot (.type "list") (Operator.Add).info.snd (Operator.Add==Operator.Add)=pure false:=by show fillsInplaceSlot (.type "list") "add" true=pure false;unfold fillsInplaceSlot;show(typeLookup (.type "list") (dunderI "add") >>= λJ=>pure (J.isSome&&!isSeqSlot J))=pure false;rw[D];show(pure (true&&!isSeqSlot (some (.builtin "list.__iadd__"))):Sem Bool)=pure false;rw[z];rfl
 rw[U];refine ac (ai ?_);rw[ar aI];refine ac ?_;show wpAny _ _ (binaryOp1 "add" (.ref l) (.ref b)) _ _ s;refine wpAny_binaryOp1_none h1 h2 noFill_list_add ?_;have L:seqSlot? (.type "list") (dunderI "add")=pure (some (.builtin "list.__iadd__")):=by unfold seqSlot?;rw[D];show(if(!isSeqSlot (some (.builtin "list.__iadd__")))=true then(pure none:Sem (Option Ag)) else _)=_;rw[z,ar ⋯];rfl
 show wpAny _ _ (seqSlot? (.type "list") (dunderI "add") >>= _) _ _ s;rw[L];refine ac (ai ?_);exact ac (eB h)
def ipCat:TIp:=λx y H Q=>∃l b xs zs,x=.ref l/\y=.ref b/\H l=some (.lst xs)/\H b=some (.lst zs)/\xs.length+zs.length<=sizeLine/\Q (.ref l) (upd H l (.lst (xs++zs)))
section
variable {X:Cx}
theorem xxg:PIp X .Add ipCat:=by
 intro pins s σ H x y v u Q I Z W h;obtain⟨l,b,xs,zs,rfl,rfl,L,hB,hz,q⟩:=h;cases Z;cases W;obtain⟨z,D,n,r,hl,e⟩:=I.lstM L;obtain⟨z2,J,n2,r2,ah,U⟩:=I.lstM hB;have ab:D.toArray.size+J.toArray.size<=sizeLine:=by rw[av,av];lia
 have ad:¬ (!D.toArray.isEmpty&&Builtin.List.listTooLong (D.toArray.size+J.toArray.size))=true:=by rw[wq5 ab,gn];exact aI
 refine wy5 ⟨_,e,rfl⟩ ⟨_,U,rfl⟩ ?_;refine call_meets F.slot_list_iadd ⟨_,e,rfl⟩ F.entry_list_iadd (F.args_list_iadd_2 _ _)
  (AutoSeq1.list___iadd___list_list_0 l D.toArray n b J.toArray n2 ad (by rw[av];lia) ⋯) ⟨e,U,?_⟩
 refine⟨.ref l,_,I.lset (its':=D++J) L e (by simp) (r.append r2) ?_,rfl,q⟩;rw[au];lia
end
structure Fresh (H H':Hp)(qs:List Aj)(os:List HO):Prop where
 len:qs.length=os.length
 nd:qs.Nodup
 new:∀q∈qs,H q=none
 at_:∀(i:Nat) q o,qs[i]?=some q->os[i]?=some o->H' q=some o
end L2
namespace L2
open PySem PySem.Spec PyProof.Rows
section
variable {X:Cx}{pins:List (Aj×Obj)}{σ:St}{H:Hp}{s:Ab}{h':Heap}{ch:List Aj}
theorem Inv.turnedL {tk:Nat}(I:Inv X pins σ H s)(hk:∀b u,b∉ch->s.heap.get? b=some u->h'.get? b=some u)(hf:∀b∈ch,k8 X pins H b):Inv X pins σ H { s with heap:=h',toks:=tk }:=by
 refine I.call' (s':={ s with heap:=h',toks:=tk }) (ch:=ch) rfl ⟨λb o e n _ D=>hk b o D e,λb o e n _ D=>⟨o.slots,hk b o D e⟩,λb o e n _=>n,λb o e D=>⟨o,hk b o D e⟩,λ_ _ e=>e,λ_ _ _ e=>e,λb ps e=>⟨#[],by rw[e];simp⟩⟩ ?_ I.bare λb hb=>?_
 .intro b u J;refine(I.hok b u J).stay (λc v F e=>hk c v (λz=>?_) e) (λ_ z=>z) λ_ _ z=>z;have:=(hf c z).1;rcases F with rfl|F
  .rw[this]at J;cases J
  .rw[this]at F;cases F
 .obtain⟨q1,Z,q3,W,U,L⟩:=hf b hb;exact⟨W,Z,U,L⟩
theorem Inv.turnedT {tk:Nat}{o:HO}{ob:Obj}(I:Inv X pins σ H s)(hk:∀b u,b∉ch->s.heap.get? b=some u->h'.get? b=some u)(hn:h'.get? s.heap.objs.size=some ob)(hf:∀b∈ch,k8 X pins H b)(hc:∀b∈ch,b≠s.heap.objs.size)
  (ok:ObjOk X.prog X.w (upd H s.heap.objs.size o) (s.heap.push ob) s.heap.objs.size o) (fr:ob.isFreed=false):Inv X pins σ (upd H s.heap.objs.size o) { s with heap:=h',toks:=tk }:=by
 have J:Inv X pins σ (upd H s.heap.objs.size o) { s with heap:=s.heap.push ob,toks:=tk }:=I.laid (t':=tk) (λb u e=>ag _ e) (ak _) ok;refine Inv.turnedL (s:={ s with heap:=s.heap.push ob,toks:=tk }) (ch:=ch) J (λb u F e=>?_) λb z=>?_
 .rcases Heap.get?_push_cases e with⟨rfl,rfl⟩|e
  .exact hn
  .exact hk b u F e
 .obtain⟨D,q⟩:=hf b z;exact⟨by rw[wx (hc b z)];exact D,q⟩
theorem xjk {x y:V}{u v:Ag}(I:Inv X pins σ H s)(rx:RelV x u)(ry:RelV y v):ObjOk X.prog X.w (upd H s.heap.objs.size (.tup [x,y])) (s.heap.push { cls:=.type "tuple",data:=.seq #[u,v] }) s.heap.objs.size (.tup [x,y]):=by refine⟨by show 2<=sizeLine;decide,[u,v],.cons rx (.cons ry .nil),?_⟩;exact⟨_,aA _ rfl,rfl,_,rfl⟩
end
def ItZ (K:Aa)(a b:Aj)(xs ys:List V):It :=
 ⟨λi H=>SqL K H a xs/\SqL K H b ys/\i<xs.length/\i<ys.length,λi H v H'=>∃q x y,H q=none/\v=.ref q/\xs[i]?=some x/\ys[i]?=some y/\H'=upd H q (.tup [x,y]),λi H=>SqL K H a xs/\SqL K H b ys/\(xs.length<=i\/ys.length<=i)⟩
theorem xq0 {P:Ac}{w:Ah}{K:Aa}{es:List Expr}{k:Nat}{pos:Pos}(a b z TI TO i1 i2:Aj)(xs ys:List V)(ap:ZipApart z TI TO i1 i2 a b):Turn P w K (.Tuple es k pos) (ItZ K a b xs ys) [z,TI,TO,i1,i2] z
  (λi h=>IsZip h z TI TO .none/\IsPair h TI (.ref i1) (.ref i2)/\(∃u v,IsPair h TO u v)/\h.IsListIter i1 a i/\h.IsListIter i2 b i) where
 mem:=by simp
 obj:=λi h st c hc=>by
  obtain⟨h1,h2,⟨u,v,h3⟩,⟨o4,h4,c4,d4⟩,⟨o5,h5,c5,d5⟩⟩:=st;have hc':c=z\/c=TI\/c=TO\/c=i1\/c=i2:=by simpa using hc
  rcases hc' with rfl|rfl|rfl|rfl|rfl
  .exact⟨_,h1,λv z=>by cases z⟩
  .exact⟨_,h2,λv z=>by cases z⟩
  .exact⟨_,h3,λv z=>by cases z⟩
  .exact⟨_,h4,λv z=>by rw[d4]at z;cases z⟩
  .exact⟨_,h5,λv z=>by rw[d5]at z;cases z⟩
 keep:=λi h h' st k=>by obtain⟨h1,h2,⟨u,v,h3⟩,h4,h5⟩:=st;exact⟨k z (by simp) _ h1,k TI (by simp) _ h2,⟨u,v,k TO (by simp) _ h3⟩,h4.at λo e=>k i1 (by simp) o e,h5.at λo e=>k i2 (by simp) o e⟩
 item:=by
  intro X hP hw hK hc i pins s σ H E I hf st hg;subst hP hw hK;obtain⟨hq1,hq2,l1,l2⟩:=hg;obtain⟨its,rv,p,hz⟩:=I.list hq1;obtain⟨its2,rv2,p2,hz2⟩:=I.list hq2;have e1:xs[i]?=some xs[i]:=aa l1;have e2:ys[i]?=some ys[i]:=aa l2;obtain⟨u,hu,ru⟩:=rv.get e1;obtain⟨v,hv,rv'⟩:=rv2.get e2;obtain⟨h1,h2,⟨a0,b0,h3⟩,h4,h5⟩:=st;refine wpAny_pyNext_zip_item ap h1 h2 h3 h4 h5 p.isList p2.isList (x:=u) (y:=v) (by simpa using hu) (by simpa using hv) λh' g1 g2 g3 g4 g5 g6 g7=>?_;refine⟨_,rfl,wpAny_letOwnedTupleGo_zip (s:={ s with heap:=h' }) g1 λh'' f1 f2=>?_⟩;have hsz:∀c,c∈[z,TI,TO,i1,i2]->c≠s.heap.objs.size:=λc hc e=>by
   have hc':c=z\/c=TI\/c=TO\/c=i1\/c=i2:=by simpa using hc
   have hlt:c<s.heap.objs.size:=by
    rcases hc' with rfl|rfl|rfl|rfl|rfl
    .exact ao h1
    .exact ao h2
    .exact ao h3
    .obtain⟨o,e,_⟩:=h4;exact ao e
    .obtain⟨o,e,_⟩:=h5;exact ao e
   exact bb _ (e▸hlt)
  have keep:∀c o,c∉[z,TI,TO,i1,i2]->s.heap.get? c=some o->h''.get? c=some o:=λc o nc e=>by simp only[aO,List.not_mem_nil,or_false,not_or]at nc;rw[f2.2 c nc.1];exact g7 c o nc.1 nc.2.2.1 nc.2.2.2.1 nc.2.2.2.2 e
  have keepz:∀c o,c≠z->h'.get? c=some o->h''.get? c=some o:=λc o nc e=>(f2.2 c nc).trans e;have new:h''.get? s.heap.objs.size=some { cls:=.type "tuple",data:=.seq #[u,v] }:=keepz _ _ (dF (hsz z (by simp))) g5;have hTI:h''.get? TI=some { cls:=.type "tuple",data:=.seq #[.ref i1,.ref i2] }:=by refine keepz _ _ ap.TIz ?_;exact g7 TI _ ap.TIz ap.TITO ap.TIi1 ap.TIi2 h2
  refine⟨.ref s.heap.objs.size,_,Inv.turnedT (s:=s) (ch:=[z,TI,TO,i1,i2]) (tk:=s.toks) I keep new hf hsz (xjk I ru rv') rfl,rfl,⟨_,_,_,I.hok.fresh (ak _),rfl,e1,e2,rfl⟩,⟨f1,hTI,⟨u,v,keepz _ _ ap.TOz g2⟩,g3.at λo e=>keepz _ _ ap.i1z e,g4.at λo e=>keepz _ _ ap.i2z e⟩,λc hc=>?_⟩;rw[wx (hsz c hc)];exact(hf c hc).1
 done:=by
  intro X hP hw hK hc i pins s σ H E I hf st hg;subst hP hw hK;obtain⟨hq1,hq2,le⟩:=hg;obtain⟨its,rv,p,hz⟩:=I.list hq1;obtain⟨its2,rv2,p2,hz2⟩:=I.list hq2;have hl:=rv.length;have hl2:=rv2.length;obtain⟨h1,h2,⟨a0,b0,h3⟩,h4,h5⟩:=st;refine wpAny_pyNext_zip_end (I.ok.hd hc) ap h1 h2 h3 h4 h5 p.isList p2.isList ?_ λh' g=>⟨rfl,Inv.turnedL (ch:=[z,TI,TO,i1,i2]) (tk:=s.toks) I (λc o nc e=>?_) hf⟩
  .rcases le with le|le
   .exact .inl (dG (by rw[av];lia))
   .exact .inr (dG (by rw[av];lia))
  .simp only[aO,List.not_mem_nil,or_false,not_or]at nc;exact g c o nc.1 nc.2.2.1 nc.2.2.2.1 nc.2.2.2.2 e
 self:=λ_ _ _ _ _ st h=>wpAny_pyIter_zip st.1 h
section
variable {X:Cx}
def iZip (K:Aa)(ta:TA):TI:=λσ H R=>ta σ H λvs H1=>∃a b xs ys,vs=[.ref a,.ref b]/\SqL K H1 a xs/\SqL K H1 b ys/\R (ItZ K a b xs ys) H1
theorem pi_zip {a b:Expr}{ta:TA}{p pos:Pos}{es:List Expr}{k:Nat}{tpos:Pos}(hg:Gl X "zip")(hm:X.mg "zip" = none)(ha:PA X [a,b] ta)(hv:autoParam (bootBuiltins "zip" = some (.type "zip")) aU4._auto_1)
  (hs:autoParam (starEach [a,b] X.env=[(false,eval a X.env),(false,eval b X.env)]) aU4._auto_1) (hs2:autoParam (starEach [b] X.env=[(false,eval b X.env)]) aU4._auto_1):PI X (.Tuple es k tpos) (.Call (.Name "zip" p) [a,b] [] pos) (iZip X.K ta):=by
 intro pins s σ H R I h;refine Call_ (j3 I hg hm hv (bB (thn (ha pos pins s σ H _ I h) λus s1 ⟨vs,H1,I1,r1,q1⟩=>?_) (by rw[hs,hs2]) (by rw[hs2];rfl)));obtain⟨a,b,xs,ys,e,W,U,q⟩:=q1;subst e;cases r1 with
 |cons r rr =>
  cases rr with
  |cons r' rr =>
   cases rr;cases r;cases r';obtain⟨ah,rv,p,hz⟩:=I1.list W;obtain⟨ad,ab,p2,an⟩:=I1.list U;have L:a<s1.heap.objs.size:=by obtain⟨o,n,z,_⟩:=p;exact ao z
   have J:b<s1.heap.objs.size:=by obtain⟨o,n,z,_⟩:=p2;exact ao z
   refine call_zip_2 p.isList p2.isList λh' F g2 g3 g4 g5 g6 g7=>?_;refine wpAny_pyIter_zip F ?_;have I2:Inv X pins σ H1 { s1 with heap:=h' }:=I1.kept (t':=s1.toks) g7;refine⟨s1.heap.objs.size+4,[s1.heap.objs.size+4,s1.heap.objs.size+2,s1.heap.objs.size+3,s1.heap.objs.size,s1.heap.objs.size+1],_,_,H1,rfl,I2,xq0 a b _ _ _ _ _ xs ys (zipApart_new L J),⟨F,g2,⟨_,_,g3⟩,g4,g5⟩,λc Z=>?_,q⟩;have D:s1.heap.objs.size<=c:=by
    have:c=s1.heap.objs.size+4\/c=s1.heap.objs.size+2\/c=s1.heap.objs.size+3\/c=s1.heap.objs.size\/c=s1.heap.objs.size+1:=by simpa using Z
    rcases this with e | e | e | e | e <;> (rw[e];first | exact ak _ | exact i3 _ _)
   exact I1.fpOk D (I1.hok.fresh D)
end
section
variable {X:Cx}
end
section
variable {X:Cx}{elt iter tg:Expr}{x y2:Str}{pos:Pos}{scope:Scope}{cl:List (Str×Aj)}{M:List Nat}{wi:TI}{gg:TG}{te:TE}
end
theorem xyb {X:Cx}{K:Aa}{pos:Pos}{es:List Expr}{k:Nat}{t:TGs}{n:Nat}(hK:X.K=K)(hc:X.calm=true)(h:PGs X es t)(h1:autoParam ((assignEach es X.env).length=n) aU4._auto_1)(h2:autoParam (List.findIdx? (λx=>x.fst) (assignEach es X.env)=none) aU4._auto_1):PG X (.Tuple es k pos) (gTup K n t):=by subst hK;exact yz hc h h1 h2
def StayT (G:Nat->V->Hp->Prop):Prop:=∀i v H H',G i v H->(∀b o,(∀xs,o≠.lst xs)->H b=some o->H' b=some o)->G i v H'
theorem qq0 {M:List Nat}{lo:Int}{n:Nat}{te:TE}{σ:St}{H:Hp}{Q:VK}(G:Nat->V->Hp->Prop)(gs:StayT G)(hn:n<=1000000)
  (he:∀(i:Nat) (H':Hp) (R:VK),i<n->Same H H'->(∀v H'',Same H' H''->G i v H''->R v H'')->te (zh M σ (some (.int (lo+i)))) H' R)
  (k:∀p ys H',H p=none->Same H H'->H' p=some (.lst ys)->ys.length=n->(∀j v,ys[j]?=some v->G j v H')->Q (.ref p) H'):W6 (Itr lo n) M te σ H Q:=by
 intro p np;have Z:(1000000:Nat)<sizeLine:=by decide
 refine⟨λi m ys H2=>i<=n/\m=n-i/\ys.length=i/\Same H H2/\H2 p=some (.lst ys)/\∀j v,ys[j]?=some v->G j v H2,⟨n,aQ _,rfl,rfl,Same.upd np,qu,λj v e=>by cases e⟩,?_⟩;rintro i m ys H2 ⟨hi,rfl,hl,sm,hp,hG⟩;refine⟨hp,⋯,?_⟩;by_cases hlt:i<n
 .refine .inr ⟨hlt,?_⟩;rintro v H3 ⟨rfl,rfl⟩;refine he i H3 _ hlt sm λw L D W=>?_;have J:=D _ _ hp;have st:∀b o,(∀xs,o≠.lst xs)->L b=some o->upd L p (.lst (ys++[w])) b=some o:=λb o F e=>by
   rw[wx]
   .exact e
   .intro z;rw[z,J]at e;exact F _ (aq e).symm
  refine⟨J,n-(i+1),⋯,⋯,rfl,by rw[au,hl];rfl,λb o e=>?_,qu,λj v e=>?_⟩
  .rw[wx (wj e np)];exact D _ _ (sm _ _ e)
  .rcases bF j ys.length with z|z
   .rw[aU z]at e;exact gs j v _ _ (hG j v e) λb o F e=>st b o F (D _ _ e)
   .rw[aG z]at e;have U:j=i:=by
     rcases bF (j-ys.length) 1 with y|y
     .lia
     .rw[aP (by simpa using y)]at e;cases e
    subst U;rw[show j-ys.length=0 by lia]at e;cases e;exact gs j _ _ _ W st
 .have:i=n:=by lia
  subst this;exact .inl ⟨ak _,k p ys H2 np sm hp hl hG⟩
end L2
namespace HT
open PySem PySem.Spec PyProof.Rows
section
variable {prog:Ac}{w:Ah}{A:Ae}{E:Ag->Ab->Prop}{s:Ab}
theorem cat_tup0 {t b:Aj}{ws:List Ag}{Q:Ag->Ab->Prop}(ht:IsTup s.heap t #[])(hb:IsTup s.heap b ws.toArray)(h:Q (.ref b) s):wpAny (model prog w) A (binaryOp .Add (.ref t) (.ref b)) Q E s:=by obtain⟨⟨ap,dd,ah,Z⟩,D,U,n,J⟩:=id ht ;obtain⟨⟨an,ab,ad,W⟩,z,L,n2,F⟩:=id hb;simp only at U J L F ;subst U J L F;exact concat_meets ⟨_,D,rfl⟩ ⟨_,z,rfl⟩ iT seq_tuple_add gm fW (fC _ _) (tuple_addW0 t b #[] ws.toArray n n2 dd ab Z W (by simp)) ⟨D,z,h⟩
end
end HT
namespace L2
open PySem PySem.Spec PyProof.Rows
section
variable {X:Cx}
def rCatW (K:Aa):R2:=λx y H Q=>∃a b xs ys,x=.ref a/\y=.ref b/\SqT K H a xs/\SqT K H b ys/\xs.length+ys.length<=sizeLine /\
 (xs=[]->Q (.ref b) H)/\(xs≠[]->ys=[]->Q (.ref a) H)/\(xs≠[]->ys≠[]->∀p,H p=none->Q (.ref p) (upd H p (.tup (xs++ys))))
theorem xv5:OpR X (binaryOp .Add) (rCatW X.K):=by
 intro pins s σ H x y v u Q I D z h;obtain⟨a,b,xs,ys,rfl,rfl,J,F,hz,Z,W,U⟩:=h;by_cases hx:xs=[]
 .subst hx;cases D;cases z;obtain⟨ad,L,p1,_⟩:=I.tuple J;obtain⟨ab,r2,p2,_⟩:=I.tuple F;cases L;exact HT.cat_tup0 p1 p2 ⟨.ref b,H,I,rfl,Z rfl⟩
 .exact xyn pins s σ H (.ref a) (.ref b) v u Q I D z ⟨a,b,xs,ys,rfl,rfl,J,F,hx,hz,W hx,U hx⟩
end
end L2
namespace L2
open PySem PySem.Spec PyProof.Rows
end L2
namespace L2
open PySem PySem.Spec PyProof.Rows
section
universe u1 u2 u3 u4 u5 u6
variable {α:Sort u1}{β:Sort u2}{γ:Sort u3}{δ:Sort u4}{ε:Sort u5}{ζ:Sort u6}
theorem ex2 {p:α->β->Prop}(a:α)(b:β)(h:p a b):∃x y,p x y:=⟨a,b,h⟩
theorem ex3 {p:α->β->γ->Prop}(a:α)(b:β)(c:γ)(h:p a b c):∃x y z,p x y z:=⟨a,b,c,h⟩
theorem ex4 {p:α->β->γ->δ->Prop}(a:α)(b:β)(c:γ)(d:δ)(h:p a b c d):∃x y z t,p x y z t:=⟨a,b,c,d,h⟩
theorem ex5 {p:α->β->γ->δ->ε->Prop}(a:α)(b:β)(c:γ)(d:δ)(e:ε)(h:p a b c d e):∃x y z t r,p x y z t r:=⟨a,b,c,d,e,h⟩
theorem ex6 {p:α->β->γ->δ->ε->ζ->Prop}(a:α)(b:β)(c:γ)(d:δ)(e:ε)(f:ζ)(h:p a b c d e f):∃x y z t r s,p x y z t r s:=⟨a,b,c,d,e,f,h⟩
end
section
variable {K:Aa}{σ:St}{H:Hp}{Q:VK}{i i2:Nat}{j j2:Int}{p p2:Aj}{xs ys:List V}{v:V}
theorem rdT (e:σ[i]?=some (some (.ref p)))(h:SqT K H p xs)(a:atI xs j=some v)(q:Q v H):tOp (rIxT K) (yd i) (tC (.int j)) σ H Q:=⟨_,e,p,xs,j,v,rfl,rfl,h,a,q⟩
theorem rdTT (e:σ[i]?=some (some (.ref p)))(h:SqT K H p xs)(a:atI xs j=some (.ref p2))(h2:SqT K H p2 ys)(a2:atI ys j2=some v)(q:Q v H):tOp (rIxT K) (tOp (rIxT K) (yd i) (tC (.int j))) (tC (.int j2)) σ H Q:=⟨_,e,p,xs,j,_,rfl,rfl,h,a,p2,ys,j2,v,rfl,rfl,h2,a2,q⟩
theorem rdL (e:σ[i]?=some (some (.ref p)))(e2:σ[i2]?=some (some (.int j)))(h:SqL K H p xs)(a:atI xs j=some v)(q:Q v H):tOp (wv6 K) (yd i) (yd i2) σ H Q:=⟨_,e,_,e2,p,xs,j,v,rfl,rfl,h,a,q⟩
theorem rdLC (e:σ[i]?=some (some (.ref p)))(h:SqL K H p xs)(a:atI xs j=some v)(q:Q v H):tOp (wv6 K) (yd i) (tC (.int j)) σ H Q:=⟨_,e,p,xs,j,v,rfl,rfl,h,a,q⟩
end
theorem tn2 (n:Nat):((n:Int)-1).toNat=n-1:=by lia
theorem tn1 {m:Int}(h:1<=m):(m-1).toNat=m.toNat-1:=by obtain⟨n,rfl⟩:=fX (show 0<=m by lia);rw[tn2,bP]
theorem tn3 {m:Int}(h:1<=m):(m-1).toNat+1=m.toNat:=by rw[tn1 h];exact Nat.sub_add_cancel (Int.lt_toNat.mpr h)
theorem tnlt {m:Int}(h:1<=m):((m.toNat-1:Nat):Int)<m:=by rw[<-tn1 h,bR ⋯];lia
theorem tnsum {r t:Int}(h0:0<=r)(h1:1+r<t):(1+r).toNat-1+((t-(1+r)).toNat-1+1)=t.toNat-1:=by rw[<-tn1 (show 1<=1+r by lia),<-tn1 (show 1<=t-(1+r) by lia),<-tn1 (show 1<=t by lia),tn3 (show 1<=t-(1+r) by lia),<-Int.toNat_add ⋯ ⋯];congr 1;lia
end L2
namespace L2
open PySem PySem.Spec PyProof.Rows
def Rows (q:Aj)(B:Hp)(L:List (List V))(ys:List V)(H:Hp):Prop:=Paired (λv xs=>∃a,v=.ref a/\a≠q/\B a=none/\H a=some (.lst xs)) ys L
theorem Paired.mono {α β:Type}{R S:α->β->Prop}(h:∀a b,R a b->S a b):∀ {xs:List α} {ys:List β},Paired R xs ys->Paired S xs ys
 |_,_,.nil=>.nil
 |_,_,.cons r t=>.cons (h _ _ r) (Paired.mono h t)
theorem Paired.app {α β:Type}{R:α->β->Prop}:∀ {xs xs':List α} {ys ys':List β},Paired R xs ys->Paired R xs' ys'->Paired R (xs++xs') (ys++ys')
 |_,_,_,_,.nil,h=>h
 |_,_,_,_,.cons r t,h=>.cons r (Paired.app t h)
theorem yu {H H':Hp}(s:Same H H'){a:Aj}(n:H' a=none):H a=none:=by
 cases e:H a with
 |none=>rfl
 |some o=>rw[s _ _ e]at n;cases n
def uf (c:Nat->Bool)(xs:List V)(n:Nat):List V:=((List.range n).filter c).map λi=>xs.getD i .non
theorem Z6 {K:Aa}{M:List Nat}{a:Aj}{xs:List V}{tt:TT}{te:TE}{σ:St}{H:Hp}{Q:VK}(c:Nat->Bool)(hS:SqL K H a xs)(hn:xs.length<=1000000)
  (ht:∀(i:Nat) (x:V) (H':Hp) (R:Bool->Hp->Prop),xs[i]?=some x->Same H H'->(∀H'',Same H' H''->R (c i) H'')->tt (zh M σ (some x)) H' R)
  (he:∀(i:Nat) (x:V) (H':Hp) (R:VK),xs[i]?=some x->c i=true->Same H H'->(∀H'',Same H' H''->R x H'')->te (zh M σ (some x)) H' R)
  (k:∀p H',H p=none->Same H H'->H' p=some (.lst (uf c xs xs.length))->Q (.ref p) H'):wzs (Itl K a) M tt te σ H Q:=by
 intro p np;refine⟨λi m ys H2=>i<=xs.length/\m=xs.length-i/\ys=uf c xs i/\Same H H2/\H2 p=some (.lst ys),⟨xs.length,aQ _,rfl,rfl,Same.upd np,qu⟩,?_⟩;rintro i m ys H2 ⟨hi,rfl,rfl,sm,hp⟩;refine⟨hp,?_,?_⟩
 .unfold uf;rw[af];have:=cN c (List.range i);rw[ay]at this;have:(1000000:Nat)<sizeLine:=by decide
  lia
 .by_cases hlt:i<xs.length
  .have z:xs[i]?=some xs[i]:=aa hlt;refine .inr ⟨⟨xs,_,sm.sql hS,z⟩,?_⟩;rintro v H3 ⟨rfl,hv⟩;have e:=aq (z.symm.trans (hv xs (sm.sql hS)));subst e;refine ht i _ _ _ z sm λW D=>?_;have F:=D _ _ hp;have L:xs.getD i .non=xs[i]:=by rw[ae,z];rfl
   cases hc:c i with
   |true =>
    refine y9 ?_;refine he i _ _ _ z hc (sm.trans D) λU J=>⟨J _ _ F,xs.length-(i+1),⋯,⋯,rfl,?_,λb o e=>?_,qu⟩
    .unfold uf;rw[bz,fV,aK];simp only[dM,hc,cV,List.filter_nil,aC,di,L]
    .rw[wx (wj e np)];exact J _ _ (D _ _ (sm _ _ e))
   |false =>
    refine uc ?_;refine⟨F,xs.length-(i+1),⋯,⋯,rfl,?_,sm.trans D,F⟩;unfold uf;rw[bz,fV,aK];simp only[dM,hc,aD,bA,List.filter_nil,di,bE]
  .have:i=xs.length:=by lia
   subst this;exact .inl ⟨⟨xs,sm.sql hS,ak _⟩,k p H2 np sm hp⟩
end L2
namespace L2
open PySem PySem.Spec PyProof.Rows
def InnRI (J2:It)(M:List Nat)(tt:TT)(te:TE)(σ:St)(v:V)(p:Aj)(ys:List V)(H4:Hp)(Wx:List V->Hp->Prop):Prop:=∃W2:Nat->Nat->List V->Hp->Prop,(∃m2,W2 0 m2 ys H4) /\
 ∀j m2 zs H5,W2 j m2 zs H5->H5 p=some (.lst zs)/\zs.length<sizeLine/\((J2.stop j H5/\Wx zs H5)\/(J2.go j H5/\∀u H6,J2.yld j H5 u H6 ->
  tt (zk M σ (some v) (some u)) H6 λb H6'=>if b=true then te (zk M σ (some v) (some u)) H6' (λy H7=>H7 p=some (.lst zs)/\∃m2',m2'<m2/\W2 (j+1) m2' (zs++[y]) (upd H7 p (.lst (zs++[y])))) else H6' p=some (.lst zs)/\∃m2',m2'<m2/\W2 (j+1) m2' zs H6'))
def qy8 (J:It)(M:List Nat)(wi2:TI)(tt:TT)(te:TE)(σ:St)(H1:Hp)(Q:VK):Prop:=∀p,H1 p=none->∃W:Nat->Nat->List V->Hp->Prop,(∃m,W 0 m [] (upd H1 p (.lst []))) /\
 ∀i m ys H2,W i m ys H2->H2 p=some (.lst ys)/\((J.stop i H2/\Q (.ref p) H2)\/(J.go i H2/\∀v H3,J.yld i H2 v H3 ->
  wi2 (zk M σ (some v) none) H3 λJ2 H4=>InnRI J2 M tt te σ v p ys H4 λzs H5=>∃m',m'<m/\W (i+1) m' zs H5))
def xyh (M:List Nat)(wi wi2:TI)(tt:TT)(te:TE):TE:=λσ H Q=>wi σ H λJ H1=>qy8 J M wi2 tt te σ H1 Q
section
variable {X:Cx}{elt iter iter2 cd:Expr}{x y:Str}{px py pos:Pos}{scope:Scope}{cl:List (Str×Aj)}{M:List Nat}{wi wi2:TI}{tt:TT}{te:TE}
theorem wqw (M:List Nat)(σ:St)(v:V):(zk M σ none none).length=(zk M σ (some v) none).length/\∀(k:Nat) z,(zk M σ none none)[k]?=some (some z)->(zk M σ (some v) none)[k]?=some (some z):=⟨rfl,λk z ez=>by
 match k,ez with
 |0,ez=>cases ez
 |1,ez=>cases ez
 |k+2,ez=>exact ez⟩
theorem qjr (M:List Nat)(σ:St)(v:Option V)(u:V):(zk M σ v none).length=(zk M σ v (some u)).length/\∀(k:Nat) z,(zk M σ v none)[k]?=some (some z)->(zk M σ v (some u))[k]?=some (some z):=⟨rfl,λk z ez=>by
 match k,ez with
 |0,ez=>exact ez
 |1,ez=>cases ez
 |k+2,ez=>exact ez⟩
def inrS (i1:Expr)(e:Expr)(acc:Ag)(env:Env)(c:Code):Sem PySem.Fin:=eval i1 env >>= λx=>standAt i1.pos >>= λ_=>foldedSetIterable i1 env x >>= λx=>holding [x] (pyIter x) >>= λit1=>runOwn (Code.compStart e 1 it1 acc env) env >>= λ_=>again c
theorem xju (elt t0 i0 t1 i1 cd:Expr)(scope:Scope)(pos:Pos)(it acc:Ag)(env:Env):compTurn (elt.ListComp [⟨t0,i0,[],0⟩,⟨t1,i1,[cd],0⟩] scope pos) 0 it acc env=(standAt i0.pos >>= λ_=>pyNext it >>= λr=>match r with|none=>pure (.done .next)|some v=>letOwnedTupleGo t0 it v >>= λ_=>assign t0 env v >>= λ_=>inrS i1 (elt.ListComp [⟨t0,i0,[],0⟩,⟨t1,i1,[cd],0⟩] scope pos) acc env (Code.compLoop (elt.ListComp [⟨t0,i0,[],0⟩,⟨t1,i1,[cd],0⟩] scope pos) 0 it acc env)):=rfl
theorem xv7 (elt t0 i0 t1 i1 cd:Expr)(scope:Scope)(pos:Pos)(it acc:Ag)(env:Env):compTurn (elt.ListComp [⟨t0,i0,[],0⟩,⟨t1,i1,[cd],0⟩] scope pos) 1 it acc env=(standAt i1.pos >>= λ_=>pyNext it >>= λr=>match r with|none=>pure (.done .next)|some v=>letOwnedTupleGo t1 it v >>= λ_=>assign t1 env v >>= λ_=>tstS cd env (appS elt acc env (Code.compLoop (elt.ListComp [⟨t0,i0,[],0⟩,⟨t1,i1,[cd],0⟩] scope pos) 1 it acc env)) (again (Code.compLoop (elt.ListComp [⟨t0,i0,[],0⟩,⟨t1,i1,[cd],0⟩] scope pos) 1 it acc env))):=rfl
theorem xvr {Y:Cx}{t0 i0 t1:Expr}{p:Aj}{c:Code}{σ:St}{H:Hp}{pins:List (Aj×Obj)}{s:Ab}{R2:It->Hp->Prop}{Post:Ab->Prop}(hi2:PI Y t1 iter2 wi2)(hs2:∀z,foldedSetIterable iter2 Y.env z=pure z)(J:Inv Y pins σ H s)(h:wi2 σ H R2)
  (go:∀(it2:Aj) (fp2:List Aj) (tn2:Nat->Heap->Prop) (J2:It) (H8:Hp) (s8:Ab),Inv Y pins σ H8 s8->Turn Y.prog Y.w Y.K t1 J2 fp2 it2 tn2->tn2 0 s8.heap->(∀b∈fp2,k8 Y pins H8 b)->R2 J2 H8 ->
   codeAny (model Y.prog Y.w) Y.A (.compLoop (elt.ListComp [⟨t0,i0,[],0⟩,⟨t1,iter2,[cd],0⟩] scope pos) 1 (.ref it2) (.ref p) Y.env) (λr s'=>match r with|.ok _=>Post s'|.error _=>False) s8) :
  wpAny (model Y.prog Y.w) Y.A (inrS iter2 (elt.ListComp [⟨t0,i0,[],0⟩,⟨t1,iter2,[cd],0⟩] scope pos) (.ref p) Y.env c) (λr s5=>r=Fin.again c/\Post s5) Y.xe s:=by
 refine ac (aY (hi2 _ s _ H _ J h) (λv1 s7 h7=>?_) λ_ _ z=>z);refine ac (dh ?_);rw[hs2];refine ac (ai (ac (cg (aY h7 (λab s8 h8=>?_) λ_ _ z=>z))));obtain⟨it2,fp2,tn2,Jb,H8,rfl,I8,U,D,W,Z⟩:=h8;refine ac (wpAny_runOwn ?_);have F:=go it2 fp2 tn2 Jb H8 s8 I8 U D W Z;refine fh (xyq F λE2=>U.self _ 0 _ _ _ D F) λr s' L=>?_;cases r with
 |ok f=>exact ai ⟨rfl,L⟩
 |error e=>exact L.elim
theorem wz1 (hc:X.calm=true)(hclos:closureFor scope X.env=pure cl)(hcap:CapAll X.env cl)(hhas:HasAll cl scope.names)(hix:CapIx X scope cl M)(hk:scope.kind=.function)
  (hnames:∀y∈scope.names,y.2=.local->scope.names.lookup y.1=some .local) (hx:scope.names.lookup x=some .local) (hy:scope.names.lookup y=some .local) (hnd:(qyy X x y M).Nodup) (hi:PI X (.Name x px) iter wi)
  (hi2:∀C s2 H2 fp pn,PI (zw X scope cl x y M C s2 H2 fp pn) (.Name y py) iter2 wi2)
  (ht:∀C s2 H2 fp pn,PT (zw X scope cl x y M C s2 H2 fp pn) cd tt) (he:∀C s2 H2 fp pn,PE (zw X scope cl x y M C s2 H2 fp pn) elt te) (hs:∀z,foldedSetIterable iter X.env z=pure z) (hs2:∀env z,foldedSetIterable iter2 env z=pure z)
  {use:Option (Ag->Sem Unit)} {QQ:Ag->Ab->Prop} {pins:List (Aj×Obj)} {s:Ab} {σ:St} {H:Hp} {Q:VK} {ps:Pos} (I:Inv X pins σ H s) (h:wi σ H λJ H1=>qy8 J M wi2 tt te σ H1 Q)
  (fin:∀(C:Aj) (s2 s4:Ab) (H1 H2:Hp) (fp:List Aj),Inv X pins σ H1 s2->s2.heap.objs.size<C->(∀b∈fp,k8 X pins H1 b)->Inv (zw X scope cl x y M C s2 H1 fp (X.pn++pins)) [] (zk M σ none none) H2 s4->Q (.ref s2.heap.objs.size) H2 ->
   compPost (model X.prog X.w) X.A X.xe use QQ (.ref s2.heap.objs.size) C (.ok .next) s4) :
  wpAny (model X.prog X.w) X.A (comprehension (.ListComp elt [⟨.Name x px,iter,[],0⟩,⟨.Name y py,iter2,[cd],0⟩] scope pos) scope X.env ps (newList []) false (eval iter X.env) use) QQ X.xe s:=by
 refine Jy hclos hhas hk hnames hi hs I h λit fp tn J H1 s2 C h3 tk I2 T t3 Z ap a6 hR ad a1 a7 hD=>?_;obtain⟨W,⟨m0,w0⟩,hW⟩:=hR s2.heap.objs.size (I2.hok.fresh (ak _));have an:(relabel scope X.env).names.lookup x=some .local:=dX hx;have ah:(relabel scope X.env).names.lookup y=some .local:=dX hy;have hT:=hi2 C s2 H1 fp (X.pn++pins);have hE:=he C s2 H1 fp (X.pn++pins);have hC:=ht C s2 H1 fp (X.pn++pins);have g0:PG (zw X scope cl x y M C s2 H1 fp (X.pn++pins)) (.Name x px) (Yt 0):=xz (i:=0) hnd rfl (.inl an) (.inr an);have g1:PG (zw X scope cl x y M C s2 H1 fp (X.pn++pins)) (.Name y py) (Yt 1):=xz (i:=1) hnd rfl (.inl ah) (.inr ah);have fo:=Ym (N:=qyy X x y M) (scope:=scope) hcap I2 ad Z ap;have I0:=I2.comp2 (x:=x) (y:=y) (tk:=tk) hcap hhas hix hk ad a1 a7 hD Z a6;have fn:=λH2 s4 J4 q=>fin C s2 s4 H1 H2 fp I2 ad Z J4 q;refine j4 (Y:=zw X scope cl x y M C s2 H1 fp (X.pn++pins)) (V:=λi n H2=>∃ys,W i n ys H2) (Qd:=Q (.ref s2.heap.objs.size)) (REST:=inrS iter2 _ (.ref s2.heap.objs.size) (compEnvC scope cl C X.env) _) T hc (λ_ _ z=>z) (xju ..) rfl rfl g0 fo (λi n H2 ⟨ys,w⟩=>?_) fn I0 ⟨[],w0⟩ t3 λb L=>by rw[wx (aB (ap b L))];exact(Z b L).1
 obtain⟨hp,bk⟩:=hW i n ys H2 w;refine bk.imp id λ⟨a9,a3⟩=>⟨a9,λv H3 yl=>⟨λσ4 H4=>σ4=zk M σ (some v) none/\H3=H4,⟨rfl,rfl⟩,λ_ _ e=>?_⟩⟩;obtain⟨rfl,rfl⟩:=e;refine⟨wqw M σ v,λbm s' J=>?_⟩;refine xvr hT (hs2 _) J (a3 v H3 yl) λit2 fp2 tn2 J2 H8 s8 I8 T2 t8 hfp2 ⟨W2,⟨m2,w2⟩,hW2⟩=>?_;refine j4 (Y:=zw X scope cl x y M C s2 H1 fp (X.pn++pins)) (V:=λj U F=>∃zs,W2 j U zs F) (Qd:=λF=>∃zs D,D<n/\W (i+1) D zs F) (REST:=tstS cd (compEnvC scope cl C X.env) (appS elt (.ref s2.heap.objs.size) (compEnvC scope cl C X.env) _) (again _)) T2 hc (λ_ _ z=>z) (xv7 ..) rfl rfl g1 (λF hn b L=>⟨hn b L,(hfp2 b L).2⟩) (λj U F ⟨zs,w9⟩=>?_)
  (λF s9 J9 ⟨zs,D,ab,wq⟩=>⟨F,J9,D,ab,zs,wq⟩) I8 ⟨ys,w2⟩ t8 λb L=>(hfp2 b L).1
 obtain⟨bq,a2,bd⟩:=hW2 j U zs F w9;refine bd.imp (λ⟨a5,D,ab,wq⟩=>⟨a5,zs,D,ab,wq⟩) λ⟨a8,a4⟩=>⟨a8,λu as a0=>⟨λσ4 H4=>σ4=zk M σ (some v) (some u)/\as=H4,⟨rfl,rfl⟩,λ_ _ e=>?_⟩⟩;obtain⟨rfl,rfl⟩:=e;refine⟨qjr M σ (some v) u,λbl s9 J9=>?_⟩;exact Y4 hC J9 (a4 u as a0) (λs6 H6 J6 h6=>aY (Yd (N:=λzs H5=>∃D,D<U/\W2 (j+1) D zs H5) (λ_ _ z=>z) hE J6 a2 h6) (λr s5 ⟨e,H5,J5,zs,D,hm,w'⟩=>⟨e,H5,J5,D,hm,zs,w'⟩) λ_ _ z=>z)
  λs6 H6 J6 ⟨_,D,hm,w'⟩=>ai ⟨rfl,H6,J6,D,hm,zs,w'⟩
end
section
variable {X:Cx}{elt iter iter2 cd:Expr}{x y2:Str}{px py2 pos:Pos}{scope:Scope}{cl:List (Str×Aj)}{M:List Nat}{wi wi2:TI}{tt:TT}{te:TE}
theorem qy3 {i:Nat}{y:Str}{py spos:Pos}(hN:X.N.Nodup)(hyi:X.N[i]?=some y)(hyl:Loc X.env.scope y)(hc:X.calm=true)(hclos:closureFor scope X.env=pure cl)(hcap:CapAll X.env cl)(hhas:HasAll cl scope.names)(hix:CapIx X scope cl M)(hk:scope.kind=.function)
  (hnames:∀y∈scope.names,y.2=.local->scope.names.lookup y.1=some .local) (hx:scope.names.lookup x=some .local) (hy2:scope.names.lookup y2=some .local) (hnd:(qyy X x y2 M).Nodup) (hi:PI X (.Name x px) iter wi) (hi2:∀C s2 H2 fp pn,PI (zw X scope cl x y2 M C s2 H2 fp pn) (.Name y2 py2) iter2 wi2)
  (ht:∀C s2 H2 fp pn,PT (zw X scope cl x y2 M C s2 H2 fp pn) cd tt) (he:∀C s2 H2 fp pn,PE (zw X scope cl x y2 M C s2 H2 fp pn) elt te) (hs:autoParam (∀z,foldedSetIterable iter X.env z=pure z) aU3._auto_1) (hs2:∀env z,foldedSetIterable iter2 env z=pure z:=by intros;rfl)
  (hsw:autoParam (swapsWith (.ListComp elt [⟨.Name x px,iter,[],0⟩,⟨.Name y2 py2,iter2,[cd],0⟩] scope pos) (some (.Name y py)) spos.line X.env=pure true) aU4._auto_1) (hyf:autoParam (X.fn y=true\/X.env.scope.names.lookup y=some .local) aU0._auto_1) :
  PS X (.Assign [.Name y py] (.ListComp elt [⟨.Name x px,iter,[],0⟩,⟨.Name y2 py2,iter2,[cd],0⟩] scope pos) spos) (tAsg (xyh M wi wi2 tt te) (Yt i)):=by
 intro pins s σ H D I h;rw[exec_Assign_Name_used _ _ _ _ hsw];refine ac (dh (ac ?_));refine ac (aY (wz1 hc hclos hcap hhas hix hk hnames hx hy2 hnd hi hi2 ht he hs hs2 (use:=some (assign (.Name y py) X.env)) (QQ:=λ_ s'=>SP X pins D .next s') I h λC s2 W H1 H2 fp J L a0 J4 hq=>?_) (λ_ s' hq=>ai (ai hq)) λ_ _ e=>e);have F:Inv X pins σ H2 W:=J.uncomp2 (h':=W.heap) (bp L) a0 J4 (Heap.SameBut.refl _ _);have ah:H2 C=none:=J4.free;obtain⟨mC,as,_⟩:=J4.loc;obtain⟨Z,a6,a7,ap,ad⟩:=id as;have ab:C≠X.env.locals:=λz=>bb _ (bn L (z▸J.lt));have a2:X.s₀.heap.objs.size<=C:=bI J.sz (bp L);have a4:∀y c,X.env.cells.lookup y=some c->c≠C:=λy c e z=>by obtain⟨v,o,U,_⟩:=J.cell y c e;exact bb _ (bn L (z▸ao U))
 have a3:∀p∈X.pn++pins,p.1≠C:=λp hp z=>bb _ (bn L (z▸ao (J.pin p hp).1));have a9:C∉frs X.stack:=λz=>by
  rcases aO.mp (J.stkSub C z) with q|q
  .exact ab q
  .obtain⟨_,o,U,_⟩:=J.funs.mem (b:=C) q;exact bb _ (bn L (ao U))
 have a1:C∉X.fs:=λz=>by obtain⟨_,o,U,_⟩:=J.funs.mem (b:=C) z;exact bb _ (bn L (ao U))
 have a8:Inv X (pins++[(C,Z)]) σ H2 W:=⟨F.ok,F.os,F.bare,F.base,F.loc,F.cell,F.free,F.freeC,λp hp=>by
  rcases aW.mp hp with q|q
  .exact F.pin p (cn _ q)
  .rcases aW.mp q with q|q
   .exact F.pin p (aH _ q)
   .rw[aM.mp q]
    exact⟨ap,ah,ab,a1,λv z=>by rw[ad.1]at z;cases z⟩,F.hok,F.len⟩
 show wpAny _ _ (assign (.Name y py) X.env (.ref s2.heap.objs.size)) _ _ _;refine iG (yr a8 hN hyi hyl (show RelV (.ref s2.heap.objs.size) (.ref s2.heap.objs.size) from rfl) (λs5 I5=>?_) hyf);have a5:=(I5.pin (C,Z) (aH _ (aH _ (.head _)))).1;exact⟨mC,⟨Z,a6,a7,a5,ad⟩,λh' an=>⟨_,H2,I5.unpinned.but ah a2 ab a4 a3 an,hq⟩⟩
end
end L2
namespace L2
open PySem PySem.Spec PyProof.Rows
def Itd (a:Int)(n:Nat):It:=⟨λi _=>i<n,λi H x H'=>H'=H/\x=.int (a-i),λi _=>n<=i⟩
theorem xqk {P:Ac}{w:Ah}{K:Aa}{tg:Expr}(it:Aj)(a:Int)(n:Nat):Turn P w K tg (Itd a n) [it] it (λi h=>IsRangeIter h it (a+(i:Nat)*(-1)) ((n:Int)-(i:Nat)) (-1)) where
 mem:=by simp
 obj:=λi h st b hb=>by cases(aM.mp hb);exact⟨_,st,λv z=>nomatch (show Data.fields _=Data.cell v from z)⟩
 keep:=λi h h' st k=>k it (by simp) _ st
 item:=by intro X hP hw hK hc i pins s σ H E I hf st hg;subst hP hw hK;have hfi:=hf it (by simp);refine(Walks.range (prog:=X.prog) (w:=X.w) (I.ok.hd hc) it a (-1) n).item i s _ _ hg st λv h' tk hv st' kk=>?_;obtain⟨t,rfl⟩:=hv;have I1:Inv X pins σ H { s with heap:=h',toks:=tk }:=I.turned (λb o hb e=>kk b o (by simpa using hb) e) hfi.1 hfi.2.1 hfi.2.2.2.1 hfi.2.2.2.2.1 hfi.2.2.2.2.2;refine⟨_,rfl,wjq (s:={ s with heap:=h',toks:=tk }) (n := "range_iterator") st' rfl rfl ⋯ ⟨.int (a-i),H,I1,⟨t,?_⟩,⟨rfl,rfl⟩,st',λb hb=>(hf b hb).1⟩⟩;congr 1;lia
 done:=by intro X hP hw hK hc i pins s σ H E I hf st hg;subst hP hw hK;have hfi:=hf it (by simp);exact wpAny_pyNext_range_end (I.ok.hd hc) st (by have:n<=i:=hg;lia) λh' eb=>⟨rfl,I.turned (t':=s.toks) (λb o hb e=>eb b o hb e) hfi.1 hfi.2.1 hfi.2.2.2.1 hfi.2.2.2.2.1 hfi.2.2.2.2.2⟩
 self:=λ_ _ _ _ _ st h=>wpAny_pyIter_rangeiter st h
section
variable {X:Cx}{tg:Expr}
theorem xv1 {pins:List (Aj×Obj)}{σ:St}{H:Hp}{s:Ab}{R:It->Hp->Prop}{E:Ag->Ab->Prop}{a b:Int}{t u v:Tok}{tk:Nat}(I:Inv X pins σ H s)(h1:-(2 ^ 62)<=a)(h2:a<2 ^ 62)(h3:-(2 ^ 62)<=b)(h4:b<2 ^ 62)
  (q:R (Itd a (a-b).toNat) H):wpAny (model X.prog X.w) X.A (pyIter (.ref s.heap.objs.size)) (PIE X pins σ tg R) E { s with heap:=s.heap.push { cls:=.type "range",data:=.fields #[.int a t,.int b u,.int (-1) v] },toks:=tk }:=by
 refine wpAny_pyIter_range (jH ..) (W.small_down h1 h2 h3 h4) ?_;generalize eh:s.heap.push { cls:=.type "range",data:=.fields #[.int a t,.int b u,.int (-1) v] }=h1;have z:Inv X pins σ H { s with heap:=h1,toks:=tk }:=I.kept λb o e=>by rw[<-eh];exact ag _ e
 refine⟨h1.objs.size,[h1.objs.size],_,_,H,rfl,z.kept (t':=tk) λb o e=>ag _ e,xqk _ a (a-b).toNat,?_,λc D=>?_,q⟩
 .have J:a+((0:Nat):Int)*(-1)=a:=by lia
  have F:(((a-b).toNat:Nat):Int)-((0:Nat):Int)=Builtin.Range.rangeSize a b (-1):=by rw[W.rangeSize_downNat];lia
  show IsRangeIter _ _ (a+((0:Nat):Int)*(-1)) ((((a-b).toNat:Nat):Int)-((0:Nat):Int)) (-1);rw[J,F];exact aA _ rfl
 .cases(aM.mp D);exact z.fpOk (ak _) (z.hok.fresh (ak _))
def iRngD (ta:TA):TI:=λσ H R=>ta σ H λvs H1=>∃i j:Int,vs=[.int i,.int j,.int (-1)]/\(-(2 ^ 40)<=i/\i<2 ^ 40/\-(2 ^ 40)<=j/\j<2 ^ 40)/\R (Itd i (i-j).toNat) H1
theorem wy8 {a b c:Expr}{ta:TA}{p pos:Pos}(hg:Gl X "range")(hm:X.mg "range" = none)(ha:PA X [a,b,c] ta)(hs:autoParam (starEach [a,b,c] X.env=(false,eval a X.env)::starEach [b,c] X.env) aU4._auto_1)(hs2:autoParam ((backTo pos (starEach [b,c] X.env)).any (·.1)=false) aU4._auto_1) :
  PI X tg (.Call (.Name "range" p) [a,b,c] [] pos) (iRngD ta):=by
 intro pins s σ H R I h;refine Call_ (j3 I hg hm i9 (bB (thn (ha pos pins s σ H _ I h) λus s1 ⟨vs,H1,I1,r1,z⟩=>?_) hs hs2));obtain⟨i,j,rfl,⟨z,U,L,J⟩,q⟩:=z;cases r1 with
 |cons r rr =>
  cases rr with
  |cons r' rr =>
   cases rr with
   |cons r'' rr =>
    cases rr;obtain⟨t,rfl⟩:=r;obtain⟨F,rfl⟩:=r';obtain⟨D,rfl⟩:=r'';exact PySem.call_range_3 ⋯ (xv1 I1 ⋯ ⋯ ⋯ ⋯ q) (Or.inl (PyProof.noPylong_small ⋯))
end
theorem xqt {a:Int}{n:Nat}{g:TG}{tb:TS}{D:Ends}{σ:St}{H:Hp}(Pv:Nat->St->Hp->Prop)(h0:Pv 0 σ H)
  (hs:∀i σ H,i<n->Pv i σ H->g (.int (a-i)) σ H λσ2 H2=>tb { D with nx:=Pv (i+1),ct:=Pv (i+1),bk:=D.nx } σ2 H2) (hd:∀σ H,Pv n σ H->D.nx σ H) :
  ∃W:Nat->Nat->St->Hp->Prop,(∃m,W 0 m σ H)/\∀i m σ H,W i m σ H ->
   ((Itd a n).stop i H/\D.nx σ H)\/((Itd a n).go i H/\∃N:St->Hp->Prop,(∀σ' H',N σ' H'->∃m',m'<m/\W (i+1) m' σ' H')/\∀x H',(Itd a n).yld i H x H'->g x σ H' λσ2 H2=>tb { D with nx:=N,ct:=N,bk:=D.nx } σ2 H2):=by
 refine⟨λi m σ H=>m=n-i/\i<=n/\Pv i σ H,⟨n,by simp,aQ _,h0⟩,?_⟩;rintro i m σ H ⟨rfl,hi,p⟩;rcases bF i n with z|z
 .refine .inr ⟨z,Pv (i+1),λσ' H' F=>⟨n-(i+1),⋯,rfl,⋯,F⟩,?_⟩;rintro x H' ⟨rfl,rfl⟩;exact hs i σ _ z p
 .obtain rfl:i=n:=by lia
  exact .inl ⟨ak _,hd σ H p⟩
end L2
namespace L2
def Jf (S:Int)(p:Int×Int):Int:=p.1*S/p.2
theorem wkd {S:Int}{p q:Int×Int}(hS:0<=S)(hp:1<=p.2)(hq:1<=q.2)(h:p.1*q.2<=q.1*p.2):Jf S p<=Jf S q:=by
 unfold Jf;refine(gv ⋯).mpr ?_;have z:p.1*S/p.2*p.2<=p.1*S:=fJ _ ⋯;generalize p.1*S/p.2=k at z ⊢;have W:k*p.2*q.2<=p.1*S*q.2:=aj z ⋯;have U:p.1*q.2*S<=q.1*p.2*S:=aj h hS;have D:k*q.2*p.2<=q.1*S*p.2:=by
  have L:k*q.2*p.2=k*p.2*q.2:=by grind
  have J:p.1*S*q.2=p.1*q.2*S:=by grind
  have F:q.1*S*p.2=q.1*p.2*S:=by grind
  lia
 exact dQ D ⋯
theorem wjj {G:Int}{p q:Int×Int}(hp:1<=p.2)(hq:1<=q.2)(gp:p.2<=G)(gq:q.2<=G)(h:p.1*q.2<q.1*p.2):Jf (G*G) p<Jf (G*G) q:=by
 have z:0<=G*G:=aX ⋯ ⋯;have F:p.2*q.2<=G*G:=br gp gq ⋯ ⋯;unfold Jf;generalize G*G=S at z F;have D:p.1*S/p.2*p.2<=p.1*S:=fJ _ ⋯;refine(gv ⋯).mpr ?_;generalize p.1*S/p.2=k at D ⊢;have a2:k*p.2*q.2<=p.1*S*q.2:=aj D ⋯;have Z:(p.1*q.2+1)*S<=q.1*p.2*S:=aj ⋯ z;have J:(k+1)*q.2*p.2<=q.1*S*p.2:=by
  have W:(k+1)*q.2*p.2=k*p.2*q.2+p.2*q.2:=by grind
  have U:p.1*S*q.2+S=(p.1*q.2+1)*S:=by grind
  have L:q.1*S*p.2=q.1*p.2*S:=by grind
  lia
 exact dQ J ⋯
def Wor (pt:Nat->Int×Int)(i j:Nat):Prop:=(pt i).1*(pt j).2<(pt j).1*(pt i).2\/((pt i).1*(pt j).2=(pt j).1*(pt i).2/\i<j)
theorem wvm {pt:Nat->Int×Int}{G:Int}{i j:Nat}(hi:1<=(pt i).2)(hj:1<=(pt j).2)(gi:(pt i).2<=G)(gj:(pt j).2<=G)
  (h:Jf (G*G) (pt i)<Jf (G*G) (pt j)\/(Jf (G*G) (pt i)=Jf (G*G) (pt j)/\i<j)):Wor pt i j:=by
 have z:0<=G*G:=aX ⋯ ⋯;unfold Wor;rcases gC ((pt i).1*(pt j).2) ((pt j).1*(pt i).2) with c|c|c
 .exact .inl c
 .have F:=wkd z hi hj (ja c);have D:=wkd z hj hi (ja c.symm);exact .inr ⟨c,⋯⟩
 .have:=wjj hj hi gj gi c;lia
end L2
namespace L2
open PySem PySem.Spec PySem.Calls PySem.W PyProof.Rows
def ku:List Int->List Int->Bool
 |x::xs,y::ys=>if x=y then ku xs ys else decide (x<y)
 |_,_=>false
section
variable {prog:Ac}{w:Ah}{A:Ae}{E:Ag->Ab->Prop}{s:Ab}{Q:Bool->Ab->Prop}
theorem wjh:∀ {us vs:List Ag} {xs ys:List Int} (i:Nat),IntsAre us xs->IntsAre vs ys->Q (ku xs ys) s->KatLex prog w A true false Q (us.zip vs) i s
 |_,_,_,_,i,.nil,b,h=>by cases b <;> exact h
 |_,_,_,_,i,.cons _ _ _,.nil,h=>h
 |_,_,_,_,i,@IntsAre.cons x t us xs a,@IntsAre.cons y u vs ys b,h=>by
  show KatLex prog w A true false Q ((Value.int x t,Value.int y u)::us.zip vs) i s;refine kat_cons (wpAny_eqBool_int ?_);refine kat_go (λe=>kat_yes ?_) λe=>kat_no ?_
  .refine wjh (i+1) a b ?_;have e':x=y:=by simpa using e
   unfold ku at h;rw[aw e']at h;exact h
  .have e':¬ x=y:=by simpa using e
   unfold ku at h;rw[ar e']at h;by_cases c:i=0
   .subst c;exact oneLt_int h
   .have z:(true&&i==0)=false:=by simp[c]
    rw[z];exact kat_one _ _ (lt_int h)
theorem lex_lt {x y:Aj}{us vs:List Ag}{xs ys:List Int}{ox oy:Obj}{n k:Nat}(hx:s.heap.get? x=some ox)(dx:ox.data=.seq us.toArray n)(hy:s.heap.get? y=some oy)(dy:oy.data=.seq vs.toArray k)
  (a:IntsAre us xs) (b:IntsAre vs ys) (hl:us.length=vs.length) (h:Q (ku xs ys) s):wpAny (model prog w) A (keyLt' (tuples' true) (.ref x) (.ref y)) Q E s:=by
 refine kat_lt hx dx hy dy ?_;have e:decide (us.toArray.size<vs.toArray.size)=false:=by simp[hl]
 rw[e];exact wjh 0 a b h
end
theorem wkj:∀xs,ku xs xs=false
 |[]=>rfl
 |x::xs=>by unfold ku;rw[aw rfl];exact wkj xs
theorem qk2:∀ {n:Nat} {xs ys zs:List Int},xs.length=n->ys.length=n->zs.length=n->ku xs ys=true->ku ys zs=true->ku xs zs=true
 |0,[],[],[],_,_,_,h,_=>h
 |n+1,x::xs,y::ys,z::zs,h1,h2,h3,a,b=>by
  unfold ku at a b ⊢;by_cases e1:x=y
  .rw[aw e1]at a;subst e1;by_cases e2:x=z
   .rw[aw e2]at b ⊢;exact qk2 (by simpa using h1) (by simpa using h2) (by simpa using h3) a b
   .rw[ar e2]at b ⊢;exact b
  .rw[ar e1]at a;have:=c0 a;by_cases e2:y=z
   .rw[aw e2]at b;subst e2;rw[ar e1];exact a
   .rw[ar e2]at b;have:=c0 b;rw[ar ⋯];exact aF ⋯
theorem qu4:∀ {n:Nat} {xs ys:List Int},xs.length=n->ys.length=n->ku xs ys=true\/xs=ys\/ku ys xs=true
 |0,[],[],_,_=>.inr (.inl rfl)
 |n+1,x::xs,y::ys,h1,h2=>by
  unfold ku;by_cases e:x=y
  .subst e;rw[aw rfl,aw rfl];rcases qu4 (n:=n) (xs:=xs) (ys:=ys) (by simpa using h1) (by simpa using h2) with h|h|h
   .exact .inl h
   .exact .inr (.inl (by rw[h]))
   .exact .inr (.inr h)
  .rw[ar e,ar (λz=>e z.symm)];by_cases c:x<y
   .exact .inl (aF c)
   .exact .inr (.inr (aF ⋯))
def kzL (ks:List (List Int))(x:List Int):Int:=((ks.countP λy=>ku y x:Nat):Int)
theorem qjs {n:Nat}{ks:List (List Int)}{x y:List Int}(hn:∀k∈ks,k.length=n)(hx:x∈ks)(hy:y∈ks):kzL ks x<kzL ks y↔ku x y=true:=by
 have L:∀u v,u∈ks->v∈ks->ku u v=true->(ks.countP λk=>ku k u)<ks.countP λk=>ku k v:=λu v D U h=>by
  have J:∀k∈ks,ku k u=true->ku k v=true:=λk F e=>qk2 (hn k F) (hn u D) (hn v U) e h;have W:(ks.countP λk=>ku k u)<=(ks.countP λk=>ku k v&&!(k==u)):=by
   refine List.countP_mono_left λk F e=>?_;have:k≠u:=λz=>by rw[z,wkj]at e;cases e
   simp[J k F e,this]
  have e2:(ks.countP λk=>ku k v&&!(k==u))+(ks.countP λk=>ku k v&&(k==u))<=ks.countP λk=>ku k v:=by
   clear J W D U hn hx hy
   induction ks with
   |nil=>simp
   |cons k r ih =>
    simp only[List.countP_cons];by_cases c1:ku k v=true <;> by_cases c2:(k==u)=true <;> simp[c1,c2]at ih ⊢ <;> lia
  have Z:0<ks.countP λk=>ku k v&&(k==u):=List.countP_pos_iff.mpr ⟨u,D,by simp[h]⟩;lia
 unfold kzL;constructor
 .intro h;rcases qu4 (hn x hx) (hn y hy) with c|c|c
  .exact c
  .rw[c]at h;lia
  .have:=L y x hy hx c;lia
 .intro h;have:=L x y hx hy h;lia
end L2
namespace L2
open PySem PySem.Spec PySem.Calls PySem.W PyProof.Rows
inductive TK (h:Heap) (d:Nat):List Ag->List (List Int)->Prop
 |nil:TK h d [] []
 |cons {x:Aj} {o:Obj} {us:List Ag} {n:Nat} {xs:List Int} {ks:List Ag} {kss:List (List Int)} (ho:h.get? x=some o) (hc:o.cls=.type "tuple") (hd:o.data=.seq us.toArray n) (hi:IntsAre us xs) (hl:xs.length=d) (t:TK h d ks kss):TK h d (.ref x::ks) (xs::kss)
theorem TK.length {h:Heap}{d:Nat}{ks:List Ag}{kss:List (List Int)}(t:TK h d ks kss):ks.length=kss.length:=by
 induction t with
 |nil=>rfl
 |cons _ _ _ _ _ _ ih=>simp[ih]
theorem TK.lens {h:Heap}{d:Nat}{ks:List Ag}{kss:List (List Int)}(t:TK h d ks kss):∀k∈kss,k.length=d:=by
 induction t with
 |nil=>intro k D;cases D
 |cons _ _ _ _ hl _ ih=>intro k D;rcases aO.mp D with rfl|z;exact hl;exact ih k z
theorem TK.kept {h h':Heap}{d:Nat}{ks:List Ag}{kss:List (List Int)}(t:TK h d ks kss)(k:∀b o,h.get? b=some o->o.cls=.type "tuple" -> h'.get? b=some o):TK h' d ks kss:=by
 induction t with
 |nil=>exact .nil
 |cons a b c e f _ ih=>exact .cons (k _ _ a b) b c e f ih
theorem TK.at_ {h:Heap}{d:Nat}{ks:List Ag}{kss:List (List Int)}(t:TK h d ks kss):∀i,i<kss.length->∃x o us n,ks.getD i .none=.ref x/\h.get? x=some o/\o.data=.seq us.toArray n/\IntsAre us (kss.getD i [])/\(kss.getD i []).length=d:=by
 induction t with
 |nil=>intro i hi;simp at hi
 |@cons x o us n xs ks kss a b c e f _ ih =>
  intro i hi;cases i with
  |zero=>exact⟨x,o,us,n,rfl,a,c,e,f⟩
  |succ i=>exact ih i (by simpa using hi)
theorem W5 {us:List Ag}{xs:List Int}(h:IntsAre us xs):us.length=xs.length:=by
 induction h with
 |nil=>rfl
 |cons _ _ _ ih=>simp[ih]
theorem TK.tups {h:Heap}{d:Nat}{ks:List Ag}{kss:List (List Int)}(t:TK h d ks kss)(hd:1<=d):∃fs,KatTups h ks fs/\fs.length=ks.length/\∀v∈fs,∃i t,v=Value.int i t:=by
 induction t with
 |nil=>exact⟨[],trivial,rfl,λv D=>by cases D⟩
 |@cons x o us n xs ks kss a b c e f _ ih =>
  obtain⟨fs,h1,h2,F⟩:=ih;cases e with
  |nil=>simp at f;lia
  |@cons i t us' xs' e'=>exact⟨.int i t::fs,KatTups.cons a b c (by simp) h1,by simp[h2],λv D=>by rcases aO.mp D with rfl|z;exact⟨i,t,rfl⟩;exact F v z⟩
section
variable {prog:Ac}{w:Ah}{A:Ae}{E:Ag->Ab->Prop}{s:Ab}{a kS:Aj}{vs ks:List Ag}{P:PySem.Fin->Ab->Prop}
end
end L2
namespace L2
open PySem PySem.Spec PySem.Calls PySem.W PyProof.Rows
section
variable {prog:Ac}{w:Ah}{A:Ae}{E:Ag->Ab->Prop}{s:Ab}{a kS:Aj}{vs ks:List Ag}{P:PySem.Fin->Ab->Prop}{f:Ag}
theorem wyw {α:Type}{J:List Ag->List α->Ab->Prop}{body:Ag->PUnit->Sem (ForInStep PUnit)}
  (hb:∀x ks kss (s:Ab),vs[ks.length]?=some x->J ks kss s->wpAny (model prog w) A (body x ⟨⟩) (λr s'=>r=.yield ⟨⟩/\∃k xs,J (ks++[k]) (kss++[xs]) s') E s):∀(r ks:List Ag) (kss:List α) (s:Ab),vs=vs.take ks.length++r->ks.length<=vs.length ->
   J ks kss s->wpAny (model prog w) A (forIn r PUnit.unit body) (λ_ s'=>∃ks kss,ks.length=vs.length/\J ks kss s') E s
 |[],ks,kss,s,hv,hl,j=>by rw[List.forIn_nil];refine ai ⟨ks,kss,?_,j⟩;rw[bE]at hv;have:=b7 List.length hv;rw[bC]at this;lia
 |x::r,ks,kss,s,hv,hl,j=>by
  rw[List.forIn_cons];have hlen:=b7 List.length hv;rw[au,bC,aJ]at hlen;have hx:vs[ks.length]?=some x:=by
   rw[hv,aG (by rw[bC];lia),bC];have:ks.length-min ks.length vs.length=0:=by lia
   rw[this];rfl
  refine ac (aY (hb x ks kss s hx j) (λq s' D=>?_) λ_ _ x=>x);obtain⟨rfl,k,xs,z⟩:=D;show wpAny (model prog w) A (forIn r PUnit.unit body) _ E s';refine wyw hb r (ks++[k]) (kss++[xs]) s' ?_ (by rw[au,cM];lia) z;rw[au,cM,dB,hx];simpa using hv
def Z4 (h:Heap)(a:Aj)(vs:List Ag):Heap:=((h.update a (Obj.mapSeq λ_=>(#[]:Array Ag))).push (seqObj "tuple" vs.toArray 0)).push (seqObj "list" #[] 0)
end
end L2
namespace L2
open PySem PySem.Spec PySem.Calls PySem.W PyProof.Rows
section
variable {X:Cx}{pins:List (Aj×Obj)}{σ:St}{H:Hp}{s:Ab}
theorem Inv.track {D:Aj}{o:HO}(I:Inv X pins σ H s)(hD:k8 X pins H D)(new:ObjOk X.prog X.w (upd H D o) s.heap D o):Inv X pins σ (upd H D o) s:=by
 obtain⟨F,Z,q3,W,U,L⟩:=hD;refine I.call' (s':=s) (ch:=[D]) rfl ⟨λb u q _ _ _=>q,λb u q _ _ _=>⟨u.slots,q⟩,λb u q n hx=>?_,λb u q _=>⟨u,q⟩,λb xs q=>?_,λb u xs q=>?_,λb ps q=>⟨#[],?_⟩⟩ (λb u e=>?_) I.bare λb J=>?_
 .rw[wx (λz=>hx (by simp[z]))];exact n
 .rw[wx (wj q F)];exact q
 .rw[wx (wj q F)];exact q
 .rw[wx (wj q F),q];simp
 .by_cases J:b=D
  .subst J;rw[qu]at e;cases e;exact new
  .rw[wx J]at e;exact(I.hok b u e).stay (λc v _ q=>q) (λc q=>by rw[wx (wj q F)];exact q) λc xs q=>by rw[wx (wj q F)];exact q
 .obtain rfl:b=D:=by simpa using J
  exact⟨W,Z,U,L⟩
end
end L2
namespace L2
open PySem PySem.Spec PySem.Calls PySem.W PyProof.Rows
def xvj (X:Cx)(f:Ag)(ks:List Str)(r:List V->List V->Hp->VK->Prop):Prop :=
 ∀(pins:List (Aj×Obj)) (s:Ab) (σ:St) (H:Hp) (xs zs:List V) (us ws:List Ag) (Q:VK),Inv X pins σ H s->Vals xs us->Vals zs ws->r xs zs H Q ->
  wpAny (model X.prog X.w) X.A (call f us (ks.zip ws)) (EP X pins σ Q) X.xe s
def tCBK (r:List V->List V->Hp->VK->Prop)(t tk:TA):TE:=λσ H Q=>t σ H λvs H1=>tk σ H1 λzs H2=>r vs zs H2 Q
section
variable {X:Cx}{x:Str}{p pos:Pos}{e:Expr}{es:List Expr}{kws:List Keyword}{t tk:TA}{id:String}{ks:List Str}{r:List V->List V->Hp->VK->Prop}
theorem wyx (hc:xvj X (.builtin id) ks r)(hg:Gl X x)(hm:X.mg x=none)(hv:bootBuiltins x=some (.builtin id))(ha:PA X (e::es) t)(hkw:PK X kws tk)
  (hall:autoParam ((backToKw pos (keywordEach kws X.env)).all (·.1.isSome)=true) aU4._auto_1) (hks:autoParam ((backToKw pos (keywordEach kws X.env)).filterMap (·.1)=ks) aU4._auto_1) (hn:autoParam (x ≠ "__name__") aU2._auto_1) (hdb:autoParam ((x==("__debug__" : Str))=false) aU1._auto_1)
  (he:autoParam (starEach (e::es) X.env=(false,eval e X.env)::starEach es X.env) aU4._auto_1)
  (hpl:autoParam ((backTo pos (starEach (e::es) X.env)).any (·.1)=false) aU4._auto_1) (hpk:autoParam ((backToKw pos (keywordEach kws X.env)).any (·.1.isNone)=false) aU4._auto_1):PE X (.Call (.Name x p) (e::es) kws pos) (tCBK r t tk):=by
 intro pins s σ H Q I h;refine cQ (j3 I hg hm hv ?_ hn hdb);refine callWith_builtin_kwB hpl hpk (evalArgs_kw2 hall (thn (ha pos pins s σ H _ I h) λus s1 ⟨vs,H1,I1,r1,q⟩=>?_) he);refine thn (hkw pos pins s1 σ H1 _ I1 q) λws s2 ⟨zs,H2,I2,rz,q2⟩=>?_;dsimp only [List.nil_append];rw[hks];exact hc pins s2 σ H2 vs zs us ws Q I2 r1 rz q2
end
end L2
namespace L2
open PySem PySem.Spec PyProof.Rows
def Tups (L:List (List Int))(ys:List V)(H:Hp):Prop:=Paired (λv xs=>∃a,v=.ref a/\H a=some (.tup (xs.map V.int))) ys L
theorem Tups.keep {L:List (List Int)}{ys:List V}{H H':Hp}(h:Tups L ys H)(k:∀a xs,H a=some (.tup xs)->H' a=some (.tup xs)):Tups L ys H' :=
 Paired.mono (λ_ _ ⟨a,e,f⟩=>⟨a,e,k a _ f⟩) h
theorem Tups.same {L:List (List Int)}{ys:List V}{H H':Hp}(h:Tups L ys H)(s:Same H H'):Tups L ys H':=h.keep λa xs e=>s a _ e
theorem Tups.upd {L:List (List Int)}{ys zs:List V}{H:Hp}{p:Aj}{o:HO}(h:Tups L ys H)(hp:H p=some (.lst zs)):Tups L ys (upd H p o):=h.keep λa xs e=>by rw[wx (λz=>by rw[z,hp]at e;cases e)];exact e
theorem Tups.snoc {L:List (List Int)}{ys:List V}{H:Hp}{a:Aj}{xs:List Int}(h:Tups L ys H)(ha:H a=some (.tup (xs.map V.int))):Tups (L++[xs]) (ys++[.ref a]) H:=Paired.app h (.cons ⟨a,rfl,ha⟩ .nil)
theorem Tups.get {L:List (List Int)}{ys:List V}{H:Hp}(h:Tups L ys H){i:Nat}{v:V}(e:ys[i]?=some v):∃a xs,v=.ref a/\L[i]?=some xs/\H a=some (.tup (xs.map V.int)):=by
 unfold Tups at h
 induction h generalizing i with
 |nil=>simp at e
 |cons r t ih =>
  cases i with
  |zero =>
   obtain⟨a,rfl,f⟩:=r;simp at e;exact⟨a,_,e.symm,rfl,f⟩
  |succ i=>exact ih (by simpa using e)
theorem Tups.len {L:List (List Int)}{ys:List V}{H:Hp}(h:Tups L ys H):ys.length=L.length:=b9 h
section
variable {X:Cx}{K:Aa}
theorem xz7 (hK:X.K=K):OpR X (binaryOp .Add) (rCatW K):=by subst hK;exact xv5
end
def Yg (c:Int->Bool)(row vs:List Int):List (List Int):=(vs.filter c).map λv=>row++[v]
theorem qkn (c:Int->Bool)(row vs:List Int)(v:Int):Yg c row (vs++[v])=Yg c row vs++if c v=true then [row++[v]] else []:=by
 unfold Yg;rw[fV,aK];congr 1;by_cases h:c v=true
 .rw[aw h,dM,aw h];rfl
 .rw[ar h,dM,ar h];rfl
theorem wq9 (c:Int->Bool)(row vs:List Int):(Yg c row vs).length<=vs.length:=by unfold Yg;rw[af];exact cN _ _
def Z8 (c:Int->Bool)(g:List Int->List Int)(L:List (List Int)):List (List Int):=L.flatMap λr=>Yg c r (g r)
theorem ww1 {c:Int->Bool}{g:List Int->List Int}:∀ {L:List (List Int)},(∀r∈L,(g r).length<=24)->(Z8 c g L).length<=24*L.length
 |[],_=>ak _
 |r::L,h=>by
  have ih:=ww1 (c:=c) (g:=g) (L:=L) λr hr=>h r (.tail _ hr);have h1:=wq9 c r (g r);have h2:=h r (.head _);have e:Z8 c g (r::L)=Yg c r (g r)++Z8 c g L:=by unfold Z8;rw[List.flatMap_cons]
  rw[e,au,aJ];lia
theorem wy6 (c:Int->Bool)(g:List Int->List Int){L:List (List Int)}{i:Nat}{r:List Int}(h:L[i]?=some r):Z8 c g (L.take (i+1))=Z8 c g (L.take i)++Yg c r (g r):=by unfold Z8;rw[dB,h,g8];simp
theorem ww4 {K:Aa}{M:List Nat}{q:Aj}{us:List V}{wi2:TI}{tt:TT}{te:TE}{σ:St}{H:Hp}{Q:VK}(L:List (List Int))(g:List Int->List Int)(c:Int->Bool)(hq:SqL K H q us)(hL:Tups L us H)(hn:L.length<=10000)(hg:∀r∈L,(g r).length<=24)
  (hw:∀(r:List Int) (a:Aj) (H':Hp) (R:It->Hp->Prop),r∈L->H' a=some (.tup (r.map V.int))->Same H H'->(∀b,SqL K H b ((g r).map V.int)->R (Itl K b) H')->wi2 (zk M σ (some (.ref a)) none) H' R)
  (ht:∀(r:List Int) (a:Aj) (u:Int) (H':Hp) (R:Bool->Hp->Prop),r∈L->u∈g r->Same H H'->R (c u) H'->tt (zk M σ (some (.ref a)) (some (.int u))) H' R)
  (he:∀(r:List Int) (a:Aj) (u:Int) (H':Hp) (R:VK),r∈L->u∈g r->c u=true->H' a=some (.tup (r.map V.int))->Same H H'->(∀b H'',Same H' H''->H'' b=some (.tup ((r++[u]).map V.int))->R (.ref b) H'')->te (zk M σ (some (.ref a)) (some (.int u))) H' R)
  (k:∀p ys H',H p=none->Same H H'->H' p=some (.lst ys)->Tups (Z8 c g L) ys H'->Q (.ref p) H'):qy8 (Itl K q) M wi2 tt te σ H Q:=by
 have ah:(1000000:Nat)<sizeLine:=by decide
 intro p np;have ad:∀ {H':Hp} {o:HO},Same H H'->Same H (upd H' p o):=λs b u e=>by rw[wx (wj e np)];exact s b u e
 have tl:∀i,∀r∈L.take i,(g r).length<=24:=λi r hr=>hg r (gR hr);have lu:=hL.len;refine⟨λi m ys H2=>i<=L.length/\m=L.length-i/\Same H H2/\H2 p=some (.lst ys)/\Tups (Z8 c g (L.take i)) ys H2,⟨L.length,aQ _,rfl,Same.upd np,qu,.nil⟩,?_⟩;rintro i m ys H2 ⟨hi,rfl,s2,f2,t2⟩;refine⟨f2,?_⟩;rcases bF i L.length with z|z
 .have Z:us[i]?=some us[i]:=aa ⋯;obtain⟨a,r,ea,er,fa⟩:=(hL.same s2).get Z;have J:r∈L:=aE er;refine .inr ⟨⟨us,_,s2.sql hq,Z⟩,?_⟩;rintro v H3 ⟨rfl,hv⟩;have e:=aq (Z.symm.trans (hv us (s2.sql hq)));rw[ea]at e;subst e;refine hw r a H3 _ J fa s2 λb U=>?_;have lg:((g r).map V.int).length=(g r).length:=af _;refine⟨λj m2 zs F=>j<=(g r).length/\m2=(g r).length-j/\Same H F/\F a=some (.tup (r.map V.int))/\F p=some (.lst zs)/\Tups (Z8 c g (L.take i)++Yg c r ((g r).take j)) zs F,⟨(g r).length,aQ _,rfl,s2,fa,f2,by rw[show Yg c r ((g r).take 0)=[] from rfl,bE];exact t2⟩,?_⟩;rintro j m2 zs F ⟨hj,rfl,s5,fa5,f5,t5⟩;have lz:zs.length<sizeLine:=by have e1:=t5.len;have e2:=ww1 (c:=c) (tl i);have e3:=wq9 c r ((g r).take j);have e4:=hg r J;rw[bC]at e2 e3;rw[au]at e1;lia
  refine⟨f5,lz,?_⟩;rcases bF j (g r).length with y|y
  .have eu:(g r)[j]?=some (g r)[j]:=aa y;have um:(g r)[j]∈g r:=bD _;have ab:((g r).map V.int)[j]?=some (.int (g r)[j]):=by rw[ax,eu];rfl
   refine .inr ⟨⟨_,_,s5.sql U,ab⟩,?_⟩;rintro u H6 ⟨rfl,hu⟩;have e:=aq (ab.symm.trans (hu _ (s5.sql U)));subst e;refine ht r a _ H6 _ J um s5 ?_;have ap:a≠p:=λw=>by rw[w,f5]at fa5;cases fa5
   have et:(g r).take (j+1)=(g r).take j++[(g r)[j]]:=by rw[dB,eu];rfl
   cases hc:c (g r)[j] with
   |true =>
    refine y9 ?_;refine he r a _ H6 _ J um hc fa5 s5 λb' H7 D W=>⟨D _ _ f5,(g r).length-(j+1),⋯,⋯,rfl,ad (s5.trans D),by rw[wx ap];exact D _ _ fa5,qu,?_⟩;rw[et,qkn,aw hc,<-iK];exact((t5.same D).upd (D _ _ f5)).snoc (by rw[wx (λw=>by rw[w,D _ _ f5]at W;cases W)];exact W)
   |false =>
    refine uc ⟨f5,(g r).length-(j+1),⋯,⋯,rfl,s5,fa5,f5,?_⟩;rw[et,qkn,ar (by rw[hc];exact aI),bE];exact t5
  .obtain rfl:j=(g r).length:=by lia
   refine .inl ⟨⟨_,s5.sql U,by rw[lg];exact ak _⟩,L.length-(i+1),⋯,⋯,rfl,s5,f5,?_⟩;rw[wy6 c g er];rw[bf]at t5;exact t5
 .obtain rfl:i=L.length:=by lia
  rw[bf]at t2;exact .inl ⟨⟨us,s2.sql hq,⋯⟩,k p ys H2 np s2 f2 t2⟩
end L2
namespace L2
open PySem PySem.Spec PySem.Calls PySem.W PyProof.Rows
def Qq (w:Ah)(S:Aj)(ps:List (Int×Ag)):HO:=.ext λh=>SAt w h S ps
theorem qws {P:Ac}{w:Ah}{H:Hp}{h:Heap}{S:Aj}{ps:List (Int×Ag)}(x:SAt w h S ps):ObjOk P w H h S (Qq w S ps):=⟨x,let ⟨o,_,_,e,_⟩:=x;⟨o,e⟩,λh1 h2 a k=>a.at_ k⟩
def PsT (P:Ac)(w:Ah)(H:Hp)(ps:List (Int×Ag))(L:List (List Int)):Prop:=Paired (λp (xs:List Int)=>∃a,p=((KD P w).hash (xs.map Sum.inl),Value.ref a)/\H a=some (.tup (xs.map V.int))) ps L
def PsI (P:Ac)(w:Ah)(ps:List (Int×Ag))(ns:List Int):Prop:=Paired (λp (n:Int)=>∃t,p=((intKind P w).hash n,Value.int n t)) ps ns
theorem wku (xs:List Int):(xs.map (Sum.inl:Int->Key)).map kV=xs.map V.int:=by rw[aN];rfl
theorem xjc {xs ys:List Int}(h:xs.map (Sum.inl:Int->Key)=ys.map Sum.inl):xs=ys:=(List.map_inj_right λa b e=>Sum.inl.inj e).mp h
theorem PsT.kp {P:Ac}{w:Ah}{H:Hp}{h:Heap}(ok:HOk P w H h):∀ {ps:List (Int×Ag)} {L:List (List Int)},PsT P w H ps L->KP P w h ps (L.map λxs=>xs.map Sum.inl)
 |_,_,.nil=>.nil
 |_,_,.cons ⟨a,e,f⟩ t=>.cons ⟨a,e,qqf ok (by rw[wku];exact f)⟩ (PsT.kp ok t)
theorem PsT.keep {P:Ac}{w:Ah}{H H':Hp}{ps:List (Int×Ag)}{L:List (List Int)}(h:PsT P w H ps L)(k:∀a xs,H a=some (.tup xs)->H' a=some (.tup xs)):PsT P w H' ps L :=
 Paired.mono (λ_ _ ⟨a,e,f⟩=>⟨a,e,k a _ f⟩) h
theorem PsT.len {P:Ac}{w:Ah}{H:Hp}{ps:List (Int×Ag)}{L:List (List Int)}(h:PsT P w H ps L):ps.length=L.length:=b9 h
theorem PsI.len {P:Ac}{w:Ah}{ps:List (Int×Ag)}{L:List Int}(h:PsI P w ps L):ps.length=L.length:=b9 h
theorem Paired.perm {α β:Type}{R:α->β->Prop}{ps ps':List α}{L:List β}(p:ps'.Perm ps)(h:Paired R ps L):∃L',L'.Perm L/\Paired R ps' L':=by
 induction p generalizing L with
 |nil =>
  cases h;exact⟨[],.refl _,.nil⟩
 |cons x _ ih =>
  cases h with
  |cons r t =>
   obtain⟨L',a,b⟩:=ih t;exact⟨_::L',a.cons _,.cons r b⟩
 |swap x y l =>
  cases h with
  |cons r t =>
   cases t with
   |cons r' t=>exact⟨_,.swap _ _ _,.cons r' (.cons r t)⟩
 |trans _ _ ih1 ih2 =>
  obtain⟨W,J,D⟩:=ih2 h;obtain⟨U,F,z⟩:=ih1 D;exact⟨U,F.trans J,z⟩
abbrev qz6:=Aj->List (Int×Ag)->V->Hp->(List (Int×Ag)->Hp->Prop)->Prop
def Yk (X:Cx)(add:qz6):Prop:=∀(pins:List (Aj×Obj)) (s:Ab) (σ:St) (H:Hp) (p:Aj) (ps:List (Int×Ag)) (y:V) (yv:Ag) (Q:List (Int×Ag)->Hp->Prop),Inv X pins σ H s->RelV y yv->H p=some (Qq X.w p ps)->add p ps y H Q ->
 wpAny (model X.prog X.w) X.A (call (.builtin "set.add") [.ref p,yv]) (λ_ s'=>∃ps' H',Inv X pins σ H' s'/\Q ps' H') X.xe s
def addT (P:Ac)(w:Ah):qz6:=λp ps y H Q=>∃a xs L,y=.ref a/\H a=some (.tup (xs.map V.int))/\PsT P w H ps L/\ps.length<1099/\(xs∈L->Q ps H)/\(xs∉L->∀ps',ps'.Perm (((KD P w).hash (xs.map Sum.inl),.ref a)::ps)->Q ps' (upd H p (Qq w p ps')))
def addI (P:Ac)(w:Ah):qz6:=λp ps y H Q=>∃(n:Int) (L:List Int),y=.int n/\PsI P w ps L/\ps.length<1000/\(n∈L->Q ps H)/\(n∉L->∀ps' t,ps'.Perm (((intKind P w).hash n,.int n t)::ps)->Q ps' (upd H p (Qq w p ps')))
section
variable {prog:Ac}{w:Ah}{A:Ae}{E:Ag->Ab->Prop}{s:Ab}{S:Aj}{ps:List (Int×Ag)}
theorem xv6 {L:List Int}(h:PsI prog w ps L):ElemsOf (intKind prog w) ps:=by
 induction h with
 |nil=>intro e z;cases z
 |@cons p n ps L r t ih =>
  obtain⟨tk,rfl⟩:=r;intro e z;rcases aO.mp z with rfl|z
  .exact⟨⟨n,by simp[intKind,Value.isInt],rfl⟩,rfl⟩
  .exact ih e z
theorem PsI.mem_of {L:List Int}{n:Int}(h:PsI prog w ps L):(∃j,ps.findIdx? (λe=>(intKind prog w).is n e.2)=some j)↔n∈L:=by
 constructor
 .rintro⟨j,W⟩;obtain⟨U,D,_⟩:=List.findIdx?_eq_some_iff_getElem.mp W;have F:∀ {ps:List (Int×Ag)} {L:List Int},PsI prog w ps L->∀p∈ps,(intKind prog w).is n p.2=true->n∈L:=by
   intro ps L h
   induction h with
   |nil=>intro p D;cases D
   |@cons p m ps L r t ih =>
    obtain⟨tk,rfl⟩:=r;intro q J z;rcases aO.mp J with rfl|J
    .have:m=n:=by simpa [intKind,Value.isInt] using z
     rw[this];exact .head _
    .exact .tail _ (ih q J z)
  exact F h _ (bD U) D
 .intro z;cases q:ps.findIdx? (λe=>(intKind prog w).is n e.2) with
  |some j=>exact⟨j,rfl⟩
  |none =>
   have Z:=List.findIdx?_eq_none_iff.mp q;have F:∀ {ps:List (Int×Ag)} {L:List Int},PsI prog w ps L->n∈L->∃p∈ps,(intKind prog w).is n p.2=true:=by
    intro ps L h
    induction h with
    |nil=>intro z;cases z
    |@cons p m ps L r t ih =>
     obtain⟨tk,rfl⟩:=r;intro z;rcases aO.mp z with rfl|z
     .exact⟨_,.head _,by simp[intKind,Value.isInt]⟩
     .obtain⟨p,D,e⟩:=ih z;exact⟨p,.tail _ D,e⟩
   obtain⟨p,D,e⟩:=F h z;have:=Z p D;rw[e]at this;cases this
theorem xww {L:List Int}{n:Int}{t0:Tok}{Q:Bool->Ab->Prop}(P:SAt w s.heap S ps)(K:PsI prog w ps L)(hn:ps.length<1000)(hQ1:n∈L->∀tk,Q false { s with toks:=tk })
  (hQ2:n∉L->∀h' tk ps',Heap.SameBut S s.heap h'->SAt w h' S ps'->ps'.Perm (((intKind prog w).hash n,.int n t0)::ps)->Q true { s with heap:=h',toks:=tk }) :
  wpAny (model prog w) A (setAdd S (.int n t0)) Q E s:=by
 obtain⟨o,ep,t,W,ap,Z,T,a5⟩:=P;have bm:=T.big;have ah:(intKind prog w).is n (.int n t0)=true:=by simp[intKind,Value.isInt]
 have el:=xv6 K;have a3:scanBound=4096:=rfl;unfold setAdd;refine cg (ac ((intKind prog w).pyHash ah ?_));generalize s.toks+1=tk;unfold setAddHashed setAddHashedIn;refine cg (ac (bJ (s:={ s with toks:=tk }) W Z T.fits' ?_));dsimp only;rw[byScan_of (knd:=intKind prog w) rfl (by rw[av];lia) (by simpa using el)];simp only[cV];unfold setAddByScan;refine ac ?_;refine ac (eB ?_);refine ac (wpAny_setScan_of (s:={ s with toks:=tk }) ah W Z T.fits' (by simpa using el) ?_);rw[show ps.toArray.toList=ps from rfl];cases hr:ps.findIdx? (λe=>(intKind prog w).is n e.2) with
 |some j =>
  dsimp only;exact ai (ai (hQ1 (K.mem_of.mp ⟨j,hr⟩) tk))
 |none =>
  have ad:n∉L:=λz=>by obtain⟨j,ej⟩:=K.mem_of.mpr z;rw[hr]at ej;cases ej
  dsimp only;obtain⟨N,r1,r2,r3⟩:=T.free ((intKind prog w).hash n);generalize hh:(intKind prog w).hash n=h at r1 r2 r3 hQ2 ⊢;have fs:t.freeSlot h=some (pos t h N,false):=by
   unfold SetTable.freeSlot SetTable.probe;obtain⟨m,e1,ok⟩:=qqq (t:=t) (h:=h) (ha:=λ_=>h+1) N (10*SetTable.turns t.mask) (t.probeStart h) (by unfold SetTable.turns;lia) rfl r3 (.inl r2);rw[e1];cases ok with
   |empty hs=>rfl
   |cand m i hm hs hh=>lia
  obtain⟨F,a4⟩:=T.put r1 r2 r3 (by rw[af];lia);have pm:=Qj ps (t.put (pos t h N)).2 (h,Value.int n t0);have U:=pm.length_eq;rw[aJ]at U;rw[<-wj5 ps (t.put (pos t h N)).2 (h,Value.int n t0)]at F;have a1:(t.put (pos t h N)).1.fits (zq ps (t.put (pos t h N)).2 (h,Value.int n t0)).toArray.size=true:=F.fits';have ln:layNew t ps.toArray h (.int n t0)=((zq ps (t.put (pos t h N)).2 (h,Value.int n t0)).toArray,(t.put (pos t h N)).1,false,false):=by unfold layNew;rw[fs];dsimp only;rw[wjw];unfold SetTable.orStandIn;rw[a1];rfl
  rw[ln];dsimp only;have hm:(t.put (pos t h N)).1.mask=t.mask:=rfl;generalize (t.put (pos t h N)).2=p at F pm U ⊢;generalize (t.put (pos t h N)).1=t1 at F hm ⊢;have a6:100000<=sizeLine:=by decide
  have gw:∀ {s₁:Ab} {Q':Unit->Ab->Prop},Q' () s₁->wpAny (model prog w) A (match false with | true=>rule "set.scan.the-table-gave-way" | false=>pure ()) Q' E s₁:=λhq=>ai hq;refine ac (gw ?_);rw[aw F.plain,hashByValue_scannable 8 rfl];refine ac (ai ?_);simp only[plainKind,cV];refine ac (gz (s:={ s with toks:=tk }) W Z ?_ (by rw[av];lia));have g1:(s.heap.update S (Obj.putSet (zq ps p (h,Value.int n t0)).toArray t1)).get? S=some { o with data:=.set (zq ps p (h,Value.int n t0)).toArray (ep+1) t1 }:=qj3 W Z;have ab:Heap.SameBut S s.heap (s.heap.update S (Obj.putSet (zq ps p (h,Value.int n t0)).toArray t1)):=cG _ _ _;have fl:t1.fill=ps.length+1:=by unfold SetTable.fill;rw[F.dm,F.pl,af,U];rfl
  generalize s.heap.update S (Obj.putSet (zq ps p (h,Value.int n t0)).toArray t1)=h1 at g1 ab ⊢;by_cases tf:t1.tooFull=true
  .rw[tf];simp only[ir,jT,cV];have gr:SetTable.grown (zq ps p (h,Value.int n t0)).toArray.size=4*((zq ps p (h,Value.int n t0)).map (·.1)).length:=by unfold SetTable.grown;rw[ar (by rw[av];lia),af,av];lia
   obtain⟨J,D,f1,f2,T2,f4⟩:=F.relay (by rw[af,U];lia);have a0:(zq ps p (h,Value.int n t0)).toArray.map (·.1)=((zq ps p (h,Value.int n t0)).map (·.1)).toArray:=by simp
   have an:∀i∈D.toList,i<(zq ps p (h,Value.int n t0)).length:=λi hi=>by have:=al.mp (f2.mem_iff.mp hi);rwa [af]at this
   have oe:D.filterMap (λi=>(zq ps p (h,Value.int n t0)).toArray[i]?)=(D.toList.map λi=>(zq ps p (h,Value.int n t0)).getD i (0,.none)).toArray:=by apply d9.mp;rw[Array.toList_filterMap,Zr _ _ an]
   have ol:(D.toList.map λi=>(zq ps p (h,Value.int n t0)).getD i (0,.none)).length=(zq ps p (h,Value.int n t0)).length:=by rw[af,f2.length_eq,ay,af]
   have op:(D.toList.map λi=>(zq ps p (h,Value.int n t0)).getD i (0,.none)).Perm (zq ps p (h,Value.int n t0)):=by
    refine(f2.map _).trans ?_;rw[af];have:(List.range (zq ps p (h,Value.int n t0)).length).map (λi=>(zq ps p (h,Value.int n t0)).getD i (0,.none))=zq ps p (h,Value.int n t0):=by
     refine cH λi=>?_;rw[ax];by_cases c:i<(zq ps p (h,Value.int n t0)).length
     .rw[bg c];simp[ae,c]
     .rw[aP (by simp;lia),aP ⋯];rfl
    rw[this]
   have om:(D.toList.map λi=>(zq ps p (h,Value.int n t0)).getD i (0,.none)).map (·.1)=D.toList.map λi=>((zq ps p (h,Value.int n t0)).map (·.1)).getD i 0:=by rw[aN];refine bw λi hi=>?_;have:=an i hi;simp[ae,this]
   rw[<-om]at T2;have a2:coversAll D (zq ps p (h,Value.int n t0)).toArray.size=true:=by unfold coversAll;rw[List.isPerm_iff,av];have:=f2;rwa [af]at this
   have ra:relayAll t1 (zq ps p (h,Value.int n t0)).toArray (SetTable.grown (zq ps p (h,Value.int n t0)).toArray.size)=((D.toList.map λi=>(zq ps p (h,Value.int n t0)).getD i (0,.none)).toArray,J,false):=by unfold relayAll;rw[gr,a0,f1];dsimp only;rw[oe,a2];have:=T2.fits';rw[this];rfl
   rw[ra];dsimp only;generalize (D.toList.map λi=>(zq ps p (h,Value.int n t0)).getD i (0,.none))=ps2 at T2 op ol;refine ac (gw ?_);refine ac (gz (s:={ s with heap:=h1,toks:=tk }) g1 rfl ?_ (by rw[av,ol];lia));refine ai ?_;dsimp only;have as:Heap.SameBut S h1 (h1.update S (Obj.putSet ps2.toArray J)):=cG _ _ _;have g2:(h1.update S (Obj.putSet ps2.toArray J)).get? S=some { o with data:=.set ps2.toArray (ep+1+1) J }:=qj3 g1 rfl;refine ai (hQ2 ad _ tk ps2 (ab.trans as) ⟨_,_,J,g2,ap,rfl,T2,?_⟩ (op.trans pm));rw[af]at f4;lia
  .rw[iY]at tf;rw[tf];simp only[gn,aD,bA];refine ai (ai (hQ2 ad h1 tk _ ab ⟨_,_,t1,g1,ap,rfl,F,?_⟩ pm));unfold SetTable.tooFull at tf;have:=of_decide_eq_false tf;rw[fl]at this;lia
theorem wxb {x:Ag}{Q:Ag->Ab->Prop}(hT:s.TypeIs (.ref S) "set")(h:wpAny (model prog w) A.in1 (setAdd S x) (λ_ s'=>Q .none s') E s):wpAny (model prog w) A (call (.builtin "set.add") [.ref S,x]) Q E s:=by refine cT F.slot_set_add hT F.entry_set_add ?_ (F.args_set_add_2 _ _);unfold Builtin.«set.add» Builtin.Frozenset.oneOther;simp only[List.isEmpty_nil,bind_assoc];unfold Builtin.Frozenset.addrOf;(refine ac (ai ?_) ;try dsimp only);(refine ac (ai ?_) ;try dsimp only);refine ac (aY h (λb s' z=>?_) λ_ _ e=>e);show wpAny _ _ (ret Value.none) _ _ _;exact ai ⟨_,rfl,z⟩
end
section
variable {X:Cx}
theorem xkp (hu:X.A.units+64<cLine):Yk X (addT X.prog X.w):=by
 intro pins s σ H p ps y Z Q I ry F h;obtain⟨a,xs,L,rfl,J,hL,hn,q1,q2⟩:=h;obtain rfl:Z=Value.ref a:=ry;have P:SAt X.w s.heap p ps:=(I.hok p _ F).1;obtain⟨_,ab,rv,o,h1,h2,n,h3⟩:=(show ObjOk X.prog X.w H s.heap a (.tup (xs.map V.int)) from I.hok a _ J);have K:=hL.kp I.hok;have hx:(KD X.prog X.w).is s.heap (xs.map Sum.inl) a:=qqf I.hok (by rw[wku];exact J);refine wxb P.typeIs (xxp P K hx h1 h3 (λv hv=>?_) (by show X.A.in1.units<cLine;simp only[Around.in1];lia) hn (λz tk=>?_) λz h' tk D sb U pm=>?_)
 .exact(Qs rv).all v hv
 .refine⟨ps,H,I.tok _,q1 ?_⟩;obtain⟨ys,hy,e⟩:=az.mp z;rw[<-xjc e];exact hy
 .refine⟨D,_,qwh I (by rw[F];trivial) sb (let ⟨o,_,_,e,_⟩:=U;⟨o,e⟩) (qws U),q2 (λW=>z (az.mpr ⟨xs,W,rfl⟩)) D pm⟩
theorem xkt:Yk X (addI X.prog X.w):=by intro pins s σ H p ps y yv Q I W F h;obtain⟨n,L,rfl,hL,hn,q1,Z⟩:=h;obtain⟨t,rfl⟩:=W;have P:SAt X.w s.heap p ps:=(I.hok p _ F).1;refine wxb P.typeIs (xww P hL hn (λz tk=>⟨ps,H,I.tok _,q1 z⟩) λz h' tk D U J pm=>?_);exact⟨D,_,qwh I (by rw[F];trivial) U (let ⟨o,_,_,e,_⟩:=J;⟨o,e⟩) (qws J),Z z D t pm⟩
end
end L2
namespace L2
open PySem PySem.Spec PySem.Calls PySem.W PyProof.Rows
theorem wq7 {α:Type}:∀l:List α,l.zip l=l.map λv=>(v,v)
 |[]=>rfl
 |a::l=>by rw[List.zip_cons_cons,wq7 l];rfl
theorem TK.at_' {h:Heap}{d:Nat}{ks:List Ag}{kss:List (List Int)}(t:TK h d ks kss):∀i,i<kss.length->∃x o us n,ks.getD i .none=.ref x/\h.get? x=some o/\o.cls=.type "tuple" /\ o.data=.seq us.toArray n/\IntsAre us (kss.getD i [])/\(kss.getD i []).length=d:=by
 induction t with
 |nil=>intro i hi;simp at hi
 |@cons x o us n xs ks kss a b c e f _ ih =>
  intro i hi;cases i with
  |zero=>exact⟨x,o,us,n,rfl,a,b,c,e,f⟩
  |succ i=>exact ih i (by simpa using hi)
section
variable {prog:Ac}{w:Ah}{A:Ae}{E:Ag->Ab->Prop}{s:Ab}{S:Aj}{ps:List (Int×Ag)}
theorem wqu {Q:List Ag->Ab->Prop}(hh:A.handled=none)(P:SAt w s.heap S ps)(hn:ps.length<=sizeLine)
  (h:∀h' tk (qs:List (Int×Ag)),(∀b o,s.heap.get? b=some o->h'.get? b=some o)->qs.Perm ps->s.heap.objs.size<=h'.objs.size->Q (qs.map (·.2)) { s with heap:=h',toks:=tk }):wpAny (model prog w) A (collect (.ref S)) Q E s:=by
 obtain⟨o,ep,t,L,ab,hd,T,ad⟩:=P;have U:S<s.heap.objs.size:=ao L;have R:SRaw (s.heap.push (seqObj "list" #[] 0)) S ps ep t:=⟨o,ag _ L,ab,hd⟩;have Z:codeAny (model prog w) A (.builtin "proto.collect" ⟨[.ref S],[]⟩) (λr s'=>r=.ok (.ret (.ref s.heap.objs.size))/\∃h' tk z c',s'={ s with heap:=h',toks:=tk }/\(∀b o,b≠s.heap.objs.size->(s.heap.push (seqObj "list" #[] 0)).get? b=some o->h'.get? b=some o) /\
   h'.get? s.heap.objs.size=some { cls:=.type "list",dict:=none,data:=.seq z c',slots:=#[] }/\ItemsOf (λi v=>∃p,(wk w S ep ps)[i]?=some p/\v=p.2) z ps.length) s:=by
  refine gY entry_proto_collect' ?_;show wpAny _ _ (do again (.builtin "list.__iadd__" ⟨[<-newList [],.ref S],[]⟩)) _ _ s;(refine ac (gL (ai ⟨Code.quiet_builtin _ (by decide +kernel),gY entry_list_iadd' ?_⟩)) ;rw[gS (show plainId "list.__iadd__" = true by decide +kernel) _]);show wpAny _ _ (Builtin.List.listExtendWith (.ref s.heap.objs.size) (.ref S) (.ref s.heap.objs.size)) _ _ _;exact kdl_extend (s:={ s with heap:=s.heap.push (seqObj "list" #[] 0) }) (R:=λr s'=>r=.ok (.ret (.ref s.heap.objs.size))/\∃h' tk z c',s'={ s with heap:=h',toks:=tk }/\(∀b o,b≠s.heap.objs.size->(s.heap.push (seqObj "list" #[] 0)).get? b=some o->h'.get? b=some o) /\
   h'.get? s.heap.objs.size=some { cls:=.type "list",dict:=none,data:=.seq z c',slots:=#[] }/\ItemsOf (λi v=>∃p,(wk w S ep ps)[i]?=some p/\v=p.2) z ps.length) (xj7 T) (by simpa using hh) R s.heap.objs.size (ff U) (ff U) (.ref s.heap.objs.size) 0 (aA _ rfl) (λh' tk z c' F D J=>⟨rfl,h',tk,z,c',rfl,F,D,J⟩) hn
 unfold collect;refine ac (wpAny_runValue (fh Z λr s' hr=>?_));obtain⟨rfl,h',tk,z,c',rfl,F,D,J⟩:=hr;dsimp only;refine ac (wpAny_load D ?_);refine ai ?_;have e:z.toList=(wk w S ep ps).map (·.2):=by
  obtain⟨W,a2⟩:=J;have hl:=(qwp w S ep ps).length_eq;refine cH λi=>?_;rw[ax];by_cases c:i<ps.length
  .have hi:i<z.size:=by rw[W];exact c
   obtain⟨p,e1,e2⟩:=a2 i z[i] (aZ hi);rw[bL,aZ hi,e1,e2];rfl
  .rw[aP (by rw[bc,W];lia),aP ⋯];rfl
 rw[e];refine h h' tk _ (λb o e=>F b o (aB (ao e)) (ag _ e)) (qwp w S ep ps) ?_;exact bp (ao D)
theorem wz8 {a:Aj}{vs:List Ag}{k d:Nat}{kss:List (List Int)}{P:PySem.Fin->Ab->Prop}(ho:s.heap.get? a=some (seqObj "list" vs.toArray k))(h6:vs.length<64)(hd:1<=d)(t:TK s.heap d vs kss)(nd:kss.Nodup)
  (h:∀(out:List Ag) (kss':List (List Int)),TK s.heap d out kss'->out.Perm vs->kss'.Perm kss->kss'.Pairwise (λx y=>ku x y=true)->P (.done (.ret .none)) { s with heap:=sortedHeap s.heap a vs out.toArray }):wpAny (model prog w) A (Builtin.«list.sort» ⟨[.ref a],[]⟩) P E s:=by
 have bd:=t.length;have ha:a<s.heap.objs.size:=ao ho;obtain⟨e1,a0⟩:∃e1,(s.heap.update a (Obj.mapSeq λ_=>(#[]:Array Ag))).get? a=some (seqObj "list" #[] e1):=⟨_,eK ho λ_=>#[]⟩;have sz:(1000001:Nat)<sizeLine:=by decide
 rw[list_sort_plain];refine ac (listItems_at ho rfl ?_);refine ac (eO ho rfl ?_ (by rw[av];lia) (aQ _));refine ac (iN a0 rfl ?_);refine ac (wpAny_newTuple ?_ (by show vs.length<=_;lia));refine ac (gL ?_ (aQ _));refine cg ?_;show wpAny (model prog w) A _ P E { s with heap:=((s.heap.update a (Obj.mapSeq λ_=>(#[]:Array Ag))).push (seqObj "tuple" vs.toArray 0)).push (seqObj "list" #[] 0) };have ah:(((s.heap.update a (Obj.mapSeq λ_=>(#[]:Array Ag))).push (seqObj "tuple" vs.toArray 0)).push (seqObj "list" #[] 0)).get? a=some (seqObj "list" #[] e1):=ag _ (ag _ a0);have t6:TK (((s.heap.update a (Obj.mapSeq λ_=>(#[]:Array Ag))).push (seqObj "tuple" vs.toArray 0)).push (seqObj "list" #[] 0)) d vs kss:=t.kept λb o e c=>by refine ag _ (ag _ ?_);rw[bS _ _ _ _ (λz=>by rw[z,ho]at e;cases e;exact absurd c (by show ¬ Value.type "list" = Value.type "tuple";decide))];exact e
 have an:∀(h':Heap) (out:List Ag) (kss':List (List Int)),h'=((s.heap.update a (Obj.mapSeq λ_=>(#[]:Array Ag))).push (seqObj "tuple" vs.toArray 0)).push (seqObj "list" #[] 0)->TK s.heap d out kss'->out.Perm vs->kss'.Perm kss->kss'.Pairwise (λx y=>ku x y=true)->P (.done (.ret .none)) { s with heap:=h'.update a (Obj.mapSeq λ_=>out.toArray) }:=λh' out kss' e a1 a2 a3 a4=>by subst e;exact h out kss' a1 a2 a3 a4
 generalize ((s.heap.update a (Obj.mapSeq λ_=>(#[]:Array Ag))).push (seqObj "tuple" vs.toArray 0)).push (seqObj "list" #[] 0)=h6' at ah t6 an ⊢;have an:=λout kss'=>an h6' out kss' rfl;dsimp only;by_cases h2:vs.toArray.size<2
 .rw[aw h2,aw h2];refine ac (ai ?_);rw[StateT.run_pure];refine ac (ai ?_);dsimp only;have e:(arrOf (SortSt.mk' general' (vs.toArray.zip vs.toArray) #[] 7 none)).map (·.2)=vs.toArray:=by
   show(vs.toArray.zip vs.toArray).map (·.2)=vs.toArray
   match vs,h2 with
   |[],_=>simp
   |[v],_=>simp
   |_::_::_,h2=>simp at h2;lia
  rw[e];refine ac (iN ah rfl ?_);refine ac (eO ah rfl ?_ (aQ _) (by rw[av];lia));simp only[eT,aD,bA];refine ai (an vs kss t (.refl _) (.refl _) ?_);have:kss.length<2:=by rw[<-bd];simpa using h2
  match kss,this with
  |[],_=>exact .nil
  |[x],_=>exact cU _ _
 .rw[ar h2,ar h2];have bm:2<=vs.length:=by simpa using h2
  obtain⟨fs,t1,t2,t3⟩:=t6.tups hd;refine ac (kat_kind (s:={ s with heap:=h6' }) (T:=.type "int") t1 ⋯ (λv hv=>?_) rfl ?_)
  .obtain⟨i,tk,rfl⟩:=t3 v hv;exact Looks.of_pure rfl
  let ix:Ai->Nat:=λx=>vs.findIdx λu=>match u,x.1 with|.ref b,.ref c=>b==c|_,_=>false
  let kz:Ai->Int:=λx=>kzL kss (kss.getD (ix x) []);have as:∀i j,i<kss.length->j<kss.length->kss.getD i []=kss.getD j []->i=j:=λi j hi J e=>by rw[ae,aa hi,ae,aa J]at e;exact(List.getElem_inj nd).mp e
  have ref:∀i,i<vs.length->∃x o us n,vs[i]?=some (Value.ref x)/\h6'.get? x=some o/\o.data=.seq us.toArray n/\IntsAre us (kss.getD i [])/\(kss.getD i []).length=d:=λi hi=>by obtain⟨x,o,us,n,F,b2,b3,b4,b5⟩:=t6.at_ i ⋯;rw[ae,aa hi]at F;exact⟨x,o,us,n,by rw[aa hi];exact b7 some F,b2,b3,b4,b5⟩
  have a7:∀(i j:Nat) (x:Aj),vs[i]?=some (Value.ref x)->vs[j]?=some (.ref x)->i=j:=λi j x D Z=>by
   have hi:=(am.mp D).1;have J:=(am.mp Z).1;obtain⟨y,o,us,n,F,b2,b3,b4,b5⟩:=ref i hi;obtain⟨y',o',ap,n',c1,c2,c3,c4,c5⟩:=ref j J;rw[D]at F;rw[Z]at c1;cases F;cases c1;rw[b2]at c2;cases c2;rw[b3]at c3;have eu:us=ap:=by have:us.toArray=ap.toArray:=(Data.seq.inj c3).1;exact b7 Array.toList this
   subst eu;exact as i j ⋯ ⋯ (b4.nums.symm.trans c4.nums)
  have ad:∀(i:Nat) (x:Aj) (u:Ag),vs[i]?=some (Value.ref x)->ix (.ref x,u)=i:=λi x u D=>by
   have hi:=(am.mp D).1;refine(List.findIdx_eq hi).mpr ⟨?_,λj J=>?_⟩
   .have:vs[i]=.ref x:=by rw[aa hi]at D;exact aq D
    rw[this];simp
   .obtain⟨y,o,us,n,F,_⟩:=ref j ⋯;have:vs[j]=.ref y:=by rw[aa ⋯]at F;exact aq F
    rw[this];simp only[cD];intro z;rw[z]at F;have:=a7 j i x F D;lia
  let G:Ai->Prop:=λx=>∃(i:Nat) (y:Aj),vs[i]?=some (Value.ref y)/\x=(.ref y,.ref y);have W:∀i,i<kss.length->kss.getD i []∈kss:=λi hi=>by rw[ae,aa hi];exact bD _
  have ab:∀(i:Nat) (y:Aj) (u:Ag),vs[i]?=some (Value.ref y)->kz (.ref y,u)=kzL kss (kss.getD i []):=λi y u e=>by show kzL kss (kss.getD (ix (.ref y,u)) [])=_;rw[ad i y u e]
  have O:Tm.qk9 (model prog w) A E { s with heap:=h6' } G kz (tuples' true):=by
   rintro x y st Q ⟨i,bx,D,rfl⟩ ⟨j,by_,Z,rfl⟩ hk hQ;have hi:=(am.mp D).1;have J:=(am.mp Z).1;obtain⟨y1,o,us,n,F,b2,b3,b4,b5⟩:=ref i hi;obtain⟨y2,o',ap,n',c1,c2,c3,c4,c5⟩:=ref j J;rw[D]at F;rw[Z]at c1;cases F;cases c1;rw[lt'_eq];refine bU (wpS_get ?_);rw[hk];refine bU (wpS_lift (eN (lex_lt (s:={ s with heap:=h6' }) b2 b3 c2 c3 b4 c4 (by rw[W5 b4,W5 c4,b5,c5]) ⟨rfl,?_⟩)));refine cS ?_;rw[ab i _ _ D,ab j _ _ Z]at hQ;have:=qjs t.lens (W i ⋯) (W j ⋯);have e:ku (kss.getD i []) (kss.getD j [])=decide (kzL kss (kss.getD i [])<kzL kss (kss.getD j [])):=by
    by_cases c:ku (kss.getD i []) (kss.getD j [])=true
    .rw[c,aF (this.mpr c)]
    .rw[aT (λz=>c (this.mp z))];simpa using c
   rw[e];exact hQ
  have zl:(vs.toArray.zip vs.toArray).toList=vs.map λv=>(v,v):=by rw[Array.toList_zip];exact wq7 vs
  have a9:∀i j,i<kss.length->j<kss.length->i≠j->kzL kss (kss.getD i [])≠kzL kss (kss.getD j []):=λi j hi J a5 z=>by
   rcases qu4 (t.lens _ (W i hi)) (t.lens _ (W j J)) with c|c|c
   .have:=(qjs t.lens (W i hi) (W j J)).mpr c;lia
   .exact a5 (as i j hi J c)
   .have:=(qjs t.lens (W j J) (W i hi)).mpr c;lia
  have U:Tm.Un kz G (vs.toArray.zip vs.toArray):=by
   refine⟨?_,λx hx=>?_⟩
   .rw[zl,cf];refine ba.mpr λi j hi J a5=>?_;obtain⟨y1,_,_,_,F,_⟩:=ref i hi;obtain⟨y2,_,_,_,c1,_⟩:=ref j J;have f1:vs[i]=.ref y1:=by rw[aa hi]at F;exact aq F
    have f2:vs[j]=.ref y2:=by rw[aa J]at c1;exact aq c1
    rw[f1,f2,ab i _ _ F,ab j _ _ c1];exact a9 i j ⋯ ⋯ ⋯
   .rw[zl]at hx;obtain⟨v,hv,rfl⟩:=az.mp hx;obtain⟨i,D⟩:=dv hv;obtain⟨y,_,_,_,F,_⟩:=ref i (am.mp D).1;rw[D]at F;cases F;exact⟨i,y,D,rfl⟩
  refine ac (aY (Tm.Zc (Q:=λ_ L=>(arrOf L).Perm (vs.toArray.zip vs.toArray)/\failedOf L=none/\Tm.SL kz (arrOf L).toList) (st:=SortSt.mk' (tuples' true) (vs.toArray.zip vs.toArray) #[] 7 none) O U rfl rfl rfl rfl (by show(vs.toArray.zip vs.toArray).size<64;simp;lia) λL a1 a2 a3=>⟨a1,a2,a3⟩) ?_ λ_ _ e=>e);rintro⟨⟨⟩,L⟩ s' ⟨rfl,F,b2,b3⟩;dsimp only;have pl:=eV.mp F;rw[zl]at pl;have op:((arrOf L).toList.map (·.2)).Perm vs:=by have:=pl.map (·.2);rwa [aN,show((λx:Ag×Ag=>x.2)∘λv=>(v,v))=id from rfl,List.map_id]at this
  have oe:(arrOf L).map (·.2)=((arrOf L).toList.map (·.2)).toArray:=by apply d9.mp;simp
  have a6:∀l:List Ai,(∀x∈l,G x)->TK s.heap d (l.map (·.2)) (l.map λx=>kss.getD (ix x) []):=λl=>by
   induction l with
   |nil=>intro _;exact .nil
   |cons x l ih =>
    intro hx;obtain⟨i,y,D,rfl⟩:=hx x (.head _);have hi:=(am.mp D).1;obtain⟨x0,o0,bl,n0,g1,g2,bk,g3,g4,g5⟩:=t.at_' i ⋯;rw[ae,D]at g1;cases g1;rw[aC,aC,ad i y _ D];exact .cons g2 bk g3 g4 g5 (ih λz hz=>hx z (.tail _ hz))
  have gl:∀x∈(arrOf L).toList,G x:=λx hx=>by have:=pl.mem_iff.mp hx;rw[<-zl]at this;exact U.g x this
  have kp:((arrOf L).toList.map λx=>kss.getD (ix x) []).Perm kss:=by
   refine(pl.map _).trans ?_;rw[aN];have:vs.map ((λx=>kss.getD (ix x) [])∘λv=>(v,v))=kss:=by
    refine cH λi=>?_;rw[ax];by_cases c:i<vs.length
    .obtain⟨y,_,_,_,e,_⟩:=ref i c;rw[e];show some (kss.getD (ix (.ref y,.ref y)) [])=_;rw[ad i y _ e,ae,aa ⋯];rfl
    .rw[aP ⋯,aP ⋯];rfl
   rw[this]
  have a8:((arrOf L).toList.map λx=>kss.getD (ix x) []).Pairwise (λx y=>ku x y=true):=by rw[cf];refine cB (λ{x y} hx hy hxy=>?_) b3;obtain⟨i,a1,D,rfl⟩:=gl x hx;obtain⟨j,a2,Z,rfl⟩:=gl y hy;have hi:=(am.mp D).1;have J:=(am.mp Z).1;rw[ab i _ _ D,ab j _ _ Z]at hxy;rw[ad i _ _ D,ad j _ _ Z];exact(qjs t.lens (W i ⋯) (W j ⋯)).mp hxy
  rw[oe];refine ac (iN (s:={ s with heap:=h6' }) ah rfl ?_);refine ac (eO (s:={ s with heap:=h6' }) ah rfl ?_ (aQ _) (by rw[av,op.length_eq];lia));rw[b2];simp only[eT,aD,bA];exact ai (an _ _ (a6 _ gl) op kp a8)
end
end L2
namespace L2
open PySem PySem.Spec PySem.Calls PySem.W PyProof.Rows
section
variable {prog:Ac}{w:Ah}{A:Ae}{E:Ag->Ab->Prop}{s:Ab}
theorem Zm {h:Heap}{a:Aj}{vs:List Ag}{k:Nat}(ho:h.get? a=some (seqObj "list" vs.toArray k))(out:Array Ag):∃e,(sortedHeap h a vs out).get? a=some (seqObj "list" out e):=by obtain⟨z,D⟩:∃z,(h.update a (Obj.mapSeq λ_=>(#[]:Array Ag))).get? a=some (seqObj "list" #[] z):=⟨_,eK ho λ_=>#[]⟩;exact⟨_,eK (ag _ (ag _ D)) λ_=>out⟩
theorem Wu {h:Heap}{a b:Aj}{vs:List Ag}{o:Obj}(e:h.get? b=some o)(hb:b≠a)(out:Array Ag):(sortedHeap h a vs out).get? b=some o:=by unfold sortedHeap;rw[bS _ _ _ _ hb];refine ag _ (ag _ ?_);rw[bS _ _ _ _ hb];exact e
theorem qx8 {S:Aj}{ps:List (Int×Ag)}{Q:Ag->Ab->Prop}(hh:A.handled=none)(P:SAt w s.heap S ps)(hn:ps.length<=100000)
  (h:∀(h':Heap) (tk:Nat) (qs:List (Int×Ag)),(∀b o,s.heap.get? b=some o->h'.get? b=some o)->qs.Perm ps->s.heap.objs.size<=h'.objs.size ->
   wpAny (model prog w) A.in1.in1 (Builtin.«list.sort» ⟨[.ref h'.objs.size],[]⟩) (λfin s'=>∃r,fin=.done (.ret r)/\Q (.ref h'.objs.size) s') E { s with heap:=h'.push (seqObj "list" (qs.map (·.2)).toArray 0),toks:=tk }) :
  wpAny (model prog w) A (call (.builtin "sorted") [.ref S]) Q E s:=by
 have U:(100001:Nat)<sizeLine:=by decide
 refine Calls.call_function_entry kind_sorted plain_sorted entry_sorted (args_sorted1 _) ?_;unfold Builtin.«sorted»;refine ac (m:=checkCount "sorted" 1 1 _) (ai ?_);refine ac (wqu (by simpa using hh) P ⋯ λh' tk qs J pm z=>?_);have W:=pm.length_eq;refine ac (gL ?_ (by rw[af];lia));have F:(h'.push (seqObj "list" (qs.map (·.2)).toArray 0)).get? h'.objs.size=some (seqObj "list" (qs.map (·.2)).toArray 0):=aA _ rfl;refine ac (cg (cT slot_list_sort ⟨_,F,rfl⟩ entry_list_sort ?_ (args_list_sort _)));refine aY (h h' tk qs J pm z) (λfin s' L=>?_) λ_ _ e=>e;obtain⟨r,rfl,D⟩:=L;exact⟨_,rfl,ai ⟨_,rfl,D⟩⟩
end
section
variable {X:Cx}
theorem xzw {H:Hp}{s:Ab}{d:Nat}(ok:HOk X.prog X.w H s.heap):∀ {qs:List (Int×Ag)} {L:List (List Int)},PsT X.prog X.w H qs L->(∀r∈L,r.length=d)->TK s.heap d (qs.map (·.2)) L
 |_,_,.nil,_=>.nil
 |_,_,.cons ⟨a,e,f⟩ t,hl=>by subst e;obtain⟨_,us,rv,o,ho,hc,n,hd⟩:=(show ObjOk X.prog X.w H s.heap a (.tup _) from ok a _ f);exact .cons ho hc hd (Qs rv) (hl _ (.head _)) (xzw ok t λr hr=>hl r (.tail _ hr))
theorem qv0 (hc:X.calm=true):js X (.builtin "sorted") (λxs H Q=>∃(S:Aj) (ps:List (Int×Ag)) (L:List (List Int)) (d:Nat),xs=[.ref S]/\H S=some (Qq X.w S ps)/\PsT X.prog X.w H ps L/\L.Nodup/\L.length<64/\1<=d/\(∀r∈L,r.length=d) /\
  ∀(l:Aj) (ys:List V) (L':List (List Int)),H l=none->L'.Perm L->L'.Pairwise (λx y=>ku x y=true)->Tups L' ys H->Q (.ref l) (upd H l (.lst ys))):=by
 intro pins s σ H xs us Q I r h;obtain⟨S,ps,L,d,rfl,hS,hL,nd,hn,hd,hl,q⟩:=h;obtain⟨u,rfl,ru⟩:=yy r;cases(show u=Value.ref S from ru);have P:SAt X.w s.heap S ps:=(I.hok S _ hS).1;have ll:=hL.len;have sz:(100001:Nat)<sizeLine:=by decide
 refine qx8 (I.ok.hd hc) P ⋯ λh' tk z hk pm hz=>?_;obtain⟨L1,p1,W⟩:=Paired.perm pm hL;have W:PsT X.prog X.w H z L1:=W;have ab:(h'.push (seqObj "list" (z.map (·.2)).toArray 0)).get? h'.objs.size=some (seqObj "list" (z.map (·.2)).toArray 0):=aA _ rfl;have I1:Inv X pins σ H { s with heap:=h',toks:=tk }:=I.kept hk;have t1:TK h' d (z.map (·.2)) L1:=xzw (s:={ s with heap:=h',toks:=tk }) I1.hok W λr hr=>hl r (p1.mem_iff.mp hr);have t2:=t1.kept (h':=h'.push (seqObj "list" (z.map (·.2)).toArray 0)) λb o e _=>ag _ e;have a4:=pm.length_eq;refine wz8 (s:={ s with heap:=h'.push (seqObj "list" (z.map (·.2)).toArray 0),toks:=tk }) ab (by rw[af];lia) hd t2 (p1.nodup_iff.mpr nd) λF as t3 op kp a0=>⟨_,rfl,?_⟩;have ap:∀v∈z.map (·.2),∃(a:Aj) (xs:List Int),v=Value.ref a/\H a=some (.tup (xs.map V.int)):=λv J=>by
  obtain⟨p,D,rfl⟩:=az.mp J;obtain⟨i,ei⟩:=dv D;have a1:∀ {z:List (Int×Ag)} {L:List (List Int)},PsT X.prog X.w H z L->∀p∈z,∃(a:Aj) (xs:List Int),p.2=Value.ref a/\H a=some (.tup (xs.map V.int)):=by
   intro z L h
   induction h with
   |nil=>intro p D;cases D
   |cons r t ih =>
    obtain⟨a,e,f⟩:=r;intro p D;rcases aO.mp D with rfl|D
    .exact⟨a,_,by rw[e],f⟩
    .exact ih p D
  exact a1 W p D
 have tr:∀ {F:List Ag} {Z:List (List Int)},TK (h'.push (seqObj "list" (z.map (·.2)).toArray 0)) d F Z->(∀v∈F,v∈z.map (·.2))->∃ys,Vals ys F/\Tups Z ys H:=by
  intro F Z t
  induction t with
  |nil=>intro _;exact⟨[],.nil,.nil⟩
  |@cons x o us n xs ks Z a b c e f _ ih =>
   intro J;obtain⟨ys,U,v2⟩:=ih λv a2=>J v (.tail _ a2);obtain⟨a',ah,ea,fa⟩:=ap _ (J _ (.head _));cases ea;obtain⟨_,an,rv,o',a3,a5,n',ad⟩:=(show ObjOk X.prog X.w H h' x (.tup _) from I1.hok x _ fa);have e9:o=o':=by have:=ag (seqObj "list" (z.map (·.2)).toArray 0) a3;rw[a]at this;exact aq this
   subst e9;rw[c]at ad;have eu:us=an:=b7 Array.toList (Data.seq.inj ad).1;subst eu;have ex:xs=ah:=e.nums.symm.trans (Qs rv).nums;subst ex;exact⟨.ref x::ys,.cons rfl U,.cons ⟨x,rfl,fa⟩ v2⟩
 obtain⟨ys,U,v2⟩:=tr t3 λv J=>op.mem_iff.mp J;obtain⟨e,he⟩:=Zm ab F.toArray;have nl:H h'.objs.size=none:=I.hok.fresh hz;refine⟨.ref _,_,I.laid (t':=tk) (λb u hb=>Wu (ag _ (hk b u hb)) (aB (aL (ao hb) hz)) _) hz (show ObjOk X.prog X.w _ _ _ (.lst ys) from ⟨?_,F,e,U,he⟩),rfl,q _ ys as nl (kp.trans p1) a0 v2⟩;rw[U.length,op.length_eq,af];lia
theorem qvf (hc:X.calm=true):js X (.builtin "sorted") (λxs H Q=>∃(S:Aj) (ps:List (Int×Ag)) (ns:List Int),xs=[.ref S]/\H S=some (Qq X.w S ps)/\PsI X.prog X.w ps ns/\ns.length<64 /\
  ∀(l:Aj) (ms:List Int),H l=none->ms.Perm ns->ms.Pairwise (·<=·)->Q (.ref l) (upd H l (.lst (ms.map V.int)))):=by
 intro pins s σ H xs us Q I r h;obtain⟨S,ps,ns,rfl,hS,Z,hn,q⟩:=h;obtain⟨u,rfl,ru⟩:=yy r;cases(show u=Value.ref S from ru);have P:SAt X.w s.heap S ps:=(I.hok S _ hS).1;have ll:=Z.len;have sz:(100001:Nat)<sizeLine:=by decide
 refine qx8 (I.ok.hd hc) P ⋯ λh' tk z hk pm D=>?_;obtain⟨L1,F,q1⟩:=Paired.perm pm Z;have ia:∀ {z:List (Int×Ag)} {L:List Int},PsI X.prog X.w z L->IntsAre (z.map (·.2)) L:=by
  intro z L h
  induction h with
  |nil=>exact .nil
  |cons r t ih =>
   obtain⟨tk,rfl⟩:=r;exact .cons _ _ ih
 have U:(h'.push (seqObj "list" (z.map (·.2)).toArray 0)).get? h'.objs.size=some (seqObj "list" (z.map (·.2)).toArray 0):=aA _ rfl;have ab:=pm.length_eq;refine list_sort_tree (s:={ s with heap:=h'.push (seqObj "list" (z.map (·.2)).toArray 0),toks:=tk }) U (ia q1) (by rw[af];lia) λJ ms a1 a2 a3=>⟨_,rfl,?_⟩;obtain⟨e,he⟩:=Zm U J;have nl:H h'.objs.size=none:=I.hok.fresh D;refine⟨.ref _,_,I.laid (t':=tk) (λb u W=>Wu (ag _ (hk b u W)) (aB (aL (ao W) D)) _) D (show ObjOk X.prog X.w _ _ _ (.lst (ms.map V.int)) from ⟨?_,J.toList,e,qqu a1,by simpa using he⟩),rfl,q _ ms nl (a2.trans F) a3⟩;rw[af,a2.length_eq,F.length_eq];lia
end
end L2
namespace L2
open PySem PySem.Spec PySem.Calls PyProof.Rows
section
variable {prog:Ac}{w:Ah}{A:Ae}{E:Ag->Ab->Prop}{s:Ab}{R:Result->Ab->Prop}
theorem wut {Q:Ag->Ab->Prop}(h:Q (.ref s.heap.objs.size) { s with heap:=s.heap.push { cls:=.type "set",dict:=none,data:=.set #[] 0 (.fresh 0 0 (!byT w)) } }):wpAny (model prog w) A (newSet (.type "set")) Q E s:=by unfold newSet;refine ac (Jg ?_);exact ca h
theorem wkf {h:Heap}{S:Aj}(e:h.get? S=some { cls:=.type "set",dict:=none,data:=.set #[] 0 (.fresh 0 0 (!byT w)) }):SAt w h S []:=⟨_,0,_,e,⟨rfl,rfl,rfl⟩,rfl,Tab.fresh,by show 0*5<7*3;decide⟩
theorem wux {elt:Expr}{target:Expr}{iter:Expr}{ifs:List Expr}{rest:List Comprehension}{scope:Scope}{pos:Pos}{it acc:Ag}{env:Env}(h0:codeAny (model prog w) A (.compLoop (.SetComp elt (⟨target,iter,ifs,0⟩::rest) scope pos) 0 it acc env) R s)
  (h:wpAny (model prog w) A (pyIter it) (λit' s'=>codeAny (model prog w) A (.compLoop (.SetComp elt (⟨target,iter,ifs,0⟩::rest) scope pos) 0 it' acc env) R s') (notedBy (model prog w) A env λx s'=>R (.error x) s') s) :
  codeAny (model prog w) A (.compStart (.SetComp elt (⟨target,iter,ifs,0⟩::rest) scope pos) 0 it acc env) R s:=by
 refine codeAny_of_tree ?_;show wpAny _ _ ((compStart (.SetComp elt (⟨target,iter,ifs,0⟩::rest) scope pos) 0 it acc env).onRaise (λx=>do noteFrame x env;standAt theWindowsPlace)) _ _ s;(refine wpAny_notedAt ?_ ;unfold compStart ;show wpAny _ _ (ask >>= _) _ _ s ;refine ac (fk (wpAny_ite ?_)));split
 ·(first | exact ac (ai (ai (And.intro rfl h0))) | exact ai (And.intro rfl h0))
 ·(first | exact ac (eB (ac (dh (ac (aY h (λit' s' h'=>ai (And.intro rfl h')) λ_ _ x=>x))))) | (refine ac (eB ?_);show wpAny _ _ (standAt iter.pos >>= _) _ _ s;exact ac (dh (ac (aY h (λit' s' h'=>ai (And.intro rfl h')) λ_ _ x=>x)))))
end
theorem wxz (elt:Expr)(gens:List Comprehension)(scope:Scope)(pos:Pos)(env:Env):eval (.SetComp elt gens scope pos) env=comprehension (.SetComp elt gens scope pos) scope env (firstIterPos gens pos) (newSet (.type "set")) (firstAsync gens) (firstIter gens env):=rfl
theorem wqp (elt target iter:Expr)(cd:Expr)(scope:Scope)(pos:Pos)(it acc:Ag)(env:Env):compTurn (.SetComp elt [⟨target,iter,[cd],0⟩] scope pos) 0 it acc env=(standAt iter.pos >>= λ_=>pyNext it >>= λr=>match r with | none=>pure (.done .next) | some v=>letOwnedTupleGo target it v >>= λ_=>assign target env v >>= λ_=>(forIn [cd] true λc r=>if r=true then do let ok <-isTrue c env (eval c env);pure (ForInStep.yield ok) else pure (ForInStep.yield r)) >>= λok=>if ok=true then(eval elt env >>= λx=>standAt elt.pos >>= λ_=>call (.builtin "set.add") [acc,x] >>= λ_=>pure ()) >>= λ_=>again (.compLoop (.SetComp elt [⟨target,iter,[cd],0⟩] scope pos) 0 it acc env) else again (.compLoop (.SetComp elt [⟨target,iter,[cd],0⟩] scope pos) 0 it acc env)):=by rfl
section
variable {X:Cx}{pins:List (Aj×Obj)}{σ:St}{H:Hp}{s2:Ab}{scope:Scope}{cl:List (Str×Aj)}{x:Str}{M:List Nat}{fp:List Aj}{C:Aj}{h1:Heap}{tk:Nat}
theorem Inv.compO {oo:HO}(I:Inv X pins σ H s2)(hc:CapAll X.env cl)(hh:HasAll cl scope.names)(hm:CapIx X scope cl M)(hk:scope.kind=.function)(hC:s2.heap.objs.size<C)
  (keep:∀b o,s2.heap.get? b=some o->h1.get? b=some o) (hn:h1.Ns C λ_=>none) (hD:ObjOk X.prog X.w (upd H s2.heap.objs.size oo) h1 s2.heap.objs.size oo)
  (hfp:∀b∈fp,k8 X pins H b) (hob:∀b∈fp,∃o,s2.heap.get? b=some o) :
  Inv (zn X scope cl x M C s2 H fp (X.pn++pins)) [] (zh M σ none) (upd H s2.heap.objs.size oo) { s2 with heap:=h1,toks:=tk }:=I.compG (xs:=[x]) hc hh hm hk hC keep hn hD hfp hob
end
section
variable {X:Cx}{pins:List (Aj×Obj)}{σ:St}{H:Hp}{s2:Ab}{scope:Scope}{cl:List (Str×Aj)}{x y:Str}{M:List Nat}{fp:List Aj}{C:Aj}{h1:Heap}{tk:Nat}
theorem Inv.comp2O {oo:HO}(I:Inv X pins σ H s2)(hc:CapAll X.env cl)(hh:HasAll cl scope.names)(hm:CapIx X scope cl M)(hk:scope.kind=.function)(hC:s2.heap.objs.size<C)
  (keep:∀b o,s2.heap.get? b=some o->h1.get? b=some o) (hn:h1.Ns C λ_=>none) (hD:ObjOk X.prog X.w (upd H s2.heap.objs.size oo) h1 s2.heap.objs.size oo)
  (hfp:∀b∈fp,k8 X pins H b) (hob:∀b∈fp,∃o,s2.heap.get? b=some o) :
  Inv (zw X scope cl x y M C s2 H fp (X.pn++pins)) [] (zk M σ none none) (upd H s2.heap.objs.size oo) { s2 with heap:=h1,toks:=tk }:=I.compG (xs:=[x,y]) hc hh hm hk hC keep hn hD hfp hob
end
section
variable {Y:Cx}{elt cd:Expr}{te:TE}{tt:TT}{c:Code}{p:Aj}{σ:St}{H:Hp}{pins:List (Aj×Obj)}{s:Ab}
def addS (elt:Expr)(acc:Ag)(env:Env)(c:Code):Sem PySem.Fin:=(eval elt env >>= λx=>standAt elt.pos >>= λ_=>call (.builtin "set.add") [acc,x] >>= λ_=>pure ()) >>= λ_=>again c
theorem ww5 {ys:List (Int×Ag)}{add:qz6}{N:List (Int×Ag)->Hp->Prop}(he:PE Y elt te)(ha:Yk Y add)(J:Inv Y pins σ H s)(h:te σ H λy H5=>H5 p=some (Qq Y.w p ys)/\add p ys y H5 N) :
  wpAny (model Y.prog Y.w) Y.A (addS elt (.ref p) Y.env c) (λr s5=>r=Fin.again c/\∃H5,Inv Y pins σ H5 s5/\∃zs,N zs H5) Y.xe s:=by
 refine ac (ac (aY (he _ s _ H _ J h) (λD F Z=>?_) λ_ _ z=>z));obtain⟨y,H4,J7,L,ab,ad⟩:=Z;refine ac (dh (ac (aY (ha _ F _ H4 p ys y D _ J7 L ab ad) (λ_ s8 W=>?_) λ_ _ z=>z)));obtain⟨zs,H8,J8,U⟩:=W;exact ai (ai ⟨rfl,_,J8,zs,U⟩)
end
section
variable {X:Cx}{elt iter cd tg:Expr}{x y2:Str}{px pos:Pos}{scope:Scope}{cl:List (Str×Aj)}{M:List Nat}{wi:TI}{te:TE}{tt:TT}{gg:TG}{add:qz6}{pins:List (Aj×Obj)}{σ:St}
theorem qw8 (hclos:closureFor scope X.env=pure cl)(hhas:HasAll cl scope.names)(hk:scope.kind=.function)
  (hnames:∀y∈scope.names,y.2=.local->scope.names.lookup y.1=some .local) (hi:PI X tg iter wi) (hs:∀z,foldedSetIterable iter X.env z=pure z)
  {use:Option (Ag->Sem Unit)} {QQ:Ag->Ab->Prop} {s:Ab} {H:Hp} {ps:Pos} {R:It->Hp->Prop} (I:Inv X pins σ H s) (h:wi σ H R)
  (go:∀(it:Aj) (fp:List Aj) (tn:Nat->Heap->Prop) (J:It) (H1:Hp) (s2:Ab) (C:Aj) (h3:Heap) (tk:Nat),Inv X pins σ H1 s2->Turn X.prog X.w X.K tg J fp it tn->tn 0 h3->(∀b∈fp,k8 X pins H1 b)->(∀b∈fp,b<s2.heap.objs.size)->(∀b∈fp,∃o,s2.heap.get? b=some o)->R J H1->s2.heap.objs.size<C ->
   (∀b o,s2.heap.get? b=some o->h3.get? b=some o)->(h3.Ns C λ_=>none)->h3.get? s2.heap.objs.size=some { cls:=.type "set",dict:=none,data:=.set #[] 0 (.fresh 0 0 (!byT X.w)) } ->
   codeAny (model X.prog X.w) X.A (.compLoop (.SetComp elt [⟨tg,iter,[cd],0⟩] scope pos) 0 (.ref it) (.ref s2.heap.objs.size) (compEnvC scope cl C X.env)) (compPost (model X.prog X.w) X.A X.xe use QQ (.ref s2.heap.objs.size) C) { s2 with heap:=h3,toks:=tk }) :
  wpAny (model X.prog X.w) X.A (comprehension (.SetComp elt [⟨tg,iter,[cd],0⟩] scope pos) scope X.env ps (newSet (.type "set")) false (eval iter X.env) use) QQ X.xe s:=by
 refine fF (use:=use) rfl hs hclos hk hnames ?_;refine thn (hi pins s σ H _ I h) λv s1 h1=>thn h1 λan s2 h2=>?_;obtain⟨it,fp,tn,J,H1,rfl,I2,T,F,ah,hR⟩:=h2;refine wut ?_;refine gO hhas.nocell (by intro y hy;cases hy) (λh3 L D=>?_) hk;dsimp only at L D ⊢;generalize hH2:s2.heap.push { cls:=.type "set",dict:=none,data:=.set #[] 0 (.fresh 0 0 (!byT X.w)) }=G2 at L D ⊢;have hC:G2.objs.size=s2.heap.objs.size+1:=by rw[<-hH2,cY]
 have U:s2.heap.objs.size<G2.objs.size:=by lia
 have ad:∀b o,s2.heap.get? b=some o->h3.get? b=some o:=λb o e=>by rw[D.2 b (aB (bn (ao e) U))];exact ag _ (hH2▸ag _ e)
 have hD:h3.get? s2.heap.objs.size=some { cls:=.type "set",dict:=none,data:=.set #[] 0 (.fresh 0 0 (!byT X.w)) }:=by rw[D.2 _ (aB U)];exact ag _ (hH2▸aA _ rfl)
 have Z:=T.keep 0 _ _ F λb _ o e=>ad b o e;have ab:=λtk=>go it fp tn J H1 s2 G2.objs.size h3 tk I2 T Z ah (λb W=>let ⟨o,e,_⟩:=T.obj 0 _ F b W;ao e) (λb W=>let ⟨o,e,_⟩:=T.obj 0 _ F b W;⟨o,e⟩) hR U ad L hD;exact wux (ab _) (T.self _ 0 _ _ _ Z (ab _))
end
def qy4 (J:It)(M:List Nat)(tt:TT)(te:TE)(w:Ah)(add:qz6)(σ:St)(H1:Hp)(Q:VK):Prop:=∀p,H1 p=none->∃W:Nat->Nat->List (Int×Ag)->Hp->Prop,(∃m,W 0 m [] (upd H1 p (Qq w p []))) /\
 ∀i m ys H2,W i m ys H2->H2 p=some (Qq w p ys)/\((J.stop i H2/\Q (.ref p) H2)\/(J.go i H2/\∀v H3,J.yld i H2 v H3 ->
  tt (zh M σ (some v)) H3 λb H4=>if b=true then te (zh M σ (some v)) H4 (λy H5=>H5 p=some (Qq w p ys)/\add p ys y H5 λzs H6=>∃m',m'<m/\W (i+1) m' zs H6) else H4 p=some (Qq w p ys)/\∃m',m'<m/\W (i+1) m' ys H4))
def tSetI (M:List Nat)(wi:TI)(tt:TT)(te:TE)(w:Ah)(add:qz6):TE:=λσ H Q=>wi σ H λJ H1=>qy4 J M tt te w add σ H1 Q
section
variable {X:Cx}{elt iter cd:Expr}{x:Str}{px pos:Pos}{scope:Scope}{cl:List (Str×Aj)}{M:List Nat}{wi:TI}{tt:TT}{te:TE}{add:qz6}
theorem wz4 (hc:X.calm=true)(hclos:closureFor scope X.env=pure cl)(hcap:CapAll X.env cl)(hhas:HasAll cl scope.names)(hix:CapIx X scope cl M)(hk:scope.kind=.function)
  (hnames:∀y∈scope.names,y.2=.local->scope.names.lookup y.1=some .local) (hx:scope.names.lookup x=some .local) (hnd:(Q4 X x M).Nodup) (hi:PI X (.Name x px) iter wi)
  (ht:∀C s2 H2 fp pn,PT (zn X scope cl x M C s2 H2 fp pn) cd tt) (he:∀C s2 H2 fp pn,PE (zn X scope cl x M C s2 H2 fp pn) elt te) (ha:∀C s2 H2 fp pn,Yk (zn X scope cl x M C s2 H2 fp pn) add) (hs:∀z,foldedSetIterable iter X.env z=pure z)
  {use:Option (Ag->Sem Unit)} {QQ:Ag->Ab->Prop} {pins:List (Aj×Obj)} {s:Ab} {σ:St} {H:Hp} {Q:VK} {ps:Pos} (I:Inv X pins σ H s) (h:wi σ H λJ H1=>qy4 J M tt te X.w add σ H1 Q)
  (fin:∀(C:Aj) (s2 s4:Ab) (H1 H2:Hp) (fp:List Aj),Inv X pins σ H1 s2->s2.heap.objs.size<C->(∀b∈fp,k8 X pins H1 b)->Inv (zn X scope cl x M C s2 H1 fp (X.pn++pins)) [] (zh M σ none) H2 s4->Q (.ref s2.heap.objs.size) H2 ->
   compPost (model X.prog X.w) X.A X.xe use QQ (.ref s2.heap.objs.size) C (.ok .next) s4) :
  wpAny (model X.prog X.w) X.A (comprehension (.SetComp elt [⟨.Name x px,iter,[cd],0⟩] scope pos) scope X.env ps (newSet (.type "set")) false (eval iter X.env) use) QQ X.xe s:=by
 refine qw8 hclos hhas hk hnames hi hs I h λit fp tn J H1 s2 C h3 tk F T t3 D ad an hR L ah ap hD=>?_;obtain⟨W,⟨m0,w0⟩,hW⟩:=hR s2.heap.objs.size (F.hok.fresh (ak _));have ab:(relabel scope X.env).names.lookup x=some .local:=dX hx;refine j4 (Y:=zn X scope cl x M C s2 H1 fp (X.pn++pins)) (V:=λi n H2=>∃ys,W i n ys H2) (Qd:=Q (.ref s2.heap.objs.size)) (REST:=tstS cd (compEnvC scope cl C X.env) (addS elt (.ref s2.heap.objs.size) (compEnvC scope cl C X.env) _) (again _)) T hc (λ_ _ z=>z) (wqp ..) rfl rfl (xz (i:=0) hnd rfl (.inl ab) (.inr ab)) (Ym hcap F L D ad) (λi n H2 ⟨ys,w⟩=>?_) (λH2 s4 J4 q=>fin C s2 s4 H1 H2 fp F L D J4 q) (F.compO hcap hhas hix hk L ah ap (qws (wkf hD)) D an) ⟨[],w0⟩ t3 λb hb=>by rw[wx (aB (ad b hb))];exact(D b hb).1
 obtain⟨hp,a0⟩:=hW i n ys H2 w;refine a0.imp id λ⟨as,hy⟩=>⟨as,λv H3 yl=>⟨λσ4 H4=>σ4=zh M σ (some v)/\H3=H4,⟨rfl,rfl⟩,λ_ _ e=>?_⟩⟩;obtain⟨rfl,rfl⟩:=e;refine⟨Q3 M σ v,λa1 s' J=>?_⟩;exact Y4 (ht _ _ _ _ _) J (hy v H3 yl) (λs6 H6 U h6=>aY (ww5 (N:=λzs Z=>∃m',m'<n/\W (i+1) m' zs Z) (he _ _ _ _ _) (ha _ _ _ _ _) U h6) (λr s5 ⟨e,Z,J5,zs,m',hm,w'⟩=>⟨e,Z,J5,m',hm,zs,w'⟩) λ_ _ z=>z)
  λs6 H6 U ⟨_,m',hm,w'⟩=>ai ⟨rfl,H6,U,m',hm,ys,w'⟩
theorem xj3 (hc:X.calm=true)(hclos:closureFor scope X.env=pure cl)(hcap:CapAll X.env cl)(hhas:HasAll cl scope.names)(hix:CapIx X scope cl M)(hk:scope.kind=.function)
  (hnames:∀y∈scope.names,y.2=.local->scope.names.lookup y.1=some .local) (hx:scope.names.lookup x=some .local) (hnd:(Q4 X x M).Nodup) (hi:PI X (.Name x px) iter wi)
  (ht:∀C s2 H2 fp pn,PT (zn X scope cl x M C s2 H2 fp pn) cd tt) (he:∀C s2 H2 fp pn,PE (zn X scope cl x M C s2 H2 fp pn) elt te) (ha:∀C s2 H2 fp pn,Yk (zn X scope cl x M C s2 H2 fp pn) add) (hs:autoParam (∀z,foldedSetIterable iter X.env z=pure z) aU3._auto_1) :
  PE X (.SetComp elt [⟨.Name x px,iter,[cd],0⟩] scope pos) (tSetI M wi tt te X.w add):=by
 intro pins s σ H Q I h;rw[wxz];refine wz4 hc hclos hcap hhas hix hk hnames hx hnd hi ht he ha hs (use:=none) I h λC s2 s4 H1 H2 fp Z U W D J=>?_;obtain⟨m,L,_⟩:=D.loc;exact⟨m,L,λh' F=>⟨.ref s2.heap.objs.size,H2,Z.uncomp (bp U) W D F,rfl,J⟩⟩
end
def qx1 (J:It)(M:List Nat)(gg:TG)(tt:TT)(te:TE)(w:Ah)(add:qz6)(σ:St)(H1:Hp)(Q:VK):Prop:=∀p,H1 p=none->∃W:Nat->Nat->List (Int×Ag)->Hp->Prop,(∃m,W 0 m [] (upd H1 p (Qq w p []))) /\
 ∀i m ys H2,W i m ys H2->H2 p=some (Qq w p ys)/\((J.stop i H2/\Q (.ref p) H2)\/(J.go i H2/\∀v H3,J.yld i H2 v H3 ->
  gg v (zk M σ none none) H3 λσ4 H4=>(∃a b,σ4=zk M σ (some a) (some b))/\tt σ4 H4 λb H4=>if b=true then te σ4 H4 (λy H5=>H5 p=some (Qq w p ys)/\add p ys y H5 λzs H6=>∃m',m'<m/\W (i+1) m' zs H6) else H4 p=some (Qq w p ys)/\∃m',m'<m/\W (i+1) m' ys H4))
def tSetPI (M:List Nat)(wi:TI)(gg:TG)(tt:TT)(te:TE)(w:Ah)(add:qz6):TE:=λσ H Q=>wi σ H λJ H1=>qx1 J M gg tt te w add σ H1 Q
section
variable {X:Cx}{elt iter tg cd:Expr}{x y2:Str}{pos:Pos}{scope:Scope}{cl:List (Str×Aj)}{M:List Nat}{wi:TI}{gg:TG}{tt:TT}{te:TE}{add:qz6}
theorem wqc (M:List Nat)(σ:St)(v u:V):(zk M σ none none).length=(zk M σ (some v) (some u)).length/\∀(k:Nat) z,(zk M σ none none)[k]?=some (some z)->(zk M σ (some v) (some u))[k]?=some (some z):=⟨rfl,λk z ez=>by
 match k,ez with
 |0,ez=>cases ez
 |1,ez=>cases ez
 |k+2,ez=>exact ez⟩
theorem ww9 (hc:X.calm=true)(hclos:closureFor scope X.env=pure cl)(hcap:CapAll X.env cl)(hhas:HasAll cl scope.names)(hix:CapIx X scope cl M)(hk:scope.kind=.function)
  (hnames:∀y∈scope.names,y.2=.local->scope.names.lookup y.1=some .local) (hg:∀C s2 H2 fp pn,PG (zw X scope cl x y2 M C s2 H2 fp pn) tg gg) (hi:PI X tg iter wi)
  (ht:∀C s2 H2 fp pn,PT (zw X scope cl x y2 M C s2 H2 fp pn) cd tt) (he:∀C s2 H2 fp pn,PE (zw X scope cl x y2 M C s2 H2 fp pn) elt te) (ha:∀C s2 H2 fp pn,Yk (zw X scope cl x y2 M C s2 H2 fp pn) add) (hs:∀z,foldedSetIterable iter X.env z=pure z)
  {use:Option (Ag->Sem Unit)} {QQ:Ag->Ab->Prop} {pins:List (Aj×Obj)} {s:Ab} {σ:St} {H:Hp} {Q:VK} {ps:Pos} (I:Inv X pins σ H s) (h:wi σ H λJ H1=>qx1 J M gg tt te X.w add σ H1 Q)
  (fin:∀(C:Aj) (s2 s4:Ab) (H1 H2:Hp) (fp:List Aj),Inv X pins σ H1 s2->s2.heap.objs.size<C->(∀b∈fp,k8 X pins H1 b)->Inv (zw X scope cl x y2 M C s2 H1 fp (X.pn++pins)) [] (zk M σ none none) H2 s4->Q (.ref s2.heap.objs.size) H2 ->
   compPost (model X.prog X.w) X.A X.xe use QQ (.ref s2.heap.objs.size) C (.ok .next) s4) :
  wpAny (model X.prog X.w) X.A (comprehension (.SetComp elt [⟨tg,iter,[cd],0⟩] scope pos) scope X.env ps (newSet (.type "set")) false (eval iter X.env) use) QQ X.xe s:=by
 refine qw8 hclos hhas hk hnames hi hs I h λit fp tn J H1 s2 C h3 tk F T t3 D ab an hR L ad ap hD=>?_;obtain⟨W,⟨m0,w0⟩,hW⟩:=hR s2.heap.objs.size (F.hok.fresh (ak _));refine j4 (Y:=zw X scope cl x y2 M C s2 H1 fp (X.pn++pins)) (V:=λi n H2=>∃ys,W i n ys H2) (Qd:=Q (.ref s2.heap.objs.size)) (REST:=tstS cd (compEnvC scope cl C X.env) (addS elt (.ref s2.heap.objs.size) (compEnvC scope cl C X.env) _) (again _)) T hc (λ_ _ z=>z) (wqp ..) rfl rfl (λpn s σ H v u Q I r hq=>hg C s2 H1 fp (X.pn++pins) pn s σ H v u Q I r hq) (Ym hcap F L D ab) (λi n H2 ⟨ys,w⟩=>?_) (λH2 s4 J4 q=>fin C s2 s4 H1 H2 fp F L D J4 q) (F.comp2O hcap hhas hix hk L ad ap (qws (wkf hD)) D an) ⟨[],w0⟩ t3 λb hb=>by rw[wx (aB (ab b hb))];exact(D b hb).1
 obtain⟨hp,a0⟩:=hW i n ys H2 w;refine a0.imp id λ⟨as,hy⟩=>⟨as,λv H3 yl=>?_⟩;refine⟨_,hy v H3 yl,λσ4 H4 hz=>?_⟩;obtain⟨⟨a,b,rfl⟩,ah⟩:=hz;refine⟨wqc M σ a b,λa1 s' J=>?_⟩;exact Y4 (ht _ _ _ _ _) J ah (λs6 H6 U h6=>aY (ww5 (N:=λzs Z=>∃m',m'<n/\W (i+1) m' zs Z) (he _ _ _ _ _) (ha _ _ _ _ _) U h6) (λr s5 ⟨e,Z,J5,zs,m',hm,w'⟩=>⟨e,Z,J5,m',hm,zs,w'⟩) λ_ _ z=>z)
  λs6 H6 U ⟨_,m',hm,w'⟩=>ai ⟨rfl,H6,U,m',hm,ys,w'⟩
theorem xw8 (hc:X.calm=true)(hclos:closureFor scope X.env=pure cl)(hcap:CapAll X.env cl)(hhas:HasAll cl scope.names)(hix:CapIx X scope cl M)(hk:scope.kind=.function)
  (hnames:∀y∈scope.names,y.2=.local->scope.names.lookup y.1=some .local) (hg:∀C s2 H2 fp pn,PG (zw X scope cl x y2 M C s2 H2 fp pn) tg gg) (hi:PI X tg iter wi)
  (ht:∀C s2 H2 fp pn,PT (zw X scope cl x y2 M C s2 H2 fp pn) cd tt) (he:∀C s2 H2 fp pn,PE (zw X scope cl x y2 M C s2 H2 fp pn) elt te) (ha:∀C s2 H2 fp pn,Yk (zw X scope cl x y2 M C s2 H2 fp pn) add) (hs:autoParam (∀z,foldedSetIterable iter X.env z=pure z) aU3._auto_1) :
  PE X (.SetComp elt [⟨tg,iter,[cd],0⟩] scope pos) (tSetPI M wi gg tt te X.w add):=by
 intro pins s σ H Q I h;rw[wxz];refine ww9 hc hclos hcap hhas hix hk hnames hg hi ht he ha hs (use:=none) I h λC s2 s4 H1 H2 fp Z U W D J=>?_;obtain⟨m,L,_⟩:=D.loc;exact⟨m,L,λh' F=>⟨.ref s2.heap.objs.size,H2,Z.uncomp2 (bp U) W D F,rfl,J⟩⟩
end
end L2
namespace L2
open PySem PySem.Spec PySem.Calls PyProof.Rows
theorem wyy {P:Ac}{w:Ah}{K:Aa}{M:List Nat}{q:Aj}{us:List V}{tt:TT}{te:TE}{σ:St}{H:Hp}{Q:VK}(L:List (List Int))(c:List Int->Bool)(hq:SqL K H q us)(hL:Tups L us H)(hn:L.length<1099)
  (ht:∀(xs:List Int) (a:Aj) (H':Hp) (R:Bool->Hp->Prop),xs∈L->H' a=some (.tup (xs.map V.int))->Same H H'->(∀H'',Same H' H''->R (c xs) H'')->tt (zh M σ (some (.ref a))) H' R)
  (he:∀(a:Aj) (H':Hp) (R:VK),R (.ref a) H'->te (zh M σ (some (.ref a))) H' R)
  (k:∀p ps H' L',H p=none->Same H H'->H' p=some (Qq w p ps)->PsT P w H' ps L'->L'.Nodup->(∀xs,xs∈L'↔(xs∈L/\c xs=true))->L'.length<=L.length->Q (.ref p) H'):qy4 (Itl K q) M tt te w (addT P w) σ H Q:=by
 intro p np;have ul:=hL.len;refine⟨λi m ps H2=>i<=L.length/\m=L.length-i/\Same H H2/\H2 p=some (Qq w p ps)/\∃L',PsT P w H2 ps L'/\L'.Nodup/\L'.length<=i/\∀xs,xs∈L'↔(xs∈L.take i/\c xs=true),⟨L.length,aQ _,rfl,Same.upd np,qu,[],.nil,jL,ak _,λxs=>by simp⟩,?_⟩;rintro i m ps H2 ⟨hi,rfl,sm,hp,L',hT,hN,hl,hM⟩;refine⟨hp,?_⟩;have Z:SqL K H2 q us:=sm.sql hq;by_cases hlt:i<L.length
 .have W:us[i]?=some us[i]:=aa ⋯;obtain⟨a,xs,ea,ex,fa⟩:=hL.get W;refine .inr ⟨⟨us,_,Z,W⟩,?_⟩;rintro v H3 ⟨rfl,hv⟩;have e:=hv us Z;rw[W]at e;have e':=aq e;subst e';rw[ea];have tk:L.take (i+1)=L.take i++[xs]:=by rw[dB,ex];rfl
  refine ht xs a _ _ (aE ex) (sm _ _ fa) sm λU D=>?_;have F:PsT P w U ps L':=hT.keep λb ys e=>D _ _ e;have J:U a=some (.tup (xs.map V.int)):=D _ _ (sm _ _ fa);cases hc:c xs with
  |true =>
   refine y9 ?_;refine he a U _ ⟨D _ _ hp,a,xs,L',rfl,J,F,by rw[hT.len];lia,λz=>?_,λz ab pm=>?_⟩
   .refine⟨L.length-(i+1),⋯,⋯,rfl,sm.trans D,D _ _ hp,L',F,hN,⋯,λys=>?_⟩;rw[tk,hM ys];constructor
    .rintro⟨h1,h2⟩;exact⟨cn _ h1,h2⟩
    .rintro⟨h1,h2⟩;rcases aW.mp h1 with h1|h1
     .exact⟨h1,h2⟩
     .rw[aM.mp h1];exact(hM xs).mp z
   .have ne:a≠p:=λz=>by rw[z,D _ _ hp]at J;cases J
    have base:PsT P w (upd U p (Qq w p ab)) (((KD P w).hash (xs.map Sum.inl),.ref a)::ps) (xs::L'):=by refine .cons ⟨a,rfl,by rw[wx ne];exact J⟩ (F.keep λb ys e=>?_);rw[wx (λz=>by rw[z,D _ _ hp]at e;cases e)];exact e
    obtain⟨L2,p2,q2⟩:=Paired.perm pm base;refine⟨L.length-(i+1),⋯,⋯,rfl,?_,qu,L2,q2,p2.nodup_iff.mpr (dc.mpr ⟨z,hN⟩),by rw[p2.length_eq,aJ];lia,λys=>?_⟩
    .intro b o e;rw[wx (wj e np)];exact D _ _ (sm _ _ e)
    .rw[p2.mem_iff,tk,aO,hM ys];constructor
     .rintro (rfl|⟨h1,h2⟩)
      .exact⟨aH _ (.head _),hc⟩
      .exact⟨cn _ h1,h2⟩
     .rintro⟨h1,h2⟩;rcases aW.mp h1 with h1|h1
      .exact .inr ⟨h1,h2⟩
      .exact .inl (aM.mp h1)
  |false =>
   refine uc ?_;refine⟨D _ _ hp,L.length-(i+1),⋯,⋯,rfl,sm.trans D,D _ _ hp,L',F,hN,⋯,λys=>?_⟩;rw[tk,hM ys];constructor
   .rintro⟨h1,h2⟩;exact⟨cn _ h1,h2⟩
   .rintro⟨h1,h2⟩;rcases aW.mp h1 with h1|h1
    .exact⟨h1,h2⟩
    .rw[aM.mp h1,hc]at h2;cases h2
 .have:i=L.length:=by lia
  subst this;refine .inl ⟨⟨us,Z,⋯⟩,k p ps H2 L' np sm hp hT hN (λxs=>?_) hl⟩;rw[hM xs,bf]
theorem wx6 {P:Ac}{w:Ah}{K:Aa}{J:It}{M:List Nat}{tt:TT}{te:TE}{σ:St}{H:Hp}{Q:VK}(n:Nat)(pr:Nat->V×V)(c:Nat->Bool)(f:Nat->Int)(bd:Nat)(hbd:∀i,i<n->0<=f i/\f i<bd)(hb:bd<1000)
  (hgo:∀i H',i<n->Same H H'->J.go i H') (hst:∀H',Same H H'->J.stop n H') (hy:∀i H2 v H3,i<n->Same H H2->J.yld i H2 v H3->Same H2 H3/\∃a,v=.ref a/\SqT K H3 a [(pr i).1,(pr i).2])
  (ht:∀(i:Nat) (H':Hp) (R:Bool->Hp->Prop),i<n->Same H H'->(∀H'',Same H' H''->R (c i) H'')->tt (zk M σ (some (pr i).1) (some (pr i).2)) H' R)
  (he:∀(i:Nat) (H':Hp) (R:VK),i<n->c i=true->Same H H'->(∀H'',Same H' H''->R (.int (f i)) H'')->te (zk M σ (some (pr i).1) (some (pr i).2)) H' R)
  (k:∀p ps H' ns,H p=none->Same H H'->H' p=some (Qq w p ps)->PsI P w ps ns->ns.Nodup->(∀v,v∈ns↔∃i,i<n/\c i=true/\f i=v)->Q (.ref p) H') :
  qx1 J M (gTup K 2 (xzc (Yt 0) (xzc (Yt 1) gNil))) tt te w (addI P w) σ H Q:=by
 intro p np;refine⟨λi m ps H2=>i<=n/\m=n-i/\Same H H2/\H2 p=some (Qq w p ps)/\∃ns,PsI P w ps ns/\ns.Nodup/\∀v,v∈ns↔∃j,j<i/\c j=true/\f j=v,⟨n,aQ _,rfl,Same.upd np,qu,[],.nil,jL,λv=>by simp⟩,?_⟩;rintro i m ps H2 ⟨hi,rfl,sm,hp,ns,hT,hN,hM⟩;refine⟨hp,?_⟩;by_cases hlt:i<n
 .refine .inr ⟨hgo i H2 hlt sm,λv H3 yl=>?_⟩;obtain⟨D,a,rfl,hq⟩:=hy i H2 v H3 hlt sm yl;refine⟨a,_,rfl,hq,rfl,_,_,rfl,_,_,rfl,rfl,⟨_,_,rfl⟩,?_⟩;refine ht i _ _ hlt (sm.trans D) λH4 F=>?_;cases hc:c i with
  |true =>
   refine y9 ?_;refine he i _ _ hlt hc ((sm.trans D).trans F) λH5 U=>⟨U _ _ (F _ _ (D _ _ hp)),f i,ns,rfl,hT,?_,λz=>?_,λz ab t pm=>?_⟩
   ·
    rw[hT.len];have:=qx3 (ns.map Int.toNat) (List.range bd) ?_ λv hv=>?_
    .rw[af,ay]at this;lia
    .refine cf.mpr (cB (λ{x y} Z hy hxy z=>?_) hN);obtain⟨W,h1,_,rfl⟩:=(hM x).mp Z;obtain⟨j2,h2,_,rfl⟩:=(hM y).mp hy;have a1:=hbd W ⋯;have a2:=hbd j2 ⋯;exact hxy ⋯
    .obtain⟨x,Z,rfl⟩:=az.mp hv;obtain⟨W,h1,_,rfl⟩:=(hM x).mp Z;have a1:=hbd W ⋯;exact al.mpr ⋯
   .refine⟨n-(i+1),⋯,⋯,rfl,((sm.trans D).trans F).trans U,U _ _ (F _ _ (D _ _ hp)),ns,hT,hN,λv=>?_⟩;rw[hM v];constructor
    .rintro⟨j,h1,h2⟩;exact⟨j,⋯,h2⟩
    .rintro⟨j,h1,h2,L⟩;by_cases cj:j=i
     .subst cj;rw[<-L];exact(hM _).mp z
     .exact⟨j,⋯,h2,L⟩
   .have base:PsI P w (((intKind P w).hash (f i),.int (f i) t)::ps) (f i::ns):=.cons ⟨t,rfl⟩ hT;obtain⟨L2,p2,q2⟩:=Paired.perm pm base;refine⟨n-(i+1),⋯,⋯,rfl,?_,qu,L2,q2,p2.nodup_iff.mpr (dc.mpr ⟨z,hN⟩),λv=>?_⟩
    .intro b o e;rw[wx (wj e np)];exact U _ _ (F _ _ (D _ _ (sm _ _ e)))
    .rw[p2.mem_iff,aO,hM v];constructor
     .rintro (rfl|⟨j,h1,h2⟩)
      .exact⟨i,⋯,hc,rfl⟩
      .exact⟨j,⋯,h2⟩
     .rintro⟨j,h1,h2,L⟩;by_cases cj:j=i
      .subst cj;exact .inl L.symm
      .exact .inr ⟨j,⋯,h2,L⟩
  |false =>
   refine uc ?_;refine⟨F _ _ (D _ _ hp),n-(i+1),⋯,⋯,rfl,(sm.trans D).trans F,F _ _ (D _ _ hp),ns,hT,hN,λv=>?_⟩;rw[hM v];constructor
   .rintro⟨j,h1,h2⟩;exact⟨j,⋯,h2⟩
   .rintro⟨j,h1,h2,L⟩;by_cases cj:j=i
    .subst cj;rw[hc]at h2;cases h2
    .exact⟨j,⋯,h2,L⟩
 .have:i=n:=by lia
  subst this;exact .inl ⟨hst H2 sm,k p ps H2 ns np sm hp hT hN hM⟩
end L2
namespace L2
open PySem PySem.Spec PySem.Calls PySem.W PyProof.Rows
def BMain (mg:Str->Option Ag)(h:Heap):Prop:=∃bm ob,mg "__builtins__" = some (.ref bm)/\bm≠builtinsNs/\h.get? bm=some ob/\ob.cls=.type "module" /\ ob.dict=some builtinsNs/\ob.data=.plain
theorem BMain.kept {mg:Str->Option Ag}{h h':Heap}(b:BMain mg h)(k:∀b o,h.get? b=some o->h'.get? b=some o):BMain mg h' :=
 let ⟨bm,ob,h1,h2,h3,r⟩:=b;⟨bm,ob,h1,h2,k _ _ h3,r⟩
section
variable {P:Ac}{w:Ah}{K:Aa}{mg mb:Str->Option Ag}{CX:CXT}{k:Nat}{fa a c T:Aj}{fd:Ad}{x:Str}{sp:Sp}{s₁:Ab}{vs:List Ag}{ns:List Int}
theorem wy3 (KX:K.In s₁.heap)(hns:s₁.heap.Ns mainGlobals mg)(hb:s₁.heap.Ns builtinsNs mb)(hbb:∀x:Str,x ≠ "__name__" -> mb x=bootBuiltins x)(hlim:s₁.heap.NoLimit)(hg:s₁.gens=#[])(hbm:BMain mg s₁.heap)
  (hT:s₁.heap.get? T=some (tabObj #[])) (hC:CodeHd s₁.heap c T) (hKT:K.lookup T=none)
  (ha:s₁.heap.get? a=some { cls:=.type "list",data:=.seq vs.toArray }) (hi:IntsAre vs ns) (hl:ns.length<=sizeLine) (hr:Room k callerA)
  (F:∀base:Heap,K.In base->base.Ns mainGlobals mg->BMain mg base->FnOk P w K mg base CX k fa fd [x] sp) (hbind:∀(s:Ab) (u:Ag),BindsTo s fd ⟨[u],[]⟩ [(x,u)])
  (hsp:∀H:Hp,H T=some (.tbl #[])->SqL K H a (ns.map V.int)->sp [.ref a] H (λv _=>v=.bl true) λ_ _ _=>False)
  (hCX:∀H e s',CX [] H s₁ (λ_ _ _=>False) e s'->False) :
  codeAny (model P w) callerA (.call (.ref fa) ⟨[.ref a],[]⟩) (λr s'=>r=.ok (.ret (.bool true))/\OldK s₁.heap s'.heap/\s'.os=s₁.os/\AllBare s'.gens) s₁:=by
 have rv:=qqu hi;have a6:=hi.length;have a0:a≠T:=λz=>by rw[z,hT]at ha;cases ha
 have a4:∀H:Hp,H T=some (.tbl #[])->(∀b,b≠T->H b=none\/∃o xs,H b=some (.frz o (.lst xs)))->SqL K H a (ns.map V.int)->HOk P w H s₁.heap->(∀b,H b≠none->b=a\/b=T)->(H a≠none->K.lookup a=none) ->
   codeAny (model P w) callerA (.call (.ref fa) ⟨[.ref a],[]⟩) (λr s'=>r=.ok (.ret (.bool true))/\OldK s₁.heap s'.heap/\s'.os=s₁.os/\AllBare s'.gens) s₁:=by
  intro H a3 hO hS as hA hK;have ab:∀ {b:Aj} {o:Obj},s₁.heap.get? b=some o->H b=none->(qv3 s₁.heap H).get? b=some o:=λe n=>xwp e n;have bd:∀ {b:Aj} {o:Obj},s₁.heap.get? b=some o->o.cls≠.none->(∀an n,o.data≠.seq an n)->H b=none:=λ{b o} e d1 d2=>by
   cases q:H b with
   |none=>rfl
   |some u =>
    rcases hA b (by rw[q];simp) with z|z
    .subst z;rw[ha]at e;cases e;exact absurd rfl (d2 _ _)
    .subst z;rw[hT]at e;cases e;exact absurd rfl d1
  have a5:∀ {b:Aj} {o:Obj} {es:Array DictEntry} {ep:Nat},s₁.heap.get? b=some o->o.data=.dict es ep->H b=none:=λ{b o es ep} e d=>by
   cases q:H b with
   |none=>rfl
   |some u =>
    rcases hA b (by rw[q];simp) with z|z
    .subst z;rw[ha]at e;cases e;have d':Data.seq vs.toArray _=Data.dict es ep:=d;cases d'
    .subst z;rw[hT]at e;cases e;have d':Data.fields #[]=Data.dict es ep:=d;cases d'
  have L:∀ {b:Aj} {m:Str->Option Ag},s₁.heap.Ns b m->(qv3 s₁.heap H).Ns b m:=λ{b m} ⟨o,es,ep,e,d,r⟩=>⟨o,es,ep,ab e (a5 e d),d,r⟩;have a2:K.In (qv3 s₁.heap H):=λb o e=>ab (KX b o e) (by
   cases q:H b with
   |none=>rfl
   |some u =>
    rcases hA b (by rw[q];simp) with z|z
    .subst z
     rw[hK (by rw[q];simp)]at e;cases e
    .subst z
     rw[hKT]at e;cases e)
  have a8:BMain mg (qv3 s₁.heap H):=by obtain⟨bm,Z,b1,b2,b3,b4,b5,b6⟩:=hbm;exact⟨bm,Z,b1,b2,ab b3 (bd b3 (by rw[b4];exactλz=>by cases z) (λan n z=>by rw[b6]at z;cases z)),b4,b5,b6⟩
  have hM:Mod K mg (qv3 s₁.heap H):=⟨a2,L hns,⟨mb,L hb,hbb⟩,let ⟨mc,h1,h2⟩:=hlim;⟨mc,L h1,h2⟩⟩;have e0:Env0 P w K mg (qv3 s₁.heap H) callerA [] s₁ H:=⟨rfl,hM,λb o e=>xj2 e,Nat.le_of_eq (wyr _ _),trivial,λb hb=>absurd (show b∈([]:List Aj) from hb) (by simp),as,.of_eq hg⟩;refine fh ((F _ a2 (L hns) a8).run callerA [] s₁ H ⟨[.ref a],[]⟩ [.ref a] [.ref a] _ _ hr e0 (hbind s₁ (.ref a)) (.cons rfl .nil) (hsp H a3 hS)) λr s' h=>?_;cases r with
  |error e=>exact(hCX H e s' h).elim
  |ok fl =>
   cases fl with
   |next=>exact False.elim h
   |brk=>exact False.elim h
   |cont=>exact False.elim h
   |ret u =>
    obtain⟨v,H',os,a9,W,ap,r',q⟩:=h;have q':v=.bl true:=q;subst q';obtain rfl:u=Value.bool true:=r';have ah:∀b o,b≠T->s₁.heap.get? b=some o->s'.heap.get? b=some o:=λb o hb e=>by
     cases q:H b with
     |none=>exact W.keep b o e q (by intro z;exact absurd (show b∈([]:List Aj) from z) (by simp)) (by simp)
     |some u =>
      rcases hO b hb with z|⟨Z,xs,z⟩
      .rw[q]at z;cases z
      .have J:=W.frzs b Z _ z;obtain⟨U,_⟩:=as b _ z;obtain⟨e2,_⟩:=ap b _ J;rw[e]at U;cases U;exact e2
    obtain⟨ad,hm⟩:=W.tbls T _ a3;have a1:s'.heap.get? T=some { cls:=.none,data:=.fields (#[]++ad) }:=ap T _ hm;have a7:isCodeTable s₁.heap T:=let ⟨o,cs,_,_,_,_,_,_,_,U,e2,e3,e4,_⟩:=hC;⟨c,o,cs,U,e2,e3,e4⟩;refine⟨rfl,⟨λb o e=>?_,λb o e=>?_⟩,os,a9⟩
    .by_cases hbT:b=T
     .subst hbT;rw[hT]at e;cases e;exact .inr (.inl ⟨a7,rfl,#[],ad,rfl,a1⟩)
     .exact .inl (ah b o hbT e)
    .by_cases hbT:b=T
     .subst hbT;exact⟨_,a1⟩
     .exact⟨o,ah b o hbT e⟩
 cases hk:K.lookup a with
 |some o =>
  have e:=KX a o hk;rw[ha]at e;cases e;refine a4 (λb=>if b=T then some (.tbl #[]) else none) (aw rfl) (λb hb=>.inl (ar hb)) (.inr ⟨_,vs.toArray,_,hk,rfl,rfl,rfl,by rw[av,a6];exact hl,by simpa using rv⟩) (λb u z=>?_) (λb z=>?_) λz=>absurd (ar a0) z
  .by_cases hb:b=T
   .have D:=(aw hb).symm.trans z;cases D;subst hb;exact hT
   .have D:=(ar hb).symm.trans z;cases D
  .by_cases hb:b=T
   .exact .inr hb
   .exact absurd (ar hb) z
 |none =>
  refine a4 (λb=>if b=T then some (.tbl #[]) else if b=a then some (.frz { cls:=.type "list",data:=.seq vs.toArray } (.lst (ns.map V.int))) else none) (aw rfl) (λb hb=>?_) (.inl (.inr ⟨{ cls:=.type "list",data:=.seq vs.toArray },(ar a0).trans (aw rfl)⟩)) (λb u z=>?_) (λb z=>?_) λ_=>hk
  .by_cases hba:b=a
   .exact .inr ⟨_,_,(ar hb).trans (aw hba)⟩
   .exact .inl ((ar hb).trans (ar hba))
  .by_cases hb:b=T
   .have D:=(aw hb).symm.trans z;cases D;subst hb;exact hT
   .have D:=(ar hb).symm.trans z;by_cases hba:b=a
    .have J:=(aw hba).symm.trans D;cases J;subst hba;exact⟨ha,by rw[af];exact hl,vs,_,rv,ha⟩
    .have J:=(ar hba).symm.trans D;cases J
  .by_cases hb:b=T
   .exact .inr hb
   .by_cases hba:b=a
    .exact .inl hba
    .exact absurd ((ar hb).trans (ar hba)) z
end
theorem xzm {l:W.OpenLaw}{n k:Nat}{q:Ac}{loose:List Str}{XP:(Str->Option Ag)->Heap->Prop}{YP:Ah->Heap->Prop}{d:DefRec}{K:Params->Aa}{CX:Ah->CXT}{sp:Ah->Sp}{x:Str}{c T:Aj}
  (hn:l.most=some n) (hn2:n<=sizeLine) (hdf:d.params.defaults=[]) (hr:Room k callerA)
  (hY:∀(w:Ah) (h:Heap),YP w h->(K w.params).In h/\h.get? T=some (tabObj #[])) (hcT:∀p,codeHdIn (K p) c T=true) (hKT:∀p,(K p).lookup T=none)
  (F:∀(w:Ah) (mg:Str->Option Ag) (fa:Aj) (h:Heap),(K w.params).In h->h.Ns mainGlobals mg->mg d.name=some (.ref fa) ->
   ∃fd:Ad,(∀(s:Ab) (u:Ag),BindsTo s fd ⟨[u],[]⟩ [(x,u)]) /\
    ∀base:Heap,(K w.params).In base->base.Ns mainGlobals mg->BMain mg base->FnOk l.prog w (K w.params) mg base (CX w) k fa fd [x] (sp w))
  (hsp:∀(w:Ah) (H:Hp) (a:Aj) (ns:List Int),ns.length<=n->H T=some (.tbl #[])->SqL (K w.params) H a (ns.map V.int)->sp w [.ref a] H (λv _=>v=.bl true) λ_ _ _=>False)
  (hCX:∀(w:Ah) (H:Hp) (s:Ab) (e:Ag) (s':Ab),CX w [] H s (λ_ _ _=>False) e s'->False) :
  W.WalkO q loose XP YP l.row.toRowW d [] (λf vs=>PySem.call f vs):=by
 refine Att.attach_call hn hdf λw s₀ s₁ mg mb fa o pm cd ad a vs ns G Y ho hd ab L J U D Z=>?_;obtain⟨z,hT⟩:=hY w _ Y;obtain⟨fd,hb,hF⟩:=F w mg fa _ z G.T.g L;exact wy3 z G.T.g G.T.b G.T.builtins G.T.nolimit Z G.T.bmain hT (codeHd_of_K z (hcT _)) (hKT _) J U (bI D hn2) hr hF hb (λH hO hS=>hsp w H a ns D hO hS) λH e s'=>hCX w H s₁ e s'
end L2
namespace L2
open PySem PySem.Spec PySem.Calls PySem.W PyProof.Rows
def Stb (kz:List Int)(n:Nat)(il:List Nat):Prop:=il.Perm (List.range n)/\il.Pairwise λi j=>kz.getD i 0<kz.getD j 0\/(kz.getD i 0=kz.getD j 0/\i<j)
section
variable {prog:Ac}{w:Ah}{A:Ae}{E:Ag->Ab->Prop}{s:Ab}{a kS:Aj}{vs ks:List Ag}{P:PySem.Fin->Ab->Prop}{f:Ag}
end
end L2
namespace L2
open PySem PySem.Spec PySem.Calls PySem.W PyProof.Rows
def wj3 (CX:CXT)(P:Ac)(w:Ah)(K:Aa)(mg:Str->Option Ag)(base:Heap)(N:List Str)(qual:Str)(scope:Scope)(g:Aj)(cd:Ag)(cl:List (Str×Aj))(A:Ae)(outer:List Env)(s:Ab)(H:Hp)(E:XK):Cx where
 prog:=P
 w:=w
 K:=K
 mg:=mg
 base:=base
 A:=A.deeper (envX qual scope s.heap.objs.size g cd cl)
 N:=N
 s₀:=s
 H₀:=H
 env:=envX qual scope s.heap.objs.size g cd cl
 outer:=outer
 stack:=envX qual scope s.heap.objs.size g cd cl::outer
 ex:=[]
 calm:=true
 fn:=λ_=>false
 pn:=[]
 xe:=λe s'=>wpAny (model P w) (A.deeper (envX qual scope s.heap.objs.size g cd cl)) (leaving (envX qual scope s.heap.objs.size g cd cl) e) (λ_ s''=>CX outer H s E e s'') (λe' s''=>CX outer H s E e' s'') s'
structure LamSc (x y:Str)(sc:Scope):Prop where
 kind:sc.kind=.function
 co:sc.isCoroutine=false
 gen:sc.isGenerator=false
 px:sc.names.lookup x=some .local
 fy:sc.names.lookup y=some .free
 nocell:∀z∈sc.names,z.2≠.cell
 free:∀z,sc.names.lookup z=some .free->z=y
 ne:y≠x
section
variable {CX:CXT}{P:Ac}{w:Ah}{K:Aa}{mg:Str->Option Ag}{base:Heap}{A:Ae}{outer:List Env}{s:Ab}{H:Hp}{E:XK}{name qual:Str}{params:Arguments}{body:Expr}{scope:Scope}{pm ctv:Ag}{c' g cF:Aj}{x y:Str}{k:Nat}{u uS:Ag}{v vS:V}{Q:VK}{t:TE}
theorem xk0 (S:LamSc x y scope)(hr:Room (k+1) A)(e0:Env0 P w K mg base A outer s H)(ho:s.heap.get? g=some (kla_obj name qual params body scope [(y,cF)] pm c' ctv))(hcd:s.heap.CodeRec (.ref c') qual)
  (hb:bindArgs (kla_fn name qual params body scope [(y,cF)] pm (.ref c') ctv) ⟨[u],[]⟩=pure [(x,u)]) (hcell:s.heap.IsCell cF (some uS)) (hcF:H cF=none) (rv:RelV v u) (rS:RelV vS uS)
  (hpe:PE (wj3 CX P w K mg base [x,y] qual scope g (.ref c') [(y,cF)] A outer s H E) body t) (ht:t [some v,some vS] H Q) :
  codeAny (model P w) A (.call (.ref g) ⟨[u],[]⟩) (CR CX outer P w H s Q E) s:=by
 have ah:s.heap.NoLimit:=e0.mod.nolimit.keeps λb o e=>(e0.bs b o e).1;refine kla_callFunE hr.depth ho rfl S.co S.gen rfl hcd ?_;rw[hb];refine ai (gO S.nocell (λz D=>?_) (λZ an ab=>⟨ah.fresh _ ab,?_⟩) S.kind)
 .obtain rfl:=aM.mp D;exact S.px
 show codeAny _ _ (.expr body (envX qual scope s.heap.objs.size g (.ref c') [(y,cF)])) _ _;have L:∀b o,s.heap.get? b=some o->Z.get? b=some o:=λb o e=>ab.extBut b o (aB (ao e)) (ag _ e);have F:∀z c,([(y,cF)]:List (Str×Aj)).lookup z=some c->z=y/\c=cF:=λz c e=>by
  rw[bv]at e;by_cases q:(z==y)=true
  .rw[q]at e;exact⟨by simpa using q,(aq e).symm⟩
  .rw[iY]at q;rw[q]at e;cases e
 have W:([(y,cF)]:List (Str×Aj)).lookup y=some cF:=by rw[bv,fj]
 have U:∀b:Aj,b∉(wj3 CX P w K mg base [x,y] qual scope g (.ref c') [(y,cF)] A outer s H E).ex:=λb z=>absurd (show b∈([]:List Aj) from z) (by simp);have I:Inv (wj3 CX P w K mg base [x,y] qual scope g (.ref c') [(y,cF)] A outer s H E) [] [some v,some vS] H { s with heap:=Z,toks:=s.toks+1 }:=by
  refine⟨⟨e0.mod,S.kind,rfl,rfl,ak _,λa b c h1 h2=>(F a c h1).1.trans (F b c h2).1.symm,λz D=>?_,λz c D=>(by cases D),λ_=>hr.hd,Around.frames_deeper e0.frames,.inr ⟨rfl,rfl⟩,λb z=>absurd z (U b),e0.bs,e0.bsz,λb _ _=>U b,λb z=>absurd z (U b),e0.funs,e0.frf⟩,
   rfl,e0.bare,Un.kept L,⟨_,an,λi z a h1 h2 h3=>?_⟩,λz c h=>?_,e0.hok.fresh (ak _),λz c h=>?_,λp hp=>absurd (show p∈([]:List (Aj×Obj)) from hp) (by simp),e0.hok.kept L,rfl⟩
  .rcases D with D|D
   .exact absurd rfl (S.nocell _ (dE D))
   .rw[S.free z D];exact⟨cF,W⟩
  .match i,h1,h2 with
   |0,h1,h2 =>
    obtain rfl:x=z:=aq h1;obtain rfl:v=a:=aq (aq h2);refine⟨u,rv,.inl ⟨S.px,?_⟩⟩;show List.lookup x [(x,u)]=some u;rw[bv,fj]
   |1,h1,h2 =>
    obtain rfl:y=z:=aq h1;obtain rfl:vS=a:=aq (aq h2);exact⟨uS,rS,.inr ⟨.inr S.fy,cF,W,let ⟨o,h1,h2⟩:=hcell;⟨o,L _ _ h1,h2⟩⟩⟩
   |n+2,h1,_=>cases h1
  .obtain⟨rfl,rfl⟩:=F z c h;exact⟨_,let ⟨o,h1,h2⟩:=hcell;⟨o,L _ _ h1,h2⟩⟩
  .obtain⟨rfl,rfl⟩:=F z c h;exact hcF
 refine kla_codeExpr (aY (hpe [] _ [some v,some vS] H _ I ht) (λr s' hs=>?_) λ_ _ h=>h);obtain⟨v',H',J,ad,q⟩:=hs;exact⟨v',H',J.os,J.bare,J.base,J.hok,ad,q⟩
end
def qjg (q:Str)(c':Aj):HO:=.ext λh=>h.CodeRec (.ref c') q
def wwt (g:Aj)(ob:Obj):HO:=.ext λh=>h.get? g=some ob
def wqb (pos:Pos)(c':Aj):Array Ag:=#[rawInt pos.line,rawInt pos.col,.ref c']
def TabAt (T:Aj)(pos:Pos)(q:Str)(c':Aj)(H:Hp):Prop:=H T=some (.tbl (wqb pos c'))/\H c'=some (qjg q c')
def j9 (T:Aj)(pos:Pos)(q:Str)(H:Hp):Prop:=H T=some (.tbl #[])\/∃c',TabAt T pos q c' H
def KeepT (T:Aj)(H H':Hp):Prop:=∀b o,b≠T->H b=some o->H' b=some o
theorem xxq {P:Ac}{w:Ah}{H:Hp}{h:Heap}{c':Aj}{q:Str}(r:h.CodeRec (.ref c') q):ObjOk P w H h c' (qjg q c'):=by obtain⟨c,z,vs,t,e,D,J,F⟩:=id r;cases e;refine⟨r,⟨z,D⟩,λh1 h2 ⟨c,o1,v1,t1,e1,f1,f2,f3⟩ k=>?_⟩;cases e1;exact⟨c',o1,v1,t1,rfl,k _ f1,f2,f3⟩
theorem wjk {P:Ac}{w:Ah}{H:Hp}{h:Heap}{g:Aj}{ob:Obj}(e:h.get? g=some ob):ObjOk P w H h g (wwt g ob) :=
 ⟨e,⟨ob,e⟩,λh1 h2 q k=>k _ q⟩
def tLam (T:Aj)(pos:Pos)(q:Str)(ob:Aj->Ag->Obj):TE:=λ_ H Q=>j9 T pos q H/\∀(g c':Aj) (ctv:Ag) (H':Hp),KeepT T H H'->TabAt T pos q c' H'->H g=none->H' g=some (wwt g (ob c' ctv))->Q (.ref g) H'
section
variable {X:Cx}{params:Arguments}{body:Expr}{scope:Scope}{pos:Pos}{c T:Aj}{clos:List (Str×Aj)}
theorem pe_lam (hB:BMain X.mg X.base)(hcd:X.env.code=.ref c)(hC:codeHdIn X.K c T=true)(hdef:defaultsOf params X.env=([],[]))(hcl:closureFor scope X.env=pure clos) :
  PE X (.Lambda params body scope pos) (tLam T pos (X.env.qual ++ "<lambda>") λc' ctv=>kla_obj "<lambda>" (X.env.qual ++ "<lambda>") params body scope clos ((X.mg "__name__").getD .none) c' ctv):=by
 intro pins s σ H Q I ⟨tab,h⟩;refine kla_eval hdef ?_;have hg:s.heap.Ns mainGlobals X.mg:=I.mod.glob.keeps I.bk;have CH:CodeHd s.heap c T:=codeHd_of_K I.kIn hC;obtain⟨bm,ob,b1,b2,b3,b4,b5,b6⟩:=hB.kept I.bk;have as:∀ps,s.heap.get? T=some (tabObj ps)->mainGlobals≠T/\s.heap.BuiltinsAt X.mg T:=λps hP=>by
  refine⟨λq=>?_,bm,ob,b1,b2,λq=>?_,λq=>?_,b3,b4,b5,b6⟩
  .obtain⟨o,es,ep,e,hd,_⟩:=hg;rw[q,hP]at e;cases e;cases hd
  .obtain⟨o,es,ep,e,hd,_⟩:=hg;rw[q,e]at b3;cases b3;rw[hd]at b6;cases b6
  .rw[q,hP]at b3;cases b3;cases b4
 rcases tab with hT|⟨c',hT,hc'⟩
 .have U:s.heap.get? T=some (tabObj #[]):=I.hok T _ hT;obtain⟨an,J⟩:=as _ U;refine kla_makeFunction (mg:=X.mg) hcl I.ok.glob hg hcd CH U trivial rfl an J λc' ctv h' tk hx L Z a3 a2=>?_;have ad:h'.get? T=some (tabObj (wqb pos c')):=by rw[a2];rfl
  have ap:T<s.heap.objs.size:=ao U;have a4:H c'=none:=I.hok.fresh L;have ab:H h'.objs.size=none:=I.hok.fresh (bp (eC L Z));have d1:c'≠T:=λz=>absurd L (by rw[z];exact Nat.not_le_of_lt ap);have d2:h'.objs.size≠T:=λz=>by rw[z]at Z;exact absurd L (Nat.not_le_of_lt (bn Z ap))
  have d3:h'.objs.size≠c':=ff Z;have a1:∀b o,s.heap.get? b=some o->b≠c'/\b≠h'.objs.size:=λb o e =>
   ⟨aB (aL (ao e) L),aB (bn (aL (ao e) L) Z)⟩
  have a0:∀b,b≠T->b≠c'->b≠h'.objs.size->upd (upd (upd H T (.tbl (wqb pos c'))) c' (qjg (X.env.qual ++ "<lambda>") c')) h'.objs.size (wwt h'.objs.size (kla_obj "<lambda>" (X.env.qual ++ "<lambda>") params body scope clos ((X.mg "__name__").getD .none) c' ctv)) b=H b:=λb e1 e2 e3=>by rw[wx e3,wx e2,wx e1]
  have kp:∀b o,b≠T->s.heap.get? b=some o->(h'.push (kla_obj "<lambda>" (X.env.qual ++ "<lambda>") params body scope clos ((X.mg "__name__").getD .none) c' ctv)).get? b=some o:=λb o e1 e=>ag _ (hx b o e1 e);have D:∀b o,b≠T->H b=some o->upd (upd (upd H T (.tbl (wqb pos c'))) c' (qjg (X.env.qual ++ "<lambda>") c')) h'.objs.size (wwt h'.objs.size (kla_obj "<lambda>" (X.env.qual ++ "<lambda>") params body scope clos ((X.mg "__name__").getD .none) c' ctv)) b=some o:=λb o e1 e=>by rw[a0 b e1 (wj e a4) (wj e ab)];exact e
  have tT:upd (upd (upd H T (.tbl (wqb pos c'))) c' (qjg (X.env.qual ++ "<lambda>") c')) h'.objs.size (wwt h'.objs.size (kla_obj "<lambda>" (X.env.qual ++ "<lambda>") params body scope clos ((X.mg "__name__").getD .none) c' ctv)) T=some (.tbl (wqb pos c')):=by rw[wx d2.symm,wx d1.symm,qu]
  have W:∀b o,H b=some o->(∀ps,o≠.tbl ps)->b≠T:=λb o e n z=>by rw[z,hT]at e;cases e;exact n _ rfl
  refine⟨.ref h'.objs.size,_,I.call' (s':={ s with heap:=h'.push (kla_obj "<lambda>" (X.env.qual ++ "<lambda>") params body scope clos ((X.mg "__name__").getD .none) c' ctv),toks:=tk }) (ch:=[]) rfl ⟨λb o e n _ _=>kp b o (λz=>by rw[z,hT]at n;cases n) e,λb o e n _ _=>⟨o.slots,kp b o (λz=>by rw[z,hT]at n;cases n) e⟩,λb o e n _=>?_,λb o e _=>?_,λb xs e=>D b _ (W b _ e λps z=>by cases z) e,λb o u e=>D b _ (W b _ e λps z=>by cases z) e,λb ps e=>?_⟩ (λb u e=>?_) I.bare (λb z=>absurd z (by simp)),rfl,h _ c' ctv _ D ⟨tT,?_⟩ ab qu⟩
  .obtain⟨l1,l2⟩:=a1 b o e;rw[a0 b (λz=>by rw[z,hT]at n;cases n) l1 l2];exact n
  .by_cases hb:b=T
   .rw[hb];exact⟨_,ag _ ad⟩
   .exact⟨o,kp b o hb e⟩
  .by_cases hb:b=T
   .subst hb;rw[hT]at e;cases e;exact⟨wqb pos c',by rw[tT];simp⟩
   .exact⟨#[],by rw[D b _ hb e];simp⟩
  .by_cases hbg:b=h'.objs.size
   .subst hbg;rw[qu]at e;cases e;exact wjk (aA _ rfl)
   .rw[wx hbg]at e;by_cases hbc:b=c'
    .subst hbc;rw[qu]at e;cases e;obtain⟨F,oc,vs,t,f1,f2,f3,f4⟩:=a3;exact xxq ⟨F,oc,vs,t,f1,ag _ f2,f3,f4⟩
    .rw[wx hbc]at e;by_cases J:b=T
     .subst J;rw[qu]at e;cases e;exact ag _ ad
     .rw[wx J]at e;refine(I.hok b u e).stay (λF v hc q=>kp F v ?_ q) (λF q=>D F _ (W F _ q λps z=>by cases z) q) λF xs q=>D F _ (W F _ q λps z=>by cases z) q;rcases hc with rfl|hc
      .exact J
      .exact W F _ hc λps z=>by cases z
  .rw[wx d3.symm,qu]
 .have U:s.heap.get? T=some (tabObj (wqb pos c')):=I.hok T _ hT;obtain⟨an,J⟩:=as _ U;refine kla_makeFunctionHit (mg:=X.mg) (cv:=.ref c') hcl I.ok.glob hg hcd CH U trivial ?_ J λctv h' tk hk ah=>?_
  .show codeAmong pos [rawInt pos.line,rawInt pos.col,.ref c']=some (.ref c');simp[codeAmong,rawInt]
  have ab:H h'.objs.size=none:=I.hok.fresh ah;have D:∀b o,H b=some o->upd H h'.objs.size (wwt h'.objs.size (kla_obj "<lambda>" (X.env.qual ++ "<lambda>") params body scope clos ((X.mg "__name__").getD .none) c' ctv)) b=some o:=λb o e=>by rw[wx (wj e ab)];exact e
  exact⟨.ref h'.objs.size,_,I.laid (a:=h'.objs.size) (o:=wwt h'.objs.size (kla_obj "<lambda>" (X.env.qual ++ "<lambda>") params body scope clos ((X.mg "__name__").getD .none) c' ctv)) (t':=tk) (λb u q=>ag _ (hk b u q)) ah (wjk (aA _ rfl)),rfl,h _ c' ctv _ (λb o _ e=>D b o e) ⟨D _ _ hT,D _ _ hc'⟩ ab qu⟩
end
end L2
namespace L2
open PySem PySem.Spec PySem.Calls PySem.W PyProof.Rows
theorem qxg {xs:List V}{its:List Ag}(rv:Vals xs its):∀(il:List Nat),(∀i∈il,i<xs.length)->Vals (il.map λi=>xs.getD i .non) (il.map λi=>its.getD i Value.none)
 |[],_=>.nil
 |i::r,hin=>by
  refine .cons ?_ (qxg rv r λj hj=>hin j (.tail _ hj));have hi:=hin i (.head _);obtain⟨u,eu,ru⟩:=rv.get (i:=i) (aa hi);have e1:its.getD i Value.none=u:=by rw[ae,eu];rfl
  have z:xs.getD i .non=xs[i]:=by rw[ae,aa hi];rfl
  show RelV (xs.getD i .non) (its.getD i Value.none);rw[e1,z];exact ru
section
variable {X:Cx}{pins:List (Aj×Obj)}{σ:St}{H:Hp}{s:Ab}
end
def wj6 (X:Cx)(f:Ag)(ks:List Str)(r:St->List V->List V->Hp->VK->Prop):Prop :=
 ∀(pins:List (Aj×Obj)) (s:Ab) (σ:St) (H:Hp) (xs zs:List V) (us ws:List Ag) (Q:VK),Inv X pins σ H s->Vals xs us->Vals zs ws->r σ xs zs H Q ->
  wpAny (model X.prog X.w) X.A (call f us (ks.zip ws)) (EP X pins σ Q) X.xe s
def tCBKS (r:St->List V->List V->Hp->VK->Prop)(t tk:TA):TE:=λσ H Q=>t σ H λvs H1=>tk σ H1 λzs H2=>r σ vs zs H2 Q
section
variable {X:Cx}{x:Str}{p pos:Pos}{e:Expr}{es:List Expr}{kws:List Keyword}{t tk:TA}{id:String}{ks:List Str}{r:St->List V->List V->Hp->VK->Prop}
theorem wz3 (hc:wj6 X (.builtin id) ks r)(hg:Gl X x)(hm:X.mg x=none)(hv:bootBuiltins x=some (.builtin id))(ha:PA X (e::es) t)(hkw:PK X kws tk)
  (hall:autoParam ((backToKw pos (keywordEach kws X.env)).all (·.1.isSome)=true) aU4._auto_1) (hks:autoParam ((backToKw pos (keywordEach kws X.env)).filterMap (·.1)=ks) aU4._auto_1) (hn:autoParam (x ≠ "__name__") aU2._auto_1) (hdb:autoParam ((x==("__debug__" : Str))=false) aU1._auto_1)
  (he:autoParam (starEach (e::es) X.env=(false,eval e X.env)::starEach es X.env) aU4._auto_1)
  (hpl:autoParam ((backTo pos (starEach (e::es) X.env)).any (·.1)=false) aU4._auto_1) (hpk:autoParam ((backToKw pos (keywordEach kws X.env)).any (·.1.isNone)=false) aU4._auto_1):PE X (.Call (.Name x p) (e::es) kws pos) (tCBKS r t tk):=by
 intro pins s σ H Q I h;refine cQ (j3 I hg hm hv ?_ hn hdb);refine callWith_builtin_kwB hpl hpk (evalArgs_kw2 hall (thn (ha pos pins s σ H _ I h) λus s1 ⟨vs,H1,I1,r1,q⟩=>?_) he);refine thn (hkw pos pins s1 σ H1 _ I1 q) λws s2 ⟨zs,H2,I2,rz,q2⟩=>?_;dsimp only [List.nil_append];rw[hks];exact hc pins s2 σ H2 vs zs us ws Q I2 r1 rz q2
end
section
variable {X:Cx}{x y:Str}{params:Arguments}{body:Expr}{scope:Scope}{cF:Aj}{qual:Str}{pm:Ag}{iy k:Nat}{t:TE}
end
end L2
namespace L2
open PySem PySem.Spec PySem.Calls PySem.W PyProof.Rows
theorem xkg {α:Type}{l l':List α}(d:α)(p:l'.Perm l):∃il:List Nat,il.Perm (List.range l.length)/\l'=il.map λi=>l.getD i d:=by
 have J:∀(l:List α) (k:Nat) (L:List α),(∀j,j<l.length->L[k+j]?=l[j]?)->Paired (λx i=>L[i]?=some x) l (List.range' k l.length):=by
  intro l
  induction l with
  |nil=>intro k L _;exact .nil
  |cons x l ih =>
   intro k L h;rw[aJ,List.range'_succ];refine .cons (by have:=h 0 (by simp);simpa using this) (ih (k+1) L λj U=>?_);have:=h (j+1) (by simp;lia);rw[show k+1+j=k+(j+1) by lia,this];rfl
 have z:=J l 0 l λj _=>by rw[cW]
 rw[<-List.range_eq_range']at z;obtain⟨il,F,D⟩:=Paired.perm p z;refine⟨il,F,?_⟩;have:∀ {l':List α} {il:List Nat},Paired (λx i=>l[i]?=some x) l' il->l'=il.map λi=>l.getD i d:=by
  intro l' il h
  induction h with
  |nil=>rfl
  |cons r t ih=>rw[aC,ae,r,<-ih];rfl
 exact this D
section
variable {prog:Ac}{w:Ah}{A:Ae}{E:Ag->Ab->Prop}{s:Ab}{a kS:Aj}{vs ks:List Ag}{P:PySem.Fin->Ab->Prop}{f:Ag}
theorem wwy {st:Af}{e e1:Nat}{out:List Ag}(hka:kS≠a)(hk:s.heap.get? kS=some (seqObj "list" ks.toArray e))(ha:s.heap.get? a=some (seqObj "list" #[] e1))(hout:(arrOf st).map (·.2)=List.toArray out)(hz:out.length<64)(hkz:ks.length<64)(hf:failedOf st=none)
  (h:P (.done (.ret .none)) { s with heap:=(s.heap.update kS (Obj.mapSeq λ_=>(#[]:Array Ag))).update a (Obj.mapSeq λ_=>out.toArray) }):wpAny (model prog w) A (ksk_tail a false e1 (.ref kS) st) P E s:=by
 have D:(s.heap.update kS (Obj.mapSeq λ_=>(#[]:Array Ag))).get? a=some (seqObj "list" #[] e1):=by rw[bS _ _ _ _ (λz=>hka z.symm)];exact ha
 unfold ksk_tail
 try dsimp only
 rw[hout];refine ac (eO hk rfl ?_ (by rw[av,dJ];lia) (aQ _));refine ac (gQ ?_);refine ac (iN D rfl ?_);refine ac (eO D rfl ?_ (aQ _) (by simp only[aD,bA];rw[av,dJ];lia));rw[hf];simp only[eT,aD,bA];exact ai h
theorem wzu {s:Ab}{G:Ai->Prop}(hG:∀x,G x->∃n t,x.1=Value.int n t):Tm.qk9 (model prog w) A E s G (λx=>numOf x.1) oneType':=by rintro⟨J,F⟩ ⟨y1,y2⟩ st Q gx gy hk hQ;obtain⟨n,t,D⟩:=hG _ gx;obtain⟨m,u,z⟩:=hG _ gy;dsimp only at D z;subst D z;rw[lt'_eq];refine bU (wpS_get ?_);rw[hk,keyLt'_oneType];refine bU (wpS_lift (eN (oneLt_int ⟨rfl,?_⟩)));exact cS hQ
theorem wyk {R:Nat->Nat->Prop}{n:Nat}(h:n<2):(List.range n).Pairwise R:=by
 match n,h with
 |0,_=>exact .nil
 |1,_=>exact cU _ _
theorem wvb {vs:List Ag}(h:vs.length<2):((List.range vs.length).map λi=>vs.getD i Value.none)=vs:=by
 match vs,h with
 |[],_=>rfl
 |[v],_=>rfl
theorem xj4 {kz:List Int}{e e1:Nat}(hka:kS≠a)(hk:s.heap.get? kS=some (seqObj "list" ks.toArray e))(ha:s.heap.get? a=some (seqObj "list" #[] e1))(hl:ks.length=vs.length)(h64:vs.length<64)(t:IntsAre ks kz)(nd:kz.Pairwise (·≠·))
  (h:∀il,Stb kz vs.length il->P (.done (.ret .none)) { s with heap:=(s.heap.update kS (Obj.mapSeq λ_=>(#[]:Array Ag))).update a (Obj.mapSeq λ_=>(il.map λi=>vs.getD i Value.none).toArray) }) :
  wpAny (model prog w) A (ksk_end a false vs.toArray e1 (.ref kS) ks.toArray) P E s:=by
 have ap:ks.length=kz.length:=W5 t;have tt:IntsAre ks.toArray.toList kz:=t;unfold ksk_end
 try dsimp only
 simp only[aD,bA];by_cases h2:vs.toArray.size<2
 .rw[aw h2,aw h2];refine ac (ai ?_);have Z:vs.length<2:=by simpa using h2
  refine ac (ai ?_);refine wwy (out:=vs) hka hk ha ?_ h64 ⋯ rfl ?_
  .show(ks.toArray.zip vs.toArray).map (·.2)=vs.toArray;apply d9.mp;simp;rw[List.map_snd_zip ⋯]
  .have:=h (List.range vs.length) ⟨.refl _,wyk Z⟩;have e:=wvb Z;rw[e]at this;exact this
 .rw[ar h2,ar h2];have Z:2<=vs.length:=by simpa using h2
  rw[ksk_kind tt (by rw[av];lia)];refine ac (ai ?_);have W:(ks.toArray.zip vs.toArray).toList=ks.zip vs:=by rw[Array.toList_zip]
  have D:∀i x,(ks.zip vs)[i]?=some x->i<vs.length/\x.2=vs.getD i .none/\numOf x.1=kz.getD i 0/\∃n t,x.1=Value.int n t:=λi x ex=>by
   have hi:=(am.mp ex).1;rw[List.length_zip]at hi;have h1:i<ks.length:=by lia
   have h3:i<vs.length:=by lia
   rw[List.getElem?_zip_eq_some]at ex;obtain⟨e1,e2⟩:=ex;refine⟨h3,by rw[ae,e2];rfl,?_,t.all _ (aE e1)⟩;rw[<-t.nums,ae,ax,e1];rfl
  have U:Tm.Un (λx:Ai=>numOf x.1) (λx=>∃n t,x.1=Value.int n t) (ks.toArray.zip vs.toArray):=by
   refine⟨?_,λx L=>?_⟩
   .rw[W];refine ba.mpr λi j hi hj ad=>?_;obtain⟨a1,_,a3,_⟩:=D i _ (aa hi);obtain⟨b1,_,F,_⟩:=D j _ (aa hj);rw[a3,F,ae,ae,aa ⋯,aa ⋯];exact ba.mp nd i j ⋯ ⋯ ad
   .rw[W]at L;obtain⟨i,ei⟩:=dv L;exact(D i x ei).2.2.2
  refine ac (aY (Tm.Zc (Q:=λ_ z=>(arrOf z).Perm (ks.toArray.zip vs.toArray)/\failedOf z=none/\Tm.SL (λx:Ai=>numOf x.1) (arrOf z).toList) (st:=SortSt.mk' oneType' (ks.toArray.zip vs.toArray) #[] 7 none) (wzu λx L=>L) U rfl rfl rfl rfl (by show(ks.toArray.zip vs.toArray).size<64;simp;lia) λz a1 a2 a3=>⟨a1,a2,a3⟩) ?_ λ_ _ e=>e);rintro⟨⟨⟩,z⟩ s' ⟨rfl,b1,b2,F⟩
  try dsimp only
  have pl:=eV.mp b1;rw[W]at pl;obtain⟨il,J,p2⟩:=xkg (d:=((.none,.none):Ai)) pl;have lz:(ks.zip vs).length=vs.length:=by rw[List.length_zip];lia
  rw[lz]at J;have ab:∀i∈il,i<vs.length:=λi hi=>al.mp (J.mem_iff.mp hi);have ah:∀i,i<vs.length->(ks.zip vs)[i]?=some ((ks.zip vs).getD i (.none,.none)):=λi hi=>by rw[ae,aa ⋯];rfl
  have e3:(arrOf z).map (·.2)=List.toArray (il.map λi=>vs.getD i .none):=by apply d9.mp;rw[Array.toList_map,p2,aN];exact bw λi hi=>(D i _ (ah i (ab i hi))).2.1
  have st:Stb kz vs.length il:=by refine⟨J,?_⟩;rw[p2]at F;unfold Tm.SL at F;rw[cf]at F;refine cB (λ{i j} hi hj ad=>.inl ?_) F;have an:numOf ((ks.zip vs).getD i (.none,.none)).1<numOf ((ks.zip vs).getD j (.none,.none)).1:=ad;rwa [(D i _ (ah i (ab i hi))).2.2.1,(D j _ (ah j (ab j hj))).2.2.1]at an
  refine wwy hka hk ha e3 ?_ ⋯ b2 (h il st);rw[af,J.length_eq,ay];exact h64
theorem xq1 {J:List Ag->List Int->Ab->Prop}{e1:Nat}(hka:kS≠a)(h64:vs.length<64)
  (hJ:∀ks kz s,J ks kz s->(∃e,s.heap.get? kS=some (seqObj "list" ks.toArray e))/\s.heap.get? a=some (seqObj "list" #[] e1)/\IntsAre ks kz)
  (step:∀x ks kz (s:Ab),vs[ks.length]?=some x->J ks kz s->wpAny (model prog w) A (call f [x]) (λk s'=>(∃e,s'.heap.get? kS=some (seqObj "list" ks.toArray e))/\∃z,J (ks++[k]) (kz++[z]) { s' with heap:=s'.heap.update kS (Obj.mapSeq (·.push k)) }) (λ_ _=>False) s)
  (nd:∀ks kz (s:Ab),ks.length=vs.length->J ks kz s->kz.Pairwise (·≠·))
  (fin:∀ks kz (s:Ab),ks.length=vs.length->J ks kz s->∀il,Stb kz vs.length il ->
   P (.done (.ret .none)) { s with heap:=(s.heap.update kS (Obj.mapSeq λ_=>(#[]:Array Ag))).update a (Obj.mapSeq λ_=>(il.map λi=>vs.getD i Value.none).toArray) })
  (j:J [] [] s):wpAny (model prog w) A (ksk_rest a f false vs.toArray e1 (.ref kS)) P E s:=by
 unfold ksk_rest;refine ac (eB ?_)
 first
  |rw[List.forIn_toArray]
  |(rw[<-fR];simp only[List.toList_toArray])
  |rw[<-fR]
 refine ac (aY (wyw (vs:=vs) (J:=J) (λx ks kz s' U D=>?_) vs [] [] s (by simp) (aQ _) j) (λ_ s' Z=>?_) λ_ _ x=>x)
 .refine ac (eN (aY (step x ks kz s' U D) (λk ab W=>?_) λ_ _ hF=>hF.elim));obtain⟨⟨e,F⟩,xs,j2⟩:=W;have hz:ks.length<vs.length:=(am.mp U).1
  try dsimp only
  refine ac (eO F rfl ?_ (by rw[av,dJ];lia) (bI (Nat.le_of_eq (Array.size_push ..)) (by rw[av,dJ];lia)));exact ai ⟨rfl,k,xs,j2⟩
 .obtain⟨ks,kz,L,D⟩:=Z;obtain⟨⟨e,F⟩,h1,h2⟩:=hJ _ _ _ D
  try dsimp only
  refine ac (listItems_at F rfl ?_);exact xj4 hka F h1 L h64 h2 (nd ks kz s' L D) (fin ks kz s' L D)
theorem xvv {J:Nat->List Ag->List Int->Ab->Prop}{n:Nat}(ho:s.heap.get? a=some (seqObj "list" vs.toArray n))(h64:vs.length<64)
  (hJ:∀e1 ks kz s',J e1 ks kz s'->(∃e,s'.heap.get? (s.heap.objs.size+1)=some (seqObj "list" ks.toArray e))/\s'.heap.get? a=some (seqObj "list" #[] e1)/\IntsAre ks kz)
  (step:∀e1 x ks kz (s':Ab),vs[ks.length]?=some x->J e1 ks kz s'->wpAny (model prog w) A (call f [x]) (λk s2=>(∃e,s2.heap.get? (s.heap.objs.size+1)=some (seqObj "list" ks.toArray e))/\∃z,J e1 (ks++[k]) (kz++[z]) { s2 with heap:=s2.heap.update (s.heap.objs.size+1) (Obj.mapSeq (·.push k)) }) (λ_ _=>False) s')
  (nd:∀e1 ks kz (s':Ab),ks.length=vs.length->J e1 ks kz s'->kz.Pairwise (·≠·))
  (fin:∀e1 ks kz (s':Ab),ks.length=vs.length->J e1 ks kz s'->∀il,Stb kz vs.length il ->
   P (.done (.ret .none)) { s' with heap:=(s'.heap.update (s.heap.objs.size+1) (Obj.mapSeq λ_=>(#[]:Array Ag))).update a (Obj.mapSeq λ_=>(il.map λi=>vs.getD i Value.none).toArray) })
  (j:∀e1,(Z4 s.heap a vs).get? a=some (seqObj "list" #[] e1)->J e1 [] [] { s with heap:=Z4 s.heap a vs }):wpAny (model prog w) A (ksk_tree a f false) P E s:=by
 have L:a<s.heap.objs.size:=ao ho;obtain⟨e1,D⟩:∃e1,(s.heap.update a (Obj.mapSeq λ_=>(#[]:Array Ag))).get? a=some (seqObj "list" #[] e1):=⟨_,eK ho λ_=>#[]⟩;have F:((s.heap.update a (Obj.mapSeq λ_=>(#[]:Array Ag))).push (seqObj "tuple" vs.toArray 0)).objs.size=s.heap.objs.size+1:=by rw[size_push',i4]
 unfold ksk_tree;refine ac (listItems_at ho rfl ?_);refine ac (eO ho rfl ?_ (by rw[av,dJ];lia) (aQ _));refine ac (iN D rfl ?_);refine ac (wpAny_newTuple ?_ (by show vs.length<=_;rw[dJ];lia));refine ac (gL ?_ (aQ _));refine cg ?_;show wpAny (model prog w) A (ksk_rest a f false vs.toArray e1 (.ref ((s.heap.update a (Obj.mapSeq λ_=>(#[]:Array Ag))).push (seqObj "tuple" vs.toArray 0)).objs.size)) P E { s with heap:=Z4 s.heap a vs };rw[F];exact xq1 (J:=J e1) (ff (eU L)) h64 (hJ e1) (step e1) (nd e1) (fin e1) (j e1 (ag _ (ag _ D)))
end
section
variable {X:Cx}{pins:List (Aj×Obj)}{σ:St}{H:Hp}{s:Ab}
theorem wq0 {g p:Aj}{xs:List V}{kz:List Int}{Q:VK}(I:Inv X pins σ H s)(hS:SqL X.K H p xs)(h64:xs.length<64)(hnd:kz.Pairwise (·≠·))(hkz:kz.length=xs.length)
  (step:∀(pins':List (Aj×Obj)) (s':Ab) (i:Nat) (v:V) (u:Ag),Inv X pins' σ H s'->xs[i]?=some v->RelV v u ->
   wpAny (model X.prog X.w) X.A.in1.in1 (call (.ref g) [u]) (λr s2=>(∃t,r=.int (kz.getD i 0) t)/\Inv X pins' σ H s2) (λ_ _=>False) s')
  (q:∀l il,H l=none->Stb kz xs.length il->Q (.ref l) (upd H l (.lst (il.map λi=>xs.getD i .non)))) :
  wpAny (model X.prog X.w) X.A (call (.builtin "sorted") [.ref p] [(Str.ofString "key",.ref g)]) (EP X pins σ Q) X.xe s:=by
 obtain⟨its,rv,pl,hz⟩:=I.list hS;have hl:s.heap.IsList p its.toArray:=pl.isList;have hlen:its.length=xs.length:=rv.length.symm;refine call_function_entry_kw kind_sorted plain_sorted entry_sorted (ksk_s1 _ _) ?_;unfold Builtin.«sorted»;refine ac (m:=checkCount "sorted" 1 1 _) (ai ?_);refine ac (collect_list hl ?_ (by rw[dJ];lia));refine ac (gL ?_ (by rw[dJ];lia));have hsz:((s.heap.push (seqObj "list" #[] 0)).update s.heap.objs.size (Obj.mapSeq (·++its.toArray))).objs.size=s.heap.objs.size+1:=by rw[i4,size_push']
 have hoL:(((s.heap.push (seqObj "list" #[] 0)).update s.heap.objs.size (Obj.mapSeq (·++its.toArray))).push (seqObj "list" its.toArray 0)).get? (s.heap.objs.size+1)=some (seqObj "list" its.toArray 0):=by rw[<-hsz];exact aA _ rfl
 have keep:∀b o,s.heap.get? b=some o->(((s.heap.push (seqObj "list" #[] 0)).update s.heap.objs.size (Obj.mapSeq (·++its.toArray))).push (seqObj "list" its.toArray 0)).get? b=some o:=λb o q=>by have hlt:b<s.heap.objs.size:=ao q;rw[Heap.get?_push_ne _ _ _ (by rw[hsz];exact aB (eU hlt)),bS _ _ _ _ (aB hlt),Heap.get?_push_ne _ _ _ (aB hlt)];exact q
 show wpAny _ _ _ _ _ { s with heap:=((s.heap.push (seqObj "list" #[] 0)).update s.heap.objs.size (Obj.mapSeq (·++its.toArray))).push (seqObj "list" its.toArray 0) };rw[hsz];generalize hh1:((s.heap.push (seqObj "list" #[] 0)).update s.heap.objs.size (Obj.mapSeq (·++its.toArray))).push (seqObj "list" its.toArray 0)=h1 at hoL keep ⊢;have hs1:h1.objs.size=s.heap.objs.size+2:=by rw[<-hh1,size_push',hsz]
 have fD:k8 X pins H (s.heap.objs.size+1):=I.fpOk (jI _) (I.hok.fresh (jI _));have nK:H (h1.objs.size+1)=none:=I.hok.fresh (by rw[hs1];exact i3 _ 3);have fK:k8 X pins H (h1.objs.size+1):=I.fpOk (by rw[hs1];exact i3 _ 3) nK;have nD:H (s.heap.objs.size+1)=none:=I.hok.fresh (jI _);have hne:(h1.objs.size+1:Nat)≠s.heap.objs.size+1:=by lia
 refine ac (cg (wpAny_call_entry_kw slot_list_sort ⟨_,hoL,rfl⟩ entry_list_sort ?body (ksk_l1 _ _)))
 case body =>
  show wpAny (model X.prog X.w) X.A.in1.in1 (Builtin.«list.sort» ⟨[.ref (s.heap.objs.size+1)],[(Str.ofString "key",.ref g)]⟩) _ _ { s with heap:=h1 };rw[ksk_t1];refine xvv (s:={ s with heap:=h1 }) (J:=λe1 ks zs s'=>Inv X pins σ H s'/\s'.heap.get? (s.heap.objs.size+1)=some (seqObj "list" #[] e1) /\
   (∃e,s'.heap.get? (h1.objs.size+1)=some (seqObj "list" ks.toArray e))/\IntsAre ks zs/\zs=kz.take ks.length/\ks.length<=xs.length) hoL ⋯ ?_ ?_ ?_ ?_ ?_
  .rintro e1 ks zs s' ⟨I',g1,g2,ia,_,_⟩;exact⟨g2,g1,ia⟩
  .rintro e1 x ks zs s' hx ⟨I',g1,⟨e,g2⟩,ia,ek,lk⟩;have hi:ks.length<xs.length:=by have:=(am.mp hx).1;lia
   obtain⟨u,eu,ru⟩:=rv.get (i:=ks.length) (aa hi);rw[hx]at eu;cases eu;have I2:Inv X ((s.heap.objs.size+1,seqObj "list" #[] e1)::(h1.objs.size+1,seqObj "list" ks.toArray e)::pins) σ H s':=I'.pins_of λp hp=>by
    rcases aO.mp hp with rfl|hp
    .exact⟨g1,nD,fD.2.1,fD.2.2.1,λv z=>by cases z⟩
    .rcases aO.mp hp with rfl|hp
     .exact⟨g2,nK,fK.2.1,fK.2.2.1,λv z=>by cases z⟩
     .exact I'.pin p (aH _ hp)
   refine aY (step _ s' ks.length _ x I2 (aa hi) ru) (λr s2 hq=>?_) λ_ _ h=>h;obtain⟨⟨t,rfl⟩,I3⟩:=hq;obtain⟨d1,d2,_⟩:=I3.pin (s.heap.objs.size+1,seqObj "list" #[] e1) (aH _ (.head _));obtain⟨k1,k2,_⟩:=I3.pin (h1.objs.size+1,seqObj "list" ks.toArray e) (aH _ (.tail _ (.head _)));have I4:Inv X pins σ H s2:=I3.pins_of λp hp=>I3.pin p (aH _ (.tail _ (.tail _ hp)));refine⟨⟨e,k1⟩,kz.getD ks.length 0,I4.turnedL (tk:=s2.toks) (ch:=[h1.objs.size+1]) (λb u hb e=>?_) (λb hb=>?_),?_,?_,ksk_snoc ia,?_,?_⟩
   .rw[bS _ _ _ _ (λz=>hb (by simp[z]))];exact e
   .obtain rfl:b=h1.objs.size+1:=by simpa using hb
    exact fK
   .show(s2.heap.update (h1.objs.size+1) _).get? (s.heap.objs.size+1)=_;rw[bS _ _ _ _ (λz=>hne z.symm)];exact d1
   .have ea:(List.toArray ks).push (Value.int (kz.getD ks.length 0) t)=List.toArray (ks++[Value.int (kz.getD ks.length 0) t]):=by simp
    exact⟨_,by rw[<-ea];exact eK k1 (·.push (Value.int (kz.getD ks.length 0) t))⟩
   .rw[ek,au,cM,dB,ae,aa ⋯];rfl
   .rw[au,cM];lia
  .rintro e1 ks zs s' hks ⟨I',g1,⟨e,g2⟩,ia,ek,lk⟩;rw[ek,hks,hlen,<-hkz,bf];exact hnd
  .rintro e1 ks zs s' hks ⟨I',g1,⟨e,g2⟩,ia,ek,lk⟩ il hst;have ekk:zs=kz:=by rw[ek,hks,hlen,<-hkz,bf]
   rw[ekk,hlen]at hst;have hin:∀i∈il,i<xs.length:=λi hi=>al.mp (hst.1.mem_iff.mp hi);have hk4:∀b u,b∉[h1.objs.size+1,s.heap.objs.size+1]->s'.heap.get? b=some u->((s'.heap.update (h1.objs.size+1) (Obj.mapSeq λ_=>(#[]:Array Ag))).update (s.heap.objs.size+1) (Obj.mapSeq λ_=>(il.map λi=>its.getD i Value.none).toArray)).get? b=some u:=λb u hb e=>by rw[bS _ _ _ _ (λz=>hb (by simp[z])),bS _ _ _ _ (λz=>hb (by simp[z]))];exact e
   have I5:=I'.turnedL (tk:=s'.toks) (ch:=[h1.objs.size+1,s.heap.objs.size+1]) hk4 λb hb=>by
    have hb':b=h1.objs.size+1\/b=s.heap.objs.size+1:=by simpa using hb
    rcases hb' with rfl|rfl
    .exact fK
    .exact fD
   have hg:(s'.heap.update (h1.objs.size+1) (Obj.mapSeq λ_=>(#[]:Array Ag))).get? (s.heap.objs.size+1)=some (seqObj "list" #[] e1):=by rw[bS _ _ _ _ (λz=>hne z.symm)];exact g1
   have outI:=qxg rv il hin;have hlo:il.length=xs.length:=by have:=hst.1.length_eq;rw[ay]at this;lia
   refine⟨_,rfl,ai ⟨_,rfl,.ref (s.heap.objs.size+1),_,Inv.track (o:=.lst (il.map λi=>xs.getD i .non)) I5 fD ⟨?_,_,_,outI,eK hg λ_=>_⟩,rfl,q _ il nD hst⟩⟩;rw[af,hlo,dJ];lia
  .intro e1 g1;have kp:∀b o,b≠s.heap.objs.size+1->h1.get? b=some o->(Z4 h1 (s.heap.objs.size+1) its).get? b=some o:=λb o hb e=>by unfold Z4;refine ag _ (ag _ ?_);rw[bS _ _ _ _ hb];exact e
   refine⟨I.kept (t':=s.toks) (λb u e=>kp b u (aB (eU (ao e))) (keep b u e)),g1,⟨0,?_⟩,.nil,by simp,aQ _⟩;have hkS:((h1.update (s.heap.objs.size+1) (Obj.mapSeq λ_=>(#[]:Array Ag))).push (seqObj "tuple" its.toArray 0)).objs.size=h1.objs.size+1:=by rw[size_push',i4]
   show(Z4 h1 (s.heap.objs.size+1) its).get? (h1.objs.size+1)=_;unfold Z4;rw[<-hkS];exact aA _ rfl
end
section
variable {X:Cx}{x y:Str}{params:Arguments}{body:Expr}{scope:Scope}{cF:Aj}{qual:Str}{pm:Ag}{iy k:Nat}{t:TE}
theorem qu7 (S:LamSc x y scope)(hr:Room (k+3) X.A)(hiy:X.N[iy]?=some y)(hky:X.env.kindOf y=some .cell)(hsy:X.env.scope.names.lookup y=some .cell)(hcF:X.env.cells.lookup y=some cF)
  (hb:∀(u ct:Ag) (c':Aj),bindArgs (kla_fn "<lambda>" qual params body scope [(y,cF)] pm (.ref c') ct) ⟨[u],[]⟩=pure [(x,u)])
  (hpe:∀(g c':Aj) (A:Ae) (outer:List Env) (s:Ab) (H:Hp) (E:XK),PE (wj3 (CXE X.prog X.w) X.prog X.w X.K X.mg X.base [x,y] qual scope g (.ref c') [(y,cF)] A outer s H E) body t) :
  wj6 X (.builtin "sorted") [Str.ofString "key"] (λσ xs zs H Q=>∃(p:Aj) (vs:List V) (kz:List Int) (g c':Aj) (ct:Ag) (vS:V),xs=[.ref p]/\zs=[.ref g]/\SqL X.K H p vs/\vs.length<64/\kz.Pairwise (·≠·)/\kz.length=vs.length /\
   H g=some (wwt g (kla_obj "<lambda>" qual params body scope [(y,cF)] pm c' ct))/\H c'=some (qjg qual c')/\σ[iy]?=some (some vS) /\
   (∀i v,vs[i]?=some v->t [some v,some vS] H λr H'=>r=.int (kz.getD i 0)/\H'=H) /\
   ∀l il,H l=none->Stb kz vs.length il->Q (.ref l) (upd H l (.lst (il.map λi=>vs.getD i .non)))):=by
 intro pins s σ H xs zs us ws Q I r U h;obtain⟨p,vs,kz,g,c',ct,vS,rfl,rfl,hS,as,ab,ah,hg,ap,hσ,ht,q⟩:=h;obtain⟨u,rfl,Z⟩:=yy r;cases(show u=Value.ref p from Z);obtain⟨v,rfl,J⟩:=yy U;cases(show v=Value.ref g from J);refine wq0 I hS as ab ah (λa0 s' i v u D hv J=>?_) q;obtain⟨m,a1,ad⟩:=D.loc;obtain⟨uS,rS,lk⟩:=ad iy y vS hiy hσ (.inr (.inl hsy));have an:s'.heap.IsCell cF (some uS):=by
  rcases lk with⟨z,_⟩|⟨_,c,L,e2⟩
  .rw[hky]at z;cases z
  .rw[hcF]at L;cases L;exact e2
 refine wpAny_call (fh (xk0 (k:=k) S hr.in1.in1 D.env0.in1.in1 (D.hok g _ hg).1 (D.hok c' _ ap).1 (hb u ct c') an (D.freeC y cF hcF) J rS (hpe g c' _ _ _ _ E0) (ht i v hv)) λr s2 F=>?_);cases r with
 |error e=>exact CXE.no F
 |ok fl =>
  cases fl with
  |next=>exact False.elim F
  |brk=>exact False.elim F
  |cont=>exact False.elim F
  |ret w =>
   obtain⟨v,H2,I3,W,rfl,rfl⟩:=D.after F;obtain⟨t,rfl⟩:=W;exact⟨⟨t,rfl⟩,I3⟩
end
end L2
namespace L2
open PySem PySem.Spec PyProof.Rows
theorem wyh (bs:List Bool):(List.range bs.length).any (λi=>bs.getD i false)=bs.any id:=by
 rw[cA,cC,cC];constructor
 .rintro⟨i,hi,h⟩;have z:=al.mp hi;rw[ae,aa z]at h;exact⟨bs[i],bD z,h⟩
 .rintro⟨b,D,h⟩;obtain⟨i,hi,rfl⟩:=cE D;refine⟨i,al.mpr hi,?_⟩;rw[ae,aa hi];exact h
section
variable {X:Cx}{K:Aa}
theorem qv4 (hc:X.calm=true)(hK:X.K=K):js X (.builtin "any") (λxs H Q=>∃(p:Aj) (bs:List Bool),xs=[.ref p]/\SqL K H p (bs.map V.bl)/\Q (.bl (bs.any id)) H):=by
 subst hK;intro pins s σ H xs us Q I r h;obtain⟨p,bs,rfl,hS,q⟩:=h;obtain⟨u,rfl,ru⟩:=yy r;cases(show u=Value.ref p from ru);obtain⟨F,rv,⟨o,n,Z,J,e3,e4⟩,hz⟩:=I.list hS;have U:=qz3 rv;have L:s.heap.IsList p F.toArray:=⟨o,Z,J,n,e4⟩;have ab:p<s.heap.objs.size:=ao Z;refine call_any_walk (gk L ?_);refine⟨s.heap.objs.size,_,_,_,_,_,λi=>bs.getD i false,rfl,Walks.list (A:=X.A.in1) (I.ok.hd hc) _ p (aB ab) F.toArray,⟨⟨_,aA _ rfl,rfl,rfl⟩,L.push _⟩,λi v s' Q' E' hP hQ=>?_,λh' tk hk=>?_⟩
 .have D:F[i]?=some v:=by simpa using hP
  rw[U,ax]at D;cases hb:bs[i]? with
  |none=>rw[hb]at D;cases D
  |some b =>
   rw[hb]at D;have ev:Value.bool b=v:=aq D;subst ev;refine cX ?_;have J:bs.getD i false=b:=by rw[ae,hb];rfl
   have W:Q' (bs.getD i false) s':=hQ;rw[J]at W;exact W
 .have ad:F.toArray.size=bs.length:=by rw[U];simp
  rw[ad,wyh];refine⟨.bl _,H,I.kept λb ob e=>hk b ob (λhm=>?_) (ag _ e),rfl,q⟩;have z:b=s.heap.objs.size:=by simpa using hm
  exact bb _ (z▸ao e)
end
end L2
namespace L2
open PySem PySem.Spec PySem.Calls PySem.W PyProof.Rows
section
variable {prog:Ac}{w:Ah}{A:Ae}{R:Result->Ab->Prop}{I:Aj}{fp wr:List Aj}{n:Nat}{P:Nat->Ag->Prop}{St:Nat->Heap->Prop}
def MxAt (P:Nat->Ag->Prop)(bt:Nat->Nat->Bool)(j:Nat)(old:Array Ag):Prop:=(j=0/\old=#[])\/∃i v,j=i+1/\old=#[v,v]/\P (argBest bt i) v
theorem xwb (W:Walks prog w A.in1 I fp wr n P St)(bt:Nat->Nat->Bool)(hcmp:CmpOf prog w A.in1 .Gt P bt)(S:Aj)(hSf:S∉fp)(d:Ag) :
  ∀(m j:Nat) (s:Ab) (old:Array Ag) (c:Nat),j+m=n->St j s.heap->s.heap.get? S=some ⟨.type "list",none,.seq old c,#[]⟩->MxAt P bt j old ->
   (∀v h' tk,(n=0/\v=d\/∃i,n=i+1/\P (argBest bt i) v)->(∀b o,b∉wr->b≠S->s.heap.get? b=some o->h'.get? b=some o)->R (.ok (.ret v)) { s with heap:=h',toks:=tk }) ->
   codeAny (model prog w) A (.builtin "max.loop" ⟨[.ref I,.none,.ref S],[("default",d)]⟩) R s:=by
 have a0:S∉wr:=λh=>hSf (W.sub _ h);have an:(toString "max" ++ toString ".loop" : String) = "max.loop" := by decide
 intro m
 induction m with
 |zero =>
  intro j s old c hj st hS ap hR;obtain rfl:j=n:=hj;(refine gY F.entry_max_loop ?_ ;rw[gS ee _] ;show wpAny _ A.in1 (seqItems? (.ref S) >>= _) _ _ s ;refine ac (iq hS rfl ?_));(show wpAny _ A.in1 (tryCatch (pyNext (.ref I)) _ >>= _) _ _ s ;refine ac (wpAny_tryCatch (W.done s _ _ st λh' tk L=>?_)));rcases ap with⟨rfl,rfl⟩|⟨i,v,rfl,rfl,hP⟩
  .exact ac (eB (ai (hR d h' tk (.inl ⟨rfl,rfl⟩) λb o D _ e=>L b o D e)))
  .have U:=L S _ a0 hS;(show wpAny _ A.in1 (updateSeq S (λ_=>#[]) >>= _) _ _ _ ;refine ac ?_ ;refine jE U rfl (ac (gQ (ai ?_))));exact hR v _ tk (.inr ⟨i,rfl,hP⟩) λb o D J e=>(cZ _ _ (dF J)).trans (L b o D e)
 |succ m ih =>
  intro j s old c hj st hS ap hR;have a2:j<n:=by lia
  (refine gY F.entry_max_loop ?_ ;rw[gS ee _] ;show wpAny _ A.in1 (seqItems? (.ref S) >>= _) _ _ s ;refine ac (iq hS rfl ?_));(show wpAny _ A.in1 (tryCatch (pyNext (.ref I)) _ >>= _) _ _ s ;refine ac (wpAny_tryCatch (W.item j s _ _ a2 st λv h' tk hP as L=>?_)));have U:=L S _ a0 hS;have fr:∀(h2:Heap),(∀b o,b≠S->h'.get? b=some o->h2.get? b=some o)->St (j+1) h2:=λh2 k=>W.frame _ _ _ as λb a3 o e=>k b o (λz=>hSf (by rw[<-z];exact a3)) e;rcases ap with⟨rfl,rfl⟩|⟨i,vb,rfl,rfl,a1⟩
  ·(show wpAny _ A.in1 (updateSeq S (λ_=>#[v,v]) >>= _) _ _ _ ;refine ac ?_ ;refine jE U rfl ?_ ;rw[an]);refine ai ⟨iQ ee _,ih (0+1) _ _ _ ⋯ (fr _ λb o Z e=>(cZ _ _ (dF Z)).trans e) (de _ U rfl) (.inr ⟨0,v,rfl,rfl,hP⟩) λv' ah ab hv ad=>?_⟩;exact hR v' ah ab hv λb o D J e=>ad b o D J ((cZ _ _ (dF J)).trans (L b o D e))
  ·(show wpAny _ A.in1 (tryCatch (holding [v,v] (richCompare .Gt v vb >>= _)) _ >>= _) _ _ _ ;refine ac (wpAny_tryCatch (cg (ac (hcmp (i+1) (argBest bt i) v vb _ _ _ hP a1 ?_)))));(refine ac (cg (cX ?_)) ;refine ac (gQ (ai ?_)));cases Z:bt (i+1) (argBest bt i) with
   |true =>
    (simp only[cV] ;refine ac ?_ ;refine jE U rfl (ac (gQ ?_)) ;rw[an])
    refine ai ⟨iQ ee _,ih (i+1+1) _ _ _ ⋯ (fr _ λb o Z e=>(cZ _ _ (dF Z)).trans e) (de _ U rfl) (.inr ⟨i+1,v,rfl,rfl,by simp only[argBest,Z,cV];exact hP⟩) λv' ah ab hv ad=>?_⟩;exact hR v' ah ab hv λb o D J e=>ad b o D J ((cZ _ _ (dF J)).trans (L b o D e))
   |false =>
    (simp only[aD,bA] ;refine ac (gQ ?_) ;rw[an])
    refine ai ⟨iQ ee _,ih (i+1+1) _ _ _ ⋯ as U (.inr ⟨i+1,vb,rfl,rfl,by simp only[argBest,Z,aD,bA];exact a1⟩) λv' ah ab hv ad=>?_⟩;exact hR v' ah ab hv λb o D J e=>ad b o D J (L b o D e)
end
theorem wuz (a d:Ag):argsOk "max" ⟨[a],[(Str.ofString "default",d)]⟩:=by unfold argsOk;kernel_rfl
section
variable {prog:Ac}{w:Ah}{A:Ae}{E:Ag->Ab->Prop}{s:Ab}
theorem qy7 {id:String}{b:Builtin}{args:List Ag}{kw:List (Str×Ag)}{Q:Ag->Ab->Prop}(hk:builtinKind id=none)(hp:plainId id=true)(hb:entryFor table id=some b)(ha:argsOk id ⟨args,kw⟩)
  (hc:wpAny (model prog w) A.in1 (b ⟨args,kw⟩) (λfin s'=>match fin with
   |.done f=>(match (Except.ok f:Result) with|.ok (.ret v)=>Q v s'|.ok _=>False|.error e=>E e s')
   |.again c'=>c'.quiet=true/\codeAny (model prog w) A c' (λr s'=>match r with|.ok (.ret v)=>Q v s'|.ok _=>False|.error e=>E e s') s') E s) :
  wpAny (model prog w) A (call (.builtin id) args kw) Q E s:=by
 refine wpAny_call (codeAny_call_builtin hp hb ?_);simp only[checkBuiltinCall,hk];cases g:Manifest.signature? id with
 |none=>exact ai hc
 |some sig =>
  have z:Bind.checkArgs id sig ⟨args,kw⟩=pure ():=by simpa only [argsOk,g] using ha
  (simp only[z] ;exact ai hc)
end
section
variable {X:Cx}
theorem wuv (hc:X.calm=true):xvj X (.builtin "max") [Str.ofString "default"] (λxs zs H Q=>∃(p:Aj) (ns:List Int) (d:Int),xs=[.ref p]/\zs=[.int d]/\SqL X.K H p (ns.map V.int) /\
  ∀m,(∀a∈ns,a<=m)->(m∈ns\/(ns=[]/\m=d))->Q (.int m) H):=by
 intro pins s σ H xs zs us ws Q I r rz h;obtain⟨p,ns,d,rfl,rfl,hS,q⟩:=h;obtain⟨u,rfl,ru⟩:=yy r;cases(show u=Value.ref p from ru);obtain⟨v,rfl,tv,rfl⟩:=yy rz;obtain⟨D,hl,J⟩:=Ju I hS;have Z:D.size=ns.length:=by rw[J,af,bc]
 have ab:(toString "max" ++ toString ".loop" : String) = "max.loop" := by decide
 show wpAny _ _ (call (.builtin "max") [.ref p] [(Str.ofString "default",.int d tv)]) _ _ _;refine qy7 F.kind_max F.plain_max F.entry_max (wuz _ _) ?_;(show wpAny _ X.A.in1 (Builtin.Builtins.bindParams "max" ["key","default"] 0 ⟨[],[(Str.ofString "default",.int d tv)]⟩ >>= _) _ _ s ;refine ac (wpAny_of_eq (show Builtin.Builtins.bindParams "max" ["key","default"] 0 ⟨[],[(Str.ofString "default",.int d tv)]⟩=pure [none,some (.int d tv)] from rfl) ?_));(refine ac (ai ?_) ;refine ac (iter_intList hl λs₂ e st ah ad=>?_) ;subst e ;refine ac (ca ?_));have W:=Walks.list (A:=X.A.in1) (prog:=X.prog) (w:=X.w) (I.ok.hd hc) _ p ad (intItems D);have an:(s.heap.push { cls:=.type "list_iterator",data:=.fields #[.ref p,.int 0 0] }).objs.size∉[s.heap.objs.size,p]:=λhm=>bb _ (ah _ hm);rw[ab];refine ai ⟨iQ ee _,xwb W _ (CmpOf.ints_gt (numAt D) λ_ _=>jJ) _ an (.int d tv) _ 0 _ #[] _ (cW _) (W.frame _ _ _ st λb _ o e=>ag _ e) (aA _ rfl) (.inl ⟨rfl,rfl⟩) λv h' tk hv hk=>?_⟩;have U:∀b o,s.heap.get? b=some o->h'.get? b=some o:=λb o e=>by
  have hb:b<s.heap.objs.size:=ao e;refine hk b o (λz=>?_) (aB ?_) (ag _ (ag _ e))
  .obtain rfl:=aM.mp z;exact bb _ hb
  .rw[cY];exact eU hb
 have zi:(intItems D).size=D.size:=by simp[intItems]
 rcases hv with⟨h0,rfl⟩|⟨i,hi,hP⟩
 .have e0:ns=[]:=i6.mp ⋯;exact⟨.int d,H,I.kept U,⟨tv,rfl⟩,q d (λa L=>by rw[e0]at L;cases L) (.inr ⟨e0,rfl⟩)⟩
 .obtain⟨t,rfl⟩:=jJ hP;obtain⟨b1,b2⟩:=argBest_gt (numAt D) i;refine⟨.int _,H,I.kept U,⟨t,rfl⟩,q _ (λa L=>?_) (.inl ?_)⟩
  .rw[J]at L;obtain⟨j,hj,rfl⟩:=mem_getD L;rw[<-J,<-Z]at hj;rw[<-jK];exact b2 j ⋯
  .rw[J,jK];refine getD_mem ?_;rw[<-J,<-Z];lia
end
end L2
namespace L2
open PySem PySem.Spec PySem.Calls PySem.W PyProof.Rows
structure FunT (K:Aa)(x:Str)(st:Stmt)(c f:Aj)(fd:Ad):Prop where
 F:Fun K x x st f fd
 code:fd.code=.ref c
section
variable {P:Ac}{w:Ah}{K:Aa}{mg:Str->Option Ag}{base:Heap}{x:Str}{st:Stmt}{c:Aj}
theorem FunT.okX {f:Aj}{fd:Ad}{N ps:List Str}{k:Nat}{sp:Sp}(F:FunT K x st c f fd)(S:FnScope N ps (ww st))(len:∀vs H Q E,sp vs H Q E->vs.length=ps.length)
  (body:∀(A:Ae) (outer:List Env) (s:Ab) (H:Hp) (vs:List V) (Q:VK) (E:XK),Room k (A.deeper (envOfC x (ww st) s.heap.objs.size f (.ref c)))->sp vs H Q E ->
   ∃t,PSs (Ww (CXE P w) P w K mg base N x (ww st) f (.ref c) A outer s H E) (vz st) t/\t { nx:=λ_ H'=>Q .non H',rt:=Q } (Zb N vs) H):FnOk P w K mg base (CXE P w) (k+1) f fd ps sp:=by
 obtain⟨Z,W,kV,ab,pm,an,cdv,ct,U,rfl,z,L⟩:=F.F.ex;obtain rfl:cdv=.ref c:=F.code;exact xzv z L S len λA outer s H vs Q E J D=>body A outer s H vs Q E J D
structure DefInT (K:Aa)(x:Str)(st:Stmt)(c:Aj):Prop where
 ex:∃f fd,W.nsIn K mainGlobals x=some (some (.ref f))/\FunT K x st c f fd
theorem xyv {f:Aj}{oc:Ag}{od an:Option Aj}{osl:Array (Option Ag)}{kV doc pm ct:Ag}(a:W.nsIn K mainGlobals x=some (some (.ref f)))
  (l:K.lookup f=some ⟨oc,od,.func (W.fnOf x x (jx st) (vz st) (ww st) .none kV doc pm an (.ref c) ct),osl⟩) (cc:W.codeIn K (.ref c) x=true) (k:W.keepIn K (.ref f)=true):DefInT K x st c:=⟨_,_,a,wzn l cc k,rfl⟩
theorem DefInT.cal {ps:List Str}{k:Nat}{sp:Sp}{h:Heap}(d:DefInT K x st c)(KX:K.In h)(G:h.Ns mainGlobals mg)(b:xy x st ps)(ok:∀f fd,FunT K x st c f fd->FnOk P w K mg base (CXE P w) k f fd ps sp):Cal P w K mg base x k sp:=by obtain⟨f,fd,a,F⟩:=d.ex;exact⟨f,fd,ps,bW KX G a,ok f fd F,F.F.kp,F.F.binds b⟩
end
end L2
namespace L2
open PySem PySem.Spec PyProof.Rows
theorem Zp {K:Aa}{M:List Nat}{a:Aj}{xs:List V}{te:TE}{σ:St}{H:Hp}{Q:VK}(G:Nat->V->Hp->Prop)(gs:StayT G)(hS:SqL K H a xs)(hn:xs.length<=1000000)
  (he:∀(i:Nat) (x:V) (H':Hp) (R:VK),xs[i]?=some x->Same H H'->(∀v H'',Same H' H''->G i v H''->R v H'')->te (zh M σ (some x)) H' R)
  (k:∀p ys H',H p=none->Same H H'->H' p=some (.lst ys)->ys.length=xs.length->(∀j v,ys[j]?=some v->G j v H')->Q (.ref p) H'):W6 (Itl K a) M te σ H Q:=by
 intro p np;have ab:(1000000:Nat)<sizeLine:=by decide
 refine⟨λi m ys H2=>i<=xs.length/\m=xs.length-i/\ys.length=i/\Same H H2/\H2 p=some (.lst ys)/\∀j v,ys[j]?=some v->G j v H2,⟨xs.length,aQ _,rfl,rfl,Same.upd np,qu,λj v e=>by cases e⟩,?_⟩;rintro i m ys H2 ⟨hi,rfl,hl,sm,hp,hG⟩;have L:SqL K H2 a xs:=Same.sql sm hS;refine⟨hp,⋯,?_⟩;by_cases hlt:i<xs.length
 .have J:xs[i]?=some xs[i]:=aa hlt;refine .inr ⟨⟨xs,_,L,J⟩,?_⟩;rintro v H3 ⟨rfl,hv⟩;have U:=hv xs L;rw[J]at U;have e':=aq U;subst e';clear U;refine he i _ _ _ J sm λw Z D g4=>?_;have W:=D _ _ hp;have st:∀b o,(∀xs,o≠.lst xs)->Z b=some o->upd Z p (.lst (ys++[w])) b=some o:=λb o F e=>by
   rw[wx]
   .exact e
   .intro z;rw[z,W]at e;exact F _ (aq e).symm
  refine⟨W,xs.length-(i+1),⋯,⋯,rfl,by rw[au,hl];rfl,λb o e=>?_,qu,λj v e=>?_⟩
  .rw[wx (wj e np)];exact D _ _ (sm _ _ e)
  .rcases bF j ys.length with z|z
   .rw[aU z]at e;exact gs j v _ _ (hG j v e) λb o F e=>st b o F (D _ _ e)
   .rw[aG z]at e;have hj:j=i:=by
     rcases bF (j-ys.length) 1 with y|y
     .lia
     .rw[aP (by simpa using y)]at e;cases e
    subst hj;rw[show j-ys.length=0 by lia]at e;cases e;exact gs j _ _ _ g4 st
 .have:i=xs.length:=by lia
  subst this;exact .inl ⟨⟨xs,L,ak _⟩,k p ys H2 np sm hp hl hG⟩
theorem xkb {X:Cx}{K:Aa}(hK:X.K=K)(hu:X.A.units+64<cLine):OpR X (compareOp .Eq) (rEqD K false):=by subst hK;exact qj5 hu
theorem xwv {X:Cx}{P:Ac}{w:Ah}(hP:X.prog=P)(hw:X.w=w)(hu:X.A.units+64<cLine):Yk X (addT P w):=by subst hP hw;exact xkp hu
theorem xz9 {X:Cx}{P:Ac}{w:Ah}(hP:X.prog=P)(hw:X.w=w):Yk X (addI P w):=by subst hP hw;exact xkt
end L2
namespace L2
open PySem PySem.Spec PyProof.Rows
def PtV (H:Hp)(v:V)(p:Int×Int):Prop:=∃a,v=.ref a/\H a=some (.tup [.int p.1,.int p.2])
def wzh (H:Hp)(q:Int×Int):Ag->Bool
 |.ref a=>match H a with
  |some (.tup [.int x,.int y])=>decide ((x,y)=q)
  |_=>false
 |_=>false
theorem wj0 {H:Hp}{q p:Int×Int}{a:Aj}(h:H a=some (.tup [.int p.1,.int p.2])):wzh H q (.ref a)=decide (p=q):=by simp only[wzh,h]
theorem xk3 {X:Cx}{pins:List (Aj×Obj)}{σ:St}{H:Hp}{s:Ab}{A:Ae}(I:Inv X pins σ H s)(hu:A.units<cLine){a b:Aj}{p q:Int×Int}(ha:H a=some (.tup [.int p.1,.int p.2]))(hb:H b=some (.tup [.int q.1,.int q.2])):SeqAt.EqAt A s (.ref a) (.ref b) (decide (p=q)):=by
 by_cases e:a=b
 .subst e;rw[ha]at hb;have:p=q:=by
   injection hb with hb
   injection hb with hb
   injection hb with h1 h2
   injection h2 with h2 _
   injection h1 with h1
   injection h2 with h2
   exact iU h1 h2
  rw[aF this];exact SeqAt.EqAt.same _
 .refine SeqAt.EqAt.of_refs e ?_;obtain⟨ad,r1,W,_⟩:=I.tuple (SqT.of (K:=X.K) ha);obtain⟨ab,Z,U,_⟩:=I.tuple (SqT.of (K:=X.K) hb);obtain⟨u1,u2,rfl,⟨L,rfl⟩,⟨J,rfl⟩⟩:=r1.two;obtain⟨w1,w2,rfl,⟨F,rfl⟩,⟨D,rfl⟩⟩:=Z.two;have h:=SeqAt.RcAt.tuples (A:=A) (s:=s) (e:=λj=>if j=0 then p.1==q.1 else p.2==q.2) (show s.heap.IsTuple a _ from W) (show s.heap.IsTuple b _ from U) hu λj h1 h2=>by
   have hj:j<2:=by simpa using h1
   rcases(by lia:j=0\/j=1) with z|z
   .subst z;exact ic _ _ _ _
   .subst z;exact ic _ _ _ _
  have e2:((List.range (min [Value.int p.1 L,Value.int p.2 J].toArray.size [Value.int q.1 F,Value.int q.2 D].toArray.size)).all (λj=>if j=0 then p.1==q.1 else p.2==q.2)&&[Value.int p.1 L,Value.int p.2 J].toArray.size==[Value.int q.1 F,Value.int q.2 D].toArray.size)=decide (p=q):=by rw[cA];simp[bz,Prod.ext_iff]
  rw[e2]at h;exact h
section
variable {X:Cx}{pins:List (Aj×Obj)}{σ:St}{H:Hp}{s:Ab}
theorem wq1 {q:Int×Int}:∀ {vs:List V} {ps:List (Int×Int)} {us:List Ag},Paired (PtV H) vs ps->Vals vs us->us.any (wzh H q)=decide (q∈ps)
 |_,_,_,.nil,.nil=>by simp
 |_,p::ps,_,.cons h t,.cons r rs=>by obtain⟨a,rfl,ha⟩:=h;cases r;rw[fE,wq1 t rs,wj0 ha,cA];simp only[Bool.or_eq_true,eR,aO];exact⟨λz=>z.elim (λy=>.inl y.symm) .inr,λz=>z.elim (λy=>.inl y.symm) .inr⟩
theorem wqn (I:Inv X pins σ H s){A:Ae}(hu:A.units<cLine){b:Aj}{q:Int×Int}(hb:H b=some (.tup [.int q.1,.int q.2])):∀ {vs:List V} {ps:List (Int×Int)} {us:List Ag},Paired (PtV H) vs ps->Vals vs us->∀u∈us,SeqAt.EqAt A s u (.ref b) (wzh H q u)
 |_,_,_,.nil,.nil,u,hu'=>by cases hu'
 |_,_,_,.cons h t,.cons r rs,u,hu'=>by
  obtain⟨a,rfl,ha⟩:=h;cases r;rcases aO.mp hu' with rfl|hu'
  .rw[wj0 ha];exact xk3 I hu ha hb
  .exact wqn I hu hb t rs u hu'
def xym:R2:=λx y H Q=>∃l b vs ps q,x=.ref b/\y=.ref l/\H l=some (.lst vs)/\Paired (PtV H) vs ps/\H b=some (.tup [.int q.1,.int q.2])/\Q (.bl (!decide (q∈ps))) H
theorem wyu (hu:X.A.units+64<cLine):OpR X (compareOp .NotIn) xym:=by intro pins s σ H x y v u Q I J F h;obtain⟨l,b,vs,ps,q,rfl,rfl,W,D,Z,k⟩:=h;cases J;cases F;obtain⟨z,r,L,hz⟩:=I.list (SqL.of (K:=X.K) W);refine SeqAt.notIn_listAt (wzh H q) L.isList (λw U=>wqn I (A:=X.A.in1) (by show X.A.units+1<cLine;lia) Z D r w (by simpa using U)) ⟨.bl _,H,I,rfl,?_⟩;rw[show z.toArray.any (wzh H q)=z.any (wzh H q) by simp,wq1 D r];exact k
end
end L2
namespace My
open PySem L2
def top (i:Nat):Stmt:=PySem.Challenge.pw_crookroad_k39_whole_doubled_lengths.main.body.getD i (.Pass ⟨0,0,0,0⟩)
abbrev zak:Stmt:=top 9
theorem _root_.aU7 (h:True:=by decide +kernel):True:=h
theorem scA{N P:List Str}{c:Scope}(a:autoParam (c.kind=.function) aU4._auto_1)(b:autoParam (c.isCoroutine=false) aU4._auto_1)(d:autoParam (c.isGenerator=false) aU4._auto_1)(e:autoParam (N.Nodup) aU7._auto_1)(f:autoParam (N.take P.length=P) aU4._auto_1)(g:autoParam (∀x∈P,c.names.lookup x=some .local\/c.names.lookup x=some .cell) aU7._auto_1)(h:autoParam (∀y∈c.names,y.2≠.free) aU7._auto_1):FnScope N P c:=⟨a,b,d,e,f,g,h⟩
theorem qzs:FnScope ["number","fewest","most"] ["number","fewest","most"] (ww zak):=scA
theorem qz9:Yz "check_count" zak ["number","fewest","most"] []:=λ_ _ _ _ _ _ _ u h=>match u,h with|[_,_,_],_=>exI rfl rfl
theorem qzd:Yz "check_count" zak ["number","fewest","most"] [.none]:=λ_ _ _ _ _ _ _ us hl=>by
 have h2:us.length=2:=by simpa using hl
 match us,h2 with
 |[_,_],_=>exact exI rfl rfl
abbrev zat:Stmt:=top 11
theorem qwu:FnScope ["bottom"] ["bottom"] (ww zat):=scA
theorem qwd:xy "check_bottom" zat ["bottom"]:=λ_ _ _ _ _ _ _ h=>bA1 h λ_=>rfl
abbrev zau:Stmt:=top 12
theorem Yu:FnScope ["one","other"] ["one","other"] (ww zau):=scA
theorem Yr:xy "common_divisor" zau ["one","other"]:=λ_ _ _ _ _ _ _ h=>bA2 h λ_ _=>rfl
abbrev zav:Stmt:=top 13
theorem wu0:FnScope ["top","bottom","divisor"] ["top","bottom"] (ww zav):=scA
theorem wud:xy "lowest" zav ["top","bottom"]:=λ_ _ _ _ _ _ _ h=>bA2 h λ_ _=>rfl
abbrev zal:Stmt:=top 14
theorem wvu:FnScope ["points","point","greatest","scale"] ["points"] (ww zal):=scA
theorem wv9:xy "ordered" zal ["points"]:=λ_ _ _ _ _ _ _ h=>bA1 h λ_=>rfl
abbrev zaw:Stmt:=top 17
theorem wzy:FnScope ["heights","width"] ["heights"] (ww zaw):=scA
theorem wz0:xy "is_line" zaw ["heights"]:=λ_ _ _ _ _ _ _ h=>bA1 h λ_=>rfl
abbrev zax:Stmt:=uw (top 18) 0
theorem qqc:FnScope ["self","heights"] ["self","heights"] (ww zax):=scA
theorem J3:j7 "__init__" "Road.__init__" zax ["self","heights"]:=λ_ _ _ _ _ _ _ h=>bA2 h λ_ _=>rfl
abbrev zay:Stmt:=uw (top 18) 1
theorem qkd:FnScope ["self"] ["self"] (ww zay):=scA
theorem qv7:j7 "width" "Road.width" zay ["self"]:=λ_ _ _ _ _ _ _ h=>bA1 h λ_=>rfl
abbrev zaz:Stmt:=uw (top 18) 2
theorem qwj:FnScope ["self"] ["self"] (ww zaz):=scA
theorem qwb:j7 "corners" "Road.corners" zaz ["self"]:=λ_ _ _ _ _ _ _ h=>bA1 h λ_=>rfl
abbrev za0:Stmt:=uw (top 18) 3
theorem qj1:FnScope ["self","stretch"] ["self","stretch"] (ww za0):=scA
theorem qut:j7 "ends" "Road.ends" za0 ["self","stretch"]:=λ_ _ _ _ _ _ _ h=>bA2 h λ_ _=>rfl
abbrev za1:Stmt:=uw (top 18) 4
theorem qvc:FnScope ["self","stretch","left","right"] ["self","stretch"] (ww za1):=scA
theorem qkz:j7 "slope" "Road.slope" za1 ["self","stretch"]:=λ_ _ _ _ _ _ _ h=>bA2 h λ_ _=>rfl
abbrev za2:Stmt:=uw (top 18) 5
theorem qkq:FnScope ["self","stretch","left","right"] ["self","stretch"] (ww za2):=scA
theorem qv9:j7 "reach" "Road.reach" za2 ["self","stretch"]:=λ_ _ _ _ _ _ _ h=>bA2 h λ_ _=>rfl
abbrev za3:Stmt:=uw (top 18) 6
theorem qwx:FnScope ["self","point","top","bottom"] ["self","point"] (ww za3):=scA
theorem qq3:j7 "on_road" "Road.on_road" za3 ["self","point"]:=λ_ _ _ _ _ _ _ h=>bA2 h λ_ _=>rfl
abbrev za4:Stmt:=uw (top 18) 7
theorem wkx:FnScope ["self","point","top","bottom","stretch","left","right","beyond"] ["self","point"] (ww za4):=scA
theorem wkw:j7 "at" "Road.at" za4 ["self","point"]:=λ_ _ _ _ _ _ _ h=>bA2 h λ_ _=>rfl
abbrev za5:Stmt:=top 20
theorem wzr:FnScope ["road","width"] ["road"] (ww za5):=scA
theorem wvs:xy "doubled" za5 ["road"]:=λ_ _ _ _ _ _ _ h=>bA1 h λ_=>rfl
abbrev za6:Stmt:=top 24
theorem wvh:FnScope ["road","stretch","lesser","greater"] ["road","stretch"] (ww za6):=scA
theorem wzf:xy "covered" za6 ["road","stretch"]:=λ_ _ _ _ _ _ _ h=>bA2 h λ_ _=>rfl
abbrev za7:Stmt:=top 25
theorem qug:FnScope ["road"] ["road"] (ww za7):=scA
theorem quw:xy "covers_of" za7 ["road"]:=λ_ _ _ _ _ _ _ h=>bA1 h λ_=>rfl
abbrev za8:Stmt:=top 26
theorem Z2:FnScope ["width"] ["width"] (ww za8):=scA
theorem Z9:xy "ways_of_no_step" za8 ["width"]:=λ_ _ _ _ _ _ _ h=>bA1 h λ_=>rfl
abbrev za9:Stmt:=top 27
theorem Jk:FnScope ["covers","table"] ["covers","table"] (ww za9):=scA
theorem Jx:xy "one_step_more" za9 ["covers","table"]:=λ_ _ _ _ _ _ _ h=>bA2 h λ_ _=>rfl
abbrev zba:Stmt:=top 28
theorem qvd:FnScope ["road","many","covers","tables"] ["road","many"] (ww zba):=scA
theorem qv2:xy "ways_up_to" zba ["road","many"]:=λ_ _ _ _ _ _ _ h=>bA2 h λ_ _=>rfl
abbrev zbb:Stmt:=top 29
theorem wqv:FnScope ["first","covers","tables","many","begun","left"] ["first","covers","tables"] (ww zbb):=scA
theorem qu3:xy "rows_from" zbb ["first","covers","tables"]:=λ_ _ _ _ _ _ _ h=>bA3 h λ_ _ _=>rfl
abbrev zbc:Stmt:=top 30
theorem xyf:FnScope ["road","many","tables","covers","closed","first"] ["road","many"] (ww zbc):=scA
theorem xyx:xy "rows" zbc ["road","many"]:=λ_ _ _ _ _ _ _ h=>bA2 h λ_ _=>rfl
abbrev zbd:Stmt:=top 34
theorem wuy:FnScope ["road","point","many","here","points"] ["road","point","many"] (ww zbd):=scA
theorem xqb:xy "walked" zbd ["road","point","many"]:=λ_ _ _ _ _ _ _ h=>bA3 h λ_ _ _=>rfl
abbrev zbe:Stmt:=top 35
theorem xx0:FnScope ["road","start","places","here"] ["road","start"] (ww zbe):=scA
theorem xxb:xy "trace" zbe ["road","start"]:=λ_ _ _ _ _ _ _ h=>bA2 h λ_ _=>rfl
abbrev zbf:Stmt:=top 36
theorem xwy:FnScope ["road","point","points","turn"] ["road","point"] (ww zbf):=scA
theorem xzu:xy "least" zbf ["road","point"]:=λ_ _ _ _ _ _ _ h=>bA2 h λ_ _=>rfl
abbrev zbg:Stmt:=top 38
theorem qvr:FnScope ["road","row","steep","height","stretch","slope","left"] ["road","row"] (ww zbg):=scA
theorem qvn:xy "line_along" zbg ["road","row"]:=λ_ _ _ _ _ _ _ h=>bA2 h λ_ _=>rfl
abbrev zbh:Stmt:=top 39
theorem qzw:FnScope ["road","row","steep","height"] ["road","row"] (ww zbh):=scA
theorem qzx:xy "fixed_point" zbh ["road","row"]:=λ_ _ _ _ _ _ _ h=>bA2 h λ_ _=>rfl
abbrev zbi:Stmt:=top 40
theorem qwy:FnScope ["road","many","corners"] ["road","many"] (ww zbi):=scA
theorem qq8:xy "corners_back" zbi ["road","many"]:=λ_ _ _ _ _ _ _ h=>bA2 h λ_ _=>rfl
abbrev zbj:Stmt:=top 41
theorem wv8:FnScope ["point","stretches","top","bottom"] ["point","stretches"] (ww zbj):=scA
theorem wzm:xy "lies_in" zbj ["point","stretches"]:=λ_ _ _ _ _ _ _ h=>bA2 h λ_ _=>rfl
abbrev zbk:Stmt:=top 42
theorem xv2:FnScope ["road","many","closed","fixed","wholes","single","points"] ["road","many"] (ww zbk):=scA
theorem xkz:xy "back" zbk ["road","many"]:=λ_ _ _ _ _ _ _ h=>bA2 h λ_ _=>rfl
abbrev zbl:Stmt:=top 43
theorem qvu:FnScope ["road","length","points","wholes","thirds"] ["road","length"] (ww zbl):=scA
theorem qvm:xy "candidates" zbl ["road","length"]:=λ_ _ _ _ _ _ _ h=>bA2 h λ_ _=>rfl
abbrev zbm:Stmt:=top 44
theorem wzv:FnScope ["road","most"] ["road","most"] (ww zbm):=scA
theorem wzg:xy "lengths" zbm ["road","most"]:=λ_ _ _ _ _ _ _ h=>bA2 h λ_ _=>rfl
abbrev zbn:Stmt:=top 46
theorem qys:FnScope ["_law_script","_law_at"] ["_law_script","_law_at"] (ww zbn):=scA
theorem qyz:xy "_law_cell" zbn ["_law_script","_law_at"]:=λ_ _ _ _ _ _ _ h=>bA2 h λ_ _=>rfl
abbrev zbo:Stmt:=top 47
theorem wqq:FnScope ["_law_script","_law_at","_law_turn","_law_many","_law_cell_here","_law_left","_law_k","_law_low_here","_law_one","_law_two"] ["_law_script","_law_at","_law_turn","_law_many"] (ww zbo):=scA
theorem qyf:xy "_law_pick" zbo ["_law_script","_law_at","_law_turn","_law_many"]:=λ_ _ _ _ _ _ _ h=>bA4 h λ_ _ _ _=>rfl
abbrev zbp:Stmt:=top 48
theorem qvt:FnScope ["_law_script","_law_at","_law_wide","_law_row","_law_k"] ["_law_script","_law_at","_law_wide"] (ww zbp):=scA
theorem qv8:xy "_law_climb" zbp ["_law_script","_law_at","_law_wide"]:=λ_ _ _ _ _ _ _ h=>bA3 h λ_ _ _=>rfl
abbrev zbq:Stmt:=top 49
theorem qwk:FnScope ["_law_script","_law_at","_law_most","_law_wide","_law_kind"] ["_law_script","_law_at","_law_most"] (ww zbq):=scA
theorem qwz:xy "_law_heights" zbq ["_law_script","_law_at","_law_most"]:=λ_ _ _ _ _ _ _ h=>bA3 h λ_ _ _=>rfl
abbrev zbr:Stmt:=top 50
theorem qx9:FnScope ["_law_heights_here","_law_most","_law_wide","_law_found","_law_made","_law_turn","_law_fresh","_law_k","_law_low_here"] ["_law_heights_here","_law_most"] (ww zbr):=scA
theorem qzq:xy "_law_crowds" zbr ["_law_heights_here","_law_most"]:=λ_ _ _ _ _ _ _ h=>bA2 h λ_ _=>rfl
abbrev zbs:Stmt:=top 51
theorem qkb:FnScope ["_law_heights_here","_law_wish","_law_room","_law_crowds_here","_law_many"] ["_law_heights_here","_law_wish","_law_room"] (ww zbs):=scA
theorem qvs:xy "_law_times" zbs ["_law_heights_here","_law_wish","_law_room"]:=λ_ _ _ _ _ _ _ h=>bA3 h λ_ _ _=>rfl
abbrev zbt:Stmt:=top 52
theorem qvq:FnScope ["_law_one","_law_other"] ["_law_one","_law_other"] (ww zbt):=scA
theorem qxx:xy "_law_common" zbt ["_law_one","_law_other"]:=λ_ _ _ _ _ _ _ h=>bA2 h λ_ _=>rfl
abbrev zbu:Stmt:=top 53
theorem wxv:FnScope ["_law_top","_law_bottom","_law_by"] ["_law_top","_law_bottom"] (ww zbu):=scA
theorem ww8:xy "_law_low" zbu ["_law_top","_law_bottom"]:=λ_ _ _ _ _ _ _ h=>bA2 h λ_ _=>rfl
abbrev zbv:Stmt:=top 54
theorem qq9:FnScope ["_law_left","_law_right","_law_heights_here","_law_steps","_law_turn","_law_made","_law_k","_law_top","_law_point"] ["_law_left","_law_right","_law_heights_here"] (ww zbv):=scA
theorem qq7:xy "_law_between" zbv ["_law_left","_law_right","_law_heights_here"]:=λ_ _ _ _ _ _ _ h=>bA3 h λ_ _ _=>rfl
abbrev zbw:Stmt:=top 55
theorem qyj:FnScope ["_law_heights_here","_law_many","_law_corners","_law_turn","_law_made","_law_k"] ["_law_heights_here","_law_many"] (ww zbw):=scA
theorem qur:xy "_law_laid" zbw ["_law_heights_here","_law_many"]:=λ_ _ _ _ _ _ _ h=>bA2 h λ_ _=>rfl
abbrev zbx:Stmt:=top 56
theorem qv5:FnScope ["_law_left","_law_right","_law_one","_law_other","_law_part","_law_total","_law_ground","_law_way","_law_top"] ["_law_left","_law_right"] (ww zbx):=scA
theorem qkx:xy "_law_cross" zbx ["_law_left","_law_right"]:=λ_ _ _ _ _ _ _ h=>bA2 h λ_ _=>rfl
abbrev zby:Stmt:=top 57
theorem qzc:FnScope ["_law_point","_law_wholes","_law_k"] ["_law_point","_law_wholes"] (ww zby):=scA
theorem qz8:xy "_law_within" zby ["_law_point","_law_wholes"]:=λ_ _ _ _ _ _ _ h=>bA2 h λ_ _=>rfl
abbrev zbz:Stmt:=top 58
theorem qyk:FnScope ["_law_heights_here","_law_many","_law_corners","_law_wholes","_law_met","_law_k","_law_left","_law_right","_law_points","_law_point"] ["_law_heights_here","_law_many"] (ww zbz):=scA
theorem qy0:xy "_law_back" zbz ["_law_heights_here","_law_many"]:=λ_ _ _ _ _ _ _ h=>bA2 h λ_ _=>rfl
abbrev zb0:Stmt:=top 59
theorem qj0:FnScope ["_law_heights_here","_law_top","_law_bottom","_law_k"] ["_law_heights_here","_law_top","_law_bottom"] (ww zb0):=scA
theorem qyv:xy "_law_step" zb0 ["_law_heights_here","_law_top","_law_bottom"]:=λ_ _ _ _ _ _ _ h=>bA3 h λ_ _ _=>rfl
abbrev zb1:Stmt:=top 60
theorem qky:FnScope ["_law_heights_here","_law_point","_law_most","_law_top","_law_many"] ["_law_heights_here","_law_point","_law_most"] (ww zb1):=scA
theorem qv6:xy "_law_least" zb1 ["_law_heights_here","_law_point","_law_most"]:=λ_ _ _ _ _ _ _ h=>bA3 h λ_ _ _=>rfl
abbrev zb2:Stmt:=top 61
theorem quz:FnScope ["_law_heights_here","_law_many","_law_points","_law_wholes"] ["_law_heights_here","_law_many"] (ww zb2):=scA
theorem qub:xy "_law_some" zb2 ["_law_heights_here","_law_many"]:=λ_ _ _ _ _ _ _ h=>bA2 h λ_ _=>rfl
abbrev zb3:Stmt:=top 62
theorem qwc:FnScope ["_law_heights_here","_law_most","_law_made","_law_many","_law_point"] ["_law_heights_here","_law_most"] (ww zb3):=scA
theorem qq6:xy "_law_lengths" zb3 ["_law_heights_here","_law_most"]:=λ_ _ _ _ _ _ _ h=>bA2 h λ_ _=>rfl
abbrev zb4:Stmt:=top 63
theorem qvb:FnScope ["_law_found"] ["_law_found"] (ww zb4):=scA
theorem qvg:xy "_law_whole" zb4 ["_law_found"]:=λ_ _ _ _ _ _ _ h=>bA1 h λ_=>rfl
abbrev zb5:Stmt:=top 64
theorem qww:FnScope ["_law_found"] ["_law_found"] (ww zb5):=scA
theorem qq2:xy "_law_numbers" zb5 ["_law_found"]:=λ_ _ _ _ _ _ _ h=>bA1 h λ_=>rfl
abbrev zb6:Stmt:=top 65
theorem zes:FnScope ["_law_script","_law_heights_here","_law_wide","_law_corners","_law_most","_law_found","_law_due"] ["_law_script"] (ww zb6):=scA
local macro_rules | `(tactic| walk_at "sq")=>`(tactic| first | assumption | exact SqT.new | exact SqL.new | ((with_reducible refine Same.sqt (Same.upd (by assumption)) ?_);walk_at "sq") | ((with_reducible refine Same.sql (Same.upd (by assumption)) ?_);walk_at "sq"))
local macro_rules | `(tactic| walk_at "at")=>`(tactic| first | rfl | exact qw2 (by lia) (by lia))
local macro_rules | `(tactic| walk_at "mul")=>`(tactic| first | assumption | exact IntMulOk.of_left (intBits_le_64 (by lia) (by lia)) | exact IntMulOk.of_right (intBits_le_64 (by lia) (by lia)) | exact Sm.ok (by assumption) (by assumption) (by lia))
local macro_rules | `(tactic| walk_at "pos")=>`(tactic| first | lia | decide +kernel)
local macro_rules | `(tactic| walk_at "div")=>`(tactic| exact⟨by first | lia | decide +kernel,by unfold Sm;decide +kernel⟩)
local macro_rules | `(tactic| walk_at "loc")=>`(tactic| first | exact Or.inl rfl | exact Or.inr rfl)
local macro_rules | `(tactic| walk_at "cap")=>`(tactic| repeat (first | exact trivial | refine⟨rfl,?_⟩))
local macro_rules | `(tactic| walk_at "has")=>`(tactic| repeat (first | exact trivial | (refine⟨λz=>?_,(by lia),?_⟩;(first | exact⟨_,rfl⟩ | cases z))))
local macro_rules | `(tactic| walk_at "cix")=>`(tactic| repeat (first | exact trivial | refine⟨⟨_,_,rfl,rfl,rfl,rfl⟩,?_⟩))
local macro_rules | `(tactic| walk_at "hasK")=>`(tactic| repeat (first | exact trivial | (refine⟨λz=>?_,λz=>?_,?_⟩;(first | exact⟨_,rfl⟩ | cases z);(first | rfl | cases z))))
structure Txt (K:Aa)(mg:Str->Option Ag)(qh:Aj)(qx:Aj)(qg:Aj)(qf:Aj)(qm:Aj)(qp:Aj)(qy:Aj):Prop where
 len_:mg "len" = none
 abs_:mg "abs" = none
 range_:mg "range" = none
 isinstance_:mg "isinstance" = none
 int_:mg "int" = none
 bool_:mg "bool" = none
 list_:mg "list" = none
 min_:mg "min" = none
 max_:mg "max" = none
 all_:mg "all" = none
 any_:mg "any" = none
 sum_:mg "sum" = none
 sorted_:mg "sorted" = none
 zip_:mg "zip" = none
 tuple_:mg "tuple" = none
 zet:mg "BadLine" = some (.ref qh)
 zam:ExcC K qh
 zeu:mg "BadBottom" = some (.ref qx)
 zan:ExcC K qx
 zev:mg "OffRoad" = some (.ref qg)
 zao:ExcC K qg
 zew:mg "BadCount" = some (.ref qf)
 zap:ExcC K qf
 zem:mg "TooLong" = some (.ref qm)
 zai:ExcC K qm
 zex:mg "BadRow" = some (.ref qp)
 zaq:ExcC K qp
 cl:Cls K qy
 na:NoAttr K qy "heights"
 zad:∃t,mg "WIDEST" = some (.int 24 t)
 zey:mg "Road" = some (.ref qy)
 zae:∃t,mg "LONGEST_TRACE" = some (.int 1000 t)
 zab:∃t,mg "LONGEST_ROW" = some (.int 12 t)
 zaf:∃t,mg "MOST_WAYS" = some (.int 1000 t)
 zag:∃t,mg "MOST_WALKED" = some (.int 1000 t)
abbrev FK(P:Ac)(w:Ah)(K:Aa)(mg:Str->Option Ag)(base:Heap):=FnOk P w K mg base (CXE P w)
section
variable {P:Ac}{w:Ah}{K:Aa}{mg:Str->Option Ag}{base:Heap}{qh:Aj}{qx:Aj}{qg:Aj}{qf:Aj}{qm:Aj}{qp:Aj}{qy:Aj}
variable {f:Aj}{fd:Ad}(T:Txt K mg qh qx qg qf qm qp qy)
def qw3 (C:Aj):Sp:=λvs H Q E=>∃b:Int,vs=[.int b]/\(1<=b->Q .non H)/\(b<1->E (.ref C) none H)
include T in
theorem xq7 (F:Fun K "check_bottom" "check_bottom" zat f fd):FK P w K mg base 1 f fd ["bottom"] (qw3 qx):=by
 have D:=qwu;refine F.okX D (λvs H Q E h=>by obtain⟨_,rfl,_⟩:=h;rfl) λ_ _ _ _ H vs Q E J h=>?_;obtain⟨b,rfl,h1,h2⟩:=h;refine⟨_,(qr (zp (w8 Zf (pv 0) qv (xv _)) (qr (yh rfl T.zan jz rfl T.zeu (qw Zt qk))) xn)),?_⟩;refine exI rfl (wy rfl rfl (exI rfl ?_));refine jb (λz=>?_) (λz=>?_)
 .exact⟨⋯,h2 z⟩
 .exact h1 ⋯
include T in
theorem xky (F:Fun K "_law_cell" "_law_cell" zbn f fd):FK P w K mg base 1 f fd ["_law_script","_law_at"] (wzq K):=by
 have U:=qys;refine F.okX U (λvs H Q E h=>by obtain⟨_,_,_,rfl,_⟩:=h;rfl) λ_ _ _ _ H vs Q E Z h=>?_;obtain⟨a,ns,i,rfl,J,W,k⟩:=h;have D:(ns.map V.int).length=ns.length:=af _;refine⟨_,(qj (zp (w8 Zf (pv 1) (w5 xh rfl T.len_ bH (qw (pv 0) qk)) (xv _)) (qr (xx (wn xr (pv 0) (pv 1) (λ_ _=>rfl)))) xn)
   (qj (zp (w8 j8 (w5 xh rfl T.len_ bH (qw (pv 0) qk)) qv (xv _)) (qr (xx (q9 xj (q9 xq qv (pv 1)) qv))) xn)
   (qr (xx (q9 xj (wn xr (pv 0) (q9 yk (pv 1) (w5 xh rfl T.len_ bH (qw (pv 0) qk))) (λ_ _=>rfl)) (q9 xq qv (pv 1))))))),?_⟩
 refine exI rfl (exI rfl ⟨_,_,rfl,.inl J,wy rfl rfl (exI rfl ?_)⟩);refine jb (λz=>?_) (λz=>?_)
 .rw[D]at z;refine exI rfl (exI rfl (exX rfl rfl J (qw2 W z) ?_));exact k _ (by rw[wqs,aw z])
 .rw[D]at z;refine exI rfl ⟨_,_,rfl,.inl J,rfl,_,rfl,?_⟩;rw[D];refine jr (λL=>?_) (λL=>?_)
  .refine exI rfl (wy rfl rfl ⟨(by walk_at "mul"),wy rfl rfl ?_⟩);exact k _ (by rw[wqs,ar z,aw L])
  .refine exI rfl (exI rfl (exI rfl ⟨_,_,rfl,.inl J,wy rfl rfl ⟨(by rw[D];lia),?_⟩⟩));rw[D];refine exX rfl rfl J (qw2 (bY _ L) (bM _ ⋯)) (exI rfl (wy rfl rfl ⟨(by walk_at "mul"),wy rfl rfl ?_⟩));exact k _ (by rw[wqs,ar z,ar L])
include T in
theorem xv0 (F:Fun K "_law_pick" "_law_pick" zbo f fd)(zez:Cal P w K mg base "_law_cell" 1 (wzq K)):FK P w K mg base 2 f fd ["_law_script","_law_at","_law_turn","_law_many"] (Jh K):=by
 have Z:=wqq;refine F.okX Z (λvs H Q E h=>by obtain⟨_,_,_,_,_,rfl,_⟩:=h;rfl) λ_ _ _ _ H vs Q E hr h=>?_;obtain⟨a,ns,i,t,m,rfl,hS,h0,t0,t1,m0,k⟩:=h;refine⟨_,(qj (wg (i:=4) (wu zez (hr.mono ⋯) rfl q8 (qw (pv 0) (qw (pv 1) qk))))
   (qj (zp (w8 wkv (w5 W9 rfl T.abs_ Wr (qw (pv 4) qk)) (q9 op_pow qv qv) (xv _)) (qj (wg (i:=5) (w5 W9 rfl T.abs_ Wr (qw (pv 4) qk)))
   (qj (ky aV rfl (xg rfl T.range_ (qw (pv 2) qk)) (xz (i:=6)) (qr (wg (i:=5) (q9 jc (pv 5) qv))))
   (qj (zp (w8 Zf (pv 4) qv (xv _)) (qr (wg (i:=5) (q9 yk (pv 5) qv))) xn)
   (qr (xx (q9 yk (pv 5) (pv 3))))))) xn)
   (qj (wg (i:=7) (q9 yk (pv 4) qv))
   (qj (wg (i:=8) (q9 yk (q9 xj (q9 xj (q9 xq (pv 7) qv) (q9 xq (pv 2) qv)) qv) qv))
   (qj (wg (i:=9) (q9 yk (q9 xj (q9 xj (q9 xq (pv 8) (pv 8)) (q9 xq (pv 7) qv)) (q9 xq (pv 2) qv)) qv))
   (qr (xx (q9 yk (q9 yk (q9 xj (q9 xj (q9 xq (pv 9) (pv 9)) (q9 xq (pv 8) qv)) (q9 xq (pv 2) qv)) qv) (pv 3))))))))),?_⟩
 refine exI rfl (exI rfl ?_);refine⟨a,ns,i,rfl,hS,h0,λc hc=>?_⟩;have W:∀v,v=wqm c t%m->Q (.int v) H:=λv U=>by
  refine k v (by rw[U,www,hc]) ?_ ?_
  .rw[U];exact bY _ ⋯
  .rw[U];exact bM _ m0
 refine exI rfl (exI rfl (wy rfl rfl ⟨⟨⋯,⋯,⋯⟩,wy rfl rfl (exI rfl ?_)⟩));refine jb (λL=>?_) (λL=>?_)
 .have D:10 ^ 18<=Wz c:=L;refine exI rfl (exI rfl ?_);refine exI rfl ⟨t,rfl,⋯,⋯,vj (λj σ H1=>H1=H/\∃z,σ=[some (.ref a),some (.int i),some (.int t),some (.int m),some (.int c),some (.int (divs (Wz c) j)),z,none,none,none]) ⟨rfl,_,rfl⟩ ?_ ?_⟩
  .rintro j σ H1 hj ⟨rfl,z,rfl⟩;exact exI rfl (wy rfl rfl ⟨(by walk_at "div"),rfl,_,rfl⟩)
  .rintro σ H1 ⟨rfl,z,rfl⟩;refine exI rfl (wy rfl rfl (exI rfl ?_));refine jb (λJ=>?_) (λJ=>?_)
   .refine exI rfl (wy rfl rfl ⟨(by walk_at "pos"),exI rfl (exI rfl (wy rfl rfl ⟨(by walk_at "pos"),?_⟩))⟩);exact W _ (by rw[xz2 D J])
   .refine exI rfl (exI rfl (wy rfl rfl ⟨(by walk_at "pos"),?_⟩));exact W _ (by rw[wuc D J])
 .have D:¬ 10 ^ 18<=Wz c:=L;have l0:=bY c (show(1000003:Int)≠0 by decide);have l1:=bM c (show(0:Int)<1000003 by decide);refine exI rfl (wy rfl rfl ⟨(by walk_at "pos"),exI rfl (wy rfl rfl ⟨(by walk_at "mul"),exI rfl (wy rfl rfl ⟨(by walk_at "mul"),wy rfl rfl (wy rfl rfl (wy rfl rfl ⟨(by walk_at "pos"),?_⟩))⟩)⟩)⟩);have o0:0<=quv c t:=bY _ ⋯;have o1:quv c t<999983:=bM _ ⋯;refine⟨V.int (quv c t),rfl,V.int (quv c t),rfl,wy rfl rfl ⟨(by walk_at "mul"),exI rfl (wy rfl rfl ⟨(by walk_at "mul"),wy rfl rfl (exI rfl (wy rfl rfl ⟨(by walk_at "mul"),wy rfl rfl (wy rfl rfl ⟨(by walk_at "pos"),?_⟩)⟩))⟩)⟩⟩;have w0:0<=wxf c t:=bY _ ⋯;have w1:wxf c t<1000033:=bM _ ⋯;refine⟨V.int (wxf c t),rfl,V.int (wxf c t),rfl,wy rfl rfl ⟨(by walk_at "mul"),V.int (quv c t),rfl,wy rfl rfl ⟨(by walk_at "mul"),wy rfl rfl (exI rfl (wy rfl rfl ⟨(by walk_at "mul"),wy rfl rfl (wy rfl rfl ⟨(by walk_at "pos"),exI rfl (wy rfl rfl ⟨(by walk_at "pos"),?_⟩)⟩)⟩))⟩⟩⟩;exact W _ (by rw[xwz D])
def Within (n f:Int)(m:Option Int):Prop:=f<=n/\∀b,m=some b->n<=b
def Yn (C:Aj):Sp:=λvs H Q E=>∃(n f:Int) (m:V) (o:Option Int),vs=[.int n,.int f,m]/\(m=.non/\o=none\/∃b,m=.int b/\o=some b)/\(Within n f o->Q .non H)/\(¬ Within n f o->E (.ref C) none H)
include T in
theorem xw0 (F:FunD K "check_count" zak f fd):FK P w K mg base 1 f fd ["number","fewest","most"] (Yn qf):=by
 have D:=qzs;refine F.okX D (λvs H Q E h=>by obtain⟨_,_,_,_,rfl,_⟩:=h;rfl) λ_ _ _ _ H vs Q E W h=>?_;obtain⟨n,Z,m,o,rfl,U,k,x⟩:=h;refine⟨_,(qr (zp (PW.pt (qjk (w8 Zf (pv 0) (pv 1) (xv _)) (qqk (PW.pt (Zs (w8 wjp (pv 2) qxu (xv _)) (Qt (w8 Q9 (pv 0) (pv 2) (xv _)))))))) (qr (yh rfl T.zap jz rfl T.zew (qw Zt qk))) xn)),?_⟩;refine exI rfl (exI rfl (wy rfl rfl (exI rfl ?_)));refine jb (λL=>?_) (λL=>?_)
 .refine y9 ?_;exact⟨sz1,x (λz=>by have:=z.1;lia)⟩
 .rcases U with⟨rfl,rfl⟩|⟨b,rfl,rfl⟩
  .refine exI rfl ⟨rfl,_,rfl,?_⟩;refine uc ?_;exact k ⟨⋯,λb e=>nomatch e⟩
  .refine exI rfl ⟨rfl,_,rfl,?_⟩;refine y9 ?_;refine exI rfl (exI rfl (wy rfl rfl (exI rfl ?_)));refine jb (λJ=>?_) (λJ=>?_)
   .exact⟨sz1,x (λz=>by have:=z.2 b rfl;lia)⟩
   .exact k ⟨⋯,λb' e=>by cases e;lia⟩
def qt (ns:List Int):Prop:=2<=ns.length/\ns.length<=25/\∀h∈ns,0<=h/\h<=(ns.length:Int)-1
def qx6 (K:Aa):Sp:=λvs H Q _=>∃(p:Aj) (ns:List Int),vs=[.ref p]/\SqL K H p (ns.map V.int)/\(qt ns->Q (.bl true) H)/\(¬ qt ns->Q (.bl false) H)
include T in
theorem wv0 (F:Fun K "is_line" "is_line" zaw f fd):FK P w K mg base 1 f fd ["heights"] (qx6 K):=by
 have sc:=wzy;refine F.okX sc (λvs H Q E h=>by obtain⟨_,_,rfl,_⟩:=h;rfl) λ_ _ _ _ H vs Q E hr h=>?_;obtain⟨p,ns,rfl,L,k1,D⟩:=h;have ad:(ns.map V.int).length=ns.length:=af _;obtain⟨tw,Z⟩:=T.zad;refine⟨_,(qj (wg (i:=1) (q9 zd (w5 xh rfl T.len_ bH (qw (pv 0) qk)) qv))
   (qj (zp (PW.pt (qjk (w8 Zf (pv 1) qv (xv _)) (qqk (w8 Q9 (pv 1) (Zx (v:=V.int 24) rfl Z ⟨_,rfl⟩) (xv _))))) (qr (xx xxy)) xn)
   (qr (xx (qzz (Yv wkv (w5 (qkc rfl) rfl T.min_ dR (qw (pv 0) qk)) qv (xv _)) (qxr (Yv qz5 (w5 (qkv rfl) rfl T.max_ df (qw (pv 0) qk)) (pv 1) (xv _)))))))),?_⟩
 refine exI rfl ⟨_,_,rfl,.inl L,wy rfl rfl ?_⟩;refine exI rfl (wy rfl rfl (exI rfl ?_));rw[ad];refine jb (λq1=>?_) (λq1=>?_)
 .refine y9 ?_;exact D (λz=>by have:=z.1;lia)
 .refine exI rfl (wy rfl rfl (exI rfl ?_));refine jb (λq2=>?_) (λq2=>?_)
  .exact D (λz=>by have:=z.2.1;lia)
  .refine exI rfl ⟨p,ns,rfl,L,⋯,λm hm an=>(wy rfl rfl (exI rfl ?_))⟩;refine jb (λU=>?_) (λU=>?_)
   .refine exI rfl ⟨p,ns,rfl,L,⋯,λJ ab ah=>(exI rfl (wy rfl rfl ?_))⟩;show Q (.bl (decide (J<=(ns.length:Int)-1))) H;by_cases q4:J<=(ns.length:Int)-1
    .rw[aF q4];exact k1 ⟨⋯,⋯,λh W=>by have:=an h W;have:=ah h W;lia⟩
    .rw[aT q4];exact D (λz=>q4 (z.2.2 J ab).2)
   .exact D (λz=>U (z.2.2 m hm).1)
def RoadAt (C:Aj)(H:Hp)(r:Aj)(ns:List Int):Prop:=∃dx q,H r=some (.ins C dx [("heights",.ref q)])/\H q=some (.lst (ns.map V.int))
variable {C:Aj}{H H':Hp}
theorem RoadAt.same {r:Aj}{ns:List Int}(h:RoadAt C H r ns)(s:Same H H'):RoadAt C H' r ns:=by obtain⟨dx,q,h1,h2⟩:=h;exact⟨dx,q,s _ _ h1,s _ _ h2⟩
variable {q:Aj}
theorem yc:([("heights",V.ref q)]:List (Str×V)).lookup ("heights" : Str)=some (.ref q):=by rw[bv];simp
theorem xc {m:Str}(h:¬ m = "heights"):([("heights",V.ref q)]:List (Str×V)).lookup m=none:=by rw[bv];have:(m==("heights" : Str))=false:=cD.mpr h;rw[this];rfl
def qvz (K:Aa)(CB C:Aj):Sp:=λvs H Q E=>∃(r dx p:Aj) (ns:List Int),vs=[.ref r,.ref p]/\H r=some (.ins C dx [])/\SqL K H p (ns.map V.int) /\
 (qt ns->∀H' q,H q=none->(∀b o,H b=some o->b≠r->H' b=some o)->H' r=some (.ins C dx [("heights",.ref q)])->H' q=some (.lst (ns.map V.int))->Q .non H')/\(¬ qt ns->E (.ref CB) none H)
include T in
theorem xk6 (F:Fun K "__init__" "Road.__init__" zax f fd)(ze0:Cal P w K mg base "is_line" 1 (qx6 K)):FK P w K mg base 2 f fd ["self","heights"] (qvz K qh qy):=by
 have L:=qqc;refine F.okX L (λvs H Q E h=>by obtain⟨_,_,_,_,rfl,_⟩:=h;rfl) λ_ _ _ _ H vs Q E Z h=>?_;obtain⟨r,dx,p,ns,rfl,D,J,k,x⟩:=h;refine⟨_,(qj (zp (wvg (wzj (wu ze0 (Z.mono ⋯) rfl q8 (qw (pv 1) qk)))) (qr (yh rfl T.zam jz rfl T.zet (qw Zt qk))) xn)
   (qr (ps_fld (pv 0) (Zw Qn rfl T.list_ cK (qw (pv 1) qk)) rfl))),?_⟩
 refine⟨_,rfl,p,ns,rfl,J,λU=>(exI rfl ?_),λab=>(exI rfl ?_)⟩
 .refine uc ?_;refine exI rfl ⟨_,_,rfl,.inl J,λq z=>?_⟩;have W:upd H q (.lst (ns.map V.int)) r=some (.ins qy dx []):=by rw[wx (wj D z)];exact D
  refine exI rfl ⟨r,qy,dx,[],rfl,W,T.cl,T.na,(by show 0<1000;decide),?_⟩;refine k U _ q z (λb o e n=>?_) qu ?_
  .rw[wx n,wx (wj e z)];exact e
  .rw[wx (wj D z).symm,qu]
 .refine y9 ?_;exact⟨sz1,x ab⟩
def j6 (C:Aj):Sp:=λvs H Q _=>∃(r:Aj) (ns:List Int),vs=[.ref r]/\RoadAt C H r ns/\Q (.int ((ns.length:Int)-1)) H
include T in
theorem xz8 (F:Fun K "width" "Road.width" zay f fd):FK P w K mg base 1 f fd ["self"] (j6 qy):=by have z:=qkd;refine F.okX z (λvs H Q E h=>by obtain⟨_,_,rfl,_⟩:=h;rfl) λ_ _ _ _ H vs Q E D h=>?_;obtain⟨r,ns,rfl,⟨dx,q,h1,h2⟩,k⟩:=h;refine⟨_,(qr (xx (q9 zd (w5 xh rfl T.len_ bH (qw (qj6 (pv 0) rfl) qk)) qv))),?_⟩;refine exI rfl ⟨r,qy,dx,_,_,rfl,h1,T.cl,T.na,yc,q,exI rfl ⟨.inl (SqL.of h2),wy rfl rfl ?_⟩⟩;rw[af];exact k
def Jr (C:Aj):Sp:=λvs H Q _=>∃(r:Aj) (ns:List Int),vs=[.ref r]/\RoadAt C H r ns/\∀p,H p=none->Q (.ref p) (upd H p (.lst (ns.map V.int)))
include T in
theorem wzk (F:Fun K "corners" "Road.corners" zaz f fd):FK P w K mg base 1 f fd ["self"] (Jr qy):=by have z:=qwj;refine F.okX z (λvs H Q E h=>by obtain⟨_,_,rfl,_⟩:=h;rfl) λ_ _ _ _ H vs Q E D h=>?_;obtain⟨r,ns,rfl,⟨dx,q,h1,h2⟩,k⟩:=h;refine⟨_,(qr (xx (Zw Qn rfl T.list_ cK (qw (qj6 (pv 0) rfl) qk)))),?_⟩;exact exI rfl ⟨r,qy,dx,_,_,rfl,h1,T.cl,T.na,yc,q,exI rfl ⟨.inl (SqL.of h2),λp np=>k p np⟩⟩
def InW (ns:List Int)(wd:Int):Prop:=(ns.length:Int)=wd+1/\∀h∈ns,0<=h/\h<=wd
def qwm (K:Aa):Sp:=λvs H Q _=>∃(a:Aj) (ns:List Int) (i wd:Int),vs=[.ref a,.int i,.int wd]/\SqL K H a (ns.map V.int)/\0<=i/\1<=wd/\wd<=24 /\
 ∀p hs,H p=none->InW hs wd->Q (.ref p) (upd H p (.lst (hs.map V.int)))
include T in
theorem xvg (F:Fun K "_law_climb" "_law_climb" zbp f fd)(zac:Cal P w K mg base "_law_pick" 2 (Jh K)):FK P w K mg base 3 f fd ["_law_script","_law_at","_law_wide"] (qwm K):=by
 have sc:=qvt;refine F.okX sc (λvs H Q E h=>by obtain⟨_,_,_,_,rfl,_⟩:=h;rfl) λ_ _ _ _ H vs Q E W h=>?_;obtain⟨a,ns,i,D,rfl,Z,h0,w1,w2,k⟩:=h;refine⟨_,(qj (wg (i:=3) (vt (qw (wu zac (W.mono ⋯) rfl q8 (qw (pv 0) (qw (pv 1) (qw qv (qw (q9 xj (pv 2) qv) qk))))) qk)))
   (qj (ky aV rfl (xg rfl T.range_ (qw (pv 2) qk)) (xz (i:=4)) (qr (vg (Zd bK bN bO vn (pv 3) (qw (w5 (Zz rfl) rfl T.max_ df (qw qv (qw (w5 (Zv rfl) rfl T.min_ dR (qw (pv 2) (qw (q9 zd (q9 xj (wn xr (pv 3) (Q6 yj qv) (λ_ _=>rfl)) (q9 xq qv (wu zac (W.mono ⋯) rfl q8 (qw (pv 0) (qw (pv 1) (qw (q9 xj qv (pv 4)) (qw qv qk))))))) qv) qk))) qk))) qk)))))
   (qr (xx (pv 3))))),?_⟩
 refine exI rfl (exI rfl (exI rfl (wy rfl rfl ⟨a,ns,_,_,_,rfl,Z,h0,⋯,⋯,⋯,λr1 _ l1 u1=>⟨sz1,λp np=>?_⟩⟩)));refine⟨_,rfl,D,rfl,⋯,⋯,vj (λj σ H1=>∃(ys:List Int) (l:Int) (z:Option V),ys.length=j/\(∀h∈ys++[l],0<=h/\h<=D)/\H1=upd H p (.lst ((ys++[l]).map V.int))/\σ=[some (.ref a),some (.int i),some (.int D),some (.ref p),z])
  ⟨[],r1,none,rfl,(λh J=>by have e:=aM.mp J;subst e;lia),rfl,rfl⟩ ?_ ?_⟩
 .rintro j σ H1 hj ⟨ys,l,z,hy,hb,rfl,rfl⟩;have U:upd H p (.lst ((ys++[l]).map V.int)) p=some (.lst ((ys++[l]).map V.int)):=qu;have ad:SqL K (upd H p (.lst ((ys++[l]).map V.int))) a (ns.map V.int):=Same.sql (Same.upd np) Z;have ab:atI ((ys++[l]).map V.int) (-1)=some (V.int l):=by rw[aK];exact Wj _ _
  have hl:=hb l (by simp);refine exI rfl ⟨.inl ⟨rfl,_,SqL.of U⟩,exI rfl (exI rfl (exI rfl (exX rfl rfl (SqL.of U) ab (exI rfl (exI rfl (exI rfl (wy rfl rfl ⟨a,ns,_,_,_,rfl,ad,h0,⋯,⋯,⋯,λL _ l2 u2=>?_⟩)))))))⟩;refine wy rfl rfl ⟨(by walk_at "mul"),wy rfl rfl (wy rfl rfl ⟨_,_,rfl,_,_,rfl,_,_,_,rfl,rfl,U,?_,?_⟩)⟩
  .rw[af,au,hy];have:(1000000:Nat)<sizeLine:=by decide
   simp only[aJ,da];lia
  .refine⟨ys++[l],(if(if l+2*L-1<D then l+2*L-1 else D)>0 then(if l+2*L-1<D then l+2*L-1 else D) else 0),_,by rw[au,hy];rfl,λh J=>?_,?_,rfl⟩
   .rcases aW.mp J with J|J
    .exact hb h J
    .have e:=aM.mp J;subst e;by_cases g1:l+2*L-1<D
     .rw[aw g1];by_cases g2:l+2*L-1>0
      .rw[aw g2];lia
      .rw[ar g2];lia
     .rw[ar g1,aw (show D>0 by lia)];lia
   .rw[qu2,aK (l₁:=ys++[l])];rfl
 .rintro σ H1 ⟨ys,l,z,hy,hb,rfl,rfl⟩;refine exI rfl (k p _ np ⟨?_,hb⟩);rw[au,hy];simp only[aJ,da];lia
def Jw (K:Aa):Sp:=λvs H Q _=>∃(a:Aj) (ns:List Int) (i m:Int),vs=[.ref a,.int i,.int m]/\SqL K H a (ns.map V.int)/\0<=i/\1<=m/\m<=24 /\
 ∀p hs wd,H p=none->1<=wd->wd<=m->InW hs wd->Q (.ref p) (upd H p (.lst (hs.map V.int)))
variable {n:Nat}
theorem wuf {wd:Int}(g:Nat->Int)(h1:(n:Int)=wd+1)(h2:∀i,i<n->0<=g i/\g i<=wd):InW ((List.range n).map g) wd:=by refine⟨by rw[af,ay];exact h1,λh z=>?_⟩;obtain⟨i,hi,rfl⟩:=az.mp z;exact h2 i (al.mp hi)
theorem qku (n:Nat)(g:Nat->Int):(List.range n).map (λi=>V.int (g i))=((List.range n).map g).map V.int:=by rw[aN];rfl
include T in
theorem wz6 (F:Fun K "_law_heights" "_law_heights" zbq f fd)(zac:Cal P w K mg base "_law_pick" 2 (Jh K))(ze1:Cal P w K mg base "_law_climb" 3 (qwm K)) :
  FK P w K mg base 4 f fd ["_law_script","_law_at","_law_most"] (Jw K):=by
 have sc:=qwk;refine F.okX sc (λvs H Q E h=>by obtain⟨_,_,_,_,rfl,_⟩:=h;rfl) λ_ _ _ _ H vs Q E W h=>?_;obtain⟨a,ns,i,m,rfl,Z,h0,m1,m2,k⟩:=h;refine⟨_,(qj (wg (i:=3) (q9 xj qv (wu zac (W.mono ⋯) rfl q8 (qw (pv 0) (qw (pv 1) (qw qv (qw (pv 2) qk)))))))
   (qj (wg (i:=4) (wu zac (W.mono ⋯) rfl q8 (qw (pv 0) (qw (pv 1) (qw qv (qw qv qk))))))
   (qj (zp (w8 j8 (pv 4) qv (xv _)) (qr (xx (zr (M:=[3]) rfl rfl (by walk_at "cap") (by walk_at "has") (by walk_at "cix") rfl (by decide +kernel) rfl (show List.Nodup (["_law_k","_law_wide"]:List Str) by decide +kernel) (xg rfl T.range_ (qw (q9 xj (pv 3) qv) qk)) (λ_ _ _ _ _=>(q9 xq (pv 1) (q9 yk (pv 0) qv)))))) xn)
   (qj (zp (w8 j8 (pv 4) qv (xv _)) (qr (xx (zr (M:=[]) rfl rfl (by walk_at "cap") (by walk_at "has") (by walk_at "cix") rfl (by decide +kernel) rfl (show List.Nodup (["_law_k"]:List Str) by decide +kernel) (xg rfl T.range_ (qw (q9 xj (pv 3) qv) qk)) (λ_ _ _ _ _=>(pv 0))))) xn)
   (qj (zp (w8 j8 (pv 4) qv (xv _)) (qr (xx (zr (M:=[3]) rfl rfl (by walk_at "cap") (by walk_at "has") (by walk_at "cix") rfl (by decide +kernel) rfl (show List.Nodup (["_law_k","_law_wide"]:List Str) by decide +kernel) (xg rfl T.range_ (qw (q9 xj (pv 3) qv) qk)) (λ_ _ _ _ _=>(q9 zd (pv 1) (pv 0)))))) xn)
   (qj (zp (w8 j8 (pv 4) qv (xv _)) (qr (xx (zr (M:=[3]) rfl rfl (by walk_at "cap") (by walk_at "has") (by walk_at "cix") rfl (by decide +kernel) rfl (show List.Nodup (["_law_k","_law_wide"]:List Str) by decide +kernel) (xg rfl T.range_ (qw (q9 xj (pv 3) qv) qk)) (λ_ _ _ _ _=>(q9 yk (q9 xj (q9 xq qv (pv 0)) qv) (q9 xj (pv 1) qv)))))) xn)
   (qj (zp (PW.pt (qjk (w8 j8 (pv 4) qv (xv _)) (qqk (w8 j8 (pv 4) qv (xv _))))) (qr (xx (wu ze1 (W.mono ⋯) rfl q8 (qw (pv 0) (qw (pv 1) (qw (pv 3) qk)))))) xn)
   (qr (xx (zr (M:=[0,1,3]) rfl rfl (by walk_at "cap") (by walk_at "has") (by walk_at "cix") rfl (by decide +kernel) rfl (show List.Nodup (["_law_k","_law_script","_law_at","_law_wide"]:List Str) by decide +kernel) (xg rfl T.range_ (qw (q9 xj (pv 3) qv) qk)) (λ_ _ _ _ _=>(wu zac (W.mono ⋯) rfl Wc (qw (pv 1) (qw (pv 2) (qw (q9 xj qv (pv 0)) (qw (q9 xj (pv 3) qv) qk)))))))))))))))),?_⟩
 refine exI rfl (exI rfl (exI rfl ⟨a,ns,_,_,_,rfl,Z,h0,⋯,⋯,⋯,λz _ l1 u1=>?_⟩));refine wy rfl rfl (exI rfl (exI rfl ⟨a,ns,_,_,_,rfl,Z,h0,⋯,⋯,⋯,λkd _ l2 u2=>?_⟩));have hn:((1+z+1).toNat:Int)=1+z+1:=by lia
 have L:(1+z+1).toNat<=1000000:=by lia
 have U:∀(g:Nat->Int) (p:Aj),(∀j,j<(1+z+1).toNat->0<=g j/\g j<=1+z)->H p=none->Q (.ref p) (upd H p (.lst ((List.range (1+z+1).toNat).map λj=>V.int (g j)))):=λg p hg np=>by rw[qku];exact k p _ (1+z) np ⋯ ⋯ (wuf g hn hg)
 refine exI rfl ⟨rfl,_,rfl,jr (λq1=>?_) (λq1=>?_)⟩
 .refine exI rfl (wy rfl rfl ⟨1+z+1,rfl,⋯,⋯,v9 (λj=>V.int ((1+z)*(((0:Int)+j)%2))) L (λj H' R D hs J=>?_) λp np=>U _ p (λj D=>?_) np⟩)
  .exact exI rfl (exI rfl (wy rfl rfl ⟨(by walk_at "pos"),wy rfl rfl ⟨(by walk_at "mul"),J⟩⟩))
  .have a1:=bY ((0:Int)+j) (show(2:Int)≠0 by decide);have a2:=bM ((0:Int)+j) (show(0:Int)<2 by decide);rcases(by lia:((0:Int)+j)%2=0\/((0:Int)+j)%2=1) with e|e <;> rw[e] <;> lia
 .refine exI rfl ⟨rfl,_,rfl,jr (λq2=>?_) (λq2=>?_)⟩
  .refine exI rfl (wy rfl rfl ⟨1+z+1,rfl,⋯,⋯,v9 (λj=>V.int ((0:Int)+j)) L (λj H' R D hs J=>?_) λp np=>U _ p (λj D=>by lia) np⟩);exact exI rfl J
  .refine exI rfl ⟨rfl,_,rfl,jr (λq3=>?_) (λq3=>?_)⟩
   .refine exI rfl (wy rfl rfl ⟨1+z+1,rfl,⋯,⋯,v9 (λj=>V.int (1+z-((0:Int)+j))) L (λj H' R D hs J=>?_) λp np=>U _ p (λj D=>by lia) np⟩);exact exI rfl (exI rfl (wy rfl rfl J))
   .refine exI rfl ⟨rfl,_,rfl,jr (λq4=>?_) (λq4=>?_)⟩
    .refine exI rfl (wy rfl rfl ⟨1+z+1,rfl,⋯,⋯,v9 (λj=>V.int ((2*((0:Int)+j)+1)%(1+z+1))) L (λj H' R D hs J=>?_) λp np=>U _ p (λj D=>?_) np⟩)
     .exact exI rfl (wy rfl rfl ⟨(by walk_at "mul"),wy rfl rfl (exI rfl (wy rfl rfl (wy rfl rfl ⟨(by walk_at "pos"),J⟩)))⟩)
     .have a1:=bY (2*((0:Int)+j)+1) (show 1+z+1≠0 by lia);have a2:=bM (2*((0:Int)+j)+1) (show 0<1+z+1 by lia);lia
    .have ad:tRet (wjf [0,1,3] (iRng1 (uj (tOp (rI0 λi j=>.int (i+j)) (yd 3) (tC (.int 1))) qxd)) (qu6 (Jh K) (λ_=>E0) (uj (yd 1) (uj (yd 2) (uj (tOp (rI0 λi j=>.int (i+j)) (tC (.int 3)) (yd 0)) (uj (tOp (rI0 λi j=>.int (i+j)) (yd 3) (tC (.int 1))) qxd))))))
       { nx:=λ_ H'=>Q .non H',rt:=Q } [some (.ref a),some (.int i),some (.int m),some (.int (1+z)),some (.int kd)] H:=by
      refine exI rfl (wy rfl rfl ⟨1+z+1,rfl,⋯,⋯,v9 (λj=>V.int (www ns i (3+((0:Int)+j)) (1+z+1))) L (λj H' R D hs J=>?_) λp np=>U _ p (λj D=>?_) np⟩)
      .refine exI rfl (exI rfl (exI rfl (wy rfl rfl (exI rfl (wy rfl rfl ⟨a,ns,_,_,_,rfl,Same.sql hs Z,h0,⋯,⋯,⋯,λr e _ _=>?_⟩)))));rw[e];exact J
      .have a1:=xz5 ns i (3+((0:Int)+j)) (1+z+1) ⋯;have a2:=xwu ns i (3+((0:Int)+j)) (1+z+1) ⋯;lia
     have ab:tRet (qu6 (qwm K) (λ_=>E) (uj (yd 0) (uj (yd 1) (uj (yd 3) qxd)))) { nx:=λ_ H'=>Q .non H',rt:=Q } [some (.ref a),some (.int i),some (.int m),some (.int (1+z)),some (.int kd)] H :=
      (exI rfl (exI rfl (exI rfl ⟨a,ns,i,1+z,rfl,Z,h0,⋯,⋯,λp hs np hw=>k p hs (1+z) np ⋯ ⋯ hw⟩)))
     refine exI rfl ⟨rfl,_,rfl,jr (λq5=>y9 ab) (λq5=>?_)⟩;exact exI rfl ⟨rfl,_,rfl,jr (λq6=>ab) (λq6=>ad)⟩
def wqz:Sp:=λvs H Q _=>∃i:Int,vs=[.int i]/\Q (.bl true) H
include T in
theorem xvs (F:Fun K "_law_whole" "_law_whole" zb4 f fd):FK P w K mg base 1 f fd ["_law_found"] wqz:=by have z:=qvb;refine F.okX z (λvs H Q E h=>by obtain⟨_,rfl,_⟩:=h;rfl) λ_ _ _ _ H vs Q E D h=>?_;obtain⟨i,rfl,k⟩:=h;refine⟨_,(qr (xx (qzz (w5 Wg rfl T.isinstance_ eL (qw (pv 0) (qw (qym (v:=V.ty "int") rfl T.int_ PyProof.Rows.boot_int rfl) qk))) (qxr (pe_not (w5 Wg rfl T.isinstance_ eL (qw (pv 0) (qw (qym (v:=V.ty "bool") rfl T.bool_ PyProof.Rows.boot_bool rfl) qk)))))))),?_⟩;refine exI rfl ⟨_,_,_,_,rfl,TyOf.int i,rfl,_,rfl,?_⟩;refine y9 ?_;refine exI rfl ⟨_,_,_,_,rfl,TyOf.int i,rfl,_,rfl,?_⟩;exact k
def Jj (K:Aa):Sp:=λvs H Q _=>∃(p:Aj) (ns:List Int),vs=[.ref p]/\H p=some (.lst (ns.map V.int))/\ns.length<=1000/\∀H',Same H H'->Q (.bl true) H'
theorem xq4 (ns:List Int):(ns.map λ_=>true).all id=true:=by
 induction ns with
 |nil=>rfl
 |cons a r ih=>rw[aC,jR,ih];rfl
include T in
theorem wv1 (F:Fun K "_law_numbers" "_law_numbers" zb5 f fd)(ze2:Cal P w K mg base "_law_whole" 1 wqz):FK P w K mg base 2 f fd ["_law_found"] (Jj K):=by
 have J:=qww;refine F.okX J (λvs H Q E h=>by obtain⟨_,_,rfl,_⟩:=h;rfl) λ_ _ _ _ H vs Q E W h=>?_;obtain⟨p,ns,rfl,z,hn,k⟩:=h;have D:SqL K H p (ns.map V.int):=SqL.of z;refine⟨_,(qr (xx (qzz (w5 Wg rfl T.isinstance_ eL (qw (pv 0) (qw (qym (v:=V.ty "list") rfl T.list_ cK rfl) qk))) (qxr (w5 (qv1 rfl) rfl T.all_ xq9 (qw (zr (M:=[]) rfl rfl (by walk_at "cap") (by walk_at "has") (by walk_at "cix") rfl (by decide +kernel) rfl (show List.Nodup (["_law_number"]:List Str) by decide +kernel) (zc (pv 0)) (λ_ _ _ _ _=>(wu ze2 (W.mono ⋯) rfl Wc (qw (pv 0) qk)))) qk)))))),?_⟩;refine exI rfl ⟨_,_,_,_,rfl,TyOf.lst z,rfl,_,rfl,?_⟩;refine y9 ?_;refine exI rfl ⟨p,rfl,⟨_,D⟩,?_⟩;refine Qv (K:=K) (M:=[]) (a:=p) (xs:=ns.map V.int) (λ_=>V.bl true) D (by rw[af];lia) (λx H' R U hs Z=>?_) λq L=>?_
 .obtain⟨i,_,rfl⟩:=az.mp U;exact exI rfl ⟨i,rfl,Z⟩
 .have e:(ns.map V.int).map (λ_=>V.bl true)=(ns.map λ_=>true).map V.bl:=by rw[aN,aN];rfl
  rw[e];refine⟨q,ns.map λ_=>true,rfl,SqL.new,?_⟩;rw[xq4];exact k _ (Same.upd L)
def qjv:Sp:=λvs H Q _=>∃x y:Int,vs=[.int x,.int y]/\0<=x/\0<=y/\Q (.int (qq5 x y)) H
variable {x y:Int}
theorem wxc {tb:TS}{c:TT}{D:Ends}(hx:0<=x)(hy:0<=y)(hc:c=xvc (tOp (rI0 λi j=>.bl (decide (j<i))) (yd 1) (tC (.int 0))))(hb:tb=tPar 0 1 (uj (yd 1) (uj (tOp (rI (λ_ j=>0<j) λi j=>.int (i%j)) (yd 0) (yd 1)) qxd)))
  (hD:D.nx [some (.int (qq5 x y)),some (.int 0)] H):wx8 c tb D [some (.int x),some (.int y)] H:=by
 subst hc hb;refine Wb (λσ H1=>H1=H/\∃u v:Int,σ=[some (.int u),some (.int v)]/\0<=u/\0<=v/\qq5 u v=qq5 x y) (λσ _=>match σ with|[_,some (.int v)]=>v.toNat|_=>0) ⟨rfl,x,y,rfl,hx,hy,rfl⟩ ?_ λσ H Q Q' h ⟨v,e,i,j,e1,e2,k,e3,q⟩=>⟨v,e,i,j,e1,e2,k,e3,h _ _ q⟩;rintro σ H1 ⟨rfl,u,v,rfl,hu,hv,e⟩;refine exI rfl (wy rfl rfl (exI rfl ?_));refine jb (λq=>?_) (λq=>?_)
 .have h1:=bY u (show v≠0 by lia);have h2:=bM u q;refine exI rfl (exI rfl (exI rfl (wy rfl rfl ⟨q,_,_,rfl,⟨rfl,v,u%v,rfl,hv,h1,?_⟩,?_⟩)))
  .rw[wyc hu q,e]
  .show(u%v).toNat<v.toNat;lia
 .have z:v=0:=by lia
  subst z;rw[xqr hu]at e;subst e;exact hD
include T in
theorem ze3 (F:Fun K "common_divisor" "common_divisor" zau f fd):FK P w K mg base 1 f fd ["one","other"] qjv:=by
 have z:=Yu;refine F.okX z (λvs H Q E h=>by obtain⟨_,_,rfl,_⟩:=h;rfl) λ_ _ _ _ H vs Q E L h=>?_;obtain⟨x,y,rfl,J,D,k⟩:=h;refine⟨_,(qj (u7 aV (w8 Q9 (pv 1) qv (xv _)) (qr (xzq (i:=0) (j:=1) rfl z.nd rfl rfl ⋯ rfl rfl (qw (pv 1) (qw (q9 yk (pv 0) (pv 1)) qk)) rfl)))
   (qr (xx (pv 0)))),?_⟩
 exact wxc J D rfl rfl (exI rfl k)
include T in
theorem xqd (F:Fun K "_law_common" "_law_common" zbt f fd):FK P w K mg base 1 f fd ["_law_one","_law_other"] qjv:=by
 have z:=qvq;refine F.okX z (λvs H Q E h=>by obtain⟨_,_,rfl,_⟩:=h;rfl) λ_ _ _ _ H vs Q E L h=>?_;obtain⟨x,y,rfl,J,D,k⟩:=h;refine⟨_,(qj (u7 aV (w8 Q9 (pv 1) qv (xv _)) (qr (xzq (i:=0) (j:=1) rfl z.nd rfl rfl ⋯ rfl rfl (qw (pv 1) (qw (q9 yk (pv 0) (pv 1)) qk)) rfl)))
   (qr (xx (pv 0)))),?_⟩
 exact wxc J D rfl rfl (exI rfl k)
def ptV (p:Int×Int):List V:=[.int p.1,.int p.2]
def Wp (C:Aj):Sp:=λvs H Q E=>∃t b:Int,vs=[.int t,.int b]/\(1<=b->Sm 9000 b/\∀p,H p=none->Q (.ref p) (upd H p (.tup (ptV (wv t b)))))/\(b<1->E (.ref C) none H)
include T in
theorem wu6 (F:Fun K "lowest" "lowest" zav f fd)(zb7:Cal P w K mg base "check_bottom" 1 (qw3 qx))(ze4:Cal P w K mg base "common_divisor" 1 qjv) :
  FK P w K mg base 2 f fd ["top","bottom"] (Wp qx):=by
 have J:=wu0;refine F.okX J (λvs H Q E h=>by obtain⟨_,_,rfl,_⟩:=h;rfl) λ_ _ _ _ H vs Q E D h=>?_;obtain⟨t,b,rfl,k,x⟩:=h;refine⟨_,(qj (vg (wu zb7 (D.mono ⋯) rfl q8 (qw (pv 1) qk)))
   (qj (wg (i:=2) (wu ze4 (D.mono ⋯) rfl q8 (qw (w5 W9 rfl T.abs_ Wr (qw (pv 0) qk)) (qw (pv 1) qk))))
   (qr (xx (vy (qw (q9 jc (pv 0) (pv 2)) (qw (q9 jc (pv 1) (pv 2)) qk))))))),?_⟩
 refine⟨_,rfl,b,rfl,λz=>?_,λz=>x z⟩;obtain⟨L,k⟩:=k z;have U:=yb (t:=t) z;have hs:Sm 9000 (gOf t b):=L.of_le (by have:=xx9 (t:=t) z;lia);refine exI rfl (exI rfl (exI rfl ⟨Wz t,b,rfl,wks t,⋯,?_⟩));refine exI rfl ⟨V.int (gOf t b),rfl,wy rfl rfl ⟨⟨⋯,hs⟩,exI rfl ⟨V.int (gOf t b),rfl,wy rfl rfl ⟨⟨⋯,hs⟩,sz2,λp n=>?_⟩⟩⟩⟩;exact k p n
variable {hs:List Int}
theorem xjh {wd:Int}(h:InW hs wd)(w1:1<=wd)(w2:wd<=24):qt hs:=by refine⟨by have:=h.1;lia,by have:=h.1;lia,λx hx=>?_⟩;have h1:=h.1;have h2:=h.2 x hx;lia
theorem xqu {x dx:Aj}(nx:H x=none)(nd:H dx=none)(h:∀b o,upd (upd H dx (.own x)) x (.ins C dx []) b=some o->b≠x->H' b=some o):Same H H':=λb o e =>
 h b o (by rw[wx (wj e nx),wx (wj e nd)];exact e) (wj e nx)
variable {o:HO}
theorem Same.upd2 {p:Aj}(s:Same H H')(n:H p=none):Same H (L2.upd H' p o):=λb u e=>by rw[wx (wj e n)];exact s b u e
theorem qkr {p:Aj}{q:Int×Int}(h:SqT K H p [.int q.1,.int q.2]):RD K H (ptD q) (.ref p):=by unfold ptD;rw[RD];exact⟨p,exI rfl ⟨h,by rw[RDs];exact⟨_,_,rfl,by rw[RD],by rw[RDs];exact⟨_,_,rfl,by rw[RD],by rw[RDs]⟩⟩⟩⟩
variable {p:Int×Int}
theorem wvt {q:Int×Int}:min (ptD p).depth (ptD q).depth<=60:=by simp[ptD,PyData.depth,PyData.depthAll]
variable {b:Int}
theorem yq {d:Int}(hb:1<=b)(hd:1<=d):x*d=y*b↔wv x b=wv y d:=by
 constructor
 .intro e;rw[<-Qm (t:=x) hb hd,e,bj b d,Qm hd hb]
 .intro e;have D:=zu (t:=x) hb;have z:=zu (t:=y) hd;have L:=zx (t:=x) hb;rw[<-e]at z;have h:x*d*(wv x b).2=y*b*(wv x b).2:=by
   have J:x*d*(wv x b).2=x*(wv x b).2*d:=by grind
   have F:y*b*(wv x b).2=y*(wv x b).2*b:=by grind
   rw[J,F,<-D,<-z];grind
  exact dO ⋯ h
theorem wjg {CB:Aj}{p x dx:Aj}{Pp:Hp->Prop}{E:XK}(f:H p=some (.lst (hs.map V.int)))(nx:H x=none)(nd:H dx=none)(k:qt hs->∀H',Same H H'->RoadAt C H' x hs->Pp H')(bad:¬ qt hs->∀H',Same H H'->E (.ref CB) none H') :
  qvz K CB C [.ref x,.ref p] (upd (upd H dx (.own x)) x (.ins C dx [])) (λr H2=>r=.non/\Pp H2) E:=by
 refine⟨x,dx,p,hs,rfl,qu,SqL.of (by rw[wx (wj f nx),wx (wj f nd)];exact f),λD J q L F r l=>⟨rfl,k D J (xqu nx nd F) ⟨dx,q,r,l⟩⟩,λz=>bad z _ ?_⟩;exactλb o e=>by rw[wx (wj e nx),wx (wj e nd)];exact e
def wp (hs:List Int):List Int:=hs.map (λh=>(hs.length:Int)-1+1+h)++(List.range hs.length).map λk:Nat=>(0:Int)+k
theorem jg (hs:List Int):(wp hs).length=hs.length+hs.length:=by unfold wp;rw[au,af,af,ay]
theorem xjg (h:qt hs):qt (wp hs)↔2*hs.length<=25:=by
 constructor
 .intro z;have:=z.2.1;rw[jg]at this;lia
 .intro z;have h1:=h.1;refine⟨by rw[jg];lia,by rw[jg];lia,λx D=>?_⟩;rw[jg];unfold wp at D;rcases aW.mp D with D|D
  .obtain⟨y,F,rfl⟩:=az.mp D;have:=h.2.2 y F;lia
  .obtain⟨y,F,rfl⟩:=az.mp D;have:=al.mp F;lia
def qzh (w:Int):V->V
 |.int i=>.int (w+i)
 |v=>v
theorem wj8 (hs:List Int):(hs.map V.int).map (qzh ((hs.length:Int)-1+1))++(List.range hs.length).map (λk:Nat=>V.int ((0:Int)+k))=(wp hs).map V.int:=by unfold wp;rw[aK,aN,aN,aN];rfl
def xx3 (C CB:Aj):Sp:=λvs H Q E=>∃(r:Aj) (hs:List Int),vs=[.ref r]/\RoadAt C H r hs/\qt hs/\(qt (wp hs)->∀x H',H x=none->Same H H'->RoadAt C H' x (wp hs)->Q (.ref x) H')/\(¬ qt (wp hs)->∀H',Same H H'->E (.ref CB) none H')
include T in
theorem ze5 (F:Fun K "doubled" "doubled" za5 f fd)(zb8:CCal P w K mg base "Road" qy 2 (qvz K qh qy))(zaa:MCal P w K mg base qy "width" 1 (j6 qy))(ze6:MCal P w K mg base qy "corners" 1 (Jr qy)) :
  FK P w K mg base 4 f fd ["road"] (xx3 qy qh):=by
 have sc:=wzr;refine F.okX sc (λvs H Q E h=>by obtain⟨_,_,rfl,_⟩:=h;rfl) λ_ _ _ _ H vs Q E U h=>?_;obtain⟨r,hs,rfl,W,ok,k,kx⟩:=h;obtain⟨dx,q,h1,h2⟩:=id W;have ol:=ok.2.1;have an:=ok.1;refine⟨_,(qj (wg (i:=1) (kr (pv 0) T.cl zaa (U.mono ⋯) q8))
   (qr (xx (wxw zb8 (U.mono ⋯) rfl q8 (qw (q9 Z7 (zr (M:=[1]) rfl rfl (by walk_at "cap") (by walk_at "has") (by walk_at "cix") rfl (by decide +kernel) rfl (show List.Nodup (["height","width"]:List Str) by decide +kernel) (zc (kr (pv 0) T.cl ze6 (U.mono ⋯) q8)) (λ_ _ _ _ _=>(q9 xj (q9 xj (pv 1) qv) (pv 0)))) (qkj rfl rfl T.list_ rfl T.range_ (qw (q9 xj (pv 1) qv) qk))) qk))))),?_⟩
 refine exI rfl ⟨r,dx,exI rfl ⟨h1,xc (by decide +kernel),r,hs,rfl,W,?_⟩⟩;refine exI rfl ⟨r,dx,exI rfl ⟨h1,xc (by decide +kernel),r,hs,rfl,W,λD n1=>?_⟩⟩;have s1:Same H (upd H D (.lst (hs.map V.int))):=Same.upd n1;have Z:upd H D (.lst (hs.map V.int)) D=some (.lst (hs.map V.int)):=qu;generalize hH1:upd H D (.lst (hs.map V.int))=H1 at s1 Z;refine⟨D,rfl,⟨_,SqL.of Z⟩,Qv (K:=K) (a:=D) (qzh ((hs.length:Int)-1+1)) (SqL.of Z) (by rw[af];lia) (λx H' R hx as ah=>?_) λp2 n2=>?_⟩
 .obtain⟨i,_,rfl⟩:=az.mp hx;exact exI rfl (wy rfl rfl (exI rfl (wy rfl rfl ah)))
 .have s2:=Same.upd (o:=.lst ((hs.map V.int).map (qzh ((hs.length:Int)-1+1)))) n2;have f2:upd H1 p2 (.lst ((hs.map V.int).map (qzh ((hs.length:Int)-1+1)))) p2=some (.lst ((hs.map V.int).map (qzh ((hs.length:Int)-1+1)))):=qu;generalize upd H1 p2 (.lst ((hs.map V.int).map (qzh ((hs.length:Int)-1+1))))=H2 at s2 f2;refine⟨_,rfl,_,_,rfl,rfl,(hs.length:Int)-1+1,rfl,⟨⋯,⋯⟩,⋯,λp3 n3=>?_⟩;rw[show((hs.length:Int)-1+1).toNat=hs.length by lia];have s3:=Same.upd (o:=.lst ((List.range hs.length).map λk:Nat=>V.int ((0:Int)+k))) n3;refine⟨p2,p3,wy rfl rfl ⟨s3 _ _ f2,qu,?_,λp4 n4=>?_⟩⟩
  .rw[af,af,af,ay];have:(1000000:Nat)<sizeLine:=by decide
   lia
  .rw[wj8];have s4:=Same.upd (o:=.lst ((wp hs).map V.int)) n4;have J:=s1.trans (s2.trans (s3.trans s4));refineλx d0 nx ad ap=>wjg qu nx ad (λab H' L R=>k ab x H' (J.free nx) (J.trans L) R) λz H' L=>kx z H' (J.trans L)
variable {k:Int}
theorem qxc (h0:0<=k)(h1:k<hs.length):atI (hs.map V.int) k=some (V.int (hAt hs k)):=qw2 h0 h1
theorem qjw (ok:qt hs)(k:Int):0<=hAt hs k/\hAt hs k<=24:=by
 unfold hAt;rw[ae];cases e:hs[k.toNat]? with
 |none=>exact⟨⋯,⋯⟩
 |some v =>
  have hm:=ok.2.2 v (aE e);have:=ok.2.1;show 0<=v/\v<=24;lia
def qqx (C CR:Aj):Sp:=λvs H Q E=>∃(r:Aj) (hs:List Int) (k:Int),vs=[.ref r,.int k]/\RoadAt C H r hs/\(0<=k->k<(hs.length:Int)-1->∀p,H p=none->Q (.ref p) (upd H p (.tup [.int (hAt hs k),.int (hAt hs (k+1))]))) /\
 (k<0\/(hs.length:Int)-1<=k->E (.ref CR) none H)
include T in
theorem xyu (F:Fun K "ends" "Road.ends" za0 f fd)(zaa:MCal P w K mg base qy "width" 1 (j6 qy)):FK P w K mg base 2 f fd ["self","stretch"] (qqx qy qp):=by
 have L:=qj1;refine F.okX L (λvs H Q E h=>by obtain⟨_,_,_,rfl,_⟩:=h;rfl) λ_ _ _ _ H vs Q E W h=>?_;obtain⟨r,hs,k,rfl,J,U,x⟩:=h;obtain⟨dx,q,h1,h2⟩:=id J;refine⟨_,(qj (zp (PW.pt (qjk (w8 Zf (pv 1) qv (xv _)) (qqk (w8 wkv (pv 1) (kr (pv 0) T.cl zaa (W.mono ⋯) q8) (xv _))))) (qr (yh rfl T.zaq jz rfl T.zex (qw Zt qk))) xn)
   (qr (xx (vy (qw (wn xr (qj6 (pv 0) rfl) (pv 1) (λ_ _=>rfl)) (qw (wn xr (qj6 (pv 0) rfl) (q9 xj (pv 1) qv) (λ_ _=>rfl)) qk)))))),?_⟩
 refine exI rfl (wy rfl rfl (exI rfl ?_));refine jb (λD=>?_) (λD=>?_)
 .refine y9 ?_;exact⟨sz1,x (.inl D)⟩
 .refine exI rfl (exI rfl ⟨r,dx,exI rfl ⟨h1,xc (by decide +kernel),r,hs,rfl,J,wy rfl rfl (exI rfl ?_)⟩⟩);refine jb (λz=>?_) (λz=>?_)
  .exact⟨sz1,x (.inr z)⟩
  .refine exI rfl ⟨r,qy,dx,_,_,rfl,h1,T.cl,T.na,yc,exI rfl (exX rfl rfl (SqL.of h2) (qxc ⋯ ⋯) (exI rfl ⟨r,qy,dx,_,_,rfl,h1,T.cl,T.na,yc,exI rfl (wy rfl rfl (exX rfl rfl (SqL.of h2) (qxc ⋯ ⋯) ⟨sz2,λp np=>?_⟩))⟩))⟩;exact U ⋯ ⋯ p np
def x6 (hs:List Int)(t b:Int):Prop:=0<=t/\t<=((hs.length:Int)-1)*b
def W8 (K:Aa)(C CB CO:Aj):Sp:=λvs H Q E=>∃(r p:Aj) (hs:List Int) (t b:Int),vs=[.ref r,.ref p]/\RoadAt C H r hs/\qt hs/\SqT K H p [.int t,.int b] /\
 (1<=b->Sm 8000 b/\(x6 hs t b->∀q H',Same H H'->H' q=some (.tup (ptV (wv t b)))->Q (.ref q) H')/\(¬ x6 hs t b->∀H',Same H H'->E (.ref CO) none H'))/\(b<1->E (.ref CB) none H)
include T in
theorem wz2 (F:Fun K "on_road" "Road.on_road" za3 f fd)(zaa:MCal P w K mg base qy "width" 1 (j6 qy))(zaj:Cal P w K mg base "lowest" 2 (Wp qx)) :
  FK P w K mg base 3 f fd ["self","point"] (W8 K qy qx qg):=by
 have sc:=qwx;refine F.okX sc (λvs H Q E h=>by obtain⟨_,_,_,_,_,rfl,_⟩:=h;rfl) λ_ _ _ _ H vs Q E hr h=>?_;obtain⟨r,p,hs,t,b,rfl,hR,ab,hp,Z,x⟩:=h;obtain⟨dx,q,h1,h2⟩:=id hR;refine⟨_,(qj (yn (wu zaj (hr.mono ⋯) rfl q8 (qw (wn wt (pv 1) qv (λ_ _=>rfl)) (qw (wn wt (pv 1) qv (λ_ _=>rfl)) qk))) (yz rfl (xt (xz (i:=2)) (xt (xz (i:=3)) jw))))
   (qj (zp (PW.pt (qjk (w8 Zf (pv 2) qv (xv _)) (qqk (w8 Q9 (pv 2) (q9 xq (kr (pv 0) T.cl zaa (hr.mono ⋯) q8) (pv 3)) (xv _))))) (qr (yh rfl T.zao jz rfl T.zev (qw Zt qk))) xn)
   (qr (xx (vy (qw (pv 2) (qw (pv 3) qk))))))),?_⟩
 refine⟨_,rfl,_,_,_,_,rfl,rfl,hp,rfl,_,rfl,_,_,_,_,rfl,rfl,hp,rfl,t,b,rfl,λD=>⟨(Z D).1.mono ⋯,λW n1=>?_⟩,λz=>x z⟩;obtain⟨sb,k1,k2⟩:=Z D;have J:Same H (upd H W (.tup (ptV (wv t b)))):=Same.upd n1;have hl:=ab.2.1;refine⟨W,exI rfl ⟨SqT.new,rfl,_,_,rfl,_,_,rfl,rfl,?_⟩⟩;refine exI rfl (wy rfl rfl (exI rfl ?_));refine jb (λU=>?_) (λU=>?_)
 .refine y9 ?_;exact⟨sz1,k2 (λz=>by have:=(Y6 D).mp U;have:=z.1;lia) _ J⟩
 .refine exI rfl (exI rfl ⟨r,dx,exI rfl ⟨J _ _ h1,xc (by decide +kernel),r,hs,rfl,hR.same J,exI rfl (wy rfl rfl ⟨IntMulOk.of_left (intBits_le_64 ⋯ ⋯),wy rfl rfl (exI rfl ?_)⟩)⟩⟩);refine jb (λL=>?_) (λL=>?_)
  .exact⟨sz1,k2 (λz=>by have:=(qyu D).mp L;have:=z.2;lia) _ J⟩
  .refine exI rfl (exI rfl ⟨sz2,λp2 n2=>?_⟩);refine k1 ⟨?_,?_⟩ p2 _ (J.trans (Same.upd n2)) qu
   .rcases bh t 0 with z|z
    .exact absurd ((Y6 D).mpr z) U
    .exact z
   .rcases bh (((hs.length:Int)-1)*b) t with z|z
    .exact absurd ((qyu D).mpr z) L
    .exact z
def spAt (K:Aa)(C CB CO:Aj):Sp:=λvs H Q E=>∃(r p:Aj) (hs:List Int) (t b:Int),vs=[.ref r,.ref p]/\RoadAt C H r hs/\qt hs/\SqT K H p [.int t,.int b] /\
 (1<=b->Sm 8000 b/\(x6 hs t b->∀q H',Same H H'->H' q=some (.tup (ptV (Yx hs t b)))->Q (.ref q) H')/\(¬ x6 hs t b->∀H',Same H H'->E (.ref CO) none H'))/\(b<1->E (.ref CB) none H)
include T in
theorem ze7 (F:Fun K "at" "Road.at" za4 f fd)(zaa:MCal P w K mg base qy "width" 1 (j6 qy))(zaj:Cal P w K mg base "lowest" 2 (Wp qx))(zah:MCal P w K mg base qy "ends" 2 (qqx qy qp))
  (zar:MCal P w K mg base qy "on_road" 3 (W8 K qy qx qg)):FK P w K mg base 4 f fd ["self","point"] (spAt K qy qx qg):=by
 have sc:=wkx;refine F.okX sc (λvs H Q E h=>by obtain⟨_,_,_,_,_,rfl,_⟩:=h;rfl) λ_ _ _ _ H vs Q E U h=>?_;obtain⟨r,p,hs,t,b,rfl,W,L,hp,Z,x⟩:=h;obtain⟨dx,q,h1,h2⟩:=id W;refine⟨_,(qj (yn (km (pv 0) T.cl zar (U.mono ⋯) q8 (qw (pv 1) qk)) (yz rfl (xt (xz (i:=2)) (xt (xz (i:=3)) jw))))
   (qj (wg (i:=4) (w5 (Zv rfl) rfl T.min_ dR (qw (q9 jc (pv 2) (pv 3)) (qw (q9 zd (kr (pv 0) T.cl zaa (U.mono ⋯) q8) qv) qk))))
   (qj (yn (km (pv 0) T.cl zah (U.mono ⋯) q8 (qw (pv 4) qk)) (yz rfl (xt (xz (i:=5)) (xt (xz (i:=6)) jw))))
   (qj (wg (i:=7) (q9 zd (pv 2) (q9 xq (pv 4) (pv 3))))
   (qr (xx (wu zaj (U.mono ⋯) rfl q8 (qw (q9 xj (q9 xq (pv 5) (pv 3)) (q9 xq (q9 zd (pv 6) (pv 5)) (pv 7))) (qw (pv 3) qk))))))))),?_⟩
 refine⟨_,rfl,r,dx,_,rfl,h1,xc (by decide +kernel),_,rfl,r,p,hs,t,b,rfl,W,L,hp,λJ=>⟨(Z J).1,λab p1 H1 D f1=>?_,λad H1 D=>(Z J).2.2 ad H1 D⟩,λz=>x z⟩;obtain⟨sb,k1,k2⟩:=Z J;have ah:=L.1;have ap:=L.2.1;have hy:=zx (t:=t) J;have an:=ud (t:=t) J;have hx:0<=(wv t b).1:=by
  rcases bh (wv t b).1 0 with z|z
  .have:=(Y6 J).mp z;have:=ab.1;lia
  .exact z
 have hk:=qj4 (hs:=hs) ah hy hx;have sy:Sm 9000 (wv t b).2:=(sb.of_le ⋯).mono ⋯;refine⟨p1,exI rfl ⟨SqT.of f1,rfl,_,_,rfl,_,_,rfl,rfl,?_⟩⟩;refine exI rfl (exI rfl (wy rfl rfl ⟨⟨⋯,sy⟩,exI rfl ⟨r,dx,exI rfl ⟨D _ _ h1,xc (by decide +kernel),r,hs,rfl,W.same D,wy rfl rfl ⟨_,_,rfl,?_⟩⟩⟩⟩));refine⟨_,rfl,r,dx,_,rfl,D _ _ h1,xc (by decide +kernel),V.int (kF hs (wv t b).1 (wv t b).2),rfl,r,hs,kF hs (wv t b).1 (wv t b).2,rfl,W.same D,λ_ _ p2 n2=>?_,λz=>absurd z ⋯⟩;have g1:=qjw L (kF hs (wv t b).1 (wv t b).2);have g2:=qjw L (kF hs (wv t b).1 (wv t b).2+1);refine⟨p2,exI rfl ⟨SqT.new,rfl,_,_,rfl,_,_,rfl,rfl,?_⟩⟩;refine exI rfl ⟨V.int (kF hs (wv t b).1 (wv t b).2),rfl,exI rfl (wy rfl rfl ⟨IntMulOk.of_left (intBits_le_64 ⋯ ⋯),wy rfl rfl ?_⟩)⟩;refine exI rfl (exI rfl (wy rfl rfl ⟨IntMulOk.of_left (intBits_le_64 ⋯ ⋯),exI rfl (exI rfl (wy rfl rfl (exI rfl (wy rfl rfl ⟨IntMulOk.of_left (intBits_le_64 ⋯ ⋯),wy rfl rfl (exI rfl ?_)⟩))))⟩));refine⟨x9 hs (wv t b).1 (wv t b).2,(wv t b).2,rfl,λ_=>⟨sy,λp3 n3=>?_⟩,λz=>absurd z ⋯⟩;have e:wv (x9 hs (wv t b).1 (wv t b).2) (wv t b).2=Yx hs t b:=qjq J;rw[e];exact k1 ab p3 _ (D.trans ((Same.upd n2).trans (Same.upd n3))) qu
def jj (a b:Int):Int:=if b<a then b else a
def yp (a b:Int):Int:=if b>a then b else a
variable {a:Int}
theorem xj0:jj a b<=a/\jj a b<=b/\(jj a b=a\/jj a b=b):=by unfold jj;split <;> lia
theorem xyp:a<=yp a b/\b<=yp a b/\(yp a b=a\/yp a b=b):=by unfold yp;split <;> lia
def loH (hs:List Int)(k:Int):Int:=jj (hAt hs k) (hAt hs (k+1))
def hiH (hs:List Int)(k:Int):Int:=yp (hAt hs k) (hAt hs (k+1))
def qyq (C CR:Aj):Sp:=λvs H Q E=>∃(r:Aj) (hs:List Int) (k:Int),vs=[.ref r,.int k]/\RoadAt C H r hs/\(0<=k->k<(hs.length:Int)-1->∀H',Same H H'->Q (.int (hAt hs (k+1)-hAt hs k)) H') /\
 (k<0\/(hs.length:Int)-1<=k->E (.ref CR) none H)
include T in
theorem xxj (F:Fun K "slope" "Road.slope" za1 f fd)(zah:MCal P w K mg base qy "ends" 2 (qqx qy qp)):FK P w K mg base 3 f fd ["self","stretch"] (qyq qy qp):=by
 have J:=qvc;refine F.okX J (λvs H Q E h=>by obtain⟨_,_,_,rfl,_⟩:=h;rfl) λ_ _ _ _ H vs Q E U h=>?_;obtain⟨r,hs,k,rfl,D,L,x⟩:=h;obtain⟨dx,q,h1,h2⟩:=id D;refine⟨_,(qj (yn (km (pv 0) T.cl zah (U.mono ⋯) q8 (qw (pv 1) qk)) (yz rfl (xt (xz (i:=2)) (xt (xz (i:=3)) jw))))
   (qr (xx (q9 zd (pv 3) (pv 2))))),?_⟩
 refine⟨_,rfl,r,dx,_,rfl,h1,xc (by decide +kernel),V.int k,rfl,r,hs,k,rfl,D,λa b p n=>?_,λz=>x z⟩;refine⟨p,exI rfl ⟨SqT.new,rfl,_,_,rfl,_,_,rfl,rfl,?_⟩⟩;exact exI rfl (exI rfl (wy rfl rfl (L a b _ (Same.upd n))))
def qu5 (C CR:Aj):Sp:=λvs H Q E=>∃(r:Aj) (hs:List Int) (k:Int),vs=[.ref r,.int k]/\RoadAt C H r hs/\(0<=k->k<(hs.length:Int)-1->∀p H',Same H H'->H' p=some (.tup [.int (loH hs k),.int (hiH hs k)])->Q (.ref p) H') /\
 (k<0\/(hs.length:Int)-1<=k->E (.ref CR) none H)
include T in
theorem xq2 (F:Fun K "reach" "Road.reach" za2 f fd)(zah:MCal P w K mg base qy "ends" 2 (qqx qy qp)):FK P w K mg base 3 f fd ["self","stretch"] (qu5 qy qp):=by
 have J:=qkq;refine F.okX J (λvs H Q E h=>by obtain⟨_,_,_,rfl,_⟩:=h;rfl) λ_ _ _ _ H vs Q E W h=>?_;obtain⟨r,hs,k,rfl,D,U,x⟩:=h;obtain⟨dx,q,h1,h2⟩:=id D;refine⟨_,(qj (yn (km (pv 0) T.cl zah (W.mono ⋯) q8 (qw (pv 1) qk)) (yz rfl (xt (xz (i:=2)) (xt (xz (i:=3)) jw))))
   (qr (xx (vy (qw (w5 (Zv rfl) rfl T.min_ dR (qw (pv 2) (qw (pv 3) qk))) (qw (w5 (Zz rfl) rfl T.max_ df (qw (pv 2) (qw (pv 3) qk))) qk)))))),?_⟩
 refine⟨_,rfl,r,dx,_,rfl,h1,xc (by decide +kernel),V.int k,rfl,r,hs,k,rfl,D,λa b p n=>?_,λz=>x z⟩;refine⟨p,exI rfl ⟨SqT.new,rfl,_,_,rfl,_,_,rfl,rfl,?_⟩⟩;refine exI rfl (exI rfl ⟨_,_,rfl,exI rfl (exI rfl ⟨_,_,rfl,sz2,λp2 L=>?_⟩)⟩);exact U a b p2 _ ((Same.upd n).trans (Same.upd L)) qu
theorem qy9 (ok:qt hs)(k:Int):0<=loH hs k/\loH hs k<=hiH hs k/\hiH hs k<=(hs.length:Int)-1:=by
 have g:∀j,0<=hAt hs j/\hAt hs j<=(hs.length:Int)-1:=λj=>by
  unfold hAt;rw[ae];have l:=ok.1;cases e:hs[j.toNat]? with
  |none=>exact⟨⋯,by show(0:Int)<=_;lia⟩
  |some v=>exact ok.2.2 v (aE e)
 have a:=g k;have b:=g (k+1);have c:=xj0 (a:=hAt hs k) (b:=hAt hs (k+1));have d:=xyp (a:=hAt hs k) (b:=hAt hs (k+1));unfold loH hiH;lia
def zg (hs:List Int)(k:Int):List Int:=(List.range (hiH hs k-loH hs k).toNat).map λj:Nat=>loH hs k+j
theorem xvw (hs:List Int)(k:Int):((List.range (hiH hs k-loH hs k).toNat).map λj:Nat=>V.int (loH hs k+j))=(zg hs k).map V.int:=by unfold zg;rw[aN];rfl
def Jv (C CR:Aj):Sp:=λvs H Q E=>∃(r:Aj) (hs:List Int) (k:Int),vs=[.ref r,.int k]/\RoadAt C H r hs/\qt hs/\(0<=k->k<(hs.length:Int)-1->∀p H',H p=none->Same H H'->H' p=some (.lst ((zg hs k).map V.int))->Q (.ref p) H') /\
 (k<0\/(hs.length:Int)-1<=k->E (.ref CR) none H)
include T in
theorem wzw (F:Fun K "covered" "covered" za6 f fd)(ze8:MCal P w K mg base qy "reach" 3 (qu5 qy qp)):FK P w K mg base 4 f fd ["road","stretch"] (Jv qy qp):=by
 have W:=wvh;refine F.okX W (λvs H Q E h=>by obtain⟨_,_,_,rfl,_⟩:=h;rfl) λ_ _ _ _ H vs Q E hr h=>?_;obtain⟨r,hs,k,rfl,U,L,Z,x⟩:=h;obtain⟨dx,q,h1,h2⟩:=id U;refine⟨_,(qj (yn (km (pv 0) T.cl ze8 (hr.mono ⋯) q8 (qw (pv 1) qk)) (yz rfl (xt (xz (i:=2)) (xt (xz (i:=3)) jw))))
   (qr (xx (qvy rfl rfl T.list_ rfl T.range_ (qw (pv 2) (qw (pv 3) qk)))))),?_⟩
 refine⟨_,rfl,r,dx,_,rfl,h1,xc (by decide +kernel),V.int k,rfl,r,hs,k,rfl,U,λa b p H1 J f1=>?_,λz=>x z⟩;have hl:=qy9 L k;have ol:=L.2.1;refine⟨p,exI rfl ⟨SqT.of f1,rfl,_,_,rfl,_,_,rfl,rfl,?_⟩⟩;refine⟨_,rfl,_,rfl,_,_,rfl,⟨⋯,⋯,⋯,⋯⟩,⋯,λp2 D=>?_⟩;refine Z a b p2 _ ?_ (J.trans (Same.upd D)) (by rw[qu,xvw]);cases e:H p2 with
 |none=>rfl
 |some o=>rw[J _ _ e]at D;cases D
theorem Wf (ok:qt hs)(k:Int):0<=hAt hs k/\hAt hs k<=(hs.length:Int)-1:=by
 unfold hAt;rw[ae];have:=ok.1;cases e:hs[k.toNat]? with
 |none=>exact⟨⋯,by show(0:Int)<=_;lia⟩
 |some v=>exact ok.2.2 v (aE e)
theorem qyt {t:Int}(hok:qt hs)(hb:1<=b)(hon:x6 hs t b):x6 hs (x9 hs t b) b:=by
 have F:=hok.1;have J:=qj4 (hs:=hs) F hb hon.1;have Z:=Wf hok (kF hs t b);have W:=Wf hok (kF hs t b+1);have D:0<=t-kF hs t b*b/\t-kF hs t b*b<=b:=by
  have h1:t/b*b<=t:=fJ t ⋯;have h2:=gW t (show 0<b by lia);unfold kF;split
  .next z =>
   have U:=aj (show(hs.length:Int)-1-1<=t/b by lia) (show 0<=b by lia);have L:=hon.2;constructor
   .lia
   .have:((hs.length:Int)-1)*b=((hs.length:Int)-1-1)*b+b:=by grind
    lia
  .have:(t/b+1)*b=t/b*b+b:=by grind
   constructor <;> lia
 have r:=xzr (u:=hAt hs (kF hs t b)) (v:=hAt hs (kF hs t b+1)) D.1 D.2;refine⟨dr ?_ r.1,dr r.2 ?_⟩
 .refine aX ?_ ⋯;split <;> lia
 .refine aj ?_ ⋯;split <;> lia
theorem wzb {t:Int}(hb:1<=b)(hon:x6 hs t b):x6 hs (wv t b).1 (wv t b).2:=by
 constructor
 .rcases bh (wv t b).1 0 with z|z
  .have:=(Y6 hb).mp z;have:=hon.1;lia
  .exact z
 .rcases bh (((hs.length:Int)-1)*(wv t b).2) (wv t b).1 with z|z
  .have:=(qyu hb).mp z;have:=hon.2;lia
  .exact z
def itP (hs:List Int)(p:Int×Int):Nat->Int×Int
 |0=>p
 |n+1=>Yx hs (itP hs p n).1 (itP hs p n).2
def Pt (hs:List Int)(c:Int)(p:Int×Int):Prop:=1<=p.2/\p.2<=c/\gOf p.1 p.2=1/\x6 hs p.1 p.2
theorem wv4 {t:Int}(hb:1<=b)(hon:x6 hs t b):Pt hs b (wv t b):=⟨zx hb,ud hb,Yq hb,wzb hb hon⟩
theorem xku {c:Int}(hok:qt hs)(h:Pt hs c p):Pt hs c (Yx hs p.1 p.2):=by have a:=wv4 h.1 (qyt hok h.1 h.2.2.2);exact⟨a.1,dr a.2.1 h.2.1,a.2.2.1,a.2.2.2⟩
theorem xvk {c:Int}(hok:qt hs)(h:Pt hs c p):∀n,Pt hs c (itP hs p n)
 |0=>h
 |n+1=>xku hok (xvk hok h n)
def trT (hs:List Int)(t b:Int):Nat->Int
 |0=>t
 |n+1=>x9 hs (trT hs t b n) b
theorem W0 {t:Int}(hok:qt hs)(hb:1<=b)(hon:x6 hs t b):∀n,x6 hs (trT hs t b n) b
 |0=>hon
 |n+1=>qyt hok hb (W0 hok hb hon n)
theorem Yw {t:Int}(hb:1<=b):∀n,wv (trT hs t b n) b=itP hs (wv t b) n
 |0=>rfl
 |n+1=>by show Yx hs (trT hs t b n) b=Yx hs (itP hs (wv t b) n).1 (itP hs (wv t b) n).2;rw[<-Yw hb n,qjq hb]
def ww2 (hs:List Int)(p:Int×Int)(n:Nat):List (Int×Int):=(List.range n).map (itP hs p)
theorem Jd (hs:List Int)(p:Int×Int)(n:Nat):ww2 hs p (n+1)=ww2 hs p n++[itP hs p n]:=by unfold ww2;rw[bz,aK];rfl
theorem ug (hs:List Int)(p:Int×Int)(n:Nat):(ww2 hs p n).length=n:=by unfold ww2;rw[af,ay]
def PtR (H:Hp)(v:V)(p:Int×Int):Prop:=∃a,v=.ref a/\H a=some (.tup [.int p.1,.int p.2])
variable {v:V}
theorem PtR.same (h:PtR H v p)(s:Same H H'):PtR H' v p:=by obtain⟨a,e,f⟩:=h;exact⟨a,e,s _ _ f⟩
theorem PtR.upd {xs:List V}(h:PtR H v p)(hq:H q=some (.lst xs)):PtR (L2.upd H q o) v p:=by obtain⟨a,e,f⟩:=h;refine⟨a,e,?_⟩;rw[wx (λz=>by rw[z,hq]at f;cases f)];exact f
variable {α β:Type}
theorem wqj {F G:α->β->Prop}(h:∀a b,F a b->G a b):∀ {l:List α} {m:List β},Paired F l m->Paired G l m
 |_,_,.nil=>.nil
 |_,_,.cons a t=>.cons (h _ _ a) (wqj h t)
theorem W7 {F:α->β->Prop}:∀ {l:List α} {m:List β} {i:Nat} {a:α},Paired F l m->l[i]?=some a->∃b,m[i]?=some b/\F a b
 |_,_,0,_,.cons a _,e=>by cases e;exact exI rfl a
 |_,_,i+1,_,.cons _ t,e=>W7 (i:=i) t e
theorem Zq {F:α->β->Prop}:∀ {l:List α} {m:List β} {i:Nat} {b:β},Paired F l m->m[i]?=some b->∃a,l[i]?=some a/\F a b
 |_,_,0,_,.cons a _,e=>by cases e;exact exI rfl a
 |_,_,i+1,_,.cons _ t,e=>Zq (i:=i) t e
def PtsAt (H:Hp)(q:Aj)(ps:List (Int×Int)):Prop:=∃vs,H q=some (.lst vs)/\Paired (PtR H) vs ps
theorem Zk (ok:qt hs)(k:Int):∀v∈zg hs k,0<=v/\v<((hs.length-1:Nat):Int):=λv hv=>by have l:=qy9 ok k;have:=ok.1;unfold zg at hv;obtain⟨j,hj,rfl⟩:=az.mp hv;have:=al.mp hj;lia
theorem wq4 (ok:qt hs)(k:Int):(zg hs k).length<=24:=by have l:=qy9 ok k;have:=ok.2.1;unfold zg;rw[af,ay];lia
def xu (hs:List Int):Nat->List Int:=λi=>zg hs ((0:Int)+i)
def CovAt (H:Hp)(p:Aj)(hs:List Int):Prop:=∃ys,H p=some (.lst ys)/\ys.length=hs.length-1/\∀i v,ys[i]?=some v->∃q,v=.ref q/\H q=some (.lst ((xu hs i).map V.int))
theorem CovAt.same {p:Aj}(h:CovAt H p hs)(s:Same H H'):CovAt H' p hs:=by obtain⟨ys,e,l,r⟩:=h;exact⟨ys,s _ _ e,l,λi v z=>let ⟨q,a,b⟩:=r i v z;⟨q,a,s _ _ b⟩⟩
theorem qw6 (g:Nat->List V):Stay λi v H=>∃q,v=.ref q/\H q=some (.lst (g i)):=λi v H H' p h nv st=>by obtain⟨q,rfl,e⟩:=h;exact⟨q,rfl,st q _ (λz=>nv (by rw[z])) e⟩
def Qu (C:Aj):Sp:=λvs H Q _=>∃(r:Aj) (hs:List Int),vs=[.ref r]/\RoadAt C H r hs/\qt hs/\∀p H',H p=none->Same H H'->CovAt H' p hs->Q (.ref p) H'
include T in
theorem qjt (F:Fun K "covers_of" "covers_of" za7 f fd)(zaa:MCal P w K mg base qy "width" 1 (j6 qy))(ze9:Cal P w K mg base "covered" 4 (Jv qy qp)):FK P w K mg base 5 f fd ["road"] (Qu qy):=by have U:=qug;refine F.okX U (λvs H Q E h=>by obtain⟨_,_,rfl,_⟩:=h;rfl) λ_ _ _ s H vs Q E L h=>?_;obtain⟨r,hs,rfl,J,D,k⟩:=h;obtain⟨dx,q,h1,h2⟩:=id J;have o1:=D.1;have o2:=D.2.1;refine⟨_,(qr (xx (zr (M:=[0]) rfl rfl (by walk_at "cap") (by walk_at "has") (by walk_at "cix") rfl (by decide +kernel) rfl (show List.Nodup (["stretch","road"]:List Str) by decide +kernel) (xg rfl T.range_ (qw (kr (pv 0) T.cl zaa (L.mono ⋯) q8) qk)) (λ_ _ _ _ _=>(wu ze9 (L.mono ⋯) rfl Wc (qw (pv 1) (qw (pv 0) qk))))))),?_⟩;refine exI rfl ⟨r,dx,exI rfl ⟨h1,xc (by decide +kernel),r,hs,rfl,J,exI rfl ⟨⋯,⋯,Ws (λi v H=>∃q,v=.ref q/\H q=some (.lst ((xu hs i).map V.int))) (qw6 _) ⋯ (λi H' R hi s' Z=>?_) λp ys H' np s' f l hG=>k p H' np s' ⟨ys,f,⋯,λi v e=>(hG i v e).1⟩⟩⟩⟩;refine⟨_,rfl,_,rfl,r,hs,_,rfl,J.same s',D,λ_ _ p2 H2 W s2 f2=>Z (.ref p2) H2 s2 ⟨p2,rfl,f2⟩ λb e=>?_,λz=>absurd z ⋯⟩;cases e;exact W
def qw7:Sp:=λvs H Q _=>∃w:Int,vs=[.int w]/\0<=w/\w<=24/\∀(cov:Nat->List Int) p H',H p=none->Same H H'->MatAt H' p w.toNat (x4 cov 0)->Q (.ref p) H'
include T in
theorem wvy (F:Fun K "ways_of_no_step" "ways_of_no_step" za8 f fd):FK P w K mg base 1 f fd ["width"] qw7:=by
 have J:=Z2;refine F.okX J (λvs H Q E h=>by obtain⟨_,rfl,_⟩:=h;rfl) λ_ _ _ s H vs Q E hr h=>?_;obtain⟨w,rfl,Z,W,k⟩:=h;refine⟨_,(qr (xx (qzn (M:=[0]) rfl rfl (by walk_at "cap") (by walk_at "hasK") (by walk_at "cix") rfl (by decide +kernel) (by intro _;rfl) (by intro _;rfl) rfl (show List.Nodup (["begin","width"]:List Str) by decide +kernel) (xg rfl T.range_ (qw (pv 0) qk)) (λ_ _ _ _ _=>(zr (M:=[0]) rfl rfl (by walk_at "cap") (by walk_at "has") (by walk_at "cix") rfl (by decide +kernel) rfl (show List.Nodup (["end","begin"]:List Str) by decide +kernel) (xg rfl T.range_ (qw (pv 1) qk)) (λ_ _ _ _ _=>(qvx (w8 j8 (pv 0) (pv 1) (xv _)) qv qv))))))),?_⟩;refine exI rfl ⟨w,rfl,⋯,⋯,Ws (λi v H=>∃q,v=.ref q/\H q=some (.lst ((x8 w.toNat (x4 (λ_=>[]) 0 i)).map V.int))) (qw6 _) ⋯ (λi H' R hi s' L=>?_) λp ys H' np s' f l U=>k (λ_=>[]) p H' np s' ⟨ys,f,l,λi v e=>(U i v e).1⟩⟩;refine exI rfl ⟨w,rfl,⋯,⋯,v9 (λj=>V.int (x4 (λ_=>[]) 0 i j)) ⋯ (λj H2 R2 hj s2 z=>?_) λq D=>L (.ref q) _ (Same.upd D) ⟨q,rfl,by rw[qu,qzf]⟩ λb e=>by cases e;exact D⟩;refine exI rfl (exI rfl ⟨rfl,_,rfl,jr (λe=>?_) (λe=>?_)⟩)
 .have:x4 (λ_=>[]) 0 i j=1:=aw ⋯;rw[this]at z;exact z
 .have:x4 (λ_=>[]) 0 i j=0:=ar ⋯;rw[this]at z;exact z
def Jz (hs:List Int):Sp:=λvs H Q _=>∃(c t:Aj) (f:Nat->Nat->Int),vs=[.ref c,.ref t]/\CovAt H c hs/\MatAt H t (hs.length-1) f/\∀p H',H p=none->Same H H'->MatAt H' p (hs.length-1) (λi j=>((xu hs i).map λv=>f v.toNat j).sum)->Q (.ref p) H'
def picks (f:Nat->Nat->Int)(j:Nat):V->V
 |.int z=>.int (f z.toNat j)
 |_=>.non
variable {j:Nat}{g:Nat->Int}
theorem at_row (h:j<n):atI ((x8 n g).map V.int) ((0:Int)+j)=some (V.int (g j)):=by rw[dH];refine v6 ?_;rw[ax,qw9 h];rfl
theorem wqg (ok:qt hs)(F:Fun K "one_step_more" "one_step_more" za9 f fd)(T:Txt K mg qh qx qg qf qm qp qy):FK P w K mg base 1 f fd ["covers","table"] (Jz hs):=by
 have sc:=Jk;refine F.okX sc (λvs H Q E h=>by obtain⟨_,_,_,rfl,_⟩:=h;rfl) λ_ _ _ s H vs Q E hr h=>?_;obtain⟨c,t,g,rfl,⟨cs,fc,lc,gc⟩,Z,k⟩:=h;obtain⟨L,J,lt,gt⟩:=id Z;have o1:=ok.1;have o2:=ok.2.1;refine⟨_,(qr (xx (qzn (M:=[1]) rfl rfl (by walk_at "cap") (by walk_at "hasK") (by walk_at "cix") rfl (by decide +kernel) (by intro _;rfl) (by intro _;rfl) rfl (show List.Nodup (["vias","table"]:List Str) by decide +kernel) (zc (pv 0)) (λ_ _ _ _ _=>(qzn (M:=[0,1]) rfl rfl (by walk_at "cap") (by walk_at "hasK") (by walk_at "cix") rfl (by decide +kernel) (by intro _;rfl) (by intro _;rfl) rfl (show List.Nodup (["end","vias","table"]:List Str) by decide +kernel) (xg rfl T.range_ (qw (w5 (Zh (K:=K) rfl) rfl T.len_ bH (qw (pv 1) qk)) qk)) (λ_ _ _ _ _=>(w5 (k9 (K:=K) rfl rfl) rfl T.sum_ u8 (qw (zr (M:=[0,2]) rfl rfl (by walk_at "cap") (by walk_at "has") (by walk_at "cix") rfl (by decide +kernel) rfl (show List.Nodup (["via","end","table"]:List Str) by decide +kernel) (wwn (K:=K) rfl (pv 1)) (λ_ _ _ _ _=>(wn (yw (K:=K) rfl) (wn (yw (K:=K) rfl) (pv 2) (pv 0) (λ_ _=>rfl)) (pv 1) (λ_ _=>rfl)))) qk)))))))),?_⟩;refine exI rfl ⟨c,rfl,⟨_,SqL.of fc⟩,Qp (K:=K) (a:=c) (xs:=cs) (λi v H=>∃q,v=.ref q/\H q=some (.lst ((x8 (hs.length-1) λj=>((xu hs i).map λv=>g v.toNat j).sum).map V.int))) (qw6 _) (SqL.of fc) ⋯ (λi x H' R hx s' ap=>?_) λp ys H' np s' f l hG=>k p H' np s' ⟨ys,f,⋯,λi v e=>(hG i v e).1⟩⟩;obtain⟨W,rfl,ab⟩:=gc i x hx;refine exI rfl ⟨t,exI rfl ⟨.inl (SqL.of (s' _ _ J)),exI rfl ⟨⋯,⋯,?_⟩⟩⟩;rw[show((L.length:Int)).toNat=hs.length-1 by lia];refine wxx (λj=>V.int (((xu hs i).map λv=>g v.toNat j).sum)) (λ_ _ e=>nomatch e) ⋯ (λj H2 R2 hj s2 an=>?_) λq H2 nq s2 fq=>ap (.ref q) H2 s2 ⟨q,rfl,by rw[fq,qzf]⟩ λb e=>by cases e;exact nq
 have D:=s'.trans s2;refine exI rfl ⟨W,rfl,⟨_,SqL.of (D _ _ ab)⟩,Qv (K:=K) (a:=W) (xs:=(xu hs i).map V.int) (picks g j) (SqL.of (D _ _ ab)) (by rw[af];have:=wq4 ok ((0:Int)+i);unfold xu;lia) (λx3 H3 R3 ad s3 ah=>?_) λpl nl=>?_⟩
 .obtain⟨z,hz,rfl⟩:=az.mp ad;have zb:=Zk ok _ z hz;obtain⟨qz,ez,fz⟩:=Z.row J (i:=z.toNat) ⋯;have U:=D.trans s3;have as:atI L z=some (.ref qz):=by have:=v6 ez;rwa [bR zb.1]at this
  exact exI rfl (exI rfl (exX rfl rfl (SqL.of (U _ _ J)) as (exI rfl (exX rfl rfl (SqL.of (U _ _ fz)) (at_row hj) ah))))
 .have e:((xu hs i).map V.int).map (picks g j)=((xu hs i).map λv=>g v.toNat j).map V.int:=by rw[aN,aN];rfl
  rw[e];exact⟨pl,exI rfl ⟨SqL.new,an _ (Same.upd nl)⟩⟩
variable {ys:List V}
theorem MatAt.upd {p:Aj}{f:Nat->Nat->Int}{a:Aj}(h:MatAt H p n f)(hn:1<=n)(hq:H q=some (.lst ys))(hp:p≠q)(h0:ys[0]?=some (.ref a)):MatAt (L2.upd H q o) p n f:=by
 obtain⟨zs,e,l,r⟩:=h;refine⟨zs,by rw[wx hp];exact e,l,λi v z=>?_⟩;obtain⟨D,L,b⟩:=r i v z;refine⟨D,L,?_⟩;rw[wx (λJ=>?_)]
 .exact b
 .rw[J,hq]at b;have F:ys=(x8 n (f i)).map V.int:=by
   injection b with b
   injection b
  rw[F,ax,qw9 ⋯]at h0;cases h0
def qxz (C:Aj):Sp:=λvs H Q _=>∃(r:Aj) (hs:List Int) (m:Int),vs=[.ref r,.int m]/\RoadAt C H r hs/\qt hs/\0<=m/\m<=60 /\
 ∀p ys H',Same H H'->H' p=some (.lst ys)->ys.length=m.toNat+1->(∀i v,ys[i]?=some v->∃q,v=.ref q/\MatAt H' q (hs.length-1) (x4 (xu hs) i))->Q (.ref p) H'
include T in
theorem wx2 (F:Fun K "ways_up_to" "ways_up_to" zba f fd)(zb9:Cal P w K mg base "covers_of" 5 (Qu qy))(zaa:MCal P w K mg base qy "width" 1 (j6 qy))(zfa:Cal P w K mg base "ways_of_no_step" 1 qw7)
  (zfb:∀hs,qt hs->Cal P w K mg base "one_step_more" 1 (Jz hs)):FK P w K mg base 6 f fd ["road","many"] (qxz qy):=by
 have sc:=qvd;refine F.okX sc (λvs H Q E h=>by obtain⟨_,_,_,rfl,_⟩:=h;rfl) λ_ _ _ _ H vs Q E Z h=>?_;obtain⟨r,hs,m,rfl,hR,W,m0,m1,k⟩:=h;obtain⟨dx,q,h1,h2⟩:=id hR;have o1:=W.1;have o2:=W.2.1;have ap:=zfb hs W;refine⟨_,(qj (wg (i:=2) (wu zb9 (Z.mono ⋯) rfl q8 (qw (pv 0) qk)))
   (qj (wg (i:=3) (vt (qw (wu zfa (Z.mono ⋯) rfl q8 (qw (kr (pv 0) T.cl zaa (Z.mono ⋯) q8) qk)) qk)))
   (qj (u7 aV (w8 qz5 (w5 xh rfl T.len_ bH (qw (pv 3) qk)) (pv 1) (xv _)) (qr (vg (Zd bK bN bO vn (pv 3) (qw (wu ap (Z.mono ⋯) rfl q8 (qw (pv 2) (qw (wn xr (pv 3) (Q6 yj qv) (λ_ _=>rfl)) qk))) qk)))))
   (qr (xx (pv 3)))))),?_⟩
 refine exI rfl ⟨r,hs,rfl,hR,W,λp1 H1 n1 s1 C1=>?_⟩;refine exI rfl ⟨r,dx,exI rfl ⟨s1 _ _ h1,xc (by decide +kernel),r,hs,rfl,hR.same s1,exI rfl ⟨⋯,⋯,λa2 p2 H2 n2 s2 M2=>?_⟩⟩⟩;rw[show((hs.length:Int)-1).toNat=hs.length-1 by lia]at M2;have as:MatAt H2 p2 (hs.length-1) (x4 (xu hs) 0):=M2;obtain⟨a0,U,_,_⟩:=id M2;refine⟨sz1,λq nq=>?_⟩;have dq:p2≠q:=wj U nq;have sq:Same H2 (upd H2 q (.lst [.ref p2])):=Same.upd nq;refine Wb (λσ D=>∃(i:Nat) (ys:List V),σ=[some (.ref r),some (.int m),some (.ref p1),some (.ref q)]/\(i:Int)<=m/\Same H2 D/\D q=some (.lst ys)/\ys.length=i+1/\∀j v,ys[j]?=some v->∃J,v=.ref J/\J≠q/\MatAt D J (hs.length-1) (x4 (xu hs) j))
  (λ_ D=>match D q with|some (.lst ys)=>(m+1).toNat-ys.length|_=>0) ⟨0,[.ref p2],rfl,⋯,sq,qu,rfl,λj v e=>?_⟩ ?_ λσ H Q Q' h ⟨v,e,p',ys,e1,U,v2,e3,i,j,e4,e5,kk,e6,qq⟩=>⟨v,e,p',ys,e1,U,v2,e3,i,j,e4,e5,kk,e6,h _ _ qq⟩
 .rcases j with _|j
  .cases e;exact⟨p2,rfl,dq,as.same sq⟩
  .cases e
 .rintro σ D ⟨i,ys,rfl,hi,s3,f3,l3,g3⟩;have ab:=s1.trans (s2.trans s3);refine exI rfl ⟨_,_,rfl,.inl (SqL.of f3),exI rfl (wy rfl rfl (exI rfl ?_))⟩;rw[l3];refine jb (λq1=>?_) (λq1=>?_)
  .have ei:ys[i]?=some ys[i]:=aa ⋯;obtain⟨qi,an,a1,Mi⟩:=g3 i _ ei;have ah:atI ys (-1)=some (.ref qi):=by
    have hz:ys≠[]:=λz=>by rw[z]at l3;simp at l3
    have e1:ys=ys.dropLast++[ys.getLast hz]:=(dD hz).symm;have U:ys.getLast hz=.ref qi:=by
     rw[fY];have:ys[i]?=ys[ys.length-1]?:=by rw[l3];rfl
     rw[this,aa ⋯,an]at ei;exact aq ei
    rw[e1,U];exact Wj _ _
   obtain⟨ad,e0,_,_⟩:=g3 0 _ (aa (show 0<ys.length by lia));have h0:ys[0]?=some (.ref ad):=by rw[aa (show 0<ys.length by lia),e0]
   refine exI rfl ⟨.inl ⟨rfl,_,SqL.of f3⟩,exI rfl (exI rfl (exI rfl (exX rfl rfl (SqL.of f3) ah ⟨p1,qi,x4 (xu hs) i,rfl,C1.same (s2.trans s3),Mi,λL H4 n4 s4 M4=>?_⟩)))⟩;have f4:=s4 _ _ f3;have d4:L≠q:=(wj f3 n4).symm;refine⟨_,_,_,rfl,rfl,f4,Jt ⋯,⟨i+1,ys++[.ref L],rfl,⋯,Same.upd2 (s3.trans s4) nq,qu,by rw[au,l3];rfl,λj v e=>?_⟩,?_⟩
   .rcases bF j ys.length with z|z
    .rw[aU z]at e;obtain⟨J,e',d',M'⟩:=g3 j v e;exact⟨J,e',d',MatAt.upd (M'.same s4) ⋯ f4 d' h0⟩
    .rw[aG z]at e;have hj:j=i+1:=by
      rcases bF (j-ys.length) 1 with y|y
      .lia
      .rw[aP (by simpa using y)]at e;cases e
     subst hj;rw[show i+1-ys.length=0 by lia]at e;have:V.ref L=v:=aq e;subst this;exact⟨L,rfl,d4,MatAt.upd (f:=x4 (xu hs) (i+1)) M4 ⋯ f4 d4 h0⟩
   .show(match upd H4 q (.lst (ys++[.ref L])) q with|some (.lst ys)=>(m+1).toNat-ys.length|_=>0)<(match D q with|some (.lst ys)=>(m+1).toNat-ys.length|_=>0);rw[qu,f3];show(m+1).toNat-(ys++[V.ref L]).length<(m+1).toNat-ys.length;rw[au,cM];lia
  .refine exI rfl (k q ys D ab f3 ⋯ λj v e=>?_);obtain⟨J,e',_,M'⟩:=g3 j v e;exact⟨J,e',M'⟩
def covR (hs:List Int)(i j:Int):Prop:=(0<=i/\i<(hs.length:Int)-1)/\loH hs i<=j/\j+1<=hiH hs i
instance (hs:List Int)(i j:Int):Decidable (covR hs i j):=by unfold covR;exact inferInstance
def qkw (xs:List Int):List Int:=xs.drop 1++xs.take 1
theorem xjw (xs:List Int):(qkw xs).length=xs.length:=by unfold qkw;rw[au,dL,bC];lia
def ux (hs xs:List Int):Prop:=(1<=xs.length/\xs.length<=12)/\∀(i:Nat) (x y:Int),xs[i]?=some x->(qkw xs)[i]?=some y->covR hs x y
theorem xqj (xs:List Int):(xs.map V.int).all Y3=true:=by rw[iW];intro v hv;obtain⟨i,_,rfl⟩:=az.mp hv;rfl
def wqk (hs:List Int)(p:Int×Int)(x:Int):Int×Int:=(p.1*(hAt hs (x+1)-hAt hs x),hAt hs x+(hAt hs (x+1)-hAt hs x)*(p.2-x))
def xw (hs xs:List Int):Int×Int:=xs.foldl (wqk hs) (1,0)
theorem wzt (hs xs:List Int)(x:Int):xw hs (xs++[x])=wqk hs (xw hs xs) x:=by unfold xw;rw[List.foldl_append];rfl
theorem yt (hs:List Int){xs:List Int}{i:Nat}{x:Int}(h:xs[i]?=some x):xw hs (xs.take (i+1))=wqk hs (xw hs (xs.take i)) x:=by rw[dB,h];exact wzt hs _ x
theorem qkh (ok:qt hs)(x:Int):(hAt hs (x+1)-hAt hs x).natAbs<=24:=by have a:=qjw ok x;have b:=qjw ok (x+1);lia
theorem J1 (ok:qt hs){xs:List Int}:∀i:Nat,(xw hs (xs.take i)).1.natAbs<=24 ^ i
 |0=>by rw[iz];show(1:Int).natAbs<=1;decide
 |i+1=>by
  have ih:=J1 ok (xs:=xs) i;cases e:xs[i]? with
  |none =>
   have:=fv.mp e;have e1:xs.take (i+1)=xs.take i:=by rw[eF ⋯,eF ⋯]
   rw[e1,dj];exact bI ih (i7 _ ⋯)
  |some x =>
   rw[yt hs e];show((xw hs (xs.take i)).1*(hAt hs (x+1)-hAt hs x)).natAbs<=24 ^ (i+1);rw[eX,dj];exact Nat.mul_le_mul ih (qkh ok x)
def qyc (K:Aa)(C:Aj):Sp:=λvs H Q _=>∃(r a:Aj) (hs xs:List Int),vs=[.ref r,.ref a]/\RoadAt C H r hs/\qt hs/\SqT K H a (xs.map V.int)/\(∀x∈xs,0<=x/\x<(hs.length:Int)-1) /\
 ∀p H',Same H H'->H' p=some (.tup [.int (xw hs xs).1,.int (xw hs xs).2])->Q (.ref p) H'
include T in
theorem xz3 (F:Fun K "line_along" "line_along" zbg f fd)(zfc:MCal P w K mg base qy "slope" 3 (qyq qy qp))(zah:MCal P w K mg base qy "ends" 2 (qqx qy qp)):FK P w K mg base 4 f fd ["road","row"] (qyc K qy):=by
 have U:=qvr;refine F.okX U (λvs H Q E h=>by obtain⟨_,_,_,_,rfl,_⟩:=h;rfl) λ_ _ _ _ H vs Q E J h=>?_;obtain⟨r,a,hs,xs,rfl,D,ok,L,hx,k⟩:=h;refine⟨_,(qj (wg (i:=2) qv)
   (qj (wg (i:=3) qv)
   (qj (ky aV rfl (pi_tup (pv 1)) (xz (i:=4)) (qj (wg (i:=5) (km (pv 0) T.cl zfc (J.mono ⋯) q8 (qw (pv 4) qk)))
   (qj (wg (i:=6) (wn wt (km (pv 0) T.cl zah (J.mono ⋯) q8 (qw (pv 4) qk)) qv (λ_ _=>rfl)))
   (qj (wg (i:=2) (q9 xq (pv 2) (pv 5)))
   (qr (wg (i:=3) (q9 xj (pv 6) (q9 xq (pv 5) (q9 zd (pv 3) (pv 4))))))))))
   (qr (xx (vy (qw (pv 2) (qw (pv 3) qk)))))))),?_⟩
 refine exI rfl ⟨a,rfl,⟨_,L⟩,xjy (xs:=xs.map V.int) (λi σ H'=>Same H H'/\∃z4 z5 z6,σ=[some (.ref r),some (.ref a),some (.int (xw hs (xs.take i)).1),some (.int (xw hs (xs.take i)).2),z4,z5,z6]) ⟨Same.refl _,_,_,_,rfl⟩ (λi σ H' _ h=>h.1.sqt L) ?_ ?_⟩
 .rintro i v σ H1 ev ⟨s1,z4,z5,z6,rfl⟩;rw[ax]at ev;obtain⟨x,ex,rfl⟩:=cL.mp ev;obtain⟨x0,x1⟩:=hx x (aE ex);obtain⟨dx,Z,h1,h2⟩:=id (D.same s1);have sl:=qkh ok x;refine⟨_,rfl,r,dx,_,rfl,h1,xc (by decide +kernel),_,rfl,r,hs,x,rfl,D.same s1,λ_ _ H2 s2=>?_,λz=>absurd z ⋯⟩;obtain⟨dx,Z,h1,h2⟩:=id (D.same (s1.trans s2));refine⟨_,rfl,r,dx,_,rfl,h1,xc (by decide +kernel),_,rfl,r,hs,x,rfl,D.same (s1.trans s2),λ_ _ p3 n3=>?_,λz=>absurd z ⋯⟩;have W:=Same.upd (o:=.tup [.int (hAt hs x),.int (hAt hs (x+1))]) n3;refine exX rfl rfl SqT.new rfl ?_;refine exI rfl (exI rfl (wy rfl rfl ⟨IntMulOk.of_right (intBits_le_64 ⋯ ⋯),?_⟩));refine exI rfl (exI rfl (exI rfl (exI rfl (wy rfl rfl (wy rfl rfl ⟨IntMulOk.of_left (intBits_le_64 ⋯ ⋯),wy rfl rfl ?_⟩)))));refine⟨s1.trans (s2.trans W),some (.int x),some (.int (hAt hs (x+1)-hAt hs x)),some (.int (hAt hs x)),?_⟩;rw[yt hs ex];rfl
 .rintro σ H1 ⟨s1,z4,z5,z6,rfl⟩;rw[af,bf];refine exI rfl (exI rfl ⟨sz2,λp np=>k p _ (s1.trans (Same.upd np)) qu⟩)
variable {xs:List Int}
theorem wu8 (c:ux hs xs):∀x∈xs,0<=x/\x<(hs.length:Int)-1:=λx hx=>by
 obtain⟨i,hi,rfl⟩:=cE hx;have h2:i<(qkw xs).length:=by rw[xjw];exact hi
 exact(c.2 i xs[i] (qkw xs)[i] (aa hi) (aa h2)).1
def FixR (H:Hp)(p:Int×Int)(v:V):Prop:=(p.1=1/\v=.non)\/(p.1≠1/\∃q,v=.ref q/\H q=some (.tup (ptV (if p.1>1 then wv (-p.2) (p.1-1) else wv p.2 (1-p.1)))))
def quc (K:Aa)(C:Aj):Sp:=λvs H Q _=>∃(r a:Aj) (hs xs:List Int),vs=[.ref r,.ref a]/\RoadAt C H r hs/\qt hs/\SqT K H a (xs.map V.int)/\(∀x∈xs,0<=x/\x<(hs.length:Int)-1)/\xs.length<=12 /\
 ∀v H',Same H H'->FixR H' (xw hs xs) v->Q v H'
include T in
theorem xvy (F:Fun K "fixed_point" "fixed_point" zbh f fd)(zfd:Cal P w K mg base "line_along" 4 (qyc K qy))(zaj:Cal P w K mg base "lowest" 2 (Wp qx)):FK P w K mg base 5 f fd ["road","row"] (quc K qy):=by
 have sc:=qzw;refine F.okX sc (λvs H Q E h=>by obtain⟨_,_,_,_,rfl,_⟩:=h;rfl) λ_ _ _ _ H vs Q E U h=>?_;obtain⟨r,a,hs,xs,rfl,hR,Z,hT,hx,hl,k⟩:=h;have D:=J1 Z (xs:=xs) xs.length;rw[bf]at D;have D:(xw hs xs).1.natAbs<=24 ^ 12:=bI D (du ⋯ hl);have ad:(24:Nat) ^ 12=36520347436056576:=by decide
 rw[ad]at D;refine⟨_,(qj (yn (wu zfd (U.mono ⋯) rfl q8 (qw (pv 0) (qw (pv 1) qk))) (yz rfl (xt (xz (i:=2)) (xt (xz (i:=3)) jw))))
   (qj (zp (w8 j8 (pv 2) qv (xv _)) (qr (xx qxu)) xn)
   (qj (zp (w8 Q9 (pv 2) qv (xv _)) (qr (xx (wu zaj (U.mono ⋯) rfl q8 (qw (Q6 yj (pv 3)) (qw (q9 zd (pv 2) qv) qk))))) xn)
   (qr (xx (wu zaj (U.mono ⋯) rfl q8 (qw (pv 3) (qw (q9 zd qv (pv 2)) qk)))))))),?_⟩
 refine exI rfl (exI rfl ⟨r,a,hs,xs,rfl,hR,Z,hT,hx,λp H1 J W=>?_⟩);unfold FixR at k;generalize (xw hs xs).1=st at D W k;generalize (xw hs xs).2=ht at W k;refine⟨p,exI rfl ⟨SqT.of W,rfl,_,_,rfl,_,_,rfl,rfl,?_⟩⟩;refine exI rfl ⟨rfl,_,rfl,jr (λz=>?_) (λz=>?_)⟩
 .exact k _ _ J (.inl ⟨z,rfl⟩)
 .refine exI rfl (wy rfl rfl (exI rfl (jb (λy=>?_) (λy=>?_))))
  .refine⟨_,rfl,_,rfl,_,rfl,_,_,rfl,rfl,_,_,rfl,λ_=>⟨Sm.small ⋯ ⋯ ⋯,λq L=>?_⟩,λw=>absurd w ⋯⟩;refine k _ _ (J.trans (Same.upd L)) (.inr ⟨z,q,rfl,?_⟩);rw[aw y];exact qu
  .refine⟨_,rfl,_,rfl,_,_,rfl,rfl,_,_,rfl,λ_=>⟨Sm.small ⋯ ⋯ ⋯,λq L=>?_⟩,λw=>absurd w ⋯⟩;refine k _ _ (J.trans (Same.upd L)) (.inr ⟨z,q,rfl,?_⟩);rw[ar y];exact qu
variable {i:Nat}
theorem wkb (h:i+1<xs.length):(qkw xs)[i]?=xs[i+1]?:=by unfold qkw;rw[aU (by rw[dL];lia),fT,Nat.add_comm]
theorem wkc (h:i+1=xs.length):(qkw xs)[i]?=xs[0]?:=by unfold qkw;rw[aG (by rw[dL];lia),dL,show i-(xs.length-1)=0 by lia,fM,aw ⋯]
def covT (hs:List Int)(i j:Nat):Int:=if loH hs ((0:Int)+i)<=(0:Int)+j/\(0:Int)+j+1<=hiH hs ((0:Int)+i) then 1 else 0
theorem wkn:∀(m:Nat) (lo:Int) (j:Nat),0<=lo->((List.range m).map λk:Nat=>(if j=(lo+k).toNat then(1:Int) else 0)).sum=if lo<=j/\(j:Int)<lo+m then 1 else 0
 |0,lo,j,h=>by rw[ar ⋯];rfl
 |m+1,lo,j,h=>by
  rw[bz,aK,bZ,wkn m lo j h,aC,di,bi,eG];by_cases z:j=(lo+m).toNat
  .rw[aw z,ar ⋯,aw ⋯];rfl
  .rw[ar z];by_cases y:lo<=j/\(j:Int)<lo+m
   .rw[aw y,aw ⋯];rfl
   .rw[ar y,ar ⋯];rfl
theorem wkh (ok:qt hs)(i j:Nat):x4 (xu hs) 1 i j=covT hs i j:=by
 show((xu hs i).map λv=>if j=v.toNat then(1:Int) else 0).sum=_;have l:=qy9 ok ((0:Int)+i);unfold xu zg covT;rw[aN];have:=wkn (hiH hs ((0:Int)+i)-loH hs ((0:Int)+i)).toNat (loH hs ((0:Int)+i)) j l.1;show((List.range _).map λk:Nat=>(if j=(loH hs ((0:Int)+i)+k).toNat then(1:Int) else 0)).sum=_;rw[this];by_cases z:loH hs ((0:Int)+i)<=(0:Int)+j/\(0:Int)+j+1<=hiH hs ((0:Int)+i)
 .rw[aw z,aw ⋯]
 .rw[ar z,ar ⋯]
def bgR (hs:List Int)(f m:Nat):Nat->List (List Int)
 |0=>if 0<x4 (xu hs) m f f then [[(0:Int)+f]] else []
 |t+1=>Z8 (λv=>decide (0<x4 (xu hs) (m-1-t) v.toNat f)) (λr=>xu hs (r.getLastD 0).toNat) (bgR hs f m t)
def xf (hs:List Int)(m:Nat):List (List Int):=(List.range (hs.length-1)).flatMap λf=>bgR hs f m (m-1)
def cvr (hs:List Int)(x y:Int):Prop:=loH hs x<=y/\y+1<=hiH hs x
theorem mem_cov:y∈zg hs x↔cvr hs x y:=by
 unfold zg cvr;constructor
 .intro h;obtain⟨j,hj,rfl⟩:=az.mp h;have:=al.mp hj;lia
 .intro h;exact az.mpr ⟨(y-loH hs x).toNat,al.mpr ⋯,⋯⟩
theorem qw0 (h:0<=x):xu hs x.toNat=zg hs x:=by unfold xu;rw[show(0:Int)+(x.toNat:Int)=x by lia]
theorem Z1 (r:List Int)(x:Int):(r++[x]).getLastD 0=x:=by rw[iC,dY];rfl
variable {r:List Int}
theorem qjn (h:r≠[]):r.getLastD 0=r.getD (r.length-1) 0:=by rw[iC,dS,ae]
theorem mem_addR {c:Int->Bool}{vs x:List Int}:x∈Yg c r vs↔∃v∈vs,c v=true/\x=r++[v]:=by
 unfold Yg;rw[az];constructor
 .rintro⟨v,z,rfl⟩;obtain⟨h1,h2⟩:=bo.mp z;exact⟨v,h1,h2,rfl⟩
 .rintro⟨v,h1,h2,rfl⟩;exact⟨v,bo.mpr ⟨h1,h2⟩,rfl⟩
theorem mem_allR {c:Int->Bool}{g:List Int->List Int}{L:List (List Int)}{x:List Int}:x∈Z8 c g L↔∃r∈L,∃v∈g r,c v=true/\x=r++[v]:=by
 unfold Z8;rw[List.mem_flatMap];constructor
 .rintro⟨r,z,h⟩;exact⟨r,z,mem_addR.mp h⟩
 .rintro⟨r,z,h⟩;exact⟨r,z,mem_addR.mpr h⟩
def Beg (hs:List Int)(f m t:Nat)(r:List Int):Prop:=r.length=t+1/\r.getD 0 0=(0:Int)+f/\(∀x∈r,0<=x/\x<(hs.length:Int)-1)/\(∀i,i<t->cvr hs (r.getD i 0) (r.getD (i+1) 0))/\0<x4 (xu hs) (m-t) (r.getLastD 0).toNat f
theorem Y0 {v:Int}(h:i<r.length):(r++[v]).getD i 0=r.getD i 0:=by rw[ae,ae,aU h]
theorem xvz {v:Int}(h:i=r.length):(r++[v]).getD i 0=v:=by subst h;rw[ae,aG (ak _),Nat.sub_self];rfl
variable {m:Nat}
theorem qzt {f t:Nat}(h:Beg hs f m t r):r.getLastD 0=r.getD t 0/\0<=r.getLastD 0/\r.getLastD 0<(hs.length:Int)-1:=by
 obtain⟨l,_,g,_⟩:=h;have D:r≠[]:=λz=>by rw[z]at l;cases l
 have e:=qjn D;rw[l,fU]at e;refine⟨e,?_⟩;rw[e,ae,aa ⋯];exact g _ (bD _)
theorem Z0 (ok:qt hs){f m:Nat}(hf:f<hs.length-1):∀t,∀r∈bgR hs f m t,Beg hs f m t r
 |0,r,hr=>by
  unfold bgR at hr;split at hr
  .next p =>
   obtain rfl:=aM.mp hr;refine⟨rfl,rfl,λx hx=>?_,λi hi=>absurd hi (gX _),?_⟩
   .rw[aM.mp hx];lia
   .show 0<x4 (xu hs) m ((0:Int)+f).toNat f;rw[show((0:Int)+f).toNat=f by lia];exact p
  .cases hr
 |t+1,r,hr=>by
  obtain⟨q,hq,v,hv,hc,rfl⟩:=mem_allR.mp hr;have b:=Z0 ok hf t q hq;obtain⟨e1,e2,e3⟩:=qzt b;obtain⟨l,h0,g,ch,_⟩:=b;rw[qw0 e2]at hv;have cv:=mem_cov.mp hv;have vr:=Zk ok _ v hv;refine⟨by rw[au,l];rfl,by rw[Y0 ⋯];exact h0,λx hx=>?_,λi hi=>?_,?_⟩
  .rcases aW.mp hx with z|z
   .exact g x z
   .rw[aM.mp z];lia
  .rcases(by lia:i<t\/i=t) with z|z
   .rw[Y0 ⋯,Y0 ⋯];exact ch i z
   .subst z;rw[Y0 ⋯,xvz ⋯,<-e1];exact cv
  .rw[Z1,show m-(t+1)=m-1-t by lia];exact c0 hc
theorem Qc (cov:Nat->List Int):∀(m i j:Nat),0<=x4 cov m i j
 |0,i,j=>by unfold x4;split <;> decide
 |m+1,i,j=>by
  show 0<=((cov i).map λv=>x4 cov m v.toNat j).sum;generalize cov i=l
  induction l with
  |nil=>exact bV _
  |cons v l ih =>
   rw[aC,bi];have:=Qc cov m v.toNat j;lia
theorem wxm {F:Int->Int}(h:∀v,0<=F v)(r:List Int):∀vs:List Int,((Yg (λv=>decide (0<F v)) r vs).map λq=>F (q.getLastD 0)).sum=(vs.map F).sum
 |[]=>rfl
 |v::vs=>by
  have ih:=wxm h r vs;unfold Yg at ih ⊢;rw[dM,aC,bi,<-ih];by_cases z:0<F v
  .rw[aw (aF z),aC,aC,bi,Z1]
  .rw[ar (by simpa using z)];have:=h v;lia
theorem ww6 {F:Int->Int}(h:∀v,0<=F v)(g:List Int->List Int):∀L:List (List Int),((Z8 (λv=>decide (0<F v)) g L).map λq=>F (q.getLastD 0)).sum=(L.map λr=>((g r).map F).sum).sum
 |[]=>rfl
 |r::L=>by have ih:=ww6 h g L;unfold Z8 at ih ⊢;rw[List.flatMap_cons,aK,bZ,ih,aC,bi,wxm h]
theorem wvw (hs:List Int)(f m:Nat):∀t,t<=m->((bgR hs f m t).map λr=>x4 (xu hs) (m-t) (r.getLastD 0).toNat f).sum=x4 (xu hs) m f f
 |0,_=>by
  have p:=Qc (xu hs) m f f;unfold bgR;split
  .show x4 (xu hs) m ((0:Int)+f).toNat f+0=_;rw[show((0:Int)+f).toNat=f by lia,dI]
  .show(0:Int)=_;lia
 |t+1,h=>by have ih:=wvw hs f m t ⋯;rw[show m-t=(m-1-t)+1 by lia]at ih;rw[<-ih,show m-(t+1)=m-1-t by lia];exact ww6 (F:=λv=>x4 (xu hs) (m-1-t) v.toNat f) (λv=>Qc _ _ _ _) (λr=>xu hs (r.getLastD 0).toNat) (bgR hs f m t)
theorem qx5 {F:α->Int}:∀ {L:List α},(∀r∈L,1<=F r)->(L.length:Int)<=(L.map F).sum
 |[],_=>bV _
 |r::L,h=>by have ih:=qx5 (L:=L) λr hr=>h r (.tail _ hr);have:=h r (.head _);rw[aC,bi,aJ];lia
theorem qxf {F:α->Int}:∀ {L:List α},(∀r∈L,F r=1)->(L.length:Int)=(L.map F).sum
 |[],_=>rfl
 |r::L,h=>by have ih:=qxf (L:=L) λr hr=>h r (.tail _ hr);have:=h r (.head _);rw[aC,bi,aJ];lia
theorem xzt (ok:qt hs){f m t:Nat}(hf:f<hs.length-1)(ht:t<=m):((bgR hs f m t).length:Int)<=x4 (xu hs) m f f:=by rw[<-wvw hs f m t ht];exact qx5 λr hr=>(Z0 ok hf t r hr).2.2.2.2
theorem bg_len (ok:qt hs){f m:Nat}(hf:f<hs.length-1)(hm:1<=m):((bgR hs f m (m-1)).length:Int)=x4 (xu hs) m f f:=by
 rw[<-wvw hs f m (m-1) ⋯];refine qxf λr D=>?_;have h:=(Z0 ok hf _ r D).2.2.2.2;rw[show m-(m-1)=1 by lia]at h ⊢;rw[wkh ok]at h ⊢;unfold covT at h ⊢;split at h
 .next z=>rw[aw z]
 .next z=>exact absurd h (jU 0)
theorem qx4 (F:Nat->List α)(n:Nat):((((List.range n).flatMap F).length:Nat):Int)=vw n λk=>((F k).length:Int):=by
 induction n with
 |zero=>rfl
 |succ n ih =>
  rw[k7,<-ih,bz,g8,au];simp
theorem qkf (ok:qt hs){m:Nat}(hm:1<=m):((xf hs m).length:Int)=vw (hs.length-1) λf=>x4 (xu hs) m f f:=by unfold xf;rw[qx4];exact jy λf hf=>bg_len ok hf hm
def wwv (L:List (List Int)):Prop:=L.Pairwise λa b=>ku a b=true
def ClR (hs:List Int)(m:Nat)(r:List Int):Prop:=r.length=m/\(∀x∈r,0<=x/\x<(hs.length:Int)-1)/\(∀i,i+1<m->cvr hs (r.getD i 0) (r.getD (i+1) 0))/\cvr hs (r.getD (m-1) 0) (r.getD 0 0)
theorem wwu {c:Nat->Int}(hc:∀t,t<m->c (t+1)∈xu hs (c t).toNat):∀d t,t+d=m->0<x4 (xu hs) d (c t).toNat (c m).toNat
 |0,t,e=>by
  obtain rfl:t=m:=by lia
  unfold x4;rw[aw rfl];decide
 |d+1,t,e=>by
  have F:=wwu hc d (t+1) ⋯;have D:=hc t ⋯;show 0<((xu hs (c t).toNat).map λv=>x4 (xu hs) d v.toNat (c m).toNat).sum;generalize xu hs (c t).toNat=l at D
  induction l with
  |nil=>cases D
  |cons v l ihl =>
   rw[aC,bi];rcases aO.mp D with z|z
   .rw[<-z];have:0<=(l.map λv=>x4 (xu hs) d v.toNat (c m).toNat).sum:=by
     clear ihl D
     induction l with
     |nil=>exact bV _
     |cons w l ih2=>rw[aC,bi];have:=Qc (xu hs) d w.toNat (c m).toNat;lia
    lia
   .have:=ihl z;have:=Qc (xu hs) d v.toNat (c m).toNat;lia
theorem vm (ok:qt hs){m:Nat}(hm:1<=m){r:List Int}:r∈xf hs m↔ClR hs m r:=by
 unfold xf;rw[List.mem_flatMap];constructor
 .rintro⟨f,L,Z⟩;have L:=al.mp L;have b:=Z0 ok L _ r Z;obtain⟨e1,e2,e3⟩:=qzt b;obtain⟨l,h0,g,ch,p⟩:=b;refine⟨⋯,g,λi hi=>ch i ⋯,?_⟩;rw[show m-(m-1)=1 by lia,wkh ok]at p;unfold covT at p;split at p
  .next z =>
   rw[show(0:Int)+((r.getLastD 0).toNat:Int)=r.getLastD 0 by lia]at z;rw[<-e1,h0];exact z
  .exact absurd p (jU 0)
 .rintro⟨l,g,ch,cl⟩;have F:∀i,i<m->0<=r.getD i 0/\r.getD i 0<(hs.length:Int)-1:=λi hi=>by rw[ae,aa ⋯];exact g _ (bD _)
  have r0:=F 0 ⋯;have hc:∀t,t<m->(if t+1=m then r.getD 0 0 else r.getD (t+1) 0)∈xu hs ((if t=m then r.getD 0 0 else r.getD t 0)).toNat:=λt D=>by
   rw[ar ⋯,qw0 (F t D).1];split
   .next z =>
    obtain rfl:t=m-1:=by lia
    exact mem_cov.mpr cl
   .next z=>exact mem_cov.mpr (ch t ⋯)
  have U:∀t,t<m->0<x4 (xu hs) (m-t) (r.getD t 0).toNat (r.getD 0 0).toNat:=λt D=>by have:=wwu (c:=λt=>if t=m then r.getD 0 0 else r.getD t 0) hc (m-t) t ⋯;rw[ar (show ¬ t=m by lia),aw rfl]at this;exact this
  have W:∀t,t<m->r.take (t+1)∈bgR hs (r.getD 0 0).toNat m t:=λt=>by
   induction t with
   |zero =>
    intro _;have p:=U 0 ⋯;unfold bgR;rw[Nat.sub_zero]at p;rw[aw p,show(0:Int)+((r.getD 0 0).toNat:Int)=r.getD 0 0 by lia]
    match r,l with
    |[],l=>simp at l;lia
    |x::r,_=>exact .head _
   |succ t J =>
    intro D;have J:=J ⋯;have et:r.take (t+1+1)=r.take (t+1)++[r.getD (t+1) 0]:=by rw[dB,aa ⋯,ae,aa ⋯];rfl
    have el:(r.take (t+1)).getLastD 0=r.getD t 0:=by rw[qjn (λz=>by have:=b7 List.length z;rw[bC,da]at this;lia),bC,jF ⋯,fU,ae,fM,aw ⋯,ae]
    rw[et];refine mem_allR.mpr ⟨r.take (t+1),J,r.getD (t+1) 0,?_,aF ?_,rfl⟩
    .rw[el,qw0 (F t ⋯).1];exact mem_cov.mpr (ch t ⋯)
    .rw[show m-1-t=m-(t+1) by lia];exact U (t+1) D
  refine⟨(r.getD 0 0).toNat,al.mpr ⋯,?_⟩;have:=W (m-1) ⋯;rw[show m-1+1=r.length by lia,bf]at this;exact this
def Byd (e B v:Int):Prop:=(0<v/\v<=e-B)\/(v<0/\e<=v)
variable {B:Int}
theorem xxs {h t v:Int}(hB:1<=B)(up:a>0->h<=y/\y+1<=h+a)(dn:a<0->h+a<=y/\y+1<=h)(nz:a≠0)(b:Byd (t-x*B) B v):Byd (h*B+a*(t-x*B)-y*B) B (a*v):=by
 generalize t-x*B=e at b ⊢;rcases(by lia:a>0\/a<0) with z|z
 .obtain⟨u1,u2⟩:=up z;rcases b with⟨F,D⟩|⟨F,D⟩
  .refine .inl ⟨eY z F,?_⟩;have L:a*v<=a*(e-B):=aR D ⋯;have J:(y+1)*B<=(h+a)*B:=aj u2 ⋯;rw[fZ]at L;rw[be,be,aS]at J;lia
  .refine .inr ⟨iD z F,?_⟩;have L:a*e<=a*v:=aR D ⋯;have J:h*B<=y*B:=aj u1 ⋯;lia
 .obtain⟨u1,u2⟩:=dn z;rcases b with⟨F,D⟩|⟨F,D⟩
  .refine .inr ⟨Int.mul_neg_of_neg_of_pos z F,?_⟩;have L:a*(e-B)<=a*v:=eA ⋯ D;have J:(h+a)*B<=y*B:=aj u1 ⋯;rw[fZ]at L;rw[be]at J;lia
  .refine .inl ⟨fA z F,?_⟩;have L:a*v<=a*e:=eA ⋯ D;have J:(y+1)*B<=h*B:=aj u2 ⋯;rw[be,aS]at J;lia
def uu (a:Nat->Int)(i:Nat):Nat->Int
 |0=>1
 |k+1=>uu a i k*a (i+k)
variable {h:Nat->Int}
theorem qum {c t a:Nat->Int}(hB:1<=B)(st:∀i,i<n->t (i+1)=h i*B+a i*(t i-c i*B))(up:∀i,i<n->a i>0->h i<=c (i+1)/\c (i+1)+1<=h i+a i)(dn:∀i,i<n->a i<0->h i+a i<=c (i+1)/\c (i+1)+1<=h i)(nz:∀i,i<n->a i≠0)
  {i:Nat} {v:Int} (b:Byd (t i-c i*B) B v):∀k,i+k<=n->Byd (t (i+k)-c (i+k)*B) B (v*uu a i k)
 |0,_=>by rw[show v*uu a i 0=v from iH v];exact b
 |k+1,hk=>by
  have ih:=qum hB st up dn nz b k ⋯;have s:=xxs hB (up (i+k) ⋯) (dn (i+k) ⋯) (nz (i+k) ⋯) ih;rw[show h (i+k)*B+a (i+k)*(t (i+k)-c (i+k)*B)=t (i+k+1) from (st (i+k) ⋯).symm]at s;have e:v*uu a i (k+1)=a (i+k)*(v*uu a i k):=by show v*(uu a i k*a (i+k))=_;rw[<-gK,bj]
  rw[e];exact s
theorem xk4 {c t a:Nat->Int}(hB:1<=B)(st:∀i,i<n->t (i+1)=h i*B+a i*(t i-c i*B))(up:∀i,i<n->a i>0->h i<=c (i+1)/\c (i+1)+1<=h i+a i)(dn:∀i,i<n->a i<0->h i+a i<=c (i+1)/\c (i+1)+1<=h i)(nz:∀i,i<n->a i≠0)
  (et:t n=t 0) (ec:c n=c 0) (ns:uu a 0 n≠1) (ns0:uu a 0 n≠0):∀i,i<=n->0<=t i-c i*B/\t i-c i*B<=B:=by
 have Z:∀v,¬ Byd (t 0-c 0*B) B v:=λv b=>by
  have D:∀v,Byd (t 0-c 0*B) B v->Byd (t 0-c 0*B) B (v*uu a 0 n):=λv b=>by have r:=qum hB st up dn nz b n ⋯;rw[cW,et,ec]at r;exact r
  generalize t 0-c 0*B=e at b D;generalize uu a 0 n=s at ns ns0 D;rcases b with⟨W,U⟩|⟨W,U⟩
  .rcases D (e-B) (.inl ⟨⋯,⋯⟩) with⟨J,F⟩|⟨J,F⟩
   .have s0:0<s:=by
     rcases(by lia:0<s\/s<0) with q|q
     .exact q
     .have:=iD (show 0<e-B by lia) q;lia
    have:(e-B)*2<=(e-B)*s:=aR ⋯ ⋯;lia
   .lia
  .rcases D e (.inr ⟨⋯,⋯⟩) with⟨J,F⟩|⟨J,F⟩
   .lia
   .have s0:0<s:=by
     rcases(by lia:0<s\/s<0) with q|q
     .exact q
     .have:=fA (show e<0 by lia) q;lia
    have:e*s<=e*2:=eA ⋯ ⋯;lia
 intro i hi;have L:∀v,¬ Byd (t i-c i*B) B v:=λv b=>by have r:=qum hB st up dn nz b (n-i) ⋯;rw[show i+(n-i)=n by lia,et,ec]at r;exact Z _ r
 constructor
 .rcases bh (t i-c i*B) 0 with z|z
  .exact absurd (.inr ⟨z,bV _⟩) (L (t i-c i*B))
  .exact z
 .rcases bh B (t i-c i*B) with z|z
  .exact absurd (.inl ⟨⋯,bV _⟩) (L (t i-c i*B-B))
  .exact z
def wb (xs:List Int)(i:Nat):Int:=xs.getD (i%xs.length) 0
def Qr (hs xs:List Int)(T B:Int)(i:Nat):Int:=(xw hs (xs.take i)).1*T+(xw hs (xs.take i)).2*B
theorem jh (h:i<xs.length):xs[i]?=some (wb xs i):=by unfold wb;rw[d8 h,ae,aa h];rfl
theorem Qh (h:i<xs.length):(qkw xs)[i]?=some (wb xs (i+1)):=by
 rcases(by lia:i+1<xs.length\/i+1=xs.length) with z|z
 .rw[wkb z];exact jh z
 .rw[wkc z];unfold wb;rw[z,Nat.mod_self,ae,aa ⋯];rfl
theorem yf (hs xs:List Int)(T B:Int):Qr hs xs T B 0=T:=by unfold Qr;rw[iz];show(1:Int)*T+(0:Int)*B=T;lia
theorem ut {T:Int}(h:i<xs.length):Qr hs xs T B (i+1)=hAt hs (wb xs i)*B+(hAt hs (wb xs i+1)-hAt hs (wb xs i))*(Qr hs xs T B i-wb xs i*B):=by unfold Qr;rw[yt hs (jh h)];unfold wqk;dsimp only;generalize (xw hs (xs.take i)).1=p;generalize (xw hs (xs.take i)).2=q;generalize hAt hs (wb xs i)=u;generalize hAt hs (wb xs i+1)=v;generalize wb xs i=x;grind
theorem qx0:∀k:Nat,k<=xs.length->uu (λi=>hAt hs (wb xs i+1)-hAt hs (wb xs i)) 0 k=(xw hs (xs.take k)).1
 |0,_=>by rw[iz];rfl
 |k+1,h=>by rw[yt hs (jh (show k<xs.length by lia))];show uu _ 0 k*(hAt hs (wb xs (0+k)+1)-hAt hs (wb xs (0+k)))=(xw hs (xs.take k)).1*(hAt hs (wb xs k+1)-hAt hs (wb xs k));rw[qx0 k ⋯,cW]
theorem row_in (c:ux hs xs){T B:Int}(hB:1<=B)(ns:(xw hs xs).1≠1)(fx:(xw hs xs).1*T+(xw hs xs).2*B=T){i:Nat}(hi:i<xs.length) :
  wb xs i*B<=Qr hs xs T B i/\Qr hs xs T B i<=(wb xs i+1)*B:=by
 have F:∀j,j<xs.length->covR hs (wb xs j) (wb xs (j+1)):=λj D=>c.2 j _ _ (jh D) (Qh D);have J:∀j,j<xs.length->hAt hs (wb xs j+1)-hAt hs (wb xs j)≠0:=λj D=>by have:=(F j D).2;unfold loH hiH jj yp at this;split at this <;> split at this <;> lia
 have ep:uu (λi=>hAt hs (wb xs i+1)-hAt hs (wb xs i)) 0 xs.length=(xw hs xs).1:=by rw[qx0 _ (ak _),bf]
 have L:∀k,k<=xs.length->uu (λi=>hAt hs (wb xs i+1)-hAt hs (wb xs i)) 0 k≠0:=λk=>by
  induction k with
  |zero=>intro _ z;cases z
  |succ k ih =>
   intro U z;rcases dC.mp z with z|z
   .exact ih ⋯ z
   .rw[cW]at z;exact J k ⋯ z
 have r:=xk4 (n:=xs.length) (B:=B) (c:=wb xs) (t:=Qr hs xs T B) (h:=λi=>hAt hs (wb xs i)) (a:=λi=>hAt hs (wb xs i+1)-hAt hs (wb xs i)) hB (λj D=>ut D)
  (λj D z=>by
   have:=(F j D).2
   have z:hAt hs (wb xs j+1)-hAt hs (wb xs j)>0:=z
   unfold loH hiH jj yp at this
   show hAt hs (wb xs j)<=wb xs (j+1)/\wb xs (j+1)+1<=hAt hs (wb xs j)+(hAt hs (wb xs j+1)-hAt hs (wb xs j))
   split at this <;> split at this <;> lia)
  (λj D z=>by
   have:=(F j D).2
   have z:hAt hs (wb xs j+1)-hAt hs (wb xs j)<0:=z
   unfold loH hiH jj yp at this
   show hAt hs (wb xs j)+(hAt hs (wb xs j+1)-hAt hs (wb xs j))<=wb xs (j+1)/\wb xs (j+1)+1<=hAt hs (wb xs j)
   split at this <;> split at this <;> lia)
  J (by rw[yf];unfold Qr;rw[bf];exact fx) (by unfold wb;rw[Nat.mod_self,Nat.zero_mod]) (by rw[ep];exact ns) (L _ (ak _)) i (bp hi)
 rw[be,aS];lia
theorem jf {t:Int}(hb:1<=b)(g:gOf t b=1):wv t b=(t,b):=by unfold wv;rw[g,jl,jl]
theorem jt (m1:1<=m)(m2:m<=12)(c:ClR hs m r):ux hs r:=by
 obtain⟨Z,U,W,J⟩:=c;refine⟨⟨⋯,⋯⟩,λi x y ex D=>?_⟩;have hi:=(am.mp ex).1;have L:r.getD i 0=x:=by rw[ae,ex];rfl
 refine⟨U x (aE ex),?_⟩;by_cases z:i+1<r.length
 .rw[wkb z]at D;have F:r.getD (i+1) 0=y:=by rw[ae,D];rfl
  have:=W i ⋯;rw[L,F]at this;exact this
 .rw[wkc ⋯]at D;have F:r.getD 0 0=y:=by rw[ae,D];rfl
  rw[show m-1=i by lia,L,F]at J;exact J
theorem uq (xs:List Int):wb xs 0=xs.getD 0 0:=by unfold wb;rw[Nat.zero_mod]
theorem wu3 (xs:List Int):wb xs xs.length=wb xs 0:=by unfold wb;rw[Nat.mod_self,Nat.zero_mod]
theorem Wm (hs xs:List Int)(T B:Int):Qr hs xs T B xs.length=(xw hs xs).1*T+(xw hs xs).2*B:=by unfold Qr;rw[bf]
theorem wvk {T:Int}(hB:1<=B)(hx:∀i,i<xs.length->0<=wb xs i/\wb xs i<(hs.length:Int)-1)(hin:∀i,i<xs.length->wb xs i*B<=Qr hs xs T B i/\Qr hs xs T B i<=(wb xs i+1)*B):∀i,i<=xs.length->trT hs T B i=Qr hs xs T B i
 |0,_=>(yf hs xs T B).symm
 |i+1,hi=>by have ih:=wvk hB hx hin i ⋯;obtain⟨x0,x1⟩:=hx i ⋯;obtain⟨l1,l2⟩:=hin i ⋯;show x9 hs (trT hs T B i) B=_;rw[ih,vh x0 x1 hB l1 l2,ut ⋯]
theorem qup (c:ux hs xs):∀i,i<xs.length->0<=wb xs i/\wb xs i<(hs.length:Int)-1:=λi hi=>wu8 c _ (aE (jh hi))
def Wk (p:Int×Int):Int×Int:=if p.1>1 then wv (-p.2) (p.1-1) else wv p.2 (1-p.1)
theorem xzn (h:p.1≠1):1<=(Wk p).2/\gOf (Wk p).1 (Wk p).2=1/\p.1*(Wk p).1+p.2*(Wk p).2=(Wk p).1:=by
 unfold Wk;by_cases z:p.1>1
 .rw[aw z];have c:=zu (t:=-p.2) (b:=p.1-1) ⋯;exact⟨zx ⋯,Yq ⋯,by grind⟩
 .rw[ar z];have c:=zu (t:=p.2) (b:=1-p.1) ⋯;exact⟨zx ⋯,Yq ⋯,by grind⟩
theorem xwq {t:Int}(h:p.1≠1)(hb:1<=b)(g:gOf t b=1)(e:p.1*t+p.2*b=t):Wk p=(t,b):=by
 unfold Wk;by_cases z:p.1>1
 .rw[aw z,<-jf hb g];exact(yq ⋯ hb).mp (by grind)
 .rw[ar z,<-jf hb g];exact(yq ⋯ hb).mp (by grind)
theorem wxg (c:ux hs xs)(ns:(xw hs xs).1≠1):x6 hs (Wk (xw hs xs)).1 (Wk (xw hs xs)).2/\trT hs (Wk (xw hs xs)).1 (Wk (xw hs xs)).2 xs.length=(Wk (xw hs xs)).1:=by
 obtain⟨J,_,L⟩:=xzn ns;have F:=λi hi=>row_in c J ns L (i:=i) hi;constructor
 .obtain⟨D,z⟩:=F 0 (by have:=c.1.1;lia);obtain⟨U,W⟩:=qup c 0 (by have:=c.1.1;lia);rw[yf]at D z;exact⟨dr (aX U ⋯) D,dr z (aj ⋯ ⋯)⟩
 .rw[wvk J (qup c) F _ (ak _),Wm];exact L
theorem qxj (c:ux hs xs)(a1:(xw hs xs).1=1):∀i,i<xs.length->(hAt hs (wb xs i+1)-hAt hs (wb xs i)).natAbs=1:=by
 have U:∀j,j<xs.length->covR hs (wb xs j) (wb xs (j+1)):=λj z=>c.2 j _ _ (jh z) (Qh z);have F:∀j,j<xs.length->1<=(hAt hs (wb xs j+1)-hAt hs (wb xs j)).natAbs:=λj z=>by have:=(U j z).2;unfold loH hiH jj yp at this;split at this <;> split at this <;> lia
 have st:∀j,j<xs.length->(xw hs (xs.take (j+1))).1.natAbs=(xw hs (xs.take j)).1.natAbs*(hAt hs (wb xs j+1)-hAt hs (wb xs j)).natAbs:=λj z=>by rw[yt hs (jh z)];unfold wqk;dsimp only;rw[eX]
 have L:∀j,j<=xs.length->1<=(xw hs (xs.take j)).1.natAbs:=λj=>by
  induction j with
  |zero=>intro _;rw[iz];show 1<=(1:Int).natAbs;decide
  |succ j ih =>
   intro z;rw[st j ⋯];exact Nat.mul_le_mul (ih ⋯) (F j ⋯)
 have J:∀d j,j+d=xs.length->(xw hs (xs.take j)).1.natAbs<=(xw hs (xs.take xs.length)).1.natAbs:=λd=>by
  induction d with
  |zero=>intro j e;rw[show j=xs.length by lia];exact ak _
  |succ d ih =>
   intro j e;refine bI ?_ (ih (j+1) ⋯);rw[st j ⋯];exact i7 _ (F j ⋯)
 have D:∀j,j<=xs.length->(xw hs (xs.take j)).1.natAbs=1:=λj z=>by have h1:=L j z;have h2:=J (xs.length-j) j ⋯;rw[bf,a1]at h2;have:(1:Int).natAbs=1:=rfl;lia
 intro i hi;have:=st i hi;rw[D i ⋯,D (i+1) ⋯]at this;lia
theorem qz2 {j:Int}(c:covR hs k j)(o:(hAt hs (k+1)-hAt hs k).natAbs=1):(hAt hs k=j/\hAt hs (k+1)=j+1)\/(hAt hs k=j+1/\hAt hs (k+1)=j):=by have:=c.2;unfold loH hiH jj yp at this;split at this <;> split at this <;> lia
theorem Y8 (c:ux hs xs)(a1:(xw hs xs).1=1){t b:Int}(hb:1<=b)(h1:wb xs 0*b<=t)(h2:t<=(wb xs 0+1)*b):∀i,i<=xs.length->wb xs i*b<=Qr hs xs t b i/\Qr hs xs t b i<=(wb xs i+1)*b
 |0,_=>by rw[yf];exact⟨h1,h2⟩
 |i+1,hi=>by
  obtain⟨l1,l2⟩:=Y8 c a1 hb h1 h2 i ⋯;have cv:=c.2 i _ _ (jh (show i<xs.length by lia)) (Qh (show i<xs.length by lia));have o:=qxj c a1 i ⋯;rw[ut (show i<xs.length by lia)];generalize Qr hs xs t b i=u at l1 l2;rcases qz2 cv o with⟨e1,e2⟩|⟨e1,e2⟩
  .rw[e1,e2];generalize wb xs (i+1)=y;generalize wb xs i=x at l1 l2;have e:y*b+(y+1-y)*(u-x*b)=y*b+(u-x*b):=by rw[show y+1-y=(1:Int) by lia,aS]
   rw[e,be,aS];rw[be,aS]at l2;lia
  .rw[e1,e2];generalize wb xs (i+1)=y;generalize wb xs i=x at l1 l2;have e:(y+1)*b+(y-(y+1))*(u-x*b)=y*b+b-(u-x*b):=by rw[show y-(y+1)=(-1:Int) by lia,be,aS];lia
   rw[e,be,aS];rw[be,aS]at l2;lia
theorem Z3 (c:ux hs xs)(a1:(xw hs xs).1=1){t b:Int}(hb:1<=b)(h1:wb xs 0*b<=t)(h2:t<=(wb xs 0+1)*b):trT hs t b xs.length=t:=by
 have D:=Y8 c a1 hb h1 h2;have z:(xw hs xs).2=0:=by have p:=Y8 c a1 (t:=wb xs 0) (b:=1) ⋯ ⋯ ⋯ xs.length (ak _);have q:=Y8 c a1 (t:=wb xs 0+1) (b:=1) ⋯ ⋯ ⋯ xs.length (ak _);rw[Wm,wu3,a1]at p q;lia
 rw[wvk hb (qup c) (λi hi=>D i ⋯) _ (ak _),Wm,a1,z];lia
theorem xvx {t:Int}(h:b∣t):b∣x9 hs t b:=by unfold x9;exact Int.dvd_add (i8 _ _) (Int.dvd_trans (Int.dvd_sub h (i8 _ _)) (i8 _ _))
theorem xxc {t:Int}(h:b∣trT hs t b i):∀d,b∣trT hs t b (i+d)
 |0=>h
 |d+1=>xvx (xxc h d)
theorem xx2 (ok:qt hs){t b:Int}{m:Nat}(m1:1<=m)(m2:m<=12)(hb:1<=b)(on:x6 hs t b)(nd:¬ b∣t)(bk:trT hs t b m=t) :
  ∃r,ClR hs m r/\(xw hs r).1*t+(xw hs r).2*b=t/\r.getD 0 0*b<t/\t<(r.getD 0 0+1)*b:=by
 have n0:∀i,i<=m->¬ b∣trT hs t b i:=λi hi z=>by have:=xxc z (m-i);rw[show i+(m-i)=m by lia,bk]at this;exact nd this
 let s:Nat->Int:=λi=>trT hs t b i/b;have F:∀i,i<=m->s i*b<trT hs t b i/\trT hs t b i<(s i+1)*b:=λi hi=>by have e:=eQ (trT hs t b i) b;have e0:=bY (trT hs t b i) (show b≠0 by lia);have e1:=bM (trT hs t b i) (show 0<b by lia);have e2:trT hs t b i%b≠0:=λz=>n0 i hi (Int.dvd_of_emod_eq_zero z);have cm:b*(trT hs t b i/b)=s i*b:=bj _ _;rw[cm]at e;rw[be,aS];lia
 have sr:∀i,i<=m->0<=s i/\s i<(hs.length:Int)-1:=λi hi=>by
  obtain⟨o1,o2⟩:=W0 ok hb on i;obtain⟨l1,l2⟩:=F i hi;constructor
  .exact fI o1 ⋯
  .by_cases z:s i<(hs.length:Int)-1
   .exact z
   .have:=aj (show(hs.length:Int)-1<=s i by lia) (show 0<=b by lia);lia
 have cv:∀i,i<m->cvr hs (s i) (s (i+1)):=λi hi=>by
  obtain⟨Z,W⟩:=sr i ⋯;obtain⟨l1,l2⟩:=F i ⋯;obtain⟨J,y2⟩:=F (i+1) ⋯;have e:trT hs t b (i+1)=hAt hs (s i)*b+(hAt hs (s i+1)-hAt hs (s i))*(trT hs t b i-s i*b):=by show x9 hs (trT hs t b i) b=_;exact vh Z W hb ⋯ ⋯
  rw[e]at J y2;rw[be,aS]at l2 y2;generalize hx:trT hs t b i-s i*b=x at J y2;have xp:0<x:=by lia
  have xb:x<b:=by lia
  generalize s (i+1)=y at J y2;unfold cvr loH hiH;generalize hAt hs (s i)=p at J y2;generalize hAt hs (s i+1)=q at J y2;have ab:∀p q:Int,p<=q->p*b<=p*b+(q-p)*x/\p*b+(q-p)*x<=q*b:=λp q h=>by have a1:0<=(q-p)*x:=aX ⋯ ⋯;have a2:(q-p)*x<=(q-p)*b:=aR ⋯ ⋯;have a3:(q-p)*b=q*b-p*b:=gf _ _ _;lia
  have L:∀u v:Int,u*b<v*b->u<v:=λu v h=>Int.lt_of_mul_lt_mul_right h ⋯;rcases Int.le_total p q with h|h
  .obtain⟨k1,k2⟩:=ab p q h;have m1:jj p q=p:=by unfold jj;split <;> lia
   have m2:yp p q=q:=by unfold yp;split <;> lia
   rw[m1,m2];have g1:p<y+1:=L _ _ (by rw[be,aS];lia);have g2:y<q:=L _ _ ⋯;lia
  .obtain⟨k1,k2⟩:=ab q p h;have m1:jj p q=q:=by unfold jj;split <;> lia
   have m2:yp p q=p:=by unfold yp;split <;> lia
   rw[m1,m2];have ey:p*b+(q-p)*x=q*b+(p-q)*(b-x):=by rw[gf,gf,fZ,fZ];lia
   have a1:0<=(p-q)*(b-x):=aX ⋯ ⋯;have a2:(p-q)*(b-x)<=(p-q)*b:=aR ⋯ ⋯;have a3:(p-q)*b=p*b-q*b:=gf _ _ _;have g1:q<y+1:=L _ _ (by rw[be,aS];lia);have g2:y<p:=L _ _ ⋯;lia
 have sm:s m=s 0:=by show trT hs t b m/b=t/b;rw[bk]
 have D:∀i,i<m->((List.range m).map s).getD i 0=s i:=λi hi=>by rw[ae,ax,bg hi];rfl
 have U:((List.range m).map s).length=m:=by simp
 have c:ClR hs m ((List.range m).map s):=by
  refine⟨U,λx hx=>?_,λi hi=>?_,?_⟩
  .obtain⟨i,hi,rfl⟩:=az.mp hx;exact sr i (bp (al.mp hi))
  .rw[D i ⋯,D (i+1) hi];exact cv i ⋯
  .rw[D (m-1) ⋯,D 0 ⋯,<-sm];have:=cv (m-1) ⋯;rwa [show m-1+1=m by lia]at this
 have cl:=jt m1 m2 c;have ce:∀i,i<m->wb ((List.range m).map s) i=s i:=λi hi=>by unfold wb;rw[U,d8 hi,D i hi]
 refine⟨_,c,?_,?_,?_⟩
 .have tt:∀i,i<=m->trT hs t b i=Qr hs ((List.range m).map s) t b i:=λi=>by
   induction i with
   |zero=>intro _;exact(yf _ _ _ _).symm
   |succ i ih =>
    intro hi;have ih:=ih ⋯;obtain⟨Z,W⟩:=sr i ⋯;obtain⟨l1,l2⟩:=F i ⋯;show x9 hs (trT hs t b i) b=_;rw[vh Z W hb ⋯ ⋯,ut (by rw[U];lia),ce i ⋯,ih]
  have:=tt m (ak _);rw[bk]at this;have tl:=Wm hs ((List.range m).map s) t b;rw[U]at tl;rw[<-tl];exact this.symm
 .rw[D 0 ⋯];exact(F 0 ⋯).1
 .rw[D 0 ⋯];exact(F 0 ⋯).2
def uk (hs:List Int)(m:Nat)(p:Int×Int):Prop:=(∃r∈xf hs m,(xw hs r).1≠1/\p=Wk (xw hs r))\/(p.2=1/\0<=p.1/\p.1<=(hs.length:Int)-1/\trT hs p.1 1 m=p.1)
def kh (hs:List Int)(m:Nat)(k:Int):Prop:=∃r∈xf hs m,(xw hs r).1=1/\r.getD 0 0=k
theorem Qx (ok:qt hs){m:Nat}(m1:1<=m)(m2:m<=12){p:Int×Int}(hb:1<=p.2)(g:gOf p.1 p.2=1)(on:x6 hs p.1 p.2):trT hs p.1 p.2 m=p.1↔(uk hs m p\/∃k,kh hs m k/\k*p.2<=p.1/\p.1<=(k+1)*p.2):=by
 constructor
 .intro J;by_cases nd:p.2∣p.1
  .have F:p.2=1:=by have:=jf hb g;have W:=Qm (t:=p.1/p.2) (b:=1) (c:=p.2) ⋯ hb;rw[Int.ediv_mul_cancel nd,aS]at W;rw[this]at W;have h2:=b7 Prod.snd W;have Z:=ud (t:=p.1/p.2) (b:=1) ⋯;have h2:p.2=(wv (p.1/p.2) 1).2:=h2;lia
   refine .inl (.inr ⟨F,on.1,?_,by rw[F]at J;exact J⟩);have:=on.2;rw[F]at this;lia
  .obtain⟨r,c,e,U,L⟩:=xx2 ok m1 m2 hb on nd J;have D:=(vm ok m1).mpr c;by_cases z:(xw hs r).1=1
   .exact .inr ⟨_,⟨r,D,z,rfl⟩,g9 U,g9 L⟩
   .exact .inl (.inl ⟨r,D,z,(xwq z hb g e).symm⟩)
 .rintro ((⟨r,D,z,rfl⟩|⟨F,_,_,J⟩)|⟨k,⟨r,D,z,rfl⟩,U,L⟩)
  .have c:=(vm ok m1).mp D;have:=(wxg (jt m1 m2 c) z).2;rwa [c.1]at this
  .rw[F];exact J
  .have c:=(vm ok m1).mp D;have:=Z3 (jt m1 m2 c) z hb (by rw[uq];exact U) (by rw[uq];exact L);rwa [c.1]at this
theorem Zy (ok:qt hs){m:Nat}(m1:1<=m)(m2:m<=12){p:Int×Int}(h:uk hs m p):1<=p.2/\gOf p.1 p.2=1/\x6 hs p.1 p.2:=by
 rcases h with⟨r,F,z,rfl⟩|⟨D,J,h1,_⟩
 .have c:=(vm ok m1).mp F;obtain⟨a,b,_⟩:=xzn z;exact⟨a,b,(wxg (jt m1 m2 c) z).1⟩
 .refine⟨⋯,?_,J,by rw[D];lia⟩;rw[D];have:=ud (t:=p.1) (b:=1) ⋯;have:=zx (t:=p.1) (b:=1) ⋯;have e:=qqm (t:=p.1) (b:=1) ⋯;have:(1:Int)/gOf p.1 1=1:=by show(wv p.1 1).2=1;lia
  rw[this]at e;lia
theorem qqd (hs:List Int)(t b:Int)(n:Nat):∀k,trT hs (trT hs t b n) b k=trT hs t b (n+k)
 |0=>rfl
 |k+1=>by show x9 hs (trT hs (trT hs t b n) b k) b=x9 hs (trT hs t b (n+k)) b;rw[qqd hs t b n k]
theorem wq6 {t:Int}(h:trT hs t b n=t):∀k,trT hs t b (n*k)=t
 |0=>rfl
 |k+1=>by rw[Nat.mul_succ,<-qqd,wq6 h k,h]
def zy (hs:List Int):Nat->Int->Int
 |0,_=>1
 |t+1,k=>((zg hs k).map (zy hs t)).sum
def crS (hs:List Int)(t:Nat):Int:=(x8 (hs.length-1) λk=>zy hs t k).sum
theorem W3 (n:Nat)(g:Nat->Int):(x8 n g).length=n:=by unfold x8;rw[af,ay]
theorem vk (n:Nat)(g:Nat->Int):x8 (n+1) g=x8 n g++[g n]:=by unfold x8;rw[bz,aK];rfl
theorem wjd (h0:0<=x)(h1:x<n):atI ((x8 n g).map V.int) x=some (V.int (g x.toNat)):=by
 have e:((x8 n g).map V.int)[x.toNat]?=some (V.int (g x.toNat)):=by unfold x8;rw[ax,ax,bg ⋯];rfl
 have:=v6 e;rwa [show((x.toNat:Nat):Int)=x by lia]at this
theorem xyk (ok:qt hs){t:Nat}(k:Int):Yy ((x8 (hs.length-1) λk=>zy hs t k).map V.int) (some (loH hs k)) (some (hiH hs k))=((zg hs k).map (zy hs t)).map V.int:=by
 obtain⟨F,D,J⟩:=qy9 ok k;have U:=ok.1;unfold Yy zg;generalize loH hs k=lo at F D;generalize hiH hs k=hi at D J;obtain⟨a,rfl⟩:=fX F;obtain⟨b,rfl⟩:=fX (dr F D);have L:((x8 (hs.length-1) λk=>zy hs t k).map V.int).length=hs.length-1:=by rw[af,W3]
 rw[L,HT.sIx_nat,HT.sIx_nat,jF ⋯,jF ⋯,aN,aN];refine cH λi=>?_;rw[fM];rcases bF i (b-a) with z|z
 .rw[aw z,fT,ax,ax,bg ⋯];unfold x8;rw[ax,bg ⋯];show some (V.int (zy hs t ((a+i:Nat):Int)))=some (V.int (zy hs t ((a:Int)+(i:Int))));rw[Int.natCast_add]
 .rw[ar ⋯,ax,aP (by rw[ay];lia)];rfl
def qz4 (K:Aa):Sp:=λvs H Q _=>∃(p:Aj) (hs:List Int) (m:Int),vs=[.ref p,.int m]/\SqL K H p (hs.map V.int)/\qt hs/\1<=m/\m<=12/\∀q H',Same H H'->H' q=some (.lst ((x8 m.toNat λi=>crS hs (i+1)).map V.int))->Q (.ref q) H'
include T in
theorem xqq (F:Fun K "_law_crowds" "_law_crowds" zbr f fd):FK P w K mg base 1 f fd ["_law_heights_here","_law_most"] (qz4 K):=by
 have sc:=qx9;refine F.okX sc (λvs H Q E h=>by obtain⟨_,_,_,rfl,_⟩:=h;rfl) λ_ _ _ _ H vs Q E hr h=>?_;obtain⟨p,hs,m,rfl,hS,W,m1,m2,k⟩:=h;have o1:=W.1;have o2:=W.2.1;have as:(1000000:Nat)<sizeLine:=by decide
 have ah:(hs.map V.int).length=hs.length:=af _;refine⟨_,(qj (wg (i:=2) (q9 zd (w5 xh rfl T.len_ bH (qw (pv 0) qk)) qv))
   (qj (y8 (i:=3) (M:=[]) sc.nd rfl (by walk_at "loc") rfl rfl (by walk_at "cap") (by walk_at "has") (by walk_at "cix") rfl (by decide +kernel) rfl (show List.Nodup (["_law_k"]:List Str) by decide +kernel) (xg rfl T.range_ (qw (pv 2) qk)) (λ_ _ _ _ _=>qv))
   (qj (wg (i:=4) (vt qk))
   (qj (ky aV rfl (xg rfl T.range_ (qw (pv 1) qk)) (xz (i:=5)) (qj (wg (i:=6) (vt qk))
   (qj (ky aV rfl (xg rfl T.range_ (qw (pv 2) qk)) (xz (i:=7)) (qj (wg (i:=8) (w5 (Zv rfl) rfl T.min_ dR (qw (wn xr (pv 0) (pv 7) (λ_ _=>rfl)) (qw (wn xr (pv 0) (q9 xj (pv 7) qv) (λ_ _=>rfl)) qk))))
   (qr (vg (Zd bK bN bO vn (pv 6) (qw (w5 (k9 (K:=K) rfl rfl) rfl T.sum_ u8 (qw (wxu wky (pv 3) (quu (pv 8)) (quu (w5 (Zz rfl) rfl T.max_ df (qw (wn xr (pv 0) (pv 7) (λ_ _=>rfl)) (qw (wn xr (pv 0) (q9 xj (pv 7) qv) (λ_ _=>rfl)) qk))))) qk)) qk))))))
   (qj (wg (i:=3) (pv 6))
   (qr (vg (Zd bK bN bO vn (pv 4) (qw (w5 (k9 (K:=K) rfl rfl) rfl T.sum_ u8 (qw (pv 3) qk)) qk))))))))
   (qr (xx (pv 4))))))),?_⟩
 dsimp only [Ww];refine exI rfl ⟨_,_,rfl,.inl hS,wy rfl rfl ?_⟩;rw[ah];refine exI rfl (exI rfl ⟨⋯,⋯,?_⟩);rw[show((hs.length:Int)-1).toNat=hs.length-1 by lia];refine v9 (λ_=>V.int 1) ⋯ (λj H2 R2 hj s2 an=>an) λb nb=>?_;have U:=Same.upd (o:=.lst ((List.range (hs.length-1)).map λ_=>V.int 1)) nb;have Z:upd H b (.lst ((List.range (hs.length-1)).map λ_=>V.int 1)) b=some (.lst ((x8 (hs.length-1) λ_=>1).map V.int)):=by rw[qu,qzf]
 generalize upd H b (.lst ((List.range (hs.length-1)).map λ_=>V.int 1))=H1 at U Z;refine⟨sz0,λq D=>?_⟩;have ab:H q=none:=by
  cases e:H q with
  |none=>rfl
  |some o=>rw[U _ _ e]at D;cases D
 refine exI rfl (exI rfl ⟨⋯,⋯,?_⟩);refine vj (λt σ H'=>Same H H'/\∃(b:Aj) (z5 z6 z7 z8:Option V),σ=[some (.ref p),some (.int m),some (.int ((hs.length:Int)-1)),some (.ref b),some (.ref q),z5,z6,z7,z8]/\H' b=some (.lst ((x8 (hs.length-1) λk=>zy hs t k).map V.int))/\b≠q/\H' q=some (.lst ((x8 t λi=>crS hs (i+1)).map V.int)))
  ⟨U.trans (Same.upd D),b,_,_,_,_,rfl,(Same.upd D) _ _ Z,wj Z D,qu⟩ ?_ ?_
 .rintro t σ H2 ht ⟨s2,b,z5,z6,z7,z8,rfl,fb,bq,fq⟩;refine⟨sz0,λc z=>?_⟩;have ad:H c=none:=by
   cases e:H c with
   |none=>rfl
   |some o=>rw[s2 _ _ e]at z;cases z
  have cb:b≠c:=wj fb z;have cq:q≠c:=wj fq z;refine exI rfl (exI rfl ⟨⋯,⋯,?_⟩);refine vj (λi σ H'=>Same H H'/\∃(z7 z8:Option V),σ=[some (.ref p),some (.int m),some (.int ((hs.length:Int)-1)),some (.ref b),some (.ref q),some (.int ((0:Int)+t)),some (.ref c),z7,z8]/\H' b=some (.lst ((x8 (hs.length-1) λk=>zy hs t k).map V.int))/\H' q=some (.lst ((x8 t λi=>crS hs (i+1)).map V.int))/\H' c=some (.lst ((x8 i λk=>zy hs (t+1) k).map V.int)))
   ⟨s2.trans (Same.upd z),_,_,rfl,(Same.upd z) _ _ fb,(Same.upd z) _ _ fq,qu⟩ ?_ ?_
  .rintro i σ H3 hi ⟨s3,z7,z8,rfl,fb3,fq3,fc3⟩;have L:=s3.sql hS;have a0:=qxc (hs:=hs) (k:=(0:Int)+i) ⋯ ⋯;have a1:=qxc (hs:=hs) (k:=(0:Int)+i+1) ⋯ ⋯;refine exI rfl (exI rfl (exX rfl rfl L a0 (exI rfl (exI rfl (wy rfl rfl (exX rfl rfl L a1 ⟨_,_,rfl,?_⟩))))));refine exI rfl ⟨.inl ⟨rfl,_,SqL.of fc3⟩,?_⟩;refine exI rfl (exI rfl (exI rfl (exI rfl (exI rfl (exX rfl rfl L a0 (exI rfl (exI rfl (wy rfl rfl (exX rfl rfl L a1 ⟨_,_,rfl,?_⟩)))))))));refine exI rfl ⟨b,exI rfl ⟨SqL.of fb3,λp4 n4=>?_⟩⟩;have eg:=xyk (t:=t) W ((0:Int)+i);have eg:Yy ((x8 (hs.length-1) λk=>zy hs t k).map V.int) (some (jj (hAt hs ((0:Int)+i)) (hAt hs ((0:Int)+i+1)))) (some (yp (hAt hs ((0:Int)+i)) (hAt hs ((0:Int)+i+1))))=((zg hs ((0:Int)+i)).map (zy hs t)).map V.int:=eg;have J:=Same.upd (H:=H3) (o:=.lst (Yy ((x8 (hs.length-1) λk=>zy hs t k).map V.int) (some (jj (hAt hs ((0:Int)+i)) (hAt hs ((0:Int)+i+1)))) (some (yp (hAt hs ((0:Int)+i)) (hAt hs ((0:Int)+i+1)))))) n4;refine⟨p4,(zg hs ((0:Int)+i)).map (zy hs t),rfl,SqL.of (by rw[<-eg];exact qu),?_⟩;have ap:=J _ _ fc3;refine⟨c,_,_,rfl,rfl,ap,by rw[af,W3];lia,?_⟩;refine⟨Same.upd2 (s3.trans J) ad,_,_,rfl,?_,?_,?_⟩
   .rw[wx cb];exact J _ _ fb3
   .rw[wx cq];exact J _ _ fq3
   .rw[qu,vk,aK,dH];rfl
  .rintro σ H3 ⟨s3,z7,z8,rfl,fb3,fq3,fc3⟩;refine exI rfl ?_;refine⟨_,rfl,.inl ⟨rfl,_,SqL.of fq3⟩,_,rfl,c,_,rfl,SqL.of fc3,q,_,_,rfl,rfl,fq3,by rw[af,W3];lia,?_⟩;rw[tn2]at fc3;refine⟨Same.upd2 s3 ab,c,_,_,_,_,rfl,?_,dF cq,?_⟩
   .rw[wx (dF cq)];exact fc3
   .rw[qu,vk,aK,tn2];rfl
 .rintro σ H2 ⟨s2,b,z5,z6,z7,z8,rfl,fb,bq,fq⟩;exact exI rfl (k q H2 s2 fq)
def qy2 (K:Aa):Sp:=λvs H Q _=>∃(p:Aj) (hs:List Int) (m r:Int),vs=[.ref p,.int m,.int r]/\SqL K H p (hs.map V.int)/\qt hs/\1<=m/\m<=12/\∀x H',1<=x->x<=m->(∀i:Nat,1<=i->(i:Int)<x->crS hs (i+1)<=r)->Same H H'->Q (.int x) H'
include T in
theorem xvd (F:Fun K "_law_times" "_law_times" zbs f fd)(zfe:Cal P w K mg base "_law_crowds" 1 (qz4 K)):FK P w K mg base 2 f fd ["_law_heights_here","_law_wish","_law_room"] (qy2 K):=by
 have D:=qkb;refine F.okX D (λvs H Q E h=>by obtain⟨_,_,_,_,rfl,_⟩:=h;rfl) λ_ _ _ _ H vs Q E hr h=>?_;obtain⟨p,hs,m,r,rfl,hS,ok,m1,m2,k⟩:=h;refine⟨_,(qj (wg (i:=3) (wu zfe (hr.mono ⋯) rfl q8 (qw (pv 0) (qw (pv 1) qk))))
   (qj (wg (i:=4) qv)
   (qj (u7 aV (PW.pt (Zs (w8 Zf (pv 4) (pv 1) (xv _)) (Qt (w8 qz5 (wn xr (pv 3) (pv 4) (λ_ _=>rfl)) (pv 2) (xv _))))) (qr (quq (i:=4) D.nd rfl (Or.inl rfl) qv xxk)))
   (qr (xx (pv 4)))))),?_⟩
 refine exI rfl (exI rfl ⟨p,hs,m,rfl,hS,ok,m1,m2,λq H1 J f1=>?_⟩);refine Wb (λσ H'=>H'=H1/\∃x:Int,1<=x/\x<=m/\(∀i:Nat,1<=i->(i:Int)<x->crS hs (i+1)<=r)/\σ=[some (.ref p),some (.int m),some (.int r),some (.ref q),some (.int x)]) (λσ _=>match σ with|[_,_,_,_,some (.int x)]=>(20-x).toNat|_=>0) ⟨rfl,1,⋯,⋯,λi h1 h2=>absurd h2 ⋯,rfl⟩ ?_ ?_
 .rintro σ H' ⟨rfl,x,x1,x2,hx,rfl⟩;refine exI rfl (exI rfl (wy rfl rfl (exI rfl (jb (λz=>?_) (λz=>?_)))))
  .refine exI rfl (exI rfl (exX rfl rfl (SqL.of f1) (wjd ⋯ ⋯) (exI rfl (wy rfl rfl (exI rfl (jb (λy=>?_) (λy=>?_)))))))
   .refine exI rfl (wy rfl rfl ⟨⟨rfl,x+1,⋯,⋯,λi h1 h2=>?_,rfl⟩,?_⟩)
    .rcases(by lia:(i:Int)<x\/(i:Int)=x) with w|w
     .exact hx i h1 w
     .rw[show i=x.toNat by lia];exact y
    show(20-(x+1)).toNat<(20-x).toNat;lia
   .exact exI rfl (k x _ x1 x2 hx J)
  .exact uc (exI rfl (k x _ x1 x2 hx J))
 .intro σ H Q Q' h hc;obtain⟨v1,e1,Z,e2,i,j,e3,e4,b,e5,q⟩:=hc;refine⟨v1,e1,Z,e2,i,j,e3,e4,b,e5,?_⟩;cases b with
  |false =>
   rw[ar aI]at q ⊢;exact h _ _ q
  |true =>
   rw[aw rfl]at q ⊢;obtain⟨W,e6,U,e7,a1,a2,a3,a4,e8,e9,sq,ea,L,an,i2,j2,ah,ad,b2,ab,q2⟩:=q;exact⟨W,e6,U,e7,a1,a2,a3,a4,e8,e9,sq,ea,L,an,i2,j2,ah,ad,b2,ab,h _ _ q2⟩
theorem xkd (ok:qt hs)(k:Int):(zg hs k).length<=24:=by obtain⟨l0,l1,l2⟩:=qy9 ok k;have:=ok.2.1;unfold zg;rw[af,ay];lia
theorem xxf (ok:qt hs):crS hs 1<=576:=by
 have z:=ok.2.1;have:∀n:Nat,(x8 n λk=>zy hs 1 k).sum<=24*n:=λn=>by
  induction n with
  |zero=>exact bV _
  |succ n ih =>
   rw[vk,bZ];have e:zy hs 1 (n:Int)=((zg hs n).length:Int):=by
    show((zg hs n).map (zy hs 0)).sum=_;generalize zg hs n=L
    induction L with
    |nil=>rfl
    |cons r L ih=>rw[aC,bi,ih,aJ];show(1:Int)+_=_;lia
   have:=xkd ok (n:Int);simp only[bi,eG];lia
 have:=this (hs.length-1);unfold crS;lia
theorem qu8 (ok:qt hs):∀(t:Nat) (k:Int),0<=k->k<(hs.length:Int)-1->zy hs t k=vw (hs.length-1) (x4 (xu hs) t k.toNat)
 |0,k,h0,h1=>by have:=wwp (n:=hs.length-1) (i:=k.toNat) ⋯ λ_=>1;show(1:Int)=_;rw[<-this];refine jy λj _=>?_;rw[iH];rfl
 |t+1,k,h0,h1=>by show((zg hs k).map (zy hs t)).sum=vw (hs.length-1) λj=>((xu hs k.toNat).map λv=>x4 (xu hs) t v.toNat j).sum;rw[qw0 h0,<-wwd (hs.length-1) (λ(v:Int) j=>x4 (xu hs) t v.toNat j)];congr 1;refine bw λv hv=>?_;have:=Zk ok k v hv;exact qu8 ok t v this.1 ⋯
theorem wx3 (ok:qt hs)(m:Nat):crS hs m=vw (hs.length-1) λi=>vw (hs.length-1) (x4 (xu hs) m i):=by show vw (hs.length-1) _=_;refine jy λi hi=>?_;rw[qu8 ok m (i:Int) ⋯ ⋯,bP]
theorem quh (e:∀i,i<n->g i<=h i):vw n g<=vw n h:=by
 induction n with
 |zero=>exact bV _
 |succ n ih =>
  have:=ih λi hi=>e i ⋯;have:=e n ⋯;rw[k7,k7];lia
theorem qwt (h:∀i,0<=g i)(hi:i<n):g i<=vw n g:=by have:=wwp hi g;rw[<-this];refine quh λk _=>?_;have:=h k;split <;> lia
theorem pow_cr (ok:qt hs){m f:Nat}(hf:f<hs.length-1):x4 (xu hs) m f f<=crS hs m:=by rw[wx3 ok];refine dr (qwt (g:=x4 (xu hs) m f) (Qc _ _ _) hf) (qwt (g:=λi=>vw (hs.length-1) (x4 (xu hs) m i)) (λi=>?_) hf);have:=quh (n:=hs.length-1) (g:=λ_=>0) (h:=x4 (xu hs) m i) λj _=>Qc _ _ _ _;rwa [qqy _ _ λ_ _=>rfl]at this
theorem qk1 (ok:qt hs){m:Nat}(hm:1<=m):((xf hs m).length:Int)<=crS hs m:=by rw[qkf ok hm,wx3 ok];exact quh λi hi=>qwt (Qc _ _ _) hi
def TabsAt (H:Hp)(p:Aj)(hs:List Int)(m:Nat):Prop:=∃ys,H p=some (.lst ys)/\ys.length=m+1/\∀i v,ys[i]?=some v->∃q,v=.ref q/\MatAt H q (hs.length-1) (x4 (xu hs) i)
theorem TabsAt.same {p:Aj}(h:TabsAt H p hs m)(s:Same H H'):TabsAt H' p hs m:=by obtain⟨ys,e,l,r⟩:=h;exact⟨ys,s _ _ e,l,λi v z=>let ⟨q,a,b⟩:=r i v z;⟨q,a,b.same s⟩⟩
theorem TabsAt.at_ {p:Aj}(h:TabsAt H p hs m){t i j:Int}(t0:0<=t)(t1:t<=m)(i0:0<=i)(i1:i<(hs.length:Int)-1)(j0:0<=j)(j1:j<(hs.length:Int)-1) :
  ∃ys q zs q',H p=some (.lst ys)/\atI ys t=some (.ref q)/\H q=some (.lst zs)/\atI zs i=some (.ref q')/\H q'=some (.lst ((x8 (hs.length-1) (x4 (xu hs) t.toNat i.toNat)).map V.int))/\atI ((x8 (hs.length-1) (x4 (xu hs) t.toNat i.toNat)).map V.int) j=some (.int (x4 (xu hs) t.toNat i.toNat j.toNat)):=by
 obtain⟨ys,fp,l,r⟩:=h;have e:ys[t.toNat]?=some ys[t.toNat]:=aa ⋯;obtain⟨q,U,M⟩:=r _ _ e;obtain⟨zs,z,Z,W⟩:=id M;obtain⟨q',L,J⟩:=M.row z (i:=i.toNat) ⋯;have F:=v6 e;have D:=v6 L;rw[bR t0,U]at F;rw[bR i0]at D;exact⟨ys,q,zs,q',fp,F,z,D,J,wjd j0 ⋯⟩
theorem CovAt.at_ {p:Aj}(h:CovAt H p hs){i:Int}(i0:0<=i)(i1:i<(hs.length:Int)-1):∃ys q,H p=some (.lst ys)/\atI ys i=some (.ref q)/\H q=some (.lst ((xu hs i.toNat).map V.int)):=by obtain⟨ys,fp,l,r⟩:=h;have e:ys[i.toNat]?=some ys[i.toNat]:=aa ⋯;obtain⟨q,D,f⟩:=r _ _ e;have z:=v6 e;rw[bR i0,D]at z;exact⟨ys,q,fp,z,f⟩
def Zn:Sp:=λvs H Q _=>∃(c tb:Aj) (hs:List Int) (f m:Nat),vs=[.int ((0:Int)+f),.ref c,.ref tb]/\qt hs/\CovAt H c hs/\TabsAt H tb hs m/\f<hs.length-1/\1<=m/\m<=12/\x4 (xu hs) m f f<=1000 /\
 ∀p ys H',H p=none->Same H H'->H' p=some (.lst ys)->Tups (bgR hs f m (m-1)) ys H'->Q (.ref p) H'
theorem xxx (h:r≠[]):atI (r.map V.int) (-1)=some (V.int (r.getLastD 0)):=by have e:r=r.dropLast++[r.getLast h]:=(dD h).symm;rw[e,aK];have:=Wj (r.dropLast.map V.int) (V.int (r.getLast h));rw[Z1];exact this
include T in
theorem qyd (F:Fun K "rows_from" "rows_from" zbb f fd):FK P w K mg base 1 f fd ["first","covers","tables"] Zn:=by
 have sc:=wqv;refine F.okX sc (λvs H Q E h=>by obtain⟨_,_,_,_,_,rfl,_⟩:=h;rfl) λ_ _ _ s H vs Q E J h=>?_;obtain⟨c,tb,hs,f,m,rfl,D,hC,hT,Z,m1,m2,an,k⟩:=h;have o1:=D.1;have o2:=D.2.1;obtain⟨ts,ft,lt,_⟩:=id hT;refine⟨_,(qj (wg (i:=3) (q9 zd (w5 xh rfl T.len_ bH (qw (pv 2) qk)) qv))
   (qj (wg (i:=4) (qvx (w8 Q9 (wn xr (wn xr (wn xr (pv 2) (pv 3) (λ_ _=>rfl)) (pv 0) (λ_ _=>rfl)) (pv 0) (λ_ _=>rfl)) qv (xv _)) (vt (qw (vy (qw (pv 0) qk)) qk)) (vt qk)))
   (qj (ky aV rfl (wy8 rfl T.range_ (qw (q9 zd (pv 3) qv) (qw qv (qw (Q6 yj qv) qk)))) (xz (i:=5)) (qr (qy3 (i:=4) (M:=[0,1,2,5]) sc.nd rfl (by walk_at "loc") rfl rfl (by walk_at "cap") (by walk_at "has") (by walk_at "cix") rfl (by decide +kernel) rfl rfl (show List.Nodup (["row","onward","first","covers","tables","left"]:List Str) by decide +kernel) (zc (pv 4)) (λ_ _ _ _ _=>(wwn (K:=K) rfl (wn (yw (K:=K) rfl) (pv 3) (wn (Yb (K:=K) rfl) (pv 0) (Q6 yj qv) (λ_ _=>rfl)) (λ_ _=>rfl)))) (λ_ _ _ _ _=>(w8 Q9 (wn (yw (K:=K) rfl) (wn (yw (K:=K) rfl) (wn (yw (K:=K) rfl) (pv 4) (pv 5) (λ_ _=>rfl)) (pv 1) (λ_ _=>rfl)) (pv 2) (λ_ _=>rfl)) qv (xv _))) (λ_ _ _ _ _=>(q9 (xz7 (K:=K) rfl) (pv 0) (vy (qw (pv 1) qk)))))))
   (qr (xx (pv 4)))))),?_⟩
 dsimp only [Ww];refine exI rfl ⟨_,_,rfl,.inl (SqL.of ft),wy rfl rfl ?_⟩;rw[lt];have em:(((m+1:Nat):Int)-1).toNat=m:=by lia
 have ef:((0:Int)+f).toNat=f:=by lia
 obtain⟨ys,q,zs,q',e1,e2,e3,e4,e5,e6⟩:=hT.at_ (t:=((m+1:Nat):Int)-1) (i:=(0:Int)+f) (j:=(0:Int)+f) ⋯ ⋯ ⋯ ⋯ ⋯ ⋯;rw[em,ef]at e5 e6;have ah:∀(Pp:St->Hp->Prop),(∀p us H1,H p=none->Same H H1->H1 p=some (.lst us)->Tups (bgR hs f m 0) us H1->Pp [some (.int ((0:Int)+f)),some (.ref c),some (.ref tb),some (.int (((m+1:Nat):Int)-1)),some (.ref p),none] H1)->tAsg (tIf (xvc (tOp (rI0 λi j=>V.bl (decide (j<i))) (tOp (wv6 K) (tOp (wv6 K) (tOp (wv6 K) (yd 2) (yd 3)) (yd 0)) (yd 0)) (tC (V.int 0)))) (tLst (uj (tTup (uj (yd 0) qxd)) qxd)) (tLst qxd)) (Yt 4) { nx:=Pp,rt:=Q } [some (.int ((0:Int)+f)),some (.ref c),some (.ref tb),some (.int (((m+1:Nat):Int)-1)),none,none] H:=by
  intro Pp hP;refine exI rfl (exI rfl (exX rfl rfl (SqL.of e1) e2 (exI rfl (exX rfl rfl (SqL.of e3) e4 (exI rfl (exX rfl rfl (SqL.of e5) e6 (wy rfl rfl (exI rfl (jb (λz=>?_) (λz=>?_))))))))))
  .refine exI rfl ⟨sz1,λa na=>⟨sz1,λp np=>?_⟩⟩;have W:=Same.upd (o:=.tup [.int ((0:Int)+f)]) na;refine hP p _ _ (yu W np) (W.trans (Same.upd np)) qu ?_;unfold bgR;rw[aw z];exact .cons ⟨a,rfl,(Same.upd np) _ _ qu⟩ .nil
  .refine⟨sz0,λp np=>?_⟩;refine hP p _ _ np (Same.upd np) qu ?_;unfold bgR;rw[ar z];exact .nil
 refine ah _ λp us H1 np W fp L=>?_;refine exI rfl (wy rfl rfl (exI rfl ⟨_,_,rfl,⋯,?_⟩));rw[show(((m+1:Nat):Int)-1-1-0).toNat=m-1 by lia];refine xqt (λi σ H'=>Same H H'/\∃(p:Aj) (us:List V) (z:Option V),σ=[some (.int ((0:Int)+f)),some (.ref c),some (.ref tb),some (.int (((m+1:Nat):Int)-1)),some (.ref p),z]/\H p=none/\H' p=some (.lst us)/\Tups (bgR hs f m i) us H') ⟨W,p,us,exI rfl ⟨np,fp,L⟩⟩ ?_ ?_
 .rintro i σ H2 hi ⟨s2,p,us,z,rfl,np,fp,L⟩;have bl:=xzt D (m:=m) (t:=i) Z ⋯;have eg:(((m+1:Nat):Int)-1-1-i).toNat=m-1-i:=by lia
  refine exI rfl ⟨p,rfl,⟨_,SqL.of fp⟩,ww4 (K:=K) (bgR hs f m i) (λr=>xu hs (r.getLastD 0).toNat) (λv=>decide (0<x4 (xu hs) (m-1-i) v.toNat f)) (SqL.of fp) L ⋯ (λr _=>wq4 D _) (λr a H' R J fa s' U=>?_) (λr a u H' R J hu s' U=>?_) (λr a u H' R J hu hc fa s' U=>?_) λp' ab H' ad s' f' t'=>?_⟩
  .obtain⟨l1,l2,l3⟩:=qzt (Z0 D Z i r J);obtain⟨vs,q1,g1,g2,g3⟩:=(hC.same s2).at_ l2 l3;have hz:r≠[]:=λz=>by have:=(Z0 D Z i r J).1;rw[z]at this;cases this
   exact exI rfl (exI rfl (exI rfl (exX rfl rfl (SqT.of fa) (xxx hz) (exX rfl rfl (SqL.of (s' _ _ g1)) g2 ⟨q1,rfl,⟨_,SqL.of (s' _ _ g3)⟩,U q1 (SqL.of g3)⟩))))
  .have ur:=Zk D _ u hu;obtain⟨vs,q1,ws,q2,g1,g2,g3,g4,g5,g6⟩:=(hT.same (s2.trans s')).at_ (t:=((m+1:Nat):Int)-1-1-i) (i:=u) (j:=(0:Int)+f) ⋯ ⋯ ur.1 ⋯ ⋯ ⋯;rw[eg,ef]at g6;rw[eg]at g5;exact exI rfl (exI rfl (exX rfl rfl (SqL.of g1) g2 (exI rfl (exX rfl rfl (SqL.of g3) g4 (exI rfl (exX rfl rfl (SqL.of g5) g6 (wy rfl rfl (exI rfl U))))))))
  .have lr:=(Z0 D Z i r J).1;have ap:(1000000:Nat)<sizeLine:=by decide
   refine exI rfl (exI rfl ⟨sz1,λb nb=>?_⟩);have s3:=Same.upd (o:=.tup [.int u]) nb;refine⟨_,_,_,_,rfl,rfl,SqT.of (s3 _ _ fa),SqT.new,by rw[af];show r.length+1<=sizeLine;lia,λz=>?_,λ_ z=>absurd z (by simp),λ_ _ p7 n7=>?_⟩
   .have:=b7 List.length z;rw[af,lr]at this;cases this
   .refine U p7 _ (s3.trans (Same.upd n7)) ?_;rw[qu,aK];rfl
  .exact⟨s2.trans s',p',ab,exI rfl ⟨yu s2 ad,f',t'⟩⟩
 .rintro σ H2 ⟨s2,p,us,z,rfl,np,fp,L⟩;exact exI rfl (k p us H2 np s2 fp L)
def wvx (C CC CT:Aj):Sp:=λvs H Q E=>∃(r:Aj) (hs:List Int) (m:Int),vs=[.ref r,.int m]/\RoadAt C H r hs/\qt hs/\1<=m/\m<=12/\crS hs m.toNat<=1000 /\
 ∀p ys H',H p=none->Same H H'->H' p=some (.lst ys)->Tups (xf hs m.toNat) ys H'->Q (.ref p) H'
theorem wu2 (hs:List Int)(m i:Nat):((List.range (i+1)).flatMap λf=>bgR hs f m (m-1))=((List.range i).flatMap λf=>bgR hs f m (m-1))++bgR hs i m (m-1):=by rw[bz,g8];simp
theorem qkt (h:∀i,0<=g i){i:Nat}:∀ {n:Nat},i<=n->vw i g<=vw n g
 |0,e=>by
  obtain rfl:i=0:=by lia
  exact bV _
 |n+1,e=>by
  rcases(by lia:i=n+1\/i<=n) with z|z
  .subst z;exact bV _
  .have:=qkt h z;have:=h n;rw[k7];lia
theorem wu5 (ok:qt hs){m:Nat}(hm:1<=m){i:Nat}(h:i<=hs.length-1):((((List.range i).flatMap λf=>bgR hs f m (m-1)).length:Nat):Int)<=crS hs m:=by refine dr ?_ (qk1 ok hm);unfold xf;rw[qx4,qx4];exact qkt (λ_=>Int.natCast_nonneg _) h
include T in
theorem xkf (F:Fun K "rows" "rows" zbc f fd)(zas:CalD P w K mg base "check_count" 1 (Yn qf))(zff:Cal P w K mg base "ways_up_to" 6 (qxz qy))(zb9:Cal P w K mg base "covers_of" 5 (Qu qy))(zaa:MCal P w K mg base qy "width" 1 (j6 qy))(zfg:Cal P w K mg base "rows_from" 1 Zn) :
  FK P w K mg base 7 f fd ["road","many"] (wvx qy qf qm):=by
 have sc:=xyf;refine F.okX sc (λvs H Q E h=>by obtain⟨_,_,_,rfl,_⟩:=h;rfl) λ_ _ _ _ H vs Q E U h=>?_;obtain⟨r,hs,m,rfl,J,D,m1,m2,a2,k⟩:=h;obtain⟨tl,an⟩:=T.zab;obtain⟨tw,ah⟩:=T.zaf;have o1:=D.1;have o2:=D.2.1;have a3:(1000000:Nat)<sizeLine:=by decide
 refine⟨_,(qj (vg (wu zas.all (U.mono ⋯) rfl q8 (qw (pv 1) (qw qv (qw (Zx (v:=V.int 12) rfl an ⟨_,rfl⟩) qk)))))
   (qj (wg (i:=2) (wu zff (U.mono ⋯) rfl q8 (qw (pv 0) (qw (pv 1) qk))))
   (qj (zp (w8 Q9 (w5 (k9 (K:=K) rfl rfl) rfl T.sum_ u8 (qw (zr (M:=[]) rfl rfl (by walk_at "cap") (by walk_at "has") (by walk_at "cix") rfl (by decide +kernel) rfl (show List.Nodup (["counts"]:List Str) by decide +kernel) (zc (wn xr (pv 2) (pv 1) (λ_ _=>rfl))) (λ_ _ _ _ _=>(w5 (k9 (K:=K) rfl rfl) rfl T.sum_ u8 (qw (pv 0) qk)))) qk)) (Zx (v:=V.int 1000) rfl ah ⟨_,rfl⟩) (xv _)) (qr (yh rfl T.zai jz rfl T.zem (qw Zt qk))) xn)
   (qj (wg (i:=3) (wu zb9 (U.mono ⋯) rfl q8 (qw (pv 0) qk)))
   (qj (wg (i:=4) (vt qk))
   (qj (ky aV rfl (xg rfl T.range_ (qw (kr (pv 0) T.cl zaa (U.mono ⋯) q8) qk)) (xz (i:=5)) (qr (vg (Zd bK PySem.F.slot_list_extend PySem.F.type_list_extend wym (pv 4) (qw (wu zfg (U.mono ⋯) rfl q8 (qw (pv 5) (qw (pv 3) (qw (pv 2) qk)))) qk)))))
   (qr (xx (pv 4))))))))),?_⟩
 dsimp only [Ww];refine⟨_,rfl,m,1,.int 12,some 12,rfl,.inr ⟨12,rfl,rfl⟩,λ_=>?_,λhw=>absurd ⟨m1,λz e=>by cases e;exact m2⟩ hw⟩;refine exI rfl (exI rfl ⟨r,hs,m,rfl,J,D,⋯,⋯,λtb W H1 s1 f1 l1 g1=>?_⟩);have e:W[m.toNat]?=some W[m.toNat]:=aa ⋯;obtain⟨q,eq,M⟩:=g1 _ _ e;have ea:atI W m=some (.ref q):=by have:=v6 e;rwa [bR ⋯,eq]at this
 obtain⟨zs,fq,lz,rz⟩:=id M;have as:TabsAt H1 tb hs m.toNat:=⟨W,f1,l1,g1⟩;refine exI rfl (exI rfl (exX rfl rfl (SqL.of f1) ea ⟨q,rfl,⟨_,SqL.of fq⟩,Qp (K:=K) (λi v _=>v=V.int (vw (hs.length-1) (x4 (xu hs) m.toNat i))) (λi v H H' p g _ _=>g) (SqL.of fq) ⋯ (λi x H2 R hx s2 J=>?_) λp2 ap H2 n2 s2 f2 l2 g2=>?_⟩))
 .obtain⟨a,rfl,fa⟩:=rz i x hx;exact exI rfl ⟨a,exI rfl ⟨SqL.of (s2 _ _ fa),J _ _ (Same.refl _) rfl λb e=>nomatch e⟩⟩
 have ey:ap=(x8 (hs.length-1) λi=>vw (hs.length-1) (x4 (xu hs) m.toNat i)).map V.int:=by
  refine cH λi=>?_;by_cases z:i<hs.length-1
  .rw[ax,qw9 z,aa ⋯,(g2 i _ (aa ⋯)).1];rfl
  .rw[aP ⋯,aP (by rw[af,W3];lia)]
 rw[ey]at f2;refine⟨p2,exI rfl ⟨SqL.of f2,wy rfl rfl (exI rfl ?_)⟩⟩;have ec:(x8 (hs.length-1) λi=>vw (hs.length-1) (x4 (xu hs) m.toNat i)).sum=crS hs m.toNat:=(wx3 D _).symm;rw[ec];refine jb (λz=>absurd z ⋯) (λz=>?_);refine exI rfl ⟨r,hs,rfl,J.same (s1.trans s2),D,λc H3 n3 Z C3=>?_⟩;refine⟨sz0,λp np=>?_⟩;have s4:=Same.upd (o:=.lst []) np;have ad:=s1.trans (s2.trans (Z.trans s4));obtain⟨dx,q0,h1,h2⟩:=id J;refine exI rfl ⟨r,dx,exI rfl ⟨ad _ _ h1,xc (by decide +kernel),r,hs,rfl,J.same ad,exI rfl ⟨⋯,⋯,?_⟩⟩⟩;rw[show((hs.length:Int)-1).toNat=hs.length-1 by lia];have a1:H p=none:=yu (s1.trans (s2.trans Z)) np;have a0:=s1.trans (s2.trans Z);have T3:=as.same (s2.trans Z);refine vj (λi σ H'=>Same H3 H'/\∃(us:List V) (z:Option V),σ=[some (.ref r),some (.int m),some (.ref tb),some (.ref c),some (.ref p),z]/\H' p=some (.lst us)/\Tups ((List.range i).flatMap λf=>bgR hs f m.toNat (m.toNat-1)) us H')
  ⟨s4,[],exI rfl ⟨qu,.nil⟩⟩ ?_ ?_
 .rintro i σ H5 hi ⟨s5,us,z,rfl,f5,t5⟩;have pi:=pow_cr D (m:=m.toNat) hi;have l5:=wu5 D (m:=m.toNat) ⋯ (i:=i) ⋯;have l6:=xzt D (m:=m.toNat) (t:=m.toNat-1) hi ⋯;refine exI rfl ⟨.inl ⟨rfl,_,SqL.of f5⟩,exI rfl (exI rfl (exI rfl ⟨c,tb,hs,i,m.toNat,rfl,D,C3.same s5,T3.same s5,hi,⋯,⋯,⋯,λp6 ab H6 n6 L f6 t6=>?_⟩))⟩;have lu:=t5.len;have ly:=t6.len;refine⟨p,p6,us,ab,rfl,rfl,L _ _ f5,f6,⋯,?_⟩;refine⟨Same.upd2 (s5.trans L) np,us++ab,exI rfl ⟨qu,?_⟩⟩
  .rw[wu2];exact Paired.app ((t5.same L).upd (L _ _ f5)) (t6.upd (L _ _ f5))
 .rintro σ H5 ⟨s5,us,z,rfl,f5,t5⟩;exact exI rfl (k p us H5 a1 (a0.trans s5) f5 t5)
def qxb (K:Aa)(C CB CO CC:Aj):Sp:=λvs H Q E=>∃(r p:Aj) (hs:List Int) (t b m:Int),vs=[.ref r,.ref p,.int m]/\RoadAt C H r hs/\qt hs/\SqT K H p [.int t,.int b] /\
 (1<=b->Sm 8000 b/\(x6 hs t b->(Within m 0 (some 1000)->∀q H',H q=none->Same H H'->PtsAt H' q (ww2 hs (wv t b) (m.toNat+1))->Q (.ref q) H')/\(¬ Within m 0 (some 1000)->∀H',Same H H'->E (.ref CC) none H')) /\
  (¬ x6 hs t b->∀H',Same H H'->E (.ref CO) none H'))/\(b<1->E (.ref CB) none H)
include T in
theorem wun (F:Fun K "walked" "walked" zbd f fd)(zas:CalD P w K mg base "check_count" 1 (Yn qf))(zar:MCal P w K mg base qy "on_road" 3 (W8 K qy qx qg))
  (zca:MCal P w K mg base qy "at" 4 (spAt K qy qx qg)):FK P w K mg base 5 f fd ["road","point","many"] (qxb K qy qx qg qf):=by
 have sc:=wuy;refine F.okX sc (λvs H Q E h=>by obtain⟨_,_,_,_,_,_,rfl,_⟩:=h;rfl) λ_ _ _ _ H vs Q E hr h=>?_;obtain⟨r,p,hs,t,b,m,rfl,hR,ab,hp,kq,x⟩:=h;obtain⟨dx,q0,h1,h2⟩:=id hR;obtain⟨tm,an⟩:=T.zag;refine⟨_,(qj (wg (i:=3) (km (pv 0) T.cl zar (hr.mono ⋯) q8 (qw (pv 1) qk)))
   (qj (vg (wu zas.all (hr.mono ⋯) rfl q8 (qw (pv 2) (qw qv (qw (Zx (v:=V.int 1000) rfl an ⟨_,rfl⟩) qk)))))
   (qj (wg (i:=4) (vt (qw (pv 3) qk)))
   (qj (u7 aV (w8 qz5 (w5 xh rfl T.len_ bH (qw (pv 4) qk)) (pv 2) (xv _)) (qr (vg (Zd bK bN bO vn (pv 4) (qw (km (pv 0) T.cl zca (hr.mono ⋯) q8 (qw (wn xr (pv 4) (Q6 yj qv) (λ_ _=>rfl)) qk)) qk)))))
   (qr (xx (pv 4))))))),?_⟩
 refine⟨_,rfl,r,dx,_,rfl,h1,xc (by decide +kernel),_,rfl,r,p,hs,t,b,rfl,hR,ab,hp,λhb=>⟨(kq hb).1,λah W H1 D f1=>?_,λas H1 D=>(kq hb).2.2 as H1 D⟩,λz=>x z⟩;obtain⟨sb,k1,_⟩:=kq hb;obtain⟨k2,k3⟩:=k1 ah;refine⟨_,rfl,m,0,.int 1000,some 1000,rfl,.inr ⟨1000,rfl,rfl⟩,λL=>?_,λL=>k3 L _ D⟩;have m0:=L.1;have m1:=L.2 1000 rfl;have P0:=wv4 hb ah;refine exI rfl ⟨sz1,λq J=>?_⟩;have ap:H q=none:=by
  cases e:H q with
  |none=>rfl
  |some o=>rw[D _ _ e]at J;cases J
 have dq:W≠q:=wj f1 J;refine Wb (λσ H2=>∃(n:Nat) (vs:List V),σ=[some (.ref r),some (.ref p),some (.int m),some (.ref W),some (.ref q)]/\(n:Int)<=m/\Same H1 H2/\H2 q=some (.lst vs)/\Paired (PtR H2) vs (ww2 hs (wv t b) (n+1)))
  (λ_ H2=>match H2 q with|some (.lst vs)=>(m+1).toNat-vs.length|_=>0) ⟨0,[.ref W],rfl,⋯,Same.upd J,qu,.cons ⟨W,rfl,by rw[wx dq];exact f1⟩ .nil⟩ ?_ λσ H Q Q' h ⟨v,e,p',ys,e1,e2,v2,e3,i,j,e4,e5,kk,e6,qq⟩=>⟨v,e,p',ys,e1,e2,v2,e3,i,j,e4,e5,kk,e6,h _ _ qq⟩
 rintro σ H2 ⟨n,vs,rfl,hn,s2,f2,pr⟩;have Z:vs.length=n+1:=by rw[pr.length,ug]
 refine exI rfl ⟨_,_,rfl,.inl (SqL.of f2),exI rfl (wy rfl rfl (exI rfl ?_))⟩;rw[Z];refine jb (λq1=>?_) (λq1=>?_)
 .have Pn:=xvk ab P0 n;obtain⟨v,ev,⟨a,rfl,fa⟩⟩:=Zq (i:=n) (b:=itP hs (wv t b) n) pr (by rw[Jd,aG (by rw[ug];exact ak _),ug];simp);have a0:atI vs (-1)=some (.ref a):=by
   have hz:vs≠[]:=λz=>by rw[z]at Z;simp at Z
   have e1:vs=vs.dropLast++[vs.getLast hz]:=(dD hz).symm;have e2:vs.getLast hz=.ref a:=by
    rw[fY];have:vs[n]?=vs[vs.length-1]?:=by rw[Z];rfl
    rw[this,aa ⋯]at ev;exact aq ev
   rw[e1,e2];exact Wj _ _
  have ad:=D.trans s2;refine⟨_,rfl,.inl ⟨rfl,_,SqL.of f2⟩,_,rfl,r,dx,_,rfl,ad _ _ h1,xc (by decide +kernel),_,rfl,_,rfl,_,_,_,_,rfl,rfl,SqL.of f2,a0,r,a,hs,(itP hs (wv t b) n).1,(itP hs (wv t b) n).2,rfl,hR.same ad,ab,SqT.of fa,λ_=>⟨(sb.of_le (by have:=Pn.2.1;have:=Pn.1;lia)),λ_ U H3 s3 f3=>?_,λz=>absurd Pn.2.2.2 z⟩,λz=>absurd Pn.1 ⋯⟩;have g2:=s3 _ _ f2;refine⟨_,_,_,rfl,rfl,g2,Jt ⋯,⟨n+1,vs++[.ref U],rfl,⋯,λb o e=>?_,qu,?_⟩,?_⟩
  .rw[wx (wj e J)];exact s3 _ _ (s2 _ _ e)
  .rw[Jd hs (wv t b) (n+1)];refine Paired.snoc (wqj (λ_ _ z=>(z.same s3).upd g2) pr) (PtR.upd ⟨U,rfl,?_⟩ g2);exact f3
  .show(match upd H3 q (.lst (vs++[.ref U])) q with|some (.lst vs)=>(m+1).toNat-vs.length|_=>0)<(match H2 q with|some (.lst vs)=>(m+1).toNat-vs.length|_=>0);rw[qu,f2];show(m+1).toNat-(vs++[V.ref U]).length<(m+1).toNat-vs.length;rw[au,cM];lia
 .have en:m.toNat=n:=by lia
  refine exI rfl (k2 L q H2 ap (D.trans s2) ⟨vs,f2,?_⟩);rw[en];exact pr
def Dist {α:Type}(f:Nat->α)(n:Nat):Prop:=∀i j,i<j->j<n->f i≠f j
theorem Dist.mono {α:Type}{f:Nat->α}(h:Dist f n)(le:m<=n):Dist f m:=λi j a b=>h i j a ⋯
theorem Dist.succ {α:Type}{f:Nat->α}(h:Dist f n)(h':∀j,j<n->f j≠f n):Dist f (n+1):=λi j a b=>by
 rcases(by lia:j<n\/j=n) with z|z
 .exact h i j a z
 .subst z;exact h' i a
theorem wj2 {α:Type}{f:Nat->α}(st:∀i j,f i=f j->f (i+1)=f (j+1)){n u:Nat}(e:f n=f u):∀k,f (n+k)=f (u+k)
 |0=>e
 |k+1=>st _ _ (wj2 st e k)
theorem xzd {t:Int}:∀i j,trT hs t b i=trT hs t b j->trT hs t b (i+1)=trT hs t b (j+1):=λi j e=>by show x9 hs (trT hs t b i) b=x9 hs (trT hs t b j) b;rw[e]
theorem xkn {t:Int}(hb:1<=b)(g:gOf t b=1):wv t b=(t,b):=by unfold wv;rw[g,jl,jl]
theorem it_tr {c:Int}(h:Pt hs c p)(n:Nat):itP hs p n=wv (trT hs p.1 p.2 n) p.2:=by rw[Yw h.1,xkn h.1 h.2.2.1]
theorem xks (hb:1<=b)(e:wv x b=wv y b):x=y:=by have h1:=(qjc (N:=x) hb).2;have h2:=(qjc (N:=y) hb).2;rw[e]at h1;lia
theorem Zg {c:Int}(h:Pt hs c p)(i j:Nat):itP hs p i=itP hs p j↔trT hs p.1 p.2 i=trT hs p.1 p.2 j:=by rw[it_tr h,it_tr h];exact⟨λe=>xks h.1 e,λe=>by rw[e]⟩
def Q0 (p:Int×Int):List Key:=[.inl p.1,.inl p.2]
theorem wwj {q:Int×Int}(e:Q0 p=Q0 q):p=q:=by unfold Q0 at e;simp only[List.cons.injEq,Sum.inl.injEq,and_true]at e;exact iU e.1 e.2
def Wv {κ:Type}(k:Nat->κ)(n:Nat):List (κ×V):=(List.range n).map λi=>(k i,V.int i)
variable {κ:Type}
theorem qk7 (k:Nat->κ)(n:Nat):Wv k (n+1)=Wv k n++[(k n,V.int n)]:=by unfold Wv;rw[bz,aK];rfl
theorem Wd (k:Nat->κ)(n:Nat):(Wv k n).length=n:=by unfold Wv;rw[af,ay]
theorem qjf [DecidableEq κ]{k:Nat->κ}{q:κ}{n:Nat}(h:∀j,j<n->k j≠q):u9 (Wv k n) q=none:=by
 unfold u9 Wv;rw[List.find?_eq_none.mpr]
 .rfl
 .intro x z;obtain⟨i,hi,rfl⟩:=az.mp z;simpa using h i (al.mp hi)
theorem qk4 [DecidableEq κ]{k:Nat->κ}{j:Nat}:∀ {n:Nat},Dist k n->j<n->u9 (Wv k n) (k j)=some (.int j)
 |0,_,h=>absurd h ⋯
 |n+1,d,h=>by
  rw[qk7,qjm _ _ _ _ (qjf λi hi=>d i n hi ⋯)];rcases(by lia:j<n\/j=n) with z|z
  .rw[ar (d j n z ⋯),qk4 (d.mono ⋯) z]
  .subst z;rw[aw rfl]
theorem wk2 {γ δ:Type}{F:α->β->Prop}{G:α->γ->Prop}(g:δ->β)(f:δ->γ)(h:∀a x,F a (g x)->G a (f x)):∀ {l:List δ} {vs:List α},Paired F vs (l.map g)->Paired G vs (l.map f)
 |[],_,.nil=>.nil
 |_::_,_,.cons a t=>.cons (h _ _ a) (wk2 g f h t)
def qud (C CT:Aj):Sp:=λvs H Q E=>∃(r a:Aj) (hs:List Int) (p:Int×Int) (c:Int),vs=[.ref r,.ref a]/\RoadAt C H r hs/\qt hs/\H a=some (.tup [.int p.1,.int p.2])/\Pt hs c p/\Sm 8000 c /\
 (∀n u q l H',n<=1000->Dist (itP hs p) n->u<n->itP hs p n=itP hs p u->Same H H'->H l=none->H' q=some (.tup [.ref l,.int ((u:Nat):Int)])->PtsAt H' l (ww2 hs p n)->Q (.ref q) H')/\(Dist (itP hs p) 1001->∀H',Same H H'->E (.ref CT) none H')
include T in
theorem xx8 (F:Fun K "trace" "trace" zbe f fd)(zca:MCal P w K mg base qy "at" 4 (spAt K qy qx qg)):FK P w K mg base 5 f fd ["road","start"] (qud qy qm):=by
 have sc:=xx0;refine F.okX sc (λvs H Q E h=>by obtain⟨_,_,_,_,_,rfl,_⟩:=h;rfl) λ_ _ _ _ H vs Q E W h=>?_;obtain⟨r,a,hs,p,c,rfl,hR,ab,ha,hP,ap,k,x⟩:=h;obtain⟨dx,q0,h1,h2⟩:=id hR;obtain⟨tm,an⟩:=T.zae;refine⟨_,(qj (wg (i:=2) xx4)
   (qj (wg (i:=3) (pv 1))
   (qj (u7 aV (pt_cmp (wuk (xz0 W) (pv 3) (pv 2))) (qj (zp (w8 j8 (w5 qjp rfl T.len_ bH (qw (pv 2) qk)) (Zx (v:=V.int 1000) rfl an ⟨_,rfl⟩) (xv _)) (qr (yh rfl T.zai jz rfl T.zem (qw Zt qk))) xn)
   (qj (xk7 (xz0 W) (pv 2) (pv 3) (w5 qjp rfl T.len_ bH (qw (pv 2) qk)) rfl)
   (qr (wg (i:=3) (km (pv 0) T.cl zca (W.mono ⋯) q8 (qw (pv 3) qk)))))))
   (qr (xx (vy (qw (Zw (wvf rfl) rfl T.list_ cK (qw (pv 2) qk)) (qw (xj9 (xz0 W) (pv 2) (pv 3) (λ_ _=>rfl)) qk)))))))),?_⟩
 refineλD nD=>exI rfl ?_;refine Wb (λσ H2=>∃(i:Nat) (b:Aj),σ=[some (.ref r),some (.ref a),some (.ref D),some (.ref b)]/\i<=1000/\Dist (itP hs p) i/\Same H H2/\H2 D=some (.dT (Wv (λj=>Q0 (itP hs p j)) i))/\H2 b=some (.tup [.int (itP hs p i).1,.int (itP hs p i).2]))
  (λ_ H2=>match H2 D with|some (.dT kvs)=>1001-kvs.length|_=>0) ⟨0,a,rfl,⋯,λi j _ z=>absurd z ⋯,Same.upd nD,qu,by rw[wx (wj ha nD)];exact ha⟩ ?_ λσ H Q Q' h ⟨v,e,v2,e2,a',o,e3,g,kk,e4,q⟩=>⟨v,e,v2,e2,a',o,e3,g,kk,e4,h _ _ q⟩
 rintro σ H2 ⟨i,b,rfl,hi,hd,s2,f2,fb⟩;have a1:Dist (λj=>Q0 (itP hs p j)) i:=λu v uv vi e=>hd u v uv vi (wwj e);have Z:H2 b=some (.tup ((Q0 (itP hs p i)).map kV)):=fb;by_cases hj:∃j,j<i/\itP hs p j=itP hs p i
 .obtain⟨j,ji,je⟩:=hj;have L:u9 (Wv (λj=>Q0 (itP hs p j)) i) (Q0 (itP hs p i))=some (.int j):=by rw[<-je];exact qk4 a1 ji
  have dg:DGet H2 D (.ref b) (some (.int j)):=by have:=DGet.t f2 Z;rwa [L]at this
  refine exI rfl (exI rfl ⟨D,exI rfl ⟨dg,_,rfl,?_⟩⟩);refine uc ?_;refine exI rfl ⟨D,exI rfl ⟨f2,λl vs nl a0=>?_⟩⟩;have J:=Same.upd (o:=.lst vs) nl;have a3:DGet (upd H2 l (.lst vs)) D (.ref b) (some (.int j)):=by have:=DGet.t (J _ _ f2) (J _ _ Z);rwa [L]at this
  refine exI rfl (exI rfl ⟨D,exI rfl ⟨a3,sz2,λq nq=>?_⟩⟩);have U:=J.trans (Same.upd (o:=.tup [.ref l,.int j]) nq);have as:H l=none:=by
   cases e:H l with
   |none=>rfl
   |some o=>rw[s2 _ _ e]at nl;cases nl
  refine k i j q l _ hi hd ji je.symm (s2.trans U) as qu ⟨vs,Same.upd nq _ _ qu,?_⟩;refine wk2 (l:=List.range i) (λj=>(Q0 (itP hs p j),V.int j)) (itP hs p) (λv j L=>?_) a0;obtain⟨b',rfl,a2⟩:=L;exact⟨b',rfl,U _ _ a2⟩
 .have hn:∀j,j<i->itP hs p j≠itP hs p i:=λj a b=>hj ⟨j,a,b⟩;have L:u9 (Wv (λj=>Q0 (itP hs p j)) i) (Q0 (itP hs p i))=none:=qjf λj a b=>hn j a (wwj b);have dg:DGet H2 D (.ref b) none:=by have:=DGet.t f2 Z;rwa [L]at this
  have ad:=hd.succ hn;refine exI rfl (exI rfl ⟨D,exI rfl ⟨dg,_,rfl,?_⟩⟩);refine y9 ?_;refine exI rfl ⟨D,exI rfl ⟨f2,rfl,_,rfl,?_⟩⟩;rw[Wd];refine jr (λq1=>?_) (λq1=>?_)
  .have:i=1000:=by lia
   subst this;exact⟨sz1,x ad _ s2⟩
  .refine exI rfl ⟨D,exI rfl ⟨f2,exI rfl (exI rfl ⟨D,exI rfl ⟨DPut.t f2 Z (Jt (by rw[Wd];lia)),?_⟩⟩)⟩⟩;rw[xvu _ L,Wd,<-qk7 (λj=>Q0 (itP hs p j)) i];have J:Same H (upd H2 D (.dT (Wv (λj=>Q0 (itP hs p j)) (i+1)))):=Same.upd2 s2 nD;have db:b≠D:=λz=>by rw[z,f2]at fb;cases fb
   have ah:upd H2 D (.dT (Wv (λj=>Q0 (itP hs p j)) (i+1))) b=some (.tup [.int (itP hs p i).1,.int (itP hs p i).2]):=by rw[wx db];exact fb
   have f3:upd H2 D (.dT (Wv (λj=>Q0 (itP hs p j)) (i+1))) D=some (.dT (Wv (λj=>Q0 (itP hs p j)) (i+1))):=qu;generalize upd H2 D (.dT (Wv (λj=>Q0 (itP hs p j)) (i+1)))=H3 at J ah f3;have Pn:=xvk ab hP i;refine⟨_,rfl,r,dx,_,rfl,J _ _ h1,xc (by decide +kernel),_,rfl,r,b,hs,(itP hs p i).1,(itP hs p i).2,rfl,hR.same J,ab,SqT.of ah,λ_=>⟨(ap.of_le (by have:=Pn.2.1;have:=Pn.1;lia)),λ_ p4 H4 U f4=>?_,λz=>absurd Pn.2.2.2 z⟩,λz=>absurd Pn.1 ⋯⟩;refine⟨⟨i+1,p4,rfl,⋯,ad,J.trans U,U _ _ f3,f4⟩,?_⟩;show(match H4 D with|some (.dT kvs)=>1001-kvs.length|_=>0)<(match H2 D with|some (.dT kvs)=>1001-kvs.length|_=>0);rw[U _ _ f3,f2];show 1001-(Wv (λj=>Q0 (itP hs p j)) (i+1)).length<1001-(Wv (λj=>Q0 (itP hs p j)) i).length;rw[Wd,Wd];lia
def qyg (K:Aa)(C:Aj):Sp:=λvs H Q _=>∃(r p:Aj) (hs:List Int) (t b:Int),vs=[.ref r,.ref p]/\RoadAt C H r hs/\qt hs/\SqT K H p [.int t,.int b]/\(1<=b/\Sm 8000 b/\x6 hs t b/\¬ Dist (itP hs (wv t b)) 1001) /\
 ∀n u H',Same H H'->n<=1000->Dist (itP hs (wv t b)) n->u<n->itP hs (wv t b) n=itP hs (wv t b) u->Q (if u=0 then .int (n:Nat) else .non) H'
include T in
theorem xwr (F:Fun K "least" "least" zbf f fd)(zar:MCal P w K mg base qy "on_road" 3 (W8 K qy qx qg))(zfh:Cal P w K mg base "trace" 5 (qud qy qm)):FK P w K mg base 6 f fd ["road","point"] (qyg K qy):=by
 have sc:=xwy;refine F.okX sc (λvs H Q E h=>by obtain⟨_,_,_,_,_,rfl,_⟩:=h;rfl) λ_ _ _ _ H vs Q E W h=>?_;obtain⟨r,p,hs,t,b,rfl,J,ab,hp,⟨hb,L,Z,nd⟩,k⟩:=h;obtain⟨dx,q0,h1,h2⟩:=id J;refine⟨_,(qj (yn (wu zfh (W.mono ⋯) rfl q8 (qw (pv 0) (qw (km (pv 0) T.cl zar (W.mono ⋯) q8 (qw (pv 1) qk)) qk))) (yz rfl (xt (xz (i:=2)) (xt (xz (i:=3)) jw))))
   (qr (xx (qvx (w8 j8 (pv 3) qv (xv _)) (w5 xh rfl T.len_ bH (qw (pv 2) qk)) qxu)))),?_⟩
 refine⟨_,rfl,_,rfl,r,dx,_,rfl,h1,xc (by decide +kernel),_,rfl,r,p,hs,t,b,rfl,J,ab,hp,λ_=>⟨L,λ_ p1 H1 U f1=>?_,λz=>absurd Z z⟩,λz=>absurd hb ⋯⟩;refine⟨r,p1,hs,wv t b,b,rfl,J.same U,ab,f1,wv4 hb Z,L,λn u q3 l3 H3 n1 d1 u1 e1 s3 _ f3 ad=>?_,λd=>absurd d nd⟩;obtain⟨ws,fl,pr⟩:=ad;have lw:ws.length=n:=by rw[pr.length,ug]
 refine⟨q3,exI rfl ⟨SqT.of f3,rfl,_,_,rfl,_,_,rfl,rfl,?_⟩⟩;have D:=k n u H3 (U.trans s3) n1 d1 u1 e1;refine exI rfl ⟨rfl,_,rfl,jr (λz=>?_) (λz=>?_)⟩
 .rw[aw ⋯]at D;refine exI rfl ⟨_,_,rfl,.inl (SqL.of fl),?_⟩;rw[lw];exact D
 .rw[ar ⋯]at D;exact D
def Kp (H H':Hp):Prop:=∀b o,(∀ps,o≠HO.tbl ps)->H b=some o->H' b=some o
theorem Kp.of (s:Same H H'):Kp H H':=λb o _ e=>s b o e
theorem Kp.ofT {T:Aj}{ps:Array Ag}(hT:H T=some (.tbl ps))(s:KeepT T H H'):Kp H H':=λb o n e=>s b o (λz=>by rw[z,hT]at e;cases e;exact n _ rfl) e
theorem Kp.trans {H'':Hp}(a:Kp H H')(b:Kp H' H''):Kp H H'':=λc o n e=>b c o n (a c o n e)
theorem Kp.lst (k:Kp H H'){b:Aj}{xs:List V}(e:H b=some (.lst xs)):H' b=some (.lst xs):=k b _ (λps z=>by cases z) e
theorem Kp.tup (k:Kp H H'){b:Aj}{xs:List V}(e:H b=some (.tup xs)):H' b=some (.tup xs):=k b _ (λps z=>by cases z) e
theorem Kp.none (k:Kp H H'){b:Aj}(hT:∀ps,H b=some (.tbl ps)->False)(e:H' b=.none):H b=.none:=by
 cases q:H b with
 |none=>rfl
 |some o=>rw[k b o (λps z=>hT ps (by rw[q,z])) q]at e;cases e
theorem Kp.upd {p:Aj}(k:Kp H H')(n:H p=.none):Kp H (L2.upd H' p o):=λb u h e=>by rw[wx (wj e n)];exact k b u h e
theorem Kp.sql {a:Aj}{xs:List V}(k:Kp H H')(h:SqL K H a xs):SqL K H' a xs:=by
 rcases h with (h|⟨o,h⟩)|h
 .exact .inl (.inl (k.lst h))
 .exact .inl (.inr ⟨o,k _ _ (λps z=>by cases z) h⟩)
 .exact .inr h
def PL (H:Hp)(vs:List V)(pt:Nat->Int×Int):Prop:=∀i v,vs[i]?=some v->∃a,v=.ref a/\H a=some (.tup [.int (pt i).1,.int (pt i).2])
variable {vs:List V}
theorem PL.kp {pt:Nat->Int×Int}(h:PL H vs pt)(k:Kp H H'):PL H' vs pt:=λi v e=>by obtain⟨a,e1,e2⟩:=h i v e;exact⟨a,e1,k.tup e2⟩
def OkP (q:Int×Int):Prop:=1<=q.2/\Sm 150 q.1/\Sm 150 q.2
theorem Qf {T:Aj}{pos:Pos}{q:Str}(h:j9 T pos q H)(s:Same H H'):j9 T pos q H':=by
 rcases h with h|⟨c,h1,h2⟩
 .exact .inl (s _ _ h)
 .exact .inr ⟨c,s _ _ h1,s _ _ h2⟩
theorem tab_wr {T p:Aj}{pos:Pos}{q:Str}{xs:List V}(h:j9 T pos q H)(hp:H p=some (.lst xs)):j9 T pos q (L2.upd H p o):=by
 rcases h with h|⟨c,h1,h2⟩
 .exact .inl (by rw[wx (λz=>by rw[z,hp]at h;cases h)];exact h)
 .exact .inr ⟨c,by rw[wx (λz=>by rw[z,hp]at h1;cases h1)];exact h1,by rw[wx (λz=>by rw[z,hp]at h2;cases h2)];exact h2⟩
theorem xq5 {T:Aj}{pos:Pos}{q:Str}(h:j9 T pos q H):∃ps,H T=some (.tbl ps):=by
 rcases h with h|⟨c,h,_⟩
 .exact⟨_,h⟩
 .exact⟨_,h⟩
abbrev ym:Pos:=⟨37,30,37,72⟩
abbrev qwv:Str:=("ordered" : Str) ++ ".<locals>." ++ "<lambda>"
def lamOf:Stmt->Expr
 |.Return (some (.Call _ _ [⟨_,l,_⟩] _)) _=>l
 |_=>.Constant .none 0 ⟨0,0,0,0⟩
def lamA:Expr->Arguments
 |.Lambda a _ _ _=>a
 |_=>⟨[],[],none,[],[],none,[]⟩
def lamB:Expr->Expr
 |.Lambda _ b _ _=>b
 |e=>e
abbrev xwj:Expr:=lamOf ((vz zal).getD 3 (.Pass ⟨0,0,0,0⟩))
theorem xzx {x y z:Str}(h:([(x,NameKind.local),(y,NameKind.free)]:List (Str×NameKind)).lookup z=some .free):z=y:=by
 rw[bv]at h;split at h
 .cases h
 .rw[bv]at h;split at h
  .rename_i e;simpa using e
  .cases h
def wj7 (K:Aa)(T C:Aj):Sp:=λvs H Q E=>∃(p:Aj) (xs:List V) (pt:Nat->Int×Int),vs=[.ref p]/\SqL K H p xs/\PL H xs pt/\j9 T ym qwv H/\(∀i,i<xs.length->OkP (pt i))/\(∀i j,i<j->j<xs.length->(pt i).1*(pt j).2≠(pt j).1*(pt i).2)/\xs.length<64/\∀(l:Aj) (il:List Nat) (H':Hp),Kp H H'->j9 T ym qwv H'->H l=none->il.Perm (List.range xs.length)->il.Pairwise (Wor pt)->H' l=some (.lst (il.map λi=>xs.getD i .non))->Q (.ref l) H'
theorem zfi {f:Aj}{fd:Ad}{cO TT:Aj}(F:FunT K "ordered" zal cO f fd)(T:Txt K mg qh qx qg qf qm qp qy)(hB:BMain mg base)(hC:PySem.W.codeHdIn K cO TT=true)(zb7:Cal P w K mg base "check_bottom" 1 (qw3 qx)) :
  FK P w K mg base 6 f fd ["points"] (wj7 K TT qx):=by
 have sc:=wvu;have ap:LamSc "point" "scale" ⟨.function,[("point",.local),("scale",.free)],false,false,[]⟩:=⟨rfl,rfl,rfl,rfl,rfl,⋯,λz h=>xzx h,⋯⟩;refine F.okX sc (λvs H Q E h=>by obtain⟨_,_,_,rfl,_⟩:=h;rfl) (λA outer s H vs Q E hr h=>?_);obtain⟨p,xs,pt,rfl,U,hP,hT,J,a0,a6,k⟩:=h;refine⟨_,(qj (ky aV rfl (zc (pv 0)) (xz (i:=1)) (qr (vg (wu zb7 (hr.mono ⋯) rfl q8 (qw (wn wt (pv 1) qv (λ_ _=>rfl)) qk)))))
   (qj (wg (i:=2) (wyx (wuv rfl) rfl T.max_ df (qw (zr (M:=[]) rfl rfl (by walk_at "cap") (by walk_at "has") (by walk_at "cix") rfl (by decide +kernel) rfl (show List.Nodup (["point"]:List Str) by decide +kernel) (zc (pv 0)) (λ_ _ _ _ _=>(wn (Yb (K:=K) rfl) (pv 0) qv (λ_ _=>rfl)))) qk) (wk1 qv xvp)))
   (qj (wg (i:=3) (q9 xq (pv 2) (pv 2)))
   (qr (xx (wz3 (qu7 (k:=0) (params:=lamA xwj) (body:=lamB xwj) (qual:=qwv) (pm:=(mg "__name__").getD .none) (x := "point") (y := "scale") (iy:=3) ap (hr.mono ⋯) rfl rfl rfl rfl (by intro _ _ _;rfl) (λ_ _ _ _ _ _ _=>(q9 jc (q9 xq (wn (Yb (K:=K) rfl) (pv 0) qv (λ_ _=>rfl)) (pv 1)) (wn (Yb (K:=K) rfl) (pv 0) qv (λ_ _=>rfl))))) rfl T.sorted_ fH (qw (pv 0) qk) (wk1 (pe_lam hB rfl hC rfl rfl) xvp))))))),?_⟩
 refine exI rfl ⟨p,rfl,⟨_,U⟩,Yj (K:=K) (a:=p) (xs:=xs) (λi σ H1=>H1=H/\(∀j,j<i->1<=(pt j).2)/\∃z,σ=[some (.ref p),z,none,none]) ⟨rfl,λj h=>absurd h ⋯,_,rfl⟩ ?_ ?_ ?_⟩
 .rintro i σ H1 _ ⟨rfl,_,_,_⟩;exact U
 .rintro i y σ H1 hy ⟨rfl,hn,z,rfl⟩;obtain⟨a,rfl,fa⟩:=hP i y hy;have hi:i<xs.length:=(am.mp hy).1;refine⟨_,rfl,_,_,_,_,rfl,rfl,SqT.of fa,rfl,_,rfl,λh1=>⟨rfl,λj D=>?_,_,rfl⟩,λh2=>?_⟩
  .by_cases e:j=i
   .rw[e];exact h1
   .exact hn j ⋯
  .exact absurd (J i hi).1 ⋯
 .rintro σ H1 ⟨rfl,hn,z,rfl⟩;refine exI rfl ⟨p,rfl,⟨_,U⟩,Qp (K:=K) (a:=p) (xs:=xs) (λj v _=>v=.int (pt j).2) (λi v H H' p g _ _=>g) U ⋯ (λi x H2 R hx hs hR=>?_) λp2 ys H2 a4 s2 f2 a5 ah=>?_⟩
  .obtain⟨a,rfl,fa⟩:=hP i x hx;exact exI rfl (exX rfl rfl (SqT.of (hs _ _ fa)) rfl (hR _ _ (Same.refl _) rfl λb e=>nomatch e))
  have ey:ys=((List.range xs.length).map λj=>(pt j).2).map V.int:=by
   refine cH λj=>?_;rw[aN,ax];by_cases D:j<xs.length
   .rw[bg D];have e:ys[j]?=some ys[j]:=aa ⋯;rw[e,(ah j _ e).1];rfl
   .rw[aP ⋯,aP (by rw[ay];lia)];rfl
  rw[ey]at f2;refine⟨p2,_,1,rfl,rfl,SqL.of f2,λG a2 ah=>?_⟩;have L:∀i,i<xs.length->(pt i).2<=G:=λi hi=>a2 _ (az.mpr ⟨i,al.mpr hi,rfl⟩);have gs:Sm 150 G:=by
   rcases ah with h|⟨_,h⟩
   .obtain⟨i,hi,rfl⟩:=az.mp h;exact(J i (al.mp hi)).2.2
   .rw[h];unfold Sm;decide +kernel
  refine exI rfl (exI rfl (wy rfl rfl ⟨gs.ok gs ⋯,?_⟩));refine exI rfl ⟨Qf hT s2,λg c' ctv H3 kT tA ng fg=>?_⟩;obtain⟨ps,as⟩:=xq5 (Qf hT s2);have k3:Kp H2 H3:=Kp.ofT as kT;have Z:Kp H1 H3:=(Kp.of s2).trans k3;have P3:=hP.kp Z;refine⟨p,xs,(List.range xs.length).map (λi=>Jf (G*G) (pt i)),g,c',ctv,.int (G*G),rfl,rfl,Z.sql U,⋯,?_,by rw[af,ay],fg,tA.2,rfl,λi v hv=>?_,λl il nl st=>?_⟩
  .refine ba.mpr λi j hi D an=>?_;rw[af,ay]at hi D;simp only[gH,List.getElem_range];intro z;have w:=wvm (J i hi).1 (J j D).1 (L i hi) (L j D) (.inr ⟨z,an⟩);have w':=λh=>wvm (pt:=pt) (i:=j) (j:=i) (J j D).1 (J i hi).1 (L j D) (L i hi) h;rcases w with w|⟨w,_⟩
   .exact jU _ (by have:=wjj (J i hi).1 (J j D).1 (L i hi) (L j D) w;rw[z]at this;exact this)
   .exact a0 i j an D w
  .obtain⟨a,rfl,fa⟩:=P3 i v hv;have hi:i<xs.length:=(am.mp hv).1;obtain⟨o1,o2,o3⟩:=J i hi;refine exI rfl (exX rfl rfl (SqT.of fa) rfl (exI rfl (wy rfl rfl ⟨o2.ok (gs.mul gs) ⋯,exI rfl (exX rfl rfl (SqT.of fa) rfl (wy rfl rfl ⟨⟨⋯,o3.mono ⋯⟩,?_,rfl⟩))⟩)));rw[ae,ax,bg hi];rfl
  .have a1:∀ps,H1 l=some (.tbl ps)->False:=λps e=>by
    obtain⟨a3,e2⟩:=xq5 hT;have:H3 l=none:=nl;by_cases h:l=TT
    .rw[h,tA.1]at this;cases this
    .rw[kT l _ h (s2 _ _ e)]at this;cases this
   have n1:H1 l=none:=Z.none a1 nl;refine k l il _ (Z.upd n1) (Qf (.inr ⟨c',tA⟩) (Same.upd nl)) n1 st.1 ?_ qu;refine st.2.imp_of_mem λ{i j} hi D h=>?_;have ad:i<xs.length:=al.mp (st.1.mem_iff.mp hi);have ab:j<xs.length:=al.mp (st.1.mem_iff.mp D);have e:∀i,i<xs.length->((List.range xs.length).map λi=>Jf (G*G) (pt i)).getD i 0=Jf (G*G) (pt i):=λi h=>by rw[ae,ax,bg h];rfl
   rw[e i ad,e j ab]at h;exact wvm (J i ad).1 (J j ab).1 (L i ad) (L j ab) h
def inK (p:Int×Int)(k:Int):Bool:=decide (k*p.2<=p.1/\p.1<=(k+1)*p.2)
def v8 (ws:List Int)(p:Int×Int):Bool:=ws.any (inK p)
def liesV (p:Int×Int):V->V
 |.int k=>.bl (inK p k)
 |_=>.non
def wzd (K:Aa):Sp:=λvs H Q _=>∃(a q:Aj) (p:Int×Int) (ws:List Int),vs=[.ref a,.ref q]/\SqT K H a [.int p.1,.int p.2]/\SqL K H q (ws.map V.int)/\ws.length<=1000/\(∀k∈ws,0<=k/\k<24)/\∀H',Same H H'->Q (.bl (v8 ws p)) H'
include T in
theorem xjv (F:Fun K "lies_in" "lies_in" zbj f fd):FK P w K mg base 1 f fd ["point","stretches"] (wzd K):=by
 have W:=wv8;refine F.okX W (λvs H Q E h=>by obtain⟨_,_,_,_,rfl,_⟩:=h;rfl) λ_ _ _ _ H vs Q E hr h=>?_;obtain⟨a,q,p,D,rfl,hA,L,hl,hw,k⟩:=h;refine⟨_,(qj (yn (pv 0) (yz rfl (xt (xz (i:=2)) (xt (xz (i:=3)) jw))))
   (qr (xx (w5 (qv4 (K:=K) rfl rfl) rfl T.any_ PyProof.Rows.boot_any (qw (zr (M:=[2,3]) rfl rfl (by walk_at "cap") (by walk_at "has") (by walk_at "cix") rfl (by decide +kernel) rfl (show List.Nodup (["stretch","top","bottom"]:List Str) by decide +kernel) (zc (pv 1)) (λ_ _ _ _ _=>(qzz (Yv wkv (pv 1) (q9 xq (pv 0) (pv 2)) (xv _)) (qxr (Yv qz5 (pv 1) (q9 xq (q9 xj (pv 0) qv) (pv 2)) (xv _)))))) qk))))),?_⟩
 refine exI rfl ⟨a,exI rfl ⟨hA,rfl,_,_,rfl,_,_,rfl,rfl,?_⟩⟩;refine exI rfl ⟨q,rfl,⟨_,L⟩,wx5 (K:=K) (liesV p) (λx b z=>by cases x <;> cases z) L (by rw[af];lia) (λx H' R hx hs hR=>?_) λp2 H2 np s2 U=>?_⟩
 .obtain⟨i,hi,rfl⟩:=az.mp hx;obtain⟨i0,i1⟩:=hw i hi;have m1:∀x:Int,IntMulOk i x:=λx=>IntMulOk.of_left (intBits_le_64 ⋯ ⋯);have Z:∀x:Int,IntMulOk (i+1) x:=λx=>IntMulOk.of_left (intBits_le_64 ⋯ ⋯);refine exI rfl (exI rfl (exI rfl (wy rfl rfl ⟨m1 _,wy rfl rfl (exI rfl ?_)⟩)));have J:R (.bl (decide (i*p.2<=p.1/\p.1<=(i+1)*p.2))) H':=hR H' (Same.refl _);refine jb (λz=>?_) (λz=>?_)
  .refine exI rfl (exI rfl (wy rfl rfl (exI rfl (wy rfl rfl ⟨Z _,wy rfl rfl ?_⟩))));have e:decide (i*p.2<=p.1/\p.1<=(i+1)*p.2)=decide (p.1<=(i+1)*p.2):=by
    by_cases y:p.1<=(i+1)*p.2
    .rw[aF y,aF ⟨z,y⟩]
    .rw[aT y,aT (λw=>y w.2)]
   rw[e]at J;exact J
  .rw[aT (λw=>z w.1)]at J;exact J
 .have e:(D.map V.int).map (liesV p)=(D.map (inK p)).map V.bl:=by rw[aN,aN];rfl
  rw[e]at U;refine⟨p2,exI rfl ⟨SqL.of U,?_⟩⟩;have e2:(D.map (inK p)).any id=v8 D p:=by unfold v8;rw[List.any_map];rfl
  rw[e2];exact k _ s2
def qqg (hs:List Int)(m:Nat):List (Int×Int):=((List.range hs.length).filter λc:Nat=>decide (itP hs ((0:Int)+c,1) m=((0:Int)+c,1))).map λc:Nat=>((0:Int)+c,(1:Int))
def quk (C:Aj):Sp:=λvs H Q _=>∃(r:Aj) (hs:List Int) (m:Int),vs=[.ref r,.int m]/\RoadAt C H r hs/\qt hs/\1<=m/\m<=12/\∀p ys H',H p=none->Same H H'->H' p=some (.lst ys)->Paired (PtR H') ys (qqg hs m.toNat)->Q (.ref p) H'
theorem qxk (h:PtR H v p)(k:∀b o,(∀xs,o≠HO.lst xs)->H b=some o->H' b=some o):PtR H' v p:=by obtain⟨a,e,f⟩:=h;exact⟨a,e,k a _ (λxs z=>by cases z) f⟩
theorem low1 (x:Int):wv x 1=(x,1):=by
 have h1:=zx (t:=x) (b:=1) ⋯;have h2:=ud (t:=x) (b:=1) ⋯;have h3:=zu (t:=x) (b:=1) ⋯;have e2:(wv x 1).2=1:=by lia
 rw[e2]at h3;exact iU ⋯ e2
theorem uh {α β:Type}{R:α->β->Prop}{f:Nat->α}{g:Nat->β}:∀ {l:List Nat},(∀i∈l,R (f i) (g i))->Paired R (l.map f) (l.map g)
 |[],_=>.nil
 |i::l,h=>.cons (h i (.head _)) (uh λj hj=>h j (.tail _ hj))
include T in
theorem xzz (F:Fun K "corners_back" "corners_back" zbi f fd)(zaa:MCal P w K mg base qy "width" 1 (j6 qy))(zfj:Cal P w K mg base "walked" 5 (qxb K qy qx qg qf)) :
  FK P w K mg base 6 f fd ["road","many"] (quk qy):=by
 have sc:=qwy;refine F.okX sc (λvs H Q E h=>by obtain⟨_,_,_,rfl,_⟩:=h;rfl) λ_ _ _ s H vs Q E Z h=>?_;obtain⟨r,hs,m,rfl,hR,L,m1,m2,k⟩:=h;have o1:=L.1;have o2:=L.2.1;obtain⟨dx,q0,h1,h2⟩:=id hR;refine⟨_,(qj (y8 (i:=2) (M:=[]) sc.nd rfl (by walk_at "loc") rfl rfl (by walk_at "cap") (by walk_at "has") (by walk_at "cix") rfl (by decide +kernel) rfl (show List.Nodup (["corner"]:List Str) by decide +kernel) (xg rfl T.range_ (qw (q9 xj (kr (pv 0) T.cl zaa (Z.mono ⋯) q8) qv) qk)) (λ_ _ _ _ _=>(vy (qw (pv 0) (qw qv qk)))))
   (qr (xx (Ys (M:=[0,1]) rfl rfl (by walk_at "cap") (by walk_at "has") (by walk_at "cix") rfl (by decide +kernel) rfl (show List.Nodup (["corner","road","many"]:List Str) by decide +kernel) (zc (pv 2)) (λ_ _ _ _ _=>(w8 (xkb (K:=K) rfl Z.units) (wn (yw (K:=K) rfl) (wu zfj (Z.mono ⋯) rfl Wc (qw (pv 1) (qw (pv 0) (qw (pv 2) qk)))) (pv 2) (λ_ _=>rfl)) (pv 0) (xv _))) (λ_ _ _ _ _=>(pv 0)))))),?_⟩
 refine exI rfl ⟨r,dx,exI rfl ⟨h1,xc (by decide +kernel),r,hs,rfl,hR,wy rfl rfl (exI rfl ⟨⋯,⋯,?_⟩)⟩⟩;rw[show((hs.length:Int)-1+1).toNat=hs.length by lia];refine qq0 (λi v H=>PtR H v ((0:Int)+i,1)) (λi v H1 H2 g st=>qxk g st) ⋯ (λi H' R hi s' a0=>?_) λp1 D H1 n1 J f1 U g1=>?_
 .exact exI rfl ⟨sz2,λp np=>a0 _ _ (Same.upd np) ⟨p,rfl,qu⟩⟩
 refine exI rfl ⟨p1,rfl,⟨_,SqL.of f1⟩,Z6 (K:=K) (λi=>decide (itP hs ((0:Int)+i,1) m.toNat=((0:Int)+i,1))) (SqL.of f1) ⋯ (λi x H2 R W s2 ab=>?_) (λi x H2 R W _ s2 ab=>?_) λp3 H3 n3 s3 f3=>?_⟩
 .obtain⟨a,rfl,fa⟩:=g1 i x W;have hi:i<hs.length:=by rw[<-U];exact(am.mp W).1
  have ad:=s2 _ _ fa;have an:=J.trans s2;have on:x6 hs ((0:Int)+i) 1:=⟨⋯,⋯⟩;refine⟨_,rfl,_,rfl,_,rfl,r,a,hs,(0:Int)+i,1,m,rfl,hR.same an,L,SqT.of ad,λ_=>⟨Sm.small ⋯ ⋯ ⋯,λ_=>⟨λ_ q H4 nq s4 P4=>?_,λz=>absurd ⟨⋯,λy e=>by cases e;lia⟩ z⟩,λz=>absurd on z⟩,λz=>absurd z ⋯⟩;rw[low1]at P4;obtain⟨ah,f4,ap⟩:=P4;obtain⟨v,ev,⟨b,rfl,fb⟩⟩:=Zq (i:=m.toNat) (b:=itP hs ((0:Int)+i,1) m.toNat) ap (by rw[Jd,aG (by rw[ug];exact ak _),ug];simp);have ea:atI ah m=some (.ref b):=by have:=v6 ev;rwa [bR ⋯]at this
  refine exI rfl (exX rfl rfl (SqL.of f4) ea (exI rfl ?_));refine⟨ptD _,ptD ((0:Int)+i,1),qkr (SqT.of fb),qkr (SqT.of (s4 _ _ ad)),rfl,rfl,wvt,?_⟩;refine exI rfl ?_;show R (PyData.eqv (ptD (itP hs ((0:Int)+i,1) m.toNat)) (ptD ((0:Int)+i,1))) H4;rw[wz5];exact ab _ s4
 .exact exI rfl (ab _ (Same.refl _))
 .refine k p3 _ H3 (yu J n3) (J.trans s3) f3 ?_;unfold uf qqg;rw[U];refine uh λi hi=>?_;have as:i<D.length:=by rw[U];exact al.mp (bo.mp hi).1
  have e:D[i]?=some (D.getD i .non):=by rw[ae,aa as];rfl
  exact(g1 i _ e).same s3
def two (p:Int×Int):List Int:=[p.1,p.2]
theorem xjz {q:Int×Int}(h:two p=two q):p=q:=by unfold two at h;exact iU (iP h).1 (iP (iP h).2).1
theorem vc {α:Type}{l:List α}{x d:α}(h:l[i]?=some x):l.getD i d=x:=by rw[ae,h];rfl
def qqs (hs:List Int)(m:Nat):List (Int×Int):=(((List.range (xf hs m).length).filter λi=>!decide ((xw hs ((xf hs m).getD i [])).1=1)).map λi=>Wk (xw hs ((xf hs m).getD i [])))++qqg hs m
theorem wwk (ok:qt hs){m:Nat}{p:Int×Int}:p∈qqg hs m↔(p.2=1/\0<=p.1/\p.1<=(hs.length:Int)-1/\trT hs p.1 1 m=p.1):=by
 have F:=ok.1;have tl:∀t:Int,itP hs (t,1) m=(trT hs t 1 m,1):=λt=>by have:=Yw (hs:=hs) (t:=t) (b:=1) ⋯ m;rw[low1,low1]at this;exact this.symm
 unfold qqg;rw[az];constructor
 .rintro⟨c,z,rfl⟩;obtain⟨h1,h2⟩:=bo.mp z;have h1:=al.mp h1;have h2:=c0 h2;rw[tl]at h2;refine⟨rfl,?_,?_,(Prod.ext_iff.mp h2).1⟩
  .show(0:Int)<=0+c;lia
  .show(0:Int)+c<=_;lia
 .rintro⟨h1,h2,J,D⟩;refine⟨p.1.toNat,bo.mpr ⟨al.mpr ⋯,?_⟩,iU (by show(0:Int)+(p.1.toNat:Int)=p.1;lia) h1.symm⟩;rw[show(0:Int)+(p.1.toNat:Int)=p.1 by lia,tl,D];exact aF rfl
theorem Yp (h:r∈xf hs m):∃i,i<(xf hs m).length/\(xf hs m).getD i []=r:=by obtain⟨i,hi,e⟩:=cE h;exact⟨i,hi,by rw[ae,aa hi,e];rfl⟩
theorem Yc (h:i<(xf hs m).length):(xf hs m).getD i []∈xf hs m:=by rw[ae,aa h];exact bD h
theorem wwm (ok:qt hs){m:Nat}{p:Int×Int}:p∈qqs hs m↔uk hs m p:=by
 unfold qqs uk;rw[aW,wwk ok,az];refine or_congr ?_ Iff.rfl;constructor
 .rintro⟨i,hi,rfl⟩;obtain⟨h1,h2⟩:=bo.mp hi;refine⟨_,Yc (al.mp h1),λz=>?_,rfl⟩;rw[z]at h2;cases h2
 .rintro⟨r,D,h1,rfl⟩;obtain⟨i,hi,rfl⟩:=Yp D;exact⟨i,bo.mpr ⟨al.mpr hi,by rw[aT h1];rfl⟩,rfl⟩
theorem qzv (ok:qt hs){m:Nat}(m1:1<=m)(m2:m<=12){p:Int×Int}(h:uk hs m p):OkP p:=by
 obtain⟨U,_,F⟩:=Zy ok m1 m2 h;have Z:=ok.2.1;have ad:p.2<=36520347436056577:=by
  rcases h with⟨r,L,z,rfl⟩|⟨e1,_⟩
  .have c:=(vm ok m1).mp L;have D:=J1 ok (xs:=r) r.length;rw[bf,c.1]at D;have D:(xw hs r).1.natAbs<=24 ^ 12:=bI D (du ⋯ m2);have J:(24:Nat) ^ 12=36520347436056576:=by decide
   rw[J]at D;unfold Wk;split
   .have:=ud (t:=-(xw hs r).2) (b:=(xw hs r).1-1) ⋯;lia
   .have:=ud (t:=(xw hs r).2) (b:=1-(xw hs r).1) ⋯;lia
  .lia
 have top:p.1<=24*p.2:=dr F.2 (aj ⋯ ⋯);have W:=F.1;exact⟨U,Sm.small ⋯ ⋯ ⋯,Sm.small ⋯ ⋯ ⋯⟩
theorem qus (ok:qt hs){m:Nat}(m1:1<=m){i:Nat}(h:i<(xf hs m).length):0<=((xf hs m).getD i []).getD 0 0/\((xf hs m).getD i []).getD 0 0<(hs.length:Int)-1:=by
 have c:=(vm ok m1).mp (Yc h);refine c.2.1 _ ?_;have l:0<((xf hs m).getD i []).length:=by rw[c.1];lia
 generalize (xf hs m).getD i []=r at l;rw[ae,aa l];exact bD l
structure BackOf (hs:List Int)(m:Nat)(pts:List (Int×Int))(ws:List Int):Prop where
 wup:ws.Pairwise (·<·)
 wmem:∀v,v∈ws↔kh hs m v
 pup:pts.Pairwise λp q=>p.1*q.2<q.1*p.2
 pmem:∀p,p∈pts↔(uk hs m p/\v8 ws p=false)
 wfew:ws.length<=24
 pfew:pts.length<=1025
def wv5 (C TT:Aj):Sp:=λvs H Q _=>∃(r:Aj) (hs:List Int) (m:Int),vs=[.ref r,.int m]/\RoadAt C H r hs/\qt hs/\1<=m/\m<=12/\crS hs m.toNat<=1000/\(xf hs m.toNat).length+hs.length<=63/\j9 TT ym qwv H /\
 ∀(a lp lw:Aj) (ys:List V) (pts:List (Int×Int)) (ws:List Int) (H':Hp),Kp H H'->j9 TT ym qwv H'->H' a=some (.tup [.ref lp,.ref lw])->H' lp=some (.lst ys)->Paired (PtR H') ys pts->H' lw=some (.lst (ws.map V.int))->BackOf hs m.toNat pts ws->Q (.ref a) H'
theorem wwx:∀ {ys:List V} {ps:List (Int×Int)},Paired (PtR H) ys ps->Tups (ps.map two) ys H
 |_,_,.nil=>.nil
 |_,_,.cons ⟨a,e,f⟩ t=>.cons ⟨a,e,f⟩ (wwx t)
variable {ps:List (Int×Int)}
theorem xkr {L:List (List Int)}(h:Tups L ys H)(e:L=ps.map two):Paired (PtR H) ys ps:=by
 subst e
 induction ps generalizing ys with
 |nil=>cases h;exact .nil
 |cons p ps ih =>
  cases h with
  |cons r t=>exact .cons r (ih t)
theorem qvj:∀ {L:List (List Int)},(∀x∈L,x∈ps.map two)->∃qs:List (Int×Int),L=qs.map two/\∀q∈qs,q∈ps
 |[],_=>⟨[],rfl,λq h=>by cases h⟩
 |x::L,h=>by
  obtain⟨p,hp,e⟩:=az.mp (h x (.head _));obtain⟨qs,e2,h2⟩:=qvj (L:=L) λy hy=>h y (.tail _ hy);refine⟨p::qs,by rw[e2,<-e];rfl,λq hq=>?_⟩;rcases aO.mp hq with rfl|hq
  .exact hp
  .exact h2 q hq
theorem wy2 {l:List Int}(h:l.Pairwise (·<=·))(nd:l.Nodup):l.Pairwise (·<·):=by refine List.Pairwise.imp₂ (λa b h1 h2=>?_) h nd;have:a≠b:=h2;lia
include T in
theorem xyw {f:Aj}{fd:Ad}{TT:Aj}(F:Fun K "back" "back" zbk f fd)(zfk:Cal P w K mg base "rows" 7 (wvx qy qf qm))(zfl:Cal P w K mg base "fixed_point" 5 (quc K qy))(zfm:Cal P w K mg base "corners_back" 6 (quk qy))(zfn:Cal P w K mg base "lies_in" 1 (wzd K))(zcb:Cal P w K mg base "ordered" 6 (wj7 K TT qx)) :
  FK P w K mg base 8 f fd ["road","many"] (wv5 qy TT):=by
 have sc:=xv2;refine F.okX sc (λvs H Q E h=>by obtain⟨_,_,_,rfl,_⟩:=h;rfl) λ_ _ _ s H vs Q E hr h=>?_;obtain⟨r,hs,m,rfl,hR,W,m1,m2,dd,d0,hT,k⟩:=h;have o1:=W.1;have o2:=W.2.1;have ed:(1000000:Nat)<sizeLine:=by decide
 have n1:1<=m.toNat:=by lia
 have n2:m.toNat<=12:=by lia
 have rl:=qk1 W n1;have cm:∀x∈xf hs m.toNat,ClR hs m.toNat x:=λx J=>(vm W n1).mp J;refine⟨_,(qj (wg (i:=2) (wu zfk (hr.mono ⋯) rfl q8 (qw (pv 0) (qw (pv 1) qk))))
   (qj (y8 (i:=3) (M:=[0]) sc.nd rfl (by walk_at "loc") rfl rfl (by walk_at "cap") (by walk_at "has") (by walk_at "cix") rfl (by decide +kernel) rfl (show List.Nodup (["row","road"]:List Str) by decide +kernel) (zc (pv 2)) (λ_ _ _ _ _=>(wu zfl (hr.mono ⋯) rfl Wc (qw (pv 1) (qw (pv 0) qk)))))
   (qj (wg (i:=4) (w5 (qvf rfl) rfl T.sorted_ fH (qw (xw8 (x := "row") (y2 := "point") (M:=[]) rfl rfl (by walk_at "cap") (by walk_at "has") (by walk_at "cix") rfl (by decide +kernel) (λ_ _ _ _ _=>xyb (K:=K) (n:=2) rfl rfl (xt (xz (i:=0) (show List.Nodup (["row","point"]:List Str) by decide +kernel) rfl (by walk_at "loc")) (xt (xz (i:=1) (show List.Nodup (["row","point"]:List Str) by decide +kernel) rfl (by walk_at "loc")) jw))) (pi_zip rfl T.zip_ (qw (pv 2) (qw (pv 3) qk))) (λ_ _ _ _ _=>(w8 op_isN (pv 1) qxu (xv _))) (λ_ _ _ _ _=>(wn (Yb (K:=K) rfl) (pv 0) qv (λ_ _=>rfl))) (λ_ _ _ _ _=>(xz9 (P:=P) (w:=w) rfl rfl))) qk)))
   (qj (wg (i:=5) (q9 Z7 (Ys (M:=[]) rfl rfl (by walk_at "cap") (by walk_at "has") (by walk_at "cix") rfl (by decide +kernel) rfl (show List.Nodup (["point"]:List Str) by decide +kernel) (zc (pv 3)) (λ_ _ _ _ _=>(w8 wjp (pv 0) qxu (xv _))) (λ_ _ _ _ _=>(pv 0))) (wu zfm (hr.mono ⋯) rfl q8 (qw (pv 0) (qw (pv 1) qk)))))
   (qj (wg (i:=6) (wu zcb (hr.mono ⋯) rfl q8 (qw (w5 (qv0 rfl) rfl T.sorted_ fH (qw (xj3 (M:=[4]) rfl rfl (by walk_at "cap") (by walk_at "has") (by walk_at "cix") rfl (by decide +kernel) rfl (show List.Nodup (["point","wholes"]:List Str) by decide +kernel) (zc (pv 5)) (λ_ _ _ _ _=>(wvg (wzj (wu zfn (hr.mono ⋯) rfl Wc (qw (pv 0) (qw (pv 1) qk)))))) (λ_ _ _ _ _=>(pv 0)) (λ_ _ _ _ _=>(xwv (P:=P) (w:=w) rfl rfl hr.units))) qk)) qk)))
   (qr (xx (vy (qw (pv 6) (qw (pv 4) qk)))))))))),?_⟩
 dsimp only [Ww];refine exI rfl (exI rfl ⟨r,hs,m,rfl,hR,W,m1,m2,dd,λp1 ab H1 eb s1 f1 t1=>?_⟩);have l1:=t1.len;have co:∀i x,ab[i]?=some x->∃a,x=.ref a/\i<(xf hs m.toNat).length/\H1 a=some (.tup (((xf hs m.toNat).getD i []).map V.int)):=λi x J=>by obtain⟨a,xs,e1,e2,e3⟩:=t1.get J;exact⟨a,e1,(am.mp e2).1,by rw[ae,e2];exact e3⟩
 refine exI rfl ⟨p1,rfl,⟨_,SqL.of f1⟩,Zp (K:=K) (λi v H=>FixR H (xw hs ((xf hs m.toNat).getD i [])) v) (λi v H H' g st=>?_) (SqL.of f1) ⋯ (λi x H2 R J s2 a5=>?_) λp3 fs H3 d4 s3 f3 l3 g3=>?_⟩
 .rcases g with g|⟨g1,q,g2,g3⟩
  .exact .inl g
  .exact .inr ⟨g1,q,g2,st _ _ (λxs z=>by cases z) g3⟩
 .obtain⟨a,rfl,hi,fa⟩:=co i x J;have c:=cm _ (Yc hi);exact⟨_,rfl,_,rfl,r,a,hs,_,rfl,hR.same (s1.trans s2),W,SqT.of (s2 _ _ fa),c.2.1,by rw[c.1];lia,λv H4 s4 g4=>a5 v H4 s4 g4⟩
 have cz:=s1.trans s3;have ce:∀i,i<(xf hs m.toNat).length->FixR H3 (xw hs ((xf hs m.toNat).getD i [])) (fs.getD i .non):=λi hi=>by have e:fs[i]?=some fs[i]:=aa ⋯;have:=g3 i _ e;rw[vc e];exact this
 have cc:∀i,i<(xf hs m.toNat).length->decide (fs.getD i .non=.non)=decide ((xw hs ((xf hs m.toNat).getD i [])).1=1):=λi hi=>by
  rcases ce i hi with⟨g1,g2⟩|⟨g1,q,g2,_⟩
  .rw[g2,aF g1];exact aF rfl
  .rw[g2,aT g1];exact aT (λz=>by cases z)
 refine exI rfl (exI rfl ⟨p1,p3,ab,fs,rfl,SqL.of (s3 _ _ f1),SqL.of f3,?_⟩);refine wx6 (K:=K) (xf hs m.toNat).length (λi=>(ab.getD i .non,fs.getD i .non)) (λi=>decide ((xw hs ((xf hs m.toNat).getD i [])).1=1)) (λi=>((xf hs m.toNat).getD i []).getD 0 0) 24 (λi hi=>?_) ⋯ (λi H' hi sH=>?_) (λH' sH=>?_) (λi H2 v H4 hi sH yl=>?_) (λi H' R hi sH ad=>?_) (λi H' R hi hc sH ad=>?_) λp5 ps H5 ns d3 s5 f5 I5 b5 cb=>?_
 .have:=qus W n1 hi;lia
 .exact⟨SqL.of (sH _ _ (s3 _ _ f1)),SqL.of (sH _ _ f3),⋯,⋯⟩
 .exact⟨SqL.of (sH _ _ (s3 _ _ f1)),SqL.of (sH _ _ f3),.inl ⋯⟩
 .obtain⟨q,x,y,nq,rfl,ex,ey,rfl⟩:=yl;refine⟨Same.upd nq,q,rfl,?_⟩;have e1:ab.getD i .non=x:=by rw[ae,ex];rfl
  have e2:fs.getD i .non=y:=by rw[ae,ey];rfl
  show SqT K _ q [ab.getD i .non,fs.getD i .non];rw[e1,e2];exact SqT.of qu
 .refine exI rfl ⟨rfl,_,rfl,?_⟩;have:=ad H' (Same.refl _);rw[<-cc i hi]at this;exact this
 .have ex:ab[i]?=some (ab.getD i .non):=by rw[ae,aa ⋯];rfl
  obtain⟨a,ea,_,fa⟩:=co i _ ex;have c:=cm _ (Yc hi);have z0:0<((xf hs m.toNat).getD i []).length:=by rw[c.1];lia
  have a0:∀r:List Int,0<r.length->atI (r.map V.int) 0=some (.int (r.getD 0 0)):=λr h=>by have:=v6 (xs:=r.map V.int) (j:=0) (v:=V.int (r.getD 0 0)) (by rw[ax,aa h,vc (aa h)];rfl);exact this
  refine exI rfl ⟨_,_,_,_,ea▸rfl,rfl,SqT.of (sH _ _ (s3 _ _ fa)),a0 _ z0,ad _ (Same.refl _)⟩
 have i5:∀v∈ns,0<=v/\v<24:=λv hv=>by obtain⟨i,hi,_,rfl⟩:=(cb v).mp hv;have:=qus W n1 hi;lia
 have ln:ns.length<=24:=by
  have:=qx3 (ns.map Int.toNat) (List.range 24) ?_ λv hv=>?_
  .rwa [af,ay]at this
  .refine cf.mpr (cB (λ{x y} J hy hxy z=>?_) b5);have a1:=i5 x J;have a2:=i5 y hy;exact hxy ⋯
  .obtain⟨x,J,rfl⟩:=az.mp hv;have a1:=i5 x J;exact al.mpr ⋯
 refine⟨p5,ps,ns,rfl,f5,I5,⋯,λp6 Z c5 bd cv=>?_⟩;have s6:Same H5 (upd H5 p6 (.lst (Z.map V.int))):=Same.upd c5;have f6:upd H5 p6 (.lst (Z.map V.int)) p6=some (.lst (Z.map V.int)):=qu;generalize upd H5 p6 (.lst (Z.map V.int))=H6 at s6 f6;have cq:∀v,v∈Z↔kh hs m.toNat v:=λv=>by
  rw[bd.mem_iff,cb v];constructor
  .rintro⟨i,hi,h1,h2⟩;exact⟨_,Yc hi,c0 h1,h2⟩
  .rintro⟨r,hr,h1,h2⟩;obtain⟨i,hi,rfl⟩:=Yp hr;exact⟨i,hi,aF h1,h2⟩
 have cp:=wy2 cv (bd.nodup_iff.mpr b5);have ct:Z.length<=24:=by rw[bd.length_eq];exact ln
 have cr:∀k∈Z,0<=k/\k<24:=λv hv=>i5 v (bd.mem_iff.mp hv);have a8:=s5.trans s6;refine exI rfl ⟨p3,rfl,⟨_,SqL.of (a8 _ _ f3)⟩,Z6 (K:=K) (λi=>!decide (fs.getD i .non=.non)) (SqL.of (a8 _ _ f3)) ⋯ (λi x H2 R J s2 a5=>?_) (λi x H2 R J _ s2 a5=>?_) λp7 H7 d2 s7 f7=>?_⟩
 .have e:fs.getD i .non=x:=by rw[ae,J];rfl
  refine exI rfl ⟨rfl,_,rfl,?_⟩;have:=a5 H2 (Same.refl _);rw[e]at this;exact this
 .exact exI rfl (a5 _ (Same.refl _))
 have b0:=cz.trans (a8.trans s7);refine exI rfl (exI rfl ⟨r,hs,m,rfl,hR.same b0,W,m1,m2,λp8 ah H8 d1 s8 f8 P8=>?_⟩);have l8:ah.length<=hs.length:=by rw[b9 P8];unfold qqg;rw[af];have:=cN (λc:Nat=>decide (itP hs ((0:Int)+c,1) m.toNat=((0:Int)+c,1))) (List.range hs.length);rw[ay]at this;lia
 have l7:(uf (λi=>!decide (fs.getD i .non=.non)) fs fs.length).length<=fs.length:=by unfold uf;rw[af];have:=cN (λi=>!decide (fs.getD i .non=.non)) (List.range fs.length);rwa [ay]at this
 refine⟨p7,p8,_,_,rfl,rfl,s8 _ _ f7,f8,⋯,λp9 c4=>?_⟩;have P7:Paired (PtR H8) (uf (λi=>!decide (fs.getD i .non=.non)) fs fs.length) (((List.range (xf hs m.toNat).length).filter λi=>!decide ((xw hs ((xf hs m.toNat).getD i [])).1=1)).map λi=>Wk (xw hs ((xf hs m.toNat).getD i []))):=by
  unfold uf;have e:(List.range fs.length).filter (λi=>!decide (fs.getD i .non=.non))=(List.range (xf hs m.toNat).length).filter (λi=>!decide ((xw hs ((xf hs m.toNat).getD i [])).1=1)):=by rw[show fs.length=(xf hs m.toNat).length by lia];refine List.filter_congr λi hi=>?_;rw[cc i (al.mp hi)]
  rw[e];refine uh λi hi=>?_;obtain⟨h1,h2⟩:=bo.mp hi;have h1:=al.mp h1;rcases ce i h1 with⟨g1,g2⟩|⟨g1,q,g2,g3⟩
  .rw[g1]at h2;cases h2
  .exact⟨q,g2,s8 _ _ (s7 _ _ (a8 _ _ g3))⟩
 have P9:Paired (PtR H8) (uf (λi=>!decide (fs.getD i .non=.non)) fs fs.length++ah) (qqs hs m.toNat):=Paired.app P7 P8;generalize uf (λi=>!decide (fs.getD i .non=.non)) fs fs.length=us7 at P9 l7;have s9:Same H8 (upd H8 p9 (.lst (us7++ah))):=Same.upd c4;have f9:upd H8 p9 (.lst (us7++ah)) p9=some (.lst (us7++ah)):=qu;have T9:=(wwx P9).same s9;have l9:=b9 P9;generalize upd H8 p9 (.lst (us7++ah))=H9 at s9 f9 T9;rw[au]at l9;have ci:H9 p6=some (.lst (Z.map V.int)):=s9 _ _ (s8 _ _ (s7 _ _ f6));refine exI rfl ⟨p9,rfl,⟨_,SqL.of f9⟩,?_⟩;refine wyy (K:=K) ((qqs hs m.toNat).map two) (λxs=>!v8 Z (xs.getD 0 0,xs.getD 1 0)) (SqL.of f9) T9 (by rw[af];lia) (λxs a H' R J fa sH ad=>?_) (λa H' R ad=>(exI rfl ad)) λc3 c2 a7 bx d5 b3 dl dn b6 a4 c9=>?_
 .obtain⟨q,hq,rfl⟩:=az.mp J;refine⟨_,rfl,_,rfl,a,p6,q,Z,rfl,SqT.of fa,SqL.of (sH _ _ ci),⋯,cr,λdq c1=>?_⟩;exact exI rfl (ad dq c1)
 rw[af]at c9;obtain⟨D,eq,hq⟩:=qvj (L:=bx) (ps:=qqs hs m.toNat) λx J=>((a4 x).mp J).1;refine⟨c3,c2,bx,2,rfl,dl,dn,b6,⋯,⋯,λr hr=>?_,λas U bs c6 a3 dy cy=>?_⟩
 .obtain⟨q,_,rfl⟩:=az.mp ((a4 r).mp hr).1;rfl
 obtain⟨D,eq,hq⟩:=qvj (L:=bs) (ps:=qqs hs m.toNat) λx J=>((a4 x).mp (a3.mem_iff.mp J)).1;have a9:Same a7 (upd a7 as (.lst U)):=Same.upd c6;have ck:upd a7 as (.lst U) as=some (.lst U):=qu;have bl:Paired (PtR (upd a7 as (.lst U))) U D:=xkr (cy.same a9) eq;generalize upd a7 as (.lst U)=H11 at a9 ck bl;have b4:=b0.trans (s8.trans (s9.trans (b3.trans a9)));have ec:=b9 bl;have lq:D.length=bx.length:=by rw[<-a3.length_eq,eq,af]
 have c7:D.Nodup:=by have:=a3.nodup_iff.mpr b6;rw[eq]at this;exact List.Pairwise.imp (λh z=>h (by rw[z])) (cf.mp this)
 have bk:∀q∈D,uk hs m.toNat q:=λq h=>(wwm W).mp (hq q h);have gd:∀i,i<D.length->D.getD i (0,1)∈D:=λi hi=>by rw[ae,aa hi];exact bD hi
 have nw:∀i j,i<j->j<U.length->(D.getD i (0,1)).1*(D.getD j (0,1)).2≠(D.getD j (0,1)).1*(D.getD i (0,1)).2:=λi j bq hj z=>by obtain⟨b1,g1,_⟩:=Zy W n1 n2 (bk _ (gd i ⋯));obtain⟨b2,g2,_⟩:=Zy W n1 n2 (bk _ (gd j ⋯));have t1:=(yq b1 b2).mp z;rw[jf b1 g1,jf b2 g2]at t1;refine(ba.mp c7) i j ⋯ ⋯ bq ?_;have e1:=vc (d:=((0:Int),(1:Int))) (aa (show i<D.length by lia));have e2:=vc (d:=((0:Int),(1:Int))) (aa (show j<D.length by lia));rw[<-e1,<-e2];exact t1
 refine⟨as,U,λi=>D.getD i (0,1),rfl,SqL.of ck,λi v e=>?_,Qf hT b4,λi hi=>?_,nw,⋯,λl il a6 bm dm nl ap cw dg=>?_⟩
 .obtain⟨q,e1,b,e2,e3⟩:=W7 bl e;show ∃a,v=.ref a/\H11 a=some (.tup [.int (D.getD i (0,1)).1,.int (D.getD i (0,1)).2]);rw[vc e1];exact⟨b,e2,e3⟩
 .exact qzv W n1 n2 (bk _ (gd i ⋯))
 have db:Kp H a6:=(Kp.of b4).trans bm;refine exI rfl (exI rfl ⟨sz2,λa na=>?_⟩);have an:Same a6 (upd a6 a (.tup [.ref l,.ref p6])):=Same.upd na;have cj:upd a6 a (.tup [.ref l,.ref p6]) a=some (.tup [.ref l,.ref p6]):=qu;generalize upd a6 a (.tup [.ref l,.ref p6])=H13 at an cj;have dp:Paired (PtR H13) (il.map λi=>U.getD i .non) (il.map λi=>D.getD i (0,1)):=uh λi hi=>by have hi:i<U.length:=al.mp (ap.mem_iff.mp hi);have e:U[i]?=some U[i]:=aa hi;obtain⟨q,e1,b,e2,e3⟩:=W7 bl e;rw[vc e,vc e1];exact⟨b,e2,an _ _ (bm.tup e3)⟩
 have mq:∀q,q∈(il.map λi=>D.getD i (0,1))↔q∈D:=λq=>by
  rw[az];constructor
  .rintro⟨i,hi,rfl⟩;have hi:i<U.length:=al.mp (ap.mem_iff.mp hi);exact gd i ⋯
  .intro h;obtain⟨i,hi,e⟩:=cE h;exact⟨i,ap.mem_iff.mpr (al.mpr ⋯),by rw[vc (aa hi)];exact e⟩
 have c8:il.length<=1025:=by rw[ap.length_eq,ay];lia
 refine k a l p6 _ _ Z H13 (db.trans (Kp.of an)) (Qf dm an) cj (an _ _ dg) dp (an _ _ (bm.lst (a9 _ _ (b3 _ _ ci)))) ⟨cp,cq,?_,λp=>?_,ct,by rw[af];exact c8⟩
 .refine cf.mpr (cw.imp_of_mem λ{i j} hi hj h=>?_);have hi:i<U.length:=al.mp (ap.mem_iff.mp hi);have hj:j<U.length:=al.mp (ap.mem_iff.mp hj);rcases h with h|⟨h,bq⟩
  .exact h
  .exact absurd h (nw i j bq hj)
 .rw[mq p];constructor
  .intro h;refine⟨bk p h,?_⟩;have:two p∈bs:=by rw[eq];exact az.mpr ⟨p,h,rfl⟩
   have:=((a4 _).mp (a3.mem_iff.mp this)).2;exact Bool.not_eq_true' _▸this
  .rintro⟨h1,h2⟩;have:two p∈bs:=a3.mem_iff.mpr ((a4 _).mpr ⟨az.mpr ⟨p,(wwm W).mpr h1,rfl⟩,by show(!v8 Z p)=true;rw[h2];rfl⟩);rw[eq]at this;obtain⟨q,hq,e⟩:=az.mp this;rw[<-xjz e];exact hq
theorem RoadAt.kp {r:Aj}{ns:List Int}(h:RoadAt C H r ns)(k:Kp H H'):RoadAt C H' r ns:=by obtain⟨dx,q,h1,h2⟩:=h;exact⟨dx,q,k _ _ (λps z=>by cases z) h1,k.lst h2⟩
theorem PtR.kp (h:PtR H v p)(k:Kp H H'):PtR H' v p:=by obtain⟨a,e,f⟩:=h;exact⟨a,e,k.tup f⟩
def vq (hs:List Int)(p:Int×Int)(l:Nat):Prop:=Dist (itP hs p) l/\itP hs p l=p
def CandP (hs:List Int)(m:Nat)(p:Int×Int):Prop:=((uk hs m p/\¬ ∃k,kh hs m k/\k*p.2<=p.1/\p.1<=(k+1)*p.2)\/∃k,kh hs m k/\p=(3*k+1,3))/\vq hs p m
theorem wxp (k:Int):gOf (3*k+1) 3=1:=by
 have h1:=yb (t:=3*k+1) (b:=3) ⋯;have h2:gOf (3*k+1) 3*(wv (3*k+1) 3).2=3:=qqm ⋯;have D:gOf (3*k+1) 3*(wv (3*k+1) 3).1=3*k+1:=qjj;have F:gOf (3*k+1) 3<=3:=by
  rcases bh 3 (gOf (3*k+1) 3) with z|z
  .have p:0<(wv (3*k+1) 3).2:=by
    rcases bh 0 (wv (3*k+1) 3).2 with y|y
    .exact y
    .have:=cR (show 0<=gOf (3*k+1) 3 by lia) y;lia
   have:=aR (show(1:Int)<=(wv (3*k+1) 3).2 by lia) (show 0<=gOf (3*k+1) 3 by lia);lia
  .exact z
 rcases(by lia:gOf (3*k+1) 3=1\/gOf (3*k+1) 3=2\/gOf (3*k+1) 3=3) with e|e|e
 .exact e
 .rw[e]at h2;lia
 .rw[e]at D;lia
theorem qzp (ok:qt hs){m:Nat}(m1:1<=m){k:Int}(h:kh hs m k):0<=k/\k<(hs.length:Int)-1:=by obtain⟨r,hr,_,rfl⟩:=h;obtain⟨j,hj,rfl⟩:=Yp hr;exact qus ok m1 hj
theorem Yf (ok:qt hs){m:Nat}(m1:1<=m)(m2:m<=12){p:Int×Int}(h:uk hs m p\/∃k,kh hs m k/\p=(3*k+1,3)):OkP p/\Pt hs p.2 p/\itP hs p m=p:=by
 have D:∀p:Int×Int,OkP p->gOf p.1 p.2=1->x6 hs p.1 p.2->trT hs p.1 p.2 m=p.1->OkP p/\Pt hs p.2 p/\itP hs p m=p:=λp o g z e=>by have h:Pt hs p.2 p:=⟨o.1,bV _,g,z⟩;exact⟨o,h,(Zg h m 0).mpr e⟩
 rcases h with h|⟨k,hk,rfl⟩
 .obtain⟨b,g,z⟩:=Zy ok m1 m2 h;exact D p (qzv ok m1 m2 h) g z ((Qx ok m1 m2 b g z).mpr (.inl h))
 .obtain⟨L,J⟩:=qzp ok m1 hk;have F:=ok.2.1;have z:x6 hs (3*k+1) 3:=⟨⋯,⋯⟩;exact D _ ⟨show(1:Int)<=3 by decide,Sm.small (by show -(2 ^ 64)<=3*k+1;lia) (by show 3*k+1<=2 ^ 64;lia) ⋯,Sm.small (show -(2 ^ 64)<=(3:Int) by decide) (show(3:Int)<=2 ^ 64 by decide) ⋯⟩ (wxp k) z
   ((Qx ok m1 m2 (p:=(3*k+1,3)) (show(1:Int)<=3 by decide) (wxp k) z).mpr (.inr ⟨k,hk,show k*3<=3*k+1 by lia,show 3*k+1<=(k+1)*3 by lia⟩))
theorem wys {u:Nat}(m1:1<=m)(d:Dist (itP hs p) n)(hu:u<n)(e:itP hs p n=itP hs p u):(if u=0 then V.int (n:Nat) else V.non)=V.int (m:Nat)↔vq hs p m:=by
 constructor
 .intro h;by_cases z:u=0
  .rw[aw z]at h;have:n=m:=by have:=V.int.inj h;lia
   subst this;exact⟨d,by rw[e,z];rfl⟩
  .rw[ar z]at h;cases h
 .rintro⟨L,J⟩;have D:itP hs p m=itP hs p 0:=J;have nm:n=m:=by
   rcases iJ n m with z|z|z
   .exact absurd e.symm (L u n hu z)
   .exact z
   .exact absurd D.symm (d 0 m ⋯ z)
  subst nm;have F:u=0:=by
   rcases fS u with z|z
   .exact z
   .exact absurd (D.symm.trans e) (d 0 u z hu)
  rw[aw F]
def zf (pts:List (Int×Int))(ws:List Int):List (Int×Int):=pts++ws.map λk=>(3*k+1,(3:Int))
theorem wxk {pts:List (Int×Int)}{ws:List Int}(B:BackOf hs m pts ws){p:Int×Int}:p∈zf pts ws↔((uk hs m p/\¬ ∃k,kh hs m k/\k*p.2<=p.1/\p.1<=(k+1)*p.2)\/∃k,kh hs m k/\p=(3*k+1,3)):=by
 unfold zf;rw[aW,B.pmem];have l:v8 ws p=false↔¬ ∃k,kh hs m k/\k*p.2<=p.1/\p.1<=(k+1)*p.2:=by
  cases hz:v8 ws p with
  |true =>
   obtain⟨k,D,e⟩:=cC.mp hz;exact⟨λz=>absurd z Bool.noConfusion,λz=>absurd ⟨k,(B.wmem k).mp D,c0 e⟩ z⟩
  |false =>
   refine⟨λ_ ⟨k,D,e⟩=>?_,λ_=>rfl⟩;have:v8 ws p=true:=cC.mpr ⟨k,(B.wmem k).mpr D,aF e⟩;rw[this]at hz;cases hz
 rw[l,az];exact⟨λh=>h.imp id λ⟨k,D,e⟩=>⟨k,(B.wmem k).mp D,e.symm⟩,λh=>h.imp id λ⟨k,D,e⟩=>⟨k,(B.wmem k).mpr D,e.symm⟩⟩
theorem wvz (ok:qt hs){m:Nat}(m1:1<=m)(m2:m<=12){pts:List (Int×Int)}{ws:List Int}(B:BackOf hs m pts ws):(zf pts ws).Pairwise λp q=>p.1*q.2≠q.1*p.2:=by
 unfold zf;refine eZ.mpr ⟨B.pup.imp λh=>Int.ne_of_lt h,cf.mpr (B.wup.imp λ{a b} h z=>?_),λp F q J z=>?_⟩
 .have z:(3*a+1)*3=(3*b+1)*3:=z;lia
 .obtain⟨k,L,rfl⟩:=az.mp J;have z:p.1*3=(3*k+1)*p.2:=z;have Z:=(Zy ok m1 m2 ((B.pmem p).mp F).1).1;have D:=((B.pmem p).mp F).2;have W:(3*k+1)*p.2=3*(k*p.2)+p.2:=by rw[be,aS,gK]
  have U:(k+1)*p.2=k*p.2+p.2:=by rw[be,aS]
  rw[W]at z;have:v8 ws p=true:=cC.mpr ⟨k,L,aF ⟨⋯,by rw[U];lia⟩⟩;rw[this]at D;cases D
theorem qj7 [DecidableEq α]:∀(l m:List α),l.Nodup->(∀x∈l,x∈m)->l.length<=m.length
 |[],_,_,_=>aQ _
 |a::l,m,nd,h=>by obtain⟨h1,h2⟩:=dc.mp nd;have:=qj7 l (m.erase a) h2 λx hx=>(List.mem_erase_of_ne λz=>h1 (by rw[<-z];exact hx)).mpr (h x (bG _ hx));rw[List.length_erase_of_mem (h a (.head _))]at this;have:=gu (h a (.head _));rw[aJ];lia
theorem wxr (p:α->Bool):∀l:List α,(l.filter λx=>!p x).length+(l.filter p).length=l.length
 |[]=>rfl
 |a::l=>by have:=wxr p l;rw[dM,dM];cases p a <;> simp <;> lia
theorem xwm (ok:qt hs){m:Nat}{pts:List (Int×Int)}{ws:List Int}(B:BackOf hs m pts ws):pts.length+ws.length<=(xf hs m).length+hs.length:=by
 have o1:=ok.1;have np:pts.Nodup:=B.pup.imp λ{a b} h z=>by subst z;lia
 have J:ws.Nodup:=B.wup.imp λ{a b} h z=>by subst z;lia
 have F:=qj7 pts (qqs hs m) np λp Z=>by
  rcases((B.pmem p).mp Z).1 with⟨r,D,ns,rfl⟩|h
  .obtain⟨i,hi,rfl⟩:=Yp D;exact cn _ (az.mpr ⟨i,bo.mpr ⟨al.mpr hi,by rw[aT ns];rfl⟩,rfl⟩)
  .exact aH _ ((wwk ok).mpr h)
 have U:=qj7 ws (((List.range (xf hs m).length).filter λi=>decide ((xw hs ((xf hs m).getD i [])).1=1)).map λi=>((xf hs m).getD i []).getD 0 0) J λv W=>by obtain⟨r,D,ns,rfl⟩:=(B.wmem v).mp W;obtain⟨i,hi,rfl⟩:=Yp D;exact az.mpr ⟨i,bo.mpr ⟨al.mpr hi,aF ns⟩,rfl⟩
 have L:=wxr (λi=>decide ((xw hs ((xf hs m).getD i [])).1=1)) (List.range (xf hs m).length);have l4:(qqg hs m).length<=hs.length:=by unfold qqg;rw[af];refine bI (cN _ _) ?_;rw[ay];lia
 unfold qqs at F;rw[au,af]at F;rw[af]at U;rw[ay]at L;lia
theorem qzr {R:α->β->Prop}:∀ {l:List α} {m:List β},l.length=m.length->(∀(i:Nat) x y,l[i]?=some x->m[i]?=some y->R x y)->Paired R l m
 |[],[],_,_=>.nil
 |[],_::_,h,_=>by cases h
 |_::_,[],h,_=>by cases h
 |x::l,y::m,h,g=>.cons (g 0 x y rfl rfl) (qzr (Nat.succ.inj h) λi u v e1 e2=>g (i+1) u v e1 e2)
theorem xzg {il:List Nat}(pm:il.Perm (List.range n)){pt:Nat->Int×Int}{G:Int×Int->Prop}{c:Nat->Bool}(hc:∀j,j<il.length->(c j=true↔G (pt (il.getD j 0))))(p:Int×Int):p∈((List.range il.length).filter c).map (λj=>pt (il.getD j 0))↔∃i,i<n/\G (pt i)/\pt i=p:=by
 rw[az];constructor
 .rintro⟨j,z,e⟩;obtain⟨h1,h2⟩:=bo.mp z;have h1:=al.mp h1;have D:il[j]?=some (il.getD j 0):=by rw[ae,aa h1];rfl
  exact⟨il.getD j 0,al.mp (pm.mem_iff.mp (aE D)),(hc j h1).mp h2,e⟩
 .rintro⟨i,hi,g,e⟩;obtain⟨j,z,F⟩:=cE (pm.mem_iff.mpr (al.mpr hi));have D:il.getD j 0=i:=by rw[ae,aa z,F];rfl
  exact⟨j,bo.mpr ⟨al.mpr z,(hc j z).mpr (by rw[D];exact g)⟩,by rw[D];exact e⟩
theorem xkv {il:List Nat}{pt:Nat->Int×Int}{c:Nat->Bool}(up:il.Pairwise (Wor pt))(ne:∀i j,i∈il->j∈il->i≠j->(pt i).1*(pt j).2≠(pt j).1*(pt i).2)(nd:il.Nodup):(((List.range il.length).filter c).map λj=>pt (il.getD j 0)).Pairwise λp q=>p.1*q.2<q.1*p.2:=by
 refine cf.mpr (cB (R:=(·<·)) (λ{a b} D z h=>?_) ((List.pairwise_lt_range (n:=il.length)).sublist List.filter_sublist));have D:=al.mp (bo.mp D).1;have z:=al.mp (bo.mp z).1;have J:il.getD a 0=il[a]:=by rw[ae,aa D];rfl
 have F:il.getD b 0=il[b]:=by rw[ae,aa z];rfl
 rw[J,F];have w:=ba.mp up a b D z h;have d:=ba.mp nd a b D z h;rcases w with w|w
 .exact w
 .exact absurd w.1 (ne _ _ (bD D) (bD z) d)
def wzz (C TT:Aj):Sp:=λvs H Q _=>∃(r:Aj) (hs:List Int) (m:Int),vs=[.ref r,.int m]/\RoadAt C H r hs/\qt hs/\1<=m/\m<=12/\crS hs m.toNat<=1000/\(xf hs m.toNat).length+hs.length<=63/\j9 TT ym qwv H /\
 ∀(q:Aj) (ys:List V) (ps:List (Int×Int)) (H':Hp),Kp H H'->j9 TT ym qwv H'->H' q=some (.lst ys)->Paired (PtR H') ys ps->(∀p,p∈ps↔CandP hs m.toNat p)->ps.Pairwise (λp q=>p.1*q.2<q.1*p.2)->ps.length<=1049->Q (.ref q) H'
include T in
theorem xjt {f:Aj}{fd:Ad}{TT:Aj}(F:Fun K "candidates" "candidates" zbl f fd)(zfo:Cal P w K mg base "back" 8 (wv5 qy TT))(zcb:Cal P w K mg base "ordered" 6 (wj7 K TT qx))(zfp:Cal P w K mg base "least" 6 (qyg K qy)) :
  FK P w K mg base 9 f fd ["road","length"] (wzz qy TT):=by
 have sc:=qvu;refine F.okX sc (λvs H Q E h=>by obtain⟨_,_,_,rfl,_⟩:=h;rfl) λ_ _ _ _ H vs Q E hr h=>?_;obtain⟨r,hs,m,rfl,hR,Z,m1,m2,a4,a2,hT,k⟩:=h;have o1:=Z.1;have o2:=Z.2.1;have a8:(1000000:Nat)<sizeLine:=by decide
 have n1:1<=m.toNat:=by lia
 have n2:m.toNat<=12:=by lia
 refine⟨_,(qj (yn (wu zfo (hr.mono ⋯) rfl q8 (qw (pv 0) (qw (pv 1) qk))) (yz rfl (xt (xz (i:=2)) (xt (xz (i:=3)) jw))))
   (qj (y8 (i:=4) (M:=[]) sc.nd rfl (by walk_at "loc") rfl rfl (by walk_at "cap") (by walk_at "has") (by walk_at "cix") rfl (by decide +kernel) rfl (show List.Nodup (["stretch"]:List Str) by decide +kernel) (zc (pv 3)) (λ_ _ _ _ _=>(vy (qw (q9 xj (q9 xq qv (pv 0)) qv) (qw qv qk)))))
   (qr (xx (Ys (M:=[0,1]) rfl rfl (by walk_at "cap") (by walk_at "has") (by walk_at "cix") rfl (by decide +kernel) rfl (show List.Nodup (["point","road","length"]:List Str) by decide +kernel) (zc (wu zcb (hr.mono ⋯) rfl q8 (qw (q9 Z7 (pv 2) (pv 4)) qk))) (λ_ _ _ _ _=>(w8 j8 (wu zfp (hr.mono ⋯) rfl Wc (qw (pv 1) (qw (pv 0) qk))) (pv 2) (xv _))) (λ_ _ _ _ _=>(pv 0))))))),?_⟩
 refine exI rfl (exI rfl ⟨r,hs,m,rfl,hR,Z,m1,m2,a4,a2,hT,λb1 lp lw ys L J H1 k1 T1 fb fl P1 fw B=>?_⟩);refine⟨b1,exI rfl ⟨SqT.of fb,rfl,_,_,rfl,_,_,rfl,rfl,?_⟩⟩;have pf:=B.pfew;have wf:=B.wfew;have ly:=b9 P1;refine exI rfl ⟨lw,rfl,⟨_,SqL.of fw⟩,Zp (K:=K) (λi v H=>PtR H v (3*J.getD i 0+1,3)) (λi v H H' g st=>qxk g st) (SqL.of fw) (by rw[af];lia) (λi x H2 R hx s2 a0=>?_) λp3 U H3 a6 s3 f3 l3 g3=>?_⟩
 .rw[ax]at hx;obtain⟨z,ez,rfl⟩:=cL.mp hx;have wz:=qzp Z n1 ((B.wmem z).mp (aE ez));rw[vc ez]at a0;exact exI rfl (wy rfl rfl ⟨IntMulOk.of_left (intBits_le_64 ⋯ ⋯),wy rfl rfl ⟨sz2,λp np=>a0 _ _ (Same.upd np) ⟨p,rfl,qu⟩⟩⟩)
 rw[af]at l3;have P3:Paired (PtR H3) (ys++U) (zf L J):=by refine Paired.app (L2.Paired.mono (λ_ _ x=>PtR.same x s3) P1) (qzr (by rw[af];exact l3) λi x y ex ey=>?_);rw[ax]at ey;obtain⟨z,ez,rfl⟩:=cL.mp ey;have:=g3 i x ex;rwa [vc ez]at this
 have lc:(ys++U).length=(zf L J).length:=b9 P3;have ln:(zf L J).length<=63:=by have:=xwm Z B;unfold zf;rw[au,af];lia
 have a7:(ys++U).length=ys.length+U.length:=au;refine⟨_,rfl,_,rfl,lp,p3,ys,U,rfl,rfl,s3 _ _ fl,f3,⋯,λp4 a3=>?_⟩;have s4:Same H3 (upd H3 p4 (.lst (ys++U))):=Same.upd a3;have f4:upd H3 p4 (.lst (ys++U)) p4=some (.lst (ys++U)):=qu;have T4:j9 TT ym qwv (upd H3 p4 (.lst (ys++U))):=Qf T1 (s3.trans s4);generalize upd H3 p4 (.lst (ys++U))=H4 at s4 f4 T4;have P4:=L2.Paired.mono (λ_ _ x=>PtR.same x s4) P3;have gd:∀i,i<(zf L J).length->(zf L J)[i]?=some ((zf L J).getD i (0,1)):=λi hi=>by rw[ae,aa hi];rfl
 have cm:∀i,i<(zf L J).length->OkP ((zf L J).getD i (0,1))/\Pt hs ((zf L J).getD i (0,1)).2 ((zf L J).getD i (0,1))/\itP hs ((zf L J).getD i (0,1)) m.toNat=(zf L J).getD i (0,1):=λi hi =>
  Yf Z n1 n2 (((wxk B).mp (aE (gd i hi))).imp (λz=>z.1) id)
 have ap:∀i j,i<j->j<(zf L J).length->((zf L J).getD i (0,1)).1*((zf L J).getD j (0,1)).2≠((zf L J).getD j (0,1)).1*((zf L J).getD i (0,1)).2:=λi j h1 h2=>by have:=ba.mp (wvz Z n1 n2 B) i j ⋯ h2 h1;rw[vc (aa (show i<(zf L J).length by lia)),vc (aa h2)];exact this
 have ah:=λp=>wxk B (p:=p);have pl:PL H4 (ys++U) λi=>(zf L J).getD i (0,1):=λi v hv=>by obtain⟨q,eq,a,ea,fa⟩:=W7 P4 hv;dsimp only;rw[vc eq];exact⟨a,ea,fa⟩
 generalize zf L J=cl at P4 lc ln gd cm ap ah pl;refine⟨p4,ys++U,λi=>cl.getD i (0,1),rfl,SqL.of f4,pl,T4,λi hi=>(cm i ⋯).1,λi j h1 h2=>ap i j h1 ⋯,⋯,λl D H5 k5 T5 nl pm up f5=>?_⟩;have li:D.length=(ys++U).length:=by rw[pm.length_eq,ay]
 have P5:Paired (PtR H5) (ys++U) cl:=L2.Paired.mono (λ_ _ x=>PtR.kp x k5) P4;have R5:RoadAt qy H5 r hs:=(((hR.kp k1).same s3).same s4).kp k5;have a1:∀j,j<D.length->∃a,(ys++U).getD (D.getD j 0) .non=.ref a/\D.getD j 0<cl.length/\H5 a=some (.tup [.int (cl.getD (D.getD j 0) (0,1)).1,.int (cl.getD (D.getD j 0) (0,1)).2]):=λj W=>by
  have e1:D[j]?=some (D.getD j 0):=by rw[ae,aa W];rfl
  have hi:=al.mp (pm.mem_iff.mp (aE e1));generalize D.getD j 0=i at hi;obtain⟨a,ea,fa⟩:=Zq P5 (gd i ⋯);obtain⟨b,rfl,fb⟩:=fa;exact⟨b,by rw[ae,ea];rfl,⋯,fb⟩
 have l5:(D.map λi=>(ys++U).getD i .non).length=D.length:=af ..;refine⟨l,rfl,⟨_,SqL.of f5⟩,Z6 (K:=K) (λj=>@decide (vq hs (cl.getD (D.getD j 0) (0,1)) m.toNat) (Classical.propDecidable _)) (SqL.of f5) ⋯ (λj x H6 R hx s6 ad=>?_) (λj x H6 R hx _ s6 ad=>(exI rfl (ad _ (Same.refl _)))) λp7 H7 a5 s7 f7=>?_⟩
 .have W:j<D.length:=by rw[<-l5];exact(am.mp hx).1
  obtain⟨a,ea,hi,fa⟩:=a1 j W;have ex:x=.ref a:=by rw[ax,aa W]at hx;have:=aq hx;rw[<-this,<-ea,ae (l:=D),aa W];rfl
  subst ex;obtain⟨an,ab,as⟩:=cm _ hi;generalize cl.getD (D.getD j 0) (0,1)=pt at fa an ab as ad;have lw:wv pt.1 pt.2=pt:=jf ab.1 ab.2.2.1;refine exI rfl (exI rfl ⟨r,a,hs,pt.1,pt.2,rfl,R5.same s6,Z,SqT.of (s6 _ _ fa),⟨ab.1,an.2.2.mono ⋯,ab.2.2.2,λd=>?_⟩,λn u H8 s8 hn d hu e=>?_⟩)
  .rw[lw]at d;exact d 0 m.toNat ⋯ ⋯ as.symm
  .rw[lw]at d e;have li:=wys n1 d hu e;refine exI rfl ⟨?_,_,rfl,?_⟩
   .by_cases z:u=0
    .rw[aw z];rfl
    .rw[ar z];rfl
   .have:=ad H8 s8;have e3:@decide (vq hs pt m.toNat) (Classical.propDecidable _)=decide ((if u=0 then V.int (n:Nat) else V.non)=V.int m):=by rw[cA,@iA _ (Classical.propDecidable _),eR,<-li,bR ⋯]
    rw[e3]at this;exact this
 .have hc:∀j,j<D.length->(@decide (vq hs (cl.getD (D.getD j 0) (0,1)) m.toNat) (Classical.propDecidable _)=true↔vq hs (cl.getD (D.getD j 0) (0,1)) m.toNat):=λj _=>@iA _ (Classical.propDecidable _);refine k p7 _ (((List.range D.length).filter λj=>@decide (vq hs (cl.getD (D.getD j 0) (0,1)) m.toNat) (Classical.propDecidable _)).map λj=>cl.getD (D.getD j 0) (0,1)) H7 ?_ (Qf T5 s7) f7 ?_ (λp=>?_) (xkv up (λi j hi W ne=>?_) (pm.nodup_iff.mpr gG)) ?_
  .exact((k1.trans (Kp.of s3)).trans (Kp.of s4)).trans (k5.trans (Kp.of s7))
  .unfold uf;rw[l5];refine uh λj W=>?_;have W:=al.mp (bo.mp W).1;obtain⟨a,ea,hi,fa⟩:=a1 j W;refine⟨a,?_,s7 _ _ fa⟩;rw[ae,ax,aa W,<-ea,ae (l:=D),aa W];rfl
  .rw[xzg (n:=(ys++U).length) pm (pt:=λi=>cl.getD i (0,1)) (G:=λp=>vq hs p m.toNat) hc p];constructor
   .rintro⟨i,hi,g,e⟩;have e:cl.getD i (0,1)=p:=e;have g:vq hs (cl.getD i (0,1)) m.toNat:=g;rw[e]at g;exact⟨(ah p).mp (by rw[<-e];exact aE (gd i ⋯)),g⟩
   .rintro⟨h1,g⟩;obtain⟨i,hi,e⟩:=cE ((ah p).mpr h1);have e:cl.getD i (0,1)=p:=by rw[ae,aa hi,e];rfl
    exact⟨i,⋯,by show vq hs (cl.getD i (0,1)) m.toNat;rw[e];exact g,e⟩
  .have hi:=al.mp (pm.mem_iff.mp hi);have W:=al.mp (pm.mem_iff.mp W);rcases Nat.lt_or_gt_of_ne ne with z|z
   .exact ap i j z ⋯
   .exact(ap j i z ⋯).symm
  .rw[af];have:=cN (λj=>@decide (vq hs (cl.getD (D.getD j 0) (0,1)) m.toNat) (Classical.propDecidable _)) (List.range D.length);rw[ay]at this;lia
def quy (hs:List Int)(m:Nat):Prop:=∃p,CandP hs m p
noncomputable def qvh (hs:List Int) (m:Nat):Bool:=@decide (quy hs m) (Classical.propDecidable _)
theorem hasB_iff:qvh hs m=true↔quy hs m:=@iA _ (Classical.propDecidable _)
noncomputable def vx (hs:List Int) (n:Nat):List Int:=((List.range n).filter λi=>qvh hs (1+i)).map λi:Nat=>(1:Int)+i
theorem Qz (hs:List Int)(n:Nat):vx hs (n+1)=vx hs n++if qvh hs (1+n)=true then [(1:Int)+n] else []:=by unfold vx;rw[bz,fV,aK];cases h:qvh hs (1+n) <;> simp[h]
theorem qxp (hs:List Int)(n:Nat):(vx hs n).length<=n:=by unfold vx;rw[af];have:=cN (λi=>qvh hs (1+i)) (List.range n);rwa [ay]at this
theorem xzh {v:Int}:v∈vx hs n↔(1<=v/\v<=n/\quy hs v.toNat):=by
 unfold vx;rw[az];constructor
 .rintro⟨i,hi,rfl⟩;obtain⟨h1,h2⟩:=bo.mp hi;have h1:=al.mp h1;refine⟨⋯,⋯,?_⟩;rw[show((1:Int)+i).toNat=1+i by lia];exact hasB_iff.mp h2
 .rintro⟨h1,h2,z⟩;refine⟨v.toNat-1,bo.mpr ⟨al.mpr ⋯,hasB_iff.mpr ?_⟩,⋯⟩;rw[show 1+(v.toNat-1)=v.toNat by lia];exact z
def wv3 (C TT:Aj):Sp:=λvs H Q _=>∃(r:Aj) (hs:List Int) (m:Int),vs=[.ref r,.int m]/\RoadAt C H r hs/\qt hs/\1<=m/\m<=12/\(∀l:Nat,1<=l->l<=m.toNat->crS hs l<=1000/\(xf hs l).length+hs.length<=63)/\j9 TT ym qwv H /\
 ∀(q:Aj) (H':Hp),Kp H H'->j9 TT ym qwv H'->H' q=some (.lst ((vx hs m.toNat).map V.int))->H q=none->Q (.ref q) H'
include T in
theorem xjp {f:Aj}{fd:Ad}{TT:Aj}(F:Fun K "lengths" "lengths" zbm f fd)(zas:CalD P w K mg base "check_count" 1 (Yn qf))(zfq:Cal P w K mg base "candidates" 9 (wzz qy TT)) :
  FK P w K mg base 10 f fd ["road","most"] (wv3 qy TT):=by
 have sc:=wzv;refine F.okX sc (λvs H Q E h=>by obtain⟨_,_,_,rfl,_⟩:=h;rfl) λ_ _ _ _ H vs Q E hr h=>?_;obtain⟨r,hs,m,rfl,hR,ok,m1,m2,ab,hT,k⟩:=h;obtain⟨tl,ad⟩:=T.zab;have ah:(1000000:Nat)<sizeLine:=by decide
 refine⟨_,(qj (vg (wu zas.all (hr.mono ⋯) rfl q8 (qw (pv 1) (qw qv (qw (Zx (v:=V.int 12) rfl ad ⟨_,rfl⟩) qk)))))
   (qr (xx (Ys (M:=[0]) rfl rfl (by walk_at "cap") (by walk_at "has") (by walk_at "cix") rfl (by decide +kernel) rfl (show List.Nodup (["length","road"]:List Str) by decide +kernel) (Jp rfl T.range_ (qw qv (qw (q9 xj (pv 1) qv) qk))) (λ_ _ _ _ _=>(w8 Q9 (w5 (Zh (K:=K) rfl) rfl T.len_ bH (qw (wu zfq (hr.mono ⋯) rfl Wc (qw (pv 1) (qw (pv 0) qk))) qk)) qv (xv _))) (λ_ _ _ _ _=>(pv 0)))))),?_⟩
 refine⟨_,rfl,m,1,.int 12,some 12,rfl,.inr ⟨12,rfl,rfl⟩,λ_=>?_,λhw=>absurd ⟨m1,λz e=>by cases e;exact m2⟩ hw⟩;refine exI rfl (wy rfl rfl ⟨_,_,rfl,⟨⋯,⋯,⋯,⋯⟩,?_⟩);rw[show(m+1-1).toNat=m.toNat by lia];intro p np;refine⟨λi U vs H2=>U=m.toNat-i/\i<=m.toNat/\vs=(vx hs i).map V.int/\Kp H H2/\j9 TT ym qwv H2/\H2 p=some (.lst vs),⟨m.toNat,⋯,aQ _,rfl,(Kp.of (Same.refl H)).upd np,Qf hT (Same.upd np),qu⟩,?_⟩;rintro i U vs H2 ⟨rfl,hi,rfl,k2,T2,f2⟩;have ll:=qxp hs i;refine⟨f2,by rw[af];lia,?_⟩;rcases bF i m.toNat with z|z
 .refine .inr ⟨z,?_⟩;rintro v H3 ⟨rfl,rfl⟩;have e1:((1:Int)+i).toNat=1+i:=by lia
  refine⟨_,rfl,_,rfl,r,hs,(1:Int)+i,rfl,hR.kp k2,ok,⋯,⋯,(ab _ ⋯ ⋯).1,(ab _ ⋯ ⋯).2,T2,λq ys ps H4 W T4 f4 P4 L _ _=>?_⟩;rw[e1]at L;have lp:=b9 P4;have ht:qvh hs (1+i)=decide ((ys.length:Int)>0):=by
   rw[cA,hasB_iff,eR];constructor
   .rintro⟨c,hc⟩;have:=gu ((L c).mpr hc);lia
   .intro h;have:0<ps.length:=by lia
    exact⟨ps[0],(L _).mp (bD this)⟩
  refine⟨_,_,rfl,.inl (SqL.of f4),wy rfl rfl (exI rfl ?_)⟩;have J:=W.lst f2;have Z:=k2.trans W;have D:=Qz hs i;show if decide ((0:Int)<ys.length)=true then _ else _
  rw[show decide ((0:Int)<ys.length)=qvh hs (1+i) from ht.symm];cases hb:qvh hs (1+i) with
  |true =>
   rw[hb,aw rfl]at D;refine y9 ⟨_,rfl,J,m.toNat-(i+1),⋯,rfl,z,?_,Z.upd np,tab_wr T4 J,qu⟩;rw[D,aK];rfl
  |false =>
   rw[hb,ar aI,bE]at D;refine uc ⟨J,m.toNat-(i+1),⋯,rfl,z,?_,Z,T4,J⟩;rw[D]
 .obtain rfl:i=m.toNat:=by lia
  exact .inl ⟨ak _,k p H2 k2 T2 f2 np⟩
def wjv:Sp:=λvs H Q _=>∃t b:Int,vs=[.int t,.int b]/\1<=b/\Sm 9000 b/\∀p,H p=none->Q (.ref p) (upd H p (.tup (ptV (wv t b))))
include T in
theorem zfr (F:Fun K "_law_low" "_law_low" zbu f fd)(zfs:Cal P w K mg base "_law_common" 1 qjv):FK P w K mg base 2 f fd ["_law_top","_law_bottom"] wjv:=by
 have D:=wxv;refine F.okX D (λvs H Q E h=>by obtain⟨_,_,rfl,_⟩:=h;rfl) λ_ _ _ _ H vs Q E L h=>?_;obtain⟨t,b,rfl,z,J,k⟩:=h;have U:=yb (t:=t) z;have hs:Sm 9000 (gOf t b):=J.of_le (by have:=xx9 (t:=t) z;lia);refine⟨_,(qj (wg (i:=2) (wu zfs (L.mono ⋯) rfl q8 (qw (w5 W9 rfl T.abs_ Wr (qw (pv 0) qk)) (qw (pv 1) qk))))
   (qr (xx (vy (qw (q9 jc (pv 0) (pv 2)) (qw (q9 jc (pv 1) (pv 2)) qk)))))),?_⟩
 refine exI rfl (exI rfl (exI rfl ⟨Wz t,b,rfl,wks t,⋯,?_⟩));refine exI rfl ⟨V.int (gOf t b),rfl,wy rfl rfl ⟨⟨⋯,hs⟩,exI rfl ⟨V.int (gOf t b),rfl,wy rfl rfl ⟨⟨⋯,hs⟩,sz2,λp n=>?_⟩⟩⟩⟩;exact k p n
def Q7 (hs:List Int)(x y:Int)(u:Bool):Prop:=(0<=x/\x<(hs.length:Int)-1)/\hAt hs x=y+(if u=true then 1 else 0)/\hAt hs (x+1)=y+(if u=true then 0 else 1)
def jp (d:Nat->Bool):Nat->Bool
 |0=>false
 |i+1=>Bool.xor (jp d i) (d i)
def inS (s:Bool)(b x:Int):Int:=if s=true then b-x else x
theorem inS_in {s:Bool}(x0:0<=x)(x1:x<=b):0<=inS s b x/\inS s b x<=b:=by unfold inS;split <;> lia
theorem qjd {z:Int}{s u:Bool}(h:Q7 hs x y u):hAt hs x*b+(hAt hs (x+1)-hAt hs x)*inS s b z=y*b+inS (Bool.xor s u) b z:=by
 obtain⟨_,h1,h2⟩:=h;cases u with
 |false =>
  simp only[aD,bA]at h1 h2;rw[h1,h2,show y+1-(y+0)=1 by lia,aS,dI,Bool.xor_false]
 |true =>
  simp only[cV]at h1 h2;rw[h1,h2,show y+0-(y+1)=-1 by lia,jO,aS,be,aS];cases s <;> simp only[inS,Bool.xor_true,fG,ir,aD,cV,bA] <;> lia
theorem qw4 {c:Nat->Int}{d:Nat->Bool}(h:∀i,i<n->Q7 hs (c i) (c (i+1)) (d i)){b x:Int}(hb:1<=b)(x0:0<=x)(x1:x<=b):∀i,i<=n->trT hs (c 0*b+x) b i=c i*b+inS (jp d i) b x
 |0,_=>rfl
 |i+1,hi=>by have ih:=qw4 h hb x0 x1 i ⋯;have u:=h i ⋯;have hi2:=inS_in (s:=jp d i) x0 x1;show x9 hs (trT hs (c 0*b+x) b i) b=_;rw[ih,vh u.1.1 u.1.2 hb ⋯ (by rw[be,aS];lia),show c i*b+inS (jp d i) b x-c i*b=inS (jp d i) b x by lia,qjd u];rfl
theorem wqy {c:Nat->Int}{d:Nat->Bool}(h:∀i,i<xs.length->Q7 hs (c i) (c (i+1)) (d i))(e:∀i,i<xs.length->wb xs i=c i){b x:Int}:∀i,i<=xs.length->Qr hs xs (c 0*b+x) b i=c i*b+inS (jp d i) b x
 |0,_=>yf ..
 |i+1,hi=>by have ih:=wqy h e (b:=b) (x:=x) i ⋯;have u:=h i ⋯;rw[ut ⋯,ih,e i ⋯,show c i*b+inS (jp d i) b x-c i*b=inS (jp d i) b x by lia,qjd u];rfl
theorem wwq {u:Bool}(h:Q7 hs x y u):cvr hs x y:=by obtain⟨_,h1,h2⟩:=h;unfold cvr loH hiH jj yp;cases u <;> simp only[aD,cV,bA]at h1 h2 <;> rw[h1,h2] <;> constructor <;> (split <;> lia)
theorem wu1 (ok:qt hs){c:Nat->Int}{d:Nat->Bool}{m:Nat}(m1:1<=m)(h:∀i,i<m->Q7 hs (c i) (c (i+1)) (d i))(e:c m=c 0)(s:jp d m=false):kh hs m (c 0):=by
 have L:((List.range m).map c).length=m:=by rw[af,ay]
 have z:∀i,i<m->((List.range m).map c).getD i 0=c i:=λi hi=>by rw[ae,ax,bg hi];rfl
 have cl:ClR hs m ((List.range m).map c):=by
  refine⟨L,λx U=>?_,λi hi=>?_,?_⟩
  .obtain⟨i,hi,rfl⟩:=az.mp U;exact(h i (al.mp hi)).1
  .rw[z i ⋯,z (i+1) hi];exact wwq (h i ⋯)
  .rw[z (m-1) ⋯,z 0 ⋯,<-e];have:=wwq (h (m-1) ⋯);rwa [show m-1+1=m by lia]at this
 refine⟨_,(vm ok m1).mpr cl,?_,z 0 ⋯⟩;have W:∀i,i<((List.range m).map c).length->wb ((List.range m).map c) i=c i:=λi hi=>by unfold wb;rw[d8 hi];exact z i ⋯
 have J:=λx:Int=>wqy (hs:=hs) (xs:=(List.range m).map c) (d:=d) (b:=3) (x:=x) (λi hi=>h i ⋯) W _ (ak _);have F:=J 1;have D:=J 2;rw[Wm,L,e,s]at F D;simp only[inS,aD,bA,jP]at F D;lia
theorem xw7 (ok:qt hs){m:Nat}(m1:1<=m)(m2:m<=12){k:Int}(h:kh hs m k):∃(c:Nat->Int) (d:Nat->Bool),c 0=k/\(∀i,Q7 hs (c i) (c (i+1)) (d i))/\(∀i,c (m+i)=c i/\d (m+i)=d i)/\jp d m=false:=by
 obtain⟨r,Z,W,rfl⟩:=h;have c:=(vm ok m1).mp Z;have cl:=jt m1 m2 c;have D:=c.1;have z:∀i,wb r (m+i)=wb r i:=λi=>by unfold wb;rw[D,Nat.add_mod_left]
 have L:∀i,wb r (i+1)=wb r (i%m+1)/\wb r i=wb r (i%m):=λi=>by unfold wb;rw[D,Nat.mod_add_mod,Nat.mod_mod];exact⟨rfl,rfl⟩
 have J:∀i,Q7 hs (wb r i) (wb r (i+1)) (decide (hAt hs (wb r i)=wb r (i+1)+1)):=λi=>by
  rw[(L i).1,(L i).2];have hi:i%m<r.length:=by rw[D];exact eW _ ⋯
  have U:=cl.2 (i%m) _ _ (jh hi) (Qh hi);refine⟨U.1,?_⟩;rcases qz2 U (qxj cl W (i%m) hi) with⟨h1,h2⟩|⟨h1,h2⟩
  .rw[h1,h2,aT ⋯];exact⟨by simp,by simp⟩
  .rw[h1,h2,aF rfl];exact⟨by simp,by simp⟩
 refine⟨wb r,λi=>decide (hAt hs (wb r i)=wb r (i+1)+1),uq r,J,λi=>⟨z i,?_⟩,?_⟩
 .show decide (hAt hs (wb r (m+i))=wb r (m+i+1)+1)=decide (hAt hs (wb r i)=wb r (i+1)+1);rw[z i,Nat.add_assoc,z (i+1)]
 .have e1:=qw4 (d:=λi=>decide (hAt hs (wb r i)=wb r (i+1)+1)) (λi _=>J i) (b:=3) (x:=1) ⋯ ⋯ ⋯ m (ak _);have F:=Z3 cl W (t:=wb r 0*3+1) (b:=3) ⋯ ⋯ ⋯;rw[D,e1,show wb r m=wb r 0 from z 0]at F;cases hz:jp (λi=>decide (hAt hs (wb r i)=wb r (i+1)+1)) m with
  |false=>rfl
  |true =>
   rw[hz]at F;simp only[inS,cV]at F;lia
abbrev Cor:=(Int×Int)×Int
structure Cell where
 u:Int
 S:Int
 a:Int
 b:Int
def Cell.D (c:Cell):Nat:=if(c.b-c.a).natAbs=0 then 1 else(c.b-c.a).natAbs
def Cell.sg (c:Cell):Int:=if c.b>c.a then 1 else if c.b<c.a then -1 else 0
def Cell.lft (c:Cell):Cor:=(wv c.u c.S,c.a)
def Cell.rgt (c:Cell):Cor:=(wv (c.u+1) c.S,c.b)
def zm:List Cell->List Cor
 |[]=>[]
 |[c]=>[c.lft,c.rgt]
 |c::d::r=>c.lft::zm (d::r)
def jn (n M:Int):List Cell->Prop
 |[]=>False
 |[c]=>1<=c.S/\c.S<=M/\0<=c.u/\c.u+1<=n*c.S/\(0<=c.a/\c.a<=n)/\0<=c.b/\c.b<=n
 |c::d::r=>(1<=c.S/\c.S<=M/\0<=c.u/\c.u+1<=n*c.S/\(0<=c.a/\c.a<=n)/\0<=c.b/\c.b<=n)/\c.rgt=d.lft/\jn n M (d::r)
def Cell.cut (c:Cell):List Cell:=(List.range c.D).map λk:Nat=>⟨c.u*c.D+k,c.S*c.D,c.a+c.sg*k,c.a+c.sg*(k+1)⟩
def Cell.up (hs:List Int)(c:Cell):Cell:=⟨c.u,c.S,hAt hs c.a,hAt hs c.b⟩
def kg (hs:List Int)(cs:List Cell):List Cell:=(cs.map λc=>c.cut.map (Cell.up hs)).flatten
def jd (hs:List Int):List Cell:=(List.range (hs.length-1)).map λk:Nat=>⟨k,1,hAt hs k,hAt hs (k+1)⟩
def xk (hs:List Int):Nat->List Cell
 |0=>jd hs
 |t+1=>kg hs (xk hs t)
theorem qk8 (c:Cell):1<=c.D:=by unfold Cell.D;split <;> lia
def Jq (n M:Int)(c:Cell):Prop:=1<=c.S/\c.S<=M/\0<=c.u/\c.u+1<=n*c.S/\(0<=c.a/\c.a<=n)/\0<=c.b/\c.b<=n
variable {M:Int}{c:Cell}
theorem xqn {n:Int}(h:Jq n M c):jn n M [c]:=h
variable {d:Cell}
theorem qzy {n:Int}{r:List Cell}(h:Jq n M c)(e:c.rgt=d.lft)(t:jn n M (d::r)):jn n M (c::d::r):=⟨h,e,t⟩
theorem Jn {n:Int}:∀ {xs ys:List Cell},jn n M xs->jn n M ys->xs.getLast?.map Cell.rgt=ys.head?.map Cell.lft->jn n M (xs++ys)
 |[],_,h,_,_=>h.elim
 |[c],[],_,h,_=>h.elim
 |[c],d::r,h,t,e=>qzy h (aq e) t
 |c::d::r,ys,h,t,e=>qzy h.1 h.2.1 (Jn (xs:=d::r) h.2.2 t (by simpa using e))
theorem kj {n:Int}{cs:List Cell}(h:jn n M cs):cs≠[]:=by intro z;rw[z]at h;exact h
theorem xm {n:Int}:∀ {cs:List Cell},jn n M cs->∀c∈cs,Jq n M c
 |[],h,_,_=>h.elim
 |[c],h,x,hx=>by rw[aM.mp hx];exact h
 |c::d::r,h,x,hx=>by
  rcases aO.mp hx with rfl|hx
  .exact h.1
  .exact xm h.2.2 x hx
theorem Wn {n:Int}(f:Nat->Cell):∀d:Nat,(∀k,k<=d->Jq n M (f k))->(∀k,k<d->(f k).rgt=(f (k+1)).lft)->jn n M ((List.range (d+1)).map f)
 |0,g,_=>g 0 (ak _)
 |d+1,g,c=>by rw[bz,aK];refine Jn (Wn f d (λk hk=>g k ⋯) λk hk=>c k ⋯) (xqn (g (d+1) (ak _))) ?_;rw[bz,aK,dY];exact b7 some (c d ⋯)
def mapc (hs:List Int)(c:Cor):Cor:=(c.1,hAt hs c.2)
theorem qj9 (c:Cell):c.a+c.sg*(c.D:Int)=c.b:=by
 unfold Cell.sg Cell.D;split
 .rename_i h;rw[ar ⋯];lia
 .split
  .rename_i h1 h2;rw[ar ⋯];lia
  .lia
theorem wkq (c:Cell){n:Int}{k:Nat}(hk:k<=c.D)(h1:0<=c.a/\c.a<=n)(h2:0<=c.b/\c.b<=n):0<=c.a+c.sg*k/\c.a+c.sg*k<=n:=by
 have e:=qj9 c;unfold Cell.sg at e ⊢;split at e
 .rename_i h;rw[aw h];lia
 .rename_i h;rw[ar h];split at e
  .rename_i g;rw[aw g];lia
  .rename_i g;rw[ar g];lia
theorem D_le {n:Int}(hn:1<=n)(h1:0<=c.a/\c.a<=n)(h2:0<=c.b/\c.b<=n):(c.D:Int)<=n:=by unfold Cell.D;split <;> lia
theorem qzg (ok:qt hs){M:Int}{c:Cell}(h:Jq ((hs.length:Int)-1) M c) :
  jn ((hs.length:Int)-1) (24*M) (c.cut.map (Cell.up hs))/\(c.cut.map (Cell.up hs)).head?.map Cell.lft=some (mapc hs c.lft)/\(c.cut.map (Cell.up hs)).getLast?.map Cell.rgt=some (mapc hs c.rgt):=by
 obtain⟨J,g2,g3,g4,g5,Z⟩:=h;have o1:=ok.1;have o2:=ok.2.1;have hD:=qk8 c;have ab:=D_le (c:=c) (n:=(hs.length:Int)-1) ⋯ g5 Z;obtain⟨d,F⟩:∃d,c.D=d+1:=⟨c.D-1,⋯⟩;have e:c.cut.map (Cell.up hs)=(List.range (d+1)).map λk:Nat=>(⟨c.u*c.D+k,c.S*c.D,hAt hs (c.a+c.sg*k),hAt hs (c.a+c.sg*(k+1))⟩:Cell):=by unfold Cell.cut;rw[aN,F];rfl
 rw[e];have U:1<=c.S*(c.D:Int):=by have:=br J (show(1:Int)<=c.D by lia) ⋯ ⋯;simpa using this
 have z:=Wf ok;refine⟨Wn _ d (λk W=>⟨U,?_,?_,?_,⟨(z _).1,(z _).2⟩,(z _).1,(z _).2⟩) λk W=>?_,?_,?_⟩
 .show c.S*(c.D:Int)<=24*M;have:=br g2 (show(c.D:Int)<=24 by lia) ⋯ ⋯;lia
 .show 0<=c.u*(c.D:Int)+k;have:=aX g3 (show(0:Int)<=c.D by lia);lia
 .show c.u*(c.D:Int)+k+1<=((hs.length:Int)-1)*(c.S*(c.D:Int));have:=aj g4 (show(0:Int)<=c.D by lia);have L:(c.u+1)*(c.D:Int)=c.u*c.D+c.D:=by grind
  have e3:((hs.length:Int)-1)*c.S*(c.D:Int)=((hs.length:Int)-1)*(c.S*(c.D:Int)):=by grind
  lia
 .show(wv (c.u*c.D+k+1) (c.S*c.D),hAt hs (c.a+c.sg*(k+1)))=(wv (c.u*c.D+((k+1:Nat):Int)) (c.S*c.D),hAt hs (c.a+c.sg*((k+1:Nat):Int)));push_cast;rw[jV]
 .rw[List.range_succ_eq_map,aC];show some (wv (c.u*c.D+((0:Nat):Int)) (c.S*c.D),hAt hs (c.a+c.sg*((0:Nat):Int)))=some (wv c.u c.S,hAt hs c.a);rw[show c.u*(c.D:Int)+((0:Nat):Int)=c.u*(c.D:Int) by lia,Qm J ⋯];simp
 .rw[bz,aK,dY];show some (wv (c.u*c.D+(d:Int)+1) (c.S*c.D),hAt hs (c.a+c.sg*((d:Int)+1)))=some (wv (c.u+1) c.S,hAt hs c.b);have e1:c.u*(c.D:Int)+(d:Int)+1=(c.u+1)*(c.D:Int):=by rw[F];push_cast;grind
  have L:c.a+c.sg*((d:Int)+1)=c.b:=by have:=qj9 c;rw[F]at this;push_cast at this;exact this
  rw[e1,L,Qm J ⋯]
theorem xz4 {α:Type}{xs ys:List α}(h:xs≠[]):(xs++ys).head?=xs.head?:=by
 cases xs with
 |nil=>exact absurd rfl h
 |cons x l=>rfl
theorem xxh {α:Type}{xs ys:List α}(h:ys≠[]):(xs++ys).getLast?=ys.getLast?:=by
 rw[dY];cases g:ys.getLast? with
 |none=>exact absurd (fB.mp g) h
 |some c=>rfl
theorem Z5 (ok:qt hs){M:Int}:∀ {cs:List Cell},jn ((hs.length:Int)-1) M cs ->
  jn ((hs.length:Int)-1) (24*M) (kg hs cs)/\(kg hs cs).head?.map Cell.lft=cs.head?.map (λc=>mapc hs c.lft)/\(kg hs cs).getLast?.map Cell.rgt=cs.getLast?.map (λc=>mapc hs c.rgt)
 |[],h=>h.elim
 |[c],h=>by have:=qzg ok (xm h c (by simp));show jn _ _ (c.cut.map (Cell.up hs)++[])/\(c.cut.map (Cell.up hs)++[]).head?.map Cell.lft=_/\(c.cut.map (Cell.up hs)++[]).getLast?.map Cell.rgt=_;rw[bE];exact this
 |c::d::r,h=>by
  have a:=qzg ok h.1;have b:=Z5 ok h.2.2;have e:kg hs (c::d::r)=c.cut.map (Cell.up hs)++kg hs (d::r):=rfl;have ne1:=kj a.1;have ne2:=kj b.1;rw[e];refine⟨Jn a.1 b.1 ?_,?_,?_⟩
  .rw[a.2.2,b.2.1,h.2.1];rfl
  .rw[xz4 ne1,a.2.1];rfl
  .rw[xxh ne2,b.2.2];rfl
theorem Zj:∀ {cs:List Cell} (h:cs≠[]),zm cs=cs.map Cell.lft++(match cs.getLast? with|some c=>[c.rgt]|none=>[])
 |[],h=>absurd rfl h
 |[c],_=>rfl
 |c::d::r,_=>by show c.lft::zm (d::r)=_;rw[Zj (cs:=d::r) (by simp)];simp
theorem xvh (ok:qt hs):jn ((hs.length:Int)-1) 1 (jd hs):=by have J:=ok.1;have z:=Wf ok;obtain⟨d,F⟩:∃d,hs.length-1=d+1:=⟨hs.length-2,⋯⟩;unfold jd;rw[F];refine Wn _ d (λk D=>⟨by show(1:Int)<=1;decide,by show(1:Int)<=1;decide,by show(0:Int)<=k;lia,by show(k:Int)+1<=((hs.length:Int)-1)*1;lia,z _,z _⟩) λk D=>?_;show(wv ((k:Int)+1) 1,hAt hs ((k:Int)+1))=(wv ((k+1:Nat):Int) 1,hAt hs ((k+1:Nat):Int));push_cast;rfl
theorem kn (ok:qt hs):∀t:Nat,jn ((hs.length:Int)-1) (24 ^ t) (xk hs t)
 |0=>xvh ok
 |t+1=>by have:=(Z5 ok (kn ok t)).1;rw[show(24:Int) ^ (t+1)=24*24 ^ t by rw[Int.pow_succ];lia];exact this
theorem W1:∀ {cs:List Cell},cs≠[]->(zm cs).length=cs.length+1:=λ{cs} h=>by
 rw[Zj h,au,af];cases g:cs.getLast? with
 |none=>exact absurd (fB.mp g) h
 |some c=>rfl
def CoR (H:Hp)(v:V)(c:Cor):Prop:=∃q pq,v=.ref q/\H q=some (.tup [.ref pq,.int c.2])/\H pq=some (.tup [.int c.1.1,.int c.1.2])
theorem CoR.keep {c:Cor}(h:CoR H v c)(k:∀b o,(∀xs,o≠.lst xs)->H b=some o->H' b=some o):CoR H' v c:=by obtain⟨q,pq,e,a,b⟩:=h;exact⟨q,pq,e,k _ _ (λxs z=>by cases z) a,k _ _ (λxs z=>by cases z) b⟩
theorem wq3 {p:Aj}{xs:List V}{o':HO}(hp:H p=some (.lst xs)):∀b o,(∀xs,o≠.lst xs)->H b=some o->upd H p o' b=some o:=λb o no e=>by
 rw[wx]
 .exact e
 .intro z;rw[z,hp]at e;exact no _ (aq e).symm
def CosV (H:Hp)(vs:List V)(cs:List Cor):Prop:=vs.length=cs.length/\∀(i:Nat) v c,vs[i]?=some v->cs[i]?=some c->CoR H v c
variable {cs:List Cor}
theorem CosV.keep (h:CosV H vs cs)(k:∀b o,(∀xs,o≠.lst xs)->H b=some o->H' b=some o):CosV H' vs cs:=⟨h.1,λi v c a b=>(h.2 i v c a b).keep k⟩
theorem CosV.same (h:CosV H vs cs)(s:Same H H'):CosV H' vs cs:=h.keep λb o _ e=>s b o e
theorem CosV.app {ws:List V}{ds:List Cor}(h:CosV H vs cs)(g:CosV H ws ds):CosV H (vs++ws) (cs++ds):=by
 refine⟨by rw[au,au,h.1,g.1],λi v c F D=>?_⟩;rcases bF i vs.length with z|z
 .rw[aU z]at F;rw[aU (by rw[<-h.1];exact z)]at D;exact h.2 i v c F D
 .rw[aG z]at F;rw[aG (by rw[<-h.1];exact z),<-h.1]at D;exact g.2 _ v c F D
theorem CosV.one {c:Cor}(h:CoR H v c):CosV H [v] [c]:=⟨rfl,λi v' c' e1 e2=>by
 rcases i with _|i
 .cases e1;cases e2;exact h
 .cases e1⟩
def SzP (p:Int×Int):Prop:=1<=p.2/\p.2<=1000000000000000000/\0<=p.1/\p.1<=1000000000000000000
def SzC (c:Cor):Prop:=SzP c.1/\0<=c.2/\c.2<=24
theorem xkj {m:Int}(a1:1<=a)(a2:a<=1000000000000000000)(b1:1<=b)(b2:b<=1000000000000000000)(m1:1<=m)(m2:m<=24):1<=a*b*m/\Sm 9000 (a*b*m):=by
 have D:1<=a*b:=by have:=br a1 b1 ⋯ ⋯;simpa using this
 have p2:a*b<=1000000000000000000*1000000000000000000:=br a2 b2 ⋯ ⋯;have z:1<=a*b*m:=by have:=br D m1 ⋯ ⋯;simpa using this
 have F:a*b*m<=1000000000000000000*1000000000000000000*24:=br p2 m2 ⋯ ⋯;exact⟨z,(show Sm 200 (a*b*m) from by unfold Sm;lia).mono ⋯⟩
theorem j5 (s:Same H H'){p:Aj}(n:H' p=none):H p=none:=by
 cases e:H p with
 |none=>rfl
 |some o=>rw[s _ _ e]at n;cases n
theorem qy6 (i:Int):wv i 1=(i,1):=by
 have h1:1<=(wv i 1).2:=zx ⋯;have h2:(wv i 1).2<=1:=ud ⋯;have e:(wv i 1).2=1:=by lia
 have c:=zu (t:=i) (b:=1) ⋯;rw[e,iH,iH]at c;exact iU c e
theorem cors0 (ok:qt hs):zm (jd hs)=(List.range hs.length).map λk:Nat=>(((k:Int),(1:Int)),hAt hs k):=by
 have F:=ok.1;obtain⟨d,D⟩:∃d,hs.length=d+1+1:=⟨hs.length-2,⋯⟩;have z:jd hs≠[]:=kj (xvh ok);rw[Zj z];unfold jd;rw[aN,D,fU,bz (n:=d+1),aK];congr 1
 .refine bw λk _=>?_;show(wv (k:Int) 1,hAt hs k)=_;rw[qy6]
 .rw[bz,aK,dY];show[(wv ((d:Int)+1) 1,hAt hs ((d:Int)+1))]=[((((d+1:Nat):Int),(1:Int)),hAt hs ((d+1:Nat):Int))];rw[qy6];push_cast;rfl
theorem wjy {u S n:Int}(hS:1<=S)(h0:0<=u)(h1:u<=n*S):0<=(wv u S).1/\(wv u S).1<=n*(wv u S).2:=by
 constructor
 .rcases bh (wv u S).1 0 with z|z
  .have:=(Y6 hS).mp z;lia
  .exact z
 .rcases bh (n*(wv u S).2) (wv u S).1 with z|z
  .have:=(qyu hS).mp z;lia
  .exact z
theorem wjt {n:Int}(n0:0<=n)(n24:n<=24)(hM:M<=40000000000000000){c:Cell}(h:Jq n M c):SzC c.lft/\SzC c.rgt:=by obtain⟨z,g2,W,U,g5,g6⟩:=h;have L:1<=(wv c.u c.S).2:=zx z;have l2:(wv c.u c.S).2<=c.S:=ud z;have J:1<=(wv (c.u+1) c.S).2:=zx z;have Z:(wv (c.u+1) c.S).2<=c.S:=ud z;have F:=wjy z W (show c.u<=n*c.S by lia);have D:=wjy z (show 0<=c.u+1 by lia) U;have b1:n*(wv c.u c.S).2<=24*40000000000000000:=br n24 ⋯ ⋯ ⋯;have b2:n*(wv (c.u+1) c.S).2<=24*40000000000000000:=br n24 ⋯ ⋯ ⋯;refine⟨⟨⟨L,by show(wv c.u c.S).2<=_;lia,F.1,by show(wv c.u c.S).1<=_;lia⟩,by show 0<=c.a;lia,by show c.a<=24;lia⟩,⟨J,by show(wv (c.u+1) c.S).2<=_;lia,D.1,by show(wv (c.u+1) c.S).1<=_;lia⟩,by show 0<=c.b;lia,by show c.b<=24;lia⟩
theorem pow24:∀t:Nat,t<=11->(24:Int) ^ t<=40000000000000000:=by decide +kernel
theorem wvc (hs:List Int)(t:Nat):(xk hs t).length<=(xk hs (t+1)).length:=by
 show _<=(kg hs (xk hs t)).length;generalize xk hs t=cs
 induction cs with
 |nil=>exact aQ _
 |cons c cs ih =>
  have e:kg hs (c::cs)=c.cut.map (Cell.up hs)++kg hs cs:=rfl;rw[e,au,aJ,af];unfold Cell.cut;rw[af,ay];have:=qk8 c;lia
theorem qxt (hs:List Int):∀ {t d:Nat},(xk hs t).length<=(xk hs (t+d)).length
 |t,0=>ak _
 |t,d+1=>bI (qxt hs (t:=t) (d:=d)) (wvc hs (t+d))
theorem xqh (ok:qt hs){s t:Nat}(h:s<=t):(zm (xk hs s)).length<=(zm (xk hs t)).length:=by rw[W1 (kj (kn ok s)),W1 (kj (kn ok t))];have:=qxt hs (t:=s) (d:=t-s);rw[show s+(t-s)=t by lia]at this;lia
theorem cut_pt (hS:1<=c.S)(k:Int){D:Int}(hD:1<=D):wv ((wv c.u c.S).1*(wv (c.u+1) c.S).2*(D-k)+(wv (c.u+1) c.S).1*(wv c.u c.S).2*k) ((wv c.u c.S).2*(wv (c.u+1) c.S).2*D)=wv (c.u*D+k) (c.S*D):=by
 have L:1<=(wv c.u c.S).2:=zx hS;have J:1<=(wv (c.u+1) c.S).2:=zx hS;have F:=zu (t:=c.u) hS;have z:=zu (t:=c.u+1) hS;generalize (wv c.u c.S).1=t1 at F ⊢;generalize (wv c.u c.S).2=b1 at F L ⊢;generalize (wv (c.u+1) c.S).1=t2 at z ⊢;generalize (wv (c.u+1) c.S).2=b2 at z J ⊢;have W:1<=b1*b2:=by have:=br L J ⋯ ⋯;simpa using this
 have p2:(1:Int)<=b1*b2*D:=by have:=br W hD ⋯ ⋯;simpa using this
 have U:(1:Int)<=c.S*D:=by have:=br hS hD ⋯ ⋯;simpa using this
 refine(yq p2 U).mp ?_;grind
def wv2 (hs:List Int)(c:Cell)(k:Nat):Cor:=(wv (c.u*c.D+k) (c.S*c.D),hAt hs (c.a+c.sg*k))
theorem xxt (hs:List Int)(c:Cell):(c.cut.map (Cell.up hs)).map Cell.lft=(List.range c.D).map (wv2 hs c):=by unfold Cell.cut;rw[aN,aN];rfl
variable {us:List V}
theorem CosV.snoc {c:Cor}(h:CosV H us cs)(g:CoR H v c):CosV H (us++[v]) (cs++[c]):=h.app (.one g)
def BtAt (H:Hp)(vl vr:V)(ph:Aj)(st:Int)(x:Int):St->Hp->Prop:=λσ H'=>H'=H/\σ=[some vl,some vr,some (.ref ph),some (.int st),some (.int x),none,none,none,none]
def wv7 (K:Aa):Sp:=λvs H Q _=>∃(v v':V) (ph:Aj) (hs:List Int) (c:Cell) (M:Int),vs=[v,v',.ref ph]/\CoR H v c.lft/\CoR H v' c.rgt/\SqL K H ph (hs.map V.int)/\qt hs/\Jq ((hs.length:Int)-1) M c/\M<=40000000000000000 /\
 ∀p ys H',H p=none->Same H H'->H' p=some (.lst ys)->CosV H' ys ((c.cut.map (Cell.up hs)).map Cell.lft)->Q (.ref p) H'
include T in
theorem xk1 (F:Fun K "_law_between" "_law_between" zbv f fd)(zcc:Cal P w K mg base "_law_low" 2 wjv):FK P w K mg base 3 f fd ["_law_left","_law_right","_law_heights_here"] (wv7 K):=by
 have sc:=qq9;refine F.okX sc (λvs H Q E h=>by obtain⟨_,_,_,_,_,_,rfl,_⟩:=h;rfl) λ_ _ _ _ H vs Q E hr h=>?_;obtain⟨_,_,ph,hs,c,M,rfl,⟨p,pp,rfl,p1,p2⟩,⟨q,qq,rfl,q1,q2⟩,hS,ok,gc,hM,k⟩:=h;have o1:=ok.1;have o2:=ok.2.1;have a2:(1000000:Nat)<sizeLine:=by decide
 obtain⟨⟨⟨l1,l2,l3,l4⟩,l5,l6⟩,⟨⟨r1,r2,r3,r4⟩,r5,r6⟩⟩:=wjt (n:=(hs.length:Int)-1) ⋯ ⋯ hM gc;obtain⟨g1,g2,g3,g4,g5,g6⟩:=gc;have hD:=qk8 c;have a1:=D_le (c:=c) (n:=(hs.length:Int)-1) ⋯ g5 g6;have as:-1<=c.sg/\c.sg<=1:=by
  unfold Cell.sg;split
  .lia
  .split <;> lia
 have sm:=xkj l1 l2 r1 r2 (show(1:Int)<=c.D by lia) (show(c.D:Int)<=24 by lia);have Z:SqT K H p [.ref pp,.int c.lft.2]:=SqT.of p1;have P2:SqT K H pp [.int c.lft.1.1,.int c.lft.1.2]:=SqT.of p2;have Q1:SqT K H q [.ref qq,.int c.rgt.2]:=SqT.of q1;have Q2:SqT K H qq [.int c.rgt.1.1,.int c.rgt.1.2]:=SqT.of q2;refine⟨_,(qj (wg (i:=3) (w5 (Zz rfl) rfl T.max_ df (qw qv (qw (w5 W9 rfl T.abs_ Wr (qw (q9 zd (wn wt (pv 1) qv (λ_ _=>rfl)) (wn wt (pv 0) qv (λ_ _=>rfl))) qk)) qk))))
   (qj (wg (i:=4) qv)
   (qwn (zp (w8 Q9 (wn wt (pv 1) qv (λ_ _=>rfl)) (wn wt (pv 0) qv (λ_ _=>rfl)) (xv _)) (qr (wg (i:=4) qv)) xn)
   (qwn (zp (w8 Zf (wn wt (pv 1) qv (λ_ _=>rfl)) (wn wt (pv 0) qv (λ_ _=>rfl)) (xv _)) (qr (wg (i:=4) (Q6 yj qv))) xn)
   (qj (wg (i:=5) (vt qk))
   (qj (ky aV rfl (xg rfl T.range_ (qw (pv 3) qk)) (xz (i:=6)) (qj (wg (i:=7) (q9 xq (q9 xq (wn wt (wn wt (pv 0) qv (λ_ _=>rfl)) qv (λ_ _=>rfl)) (wn wt (wn wt (pv 1) qv (λ_ _=>rfl)) qv (λ_ _=>rfl))) (q9 zd (pv 3) (pv 6))))
   (qj (quq (i:=7) sc.nd rfl (Or.inl rfl) (q9 xq (q9 xq (wn wt (wn wt (pv 1) qv (λ_ _=>rfl)) qv (λ_ _=>rfl)) (wn wt (wn wt (pv 0) qv (λ_ _=>rfl)) qv (λ_ _=>rfl))) (pv 6)) xxk)
   (qj (wg (i:=8) (wu zcc (hr.mono ⋯) rfl q8 (qw (pv 7) (qw (q9 xq (q9 xq (wn wt (wn wt (pv 0) qv (λ_ _=>rfl)) qv (λ_ _=>rfl)) (wn wt (wn wt (pv 1) qv (λ_ _=>rfl)) qv (λ_ _=>rfl))) (pv 3)) qk))))
   (qr (vg (Zd bK bN bO vn (pv 5) (qw (vy (qw (pv 8) (qw (wn xr (pv 2) (q9 xj (wn wt (pv 0) qv (λ_ _=>rfl)) (q9 xq (pv 4) (pv 6))) (λ_ _=>rfl)) qk))) qk))))))))
   (qr (xx (pv 5))))))))),?_⟩
 dsimp only [Ww];refine exI rfl (exX rfl rfl Q1 rfl (exI rfl (exX rfl rfl Z rfl (wy rfl rfl (exI rfl ⟨_,_,rfl,?_⟩)))));have eS:(if(if c.rgt.2-c.lft.2<0 then -(c.rgt.2-c.lft.2) else c.rgt.2-c.lft.2)>1 then(if c.rgt.2-c.lft.2<0 then -(c.rgt.2-c.lft.2) else c.rgt.2-c.lft.2) else 1)=(c.D:Int):=by show(if(if c.b-c.a<0 then -(c.b-c.a) else c.b-c.a)>1 then(if c.b-c.a<0 then -(c.b-c.a) else c.b-c.a) else 1)=(c.D:Int);unfold Cell.D;split <;> split <;> split <;> lia
 dsimp only;rw[eS];refine⟨BtAt H (.ref p) (.ref q) ph c.D (if c.b>c.a then 1 else 0),?_,?_⟩
 .refine exI rfl (exX rfl rfl Q1 rfl (exI rfl (exX rfl rfl Z rfl (wy rfl rfl (exI rfl (jb (λz=>?_) (λz=>?_)))))))
  .have L:c.b>c.a:=z;exact⟨rfl,by rw[aw L];rfl⟩
  .have L:¬ c.b>c.a:=z;exact⟨rfl,by rw[ar L];rfl⟩
 rintro σ H1 ⟨e1,rfl⟩;subst e1;refine⟨BtAt H1 (.ref p) (.ref q) ph c.D c.sg,?_,?_⟩
 .refine exI rfl (exX rfl rfl Q1 rfl (exI rfl (exX rfl rfl Z rfl (wy rfl rfl (exI rfl (jb (λz=>?_) (λz=>?_)))))))
  .have L:c.b<c.a:=z;have e:c.sg=-1:=by unfold Cell.sg;rw[ar ⋯,aw L]
   refine exI rfl ⟨rfl,?_⟩;rw[e];rfl
  .have L:¬ c.b<c.a:=z;have e:c.sg=if c.b>c.a then 1 else 0:=by
    unfold Cell.sg;by_cases y:c.b>c.a
    .rw[aw y,aw y]
    .rw[ar y,ar L,ar y]
   exact⟨rfl,by rw[e]⟩
 rintro σ H2 ⟨e2,rfl⟩;subst e2;refine⟨sz0,λpm nm=>?_⟩;refine exI rfl (exI rfl ⟨⋯,⋯,?_⟩);rw[show((c.D:Int)).toNat=c.D by lia];refine vj (λi σ H'=>Same H2 H'/\∃(ys:List V) (z6 z7 z8:Option V),σ=[some (.ref p),some (.ref q),some (.ref ph),some (.int c.D),some (.int c.sg),some (.ref pm),z6,z7,z8]/\H' pm=some (.lst ys)/\CosV H' ys ((List.range i).map (wv2 hs c)))
  ⟨Same.upd nm,[],_,_,_,rfl,qu,⟨rfl,λi v c e=>by cases e⟩⟩ ?_ ?_
 .rintro i σ H3 hi ⟨s3,ys,z6,z7,z8,rfl,fm,cy⟩;have an:=s3.sqt Z;have ah:=s3.sqt P2;have ad:=s3.sqt Q1;have ab:=s3.sqt Q2;refine exI rfl (exX rfl rfl an rfl (exX rfl rfl ah rfl (exI rfl (exX rfl rfl ad rfl (exX rfl rfl ab rfl (wy rfl rfl ⟨(by walk_at "mul"),exI rfl (exI rfl (wy rfl rfl (wy rfl rfl ⟨(by walk_at "mul"),?_⟩)))⟩))))));refine exI rfl (exI rfl (exX rfl rfl ad rfl (exX rfl rfl ab rfl (exI rfl (exX rfl rfl an rfl (exX rfl rfl ah rfl (wy rfl rfl ⟨(by walk_at "mul"),exI rfl (wy rfl rfl ⟨(by walk_at "mul"),wy rfl rfl ?_⟩)⟩)))))));refine exI rfl (exI rfl (exX rfl rfl an rfl (exX rfl rfl ah rfl (exI rfl (exX rfl rfl ad rfl (exX rfl rfl ab rfl (wy rfl rfl ⟨(by walk_at "mul"),exI rfl (wy rfl rfl ⟨(by walk_at "mul"),_,_,rfl,sm.1,sm.2,λJ nt=>?_⟩)⟩)))))));have e0:wv (c.lft.1.1*c.rgt.1.2*((c.D:Int)-((0:Int)+i))+c.rgt.1.1*c.lft.1.2*((0:Int)+i)) (c.lft.1.2*c.rgt.1.2*(c.D:Int))=(wv2 hs c i).1:=by rw[dH];exact cut_pt g1 (i:Int) ⋯
  dsimp only;rw[e0];have U:=Same.upd (H:=H3) (o:=.tup (ptV (wv2 hs c i).1)) nt;have f4:upd H3 J (.tup (ptV (wv2 hs c i).1)) J=some (.tup (ptV (wv2 hs c i).1)):=qu;generalize upd H3 J (.tup (ptV (wv2 hs c i).1))=H4 at U f4;have md:=wkq c (n:=(hs.length:Int)-1) (k:=i) ⋯ g5 g6;have a0:atI (hs.map V.int) (c.lft.2+c.sg*((0:Int)+i))=some (V.int (hAt hs (c.a+c.sg*i))):=by rw[dH];exact qxc (k:=c.a+c.sg*(i:Int)) md.1 (by have:=md.2;lia)
  refine exI rfl ⟨.inl ⟨rfl,_,SqL.of (U _ _ fm)⟩,exI rfl (exI rfl (exI rfl (exX rfl rfl ((s3.trans U).sqt Z) rfl (exI rfl (exI rfl (wy rfl rfl ⟨(by walk_at "mul"),wy rfl rfl (exX rfl rfl ((s3.trans U).sql hS) a0 ⟨sz2,λW nc=>?_⟩)⟩))))))⟩;have s5:=Same.upd (H:=H4) (o:=.tup [.ref J,.int (hAt hs (c.a+c.sg*i))]) nc;refine⟨pm,wy rfl rfl ⟨s5 _ _ (U _ _ fm),?_,?_⟩⟩
  .rw[cy.1,af,ay];lia
  .have ap:=U.trans s5;have st:∀b o,(∀xs,o≠.lst xs)->upd H4 W (.tup [.ref J,.int (hAt hs (c.a+c.sg*i))]) b=some o->upd (upd H4 W (.tup [.ref J,.int (hAt hs (c.a+c.sg*i))])) pm (.lst (ys++[.ref W])) b=some o:=λb o no e=>by
    rw[wx]
    .exact e
    .intro z;rw[z,s5 _ _ (U _ _ fm)]at e;exact no _ (aq e).symm
   refine⟨Same.upd2 (s3.trans ap) nm,_,_,_,_,rfl,qu,?_⟩;rw[bz,aK];refine CosV.snoc ((cy.same ap).keep st) ?_;refine CoR.keep (H:=upd H4 W (.tup [.ref J,.int (hAt hs (c.a+c.sg*i))])) ⟨W,J,rfl,qu,s5 _ _ f4⟩ st
 .rintro σ H3 ⟨s3,ys,z6,z7,z8,rfl,fm,cy⟩;refine exI rfl (k pm ys H3 nm s3 fm ?_);rw[xxt];exact cy
theorem Yh {n:Int}:∀ {cs:List Cell},jn n M cs->∀i c,cs[i]?=some c->(zm cs)[i]?=some c.lft/\(zm cs)[i+1]?=some c.rgt
 |[],h,_,_,_=>h.elim
 |[c],_,0,x,e=>by rw[<-aq e];exact⟨rfl,rfl⟩
 |[c],_,i+1,x,e=>by cases e
 |c::d::r,h,0,x,e=>by rw[<-aq e];refine⟨rfl,?_⟩;have:=(Yh h.2.2 0 d rfl).1;show(zm (d::r))[0]?=some c.rgt;rw[this,h.2.1]
 |c::d::r,h,i+1,x,e=>Yh (cs:=d::r) h.2.2 i x e
theorem wyd (ok:qt hs){M:Int}{cs:List Cell}(h:jn ((hs.length:Int)-1) M cs){d:Cell}(g:cs.getLast?=some d):zm (kg hs cs)=(cs.map λc=>(c.cut.map (Cell.up hs)).map Cell.lft).flatten++[mapc hs d.rgt]:=by
 have b:=Z5 ok h;rw[Zj (kj b.1)];congr 1
 .unfold kg;rw[List.map_flatten,aN];rfl
 .have e:=b.2.2;rw[g]at e;cases g2:(kg hs cs).getLast? with
  |none=>rw[g2]at e;cases e
  |some x =>
   rw[g2]at e;have z:x.rgt=mapc hs d.rgt:=aq e;show[x.rgt]=_;rw[z]
theorem xj8 (h:ys[ys.length-1]?=some v):atI ys (-1)=some v:=by
 have z:ys≠[]:=by rintro rfl;cases h
 have F:=(dD z).symm;have D:ys.getLast z=v:=by have J:=List.length_pos_iff.mpr z;rw[fY];rw[aa ⋯]at h;exact aq h
 rw[F,D];exact Wj _ _
theorem xw9 {a:Aj}{xs:List V}(f:H a=some (.lst xs)):∀b o,(∀zs,o≠.lst zs)->H b=some o->upd H a (.lst ys) b=some o:=λb o no e=>by
 rw[wx]
 .exact e
 .intro z;rw[z,f]at e;exact no _ (aq e).symm
def qj2 (K:Aa):Sp:=λvs H Q _=>∃(ph:Aj) (hs:List Int) (m:Int),vs=[.ref ph,.int m]/\SqL K H ph (hs.map V.int)/\qt hs/\1<=m/\m<=12/\(zm (xk hs (m.toNat-1))).length<=4000/\∀p us H',H p=none->Same H H'->H' p=some (.lst us)->CosV H' us (zm (xk hs (m.toNat-1)))->Q (.ref p) H'
include T in
theorem xzf (F:Fun K "_law_laid" "_law_laid" zbw f fd)(zft:Cal P w K mg base "_law_between" 3 (wv7 K)):FK P w K mg base 4 f fd ["_law_heights_here","_law_many"] (qj2 K):=by
 have sc:=qyj;refine F.okX sc (λvs H Q E h=>by obtain⟨_,_,_,rfl,_⟩:=h;rfl) λ_ _ _ s H vs Q E hr h=>?_;obtain⟨ph,hs,m,rfl,hS,L,m1,m2,a5,k⟩:=h;have o1:=L.1;have o2:=L.2.1;have a6:(1000000:Nat)<sizeLine:=by decide
 have as:(hs.map V.int).length=hs.length:=af _;refine⟨_,(qj (y8 (i:=2) (M:=[0]) sc.nd rfl (by walk_at "loc") rfl rfl (by walk_at "cap") (by walk_at "has") (by walk_at "cix") rfl (by decide +kernel) rfl (show List.Nodup (["_law_k","_law_heights_here"]:List Str) by decide +kernel) (xg rfl T.range_ (qw (w5 xh rfl T.len_ bH (qw (pv 0) qk)) qk)) (λ_ _ _ _ _=>(vy (qw (vy (qw (pv 0) (qw qv qk))) (qw (wn (yw (K:=K) rfl) (pv 1) (pv 0) (λ_ _=>rfl)) qk)))))
   (qj (ky aV rfl (xg rfl T.range_ (qw (q9 zd (pv 1) qv) qk)) (xz (i:=3)) (qj (wg (i:=4) (vt qk))
   (qj (ky aV rfl (xg rfl T.range_ (qw (q9 zd (w5 xh rfl T.len_ bH (qw (pv 2) qk)) qv) qk)) (xz (i:=5)) (qr (quq (i:=4) sc.nd rfl (Or.inl rfl) (wu zft (hr.mono ⋯) rfl q8 (qw (wn xr (pv 2) (pv 5) (λ_ _=>rfl)) (qw (wn xr (pv 2) (q9 xj (pv 5) qv) (λ_ _=>rfl)) (qw (pv 0) qk)))) xxg)))
   (qr (wg (i:=2) (q9 Z7 (pv 4) (vt (qw (vy (qw (wn wt (wn xr (pv 2) (Q6 yj qv) (λ_ _=>rfl)) qv (λ_ _=>rfl)) (qw (wn xr (pv 0) (wn wt (wn xr (pv 2) (Q6 yj qv) (λ_ _=>rfl)) qv (λ_ _=>rfl)) (λ_ _=>rfl)) qk))) qk))))))))
   (qr (xx (pv 2))))),?_⟩
 dsimp only [Ww];refine exI rfl ⟨_,_,rfl,.inl hS,exI rfl ⟨⋯,⋯,?_⟩⟩;rw[as,show((hs.length:Int)).toNat=hs.length by lia];refine qq0 (λi v H'=>CoR H' v (((i:Int),(1:Int)),hAt hs i)) (λi v H1 H2 g st=>g.keep st) ⋯ (λi H' R hi s' a0=>?_) λz us H2 an s2 f2 lu g2=>?_
 .refine exI rfl ⟨sz2,λpa na=>?_⟩;have U:=s'.trans (Same.upd (o:=.tup [.int ((0:Int)+i),.int 1]) na);refine exI rfl (exI rfl (exX rfl rfl (U.sql hS) (qxc ⋯ ⋯) ⟨sz2,λpb nb=>?_⟩));refine a0 (.ref pb) _ ((Same.upd na).trans (Same.upd nb)) ?_;rw[dH]at *;exact⟨pb,pa,rfl,qu,(Same.upd nb) _ _ qu⟩
 have C0:CosV H2 us (zm (xk hs 0)):=by
  show CosV H2 us (zm (jd hs));rw[cors0 L];refine⟨by rw[lu,af,ay],λi v c e1 e2=>?_⟩;have hi:i<hs.length:=by have:=(am.mp e1).1;lia
  rw[ax,bg hi]at e2;rw[<-aq e2];exact g2 i v e1
 refine exI rfl (wy rfl rfl (exI rfl ⟨⋯,⋯,?_⟩));refine vj (λt σ H'=>Same H H'/\∃(z:Aj) (us:List V) (z3 z4 z5:Option V),σ=[some (.ref ph),some (.int m),some (.ref z),z3,z4,z5]/\H z=none/\H' z=some (.lst us)/\CosV H' us (zm (xk hs t)))
  ⟨s2,z,us,_,_,_,rfl,an,f2,C0⟩ ?_ ?_
 .rintro t σ H3 ht ⟨U,z,us,z3,z4,z5,rfl,nl,fl,Cl⟩;have ch:=kn L t;have hM:=pow24 t ⋯;have lc:=W1 (kj ch);have lm:=xqh L (s:=t) (t:=m.toNat-1) ⋯;have lu:us.length=(xk hs t).length+1:=by rw[Cl.1,lc]
  generalize hcs:xk hs t=cs at ch lc lm Cl lu;refine⟨sz0,λpm nm=>?_⟩;have ap:=j5 U nm;have dm:z≠pm:=wj fl nm;refine exI rfl ⟨_,_,rfl,.inl (SqL.of ((Same.upd nm) _ _ fl)),wy rfl rfl (exI rfl ⟨⋯,⋯,?_⟩)⟩;rw[show((us.length:Int)-1).toNat=cs.length by lia];refine vj (λi σ H'=>Same H H'/\∃(ys:List V) (z5:Option V),σ=[some (.ref ph),some (.int m),some (.ref z),some (.int ((0:Int)+t)),some (.ref pm),z5]/\H' z=some (.lst us)/\CosV H' us (zm cs)/\H' pm=some (.lst ys)/\CosV H' ys ((cs.take i).map λc=>(c.cut.map (Cell.up hs)).map Cell.lft).flatten/\ys.length<=25*i)
   ⟨U.trans (Same.upd nm),[],exI rfl ⟨(Same.upd nm) _ _ fl,Cl.same (Same.upd nm),qu,⟨rfl,λi v c e=>by cases e⟩,aQ _⟩⟩ ?_ ?_
  .rintro i σ H4 hi ⟨s4,ys,z5,rfl,fl4,Cl4,fm4,cy,ly⟩;have ec:cs[i]?=some cs[i]:=aa hi;obtain⟨e1,e2⟩:=Yh ch i _ ec;have u1:us[i]?=some us[i]:=aa ⋯;have u2:us[i+1]?=some us[i+1]:=aa ⋯;have Z:=xm ch _ (aE ec);have a1:atI us ((0:Int)+i)=some us[i]:=by rw[dH];exact v6 u1
   have a2:atI us ((0:Int)+i+1)=some us[i+1]:=by rw[show(0:Int)+i+1=((i+1:Nat):Int) by lia];exact v6 u2
   refine exI rfl (exI rfl (exI rfl (exX rfl rfl (SqL.of fl4) a1 (exI rfl (exI rfl (wy rfl rfl (exX rfl rfl (SqL.of fl4) a2 (exI rfl ⟨_,_,ph,hs,cs[i],exI rfl ⟨Cl4.2 i _ _ u1 e1,Cl4.2 (i+1) _ _ u2 e2,s4.sql hS,L,Z,hM,λJ zs H5 n5 D f5 cz=>?_⟩⟩))))))));have lz:zs.length<=25:=by rw[cz.1,af,af];unfold Cell.cut;rw[af,ay];have:=D_le (c:=cs[i]) (n:=(hs.length:Int)-1) ⋯ Z.2.2.2.2.1 Z.2.2.2.2.2;lia
   have ab:=D _ _ fm4;have a3:=D _ _ fl4;refine⟨pm,J,ys,zs,rfl,rfl,ab,f5,⋯,?_⟩;have kl:=xw9 (ys:=ys++zs) ab;refine⟨Same.upd2 (s4.trans D) ap,ys++zs,exI rfl ⟨?_,(Cl4.same D).keep kl,qu,?_,by rw[au];lia⟩⟩
   .rw[wx dm];exact a3
   .have e:(cs.take (i+1)).map (λc=>(c.cut.map (Cell.up hs)).map Cell.lft)=(cs.take i).map (λc=>(c.cut.map (Cell.up hs)).map Cell.lft)++[(cs[i].cut.map (Cell.up hs)).map Cell.lft]:=by rw[ik,ec,aK];rfl
    rw[e,List.flatten_append];refine CosV.app ((cy.same D).keep kl) ?_;simpa using cz.keep kl
  .rintro σ H4 ⟨s4,ys,z5,rfl,fl4,Cl4,fm4,cy,ly⟩;rw[bf]at cy;obtain⟨d,hd⟩:∃d,cs.getLast?=some d:=by
    cases g:cs.getLast? with
    |none=>exact absurd (fB.mp g) (kj ch)
    |some d=>exact⟨d,rfl⟩
   have cpos:=List.length_pos_iff.mpr (kj ch);have ed:cs[cs.length-1]?=some d:=by rw[<-dS];exact hd
   have el:=(Yh ch _ _ ed).2;rw[show cs.length-1+1=us.length-1 by lia]at el;have ul:us[us.length-1]?=some us[us.length-1]:=aa ⋯;obtain⟨qc,W,ec,fc,a4⟩:=Cl4.2 _ _ _ ul el;rw[ec]at ul;have ad:atI us (-1)=some (.ref qc):=xj8 ul;have Z:=xm ch _ (aE ed);obtain⟨b1,b2⟩:=Z.2.2.2.2.2;have ah:atI (hs.map V.int) d.rgt.2=some (V.int (hAt hs d.rgt.2)):=qxc b1 (by show d.b<_;lia);refine exI rfl (exI rfl (exI rfl (exX rfl rfl (SqL.of fl4) ad (exX rfl rfl (SqT.of fc) rfl (exI rfl (exI rfl (exI rfl (exX rfl rfl (SqL.of fl4) ad (exX rfl rfl (SqT.of fc) rfl (exX rfl rfl (s4.sql hS) ah ⟨sz2,λJ n5=>?_⟩))))))))));have D:=Same.upd (o:=.tup [.ref W,.int (hAt hs d.rgt.2)]) n5;have f5:upd H4 J (.tup [.ref W,.int (hAt hs d.rgt.2)]) J=some (.tup [.ref W,.int (hAt hs d.rgt.2)]):=qu;generalize upd H4 J (.tup [.ref W,.int (hAt hs d.rgt.2)])=H5 at D f5;refine⟨sz1,λp6 n6=>?_⟩;have s6:=Same.upd (H:=H5) (o:=.lst [.ref J]) n6;refine⟨pm,p6,_,_,rfl,rfl,s6 _ _ (D _ _ fm4),qu,by simp only[aJ,da];lia,λp7 n7=>?_⟩;have s7:=Same.upd (H:=upd H5 p6 (.lst [.ref J])) (o:=.lst (ys++[.ref J])) n7;have t7:=D.trans (s6.trans s7);refine⟨s4.trans t7,p7,_,_,_,_,rfl,j5 (s4.trans (D.trans s6)) n7,qu,?_⟩;show CosV _ _ (zm (kg hs (xk hs t)));rw[hcs,wyd L ch hd];exact(cy.same t7).app (.one ⟨J,W,rfl,(s6.trans s7) _ _ f5,t7 _ _ a4⟩)
 .rintro σ H3 ⟨U,z,us,z3,z4,z5,rfl,nl,fl,Cl⟩;rw[show(m-1).toNat=m.toNat-1 by lia]at Cl;exact exI rfl (k z us H3 nl U fl Cl)
def itL (hs:List Int)(B:Int):Nat->Int->Int
 |0,x=>x
 |t+1,x=>x9 hs (itL hs B t x) B
theorem Wy {parts part j:Int}(hB:1<=B)(hp:1<=parts)(p0:0<=part)(p1:part<=parts)(j0:0<=j)(j1:j<(hs.length:Int)-1)(e:parts*y=(j*parts+part)*B) :
  parts*x9 hs y B=(hAt hs j*parts+(hAt hs (j+1)-hAt hs j)*part)*B:=by
 have D:=aX p0 (show 0<=B by lia);have z:=aj p1 (show 0<=B by lia);have h1:j*B<=y:=by refine cx (a:=parts) ?_ ⋯;rw[e,show(j*parts+part)*B=parts*(j*B)+part*B by grind];lia
 have h2:y<=(j+1)*B:=by refine cx (a:=parts) ?_ ⋯;rw[e,show(j*parts+part)*B=parts*(j*B)+part*B by grind,show parts*((j+1)*B)=parts*(j*B)+parts*B by grind];lia
 rw[vh j0 j1 hB h1 h2];generalize hAt hs j=u;generalize hAt hs (j+1)=v;grind
theorem xxv (ok:qt hs){B y parts a:Int}(hB:1<=B)(hp:1<=parts)(a0:0<=a)(a1:a<=(hs.length:Int)-1)(e:parts*y=a*parts*B):parts*x9 hs y B=hAt hs a*parts*B:=by
 have D:=ok.1;rcases(by lia:a<(hs.length:Int)-1\/a=(hs.length:Int)-1) with z|z
 .have:=Wy (hs:=hs) hB hp (show(0:Int)<=0 by lia) ⋯ a0 z (by rw[e];grind);rw[this];grind
 .have:=Wy (hs:=hs) (j:=a-1) hB hp (show 0<=parts by lia) (bV _) ⋯ ⋯ (by rw[e];grind);rw[this,show a-1+1=a by lia];grind
theorem cellV (ok:qt hs):∀(t:Nat) (c:Cell),c∈xk hs t->∀(B parts part top:Int),1<=B->1<=parts->0<=part->part<=parts->c.S*parts*top=(c.u*parts+part)*B->parts*itL hs B (t+1) top=(c.a*parts+(c.b-c.a)*part)*B
 |0,c,hc,B,parts,part,top,hB,hp,p0,p1,e=>by have o1:=ok.1;obtain⟨k,hk,rfl⟩:=az.mp (show c∈jd hs from hc);have hk':=al.mp hk;have e':(1:Int)*parts*top=((k:Int)*parts+part)*B:=e;show parts*x9 hs top B=(hAt hs k*parts+(hAt hs (k+1)-hAt hs k)*part)*B;exact Wy hB hp p0 p1 ⋯ ⋯ (by rw[<-e',aS])
 |t+1,c',hc,B,parts,part,top,hB,hp,p0,p1,e=>by
  have o1:=ok.1;have hc2:c'∈((xk hs t).map λc=>c.cut.map (Cell.up hs)).flatten:=hc;obtain⟨l,hl,hcl⟩:=gJ.mp hc2;obtain⟨c,hcc,rfl⟩:=az.mp hl;obtain⟨d,hd,rfl⟩:=az.mp hcl;obtain⟨k,hk,rfl⟩:=az.mp hd;have hk':=al.mp hk;obtain⟨_,_,_,_,g5,g6⟩:=xm (kn ok t) c hcc;have hD:=qk8 c;have sm:=qj9 c;have d1:=wkq c (n:=(hs.length:Int)-1) (k:=k) ⋯ g5 g6;have d2:=wkq c (n:=(hs.length:Int)-1) (k:=k+1) ⋯ g5 g6;have sgc:c.sg=1\/c.sg=-1\/c.sg=0:=by
   unfold Cell.sg;split
   .exact .inl rfl
   .split
    .exact .inr (.inl rfl)
    .exact .inr (.inr rfl)
  have e':c.S*(c.D:Int)*parts*top=((c.u*(c.D:Int)+k)*parts+part)*B:=e;have Z:=aX (show(0:Int)<=k by lia) (show 0<=parts by lia);have W:((k:Int)+1)*parts<=(c.D:Int)*parts:=aj ⋯ ⋯;have U:1*1<=(c.D:Int)*parts:=br ⋯ hp ⋯ ⋯;have L:((k:Int)+1)*parts=k*parts+parts:=by grind
  have J:=cellV ok t c hcc B ((c.D:Int)*parts) (k*parts+part) top hB ⋯ ⋯ ⋯ (by grind);have F:parts*itL hs B (t+1) top=((c.a+c.sg*k)*parts+c.sg*part)*B:=by
   refine bT (a:=(c.D:Int)) ⋯ ?_;have:c.b-c.a=c.sg*(c.D:Int):=by lia
   rw[this]at J;grind
  show parts*x9 hs (itL hs B (t+1) top) B=(hAt hs (c.a+c.sg*k)*parts+(hAt hs (c.a+c.sg*(k+1))-hAt hs (c.a+c.sg*k))*part)*B;push_cast at d2;rcases sgc with z|z|z
  .rw[z]at F d1 d2 ⊢;have:=Wy (hs:=hs) (j:=c.a+1*k) hB hp p0 p1 ⋯ ⋯ (by rw[F];grind);rw[this,show c.a+1*(k:Int)+1=c.a+1*((k:Int)+1) by lia]
  .rw[z]at F d1 d2 ⊢;have:=Wy (hs:=hs) (j:=c.a+-1*((k:Int)+1)) (part:=parts-part) hB hp ⋯ ⋯ ⋯ ⋯ (by rw[F];grind);rw[this,show c.a+-1*((k:Int)+1)+1=c.a+-1*(k:Int) by lia];grind
  .rw[z]at F d1 d2 ⊢;have:=xxv ok (a:=c.a+0*k) hB hp ⋯ ⋯ (by rw[F];grind);rw[this,show c.a+0*((k:Int)+1)=c.a+0*(k:Int) by lia];grind
theorem xqx (hS:1<=c.S)(parts part:Int):c.S*parts*(c.lft.1.1*c.rgt.1.2*parts+(c.rgt.1.1*c.lft.1.2-c.lft.1.1*c.rgt.1.2)*part)=(c.u*parts+part)*(c.lft.1.2*c.rgt.1.2*parts):=by have D:=zu (t:=c.u) hS;have z:=zu (t:=c.u+1) hS;show c.S*parts*((wv c.u c.S).1*(wv (c.u+1) c.S).2*parts+((wv (c.u+1) c.S).1*(wv c.u c.S).2-(wv c.u c.S).1*(wv (c.u+1) c.S).2)*part)=(c.u*parts+part)*((wv c.u c.S).2*(wv (c.u+1) c.S).2*parts);generalize (wv c.u c.S).1=t1 at D ⊢;generalize (wv c.u c.S).2=b1 at D ⊢;generalize (wv (c.u+1) c.S).1=t2 at z ⊢;generalize (wv (c.u+1) c.S).2=b2 at z ⊢;grind
theorem xj5 {parts part top:Int}(h:Jq ((hs.length:Int)-1) M c)(hB:1<=B)(hp:1<=parts)(p0:0<=part)(p1:part<=parts)(e:c.S*parts*top=(c.u*parts+part)*B):x6 hs top B:=by
 obtain⟨D,_,z,u1,_,_⟩:=h;have J:1<=c.S*parts:=by have:=br D hp ⋯ ⋯;simpa using this
 have F:=aX z (show 0<=parts by lia);constructor
 .refine cx (a:=c.S*parts) ?_ ⋯;rw[e,dk];exact aX ⋯ ⋯
 .refine cx (a:=c.S*parts) ?_ ⋯;rw[e,show c.S*parts*(((hs.length:Int)-1)*B)=((hs.length:Int)-1)*c.S*parts*B by grind];refine aj ?_ ⋯;have:=aj u1 (show 0<=parts by lia);have L:(c.u+1)*parts=c.u*parts+parts:=by grind
  lia
theorem wum (n:Nat)(g:Nat->Int):vw (n+1) g=g 0+vw n λk=>g (k+1):=by unfold vw x8;rw[List.range_succ_eq_map,aC,bi,aN];rfl
theorem qk3 (n:Nat)(g:Nat->Int):vw (n+1) g=vw n g+g n:=by unfold vw;rw[vk,bZ];simp
theorem wyq (f:Nat->Int):∀d:Nat,(vw d λk=>f (d-1-k))=vw d f
 |0=>rfl
 |d+1=>by rw[wum,qk3,<-wyq f d,Int.add_comm];congr 1;refine jy λk hk=>?_;show f (d-(k+1))=f (d-1-k);rw[Nat.add_comm k 1,Nat.sub_add_eq]
def cvS (hs:List Int)(s:Nat)(a b:Int):Int:=vw (b-a).natAbs λj:Nat=>zy hs s (jj a b+j)
theorem xz6 (hs:List Int)(s:Nat)(a b:Int):cvS hs s a b=cvS hs s b a:=by unfold cvS;rw[show(b-a).natAbs=(a-b).natAbs by lia,show jj a b=jj b a by unfold jj;split <;> split <;> lia]
theorem wvp (hs:List Int)(s:Nat)(k:Int):zy hs (s+1) k=cvS hs s (hAt hs k) (hAt hs (k+1)):=by show((zg hs k).map (zy hs s)).sum=_;unfold zg cvS vw x8;rw[aN,show(hiH hs k-loH hs k).toNat=(hAt hs (k+1)-hAt hs k).natAbs by unfold hiH loH yp jj;split <;> split <;> lia];rfl
theorem cut_cv (hs:List Int)(s:Nat)(c:Cell):((c.cut.map (Cell.up hs)).map λc=>cvS hs s c.a c.b).sum=cvS hs (s+1) c.a c.b:=by
 unfold Cell.cut;rw[aN,aN];show(x8 c.D λk:Nat=>cvS hs s (hAt hs (c.a+c.sg*k)) (hAt hs (c.a+c.sg*(k+1)))).sum=_;rcases gC c.a c.b with z|z|z
 .have J:c.sg=1:=by unfold Cell.sg;rw[aw z]
  have F:c.D=(c.b-c.a).natAbs:=by unfold Cell.D;rw[ar ⋯]
  have L:jj c.a c.b=c.a:=by unfold jj;rw[ar ⋯]
  unfold cvS;rw[J,F,L];show vw _ _=vw _ _;refine jy λk _=>?_;have:=wvp hs s (c.a+k);unfold cvS at this;rw[this,aS,aS,jV]
 .have F:c.D=1:=by unfold Cell.D;rw[aw ⋯]
  have J:c.sg=0:=by unfold Cell.sg;rw[ar ⋯,ar ⋯]
  rw[F,J];have U:∀(n:Nat) (x y:Int),x=y->cvS hs n x y=0:=λn x y e=>by unfold cvS;rw[show(y-x).natAbs=0 by lia];rfl
  rw[U _ _ _ z];show cvS hs s (hAt hs (c.a+0*((0:Nat):Int))) (hAt hs (c.a+0*(((0:Nat):Int)+1)))+0=0;rw[U _ _ _ (by rw[hU,hU])];rfl
 .have J:c.sg=-1:=by unfold Cell.sg;rw[ar ⋯,aw z]
  have F:c.D=(c.b-c.a).natAbs:=by unfold Cell.D;rw[ar ⋯]
  have L:jj c.a c.b=c.b:=by unfold jj;rw[aw z]
  have W:cvS hs (s+1) c.a c.b=vw (c.b-c.a).natAbs λj:Nat=>zy hs (s+1) (c.b+j):=by unfold cvS;rw[L]
  rw[J,F,W,<-wyq];show vw _ _=vw _ _;refine jy λk Z=>?_;rw[wvp,xz6];congr 2 <;> lia
theorem wj1 (hs:List Int)(s:Nat):∀cs:List Cell,((kg hs cs).map λc=>cvS hs s c.a c.b).sum=(cs.map λc=>cvS hs (s+1) c.a c.b).sum
 |[]=>rfl
 |c::cs=>by
  have e:kg hs (c::cs)=c.cut.map (Cell.up hs)++kg hs cs:=by unfold kg;rw[aC,dW]
  rw[e,aK,bZ,wj1 hs s cs,cut_cv,aC,bi]
theorem T_cv (hs:List Int):∀(t s:Nat),((xk hs t).map λc=>cvS hs s c.a c.b).sum=crS hs (s+t+1)
 |0,s=>by show((jd hs).map λc=>cvS hs s c.a c.b).sum=_;unfold jd crS x8;rw[aN];congr 1;exact bw λk _=>(wvp hs s k).symm
 |t+1,s=>by show((kg hs (xk hs t)).map λc=>cvS hs s c.a c.b).sum=_;rw[wj1,T_cv hs t (s+1)];congr 1;lia
theorem xyy (hs:List Int)(a b:Int):cvS hs 0 a b=((b-a).natAbs:Int):=by
 unfold cvS;generalize (b-a).natAbs=n
 induction n with
 |zero=>rfl
 |succ n ih=>rw[qk3,ih];show(n:Int)+1=_;lia
theorem qjh (hs:List Int):∀cs:List Cell,((kg hs cs).length:Int)<=(cs.map λc=>cvS hs 0 c.a c.b).sum+cs.length
 |[]=>bV _
 |c::cs=>by
  have ih:=qjh hs cs;have e:kg hs (c::cs)=c.cut.map (Cell.up hs)++kg hs cs:=by unfold kg;rw[aC,dW]
  have z:(c.cut.map (Cell.up hs)).length=c.D:=by unfold Cell.cut;rw[af,af,ay]
  have F:(c.D:Int)<=((c.b-c.a).natAbs:Int)+1:=by unfold Cell.D;split <;> lia
  rw[e,au,z,aC,bi,aJ,xyy];lia
theorem qx2 (ok:qt hs){x:Int}(h:∀i:Nat,1<=i->(i:Int)<x->crS hs (i+1)<=300):∀t:Nat,(t:Int)<x->((xk hs t).length:Int)<=24+(if t=0 then 0 else 576+300*((t:Int)-1))
 |0,_=>by have:=ok.2.1;show(((jd hs).length:Nat):Int)<=_;unfold jd;rw[af,ay,aw rfl];lia
 |t+1,ht=>by
  have ih:=qx2 ok h t ⋯;have n:=qjh hs (xk hs t);rw[T_cv,cW]at n;have e:xk hs (t+1)=kg hs (xk hs t):=rfl;rw[e,ar ⋯];rcases(by lia:t=0\/1<=t) with z|z
  .subst z;have:=xxf ok;rw[aw rfl]at ih;simp only[cW]at n;lia
  .have:=h t z ⋯;rw[ar ⋯]at ih;lia
theorem wy0 (ok:qt hs){x:Int}(x1:1<=x)(x2:x<=12)(h:∀i:Nat,1<=i->(i:Int)<x->crS hs (i+1)<=300):(zm (xk hs (x.toNat-1))).length<=4000:=by rw[W1 (kj (kn ok _))];have:=qx2 ok h (x.toNat-1) ⋯;split at this <;> lia
def InC (c:Cell)(P:Int×Int):Prop:=c.u*P.2<=c.S*P.1/\c.S*P.1<=(c.u+1)*P.2
def Cell.o1 (c:Cell):Int:=c.S*c.a-c.u
def Cell.o2 (c:Cell):Int:=c.S*c.b-(c.u+1)
theorem xzk (hs:List Int)(B x:Int):∀n:Nat,itL hs B n x=trT hs x B n
 |0=>rfl
 |n+1=>by show x9 hs (itL hs B n x) B=x9 hs (trT hs x B n) B;rw[xzk hs B x n]
theorem fixC (ok:qt hs){t:Nat}{c:Cell}(hc:c∈xk hs t){p q:Int}(hb:1<=q)(hi:InC c (p,q)):trT hs p q (t+1)=p↔(q-(c.S*p-c.u*q))*c.o1+(c.S*p-c.u*q)*c.o2=0:=by
 have F:1<=c.S:=(xm (kn ok t) c hc).1;have D:c.u*q<=c.S*p:=hi.1;have i2:c.S*p<=(c.u+1)*q:=hi.2;rw[be,aS]at i2;have v:=cellV ok t c hc q q (c.S*p-c.u*q) p hb hb ⋯ ⋯ (by grind);rw[xzk]at v;have e:trT hs p q (t+1)=c.a*q+(c.b-c.a)*(c.S*p-c.u*q):=bT (a:=q) ⋯ (by rw[v,bj]);rw[e];have id:(q-(c.S*p-c.u*q))*c.o1+(c.S*p-c.u*q)*c.o2=c.S*(c.a*q+(c.b-c.a)*(c.S*p-c.u*q)-p):=by unfold Cell.o1 Cell.o2;grind
 rw[id];constructor
 .intro z;rw[z,Int.sub_self,dk]
 .intro z;rcases dC.mp z with y|y <;> lia
theorem inC_on {p q:Int}(h:Jq ((hs.length:Int)-1) M c)(hb:1<=q)(hi:InC c (p,q)):x6 hs p q:=by have z:c.u*q<=c.S*p:=hi.1;have i2:c.S*p<=(c.u+1)*q:=hi.2;rw[be,aS]at i2;exact xj5 (part:=c.S*p-c.u*q) h hb hb ⋯ ⋯ (by grind)
def Cell.Wh (c:Cell):Prop:=c.o1=0/\c.o2=0
theorem Y7 (hS:1<=c.S)(h:c.Wh):c.S=1/\c.u=c.a/\c.b=c.a+1:=by
 obtain⟨h1,h2⟩:=h;unfold Cell.o1 at h1;unfold Cell.o2 at h2;have e:c.S*(c.b-c.a)=1:=by rw[fZ];lia
 have F:1<=c.b-c.a:=by
  rcases bh 0 (c.b-c.a) with z|z
  .lia
  .have:=cR (show 0<=c.S by lia) z;lia
 have:=aR F (show 0<=c.S by lia);have D:c.S=1:=by lia
 rw[D]at h1 e;lia
theorem wz7 (hS:1<=c.S):(c.lft.1=(c.lft.2,1)/\c.rgt.1=(c.rgt.2,1))↔c.Wh:=by
 have z:∀u a:Int,wv u c.S=(a,1)↔c.S*a-u=0:=λu a=>by
  constructor
  .intro e;have:=zu (t:=u) hS;rw[e]at this;have this:a*c.S=u*1:=this;rw[bj c.S];lia
  .intro e;have:u=a*c.S:=by rw[bj];lia
   have D:=Qm (t:=a) (b:=1) (c:=c.S) ⋯ hS;rw[aS]at D;rw[this,D,qy6]
 exact and_congr (z c.u c.a) (z (c.u+1) c.b)
theorem wjn {D:Nat}{e:Int}(hb:1<=b)(hD:1<=D)(e0:0<=e)(e1:e<=D*b):∃k:Nat,k<D/\(k:Int)*b<=e/\e<=((k:Int)+1)*b:=by
 rcases bh e (D*b) with z|z
 .have h1:=eQ e b;have h2:=bY e (show b≠0 by lia);have L:=bM e (show 0<b by lia);have F:=fI e0 (show 0<=b by lia);have J:e/b<D:=by
   rcases bh (e/b) D with y|y
   .exact y
   .have:=aj y (show 0<=b by lia);rw[bj (e/b)]at this;lia
  refine⟨(e/b).toNat,⋯,?_,?_⟩
  .rw[bR F,bj];lia
  .rw[bR F,be,aS,bj];lia
 .refine⟨D-1,⋯,?_,?_⟩
  .have:=aj (show((D-1:Nat):Int)<=D by lia) (show 0<=b by lia);lia
  .rw[show((D-1:Nat):Int)+1=D by lia];exact e1
theorem wzx (ok:qt hs){p q:Int}(hb:1<=q)(on:x6 hs p q):∀t:Nat,∃c∈xk hs t,InC c (p,q)
 |0=>by
  have o1:=ok.1;obtain⟨k,hk,k1,k2⟩:=wjn (D:=hs.length-1) hb ⋯ on.1 (by have:=on.2;rwa [show((hs.length-1:Nat):Int)=(hs.length:Int)-1 by lia]);refine⟨⟨k,1,hAt hs k,hAt hs (k+1)⟩,az.mpr ⟨k,al.mpr hk,rfl⟩,?_,?_⟩
  .show(k:Int)*q<=1*p;lia
  .show 1*p<=((k:Int)+1)*q;lia
 |t+1=>by
  obtain⟨c,hc,i1,i2⟩:=wzx ok hb on t;have i1:c.u*q<=c.S*p:=i1;have i2:c.S*p<=(c.u+1)*q:=i2;rw[be,aS]at i2;have hD:=qk8 c;have m1:=aX (show(0:Int)<=c.D by lia) (show 0<=c.S*p-c.u*q by lia);have m2:=aR (show c.S*p-c.u*q<=q by lia) (show(0:Int)<=c.D by lia);obtain⟨k,hk,k1,k2⟩:=wjn (D:=c.D) (e:=(c.D:Int)*(c.S*p-c.u*q)) hb hD m1 m2;refine⟨⟨c.u*c.D+k,c.S*c.D,hAt hs (c.a+c.sg*k),hAt hs (c.a+c.sg*(k+1))⟩,gJ.mpr ⟨c.cut.map (Cell.up hs),az.mpr ⟨c,hc,rfl⟩,az.mpr ⟨_,az.mpr ⟨k,al.mpr hk,rfl⟩,rfl⟩⟩,?_,?_⟩
  .show(c.u*c.D+k)*q<=c.S*c.D*p;rw[show c.S*(c.D:Int)*p=(c.D:Int)*(c.S*p-c.u*q)+c.u*c.D*q by grind,be];lia
  .show c.S*c.D*p<=(c.u*c.D+k+1)*q;rw[show c.S*(c.D:Int)*p=(c.D:Int)*(c.S*p-c.u*q)+c.u*c.D*q by grind,jV,be];lia
theorem wxd {n:Int}:∀ {cs:List Cell},jn n M cs->cs.Pairwise λc d=>(c.u+1)*d.S<=d.u*c.S
 |[],h=>h.elim
 |[c],_=>cU _ _
 |c::d::r,h=>by
  have ih:=wxd h.2.2;refine iw.mpr ⟨λe he=>?_,ih⟩;have gd:=xm h.2.2 d (by simp);have e1:(c.u+1)*d.S=d.u*c.S:=(yq h.1.1 gd.1).mpr (b7 Prod.fst h.2.1);rcases aO.mp he with rfl|hr
  .lia
  .have e2:=(iw.mp ih).1 e hr;have ge:=xm h.2.2 e (bG _ hr);refine dQ (a:=d.S) ?_ (by have:=gd.1;lia);have e3:=aj e2 (show 0<=c.S by have:=h.1.1;lia);have e4:=aX (show 0<=e.S by have:=ge.1;lia) (show 0<=c.S by have:=h.1.1;lia);rw[show(c.u+1)*e.S*d.S=(c.u+1)*d.S*e.S by grind,e1,show e.u*c.S*d.S=e.u*d.S*c.S by grind];rw[show(d.u+1)*e.S*c.S=d.u*c.S*e.S+e.S*c.S by grind]at e3;lia
theorem inC_le {P Q:Int×Int}(hc:1<=c.S)(hd:1<=d.S)(hP:1<=P.2)(hQ:1<=Q.2)(h:(c.u+1)*d.S<=d.u*c.S)(i:InC c P)(j:InC d Q):P.1*Q.2<=Q.1*P.2:=by have i2:=i.2;have J:=j.1;have cd:0<c.S*d.S:=eY ⋯ ⋯;refine cx (a:=c.S*d.S) ?_ cd;have F:0<=Q.2*d.S:=aX ⋯ ⋯;have D:0<=P.2*Q.2:=aX ⋯ ⋯;have z:0<=P.2*c.S:=aX ⋯ ⋯;have U:=aj i2 F;have W:=aj h D;have L:=aj J z;rw[show c.S*d.S*(P.1*Q.2)=c.S*P.1*(Q.2*d.S) by grind,show c.S*d.S*(Q.1*P.2)=d.S*Q.1*(P.2*c.S) by grind];rw[show(c.u+1)*P.2*(Q.2*d.S)=(c.u+1)*d.S*(P.2*Q.2) by grind]at U;rw[show d.u*Q.2*(P.2*c.S)=d.u*c.S*(P.2*Q.2) by grind]at L;lia
theorem xjj (hc:1<=c.S)(h:(c.u+1)*d.S<=d.u*c.S)(wc:c.Wh)(wd:d.Wh)(hd:1<=d.S):c.a<d.a:=by obtain⟨a1,a2,a3⟩:=Y7 hc wc;obtain⟨b1,b2,b3⟩:=Y7 hd wd;rw[a1,b1]at h;lia
theorem wqh (ok:qt hs):∀(t:Nat) (c:Cell),c∈xk hs t->c.S=1->(c.b-c.a).natAbs=1->∃(x:Nat->Int) (d:Nat->Bool),x 0=c.u/\(∀i,i<t+1->Q7 hs (x i) (x (i+1)) (d i))/\c.a=x (t+1)+(if jp d (t+1)=true then 1 else 0)/\c.b=x (t+1)+(if jp d (t+1)=true then 0 else 1)
 |0,c,hc,_,d1=>by
  obtain⟨k,hk,rfl⟩:=az.mp (show c∈jd hs from hc);have hk':=al.mp hk;have d1:(hAt hs (k+1)-hAt hs k).natAbs=1:=d1;have o1:=ok.1;show ∃(x:Nat->Int) (d:Nat->Bool),x 0=(k:Int)/\(∀i,i<0+1->Q7 hs (x i) (x (i+1)) (d i))/\hAt hs k=x (0+1)+(if jp d (0+1)=true then 1 else 0)/\hAt hs (k+1)=x (0+1)+(if jp d (0+1)=true then 0 else 1);by_cases z:hAt hs k>hAt hs (k+1)
  .refine⟨λi=>if i=0 then k else hAt hs (k+1),λ_=>true,rfl,λi hi=>?_,?_,?_⟩
   .obtain rfl:i=0:=by lia
    exact⟨⟨by show(0:Int)<=k;lia,by show(k:Int)<_;lia⟩,by show hAt hs k=hAt hs (k+1)+1;lia,by show hAt hs (k+1)=hAt hs (k+1)+0;lia⟩
   .show hAt hs k=hAt hs (k+1)+1;lia
   .show hAt hs (k+1)=hAt hs (k+1)+0;lia
  .refine⟨λi=>if i=0 then k else hAt hs k,λ_=>false,rfl,λi hi=>?_,?_,?_⟩
   .obtain rfl:i=0:=by lia
    exact⟨⟨by show(0:Int)<=k;lia,by show(k:Int)<_;lia⟩,by show hAt hs k=hAt hs k+0;lia,by show hAt hs (k+1)=hAt hs k+1;lia⟩
   .show hAt hs k=hAt hs k+0;lia
   .show hAt hs (k+1)=hAt hs k+1;lia
 |t+1,c',hc,s1,d1=>by
  obtain⟨l,hl,hcl⟩:=gJ.mp (show c'∈((xk hs t).map λc=>c.cut.map (Cell.up hs)).flatten from hc);obtain⟨c,hcc,rfl⟩:=az.mp hl;obtain⟨d,hd,rfl⟩:=az.mp hcl;obtain⟨k,hk,rfl⟩:=az.mp hd;have hk':=al.mp hk;obtain⟨g1,_,_,_,g5,g6⟩:=xm (kn ok t) c hcc;have hD:=qk8 c;have s1:c.S*(c.D:Int)=1:=s1;have sD:c.S=1/\c.D=1:=by have a:=aR (show(1:Int)<=c.D by lia) (show 0<=c.S by lia);have b:=aj g1 (show(0:Int)<=c.D by lia);lia
  obtain⟨sS,eD⟩:=sD;obtain rfl:k=0:=by lia
  have sm:=qj9 c;rw[eD]at sm;have d1:(hAt hs (c.a+c.sg*(((0:Nat):Int)+1))-hAt hs (c.a+c.sg*((0:Nat):Int))).natAbs=1:=d1;have e0:c.a+c.sg*((0:Nat):Int)=c.a:=by simp
  have e1:c.a+c.sg*(((0:Nat):Int)+1)=c.b:=by rw[<-sm];rfl
  rw[e0,e1]at d1;have nz:(c.b-c.a).natAbs=1:=by
   have hE:=eD;unfold Cell.D at hE;split at hE
   .rename_i z;rw[show c.b=c.a by lia]at d1;simp at d1
   .exact hE
  obtain⟨x,f,x0,un,ea,eb⟩:=wqh ok t c hcc sS nz;show ∃(x:Nat->Int) (d:Nat->Bool),x 0=c.u*(c.D:Int)+((0:Nat):Int)/\(∀i,i<t+1+1->Q7 hs (x i) (x (i+1)) (d i))/\hAt hs (c.a+c.sg*((0:Nat):Int))=x (t+1+1)+(if jp d (t+1+1)=true then 1 else 0)/\hAt hs (c.a+c.sg*(((0:Nat):Int)+1))=x (t+1+1)+(if jp d (t+1+1)=true then 0 else 1);rw[e0,e1,eD];have y0:0<=x (t+1)/\x (t+1)<(hs.length:Int)-1:=by split at ea <;> split at eb <;> lia
  let b:Bool:=decide (hAt hs (x (t+1))>hAt hs (x (t+1)+1));let y:Int:=if b=true then hAt hs (x (t+1)+1) else hAt hs (x (t+1))
  have dd:(hAt hs (x (t+1)+1)-hAt hs (x (t+1))).natAbs=1:=by split at ea <;> split at eb <;> first | (rename_i q1 q2;exact absurd q1 q2) | (rename_i q1 q2;exact absurd q2 q1) | (rw[ea,eb,dI]at d1;lia)
  have uy:Q7 hs (x (t+1)) y b:=by
   refine⟨y0,?_,?_⟩
   .show _=(if b=true then hAt hs (x (t+1)+1) else hAt hs (x (t+1)))+_;by_cases z:hAt hs (x (t+1))>hAt hs (x (t+1)+1)
    .rw[show b=true from aF z,aw rfl,aw rfl];lia
    .rw[show b=false from aT z,ar ⋯,ar ⋯];lia
   .show _=(if b=true then hAt hs (x (t+1)+1) else hAt hs (x (t+1)))+_;by_cases z:hAt hs (x (t+1))>hAt hs (x (t+1)+1)
    .rw[show b=true from aF z,aw rfl,aw rfl];lia
    .rw[show b=false from aT z,ar ⋯,ar ⋯];lia
  generalize y=y at uy;generalize b=b at uy;let F:Nat->Bool:=λi=>if i<=t then f i else b
  have sg:∀i,i<=t+1->jp F i=jp f i:=λi=>by
   induction i with
   |zero=>intro _;rfl
   |succ i ih =>
    intro hi;show Bool.xor (jp F i) (if i<=t then f i else b)=Bool.xor (jp f i) (f i);rw[ih ⋯,aw ⋯]
  have sg2:jp F (t+1+1)=Bool.xor (jp f (t+1)) b:=by show Bool.xor (jp F (t+1)) (if t+1<=t then f (t+1) else b)=_;rw[sg _ (ak _),ar ⋯]
  refine⟨λi=>if i<=t+1 then x i else y,F,?_,λi hi=>?_,?_⟩
  .show(if 0<=t+1 then x 0 else y)=_;rw[aw ⋯,x0];simp
  .show Q7 hs (if i<=t+1 then x i else y) (if i+1<=t+1 then x (i+1) else y) (if i<=t then f i else b);by_cases z:i<=t
   .rw[aw ⋯,aw ⋯,aw z];exact un i ⋯
   .obtain rfl:i=t+1:=by lia
    rw[aw ⋯,ar ⋯,ar ⋯];exact uy
  .rw[sg2];show hAt hs c.a=(if t+1+1<=t+1 then x (t+1+1) else y)+_/\hAt hs c.b=(if t+1+1<=t+1 then x (t+1+1) else y)+_;rw[ar ⋯];obtain⟨_,u1,u2⟩:=uy;cases hz:jp f (t+1) with
   |false =>
    rw[hz,ar ⋯]at ea;rw[hz,ar ⋯]at eb;rw[ea,eb,dI,u1,u2,Bool.false_xor];exact⟨rfl,rfl⟩
   |true =>
    rw[hz,aw rfl]at ea;rw[hz,aw rfl]at eb;rw[ea,eb,dI,u1,u2,Bool.true_xor];cases b <;> exact⟨rfl,rfl⟩
theorem wxy (ok:qt hs):∀(t:Nat) (c:Cell),c∈xk hs t->∃j:Int,j*c.S<=c.u/\c.u+1<=(j+1)*c.S
 |0,c,hc=>by obtain⟨k,hk,rfl⟩:=az.mp (show c∈jd hs from hc);exact⟨k,by show(k:Int)*1<=k;lia,by show(k:Int)+1<=(k+1)*1;lia⟩
 |t+1,c',hc=>by
  obtain⟨l,hl,hcl⟩:=gJ.mp (show c'∈((xk hs t).map λc=>c.cut.map (Cell.up hs)).flatten from hc);obtain⟨c,hcc,rfl⟩:=az.mp hl;obtain⟨d,hd,rfl⟩:=az.mp hcl;obtain⟨k,hk,rfl⟩:=az.mp hd;have hk':=al.mp hk;obtain⟨j,j1,j2⟩:=wxy ok t c hcc;have a1:=aj j1 (show(0:Int)<=c.D by lia);have a2:=aj j2 (show(0:Int)<=c.D by lia);refine⟨j,?_,?_⟩
  .show j*(c.S*c.D)<=c.u*c.D+k;rw[<-gK];lia
  .show c.u*c.D+k+1<=(j+1)*(c.S*c.D);rw[<-gK];rw[be,aS]at a2;lia
theorem qkm (ok:qt hs){t:Nat}(t11:t<=11)(v:Int):kh hs (t+1) v↔∃c∈xk hs t,c.Wh/\v=c.a:=by
 constructor
 .rintro⟨r,hr,W,rfl⟩;have c:=(vm ok ⋯).mp hr;have cl:=jt ⋯ ⋯ c;have rg:0<=r.getD 0 0/\r.getD 0 0<(hs.length:Int)-1:=by
   have hl:0<r.length:=by rw[c.1];lia
   refine c.2.1 _ ?_;rw[ae,aa hl];exact bD hl
  have U:∀p q:Int,1<=q->r.getD 0 0*q<=p->p<=(r.getD 0 0+1)*q->trT hs p q (t+1)=p:=λp q hq h1 h2=>by have:=Z3 cl W hq (by rw[uq];exact h1) (by rw[uq];exact h2);rwa [c.1]at this
  generalize r.getD 0 0=k at rg U;obtain⟨d,F,L,i2⟩:=wzx ok (p:=2*k+1) (q:=2) ⋯ ⟨⋯,⋯⟩ t;have L:d.u*2<=d.S*(2*k+1):=L;have i2:d.S*(2*k+1)<=(d.u+1)*2:=i2;have gd:=xm (kn ok t) d F;have D:=gd.1;obtain⟨j,j1,j2⟩:=wxy ok t d F;have jk:j=k:=by
   have W:d.S*(2*j)<=d.S*(2*k+1):=by rw[show d.S*(2*j)=j*d.S*2 by grind];lia
   have a2:d.S*(2*k+1)<=d.S*(2*(j+1)):=by rw[show d.S*(2*(j+1))=(j+1)*d.S*2 by grind];lia
   have b1:=cx W ⋯;have b2:=cx a2 ⋯;lia
  subst jk;have f1:=(fixC ok F (p:=d.u) (q:=d.S) D ⟨by show d.u*d.S<=d.S*d.u;rw[bj];exact bV _,by show d.S*d.u<=(d.u+1)*d.S;rw[be,bj];lia⟩).mp (U _ _ D j1 ⋯);have f2:=(fixC ok F (p:=d.u+1) (q:=d.S) D ⟨by show d.u*d.S<=d.S*(d.u+1);rw[jP,bj];lia,by show d.S*(d.u+1)<=(d.u+1)*d.S;rw[bj];exact bV _⟩).mp (U _ _ D ⋯ j2);rw[show d.S*d.u-d.u*d.S=0 by rw[bj];lia]at f1;rw[show d.S*(d.u+1)-d.u*d.S=d.S by rw[jP,bj];lia]at f2;have w:d.Wh:=by
   constructor
   .rcases dC.mp (show d.S*d.o1=0 by simpa using f1) with z|z <;> lia
   .rcases dC.mp (show d.S*d.o2=0 by simpa using f2) with z|z <;> lia
  obtain⟨J,Z,w3⟩:=Y7 D w;refine⟨d,F,w,?_⟩;rw[J]at L i2;lia
 .rintro⟨c,hc,w,rfl⟩;have D:=(xm (kn ok t) c hc).1;obtain⟨J,Z,w3⟩:=Y7 D w;obtain⟨x,d,x0,un,ea,eb⟩:=wqh ok t c hc J ⋯;have sg:jp d (t+1)=false:=by
   cases hz:jp d (t+1) with
   |false=>rfl
   |true=>rw[hz,aw rfl]at ea;rw[hz,aw rfl]at eb;lia
  rw[sg,ar ⋯]at ea;have:=wu1 ok (c:=x) (d:=d) (m:=t+1) ⋯ un ⋯ sg;rwa [x0,Z]at this
def FxP (hs:List Int)(m:Nat)(c:Cell)(P:Int×Int):Prop:=(1<=P.2/\gOf P.1 P.2=1)/\InC c P/\trT hs P.1 P.2 m=P.1/\¬ c.Wh
theorem wkt (ok:qt hs){t:Nat}(t11:t<=11){ws:List Int}(hw:∀v,v∈ws↔kh hs (t+1) v){P:Int×Int}(nl:v8 ws P=false):(∃c∈xk hs t,FxP hs (t+1) c P)↔uk hs (t+1) P:=by
 have U:∀k,kh hs (t+1) k->¬ (k*P.2<=P.1/\P.1<=(k+1)*P.2):=λk L z=>by have:v8 ws P=true:=cC.mpr ⟨k,(hw k).mpr L,aF z⟩;rw[nl]at this;cases this
 constructor
 .rintro⟨c,F,⟨D,g⟩,i,bk,_⟩;have J:=inC_on (xm (kn ok t) c F) D i;rcases(Qx ok ⋯ ⋯ D g J).mp bk with z|⟨k,L,l⟩
  .exact z
  .exact absurd l (U k L)
 .intro sp;obtain⟨D,g,J⟩:=Zy ok ⋯ ⋯ sp;obtain⟨c,F,i⟩:=wzx ok D J t;refine⟨c,F,⟨D,g⟩,i,(Qx ok ⋯ ⋯ D g J).mpr (.inl sp),λw=>?_⟩;obtain⟨w1,Z,w3⟩:=Y7 (xm (kn ok t) c F).1 w;refine U c.a ((qkm ok t11 _).mpr ⟨c,F,w,rfl⟩) ?_;have W:=i.1;have i2:=i.2;rw[w1,Z,aS]at W i2;exact⟨W,i2⟩
theorem xvt {P Q:Int×Int}(h1:1<=P.2)(g1:gOf P.1 P.2=1)(h2:1<=Q.2)(g2:gOf Q.1 Q.2=1)(e:P.1*Q.2=Q.1*P.2):P=Q:=by have:=(yq h1 h2).mp e;rw[jf h1 g1,jf h2 g2]at this;exact this
structure MetI (hs:List Int)(t:Nat)(i:Nat)(ks:List Int)(ms:List (Int×Int)):Prop where
 kup:ks.Pairwise (·<·)
 kmem:∀v,v∈ks↔∃c∈(xk hs t).take i,c.Wh/\v=c.a
 mup:ms.Pairwise λP Q=>P.1*Q.2<=Q.1*P.2
 mmem:∀P,P∈ms↔∃c∈(xk hs t).take i,FxP hs (t+1) c P
theorem MetI.nil {t:Nat}:MetI hs t 0 [] []:=⟨.nil,λv=>⟨λz=>(by cases z),λ⟨_,h,_⟩=>(by cases h)⟩,.nil,λv=>⟨λz=>(by cases z),λ⟨_,h,_⟩=>(by cases h)⟩⟩
theorem vv {l:List α}{c:α}(e:l[i]?=some c)(x:α):x∈l.take (i+1)↔x∈l.take i\/x=c:=by rw[ik,e];simp
theorem wkm {R:α->α->Prop}{l:List α}(h:l.Pairwise R){i:Nat}{c:α}(e:l[i]?=some c){x:α}(hx:x∈l.take i):R x c:=by obtain⟨j,z,rfl⟩:=cE hx;rw[bC]at z;rw[iE];have:=ba.mp h j i ⋯ (am.mp e).1 ⋯;rwa [(am.mp e).2]at this
theorem MetI.step (ok:qt hs){t i:Nat}{ks:List Int}{ms:List (Int×Int)}(h:MetI hs t i ks ms){c:Cell}(e:(xk hs t)[i]?=some c){ks':List Int}(hk:(c.Wh/\ks'=ks++[c.a])\/(¬ c.Wh/\ks'=ks)){L:List (Int×Int)}(hl:L.length<=1)(hL:∀P,P∈L↔FxP hs (t+1) c P):MetI hs t (i+1) ks' (ms++L):=by
 have ch:=kn ok t;have up:=wxd ch;have J:=xm ch;have hc:=aE e;have ad:∀d∈(xk hs t).take i,d∈xk hs t/\(d.u+1)*c.S<=c.u*d.S:=λd D=>⟨gR D,wkm up e D⟩;refine⟨?_,λv=>?_,?_,λP=>?_⟩
 .rcases hk with⟨w,rfl⟩|⟨_,rfl⟩
  .refine eZ.mpr ⟨h.kup,cU _ _,λx W y U=>?_⟩;obtain⟨d,D,F,rfl⟩:=(h.kmem x).mp W;rw[aM.mp U];obtain⟨b1,Z⟩:=ad d D;exact xjj (J d b1).1 Z F w (J c hc).1
  .exact h.kup
 .constructor
  .intro hv;have ab:v∈ks->∃c∈(xk hs t).take (i+1),c.Wh/\v=c.a:=λz=>by obtain⟨d,D,r⟩:=(h.kmem v).mp z;exact⟨d,(vv e d).mpr (.inl D),r⟩
   rcases hk with⟨w,rfl⟩|⟨_,rfl⟩
   .rcases aW.mp hv with z|z
    .exact ab z
    .exact⟨c,(vv e c).mpr (.inr rfl),w,aM.mp z⟩
   .exact ab hv
  .rintro⟨d,D,F,rfl⟩;rcases(vv e d).mp D with z|rfl
   .have:=(h.kmem d.a).mpr ⟨d,z,F,rfl⟩;rcases hk with⟨w,rfl⟩|⟨_,rfl⟩
    .exact cn _ this
    .exact this
   .rcases hk with⟨w,rfl⟩|⟨w,_⟩
    .exact aH _ (aM.mpr rfl)
    .exact absurd F w
 .refine eZ.mpr ⟨h.mup,?_,λx W y U=>?_⟩
  .rcases L with _|⟨x,_|⟨y,l⟩⟩
   .exact .nil
   .exact cU _ _
   .simp at hl
  .obtain⟨d,D,f⟩:=(h.mmem x).mp W;have g:=(hL y).mp U;obtain⟨b1,Z⟩:=ad d D;exact inC_le (J d b1).1 (J c hc).1 f.1.1 g.1.1 Z f.2.1 g.2.1
 .rw[aW,h.mmem,hL];constructor
  .rintro (⟨d,D,f⟩|f)
   .exact⟨d,(vv e d).mpr (.inl D),f⟩
   .exact⟨c,(vv e c).mpr (.inr rfl),f⟩
  .rintro⟨d,D,f⟩;rcases(vv e d).mp D with z|rfl
   .exact .inl ⟨d,z,f⟩
   .exact .inr f
structure PtI (ks:List Int)(ms:List (Int×Int))(j:Nat)(ps:List (Int×Int)):Prop where
 pup:ps.Pairwise λP Q=>P.1*Q.2<Q.1*P.2
 pmem:∀P,P∈ps↔P∈ms.take j/\v8 ks P=false
variable {ks:List Int}{ms:List (Int×Int)}
theorem PtI.nil:PtI ks ms 0 []:=⟨.nil,λv=>⟨λz=>(by cases z),λh=>(by cases h.1)⟩⟩
theorem PtI.in (h:PtI ks ms j ps){P:Int×Int}(e:ms[j]?=some P)(l:v8 ks P=true):PtI ks ms (j+1) ps:=⟨h.pup,λQ=>by
 rw[h.pmem,vv e]
 constructor
 .exactλ⟨a,b⟩=>⟨.inl a,b⟩
 .rintro⟨a|rfl,b⟩
  .exact⟨a,b⟩
  .rw[l]at b;cases b⟩
theorem PtI.same (h:PtI ks ms j ps){P:Int×Int}(e:ms[j]?=some P)(l:P∈ps):PtI ks ms (j+1) ps:=⟨h.pup,λQ=>by
 rw[h.pmem,vv e]
 constructor
 .exactλ⟨a,b⟩=>⟨.inl a,b⟩
 .rintro⟨a|rfl,b⟩
  .exact⟨a,b⟩
  .exact(h.pmem Q).mp l⟩
theorem PtI.add (h:PtI ks ms j ps)(up:ms.Pairwise λP Q=>P.1*Q.2<=Q.1*P.2)(lw:∀P∈ms,1<=P.2/\gOf P.1 P.2=1){P:Int×Int}(e:ms[j]?=some P)(l:v8 ks P=false)(nl:ps.getLast?≠some P):PtI ks ms (j+1) (ps++[P]):=by
 refine⟨eZ.mpr ⟨h.pup,cU _ _,λQ D y Z=>?_⟩,λQ=>?_⟩
 .rw[aM.mp Z];have F:∀Q∈ps,Q.1*P.2<=P.1*Q.2:=λQ D=>wkm up e ((h.pmem Q).mp D).1;have lo:∀Q∈ps,1<=Q.2/\gOf Q.1 Q.2=1:=λQ D=>lw Q (gR ((h.pmem Q).mp D).1);have J:=lw P (aE e);have W:P∉ps:=λhP=>by
   obtain⟨i,hi,U⟩:=cE hP;rw[dS]at nl;have hl:i≠ps.length-1:=λz=>nl (by rw[<-z,aa hi,U]);have L:ps.length-1<ps.length:=by lia
   have a:=ba.mp h.pup i (ps.length-1) hi L ⋯;rw[U]at a;have b:=F _ (bD L);lia
  rcases bh (Q.1*P.2) (P.1*Q.2) with z|z
  .exact z
  .have e2:Q.1*P.2=P.1*Q.2:=Int.le_antisymm (F Q D) z;exact absurd (xvt (lo Q D).1 (lo Q D).2 J.1 J.2 e2▸D) W
 .rw[aW,h.pmem,vv e,aM];constructor
  .rintro (⟨a,b⟩|rfl)
   .exact⟨.inl a,b⟩
   .exact⟨.inr rfl,l⟩
  .rintro⟨a|rfl,b⟩
   .exact .inl ⟨a,b⟩
   .exact .inr rfl
structure Bk (hs:List Int)(m:Nat)(pts:List (Int×Int))(ws:List Int):Prop where
 wup:ws.Pairwise (·<·)
 wmem:∀v,v∈ws↔kh hs m v
 pup:pts.Pairwise λp q=>p.1*q.2<q.1*p.2
 pmem:∀p,p∈pts↔(uk hs m p/\v8 ws p=false)
theorem Bk.of (ok:qt hs){t:Nat}(t11:t<=11){ks:List Int}{ms ps:List (Int×Int)}(M:MetI hs t (xk hs t).length ks ms)(p:PtI ks ms ms.length ps):Bk hs (t+1) ps ks:=by
 have D:=M.kmem;have z:=M.mmem;rw[bf]at D z;have w:∀v,v∈ks↔kh hs (t+1) v:=λv=>(D v).trans (qkm ok t11 v).symm;refine⟨M.kup,w,p.pup,λP=>?_⟩;rw[p.pmem,bf,z];constructor
 .exactλ⟨a,b⟩=>⟨(wkt ok t11 w b).mp a,b⟩
 .exactλ⟨a,b⟩=>⟨(wkt ok t11 w b).mpr a,b⟩
theorem qqp (hS:1<=c.S):c.S*(c.lft.2*c.lft.1.2-c.lft.1.1)=c.lft.1.2*c.o1/\c.S*(c.rgt.2*c.rgt.1.2-c.rgt.1.1)=c.rgt.1.2*c.o2:=by
 have D:c.lft.1.1*c.S=c.u*c.lft.1.2:=zu (t:=c.u) hS;have z:c.rgt.1.1*c.S=(c.u+1)*c.rgt.1.2:=zu (t:=c.u+1) hS;have J:c.lft.2=c.a:=rfl;have F:c.rgt.2=c.b:=rfl;rw[J,F];unfold Cell.o1 Cell.o2;constructor
 .rw[fZ,bj c.S c.lft.1.1,D];grind
 .rw[fZ,bj c.S c.rgt.1.1,z];grind
theorem wvd (ok:qt hs){t:Nat}{c:Cell}(hc:c∈xk hs t)(h:((c.lft.2*c.lft.1.2-c.lft.1.1)=0/\(c.rgt.2*c.rgt.1.2-c.rgt.1.1)=0)\/(c.lft.2*c.lft.1.2-c.lft.1.1)*(c.rgt.2*c.rgt.1.2-c.rgt.1.1)>0)(P:Int×Int):¬ FxP hs (t+1) c P:=by
 rintro⟨⟨U,_⟩,hi,bk,nw⟩;have J:1<=c.S:=(xm (kn ok t) c hc).1;have lb:1<=c.lft.1.2:=zx J;have rb:1<=c.rgt.1.2:=zx J;obtain⟨L,s2⟩:=qqp J;generalize c.lft.2*c.lft.1.2-c.lft.1.1=x at h L;generalize c.rgt.2*c.rgt.1.2-c.rgt.1.1=y at h s2;generalize c.lft.1.2=l at L lb;generalize c.rgt.1.2=r at s2 rb;have fx:=(fixC ok hc (p:=P.1) (q:=P.2) U hi).mp bk;have i1:=hi.1;have i2:=hi.2;rw[be,aS]at i2;have an:0<=c.S*P.1-c.u*P.2:=by lia
 have ah:0<=P.2-(c.S*P.1-c.u*P.2):=by lia
 have ab:∀(s l o z:Int),1<=s->1<=l->s*z=l*o->(0<z->0<o)/\(z<0->o<0)/\(z=0->o=0):=λs l o z hs hl e=>by
  refine⟨λh=>?_,λh=>?_,λh=>?_⟩
  .have:=eY (show 0<s by lia) h;rw[e]at this;rcases bh 0 o with g|g
   .exact g
   .have:=cR (show 0<=l by lia) g;lia
  .have:=eY (show 0<s by lia) (show 0 < -z by lia);rw[Int.mul_neg,e]at this;rcases bh o 0 with g|g
   .exact g
   .have:=aX (show 0<=l by lia) g;lia
  .rw[h,dk]at e;rcases dC.mp e.symm with g|g <;> lia
 have Z:=ab _ _ _ _ J lb L;have W:=ab _ _ _ _ J rb s2;rcases h with⟨h1,h2⟩|h
 .exact nw ⟨Z.2.2 h1,W.2.2 h2⟩
 .have ad:∀F D a b:Int,0<=F->0<=D->1<=F+D->0<a->0<b->F*a+D*b≠0:=λF D a b h0 h1 h2 ha U e=>by
   have m0:=aX h0 (show 0<=a by lia);have m1:=aX h1 (show 0<=b by lia);rcases(by lia:0<F\/0<D) with z|z
   .have:=eY z ha;lia
   .have:=eY z U;lia
  rcases gC x 0 with a|a|a
  .have b:y<0:=by
    rcases bh y 0 with b|b
    .exact b
    .have:=Int.mul_nonpos_of_nonpos_of_nonneg (show x<=0 by lia) b;lia
   have n1:=Z.2.1 a;have n2:=W.2.1 b;refine ad _ _ (-c.o1) (-c.o2) ah an ⋯ ⋯ ⋯ ?_;rw[Int.mul_neg,Int.mul_neg];lia
  .rw[a,hU]at h;lia
  .have b:0<y:=by
    rcases bh 0 y with b|b
    .exact b
    .have:=cR (show 0<=x by lia) b;lia
   exact ad _ _ _ _ ah an ⋯ (Z.1 a) (W.1 b) fx
theorem wuj (ok:qt hs){t:Nat}{c:Cell}(hc:c∈xk hs t){part total:Int}(h0:0<=part)(h1:part<=total)(h2:1<=total)
  (e:total*(c.rgt.1.2*(c.lft.2*c.lft.1.2-c.lft.1.1))=part*(c.rgt.1.2*(c.lft.2*c.lft.1.2-c.lft.1.1)-c.lft.1.2*(c.rgt.2*c.rgt.1.2-c.rgt.1.1)))
  (nz:¬ ((c.lft.2*c.lft.1.2-c.lft.1.1)=0/\(c.rgt.2*c.rgt.1.2-c.rgt.1.1)=0)) (np:c.rgt.1.2*(c.lft.2*c.lft.1.2-c.lft.1.1)-c.lft.1.2*(c.rgt.2*c.rgt.1.2-c.rgt.1.1)≠0) (P:Int×Int) :
  P∈[wv (c.lft.1.1*c.rgt.1.2*total+(c.rgt.1.1*c.lft.1.2-c.lft.1.1*c.rgt.1.2)*part) (c.lft.1.2*c.rgt.1.2*total)]↔FxP hs (t+1) c P:=by
 have L:1<=c.S:=(xm (kn ok t) c hc).1;have lb:1<=c.lft.1.2:=zx L;have rb:1<=c.rgt.1.2:=zx L;obtain⟨F,s2⟩:=qqp L;have gb:1<=c.lft.1.2*c.rgt.1.2:=by have:=br lb rb ⋯ ⋯;simpa using this
 have U:1<=c.lft.1.2*c.rgt.1.2*total:=by have:=br gb h2 ⋯ ⋯;simpa using this
 have cl:=xqx L total part;generalize c.lft.2*c.lft.1.2-c.lft.1.1=x at e F nz np;generalize c.rgt.2*c.rgt.1.2-c.rgt.1.1=y at e s2 nz np;generalize c.lft.1.1*c.rgt.1.2*total+(c.rgt.1.1*c.lft.1.2-c.lft.1.1*c.rgt.1.2)*part=top at cl;generalize hg:c.lft.1.2*c.rgt.1.2=g at gb U cl;generalize c.lft.1.2=l at F lb e np hg;generalize c.rgt.1.2=r at s2 rb e np hg;have eo:total*c.o1=part*(c.o1-c.o2):=by
  refine bT (a:=g) ⋯ ?_;have a1:g*(total*c.o1)=total*(r*(l*c.o1)):=by rw[<-hg];grind
  have a2:g*(part*(c.o1-c.o2))=part*(r*(l*c.o1)-l*(r*c.o2)):=by rw[<-hg];grind
  rw[a1,a2,<-F,<-s2];have:=b7 (λz=>c.S*z) e;grind
 have nw:¬ c.Wh:=λ⟨w1,w2⟩=>nz ⟨by
   rw[w1,dk]at F
   rcases dC.mp F with z|z <;> lia,by
   rw[w2,dk]at s2
   rcases dC.mp s2 with z|z <;> lia⟩
 have no:c.o1-c.o2≠0:=λz=>by refine np (bT (a:=c.S) ⋯ ?_);rw[dk,show c.S*(r*x-l*y)=r*(c.S*x)-l*(c.S*y) by grind,F,s2,show r*(l*c.o1)-l*(r*c.o2)=r*l*(c.o1-c.o2) by grind,z,dk]
 have D:FxP hs (t+1) c (wv top (g*total)):=by
  have b1:1<=(wv top (g*total)).2:=zx U;have b2:=Yq (t:=top) U;have b3:=zu (t:=top) U;generalize wv top (g*total)=P at b1 b2 b3;have m:c.S*P.1*total=(c.u*total+part)*P.2:=by refine bT (a:=g*total) ⋯ ?_;rw[show g*total*(c.S*P.1*total)=c.S*total*(P.1*(g*total)) by grind,b3,show c.S*total*(top*P.2)=c.S*total*top*P.2 by grind,cl];grind
  have J:(c.S*P.1-c.u*P.2)*total=part*P.2:=by grind
  have q0:0<=c.S*P.1-c.u*P.2:=by
   rcases bh (c.S*P.1-c.u*P.2) 0 with z|z
   .have:=eY (show 0 < -(c.S*P.1-c.u*P.2) by lia) (show 0<total by lia);rw[jO,J]at this;have:=aX h0 (show 0<=P.2 by lia);lia
   .exact z
  have q1:c.S*P.1-c.u*P.2<=P.2:=by refine dQ (a:=total) ?_ ⋯;rw[J,bj P.2];exact aj h1 ⋯
  have hi:InC c (P.1,P.2):=⟨by show c.u*P.2<=c.S*P.1;lia,by show c.S*P.1<=(c.u+1)*P.2;rw[be,aS];lia⟩;refine⟨⟨b1,b2⟩,hi,(fixC ok hc b1 hi).mpr (bT (a:=total) ⋯ ?_),nw⟩;generalize c.S*P.1-c.u*P.2=d at J;rw[show total*((P.2-d)*c.o1+d*c.o2)=P.2*(total*c.o1)-d*total*(c.o1-c.o2) by grind,J,eo];grind
 rw[aM];constructor
 .rintro rfl;exact D
 .intro f;generalize wv top (g*total)=Q at D;have Z:=(fixC ok hc f.1.1 f.2.1).mp f.2.2.1;have W:=(fixC ok hc D.1.1 D.2.1).mp D.2.2.1;refine xvt f.1.1 f.1.2 D.1.1 D.1.2 (bT (a:=c.S) ⋯ ?_);have m:(c.S*P.1-c.u*P.2)*Q.2=(c.S*Q.1-c.u*Q.2)*P.2:=by refine bT no ?_;generalize c.S*P.1-c.u*P.2=d1 at Z;generalize c.S*Q.1-c.u*Q.2=d2 at W;generalize c.o1=o1 at Z W;generalize c.o2=o2 at Z W;grind
  grind
theorem xwt {A R:Prop}(h:x=y->R->A)(r:R):if decide (V.int x=V.int y)=true then A else R:=jr (λz=>h z r) (λ_=>r)
def quj (K:Aa):Sp:=λvs H Q _=>∃(v v':V) (hs:List Int) (t:Nat) (c:Cell),vs=[v,v']/\CoR H v c.lft/\CoR H v' c.rgt/\qt hs/\t<=11/\c∈xk hs t /\
 ∀(q:Aj) (ws:List V) (L:List (Int×Int)) (H':Hp),H q=none->Same H H'->H' q=some (.lst ws)->L.length<=1->Paired (PtV H') ws L->(∀P,P∈L↔FxP hs (t+1) c P)->Q (.ref q) H'
include T in
theorem xvq (F:Fun K "_law_cross" "_law_cross" zbx f fd)(zcc:Cal P w K mg base "_law_low" 2 wjv):FK P w K mg base 3 f fd ["_law_left","_law_right"] (quj K):=by
 have sc:=qv5;refine F.okX sc (λvs H Q E h=>by obtain⟨_,_,_,_,_,rfl,_⟩:=h;rfl) λ_ _ _ _ H vs Q E hr h=>?_;obtain⟨_,_,hs,t,c,rfl,⟨p,pp,rfl,p1,p2⟩,⟨q,qq,rfl,q1,q2⟩,ok,ht,hc,k⟩:=h;have o1:=ok.1;have o2:=ok.2.1;have gc:=xm (kn ok t) c hc;have hM:=pow24 t ht;have P1:SqT K H p [.ref pp,.int c.lft.2]:=SqT.of p1;have Z:SqT K H pp [.int c.lft.1.1,.int c.lft.1.2]:=SqT.of p2;have W:SqT K H q [.ref qq,.int c.rgt.2]:=SqT.of q1;have U:SqT K H qq [.int c.rgt.1.1,.int c.rgt.1.2]:=SqT.of q2;obtain⟨⟨⟨l1,l2,l3,l4⟩,l5,l6⟩,⟨⟨r1,r2,r3,r4⟩,r5,r6⟩⟩:=wjt (n:=(hs.length:Int)-1) ⋯ ⋯ hM gc;have ad:=λpart total h0 h1 h2 e nz np=>wuj ok hc (part:=part) (total:=total) h0 h1 h2 e nz np;have ab:=wvd ok hc;have sl:∀x:Int,0<=x->x<=1000000000000000000->Sm 65 x:=λx h0 h1=>Sm.small ⋯ ⋯ ⋯;have S1:=sl _ l3 l4;have L:=sl _ ⋯ l2;have S3:=sl _ r3 r4;have J:=sl _ ⋯ r2;have S5:=sl c.lft.2 l5 ⋯;have S6:=sl c.rgt.2 r5 ⋯;refine⟨_,(qj (wg (i:=2) (q9 zd (q9 xq (wn wt (pv 0) qv (λ_ _=>rfl)) (wn wt (wn wt (pv 0) qv (λ_ _=>rfl)) qv (λ_ _=>rfl))) (wn wt (wn wt (pv 0) qv (λ_ _=>rfl)) qv (λ_ _=>rfl))))
   (qj (wg (i:=3) (q9 zd (q9 xq (wn wt (pv 1) qv (λ_ _=>rfl)) (wn wt (wn wt (pv 1) qv (λ_ _=>rfl)) qv (λ_ _=>rfl))) (wn wt (wn wt (pv 1) qv (λ_ _=>rfl)) qv (λ_ _=>rfl))))
   (qj (zp (PW.pt (qjk (PW.pt (Zs (w8 j8 (pv 2) qv (xv _)) (Qt (w8 j8 (pv 3) qv (xv _))))) (qqk (w8 Q9 (q9 xq (pv 2) (pv 3)) qv (xv _))))) (qr (xx (vt qk))) xn)
   (qj (wg (i:=4) (q9 xq (pv 2) (wn wt (wn wt (pv 1) qv (λ_ _=>rfl)) qv (λ_ _=>rfl))))
   (qj (wg (i:=5) (q9 zd (pv 4) (q9 xq (pv 3) (wn wt (wn wt (pv 0) qv (λ_ _=>rfl)) qv (λ_ _=>rfl)))))
   (qwn (zp (w8 Zf (pv 5) qv (xv _)) (qj (wg (i:=4) (Q6 yj (pv 4)))
   (qr (wg (i:=5) (Q6 yj (pv 5))))) xn)
   (qj (wg (i:=6) (q9 xq (wn wt (wn wt (pv 0) qv (λ_ _=>rfl)) qv (λ_ _=>rfl)) (wn wt (wn wt (pv 1) qv (λ_ _=>rfl)) qv (λ_ _=>rfl))))
   (qj (wg (i:=7) (q9 xq (wn wt (wn wt (pv 1) qv (λ_ _=>rfl)) qv (λ_ _=>rfl)) (wn wt (wn wt (pv 0) qv (λ_ _=>rfl)) qv (λ_ _=>rfl))))
   (qj (wg (i:=7) (q9 zd (pv 7) (q9 xq (wn wt (wn wt (pv 0) qv (λ_ _=>rfl)) qv (λ_ _=>rfl)) (wn wt (wn wt (pv 1) qv (λ_ _=>rfl)) qv (λ_ _=>rfl)))))
   (qj (wg (i:=8) (q9 xj (q9 xq (q9 xq (wn wt (wn wt (pv 0) qv (λ_ _=>rfl)) qv (λ_ _=>rfl)) (wn wt (wn wt (pv 1) qv (λ_ _=>rfl)) qv (λ_ _=>rfl))) (pv 5)) (q9 xq (pv 7) (pv 4))))
   (qr (xx (vt (qw (wu zcc (hr.mono ⋯) rfl q8 (qw (pv 8) (qw (q9 xq (pv 6) (pv 5)) qk))) qk)))))))))))))),?_⟩
 dsimp only [Ww];generalize c.lft.1.1=lt at Z l3 l4 S1 ad ab;generalize c.lft.1.2=lb at Z l1 l2 L ad ab;generalize c.lft.2=lh at P1 l5 l6 S5 ad ab;generalize c.rgt.1.1=rt at U r3 r4 S3 ad ab;generalize c.rgt.1.2=rb at U r1 r2 J ad ab;generalize c.rgt.2=rh at W r5 r6 S6 ad ab;have So:Sm 131 (lh*lb-lt):=((S5.mul L).mono ⋯).sub (S1.mono ⋯);have Su:Sm 131 (rh*rb-rt):=((S6.mul J).mono ⋯).sub (S3.mono ⋯);refine exI rfl (exX rfl rfl P1 rfl (exI rfl (exX rfl rfl P1 rfl (exX rfl rfl Z rfl (wy rfl rfl ⟨S5.ok L ⋯,exI rfl (exX rfl rfl P1 rfl (exX rfl rfl Z rfl (wy rfl rfl ?_)))⟩)))));refine exI rfl (exX rfl rfl W rfl (exI rfl (exX rfl rfl W rfl (exX rfl rfl U rfl (wy rfl rfl ⟨S6.ok J ⋯,exI rfl (exX rfl rfl W rfl (exX rfl rfl U rfl (wy rfl rfl ?_)))⟩)))));have an:(∀P,¬ FxP hs (t+1) c P)->∀q',H q'=none->Q (.ref q') (upd H q' (.lst [])):=λa2=>λq' nq=>k q' [] [] _ nq (Same.upd nq) qu ⋯ .nil λP=>⟨λz=>(by cases z),λz=>absurd z (a2 P)⟩;by_cases cond:((lh*lb-lt)=0/\(rh*rb-rt)=0)\/(lh*lb-lt)*(rh*rb-rt)>0
 .have an:=an (ab cond);refine exI rfl ⟨rfl,_,rfl,jr (λz1=>?_) (λz1=>?_)⟩
  .refine exI rfl ⟨rfl,_,rfl,jr (λz2=>?_) (λz2=>?_)⟩
   .exact y9 ⟨sz0,an⟩
   .have:(lh*lb-lt)*(rh*rb-rt)=0:=by rw[show lh*lb-lt=0 from z1,hU]
    exact absurd cond ⋯
  .refine uc ?_;refine exI rfl (exI rfl (wy rfl rfl ⟨So.ok Su ⋯,wy rfl rfl (exI rfl (jb (λz3=>⟨sz0,an⟩) (λz3=>absurd cond ⋯)))⟩))
 have nz:¬ ((lh*lb-lt)=0/\(rh*rb-rt)=0):=λz=>cond (.inl z);have np:¬ (lh*lb-lt)*(rh*rb-rt)>0:=λz=>cond (.inr z);have sg:(0<=(lh*lb-lt)/\(rh*rb-rt)<=0)\/((lh*lb-lt)<=0/\0<=(rh*rb-rt)):=by
  rcases gC (lh*lb-lt) 0 with a|a|a
  .rcases bh (rh*rb-rt) 0 with b|b
   .exact absurd (fA a b) ⋯
   .exact .inr ⟨⋯,b⟩
  .lia
  .rcases bh 0 (rh*rb-rt) with b|b
   .exact absurd (eY a b) ⋯
   .exact .inl ⟨⋯,b⟩
 have Sp:Sm 197 ((lh*lb-lt)*rb):=(So.mul J).mono ⋯;have Sq:Sm 197 ((rh*rb-rt)*lb):=(Su.mul L).mono ⋯;have St:Sm 198 ((lh*lb-lt)*rb-(rh*rb-rt)*lb):=Sp.sub Sq;refine exI rfl ⟨rfl,_,rfl,xwt (λz1 rest=>(exI rfl ⟨rfl,_,rfl,jr (λz2=>absurd ⟨z1,z2⟩ nz) (λ_=>rest)⟩)) ?_⟩;refine exI rfl (exI rfl (wy rfl rfl ⟨So.ok Su ⋯,wy rfl rfl (exI rfl ?_)⟩));rw[aT np];refine uc ?_;refine exI rfl (exI rfl (exX rfl rfl W rfl (exX rfl rfl U rfl (wy rfl rfl ⟨So.ok J ⋯,?_⟩))));refine exI rfl (exI rfl (exI rfl (exX rfl rfl P1 rfl (exX rfl rfl Z rfl (wy rfl rfl ⟨Su.ok L ⋯,wy rfl rfl ?_⟩)))));have m1:∀x:Int,0<=x->0<=x*rb/\(1<=x->1<=x*rb):=λx h=>⟨aX h ⋯,λh=>by have:=br h r1 ⋯ ⋯;simpa using this⟩;have m2:∀x:Int,0<=x->0<=x*lb/\(1<=x->1<=x*lb):=λx h=>⟨aX h ⋯,λh=>by have:=br h l1 ⋯ ⋯;simpa using this⟩;have a5:(0<=(lh*lb-lt)*rb/\(rh*rb-rt)*lb<=0/\1<=(lh*lb-lt)*rb-(rh*rb-rt)*lb)\/((lh*lb-lt)*rb<=0/\0<=(rh*rb-rt)*lb/\(lh*lb-lt)*rb-(rh*rb-rt)*lb<=-1):=by
  rcases sg with⟨a,b⟩|⟨a,b⟩
  .have x1:=m1 _ a;have x2:=m2 (-(rh*rb-rt)) ⋯;rw[jO]at x2;refine .inl ⟨x1.1,⋯,?_⟩;rcases(by lia:1<=lh*lb-lt\/1<=-(rh*rb-rt)) with z|z
   .have:=x1.2 z;lia
   .have:=x2.2 z;lia
  .have x1:=m1 (-(lh*lb-lt)) ⋯;have x2:=m2 _ b;rw[jO]at x1;refine .inr ⟨⋯,x2.1,?_⟩;rcases(by lia:1<=-(lh*lb-lt)\/1<=rh*rb-rt) with z|z
   .have:=x1.2 z;lia
   .have:=x2.2 z;lia
 have a1:rb*(lh*lb-lt)-lb*(rh*rb-rt)≠0:=by rw[bj rb,bj lb];lia
 have a3:∀part total:Int,0<=part->part<=total->1<=total->total*(rb*(lh*lb-lt))=part*(rb*(lh*lb-lt)-lb*(rh*rb-rt))->Sm 197 part->Sm 198 total->∀D,H D=none->∀pl,upd H D (.tup (ptV (wv (lt*rb*total+(rt*lb-lt*rb)*part) (lb*rb*total)))) pl=none->Q (.ref pl) (upd (upd H D (.tup (ptV (wv (lt*rb*total+(rt*lb-lt*rb)*part) (lb*rb*total))))) pl (.lst [.ref D])):=λpart total h0 h1 h2 e sp st D ap pl ah=>by have s1:=Same.upd (o:=.tup (ptV (wv (lt*rb*total+(rt*lb-lt*rb)*part) (lb*rb*total)))) ap;have s2:=Same.upd (H:=upd H D (.tup (ptV (wv (lt*rb*total+(rt*lb-lt*rb)*part) (lb*rb*total))))) (o:=.lst [.ref D]) ah;refine k pl [.ref D] _ _ (j5 s1 ah) (s1.trans s2) qu (ak _) (.cons ⟨D,rfl,s2 _ _ qu⟩ .nil) (ad part total h0 h1 h2 e nz a1)
 refine⟨λσ H'=>H'=H/\∃part total:Int,0<=part/\part<=total/\1<=total/\total*(rb*(lh*lb-lt))=part*(rb*(lh*lb-lt)-lb*(rh*rb-rt))/\Sm 197 part/\Sm 198 total/\σ=[some (.ref p),some (.ref q),some (.int (lh*lb-lt)),some (.int (rh*rb-rt)),some (.int part),some (.int total),none,none,none],?_,?_⟩
 .refine exI rfl (wy rfl rfl (exI rfl (jb (λz=>?_) (λz=>?_))))
  .refine exI rfl (exI rfl ?_);refine exI rfl (exI rfl ?_);refine⟨rfl,-((lh*lb-lt)*rb),-((lh*lb-lt)*rb-(rh*rb-rt)*lb),⋯,⋯,⋯,by grind,Sp.neg,St.neg,rfl⟩
  .refine⟨rfl,(lh*lb-lt)*rb,(lh*lb-lt)*rb-(rh*rb-rt)*lb,⋯,⋯,⋯,by grind,Sp,St,rfl⟩
 rintro σ H' ⟨rfl,part,total,h0,h1,h2,e,sp,st,rfl⟩;have as:=L.mul J;have a0:=S1.mul J;have a4:=S3.mul L;have Sw:Sm 131 (rt*lb-lt*rb):=a4.sub a0;refine exI rfl (exX rfl rfl P1 rfl (exX rfl rfl Z rfl (exI rfl (exX rfl rfl W rfl (exX rfl rfl U rfl (wy rfl rfl ⟨L.ok J ⋯,?_⟩))))));refine exI rfl (exX rfl rfl W rfl (exX rfl rfl U rfl (exI rfl (exX rfl rfl P1 rfl (exX rfl rfl Z rfl (wy rfl rfl ⟨S3.ok L ⋯,?_⟩))))));refine exI rfl (exI rfl (exX rfl rfl P1 rfl (exX rfl rfl Z rfl (exI rfl (exX rfl rfl W rfl (exX rfl rfl U rfl (wy rfl rfl ⟨S1.ok J ⋯,wy rfl rfl ?_⟩)))))));refine exI rfl (exX rfl rfl P1 rfl (exX rfl rfl Z rfl (exI rfl (exX rfl rfl W rfl (exX rfl rfl U rfl (wy rfl rfl ⟨S1.ok J ⋯,exI rfl (wy rfl rfl ⟨a0.ok st ⋯,exI rfl (exI rfl (wy rfl rfl ⟨Sw.ok sp ⋯,wy rfl rfl ?_⟩))⟩)⟩))))));have hB:1<=lb*rb*total:=by have a:=br l1 r1 ⋯ ⋯;rw[aS]at a;have b:=br a h2 ⋯ ⋯;rw[aS]at b;exact b
 refine exI rfl (exI rfl (exI rfl (wy rfl rfl ⟨as.ok st ⋯,_,_,rfl,hB,(as.mul st).mono ⋯,λD ap=>⟨sz1,λpl ah=>?_⟩⟩)));exact a3 part total h0 h1 h2 e sp st D ap pl ah
def qxs (K:Aa):Sp:=λvs H Q _=>∃(a b:Aj) (P:Int×Int) (ks:List Int),vs=[.ref a,.ref b]/\SqT K H a [.int P.1,.int P.2]/\SqL K H b (ks.map V.int)/\(∀x∈ks,0<=x/\x<=24)/\Q (.bl (v8 ks P)) H
include T in
theorem wuw (F:Fun K "_law_within" "_law_within" zby f fd):FK P w K mg base 1 f fd ["_law_point","_law_wholes"] (qxs K):=by
 have Z:=qzc;refine F.okX Z (λvs H Q E h=>by obtain⟨_,_,_,_,rfl,_⟩:=h;rfl) λ_ _ _ _ H vs Q E hr h=>?_;obtain⟨a,b,D,ks,rfl,J,W,hk,k⟩:=h;refine⟨_,(qj (ky aV rfl (zc (pv 1)) (xz (i:=2)) (qr (zp (PW.pt (Zs (w8 qz5 (q9 xq (pv 2) (wn wt (pv 0) qv (λ_ _=>rfl))) (wn wt (pv 0) qv (λ_ _=>rfl)) (xv _)) (Qt (w8 qz5 (wn wt (pv 0) qv (λ_ _=>rfl)) (q9 xq (q9 xj (pv 2) qv) (wn wt (pv 0) qv (λ_ _=>rfl))) (xv _))))) (qr (xx xxy)) xn)))
   (qr (xx xxy))),?_⟩
 refine exI rfl ⟨b,rfl,⟨_,W⟩,Yj (xs:=ks.map V.int) (λi σ H'=>H'=H/\(∀x∈ks.take i,inK D x=false)/\∃z,σ=[some (.ref a),some (.ref b),z]) ⟨rfl,λx L=>(by cases L),_,rfl⟩ (λi σ H' _ h=>by rw[h.1];exact W) ?_ ?_⟩
 .rintro i v σ H1 ev ⟨rfl,hno,z,rfl⟩;rw[ax]at ev;obtain⟨x,ex,rfl⟩:=cL.mp ev;obtain⟨x0,x1⟩:=hk x (aE ex);have U:¬ (x*D.2<=D.1/\D.1<=(x+1)*D.2)->∀y∈ks.take (i+1),inK D y=false:=λh y hy=>by
   rcases(vv ex y).mp hy with g|rfl
   .exact hno y g
   .exact aT h
  refine exI rfl (exI rfl (exX rfl rfl J rfl (wy rfl rfl ⟨IntMulOk.of_left (intBits_le_64 ⋯ ⋯),exI rfl (exX rfl rfl J rfl (wy rfl rfl (exI rfl (jb (λy=>?_) (λy=>?_)))))⟩)))
  .refine exI rfl (exX rfl rfl J rfl (exI rfl (wy rfl rfl (exI rfl (exX rfl rfl J rfl (wy rfl rfl ⟨IntMulOk.of_left (intBits_le_64 ⋯ ⋯),wy rfl rfl (exI rfl (jb (λu=>?_) (λu=>⟨rfl,U λz=>u z.2,_,rfl⟩)))⟩))))));have e:v8 ks D=true:=cC.mpr ⟨x,aE ex,aF ⟨y,u⟩⟩;rw[e]at k;exact k
  .exact uc ⟨rfl,U λz=>y z.1,_,rfl⟩
 .rintro σ H1 ⟨rfl,hno,z,rfl⟩;have e:v8 ks D=false:=by rw[show v8 ks D=ks.any (inK D) from rfl,List.any_eq_false];intro x L;rw[hno x (by rw[af,bf];exact L)];decide
  rw[e]at k;exact k
theorem jq (h:Paired (PtV H) us ms)(k:∀b o,(∀xs,o≠.lst xs)->H b=some o->H' b=some o):Paired (PtV H') us ms:=Paired.imp' (λv p ⟨a,e,f⟩=>⟨a,e,k _ _ (λxs z=>by cases z) f⟩) h
theorem wjr {R:α->β->Prop}:∀(n:Nat) {xs:List α} {ys:List β},Paired R xs ys->Paired R (xs.drop n) (ys.drop n)
 |0,_,_,h=>h
 |n+1,_,_,.nil=>.nil
 |n+1,_,_,.cons _ t=>wjr n t
theorem wjc {R:α->β->Prop}:∀(n:Nat) {xs:List α} {ys:List β},Paired R xs ys->Paired R (xs.take n) (ys.take n)
 |0,_,_,_=>.nil
 |n+1,_,_,.nil=>.nil
 |n+1,_,_,.cons r t=>.cons r (wjc n t)
theorem xwc {R:V->Int×Int->Prop}(h:Paired R us ps):∃qs,Paired R (Yy us (some (-1)) none) qs/\∀P,P∈qs↔ps.getLast?=some P:=by
 have D:=h.length;unfold Yy;refine⟨_,wjc _ (wjr _ h),λP=>?_⟩;rcases fS ps.length with z|z
 .rw[i6.mp z];simp
 .have J:HT.sIx us.length 0 (some (-1))=ps.length-1:=by have:=HT.clip_eq (-1) us.length 0;rw[aw ⋯]at this;lia
  rw[J,HT.sIx_none,D,dS,show ps.length-(ps.length-1)=1 by lia];have F:ps.drop (ps.length-1)=[ps[ps.length-1]]:=by rw[fu ⋯,show ps.length-1+1=ps.length by lia,List.drop_length]
  rw[F,aa ⋯,eF (by simp),aM,Option.some.injEq];exact eq_comm
theorem pv_at:∀ {us:List V} {ms:List (Int×Int)} {i:Nat} {v:V} {p:Int×Int},Paired (PtV H) us ms->us[i]?=some v->ms[i]?=some p->∃a,v=.ref a/\H a=some (.tup [.int p.1,.int p.2])
 |_,_,0,_,_,.cons h _,e1,e2=>by cases e1;cases e2;exact h
 |_,_,i+1,_,_,.cons _ t,e1,e2=>pv_at (i:=i) t e1 e2
def qy5 (K:Aa):Sp:=λvs H Q _=>∃(p:Aj) (hs:List Int) (x:Int),vs=[.ref p,.int x]/\SqL K H p (hs.map V.int)/\qt hs/\1<=x/\x<=12/\(zm (xk hs (x.toNat-1))).length<=4000 /\
 ∀(q pl pw:Aj) (us:List V) (ps:List (Int×Int)) (ks:List Int) (H':Hp),Same H H'->H' q=some (.tup [.ref pl,.ref pw])->H' pl=some (.lst us)->Paired (PtR H') us ps->H' pw=some (.lst (ks.map V.int))->H pl=none->H pw=none->pl≠pw->Bk hs x.toNat ps ks->us.length<=4000->ks.length<=4000->Q (.ref q) H'
include T in
theorem xws (F:Fun K "_law_back" "_law_back" zbz f fd)(zfu:Cal P w K mg base "_law_laid" 4 (qj2 K))(zfv:Cal P w K mg base "_law_cross" 3 (quj K))(zfw:Cal P w K mg base "_law_within" 1 (qxs K)):FK P w K mg base 5 f fd ["_law_heights_here","_law_many"] (qy5 K):=by
 have sc:=qyk;refine F.okX sc (λvs H Q E h=>by obtain⟨_,_,_,rfl,_⟩:=h;rfl) λ_ _ _ _ H vs Q E hr h=>?_;obtain⟨p,hs,x,rfl,hP,ok,x1,x2,a5,k⟩:=h;have o1:=ok.1;have o2:=ok.2.1;have b3:(1000000:Nat)<sizeLine:=by decide
 refine⟨_,(qj (wg (i:=2) (wu zfu (hr.mono ⋯) rfl q8 (qw (pv 0) (qw (pv 1) qk))))
   (qj (wg (i:=3) (vt qk))
   (qj (wg (i:=4) (vt qk))
   (qj (ky aV rfl (xg rfl T.range_ (qw (q9 zd (w5 xh rfl T.len_ bH (qw (pv 2) qk)) qv) qk)) (xz (i:=5)) (qj (wg (i:=6) (wn xr (pv 2) (pv 5) (λ_ _=>rfl)))
   (qj (wg (i:=7) (wn xr (pv 2) (q9 xj (pv 5) qv) (λ_ _=>rfl)))
   (qwn (zp (PW.pt (Zs (w8 (qj5 hr.units) (wn wt (pv 6) qv (λ_ _=>rfl)) (vy (qw (wn wt (pv 6) qv (λ_ _=>rfl)) (qw qv qk))) (xv _)) (Qt (w8 (qj5 hr.units) (wn wt (pv 7) qv (λ_ _=>rfl)) (vy (qw (wn wt (pv 7) qv (λ_ _=>rfl)) (qw qv qk))) (xv _))))) (qr (vg (Zd bK bN bO vn (pv 3) (qw (wn wt (pv 6) qv (λ_ _=>rfl)) qk)))) xn)
   (qr (quq (i:=4) sc.nd rfl (Or.inl rfl) (wu zfv (hr.mono ⋯) rfl q8 (qw (pv 6) (qw (pv 7) qk))) xxg))))))
   (qj (wg (i:=8) (vt qk))
   (qj (ky aV rfl (zc (pv 4)) (xz (i:=9)) (qr (zp (PW.pt (Zs (wvg (wzj (wu zfw (hr.mono ⋯) rfl q8 (qw (pv 9) (qw (pv 3) qk))))) (Qt (w8 (wyu hr.units) (pv 9) (wxu wky (pv 8) (quu (Q6 yj qv)) xkw) rfl)))) (qr (vg (Zd bK bN bO vn (pv 8) (qw (pv 9) qk)))) xn)))
   (qr (xx (vy (qw (pv 8) (qw (pv 3) qk))))))))))),?_⟩
 dsimp only [Ww];refine exI rfl (exI rfl ⟨p,hs,x,rfl,hP,ok,x1,x2,a5,λpc us H1 _ s1 f1 C1=>?_⟩);have ch:=kn ok (x.toNat-1);have lc:=W1 (kj ch);have et:x.toNat-1+1=x.toNat:=Nat.sub_add_cancel (Int.lt_toNat.mpr x1);have lu:us.length=(xk hs (x.toNat-1)).length+1:=by rw[C1.1,lc]
 have bk:∀i c,(xk hs (x.toNat-1))[i]?=some c->c∈xk hs (x.toNat-1):=λi c e=>aE e;have bq:=@Yh _ _ _ ch;refine⟨sz0,λJ nw=>?_⟩;have s2:=Same.upd (o:=.lst []) nw;have f2:upd H1 J (.lst []) J=some (.lst []):=qu;have cw:pc≠J:=wj f1 nw;have ad:=s2 _ _ f1;generalize upd H1 J (.lst [])=H2 at s2 f2 ad;refine⟨sz0,λpm nm=>?_⟩;have s3:=Same.upd (o:=.lst []) nm;have wm:J≠pm:=wj f2 nm;have cm:pc≠pm:=wj ad nm;have ap:=s2.trans s3;have a0:H J=none:=j5 s1 nw;have a9:H pm=none:=j5 (s1.trans s2) nm;refine exI rfl ⟨_,_,rfl,.inl (SqL.of (s3 _ _ ad)),wy rfl rfl (exI rfl ⟨⋯,⋯,?_⟩)⟩;rw[show((us.length:Int)-1).toNat=(xk hs (x.toNat-1)).length by lia];refine vj (λi σ H'=>Same H H'/\∃(ks:List Int) (ms:List V) (Ms:List (Int×Int)) (z5 z6 z7:Option V),σ=[some (.ref p),some (.int x),some (.ref pc),some (.ref J),some (.ref pm),z5,z6,z7,none,none]/\H' pc=some (.lst us)/\CosV H' us (zm (xk hs (x.toNat-1)))/\H' J=some (.lst (ks.map V.int))/\(∀y∈ks,0<=y/\y<=24)/\ks.length<=i/\H' pm=some (.lst ms)/\Ms.length<=i/\Paired (PtV H') ms Ms/\MetI hs (x.toNat-1) i ks Ms)
  ⟨s1.trans ap,[],[],[],_,_,_,rfl,s3 _ _ ad,C1.same ap,s3 _ _ f2,λy hy=>(by cases hy),aQ _,qu,aQ _,.nil,.nil⟩ ?_ ?_
 .rintro i σ H4 hi ⟨s4,ks,ms,Ms,z5,z6,z7,rfl,fc,Cc,fw,hk,lk,fm,lm,bm,MI⟩;have ec:(xk hs (x.toNat-1))[i]?=some (xk hs (x.toNat-1))[i]:=aa hi;obtain⟨e1,e2⟩:=bq i _ ec;have ah:=bk i _ ec;generalize (xk hs (x.toNat-1))[i]=c at ec e1 e2 ah;have gc:=xm ch c ah;have u1:us[i]?=some us[i]:=aa ⋯;have u2:us[i+1]?=some us[i+1]:=aa ⋯;have a1:atI us ((0:Int)+i)=some us[i]:=by rw[dH];exact v6 u1
  have a2:atI us ((0:Int)+i+1)=some us[i+1]:=by rw[show(0:Int)+i+1=((i+1:Nat):Int) by lia];exact v6 u2
  have K1:=Cc.2 i _ _ u1 e1;have K2:=Cc.2 (i+1) _ _ u2 e2;generalize us[i]=vl at a1 K1;generalize us[i+1]=vr at a2 K2;refine exI rfl (exI rfl (exX rfl rfl (SqL.of fc) a1 ?_));refine exI rfl (exI rfl (wy rfl rfl (exX rfl rfl (SqL.of fc) a2 ?_)));obtain⟨qa,pa,rfl,ka,kb⟩:=id K1;obtain⟨qb,pb,rfl,kc,kd⟩:=id K2;have bs:0<=c.lft.2/\c.lft.2<=24:=by have:=gc.2.2.2.2.1;show 0<=c.a/\c.a<=24;lia
  refine⟨λσ H'=>Same H H'/\(∀b o,b≠J->H4 b=some o->H' b=some o)/\∃ks':List Int,σ=[some (.ref p),some (.int x),some (.ref pc),some (.ref J),some (.ref pm),some (.int ((0:Int)+i)),some (.ref qa),some (.ref qb),none,none]/\H' J=some (.lst (ks'.map V.int))/\(∀y∈ks',0<=y/\y<=24)/\ks'.length<=i+1/\((c.Wh/\ks'=ks++[c.a])\/(¬ c.Wh/\ks'=ks)),?_,?_⟩
  .refine exI rfl (exX rfl rfl (SqT.of ka) rfl (exI rfl (exX rfl rfl (SqT.of ka) rfl ⟨sz2,λp9 n9=>?_⟩)));have Z:=Same.upd (o:=.tup [.int c.lft.2,.int 1]) n9;refine⟨ptD c.lft.1,ptD (c.lft.2,1),qkr (SqT.of (Z _ _ kb)),qkr SqT.new,rfl,rfl,wvt,_,rfl,?_⟩;show if PyData.eqv (ptD c.lft.1) (ptD (c.lft.2,1))=true then _ else _
   generalize upd H4 p9 (.tup [.int c.lft.2,.int 1])=H9 at Z;rw[wz5];by_cases w1:c.lft.1=(c.lft.2,1);rotate_left
   .rw[aT w1];exact uc (uc ⟨s4.trans Z,λb o _ e=>Z b o e,ks,rfl,Z _ _ fw,hk,⋯,.inr ⟨λz=>w1 ((wz7 gc.1).mpr z).1,rfl⟩⟩)
   .rw[aF w1];refine y9 ?_;refine exI rfl (exX rfl rfl (SqT.of (Z _ _ kc)) rfl (exI rfl (exX rfl rfl (SqT.of (Z _ _ kc)) rfl ⟨sz2,λa8 bd=>?_⟩)));have a6:=Same.upd (o:=.tup [.int c.rgt.2,.int 1]) bd;have U:=Z.trans a6;refine⟨ptD c.rgt.1,ptD (c.rgt.2,1),qkr (SqT.of (U _ _ kd)),qkr SqT.new,rfl,rfl,wvt,_,rfl,?_⟩;show if PyData.eqv (ptD c.rgt.1) (ptD (c.rgt.2,1))=true then _ else _
    generalize upd H9 a8 (.tup [.int c.rgt.2,.int 1])=H10 at U;rw[wz5];by_cases w2:c.rgt.1=(c.rgt.2,1);rotate_left
    .rw[aT w2];exact uc ⟨s4.trans U,λb o _ e=>U b o e,ks,rfl,U _ _ fw,hk,⋯,.inr ⟨λz=>w2 ((wz7 gc.1).mpr z).2,rfl⟩⟩
    .rw[aF w2];refine y9 ?_;refine⟨_,rfl,.inl ⟨rfl,_,SqL.of (U _ _ fw)⟩,_,rfl,_,_,_,_,rfl,rfl,SqT.of (U _ _ ka),rfl,J,_,_,rfl,rfl,U _ _ fw,by rw[af];lia,?_⟩;refine⟨Same.upd2 (s4.trans U) a0,λb o nb e=>by rw[wx nb];exact U _ _ e,ks++[c.lft.2],rfl,by rw[qu,aK];rfl,λy hy=>?_,by rw[au];show ks.length+1<=i+1;lia,.inl ⟨(wz7 gc.1).mp ⟨w1,w2⟩,rfl⟩⟩;rcases aW.mp hy with hy|hy
     .exact hk y hy
     .rw[aM.mp hy];exact bs
  rintro σ H5 ⟨s5,k5,ks',rfl,fw5,hk5,lk5,wk5⟩;have nt:∀b o,(∀xs,o≠.lst xs)->H4 b=some o->H5 b=some o:=λb o no e=>k5 b o (λz=>by rw[z,fw]at e;exact no _ (aq e).symm) e;have b0:=k5 _ _ cw fc;have bx:=k5 _ _ (dF wm) fm;have b2:=Cc.keep nt;have b1:=jq bm nt;refine⟨_,rfl,_,rfl,_,rfl,_,_,hs,x.toNat-1,c,rfl,K1.keep nt,K2.keep nt,ok,⋯,ah,λq6 ws L6 H6 n6 L f6 l6 b6 g6=>?_⟩;have ab:=L _ _ bx;refine⟨pm,q6,ms,ws,rfl,rfl,ab,f6,by rw[bm.length,b6.length];lia,?_⟩;have kp:=wq3 (o':=.lst (ms++ws)) ab;refine⟨Same.upd2 (s5.trans L) a9,ks',ms++ws,Ms++L6,_,_,_,rfl,by rw[wx cm];exact L _ _ b0,(b2.same L).keep kp,by rw[wx wm];exact L _ _ fw5,hk5,lk5,qu,by rw[au];lia,jq (Paired.app (jq b1 λb o _ e=>L b o e) b6) kp,MI.step ok ec wk5 l6 g6⟩
 .rintro σ H4 ⟨s4,ks,ms,Ms,z5,z6,z7,rfl,fc,Cc,fw,hk,lk,fm,lm,bm,MI⟩;refine⟨sz0,λpp np=>?_⟩;have a3:=j5 s4 np;have s5:=Same.upd (o:=.lst []) np;have a7:pm≠pp:=wj fm np;have as:J≠pp:=wj fw np;refine⟨_,rfl,pm,rfl,⟨_,SqL.of (s5 _ _ fm)⟩,Yj (xs:=ms) (λi σ H'=>Same H H'/\∃(ps:List V) (W:List (Int×Int)) (z9:Option V),σ=[some (.ref p),some (.int x),some (.ref pc),some (.ref J),some (.ref pm),z5,z6,z7,some (.ref pp),z9]/\H' pm=some (.lst ms)/\H' J=some (.lst (ks.map V.int))/\Paired (PtV H') ms Ms/\H' pp=some (.lst ps)/\ps.length<=i/\Paired (PtV H') ps W/\PtI ks Ms i W)
   ⟨s4.trans s5,[],[],exI rfl ⟨s5 _ _ fm,s5 _ _ fw,jq bm λb o _ e=>s5 b o e,qu,aQ _,.nil,.nil⟩⟩ (λi σ H' _ h=>by obtain⟨_,ps,W,z9,_,f',_⟩:=h;exact SqL.of f') ?_ ?_⟩
  .rintro i v σ H6 ev ⟨L,ps,W,z9,rfl,ab,fw6,bm6,fp6,lp6,bp6,PI⟩;have bl:i<Ms.length:=by rw[<-bm6.length];exact(am.mp ev).1
   have eM:Ms[i]?=some Ms[i]:=aa bl;obtain⟨a,rfl,fa⟩:=pv_at bm6 ev eM;generalize Ms[i]=P' at eM fa;have hi:=(am.mp ev).1;refine exI rfl (exI rfl ⟨a,J,P',ks,rfl,SqT.of fa,SqL.of fw6,hk,?_⟩);refine exI rfl ?_;cases z:v8 ks P'
   .refine y9 ?_;refine exI rfl (exI rfl (exI rfl (exI rfl ⟨_,_,rfl,SqL.of fp6,λp7 n7=>?_⟩)));have D:=Same.upd (o:=.lst (Yy ps (some (-1)) none)) n7;have f7:upd H6 p7 (.lst (Yy ps (some (-1)) none)) p7=some (.lst (Yy ps (some (-1)) none)):=qu;generalize upd H6 p7 (.lst (Yy ps (some (-1)) none))=H7 at D f7;obtain⟨qs,pr,a4⟩:=xwc (jq bp6 λb o _ e=>D b o e);refine⟨p7,a,_,qs,P',rfl,rfl,f7,pr,D _ _ fa,_,rfl,?_⟩;show if(!decide (P'∈qs))=true then _ else _
    by_cases hq:P'∈qs
    .rw[aF hq];exact uc ⟨L.trans D,ps,W,_,rfl,D _ _ ab,D _ _ fw6,jq bm6 λb o _ e=>D b o e,D _ _ fp6,⋯,jq bp6 λb o _ e=>D b o e,PI.same eM (List.mem_of_getLast? ((a4 P').mp hq))⟩
    .rw[aT hq];refine y9 ?_;have an:=D _ _ fp6;refine⟨_,rfl,.inl ⟨rfl,_,SqL.of an⟩,_,rfl,pp,_,_,rfl,rfl,an,⋯,?_⟩;have kp:=wq3 (o':=.lst (ps++[.ref a])) an;refine⟨Same.upd2 (L.trans D) a3,ps++[.ref a],W++[P'],_,rfl,by rw[wx a7];exact D _ _ ab,by rw[wx as];exact D _ _ fw6,jq (jq bm6 λb o _ e=>D b o e) kp,qu,by rw[au];show ps.length+1<=i+1;lia,?_,?_⟩
     .exact jq (Paired.app (jq bp6 λb o _ e=>D b o e) (.cons ⟨a,rfl,D _ _ fa⟩ .nil)) kp
     .exact PI.add MI.mup (λQ hQ=>by obtain⟨c,_,f⟩:=(MI.mmem Q).mp hQ;exact f.1) eM z λy=>hq ((a4 P').mpr y)
   .exact uc (uc ⟨L,ps,W,_,rfl,ab,fw6,bm6,fp6,⋯,bp6,PI.in eM z⟩)
  .rintro σ H6 ⟨L,ps,W,z9,rfl,ab,fw6,bm6,fp6,lp6,bp6,PI⟩;refine exI rfl (exI rfl ⟨sz2,λq7 n7=>?_⟩);have D:=Same.upd (o:=.tup [.ref pp,.ref J]) n7;rw[bm6.length]at PI;have B:=Bk.of ok ⋯ MI PI;rw[et]at B;exact k q7 pp J ps W ks _ (L.trans D) qu (D _ _ fp6) (jq bp6 λb o _ e=>D b o e) (D _ _ fw6) a3 a0 (dF as) B (by have:=bm6.length;lia) ⋯
def wz9 (K:Aa):Sp:=λvs H Q _=>∃(p:Aj) (hs:List Int) (t b:Int),vs=[.ref p,.int t,.int b]/\SqL K H p (hs.map V.int)/\qt hs/\1<=b/\Sm 4000 b/\x6 hs t b/\Q (.int (x9 hs t b)) H
include T in
theorem xk2 (F:Fun K "_law_step" "_law_step" zb0 f fd):FK P w K mg base 1 f fd ["_law_heights_here","_law_top","_law_bottom"] (wz9 K):=by
 have Z:=qj0;refine F.okX Z (λvs H Q E h=>by obtain⟨_,_,_,_,rfl,_⟩:=h;rfl) λ_ _ _ _ H vs Q E hr h=>?_;obtain⟨p,hs,t,b,rfl,U,L,hb,sb,D,k⟩:=h;rw[<-xw3 L.1 hb D.1 D.2]at k;have hl:=L.2.1;have W:=fI D.1 (show(0:Int)<=b by lia);have k1:t/b<=(hs.length:Int)-1:=by have:=Int.ediv_le_ediv (show 0<b by lia) D.2;rwa [Int.mul_ediv_cancel _ (show b≠0 by lia)]at this
 have g1:=qjw L (t/b);have g2:=qjw L (t/b+1);refine⟨_,(qj (wg (i:=3) (q9 jc (pv 1) (pv 2)))
   (qj (zp (w8 j8 (q9 xq (pv 3) (pv 2)) (pv 1) (xv _)) (qr (xx (q9 xq (wn xr (pv 0) (pv 3) (λ_ _=>rfl)) (pv 2)))) xn)
   (qr (xx (q9 xj (q9 xq (wn xr (pv 0) (pv 3) (λ_ _=>rfl)) (pv 2)) (q9 xq (q9 zd (wn xr (pv 0) (q9 xj (pv 3) qv) (λ_ _=>rfl)) (wn xr (pv 0) (pv 3) (λ_ _=>rfl))) (q9 zd (pv 1) (q9 xq (pv 3) (pv 2))))))))),?_⟩
 refine exI rfl (exI rfl (wy rfl rfl ⟨⟨⋯,sb.mono ⋯⟩,exI rfl (exI rfl (wy rfl rfl ⟨IntMulOk.of_left (intBits_le_64 ⋯ ⋯),exI rfl ⟨rfl,_,rfl,?_⟩⟩))⟩));refine jr (λJ=>?_) (λJ=>?_)
 .refine exI rfl (exI rfl (exX rfl rfl U (qxc W ⋯) (exI rfl (wy rfl rfl ⟨IntMulOk.of_left (intBits_le_64 ⋯ ⋯),?_⟩))));rw[wkz,aw J]at k;exact k
 .have k2:t/b<(hs.length:Int)-1:=by
   rcases bh (t/b) ((hs.length:Int)-1) with z|z
   .exact z
   .have e:t/b=(hs.length:Int)-1:=by lia
    have h1:t/b*b<=t:=fJ t ⋯;have h2:=D.2;rw[<-e]at h2;exact absurd ⋯ J
  refine exI rfl (exI rfl (exX rfl rfl U (qxc W ⋯) (exI rfl (wy rfl rfl ⟨IntMulOk.of_left (intBits_le_64 ⋯ ⋯),exI rfl (exI rfl (wy rfl rfl (exX rfl rfl U (qxc ⋯ ⋯) (exI rfl (exI rfl (exX rfl rfl U (qxc W ⋯) (wy rfl rfl (exI rfl (exI rfl (exI rfl (wy rfl rfl ⟨IntMulOk.of_left (intBits_le_64 ⋯ ⋯),wy rfl rfl (wy rfl rfl ⟨IntMulOk.of_left (intBits_le_64 ⋯ ⋯),wy rfl rfl ?_⟩)⟩)))))))))))⟩))));rw[wkz,ar J]at k;exact k
theorem qvw {t:Int}(hb:1<=b)(n:Nat):trT hs t b n=t↔trT hs (wv t b).1 (wv t b).2 n=(wv t b).1:=by
 have z:=zx (t:=t) hb;have J:=Yw (hs:=hs) (t:=t) hb n;have D:=Yw (hs:=hs) (t:=(wv t b).1) z n;have F:wv (wv t b).1 (wv t b).2=wv t b:=jf z (Yq hb);rw[F]at D;constructor
 .intro h;rw[h]at J;have:=(yq z z).mpr ((D.trans J.symm).trans F.symm);exact dO ⋯ this
 .intro h;rw[h,F]at D;have:=(yq hb hb).mpr (J.trans D.symm);exact dO ⋯ this
theorem xjn (ok:qt hs):∃k:Int,0<=k/\k<(hs.length:Int)-1/\k<=hAt hs k/\hAt hs (k+1)<=k+1:=by
 apply cu;intro D;have J:=ok.1;have F:∀j:Nat,(j:Int)<=(hs.length:Int)-1->(j:Int)<=hAt hs j:=λj=>by
  induction j with
  |zero=>intro _;exact(Wf ok _).1
  |succ j ih =>
   intro L;have:=ih ⋯;have:¬ hAt hs ((j:Int)+1)<=(j:Int)+1:=λz=>D ⟨j,⋯,⋯,this,z⟩;rw[show((j+1:Nat):Int)=(j:Int)+1 by lia];lia
 have a:=F (hs.length-2) ⋯;have b:=(Wf ok (((hs.length-2:Nat):Int)+1)).2;exact D ⟨((hs.length-2:Nat):Int),⋯,⋯,a,⋯⟩
theorem fix_at (ok:qt hs):∃t b:Int,1<=b/\x6 hs t b/\x9 hs t b=t:=by
 obtain⟨k,D,U,h1,h2⟩:=xjn ok;have J:∀b:Int,1<=b->(hAt hs (k+1)-hAt hs k)*(hAt hs k-k)+hAt hs k*b=k*b+(hAt hs k-k)->0<=hAt hs k-k->hAt hs k-k<=b->∃t b:Int,1<=b/\x6 hs t b/\x9 hs t b=t:=λb F e x0 Z=>by have p0:=aX D (show 0<=b by lia);have L:=aj (show k+1<=(hs.length:Int)-1 by lia) (show 0<=b by lia);rw[be,aS]at L;refine⟨k*b+(hAt hs k-k),b,F,⟨⋯,⋯⟩,?_⟩;rw[vh D U F ⋯ (by rw[be,aS];lia),show k*b+(hAt hs k-k)-k*b=hAt hs k-k by lia];lia
 by_cases z:hAt hs k-k+(k+1-hAt hs (k+1))=0
 .have W:hAt hs k=k:=by lia
  refine J 1 ⋯ ?_ ⋯ ⋯;rw[W,Int.sub_self,dk];lia
 .refine J (hAt hs k-k+(k+1-hAt hs (k+1))) ⋯ ?_ ⋯ ⋯;generalize hx:hAt hs k-k=x;generalize hy:k+1-hAt hs (k+1)=y;rw[show hAt hs (k+1)-hAt hs k=1-(x+y) by lia,show hAt hs k=k+x by lia,gf,aS];simp only[be,jP,bj y x];lia
theorem wkg (ok:qt hs):quy hs 1:=by
 obtain⟨t,b,D,W,e⟩:=fix_at ok;have U:trT hs (wv t b).1 (wv t b).2 1=(wv t b).1:=(qvw D 1).mp e;have L:=zx (t:=t) D;have J:=Yq (t:=t) D;have lo:=wzb D W;generalize wv t b=p at U L J lo;have F:∀p,(uk hs 1 p\/∃k,kh hs 1 k/\p=(3*k+1,3))->vq hs p 1:=λp h=>⟨λi j a b=>by lia,(Yf ok ⋯ ⋯ h).2.2⟩;by_cases w:∃k,kh hs 1 k
 .obtain⟨k,z⟩:=w;exact⟨(3*k+1,3),.inr ⟨k,z,rfl⟩,F _ (.inr ⟨k,z,rfl⟩)⟩
 .rcases(Qx ok ⋯ ⋯ L J lo).mp U with s|⟨k,z,_⟩
  .exact⟨p,.inl ⟨s,λ⟨k,z,_⟩=>w ⟨k,z⟩⟩,F p (.inl s)⟩
  .exact absurd ⟨k,z⟩ w
theorem in_int (x:Int)(ws:List Int):inV (.int x) (ws.map V.int)=decide (x∈ws):=by
 unfold inV;rw[List.any_map,cA,cC,eR];constructor
 .rintro⟨y,z,e⟩;have e:decide (y=x)=true:=e;exact c0 e▸z
 .intro h;exact⟨x,h,aF rfl⟩
def LstP (hs:List Int)(t b:Int)(m:Nat):Prop:=trT hs t b m=t/\∀j:Nat,1<=j->j<m->trT hs t b j≠t
theorem xqw {c:Int}(h:Pt hs c p)(m:Nat):LstP hs p.1 p.2 m↔vq hs p m:=by
 constructor
 .rintro⟨e,D⟩;refine⟨λi j J F z=>?_,(Zg h m 0).mpr e⟩;have:=wj2 (f:=trT hs p.1 p.2) xzd ((Zg h i j).mp z).symm (m-j);rw[show j+(m-j)=m by lia,e]at this;exact D (i+(m-j)) ⋯ ⋯ this.symm
 .rintro⟨d,e⟩;exact⟨(Zg h m 0).mp e,λj h1 h2 z=>d 0 j ⋯ h2 ((Zg h j 0).mpr z).symm⟩
def qvk (K:Aa):Sp:=λvs H Q _=>∃(p q:Aj) (hs:List Int) (t b m:Int),vs=[.ref p,.ref q,.int m]/\SqL K H p (hs.map V.int)/\qt hs/\H q=some (.tup [.int t,.int b])/\1<=b/\Sm 4000 b/\x6 hs t b/\1<=m/\m<=12/\∀r:Int,(r=m↔LstP hs t b m.toNat)->Q (.int r) H
include T in
theorem wuu (F:Fun K "_law_least" "_law_least" zb1 f fd)(zfx:Cal P w K mg base "_law_step" 1 (wz9 K)):FK P w K mg base 2 f fd ["_law_heights_here","_law_point","_law_most"] (qvk K):=by
 have U:=qky;refine F.okX U (λvs H Q E h=>by obtain⟨_,_,_,_,_,_,rfl,_⟩:=h;rfl) λ_ _ _ _ H vs Q E hr h=>?_;obtain⟨p,q,hs,t,b,m,rfl,hS,J,hq,L,W,Z,m1,m2,k⟩:=h;have D:SqT K H q [.int t,.int b]:=SqT.of hq;refine⟨_,(qj (wg (i:=3) (wn wt (pv 1) qv (λ_ _=>rfl)))
   (qj (ky aV rfl (Jp rfl T.range_ (qw qv (qw (q9 xj (pv 2) qv) qk))) (xz (i:=4)) (qj (wg (i:=3) (wu zfx (hr.mono ⋯) rfl q8 (qw (pv 0) (qw (pv 3) (qw (wn wt (pv 1) qv (λ_ _=>rfl)) qk)))))
   (qr (zp (w8 j8 (pv 3) (wn wt (pv 1) qv (λ_ _=>rfl)) (xv _)) (qr (xx (pv 4))) xn))))
   (qr (xx qv)))),?_⟩
 refine exI rfl (exX rfl rfl D rfl ?_);refine exI rfl (wy rfl rfl ⟨_,_,rfl,⟨⋯,⋯,⋯,⋯⟩,?_⟩);rw[show(m+1-1).toNat=m.toNat by lia];refine vj (λi σ H'=>H'=H/\(∀j:Nat,1<=j->j<=i->trT hs t b j≠t)/\∃z,σ=[some (.ref p),some (.ref q),some (.int m),some (.int (trT hs t b i)),z]) ⟨rfl,λj h1 h2=>by lia,_,rfl⟩ ?_ ?_
 .rintro i σ H1 hi ⟨rfl,no,z,rfl⟩;refine exI rfl (exI rfl (exI rfl (exX rfl rfl D rfl ⟨p,hs,trT hs t b i,b,rfl,hS,J,L,W,W0 J L Z i,?_⟩)));refine exI rfl (exI rfl (exX rfl rfl D rfl ⟨rfl,_,rfl,jr (λz=>?_) (λz=>?_)⟩))
  .have z:trT hs t b (i+1)=t:=z;refine exI rfl (k _ ⟨λe=>⟨?_,λj h1 h2=>no j h1 ⋯⟩,λh=>?_⟩)
   .rw[show m.toNat=i+1 by lia];exact z
   .rcases bF (i+1) m.toNat with y|y
    .exact absurd z (h.2 (i+1) ⋯ y)
    .lia
  .refine⟨rfl,λj h1 h2=>?_,_,rfl⟩;rcases(by lia:j<=i\/j=i+1) with y|y
   .exact no j h1 y
   .rw[y];exact z
 .rintro σ H1 ⟨rfl,no,z,rfl⟩;exact k 0 ⟨λe=>by lia,λh=>absurd h.1 (no m.toNat ⋯ (ak _))⟩
theorem Bk.mem {pts:List (Int×Int)}{ws:List Int}(B:Bk hs m pts ws){p:Int×Int}:p∈zf pts ws↔((uk hs m p/\¬ ∃k,kh hs m k/\k*p.2<=p.1/\p.1<=(k+1)*p.2)\/∃k,kh hs m k/\p=(3*k+1,3)):=by
 unfold zf;rw[aW,B.pmem];have l:v8 ws p=false↔¬ ∃k,kh hs m k/\k*p.2<=p.1/\p.1<=(k+1)*p.2:=by
  cases hz:v8 ws p with
  |true =>
   obtain⟨k,D,e⟩:=cC.mp hz;exact⟨λz=>absurd z Bool.noConfusion,λz=>absurd ⟨k,(B.wmem k).mp D,c0 e⟩ z⟩
  |false =>
   refine⟨λ_ ⟨k,D,e⟩=>?_,λ_=>rfl⟩;have:v8 ws p=true:=cC.mpr ⟨k,(B.wmem k).mpr D,aF e⟩;rw[this]at hz;cases hz
 rw[l,az];exact⟨λh=>h.imp id λ⟨k,D,e⟩=>⟨k,(B.wmem k).mp D,e.symm⟩,λh=>h.imp id λ⟨k,D,e⟩=>⟨k,(B.wmem k).mpr D,e.symm⟩⟩
def qy1 (K:Aa):Sp:=λvs H Q _=>∃(p:Aj) (hs:List Int) (m:Int),vs=[.ref p,.int m]/\SqL K H p (hs.map V.int)/\qt hs/\1<=m/\m<=12/\(zm (xk hs (m.toNat-1))).length<=4000 /\
 ∀(q:Aj) (us:List V) (pts:List (Int×Int)) (ws:List Int) (H':Hp),H q=none->Same H H'->H' q=some (.lst us)->Paired (PtR H') us (zf pts ws)->Bk hs m.toNat pts ws->us.length<=8000->Q (.ref q) H'
include T in
theorem xq8 (F:Fun K "_law_some" "_law_some" zb2 f fd)(zfy:Cal P w K mg base "_law_back" 5 (qy5 K)):FK P w K mg base 6 f fd ["_law_heights_here","_law_many"] (qy1 K):=by
 have sc:=quz;refine F.okX sc (λvs H Q E h=>by obtain⟨_,_,_,rfl,_⟩:=h;rfl) λ_ _ _ _ H vs Q E hr h=>?_;obtain⟨p,hs,m,rfl,hS,U,m1,m2,an,k⟩:=h;have o2:=U.2.1;have a1:(1000000:Nat)<sizeLine:=by decide
 refine⟨_,(qj (yn (wu zfy (hr.mono ⋯) rfl q8 (qw (pv 0) (qw (pv 1) qk))) (yz rfl (xt (xz (i:=2)) (xt (xz (i:=3)) jw))))
   (qr (xx (q9 Z7 (pv 2) (zr (M:=[]) rfl rfl (by walk_at "cap") (by walk_at "has") (by walk_at "cix") rfl (by decide +kernel) rfl (show List.Nodup (["_law_k"]:List Str) by decide +kernel) (zc (pv 3)) (λ_ _ _ _ _=>(vy (qw (q9 xj (q9 xq qv (pv 0)) qv) (qw qv qk))))))))),?_⟩
 refine exI rfl (exI rfl ⟨p,hs,m,rfl,hS,U,m1,m2,an,λqb pl pw us Ps W H1 s1 ap as P1 ah _ _ _ BK lu lk=>?_⟩);refine⟨qb,exI rfl ⟨SqT.of ap,rfl,_,_,rfl,_,_,rfl,rfl,?_⟩⟩;refine exI rfl (exI rfl ⟨pw,rfl,⟨_,SqL.of ah⟩,Zp (K:=K) (λi v H=>PtR H v (3*W.getD i 0+1,3)) (λi v H H' g st=>qxk g st) (SqL.of ah) (by rw[af];lia) (λi x H2 R hx s2 ad=>?_) λp3 L Z a0 D f3 l3 g3=>?_⟩)
 .rw[ax]at hx;obtain⟨z,J,rfl⟩:=cL.mp hx;have wz:=qzp U ⋯ ((BK.wmem z).mp (aE J));rw[vc J]at ad;exact exI rfl (wy rfl rfl ⟨IntMulOk.of_left (intBits_le_64 ⋯ ⋯),wy rfl rfl ⟨sz2,λp np=>ad _ _ (Same.upd np) ⟨p,rfl,qu⟩⟩⟩)
 rw[af]at l3;have P3:Paired (PtR Z) (us++L) (zf Ps W):=by refine Paired.app (L2.Paired.mono (λ_ _ x=>PtR.same x D) P1) (qzr (by rw[af];exact l3) λi x y ex ey=>?_);rw[ax]at ey;obtain⟨z,J,rfl⟩:=cL.mp ey;have:=g3 i x ex;rwa [vc J]at this
 refine⟨pl,p3,us,L,rfl,rfl,D _ _ as,f3,⋯,λp4 ab=>?_⟩;have s4:Same Z (upd Z p4 (.lst (us++L))):=Same.upd ab;exact k p4 _ Ps W _ (j5 (s1.trans D) ab) (s1.trans (D.trans s4)) qu (L2.Paired.mono (λ_ _ x=>PtR.same x s4) P3) BK (by rw[au];lia)
def qu0 (K:Aa):Sp:=λvs H Q _=>∃(p:Aj) (hs:List Int) (m:Int),vs=[.ref p,.int m]/\SqL K H p (hs.map V.int)/\qt hs/\0<=m/\m<=12/\(∀l:Nat,1<=l->l<=m.toNat->(zm (xk hs (l-1))).length<=4000) /\
 ∀(q:Aj) (H':Hp),H q=none->Same H H'->H' q=some (.lst ((vx hs m.toNat).map V.int))->Q (.ref q) H'
include T in
theorem xzb (F:Fun K "_law_lengths" "_law_lengths" zb3 f fd)(zfz:Cal P w K mg base "_law_some" 6 (qy1 K))(zf0:Cal P w K mg base "_law_least" 2 (qvk K)):FK P w K mg base 7 f fd ["_law_heights_here","_law_most"] (qu0 K):=by
 have sc:=qwc;refine F.okX sc (λvs H Q E h=>by obtain⟨_,_,_,rfl,_⟩:=h;rfl) λ_ _ _ _ H vs Q E hr h=>?_;obtain⟨p,hs,m,rfl,hS,ok,m1,m2,short,k⟩:=h;have big:(1000000:Nat)<sizeLine:=by decide
 refine⟨_,(qj (wg (i:=2) (vt qk))
   (qj (ky aV rfl (Jp rfl T.range_ (qw qv (qw (q9 xj (pv 1) qv) qk))) (xz (i:=3)) (qr (ky aV rfl (zc (wu zfz (hr.mono ⋯) rfl q8 (qw (pv 0) (qw (pv 3) qk)))) (xz (i:=4)) (qr (zp (PW.pt (Zs (w8 j8 (wu zf0 (hr.mono ⋯) rfl q8 (qw (pv 0) (qw (pv 4) (qw (pv 3) qk)))) (pv 3) (xv _)) (Qt (w8 qyw (pv 3) (pv 2) rfl)))) (qr (vg (Zd bK bN bO vn (pv 2) (qw (pv 3) qk)))) xn)))))
   (qr (xx (pv 2))))),?_⟩
 refine⟨sz0,λpm nm=>?_⟩;refine exI rfl (wy rfl rfl ⟨_,_,rfl,⟨⋯,⋯,⋯,⋯⟩,?_⟩);rw[show(m+1-1).toNat=m.toNat by lia];refine vj (λi σ H'=>Same H H'/\H' pm=some (.lst ((vx hs i).map V.int))/\∃z3 z4,σ=[some (.ref p),some (.int m),some (.ref pm),z3,z4]) ⟨Same.upd nm,qu,_,_,rfl⟩ ?_ ?_
 .rintro i σ H1 hi ⟨s1,f1,z3,z4,rfl⟩;have e3:((1:Int)+i).toNat=1+i:=by lia
  have e4:((1:Int)+i).toNat-1=(1+i)-1:=by lia
  refine⟨_,rfl,_,rfl,p,hs,(1:Int)+i,rfl,s1.sql hS,ok,⋯,⋯,by rw[e4];exact short (1+i) ⋯ ⋯,λq us pts ws H2 nq s2 f2 P2 BK lu=>?_⟩;rw[e3]at BK;have fm2:=s2 _ _ f1;have pq:pm≠q:=wj f1 nq;have ll:=qxp hs i;refine⟨q,rfl,⟨_,SqL.of f2⟩,Yj (xs:=us) (λj σ H'=>Same H H'/\(∀b o,b≠pm->H2 b=some o->H' b=some o)/\(∃b:Bool,(b=true↔∃P∈(zf pts ws).take j,vq hs P (1+i))/\H' pm=some (.lst ((vx hs i++if b=true then [(1:Int)+i] else []).map V.int)))/\∃z4,σ=[some (.ref p),some (.int m),some (.ref pm),some (.int ((1:Int)+i)),z4])
   ⟨s1.trans s2,λb o _ e=>e,⟨false,⟨λz=>(by cases z),λ⟨_,h,_⟩=>(by cases h)⟩,by rw[ar ⋯,bE];exact fm2⟩,_,rfl⟩ (λj σ H' _ h=>by obtain⟨_,h2,_⟩:=h;exact SqL.of (h2 _ _ (dF pq) f2)) ?_ ?_⟩
  .rintro j v σ H3 ev ⟨s3,k3,⟨b,hb,f3⟩,z4,rfl⟩;have hj:j<(zf pts ws).length:=by rw[<-P2.length];exact(am.mp ev).1
   have eP:(zf pts ws)[j]?=some (zf pts ws)[j]:=aa hj;generalize (zf pts ws)[j]=P0 at eP;obtain⟨pt,ept,a,rfl,fa⟩:=W7 P2 ev;obtain rfl:P0=pt:=aq (eP.symm.trans ept);obtain⟨okp,hpt,_⟩:=Yf ok (m:=1+i) ⋯ ⋯ ((BK.mem.mp (aE eP)).imp (λz=>z.1) id);have fa3:=k3 a _ (λz=>by rw[z,fm2]at fa;cases fa) fa;have pon:x6 hs P0.1 P0.2:=hpt.2.2.2;refine⟨_,rfl,_,rfl,_,rfl,p,a,hs,P0.1,P0.2,(1:Int)+i,rfl,s3.sql hS,ok,fa3,hpt.1,okp.2.2.mono ⋯,pon,⋯,⋯,λr hr'=>?_⟩;rw[e3,xqw hpt]at hr';have stay:(vq hs P0 (1+i)->b=true)->(b=true↔∃P∈(zf pts ws).take (j+1),vq hs P (1+i)):=λh=>by
    rw[hb];constructor
    .rintro⟨P,hP,l⟩;exact⟨P,(vv eP P).mpr (.inl hP),l⟩
    .rintro⟨P,hP,l⟩;rcases(vv eP P).mp hP with z|rfl
     .exact⟨P,z,l⟩
     .exact hb.mp (h l)
   have lM:((vx hs i++if b=true then [(1:Int)+i] else []).map V.int).length<=13:=by
    rw[af,au];split
    .show _+1<=13;lia
    .show _+0<=13;lia
   refine exI rfl ⟨rfl,_,rfl,jr (λz=>?_) (λz=>?_)⟩
   .have li:=hr'.mp z;refine exI rfl (exI rfl ⟨pm,exI rfl ⟨.inl (SqL.of f3),rfl,xqj _,_,rfl,?_⟩⟩);have mm:((1:Int)+i∈(vx hs i++if b=true then [(1:Int)+i] else []))↔b=true:=by
     rw[aW,xzh];constructor
     .rintro (⟨_,h,_⟩|h)
      .lia
      .split at h
       .rename_i e;exact e
       .cases h
     .intro e;rw[aw e];exact .inr (aM.mpr rfl)
    show if(!inV (.int ((1:Int)+i)) ((vx hs i++if b=true then [(1:Int)+i] else []).map V.int))=true then _ else _
    rw[in_int];cases b with
    |true =>
     rw[aF (mm.mpr rfl)];exact uc ⟨s3,k3,⟨true,stay λ_=>rfl,f3⟩,_,rfl⟩
    |false =>
     rw[aT (λh=>by cases mm.mp h)];refine y9 ?_;refine⟨_,rfl,.inl ⟨rfl,_,SqL.of f3⟩,_,rfl,pm,_,_,rfl,rfl,f3,⋯,?_⟩;refine⟨Same.upd2 s3 nm,λb o nb e=>by rw[wx nb];exact k3 b o nb e,⟨true,⟨λ_=>⟨P0,(vv eP P0).mpr (.inr rfl),li⟩,λ_=>rfl⟩,?_⟩,_,rfl⟩;rw[qu,ar ⋯,aw rfl,bE,aK];rfl
   .exact uc ⟨s3,k3,⟨b,stay λl=>absurd (hr'.mpr l) z,f3⟩,_,rfl⟩
  .rintro σ H3 ⟨s3,k3,⟨b,hb,f3⟩,z4,rfl⟩;refine⟨s3,?_,_,_,rfl⟩;rw[P2.length,bf]at hb;rw[f3,Qz];have:b=qvh hs (1+i):=by rw[cA,hb,hasB_iff];exact⟨λ⟨P,hP,l⟩=>⟨P,BK.mem.mp hP,l⟩,λ⟨P,hP,l⟩=>⟨P,BK.mem.mpr hP,l⟩⟩
   rw[this]
 .rintro σ H1 ⟨s1,f1,z3,z4,rfl⟩;exact exI rfl (k pm H1 nm s1 f1)
theorem wqx (ok:qt hs){m:Nat}(m1:1<=m)(m2:m<=12):quy hs m↔∃t b:Int,1<=b/\x6 hs t b/\trT hs t b m=t/\∀j,0<j->j<m->trT hs t b j≠t:=by
 constructor
 .rintro⟨p,cp,d,e⟩;obtain⟨_,D,_⟩:=Yf ok m1 m2 (p:=p) (cp.elim (λh=>.inl h.1) λh=>.inr h);exact⟨p.1,p.2,D.1,D.2.2.2,(Zg D m 0).mp e,λj L J z=>d 0 j L J ((Zg D 0 j).mpr z.symm)⟩
 .rintro⟨t,b,U,on,ah,ad⟩;have W:=zx (t:=t) U;have lg:=Yq (t:=t) U;have lo:=wzb U on;have mb:=(qvw U m).mp ah;have nb:∀j,0<j->j<m->trT hs (wv t b).1 (wv t b).2 j≠(wv t b).1:=λj L J z=>ad j L J ((qvw U j).mpr z);generalize wv t b=p at W lg lo mb nb;have D:Pt hs p.2 p:=⟨W,bV _,lg,lo⟩;have ab:∀ {c:Int×Int},Pt hs c.2 c->trT hs c.1 c.2 m=c.1->(∀j,0<j->j<m->trT hs c.1 c.2 j≠c.1)->vq hs c m:=λ{c} hc h0 h1=>by refine⟨λi j ij jm z=>?_,(Zg hc m 0).mpr h0⟩;have z:=(Zg hc i j).mp z;have h2:=wj2 (f:=trT hs c.1 c.2) xzd z (m-j);rw[show j+(m-j)=m by lia,h0]at h2;exact h1 (i+(m-j)) ⋯ ⋯ h2
  by_cases w:∃k,kh hs m k/\k*p.2<=p.1/\p.1<=(k+1)*p.2
  .obtain⟨k,hk,l1,l2⟩:=w;obtain⟨_,ht,e⟩:=Yf ok m1 m2 (p:=(3*k+1,3)) (.inr ⟨k,hk,rfl⟩);refine⟨(3*k+1,3),.inr ⟨k,hk,rfl⟩,ab ht ((Zg ht m 0).mp e) λj L J z=>?_⟩;obtain⟨c,d,rfl,un,_,_⟩:=xw7 ok m1 m2 hk;have F:=qw4 (λi (_:i<m)=>un i) (b:=3) (x:=1) ⋯ ⋯ ⋯ j ⋯;rw[show c 0*3+1=3*c 0+1 by lia]at F;have z:trT hs (3*c 0+1) 3 j=3*c 0+1:=z;rw[z]at F;rw[be,aS]at l2;have Z:=qw4 (λi (_:i<m)=>un i) (b:=p.2) (x:=p.1-c 0*p.2) W ⋯ ⋯ j ⋯;rw[show c 0*p.2+(p.1-c 0*p.2)=p.1 by lia]at Z;cases hz:jp d j with
   |false =>
    rw[hz]at F Z;simp only[inS,aD,bA]at F Z;have ec:c j=c 0:=by lia
    rw[ec]at Z;exact nb j L J ⋯
   |true =>
    rw[hz]at F;simp only[inS,cV]at F;lia
  .refine⟨p,.inl ⟨?_,w⟩,ab D mb nb⟩;rcases(Qx ok m1 m2 W lg lo).mp mb with s|s
   .exact s
   .exact absurd s w
theorem qun (hs:List Int):∀(s:Nat) (k:Int),0<=zy hs s k
 |0,_=>by show(0:Int)<=1;decide
 |s+1,k=>by
  show 0<=((zg hs k).map (zy hs s)).sum;generalize zg hs k=L
  induction L with
  |nil=>exact bV _
  |cons x L ih=>rw[aC,bi];have:=qun hs s x;lia
theorem yg (n m:Nat)(g:Nat->Int):(x8 (n+m) g).sum=(x8 n g).sum+(x8 m λj=>g (n+j)).sum:=by
 induction m with
 |zero=>show(x8 n g).sum=(x8 n g).sum+0;lia
 |succ m ih =>
  rw[<-Nat.add_assoc,vk,vk,bZ,bZ,ih];simp only[bi,eG];lia
theorem wx7 (h:∀i,0<=g i):0<=(x8 n g).sum:=by
 induction n with
 |zero=>exact bV _
 |succ n ih =>
  rw[vk,bZ];have:=h n;simp only[bi,eG];lia
theorem vf (e:∀i,i<n->g i=h i):x8 n g=x8 n h:=bw λi hi=>e i (al.mp hi)
theorem Qy (h0:0<=k)(h1:k<hs.length):hAt (wp hs) k=(hs.length:Int)+hAt hs k:=by unfold hAt wp;rw[ae,ae,aU (by rw[af];lia),ax,aa (show k.toNat<hs.length by lia)];show(hs.length:Int)-1+1+_=_;simp only[Option.getD_some];lia
theorem Qw (h0:(hs.length:Int)<=k)(h1:k<2*(hs.length:Int)):hAt (wp hs) k=k-hs.length:=by unfold hAt wp;rw[ae,aG (by rw[af];lia),af,ax,bg ⋯];show(0:Int)+((k.toNat-hs.length:Nat):Int)=_;lia
theorem qkp {t:Int}(hok:qt hs)(hb:1<=b)(hon:x6 hs t b):x9 (wp hs) t b=x9 hs t b+(hs.length:Int)*b:=by
 have r:=qj4 hok.1 hb hon.1;have hk:kF hs t b*b<=t/\t<=(kF hs t b+1)*b:=by
  have d0:=eQ t b;have d1:=bY t (show b≠0 by lia);have d2:=bM t (show 0<b by lia);have hh:=hon.2;unfold kF;split
  .rename_i g;have:((hs.length:Int)-1-1+1)*b<=t/b*b:=aj ⋯ ⋯;constructor <;> grind
  .constructor <;> grind
 have l:=jg hs;rw[vh (k:=kF hs t b) r.1 (by rw[l];lia) hb hk.1 hk.2,vh (hs:=hs) (k:=kF hs t b) r.1 r.2 hb hk.1 hk.2,Qy r.1 ⋯,Qy ⋯ ⋯];generalize hAt hs (kF hs t b)=u;generalize hAt hs (kF hs t b+1)=v;generalize kF hs t b=k;grind
theorem qqj {t:Int}(hok:qt hs)(hb:1<=b)(h0:0<=t)(h1:t<=((hs.length:Int)-1)*b):x9 (wp hs) (t+(hs.length:Int)*b) b=t:=by
 have l:=jg hs;have l2:=hok.1;have r:=qj4 (hs:=hs) (t:=t) hok.1 hb h0;have hk:kF hs t b*b<=t/\t<=(kF hs t b+1)*b:=by
  have d0:=eQ t b;have d1:=bY t (show b≠0 by lia);have d2:=bM t (show 0<b by lia);unfold kF;split
  .rename_i g;have:((hs.length:Int)-1-1+1)*b<=t/b*b:=aj ⋯ ⋯;constructor <;> grind
  .constructor <;> grind
 rw[vh (k:=kF hs t b+hs.length) ⋯ (by rw[l];lia) hb (by grind) (by grind),Qw ⋯ ⋯,Qw ⋯ ⋯];generalize kF hs t b=k;grind
theorem qqz {t:Int}(ok:qt hs)(hb:1<=b)(on:x6 hs t b)(n:Nat):trT (wp hs) t b (2*n)=trT hs t b n/\trT (wp hs) t b (2*n+1)=trT hs t b (n+1)+(hs.length:Int)*b:=by
 have z:∀n,trT (wp hs) t b (2*n)=trT hs t b n->trT (wp hs) t b (2*n+1)=trT hs t b (n+1)+(hs.length:Int)*b:=λn e=>by show x9 (wp hs) (trT (wp hs) t b (2*n)) b=x9 hs (trT hs t b n) b+_;rw[e,qkp ok hb (W0 ok hb on n)]
 induction n with
 |zero=>exact⟨rfl,z 0 rfl⟩
 |succ n ih =>
  have e:trT (wp hs) t b (2*(n+1))=trT hs t b (n+1):=by show x9 (wp hs) (trT (wp hs) t b (2*n+1)) b=_;obtain⟨F,D⟩:=W0 ok hb on (n+1);rw[ih.2,qqj ok hb F D]
  exact⟨e,z _ e⟩
theorem Y9 (ok:qt hs){k:Int}(h0:0<=k)(h1:k<(hs.length:Int)-1):zg (wp hs) k=(zg hs k).map λx=>x+(hs.length:Int):=by
 have z:loH (wp hs) k=loH hs k+hs.length/\hiH (wp hs) k=hiH hs k+hs.length:=by unfold loH hiH;rw[Qy h0 ⋯,Qy ⋯ ⋯];unfold jj yp;constructor <;> (split <;> split <;> lia)
 unfold zg;rw[z.1,z.2,aN,show(hiH hs k+(hs.length:Int)-(loH hs k+hs.length))=hiH hs k-loH hs k by lia];refine bw λj _=>?_;show loH hs k+(hs.length:Int)+j=loH hs k+j+hs.length;lia
theorem Y5 (h0:0<=k)(h1:k<(hs.length:Int)-1):zg (wp hs) (k+hs.length)=[k]:=by
 have z:loH (wp hs) (k+hs.length)=k/\hiH (wp hs) (k+hs.length)=k+1:=by unfold loH hiH;rw[Qw ⋯ ⋯,Qw ⋯ ⋯];unfold jj yp;constructor <;> (split <;> lia)
 unfold zg;rw[z.1,z.2,show(k+1-k).toNat=1 by lia];show[k+(0:Nat)]=[k];congr 1;lia
theorem qwr (ok:qt hs):∀(s:Nat) (k:Int),0<=k->k<(hs.length:Int)-1->zy (wp hs) (2*s) k=zy hs s k
 |0,_,_,_=>rfl
 |s+1,k,h0,h1=>by show((zg (wp hs) k).map (zy (wp hs) (2*s+1))).sum=((zg hs k).map (zy hs s)).sum;rw[Y9 ok h0 h1,aN];congr 1;refine bw λx hx=>?_;obtain⟨j,hj,rfl⟩:=az.mp hx;have hj:=al.mp hj;have l:=qy9 ok k;show((zg (wp hs) (loH hs k+j+hs.length)).map (zy (wp hs) (2*s))).sum=_;rw[Y5 ⋯ ⋯,<-qwr ok s _ ⋯ ⋯];exact dI _
theorem cr_dbl (ok:qt hs)(s:Nat):crS hs s<=crS (wp hs) (2*s):=by
 have z:=ok.1;have e:crS (wp hs) (2*s)=crS hs s+(x8 hs.length λj=>zy (wp hs) (2*s) ((hs.length-1+j:Nat):Int)).sum:=by unfold crS;rw[jg,show hs.length+hs.length-1=(hs.length-1)+hs.length by lia,yg];congr 2;exact vf λi hi=>qwr ok s i ⋯ ⋯
 have:0<=(x8 hs.length λj=>zy (wp hs) (2*s) ((hs.length-1+j:Nat):Int)).sum:=wx7 λi=>qun _ _ _;lia
theorem wkp {t:Int}(h:trT hs t b m=t)(j:Nat):trT hs t b (m+j)=trT hs t b j:=by rw[<-qqd,h]
theorem xv4 (ok:qt hs)(okd:qt (wp hs)){m:Nat}(m1:1<=m)(m2:m<=12):quy (wp hs) m↔m=1\/(m%2=0/\quy hs (m/2)):=by
 have o1:=ok.1;have l:=jg hs;have an:∀ {t b:Int},1<=b->x6 hs t b->trT (wp hs) t b m=t->(∀j,0<j->j<m->trT (wp hs) t b j≠t)->m%2=0/\quy hs (m/2):=λ{t b} D F J L=>by
  have ev:m%2=0:=by apply cu;intro z;have e:=(qqz ok D F (m/2)).2;rw[show 2*(m/2)+1=m by lia,J]at e;have:=(W0 ok D F (m/2+1)).1;have h2:=F.2;rw[gf,aS]at h2;lia
  refine⟨ev,(wqx ok ⋯ ⋯).mpr ⟨t,b,D,F,?_,λj j0 j1 z=>?_⟩⟩
  .rw[<- (qqz ok D F (m/2)).1,show 2*(m/2)=m by lia];exact J
  .exact L (2*j) ⋯ ⋯ (by rw[(qqz ok D F j).1];exact z)
 constructor
 .intro h;obtain⟨t,b,D,F,J,L⟩:=(wqx okd m1 m2).mp h;have ah:=F.2;rw[l]at ah;by_cases hL:t<=((hs.length:Int)-1)*b
  .exact .inr (an D ⟨F.1,hL⟩ J L)
  .by_cases hR:(hs.length:Int)*b<=t
   .have ab:x6 hs (t-(hs.length:Int)*b) b:=⟨⋯,by
     rw[show(((hs.length+hs.length:Nat):Int)-1)*b=(hs.length:Int)*b+((hs.length:Int)-1)*b by grind]at ah
     lia⟩
    have W:trT (wp hs) t b 1=t-(hs.length:Int)*b:=by have:=qqj ok D ab.1 ab.2;rwa [show t-(hs.length:Int)*b+(hs.length:Int)*b=t by lia]at this
    refine .inr (an D ab ?_ λj j0 j1 z=>?_)
    .rw[<-W,qqd,Nat.add_comm,<-qqd,J]
    .rw[<-W,qqd]at z;have:=wj2 (f:=trT (wp hs) t b) xzd z (m-1);rw[show 1+j+(m-1)=m+j by lia,show 1+(m-1)=m by lia,J,wkp J]at this;exact L j j0 j1 this
   .left;have as:∀n,((hs.length:Int)-1)*b<trT (wp hs) t b n/\trT (wp hs) t b n<(hs.length:Int)*b:=λn=>by
     apply cu;intro a3;have ap:∀k,trT (wp hs) t b (n+k)<=((hs.length:Int)-1)*b\/(hs.length:Int)*b<=trT (wp hs) t b (n+k):=λk=>by
      induction k with
      |zero=>show trT (wp hs) t b n<=_\/_<=trT (wp hs) t b n;lia
      |succ k ih =>
       have U:=W0 okd D F (n+k);show x9 (wp hs) (trT (wp hs) t b (n+k)) b<=_\/_<=x9 (wp hs) (trT (wp hs) t b (n+k)) b;generalize trT (wp hs) t b (n+k)=u at ih U;rcases ih with z|z
       .right;rw[qkp ok D ⟨U.1,z⟩];have:=(qyt ok D ⟨U.1,z⟩:x6 hs (x9 hs u b) b).1;lia
       .left;have h2:=U.2;rw[l,show(((hs.length+hs.length:Nat):Int)-1)*b=(hs.length:Int)*b+((hs.length:Int)-1)*b by grind]at h2;have:=qqj ok D (t:=u-(hs.length:Int)*b) ⋯ ⋯;rw[show u-(hs.length:Int)*b+(hs.length:Int)*b=u by lia]at this;lia
     have:=ap (m*(n+1)-n);rw[show n+(m*(n+1)-n)=m*(n+1) by have:=Nat.mul_le_mul_right (n+1) m1;lia,wq6 J]at this;lia
    have a2:∀n,trT (wp hs) t b 1≠t->(trT (wp hs) t b 1-t).natAbs+n<=(trT (wp hs) t b (n+1)-trT (wp hs) t b n).natAbs:=λn ne=>by
     have hu:=Wf ok ((hs.length:Int)-1)
     induction n with
     |zero=>exact ak _
     |succ n ih =>
      have ad:∀n,trT (wp hs) t b (n+1)=((hs.length:Int)+hAt hs ((hs.length:Int)-1))*((hs.length:Int)*b-trT (wp hs) t b n):=λn=>by obtain⟨a0,a1⟩:=as n;show x9 (wp hs) (trT (wp hs) t b n) b=_;generalize trT (wp hs) t b n=u at a0 a1;rw[vh (k:=(hs.length:Int)-1) ⋯ (by rw[l];lia) D ⋯ (by rw[show(hs.length:Int)-1+1=hs.length by lia];lia),Qy ⋯ ⋯,show(hs.length:Int)-1+1=hs.length by lia,Qw ⋯ ⋯];generalize hAt hs ((hs.length:Int)-1)=v;generalize (hs.length:Int)=w;grind
      have e:trT (wp hs) t b (n+1+1)-trT (wp hs) t b (n+1)=-(((hs.length:Int)+hAt hs ((hs.length:Int)-1))*(trT (wp hs) t b (n+1)-trT (wp hs) t b n)):=by have Z:=ad (n+1);have s2:=ad n;generalize trT (wp hs) t b (n+1+1)=x at Z ⊢;generalize trT (wp hs) t b (n+1)=y at Z s2 ⊢;generalize trT (wp hs) t b n=z at s2 ⊢;generalize (hs.length:Int)+hAt hs ((hs.length:Int)-1)=s at Z s2 ⊢;grind
      rw[e,Int.natAbs_neg,eX];have:=Nat.mul_le_mul_right (trT (wp hs) t b (n+1)-trT (wp hs) t b n).natAbs (show 2<=((hs.length:Int)+hAt hs ((hs.length:Int)-1)).natAbs by lia);lia
    have W:trT (wp hs) t b 1=t:=by apply cu;intro ne;have:=a2 m ne;rw[wkp J 1,J]at this;lia
    apply cu;intro z;exact L 1 ⋯ ⋯ W
 .rintro (rfl|⟨ev,h⟩)
  .exact wkg okd
  .obtain⟨t,b,D,F,J,L⟩:=(wqx ok ⋯ ⋯).mp h;refine(wqx okd m1 m2).mpr ⟨t,b,D,⟨F.1,?_⟩,?_,λj j0 j1 z=>?_⟩
   .have:=F.2;rw[l,show(((hs.length+hs.length:Nat):Int)-1)*b=(hs.length:Int)*b+((hs.length:Int)-1)*b by grind];have:=aX (show 0<=(hs.length:Int) by lia) (show 0<=b by lia);lia
   .have:=(qqz ok D F (m/2)).1;rw[show 2*(m/2)=m by lia]at this;rw[this];exact J
   .rcases cI j with o|o
    .have:=(qqz ok D F (j/2)).1;rw[show 2*(j/2)=j by lia,z]at this;exact L (j/2) ⋯ ⋯ this.symm
    .have:=(qqz ok D F (j/2)).2;rw[show 2*(j/2)+1=j by lia,z]at this;have:=(W0 ok D F (j/2+1)).1;have h2:=F.2;rw[gf,aS]at h2;lia
theorem xzp (ok:qt hs)(okd:qt (wp hs)):∀n:Nat,n<=12->vx (wp hs) n=if n=0 then [] else 1::(vx hs (n/2)).map (λx=>2*x):=λn=>by
 induction n with
 |zero=>intro _;rfl
 |succ n ih =>
  intro hn;have hd:=xv4 ok okd (m:=1+n) ⋯ ⋯;rcases fS n with rfl|n0
  .rw[Qz,aw (hasB_iff.mpr (wkg okd))];rfl
  .rw[Qz,ih ⋯,ar (show ¬ n=0 by lia),ar (show ¬ n+1=0 by lia),List.cons_append];congr 1;rcases cI n with o|o
   .have:¬ qvh (wp hs) (1+n)=true:=λz=>by
     rcases hd.mp (hasB_iff.mp z) with y|y
     .lia
     .lia
    rw[ar this,bE,show(n+1)/2=n/2 by lia]
   .rw[show(n+1)/2=n/2+1 by lia,Qz,aK];congr 1;rw[show(1+n)/2=1+n/2 by lia]at hd;by_cases z:quy hs (1+n/2)
    .rw[aw (hasB_iff.mpr z),aw (hasB_iff.mpr (hd.mpr (.inr ⟨⋯,z⟩)))];show[(1:Int)+n]=[2*(1+((n/2:Nat):Int))];congr 1;lia
    .rw[ar λy=>z (hasB_iff.mp y),ar λy=>(hd.mp (hasB_iff.mp y)).elim ⋯ λw=>z w.2];rfl
theorem qzm (ok:qt hs)(m:Nat){i:Nat}(h:i+1<hs.length)(j:Nat):x4 (xu (wp hs)) (m+1) i j=((zg hs i).map λx=>x4 (xu (wp hs)) m (x+(hs.length:Int)).toNat j).sum:=by show((zg (wp hs) ((0:Int)+i)).map λv=>x4 (xu (wp hs)) m v.toNat j).sum=_;rw[dH,Y9 ok ⋯ ⋯,aN];rfl
theorem qzj (ok:qt hs)(m:Nat){k:Nat}(h:k+1<hs.length)(j:Nat):x4 (xu (wp hs)) (m+1) (hs.length+k) j=x4 (xu (wp hs)) m k j:=by show((zg (wp hs) ((0:Int)+((hs.length+k:Nat):Int))).map λv=>x4 (xu (wp hs)) m v.toNat j).sum=_;rw[show(0:Int)+((hs.length+k:Nat):Int)=(k:Int)+hs.length by lia,Y5 ⋯ ⋯];show x4 (xu (wp hs)) m ((k:Int)).toNat j+0=_;rw[dI,show((k:Int)).toNat=k by lia]
theorem yx {g:α->Int}:∀ {l:List α},(∀x∈l,g x=0)->(l.map g).sum=0
 |[],_=>rfl
 |x::l,h=>by rw[aC,bi,h x (.head _),yx λy hy=>h y (bG _ hy)];rfl
theorem qxw (ok:qt hs){i:Nat}{x:Int}(h:x∈zg hs i):0<=x/\x.toNat+1<hs.length/\(x+(hs.length:Int)).toNat=hs.length+x.toNat:=by obtain⟨j,hj,rfl⟩:=az.mp h;have hj:=al.mp hj;have l:=qy9 ok i;exact⟨⋯,⋯,⋯⟩
theorem wx0 (ok:qt hs)(m:Nat){i:Nat}(h:i+1<hs.length)(j:Nat):x4 (xu (wp hs)) (m+2) i j=((zg hs i).map λx=>x4 (xu (wp hs)) m x.toNat j).sum:=by rw[qzm ok (m+1) h];congr 1;refine bw λx D=>?_;obtain⟨F,z,e⟩:=qxw ok D;rw[e,qzj ok m z]
theorem qwg (ok:qt hs):∀(s i j:Nat),i+1<hs.length->j+1<hs.length->x4 (xu (wp hs)) (2*s+1) i j=0/\x4 (xu (wp hs)) (2*s) i (hs.length+j)=0
 |0,i,j,hi,hj=>by
  constructor
  .rw[qzm ok 0 hi];refine yx λx hx=>?_;obtain⟨x0,x1,e⟩:=qxw ok hx;rw[e];exact ar ⋯
  .exact ar ⋯
 |s+1,i,j,hi,hj=>by
  constructor
  .rw[show 2*(s+1)+1=2*s+1+2 by lia,wx0 ok _ hi];exact yx λx hx=>(qwg ok s _ j (qxw ok hx).2.1 hj).1
  .rw[show 2*(s+1)=2*s+2 by lia,wx0 ok _ hi];exact yx λx hx=>(qwg ok s _ j (qxw ok hx).2.1 hj).2
theorem qux (ok:qt hs):∀(m v:Nat),v+1<2*hs.length->v+1≠hs.length->x4 (xu (wp hs)) m v (hs.length-1)=0
 |0,v,_,ne=>ar (by have:=ok.1;lia)
 |m+1,v,hv,ne=>by
  by_cases z:v+1<hs.length
  .rw[qzm ok m z];refine yx λx hx=>?_;obtain⟨x0,x1,e⟩:=qxw ok hx;rw[e];exact qux ok m _ ⋯ ⋯
  .obtain⟨k,rfl⟩:∃k,v=hs.length+k:=⟨v-hs.length,⋯⟩;rw[qzj ok m ⋯];exact qux ok m k ⋯ ⋯
theorem wjm {w:Nat}(hz:∀j,j≠w->g j=0):∀n,w<n->(x8 n g).sum=g w
 |0,h=>absurd h ⋯
 |n+1,h=>by
  rw[vk,bZ];simp only[bi,eG];rcases(by lia:w<n\/w=n) with z|z
  .rw[wjm hz n z,hz n ⋯];lia
  .subst z;have:(x8 w g).sum=0:=yx λj hj=>hz j (by have:=al.mp hj;lia);lia
theorem wk9 (ok:qt hs):∃n:Nat,hs.length<=n/\n+1<=2*hs.length/\zg (wp hs) ((hs.length-1:Nat):Int)=(List.range n).map λj:Nat=>(j:Int):=by
 have L:=ok.1;have u:=Wf ok ((hs.length:Int)-1);refine⟨hs.length+(hAt hs ((hs.length:Int)-1)).toNat,⋯,⋯,?_⟩;have J:=Qy (hs:=hs) (k:=(hs.length:Int)-1) ⋯ ⋯;have F:=Qw (hs:=hs) (k:=hs.length) ⋯ ⋯;unfold zg loH hiH;rw[show((hs.length-1:Nat):Int)=(hs.length:Int)-1 by lia,show(hs.length:Int)-1+1=hs.length by lia,J,F];have D:jj ((hs.length:Int)+hAt hs ((hs.length:Int)-1)) ((hs.length:Int)-hs.length)=0:=by unfold jj;split <;> lia
 have z:yp ((hs.length:Int)+hAt hs ((hs.length:Int)-1)) ((hs.length:Int)-hs.length)=(hs.length:Int)+hAt hs ((hs.length:Int)-1):=by unfold yp;split <;> lia
 rw[D,z,show((hs.length:Int)+hAt hs ((hs.length:Int)-1)-0).toNat=hs.length+(hAt hs ((hs.length:Int)-1)).toNat by lia];exact bw λj _=>dH _
theorem wjs (ok:qt hs):∀m,x4 (xu (wp hs)) m (hs.length-1) (hs.length-1)=1
 |0=>aw rfl
 |m+1=>by
  have o1:=ok.1;obtain⟨n,n1,n2,e⟩:=wk9 ok;show((zg (wp hs) ((0:Int)+((hs.length-1:Nat):Int))).map λv=>x4 (xu (wp hs)) m v.toNat (hs.length-1)).sum=1;rw[dH,e,aN];have:((List.range n).map ((λv:Int=>x4 (xu (wp hs)) m v.toNat (hs.length-1))∘λj:Nat=>(j:Int))).sum=(x8 n λj=>if j+1<2*hs.length then x4 (xu (wp hs)) m j (hs.length-1) else 0).sum:=b7 List.sum (bw λj hj=>by
   have:=al.mp hj
   rw[aw ⋯]
   rfl)
  rw[this,wjm (w:=hs.length-1) (λj hj=>?_) n ⋯,aw ⋯]
  .exact wjs ok m
  .split
   .exact qux ok m j ⋯ ⋯
   .rfl
theorem qzb (ok:qt hs):∀(s:Nat) (k:Int),0<=k->k<(hs.length:Int)-1->zy (wp hs) (2*s+1) k=zy hs (s+1) k
 |0,k,h0,h1=>by show((zg (wp hs) k).map (zy (wp hs) 0)).sum=((zg hs k).map (zy hs 0)).sum;rw[Y9 ok h0 h1,aN];rfl
 |s+1,k,h0,h1=>by show((zg (wp hs) k).map (zy (wp hs) (2*s+2))).sum=((zg hs k).map (zy hs (s+1))).sum;rw[Y9 ok h0 h1,aN];congr 1;refine bw λx hx=>?_;obtain⟨j,hj,rfl⟩:=az.mp hx;have hj:=al.mp hj;have l:=qy9 ok k;show((zg (wp hs) (loH hs k+j+hs.length)).map (zy (wp hs) (2*s+1))).sum=_;rw[Y5 ⋯ ⋯,<-qzb ok s _ ⋯ ⋯];exact dI _
theorem xvn (t:Nat){k:Int}(h0:0<=k)(h1:k<(hs.length:Int)-1):zy (wp hs) (t+1) (k+hs.length)=zy (wp hs) t k:=by show((zg (wp hs) (k+hs.length)).map (zy (wp hs) t)).sum=_;rw[Y5 h0 h1];exact dI _
theorem wkk (ok:qt hs)(t:Nat):(x8 (hs.length-1) λk=>zy (wp hs) t k).sum+zy (wp hs) t ((hs.length-1:Nat):Int)<=zy (wp hs) (t+1) ((hs.length-1:Nat):Int):=by have z:=ok.1;obtain⟨n,D,_,e⟩:=wk9 ok;show _<=((zg (wp hs) ((hs.length-1:Nat):Int)).map (zy (wp hs) t)).sum;rw[e,aN];show _<=(x8 n λj=>zy (wp hs) t (j:Int)).sum;rw[show n=hs.length-1+1+(n-hs.length) by lia,yg,vk,bZ];have:0<=(x8 (n-hs.length) λj=>zy (wp hs) t ((hs.length-1+1+j:Nat):Int)).sum:=wx7 λi=>qun _ _ _;simp only[bi,eG];lia
theorem wk4 (ok:qt hs):∀t,1<=zy (wp hs) t ((hs.length-1:Nat):Int)
 |0=>bV _
 |t+1=>by have:=wkk ok t;have:=wk4 ok t;have:0<=(x8 (hs.length-1) λk=>zy (wp hs) t k).sum:=wx7 λi=>qun _ _ _;lia
theorem quf {f:Nat->Int}:∀ {n:Nat},(∀i,i<n->f i<=g i)->(x8 n f).sum<=(x8 n g).sum
 |0,_=>bV _
 |n+1,h=>by rw[vk,vk,bZ,bZ];have:=quf (n:=n) λi hi=>h i ⋯;have:=h n ⋯;simp only[bi,eG];lia
theorem ww0 (ok:qt hs)(okd:qt (wp hs))(w4:hs.length<=5){m:Nat}(m1:1<=m)(few:m=1\/crS (wp hs) m<=80):(xf (wp hs) m).length+(wp hs).length<=63:=by
 have Z:=ok.1;have J:=qkf okd m1;have F:=jg hs;have U:((xf (wp hs) m).length:Int)=(x8 (hs.length-1) λi=>x4 (xu (wp hs)) m i i).sum+(1+(x8 (hs.length-1) λk=>x4 (xu (wp hs)) m (hs.length+k) (hs.length+k)).sum):=by
  rw[J];show(x8 ((wp hs).length-1) λf=>x4 (xu (wp hs)) m f f).sum=_;rw[F,show hs.length+hs.length-1=(hs.length-1)+(1+(hs.length-1)) by lia,yg,yg];congr 2
  .show x4 (xu (wp hs)) m (hs.length-1+0) (hs.length-1+0)+0=1;rw[Nat.add_zero,wjs ok];rfl
  .exact b7 List.sum (vf λk _=>by rw[show hs.length-1+(1+k)=hs.length+k by lia])
 have nP:((wp hs).length:Int)-1=2*(hs.length:Int)-1:=by lia
 rcases cI m with o|o
 .obtain⟨s,rfl⟩:∃s,m=2*(s+1):=⟨m/2-1,⋯⟩;have few:=few.resolve_left ⋯;have D:∀i:Nat,i+1<2*hs.length->x4 (xu (wp hs)) (2*(s+1)) i i<=zy (wp hs) (2*(s+1)) i:=λi hi=>by have e:=qu8 okd (2*(s+1)) (i:Int) ⋯ ⋯;rw[show((i:Int)).toNat=i by lia]at e;rw[e];exact qwt (g:=x4 (xu (wp hs)) (2*(s+1)) i) (λj=>Qc _ _ _ _) ⋯
  have a:(x8 (hs.length-1) λi=>x4 (xu (wp hs)) (2*(s+1)) i i).sum<=crS hs (s+1) :=
   dr (quf λi hi=>D i ⋯) (ja (b7 List.sum (vf λi hi=>qwr ok (s+1) i ⋯ ⋯)))
  have c':∀k:Nat,k<hs.length-1->zy (wp hs) (2*(s+1)) ((hs.length+k:Nat):Int)=zy hs (s+1) k:=λk z=>by rw[show((hs.length+k:Nat):Int)=(k:Int)+hs.length by lia,show 2*(s+1)=2*s+1+1 by lia,xvn _ ⋯ ⋯,qzb ok s k ⋯ ⋯]
  have c:(x8 (hs.length-1) λk=>x4 (xu (wp hs)) (2*(s+1)) (hs.length+k) (hs.length+k)).sum<=crS hs (s+1) :=
   dr (quf λk z=>D (hs.length+k) ⋯) (ja (b7 List.sum (vf λk z=>c' k z)))
  have W:crS (wp hs) (2*(s+1))=crS hs (s+1)+(zy (wp hs) (2*(s+1)) ((hs.length-1:Nat):Int)+crS hs (s+1)):=by
   unfold crS;rw[F,show hs.length+hs.length-1=(hs.length-1)+(1+(hs.length-1)) by lia,yg,yg];congr 1
   .exact b7 List.sum (vf λi hi=>qwr ok (s+1) i ⋯ ⋯)
   .congr 1
    .exact dI _
    .exact b7 List.sum (vf λk z=>by rw[show hs.length-1+(1+k)=hs.length+k by lia];exact c' k z)
  have L:=wkk ok (2*s+1);have mo:=wk4 ok (2*s+1);have e:(x8 (hs.length-1) λk=>zy (wp hs) (2*s+1) k).sum=crS hs (s+1):=b7 List.sum (vf λk z=>qzb ok s k ⋯ ⋯);rw[e,show 2*s+1+1=2*(s+1) by lia]at L;lia
 .obtain⟨s,rfl⟩:∃s,m=2*s+1:=⟨m/2,⋯⟩;have a:(x8 (hs.length-1) λi=>x4 (xu (wp hs)) (2*s+1) i i).sum=0:=yx λi hi=>by have:=al.mp hi;exact(qwg ok s i i ⋯ ⋯).1
  have c:(x8 (hs.length-1) λk=>x4 (xu (wp hs)) (2*s+1) (hs.length+k) (hs.length+k)).sum=0:=yx λk z=>by have:=al.mp z;rw[qzj ok (2*s) ⋯];exact(qwg ok s k k ⋯ ⋯).2
  lia
def qyn (K:Aa)(TT:Aj):Sp:=λvs H Q _=>∃(a:Aj) (ns:List Int),vs=[.ref a]/\SqL K H a (ns.map V.int)/\ns.length<=63/\H TT=some (.tbl #[])/\∀H',Q (.bl true) H'
theorem wk0 {p:Aj}(f:SqL K H p (xs.map V.int)):RD K H (.list (xs.map .int)) (.ref p):=by rw[RD];exact⟨p,exI rfl ⟨f,wkr xs⟩⟩
theorem ww3 (xs:List Int):(PyData.list (xs.map .int)).canLay0=true:=by rw[PyData.canLay0];exact wwb xs
theorem xwd (xs ys:List Int):min (PyData.list (xs.map .int)).depth (PyData.list (ys.map .int)).depth<=60:=by have h1:=wwh xs;simp only[PyData.depth];lia
theorem xx1 (xs:List Int):PyData.eqv (.list (xs.map .int)) (.list (xs.map .int))=true:=by rw[PyData.eqv,qz7,aF rfl]
def twoV:V->V
 |.int i=>.int (2*i)
 |v=>v
include T in
theorem zf1 {f:Aj}{fd:Ad}{TT:Aj}(F:Fun K "law" "law" zb6 f fd)(zac:Cal P w K mg base "_law_pick" 2 (Jh K))(zf2:Cal P w K mg base "_law_heights" 4 (Jw K))(zb8:CCal P w K mg base "Road" qy 2 (qvz K qh qy))(zf3:Cal P w K mg base "doubled" 4 (xx3 qy qh))(zf4:Cal P w K mg base "_law_times" 2 (qy2 K))
  (zf5:Cal P w K mg base "lengths" 10 (wv3 qy TT)) (zf6:Cal P w K mg base "_law_lengths" 7 (qu0 K)) (zf7:Cal P w K mg base "_law_numbers" 2 (Jj K)) :
  FK P w K mg base 11 f fd ["_law_script"] (qyn K TT):=by
 have sc:=zes;refine F.okX sc (λvs H Q E h=>by obtain⟨_,_,rfl,_⟩:=h;rfl) λ_ _ _ _ H vs Q E U h=>?_;obtain⟨a,ns,rfl,hS,hl,hT,k⟩:=h;have cb:(1000000:Nat)<sizeLine:=by decide
 refine⟨_,(qj (wg (i:=1) (wu zf2 (U.mono ⋯) rfl q8 (qw (pv 0) (qw qv (qw qv qk)))))
   (qj (wg (i:=2) (q9 zd (w5 xh rfl T.len_ bH (qw (pv 1) qk)) qv))
   (qj (wg (i:=3) (q9 Z7 (zr (M:=[2]) rfl rfl (by walk_at "cap") (by walk_at "has") (by walk_at "cix") rfl (by decide +kernel) rfl (show List.Nodup (["_law_height","_law_wide"]:List Str) by decide +kernel) (zc (pv 1)) (λ_ _ _ _ _=>(q9 xj (q9 xj (pv 1) qv) (pv 0)))) (zr (M:=[]) rfl rfl (by walk_at "cap") (by walk_at "has") (by walk_at "cix") rfl (by decide +kernel) rfl (show List.Nodup (["_law_k"]:List Str) by decide +kernel) (xg rfl T.range_ (qw (q9 xj (pv 2) qv) qk)) (λ_ _ _ _ _=>(pv 0)))))
   (qj (wg (i:=4) (wu zf4 (U.mono ⋯) rfl q8 (qw (pv 3) (qw (q9 xj qv (wu zac (U.mono ⋯) rfl q8 (qw (pv 0) (qw qv (qw qv (qw qv qk)))))) (qw qv qk)))))
   (qj (wg (i:=5) (wu zf5 (U.mono ⋯) rfl q8 (qw (wu zf3 (U.mono ⋯) rfl q8 (qw (wxw zb8 (U.mono ⋯) rfl q8 (qw (Zw Qn rfl T.list_ cK (qw (pv 1) qk)) qk)) qk)) (qw (pv 4) qk))))
   (qj (wg (i:=6) (q9 Z7 (vt (qw qv qk)) (zr (M:=[]) rfl rfl (by walk_at "cap") (by walk_at "has") (by walk_at "cix") rfl (by decide +kernel) rfl (show List.Nodup (["_law_many"]:List Str) by decide +kernel) (zc (wu zf6 (U.mono ⋯) rfl q8 (qw (pv 1) (qw (q9 jc (pv 4) qv) qk)))) (λ_ _ _ _ _=>(q9 xq qv (pv 0))))))
   (qr (xx (qzz (wu zf7 (U.mono ⋯) rfl q8 (qw (pv 5) qk)) (qxr (Yv (qj5 U.units) (pv 5) (pv 6) (xv _)))))))))))),?_⟩
 refine⟨_,rfl,a,ns,_,_,rfl,hS,⋯,⋯,⋯,λp hs w1 n1 a1 b1 i1=>?_⟩;have J:qt hs:=xjh i1 a1 ⋯;have o1:=J.1;have a4:hs.length<=5:=by have:=i1.1;lia
 have W:qt (wp hs):=(xjg J).mpr ⋯;have s1:Same H (upd H p (.lst (hs.map V.int))):=Same.upd n1;have f1:upd H p (.lst (hs.map V.int)) p=some (.lst (hs.map V.int)):=qu;generalize upd H p (.lst (hs.map V.int))=H1 at s1 f1;refine exI rfl ⟨_,_,rfl,.inl (SqL.of f1),wy rfl rfl ?_⟩;rw[af];refine exI rfl ⟨p,rfl,⟨_,SqL.of f1⟩,Qv (K:=K) (a:=p) (qzh ((hs.length:Int)-1+1)) (SqL.of f1) (by rw[af];lia) (λx' H' R hx a3 ap=>?_) λp6 n6=>?_⟩
 .obtain⟨i,_,rfl⟩:=az.mp hx;exact exI rfl (wy rfl rfl (exI rfl (wy rfl rfl ap)))
 have s6:=Same.upd (o:=.lst ((hs.map V.int).map (qzh ((hs.length:Int)-1+1)))) n6;have f6:upd H1 p6 (.lst ((hs.map V.int).map (qzh ((hs.length:Int)-1+1)))) p6=some (.lst ((hs.map V.int).map (qzh ((hs.length:Int)-1+1)))):=qu;generalize upd H1 p6 (.lst ((hs.map V.int).map (qzh ((hs.length:Int)-1+1))))=H6 at s6 f6;refine⟨_,rfl,_,_,rfl,rfl,(hs.length:Int)-1+1,rfl,⋯,⋯,v9 (λi=>V.int ((0:Int)+i)) ⋯ (λi H' R hi a3 hR=>(exI rfl hR)) λp7 n7=>?_⟩;rw[show((hs.length:Int)-1+1).toNat=hs.length by lia];have s7:=Same.upd (o:=.lst ((List.range hs.length).map λk:Nat=>V.int ((0:Int)+k))) n7;refine⟨p6,p7,wy rfl rfl ⟨s7 _ _ f6,qu,?_,λp8 n8=>?_⟩⟩
 .rw[af,af,af,ay];lia
 rw[wj8];have s8:=Same.upd (o:=.lst ((wp hs).map V.int)) n8;have Z:∀H',upd H' p8 (.lst ((wp hs).map V.int)) p8=some (.lst ((wp hs).map V.int)):=λ_=>qu;have Z:=Z (upd H6 p7 (.lst ((List.range hs.length).map λk:Nat=>V.int ((0:Int)+k))));have ah:=s6.trans (s7.trans s8);generalize upd (upd H6 p7 (.lst ((List.range hs.length).map λk:Nat=>V.int ((0:Int)+k)))) p8 (.lst ((wp hs).map V.int))=H8 at ah Z;clear s8 s7 s6 f6;have a2:=s1.trans ah;refine exI rfl (exI rfl ⟨a,ns,_,_,_,rfl,a2.sql hS,⋯,⋯,⋯,⋯,λr1 _ l1 u1=>?_⟩);refine⟨_,_,rfl,rfl,p8,wp hs,1+r1,80,rfl,SqL.of Z,W,⋯,⋯,λD H9 e1 e2 hx s9=>?_⟩;have a9:=a2.trans s9;have f9:=s9 _ _ (ah _ _ f1);have bq:∀l:Nat,1<=l->l<=D.toNat->crS (wp hs) l<=1000/\(xf (wp hs) l).length+(wp hs).length<=63:=λl h1 h2=>by
  rcases(by lia:l=1\/2<=l) with z|z
  .have h:=ww0 J W a4 h1 (.inl z);subst z;have:=xxf W;exact⟨⋯,h⟩
  .have:=hx (l-1) ⋯ ⋯;rw[show l-1+1=l by lia]at this;exact⟨⋯,ww0 J W a4 h1 (.inr this)⟩
 have bm:∀i:Nat,1<=i->(i:Int)<D/2->crS hs (i+1)<=300:=λi h1 h2=>by have:=hx (2*i+1) ⋯ ⋯;have:=cr_dbl J (i+1);rw[show 2*(i+1)=2*i+1+1 by lia]at this;lia
 have bs:∀l:Nat,1<=l->l<=(D/2).toNat->(zm (xk hs (l-1))).length<=4000:=λl h1 h2=>by have:=wy0 (x:=(l:Int)) J ⋯ ⋯ λi g1 g2=>bm i g1 ⋯;rwa [show((l:Int)).toNat=l by lia]at this
 refine exI rfl ⟨_,_,rfl,.inl (SqL.of f9),λp4 n4=>?_⟩;have s4:Same H9 (upd H9 p4 (.lst (hs.map V.int))):=Same.upd n4;refineλrd d0 nx bd b6=>wjg qu nx bd (λ_ H5 s5 R5=>?_) λz=>absurd J z;refine⟨rd,hs,rfl,R5,J,λ_ dd b4 _ a8 b3=>?_,λz=>absurd W z⟩;have as:=s4.trans (s5.trans a8);have b2:j9 TT ym qwv b4:=Qf (.inl hT) (a9.trans as);have bx:=as _ _ f9;refine⟨_,rfl,dd,wp hs,D,rfl,b3,W,e1,⋯,bq,b2,λlq H6 k6 T6 f6 b5=>?_⟩;rw[xzp J W _ ⋯,ar ⋯]at f6;rw[show D.toNat/2=(D/2).toNat by lia]at f6;have ll:=qxp hs (D/2).toNat;refine⟨sz1,λpz nz=>?_⟩;have sz:=Same.upd (o:=.lst [.int 1]) nz;have fz:upd H6 pz (.lst [.int 1]) pz=some (.lst [.int 1]):=qu;have a5:=sz _ _ f6;have a6:=sz _ _ (k6.lst bx);generalize upd H6 pz (.lst [.int 1])=H7 at sz fz a5 a6;refine⟨_,rfl,_,rfl,_,_,rfl,rfl,(by walk_at "div"),p,hs,D/2,rfl,SqL.of a6,J,⋯,⋯,bs,λlw H8 nw s8 Z=>?_⟩;refine⟨lw,rfl,⟨_,SqL.of Z⟩,Qv (K:=K) (a:=lw) twoV (SqL.of Z) (by rw[af];lia) (λx' H' R hx a3 ap=>?_) λp9 n9=>?_⟩
 .obtain⟨i,hi,rfl⟩:=az.mp hx;exact exI rfl (wy rfl rfl ⟨IntMulOk.of_left (intBits_le_64 ⋯ ⋯),ap⟩)
 have s9:=Same.upd (o:=.lst (((vx hs (D/2).toNat).map V.int).map twoV)) n9;refine⟨pz,p9,wy rfl rfl ⟨s9 _ _ (s8 _ _ fz),qu,?_,λan bk=>?_⟩⟩
 .simp only[af,aJ,da];lia
 have b0:[V.int 1]++((vx hs (D/2).toNat).map V.int).map twoV=(1::(vx hs (D/2).toNat).map λx=>2*x).map V.int:=by rw[aC,aN,aN];rfl
 rw[b0];have a7:=Same.upd (o:=.lst ((1::(vx hs (D/2).toNat).map λx=>2*x).map V.int)) bk;have ab:∀G,upd G an (.lst ((1::(vx hs (D/2).toNat).map λx=>2*x).map V.int)) an=some (.lst ((1::(vx hs (D/2).toNat).map λx=>2*x).map V.int)):=λ_=>qu;have ab:=ab (upd H8 p9 (.lst (((vx hs (D/2).toNat).map V.int).map twoV)));have ad:=a7 _ _ (s9 _ _ (s8 _ _ a5));generalize upd (upd H8 p9 (.lst (((vx hs (D/2).toNat).map V.int).map twoV))) an (.lst ((1::(vx hs (D/2).toNat).map λx=>2*x).map V.int))=H12 at ab ad;have ld:(1::(vx hs (D/2).toNat).map λx=>2*x).length<=100:=by rw[aJ,af];lia
 generalize (1::(vx hs (D/2).toNat).map λx=>2*x)=L at ab ad ld;refine⟨_,rfl,lq,L,rfl,ad,⋯,λcc a0=>?_⟩;refine exI rfl (y9 ?_);refine exI rfl (exI rfl ⟨.list (L.map .int),.list (L.map .int),wk0 (SqL.of (a0 _ _ ad)),wk0 (SqL.of (a0 _ _ ab)),ww3 _,ww3 _,xwd _ _,?_⟩);show Q (.bl (PyData.eqv (.list (L.map .int)) (.list (L.map .int)))) _;rw[xx1];exact k _
end
section
theorem all_mk {l:PySem.W.OpenLaw}{w:Ah}{K:Aa}{h:Heap}{mg:Str->Option Ag}{fa cO TT:Aj}{qh:Aj}{qx:Aj}{qg:Aj}{qf:Aj}{qm:Aj}{qp:Aj}{qy:Aj}{zen:Tok}{zeo:Tok}{zep:Tok}{zeq:Tok}{zer:Tok}(X:K.In h)(G:h.Ns mainGlobals mg)(hfa:mg "law" = some (.ref fa))
  (zcd:DefIn K "_law_cell" zbn)
  (zce:DefIn K "_law_pick" zbo)
  (zcf:DefInD K "check_count" zak)
  (zcg:DefIn K "check_bottom" zat)
  (zch:DefIn K "is_line" zaw)
  (zci:DefIn K "covered" za6)
  (zcj:DefIn K "covers_of" za7)
  (zck:DefIn K "ways_of_no_step" za8)
  (zcl:DefIn K "one_step_more" za9)
  (zcm:DefIn K "ways_up_to" zba)
  (zcn:DefIn K "rows_from" zbb)
  (zco:DefIn K "rows" zbc)
  (zcp:DefIn K "common_divisor" zau)
  (zcq:DefIn K "lowest" zav)
  (zcr:DefInT K "ordered" zal cO) (hC:PySem.W.codeHdIn K cO TT=true)
  (zcs:DefIn K "walked" zbd)
  (zct:DefIn K "corners_back" zbi)
  (zcu:DefIn K "lies_in" zbj)
  (zcv:DefIn K "line_along" zbg)
  (zcw:DefIn K "fixed_point" zbh)
  (zcx:DefIn K "back" zbk)
  (zcy:DefIn K "doubled" za5)
  (zcz:DefIn K "trace" zbe)
  (zc0:DefIn K "least" zbf)
  (zc1:DefIn K "candidates" zbl)
  (zc2:DefIn K "lengths" zbm)
  (zc3:DefIn K "_law_climb" zbp)
  (zc4:DefIn K "_law_heights" zbq)
  (zc5:DefIn K "_law_crowds" zbr)
  (zc6:DefIn K "_law_times" zbs)
  (zc7:DefIn K "_law_common" zbt)
  (zc8:DefIn K "_law_low" zbu)
  (zc9:DefIn K "_law_between" zbv)
  (zda:DefIn K "_law_laid" zbw)
  (zdb:DefIn K "_law_cross" zbx)
  (zdc:DefIn K "_law_within" zby)
  (zdd:DefIn K "_law_back" zbz)
  (zde:DefIn K "_law_step" zb0)
  (zdf:DefIn K "_law_least" zb1)
  (zdg:DefIn K "_law_some" zb2)
  (zdh:DefIn K "_law_lengths" zb3)
  (zdi:DefIn K "_law_whole" zb4)
  (zdj:DefIn K "_law_numbers" zb5)
  (zdk:DefIn K "law" zb6)
  (zdl:PySem.W.nsIn K mainGlobals "BadLine" = some (some (.ref qh)))
  (zam:PySem.W.excIn K qh [.type "ValueError",.type "Exception",.type "BaseException",.type "object"] "ValueError.__new__" = true)
  (zdm:PySem.W.nsIn K mainGlobals "BadBottom" = some (some (.ref qx)))
  (zan:PySem.W.excIn K qx [.type "ValueError",.type "Exception",.type "BaseException",.type "object"] "ValueError.__new__" = true)
  (zdn:PySem.W.nsIn K mainGlobals "OffRoad" = some (some (.ref qg)))
  (zao:PySem.W.excIn K qg [.type "ValueError",.type "Exception",.type "BaseException",.type "object"] "ValueError.__new__" = true)
  (zdo:PySem.W.nsIn K mainGlobals "BadCount" = some (some (.ref qf)))
  (zap:PySem.W.excIn K qf [.type "ValueError",.type "Exception",.type "BaseException",.type "object"] "ValueError.__new__" = true)
  (zdp:PySem.W.nsIn K mainGlobals "TooLong" = some (some (.ref qm)))
  (zai:PySem.W.excIn K qm [.type "ValueError",.type "Exception",.type "BaseException",.type "object"] "ValueError.__new__" = true)
  (zdq:PySem.W.nsIn K mainGlobals "BadRow" = some (some (.ref qp)))
  (zaq:PySem.W.excIn K qp [.type "ValueError",.type "Exception",.type "BaseException",.type "object"] "ValueError.__new__" = true)
  (zdr:PySem.W.nsIn K mainGlobals "Road" = some (some (.ref qy)))
  (zds:PySem.W.plainGet K qy Str.empty=true)
  (zdt:PySem.W.hasDictIn K qy=true)
  (zdu:PySem.W.plainOver K qy=true)
  (zdv:PySem.W.findIn K (.ref qy) "__setattr__" = some (some (.builtin "object.__setattr__")))
  (zdw:PySem.W.makesIn K qy=true)
  (zdx:PySem.W.keepIn K (.ref qy)=true)
  (zdy:MethIn K qy "__init__" "Road.__init__" zax)
  (zdz:MethIn K qy "width" "Road.width" zay)
  (zd0:MethIn K qy "corners" "Road.corners" zaz)
  (zd1:MethIn K qy "ends" "Road.ends" za0)
  (zd2:MethIn K qy "reach" "Road.reach" za2)
  (zd3:MethIn K qy "slope" "Road.slope" za1)
  (zd4:MethIn K qy "on_road" "Road.on_road" za3)
  (zd5:MethIn K qy "at" "Road.at" za4)
  (zd6:PySem.W.findIn K (.ref qy) "heights" = some none)
  (zad:PySem.W.nsIn K mainGlobals "WIDEST" = some (some (.int 24 zen)))
  (zae:PySem.W.nsIn K mainGlobals "LONGEST_TRACE" = some (some (.int 1000 zeo)))
  (zab:PySem.W.nsIn K mainGlobals "LONGEST_ROW" = some (some (.int 12 zep)))
  (zaf:PySem.W.nsIn K mainGlobals "MOST_WAYS" = some (some (.int 1000 zeq)))
  (zag:PySem.W.nsIn K mainGlobals "MOST_WALKED" = some (some (.int 1000 zer)))
  (zd7:PySem.W.nsIn K mainGlobals "len" = some none)
  (zd8:PySem.W.nsIn K mainGlobals "abs" = some none)
  (zd9:PySem.W.nsIn K mainGlobals "range" = some none)
  (zea:PySem.W.nsIn K mainGlobals "isinstance" = some none)
  (zeb:PySem.W.nsIn K mainGlobals "int" = some none)
  (zec:PySem.W.nsIn K mainGlobals "bool" = some none)
  (zed:PySem.W.nsIn K mainGlobals "list" = some none)
  (zee:PySem.W.nsIn K mainGlobals "min" = some none)
  (zef:PySem.W.nsIn K mainGlobals "max" = some none)
  (zeg:PySem.W.nsIn K mainGlobals "all" = some none)
  (zeh:PySem.W.nsIn K mainGlobals "any" = some none)
  (zei:PySem.W.nsIn K mainGlobals "sum" = some none)
  (zej:PySem.W.nsIn K mainGlobals "sorted" = some none)
  (zek:PySem.W.nsIn K mainGlobals "zip" = some none)
  (zel:PySem.W.nsIn K mainGlobals "tuple" = some none) :
  ∃fd:Ad,(∀(s:Ab) (v:Ag),BindsTo s fd ⟨[v],[]⟩ [("_law_script",v)])/\∀base:Heap,K.In base->base.Ns mainGlobals mg->BMain mg base->FnOk l.prog w K mg base (CXE l.prog w) 11 fa fd ["_law_script"] (qyn K TT):=by
 have T:Txt K mg qh qx qg qf qm qp qy:=⟨bu X G zd7,bu X G zd8,bu X G zd9,bu X G zea,bu X G zeb,bu X G zec,bu X G zed,bu X G zee,bu X G zef,bu X G zeg,bu X G zeh,bu X G zei,bu X G zej,bu X G zek,bu X G zel,bW X G zdl,⟨zam⟩,bW X G zdm,⟨zan⟩,bW X G zdn,⟨zao⟩,bW X G zdo,⟨zap⟩,bW X G zdp,⟨zai⟩,bW X G zdq,⟨zaq⟩,⟨zds,zdt,zdu,zdv⟩,zd6,⟨zen,bW X G zad⟩,bW X G zdr,⟨zeo,bW X G zae⟩,⟨zep,bW X G zab⟩,⟨zeq,bW X G zaf⟩,⟨zer,bW X G zag⟩⟩;obtain⟨f,fd,a,F⟩:=zdk.ex;have e:=hfa.symm.trans (bW X G a);cases e;refine⟨fd,λs v=>?_,λbase kb nb hB=>?_⟩
 .obtain⟨oc,od,kV,cy,pm,an,cdv,ct,cv,rfl,lk,cw⟩:=F.ex;exact .of_eq rfl
 .have c1:Cal l.prog w K mg base "_law_cell" 1 (wzq K):=zcd.cal X G qyz λf fd F=>xky T F;have Z:Cal l.prog w K mg base "_law_pick" 2 (Jh K):=zce.cal X G qyf λf fd F=>xv0 T F c1;have J:CalD l.prog w K mg base "check_count" 1 (Yn qf):=zcf.cal X G qz9 qzd λf fd F=>xw0 T F;have c4:Cal l.prog w K mg base "check_bottom" 1 (qw3 qx):=zcg.cal X G qwd λf fd F=>xq7 T F;have c5:Cal l.prog w K mg base "is_line" 1 (qx6 K):=zch.cal X G wz0 λf fd F=>wv0 T F;have c6:CCal l.prog w K mg base "Road" qy 2 (qvz K qh qy):=zdy.ccal T.zey zdw zdx J3 λf fd F=>xk6 T F c5;have z:MCal l.prog w K mg base qy "width" 1 (j6 qy):=zdz.cal qv7 λf fd F=>xz8 T F;have c8:MCal l.prog w K mg base qy "corners" 1 (Jr qy):=zd0.cal qwb λf fd F=>wzk T F;have D:MCal l.prog w K mg base qy "ends" 2 (qqx qy qp):=zd1.cal qut λf fd F=>xyu T F z;have cr:MCal l.prog w K mg base qy "reach" 3 (qu5 qy qp):=zd2.cal qv9 λf fd F=>xq2 T F D;have cq:MCal l.prog w K mg base qy "slope" 3 (qyq qy qp):=zd3.cal qkz λf fd F=>xxj T F D;have cp:Cal l.prog w K mg base "covered" 4 (Jv qy qp):=zci.cal X G wzf λf fd F=>wzw T F cr;have ap:Cal l.prog w K mg base "covers_of" 5 (Qu qy):=zcj.cal X G quw λf fd F=>qjt T F z cp;have co:Cal l.prog w K mg base "ways_of_no_step" 1 qw7:=zck.cal X G Z9 λf fd F=>wvy T F;have cm:∀hs,qt hs->Cal l.prog w K mg base "one_step_more" 1 (Jz hs):=λhs ok=>zcl.cal X G Jx λf fd F=>wqg ok F T;have ck:Cal l.prog w K mg base "ways_up_to" 6 (qxz qy):=zcm.cal X G qv2 λf fd F=>wx2 T F ap z co cm;have cj:Cal l.prog w K mg base "rows_from" 1 Zn:=zcn.cal X G qu3 λf fd F=>qyd T F;have ci:Cal l.prog w K mg base "rows" 7 (wvx qy qf qm):=zco.cal X G xyx λf fd F=>xkf T F J ck ap z cj;have ce:Cal l.prog w K mg base "common_divisor" 1 qjv:=zcp.cal X G Yr λf fd F=>ze3 T F;have U:Cal l.prog w K mg base "lowest" 2 (Wp qx):=zcq.cal X G wud λf fd F=>wu6 T F c4 ce;have ah:Cal l.prog w K mg base "ordered" 6 (wj7 K TT qx):=zcr.cal X G wv9 λf fd F=>zfi F T hB hC c4;have L:MCal l.prog w K mg base qy "on_road" 3 (W8 K qy qx qg):=zd4.cal qq3 λf fd F=>wz2 T F z U;have ad:MCal l.prog w K mg base qy "at" 4 (spAt K qy qx qg):=zd5.cal wkw λf fd F=>ze7 T F z U D L;have cc:Cal l.prog w K mg base "walked" 5 (qxb K qy qx qg qf):=zcs.cal X G xqb λf fd F=>wun T F J L ad;have cb:Cal l.prog w K mg base "corners_back" 6 (quk qy):=zct.cal X G qq8 λf fd F=>xzz T F z cc;have b6:Cal l.prog w K mg base "lies_in" 1 (wzd K):=zcu.cal X G wzm λf fd F=>xjv T F;have b5:Cal l.prog w K mg base "line_along" 4 (qyc K qy):=zcv.cal X G qvn λf fd F=>xz3 T F cq D;have b4:Cal l.prog w K mg base "fixed_point" 5 (quc K qy):=zcw.cal X G qzx λf fd F=>xvy T F b5 U;have b3:Cal l.prog w K mg base "back" 8 (wv5 qy TT):=zcx.cal X G xkz λf fd F=>xyw T F ci b4 cb b6 ah;have b2:Cal l.prog w K mg base "doubled" 4 (xx3 qy qh):=zcy.cal X G wvs λf fd F=>ze5 T F c6 z c8;have b1:Cal l.prog w K mg base "trace" 5 (qud qy qm):=zcz.cal X G xxb λf fd F=>xx8 T F ad;have b0:Cal l.prog w K mg base "least" 6 (qyg K qy):=zc0.cal X G xzu λf fd F=>xwr T F L b1;have bx:Cal l.prog w K mg base "candidates" 9 (wzz qy TT):=zc1.cal X G qvm λf fd F=>xjt T F b3 ah b0;have bs:Cal l.prog w K mg base "lengths" 10 (wv3 qy TT):=zc2.cal X G wzg λf fd F=>xjp T F J bx;have bq:Cal l.prog w K mg base "_law_climb" 3 (qwm K):=zc3.cal X G qv8 λf fd F=>xvg T F Z;have bm:Cal l.prog w K mg base "_law_heights" 4 (Jw K):=zc4.cal X G qwz λf fd F=>wz6 T F Z bq;have bl:Cal l.prog w K mg base "_law_crowds" 1 (qz4 K):=zc5.cal X G qzq λf fd F=>xqq T F;have bk:Cal l.prog w K mg base "_law_times" 2 (qy2 K):=zc6.cal X G qvs λf fd F=>xvd T F bl;have bd:Cal l.prog w K mg base "_law_common" 1 qjv:=zc7.cal X G qxx λf fd F=>xqd T F;have ab:Cal l.prog w K mg base "_law_low" 2 wjv:=zc8.cal X G ww8 λf fd F=>zfr T F bd;have a9:Cal l.prog w K mg base "_law_between" 3 (wv7 K):=zc9.cal X G qq7 λf fd F=>xk1 T F ab;have a8:Cal l.prog w K mg base "_law_laid" 4 (qj2 K):=zda.cal X G qur λf fd F=>xzf T F a9;have a7:Cal l.prog w K mg base "_law_cross" 3 (quj K):=zdb.cal X G qkx λf fd F=>xvq T F ab;have a6:Cal l.prog w K mg base "_law_within" 1 (qxs K):=zdc.cal X G qz8 λf fd F=>wuw T F;have a5:Cal l.prog w K mg base "_law_back" 5 (qy5 K):=zdd.cal X G qy0 λf fd F=>xws T F a8 a7 a6;have a4:Cal l.prog w K mg base "_law_step" 1 (wz9 K):=zde.cal X G qyv λf fd F=>xk2 T F;have a3:Cal l.prog w K mg base "_law_least" 2 (qvk K):=zdf.cal X G qv6 λf fd F=>wuu T F a4;have a2:Cal l.prog w K mg base "_law_some" 6 (qy1 K):=zdg.cal X G qub λf fd F=>xq8 T F a5;have a1:Cal l.prog w K mg base "_law_lengths" 7 (qu0 K):=zdh.cal X G qq6 λf fd F=>xzb T F a2 a3;have a0:Cal l.prog w K mg base "_law_whole" 1 wqz:=zdi.cal X G qvg λf fd F=>xvs T F;have as:Cal l.prog w K mg base "_law_numbers" 2 (Jj K):=zdj.cal X G qq2 λf fd F=>wv1 T F a0;exact zf1 T F Z bm c6 b2 bk bs a1 as
theorem walk {l:PySem.W.OpenLaw}{q:Ac}{loose:List Str}{XP:(Str->Option Ag)->Heap->Prop}{YP:Ah->Heap->Prop}{d:DefRec}{K:Params->Aa}{cO TT:Aj}(hn:l.most=some 63)(hdf:d.params.defaults=[])
  (hY:∀(w:Ah) (h:Heap),YP w h->(K w.params).In h/\h.get? TT=some (PySem.W.tabObj #[])) (hcT:∀p,PySem.W.codeHdIn (K p) cO TT=true) (hKT:∀p,(K p).lookup TT=none)
  (F:∀(w:Ah) (mg:Str->Option Ag) (fa:Aj) (h:Heap),(K w.params).In h->h.Ns mainGlobals mg->mg d.name=some (.ref fa) ->
   ∃fd:Ad,(∀(s:Ab) (u:Ag),BindsTo s fd ⟨[u],[]⟩ [("_law_script",u)])/\∀base:Heap,(K w.params).In base->base.Ns mainGlobals mg->BMain mg base->FnOk l.prog w (K w.params) mg base (CXE l.prog w) 11 fa fd ["_law_script"] (qyn (K w.params) TT)) :
  PySem.W.WalkO q loose XP YP l.row.toRowW d [] (λf vs=>PySem.call f vs) :=
 L2.xzm (n:=63) (k:=11) (x := "_law_script") (CX:=λw=>CXE l.prog w) (sp:=λw=>qyn (K w.params) TT) hn ⋯ hdf ⟨rfl,⋯,⋯⟩ hY hcT hKT F (λ_ _ a ns hl hT hS=>⟨a,ns,rfl,hS,hl,hT,λ_=>rfl⟩) λ_ _ _ _ _ z=>CXE.no z
end
end My
open PySem PySem.W PyProof.Rows
local macro_rules | `(tactic| walk_at "defT")=>`(tactic| (refine' L2.xyv ?a ?l ?c ?k;(case a=>k_is);(case l=>k_is);(case c=>k_is);(case k=>k_is)))
local macro_rules | `(tactic| walk_at "def")=>`(tactic| (refine' L2.def_mk ?a ?l ?c ?k;(case a=>k_is);(case l=>k_is);(case c=>k_is);(case k=>k_is)))
local macro_rules | `(tactic| walk_at "defD")=>`(tactic| (refine' L2.xjm ?a ?l ?c ?k ?t;(case a=>k_is);(case l=>k_is);(case c=>k_is);(case k=>k_is);(case t=>k_is)))
local macro_rules | `(tactic| walk_at "meth")=>`(tactic| (refine' L2.xjq ?a ?i ?l ?c ?k;(case a=>k_is);(case i=>k_is);(case l=>k_is);(case c=>k_is);(case k=>k_is)))
section
open Lean
local macro_rules|`(universe $x*)=>do let mut r:=#[];for i in x do {let s:=i.getId.toString;let n:=((s.drop 1).toString.splitOn "_").map String.toNat!;for j in [n.head!:n.getLast!+1] do {r:=r.push (<-`(command|theorem $(mkIdent (.str `PySem.W.Fast s!"tw{(Name.str `PySem.Challenge.cw_crookroad_k39_whole_doubled_lengths_holds ((match s.front with|'h'=>"heap_"|'t'=>"tree_"|'v'=>"view_"|'s'=>"sts_"|'e'=>"env_"|_=>"o_")++toString j)).hash}")):ident:True:=trivial))}};return mkNullNode r
universe h39 h46 h509 t47 t63 t78 t93 t108 t123 t138 t187 t196 t268 t335 t414 t496 t508 v39 o43_508 s49 s64 s79 s94 s109 s124 s139 s188 s197 s269 s336 s415 s497 e41
end
theorem PySem.W.Fast.tw7541728787406056829:True:=trivial
theorem PySem.W.Fast.tw1401879714679283571:True:=trivial
set_option maxRecDepth 100000 in
set_option maxHeartbeats 0 in
theorem PySem.Challenge.cw_crookroad_k39_whole_doubled_lengths_holds : PySem.Challenge.rw_crookroad_k39_whole_doubled_lengths.Holds := by
 w_on;o_law;k_head;(case hw=>w_witness2)
 k_fill
 refine My.walk (l:=PySem.Challenge.rw_crookroad_k39_whole_doubled_lengths) (cO:=132) (TT:=130) rfl rfl (fun w h Y=>⟨PySem.W.km_in_of Y,PySem.W.km_tabs_of Y 130 (.head _)⟩) (fun p=>by kernel_rfl) (fun p=>by kernel_rfl) ?F
 case F =>
  intro w mg fa h KX G hmg
  refine' My.all_mk (cO:=132) (TT:=130) KX G hmg ?zcd ?zce ?zcf ?zcg ?zch ?zci ?zcj ?zck ?zcl ?zcm ?zcn ?zco ?zcp ?zcq ?zcr ?hC ?zcs ?zct ?zcu ?zcv ?zcw ?zcx ?zcy ?zcz ?zc0 ?zc1 ?zc2 ?zc3 ?zc4 ?zc5 ?zc6 ?zc7 ?zc8 ?zc9 ?zda ?zdb ?zdc ?zdd ?zde ?zdf ?zdg ?zdh ?zdi ?zdj ?zdk ?zdl ?zam ?zdm ?zan ?zdn ?zao ?zdo ?zap ?zdp ?zai ?zdq ?zaq ?zdr ?zds ?zdt ?zdu ?zdv ?zdw ?zdx ?zdy ?zdz ?zd0 ?zd1 ?zd2 ?zd3 ?zd4 ?zd5 ?zd6 ?zad ?zae ?zab ?zaf ?zag ?zd7 ?zd8 ?zd9 ?zea ?zeb ?zec ?zed ?zee ?zef ?zeg ?zeh ?zei ?zej ?zek ?zel
  (case zcd=>walk_at "def")
  (case zce=>walk_at "def")
  (case zcf=>walk_at "defD")
  (case zcg=>walk_at "def")
  (case zch=>walk_at "def")
  (case zci=>walk_at "def")
  (case zcj=>walk_at "def")
  (case zck=>walk_at "def")
  (case zcl=>walk_at "def")
  (case zcm=>walk_at "def")
  (case zcn=>walk_at "def")
  (case zco=>walk_at "def")
  (case zcp=>walk_at "def")
  (case zcq=>walk_at "def")
  (case zcr=>walk_at "defT")
  (case hC=>exact(by kernel_rfl))
  (case zcs=>walk_at "def")
  (case zct=>walk_at "def")
  (case zcu=>walk_at "def")
  (case zcv=>walk_at "def")
  (case zcw=>walk_at "def")
  (case zcx=>walk_at "def")
  (case zcy=>walk_at "def")
  (case zcz=>walk_at "def")
  (case zc0=>walk_at "def")
  (case zc1=>walk_at "def")
  (case zc2=>walk_at "def")
  (case zc3=>walk_at "def")
  (case zc4=>walk_at "def")
  (case zc5=>walk_at "def")
  (case zc6=>walk_at "def")
  (case zc7=>walk_at "def")
  (case zc8=>walk_at "def")
  (case zc9=>walk_at "def")
  (case zda=>walk_at "def")
  (case zdb=>walk_at "def")
  (case zdc=>walk_at "def")
  (case zdd=>walk_at "def")
  (case zde=>walk_at "def")
  (case zdf=>walk_at "def")
  (case zdg=>walk_at "def")
  (case zdh=>walk_at "def")
  (case zdi=>walk_at "def")
  (case zdj=>walk_at "def")
  (case zdk=>walk_at "def")
  (case zdl=>k_is)
  (case zam=>k_exc)
  (case zdm=>k_is)
  (case zan=>k_exc)
  (case zdn=>k_is)
  (case zao=>k_exc)
  (case zdo=>k_is)
  (case zap=>k_exc)
  (case zdp=>k_is)
  (case zai=>k_exc)
  (case zdq=>k_is)
  (case zaq=>k_exc)
  (case zdr=>k_is)
  (case zds=>k_is)
  (case zdt=>k_is)
  (case zdu=>k_is)
  (case zdv=>k_is)
  (case zdw=>k_is)
  (case zdx=>k_is)
  (case zdy=>walk_at "meth")
  (case zdz=>walk_at "meth")
  (case zd0=>walk_at "meth")
  (case zd1=>walk_at "meth")
  (case zd2=>walk_at "meth")
  (case zd3=>walk_at "meth")
  (case zd4=>walk_at "meth")
  (case zd5=>walk_at "meth")
  (case zd6=>k_is)
  (case zad=>k_is)
  (case zae=>k_is)
  (case zab=>k_is)
  (case zaf=>k_is)
  (case zag=>k_is)
  (case zd7=>k_is)
  (case zd8=>k_is)
  (case zd9=>k_is)
  (case zea=>k_is)
  (case zeb=>k_is)
  (case zec=>k_is)
  (case zed=>k_is)
  (case zee=>k_is)
  (case zef=>k_is)
  (case zeg=>k_is)
  (case zeh=>k_is)
  (case zei=>k_is)
  (case zej=>k_is)
  (case zek=>k_is)
  (case zel=>k_is)
