import PyProof.Rows.All
import Wide.All
import OpenK.AllK
import Wide.FinOn
import Lean
import PyProof.EqAt
import PyProof.EqKinds
import PyProof.TupleCall
import PyProof.Rows.SortRuns
import PyProof.Rows.Walk
import PyProof.NeData
import KE.IntBitsLaws
import PyProof.SetRoads
import KE.KDictList
import PyProof.Rows.SortShell
import KE.KRevIter
import KE.KStateDown
import KE.KSortTup
import KE.KLam
import KE.KNestM
import PySem.Challenge.RW_crookroad_k14_counts_out_of_range
set_option maxHeartbeats 0
set_option Elab.async false
set_option linter.all false
set_option maxRecDepth 100000
open Lean in
local macro_rules(kind:=Lean.Parser.Command.declaration)|s=>do {if s.getPos?.isNone||(`PySem.Challenge).isPrefixOf s[1][1][0].getId then Macro.throwUnsupported else let k:=s[1].getKind;let m←`(command|noncomputable def x:=0);let s:=if (k==`Lean.Parser.Command.definition||k==`Lean.Parser.Command.abbrev||k==`Lean.Parser.Command.instance)&&s[0][4].isNone then s.setArg 0 (s[0].setArg 4 m.raw[0][4]) else s;return Id.run (s.rewriteBottomUpM fun x=>x.setInfo .none)}
local macro_rules|`(tactic|lia)=>`(tactic|first|lia +splitIte|omega)
local macro_rules|`(⋯)=>`(by first|decide|lia)
local macro_rules|`(tactic|walk_at "iv")=>`(tactic|first|exact .inl rfl|exact .inr rfl|assumption)
local macro_rules|`(tactic|walk_at "vs")=>`(tactic|first|exact Or.inl rfl|exact Or.inr (Or.inl rfl)|exact Or.inr (Or.inr rfl))
def aa:=@List.getElem?_eq_getElem
def ac:=@PySem.wpAny_bind
def ae:=@List.getD_eq_getElem?_getD
def af:=@List.length_map
def ag:=@PySem.Heap.get?_push_of_some
def ah:=@PySem.wpAny_pure
def ai:=@Nat.le_refl
def aj:=@PySem.Heap.lt_size
def ak:=@Option.some.inj
def al:=@List.getElem?_eq_some_iff
def am:=@List.mem_range
def ao:=@if_neg
def aq:=@List.size_toArray
def ar:=@List.length_append
def au:=@List.length_range
def av:=@List.getElem?_map
def aw:=@if_pos
def ax:=@PySem.Heap.get?_push_size
def ay:=@Nat.ne_of_lt
def az:=@List.mem_append_right
def aA:=@List.map_append
def aB:=@List.length_cons
def aC:=@List.mem_cons
def aD:=@Int.mul_le_mul_of_nonneg_right
def aE:=@Bool.false_eq_true
def aF:=@List.getElem?_append_right
def aG:=@List.getElem?_eq_none
def aH:=@List.mem_map
def aI:=@Nat.lt_of_lt_of_le
def aJ:=@Bool.false_ne_true
def aK:=@Nat.zero_le
def aL:=@List.mem_of_getElem?
def aM:=@decide_eq_true
def aN:=@Nat.lt_irrefl
def aO:=@List.map_cons
def aP:=@PySem.wpAny_mono
def aQ:=@List.mem_singleton
def aR:=@Nat.lt_trans
def aS:=@List.getElem?_append_left
def aT:=@List.range_succ
def aU:=@List.map_map
def aV:=@List.getElem?_range
def aW:=@Array.getElem?_eq_getElem
def aX:=@decide_eq_false
def aY:=@List.mem_append
def aZ:=@Int.mul_le_mul_of_nonneg_left
def ba:=@Nat.le_of_lt
def bc:=@Array.length_toList
def be:=@List.pairwise_iff_getElem
def bf:=@PySem.W.mg_none_of
def bg:=@Array.getElem?_eq_some_iff
def bh:=@PySem.W.mg_of
def bi:=@PyProof.Rows.callWith_type1
def bj:=@Nat.lt_or_ge
def bn:=@List.lookup_cons
def bo:=@Nat.le_trans
def bp:=@PySem.PassesOwn.leaving
def bq:=@List.take_length
def br:=@List.mem_filter
def bu:=@List.mem_cons_of_mem
def bv:=@List.length_take
def bw:=@PySem.wpAny_setState_of
def bz:=@Array.getElem?_toList
def bA:=@List.length_nil
def bB:=@PySem.boot_len
def bC:=@PySem.Paired.length
def bD:=@List.mem_append_left
def bE:=@if_false
def bF:=@List.getElem_mem
def bG:=@List.append_nil
def bH:=@PySem.Heap.get?_update_ne
def bI:=@List.length_drop
def bJ:=@PyProof.Rows.wpS_bind
def bK:=@PySem.wpAny_newObj_type
def bL:=@Int.emod_lt_of_pos
def bM:=@Array.getD_eq_getD_getElem?
def bN:=@List.length_filter_le
def bO:=@Int.toNat_of_nonneg
def bP:=@List.map_congr_left
def bQ:=@Int.mul_le_mul
def bR:=@Int.toNat_natCast
def bS:=@List.pairwise_map
def bT:=@congrArg
def bU:=@Int.lt_or_le
def bV:=@Int.emod_nonneg
def bW:=@List.filter_cons
def bX:=@List.Pairwise.imp_of_mem
def bY:=@PySem.wpAny_holding
def bZ:=@beq_eq_false_iff_ne
def b7:=@PySem.Heap.SameBut.update
def b8:=@Int.one_mul
def b9:=@List.ext_getElem?
def ca:=@PySem.wpAny_Call_Name_kw
def cb:=@Int.mul_nonneg
def cf:=@Int.add_mul
def cg:=@PySem.Heap.get?_update_other
def cn:=@Bool.and_eq_true
def cq:=@List.length_singleton
def cu:=@PySem.Heap.get?_update_self
def cw:=@PySem.wpAny_standAt
def cx:=@Bool.eq_iff_iff
def cA:=@PySem.F.slot_dict_keyiterator_next
def cB:=@List.dropLast_concat_getLast
def cC:=@PySem.Obj.data_mapFields
def cD:=@List.filter_append
def cE:=@PyProof.Rows.wpS_pure
def cG:=@PySem.lookup_relabel_local
def cH:=@PySem.wpAny_call_entry
def cI:=@PySem.F.plainAttrs_list
def cJ:=@List.sum_cons
def cK:=@PySem.Heap.size_push
def cL:=@Array.getElem?_eq_none
def cM:=@List.getElem_of_mem
def cN:=@Int.le_refl
def cP:=@List.nodup_cons
def cQ:=@List.getElem?_drop
def cR:=@List.eq_nil_of_length_eq_zero
def cS:=@Nat.pow_le_pow_right
def cT:=@List.getElem?_of_mem
def cU:=@PySem.wpAny_typeNameOfWhole_keyiter
def cV:=@Ne.symm
def cW:=@Nat.le_of_lt_succ
def cX:=@PySem.wpAny_callSpecial?_slot
def cY:=@List.take_add_one
def cZ:=@PySem.mem_of_lookup
def c0:=@Nat.zero_add
def da:=@if_true
def dc:=@Nat.pow_succ
def de:=@PyProof.Rows.boot_list
def df:=@Option.map_eq_some_iff
def dh:=@PySem.sizeLine_eq
def di:=@Nat.mod_eq_of_lt
def dj:=@List.mem_cons_self
def dk:=@List.getLast?_eq_getElem?
def dr:=@PySem.wpAny_passesOwn
def dt:=@PySem.wpAny_truthy_bool
def du:=@List.map_nil
def dv:=@decide_eq_true_eq
def dw:=@of_decide_eq_true
def dz:=@List.getLast?_append
def dA:=@PySem.wpAny_typeNameOf_keyiter
def dB:=@List.filterMap_cons
def dC:=@Nat.lt_succ_self
def dD:=@List.any_eq_true
def dE:=@Array.toList_inj
def dF:=@PySem.F.plain_max_loop
def dG:=@List.getLast?_eq_some_getLast
def dH:=@Int.mul_le_mul_of_nonpos_left
def dJ:=@Nat.ne_of_gt
def dL:=@PySem.codeAny_mono
def dM:=@Nat.lt_of_le_of_lt
def dN:=@Nat.mod_lt
def dO:=@Nat.succ_pos
def dP:=@List.length_pos_of_mem
def dQ:=@List.take_of_length_le
def dR:=@Nat.add_sub_cancel
def dS:=@Int.le_trans
def dU:=@Int.mul_ediv_mul_of_pos_left
def dW:=@List.find?_cons
def dX:=@PyProof.Rows.get?_update_seq
def dY:=@PySem.wpAny_attempt
def dZ:=@PyProof.Rows.listUpdate_at
def d6:=@PySem.Obj.isFreed_of_fields
def d7:=@PySem.exec_Assign_Name_used
def d8:=@PyProof.Rows.boot_min
def d9:=@PyProof.Rows.boot_max
def ee:=@PySem.wpAny_assign_Name
def eo:=@bne_self_eq_false
def eA:=@Nat.lt_succ_of_lt
def eB:=@Array.perm_iff_toList_perm
def eC:=@PySem.wpAny_rule
def eE:=@Nat.mod_two_eq_zero_or_one
def eG:=@PySem.wpAny_setField
def eI:=@PySem.F.excBase_ValueError
def eJ:=@Int.mul_comm
def eK:=@beq_self_eq_true
def eL:=@PySem.wpAny_askSetting
def eM:=@List.getElem?_eq_none_iff
def eO:=@List.getLast?_eq_none_iff
def eP:=@List.flatten_append
def eQ:=@PySem.F.args_tuple_add_2
def eR:=@Array.size_setIfInBounds
def eS:=@PySem.wpAny_comprehension_free
def eT:=@PySem.F.slot_list_append
def eU:=@PySem.F.type_list_append
def eV:=@PyProof.Rows.boot_sorted
def eW:=@PySem.wpAny_execs_nil
def eX:=@PySem.wpAny_ite_split
def eY:=@List.mem_filterMap
def eZ:=@beq_iff_eq
def ff:=@PySem.W.callWith_K
def fh:=@Array.forIn_toList
def fi:=@PySem.F.entry_tuple_add
def fj:=@PyProof.Rows.wpS_forRange
def fk:=@List.flatten_cons
def fu:=@PySem.F.slot_tuple_add
def fv:=@PySem.Obj.cls_mapFields
def fA:=@Int.natAbs_mul
def fB:=@PySem.Heap.SameBut.refl
def fC:=@Int.le_ediv_iff_mul_le
def fE:=@List.append_assoc
def fF:=@PySem.wpAny_storeSet_of
def fG:=@PySem.wpAny_dictEntries
def fH:=@Array.getElem?_setIfInBounds_ne
def fI:=@List.take_append_drop
def fJ:=@PySem.codeAny_handlers_test
def fL:=@List.flatten_nil
def fM:=@PySem.wpAny_forIn_list
def fN:=@List.nodup_range
def fO:=@List.getElem_map
def fP:=@PySem.F.args_dict_keyiterator_next_1
def fQ:=@List.not_mem_nil
def fR:=@Nat.le_add_right
def fS:=@Bool.not_true
def fT:=@PySem.wpAny_newList
def fU:=@Array.mem_toList_iff
def fV:=@Int.mul_ediv_cancel'
def fW:=@PySem.wpAny_newFunctionEnv
def fX:=@PySem.F.entry_dict_keyiterator_next
def fY:=@PySem.wpAny_letGo
def fZ:=@PySem.Around.under_plainId
def ge:=@Nat.not_lt_zero
def gf:=@PySem.codeAny_builtin
def gh:=@List.length_zip
def gk:=@PySem.W.plainGet_of
def gm:=@List.flatMap_append
def gn:=@PySem.wpAny_handleBy_cons
def gv:=@Int.le_of_lt
def gz:=@List.getElem?_take
def gA:=@PySem.W.of_hideAll
def gC:=@PyProof.Rows.assignInOrder_cons
def gD:=@PySem.Calls.spliced_cons
def gE:=@PySem.SeqAt.EqAt.int_int
def gF:=@List.zip_cons_cons
def gG:=@Bool.and_false
def gH:=@Nat.add_right_comm
def gI:=@Int.mul_lt_mul_of_pos_left
def gJ:=@PySem.tupleKind_room_in1
def gK:=@PySem.wpAny_seqItems
def gL:=@Nat.eq_zero_or_pos
def gM:=@PySem.wpAny_fieldsOf
def gN:=@Int.le_of_mul_le_mul_right
def gO:=@Nat.mul_le_mul
def gP:=@List.take_zero
def gQ:=@decide_eq_true_iff
def gR:=@Classical.byContradiction
def gS:=@List.drop_eq_getElem_cons
def gW:=@List.getElem?_zip_eq_some
def gX:=@List.getLastD_eq_getLast?
def gY:=@Int.mul_neg_of_pos_of_neg
def gZ:=@Int.mul_pos_of_neg_of_neg
def g8:=@Array.toList_push
def g9:=@Int.mul_one
def hU:=@PySem.wpAny_pyIter_list
def hX:=@PySem.Calls.spliced_nil
def h9:=@Nat.lt_trichotomy
def ib:=@PySem.wpAny_pyIter_slot
def ic:=@PyProof.Rows.seqEpoch_at
def ie:=@Int.sub_mul
def ig:=@List.getElem?_take_of_lt
def ii:=@Int.mul_assoc
def ij:=@PySem.eval_ListComp
def ik:=@List.any_cons
def im:=@List.cons.inj
def io:=@PySem.plainId_quiet
def iq:=@PySem.F.slot_list_extend
def ir:=@PySem.F.type_list_extend
def iu:=@Nat.add_sub_cancel_left
def iz:=@PySem.wpAny_execs_cons
def iA:=@PySem.noFill_tuple_add
def iB:=@Prod.ext
def iC:=@Int.natCast_dvd_natCast
def iD:=@Bool.not_eq_true
def iE:=@PySem.wpAny_isInstance
def iF:=@List.pairwise_singleton
def iG:=@PySem.Heap.size_update
def iH:=@List.getLast_eq_getElem
def iI:=@Nat.le_mul_of_pos_right
def iJ:=@Int.dvd_mul_left
def iK:=@PyProof.Rows.boot_range
def iL:=@Nat.mul_comm
def iM:=@PySem.wpAny_call
def iN:=@Int.zero_add
def iO:=@Nat.add_comm
def iP:=@Int.ediv_one
def iQ:=@List.of_mem_zip
def iR:=@Nat.two_pow_pos
def iS:=@Nat.div_add_mod
def iT:=@Int.natCast_mul
def iU:=@PySem.wpAny_specialOf
def iV:=@PySem.wpAny_dictEpoch
def iW:=@List.sum_append
def iX:=@Int.ediv_mul_le
def iY:=@PySem.wpAny_updateSeq
def iZ:=@Bool.false_and
def i3:=@PySem.IsRange.new
def i4:=@PySem.wpAny_field
def i6:=@Nat.le_succ
def i8:=@List.take_succ
def i9:=@PySem.intItems_at
def ja:=@PySem.numAt_eq
def jl:=@List.nodup_nil
def jo:=@Bool.not_false
def jC:=@Int.mul_sub
def jE:=@Bool.and_self
def jF:=@Int.lt_irrefl
section
open PySem PySem.Spec PyProof.Rows
abbrev Aa:=PySem.W.Frag
abbrev Ab:=PySem.Shared
abbrev Ac:=PySem.Program
abbrev Ad:=PySem.FuncData
abbrev Ae:=Around
abbrev Af:=SortSt
abbrev Ag:=Value
abbrev Ah:=World
abbrev Ai:=Keyed
abbrev Aj:=Addr
end
namespace L2
theorem exI {α:Sort _}{A K:α->Prop}{v:α}(e:A v)(h:K v):∃x,A x/\K x:=⟨v,e,h⟩
theorem wc {α β:Sort _}{A:α->Prop}{B:β->Prop}{K:α->β->Prop}{u:α}{v:β}(a:A u)(b:B v)(h:K u v):∃x y,A x/\B y/\K x y:=⟨u,v,a,b,h⟩
theorem exX {α β γ δ:Sort _}{A:α->Prop}{B:γ->Prop}{C:α->β->Prop}{D:β->γ->δ->Prop}{K:δ->Prop}{p:α}{xs:β}{i:γ}{v:δ}(a:A p)(b:B i)(c:C p xs)(d:D xs i v)(h:K v):∃p xs i v,A p/\B i/\C p xs/\D xs i v/\K v:=⟨p,xs,i,v,a,b,c,d,h⟩
end L2
namespace Tm
open PySem PyProof.Rows
local macro_rules | `(tactic| walk_at "tim gallop")=>do
 let n:=Lean.mkIdent (Lean.mkPrivateNameCore `PySem.Builtin.List.W1All `PySem.Builtin.gallop);`(tactic| unfold $n:ident)
section
variable {M:Model}{A:Ae}{E:Ag->Ab->Prop}{s:Ab}{G:Ai->Prop}{kz:Ai->Int}{kd:SortKind}
def qkh (M:Model)(A:Ae)(E:Ag->Ab->Prop)(s:Ab)(G:Ai->Prop)(kz:Ai->Int)(kd:SortKind):Prop :=
 ∀(x y:Ai) (st:Af) (Q:Option Bool->Af->Prop),G x->G y->kindOf st=kd->Q (some (decide (kz x<kz y))) st->wpS M A E s (lt' x y) Q st
theorem wqv {arr:Array Ai}{i:Nat}{x:Ai}{st:Af}{Q:Ai->Af->Prop}(hx:arr[i]?=some x)(h:Q x st):wpS M A E s (elem' arr i) Q st:=by rw[elem'_eq,hx];exact cE h
end
local macro_rules | `(tactic| walk_at "tim lo")=>do
 let n:=Lean.mkIdent (Lean.mkPrivateNameCore `PySem.Builtin.List.W1All `PySem.Builtin.mergeLo);`(tactic| unfold $n:ident)
section
variable {kz:Ai->Int}
def SL (kz:Ai->Int)(l:List Ai):Prop:=l.Pairwise λx y=>kz x<kz y
structure LJ (kz:Ai->Int)(T O X Y:List Ai):Prop where
 x:SL kz (O++X)
 y:SL kz (O++Y)
 p:(O++(X++Y)).Perm T
variable {T O X Y X1 X2 Y1 Y2:List Ai}
structure HJ (kz:Ai->Int)(T X Y O:List Ai):Prop where
 x:SL kz (X++O)
 y:SL kz (Y++O)
 p:(X++(Y++O)).Perm T
structure Mg (kz:Ai->Int)(G:Ai->Prop)(a b:Array Ai):Prop where
 sa:SL kz a.toList
 sb:SL kz b.toList
 ne:∀x∈a.toList,∀y∈b.toList,kz x≠kz y
 ga:∀x∈a.toList,G x
 gb:∀x∈b.toList,G x
theorem xkv {a:Array Ai}{i:Nat}(h:i<a.size):∃x,a[i]?=some x/\a.toList[i]?=some x/\x∈a.toList:=⟨a[i],aW h,by simp[h],by simp⟩
end
section
variable {M:Model}{A:Ae}{E:Ag->Ab->Prop}{s:Ab}{G:Ai->Prop}{kz:Ai->Int}{kd:SortKind}{a b:Array Ai}
end
section
variable {M:Model}{A:Ae}{E:Ag->Ab->Prop}{s:Ab}{G:Ai->Prop}{kz:Ai->Int}{kd:SortKind}
def Srt (kz:Ai->Int)(xs:Array Ai)(lo hi:Nat):Prop:=∀i j x y,lo<=i->i<j->j<hi->xs[i]?=some x->xs[j]?=some y->kz x<kz y
def Dsc (kz:Ai->Int)(xs:Array Ai)(lo hi:Nat):Prop:=∀i j x y,lo<=i->i<j->j<hi->xs[i]?=some x->xs[j]?=some y->kz y<kz x
structure Un (kz:Ai->Int)(G:Ai->Prop)(xs:Array Ai):Prop where
 ne:xs.toList.Pairwise λx y=>kz x≠kz y
 g:∀x∈xs.toList,G x
theorem Un.perm {xs ys:Array Ai}(u:Un kz G xs)(p:ys.Perm xs):Un kz G ys:=by have p':=eB.mp p;exact⟨(p'.pairwise_iff (λ{a b} h=>cV h)).mpr u.ne,λx hx=>u.g x (p'.mem_iff.mp hx)⟩
theorem Un.at_ {xs:Array Ai}(u:Un kz G xs){i:Nat}(h:i<xs.size):∃x,xs[i]?=some x/\G x:=by obtain⟨x,e1,_,e3⟩:=xkv h;exact⟨x,e1,u.g x e3⟩
theorem Un.ne_at {xs:Array Ai}(u:Un kz G xs){i j:Nat}{x y:Ai}(hij:i<j)(hx:xs[i]?=some x)(hy:xs[j]?=some y):kz x≠kz y:=by rw[<-bz]at hx hy;obtain⟨hi,rfl⟩:=al.mp hx;obtain⟨z,rfl⟩:=al.mp hy;exact be.mp u.ne i j hi z hij
theorem Jh {st:Af}{i j:Nat}{x y:Ai}{Q:Option Bool->Af->Prop}(O:qkh M A E s G kz kd)(hk:kindOf st=kd)(hx:(arrOf st)[i]?=some x)(hy:(arrOf st)[j]?=some y)(gx:G x)(gy:G y)
  (h:Q (some (decide (kz x<kz y))) st):wpS M A E s (ltAt' i j) Q st:=by
 rw[ltAt'_eq];refine bJ (wpS_get ?_);exact bJ (wqv hx (bJ (wqv hy (O _ _ _ _ gx gy hk h))))
structure Ip (lo:Nat)(st st':Af):Prop where
 k:kindOf st'=kindOf st
 p:pendingOf st'=pendingOf st
 f:failedOf st'=failedOf st
 a:(arrOf st').Perm (arrOf st)
 low:∀i,i<lo->(arrOf st')[i]?=(arrOf st)[i]?
theorem Ip.rfl' (lo:Nat)(st:Af):Ip lo st st:=⟨rfl,rfl,rfl,.refl _,λ_ _=>rfl⟩
theorem Ip.trans {lo:Nat}{a b c:Af}(h:Ip lo a b)(k:Ip lo b c):Ip lo a c:=⟨k.k.trans h.k,k.p.trans h.p,k.f.trans h.f,k.a.trans h.a,λi hi=>(k.low i hi).trans (h.low i hi)⟩
theorem ip_bub {lo src d:Nat}{st:Af}(h:src<(arrOf st).size)(hd:lo+d<=src):Ip lo st (setArr st (bubble (arrOf st) src d)):=by refine⟨rfl,rfl,rfl,bubble_perm _ _ _,λi hi=>?_⟩;show(bubble (arrOf st) src d)[i]?=_;rw[getElem?_bubble h d ⋯,ao ⋯,ao ⋯]
theorem ip_mir {lo i j:Nat}{st:Af}(hj:j<=(arrOf st).size)(hi:lo<=i):Ip lo st (setArr st (mirror (arrOf st) i j ((j-i)/2))):=by refine⟨rfl,rfl,rfl,mirror_perm _ _ _ _,λk z=>?_⟩;show(mirror (arrOf st) i j ((j-i)/2))[k]?=_;rw[getElem?_mirror_all hj,ao ⋯]
theorem Srt.one (xs:Array Ai)(lo:Nat):Srt kz xs lo (lo+1):=λi j x y a b c _ _=>by lia
theorem Srt.snoc {xs:Array Ai}{lo hi:Nat}{x y:Ai}(h:Srt kz xs lo (hi+1))(hlo:lo<=hi)(hx:xs[hi]?=some x)(hy:xs[hi+1]?=some y)(c:kz x<kz y):Srt kz xs lo (hi+1+1):=by
 intro i j u v a b d z D;by_cases e:j=hi+1
 .subst e;rw[hy]at D;cases D;by_cases e2:i=hi
  .subst e2;rw[hx]at z;cases z;exact c
  .have:=h i hi u x a ⋯ ⋯ z hx;lia
 .exact h i j u v a b ⋯ z D
theorem Dsc.snoc {xs:Array Ai}{lo hi:Nat}{x y:Ai}(h:Dsc kz xs lo (hi+1))(hlo:lo<=hi)(hx:xs[hi]?=some x)(hy:xs[hi+1]?=some y)(c:kz y<kz x):Dsc kz xs lo (hi+1+1):=by
 intro i j u v a b d z D;by_cases e:j=hi+1
 .subst e;rw[hy]at D;cases D;by_cases e2:i=hi
  .subst e2;rw[hx]at z;cases z;exact c
  .have:=h i hi u x a ⋯ ⋯ z hx;lia
 .exact h i j u v a b ⋯ z D
theorem Dsc.turn {xs:Array Ai}{lo n:Nat}(h:Dsc kz xs lo (lo+n))(hs:lo+n<=xs.size):Srt kz (mirror xs lo (lo+n) ((lo+n-lo)/2)) lo (lo+n):=by intro i j u v a b d D z;rw[getElem?_mirror_all hs,aw ⟨⋯,⋯⟩]at D z;exact h _ _ v u ⋯ ⋯ ⋯ z D
theorem xvx {st:Af}{lo n0 nrem:Nat}{f:Nat->Option (Option Nat)×Nat->StateT Af Sem (ForInStep (Option (Option Nat)×Nat))}{Q:Option (Option Nat)×Nat->Af->Prop}
  (hf:∀i n (R:ForInStep (Option (Option Nat)×Nat)->Af->Prop),1<=n->n<nrem->(∀x y,(arrOf st)[lo+n-1]?=some x->(arrOf st)[lo+n]?=some y->(kz y<kz x->R (.done (none,n)) st)/\(¬ kz y<kz x->R (.yield (none,n+1)) st))->wpS M A E s (f i (none,n)) R st)
  (u:Un kz G (arrOf st)) (h0:1<=n0) (hn:n0<=nrem) (hz:lo+nrem<=(arrOf st).size) (sr:Srt kz (arrOf st) lo (lo+n0))
  (h:∀n,n0<=n->n<=nrem->Srt kz (arrOf st) lo (lo+n)->(n=nrem\/∀x y,(arrOf st)[lo+n-1]?=some x->(arrOf st)[lo+n]?=some y->kz y<kz x)->Q (none,n) st) :
  wpS M A E s (forIn [n0:nrem] ((none,n0):Option (Option Nat)×Nat) f) Q st:=by
 refine fj (I:=λi (c:Option (Option Nat)×Nat) st'=>st'=st/\c=(none,i)/\n0<=i/\Srt kz (arrOf st) lo (lo+i)) ?step ?fin ⟨rfl,rfl,ai _,sr⟩
 case fin =>
  rintro c st' ⟨rfl,rfl,x1,x2⟩;have e:max n0 nrem=nrem:=by lia
  rw[e]at x1 x2 ⊢;exact h _ x1 (ai _) x2 (.inl rfl)
 case step =>
  rintro i c st' hi hi2 ⟨rfl,rfl,x1,x2⟩;refine hf _ _ _ ⋯ hi2 λx y ex ey=>⟨λc=>?_,λc=>?_⟩
  .refine h i x1 ⋯ x2 (.inr λx' y' ex' ey'=>?_);rw[ex]at ex';rw[ey]at ey';cases ex';cases ey';exact c
  .have ne:=u.ne_at (show lo+i-1<lo+i by lia) ex ey;refine⟨rfl,rfl,⋯,?_⟩;obtain⟨m,e⟩:∃m,lo+i=m+1:=⟨lo+i-1,⋯⟩;rw[show lo+(i+1)=m+1+1 by lia];rw[e]at x2 ey ex;exact x2.snoc ⋯ (by simpa using ex) ey ⋯
theorem wyf {st:Af}{lo nrem:Nat}{Q:Option Nat->Af->Prop}(O:qkh M A E s G kz kd)(hk:kindOf st=kd)(u:Un kz G (arrOf st))(h1:1<=nrem)(hz:lo+nrem<=(arrOf st).size)
  (h:∀n st',1<=n->n<=nrem->Ip lo st st'->Srt kz (arrOf st') lo (lo+n)->Q (some n) st'):wpS M A E s (countRun' lo nrem) Q st:=by
 rw[countRun'_eq];dsimp only;refine bJ (xvx (lo:=lo) (n0:=1) (nrem:=nrem) (λi n R n1 n2 hR=>?_) u (ai _) h1 hz (Srt.one _ _) λn n1 n2 sr hor=>?_)
 .obtain⟨x,ex,gx⟩:=u.at_ (i:=lo+n-1) ⋯;obtain⟨y,ey,gy⟩:=u.at_ (i:=lo+n) ⋯;have:=hR x y ex ey;dsimp only;refine bJ (Jh O hk ey ex gy gx ?_);dsimp only;by_cases c:kz y<kz x
  .rw[aw (aM c)];exact cE (this.1 c)
  .rw[ao (by simpa using c)];exact cE (this.2 c)
 dsimp only;by_cases c:(n==nrem)=true
 .rw[aw c];exact cE (h n st n1 n2 (Ip.rfl' _ _) sr)
 rw[ao c];have c':n<nrem:=by
  have:¬ n=nrem:=by simpa using c
  lia
 by_cases c2:n>1
 .rw[aw c2];obtain⟨x,ex,gx⟩:=u.at_ (i:=lo) ⋯;obtain⟨y,ey,gy⟩:=u.at_ (i:=lo+n-1) ⋯;refine bJ (Jh O hk ex ey gx gy ?_);dsimp only;rw[aw (aM (sr lo (lo+n-1) x y (ai _) ⋯ ⋯ ex ey))];exact cE (h n st n1 n2 (Ip.rfl' _ _) sr)
 rw[ao c2];obtain rfl:n=1:=by lia
 refine bJ (wpS_lift (eC ⟨rfl,?_⟩));have fall:=hor.resolve_left ⋯;have d0:Dsc kz (arrOf st) lo (lo+(1+1)):=by obtain⟨x,ex,gx⟩:=u.at_ (i:=lo) ⋯;obtain⟨y,ey,gy⟩:=u.at_ (i:=lo+1) ⋯;exact Dsc.snoc (hi:=lo) (λi j u v a b d _ _=>by lia) (ai _) ex ey (fall x y (by simpa using ex) ey)
 refine bJ (wpS_mono (fj (I:=λi (c:Option (Option Nat)×Nat×Nat) st'=>st'=st/\c=(none,i,0)/\2<=i/\i<=nrem/\Dsc kz (arrOf st) lo (lo+i))
  (Q:=λc st'=>st'=st/\∃i,c=(none,i,0)/\2<=i/\i<=nrem/\Dsc kz (arrOf st) lo (lo+i)) ?step ?fin ⟨rfl,rfl,ai _,⋯,d0⟩) ?post)
 case fin =>
  rintro c st' ⟨rfl,rfl,x1,x2,x3⟩;exact⟨rfl,_,rfl,x1,x2,x3⟩
 case step =>
  rintro i c st' hi hi2 ⟨rfl,rfl,x1,x2,x3⟩;dsimp only;obtain⟨x,ex,gx⟩:=u.at_ (i:=lo+i-1) ⋯;obtain⟨y,ey,gy⟩:=u.at_ (i:=lo+i) ⋯;refine bJ (Jh O hk ey ex gy gx ?_);dsimp only;have ne:=u.ne_at (show lo+i-1<lo+i by lia) ex ey;by_cases c:kz y<kz x
  .rw[aw (aM c)];rw[ao (aN 0)];refine cE ⟨rfl,rfl,⋯,⋯,?_⟩;obtain⟨m,e⟩:∃m,lo+i=m+1:=⟨lo+i-1,⋯⟩;rw[show lo+(i+1)=m+1+1 by lia];rw[e]at x3 ey ex;exact x3.snoc ⋯ (by simpa using ex) ey c
  .rw[ao (by simpa using c)];refine bJ (Jh O hk ex ey gx gy ?_);dsimp only;rw[aw (aM (show kz x<kz y by lia))];exact cE ⟨rfl,i,rfl,x1,x2,x3⟩
 case post =>
  rintro c st' ⟨rfl,i,rfl,x1,x2,x3⟩;dsimp only;rw[ao (aN 0)];refine bJ ?_;rw[reverseSlice'_eq];refine wpS_modify ?_;have ip:=ip_mir (lo:=lo) (i:=lo) (j:=lo+i) (st:=st') ⋯ (ai _);have sr2:Srt kz (arrOf (setArr st' (mirror (arrOf st') lo (lo+i) ((lo+i-lo)/2)))) lo (lo+i):=x3.turn ⋯;generalize setArr st' (mirror (arrOf st') lo (lo+i) ((lo+i-lo)/2))=st2 at ip sr2 ⊢;have u2:=u.perm ip.a;have z2:(arrOf st2).size=(arrOf st').size:=ip.a.size_eq;refine bJ (xvx (lo:=lo) (n0:=i) (nrem:=nrem) (λi n R n1 n2 hR=>?_) u2 ⋯ x2 ⋯ sr2 λn n1 n2 sr hor=>?_)
  .obtain⟨x,ex,gx⟩:=u2.at_ (i:=lo+n-1) ⋯;obtain⟨y,ey,gy⟩:=u2.at_ (i:=lo+n) ⋯;have:=hR x y ex ey;dsimp only;refine bJ (Jh O (ip.k.trans hk) ey ex gy gx ?_);dsimp only;by_cases c:kz y<kz x
   .rw[aw (aM c)];exact cE (this.1 c)
   .rw[ao (by simpa using c)];exact cE (this.2 c)
  exact cE (h n st2 ⋯ n2 ip sr)
theorem xjc {st:Af}{lo n ok:Nat}{Q:Bool->Af->Prop}(O:qkh M A E s G kz kd)(hk:kindOf st=kd)(u:Un kz G (arrOf st))(h1:1<=ok)(hok:ok<=n)(hz:lo+n<=(arrOf st).size)(sr:Srt kz (arrOf st) lo (lo+ok))
  (h:∀st',Ip lo st st'->Srt kz (arrOf st') lo (lo+n)->Q true st'):wpS M A E s (binarySort' lo n ok) Q st:=by
 rw[binarySort'_eq];have em:max ok 1=ok:=by lia
 rw[em];refine bJ (wpS_mono (fj (I:=λk c st'=>c=(none,())/\Ip lo st st'/\Srt kz (arrOf st') lo (lo+k)) (Q:=λc st'=>c=(none,())/\Ip lo st st'/\Srt kz (arrOf st') lo (lo+n)) ?step ?fin ⟨rfl,Ip.rfl' _ _,sr⟩) ?post)
 case fin =>
  rintro c st' ⟨rfl,x1,x2⟩;rw[show max ok n=n by lia]at x2;exact⟨rfl,x1,x2⟩
 case post =>
  rintro c st' ⟨rfl,x1,x2⟩;exact cE (h st' x1 x2)
 case step =>
  rintro k c st1 hk1 hk2 ⟨rfl,ip,s1⟩;dsimp only;have u1:=u.perm ip.a;have z1:(arrOf st1).size=(arrOf st).size:=ip.a.size_eq;obtain⟨x,ex,gx⟩:=u1.at_ (i:=lo+k) ⋯;refine bJ (wpS_mono (fj (I:=λi (c:Option Bool×Nat×Nat) st'=>st'=st1/\c.1=none/\c.2.1<=c.2.2/\c.2.2<=k/\c.2.2-c.2.1<=k-i/\(∀j y,j<c.2.1->(arrOf st1)[lo+j]?=some y->kz y<kz x)/\(∀j y,c.2.2<=j->j<k->(arrOf st1)[lo+j]?=some y->kz x<kz y))
   (Q:=λc st'=>st'=st1/\∃l r,c=(none,l,r)/\l<=k/\(∀j y,j<l->(arrOf st1)[lo+j]?=some y->kz y<kz x)/\(∀j y,l<=j->j<k->(arrOf st1)[lo+j]?=some y->kz x<kz y)) ?step2 ?fin2 ⟨rfl,rfl,aK _,ai _,by dsimp only;lia,λj y hj=>by dsimp only at hj;lia,λj y a b=>by dsimp only at a;lia⟩) ?post2)
  case fin2 =>
   rintro⟨r,a,b⟩ st' ⟨rfl,hr,y1,y2,y3,y4,y5⟩;dsimp only at hr y1 y2 y3 y4 y5;subst hr;have:a=b:=by lia
   subst this;exact⟨rfl,_,_,rfl,y2,y4,y5⟩
  case step2 =>
   rintro i ⟨r,a,b⟩ st' _ hi ⟨rfl,hr,y1,y2,y3,y4,y5⟩;dsimp only at hr y1 y2 y3 y4 y5 ⊢;subst hr;by_cases c:a>=b
   .rw[aw c];have:a=b:=by lia
    subst this;exact cE ⟨rfl,_,_,rfl,y2,y4,y5⟩
   rw[ao c];obtain⟨y,ey,gy⟩:=u1.at_ (i:=lo+(a+b)/2) ⋯;refine bJ (Jh O (ip.k.trans hk) ex ey gx gy ?_);dsimp only;have ne:=u1.ne_at (show lo+(a+b)/2<lo+k by lia) ey ex;have mon:∀j j' z z',j<=j'->j'<k->(arrOf st')[lo+j]?=some z->(arrOf st')[lo+j']?=some z'->kz z<=kz z':=λj j' z z' h1 h2 e1 e2=>by
    rcases bj j j' with c|c
    .exact gv (s1 (lo+j) (lo+j') z z' ⋯ ⋯ ⋯ e1 e2)
    .obtain rfl:j=j':=by lia
     rw[e1]at e2;cases e2;exact cN _
   by_cases d:kz x<kz y
   .rw[aw (aM d)];refine cE ⟨rfl,rfl,by dsimp only;lia,by dsimp only;lia,by dsimp only;lia,y4,λj z hj hj2 ez=>?_⟩;have:=mon _ _ _ _ hj hj2 ey ez;lia
   .rw[ao (by simpa using d)];refine cE ⟨rfl,rfl,by dsimp only;lia,y2,by dsimp only;lia,λj z hj ez=>?_,y5⟩;dsimp only at hj;have:=mon j ((a+b)/2) _ _ ⋯ ⋯ ez ey;lia
  case post2 =>
   rintro c st' ⟨rfl,l,r,rfl,hl,b1,b2⟩;dsimp only;refine bJ ?_;rw[moveDown'_eq];refine wpS_modify ?_;have ed:lo+k-(lo+l)=k-l:=by lia
   rw[ed];refine cE ⟨rfl,ip.trans (ip_bub ⋯ ⋯),?_⟩;show Srt kz (bubble (arrOf st') (lo+k) (k-l)) lo (lo+(k+1));intro i j p q h1 h2 h3 ep eq;rw[getElem?_bubble ⋯ (k-l) ⋯]at ep eq;have e4:lo+k-(k-l)=lo+l:=by lia
   rw[e4]at ep eq;by_cases c1:i=lo+l
   .rw[aw c1,ex]at ep;cases ep;rw[ao ⋯,aw ⟨⋯,⋯⟩]at eq;exact b2 (j-1-lo) q ⋯ ⋯ (by rw[<-eq];congr 1;lia)
   .rw[ao c1]at ep;by_cases c2:j=lo+l
    .rw[aw c2,ex]at eq;cases eq;rw[ao ⋯]at ep;exact b1 (i-lo) p ⋯ (by rw[<-ep];congr 1;lia)
    .rw[ao c2]at eq;by_cases c3:lo+l<i/\i<=lo+k
     .rw[aw c3]at ep;rw[aw ⟨⋯,⋯⟩]at eq;exact s1 (i-1) (j-1) p q ⋯ ⋯ ⋯ ep eq
     .rw[ao c3]at ep;by_cases c4:lo+l<j/\j<=lo+k
      .rw[aw c4]at eq;have h5:=b1 (i-lo) p ⋯ (by rw[<-ep];congr 1;lia);have h6:=b2 (j-1-lo) q ⋯ ⋯ (by rw[<-eq];congr 1;lia);lia
      .rw[ao c4]at eq;exact s1 i j p q h1 h2 ⋯ ep eq
end
local macro_rules | `(tactic| walk_at "tim at")=>do
 let n:=Lean.mkIdent (Lean.mkPrivateNameCore `PySem.Builtin.List.W1All `PySem.Builtin.mergeAt);`(tactic| unfold $n:ident)
section
variable {kz:Ai->Int}{G:Ai->Prop}
def Pend (kz:Ai->Int):List (Nat×Nat)->List (List Ai)->Nat->Prop
 |[],[],_=>True
 |q::ps,r::rs,lo=>q.1=lo/\q.2=r.length/\1<=r.length/\SL kz r/\Pend kz ps rs (lo+r.length)
 |[],_::_,_=>False
 |_::_,[],_=>False
def pr (q:Nat×Nat×Nat):Nat×Nat:=(q.1,q.2.1)
theorem Pend.len:∀ {ps:List (Nat×Nat)} {rs:List (List Ai)} {lo:Nat},Pend kz ps rs lo->ps.length=rs.length
 |[],[],_,_=>rfl
 |_::ps,_::rs,_,h=>by simp[Pend.len h.2.2.2.2]
 |[],_::_,_,h=>h.elim
 |_::_,[],_,h=>h.elim
theorem Pend.size:∀ {ps:List (Nat×Nat)} {rs:List (List Ai)} {lo:Nat},Pend kz ps rs lo->rs.length<=rs.flatten.length
 |[],[],_,_=>by simp
 |_::ps,r::rs,_,h=>by have:=Pend.size h.2.2.2.2;have:=h.2.2.1;simp only[fk,ar,aB];lia
 |[],_::_,_,h=>h.elim
 |_::_,[],_,h=>h.elim
theorem Pend.push:∀ {ps:List (Nat×Nat)} {rs:List (List Ai)} {lo:Nat} {r:List Ai} {q:Nat×Nat},Pend kz ps rs lo->q.1=lo+rs.flatten.length->q.2=r.length->1<=r.length->SL kz r->Pend kz (ps++[q]) (rs++[r]) lo
 |[],[],_,_,_,_,a,b,c,d=>⟨by simpa using a,b,c,d,trivial⟩
 |_::ps,r'::rs,_,_,_,h,a,b,c,d=>⟨h.1,h.2.1,h.2.2.1,h.2.2.2.1,Pend.push h.2.2.2.2 (by simp only[fk,ar]at a;lia) b c d⟩
 |[],_::_,_,_,_,h,_,_,_,_=>h.elim
 |_::_,[],_,_,_,h,_,_,_,_=>h.elim
end
section
variable {M:Model}{A:Ae}{E:Ag->Ab->Prop}{s:Ab}{G:Ai->Prop}{kz:Ai->Int}{kd:SortKind}
end
section
variable {M:Model}{A:Ae}{E:Ag->Ab->Prop}{s:Ab}{G:Ai->Prop}{kz:Ai->Int}{kd:SortKind}
structure Wt (kz:Ai->Int)(kd:SortKind)(a₀:Array Ai)(st:Af)(rs:List (List Ai))(S:List Ai):Prop where
 k:kindOf st=kd
 f:failedOf st=none
 a:(arrOf st).Perm a₀
 t:(arrOf st).toList=rs.flatten++S
 p:Pend kz ((pendingOf st).toList.map pr) rs 0
theorem Wt.size {a₀:Array Ai}{st:Af}{rs:List (List Ai)}{S:List Ai}(w:Wt kz kd a₀ st rs S):rs.flatten.length+S.length=a₀.size:=by rw[<-w.a.size_eq,<-bc,w.t,ar]
theorem Wt.pl {a₀:Array Ai}{st:Af}{rs:List (List Ai)}{S:List Ai}(w:Wt kz kd a₀ st rs S):(pendingOf st).size=rs.length:=by have:=w.p.len;simpa using this
theorem Wt.ip {a₀:Array Ai}{st st':Af}{rs:List (List Ai)}{S:List Ai}{lo:Nat}(w:Wt kz kd a₀ st rs S)(hlo:lo=rs.flatten.length)(i:Ip lo st st'):∃S',Wt kz kd a₀ st' rs S'/\S'.length=S.length:=by
 subst hlo;have e:(arrOf st').toList=rs.flatten++(arrOf st').toList.drop rs.flatten.length:=by
  conv=>lhs;rw[<-fI rs.flatten.length (arrOf st').toList]
  congr 1;refine b9 λj=>?_;rw[gz];split
  .rename_i h;rw[bz,i.low j h,<-bz,w.t,aS h]
  .rename_i h;rw[aG ⋯]
 refine⟨_,⟨i.k.trans w.k,i.f.trans w.f,i.a.trans w.a,e,by rw[i.p];exact w.p⟩,?_⟩;have z:=i.a.size_eq;have h1:=bT List.length w.t;rw[ar,bc]at h1;rw[bI,bc];lia
theorem xwr {xs:Array Ai}{P S:List Ai}{n:Nat}(h:xs.toList=P++S)(sr:Srt kz xs P.length (P.length+n))(hn:n<=S.length):SL kz (S.take n):=by
 refine be.mpr λi j hi D J=>?_;have F:=hi;have z:=D;rw[bv]at F z;refine sr (P.length+i) (P.length+j) _ _ ⋯ ⋯ ⋯ ?_ ?_
 .rw[<-bz,h,aF ⋯,iu,List.getElem_take,aa]
 .rw[<-bz,h,aF ⋯,iu,List.getElem_take,aa]
theorem Wt.push {a₀:Array Ai}{st:Af}{rs:List (List Ai)}{S:List Ai}{lo n:Nat}(w:Wt kz kd a₀ st rs S)(hlo:lo=rs.flatten.length)(h1:1<=n)(hn:n<=S.length)(sl:SL kz (S.take n)):Wt kz kd a₀ (setPending st ((pendingOf st).push (lo,n,0))) (rs++[S.take n]) (S.drop n):=by
 have z:(S.take n).length=n:=by rw[bv];lia
 refine⟨w.k,w.f,w.a,?_,?_⟩
 .show(arrOf st).toList=_;rw[w.t];simp
 .show Pend kz (((pendingOf st).push (lo,n,0)).toList.map pr) _ 0;rw[g8,aA];exact w.p.push (by rw[c0];exact hlo) z.symm ⋯ sl
end
section
variable {M:Model}{A:Ae}{E:Ag->Ab->Prop}{s:Ab}{G:Ai->Prop}{kz:Ai->Int}{kd:SortKind}
theorem xqr {n:Nat}(h:n<64):minRun' n n 0=n:=by
 cases n with
 |zero=>rfl
 |succ f=>rw[minRun'_succ,aw h]
theorem Zj {a₀:Array Ai}{st:Af}{Q:Unit->Af->Prop}(O:qkh M A E s G kz kd)(u:Un kz G a₀)(hk:kindOf st=kd)(hf:failedOf st=none)(ha:arrOf st=a₀)(hp:pendingOf st=#[])(hn:a₀.size<64)
  (h:∀st',(arrOf st').Perm a₀->failedOf st'=none->SL kz (arrOf st').toList->Q () st'):wpS M A E s sortRuns' Q st:=by
 rw[sortRuns'_eq];dsimp only;refine bJ (wpS_get ?_);rw[ha];have w0:Wt kz kd a₀ st [] a₀.toList:=⟨hk,hf,by rw[ha],by rw[ha];rfl,by rw[hp];trivial⟩;have emr:minRun' a₀.size a₀.size 0=a₀.size:=xqr hn;generalize minRun' a₀.size a₀.size 0=mr at emr;refine bJ (wpS_mono (fj (I:=λx (c:Option Unit×Nat) st'=>c.1=none/\∃rs S,Wt kz kd a₀ st' rs S/\c.2=rs.flatten.length/\x<=c.2/\rs.length<=1/\(rs=[]\/S=[])) (Q:=λc st'=>c.1=none/\∃rs,Wt kz kd a₀ st' rs []/\rs.length<=1) ?step ?fin ⟨rfl,[],a₀.toList,w0,rfl,ai _,aK _,.inl rfl⟩) ?post)
 case fin =>
  rintro⟨r,lo⟩ st' ⟨hr,rs,S,w,e,hx,r1,ro⟩;dsimp only at e hx hr;have z:=w.size;have:S=[]:=cR ⋯;subst this;exact⟨hr,rs,w,r1⟩
 case step =>
  rintro x ⟨r,lo⟩ st1 _ hx ⟨hr,rs,S,w,e,hx2,r1,ro⟩;dsimp only at e hx2 hr ⊢;subst hr;have z:=w.size;by_cases c:lo>=a₀.size
  .rw[aw c];have:S=[]:=cR ⋯;subst this;exact cE ⟨rfl,rs,w,r1⟩
  rw[ao c];have rs0:rs=[]:=by
   rcases ro with h|h
   .exact h
   .rw[h,bA]at z;lia
  subst rs0;have lo0:lo=0:=e;refine bJ (wyf O w.k (u.perm w.a) ⋯ (by rw[w.a.size_eq];lia) λn st2 n1 n2 ip sr=>?_);obtain⟨S2,w2,z2⟩:=w.ip e ip;have sl2:SL kz (S2.take n):=xwr w2.t (by rw[<-e];exact sr) ⋯;have nS:n<=S2.length:=by lia
  dsimp only;by_cases c2:n<mr
  case' pos =>
   rw[aw c2];refine bJ (wpS_lift (eC ⟨rfl,?_⟩));refine bJ (xjc O w2.k (u.perm w2.a) n1 (show n<=min (a₀.size-lo) mr by lia) (by rw[w2.a.size_eq];lia) sr λst3 ip3 sr3=>?_);obtain⟨S3,w3,z3⟩:=w2.ip e ip3;have sl3:SL kz (S3.take (min (a₀.size-lo) mr)):=xwr w3.t (by rw[<-e];exact sr3) ⋯;have nS3:min (a₀.size-lo) mr<=S3.length:=by lia
   have n3:1<=min (a₀.size-lo) mr:=by lia
   rw[ao ⋯];have em:min (a₀.size-lo) mr=a₀.size:=by lia
   generalize min (a₀.size-lo) mr=m at sl3 nS3 n3 em ⊢;clear sl2 nS sr n2 c2 n1 sr3 ip3
  case' neg =>
   rw[ao c2];obtain⟨st3,rfl⟩:∃st3,st3=st2:=⟨_,rfl⟩;obtain⟨m,rfl⟩:∃m,m=n:=⟨_,rfl⟩;obtain⟨S3,rfl⟩:∃S3,S3=S2:=⟨_,rfl⟩;have w3:=w2;have sl3:=sl2;have nS3:=nS;have n3:=n1;have em:m=a₀.size:=by have:=w2.size;rw[fL,bA]at this;lia
  all_goals
   refine bJ (wpS_get ?_);have pl3:=w3.pl;split
   .rename_i hsz;have p0:pendingOf st3=#[]:=Array.eq_empty_of_size_eq_zero pl3;rw[p0]at hsz;cases hsz
   .refine bJ (wpS_modify (cE ?_));have w6:=w3.push e n3 nS3 sl3;have z3':=w3.size;refine⟨rfl,_,_,w6,?_,?_,ai _,.inr ?_⟩
    .simp only[List.nil_append,fk,fL,bG,bv];lia
    .lia
    .refine cR ?_;rw[bI];rw[fL,bA]at z3';lia
 case post =>
  rintro⟨r,lo⟩ st1 ⟨hr,rs,w,r1⟩;dsimp only at hr ⊢;subst hr;dsimp only;have z:=w.size;have zz:=w.p.size;refine bJ (wpS_mono (fj (I:=λx (c:Option Unit×Unit) st'=>c=(none,())/\∃rs,Wt kz kd a₀ st' rs []/\rs.length<=1) (Q:=λc st'=>c=(none,())/\∃rs,Wt kz kd a₀ st' rs []/\rs.length<=1) ?step2 ?fin2 ⟨rfl,rs,w,r1⟩) ?post2)
  case fin2 =>
   rintro c st' ⟨rfl,rs,w,hor⟩;exact⟨rfl,rs,w,⋯⟩
  case step2 =>
   rintro x c st' _ hx ⟨rfl,rs,w,hor⟩
   try dsimp only
   have pl:=w.pl;refine bJ (wpS_get ?_);by_cases c:(pendingOf st').size<=1
   .rw[aw c];exact cE ⟨rfl,rs,w,⋯⟩
   rw[ao c];exact absurd ⋯ c
  case post2 =>
   rintro c st' ⟨rfl,rs,w,hl⟩;dsimp only;refine cE (h st' w.a w.f ?_);rw[w.t,bG]
   match rs,hl,w.p with
   |[],_,_=>exact List.Pairwise.nil
   |[r],_,p =>
    simp only[fk,fL,bG];cases hp9:(pendingOf st').toList.map pr with
    |nil=>rw[hp9]at p;exact p.elim
    |cons a b=>rw[hp9]at p;exact p.2.2.2.1
end
end Tm
namespace L2
open PySem PySem.Spec PyProof.Rows
abbrev Key:=Sum Int Str
def qkg:Key->Ag->Bool
 |.inl k,v=>Value.isInt k v
 |.inr x,v=>Value.isStrOf x v
def keyH (w:Ah):Key->Int
 |.inl k=>hashInt k
 |.inr x=>hashStr w x
theorem vq:∀ {k:Key} {v:Ag},qkg k v=true->(∃i t,k=Sum.inl i/\v=Value.int i t)\/(∃x t,k=Sum.inr x/\v=Value.str x t)
 |.inl i,v,h=>by obtain⟨t,e⟩:=Value.isInt_shape (k:=i) (v:=v) h;exact .inl ⟨i,t,rfl,e⟩
 |.inr x,v,h=>by obtain⟨t,e⟩:=Value.isStrOf_shape (x:=x) (v:=v) h;exact .inr ⟨x,t,rfl,e⟩
theorem xqm (i:Int)(t:Tok):qkg (.inl i) (.int i t)=true:=by simp[qkg,Value.isInt]
theorem wyc (x:Str)(t:Tok):qkg (.inr x) (.str x t)=true:=by simp[qkg,Value.isStrOf]
theorem key_ll (a b:Int):decide ((Sum.inl a:Key)=Sum.inl b)=(a==b):=by
 by_cases e:a=b
 .subst e;simp
 .have h:¬ (Sum.inl a:Key)=Sum.inl b:=λq=>e (Sum.inl.inj q);rw[aX h];exact(bZ.mpr e).symm
theorem key_rr (a b:Str):decide ((Sum.inr a:Key)=Sum.inr b)=decide (a=b):=by
 by_cases e:a=b
 .subst e;simp
 .have h:¬ (Sum.inr a:Key)=Sum.inr b:=λq=>e (Sum.inr.inj q);rw[aX h,aX e]
theorem key_lr (a:Int)(b:Str):decide ((Sum.inl a:Key)=Sum.inr b)=false:=aX (λq=>nomatch q)
theorem key_rl (a:Str)(b:Int):decide ((Sum.inr a:Key)=Sum.inl b)=false:=aX (λq=>nomatch q)
def vk (prog:Ac)(w:Ah):PySem.KeyKind prog w Key where
 is:=qkg
 hash:=keyH w
 inj:=λv a b ha hb=>by
  rcases vq ha with⟨i,t,rfl,rfl⟩|⟨x,t,rfl,rfl⟩
  .rcases vq hb with⟨j,u,rfl,e⟩|⟨y,u,rfl,e⟩
   .injection e with e1 _;rw[e1]
   .exact nomatch e
  .rcases vq hb with⟨j,u,rfl,e⟩|⟨y,u,rfl,e⟩
   .exact nomatch e
   .injection e with e1 _;rw[e1]
 byValue:=λk v h=>by rcases vq h with⟨i,t,rfl,rfl⟩|⟨x,t,rfl,rfl⟩ <;> rfl
 pyHash:=λhv h=>by
  rcases vq hv with⟨i,t,rfl,rfl⟩|⟨x,t,rfl,rfl⟩
  .exact wpAny_pyHash_int h
  .exact wpAny_pyHash_str h
 eqBool:=λhu hv h=>by
  rcases vq hu with⟨i,t,rfl,rfl⟩|⟨x,t,rfl,rfl⟩
  .rcases vq hv with⟨j,u,rfl,rfl⟩|⟨y,u,rfl,rfl⟩
   .rw[key_ll]at h;exact wpAny_eqBool_int h
   .rw[key_lr]at h;exact SeqAt.EqAt.int_str i t y u _ _ _ _ h
  .rcases vq hv with⟨j,u,rfl,rfl⟩|⟨y,u,rfl,rfl⟩
   .rw[key_rl]at h;exact SeqAt.EqAt.str_int x t j u _ _ _ _ h
   .rw[key_rr]at h;exact wpAny_eqBool_str h
 «strs»:=λk x t v h=>by
  rcases vq h with⟨i,u,rfl,e⟩|⟨y,u,rfl,e⟩
  .exact nomatch e
  .injection e with e1 _
   subst e1;cases v <;> rfl
theorem wwh (prog:Ac)(w:Ah)(i:Int)(t:Tok):(vk prog w).is (.inl i) (.int i t)=true:=xqm i t
theorem qu5 (prog:Ac)(w:Ah)(x:Str)(t:Tok):(vk prog w).is (.inr x) (.str x t)=true:=wyc x t
inductive V where
 |non|bl (b:Bool)|int (i:Int)|str (x:Str)|byt (b:Array UInt8)|flt (b:UInt64)|ref (a:Aj)|ty (n:String)
 deriving DecidableEq
def RelV:V->Ag->Prop
 |.non,u=>u=Value.none
 |.bl b,u=>u=Value.bool b
 |.int i,u=>∃t,u=Value.int i t
 |.str x,u=>∃t,u=Value.str x t
 |.byt b,u=>∃t,u=Value.bytes b t
 |.flt b,u=>∃t,u=Value.float b t
 |.ref a,u=>u=Value.ref a
 |.ty n,u=>u=Value.type n
abbrev Vals:List V->List Ag->Prop:=Paired RelV
theorem Vals.length {xs:List V}{us:List Ag}(r:Vals xs us):xs.length=us.length:=bC r
theorem Vals.get:∀ {xs:List V} {us:List Ag} {i:Nat} {x:V},Vals xs us->xs[i]?=some x->∃u,us[i]?=some u/\RelV x u
 |_,_,_,_,.nil,e=>by simp at e
 |_,_,0,_,.cons r _,e=>by simp at e;subst e;exact⟨_,rfl,r⟩
 |_,_,i+1,x,.cons _ t,e=>by obtain⟨u,h1,h2⟩:=Vals.get (i:=i) (x:=x) t (by simpa using e);exact⟨u,by simpa using h1,h2⟩
theorem Vals.append:∀ {xs ys:List V} {us ws:List Ag},Vals xs us->Vals ys ws->Vals (xs++ys) (us++ws)
 |_,_,_,_,.nil,s=>s
 |_,_,_,_,.cons r t,s=>.cons r (Vals.append t s)
theorem Vals.take:∀ {xs:List V} {us:List Ag} (n:Nat),Vals xs us->Vals (xs.take n) (us.take n)
 |_,_,0,_=>.nil
 |_,_,_+1,.nil=>.nil
 |_,_,n+1,.cons r t=>.cons r (Vals.take n t)
theorem Vals.drop:∀ {xs:List V} {us:List Ag} (n:Nat),Vals xs us->Vals (xs.drop n) (us.drop n)
 |_,_,0,r=>r
 |_,_,_+1,.nil=>.nil
 |_,_,n+1,.cons _ t=>Vals.drop n t
def RelO:Option V->Option Ag->Prop
 |some v,some u=>RelV v u
 |none,none=>True
 |_,_=>False
def KV {κ:Type}:List (κ×V)->List (κ×Ag)->Prop:=Paired λ(p:κ×V) (q:κ×Ag)=>p.1=q.1/\RelV p.2 q.2
def kV:Key->V
 |.inl i=>.int i
 |.inr x=>.str x
inductive HO where
 |lst (xs:List V)
 |tup (xs:List V)
 |dK (kvs:List (Key×V))|dT (kvs:List (List Key×V))
 |set (S:Int->Bool) (n:Nat)
 |ins (C dx:Aj) (fs:List (Str×V))
 |own (x:Aj)
 |xd (fs:List (Str×V))
 |met (f x:Aj)
 |rng (lo hi:Int)
 |frz (o:Obj) (u:HO)
 |tbl (ps:Array Ag)
 |ext (φ:Heap->Prop)
abbrev Hp:=Aj->Option HO
def upd (H:Hp)(a:Aj)(o:HO):Hp:=λb=>if b=a then some o else H b
theorem qh {H:Hp}{a:Aj}{o:HO}:upd H a o a=some o:=by unfold upd;rw[aw rfl]
theorem wv {H:Hp}{a b:Aj}{o:HO}(h:b≠a):upd H a o b=H b:=by unfold upd;rw[ao h]
theorem qyd {H:Hp}{a:Aj}{o u:HO}:upd (upd H a o) a u=upd H a u:=by funext b;unfold upd;split <;> rfl
theorem ne_of {H:Hp}{a b:Aj}{o u:HO}(h:H a=some o)(h':H b=some u)(d:o≠u):a≠b:=by intro e;subst e;rw[h]at h';exact d (ak h')
theorem wj {H:Hp}{a b:Aj}{o:HO}(h:H a=some o)(h':H b=none):a≠b:=by intro e;subst e;rw[h]at h';cases h'
section
variable (P:Ac)(w:Ah)
def ObjOk (H:Hp)(h:Heap)(a:Aj):HO->Prop
 |.lst xs=>xs.length<=sizeLine/\∃(its:List Ag) (n:Nat),Vals xs its/\h.get? a=some { cls:=.type "list",data:=.seq its.toArray n }
 |.tup xs=>xs.length<=sizeLine/\∃its:List Ag,Vals xs its/\IsTup h a its.toArray
 |.dK kvs=>kvs.length<=sizeLine/\(a==sysModules)=false/\∃vs,KV kvs vs/\h.DictOf (vk P w) a vs
 |.dT kvs=>kvs.length<=sizeLine/\(a==sysModules)=false/\∃xs:List (List Key×Aj×Ag),
   Paired (λ(p:List Key×V) (q:List Key×Aj×Ag)=>p.1=q.1/\H q.2.1=some (.tup (p.1.map kV))/\RelV p.2 q.2.2) kvs xs /\
   ∃o es ep,h.get? a=some o/\o.ExactDict/\o.data=.dict es ep/\es.toList=xs.map (entryOfKey (tupleKind (vk P w)))/\(xs.map (·.1)).Nodup
 |.set S n=>h.SetOf (intKind P w) a S n
 |.ins C dx fs=>H dx=some (.own a)/\fs.length<=1000/\dx≠a/\h.get? a=some (W.instObj C dx) /\
   ∃mA,h.Ns1 dx mA/\(∀f,RelO (fs.lookup f) (mA f))/\PySem.Within mA (fs.map (·.1))
 |.own _=>∃o,h.get? a=some o
 |.xd fs=>∃mA,h.Ns1 a mA/\∀f,RelO (fs.lookup f) (mA f)
 |.rng lo hi=>∃t u v,h.get? a=some { cls:=.type "range",data:=.fields #[.int lo t,.int hi u,.int 1 v] }
 |.frz o u=>h.get? a=some o/\ObjOk H h a u
 |.tbl ps=>h.get? a=some { cls:=.none,data:=.fields ps }
 |.met f x=>h.get? a=some (W.methodObj (.ref f) (.ref x))
 |.ext φ=>φ h/\(∃o,h.get? a=some o)/\∀h1 h2:Heap,φ h1->(∀o,h1.get? a=some o->h2.get? a=some o)->φ h2
def HOk (H:Hp)(h:Heap):Prop:=∀a o,H a=some o->ObjOk P w H h a o
end
section
variable {P:Ac}{w:Ah}{H H':Hp}{h h':Heap}{a:Aj}{o:HO}
theorem ObjOk.lt (x:ObjOk P w H h a o):a<h.objs.size:=by
 cases o with
 |lst xs=>obtain⟨_,_,_,_,e⟩:=x;exact aj e
 |tup xs=>obtain⟨_,_,_,p⟩:=x;exact p.lt
 |dK kvs=>obtain⟨_,_,_,_,o,_,_,e,_⟩:=x;exact aj e
 |dT kvs=>obtain⟨_,_,_,_,o,_,_,e,_⟩:=x;exact aj e
 |set S n=>obtain⟨o,_,_,_,e,_⟩:=x;exact aj e
 |ins C dx fs=>obtain⟨_,_,_,e,_⟩:=x;exact aj e
 |own y=>obtain⟨_,e⟩:=x;exact aj e
 |xd fs=>obtain⟨_,⟨_,_,_,e,_⟩,_⟩:=x;exact aj e
 |rng lo hi=>obtain⟨_,_,_,e⟩:=x;exact aj e
 |frz ob u=>obtain⟨e,_⟩:=x;exact aj e
 |tbl ps=>exact aj (show h.get? a=some _ from x)
 |met f y=>exact aj (show h.get? a=some _ from x)
 |ext φ=>obtain⟨_,⟨_,e⟩,_⟩:=x;exact aj e
theorem Paired.mapP {α β:Type}{F G:α->β->Prop}:∀ {l₁:List α} {l₂:List β},Paired F l₁ l₂->(∀a b,F a b->G a b)->Paired G l₁ l₂
 |_,_,.nil,_=>.nil
 |_,_,.cons r t,f=>.cons (f _ _ r) (Paired.mapP t f)
theorem ObjOk.stay (x:ObjOk P w H h a o)(k:∀b u,(b=a\/H b=some (.own a))->h.get? b=some u->h'.get? b=some u)
  (ho:∀b,H b=some (.own a)->H' b=some (.own a)) (ht:∀b xs,H b=some (.tup xs)->H' b=some (.tup xs)):ObjOk P w H' h' a o:=by
 induction o with
 |lst xs=>obtain⟨z,J,n,r,e⟩:=x;exact⟨z,J,n,r,k _ _ (.inl rfl) e⟩
 |tup xs=>obtain⟨z,J,r,D,e,c⟩:=x;exact⟨z,J,r,D,k _ _ (.inl rfl) e,c⟩
 |dK kvs=>obtain⟨z,y,vs,r,D,es,ep,e,c⟩:=x;exact⟨z,y,vs,r,D,es,ep,k _ _ (.inl rfl) e,c⟩
 |dT kvs =>
  obtain⟨z,y,xs,r,D,es,ep,e,c⟩:=x;exact⟨z,y,xs,Paired.mapP r λp q z=>⟨z.1,ht _ _ z.2.1,z.2.2⟩,D,es,ep,k _ _ (.inl rfl) e,c⟩
 |set S n=>obtain⟨D,es,ep,t,e,c⟩:=x;exact⟨D,es,ep,t,k _ _ (.inl rfl) e,c⟩
 |ins C dx fs =>
  obtain⟨d,z,L,e,mA,⟨F,es,ep,U,c⟩,r⟩:=x;exact⟨ho _ d,z,L,k _ _ (.inl rfl) e,mA,⟨F,es,ep,k _ _ (.inr d) U,c⟩,r⟩
 |own y=>obtain⟨D,e⟩:=x;exact⟨D,k _ _ (.inl rfl) e⟩
 |xd fs=>obtain⟨mA,⟨F,es,ep,e,c⟩,r⟩:=x;exact⟨mA,⟨F,es,ep,k _ _ (.inl rfl) e,c⟩,r⟩
 |rng lo hi=>obtain⟨t,u,v,e⟩:=x;exact⟨t,u,v,k _ _ (.inl rfl) e⟩
 |frz D u ih=>obtain⟨e,q⟩:=x;exact⟨k _ _ (.inl rfl) e,ih q⟩
 |tbl ps =>
  have e:h.get? a=some { cls:=.none,data:=.fields ps }:=x;show h'.get? a=some { cls:=.none,data:=.fields ps };exact k a _ (.inl rfl) e
 |met f y =>
  have e:h.get? a=some (W.methodObj (.ref f) (.ref y)):=x;show h'.get? a=some (W.methodObj (.ref f) (.ref y));exact k a _ (.inl rfl) e
 |ext φ=>obtain⟨p,⟨o,e⟩,st⟩:=x;exact⟨st _ _ p λo q=>k _ _ (.inl rfl) q,⟨o,k _ _ (.inl rfl) e⟩,st⟩
theorem HOk.lt (x:HOk P w H h)(e:H a=some o):a<h.objs.size:=(x a o e).lt
theorem HOk.fresh (x:HOk P w H h)(e:h.objs.size<=a):H a=none:=by
 cases q:H a with
 |none=>rfl
 |some u=>exact absurd (aI (x.lt q) e) (aN _)
theorem HOk.kept (x:HOk P w H h)(k:∀b u,h.get? b=some u->h'.get? b=some u):HOk P w H h':=λa o e =>
 (x a o e).stay (λb u _ q=>k b u q) (λ_ q=>q) λ_ _ q=>q
theorem HOk.laid (x:HOk P w H h)(k:∀b u,h.get? b=some u->h'.get? b=some u)(hp:h.objs.size<=a)(new:ObjOk P w (upd H a o) h' a o):HOk P w (upd H a o) h':=λb u e=>by
 have hn:=x.fresh hp;by_cases hb:b=a
 .subst hb;rw[qh]at e;cases e;exact new
 .rw[wv hb]at e;exact(x b u e).stay (λc v _ q=>k c v q) (λc q=>by rw[wv (wj q hn)];exact q) λc xs q=>by rw[wv (wj q hn)];exact q
end
def Rd (H:Hp)(a:Aj)(u:HO):Prop:=H a=some u\/∃o,H a=some (.frz o u)
theorem Rd.ok {P:Ac}{w:Ah}{H:Hp}{h:Heap}{a:Aj}{u:HO}(r:Rd H a u)(x:HOk P w H h):ObjOk P w H h a u:=by
 rcases r with r|⟨o,r⟩
 .exact x a u r
 .obtain⟨_,q⟩:=x a _ r;exact q
def Mut:Option HO->Prop
 |some (.lst _)=>True
 |some (.dK _)=>True
 |some (.dT _)=>True
 |some (.set _ _)=>True
 |some (.ins _ _ _)=>True
 |some (.ext _)=>True
 |_=>False
section
variable {P:Ac}{w:Ah}{H:Hp}{h h':Heap}{x e:Aj}{o':HO}
theorem HOk.write (ok:HOk P w H h)(mu:Mut (H x))(he:e=x\/H e=some (.own x))(k:∀b u,b≠e->h.get? b=some u->h'.get? b=some u)(heo:∃u,h'.get? e=some u)
  (new:ObjOk P w (upd H x o') h' x o'):HOk P w (upd H x o') h':=λb u q=>by
 have nown:∀c y,H c=some (.own y)->c≠x:=λc y r z=>by subst z;rw[r]at mu;exact mu
 have ntup:∀c xs,H c=some (.tup xs)->c≠x:=λc xs r z=>by subst z;rw[r]at mu;exact mu
 by_cases hb:b=x
 .subst hb;rw[qh]at q;cases q;exact new
 .rw[wv hb]at q;by_cases hbe:b=e
  .have q':H b=some (.own x):=by
    rcases he with z|z
    .exact absurd (hbe.trans z) hb
    .rw[hbe];exact z
   rw[q]at q';cases q';obtain⟨v,hv⟩:=heo;exact⟨v,by rw[hbe];exact hv⟩
  .refine(ok b u q).stay (λc v D r=>k c v ?_ r) (λc r=>by rw[wv (nown c b r)];exact r) λc xs r=>by rw[wv (ntup c xs r)];exact r
   rcases D with rfl|D
   .exact hbe
   .rintro rfl;rcases he with z|z
    .exact nown c b D z
    .rw[D]at z;cases z;exact hb rfl
end
structure Un (fs ex:List Aj)(H H':Hp)(h h':Heap):Prop where
 keep:∀b o,h.get? b=some o->H b=none->b∉fs->b∉ex->h'.get? b=some o
 slot:∀b o,h.get? b=some o->H b=none->b∈fs->b∉ex->∃sl,h'.get? b=some { o with slots:=sl }
 free:∀b o,h.get? b=some o->H b=none->b∉ex->H' b=none
 there:∀b o,h.get? b=some o->b∉ex->∃o',h'.get? b=some o'
 tups:∀b xs,H b=some (.tup xs)->H' b=some (.tup xs)
 frzs:∀b o u,H b=some (.frz o u)->H' b=some (.frz o u)
 tbls:∀b ps,H b=some (.tbl ps)->∃more,H' b=some (.tbl (ps++more))
section
variable {fs fs' ex ex':List Aj}{H H1 H2:Hp}{h h1 h2 h':Heap}{a x e:Aj}{o:HO}
theorem Un.any (u:Un fs ex H H1 h h1){b:Aj}{ob:Obj}(q:h.get? b=some ob)(n:H b=none)(hx:b∉ex):∃sl,h1.get? b=some { ob with slots:=sl }:=by
 by_cases hb:b∈fs
 .exact u.slot b ob q n hb hx
 .exact⟨ob.slots,u.keep b ob q n hb hx⟩
theorem Un.kept (k:∀b u,h.get? b=some u->h'.get? b=some u):Un fs ex H H h h' :=
 ⟨λb ob q _ _ _=>k b ob q,λb ob q _ _ _=>⟨ob.slots,k b ob q⟩,λ_ _ _ n _=>n,λb ob q _=>⟨ob,k b ob q⟩,λ_ _ q=>q,λ_ _ _ q=>q,λ_ ps q=>⟨#[],by rw[q];simp⟩⟩
theorem Un.refl:Un fs ex H H h h:=Un.kept λ_ _ q=>q
theorem Un.laid (k:∀b u,h.get? b=some u->h'.get? b=some u)(hp:h.objs.size<=a)(hn:H a=none):Un fs ex H (upd H a o) h h' where
 keep:=λb u q _ _ _=>k b u q
 slot:=λb u q _ _ _=>⟨u.slots,k b u q⟩
 free:=λb u q n _=>by rw[wv (ay (aI (aj q) hp))];exact n
 there:=λb u q _=>⟨u,k b u q⟩
 tups:=λb xs q=>by rw[wv (wj q hn)];exact q
 frzs:=λb u xs q=>by rw[wv (wj q hn)];exact q
 tbls:=λb ps q=>⟨#[],by rw[wv (wj q hn),q];simp⟩
theorem Un.write (mu:Mut (H x))(he:e=x\/H e=some (.own x))(k:∀b u,b≠e->h.get? b=some u->h'.get? b=some u)(heo:∃u,h'.get? e=some u):Un fs ex H (upd H x o) h h':=by
 have F:∀b,H b=none->b≠x:=λb n z=>by subst z;rw[n]at mu;exact mu
 have J:∀b,H b=none->b≠e:=λb n z=>by
  subst z;rcases he with r|r
  .exact F b n r
  .rw[n]at r;cases r
 have D:∀b u,H b=some u->¬ Mut (some u)->b≠x:=λb u q nm z=>by subst z;rw[q]at mu;exact nm mu
 refine⟨λb u q n _ _=>k b u (J b n) q,λb u q n _ _=>⟨u.slots,k b u (J b n) q⟩,λb u q n _=>by rw[wv (F b n)];exact n,λb u q _=>?_,
  λb xs q=>by rw[wv (D b _ q λz=>z)];exact q,λb u xs q=>by rw[wv (D b _ q λz=>z)];exact q,λb ps q=>⟨#[],by rw[wv (D b _ q λz=>z),q];simp⟩⟩
 by_cases hbe:b=e
 .subst hbe;exact heo
 .exact⟨u,k b u hbe q⟩
end
def trk (h:Heap)(H:Hp):List Aj:=(List.range h.objs.size).filter λa=>(H a).isSome
def qz8 (h:Heap)(H:Hp):Heap:=W.hideAll h (trk h H)
theorem wy5 (h:Heap)(H:Hp):(qz8 h H).objs.size=h.objs.size:=W.hideAll_size _ _
theorem xzd {h:Heap}{H:Hp}{b:Aj}{o:Obj}(e:h.get? b=some o)(n:H b=none):(qz8 h H).get? b=some o :=
 W.hideAll_get _ e λhm=>by have q:(H b).isSome=true:=(br.mp hm).2;rw[n]at q;simp at q
theorem xyd {h:Heap}{H:Hp}{b:Aj}{o:Obj}(e:(qz8 h H).get? b=some o):h.get? b=some o/\H b=none:=by
 have D:h.get? b=some o:=gA (trk h H) e;refine⟨D,?_⟩;cases q:H b with
 |none=>rfl
 |some x =>
  have F:b∈trk h H:=br.mpr ⟨am.mpr (aj D),by simp[q]⟩;have z:(qz8 h H).get? b=none:=W.hideAll_none (trk h H) F;rw[z]at e;cases e
def xkw (g h:Heap)(L:Aj):List (Aj×Obj):=(List.range h.objs.size).filterMap λa=>if a=L\/(g.get? a).isSome=true then none else(h.get? a).map λo=>(a,o)
def rest (g h:Heap)(L d:Aj):List (Aj×Obj):=(xkw g h L).filter λp=>decide (p.1≠d)
structure Mod (K:Aa)(mg:Str->Option Ag)(base:Heap):Prop where
 kin:K.In base
 glob:base.Ns mainGlobals mg
 blt:∃mb,base.Ns builtinsNs mb/\∀x:Str,x ≠ "__name__" -> mb x=bootBuiltins x
 nolimit:base.NoLimit
structure Cx where
 prog:Ac
 w:Ah
 K:Aa
 mg:Str->Option Ag
 base:Heap
 A:Ae
 N:List Str
 s₀:Ab
 H₀:Hp
 env:Env
 outer:List Env
 stack:List Env
 ex:List Aj
 fn:Str->Bool
 calm:Bool
 pn:List (Aj×Obj)
 xe:Ag->Ab->Prop
def frs (l:List Env):List Aj:=l.filterMap (·.frame)
abbrev Cx.fs (X:Cx):List Aj:=frs X.outer
def Vis (sc:Scope)(x:Str):Prop:=sc.names.lookup x=some .local\/sc.names.lookup x=some .cell\/sc.names.lookup x=some .free
def Loc (sc:Scope)(x:Str):Prop:=sc.names.lookup x=some .local\/sc.names.lookup x=some .cell
def Look (env:Env)(h:Heap)(m:Str->Option Ag)(x:Str)(u:Ag):Prop :=
 (env.kindOf x=some .local/\m x=some u)\/((env.kindOf x=some .cell\/env.kindOf x=some .free)/\∃c,env.cells.lookup x=some c/\h.IsCell c (some u))
structure Cx.Ok (X:Cx):Prop where
 mod:Mod X.K X.mg X.base
 kind:X.env.scope.kind=.function
 glob:X.env.globals=mainGlobals
 blt:X.env.builtins=builtinsNs
 above:X.s₀.heap.objs.size<=X.env.locals
 inj:∀x y c,X.env.cells.lookup x=some c->X.env.cells.lookup y=some c->x=y
 has:∀x,(X.env.kindOf x=some .cell\/X.env.kindOf x=some .free)->∃c,X.env.cells.lookup x=some c
 cab:∀x c,X.fn x=true->X.env.cells.lookup x=some c->X.s₀.heap.objs.size<=c
 hd:X.calm=true->X.A.handled=none
 frames:X.A.frames=some X.stack
 stk:X.stack=X.outer\/(X.stack=X.env::X.outer/\X.env.frame=some X.env.locals)
 exf:∀b∈X.ex,b≠X.env.locals/\∀x c,X.env.cells.lookup x=some c->c≠b
 bs:∀b o,X.base.get? b=some o->X.s₀.heap.get? b=some o/\X.H₀ b=none
 bsz:X.base.objs.size<=X.s₀.heap.objs.size
 noex:∀b o,X.base.get? b=some o->b∉X.ex
 exfs:∀b∈X.ex,b∉X.fs
 funs:X.s₀.heap.FunFrames X.base X.outer
 frf:∀b∈X.fs,X.H₀ b=none
structure Inv (X:Cx)(pins:List (Aj×Obj))(σ:List (Option V))(H:Hp)(s:Ab):Prop where
 ok:X.Ok
 os:s.os=X.s₀.os
 bare:AllBare s.gens
 base:Un X.fs X.ex X.H₀ H X.s₀.heap s.heap
 loc:∃m,s.heap.Ns X.env.locals m/\∀(i:Nat) (x:Str) (v:V),X.N[i]?=some x->σ[i]?=some (some v)->Vis X.env.scope x->∃u,RelV v u/\Look X.env s.heap m x u
 cell:∀x c,X.env.cells.lookup x=some c->∃v,s.heap.IsCell c v
 free:H X.env.locals=none
 freeC:∀x c,X.env.cells.lookup x=some c->H c=none
 pin:∀p∈X.pn++pins,s.heap.get? p.1=some p.2/\H p.1=none/\p.1≠X.env.locals/\p.1∉X.fs/\∀v,p.2.data≠.cell v
 hok:HOk X.prog X.w H s.heap
 len:σ.length=X.N.length
section
variable {X:Cx}{pins:List (Aj×Obj)}{σ:List (Option V)}{H H':Hp}{s:Ab}{h':Heap}
theorem Cx.Ok.nofr (ok:X.Ok){b:Aj}{o:Obj}(e:X.base.get? b=some o):b∉X.fs:=λhb=>by have:=(ok.funs.mem hb).1;rw[e]at this;cases this
theorem Inv.bs (I:Inv X pins σ H s):∀b o,X.base.get? b=some o->s.heap.get? b=some o/\H b=none:=λb o e =>
 ⟨I.base.keep b o (I.ok.bs b o e).1 (I.ok.bs b o e).2 (I.ok.nofr e) (I.ok.noex b o e),I.base.free b o (I.ok.bs b o e).1 (I.ok.bs b o e).2 (I.ok.noex b o e)⟩
theorem Inv.bk (I:Inv X pins σ H s):∀b o,X.base.get? b=some o->s.heap.get? b=some o:=λb o e=>(I.bs b o e).1
theorem Inv.mod (I:Inv X pins σ H s):Mod X.K X.mg X.base:=I.ok.mod
theorem Inv.kIn (I:Inv X pins σ H s):X.K.In s.heap:=I.ok.mod.kin.keeps I.bk
theorem Inv.lt (I:Inv X pins σ H s):X.env.locals<s.heap.objs.size:=let ⟨_,hn,_⟩:=I.loc;hn.lt
theorem Inv.sz (I:Inv X pins σ H s):X.s₀.heap.objs.size<=s.heap.objs.size:=bo I.ok.above (ba I.lt)
theorem Inv.nofs (I:Inv X pins σ H s){a:Aj}(h:s.heap.objs.size<=a):a∉X.fs:=λhb=>by obtain⟨_,o,ho,_⟩:=I.ok.funs.mem hb;exact absurd (aI (aj ho) (bo I.sz h)) (aN _)
theorem Inv.cne (I:Inv X pins σ H s):∀x c,X.env.cells.lookup x=some c->c≠X.env.locals:=λx c e z=>by obtain⟨v,o,ho,hd⟩:=I.cell x c e;obtain⟨m,⟨o',es,ep,ho',hd',_⟩,_⟩:=I.loc;rw[z,ho']at ho;cases ho;rw[hd']at hd;cases hd
theorem Inv.funs (I:Inv X pins σ H s):s.heap.FunFrames X.base X.outer:=by
 have ab:∀(l:List Env),(∀b∈frs l,b∈X.fs)->X.s₀.heap.FunFrames X.base l->s.heap.FunFrames X.base l:=by
  intro l
  induction l with
  |nil=>intro _ _;trivial
  |cons env r ih =>
   intro hs hl;obtain⟨hk,⟨L,o,D,Z,W,hd⟩,U⟩:=hl;have J:L∈X.fs:=hs L (by unfold frs;rw[dB,D];exact dj);obtain⟨sl,e⟩:=I.base.slot L o W (I.ok.frf L J) J λz=>I.ok.exfs L z J;exact⟨hk,⟨L,_,D,Z,e,hd⟩,ih (λb F=>hs b (by unfold frs;rw[dB,D];exact bu _ F)) U⟩
 exact ab X.outer (λ_ F=>F) I.ok.funs
theorem Inv.stack (I:Inv X pins σ H s):s.heap.FunFrames X.base X.stack:=by
 rcases I.ok.stk with e|⟨e,hf⟩
 .rw[e];exact I.funs
 .rw[e];obtain⟨m,z,_⟩:=I.loc;refine .cons (by rw[I.ok.kind];decide) hf z ?_ I.funs;exact Heap.get?_none_of_le (bo I.ok.bsz I.ok.above)
theorem Inv.stkSub (I:Inv X pins σ H s):∀b∈frs X.stack,b∈X.env.locals::X.fs:=λb hb=>by
 rcases I.ok.stk with e|⟨e,hf⟩
 .rw[e]at hb;exact bu _ hb
 .rw[e]at hb;unfold frs at hb;rw[dB,hf]at hb;exact hb
theorem Inv.stkFree (I:Inv X pins σ H s):∀b∈frs X.stack,H b=none:=λb hb=>by
 rcases aC.mp (I.stkSub b hb) with e|hb
 .rw[e];exact I.free
 .obtain⟨_,o,ho,_⟩:=I.ok.funs.mem hb;exact I.base.free b o ho (I.ok.frf b hb) λz=>I.ok.exfs b z hb
theorem Inv.step {g':Array GenState}{t':Nat}{d':Drawn}{ch:List Aj}(I:Inv X pins σ H s)
  (hch:∀b∈ch,(b∈X.ex\/X.s₀.heap.objs.size<=b)/\b≠X.env.locals/\(∀x c,X.env.cells.lookup x=some c->c≠b)/\∀p∈X.pn++pins,p.1≠b)
  (keep:∀b o,b≠X.env.locals->b∉X.fs->b∉ch->s.heap.get? b=some o->H b=none->h'.get? b=some o)
  (slot:∀b o,b≠X.env.locals->b∈X.fs->b∉ch->s.heap.get? b=some o->H b=none->∃sl,h'.get? b=some { o with slots:=sl }) (free:∀b o,b∉ch->s.heap.get? b=some o->H b=none->H' b=none)
  (there:∀b o,b∉ch->s.heap.get? b=some o->∃o',h'.get? b=some o')
  (tups:∀b xs,H b=some (.tup xs)->H' b=some (.tup xs)) (frzs:∀b o u,H b=some (.frz o u)->H' b=some (.frz o u)) (tbls:∀b ps,H b=some (.tbl ps)->∃more,H' b=some (.tbl (ps++more)))
  (ns:∀m,s.heap.Ns X.env.locals m->h'.Ns X.env.locals m) (hok:HOk X.prog X.w H' h') (hg:AllBare g') :
  Inv X pins σ H' { s with heap:=h',gens:=g',drawn:=d',toks:=t' }:=by
 have ab:∀b o,X.s₀.heap.get? b=some o->b≠X.env.locals:=λb o e=>ay (aI (aj e) I.ok.above);have Z:∀b o,X.s₀.heap.get? b=some o->b∉X.ex->b∉ch:=λb o e D J=>by
  rcases(hch b J).1 with z|z
  .exact D z
  .exact absurd (aI (aj e) z) (aN _)
 have ad:∀x c,X.env.cells.lookup x=some c->∀v,s.heap.IsCell c v->h'.IsCell c v:=λx c e v ⟨o,L,hd⟩=>by
  have U:c∉ch:=λz=>(hch c z).2.2.1 x c e rfl;by_cases hc:c∈X.fs
  .obtain⟨sl,q⟩:=slot c o (I.cne x c e) hc U L (I.freeC x c e);exact⟨_,q,hd⟩
  .exact⟨o,keep c o (I.cne x c e) hc U L (I.freeC x c e),hd⟩
 refine⟨I.ok,I.os,hg,⟨λb o e n J D=>?_,λb o e n J D=>?_,λb o e n D=>?_,λb o e D=>?_,λb xs e=>tups b xs (I.base.tups b xs e),λb o xs e=>frzs b o xs (I.base.frzs b o xs e),λb ps e=>?_⟩,?_,λx c e=>?_,?_,λx c e=>?_,λp hp=>?_,hok,I.len⟩
 .exact keep b o (ab b o e) J (Z b o e D) (I.base.keep b o e n J D) (I.base.free b o e n D)
 .obtain⟨sl,F⟩:=I.base.slot b o e n J D;obtain⟨an,W⟩:=slot b _ (ab b o e) J (Z b o e D) F (I.base.free b o e n D);exact⟨an,W⟩
 .obtain⟨o',F⟩:=I.base.there b o e D;exact free b o' (Z b o e D) F (I.base.free b o e n D)
 .obtain⟨o',F⟩:=I.base.there b o e D;exact there b o' (Z b o e D) F
 .obtain⟨m1,F⟩:=I.base.tbls b ps e;obtain⟨m2,W⟩:=tbls b _ F;exact⟨m1++m2,by rw[W,Array.append_assoc]⟩
 .obtain⟨m,hn,hl⟩:=I.loc;refine⟨m,ns m hn,λi x v F W e3=>?_⟩;obtain⟨u,r,l⟩:=hl i x v F W e3;refine⟨u,r,?_⟩;rcases l with l|⟨k,c,e,z⟩
  .exact .inl l
  .exact .inr ⟨k,c,e,ad x c e _ z⟩
 .obtain⟨v,z⟩:=I.cell x c e;exact⟨v,ad x c e v z⟩
 .obtain⟨m,⟨o,_,_,L,_⟩,_⟩:=I.loc;exact free _ o (λz=>(hch _ z).2.1 rfl) L I.free
 .obtain⟨v,o,L,hd⟩:=I.cell x c e;exact free c o (λz=>(hch c z).2.2.1 x c e rfl) L (I.freeC x c e)
 .obtain⟨e,n,ne,nf,d⟩:=I.pin p hp;have U:p.1∉ch:=λz=>(hch p.1 z).2.2.2 p hp rfl;exact⟨keep p.1 p.2 ne nf U e n,free p.1 p.2 U e n,ne,nf,d⟩
theorem Inv.un {t':Nat}(I:Inv X pins σ H s)(u:Un X.fs [] H H' s.heap h')(hok:HOk X.prog X.w H' h'):Inv X pins σ H' { s with heap:=h',toks:=t' }:=by
 obtain⟨m,⟨o,es,ep,J,r⟩,_⟩:=id I.loc;obtain⟨sl,W⟩:=u.any J I.free (by simp);exact I.step (g':=s.gens) (d':=s.drawn) (ch:=[]) (λ_ z=>nomatch z) (λb o _ D _ e n=>u.keep b o e n D (by simp)) (λb o _ D _ e n=>u.slot b o e n D (by simp)) (λb o _ e n=>u.free b o e n (by simp)) (λb o _ e=>u.there b o e (by simp)) u.tups u.frzs u.tbls (λm' U=>by
  obtain⟨o',Z,ab,F,L⟩:=U
  rw[J]at F;cases F
  exact⟨_,Z,ab,W,L⟩) hok I.bare
theorem Inv.call {g':Array GenState}{t':Nat}{d':Drawn}{ch:List Aj}(I:Inv X pins σ H s)(u:Un (frs X.stack) ch H H' s.heap h')(hok:HOk X.prog X.w H' h')(hg:AllBare g')
  (hch:∀b∈ch,(b∈X.ex\/X.s₀.heap.objs.size<=b)/\b≠X.env.locals/\(∀x c,X.env.cells.lookup x=some c->c≠b)/\∀p∈X.pn++pins,p.1≠b) :
  Inv X pins σ H' { s with heap:=h',gens:=g',drawn:=d',toks:=t' }:=by
 obtain⟨m,⟨o,es,ep,L,r⟩,_⟩:=id I.loc;obtain⟨sl,F⟩:=u.any L I.free λz=>(hch _ z).2.1 rfl;exact I.step (ch:=ch) hch (λb o F Z D e n=>u.keep b o e n (λz=>(aC.mp (I.stkSub b z)).elim F Z) D) (λb o _ _ D e n=>u.any e n D) (λb o D e n=>u.free b o e n D) (λb o D e=>u.there b o e D) u.tups u.frzs u.tbls (λm' W=>by
  obtain⟨o',ab,ad,J,U⟩:=W
  rw[L]at J;cases J
  exact⟨_,ab,ad,F,U⟩) hok hg
theorem Inv.turned {t':Nat}{it:Aj}(I:Inv X pins σ H s)(k:∀b o,b≠it->s.heap.get? b=some o->h'.get? b=some o)(hn:H it=none)(hL:it≠X.env.locals)
  (h1:it∈X.ex\/X.s₀.heap.objs.size<=it) (h2:∀x c,X.env.cells.lookup x=some c->c≠it) (h3:∀p∈X.pn++pins,p.1≠it):Inv X pins σ H { s with heap:=h',toks:=t' }:=by
 have F:∀b u,H b=some u->b≠it:=λb u e z=>by rw[z,hn]at e;cases e
 refine I.step (g':=s.gens) (d':=s.drawn) (ch:=[it]) (λb U=>?_) (λb o _ _ D e _=>k b o (λz=>D (by simp[z])) e) (λb o _ _ D e _=>⟨o.slots,k b o (λz=>D (by simp[z])) e⟩) (λ_ _ _ _ n=>n)
  (λb o D e=>⟨o,k b o (λz=>D (by simp[z])) e⟩) (λ_ _ e=>e) (λ_ _ _ e=>e) (λb ps e=>⟨#[],by rw[e];simp⟩) (λm L=>?_) (λb u e=>?_) I.bare
 .have e:b=it:=by simpa using U
  subst e;exact⟨h1,hL,h2,h3⟩
 .obtain⟨o,es,ep,J,r⟩:=L;exact⟨o,es,ep,k _ o (cV hL) J,r⟩
 .refine(I.hok b u e).stay (λc v D q=>k c v ?_ q) (λ_ q=>q) λ_ _ q=>q;rcases D with z|z
  .rw[z];exact F b u e
  .exact F c _ z
theorem Inv.tok (I:Inv X pins σ H s)(t:Nat):Inv X pins σ H { s with toks:=t }:=I.un (h':=s.heap) (t':=t) Un.refl I.hok
theorem Inv.kept {t':Nat}(I:Inv X pins σ H s)(k:∀b u,s.heap.get? b=some u->h'.get? b=some u):Inv X pins σ H { s with heap:=h',toks:=t' }:=I.un (Un.kept k) (I.hok.kept k)
theorem Inv.laid {a:Aj}{o:HO}{t':Nat}(I:Inv X pins σ H s)(k:∀b u,s.heap.get? b=some u->h'.get? b=some u)(hp:s.heap.objs.size<=a)(new:ObjOk X.prog X.w (upd H a o) h' a o) :
  Inv X pins σ (upd H a o) { s with heap:=h',toks:=t' }:=I.un (Un.laid k hp (I.hok.fresh hp)) (I.hok.laid k hp new)
theorem Inv.write {x e:Aj}{o:HO}{t':Nat}(I:Inv X pins σ H s)(mu:Mut (H x))(he:e=x\/H e=some (.own x))(k:∀b u,b≠e->s.heap.get? b=some u->h'.get? b=some u)(heo:∃u,h'.get? e=some u)
  (new:ObjOk X.prog X.w (upd H x o) h' x o):Inv X pins σ (upd H x o) { s with heap:=h',toks:=t' }:=I.un (Un.write mu he k heo) (I.hok.write mu he k heo new)
theorem Inv.weak {σ':List (Option V)}(I:Inv X pins σ H s)(hl:σ'.length=σ.length)(w:∀(i:Nat) v,σ'[i]?=some (some v)->σ[i]?=some (some v)):Inv X pins σ' H s :=
 ⟨I.ok,I.os,I.bare,I.base,let ⟨m,hn,hl'⟩:=I.loc;⟨m,hn,λi x v e1 e2 e3=>hl' i x v e1 (w i v e2) e3⟩,I.cell,I.free,I.freeC,I.pin,I.hok,hl.trans I.len⟩
theorem Inv.pins_of {pins':List (Aj×Obj)}(I:Inv X pins σ H s)(h:∀p∈pins',s.heap.get? p.1=some p.2/\H p.1=none/\p.1≠X.env.locals/\p.1∉X.fs/\∀v,p.2.data≠.cell v):Inv X pins' σ H s :=
 ⟨I.ok,I.os,I.bare,I.base,I.loc,I.cell,I.free,I.freeC,λp hp=>(aY.mp hp).elim (λz=>I.pin p (bD _ z)) (h p),I.hok,I.len⟩
theorem wxy {N:List Str}(hN:N.Nodup){i j:Nat}{x:Str}(a:N[i]?=some x)(b:N[j]?=some x):i=j:=by obtain⟨h1,e1⟩:=al.mp a;obtain⟨h2,e2⟩:=al.mp b;exact(List.getElem_inj hN).mp (e1.trans e2.symm)
theorem _root_.aU0 (h:True:=by walk_at "iv"):True:=h
theorem xqu {M:Model}{A:Ae}{E:Ag->Ab->Prop}{i:Nat}{x:Str}{v:V}{u:Ag}{Q:Unit->Ab->Prop}(I:Inv X pins σ H s)(hN:X.N.Nodup)(hi:X.N[i]?=some x)(hx:Loc X.env.scope x)(r:RelV v u)
  (h:∀s',Inv X pins (σ.set i (some v)) H s'->(∃a,Heap.SameBut a s.heap s'.heap/\(a=X.env.locals\/X.env.cells.lookup x=some a))->Q () s') (hf:autoParam (X.fn x=true\/X.env.scope.names.lookup x=some .local) aU0._auto_1):wpAny M A (storeName X.env x u) Q E s:=by
 obtain⟨m,hn,hl⟩:=id I.loc;have a5:(X.env.scope.kind==.class||(X.env.scope.kind==.module&&X.env.locals != X.env.globals))=false:=by rw[I.ok.kind];rfl
 have as:i<σ.length:=by rw[I.len];exact(al.mp hi).1
 have ad:=I.cne;have an:∀ {a:Aj} {h':Heap},(∃o,s.heap.get? a=some o/\H a=none)->Heap.SameBut a s.heap h'->HOk X.prog X.w H h':=λ{a h'} ha hs b ob e=>by
  obtain⟨_,_,a0⟩:=ha;refine(I.hok b ob e).stay (λc U F q=>(hs.2 c ?_).trans q) (λ_ q=>q) λ_ _ q=>q;rintro rfl;rcases F with rfl|F
  .rw[a0]at e;cases e
  .rw[a0]at F;cases F
 rcases hx with hk|hk
 .refine wpAny_storeName_local hk hn (λh' a4 hs=>?_) a5;obtain⟨oL,_,_,a3,_⟩:=id hn;refine h _ ⟨I.ok,I.os,I.bare,⟨λb o e n L hx=>?_,λb o e n L hx=>?_,I.base.free,λb o e hx=>?_,I.base.tups,I.base.frzs,I.base.tbls⟩,⟨_,a4,λj y Z D J e3=>?_⟩,λy c e=>?_,I.free,I.freeC,λp hp=>?_,an ⟨oL,a3,I.free⟩ hs,by simpa using I.len⟩ ⟨_,hs,.inl rfl⟩
  .exact(hs.2 b (ay (aI (aj e) I.ok.above))).trans (I.base.keep b o e n L hx)
  .obtain⟨sl,D⟩:=I.base.slot b o e n L hx;exact⟨sl,(hs.2 b (ay (aI (aj e) I.ok.above))).trans D⟩
  .obtain⟨o',D⟩:=I.base.there b o e hx;exact⟨o',(hs.2 b (ay (aI (aj e) I.ok.above))).trans D⟩
  .by_cases hj:j=i
   .subst hj;rw[hi]at D;cases D;rw[List.getElem?_set_self as]at J;cases J;exact⟨u,r,.inl ⟨hk,by simp⟩⟩
   .rw[List.getElem?_set_ne (cV hj)]at J;obtain⟨u',r',q⟩:=hl j y Z D J e3;refine⟨u',r',?_⟩;rcases q with⟨k,e⟩|⟨k,c,e,z⟩
    .refine .inl ⟨k,?_⟩;have:y≠x:=λe=>hj (wxy hN D (e▸hi));simp[this,e]
    .exact .inr ⟨k,c,e,z.sameBut hs (ad y c e)⟩
  .obtain⟨U,z⟩:=I.cell y c e;exact⟨U,z.sameBut hs (ad y c e)⟩
  .obtain⟨e,n,W,nf,d⟩:=I.pin p hp;exact⟨(hs.2 p.1 W).trans e,n,W,nf,d⟩
 .have ab:X.fn x=true:=by
   rcases hf with z|z
   .exact z
   .rw[z]at hk;cases hk
  obtain⟨c,F⟩:=I.ok.has x (.inl hk);obtain⟨U,z⟩:=I.cell x c F;refine wpAny_storeName_cell I.ok.kind hk F z (λh' a1 hs=>?_);obtain⟨oc,ap,a2⟩:=id z;refine h { s with heap:=h' } ⟨I.ok,I.os,I.bare,⟨λb o e n L hx=>?_,λb o e n L hx=>?_,I.base.free,λb o e hx=>?_,I.base.tups,I.base.frzs,I.base.tbls⟩,⟨m,hn.sameBut hs (cV (ad x c F)),λj y Z D J e3=>?_⟩,λy c' e=>?_,I.free,I.freeC,λp hp=>?_,an ⟨oc,ap,I.freeC x c F⟩ hs,by simpa using I.len⟩ ⟨c,hs,.inr F⟩
  .exact(hs.2 b (ay (aI (aj e) (I.ok.cab x c ab F)))).trans (I.base.keep b o e n L hx)
  .obtain⟨sl,D⟩:=I.base.slot b o e n L hx;exact⟨sl,(hs.2 b (ay (aI (aj e) (I.ok.cab x c ab F)))).trans D⟩
  .obtain⟨o',D⟩:=I.base.there b o e hx;exact⟨o',(hs.2 b (ay (aI (aj e) (I.ok.cab x c ab F)))).trans D⟩
  .by_cases hj:j=i
   .subst hj;rw[hi]at D;cases D;rw[List.getElem?_set_self as]at J;cases J;exact⟨u,r,.inr ⟨.inl hk,c,F,a1⟩⟩
   .rw[List.getElem?_set_ne (cV hj)]at J;obtain⟨u',r',q⟩:=hl j y Z D J e3;refine⟨u',r',?_⟩;rcases q with q|⟨k,c',e,z'⟩
    .exact .inl q
    .refine .inr ⟨k,c',e,z'.sameBut hs ?_⟩;rintro rfl;exact hj (wxy hN D (I.ok.inj _ _ _ e F▸hi))
  .by_cases hcc:c'=c
   .subst hcc;exact⟨_,a1⟩
   .obtain⟨w2,z2⟩:=I.cell y c' e;exact⟨w2,z2.sameBut hs hcc⟩
  .obtain⟨e,n,W,nf,d⟩:=I.pin p hp;refine⟨(hs.2 p.1 ?_).trans e,n,W,nf,d⟩;intro q;rw[q,ap]at e;have q':oc=p.2:=ak e;exact d U (by rw[<-q'];exact a2)
theorem jz {M:Model}{A:Ae}{E:Ag->Ab->Prop}{i:Nat}{x:Str}{v:V}{u:Ag}{Q:Unit->Ab->Prop}(I:Inv X pins σ H s)(hN:X.N.Nodup)(hi:X.N[i]?=some x)(hx:Loc X.env.scope x)(r:RelV v u)
  (h:∀s',Inv X pins (σ.set i (some v)) H s'->Q () s') (hf:autoParam (X.fn x=true\/X.env.scope.names.lookup x=some .local) aU0._auto_1):wpAny M A (storeName X.env x u) Q E s :=
 xqu I hN hi hx r (λs' I' _=>h s' I') hf
theorem Inv.call' {s':Ab}{ch:List Aj}(I:Inv X pins σ H s)(ho:s'.os=s.os)(u:Un (frs X.stack) ch H H' s.heap s'.heap)(hok:HOk X.prog X.w H' s'.heap)(hg:AllBare s'.gens)
  (hch:∀b∈ch,(b∈X.ex\/X.s₀.heap.objs.size<=b)/\b≠X.env.locals/\(∀x c,X.env.cells.lookup x=some c->c≠b)/\∀p∈X.pn++pins,p.1≠b):Inv X pins σ H' s':=by
 obtain⟨h',g',d',t',o'⟩:=s';have e:o'=s.os:=ho;subst e;exact I.call (g':=g') (t':=t') (d':=d') u hok hg hch
end
abbrev XK:=Ag->Option Aj->Hp->Prop
abbrev St:=List (Option V)
abbrev VK:=V->Hp->Prop
abbrev TE:=St->Hp->VK->Prop
abbrev TT:=St->Hp->(Bool->Hp->Prop)->Prop
abbrev TA:=St->Hp->(List V->Hp->Prop)->Prop
structure Ends where
 nx:St->Hp->Prop
 rt:VK
 bk:St->Hp->Prop:=λ_ _=>False
 ct:St->Hp->Prop:=λ_ _=>False
abbrev TS:=Ends->St->Hp->Prop
def EP (X:Cx)(pins:List (Aj×Obj))(σ:St)(Q:VK)(u:Ag)(s':Ab):Prop:=∃v H',Inv X pins σ H' s'/\RelV v u/\Q v H'
def TP (X:Cx)(pins:List (Aj×Obj))(σ:St)(Q:Bool->Hp->Prop)(b:Bool)(s':Ab):Prop:=∃H',Inv X pins σ H' s'/\Q b H'
def AP (X:Cx)(pins:List (Aj×Obj))(σ:St)(Q:List V->Hp->Prop)(us:List Ag)(s':Ab):Prop:=∃vs H',Inv X pins σ H' s'/\Vals vs us/\Q vs H'
def SP (X:Cx)(pins:List (Aj×Obj))(D:Ends)(f:Flow)(s':Ab):Prop :=
 match f with
 |.next=>∃σ' H',Inv X pins σ' H' s'/\D.nx σ' H'
 |.brk=>∃σ' H',Inv X pins σ' H' s'/\D.bk σ' H'
 |.cont=>∃σ' H',Inv X pins σ' H' s'/\D.ct σ' H'
 |.ret u=>∃v σ' H',Inv X pins σ' H' s'/\RelV v u/\D.rt v H'
def PE (X:Cx)(e:Expr)(t:TE):Prop :=
 ∀(pins:List (Aj×Obj)) (s:Ab) (σ:St) (H:Hp) (Q:VK),Inv X pins σ H s->t σ H Q->wpAny (model X.prog X.w) X.A (eval e X.env) (EP X pins σ Q) X.xe s
def PT (X:Cx)(e:Expr)(t:TT):Prop :=
 ∀(pins:List (Aj×Obj)) (s:Ab) (σ:St) (H:Hp) (Q:Bool->Hp->Prop),Inv X pins σ H s->t σ H Q->wpAny (model X.prog X.w) X.A (isTrue e X.env (eval e X.env)) (TP X pins σ Q) X.xe s
def PW (X:Cx)(e:Expr)(t:TT):Prop :=
 ∀(whole:Sem Ag) (pins:List (Aj×Obj)) (s:Ab) (σ:St) (H:Hp) (Q:Bool->Hp->Prop),Inv X pins σ H s->t σ H Q->wpAny (model X.prog X.w) X.A (isTrue e X.env whole) (TP X pins σ Q) X.xe s
theorem PW.pt {X:Cx}{e:Expr}{t:TT}(h:PW X e t):PT X e t:=h _
def PA (X:Cx)(es:List Expr)(t:TA):Prop :=
 ∀(pos:Pos) (pins:List (Aj×Obj)) (s:Ab) (σ:St) (H:Hp) (Q:List V->Hp->Prop),Inv X pins σ H s->t σ H Q->wpAny (model X.prog X.w) X.A (spliced (backTo pos (starEach es X.env))) (AP X pins σ Q) X.xe s
def PS (X:Cx)(st:Stmt)(t:TS):Prop :=
 ∀(pins:List (Aj×Obj)) (s:Ab) (σ:St) (H:Hp) (D:Ends),Inv X pins σ H s->t D σ H->wpAny (model X.prog X.w) X.A (exec st X.env) (SP X pins D) X.xe s
def PSs (X:Cx)(st:List Stmt)(t:TS):Prop :=
 ∀(pins:List (Aj×Obj)) (s:Ab) (σ:St) (H:Hp) (D:Ends),Inv X pins σ H s->t D σ H->wpAny (model X.prog X.w) X.A (execs st X.env) (SP X pins D) X.xe s
theorem thn {α:Type}{t:Sem α}{Q Q':α->Ab->Prop}{M:Model}{A:Ae}{E:Ag->Ab->Prop}{s:Ab}(h:wpAny M A t Q E s)(hQ:∀a s,Q a s->Q' a s):wpAny M A t Q' E s:=aP h hQ λ_ _ x=>x
section
variable {X:Cx}
def yu (i:Nat):TE:=λσ H Q=>∃v,σ[i]?=some (some v)/\Q v H
def tC (v:V):TE:=λ_ H Q=>Q v H
theorem _root_.aU1 (h:True:=by decide):True:=h
theorem pe_var {i:Nat}{x:Str}{pos:Pos}(hN:X.N[i]?=some x)(hv:Vis X.env.scope x)(hd:autoParam ((x==("__debug__" : Str))=false) aU1._auto_1)(hcd:autoParam ((x==("__classdict__" : Str))=false) aU1._auto_1):PE X (.Name x pos) (yu i):=by
 intro pins s σ H Q I h;obtain⟨v,e,h⟩:=h;obtain⟨m,L,W⟩:=I.loc;obtain⟨u,r,l⟩:=W i x v hN e hv;have D:EP X pins σ Q u s:=⟨v,H,I,r,h⟩;rcases l with⟨z,U⟩|⟨z,c,J,F⟩
 .exact wpAny_Name (wpAny_loadName_local I.ok.kind z L U D) hd
 .rcases z with z|z
  .exact wpAny_Name (wpAny_loadName_cell I.ok.kind z J F D) hd
  .exact wpAny_Name (wpAny_loadName_free I.ok.kind z J F D hcd) hd
theorem qy {i j pos}:PE X (.Constant (.int i) j pos) (tC (.int i)):=λ_ _ _ H _ I h=>wpAny_Constant_int ⟨.int i,H,I.tok _,⟨_,rfl⟩,h⟩
theorem wqz {b j pos}:PE X (.Constant (.bool b) j pos) (tC (.bl b)):=λ_ _ _ H _ I h=>Constant_bool ⟨.bl b,H,I,rfl,h⟩
theorem Jz {j pos}:PE X (.Constant .none j pos) (tC .non):=λ_ _ _ H _ I h=>Constant_none ⟨.non,H,I,rfl,h⟩
theorem vg {x j pos}:PE X (.Constant (.str x) j pos) (tC (.str x)):=λ_ _ _ H _ I h=>Calls.Constant_str ⟨.str x,H,I.tok _,⟨_,rfl⟩,h⟩
def Gl (X:Cx)(x:Str):Prop:=X.env.kindOf x=some .globalImplicit
theorem y6 {E:Ag->Ab->Prop}{pins:List (Aj×Obj)}{s:Ab}{σ:St}{H:Hp}{x:Str}{u:Ag}{pos:Pos}{Q:Ag->Ab->Prop}(I:Inv X pins σ H s)(hg:Gl X x)(hm:X.mg x=some u)(h:Q u s)
  (hd:autoParam ((x==("__debug__" : Str))=false) aU1._auto_1):wpAny (model X.prog X.w) X.A (eval (.Name x pos) X.env) Q E s :=
 Calls.Name_function_global I.ok.kind hg (Calls.loadGlobal_global (by rw[I.ok.glob];exact I.mod.glob.keeps I.bk) hm h) hd
theorem _root_.aU2 (h:True:= by decide):True:=h
theorem jb {E:Ag->Ab->Prop}{pins:List (Aj×Obj)}{s:Ab}{σ:St}{H:Hp}{x:Str}{u:Ag}{pos:Pos}{Q:Ag->Ab->Prop}(I:Inv X pins σ H s)(hg:Gl X x)(hm:X.mg x=none)(hv:bootBuiltins x=some u)(h:Q u s)
  (hn:autoParam (x ≠ "__name__") aU2._auto_1) (hd:autoParam ((x==("__debug__" : Str))=false) aU1._auto_1):wpAny (model X.prog X.w) X.A (eval (.Name x pos) X.env) Q E s:=by
 obtain⟨mb,h1,h2⟩:=I.mod.blt;exact Calls.Name_function_global I.ok.kind hg (Calls.loadGlobal_builtin (by rw[I.ok.glob];exact I.mod.glob.keeps I.bk) hm (by rw[I.ok.blt];exact h1.keeps I.bk) ((h2 x hn).trans hv) h) hd
theorem zf {x:Str}{v:V}{u:Ag}{pos:Pos}(hg:Gl X x)(hm:X.mg x=some u)(r:RelV v u)(hd:autoParam ((x==("__debug__" : Str))=false) aU1._auto_1):PE X (.Name x pos) (tC v) :=
 λ_ _ _ H _ I h=>y6 I hg hm ⟨v,H,I,r,h⟩ hd
variable {a b:Expr}{ta tb:TE}{pos:Pos}
def PC (X:Cx)(op:CmpOp)(a b:Expr)(t:TE):Prop :=
 ∀(pins:List (Aj×Obj)) (s:Ab) (σ:St) (H:Hp) (Q:VK),Inv X pins σ H s->t σ H Q ->
  wpAny (model X.prog X.w) X.A (eval a X.env) (λv s₁=>wpAny (model X.prog X.w) X.A (eval b X.env) (λu s₂=>wpAny (model X.prog X.w) X.A (compareOp op v u) (EP X pins σ Q) X.xe s₂) X.xe s₁) X.xe s
def tB (t:TE):TT:=λσ H Q=>t σ H λx H1=>∃c,x=.bl c/\Q c H1
theorem pt_cmp {op:CmpOp}{t:TE}(h:PC X op a b t)(h1:behindInMarks op b=false:=by first | exact nobehind _ ⋯ ⋯ | rfl):PT X (.Compare a [op] [b] pos) (tB t):=by intro pins s σ H Q I z;refine wpAny_isTrue_Compare1 (thn (h pins s σ H _ I z) λv D h1=>thn h1 λu s2 h2=>thn h2 λc s3 ⟨x,H1,I1,r1,q1⟩=>?_) h1;obtain⟨d,rfl,q⟩:=q1;cases r1;exact dt ⟨H1,I1,q⟩
theorem _root_.aU3 (h:True:=by intro _;rfl):True:=h
theorem wx6 {e:Expr}{t:TE}(h:PE X e t)(he:autoParam (∀whole,isTrue e X.env whole=(do let v <-whole;standAt e.pos;holding [v] (truthy v))) aU3._auto_1):PT X e (tB t):=by intro pins s σ H Q I z;refine isTrue_plain (thn (h pins s σ H _ I z) λv s1 ⟨x,H1,I1,r1,q1⟩=>?_) (he _);obtain⟨d,rfl,q⟩:=q1;cases r1;exact dt ⟨H1,I1,q⟩
variable {tA tB':TT}{rest:List Expr}
def tAnd (t u:TT):TT:=λσ H Q=>t σ H λc H1=>if c=true then u σ H1 Q else Q false H1
def tOr (t u:TT):TT:=λσ H Q=>t σ H λc H1=>if c=true then Q true H1 else u σ H1 Q
def tNot (t:TT):TT:=λσ H Q=>t σ H λc H1=>Q (!c) H1
theorem wjq (ha:PT X a tA):PW X (.BoolOp .And [a] pos) tA:=by
 intro z pins s σ H Q I h;refine isTrue_and (thn (ha pins s σ H Q I h) λc D e=>?_);cases c with
 |true=>exact isTrue_and_nil e
 |false=>exact e
theorem qxu (ha:PT X a tA):PW X (.BoolOp .Or [a] pos) tA:=by
 intro z pins s σ H Q I h;refine isTrue_or (thn (ha pins s σ H Q I h) λc D e=>?_);cases c with
 |false=>exact isTrue_or_nil e
 |true=>exact e
theorem xw8 (ha:PT X a tA)(hb:PW X (.BoolOp .And (b::rest) pos) tB'):PW X (.BoolOp .And (a::b::rest) pos) (tAnd tA tB'):=by
 intro z pins s σ H Q I h;refine isTrue_and (thn (ha pins s σ H _ I h) λc s1 ⟨H1,I1,q1⟩=>?_);cases c with
 |true=>exact hb z pins s1 σ H1 Q I1 q1
 |false=>exact⟨H1,I1,q1⟩
theorem wwg (ha:PT X a tA)(hb:PW X (.BoolOp .Or (b::rest) pos) tB'):PW X (.BoolOp .Or (a::b::rest) pos) (tOr tA tB'):=by
 intro z pins s σ H Q I h;refine isTrue_or (thn (ha pins s σ H _ I h) λc s1 ⟨H1,I1,q1⟩=>?_);cases c with
 |true=>exact⟨H1,I1,q1⟩
 |false=>exact hb z pins s1 σ H1 Q I1 q1
theorem wx7 (ha:PT X a tA):PT X (.UnaryOp .Not a pos) (tNot tA):=by intro pins s σ H Q I h;exact isTrue_not (ha pins s σ H (λc H1=>Q (!c) H1) I h)
def tAndV (ta tb:TE):TE:=λσ H Q=>ta σ H λx H1=>∃c,x=.bl c/\if c=true then tb σ H1 Q else Q (.bl false) H1
theorem xzu {op}{t:TE}(h:PE X a t):PE X (.BoolOp op [a] pos) t:=λpins s σ H Q I hw=>BoolOp_one (h pins s σ H Q I hw)
theorem xzc (ha:PE X a ta)(hb:PE X (.BoolOp .And (b::rest) pos) tb):PE X (.BoolOp .And (a::b::rest) pos) (tAndV ta tb):=by
 intro pins s σ H Q I h;refine BoolOp_and (thn (ha pins s σ H _ I h) λv s1 ⟨x,H1,I1,r1,z⟩=>?_);obtain⟨c,rfl,z⟩:=z;cases r1;refine dt ?_;cases c with
 |true=>exact hb pins s1 σ H1 Q I1 z
 |false=>exact⟨.bl false,H1,I1,rfl,z⟩
def tIf (t:TT)(ta tb:TE):TE:=λσ H Q=>t σ H λc H1=>if c=true then ta σ H1 Q else tb σ H1 Q
theorem y0 {c:Expr}(hc:PT X c tA)(ha:PE X a ta)(hb:PE X b tb):PE X (.IfExp c a b pos) (tIf tA ta tb):=by
 intro pins s σ H Q I h;refine wpAny_IfExp (thn (hc pins s σ H _ I h) λd s1 ⟨H1,I1,q1⟩=>?_);cases d with
 |true=>exact ha pins s1 σ H1 Q I1 q1
 |false=>exact hb pins s1 σ H1 Q I1 q1
end
def SqL (K:Aa)(H:Hp)(a:Aj)(xs:List V):Prop :=
 Rd H a (.lst xs) \/
  ∃(o:Obj) (its:Array Ag) (n:Nat),K.lookup a=some o/\o.cls=.type "list" /\ o.dict=none/\o.data=.seq its n/\its.size<=sizeLine/\Vals xs its.toList
def SqT (K:Aa)(H:Hp)(a:Aj)(xs:List V):Prop :=
 Rd H a (.tup xs) \/
  ∃(o:Obj) (its:Array Ag) (n:Nat),K.lookup a=some o/\o.cls=.type "tuple" /\ o.data=.seq its n/\its.size<=sizeLine/\Vals xs its.toList
def absV:Ag->Option V
 |.none=>some .non
 |.bool b=>some (.bl b)
 |.int i _=>some (.int i)
 |.str x _=>some (.str x)
 |.bytes b _=>some (.byt b)
 |.float b _=>some (.flt b)
 |.ref a=>some (.ref a)
 |.type n=>some (.ty n)
 |_=>none
theorem RelV.abs {x:V}{u:Ag}(r:RelV x u):absV u=some x:=by
 cases x with
 |non=>cases r;rfl
 |bl _=>cases r;rfl
 |int _=>obtain⟨t,rfl⟩:=r;rfl
 |str _=>obtain⟨t,rfl⟩:=r;rfl
 |byt _=>obtain⟨t,rfl⟩:=r;rfl
 |flt _=>obtain⟨t,rfl⟩:=r;rfl
 |ref _=>cases r;rfl
 |ty _=>cases r;rfl
theorem RelV.inj {x y:V}{u:Ag}(r:RelV x u)(q:RelV y u):x=y:=ak (r.abs.symm.trans q.abs)
theorem Vals.inj:∀ {xs ys:List V} {us:List Ag},Vals xs us->Vals ys us->xs=ys
 |_,_,_,.nil,.nil=>rfl
 |_,_,_,.cons r t,.cons r' t'=>by rw[r.inj r',Vals.inj t t']
section
variable {X:Cx}{pins:List (Aj×Obj)}{σ:St}{H:Hp}{s:Ab}{a:Aj}{xs ys:List V}
theorem SqL.of {K:Aa}(h:H a=some (.lst xs)):SqL K H a xs:=.inl (.inl h)
theorem SqT.of {K:Aa}(h:H a=some (.tup xs)):SqT K H a xs:=.inl (.inl h)
theorem Inv.list (I:Inv X pins σ H s)(h:SqL X.K H a xs):∃its:List Ag,Vals xs its/\PlainL s.heap a its.toArray/\xs.length<=sizeLine:=by
 rcases h with h|⟨o,its,n,hk,hc,hd,hs,hz,r⟩
 .obtain⟨z,its,n,r,e⟩:=h.ok I.hok;exact⟨its,r,⟨_,n,e,rfl,rfl,rfl⟩,z⟩
 .refine⟨its.toList,r,⟨o,n,I.kIn a o hk,hc,hd,by simpa using hs⟩,?_⟩;have e:=r.length;simp only[bc]at e;lia
theorem Inv.tuple (I:Inv X pins σ H s)(h:SqT X.K H a xs):∃its:List Ag,Vals xs its/\IsTup s.heap a its.toArray/\xs.length<=sizeLine:=by
 rcases h with h|⟨o,its,n,hk,hc,hs,hz,r⟩
 .obtain⟨z,its,r,p⟩:=h.ok I.hok;exact⟨its,r,p,z⟩
 .refine⟨its.toList,r,⟨o,I.kIn a o hk,hc,n,by simpa using hs⟩,?_⟩;have e:=r.length;simp only[bc]at e;lia
theorem Inv.list_inj (I:Inv X pins σ H s)(h:SqL X.K H a xs)(h':SqL X.K H a ys):xs=ys:=by
 obtain⟨L,r,⟨o,n,e,_,_,d⟩,_⟩:=I.list h;obtain⟨J,F,⟨o',U,z,_,_,D⟩,_⟩:=I.list h';rw[e]at z;cases z;rw[d]at D;injection D with d1 _;have:L=J:=by simpa using bT Array.toList d1
 subst this;exact r.inj F
theorem Inv.tuple_inj (I:Inv X pins σ H s)(h:SqT X.K H a xs)(h':SqT X.K H a ys):xs=ys:=by
 obtain⟨L,r,⟨o,e,_,n,d⟩,_⟩:=I.tuple h;obtain⟨J,F,⟨o',z,_,U,D⟩,_⟩:=I.tuple h';rw[e]at z;cases z;rw[d]at D;injection D with d1 _;have:L=J:=by simpa using bT Array.toList d1
 subst this;exact r.inj F
end
abbrev Cx.wish (X:Cx)(E:Ag->Ab->Prop):Cx:={ X with xe:=E }
section
variable {X:Cx}{pins:List (Aj×Obj)}{σ:St}{H:Hp}{s:Ab}{E:Ag->Ab->Prop}
end
section
variable {X:Cx}{st:Stmt}{rest:List Stmt}{t u:TS}{e:Expr}{te:TE}{pos:Pos}
def wk7:TS:=λD σ H=>D.nx σ H
def tSeq (t u:TS):TS:=λD σ H=>t { D with nx:=u D } σ H
theorem xw:PSs X [] wk7:=λ_ _ σ H _ I h=>eW ⟨σ,H,I,h⟩
theorem qj (h1:PS X st t)(h2:PSs X rest u):PSs X (st::rest) (tSeq t u):=by
 intro pins s σ H D I h;refine iz (thn (h1 pins s σ H { D with nx:=u D } I h) λf F q=>?_);cases f with
 |next =>
  obtain⟨z,H',J,q⟩:=q;exact h2 pins F z H' D J q
 |ret v=>exact q
 |brk=>exact q
 |cont=>exact q
theorem qp (h1:PS X st t):PSs X [st] t:=by
 intro pins s σ H D I h;refine iz (thn (h1 pins s σ H D I h) λf s1 q=>?_);cases f with
 |next=>exact eW q
 |ret v=>exact q
 |brk=>exact q
 |cont=>exact q
theorem Inv.quiet {pins:List (Aj×Obj)}{σ:St}{H:Hp}{s:Ab}(I:Inv X pins σ H s):interactive X.env=false:=by simp[interactive,I.ok.kind]
def tDrop (te:TE):TS:=λD σ H=>te σ H λ_ H1=>D.nx σ H1
theorem _root_.aU4 (h:True:=by rfl):True:=h
theorem xz (he:PE X e te)(hs:autoParam (swapsWith e none pos.line X.env=pure false) aU4._auto_1):PS X (.Expr e pos) (tDrop te):=by intro pins s σ H D I h;exact wpAny_Expr_any (thn (he pins s σ H _ I h) λv s1 ⟨x,H1,I1,r1,q1⟩=>⟨σ,H1,I1,q1⟩) I.quiet hs
def tRet (te:TE):TS:=λD σ H=>te σ H D.rt
theorem wn (he:PE X e te):PS X (.Return (some e) pos) (tRet te):=by intro pins s σ H D I h;exact wpAny_Return_some (thn (he pins s σ H _ I h) λv s1 ⟨x,H1,I1,r1,q1⟩=>⟨x,σ,H1,I1,r1,q1⟩)
def tIfS (c:TT)(t u:TS):TS:=λD σ H=>c σ H λb H1=>if b=true then t D σ H1 else u D σ H1
theorem xn {c:Expr}{a b:List Stmt}{tc:TT}(hc:PT X c tc)(ha:PSs X a t)(hb:PSs X b u):PS X (.If c a b pos) (tIfS tc t u):=by
 intro pins s σ H D I h;refine wpAny_If (thn (hc pins s σ H _ I h) λd s1 ⟨H1,I1,q1⟩=>?_);cases d with
 |true=>exact ha pins s1 σ H1 D I1 q1
 |false=>exact hb pins s1 σ H1 D I1 q1
end
abbrev TG:=V->St->Hp->(St->Hp->Prop)->Prop
abbrev TGs:=List V->St->Hp->(St->Hp->Prop)->Prop
def PG (X:Cx)(target:Expr)(t:TG):Prop :=
 ∀(pins:List (Aj×Obj)) (s:Ab) (σ:St) (H:Hp) (v:V) (u:Ag) (Q:St->Hp->Prop),Inv X pins σ H s->RelV v u->t v σ H Q ->
  wpAny (model X.prog X.w) X.A (assign target X.env u) (λ_ s'=>∃σ' H',Inv X pins σ' H' s'/\Q σ' H') X.xe s
def PGs (X:Cx)(ts:List Expr)(t:TGs):Prop :=
 ∀(pins:List (Aj×Obj)) (s:Ab) (σ:St) (H:Hp) (vs:List V) (us:List Ag) (Q:St->Hp->Prop),Inv X pins σ H s->Vals vs us->t vs σ H Q ->
  wpAny (model X.prog X.w) X.A (assignInOrder ((assignEach ts X.env).map (·.2)) us) (λ_ s'=>∃σ' H',Inv X pins σ' H' s'/\Q σ' H') X.xe s
abbrev TIp:=V->V->Hp->VK->Prop
def PIp (X:Cx)(op:Operator)(t:TIp):Prop :=
 ∀(pins:List (Aj×Obj)) (s:Ab) (σ:St) (H:Hp) (x y:V) (v u:Ag) (Q:VK),Inv X pins σ H s->RelV x v->RelV y u->t x y H Q ->
  wpAny (model X.prog X.w) X.A (inplaceOp op v u) (EP X pins σ Q) X.xe s
section
variable {X:Cx}{pos:Pos}
def jp (i:Nat):TG:=λv σ H Q=>Q (σ.set i (some v)) H
theorem _root_.aU5 (h:True:=by walk_at "loc"):True:=h
theorem _root_.aU6 (h:True:=by exact FnScope.nd (by assumption)):True:=h
theorem wm {i:Nat}{x:Str}(hN:autoParam (X.N.Nodup) aU6._auto_1)(hi:autoParam (X.N[i]?=some x) aU4._auto_1)(hx:autoParam (Loc X.env.scope x) aU5._auto_1)(hf:autoParam (X.fn x=true\/X.env.scope.names.lookup x=some .local) aU0._auto_1):PG X (.Name x pos) (jp i):=by intro pins s σ H v u Q I r h;exact ee (jz I hN hi hx r (λs' z=>⟨_,H,z,h⟩) hf)
def gNil:TGs:=λvs σ H Q=>vs=[]/\Q σ H
def qxn (t:TG)(u:TGs):TGs:=λvs σ H Q=>∃v r,vs=v::r/\t v σ H λσ' H'=>u r σ' H' Q
theorem x9:PGs X [] gNil:=by intro pins s σ H vs us Q I r h;obtain⟨e,h⟩:=h;subst e;cases r;exact assignInOrder_nil ⟨σ,H,I,h⟩
theorem wt {e:Expr}{es:List Expr}{t:TG}{u:TGs}(h1:PG X e t)(h2:PGs X es u)
  (hs:autoParam ((assignEach (e::es) X.env).map (·.2)=assign e X.env::(assignEach es X.env).map (·.2)) aU4._auto_1):PGs X (e::es) (qxn t u):=by
 intro pins s σ H vs F Q I r h;obtain⟨v,D,z,h⟩:=h;subst z;cases r with
 |cons r rr =>
  rw[hs];refine gC (thn (h1 pins s σ H _ _ _ I r h) λ_ s1 ⟨σ1,H1,I1,q1⟩=>?_);exact h2 pins s1 σ1 H1 _ _ Q I1 rr q1
def gTup (K:Aa)(n:Nat)(t:TGs):TG:=λv σ H Q=>∃a xs,v=.ref a/\SqT K H a xs/\xs.length=n/\t xs σ H Q
theorem vy {es:List Expr}{k:Nat}{t:TGs}{n:Nat}(hc:X.calm=true)(h:PGs X es t)
  (hn:autoParam ((assignEach es X.env).length=n) aU4._auto_1) (hst:autoParam ((assignEach es X.env).findIdx? (·.1)=none) aU4._auto_1):PG X (.Tuple es k pos) (gTup X.K n t):=by
 intro pins s σ H v u Q I r z;obtain⟨a,xs,W,L,U,z⟩:=z;subst W;cases r;obtain⟨ab,D,J,hz⟩:=I.tuple L;refine assign_Tuple_tuple (I.ok.hd hc) J (by simp[hn,<-U,D.length]) hst λh' F=>?_;have Z:Inv X pins σ H { s with heap:=h' }:=I.kept (t':=s.toks) λb o e=>F b o (ay (aj e)) e;exact h pins _ σ H xs _ Q Z (by simpa using D) z
def wx8 (te:TE)(g:TG):TS:=λD σ H=>te σ H λx H1=>g x σ H1 D.nx
theorem vn {tg e:Expr}{te:TE}{g:TG}(he:PE X e te)(hg:PG X tg g)(hs:autoParam (swapsWithSole [tg] e pos.line X.env=pure false) aU4._auto_1)(hw:autoParam (swappedStores [tg] e X.env=pure none) aU4._auto_1)
  (h1:autoParam ((assignEach [tg] X.env).map (·.2)=[assign tg X.env]) aU4._auto_1):PS X (.Assign [tg] e pos) (wx8 te g):=by
 intro pins s σ H D I h;refine wpAny_Assign_stores (thn (he pins s σ H _ I h) λv s1 ⟨x,H1,I1,r1,q1⟩=>?_) hs hw;rw[h1];exact thn (hg pins s1 σ H1 x v _ I1 r1 q1) λ_ s2 q=>q
theorem wp {i:Nat}{x:Str}{e:Expr}{te:TE}{pos':Pos}(he:PE X e te)(hN:autoParam (X.N.Nodup) aU6._auto_1)(hi:autoParam (X.N[i]?=some x) aU4._auto_1)(hx:autoParam (Loc X.env.scope x) aU5._auto_1)(hs:autoParam (swapsWith e (some (.Name x pos')) pos.line X.env=pure false) aU4._auto_1)(hf:autoParam (X.fn x=true\/X.env.scope.names.lookup x=some .local) aU0._auto_1) :
  PS X (.Assign [.Name x pos'] e pos) (wx8 te (jp i)):=by
 intro pins s σ H D I h;refine wpAny_Assign_Name (thn (he pins s σ H _ I h) λv s1 ⟨y,H1,I1,r1,q1⟩=>?_) hs;exact jz I1 hN hi hx r1 (λs2 z=>⟨_,H1,z,q1⟩) hf
def tPar (i j:Nat)(ta:TA):TS:=λD σ H=>ta σ H λvs H1=>∃v w,vs=[v,w]/\D.nx ((σ.set i (some v)).set j (some w)) H1
theorem ps_par {i j:Nat}{x y:Str}{a b:Expr}{ta:TA}{px py pt:Pos}{kt k2 pt2}(hc:X.calm=true)(hN:X.N.Nodup)(hi:X.N[i]?=some x)(hj:X.N[j]?=some y)(hij:i≠j)
  (hx:X.env.scope.names.lookup x=some .local) (hy:X.env.scope.names.lookup y=some .local) (ha:PA X [a,b] ta)
  (hw:swappedStores [.Tuple [.Name x px,.Name y py] kt pt] (.Tuple [a,b] k2 pt2) X.env=pure (some [x,y]))
  (hs:autoParam (swapsWithSole [.Tuple [.Name x px,.Name y py] kt pt] (.Tuple [a,b] k2 pt2) pos.line X.env=pure false) aU4._auto_1) :
  PS X (.Assign [.Tuple [.Name x px,.Name y py] kt pt] (.Tuple [a,b] k2 pt2) pos) (tPar i j ta):=by
 intro pins s σ H D I h;rw[exec_Assign_arm];refine ac (cw ?_);rw[hs];refine ac (ah ?_);rw[ao ⋯];refine ac (Tuple_ (thn (ha _ pins s σ H _ I h) λus s1 ⟨vs,H1,I1,r1,J⟩=>?_));obtain⟨v,w,e1,J⟩:=J;subst e1;obtain⟨F,z,rfl,W,U⟩:∃F z,us=[F,z]/\RelV v F/\RelV w z:=by
  cases r1 with
  |cons p q =>
   cases q with
   |cons p' q' =>
    cases q';exact⟨_,_,rfl,p,p'⟩
 refine bK ?_ (by show 2<=sizeLine;decide);have I2:Inv X pins σ H1 { s1 with heap:=s1.heap.push { cls:=.type "tuple",data:=.seq [F,z].toArray } }:=I1.kept (t':=s1.toks) λb o e=>ag _ e;rw[hw];refine ac (ah ?_);show wpAny (model X.prog X.w) X.A (do rule "assign.swapped-stores";let items <-unpackItems (.ref s1.heap.objs.size) 2 none;assignInOrder [λv=>bindName X.env y v,λv=>bindName X.env x v] items.reverse;pure Flow.next) _ _ _;refine ac (eC (ac (unpackItems_tuple (items:=#[F,z]) (I.ok.hd hc) (IsTup.new s1.heap _) λh' Z=>?_)));have I3:=I2.kept (h':=h') (t':=s1.toks) λb o e=>Z b o (ay (aj e)) e;show wpAny _ _ (assignInOrder [λv=>bindName X.env y v,λv=>bindName X.env x v] [z,F] >>= λ_=>pure Flow.next) _ _ _;refine ac (gC (wpAny_bindName (jz I3 hN hj (.inl hy) U (λs2 I4=>?_) (.inr hy))));refine gC (wpAny_bindName (jz I4 hN hi (.inl hx) W (λs3 L=>assignInOrder_nil (ah ?_)) (.inr hx)));rw[List.set_comm _ _ (cV hij)]at L;exact⟨_,H1,L,J⟩
def tAug (i:Nat)(te:TE)(ti:TIp):TS:=λD σ H=>∃x,σ[i]?=some (some x)/\te σ H λy H1=>ti x y H1 λz H2=>D.nx (σ.set i (some z)) H2
theorem xxp {i:Nat}{x:Str}{e:Expr}{te:TE}{op:Operator}{ti:TIp}{pos':Pos}(hN:X.N.Nodup)(hi:X.N[i]?=some x)(hx:Loc X.env.scope x)(he:PE X e te)(ho:PIp X op ti)(hf:autoParam (X.fn x=true\/X.env.scope.names.lookup x=some .local) aU0._auto_1) :
  PS X (.AugAssign (.Name x pos') op e pos) (tAug i te ti):=by
 intro pins s σ H D I h;obtain⟨v,e1,h⟩:=h;obtain⟨m,Z,hl⟩:=I.loc;have L:Vis X.env.scope x:=by rcases hx with k|k;exact .inl k;exact .inr (.inl k)
 obtain⟨u,r,l⟩:=hl i x v hi e1 L;refine wpAny_AugAssign_Name ?_;have J:wpAny (model X.prog X.w) X.A (eval e X.env) (λw W=>wpAny (model X.prog X.w) X.A (inplaceOp op u w) (λr U=>wpAny (model X.prog X.w) X.A (storeName X.env x r) (λ_=>SP X pins D .next) X.xe U) X.xe W) X.xe s:=by refine thn (he pins s σ H _ I h) λw s1 ⟨y,H1,I1,r1,q1⟩=>?_;refine thn (ho pins s1 σ H1 v y u w _ I1 r r1 q1) λz s2 ⟨zv,H2,I2,r2,q2⟩=>?_;exact jz I2 hN hi hx r2 (λs3 I3=>⟨_,H2,I3,q2⟩) hf
 rcases l with⟨F,hm⟩|⟨F,c,hc,ab⟩
 .exact wpAny_loadName_local I.ok.kind F Z hm J
 .rcases F with F|F
  .exact wpAny_loadName_cell I.ok.kind F hc ab J
  .rcases hx with k|k
   .have:X.env.scope.names.lookup x=some .free:=F;rw[k]at this;cases this
   .have:X.env.scope.names.lookup x=some .free:=F;rw[k]at this;cases this
def ipI (f:Int->Int->Int):TIp:=λx y H Q=>∃i j,x=.int i/\y=.int j/\Q (.int (f i j)) H
theorem ip_add:PIp X .Add (ipI λi j=>i+j):=by intro pins s σ H x y v u Q I D z h;obtain⟨i,j,J,F,q⟩:=h;subst J;subst F;obtain⟨t,rfl⟩:=D;obtain⟨L,rfl⟩:=z;exact iadd_int ⟨.int _,H,I.tok _,⟨_,rfl⟩,q⟩
theorem ip_sub:PIp X .Sub (ipI λi j=>i-j):=by intro pins s σ H x y v u Q I D z h;obtain⟨i,j,J,F,q⟩:=h;subst J;subst F;obtain⟨t,rfl⟩:=D;obtain⟨L,rfl⟩:=z;exact isub_int ⟨.int _,H,I.tok _,⟨_,rfl⟩,q⟩
end
section
variable {X:Cx}{pos:Pos}
def wvz (c:TT)(tb:TS):TS:=λD σ H=>∃W:Nat->St->Hp->Prop,(∃m,W m σ H)/\∀m σ H,W m σ H ->
 c σ H λb H1=>if b=true then ∃N:St->Hp->Prop,(∀σ' H',N σ' H'->∃m',m'<m/\W m' σ' H')/\tb { D with nx:=N,ct:=N,bk:=D.nx } σ H1 else D.nx σ H1
theorem uf {c:Expr}{body:List Stmt}{tc:TT}{tb:TS}(hp:PassesOwn (model X.prog X.w) X.A X.env X.xe)(hc:PT X c tc)(hb:PSs X body tb):PS X (.While c body [] pos) (wvz tc tb):=by
 intro pins s σ H D I h;obtain⟨W,⟨m0,w0⟩,ab⟩:=h;refine wpAny_While (codeAny_whileLoop (λn s'=>∃σ' H',Inv X pins σ' H' s'/\W n σ' H') ?_ m0 ⟨σ,H,I,w0⟩);rintro n s1 ⟨σ1,H1,I1,w1⟩;refine dr hp (thn (hc pins s1 σ1 H1 _ I1 (ab n σ1 H1 w1)) λb s2 ⟨H2,I2,L⟩=>?_);cases b with
 |true =>
  obtain⟨N,hN,L⟩:=L;rw[aw rfl];refine dr hp (thn (hb pins s2 σ1 H2 _ I2 L) λf s3 J=>?_);cases f with
  |next =>
   obtain⟨z,F,I3,Z⟩:=J;obtain⟨m',hm,U⟩:=hN z F Z;exact⟨m',hm,z,F,I3,U⟩
  |cont =>
   obtain⟨z,F,I3,Z⟩:=J;obtain⟨m',hm,U⟩:=hN z F Z;exact⟨m',hm,z,F,I3,U⟩
  |brk=>exact J
  |ret v=>exact J
 |false =>
  rw[ao aJ];exact eW ⟨σ1,H2,I2,L⟩
end
structure It where
 go:Nat->Hp->Prop
 yld:Nat->Hp->V->Hp->Prop
 stop:Nat->Hp->Prop
def vh (X:Cx)(pins:List (Aj×Obj))(H:Hp)(b:Aj):Prop :=
 H b=none/\b≠X.env.locals/\b∉X.fs/\(b∈X.ex\/X.s₀.heap.objs.size<=b)/\(∀x c,X.env.cells.lookup x=some c->c≠b)/\∀p∈X.pn++pins,p.1≠b
theorem Inv.fpOk {X:Cx}{pins:List (Aj×Obj)}{σ:St}{H H':Hp}{s:Ab}{b:Aj}(I:Inv X pins σ H s)(hb:s.heap.objs.size<=b)(hn:H' b=none):vh X pins H' b:=by
 refine⟨hn,dJ (aI I.lt hb),I.nofs hb,.inr (bo I.sz hb),λx c e z=>?_,λp D z=>?_⟩
 .obtain⟨v,q⟩:=I.cell x c e;exact absurd (aI q.lt (by rw[z];exact hb)) (aN _)
 .exact absurd (aI (aj (I.pin p D).1) (by rw[z];exact hb)) (aN _)
structure Turn (P:Ac)(w:Ah)(K:Aa)(tg:Expr)(J:It)(fp:List Aj)(it:Aj)(tn:Nat->Heap->Prop):Prop where
 mem:it∈fp
 obj:∀i h,tn i h->∀b∈fp,∃o,h.get? b=some o/\∀v,o.data≠.cell v
 keep:∀i h h',tn i h->(∀b∈fp,∀o,h.get? b=some o->h'.get? b=some o)->tn i h'
 item:∀(X:Cx),X.prog=P->X.w=w->X.K=K->X.calm=true->∀(i:Nat) (pins:List (Aj×Obj)) (s:Ab) (σ:St) (H:Hp) (E:Ag->Ab->Prop),Inv X pins σ H s->(∀b∈fp,vh X pins H b)->tn i s.heap->J.go i H ->
  wpAny (model P w) X.A (pyNext (.ref it)) (λr s1=>∃u,r=some u /\
   wpAny (model P w) X.A (letOwnedTupleGo tg (.ref it) u) (λ_ s2=>∃x H',Inv X pins σ H' s2/\RelV x u/\J.yld i H x H'/\tn (i+1) s2.heap/\∀b∈fp,H' b=none) E s1) E s
 done:∀(X:Cx),X.prog=P->X.w=w->X.K=K->X.calm=true->∀(i:Nat) (pins:List (Aj×Obj)) (s:Ab) (σ:St) (H:Hp) (E:Ag->Ab->Prop),Inv X pins σ H s->(∀b∈fp,vh X pins H b)->tn i s.heap->J.stop i H ->
  wpAny (model P w) X.A (pyNext (.ref it)) (λr s1=>r=none/\Inv X pins σ H s1) E s
 self:∀(A:Ae) (i:Nat) (s:Ab) (Q:Ag->Ab->Prop) (E:Ag->Ab->Prop),tn i s.heap->Q (.ref it) s->wpAny (model P w) A (pyIter (.ref it)) Q E s
abbrev TI:=St->Hp->(It->Hp->Prop)->Prop
def PIE (X:Cx)(pins:List (Aj×Obj))(σ:St)(tg:Expr)(R:It->Hp->Prop)(itv:Ag)(s2:Ab):Prop :=
 ∃(it:Aj) (fp:List Aj) (tn:Nat->Heap->Prop) (J:It) (H':Hp),itv=.ref it/\Inv X pins σ H' s2/\Turn X.prog X.w X.K tg J fp it tn/\tn 0 s2.heap/\(∀b∈fp,vh X pins H' b)/\R J H'
def PI (X:Cx)(tg iter:Expr)(wi:TI):Prop :=
 ∀(pins:List (Aj×Obj)) (s:Ab) (σ:St) (H:Hp) (R:It->Hp->Prop),Inv X pins σ H s->wi σ H R ->
  wpAny (model X.prog X.w) X.A (eval iter X.env) (λv s1=>wpAny (model X.prog X.w) X.A (pyIter v) (PIE X pins σ tg R) X.xe s1) X.xe s
theorem wk5 {M:Model}{A:Ae}{E:Ag->Ab->Prop}{s:Ab}{tg:Expr}{it:Aj}{u:Ag}{o:Obj}{n:String}{vs:Array Ag}{Q:Unit->Ab->Prop}(ho:s.heap.get? it=some o)(hc:o.cls=.type n)(hd:o.data=.fields vs)
  (hn:["enumerate","zip","dict_itemiterator","dict_reverseitemiterator","odict_iterator","itertools.zip_longest","itertools.pairwise"].contains n=false) (hQ:Q () s):wpAny M A (letOwnedTupleGo tg (.ref it) u) Q E s:=by
 unfold letOwnedTupleGo;cases tg <;> first
  |exact ah hQ
  |(cases u <;> first
    |exact ah hQ
    |(refine ac (wpAny_load ho ?_)
      rw[hc,hd]
      show wpAny M A (if(["enumerate","zip","dict_itemiterator","dict_reverseitemiterator","odict_iterator","itertools.zip_longest","itertools.pairwise"].contains n&&vs[0]?==some (rawInt _))=true then _ else _) Q E s
      rw[ao (by intro h;rw[hn,iZ]at h;cases h)]
      exact ah hQ))
def Itl (K:Aa)(a:Aj):It :=
 ⟨λi H=>∃xs x,SqL K H a xs/\xs[i]?=some x,λi H x H'=>H'=H/\∀xs,SqL K H a xs->xs[i]?=some x,λi H=>∃xs,SqL K H a xs/\xs.length<=i⟩
def Itt (K:Aa)(a:Aj):It :=
 ⟨λi H=>∃xs x,SqT K H a xs/\xs[i]?=some x,λi H x H'=>H'=H/\∀xs,SqT K H a xs->xs[i]?=some x,λi H=>∃xs,SqT K H a xs/\xs.length<=i⟩
def Itr (lo:Int)(n:Nat):It:=⟨λi _=>i<n,λi H x H'=>H'=H/\x=.int (lo+i),λi _=>n<=i⟩
theorem wyd {P:Ac}{w:Ah}{K:Aa}{tg:Expr}(a it:Aj):Turn P w K tg (Itl K a) [it] it (λi h=>h.IsListIter it a i) where
 mem:=by simp
 obj:=λi h st b hb=>by
  have e:b=it:=by simpa using hb
  subst e;obtain⟨o,e,c,d⟩:=st;exact⟨o,e,λv z=>by rw[d]at z;cases z⟩
 keep:=λi h h' st k=>st.at λo e=>k it (by simp) o e
 item:=by intro X hP hw hK hc i pins s σ H E I hf st hg;subst hP hw hK;obtain⟨xs,x,hq,hx⟩:=hg;obtain⟨its,rv,p,hz⟩:=I.list hq;obtain⟨u,hu,ru⟩:=rv.get hx;obtain⟨f0,f1,f2,f3,f4,f5⟩:=hf it (by simp);refine wpAny_pyNext_list_item st p.isList (x:=u) (by simpa using hu) λh' st' sb=>?_;have I1:Inv X pins σ H { s with heap:=h' }:=I.turned (t':=s.toks) (λb o hb e=>(sb.2 b hb).trans e) f0 f1 f3 f4 f5;obtain⟨o,e,c,d⟩:=id st';exact⟨u,rfl,wk5 (s:={ s with heap:=h' }) e c d ⋯ ⟨x,H,I1,ru,⟨rfl,λys hy=>by rw[I.list_inj hy hq];exact hx⟩,st',λb hb=>(hf b hb).1⟩⟩
 done:=by intro X hP hw hK hc i pins s σ H E I hf st hg;subst hP hw hK;obtain⟨xs,hq,hx⟩:=hg;obtain⟨its,rv,p,hz⟩:=I.list hq;obtain⟨f0,f1,f2,f3,f4,f5⟩:=hf it (by simp);have hl:=rv.length;exact wpAny_pyNext_list_end (I.ok.hd hc) st p.isList (by simp;lia) λh' eb=>⟨rfl,I.turned (t':=s.toks) (λb o hb e=>eb b o hb e) f0 f1 f3 f4 f5⟩
 self:=λ_ _ _ _ _ st h=>wpAny_pyIter_listiter st h
theorem wzt {P:Ac}{w:Ah}{K:Aa}{tg:Expr}(a it:Aj):Turn P w K tg (Itt K a) [it] it (λi h=>h.IsTupleIter it a i) where
 mem:=by simp
 obj:=λi h st b hb=>by
  have e:b=it:=by simpa using hb
  subst e;obtain⟨o,e,c,d⟩:=st;exact⟨o,e,λv z=>by rw[d]at z;cases z⟩
 keep:=λi h h' st k=>st.at λo e=>k it (by simp) o e
 item:=by intro X hP hw hK hc i pins s σ H E I hf st hg;subst hP hw hK;obtain⟨xs,x,hq,hx⟩:=hg;obtain⟨its,rv,p,hz⟩:=I.tuple hq;obtain⟨u,hu,ru⟩:=rv.get hx;obtain⟨f0,f1,f2,f3,f4,f5⟩:=hf it (by simp);refine wpAny_pyNext_tuple_item st (show s.heap.IsTuple a its.toArray from p) (x:=u) (by simpa using hu) λh' st' sb=>?_;have I1:Inv X pins σ H { s with heap:=h' }:=I.turned (t':=s.toks) (λb o hb e=>(sb.2 b hb).trans e) f0 f1 f3 f4 f5;obtain⟨o,e,c,d⟩:=id st';exact⟨u,rfl,wk5 (s:={ s with heap:=h' }) e c d ⋯ ⟨x,H,I1,ru,⟨rfl,λys hy=>by rw[I.tuple_inj hy hq];exact hx⟩,st',λb hb=>(hf b hb).1⟩⟩
 done:=by intro X hP hw hK hc i pins s σ H E I hf st hg;subst hP hw hK;obtain⟨xs,hq,hx⟩:=hg;obtain⟨its,rv,p,hz⟩:=I.tuple hq;obtain⟨f0,f1,f2,f3,f4,f5⟩:=hf it (by simp);have hl:=rv.length;exact wpAny_pyNext_tuple_end (I.ok.hd hc) st (show s.heap.IsTuple a its.toArray from p) (by simp;lia) λh' eb=>⟨rfl,I.turned (t':=s.toks) (λb o hb e=>eb b o hb e) f0 f1 f3 f4 f5⟩
 self:=λ_ _ _ _ _ st h=>wpAny_pyIter_tupleiter st h
theorem wz4 {P:Ac}{w:Ah}{K:Aa}{tg:Expr}(it:Aj)(lo:Int)(n:Nat):Turn P w K tg (Itr lo n) [it] it (λi h=>IsRangeIter h it (lo+(i:Nat)*1) ((n:Int)-(i:Nat)) 1) where
 mem:=by simp
 obj:=λi h st b hb=>by
  have e:b=it:=by simpa using hb
  subst e;exact⟨_,st,λv z=>by
   have z':Data.fields _=Data.cell v:=z
   cases z'⟩
 keep:=λi h h' st k=>k it (by simp) _ st
 item:=by intro X hP hw hK hc i pins s σ H E I hf st hg;subst hP hw hK;obtain⟨f0,f1,f2,f3,f4,f5⟩:=hf it (by simp);have W:=Walks.range (prog:=X.prog) (w:=X.w) (I.ok.hd hc) it lo 1 n;refine W.item i s _ _ hg st λv h' tk hv st' kk=>?_;obtain⟨t,rfl⟩:=hv;have I1:Inv X pins σ H { s with heap:=h',toks:=tk }:=I.turned (λb o hb e=>kk b o (by simpa using hb) e) f0 f1 f3 f4 f5;refine⟨_,rfl,wk5 (s:={ s with heap:=h',toks:=tk }) (n := "range_iterator") st' rfl rfl ⋯ ⟨.int (lo+i),H,I1,⟨t,?_⟩,⟨rfl,rfl⟩,st',λb hb=>(hf b hb).1⟩⟩;rw[g9]
 done:=by intro X hP hw hK hc i pins s σ H E I hf st hg;subst hP hw hK;obtain⟨f0,f1,f2,f3,f4,f5⟩:=hf it (by simp);exact wpAny_pyNext_range_end (I.ok.hd hc) st (by have:n<=i:=hg;lia) λh' eb=>⟨rfl,I.turned (t':=s.toks) (λb o hb e=>eb b o hb e) f0 f1 f3 f4 f5⟩
 self:=λ_ _ _ _ _ st h=>wpAny_pyIter_rangeiter st h
section
variable {X:Cx}{tg:Expr}
def iList (K:Aa)(tl:TE):TI:=λσ H R=>tl σ H λx H1=>∃a,x=.ref a/\(∃xs,SqL K H1 a xs)/\R (Itl K a) H1
def iTup (K:Aa)(tl:TE):TI:=λσ H R=>tl σ H λx H1=>∃a,x=.ref a/\(∃xs,SqT K H1 a xs)/\R (Itt K a) H1
theorem vc {l:Expr}{tl:TE}(hl:PE X l tl):PI X tg l (iList X.K tl):=by
 intro pins s σ H R I h;refine thn (hl pins s σ H _ I h) λv s1 ⟨x,H1,I1,r1,q1⟩=>?_;obtain⟨a,e,⟨xs,z⟩,q⟩:=q1;subst e;cases r1;obtain⟨J,F,p,L⟩:=I1.list z;refine hU p.isList ?_;refine⟨s1.heap.objs.size,[s1.heap.objs.size],_,_,H1,rfl,I1.kept (t':=s1.toks) λb o e=>ag _ e,wyd a _,⟨_,ax _ rfl,rfl,rfl⟩,λb D=>?_,q⟩;have e:b=s1.heap.objs.size:=by simpa using D
 subst e;exact I1.fpOk (ai _) (I1.hok.fresh (ai _))
theorem pi_tup {l:Expr}{tl:TE}(hl:PE X l tl):PI X tg l (iTup X.K tl):=by
 intro pins s σ H R I h;refine thn (hl pins s σ H _ I h) λv s1 ⟨x,H1,I1,r1,q1⟩=>?_;obtain⟨a,e,⟨xs,D⟩,q⟩:=q1;subst e;cases r1;obtain⟨z,J,p,L⟩:=I1.tuple D;refine wpAny_pyIter_tuple (show s1.heap.IsTuple a z.toArray from p) ?_;refine⟨s1.heap.objs.size,[s1.heap.objs.size],_,_,H1,rfl,I1.kept (t':=s1.toks) λb o e=>ag _ e,wzt a _,⟨_,ax _ rfl,rfl,rfl⟩,λb F=>?_,q⟩;have e:b=s1.heap.objs.size:=by simpa using F
 subst e;exact I1.fpOk (ai _) (I1.hok.fresh (ai _))
theorem wxf {pins:List (Aj×Obj)}{σ:St}{H:Hp}{s:Ab}{R:It->Hp->Prop}{E:Ag->Ab->Prop}{lo hi:Int}{t u v:Tok}{tk:Nat}(I:Inv X pins σ H s)(h1:-(2 ^ 62)<=lo)(h2:lo<2 ^ 62)(h3:-(2 ^ 62)<=hi)(h4:hi<2 ^ 62)
  (q:R (Itr lo (hi-lo).toNat) H):wpAny (model X.prog X.w) X.A (pyIter (.ref s.heap.objs.size)) (PIE X pins σ tg R) E { s with heap:=s.heap.push { cls:=.type "range",data:=.fields #[.int lo t,.int hi u,.int 1 v] },toks:=tk }:=by
 refine wpAny_pyIter_range (i3 ..) (small_one h1 h2 h3 h4) ?_;have z:Inv X pins σ H { s with heap:=s.heap.push { cls:=.type "range",data:=.fields #[.int lo t,.int hi u,.int 1 v] },toks:=tk }:=I.kept λb o e=>ag _ e;refine⟨(s.heap.push { cls:=.type "range",data:=.fields #[.int lo t,.int hi u,.int 1 v] }).objs.size,[(s.heap.push { cls:=.type "range",data:=.fields #[.int lo t,.int hi u,.int 1 v] }).objs.size],_,_,H,rfl,
  z.kept (t':=tk) λb o e=>ag _ e,wz4 _ lo (hi-lo).toNat,?_,λb D=>?_,q⟩
 .have J:lo+((0:Nat):Int)*1=lo:=by simp
  have F:(((hi-lo).toNat:Nat):Int)-((0:Nat):Int)=Builtin.Range.rangeSize lo hi 1:=by rw[rangeSize_one];split <;> lia
  show IsRangeIter _ _ (lo+((0:Nat):Int)*1) ((((hi-lo).toNat:Nat):Int)-((0:Nat):Int)) 1;rw[J,F];exact ax _ rfl
 .have e:b=(s.heap.push { cls:=.type "range",data:=.fields #[.int lo t,.int hi u,.int 1 v] }).objs.size:=by simpa using D
  subst e;exact z.fpOk (ai _) (z.hok.fresh (ai _))
def iRng1 (ta:TA):TI:=λσ H R=>ta σ H λvs H1=>∃j:Int,vs=[.int j]/\-(2 ^ 62)<=j/\j<2 ^ 62/\R (Itr 0 j.toNat) H1
def iRng2 (ta:TA):TI:=λσ H R=>ta σ H λvs H1=>∃i j:Int,vs=[.int i,.int j]/\(-(2 ^ 62)<=i/\i<2 ^ 62/\-(2 ^ 62)<=j/\j<2 ^ 62)/\R (Itr i (j-i).toNat) H1
theorem zq {a:Expr}{ta:TA}{p pos:Pos}(hg:Gl X "range")(hm:X.mg "range" = none)(ha:PA X [a] ta)(hs:autoParam (starEach [a] X.env=[(false,eval a X.env)]) aU4._auto_1):PI X tg (.Call (.Name "range" p) [a] [] pos) (iRng1 ta):=by
 intro pins s σ H R I h;refine Call_ (jb I hg hm iK (bi (thn (ha pos pins s σ H _ I h) λus s1 ⟨vs,H1,I1,r1,z⟩=>?_) hs rfl));obtain⟨j,e,z,D,q⟩:=z;subst e;cases r1 with
 |cons r rr =>
  cases rr;obtain⟨t,rfl⟩:=r;exact call_range_1 (wxf I1 ⋯ ⋯ z D (by simpa using q))
theorem yb {a b:Expr}{ta:TA}{p pos:Pos}(hg:Gl X "range")(hm:X.mg "range" = none)(ha:PA X [a,b] ta)(hs:autoParam (starEach [a,b] X.env=[(false,eval a X.env),(false,eval b X.env)]) aU4._auto_1)(hs2:autoParam (starEach [b] X.env=[(false,eval b X.env)]) aU4._auto_1) :
  PI X tg (.Call (.Name "range" p) [a,b] [] pos) (iRng2 ta):=by
 intro pins s σ H R I h;refine Call_ (jb I hg hm iK (bi (thn (ha pos pins s σ H _ I h) λus s1 ⟨vs,H1,I1,r1,z⟩=>?_) (by rw[hs,hs2]) (by rw[hs2];rfl)));obtain⟨i,j,e,⟨z,J,F,D⟩,q⟩:=z;subst e;cases r1 with
 |cons r rr =>
  cases rr with
  |cons r' rr =>
   cases rr;obtain⟨t,rfl⟩:=r;obtain⟨L,rfl⟩:=r';exact call_range_2 (wxf I1 z J F D q)
def tFor (wi:TI)(g:TG)(tb:TS):TS:=λD σ H=>wi σ H λJ H1=>∃W:Nat->Nat->St->Hp->Prop,(∃m,W 0 m σ H1)/\∀i m σ H,W i m σ H ->
 (J.stop i H/\D.nx σ H)\/(J.go i H/\∃N:St->Hp->Prop,(∀σ' H',N σ' H'->∃m',m'<m/\W (i+1) m' σ' H')/\∀x H',J.yld i H x H'->g x σ H' λσ2 H2=>tb { D with nx:=N,ct:=N,bk:=D.nx } σ2 H2)
def qyh (fp:List Aj)(h:Heap):List (Aj×Obj):=fp.filterMap λb=>(h.get? b).map λo=>(b,o)
theorem Qf {fp:List Aj}{h:Heap}{b:Aj}{o:Obj}(hb:b∈fp)(e:h.get? b=some o):(b,o)∈qyh fp h:=eY.mpr ⟨b,hb,by rw[e];rfl⟩
theorem xqc {fp:List Aj}{h:Heap}{p:Aj×Obj}(hp:p∈qyh fp h):p.1∈fp/\h.get? p.1=some p.2:=by
 obtain⟨b,z,e⟩:=eY.mp hp;cases q:h.get? b with
 |none=>rw[q]at e;cases e
 |some o =>
  rw[q]at e;have D:(b,o)=p:=ak e;subst D;exact⟨z,q⟩
theorem Inv.pinned {pins:List (Aj×Obj)}{σ:St}{H:Hp}{s:Ab}{fp:List Aj}(I:Inv X pins σ H s)(hf:∀b∈fp,vh X pins H b)(ho:∀b∈fp,∃o,s.heap.get? b=some o/\∀v,o.data≠.cell v):Inv X (pins++qyh fp s.heap) σ H s :=
 I.pins_of λp hp=>(aY.mp hp).elim (λz=>I.pin p (az _ z)) λz=>by obtain⟨hb,e⟩:=xqc z;obtain⟨f0,f1,f2,_⟩:=hf p.1 hb;obtain⟨o,e',d⟩:=ho p.1 hb;rw[e]at e';cases e';exact⟨e,f0,f1,f2,d⟩
theorem Inv.unpinned {pins pl:List (Aj×Obj)}{σ:St}{H:Hp}{s:Ab}(I:Inv X (pins++pl) σ H s):Inv X pins σ H s:=I.pins_of λp hp=>I.pin p (az _ (bD _ hp))
theorem Qj {iter:Expr}{body:List Stmt}{wi:TI}{g:TG}{tb:TS}{pos:Pos}(hp:PassesOwn (model X.prog X.w) X.A X.env X.xe)(hc:X.calm=true)(hi:PI X tg iter wi)(hg:PG X tg g)(hb:PSs X body tb)
  (hs:autoParam (∀x,foldedSetIterable iter X.env x=pure x) aU3._auto_1):PS X (.For tg iter body [] pos) (tFor wi g tb):=by
 intro pins s σ H D I h;refine wpAny_For (thn (hi pins s σ H _ I h) λv s1 h1=>thn h1 λa2 s2 h2=>?_) hs;obtain⟨it,fp,tn,J,H2,e,I2,T,a0,f2,W,⟨m0,w0⟩,an⟩:=h2;subst e;have ab:∀ {H':Hp},(∀b∈fp,H' b=none)->∀b∈fp,vh X pins H' b:=λhn b hb=>⟨hn b hb,(f2 b hb).2⟩;refine codeAny_forLoop_any (λn s'=>∃i σ' H',Inv X pins σ' H' s'/\tn i s'.heap/\(∀b∈fp,H' b=none)/\W i n σ' H') ?_ m0 ⟨0,σ,H2,I2,a0,λb hb=>(f2 b hb).1,w0⟩;rintro n s3 ⟨i,σ3,H3,I3,st3,fr3,w3⟩;rcases an i n σ3 H3 w3 with⟨ap,qn⟩|⟨go,N,hN,as⟩
 .refine dr hp (thn (T.done X rfl rfl rfl hc i pins s3 σ3 H3 X.xe I3 (ab fr3) st3 ap) λr s4 ⟨hr,I4⟩=>?_);subst hr;exact eW ⟨σ3,H3,I4,qn⟩
 .refine dr hp (thn (T.item X rfl rfl rfl hc i pins s3 σ3 H3 X.xe I3 (ab fr3) st3 go) λr s4 ⟨u,hr,h4⟩=>?_);subst hr;refine dr hp (thn h4 λ_ s5 ⟨x,H5,I5,r5,y5,st5,fr5⟩=>?_);have a1:=I5.pinned (ab fr5) (T.obj _ _ st5);refine dr hp (thn (hg _ s5 σ3 H5 x u _ a1 r5 (as x H5 y5)) λ_ s6 ⟨σ6,H6,I6,q6⟩=>?_);refine dr hp (thn (hb _ s6 σ6 H6 _ I6 q6) λf s7 U=>?_);have ad:∀ {z:St} {L:Hp},Inv X (pins++qyh fp s5.heap) z L s7->N z L->∃m,m<n/\∃i σ' H',Inv X pins σ' H' s7/\tn i s7.heap/\(∀b∈fp,H' b=none)/\W i m σ' H':=λ{z L} F Z=>by obtain⟨m',hm,w7⟩:=hN z L Z;refine⟨m',hm,i+1,z,L,F.unpinned,T.keep _ _ _ st5 λb hb o e=>(F.pin (b,o) (az _ (az _ (Qf hb e)))).1,λb hb=>?_,w7⟩;obtain⟨o,e,d⟩:=T.obj _ _ st5 b hb;exact(F.pin (b,o) (az _ (az _ (Qf hb e)))).2.1
  cases f with
  |next=>obtain⟨z,L,F,Z⟩:=U;exact ad F Z
  |cont=>obtain⟨z,L,F,Z⟩:=U;exact ad F Z
  |brk=>obtain⟨z,L,F,U⟩:=U;exact⟨z,L,F.unpinned,U⟩
  |ret v=>obtain⟨x7,z,L,F,r7,U⟩:=U;exact⟨x7,z,L,F.unpinned,r7,U⟩
end
theorem xvg {K:Aa}{a:Aj}{xs:List V}{g:TG}{tb:TS}{D:Ends}{σ:St}{H:Hp}(Pv:Nat->St->Hp->Prop)(h0:Pv 0 σ H)(hl:∀i σ H,i<=xs.length->Pv i σ H->SqL K H a xs)
  (hs:∀i x σ H,xs[i]?=some x->Pv i σ H->g x σ H λσ2 H2=>tb { D with nx:=Pv (i+1),ct:=Pv (i+1),bk:=D.nx } σ2 H2) (hd:∀σ H,Pv xs.length σ H->D.nx σ H) :
  ∃W:Nat->Nat->St->Hp->Prop,(∃m,W 0 m σ H)/\∀i m σ H,W i m σ H ->
   ((Itl K a).stop i H/\D.nx σ H)\/((Itl K a).go i H/\∃N:St->Hp->Prop,(∀σ' H',N σ' H'->∃m',m'<m/\W (i+1) m' σ' H')/\∀x H',(Itl K a).yld i H x H'->g x σ H' λσ2 H2=>tb { D with nx:=N,ct:=N,bk:=D.nx } σ2 H2):=by
 refine⟨λi m σ H=>m=xs.length-i/\i<=xs.length/\Pv i σ H,⟨xs.length,by simp,aK _,h0⟩,?_⟩;rintro i m σ H ⟨rfl,hi,p⟩;have q:=hl i σ H hi p;by_cases hlt:i<xs.length
 .refine .inr ⟨⟨xs,xs[i],q,by simp[hlt]⟩,Pv (i+1),λσ' H' z=>⟨xs.length-(i+1),⋯,rfl,hlt,z⟩,λx H' y=>?_⟩;obtain⟨e,y⟩:=y;subst e;exact hs i x σ _ (y xs q) p
 .have e:i=xs.length:=by lia
  subst e;exact .inl ⟨⟨xs,q,ai _⟩,hd σ H p⟩
theorem xjb {K:Aa}{a:Aj}{xs:List V}{g:TG}{tb:TS}{D:Ends}{σ:St}{H:Hp}(Pv:Nat->St->Hp->Prop)(h0:Pv 0 σ H)(hl:∀i σ H,i<=xs.length->Pv i σ H->SqT K H a xs)
  (hs:∀i x σ H,xs[i]?=some x->Pv i σ H->g x σ H λσ2 H2=>tb { D with nx:=Pv (i+1),ct:=Pv (i+1),bk:=D.nx } σ2 H2) (hd:∀σ H,Pv xs.length σ H->D.nx σ H) :
  ∃W:Nat->Nat->St->Hp->Prop,(∃m,W 0 m σ H)/\∀i m σ H,W i m σ H ->
   ((Itt K a).stop i H/\D.nx σ H)\/((Itt K a).go i H/\∃N:St->Hp->Prop,(∀σ' H',N σ' H'->∃m',m'<m/\W (i+1) m' σ' H')/\∀x H',(Itt K a).yld i H x H'->g x σ H' λσ2 H2=>tb { D with nx:=N,ct:=N,bk:=D.nx } σ2 H2):=by
 refine⟨λi m σ H=>m=xs.length-i/\i<=xs.length/\Pv i σ H,⟨xs.length,by simp,aK _,h0⟩,?_⟩;rintro i m σ H ⟨rfl,hi,p⟩;have q:=hl i σ H hi p;by_cases hlt:i<xs.length
 .refine .inr ⟨⟨xs,xs[i],q,by simp[hlt]⟩,Pv (i+1),λσ' H' z=>⟨xs.length-(i+1),⋯,rfl,hlt,z⟩,λx H' y=>?_⟩;obtain⟨e,y⟩:=y;subst e;exact hs i x σ _ (y xs q) p
 .have e:i=xs.length:=by lia
  subst e;exact .inl ⟨⟨xs,q,ai _⟩,hd σ H p⟩
theorem u8 {lo:Int}{n:Nat}{g:TG}{tb:TS}{D:Ends}{σ:St}{H:Hp}(Pv:Nat->St->Hp->Prop)(h0:Pv 0 σ H)
  (hs:∀i σ H,i<n->Pv i σ H->g (.int (lo+i)) σ H λσ2 H2=>tb { D with nx:=Pv (i+1),ct:=Pv (i+1),bk:=D.nx } σ2 H2) (hd:∀σ H,Pv n σ H->D.nx σ H) :
  ∃W:Nat->Nat->St->Hp->Prop,(∃m,W 0 m σ H)/\∀i m σ H,W i m σ H ->
   ((Itr lo n).stop i H/\D.nx σ H)\/((Itr lo n).go i H/\∃N:St->Hp->Prop,(∀σ' H',N σ' H'->∃m',m'<m/\W (i+1) m' σ' H')/\∀x H',(Itr lo n).yld i H x H'->g x σ H' λσ2 H2=>tb { D with nx:=N,ct:=N,bk:=D.nx } σ2 H2):=by
 refine⟨λi m σ H=>m=n-i/\i<=n/\Pv i σ H,⟨n,by simp,aK _,h0⟩,?_⟩;rintro i m σ H ⟨rfl,hi,p⟩;by_cases hlt:i<n
 .refine .inr ⟨hlt,Pv (i+1),λσ' H' z=>⟨n-(i+1),⋯,rfl,hlt,z⟩,λx H' y=>?_⟩;obtain⟨e,y⟩:=y;subst e y;exact hs i σ _ hlt p
 .have e:i=n:=by lia
  subst e;exact .inl ⟨ai _,hd σ H p⟩
theorem uh {c:TT}{tb:TS}{D:Ends}{σ:St}{H:Hp}(Pv:St->Hp->Prop)(μ:St->Hp->Nat)(h0:Pv σ H)
  (hs:∀σ H,Pv σ H->c σ H λb H1=>if b=true then tb { D with nx:=λσ' H'=>Pv σ' H'/\μ σ' H'<μ σ H,ct:=λσ' H'=>Pv σ' H'/\μ σ' H'<μ σ H,bk:=D.nx } σ H1 else D.nx σ H1)
  (mono:∀σ H Q Q',(∀b H1,Q b H1->Q' b H1)->c σ H Q->c σ H Q'):wvz c tb D σ H:=by
 refine⟨λm σ H=>m=μ σ H/\Pv σ H,⟨_,rfl,h0⟩,?_⟩;rintro m σ H ⟨rfl,p⟩;refine mono σ H _ _ (λb H1 q=>?_) (hs σ H p);cases b with
 |true=>exact⟨_,λσ' H' ⟨p',l⟩=>⟨_,l,rfl,p'⟩,q⟩
 |false=>exact q
abbrev R2:=V->V->Hp->VK->Prop
def OpR (X:Cx)(f:Ag->Ag->Sem Ag)(r:R2):Prop :=
 ∀(pins:List (Aj×Obj)) (s:Ab) (σ:St) (H:Hp) (x y:V) (v u:Ag) (Q:VK),Inv X pins σ H s->RelV x v->RelV y u->r x y H Q ->
  wpAny (model X.prog X.w) X.A (f v u) (EP X pins σ Q) X.xe s
def UnR (X:Cx)(f:Ag->Sem Ag)(r:V->Hp->VK->Prop):Prop :=
 ∀(pins:List (Aj×Obj)) (s:Ab) (σ:St) (H:Hp) (x:V) (v:Ag) (Q:VK),Inv X pins σ H s->RelV x v->r x H Q ->
  wpAny (model X.prog X.w) X.A (f v) (EP X pins σ Q) X.xe s
def yx (X:Cx)(f:Ag)(r:List V->Hp->VK->Prop):Prop :=
 ∀(pins:List (Aj×Obj)) (s:Ab) (σ:St) (H:Hp) (xs:List V) (us:List Ag) (Q:VK),Inv X pins σ H s->Vals xs us->r xs H Q ->
  wpAny (model X.prog X.w) X.A (call f us) (EP X pins σ Q) X.xe s
def tOp (r:R2)(ta tb:TE):TE:=λσ H Q=>ta σ H λx H1=>tb σ H1 λy H2=>r x y H2 Q
def tUn (r:V->Hp->VK->Prop)(ta:TE):TE:=λσ H Q=>ta σ H λx H1=>r x H1 Q
def rI (C:Int->Int->Prop)(g:Int->Int->V):R2:=λx y H Q=>∃i j,x=.int i/\y=.int j/\C i j/\Q (g i j) H
def rI0 (g:Int->Int->V):R2:=λx y H Q=>∃i j,x=.int i/\y=.int j/\Q (g i j) H
def rU (g:Int->V):V->Hp->VK->Prop:=λx H Q=>∃i,x=.int i/\Q (g i) H
section
variable {X:Cx}{a b c:Expr}{ta tb tc:TE}{pos:Pos}
theorem binT (ha:PE X a ta)(hb:PE X b tb){pins:List (Aj×Obj)}{s:Ab}{σ:St}{H:Hp}{R:V->V->Hp->Prop}(I:Inv X pins σ H s)
  (h:ta σ H λx H1=>tb σ H1 λy H2=>R x y H2) {Q:Ag->Ab->Prop} {f:Ag->Ag->Sem Ag}
  (hf:∀v u s2 x y H2,Inv X pins σ H2 s2->RelV x v->RelV y u->R x y H2->wpAny (model X.prog X.w) X.A (f v u) Q X.xe s2) :
  wpAny (model X.prog X.w) X.A (eval a X.env) (λv s₁=>wpAny (model X.prog X.w) X.A (eval b X.env) (λu s₂=>wpAny (model X.prog X.w) X.A (f v u) Q X.xe s₂) X.xe s₁) X.xe s:=by
 refine thn (ha pins s σ H _ I h) λv s1 ⟨x,H1,I1,r1,q1⟩=>?_;refine thn (hb pins s1 σ H1 _ I1 q1) λu s2 ⟨y,H2,I2,r2,q2⟩=>?_;exact hf v u s2 x y H2 I2 r1 r2 q2
theorem wx {op:Operator}{r:R2}(ho:OpR X (binaryOp op) r)(ha:PE X a ta)(hb:PE X b tb):PE X (.BinOp a op b pos) (tOp r ta tb):=by intro pins s σ H Q I h;exact wpAny_BinOp (binT ha hb I h λv u s2 x y H2 F D z q=>ho pins s2 σ H2 x y v u Q F D z q)
theorem Wy {op:UnaryOp}{r:V->Hp->VK->Prop}(ho:UnR X (unaryOp op) r)(ha:PE X a ta):PE X (.UnaryOp op a pos) (tUn r ta):=by intro pins s σ H Q I h;exact UnaryOp_ (thn (ha pins s σ H _ I h) λv s1 ⟨x,H1,I1,r1,q1⟩=>ho pins s1 σ H1 x v Q I1 r1 q1)
theorem opI {f:Ag->Ag->Sem Ag}{C:Int->Int->Prop}{g:Int->Int->Int}
  (rule:∀(i j:Int) (t u:Tok) (s:Ab) (Q:Ag->Ab->Prop) (E:Ag->Ab->Prop),C i j->Q (.int (g i j) s.toks) { s with toks:=s.toks+1 }->wpAny (model X.prog X.w) X.A (f (.int i t) (.int j u)) Q E s) :
  OpR X f (rI C λi j=>.int (g i j)):=by
 intro pins s σ H x y v u Q I F D h;obtain⟨i,j,rfl,rfl,J,q⟩:=h;obtain⟨t,rfl⟩:=F;obtain⟨z,rfl⟩:=D;exact rule i j t z s _ _ J ⟨.int (g i j),H,I.tok _,⟨_,rfl⟩,q⟩
theorem opI0 {f:Ag->Ag->Sem Ag}{g:Int->Int->Int}
  (rule:∀(i j:Int) (t u:Tok) (s:Ab) (Q:Ag->Ab->Prop) (E:Ag->Ab->Prop),Q (.int (g i j) s.toks) { s with toks:=s.toks+1 }->wpAny (model X.prog X.w) X.A (f (.int i t) (.int j u)) Q E s) :
  OpR X f (rI0 λi j=>.int (g i j)):=by
 intro pins s σ H x y v u Q I F D h;obtain⟨i,j,rfl,rfl,q⟩:=h;obtain⟨t,rfl⟩:=F;obtain⟨z,rfl⟩:=D;exact rule i j t z s _ _ ⟨.int (g i j),H,I.tok _,⟨_,rfl⟩,q⟩
theorem opB0 {f:Ag->Ag->Sem Ag}{g:Int->Int->Bool}
  (rule:∀(i j:Int) (t u:Tok) (s:Ab) (Q:Ag->Ab->Prop) (E:Ag->Ab->Prop),Q (.bool (g i j)) s->wpAny (model X.prog X.w) X.A (f (.int i t) (.int j u)) Q E s) :
  OpR X f (rI0 λi j=>.bl (g i j)):=by
 intro pins s σ H x y v u Q I F D h;obtain⟨i,j,rfl,rfl,q⟩:=h;obtain⟨t,rfl⟩:=F;obtain⟨z,rfl⟩:=D;exact rule i j t z s _ _ ⟨.bl (g i j),H,I,rfl,q⟩
def CPow (i j:Int):Prop:=0<=j/\j<=1000000/\i.natAbs<2 ^ 64
theorem xu:OpR X (binaryOp .Add) (rI0 λi j=>.int (i+j)):=opI0 λ_ _ _ _ _ _ _ q=>add_int q
theorem zy:OpR X (binaryOp .Sub) (rI0 λi j=>.int (i-j)):=opI0 λ_ _ _ _ _ _ _ q=>sub_int q
theorem v3:OpR X (binaryOp .Mod) (rI (λ_ j=>0<j) λi j=>.int (i%j)):=opI λi j _ _ _ _ _ hc q=>by have h1:(0:Int)<j:=hc;exact mod_int' ⋯ (by rw[Int.fmod_eq_emod_of_nonneg i ⋯];exact q)
theorem qyz:OpR X (binaryOp .Pow) (rI CPow λi j=>.int (i ^ j.toNat)):=opI λ_ _ _ _ _ _ _ hc q=>pow_int_small hc.1 hc.2.1 hc.2.2 q
theorem unI {f:Ag->Sem Ag}{g:Int->Int}
  (rule:∀(i:Int) (t:Tok) (s:Ab) (Q:Ag->Ab->Prop) (E:Ag->Ab->Prop),Q (.int (g i) s.toks) { s with toks:=s.toks+1 }->wpAny (model X.prog X.w) X.A (f (.int i t)) Q E s) :
  UnR X f (rU λi=>.int (g i)):=by
 intro pins s σ H x v Q I z h;obtain⟨i,rfl,q⟩:=h;obtain⟨t,rfl⟩:=z;exact rule i t s _ _ ⟨.int (g i),H,I.tok _,⟨_,rfl⟩,q⟩
theorem ym:UnR X (unaryOp .USub) (rU λi=>.int (-i)):=unI λ_ _ _ _ _ q=>neg_int q
end
def scal:V->V->Bool
 |.non,.non=>true|.non,.int _=>true|.int _,.non=>true|.non,.bl _=>true|.bl _,.non=>true|.non,.str _=>true|.str _,.non=>true
 |.int _,.int _=>true|.bl _,.bl _=>true|.str _,.str _=>true|.byt _,.byt _=>true
 |.int _,.str _=>true|.str _,.int _=>true|.bl _,.str _=>true|.str _,.bl _=>true
 |_,_=>false
def rEq:R2:=λx y H Q=>scal x y=true/\Q (.bl (decide (x=y))) H
def rNe:R2:=λx y H Q=>scal x y=true/\Q (.bl (!decide (x=y))) H
theorem wks {i j:Int}:decide (V.int i=V.int j)=(i==j):=by rw[cx];simp
theorem xxu {i j:Bool}:decide (V.bl i=V.bl j)=(i==j):=by rw[cx];simp
theorem wk1 {i j:Str}:decide (V.str i=V.str j)=(i==j):=by rw[cx];simp
theorem wkx {i j:Array UInt8}:decide (V.byt i=V.byt j)=(i.toList==j.toList):=by rw[cx];cases i;cases j;simp
section
variable {X:Cx}{a b c:Expr}{ta tb tc:TE}{pos:Pos}
theorem x4 {pins:List (Aj×Obj)}{σ:St}{H:Hp}{s:Ab}{Q:VK}{k k':Bool}(I:Inv X pins σ H s)(q:Q (.bl k) H)(e:k=k'):EP X pins σ Q (.bool k') s:=by subst e;exact⟨.bl k,H,I,rfl,q⟩
theorem zg:OpR X (compareOp .Eq) rEq:=by
 intro pins s σ H x y v u Q I F z h;obtain⟨hs,q⟩:=h;cases x with
 |non =>
  cases F;cases y with
  |non=>cases z;exact PySem.EqNone.eq_none_none (x4 I q (by simp))
  |bl j=>cases z;exact PySem.EqNone.eq_none_bool (x4 I q (by simp))
  |int j=>obtain⟨D,rfl⟩:=z;exact PySem.EqNone.eq_none_int (x4 I q (by simp))
  |str j=>obtain⟨D,rfl⟩:=z;exact PySem.EqNone.eq_none_str (x4 I q (by simp))
  |_=>exact absurd (show false=true from hs) aJ
 |bl i =>
  cases F;cases y with
  |non=>cases z;exact PySem.EqNone.eq_bool_none (x4 I q (by simp))
  |bl j=>cases z;exact eq_bool (x4 I q xxu)
  |str j=>obtain⟨D,rfl⟩:=z;exact PySem.EqMixed.eq_bool_str (x4 I q (by simp))
  |_=>exact absurd (show false=true from hs) aJ
 |int i =>
  obtain⟨t,rfl⟩:=F;cases y with
  |non=>cases z;exact PySem.EqNone.eq_int_none (x4 I q (by simp))
  |int j=>obtain⟨D,rfl⟩:=z;exact eq_int (x4 I q wks)
  |str j=>obtain⟨D,rfl⟩:=z;exact PySem.EqMixed.eq_int_str (x4 I q (by simp))
  |_=>exact absurd (show false=true from hs) aJ
 |str i =>
  obtain⟨t,rfl⟩:=F;cases y with
  |non=>cases z;exact PySem.EqNone.eq_str_none (x4 I q (by simp))
  |bl j=>cases z;exact PySem.EqMixed.eq_str_bool (x4 I q (by simp))
  |int j=>obtain⟨D,rfl⟩:=z;exact PySem.EqMixed.eq_str_int (x4 I q (by simp))
  |str j=>obtain⟨D,rfl⟩:=z;exact eq_str (x4 I q wk1)
  |_=>exact absurd (show false=true from hs) aJ
 |byt i =>
  obtain⟨t,rfl⟩:=F;cases y with
  |byt j=>obtain⟨D,rfl⟩:=z;exact W.eq_bytes (x4 I q wkx)
  |_=>exact absurd (show false=true from hs) aJ
 |_=>cases y <;> exact absurd (show false=true from hs) aJ
theorem wqr:OpR X (compareOp .NotEq) rNe:=by
 intro pins s σ H x y v u Q I F z h;obtain⟨hs,q⟩:=h;cases x with
 |non =>
  cases F;cases y with
  |non=>cases z;exact PySem.EqNone.ne_none_none (x4 I q (by simp))
  |bl j=>cases z;exact PySem.EqNone.ne_none_bool (x4 I q (by simp))
  |int j=>obtain⟨D,rfl⟩:=z;exact PySem.EqNone.ne_none_int (x4 I q (by simp))
  |str j=>obtain⟨D,rfl⟩:=z;exact PySem.EqNone.ne_none_str (x4 I q (by simp))
  |_=>exact absurd (show false=true from hs) aJ
 |bl i =>
  cases F;cases y with
  |non=>cases z;exact PySem.EqNone.ne_bool_none (x4 I q (by simp))
  |bl j=>cases z;exact ne_bool (x4 I q (bT not xxu))
  |str j=>obtain⟨D,rfl⟩:=z;exact PySem.EqMixed.ne_bool_str (x4 I q (by simp))
  |_=>exact absurd (show false=true from hs) aJ
 |int i =>
  obtain⟨t,rfl⟩:=F;cases y with
  |non=>cases z;exact PySem.EqNone.ne_int_none (x4 I q (by simp))
  |int j=>obtain⟨D,rfl⟩:=z;exact ne_int (x4 I q (bT not wks))
  |str j=>obtain⟨D,rfl⟩:=z;exact PySem.EqMixed.ne_int_str (x4 I q (by simp))
  |_=>exact absurd (show false=true from hs) aJ
 |str i =>
  obtain⟨t,rfl⟩:=F;cases y with
  |non=>cases z;exact PySem.EqNone.ne_str_none (x4 I q (by simp))
  |bl j=>cases z;exact PySem.EqMixed.ne_str_bool (x4 I q (by simp))
  |int j=>obtain⟨D,rfl⟩:=z;exact PySem.EqMixed.ne_str_int (x4 I q (by simp))
  |str j=>obtain⟨D,rfl⟩:=z;exact ne_str (x4 I q (bT not wk1))
  |_=>exact absurd (show false=true from hs) aJ
 |byt i =>
  obtain⟨t,rfl⟩:=F;cases y with
  |byt j=>obtain⟨D,rfl⟩:=z;exact W.ne_bytes (x4 I q (bT not wkx))
  |_=>exact absurd (show false=true from hs) aJ
 |_=>cases y <;> exact absurd (show false=true from hs) aJ
theorem Wp:OpR X (compareOp .Lt) (rI0 λi j=>.bl (decide (i<j))):=opB0 λ_ _ _ _ _ _ _ q=>lt_int q
theorem wkn:OpR X (compareOp .LtE) (rI0 λi j=>.bl (decide (i<=j))):=opB0 λ_ _ _ _ _ _ _ q=>le_int q
theorem yr:OpR X (compareOp .Gt) (rI0 λi j=>.bl (decide (j<i))):=opB0 λ_ _ _ _ _ _ _ q=>gt_int q
theorem wj8:OpR X (compareOp .GtE) (rI0 λi j=>.bl (decide (j<=i))):=opB0 λ_ _ _ _ _ _ _ q=>ge_int q
theorem op_isN:OpR X (compareOp .Is) (λx y H Q=>y=.non/\Q (.bl (decide (x=.non))) H):=by
 intro pins s σ H x y v u Q I z D h;obtain⟨rfl,q⟩:=h;cases D;refine is_none_gen (x4 I q ?_);cases x <;> first
  |(cases z;rfl)
  |(obtain⟨t,rfl⟩:=z;rfl)
theorem wjf:OpR X (compareOp .IsNot) (λx y H Q=>y=.non/\Q (.bl (!decide (x=.non))) H):=by
 intro pins s σ H x y v u Q I z D h;obtain⟨rfl,q⟩:=h;cases D;refine isnot_none_gen (x4 I q ?_);cases x <;> first
  |(cases z;rfl)
  |(obtain⟨t,rfl⟩:=z;rfl)
theorem wg (b:Expr){op:CmpOp}(h:autoParam (op≠.In) aU1._auto_1)(h2:autoParam (op≠.NotIn) aU1._auto_1):behindInMarks op b=false:=by
 have D:(op==CmpOp.In)=false:=by cases op <;> first | rfl | exact absurd rfl h
 have z:(op==CmpOp.NotIn)=false:=by cases op <;> first | rfl | exact absurd rfl h2
 cases b <;> simp[behindInMarks,D,z]
theorem W7 {op:CmpOp}{r:R2}(ho:OpR X (compareOp op) r)(ha:PE X a ta)(hb:PE X b tb)(hm:behindInMarks op b=false):PE X (.Compare a [op] [b] pos) (tOp r ta tb):=by intro pins s σ H Q I h;exact wpAny_Compare1 (binT ha hb I h λv u s2 x y H2 F D z q=>ho pins s2 σ H2 x y v u Q F D z q) hm
def qqp (t:TE):TT:=λσ H Q=>t σ H λx H'=>∃k,x=.bl k/\Q k H'
theorem wu {op:CmpOp}{r:R2}(ho:OpR X (compareOp op) r)(ha:PE X a ta)(hb:PE X b tb)(hm:behindInMarks op b=false):PT X (.Compare a [op] [b] pos) (qqp (tOp r ta tb)):=by
 intro pins s σ H Q I h;refine wpAny_isTrue_Compare1 (thn (ha pins s σ H _ I h) λv s1 ⟨x,H1,I1,r1,q1⟩=>thn (hb pins s1 σ H1 _ I1 q1) λu s2 ⟨y,H2,I2,r2,q2⟩ =>
  thn (ho pins s2 σ H2 x y v u _ I2 r1 r2 q2) λc s3 ⟨z,H3,I3,r3,k,e,q3⟩=>?_) hm
 subst e;cases r3;exact dt ⟨H3,I3,q3⟩
theorem qy6:(sizeLine:Nat)<2 ^ 63:=by rw[dh];decide
theorem yg {x:V}{us:List Ag}(r:Vals [x] us):∃u,us=[u]/\RelV x u:=by
 cases r with
 |cons r1 r2=>cases r2;exact⟨_,rfl,r1⟩
theorem vals2 {x y:V}{us:List Ag}(r:Vals [x,y] us):∃u w',us=[u,w']/\RelV x u/\RelV y w':=by
 cases r with
 |cons r1 r2 =>
  cases r2 with
  |cons r3 r4=>cases r4;exact⟨_,_,rfl,r1,r3⟩
theorem Yb:yx X (.builtin "abs") (λxs H Q=>∃i,xs=[.int i]/\Q (.int (if i<0 then -i else i)) H):=by intro pins s σ H xs z Q I r h;obtain⟨i,rfl,q⟩:=h;obtain⟨u,rfl,t,rfl⟩:=yg r;exact call_abs_int λu tk=>⟨.int (if i<0 then -i else i),H,I.tok _,⟨_,rfl⟩,q⟩
theorem qku (hc:X.calm=true):yx X (.builtin "max") (λxs H Q=>∃i j,xs=[.int i,.int j]/\Q (.int (if j>i then j else i)) H):=by
 intro pins s σ H xs D Q I r h;obtain⟨i,j,rfl,q⟩:=h;obtain⟨u,z,rfl,⟨t,rfl⟩,⟨F,rfl⟩⟩:=vals2 r;refine max_two_ints (I.ok.hd hc) λh' tk k=>⟨_,H,I.kept k,?_,q⟩;by_cases hj:j>i
 .rw[aw hj,aw hj];exact⟨_,rfl⟩
 .rw[ao hj,ao hj];exact⟨_,rfl⟩
theorem qqz (hc:X.calm=true):yx X (.builtin "min") (λxs H Q=>∃i j,xs=[.int i,.int j]/\Q (.int (if j<i then j else i)) H):=by
 intro pins s σ H xs D Q I r h;obtain⟨i,j,rfl,q⟩:=h;obtain⟨u,z,rfl,⟨t,rfl⟩,⟨F,rfl⟩⟩:=vals2 r;refine min_two_ints (I.ok.hd hc) λh' tk k=>⟨_,H,I.kept k,?_,q⟩;by_cases hj:j<i
 .rw[aw hj,aw hj];exact⟨_,rfl⟩
 .rw[ao hj,ao hj];exact⟨_,rfl⟩
end
structure ObjM (h:Heap)(x dx C:Aj)(mA:Str->Option Ag):Prop where
 obj:h.get? x=some (W.instObj C dx)
 ns:h.Ns1 dx mA
 ne:dx≠x
theorem wyb {h:Heap}{dx:Aj}{mA:Str->Option Ag}(n:h.Ns1 dx mA):∃od,h.get? dx=some od/\∀name,W.lookIn name od=some (mA name):=by
 obtain⟨o,es,ep,ho,hd,hk,_,hm⟩:=n;refine⟨o,ho,λname=>?_⟩;have e:=hm name;unfold nsFind findBy at e;rw[<-Array.find?_toList]at e;unfold W.lookIn;rw[hd];dsimp only;split
 .rename_i y q;rw[q]at e;exact bT some e
 .rename_i q;rw[q]at e;have a:es.toList.any (·.refKey)=false:=by rw[List.any_eq_false];intro y hy;obtain⟨z,t,hkey⟩:=hk y (fU.mp hy);simp[DictEntry.refKey,hkey]
  have a':¬ es.toList.any (·.refKey)=true:=by rw[a];exact aJ
  rw[ao a'];exact bT some e
theorem ObjM.look {h:Heap}{x dx C:Aj}{mA:Str->Option Ag}(I:ObjM h x dx C mA):∃od,W.InstAt h x (W.instObj C dx) C (some od)/\∀name,W.lookIn name od=some (mA name) :=
 let ⟨od,ho,hl⟩:=wyb I.ns;⟨od,⟨I.obj,rfl,rfl,ho⟩,hl⟩
section
variable {prog:Ac}{w:Ah}{A:Ae}{E:Ag->Ab->Prop}{s:Ab}{K:Aa}{x dx C f:Aj}{mA:Str->Option Ag}{name:Str}{v:Ag}
theorem xjg {expr:Bool}{Q:Ag->Ab->Prop}(X:K.In s.heap)(I:ObjM s.heap x dx C mA)(hg:W.plainGet K C name=true)(hh:W.hasDictIn K C=true)
  (ha:W.findIn K (.ref C) name=some none) (hv:mA name=some v) (hv':W.handedIn v=true) (h:Q v { s with toks:=s.toks+1 }) :
  wpAny (model prog w) A (getAttr (.ref x) name expr) Q E s:=by
 obtain⟨D,J,z⟩:=I.look;exact W.get_value X J (gk hg).1 (W.findObj_own hh ha rfl (by rw[z,hv])) hv' h
theorem xwj {pl:Sem Bool}{Q:Ag×List Ag->Ab->Prop}(X:K.In s.heap)(I:ObjM s.heap x dx C mA)(hg:W.plainGet K C name=true)
  (hf:W.findIn K (.ref C) name=some (some (.ref f))) (ht:W.isFn K (.ref f)=true) (hv:mA name=none) (h:Q (.ref f,[.ref x]) s) :
  wpAny (model prog w) A (getMethod (.ref x) name pl) Q E s:=by
 obtain⟨z,J,D⟩:=I.look;exact W.method_fn X J (gk hg).1 (gk hg).2 hf (eZ.mp ht) (by show(W.lookIn name z).map (·.isSome)=some false;rw[D,hv];rfl) h
theorem xv9 {ns:List Str}{Q:Unit->Ab->Prop}(X:K.In s.heap)(I:ObjM s.heap x dx C mA)
  (hs:W.findIn K (.ref C) "__setattr__" = some (some (.builtin "object.__setattr__"))) (hp:W.plainOver K C=true) (ht:W.takerIn K C name=some none) (hh:W.hasDictIn K C=true)
  (hw:PySem.Within mA ns) (hsz:ns.length<=sizeLine)
  (h:∀h',ObjM h' x dx C (λy=>if y=name then some v else mA y)->Heap.SameBut dx s.heap h'->Q () { s with heap:=h',toks:=s.toks+2 }) :
  wpAny (model prog w) A (setAttr (.ref x) name v) Q E s:=by
 obtain⟨od,J,hl⟩:=I.look;refine W.set_plain X J hs (W.osa_open (s:={ s with toks:=s.toks+1 }) (r:=none) X J hp ht λb=>?_);obtain⟨cd,hc,Z⟩:=W.any_some hh;have F:s.heap.get? x=some ⟨.ref C,some dx,.plain,#[]⟩:=I.obj;refine ac (ah (ac (ac (wpAny_loadPart F (ac (W.Looks.here (s:={ s with toks:=s.toks+1 }) (W.looks_clsIn X hc) ?_))))));rw[Z];refine ah (a:=some dx) (ac (ah (ac ?_)));refine wpAny_nsSet1 (s:={ s with toks:=s.toks+1 }) I.ns λh' D z=>?_;obtain⟨oD,ad,an,L,U,ab⟩:=D.count (PySem.Within.cons name v hw);refine ac (wpAny_lookBehind L (by rw[U];exact pastItsLine_dict (bo ab (by rw[aB];lia))) ?_);exact ah (h _ ⟨(z.2 _ (cV I.ne)).trans I.obj,D,I.ne⟩ z)
theorem xq4 {R:Result->Ab->Prop}{vs:List Ag}{kw:List (Str×Ag)}(X:K.In s.heap)(hm:W.makesIn K C=true)
  (hi:W.findIn K (.ref C) "__init__" = some (some (.ref f))) (hf:W.typeIn K (.ref f)=some (.type "function"))
  (h:codeAny (model prog w) (A.under (.builtin "type.__call__" ⟨.ref C::vs,kw⟩)) (.call (.ref f) ⟨.ref (s.heap.objs.size+1)::vs,kw⟩) (W.InitBack (s.heap.objs.size+1) R)
   { s with heap:=(s.heap.push W.emptyDict).push (W.instObj C s.heap.objs.size) }) :
  codeAny (model prog w) A (.call (.ref C) ⟨vs,kw⟩) R s:=by
 obtain⟨F,g,d,t,D⟩:=s;exact W.make_core (W.makes_of X hm) (W.looks_findIn X hi) (λz=>W.bind_fn X z hf) (.inl rfl) h
end
def W8 (f:Str)(v:V):List (Str×V)->List (Str×V)
 |[]=>[(f,v)]
 |(g,x)::r=>if g=f then(g,v)::r else(g,x)::W8 f v r
theorem qqf (f g:Str)(v:V):∀fs:List (Str×V),(W8 f v fs).lookup g=if g=f then some v else fs.lookup g
 |[]=>by
  show List.lookup g [(f,v)]=_;by_cases h:g=f
  .have hb:(g==f)=true:=eZ.mpr h;simp only[List.lookup,hb,aw h]
  .have hb:(g==f)=false:=bZ.mpr h;simp only[List.lookup,hb,ao h]
 |(k,x)::r=>by
  have ih:=qqf f g v r;rw[show W8 f v ((k,x)::r)=(if k=f then(k,v)::r else(k,x)::W8 f v r) from rfl];by_cases hk:k=f
  .rw[aw hk];by_cases h:g=k
   .have hb:(g==k)=true:=eZ.mpr h;simp only[List.lookup,hb,aw (h.trans hk)]
   .have hb:(g==k)=false:=bZ.mpr h;simp only[List.lookup,hb,ao (λe:g=f=>h (e.trans hk.symm))]
  .rw[ao hk];by_cases h:g=k
   .have hb:(g==k)=true:=eZ.mpr h;simp only[List.lookup,hb,ao (λe:g=f=>hk (h.symm.trans e))]
   .have hb:(g==k)=false:=bZ.mpr h;simp only[List.lookup,hb];exact ih
theorem qqu (f:Str)(v:V):∀fs:List (Str×V),f∈(W8 f v fs).map (·.1)/\∀g,g∈fs.map (·.1)->g∈(W8 f v fs).map (·.1)
 |[]=>⟨by simp[W8],λg h=>by simp at h⟩
 |(k,x)::r=>by
  obtain⟨i1,i2⟩:=qqu f v r;rw[show W8 f v ((k,x)::r)=(if k=f then(k,v)::r else(k,x)::W8 f v r) from rfl];by_cases hk:k=f
  .rw[aw hk];subst hk;exact⟨by simp,λg h=>by simpa using h⟩
  .rw[ao hk];refine⟨?_,λg h=>?_⟩
   .rw[aO];exact bu _ i1
   .rw[aO]at h ⊢;rcases aC.mp h with e|e
    .exact aC.mpr (.inl e)
    .exact bu _ (i2 g e)
theorem qqg (f:Str)(v:V):∀fs:List (Str×V),(W8 f v fs).length<=fs.length+1
 |[]=>by simp[W8]
 |(k,x)::r=>by
  have ih:=qqg f v r;rw[show W8 f v ((k,x)::r)=(if k=f then(k,v)::r else(k,x)::W8 f v r) from rfl];by_cases hk:k=f
  .rw[aw hk,aB,aB];lia
  .rw[ao hk,aB,aB];lia
theorem RelO.some_of {v:V}{o:Option Ag}(r:RelO (some v) o):∃u,o=some u/\RelV v u:=by
 cases o with
 |none=>exact(show False from r).elim
 |some u=>exact⟨u,rfl,r⟩
theorem RelO.none_of {o:Option Ag}(r:RelO none o):o=none:=by
 cases o with
 |none=>rfl
 |some u=>exact(show False from r).elim
theorem wyj {v:V}{u:Ag}(r:RelV v u):W.handedIn u=true:=by
 cases v with
 |non=>cases(show u=Value.none from r);rfl
 |bl b=>cases(show u=Value.bool b from r);rfl
 |int i=>obtain⟨t,e⟩:=(show ∃t,u=Value.int i t from r);cases e;rfl
 |str x=>obtain⟨t,e⟩:=(show ∃t,u=Value.str x t from r);cases e;rfl
 |byt b=>obtain⟨t,e⟩:=(show ∃t,u=Value.bytes b t from r);cases e;rfl
 |flt b=>obtain⟨t,e⟩:=(show ∃t,u=Value.float b t from r);cases e;rfl
 |ref a=>cases(show u=Value.ref a from r);rfl
 |ty n=>cases(show u=Value.type n from r);rfl
section
variable {P:Ac}{w:Ah}{H H':Hp}{h h':Heap}{a C dx:Aj}{fs fs':List (Str×V)}
theorem qj8 (hok:HOk P w H h)(e:H a=some (.ins C dx fs)):∃mA,ObjM h a dx C mA/\(∀f,RelO (fs.lookup f) (mA f))/\PySem.Within mA (fs.map (·.1))/\fs.length<=1000/\H dx=some (.own a):=by obtain⟨d,z,F,D,mA,n,r,q⟩:=(show ObjOk P w H h a (.ins C dx fs) from hok a _ e);exact⟨mA,⟨D,n,F⟩,r,q,z,d⟩
end
structure Cls (K:Aa)(C:Aj):Prop where
 pg:W.plainGet K C Str.empty=true
 hd:W.hasDictIn K C=true
 po:W.plainOver K C=true
 sa:W.findIn K (.ref C) "__setattr__" = some (some (.builtin "object.__setattr__"))
theorem Cls.get {K:Aa}{C:Aj}(c:Cls K C)(f:Str):W.plainGet K C f=true:=c.pg
def NoAttr (K:Aa)(C:Aj)(f:Str):Prop:=W.findIn K (.ref C) f=some none
theorem NoAttr.taker {K:Aa}{C:Aj}{f:Str}(n:NoAttr K C f):W.takerIn K C f=some none:=by unfold W.takerIn;rw[show W.findIn K (.ref C) f=some none from n];rfl
structure Con (K:Aa)(C:Aj)(f:Str)(v:V)(u:Ag):Prop where
 at_:W.findIn K (.ref C) f=some (some u)
 rel:RelV v u
 get:W.specialIn K u "__get__" = some none
 cp:W.copiedNames.contains f=false
structure Meth (K:Aa)(C:Aj)(m:Str)(f:Aj):Prop where
 at_:W.findIn K (.ref C) m=some (some (.ref f))
 fn:W.isFn K (.ref f)=true
 kp:W.keepIn K (.ref f)=true
section
variable {X:Cx}{pins:List (Aj×Obj)}{σ:St}{H:Hp}{s:Ab}{a C dx:Aj}{fs:List (Str×V)}{f:Str}{v:V}{A:Ae}{E:Ag->Ab->Prop}
theorem wzx {b:Bool}{Q:Ag->Ab->Prop}(I:Inv X pins σ H s)(e:H a=some (.ins C dx fs))(c:Cls X.K C)(n:NoAttr X.K C f)(l:fs.lookup f=some v)
  (h:∀u s',Inv X pins σ H s'->RelV v u->Q u s'):wpAny (model X.prog X.w) A (getAttr (.ref a) f b) Q E s:=by
 obtain⟨mA,O,r,_,_,_⟩:=qj8 I.hok e;obtain⟨u,D,z⟩:=RelO.some_of (v:=v) (o:=mA f) (by rw[<-l];exact r f);exact xjg I.kIn O (c.get f) c.hd n D (wyj z) (h u _ (I.tok _) z)
theorem qwn {m:Str}{g:Aj}{pl:Sem Bool}{Q:Ag×List Ag->Ab->Prop}(I:Inv X pins σ H s)(e:H a=some (.ins C dx fs))(c:Cls X.K C)(k:Meth X.K C m g)(l:fs.lookup m=none)
  (h:Q (.ref g,[.ref a]) s):wpAny (model X.prog X.w) A (getMethod (.ref a) m pl) Q E s:=by
 obtain⟨mA,O,r,_,_,_⟩:=qj8 I.hok e;have z:mA m=none:=RelO.none_of (by rw[<-l];exact r m);exact xwj I.kIn O (c.get m) k.at_ k.fn z h
theorem wzf {y:V}{u:Ag}{Q:Unit->Ab->Prop}(I:Inv X pins σ H s)(e:H a=some (.ins C dx fs))(c:Cls X.K C)(n:NoAttr X.K C f)(hl:fs.length<1000)(ry:RelV y u)
  (h:∀s',Inv X pins σ (upd H a (.ins C dx (W8 f y fs))) s'->Q () s'):wpAny (model X.prog X.w) A (setAttr (.ref a) f u) Q E s:=by
 obtain⟨mA,O,r,wi,_,F⟩:=qj8 I.hok e;have L:(fs.map (·.1)).length<=sizeLine:=by rw[af,dh];lia
 refine xv9 I.kIn O c.sa c.po n.taker c.hd wi L λh' D J=>h _ ?_;have W:∃o,h'.get? dx=some o:=let ⟨o,_,_,e',_⟩:=D.ns;⟨o,e'⟩;refine I.write (x:=a) (e:=dx) (by rw[e];exact True.intro) (.inr F) (λb q Z z=>(J.2 b Z).trans z) W ?_;refine⟨by rw[wv O.ne];exact F,?_,O.ne,D.obj,_,D.ns,λg=>?_,λg U=>?_⟩
 .have:=qqg f y fs;lia
 .show RelO ((W8 f y fs).lookup g) (if g=f then some u else mA g);rw[qqf];by_cases q:g=f
  .rw[aw q,aw q];exact ry
  .rw[ao q,ao q];exact r g
 .by_cases q:g=f
  .rw[q];exact(qqu f y fs).1
  .refine(qqu f y fs).2 g (wi g λz=>U ?_);show(if g=f then some u else mA g)=none;rw[ao q];exact z
theorem Inv.made (I:Inv X pins σ H s):Inv X pins σ (upd (upd H s.heap.objs.size (.own (s.heap.objs.size+1))) (s.heap.objs.size+1) (.ins C s.heap.objs.size []))
  { s with heap:=(s.heap.push W.emptyDict).push (W.instObj C s.heap.objs.size) }:=by
 have D:(s.heap.push W.emptyDict).get? s.heap.objs.size=some W.emptyDict:=ax s.heap rfl;have U:((s.heap.push W.emptyDict).push (W.instObj C s.heap.objs.size)).get? (s.heap.objs.size+1)=some (W.instObj C s.heap.objs.size):=by have:=ax (s.heap.push W.emptyDict) (o:=W.instObj C s.heap.objs.size) rfl;rwa [cK]at this
 have L:(s.heap.push W.emptyDict).Ns s.heap.objs.size (λ_=>none):=⟨W.emptyDict,#[],_,D,rfl,(λe J=>absurd J (by simp)),λ_=>rfl⟩;have Z:=I.laid (a:=s.heap.objs.size) (o:=.own (s.heap.objs.size+1)) (h':=s.heap.push W.emptyDict) (t':=s.toks) (λb u q=>ag _ q) (ai _) ⟨_,D⟩;refine Z.laid (a:=s.heap.objs.size+1) (o:=.ins C s.heap.objs.size []) (t':=s.toks) (λb u q=>ag _ q) (Nat.le_of_eq (cK _ _)) ?_;have z:s.heap.objs.size≠s.heap.objs.size+1:=ay (dC _);refine⟨by rw[wv z,qh],aK _,z,U,λ_=>none,(Heap.Ns1.of_empty L).at λo q=>ag _ q,λ_=>True.intro,λy F=>absurd rfl F⟩
theorem xkm {prog:Ac}{w:Ah}{env:Env}{e:Expr}{f:Str}{pos:Pos}{s:Ab}{Q:Ag->Ab->Prop}(hb:attributeBase e f env (eval e env)=eval e env)
  (h:wpAny (model prog w) A (eval e env) (λo s₁=>wpAny (model prog w) A (getAttr o f true) Q E s₁) E s):wpAny (model prog w) A (eval (.Attribute e f pos) env) Q E s :=
 Attribute_any_ h (by rw[arm_eval_Attribute,hb])
end
def tFld (K:Aa)(ta:TE)(f:Str):TE:=λσ H Q=>ta σ H λx H1=>∃a C dx fs v,x=.ref a/\H1 a=some (.ins C dx fs)/\Cls K C/\NoAttr K C f/\fs.lookup f=some v/\Q v H1
def sFld (K:Aa)(ta tv:TE)(f:Str):TS:=λD σ H=>tv σ H λy H1=>ta σ H1 λx H2=>∃a C dx fs,x=.ref a/\H2 a=some (.ins C dx fs)/\Cls K C/\NoAttr K C f/\fs.length<1000 /\
 D.nx σ (upd H2 a (.ins C dx (W8 f y fs)))
section
variable {X:Cx}{o e value:Expr}{f:Str}{pos pos' tpos:Pos}{ta tv:TE}
theorem qyb (he:PE X e ta)(hb:attributeBase e f X.env (eval e X.env)=eval e X.env):PE X (.Attribute e f pos) (tFld X.K ta f):=by intro pins s σ H Q I h;refine xkm hb (thn (he pins s σ H _ I h) λu s1 ⟨x,H1,I1,rx,a,C,dx,fs,v,ex,ea,c,n,l,q⟩=>?_);subst ex;obtain rfl:u=Value.ref a:=rx;exact wzx I1 ea c n l λF s2 D z=>⟨v,H1,D,z,q⟩
theorem ps_fld (ha:PE X o ta)(hv:PE X value tv)(hs:swapsWith value (some (.Attribute o f pos')) pos.line X.env=pure false):PS X (.Assign [.Attribute o f pos'] value pos) (sFld X.K ta tv f):=by intro pins s σ H D I h;refine plainObj_wpAny_Assign_Attribute (thn (hv pins s σ H _ I h) λu s1 ⟨y,H1,I1,ry,q⟩=>thn (ha pins s1 σ H1 _ I1 q) λov s2 ⟨x,H2,I2,rx,a,C,dx,fs,ex,ea,c,n,l,q2⟩=>?_) hs;subst ex;obtain rfl:ov=Value.ref a:=rx;exact wzf I2 ea c n l ry λF z=>⟨σ,_,z,q2⟩
end
section
variable {X:Cx}{pins:List (Aj×Obj)}{σ:St}{H:Hp}{s:Ab}{A:Ae}{E:Ag->Ab->Prop}{Q:Ag->Ab->Prop}{c:Ag}{b:Bool}
inductive TyOf (K:Aa) (H:Hp):V->Ag->Prop where
 |non:TyOf K H .non (.type "NoneType")
 |bl (x:Bool):TyOf K H (.bl x) (.type "bool")
 |int (i:Int):TyOf K H (.int i) (.type "int")
 |str (x:Str):TyOf K H (.str x) (.type "str")
 |flt (x:UInt64):TyOf K H (.flt x) (.type "float")
 |lst {a:Aj} {xs:List V} (e:H a=some (.lst xs)):TyOf K H (.ref a) (.type "list")
 |frz {a:Aj} {o:Obj} {xs:List V} (e:H a=some (.frz o (.lst xs))):TyOf K H (.ref a) (.type "list")
 |tup {a:Aj} {xs:List V} (e:H a=some (.tup xs)):TyOf K H (.ref a) (.type "tuple")
 |dK {a:Aj} {kvs:List (Key×V)} (e:H a=some (.dK kvs)):TyOf K H (.ref a) (.type "dict")
 |dT {a:Aj} {kvs:List (List Key×V)} (e:H a=some (.dT kvs)):TyOf K H (.ref a) (.type "dict")
 |ins {a C dx:Aj} {fs:List (Str×V)} (e:H a=some (.ins C dx fs)) (cl:Cls K C) (ha:W.findIn K (.ref C) "__class__" = some (some (.builtin "object.__class__")))
   (hn:W.specialIn K (.builtin "object.__class__") "__get__" = some (some (.builtin "getset_descriptor.__get__"))) (htk:W.takesIn K (.builtin "object.__class__")=some true)
   (hm:W.mroIn K C (.type "object")=some true):TyOf K H (.ref a) (.ref C)
end
structure Room (k:Nat)(A:Ae):Prop where
 hd:A.handled=none
 dp:A.depth+3*k+5<recursionLimit
 un:A.units+16*k+200<cLine
theorem Room.mono {j k:Nat}{A:Ae}(r:Room k A)(h:j<=k):Room j A:=⟨r.hd,by have:=r.dp;lia,by have:=r.un;lia⟩
theorem Room.deeper {k:Nat}{A:Ae}(r:Room (k+1) A)(env:Env):Room k (A.deeper env) :=
 ⟨r.hd,by have:=r.dp;show A.depth+1+3*k+5<_;lia,by have:=r.un;show A.units+3+16*k+200<_;lia⟩
theorem Room.in1 {k:Nat}{A:Ae}(r:Room (k+1) A):Room k A.in1 :=
 ⟨r.hd,by have:=r.dp;show A.depth+3*k+5<_;lia,by have:=r.un;show A.units+1+16*k+200<_;lia⟩
theorem wvv {A:Ae}{C:Aj}{us:List Ag}{kw:List (Str×Ag)}:(A.under (.builtin "type.__call__" ⟨.ref C::us,kw⟩)).depth=A.depth+1:=by
 first | rfl | simp[Around.under,Code.weight,Code.isCreation,Code.isGuard,Code.isCaller,Code.frames,Code.isFrame,guardIds]
theorem wz5 {A:Ae}{C:Aj}{us:List Ag}{kw:List (Str×Ag)}:(A.under (.builtin "type.__call__" ⟨.ref C::us,kw⟩)).units=A.units+1:=by
 first | rfl | simp[Around.under,Code.cUnits,Code.frames,Code.isFrame]
theorem Room.make {k:Nat}{A:Ae}(r:Room (k+1) A)(C:Aj)(us:List Ag)(kw:List (Str×Ag)):Room k (A.under (.builtin "type.__call__" ⟨.ref C::us,kw⟩)) :=
 ⟨r.hd,by have:=r.dp;rw[wvv];lia,by have:=r.un;rw[wz5];lia⟩
theorem Room.depth {k:Nat}{A:Ae}(r:Room k A):A.depth<recursionLimit:=by have:=r.dp;lia
theorem Room.units {k:Nat}{A:Ae}(r:Room k A):A.units+64<cLine:=by have:=r.un;lia
theorem Room.units0 {k:Nat}{A:Ae}(r:Room k A):A.units<cLine:=by have:=r.un;lia
def qw6:TA:=λ_ H Q=>Q [] H
def v8 (ta:TE)(tr:TA):TA:=λσ H Q=>ta σ H λx H1=>tr σ H1 λxs H2=>Q (x::xs) H2
section
variable {X:Cx}{e:Expr}{es:List Expr}{te:TE}{t:TA}{pos:Pos}
theorem qk:PA X [] qw6:=λ_ _ _ _ H Q I h=>hX ⟨[],H,I,.nil,h⟩
theorem z9 (ha:PE X e te)(hr:PA X es t)(hs:autoParam (starEach (e::es) X.env=(false,eval e X.env)::starEach es X.env) aU4._auto_1):PA X (e::es) (v8 te t):=by intro pos pins s σ H Q I h;rw[hs];show wpAny _ _ (spliced ((false,eval e X.env)::backTo pos (starEach es X.env))) _ _ s;refine gD (thn (ha pins s σ H _ I h) λu s1 ⟨x,H1,I1,r1,q1⟩=>?_);exact thn (hr pos pins s1 σ H1 _ I1 q1) λus s2 ⟨xs,H2,I2,r2,q2⟩=>⟨x::xs,H2,I2,.cons r1 r2,q2⟩
def tTup (t:TA):TE:=λσ H Q=>t σ H λxs H1=>xs.length<=sizeLine/\∀p,H1 p=none->Q (.ref p) (upd H1 p (.tup xs))
def tLst (t:TA):TE:=λσ H Q=>t σ H λxs H1=>xs.length<=sizeLine/\∀p,H1 p=none->Q (.ref p) (upd H1 p (.lst xs))
theorem z7 {x1}(h:PA X es t):PE X (.Tuple es x1 pos) (tTup t):=by intro pins s σ H Q I D;refine wpAny_Tuple_spliced (thn (h pos pins s σ H _ I D) λus s1 ⟨xs,H1,I1,r,z,q⟩=>⟨by rw[<-r.length];exact z,?_⟩);have F:H1 s1.heap.objs.size=none:=I1.hok.fresh (ai _);refine⟨.ref s1.heap.objs.size,upd H1 s1.heap.objs.size (.tup xs),I1.laid (t':=s1.toks) (λb u e=>ag _ e) (ai _) ?_,rfl,q _ F⟩;exact⟨z,us,r,⟨_,ax _ rfl,rfl,_,rfl⟩⟩
theorem k7 (h:PA X es t):PE X (.List es pos) (tLst t):=by intro pins s σ H Q I D;refine wpAny_List_spliced (thn (h pos pins s σ H _ I D) λus s1 ⟨xs,H1,I1,r,z,q⟩=>⟨by rw[<-r.length];exact z,?_⟩);have F:H1 s1.heap.objs.size=none:=I1.hok.fresh (ai _);refine⟨.ref s1.heap.objs.size,upd H1 s1.heap.objs.size (.lst xs),I1.laid (t':=s1.toks) (λb u e=>ag _ e) (ai _) ?_,rfl,q _ F⟩;exact⟨z,us,0,r,ax _ rfl⟩
end
abbrev Sp:=List V->Hp->VK->XK->Prop
abbrev CXT:=List Env->Hp->Ab->XK->Ag->Ab->Prop
structure Env0 (P:Ac)(w:Ah)(K:Aa)(mg:Str->Option Ag)(base:Heap)(A:Ae)(outer:List Env)(s:Ab)(H:Hp):Prop where
 frames:A.frames=some outer
 mod:Mod K mg base
 bs:∀b o,base.get? b=some o->s.heap.get? b=some o/\H b=none
 bsz:base.objs.size<=s.heap.objs.size
 funs:s.heap.FunFrames base outer
 frf:∀b∈frs outer,H b=none
 hok:HOk P w H s.heap
 bare:AllBare s.gens
def CE (outer:List Env)(P:Ac)(w:Ah)(H:Hp)(s:Ab)(Q:VK)(u:Ag)(s':Ab):Prop :=
 ∃v H',s'.os=s.os/\AllBare s'.gens/\Un (frs outer) [] H H' s.heap s'.heap/\HOk P w H' s'.heap/\RelV v u/\Q v H'
def CR (CX:CXT)(outer:List Env)(P:Ac)(w:Ah)(H:Hp)(s:Ab)(Q:VK)(E:XK)(r:Result)(s':Ab):Prop :=
 match r with
 |.ok (.ret u)=>CE outer P w H s Q u s'
 |.ok _=>False
 |.error e=>CX outer H s E e s'
structure FnOk (P:Ac)(w:Ah)(K:Aa)(mg:Str->Option Ag)(base:Heap)(CX:CXT)(k:Nat)(f:Aj)(fd:Ad)(ps:List Str)(sp:Sp):Prop where
 len:∀vs H Q E,sp vs H Q E->vs.length=ps.length
 run:∀(A:Ae) (outer:List Env) (s:Ab) (H:Hp) (args:Args) (us:List Ag) (vs:List V) (Q:VK) (E:XK),Room k A->Env0 P w K mg base A outer s H->BindsTo s fd args (ps.zip us)->Vals vs us->sp vs H Q E ->
  codeAny (model P w) A (.call (.ref f) args) (CR CX outer P w H s Q E) s
theorem Env0.make {P:Ac}{w:Ah}{K:Aa}{mg:Str->Option Ag}{base:Heap}{A:Ae}{outer:List Env}{s:Ab}{H:Hp}(e:Env0 P w K mg base A outer s H)(C:Aj)(us:List Ag)(kw:List (Str×Ag)) :
  Env0 P w K mg base (A.under (.builtin "type.__call__" ⟨.ref C::us,kw⟩)) outer s H:=⟨by first | exact e.frames | (simpa [Around.under,Code.envs,Code.isFrame,pushEnvs] using e.frames),e.mod,e.bs,e.bsz,e.funs,e.frf,e.hok,e.bare⟩
theorem Env0.in1 {P:Ac}{w:Ah}{K:Aa}{mg:Str->Option Ag}{base:Heap}{A:Ae}{outer:List Env}{s:Ab}{H:Hp}(e:Env0 P w K mg base A outer s H) :
  Env0 P w K mg base A.in1 outer s H:=⟨e.frames,e.mod,e.bs,e.bsz,e.funs,e.frf,e.hok,e.bare⟩
section
variable {X:Cx}{pins:List (Aj×Obj)}{σ:St}{H:Hp}{s s':Ab}
theorem Inv.env0 (I:Inv X pins σ H s):Env0 X.prog X.w X.K X.mg X.base X.A X.stack s H :=
 ⟨I.ok.frames,I.ok.mod,I.bs,bo I.ok.bsz I.sz,I.stack,I.stkFree,I.hok,I.bare⟩
theorem Inv.after {Q:VK}{u:Ag}(I:Inv X pins σ H s)(h:CE X.stack X.prog X.w H s Q u s'):EP X pins σ Q u s':=by obtain⟨v,H',J,W,D,L,r,q⟩:=h;obtain⟨U,g,d,t,F⟩:=s';obtain rfl:F=s.os:=J;exact⟨v,H',I.call (h':=U) (g':=g) (d':=d) (t':=t) (ch:=[]) D L W (λb z=>absurd z (by simp)),r,q⟩
end
def Binds (K:Aa)(fd:Ad)(ps:List Str)(ds:List Ag):Prop :=
 ∀(s:Ab) (us:List Ag),K.In s.heap->(us++ds).length=ps.length->BindsTo s fd ⟨us,[]⟩ (ps.zip (us++ds))
theorem Binds.all {K:Aa}{fd:Ad}{ps:List Str}(h:∀us:List Ag,us.length=ps.length->bindArgs fd ⟨us,[]⟩=pure (ps.zip us)):Binds K fd ps []:=λs us _ hl=>by rw[bG]at hl ⊢;exact .of_eq (h us hl)
section
variable {X:Cx}{CX:CXT}{k:Nat}{f C:Aj}{fd:Ad}{ps:List Str}{sp:Sp}{dvs:List V}{ds:List Ag}{E:XK}{x m:Str}{p pos apos:Pos}{e o:Expr}{es:List Expr}{ta:TE}{t:TA}
structure Mk (K:Aa)(C f:Aj):Prop where
 makes:W.makesIn K C=true
 init:W.findIn K (.ref C) "__init__" = some (some (.ref f))
 fn:W.isFn K (.ref f)=true
 kp:W.keepIn K (.ref C)=true
end
def PK (X:Cx)(kws:List Keyword)(t:TA):Prop :=
 ∀(pos:Pos) (pins:List (Aj×Obj)) (s:Ab) (σ:St) (H:Hp) (Q:List V->Hp->Prop),Inv X pins σ H s->t σ H Q->wpAny (model X.prog X.w) X.A (evalAll ((backToKw pos (keywordEach kws X.env)).map (·.2))) (AP X pins σ Q) X.xe s
section
variable {X:Cx}{CX:CXT}{k:Nat}{f C:Aj}{fd:Ad}{ps ks:List Str}{sp:Sp}{E:XK}{x m:Str}{p pos apos kpos:Pos}{e o:Expr}{es:List Expr}{kws:List Keyword}{te ta:TE}{t tk:TA}{nm:Option Str}
theorem xx6:PK X [] qw6:=λ_ _ _ _ H Q I h=>wpAny_evalAll_nil ⟨[],H,I,.nil,h⟩
theorem wk8 (ha:PE X e te)(hr:PK X kws t):PK X (⟨nm,e,kpos⟩::kws) (v8 te t):=by intro pos pins s σ H Q I h;show wpAny _ _ (evalAll ((do let v <-eval e X.env;standAt pos;pure v)::(backToKw pos (keywordEach kws X.env)).map (·.2))) _ _ s;refine wpAny_evalAll_cons (ac (thn (ha pins s σ H _ I h) λu s1 ⟨x,H1,I1,r1,q1⟩=>ac (cw (ah ?_))));exact thn (hr pos pins s1 σ H1 _ I1 q1) λus s2 ⟨xs,H2,I2,r2,q2⟩=>⟨x::xs,H2,I2,.cons r1 r2,q2⟩
structure KBinds (K:Aa)(fd:Ad)(ps ks:List Str)(g:List Ag->List Ag->List Ag)(gV:List V->List V->List V):Prop where
 to:∀(s:Ab) (us ws:List Ag),K.In s.heap->(g us ws).length=ps.length->BindsTo s fd ⟨us,ks.zip ws⟩ (ps.zip (g us ws))
 rel:∀ {vs:List V} {us:List Ag} {zs:List V} {ws:List Ag},Vals vs us->Vals zs ws->Vals (gV vs zs) (g us ws)
variable {g:List Ag->List Ag->List Ag}{gV:List V->List V->List V}
end
structure FnScope (N P:List Str)(sc:Scope):Prop where
 kind:sc.kind=.function
 co:sc.isCoroutine=false
 gen:sc.isGenerator=false
 nd:N.Nodup
 pre:N.take P.length=P
 par:∀x∈P,sc.names.lookup x=some .local\/sc.names.lookup x=some .cell
 nofree:∀y∈sc.names,y.2≠.free
theorem qk2 {kindOf:Str->Option NameKind}{x:Str}:∀ {binds:List (Str×Ag)} {m:Str->Option Ag},(∀v,(x,v)∉binds)->bindL kindOf binds m x=m x
 |[],_,_=>rfl
 |(n,v)::r,m,h=>by
  unfold bindL;rw[qk2 λw hw=>h w (bu _ hw)];split
  .have:x≠n:=by rintro rfl;exact h v dj
   simp[this]
  .rfl
theorem qv9 {kindOf:Str->Option NameKind}{x:Str}:∀ {binds:List (Str×Ag)} {m:Str->Option Ag},(∀v,(x,v)∉binds)->bindC kindOf binds m x=m x
 |[],_,_=>rfl
 |(n,v)::r,m,h=>by
  unfold bindC;rw[qv9 λw hw=>h w (bu _ hw)];split
  .rfl
  .have:x≠n:=by rintro rfl;exact h v dj
   simp[this]
theorem qv0 {kindOf:Str->Option NameKind}{x:Str}{v:Ag}:∀ {P:List Str} {vs:List Ag} {i:Nat} {m:Str->Option Ag},P.Nodup->P[i]?=some x->vs[i]?=some v->kindOf x=some .local ->
  bindL kindOf (P.zip vs) m x=some v
 |[],_,_,_,_,h,_,_=>by simp at h
 |_::_,[],_,_,_,_,h,_=>by simp at h
 |p::P,w::vs,0,m,nd,h1,h2,hk=>by simp at h1 h2;subst h1;subst h2;show bindL kindOf ((p,w)::P.zip vs) m p=_;unfold bindL;rw[qk2 λv hv=>(cP.mp nd).1 (iQ hv).1,aw hk];simp
 |p::P,w::vs,i+1,m,nd,h1,h2,hk=>by show bindL kindOf ((p,w)::P.zip vs) m x=_;unfold bindL;exact qv0 (i:=i) (cP.mp nd).2 (by simpa using h1) (by simpa using h2) hk
theorem qks {kindOf:Str->Option NameKind}{x:Str}{v:Ag}:∀ {P:List Str} {vs:List Ag} {i:Nat} {m:Str->Option Ag},P.Nodup->P[i]?=some x->vs[i]?=some v->kindOf x≠some .local ->
  bindC kindOf (P.zip vs) m x=some v
 |[],_,_,_,_,h,_,_=>by simp at h
 |_::_,[],_,_,_,_,h,_=>by simp at h
 |p::P,w::vs,0,m,nd,h1,h2,hk=>by simp at h1 h2;subst h1;subst h2;show bindC kindOf ((p,w)::P.zip vs) m p=_;unfold bindC;rw[qv9 λv hv=>(cP.mp nd).1 (iQ hv).1,ao hk];simp
 |p::P,w::vs,i+1,m,nd,h1,h2,hk=>by show bindC kindOf ((p,w)::P.zip vs) m x=_;unfold bindC;exact qks (i:=i) (cP.mp nd).2 (by simpa using h1) (by simpa using h2) hk
def Q4 (N:List Str)(vs:List V):St:=vs.map some++List.replicate (N.length-vs.length) none
def Yp (CX:CXT)(P:Ac)(w:Ah)(K:Aa)(mg:Str->Option Ag)(base:Heap)(N:List Str)(qual:Str)(scope:Scope)(f:Aj)(cd:Ag)(A:Ae)(outer:List Env)(s:Ab)(H:Hp)(E:XK):Cx where
 prog:=P
 w:=w
 K:=K
 mg:=mg
 base:=base
 A:=A.deeper (envOfC qual scope s.heap.objs.size f cd)
 N:=N
 s₀:=s
 H₀:=H
 env:=envOfC qual scope s.heap.objs.size f cd
 outer:=outer
 stack:=envOfC qual scope s.heap.objs.size f cd::outer
 ex:=[]
 calm:=true
 fn:=λ_=>true
 pn:=[]
 xe:=λe s'=>wpAny (model P w) (A.deeper (envOfC qual scope s.heap.objs.size f cd)) (leaving (envOfC qual scope s.heap.objs.size f cd) e) (λ_ s''=>CX outer H s E e s'') (λe' s''=>CX outer H s E e' s'') s'
theorem wqt {sc:Scope}{n:Nat}{x:Str}(h:sc.names.lookup x=some .cell):∃c,(cellsFrom n sc.names []).lookup x=some c:=by have q:=W.cellsFrom_some sc.names n [] (.inl h);exact Option.isSome_iff_exists.mp q
theorem wum {CX:CXT}{P:Ac}{w:Ah}{K:Aa}{mg:Str->Option Ag}{base:Heap}{N ps:List Str}{qual:Str}{scope:Scope}{f:Aj}{cd:Ag}{A:Ae}{outer:List Env}{s s1:Ab}{H:Hp}{E:XK}{us:List Ag}{vs:List V}
  (S:FnScope N ps scope) (hd:A.handled=none) (e0:Env0 P w K mg base A outer s H) (hl:vs.length=ps.length) (r:Vals vs us)
  (x:InCallC s s.heap.objs.size (bindL (envOfC qual scope s.heap.objs.size f cd).kindOf (ps.zip us) λ_=>none) (cellsFrom (s.heap.objs.size+1) scope.names []) (bindC (envOfC qual scope s.heap.objs.size f cd).kindOf (ps.zip us) λ_=>none) s1) :
  Inv (Yp CX P w K mg base N qual scope f cd A outer s H E) [] (Q4 N vs) H s1:=by
 have ab:ps.length<=N.length:=by have:=bT List.length S.pre;rw[bv]at this;lia
 obtain⟨h1,tk,rfl,W⟩:=x.done;have J:∀b:Aj,b∉(Yp CX P w K mg base N qual scope f cd A outer s H E).ex:=λb z=>absurd (show b∈([]:List Aj) from z) (by simp);refine⟨⟨e0.mod,S.kind,rfl,rfl,ai _,λy z c h1 h2=>?_,λy D=>?_,λy c _ h=>?_,λ_=>hd,Around.frames_deeper e0.frames,.inr ⟨rfl,rfl⟩,λb z=>absurd z (J b),e0.bs,e0.bsz,λb _ _=>J b,λb z=>absurd z (J b),e0.funs,e0.frf⟩,
  rfl,e0.bare,Un.kept W,⟨_,x.toInCall.ns,λi y v h1 h2 h3=>?_⟩,λy c h=>⟨_,x.cell y c h⟩,e0.hok.fresh (ai _),λy c h=>?_,λp F=>absurd (show p∈([]:List (Aj×Obj)) from F) (by simp),e0.hok.kept W,?_⟩
 .exact name_of_addr x.apart (cZ h1) (cZ h2)
 .have D:scope.names.lookup y=some .cell\/scope.names.lookup y=some .free:=D;rcases D with D|D
  .exact wqt D
  .exact absurd rfl (S.nofree _ (cZ D))
 .exact ba (x.above y c (cZ h))
 .have hi:i<vs.length:=by
   unfold Q4 at h2;by_cases hi:i<vs.length
   .exact hi
   .rw[aF (by simpa using hi)]at h2;rw[List.getElem?_replicate]at h2;split at h2 <;> cases h2
  have ha:vs[i]?=some v:=by
   unfold Q4 at h2;rw[aS (by simpa using hi),av]at h2;cases e:vs[i]? with
   |none=>rw[e]at h2;cases h2
   |some a=>rw[e]at h2;cases h2;rfl
  obtain⟨u,U,Z⟩:=r.get ha;have F:ps[i]?=some y:=by rw[<-S.pre,ig ⋯];exact h1
  have L:ps.Nodup:=by rw[<-S.pre];exact S.nd.sublist (List.take_sublist _ _)
  refine⟨u,Z,?_⟩;rcases S.par y (aL F) with k|k
  .exact .inl ⟨k,qv0 L F U k⟩
  .obtain⟨c,e⟩:=wqt (n:=s.heap.objs.size+1) k;refine .inr ⟨.inl k,c,e,?_⟩;have q:=x.cell y c e;rw[qks L F U (by show scope.names.lookup y≠_;rw[k];decide)]at q;exact q
 .exact e0.hok.fresh (ba (x.above y c (cZ h)))
 .unfold Q4;show _=N.length;rw[ar,af,List.length_replicate];lia
theorem xvc {CX:CXT}{P:Ac}{w:Ah}{K:Aa}{mg:Str->Option Ag}{base:Heap}{k:Nat}{f:Aj}{name qual:Str}{params:Arguments}{body:List Stmt}{scope:Scope}{dV kV doc pm cdv ct oc:Ag}{an od:Option Aj}
  {osl:Array (Option Ag)} {N ps:List Str} {sp:Sp} (lk:K.lookup f=some ⟨oc,od,.func (W.fnOf name qual params body scope dV kV doc pm an cdv ct),osl⟩) (hcd:W.codeIn K cdv qual=true) (S:FnScope N ps scope)
  (len:∀vs H Q E,sp vs H Q E->vs.length=ps.length)
  (hbody:∀(A:Ae) (outer:List Env) (s:Ab) (H:Hp) (vs:List V) (Q:VK) (E:XK),Room k (A.deeper (envOfC qual scope s.heap.objs.size f cdv))->sp vs H Q E ->
   ∃t,PSs (Yp CX P w K mg base N qual scope f cdv A outer s H E) body t/\t { nx:=λ_ H'=>Q .non H',rt:=Q } (Q4 N vs) H) :
  FnOk P w K mg base CX (k+1) f (W.fnOf name qual params body scope dV kV doc pm an cdv ct) ps sp:=by
 refine⟨len,λA outer s H a0 us vs Q E L z hb r Z=>?_⟩;have hl:=len _ _ _ _ Z;have KX:K.In s.heap:=z.mod.kin.keeps λb o e=>(z.bs b o e).1;have ad:s.heap.NoLimit:=z.mod.nolimit.keeps λb o e=>(z.bs b o e).1;have ap:∀y∈ps.zip us,scope.names.lookup y.1=some .local\/(scope.names.lookup y.1=some .cell/\((cellsFrom (s.heap.objs.size+1) scope.names []).lookup y.1).isSome=true):=λ⟨n,v⟩ hy=>by
  rcases S.par n (iQ hy).1 with q|q
  .exact .inl q
  .exact .inr ⟨q,W.cellsFrom_some _ _ _ (.inl q)⟩
 refine codeAny_call_function L.depth (KX _ _ lk) rfl S.co S.gen rfl (W.codeRec_of KX hcd) (hb _ _ _ _ ?_);refine wpAny_newFunctionEnv_cells S.kind ap λas he U x=>?_;subst he;refine⟨ad.keeps x.toInCall.keep,codeAny_func ?_⟩;obtain⟨t,ht,hq⟩:=hbody A outer s H vs Q E (L.deeper _) Z;have I:Inv (Yp CX P w K mg base N qual scope f cdv A outer s H E) [] (Q4 N vs) H U:=wum S L.hd z hl r x;refine aP (ht [] U (Q4 N vs) H _ I hq) (λfl s' hs=>?_) λe s' hs=>hs;have ab:∀ {D:St} {H':Hp} {v:V} {u:Ag},Inv (Yp CX P w K mg base N qual scope f cdv A outer s H E) [] D H' s'->RelV v u->Q v H'->CE outer P w H s Q u s' :=
  λ{D H' v u} J F q=>⟨v,H',J.os,J.bare,J.base,J.hok,F,q⟩
 cases fl with
 |ret u =>
  obtain⟨v,D,H',J,F,q⟩:=hs;exact ab J F q
 |next =>
  obtain⟨D,H',J,q⟩:=hs;exact ab (v:=V.non) (u:=Value.none) J rfl q
 |brk =>
  obtain⟨_,_,_,q⟩:=hs;exact False.elim q
 |cont =>
  obtain⟨_,_,_,q⟩:=hs;exact False.elim q
section
variable {X:Cx}{x:Str}{p pos:Pos}{e:Expr}{es:List Expr}{t:TA}{id T:String}{r:List V->Hp->VK->Prop}
def tCB (r:List V->Hp->VK->Prop)(t:TA):TE:=λσ H Q=>t σ H λvs H1=>r vs H1 Q
theorem xv (hc:yx X (.builtin id) r)(hg:Gl X x)(hm:X.mg x=none)(hv:bootBuiltins x=some (.builtin id))(ha:PA X (e::es) t)(hn:autoParam (x ≠ "__name__") aU2._auto_1)(hdb:autoParam ((x==("__debug__" : Str))=false) aU1._auto_1)
  (he:autoParam (starEach (e::es) X.env=(false,eval e X.env)::starEach es X.env) aU4._auto_1) (hpl:autoParam ((backTo pos (starEach es X.env)).any (·.1)=false) aU4._auto_1):PE X (.Call (.Name x p) (e::es) [] pos) (tCB r t):=by
 intro pins s σ H Q I h;refine ca (jb I hg hm hv ?_ hn hdb);exact PyProof.Rows.callWith_builtin1 (thn (ha pos pins s σ H _ I h) λus s1 ⟨vs,H1,I1,r1,q1⟩=>hc pins s1 σ H1 vs us Q I1 r1 q1) he hpl
theorem Jj (hc:yx X (.type T) r)(hg:Gl X x)(hm:X.mg x=none)(hv:bootBuiltins x=some (.type T))(ha:PA X (e::es) t)(hn:autoParam (x ≠ "__name__") aU2._auto_1)(hdb:autoParam ((x==("__debug__" : Str))=false) aU1._auto_1)
  (he:autoParam (starEach (e::es) X.env=(false,eval e X.env)::starEach es X.env) aU4._auto_1) (hpl:autoParam ((backTo pos (starEach es X.env)).any (·.1)=false) aU4._auto_1):PE X (.Call (.Name x p) (e::es) [] pos) (tCB r t):=by
 intro pins s σ H Q I h;refine ca (jb I hg hm hv ?_ hn hdb);exact bi (thn (ha pos pins s σ H _ I h) λus s1 ⟨vs,H1,I1,r1,q1⟩=>hc pins s1 σ H1 vs us Q I1 r1 q1) he hpl
end
end L2
namespace HT
open PySem PyProof.Rows
def lexLt:List Int->List Int->Bool
 |[],[]=>false
 |[],_::_=>true
 |_::_,[]=>false
 |x::xs,y::ys=>if x=y then lexLt xs ys else decide (x<y)
theorem lexLt_cons (x y:Int)(xs ys:List Int):lexLt (x::xs) (y::ys)=if x=y then lexLt xs ys else decide (x<y):=rfl
theorem qz4:lexLt [] []=false:=rfl
theorem qwp (y:Int)(ys:List Int):lexLt [] (y::ys)=true:=rfl
theorem qx7 (x:Int)(xs:List Int):lexLt (x::xs) []=false:=rfl
theorem xvp (A:Ae)(s:Ab)(a:Int)(t:Tok)(c:Int)(u:Tok):∃e,SeqAt.EqAt A s (.int a t) (.int c u) e/\(e=true↔a=c) :=
 ⟨(a==c),gE a t c u,by simp⟩
theorem xvh (A:Ae)(s:Ab)(a:Int)(t:Tok)(c:Int)(u:Tok)(prog:Ac)(w:Ah)(E:Ag->Ab->Prop)(Q:Ag->Ab->Prop)(h:Q (.bool (decide (a<c))) s) :
  wpAny (model prog w) A (richCompare .Lt (.int a t) (.int c u)) Q E s :=
 (PyProof.Rows.lt_int h:wpAny (model prog w) A (compareOp .Lt (.int a t) (.int c u)) Q E s)
section
open PySem.SeqAt
open PySem.AutoSeq1 (wpAny_loadPart')
open PySem.MeetsSeq PySem.MeetsSeq2 PySem.MeetsSeq3
theorem qvn (l b:Aj)(items items2:Array Ag)(n n2:Nat)(dd dd2:Option Aj)(sl sl2:Array (Option Ag))(ns ms:List Int)(hi:IntsAre items.toList ns)(hj:IntsAre items2.toList ms) :
  Meets (Builtin.«tuple.__lt__» ⟨[.ref l,.ref b],[]⟩)
   (λ_ R s=>s.heap.get? l=some { cls:=.type "tuple",dict:=dd,data:=.seq items n,slots:=sl }/\s.heap.get? b=some { cls:=.type "tuple",dict:=dd2,data:=.seq items2 n2,slots:=sl2 } /\
    R (.ok (.ret (.bool (lexLt ns ms)))) s) :=
 .of_wp λprog w A R s h=>by
  obtain⟨hp,g,d,tk,os⟩:=s;obtain⟨hl,hb,h⟩:=h;have f2:=AutoSeq1.sub_tuple_tuple;have z1:items.size=ns.length:=by rw[<-hi.length];simp
  have z2:items2.size=ms.length:=by rw[<-hj.length];simp
  wp_walk using wpAny_loadPart' hl,wpAny_loadPart' hb,fM _ (λrest b s'=>b.1=none/\s'=⟨hp,g,d,tk,os⟩/\∃(vs ws:List Ag) (ns' ms':List Int),rest=vs.zip ws /\
   IntsAre vs ns'/\IntsAre ws ms'/\ns'.length+items2.size=ms'.length+items.size/\R (.ok (.ret (.bool (lexLt ns' ms')))) ⟨hp,g,d,tk,os⟩) _
  case turn =>
   rintro⟨y,x⟩ rest b s' ⟨hb',rfl,vs,ws,ns',ms',hz,hvi,hwi,hlen,hR⟩;cases hvi with
   |nil=>rw[List.zip_nil_left]at hz;cases hz
   |cons a t hvi' =>
    cases hwi with
    |nil=>rw[List.zip_nil_right]at hz;cases hz
    |cons c u hwi' =>
     rw[gF]at hz;injection hz with hyx hrest
     injection hyx with hy hx
     subst hy hx;rw[lexLt_cons]at hR;simp only[aB]at hlen;obtain⟨e,he,hiff⟩:=xvp A.in1 ⟨hp,g,d,tk,os⟩ a t c u;refine ac (he prog w _ _ ?_);cases e with
     |true =>
      rw[aw (hiff.mp rfl)]at hR;wp_walk;exact⟨rfl,rfl,_,_,_,_,hrest,hvi',hwi',⋯,hR⟩
     |false =>
      rw[ao (λq=>absurd (hiff.mpr q) aJ)]at hR;have hri:=xvh A.in1 ⟨hp,g,d,tk,os⟩ a t c u prog w;wp_walk using hri;exact⟨_,rfl,by simpa using hR⟩
  case fin =>
   rintro⟨b1,b2⟩ s' ⟨hb',rfl,vs,ws,ns',ms',hz,hvi,hwi,hlen,hR⟩;simp only at hb';subst hb';have hv:lexLt ns' ms'=decide (items.size<items2.size):=by
    cases hvi with
    |nil =>
     cases hwi with
     |nil =>
      simp only[bA]at hlen;rw[qz4];exact(aX ⋯).symm
     |cons c u hw =>
      simp only[bA,aB]at hlen;rw[qwp];exact(aM ⋯).symm
    |cons a t hv =>
     cases hwi with
     |nil =>
      simp only[bA,aB]at hlen;rw[qx7];exact(aX ⋯).symm
     |cons c u hw =>
      rw[gF]at hz;cases hz
   rw[hv]at hR;wp_walk;exact⟨_,rfl,by simpa [Builtin.Tuple.tupleCompareSizes] using hR⟩
  case h =>
   exact⟨rfl,rfl,items.toList,items2.toList,ns,ms,rfl,hi,hj,⋯,h⟩
end
section
variable {prog:Ac}{w:Ah}{A:Ae}{E:Ag->Ab->Prop}{s:Ab}
theorem lt_tupInts {l b:Aj}{items items2:Array Ag}{ns ms:List Int}{Q:Ag->Ab->Prop}(hl:IsTup s.heap l items)(hb:IsTup s.heap b items2)(hi:IntsAre items.toList ns)(hj:IntsAre items2.toList ms)
  (hu:A.units<cLine) (h:Q (.bool (lexLt ns ms)) s):wpAny (model prog w) A (compareOp .Lt (.ref l) (.ref b)) Q E s:=by
 obtain⟨⟨as,dd,an,sl⟩,D,W,n,L⟩:=id hl;obtain⟨⟨ap,ab,ad,Z⟩,z,U,n2,J⟩:=id hb;simp only at W L U J;subst W L U J;exact richCompare_meets_room (op:=.Lt) ⟨_,D,rfl⟩ ⟨_,z,rfl⟩ PySem.F.slot_tuple_lt PySem.F.entry_tuple_lt (PySem.F.args_tuple_lt_2 _ _) (qvn l b items items2 n n2 dd ab sl Z ns ms hi hj)
  ⟨D,z,show Value.bool (lexLt ns ms)≠Value.notImplemented/\Q (.bool (lexLt ns ms)) s from ⟨(λx=>nomatch x),h⟩⟩ hu
theorem cat_tup {t b:Aj}{vs ws:List Ag}{Q:Ag->Ab->Prop}(ht:IsTup s.heap t vs.toArray)(hb:IsTup s.heap b ws.toArray)(hv:vs≠[])
  (h1:ws=[]->Q (.ref t) s) (h2:ws≠[]->Q (.ref s.heap.objs.size) { s with heap:=s.heap.push { cls:=.type "tuple",data:=.seq (vs++ws).toArray } })
  (hsz:vs.length+ws.length<=sizeLine):wpAny (model prog w) A (binaryOp .Add (.ref t) (.ref b)) Q E s:=by
 obtain⟨⟨cls,dd,data,J⟩,D,hc,n,W⟩:=id ht;obtain⟨⟨an,ab,ad,F⟩,z,Z,L,U⟩:=id hb;simp only at hc W Z U;subst hc W Z U;have e:vs.toArray++ws.toArray=(vs++ws).toArray:=by simp
 by_cases hw:ws=[]
 .exact concat_meets ⟨_,D,rfl⟩ ⟨_,z,rfl⟩ iA seq_tuple_add fu fi (eQ _ _)
   (tuple_addW1 t b vs.toArray ws.toArray n L dd ab J F (by simpa using hv) (by simp[hw])) ⟨D,z,h1 hw⟩
 .refine concat_meets ⟨_,D,rfl⟩ ⟨_,z,rfl⟩ iA seq_tuple_add fu fi (eQ _ _)
   (tuple_addW2 t b vs.toArray ws.toArray n L dd ab J F (by simpa using hv) (by simpa using hw) (by rw[aq,aq];exact hsz)) ⟨D,z,?_⟩
  rw[e];exact h2 hw
def sIx (n d:Nat):Option Int->Nat
 |none=>d
 |some v=>if v<0 then(v+(n:Int)).toNat else min v.toNat n
end
end HT
namespace L2
open PySem PySem.Spec PyProof.Rows
abbrev TO:=St->Hp->(Option Int->Hp->Prop)->Prop
def PO (X:Cx)(e:Option Expr)(t:TO):Prop :=
 ∀(pins:List (Aj×Obj)) (s:Ab) (σ:St) (H:Hp) (Q:Option Int->Hp->Prop),Inv X pins σ H s->t σ H Q ->
  wpAny (model X.prog X.w) X.A (evalPart e X.env) (λu s'=>∃o H',Inv X pins σ H' s'/\IsPart u o/\Q o H') X.xe s
def xj6:TO:=λ_ H Q=>Q none H
def tPart (t:TE):TO:=λσ H Q=>t σ H λx H1=>∃i,x=.int i/\Q (some i) H1
theorem ju {ns:List Int}:∀ {us:List Ag},Vals (ns.map V.int) us->IntsAre us ns:=by
 induction ns with
 |nil=>intro us r;rw[du]at r;cases r;exact .nil
 |cons n ns ih =>
  intro us r;rw[aO]at r;cases r with
  |cons r1 r2 =>
   obtain⟨t,e⟩:=r1;subst e;exact .cons n t (ih r2)
section
variable {X:Cx}{e:Expr}{te:TE}{lo hi:Option Expr}{tl th:TO}{pos p2:Pos}
theorem qyk:PO X none xj6:=by intro pins s σ H Q I h;rw[evalPart_none];exact ah ⟨none,H,I,.none,h⟩
theorem qjf (h:PE X e te):PO X (some e) (tPart te):=by intro pins s σ H Q I z;rw[evalPart_some];refine thn (h pins s σ H _ I z) λu s1 ⟨x,H1,I1,r1,q1⟩=>?_;obtain⟨i,rfl,q⟩:=q1;obtain⟨t,rfl⟩:=r1;exact⟨some i,H1,I1,.int i t,q⟩
def SlR (X:Cx)(r:V->Option Int->Option Int->Hp->VK->Prop):Prop :=
 ∀(pins:List (Aj×Obj)) (s:Ab) (σ:St) (H:Hp) (x:V) (v vl vu:Ag) (lo hi:Option Int) (sl:Aj) (Q:VK),Inv X pins σ H s->RelV x v->s.heap.IsSliceOf sl vl vu .none->IsPart vl lo->IsPart vu hi->r x lo hi H Q ->
  ∃T id,typeLookup (.type T) "__getitem__" = pure (some (.builtin id))/\s.TypeIs v T/\wpAny (model X.prog X.w) X.A (getItem v (.ref sl)) (EP X pins σ Q) X.xe s
def tSl (r:V->Option Int->Option Int->Hp->VK->Prop)(te:TE)(tl th:TO):TE:=λσ H Q=>te σ H λx H1=>tl σ H1 λl H2=>th σ H2 λu H3=>r x l u H3 Q
theorem qwd {r:V->Option Int->Option Int->Hp->VK->Prop}(hr:SlR X r)(he:PE X e te)(hl:PO X lo tl)(hu:PO X hi th):PE X (.Subscript e (.Slice lo hi none p2) pos) (tSl r te tl th):=by intro pins s σ H Q I h;refine Subscript_ (thn (he pins s σ H _ I h) λv s1 ⟨x,H1,I1,r1,q1⟩=>?_);refine wpAny_Slice (thn (hl pins s1 σ H1 _ I1 q1) λvl s2 ⟨l,H2,I2,pl,q2⟩=>thn (hu pins s2 σ H2 _ I2 q2) λvu s3 ⟨u,H3,I3,pu,q3⟩=>?_);rw[evalPart_none];refine ah ?_;have F:Inv X pins σ H3 { s3 with heap:=s3.heap.push { cls:=.type "slice",data:=.fields #[vl,vu,.none] } }:=I3.kept (t':=s3.toks) λb J q=>ag _ q;obtain⟨T,id,hT,z,D⟩:=hr pins { s3 with heap:=s3.heap.push { cls:=.type "slice",data:=.fields #[vl,vu,.none] } } σ H3 x v vl vu l u s3.heap.objs.size Q F r1 (Heap.IsSliceOf.new ..) pl pu q3;show wpAny (model X.prog X.w) X.A (subscriptTail e (.Slice lo hi none p2) v (.ref s3.heap.objs.size)) (EP X pins σ Q) X.xe { s3 with heap:=s3.heap.push { cls:=.type "slice",data:=.fields #[vl,vu,.none] } };exact tail_any (ops:=[.ref s3.heap.objs.size,v]) z hT D (by with_unfolding_all rfl)
def cutV (xs:List V)(lo hi:Option Int):List V:=(xs.drop (HT.sIx xs.length 0 lo)).take (HT.sIx xs.length xs.length hi-HT.sIx xs.length 0 lo)
theorem wqd (xs:List V)(lo hi:Option Int):(cutV xs lo hi).length<=xs.length:=by unfold cutV;rw[bv,bI];lia
def rLtT (K:Aa):R2:=λx y H Q=>∃a b ns ms,x=.ref a/\y=.ref b/\SqT K H a (ns.map V.int)/\SqT K H b (ms.map V.int)/\Q (.bl (HT.lexLt ns ms)) H
theorem op_ltT (hu:X.A.units<cLine):OpR X (compareOp .Lt) (rLtT X.K):=by intro pins s σ H x y v u Q I F D h;obtain⟨a,b,ns,z,rfl,rfl,ha,hb,q⟩:=h;cases F;cases D;obtain⟨Z,L,U,_⟩:=I.tuple ha;obtain⟨W,J,p2,_⟩:=I.tuple hb;have i1:IntsAre Z.toArray.toList ns:=ju L;have i2:IntsAre W.toArray.toList z:=ju J;exact HT.lt_tupInts U p2 i1 i2 hu ⟨.bl (HT.lexLt ns z),H,I,rfl,q⟩
def rCatT (K:Aa):R2:=λx y H Q=>∃a b xs ys,x=.ref a/\y=.ref b/\SqT K H a xs/\SqT K H b ys/\xs≠[]/\xs.length+ys.length<=sizeLine /\
 (ys=[]->Q (.ref a) H)/\(ys≠[]->∀p,H p=none->Q (.ref p) (upd H p (.tup (xs++ys))))
theorem Vals.nil_iff {xs:List V}{us:List Ag}(r:Vals xs us):us=[]↔xs=[]:=by
 cases r with
 |nil=>simp
 |cons _ _=>simp
theorem xkd:OpR X (binaryOp .Add) (rCatT X.K):=by intro pins s σ H x y v u Q I U L h;obtain⟨a,b,xs,ys,rfl,rfl,ha,hb,hx,J,Z,W⟩:=h;cases U;cases L;obtain⟨ad,F,p1,_⟩:=I.tuple ha;obtain⟨ab,D,p2,_⟩:=I.tuple hb;refine HT.cat_tup p1 p2 (λz=>hx (F.nil_iff.mp z)) (λz=>⟨.ref a,H,I,rfl,Z (D.nil_iff.mp z)⟩) (λz=>?_) (by rw[<-F.length,<-D.length];exact J);refine⟨.ref s.heap.objs.size,_,I.laid (t':=s.toks) (o:=.tup (xs++ys)) (λb ob q=>ag _ q) (ai _) ?_,rfl,W (λw=>z (D.nil_iff.mpr w)) _ (I.hok.fresh (ai _))⟩;exact⟨by rw[ar];exact J,_,F.append D,IsTup.new _ _⟩
end
def ixN (n:Nat)(i:Int):Option Nat:=if 0<=i then(if i<n then some i.toNat else none) else if -(n:Int)<=i then some (i+n).toNat else none
def atI {α:Type}(xs:List α)(i:Int):Option α:=(ixN xs.length i).bind λj=>xs[j]?
theorem xk3 {n:Nat}{i:Int}{j:Nat}(h:ixN n i=some j):seqIndex? i n=some j/\j<n/\-(n:Int)<=i/\i<n:=by
 unfold ixN at h;by_cases h0:0<=i
 .rw[aw h0]at h;by_cases h1:i<n
  .rw[aw h1]at h;have e:i.toNat=j:=ak h;exact⟨by rw[seqIndex_of h0 h1,e],⋯,⋯,h1⟩
  .rw[ao h1]at h;cases h
 .rw[ao h0]at h;by_cases h1:-(n:Int)<=i
  .rw[aw h1]at h;have e:(i+n).toNat=j:=ak h;exact⟨by rw[seqIndex_neg ⋯ h1,e],⋯,h1,⋯⟩
  .rw[ao h1]at h;cases h
theorem wj5 {α:Type}{xs:List α}{i:Int}{v:α}(h:atI xs i=some v):∃j,seqIndex? i xs.length=some j/\xs[j]?=some v/\j<xs.length/\-(xs.length:Int)<=i/\i<xs.length:=by
 unfold atI at h;cases e:ixN xs.length i with
 |none=>rw[e]at h;cases h
 |some j =>
  rw[e]at h;obtain⟨h1,h2,D,z⟩:=xk3 e;exact⟨j,h1,h,h2,D,z⟩
theorem zt {α:Type}{xs:List α}{j:Nat}{v:α}(h:xs[j]?=some v):atI xs (j:Int)=some v:=by
 have z:j<xs.length:=(al.mp h).1;have e:ixN xs.length (j:Int)=some j:=by unfold ixN;rw[aw ⋯,aw ⋯];simp
 unfold atI;rw[e];exact h
theorem u9 {α:Type}(xs:List α)(v:α):atI (xs++[v]) (-1)=some v:=by
 have z:(xs++[v]).length=xs.length+1:=by simp
 have e:ixN (xs++[v]).length (-1)=some xs.length:=by unfold ixN;rw[z,ao ⋯,aw ⋯];congr 1;lia
 unfold atI;rw[e];show(xs++[v])[xs.length]?=some v;simp
def xv2 (b:Expr):Prop:=∀o i,subscripted b false o i=operate [o,i] (getItem o i)
def IxR (X:Cx)(r:R2):Prop :=
 ∀(value slice:Expr) (pins:List (Aj×Obj)) (s:Ab) (σ:St) (H:Hp) (x y:V) (v u:Ag) (Q:VK),Inv X pins σ H s->RelV x v->RelV y u->r x y H Q ->
  subscripted slice false v u=operate [v,u] (getItem v u)->wpAny (model X.prog X.w) X.A (subscriptTail value slice v u) (EP X pins σ Q) X.xe s
def MtR (X:Cx)(id:String)(r:V->List V->Hp->VK->Prop):Prop :=
 ∀(pins:List (Aj×Obj)) (s:Ab) (σ:St) (H:Hp) (x:V) (xs:List V) (v:Ag) (us:List Ag) (Q:VK),Inv X pins σ H s->RelV x v->Vals xs us->r x xs H Q ->
  wpAny (model X.prog X.w) X.A (call (.builtin id) (v::us)) (EP X pins σ Q) X.xe s
section
variable {X:Cx}{a b:Expr}{ta tb:TE}{pos:Pos}
theorem xh {r:R2}(hr:IxR X r)(ha:PE X a ta)(hb:PE X b tb)(hs:xv2 b):PE X (.Subscript a b pos) (tOp r ta tb):=by intro pins s σ H Q I h;exact Subscript_ (binT ha hb I h λv u s2 x y H2 F D z q=>hr a b pins s2 σ H2 x y v u Q F D z q (hs _ _))
def rIxL (K:Aa):R2:=λx y H Q=>∃p xs i v,x=.ref p/\y=.int i/\SqL K H p xs/\atI xs i=some v/\Q v H
def rIxT (K:Aa):R2:=λx y H Q=>∃p xs i v,x=.ref p/\y=.int i/\SqT K H p xs/\atI xs i=some v/\Q v H
theorem zw:IxR X (rIxL X.K):=by
 intro value ad pins s σ H x y v u Q I W U h hs;obtain⟨p,xs,i,z,rfl,rfl,hq,he,q⟩:=h;cases W;obtain⟨t,rfl⟩:=U;obtain⟨ab,r,D,hz⟩:=I.list hq;obtain⟨j,h1,h2,h3,h4,h5⟩:=wj5 he;obtain⟨w,L,Z⟩:=r.get h2;have hl:=r.length;have hn:=qy6;have J:EP X pins σ Q w s:=⟨z,H,I,Z,q⟩;by_cases h0:0<=i
 .have F:i.toNat=j:=by rw[seqIndex_of h0 h5]at h1;exact ak h1
  exact item_listR D.isList h0 ⋯ (by rw[F];simpa using L) J hs
 .have F:(i+(ab.toArray.size:Int)).toNat=j:=by rw[seqIndex_neg ⋯ h4]at h1;rw[aq,<-hl];exact ak h1
  exact subscriptTail_builtinR (x:=w) D.isList.typeIs slot_list_getitem.lookup
   (wpAny_getItem_list_neg (Q:=λr s'=>r=w/\EP X pins σ Q r s') D.isList ⋯ (by rw[aq] <;> lia) ⋯ (by rw[F];simpa using L) ⟨rfl,J⟩) hs
theorem k6:IxR X (rIxT X.K):=by
 intro value ad pins s σ H x y v u Q I J F h hs;obtain⟨p,xs,i,z,rfl,rfl,U,Z,q⟩:=h;cases J;obtain⟨t,rfl⟩:=F;obtain⟨an,r,D,hz⟩:=I.tuple U;obtain⟨j,h1,h2,h3,h4,h5⟩:=wj5 Z;obtain⟨w,ew,L⟩:=r.get h2;have W:=r.length;have hn:=qy6;have ab:EP X pins σ Q w s:=⟨z,H,I,L,q⟩;exact subscriptTail_builtinR (x:=w) D.typeIs slot_tuple_getitem.lookup
  (getItem_tuple (j:=j) (Q:=λr s'=>r=w/\EP X pins σ Q r s') D ⋯ ⋯ (by rw[aq,<-W];exact h1) (by simpa using ew) ⟨rfl,ab⟩) hs
theorem qjp (lo hi:Option Int)(n:Nat):(sliceBounds lo hi none n).1=((HT.sIx n 0 lo:Nat):Int)/\(sliceBounds lo hi none n).2.1=((HT.sIx n n hi:Nat):Int)/\(sliceBounds lo hi none n).2.2=1:=by
 refine⟨?_,?_,rfl⟩
 .cases lo with
  |none=>simp[sliceBounds,HT.sIx]
  |some i =>
   simp only[sliceBounds,HT.sIx,Option.getD_none,show(1:Int)>0 by decide,da];by_cases h:i<0
   .simp only[h,da] <;> lia
   .simp only[h,bE] <;> lia
 .cases hi with
  |none=>simp[sliceBounds,HT.sIx]
  |some i =>
   simp only[sliceBounds,HT.sIx,Option.getD_none,show(1:Int)>0 by decide,da];by_cases h:i<0
   .simp only[h,da] <;> lia
   .simp only[h,bE] <;> lia
theorem qvk (its:List Ag)(lo hi:Option Int):slicePick its.toArray lo hi none=((its.drop (HT.sIx its.length 0 lo)).take (HT.sIx its.length its.length hi-HT.sIx its.length 0 lo)).toArray:=by obtain⟨h1,h2,z⟩:=qjp lo hi its.toArray.size;unfold slicePick;rw[h1,h2,z];simp only[sliceRange_one,pick_run,aq] <;> rfl
def rSlL (K:Aa):V->Option Int->Option Int->Hp->VK->Prop:=λx lo hi H Q=>∃a xs,x=.ref a/\SqL K H a xs/\∀p,H p=none->Q (.ref p) (upd H p (.lst (cutV xs lo hi)))
theorem qyg:SlR X (rSlL X.K):=by intro pins s σ H x v vl Z lo hi sl Q I D hs J F h;obtain⟨a,xs,rfl,U,q⟩:=h;cases D;obtain⟨ab,r,z,L⟩:=I.list U;have W:=r.length;refine⟨"list",_,slot_list_getitem.lookup,z.isList.typeIs,?_⟩;refine wpAny_getItem_list_slice z.isList hs J F .none (by simp) ?_ (by rw[aq] <;> lia);rw[qvk,<-W];refine⟨.ref s.heap.objs.size,_,I.laid (t':=s.toks) (o:=.lst (cutV xs lo hi)) (λb ob q=>ag _ q) (ai _) ?_,rfl,q _ (I.hok.fresh (ai _))⟩;exact⟨bo (wqd xs lo hi) L,_,0,(r.drop (HT.sIx xs.length 0 lo)).take (HT.sIx xs.length xs.length hi-HT.sIx xs.length 0 lo),ax _ rfl⟩
theorem xg:yx X (.builtin "len") (λxs H Q=>∃p ys,xs=[.ref p]/\(SqL X.K H p ys\/SqT X.K H p ys)/\Q (.int ys.length) H):=by
 intro pins s σ H xs Z Q I r h;obtain⟨p,ys,rfl,z,q⟩:=h;obtain⟨u,rfl,L⟩:=yg r;cases L;have hn:=qy6;rcases z with z|z
 .obtain⟨U,D,F,W⟩:=I.list z;have J:=D.length;exact Calls.call_len_list F.isList (by simp only[aq] <;> lia) ⟨.int ys.length,H,I.tok _,⟨s.toks+1,by rw[aq,J]⟩,q⟩
 .obtain⟨U,D,F,W⟩:=I.tuple z;have J:=D.length;exact len_tuple F (by simp only[aq] <;> lia) ⟨.int ys.length,H,I.tok _,⟨s.toks+1,by rw[aq,J]⟩,q⟩
theorem Yq:yx X (.type "list") (λxs H Q=>∃p ys,xs=[.ref p]/\(SqL X.K H p ys\/SqT X.K H p ys)/\∀l,H l=none->Q (.ref l) (upd H l (.lst ys))):=by
 intro pins s σ H xs us Q I r h;obtain⟨p,ys,rfl,L,q⟩:=h;obtain⟨u,rfl,rx⟩:=yg r;cases rx;have ab:∀(z:List Ag),Vals ys z->ys.length<=sizeLine->∀(h':Heap) (c':Nat),(∀b o',s.heap.get? b=some o'->h'.get? b=some o') ->
   h'.get? s.heap.objs.size=some { cls:=.type "list",dict:=none,data:=.seq z.toArray c',slots:=#[] }->EP X pins σ Q (.ref s.heap.objs.size) { s with heap:=h' }:=λz D J h' c' F e =>
  ⟨.ref s.heap.objs.size,_,I.laid (t':=s.toks) F (ai _) (show ObjOk X.prog X.w _ h' _ (.lst ys) from ⟨J,z,c',D,e⟩),rfl,q _ (I.hok.fresh (ai _))⟩
 rcases L with L|L
 .obtain⟨z,D,U,J⟩:=I.list L;have ad:=D.length;obtain⟨o,W,hc,n,Z⟩:=U.isList;exact call_list_seq p (.inl rfl) W hc Z (λh' c' F e=>ab z D J h' c' F e) (by simp only[aq] <;> lia)
 .obtain⟨z,D,U,J⟩:=I.tuple L;have ad:=D.length;obtain⟨o,W,hc,n,Z⟩:=U;exact call_list_seq p (.inr rfl) W hc Z (λh' c' F e=>ab z D J h' c' F e) (by simp only[aq] <;> lia)
def tyV (K:Aa)(T:String)(x:V)(H:Hp):Prop:=match x with
 |.str _=>T = "str"
 |.int _=>T = "int"
 |.ref p=>(T = "list" /\ ∃xs,SqL K H p xs)\/(T = "tuple" /\ ∃o,K.lookup p=some o/\o.cls=.type "tuple" /\ o.dict=none) \/
   (T = "dict" /\ ((∃kvs,H p=some (.dK kvs))\/∃kvs,H p=some (.dT kvs)))\/(T = "set" /\ ∃S n,H p=some (.set S n))
 |_=>False
theorem tyV_is {pins:List (Aj×Obj)}{σ:St}{H:Hp}{s:Ab}{T:String}{x:V}{v:Ag}(I:Inv X pins σ H s)(r:RelV x v)(ty:tyV X.K T x H) :
  s.TypeIs v T/\∀a,v=.ref a->∃ob,s.heap.get? a=some ob/\ob.dict=none:=by
 cases x with
 |str z =>
  obtain⟨t,rfl⟩:=r;cases(show T = "str" from ty);exact⟨typeIs_str s z t,λ_ e=>nomatch e⟩
 |int i =>
  obtain⟨t,rfl⟩:=r;cases(show T = "int" from ty);exact⟨typeIs_int s i t,λ_ e=>nomatch e⟩
 |ref p =>
  cases r;rcases ty with⟨rfl,xs,U⟩|⟨rfl,o,D,W,F⟩|⟨rfl,D⟩|⟨rfl,S,n,D⟩
  .obtain⟨Z,_,L,_⟩:=I.list U;refine⟨L.isList.typeIs,λa e=>?_⟩;cases e;obtain⟨o,n,e,c,F,_⟩:=L;exact⟨o,e,F⟩
  .refine⟨⟨o,I.kIn p o D,W⟩,λa e=>?_⟩;cases e;exact⟨o,I.kIn _ o D,F⟩
  .have z:∃o,s.heap.get? p=some o/\o.ExactDict:=by
    rcases D with⟨kvs,D⟩|⟨kvs,D⟩
    .obtain⟨_,_,_,_,o,_,_,e,ex,_⟩:=I.hok p _ D;exact⟨o,e,ex⟩
    .obtain⟨_,_,_,_,o,_,_,e,ex,_⟩:=I.hok p _ D;exact⟨o,e,ex⟩
   obtain⟨o,e,ex⟩:=z;refine⟨⟨o,e,ex.1⟩,λa J=>?_⟩;cases J;exact⟨o,e,ex.2.1⟩
  .obtain⟨o,_,_,_,e,ex,_⟩:=I.hok p _ D;refine⟨⟨o,e,ex.1⟩,λa J=>?_⟩;cases J;exact⟨o,e,ex.2.1⟩
 |_=>exact False.elim ty
def tBM (K:Aa)(T:String)(r:V->List V->Hp->VK->Prop)(to:TE)(t:TA):TE:=λσ H Q=>to σ H λx H1=>tyV K T x H1/\t σ H1 λxs H2=>r x xs H2 Q
variable {o e:Expr}{es:List Expr}{to:TE}{t:TA}{name:Str}{apos cpos:Pos}{T id:String}{r:V->List V->Hp->VK->Prop}
theorem qkm (pa:PlainAttrs T)(slot:Slot T name id)(hty:typeOf (.builtin id)=pure (.type "method_descriptor"))(hm:MtR X id r)(ho:PE X o to)(ha:PA X (e::es) t)
  (hbase:autoParam (attributeBase o name X.env (eval o X.env)=eval o X.env) aU4._auto_1)
  (hfew:autoParam (((backTo cpos (starEach (e::es) X.env)).all (λx=>!x.1)&&(backToKw cpos (keywordEach [] X.env)).all (λx=>x.1.isSome)
   && decide ((e::es).length+([]:List Keyword).length+(if([]:List Keyword).isEmpty then 0 else 1)<30))=true) aU4._auto_1)
  (hline:autoParam ((apos.endLine==cpos.line)=true) aU4._auto_1) (hs:autoParam (starEach (e::es) X.env=(false,eval e X.env)::starEach es X.env) aU4._auto_1) (hplain:autoParam ((backTo cpos (starEach es X.env)).any (·.1)=false) aU4._auto_1) :
  PE X (.Call (.Attribute o name apos) (e::es) [] cpos) (tBM X.K T r to t):=by
 intro pins s σ H Q I h;refine wpAny_Call_method_late hbase hfew hline rfl (thn (ho pins s σ H _ I h) λv s1 ⟨x,H1,I1,r1,ty,q1⟩=>?_);obtain⟨h1,h2⟩:=tyV_is I1 r1 ty;refine⟨T,id,pa,slot,hty,h1,h2,?_⟩;have z:=ha cpos pins s1 σ H1 _ I1 q1;rw[hs]at z ⊢;refine Calls.callWith_builtin (by show(false||(backTo cpos (starEach es X.env)).any (·.1))=false;rw[hplain] <;> rfl) (Calls.evalArgs_plain ?_);exact thn z λus s2 ⟨vs,H2,I2,r2,q2⟩=>hm pins s2 σ H2 x vs v us Q I2 r1 r2 q2
end
def MtM (X:Cx)(id:String)(r:V->List V->Hp->VK->Prop):Prop :=
 ∀(pins:List (Aj×Obj)) (s:Ab) (σ:St) (H:Hp) (x:V) (xs:List V) (v:Ag) (us:List Ag) (Q:VK),Inv X pins σ H s->RelV x v->Vals xs us->r x xs H Q ->
  wpAny (model X.prog X.w) X.A (call (.builtin id) (v::us)) (EP X pins σ Q) X.xe s
theorem Vals.one:∀ {x:V} {us:List Ag},Vals [x] us->∃u,us=[u]/\RelV x u
 |_,_,.cons r .nil=>⟨_,rfl,r⟩
theorem Vals.two:∀ {x y:V} {us:List Ag},Vals [x,y] us->∃u v,us=[u,v]/\RelV x u/\RelV y v
 |_,_,_,.cons r (.cons q .nil)=>⟨_,_,rfl,r,q⟩
section
variable {X:Cx}{pins:List (Aj×Obj)}{σ:St}{H:Hp}{s:Ab}{l b:Aj}{xs ys zs:List V}
theorem Inv.lset {its its':List Ag}{n:Nat}{f:Array Ag->Array Ag}{t':Nat}(I:Inv X pins σ H s)(hH:H l=some (.lst xs))
  (e:s.heap.get? l=some { cls:=.type "list",data:=.seq its.toArray n }) (hf:f its.toArray=its'.toArray) (hv:Vals ys its') (hz:ys.length<=sizeLine) :
  Inv X pins σ (upd H l (.lst ys)) { s with heap:=s.heap.update l (Obj.mapSeq f),toks:=t' }:=by
 have q:=PySem.IsL.update e f;rw[hf]at q;refine I.write (x:=l) (e:=l) (by rw[hH];exact trivial) (.inl rfl) (λF u D z=>(cg s.heap (Obj.mapSeq f) (cV D)).trans z) ⟨_,q⟩ ?_;exact⟨hz,its',_,hv,q⟩
theorem Inv.lnew {its:List Ag}{t':Nat}(I:Inv X pins σ H s)(hv:Vals ys its)(hz:ys.length<=sizeLine) :
  Inv X pins σ (upd H s.heap.objs.size (.lst ys)) { s with heap:=s.heap.push { cls:=.type "list",data:=.seq its.toArray },toks:=t' } :=
 I.laid (λ_ _ q=>ag _ q) (ai _) ⟨hz,its,0,hv,ax _ rfl⟩
theorem Inv.fresh (I:Inv X pins σ H s):H s.heap.objs.size=none:=I.hok.fresh (ai _)
theorem Inv.lstM (I:Inv X pins σ H s)(hH:H l=some (.lst xs)):xs.length<=sizeLine/\∃(its:List Ag) (n:Nat),Vals xs its/\xs.length=its.length/\s.heap.get? l=some { cls:=.type "list",data:=.seq its.toArray n }:=by obtain⟨z,its,n,r,e⟩:=I.hok l _ hH;exact⟨z,its,n,r,r.length,e⟩
theorem xvv {n:Nat}(h:n<=sizeLine):Builtin.List.listTooLong n=false:=by unfold Builtin.List.listTooLong;exact aX ⋯
end
section
variable {X:Cx}
def xj7:V->List V->Hp->VK->Prop:=λx vs H Q=>∃l xs y,x=.ref l/\vs=[y]/\H l=some (.lst xs)/\xs.length<sizeLine/\Q .non (upd H l (.lst (xs++[y])))
theorem W5:MtM X "list.append" xj7:=by intro pins s σ H x vs v Z Q I L U h;obtain⟨l,xs,y,rfl,rfl,J,hz,q⟩:=h;cases L;obtain⟨u,rfl,W⟩:=U.one;obtain⟨z,D,n,r,hl,e⟩:=I.lstM J;refine call_meets F.slot_list_append ⟨_,e,rfl⟩ F.entry_list_append (F.args_list_append_2 _ _) (PySem.list_append l D.toArray n u (by rw[aq];lia)) ⟨e,?_⟩;refine⟨.non,_,I.lset (its':=D++[u]) J e (by simp) (r.append (.cons W .nil)) ?_,rfl,q⟩;rw[ar,cq];lia
def xky:V->List V->Hp->VK->Prop:=λx vs H Q=>∃l b xs zs,x=.ref l/\vs=[.ref b]/\H l=some (.lst xs)/\H b=some (.lst zs)/\xs.length+zs.length<=sizeLine/\Q .non (upd H l (.lst (xs++zs)))
theorem qkn:MtM X "list.extend" xky:=by
 intro pins s σ H x vs v us Q I U W h;obtain⟨l,b,xs,zs,rfl,rfl,L,hB,hz,q⟩:=h;cases U;obtain⟨u,rfl,Z⟩:=W.one;cases Z;obtain⟨z,D,n,r,hl,e⟩:=I.lstM L;obtain⟨z2,J,n2,r2,an,e2⟩:=I.lstM hB;have ab:D.toArray.size+J.toArray.size<=sizeLine:=by rw[aq,aq];lia
 have ad:¬ (!D.toArray.isEmpty&&Builtin.List.listTooLong (D.toArray.size+J.toArray.size))=true:=by rw[xvv ab,gG];exact aJ
 refine call_meets F.slot_list_extend ⟨_,e,rfl⟩ F.entry_list_extend (F.args_list_extend_2 _ _)
  (AutoSeq1.list_extend_list_list_0 l D.toArray n b J.toArray n2 ad (by rw[aq];lia) ⋯) ⟨e,e2,?_⟩
 refine⟨.non,_,I.lset (its':=D++J) L e (by simp) (r.append r2) ?_,rfl,q⟩;rw[ar];lia
def rCat:R2:=λx y H Q=>∃l b xs zs,x=.ref l/\y=.ref b/\H l=some (.lst xs)/\H b=some (.lst zs)/\xs.length+zs.length<=sizeLine/\∀p,H p=none->Q (.ref p) (upd H p (.lst (xs++zs)))
theorem Wr:OpR X (binaryOp .Add) rCat:=by
 intro pins s σ H x y v u Q I L J h;obtain⟨l,b,xs,zs,rfl,rfl,W,Z,hz,q⟩:=h;cases L;cases J;obtain⟨z,F,n,r,hl,e⟩:=I.lstM W;obtain⟨z2,D,n2,U,ab,e2⟩:=I.lstM Z;refine PySem.P.add_list e e2 ?_ (by rw[aq,aq];lia);have ea:F.toArray++D.toArray=(F++D).toArray:=by simp
 rw[ea];exact⟨.ref _,_,I.lnew (t':=s.toks) (r.append U) (by rw[ar];lia),rfl,q _ I.fresh⟩
end
section
variable {prog:Ac}{w:Ah}{A:Ae}{E:Ag->Ab->Prop}{s:Ab}
end
section
variable {X:Cx}
end
end L2
namespace Att
open PySem PySem.W PySem.Calls PyProof.Rows
theorem qq2 {P:Params}{h:Heap}:∀(ns:List Int) (vs:List Ag),WellAll P h vs (ns.map WData.int)->IntsAre vs ns:=by
 intro ns
 induction ns with
 |nil =>
  intro vs w;rw[du]at w;cases w;exact .nil
 |cons n ns ih =>
  intro vs w;rw[aO]at w;cases w with
  |cons a b =>
   cases a;exact .cons _ _ (ih _ b)
theorem xqy {l:OpenLaw}{n:Nat}(hn:l.most=some n){P:Params}{h:Heap}{args:List WData}{vals:List Ag}
  (hpre:l.row.toRowW.claim.pre args=true) (hwl:WellAll P h vals args) :
  ∃a vs ns,vals=[Value.ref a]/\args=[WData.list (ns.map WData.int)]/\h.get? a=some { cls:=.type "list",data:=.seq vs.toArray }/\IntsAre vs ns/\ns.length<=n:=by
 have L:WShape.hasAll [] args [.list .int]=true:=(pre_splitW hpre).1;have F:l.pre.holds [] { args:=args }=true:=(pre_splitW hpre).2;obtain⟨d,r,rfl,h1,h2⟩:=hasAllW_cons L;obtain rfl:=hasAllW_nil h2;obtain⟨xs,rfl,W⟩:=hasW_list h1;obtain⟨ns,rfl⟩:=items_int W;have U:ns.length<=n:=by
  unfold OpenLaw.pre at F;have D:(WTm.not (.lt (.lit (.int (n:Int))) (.len (.arg 0)))).holds [] { args:=[.list (ns.map .int)] }=true:=by have D:=(holds_andW F).1;rw[hn]at D;exact D
  have z:=condW_of D (w_not (w_lt w_lit (w_len_list (w_arg rfl))));rw[af]at z;refine Nat.le_of_not_lt λq=>?_;have J:(n:Int)<((ns.length:Nat):Int):=by lia
  first
   |(rw[aM J]at z;exact absurd z ⋯)
   |(simp at z;lia)
 cases hwl with
 |cons w1 w2 =>
  cases w2;cases w1 with
  |list ho hall=>exact⟨_,_,ns,rfl,rfl,ho,qq2 ns _ hall,U⟩
theorem wyy (l:OpenLaw)(args:List WData):l.row.toRowW.claim.post args (.bool true) args=true :=
 postW_of (r:=l.row.toRowW) (X:=(true==true))
  (show WShape.has [] (.bool true) .bool=true by first | rfl | decide | simp[WShape.has,WShape.arms,WShape.armsAll])
  (show(WTm.eq .res (.lit (.bool true))).value [] { args:=args,res:=some (.bool true),after:=args }=some (.bool (true==true)) from w_eq_bool (w_res rfl) w_lit) rfl
theorem attach_call {l:OpenLaw}{n:Nat}{q:Ac}{loose:List Str}{XP:(Str->Option Ag)->Heap->Prop}{YP:Ah->Heap->Prop}{d:DefRec}
  (hn:l.most=some n) (hdf:d.params.defaults=[])
  (call:∀(w:Ah) (s₀ s₁:Ab) (mg mb:Str->Option Ag) (fa:Aj) (o:Obj) (pm cd doc:Ag) (a:Aj) (vs:List Ag) (ns:List Int),
   Ground q loose [] XP w s₀ mg mb s₁.heap->YP w s₁.heap ->
   s₁.heap.get? fa=some o->o.data=.func (docDef d.name d.params d.body d.scope pm cd doc)->s₁.heap.CodeRec cd d.name->mg d.name=some (.ref fa) ->
   s₁.heap.get? a=some { cls:=.type "list",data:=.seq vs.toArray }->IntsAre vs ns->ns.length<=n->s₁.gens=#[] ->
   codeAny (model l.prog w) callerA (.call (.ref fa) ⟨[.ref a],[]⟩) (λr s'=>r=.ok (.ret (.bool true))/\OldK s₁.heap s'.heap/\s'.os=s₁.os/\AllBare s'.gens) s₁) :
  WalkO q loose XP YP l.row.toRowW d [] (λf vs=>PySem.call f vs):=by
 intro w s₀ s₁ mg mb G Y fa o pm cd doc dV kV U hd an z W hg a3 ap as J a2 a0 D a1;obtain rfl:dV=.none:=Dflts.none z hdf;obtain rfl:kV=.none:=Dflts.noKw z;obtain⟨a,vs,ns,rfl,rfl,L,ad,ab⟩:=xqy hn J D;refine enter_call (dL (call w s₀ s₁ mg mb fa o pm cd doc a vs ns G Y U (fd_plain hd) an W L ad ab hg) λr s' F=>?_);obtain⟨rfl,h2,h3,h4⟩:=F;exact⟨.inl ⟨.bool true,.bool true,[],rfl,λ_=>rfl,.bool true,wyy l _,λ_=>⟨List.Pairwise.nil,λ_ Z=>(nomatch Z)⟩⟩,h2,h3,h4⟩
section
variable {prog:Ac}{w:Ah}{A:Ae}{E:Ag->Ab->Prop}{s:Ab}{K:Frag}
end
end Att
namespace L2
open PySem PySem.Spec PyProof.Rows
theorem Y7:∀ {vs:List Ag} {ns:List Int},IntsAre vs ns->Vals (ns.map V.int) vs
 |_,_,.nil=>.nil
 |_,_,.cons n t h=>.cons ⟨t,rfl⟩ (Y7 h)
def y7 (s:Stmt)(j:Nat):Stmt:=match s with
 |.ClassDef _ _ _ body _ _ _ _ _ _ _=>body.getD j (.Pass ⟨0,0,0,0⟩)
 |_=>.Pass ⟨0,0,0,0⟩
def ku (s:Stmt):Arguments:=match s with
 |.FunctionDef _ a _ _ _ _ _ _ _ _=>a
 |_=>{ posonlyargs:=[],args:=[],vararg:=none,kwonlyargs:=[],kw_defaults:=[],kwarg:=none,defaults:=[] }
def zr (s:Stmt):List Stmt:=match s with
 |.FunctionDef _ _ b _ _ _ _ _ _ _=>b
 |_=>[]
def ww (s:Stmt):Scope:=match s with
 |.FunctionDef _ _ _ _ _ _ sc _ _ _=>sc
 |_=>{ kind:=.function,names:=[],isGenerator:=false,isCoroutine:=false }
abbrev E0:XK:=λ_ _ _=>False
structure Fun (K:Aa)(x qual:Str)(st:Stmt)(f:Aj)(fd:Ad):Prop where
 ex:∃(oc:Ag) (od:Option Aj) (kV doc pm:Ag) (an:Option Aj) (cdv ct:Ag) (osl:Array (Option Ag)),
  fd=W.fnOf x qual (ku st) (zr st) (ww st) .none kV doc pm an cdv ct/\K.lookup f=some ⟨oc,od,.func fd,osl⟩/\W.codeIn K cdv qual=true
 kp:W.keepIn K (.ref f)=true
section
variable {P:Ac}{w:Ah}{K:Aa}{mg:Str->Option Ag}{base:Heap}
theorem Fun.binds {x qual:Str}{st:Stmt}{f:Aj}{fd:Ad}{ps:List Str}(F:Fun K x qual st f fd)
  (h:∀(kV doc pm:Ag) (an:Option Aj) (cdv ct:Ag) (us:List Ag),us.length=ps.length->bindArgs (W.fnOf x qual (ku st) (zr st) (ww st) .none kV doc pm an cdv ct) ⟨us,[]⟩=pure (ps.zip us)):Binds K fd ps []:=by
 obtain⟨J,D,kV,doc,pm,an,cdv,ct,z,rfl,L,U⟩:=F.ex;exact .all (h kV doc pm an cdv ct)
theorem wz1 {x qual:Str}{st:Stmt}{f:Aj}{oc:Ag}{od an:Option Aj}{osl:Array (Option Ag)}{kV doc pm cdv ct:Ag}(l:K.lookup f=some ⟨oc,od,.func (W.fnOf x qual (ku st) (zr st) (ww st) .none kV doc pm an cdv ct),osl⟩)
  (c:W.codeIn K cdv qual=true) (k:W.keepIn K (.ref f)=true):Fun K x qual st f (W.fnOf x qual (ku st) (zr st) (ww st) .none kV doc pm an cdv ct):=⟨⟨oc,od,kV,doc,pm,an,cdv,ct,osl,rfl,l,c⟩,k⟩
end
theorem xx8 {A:Ae}{k:Nat}(hr:Room k A):A.units+1<cLine:=dM (Nat.add_le_add_left (by decide:1<=64) _) hr.units
theorem Jn {n:Nat}(h:n<=1000):n<sizeLine:=dM h ⋯
section
variable {X:Cx}
theorem pv (i:Nat){x:Str}{pos:Pos}(hN:autoParam (X.N[i]?=some x) aU4._auto_1)(hv:Vis X.env.scope x:=by walk_at "vs")(hd:autoParam ((x==("__debug__" : Str))=false) aU1._auto_1)
  (hcd:autoParam ((x==("__classdict__" : Str))=false) aU1._auto_1):PE X (.Name x pos) (yu i):=pe_var hN hv hd hcd
end
theorem Y8 {A B:Prop}(h:B):if false=true then A else B:=by rw[ao aJ];exact h
theorem Q6 {A B:Prop}(h:A):if true=true then A else B:=by rw[aw rfl];exact h
def Same (H H':Hp):Prop:=∀b o,H b=some o->H' b=some o
theorem Same.refl (H:Hp):Same H H:=λ_ _ h=>h
theorem Same.trans {H H1 H2:Hp}(a:Same H H1)(b:Same H1 H2):Same H H2:=λc o h=>b c o (a c o h)
theorem Same.free {H H':Hp}(e:Same H H'){l:Aj}(h:H' l=Option.none):H l=Option.none:=by
 cases q:H l with
 |none=>rfl
 |some o =>
  rw[e l o q]at h;cases h
theorem Same.seq {K:Aa}{H H':Hp}{a:Aj}{xs:List V}(e:Same H H')(h:SqL K H a xs):SqL K H' a xs:=by
 rcases h with (h|⟨o,h⟩)|h
 .exact .inl (.inl (e _ _ h))
 .exact .inl (.inr ⟨o,e _ _ h⟩)
 .exact .inr h
end L2
namespace L2
open PySem
def itF:Nat->Nat->Nat
 |0,x=>x
 |n+1,x=>itF n (5*x+1)
theorem wjd (a:Nat):∀b x,itF (b+a) x=itF a (itF b x)
 |0,x=>by rw[c0];rfl
 |b+1,x=>by rw[gH];exact wjd a b (5*x+1)
theorem wq9:∀n x,4*itF n x+1=5 ^ n*(4*x+1)
 |0,x=>by simp[itF]
 |n+1,x=>by show 4*itF n (5*x+1)+1=_;rw[wq9 n,dc,Nat.mul_assoc];congr 1;lia
theorem wxn:∀e,∃d,d%2=1/\5 ^ (2 ^ e)=1+2 ^ (e+2)*d
 |0=>⟨1,rfl,rfl⟩
 |e+1=>by
  obtain⟨d,h1,h2⟩:=wxn e;refine⟨d+2 ^ (e+1)*(d*d),?_,?_⟩
  .rw[dc,show 2 ^ e*2*(d*d)=2*(2 ^ e*(d*d)) by grind];lia
  .have e1:5 ^ (2 ^ (e+1))=(1+2 ^ (e+2)*d) ^ 2:=by rw[show(2:Nat) ^ (e+1)=2 ^ e*2 from dc ..,Nat.pow_mul,h2]
   have z:(2:Nat) ^ (e+2)=2*2 ^ (e+1):=by rw[show e+2=(e+1)+1 by lia,dc 2 (e+1)];lia
   have D:(2:Nat) ^ (e+1+2)=4*2 ^ (e+1):=by rw[show e+1+2=(e+2)+1 by lia,dc 2 (e+2),z];lia
   rw[e1,D,z];generalize 2 ^ (e+1)=X;grind
theorem xxz (e x:Nat):∃d,d%2=1/\itF (2 ^ e) x=x+2 ^ e*d:=by
 obtain⟨d,h1,h2⟩:=wxn e;refine⟨d*(4*x+1),?_,?_⟩
 .rw[Nat.mul_mod,h1];lia
 .have h:=wq9 (2 ^ e) x;rw[h2,Nat.pow_add]at h;have z:(1+2 ^ e*2 ^ 2*d)*(4*x+1)=4*(x+2 ^ e*(d*(4*x+1)))+1:=by generalize 2 ^ e=X;grind
  lia
theorem qyy {P q r:Nat}(h:r<P):(P*q+r)%(2*P)=P*(q%2)+r:=by
 have D:q=2*(q/2)+q%2:=by lia
 have e:P*q+r=(P*(q%2)+r)+2*P*(q/2):=by
  have:P*q=P*(2*(q/2)+q%2):=by rw[<-D]
  rw[this];grind
 rw[e,Nat.add_mul_mod_self_left];refine di ?_;rcases eE q with z|z <;> rw[z] <;> lia
theorem qkx:∀e x j,∃k,k<2 ^ e/\itF k x%2 ^ e=j%2 ^ e
 |0,x,j=>⟨0,⋯,by rw[Nat.pow_zero,Nat.mod_one,Nat.mod_one]⟩
 |e+1,x,j=>by
  obtain⟨k,hk,hm⟩:=qkx e x j;have hP:0<2 ^ e:=iR e;have e2:2 ^ (e+1)=2*2 ^ e:=by rw[dc];lia
  by_cases c:itF k x%2 ^ (e+1)=j%2 ^ (e+1)
  .exact⟨k,⋯,c⟩
  .obtain⟨d,h1,h2⟩:=xxz e (itF k x);refine⟨k+2 ^ e,⋯,?_⟩;rw[wjd,h2];rw[e2]at c ⊢;generalize itF k x=a at *;generalize 2 ^ e=P at *;have U:=(iS a P).symm;have L:=(iS j P).symm;have D:a%P<P:=dN _ hP;have J:a%(2*P)=P*(a/P%2)+a%P:=by have:=qyy (q:=a/P) D;rwa [<-U]at this
   have s2:j%(2*P)=P*(j/P%2)+a%P:=by have:=qyy (q:=j/P) D;rw[hm,<-L]at this;rw[hm];exact this
   have F:(a+P*d)%(2*P)=P*((a/P+d)%2)+a%P:=by have:=qyy (q:=a/P+d) D;rwa [show P*(a/P+d)+a%P=a+P*d by rw[Nat.mul_add];lia]at this
   rw[J,s2]at c;rw[F,s2];have:(a/P+d)%2=j/P%2:=by rcases eE (a/P) with z|z <;> rcases eE (j/P) with y|y <;> rw[z,y]at c <;> lia
   rw[this]
def lp (mask:Nat):Nat->Nat×Nat->Nat×Nat
 |0,q=>q
 |n+1,q=>lp mask n (SetTable.leap mask q.1 q.2)
theorem xwq (mask b:Nat):∀a q,lp mask (a+b) q=lp mask b (lp mask a q)
 |0,q=>by rw[c0];rfl
 |a+1,q=>by rw[gH];exact xwq mask b a _
theorem xq2 (mask:Nat):∀n q,(lp mask n q).2=q.2/32 ^ n
 |0,q=>by simp[lp]
 |n+1,q=>by show(lp mask n (SetTable.leap mask q.1 q.2)).2=_;rw[xq2 mask n,dc,iL,<-Nat.div_div_eq_div_mul];rfl
theorem lp_lt {mask:Nat}:∀n q,q.1<=mask->(lp mask n q).1<=mask
 |0,q,h=>h
 |n+1,q,h=>lp_lt n _ (cW (dN _ (dO _)))
theorem wyw {mask:Nat}:∀n i,i<=mask->(lp mask n (i,0)).1=itF n i%(mask+1)
 |0,i,h=>(di (Nat.lt_succ_of_le h)).symm
 |n+1,i,h=>by
  have e:SetTable.leap mask i 0=((5*i+1)%(mask+1),0):=by simp[SetTable.leap,iL]
  show(lp mask n (SetTable.leap mask i 0)).1=itF n (5*i+1)%(mask+1);rw[e,wyw n _ (cW (dN _ (dO _)))];have z:∀n x,itF n (x%(mask+1))%(mask+1)=itF n x%(mask+1):=by
   intro n
   induction n with
   |zero=>intro x;exact Nat.mod_mod _ _
   |succ n ih =>
    intro x;show itF n (5*(x%(mask+1))+1)%(mask+1)=itF n (5*x+1)%(mask+1);rw[<-ih (5*(x%(mask+1))+1),<-ih (5*x+1)];congr 2;rw[Nat.add_mod,Nat.mul_mod,Nat.mod_mod,<-Nat.mul_mod,<-Nat.add_mod]
  exact z n _
theorem wxq {e mask:Nat}(hM:mask+1=2 ^ e){q:Nat×Nat}(h1:q.1<=mask)(h2:q.2<2 ^ 64){j:Nat}(hj:j<=mask):∃n,n<=mask+13/\(lp mask n q).1=j:=by
 have z:(lp mask 13 q).2=0:=by rw[xq2];exact Nat.div_eq_of_lt (aI h2 ⋯)
 have D:=lp_lt (mask:=mask) 13 q h1;obtain⟨k,J,F⟩:=qkx e (lp mask 13 q).1 j;refine⟨13+k,⋯,?_⟩;rw[xwq,show lp mask 13 q=((lp mask 13 q).1,0) from iB rfl z,wyw k _ D,hM,F];exact di ⋯
def zx (t:SetTable):Nat->SetTable.Probe->SetTable.Probe
 |0,p=>p
 |n+1,p=>zx t n (t.advance p)
theorem Wz (t:SetTable)(b:Nat):∀a p,zx t (a+b) p=zx t b (zx t a p)
 |0,p=>by rw[c0];rfl
 |a+1,p=>by rw[gH];exact Wz t b a _
theorem qkv (t:SetTable)(p:SetTable.Probe):(t.advance p).dummy=p.dummy:=by unfold SetTable.advance;split <;> rfl
theorem qzn (t:SetTable):∀n p,(zx t n p).dummy=p.dummy
 |0,p=>rfl
 |n+1,p=>(qzn t n _).trans (qkv t p)
def rs (mask:Nat)(q:Nat×Nat):SetTable.Probe:={ j:=q.1,more:=SetTable.runEnd mask q.1-q.1,i:=q.1,perturb:=q.2,dummy:=none }
theorem qzh (t:SetTable)(q:Nat×Nat):∀r j,zx t (r+1) { j:=j,more:=r,i:=q.1,perturb:=q.2,dummy:=none }=rs t.mask (SetTable.leap t.mask q.1 q.2)
 |0,j=>rfl
 |r+1,j=>by
  show zx t (r+1) (t.advance _)=_;have e:t.advance { j:=j,more:=r+1,i:=q.1,perturb:=q.2,dummy:=none }={ j:=j+1,more:=r,i:=q.1,perturb:=q.2,dummy:=none }:=by unfold SetTable.advance;rw[aw (dO r)];rfl
  rw[e];exact qzh t q r (j+1)
theorem xk4 (t:SetTable)(q:Nat×Nat):∃m,m<=10/\zx t m (rs t.mask q)=rs t.mask (SetTable.leap t.mask q.1 q.2):=by refine⟨SetTable.runEnd t.mask q.1-q.1+1,?_,qzh t q _ _⟩;unfold SetTable.runEnd;split <;> lia
theorem wqg (t:SetTable):∀n q,∃N,N<=10*n/\zx t N (rs t.mask q)=rs t.mask (lp t.mask n q)
 |0,q=>⟨0,ai _,rfl⟩
 |n+1,q=>by obtain⟨m,hm,e⟩:=xk4 t q;obtain⟨N,hN,e2⟩:=wqg t n (SetTable.leap t.mask q.1 q.2);exact⟨m+N,⋯,by rw[Wz,e,e2];rfl⟩
theorem J1 {t:SetTable}{j i:Nat}(h:t.slot j=.live i):t.place[i]?=some j:=by
 unfold SetTable.slot at h;dsimp only at h;split at h
 .rename_i c;cases h;simpa using c
 .split at h <;> cases h
theorem qw8 {t:SetTable}(hd:t.dummies=#[])(j:Nat):t.slot j=.empty\/∃i,t.slot j=.live i:=by
 unfold SetTable.slot;dsimp only;split
 .exact .inr ⟨_,rfl⟩
 .have:SetTable.has t.dummies j=false:=by rw[hd];simp[SetTable.has]
  rw[this];exact .inl rfl
theorem qzy:∀(l l':List Nat),l.Nodup->(∀a∈l,a∈l')->l.length<=l'.length
 |[],_,_,_=>aK _
 |a::l,l',hn,hs=>by have hn':=cP.mp hn;have ha:=hs a (.head _);have:=qzy l (l'.erase a) hn'.2 λb hb=>(List.mem_erase_of_ne (λz=>by subst z;exact hn'.1 hb)).mpr (hs b (.tail _ hb));rw[List.length_erase,aw ha]at this;have hp:0<l'.length:=dP ha;rw[aB];lia
theorem wu9 {t:SetTable}(hd:t.dummies=#[])(hz:t.place.size<=t.mask):∃j,j<=t.mask/\t.slot j=.empty:=by
 apply gR;intro c;have:=qzy (List.range (t.mask+1)) t.place.toList fN λa D=>by
  have z:a<=t.mask:=cW (am.mp D);rcases qw8 hd a with h|⟨i,h⟩
  .exact absurd ⟨a,z,h⟩ c
  .have e:=J1 h;exact fU.mpr (Array.mem_of_getElem? e)
 rw[au,bc]at this;lia
theorem wj7 (h:Int):SetTable.bits h<2 ^ 64:=by unfold SetTable.bits;lia
theorem wyn {t:SetTable}{e:Nat}(hM:t.mask+1=2 ^ e)(hd:t.dummies=#[])(hz:t.place.size<=t.mask)(h:Int):∃N,N<=10*(t.mask+13)/\t.slot (zx t N (t.probeStart h)).j=.empty:=by obtain⟨j,z,hs⟩:=wu9 hd hz;obtain⟨n,J,D⟩:=wxq hM (q:=(SetTable.bits h%(t.mask+1),SetTable.bits h)) (cW (dN _ (dO _))) (wj7 h) z;obtain⟨N,L,F⟩:=wqg t n (SetTable.bits h%(t.mask+1),SetTable.bits h);refine⟨N,⋯,?_⟩;show t.slot (zx t N (rs t.mask (SetTable.bits h%(t.mask+1),SetTable.bits h))).j=.empty;rw[F];show t.slot (lp t.mask n _).1=.empty;rw[D];exact hs
inductive MetOk (t:SetTable) (p:SetTable.Probe) (N:Nat):SetTable.Met->Prop
 |empty (j:Nat):MetOk t p N (.empty j none)
 |cand (m i:Nat) (hm:m<N) (hs:t.slot (zx t m p).j=.live i):MetOk t p N (.candidate (zx t m p).j i (zx t (m+1) p))
def liveL (mask:Nat)(owner:Array (Option Nat)):List (Nat×Nat):=(List.range (mask+1)).filterMap λj=>(owner.getD j none).map (j,·)
structure OwnI (mask:Nat)(owner:Array (Option Nat))(k:Nat):Prop where
 size:owner.size=mask+1
 len:(liveL mask owner).length=k
 low:∀j v:Nat,owner[j]?=some (some v)->v<k
end L2
namespace L2
open PySem PySem.Spec PyProof.Rows
section
variable {M:Model}{A:Ae}{E:Ag->Ab->Prop}{s:Ab}
theorem wvs {a:Aj}{o:Obj}{vs:Array Ag}{i:Nat}{x:Ag}{Q:Unit->Ab->Prop}(he:s.heap.get? a=some o)(hd:o.data=.fields vs)(hi:i<vs.size)
  (h:∀(g:Heap) (o':Obj),g.get? a=some o'->o'.cls=o.cls->o'.data=.fields (vs.setIfInBounds i x)->(∀b,b≠a->g.get? b=s.heap.get? b)->Q () { s with heap:=g }):wpAny M A (setField (.ref a) i x) Q E s :=
 eG he hd hi (h _ _ (cu _ he (d6 (cC hd _))) (fv _ _) (cC hd _) λ_ nb=>cg _ _ (cV nb))
def TrV (h B:Heap)(e:Aj)(cls:Ag)(ws:Array Ag)(fl:Ag):Prop:=∃oe T oT ts,h.get? e=some oe/\oe.cls=cls/\oe.data=.fields (ws.setIfInBounds 1 (.ref T))/\1<ws.size/\B.get? T=none/\T≠e/\h.get? T=some oT/\oT.data=.fields ts/\ts[3]?=some fl
theorem TrV.toW {h B:Heap}{e:Aj}{cls a0 fl:Ag}{ws:Array Ag}(x:TrV h B e cls ws fl)(h0:ws[0]?=some a0):h.TracedAtW B e cls a0 fl:=by obtain⟨D,T,F,z,L,W,U,J,r⟩:=x;exact⟨D,_,T,F,z,L,⟨W,by rw[fH ⋯];exact h0⟩,U,by simp[J],r⟩
def FlyV (B:Heap)(l:List Env)(e:Aj)(cls:Ag)(ws:Array Ag)(fl:Ag)(h:Heap):Prop:=B.StaysIn h/\B.get? e=none/\h.FunFrames B l/\TrV h B e cls ws fl
theorem FlyV.toW {B h:Heap}{l:List Env}{e:Aj}{cls a0:Ag}{ws:Array Ag}(x:FlyV B l e cls ws .none h)(h0:ws[0]?=some a0):Heap.FlyingW B l e cls a0 h:=⟨x.1,x.2.1,x.2.2.1,x.2.2.2.toW h0⟩
theorem qu3 {B h g:Heap}{l:List Env}{a:Aj}{oa:Obj}{vs:Array Ag}(hB:B.StaysIn h)(hl:h.FunFrames B l)(ha:h.get? a=some oa)(hd:oa.data=.fields vs)(na:B.get? a=none)(hg:∀b,b≠a->g.get? b=h.get? b) :
  B.StaysIn g/\g.FunFrames B l/\∀b o,h.get? b=some o->(∀vs,o.data≠.fields vs)->g.get? b=some o:=by
 have J:∀b o,h.get? b=some o->(∀vs,o.data≠.fields vs)->b≠a:=λb o D F z=>by rw[z,ha]at D;cases D;exact F vs hd
 refine⟨λb o D=>?_,hl.of_keeps λb o D F=>⟨o,(hg b (J b o D F)).trans D,rfl⟩,λb o D F=>(hg b (J b o D F)).trans D⟩;rw[hg b λz=>by rw[z,na]at D;cases D];exact hB b o D
theorem qu7 {B:Heap}{l:List Env}{e:Aj}{cls fl:Ag}{ws:Array Ag}{Q:Unit->Ab->Prop}(x:FlyV B l e cls ws fl s.heap)(v:Option Aj)
  (h:∀g,FlyV B l e cls ws (v.elim Value.none λf=>rawInt f) g->s.heap.UpToSlots g->Q () { s with heap:=g }):wpAny M A (setFlight (.ref e) v) Q E s:=by
 obtain⟨k1,k2,k3,oe,T,oT,ts,J,hc,L,F,D,Z,hT,W,h3⟩:=x;have z:3<ts.size:=(bg.mp h3).1;unfold setFlight;refine ac (i4 J L (x:=.ref T) (by simp[F]) ?_);rw[aw (show(Value.ref T != Value.none)=true from by simp)];refine wvs hT W z λg o' g1 g2 g3 U=>?_;obtain⟨q1,q2,q3⟩:=qu3 k1 k3 hT W D U;exact h g ⟨q1,k2,q2,oe,T,o',_,(U e (cV Z)).trans J,hc,L,F,D,Z,g1,g3,by simp[z]⟩ λb o hb hn=>⟨o.slots,q3 b o hb hn⟩
theorem TrV.again {h B:Heap}{e:Aj}{cls fl x:Ag}{ws:Array Ag}(t:TrV h B e cls (ws.setIfInBounds 1 x) fl):TrV h B e cls ws fl:=by obtain⟨J,T,L,F,U,W,D,z,r⟩:=t;rw[eR]at z;rw[Array.setIfInBounds_setIfInBounds]at D;exact⟨J,T,L,F,U,W,D,z,r⟩
theorem wkc {B:Heap}{env:Env}{outer:List Env}{L e:Aj}{oe:Obj}{vs:Array Ag}{head:Ag}{hadNext:Bool}{Q:Unit->Ab->Prop}(hfr:A.frames=some (env::outer))(hf:env.frame=some L)(hB:B.StaysIn s.heap)(hen:B.get? e=none)(hl:s.heap.FunFrames B (env::outer))
  (he:s.heap.get? e=some oe) (hd:oe.data=.fields vs) (hz:1<vs.size) (h:∀g,FlyV B (env::outer) e oe.cls vs (rawInt L) g->s.heap.UpToSlots g->Q () { s with heap:=g }) :
  wpAny M A (do let a <-frameOf env;let pl <-entryPlaceOf L hadNext;let b <-EntryCells.newEntry head a .none (rawInt L) .none pl;setField (.ref e) 1 b) Q E s:=by
 refine ac (wpAny_frameOf_fun hfr hl hf λF U=>?_);refine ac (wpAny_entryPlaceOf λpl ip=>?_);unfold EntryCells.newEntry newFields;refine ac (bK ?_ (ip.sizeOk5 _ _ _ _ _));have eF:e∉(env::outer).filterMap (·.frame):=λm=>by obtain⟨_,u,hu,nu⟩:=hl.mem m;rw[he]at hu;cases hu;exact nu vs hd
 have e1:F.get? e=some oe:=(U.2.1 e eF).trans he;have B1:B.StaysIn F:=λb o D=>(U.2.1 b λm=>by rw[(hl.mem m).1]at D;cases D).trans (hB b o D);have nT:B.get? F.objs.size=none:=B1.fresh;have Te:F.objs.size≠e:=dJ (aj e1);generalize hts:([head,.ref L,.none,rawInt L,.none]++(if pl.isEmpty then List.replicate 6 Value.none else pl)).toArray=ts;have t3:ts[3]?=some (rawInt L):=by rw[<-hts];simp
 refine wvs (ag _ e1) hd hz λg o' q1 q2 q3 q4=>?_;have hT:=(q4 _ Te).trans (ax F rfl);have ab:∀b o,F.get? b=some o->b≠e->g.get? b=some o:=λb o D nb=>(q4 b nb).trans (ag _ D);have ad:∀b o,s.heap.get? b=some o->(∀vs,o.data≠.fields vs)->b≠e:=λb o D J z=>by rw[z,he]at D;cases D;exact J vs hd
 have W:s.heap.UpToSlots g:=λb o D J=>by obtain⟨Z,hs⟩:=U.2.2 b o D;exact⟨Z,ab b _ hs (ad b o D J)⟩
 have Bg:B.StaysIn g:=λb o D=>ab b o (B1 b o D) λz=>by rw[z,hen]at D;cases D
 refine h g ⟨Bg,hen,hl.of_keeps λb o D J=>?_,⟨o',_,_,ts,q1,q2,q3,hz,nT,Te,hT,rfl,t3⟩⟩ W;obtain⟨Z,hs⟩:=W b o D J;exact⟨_,hs,rfl⟩
theorem wyz {B:Heap}{env:Env}{outer:List Env}{L e:Aj}{oe:Obj}{vs:Array Ag}{Q:Unit->Ab->Prop}(hfr:A.frames=some (env::outer))(hf:env.frame=some L)(hB:B.StaysIn s.heap)(hen:B.get? e=none)(hl:s.heap.FunFrames B (env::outer))
  (he:s.heap.get? e=some oe) (hd:oe.data=.fields vs) (h1:vs[1]?=some .none) (h:∀g,FlyV B (env::outer) e oe.cls vs (rawInt L) g->s.heap.UpToSlots g->Q () { s with heap:=g }):wpAny M A (noteFrame (.ref e) env) Q E s:=by
 unfold noteFrame;simp only[hf];refine ac (i4 he hd h1 ?_);rw[ao ⋯];exact wkc hfr hf hB hen hl he hd (bg.mp h1).1 h
theorem note_V {B:Heap}{env:Env}{outer:List Env}{L e:Aj}{cls fl:Ag}{ws:Array Ag}{Q:Unit->Ab->Prop}(hfr:A.frames=some (env::outer))(hf:env.frame=some L)(x:FlyV B (env::outer) e cls ws fl s.heap)
  (h:∀g,FlyV B (env::outer) e cls ws (rawInt L) g->s.heap.UpToSlots g->Q () { s with heap:=g }):wpAny M A (noteFrame (.ref e) env) Q E s:=by
 obtain⟨k1,k2,k3,oe,T,oT,ts,J,hc,U,F,nT,Te,hT,D,W⟩:=id x;unfold noteFrame;simp only[hf];refine ac (i4 J U (x:=.ref T) (by simp[F]) ?_);rw[aw (show(Value.ref T != Value.none)=true from by simp)];refine ac (i4 hT D W ?_);by_cases z:fl=rawInt L
 .subst z;rw[aw (by simp)];exact ah (h s.heap x (Heap.UpToSlots.refl _))
 rw[ao (show ¬ ((fl==rawInt L)=true) from by simp[z])];refine ac (wvs hT D (bg.mp W).1 λg o' g1 g2 g3 Z=>?_);obtain⟨q1,q2,q3⟩:=qu3 k1 k3 hT D nT Z;subst hc;refine wkc hfr hf q1 k2 q2 ((Z e (cV Te)).trans J) U (by rw[eR];exact F) λg' r up=>h g' ⟨r.1,r.2.1,r.2.2.1,r.2.2.2.again⟩ ?_;exact Heap.UpToSlots.trans (λb o hb hn=>⟨o.slots,q3 b o hb hn⟩) up
theorem xk8 {B:Heap}{env:Env}{outer:List Env}{L e:Aj}{cls fl:Ag}{ws:Array Ag}{Q:Unit->Ab->Prop}(hfr:A.frames=some (env::outer))(hf:env.frame=some L)(x:FlyV B (env::outer) e cls ws fl s.heap)
  (h:∀g,FlyV B outer e cls ws .none g->s.heap.UpToSlots g->Q () { s with heap:=g }):wpAny M A (leaving env (.ref e)) Q E s:=by
 unfold leaving;refine ac (note_V hfr hf x λg1 x1 F=>?_);refine qu7 x1 none λg z D=>?_;obtain⟨Z,W,⟨_,_,U⟩,J⟩:=z;exact h g ⟨Z,W,U,J⟩ (F.trans D)
theorem xw7 {B:Heap}{env:Env}{outer:List Env}{L e:Aj}{oe:Obj}{vs:Array Ag}{Q:Unit->Ab->Prop}(hfr:A.frames=some (env::outer))(hf:env.frame=some L)(hB:B.StaysIn s.heap)(hen:B.get? e=none)(hl:s.heap.FunFrames B (env::outer))
  (he:s.heap.get? e=some oe) (hd:oe.data=.fields vs) (h1:vs[1]?=some .none) (h:∀g,FlyV B outer e oe.cls vs .none g->s.heap.UpToSlots g->Q () { s with heap:=g }):wpAny M A (leaving env (.ref e)) Q E s:=by
 unfold leaving;refine ac (wyz hfr hf hB hen hl he hd h1 λg1 x1 F=>?_);refine qu7 x1 none λg z D=>?_;obtain⟨Z,W,⟨_,_,U⟩,J⟩:=z;exact h g ⟨Z,W,U,J⟩ (F.trans D)
end
theorem nin {b:Aj}:b∉([]:List Aj):=λz=>nomatch z
theorem wkp {K:Aa}{h:Heap}{C:Aj}{bmB:List Ag}{newId:String}(X:K.In h)(q:W.excIn K C bmB newId=true) :
  ∃tl N a1 a2 a3 a4 a5 a6 a7 a8 a9 b0 b1 b2 b3 b5 mN,h.get? C=some (excClassObj a1 a2 C N a3 tl a4 a5 a6 a7 a8 a9 b0 b1 b2 b3 b5 newId) /\
   h.Ns N mN/\mN "__init__" = none/\OwnTail h bmB tl:=by
 unfold W.excIn at q;split at q
 .next dd cd sl ho =>
  split at q
  .next C1 tl x0 x1 x2 x3 nn x5 hm hs =>
   rw[cn,cn,cn,cn,cn]at q;obtain⟨⟨⟨⟨⟨p1,p2⟩,Z⟩,J⟩,z⟩,F⟩:=q;have ad:=eq_of_beq p1;have ab:=eq_of_beq p2;have D:=eq_of_beq F;have U:cd.hasDel=false:=by simpa using Z
   subst ad ab;obtain⟨f1,f2,f3,f4,f5,f6,f7,f8,f9,bb,a0⟩:=cd;have as:f3=Value.ref C1::tl:=hm;have L:a0=false:=U;subst as L;have ap:sl=#[x0,x1,x2,x3,some (.builtin nn),x5]:=by
    cases sl with
    |mk l =>
     have:l=[x0,x1,x2,x3,some (.builtin nn),x5]:=hs;rw[this]
   subst ap;have an:=W.isNs_of_in X z;exact⟨tl,f4,f1,f5,f2,f6,f7,f8,f9,bb,dd,x0,x1,x2,x3,x5,_,X _ _ ho,.of_isNs an,W.nsMap_none_of_in X z D,W.tail_of_in X J⟩
  .exact absurd q ⋯
 .exact absurd q ⋯
def CXE (P:Ac)(w:Ah):CXT:=λouter H s E e s' =>
 ∃(a C:Aj) (a0:Ag) (ws:Array Ag) (d:Option Aj) (B:Heap) (H':Hp),e=.ref a/\s'.os=s.os/\AllBare s'.gens/\Un (frs outer) [] H H' s.heap s'.heap/\HOk P w H' B /\
  FlyV B outer a (.ref C) ws .none s'.heap/\(ws[0]?=some a0/\(d=none->ws[2]?=some .none))/\(∀b o,s.heap.get? b=some o->b∉frs outer->∃o',B.get? b=some o'/\(H b=none->o'=o))/\E (.ref C) d H'
theorem CXE.no {P:Ac}{w:Ah}{outer:List Env}{H:Hp}{s s':Ab}{e:Ag}(h:CXE P w outer H s E0 e s'):False:=by obtain⟨_,_,_,_,_,_,_,_,_,_,_,_,_,_,_,q⟩:=h;exact q
def j9 (X:Cx)(E:St->XK):Prop:=∀(pins:List (Aj×Obj)) (σ:St) (H:Hp) (s:Ab) (e:Ag) (s':Ab),Inv X pins σ H s->CXE X.prog X.w X.stack H s (E σ) e s'->X.xe e s'
theorem j8 {X:Cx}:j9 X (λ_=>E0):=λ_ _ _ _ _ _ _ h=>h.no.elim
def xq9 (X:Cx)(E:St->XK):Prop:=∀(pins:List (Aj×Obj)) (σ:St) (H:Hp) (s:Ab) (h':Heap) (e C:Aj) (vs:List Ag),Inv X pins σ H s->Heap.MadeExcOf s.heap h' e (.ref C) vs->E σ (.ref C) none H->X.xe (.ref e) { s with heap:=h' }
def RaiseV (X:Cx)(E:St->XK):Prop:=∀(pins:List (Aj×Obj)) (σ:St) (H:Hp) (s:Ab) (h':Heap) (e C:Aj) (oe:Obj) (vs:Array Ag) (a0:Ag) (d:Option Aj),Inv X pins σ H s->s.heap.get? e=none->(∀b o,s.heap.get? b=some o->h'.get? b=some o)->h'.get? e=some oe->oe.cls=.ref C->oe.data=.fields vs ->
 vs[0]?=some a0->vs[1]?=some .none->(d=none->vs[2]?=some .none)->E σ (.ref C) d H->X.xe (.ref e) { s with heap:=h' }
theorem wxs {env:Env}{L:Aj}{outer:List Env}(h:env.frame=some L):frs (env::outer)=L::frs outer:=by unfold frs;rw[dB,h]
section
variable {P:Ac}{w:Ah}{K:Aa}{mg:Str->Option Ag}{base:Heap}{N:List Str}{qual:Str}{scope:Scope}{f:Aj}{cdv:Ag}{A:Ae}{outer:List Env}{s0:Ab}{H0:Hp}{E:XK}
theorem qu:j9 (Yp (CXE P w) P w K mg base N qual scope f cdv A outer s0 H0 E) (λ_=>E):=by
 intro pins σ H s e s' I hx;obtain⟨a,C,a0,ws,dd,B,H',rfl,a5,a8,W,a6,an,a2,a4,q⟩:=hx;have F:=I.base;have hL:∀b o,s0.heap.get? b=some o->b≠s0.heap.objs.size:=λb o e z=>aN _ (z▸aj e);have ab:frs (envOfC qual scope s0.heap.objs.size f cdv::outer)=s0.heap.objs.size::frs outer:=wxs rfl;have a7:∀b o,s0.heap.get? b=some o->b∉frs outer->b∉frs (envOfC qual scope s0.heap.objs.size f cdv::outer):=λb o e n=>by
  rw[ab];intro z;rcases aC.mp z with z|z
  .exact hL b o e z
  .exact n z
 have ad:∀b o,s0.heap.get? b=some o->b∉frs outer->∃o',B.get? b=some o'/\(H0 b=none->o'=o):=λb o e n=>by obtain⟨o1,D⟩:=F.there b o e nin;obtain⟨o2,L,U⟩:=a4 b o1 D (a7 b o e n);refine⟨o2,L,λz=>?_⟩;have Z:=F.keep b o e z n nin;have e5:=F.free b o e z nin;rw[D]at Z;rw[U e5];exact ak Z
 refine xk8 I.ok.frames rfl an λh' ap a1=>?_;have a3:∀b,b∈frs outer->∀o,s0.heap.get? b=some o->H0 b=none->∃sl,h'.get? b=some { o with slots:=sl }:=λb J o e n=>by obtain⟨sl,D⟩:=F.slot b o e n J nin;obtain⟨a9,L⟩:=W.slot b _ D (F.free b o e n nin) (by show b∈frs (envOfC qual scope s0.heap.objs.size f cdv::outer);rw[ab];exact .tail _ J) nin;obtain⟨_,o3,U,nf⟩:=an.2.2.1.mem (b:=b) (by show b∈frs (envOfC qual scope s0.heap.objs.size f cdv::outer);rw[ab];exact .tail _ J);obtain⟨as,Z⟩:=a1 b o3 U nf;rw[L]at U;have e5:=ak U;exact⟨as,by rw[Z,<-e5]⟩
 refine⟨a,C,a0,ws,dd,B,H',rfl,a5.trans I.os,a8,⟨λb o e n nb _=>?_,λb o e n J _=>a3 b J o e n,λb o e n _=>?_,λb o e _=>?_,λb xs e=>W.tups b xs (F.tups b xs e),λb o u e=>W.frzs b o u (F.frzs b o u e),λb ps e=>?_⟩,a6,ap,a2,ad,q⟩
 .obtain⟨o',D,L⟩:=ad b o e nb;rw[L n]at D;exact ap.1 b o D
 .obtain⟨o1,D⟩:=F.there b o e nin;exact W.free b o1 D (F.free b o e n nin) nin
 .by_cases J:b∈frs outer
  .obtain⟨o1,D⟩:=F.there b o e nin;obtain⟨o2,L⟩:=W.there b o1 D nin;obtain⟨_,o3,U,nf⟩:=an.2.2.1.mem (b:=b) (by show b∈frs (envOfC qual scope s0.heap.objs.size f cdv::outer);rw[ab];exact .tail _ J);obtain⟨as,Z⟩:=a1 b o3 U nf;exact⟨_,Z⟩
  .obtain⟨o',D,_⟩:=ad b o e J;exact⟨o',ap.1 b o' D⟩
 .obtain⟨m1,D⟩:=F.tbls b ps e;obtain⟨m2,L⟩:=W.tbls b _ D;exact⟨m1++m2,by rw[L,Array.append_assoc]⟩
theorem wzb:RaiseV (Yp (CXE P w) P w K mg base N qual scope f cdv A outer s0 H0 E) (λ_=>E):=by
 intro pins σ H s h' e C oe vs a0 d I a6 an he U hd w0 w1 w2 q;have L:=I.base;have a3:frs (envOfC qual scope s0.heap.objs.size f cdv::outer)=s0.heap.objs.size::frs outer:=wxs rfl;have a7:∀b o,s0.heap.get? b=some o->b∉frs outer->b∉frs (envOfC qual scope s0.heap.objs.size f cdv::outer):=λb o e n=>by
  rw[a3];intro z;rcases aC.mp z with z|z
  .exact aN _ (z▸aj e)
  .exact n z
 have a8:∀b∈frs (envOfC qual scope s0.heap.objs.size f cdv::outer),H b=none:=I.stkFree;have hB:∀b o,s.heap.get? b=some o->b∉frs (envOfC qual scope s0.heap.objs.size f cdv::outer)->(W.hideAll s.heap (frs (envOfC qual scope s0.heap.objs.size f cdv::outer))).get? b=some o:=λb o e n=>W.hideAll_get _ e n;have a5:HOk P w H (W.hideAll s.heap (frs (envOfC qual scope s0.heap.objs.size f cdv::outer))):=λb u D=>by
  refine(I.hok b u D).stay (λc v U ec=>hB c v ec λhm=>?_) (λ_ z=>z) (λ_ _ z=>z);have hn:=a8 c hm;rcases U with rfl|U
  .rw[hn]at D;cases D
  .rw[hn]at U;cases U
 have ad:∀b o,s0.heap.get? b=some o->b∉frs outer->∃o',(W.hideAll s.heap (frs (envOfC qual scope s0.heap.objs.size f cdv::outer))).get? b=some o'/\(H0 b=none->o'=o):=λb o e n=>by obtain⟨o1,F⟩:=L.there b o e nin;refine⟨o1,hB b o1 F (a7 b o e n),λz=>?_⟩;have Z:=L.keep b o e z n nin;rw[F]at Z;exact ak Z
 have a2:s.heap.FunFrames base (envOfC qual scope s0.heap.objs.size f cdv::outer):=I.stack;have a9:=W.funFrames_hide (as:=frs (envOfC qual scope s0.heap.objs.size f cdv::outer)) a2 (λbk he b D=>eY.mpr ⟨bk,he,D⟩);have bb:(W.hideAll s.heap (frs (envOfC qual scope s0.heap.objs.size f cdv::outer))).get? e=none:=by
  cases z:(W.hideAll s.heap (frs (envOfC qual scope s0.heap.objs.size f cdv::outer))).get? e with
  |none=>rfl
  |some o =>
   have:=gA _ z;rw[a6]at this;cases this
 refine xw7 (B:=W.hideAll s.heap (frs (envOfC qual scope s0.heap.objs.size f cdv::outer))) I.ok.frames rfl (λb o e=>an b o (gA _ e)) bb (a9.of_keeps λb o D _=>⟨o,an b o D,rfl⟩) he hd w1 λbd ab a4=>?_;rw[U]at ab;have ap:∀b,b∈frs outer->∃o,s.heap.get? b=some o/\∃sl,bd.get? b=some { o with slots:=sl }:=λb D=>by obtain⟨_,o3,J,nf⟩:=a2.mem (b:=b) (by show b∈frs (envOfC qual scope s0.heap.objs.size f cdv::outer);rw[a3];exact .tail _ D);exact⟨o3,J,a4 b o3 (an b o3 J) nf⟩
 refine⟨e,C,a0,vs,d,_,H,rfl,I.os,I.bare,⟨λb o F n nb _=>?_,λb o F n D _=>?_,λb o F n _=>L.free b o F n nin,λb o F _=>?_,L.tups,L.frzs,L.tbls⟩,a5,ab,⟨w0,w2⟩,ad,q⟩
 .obtain⟨o',e2,J⟩:=ad b o F nb;rw[J n]at e2;exact ab.1 b o e2
 .obtain⟨sl,e2⟩:=L.slot b o F n D nin;obtain⟨o3,J,a1,Z⟩:=ap b D;rw[e2]at J;have e5:=ak J;exact⟨a1,by rw[Z,<-e5]⟩
 .by_cases D:b∈frs outer
  .obtain⟨o3,J,a1,Z⟩:=ap b D;exact⟨_,Z⟩
  .obtain⟨o',e2,_⟩:=ad b o F D;exact⟨o',ab.1 b o' e2⟩
theorem vw:xq9 (Yp (CXE P w) P w K mg base N qual scope f cdv A outer s0 H0 E) (λ_=>E):=by intro pins σ H s h' e C vs I z q;obtain⟨t,D,_,_⟩:=z.there;exact wzb pins σ H s h' e C _ _ _ none I z.new z.keeps D rfl rfl rfl rfl (λ_=>rfl) q
end
section
variable {P:Ac}{w:Ah}{K:Aa}{mg:Str->Option Ag}{base:Heap}
end
def qzw (sp:Sp)(E:St->XK)(t:TA):TE:=λσ H Q=>t σ H λvs H1=>sp vs H1 Q (E σ)
def qxm (C:Aj)(m:Str)(sp:Sp)(E:St->XK)(ta:TE)(t:TA):TE:=λσ H Q=>ta σ H λx H1=>∃a dx fs,x=.ref a/\H1 a=some (.ins C dx fs)/\fs.lookup m=none /\
 t σ H1 λvs H2=>sp (x::vs) H2 Q (E σ)
def xz1 (C:Aj)(sp:Sp)(E:St->XK)(t:TA):TE:=λσ H Q=>t σ H λvs H1=>∀x dx,H1 x=none->H1 dx=none->dx≠x ->
 sp (.ref x::vs) (upd (upd H1 dx (.own x)) x (.ins C dx [])) (λv H2=>v=.non/\Q (.ref x) H2) (E σ)
section
variable {X:Cx}{k:Nat}{f C:Aj}{fd:Ad}{ps:List Str}{sp:Sp}{E:St->XK}{x m:Str}{p pos apos:Pos}{e o:Expr}{es:List Expr}{ta:TE}{t:TA}
theorem qy0 {pins:List (Aj×Obj)}{σ:St}{H:Hp}{s:Ab}{Q:VK}{us:List Ag}{vs:List V}(F:FnOk X.prog X.w X.K X.mg X.base (CXE X.prog X.w) k f fd ps sp)(hr:Room k X.A)(hb:Binds X.K fd ps [])(hx:j9 X E)
  (I:Inv X pins σ H s) (r:Vals vs us) (h:sp vs H Q (E σ)):wpAny (model X.prog X.w) X.A (call (.ref f) us) (EP X pins σ Q) X.xe s:=by
 have J:(us++[]).length=ps.length:=by rw[bG,<-r.length];exact F.len _ _ _ _ h
 have D:=hb s us I.kIn J;rw[bG]at D;refine iM (dL (F.run X.A X.stack s H ⟨us,[]⟩ us vs Q (E σ) hr I.env0 D r h) λr s' z=>?_);cases r with
 |error e=>exact hx pins σ H s e s' I z
 |ok fl =>
  cases fl with
  |ret u=>exact I.after z
  |next=>exact False.elim z
  |brk=>exact False.elim z
  |cont=>exact False.elim z
theorem xvd (F:FnOk X.prog X.w X.K X.mg X.base (CXE X.prog X.w) k f fd ps sp)(hr:Room k X.A)(hg:Gl X x)(hm:X.mg x=some (.ref f))(hk:W.keepIn X.K (.ref f)=true)(hb:Binds X.K fd ps [])(hx:j9 X E)
  (ha:PA X (e::es) t) (hdb:autoParam ((x==("__debug__" : Str))=false) aU1._auto_1) (he:autoParam (starEach (e::es) X.env=(false,eval e X.env)::starEach es X.env) aU4._auto_1) (hpl:autoParam ((backTo pos (starEach es X.env)).any (·.1)=false) aU4._auto_1) :
  PE X (.Call (.Name x p) (e::es) [] pos) (qzw sp E t):=by
 intro pins s σ H Q I h;refine ca (y6 I hg hm ?_ hdb);refine ff (h₀:=X.base) I.ok.mod.kin hk (thn (ha pos pins s σ H _ I h) λus s1 ⟨vs,H1,I1,r,q⟩=>⟨I1.kIn,?_⟩) he hpl;exact qy0 F hr hb hx I1 r q
theorem xwt {pl:Sem Bool}(he:PE X o ta)(c:Cls X.K C)(hm:Meth X.K C m f)(F:FnOk X.prog X.w X.K X.mg X.base (CXE X.prog X.w) k f fd ps sp)(hr:Room k X.A)(hb:Binds X.K fd ps [])(hx:j9 X E)(ha:PA X (e::es) t)
  (hst:autoParam (starEach (e::es) X.env=(false,eval e X.env)::starEach es X.env) aU4._auto_1) (hpl:autoParam ((backTo pos (starEach es X.env)).any (·.1)=false) aU4._auto_1)
  (ht:autoParam (eval (.Call (.Attribute o m apos) (e::es) [] pos) X.env=(do
   let ov <-eval o X.env
   standAt apos.atName
   let (f,first) <-holding [ov] (getMethod ov m pl)
   callWith pos f first (backTo pos (starEach (e::es) X.env)) (backToKw pos (keywordEach [] X.env)))) aU4._auto_1) :
  PE X (.Call (.Attribute o m apos) (e::es) [] pos) (qxm C m sp E ta t):=by
 intro pins s σ H Q I h;refine W.methodCall_KW (pl:=pl) (thn (he pins s σ H _ I h) λu s1 ⟨x,H1,I1,rx,a,dx,fs,ex,ea,l,q⟩=>?_) ht;subst ex;obtain rfl:u=Value.ref a:=rx;refine qwn I1 ea c hm l ?_;refine ff (first:=[.ref a]) (h₀:=X.base) I.ok.mod.kin hm.kp (thn (ha pos pins s1 σ H1 _ I1 q) λus s2 ⟨vs,H2,I2,r,q2⟩=>⟨I2.kIn,?_⟩) hst hpl;exact qy0 (us:=.ref a::us) (vs:=.ref a::vs) F hr hb hx I2 (.cons rfl r) q2
theorem wy2 {pl:Sem Bool}(he:PE X o ta)(c:Cls X.K C)(hm:Meth X.K C m f)(F:FnOk X.prog X.w X.K X.mg X.base (CXE X.prog X.w) k f fd ps sp)(hr:Room k X.A)(hb:Binds X.K fd ps [])(hx:j9 X E)
  (ht:autoParam (eval (.Call (.Attribute o m apos) [] [] pos) X.env=(do
   let ov <-eval o X.env
   standAt apos.atName
   let (f,first) <-holding [ov] (getMethod ov m pl)
   callWith pos f first (backTo pos (starEach [] X.env)) (backToKw pos (keywordEach [] X.env)))) aU4._auto_1) :
  PE X (.Call (.Attribute o m apos) [] [] pos) (qxm C m sp E ta qw6):=by
 intro pins s σ H Q I h;refine W.methodCall_KW (pl:=pl) (thn (he pins s σ H _ I h) λu s1 ⟨x,H1,I1,rx,a,dx,fs,ex,ea,l,q⟩=>?_) ht;subst ex;obtain rfl:u=Value.ref a:=rx;refine qwn I1 ea c hm l ?_;exact W.callWith_K0 (first:=[.ref a]) I1.kIn hm.kp (qy0 (us:=[.ref a]) (vs:=[.ref a]) F hr hb hx I1 (.cons rfl .nil) q)
theorem wy3 {pins:List (Aj×Obj)}{σ:St}{H:Hp}{s:Ab}{Q:VK}{us:List Ag}{vs:List V}(M:Mk X.K C f)(F:FnOk X.prog X.w X.K X.mg X.base (CXE X.prog X.w) k f fd ps sp)(hr:Room (k+1) X.A)(hb:Binds X.K fd ps [])
  (hx:j9 X E) (I:Inv X pins σ H s) (r:Vals vs us)
  (h:∀x dx,H x=none->H dx=none->dx≠x->sp (.ref x::vs) (upd (upd H dx (.own x)) x (.ins C dx [])) (λv H2=>v=.non/\Q (.ref x) H2) (E σ)) :
  wpAny (model X.prog X.w) X.A (call (.ref C) us) (EP X pins σ Q) X.xe s:=by
 have L:=h (s.heap.objs.size+1) s.heap.objs.size (I.hok.fresh (i6 _)) (I.hok.fresh (ai _)) (ay (dC _));have D:=Inv.made (C:=C) I;have J:Vals (V.ref (s.heap.objs.size+1)::vs) (Value.ref (s.heap.objs.size+1)::us):=.cons rfl r;have hl:((Value.ref (s.heap.objs.size+1)::us)++[]).length=ps.length:=by rw[bG,<-J.length];exact F.len _ _ _ _ L
 have U:=hb _ (Value.ref (s.heap.objs.size+1)::us) D.kIn hl;rw[bG]at U;refine iM (xq4 (f:=f) I.kIn M.makes M.init (eZ.mp M.fn) (dL (F.run _ X.stack _ _ ⟨Value.ref (s.heap.objs.size+1)::us,[]⟩ (Value.ref (s.heap.objs.size+1)::us) _ _ (E σ) (hr.make C us [])
  (D.env0.make C us []) U J L) λr s' z=>?_))
 cases r with
 |error e=>exact hx pins σ _ _ e s' D z
 |ok fl =>
  cases fl with
  |ret u =>
   obtain⟨v,H',I3,W,ev,Z⟩:=D.after z;subst ev;exact⟨W,⟨V.ref (s.heap.objs.size+1),H',I3,rfl,Z⟩⟩
  |next=>exact False.elim z
  |brk=>exact False.elim z
  |cont=>exact False.elim z
theorem xzq (M:Mk X.K C f)(F:FnOk X.prog X.w X.K X.mg X.base (CXE X.prog X.w) k f fd ps sp)(hr:Room (k+1) X.A)(hg:Gl X x)(hm:X.mg x=some (.ref C))(hb:Binds X.K fd ps [])(hx:j9 X E)
  (ha:PA X (e::es) t) (hdb:autoParam ((x==("__debug__" : Str))=false) aU1._auto_1) (he:autoParam (starEach (e::es) X.env=(false,eval e X.env)::starEach es X.env) aU4._auto_1) (hpl:autoParam ((backTo pos (starEach es X.env)).any (·.1)=false) aU4._auto_1) :
  PE X (.Call (.Name x p) (e::es) [] pos) (xz1 C sp E t):=by
 intro pins s σ H Q I h;refine ca (y6 I hg hm ?_ hdb);refine ff (h₀:=X.base) I.ok.mod.kin M.kp (thn (ha pos pins s σ H _ I h) λus s1 ⟨vs,H1,I1,r,q⟩=>⟨I1.kIn,?_⟩) he hpl;exact wy3 M F hr hb hx I1 r q
end
structure ExcC (K:Aa)(C:Aj):Prop where
 q:W.excIn K C [.type "ValueError",.type "Exception",.type "BaseException",.type "object"] "ValueError.__new__" = true
def tRaise (C:Aj)(E:St->XK)(t:TA):TS:=λD σ H=>t σ H λvs H1=>vs.length<=sizeLine/\E σ (.ref C) none H1
section
variable {X:Cx}{C:Aj}{E:St->XK}{x:Str}{np cpos pos:Pos}{e:Expr}{es:List Expr}{t:TA}
theorem v9 (hc:X.calm=true)(c:ExcC X.K C)(hR:xq9 X E)(hg:Gl X x)(hm:X.mg x=some (.ref C))(ha:PA X (e::es) t)(hdb:autoParam ((x==("__debug__" : Str))=false) aU1._auto_1)
  (he:autoParam (starEach (e::es) X.env=(false,eval e X.env)::starEach es X.env) aU4._auto_1) (hpl:autoParam ((backTo cpos (starEach es X.env)).any (·.1)=false) aU4._auto_1) :
  PS X (.Raise (some (.Call (.Name x np) (e::es) [] cpos)) none pos) (tRaise C E t):=by
 intro pins s σ H D I h;obtain⟨tl,N,a1,a2,a3,a4,a5,a6,a7,a8,a9,b0,b1,b2,b3,Z,mN,W,U,L,T⟩:=wkp I.ok.mod.kin c.q;refine wpAny_Raise_call_subT (C:=C) (nm:=a1) (q:=a2) (N:=N) (bs:=a3) (bm:=tl) (hdct:=a4) (sn:=a5) (sub:=a6) (ab:=a7) (col:=a8) (dd:=a9) (k0:=b0) (k1:=b1) (k2:=b2) (k3:=b3) (k5:=Z)
  eI (mN:=mN) (T.hasType eI.hasBase) (I.ok.hd hc) (by rw[he];show(false||(backTo cpos (starEach es X.env)).any (·.1))=false;rw[hpl];rfl) L (y6 I hg hm ⟨rfl,?_⟩ hdb)
 have F:=ha cpos pins s σ H _ I h;rw[he]at F ⊢;refine Calls.evalArgs_plain (aP F (λus s1 ⟨vs,H1,I1,r,hl,q⟩=>⟨rfl,by rw[<-r.length];exact hl,I1.bk _ _ W,U.keeps I1.bk,T.keeps I1.bk,λh' e J=>hR pins σ H1 s1 h' e C us I1 J q⟩) λ_ _ z=>z)
end
abbrev Cx.handling (X:Cx)(e:Aj):Cx:={ X with A:=X.A.mark (some (.ref e)),calm:=false,xe:=λ_ _=>False }
abbrev Cx.trying (X:Cx)(pn:List (Aj×Obj))(xe:Ag->Ab->Prop):Cx:={ X with pn:=pn,xe:=xe }
section
variable {X:Cx}{pins:List (Aj×Obj)}{σ:St}{H H':Hp}{s s':Ab}{e:Aj}
theorem Cx.Ok.handling (o:X.Ok)(e:Aj):(X.handling e).Ok :=
 ⟨o.mod,o.kind,o.glob,o.blt,o.above,o.inj,o.has,o.cab,λz=>(aJ z).elim,o.frames,o.stk,o.exf,o.bs,o.bsz,o.noex,o.exfs,o.funs,o.frf⟩
theorem Cx.Ok.trying (o:X.Ok)(pn:List (Aj×Obj))(xe:Ag->Ab->Prop):(X.trying pn xe).Ok :=
 ⟨o.mod,o.kind,o.glob,o.blt,o.above,o.inj,o.has,o.cab,o.hd,o.frames,o.stk,o.exf,o.bs,o.bsz,o.noex,o.exfs,o.funs,o.frf⟩
theorem Inv.handling (I:Inv X pins σ H s)(e:Aj):Inv (X.handling e) pins σ H s:=⟨I.ok.handling e,I.os,I.bare,I.base,I.loc,I.cell,I.free,I.freeC,I.pin,I.hok,I.len⟩
theorem Inv.unhandling (o:X.Ok)(I:Inv (X.handling e) pins σ H s):Inv X pins σ H s:=⟨o,I.os,I.bare,I.base,I.loc,I.cell,I.free,I.freeC,I.pin,I.hok,I.len⟩
theorem Inv.trying (I:Inv X pins σ H s)(xe:Ag->Ab->Prop):Inv (X.trying (X.pn++pins) xe) [] σ H s :=
 ⟨I.ok.trying _ _,I.os,I.bare,I.base,I.loc,I.cell,I.free,I.freeC,λp hp=>I.pin p ((aY.mp hp).elim (λz=>z) λz=>nomatch z),I.hok,I.len⟩
theorem Inv.untrying {pins':List (Aj×Obj)}{xe:Ag->Ab->Prop}(o:X.Ok)(I:Inv (X.trying (X.pn++pins) xe) pins' σ H s):Inv X pins σ H s :=
 ⟨o,I.os,I.bare,I.base,I.loc,I.cell,I.free,I.freeC,λp hp=>I.pin p (bD _ hp),I.hok,I.len⟩
theorem SP.untrying {pins':List (Aj×Obj)}{xe:Ag->Ab->Prop}{D:Ends}{f:Flow}(o:X.Ok)(h:SP (X.trying (X.pn++pins) xe) pins' D f s'):SP X pins D f s':=by
 cases f with
 |next=>obtain⟨a,b,c,d⟩:=h;exact⟨a,b,c.untrying o,d⟩
 |brk=>obtain⟨a,b,c,d⟩:=h;exact⟨a,b,c.untrying o,d⟩
 |cont=>obtain⟨a,b,c,d⟩:=h;exact⟨a,b,c.untrying o,d⟩
 |ret u=>obtain⟨v,a,b,c,d⟩:=h;exact⟨v,a,b,c.untrying o,d⟩
theorem SP.unhandling {D:Ends}{f:Flow}(o:X.Ok)(h:SP (X.handling e) pins D f s'):SP X pins D f s':=by
 cases f with
 |next=>obtain⟨a,b,c,d⟩:=h;exact⟨a,b,c.unhandling o,d⟩
 |brk=>obtain⟨a,b,c,d⟩:=h;exact⟨a,b,c.unhandling o,d⟩
 |cont=>obtain⟨a,b,c,d⟩:=h;exact⟨a,b,c.unhandling o,d⟩
 |ret u=>obtain⟨v,a,b,c,d⟩:=h;exact⟨v,a,b,c.unhandling o,d⟩
def qzb (K:Aa)(C D:Aj):Prop:=∀ {M:Model} {A:Ae} {E:Ag->Ab->Prop} {h:Heap} {g:Array GenState} {d:Drawn} {t:Nat} {os:OsState} {e:Aj} {oe:Obj} {Q:Bool->Ab->Prop},
 K.In h->h.get? e=some oe->oe.cls=.ref C->Q true ⟨h,g,d,t,os⟩->wpAny M A (excMatches (.ref e) (.ref D)) Q E ⟨h,g,d,t,os⟩
theorem Zt {K:Aa}{C:Aj}(c:ExcC K C):qzb K C C:=by intro M A E h g d t J e L Q X z D q;obtain⟨tl,N,a1,a2,a3,a4,a5,a6,a7,a8,a9,b0,b1,b2,b3,b5,U,F,Z,W,T⟩:=wkp X c.q;exact wpAny_excMatches_sub_self F z D (T.hasType eI.hasBase) q
end
section
variable {X:Cx}{x:Str}{D0:Aj}{np hpos pos:Pos}{b₀:Stmt}{body suite:List Stmt}{tb:(St->XK)->TS}{th:TS}
end
def Sm (n:Nat)(i:Int):Prop:=i.natAbs<2 ^ n
theorem Sm.bits {n:Nat}{i:Int}(h:Sm n i):Builtin.Int.intBits i<=n:=PyProof.Rows.intBits_le h
theorem Sm.mono {n m:Nat}{i:Int}(h:Sm n i)(hm:n<=m):Sm m i:=aI h (cS ⋯ hm)
theorem Sm.mul {n m:Nat}{i j:Int}(h:Sm n i)(h':Sm m j):Sm (n+m) (i*j):=by unfold Sm at *;rw[fA,Nat.pow_add];exact Nat.mul_lt_mul_of_lt_of_le h (ba h') (iR m)
theorem Sm.of_le {n:Nat}{i j:Int}(h:Sm n j)(e:i.natAbs<=j.natAbs):Sm n i:=dM e h
theorem Sm.ok {n m:Nat}{i j:Int}(h:Sm n i)(h':Sm m j)(e:n+m<=134217728):IntMulOk i j:=IntMulOk.of_le h.bits h'.bits e
theorem Sm.log {n:Nat}{i:Int}(h:Sm n i)(hn:n<=9000):i.natAbs.log2<9000:=by
 by_cases h0:i.natAbs=0
 .rw[h0];decide
 .exact aI ((Nat.log2_lt h0).mpr h) hn
theorem Sm.noPl {n:Nat}{i j:Int}(h:Sm n j)(hn:n<=9000):Builtin.divisionGoesByPylong i j=false:=PyProof.noPylong_of_log2 (h.log hn)
section
variable {X:Cx}
theorem xy:OpR X (binaryOp .Mult) (rI IntMulOk λi j=>.int (i*j)):=opI λ_ _ _ _ _ _ _ hc q=>mul_int q hc
theorem j7:OpR X (binaryOp .FloorDiv) (rI (λ_ j=>0<j/\Sm 9000 j) λi j=>.int (i/j)):=opI λi j _ _ _ _ _ hc q =>
 floordiv_int ⋯ (by rw[Int.fdiv_eq_ediv_of_nonneg i (gv hc.1)];exact q) (.inl (hc.2.noPl (ai _)))
end
mutual
def RD (K:Aa)(H:Hp):PyData->V->Prop
 |.none,v=>v=.non
 |.bool b,v=>v=.bl b
 |.int i,v=>v=.int i
 |.str x,v=>v=.str x
 |.list ds,v=>∃a xs,v=.ref a/\SqL K H a xs/\RDs K H ds xs
 |.tuple ds,v=>∃a xs,v=.ref a/\SqT K H a xs/\RDs K H ds xs
 |.dict _,_=>False
def RDs (K:Aa)(H:Hp):List PyData->List V->Prop
 |[],xs=>xs=[]
 |d::ds,xs=>∃y ys,xs=y::ys/\RD K H d y/\RDs K H ds ys
end
section
variable {X:Cx}{pins:List (Aj×Obj)}{σ:St}{H:Hp}{s:Ab}
mutual
theorem qw0 (I:Inv X pins σ H s):∀(d:PyData) (v:V) (u:Ag),RD X.K H d v->RelV v u->∃as,Reads s.heap u d as
 |.none,v,u,h,r=>by rw[RD]at h;subst h;cases(show u=Value.none from r);exact⟨_,.none⟩
 |.bool b,v,u,h,r=>by rw[RD]at h;subst h;cases(show u=Value.bool b from r);exact⟨_,.bool b⟩
 |.int i,v,u,h,r=>by rw[RD]at h;subst h;obtain⟨t,rfl⟩:=(show ∃t,u=Value.int i t from r);exact⟨_,.int i t⟩
 |.str x,v,u,h,r=>by rw[RD]at h;subst h;obtain⟨t,rfl⟩:=(show ∃t,u=Value.str x t from r);exact⟨_,.str x t⟩
 |.list ds,v,u,h,r=>by rw[RD]at h;obtain⟨a,xs,rfl,hs,hd⟩:=h;cases(show u=Value.ref a from r);obtain⟨its,rv,⟨o,n,e1,e2,_,e3⟩,_⟩:=I.list hs;obtain⟨as,ha⟩:=Jw I ds xs its hd rv;exact⟨_,.list e1 e2 e3 (by simpa using ha)⟩
 |.tuple ds,v,u,h,r=>by rw[RD]at h;obtain⟨a,xs,rfl,hs,hd⟩:=h;cases(show u=Value.ref a from r);obtain⟨its,rv,⟨o,e1,e2,n,e3⟩,_⟩:=I.tuple hs;obtain⟨as,ha⟩:=Jw I ds xs its hd rv;exact⟨_,.tuple e1 e2 e3 (by simpa using ha)⟩
 |.dict _,_,_,h,_=>by rw[RD]at h;exact h.elim
theorem Jw (I:Inv X pins σ H s):∀(ds:List PyData) (vs:List V) (us:List Ag),RDs X.K H ds vs->Vals vs us->∃as,ReadsAll s.heap us ds as
 |[],vs,us,h,r=>by rw[RDs]at h;subst h;cases r;exact⟨_,.nil⟩
 |d::ds,vs,us,h,r=>by
  rw[RDs]at h;obtain⟨y,ys,rfl,h1,h2⟩:=h;cases r with
  |cons r1 r2 =>
   obtain⟨as,a1⟩:=qw0 I d y _ h1 r1;obtain⟨bs,a2⟩:=Jw I ds ys _ h2 r2;exact⟨_,.cons a1 a2⟩
end
def rEqD (K:Aa)(neg:Bool):R2:=λx y H Q=>∃d e,RD K H d x/\RD K H e y/\d.canLay0=true/\e.canLay0=true/\min d.depth e.depth<=60/\Q (.bl (if neg then !PyData.eqv d e else PyData.eqv d e)) H
theorem op_eqD (hu:X.A.units+64<cLine):OpR X (compareOp .Eq) (rEqD X.K false):=by intro pins s σ H x y v u Q I D z h;obtain⟨d,e,h1,h2,J,F,W,q⟩:=h;obtain⟨as,U⟩:=qw0 I d x v h1 D;obtain⟨Z,L⟩:=qw0 I e y u h2 z;exact PySem.SeqAt.compareEq_reads U L J F ⋯ ⟨.bl _,H,I,rfl,q⟩
end
def ptD (p:Int×Int):PyData:=.tuple [.int p.1,.int p.2]
theorem ww9:∀(xs ys:List Int),PyData.eqvAll (xs.map .int) (ys.map .int)=decide (xs=ys)
 |[],[]=>rfl
 |[],_::_=>rfl
 |_::_,[]=>rfl
 |x::xs,y::ys=>by
  rw[aO,aO,PyData.eqvAll,ww9 xs ys,PyData.eqv];by_cases h:x=y
  .subst h;simp
  .simp[h]
theorem eqv_pt (p q:Int×Int):PyData.eqv (ptD p) (ptD q)=decide (p=q):=by obtain⟨a,b⟩:=p;obtain⟨c,d⟩:=q;unfold ptD;rw[PyData.eqv];have:=ww9 [a,b] [c,d];rw[aO,aO,du,aO,aO,du]at this;rw[this];simp
end L2
namespace L2
open PySem PySem.Spec PyProof.Rows
section
variable {P:Ac}{w:Ah}{K:Aa}{mg:Str->Option Ag}{base:Heap}
theorem Fun.okX {x qual:Str}{st:Stmt}{f:Aj}{fd:Ad}{N ps:List Str}{k:Nat}{sp:Sp}(F:Fun K x qual st f fd)(S:FnScope N ps (ww st))(len:∀vs H Q E,sp vs H Q E->vs.length=ps.length)
  (body:∀(cdv:Ag) (A:Ae) (outer:List Env) (s:Ab) (H:Hp) (vs:List V) (Q:VK) (E:XK),Room k (A.deeper (envOfC qual (ww st) s.heap.objs.size f cdv))->sp vs H Q E ->
   ∃t,PSs (Yp (CXE P w) P w K mg base N qual (ww st) f cdv A outer s H E) (zr st) t/\t { nx:=λ_ H'=>Q .non H',rt:=Q } (Q4 N vs) H):FnOk P w K mg base (CXE P w) (k+1) f fd ps sp:=by
 obtain⟨Z,W,kV,ab,pm,an,cdv,ct,U,rfl,z,L⟩:=F.ex;exact xvc z L S len λA outer s H vs Q E J D=>body cdv A outer s H vs Q E J D
structure DefIn (K:Aa)(x:Str)(st:Stmt):Prop where
 ex:∃f fd,W.nsIn K mainGlobals x=some (some (.ref f))/\Fun K x x st f fd
theorem def_mk {x:Str}{st:Stmt}{f:Aj}{oc:Ag}{od an:Option Aj}{osl:Array (Option Ag)}{kV doc pm cdv ct:Ag}(a:W.nsIn K mainGlobals x=some (some (.ref f)))
  (l:K.lookup f=some ⟨oc,od,.func (W.fnOf x x (ku st) (zr st) (ww st) .none kV doc pm an cdv ct),osl⟩) (c:W.codeIn K cdv x=true) (k:W.keepIn K (.ref f)=true):DefIn K x st:=⟨_,_,a,wz1 l c k⟩
def xj (x:Str)(st:Stmt)(ps:List Str):Prop:=∀(kV doc pm:Ag) (an:Option Aj) (cdv ct:Ag) (us:List Ag),us.length=ps.length->bindArgs (W.fnOf x x (ku st) (zr st) (ww st) .none kV doc pm an cdv ct) ⟨us,[]⟩=pure (ps.zip us)
theorem bA1 {f}{ps:List Str}{u:List Ag}(h:u.length=1)(k:∀a,bindArgs f ⟨[a],[]⟩=pure (ps.zip [a])):bindArgs f ⟨u,[]⟩=pure (ps.zip u):=match u,h with|[a],_=>k a
theorem bA2 {f}{ps:List Str}{u:List Ag}(h:u.length=2)(k:∀a b,bindArgs f ⟨[a,b],[]⟩=pure (ps.zip [a,b])):bindArgs f ⟨u,[]⟩=pure (ps.zip u):=match u,h with|[a,b],_=>k a b
theorem bA3 {f}{ps:List Str}{u:List Ag}(h:u.length=3)(k:∀a b c,bindArgs f ⟨[a,b,c],[]⟩=pure (ps.zip [a,b,c])):bindArgs f ⟨u,[]⟩=pure (ps.zip u):=match u,h with|[a,b,c],_=>k a b c
theorem bA4 {f}{ps:List Str}{u:List Ag}(h:u.length=4)(k:∀a b c d,bindArgs f ⟨[a,b,c,d],[]⟩=pure (ps.zip [a,b,c,d])):bindArgs f ⟨u,[]⟩=pure (ps.zip u):=match u,h with|[a,b,c,d],_=>k a b c d
structure Cal (P:Ac)(w:Ah)(K:Aa)(mg:Str->Option Ag)(base:Heap)(x:Str)(k:Nat)(sp:Sp):Prop where
 ex:∃f fd ps,mg x=some (.ref f)/\FnOk P w K mg base (CXE P w) k f fd ps sp/\W.keepIn K (.ref f)=true/\Binds K fd ps []
theorem DefIn.cal {x:Str}{st:Stmt}{ps:List Str}{k:Nat}{sp:Sp}{h:Heap}(d:DefIn K x st)(KX:K.In h)(G:h.Ns mainGlobals mg)(b:xj x st ps)(ok:∀f fd,Fun K x x st f fd->FnOk P w K mg base (CXE P w) k f fd ps sp):Cal P w K mg base x k sp:=by obtain⟨f,fd,a,F⟩:=d.ex;exact⟨f,fd,ps,bh KX G a,ok f fd F,F.kp,F.binds b⟩
end
section
variable {X:Cx}{x:Str}{k:Nat}{sp:Sp}{E:St->XK}{p pos:Pos}{e:Expr}{es:List Expr}{t:TA}
theorem zm (c:Cal X.prog X.w X.K X.mg X.base x k sp)(hr:Room k X.A)(hg:Gl X x)(hx:j9 X E)
  (ha:PA X (e::es) t) (hdb:autoParam ((x==("__debug__" : Str))=false) aU1._auto_1) (he:autoParam (starEach (e::es) X.env=(false,eval e X.env)::starEach es X.env) aU4._auto_1) (hpl:autoParam ((backTo pos (starEach es X.env)).any (·.1)=false) aU4._auto_1) :
  PE X (.Call (.Name x p) (e::es) [] pos) (qzw sp E t):=by
 obtain⟨f,fd,ps,D,F,z,b⟩:=c.ex;exact xvd F hr hg D z b hx ha hdb he hpl
end
def tCut (t u:TS):TS:=λD σ H=>∃R:St->Hp->Prop,t { D with nx:=R } σ H/\∀σ' H',R σ' H'->u D σ' H'
theorem kr {X:Cx}{st:Stmt}{rest:List Stmt}{t u:TS}(h1:PS X st t)(h2:PSs X rest u):PSs X (st::rest) (tCut t u):=by
 intro pins s σ H D I ⟨R,h,hR⟩;refine iz (thn (h1 pins s σ H { D with nx:=R } I h) λf F q=>?_);cases f with
 |next =>
  obtain⟨z,H1,L,J⟩:=q;exact h2 pins F z H1 D L (hR z H1 J)
 |brk=>exact q
 |cont=>exact q
 |ret u=>exact q
theorem jq {c A B:Prop}[Decidable c](h1:c->A)(h2:¬ c->B):if decide c=true then A else B:=by
 by_cases h:c
 .rw[aM h];exact Q6 (h1 h)
 .rw[aX h];exact Y8 (h2 h)
theorem deqI {i j:Int}:decide (V.int i=V.int j)=decide (i=j):=by
 by_cases h:i=j
 .subst h;simp
 .simp[h]
theorem jx {i j:Int}{A B:Prop}(h1:i=j->A)(h2:i≠j->B):if decide (V.int i=V.int j)=true then A else B:=by rw[deqI];exact jq h1 h2
theorem xN {i j:Int}{A B:Prop}(k:B)(h:autoParam (i≠j) aU1._auto_1):if decide (V.int i=V.int j)=true then A else B:=jx (λz=>absurd z h) (λ_=>k)
theorem Same.upd {H:Hp}{p:Aj}{o:HO}(n:H p=none):Same H (upd H p o):=λb u e=>by rw[wv (wj e n)];exact e
theorem Same.rd {H H':Hp}{a:Aj}{o:HO}(h:Same H H')(r:Rd H a o):Rd H' a o:=by
 rcases r with r|⟨u,r⟩
 .exact .inl (h a _ r)
 .exact .inr ⟨u,h a _ r⟩
theorem Same.sqt {K:Aa}{H H':Hp}{a:Aj}{xs:List V}(h:Same H H')(s:SqT K H a xs):SqT K H' a xs:=by
 rcases s with s|s
 .exact .inl (h.rd s)
 .exact .inr s
theorem Same.sql {K:Aa}{H H':Hp}{a:Aj}{xs:List V}(h:Same H H')(s:SqL K H a xs):SqL K H' a xs:=h.seq s
theorem SqT.new {K:Aa}{H:Hp}{p:Aj}{xs:List V}:SqT K (upd H p (.tup xs)) p xs:=SqT.of qh
theorem SqL.new {K:Aa}{H:Hp}{p:Aj}{xs:List V}:SqL K (upd H p (.lst xs)) p xs:=SqL.of qh
theorem Y3:bootBuiltins "abs" = some (.builtin "abs"):=by decide +kernel
theorem Yt {ns:List Int}{i:Int}(h0:0<=i)(h1:i<ns.length):atI (ns.map V.int) i=some (V.int (ns.getD i.toNat 0)):=by
 have z:i.toNat<ns.length:=by lia
 have e:(ns.map V.int)[i.toNat]?=some (V.int (ns.getD i.toNat 0)):=by rw[av,ae,aa z];rfl
 have:=zt e;rwa [bO h0]at this
def wwb (ns:List Int)(i:Int):Int:=if i<ns.length then ns.getD i.toNat 0 else if(ns.length:Int)=0 then 7*i+3 else ns.getD (i%ns.length).toNat 0+1009*i
def divs (c:Int):Nat->Int
 |0=>c
 |n+1=>divs c n/1000
def qjk (K:Aa):Sp:=λvs H Q _=>∃(a:Aj) (ns:List Int) (i:Int),vs=[.ref a,.int i]/\SqL K H a (ns.map V.int)/\0<=i/\∀r,r=wwb ns i->Q (.int r) H
def Q9 (c:Int):Int:=if c<0 then -c else c
def qk5 (c t:Int):Int:=(c%1000003*48271+t*7919+101)%999983
def wqn (c t:Int):Int:=(qk5 c t*qk5 c t+c%1000003*31+t*104729)%1000033
def wxp (c t:Int):Int:=if 10 ^ 18<=Q9 c then(if c<0 then divs (Q9 c) t.toNat%1000 else divs (Q9 c) t.toNat) else(wqn c t*wqn c t+qk5 c t*17+t*30011)%999979
def quh (ns:List Int)(i t m:Int):Int:=wxp (wwb ns i) t%m
theorem xzp (ns:List Int)(i t m:Int)(h:0<m):0<=quh ns i t m:=bV _ ⋯
theorem xw5 (ns:List Int)(i t m:Int)(h:0<m):quh ns i t m<m:=bL _ h
theorem xxh {c t:Int}(h:10 ^ 18<=Q9 c)(n:c<0):wxp c t=divs (Q9 c) t.toNat%1000:=by rw[wxp,aw h,aw n]
theorem xqn {c t:Int}(h:10 ^ 18<=Q9 c)(n:¬ c<0):wxp c t=divs (Q9 c) t.toNat:=by rw[wxp,aw h,ao n]
theorem xw6 {c t:Int}(h:¬ 10 ^ 18<=Q9 c):wxp c t=(wqn c t*wqn c t+qk5 c t*17+t*30011)%999979:=by rw[wxp,ao h]
def Z6 (K:Aa):Sp:=λvs H Q _=>∃(a:Aj) (ns:List Int) (i t m:Int),vs=[.ref a,.int i,.int t,.int m]/\SqL K H a (ns.map V.int)/\0<=i/\0<=t/\t<1000000/\0<m /\
 ∀r,r=quh ns i t m->0<=r->r<m->Q (.int r) H
theorem Sm.small {n:Nat}{i:Int}(h1:-(2 ^ 64)<=i)(h2:i<=2 ^ 64)(hn:65<=n):Sm n i:=by refine Sm.mono (n:=65) ?_ hn;unfold Sm;lia
theorem sz1 {x:V}:[x].length<=sizeLine:=by show 1<=sizeLine;decide
theorem sz2 {x y:V}:[x,y].length<=sizeLine:=by show 2<=sizeLine;decide
theorem sz0:([]:List V).length<=sizeLine:=by show 0<=sizeLine;decide
end L2
namespace L2
open PySem
def qq0 (x y:Int):Int:=((Nat.gcd x.toNat y.toNat:Nat):Int)
theorem wug {x:Int}(h:0<=x):qq0 x 0=x:=by unfold qq0;have:(0:Int).toNat=0:=rfl;rw[this,Nat.gcd_zero_right];lia
theorem wy4 {x y:Int}(hx:0<=x)(hy:0<y):qq0 y (x%y)=qq0 x y:=by
 unfold qq0;have e:(x%y).toNat=x.toNat%y.toNat:=by
  have h1:x=(x.toNat:Int):=by lia
  have h2:y=(y.toNat:Int):=by lia
  have z:x%y=((x.toNat%y.toNat:Nat):Int):=by
   conv=>lhs;rw[h1,h2]
   exact(Int.natCast_emod _ _).symm
  rw[z];exact bR _
 rw[e,Nat.gcd_comm y.toNat,<-Nat.gcd_rec,Nat.gcd_comm]
theorem wku (t:Int):Q9 t=(t.natAbs:Int):=by unfold Q9;split <;> lia
theorem xkg (t:Int):0<=Q9 t:=by rw[wku];lia
theorem jj (t b:Int):qq0 (Q9 t) b=((Nat.gcd t.natAbs b.toNat:Nat):Int):=by unfold qq0;rw[wku,bR]
def gOf (t b:Int):Int:=qq0 (Q9 t) b
def wy (t b:Int):Int×Int:=(t/gOf t b,b/gOf t b)
theorem uw {t b:Int}(h:1<=b):1<=gOf t b:=by unfold gOf;rw[jj];have:0<Nat.gcd t.natAbs b.toNat:=Nat.gcd_pos_of_pos_right _ ⋯;lia
theorem gOf_le {t b:Int}(h:1<=b):gOf t b<=b:=by unfold gOf;rw[jj];have:Nat.gcd t.natAbs b.toNat<=b.toNat:=Nat.gcd_le_right _ ⋯;lia
theorem wu5 {t b:Int}(h:1<=b):gOf t b∣b:=by
 unfold gOf;rw[jj];have h1:((Nat.gcd t.natAbs b.toNat:Nat):Int)∣(b.toNat:Int):=iC.mpr (Nat.gcd_dvd_right _ _);have h2:(b.toNat:Int)=b:=by lia
 rwa [h2]at h1
theorem wy8 {t b:Int}:gOf t b∣t:=by unfold gOf;rw[jj];have h1:((Nat.gcd t.natAbs b.toNat:Nat):Int)∣(t.natAbs:Int):=iC.mpr (Nat.gcd_dvd_left _ _);exact Int.dvd_natAbs.mp h1
theorem qk0 {t b:Int}:gOf t b*(t/gOf t b)=t:=fV wy8
theorem qqh {t b:Int}(h:1<=b):gOf t b*(b/gOf t b)=b:=fV (wu5 h)
theorem v6 {t b:Int}(h:1<=b):(wy t b).1*b=t*(wy t b).2:=by
 unfold wy;dsimp only;have h1:=qk0 (t:=t) (b:=b);have h2:=qqh (t:=t) (b:=b) h
 conv=>lhs;rw[<-h2]
 conv=>rhs;rw[<-h1]
 rw[h1,h2];have D:t/gOf t b*b=t/gOf t b*(gOf t b*(b/gOf t b)):=by rw[h2]
 have z:t*(b/gOf t b)=gOf t b*(t/gOf t b)*(b/gOf t b):=by rw[h1]
 rw[D,z,<-ii,eJ (t/gOf t b)]
theorem vj {t b:Int}(h:1<=b):1<=(wy t b).2:=by
 show 1<=b/gOf t b;have h2:=qqh (t:=t) (b:=b) h;have D:=uw (t:=t) h;have:0<b/gOf t b:=by
  rcases bU 0 (b/gOf t b) with z|z
  .exact z
  .have:=aZ z (show 0<=gOf t b by lia);rw[h2,Int.mul_zero]at this;lia
 lia
theorem uk {t b:Int}(h:1<=b):(wy t b).2<=b:=Int.ediv_le_self _ ⋯
theorem wx4 {t b:Int}(h:1<=b):gOf (wy t b).1 (wy t b).2=1:=by
 have h3:=uw (t:=t) h;have Z:=vj (t:=t) h;obtain⟨g,z⟩:∃g:Nat,gOf t b=(g:Int):=⟨_,by unfold gOf;exact jj t b⟩;have L:0<g:=by lia
 have J:g=Nat.gcd t.natAbs b.toNat:=by
  have:(g:Int)=((Nat.gcd t.natAbs b.toNat:Nat):Int):=by rw[<-z];unfold gOf;exact jj t b
  lia
 have U:g*(wy t b).1.natAbs=t.natAbs:=by have:=qk0 (t:=t) (b:=b);have e:=bT Int.natAbs this;rw[fA,z]at e;simpa [wy,z] using e
 have W:g*(wy t b).2.toNat=b.toNat:=by
  have:=qqh (t:=t) (b:=b) h;rw[z]at this;have q:(wy t b).2=b/(g:Int):=by unfold wy;rw[z]
  have D:b/(g:Int)=((b/(g:Int)).toNat:Int):=by rw[<-q];lia
  rw[q];rw[D]at this;have:((g*(b/(g:Int)).toNat:Nat):Int)=b:=by rw[iT];exact this
  lia
 unfold gOf;rw[jj];have F:g*Nat.gcd (wy t b).1.natAbs (wy t b).2.toNat=g*1:=by rw[<-Nat.gcd_mul_left,U,W,<-J,Nat.mul_one]
 have:=Nat.eq_of_mul_eq_mul_left L F;rw[this];rfl
theorem xjh {t b c:Int}(h:1<=b)(hc:1<=c):gOf (t*c) (b*c)=gOf t b*c:=by
 unfold gOf;rw[jj,jj];have J:(t*c).natAbs=t.natAbs*c.toNat:=by
  rw[fA];have:c.natAbs=c.toNat:=by lia
  rw[this]
 have F:(b*c).toNat=b.toNat*c.toNat:=by
  have D:b=(b.toNat:Int):=by lia
  have z:c=(c.toNat:Int):=by lia
  have:b*c=((b.toNat*c.toNat:Nat):Int):=by rw[iT,<-D,<-z]
  lia
 rw[J,F,Nat.gcd_mul_right,iT];have:(c.toNat:Int)=c:=by lia
 rw[this]
theorem Qn {t b c:Int}(h:1<=b)(hc:1<=c):wy (t*c) (b*c)=wy t b:=by unfold wy;rw[xjh h hc];have hg:=uw (t:=t) h;rw[dU _ _ (show 0<c by lia),dU _ _ (show 0<c by lia)]
end L2
namespace L2
open PySem PySem.Spec PyProof.Rows
def CapAll (env:Env):List (Str×Aj)->Prop
 |[]=>True
 |(y,c)::r=>env.cells.lookup y=some c/\CapAll env r
theorem CapAll.look {env:Env}:∀ {cl:List (Str×Aj)},CapAll env cl->∀ {y:Str} {c:Aj},cl.lookup y=some c->env.cells.lookup y=some c
 |[],_,_,_,e=>by cases e
 |(z,d)::r,h,y,c,e=>by
  rw[bn]at e;cases hb:y==z with
  |true =>
   rw[hb]at e;rw[eq_of_beq hb];exact h.1.trans e
  |false =>
   rw[hb]at e;exact CapAll.look h.2 e
def HasAll (cl:List (Str×Aj)):List (Str×NameKind)->Prop
 |[]=>True
 |(n,k)::r=>(k=.free->∃c,cl.lookup n=some c)/\k≠.cell/\HasAll cl r
theorem HasAll.nocell {cl:List (Str×Aj)}:∀ {ns:List (Str×NameKind)},HasAll cl ns->∀y∈ns,y.2≠.cell
 |(n,k)::r,h,y,hy=>by
  rcases aC.mp hy with rfl|hy
  .exact h.2.1
  .exact HasAll.nocell h.2.2 y hy
theorem HasAll.has {cl:List (Str×Aj)}{env:Env}:∀ {ns:List (Str×NameKind)},HasAll cl ns->∀ {x:Str} {q:NameKind},q=.cell\/q=.free ->
  (ns.map λ(n,k)=>if(k==NameKind.free&&env.scope.kind==.function&&env.kindOf n==some .cell) then(n,NameKind.cell) else(n,k)).lookup x=some q->∃c,cl.lookup x=some c
 |[],_,_,_,_,e=>by cases e
 |(n,k)::r,h,x,q,hq,e=>by
  have ih:=HasAll.has (env:=env) h.2.2 (x:=x) hq;rw[aO]at e;by_cases hc:(k==NameKind.free&&env.scope.kind==.function&&env.kindOf n==some .cell)=true
  .have e':=e;dsimp only at e';rw[aw hc,bn]at e';cases hb:x==n with
   |true =>
    rw[cn,cn]at hc;obtain⟨c,hcc⟩:=h.1 (eq_of_beq hc.1.1);exact⟨c,by rw[eq_of_beq hb];exact hcc⟩
   |false =>
    rw[hb]at e';exact ih e'
  .have e':=e;dsimp only at e';rw[ao hc,bn]at e';cases hb:x==n with
   |true =>
    rw[hb]at e';have ek:k=q:=ak e';rcases hq with rfl|rfl
    .exact absurd ek h.2.1
    .obtain⟨c,hcc⟩:=h.1 ek;exact⟨c,by rw[eq_of_beq hb];exact hcc⟩
   |false =>
    rw[hb]at e';exact ih e'
def CapIx (X:Cx)(scope:Scope)(cl:List (Str×Aj)):List Nat->Prop
 |[]=>True
 |j::r=>(∃y c,X.N[j]?=some y/\X.env.scope.names.lookup y=some .cell/\(relabel scope X.env).names.lookup y=some .cell/\cl.lookup y=some c)/\CapIx X scope cl r
theorem CapIx.get {X:Cx}{scope:Scope}{cl:List (Str×Aj)}:∀ {M:List Nat},CapIx X scope cl M->∀ {k j:Nat},M[k]?=some j ->
  ∃y c,X.N[j]?=some y/\X.env.scope.names.lookup y=some .cell/\(relabel scope X.env).names.lookup y=some .cell/\cl.lookup y=some c
 |[],_,k,j,e=>by cases e
 |i::r,h,0,j,e=>by cases e;exact h.1
 |i::r,h,k+1,j,e=>CapIx.get h.2 (k:=k) e
def Qs (X:Cx)(x:Str)(M:List Nat):List Str:=x::M.map λj=>X.N.getD j Str.empty
def zk (M:List Nat)(σ:St)(o:Option V):St:=o::M.map λj=>(σ[j]?).join
abbrev z8 (X:Cx)(scope:Scope)(cl:List (Str×Aj))(x:Str)(M:List Nat)(C:Aj)(s2:Ab)(H2:Hp)(fp:List Aj)(pn:List (Aj×Obj)):Cx :=
 { X with N:=Qs X x M,s₀:=s2,H₀:=H2,env:=compEnvC scope cl C X.env,outer:=X.stack,ex:=fp,fn:=λ_=>false,pn:=pn,xe:=λ_ _=>False }
section
variable {X:Cx}{pins:List (Aj×Obj)}{σ:St}{H:Hp}{s2:Ab}{scope:Scope}{cl:List (Str×Aj)}{x:Str}{M:List Nat}{fp:List Aj}{C:Aj}{h1:Heap}{tk:Nat}
theorem Inv.compG {oo:HO}{xs:List Str}(I:Inv X pins σ H s2)(hc:CapAll X.env cl)(hh:HasAll cl scope.names)(hm:CapIx X scope cl M)(hk:scope.kind=.function)(hC:s2.heap.objs.size<C)
  (keep:∀b o,s2.heap.get? b=some o->h1.get? b=some o) (hn:h1.Ns C λ_=>none) (hD:ObjOk X.prog X.w (upd H s2.heap.objs.size oo) h1 s2.heap.objs.size oo)
  (hfp:∀b∈fp,vh X pins H b) (hob:∀b∈fp,∃o,s2.heap.get? b=some o) :
  Inv { X with N:=xs++M.map λj=>X.N.getD j Str.empty,s₀:=s2,H₀:=H,env:=compEnvC scope cl C X.env,outer:=X.stack,ex:=fp,fn:=λ_=>false,pn:=X.pn++pins,xe:=λ_ _=>False } [] ((xs.map λ_=>none)++M.map λj=>(σ[j]?).join) (upd H s2.heap.objs.size oo) { s2 with heap:=h1,toks:=tk }:=by
 have as:=I.hok.fresh (a:=s2.heap.objs.size) (ai _);have o:=I.ok;have L:∀y c,cl.lookup y=some c->X.env.cells.lookup y=some c:=λy c e=>hc.look e;have ap:∀b∈fp,b<s2.heap.objs.size:=λb U=>by obtain⟨J,e⟩:=hob b U;exact aj e
 have ad:∀b∈fp,b∉frs X.stack:=λb U z=>by
  rcases aC.mp (I.stkSub b z) with z|z
  .exact(hfp b U).2.1 z
  .exact(hfp b U).2.2.1 z
 have a0:H C=none:=I.hok.fresh (ba hC);refine⟨⟨o.mod,hk,o.glob,o.blt,ba hC,λy z c F D=>o.inj y z c (L y c F) (L z c D),λy Z=>?_,λy c z=>(aJ z).elim,o.hd,o.frames,.inl rfl,λb U=>⟨ay (aR (ap b U) hC),λy c e=>(hfp b U).2.2.2.2.1 y c (L y c e)⟩,
  λb J e=>I.bs b J e,bo o.bsz I.sz,λb J e z=>?_,ad,I.stack,I.stkFree⟩,rfl,I.bare,?_,?_,λy c e=>?_,?_,λy c e=>?_,λp hp=>?_,?_,?_⟩
 .rcases Z with Z|Z
  .exact hh.has (.inl rfl) Z
  .exact hh.has (.inr rfl) Z
 .obtain⟨F,D⟩:=I.bs b J e;exact(hfp b z).2.2.2.1.elim (λq=>o.noex b J e q) λq=>by have:=o.bs b J e;exact aN _ (aI (aj this.1) q)
 .exact(Un.laid (fs:=frs X.stack) (ex:=fp) (o:=oo) keep (ai _) as)
 .refine⟨_,hn,λi z v F D e3=>?_⟩;rcases bj i xs.length with hi|hi
  .have D:((xs.map λ_=>(none:Option V))++M.map λj=>(σ[j]?).join)[i]?=some (some v):=D;rw[aS (by rw[af];exact hi),av,aa hi]at D;cases D
  have W:(xs++M.map λj=>X.N.getD j Str.empty)[i]?=some z:=F;have ab:((xs.map λ_=>(none:Option V))++M.map λj=>(σ[j]?).join)[i]?=some (some v):=D;rw[aF hi]at W;rw[aF (by rw[af];exact hi),af]at ab;generalize i-xs.length=k at W ab;rw[av]at W ab;cases hj:M[k]? with
  |none=>rw[hj]at W;cases W
  |some j =>
   rw[hj]at W ab;obtain⟨y,c,f1,f2,f3,f4⟩:=hm.get hj;have ez:X.N.getD j Str.empty=z:=ak W;rw[ae,f1]at ez;have a1:y=z:=ez;subst a1;have ev:(σ[j]?).join=some v:=ak ab;have a2:σ[j]?=some (some v):=by
    cases hs:σ[j]? with
    |none=>rw[hs]at ev;cases ev
    |some w' =>
     rw[hs]at ev;have:w'=some v:=ev;rw[this]
   obtain⟨m,a3,hl⟩:=I.loc;obtain⟨u,r,l⟩:=hl j y v f1 a2 (.inr (.inl f2));refine⟨u,r,.inr ⟨.inl f3,c,f4,?_⟩⟩;rcases l with⟨lk,_⟩|⟨_,c',lc,li⟩
   .have:X.env.scope.names.lookup y=some .local:=lk;rw[f2]at this;cases this
   .rw[L y c f4]at lc;have:=ak lc;subst this;exact li.keeps keep
 .obtain⟨v,hv⟩:=I.cell y c (L y c e);exact⟨v,hv.keeps keep⟩
 .show upd H s2.heap.objs.size oo C=none;rw[wv (dJ hC)];exact a0
 .show upd H s2.heap.objs.size oo c=none;obtain⟨v,J,F,D⟩:=I.cell y c (L y c e);rw[wv (ay (aj F))];exact I.freeC y c (L y c e)
 .have an:p∈X.pn++pins:=(aY.mp hp).elim (λz=>z) λz=>nomatch z;obtain⟨F,D,e3,e4,e5⟩:=I.pin p an;refine⟨keep _ _ F,?_,ay (aR (aj F) hC),λz=>?_,e5⟩
  .rw[wv (ay (aj F))];exact D
  .rcases aC.mp (I.stkSub p.1 z) with z|z
   .exact e3 z
   .exact e4 z
 .exact I.hok.laid keep (ai _) hD
 .show((xs.map λ_=>(none:Option V))++M.map λj=>(σ[j]?).join).length=(xs++M.map λj=>X.N.getD j Str.empty).length;simp only[ar,af]
theorem Inv.comp (I:Inv X pins σ H s2)(hc:CapAll X.env cl)(hh:HasAll cl scope.names)(hm:CapIx X scope cl M)(hk:scope.kind=.function)(hC:s2.heap.objs.size<C)
  (keep:∀b o,s2.heap.get? b=some o->h1.get? b=some o) (hn:h1.Ns C λ_=>none) (hD:h1.get? s2.heap.objs.size=some { cls:=.type "list",data:=.seq #[] 0 })
  (hfp:∀b∈fp,vh X pins H b) (hob:∀b∈fp,∃o,s2.heap.get? b=some o) :
  Inv (z8 X scope cl x M C s2 H fp (X.pn++pins)) [] (zk M σ none) (upd H s2.heap.objs.size (.lst [])) { s2 with heap:=h1,toks:=tk }:=I.compG (xs:=[x]) hc hh hm hk hC keep hn ⟨aK _,[],0,.nil,hD⟩ hfp hob
theorem Inv.uncomp {pins':List (Aj×Obj)}{σ':St}{H':Hp}{s':Ab}{h':Heap}(I:Inv X pins σ H s2)(hC:s2.heap.objs.size<=C)(hfp:∀b∈fp,vh X pins H b)
  (J:Inv (z8 X scope cl x M C s2 H fp (X.pn++pins)) pins' σ' H' s') (hs:Heap.SameBut C s'.heap h'):Inv X pins σ H' { s' with heap:=h' }:=by
 have D:=J.base;have U:∀b o,s2.heap.get? b=some o->b≠C:=λb o e=>ay (aI (aj e) hC);have st:∀b o,b≠C->s'.heap.get? b=some o->h'.get? b=some o:=λb o n e=>(hs.2 b n).trans e;refine I.call' (s':={ s' with heap:=h' }) (ch:=fp) J.os ⟨λb o e n nb F=>st b o (U b o e) (D.keep b o e n nb F),λb o e n ad F=>?_,D.free,λb o e F=>?_,D.tups,D.frzs,D.tbls⟩ ?_ J.bare λb ab=>?_
 .obtain⟨sl,Z⟩:=D.slot b o e n ad F;exact⟨sl,st b _ (U b o e) Z⟩
 .obtain⟨o',Z⟩:=D.there b o e F;exact⟨o',st b _ (U b o e) Z⟩
 .intro b u W;have fr:H' C=none:=J.free;refine(J.hok b u W).stay (λc v L e=>st c v ?_ e) (λ_ z=>z) λ_ _ z=>z;rcases L with rfl|L
  .intro z;rw[z,fr]at W;cases W
  .intro z;rw[z,fr]at L;cases L
 .obtain⟨q1,q2,q3,q4,q5,q6⟩:=hfp b ab;exact⟨q4,q2,q5,q6⟩
end
def Wu (J:It)(M:List Nat)(te:TE)(σ:St)(H1:Hp)(Q:VK):Prop:=∀p,H1 p=none->∃W:Nat->Nat->List V->Hp->Prop,(∃m,W 0 m [] (upd H1 p (.lst []))) /\
 ∀i m ys H2,W i m ys H2->H2 p=some (.lst ys)/\ys.length<sizeLine/\((J.stop i H2/\Q (.ref p) H2)\/(J.go i H2/\∀v H3,J.yld i H2 v H3 ->
  te (zk M σ (some v)) H3 λy H4=>H4 p=some (.lst ys)/\∃m',m'<m/\W (i+1) m' (ys++[y]) (upd H4 p (.lst (ys++[y])))))
def wjw (M:List Nat)(wi:TI)(te:TE):TE:=λσ H Q=>wi σ H λJ H1=>Wu J M te σ H1 Q
theorem vx {Y:Cx}{tg e:Expr}{k:Nat}{acc:Ag}{it:Aj}{fp:List Aj}{tn:Nat->Heap->Prop}{J:It}{ps:Pos}{REST:Sem PySem.Fin}{post:Result->Ab->Prop}{gg:TG}{pins:List (Aj×Obj)}{σ:St}{V:Nat->Nat->Hp->Prop}{Qd:Hp->Prop}{s0:Ab}{H0:Hp}{n0:Nat}
  (T:Turn Y.prog Y.w Y.K tg J fp it tn) (hc:Y.calm=true) (hx:∀v s,Y.xe v s->False)
  (hturn:compTurn e k (.ref it) acc Y.env=(standAt ps >>= λ_=>pyNext (.ref it) >>= λr=>match r with|none=>pure (.done .next)|some v=>letOwnedTupleGo tg (.ref it) v >>= λ_=>assign tg Y.env v >>= λ_=>REST))
  (hun:Y.A.under (.compLoop e k (.ref it) acc Y.env)=Y.A) (hden:(model Y.prog Y.w).den (.compLoop e k (.ref it) acc Y.env)=((compTurn e k (.ref it) acc Y.env).onRaise λz=>do noteFrame z Y.env;theTreesLotGoes z))
  (hg:PG Y tg gg) (fok:∀H2:Hp,(∀b∈fp,H2 b=none)->∀b∈fp,vh Y pins H2 b)
  (hV:∀i n H2,V i n H2->(J.stop i H2/\Qd H2)\/(J.go i H2/\∀v H3,J.yld i H2 v H3->∃Z:St->Hp->Prop,gg v σ H3 Z/\∀σ4 H4,Z σ4 H4->(σ.length=σ4.length/\∀(k:Nat) z,σ[k]?=some (some z)->σ4[k]?=some (some z))/\∀pins' s',Inv Y pins' σ4 H4 s' ->
   wpAny (model Y.prog Y.w) Y.A REST (λr s5=>r=Fin.again (.compLoop e k (.ref it) acc Y.env)/\∃H5,Inv Y pins' σ4 H5 s5/\∃n',n'<n/\V (i+1) n' H5) Y.xe s'))
  (fin:∀H2 s4,Inv Y pins σ H2 s4->Qd H2->post (.ok .next) s4) (I:Inv Y pins σ H0 s0) (v0:V 0 n0 H0) (t0:tn 0 s0.heap) (nf:∀b∈fp,H0 b=none) :
  codeAny (model Y.prog Y.w) Y.A (.compLoop e k (.ref it) acc Y.env) post s0:=by
 refine codeAny_loop rfl (λn D=>∃i H2,V i n H2/\Inv Y pins σ H2 D/\tn i D.heap/\∀b∈fp,H2 b=none) (λn D hI=>?_) n0 ⟨0,H0,v0,I,t0,nf⟩;obtain⟨i,H2,w,J2,t,ab⟩:=hI;rw[hun,hden];refine wpAny_noted ?_;rw[hturn];refine ac (cw (ac ?_));rcases hV i n H2 w with⟨an,hq⟩|⟨a2,hy⟩
 .refine aP (T.done Y rfl rfl rfl hc i pins D _ H2 (λ_ _=>False) J2 (fok H2 ab) t an) (λr s4 U=>?_) λ_ _ z=>z.elim;obtain⟨rfl,J4⟩:=U;exact ah (fin H2 s4 J4 hq)
 .refine aP (T.item Y rfl rfl rfl hc i pins D _ H2 (λ_ _=>False) J2 (fok H2 ab) t a2) (λr s4 U=>?_) λ_ _ z=>z.elim;obtain⟨u,rfl,hw⟩:=U;refine ac (aP hw (λ_ s5 a0=>?_) λ_ _ z=>z.elim);obtain⟨v,H3,J5,rv,yl,L,nf⟩:=a0;obtain⟨Z,hz,hZ⟩:=hy v H3 yl;refine ac (aP (hg _ s5 _ H3 v u _ (J5.pinned (fok H3 nf) (T.obj _ _ L)) rv hz) (λ_ s6 as=>?_) λv s z=>(hx v s z).elim);obtain⟨σ6,H6,J6,z6⟩:=as;obtain⟨⟨hl,ad⟩,hR⟩:=hZ σ6 H6 z6;refine aP (hR _ s6 J6) (λr s7 ap=>?_) λv s z=>(hx v s z).elim;obtain⟨rfl,H7,W,n',a1,v7⟩:=ap;refine⟨rfl,n',a1,i+1,H7,v7,(W.unpinned (pins:=pins)).weak hl ad,?_,?_⟩
  .exact T.keep _ _ _ L λb F o e=>(W.pin (b,o) (az _ (az _ (Qf F e)))).1
  .intro b F;obtain⟨o,e,_⟩:=T.obj _ _ L b F;exact(W.pin (b,o) (az _ (az _ (Qf F e)))).2.1
section
variable {Y:Cx}{elt cd:Expr}{te:TE}{tt:TT}{c:Code}{p:Aj}{σ:St}{H:Hp}{pins:List (Aj×Obj)}{s:Ab}
def qvv (elt:Expr)(acc:Ag)(env:Env)(c:Code):Sem PySem.Fin:=(eval elt env >>= λx=>call (.builtin "list.append") [acc,x] >>= λ_=>pure ()) >>= λ_=>again c
theorem yf {ys:List V}{N:List V->Hp->Prop}(hx:∀v s,Y.xe v s->False)(he:PE Y elt te)(J:Inv Y pins σ H s)(hz:ys.length<sizeLine)(h:te σ H λy H4=>H4 p=some (.lst ys)/\N (ys++[y]) (upd H4 p (.lst (ys++[y])))) :
  wpAny (model Y.prog Y.w) Y.A (qvv elt (.ref p) Y.env c) (λr s5=>r=Fin.again c/\∃H5,Inv Y pins σ H5 s5/\∃zs,N zs H5) Y.xe s:=by
 refine ac (ac (aP (he _ s _ H _ J h) (λF L ab=>?_) λ_ _ z=>z));obtain⟨y,H4,J7,U,ad,W⟩:=ab;refine ac (aP (W5 (X:=Y) _ L _ H4 (.ref p) [y] (.ref p) [F] (λ_ D=>D=upd H4 p (.lst (ys++[y]))) J7 rfl (.cons U .nil) ⟨_,ys,y,rfl,rfl,ad,hz,rfl⟩) (λ_ s8 Z=>?_) λ_ _ z=>z);obtain⟨_,D,J8,_,rfl⟩:=Z;exact ah (ah ⟨rfl,_,J8,_,W⟩)
def wx2 (cd:Expr)(env:Env)(a b:Sem PySem.Fin):Sem PySem.Fin:=(forIn [cd] true λc r=>if r=true then do let ok <-isTrue c env (eval c env);pure (ForInStep.yield ok) else pure (ForInStep.yield r)) >>= λok=>if ok=true then a else b
theorem Wg {a b:Sem PySem.Fin}{F:Hp->Prop}{G:Hp->Prop}{R:PySem.Fin->Ab->Prop}(ht:PT Y cd tt)(J:Inv Y pins σ H s)(h:tt σ H λok H4=>if ok=true then F H4 else G H4)
  (ha:∀s' H4,Inv Y pins σ H4 s'->F H4->wpAny (model Y.prog Y.w) Y.A a R Y.xe s') (hb:∀s' H4,Inv Y pins σ H4 s'->G H4->wpAny (model Y.prog Y.w) Y.A b R Y.xe s') :
  wpAny (model Y.prog Y.w) Y.A (wx2 cd Y.env a b) R Y.xe s:=by
 refine ac (wpAny_tests_one (aP (ht _ s _ H _ J h) (λok D Z=>?_) λ_ _ z=>z));obtain⟨W,U,L⟩:=Z;cases ok with
 |false=>exact hb D W U L
 |true=>exact ha D W U L
end
section
variable {X:Cx}{elt iter cd:Expr}{x:Str}{px pos:Pos}{scope:Scope}{cl:List (Str×Aj)}{M:List Nat}{wi:TI}{te:TE}{tt:TT}{pins:List (Aj×Obj)}{σ:St}
theorem uq {N:List Str}{C:Aj}{s2:Ab}{H1:Hp}{fp:List Aj}(hcap:CapAll X.env cl)(I2:Inv X pins σ H1 s2)(hlt:s2.heap.objs.size<C)(hfp:∀b∈fp,vh X pins H1 b)(hbl:∀b∈fp,b<s2.heap.objs.size)(H2:Hp)(hn:∀b∈fp,H2 b=none) :
  ∀b∈fp,vh { X with N:=N,s₀:=s2,H₀:=H1,env:=compEnvC scope cl C X.env,outer:=X.stack,ex:=fp,fn:=λ_=>false,pn:=X.pn++pins,xe:=λ_ _=>False } [] H2 b:=λb hb=>by
 obtain⟨q1,q2,q3,q4,q5,q6⟩:=hfp b hb;refine⟨hn b hb,ay (aR (hbl b hb) hlt),λz=>?_,.inl hb,λy c e=>q5 y c (hcap.look e),λp hp=>q6 p ((aY.mp hp).elim (λz=>z) λz=>nomatch z)⟩;rcases aC.mp (I2.stkSub b z) with z|z
 .exact q2 z
 .exact q3 z
theorem yc {tg:Expr}{ifs:List Expr}{rest:List Comprehension}(hclos:closureFor scope X.env=pure cl)(hhas:HasAll cl scope.names)(hk:scope.kind=.function)
  (hnames:∀y∈scope.names,y.2=.local->scope.names.lookup y.1=some .local) (hi:PI X tg iter wi) (hs:∀z,foldedSetIterable iter X.env z=pure z)
  {use:Option (Ag->Sem Unit)} {QQ:Ag->Ab->Prop} {s:Ab} {H:Hp} {ps:Pos} {R:It->Hp->Prop} (I:Inv X pins σ H s) (h:wi σ H R)
  (go:∀(it:Aj) (fp:List Aj) (tn:Nat->Heap->Prop) (J:It) (H1:Hp) (s2:Ab) (C:Aj) (h3:Heap) (tk:Nat),Inv X pins σ H1 s2->Turn X.prog X.w X.K tg J fp it tn->tn 0 h3->(∀b∈fp,vh X pins H1 b)->(∀b∈fp,b<s2.heap.objs.size)->(∀b∈fp,∃o,s2.heap.get? b=some o)->R J H1->s2.heap.objs.size<C ->
   (∀b o,s2.heap.get? b=some o->h3.get? b=some o)->(h3.Ns C λ_=>none)->h3.get? s2.heap.objs.size=some { cls:=.type "list",data:=.seq #[] 0 } ->
   codeAny (model X.prog X.w) X.A (.compLoop (.ListComp elt (⟨tg,iter,ifs,0⟩::rest) scope pos) 0 (.ref it) (.ref s2.heap.objs.size) (compEnvC scope cl C X.env)) (compPost (model X.prog X.w) X.A X.xe use QQ (.ref s2.heap.objs.size) C) { s2 with heap:=h3,toks:=tk }) :
  wpAny (model X.prog X.w) X.A (comprehension (.ListComp elt (⟨tg,iter,ifs,0⟩::rest) scope pos) scope X.env ps (newList []) false (eval iter X.env) use) QQ X.xe s:=by
 refine eS (use:=use) rfl hs hclos hk hnames ?_;refine thn (hi pins s σ H _ I h) λv s1 h1=>thn h1 λap s2 h2=>?_;obtain⟨it,fp,tn,J,H1,rfl,I2,T,F,an,hR⟩:=h2;refine bK ?_;refine fW hhas.nocell (by intro y hy;cases hy) (λh3 L D=>?_) hk;dsimp only at L D ⊢;generalize hH2:s2.heap.push { cls:=.type "list",dict:=none,data:=.seq ([]:List Ag).toArray }=G2 at L D ⊢;have hC:G2.objs.size=s2.heap.objs.size+1:=by rw[<-hH2,cK]
 have U:s2.heap.objs.size<G2.objs.size:=by lia
 have ad:∀b o,s2.heap.get? b=some o->h3.get? b=some o:=λb o e=>by rw[D.2 b (ay (aR (aj e) U))];exact ag _ (hH2▸ag _ e)
 have hD:h3.get? s2.heap.objs.size=some { cls:=.type "list",data:=.seq #[] 0 }:=by rw[D.2 _ (ay U)];exact ag _ (hH2▸ax _ rfl)
 have Z:=T.keep 0 _ _ F λb _ o e=>ad b o e;have ab:=λtk=>go it fp tn J H1 s2 G2.objs.size h3 tk I2 T Z an (λb W=>let ⟨o,e,_⟩:=T.obj 0 _ F b W;aj e) (λb W=>let ⟨o,e,_⟩:=T.obj 0 _ F b W;⟨o,e⟩) hR U ad L hD;exact codeAny_compStart_list (ab _) (T.self _ 0 _ _ _ Z (ab _))
theorem Qy (M:List Nat)(σ:St)(v:V):(zk M σ none).length=(zk M σ (some v)).length/\∀(k:Nat) z,(zk M σ none)[k]?=some (some z)->(zk M σ (some v))[k]?=some (some z):=⟨rfl,λk z ez=>by
 cases k with
 |zero=>cases ez
 |succ k=>exact ez⟩
end
section
variable {X:Cx}{elt iter:Expr}{x:Str}{px pos:Pos}{scope:Scope}{cl:List (Str×Aj)}{M:List Nat}{wi:TI}{te:TE}
theorem qu0 (hc:X.calm=true)(hclos:closureFor scope X.env=pure cl)(hcap:CapAll X.env cl)(hhas:HasAll cl scope.names)(hix:CapIx X scope cl M)(hk:scope.kind=.function)
  (hnames:∀y∈scope.names,y.2=.local->scope.names.lookup y.1=some .local) (hx:scope.names.lookup x=some .local) (hnd:(Qs X x M).Nodup) (hi:PI X (.Name x px) iter wi)
  (he:∀C s2 H2 fp pn,PE (z8 X scope cl x M C s2 H2 fp pn) elt te) (hs:∀z,foldedSetIterable iter X.env z=pure z)
  {use:Option (Ag->Sem Unit)} {QQ:Ag->Ab->Prop} {pins:List (Aj×Obj)} {s:Ab} {σ:St} {H:Hp} {Q:VK} {ps:Pos} (I:Inv X pins σ H s) (h:wi σ H λJ H1=>Wu J M te σ H1 Q)
  (fin:∀(C:Aj) (s2 s4:Ab) (H1 H2:Hp) (fp:List Aj),Inv X pins σ H1 s2->s2.heap.objs.size<C->(∀b∈fp,vh X pins H1 b)->Inv (z8 X scope cl x M C s2 H1 fp (X.pn++pins)) [] (zk M σ none) H2 s4->Q (.ref s2.heap.objs.size) H2 ->
   compPost (model X.prog X.w) X.A X.xe use QQ (.ref s2.heap.objs.size) C (.ok .next) s4) :
  wpAny (model X.prog X.w) X.A (comprehension (.ListComp elt [⟨.Name x px,iter,[],0⟩] scope pos) scope X.env ps (newList []) false (eval iter X.env) use) QQ X.xe s:=by
 refine yc hclos hhas hk hnames hi hs I h λit fp tn J H1 s2 C h3 tk F T t3 D ab an hR L ad ap hD=>?_;obtain⟨W,⟨m0,w0⟩,hW⟩:=hR s2.heap.objs.size (F.hok.fresh (ai _));have Z:(relabel scope X.env).names.lookup x=some .local:=cG hx;refine vx (Y:=z8 X scope cl x M C s2 H1 fp (X.pn++pins)) (V:=λi n H2=>∃ys,W i n ys H2) (Qd:=Q (.ref s2.heap.objs.size)) (REST:=qvv elt (.ref s2.heap.objs.size) (compEnvC scope cl C X.env) _) T hc (λ_ _ z=>z) (compTurn_list1 ..) rfl rfl (wm (i:=0) hnd rfl (.inl Z) (.inr Z)) (uq hcap F L D ab) (λi n H2 ⟨ys,w⟩=>?_) (λH2 s4 J4 q=>fin C s2 s4 H1 H2 fp F L D J4 q) (F.comp hcap hhas hix hk L ad ap hD D an) ⟨[],w0⟩ t3 λb hb=>by rw[wv (ay (ab b hb))];exact(D b hb).1
 obtain⟨hp,hz,a0⟩:=hW i n ys H2 w;refine a0.imp id λ⟨as,hy⟩=>⟨as,λv H3 yl=>⟨λσ4 H4=>σ4=zk M σ (some v)/\H3=H4,⟨rfl,rfl⟩,λ_ _ e=>?_⟩⟩;obtain⟨rfl,rfl⟩:=e;refine⟨Qy M σ v,λa1 s' J=>?_⟩;refine aP (yf (N:=λzs U=>∃m',m'<n/\W (i+1) m' zs U) (λ_ _ z=>z) (he _ _ _ _ _) J hz (hy v H3 yl)) (λr s5 ⟨e,U,J5,zs,m',hm,w'⟩=>⟨e,U,J5,m',hm,zs,w'⟩) λ_ _ z=>z
theorem kg (hc:X.calm=true)(hclos:closureFor scope X.env=pure cl)(hcap:CapAll X.env cl)(hhas:HasAll cl scope.names)(hix:CapIx X scope cl M)(hk:scope.kind=.function)
  (hnames:∀y∈scope.names,y.2=.local->scope.names.lookup y.1=some .local) (hx:scope.names.lookup x=some .local) (hnd:(Qs X x M).Nodup) (hi:PI X (.Name x px) iter wi)
  (he:∀C s2 H2 fp pn,PE (z8 X scope cl x M C s2 H2 fp pn) elt te) (hs:autoParam (∀z,foldedSetIterable iter X.env z=pure z) aU3._auto_1) :
  PE X (.ListComp elt [⟨.Name x px,iter,[],0⟩] scope pos) (wjw M wi te):=by
 intro pins s σ H Q I h;rw[ij];refine qu0 hc hclos hcap hhas hix hk hnames hx hnd hi he hs (use:=none) I h λC s2 s4 H1 H2 fp Z U W D J=>?_;obtain⟨m,L,_⟩:=D.loc;exact⟨m,L,λh' F=>⟨.ref s2.heap.objs.size,H2,Z.uncomp (ba U) W D F,rfl,J⟩⟩
theorem Inv.but {pins:List (Aj×Obj)}{σ:St}{H:Hp}{s:Ab}{h':Heap}{C:Aj}(I:Inv X pins σ H s)(hn:H C=none)(h1:X.s₀.heap.objs.size<=C)(h2:C≠X.env.locals)(h3:∀y c,X.env.cells.lookup y=some c->c≠C)(h4:∀p∈X.pn++pins,p.1≠C)
  (hs:Heap.SameBut C s.heap h'):Inv X pins σ H { s with heap:=h' }:=by
 have st:∀b o,b≠C->s.heap.get? b=some o->h'.get? b=some o:=λb o n e=>(hs.2 b n).trans e;have J:∀b,b∉[C]->b≠C:=λb z e=>z (by rw[e];exact .head _);refine I.call' (s':={ s with heap:=h' }) (ch:=[C]) rfl ⟨λb o e n _ D=>st b o (J b D) e,λb o e n _ D=>⟨o.slots,st b o (J b D) e⟩,λb o e n _=>n,λb o e D=>⟨o,st b o (J b D) e⟩,λ_ _ e=>e,λ_ _ _ e=>e,λb ps e=>⟨#[],by rw[e];simp⟩⟩ ?_ I.bare λb U=>?_
 .intro b u L;refine(I.hok b u L).stay (λc v F e=>st c v ?_ e) (λ_ z=>z) λ_ _ z=>z;rcases F with rfl|F
  .intro z;rw[z,hn]at L;cases L
  .intro z;rw[z,hn]at F;cases F
 .rw[aQ.mp U];exact⟨.inr h1,h2,h3,h4⟩
theorem jd {i:Nat}{y:Str}{py spos:Pos}(hN:X.N.Nodup)(hyi:X.N[i]?=some y)(hyl:Loc X.env.scope y)(hc:X.calm=true)(hclos:closureFor scope X.env=pure cl)(hcap:CapAll X.env cl)(hhas:HasAll cl scope.names)(hix:CapIx X scope cl M)(hk:scope.kind=.function)
  (hnames:∀y∈scope.names,y.2=.local->scope.names.lookup y.1=some .local) (hx:scope.names.lookup x=some .local) (hnd:(Qs X x M).Nodup) (hi:PI X (.Name x px) iter wi)
  (he:∀C s2 H2 fp pn,PE (z8 X scope cl x M C s2 H2 fp pn) elt te) (hs:autoParam (∀z,foldedSetIterable iter X.env z=pure z) aU3._auto_1)
  (hsw:autoParam (swapsWith (.ListComp elt [⟨.Name x px,iter,[],0⟩] scope pos) (some (.Name y py)) spos.line X.env=pure true) aU4._auto_1) (hyf:autoParam (X.fn y=true\/X.env.scope.names.lookup y=some .local) aU0._auto_1) :
  PS X (.Assign [.Name y py] (.ListComp elt [⟨.Name x px,iter,[],0⟩] scope pos) spos) (wx8 (wjw M wi te) (jp i)):=by
 intro pins s σ H D I h;rw[d7 _ _ _ _ hsw];refine ac (cw (ac ?_));refine ac (aP (qu0 hc hclos hcap hhas hix hk hnames hx hnd hi he hs (use:=some (assign (.Name y py) X.env)) (QQ:=λ_ s'=>SP X pins D .next s') I h λC s2 W H1 H2 fp J L a1 J4 hq=>?_) (λ_ s' hq=>ah (ah hq)) λ_ _ e=>e);have F:Inv X pins σ H2 W:=J.uncomp (h':=W.heap) (ba L) a1 J4 (fB _ _);have an:H2 C=none:=J4.free;obtain⟨mC,a0,_⟩:=J4.loc;obtain⟨Z,a7,a8,as,ad⟩:=id a0;have ab:C≠X.env.locals:=λz=>aN _ (aR L (z▸J.lt));have a3:X.s₀.heap.objs.size<=C:=bo J.sz (ba L);have a5:∀y c,X.env.cells.lookup y=some c->c≠C:=λy c e z=>by obtain⟨v,o,U,_⟩:=J.cell y c e;exact aN _ (aR L (z▸aj U))
 have a4:∀p∈X.pn++pins,p.1≠C:=λp hp z=>aN _ (aR L (z▸aj (J.pin p hp).1));have bb:C∉frs X.stack:=λz=>by
  rcases aC.mp (J.stkSub C z) with q|q
  .exact ab q
  .obtain⟨_,o,U,_⟩:=J.funs.mem (b:=C) q;exact aN _ (aR L (aj U))
 have a2:C∉X.fs:=λz=>by obtain⟨_,o,U,_⟩:=J.funs.mem (b:=C) z;exact aN _ (aR L (aj U))
 have a9:Inv X (pins++[(C,Z)]) σ H2 W:=⟨F.ok,F.os,F.bare,F.base,F.loc,F.cell,F.free,F.freeC,λp hp=>by
  rcases aY.mp hp with q|q
  .exact F.pin p (bD _ q)
  .rcases aY.mp q with q|q
   .exact F.pin p (az _ q)
   .rw[aQ.mp q]
    exact⟨as,an,ab,a2,λv z=>by rw[ad.1]at z;cases z⟩,F.hok,F.len⟩
 show wpAny _ _ (assign (.Name y py) X.env (.ref s2.heap.objs.size)) _ _ _;refine ee (jz a9 hN hyi hyl (show RelV (.ref s2.heap.objs.size) (.ref s2.heap.objs.size) from rfl) (λs5 I5=>?_) hyf);have a6:=(I5.pin (C,Z) (az _ (az _ (.head _)))).1;exact⟨mC,⟨Z,a7,a8,a6,ad⟩,λh' ap=>⟨_,H2,I5.unpinned.but an a3 ab a5 a4 ap,hq⟩⟩
end
theorem vt {M:List Nat}{lo:Int}{n:Nat}{te:TE}{σ:St}{H:Hp}{Q:VK}(f:Nat->V)(hn:n<=1000000)(he:∀(i:Nat) (H':Hp) (R:VK),i<n->Same H H'->R (f i) H'->te (zk M σ (some (.int (lo+i)))) H' R)
  (k:∀p,H p=none->Q (.ref p) (upd H p (.lst ((List.range n).map f)))):Wu (Itr lo n) M te σ H Q:=by
 intro p np;refine⟨λi m ys H2=>i<=n/\m=n-i/\ys=(List.range i).map f/\H2=upd H p (.lst ys),⟨n,aK _,rfl,rfl,rfl⟩,?_⟩;rintro i m ys H2 ⟨hi,rfl,rfl,rfl⟩;refine⟨qh,?_,?_⟩
 .rw[af,au];have:(1000000:Nat)<sizeLine:=by decide
  lia
 .by_cases hlt:i<n
  .refine .inr ⟨hlt,?_⟩;rintro v H3 ⟨rfl,rfl⟩;refine he i (upd H p (.lst ((List.range i).map f))) _ hlt (Same.upd np) ⟨qh,n-(i+1),⋯,⋯,rfl,?_,?_⟩
   .rw[aT,aA];rfl
   .rw[qyd]
  .have:i=n:=by lia
   subst this;exact .inl ⟨ai _,k p np⟩
theorem qky {K:Aa}{M:List Nat}{a:Aj}{xs:List V}{te:TE}{σ:St}{H:Hp}{Q:VK}(f:V->V)(hS:SqL K H a xs)(hn:xs.length<=1000000)(he:∀(x:V) (H':Hp) (R:VK),x∈xs->Same H H'->R (f x) H'->te (zk M σ (some x)) H' R)
  (k:∀p,H p=none->Q (.ref p) (upd H p (.lst (xs.map f)))):Wu (Itl K a) M te σ H Q:=by
 intro p np;refine⟨λi m ys H2=>i<=xs.length/\m=xs.length-i/\ys=(xs.take i).map f/\H2=upd H p (.lst ys),⟨xs.length,aK _,rfl,rfl,rfl⟩,?_⟩;rintro i m ys H2 ⟨hi,rfl,rfl,rfl⟩;have D:SqL K (upd H p (.lst ((xs.take i).map f))) a xs:=Same.sql (Same.upd np) hS;refine⟨qh,?_,?_⟩
 .rw[af,bv];have:(1000000:Nat)<sizeLine:=by decide
  lia
 .by_cases hlt:i<xs.length
  .have z:xs[i]?=some xs[i]:=aa hlt;refine .inr ⟨⟨xs,_,D,z⟩,?_⟩;rintro v H3 ⟨rfl,hv⟩;have e:=hv xs D;rw[z]at e;have J:=ak e;subst J;refine he _ _ _ (bF hlt) (Same.upd np) ⟨qh,xs.length-(i+1),⋯,⋯,rfl,?_,?_⟩
   .rw[i8,z,aA];rfl
   .rw[qyd]
  .have F:i=xs.length:=by lia
   subst F;refine .inl ⟨⟨xs,D,ai _⟩,?_⟩;rw[bq];exact k p np
end L2
namespace L2
open PySem PySem.Spec PyProof.Rows
section
variable {X:Cx}
theorem Js {pins:List (Aj×Obj)}{σ:St}{H:Hp}{s:Ab}{p:Aj}{ns:List Int}(I:Inv X pins σ H s)(hS:SqL X.K H p (ns.map V.int)) :
  ∃ts:Array (Int×Tok),s.heap.IsList p (intItems ts)/\ns=ts.toList.map (·.1):=by
 obtain⟨Z,F,⟨o,n,U,L,e3,J⟩,hz⟩:=I.list hS;have hi:=ju F;obtain⟨ts,z⟩:=hi.allInts.items;refine⟨ts,⟨o,U,L,n,by rw[<-z];exact J⟩,?_⟩;have W:=hi.numsOf;have D:=nums_intItems (xs:=ts);rw[<-z]at D;exact W.symm.trans D
theorem qz3 (hc:X.calm=true):yx X (.builtin "min") (λxs H Q=>∃(p:Aj) (ns:List Int),xs=[.ref p]/\SqL X.K H p (ns.map V.int)/\0<ns.length/\∀m,m∈ns->(∀a∈ns,m<=a)->Q (.int m) H):=by
 intro pins s σ H xs us Q I r h;obtain⟨p,ns,rfl,hS,ab,q⟩:=h;obtain⟨u,rfl,L⟩:=yg r;cases(show u=Value.ref p from L);obtain⟨D,U,z⟩:=Js I hS;have F:D.size=ns.length:=by rw[z,af,bc]
 refine min_intList (I.ok.hd hc) U ⋯ λv h' tk hv W=>?_;obtain⟨t,rfl⟩:=i9 hv;obtain⟨b1,b2⟩:=argBest_lt (numAt D) (D.size-1);refine⟨.int _,H,I.kept W,⟨t,rfl⟩,q _ ?_ λa J=>?_⟩
 .rw[z,ja];refine getD_mem ?_;rw[<-z,<-F];lia
 .rw[z]at J;obtain⟨j,Z,rfl⟩:=mem_getD J;rw[<-z,<-F]at Z;rw[<-ja];exact b2 j ⋯
theorem qvq (hc:X.calm=true):yx X (.builtin "max") (λxs H Q=>∃(p:Aj) (ns:List Int),xs=[.ref p]/\SqL X.K H p (ns.map V.int)/\0<ns.length/\∀m,m∈ns->(∀a∈ns,a<=m)->Q (.int m) H):=by
 intro pins s σ H xs us Q I r h;obtain⟨p,ns,rfl,hS,ab,q⟩:=h;obtain⟨u,rfl,L⟩:=yg r;cases(show u=Value.ref p from L);obtain⟨D,U,z⟩:=Js I hS;have F:D.size=ns.length:=by rw[z,af,bc]
 refine max_intList (I.ok.hd hc) U ⋯ λv h' tk hv W=>?_;obtain⟨t,rfl⟩:=i9 hv;obtain⟨b1,b2⟩:=argBest_gt (numAt D) (D.size-1);refine⟨.int _,H,I.kept W,⟨t,rfl⟩,q _ ?_ λa J=>?_⟩
 .rw[z,ja];refine getD_mem ?_;rw[<-z,<-F];lia
 .rw[z]at J;obtain⟨j,Z,rfl⟩:=mem_getD J;rw[<-z,<-F]at Z;rw[<-ja];exact b2 j ⋯
theorem qu6:∀ {bs:List Bool} {its:List Ag},Vals (bs.map V.bl) its->its=bs.map Value.bool
 |[],_,.nil=>rfl
 |b::bs,_,.cons r t=>by have e:_=Value.bool b:=r;rw[aO,<-qu6 t,e]
end
structure MCal (P:Ac)(w:Ah)(K:Aa)(mg:Str->Option Ag)(base:Heap)(C:Aj)(m:Str)(k:Nat)(sp:Sp):Prop where
 ex:∃f fd ps,Meth K C m f/\FnOk P w K mg base (CXE P w) k f fd ps sp/\Binds K fd ps []
structure CCal (P:Ac)(w:Ah)(K:Aa)(mg:Str->Option Ag)(base:Heap)(x:Str)(C:Aj)(k:Nat)(sp:Sp):Prop where
 ex:∃f fd ps,mg x=some (.ref C)/\Mk K C f/\FnOk P w K mg base (CXE P w) k f fd ps sp/\Binds K fd ps []
structure MethIn (K:Aa)(C:Aj)(m qual:Str)(st:Stmt):Prop where
 ex:∃f fd,W.findIn K (.ref C) m=some (some (.ref f))/\W.isFn K (.ref f)=true/\Fun K m qual st f fd
theorem xjd {K:Aa}{C:Aj}{m qual:Str}{st:Stmt}{f:Aj}{oc:Ag}{od an:Option Aj}{osl:Array (Option Ag)}{kV doc pm cdv ct:Ag}(a:W.findIn K (.ref C) m=some (some (.ref f)))(i:W.isFn K (.ref f)=true)
  (l:K.lookup f=some ⟨oc,od,.func (W.fnOf m qual (ku st) (zr st) (ww st) .none kV doc pm an cdv ct),osl⟩) (c:W.codeIn K cdv qual=true) (k:W.keepIn K (.ref f)=true):MethIn K C m qual st:=⟨_,_,a,i,wz1 l c k⟩
def jh (x qual:Str)(st:Stmt)(ps:List Str):Prop:=∀(kV doc pm:Ag) (an:Option Aj) (cdv ct:Ag) (us:List Ag),us.length=ps.length->bindArgs (W.fnOf x qual (ku st) (zr st) (ww st) .none kV doc pm an cdv ct) ⟨us,[]⟩=pure (ps.zip us)
section
variable {P:Ac}{w:Ah}{K:Aa}{mg:Str->Option Ag}{base:Heap}{C:Aj}
theorem MethIn.cal {m qual:Str}{st:Stmt}{ps:List Str}{k:Nat}{sp:Sp}(d:MethIn K C m qual st)(b:jh m qual st ps)(ok:∀f fd,Fun K m qual st f fd->FnOk P w K mg base (CXE P w) k f fd ps sp):MCal P w K mg base C m k sp:=by obtain⟨f,fd,a,i,F⟩:=d.ex;exact⟨f,fd,ps,⟨a,i,F.kp⟩,ok f fd F,F.binds b⟩
theorem MethIn.ccal {x qual:Str}{st:Stmt}{ps:List Str}{k:Nat}{sp:Sp}(d:MethIn K C "__init__" qual st)(hm:mg x=some (.ref C))(mk:W.makesIn K C=true)(kc:W.keepIn K (.ref C)=true)(b:jh "__init__" qual st ps)
  (ok:∀f fd,Fun K "__init__" qual st f fd->FnOk P w K mg base (CXE P w) k f fd ps sp):CCal P w K mg base x C k sp:=by
 obtain⟨f,fd,a,i,F⟩:=d.ex;exact⟨f,fd,ps,hm,⟨mk,a,i,kc⟩,ok f fd F,F.binds b⟩
end
section
variable {X:Cx}{C:Aj}{x m:Str}{k:Nat}{sp:Sp}{E:St->XK}{p pos apos:Pos}{e o:Expr}{es:List Expr}{ta:TE}{t:TA}
theorem ud (c:CCal X.prog X.w X.K X.mg X.base x C k sp)(hr:Room (k+1) X.A)(hg:Gl X x)(hx:j9 X E)
  (ha:PA X (e::es) t) (hdb:autoParam ((x==("__debug__" : Str))=false) aU1._auto_1) (he:autoParam (starEach (e::es) X.env=(false,eval e X.env)::starEach es X.env) aU4._auto_1) (hpl:autoParam ((backTo pos (starEach es X.env)).any (·.1)=false) aU4._auto_1) :
  PE X (.Call (.Name x p) (e::es) [] pos) (xz1 C sp E t):=by
 obtain⟨f,fd,ps,z,M,F,b⟩:=c.ex;exact xzq M F hr hg z b hx ha hdb he hpl
theorem xwv {pl:Sem Bool}(he:PE X o ta)(cl:Cls X.K C)(c:MCal X.prog X.w X.K X.mg X.base C m k sp)(hr:Room k X.A)(hx:j9 X E)(ha:PA X (e::es) t)
  (hst:autoParam (starEach (e::es) X.env=(false,eval e X.env)::starEach es X.env) aU4._auto_1) (hpl:autoParam ((backTo pos (starEach es X.env)).any (·.1)=false) aU4._auto_1)
  (ht:autoParam (eval (.Call (.Attribute o m apos) (e::es) [] pos) X.env=(do
   let ov <-eval o X.env
   standAt apos.atName
   let (f,first) <-holding [ov] (getMethod ov m pl)
   callWith pos f first (backTo pos (starEach (e::es) X.env)) (backToKw pos (keywordEach [] X.env)))) aU4._auto_1) :
  PE X (.Call (.Attribute o m apos) (e::es) [] pos) (qxm C m sp E ta t):=by
 obtain⟨f,fd,ps,z,F,b⟩:=c.ex;exact xwt he cl z F hr b hx ha hst hpl ht
theorem zc {pl:Sem Bool}(he:PE X o ta)(cl:Cls X.K C)(c:MCal X.prog X.w X.K X.mg X.base C m k sp)(hr:Room k X.A)(hx:j9 X E)
  (ht:autoParam (eval (.Call (.Attribute o m apos) [] [] pos) X.env=(do
   let ov <-eval o X.env
   standAt apos.atName
   let (f,first) <-holding [ov] (getMethod ov m pl)
   callWith pos f first (backTo pos (starEach [] X.env)) (backToKw pos (keywordEach [] X.env)))) aU4._auto_1) :
  PE X (.Call (.Attribute o m apos) [] [] pos) (qxm C m sp E ta qw6):=by
 obtain⟨f,fd,ps,z,F,b⟩:=c.ex;exact wy2 he cl z F hr b hx ht
end
end L2
namespace L2
open PySem
def hAt (hs:List Int)(k:Int):Int:=hs.getD k.toNat 0
def kF (hs:List Int)(t b:Int):Int:=if(hs.length:Int)-1-1<t/b then(hs.length:Int)-1-1 else t/b
def kj (hs:List Int)(t b:Int):Int:=hAt hs (kF hs t b)*b+(hAt hs (kF hs t b+1)-hAt hs (kF hs t b))*(t-kF hs t b*b)
theorem xx7 {hs:List Int}{t b:Int}(hl:2<=hs.length)(hb:1<=b)(h0:0<=t):0<=kF hs t b/\kF hs t b<(hs.length:Int)-1:=by have h:=Int.ediv_nonneg h0 (show(0:Int)<=b by lia);unfold kF;split <;> lia
theorem xzs {hs:List Int}{t b c:Int}(hc:1<=c):kF hs (t*c) (b*c)=kF hs t b:=by unfold kF;rw[dU _ _ (show 0<c by lia)]
theorem qup {hs:List Int}{t b c:Int}(hc:1<=c):kj hs (t*c) (b*c)=kj hs t b*c:=by unfold kj;rw[xzs hc];generalize hAt hs (kF hs t b)=u;generalize hAt hs (kF hs t b+1)=v;generalize kF hs t b=k;grind
theorem div_in {k t b:Int}(hb:1<=b)(h1:k*b<=t)(h2:t<(k+1)*b):t/b=k:=by have a1:k<=t/b:=(fC ⋯).mpr h1;have a2:t/b<k+1:=(Int.ediv_lt_iff_lt_mul ⋯).mpr h2;lia
theorem Ww {hs:List Int}{k t b:Int}(hk:0<=k)(hk2:k<(hs.length:Int)-1)(hb:1<=b)(h1:k*b<=t)(h2:t<=(k+1)*b) :
  kj hs t b=hAt hs k*b+(hAt hs (k+1)-hAt hs k)*(t-k*b):=by
 by_cases hlt:t<(k+1)*b
 .have e:=div_in hb h1 hlt;have D:kF hs t b=k:=by unfold kF;rw[e];split <;> lia
  unfold kj;rw[D]
 .have F:t=(k+1)*b:=by lia
  have e:t/b=k+1:=by rw[F];exact Int.mul_ediv_cancel _ ⋯
  by_cases hn:(hs.length:Int)-1-1<k+1
  .have D:kF hs t b=k:=by unfold kF;rw[e,aw hn];lia
   unfold kj;rw[D]
  .have D:kF hs t b=k+1:=by unfold kF;rw[e,ao hn]
   unfold kj;rw[D,F];generalize hAt hs k=u;generalize hAt hs (k+1)=v;generalize hAt hs (k+1+1)=z;grind
def Wq (hs:List Int)(t b:Int):Int×Int:=wy (kj hs t b) b
theorem qv3 {hs:List Int}{t b:Int}(hb:1<=b):Wq hs (wy t b).1 (wy t b).2=Wq hs t b:=by
 unfold Wq;have D:=uw (t:=t) hb;have F:(wy t b).1*gOf t b=t:=by rw[eJ];exact qk0
 have z:(wy t b).2*gOf t b=b:=by rw[eJ];exact qqh hb
 have h:=qup (hs:=hs) (t:=(wy t b).1) (b:=(wy t b).2) D;rw[F,z]at h;rw[h]
 conv=>rhs;rw[<-z]
 rw[z];have:=Qn (t:=kj hs (wy t b).1 (wy t b).2) (b:=(wy t b).2) (vj hb) D;rw[z]at this;exact this.symm
theorem Yj {t b:Int}(hb:1<=b):(wy t b).1<0↔t<0:=by
 have F:=uw (t:=t) hb;have D:gOf t b*(wy t b).1=t:=qk0;constructor
 .intro h;have:=gI h (show 0<gOf t b by lia);rw[D,Int.mul_zero]at this;exact this
 .intro h;rcases bU (wy t b).1 0 with z|z
  .exact z
  .have:=aZ z (show 0<=gOf t b by lia);rw[D,Int.mul_zero]at this;lia
theorem qyr {t b n:Int}(hb:1<=b):n*(wy t b).2<(wy t b).1↔n*b<t:=by
 have J:=uw (t:=t) hb;have F:gOf t b*(wy t b).1=t:=qk0;have L:gOf t b*(wy t b).2=b:=qqh hb;have D:gOf t b*(n*(wy t b).2)=n*b:=by generalize gOf t b=g at *;generalize (wy t b).2=y at *;grind
 constructor
 .intro h;have:=gI h (show 0<gOf t b by lia);rw[F,D]at this;exact this
 .intro h;rcases bU (n*(wy t b).2) (wy t b).1 with z|z
  .exact z
  .have:=aZ z (show 0<=gOf t b by lia);rw[F,D]at this;lia
theorem qkj {N b:Int}(hb:1<=b):b%(wy N b).2=0/\(wy N b).1*(b/(wy N b).2)=N:=by
 have D:=vj (t:=N) hb;have F:=v6 (t:=N) hb;have z:(wy N b).2∣b:=⟨gOf N b,by rw[eJ];exact(qqh hb).symm⟩;refine⟨Int.emod_eq_zero_of_dvd z,?_⟩;have e:=fV z;generalize b/(wy N b).2=q at *;generalize (wy N b).1=x at *;generalize (wy N b).2=y at *;have:y*(x*q-N)=0:=by grind
 rcases Int.mul_eq_zero.mp this with h|h <;> lia
theorem xzb {u v b d:Int}(hb:0<=d)(hd:d<=b):(if v<u then v else u)*b<=u*b+(v-u)*d/\u*b+(v-u)*d<=(if v>u then v else u)*b:=by
 by_cases h:v<u
 .rw[aw h,ao ⋯];have D:=aZ hd (show 0<=u-v by lia);have z:=cb (show 0<=u-v by lia) hb;constructor <;> grind
 .rw[ao h];have D:=aZ hd (show 0<=v-u by lia);have z:=cb (show 0<=v-u by lia) hb;by_cases h2:v>u
  .rw[aw h2];constructor <;> grind
  .rw[ao h2];have:v=u:=by lia
   subst this;constructor <;> grind
end L2
namespace L2
open PySem PySem.Spec PyProof.Rows
def qud (J:It)(M:List Nat)(tt:TT)(te:TE)(σ:St)(H1:Hp)(Q:VK):Prop:=∀p,H1 p=none->∃W:Nat->Nat->List V->Hp->Prop,(∃m,W 0 m [] (upd H1 p (.lst []))) /\
 ∀i m ys H2,W i m ys H2->H2 p=some (.lst ys)/\ys.length<sizeLine/\((J.stop i H2/\Q (.ref p) H2)\/(J.go i H2/\∀v H3,J.yld i H2 v H3 ->
  tt (zk M σ (some v)) H3 λb H4=>if b=true then te (zk M σ (some v)) H4 (λy H5=>H5 p=some (.lst ys)/\∃m',m'<m/\W (i+1) m' (ys++[y]) (upd H5 p (.lst (ys++[y])))) else H4 p=some (.lst ys)/\∃m',m'<m/\W (i+1) m' ys H4))
def tCompI (M:List Nat)(wi:TI)(tt:TT)(te:TE):TE:=λσ H Q=>wi σ H λJ H1=>qud J M tt te σ H1 Q
section
variable {X:Cx}{elt iter cd:Expr}{x:Str}{px pos:Pos}{scope:Scope}{cl:List (Str×Aj)}{M:List Nat}{wi:TI}{tt:TT}{te:TE}
theorem wuy (hc:X.calm=true)(hclos:closureFor scope X.env=pure cl)(hcap:CapAll X.env cl)(hhas:HasAll cl scope.names)(hix:CapIx X scope cl M)(hk:scope.kind=.function)
  (hnames:∀y∈scope.names,y.2=.local->scope.names.lookup y.1=some .local) (hx:scope.names.lookup x=some .local) (hnd:(Qs X x M).Nodup) (hi:PI X (.Name x px) iter wi)
  (ht:∀C s2 H2 fp pn,PT (z8 X scope cl x M C s2 H2 fp pn) cd tt) (he:∀C s2 H2 fp pn,PE (z8 X scope cl x M C s2 H2 fp pn) elt te) (hs:∀z,foldedSetIterable iter X.env z=pure z)
  {use:Option (Ag->Sem Unit)} {QQ:Ag->Ab->Prop} {pins:List (Aj×Obj)} {s:Ab} {σ:St} {H:Hp} {Q:VK} {ps:Pos} (I:Inv X pins σ H s) (h:wi σ H λJ H1=>qud J M tt te σ H1 Q)
  (fin:∀(C:Aj) (s2 s4:Ab) (H1 H2:Hp) (fp:List Aj),Inv X pins σ H1 s2->s2.heap.objs.size<C->(∀b∈fp,vh X pins H1 b)->Inv (z8 X scope cl x M C s2 H1 fp (X.pn++pins)) [] (zk M σ none) H2 s4->Q (.ref s2.heap.objs.size) H2 ->
   compPost (model X.prog X.w) X.A X.xe use QQ (.ref s2.heap.objs.size) C (.ok .next) s4) :
  wpAny (model X.prog X.w) X.A (comprehension (.ListComp elt [⟨.Name x px,iter,[cd],0⟩] scope pos) scope X.env ps (newList []) false (eval iter X.env) use) QQ X.xe s:=by
 refine yc hclos hhas hk hnames hi hs I h λit fp tn J H1 s2 C h3 tk F T t3 D ad ap hR L an as hD=>?_;obtain⟨W,⟨m0,w0⟩,hW⟩:=hR s2.heap.objs.size (F.hok.fresh (ai _));have ab:(relabel scope X.env).names.lookup x=some .local:=cG hx;refine vx (Y:=z8 X scope cl x M C s2 H1 fp (X.pn++pins)) (V:=λi n H2=>∃ys,W i n ys H2) (Qd:=Q (.ref s2.heap.objs.size)) (REST:=wx2 cd (compEnvC scope cl C X.env) (qvv elt (.ref s2.heap.objs.size) (compEnvC scope cl C X.env) _) (again _)) T hc (λ_ _ z=>z) (compTurn_list ..) rfl rfl (wm (i:=0) hnd rfl (.inl ab) (.inr ab)) (uq hcap F L D ad) (λi n H2 ⟨ys,w⟩=>?_) (λH2 s4 J4 q=>fin C s2 s4 H1 H2 fp F L D J4 q) (F.comp hcap hhas hix hk L an as hD D ap) ⟨[],w0⟩ t3 λb hb=>by rw[wv (ay (ad b hb))];exact(D b hb).1
 obtain⟨hp,hz,a1⟩:=hW i n ys H2 w;refine a1.imp id λ⟨a0,hy⟩=>⟨a0,λv H3 yl=>⟨λσ4 H4=>σ4=zk M σ (some v)/\H3=H4,⟨rfl,rfl⟩,λ_ _ e=>?_⟩⟩;obtain⟨rfl,rfl⟩:=e;refine⟨Qy M σ v,λa2 s' J=>?_⟩;exact Wg (ht _ _ _ _ _) J (hy v H3 yl) (λs6 H6 U h6=>aP (yf (N:=λzs Z=>∃m',m'<n/\W (i+1) m' zs Z) (λ_ _ z=>z) (he _ _ _ _ _) U hz h6) (λr s5 ⟨e,Z,J5,zs,m',hm,w'⟩=>⟨e,Z,J5,m',hm,zs,w'⟩) λ_ _ z=>z)
  λs6 H6 U ⟨_,m',hm,w'⟩=>ah ⟨rfl,H6,U,m',hm,ys,w'⟩
theorem Q7 (hc:X.calm=true)(hclos:closureFor scope X.env=pure cl)(hcap:CapAll X.env cl)(hhas:HasAll cl scope.names)(hix:CapIx X scope cl M)(hk:scope.kind=.function)
  (hnames:∀y∈scope.names,y.2=.local->scope.names.lookup y.1=some .local) (hx:scope.names.lookup x=some .local) (hnd:(Qs X x M).Nodup) (hi:PI X (.Name x px) iter wi)
  (ht:∀C s2 H2 fp pn,PT (z8 X scope cl x M C s2 H2 fp pn) cd tt) (he:∀C s2 H2 fp pn,PE (z8 X scope cl x M C s2 H2 fp pn) elt te) (hs:autoParam (∀z,foldedSetIterable iter X.env z=pure z) aU3._auto_1) :
  PE X (.ListComp elt [⟨.Name x px,iter,[cd],0⟩] scope pos) (tCompI M wi tt te):=by
 intro pins s σ H Q I h;rw[ij];refine wuy hc hclos hcap hhas hix hk hnames hx hnd hi ht he hs (use:=none) I h λC s2 s4 H1 H2 fp Z U W D J=>?_;obtain⟨m,L,_⟩:=D.loc;exact⟨m,L,λh' F=>⟨.ref s2.heap.objs.size,H2,Z.uncomp (ba U) W D F,rfl,J⟩⟩
end
theorem qu1 {M:List Nat}{lo:Int}{n:Nat}{tt:TT}{te:TE}{σ:St}{H:Hp}{Q:VK}(c:Nat->Bool)(f:Nat->V)(hn:n<=1000000)
  (ht:∀(i:Nat) (H':Hp) (R:Bool->Hp->Prop),i<n->Same H H'->(∀H'',Same H' H''->R (c i) H'')->tt (zk M σ (some (.int (lo+i)))) H' R)
  (he:∀(i:Nat) (H':Hp) (R:VK),i<n->c i=true->Same H H'->(∀H'',Same H' H''->R (f i) H'')->te (zk M σ (some (.int (lo+i)))) H' R)
  (k:∀p H',H p=none->Same H H'->H' p=some (.lst (((List.range n).filter c).map f))->Q (.ref p) H'):qud (Itr lo n) M tt te σ H Q:=by
 intro p np;refine⟨λi m ys H2=>i<=n/\m=n-i/\ys=((List.range i).filter c).map f/\Same H H2/\H2 p=some (.lst ys),⟨n,aK _,rfl,rfl,Same.upd np,qh⟩,?_⟩;rintro i m ys H2 ⟨hi,rfl,rfl,sm,hp⟩;refine⟨hp,?_,?_⟩
 .rw[af];have:=bN c (List.range i);rw[au]at this;have:(1000000:Nat)<sizeLine:=by decide
  lia
 .by_cases hlt:i<n
  .refine .inr ⟨hlt,?_⟩;rintro v H3 ⟨rfl,rfl⟩;refine ht i _ _ hlt sm λJ z=>?_;cases hc:c i with
   |true =>
    refine Q6 ?_;refine he i _ _ hlt hc (sm.trans z) λF D=>⟨D _ _ (z _ _ hp),n-(i+1),⋯,⋯,rfl,?_,λb o e=>?_,qh⟩
    .rw[aT,cD,aA];simp[bW,hc]
    .rw[wv (wj e np)];exact D _ _ (z _ _ (sm _ _ e))
   |false =>
    refine Y8 ?_;refine⟨z _ _ hp,n-(i+1),⋯,⋯,rfl,?_,sm.trans z,z _ _ hp⟩;rw[aT,cD,aA];simp[bW,hc]
  .have:i=n:=by lia
   subst this;exact .inl ⟨ai _,k p _ np sm hp⟩
theorem qx9 {i:Int}{acc:Array Ag}{n:Nat}(h:ItemsOf (λk v=>∃t,v=.int (i+k*1) t) acc n):Vals ((List.range n).map λk:Nat=>V.int (i+k)) acc.toList:=by
 obtain⟨h1,h2⟩:=h;have J:∀(l:List Ag) (b m:Nat),l.length=m->(∀(j:Nat) v,l[j]?=some v->∃t,v=.int (i+((b+j:Nat):Int)*1) t)->Vals ((List.range' b m).map λk:Nat=>V.int (i+k)) l:=by
  intro l
  induction l with
  |nil=>intro b m z _;subst z;exact .nil
  |cons x r ih =>
   intro b m z F;subst z;rw[aB,List.range'_succ,aO];refine .cons ?_ (ih (b+1) r.length rfl λj v e=>?_)
   .obtain⟨t,e⟩:=F 0 x rfl;refine⟨t,?_⟩;rw[e];simp
   .obtain⟨t,D⟩:=F (j+1) v e;refine⟨t,?_⟩;rw[D,show b+1+j=b+(j+1) by lia]
 have:=J acc.toList 0 n (by simpa using h1) (λj v e=>by
  obtain⟨t,D⟩:=h2 j v (by simpa using e)
  exact⟨t,by rw[D];simp⟩)
 rwa [<-List.range_eq_range']at this
def tLR (ta:TA):TE:=λσ H Q=>ta σ H λvs H1=>∃i j:Int,vs=[.int i,.int j]/\(-(2 ^ 40)<=i/\i<2 ^ 40/\-(2 ^ 40)<=j/\j<2 ^ 40)/\(j-i).toNat<=1000000/\∀q,H1 q=none->Q (.ref q) (upd H1 q (.lst ((List.range (j-i).toNat).map λk:Nat=>V.int (i+k))))
theorem qz5 {X:Cx}{a b:Expr}{ta:TA}{p1 pos1 p2 pos2:Pos}(hc:X.calm=true)(hgl:Gl X "list")(hml:X.mg "list" = none)(hg:Gl X "range")(hm:X.mg "range" = none)(ha:PA X [a,b] ta)
  (hs:autoParam (starEach [a,b] X.env=[(false,eval a X.env),(false,eval b X.env)]) aU4._auto_1) (hs2:autoParam (starEach [b] X.env=[(false,eval b X.env)]) aU4._auto_1) (hs3:autoParam (starEach [(.Call (.Name "range" p1) [a,b] [] pos1)] X.env=[(false,eval (.Call (.Name "range" p1) [a,b] [] pos1) X.env)]) aU4._auto_1) :
  PE X (.Call (.Name "list" p2) [.Call (.Name "range" p1) [a,b] [] pos1] [] pos2) (tLR ta):=by
 intro pins s σ H Q I h;refine ca (jb I hgl hml de ?_);refine bi (e:=.Call (.Name "range" p1) [a,b] [] pos1) (rest:=[]) ?_ hs3 rfl;rw[hs3];show wpAny _ _ (spliced ((false,eval (.Call (.Name "range" p1) [a,b] [] pos1) X.env)::[])) _ _ s;refine gD ?_;refine Call_ (jb I hg hm iK (bi (thn (ha pos1 pins s σ H _ I h) λus s1 ⟨vs,H1,I1,r1,D⟩=>?_) (by rw[hs,hs2]) (by rw[hs2];rfl)));obtain⟨i,j,e,⟨D,q2,q3,Z⟩,W,q⟩:=D;subst e;cases r1 with
 |cons r rr =>
  cases rr with
  |cons r' rr =>
   cases rr;obtain⟨t,rfl⟩:=r;obtain⟨t',rfl⟩:=r';refine call_range_2 (hX ?_);have z:Inv X pins σ H1 { s1 with heap:=s1.heap.push { cls:=.type "range",data:=.fields #[.int i t,.int j t',.int 1 s1.toks] },toks:=s1.toks+1 }:=I1.kept λb o e=>ag _ e;refine call_list_range (n:=(j-i).toNat) (z.ok.hd hc) (i3 ..) (small_one ⋯ ⋯ ⋯ ⋯) (rangeSize_nat _ _) ⋯ λh' tk U c' F e L=>?_;have J:((List.range (j-i).toNat).map λk:Nat=>V.int (i+k)).length<=sizeLine:=by
    rw[af,au];have:(1000000:Nat)<sizeLine:=by decide
    lia
   exact⟨.ref _,_,z.laid (t':=tk) F (ai _) (show ObjOk X.prog X.w _ h' _ (.lst _) from ⟨J,U.toList,c',qx9 L,by simpa using e⟩),rfl,q _ (z.hok.fresh (ai _))⟩
end L2
namespace L2
open PySem PySem.Spec PyProof.Rows
structure FunD (K:Aa)(x:Str)(st:Stmt)(f:Aj)(fd:Ad):Prop where
 ex:∃(oc:Ag) (od:Option Aj) (T:Aj) (kV doc pm:Ag) (an:Option Aj) (cdv ct:Ag) (osl:Array (Option Ag)),
  fd=W.fnOf x x (ku st) (zr st) (ww st) (.ref T) kV doc pm an cdv ct/\K.lookup f=some ⟨oc,od,.func fd,osl⟩/\W.codeIn K cdv x=true/\∃o n,K.lookup T=some o/\o.data=.seq #[.none] n
 kp:W.keepIn K (.ref f)=true
structure DefInD (K:Aa)(x:Str)(st:Stmt):Prop where
 ex:∃f fd,W.nsIn K mainGlobals x=some (some (.ref f))/\FunD K x st f fd
section
variable {P:Ac}{w:Ah}{K:Aa}{mg:Str->Option Ag}{base:Heap}
theorem xjt {x:Str}{st:Stmt}{f T:Aj}{oc:Ag}{od an:Option Aj}{osl:Array (Option Ag)}{kV doc pm cdv ct:Ag}(a:W.nsIn K mainGlobals x=some (some (.ref f)))
  (l:K.lookup f=some ⟨oc,od,.func (W.fnOf x x (ku st) (zr st) (ww st) (.ref T) kV doc pm an cdv ct),osl⟩) (c:W.codeIn K cdv x=true) (k:W.keepIn K (.ref f)=true) {tc:Ag} {td:Option Aj} {tn:Nat} {ts:Array (Option Ag)} (t:K.lookup T=some ⟨tc,td,.seq #[.none] tn,ts⟩):DefInD K x st:=⟨_,_,a,⟨oc,od,T,kV,doc,pm,an,cdv,ct,osl,rfl,l,c,_,_,t,rfl⟩,k⟩
theorem FunD.okX {x:Str}{st:Stmt}{f:Aj}{fd:Ad}{N ps:List Str}{k:Nat}{sp:Sp}(F:FunD K x st f fd)(S:FnScope N ps (ww st))(len:∀vs H Q E,sp vs H Q E->vs.length=ps.length)
  (body:∀(cdv:Ag) (A:Ae) (outer:List Env) (s:Ab) (H:Hp) (vs:List V) (Q:VK) (E:XK),Room k (A.deeper (envOfC x (ww st) s.heap.objs.size f cdv))->sp vs H Q E ->
   ∃t,PSs (Yp (CXE P w) P w K mg base N x (ww st) f cdv A outer s H E) (zr st) t/\t { nx:=λ_ H'=>Q .non H',rt:=Q } (Q4 N vs) H):FnOk P w K mg base (CXE P w) (k+1) f fd ps sp:=by
 obtain⟨Z,W,T,kV,ab,pm,an,cdv,ct,U,rfl,z,L,_⟩:=F.ex;exact xvc z L S len λA outer s H vs Q E J D=>body cdv A outer s H vs Q E J D
def Yd (x:Str)(st:Stmt)(ps:List Str)(ds:List Ag):Prop:=∀(T:Aj) (kV doc pm:Ag) (an:Option Aj) (cdv ct:Ag) (us:List Ag),(us++ds).length=ps.length ->
 ∃kk,bindArgs (W.fnOf x x (ku st) (zr st) (ww st) (.ref T) kV doc pm an cdv ct) ⟨us,[]⟩=seqItems? (.ref T) >>= kk/\kk (some #[.none])=pure (ps.zip (us++ds))
structure CalD (P:Ac)(w:Ah)(K:Aa)(mg:Str->Option Ag)(base:Heap)(x:Str)(k:Nat)(sp:Sp):Prop where
 ex:∃f fd ps,mg x=some (.ref f)/\FnOk P w K mg base (CXE P w) k f fd ps sp/\W.keepIn K (.ref f)=true/\Binds K fd ps []/\Binds K fd ps [.none]
theorem FunD.binds {x:Str}{st:Stmt}{f:Aj}{fd:Ad}{ps:List Str}{ds:List Ag}(F:FunD K x st f fd)(b:Yd x st ps ds):Binds K fd ps ds:=by obtain⟨oc,od,T,kV,U,pm,an,cdv,Z,ab,rfl,lk,ad,o,n,L,J⟩:=F.ex;intro s z X D;obtain⟨kk,h1,h2⟩:=b T kV U pm an cdv Z z D;exact W.binds_K X rfl L J h1 h2
theorem DefInD.cal {x:Str}{st:Stmt}{ps:List Str}{k:Nat}{sp:Sp}{h:Heap}(d:DefInD K x st)(KX:K.In h)(G:h.Ns mainGlobals mg)(b:Yd x st ps [])(b':Yd x st ps [.none])(ok:∀f fd,FunD K x st f fd->FnOk P w K mg base (CXE P w) k f fd ps sp):CalD P w K mg base x k sp:=by obtain⟨f,fd,a,F⟩:=d.ex;exact⟨f,fd,ps,bh KX G a,ok f fd F,F.kp,F.binds b,F.binds b'⟩
theorem CalD.all {x:Str}{k:Nat}{sp:Sp}(c:CalD P w K mg base x k sp):Cal P w K mg base x k sp:=by obtain⟨f,fd,ps,h1,h2,h3,h4,_⟩:=c.ex;exact⟨f,fd,ps,h1,h2,h3,h4⟩
end
def tCallD (sp:Sp)(E:St->XK)(t:TA):TE:=λσ H Q=>t σ H λvs H1=>sp (vs++[.non]) H1 Q (E σ)
section
variable {X:Cx}{x:Str}{k:Nat}{sp:Sp}{E:St->XK}{p pos:Pos}{e:Expr}{es:List Expr}{t:TA}
theorem Wh (c:CalD X.prog X.w X.K X.mg X.base x k sp)(hr:Room k X.A)(hg:Gl X x)(hx:j9 X E)
  (ha:PA X (e::es) t) (hdb:autoParam ((x==("__debug__" : Str))=false) aU1._auto_1) (he:autoParam (starEach (e::es) X.env=(false,eval e X.env)::starEach es X.env) aU4._auto_1) (hpl:autoParam ((backTo pos (starEach es X.env)).any (·.1)=false) aU4._auto_1) :
  PE X (.Call (.Name x p) (e::es) [] pos) (tCallD sp E t):=by
 obtain⟨f,fd,ps,L,F,J,_,b⟩:=c.ex;intro pins s σ H Q I h;refine ca (y6 I hg L ?_ hdb);refine ff (h₀:=X.base) I.ok.mod.kin J (thn (ha pos pins s σ H _ I h) λus s1 ⟨vs,H1,I1,r,q⟩=>⟨I1.kIn,?_⟩) he hpl;have D:Vals (vs++[.non]) (us++[.none]):=r.append (.cons rfl .nil);have U:(us++[Value.none]).length=ps.length:=by rw[<-D.length];exact F.len _ _ _ _ q
 refine iM (dL (F.run X.A X.stack s1 H1 ⟨us,[]⟩ (us++[.none]) (vs++[.non]) Q (E σ) hr I1.env0 (b s1 us I1.kIn U) D q) λr s' z=>?_);cases r with
 |error e=>exact hx pins σ H1 s1 e s' I1 z
 |ok fl =>
  cases fl with
  |ret u=>exact I1.after z
  |next=>exact False.elim z
  |brk=>exact False.elim z
  |cont=>exact False.elim z
end
end L2
namespace L2
open PySem
def hv (n:Nat):Nat×Nat:=if h:n%2=0/\0<n then((hv (n/2)).1+1,(hv (n/2)).2) else(0,n)
termination_by n
decreasing_by all_goals lia
theorem xyk {n:Nat}(h:n%2=0)(p:0<n):hv n=((hv (n/2)).1+1,(hv (n/2)).2):=by rw[hv,dif_pos ⟨h,p⟩]
theorem hv_odd {n:Nat}(h:¬ n%2=0):hv n=(0,n):=by rw[hv,dif_neg λz=>h z.1]
def hT (n:Int):Int:=((hv n.toNat).1:Int)
def hO (n:Int):Int:=((hv n.toNat).2:Int)
def Zw (n:Int):List Int:=if hO n=1 then [1,-hT n,1] else [0,hT n,hO n]
theorem lexB {x y:Int}{xs ys:List Int}:HT.lexLt (x::xs) (y::ys)=true↔x<y\/(x=y/\HT.lexLt xs ys=true):=by
 rw[HT.lexLt_cons];by_cases h:x=y
 .rw[aw h];constructor
  .intro z;exact .inr ⟨h,z⟩
  .rintro (z|z)
   .lia
   .exact z.2
 .rw[ao h,dv];constructor
  .intro z;exact .inl z
  .rintro (z|z)
   .exact z
   .exact absurd z.1 h
theorem lexN:HT.lexLt [] []=true↔False:=by simp[HT.lexLt]
theorem lexNC {y:Int}{ys:List Int}:HT.lexLt [] (y::ys)=true↔True:=by simp[HT.lexLt]
theorem lexCN {y:Int}{ys:List Int}:HT.lexLt (y::ys) []=true↔False:=by simp[HT.lexLt]
def qkf (a b:Int):Prop:=(¬ hO a=1/\hO b=1)\/(hO a=1/\hO b=1/\hT b<hT a)\/(¬ hO a=1/\¬ hO b=1/\(hT a<hT b\/(hT a=hT b/\hO a<hO b)))
instance (a b:Int):Decidable (qkf a b):=by unfold qkf;infer_instance
theorem aheadP (a b:Int):HT.lexLt (Zw a) (Zw b)=decide (qkf a b):=by rw[cx,dv];unfold Zw qkf;by_cases h1:hO a=1 <;> by_cases h2:hO b=1 <;> simp[h1,h2,lexB,lexN,lexNC,lexCN] <;> lia
theorem Qb {u:Int}(h1:1<=u)(e:u%2=0):hT u=hT (u/2)+1/\hO u=hO (u/2):=by
 unfold hT hO;have:(u/2).toNat=u.toNat/2:=by lia
 rw[this,xyk (n:=u.toNat) ⋯ ⋯];exact⟨by push_cast;rfl,rfl⟩
theorem Z2 {u:Int}(h1:1<=u)(e:¬ u%2=0):hT u=0/\hO u=u:=by unfold hT hO;rw[hv_odd (n:=u.toNat) ⋯];exact⟨rfl,by show((u.toNat:Nat):Int)=u;lia⟩
end L2
namespace L2
open PySem PySem.Spec PyProof.Rows
section
variable {κ:Type}[DecidableEq κ]
def uy (kvs:List (κ×V))(k:κ):Option V:=(kvs.find? λkv=>decide (kv.1=k)).map (·.2)
def Jf (kvs:List (κ×V))(k:κ)(v:V):List (κ×V) :=
 if(kvs.any λkv=>decide (kv.1=k))=true then kvs.map (λkv=>if kv.1=k then(kv.1,v) else kv) else kvs++[(k,v)]
theorem yp {p:κ×V}{r:List (κ×V)}{k:κ}(e:p.1=k):uy (p::r) k=some p.2:=by simp[uy,dW,e]
theorem yh {p:κ×V}{r:List (κ×V)}{k:κ}(e:¬ p.1=k):uy (p::r) k=uy r k:=by simp[uy,dW,e]
theorem qx3 (k:κ):∀kvs:List (κ×V),(kvs.any λkv=>decide (kv.1=k))=(uy kvs k).isSome
 |[]=>rfl
 |p::r=>by
  rw[ik];by_cases e:p.1=k
  .simp only[yp e,aM e,Bool.true_or,Option.isSome_some]
  .rw[yh e,aX e,Bool.false_or];exact qx3 k r
theorem qvt (k j:κ)(y:V):∀kvs:List (κ×V),uy kvs k=none->uy (kvs++[(k,y)]) j=if j=k then some y else uy kvs j
 |[],_=>by
  by_cases e:k=j
  .rw[aw e.symm];exact yp (p:=(k,y)) e
  .rw[ao (λz=>e z.symm)];exact yh (p:=(k,y)) e
 |p::r,hn=>by
  rw[List.cons_append];have hk:¬ p.1=k:=λz=>by rw[yp z]at hn;cases hn
  rw[yh hk]at hn;have ih:=qvt k j y r hn;by_cases e:p.1=j
  .rw[yp e,yp e,ao (λz=>hk (e.trans z))]
  .rw[yh e,yh e,ih]
theorem qqc (kvs:List (κ×V))(k:κ)(v:V):(Jf kvs k v).length<=kvs.length+1:=by
 unfold Jf;split
 .rw[af];lia
 .rw[ar,aB,bA];lia
theorem xxr {kvs:List (κ×V)}{k:κ}(v:V)(h:uy kvs k=none):Jf kvs k v=kvs++[(k,v)]:=by unfold Jf;rw[qx3,h];exact ao ⋯
theorem RelO.isSome_eq {o:Option V}{u:Option Ag}(r:RelO o u):o.isSome=u.isSome:=by
 cases o with
 |none=>cases u with
  |none=>rfl
  |some _=>exact(show False from r).elim
 |some _=>cases u with
  |none=>exact(show False from r).elim
  |some _=>rfl
theorem KV.val {kvs:List (κ×V)}{vs:List (κ×Ag)}(r:KV kvs vs)(k:κ):RelO (uy kvs k) (valueAt vs k):=by
 unfold KV at r
 induction r with
 |nil=>exact True.intro
 |@cons p q ps qs h t ih =>
  obtain⟨h1,h2⟩:=h;by_cases e:p.1=k
  .have D:q.1=k:=h1.symm.trans e;have b:valueAt (q::qs) k=some q.2:=by simp[valueAt,dW,D]
   rw[yp e,b];exact h2
  .have D:¬ q.1=k:=λz=>e (h1.trans z);have b:valueAt (q::qs) k=valueAt qs k:=by simp[valueAt,dW,D]
   rw[yh e,b];exact ih
theorem KV.any {kvs:List (κ×V)}{vs:List (κ×Ag)}(r:KV kvs vs)(k:κ):(kvs.any λkv=>decide (kv.1=k))=vs.any λkv=>decide (kv.1=k):=by
 unfold KV at r
 induction r with
 |nil=>rfl
 |cons h t ih=>rw[ik,ik,ih,h.1]
theorem KV.repl {kvs:List (κ×V)}{vs:List (κ×Ag)}(r:KV kvs vs)(k:κ){y:V}{u:Ag}(ry:RelV y u) :
  KV (kvs.map λkv=>if kv.1=k then(kv.1,y) else kv) (vs.map λkv=>if kv.1=k then(kv.1,u) else kv):=by
 unfold KV at r ⊢
 induction r with
 |nil=>exact .nil
 |@cons p q ps qs h t ih =>
  rw[aO,aO];refine .cons ?_ ih;obtain⟨h1,h2⟩:=h;by_cases e:p.1=k
  .rw[aw e,aw (h1.symm.trans e)];exact⟨h1,ry⟩
  .rw[ao e,ao (λz=>e (h1.trans z))];exact⟨h1,h2⟩
theorem KV.put {kvs:List (κ×V)}{vs:List (κ×Ag)}(r:KV kvs vs)(k:κ){y:V}{u:Ag}(ry:RelV y u):KV (Jf kvs k y) (stored vs k u):=by
 unfold Jf stored;rw[r.any k];by_cases e:(vs.any λz=>decide (z.1=k))=true
 .rw[aw e,aw e];exact r.repl k ry
 .rw[ao e,ao e];exact Paired.snoc r ⟨rfl,ry⟩
theorem KV.length {kvs:List (κ×V)}{vs:List (κ×Ag)}(r:KV kvs vs):kvs.length=vs.length:=bC r
end
theorem wjg {P:Ac}{w:Ah}{k:Key}{u:Ag}(r:RelV (kV k) u):(vk P w).is k u=true:=by
 cases k with
 |inl i=>obtain⟨t,e⟩:=(show ∃t,u=Value.int i t from r);subst e;exact wwh P w i t
 |inr x=>obtain⟨t,e⟩:=(show ∃t,u=Value.str x t from r);subst e;exact qu5 P w x t
theorem qvs {P:Ac}{w:Ah}:∀ {ks:List Key} {us:List Ag},Vals (ks.map kV) us->ItemsAre (vk P w) ks us
 |[],_,r=>by rw[du]at r;cases r;exact .nil
 |k::ks,_,r=>by
  rw[aO]at r;cases r with
  |cons h t=>exact .cons (wjg h) (qvs t)
abbrev KT (H:Hp):List (List Key×V)->List (List Key×Aj×Ag)->Prop:=Paired λp q=>p.1=q.1/\H q.2.1=some (.tup (p.1.map kV))/\RelV p.2 q.2.2
theorem KT.val {H:Hp}{kvs:List (List Key×V)}{xs:List (List Key×Aj×Ag)}(r:KT H kvs xs)(k:List Key):RelO (uy kvs k) ((atKey xs k).map (·.2)):=by
 induction r with
 |nil=>exact True.intro
 |@cons p q ps qs h t ih =>
  obtain⟨h1,_,h2⟩:=h;by_cases e:p.1=k
  .have D:q.1=k:=h1.symm.trans e;have b:atKey (q::qs) k=some q.2:=by simp[atKey,dW,D]
   rw[yp e,b];exact h2
  .have D:¬ q.1=k:=λz=>e (h1.trans z);have b:atKey (q::qs) k=atKey qs k:=by simp[atKey,dW,D]
   rw[yh e,b];exact ih
theorem KT.repl {H:Hp}{kvs:List (List Key×V)}{xs:List (List Key×Aj×Ag)}(r:KT H kvs xs)(k:List Key){y:V}{u:Ag}(ry:RelV y u) :
  KT H (kvs.map λkv=>if kv.1=k then(kv.1,y) else kv) (xs.map (putAt k u)):=by
 induction r with
 |nil=>exact .nil
 |@cons p q ps qs h t ih =>
  rw[aO,aO];refine .cons ?_ ih;obtain⟨h1,h2,D⟩:=h;unfold putAt;by_cases e:p.1=k
  .rw[aw e,aw (h1.symm.trans e)];exact⟨h1,h2,ry⟩
  .rw[ao e,ao (λz=>e (h1.trans z))];exact⟨h1,h2,D⟩
theorem KT.put {H:Hp}{kvs:List (List Key×V)}{xs:List (List Key×Aj×Ag)}(r:KT H kvs xs)(k:List Key){b:Aj}{y:V}{u:Ag}(hb:H b=some (.tup (k.map kV)))(ry:RelV y u) :
  KT H (Jf kvs k y) (storedH xs k b u):=by
 have e:(kvs.any λz=>decide (z.1=k))=(atKey xs k).isSome:=by rw[qx3,(r.val k).isSome_eq,Option.isSome_map]
 unfold Jf storedH;rw[e];by_cases q:(atKey xs k).isSome=true
 .rw[aw q,aw q];exact r.repl k ry
 .rw[ao q,ao q];exact Paired.snoc r ⟨rfl,hb,ry⟩
theorem KT.keeps {H H':Hp}{kvs:List (List Key×V)}{xs:List (List Key×Aj×Ag)}(r:KT H kvs xs)(ht:∀b ys,H b=some (.tup ys)->H' b=some (.tup ys)):KT H' kvs xs :=
 Paired.mapP r λ_ _ z=>⟨z.1,ht _ _ z.2.1,z.2.2⟩
section
variable {P:Ac}{w:Ah}{H:Hp}{h:Heap}{a:Aj}
theorem rd_of {u:HO}(ok:HOk P w H h)(e:Rd H a u):ObjOk P w H h a u:=e.ok ok
theorem wjz {kvs:List (Key×V)}(ok:HOk P w H h)(e:Rd H a (.dK kvs)):kvs.length<=sizeLine/\(a==sysModules)=false/\∃vs,KV kvs vs/\h.DictOf (vk P w) a vs :=
 show ObjOk P w H h a (.dK kvs) from rd_of ok e
theorem dk_of {kvs:List (Key×V)}(ok:HOk P w H h)(e:H a=some (.dK kvs)):kvs.length<=sizeLine/\(a==sysModules)=false/\∃vs,KV kvs vs/\h.DictOf (vk P w) a vs:=wjz ok (.inl e)
theorem Jm {ks:List Key}(ok:HOk P w H h)(e:H a=some (.tup (ks.map kV))):(tupleKind (vk P w)).is h ks a:=by obtain⟨_,z,r,o,h1,h2,n,D⟩:=(show ObjOk P w H h a (.tup (ks.map kV)) from ok a _ e);exact⟨o,z.toArray,n,h1,h2,D,by simpa using qvs r⟩
theorem wkw {kvs:List (List Key×V)}(ok:HOk P w H h)(e:Rd H a (.dT kvs)):kvs.length<=sizeLine/\(a==sysModules)=false /\
  ∃xs,KT H kvs xs/\h.DictOfH (tupleKind (vk P w)) a xs:=by
 obtain⟨z,y,xs,r,o,es,ep,h1,h2,L,J,F⟩:=(show ObjOk P w H h a (.dT kvs) from rd_of ok e);refine⟨z,y,xs,r,o,es,ep,h1,h2,L,J,λx D=>?_,F⟩;have U:∀ {l:List (List Key×V)} {m:List (List Key×Aj×Ag)},KT H l m->∀x∈m,(tupleKind (vk P w)).is h x.1 x.2.1:=by
  intro l m q
  induction q with
  |nil=>intro x D;exact nomatch D
  |@cons p q ps qs hq t ih =>
   intro x D;rcases aC.mp D with e|D
   .subst e;exact Jm ok (by rw[<-hq.1];exact hq.2.1)
   .exact ih x D
 exact U r x D
theorem dt_of {kvs:List (List Key×V)}(ok:HOk P w H h)(e:H a=some (.dT kvs)):kvs.length<=sizeLine/\(a==sysModules)=false /\
  ∃xs,KT H kvs xs/\h.DictOfH (tupleKind (vk P w)) a xs:=wkw ok (.inl e)
end
def DGet (H:Hp)(a:Aj)(y:V)(r:Option V):Prop :=
 (∃kvs k,Rd H a (.dK kvs)/\y=kV k/\r=uy kvs k)\/∃kvs k b,Rd H a (.dT kvs)/\y=.ref b/\H b=some (.tup (k.map kV))/\r=uy kvs k
def DPut (H:Hp)(a:Aj)(y v:V)(H':Hp):Prop :=
 (∃kvs k,H a=some (.dK kvs)/\y=kV k/\kvs.length<sizeLine/\H'=upd H a (.dK (Jf kvs k v))) \/
 ∃kvs k b,H a=some (.dT kvs)/\y=.ref b/\H b=some (.tup (k.map kV))/\kvs.length<sizeLine/\H'=upd H a (.dT (Jf kvs k v))
theorem DGet.t {H:Hp}{a b:Aj}{kvs:List (List Key×V)}{k:List Key}(e:H a=some (.dT kvs))(eb:H b=some (.tup (k.map kV))):DGet H a (.ref b) (uy kvs k):=.inr ⟨kvs,k,b,.inl e,rfl,eb,rfl⟩
theorem DPut.t {H:Hp}{a b:Aj}{kvs:List (List Key×V)}{k:List Key}{v:V}(e:H a=some (.dT kvs))(eb:H b=some (.tup (k.map kV)))(hl:kvs.length<sizeLine) :
  DPut H a (.ref b) v (upd H a (.dT (Jf kvs k v))):=.inr ⟨kvs,k,b,e,rfl,eb,hl,rfl⟩
section
variable {X:Cx}{pins:List (Aj×Obj)}{σ:St}{H:Hp}{s:Ab}{a:Aj}{y v:V}{u r:Ag}{o:Option V}{A:Ae}{E:Ag->Ab->Prop}
theorem Inv.big (I:Inv X pins σ H s):sysModules<s.heap.objs.size:=by have h:mainGlobals<s.heap.objs.size:=(I.mod.glob.keeps I.bk).lt;exact aR ⋯ h
theorem wuc {Q:Ag->Ab->Prop}(hu:A.units+1<cLine)(I:Inv X pins σ H s)(g:DGet H a y (some v))(ry:RelV y u)(h:∀w' s',Inv X pins σ H s'->RelV v w'->Q w' s') :
  wpAny (model X.prog X.w) A (getItem (.ref a) u) Q E s:=by
 rcases g with⟨kvs,k,e,L,l⟩|⟨kvs,k,b,e,L,eb,l⟩
 .subst L;obtain⟨z,hd,vs,F,U⟩:=wjz I.hok e;obtain⟨w',J,D⟩:=RelO.some_of (v:=v) (o:=valueAt vs k) (by rw[l];exact F.val k);exact wpAny_getItem_of (wjg ry) U.mapOf J (h w' _ (I.tok _) D)
 .subst L;cases(show u=Value.ref b from ry);obtain⟨z,hd,xs,F,U⟩:=wkw I.hok e;obtain⟨w',J,D⟩:=RelO.some_of (v:=v) (o:=(atKey xs k).map (·.2)) (by rw[l];exact F.val k);obtain⟨p,Z,W⟩:=df.mp J;refine wpAny_getItem_heap (gJ hu) (Jm I.hok eb) U Z ?_;rw[W];exact h w' _ (I.tok _) D
theorem xj2 {Q:Ag->Ab->Prop}(hu:A.units+1<cLine)(I:Inv X pins σ H s)(g:DGet H a y o)(ry:RelV y u)(h:∀s',Inv X pins σ H s'->Q (.bool (!o.isSome)) s') :
  wpAny (model X.prog X.w) A (compareOp .NotIn u (.ref a)) Q E s:=by
 rcases g with⟨kvs,k,e,J,l⟩|⟨kvs,k,b,e,J,U,l⟩
 .subst J;obtain⟨z,F,vs,D,L⟩:=wjz I.hok e;refine wpAny_notIn_of (wjg ry) F L.mapOf ?_;rw[<- (D.val k).isSome_eq,<-l];exact h _ (I.tok _)
 .subst J;cases(show u=Value.ref b from ry);obtain⟨z,F,xs,D,L⟩:=wkw I.hok e;refine wpAny_notIn_heap (gJ hu) (Jm I.hok U) F L ?_;have q:=(D.val k).isSome_eq;rw[Option.isSome_map]at q;rw[<-q,<-l];exact h _ (I.tok _)
theorem qwq {h':Heap}{t':Nat}{ob:HO}(I:Inv X pins σ H s)(mu:Mut (H a))(hs:Heap.SameBut a s.heap h')(he:∃q,h'.get? a=some q)(new:ObjOk X.prog X.w (upd H a ob) h' a ob) :
  Inv X pins σ (upd H a ob) { s with heap:=h',toks:=t' } :=
 I.write (x:=a) (e:=a) mu (.inl rfl) (λb q hb z=>(hs.2 b hb).trans z) he new
theorem dk_new {P:Ac}{w:Ah}{H':Hp}{h':Heap}{kvs:List (Key×V)}{vs:List (Key×Ag)}(z:kvs.length<=sizeLine)(hd:(a==sysModules)=false)(rel:KV kvs vs)(dd:h'.DictOf (vk P w) a vs) :
  ObjOk P w H' h' a (.dK kvs):=⟨z,hd,vs,rel,dd⟩
theorem xqb {H':Hp}{Q:Unit->Ab->Prop}(hu:A.units+1<cLine)(I:Inv X pins σ H s)(g:DPut H a y v H')(ry:RelV y u)(rv:RelV v r)(h:∀s',Inv X pins σ H' s'->Q () s') :
  wpAny (model X.prog X.w) A (setItem (.ref a) u r) Q E s:=by
 rcases g with⟨kvs,k,e,Z,l,eH⟩|⟨kvs,k,b,e,Z,eb,l,eH⟩
 .subst Z eH;obtain⟨z,W,vs,D,dd⟩:=dk_of I.hok e;have L:vs.length<=sizeLine:=by rw[<-D.length];exact z
  have U:(Jf kvs k v).length<=sizeLine:=by have:=qqc kvs k v;lia
  refine wpAny_setItem_pairs (hsz:=L) (wjg ry) dd λh' J hs=>h _ ?_;have he:∃q,h'.get? a=some q:=let ⟨q,_,_,F,_⟩:=J;⟨q,F⟩;exact qwq I (by rw[e];exact True.intro) hs he (dk_new U W (D.put k rv) J)
 .subst Z eH;cases(show u=Value.ref b from ry);obtain⟨z,W,xs,D,dd⟩:=dt_of I.hok e;have L:xs.length<=sizeLine:=by rw[<-bC D];exact z
  have U:(Jf kvs k v).length<=sizeLine:=by have:=qqc kvs k v;lia
  refine wpAny_setItem_heap (hsz:=L) (gJ hu) (Jm I.hok eb) dd λh' J hs=>h _ ?_;obtain⟨q,es,ep,F,h2,h3,h4,_,h5⟩:=J;refine qwq I (by rw[e];exact True.intro) hs ⟨q,F⟩ ⟨U,W,_,(D.put k eb rv).keeps λc ys ec=>?_,q,es,ep,F,h2,h3,h4,h5⟩;rw[wv (ne_of ec e (λz=>nomatch z))];exact ec
end
section
variable {X:Cx}{pins:List (Aj×Obj)}{σ:St}{H:Hp}{s:Ab}{a:Aj}{kvs:List (Key×V)}{k:Key}{u:Ag}{A:Ae}{E:Ag->Ab->Prop}
end
def NoSl (i:Expr):Prop:=∀ov iv,subscripted i false ov iv=operate [ov,iv] (getItem ov iv)
theorem xyq {prog:Ac}{w:Ah}{A:Ae}{E:Ag->Ab->Prop}{s:Ab}{env:Env}{value slice:Expr}{pos:Pos}{T id:String}{Q:Ag->Ab->Prop}
  (hl:typeLookup (.type T) "__getitem__" = pure (some (.builtin id))) (hs:NoSl slice)
  (h:wpAny (model prog w) A (eval value env) (λo s₁=>wpAny (model prog w) A (eval slice env) (λi s₂=>s₂.TypeIs o T/\wpAny (model prog w) A (getItem o i) Q E s₂) E s₁) E s) :
  wpAny (model prog w) A (eval (.Subscript value slice pos) env) Q E s:=by
 refine Subscript_ (aP h (λo s₁ L=>aP L (λi s₂ z=>?_) λ_ _ x=>x) λ_ _ x=>x);obtain⟨hT,z⟩:=z;unfold subscriptTail;refine ac ?_;rw[getitemInPython_of_ne hT.not_modules];refine ac (iU hT hl ?_);have D:wpAny (model prog w) A (subscripted slice false o i) (λr F=>wpAny (model prog w) A (letTemporaryGo value o r >>= λ_=>pure r) Q E F) E s₂:=by rw[hs o i];exact wpAny_operating (aP z (λr F J=>ac (wpAny_letTemporaryGo (ah J))) λ_ _ x=>x)
 first
  |exact ah (ac D)
  |exact ac (ah (ac D))
  |exact ac D
theorem wwy {X:Cx}{pins:List (Aj×Obj)}{σ:St}{H:Hp}{s:Ab}{a:Aj}{y:V}{o:Option V}(I:Inv X pins σ H s)(g:DGet H a y o):s.TypeIs (.ref a) "dict" := by
 rcases g with⟨kvs,k,e,_,_⟩|⟨kvs,k,b,e,_,_,_⟩
 .obtain⟨_,_,vs,_,dd⟩:=wjz I.hok e;exact dd.typeIs
 .obtain⟨_,_,xs,_,dd⟩:=wkw I.hok e;exact dd.typeIs
def tDGet (td ty:TE):TE:=λσ H Q=>td σ H λx H1=>ty σ H1 λy H2=>∃a v,x=.ref a/\DGet H2 a y (some v)/\Q v H2
def xjn (ty td:TE):TE:=λσ H Q=>ty σ H λy H1=>td σ H1 λx H2=>∃a o,x=.ref a/\DGet H2 a y o/\Q (.bl (!o.isSome)) H2
def sDPut (td ty tv:TE):TS:=λD σ H=>tv σ H λv H1=>td σ H1 λx H2=>ty σ H2 λy H3=>∃a H4,x=.ref a/\DPut H3 a y v H4/\D.nx σ H4
section
variable {X:Cx}{o i e value:Expr}{pos pos' tpos:Pos}{td ty tv:TE}
theorem xkj (hu:X.A.units+1<cLine)(ho:PE X o td)(hi:PE X i ty)(hs:NoSl i):PE X (.Subscript o i pos) (tDGet td ty):=by intro pins s σ H Q I h;refine xyq PySem.F.slot_dict_getitem.lookup hs (thn (ho pins s σ H _ I h) λu s1 ⟨x,H1,I1,rx,q1⟩=>thn (hi pins s1 σ H1 _ I1 q1) λiv s2 ⟨y,H2,I2,ry,a,v,ex,g,q2⟩=>?_);subst ex;obtain rfl:u=Value.ref a:=rx;exact⟨wwy I2 g,wuc hu I2 g ry λJ L D z=>⟨v,H2,D,z,q2⟩⟩
theorem wyk (hu:X.A.units+1<cLine)(hi:PE X i ty)(ho:PE X o td):PC X .NotIn i o (xjn ty td):=by intro pins s σ H Q I h;refine thn (hi pins s σ H _ I h) λiv s1 ⟨y,H1,I1,ry,q1⟩=>thn (ho pins s1 σ H1 _ I1 q1) λu s2 ⟨x,H2,I2,rx,a,ov,ex,g,q2⟩=>?_;subst ex;obtain rfl:u=Value.ref a:=rx;exact xj2 hu I2 g ry λD z=>⟨.bl (!ov.isSome),H2,z,rfl,q2⟩
theorem xv7 (hu:X.A.units+1<cLine)(ho:PE X o td)(hi:PE X i ty)(hv:PE X value tv)(hs:swapsWith value (some (.Subscript o i pos')) pos.line X.env=pure false) :
  PS X (.Assign [.Subscript o i pos'] value pos) (sDPut td ty tv):=by
 intro pins s σ H D I h;refine wpAny_Assign_Subscript (thn (hv pins s σ H _ I h) λr s1 ⟨v,H1,I1,rv,q1⟩=>thn (ho pins s1 σ H1 _ I1 q1) λu s2 ⟨x,H2,I2,rx,q2⟩=>thn (hi pins s2 σ H2 _ I2 q2) λiv s3 ⟨y,H3,I3,ry,a,H4,ex,g,q3⟩=>?_) hs;subst ex;obtain rfl:u=Value.ref a:=rx;exact xqb hu I3 g ry rv λF z=>⟨σ,H4,z,q3⟩
end
theorem xzy {P:Ac}{w:Ah}{H:Hp}(h:Heap)(hb:sysModules<h.objs.size):ObjOk P w H (h.push { cls:=.type "dict",data:=.dict #[] }) h.objs.size (.dT []) :=
 ⟨aK _,bZ.mpr (cV (ay hb)),[],.nil,_,#[],0,ax _ rfl,⟨rfl,rfl,rfl⟩,rfl,rfl,jl⟩
def tDNewT:TE:=λ_ H Q=>∀p,H p=none->Q (.ref p) (upd H p (.dT []))
section
variable {X:Cx}{pos:Pos}
theorem xvk:PE X (.Dict [] [] pos) tDNewT:=λpins s σ H Q I h =>
 wpAny_Dict_empty ⟨.ref s.heap.objs.size,_,I.laid (a:=s.heap.objs.size) (o:=.dT []) (t':=s.toks) (λ_ _ q=>ag _ q) (ai _) (xzy s.heap I.big),rfl,h _ (I.hok.fresh (ai _))⟩
end
end L2
namespace L2
open PySem PySem.Spec PySem.Calls PySem.W PyProof.Rows
section
variable {prog:Ac}{w:Ah}{A:Ae}{E:Ag->Ab->Prop}{s:Ab}{S a:Aj}{es:Array (Int×Ag)}{ep:Nat}{t:SetTable}{o:Obj}{k:List Key}{ks:List (List Key)}{h:Int}{B:Nat}
abbrev KD (prog:Ac)(w:Ah):=tupleKind (vk prog w)
def EsIn (prog:Ac)(w:Ah)(B:Nat)(hp:Heap)(es:Array (Int×Ag))(ks:List (List Key)):Prop:=∀p∈es.toList,∃k∈ks,∃a,p.2=.ref a/\a<B/\(KD prog w).is hp k a
theorem wun (n:Nat){v:Ag}(h:carriedByValue v=true):ofAClassStatement n v=pure false:=by
 cases v with
 |ref x=>cases h
 |_=>first | rfl | (simp[ofAClassStatement];done) | (cases n <;> rfl)
theorem qum (hx:(KD prog w).is s.heap k a){n:Nat}{Q:Bool->Ab->Prop}(hQ:Q false s):wpAny (model prog w) A (ofAClassStatement (n+1) (.ref a)) Q E s:=by
 have hT:s.TypeIs (.ref a) "tuple" := IsTupleKey.typeIs hx;obtain⟨o,z,m,F,W,J,hi⟩:=hx;unfold ofAClassStatement;refine ac (wpAny_typeOf hT ?_);dsimp only;rw[aw ⋯];refine ac (ah ?_);simp only[fS,aE,bE];refine ac (gK F J ?_);refine ac ?_;show wpAny _ _ (forIn z _ _) _ _ s;rw[<-fh];refine fM _ (λrest r s'=>r.1=none/\s'=s/\∀v∈rest,carriedByValue v=true) _ ?_ ?_ _ _ ⟨rfl,rfl,hi.byValue⟩
 .rintro v rest r s' ⟨hr,rfl,hall⟩;rw[wun _ (hall v dj)];refine ac (ah ?_);simp only[aE,bE];exact ah ⟨rfl,rfl,λu D=>hall u (bu _ D)⟩
 .rintro⟨U,L⟩ s' ⟨hr,rfl,_⟩;simp only at hr;subst hr;exact ah hQ
theorem xj0 (hx:(KD prog w).is s.heap k a){Q:Bool->Ab->Prop}(hQ:Q false s):∀(l:List Ag),(∀y∈l,∃k' b,y=.ref b/\(KD prog w).is s.heap k' b)->wpAny (model prog w) A (searchCouldBeSeen (.ref a) l) Q E s:=by
 intro l J;unfold searchCouldBeSeen;refine ac ?_;refine fM _ (λrest r s'=>r.1=none/\s'=s/\∀y∈rest,∃k' b,y=.ref b/\(KD prog w).is s.heap k' b) _ ?_ ?_ _ _ ⟨rfl,rfl,J⟩
 .rintro y rest r s' ⟨hr,rfl,hall⟩;obtain⟨k',b,rfl,D⟩:=hall y dj;have z:∀u∈rest,∃k' b,u=.ref b/\(KD prog w).is s'.heap k' b:=λu F=>hall u (bu _ F);dsimp only;split
  .exact ah ⟨rfl,rfl,z⟩
  .refine ac ((KD prog w).quiet hx ?_);simp only[fS,aE,bE];refine ac ((KD prog w).quiet D ?_);simp only[fS,aE,bE];refine ac (qum hx ?_);simp only[aE,bE];refine ac (qum D ?_);simp only[aE,bE];exact ah ⟨rfl,rfl,z⟩
 .rintro⟨U,L⟩ s' ⟨hr,rfl,_⟩;simp only at hr;subst hr;exact ah hQ
structure StAt (prog:Ac)(w:Ah)(B:Nat)(hp:Heap)(S:Aj)(ks:List (List Key))(es:Array (Int×Ag))(ep:Nat)(t:SetTable)(e:Nat)(o:Obj):Prop where
 ho:hp.get? S=some o
 ex:o.ExactSet
 hd:o.data=.set es ep t
 dm:t.dummies=#[]
 pl:t.place.size=es.size
 pw:t.mask+1=2 ^ e
 lo:3<=e
 hi:e<=12
 few:es.size*5<t.mask*3
 len:es.size=ks.length
 els:EsIn prog w B hp es ks
theorem xwb {b:Aj}{Q:Bool->Ab->Prop}(hQ:Q true s):wpAny (model prog w) A (isSame (.ref b) (.ref b)) Q E s:=by unfold isSame;dsimp only;rw[aw (eK b)];exact ah hQ
end
end L2
namespace L2
open PySem PySem.Spec PySem.Calls PySem.W PyProof.Rows
section
variable {prog:Ac}{w:Ah}{A:Ae}{E:Ag->Ab->Prop}{s:Ab}{S a:Aj}{es:Array (Int×Ag)}{ep:Nat}{t:SetTable}{o:Obj}{k:List Key}{ks:List (List Key)}{h:Int}{B:Nat}
theorem qjx {hp:Heap}(ho:hp.get? S=some o)(hd:o.data=.set es ep t){es':Array (Int×Ag)}{t':SetTable}:(hp.update S (Obj.putSet es' t')).get? S=some { o with data:=.set es' (ep+1) t' }:=by have e:=putSet_of es' t' hd;have:=cu (Obj.putSet es' t') ho (by rw[e];rfl);rw[e]at this;exact this
end
end L2
namespace L2
open PySem
def quf (xs:Array Nat):Prop:=∀(i j x y:Nat),i<j->xs[i]?=some x->xs[j]?=some y->x<y
theorem qwr {xs:Array Nat}{j:Nat}(r:quf xs):∀f lo hi,hi-lo<=f->lo<=hi->hi<=xs.size->(∀(i x:Nat),i<lo->xs[i]?=some x->x<j)->(∀(i x:Nat),hi<=i->xs[i]?=some x->j<=x) ->
  SetTable.below.go xs j f lo hi<=xs.size/\(∀(i x:Nat),i<SetTable.below.go xs j f lo hi->xs[i]?=some x->x<j)/\(∀(i x:Nat),SetTable.below.go xs j f lo hi<=i->xs[i]?=some x->j<=x)
 |0,lo,hi,hf,h1,h2,a,b=>by
  obtain rfl:lo=hi:=by lia
  exact⟨h2,a,b⟩
 |f+1,lo,hi,hf,h1,h2,a,b=>by
  unfold SetTable.below.go;by_cases c:lo<hi
  .rw[aw c];dsimp only;have F:(lo+hi)/2<xs.size:=by lia
   have e:xs[(lo+hi)/2]?=some xs[(lo+hi)/2]:=aW F;have L:xs.getD ((lo+hi)/2) j=xs[(lo+hi)/2]:=by simp[Array.getD,F]
   rw[L];have D:∀(i k x y:Nat),i<=k->xs[i]?=some x->xs[k]?=some y->x<=y:=λi k x y h ex z=>by
    rcases bj i k with q|q
    .exact ba (r i k x y q ex z)
    .obtain rfl:i=k:=by lia
     rw[ex]at z;cases z;exact ai _
   by_cases d:xs[(lo+hi)/2]<j
   .rw[aw d];exact qwr r f _ _ ⋯ ⋯ h2 (λi x J ex=>dM (D i _ _ _ ⋯ ex e) d) b
   .rw[ao d];exact qwr r f _ _ ⋯ ⋯ ⋯ a (λi x J ex=>bo ⋯ (D _ i _ _ J e ex))
  .rw[ao c];obtain rfl:lo=hi:=by lia
   exact⟨h2,a,b⟩
theorem Qg {xs:Array Nat}(r:quf xs)(j:Nat):SetTable.below xs j<=xs.size/\(∀(i x:Nat),i<SetTable.below xs j->xs[i]?=some x->x<j)/\(∀(i x:Nat),SetTable.below xs j<=i->xs[i]?=some x->j<=x) :=
 qwr r _ _ _ ⋯ (aK _) (ai _) (λi x h=>by lia) λi x h ex=>by have:=(bg.mp ex).1;lia
theorem xwc {xs:Array Nat}(r:quf xs){i j:Nat}(h:xs[i]?=some j):SetTable.below xs j=i:=by
 obtain⟨a,b,c⟩:=Qg r j;have hi:=(bg.mp h).1;rcases h9 (SetTable.below xs j) i with q|q|q
 .have e:xs[SetTable.below xs j]?=some (xs[SetTable.below xs j]'⋯):=aW _;have h1:=c _ _ (ai _) e;have h2:=r _ _ _ _ q e h;lia
 .exact q
 .have:=b i j q h;lia
theorem wvg {xs:Array Nat}(r:quf xs){i j:Nat}(h:xs[i]?=some j):SetTable.below xs (j+1)=i+1:=by
 obtain⟨a,b,c⟩:=Qg r (j+1);have hi:=(bg.mp h).1;rcases h9 (SetTable.below xs (j+1)) (i+1) with q|q|q
 .have:=c i j ⋯ h;lia
 .exact q
 .have z:i+1<xs.size:=by lia
  have e:xs[i+1]?=some xs[i+1]:=aW z;have h1:=b _ _ q e;have h2:=r _ _ _ _ (dC i) h e;lia
theorem wzv {xs:Array Nat}(r:quf xs):SetTable.below xs 0=0:=by
 obtain⟨a,b,c⟩:=Qg r 0;rcases gL (SetTable.below xs 0) with q|q
 .exact q
 .have e:xs[0]?=some (xs[0]'⋯):=aW _;have:=b 0 _ q e;lia
section
variable {t:SetTable}
theorem qk7 (r:quf t.place){i j:Nat}(h:t.place[i]?=some j):t.slot j=.live i:=by unfold SetTable.slot;dsimp only;rw[xwc r h,h];simp
theorem xzr {t t':SetTable}(h:t.mask=t'.mask)(p:SetTable.Probe):t.advance p=t'.advance p:=by unfold SetTable.advance;rw[h]
theorem qkp {t t':SetTable}(h:t.mask=t'.mask):∀n p,zx t n p=zx t' n p
 |0,p=>rfl
 |n+1,p=>by show zx t n (t.advance p)=zx t' n (t'.advance p);rw[xzr h,qkp h]
def pos (t:SetTable)(h:Int)(n:Nat):Nat:=(zx t n (t.probeStart h)).j
theorem qzv {t t':SetTable}(h:t.mask=t'.mask)(x:Int)(n:Nat):pos t x n=pos t' x n:=by
 unfold pos;have:t.probeStart x=t'.probeStart x:=by unfold SetTable.probeStart;rw[h]
 rw[this,qkp h]
structure Tab (bt:Bool)(t:SetTable)(hs:List Int):Prop where
 dm:t.dummies=#[]
 pl:t.place.size=hs.length
 pw:∃e,t.mask+1=2 ^ e/\3<=e/\e<=13
 few:hs.length<=t.mask
 rise:quf t.place
 reach:∀(i:Nat) (h:Int),hs[i]?=some h->∃N j,N<=10*(t.mask+14)/\t.place[i]?=some j/\pos t h N=j/\∀n,n<N->∃i':Nat,t.place[i']?=some (pos t h n)
 led:t.led=!bt
 plain:t.plain=true
variable {bt:Bool}{hs:List Int}{h:Int}
theorem Tab.fresh:Tab bt (.fresh 0 0 (!bt)) []:=by
 refine⟨rfl,rfl,⟨3,rfl,ai _,⋯⟩,aK _,λi j x y _ ex=>?_,λi h e=>?_,rfl,rfl⟩
 .have:(#[]:Array Nat)[i]?=some x:=ex;simp at this
 .simp at e
theorem Tab.fits (T:Tab bt t hs):t.fits hs.length=true:=by
 have h1:=T.pl;have h2:=T.few;have:t.fill<=t.mask:=by unfold SetTable.fill;rw[T.dm,h1];simpa using h2
 simp[SetTable.fits,h1,this]
theorem Tab.big (T:Tab bt t hs):7<=t.mask/\t.mask<8192:=by
 obtain⟨e,h1,h2,z⟩:=T.pw;have a:(2:Nat) ^ 3<=2 ^ e:=cS ⋯ h2;have b:(2:Nat) ^ e<=2 ^ 13:=cS ⋯ z;have c:(2:Nat) ^ 13=8192:=by decide
 have d:(2:Nat) ^ 3=8:=by decide
 lia
theorem Tab.free (T:Tab bt t hs)(h:Int):∃N,N<=10*(t.mask+13)/\t.slot (pos t h N)=.empty/\∀n,n<N->∃i:Nat,t.slot (pos t h n)=.live i:=by
 obtain⟨e,h1,_⟩:=T.pw;obtain⟨z,hN,L⟩:=wyn h1 T.dm (by rw[T.pl];exact T.few) h;have J:∀z,t.slot (pos t h z)=.empty->∃N,N<=z/\t.slot (pos t h N)=.empty/\∀n,n<N->∃i:Nat,t.slot (pos t h n)=.live i:=by
  intro z
  induction z using Nat.strongRecOn with
  |_ z ih =>
   intro W;by_cases c:∀n,n<z->∃i:Nat,t.slot (pos t h n)=.live i
   .exact⟨z,ai _,W,c⟩
   .rw[Classical.not_forall]at c;obtain⟨n,c⟩:=c;rw[Classical.not_imp]at c;obtain⟨U,c⟩:=c;rcases qw8 T.dm (pos t h n) with q|q
    .obtain⟨N,Z,F,D⟩:=ih n U q;exact⟨N,⋯,F,D⟩
    .exact absurd q c
 obtain⟨N,Z,F,D⟩:=J z L;exact⟨N,⋯,F,D⟩
theorem qxx {α:Type}(xs:Array α)(p:Nat)(x:α):(SetTable.insertAt xs p x).toList=xs.toList.take p++x::xs.toList.drop p:=by unfold SetTable.insertAt;rw[Array.toList_append,g8,Array.toList_extract,Array.toList_extract];simp only[List.extract,fE,List.singleton_append,Nat.sub_zero,List.drop_zero];congr 2;exact dQ (by simp)
theorem wq4 {α:Type}(l:List α)(p:Nat)(x:α)(hp:p<=l.length)(i:Nat):(l.take p++x::l.drop p)[i]?=if i<p then l[i]? else if i=p then some x else l[i-1]?:=by
 have z:(l.take p).length=p:=by rw[bv];lia
 by_cases c:i<p
 .rw[aw c,aS ⋯,ig c]
 .rw[ao c,aF ⋯,z];by_cases d:i=p
  .rw[aw d,d,Nat.sub_self];rfl
  .rw[ao d];obtain⟨k,D⟩:∃k,i-p=k+1:=⟨i-p-1,⋯⟩;rw[D,List.getElem?_cons_succ,cQ];congr 1;lia
def xt {α:Type}(l:List α)(p:Nat)(x:α):List α:=l.take p++x::l.drop p
theorem Qq {α:Type}(l:List α)(p:Nat)(x:α):(xt l p x).Perm (x::l):=by unfold xt;refine(List.perm_middle).trans ?_;rw[fI]
theorem Tab.put (T:Tab bt t hs){N:Nat}(hN:N<=10*(t.mask+13))(he:t.slot (pos t h N)=.empty)(hl:∀n,n<N->∃i:Nat,t.slot (pos t h n)=.live i)(hf:hs.length+1<=t.mask) :
  Tab bt (t.put (pos t h N)).1 (xt hs (t.put (pos t h N)).2 h)/\(t.put (pos t h N)).2<=hs.length:=by
 obtain⟨b1,b2,b3⟩:=Qg T.rise (pos t h N);have hp:(t.put (pos t h N)).2=SetTable.below t.place (pos t h N):=rfl;have J:(t.put (pos t h N)).1.place=SetTable.insertAt t.place (SetTable.below t.place (pos t h N)) (pos t h N):=rfl;rw[hp];generalize hb:SetTable.below t.place (pos t h N)=p at b1 b2 b3 J;have ad:p<=hs.length:=by rw[<-T.pl];exact b1
 have an:∀i:Nat,t.place[i]?≠some (pos t h N):=λi e=>by rw[qk7 T.rise e]at he;cases he
 have L:∀i:Nat,(SetTable.insertAt t.place p (pos t h N))[i]?=if i<p then t.place[i]? else if i=p then some (pos t h N) else t.place[i-1]?:=λi=>by rw[<-bz,qxx,wq4 _ _ _ (by rw[bc];exact b1)];simp only[bz]
 have up:∀i j:Nat,t.place[i]?=some j->∃F:Nat,(SetTable.insertAt t.place p (pos t h N))[F]?=some j:=λi j e=>by
  by_cases c:i<p
  .exact⟨i,by rw[L,aw c];exact e⟩
  .exact⟨i+1,by rw[L,ao ⋯,ao ⋯,dR];exact e⟩
 refine⟨⟨?_,?_,T.pw,?_,?_,?_,T.led,T.plain⟩,ad⟩
 .show(if SetTable.has t.dummies (pos t h N) then _ else t.dummies)=#[];rw[T.dm];simp[SetTable.has]
 .rw[J,<-bc,qxx];show(xt t.place.toList p (pos t h N)).length=_;rw[(Qq t.place.toList p _).length_eq,(Qq hs p h).length_eq];simp[T.pl]
 .rw[(Qq hs p h).length_eq];exact hf
 .intro i j x y ap ex z;rw[J,L]at ex z;by_cases c1:i<p
  .rw[aw c1]at ex;have h1:=b2 i x c1 ex;by_cases c2:j<p
   .rw[aw c2]at z;exact T.rise i j x y ap ex z
   .rw[ao c2]at z;by_cases c3:j=p
    .rw[aw c3]at z;cases z;exact h1
    .rw[ao c3]at z;have:=b3 _ y ⋯ z;lia
  .rw[ao c1]at ex;rw[ao ⋯,ao ⋯]at z;by_cases c3:i=p
   .rw[aw c3]at ex;cases ex;have h2:=b3 _ y ⋯ z;rcases bj (pos t h N) y with q|q
    .exact q
    .have:y=pos t h N:=by lia
     rw[this]at z;exact absurd z (an _)
   .rw[ao c3]at ex;exact T.rise (i-1) (j-1) x y ⋯ ex z
 .intro i h' D;have pm:∀x n,pos (t.put (pos t h N)).1 x n=pos t x n:=λx n=>qzv (t:=(t.put (pos t h N)).1) (t':=t) rfl x n;unfold xt at D;rw[wq4 _ _ _ ad]at D;have ab:∀W,hs[W]?=some h'->(SetTable.insertAt t.place p (pos t h N))[i]?=t.place[W]?->∃U j,U<=10*((t.put (pos t h N)).1.mask+14)/\(t.put (pos t h N)).1.place[i]?=some j/\pos (t.put (pos t h N)).1 h' U=j/\∀n,n<U->∃F:Nat,(t.put (pos t h N)).1.place[F]?=some (pos (t.put (pos t h N)).1 h' n):=λW e0 e1=>by obtain⟨U,j,r1,r2,r3,r4⟩:=T.reach W h' e0;refine⟨U,j,r1,by rw[J,e1];exact r2,by rw[pm];exact r3,λn Z=>?_⟩;obtain⟨F,e'⟩:=r4 n Z;rw[pm,J];exact up F _ e'
  by_cases c1:i<p
  .rw[aw c1]at D;exact ab i D (by rw[L,aw c1])
  .rw[ao c1]at D;by_cases c2:i=p
   .rw[aw c2]at D;cases D;refine⟨N,pos t h N,bo hN (by show _<=10*(t.mask+14);lia),by rw[J,L,ao c1,aw c2],pm _ _,λn Z=>?_⟩;obtain⟨F,e'⟩:=hl n Z;rw[pm,J];exact up F _ (J1 e')
   .rw[ao c2]at D;exact ab (i-1) D (by rw[L,ao c1,ao c2])
end
end L2
namespace L2
open PySem
theorem xzv (t:SetTable)(q:Nat×Nat):∀k r j,k<=r->zx t k { j:=j,more:=r,i:=q.1,perturb:=q.2,dummy:=none }={ j:=j+k,more:=r-k,i:=q.1,perturb:=q.2,dummy:=none }
 |0,r,j,_=>rfl
 |k+1,r,j,h=>by
  show zx t k (t.advance _)=_;have e:t.advance { j:=j,more:=r,i:=q.1,perturb:=q.2,dummy:=none }={ j:=j+1,more:=r-1,i:=q.1,perturb:=q.2,dummy:=none }:=by unfold SetTable.advance;rw[aw (by show r>0;lia)]
  rw[e,xzv t q k (r-1) (j+1) ⋯];congr 1 <;> lia
theorem xq6 (t:SetTable)(q:Nat×Nat){k:Nat}(h:q.1+k<=SetTable.runEnd t.mask q.1):(zx t k (rs t.mask q)).j=q.1+k:=by unfold rs;rw[xzv t q k _ _ ⋯]
theorem wyv (mask i:Nat):i<=SetTable.runEnd mask i/\SetTable.runEnd mask i<=i+9/\(i<=mask->SetTable.runEnd mask i<=mask):=by unfold SetTable.runEnd;split <;> lia
theorem xyv (mask i p:Nat):(SetTable.leap mask i p).1<=mask:=by unfold SetTable.leap;exact cW (dN _ (dO _))
theorem wj6 {t:SetTable}{owner:Array (Option Nat)}:∀n fuel i p,n<fuel->i<=t.mask->owner.getD (lp t.mask n (i,p)).1 (some 0)=none ->
  ∃j N,SetTable.layClean.free t.mask owner fuel i p=some j/\owner.getD j (some 0)=none/\N<=10*n+9/\(zx t N (rs t.mask (i,p))).j=j/\∀k,k<N->(zx t k (rs t.mask (i,p))).j<=t.mask/\owner.getD (zx t k (rs t.mask (i,p))).j (some 0)≠none
 |n,0,i,p,hf,_,_=>absurd hf (ge _)
 |n,fuel+1,i,p,hf,hi,hn=>by
  obtain⟨r1,r2,r3⟩:=wyv t.mask i;have r3:=r3 hi;unfold SetTable.layClean.free;cases q:(List.range (SetTable.runEnd t.mask i+1-i)).find? λk=>(owner.getD (i+k) (some 0)).isNone with
  |some k =>
   have hk:=am.mp (List.mem_of_find?_eq_some q);have hs:owner.getD (i+k) (some 0)=none:=by have:=List.find?_some q;exact Option.isNone_iff_eq_none.mp this
   refine⟨i+k,k,rfl,hs,⋯,xq6 t (i,p) (by show i+k<=SetTable.runEnd t.mask i;lia),λD ab=>?_⟩;rw[xq6 t (i,p) (by show i+D<=SetTable.runEnd t.mask i;lia)];refine⟨by show i+D<=_;lia,λz=>?_⟩;have fs:=List.find?_eq_some_iff_append.mp q;obtain⟨_,F,bs,e,U⟩:=fs;have hl:F.length=k:=by
    have h1:(List.range (SetTable.runEnd t.mask i+1-i))[F.length]?=some k:=by rw[e];simp
    have h2:=(al.mp h1).1;rw[aV (by simpa using h2)]at h1;exact ak h1
   have L:D∈F:=by have h1:(List.range (SetTable.runEnd t.mask i+1-i))[D]?=some D:=aV ⋯;rw[e,aS ⋯]at h1;exact aL h1
   have:=U D L;rw[show(i,p).1+D=i+D from rfl]at z;rw[z]at this;exact absurd this (by simp)
  |none =>
   have W:=List.find?_eq_none.mp q;have J:∀k,i+k<=SetTable.runEnd t.mask i->owner.getD (i+k) (some 0)≠none:=λk hk z=>by have:=W k (am.mpr ⋯);rw[z]at this;exact this rfl
   cases n with
   |zero=>exact absurd hn (by have:=J 0 ⋯;rw[Nat.add_zero]at this;exact this)
   |succ n =>
    obtain⟨j,N,a1,a2,a3,a4,Z⟩:=wj6 (t:=t) (owner:=owner) n fuel (SetTable.leap t.mask i p).1 (SetTable.leap t.mask i p).2 ⋯ (xyv _ _ _) hn;have st:zx t (SetTable.runEnd t.mask i-i+1) (rs t.mask (i,p))=rs t.mask (SetTable.leap t.mask i p):=qzh t (i,p) _ _;refine⟨j,SetTable.runEnd t.mask i-i+1+N,a1,a2,⋯,by rw[Wz,st];exact a4,λk hk=>?_⟩;by_cases c:k<SetTable.runEnd t.mask i-i+1
    .rw[xq6 t (i,p) (by show i+k<=SetTable.runEnd t.mask i;lia)];exact⟨by show i+k<=_;lia,J k ⋯⟩
    .rw[show k=SetTable.runEnd t.mask i-i+1+(k-(SetTable.runEnd t.mask i-i+1)) by lia,Wz,st];exact Z _ ⋯
structure Own (t:SetTable)(hs:List Int)(owner:Array (Option Nat))(k:Nat):Prop where
 size:owner.size=t.mask+1
 low:∀j v:Nat,owner[j]?=some (some v)->v<k
 sur:∀v,v<k->∃j:Nat,owner[j]?=some (some v)
 inj:∀j j' v:Nat,owner[j]?=some (some v)->owner[j']?=some (some v)->j=j'
 way:∀(j v:Nat) (h:Int),owner[j]?=some (some v)->hs[v]?=some h->∃N,N<=10*(t.mask+14)/\pos t h N=j/\∀n,n<N->∃v',owner[pos t h n]?=some (some v')
section
variable {t:SetTable}{hs:List Int}{owner:Array (Option Nat)}{k:Nat}
theorem got {j:Nat}(h:owner.getD j (some 0)=none):owner[j]?=some none:=by
 rw[bM]at h;cases q:owner[j]? with
 |none=>rw[q]at h;cases h
 |some v=>rw[q]at h;exact bT some h
theorem taken {j:Nat}(h:owner.getD j (some 0)≠none)(hj:j<owner.size):∃v,owner[j]?=some (some v):=by
 rw[bM,aW hj]at h;rw[aW hj];cases q:owner[j] with
 |none=>rw[q]at h;exact absurd rfl h
 |some v=>exact⟨v,rfl⟩
theorem Own.free (o:Own t hs owner k)(hk:k<=t.mask):∃j,j<=t.mask/\owner.getD j (some 0)=none:=by
 apply gR;intro c;have F:∀j,j<t.mask+1->∃v,v<k/\owner[j]?=some (some v):=λj D=>by obtain⟨v,e⟩:=taken (owner:=owner) (j:=j) (λz=>c ⟨j,⋯,z⟩) (by rw[o.size];exact D);exact⟨v,o.low j v e,e⟩
 have:=qzy ((List.range (t.mask+1)).map λj=>((owner.getD j none).getD 0)) (List.range k) ?_ ?_
 .rw[af,au,au]at this;lia
 .refine bS.mpr (bX (λ{a b} ha hb hab=>?_) fN);obtain⟨v,_,e⟩:=F a (am.mp ha);obtain⟨U,_,J⟩:=F b (am.mp hb);rw[bM,bM,e,J];intro z;have L:v=U:=z;subst L;exact hab (o.inj a b v e J)
 .intro x W;obtain⟨j,D,rfl⟩:=aH.mp W;obtain⟨v,hv,e⟩:=F j (am.mp D);rw[bM,e];exact am.mpr hv
theorem Own.new (t:SetTable)(hs:List Int):Own t hs (Array.replicate (t.mask+1) none) 0:=by
 have z:∀j v:Nat,(Array.replicate (t.mask+1) (none:Option Nat))[j]?=some (some v)->False:=λj v e=>by rw[Array.getElem?_replicate]at e;split at e <;> cases e
 exact⟨Array.size_replicate,λj v e=>(z j v e).elim,λv hv=>absurd hv (ge _),λj D v e=>(z j v e).elim,λj v h e=>(z j v e).elim⟩
theorem Own.set {h:Int}{j N:Nat}(o:Own t hs owner k)(hh:hs[k]?=some h)(hj:owner.getD j (some 0)=none)(hN:N<=10*(t.mask+14))(hp:pos t h N=j)(hw:∀n,n<N->pos t h n<=t.mask/\owner.getD (pos t h n) (some 0)≠none):Own t hs (owner.setIfInBounds j (some k)) (k+1):=by
 have ej:=got hj;have ab:=(bg.mp ej).1;have F:∀i:Nat,(owner.setIfInBounds j (some k))[i]?=if i=j then some (some k) else owner[i]?:=λi=>by
  by_cases c:i=j
  .rw[aw c,c,Array.getElem?_setIfInBounds_self_of_lt ab]
  .rw[ao c,fH (λz=>c z.symm)]
 have U:∀i v:Nat,owner[i]?=some (some v)->(owner.setIfInBounds j (some k))[i]?=some (some v):=λi v e=>by rw[F,ao (λz=>by rw[z,ej]at e;cases e)];exact e
 refine⟨by rw[eR];exact o.size,λi v e=>?_,λv hv=>?_,λi J v e D=>?_,λi v h' e Z=>?_⟩
 .rw[F]at e;by_cases c:i=j
  .rw[aw c]at e;cases e;lia
  .rw[ao c]at e;have:=o.low i v e;lia
 .by_cases c:v=k
  .exact⟨j,by rw[F,aw rfl,c]⟩
  .obtain⟨i,e⟩:=o.sur v ⋯;exact⟨i,U i v e⟩
 .rw[F]at e D;by_cases c:i=j
  .by_cases c':J=j
   .rw[c,c']
   .rw[aw c]at e;rw[ao c']at D;cases e;have:=o.low J k D;lia
  .rw[ao c]at e;by_cases c':J=j
   .rw[aw c']at D;cases D;have:=o.low i k e;lia
   .rw[ao c']at D;exact o.inj i J v e D
 .rw[F]at e;by_cases c:i=j
  .rw[aw c]at e;cases e;rw[hh]at Z;cases Z;refine⟨N,hN,by rw[hp,c],λn W=>?_⟩;obtain⟨h1,h2⟩:=hw n W;obtain⟨L,D⟩:=taken h2 (by rw[o.size];lia);exact⟨L,U _ _ D⟩
  .rw[ao c]at e;obtain⟨N1,a1,a2,a3⟩:=o.way i v h' e Z;refine⟨N1,a1,a2,λn W=>?_⟩;obtain⟨L,D⟩:=a3 n W;exact⟨L,U _ _ D⟩
theorem Own.fold {e:Nat}(hM:t.mask+1=2 ^ e):∀(l:List Int) (owner:Array (Option Nat)) (k:Nat),Own t hs owner k->hs.drop k=l->hs.length<=t.mask->∃owner',l.foldl (λacc h=>do
   let (owner,k) <-acc
   let j <-SetTable.layClean.free t.mask owner (SetTable.turns t.mask) (SetTable.bits h%(t.mask+1)) (SetTable.bits h)
   pure (owner.setIfInBounds j (some k),k+1)) (some (owner,k))=some (owner',k+l.length)/\Own t hs owner' (k+l.length)
 |[],owner,k,o,_,_=>⟨owner,rfl,o⟩
 |h::l,owner,k,o,hd,hz=>by
  have hk:hs[k]?=some h:=by
   have:(hs.drop k)[0]?=some h:=by rw[hd];rfl
   rw[cQ]at this;exact this
  have z:=(al.mp hk).1;have F:hs.drop (k+1)=l:=by rw[gS z]at hd;exact(im hd).2
  obtain⟨j0,D,U⟩:=o.free ⋯;obtain⟨n,hn,e1⟩:=wxq hM (q:=(SetTable.bits h%(t.mask+1),SetTable.bits h)) (cW (dN _ (dO _))) (wj7 h) D;obtain⟨j,N,e2,e3,e4,Z,W⟩:=wj6 (t:=t) (owner:=owner) n (SetTable.turns t.mask) (SetTable.bits h%(t.mask+1)) (SetTable.bits h) (by unfold SetTable.turns;lia) (cW (dN _ (dO _))) (by rw[e1];exact U);obtain⟨owner',L,J⟩:=Own.fold hM l (owner.setIfInBounds j (some k)) (k+1) (o.set hk e3 ⋯ Z W) F hz;refine⟨owner',?_,by rw[aB,show k+(l.length+1)=k+1+l.length by lia];exact J⟩;rw[List.foldl_cons,aB,show k+(l.length+1)=k+1+l.length by lia,<-L];congr 1;simp[e2]
theorem qzc:∀ {l m:List Nat},l.Nodup->m.Nodup->(∀a,a∈l↔a∈m)->l.Perm m
 |[],m,_,_,h=>by
  cases m with
  |nil=>exact .refl _
  |cons a m=>exact absurd ((h a).mpr (.head _)) (by simp)
 |a::l,m,hl,hm,h=>by
  have ha:a∈m:=(h a).mp (.head _);have hl':=cP.mp hl;refine(List.Perm.cons a (qzc hl'.2 (hm.erase a) λb=>?_)).trans (List.perm_cons_erase ha).symm;rw[hm.mem_erase_iff];constructor
  .intro hb;exact⟨λz=>by subst z;exact hl'.1 hb,(h b).mp (.tail _ hb)⟩
  .rintro⟨h1,h2⟩;rcases aC.mp ((h b).mpr h2) with z|z
   .exact absurd z h1
   .exact z
end
theorem qqb:∀n,n<1100->∃e,3<=e/\e<=13/\SetTable.sizeAbove (4*n)=2 ^ e/\4*n<SetTable.sizeAbove (4*n):=by
 have:∀n,n<1100->(List.range 14).any (λe=>decide (3<=e)&&(SetTable.sizeAbove (4*n)==2 ^ e)&&decide (4*n<SetTable.sizeAbove (4*n)))=true:=by decide +kernel
 intro n z;obtain⟨e,D,h⟩:=dD.mp (this n z);simp only[cn,dv,eZ]at h;exact⟨e,h.1.1,by have:=am.mp D;lia,h.1.2,h.2⟩
theorem Tab.relay {bt:Bool}{t:SetTable}{hs:List Int}(T:Tab bt t hs)(hn:hs.length<1100):∃t2 order,t.relaid hs.toArray (4*hs.length)=some (t2,order)/\order.toList.Perm (List.range hs.length)/\Tab bt t2 (order.toList.map λi=>hs.getD i 0)/\hs.length*4<=t2.mask:=by
 obtain⟨e,e1,e2,e3,e4⟩:=qqb hs.length hn;have a8:1<=(2:Nat) ^ e:=iR e;obtain⟨owner,f1,o⟩:=Own.fold (t:={ t with mask:=SetTable.sizeAbove (4*hs.length)-1 }) (hs:=hs) (e:=e) (by show SetTable.sizeAbove (4*hs.length)-1+1=_;lia) hs _ 0 (Own.new _ hs) rfl (by show hs.length<=SetTable.sizeAbove (4*hs.length)-1;lia);rw[c0]at f1 o;have lc:SetTable.layClean (SetTable.sizeAbove (4*hs.length)-1) hs.toArray=some owner:=by unfold SetTable.layClean;rw[<-Array.foldl_toList];rw[show hs.toArray.toList=hs from rfl];rw[f1];rfl
 generalize hmask:SetTable.sizeAbove (4*hs.length)-1=mask at lc o f1;have as:mask+1=2 ^ e:=by lia
 have a0:hs.length*4<=mask:=by lia
 let D:List (Nat×Nat):=(List.range (mask+1)).filterMap λj=>(owner.getD j none).map (j,·);have J:∀j v,(j,v)∈D↔owner[j]?=some (some v):=λj v=>by
  show(j,v)∈(List.range (mask+1)).filterMap _↔_;rw[eY];constructor
  .rintro⟨j',_,F⟩;cases q:owner.getD j' none with
   |none=>rw[q]at F;cases F
   |some v' =>
    rw[q]at F;cases F;rw[bM]at q;cases q2:owner[j]? with
    |none=>rw[q2]at q;cases q
    |some y=>rw[q2]at q;exact bT some q
  .intro F;have W:=(bg.mp F).1;rw[o.size]at W;exact⟨j,am.mpr W,by rw[bM,F];rfl⟩
 have pw:D.Pairwise λa b=>a.1<b.1:=by
  refine List.pairwise_filterMap.mpr (List.pairwise_lt_range.imp λ{a b} hab x hx y hy=>?_);have ap:x.1=a:=by
   cases q:owner.getD a none with
   |none=>rw[q]at hx;cases hx
   |some v=>rw[q]at hx;cases hx;rfl
  have an:y.1=b:=by
   cases q:owner.getD b none with
   |none=>rw[q]at hy;cases hy
   |some v=>rw[q]at hy;cases hy;rfl
  rw[ap,an];exact hab
 have ab:(D.map (·.2)).Perm (List.range hs.length):=by
  refine qzc (bS.mpr (bX (λ{a b} Z hb hab z=>?_) pw)) fN λv=>?_
  .have:=o.inj a.1 b.1 a.2 ((J _ _).mp Z) (by rw[z];exact(J _ _).mp hb);lia
  .rw[am,aH];constructor
   .rintro⟨a,Z,rfl⟩;exact o.low _ _ ((J _ _).mp Z)
   .intro hv;obtain⟨j,ej⟩:=o.sur v hv;exact⟨(j,v),(J _ _).mpr ej,rfl⟩
 have ad:D.length=hs.length:=by have:=ab.length_eq;rwa [af,au]at this
 refine⟨{ mask:=mask,place:=(D.map (·.1)).toArray,dummies:=#[],finger:=t.finger,led:=t.led,moves:=t.movedTo mask,plain:=t.plain },(D.map (·.2)).toArray,?_,ab,?_,a0⟩
 .unfold SetTable.relaid SetTable.laid;rw[hmask,lc];rfl
 .refine⟨rfl,?_,⟨e,as,e1,e2⟩,?_,?_,?_,T.led,T.plain⟩
  .show(D.map (·.1)).toArray.size=((D.map (·.2)).toArray.toList.map _).length;simp
  .show((D.map (·.2)).toArray.toList.map _).length<=mask;rw[af,show(D.map (·.2)).toArray.toList=D.map (·.2) from rfl,af,ad];lia
  .intro i j x y a4 ex ey;have ex':(D.map (·.1))[i]?=some x:=by simpa using ex
   have a6:(D.map (·.1))[j]?=some y:=by simpa using ey
   obtain⟨hi,rfl⟩:=al.mp ex';obtain⟨W,rfl⟩:=al.mp a6;rw[fO,fO];exact be.mp pw i j _ _ a4
  .intro i h eh;have L:((D.map (·.2)).map λi=>hs.getD i 0)[i]?=some h:=eh;rw[av,av]at L;cases q:D[i]? with
   |none=>rw[q]at L;cases L
   |some jv =>
    rw[q]at L;obtain⟨j,v⟩:=jv;have ov:=(J j v).mp (aL q);have hv:=o.low j v ov;have a7:hs[v]?=some h:=by have:hs.getD v 0=h:=ak L;rw[ae,aa hv]at this;rw[aa hv];exact bT some this
    obtain⟨N,a1,a2,a3⟩:=o.way j v h ov a7;refine⟨N,j,a1,?_,?_,λn hn=>?_⟩
    .show(D.map (·.1)).toArray[i]?=some j;simp[q]
    .have pm:pos { mask:=mask,place:=(D.map (·.1)).toArray,dummies:=#[],finger:=t.finger,led:=t.led,moves:=t.movedTo mask,plain:=t.plain } h N=pos { t with mask:=mask } h N:=qzv (by rfl) h N;exact pm.trans a2
    .obtain⟨v',F⟩:=a3 n hn;obtain⟨U,a5⟩:=cT ((J _ _).mpr F);refine⟨U,?_⟩;show(D.map (·.1)).toArray[U]?=_;have pm:pos { mask:=mask,place:=(D.map (·.1)).toArray,dummies:=#[],finger:=t.finger,led:=t.led,moves:=t.movedTo mask,plain:=t.plain } h n=pos { t with mask:=mask } h n:=qzv (by rfl) h n;have e9:(D.map (·.1)).toArray[U]?=some (pos { t with mask:=mask } h n):=by simp[a5]
     rw[e9,<-pm]
end L2
namespace L2
open PySem PySem.Spec PySem.Calls PySem.W PyProof.Rows
def byT (w:Ah):Bool:=w.params.followText "set-order"
def SAt (w:Ah)(hp:Heap)(S:Aj)(ps:List (Int×Ag)):Prop:=∃o ep t,hp.get? S=some o/\o.ExactSet/\o.data=.set ps.toArray ep t/\Tab (byT w) t (ps.map (·.1))/\ps.length*5<t.mask*3
section
variable {prog:Ac}{w:Ah}{A:Ae}{E:Ag->Ab->Prop}{s:Ab}{S a:Aj}{ps:List (Int×Ag)}{ep:Nat}{t:SetTable}{o:Obj}{k:List Key}{h:Int}
theorem SAt.typeIs (P:SAt w s.heap S ps):s.TypeIs (.ref S) "set" := let ⟨o,_,_,ho,hc,_⟩:=P;⟨o,ho,hc.1⟩
theorem SAt.at_ {hp h':Heap}(P:SAt w hp S ps)(k1:∀o,hp.get? S=some o->h'.get? S=some o):SAt w h' S ps:=let ⟨o,ep,t,ho,r⟩:=P;⟨o,ep,t,k1 o ho,r⟩
theorem Tab.fits' {bt:Bool}(T:Tab bt t (ps.map (·.1))):t.fits ps.toArray.size=true:=by have:=T.fits;simpa using this
theorem wkj (l:List (Int×Ag))(p:Nat)(x:Int×Ag):(xt l p x).map (·.1)=xt (l.map (·.1)) p x.1:=by unfold xt;simp
theorem wkg (l:List (Int×Ag))(p:Nat)(x:Int×Ag):SetTable.insertAt l.toArray p x=(xt l p x).toArray:=by apply dE.mp;rw[qxx];rfl
theorem Z9 (l:List (Int×Ag)):∀(il:List Nat),(∀i∈il,i<l.length)->il.filterMap (λi=>l.toArray[i]?)=il.map λi=>l.getD i (0,.none)
 |[],_=>rfl
 |i::il,hi=>by
  have h1:=hi i (.head _);have e:l.toArray[i]?=some (l.getD i (0,.none)):=by simp[h1]
  rw[dB,e,Z9 l il λj z=>hi j (.tail _ z)];rfl
theorem lay_in {Q:Bool->Ab->Prop}{N:Nat}{x:Ag}(ho:s.heap.get? S=some o)(hex:o.ExactSet)(hd:o.data=.set ps.toArray ep t)(T:Tab (byT w) t (ps.map (·.1)))(few:ps.length*5<t.mask*3)(hn:ps.length<1099)
  (hN:N<=10*(t.mask+13)) (he:t.slot (pos t h N)=.empty) (hl:∀n,n<N->∃i:Nat,t.slot (pos t h n)=.live i)
  (hQ:∀h' ps',Heap.SameBut S s.heap h'->SAt w h' S ps'->ps'.Perm ((h,x)::ps)->Q true { s with heap:=h' }) :
  wpAny (model prog w) A (do
   storeSet S (SetTable.insertAt ps.toArray (t.put (pos t h N)).2 (h,x)) (t.put (pos t h N)).1
   if(!false&&(t.put (pos t h N)).1.tooFull)=true then do
    setRelay S (SetTable.grown (ps.toArray.size+1))
    pure true
   else pure true) Q E s:=by
 have as:100000<=sizeLine:=by decide
 have lm:ps.length=(ps.map (·.1)).length:=by simp
 have bm:=T.big;obtain⟨D,ap⟩:=T.put hN he hl (by rw[<-lm];lia);have hm:(t.put (pos t h N)).1.mask=t.mask:=rfl;generalize (t.put (pos t h N)).2=p at D ap ⊢;generalize ht1:(t.put (pos t h N)).1=t1 at D hm ⊢;rw[wkg];have pm:=Qq ps p (h,x);have J:=pm.length_eq;rw[aB]at J;rw[<-wkj ps p (h,x)]at D;refine ac (fF ho hd ?_ (by rw[aq];lia));have L:(s.heap.update S (Obj.putSet (xt ps p (h,x)).toArray t1)).get? S=some { o with data:=.set (xt ps p (h,x)).toArray (ep+1) t1 }:=qjx ho hd;have U:Heap.SameBut S s.heap (s.heap.update S (Obj.putSet (xt ps p (h,x)).toArray t1)):=b7 _ _ _;have fl:t1.fill=ps.length+1:=by unfold SetTable.fill;rw[D.dm,D.pl,af,J];rfl
 generalize s.heap.update S (Obj.putSet (xt ps p (h,x)).toArray t1)=h1 at L U ⊢;show wpAny (model prog w) A _ Q E { s with heap:=h1 };by_cases tf:t1.tooFull=true
 .rw[tf];simp only[jo,jE,da];refine ac ?_;have gr:SetTable.grown (ps.toArray.size+1)=4*((xt ps p (h,x)).map (·.1)).length:=by unfold SetTable.grown;rw[ao (by rw[aq];lia),af,J,aq];lia
  obtain⟨F,z,f1,Z,T2,f4⟩:=D.relay (by rw[af,J];lia);rw[gr];unfold setRelay;refine ac (bw (s:={ s with heap:=h1 }) L rfl D.fits' ?_);dsimp only;have an:(xt ps p (h,x)).toArray.map (·.1)=((xt ps p (h,x)).map (·.1)).toArray:=by simp
  have sl:¬ SetTable.sizeAbove (4*((xt ps p (h,x)).map (·.1)).length)>sizeLine:=by
   obtain⟨e,e1,e2,e3,e4⟩:=qqb ((xt ps p (h,x)).map (·.1)).length (by rw[af,J];lia);have b:(2:Nat) ^ e<=2 ^ 13:=cS ⋯ e2;have c:(2:Nat) ^ 13=8192:=by decide
   lia
  rw[ao sl,an,f1];have ab:∀i∈z.toList,i<(xt ps p (h,x)).length:=λi hi=>by have:=am.mp (Z.mem_iff.mp hi);rwa [af]at this
  have oe:z.filterMap (λi=>(xt ps p (h,x)).toArray[i]?)=(z.toList.map λi=>(xt ps p (h,x)).getD i (0,.none)).toArray:=by apply dE.mp;rw[Array.toList_filterMap,Z9 _ _ ab]
  have W:(z.toList.map λi=>(xt ps p (h,x)).getD i (0,.none)).length=(xt ps p (h,x)).length:=by rw[af,Z.length_eq,au,af]
  have op:(z.toList.map λi=>(xt ps p (h,x)).getD i (0,.none)).Perm (xt ps p (h,x)):=by
   refine(Z.map _).trans ?_;rw[af];have:(List.range (xt ps p (h,x)).length).map (λi=>(xt ps p (h,x)).getD i (0,.none))=xt ps p (h,x):=by
    refine b9 λi=>?_;rw[av];by_cases c:i<(xt ps p (h,x)).length
    .rw[aV c];simp[ae,c]
    .rw[aG (by simp;lia),aG ⋯];rfl
   rw[this]
  have om:(z.toList.map λi=>(xt ps p (h,x)).getD i (0,.none)).map (·.1)=z.toList.map λi=>((xt ps p (h,x)).map (·.1)).getD i 0:=by rw[aU];refine bP λi hi=>?_;have:=ab i hi;simp[ae,this]
  rw[<-om]at T2;refine ac ?_;show wpAny (model prog w) A (do
   if(z.filterMap (λi=>(xt ps p (h,x)).toArray[i]?)).size != (xt ps p (h,x)).toArray.size then unsupported "internal:set-table-lost-an-element"
   pure (z.filterMap (λi=>(xt ps p (h,x)).toArray[i]?),F)) _ E _
  rw[oe];have ob:((z.toList.map λi=>(xt ps p (h,x)).getD i (0,.none)).toArray.size != (xt ps p (h,x)).toArray.size)=false:=by rw[aq,aq,W];simp
  rw[ob];simp only[aE,bE];refine ah ?_;dsimp only;generalize (z.toList.map λi=>(xt ps p (h,x)).getD i (0,.none))=ps2 at T2 op W;refine fF (s:={ s with heap:=h1 }) L rfl ?_ (by rw[aq,W];lia);refine ah ?_;have ad:Heap.SameBut S h1 (h1.update S (Obj.putSet ps2.toArray F)):=b7 _ _ _;have g2:(h1.update S (Obj.putSet ps2.toArray F)).get? S=some { o with data:=.set ps2.toArray (ep+1+1) F }:=qjx L rfl;refine hQ _ ps2 (U.trans ad) ⟨_,_,F,g2,hex,rfl,T2,?_⟩ (op.trans pm);rw[af]at f4;lia
 .rw[iD]at tf;rw[tf];simp only[gG,aE,bE];refine ah (hQ h1 _ U ⟨_,_,t1,L,hex,rfl,D,?_⟩ pm);unfold SetTable.tooFull at tf;have:=of_decide_eq_false tf;rw[fl]at this;lia
def KP (prog:Ac)(w:Ah)(hp:Heap)(ps:List (Int×Ag))(ks:List (List Key)):Prop:=Paired (λp k=>∃b,p=((KD prog w).hash k,.ref b)/\(KD prog w).is hp k b) ps ks
theorem KP.get {hp:Heap}{ks:List (List Key)}(K:KP prog w hp ps ks){i:Nat}{p:Int×Ag}(e:ps[i]?=some p):∃k' b,ks[i]?=some k'/\p=((KD prog w).hash k',.ref b)/\(KD prog w).is hp k' b:=by
 unfold KP at K
 induction K generalizing i with
 |nil=>simp at e
 |cons r t ih =>
  cases i with
  |zero =>
   obtain⟨b,D,z⟩:=r;simp at e;subst e;exact⟨_,b,rfl,D,z⟩
  |succ i=>exact ih (by simpa using e)
theorem KP.len {hp:Heap}{ks:List (List Key)}(K:KP prog w hp ps ks):ps.length=ks.length:=bC K
inductive MetP (t:SetTable) (ha:Nat->Int) (h:Int) (p:SetTable.Probe) (N:Nat):SetTable.Met->Prop
 |empty (hs:t.slot (zx t N p).j=.empty):MetP t ha h p N (.empty (zx t N p).j none)
 |cand (m i:Nat) (hm:m<=N) (hs:t.slot (zx t m p).j=.live i) (hh:ha i=h):MetP t ha h p N (.candidate (zx t m p).j i (zx t (m+1) p))
theorem Jv {ha:Nat->Int}:∀N fuel p,N<fuel->p.dummy=none->(∀n,n<N->∃i:Nat,t.slot (zx t n p).j=.live i)->(t.slot (zx t N p).j=.empty\/∃i:Nat,t.slot (zx t N p).j=.live i/\ha i=h)->∃m,SetTable.probe.go t ha h fuel p=some m/\MetP t ha h p N m
 |N,0,p,hf,_,_,_=>absurd hf (ge _)
 |0,fuel+1,p,_,hp,_,hs=>by
  unfold SetTable.probe.go;rcases hs with hs|⟨i,hs,hh⟩
  .have hs':t.slot p.j=.empty:=hs;rw[hs',hp];exact⟨_,rfl,.empty (p:=p) hs⟩
  .have hs':t.slot p.j=.live i:=hs;rw[hs'];dsimp only;rw[aw (eZ.mpr hh)];exact⟨_,rfl,.cand (p:=p) 0 i (ai _) hs hh⟩
 |N+1,fuel+1,p,hf,hp,hl,hs=>by
  unfold SetTable.probe.go;obtain⟨i,c⟩:=hl 0 (dO _);have c':t.slot p.j=.live i:=c;rw[c'];dsimp only;by_cases q:(ha i==h)=true
  .rw[aw q];exact⟨_,rfl,.cand (t:=t) (p:=p) 0 i (aK _) c (eZ.mp q)⟩
  .rw[ao q];obtain⟨m,e,ok⟩:=Jv (ha:=ha) N fuel (t.advance p) ⋯ ((qkv t p).trans hp) (λn hn=>hl (n+1) ⋯) hs;refine⟨m,e,?_⟩;cases ok with
   |empty hs=>exact .empty (p:=p) hs
   |cand m i hm hs hh=>exact .cand (t:=t) (p:=p) (m+1) i ⋯ hs hh
theorem wqm {ks:List (List Key)}(ho:s.heap.get? S=some o)(hd:o.data=.set ps.toArray ep t)(T:Tab (byT w) t (ps.map (·.1)))(K:KP prog w s.heap ps ks)(hx:(KD prog w).is s.heap k a)(hu:A.units<cLine){Q:SetFound->Ab->Prop}
  (hQ1:k∈ks->Q (.there none) s):∀(N fuel:Nat) (stand:Option SetTable.Probe),N<fuel->N<10*SetTable.turns t.mask->(stand.getD (t.probeStart ((KD prog w).hash k))).dummy=none ->
   (∀n,n<N->∃i:Nat,t.slot (zx t n (stand.getD (t.probeStart ((KD prog w).hash k)))).j=.live i) ->
   (t.slot (zx t N (stand.getD (t.probeStart ((KD prog w).hash k)))).j=.empty\/∃i:Nat,t.slot (zx t N (stand.getD (t.probeStart ((KD prog w).hash k)))).j=.live i/\ks[i]?=some k) ->
   (t.slot (zx t N (stand.getD (t.probeStart ((KD prog w).hash k)))).j=.empty->Q (.free (zx t N (stand.getD (t.probeStart ((KD prog w).hash k)))).j false) s) ->
   wpAny (model prog w) A (setSearchFrom S (.ref a) ((KD prog w).hash k) true fuel stand) Q E s:=by
 intro N
 induction N using Nat.strongRecOn with
 |_ N ih =>
  intro fuel stand hf hT hp hl hs hQ2;obtain⟨fuel,rfl⟩:∃f,fuel=f+1:=⟨fuel-1,⋯⟩;unfold setSearchFrom;refine ac (bw ho hd T.fits' ?_);dsimp only;have gw:t.gaveWay=false:=by unfold SetTable.gaveWay;obtain⟨e,h1,h2,_⟩:=T.pw;obtain⟨e',rfl⟩:∃e',e=e'+1:=⟨e-1,⋯⟩;rw[dc]at h1;simp only[bZ];lia
  rw[gw];simp only[aE,bE];have hashAt:∀(i:Nat) (k':List Key),ks[i]?=some k'->∀(p:Int×Ag),ps[i]?=some p->p.1=(KD prog w).hash k':=λi k' ek p e=>by obtain⟨k2,b,e1,e2,_⟩:=K.get e;rw[ek]at e1;cases e1;rw[e2]
  have inP:∀ {j i:Nat},t.slot j=.live i->i<ps.length:=λ{j i} e=>by have:=(bg.mp (J1 e)).1;rw[T.pl,af]at this;exact this
  have key:∀ha:Nat->Int,(∀(i:Nat) (p:Int×Ag),ps[i]?=some p->ha i=p.1)->∃m,t.probe ha ((KD prog w).hash k) (stand.getD (t.probeStart ((KD prog w).hash k)))=some m/\MetP t ha ((KD prog w).hash k) (stand.getD (t.probeStart ((KD prog w).hash k))) N m:=λha hha=>by
   refine Jv N _ _ hT hp hl ?_;rcases hs with hs|⟨i,hs,ek⟩
   .exact .inl hs
   .have hi:=inP hs;have e:=aa hi;exact .inr ⟨i,hs,(hha i _ e).trans (hashAt i k ek _ e)⟩
  split
  .rename_i met hm;obtain⟨m',e1,ok⟩:=key _ (λi p e=>by
    show(ps.toArray[i]?.map (·.1)).getD 0=p.1
    have:ps.toArray[i]?=some p:=by simpa using e
    rw[this]
    rfl)
   obtain rfl:m'=met:=ak (e1.symm.trans hm);cases ok with
   |empty hs'=>exact ah (hQ2 hs')
   |cand m i hm' hsl hh =>
    have hi:=inP hsl;obtain⟨k',b,ek,eb,hb⟩:=K.get (aa hi);have ei:ps.toArray[i]?=some ((KD prog w).hash k',.ref b):=by rw[<-eb];simp[hi]
    have rest:wpAny (model prog w) A (do
      let some (_,y):=ps.toArray[i]? | unsupported "internal:set-entry"
      let equal <-holding [y] (eqBool y (.ref a))
      let (es',_,t') <-setState S
      if true&&equal then return .there none
      let some sm0:=t'.sameMemory t.moves t.mask | unsupported "set.changed-during-lookup:is-the-new-block-at-the-old-address"
      let still <-match (if sm0 then t'.slot (zx t m (stand.getD (t.probeStart ((KD prog w).hash k)))).j else .empty) with
       |.live i'=>match es'[i']? with
        |some (_,y')=>do pure (if <-isSame y' y then some i' else none)
        |none=>pure none
       |_=>pure none
      match still with
      |none=>rule "set.search.anew";setSearchFrom S (.ref a) ((KD prog w).hash k) true fuel none
      |some i'=>if equal then return .there (some i') else setSearchFrom S (.ref a) ((KD prog w).hash k) true fuel (some (zx t (m+1) (stand.getD (t.probeStart ((KD prog w).hash k)))))) Q E s:=by
     rw[ei];dsimp only;refine ac (bY ((KD prog w).eqBool hu hb hx ?_));refine ac (bw ho hd T.fits' ?_);by_cases ce:k'=k
     .rw[aM ce];simp only[jE,da];exact ah (hQ1 (by rw[<-ce];exact aL ek))
     .rw[aX ce];have sm:t.sameMemory t.moves t.mask=some true:=by simp[SetTable.sameMemory]
      simp only[gG,aE,bE,sm,da,hsl,ei];refine ac ?_;refine xwb ?_;simp only[da];refine ac (ah ?_);have mN:m<N:=by
       rcases bj m N with z|z
       .exact z
       .obtain rfl:m=N:=by lia
        rcases hs with hs|⟨i0,hs,ek0⟩
        .rw[hs]at hsl;cases hsl
        .rw[hs]at hsl;cases hsl;rw[ek0]at ek;cases ek;exact absurd rfl ce
      have sh:∀n,zx t n (zx t (m+1) (stand.getD (t.probeStart ((KD prog w).hash k))))=zx t (m+1+n) (stand.getD (t.probeStart ((KD prog w).hash k))):=λn=>(Wz t n (m+1) _).symm;refine ih (N-(m+1)) ⋯ fuel (some (zx t (m+1) (stand.getD (t.probeStart ((KD prog w).hash k))))) ⋯ ⋯ ?_ (λn hn=>?_) ?_ ?_
      .show(zx t (m+1) _).dummy=none;rw[qzn];exact hp
      .show ∃i:Nat,t.slot (zx t n (zx t (m+1) _)).j=.live i;rw[sh];exact hl _ ⋯
      .show t.slot (zx t (N-(m+1)) (zx t (m+1) _)).j=.empty\/∃i:Nat,t.slot (zx t (N-(m+1)) (zx t (m+1) _)).j=.live i/\_;rw[sh,show m+1+(N-(m+1))=N by lia];exact hs
      .show t.slot (zx t (N-(m+1)) (zx t (m+1) _)).j=.empty->Q (.free (zx t (N-(m+1)) (zx t (m+1) _)).j false) s;rw[sh,show m+1+(N-(m+1))=N by lia];exact hQ2
    dsimp only;cases t.led with
    |true=>exact rest
    |false =>
     simp only[jo,da];refine ac (xj0 hx ?_ _ λy hy=>?_)
     .simp only[aE,bE];exact rest
     .obtain⟨p,hp',rfl⟩:=aH.mp hy;have hp2:p∈ps:=by have:=fU.mp hp';simpa using Array.mem_of_mem_filter this
      obtain⟨i2,e2⟩:=cT hp2;obtain⟨k2,b2,_,e3,h2⟩:=K.get e2;exact⟨k2,b2,by rw[e3],h2⟩
  .rename_i hm;obtain⟨m',e1,_⟩:=key _ (λi p e=>by
    show(ps.toArray[i]?.map (·.1)).getD 0=p.1
    have:ps.toArray[i]?=some p:=by simpa using e
    rw[this]
    rfl)
   exact(hm _ e1).elim
theorem wuh {Q:Bool->Ab->Prop}{n:Nat}{items:List Ag}{m:Nat}(hx:(KD prog w).is s.heap k a)(ho:s.heap.get? a=some o)(hd:o.data=.seq items.toArray m)(hi:∀v∈items,∃i t,v=Value.int i t)(hQ:Q true s):wpAny (model prog w) A (hashByValue (n+1) (.ref a)) Q E s:=by
 have hT:s.TypeIs (.ref a) "tuple" := IsTupleKey.typeIs hx;unfold hashByValue;refine ac (iU hT PySem.F.slot_tuple_hash.lookup ?_);dsimp only;refine ac (gK ho hd ?_);refine ac ?_;show wpAny _ _ (forIn items.toArray _ _) _ _ s;rw[<-fh];refine fM _ (λrest r s'=>r.1=none/\s'=s/\∀v∈rest,∃i t,v=Value.int i t) _ ?_ ?_ _ _ ⟨rfl,rfl,by simpa using hi⟩
 .rintro v rest r s' ⟨hr,rfl,hall⟩;obtain⟨i,t,rfl⟩:=hall v dj;have D:hashByValue n (.int i t)=pure true:=by cases n <;> rfl
  rw[D];refine ac (ah ?_);exact ah ⟨rfl,rfl,λu z=>hall u (bu _ z)⟩
 .rintro⟨L,J⟩ s' ⟨hr,rfl,_⟩;simp only at hr;subst hr;exact ah hQ
theorem xx1 {ks:List (List Key)}{items:List Ag}{m:Nat}{oa:Obj}{Q:Bool->Ab->Prop}(P:SAt w s.heap S ps)(K:KP prog w s.heap ps ks)(hx:(KD prog w).is s.heap k a)(hoa:s.heap.get? a=some oa)(hda:oa.data=.seq items.toArray m)(hi:∀v∈items,∃i t,v=Value.int i t)
  (hu:A.units<cLine) (hn:ps.length<1099) (hQ1:k∈ks->∀tk,Q false { s with toks:=tk }) (hQ2:k∉ks->∀h' tk ps',Heap.SameBut S s.heap h'->SAt w h' S ps'->ps'.Perm (((KD prog w).hash k,.ref a)::ps)->Q true { s with heap:=h',toks:=tk }) :
  wpAny (model prog w) A (setAdd S (.ref a)) Q E s:=by
 obtain⟨o,ep,t,F,ad,J,T,an⟩:=P;have bm:=T.big;unfold setAdd;refine bY (ac ((KD prog w).pyHash hu hx ?_));generalize s.toks+(KD prog w).draws k=tk;unfold setAddHashed;refine bY ?_;unfold setAddHashedIn;refine ac (bw (s:={ s with toks:=tk }) F J T.fits' ?_);dsimp only;have bs:byScan (.ref a) ps.toArray=false:=by simp[byScan,Value.scannable]
 rw[bs];simp only[aE,bE];refine ac ?_;unfold setSearch;by_cases ck:k∈ks
 .obtain⟨i,U⟩:=cT ck;have ab:i<ps.length:=by rw[K.len];exact(al.mp U).1
  obtain⟨k',b,e1,e2,_⟩:=K.get (aa ab);rw[U]at e1;cases e1;obtain⟨N,j,r1,L,D,r4⟩:=T.reach i ((KD prog w).hash k) (by rw[av,aa ab,e2];rfl);have Z:=qk7 T.rise L;refine wqm (s:={ s with toks:=tk }) F J T K hx hu (λ_=>?_) N 100000 none ⋯ (by unfold SetTable.turns;lia) rfl (λn hn=>?_) (.inr ⟨i,?_,U⟩) λz=>?_
  .exact ah (hQ1 ck tk)
  .obtain⟨i',e'⟩:=r4 n hn;exact⟨i',qk7 T.rise e'⟩
  .show t.slot (pos t ((KD prog w).hash k) N)=_;rw[D];exact Z
  .have W:t.slot (pos t ((KD prog w).hash k) N)=.empty:=z;rw[D,Z]at W;cases W
 .obtain⟨N,r1,L,D⟩:=T.free ((KD prog w).hash k);refine wqm (s:={ s with toks:=tk }) F J T K hx hu (λz=>absurd z ck) N 100000 none ⋯ (by unfold SetTable.turns;lia) rfl (λn hn=>D n hn) (.inl L) λ_=>?_;dsimp only;refine ac (bw (s:={ s with toks:=tk }) F J T.fits' ?_);dsimp only;have pt:(t.put (pos t ((KD prog w).hash k) N)).1.plain=true:=T.plain;show wpAny (model prog w) A (do
   let ap <-if(t.put (pos t ((KD prog w).hash k) N)).1.plain=true then hashByValue 8 (.ref a) else pure true
   _) Q E { s with toks:=tk }
  rw[aw pt];refine ac (wuh (s:={ s with toks:=tk }) hx hoa hda hi ?_);exact lay_in (s:={ s with toks:=tk }) (w:=w) F ad J T an hn r1 L D λh' ps' sb P' pm=>hQ2 ck h' tk ps' sb P' pm
end
end L2
namespace L2
open PySem PySem.Spec PySem.Calls PySem.W PyProof.Rows
theorem slot_setit_next:Slot "set_iterator" "__next__" "set_iterator.__next__" := .of (owner := "set_iterator") (n := "__next__") (by rw[typeLookup_type,builtinLookup_eq_fast];kernel_rfl) (by decide +kernel) (by decide +kernel) (by decide +kernel) (by first | exact .inl (by decide +kernel) | exact .inr (by decide +kernel)) (by rw[isSubtype_type];kernel_rfl)
theorem Qr:Slot "set_iterator" "__iter__" "set_iterator.__iter__" := .of (owner := "set_iterator") (n := "__iter__") (by rw[typeLookup_type,builtinLookup_eq_fast];kernel_rfl) (by decide +kernel) (by decide +kernel) (by decide +kernel) (by first | exact .inl (by decide +kernel) | exact .inr (by decide +kernel)) (by rw[isSubtype_type];kernel_rfl)
theorem Qx:entryFor table "set_iterator.__next__" = some Builtin.«set_iterator.__next__»:=entryFor_of_tree (by kernel_rfl)
theorem Jc:entryFor table "set_iterator.__iter__" = some Builtin.«dict_keyiterator.__iter__»:=entryFor_alias (id' := "dict_keyiterator.__iter__") (by kernel_rfl) rfl (by decide +kernel) (by kernel_rfl)
theorem qwg:entryFor table "set.__iter__" = some Builtin.«frozenset.__iter__»:=entryFor_alias (id' := "frozenset.__iter__") (by kernel_rfl) rfl (by decide +kernel) (by kernel_rfl)
theorem qqd:Manifest.owners.lookup (String.ofList ['r','o','t','a','r','e','t','i','_','t','e','s'].reverse)=some Manifest.sig_set_iterator:=by kernel_rfl
theorem Qp (a:Ag):argsOk "set_iterator.__next__" ⟨[a],[]⟩:=by(unfold argsOk;rw[signature?_of (id := "set_iterator.__next__") (n:=['_','_','t','x','e','n','_','_']) (o:=['r','o','t','a','r','e','t','i','_','t','e','s']) (by kernel_rfl) qqd];kernel_rfl)
theorem qqs (a:Ag):argsOk "set_iterator.__iter__" ⟨[a],[]⟩:=by(unfold argsOk;rw[signature?_of (id := "set_iterator.__iter__") (n:=['_','_','r','e','t','i','_','_']) (o:=['r','o','t','a','r','e','t','i','_','t','e','s']) (by kernel_rfl) qqd];kernel_rfl)
theorem wk9 {α:Type}(nx:Nat->Nat):∀(f k:Nat) (left:List α) (out:Array α),left.length=f->(pickOrder.go nx f k left out).toList.Perm (out.toList++left)
 |0,k,left,out,h=>by have:left=[]:=cR h;subst this;unfold pickOrder.go;simp
 |f+1,k,left,out,h=>by have hi:nx k%left.length<left.length:=dN _ ⋯;unfold pickOrder.go;rw[aa hi];dsimp only;refine(wk9 nx f (k+1) (left.eraseIdx (nx k%left.length)) _ (by rw[List.length_eraseIdx,aw hi];lia)).trans ?_;rw[g8,fE];refine List.Perm.append_left _ ?_;rw[List.singleton_append];rw[List.eraseIdx_eq_take_drop_succ];refine List.perm_middle.symm.trans ?_;rw[<-gS hi,fI]
def wk (w:Ah)(S:Aj)(ep:Nat)(ps:List (Int×Ag)):List (Int×Ag):=if byT w=true then(pickOrder (w.params.setOrder S ep) ps.toArray).toList else ps
theorem qwu (w:Ah)(S:Aj)(ep:Nat)(ps:List (Int×Ag)):(wk w S ep ps).Perm ps:=by
 unfold wk;split
 .unfold pickOrder;exact(wk9 _ _ _ _ _ (by simp)).trans (by simp)
 .exact .refl _
def SRaw (h:Heap)(S:Aj)(ps:List (Int×Ag))(ep:Nat)(t:SetTable):Prop:=∃o,h.get? S=some o/\o.ExactSet/\o.data=.set ps.toArray ep t
def SIt (h:Heap)(it S:Aj)(slot i n ep:Nat):Prop:=∃o,h.get? it=some o/\o.cls=.type "set_iterator" /\ o.data=.fields #[.int slot 0,.int i 0,.ref S,.int n 0,.int ep 0]
theorem SRaw.at {h h':Heap}{S:Aj}{ps:List (Int×Ag)}{ep:Nat}{t:SetTable}(x:SRaw h S ps ep t)(k:∀o,h.get? S=some o->h'.get? S=some o):SRaw h' S ps ep t:=let ⟨o,e,r⟩:=x;⟨o,k o e,r⟩
theorem SIt.at {h h':Heap}{it S:Aj}{slot i n ep:Nat}(x:SIt h it S slot i n ep)(k:∀o,h.get? it=some o->h'.get? it=some o):SIt h' it S slot i n ep:=let ⟨o,e,r⟩:=x;⟨o,k o e,r⟩
section
variable {prog:Ac}{w:Ah}{A:Ae}{E:Ag->Ab->Prop}{s:Ab}{S it:Aj}{ps:List (Int×Ag)}{ep:Nat}{t:SetTable}
theorem SIt.ty {slot i n:Nat}(x:SIt s.heap it S slot i n ep):s.TypeIs (.ref it) "set_iterator" := let ⟨o,e,r⟩:=x;⟨o,e,r.1⟩
theorem SRaw.ty (x:SRaw s.heap S ps ep t):s.TypeIs (.ref S) "set" := let ⟨o,e,r⟩:=x;⟨o,e,r.1.1⟩
theorem Jr {Q:Bool->Ab->Prop}(h:Q (byT w) s):wpAny (model prog w) A setsByText Q E s:=by unfold setsByText;exact ac (eL (ah h))
theorem wu3 {slot i:Nat}{Q:Option (Ag×Nat)->Ab->Prop}(R:SRaw s.heap S ps ep t)(T:Tab (byT w) t (ps.map (·.1)))(hs:byT w=false->SetTable.below t.place slot=i){p:Int×Ag}(hp:(wk w S ep ps)[i]?=some p)
  (hQ:∀nx:Nat,(byT w=false->SetTable.below t.place nx=i+1)->Q (some (p.2,nx)) s):wpAny (model prog w) A (setNext S slot i ep) Q E s:=by
 obtain⟨o,D,ab,F⟩:=R;unfold setNext;refine ac (bw D F T.fits' ?_);dsimp only;refine ac (Jr ?_);cases hb:byT w with
 |true =>
  rw[hb]at hs hQ;simp only[da,eo,aE,bE];refine ac ?_;unfold setWalk;refine ac (bw D F T.fits' ?_);dsimp only;refine ac (Jr ?_);rw[hb];simp only[da];refine ac (eL (ah ?_));unfold wk at hp;rw[aw hb,bz]at hp;show wpAny _ _ (pure (((pickOrder (w.params.setOrder S ep) ps.toArray)[i]?).map _)) _ _ _;rw[hp];exact ah (hQ slot λz=>by cases z)
 |false =>
  rw[hb]at hs hQ;simp only[aE,bE];refine eX (λW=>absurd W ?_) (λ_=>?_)
  .show ¬ ((!t.plain&&decide (ps.toArray.size>1))=true);rw[T.plain];simp
  .refine ac ?_;show wpAny _ _ (if(!t.led&&!ps.toArray.isEmpty)=true then _ else _) _ _ s;have U:t.led=true:=by rw[T.led,hb];rfl
   rw[U];simp only[fS,iZ,aE,bE];refine ah ?_;unfold wk at hp;rw[ao (by rw[hb];exact aJ)]at hp;have hi:=(al.mp hp).1;have Z:ps.toArray[i]?=some (p.1,p.2):=by simpa using hp
   have L:i<t.place.size:=by rw[T.pl,af];exact hi
   have J:t.place[i]?=some t.place[i]:=aW L;rw[hs rfl,Z,J];exact ah (hQ _ λ_=>wvg T.rise J)
theorem xx3 {slot i:Nat}{Q:Option (Ag×Nat)->Ab->Prop}(R:SRaw s.heap S ps ep t)(T:Tab (byT w) t (ps.map (·.1)))(hs:byT w=false->SetTable.below t.place slot=i)(hp:ps.length<=i)
  (hQ:Q none s):wpAny (model prog w) A (setNext S slot i ep) Q E s:=by
 obtain⟨o,D,W,F⟩:=R;unfold setNext;refine ac (bw D F T.fits' ?_);dsimp only;refine ac (Jr ?_);cases hb:byT w with
 |true =>
  simp only[da,eo,aE,bE];refine ac ?_;unfold setWalk;refine ac (bw D F T.fits' ?_);dsimp only;refine ac (Jr ?_);rw[hb];simp only[da];refine ac (eL (ah ?_));have z:=(qwu w S ep ps).length_eq;unfold wk at z;rw[aw hb,bc]at z;show wpAny _ _ (pure (((pickOrder (w.params.setOrder S ep) ps.toArray)[i]?).map _)) _ _ _;rw[cL (by rw[z];exact hp)];exact ah hQ
 |false =>
  rw[hb]at hs;simp only[aE,bE];refine eX (λL=>absurd L ?_) (λ_=>?_)
  .show ¬ ((!t.plain&&decide (ps.toArray.size>1))=true);rw[T.plain];simp
  .refine ac ?_;show wpAny _ _ (if(!t.led&&!ps.toArray.isEmpty)=true then _ else _) _ _ s;have J:t.led=true:=by rw[T.led,hb];rfl
   rw[J];simp only[fS,iZ,aE,bE];refine ah ?_;have U:ps.toArray[i]?=none:=cL (by rw[aq];exact hp);rw[hs rfl,U];exact ah hQ
theorem wvx {slot i:Nat}{p:Int×Ag}{Q:Option Ag->Ab->Prop}(hit:SIt s.heap it S slot i ps.length ep)(R:SRaw s.heap S ps ep t)(T:Tab (byT w) t (ps.map (·.1)))(hs:byT w=false->SetTable.below t.place slot=i)(hp:(wk w S ep ps)[i]?=some p)
  (hQ:∀h' nx,SIt h' it S nx (i+1) ps.length ep->(byT w=false->SetTable.below t.place nx=i+1)->Heap.SameBut it s.heap h'->Q (some p.2) { s with heap:=h' }):wpAny (model prog w) A (pyNext (.ref it)) Q E s:=by
 obtain⟨o,D,hc,z⟩:=id hit;obtain⟨oS,W,ad,ab⟩:=id R;unfold pyNext;refine ac (dY (cX (name:=Str.ofString "__next__") hit.ty slot_setit_next (cH slot_setit_next hit.ty Qx ?_ (Qp _))));unfold Builtin.«set_iterator.__next__»;refine ac (ah ?_);refine ac (gM D z ?_);dsimp only;refine ac ?_;unfold setEntries;refine ac (bw W ab T.fits' (ah ?_));dsimp only;rw[ao (by rw[aq];simp)];rw[bR,bR,bR];refine ac (wu3 R T hs hp λnx Z=>?_);dsimp only;refine ac (eG D z (by simp) ?_);have F:=cu (Obj.mapFields (·.setIfInBounds 0 (rawInt (nx:Int)))) D (d6 (cC z _));have J:=cC z (·.setIfInBounds 0 (rawInt (nx:Int)));have L:Heap.SameBut it s.heap (s.heap.update it (Obj.mapFields (·.setIfInBounds 0 (rawInt (nx:Int))))):=b7 ..;generalize s.heap.update it (Obj.mapFields (·.setIfInBounds 0 (rawInt (nx:Int))))=h1 at F L ⊢;refine ac (eG (s:={ s with heap:=h1 }) F J (by simp) ?_);have g2:=cu (Obj.mapFields (·.setIfInBounds 1 (rawInt ((i:Int)+1)))) F (d6 (cC J _));have d2:=cC J (·.setIfInBounds 1 (rawInt ((i:Int)+1)));have U:Heap.SameBut it h1 (h1.update it (Obj.mapFields (·.setIfInBounds 1 (rawInt ((i:Int)+1))))):=b7 ..;refine ah ⟨_,rfl,ah (hQ _ nx ⟨_,g2,((fv ..).trans (fv ..)).trans hc,by rw[d2];simp[rawInt]⟩ Z (L.trans U))⟩
theorem wuu {slot i:Nat}{Q:Option Ag->Ab->Prop}(hh:A.handled=none)(hit:SIt s.heap it S slot i ps.length ep)(R:SRaw s.heap S ps ep t)(T:Tab (byT w) t (ps.map (·.1)))(hs:byT w=false->SetTable.below t.place slot=i)(hp:ps.length<=i)
  (hQ:∀h',Heap.ExtBut it s.heap h'->Q none { s with heap:=h' }):wpAny (model prog w) A (pyNext (.ref it)) Q E s:=by
 obtain⟨o,z,W,D⟩:=id hit;obtain⟨L,F,U,J⟩:=id R;unfold pyNext;refine ac (dY (cX (name:=Str.ofString "__next__") hit.ty slot_setit_next (cH slot_setit_next hit.ty Qx ?_ (Qp _))));unfold Builtin.«set_iterator.__next__»;refine ac (ah ?_);refine ac (gM z D ?_);dsimp only;refine ac ?_;unfold setEntries;refine ac (bw F J T.fits' (ah ?_));dsimp only;rw[ao (by rw[aq];simp)];rw[bR,bR,bR];refine ac (xx3 R T hs hp ?_);dsimp only;refine ac (eG z D (by simp) ?_);refine ac ?_;simp only[newExc,newTuple];(refine ac (bK ?_ (by size_fits)) ;refine ac (m:=firstArgMember _ _) (wpAny_of_eq (a:=Value.none) (by first | rfl | (simp only[firstArgMember];rfl)) ?_) ;refine bK ?_ (by size_fits) ;simp only[raiseNew] ;refine ac (wpAny_handled ?_) ;rw[show A.in1.handled=none from hh] ;refine ac (ah (wpAny_throw ?_)));refine ac (iE (T := "StopIteration") (b:=true) ⟨_,ax _ rfl,rfl⟩ isSubtype_stop (ah (hQ _ (((b7 ..).extBut.push _).push _))))
theorem wv1 {slot i:Nat}{Q:Ag->Ab->Prop}(hit:SIt s.heap it S slot i ps.length ep)(h:Q (.ref it) s):wpAny (model prog w) A (pyIter (.ref it)) Q E s:=by refine ib hit.ty Qr (cH Qr hit.ty Jc ?_ (qqs _));show wpAny _ _ (ret (.ref it)) _ _ s;exact ah ⟨_,rfl,"set_iterator",_,hit.ty,slot_setit_next.lookup,h⟩
theorem xz2 {Q:Ag->Ab->Prop}(R:SRaw s.heap S ps ep t)(T:Tab (byT w) t (ps.map (·.1)))
  (hQ:Q (.ref s.heap.objs.size) { s with heap:=s.heap.push { cls:=.type "set_iterator",data:=.fields #[.int 0 0,.int 0 0,.ref S,.int ps.length 0,.int ep 0] } }):wpAny (model prog w) A (pyIter (.ref S)) Q E s:=by
 obtain⟨U,z,W,D⟩:=id R;refine ib R.ty F.slot_set_iter (cH F.slot_set_iter R.ty qwg ?_ (F.args_set_iter_1 _));unfold Builtin.«frozenset.__iter__»;refine ac ?_;unfold Builtin.Frozenset.slot0;refine ac (ah ?_);show wpAny _ _ (pure S) _ _ s;refine ah ?_;refine ac ?_;unfold Builtin.Frozenset.sizeOf setEntries;refine ac (ac (bw z D T.fits' (ah (ah ?_))));dsimp only;refine ac ?_;unfold setDrawn;refine ac (bw z D T.fits' ?_);dsimp only;refine ac (Jr (ah ?_));have J:∀b:Bool,(b&&(!t.plain&&decide (ps.toArray.size>1)))=false:=λb=>by rw[T.plain];simp
 refine eX (λL=>?_) (λ_=>?_)
 .have:(!byT w&&(!t.plain&&decide (ps.toArray.size>1)))=true:=L;rw[J]at this;cases this
 .refine ac (ah ?_);refine ac (wpAny_setEpoch_of z D T.fits' ?_);refine ac (bK (ah ⟨_,rfl,"set_iterator",_,⟨_,ax _ rfl,rfl⟩,slot_setit_next.lookup,?_⟩));simpa [rawInt] using hQ
theorem wy6 (hh:A.handled=none)(I:Aj)(hne:S≠I)(T:Tab (byT w) t (ps.map (·.1))):Walks prog w A I [I,S] [I] ps.length (λi v=>∃p,(wk w S ep ps)[i]?=some p/\v=p.2) (λi h=>(∃slot,SIt h I S slot i ps.length ep/\(byT w=false->SetTable.below t.place slot=i))/\SRaw h S ps ep t) where
 sub:=λb hb=>by simp at hb;simp[hb]
 frame:=λ_ _ _ ⟨⟨sl,a,b⟩,c⟩ hk=>⟨⟨sl,a.at λo e=>hk I (by simp) o e,b⟩,c.at λo e=>hk S (by simp) o e⟩
 item:=λi s Q E hi ⟨⟨sl,a,b⟩,c⟩ hQ=>by have hl:=(qwu w S ep ps).length_eq;have hx:=aa (l:=wk w S ep ps) (i:=i) ⋯;exact wvx a c T b hx λh' nx it' nx' sb=>hQ _ h' s.toks ⟨_,hx,rfl⟩ ⟨⟨nx,it',nx'⟩,c.at λo e=>sb.extBut S o hne e⟩ λb o hb e=>sb.extBut b o (λh=>hb (by simp[h])) e
 done:=λs Q E ⟨⟨sl,a,b⟩,c⟩ hQ=>wuu hh a c T b (ai _) λh' eb=>hQ h' s.toks λb o hb e=>eb b o (λh=>hb (by simp[h])) e
 self:=λ_ _ _ _ ⟨⟨sl,a,b⟩,c⟩ hQ=>wv1 a hQ
theorem xxy {Q:Bool->Ab->Prop}(hT:s.TypeIs (.ref S) "set")(h:Q false s):wpAny (model prog w) A (Builtin.List.listLengthHint (.ref S)) Q E s:=by unfold Builtin.List.listLengthHint;refine ac (iU hT F.slot_set_len.lookup ?_);generalize hid:("set.__len__" : String)=id0;wp_delta;rw[show splitId id0=some ("set","__len__") from by subst hid;decide +kernel];subst hid;(refine ac (iE (T := "set") (b:=true) hT (by rw[isSubtype_type];kernel_rfl) ?_) ;refine eX (λz=>absurd z ⋯) (λ_=>?_) ;refine eX (λ_=>?_) (λz=>absurd (by decide +kernel) z));refine ac (wpAny_typeOf hT ?_);exact ah h
theorem xjk (T:Tab (byT w) t (ps.map (·.1))):KdlSrc prog w "set" S S ps.length (λi v=>∃p,(wk w S ep ps)[i]?=some p/\v=p.2) (λh=>SRaw h S ps ep t) where
 type:=λ_ hm=>hm.ty
 there:=λ_ hm=>let ⟨_,e,_⟩:=hm;⟨aj e,aj e⟩
 keep:=λ_ _ hm hk=>hm.at λo e=>hk S (.inl rfl) o e
 notList:=by decide
 notTuple:=by decide
 hint:=λ_ _ _ _ hm hq=>xxy hm.ty hq
 iter:=λ_ _ hh hm=>⟨_,_,(λ_ _ hq=>xz2 hm T hq),wy6 hh _ (let ⟨_,e,_⟩:=hm;ay (aj e)) T,⟨⟨0,⟨_,ax _ rfl,rfl,rfl⟩,λ_=>wzv T.rise⟩,hm.at λo e=>ag _ e⟩⟩
end
end L2
namespace L2
open PySem PySem.Spec PyProof.Rows PySem.W
def RawD (h:Heap)(d:Aj)(es:Array DictEntry)(ep:Nat):Prop:=∃o,h.get? d=some o/\o.ExactDict/\o.data=.dict es ep
section
variable {prog:Ac}{w:Ah}{A:Ae}{E:Ag->Ab->Prop}{s:Ab}{d:Aj}{es:Array DictEntry}{ep:Nat}
theorem RawD.ty {s:Ab}(x:RawD s.heap d es ep):s.TypeIs (.ref d) "dict" := let ⟨o,ho,hc,_⟩:=x;⟨o,ho,hc.1⟩
theorem RawD.lt {h:Heap}(x:RawD h d es ep):d<h.objs.size:=let ⟨_,ho,_⟩:=x;aj ho
theorem RawD.at {h h':Heap}(x:RawD h d es ep)(k:∀o,h.get? d=some o->h'.get? d=some o):RawD h' d es ep:=let ⟨o,ho,r⟩:=x;⟨o,k o ho,r⟩
theorem xwu {Q:Ag->Ab->Prop}(hd:(d==sysModules)=false)(hm:RawD s.heap d es ep)
  (hQ:Q (.ref s.heap.objs.size) { s with heap:=s.heap.push { cls:=.type "dict_keyiterator",data:=.fields #[.ref d,.int 0 0,.int es.size 0,.int ep 0] } }):wpAny (model prog w) A (pyIter (.ref d)) Q E s:=by
 obtain⟨o,z,J,D⟩:=id hm;(refine ib hm.ty F.slot_dict_iter (cH F.slot_dict_iter hm.ty F.entry_dict_iter ?_ (F.args_dict_iter_1 _)) ;unfold Builtin.«dict.__iter__» ;refine ac ?_ ;unfold Builtin.Dict.dictSlotNone ;refine ac (wpAny_notOrdered_dict hm.ty ?_));(show wpAny _ _ (pure (Value.ref d)) _ _ s ;refine ah ?_ ;show wpAny _ _ (Builtin.Dict.showsAll d >>= _) _ _ s ;unfold Builtin.Dict.showsAll ;rw[ao (by rw[hd];exact aJ)]);(refine ac (ah ?_) ;refine ac (fG z D ?_) ;refine ac (iV z D ?_));refine ac (bK (ah ⟨_,rfl,"dict_keyiterator",_,⟨_,ax _ rfl,rfl⟩,cA.lookup,?_⟩)) ;simpa [rawInt] using hQ
theorem xvz {it:Aj}{i:Nat}{e:DictEntry}{Q:Option Ag->Ab->Prop}(hit:s.heap.IsKeyIter it d i es.size ep)(hm:RawD s.heap d es ep)(hx:es[i]?=some e)
  (hQ:∀h',h'.IsKeyIter it d (i+1) es.size ep->Heap.SameBut it s.heap h'->Q (some e.key) { s with heap:=h' }):wpAny (model prog w) A (pyNext (.ref it)) Q E s:=by
 obtain⟨o,D,Z,z⟩:=id hit ;obtain⟨od,F,ab,L⟩:=id hm;(unfold pyNext ;refine ac (dY (cX (name:=Str.ofString "__next__") hit.typeIs cA (cH cA hit.typeIs fX ?_ (fP _)))) ;refine ac (ah ?_) ;refine ac ?_ ;refine ac ?_);((first | refine ac (cU hit.typeIs (ah ?_)) | refine ac (dA hit.typeIs (ah ?_))) ;refine ac (gM D z ?_) ;simp only[show Builtin.Dict_items.ownsTuple "dict_keyiterator" = false by decide,aE,bE] ;show wpAny _ _ (if(Value.ref d==Value.none)=true then _ else _) _ _ s ;rw[ao (show ¬ ((Value.ref d==Value.none)=true) from aJ)] ;refine ac (ah ?_) ;refine ac (fG F L ?_) ;rw[ao (by simp)] ;refine ac (ah ?_) ;refine ac (iV F L ?_) ;rw[ao (by simp)] ;refine ah ?_);have U:i<es.size:=(bg.mp hx).1 ;have W:es[i]=e:=(bg.mp hx).2;(simp only[show ¬ ((i:Int)<0) from by lia,bE,bR,aW U] ;refine ac ?_ ;(first | refine ac (cU hit.typeIs (ah ?_)) | refine ac (dA hit.typeIs (ah ?_))) ;refine ac (wpAny_isOneOf_keyiter hit.typeIs ?_) ;show wpAny _ _ (setField (.ref it) 1 (rawInt ((i:Int)+1)) >>= _) _ _ s ;refine ac (eG D z (by simp) ?_));have J:(s.heap.update it (Obj.mapFields (·.setIfInBounds 1 (rawInt ((i:Int)+1))))).IsKeyIter it d (i+1) es.size ep:=⟨_,cu _ D (d6 (cC z _)),(fv ..).trans Z,by rw[cC z];simp[rawInt]⟩;(refine ac (bY ?_) ;refine ac (wpAny_isOneOf_keyiter (s:={ s with heap:=s.heap.update it (Obj.mapFields (·.setIfInBounds 1 (rawInt ((i:Int)+1)))) }) J.typeIs ?_) ;show wpAny _ _ (pure es[i].key) _ _ _ ;rw[W]);exact ah (ah ⟨_,rfl,ah (hQ _ J (b7 ..))⟩)
theorem xju {it:Aj}{i:Nat}{Q:Option Ag->Ab->Prop}(hh:A.handled=none)(hit:s.heap.IsKeyIter it d i es.size ep)(hm:RawD s.heap d es ep)(hx:es.size<=i)(hQ:∀h',Heap.ExtBut it s.heap h'->Q none { s with heap:=h' }):wpAny (model prog w) A (pyNext (.ref it)) Q E s:=by obtain⟨o,D,W,J⟩:=id hit ;obtain⟨L,z,U,F⟩:=id hm;(unfold pyNext ;refine ac (dY (cX (name:=Str.ofString "__next__") hit.typeIs cA (cH cA hit.typeIs fX ?_ (fP _)))) ;refine ac (ah ?_) ;refine ac ?_ ;refine ac ?_);((first | refine ac (cU hit.typeIs (ah ?_)) | refine ac (dA hit.typeIs (ah ?_))) ;refine ac (gM D J ?_) ;simp only[show Builtin.Dict_items.ownsTuple "dict_keyiterator" = false by decide,aE,bE] ;show wpAny _ _ (if(Value.ref d==Value.none)=true then _ else _) _ _ s ;rw[ao (show ¬ ((Value.ref d==Value.none)=true) from aJ)] ;refine ac (ah ?_) ;refine ac (fG z F ?_) ;rw[ao (by simp)] ;refine ac (ah ?_) ;refine ac (iV z F ?_) ;rw[ao (by simp)] ;refine ah ?_);(simp only[show ¬ ((i:Int)<0) from by lia,bE,bR,cL hx] ;refine ac ?_ ;(first | refine ac (cU hit.typeIs (ah ?_)) | refine ac (dA hit.typeIs (ah ?_))) ;show wpAny _ _ (setField (.ref it) 0 .none >>= _) _ _ s ;refine ac (eG D J (by simp) ?_) ;show wpAny _ _ (newExc (.type "StopIteration") [] >>= _) _ _ _ ;refine ac ?_ ;simp only[newExc,newTuple]);(refine ac (bK ?_ (by size_fits)) ;refine ac (m:=firstArgMember _ _) (wpAny_of_eq (a:=Value.none) (by first | rfl | (simp only[firstArgMember];rfl)) ?_) ;refine bK ?_ (by size_fits) ;simp only[raiseNew] ;refine ac (wpAny_handled ?_) ;rw[show A.in1.handled=none from hh] ;refine ac (ah (wpAny_throw ?_)));refine ac (iE (T := "StopIteration") (b:=true) ⟨_,ax _ rfl,rfl⟩ isSubtype_stop (ah (hQ _ (((b7 ..).extBut.push _).push _))))
theorem wyr (hh:A.handled=none)(I:Aj)(hne:d≠I):Walks prog w A I [I,d] [I] es.size (λi v=>∃e,es[i]?=some e/\v=e.key) (λi h=>h.IsKeyIter I d i es.size ep/\RawD h d es ep) where
 sub:=λb hb=>by simp at hb;simp[hb]
 frame:=λ_ _ _ st hk=>⟨st.1.at λo e=>hk I (by simp) o e,st.2.at λo e=>hk d (by simp) o e⟩
 item:=λi s Q E hi st hQ=>xvz st.1 st.2 (aW hi) λh' it' sb=>hQ _ h' s.toks ⟨_,aW hi,rfl⟩ ⟨it',st.2.at λo e=>sb.extBut d o hne e⟩ λb o hb e=>sb.extBut b o (λh=>hb (by simp[h])) e
 done:=λs Q E st hQ=>xju hh st.1 st.2 (ai _) λh' eb=>hQ h' s.toks λb o hb e=>eb b o (λh=>hb (by simp[h])) e
 self:=λ_ _ _ _ st hQ=>wpAny_pyIter_keyiter st.1 hQ
theorem xv8 (lo:(d==sysModules)=false):KdlSrc prog w "dict" d d es.size (λi v=>∃e,es[i]?=some e/\v=e.key) (λh=>RawD h d es ep) where
 type:=λ_ hm=>hm.ty
 there:=λ_ hm=>⟨hm.lt,hm.lt⟩
 keep:=λ_ _ hm hk=>hm.at λo e=>hk d (.inl rfl) o e
 notList:=by decide
 notTuple:=by decide
 hint:=λ_ _ _ _ hm hq=>kdl_hint_dict hm.ty hq
 iter:=λ_ _ hh hm=>⟨_,_,(λ_ _ hq=>xwu lo hm hq),wyr hh _ (ay hm.lt),⟨⟨_,ax _ rfl,rfl,rfl⟩,hm.at λo e=>ag _ e⟩⟩
theorem qvx (hd:(d==sysModules)=false):MeetsIn prog w (Builtin.«dict.__len__» ⟨[.ref d],[]⟩) (λ_ R s=>∃es ep,RawD s.heap d es ep/\R (.ok (.ret (.int es.size s.toks))) { s with toks:=s.toks+1 }) :=
 .of_wp λA R s ⟨es,ep,hm,h⟩=>by obtain⟨o,ho,hc,hdat⟩:=hm;(show wpAny _ _ (dictSize d >>= _) _ _ s ;unfold dictSize ;refine ac (ac (fG ho hdat (ah ?_))) ;show wpAny _ _ (Builtin.Dict.pendingCount d >>= _) _ _ s ;refine ac (wpAny_pendingCount_other hd ?_) ;refine wpAny_ret_mkInt ?_ ;rw[Nat.add_zero] ;exact h)
theorem xjv {Q:Ag->Ab->Prop}(hd:(d==sysModules)=false)(hm:RawD s.heap d es ep)(hfit:(es.size:Int)<2 ^ 63)(h:Q (.int es.size (s.toks+1)) { s with toks:=s.toks+1+1 }):wpAny (model prog w) A (call (.builtin "len") [.ref d]) Q E s:=by refine Calls.call_function_entry kind_len plain_len entry_len (args_len1 _) ?_ ;unfold Builtin.«len» ;refine ac (m:=oneArg "len" _) (ah ?_);refine ac (m:=callSpecial? (.ref d) (Str.ofString "__len__")) (cX (name:=Str.ofString "__len__") hm.ty F.slot_dict_len (call_meetsIn F.slot_dict_len hm.ty F.entry_dict_len (F.args_dict_len_1 _) (qvx hd) ⟨es,ep,hm,?_⟩));(show wpAny _ _ _ _ _ { s with toks:=s.toks+1 } ;refine ac (bY (ah ?_)) ;refine ac (fY ?_) ;show wpAny _ _ (if((es.size:Nat):Int)<0 then _ else _) _ _ _ ;rw[ao ⋯] ;show wpAny _ _ (if((es.size:Nat):Int)>=2 ^ 63 then _ else _) _ _ _ ;rw[ao ⋯]);exact ac (wpAny_mkInt (ah ⟨_,rfl,h⟩))
end
section
variable {X:Cx}
theorem xzt {P:Ac}{w:Ah}{H:Hp}{h:Heap}{a:Aj}{kvs:List (List Key×V)}(ok:HOk P w H h)(e:H a=some (.dT kvs)) :
  kvs.length<=sizeLine/\(a==sysModules)=false/\∃(xs:List (List Key×Aj×Ag)) (es:Array DictEntry) (ep:Nat),KT H kvs xs/\RawD h a es ep/\es.toList=xs.map (entryOfKey (tupleKind (vk P w))):=by
 obtain⟨z,y,xs,r,o,es,ep,h1,h2,F,D,J⟩:=(show ObjOk P w H h a (.dT kvs) from ok a _ e);exact⟨z,y,xs,es,ep,r,⟨o,h1,h2,F⟩,D⟩
theorem qkk:yx X (.builtin "len") (λxs H Q=>∃a kvs,xs=[V.ref a]/\H a=some (.dT kvs)/\Q (.int kvs.length) H):=by
 intro pins s σ H xs Z Q I r h;obtain⟨a,kvs,rfl,e,q⟩:=h;obtain⟨u,rfl,F⟩:=yg r;cases F;obtain⟨z,W,ys,es,ep,J,L,U⟩:=xzt I.hok e;have D:es.size=kvs.length:=by rw[<-bc,U,af,bC J]
 have hn:=qy6;exact xjv W L (by rw[D];lia) ⟨.int kvs.length,H,I.tok _,⟨_,by rw[D]⟩,q⟩
def xxc (H:Hp)(kvs:List (List Key×V))(vs:List V):Prop:=Paired (λv (p:List Key×V)=>∃b,v=V.ref b/\H b=some (.tup (p.1.map kV))) vs kvs
theorem wzs (hc:X.calm=true):yx X (.type "list") (λxs H Q=>∃a kvs,xs=[V.ref a]/\H a=some (.dT kvs)/\∀p vs,H p=none->xxc H kvs vs->Q (.ref p) (upd H p (.lst vs))):=by
 intro pins s σ H xs us Q I r h;obtain⟨a,kvs,rfl,e,q⟩:=h;obtain⟨u,rfl,rx⟩:=yg r;cases rx;obtain⟨z,hd,ys,es,ep,ad,as,an⟩:=xzt I.hok e;have Z:es.size=kvs.length:=by rw[<-bc,an,af,bC ad]
 refine kdl_call (xv8 hd) (I.ok.hd hc) as (by rw[Z];exact z) λh' tk ap c' hk hD ab=>?_;have a0:∀(l:List Ag) (J:List (List Key×V)) (U:List (List Key×Aj×Ag)),KT H J U->l.length=J.length->(∀(j:Nat) v,l[j]?=some v->∃y,U[j]?=some y/\v=.ref y.2.1)->∃vs,Vals vs l/\xxc H J vs:=by
  intro l J U rr
  induction rr generalizing l with
  |nil =>
   intro L _;cases l with
   |nil=>exact⟨[],.nil,.nil⟩
   |cons _ _=>simp at L
  |@cons p y ps yss hp t ih =>
   intro L hj;cases l with
   |nil=>simp at L
   |cons v l =>
    obtain⟨y',ey,rfl⟩:=hj 0 v rfl;cases ey;obtain⟨vs,F,W⟩:=ih l (by simpa using L) λj u hu=>by obtain⟨y2,e2,e3⟩:=hj (j+1) u (by simpa using hu);exact⟨y2,by simpa using e2,e3⟩
    exact⟨.ref y.2.1::vs,.cons rfl F,.cons ⟨_,rfl,hp.2.1⟩ W⟩
 obtain⟨vs,F,W⟩:=a0 ap.toList kvs ys ad (by rw[bc,ab.1,Z]) λj v ev=>by
  obtain⟨en,D,rfl⟩:=ab.2 j v (by rw[<-bz];exact ev);rw[<-bz,an,av]at D;cases hy:ys[j]? with
  |none=>rw[hy]at D;cases D
  |some y =>
   rw[hy]at D;have e2:=ak D;exact⟨y,rfl,by rw[<-e2];rfl⟩
 have hv:vs.length<=sizeLine:=by rw[F.length,bc,ab.1,Z];exact z
 exact⟨.ref _,_,I.laid (t':=tk) hk (ai _) (show ObjOk X.prog X.w _ h' _ (.lst vs) from ⟨hv,ap.toList,c',F,by simpa using hD⟩),rfl,q _ _ (I.hok.fresh (ai _)) W⟩
end
end L2
namespace L2
open PySem PySem.Spec PyProof.Rows
theorem xvq {M:Model}{A:Ae}{E:Ag->Ab->Prop}{s:Ab}{scope:Scope}{globals:Aj}{cl:List (Str×Aj)}{qual:Str}{func:Option Aj}{code:Ag}{outer:Env}{builtins:Aj}{x:Str}{Q:Env->Ab->Prop}(hk:scope.kind=.function)
  (hcf:cellsFrom (s.heap.objs.size+1) scope.names cl=(x,s.heap.objs.size+1)::cl) (hpc:pushCells (s.heap.push { cls:=.type "dict",data:=.dict #[] }) scope.names=(s.heap.push { cls:=.type "dict",data:=.dict #[] }).push { cls:=.type "cell",data:=.cell none })
  (hQ:Q (newEnv scope s.heap.objs.size globals ((x,s.heap.objs.size+1)::cl) qual func code (some outer) builtins) { s with heap:=(s.heap.push { cls:=.type "dict",data:=.dict #[] }).push { cls:=.type "cell",data:=.cell none } }) :
  wpAny M A (newFunctionEnv scope globals cl [] qual func code (some outer) builtins) Q E s:=by
 simp only[newFunctionEnv,Option.isSome_some,da];refine ac (wpAny_alloc ?_);refine ac (wpAny_layCells _ (λname kind z=>by cases hkc:kind==NameKind.cell <;> simp[hkc]) _ _ _ _ ?_);rw[show({ s with heap:=s.heap.push { cls:=.type "dict",data:=.dict #[] } }:Ab).heap.objs.size=s.heap.objs.size+1 from cK ..,hcf,hpc];exact ac (ah (ah hQ))
def HasAllK (x:Str)(cl:List (Str×Aj)):List (Str×NameKind)->Prop
 |[]=>True
 |(n,k)::r=>(k=.free->∃c,cl.lookup n=some c)/\(k=.cell->n=x)/\HasAllK x cl r
theorem wqf {x y:Str}{c:Aj}{cl:List (Str×Aj)}(h:∃d,cl.lookup y=some d):∃d,((x,c)::cl).lookup y=some d:=by
 rw[bn];cases y==x with
 |true=>exact⟨c,rfl⟩
 |false=>exact h
theorem HasAllK.has {x:Str}{c:Aj}{cl:List (Str×Aj)}{env:Env}:∀ {ns:List (Str×NameKind)},HasAllK x cl ns->∀ {y:Str} {q:NameKind},q=.cell\/q=.free ->
  (ns.map λ(n,k)=>if(k==NameKind.free&&env.scope.kind==.function&&env.kindOf n==some .cell) then(n,NameKind.cell) else(n,k)).lookup y=some q->∃d,((x,c)::cl).lookup y=some d
 |[],_,_,_,_,e=>by cases e
 |(n,k)::r,h,y,q,hq,e=>by
  have ih:=HasAllK.has (c:=c) (env:=env) h.2.2 (y:=y) hq;rw[aO]at e;by_cases hc:(k==NameKind.free&&env.scope.kind==.function&&env.kindOf n==some .cell)=true
  .have e':=e;dsimp only at e';rw[aw hc,bn]at e';cases hb:y==n with
   |true =>
    rw[cn,cn]at hc;rw[eq_of_beq hb];exact wqf (h.1 (eq_of_beq hc.1.1))
   |false =>
    rw[hb]at e';exact ih e'
  .have e':=e;dsimp only at e';rw[ao hc,bn]at e';cases hb:y==n with
   |true =>
    rw[hb]at e';have ek:k=q:=ak e';rw[eq_of_beq hb];rcases hq with rfl|rfl
    .rw[h.2.1 ek];exact⟨c,by rw[bn,eK]⟩
    .exact wqf (h.1 ek)
   |false =>
    rw[hb]at e';exact ih e'
abbrev y9 (X:Cx)(scope:Scope)(cl:List (Str×Aj))(x:Str)(c:Aj)(M:List Nat)(C:Aj)(s2:Ab)(H2:Hp)(fp:List Aj)(pn:List (Aj×Obj)):Cx :=
 { X with N:=Qs X x M,s₀:=s2,H₀:=H2,env:=compEnvC scope ((x,c)::cl) C X.env,outer:=X.stack,ex:=fp,fn:=λy=>y==x,pn:=pn,xe:=λ_ _=>False }
section
variable {X:Cx}{pins:List (Aj×Obj)}{σ:St}{H:Hp}{s2:Ab}{scope:Scope}{cl:List (Str×Aj)}{x:Str}{c:Aj}{M:List Nat}{fp:List Aj}{C:Aj}{h1:Heap}{tk:Nat}
theorem Inv.compK (I:Inv X pins σ H s2)(hc:CapAll X.env cl)(hh:HasAllK x cl scope.names)(hm:CapIx X scope cl M)(hk:scope.kind=.function)(hnd:(Qs X x M).Nodup)(hC:s2.heap.objs.size<C)(hcC:C<c)(hcl:h1.IsCell c none)
  (keep:∀b o,s2.heap.get? b=some o->h1.get? b=some o) (hn:h1.Ns C λ_=>none) (hD:h1.get? s2.heap.objs.size=some { cls:=.type "list",data:=.seq #[] 0 })
  (hfp:∀b∈fp,vh X pins H b) (hob:∀b∈fp,∃o,s2.heap.get? b=some o) :
  Inv (y9 X scope cl x c M C s2 H fp (X.pn++pins)) [] (zk M σ none) (upd H s2.heap.objs.size (.lst [])) { s2 with heap:=h1,toks:=tk }:=by
 have a4:=I.hok.fresh (a:=s2.heap.objs.size) (ai _);have o:=I.ok;have W:∀y c,cl.lookup y=some c->X.env.cells.lookup y=some c:=λy c e=>hc.look e;have U:∀y d,((x,c)::cl).lookup y=some d->(y=x/\d=c)\/(y≠x/\cl.lookup y=some d):=λy d e=>by
  rw[bn]at e;cases D:y==x with
  |true =>
   rw[D]at e;exact .inl ⟨eq_of_beq D,(ak e).symm⟩
  |false =>
   rw[D]at e;exact .inr ⟨λz=>by rw[z]at D;simp at D,e⟩
 have ap:∀y d,cl.lookup y=some d->d<s2.heap.objs.size:=λy d e=>by obtain⟨v,L,F,J⟩:=I.cell y d (W y d e);exact aj F
 have ab:s2.heap.objs.size<c:=aR hC hcC;have as:∀b∈fp,b<s2.heap.objs.size:=λb D=>by obtain⟨L,e⟩:=hob b D;exact aj e
 have a1:∀b∈fp,b∉frs X.stack:=λb D z=>by
  rcases aC.mp (I.stkSub b z) with z|z
  .exact(hfp b D).2.1 z
  .exact(hfp b D).2.2.1 z
 have a5:H C=none:=I.hok.fresh (ba hC);refine⟨⟨o.mod,hk,o.glob,o.blt,ba hC,λy z d F J=>?_,λy hy=>?_,λy d z e=>?_,o.hd,o.frames,.inl rfl,λb D=>⟨ay (aR (as b D) hC),λy d e=>?_⟩,
  λb L e=>I.bs b L e,bo o.bsz I.sz,λb L e z=>?_,a1,I.stack,I.stkFree⟩,rfl,I.bare,?_,?_,λy d e=>?_,?_,λy d e=>?_,λp hp=>?_,?_,?_⟩
 .rcases U y d F with⟨Z,h1⟩|⟨Z,h1⟩ <;> rcases U z d J with⟨a0,h2⟩|⟨a0,h2⟩
  .exact Z.trans a0.symm
  .exact absurd (ap z d h2) (by rw[h1];exact Nat.not_lt_of_gt ab)
  .exact absurd (ap y d h1) (by rw[h2];exact Nat.not_lt_of_gt ab)
  .exact o.inj y z d (W y d h1) (W z d h2)
 .rcases hy with hy|hy
  .exact hh.has (.inl rfl) hy
  .exact hh.has (.inr rfl) hy
 .rcases U y d e with⟨_,h1⟩|⟨Z,h1⟩
  .rw[h1];exact ba ab
  .exact absurd (eq_of_beq z) Z
 .rcases U y d e with⟨_,h1⟩|⟨Z,h1⟩
  .rw[h1];exact(ay (aR (as b D) ab)).symm
  .exact(hfp b D).2.2.2.2.1 y d (W y d h1)
 .obtain⟨F,J⟩:=I.bs b L e;exact(hfp b z).2.2.2.1.elim (λq=>o.noex b L e q) λq=>by have:=o.bs b L e;exact aN _ (aI (aj this.1) q)
 .exact(Un.laid (fs:=frs X.stack) (ex:=fp) (o:=.lst []) keep (ai _) a4)
 .refine⟨_,hn,λi z v F J e3=>?_⟩;cases i with
  |zero=>cases J
  |succ k =>
   have ad:(M.map λj=>X.N.getD j Str.empty)[k]?=some z:=F;have an:(M.map λj=>(σ[j]?).join)[k]?=some (some v):=J;rw[av]at ad an;cases hj:M[k]? with
   |none=>rw[hj]at ad;cases ad
   |some j =>
    rw[hj]at ad an;obtain⟨y,d,f1,f2,f3,f4⟩:=hm.get hj;have ez:X.N.getD j Str.empty=z:=ak ad;rw[ae,f1]at ez;have a7:y=z:=ez;subst a7;have nx:y≠x:=λz=>by have h0:=List.nodup_iff_pairwise_ne.mp hnd;have h1:x∉M.map λj=>X.N.getD j Str.empty:=λa3=>(List.pairwise_cons.mp h0).1 x a3 rfl;refine h1 (aH.mpr ⟨j,aL hj,?_⟩);rw[ae,f1,<-z];rfl
    have a6:((x,c)::cl).lookup y=some d:=by rw[bn,show(y==x)=false from bZ.mpr nx];exact f4
    have ev:(σ[j]?).join=some v:=ak an;have a8:σ[j]?=some (some v):=by
     cases hs:σ[j]? with
     |none=>rw[hs]at ev;cases ev
     |some w' =>
      rw[hs]at ev;have:w'=some v:=ev;rw[this]
    obtain⟨m,a9,hl⟩:=I.loc;obtain⟨u,r,l⟩:=hl j y v f1 a8 (.inr (.inl f2));refine⟨u,r,.inr ⟨.inl f3,d,a6,?_⟩⟩;rcases l with⟨U,_⟩|⟨_,c',lc,li⟩
    .have:X.env.scope.names.lookup y=some .local:=U;rw[f2]at this;cases this
    .rw[W y d f4]at lc;have:=ak lc;subst this;exact li.keeps keep
 .rcases U y d e with⟨_,rfl⟩|⟨Z,h1⟩
  .exact⟨none,hcl⟩
  .obtain⟨v,hv⟩:=I.cell y d (W y d h1);exact⟨v,hv.keeps keep⟩
 .show upd H s2.heap.objs.size (.lst []) C=none;rw[wv (dJ hC)];exact a5
 .show upd H s2.heap.objs.size (.lst []) d=none;rcases U y d e with⟨_,rfl⟩|⟨Z,h1⟩
  .rw[wv (ay ab).symm];exact I.hok.fresh (ba ab)
  .obtain⟨v,L,F,J⟩:=I.cell y d (W y d h1);rw[wv (ay (aj F))];exact I.freeC y d (W y d h1)
 .have a2:p∈X.pn++pins:=(aY.mp hp).elim (λz=>z) λz=>nomatch z;obtain⟨F,J,e3,e4,e5⟩:=I.pin p a2;refine⟨keep _ _ F,?_,ay (aR (aj F) hC),λz=>?_,e5⟩
  .rw[wv (ay (aj F))];exact J
  .rcases aC.mp (I.stkSub p.1 z) with z|z
   .exact e3 z
   .exact e4 z
 .exact I.hok.laid keep (ai _) ⟨aK _,[],0,.nil,hD⟩
 .show(none::M.map λj=>(σ[j]?).join).length=(x::M.map λj=>X.N.getD j Str.empty).length;rw[aB,aB,af,af]
theorem Inv.uncompK {pins':List (Aj×Obj)}{σ':St}{H':Hp}{s':Ab}{h':Heap}(I:Inv X pins σ H s2)(hC:s2.heap.objs.size<=C)(hfp:∀b∈fp,vh X pins H b)
  (J:Inv (y9 X scope cl x c M C s2 H fp (X.pn++pins)) pins' σ' H' s') (hs:Heap.SameBut C s'.heap h'):Inv X pins σ H' { s' with heap:=h' }:=by
 have D:=J.base;have U:∀b o,s2.heap.get? b=some o->b≠C:=λb o e=>ay (aI (aj e) hC);have st:∀b o,b≠C->s'.heap.get? b=some o->h'.get? b=some o:=λb o n e=>(hs.2 b n).trans e;refine I.call' (s':={ s' with heap:=h' }) (ch:=fp) J.os ⟨λb o e n nb F=>st b o (U b o e) (D.keep b o e n nb F),λb o e n ad F=>?_,D.free,λb o e F=>?_,D.tups,D.frzs,D.tbls⟩ ?_ J.bare λb ab=>?_
 .obtain⟨sl,Z⟩:=D.slot b o e n ad F;exact⟨sl,st b _ (U b o e) Z⟩
 .obtain⟨o',Z⟩:=D.there b o e F;exact⟨o',st b _ (U b o e) Z⟩
 .intro b u W;have fr:H' C=none:=J.free;refine(J.hok b u W).stay (λc v L e=>st c v ?_ e) (λ_ z=>z) λ_ _ z=>z;rcases L with rfl|L
  .intro z;rw[z,fr]at W;cases W
  .intro z;rw[z,fr]at L;cases L
 .obtain⟨q1,q2,q3,q4,q5,q6⟩:=hfp b ab;exact⟨q4,q2,q5,q6⟩
end
section
variable {X:Cx}{elt iter:Expr}{x:Str}{px pos:Pos}{scope:Scope}{cl:List (Str×Aj)}{M:List Nat}{wi:TI}{te:TE}
theorem wy7 (hc:X.calm=true)(hclos:closureFor scope X.env=pure cl)(hcap:CapAll X.env cl)(hhas:HasAllK x cl scope.names)(hix:CapIx X scope cl M)(hk:scope.kind=.function)
  (hnames:∀y∈scope.names,y.2=.local->scope.names.lookup y.1=some .local) (hcf:∀n,cellsFrom n scope.names cl=(x,n)::cl) (hpc:∀h,pushCells h scope.names=h.push { cls:=.type "cell",data:=.cell none }) (hx:(relabel scope X.env).names.lookup x=some .cell) (hnd:(Qs X x M).Nodup) (hi:PI X (.Name x px) iter wi)
  (he:∀C s2 H2 fp pn,PE (y9 X scope cl x (C+1) M C s2 H2 fp pn) elt te) (hs:∀z,foldedSetIterable iter X.env z=pure z)
  {use:Option (Ag->Sem Unit)} {QQ:Ag->Ab->Prop} {pins:List (Aj×Obj)} {s:Ab} {σ:St} {H:Hp} {Q:VK} {ps:Pos} (I:Inv X pins σ H s) (h:wi σ H λJ H1=>Wu J M te σ H1 Q)
  (fin:∀(C:Aj) (s2 s4:Ab) (H1 H2:Hp) (fp:List Aj),Inv X pins σ H1 s2->s2.heap.objs.size<C->(∀b∈fp,vh X pins H1 b)->Inv (y9 X scope cl x (C+1) M C s2 H1 fp (X.pn++pins)) [] (zk M σ none) H2 s4->Q (.ref s2.heap.objs.size) H2 ->
   compPost (model X.prog X.w) X.A X.xe use QQ (.ref s2.heap.objs.size) C (.ok .next) s4) :
  wpAny (model X.prog X.w) X.A (comprehension (.ListComp elt [⟨.Name x px,iter,[],0⟩] scope pos) scope X.env ps (newList []) false (eval iter X.env) use) QQ X.xe s:=by
 refine eS (use:=use) rfl hs hclos hk hnames ?_;refine thn (hi pins s σ H _ I h) λv s1 h1=>thn h1 λa5 s2 h2=>?_;obtain⟨it,fp,tn,J,H1,rfl,Z,T,t0,U,hR⟩:=h2;have ap:∀b∈fp,∃o,s2.heap.get? b=some o/\∀v,o.data≠.cell v:=T.obj 0 _ t0;obtain⟨W,⟨m0,w0⟩,hW⟩:=hR s2.heap.objs.size (Z.hok.fresh (ai _));refine bK ?_;refine xvq (x:=x) hk (hcf _) (hpc _) ?_;dsimp only;generalize hH2:s2.heap.push { cls:=.type "list",dict:=none,data:=.seq ([]:List Ag).toArray }=G2;have hC:G2.objs.size=s2.heap.objs.size+1:=by rw[<-hH2,cK]
 have L:s2.heap.objs.size<G2.objs.size:=by lia
 have kG:∀b o,G2.get? b=some o->((G2.push { cls:=.type "dict",data:=.dict #[] }).push { cls:=.type "cell",data:=.cell none }).get? b=some o:=λb o e=>ag _ (ag _ e);have a0:((G2.push { cls:=.type "dict",data:=.dict #[] }).push { cls:=.type "cell",data:=.cell none }).IsCell (G2.objs.size+1) none:=⟨_,by rw[show G2.objs.size+1=(G2.push { cls:=.type "dict",data:=.dict #[] }).objs.size from (cK ..).symm];exact ax _ rfl,rfl⟩;have as:((G2.push { cls:=.type "dict",data:=.dict #[] }).push { cls:=.type "cell",data:=.cell none }).Ns G2.objs.size λ_=>none:=(Heap.Ns.new G2 (.type "dict")).keeps λb o e=>ag _ e;generalize (G2.push { cls:=.type "dict",data:=.dict #[] }).push { cls:=.type "cell",data:=.cell none }=h3 at kG a0 as;have an:∀b o,s2.heap.get? b=some o->h3.get? b=some o:=λb o e=>kG b o (hH2▸ag _ e);have hD:h3.get? s2.heap.objs.size=some { cls:=.type "list",data:=.seq #[] 0 }:=kG _ _ (hH2▸ax _ rfl);have J0:∀tk,Inv (y9 X scope cl x (G2.objs.size+1) M G2.objs.size s2 H1 fp (X.pn++pins)) [] (zk M σ none) (upd H1 s2.heap.objs.size (.lst [])) { s2 with heap:=h3,toks:=tk }:=λtk =>
  Z.compK hcap hhas hix hk hnd L (dC _) a0 an as hD U λb D=>let ⟨o,e,_⟩:=ap b D;⟨o,e⟩
 have ab:∀b∈fp,b<s2.heap.objs.size:=λb D=>let ⟨o,e,_⟩:=ap b D;aj e;have a3:∀(H2:Hp),(∀b∈fp,H2 b=none)->∀b∈fp,vh (y9 X scope cl x (G2.objs.size+1) M G2.objs.size s2 H1 fp (X.pn++pins)) [] H2 b:=λH2 hn b D=>by
  obtain⟨q1,q2,q3,q4,q5,q6⟩:=U b D;refine⟨hn b D,ay (aR (ab b D) L),λz=>?_,.inl D,λy d e=>?_,λp hp=>q6 p ((aY.mp hp).elim (λz=>z) λz=>nomatch z)⟩
  .rcases aC.mp (Z.stkSub b z) with z|z
   .exact q2 z
   .exact q3 z
  .have F:((x,G2.objs.size+1)::cl).lookup y=some d:=e;rw[bn]at F;cases hb':y==x with
   |true =>
    rw[hb']at F;have:d=G2.objs.size+1:=(ak F).symm;rw[this];exact(ay (aR (aR (ab b D) L) (dC _))).symm
   |false =>
    rw[hb']at F;exact q5 y d (hcap.look F)
 have t3:=T.keep 0 _ _ t0 λb _ o e=>an b o e;have ad:=λtk=>vx (e:=.ListComp elt [⟨.Name x px,iter,[],0⟩] scope pos) (k:=0) (acc:=.ref s2.heap.objs.size) (Y:=y9 X scope cl x (G2.objs.size+1) M G2.objs.size s2 H1 fp (X.pn++pins)) (V:=λi n H2=>∃ys,W i n ys H2) (Qd:=Q (.ref s2.heap.objs.size)) (REST:=qvv elt (.ref s2.heap.objs.size) (compEnvC scope ((x,G2.objs.size+1)::cl) G2.objs.size X.env) _) (post:=compPost (model X.prog X.w) X.A X.xe use QQ (.ref s2.heap.objs.size) G2.objs.size) T hc (λ_ _ z=>z) (compTurn_list1 ..) rfl rfl (wm (i:=0) hnd rfl (.inr hx) (.inl (eK x))) a3 (λi n H2 ⟨ys,w⟩=>by
  obtain⟨hp,hz,a2⟩:=hW i n ys H2 w
  refine a2.imp id λ⟨a1,hy⟩=>⟨a1,λv H3 yl=>⟨λσ4 H4=>σ4=zk M σ (some v)/\H3=H4,⟨rfl,rfl⟩,λ_ _ e=>?_⟩⟩
  obtain⟨rfl,rfl⟩:=e
  refine⟨Qy M σ v,λa4 s' J=>?_⟩
  exact aP (yf (N:=λzs H5=>∃m',m'<n/\W (i+1) m' zs H5) (λ_ _ z=>z) (he _ _ _ _ _) J hz (hy v H3 yl)) (λr s5 ⟨e,H5,J5,zs,m',hm,w'⟩=>⟨e,H5,J5,m',hm,zs,w'⟩) λ_ _ z=>z)
  (λH2 s4 J4 q=>fin G2.objs.size s2 s4 H1 H2 fp Z L U J4 q) (J0 tk) ⟨[],w0⟩ t3 λb D=>by rw[wv (ay (ab b D))];exact(U b D).1
 exact codeAny_compStart_list (ad _) (T.self _ 0 _ _ _ t3 (ad _))
theorem qzm (hc:X.calm=true)(hclos:closureFor scope X.env=pure cl)(hcap:CapAll X.env cl)(hhas:HasAllK x cl scope.names)(hix:CapIx X scope cl M)(hk:scope.kind=.function)
  (hnames:∀y∈scope.names,y.2=.local->scope.names.lookup y.1=some .local) (hcf:∀n,cellsFrom n scope.names cl=(x,n)::cl) (hpc:∀h,pushCells h scope.names=h.push { cls:=.type "cell",data:=.cell none }) (hx:(relabel scope X.env).names.lookup x=some .cell) (hnd:(Qs X x M).Nodup) (hi:PI X (.Name x px) iter wi)
  (he:∀C s2 H2 fp pn,PE (y9 X scope cl x (C+1) M C s2 H2 fp pn) elt te) (hs:autoParam (∀z,foldedSetIterable iter X.env z=pure z) aU3._auto_1) :
  PE X (.ListComp elt [⟨.Name x px,iter,[],0⟩] scope pos) (wjw M wi te):=by
 intro pins s σ H Q I h;rw[ij];refine wy7 hc hclos hcap hhas hix hk hnames hcf hpc hx hnd hi he hs (use:=none) I h λC s2 s4 H1 H2 fp Z U W D J=>?_;obtain⟨m,L,_⟩:=D.loc;exact⟨m,L,λh' F=>⟨.ref s2.heap.objs.size,H2,Z.uncompK (ba U) W D F,rfl,J⟩⟩
end
end L2
namespace L2
open PySem PySem.Spec PyProof.Rows
theorem ww1 {X:Cx}{tg l:Expr}{tl:TE}{K:Aa}(hK:X.K=K)(hl:PE X l tl):PI X tg l (iList K tl):=by subst hK;exact vc hl
def Stay (G:Nat->V->Hp->Prop):Prop:=∀i v H H' p,G i v H->v≠.ref p->(∀b o,b≠p->H b=some o->H' b=some o)->G i v H'
theorem Wj {M:List Nat}{lo:Int}{n:Nat}{te:TE}{σ:St}{H:Hp}{Q:VK}(G:Nat->V->Hp->Prop)(gs:Stay G)(hn:n<=1000000)
  (he:∀(i:Nat) (H':Hp) (R:VK),i<n->Same H H'->(∀v H'',Same H' H''->G i v H''->(∀b,v=.ref b->H' b=none)->R v H'')->te (zk M σ (some (.int (lo+i)))) H' R)
  (k:∀p ys H',H p=none->Same H H'->H' p=some (.lst ys)->ys.length=n->(∀j v,ys[j]?=some v->G j v H'/\v≠.ref p)->Q (.ref p) H'):Wu (Itr lo n) M te σ H Q:=by
 intro p np;refine⟨λi m ys H2=>i<=n/\m=n-i/\ys.length=i/\Same H H2/\H2 p=some (.lst ys)/\∀j v,ys[j]?=some v->G j v H2/\v≠.ref p,⟨n,aK _,rfl,rfl,Same.upd np,qh,λj v e=>by cases e⟩,?_⟩;rintro i m ys H2 ⟨hi,rfl,hy,sm,hp,hG⟩;refine⟨hp,?_,?_⟩
 .have:(1000000:Nat)<sizeLine:=by decide
  lia
 .by_cases hlt:i<n
  .refine .inr ⟨hlt,?_⟩;rintro v H3 ⟨rfl,rfl⟩;refine he i _ _ hlt sm λv J D Z fr=>⟨D _ _ hp,n-(i+1),⋯,⋯,rfl,by rw[ar,hy];rfl,λb o e=>?_,qh,λj w e=>?_⟩
   .rw[wv (wj e np)];exact D _ _ (sm _ _ e)
   .have L:v≠.ref p:=λz=>by have:=fr p z;rw[hp]at this;cases this
    have st:∀b o,b≠p->J b=some o->upd J p (.lst (ys++[v])) b=some o:=λb o F e=>by rw[wv F];exact e
    rcases(bj j ys.length) with z|z
    .rw[aS z]at e;obtain⟨g,U⟩:=hG j w e;exact⟨gs j w _ _ p g U λb o F e=>st b o F (D b o e),U⟩
    .rw[aF z]at e;have W:j=i:=by
      rcases bj (j-ys.length) 1 with y|y
      .lia
      .rw[aG (by simpa using y)]at e;cases e
     subst W;rw[show j-ys.length=0 by lia]at e;have:v=w:=ak e;subst this;exact⟨gs j v J _ p Z L st,L⟩
  .have:i=n:=by lia
   subst this;exact .inl ⟨ai _,k p ys _ np sm hp hy hG⟩
theorem Qh {K:Aa}{M:List Nat}{a:Aj}{xs:List V}{te:TE}{σ:St}{H:Hp}{Q:VK}(G:Nat->V->Hp->Prop)(gs:Stay G)(hS:SqL K H a xs)(hn:xs.length<=1000000)
  (he:∀(i:Nat) (x:V) (H':Hp) (R:VK),xs[i]?=some x->Same H H'->(∀v H'',Same H' H''->G i v H''->(∀b,v=.ref b->H' b=none)->R v H'')->te (zk M σ (some x)) H' R)
  (k:∀p ys H',H p=none->Same H H'->H' p=some (.lst ys)->ys.length=xs.length->(∀j v,ys[j]?=some v->G j v H'/\v≠.ref p)->Q (.ref p) H'):Wu (Itl K a) M te σ H Q:=by
 intro p np;refine⟨λi m ys H2=>i<=xs.length/\m=xs.length-i/\ys.length=i/\Same H H2/\H2 p=some (.lst ys)/\∀j v,ys[j]?=some v->G j v H2/\v≠.ref p,⟨xs.length,aK _,rfl,rfl,Same.upd np,qh,λj v e=>by cases e⟩,?_⟩;rintro i m ys H2 ⟨hi,rfl,hy,sm,hp,hG⟩;have L:SqL K H2 a xs:=Same.sql sm hS;refine⟨hp,?_,?_⟩
 .have:(1000000:Nat)<sizeLine:=by decide
  lia
 .by_cases hlt:i<xs.length
  .have J:xs[i]?=some xs[i]:=aa hlt;refine .inr ⟨⟨xs,_,L,J⟩,?_⟩;rintro v H3 ⟨rfl,hv⟩;have e:=hv xs L;rw[J]at e;have e':=ak e;subst e';refine he i _ _ _ J sm λv U D g4 fr=>⟨D _ _ hp,xs.length-(i+1),⋯,⋯,rfl,by rw[ar,hy];rfl,λb o e=>?_,qh,λj w e=>?_⟩
   .rw[wv (wj e np)];exact D _ _ (sm _ _ e)
   .have W:v≠.ref p:=λz=>by have:=fr p z;rw[hp]at this;cases this
    have st:∀b o,b≠p->U b=some o->upd U p (.lst (ys++[v])) b=some o:=λb o F e=>by rw[wv F];exact e
    rcases(bj j ys.length) with z|z
    .rw[aS z]at e;obtain⟨g,Z⟩:=hG j w e;exact⟨gs j w _ _ p g Z λb o F e=>st b o F (D b o e),Z⟩
    .rw[aF z]at e;have hj:j=i:=by
      rcases bj (j-ys.length) 1 with y|y
      .lia
      .rw[aG (by simpa using y)]at e;cases e
     have e3:[v][j-ys.length]?=some w:=by assumption
     subst hj;rw[show j-ys.length=0 by lia]at e3;have:v=w:=ak e3;subst this;exact⟨gs j v U _ p g4 W st,W⟩
  .have ab:i=xs.length:=by lia
   subst ab;exact .inl ⟨⟨xs,L,ai _⟩,k p ys _ np sm hp hy hG⟩
theorem wvy {K:Aa}{M:List Nat}{a:Aj}{xs:List V}{te:TE}{σ:St}{H:Hp}{Q:VK}(f:V->V)(hf:∀x b,f x≠.ref b)(hS:SqL K H a xs)(hn:xs.length<=1000000)
  (he:∀(x:V) (H':Hp) (R:VK),x∈xs->Same H H'->(∀H'',Same H' H''->R (f x) H'')->te (zk M σ (some x)) H' R)
  (k:∀p H',H p=none->Same H H'->H' p=some (.lst (xs.map f))->Q (.ref p) H'):Wu (Itl K a) M te σ H Q:=by
 refine Qh (λi v _=>∃x,xs[i]?=some x/\v=f x) (λi v H H' p g _ _=>g) hS hn (λi x H' R z s J=>he x H' R (aL z) s λH'' F=>J _ _ F ⟨x,z,rfl⟩ λb e=>absurd e (hf x b)) λp ys H' np s D U L=>?_;have e:ys=xs.map f:=by
  refine b9 λj=>?_;rw[av];cases hj:ys[j]? with
  |none =>
   have:xs[j]?=none:=aG (by have:=eM.mp hj;lia);rw[this];rfl
  |some v =>
   obtain⟨⟨x,z,rfl⟩,_⟩:=L j v hj;rw[z];rfl
 rw[e]at D;exact k p H' np s D
theorem ww6 {M:List Nat}{lo:Int}{n:Nat}{te:TE}{σ:St}{H:Hp}{Q:VK}(f:Nat->V)(hf:∀x b,f x≠.ref b)(hn:n<=1000000)
  (he:∀(i:Nat) (H':Hp) (R:VK),i<n->Same H H'->(∀H'',Same H' H''->R (f i) H'')->te (zk M σ (some (.int (lo+i)))) H' R)
  (k:∀p H',H p=none->Same H H'->H' p=some (.lst ((List.range n).map f))->Q (.ref p) H'):Wu (Itr lo n) M te σ H Q:=by
 refine Wj (λi v _=>v=f i) (λi v H H' p g _ _=>g) hn (λi H' R hi s J=>he i H' R hi s λH'' D=>J _ _ D rfl λb e=>absurd e (hf i b)) λp ys H' np s z U L=>?_;have e:ys=(List.range n).map f:=by
  refine b9 λj=>?_;rw[av];cases hj:ys[j]? with
  |none =>
   have:n<=j:=by have:=eM.mp hj;lia
   rw[aG (by rw[au];exact this)];rfl
  |some v =>
   have F:j<n:=by have:=(al.mp hj).1;lia
   rw[aV F,(L j v hj).1];rfl
 rw[e]at z;exact k p H' np s z
end L2
namespace L2
open PySem PySem.Spec PyProof.Rows
theorem Ws:bootBuiltins "sum" = some (.builtin "sum"):=by decide +kernel
section
variable {X:Cx}{K:Aa}
theorem jt (hK:X.K=K):IxR X (rIxL K):=by subst hK;exact zw
theorem Zy (hK:X.K=K):yx X (.builtin "len") (λxs H Q=>∃p ys,xs=[.ref p]/\(SqL K H p ys\/SqT K H p ys)/\Q (.int ys.length) H):=by subst hK;exact xg
theorem qkq (ns:List Int):∀n,preSum (λi=>ns.getD i 0) n=(ns.take n).sum
 |0=>by simp[preSum]
 |n+1=>by
  rw[preSum,qkq ns n,i8];cases e:ns[n]? with
  |none=>simp[ae,e]
  |some v=>simp[ae,e]
theorem jf (hK:X.K=K)(hc:X.calm=true):yx X (.builtin "sum") (λxs H Q=>∃(p:Aj) (ns:List Int),xs=[.ref p]/\SqL K H p (ns.map V.int)/\Q (.int ns.sum) H):=by
 subst hK;intro pins s σ H xs us Q I r h;obtain⟨p,ns,rfl,hS,q⟩:=h;obtain⟨u,rfl,F⟩:=yg r;cases(show u=Value.ref p from F);obtain⟨D,J,⟨o,n,e1,e2,e3,e4⟩,hz⟩:=I.list hS;have W:s.heap.IsList p D.toArray:=⟨o,e1,e2,n,e4⟩;have L:p<s.heap.objs.size:=aj e1;have U:D.length=ns.length:=by rw[<-J.length,af]
 refine call_sum_walkG (hU W ?_);refine⟨s.heap.objs.size,_,_,_,_,_,λi=>ns.getD i 0,rfl,Walks.list (A:=X.A.in1) (I.ok.hd hc) _ p (ay L) D.toArray,⟨⟨_,ax _ rfl,rfl,rfl⟩,W.push _⟩,λb hb=>?_,λi v hP=>?_,λh' tk t' hk=>?_⟩
 .rcases aC.mp hb with z|z
  .rw[z,cK];exact dC _
  .rw[aQ.mp z,cK];exact eA L
 .have hv:D[i]?=some v:=by simpa using hP
  have hi:i<(ns.map V.int).length:=by rw[af,<-U];exact(al.mp hv).1
  obtain⟨u,Z,F⟩:=J.get (i:=i) (aa hi);rw[hv]at Z;cases Z;rw[fO]at F;obtain⟨t,rfl⟩:=F;rw[af]at hi;exact⟨t,by show Value.int ns[i] t=Value.int (ns.getD i 0) t;rw[ae,aa hi];rfl⟩
 .have e:preSum (λi=>ns.getD i 0) D.toArray.size=ns.sum:=by rw[qkq,aq,U,bq]
  rw[e];refine⟨.int _,H,I.kept λb ob e=>hk b ob (λhm=>?_) (ag _ e),⟨t',rfl⟩,q⟩;have z:b=s.heap.objs.size:=by simpa using hm
  exact aN _ (z▸aj e)
end
def j6 (n:Nat)(g:Nat->Int):List Int:=(List.range n).map g
theorem ww5 (n:Nat)(g:Nat->Int):(j6 n g).length=n:=by unfold j6;rw[af,au]
theorem qzk {n i:Nat}{g:Nat->Int}(h:i<n):(j6 n g)[i]?=some (g i):=by unfold j6;rw[av,aV h];rfl
theorem wqk (n:Nat)(g:Nat->Int):(j6 n g).map V.int=(List.range n).map λi=>V.int (g i):=by unfold j6;rw[aU];rfl
theorem wvn {n:Nat}{f g:Nat->Int}(h:∀i,i<n->f i=g i):j6 n f=j6 n g:=bP λi hi=>h i (am.mp hi)
def MatAt (H:Hp)(p:Aj)(n:Nat)(f:Nat->Nat->Int):Prop:=∃ys,H p=some (.lst ys)/\ys.length=n/\∀i v,ys[i]?=some v->∃q,v=.ref q/\H q=some (.lst ((j6 n (f i)).map V.int))
theorem MatAt.same {H H':Hp}{p:Aj}{n:Nat}{f:Nat->Nat->Int}(h:MatAt H p n f)(s:Same H H'):MatAt H' p n f:=by obtain⟨ys,e,l,r⟩:=h;exact⟨ys,s _ _ e,l,λi v z=>let ⟨q,a,b⟩:=r i v z;⟨q,a,s _ _ b⟩⟩
theorem MatAt.row {H:Hp}{p:Aj}{n:Nat}{f:Nat->Nat->Int}(h:MatAt H p n f){ys:List V}(e:H p=some (.lst ys)){i:Nat}(hi:i<n):∃q,ys[i]?=some (.ref q)/\H q=some (.lst ((j6 n (f i)).map V.int)):=by obtain⟨F,D,l,r⟩:=h;rw[e]at D;cases D;have z:ys[i]?=some ys[i]:=aa ⋯;obtain⟨q,a,b⟩:=r i _ z;exact⟨q,by rw[z,a],b⟩
def jk (n:Nat)(g:Nat->Int):Int:=(j6 n g).sum
theorem v4 (n:Nat)(g:Nat->Int):jk (n+1) g=jk n g+g n:=by unfold jk j6;rw[aT,aA,iW];simp
theorem xzz (n:Nat)(g h:Nat->Int):jk n (λi=>g i+h i)=jk n g+jk n h:=by
 induction n with
 |zero=>rfl
 |succ n ih=>rw[v4,v4,v4,ih];lia
theorem qqw (n:Nat)(g:Nat->Int)(h:∀i,i<n->g i=0):jk n g=0:=by
 induction n with
 |zero=>rfl
 |succ n ih=>rw[v4,ih λi hi=>h i ⋯,h n ⋯];rfl
theorem Qv {n:Nat}{g h:Nat->Int}(e:∀i,i<n->g i=h i):jk n g=jk n h:=by unfold jk;rw[wvn e]
theorem wqp {n i:Nat}(hi:i<n)(g:Nat->Int):jk n (λk=>(if k=i then 1 else 0)*g k)=g i:=by
 induction n with
 |zero=>lia
 |succ n ih =>
  rw[v4];rcases(by lia:i<n\/i=n) with z|z
  .rw[ih z,ao ⋯];lia
  .subst z;rw[aw rfl,qqw _ _ λk D=>by rw[ao ⋯,Int.zero_mul]];lia
theorem wwm {α:Type}(n:Nat)(F:α->Nat->Int):∀L:List α,(L.map λv=>jk n (F v)).sum=jk n λk=>(L.map λv=>F v k).sum
 |[]=>by rw[du,List.sum_nil,qqw];intro i _;rfl
 |v::L=>by rw[aO,cJ,wwm n F L,<-xzz];refine Qv λk _=>?_;rw[aO,cJ]
def zn (cov:Nat->List Int):Nat->Nat->Nat->Int
 |0=>λi j=>if j=i then 1 else 0
 |m+1=>λi j=>((cov i).map λv=>zn cov m v.toNat j).sum
end L2
namespace L2
open PySem PySem.Spec PyProof.Rows
section
variable {X:Cx}{tg:Expr}
end
end L2
namespace L2
open PySem
end L2
namespace L2
open PySem PySem.Spec PyProof.Rows
def tLR1 (ta:TA):TE:=λσ H Q=>ta σ H λvs H1=>∃j:Int,vs=[.int j]/\(-(2 ^ 40)<=j/\j<2 ^ 40)/\j.toNat<=1000000/\∀q,H1 q=none->Q (.ref q) (upd H1 q (.lst ((List.range j.toNat).map λk:Nat=>V.int ((0:Int)+k))))
theorem qz7 {X:Cx}{b:Expr}{ta:TA}{p1 pos1 p2 pos2:Pos}(hc:X.calm=true)(hgl:Gl X "list")(hml:X.mg "list" = none)(hg:Gl X "range")(hm:X.mg "range" = none)(ha:PA X [b] ta)
  (hs:autoParam (starEach [b] X.env=[(false,eval b X.env)]) aU4._auto_1) (hs3:autoParam (starEach [(.Call (.Name "range" p1) [b] [] pos1)] X.env=[(false,eval (.Call (.Name "range" p1) [b] [] pos1) X.env)]) aU4._auto_1) :
  PE X (.Call (.Name "list" p2) [.Call (.Name "range" p1) [b] [] pos1] [] pos2) (tLR1 ta):=by
 intro pins s σ H Q I h;refine ca (jb I hgl hml de ?_);refine bi (e:=.Call (.Name "range" p1) [b] [] pos1) (rest:=[]) ?_ hs3 rfl;rw[hs3];show wpAny _ _ (spliced ((false,eval (.Call (.Name "range" p1) [b] [] pos1) X.env)::[])) _ _ s;refine gD ?_;refine Call_ (jb I hg hm iK (bi (thn (ha pos1 pins s σ H _ I h) λus s1 ⟨vs,H1,I1,r1,q1⟩=>?_) hs rfl));obtain⟨j,e,⟨Z,W⟩,U,q⟩:=q1;subst e;cases r1 with
 |cons r rr =>
   cases rr;obtain⟨t',rfl⟩:=r;refine call_range_1 (hX ?_);have z:Inv X pins σ H1 { s1 with heap:=s1.heap.push { cls:=.type "range",data:=.fields #[.int 0 s1.toks,.int j t',.int 1 (s1.toks+1)] },toks:=s1.toks+1+1 }:=I1.kept λb o e=>ag _ e;refine call_list_range (n:=j.toNat) (z.ok.hd hc) (i3 ..) (small_one ⋯ ⋯ ⋯ ⋯) (by have:=rangeSize_nat 0 j;simpa using this) ⋯ λh' tk L c' D e J=>?_;have F:((List.range j.toNat).map λk:Nat=>V.int ((0:Int)+k)).length<=sizeLine:=by
    rw[af,au];have:(1000000:Nat)<sizeLine:=by decide
    lia
   exact⟨.ref _,_,z.laid (t':=tk) D (ai _) (show ObjOk X.prog X.w _ h' _ (.lst _) from ⟨F,L.toList,c',qx9 J,by simpa using e⟩),rfl,q _ (z.hok.fresh (ai _))⟩
end L2
namespace L2
open PySem PySem.Spec PyProof.Rows
def Qk (X:Cx)(x y:Str)(M:List Nat):List Str:=x::y::M.map λj=>X.N.getD j Str.empty
def xc (M:List Nat)(σ:St)(o o':Option V):St:=o::o'::M.map λj=>(σ[j]?).join
abbrev xx (X:Cx)(scope:Scope)(cl:List (Str×Aj))(x y:Str)(M:List Nat)(C:Aj)(s2:Ab)(H2:Hp)(fp:List Aj)(pn:List (Aj×Obj)):Cx :=
 { X with N:=Qk X x y M,s₀:=s2,H₀:=H2,env:=compEnvC scope cl C X.env,outer:=X.stack,ex:=fp,fn:=λ_=>false,pn:=pn,xe:=λ_ _=>False }
section
variable {X:Cx}{pins:List (Aj×Obj)}{σ:St}{H:Hp}{s2:Ab}{scope:Scope}{cl:List (Str×Aj)}{x y:Str}{M:List Nat}{fp:List Aj}{C:Aj}{h1:Heap}{tk:Nat}
theorem Inv.comp2 (I:Inv X pins σ H s2)(hc:CapAll X.env cl)(hh:HasAll cl scope.names)(hm:CapIx X scope cl M)(hk:scope.kind=.function)(hC:s2.heap.objs.size<C)
  (keep:∀b o,s2.heap.get? b=some o->h1.get? b=some o) (hn:h1.Ns C λ_=>none) (hD:h1.get? s2.heap.objs.size=some { cls:=.type "list",data:=.seq #[] 0 })
  (hfp:∀b∈fp,vh X pins H b) (hob:∀b∈fp,∃o,s2.heap.get? b=some o) :
  Inv (xx X scope cl x y M C s2 H fp (X.pn++pins)) [] (xc M σ none none) (upd H s2.heap.objs.size (.lst [])) { s2 with heap:=h1,toks:=tk }:=I.compG (xs:=[x,y]) hc hh hm hk hC keep hn ⟨aK _,[],0,.nil,hD⟩ hfp hob
theorem Inv.uncomp2 {pins':List (Aj×Obj)}{σ':St}{H':Hp}{s':Ab}{h':Heap}(I:Inv X pins σ H s2)(hC:s2.heap.objs.size<=C)(hfp:∀b∈fp,vh X pins H b)
  (J:Inv (xx X scope cl x y M C s2 H fp (X.pn++pins)) pins' σ' H' s') (hs:Heap.SameBut C s'.heap h'):Inv X pins σ H' { s' with heap:=h' }:=by
 have D:=J.base;have U:∀b o,s2.heap.get? b=some o->b≠C:=λb o e=>ay (aI (aj e) hC);have st:∀b o,b≠C->s'.heap.get? b=some o->h'.get? b=some o:=λb o n e=>(hs.2 b n).trans e;refine I.call' (s':={ s' with heap:=h' }) (ch:=fp) J.os ⟨λb o e n nb F=>st b o (U b o e) (D.keep b o e n nb F),λb o e n ad F=>?_,D.free,λb o e F=>?_,D.tups,D.frzs,D.tbls⟩ ?_ J.bare λb ab=>?_
 .obtain⟨sl,Z⟩:=D.slot b o e n ad F;exact⟨sl,st b _ (U b o e) Z⟩
 .obtain⟨o',Z⟩:=D.there b o e F;exact⟨o',st b _ (U b o e) Z⟩
 .intro b u W;have fr:H' C=none:=J.free;refine(J.hok b u W).stay (λc v L e=>st c v ?_ e) (λ_ z=>z) λ_ _ z=>z;rcases L with rfl|L
  .intro z;rw[z,fr]at W;cases W
  .intro z;rw[z,fr]at L;cases L
 .obtain⟨q1,q2,q3,q4,q5,q6⟩:=hfp b ab;exact⟨q4,q2,q5,q6⟩
end
theorem yz (M:List Nat)(σ:St)(v:V):(xc M σ none none).length=(xc M σ (some v) none).length/\∀(k:Nat) z,(xc M σ none none)[k]?=some (some z)->(xc M σ (some v) none)[k]?=some (some z):=⟨rfl,λk z ez=>by
 match k,ez with
 |0,ez=>cases ez
 |1,ez=>cases ez
 |k+2,ez=>exact ez⟩
theorem yk (M:List Nat)(σ:St)(v:Option V)(u:V):(xc M σ v none).length=(xc M σ v (some u)).length/\∀(k:Nat) z,(xc M σ v none)[k]?=some (some z)->(xc M σ v (some u))[k]?=some (some z):=⟨rfl,λk z ez=>by
 match k,ez with
 |0,ez=>exact ez
 |1,ez=>cases ez
 |k+2,ez=>exact ez⟩
theorem Yf (M:List Nat)(σ:St)(a b:V):(xc M σ none none).length=(xc M σ (some a) (some b)).length/\∀(k:Nat) z,(xc M σ none none)[k]?=some (some z)->(xc M σ (some a) (some b))[k]?=some (some z) :=
 ⟨(yz M σ a).1.trans (yk M σ (some a) b).1,λk z e=>(yk M σ (some a) b).2 k z ((yz M σ a).2 k z e)⟩
def inrS (i1:Expr)(e:Expr)(acc:Ag)(env:Env)(c:Code):Sem PySem.Fin:=eval i1 env >>= λx=>standAt i1.pos >>= λ_=>foldedSetIterable i1 env x >>= λx=>holding [x] (pyIter x) >>= λit1=>runOwn (Code.compStart e 1 it1 acc env) env >>= λ_=>again c
theorem wjk (elt t0 i0 t1 i1:Expr)(ifs:List Expr)(scope:Scope)(pos:Pos)(it acc:Ag)(env:Env):compTurn (elt.ListComp [⟨t0,i0,[],0⟩,⟨t1,i1,ifs,0⟩] scope pos) 0 it acc env=(standAt i0.pos >>= λ_=>pyNext it >>= λr=>match r with|none=>pure (.done .next)|some v=>letOwnedTupleGo t0 it v >>= λ_=>assign t0 env v >>= λ_=>inrS i1 (elt.ListComp [⟨t0,i0,[],0⟩,⟨t1,i1,ifs,0⟩] scope pos) acc env (Code.compLoop (elt.ListComp [⟨t0,i0,[],0⟩,⟨t1,i1,ifs,0⟩] scope pos) 0 it acc env)):=rfl
theorem xkr (elt t0 i0 t1 i1:Expr)(scope:Scope)(pos:Pos)(it acc:Ag)(env:Env):compTurn (elt.ListComp [⟨t0,i0,[],0⟩,⟨t1,i1,[],0⟩] scope pos) 1 it acc env=(standAt i1.pos >>= λ_=>pyNext it >>= λr=>match r with|none=>pure (.done .next)|some v=>letOwnedTupleGo t1 it v >>= λ_=>assign t1 env v >>= λ_=>qvv elt acc env (Code.compLoop (elt.ListComp [⟨t0,i0,[],0⟩,⟨t1,i1,[],0⟩] scope pos) 1 it acc env)):=rfl
theorem xk5 {prog:Ac}{w:Ah}{A:Ae}{R:Result->Ab->Prop}{s:Ab}{elt t0 i0 t1 i1:Expr}{scope:Scope}{pos:Pos}{it acc:Ag}{env:Env}{ifs:List Expr}
  (h1:codeAny (model prog w) A (Code.compLoop (elt.ListComp [⟨t0,i0,[],0⟩,⟨t1,i1,ifs,0⟩] scope pos) 1 it acc env) R s)
  (h2:∀(E:Ag->Ab->Prop),wpAny (model prog w) A (pyIter it) (λit' s'=>codeAny (model prog w) A (Code.compLoop (elt.ListComp [⟨t0,i0,[],0⟩,⟨t1,i1,ifs,0⟩] scope pos) 1 it' acc env) R s') E s) :
  codeAny (model prog w) A (Code.compStart (elt.ListComp [⟨t0,i0,[],0⟩,⟨t1,i1,ifs,0⟩] scope pos) 1 it acc env) R s:=by
 refine codeAny_of_tree ?_;show wpAny (model prog w) _ ((compStart (elt.ListComp [⟨t0,i0,[],0⟩,⟨t1,i1,ifs,0⟩] scope pos) 1 it acc env).onRaise (λz=>do noteFrame z env;standAt theWindowsPlace)) _ _ s;refine wpAny_onRaise ?_;unfold compStart;rw[ao (show ¬ ((clausesOf (elt.ListComp [⟨t0,i0,[],0⟩,⟨t1,i1,ifs,0⟩] scope pos))[1]?.elim false λx=>x.is_async != 0)=true from aJ)];refine ac (eL ?_);split
 .exact ah ⟨rfl,h1⟩
 .refine ac (eC ?_);show wpAny _ _ (standAt i1.pos >>= λ_=>pyIter it >>= λz=>again (Code.compLoop (elt.ListComp [⟨t0,i0,[],0⟩,⟨t1,i1,ifs,0⟩] scope pos) 1 z acc env)) _ _ s;refine ac (cw (ac (aP (h2 _) (λz s' D=>ah ⟨rfl,D⟩) λ_ _ e=>e)))
theorem wwc {Y:Cx}{elt iter2 t0 i0 t1:Expr}{ifs:List Expr}{scope:Scope}{pos:Pos}{wi2:TI}{p:Aj}{c:Code}{σ:St}{H:Hp}{pins:List (Aj×Obj)}{s:Ab}{R2:It->Hp->Prop}{Post:Ab->Prop}(hi2:PI Y t1 iter2 wi2)(hs2:∀z,foldedSetIterable iter2 Y.env z=pure z)(J:Inv Y pins σ H s)(h:wi2 σ H R2)
  (go:∀(it2:Aj) (fp2:List Aj) (tn2:Nat->Heap->Prop) (J2:It) (H8:Hp) (s8:Ab),Inv Y pins σ H8 s8->Turn Y.prog Y.w Y.K t1 J2 fp2 it2 tn2->tn2 0 s8.heap->(∀b∈fp2,vh Y pins H8 b)->R2 J2 H8 ->
   codeAny (model Y.prog Y.w) Y.A (.compLoop (elt.ListComp [⟨t0,i0,[],0⟩,⟨t1,iter2,ifs,0⟩] scope pos) 1 (.ref it2) (.ref p) Y.env) (λr s'=>match r with|.ok _=>Post s'|.error _=>False) s8) :
  wpAny (model Y.prog Y.w) Y.A (inrS iter2 (elt.ListComp [⟨t0,i0,[],0⟩,⟨t1,iter2,ifs,0⟩] scope pos) (.ref p) Y.env c) (λr s5=>r=Fin.again c/\Post s5) Y.xe s:=by
 refine ac (aP (hi2 _ s _ H _ J h) (λv1 s7 h7=>?_) λ_ _ z=>z);refine ac (cw ?_);rw[hs2];refine ac (ah (ac (bY (aP h7 (λab s8 h8=>?_) λ_ _ z=>z))));obtain⟨it2,fp2,tn2,Jb,H8,rfl,I8,U,D,W,Z⟩:=h8;refine ac (wpAny_runOwn ?_);have F:=go it2 fp2 tn2 Jb H8 s8 I8 U D W Z;refine dL (xk5 F λE2=>U.self _ 0 _ _ _ D F) λr s' L=>?_;cases r with
 |ok f=>exact ah ⟨rfl,L⟩
 |error e=>exact L.elim
def InnR (J2:It)(M:List Nat)(te:TE)(σ:St)(v:V)(p:Aj)(ys:List V)(H4:Hp)(Wx:List V->Hp->Prop):Prop:=∃W2:Nat->Nat->List V->Hp->Prop,(∃m2,W2 0 m2 ys H4) /\
 ∀j m2 zs H5,W2 j m2 zs H5->H5 p=some (.lst zs)/\zs.length<sizeLine/\((J2.stop j H5/\Wx zs H5)\/(J2.go j H5/\∀u H6,J2.yld j H5 u H6 ->
  te (xc M σ (some v) (some u)) H6 λy H7=>H7 p=some (.lst zs)/\∃m2',m2'<m2/\W2 (j+1) m2' (zs++[y]) (upd H7 p (.lst (zs++[y])))))
def wz3 (J:It)(M:List Nat)(wi2:TI)(te:TE)(σ:St)(H1:Hp)(Q:VK):Prop:=∀p,H1 p=none->∃W:Nat->Nat->List V->Hp->Prop,(∃m,W 0 m [] (upd H1 p (.lst []))) /\
 ∀i m ys H2,W i m ys H2->H2 p=some (.lst ys)/\((J.stop i H2/\Q (.ref p) H2)\/(J.go i H2/\∀v H3,J.yld i H2 v H3 ->
  wi2 (xc M σ (some v) none) H3 λJ2 H4=>InnR J2 M te σ v p ys H4 λzs H5=>∃m',m'<m/\W (i+1) m' zs H5))
def tComp2 (M:List Nat)(wi wi2:TI)(te:TE):TE:=λσ H Q=>wi σ H λJ H1=>wz3 J M wi2 te σ H1 Q
section
variable {X:Cx}{elt iter iter2:Expr}{x y:Str}{px py pos:Pos}{scope:Scope}{cl:List (Str×Aj)}{M:List Nat}{wi wi2:TI}{te:TE}
theorem xqq (hc:X.calm=true)(hclos:closureFor scope X.env=pure cl)(hcap:CapAll X.env cl)(hhas:HasAll cl scope.names)(hix:CapIx X scope cl M)(hk:scope.kind=.function)
  (hnames:∀y∈scope.names,y.2=.local->scope.names.lookup y.1=some .local) (hx:scope.names.lookup x=some .local) (hy:scope.names.lookup y=some .local) (hnd:(Qk X x y M).Nodup) (hi:PI X (.Name x px) iter wi)
  (hi2:∀C s2 H2 fp pn,PI (xx X scope cl x y M C s2 H2 fp pn) (.Name y py) iter2 wi2)
  (he:∀C s2 H2 fp pn,PE (xx X scope cl x y M C s2 H2 fp pn) elt te) (hs:∀z,foldedSetIterable iter X.env z=pure z) (hs2:∀env z,foldedSetIterable iter2 env z=pure z)
  {use:Option (Ag->Sem Unit)} {QQ:Ag->Ab->Prop} {pins:List (Aj×Obj)} {s:Ab} {σ:St} {H:Hp} {Q:VK} {ps:Pos} (I:Inv X pins σ H s) (h:wi σ H λJ H1=>wz3 J M wi2 te σ H1 Q)
  (fin:∀(C:Aj) (s2 s4:Ab) (H1 H2:Hp) (fp:List Aj),Inv X pins σ H1 s2->s2.heap.objs.size<C->(∀b∈fp,vh X pins H1 b)->Inv (xx X scope cl x y M C s2 H1 fp (X.pn++pins)) [] (xc M σ none none) H2 s4->Q (.ref s2.heap.objs.size) H2 ->
   compPost (model X.prog X.w) X.A X.xe use QQ (.ref s2.heap.objs.size) C (.ok .next) s4) :
  wpAny (model X.prog X.w) X.A (comprehension (.ListComp elt [⟨.Name x px,iter,[],0⟩,⟨.Name y py,iter2,[],0⟩] scope pos) scope X.env ps (newList []) false (eval iter X.env) use) QQ X.xe s:=by
 refine yc hclos hhas hk hnames hi hs I h λit fp tn J H1 s2 C h3 tk I2 T t3 Z as a7 hR ad a2 a8 hD=>?_;obtain⟨W,⟨m0,w0⟩,hW⟩:=hR s2.heap.objs.size (I2.hok.fresh (ai _));have ap:(relabel scope X.env).names.lookup x=some .local:=cG hx;have an:(relabel scope X.env).names.lookup y=some .local:=cG hy;have hT:=hi2 C s2 H1 fp (X.pn++pins);have hE:=he C s2 H1 fp (X.pn++pins);have g0:PG (xx X scope cl x y M C s2 H1 fp (X.pn++pins)) (.Name x px) (jp 0):=wm (i:=0) hnd rfl (.inl ap) (.inr ap);have g1:PG (xx X scope cl x y M C s2 H1 fp (X.pn++pins)) (.Name y py) (jp 1):=wm (i:=1) hnd rfl (.inl an) (.inr an);have fo:=uq (N:=Qk X x y M) (scope:=scope) hcap I2 ad Z as;have I0:=I2.comp2 (x:=x) (y:=y) (tk:=tk) hcap hhas hix hk ad a2 a8 hD Z a7;have fn:=λH2 s4 J4 q=>fin C s2 s4 H1 H2 fp I2 ad Z J4 q;refine vx (Y:=xx X scope cl x y M C s2 H1 fp (X.pn++pins)) (V:=λi n H2=>∃ys,W i n ys H2) (Qd:=Q (.ref s2.heap.objs.size)) (REST:=inrS iter2 _ (.ref s2.heap.objs.size) (compEnvC scope cl C X.env) _) T hc (λ_ _ z=>z) (wjk ..) rfl rfl g0 fo (λi n H2 ⟨ys,w⟩=>?_) fn I0 ⟨[],w0⟩ t3 λb L=>by rw[wv (ay (as b L))];exact(Z b L).1
 obtain⟨hp,bk⟩:=hW i n ys H2 w;refine bk.imp id λ⟨bb,a4⟩=>⟨bb,λv H3 yl=>⟨λσ4 H4=>σ4=xc M σ (some v) none/\H3=H4,⟨rfl,rfl⟩,λ_ _ e=>?_⟩⟩;obtain⟨rfl,rfl⟩:=e;refine⟨yz M σ v,λbm s' J=>?_⟩;refine wwc hT (hs2 _) J (a4 v H3 yl) λit2 fp2 tn2 J2 H8 s8 I8 T2 t8 hfp2 ⟨W2,⟨m2,w2⟩,hW2⟩=>?_;refine vx (Y:=xx X scope cl x y M C s2 H1 fp (X.pn++pins)) (V:=λj U F=>∃zs,W2 j U zs F) (Qd:=λF=>∃zs D,D<n/\W (i+1) D zs F) (REST:=qvv elt (.ref s2.heap.objs.size) (compEnvC scope cl C X.env) _) T2 hc (λ_ _ z=>z) (xkr ..) rfl rfl g1 (λF hn b L=>⟨hn b L,(hfp2 b L).2⟩) (λj U F ⟨zs,w9⟩=>?_)
  (λF s9 J9 ⟨zs,D,ab,wq⟩=>⟨F,J9,D,ab,zs,wq⟩) I8 ⟨ys,w2⟩ t8 λb L=>(hfp2 b L).1
 obtain⟨bs,a3,bd⟩:=hW2 j U zs F w9;refine bd.imp (λ⟨a6,D,ab,wq⟩=>⟨a6,zs,D,ab,wq⟩) λ⟨a9,a5⟩=>⟨a9,λu a0 a1=>⟨λσ4 H4=>σ4=xc M σ (some v) (some u)/\a0=H4,⟨rfl,rfl⟩,λ_ _ e=>?_⟩⟩;obtain⟨rfl,rfl⟩:=e;refine⟨yk M σ (some v) u,λbl s9 J9=>?_⟩;exact aP (yf (N:=λzs H5=>∃D,D<U/\W2 (j+1) D zs H5) (λ_ _ z=>z) hE J9 a3 (a5 u a0 a1)) (λr s5 ⟨e,H5,J5,zs,D,hm,w'⟩=>⟨e,H5,J5,D,hm,zs,w'⟩) λ_ _ z=>z
end
section
variable {X:Cx}{elt iter iter2:Expr}{x y2:Str}{px py2 pos:Pos}{scope:Scope}{cl:List (Str×Aj)}{M:List Nat}{wi wi2:TI}{te:TE}
theorem _root_.aU7 (h:True:=by intros;rfl):True:=h
theorem wqh {i:Nat}{y:Str}{py spos:Pos}(hN:X.N.Nodup)(hyi:X.N[i]?=some y)(hyl:Loc X.env.scope y)(hc:X.calm=true)(hclos:closureFor scope X.env=pure cl)(hcap:CapAll X.env cl)(hhas:HasAll cl scope.names)(hix:CapIx X scope cl M)(hk:scope.kind=.function)
  (hnames:∀y∈scope.names,y.2=.local->scope.names.lookup y.1=some .local) (hx:scope.names.lookup x=some .local) (hy2:scope.names.lookup y2=some .local) (hnd:(Qk X x y2 M).Nodup) (hi:PI X (.Name x px) iter wi) (hi2:∀C s2 H2 fp pn,PI (xx X scope cl x y2 M C s2 H2 fp pn) (.Name y2 py2) iter2 wi2)
  (he:∀C s2 H2 fp pn,PE (xx X scope cl x y2 M C s2 H2 fp pn) elt te) (hs:autoParam (∀z,foldedSetIterable iter X.env z=pure z) aU3._auto_1) (hs2:autoParam (∀env z,foldedSetIterable iter2 env z=pure z) aU7._auto_1)
  (hsw:autoParam (swapsWith (.ListComp elt [⟨.Name x px,iter,[],0⟩,⟨.Name y2 py2,iter2,[],0⟩] scope pos) (some (.Name y py)) spos.line X.env=pure true) aU4._auto_1) (hyf:autoParam (X.fn y=true\/X.env.scope.names.lookup y=some .local) aU0._auto_1) :
  PS X (.Assign [.Name y py] (.ListComp elt [⟨.Name x px,iter,[],0⟩,⟨.Name y2 py2,iter2,[],0⟩] scope pos) spos) (wx8 (tComp2 M wi wi2 te) (jp i)):=by
 intro pins s σ H D I h;rw[d7 _ _ _ _ hsw];refine ac (cw (ac ?_));refine ac (aP (xqq hc hclos hcap hhas hix hk hnames hx hy2 hnd hi hi2 he hs hs2 (use:=some (assign (.Name y py) X.env)) (QQ:=λ_ s'=>SP X pins D .next s') I h λC s2 W H1 H2 fp J L a1 J4 hq=>?_) (λ_ s' hq=>ah (ah hq)) λ_ _ e=>e);have F:Inv X pins σ H2 W:=J.uncomp2 (h':=W.heap) (ba L) a1 J4 (fB _ _);have an:H2 C=none:=J4.free;obtain⟨mC,a0,_⟩:=J4.loc;obtain⟨Z,a7,a8,as,ad⟩:=id a0;have ab:C≠X.env.locals:=λz=>aN _ (aR L (z▸J.lt));have a3:X.s₀.heap.objs.size<=C:=bo J.sz (ba L);have a5:∀y c,X.env.cells.lookup y=some c->c≠C:=λy c e z=>by obtain⟨v,o,U,_⟩:=J.cell y c e;exact aN _ (aR L (z▸aj U))
 have a4:∀p∈X.pn++pins,p.1≠C:=λp hp z=>aN _ (aR L (z▸aj (J.pin p hp).1));have bb:C∉frs X.stack:=λz=>by
  rcases aC.mp (J.stkSub C z) with q|q
  .exact ab q
  .obtain⟨_,o,U,_⟩:=J.funs.mem (b:=C) q;exact aN _ (aR L (aj U))
 have a2:C∉X.fs:=λz=>by obtain⟨_,o,U,_⟩:=J.funs.mem (b:=C) z;exact aN _ (aR L (aj U))
 have a9:Inv X (pins++[(C,Z)]) σ H2 W:=⟨F.ok,F.os,F.bare,F.base,F.loc,F.cell,F.free,F.freeC,λp hp=>by
  rcases aY.mp hp with q|q
  .exact F.pin p (bD _ q)
  .rcases aY.mp q with q|q
   .exact F.pin p (az _ q)
   .rw[aQ.mp q]
    exact⟨as,an,ab,a2,λv z=>by rw[ad.1]at z;cases z⟩,F.hok,F.len⟩
 show wpAny _ _ (assign (.Name y py) X.env (.ref s2.heap.objs.size)) _ _ _;refine ee (jz a9 hN hyi hyl (show RelV (.ref s2.heap.objs.size) (.ref s2.heap.objs.size) from rfl) (λs5 I5=>?_) hyf);have a6:=(I5.pin (C,Z) (az _ (az _ (.head _)))).1;exact⟨mC,⟨Z,a7,a8,a6,ad⟩,λh' ap=>⟨_,H2,I5.unpinned.but an a3 ab a5 a4 ap,hq⟩⟩
end
theorem wxw {M:List Nat}{lo lo2:Int}{n k:Nat}{wi2:TI}{te:TE}{σ:St}{H:Hp}{Q:VK}(f:Nat->Nat->V)(hn:n*k<=1000000)(hw:∀(i:Nat) (H':Hp) (R:It->Hp->Prop),i<n->Same H H'->(∀H'',Same H' H''->R (Itr lo2 k) H'')->wi2 (xc M σ (some (.int (lo+i))) none) H' R)
  (he:∀(i j:Nat) (H':Hp) (R:VK),i<n->j<k->Same H H'->(∀H'',Same H' H''->R (f i j) H'')->te (xc M σ (some (.int (lo+i))) (some (.int (lo2+j)))) H' R)
  (kf:∀p H',H p=none->Same H H'->H' p=some (.lst ((List.range n).map λi=>(List.range k).map (f i)).flatten)->Q (.ref p) H'):wz3 (Itr lo n) M wi2 te σ H Q:=by
 have U:∀i,(((List.range i).map λi=>(List.range k).map (f i)).flatten).length=i*k:=by
  intro i
  induction i with
  |zero=>simp
  |succ i ih =>
   rw[aT,aA,eP,ar,ih];simp[Nat.succ_mul]
 have Z:(1000000:Nat)<sizeLine:=by decide
 intro p np;have L:∀ {H':Hp} {o:HO},Same H H'->Same H (upd H' p o):=λs b u e=>by rw[wv (wj e np)];exact s b u e
 refine⟨λi m ys H2=>i<=n/\m=n-i/\ys=((List.range i).map λi=>(List.range k).map (f i)).flatten/\Same H H2/\H2 p=some (.lst ys),⟨n,aK _,rfl,rfl,Same.upd np,qh⟩,?_⟩;rintro i m ys H2 ⟨hi,rfl,rfl,s2,f2⟩;refine⟨f2,?_⟩;by_cases hlt:i<n
 .refine .inr ⟨hlt,?_⟩;rintro v H3 ⟨rfl,rfl⟩;have W:i*k+k<=n*k:=by have:=Nat.mul_le_mul_right k (show i+1<=n by lia);rwa [Nat.succ_mul]at this
  refine hw i H3 _ hlt s2 λH4 F=>⟨λj J zs z=>j<=k/\J=k-j/\zs=((List.range i).map λi=>(List.range k).map (f i)).flatten++(List.range j).map (f i)/\Same H z/\z p=some (.lst zs),⟨k,aK _,rfl,by simp,s2.trans F,F _ _ f2⟩,?_⟩;rintro j J zs z ⟨hj,rfl,rfl,s5,f5⟩;refine⟨f5,by rw[ar,U,af,au];lia,?_⟩;by_cases hjk:j<k
  .refine .inr ⟨hjk,?_⟩;rintro u H6 ⟨rfl,rfl⟩;refine he i j H6 _ hlt hjk s5 λH7 D=>⟨D _ _ f5,k-(j+1),⋯,⋯,rfl,?_,L (s5.trans D),qh⟩;rw[aT,aA,fE];rfl
  .have:j=k:=by lia
   subst this;refine .inl ⟨ai _,n-(i+1),⋯,⋯,rfl,?_,s5,f5⟩;rw[aT,aA,eP];simp
 .have:i=n:=by lia
  subst this;exact .inl ⟨ai _,kf p H2 np s2 f2⟩
end L2
namespace L2
open PySem PySem.Spec PyProof.Rows
theorem W1 {X:Cx}{K:Aa}(hK:X.K=K):IxR X (rIxT K):=by subst hK;exact k6
end L2
namespace L2
open PySem PySem.Spec PyProof.Rows
section
variable {X:Cx}{pins:List (Aj×Obj)}{σ:St}{H:Hp}{s:Ab}{h':Heap}{ch:List Aj}
theorem Inv.turnedL {tk:Nat}(I:Inv X pins σ H s)(hk:∀b u,b∉ch->s.heap.get? b=some u->h'.get? b=some u)(hf:∀b∈ch,vh X pins H b):Inv X pins σ H { s with heap:=h',toks:=tk }:=by
 refine I.call' (s':={ s with heap:=h',toks:=tk }) (ch:=ch) rfl ⟨λb o e n _ D=>hk b o D e,λb o e n _ D=>⟨o.slots,hk b o D e⟩,λb o e n _=>n,λb o e D=>⟨o,hk b o D e⟩,λ_ _ e=>e,λ_ _ _ e=>e,λb ps e=>⟨#[],by rw[e];simp⟩⟩ ?_ I.bare λb hb=>?_
 .intro b u J;refine(I.hok b u J).stay (λc v F e=>hk c v (λz=>?_) e) (λ_ z=>z) λ_ _ z=>z;have:=(hf c z).1;rcases F with rfl|F
  .rw[this]at J;cases J
  .rw[this]at F;cases F
 .obtain⟨q1,Z,q3,W,U,L⟩:=hf b hb;exact⟨W,Z,U,L⟩
theorem Inv.turnedT {tk:Nat}{o:HO}{ob:Obj}(I:Inv X pins σ H s)(hk:∀b u,b∉ch->s.heap.get? b=some u->h'.get? b=some u)(hn:h'.get? s.heap.objs.size=some ob)(hf:∀b∈ch,vh X pins H b)(hc:∀b∈ch,b≠s.heap.objs.size)
  (ok:ObjOk X.prog X.w (upd H s.heap.objs.size o) (s.heap.push ob) s.heap.objs.size o) (fr:ob.isFreed=false):Inv X pins σ (upd H s.heap.objs.size o) { s with heap:=h',toks:=tk }:=by
 have J:Inv X pins σ (upd H s.heap.objs.size o) { s with heap:=s.heap.push ob,toks:=tk }:=I.laid (t':=tk) (λb u e=>ag _ e) (ai _) ok;refine Inv.turnedL (s:={ s with heap:=s.heap.push ob,toks:=tk }) (ch:=ch) J (λb u F e=>?_) λb z=>?_
 .rcases Heap.get?_push_cases e with⟨rfl,rfl⟩|e
  .exact hn
  .exact hk b u F e
 .obtain⟨D,q⟩:=hf b z;exact⟨by rw[wv (hc b z)];exact D,q⟩
theorem wkq {x y:V}{u v:Ag}(I:Inv X pins σ H s)(rx:RelV x u)(ry:RelV y v):ObjOk X.prog X.w (upd H s.heap.objs.size (.tup [x,y])) (s.heap.push { cls:=.type "tuple",data:=.seq #[u,v] }) s.heap.objs.size (.tup [x,y]):=by refine⟨by show 2<=sizeLine;decide,[u,v],.cons rx (.cons ry .nil),?_⟩;exact⟨_,ax _ rfl,rfl,_,rfl⟩
end
def ItZ (K:Aa)(a b:Aj)(xs ys:List V):It :=
 ⟨λi H=>SqL K H a xs/\SqL K H b ys/\i<xs.length/\i<ys.length,λi H v H'=>∃q x y,H q=none/\v=.ref q/\xs[i]?=some x/\ys[i]?=some y/\H'=upd H q (.tup [x,y]),λi H=>SqL K H a xs/\SqL K H b ys/\(xs.length<=i\/ys.length<=i)⟩
theorem xzx {P:Ac}{w:Ah}{K:Aa}{es:List Expr}{k:Nat}{pos:Pos}(a b z TI TO i1 i2:Aj)(xs ys:List V)(ap:ZipApart z TI TO i1 i2 a b):Turn P w K (.Tuple es k pos) (ItZ K a b xs ys) [z,TI,TO,i1,i2] z
  (λi h=>IsZip h z TI TO .none/\IsPair h TI (.ref i1) (.ref i2)/\(∃u v,IsPair h TO u v)/\h.IsListIter i1 a i/\h.IsListIter i2 b i) where
 mem:=by simp
 obj:=λi h st c hc=>by
  obtain⟨h1,h2,⟨u,v,h3⟩,⟨o4,h4,c4,d4⟩,⟨o5,h5,c5,d5⟩⟩:=st;have hc':c=z\/c=TI\/c=TO\/c=i1\/c=i2:=by simpa using hc
  rcases hc' with rfl|rfl|rfl|rfl|rfl
  .exact⟨_,h1,λv z=>by cases z⟩
  .exact⟨_,h2,λv z=>by cases z⟩
  .exact⟨_,h3,λv z=>by cases z⟩
  .exact⟨_,h4,λv z=>by rw[d4]at z;cases z⟩
  .exact⟨_,h5,λv z=>by rw[d5]at z;cases z⟩
 keep:=λi h h' st k=>by obtain⟨h1,h2,⟨u,v,h3⟩,h4,h5⟩:=st;exact⟨k z (by simp) _ h1,k TI (by simp) _ h2,⟨u,v,k TO (by simp) _ h3⟩,h4.at λo e=>k i1 (by simp) o e,h5.at λo e=>k i2 (by simp) o e⟩
 item:=by
  intro X hP hw hK hc i pins s σ H E I hf st hg;subst hP hw hK;obtain⟨hq1,hq2,l1,l2⟩:=hg;obtain⟨its,rv,p,hz⟩:=I.list hq1;obtain⟨its2,rv2,p2,hz2⟩:=I.list hq2;have e1:xs[i]?=some xs[i]:=aa l1;have e2:ys[i]?=some ys[i]:=aa l2;obtain⟨u,hu,ru⟩:=rv.get e1;obtain⟨v,hv,rv'⟩:=rv2.get e2;obtain⟨h1,h2,⟨a0,b0,h3⟩,h4,h5⟩:=st;refine wpAny_pyNext_zip_item ap h1 h2 h3 h4 h5 p.isList p2.isList (x:=u) (y:=v) (by simpa using hu) (by simpa using hv) λh' g1 g2 g3 g4 g5 g6 g7=>?_;refine⟨_,rfl,wpAny_letOwnedTupleGo_zip (s:={ s with heap:=h' }) g1 λh'' f1 f2=>?_⟩;have hsz:∀c,c∈[z,TI,TO,i1,i2]->c≠s.heap.objs.size:=λc hc e=>by
   have hc':c=z\/c=TI\/c=TO\/c=i1\/c=i2:=by simpa using hc
   have hlt:c<s.heap.objs.size:=by
    rcases hc' with rfl|rfl|rfl|rfl|rfl
    .exact aj h1
    .exact aj h2
    .exact aj h3
    .obtain⟨o,e,_⟩:=h4;exact aj e
    .obtain⟨o,e,_⟩:=h5;exact aj e
   exact aN _ (e▸hlt)
  have keep:∀c o,c∉[z,TI,TO,i1,i2]->s.heap.get? c=some o->h''.get? c=some o:=λc o nc e=>by simp only[aC,fQ,or_false,not_or]at nc;rw[f2.2 c nc.1];exact g7 c o nc.1 nc.2.2.1 nc.2.2.2.1 nc.2.2.2.2 e
  have keepz:∀c o,c≠z->h'.get? c=some o->h''.get? c=some o:=λc o nc e=>(f2.2 c nc).trans e;have new:h''.get? s.heap.objs.size=some { cls:=.type "tuple",data:=.seq #[u,v] }:=keepz _ _ (cV (hsz z (by simp))) g5;have hTI:h''.get? TI=some { cls:=.type "tuple",data:=.seq #[.ref i1,.ref i2] }:=by refine keepz _ _ ap.TIz ?_;exact g7 TI _ ap.TIz ap.TITO ap.TIi1 ap.TIi2 h2
  refine⟨.ref s.heap.objs.size,_,Inv.turnedT (s:=s) (ch:=[z,TI,TO,i1,i2]) (tk:=s.toks) I keep new hf hsz (wkq I ru rv') rfl,rfl,⟨_,_,_,I.hok.fresh (ai _),rfl,e1,e2,rfl⟩,⟨f1,hTI,⟨u,v,keepz _ _ ap.TOz g2⟩,g3.at λo e=>keepz _ _ ap.i1z e,g4.at λo e=>keepz _ _ ap.i2z e⟩,λc hc=>?_⟩;rw[wv (hsz c hc)];exact(hf c hc).1
 done:=by
  intro X hP hw hK hc i pins s σ H E I hf st hg;subst hP hw hK;obtain⟨hq1,hq2,le⟩:=hg;obtain⟨its,rv,p,hz⟩:=I.list hq1;obtain⟨its2,rv2,p2,hz2⟩:=I.list hq2;have hl:=rv.length;have hl2:=rv2.length;obtain⟨h1,h2,⟨a0,b0,h3⟩,h4,h5⟩:=st;refine wpAny_pyNext_zip_end (I.ok.hd hc) ap h1 h2 h3 h4 h5 p.isList p2.isList ?_ λh' g=>⟨rfl,Inv.turnedL (ch:=[z,TI,TO,i1,i2]) (tk:=s.toks) I (λc o nc e=>?_) hf⟩
  .rcases le with le|le
   .exact .inl (cL (by rw[aq];lia))
   .exact .inr (cL (by rw[aq];lia))
  .simp only[aC,fQ,or_false,not_or]at nc;exact g c o nc.1 nc.2.2.1 nc.2.2.2.1 nc.2.2.2.2 e
 self:=λ_ _ _ _ _ st h=>wpAny_pyIter_zip st.1 h
section
variable {X:Cx}
def iZip (K:Aa)(ta:TA):TI:=λσ H R=>ta σ H λvs H1=>∃a b xs ys,vs=[.ref a,.ref b]/\SqL K H1 a xs/\SqL K H1 b ys/\R (ItZ K a b xs ys) H1
theorem qy2 {a b:Expr}{ta:TA}{p pos:Pos}{es:List Expr}{k:Nat}{tpos:Pos}(hg:Gl X "zip")(hm:X.mg "zip" = none)(ha:PA X [a,b] ta)(hv:autoParam (bootBuiltins "zip" = some (.type "zip")) aU4._auto_1)
  (hs:autoParam (starEach [a,b] X.env=[(false,eval a X.env),(false,eval b X.env)]) aU4._auto_1) (hs2:autoParam (starEach [b] X.env=[(false,eval b X.env)]) aU4._auto_1):PI X (.Tuple es k tpos) (.Call (.Name "zip" p) [a,b] [] pos) (iZip X.K ta):=by
 intro pins s σ H R I h;refine Call_ (jb I hg hm hv (bi (thn (ha pos pins s σ H _ I h) λus s1 ⟨vs,H1,I1,r1,q1⟩=>?_) (by rw[hs,hs2]) (by rw[hs2];rfl)));obtain⟨a,b,xs,ys,e,W,U,q⟩:=q1;subst e;cases r1 with
 |cons r rr =>
  cases rr with
  |cons r' rr =>
   cases rr;cases r;cases r';obtain⟨an,rv,p,hz⟩:=I1.list W;obtain⟨ad,ab,p2,ap⟩:=I1.list U;have L:a<s1.heap.objs.size:=by obtain⟨o,n,z,_⟩:=p;exact aj z
   have J:b<s1.heap.objs.size:=by obtain⟨o,n,z,_⟩:=p2;exact aj z
   refine call_zip_2 p.isList p2.isList λh' F g2 g3 g4 g5 g6 g7=>?_;refine wpAny_pyIter_zip F ?_;have I2:Inv X pins σ H1 { s1 with heap:=h' }:=I1.kept (t':=s1.toks) g7;refine⟨s1.heap.objs.size+4,[s1.heap.objs.size+4,s1.heap.objs.size+2,s1.heap.objs.size+3,s1.heap.objs.size,s1.heap.objs.size+1],_,_,H1,rfl,I2,xzx a b _ _ _ _ _ xs ys (zipApart_new L J),⟨F,g2,⟨_,_,g3⟩,g4,g5⟩,λc Z=>?_,q⟩;have D:s1.heap.objs.size<=c:=by
    have:c=s1.heap.objs.size+4\/c=s1.heap.objs.size+2\/c=s1.heap.objs.size+3\/c=s1.heap.objs.size\/c=s1.heap.objs.size+1:=by simpa using Z
    rcases this with e | e | e | e | e <;> (rw[e];first | exact ai _ | exact fR _ _)
   exact I1.fpOk D (I1.hok.fresh D)
end
def ItE (K:Aa)(a:Aj)(xs:List V):It :=
 ⟨λi H=>SqL K H a xs/\i<xs.length,λi H v H'=>∃q x,H q=none/\v=.ref q/\xs[i]?=some x/\H'=upd H q (.tup [.int (i:Nat),x]),λi H=>SqL K H a xs/\xs.length<=i⟩
theorem wy9 {P:Ac}{w:Ah}{K:Aa}{es:List Expr}{k:Nat}{pos:Pos}(a z it:Aj)(xs:List V)(ap:z≠it):Turn P w K (.Tuple es k pos) (ItE K a xs) [z,it] z
  (λi h=>i<=xs.length/\(∃old,IsEnum h z it (i:Nat) old)/\h.IsListIter it a i) where
 mem:=by simp
 obj:=λi h st c hc=>by
  obtain⟨_,⟨old,h1⟩,⟨o4,h4,c4,d4⟩⟩:=st;have hc':c=z\/c=it:=by simpa using hc
  rcases hc' with rfl|rfl
  .exact⟨_,h1,λv z=>by cases z⟩
  .exact⟨_,h4,λv z=>by rw[d4]at z;cases z⟩
 keep:=λi h h' st k=>by obtain⟨l,⟨old,h1⟩,h4⟩:=st;exact⟨l,⟨old,k z (by simp) _ h1⟩,h4.at λo e=>k it (by simp) o e⟩
 item:=by
  intro X hP hw hK hc i pins s σ H E I hf st hg;subst hP hw hK;obtain⟨hq1,l1⟩:=hg;obtain⟨its,rv,p,hz⟩:=I.list hq1;have e1:xs[i]?=some xs[i]:=aa l1;obtain⟨u,hu,ru⟩:=rv.get e1;obtain⟨_,⟨old,h1⟩,h4⟩:=st;refine wpAny_pyNext_enum_item h1 h4 p.isList (x:=u) (by simpa using hu) ap λh' g1 g2 g3 g4 g5=>?_;refine⟨_,rfl,wpAny_letOwnedTupleGo_enum (s:={ s with heap:=h',toks:=s.toks+1 }) g1 λh'' f1 f2=>?_⟩;have hsz:∀c,c∈[z,it]->c≠s.heap.objs.size:=λc hc e=>by
   have hc':c=z\/c=it:=by simpa using hc
   have hlt:c<s.heap.objs.size:=by
    rcases hc' with rfl|rfl
    .exact aj h1
    .obtain⟨o,e,_⟩:=h4;exact aj e
   exact aN _ (e▸hlt)
  have keepz:∀c o,c≠z->h'.get? c=some o->h''.get? c=some o:=λc o nc e=>(f2.2 c nc).trans e;have keep:∀c o,c∉[z,it]->s.heap.get? c=some o->h''.get? c=some o:=λc o nc e=>by simp only[aC,fQ,or_false,not_or]at nc;exact keepz c o nc.1 (g5 c o nc.1 nc.2 e)
  have new:h''.get? s.heap.objs.size=some { cls:=.type "tuple",data:=.seq #[.int (i:Nat) s.toks,u] }:=keepz _ _ (cV (hsz z (by simp))) g3;refine⟨.ref s.heap.objs.size,_,Inv.turnedT (s:=s) (ch:=[z,it]) (tk:=s.toks+1) I keep new hf hsz (wkq I (show RelV (.int (i:Nat)) (.int (i:Nat) s.toks) from ⟨_,rfl⟩) ru) rfl,rfl,⟨_,_,I.hok.fresh (ai _),rfl,e1,rfl⟩,⟨⋯,⟨u,?_⟩,g2.at λo e=>keepz _ _ (cV ap) e⟩,λc hc=>?_⟩
  .rw[show(((i+1:Nat):Nat):Int)=(i:Int)+1 by lia];exact f1
  .rw[wv (hsz c hc)];exact(hf c hc).1
 done:=by intro X hP hw hK hc i pins s σ H E I hf st hg;subst hP hw hK;obtain⟨hq1,le⟩:=hg;obtain⟨its,rv,p,hz⟩:=I.list hq1;have hl:=rv.length;obtain⟨_,⟨old,h1⟩,h4⟩:=st;refine wpAny_pyNext_enum_end (I.ok.hd hc) h1 h4 p.isList (cL (by rw[aq];lia)) λh' g=>⟨rfl,Inv.turnedL (ch:=[z,it]) (tk:=s.toks) I (λc o nc e=>?_) hf⟩;simp only[aC,fQ,or_false,not_or]at nc;exact g c o nc.2 e
 self:=λ_ _ _ _ _ st h=>let ⟨_,⟨_,e⟩,_⟩:=st;wpAny_pyIter_enum e h
section
variable {X:Cx}
def iEnum (K:Aa)(ta:TA):TI:=λσ H R=>ta σ H λvs H1=>∃a xs,vs=[.ref a]/\SqL K H1 a xs/\R (ItE K a xs) H1
theorem xjm {a:Expr}{ta:TA}{p pos:Pos}{es:List Expr}{k:Nat}{tpos:Pos}(hg:Gl X "enumerate")(hm:X.mg "enumerate" = none)(ha:PA X [a] ta)(hv:autoParam (bootBuiltins "enumerate" = some (.type "enumerate")) aU4._auto_1)
  (hs:autoParam (starEach [a] X.env=[(false,eval a X.env)]) aU4._auto_1):PI X (.Tuple es k tpos) (.Call (.Name "enumerate" p) [a] [] pos) (iEnum X.K ta):=by
 intro pins s σ H R I h;refine Call_ (jb I hg hm hv (bi (thn (ha pos pins s σ H _ I h) λus s1 ⟨vs,H1,I1,r1,q1⟩=>?_) hs rfl));obtain⟨a,xs,e,F,q⟩:=q1;subst e;cases r1 with
 |cons r rr =>
   cases rr;cases r;obtain⟨ab,Z,p,hz⟩:=I1.list F;refine call_enumerate_list p.isList λh' D U g6 L=>?_;refine wpAny_pyIter_enum D ?_;have W:Inv X pins σ H1 { s1 with heap:=h' }:=I1.kept (t':=s1.toks) L;refine⟨s1.heap.objs.size+1,[s1.heap.objs.size+1,s1.heap.objs.size],_,_,H1,rfl,W,wy9 a _ _ xs (Nat.succ_ne_self _),⟨aK _,⟨_,D⟩,U⟩,λc J=>?_,q⟩;have z:s1.heap.objs.size<=c:=by
    have:c=s1.heap.objs.size+1\/c=s1.heap.objs.size:=by simpa using J
    rcases this with e | e <;> (rw[e];first | exact ai _ | exact fR _ _)
   exact I1.fpOk z (I1.hok.fresh z)
end
def wx1 (J:It)(M:List Nat)(gg:TG)(te:TE)(σ:St)(H1:Hp)(Q:VK):Prop:=∀p,H1 p=none->∃W:Nat->Nat->List V->Hp->Prop,(∃m,W 0 m [] (upd H1 p (.lst []))) /\
 ∀i m ys H2,W i m ys H2->H2 p=some (.lst ys)/\ys.length<sizeLine/\((J.stop i H2/\Q (.ref p) H2)\/(J.go i H2/\∀v H3,J.yld i H2 v H3 ->
  gg v (xc M σ none none) H3 λσ4 H4=>(∃a b,σ4=xc M σ (some a) (some b))/\te σ4 H4 λy H5=>H5 p=some (.lst ys)/\∃m',m'<m/\W (i+1) m' (ys++[y]) (upd H5 p (.lst (ys++[y])))))
def tCompP (M:List Nat)(wi:TI)(gg:TG)(te:TE):TE:=λσ H Q=>wi σ H λJ H1=>wx1 J M gg te σ H1 Q
section
variable {X:Cx}{elt iter tg:Expr}{x y2:Str}{pos:Pos}{scope:Scope}{cl:List (Str×Aj)}{M:List Nat}{wi:TI}{gg:TG}{te:TE}
theorem wus (hc:X.calm=true)(hclos:closureFor scope X.env=pure cl)(hcap:CapAll X.env cl)(hhas:HasAll cl scope.names)(hix:CapIx X scope cl M)(hk:scope.kind=.function)
  (hnames:∀y∈scope.names,y.2=.local->scope.names.lookup y.1=some .local) (hg:∀C s2 H2 fp pn,PG (xx X scope cl x y2 M C s2 H2 fp pn) tg gg) (hi:PI X tg iter wi)
  (he:∀C s2 H2 fp pn,PE (xx X scope cl x y2 M C s2 H2 fp pn) elt te) (hs:∀z,foldedSetIterable iter X.env z=pure z)
  {use:Option (Ag->Sem Unit)} {QQ:Ag->Ab->Prop} {pins:List (Aj×Obj)} {s:Ab} {σ:St} {H:Hp} {Q:VK} {ps:Pos} (I:Inv X pins σ H s) (h:wi σ H λJ H1=>wx1 J M gg te σ H1 Q)
  (fin:∀(C:Aj) (s2 s4:Ab) (H1 H2:Hp) (fp:List Aj),Inv X pins σ H1 s2->s2.heap.objs.size<C->(∀b∈fp,vh X pins H1 b)->Inv (xx X scope cl x y2 M C s2 H1 fp (X.pn++pins)) [] (xc M σ none none) H2 s4->Q (.ref s2.heap.objs.size) H2 ->
   compPost (model X.prog X.w) X.A X.xe use QQ (.ref s2.heap.objs.size) C (.ok .next) s4) :
  wpAny (model X.prog X.w) X.A (comprehension (.ListComp elt [⟨tg,iter,[],0⟩] scope pos) scope X.env ps (newList []) false (eval iter X.env) use) QQ X.xe s:=by
 refine yc hclos hhas hk hnames hi hs I h λit fp tn J H1 s2 C h3 tk F T t3 D Z an hR L ab ap hD=>?_;obtain⟨W,⟨m0,w0⟩,hW⟩:=hR s2.heap.objs.size (F.hok.fresh (ai _));refine vx (Y:=xx X scope cl x y2 M C s2 H1 fp (X.pn++pins)) (V:=λi n H2=>∃ys,W i n ys H2) (Qd:=Q (.ref s2.heap.objs.size)) (REST:=qvv elt (.ref s2.heap.objs.size) (compEnvC scope cl C X.env) _) T hc (λ_ _ z=>z) (compTurn_list1 ..) rfl rfl (hg C s2 H1 fp (X.pn++pins)) (uq (N:=Qk X x y2 M) (scope:=scope) hcap F L D Z) (λi n H2 ⟨ys,w⟩=>?_) (λH2 s4 J4 q=>fin C s2 s4 H1 H2 fp F L D J4 q)
  (F.comp2 (x:=x) (y:=y2) (tk:=tk) hcap hhas hix hk L ab ap hD D an) ⟨[],w0⟩ t3 λb hb=>by rw[wv (ay (Z b hb))];exact(D b hb).1
 obtain⟨hp,hz,a0⟩:=hW i n ys H2 w;refine a0.imp id λ⟨as,hy⟩=>⟨as,λv H3 yl=>⟨_,hy v H3 yl,λσ4 H4 e=>?_⟩⟩;obtain⟨⟨a,b,rfl⟩,ad⟩:=e;refine⟨Yf M σ a b,λa1 s' J=>?_⟩;exact aP (yf (N:=λzs U=>∃m',m'<n/\W (i+1) m' zs U) (λ_ _ z=>z) (he C s2 H1 fp (X.pn++pins)) J hz ad) (λr s5 ⟨e,U,J5,zs,m',hm,w'⟩=>⟨e,U,J5,m',hm,zs,w'⟩) λ_ _ z=>z
theorem Wc {i:Nat}{y:Str}{py spos:Pos}(hN:X.N.Nodup)(hyi:X.N[i]?=some y)(hyl:Loc X.env.scope y)(hc:X.calm=true)(hclos:closureFor scope X.env=pure cl)(hcap:CapAll X.env cl)(hhas:HasAll cl scope.names)(hix:CapIx X scope cl M)(hk:scope.kind=.function)
  (hnames:∀y∈scope.names,y.2=.local->scope.names.lookup y.1=some .local) (hg:∀C s2 H2 fp pn,PG (xx X scope cl x y2 M C s2 H2 fp pn) tg gg) (hi:PI X tg iter wi)
  (he:∀C s2 H2 fp pn,PE (xx X scope cl x y2 M C s2 H2 fp pn) elt te) (hs:autoParam (∀z,foldedSetIterable iter X.env z=pure z) aU3._auto_1)
  (hsw:autoParam (swapsWith (.ListComp elt [⟨tg,iter,[],0⟩] scope pos) (some (.Name y py)) spos.line X.env=pure true) aU4._auto_1) (hyf:autoParam (X.fn y=true\/X.env.scope.names.lookup y=some .local) aU0._auto_1) :
  PS X (.Assign [.Name y py] (.ListComp elt [⟨tg,iter,[],0⟩] scope pos) spos) (wx8 (tCompP M wi gg te) (jp i)):=by
 intro pins s σ H D I h;rw[d7 _ _ _ _ hsw];refine ac (cw (ac ?_));refine ac (aP (wus hc hclos hcap hhas hix hk hnames hg hi he hs (use:=some (assign (.Name y py) X.env)) (QQ:=λ_ s'=>SP X pins D .next s') I h λC s2 W H1 H2 fp J L a1 J4 hq=>?_) (λ_ s' hq=>ah (ah hq)) λ_ _ e=>e);have F:Inv X pins σ H2 W:=J.uncomp2 (h':=W.heap) (ba L) a1 J4 (fB _ _);have an:H2 C=none:=J4.free;obtain⟨mC,a0,_⟩:=J4.loc;obtain⟨Z,a7,a8,as,ad⟩:=id a0;have ab:C≠X.env.locals:=λz=>aN _ (aR L (z▸J.lt));have a3:X.s₀.heap.objs.size<=C:=bo J.sz (ba L);have a5:∀y c,X.env.cells.lookup y=some c->c≠C:=λy c e z=>by obtain⟨v,o,U,_⟩:=J.cell y c e;exact aN _ (aR L (z▸aj U))
 have a4:∀p∈X.pn++pins,p.1≠C:=λp hp z=>aN _ (aR L (z▸aj (J.pin p hp).1));have bb:C∉frs X.stack:=λz=>by
  rcases aC.mp (J.stkSub C z) with q|q
  .exact ab q
  .obtain⟨_,o,U,_⟩:=J.funs.mem (b:=C) q;exact aN _ (aR L (aj U))
 have a2:C∉X.fs:=λz=>by obtain⟨_,o,U,_⟩:=J.funs.mem (b:=C) z;exact aN _ (aR L (aj U))
 have a9:Inv X (pins++[(C,Z)]) σ H2 W:=⟨F.ok,F.os,F.bare,F.base,F.loc,F.cell,F.free,F.freeC,λp hp=>by
  rcases aY.mp hp with q|q
  .exact F.pin p (bD _ q)
  .rcases aY.mp q with q|q
   .exact F.pin p (az _ q)
   .rw[aQ.mp q]
    exact⟨as,an,ab,a2,λv z=>by rw[ad.1]at z;cases z⟩,F.hok,F.len⟩
 show wpAny _ _ (assign (.Name y py) X.env (.ref s2.heap.objs.size)) _ _ _;refine ee (jz a9 hN hyi hyl (show RelV (.ref s2.heap.objs.size) (.ref s2.heap.objs.size) from rfl) (λs5 I5=>?_) hyf);have a6:=(I5.pin (C,Z) (az _ (az _ (.head _)))).1;exact⟨mC,⟨Z,a7,a8,a6,ad⟩,λh' ap=>⟨_,H2,I5.unpinned.but an a3 ab a5 a4 ap,hq⟩⟩
end
theorem Yy {X:Cx}{K:Aa}{pos:Pos}{es:List Expr}{k:Nat}{t:TGs}{n:Nat}(hK:X.K=K)(hc:X.calm=true)(h:PGs X es t)(h1:autoParam ((assignEach es X.env).length=n) aU4._auto_1)(h2:autoParam (List.findIdx? (λx=>x.fst) (assignEach es X.env)=none) aU4._auto_1):PG X (.Tuple es k pos) (gTup K n t):=by subst hK;exact vy hc h h1 h2
def xwp (G:Nat->V->Hp->Prop):Prop:=∀i v H H',G i v H->(∀b o,(∀xs,o≠.lst xs)->H b=some o->H' b=some o)->G i v H'
theorem qjt {K:Aa}{J:It}{M:List Nat}{te:TE}{σ:St}{H:Hp}{Q:VK}(n:Nat)(pr:Nat->V×V)(G:Nat->V->Hp->Prop)(gs:xwp G)(hn:n<=1000000)
  (hgo:∀i H',i<n->Same H H'->J.go i H') (hst:∀H',Same H H'->J.stop n H') (hy:∀i H2 v H3,i<n->Same H H2->J.yld i H2 v H3->Same H2 H3/\∃a,v=.ref a/\SqT K H3 a [(pr i).1,(pr i).2])
  (he:∀(i:Nat) (H':Hp) (R:VK),i<n->Same H H'->(∀v H'',Same H' H''->G i v H''->R v H'')->te (xc M σ (some (pr i).1) (some (pr i).2)) H' R)
  (k:∀p ys H',H p=none->Same H H'->H' p=some (.lst ys)->ys.length=n->(∀j v,ys[j]?=some v->G j v H')->Q (.ref p) H') :
  wx1 J M (gTup K 2 (qxn (jp 0) (qxn (jp 1) gNil))) te σ H Q:=by
 intro p np;have ab:(1000000:Nat)<sizeLine:=by decide
 refine⟨λi m ys H2=>i<=n/\m=n-i/\ys.length=i/\Same H H2/\H2 p=some (.lst ys)/\∀j v,ys[j]?=some v->G j v H2,⟨n,aK _,rfl,rfl,Same.upd np,qh,λj v e=>by cases e⟩,?_⟩;rintro i m ys H2 ⟨hi,rfl,hl,sm,hp,hG⟩;refine⟨hp,⋯,?_⟩;by_cases hlt:i<n
 .refine .inr ⟨hgo i H2 hlt sm,λv H3 Z=>?_⟩;obtain⟨D,a,rfl,hq⟩:=hy i H2 v H3 hlt sm Z;refine⟨a,_,rfl,hq,rfl,_,_,rfl,_,_,rfl,rfl,⟨_,_,rfl⟩,?_⟩;refine he i H3 _ hlt (sm.trans D) λw W F g4=>?_;have U:=F _ _ (D _ _ hp);have st:∀b o,(∀xs,o≠.lst xs)->W b=some o->upd W p (.lst (ys++[w])) b=some o:=λb o L e=>by
   rw[wv]
   .exact e
   .intro z;rw[z,U]at e;exact L _ (ak e).symm
  refine⟨U,n-(i+1),⋯,⋯,rfl,by rw[ar,hl];rfl,λb o e=>?_,qh,λj v e=>?_⟩
  .rw[wv (wj e np)];exact F _ _ (D _ _ (sm _ _ e))
  .rcases bj j ys.length with z|z
   .rw[aS z]at e;exact gs j v _ _ (hG j v e) λb o L e=>st b o L (F _ _ (D _ _ e))
   .rw[aF z]at e;have hj:j=i:=by
     rcases bj (j-ys.length) 1 with y|y
     .lia
     .rw[aG (by simpa using y)]at e;cases e
    subst hj;rw[show j-ys.length=0 by lia]at e;cases e;exact gs j _ _ _ g4 st
 .have:i=n:=by lia
  subst this;exact .inl ⟨hst H2 sm,k p ys H2 np sm hp hl hG⟩
theorem Wf {M:List Nat}{lo:Int}{n:Nat}{te:TE}{σ:St}{H:Hp}{Q:VK}(G:Nat->V->Hp->Prop)(gs:xwp G)(hn:n<=1000000)
  (he:∀(i:Nat) (H':Hp) (R:VK),i<n->Same H H'->(∀v H'',Same H' H''->G i v H''->R v H'')->te (zk M σ (some (.int (lo+i)))) H' R)
  (k:∀p ys H',H p=none->Same H H'->H' p=some (.lst ys)->ys.length=n->(∀j v,ys[j]?=some v->G j v H')->Q (.ref p) H'):Wu (Itr lo n) M te σ H Q:=by
 intro p np;have Z:(1000000:Nat)<sizeLine:=by decide
 refine⟨λi m ys H2=>i<=n/\m=n-i/\ys.length=i/\Same H H2/\H2 p=some (.lst ys)/\∀j v,ys[j]?=some v->G j v H2,⟨n,aK _,rfl,rfl,Same.upd np,qh,λj v e=>by cases e⟩,?_⟩;rintro i m ys H2 ⟨hi,rfl,hl,sm,hp,hG⟩;refine⟨hp,⋯,?_⟩;by_cases hlt:i<n
 .refine .inr ⟨hlt,?_⟩;rintro v H3 ⟨rfl,rfl⟩;refine he i H3 _ hlt sm λw L D W=>?_;have J:=D _ _ hp;have st:∀b o,(∀xs,o≠.lst xs)->L b=some o->upd L p (.lst (ys++[w])) b=some o:=λb o F e=>by
   rw[wv]
   .exact e
   .intro z;rw[z,J]at e;exact F _ (ak e).symm
  refine⟨J,n-(i+1),⋯,⋯,rfl,by rw[ar,hl];rfl,λb o e=>?_,qh,λj v e=>?_⟩
  .rw[wv (wj e np)];exact D _ _ (sm _ _ e)
  .rcases bj j ys.length with z|z
   .rw[aS z]at e;exact gs j v _ _ (hG j v e) λb o F e=>st b o F (D _ _ e)
   .rw[aF z]at e;have U:j=i:=by
     rcases bj (j-ys.length) 1 with y|y
     .lia
     .rw[aG (by simpa using y)]at e;cases e
    subst U;rw[show j-ys.length=0 by lia]at e;cases e;exact gs j _ _ _ W st
 .have:i=n:=by lia
  subst this;exact .inl ⟨ai _,k p ys H2 np sm hp hl hG⟩
theorem xv3 {K:Aa}{a b:Aj}{xs ys:List V}{g:TG}{tb:TS}{D:Ends}{σ:St}{H:Hp}(Pv:Nat->St->Hp->Prop)(h0:Pv 0 σ H)(hl:∀i σ H,Pv i σ H->SqL K H a xs/\SqL K H b ys)
  (hs:∀i x y q σ H,xs[i]?=some x->ys[i]?=some y->H q=none->Pv i σ H->g (.ref q) σ (upd H q (.tup [x,y])) λσ2 H2=>tb { D with nx:=Pv (i+1),ct:=Pv (i+1),bk:=D.nx } σ2 H2) (hd:∀σ H,Pv (min xs.length ys.length) σ H->D.nx σ H) :
  ∃W:Nat->Nat->St->Hp->Prop,(∃m,W 0 m σ H)/\∀i m σ H,W i m σ H ->
   ((ItZ K a b xs ys).stop i H/\D.nx σ H)\/((ItZ K a b xs ys).go i H/\∃N:St->Hp->Prop,(∀σ' H',N σ' H'->∃m',m'<m/\W (i+1) m' σ' H')/\∀x H',(ItZ K a b xs ys).yld i H x H'->g x σ H' λσ2 H2=>tb { D with nx:=N,ct:=N,bk:=D.nx } σ2 H2):=by
 refine⟨λi m σ H=>m=min xs.length ys.length-i/\i<=min xs.length ys.length/\Pv i σ H,⟨_,rfl,aK _,h0⟩,?_⟩;rintro i m σ H ⟨rfl,hi,p⟩;have q:=hl i σ H p;by_cases hlt:i<min xs.length ys.length
 .refine .inr ⟨⟨q.1,q.2,⋯,⋯⟩,Pv (i+1),λσ' H' z=>⟨min xs.length ys.length-(i+1),⋯,rfl,hlt,z⟩,?_⟩;rintro v H' ⟨q',x,y,nq,rfl,ex,ey,rfl⟩;exact hs i x y q' σ H ex ey nq p
 .have:i=min xs.length ys.length:=by lia
  subst this;refine .inl ⟨⟨q.1,q.2,⋯⟩,hd σ H p⟩
end L2
namespace HT
open PySem PySem.Spec PyProof.Rows
section
variable {prog:Ac}{w:Ah}{A:Ae}{E:Ag->Ab->Prop}{s:Ab}
theorem cat_tup0 {t b:Aj}{ws:List Ag}{Q:Ag->Ab->Prop}(ht:IsTup s.heap t #[])(hb:IsTup s.heap b ws.toArray)(h:Q (.ref b) s):wpAny (model prog w) A (binaryOp .Add (.ref t) (.ref b)) Q E s:=by obtain⟨⟨as,dd,an,Z⟩,D,U,n,J⟩:=id ht ;obtain⟨⟨ap,ab,ad,W⟩,z,L,n2,F⟩:=id hb;simp only at U J L F ;subst U J L F;exact concat_meets ⟨_,D,rfl⟩ ⟨_,z,rfl⟩ iA seq_tuple_add fu fi (eQ _ _) (tuple_addW0 t b #[] ws.toArray n n2 dd ab Z W (by simp)) ⟨D,z,h⟩
end
end HT
namespace L2
open PySem PySem.Spec PyProof.Rows
section
variable {X:Cx}
def rCatW (K:Aa):R2:=λx y H Q=>∃a b xs ys,x=.ref a/\y=.ref b/\SqT K H a xs/\SqT K H b ys/\xs.length+ys.length<=sizeLine /\
 (xs=[]->Q (.ref b) H)/\(xs≠[]->ys=[]->Q (.ref a) H)/\(xs≠[]->ys≠[]->∀p,H p=none->Q (.ref p) (upd H p (.tup (xs++ys))))
theorem xj5:OpR X (binaryOp .Add) (rCatW X.K):=by
 intro pins s σ H x y v u Q I D z h;obtain⟨a,b,xs,ys,rfl,rfl,J,F,hz,Z,W,U⟩:=h;by_cases hx:xs=[]
 .subst hx;cases D;cases z;obtain⟨ad,L,p1,_⟩:=I.tuple J;obtain⟨ab,r2,p2,_⟩:=I.tuple F;cases L;exact HT.cat_tup0 p1 p2 ⟨.ref b,H,I,rfl,Z rfl⟩
 .exact xkd pins s σ H (.ref a) (.ref b) v u Q I D z ⟨a,b,xs,ys,rfl,rfl,J,F,hx,hz,W hx,U hx⟩
end
end L2
namespace L2
open PySem PySem.Spec PyProof.Rows
end L2
namespace L2
open PySem PySem.Spec PyProof.Rows
def qyw (J:It)(M:List Nat)(gg:TG)(tt:TT)(te:TE)(σ:St)(H1:Hp)(Q:VK):Prop:=∀p,H1 p=none->∃W:Nat->Nat->List V->Hp->Prop,(∃m,W 0 m [] (upd H1 p (.lst []))) /\
 ∀i m ys H2,W i m ys H2->H2 p=some (.lst ys)/\ys.length<sizeLine/\((J.stop i H2/\Q (.ref p) H2)\/(J.go i H2/\∀v H3,J.yld i H2 v H3 ->
  gg v (xc M σ none none) H3 λσ4 H4=>(∃a b,σ4=xc M σ (some a) (some b))/\tt σ4 H4 λb H4=>if b=true then te σ4 H4 (λy H5=>H5 p=some (.lst ys)/\∃m',m'<m/\W (i+1) m' (ys++[y]) (upd H5 p (.lst (ys++[y])))) else H4 p=some (.lst ys)/\∃m',m'<m/\W (i+1) m' ys H4))
def xyu (M:List Nat)(wi:TI)(gg:TG)(tt:TT)(te:TE):TE:=λσ H Q=>wi σ H λJ H1=>qyw J M gg tt te σ H1 Q
section
variable {X:Cx}{elt iter tg cd:Expr}{x y2:Str}{pos:Pos}{scope:Scope}{cl:List (Str×Aj)}{M:List Nat}{wi:TI}{gg:TG}{tt:TT}{te:TE}
theorem wvt (hc:X.calm=true)(hclos:closureFor scope X.env=pure cl)(hcap:CapAll X.env cl)(hhas:HasAll cl scope.names)(hix:CapIx X scope cl M)(hk:scope.kind=.function)
  (hnames:∀y∈scope.names,y.2=.local->scope.names.lookup y.1=some .local) (hg:∀C s2 H2 fp pn,PG (xx X scope cl x y2 M C s2 H2 fp pn) tg gg) (hi:PI X tg iter wi)
  (ht:∀C s2 H2 fp pn,PT (xx X scope cl x y2 M C s2 H2 fp pn) cd tt) (he:∀C s2 H2 fp pn,PE (xx X scope cl x y2 M C s2 H2 fp pn) elt te) (hs:∀z,foldedSetIterable iter X.env z=pure z)
  {use:Option (Ag->Sem Unit)} {QQ:Ag->Ab->Prop} {pins:List (Aj×Obj)} {s:Ab} {σ:St} {H:Hp} {Q:VK} {ps:Pos} (I:Inv X pins σ H s) (h:wi σ H λJ H1=>qyw J M gg tt te σ H1 Q)
  (fin:∀(C:Aj) (s2 s4:Ab) (H1 H2:Hp) (fp:List Aj),Inv X pins σ H1 s2->s2.heap.objs.size<C->(∀b∈fp,vh X pins H1 b)->Inv (xx X scope cl x y2 M C s2 H1 fp (X.pn++pins)) [] (xc M σ none none) H2 s4->Q (.ref s2.heap.objs.size) H2 ->
   compPost (model X.prog X.w) X.A X.xe use QQ (.ref s2.heap.objs.size) C (.ok .next) s4) :
  wpAny (model X.prog X.w) X.A (comprehension (.ListComp elt [⟨tg,iter,[cd],0⟩] scope pos) scope X.env ps (newList []) false (eval iter X.env) use) QQ X.xe s:=by
 refine yc hclos hhas hk hnames hi hs I h λit fp tn J H1 s2 C h3 tk F T t3 D ab ap hR L ad as hD=>?_;obtain⟨W,⟨m0,w0⟩,hW⟩:=hR s2.heap.objs.size (F.hok.fresh (ai _));refine vx (Y:=xx X scope cl x y2 M C s2 H1 fp (X.pn++pins)) (V:=λi n H2=>∃ys,W i n ys H2) (Qd:=Q (.ref s2.heap.objs.size)) (REST:=wx2 cd (compEnvC scope cl C X.env) (qvv elt (.ref s2.heap.objs.size) (compEnvC scope cl C X.env) _) (again _)) T hc (λ_ _ z=>z) (compTurn_list ..) rfl rfl (hg C s2 H1 fp (X.pn++pins)) (uq (N:=Qk X x y2 M) (scope:=scope) hcap F L D ab) (λi n H2 ⟨ys,w⟩=>?_) (λH2 s4 J4 q=>fin C s2 s4 H1 H2 fp F L D J4 q)
  (F.comp2 (x:=x) (y:=y2) (tk:=tk) hcap hhas hix hk L ad as hD D ap) ⟨[],w0⟩ t3 λb hb=>by rw[wv (ay (ab b hb))];exact(D b hb).1
 obtain⟨hp,hz,a1⟩:=hW i n ys H2 w;refine a1.imp id λ⟨a0,hy⟩=>⟨a0,λv H3 yl=>⟨_,hy v H3 yl,λσ4 H4 e=>?_⟩⟩;obtain⟨⟨a,b,rfl⟩,an⟩:=e;refine⟨Yf M σ a b,λa2 s' J=>?_⟩;exact Wg (ht C s2 H1 fp (X.pn++pins)) J an (λs6 H6 U h6=>aP (yf (N:=λzs Z=>∃m',m'<n/\W (i+1) m' zs Z) (λ_ _ z=>z) (he C s2 H1 fp (X.pn++pins)) U hz h6) (λr s5 ⟨e,Z,J5,zs,m',hm,w'⟩=>⟨e,Z,J5,m',hm,zs,w'⟩) λ_ _ z=>z)
  λs6 H6 U ⟨_,m',hm,w'⟩=>ah ⟨rfl,H6,U,m',hm,ys,w'⟩
theorem wuj (hc:X.calm=true)(hclos:closureFor scope X.env=pure cl)(hcap:CapAll X.env cl)(hhas:HasAll cl scope.names)(hix:CapIx X scope cl M)(hk:scope.kind=.function)
  (hnames:∀y∈scope.names,y.2=.local->scope.names.lookup y.1=some .local) (hg:∀C s2 H2 fp pn,PG (xx X scope cl x y2 M C s2 H2 fp pn) tg gg) (hi:PI X tg iter wi)
  (ht:∀C s2 H2 fp pn,PT (xx X scope cl x y2 M C s2 H2 fp pn) cd tt) (he:∀C s2 H2 fp pn,PE (xx X scope cl x y2 M C s2 H2 fp pn) elt te) (hs:autoParam (∀z,foldedSetIterable iter X.env z=pure z) aU3._auto_1) :
  PE X (.ListComp elt [⟨tg,iter,[cd],0⟩] scope pos) (xyu M wi gg tt te):=by
 intro pins s σ H Q I h;rw[ij];refine wvt hc hclos hcap hhas hix hk hnames hg hi ht he hs (use:=none) I h λC s2 s4 H1 H2 fp Z U W D J=>?_;obtain⟨m,L,_⟩:=D.loc;exact⟨m,L,λh' F=>⟨.ref s2.heap.objs.size,H2,Z.uncomp2 (ba U) W D F,rfl,J⟩⟩
end
theorem xzh {K:Aa}{J:It}{M:List Nat}{tt:TT}{te:TE}{σ:St}{H:Hp}{Q:VK}(n:Nat)(pr:Nat->V×V)(c:Nat->Bool)(f:Nat->V)(hn:n<=1000000)
  (hgo:∀i H',i<n->Same H H'->J.go i H') (hst:∀H',Same H H'->J.stop n H') (hy:∀i H2 v H3,i<n->Same H H2->J.yld i H2 v H3->Same H2 H3/\∃a,v=.ref a/\SqT K H3 a [(pr i).1,(pr i).2])
  (ht:∀(i:Nat) (H':Hp) (R:Bool->Hp->Prop),i<n->Same H H'->(∀H'',Same H' H''->R (c i) H'')->tt (xc M σ (some (pr i).1) (some (pr i).2)) H' R)
  (he:∀(i:Nat) (H':Hp) (R:VK),i<n->c i=true->Same H H'->(∀H'',Same H' H''->R (f i) H'')->te (xc M σ (some (pr i).1) (some (pr i).2)) H' R)
  (k:∀p H',H p=none->Same H H'->H' p=some (.lst (((List.range n).filter c).map f))->Q (.ref p) H') :
  qyw J M (gTup K 2 (qxn (jp 0) (qxn (jp 1) gNil))) tt te σ H Q:=by
 intro p np;have W:(1000000:Nat)<sizeLine:=by decide
 refine⟨λi m ys H2=>i<=n/\m=n-i/\ys=((List.range i).filter c).map f/\Same H H2/\H2 p=some (.lst ys),⟨n,aK _,rfl,rfl,Same.upd np,qh⟩,?_⟩;rintro i m ys H2 ⟨hi,rfl,rfl,sm,hp⟩;refine⟨hp,?_,?_⟩
 .rw[af];have:=bN c (List.range i);rw[au]at this;lia
 .by_cases hlt:i<n
  .refine .inr ⟨hgo i H2 hlt sm,λv H3 L=>?_⟩;obtain⟨z,a,rfl,U⟩:=hy i H2 v H3 hlt sm L;refine⟨a,_,rfl,U,rfl,_,_,rfl,_,_,rfl,rfl,⟨_,_,rfl⟩,?_⟩;refine ht i _ _ hlt (sm.trans z) λH4 D=>?_;cases hc:c i with
   |true =>
    refine Q6 ?_;refine he i _ _ hlt hc ((sm.trans z).trans D) λZ F=>⟨F _ _ (D _ _ (z _ _ hp)),n-(i+1),⋯,⋯,rfl,?_,λb o e=>?_,qh⟩
    .rw[aT,cD,aA];simp[bW,hc]
    .rw[wv (wj e np)];exact F _ _ (D _ _ (z _ _ (sm _ _ e)))
   |false =>
    refine Y8 ?_;refine⟨D _ _ (z _ _ hp),n-(i+1),⋯,⋯,rfl,?_,(sm.trans z).trans D,D _ _ (z _ _ hp)⟩;rw[aT,cD,aA];simp[bW,hc]
  .have:i=n:=by lia
   subst this;exact .inl ⟨hst H2 sm,k p H2 np sm hp⟩
end L2
namespace L2
open PySem PySem.Spec PyProof.Rows
def Rows (q:Aj)(B:Hp)(L:List (List V))(ys:List V)(H:Hp):Prop:=Paired (λv xs=>∃a,v=.ref a/\a≠q/\B a=none/\H a=some (.lst xs)) ys L
theorem Paired.mono {α β:Type}{R S:α->β->Prop}(h:∀a b,R a b->S a b):∀ {xs:List α} {ys:List β},Paired R xs ys->Paired S xs ys
 |_,_,.nil=>.nil
 |_,_,.cons r t=>.cons (h _ _ r) (Paired.mono h t)
theorem Paired.app {α β:Type}{R:α->β->Prop}:∀ {xs xs':List α} {ys ys':List β},Paired R xs ys->Paired R xs' ys'->Paired R (xs++xs') (ys++ys')
 |_,_,_,_,.nil,h=>h
 |_,_,_,_,.cons r t,h=>.cons r (Paired.app t h)
theorem yy {H H':Hp}(s:Same H H'){a:Aj}(n:H' a=none):H a=none:=by
 cases e:H a with
 |none=>rfl
 |some o=>rw[s _ _ e]at n;cases n
def ug (c:Nat->Bool)(xs:List V)(n:Nat):List V:=((List.range n).filter c).map λi=>xs.getD i .non
theorem Zb {K:Aa}{M:List Nat}{a:Aj}{xs:List V}{tt:TT}{te:TE}{σ:St}{H:Hp}{Q:VK}(c:Nat->Bool)(hS:SqL K H a xs)(hn:xs.length<=1000000)
  (ht:∀(i:Nat) (x:V) (H':Hp) (R:Bool->Hp->Prop),xs[i]?=some x->Same H H'->(∀H'',Same H' H''->R (c i) H'')->tt (zk M σ (some x)) H' R)
  (he:∀(i:Nat) (x:V) (H':Hp) (R:VK),xs[i]?=some x->c i=true->Same H H'->(∀H'',Same H' H''->R x H'')->te (zk M σ (some x)) H' R)
  (k:∀p H',H p=none->Same H H'->H' p=some (.lst (ug c xs xs.length))->Q (.ref p) H'):qud (Itl K a) M tt te σ H Q:=by
 intro p np;refine⟨λi m ys H2=>i<=xs.length/\m=xs.length-i/\ys=ug c xs i/\Same H H2/\H2 p=some (.lst ys),⟨xs.length,aK _,rfl,rfl,Same.upd np,qh⟩,?_⟩;rintro i m ys H2 ⟨hi,rfl,rfl,sm,hp⟩;refine⟨hp,?_,?_⟩
 .unfold ug;rw[af];have:=bN c (List.range i);rw[au]at this;have:(1000000:Nat)<sizeLine:=by decide
  lia
 .by_cases hlt:i<xs.length
  .have z:xs[i]?=some xs[i]:=aa hlt;refine .inr ⟨⟨xs,_,sm.sql hS,z⟩,?_⟩;rintro v H3 ⟨rfl,hv⟩;have e:=ak (z.symm.trans (hv xs (sm.sql hS)));subst e;refine ht i _ _ _ z sm λW D=>?_;have F:=D _ _ hp;have L:xs.getD i .non=xs[i]:=by rw[ae,z];rfl
   cases hc:c i with
   |true =>
    refine Q6 ?_;refine he i _ _ _ z hc (sm.trans D) λU J=>⟨J _ _ F,xs.length-(i+1),⋯,⋯,rfl,?_,λb o e=>?_,qh⟩
    .unfold ug;rw[aT,cD,aA];simp only[bW,hc,da,List.filter_nil,aO,du,L]
    .rw[wv (wj e np)];exact J _ _ (D _ _ (sm _ _ e))
   |false =>
    refine Y8 ?_;refine⟨F,xs.length-(i+1),⋯,⋯,rfl,?_,sm.trans D,F⟩;unfold ug;rw[aT,cD,aA];simp only[bW,hc,aE,bE,List.filter_nil,du,bG]
  .have:i=xs.length:=by lia
   subst this;exact .inl ⟨⟨xs,sm.sql hS,ai _⟩,k p H2 np sm hp⟩
end L2
namespace L2
open PySem PySem.Spec PyProof.Rows
def InnRI (J2:It)(M:List Nat)(tt:TT)(te:TE)(σ:St)(v:V)(p:Aj)(ys:List V)(H4:Hp)(Wx:List V->Hp->Prop):Prop:=∃W2:Nat->Nat->List V->Hp->Prop,(∃m2,W2 0 m2 ys H4) /\
 ∀j m2 zs H5,W2 j m2 zs H5->H5 p=some (.lst zs)/\zs.length<sizeLine/\((J2.stop j H5/\Wx zs H5)\/(J2.go j H5/\∀u H6,J2.yld j H5 u H6 ->
  tt (xc M σ (some v) (some u)) H6 λb H6'=>if b=true then te (xc M σ (some v) (some u)) H6' (λy H7=>H7 p=some (.lst zs)/\∃m2',m2'<m2/\W2 (j+1) m2' (zs++[y]) (upd H7 p (.lst (zs++[y])))) else H6' p=some (.lst zs)/\∃m2',m2'<m2/\W2 (j+1) m2' zs H6'))
def qjn (J:It)(M:List Nat)(wi2:TI)(tt:TT)(te:TE)(σ:St)(H1:Hp)(Q:VK):Prop:=∀p,H1 p=none->∃W:Nat->Nat->List V->Hp->Prop,(∃m,W 0 m [] (upd H1 p (.lst []))) /\
 ∀i m ys H2,W i m ys H2->H2 p=some (.lst ys)/\((J.stop i H2/\Q (.ref p) H2)\/(J.go i H2/\∀v H3,J.yld i H2 v H3 ->
  wi2 (xc M σ (some v) none) H3 λJ2 H4=>InnRI J2 M tt te σ v p ys H4 λzs H5=>∃m',m'<m/\W (i+1) m' zs H5))
def xj3 (M:List Nat)(wi wi2:TI)(tt:TT)(te:TE):TE:=λσ H Q=>wi σ H λJ H1=>qjn J M wi2 tt te σ H1 Q
section
variable {X:Cx}{elt iter iter2 cd:Expr}{x y:Str}{px py pos:Pos}{scope:Scope}{cl:List (Str×Aj)}{M:List Nat}{wi wi2:TI}{tt:TT}{te:TE}
theorem xyb (elt t0 i0 t1 i1 cd:Expr)(scope:Scope)(pos:Pos)(it acc:Ag)(env:Env):compTurn (elt.ListComp [⟨t0,i0,[],0⟩,⟨t1,i1,[cd],0⟩] scope pos) 1 it acc env=(standAt i1.pos >>= λ_=>pyNext it >>= λr=>match r with|none=>pure (.done .next)|some v=>letOwnedTupleGo t1 it v >>= λ_=>assign t1 env v >>= λ_=>wx2 cd env (qvv elt acc env (Code.compLoop (elt.ListComp [⟨t0,i0,[],0⟩,⟨t1,i1,[cd],0⟩] scope pos) 1 it acc env)) (again (Code.compLoop (elt.ListComp [⟨t0,i0,[],0⟩,⟨t1,i1,[cd],0⟩] scope pos) 1 it acc env))):=rfl
theorem wvh (hc:X.calm=true)(hclos:closureFor scope X.env=pure cl)(hcap:CapAll X.env cl)(hhas:HasAll cl scope.names)(hix:CapIx X scope cl M)(hk:scope.kind=.function)
  (hnames:∀y∈scope.names,y.2=.local->scope.names.lookup y.1=some .local) (hx:scope.names.lookup x=some .local) (hy:scope.names.lookup y=some .local) (hnd:(Qk X x y M).Nodup) (hi:PI X (.Name x px) iter wi)
  (hi2:∀C s2 H2 fp pn,PI (xx X scope cl x y M C s2 H2 fp pn) (.Name y py) iter2 wi2)
  (ht:∀C s2 H2 fp pn,PT (xx X scope cl x y M C s2 H2 fp pn) cd tt) (he:∀C s2 H2 fp pn,PE (xx X scope cl x y M C s2 H2 fp pn) elt te) (hs:∀z,foldedSetIterable iter X.env z=pure z) (hs2:∀env z,foldedSetIterable iter2 env z=pure z)
  {use:Option (Ag->Sem Unit)} {QQ:Ag->Ab->Prop} {pins:List (Aj×Obj)} {s:Ab} {σ:St} {H:Hp} {Q:VK} {ps:Pos} (I:Inv X pins σ H s) (h:wi σ H λJ H1=>qjn J M wi2 tt te σ H1 Q)
  (fin:∀(C:Aj) (s2 s4:Ab) (H1 H2:Hp) (fp:List Aj),Inv X pins σ H1 s2->s2.heap.objs.size<C->(∀b∈fp,vh X pins H1 b)->Inv (xx X scope cl x y M C s2 H1 fp (X.pn++pins)) [] (xc M σ none none) H2 s4->Q (.ref s2.heap.objs.size) H2 ->
   compPost (model X.prog X.w) X.A X.xe use QQ (.ref s2.heap.objs.size) C (.ok .next) s4) :
  wpAny (model X.prog X.w) X.A (comprehension (.ListComp elt [⟨.Name x px,iter,[],0⟩,⟨.Name y py,iter2,[cd],0⟩] scope pos) scope X.env ps (newList []) false (eval iter X.env) use) QQ X.xe s:=by
 refine yc hclos hhas hk hnames hi hs I h λit fp tn J H1 s2 C h3 tk I2 T t3 Z as a7 hR ad a2 a8 hD=>?_;obtain⟨W,⟨m0,w0⟩,hW⟩:=hR s2.heap.objs.size (I2.hok.fresh (ai _));have ap:(relabel scope X.env).names.lookup x=some .local:=cG hx;have an:(relabel scope X.env).names.lookup y=some .local:=cG hy;have hT:=hi2 C s2 H1 fp (X.pn++pins);have hE:=he C s2 H1 fp (X.pn++pins);have hC:=ht C s2 H1 fp (X.pn++pins);have g0:PG (xx X scope cl x y M C s2 H1 fp (X.pn++pins)) (.Name x px) (jp 0):=wm (i:=0) hnd rfl (.inl ap) (.inr ap);have g1:PG (xx X scope cl x y M C s2 H1 fp (X.pn++pins)) (.Name y py) (jp 1):=wm (i:=1) hnd rfl (.inl an) (.inr an);have fo:=uq (N:=Qk X x y M) (scope:=scope) hcap I2 ad Z as;have I0:=I2.comp2 (x:=x) (y:=y) (tk:=tk) hcap hhas hix hk ad a2 a8 hD Z a7;have fn:=λH2 s4 J4 q=>fin C s2 s4 H1 H2 fp I2 ad Z J4 q;refine vx (Y:=xx X scope cl x y M C s2 H1 fp (X.pn++pins)) (V:=λi n H2=>∃ys,W i n ys H2) (Qd:=Q (.ref s2.heap.objs.size)) (REST:=inrS iter2 _ (.ref s2.heap.objs.size) (compEnvC scope cl C X.env) _) T hc (λ_ _ z=>z) (wjk ..) rfl rfl g0 fo (λi n H2 ⟨ys,w⟩=>?_) fn I0 ⟨[],w0⟩ t3 λb L=>by rw[wv (ay (as b L))];exact(Z b L).1
 obtain⟨hp,bk⟩:=hW i n ys H2 w;refine bk.imp id λ⟨bb,a4⟩=>⟨bb,λv H3 yl=>⟨λσ4 H4=>σ4=xc M σ (some v) none/\H3=H4,⟨rfl,rfl⟩,λ_ _ e=>?_⟩⟩;obtain⟨rfl,rfl⟩:=e;refine⟨yz M σ v,λbm s' J=>?_⟩;refine wwc hT (hs2 _) J (a4 v H3 yl) λit2 fp2 tn2 J2 H8 s8 I8 T2 t8 hfp2 ⟨W2,⟨m2,w2⟩,hW2⟩=>?_;refine vx (Y:=xx X scope cl x y M C s2 H1 fp (X.pn++pins)) (V:=λj U F=>∃zs,W2 j U zs F) (Qd:=λF=>∃zs D,D<n/\W (i+1) D zs F) (REST:=wx2 cd (compEnvC scope cl C X.env) (qvv elt (.ref s2.heap.objs.size) (compEnvC scope cl C X.env) _) (again _)) T2 hc (λ_ _ z=>z) (xyb ..) rfl rfl g1 (λF hn b L=>⟨hn b L,(hfp2 b L).2⟩) (λj U F ⟨zs,w9⟩=>?_)
  (λF s9 J9 ⟨zs,D,ab,wq⟩=>⟨F,J9,D,ab,zs,wq⟩) I8 ⟨ys,w2⟩ t8 λb L=>(hfp2 b L).1
 obtain⟨bs,a3,bd⟩:=hW2 j U zs F w9;refine bd.imp (λ⟨a6,D,ab,wq⟩=>⟨a6,zs,D,ab,wq⟩) λ⟨a9,a5⟩=>⟨a9,λu a0 a1=>⟨λσ4 H4=>σ4=xc M σ (some v) (some u)/\a0=H4,⟨rfl,rfl⟩,λ_ _ e=>?_⟩⟩;obtain⟨rfl,rfl⟩:=e;refine⟨yk M σ (some v) u,λbl s9 J9=>?_⟩;exact Wg hC J9 (a5 u a0 a1) (λs6 H6 J6 h6=>aP (yf (N:=λzs H5=>∃D,D<U/\W2 (j+1) D zs H5) (λ_ _ z=>z) hE J6 a3 h6) (λr s5 ⟨e,H5,J5,zs,D,hm,w'⟩=>⟨e,H5,J5,D,hm,zs,w'⟩) λ_ _ z=>z)
  λs6 H6 J6 ⟨_,D,hm,w'⟩=>ah ⟨rfl,H6,J6,D,hm,zs,w'⟩
end
section
variable {X:Cx}{elt iter iter2 cd:Expr}{x y2:Str}{px py2 pos:Pos}{scope:Scope}{cl:List (Str×Aj)}{M:List Nat}{wi wi2:TI}{tt:TT}{te:TE}
theorem qy9 {i:Nat}{y:Str}{py spos:Pos}(hN:X.N.Nodup)(hyi:X.N[i]?=some y)(hyl:Loc X.env.scope y)(hc:X.calm=true)(hclos:closureFor scope X.env=pure cl)(hcap:CapAll X.env cl)(hhas:HasAll cl scope.names)(hix:CapIx X scope cl M)(hk:scope.kind=.function)
  (hnames:∀y∈scope.names,y.2=.local->scope.names.lookup y.1=some .local) (hx:scope.names.lookup x=some .local) (hy2:scope.names.lookup y2=some .local) (hnd:(Qk X x y2 M).Nodup) (hi:PI X (.Name x px) iter wi) (hi2:∀C s2 H2 fp pn,PI (xx X scope cl x y2 M C s2 H2 fp pn) (.Name y2 py2) iter2 wi2)
  (ht:∀C s2 H2 fp pn,PT (xx X scope cl x y2 M C s2 H2 fp pn) cd tt) (he:∀C s2 H2 fp pn,PE (xx X scope cl x y2 M C s2 H2 fp pn) elt te) (hs:autoParam (∀z,foldedSetIterable iter X.env z=pure z) aU3._auto_1) (hs2:autoParam (∀env z,foldedSetIterable iter2 env z=pure z) aU7._auto_1)
  (hsw:autoParam (swapsWith (.ListComp elt [⟨.Name x px,iter,[],0⟩,⟨.Name y2 py2,iter2,[cd],0⟩] scope pos) (some (.Name y py)) spos.line X.env=pure true) aU4._auto_1) (hyf:autoParam (X.fn y=true\/X.env.scope.names.lookup y=some .local) aU0._auto_1) :
  PS X (.Assign [.Name y py] (.ListComp elt [⟨.Name x px,iter,[],0⟩,⟨.Name y2 py2,iter2,[cd],0⟩] scope pos) spos) (wx8 (xj3 M wi wi2 tt te) (jp i)):=by
 intro pins s σ H D I h;rw[d7 _ _ _ _ hsw];refine ac (cw (ac ?_));refine ac (aP (wvh hc hclos hcap hhas hix hk hnames hx hy2 hnd hi hi2 ht he hs hs2 (use:=some (assign (.Name y py) X.env)) (QQ:=λ_ s'=>SP X pins D .next s') I h λC s2 W H1 H2 fp J L a1 J4 hq=>?_) (λ_ s' hq=>ah (ah hq)) λ_ _ e=>e);have F:Inv X pins σ H2 W:=J.uncomp2 (h':=W.heap) (ba L) a1 J4 (fB _ _);have an:H2 C=none:=J4.free;obtain⟨mC,a0,_⟩:=J4.loc;obtain⟨Z,a7,a8,as,ad⟩:=id a0;have ab:C≠X.env.locals:=λz=>aN _ (aR L (z▸J.lt));have a3:X.s₀.heap.objs.size<=C:=bo J.sz (ba L);have a5:∀y c,X.env.cells.lookup y=some c->c≠C:=λy c e z=>by obtain⟨v,o,U,_⟩:=J.cell y c e;exact aN _ (aR L (z▸aj U))
 have a4:∀p∈X.pn++pins,p.1≠C:=λp hp z=>aN _ (aR L (z▸aj (J.pin p hp).1));have bb:C∉frs X.stack:=λz=>by
  rcases aC.mp (J.stkSub C z) with q|q
  .exact ab q
  .obtain⟨_,o,U,_⟩:=J.funs.mem (b:=C) q;exact aN _ (aR L (aj U))
 have a2:C∉X.fs:=λz=>by obtain⟨_,o,U,_⟩:=J.funs.mem (b:=C) z;exact aN _ (aR L (aj U))
 have a9:Inv X (pins++[(C,Z)]) σ H2 W:=⟨F.ok,F.os,F.bare,F.base,F.loc,F.cell,F.free,F.freeC,λp hp=>by
  rcases aY.mp hp with q|q
  .exact F.pin p (bD _ q)
  .rcases aY.mp q with q|q
   .exact F.pin p (az _ q)
   .rw[aQ.mp q]
    exact⟨as,an,ab,a2,λv z=>by rw[ad.1]at z;cases z⟩,F.hok,F.len⟩
 show wpAny _ _ (assign (.Name y py) X.env (.ref s2.heap.objs.size)) _ _ _;refine ee (jz a9 hN hyi hyl (show RelV (.ref s2.heap.objs.size) (.ref s2.heap.objs.size) from rfl) (λs5 I5=>?_) hyf);have a6:=(I5.pin (C,Z) (az _ (az _ (.head _)))).1;exact⟨mC,⟨Z,a7,a8,a6,ad⟩,λh' ap=>⟨_,H2,I5.unpinned.but an a3 ab a5 a4 ap,hq⟩⟩
end
end L2
namespace L2
open PySem PySem.Spec PyProof.Rows
def Itd (a:Int)(n:Nat):It:=⟨λi _=>i<n,λi H x H'=>H'=H/\x=.int (a-i),λi _=>n<=i⟩
theorem wuk {P:Ac}{w:Ah}{K:Aa}{tg:Expr}(it:Aj)(a:Int)(n:Nat):Turn P w K tg (Itd a n) [it] it (λi h=>IsRangeIter h it (a+(i:Nat)*(-1)) ((n:Int)-(i:Nat)) (-1)) where
 mem:=by simp
 obj:=λi h st b hb=>by cases(aQ.mp hb);exact⟨_,st,λv z=>nomatch (show Data.fields _=Data.cell v from z)⟩
 keep:=λi h h' st k=>k it (by simp) _ st
 item:=by intro X hP hw hK hc i pins s σ H E I hf st hg;subst hP hw hK;have hfi:=hf it (by simp);refine(Walks.range (prog:=X.prog) (w:=X.w) (I.ok.hd hc) it a (-1) n).item i s _ _ hg st λv h' tk hv st' kk=>?_;obtain⟨t,rfl⟩:=hv;have I1:Inv X pins σ H { s with heap:=h',toks:=tk }:=I.turned (λb o hb e=>kk b o (by simpa using hb) e) hfi.1 hfi.2.1 hfi.2.2.2.1 hfi.2.2.2.2.1 hfi.2.2.2.2.2;refine⟨_,rfl,wk5 (s:={ s with heap:=h',toks:=tk }) (n := "range_iterator") st' rfl rfl ⋯ ⟨.int (a-i),H,I1,⟨t,?_⟩,⟨rfl,rfl⟩,st',λb hb=>(hf b hb).1⟩⟩;congr 1;lia
 done:=by intro X hP hw hK hc i pins s σ H E I hf st hg;subst hP hw hK;have hfi:=hf it (by simp);exact wpAny_pyNext_range_end (I.ok.hd hc) st (by have:n<=i:=hg;lia) λh' eb=>⟨rfl,I.turned (t':=s.toks) (λb o hb e=>eb b o hb e) hfi.1 hfi.2.1 hfi.2.2.2.1 hfi.2.2.2.2.1 hfi.2.2.2.2.2⟩
 self:=λ_ _ _ _ _ st h=>wpAny_pyIter_rangeiter st h
section
variable {X:Cx}{tg:Expr}
theorem xk9 {pins:List (Aj×Obj)}{σ:St}{H:Hp}{s:Ab}{R:It->Hp->Prop}{E:Ag->Ab->Prop}{a b:Int}{t u v:Tok}{tk:Nat}(I:Inv X pins σ H s)(h1:-(2 ^ 62)<=a)(h2:a<2 ^ 62)(h3:-(2 ^ 62)<=b)(h4:b<2 ^ 62)
  (q:R (Itd a (a-b).toNat) H):wpAny (model X.prog X.w) X.A (pyIter (.ref s.heap.objs.size)) (PIE X pins σ tg R) E { s with heap:=s.heap.push { cls:=.type "range",data:=.fields #[.int a t,.int b u,.int (-1) v] },toks:=tk }:=by
 refine wpAny_pyIter_range (i3 ..) (W.small_down h1 h2 h3 h4) ?_;generalize eh:s.heap.push { cls:=.type "range",data:=.fields #[.int a t,.int b u,.int (-1) v] }=h1;have z:Inv X pins σ H { s with heap:=h1,toks:=tk }:=I.kept λb o e=>by rw[<-eh];exact ag _ e
 refine⟨h1.objs.size,[h1.objs.size],_,_,H,rfl,z.kept (t':=tk) λb o e=>ag _ e,wuk _ a (a-b).toNat,?_,λc D=>?_,q⟩
 .have J:a+((0:Nat):Int)*(-1)=a:=by lia
  have F:(((a-b).toNat:Nat):Int)-((0:Nat):Int)=Builtin.Range.rangeSize a b (-1):=by rw[W.rangeSize_downNat];lia
  show IsRangeIter _ _ (a+((0:Nat):Int)*(-1)) ((((a-b).toNat:Nat):Int)-((0:Nat):Int)) (-1);rw[J,F];exact ax _ rfl
 .cases(aQ.mp D);exact z.fpOk (ai _) (z.hok.fresh (ai _))
def iRngD (ta:TA):TI:=λσ H R=>ta σ H λvs H1=>∃i j:Int,vs=[.int i,.int j,.int (-1)]/\(-(2 ^ 40)<=i/\i<2 ^ 40/\-(2 ^ 40)<=j/\j<2 ^ 40)/\R (Itd i (i-j).toNat) H1
theorem xqf {a b c:Expr}{ta:TA}{p pos:Pos}(hg:Gl X "range")(hm:X.mg "range" = none)(ha:PA X [a,b,c] ta)(hs:autoParam (starEach [a,b,c] X.env=(false,eval a X.env)::starEach [b,c] X.env) aU4._auto_1)(hs2:autoParam ((backTo pos (starEach [b,c] X.env)).any (·.1)=false) aU4._auto_1) :
  PI X tg (.Call (.Name "range" p) [a,b,c] [] pos) (iRngD ta):=by
 intro pins s σ H R I h;refine Call_ (jb I hg hm iK (bi (thn (ha pos pins s σ H _ I h) λus s1 ⟨vs,H1,I1,r1,z⟩=>?_) hs hs2));obtain⟨i,j,rfl,⟨z,U,L,J⟩,q⟩:=z;cases r1 with
 |cons r rr =>
  cases rr with
  |cons r' rr =>
   cases rr with
   |cons r'' rr =>
    cases rr;obtain⟨t,rfl⟩:=r;obtain⟨F,rfl⟩:=r';obtain⟨D,rfl⟩:=r'';exact PySem.call_range_3 ⋯ (xk9 I1 ⋯ ⋯ ⋯ ⋯ q) (Or.inl (PyProof.noPylong_small ⋯))
end
theorem xz4 {a:Int}{n:Nat}{g:TG}{tb:TS}{D:Ends}{σ:St}{H:Hp}(Pv:Nat->St->Hp->Prop)(h0:Pv 0 σ H)
  (hs:∀i σ H,i<n->Pv i σ H->g (.int (a-i)) σ H λσ2 H2=>tb { D with nx:=Pv (i+1),ct:=Pv (i+1),bk:=D.nx } σ2 H2) (hd:∀σ H,Pv n σ H->D.nx σ H) :
  ∃W:Nat->Nat->St->Hp->Prop,(∃m,W 0 m σ H)/\∀i m σ H,W i m σ H ->
   ((Itd a n).stop i H/\D.nx σ H)\/((Itd a n).go i H/\∃N:St->Hp->Prop,(∀σ' H',N σ' H'->∃m',m'<m/\W (i+1) m' σ' H')/\∀x H',(Itd a n).yld i H x H'->g x σ H' λσ2 H2=>tb { D with nx:=N,ct:=N,bk:=D.nx } σ2 H2):=by
 refine⟨λi m σ H=>m=n-i/\i<=n/\Pv i σ H,⟨n,by simp,aK _,h0⟩,?_⟩;rintro i m σ H ⟨rfl,hi,p⟩;rcases bj i n with z|z
 .refine .inr ⟨z,Pv (i+1),λσ' H' F=>⟨n-(i+1),⋯,rfl,⋯,F⟩,?_⟩;rintro x H' ⟨rfl,rfl⟩;exact hs i σ _ z p
 .obtain rfl:i=n:=by lia
  exact .inl ⟨ai _,hd σ H p⟩
end L2
namespace L2
def qqx (S:Int)(p:Int×Int):Int:=p.1*S/p.2
theorem wyq {S:Int}{p q:Int×Int}(hS:0<=S)(hp:1<=p.2)(hq:1<=q.2)(h:p.1*q.2<=q.1*p.2):qqx S p<=qqx S q:=by
 unfold qqx;refine(fC ⋯).mpr ?_;have z:p.1*S/p.2*p.2<=p.1*S:=iX _ ⋯;generalize p.1*S/p.2=k at z ⊢;have W:k*p.2*q.2<=p.1*S*q.2:=aD z ⋯;have U:p.1*q.2*S<=q.1*p.2*S:=aD h hS;have D:k*q.2*p.2<=q.1*S*p.2:=by
  have L:k*q.2*p.2=k*p.2*q.2:=by grind
  have J:p.1*S*q.2=p.1*q.2*S:=by grind
  have F:q.1*S*p.2=q.1*p.2*S:=by grind
  lia
 exact gN D ⋯
theorem wjj {G:Int}{p q:Int×Int}(hp:1<=p.2)(hq:1<=q.2)(gp:p.2<=G)(gq:q.2<=G)(h:p.1*q.2<q.1*p.2):qqx (G*G) p<qqx (G*G) q:=by
 have z:0<=G*G:=cb ⋯ ⋯;have F:p.2*q.2<=G*G:=bQ gp gq ⋯ ⋯;unfold qqx;generalize G*G=S at z F;have D:p.1*S/p.2*p.2<=p.1*S:=iX _ ⋯;refine(fC ⋯).mpr ?_;generalize p.1*S/p.2=k at D ⊢;have a2:k*p.2*q.2<=p.1*S*q.2:=aD D ⋯;have Z:(p.1*q.2+1)*S<=q.1*p.2*S:=aD ⋯ z;have J:(k+1)*q.2*p.2<=q.1*S*p.2:=by
  have W:(k+1)*q.2*p.2=k*p.2*q.2+p.2*q.2:=by grind
  have U:p.1*S*q.2+S=(p.1*q.2+1)*S:=by grind
  have L:q.1*S*p.2=q.1*p.2*S:=by grind
  lia
 exact gN J ⋯
def Wor (pt:Nat->Int×Int)(i j:Nat):Prop:=(pt i).1*(pt j).2<(pt j).1*(pt i).2\/((pt i).1*(pt j).2=(pt j).1*(pt i).2/\i<j)
theorem wvk {pt:Nat->Int×Int}{G:Int}{i j:Nat}(hi:1<=(pt i).2)(hj:1<=(pt j).2)(gi:(pt i).2<=G)(gj:(pt j).2<=G)
  (h:qqx (G*G) (pt i)<qqx (G*G) (pt j)\/(qqx (G*G) (pt i)=qqx (G*G) (pt j)/\i<j)):Wor pt i j:=by
 have z:0<=G*G:=cb ⋯ ⋯;unfold Wor;rcases Int.lt_trichotomy ((pt i).1*(pt j).2) ((pt j).1*(pt i).2) with c|c|c
 .exact .inl c
 .have F:=wyq z hi hj (Int.le_of_eq c);have D:=wyq z hj hi (Int.le_of_eq c.symm);exact .inr ⟨c,⋯⟩
 .have:=wjj hj hi gj gi c;lia
end L2
namespace L2
open PySem PySem.Spec PySem.Calls PySem.W PyProof.Rows
def vm:List Int->List Int->Bool
 |x::xs,y::ys=>if x=y then vm xs ys else decide (x<y)
 |_,_=>false
section
variable {prog:Ac}{w:Ah}{A:Ae}{E:Ag->Ab->Prop}{s:Ab}{Q:Bool->Ab->Prop}
theorem wjh:∀ {us vs:List Ag} {xs ys:List Int} (i:Nat),IntsAre us xs->IntsAre vs ys->Q (vm xs ys) s->KatLex prog w A true false Q (us.zip vs) i s
 |_,_,_,_,i,.nil,b,h=>by cases b <;> exact h
 |_,_,_,_,i,.cons _ _ _,.nil,h=>h
 |_,_,_,_,i,@IntsAre.cons x t us xs a,@IntsAre.cons y u vs ys b,h=>by
  show KatLex prog w A true false Q ((Value.int x t,Value.int y u)::us.zip vs) i s;refine kat_cons (wpAny_eqBool_int ?_);refine kat_go (λe=>kat_yes ?_) λe=>kat_no ?_
  .refine wjh (i+1) a b ?_;have e':x=y:=by simpa using e
   unfold vm at h;rw[aw e']at h;exact h
  .have e':¬ x=y:=by simpa using e
   unfold vm at h;rw[ao e']at h;by_cases c:i=0
   .subst c;exact oneLt_int h
   .have z:(true&&i==0)=false:=by simp[c]
    rw[z];exact kat_one _ _ (lt_int h)
theorem lex_lt {x y:Aj}{us vs:List Ag}{xs ys:List Int}{ox oy:Obj}{n k:Nat}(hx:s.heap.get? x=some ox)(dx:ox.data=.seq us.toArray n)(hy:s.heap.get? y=some oy)(dy:oy.data=.seq vs.toArray k)
  (a:IntsAre us xs) (b:IntsAre vs ys) (hl:us.length=vs.length) (h:Q (vm xs ys) s):wpAny (model prog w) A (keyLt' (tuples' true) (.ref x) (.ref y)) Q E s:=by
 refine kat_lt hx dx hy dy ?_;have e:decide (us.toArray.size<vs.toArray.size)=false:=by simp[hl]
 rw[e];exact wjh 0 a b h
end
theorem wkz:∀xs,vm xs xs=false
 |[]=>rfl
 |x::xs=>by unfold vm;rw[aw rfl];exact wkz xs
theorem qkw:∀ {n:Nat} {xs ys zs:List Int},xs.length=n->ys.length=n->zs.length=n->vm xs ys=true->vm ys zs=true->vm xs zs=true
 |0,[],[],[],_,_,_,h,_=>h
 |n+1,x::xs,y::ys,z::zs,h1,h2,h3,a,b=>by
  unfold vm at a b ⊢;by_cases e1:x=y
  .rw[aw e1]at a;subst e1;by_cases e2:x=z
   .rw[aw e2]at b ⊢;exact qkw (by simpa using h1) (by simpa using h2) (by simpa using h3) a b
   .rw[ao e2]at b ⊢;exact b
  .rw[ao e1]at a;have:=dw a;by_cases e2:y=z
   .rw[aw e2]at b;subst e2;rw[ao e1];exact a
   .rw[ao e2]at b;have:=dw b;rw[ao ⋯];exact aM ⋯
theorem qux:∀ {n:Nat} {xs ys:List Int},xs.length=n->ys.length=n->vm xs ys=true\/xs=ys\/vm ys xs=true
 |0,[],[],_,_=>.inr (.inl rfl)
 |n+1,x::xs,y::ys,h1,h2=>by
  unfold vm;by_cases e:x=y
  .subst e;rw[aw rfl,aw rfl];rcases qux (n:=n) (xs:=xs) (ys:=ys) (by simpa using h1) (by simpa using h2) with h|h|h
   .exact .inl h
   .exact .inr (.inl (by rw[h]))
   .exact .inr (.inr h)
  .rw[ao e,ao (λz=>e z.symm)];by_cases c:x<y
   .exact .inl (aM c)
   .exact .inr (.inr (aM ⋯))
def kzL (ks:List (List Int))(x:List Int):Int:=((ks.countP λy=>vm y x:Nat):Int)
theorem qj6 {n:Nat}{ks:List (List Int)}{x y:List Int}(hn:∀k∈ks,k.length=n)(hx:x∈ks)(hy:y∈ks):kzL ks x<kzL ks y↔vm x y=true:=by
 have L:∀u v,u∈ks->v∈ks->vm u v=true->(ks.countP λk=>vm k u)<ks.countP λk=>vm k v:=λu v D hv h=>by
  have J:∀k∈ks,vm k u=true->vm k v=true:=λk F e=>qkw (hn k F) (hn u D) (hn v hv) e h;have U:(ks.countP λk=>vm k u)<=(ks.countP λk=>vm k v&&!(k==u)):=by
   refine List.countP_mono_left λk F e=>?_;have:k≠u:=λz=>by rw[z,wkz]at e;cases e
   simp[J k F e,this]
  have Z:(ks.countP λk=>vm k v&&!(k==u))+(ks.countP λk=>vm k v&&(k==u))<=ks.countP λk=>vm k v:=by
   clear J U D hv hn hx hy
   induction ks with
   |nil=>simp
   |cons k r ih =>
    simp only[List.countP_cons];by_cases c1:vm k v=true <;> by_cases c2:(k==u)=true <;> simp[c1,c2]at ih ⊢ <;> lia
  have W:0<ks.countP λk=>vm k v&&(k==u):=List.countP_pos_iff.mpr ⟨u,D,by simp[h]⟩;lia
 unfold kzL;constructor
 .intro h;rcases qux (hn x hx) (hn y hy) with c|c|c
  .exact c
  .rw[c]at h;lia
  .have:=L y x hy hx c;lia
 .intro h;have:=L x y hx hy h;lia
end L2
namespace L2
open PySem PySem.Spec PySem.Calls PySem.W PyProof.Rows
inductive TK (h:Heap) (d:Nat):List Ag->List (List Int)->Prop
 |nil:TK h d [] []
 |cons {x:Aj} {o:Obj} {us:List Ag} {n:Nat} {xs:List Int} {ks:List Ag} {kss:List (List Int)} (ho:h.get? x=some o) (hc:o.cls=.type "tuple") (hd:o.data=.seq us.toArray n) (hi:IntsAre us xs) (hl:xs.length=d) (t:TK h d ks kss):TK h d (.ref x::ks) (xs::kss)
theorem TK.length {h:Heap}{d:Nat}{ks:List Ag}{kss:List (List Int)}(t:TK h d ks kss):ks.length=kss.length:=by
 induction t with
 |nil=>rfl
 |cons _ _ _ _ _ _ ih=>simp[ih]
theorem TK.lens {h:Heap}{d:Nat}{ks:List Ag}{kss:List (List Int)}(t:TK h d ks kss):∀k∈kss,k.length=d:=by
 induction t with
 |nil=>intro k D;cases D
 |cons _ _ _ _ hl _ ih=>intro k D;rcases aC.mp D with rfl|z;exact hl;exact ih k z
theorem TK.kept {h h':Heap}{d:Nat}{ks:List Ag}{kss:List (List Int)}(t:TK h d ks kss)(k:∀b o,h.get? b=some o->o.cls=.type "tuple" -> h'.get? b=some o):TK h' d ks kss:=by
 induction t with
 |nil=>exact .nil
 |cons a b c e f _ ih=>exact .cons (k _ _ a b) b c e f ih
theorem TK.at_ {h:Heap}{d:Nat}{ks:List Ag}{kss:List (List Int)}(t:TK h d ks kss):∀i,i<kss.length->∃x o us n,ks.getD i .none=.ref x/\h.get? x=some o/\o.data=.seq us.toArray n/\IntsAre us (kss.getD i [])/\(kss.getD i []).length=d:=by
 induction t with
 |nil=>intro i hi;simp at hi
 |@cons x o us n xs ks kss a b c e f _ ih =>
  intro i hi;cases i with
  |zero=>exact⟨x,o,us,n,rfl,a,c,e,f⟩
  |succ i=>exact ih i (by simpa using hi)
theorem Wb {us:List Ag}{xs:List Int}(h:IntsAre us xs):us.length=xs.length:=by
 induction h with
 |nil=>rfl
 |cons _ _ _ ih=>simp[ih]
theorem TK.tups {h:Heap}{d:Nat}{ks:List Ag}{kss:List (List Int)}(t:TK h d ks kss)(hd:1<=d):∃fs,KatTups h ks fs/\fs.length=ks.length/\∀v∈fs,∃i t,v=Value.int i t:=by
 induction t with
 |nil=>exact⟨[],trivial,rfl,λv hv=>by cases hv⟩
 |@cons x o us n xs ks kss a b c e f _ ih =>
  obtain⟨fs,h1,h2,D⟩:=ih;cases e with
  |nil=>simp at f;lia
  |@cons i t us' xs' e'=>exact⟨.int i t::fs,KatTups.cons a b c (by simp) h1,by simp[h2],λv hv=>by rcases aC.mp hv with rfl|z;exact⟨i,t,rfl⟩;exact D v z⟩
section
variable {prog:Ac}{w:Ah}{A:Ae}{E:Ag->Ab->Prop}{s:Ab}{a kS:Aj}{vs ks:List Ag}{P:PySem.Fin->Ab->Prop}
end
end L2
namespace L2
open PySem PySem.Spec PySem.Calls PySem.W PyProof.Rows
section
variable {prog:Ac}{w:Ah}{A:Ae}{E:Ag->Ab->Prop}{s:Ab}{a kS:Aj}{vs ks:List Ag}{P:PySem.Fin->Ab->Prop}{f:Ag}
theorem wjm {α:Type}{J:List Ag->List α->Ab->Prop}{body:Ag->PUnit->Sem (ForInStep PUnit)}
  (hb:∀x ks kss (s:Ab),vs[ks.length]?=some x->J ks kss s->wpAny (model prog w) A (body x ⟨⟩) (λr s'=>r=.yield ⟨⟩/\∃k xs,J (ks++[k]) (kss++[xs]) s') E s):∀(r ks:List Ag) (kss:List α) (s:Ab),vs=vs.take ks.length++r->ks.length<=vs.length ->
   J ks kss s->wpAny (model prog w) A (forIn r PUnit.unit body) (λ_ s'=>∃ks kss,ks.length=vs.length/\J ks kss s') E s
 |[],ks,kss,s,hv,hl,j=>by rw[List.forIn_nil];refine ah ⟨ks,kss,?_,j⟩;rw[bG]at hv;have:=bT List.length hv;rw[bv]at this;lia
 |x::r,ks,kss,s,hv,hl,j=>by
  rw[List.forIn_cons];have hlen:=bT List.length hv;rw[ar,bv,aB]at hlen;have hx:vs[ks.length]?=some x:=by
   rw[hv,aF (by rw[bv];lia),bv];have:ks.length-min ks.length vs.length=0:=by lia
   rw[this];rfl
  refine ac (aP (hb x ks kss s hx j) (λq s' D=>?_) λ_ _ x=>x);obtain⟨rfl,k,xs,z⟩:=D;show wpAny (model prog w) A (forIn r PUnit.unit body) _ E s';refine wjm hb r (ks++[k]) (kss++[xs]) s' ?_ (by rw[ar,cq];lia) z;rw[ar,cq,cY,hx];simpa using hv
def Zd (h:Heap)(a:Aj)(vs:List Ag):Heap:=((h.update a (Obj.mapSeq λ_=>(#[]:Array Ag))).push (seqObj "tuple" vs.toArray 0)).push (seqObj "list" #[] 0)
end
end L2
namespace L2
open PySem PySem.Spec PySem.Calls PySem.W PyProof.Rows
section
variable {X:Cx}{pins:List (Aj×Obj)}{σ:St}{H:Hp}{s:Ab}
theorem Inv.track {D:Aj}{o:HO}(I:Inv X pins σ H s)(hD:vh X pins H D)(new:ObjOk X.prog X.w (upd H D o) s.heap D o):Inv X pins σ (upd H D o) s:=by
 obtain⟨F,Z,q3,W,U,L⟩:=hD;refine I.call' (s':=s) (ch:=[D]) rfl ⟨λb u q _ _ _=>q,λb u q _ _ _=>⟨u.slots,q⟩,λb u q n hx=>?_,λb u q _=>⟨u,q⟩,λb xs q=>?_,λb u xs q=>?_,λb ps q=>⟨#[],?_⟩⟩ (λb u e=>?_) I.bare λb J=>?_
 .rw[wv (λz=>hx (by simp[z]))];exact n
 .rw[wv (wj q F)];exact q
 .rw[wv (wj q F)];exact q
 .rw[wv (wj q F),q];simp
 .by_cases J:b=D
  .subst J;rw[qh]at e;cases e;exact new
  .rw[wv J]at e;exact(I.hok b u e).stay (λc v _ q=>q) (λc q=>by rw[wv (wj q F)];exact q) λc xs q=>by rw[wv (wj q F)];exact q
 .obtain rfl:b=D:=by simpa using J
  exact⟨W,Z,U,L⟩
end
end L2
namespace L2
open PySem PySem.Spec PySem.Calls PySem.W PyProof.Rows
def xwh (X:Cx)(f:Ag)(ks:List Str)(r:List V->List V->Hp->VK->Prop):Prop :=
 ∀(pins:List (Aj×Obj)) (s:Ab) (σ:St) (H:Hp) (xs zs:List V) (us ws:List Ag) (Q:VK),Inv X pins σ H s->Vals xs us->Vals zs ws->r xs zs H Q ->
  wpAny (model X.prog X.w) X.A (call f us (ks.zip ws)) (EP X pins σ Q) X.xe s
def tCBK (r:List V->List V->Hp->VK->Prop)(t tk:TA):TE:=λσ H Q=>t σ H λvs H1=>tk σ H1 λzs H2=>r vs zs H2 Q
section
variable {X:Cx}{x:Str}{p pos:Pos}{e:Expr}{es:List Expr}{kws:List Keyword}{t tk:TA}{id:String}{ks:List Str}{r:List V->List V->Hp->VK->Prop}
theorem wyt (hc:xwh X (.builtin id) ks r)(hg:Gl X x)(hm:X.mg x=none)(hv:bootBuiltins x=some (.builtin id))(ha:PA X (e::es) t)(hkw:PK X kws tk)
  (hall:autoParam ((backToKw pos (keywordEach kws X.env)).all (·.1.isSome)=true) aU4._auto_1) (hks:autoParam ((backToKw pos (keywordEach kws X.env)).filterMap (·.1)=ks) aU4._auto_1) (hn:autoParam (x ≠ "__name__") aU2._auto_1) (hdb:autoParam ((x==("__debug__" : Str))=false) aU1._auto_1)
  (he:autoParam (starEach (e::es) X.env=(false,eval e X.env)::starEach es X.env) aU4._auto_1)
  (hpl:autoParam ((backTo pos (starEach (e::es) X.env)).any (·.1)=false) aU4._auto_1) (hpk:autoParam ((backToKw pos (keywordEach kws X.env)).any (·.1.isNone)=false) aU4._auto_1):PE X (.Call (.Name x p) (e::es) kws pos) (tCBK r t tk):=by
 intro pins s σ H Q I h;refine ca (jb I hg hm hv ?_ hn hdb);refine callWith_builtin_kwB hpl hpk (evalArgs_kw2 hall (thn (ha pos pins s σ H _ I h) λus s1 ⟨vs,H1,I1,r1,q⟩=>?_) he);refine thn (hkw pos pins s1 σ H1 _ I1 q) λws s2 ⟨zs,H2,I2,rz,q2⟩=>?_;dsimp only [List.nil_append];rw[hks];exact hc pins s2 σ H2 vs zs us ws Q I2 r1 rz q2
end
end L2
namespace L2
open PySem PySem.Spec PyProof.Rows
def Tups (L:List (List Int))(ys:List V)(H:Hp):Prop:=Paired (λv xs=>∃a,v=.ref a/\H a=some (.tup (xs.map V.int))) ys L
theorem Tups.keep {L:List (List Int)}{ys:List V}{H H':Hp}(h:Tups L ys H)(k:∀a xs,H a=some (.tup xs)->H' a=some (.tup xs)):Tups L ys H' :=
 Paired.mono (λ_ _ ⟨a,e,f⟩=>⟨a,e,k a _ f⟩) h
theorem Tups.same {L:List (List Int)}{ys:List V}{H H':Hp}(h:Tups L ys H)(s:Same H H'):Tups L ys H':=h.keep λa xs e=>s a _ e
theorem Tups.upd {L:List (List Int)}{ys zs:List V}{H:Hp}{p:Aj}{o:HO}(h:Tups L ys H)(hp:H p=some (.lst zs)):Tups L ys (upd H p o):=h.keep λa xs e=>by rw[wv (λz=>by rw[z,hp]at e;cases e)];exact e
theorem Tups.snoc {L:List (List Int)}{ys:List V}{H:Hp}{a:Aj}{xs:List Int}(h:Tups L ys H)(ha:H a=some (.tup (xs.map V.int))):Tups (L++[xs]) (ys++[.ref a]) H:=Paired.app h (.cons ⟨a,rfl,ha⟩ .nil)
theorem Tups.get {L:List (List Int)}{ys:List V}{H:Hp}(h:Tups L ys H){i:Nat}{v:V}(e:ys[i]?=some v):∃a xs,v=.ref a/\L[i]?=some xs/\H a=some (.tup (xs.map V.int)):=by
 unfold Tups at h
 induction h generalizing i with
 |nil=>simp at e
 |cons r t ih =>
  cases i with
  |zero =>
   obtain⟨a,rfl,f⟩:=r;simp at e;exact⟨a,_,e.symm,rfl,f⟩
  |succ i=>exact ih (by simpa using e)
theorem Tups.len {L:List (List Int)}{ys:List V}{H:Hp}(h:Tups L ys H):ys.length=L.length:=bC h
section
variable {X:Cx}{K:Aa}
theorem xz7 (hK:X.K=K):OpR X (binaryOp .Add) (rCatW K):=by subst hK;exact xj5
end
def Yu (c:Int->Bool)(row vs:List Int):List (List Int):=(vs.filter c).map λv=>row++[v]
theorem qk1 (c:Int->Bool)(row vs:List Int)(v:Int):Yu c row (vs++[v])=Yu c row vs++if c v=true then [row++[v]] else []:=by
 unfold Yu;rw[cD,aA];congr 1;by_cases h:c v=true
 .rw[aw h,bW,aw h];rfl
 .rw[ao h,bW,ao h];rfl
theorem wxv (c:Int->Bool)(row vs:List Int):(Yu c row vs).length<=vs.length:=by unfold Yu;rw[af];exact bN _ _
def Z7 (c:Int->Bool)(g:List Int->List Int)(L:List (List Int)):List (List Int):=L.flatMap λr=>Yu c r (g r)
theorem qun {c:Int->Bool}{g:List Int->List Int}:∀ {L:List (List Int)},(∀r∈L,(g r).length<=24)->(Z7 c g L).length<=24*L.length
 |[],_=>ai _
 |r::L,h=>by
  have ih:=qun (c:=c) (g:=g) (L:=L) λr hr=>h r (.tail _ hr);have h1:=wxv c r (g r);have h2:=h r (.head _);have e:Z7 c g (r::L)=Yu c r (g r)++Z7 c g L:=by unfold Z7;rw[List.flatMap_cons]
  rw[e,ar,aB];lia
theorem xqt (c:Int->Bool)(g:List Int->List Int){L:List (List Int)}{i:Nat}{r:List Int}(h:L[i]?=some r):Z7 c g (L.take (i+1))=Z7 c g (L.take i)++Yu c r (g r):=by unfold Z7;rw[cY,h,gm];simp
theorem wxk {K:Aa}{M:List Nat}{q:Aj}{us:List V}{wi2:TI}{tt:TT}{te:TE}{σ:St}{H:Hp}{Q:VK}(L:List (List Int))(g:List Int->List Int)(c:Int->Bool)(hq:SqL K H q us)(hL:Tups L us H)(hn:L.length<=10000)(hg:∀r∈L,(g r).length<=24)
  (hw:∀(r:List Int) (a:Aj) (H':Hp) (R:It->Hp->Prop),r∈L->H' a=some (.tup (r.map V.int))->Same H H'->(∀b,SqL K H b ((g r).map V.int)->R (Itl K b) H')->wi2 (xc M σ (some (.ref a)) none) H' R)
  (ht:∀(r:List Int) (a:Aj) (u:Int) (H':Hp) (R:Bool->Hp->Prop),r∈L->u∈g r->Same H H'->R (c u) H'->tt (xc M σ (some (.ref a)) (some (.int u))) H' R)
  (he:∀(r:List Int) (a:Aj) (u:Int) (H':Hp) (R:VK),r∈L->u∈g r->c u=true->H' a=some (.tup (r.map V.int))->Same H H'->(∀b H'',Same H' H''->H'' b=some (.tup ((r++[u]).map V.int))->R (.ref b) H'')->te (xc M σ (some (.ref a)) (some (.int u))) H' R)
  (k:∀p ys H',H p=none->Same H H'->H' p=some (.lst ys)->Tups (Z7 c g L) ys H'->Q (.ref p) H'):qjn (Itl K q) M wi2 tt te σ H Q:=by
 have an:(1000000:Nat)<sizeLine:=by decide
 intro p np;have ad:∀ {H':Hp} {o:HO},Same H H'->Same H (upd H' p o):=λs b u e=>by rw[wv (wj e np)];exact s b u e
 have tl:∀i,∀r∈L.take i,(g r).length<=24:=λi r hr=>hg r (List.mem_of_mem_take hr);have lu:=hL.len;refine⟨λi m ys H2=>i<=L.length/\m=L.length-i/\Same H H2/\H2 p=some (.lst ys)/\Tups (Z7 c g (L.take i)) ys H2,⟨L.length,aK _,rfl,Same.upd np,qh,.nil⟩,?_⟩;rintro i m ys H2 ⟨hi,rfl,s2,f2,t2⟩;refine⟨f2,?_⟩;rcases bj i L.length with z|z
 .have Z:us[i]?=some us[i]:=aa ⋯;obtain⟨a,r,ea,er,fa⟩:=(hL.same s2).get Z;have J:r∈L:=aL er;refine .inr ⟨⟨us,_,s2.sql hq,Z⟩,?_⟩;rintro v H3 ⟨rfl,hv⟩;have e:=ak (Z.symm.trans (hv us (s2.sql hq)));rw[ea]at e;subst e;refine hw r a H3 _ J fa s2 λb U=>?_;have lg:((g r).map V.int).length=(g r).length:=af _;refine⟨λj m2 zs F=>j<=(g r).length/\m2=(g r).length-j/\Same H F/\F a=some (.tup (r.map V.int))/\F p=some (.lst zs)/\Tups (Z7 c g (L.take i)++Yu c r ((g r).take j)) zs F,⟨(g r).length,aK _,rfl,s2,fa,f2,by rw[show Yu c r ((g r).take 0)=[] from rfl,bG];exact t2⟩,?_⟩;rintro j m2 zs F ⟨hj,rfl,s5,fa5,f5,t5⟩;have lz:zs.length<sizeLine:=by have e1:=t5.len;have e2:=qun (c:=c) (tl i);have e3:=wxv c r ((g r).take j);have e4:=hg r J;rw[bv]at e2 e3;rw[ar]at e1;lia
  refine⟨f5,lz,?_⟩;rcases bj j (g r).length with y|y
  .have eu:(g r)[j]?=some (g r)[j]:=aa y;have um:(g r)[j]∈g r:=bF _;have ab:((g r).map V.int)[j]?=some (.int (g r)[j]):=by rw[av,eu];rfl
   refine .inr ⟨⟨_,_,s5.sql U,ab⟩,?_⟩;rintro u H6 ⟨rfl,hu⟩;have e:=ak (ab.symm.trans (hu _ (s5.sql U)));subst e;refine ht r a _ H6 _ J um s5 ?_;have ap:a≠p:=λw=>by rw[w,f5]at fa5;cases fa5
   have et:(g r).take (j+1)=(g r).take j++[(g r)[j]]:=by rw[cY,eu];rfl
   cases hc:c (g r)[j] with
   |true =>
    refine Q6 ?_;refine he r a _ H6 _ J um hc fa5 s5 λb' H7 D W=>⟨D _ _ f5,(g r).length-(j+1),⋯,⋯,rfl,ad (s5.trans D),by rw[wv ap];exact D _ _ fa5,qh,?_⟩;rw[et,qk1,aw hc,<-fE];exact((t5.same D).upd (D _ _ f5)).snoc (by rw[wv (λw=>by rw[w,D _ _ f5]at W;cases W)];exact W)
   |false =>
    refine Y8 ⟨f5,(g r).length-(j+1),⋯,⋯,rfl,s5,fa5,f5,?_⟩;rw[et,qk1,ao (by rw[hc];exact aJ),bG];exact t5
  .obtain rfl:j=(g r).length:=by lia
   refine .inl ⟨⟨_,s5.sql U,by rw[lg];exact ai _⟩,L.length-(i+1),⋯,⋯,rfl,s5,f5,?_⟩;rw[xqt c g er];rw[bq]at t5;exact t5
 .obtain rfl:i=L.length:=by lia
  rw[bq]at t2;exact .inl ⟨⟨us,s2.sql hq,⋯⟩,k p ys H2 np s2 f2 t2⟩
end L2
namespace L2
open PySem PySem.Spec PySem.Calls PySem.W PyProof.Rows
def uu (w:Ah)(S:Aj)(ps:List (Int×Ag)):HO:=.ext λh=>SAt w h S ps
theorem qwx {P:Ac}{w:Ah}{H:Hp}{h:Heap}{S:Aj}{ps:List (Int×Ag)}(x:SAt w h S ps):ObjOk P w H h S (uu w S ps):=⟨x,let ⟨o,_,_,e,_⟩:=x;⟨o,e⟩,λh1 h2 a k=>a.at_ k⟩
def PsT (P:Ac)(w:Ah)(H:Hp)(ps:List (Int×Ag))(L:List (List Int)):Prop:=Paired (λp (xs:List Int)=>∃a,p=((KD P w).hash (xs.map Sum.inl),Value.ref a)/\H a=some (.tup (xs.map V.int))) ps L
def PsI (P:Ac)(w:Ah)(ps:List (Int×Ag))(ns:List Int):Prop:=Paired (λp (n:Int)=>∃t,p=((intKind P w).hash n,Value.int n t)) ps ns
theorem wk3 (xs:List Int):(xs.map (Sum.inl:Int->Key)).map kV=xs.map V.int:=by rw[aU];rfl
theorem xv4 {xs ys:List Int}(h:xs.map (Sum.inl:Int->Key)=ys.map Sum.inl):xs=ys:=(List.map_inj_right λa b e=>Sum.inl.inj e).mp h
theorem PsT.kp {P:Ac}{w:Ah}{H:Hp}{h:Heap}(ok:HOk P w H h):∀ {ps:List (Int×Ag)} {L:List (List Int)},PsT P w H ps L->KP P w h ps (L.map λxs=>xs.map Sum.inl)
 |_,_,.nil=>.nil
 |_,_,.cons ⟨a,e,f⟩ t=>.cons ⟨a,e,Jm ok (by rw[wk3];exact f)⟩ (PsT.kp ok t)
theorem PsT.keep {P:Ac}{w:Ah}{H H':Hp}{ps:List (Int×Ag)}{L:List (List Int)}(h:PsT P w H ps L)(k:∀a xs,H a=some (.tup xs)->H' a=some (.tup xs)):PsT P w H' ps L :=
 Paired.mono (λ_ _ ⟨a,e,f⟩=>⟨a,e,k a _ f⟩) h
theorem PsT.len {P:Ac}{w:Ah}{H:Hp}{ps:List (Int×Ag)}{L:List (List Int)}(h:PsT P w H ps L):ps.length=L.length:=bC h
theorem PsI.len {P:Ac}{w:Ah}{ps:List (Int×Ag)}{L:List Int}(h:PsI P w ps L):ps.length=L.length:=bC h
theorem Paired.perm {α β:Type}{R:α->β->Prop}{ps ps':List α}{L:List β}(p:ps'.Perm ps)(h:Paired R ps L):∃L',L'.Perm L/\Paired R ps' L':=by
 induction p generalizing L with
 |nil =>
  cases h;exact⟨[],.refl _,.nil⟩
 |cons x _ ih =>
  cases h with
  |cons r t =>
   obtain⟨L',a,b⟩:=ih t;exact⟨_::L',a.cons _,.cons r b⟩
 |swap x y l =>
  cases h with
  |cons r t =>
   cases t with
   |cons r' t=>exact⟨_,.swap _ _ _,.cons r' (.cons r t)⟩
 |trans _ _ ih1 ih2 =>
  obtain⟨W,J,D⟩:=ih2 h;obtain⟨U,F,z⟩:=ih1 D;exact⟨U,F.trans J,z⟩
abbrev qxv:=Aj->List (Int×Ag)->V->Hp->(List (Int×Ag)->Hp->Prop)->Prop
def Yh (X:Cx)(add:qxv):Prop:=∀(pins:List (Aj×Obj)) (s:Ab) (σ:St) (H:Hp) (p:Aj) (ps:List (Int×Ag)) (y:V) (yv:Ag) (Q:List (Int×Ag)->Hp->Prop),Inv X pins σ H s->RelV y yv->H p=some (uu X.w p ps)->add p ps y H Q ->
 wpAny (model X.prog X.w) X.A (call (.builtin "set.add") [.ref p,yv]) (λ_ s'=>∃ps' H',Inv X pins σ H' s'/\Q ps' H') X.xe s
def addT (P:Ac)(w:Ah):qxv:=λp ps y H Q=>∃a xs L,y=.ref a/\H a=some (.tup (xs.map V.int))/\PsT P w H ps L/\ps.length<1099/\(xs∈L->Q ps H)/\(xs∉L->∀ps',ps'.Perm (((KD P w).hash (xs.map Sum.inl),.ref a)::ps)->Q ps' (upd H p (uu w p ps')))
def addI (P:Ac)(w:Ah):qxv:=λp ps y H Q=>∃(n:Int) (L:List Int),y=.int n/\PsI P w ps L/\ps.length<1000/\(n∈L->Q ps H)/\(n∉L->∀ps' t,ps'.Perm (((intKind P w).hash n,.int n t)::ps)->Q ps' (upd H p (uu w p ps')))
section
variable {prog:Ac}{w:Ah}{A:Ae}{E:Ag->Ab->Prop}{s:Ab}{S:Aj}{ps:List (Int×Ag)}
theorem xk0 {L:List Int}(h:PsI prog w ps L):ElemsOf (intKind prog w) ps:=by
 induction h with
 |nil=>intro e z;cases z
 |@cons p n ps L r t ih =>
  obtain⟨tk,rfl⟩:=r;intro e z;rcases aC.mp z with rfl|z
  .exact⟨⟨n,by simp[intKind,Value.isInt],rfl⟩,rfl⟩
  .exact ih e z
theorem PsI.mem_of {L:List Int}{n:Int}(h:PsI prog w ps L):(∃j,ps.findIdx? (λe=>(intKind prog w).is n e.2)=some j)↔n∈L:=by
 constructor
 .rintro⟨j,W⟩;obtain⟨U,D,_⟩:=List.findIdx?_eq_some_iff_getElem.mp W;have F:∀ {ps:List (Int×Ag)} {L:List Int},PsI prog w ps L->∀p∈ps,(intKind prog w).is n p.2=true->n∈L:=by
   intro ps L h
   induction h with
   |nil=>intro p D;cases D
   |@cons p m ps L r t ih =>
    obtain⟨tk,rfl⟩:=r;intro q J z;rcases aC.mp J with rfl|J
    .have:m=n:=by simpa [intKind,Value.isInt] using z
     rw[this];exact .head _
    .exact .tail _ (ih q J z)
  exact F h _ (bF U) D
 .intro z;cases q:ps.findIdx? (λe=>(intKind prog w).is n e.2) with
  |some j=>exact⟨j,rfl⟩
  |none =>
   have Z:=List.findIdx?_eq_none_iff.mp q;have F:∀ {ps:List (Int×Ag)} {L:List Int},PsI prog w ps L->n∈L->∃p∈ps,(intKind prog w).is n p.2=true:=by
    intro ps L h
    induction h with
    |nil=>intro z;cases z
    |@cons p m ps L r t ih =>
     obtain⟨tk,rfl⟩:=r;intro z;rcases aC.mp z with rfl|z
     .exact⟨_,.head _,by simp[intKind,Value.isInt]⟩
     .obtain⟨p,D,e⟩:=ih z;exact⟨p,.tail _ D,e⟩
   obtain⟨p,D,e⟩:=F h z;have:=Z p D;rw[e]at this;cases this
theorem xwf {L:List Int}{n:Int}{t0:Tok}{Q:Bool->Ab->Prop}(P:SAt w s.heap S ps)(K:PsI prog w ps L)(hn:ps.length<1000)(hQ1:n∈L->∀tk,Q false { s with toks:=tk })
  (hQ2:n∉L->∀h' tk ps',Heap.SameBut S s.heap h'->SAt w h' S ps'->ps'.Perm (((intKind prog w).hash n,.int n t0)::ps)->Q true { s with heap:=h',toks:=tk }) :
  wpAny (model prog w) A (setAdd S (.int n t0)) Q E s:=by
 obtain⟨o,ep,t,W,as,Z,T,a6⟩:=P;have bm:=T.big;have an:(intKind prog w).is n (.int n t0)=true:=by simp[intKind,Value.isInt]
 have el:=xk0 K;have a4:scanBound=4096:=rfl;unfold setAdd;refine bY (ac ((intKind prog w).pyHash an ?_));generalize s.toks+1=tk;unfold setAddHashed setAddHashedIn;refine bY (ac (bw (s:={ s with toks:=tk }) W Z T.fits' ?_));dsimp only;rw[byScan_of (knd:=intKind prog w) rfl (by rw[aq];lia) (by simpa using el)];simp only[da];unfold setAddByScan;refine ac ?_;refine ac (eC ?_);refine ac (wpAny_setScan_of (s:={ s with toks:=tk }) an W Z T.fits' (by simpa using el) ?_);rw[show ps.toArray.toList=ps from rfl];cases hr:ps.findIdx? (λe=>(intKind prog w).is n e.2) with
 |some j =>
  dsimp only;exact ah (ah (hQ1 (K.mem_of.mp ⟨j,hr⟩) tk))
 |none =>
  have ad:n∉L:=λz=>by obtain⟨j,ej⟩:=K.mem_of.mpr z;rw[hr]at ej;cases ej
  dsimp only;obtain⟨N,r1,r2,r3⟩:=T.free ((intKind prog w).hash n);generalize hh:(intKind prog w).hash n=h at r1 r2 r3 hQ2 ⊢;have fs:t.freeSlot h=some (pos t h N,false):=by
   unfold SetTable.freeSlot SetTable.probe;obtain⟨m,e1,ok⟩:=Jv (t:=t) (h:=h) (ha:=λ_=>h+1) N (10*SetTable.turns t.mask) (t.probeStart h) (by unfold SetTable.turns;lia) rfl r3 (.inl r2);rw[e1];cases ok with
   |empty hs=>rfl
   |cand m i hm hs hh=>lia
  obtain⟨F,a5⟩:=T.put r1 r2 r3 (by rw[af];lia);have pm:=Qq ps (t.put (pos t h N)).2 (h,Value.int n t0);have U:=pm.length_eq;rw[aB]at U;rw[<-wkj ps (t.put (pos t h N)).2 (h,Value.int n t0)]at F;have a2:(t.put (pos t h N)).1.fits (xt ps (t.put (pos t h N)).2 (h,Value.int n t0)).toArray.size=true:=F.fits';have ln:layNew t ps.toArray h (.int n t0)=((xt ps (t.put (pos t h N)).2 (h,Value.int n t0)).toArray,(t.put (pos t h N)).1,false,false):=by unfold layNew;rw[fs];dsimp only;rw[wkg];unfold SetTable.orStandIn;rw[a2];rfl
  rw[ln];dsimp only;have hm:(t.put (pos t h N)).1.mask=t.mask:=rfl;generalize (t.put (pos t h N)).2=p at F pm U ⊢;generalize (t.put (pos t h N)).1=t1 at F hm ⊢;have a7:100000<=sizeLine:=by decide
  have gw:∀ {s₁:Ab} {Q':Unit->Ab->Prop},Q' () s₁->wpAny (model prog w) A (match false with | true=>rule "set.scan.the-table-gave-way" | false=>pure ()) Q' E s₁:=λhq=>ah hq;refine ac (gw ?_);rw[aw F.plain,hashByValue_scannable 8 rfl];refine ac (ah ?_);simp only[plainKind,da];refine ac (fF (s:={ s with toks:=tk }) W Z ?_ (by rw[aq];lia));have g1:(s.heap.update S (Obj.putSet (xt ps p (h,Value.int n t0)).toArray t1)).get? S=some { o with data:=.set (xt ps p (h,Value.int n t0)).toArray (ep+1) t1 }:=qjx W Z;have ab:Heap.SameBut S s.heap (s.heap.update S (Obj.putSet (xt ps p (h,Value.int n t0)).toArray t1)):=b7 _ _ _;have fl:t1.fill=ps.length+1:=by unfold SetTable.fill;rw[F.dm,F.pl,af,U];rfl
  generalize s.heap.update S (Obj.putSet (xt ps p (h,Value.int n t0)).toArray t1)=h1 at g1 ab ⊢;by_cases tf:t1.tooFull=true
  .rw[tf];simp only[jo,jE,da];have gr:SetTable.grown (xt ps p (h,Value.int n t0)).toArray.size=4*((xt ps p (h,Value.int n t0)).map (·.1)).length:=by unfold SetTable.grown;rw[ao (by rw[aq];lia),af,aq];lia
   obtain⟨J,D,f1,f2,T2,f4⟩:=F.relay (by rw[af,U];lia);have a1:(xt ps p (h,Value.int n t0)).toArray.map (·.1)=((xt ps p (h,Value.int n t0)).map (·.1)).toArray:=by simp
   have ap:∀i∈D.toList,i<(xt ps p (h,Value.int n t0)).length:=λi hi=>by have:=am.mp (f2.mem_iff.mp hi);rwa [af]at this
   have oe:D.filterMap (λi=>(xt ps p (h,Value.int n t0)).toArray[i]?)=(D.toList.map λi=>(xt ps p (h,Value.int n t0)).getD i (0,.none)).toArray:=by apply dE.mp;rw[Array.toList_filterMap,Z9 _ _ ap]
   have ol:(D.toList.map λi=>(xt ps p (h,Value.int n t0)).getD i (0,.none)).length=(xt ps p (h,Value.int n t0)).length:=by rw[af,f2.length_eq,au,af]
   have op:(D.toList.map λi=>(xt ps p (h,Value.int n t0)).getD i (0,.none)).Perm (xt ps p (h,Value.int n t0)):=by
    refine(f2.map _).trans ?_;rw[af];have:(List.range (xt ps p (h,Value.int n t0)).length).map (λi=>(xt ps p (h,Value.int n t0)).getD i (0,.none))=xt ps p (h,Value.int n t0):=by
     refine b9 λi=>?_;rw[av];by_cases c:i<(xt ps p (h,Value.int n t0)).length
     .rw[aV c];simp[ae,c]
     .rw[aG (by simp;lia),aG ⋯];rfl
    rw[this]
   have om:(D.toList.map λi=>(xt ps p (h,Value.int n t0)).getD i (0,.none)).map (·.1)=D.toList.map λi=>((xt ps p (h,Value.int n t0)).map (·.1)).getD i 0:=by rw[aU];refine bP λi hi=>?_;have:=ap i hi;simp[ae,this]
   rw[<-om]at T2;have a3:coversAll D (xt ps p (h,Value.int n t0)).toArray.size=true:=by unfold coversAll;rw[List.isPerm_iff,aq];have:=f2;rwa [af]at this
   have ra:relayAll t1 (xt ps p (h,Value.int n t0)).toArray (SetTable.grown (xt ps p (h,Value.int n t0)).toArray.size)=((D.toList.map λi=>(xt ps p (h,Value.int n t0)).getD i (0,.none)).toArray,J,false):=by unfold relayAll;rw[gr,a1,f1];dsimp only;rw[oe,a3];have:=T2.fits';rw[this];rfl
   rw[ra];dsimp only;generalize (D.toList.map λi=>(xt ps p (h,Value.int n t0)).getD i (0,.none))=ps2 at T2 op ol;refine ac (gw ?_);refine ac (fF (s:={ s with heap:=h1,toks:=tk }) g1 rfl ?_ (by rw[aq,ol];lia));refine ah ?_;dsimp only;have a0:Heap.SameBut S h1 (h1.update S (Obj.putSet ps2.toArray J)):=b7 _ _ _;have g2:(h1.update S (Obj.putSet ps2.toArray J)).get? S=some { o with data:=.set ps2.toArray (ep+1+1) J }:=qjx g1 rfl;refine ah (hQ2 ad _ tk ps2 (ab.trans a0) ⟨_,_,J,g2,as,rfl,T2,?_⟩ (op.trans pm));rw[af]at f4;lia
  .rw[iD]at tf;rw[tf];simp only[gG,aE,bE];refine ah (ah (hQ2 ad h1 tk _ ab ⟨_,_,t1,g1,as,rfl,F,?_⟩ pm));unfold SetTable.tooFull at tf;have:=of_decide_eq_false tf;rw[fl]at this;lia
theorem wxr {x:Ag}{Q:Ag->Ab->Prop}(hT:s.TypeIs (.ref S) "set")(h:wpAny (model prog w) A.in1 (setAdd S x) (λ_ s'=>Q .none s') E s):wpAny (model prog w) A (call (.builtin "set.add") [.ref S,x]) Q E s:=by refine cH F.slot_set_add hT F.entry_set_add ?_ (F.args_set_add_2 _ _);unfold Builtin.«set.add» Builtin.Frozenset.oneOther;simp only[List.isEmpty_nil,bind_assoc];unfold Builtin.Frozenset.addrOf;(refine ac (ah ?_) ;try dsimp only);(refine ac (ah ?_) ;try dsimp only);refine ac (aP h (λb s' z=>?_) λ_ _ e=>e);show wpAny _ _ (ret Value.none) _ _ _;exact ah ⟨_,rfl,z⟩
end
section
variable {X:Cx}
theorem xjz (hu:X.A.units+64<cLine):Yh X (addT X.prog X.w):=by
 intro pins s σ H p ps y Z Q I ry F h;obtain⟨a,xs,L,rfl,J,hL,hn,q1,q2⟩:=h;obtain rfl:Z=Value.ref a:=ry;have P:SAt X.w s.heap p ps:=(I.hok p _ F).1;obtain⟨_,ab,rv,o,h1,h2,n,h3⟩:=(show ObjOk X.prog X.w H s.heap a (.tup (xs.map V.int)) from I.hok a _ J);have K:=hL.kp I.hok;have hx:(KD X.prog X.w).is s.heap (xs.map Sum.inl) a:=Jm I.hok (by rw[wk3];exact J);refine wxr P.typeIs (xx1 P K hx h1 h3 (λv hv=>?_) (by show X.A.in1.units<cLine;simp only[Around.in1];lia) hn (λz tk=>?_) λz h' tk D sb U pm=>?_)
 .exact(ju rv).all v hv
 .refine⟨ps,H,I.tok _,q1 ?_⟩;obtain⟨ys,hy,e⟩:=aH.mp z;rw[<-xv4 e];exact hy
 .refine⟨D,_,qwq I (by rw[F];trivial) sb (let ⟨o,_,_,e,_⟩:=U;⟨o,e⟩) (qwx U),q2 (λW=>z (aH.mpr ⟨xs,W,rfl⟩)) D pm⟩
theorem xjy:Yh X (addI X.prog X.w):=by intro pins s σ H p ps y yv Q I W F h;obtain⟨n,L,rfl,hL,hn,q1,Z⟩:=h;obtain⟨t,rfl⟩:=W;have P:SAt X.w s.heap p ps:=(I.hok p _ F).1;refine wxr P.typeIs (xwf P hL hn (λz tk=>⟨ps,H,I.tok _,q1 z⟩) λz h' tk D U J pm=>?_);exact⟨D,_,qwq I (by rw[F];trivial) U (let ⟨o,_,_,e,_⟩:=J;⟨o,e⟩) (qwx J),Z z D t pm⟩
end
end L2
namespace L2
open PySem PySem.Spec PySem.Calls PySem.W PyProof.Rows
theorem wqb {α:Type}:∀l:List α,l.zip l=l.map λv=>(v,v)
 |[]=>rfl
 |a::l=>by rw[gF,wqb l];rfl
theorem TK.at_' {h:Heap}{d:Nat}{ks:List Ag}{kss:List (List Int)}(t:TK h d ks kss):∀i,i<kss.length->∃x o us n,ks.getD i .none=.ref x/\h.get? x=some o/\o.cls=.type "tuple" /\ o.data=.seq us.toArray n/\IntsAre us (kss.getD i [])/\(kss.getD i []).length=d:=by
 induction t with
 |nil=>intro i hi;simp at hi
 |@cons x o us n xs ks kss a b c e f _ ih =>
  intro i hi;cases i with
  |zero=>exact⟨x,o,us,n,rfl,a,b,c,e,f⟩
  |succ i=>exact ih i (by simpa using hi)
section
variable {prog:Ac}{w:Ah}{A:Ae}{E:Ag->Ab->Prop}{s:Ab}{S:Aj}{ps:List (Int×Ag)}
theorem ww4 {Q:List Ag->Ab->Prop}(hh:A.handled=none)(P:SAt w s.heap S ps)(hn:ps.length<=sizeLine)
  (h:∀h' tk (qs:List (Int×Ag)),(∀b o,s.heap.get? b=some o->h'.get? b=some o)->qs.Perm ps->s.heap.objs.size<=h'.objs.size->Q (qs.map (·.2)) { s with heap:=h',toks:=tk }):wpAny (model prog w) A (collect (.ref S)) Q E s:=by
 obtain⟨o,ep,t,L,ab,hd,T,ad⟩:=P;have U:S<s.heap.objs.size:=aj L;have R:SRaw (s.heap.push (seqObj "list" #[] 0)) S ps ep t:=⟨o,ag _ L,ab,hd⟩;have Z:codeAny (model prog w) A (.builtin "proto.collect" ⟨[.ref S],[]⟩) (λr s'=>r=.ok (.ret (.ref s.heap.objs.size))/\∃h' tk z c',s'={ s with heap:=h',toks:=tk }/\(∀b o,b≠s.heap.objs.size->(s.heap.push (seqObj "list" #[] 0)).get? b=some o->h'.get? b=some o) /\
   h'.get? s.heap.objs.size=some { cls:=.type "list",dict:=none,data:=.seq z c',slots:=#[] }/\ItemsOf (λi v=>∃p,(wk w S ep ps)[i]?=some p/\v=p.2) z ps.length) s:=by
  refine gf entry_proto_collect' ?_;show wpAny _ _ (do again (.builtin "list.__iadd__" ⟨[<-newList [],.ref S],[]⟩)) _ _ s;(refine ac (fT (ah ⟨Code.quiet_builtin _ (by decide +kernel),gf entry_list_iadd' ?_⟩)) ;rw[fZ (show plainId "list.__iadd__" = true by decide +kernel) _]);show wpAny _ _ (Builtin.List.listExtendWith (.ref s.heap.objs.size) (.ref S) (.ref s.heap.objs.size)) _ _ _;exact kdl_extend (s:={ s with heap:=s.heap.push (seqObj "list" #[] 0) }) (R:=λr s'=>r=.ok (.ret (.ref s.heap.objs.size))/\∃h' tk z c',s'={ s with heap:=h',toks:=tk }/\(∀b o,b≠s.heap.objs.size->(s.heap.push (seqObj "list" #[] 0)).get? b=some o->h'.get? b=some o) /\
   h'.get? s.heap.objs.size=some { cls:=.type "list",dict:=none,data:=.seq z c',slots:=#[] }/\ItemsOf (λi v=>∃p,(wk w S ep ps)[i]?=some p/\v=p.2) z ps.length) (xjk T) (by simpa using hh) R s.heap.objs.size (dJ U) (dJ U) (.ref s.heap.objs.size) 0 (ax _ rfl) (λh' tk z c' F D J=>⟨rfl,h',tk,z,c',rfl,F,D,J⟩) hn
 unfold collect;refine ac (wpAny_runValue (dL Z λr s' hr=>?_));obtain⟨rfl,h',tk,z,c',rfl,F,D,J⟩:=hr;dsimp only;refine ac (wpAny_load D ?_);refine ah ?_;have e:z.toList=(wk w S ep ps).map (·.2):=by
  obtain⟨W,a2⟩:=J;have hl:=(qwu w S ep ps).length_eq;refine b9 λi=>?_;rw[av];by_cases c:i<ps.length
  .have hi:i<z.size:=by rw[W];exact c
   obtain⟨p,e1,e2⟩:=a2 i z[i] (aW hi);rw[bz,aW hi,e1,e2];rfl
  .rw[aG (by rw[bc,W];lia),aG ⋯];rfl
 rw[e];refine h h' tk _ (λb o e=>F b o (ay (aj e)) (ag _ e)) (qwu w S ep ps) ?_;exact ba (aj D)
theorem wzd {a:Aj}{vs:List Ag}{k d:Nat}{kss:List (List Int)}{P:PySem.Fin->Ab->Prop}(ho:s.heap.get? a=some (seqObj "list" vs.toArray k))(h6:vs.length<64)(hd:1<=d)(t:TK s.heap d vs kss)(nd:kss.Nodup)
  (h:∀(out:List Ag) (kss':List (List Int)),TK s.heap d out kss'->out.Perm vs->kss'.Perm kss->kss'.Pairwise (λx y=>vm x y=true)->P (.done (.ret .none)) { s with heap:=sortedHeap s.heap a vs out.toArray }):wpAny (model prog w) A (Builtin.«list.sort» ⟨[.ref a],[]⟩) P E s:=by
 have bd:=t.length;have ha:a<s.heap.objs.size:=aj ho;obtain⟨e1,a5⟩:∃e1,(s.heap.update a (Obj.mapSeq λ_=>(#[]:Array Ag))).get? a=some (seqObj "list" #[] e1):=⟨_,dX ho λ_=>#[]⟩;have sz:(1000001:Nat)<sizeLine:=by decide
 rw[list_sort_plain];refine ac (listItems_at ho rfl ?_);refine ac (dZ ho rfl ?_ (by rw[aq];lia) (aK _));refine ac (ic a5 rfl ?_);refine ac (wpAny_newTuple ?_ (by show vs.length<=_;lia));refine ac (fT ?_ (aK _));refine bY ?_;show wpAny (model prog w) A _ P E { s with heap:=((s.heap.update a (Obj.mapSeq λ_=>(#[]:Array Ag))).push (seqObj "tuple" vs.toArray 0)).push (seqObj "list" #[] 0) };have an:(((s.heap.update a (Obj.mapSeq λ_=>(#[]:Array Ag))).push (seqObj "tuple" vs.toArray 0)).push (seqObj "list" #[] 0)).get? a=some (seqObj "list" #[] e1):=ag _ (ag _ a5);have t6:TK (((s.heap.update a (Obj.mapSeq λ_=>(#[]:Array Ag))).push (seqObj "tuple" vs.toArray 0)).push (seqObj "list" #[] 0)) d vs kss:=t.kept λb o e c=>by refine ag _ (ag _ ?_);rw[bH _ _ _ _ (λz=>by rw[z,ho]at e;cases e;exact absurd c (by show ¬ Value.type "list" = Value.type "tuple";decide))];exact e
 have ap:∀(h':Heap) (out:List Ag) (kss':List (List Int)),h'=((s.heap.update a (Obj.mapSeq λ_=>(#[]:Array Ag))).push (seqObj "tuple" vs.toArray 0)).push (seqObj "list" #[] 0)->TK s.heap d out kss'->out.Perm vs->kss'.Perm kss->kss'.Pairwise (λx y=>vm x y=true)->P (.done (.ret .none)) { s with heap:=h'.update a (Obj.mapSeq λ_=>out.toArray) }:=λh' out kss' e a1 a2 a3 a4=>by subst e;exact h out kss' a1 a2 a3 a4
 generalize ((s.heap.update a (Obj.mapSeq λ_=>(#[]:Array Ag))).push (seqObj "tuple" vs.toArray 0)).push (seqObj "list" #[] 0)=h6' at an t6 ap ⊢;have ap:=λout kss'=>ap h6' out kss' rfl;dsimp only;by_cases h2:vs.toArray.size<2
 .rw[aw h2,aw h2];refine ac (ah ?_);rw[StateT.run_pure];refine ac (ah ?_);dsimp only;have e:(arrOf (SortSt.mk' general' (vs.toArray.zip vs.toArray) #[] 7 none)).map (·.2)=vs.toArray:=by
   show(vs.toArray.zip vs.toArray).map (·.2)=vs.toArray
   match vs,h2 with
   |[],_=>simp
   |[v],_=>simp
   |_::_::_,h2=>simp at h2;lia
  rw[e];refine ac (ic an rfl ?_);refine ac (dZ an rfl ?_ (aK _) (by rw[aq];lia));simp only[eo,aE,bE];refine ah (ap vs kss t (.refl _) (.refl _) ?_);have:kss.length<2:=by rw[<-bd];simpa using h2
  match kss,this with
  |[],_=>exact .nil
  |[x],_=>exact iF _ _
 .rw[ao h2,ao h2];have bm:2<=vs.length:=by simpa using h2
  obtain⟨fs,t1,t2,t3⟩:=t6.tups hd;refine ac (kat_kind (s:={ s with heap:=h6' }) (T:=.type "int") t1 ⋯ (λv hv=>?_) rfl ?_)
  .obtain⟨i,tk,rfl⟩:=t3 v hv;exact Looks.of_pure rfl
  let ix:Ai->Nat:=λx=>vs.findIdx λu=>match u,x.1 with|.ref b,.ref c=>b==c|_,_=>false
  let kz:Ai->Int:=λx=>kzL kss (kss.getD (ix x) []);have a0:∀i j,i<kss.length->j<kss.length->kss.getD i []=kss.getD j []->i=j:=λi j hi J e=>by rw[ae,aa hi,ae,aa J]at e;exact(List.getElem_inj nd).mp e
  have ref:∀i,i<vs.length->∃x o us n,vs[i]?=some (Value.ref x)/\h6'.get? x=some o/\o.data=.seq us.toArray n/\IntsAre us (kss.getD i [])/\(kss.getD i []).length=d:=λi hi=>by obtain⟨x,o,us,n,F,b2,b3,b4,b5⟩:=t6.at_ i ⋯;rw[ae,aa hi]at F;exact⟨x,o,us,n,by rw[aa hi];exact bT some F,b2,b3,b4,b5⟩
  have a8:∀(i j:Nat) (x:Aj),vs[i]?=some (Value.ref x)->vs[j]?=some (.ref x)->i=j:=λi j x D Z=>by
   have hi:=(al.mp D).1;have J:=(al.mp Z).1;obtain⟨y,o,us,n,F,b2,b3,b4,b5⟩:=ref i hi;obtain⟨y',o',as,n',c1,c2,c3,c4,c5⟩:=ref j J;rw[D]at F;rw[Z]at c1;cases F;cases c1;rw[b2]at c2;cases c2;rw[b3]at c3;have eu:us=as:=by have:us.toArray=as.toArray:=(Data.seq.inj c3).1;exact bT Array.toList this
   subst eu;exact a0 i j ⋯ ⋯ (b4.nums.symm.trans c4.nums)
  have ad:∀(i:Nat) (x:Aj) (u:Ag),vs[i]?=some (Value.ref x)->ix (.ref x,u)=i:=λi x u D=>by
   have hi:=(al.mp D).1;refine(List.findIdx_eq hi).mpr ⟨?_,λj J=>?_⟩
   .have:vs[i]=.ref x:=by rw[aa hi]at D;exact ak D
    rw[this];simp
   .obtain⟨y,o,us,n,F,_⟩:=ref j ⋯;have:vs[j]=.ref y:=by rw[aa ⋯]at F;exact ak F
    rw[this];simp only[bZ];intro z;rw[z]at F;have:=a8 j i x F D;lia
  let G:Ai->Prop:=λx=>∃(i:Nat) (y:Aj),vs[i]?=some (Value.ref y)/\x=(.ref y,.ref y);have W:∀i,i<kss.length->kss.getD i []∈kss:=λi hi=>by rw[ae,aa hi];exact bF _
  have ab:∀(i:Nat) (y:Aj) (u:Ag),vs[i]?=some (Value.ref y)->kz (.ref y,u)=kzL kss (kss.getD i []):=λi y u e=>by show kzL kss (kss.getD (ix (.ref y,u)) [])=_;rw[ad i y u e]
  have O:Tm.qkh (model prog w) A E { s with heap:=h6' } G kz (tuples' true):=by
   rintro x y st Q ⟨i,bx,D,rfl⟩ ⟨j,by_,Z,rfl⟩ hk hQ;have hi:=(al.mp D).1;have J:=(al.mp Z).1;obtain⟨y1,o,us,n,F,b2,b3,b4,b5⟩:=ref i hi;obtain⟨y2,o',as,n',c1,c2,c3,c4,c5⟩:=ref j J;rw[D]at F;rw[Z]at c1;cases F;cases c1;rw[lt'_eq];refine bJ (wpS_get ?_);rw[hk];refine bJ (wpS_lift (dY (lex_lt (s:={ s with heap:=h6' }) b2 b3 c2 c3 b4 c4 (by rw[Wb b4,Wb c4,b5,c5]) ⟨rfl,?_⟩)));refine cE ?_;rw[ab i _ _ D,ab j _ _ Z]at hQ;have:=qj6 t.lens (W i ⋯) (W j ⋯);have e:vm (kss.getD i []) (kss.getD j [])=decide (kzL kss (kss.getD i [])<kzL kss (kss.getD j [])):=by
    by_cases c:vm (kss.getD i []) (kss.getD j [])=true
    .rw[c,aM (this.mpr c)]
    .rw[aX (λz=>c (this.mp z))];simpa using c
   rw[e];exact hQ
  have zl:(vs.toArray.zip vs.toArray).toList=vs.map λv=>(v,v):=by rw[Array.toList_zip];exact wqb vs
  have bb:∀i j,i<kss.length->j<kss.length->i≠j->kzL kss (kss.getD i [])≠kzL kss (kss.getD j []):=λi j hi J a6 z=>by
   rcases qux (t.lens _ (W i hi)) (t.lens _ (W j J)) with c|c|c
   .have:=(qj6 t.lens (W i hi) (W j J)).mpr c;lia
   .exact a6 (a0 i j hi J c)
   .have:=(qj6 t.lens (W j J) (W i hi)).mpr c;lia
  have U:Tm.Un kz G (vs.toArray.zip vs.toArray):=by
   refine⟨?_,λx hx=>?_⟩
   .rw[zl,bS];refine be.mpr λi j hi J a6=>?_;obtain⟨y1,_,_,_,F,_⟩:=ref i hi;obtain⟨y2,_,_,_,c1,_⟩:=ref j J;have f1:vs[i]=.ref y1:=by rw[aa hi]at F;exact ak F
    have f2:vs[j]=.ref y2:=by rw[aa J]at c1;exact ak c1
    rw[f1,f2,ab i _ _ F,ab j _ _ c1];exact bb i j ⋯ ⋯ ⋯
   .rw[zl]at hx;obtain⟨v,hv,rfl⟩:=aH.mp hx;obtain⟨i,D⟩:=cT hv;obtain⟨y,_,_,_,F,_⟩:=ref i (al.mp D).1;rw[D]at F;cases F;exact⟨i,y,D,rfl⟩
  refine ac (aP (Tm.Zj (Q:=λ_ L=>(arrOf L).Perm (vs.toArray.zip vs.toArray)/\failedOf L=none/\Tm.SL kz (arrOf L).toList) (st:=SortSt.mk' (tuples' true) (vs.toArray.zip vs.toArray) #[] 7 none) O U rfl rfl rfl rfl (by show(vs.toArray.zip vs.toArray).size<64;simp;lia) λL a1 a2 a3=>⟨a1,a2,a3⟩) ?_ λ_ _ e=>e);rintro⟨⟨⟩,L⟩ s' ⟨rfl,F,b2,b3⟩;dsimp only;have pl:=eB.mp F;rw[zl]at pl;have op:((arrOf L).toList.map (·.2)).Perm vs:=by have:=pl.map (·.2);rwa [aU,show((λx:Ag×Ag=>x.2)∘λv=>(v,v))=id from rfl,List.map_id]at this
  have oe:(arrOf L).map (·.2)=((arrOf L).toList.map (·.2)).toArray:=by apply dE.mp;simp
  have a7:∀l:List Ai,(∀x∈l,G x)->TK s.heap d (l.map (·.2)) (l.map λx=>kss.getD (ix x) []):=λl=>by
   induction l with
   |nil=>intro _;exact .nil
   |cons x l ih =>
    intro hx;obtain⟨i,y,D,rfl⟩:=hx x (.head _);have hi:=(al.mp D).1;obtain⟨x0,o0,bl,n0,g1,g2,bk,g3,g4,g5⟩:=t.at_' i ⋯;rw[ae,D]at g1;cases g1;rw[aO,aO,ad i y _ D];exact .cons g2 bk g3 g4 g5 (ih λz hz=>hx z (.tail _ hz))
  have gl:∀x∈(arrOf L).toList,G x:=λx hx=>by have:=pl.mem_iff.mp hx;rw[<-zl]at this;exact U.g x this
  have kp:((arrOf L).toList.map λx=>kss.getD (ix x) []).Perm kss:=by
   refine(pl.map _).trans ?_;rw[aU];have:vs.map ((λx=>kss.getD (ix x) [])∘λv=>(v,v))=kss:=by
    refine b9 λi=>?_;rw[av];by_cases c:i<vs.length
    .obtain⟨y,_,_,_,e,_⟩:=ref i c;rw[e];show some (kss.getD (ix (.ref y,.ref y)) [])=_;rw[ad i y _ e,ae,aa ⋯];rfl
    .rw[aG ⋯,aG ⋯];rfl
   rw[this]
  have a9:((arrOf L).toList.map λx=>kss.getD (ix x) []).Pairwise (λx y=>vm x y=true):=by rw[bS];refine bX (λ{x y} hx hy hxy=>?_) b3;obtain⟨i,a1,D,rfl⟩:=gl x hx;obtain⟨j,a2,Z,rfl⟩:=gl y hy;have hi:=(al.mp D).1;have J:=(al.mp Z).1;rw[ab i _ _ D,ab j _ _ Z]at hxy;rw[ad i _ _ D,ad j _ _ Z];exact(qj6 t.lens (W i ⋯) (W j ⋯)).mp hxy
  rw[oe];refine ac (ic (s:={ s with heap:=h6' }) an rfl ?_);refine ac (dZ (s:={ s with heap:=h6' }) an rfl ?_ (aK _) (by rw[aq,op.length_eq];lia));rw[b2];simp only[eo,aE,bE];exact ah (ap _ _ (a7 _ gl) op kp a9)
end
end L2
namespace L2
open PySem PySem.Spec PySem.Calls PySem.W PyProof.Rows
section
variable {prog:Ac}{w:Ah}{A:Ae}{E:Ag->Ab->Prop}{s:Ab}
theorem Zz {h:Heap}{a:Aj}{vs:List Ag}{k:Nat}(ho:h.get? a=some (seqObj "list" vs.toArray k))(out:Array Ag):∃e,(sortedHeap h a vs out).get? a=some (seqObj "list" out e):=by obtain⟨z,D⟩:∃z,(h.update a (Obj.mapSeq λ_=>(#[]:Array Ag))).get? a=some (seqObj "list" #[] z):=⟨_,dX ho λ_=>#[]⟩;exact⟨_,dX (ag _ (ag _ D)) λ_=>out⟩
theorem Q8 {h:Heap}{a b:Aj}{vs:List Ag}{o:Obj}(e:h.get? b=some o)(hb:b≠a)(out:Array Ag):(sortedHeap h a vs out).get? b=some o:=by unfold sortedHeap;rw[bH _ _ _ _ hb];refine ag _ (ag _ ?_);rw[bH _ _ _ _ hb];exact e
theorem qx1 {S:Aj}{ps:List (Int×Ag)}{Q:Ag->Ab->Prop}(hh:A.handled=none)(P:SAt w s.heap S ps)(hn:ps.length<=100000)
  (h:∀(h':Heap) (tk:Nat) (qs:List (Int×Ag)),(∀b o,s.heap.get? b=some o->h'.get? b=some o)->qs.Perm ps->s.heap.objs.size<=h'.objs.size ->
   wpAny (model prog w) A.in1.in1 (Builtin.«list.sort» ⟨[.ref h'.objs.size],[]⟩) (λfin s'=>∃r,fin=.done (.ret r)/\Q (.ref h'.objs.size) s') E { s with heap:=h'.push (seqObj "list" (qs.map (·.2)).toArray 0),toks:=tk }) :
  wpAny (model prog w) A (call (.builtin "sorted") [.ref S]) Q E s:=by
 have U:(100001:Nat)<sizeLine:=by decide
 refine Calls.call_function_entry kind_sorted plain_sorted entry_sorted (args_sorted1 _) ?_;unfold Builtin.«sorted»;refine ac (m:=checkCount "sorted" 1 1 _) (ah ?_);refine ac (ww4 (by simpa using hh) P ⋯ λh' tk qs J pm z=>?_);have W:=pm.length_eq;refine ac (fT ?_ (by rw[af];lia));have F:(h'.push (seqObj "list" (qs.map (·.2)).toArray 0)).get? h'.objs.size=some (seqObj "list" (qs.map (·.2)).toArray 0):=ax _ rfl;refine ac (bY (cH slot_list_sort ⟨_,F,rfl⟩ entry_list_sort ?_ (args_list_sort _)));refine aP (h h' tk qs J pm z) (λfin s' L=>?_) λ_ _ e=>e;obtain⟨r,rfl,D⟩:=L;exact⟨_,rfl,ah ⟨_,rfl,D⟩⟩
end
section
variable {X:Cx}
theorem xq7 {H:Hp}{s:Ab}{d:Nat}(ok:HOk X.prog X.w H s.heap):∀ {qs:List (Int×Ag)} {L:List (List Int)},PsT X.prog X.w H qs L->(∀r∈L,r.length=d)->TK s.heap d (qs.map (·.2)) L
 |_,_,.nil,_=>.nil
 |_,_,.cons ⟨a,e,f⟩ t,hl=>by subst e;obtain⟨_,us,rv,o,ho,hc,n,hd⟩:=(show ObjOk X.prog X.w H s.heap a (.tup _) from ok a _ f);exact .cons ho hc hd (ju rv) (hl _ (.head _)) (xq7 ok t λr hr=>hl r (.tail _ hr))
theorem qvw (hc:X.calm=true):yx X (.builtin "sorted") (λxs H Q=>∃(S:Aj) (ps:List (Int×Ag)) (L:List (List Int)) (d:Nat),xs=[.ref S]/\H S=some (uu X.w S ps)/\PsT X.prog X.w H ps L/\L.Nodup/\L.length<64/\1<=d/\(∀r∈L,r.length=d) /\
  ∀(l:Aj) (ys:List V) (L':List (List Int)),H l=none->L'.Perm L->L'.Pairwise (λx y=>vm x y=true)->Tups L' ys H->Q (.ref l) (upd H l (.lst ys))):=by
 intro pins s σ H xs us Q I r h;obtain⟨S,ps,L,d,rfl,hS,hL,nd,hn,hd,hl,q⟩:=h;obtain⟨u,rfl,ru⟩:=yg r;cases(show u=Value.ref S from ru);have P:SAt X.w s.heap S ps:=(I.hok S _ hS).1;have ll:=hL.len;have sz:(100001:Nat)<sizeLine:=by decide
 refine qx1 (I.ok.hd hc) P ⋯ λh' tk z hk pm hz=>?_;obtain⟨L1,p1,U⟩:=Paired.perm pm hL;have U:PsT X.prog X.w H z L1:=U;have ab:(h'.push (seqObj "list" (z.map (·.2)).toArray 0)).get? h'.objs.size=some (seqObj "list" (z.map (·.2)).toArray 0):=ax _ rfl;have I1:Inv X pins σ H { s with heap:=h',toks:=tk }:=I.kept hk;have t1:TK h' d (z.map (·.2)) L1:=xq7 (s:={ s with heap:=h',toks:=tk }) I1.hok U λr hr=>hl r (p1.mem_iff.mp hr);have t2:=t1.kept (h':=h'.push (seqObj "list" (z.map (·.2)).toArray 0)) λb o e _=>ag _ e;have a5:=pm.length_eq;refine wzd (s:={ s with heap:=h'.push (seqObj "list" (z.map (·.2)).toArray 0),toks:=tk }) ab (by rw[af];lia) hd t2 (p1.nodup_iff.mpr nd) λF a0 t3 op kp a1=>⟨_,rfl,?_⟩;have as:∀v∈z.map (·.2),∃(a:Aj) (xs:List Int),v=Value.ref a/\H a=some (.tup (xs.map V.int)):=λv hv=>by
  obtain⟨p,D,rfl⟩:=aH.mp hv;obtain⟨i,ei⟩:=cT D;have a2:∀ {z:List (Int×Ag)} {L:List (List Int)},PsT X.prog X.w H z L->∀p∈z,∃(a:Aj) (xs:List Int),p.2=Value.ref a/\H a=some (.tup (xs.map V.int)):=by
   intro z L h
   induction h with
   |nil=>intro p D;cases D
   |cons r t ih =>
    obtain⟨a,e,f⟩:=r;intro p D;rcases aC.mp D with rfl|D
    .exact⟨a,_,by rw[e],f⟩
    .exact ih p D
  exact a2 U p D
 have tr:∀ {F:List Ag} {W:List (List Int)},TK (h'.push (seqObj "list" (z.map (·.2)).toArray 0)) d F W->(∀v∈F,v∈z.map (·.2))->∃ys,Vals ys F/\Tups W ys H:=by
  intro F W t
  induction t with
  |nil=>intro _;exact⟨[],.nil,.nil⟩
  |@cons x o us n xs ks W a b c e f _ ih =>
   intro hv;obtain⟨ys,J,Z⟩:=ih λv a3=>hv v (.tail _ a3);obtain⟨a',an,ea,fa⟩:=as _ (hv _ (.head _));cases ea;obtain⟨_,ap,rv,o',a4,a6,n',ad⟩:=(show ObjOk X.prog X.w H h' x (.tup _) from I1.hok x _ fa);have e9:o=o':=by have:=ag (seqObj "list" (z.map (·.2)).toArray 0) a4;rw[a]at this;exact ak this
   subst e9;rw[c]at ad;have eu:us=ap:=bT Array.toList (Data.seq.inj ad).1;subst eu;have ex:xs=an:=e.nums.symm.trans (ju rv).nums;subst ex;exact⟨.ref x::ys,.cons rfl J,.cons ⟨x,rfl,fa⟩ Z⟩
 obtain⟨ys,J,Z⟩:=tr t3 λv hv=>op.mem_iff.mp hv;obtain⟨e,he⟩:=Zz ab F.toArray;have nl:H h'.objs.size=none:=I.hok.fresh hz;refine⟨.ref _,_,I.laid (t':=tk) (λb u hb=>Q8 (ag _ (hk b u hb)) (ay (aI (aj hb) hz)) _) hz (show ObjOk X.prog X.w _ _ _ (.lst ys) from ⟨?_,F,e,J,he⟩),rfl,q _ ys a0 nl (kp.trans p1) a1 Z⟩;rw[J.length,op.length_eq,af];lia
theorem qvm (hc:X.calm=true):yx X (.builtin "sorted") (λxs H Q=>∃(S:Aj) (ps:List (Int×Ag)) (ns:List Int),xs=[.ref S]/\H S=some (uu X.w S ps)/\PsI X.prog X.w ps ns/\ns.length<64 /\
  ∀(l:Aj) (ms:List Int),H l=none->ms.Perm ns->ms.Pairwise (·<=·)->Q (.ref l) (upd H l (.lst (ms.map V.int)))):=by
 intro pins s σ H xs us Q I r h;obtain⟨S,ps,ns,rfl,hS,Z,hn,q⟩:=h;obtain⟨u,rfl,ru⟩:=yg r;cases(show u=Value.ref S from ru);have P:SAt X.w s.heap S ps:=(I.hok S _ hS).1;have ll:=Z.len;have sz:(100001:Nat)<sizeLine:=by decide
 refine qx1 (I.ok.hd hc) P ⋯ λh' tk z hk pm D=>?_;obtain⟨L1,F,q1⟩:=Paired.perm pm Z;have ia:∀ {z:List (Int×Ag)} {L:List Int},PsI X.prog X.w z L->IntsAre (z.map (·.2)) L:=by
  intro z L h
  induction h with
  |nil=>exact .nil
  |cons r t ih =>
   obtain⟨tk,rfl⟩:=r;exact .cons _ _ ih
 have U:(h'.push (seqObj "list" (z.map (·.2)).toArray 0)).get? h'.objs.size=some (seqObj "list" (z.map (·.2)).toArray 0):=ax _ rfl;have ab:=pm.length_eq;refine list_sort_tree (s:={ s with heap:=h'.push (seqObj "list" (z.map (·.2)).toArray 0),toks:=tk }) U (ia q1) (by rw[af];lia) λJ ms a1 a2 a3=>⟨_,rfl,?_⟩;obtain⟨e,he⟩:=Zz U J;have nl:H h'.objs.size=none:=I.hok.fresh D;refine⟨.ref _,_,I.laid (t':=tk) (λb u W=>Q8 (ag _ (hk b u W)) (ay (aI (aj W) D)) _) D (show ObjOk X.prog X.w _ _ _ (.lst (ms.map V.int)) from ⟨?_,J.toList,e,Y7 a1,by simpa using he⟩),rfl,q _ ms nl (a2.trans F) a3⟩;rw[af,a2.length_eq,F.length_eq];lia
end
end L2
namespace L2
open PySem PySem.Spec PySem.Calls PyProof.Rows
section
variable {prog:Ac}{w:Ah}{A:Ae}{E:Ag->Ab->Prop}{s:Ab}{R:Result->Ab->Prop}
theorem xqs {Q:Ag->Ab->Prop}(h:Q (.ref s.heap.objs.size) { s with heap:=s.heap.push { cls:=.type "set",dict:=none,data:=.set #[] 0 (.fresh 0 0 (!byT w)) } }):wpAny (model prog w) A (newSet (.type "set")) Q E s:=by unfold newSet;refine ac (Jr ?_);exact bK h
theorem wj9 {h:Heap}{S:Aj}(e:h.get? S=some { cls:=.type "set",dict:=none,data:=.set #[] 0 (.fresh 0 0 (!byT w)) }):SAt w h S []:=⟨_,0,_,e,⟨rfl,rfl,rfl⟩,rfl,Tab.fresh,by show 0*5<7*3;decide⟩
theorem xqv {elt:Expr}{target:Expr}{iter:Expr}{ifs:List Expr}{rest:List Comprehension}{scope:Scope}{pos:Pos}{it acc:Ag}{env:Env}(h0:codeAny (model prog w) A (.compLoop (.SetComp elt (⟨target,iter,ifs,0⟩::rest) scope pos) 0 it acc env) R s)
  (h:wpAny (model prog w) A (pyIter it) (λit' s'=>codeAny (model prog w) A (.compLoop (.SetComp elt (⟨target,iter,ifs,0⟩::rest) scope pos) 0 it' acc env) R s') (notedBy (model prog w) A env λx s'=>R (.error x) s') s) :
  codeAny (model prog w) A (.compStart (.SetComp elt (⟨target,iter,ifs,0⟩::rest) scope pos) 0 it acc env) R s:=by
 refine codeAny_of_tree ?_;show wpAny _ _ ((compStart (.SetComp elt (⟨target,iter,ifs,0⟩::rest) scope pos) 0 it acc env).onRaise (λx=>do noteFrame x env;standAt theWindowsPlace)) _ _ s;(refine wpAny_notedAt ?_ ;unfold compStart ;show wpAny _ _ (ask >>= _) _ _ s ;refine ac (eL (wpAny_ite ?_)));split
 ·(first | exact ac (ah (ah (And.intro rfl h0))) | exact ah (And.intro rfl h0))
 ·(first | exact ac (eC (ac (cw (ac (aP h (λit' s' h'=>ah (And.intro rfl h')) λ_ _ x=>x))))) | (refine ac (eC ?_);show wpAny _ _ (standAt iter.pos >>= _) _ _ s;exact ac (cw (ac (aP h (λit' s' h'=>ah (And.intro rfl h')) λ_ _ x=>x)))))
end
theorem wxg (elt:Expr)(gens:List Comprehension)(scope:Scope)(pos:Pos)(env:Env):eval (.SetComp elt gens scope pos) env=comprehension (.SetComp elt gens scope pos) scope env (firstIterPos gens pos) (newSet (.type "set")) (firstAsync gens) (firstIter gens env):=rfl
theorem wwt (elt target iter:Expr)(cd:Expr)(scope:Scope)(pos:Pos)(it acc:Ag)(env:Env):compTurn (.SetComp elt [⟨target,iter,[cd],0⟩] scope pos) 0 it acc env=(standAt iter.pos >>= λ_=>pyNext it >>= λr=>match r with | none=>pure (.done .next) | some v=>letOwnedTupleGo target it v >>= λ_=>assign target env v >>= λ_=>(forIn [cd] true λc r=>if r=true then do let ok <-isTrue c env (eval c env);pure (ForInStep.yield ok) else pure (ForInStep.yield r)) >>= λok=>if ok=true then(eval elt env >>= λx=>standAt elt.pos >>= λ_=>call (.builtin "set.add") [acc,x] >>= λ_=>pure ()) >>= λ_=>again (.compLoop (.SetComp elt [⟨target,iter,[cd],0⟩] scope pos) 0 it acc env) else again (.compLoop (.SetComp elt [⟨target,iter,[cd],0⟩] scope pos) 0 it acc env)):=by rfl
section
variable {X:Cx}{pins:List (Aj×Obj)}{σ:St}{H:Hp}{s2:Ab}{scope:Scope}{cl:List (Str×Aj)}{x:Str}{M:List Nat}{fp:List Aj}{C:Aj}{h1:Heap}{tk:Nat}
theorem Inv.compO {oo:HO}(I:Inv X pins σ H s2)(hc:CapAll X.env cl)(hh:HasAll cl scope.names)(hm:CapIx X scope cl M)(hk:scope.kind=.function)(hC:s2.heap.objs.size<C)
  (keep:∀b o,s2.heap.get? b=some o->h1.get? b=some o) (hn:h1.Ns C λ_=>none) (hD:ObjOk X.prog X.w (upd H s2.heap.objs.size oo) h1 s2.heap.objs.size oo)
  (hfp:∀b∈fp,vh X pins H b) (hob:∀b∈fp,∃o,s2.heap.get? b=some o) :
  Inv (z8 X scope cl x M C s2 H fp (X.pn++pins)) [] (zk M σ none) (upd H s2.heap.objs.size oo) { s2 with heap:=h1,toks:=tk }:=I.compG (xs:=[x]) hc hh hm hk hC keep hn hD hfp hob
end
section
variable {X:Cx}{pins:List (Aj×Obj)}{σ:St}{H:Hp}{s2:Ab}{scope:Scope}{cl:List (Str×Aj)}{x y:Str}{M:List Nat}{fp:List Aj}{C:Aj}{h1:Heap}{tk:Nat}
theorem Inv.comp2O {oo:HO}(I:Inv X pins σ H s2)(hc:CapAll X.env cl)(hh:HasAll cl scope.names)(hm:CapIx X scope cl M)(hk:scope.kind=.function)(hC:s2.heap.objs.size<C)
  (keep:∀b o,s2.heap.get? b=some o->h1.get? b=some o) (hn:h1.Ns C λ_=>none) (hD:ObjOk X.prog X.w (upd H s2.heap.objs.size oo) h1 s2.heap.objs.size oo)
  (hfp:∀b∈fp,vh X pins H b) (hob:∀b∈fp,∃o,s2.heap.get? b=some o) :
  Inv (xx X scope cl x y M C s2 H fp (X.pn++pins)) [] (xc M σ none none) (upd H s2.heap.objs.size oo) { s2 with heap:=h1,toks:=tk }:=I.compG (xs:=[x,y]) hc hh hm hk hC keep hn hD hfp hob
end
section
variable {Y:Cx}{elt cd:Expr}{te:TE}{tt:TT}{c:Code}{p:Aj}{σ:St}{H:Hp}{pins:List (Aj×Obj)}{s:Ab}
def addS (elt:Expr)(acc:Ag)(env:Env)(c:Code):Sem PySem.Fin:=(eval elt env >>= λx=>standAt elt.pos >>= λ_=>call (.builtin "set.add") [acc,x] >>= λ_=>pure ()) >>= λ_=>again c
theorem wq8 {ys:List (Int×Ag)}{add:qxv}{N:List (Int×Ag)->Hp->Prop}(he:PE Y elt te)(ha:Yh Y add)(J:Inv Y pins σ H s)(h:te σ H λy H5=>H5 p=some (uu Y.w p ys)/\add p ys y H5 N) :
  wpAny (model Y.prog Y.w) Y.A (addS elt (.ref p) Y.env c) (λr s5=>r=Fin.again c/\∃H5,Inv Y pins σ H5 s5/\∃zs,N zs H5) Y.xe s:=by
 refine ac (ac (aP (he _ s _ H _ J h) (λD F Z=>?_) λ_ _ z=>z));obtain⟨y,H4,J7,L,ab,ad⟩:=Z;refine ac (cw (ac (aP (ha _ F _ H4 p ys y D _ J7 L ab ad) (λ_ s8 W=>?_) λ_ _ z=>z)));obtain⟨zs,H8,J8,U⟩:=W;exact ah (ah ⟨rfl,_,J8,zs,U⟩)
end
section
variable {X:Cx}{elt iter cd tg:Expr}{x y2:Str}{px pos:Pos}{scope:Scope}{cl:List (Str×Aj)}{M:List Nat}{wi:TI}{te:TE}{tt:TT}{gg:TG}{add:qxv}{pins:List (Aj×Obj)}{σ:St}
theorem qxy (hclos:closureFor scope X.env=pure cl)(hhas:HasAll cl scope.names)(hk:scope.kind=.function)
  (hnames:∀y∈scope.names,y.2=.local->scope.names.lookup y.1=some .local) (hi:PI X tg iter wi) (hs:∀z,foldedSetIterable iter X.env z=pure z)
  {use:Option (Ag->Sem Unit)} {QQ:Ag->Ab->Prop} {s:Ab} {H:Hp} {ps:Pos} {R:It->Hp->Prop} (I:Inv X pins σ H s) (h:wi σ H R)
  (go:∀(it:Aj) (fp:List Aj) (tn:Nat->Heap->Prop) (J:It) (H1:Hp) (s2:Ab) (C:Aj) (h3:Heap) (tk:Nat),Inv X pins σ H1 s2->Turn X.prog X.w X.K tg J fp it tn->tn 0 h3->(∀b∈fp,vh X pins H1 b)->(∀b∈fp,b<s2.heap.objs.size)->(∀b∈fp,∃o,s2.heap.get? b=some o)->R J H1->s2.heap.objs.size<C ->
   (∀b o,s2.heap.get? b=some o->h3.get? b=some o)->(h3.Ns C λ_=>none)->h3.get? s2.heap.objs.size=some { cls:=.type "set",dict:=none,data:=.set #[] 0 (.fresh 0 0 (!byT X.w)) } ->
   codeAny (model X.prog X.w) X.A (.compLoop (.SetComp elt [⟨tg,iter,[cd],0⟩] scope pos) 0 (.ref it) (.ref s2.heap.objs.size) (compEnvC scope cl C X.env)) (compPost (model X.prog X.w) X.A X.xe use QQ (.ref s2.heap.objs.size) C) { s2 with heap:=h3,toks:=tk }) :
  wpAny (model X.prog X.w) X.A (comprehension (.SetComp elt [⟨tg,iter,[cd],0⟩] scope pos) scope X.env ps (newSet (.type "set")) false (eval iter X.env) use) QQ X.xe s:=by
 refine eS (use:=use) rfl hs hclos hk hnames ?_;refine thn (hi pins s σ H _ I h) λv s1 h1=>thn h1 λap s2 h2=>?_;obtain⟨it,fp,tn,J,H1,rfl,I2,T,F,an,hR⟩:=h2;refine xqs ?_;refine fW hhas.nocell (by intro y hy;cases hy) (λh3 L D=>?_) hk;dsimp only at L D ⊢;generalize hH2:s2.heap.push { cls:=.type "set",dict:=none,data:=.set #[] 0 (.fresh 0 0 (!byT X.w)) }=G2 at L D ⊢;have hC:G2.objs.size=s2.heap.objs.size+1:=by rw[<-hH2,cK]
 have U:s2.heap.objs.size<G2.objs.size:=by lia
 have ad:∀b o,s2.heap.get? b=some o->h3.get? b=some o:=λb o e=>by rw[D.2 b (ay (aR (aj e) U))];exact ag _ (hH2▸ag _ e)
 have hD:h3.get? s2.heap.objs.size=some { cls:=.type "set",dict:=none,data:=.set #[] 0 (.fresh 0 0 (!byT X.w)) }:=by rw[D.2 _ (ay U)];exact ag _ (hH2▸ax _ rfl)
 have Z:=T.keep 0 _ _ F λb _ o e=>ad b o e;have ab:=λtk=>go it fp tn J H1 s2 G2.objs.size h3 tk I2 T Z an (λb W=>let ⟨o,e,_⟩:=T.obj 0 _ F b W;aj e) (λb W=>let ⟨o,e,_⟩:=T.obj 0 _ F b W;⟨o,e⟩) hR U ad L hD;exact xqv (ab _) (T.self _ 0 _ _ _ Z (ab _))
end
def qk4 (J:It)(M:List Nat)(tt:TT)(te:TE)(w:Ah)(add:qxv)(σ:St)(H1:Hp)(Q:VK):Prop:=∀p,H1 p=none->∃W:Nat->Nat->List (Int×Ag)->Hp->Prop,(∃m,W 0 m [] (upd H1 p (uu w p []))) /\
 ∀i m ys H2,W i m ys H2->H2 p=some (uu w p ys)/\((J.stop i H2/\Q (.ref p) H2)\/(J.go i H2/\∀v H3,J.yld i H2 v H3 ->
  tt (zk M σ (some v)) H3 λb H4=>if b=true then te (zk M σ (some v)) H4 (λy H5=>H5 p=some (uu w p ys)/\add p ys y H5 λzs H6=>∃m',m'<m/\W (i+1) m' zs H6) else H4 p=some (uu w p ys)/\∃m',m'<m/\W (i+1) m' ys H4))
def tSetI (M:List Nat)(wi:TI)(tt:TT)(te:TE)(w:Ah)(add:qxv):TE:=λσ H Q=>wi σ H λJ H1=>qk4 J M tt te w add σ H1 Q
section
variable {X:Cx}{elt iter cd:Expr}{x:Str}{px pos:Pos}{scope:Scope}{cl:List (Str×Aj)}{M:List Nat}{wi:TI}{tt:TT}{te:TE}{add:qxv}
theorem wzu (hc:X.calm=true)(hclos:closureFor scope X.env=pure cl)(hcap:CapAll X.env cl)(hhas:HasAll cl scope.names)(hix:CapIx X scope cl M)(hk:scope.kind=.function)
  (hnames:∀y∈scope.names,y.2=.local->scope.names.lookup y.1=some .local) (hx:scope.names.lookup x=some .local) (hnd:(Qs X x M).Nodup) (hi:PI X (.Name x px) iter wi)
  (ht:∀C s2 H2 fp pn,PT (z8 X scope cl x M C s2 H2 fp pn) cd tt) (he:∀C s2 H2 fp pn,PE (z8 X scope cl x M C s2 H2 fp pn) elt te) (ha:∀C s2 H2 fp pn,Yh (z8 X scope cl x M C s2 H2 fp pn) add) (hs:∀z,foldedSetIterable iter X.env z=pure z)
  {use:Option (Ag->Sem Unit)} {QQ:Ag->Ab->Prop} {pins:List (Aj×Obj)} {s:Ab} {σ:St} {H:Hp} {Q:VK} {ps:Pos} (I:Inv X pins σ H s) (h:wi σ H λJ H1=>qk4 J M tt te X.w add σ H1 Q)
  (fin:∀(C:Aj) (s2 s4:Ab) (H1 H2:Hp) (fp:List Aj),Inv X pins σ H1 s2->s2.heap.objs.size<C->(∀b∈fp,vh X pins H1 b)->Inv (z8 X scope cl x M C s2 H1 fp (X.pn++pins)) [] (zk M σ none) H2 s4->Q (.ref s2.heap.objs.size) H2 ->
   compPost (model X.prog X.w) X.A X.xe use QQ (.ref s2.heap.objs.size) C (.ok .next) s4) :
  wpAny (model X.prog X.w) X.A (comprehension (.SetComp elt [⟨.Name x px,iter,[cd],0⟩] scope pos) scope X.env ps (newSet (.type "set")) false (eval iter X.env) use) QQ X.xe s:=by
 refine qxy hclos hhas hk hnames hi hs I h λit fp tn J H1 s2 C h3 tk F T t3 D ad ap hR L an as hD=>?_;obtain⟨W,⟨m0,w0⟩,hW⟩:=hR s2.heap.objs.size (F.hok.fresh (ai _));have ab:(relabel scope X.env).names.lookup x=some .local:=cG hx;refine vx (Y:=z8 X scope cl x M C s2 H1 fp (X.pn++pins)) (V:=λi n H2=>∃ys,W i n ys H2) (Qd:=Q (.ref s2.heap.objs.size)) (REST:=wx2 cd (compEnvC scope cl C X.env) (addS elt (.ref s2.heap.objs.size) (compEnvC scope cl C X.env) _) (again _)) T hc (λ_ _ z=>z) (wwt ..) rfl rfl (wm (i:=0) hnd rfl (.inl ab) (.inr ab)) (uq hcap F L D ad) (λi n H2 ⟨ys,w⟩=>?_) (λH2 s4 J4 q=>fin C s2 s4 H1 H2 fp F L D J4 q) (F.compO hcap hhas hix hk L an as (qwx (wj9 hD)) D ap) ⟨[],w0⟩ t3 λb hb=>by rw[wv (ay (ad b hb))];exact(D b hb).1
 obtain⟨hp,a1⟩:=hW i n ys H2 w;refine a1.imp id λ⟨a0,hy⟩=>⟨a0,λv H3 yl=>⟨λσ4 H4=>σ4=zk M σ (some v)/\H3=H4,⟨rfl,rfl⟩,λ_ _ e=>?_⟩⟩;obtain⟨rfl,rfl⟩:=e;refine⟨Qy M σ v,λa2 s' J=>?_⟩;exact Wg (ht _ _ _ _ _) J (hy v H3 yl) (λs6 H6 U h6=>aP (wq8 (N:=λzs Z=>∃m',m'<n/\W (i+1) m' zs Z) (he _ _ _ _ _) (ha _ _ _ _ _) U h6) (λr s5 ⟨e,Z,J5,zs,m',hm,w'⟩=>⟨e,Z,J5,m',hm,zs,w'⟩) λ_ _ z=>z)
  λs6 H6 U ⟨_,m',hm,w'⟩=>ah ⟨rfl,H6,U,m',hm,ys,w'⟩
theorem xv6 (hc:X.calm=true)(hclos:closureFor scope X.env=pure cl)(hcap:CapAll X.env cl)(hhas:HasAll cl scope.names)(hix:CapIx X scope cl M)(hk:scope.kind=.function)
  (hnames:∀y∈scope.names,y.2=.local->scope.names.lookup y.1=some .local) (hx:scope.names.lookup x=some .local) (hnd:(Qs X x M).Nodup) (hi:PI X (.Name x px) iter wi)
  (ht:∀C s2 H2 fp pn,PT (z8 X scope cl x M C s2 H2 fp pn) cd tt) (he:∀C s2 H2 fp pn,PE (z8 X scope cl x M C s2 H2 fp pn) elt te) (ha:∀C s2 H2 fp pn,Yh (z8 X scope cl x M C s2 H2 fp pn) add) (hs:autoParam (∀z,foldedSetIterable iter X.env z=pure z) aU3._auto_1) :
  PE X (.SetComp elt [⟨.Name x px,iter,[cd],0⟩] scope pos) (tSetI M wi tt te X.w add):=by
 intro pins s σ H Q I h;rw[wxg];refine wzu hc hclos hcap hhas hix hk hnames hx hnd hi ht he ha hs (use:=none) I h λC s2 s4 H1 H2 fp Z U W D J=>?_;obtain⟨m,L,_⟩:=D.loc;exact⟨m,L,λh' F=>⟨.ref s2.heap.objs.size,H2,Z.uncomp (ba U) W D F,rfl,J⟩⟩
end
def qzx (J:It)(M:List Nat)(gg:TG)(tt:TT)(te:TE)(w:Ah)(add:qxv)(σ:St)(H1:Hp)(Q:VK):Prop:=∀p,H1 p=none->∃W:Nat->Nat->List (Int×Ag)->Hp->Prop,(∃m,W 0 m [] (upd H1 p (uu w p []))) /\
 ∀i m ys H2,W i m ys H2->H2 p=some (uu w p ys)/\((J.stop i H2/\Q (.ref p) H2)\/(J.go i H2/\∀v H3,J.yld i H2 v H3 ->
  gg v (xc M σ none none) H3 λσ4 H4=>(∃a b,σ4=xc M σ (some a) (some b))/\tt σ4 H4 λb H4=>if b=true then te σ4 H4 (λy H5=>H5 p=some (uu w p ys)/\add p ys y H5 λzs H6=>∃m',m'<m/\W (i+1) m' zs H6) else H4 p=some (uu w p ys)/\∃m',m'<m/\W (i+1) m' ys H4))
def tSetPI (M:List Nat)(wi:TI)(gg:TG)(tt:TT)(te:TE)(w:Ah)(add:qxv):TE:=λσ H Q=>wi σ H λJ H1=>qzx J M gg tt te w add σ H1 Q
section
variable {X:Cx}{elt iter tg cd:Expr}{x y2:Str}{pos:Pos}{scope:Scope}{cl:List (Str×Aj)}{M:List Nat}{wi:TI}{gg:TG}{tt:TT}{te:TE}{add:qxv}
theorem wqu (M:List Nat)(σ:St)(v u:V):(xc M σ none none).length=(xc M σ (some v) (some u)).length/\∀(k:Nat) z,(xc M σ none none)[k]?=some (some z)->(xc M σ (some v) (some u))[k]?=some (some z):=⟨rfl,λk z ez=>by
 match k,ez with
 |0,ez=>cases ez
 |1,ez=>cases ez
 |k+2,ez=>exact ez⟩
theorem wwr (hc:X.calm=true)(hclos:closureFor scope X.env=pure cl)(hcap:CapAll X.env cl)(hhas:HasAll cl scope.names)(hix:CapIx X scope cl M)(hk:scope.kind=.function)
  (hnames:∀y∈scope.names,y.2=.local->scope.names.lookup y.1=some .local) (hg:∀C s2 H2 fp pn,PG (xx X scope cl x y2 M C s2 H2 fp pn) tg gg) (hi:PI X tg iter wi)
  (ht:∀C s2 H2 fp pn,PT (xx X scope cl x y2 M C s2 H2 fp pn) cd tt) (he:∀C s2 H2 fp pn,PE (xx X scope cl x y2 M C s2 H2 fp pn) elt te) (ha:∀C s2 H2 fp pn,Yh (xx X scope cl x y2 M C s2 H2 fp pn) add) (hs:∀z,foldedSetIterable iter X.env z=pure z)
  {use:Option (Ag->Sem Unit)} {QQ:Ag->Ab->Prop} {pins:List (Aj×Obj)} {s:Ab} {σ:St} {H:Hp} {Q:VK} {ps:Pos} (I:Inv X pins σ H s) (h:wi σ H λJ H1=>qzx J M gg tt te X.w add σ H1 Q)
  (fin:∀(C:Aj) (s2 s4:Ab) (H1 H2:Hp) (fp:List Aj),Inv X pins σ H1 s2->s2.heap.objs.size<C->(∀b∈fp,vh X pins H1 b)->Inv (xx X scope cl x y2 M C s2 H1 fp (X.pn++pins)) [] (xc M σ none none) H2 s4->Q (.ref s2.heap.objs.size) H2 ->
   compPost (model X.prog X.w) X.A X.xe use QQ (.ref s2.heap.objs.size) C (.ok .next) s4) :
  wpAny (model X.prog X.w) X.A (comprehension (.SetComp elt [⟨tg,iter,[cd],0⟩] scope pos) scope X.env ps (newSet (.type "set")) false (eval iter X.env) use) QQ X.xe s:=by
 refine qxy hclos hhas hk hnames hi hs I h λit fp tn J H1 s2 C h3 tk F T t3 D ab ap hR L ad as hD=>?_;obtain⟨W,⟨m0,w0⟩,hW⟩:=hR s2.heap.objs.size (F.hok.fresh (ai _));refine vx (Y:=xx X scope cl x y2 M C s2 H1 fp (X.pn++pins)) (V:=λi n H2=>∃ys,W i n ys H2) (Qd:=Q (.ref s2.heap.objs.size)) (REST:=wx2 cd (compEnvC scope cl C X.env) (addS elt (.ref s2.heap.objs.size) (compEnvC scope cl C X.env) _) (again _)) T hc (λ_ _ z=>z) (wwt ..) rfl rfl (λpn s σ H v u Q I r hq=>hg C s2 H1 fp (X.pn++pins) pn s σ H v u Q I r hq) (uq hcap F L D ab) (λi n H2 ⟨ys,w⟩=>?_) (λH2 s4 J4 q=>fin C s2 s4 H1 H2 fp F L D J4 q) (F.comp2O hcap hhas hix hk L ad as (qwx (wj9 hD)) D ap) ⟨[],w0⟩ t3 λb hb=>by rw[wv (ay (ab b hb))];exact(D b hb).1
 obtain⟨hp,a1⟩:=hW i n ys H2 w;refine a1.imp id λ⟨a0,hy⟩=>⟨a0,λv H3 yl=>?_⟩;refine⟨_,hy v H3 yl,λσ4 H4 hz=>?_⟩;obtain⟨⟨a,b,rfl⟩,an⟩:=hz;refine⟨wqu M σ a b,λa2 s' J=>?_⟩;exact Wg (ht _ _ _ _ _) J an (λs6 H6 U h6=>aP (wq8 (N:=λzs Z=>∃m',m'<n/\W (i+1) m' zs Z) (he _ _ _ _ _) (ha _ _ _ _ _) U h6) (λr s5 ⟨e,Z,J5,zs,m',hm,w'⟩=>⟨e,Z,J5,m',hm,zs,w'⟩) λ_ _ z=>z)
  λs6 H6 U ⟨_,m',hm,w'⟩=>ah ⟨rfl,H6,U,m',hm,ys,w'⟩
theorem xzm (hc:X.calm=true)(hclos:closureFor scope X.env=pure cl)(hcap:CapAll X.env cl)(hhas:HasAll cl scope.names)(hix:CapIx X scope cl M)(hk:scope.kind=.function)
  (hnames:∀y∈scope.names,y.2=.local->scope.names.lookup y.1=some .local) (hg:∀C s2 H2 fp pn,PG (xx X scope cl x y2 M C s2 H2 fp pn) tg gg) (hi:PI X tg iter wi)
  (ht:∀C s2 H2 fp pn,PT (xx X scope cl x y2 M C s2 H2 fp pn) cd tt) (he:∀C s2 H2 fp pn,PE (xx X scope cl x y2 M C s2 H2 fp pn) elt te) (ha:∀C s2 H2 fp pn,Yh (xx X scope cl x y2 M C s2 H2 fp pn) add) (hs:autoParam (∀z,foldedSetIterable iter X.env z=pure z) aU3._auto_1) :
  PE X (.SetComp elt [⟨tg,iter,[cd],0⟩] scope pos) (tSetPI M wi gg tt te X.w add):=by
 intro pins s σ H Q I h;rw[wxg];refine wwr hc hclos hcap hhas hix hk hnames hg hi ht he ha hs (use:=none) I h λC s2 s4 H1 H2 fp Z U W D J=>?_;obtain⟨m,L,_⟩:=D.loc;exact⟨m,L,λh' F=>⟨.ref s2.heap.objs.size,H2,Z.uncomp2 (ba U) W D F,rfl,J⟩⟩
end
end L2
namespace L2
open PySem PySem.Spec PySem.Calls PyProof.Rows
theorem wu1 {P:Ac}{w:Ah}{K:Aa}{M:List Nat}{q:Aj}{us:List V}{tt:TT}{te:TE}{σ:St}{H:Hp}{Q:VK}(L:List (List Int))(c:List Int->Bool)(hq:SqL K H q us)(hL:Tups L us H)(hn:L.length<1099)
  (ht:∀(xs:List Int) (a:Aj) (H':Hp) (R:Bool->Hp->Prop),xs∈L->H' a=some (.tup (xs.map V.int))->Same H H'->(∀H'',Same H' H''->R (c xs) H'')->tt (zk M σ (some (.ref a))) H' R)
  (he:∀(a:Aj) (H':Hp) (R:VK),R (.ref a) H'->te (zk M σ (some (.ref a))) H' R)
  (k:∀p ps H' L',H p=none->Same H H'->H' p=some (uu w p ps)->PsT P w H' ps L'->L'.Nodup->(∀xs,xs∈L'↔(xs∈L/\c xs=true))->L'.length<=L.length->Q (.ref p) H'):qk4 (Itl K q) M tt te w (addT P w) σ H Q:=by
 intro p np;have ul:=hL.len;refine⟨λi m ps H2=>i<=L.length/\m=L.length-i/\Same H H2/\H2 p=some (uu w p ps)/\∃L',PsT P w H2 ps L'/\L'.Nodup/\L'.length<=i/\∀xs,xs∈L'↔(xs∈L.take i/\c xs=true),⟨L.length,aK _,rfl,Same.upd np,qh,[],.nil,jl,ai _,λxs=>by simp⟩,?_⟩;rintro i m ps H2 ⟨hi,rfl,sm,hp,L',hT,hN,hl,hM⟩;refine⟨hp,?_⟩;have Z:SqL K H2 q us:=sm.sql hq;by_cases hlt:i<L.length
 .have W:us[i]?=some us[i]:=aa ⋯;obtain⟨a,xs,ea,ex,fa⟩:=hL.get W;refine .inr ⟨⟨us,_,Z,W⟩,?_⟩;rintro v H3 ⟨rfl,hv⟩;have e:=hv us Z;rw[W]at e;have e':=ak e;subst e';rw[ea];have tk:L.take (i+1)=L.take i++[xs]:=by rw[cY,ex];rfl
  refine ht xs a _ _ (aL ex) (sm _ _ fa) sm λU D=>?_;have F:PsT P w U ps L':=hT.keep λb ys e=>D _ _ e;have J:U a=some (.tup (xs.map V.int)):=D _ _ (sm _ _ fa);cases hc:c xs with
  |true =>
   refine Q6 ?_;refine he a U _ ⟨D _ _ hp,a,xs,L',rfl,J,F,by rw[hT.len];lia,λz=>?_,λz ab pm=>?_⟩
   .refine⟨L.length-(i+1),⋯,⋯,rfl,sm.trans D,D _ _ hp,L',F,hN,⋯,λys=>?_⟩;rw[tk,hM ys];constructor
    .rintro⟨h1,h2⟩;exact⟨bD _ h1,h2⟩
    .rintro⟨h1,h2⟩;rcases aY.mp h1 with h1|h1
     .exact⟨h1,h2⟩
     .rw[aQ.mp h1];exact(hM xs).mp z
   .have ne:a≠p:=λz=>by rw[z,D _ _ hp]at J;cases J
    have base:PsT P w (upd U p (uu w p ab)) (((KD P w).hash (xs.map Sum.inl),.ref a)::ps) (xs::L'):=by refine .cons ⟨a,rfl,by rw[wv ne];exact J⟩ (F.keep λb ys e=>?_);rw[wv (λz=>by rw[z,D _ _ hp]at e;cases e)];exact e
    obtain⟨L2,p2,q2⟩:=Paired.perm pm base;refine⟨L.length-(i+1),⋯,⋯,rfl,?_,qh,L2,q2,p2.nodup_iff.mpr (cP.mpr ⟨z,hN⟩),by rw[p2.length_eq,aB];lia,λys=>?_⟩
    .intro b o e;rw[wv (wj e np)];exact D _ _ (sm _ _ e)
    .rw[p2.mem_iff,tk,aC,hM ys];constructor
     .rintro (rfl|⟨h1,h2⟩)
      .exact⟨az _ (.head _),hc⟩
      .exact⟨bD _ h1,h2⟩
     .rintro⟨h1,h2⟩;rcases aY.mp h1 with h1|h1
      .exact .inr ⟨h1,h2⟩
      .exact .inl (aQ.mp h1)
  |false =>
   refine Y8 ?_;refine⟨D _ _ hp,L.length-(i+1),⋯,⋯,rfl,sm.trans D,D _ _ hp,L',F,hN,⋯,λys=>?_⟩;rw[tk,hM ys];constructor
   .rintro⟨h1,h2⟩;exact⟨bD _ h1,h2⟩
   .rintro⟨h1,h2⟩;rcases aY.mp h1 with h1|h1
    .exact⟨h1,h2⟩
    .rw[aQ.mp h1,hc]at h2;cases h2
 .have:i=L.length:=by lia
  subst this;refine .inl ⟨⟨us,Z,⋯⟩,k p ps H2 L' np sm hp hT hN (λxs=>?_) hl⟩;rw[hM xs,bq]
theorem wvc {P:Ac}{w:Ah}{K:Aa}{J:It}{M:List Nat}{tt:TT}{te:TE}{σ:St}{H:Hp}{Q:VK}(n:Nat)(pr:Nat->V×V)(c:Nat->Bool)(f:Nat->Int)(bd:Nat)(hbd:∀i,i<n->0<=f i/\f i<bd)(hb:bd<1000)
  (hgo:∀i H',i<n->Same H H'->J.go i H') (hst:∀H',Same H H'->J.stop n H') (hy:∀i H2 v H3,i<n->Same H H2->J.yld i H2 v H3->Same H2 H3/\∃a,v=.ref a/\SqT K H3 a [(pr i).1,(pr i).2])
  (ht:∀(i:Nat) (H':Hp) (R:Bool->Hp->Prop),i<n->Same H H'->(∀H'',Same H' H''->R (c i) H'')->tt (xc M σ (some (pr i).1) (some (pr i).2)) H' R)
  (he:∀(i:Nat) (H':Hp) (R:VK),i<n->c i=true->Same H H'->(∀H'',Same H' H''->R (.int (f i)) H'')->te (xc M σ (some (pr i).1) (some (pr i).2)) H' R)
  (k:∀p ps H' ns,H p=none->Same H H'->H' p=some (uu w p ps)->PsI P w ps ns->ns.Nodup->(∀v,v∈ns↔∃i,i<n/\c i=true/\f i=v)->Q (.ref p) H') :
  qzx J M (gTup K 2 (qxn (jp 0) (qxn (jp 1) gNil))) tt te w (addI P w) σ H Q:=by
 intro p np;refine⟨λi m ps H2=>i<=n/\m=n-i/\Same H H2/\H2 p=some (uu w p ps)/\∃ns,PsI P w ps ns/\ns.Nodup/\∀v,v∈ns↔∃j,j<i/\c j=true/\f j=v,⟨n,aK _,rfl,Same.upd np,qh,[],.nil,jl,λv=>by simp⟩,?_⟩;rintro i m ps H2 ⟨hi,rfl,sm,hp,ns,hT,hN,hM⟩;refine⟨hp,?_⟩;by_cases hlt:i<n
 .refine .inr ⟨hgo i H2 hlt sm,λv H3 yl=>?_⟩;obtain⟨D,a,rfl,hq⟩:=hy i H2 v H3 hlt sm yl;refine⟨a,_,rfl,hq,rfl,_,_,rfl,_,_,rfl,rfl,⟨_,_,rfl⟩,?_⟩;refine ht i _ _ hlt (sm.trans D) λH4 F=>?_;cases hc:c i with
  |true =>
   refine Q6 ?_;refine he i _ _ hlt hc ((sm.trans D).trans F) λH5 U=>⟨U _ _ (F _ _ (D _ _ hp)),f i,ns,rfl,hT,?_,λz=>?_,λz ab t pm=>?_⟩
   ·
    rw[hT.len];have:=qzy (ns.map Int.toNat) (List.range bd) ?_ λv hv=>?_
    .rw[af,au]at this;lia
    .refine bS.mpr (bX (λ{x y} Z hy hxy z=>?_) hN);obtain⟨W,h1,_,rfl⟩:=(hM x).mp Z;obtain⟨j2,h2,_,rfl⟩:=(hM y).mp hy;have a1:=hbd W ⋯;have a2:=hbd j2 ⋯;exact hxy ⋯
    .obtain⟨x,Z,rfl⟩:=aH.mp hv;obtain⟨W,h1,_,rfl⟩:=(hM x).mp Z;have a1:=hbd W ⋯;exact am.mpr ⋯
   .refine⟨n-(i+1),⋯,⋯,rfl,((sm.trans D).trans F).trans U,U _ _ (F _ _ (D _ _ hp)),ns,hT,hN,λv=>?_⟩;rw[hM v];constructor
    .rintro⟨j,h1,h2⟩;exact⟨j,⋯,h2⟩
    .rintro⟨j,h1,h2,L⟩;by_cases cj:j=i
     .subst cj;rw[<-L];exact(hM _).mp z
     .exact⟨j,⋯,h2,L⟩
   .have base:PsI P w (((intKind P w).hash (f i),.int (f i) t)::ps) (f i::ns):=.cons ⟨t,rfl⟩ hT;obtain⟨L2,p2,q2⟩:=Paired.perm pm base;refine⟨n-(i+1),⋯,⋯,rfl,?_,qh,L2,q2,p2.nodup_iff.mpr (cP.mpr ⟨z,hN⟩),λv=>?_⟩
    .intro b o e;rw[wv (wj e np)];exact U _ _ (F _ _ (D _ _ (sm _ _ e)))
    .rw[p2.mem_iff,aC,hM v];constructor
     .rintro (rfl|⟨j,h1,h2⟩)
      .exact⟨i,⋯,hc,rfl⟩
      .exact⟨j,⋯,h2⟩
     .rintro⟨j,h1,h2,L⟩;by_cases cj:j=i
      .subst cj;exact .inl L.symm
      .exact .inr ⟨j,⋯,h2,L⟩
  |false =>
   refine Y8 ?_;refine⟨F _ _ (D _ _ hp),n-(i+1),⋯,⋯,rfl,(sm.trans D).trans F,F _ _ (D _ _ hp),ns,hT,hN,λv=>?_⟩;rw[hM v];constructor
   .rintro⟨j,h1,h2⟩;exact⟨j,⋯,h2⟩
   .rintro⟨j,h1,h2,L⟩;by_cases cj:j=i
    .subst cj;rw[hc]at h2;cases h2
    .exact⟨j,⋯,h2,L⟩
 .have:i=n:=by lia
  subst this;exact .inl ⟨hst H2 sm,k p ps H2 ns np sm hp hT hN hM⟩
end L2
namespace L2
open PySem PySem.Spec PySem.Calls PySem.W PyProof.Rows
def BMain (mg:Str->Option Ag)(h:Heap):Prop:=∃bm ob,mg "__builtins__" = some (.ref bm)/\bm≠builtinsNs/\h.get? bm=some ob/\ob.cls=.type "module" /\ ob.dict=some builtinsNs/\ob.data=.plain
theorem BMain.kept {mg:Str->Option Ag}{h h':Heap}(b:BMain mg h)(k:∀b o,h.get? b=some o->h'.get? b=some o):BMain mg h' :=
 let ⟨bm,ob,h1,h2,h3,r⟩:=b;⟨bm,ob,h1,h2,k _ _ h3,r⟩
section
variable {P:Ac}{w:Ah}{K:Aa}{mg mb:Str->Option Ag}{CX:CXT}{k:Nat}{fa a c T:Aj}{fd:Ad}{x:Str}{sp:Sp}{s₁:Ab}{vs:List Ag}{ns:List Int}
theorem wur (KX:K.In s₁.heap)(hns:s₁.heap.Ns mainGlobals mg)(hb:s₁.heap.Ns builtinsNs mb)(hbb:∀x:Str,x ≠ "__name__" -> mb x=bootBuiltins x)(hlim:s₁.heap.NoLimit)(hg:s₁.gens=#[])(hbm:BMain mg s₁.heap)
  (hT:s₁.heap.get? T=some (tabObj #[])) (hC:CodeHd s₁.heap c T) (hKT:K.lookup T=none)
  (ha:s₁.heap.get? a=some { cls:=.type "list",data:=.seq vs.toArray }) (hi:IntsAre vs ns) (hl:ns.length<=sizeLine) (hr:Room k callerA)
  (F:∀base:Heap,K.In base->base.Ns mainGlobals mg->BMain mg base->FnOk P w K mg base CX k fa fd [x] sp) (hbind:∀(s:Ab) (u:Ag),BindsTo s fd ⟨[u],[]⟩ [(x,u)])
  (hsp:∀H:Hp,H T=some (.tbl #[])->SqL K H a (ns.map V.int)->sp [.ref a] H (λv _=>v=.bl true) λ_ _ _=>False)
  (hCX:∀H e s',CX [] H s₁ (λ_ _ _=>False) e s'->False) :
  codeAny (model P w) callerA (.call (.ref fa) ⟨[.ref a],[]⟩) (λr s'=>r=.ok (.ret (.bool true))/\OldK s₁.heap s'.heap/\s'.os=s₁.os/\AllBare s'.gens) s₁:=by
 have rv:=Y7 hi;have a7:=hi.length;have a1:a≠T:=λz=>by rw[z,hT]at ha;cases ha
 have a5:∀H:Hp,H T=some (.tbl #[])->(∀b,b≠T->H b=none\/∃o xs,H b=some (.frz o (.lst xs)))->SqL K H a (ns.map V.int)->HOk P w H s₁.heap->(∀b,H b≠none->b=a\/b=T)->(H a≠none->K.lookup a=none) ->
   codeAny (model P w) callerA (.call (.ref fa) ⟨[.ref a],[]⟩) (λr s'=>r=.ok (.ret (.bool true))/\OldK s₁.heap s'.heap/\s'.os=s₁.os/\AllBare s'.gens) s₁:=by
  intro H a4 hO hS a0 hA hK;have ab:∀ {b:Aj} {o:Obj},s₁.heap.get? b=some o->H b=none->(qz8 s₁.heap H).get? b=some o:=λe n=>xzd e n;have bd:∀ {b:Aj} {o:Obj},s₁.heap.get? b=some o->o.cls≠.none->(∀ap n,o.data≠.seq ap n)->H b=none:=λ{b o} e d1 d2=>by
   cases q:H b with
   |none=>rfl
   |some u =>
    rcases hA b (by rw[q];simp) with z|z
    .subst z;rw[ha]at e;cases e;exact absurd rfl (d2 _ _)
    .subst z;rw[hT]at e;cases e;exact absurd rfl d1
  have a6:∀ {b:Aj} {o:Obj} {es:Array DictEntry} {ep:Nat},s₁.heap.get? b=some o->o.data=.dict es ep->H b=none:=λ{b o es ep} e d=>by
   cases q:H b with
   |none=>rfl
   |some u =>
    rcases hA b (by rw[q];simp) with z|z
    .subst z;rw[ha]at e;cases e;have d':Data.seq vs.toArray _=Data.dict es ep:=d;cases d'
    .subst z;rw[hT]at e;cases e;have d':Data.fields #[]=Data.dict es ep:=d;cases d'
  have L:∀ {b:Aj} {m:Str->Option Ag},s₁.heap.Ns b m->(qz8 s₁.heap H).Ns b m:=λ{b m} ⟨o,es,ep,e,d,r⟩=>⟨o,es,ep,ab e (a6 e d),d,r⟩;have a3:K.In (qz8 s₁.heap H):=λb o e=>ab (KX b o e) (by
   cases q:H b with
   |none=>rfl
   |some u =>
    rcases hA b (by rw[q];simp) with z|z
    .subst z
     rw[hK (by rw[q];simp)]at e;cases e
    .subst z
     rw[hKT]at e;cases e)
  have a9:BMain mg (qz8 s₁.heap H):=by obtain⟨bm,Z,b1,b2,b3,b4,b5,b6⟩:=hbm;exact⟨bm,Z,b1,b2,ab b3 (bd b3 (by rw[b4];exactλz=>by cases z) (λap n z=>by rw[b6]at z;cases z)),b4,b5,b6⟩
  have hM:Mod K mg (qz8 s₁.heap H):=⟨a3,L hns,⟨mb,L hb,hbb⟩,let ⟨mc,h1,h2⟩:=hlim;⟨mc,L h1,h2⟩⟩;have e0:Env0 P w K mg (qz8 s₁.heap H) callerA [] s₁ H:=⟨rfl,hM,λb o e=>xyd e,Nat.le_of_eq (wy5 _ _),trivial,λb hb=>absurd (show b∈([]:List Aj) from hb) (by simp),a0,.of_eq hg⟩;refine dL ((F _ a3 (L hns) a9).run callerA [] s₁ H ⟨[.ref a],[]⟩ [.ref a] [.ref a] _ _ hr e0 (hbind s₁ (.ref a)) (.cons rfl .nil) (hsp H a4 hS)) λr s' h=>?_;cases r with
  |error e=>exact(hCX H e s' h).elim
  |ok fl =>
   cases fl with
   |next=>exact False.elim h
   |brk=>exact False.elim h
   |cont=>exact False.elim h
   |ret u =>
    obtain⟨v,H',os,bb,W,as,r',q⟩:=h;have q':v=.bl true:=q;subst q';obtain rfl:u=Value.bool true:=r';have an:∀b o,b≠T->s₁.heap.get? b=some o->s'.heap.get? b=some o:=λb o hb e=>by
     cases q:H b with
     |none=>exact W.keep b o e q (by intro z;exact absurd (show b∈([]:List Aj) from z) (by simp)) (by simp)
     |some u =>
      rcases hO b hb with z|⟨Z,xs,z⟩
      .rw[q]at z;cases z
      .have J:=W.frzs b Z _ z;obtain⟨U,_⟩:=a0 b _ z;obtain⟨e2,_⟩:=as b _ J;rw[e]at U;cases U;exact e2
    obtain⟨ad,hm⟩:=W.tbls T _ a4;have a2:s'.heap.get? T=some { cls:=.none,data:=.fields (#[]++ad) }:=as T _ hm;have a8:isCodeTable s₁.heap T:=let ⟨o,cs,_,_,_,_,_,_,_,U,e2,e3,e4,_⟩:=hC;⟨c,o,cs,U,e2,e3,e4⟩;refine⟨rfl,⟨λb o e=>?_,λb o e=>?_⟩,os,bb⟩
    .by_cases hbT:b=T
     .subst hbT;rw[hT]at e;cases e;exact .inr (.inl ⟨a8,rfl,#[],ad,rfl,a2⟩)
     .exact .inl (an b o hbT e)
    .by_cases hbT:b=T
     .subst hbT;exact⟨_,a2⟩
     .exact⟨o,an b o hbT e⟩
 cases hk:K.lookup a with
 |some o =>
  have e:=KX a o hk;rw[ha]at e;cases e;refine a5 (λb=>if b=T then some (.tbl #[]) else none) (aw rfl) (λb hb=>.inl (ao hb)) (.inr ⟨_,vs.toArray,_,hk,rfl,rfl,rfl,by rw[aq,a7];exact hl,by simpa using rv⟩) (λb u z=>?_) (λb z=>?_) λz=>absurd (ao a1) z
  .by_cases hb:b=T
   .have D:=(aw hb).symm.trans z;cases D;subst hb;exact hT
   .have D:=(ao hb).symm.trans z;cases D
  .by_cases hb:b=T
   .exact .inr hb
   .exact absurd (ao hb) z
 |none =>
  refine a5 (λb=>if b=T then some (.tbl #[]) else if b=a then some (.frz { cls:=.type "list",data:=.seq vs.toArray } (.lst (ns.map V.int))) else none) (aw rfl) (λb hb=>?_) (.inl (.inr ⟨{ cls:=.type "list",data:=.seq vs.toArray },(ao a1).trans (aw rfl)⟩)) (λb u z=>?_) (λb z=>?_) λ_=>hk
  .by_cases hba:b=a
   .exact .inr ⟨_,_,(ao hb).trans (aw hba)⟩
   .exact .inl ((ao hb).trans (ao hba))
  .by_cases hb:b=T
   .have D:=(aw hb).symm.trans z;cases D;subst hb;exact hT
   .have D:=(ao hb).symm.trans z;by_cases hba:b=a
    .have J:=(aw hba).symm.trans D;cases J;subst hba;exact⟨ha,by rw[af];exact hl,vs,_,rv,ha⟩
    .have J:=(ao hba).symm.trans D;cases J
  .by_cases hb:b=T
   .exact .inr hb
   .by_cases hba:b=a
    .exact .inl hba
    .exact absurd ((ao hb).trans (ao hba)) z
end
theorem xvb {l:W.OpenLaw}{n k:Nat}{q:Ac}{loose:List Str}{XP:(Str->Option Ag)->Heap->Prop}{YP:Ah->Heap->Prop}{d:DefRec}{K:Params->Aa}{CX:Ah->CXT}{sp:Ah->Sp}{x:Str}{c T:Aj}
  (hn:l.most=some n) (hn2:n<=sizeLine) (hdf:d.params.defaults=[]) (hr:Room k callerA)
  (hY:∀(w:Ah) (h:Heap),YP w h->(K w.params).In h/\h.get? T=some (tabObj #[])) (hcT:∀p,codeHdIn (K p) c T=true) (hKT:∀p,(K p).lookup T=none)
  (F:∀(w:Ah) (mg:Str->Option Ag) (fa:Aj) (h:Heap),(K w.params).In h->h.Ns mainGlobals mg->mg d.name=some (.ref fa) ->
   ∃fd:Ad,(∀(s:Ab) (u:Ag),BindsTo s fd ⟨[u],[]⟩ [(x,u)]) /\
    ∀base:Heap,(K w.params).In base->base.Ns mainGlobals mg->BMain mg base->FnOk l.prog w (K w.params) mg base (CX w) k fa fd [x] (sp w))
  (hsp:∀(w:Ah) (H:Hp) (a:Aj) (ns:List Int),ns.length<=n->H T=some (.tbl #[])->SqL (K w.params) H a (ns.map V.int)->sp w [.ref a] H (λv _=>v=.bl true) λ_ _ _=>False)
  (hCX:∀(w:Ah) (H:Hp) (s:Ab) (e:Ag) (s':Ab),CX w [] H s (λ_ _ _=>False) e s'->False) :
  W.WalkO q loose XP YP l.row.toRowW d [] (λf vs=>PySem.call f vs):=by
 refine Att.attach_call hn hdf λw s₀ s₁ mg mb fa o pm cd ad a vs ns G Y ho hd ab L J U D Z=>?_;obtain⟨z,hT⟩:=hY w _ Y;obtain⟨fd,hb,hF⟩:=F w mg fa _ z G.T.g L;exact wur z G.T.g G.T.b G.T.builtins G.T.nolimit Z G.T.bmain hT (codeHd_of_K z (hcT _)) (hKT _) J U (bo D hn2) hr hF hb (λH hO hS=>hsp w H a ns D hO hS) λH e s'=>hCX w H s₁ e s'
end L2
namespace L2
open PySem PySem.Spec PySem.Calls PySem.W PyProof.Rows
def Stb (kz:List Int)(n:Nat)(il:List Nat):Prop:=il.Perm (List.range n)/\il.Pairwise λi j=>kz.getD i 0<kz.getD j 0\/(kz.getD i 0=kz.getD j 0/\i<j)
section
variable {prog:Ac}{w:Ah}{A:Ae}{E:Ag->Ab->Prop}{s:Ab}{a kS:Aj}{vs ks:List Ag}{P:PySem.Fin->Ab->Prop}{f:Ag}
end
end L2
namespace L2
open PySem PySem.Spec PySem.Calls PySem.W PyProof.Rows
def wkm (CX:CXT)(P:Ac)(w:Ah)(K:Aa)(mg:Str->Option Ag)(base:Heap)(N:List Str)(qual:Str)(scope:Scope)(g:Aj)(cd:Ag)(cl:List (Str×Aj))(A:Ae)(outer:List Env)(s:Ab)(H:Hp)(E:XK):Cx where
 prog:=P
 w:=w
 K:=K
 mg:=mg
 base:=base
 A:=A.deeper (envX qual scope s.heap.objs.size g cd cl)
 N:=N
 s₀:=s
 H₀:=H
 env:=envX qual scope s.heap.objs.size g cd cl
 outer:=outer
 stack:=envX qual scope s.heap.objs.size g cd cl::outer
 ex:=[]
 calm:=true
 fn:=λ_=>false
 pn:=[]
 xe:=λe s'=>wpAny (model P w) (A.deeper (envX qual scope s.heap.objs.size g cd cl)) (leaving (envX qual scope s.heap.objs.size g cd cl) e) (λ_ s''=>CX outer H s E e s'') (λe' s''=>CX outer H s E e' s'') s'
structure LamSc (x y:Str)(sc:Scope):Prop where
 kind:sc.kind=.function
 co:sc.isCoroutine=false
 gen:sc.isGenerator=false
 px:sc.names.lookup x=some .local
 fy:sc.names.lookup y=some .free
 nocell:∀z∈sc.names,z.2≠.cell
 free:∀z,sc.names.lookup z=some .free->z=y
 ne:y≠x
section
variable {CX:CXT}{P:Ac}{w:Ah}{K:Aa}{mg:Str->Option Ag}{base:Heap}{A:Ae}{outer:List Env}{s:Ab}{H:Hp}{E:XK}{name qual:Str}{params:Arguments}{body:Expr}{scope:Scope}{pm ctv:Ag}{c' g cF:Aj}{x y:Str}{k:Nat}{u uS:Ag}{v vS:V}{Q:VK}{t:TE}
theorem xjw (S:LamSc x y scope)(hr:Room (k+1) A)(e0:Env0 P w K mg base A outer s H)(ho:s.heap.get? g=some (kla_obj name qual params body scope [(y,cF)] pm c' ctv))(hcd:s.heap.CodeRec (.ref c') qual)
  (hb:bindArgs (kla_fn name qual params body scope [(y,cF)] pm (.ref c') ctv) ⟨[u],[]⟩=pure [(x,u)]) (hcell:s.heap.IsCell cF (some uS)) (hcF:H cF=none) (rv:RelV v u) (rS:RelV vS uS)
  (hpe:PE (wkm CX P w K mg base [x,y] qual scope g (.ref c') [(y,cF)] A outer s H E) body t) (ht:t [some v,some vS] H Q) :
  codeAny (model P w) A (.call (.ref g) ⟨[u],[]⟩) (CR CX outer P w H s Q E) s:=by
 have an:s.heap.NoLimit:=e0.mod.nolimit.keeps λb o e=>(e0.bs b o e).1;refine kla_callFunE hr.depth ho rfl S.co S.gen rfl hcd ?_;rw[hb];refine ah (fW S.nocell (λz D=>?_) (λZ ap ab=>⟨an.fresh _ ab,?_⟩) S.kind)
 .obtain rfl:=aQ.mp D;exact S.px
 show codeAny _ _ (.expr body (envX qual scope s.heap.objs.size g (.ref c') [(y,cF)])) _ _;have L:∀b o,s.heap.get? b=some o->Z.get? b=some o:=λb o e=>ab.extBut b o (ay (aj e)) (ag _ e);have F:∀z c,([(y,cF)]:List (Str×Aj)).lookup z=some c->z=y/\c=cF:=λz c e=>by
  rw[bn]at e;by_cases q:(z==y)=true
  .rw[q]at e;exact⟨by simpa using q,(ak e).symm⟩
  .rw[iD]at q;rw[q]at e;cases e
 have W:([(y,cF)]:List (Str×Aj)).lookup y=some cF:=by rw[bn,eK]
 have U:∀b:Aj,b∉(wkm CX P w K mg base [x,y] qual scope g (.ref c') [(y,cF)] A outer s H E).ex:=λb z=>absurd (show b∈([]:List Aj) from z) (by simp);have I:Inv (wkm CX P w K mg base [x,y] qual scope g (.ref c') [(y,cF)] A outer s H E) [] [some v,some vS] H { s with heap:=Z,toks:=s.toks+1 }:=by
  refine⟨⟨e0.mod,S.kind,rfl,rfl,ai _,λa b c h1 h2=>(F a c h1).1.trans (F b c h2).1.symm,λz D=>?_,λz c D=>(by cases D),λ_=>hr.hd,Around.frames_deeper e0.frames,.inr ⟨rfl,rfl⟩,λb z=>absurd z (U b),e0.bs,e0.bsz,λb _ _=>U b,λb z=>absurd z (U b),e0.funs,e0.frf⟩,
   rfl,e0.bare,Un.kept L,⟨_,ap,λi z a h1 h2 h3=>?_⟩,λz c h=>?_,e0.hok.fresh (ai _),λz c h=>?_,λp hp=>absurd (show p∈([]:List (Aj×Obj)) from hp) (by simp),e0.hok.kept L,rfl⟩
  .rcases D with D|D
   .exact absurd rfl (S.nocell _ (cZ D))
   .rw[S.free z D];exact⟨cF,W⟩
  .match i,h1,h2 with
   |0,h1,h2 =>
    obtain rfl:x=z:=ak h1;obtain rfl:v=a:=ak (ak h2);refine⟨u,rv,.inl ⟨S.px,?_⟩⟩;show List.lookup x [(x,u)]=some u;rw[bn,eK]
   |1,h1,h2 =>
    obtain rfl:y=z:=ak h1;obtain rfl:vS=a:=ak (ak h2);exact⟨uS,rS,.inr ⟨.inr S.fy,cF,W,let ⟨o,h1,h2⟩:=hcell;⟨o,L _ _ h1,h2⟩⟩⟩
   |n+2,h1,_=>cases h1
  .obtain⟨rfl,rfl⟩:=F z c h;exact⟨_,let ⟨o,h1,h2⟩:=hcell;⟨o,L _ _ h1,h2⟩⟩
  .obtain⟨rfl,rfl⟩:=F z c h;exact hcF
 refine kla_codeExpr (aP (hpe [] _ [some v,some vS] H _ I ht) (λr s' hs=>?_) λ_ _ h=>h);obtain⟨v',H',J,ad,q⟩:=hs;exact⟨v',H',J.os,J.bare,J.base,J.hok,ad,q⟩
end
def qv7 (q:Str)(c':Aj):HO:=.ext λh=>h.CodeRec (.ref c') q
def qur (g:Aj)(ob:Obj):HO:=.ext λh=>h.get? g=some ob
def wwk (pos:Pos)(c':Aj):Array Ag:=#[rawInt pos.line,rawInt pos.col,.ref c']
def TabAt (T:Aj)(pos:Pos)(q:Str)(c':Aj)(H:Hp):Prop:=H T=some (.tbl (wwk pos c'))/\H c'=some (qv7 q c')
def vv (T:Aj)(pos:Pos)(q:Str)(H:Hp):Prop:=H T=some (.tbl #[])\/∃c',TabAt T pos q c' H
def KeepT (T:Aj)(H H':Hp):Prop:=∀b o,b≠T->H b=some o->H' b=some o
theorem xz5 {P:Ac}{w:Ah}{H:Hp}{h:Heap}{c':Aj}{q:Str}(r:h.CodeRec (.ref c') q):ObjOk P w H h c' (qv7 q c'):=by obtain⟨c,z,vs,t,e,D,F,hv⟩:=id r;cases e;refine⟨r,⟨z,D⟩,λh1 h2 ⟨c,o1,v1,t1,e1,f1,f2,f3⟩ k=>?_⟩;cases e1;exact⟨c',o1,v1,t1,rfl,k _ f1,f2,f3⟩
theorem wkh {P:Ac}{w:Ah}{H:Hp}{h:Heap}{g:Aj}{ob:Obj}(e:h.get? g=some ob):ObjOk P w H h g (qur g ob) :=
 ⟨e,⟨ob,e⟩,λh1 h2 q k=>k _ q⟩
def tLam (T:Aj)(pos:Pos)(q:Str)(ob:Aj->Ag->Obj):TE:=λ_ H Q=>vv T pos q H/\∀(g c':Aj) (ctv:Ag) (H':Hp),KeepT T H H'->TabAt T pos q c' H'->H g=none->H' g=some (qur g (ob c' ctv))->Q (.ref g) H'
section
variable {X:Cx}{params:Arguments}{body:Expr}{scope:Scope}{pos:Pos}{c T:Aj}{clos:List (Str×Aj)}
theorem pe_lam (hB:BMain X.mg X.base)(hcd:X.env.code=.ref c)(hC:codeHdIn X.K c T=true)(hdef:defaultsOf params X.env=([],[]))(hcl:closureFor scope X.env=pure clos) :
  PE X (.Lambda params body scope pos) (tLam T pos (X.env.qual ++ "<lambda>") λc' ctv=>kla_obj "<lambda>" (X.env.qual ++ "<lambda>") params body scope clos ((X.mg "__name__").getD .none) c' ctv):=by
 intro pins s σ H Q I ⟨tab,h⟩;refine kla_eval hdef ?_;have hg:s.heap.Ns mainGlobals X.mg:=I.mod.glob.keeps I.bk;have CH:CodeHd s.heap c T:=codeHd_of_K I.kIn hC;obtain⟨bm,ob,b1,b2,b3,b4,b5,b6⟩:=hB.kept I.bk;have a0:∀ps,s.heap.get? T=some (tabObj ps)->mainGlobals≠T/\s.heap.BuiltinsAt X.mg T:=λps hP=>by
  refine⟨λq=>?_,bm,ob,b1,b2,λq=>?_,λq=>?_,b3,b4,b5,b6⟩
  .obtain⟨o,es,ep,e,hd,_⟩:=hg;rw[q,hP]at e;cases e;cases hd
  .obtain⟨o,es,ep,e,hd,_⟩:=hg;rw[q,e]at b3;cases b3;rw[hd]at b6;cases b6
  .rw[q,hP]at b3;cases b3;cases b4
 rcases tab with hT|⟨c',hT,hc'⟩
 .have U:s.heap.get? T=some (tabObj #[]):=I.hok T _ hT;obtain⟨ap,J⟩:=a0 _ U;refine kla_makeFunction (mg:=X.mg) hcl I.ok.glob hg hcd CH U trivial rfl ap J λc' ctv h' tk hx L Z a4 a3=>?_;have ad:h'.get? T=some (tabObj (wwk pos c')):=by rw[a3];rfl
  have as:T<s.heap.objs.size:=aj U;have a5:H c'=none:=I.hok.fresh L;have ab:H h'.objs.size=none:=I.hok.fresh (ba (dM L Z));have d1:c'≠T:=λz=>absurd L (by rw[z];exact Nat.not_le_of_lt as);have d2:h'.objs.size≠T:=λz=>by rw[z]at Z;exact absurd L (Nat.not_le_of_lt (aR Z as))
  have d3:h'.objs.size≠c':=dJ Z;have a2:∀b o,s.heap.get? b=some o->b≠c'/\b≠h'.objs.size:=λb o e =>
   ⟨ay (aI (aj e) L),ay (aR (aI (aj e) L) Z)⟩
  have a1:∀b,b≠T->b≠c'->b≠h'.objs.size->upd (upd (upd H T (.tbl (wwk pos c'))) c' (qv7 (X.env.qual ++ "<lambda>") c')) h'.objs.size (qur h'.objs.size (kla_obj "<lambda>" (X.env.qual ++ "<lambda>") params body scope clos ((X.mg "__name__").getD .none) c' ctv)) b=H b:=λb e1 e2 e3=>by rw[wv e3,wv e2,wv e1]
  have kp:∀b o,b≠T->s.heap.get? b=some o->(h'.push (kla_obj "<lambda>" (X.env.qual ++ "<lambda>") params body scope clos ((X.mg "__name__").getD .none) c' ctv)).get? b=some o:=λb o e1 e=>ag _ (hx b o e1 e);have D:∀b o,b≠T->H b=some o->upd (upd (upd H T (.tbl (wwk pos c'))) c' (qv7 (X.env.qual ++ "<lambda>") c')) h'.objs.size (qur h'.objs.size (kla_obj "<lambda>" (X.env.qual ++ "<lambda>") params body scope clos ((X.mg "__name__").getD .none) c' ctv)) b=some o:=λb o e1 e=>by rw[a1 b e1 (wj e a5) (wj e ab)];exact e
  have tT:upd (upd (upd H T (.tbl (wwk pos c'))) c' (qv7 (X.env.qual ++ "<lambda>") c')) h'.objs.size (qur h'.objs.size (kla_obj "<lambda>" (X.env.qual ++ "<lambda>") params body scope clos ((X.mg "__name__").getD .none) c' ctv)) T=some (.tbl (wwk pos c')):=by rw[wv d2.symm,wv d1.symm,qh]
  have W:∀b o,H b=some o->(∀ps,o≠.tbl ps)->b≠T:=λb o e n z=>by rw[z,hT]at e;cases e;exact n _ rfl
  refine⟨.ref h'.objs.size,_,I.call' (s':={ s with heap:=h'.push (kla_obj "<lambda>" (X.env.qual ++ "<lambda>") params body scope clos ((X.mg "__name__").getD .none) c' ctv),toks:=tk }) (ch:=[]) rfl ⟨λb o e n _ _=>kp b o (λz=>by rw[z,hT]at n;cases n) e,λb o e n _ _=>⟨o.slots,kp b o (λz=>by rw[z,hT]at n;cases n) e⟩,λb o e n _=>?_,λb o e _=>?_,λb xs e=>D b _ (W b _ e λps z=>by cases z) e,λb o u e=>D b _ (W b _ e λps z=>by cases z) e,λb ps e=>?_⟩ (λb u e=>?_) I.bare (λb z=>absurd z (by simp)),rfl,h _ c' ctv _ D ⟨tT,?_⟩ ab qh⟩
  .obtain⟨l1,l2⟩:=a2 b o e;rw[a1 b (λz=>by rw[z,hT]at n;cases n) l1 l2];exact n
  .by_cases hb:b=T
   .rw[hb];exact⟨_,ag _ ad⟩
   .exact⟨o,kp b o hb e⟩
  .by_cases hb:b=T
   .subst hb;rw[hT]at e;cases e;exact⟨wwk pos c',by rw[tT];simp⟩
   .exact⟨#[],by rw[D b _ hb e];simp⟩
  .by_cases hbg:b=h'.objs.size
   .subst hbg;rw[qh]at e;cases e;exact wkh (ax _ rfl)
   .rw[wv hbg]at e;by_cases hbc:b=c'
    .subst hbc;rw[qh]at e;cases e;obtain⟨F,oc,vs,t,f1,f2,f3,f4⟩:=a4;exact xz5 ⟨F,oc,vs,t,f1,ag _ f2,f3,f4⟩
    .rw[wv hbc]at e;by_cases J:b=T
     .subst J;rw[qh]at e;cases e;exact ag _ ad
     .rw[wv J]at e;refine(I.hok b u e).stay (λF v hc q=>kp F v ?_ q) (λF q=>D F _ (W F _ q λps z=>by cases z) q) λF xs q=>D F _ (W F _ q λps z=>by cases z) q;rcases hc with rfl|hc
      .exact J
      .exact W F _ hc λps z=>by cases z
  .rw[wv d3.symm,qh]
 .have U:s.heap.get? T=some (tabObj (wwk pos c')):=I.hok T _ hT;obtain⟨ap,J⟩:=a0 _ U;refine kla_makeFunctionHit (mg:=X.mg) (cv:=.ref c') hcl I.ok.glob hg hcd CH U trivial ?_ J λctv h' tk hk an=>?_
  .show codeAmong pos [rawInt pos.line,rawInt pos.col,.ref c']=some (.ref c');simp[codeAmong,rawInt]
  have ab:H h'.objs.size=none:=I.hok.fresh an;have D:∀b o,H b=some o->upd H h'.objs.size (qur h'.objs.size (kla_obj "<lambda>" (X.env.qual ++ "<lambda>") params body scope clos ((X.mg "__name__").getD .none) c' ctv)) b=some o:=λb o e=>by rw[wv (wj e ab)];exact e
  exact⟨.ref h'.objs.size,_,I.laid (a:=h'.objs.size) (o:=qur h'.objs.size (kla_obj "<lambda>" (X.env.qual ++ "<lambda>") params body scope clos ((X.mg "__name__").getD .none) c' ctv)) (t':=tk) (λb u q=>ag _ (hk b u q)) an (wkh (ax _ rfl)),rfl,h _ c' ctv _ (λb o _ e=>D b o e) ⟨D _ _ hT,D _ _ hc'⟩ ab qh⟩
end
end L2
namespace L2
open PySem PySem.Spec PySem.Calls PySem.W PyProof.Rows
theorem qwh {xs:List V}{its:List Ag}(rv:Vals xs its):∀(il:List Nat),(∀i∈il,i<xs.length)->Vals (il.map λi=>xs.getD i .non) (il.map λi=>its.getD i Value.none)
 |[],_=>.nil
 |i::r,hin=>by
  refine .cons ?_ (qwh rv r λj hj=>hin j (.tail _ hj));have hi:=hin i (.head _);obtain⟨u,eu,ru⟩:=rv.get (i:=i) (aa hi);have e1:its.getD i Value.none=u:=by rw[ae,eu];rfl
  have z:xs.getD i .non=xs[i]:=by rw[ae,aa hi];rfl
  show RelV (xs.getD i .non) (its.getD i Value.none);rw[e1,z];exact ru
section
variable {X:Cx}{pins:List (Aj×Obj)}{σ:St}{H:Hp}{s:Ab}
end
def wjt (X:Cx)(f:Ag)(ks:List Str)(r:St->List V->List V->Hp->VK->Prop):Prop :=
 ∀(pins:List (Aj×Obj)) (s:Ab) (σ:St) (H:Hp) (xs zs:List V) (us ws:List Ag) (Q:VK),Inv X pins σ H s->Vals xs us->Vals zs ws->r σ xs zs H Q ->
  wpAny (model X.prog X.w) X.A (call f us (ks.zip ws)) (EP X pins σ Q) X.xe s
def tCBKS (r:St->List V->List V->Hp->VK->Prop)(t tk:TA):TE:=λσ H Q=>t σ H λvs H1=>tk σ H1 λzs H2=>r σ vs zs H2 Q
section
variable {X:Cx}{x:Str}{p pos:Pos}{e:Expr}{es:List Expr}{kws:List Keyword}{t tk:TA}{id:String}{ks:List Str}{r:St->List V->List V->Hp->VK->Prop}
theorem wvj (hc:wjt X (.builtin id) ks r)(hg:Gl X x)(hm:X.mg x=none)(hv:bootBuiltins x=some (.builtin id))(ha:PA X (e::es) t)(hkw:PK X kws tk)
  (hall:autoParam ((backToKw pos (keywordEach kws X.env)).all (·.1.isSome)=true) aU4._auto_1) (hks:autoParam ((backToKw pos (keywordEach kws X.env)).filterMap (·.1)=ks) aU4._auto_1) (hn:autoParam (x ≠ "__name__") aU2._auto_1) (hdb:autoParam ((x==("__debug__" : Str))=false) aU1._auto_1)
  (he:autoParam (starEach (e::es) X.env=(false,eval e X.env)::starEach es X.env) aU4._auto_1)
  (hpl:autoParam ((backTo pos (starEach (e::es) X.env)).any (·.1)=false) aU4._auto_1) (hpk:autoParam ((backToKw pos (keywordEach kws X.env)).any (·.1.isNone)=false) aU4._auto_1):PE X (.Call (.Name x p) (e::es) kws pos) (tCBKS r t tk):=by
 intro pins s σ H Q I h;refine ca (jb I hg hm hv ?_ hn hdb);refine callWith_builtin_kwB hpl hpk (evalArgs_kw2 hall (thn (ha pos pins s σ H _ I h) λus s1 ⟨vs,H1,I1,r1,q⟩=>?_) he);refine thn (hkw pos pins s1 σ H1 _ I1 q) λws s2 ⟨zs,H2,I2,rz,q2⟩=>?_;dsimp only [List.nil_append];rw[hks];exact hc pins s2 σ H2 vs zs us ws Q I2 r1 rz q2
end
section
variable {X:Cx}{x y:Str}{params:Arguments}{body:Expr}{scope:Scope}{cF:Aj}{qual:Str}{pm:Ag}{iy k:Nat}{t:TE}
end
end L2
namespace L2
open PySem PySem.Spec PySem.Calls PySem.W PyProof.Rows
theorem xkq {α:Type}{l l':List α}(d:α)(p:l'.Perm l):∃il:List Nat,il.Perm (List.range l.length)/\l'=il.map λi=>l.getD i d:=by
 have J:∀(l:List α) (k:Nat) (L:List α),(∀j,j<l.length->L[k+j]?=l[j]?)->Paired (λx i=>L[i]?=some x) l (List.range' k l.length):=by
  intro l
  induction l with
  |nil=>intro k L _;exact .nil
  |cons x l ih =>
   intro k L h;rw[aB,List.range'_succ];refine .cons (by have:=h 0 (by simp);simpa using this) (ih (k+1) L λj U=>?_);have:=h (j+1) (by simp;lia);rw[show k+1+j=k+(j+1) by lia,this];rfl
 have z:=J l 0 l λj _=>by rw[c0]
 rw[<-List.range_eq_range']at z;obtain⟨il,F,D⟩:=Paired.perm p z;refine⟨il,F,?_⟩;have:∀ {l':List α} {il:List Nat},Paired (λx i=>l[i]?=some x) l' il->l'=il.map λi=>l.getD i d:=by
  intro l' il h
  induction h with
  |nil=>rfl
  |cons r t ih=>rw[aO,ae,r,<-ih];rfl
 exact this D
section
variable {prog:Ac}{w:Ah}{A:Ae}{E:Ag->Ab->Prop}{s:Ab}{a kS:Aj}{vs ks:List Ag}{P:PySem.Fin->Ab->Prop}{f:Ag}
theorem wqj {st:Af}{e e1:Nat}{out:List Ag}(hka:kS≠a)(hk:s.heap.get? kS=some (seqObj "list" ks.toArray e))(ha:s.heap.get? a=some (seqObj "list" #[] e1))(hout:(arrOf st).map (·.2)=List.toArray out)(hz:out.length<64)(hkz:ks.length<64)(hf:failedOf st=none)
  (h:P (.done (.ret .none)) { s with heap:=(s.heap.update kS (Obj.mapSeq λ_=>(#[]:Array Ag))).update a (Obj.mapSeq λ_=>out.toArray) }):wpAny (model prog w) A (ksk_tail a false e1 (.ref kS) st) P E s:=by
 have D:(s.heap.update kS (Obj.mapSeq λ_=>(#[]:Array Ag))).get? a=some (seqObj "list" #[] e1):=by rw[bH _ _ _ _ (λz=>hka z.symm)];exact ha
 unfold ksk_tail
 try dsimp only
 rw[hout];refine ac (dZ hk rfl ?_ (by rw[aq,dh];lia) (aK _));refine ac (fY ?_);refine ac (ic D rfl ?_);refine ac (dZ D rfl ?_ (aK _) (by simp only[aE,bE];rw[aq,dh];lia));rw[hf];simp only[eo,aE,bE];exact ah h
theorem wz8 {s:Ab}{G:Ai->Prop}(hG:∀x,G x->∃n t,x.1=Value.int n t):Tm.qkh (model prog w) A E s G (λx=>numOf x.1) oneType':=by rintro⟨x1,F⟩ ⟨y1,y2⟩ st Q gx gy hk hQ;obtain⟨n,t,D⟩:=hG _ gx;obtain⟨m,u,z⟩:=hG _ gy;dsimp only at D z;subst D z;rw[lt'_eq];refine bJ (wpS_get ?_);rw[hk,keyLt'_oneType];refine bJ (wpS_lift (dY (oneLt_int ⟨rfl,?_⟩)));exact cE hQ
theorem wu0 {R:Nat->Nat->Prop}{n:Nat}(h:n<2):(List.range n).Pairwise R:=by
 match n,h with
 |0,_=>exact .nil
 |1,_=>exact iF _ _
theorem wv0 {vs:List Ag}(h:vs.length<2):((List.range vs.length).map λi=>vs.getD i Value.none)=vs:=by
 match vs,h with
 |[],_=>rfl
 |[v],_=>rfl
theorem xjf {kz:List Int}{e e1:Nat}(hka:kS≠a)(hk:s.heap.get? kS=some (seqObj "list" ks.toArray e))(ha:s.heap.get? a=some (seqObj "list" #[] e1))(hl:ks.length=vs.length)(h64:vs.length<64)(t:IntsAre ks kz)(nd:kz.Pairwise (·≠·))
  (h:∀il,Stb kz vs.length il->P (.done (.ret .none)) { s with heap:=(s.heap.update kS (Obj.mapSeq λ_=>(#[]:Array Ag))).update a (Obj.mapSeq λ_=>(il.map λi=>vs.getD i Value.none).toArray) }) :
  wpAny (model prog w) A (ksk_end a false vs.toArray e1 (.ref kS) ks.toArray) P E s:=by
 have as:ks.length=kz.length:=Wb t;have tt:IntsAre ks.toArray.toList kz:=t;unfold ksk_end
 try dsimp only
 simp only[aE,bE];by_cases h2:vs.toArray.size<2
 .rw[aw h2,aw h2];refine ac (ah ?_);have Z:vs.length<2:=by simpa using h2
  refine ac (ah ?_);refine wqj (out:=vs) hka hk ha ?_ h64 ⋯ rfl ?_
  .show(ks.toArray.zip vs.toArray).map (·.2)=vs.toArray;apply dE.mp;simp;rw[List.map_snd_zip ⋯]
  .have:=h (List.range vs.length) ⟨.refl _,wu0 Z⟩;have e:=wv0 Z;rw[e]at this;exact this
 .rw[ao h2,ao h2];have Z:2<=vs.length:=by simpa using h2
  rw[ksk_kind tt (by rw[aq];lia)];refine ac (ah ?_);have W:(ks.toArray.zip vs.toArray).toList=ks.zip vs:=by rw[Array.toList_zip]
  have D:∀i x,(ks.zip vs)[i]?=some x->i<vs.length/\x.2=vs.getD i .none/\numOf x.1=kz.getD i 0/\∃n t,x.1=Value.int n t:=λi x ex=>by
   have hi:=(al.mp ex).1;rw[gh]at hi;have h1:i<ks.length:=by lia
   have h3:i<vs.length:=by lia
   rw[gW]at ex;obtain⟨e1,e2⟩:=ex;refine⟨h3,by rw[ae,e2];rfl,?_,t.all _ (aL e1)⟩;rw[<-t.nums,ae,av,e1];rfl
  have U:Tm.Un (λx:Ai=>numOf x.1) (λx=>∃n t,x.1=Value.int n t) (ks.toArray.zip vs.toArray):=by
   refine⟨?_,λx L=>?_⟩
   .rw[W];refine be.mpr λi j hi hj ad=>?_;obtain⟨a1,_,a3,_⟩:=D i _ (aa hi);obtain⟨b1,_,F,_⟩:=D j _ (aa hj);rw[a3,F,ae,ae,aa ⋯,aa ⋯];exact be.mp nd i j ⋯ ⋯ ad
   .rw[W]at L;obtain⟨i,ei⟩:=cT L;exact(D i x ei).2.2.2
  refine ac (aP (Tm.Zj (Q:=λ_ z=>(arrOf z).Perm (ks.toArray.zip vs.toArray)/\failedOf z=none/\Tm.SL (λx:Ai=>numOf x.1) (arrOf z).toList) (st:=SortSt.mk' oneType' (ks.toArray.zip vs.toArray) #[] 7 none) (wz8 λx L=>L) U rfl rfl rfl rfl (by show(ks.toArray.zip vs.toArray).size<64;simp;lia) λz a1 a2 a3=>⟨a1,a2,a3⟩) ?_ λ_ _ e=>e);rintro⟨⟨⟩,z⟩ s' ⟨rfl,b1,b2,F⟩
  try dsimp only
  have pl:=eB.mp b1;rw[W]at pl;obtain⟨il,J,p2⟩:=xkq (d:=((.none,.none):Ai)) pl;have lz:(ks.zip vs).length=vs.length:=by rw[gh];lia
  rw[lz]at J;have ab:∀i∈il,i<vs.length:=λi hi=>am.mp (J.mem_iff.mp hi);have an:∀i,i<vs.length->(ks.zip vs)[i]?=some ((ks.zip vs).getD i (.none,.none)):=λi hi=>by rw[ae,aa ⋯];rfl
  have e3:(arrOf z).map (·.2)=List.toArray (il.map λi=>vs.getD i .none):=by apply dE.mp;rw[Array.toList_map,p2,aU];exact bP λi hi=>(D i _ (an i (ab i hi))).2.1
  have st:Stb kz vs.length il:=by refine⟨J,?_⟩;rw[p2]at F;unfold Tm.SL at F;rw[bS]at F;refine bX (λ{i j} hi hj ad=>.inl ?_) F;have ap:numOf ((ks.zip vs).getD i (.none,.none)).1<numOf ((ks.zip vs).getD j (.none,.none)).1:=ad;rwa [(D i _ (an i (ab i hi))).2.2.1,(D j _ (an j (ab j hj))).2.2.1]at ap
  refine wqj hka hk ha e3 ?_ ⋯ b2 (h il st);rw[af,J.length_eq,au];exact h64
theorem xzk {J:List Ag->List Int->Ab->Prop}{e1:Nat}(hka:kS≠a)(h64:vs.length<64)
  (hJ:∀ks kz s,J ks kz s->(∃e,s.heap.get? kS=some (seqObj "list" ks.toArray e))/\s.heap.get? a=some (seqObj "list" #[] e1)/\IntsAre ks kz)
  (step:∀x ks kz (s:Ab),vs[ks.length]?=some x->J ks kz s->wpAny (model prog w) A (call f [x]) (λk s'=>(∃e,s'.heap.get? kS=some (seqObj "list" ks.toArray e))/\∃z,J (ks++[k]) (kz++[z]) { s' with heap:=s'.heap.update kS (Obj.mapSeq (·.push k)) }) (λ_ _=>False) s)
  (nd:∀ks kz (s:Ab),ks.length=vs.length->J ks kz s->kz.Pairwise (·≠·))
  (fin:∀ks kz (s:Ab),ks.length=vs.length->J ks kz s->∀il,Stb kz vs.length il ->
   P (.done (.ret .none)) { s with heap:=(s.heap.update kS (Obj.mapSeq λ_=>(#[]:Array Ag))).update a (Obj.mapSeq λ_=>(il.map λi=>vs.getD i Value.none).toArray) })
  (j:J [] [] s):wpAny (model prog w) A (ksk_rest a f false vs.toArray e1 (.ref kS)) P E s:=by
 unfold ksk_rest;refine ac (eC ?_)
 first
  |rw[List.forIn_toArray]
  |(rw[<-fh];simp only[List.toList_toArray])
  |rw[<-fh]
 refine ac (aP (wjm (vs:=vs) (J:=J) (λx ks kz s' U D=>?_) vs [] [] s (by simp) (aK _) j) (λ_ s' ab=>?_) λ_ _ x=>x)
 .refine ac (dY (aP (step x ks kz s' U D) (λk ad Z=>?_) λ_ _ hF=>hF.elim));obtain⟨⟨e,F⟩,xs,W⟩:=Z;have hz:ks.length<vs.length:=(al.mp U).1
  try dsimp only
  refine ac (dZ F rfl ?_ (by rw[aq,dh];lia) (bo (Nat.le_of_eq (Array.size_push ..)) (by rw[aq,dh];lia)));exact ah ⟨rfl,k,xs,W⟩
 .obtain⟨ks,kz,L,D⟩:=ab;obtain⟨⟨e,F⟩,h1,h2⟩:=hJ _ _ _ D
  try dsimp only
  refine ac (listItems_at F rfl ?_);exact xjf hka F h1 L h64 h2 (nd ks kz s' L D) (fin ks kz s' L D)
theorem xw4 {J:Nat->List Ag->List Int->Ab->Prop}{n:Nat}(ho:s.heap.get? a=some (seqObj "list" vs.toArray n))(h64:vs.length<64)
  (hJ:∀e1 ks kz s',J e1 ks kz s'->(∃e,s'.heap.get? (s.heap.objs.size+1)=some (seqObj "list" ks.toArray e))/\s'.heap.get? a=some (seqObj "list" #[] e1)/\IntsAre ks kz)
  (step:∀e1 x ks kz (s':Ab),vs[ks.length]?=some x->J e1 ks kz s'->wpAny (model prog w) A (call f [x]) (λk s2=>(∃e,s2.heap.get? (s.heap.objs.size+1)=some (seqObj "list" ks.toArray e))/\∃z,J e1 (ks++[k]) (kz++[z]) { s2 with heap:=s2.heap.update (s.heap.objs.size+1) (Obj.mapSeq (·.push k)) }) (λ_ _=>False) s')
  (nd:∀e1 ks kz (s':Ab),ks.length=vs.length->J e1 ks kz s'->kz.Pairwise (·≠·))
  (fin:∀e1 ks kz (s':Ab),ks.length=vs.length->J e1 ks kz s'->∀il,Stb kz vs.length il ->
   P (.done (.ret .none)) { s' with heap:=(s'.heap.update (s.heap.objs.size+1) (Obj.mapSeq λ_=>(#[]:Array Ag))).update a (Obj.mapSeq λ_=>(il.map λi=>vs.getD i Value.none).toArray) })
  (j:∀e1,(Zd s.heap a vs).get? a=some (seqObj "list" #[] e1)->J e1 [] [] { s with heap:=Zd s.heap a vs }):wpAny (model prog w) A (ksk_tree a f false) P E s:=by
 have L:a<s.heap.objs.size:=aj ho;obtain⟨e1,D⟩:∃e1,(s.heap.update a (Obj.mapSeq λ_=>(#[]:Array Ag))).get? a=some (seqObj "list" #[] e1):=⟨_,dX ho λ_=>#[]⟩;have F:((s.heap.update a (Obj.mapSeq λ_=>(#[]:Array Ag))).push (seqObj "tuple" vs.toArray 0)).objs.size=s.heap.objs.size+1:=by rw[size_push',iG]
 unfold ksk_tree;refine ac (listItems_at ho rfl ?_);refine ac (dZ ho rfl ?_ (by rw[aq,dh];lia) (aK _));refine ac (ic D rfl ?_);refine ac (wpAny_newTuple ?_ (by show vs.length<=_;rw[dh];lia));refine ac (fT ?_ (aK _));refine bY ?_;show wpAny (model prog w) A (ksk_rest a f false vs.toArray e1 (.ref ((s.heap.update a (Obj.mapSeq λ_=>(#[]:Array Ag))).push (seqObj "tuple" vs.toArray 0)).objs.size)) P E { s with heap:=Zd s.heap a vs };rw[F];exact xzk (J:=J e1) (dJ (eA L)) h64 (hJ e1) (step e1) (nd e1) (fin e1) (j e1 (ag _ (ag _ D)))
end
section
variable {X:Cx}{pins:List (Aj×Obj)}{σ:St}{H:Hp}{s:Ab}
theorem ww3 {g p:Aj}{xs:List V}{kz:List Int}{Q:VK}(I:Inv X pins σ H s)(hS:SqL X.K H p xs)(h64:xs.length<64)(hnd:kz.Pairwise (·≠·))(hkz:kz.length=xs.length)
  (step:∀(pins':List (Aj×Obj)) (s':Ab) (i:Nat) (v:V) (u:Ag),Inv X pins' σ H s'->xs[i]?=some v->RelV v u ->
   wpAny (model X.prog X.w) X.A.in1.in1 (call (.ref g) [u]) (λr s2=>(∃t,r=.int (kz.getD i 0) t)/\Inv X pins' σ H s2) (λ_ _=>False) s')
  (q:∀l il,H l=none->Stb kz xs.length il->Q (.ref l) (upd H l (.lst (il.map λi=>xs.getD i .non)))) :
  wpAny (model X.prog X.w) X.A (call (.builtin "sorted") [.ref p] [(Str.ofString "key",.ref g)]) (EP X pins σ Q) X.xe s:=by
 obtain⟨its,rv,pl,hz⟩:=I.list hS;have hl:s.heap.IsList p its.toArray:=pl.isList;have hlen:its.length=xs.length:=rv.length.symm;refine call_function_entry_kw kind_sorted plain_sorted entry_sorted (ksk_s1 _ _) ?_;unfold Builtin.«sorted»;refine ac (m:=checkCount "sorted" 1 1 _) (ah ?_);refine ac (collect_list hl ?_ (by rw[dh];lia));refine ac (fT ?_ (by rw[dh];lia));have hsz:((s.heap.push (seqObj "list" #[] 0)).update s.heap.objs.size (Obj.mapSeq (·++its.toArray))).objs.size=s.heap.objs.size+1:=by rw[iG,size_push']
 have hoL:(((s.heap.push (seqObj "list" #[] 0)).update s.heap.objs.size (Obj.mapSeq (·++its.toArray))).push (seqObj "list" its.toArray 0)).get? (s.heap.objs.size+1)=some (seqObj "list" its.toArray 0):=by rw[<-hsz];exact ax _ rfl
 have keep:∀b o,s.heap.get? b=some o->(((s.heap.push (seqObj "list" #[] 0)).update s.heap.objs.size (Obj.mapSeq (·++its.toArray))).push (seqObj "list" its.toArray 0)).get? b=some o:=λb o q=>by have hlt:b<s.heap.objs.size:=aj q;rw[Heap.get?_push_ne _ _ _ (by rw[hsz];exact ay (eA hlt)),bH _ _ _ _ (ay hlt),Heap.get?_push_ne _ _ _ (ay hlt)];exact q
 show wpAny _ _ _ _ _ { s with heap:=((s.heap.push (seqObj "list" #[] 0)).update s.heap.objs.size (Obj.mapSeq (·++its.toArray))).push (seqObj "list" its.toArray 0) };rw[hsz];generalize hh1:((s.heap.push (seqObj "list" #[] 0)).update s.heap.objs.size (Obj.mapSeq (·++its.toArray))).push (seqObj "list" its.toArray 0)=h1 at hoL keep ⊢;have hs1:h1.objs.size=s.heap.objs.size+2:=by rw[<-hh1,size_push',hsz]
 have fD:vh X pins H (s.heap.objs.size+1):=I.fpOk (i6 _) (I.hok.fresh (i6 _));have nK:H (h1.objs.size+1)=none:=I.hok.fresh (by rw[hs1];exact fR _ 3);have fK:vh X pins H (h1.objs.size+1):=I.fpOk (by rw[hs1];exact fR _ 3) nK;have nD:H (s.heap.objs.size+1)=none:=I.hok.fresh (i6 _);have hne:(h1.objs.size+1:Nat)≠s.heap.objs.size+1:=by lia
 refine ac (bY (wpAny_call_entry_kw slot_list_sort ⟨_,hoL,rfl⟩ entry_list_sort ?body (ksk_l1 _ _)))
 case body =>
  show wpAny (model X.prog X.w) X.A.in1.in1 (Builtin.«list.sort» ⟨[.ref (s.heap.objs.size+1)],[(Str.ofString "key",.ref g)]⟩) _ _ { s with heap:=h1 };rw[ksk_t1];refine xw4 (s:={ s with heap:=h1 }) (J:=λe1 ks zs s'=>Inv X pins σ H s'/\s'.heap.get? (s.heap.objs.size+1)=some (seqObj "list" #[] e1) /\
   (∃e,s'.heap.get? (h1.objs.size+1)=some (seqObj "list" ks.toArray e))/\IntsAre ks zs/\zs=kz.take ks.length/\ks.length<=xs.length) hoL ⋯ ?_ ?_ ?_ ?_ ?_
  .rintro e1 ks zs s' ⟨I',g1,g2,ia,_,_⟩;exact⟨g2,g1,ia⟩
  .rintro e1 x ks zs s' hx ⟨I',g1,⟨e,g2⟩,ia,ek,lk⟩;have hi:ks.length<xs.length:=by have:=(al.mp hx).1;lia
   obtain⟨u,eu,ru⟩:=rv.get (i:=ks.length) (aa hi);rw[hx]at eu;cases eu;have I2:Inv X ((s.heap.objs.size+1,seqObj "list" #[] e1)::(h1.objs.size+1,seqObj "list" ks.toArray e)::pins) σ H s':=I'.pins_of λp hp=>by
    rcases aC.mp hp with rfl|hp
    .exact⟨g1,nD,fD.2.1,fD.2.2.1,λv z=>by cases z⟩
    .rcases aC.mp hp with rfl|hp
     .exact⟨g2,nK,fK.2.1,fK.2.2.1,λv z=>by cases z⟩
     .exact I'.pin p (az _ hp)
   refine aP (step _ s' ks.length _ x I2 (aa hi) ru) (λr s2 hq=>?_) λ_ _ h=>h;obtain⟨⟨t,rfl⟩,I3⟩:=hq;obtain⟨d1,d2,_⟩:=I3.pin (s.heap.objs.size+1,seqObj "list" #[] e1) (az _ (.head _));obtain⟨k1,k2,_⟩:=I3.pin (h1.objs.size+1,seqObj "list" ks.toArray e) (az _ (.tail _ (.head _)));have I4:Inv X pins σ H s2:=I3.pins_of λp hp=>I3.pin p (az _ (.tail _ (.tail _ hp)));refine⟨⟨e,k1⟩,kz.getD ks.length 0,I4.turnedL (tk:=s2.toks) (ch:=[h1.objs.size+1]) (λb u hb e=>?_) (λb hb=>?_),?_,?_,ksk_snoc ia,?_,?_⟩
   .rw[bH _ _ _ _ (λz=>hb (by simp[z]))];exact e
   .obtain rfl:b=h1.objs.size+1:=by simpa using hb
    exact fK
   .show(s2.heap.update (h1.objs.size+1) _).get? (s.heap.objs.size+1)=_;rw[bH _ _ _ _ (λz=>hne z.symm)];exact d1
   .have ea:(List.toArray ks).push (Value.int (kz.getD ks.length 0) t)=List.toArray (ks++[Value.int (kz.getD ks.length 0) t]):=by simp
    exact⟨_,by rw[<-ea];exact dX k1 (·.push (Value.int (kz.getD ks.length 0) t))⟩
   .rw[ek,ar,cq,cY,ae,aa ⋯];rfl
   .rw[ar,cq];lia
  .rintro e1 ks zs s' hks ⟨I',g1,⟨e,g2⟩,ia,ek,lk⟩;rw[ek,hks,hlen,<-hkz,bq];exact hnd
  .rintro e1 ks zs s' hks ⟨I',g1,⟨e,g2⟩,ia,ek,lk⟩ il hst;have ekk:zs=kz:=by rw[ek,hks,hlen,<-hkz,bq]
   rw[ekk,hlen]at hst;have hin:∀i∈il,i<xs.length:=λi hi=>am.mp (hst.1.mem_iff.mp hi);have hk4:∀b u,b∉[h1.objs.size+1,s.heap.objs.size+1]->s'.heap.get? b=some u->((s'.heap.update (h1.objs.size+1) (Obj.mapSeq λ_=>(#[]:Array Ag))).update (s.heap.objs.size+1) (Obj.mapSeq λ_=>(il.map λi=>its.getD i Value.none).toArray)).get? b=some u:=λb u hb e=>by rw[bH _ _ _ _ (λz=>hb (by simp[z])),bH _ _ _ _ (λz=>hb (by simp[z]))];exact e
   have I5:=I'.turnedL (tk:=s'.toks) (ch:=[h1.objs.size+1,s.heap.objs.size+1]) hk4 λb hb=>by
    have hb':b=h1.objs.size+1\/b=s.heap.objs.size+1:=by simpa using hb
    rcases hb' with rfl|rfl
    .exact fK
    .exact fD
   have hg:(s'.heap.update (h1.objs.size+1) (Obj.mapSeq λ_=>(#[]:Array Ag))).get? (s.heap.objs.size+1)=some (seqObj "list" #[] e1):=by rw[bH _ _ _ _ (λz=>hne z.symm)];exact g1
   have outI:=qwh rv il hin;have hlo:il.length=xs.length:=by have:=hst.1.length_eq;rw[au]at this;lia
   refine⟨_,rfl,ah ⟨_,rfl,.ref (s.heap.objs.size+1),_,Inv.track (o:=.lst (il.map λi=>xs.getD i .non)) I5 fD ⟨?_,_,_,outI,dX hg λ_=>_⟩,rfl,q _ il nD hst⟩⟩;rw[af,hlo,dh];lia
  .intro e1 g1;have kp:∀b o,b≠s.heap.objs.size+1->h1.get? b=some o->(Zd h1 (s.heap.objs.size+1) its).get? b=some o:=λb o hb e=>by unfold Zd;refine ag _ (ag _ ?_);rw[bH _ _ _ _ hb];exact e
   refine⟨I.kept (t':=s.toks) (λb u e=>kp b u (ay (eA (aj e))) (keep b u e)),g1,⟨0,?_⟩,.nil,by simp,aK _⟩;have hkS:((h1.update (s.heap.objs.size+1) (Obj.mapSeq λ_=>(#[]:Array Ag))).push (seqObj "tuple" its.toArray 0)).objs.size=h1.objs.size+1:=by rw[size_push',iG]
   show(Zd h1 (s.heap.objs.size+1) its).get? (h1.objs.size+1)=_;unfold Zd;rw[<-hkS];exact ax _ rfl
end
section
variable {X:Cx}{x y:Str}{params:Arguments}{body:Expr}{scope:Scope}{cF:Aj}{qual:Str}{pm:Ag}{iy k:Nat}{t:TE}
theorem quj (S:LamSc x y scope)(hr:Room (k+3) X.A)(hiy:X.N[iy]?=some y)(hky:X.env.kindOf y=some .cell)(hsy:X.env.scope.names.lookup y=some .cell)(hcF:X.env.cells.lookup y=some cF)
  (hb:∀(u ct:Ag) (c':Aj),bindArgs (kla_fn "<lambda>" qual params body scope [(y,cF)] pm (.ref c') ct) ⟨[u],[]⟩=pure [(x,u)])
  (hpe:∀(g c':Aj) (A:Ae) (outer:List Env) (s:Ab) (H:Hp) (E:XK),PE (wkm (CXE X.prog X.w) X.prog X.w X.K X.mg X.base [x,y] qual scope g (.ref c') [(y,cF)] A outer s H E) body t) :
  wjt X (.builtin "sorted") [Str.ofString "key"] (λσ xs zs H Q=>∃(p:Aj) (vs:List V) (kz:List Int) (g c':Aj) (ct:Ag) (vS:V),xs=[.ref p]/\zs=[.ref g]/\SqL X.K H p vs/\vs.length<64/\kz.Pairwise (·≠·)/\kz.length=vs.length /\
   H g=some (qur g (kla_obj "<lambda>" qual params body scope [(y,cF)] pm c' ct))/\H c'=some (qv7 qual c')/\σ[iy]?=some (some vS) /\
   (∀i v,vs[i]?=some v->t [some v,some vS] H λr H'=>r=.int (kz.getD i 0)/\H'=H) /\
   ∀l il,H l=none->Stb kz vs.length il->Q (.ref l) (upd H l (.lst (il.map λi=>vs.getD i .non)))):=by
 intro pins s σ H xs zs us ws Q I r U h;obtain⟨p,vs,kz,g,c',ct,vS,rfl,rfl,hS,a0,ab,an,hg,as,hσ,ht,q⟩:=h;obtain⟨u,rfl,Z⟩:=yg r;cases(show u=Value.ref p from Z);obtain⟨v,rfl,J⟩:=yg U;cases(show v=Value.ref g from J);refine ww3 I hS a0 ab an (λa1 s' i v u D hv J=>?_) q;obtain⟨m,a2,ad⟩:=D.loc;obtain⟨uS,rS,lk⟩:=ad iy y vS hiy hσ (.inr (.inl hsy));have ap:s'.heap.IsCell cF (some uS):=by
  rcases lk with⟨z,_⟩|⟨_,c,L,e2⟩
  .rw[hky]at z;cases z
  .rw[hcF]at L;cases L;exact e2
 refine iM (dL (xjw (k:=k) S hr.in1.in1 D.env0.in1.in1 (D.hok g _ hg).1 (D.hok c' _ as).1 (hb u ct c') ap (D.freeC y cF hcF) J rS (hpe g c' _ _ _ _ E0) (ht i v hv)) λr s2 F=>?_);cases r with
 |error e=>exact CXE.no F
 |ok fl =>
  cases fl with
  |next=>exact False.elim F
  |brk=>exact False.elim F
  |cont=>exact False.elim F
  |ret w =>
   obtain⟨v,H2,I3,W,rfl,rfl⟩:=D.after F;obtain⟨t,rfl⟩:=W;exact⟨⟨t,rfl⟩,I3⟩
end
end L2
namespace L2
open PySem PySem.Spec PyProof.Rows
theorem xqg (bs:List Bool):(List.range bs.length).any (λi=>bs.getD i false)=bs.any id:=by
 rw[cx,dD,dD];constructor
 .rintro⟨i,hi,h⟩;have z:=am.mp hi;rw[ae,aa z]at h;exact⟨bs[i],bF z,h⟩
 .rintro⟨b,D,h⟩;obtain⟨i,hi,rfl⟩:=cM D;refine⟨i,am.mpr hi,?_⟩;rw[ae,aa hi];exact h
section
variable {X:Cx}{K:Aa}
theorem qzt (hc:X.calm=true)(hK:X.K=K):yx X (.builtin "any") (λxs H Q=>∃(p:Aj) (bs:List Bool),xs=[.ref p]/\SqL K H p (bs.map V.bl)/\Q (.bl (bs.any id)) H):=by
 subst hK;intro pins s σ H xs us Q I r h;obtain⟨p,bs,rfl,hS,q⟩:=h;obtain⟨u,rfl,ru⟩:=yg r;cases(show u=Value.ref p from ru);obtain⟨D,Z,⟨o,n,W,F,e3,e4⟩,hz⟩:=I.list hS;have L:=qu6 Z;have J:s.heap.IsList p D.toArray:=⟨o,W,F,n,e4⟩;have ab:p<s.heap.objs.size:=aj W;refine call_any_walk (hU J ?_);refine⟨s.heap.objs.size,_,_,_,_,_,λi=>bs.getD i false,rfl,Walks.list (A:=X.A.in1) (I.ok.hd hc) _ p (ay ab) D.toArray,⟨⟨_,ax _ rfl,rfl,rfl⟩,J.push _⟩,λi v s' Q' E' hP hQ=>?_,λh' tk hk=>?_⟩
 .have hv:D[i]?=some v:=by simpa using hP
  rw[L,av]at hv;cases hb:bs[i]? with
  |none=>rw[hb]at hv;cases hv
  |some b =>
   rw[hb]at hv;have ev:Value.bool b=v:=ak hv;subst ev;refine dt ?_;have F:bs.getD i false=b:=by rw[ae,hb];rfl
   have U:Q' (bs.getD i false) s':=hQ;rw[F]at U;exact U
 .have ad:D.toArray.size=bs.length:=by rw[L];simp
  rw[ad,xqg];refine⟨.bl _,H,I.kept λb ob e=>hk b ob (λhm=>?_) (ag _ e),rfl,q⟩;have z:b=s.heap.objs.size:=by simpa using hm
  exact aN _ (z▸aj e)
end
end L2
namespace L2
open PySem PySem.Spec PySem.Calls PySem.W PyProof.Rows
section
variable {prog:Ac}{w:Ah}{A:Ae}{R:Result->Ab->Prop}{I:Aj}{fp wr:List Aj}{n:Nat}{P:Nat->Ag->Prop}{St:Nat->Heap->Prop}
def MxAt (P:Nat->Ag->Prop)(bt:Nat->Nat->Bool)(j:Nat)(old:Array Ag):Prop:=(j=0/\old=#[])\/∃i v,j=i+1/\old=#[v,v]/\P (argBest bt i) v
theorem xwk (W:Walks prog w A.in1 I fp wr n P St)(bt:Nat->Nat->Bool)(hcmp:CmpOf prog w A.in1 .Gt P bt)(S:Aj)(hSf:S∉fp)(d:Ag) :
  ∀(m j:Nat) (s:Ab) (old:Array Ag) (c:Nat),j+m=n->St j s.heap->s.heap.get? S=some ⟨.type "list",none,.seq old c,#[]⟩->MxAt P bt j old ->
   (∀v h' tk,(n=0/\v=d\/∃i,n=i+1/\P (argBest bt i) v)->(∀b o,b∉wr->b≠S->s.heap.get? b=some o->h'.get? b=some o)->R (.ok (.ret v)) { s with heap:=h',toks:=tk }) ->
   codeAny (model prog w) A (.builtin "max.loop" ⟨[.ref I,.none,.ref S],[("default",d)]⟩) R s:=by
 have a1:S∉wr:=λh=>hSf (W.sub _ h);have ap:(toString "max" ++ toString ".loop" : String) = "max.loop" := by decide
 intro m
 induction m with
 |zero =>
  intro j s old c hj st hS as hR;obtain rfl:j=n:=hj;(refine gf F.entry_max_loop ?_ ;rw[fZ dF _] ;show wpAny _ A.in1 (seqItems? (.ref S) >>= _) _ _ s ;refine ac (gK hS rfl ?_));(show wpAny _ A.in1 (tryCatch (pyNext (.ref I)) _ >>= _) _ _ s ;refine ac (wpAny_tryCatch (W.done s _ _ st λh' tk L=>?_)));rcases as with⟨rfl,rfl⟩|⟨i,v,rfl,rfl,hP⟩
  .exact ac (eC (ah (hR d h' tk (.inl ⟨rfl,rfl⟩) λb o D _ e=>L b o D e)))
  .have U:=L S _ a1 hS;(show wpAny _ A.in1 (updateSeq S (λ_=>#[]) >>= _) _ _ _ ;refine ac ?_ ;refine iY U rfl (ac (fY (ah ?_))));exact hR v _ tk (.inr ⟨i,rfl,hP⟩) λb o D J e=>(cg _ _ (cV J)).trans (L b o D e)
 |succ m ih =>
  intro j s old c hj st hS as hR;have a3:j<n:=by lia
  (refine gf F.entry_max_loop ?_ ;rw[fZ dF _] ;show wpAny _ A.in1 (seqItems? (.ref S) >>= _) _ _ s ;refine ac (gK hS rfl ?_));(show wpAny _ A.in1 (tryCatch (pyNext (.ref I)) _ >>= _) _ _ s ;refine ac (wpAny_tryCatch (W.item j s _ _ a3 st λv h' tk hP a0 L=>?_)));have U:=L S _ a1 hS;have fr:∀(h2:Heap),(∀b o,b≠S->h'.get? b=some o->h2.get? b=some o)->St (j+1) h2:=λh2 k=>W.frame _ _ _ a0 λb a4 o e=>k b o (λz=>hSf (by rw[<-z];exact a4)) e;rcases as with⟨rfl,rfl⟩|⟨i,vb,rfl,rfl,a2⟩
  ·(show wpAny _ A.in1 (updateSeq S (λ_=>#[v,v]) >>= _) _ _ _ ;refine ac ?_ ;refine iY U rfl ?_ ;rw[ap]);refine ah ⟨io dF _,ih (0+1) _ _ _ ⋯ (fr _ λb o Z e=>(cg _ _ (cV Z)).trans e) (cu _ U rfl) (.inr ⟨0,v,rfl,rfl,hP⟩) λv' an ab hv ad=>?_⟩;exact hR v' an ab hv λb o D J e=>ad b o D J ((cg _ _ (cV J)).trans (L b o D e))
  ·(show wpAny _ A.in1 (tryCatch (holding [v,v] (richCompare .Gt v vb >>= _)) _ >>= _) _ _ _ ;refine ac (wpAny_tryCatch (bY (ac (hcmp (i+1) (argBest bt i) v vb _ _ _ hP a2 ?_)))));(refine ac (bY (dt ?_)) ;refine ac (fY (ah ?_)));cases Z:bt (i+1) (argBest bt i) with
   |true =>
    (simp only[da] ;refine ac ?_ ;refine iY U rfl (ac (fY ?_)) ;rw[ap])
    refine ah ⟨io dF _,ih (i+1+1) _ _ _ ⋯ (fr _ λb o Z e=>(cg _ _ (cV Z)).trans e) (cu _ U rfl) (.inr ⟨i+1,v,rfl,rfl,by simp only[argBest,Z,da];exact hP⟩) λv' an ab hv ad=>?_⟩;exact hR v' an ab hv λb o D J e=>ad b o D J ((cg _ _ (cV J)).trans (L b o D e))
   |false =>
    (simp only[aE,bE] ;refine ac (fY ?_) ;rw[ap])
    refine ah ⟨io dF _,ih (i+1+1) _ _ _ ⋯ a0 U (.inr ⟨i+1,vb,rfl,rfl,by simp only[argBest,Z,aE,bE];exact a2⟩) λv' an ab hv ad=>?_⟩;exact hR v' an ab hv λb o D J e=>ad b o D J (L b o D e)
end
theorem wud (a d:Ag):argsOk "max" ⟨[a],[(Str.ofString "default",d)]⟩:=by unfold argsOk;kernel_rfl
section
variable {prog:Ac}{w:Ah}{A:Ae}{E:Ag->Ab->Prop}{s:Ab}
theorem quy {id:String}{b:Builtin}{args:List Ag}{kw:List (Str×Ag)}{Q:Ag->Ab->Prop}(hk:builtinKind id=none)(hp:plainId id=true)(hb:entryFor table id=some b)(ha:argsOk id ⟨args,kw⟩)
  (hc:wpAny (model prog w) A.in1 (b ⟨args,kw⟩) (λfin s'=>match fin with
   |.done f=>(match (Except.ok f:Result) with|.ok (.ret v)=>Q v s'|.ok _=>False|.error e=>E e s')
   |.again c'=>c'.quiet=true/\codeAny (model prog w) A c' (λr s'=>match r with|.ok (.ret v)=>Q v s'|.ok _=>False|.error e=>E e s') s') E s) :
  wpAny (model prog w) A (call (.builtin id) args kw) Q E s:=by
 refine iM (codeAny_call_builtin hp hb ?_);simp only[checkBuiltinCall,hk];cases g:Manifest.signature? id with
 |none=>exact ah hc
 |some sig =>
  have z:Bind.checkArgs id sig ⟨args,kw⟩=pure ():=by simpa only [argsOk,g] using ha
  (simp only[z] ;exact ah hc)
end
section
variable {X:Cx}
theorem wu7 (hc:X.calm=true):xwh X (.builtin "max") [Str.ofString "default"] (λxs zs H Q=>∃(p:Aj) (ns:List Int) (d:Int),xs=[.ref p]/\zs=[.int d]/\SqL X.K H p (ns.map V.int) /\
  ∀m,(∀a∈ns,a<=m)->(m∈ns\/(ns=[]/\m=d))->Q (.int m) H):=by
 intro pins s σ H xs zs us ws Q I r rz h;obtain⟨p,ns,d,rfl,rfl,hS,q⟩:=h;obtain⟨u,rfl,ru⟩:=yg r;cases(show u=Value.ref p from ru);obtain⟨v,rfl,tv,rfl⟩:=yg rz;obtain⟨D,hl,J⟩:=Js I hS;have Z:D.size=ns.length:=by rw[J,af,bc]
 have ab:(toString "max" ++ toString ".loop" : String) = "max.loop" := by decide
 show wpAny _ _ (call (.builtin "max") [.ref p] [(Str.ofString "default",.int d tv)]) _ _ _;refine quy F.kind_max F.plain_max F.entry_max (wud _ _) ?_;(show wpAny _ X.A.in1 (Builtin.Builtins.bindParams "max" ["key","default"] 0 ⟨[],[(Str.ofString "default",.int d tv)]⟩ >>= _) _ _ s ;refine ac (wpAny_of_eq (show Builtin.Builtins.bindParams "max" ["key","default"] 0 ⟨[],[(Str.ofString "default",.int d tv)]⟩=pure [none,some (.int d tv)] from rfl) ?_));(refine ac (ah ?_) ;refine ac (iter_intList hl λs₂ e st an ad=>?_) ;subst e ;refine ac (bK ?_));have W:=Walks.list (A:=X.A.in1) (prog:=X.prog) (w:=X.w) (I.ok.hd hc) _ p ad (intItems D);have ap:(s.heap.push { cls:=.type "list_iterator",data:=.fields #[.ref p,.int 0 0] }).objs.size∉[s.heap.objs.size,p]:=λhm=>aN _ (an _ hm);rw[ab];refine ah ⟨io dF _,xwk W _ (CmpOf.ints_gt (numAt D) λ_ _=>i9) _ ap (.int d tv) _ 0 _ #[] _ (c0 _) (W.frame _ _ _ st λb _ o e=>ag _ e) (ax _ rfl) (.inl ⟨rfl,rfl⟩) λv h' tk hv hk=>?_⟩;have U:∀b o,s.heap.get? b=some o->h'.get? b=some o:=λb o e=>by
  have hb:b<s.heap.objs.size:=aj e;refine hk b o (λz=>?_) (ay ?_) (ag _ (ag _ e))
  .obtain rfl:=aQ.mp z;exact aN _ hb
  .rw[cK];exact eA hb
 have zi:(intItems D).size=D.size:=by simp[intItems]
 rcases hv with⟨h0,rfl⟩|⟨i,hi,hP⟩
 .have e0:ns=[]:=List.length_eq_zero_iff.mp ⋯;exact⟨.int d,H,I.kept U,⟨tv,rfl⟩,q d (λa L=>by rw[e0]at L;cases L) (.inr ⟨e0,rfl⟩)⟩
 .obtain⟨t,rfl⟩:=i9 hP;obtain⟨b1,b2⟩:=argBest_gt (numAt D) i;refine⟨.int _,H,I.kept U,⟨t,rfl⟩,q _ (λa L=>?_) (.inl ?_)⟩
  .rw[J]at L;obtain⟨j,hj,rfl⟩:=mem_getD L;rw[<-J,<-Z]at hj;rw[<-ja];exact b2 j ⋯
  .rw[J,ja];refine getD_mem ?_;rw[<-J,<-Z];lia
end
end L2
namespace L2
open PySem PySem.Spec PySem.Calls PySem.W PyProof.Rows
structure FunT (K:Aa)(x:Str)(st:Stmt)(c f:Aj)(fd:Ad):Prop where
 F:Fun K x x st f fd
 code:fd.code=.ref c
section
variable {P:Ac}{w:Ah}{K:Aa}{mg:Str->Option Ag}{base:Heap}{x:Str}{st:Stmt}{c:Aj}
theorem FunT.okX {f:Aj}{fd:Ad}{N ps:List Str}{k:Nat}{sp:Sp}(F:FunT K x st c f fd)(S:FnScope N ps (ww st))(len:∀vs H Q E,sp vs H Q E->vs.length=ps.length)
  (body:∀(A:Ae) (outer:List Env) (s:Ab) (H:Hp) (vs:List V) (Q:VK) (E:XK),Room k (A.deeper (envOfC x (ww st) s.heap.objs.size f (.ref c)))->sp vs H Q E ->
   ∃t,PSs (Yp (CXE P w) P w K mg base N x (ww st) f (.ref c) A outer s H E) (zr st) t/\t { nx:=λ_ H'=>Q .non H',rt:=Q } (Q4 N vs) H):FnOk P w K mg base (CXE P w) (k+1) f fd ps sp:=by
 obtain⟨Z,W,kV,ab,pm,an,cdv,ct,U,rfl,z,L⟩:=F.F.ex;obtain rfl:cdv=.ref c:=F.code;exact xvc z L S len λA outer s H vs Q E J D=>body A outer s H vs Q E J D
structure DefInT (K:Aa)(x:Str)(st:Stmt)(c:Aj):Prop where
 ex:∃f fd,W.nsIn K mainGlobals x=some (some (.ref f))/\FunT K x st c f fd
theorem xjq {f:Aj}{oc:Ag}{od an:Option Aj}{osl:Array (Option Ag)}{kV doc pm ct:Ag}(a:W.nsIn K mainGlobals x=some (some (.ref f)))
  (l:K.lookup f=some ⟨oc,od,.func (W.fnOf x x (ku st) (zr st) (ww st) .none kV doc pm an (.ref c) ct),osl⟩) (cc:W.codeIn K (.ref c) x=true) (k:W.keepIn K (.ref f)=true):DefInT K x st c:=⟨_,_,a,wz1 l cc k,rfl⟩
theorem DefInT.cal {ps:List Str}{k:Nat}{sp:Sp}{h:Heap}(d:DefInT K x st c)(KX:K.In h)(G:h.Ns mainGlobals mg)(b:xj x st ps)(ok:∀f fd,FunT K x st c f fd->FnOk P w K mg base (CXE P w) k f fd ps sp):Cal P w K mg base x k sp:=by obtain⟨f,fd,a,F⟩:=d.ex;exact⟨f,fd,ps,bh KX G a,ok f fd F,F.F.kp,F.F.binds b⟩
end
end L2
namespace L2
open PySem PySem.Spec PyProof.Rows
theorem qwm {K:Aa}{M:List Nat}{a:Aj}{xs:List V}{te:TE}{σ:St}{H:Hp}{Q:VK}(G:Nat->V->Hp->Prop)(gs:xwp G)(hS:SqL K H a xs)(hn:xs.length<=1000000)
  (he:∀(i:Nat) (x:V) (H':Hp) (R:VK),xs[i]?=some x->Same H H'->(∀v H'',Same H' H''->G i v H''->R v H'')->te (zk M σ (some x)) H' R)
  (k:∀p ys H',H p=none->Same H H'->H' p=some (.lst ys)->ys.length=xs.length->(∀j v,ys[j]?=some v->G j v H')->Q (.ref p) H'):Wu (Itl K a) M te σ H Q:=by
 intro p np;have ab:(1000000:Nat)<sizeLine:=by decide
 refine⟨λi m ys H2=>i<=xs.length/\m=xs.length-i/\ys.length=i/\Same H H2/\H2 p=some (.lst ys)/\∀j v,ys[j]?=some v->G j v H2,⟨xs.length,aK _,rfl,rfl,Same.upd np,qh,λj v e=>by cases e⟩,?_⟩;rintro i m ys H2 ⟨hi,rfl,hl,sm,hp,hG⟩;have L:SqL K H2 a xs:=Same.sql sm hS;refine⟨hp,⋯,?_⟩;by_cases hlt:i<xs.length
 .have J:xs[i]?=some xs[i]:=aa hlt;refine .inr ⟨⟨xs,_,L,J⟩,?_⟩;rintro v H3 ⟨rfl,hv⟩;have U:=hv xs L;rw[J]at U;have e':=ak U;subst e';clear U;refine he i _ _ _ J sm λw Z D g4=>?_;have W:=D _ _ hp;have st:∀b o,(∀xs,o≠.lst xs)->Z b=some o->upd Z p (.lst (ys++[w])) b=some o:=λb o F e=>by
   rw[wv]
   .exact e
   .intro z;rw[z,W]at e;exact F _ (ak e).symm
  refine⟨W,xs.length-(i+1),⋯,⋯,rfl,by rw[ar,hl];rfl,λb o e=>?_,qh,λj v e=>?_⟩
  .rw[wv (wj e np)];exact D _ _ (sm _ _ e)
  .rcases bj j ys.length with z|z
   .rw[aS z]at e;exact gs j v _ _ (hG j v e) λb o F e=>st b o F (D _ _ e)
   .rw[aF z]at e;have hj:j=i:=by
     rcases bj (j-ys.length) 1 with y|y
     .lia
     .rw[aG (by simpa using y)]at e;cases e
    subst hj;rw[show j-ys.length=0 by lia]at e;cases e;exact gs j _ _ _ g4 st
 .have:i=xs.length:=by lia
  subst this;exact .inl ⟨⟨xs,L,ai _⟩,k p ys H2 np sm hp hl hG⟩
theorem xyf {X:Cx}{K:Aa}(hK:X.K=K)(hu:X.A.units+64<cLine):OpR X (compareOp .Eq) (rEqD K false):=by subst hK;exact op_eqD hu
theorem xq5 {X:Cx}{P:Ac}{w:Ah}(hP:X.prog=P)(hw:X.w=w)(hu:X.A.units+64<cLine):Yh X (addT P w):=by subst hP hw;exact xjz hu
theorem xwn {X:Cx}{P:Ac}{w:Ah}(hP:X.prog=P)(hw:X.w=w):Yh X (addI P w):=by subst hP hw;exact xjy
end L2
namespace L2
open PySem PySem.Spec PyProof.Rows
def MissR (K:Aa)(C D:Aj):Prop:=∀ {M:Model} {A:Ae} {E:Ag->Ab->Prop} {h:Heap} {g:Array GenState} {d:Drawn} {t:Nat} {os:OsState} {e:Aj} {oe:Obj} {Q:Bool->Ab->Prop},
 K.In h->h.get? e=some oe->oe.cls=.ref C->Q false ⟨h,g,d,t,os⟩->wpAny M A (excMatches (.ref e) (.ref D)) Q E ⟨h,g,d,t,os⟩
section
variable {X:Cx}{pins:List (Aj×Obj)}{σ:St}{H H':Hp}{s s':Ab}{e:Aj}
theorem land2 {E:XK}{ev:Ag}{x x1:Str}{D0 D1:Aj}{np hpos np1 hpos1:Pos}{b₀ b₁:Stmt}{suite suite1:List Stmt}{th th1:TS}{D:Ends}(I:Inv X pins σ H s)(hst:X.stack=X.env::X.outer)(hfr:X.env.frame=some X.env.locals)
  (hg:Gl X x) (hm:X.mg x=some (.ref D0)) (hdb:(x==("__debug__" : Str))=false) (hg1:Gl X x1) (hm1:X.mg x1=some (.ref D1)) (hdb1:(x1==("__debug__" : Str))=false) (hx:CXE X.prog X.w X.stack H s E ev s') (hE:∀c d H',E c d H'->∃C,c=.ref C/\((qzb X.K C D0/\th D σ H')\/(MissR X.K C D0/\qzb X.K C D1/\th1 D σ H'))) (hh:∀e,PSs (X.handling e) (b₀::suite) th) (hh1:∀e,PSs (X.handling e) (b₁::suite1) th1) :
  wpAny (model X.prog X.w) X.A (noteFrame ev X.env) (λ_ s2=>wpAny (model X.prog X.w) X.A (setFlight ev none) (λ_ s3 =>
   wpAny (model X.prog X.w) X.A (handleBy ev X.env (.ExceptHandler (some (.Name x np)) none (b₀::suite) hpos::[.ExceptHandler (some (.Name x1 np1)) none (b₁::suite1) hpos1])) (SP X pins D) X.xe s3) X.xe s2) X.xe s':=by
 obtain⟨a,C,a0,ws,dd,B,H',rfl,a9,b0,L,bb,bk,⟨w0,_⟩,a8,q⟩:=hx;have a3:=bk.toW w0;obtain⟨C1,J,bx⟩:=hE _ _ _ q;cases J;have mk:∀(F:Heap),Heap.FlyingW B X.stack a (.ref C) a0 F->s'.heap.UpToSlots F->Inv X pins σ H' { s' with heap:=F }:=λF fl up=>by
  refine I.call' (s':={ s' with heap:=F }) (ch:=[]) a9 ⟨λb o e n nb _=>?_,λb o e n U _=>?_,λb o e n _=>L.free b o e n nin,λb o e _=>?_,L.tups,L.frzs,L.tbls⟩ (bb.kept fl.1) b0 (λb z=>nomatch z)
  .obtain⟨o',J,e2⟩:=a8 b o e nb;rw[e2 n]at J;exact fl.1 b o J
  .obtain⟨sl,e2⟩:=L.slot b o e n U nin;obtain⟨_,o3,W,nf⟩:=a3.2.2.1.mem (b:=b) U;obtain⟨a7,e4⟩:=up b o3 W nf;rw[e2]at W;have e5:=ak W;exact⟨a7,by show F.get? b=_;rw[e4,<-e5]⟩
  .by_cases U:b∈frs X.stack
   .obtain⟨_,o3,W,nf⟩:=a3.2.2.1.mem (b:=b) U;obtain⟨a7,e4⟩:=up b o3 W nf;exact⟨_,e4⟩
   .obtain⟨o',J,_⟩:=a8 b o e U;exact⟨o',fl.1 b o' J⟩
 have bl:X.A.frames=some (X.env::X.outer):=by rw[<-hst];exact I.ok.frames
 have bm:Heap.FlyingW B (X.env::X.outer) a (.ref C) a0 s'.heap:=by rw[<-hst];exact a3
 refine wpAny_looks_onW bl hfr bm λh4 bs ap=>?_;refine wpAny_landsW bs λZ ab an=>?_;have I5:=mk Z (by rw[hst];exact ab) (ap.trans an);have a6:=I5.handling a;obtain⟨ob,a2,a1⟩:=ab.there;obtain⟨hp,gg,dd,tk,os⟩:=s';rcases bx with⟨a4,as⟩|⟨bd,a4,as⟩
 .refine gn (fJ (y6 (X:=X.handling a) a6 hg hm ?_ hdb)) (by intro z;cases z);refine a4 (h:=Z) I5.kIn a2 a1 ?_;refine codeAny_handlers_suite ?_;refine lands_againW ab λF a5 ad=>?_;have I6:=(mk F (by rw[hst];exact a5) ((ap.trans an).trans ad)).handling a;exact aP (hh a pins _ σ H' D I6 as) (λf s2 h2=>h2.unhandling I.ok) λ_ _ z=>z.elim
 .refine gn (fJ (y6 (X:=X.handling a) a6 hg hm ?_ hdb)) (by intro z;cases z);refine bd (h:=Z) I5.kIn a2 a1 ?_;refine gn (fJ (y6 (X:=X.handling a) a6 hg1 hm1 ?_ hdb1)) (by intro z;cases z);refine a4 (h:=Z) I5.kIn a2 a1 ?_;refine codeAny_handlers_suite ?_;refine lands_againW ab λF a5 ad=>?_;have I6:=(mk F (by rw[hst];exact a5) ((ap.trans an).trans ad)).handling a;exact aP (hh1 a pins _ σ H' D I6 as) (λf s2 h2=>h2.unhandling I.ok) λ_ _ z=>z.elim
end
def tTry2 (K:Aa)(D0 D1:Aj)(tb:(St->XK)->TS)(th th1:TS):TS:=λD σ H=>tb (λσ' c _ H'=>∃C,c=.ref C/\((qzb K C D0/\th D σ' H')\/(MissR K C D0/\qzb K C D1/\th1 D σ' H'))) D σ H
section
variable {X:Cx}{x x1:Str}{D0 D1:Aj}{np hpos np1 hpos1 pos:Pos}{b₀ b₁:Stmt}{body suite suite1:List Stmt}{tb:(St->XK)->TS}{th th1:TS}
theorem xku (hst:X.stack=X.env::X.outer)(hfr:X.env.frame=some X.env.locals)(hg:Gl X x)(hm:X.mg x=some (.ref D0))(hg1:Gl X x1)(hm1:X.mg x1=some (.ref D1))
  (hb:∀(pn:List (Aj×Obj)) (xe:Ag->Ab->Prop) (E:St->XK),j9 (X.trying pn xe) E->PassesOwn (model X.prog X.w) X.A X.env xe->PSs (X.trying pn xe) body (tb E))
  (hh:∀e,PSs (X.handling e) (b₀::suite) th) (hh1:∀e,PSs (X.handling e) (b₁::suite1) th1) (hdb1:autoParam ((x1==("__debug__" : Str))=false) aU1._auto_1) (hdb:autoParam ((x==("__debug__" : Str))=false) aU1._auto_1) :
  PS X (.Try body [.ExceptHandler (some (.Name x np)) none (b₀::suite) hpos,.ExceptHandler (some (.Name x1 np1)) none (b₁::suite1) hpos1] [] [] pos) (tTry2 X.K D0 D1 tb th th1):=by
 intro pins s σ H D I h;refine wpAny_Try_except ?_;refine aP (hb (X.pn++pins) (λe s₁=>wpAny (model X.prog X.w) X.A (noteFrame e X.env) (λ_ J=>wpAny (model X.prog X.w) X.A (setFlight e none) (λ_ F =>
   wpAny (model X.prog X.w) X.A (handleBy e X.env [.ExceptHandler (some (.Name x np)) none (b₀::suite) hpos,.ExceptHandler (some (.Name x1 np1)) none (b₁::suite1) hpos1]) (SP X pins D) X.xe F) X.xe J) X.xe s₁) _ ?_ PassesOwn.looking [] s σ H D (I.trying _) h) (λf L h1=>?_) λ_ _ z=>z
 .intro ad Z H1 L e ab W U;exact land2 (X:=X) (W.untrying I.ok) hst hfr hg hm hdb hg1 hm1 hdb1 U (λc d H' q=>q) hh hh1
 .have h2:=h1.untrying I.ok;cases f with
  |next=>exact eW h2
  |brk=>exact h2
  |cont=>exact h2
  |ret u=>exact h2
end
end L2
namespace L2
open PySem PySem.Spec PyProof.Rows
def PtV (H:Hp)(v:V)(p:Int×Int):Prop:=∃a,v=.ref a/\H a=some (.tup [.int p.1,.int p.2])
def qj1 (H:Hp)(q:Int×Int):Ag->Bool
 |.ref a=>match H a with
  |some (.tup [.int x,.int y])=>decide ((x,y)=q)
  |_=>false
 |_=>false
theorem qj2 {H:Hp}{q p:Int×Int}{a:Aj}(h:H a=some (.tup [.int p.1,.int p.2])):qj1 H q (.ref a)=decide (p=q):=by simp only[qj1,h]
theorem xkp {X:Cx}{pins:List (Aj×Obj)}{σ:St}{H:Hp}{s:Ab}{A:Ae}(I:Inv X pins σ H s)(hu:A.units<cLine){a b:Aj}{p q:Int×Int}(ha:H a=some (.tup [.int p.1,.int p.2]))(hb:H b=some (.tup [.int q.1,.int q.2])):SeqAt.EqAt A s (.ref a) (.ref b) (decide (p=q)):=by
 by_cases e:a=b
 .subst e;rw[ha]at hb;have:p=q:=by
   injection hb with hb
   injection hb with hb
   injection hb with h1 h2
   injection h2 with h2 _
   injection h1 with h1
   injection h2 with h2
   exact iB h1 h2
  rw[aM this];exact SeqAt.EqAt.same _
 .refine SeqAt.EqAt.of_refs e ?_;obtain⟨ad,r1,W,_⟩:=I.tuple (SqT.of (K:=X.K) ha);obtain⟨ab,Z,U,_⟩:=I.tuple (SqT.of (K:=X.K) hb);obtain⟨u1,u2,rfl,⟨L,rfl⟩,⟨J,rfl⟩⟩:=r1.two;obtain⟨w1,w2,rfl,⟨F,rfl⟩,⟨D,rfl⟩⟩:=Z.two;have h:=SeqAt.RcAt.tuples (A:=A) (s:=s) (e:=λj=>if j=0 then p.1==q.1 else p.2==q.2) (show s.heap.IsTuple a _ from W) (show s.heap.IsTuple b _ from U) hu λj h1 h2=>by
   have hj:j<2:=by simpa using h1
   rcases(by lia:j=0\/j=1) with z|z
   .subst z;exact gE _ _ _ _
   .subst z;exact gE _ _ _ _
  have e2:((List.range (min [Value.int p.1 L,Value.int p.2 J].toArray.size [Value.int q.1 F,Value.int q.2 D].toArray.size)).all (λj=>if j=0 then p.1==q.1 else p.2==q.2)&&[Value.int p.1 L,Value.int p.2 J].toArray.size==[Value.int q.1 F,Value.int q.2 D].toArray.size)=decide (p=q):=by rw[cx];simp[aT,Prod.ext_iff]
  rw[e2]at h;exact h
section
variable {X:Cx}{pins:List (Aj×Obj)}{σ:St}{H:Hp}{s:Ab}
theorem wxm {q:Int×Int}:∀ {vs:List V} {ps:List (Int×Int)} {us:List Ag},Paired (PtV H) vs ps->Vals vs us->us.any (qj1 H q)=decide (q∈ps)
 |_,_,_,.nil,.nil=>by simp
 |_,p::ps,_,.cons h t,.cons r rs=>by obtain⟨a,rfl,ha⟩:=h;cases r;rw[ik,wxm t rs,qj2 ha,cx];simp only[Bool.or_eq_true,dv,aC];exact⟨λz=>z.elim (λy=>.inl y.symm) .inr,λz=>z.elim (λy=>.inl y.symm) .inr⟩
theorem qzg (I:Inv X pins σ H s){A:Ae}(hu:A.units<cLine){b:Aj}{q:Int×Int}(hb:H b=some (.tup [.int q.1,.int q.2])):∀ {vs:List V} {ps:List (Int×Int)} {us:List Ag},Paired (PtV H) vs ps->Vals vs us->∀u∈us,SeqAt.EqAt A s u (.ref b) (qj1 H q u)
 |_,_,_,.nil,.nil,u,hu'=>by cases hu'
 |_,_,_,.cons h t,.cons r rs,u,hu'=>by
  obtain⟨a,rfl,ha⟩:=h;cases r;rcases aC.mp hu' with rfl|hu'
  .rw[qj2 ha];exact xkp I hu ha hb
  .exact qzg I hu hb t rs u hu'
def xyw:R2:=λx y H Q=>∃l b vs ps q,x=.ref b/\y=.ref l/\H l=some (.lst vs)/\Paired (PtV H) vs ps/\H b=some (.tup [.int q.1,.int q.2])/\Q (.bl (!decide (q∈ps))) H
theorem xqw (hu:X.A.units+64<cLine):OpR X (compareOp .NotIn) xyw:=by intro pins s σ H x y v u Q I J F h;obtain⟨l,b,vs,ps,q,rfl,rfl,W,D,Z,k⟩:=h;cases J;cases F;obtain⟨z,r,L,hz⟩:=I.list (SqL.of (K:=X.K) W);refine SeqAt.notIn_listAt (qj1 H q) L.isList (λw U=>qzg I (A:=X.A.in1) (by show X.A.units+1<cLine;lia) Z D r w (by simpa using U)) ⟨.bl _,H,I,rfl,?_⟩;rw[show z.toArray.any (qj1 H q)=z.any (qj1 H q) by simp,wxm D r];exact k
theorem wj3 {us:List V}{ps:List (Int×Int)}{ws:List Ag}{q:Int×Int}:∀ {i:Nat},Paired (PtV H) us ps->Vals us ws->(hi:i<ws.length)->qj1 H q ws[i]=decide (ps[i]?=some q):=by
 intro i D hv hi;have hl:=bC D;have ab:=hv.length;have L:us[i]?=some us[i]:=aa ⋯;have J:ps[i]?=some ps[i]:=aa ⋯;obtain⟨w,F,z⟩:=hv.get L;rw[aa hi]at F;have Z:=ak F;have U:∀ {us:List V} {ps:List (Int×Int)} {i:Nat} {u:V} {p:Int×Int},Paired (PtV H) us ps->us[i]?=some u->ps[i]?=some p->PtV H u p:=by
  intro us ps i u p h
  induction h generalizing i with
  |nil=>intro e;cases e
  |cons a t ih =>
   cases i with
   |zero=>intro x y;cases x;cases y;exact a
   |succ i=>intro x y;exact ih (i:=i) x y
 obtain⟨a,ea,W⟩:=U D L J;rw[ea]at z;cases z;rw[Z,qj2 W,J];simp
def xyy:V->List V->Hp->VK->Prop:=λx vs H Q=>∃l b us ps q j,x=.ref l/\vs=[.ref b]/\H l=some (.lst us)/\Paired (PtV H) us ps/\H b=some (.tup [.int q.1,.int q.2])/\ps[j]?=some q/\(∀i,i<j->ps[i]?≠some q)/\us.length<=1000000/\Q (.int ((j:Nat):Int)) H
theorem wu8 (hu:X.A.units+64<cLine):MtM X "list.index" xyy:=by
 intro pins s σ H x vs v us Q I W Z h;obtain⟨l,b,ys,ps,q,j,rfl,rfl,hl,D,hb,U,ab,hn,k⟩:=h;cases W;obtain⟨u,rfl,ru⟩:=Z.one;cases ru;obtain⟨z,J,n,r,a0,e⟩:=I.lstM hl;have as:=r.length;have ap:=bC D;have L:j<J.length:=by have:=(al.mp U).1;lia
 refine call_meets F.slot_list_index ⟨_,e,rfl⟩ F.entry_list_index (F.args_list_index_2 _ _) (SeqAt.list_indexAt l J.toArray n none #[] (.ref b) (qj1 H q) j (by simpa using L) ⋯ ?_ ?_) ⟨e,λy hy=>?_,?_⟩
 .have:=wj3 (H:=H) (q:=q) D r L;rw[U,aM rfl]at this;simpa using this
 .intro m hm ad;have an:m<J.length:=by simpa using hm
  have:=wj3 (H:=H) (q:=q) D r an;rw[aX (ab m ad)]at this;simpa using this
 .exact qzg I (by show X.A.units+1<cLine;lia) hb D r y (by simpa using hy)
 .exact⟨.int _,H,I.tok _,⟨_,rfl⟩,k⟩
end
end L2
namespace L2
open PySem PySem.Spec PyProof.Rows
theorem jg {X:Cx}{ss:List Stmt}:PSs X ss (λ_ _ _=>False):=λ_ _ _ _ _ _ h=>h.elim
inductive Hit (K:Aa) (C:Aj):List Aj->Bool->Prop
 |one {D:Aj} {b:Bool} (h:W.mroIn K C (.ref D)=some b):Hit K C [D] b
 |two {D1 D2:Aj} {b1 b2:Bool} (h1:W.mroIn K C (.ref D1)=some b1) (h2:W.mroIn K C (.ref D2)=some b2):Hit K C [D1,D2] (b1||b2)
inductive PHt (X:Cx):List ExceptHandler->List (List Aj×TS)->Prop
 |nil:PHt X [] []
 |one {x:Str} {D0:Aj} {np hpos:Pos} {b₀:Stmt} {suite:List Stmt} {th:TS} {hs:List ExceptHandler} {trs:List (List Aj×TS)} (hg:Gl X x) (hm:X.mg x=some (.ref D0)) (hc:ExcC X.K D0) (hh:∀e,PSs (X.handling e) (b₀::suite) th) (r:PHt X hs trs) (hdb:(x==("__debug__" : Str))=false) :
  PHt X (.ExceptHandler (some (.Name x np)) none (b₀::suite) hpos::hs) (([D0],th)::trs)
 |two {x y:Str} {D1 D2:Aj} {np np2 tp hpos:Pos} {ld:Nat} {b₀:Stmt} {suite:List Stmt} {th:TS} {hs:List ExceptHandler} {trs:List (List Aj×TS)} (hg:Gl X x) (hm:X.mg x=some (.ref D1)) (hc:ExcC X.K D1) (hg2:Gl X y) (hm2:X.mg y=some (.ref D2)) (hc2:ExcC X.K D2) (hh:∀e,PSs (X.handling e) (b₀::suite) th) (r:PHt X hs trs)
  (hdb:(x==("__debug__" : Str))=false) (hdb2:(y==("__debug__" : Str))=false) :
  PHt X (.ExceptHandler (some (.Tuple [.Name x np,.Name y np2] ld tp)) none (b₀::suite) hpos::hs) (([D1,D2],th)::trs)
section
variable {X:Cx}{pins:List (Aj×Obj)}{σ:St}{H H':Hp}{s s':Ab}{e:Aj}
end
section
variable {X:Cx}{pos:Pos}{body:List Stmt}{tb:(St->XK)->TS}{h1:ExceptHandler}{hs1:List ExceptHandler}{trs:List (List Aj×TS)}
end
end L2
namespace L2
open PySem PySem.Spec PyProof.Rows
theorem ht_gen {o:Expr}{m:Str}{apos pos:Pos}{e:Expr}{es:List Expr}{env:Env}(hb:attributeBase o m env (eval o env)=eval o env)(hf:methodCallForm ((e::es).length+0) (backTo pos (starEach (e::es) env)) (backToKw pos (keywordEach [] env))=true)(hp:methodCallPos true o env apos pos=pure pos) :
  eval (.Call (.Attribute o m apos) (e::es) [] pos) env=(do
   let ov <-eval o env
   standAt apos.atName
   let (f,first) <-holding [ov] (getMethod ov m (do return (<-importBound o env).getD true))
   callWith pos f first (backTo pos (starEach (e::es) env)) (backToKw pos (keywordEach [] env))):=by
 rw[arm_eval_Call,hb];unfold methodCall;rw[show(e::es).length+([]:List Keyword).length=(e::es).length+0 from rfl,hf,hp];rfl
section
variable {X:Cx}{C:Aj}{x m:Str}{k:Nat}{sp:Sp}{E:St->XK}{p pos apos:Pos}{e o:Expr}{es:List Expr}{ta te:TE}{t:TA}
theorem w8 {v j p'}(ha:PE X (.Constant v j p') te)(hr:PA X es t):PA X (.Constant v j p'::es) (v8 te t):=z9 ha hr rfl
theorem qb {v p'}(ha:PE X (.Name v p') te)(hr:PA X es t):PA X (.Name v p'::es) (v8 te t):=z9 ha hr rfl
theorem pa_cL {v p'}(ha:PE X (.List v p') te)(hr:PA X es t):PA X (.List v p'::es) (v8 te t):=z9 ha hr rfl
theorem wq1 {v j p'}(ha:PE X (.Tuple v j p') te)(hr:PA X es t):PA X (.Tuple v j p'::es) (v8 te t):=z9 ha hr rfl
theorem vf {a b c p'}(ha:PE X (.Call a b c p') te)(hr:PA X es t):PA X (.Call a b c p'::es) (v8 te t):=z9 ha hr rfl
theorem x8 {a b c p'}(ha:PE X (.BinOp a b c p') te)(hr:PA X es t):PA X (.BinOp a b c p'::es) (v8 te t):=z9 ha hr rfl
theorem xww {a b p'}(ha:PE X (.UnaryOp a b p') te)(hr:PA X es t):PA X (.UnaryOp a b p'::es) (v8 te t):=z9 ha hr rfl
theorem yq {a b p'}(ha:PE X (.Subscript a b p') te)(hr:PA X es t):PA X (.Subscript a b p'::es) (v8 te t):=z9 ha hr rfl
def quv:List Expr->Bool
 |[]=>true
 |.Starred _ _::_=>false
 |_::r=>quv r
theorem Jt {env:Env}:∀ {es:List Expr},quv es=true->starEach es env=es.map λe=>(false,eval e env)
 |[],_=>rfl
 |e::r,h=>by
  cases e
  case Starred=>cases h
  all_goals exact bT _ (Jt (es:=r) h)
theorem Jg {pos:Pos}:∀ {l:List (Bool×Sem Ag)},(∀q∈l,q.1=false)->(backTo pos l).all (!·.1)=true/\(backTo pos l).any (·.1)=false:=by
 intro l h;have D:∀q∈backTo pos l,q.1=false:=by intro q z;unfold backTo at z;obtain⟨F,J,rfl⟩:=aH.mp z;exact h F J
 exact⟨List.all_eq_true.mpr λq z=>by rw[D q z];rfl,List.any_eq_false.mpr λq z=>by rw[D q z];decide⟩
theorem zj (he:PE X o ta)(cl:Cls X.K C)(c:MCal X.prog X.w X.K X.mg X.base C m k sp)(hr:Room k X.A)(hx:j9 X E)(ha:PA X (e::es) t)(hn:autoParam (quv (e::es)=true) aU4._auto_1)(hl:autoParam ((e::es).length+0<30) aU1._auto_1)
  (hb:autoParam (∀z,attributeBase o m X.env z=z) aU3._auto_1) (hp:autoParam (methodCallPos true o X.env apos pos=pure pos) aU4._auto_1):PE X (.Call (.Attribute o m apos) (e::es) [] pos) (qxm C m sp E ta t):=by
 have h1:starEach (e::es) X.env=(false,eval e X.env)::starEach es X.env:=by
  cases e
  case Starred=>cases hn
  all_goals rfl
 have h2:∀q∈starEach (e::es) X.env,q.1=false:=λq hq=>by rw[Jt hn]at hq;obtain⟨z,_,rfl⟩:=aH.mp hq;rfl
 refine xwv he cl c hr hx ha h1 (Jg λq hq=>h2 q (by rw[h1];exact bu _ hq)).2 (ht_gen (hb _) ?_ hp);unfold methodCallForm;rw[(Jg (pos:=pos) h2).1];exact aM hl
theorem qt (c:Cal X.prog X.w X.K X.mg X.base x k sp)(hr:Room k X.A)(hg:Gl X x)(hx:j9 X E)(ha:PA X (e::es) t)(hn:autoParam (quv (e::es)=true) aU4._auto_1)(hdb:autoParam ((x==("__debug__" : Str))=false) aU1._auto_1):PE X (.Call (.Name x p) (e::es) [] pos) (qzw sp E t):=by
 have h1:starEach (e::es) X.env=(false,eval e X.env)::starEach es X.env:=by
  cases e
  case Starred=>cases hn
  all_goals rfl
 have h2:∀q∈starEach (e::es) X.env,q.1=false:=λq hq=>by rw[Jt hn]at hq;obtain⟨z,_,rfl⟩:=aH.mp hq;rfl
 exact zm c hr hg hx ha hdb h1 (Jg λq hq=>h2 q (by rw[h1];exact bu _ hq)).2
theorem wCA (c:Cal X.prog X.w X.K X.mg X.base x k sp)(ha:PA X (e::es) t)(hr:Room k X.A:=by exact Room.mono (by assumption) ⋯)(hg:autoParam (Gl X x) aU4._auto_1)(hx:j9 X E:=by exact qu)(hn:autoParam (quv (e::es)=true) aU4._auto_1)(hdb:autoParam ((x==("__debug__" : Str))=false) aU1._auto_1):PE X (.Call (.Name x p) (e::es) [] pos) (qzw sp E t):=qt c hr hg hx ha hn hdb
end
end L2
namespace My
open PySem L2
def top (i:Nat):Stmt:=PySem.Challenge.pw_crookroad_k14_counts_out_of_range.main.body.getD i (.Pass ⟨0,0,0,0⟩)
abbrev zaw:Stmt:=top 9
theorem _root_.aU8 (h:True:=by decide +kernel):True:=h
theorem scA{N P:List Str}{c:Scope}(a:autoParam (c.kind=.function) aU4._auto_1)(b:autoParam (c.isCoroutine=false) aU4._auto_1)(d:autoParam (c.isGenerator=false) aU4._auto_1)(e:autoParam (N.Nodup) aU8._auto_1)(f:autoParam (N.take P.length=P) aU4._auto_1)(g:autoParam (∀x∈P,c.names.lookup x=some .local\/c.names.lookup x=some .cell) aU8._auto_1)(h:autoParam (∀y∈c.names,y.2≠.free) aU8._auto_1):FnScope N P c:=⟨a,b,d,e,f,g,h⟩
theorem qw3:FnScope ["number","fewest","most"] ["number","fewest","most"] (ww zaw):=scA
theorem qw1:Yd "check_count" zaw ["number","fewest","most"] []:=λ_ _ _ _ _ _ _ u h=>match u,h with|[_,_,_],_=>exI rfl rfl
theorem qw2:Yd "check_count" zaw ["number","fewest","most"] [.none]:=λ_ _ _ _ _ _ _ us hl=>by
 have h2:us.length=2:=by simpa using hl
 match us,h2 with
 |[_,_],_=>exact exI rfl rfl
abbrev zbu:Stmt:=top 14
theorem wvm:FnScope ["road","stretch","lesser","greater"] ["road","stretch"] (ww zbu):=scA
theorem wvr:xj "covered" zbu ["road","stretch"]:=λ_ _ _ _ _ _ _ h=>bA2 h λ_ _=>rfl
abbrev zbv:Stmt:=top 15
theorem qj5:FnScope ["road"] ["road"] (ww zbv):=scA
theorem qjs:xj "covers_of" zbv ["road"]:=λ_ _ _ _ _ _ _ h=>bA1 h λ_=>rfl
abbrev zbw:Stmt:=top 16
theorem Zm:FnScope ["width"] ["width"] (ww zbw):=scA
theorem Zh:xj "ways_of_no_step" zbw ["width"]:=λ_ _ _ _ _ _ _ h=>bA1 h λ_=>rfl
abbrev zbx:Stmt:=top 17
theorem Ju:FnScope ["covers","table"] ["covers","table"] (ww zbx):=scA
theorem qqj:xj "one_step_more" zbx ["covers","table"]:=λ_ _ _ _ _ _ _ h=>bA2 h λ_ _=>rfl
abbrev zby:Stmt:=top 18
theorem qz9:FnScope ["road","many","covers","tables"] ["road","many"] (ww zby):=scA
theorem qvf:xj "ways_up_to" zby ["road","many"]:=λ_ _ _ _ _ _ _ h=>bA2 h λ_ _=>rfl
abbrev zax:Stmt:=top 19
theorem wjn:FnScope ["road","many"] ["road","many"] (ww zax):=scA
theorem qjm:xj "ways" zax ["road","many"]:=λ_ _ _ _ _ _ _ h=>bA2 h λ_ _=>rfl
abbrev zbz:Stmt:=top 20
theorem qjq:FnScope ["first","covers","tables","many","begun","left"] ["first","covers","tables"] (ww zbz):=scA
theorem qj7:xj "rows_from" zbz ["first","covers","tables"]:=λ_ _ _ _ _ _ _ h=>bA3 h λ_ _ _=>rfl
abbrev zay:Stmt:=top 21
theorem wk6:FnScope ["road","many","tables","covers","closed","first"] ["road","many"] (ww zay):=scA
theorem qys:xj "rows" zay ["road","many"]:=λ_ _ _ _ _ _ _ h=>bA2 h λ_ _=>rfl
abbrev zb0:Stmt:=top 23
theorem qq4:FnScope ["bottom"] ["bottom"] (ww zb0):=scA
theorem qqt:xj "check_bottom" zb0 ["bottom"]:=λ_ _ _ _ _ _ _ h=>bA1 h λ_=>rfl
abbrev zb1:Stmt:=top 24
theorem Yv:FnScope ["one","other"] ["one","other"] (ww zb1):=scA
theorem Yk:xj "common_divisor" zb1 ["one","other"]:=λ_ _ _ _ _ _ _ h=>bA2 h λ_ _=>rfl
abbrev zb2:Stmt:=top 25
theorem wys:FnScope ["top","bottom","divisor"] ["top","bottom"] (ww zb2):=scA
theorem wuv:xj "lowest" zb2 ["top","bottom"]:=λ_ _ _ _ _ _ _ h=>bA2 h λ_ _=>rfl
abbrev zaz:Stmt:=top 26
theorem wzq:FnScope ["points","point","greatest","scale"] ["points"] (ww zaz):=scA
theorem wvp:xj "ordered" zaz ["points"]:=λ_ _ _ _ _ _ _ h=>bA1 h λ_=>rfl
abbrev zb3:Stmt:=top 29
theorem wx5:FnScope ["heights","width"] ["heights"] (ww zb3):=scA
theorem wv7:xj "is_line" zb3 ["heights"]:=λ_ _ _ _ _ _ _ h=>bA1 h λ_=>rfl
abbrev zb4:Stmt:=y7 (top 30) 0
theorem Jd:FnScope ["self","heights"] ["self","heights"] (ww zb4):=scA
theorem Jk:jh "__init__" "Road.__init__" zb4 ["self","heights"]:=λ_ _ _ _ _ _ _ h=>bA2 h λ_ _=>rfl
abbrev zb5:Stmt:=y7 (top 30) 1
theorem qvj:FnScope ["self"] ["self"] (ww zb5):=scA
theorem qvr:jh "width" "Road.width" zb5 ["self"]:=λ_ _ _ _ _ _ _ h=>bA1 h λ_=>rfl
abbrev zb6:Stmt:=y7 (top 30) 2
theorem qq8:FnScope ["self"] ["self"] (ww zb6):=scA
theorem qq7:jh "corners" "Road.corners" zb6 ["self"]:=λ_ _ _ _ _ _ _ h=>bA1 h λ_=>rfl
abbrev zb7:Stmt:=y7 (top 30) 3
theorem quk:FnScope ["self","stretch"] ["self","stretch"] (ww zb7):=scA
theorem qyv:jh "ends" "Road.ends" zb7 ["self","stretch"]:=λ_ _ _ _ _ _ _ h=>bA2 h λ_ _=>rfl
abbrev zb8:Stmt:=y7 (top 30) 4
theorem qz1:FnScope ["self","stretch","left","right"] ["self","stretch"] (ww zb8):=scA
theorem qvb:jh "slope" "Road.slope" zb8 ["self","stretch"]:=λ_ _ _ _ _ _ _ h=>bA2 h λ_ _=>rfl
abbrev zb9:Stmt:=y7 (top 30) 5
theorem qvp:FnScope ["self","stretch","left","right"] ["self","stretch"] (ww zb9):=scA
theorem qzs:jh "reach" "Road.reach" zb9 ["self","stretch"]:=λ_ _ _ _ _ _ _ h=>bA2 h λ_ _=>rfl
abbrev zca:Stmt:=y7 (top 30) 6
theorem qq1:FnScope ["self","point","top","bottom"] ["self","point"] (ww zca):=scA
theorem qq9:jh "on_road" "Road.on_road" zca ["self","point"]:=λ_ _ _ _ _ _ _ h=>bA2 h λ_ _=>rfl
abbrev zcb:Stmt:=y7 (top 30) 7
theorem wzp:FnScope ["self","point","top","bottom","stretch","left","right","beyond"] ["self","point"] (ww zcb):=scA
theorem wzz:jh "at" "Road.at" zcb ["self","point"]:=λ_ _ _ _ _ _ _ h=>bA2 h λ_ _=>rfl
abbrev zcc:Stmt:=top 35
theorem wu4:FnScope ["road","point","many","here","points"] ["road","point","many"] (ww zcc):=scA
theorem wym:xj "walked" zcc ["road","point","many"]:=λ_ _ _ _ _ _ _ h=>bA3 h λ_ _ _=>rfl
abbrev zcd:Stmt:=top 36
theorem xvf:FnScope ["road","start","places","here"] ["road","start"] (ww zcd):=scA
theorem xvr:xj "trace" zcd ["road","start"]:=λ_ _ _ _ _ _ _ h=>bA2 h λ_ _=>rfl
abbrev zce:Stmt:=top 37
theorem xv0:FnScope ["points","turn","many"] ["points","turn","many"] (ww zce):=scA
theorem xj4:xj "spot" zce ["points","turn","many"]:=λ_ _ _ _ _ _ _ h=>bA3 h λ_ _ _=>rfl
abbrev zcf:Stmt:=top 38
theorem zf5:FnScope ["road","point","many","here","points","turn"] ["road","point","many"] (ww zcf):=scA
theorem zf6:xj "far" zcf ["road","point","many"]:=λ_ _ _ _ _ _ _ h=>bA3 h λ_ _ _=>rfl
abbrev zcg:Stmt:=top 39
theorem wy1:FnScope ["place","turn","size","many","times"] ["place","turn","size","many"] (ww zcg):=scA
theorem xq0:xj "led_to" zcg ["place","turn","size","many"]:=λ_ _ _ _ _ _ _ h=>bA4 h λ_ _ _ _=>rfl
abbrev za0:Stmt:=top 40
theorem qkr:FnScope ["road","point","many","other","here","sought","points","turn"] ["road","point","many","other"] (ww za0):=scA
theorem qqk:xj "stands" za0 ["road","point","many","other"]:=λ_ _ _ _ _ _ _ h=>bA4 h λ_ _ _ _=>rfl
abbrev zch:Stmt:=top 41
theorem xxt:FnScope ["road","point","points","turn"] ["road","point"] (ww zch):=scA
theorem xwz:xj "least" zch ["road","point"]:=λ_ _ _ _ _ _ _ h=>bA2 h λ_ _=>rfl
abbrev zci:Stmt:=top 43
theorem qvy:FnScope ["road","row","steep","height","stretch","slope","left"] ["road","row"] (ww zci):=scA
theorem qz2:xj "line_along" zci ["road","row"]:=λ_ _ _ _ _ _ _ h=>bA2 h λ_ _=>rfl
abbrev zcj:Stmt:=top 44
theorem qx8:FnScope ["road","row","steep","height"] ["road","row"] (ww zcj):=scA
theorem qxt:xj "fixed_point" zcj ["road","row"]:=λ_ _ _ _ _ _ _ h=>bA2 h λ_ _=>rfl
abbrev zck:Stmt:=top 45
theorem qq3:FnScope ["road","many","corners"] ["road","many"] (ww zck):=scA
theorem qq6:xj "corners_back" zck ["road","many"]:=λ_ _ _ _ _ _ _ h=>bA2 h λ_ _=>rfl
abbrev zcl:Stmt:=top 46
theorem wv3:FnScope ["point","stretches","top","bottom"] ["point","stretches"] (ww zcl):=scA
theorem wzy:xj "lies_in" zcl ["point","stretches"]:=λ_ _ _ _ _ _ _ h=>bA2 h λ_ _=>rfl
abbrev za1:Stmt:=top 47
theorem wkf:FnScope ["road","many","closed","fixed","wholes","single","points"] ["road","many"] (ww za1):=scA
theorem qjg:xj "back" za1 ["road","many"]:=λ_ _ _ _ _ _ _ h=>bA2 h λ_ _=>rfl
abbrev za2:Stmt:=top 48
theorem Zk:FnScope ["road","length","points","wholes","thirds"] ["road","length"] (ww za2):=scA
theorem uz:xj "candidates" za2 ["road","length"]:=λ_ _ _ _ _ _ _ h=>bA2 h λ_ _=>rfl
abbrev za3:Stmt:=top 49
theorem qxw:FnScope ["road","most"] ["road","most"] (ww za3):=scA
theorem Zn:xj "lengths" za3 ["road","most"]:=λ_ _ _ _ _ _ _ h=>bA2 h λ_ _=>rfl
abbrev za4:Stmt:=top 50
theorem wkb:FnScope ["road","length","found"] ["road","length"] (ww za4):=scA
theorem qj0:xj "ring" za4 ["road","length"]:=λ_ _ _ _ _ _ _ h=>bA2 h λ_ _=>rfl
abbrev zcm:Stmt:=top 54
theorem wv4:FnScope ["left","right","part","many","top"] ["left","right","part","many"] (ww zcm):=scA
theorem wzr:xj "between" zcm ["left","right","part","many"]:=λ_ _ _ _ _ _ _ h=>bA4 h λ_ _ _ _=>rfl
abbrev zcn:Stmt:=top 55
theorem xqp:FnScope ["left","right","start","low","end","high","many","step","put"] ["left","right"] (ww zcn):=scA
theorem xqj:xj "parted" zcn ["left","right"]:=λ_ _ _ _ _ _ _ h=>bA2 h λ_ _=>rfl
abbrev zco:Stmt:=top 56
theorem Q2:FnScope ["line","put","left","right"] ["line"] (ww zco):=scA
theorem Q1:xj "with_whole_heights" zco ["line"]:=λ_ _ _ _ _ _ _ h=>bA1 h λ_=>rfl
abbrev za5:Stmt:=top 57
theorem wj2:FnScope ["road","many","heights","line","taken"] ["road","many"] (ww za5):=scA
theorem qyt:xj "laid" za5 ["road","many"]:=λ_ _ _ _ _ _ _ h=>bA2 h λ_ _=>rfl
abbrev zcp:Stmt:=top 58
theorem zf7:FnScope ["left","right"] ["left","right"] (ww zcp):=scA
theorem zf8:xj "way" zcp ["left","right"]:=λ_ _ _ _ _ _ _ h=>bA2 h λ_ _=>rfl
abbrev za6:Stmt:=top 59
theorem wjy:FnScope ["road","many","line","turns"] ["road","many"] (ww za6):=scA
theorem qyq:xj "laps" za6 ["road","many"]:=λ_ _ _ _ _ _ _ h=>bA2 h λ_ _=>rfl
abbrev zcq:Stmt:=top 62
theorem wwd:FnScope ["number","halved","odd"] ["number"] (ww zcq):=scA
theorem wwn:xj "halvings" zcq ["number"]:=λ_ _ _ _ _ _ _ h=>bA1 h λ_=>rfl
abbrev zcr:Stmt:=top 63
theorem xj9:FnScope ["number","odd","halved"] ["number"] (ww zcr):=scA
theorem xyh:xj "rank" zcr ["number"]:=λ_ _ _ _ _ _ _ h=>bA1 h λ_=>rfl
abbrev zcs:Stmt:=top 64
theorem xxx:FnScope ["one","other"] ["one","other"] (ww zcs):=scA
theorem xwy:xj "ahead" zcs ["one","other"]:=λ_ _ _ _ _ _ _ h=>bA2 h λ_ _=>rfl
abbrev zct:Stmt:=top 65
theorem qj9:FnScope ["number","most"] ["number","most"] (ww zct):=scA
theorem quz:xj "following" zct ["number","most"]:=λ_ _ _ _ _ _ _ h=>bA2 h λ_ _=>rfl
abbrev za7:Stmt:=top 69
theorem wxj:FnScope ["road","many","heights"] ["road","many"] (ww za7):=scA
theorem qwc:xj "finer" za7 ["road","many"]:=λ_ _ _ _ _ _ _ h=>bA2 h λ_ _=>rfl
abbrev zcu:Stmt:=top 70
theorem wvq:FnScope ["road","width"] ["road"] (ww zcu):=scA
theorem wvw:xj "doubled" zcu ["road"]:=λ_ _ _ _ _ _ _ h=>bA1 h λ_=>rfl
abbrev zcv:Stmt:=top 71
theorem wx0:FnScope ["number","half","upper","lower"] ["number"] (ww zcv):=scA
theorem ww7:xj "odd_road" zcv ["number"]:=λ_ _ _ _ _ _ _ h=>bA1 h λ_=>rfl
abbrev zcw:Stmt:=top 72
theorem wxc:FnScope ["number","odd","halved","road"] ["number"] (ww zcw):=scA
theorem wwv:xj "road_for" zcw ["number"]:=λ_ _ _ _ _ _ _ h=>bA1 h λ_=>rfl
abbrev zcx:Stmt:=top 74
theorem quw:FnScope ["_law_script","_law_at"] ["_law_script","_law_at"] (ww zcx):=scA
theorem qy5:xj "_law_cell" zcx ["_law_script","_law_at"]:=λ_ _ _ _ _ _ _ h=>bA2 h λ_ _=>rfl
abbrev zcy:Stmt:=top 75
theorem qyj:FnScope ["_law_script","_law_at","_law_turn","_law_many","_law_cell_here","_law_left","_law_k","_law_low","_law_one","_law_two"] ["_law_script","_law_at","_law_turn","_law_many"] (ww zcy):=scA
theorem qjj:xj "_law_pick" zcy ["_law_script","_law_at","_law_turn","_law_many"]:=λ_ _ _ _ _ _ _ h=>bA4 h λ_ _ _ _=>rfl
abbrev zcz:Stmt:=top 76
theorem qz6:FnScope ["_law_script","_law_at","_law_wide","_law_row","_law_k"] ["_law_script","_law_at","_law_wide"] (ww zcz):=scA
theorem qvz:xj "_law_climb" zcz ["_law_script","_law_at","_law_wide"]:=λ_ _ _ _ _ _ _ h=>bA3 h λ_ _ _=>rfl
abbrev zc0:Stmt:=top 77
theorem qq5:FnScope ["_law_script","_law_at","_law_most","_law_wide","_law_kind"] ["_law_script","_law_at","_law_most"] (ww zc0):=scA
theorem qqr:xj "_law_heights" zc0 ["_law_script","_law_at","_law_most"]:=λ_ _ _ _ _ _ _ h=>bA3 h λ_ _ _=>rfl
abbrev zc1:Stmt:=top 78
theorem qjw:FnScope ["_law_script","_law_at","_law_wide","_law_most","_law_bottom","_law_top","_law_by"] ["_law_script","_law_at","_law_wide","_law_most"] (ww zc1):=scA
theorem qy4:xj "_law_spot" zc1 ["_law_script","_law_at","_law_wide","_law_most"]:=λ_ _ _ _ _ _ _ h=>bA4 h λ_ _ _ _=>rfl
abbrev zc2:Stmt:=top 79
theorem qvg:FnScope ["_law_road","_law_point","_law_door","_law_many"] ["_law_road","_law_point","_law_door","_law_many"] (ww zc2):=scA
theorem qz0:xj "_law_first" zc2 ["_law_road","_law_point","_law_door","_law_many"]:=λ_ _ _ _ _ _ _ h=>bA4 h λ_ _ _ _=>rfl
abbrev zc3:Stmt:=top 80
theorem qwt:FnScope ["_law_door","_law_many"] ["_law_door","_law_many"] (ww zc3):=scA
theorem qxj:xj "_law_second" zc3 ["_law_door","_law_many"]:=λ_ _ _ _ _ _ _ h=>bA2 h λ_ _=>rfl
abbrev zc4:Stmt:=top 81
theorem qjc:FnScope ["_law_road","_law_point","_law_door","_law_many","_law_told_here"] ["_law_road","_law_point","_law_door","_law_many"] (ww zc4):=scA
theorem qk8:xj "_law_told" zc4 ["_law_road","_law_point","_law_door","_law_many"]:=λ_ _ _ _ _ _ _ h=>bA4 h λ_ _ _ _=>rfl
abbrev za8:Stmt:=top 82
theorem zf9:FnScope ["_law_script","_law_least_ones","_law_most_ones","_law_road","_law_point","_law_calm","_law_door","_law_low","_law_high"] ["_law_script"] (ww za8):=scA
local macro_rules | `(tactic| walk_at "sq")=>`(tactic| first | assumption | exact SqT.new | exact SqL.new | ((with_reducible refine Same.sqt (Same.upd (by assumption)) ?_);walk_at "sq") | ((with_reducible refine Same.sql (Same.upd (by assumption)) ?_);walk_at "sq"))
local macro_rules | `(tactic| walk_at "at")=>`(tactic| first | rfl | exact Yt (by lia) (by lia))
local macro_rules | `(tactic| walk_at "mul")=>`(tactic| first | assumption | exact IntMulOk.of_left (intBits_le_64 (by lia) (by lia)) | exact IntMulOk.of_right (intBits_le_64 (by lia) (by lia)) | exact Sm.ok (by assumption) (by assumption) (by lia))
local macro_rules | `(tactic| walk_at "pos")=>`(tactic| first | lia | decide +kernel)
local macro_rules | `(tactic| walk_at "div")=>`(tactic| exact⟨by first | lia | decide +kernel,by unfold Sm;decide +kernel⟩)
local macro_rules | `(tactic| walk_at "loc")=>`(tactic| first | exact Or.inl rfl | exact Or.inr rfl)
local macro_rules | `(tactic| walk_at "cap")=>`(tactic| repeat (first | exact trivial | refine⟨rfl,?_⟩))
local macro_rules | `(tactic| walk_at "has")=>`(tactic| repeat (first | exact trivial | (refine⟨λz=>?_,(by lia),?_⟩;(first | exact⟨_,rfl⟩ | cases z))))
local macro_rules | `(tactic| walk_at "cix")=>`(tactic| repeat (first | exact trivial | refine⟨⟨_,_,rfl,rfl,rfl,rfl⟩,?_⟩))
local macro_rules | `(tactic| walk_at "hasK")=>`(tactic| repeat (first | exact trivial | (refine⟨λz=>?_,λz=>?_,?_⟩;(first | exact⟨_,rfl⟩ | cases z);(first | rfl | cases z))))
structure Txt (K:Aa)(mg:Str->Option Ag)(qg:Aj)(qv:Aj)(qf:Aj)(qw:Aj)(qd:Aj)(qm:Aj)(qc:Aj)(qx:Aj):Prop where
 len_:mg "len" = none
 abs_:mg "abs" = none
 range_:mg "range" = none
 isinstance_:mg "isinstance" = none
 int_:mg "int" = none
 bool_:mg "bool" = none
 list_:mg "list" = none
 tuple_:mg "tuple" = none
 min_:mg "min" = none
 max_:mg "max" = none
 all_:mg "all" = none
 any_:mg "any" = none
 sum_:mg "sum" = none
 sorted_:mg "sorted" = none
 zip_:mg "zip" = none
 enumerate_:mg "enumerate" = none
 reversed_:mg "reversed" = none
 zfr:mg "BadLine" = some (.ref qg)
 zav:ExcC K qg
 zga:mg "BadBottom" = some (.ref qv)
 za9:ExcC K qv
 zgb:mg "OffRoad" = some (.ref qf)
 zba:ExcC K qf
 zc6:mg "BadCount" = some (.ref qw)
 zaj:ExcC K qw
 zc7:mg "TooLong" = some (.ref qd)
 zan:ExcC K qd
 zgc:mg "BadRow" = some (.ref qm)
 zbb:ExcC K qm
 zgd:mg "RoadError" = some (.ref qc)
 zc5:ExcC K qc
 cl:Cls K qx
 na:NoAttr K qx "heights"
 zag:∃t,mg "WIDEST" = some (.int 24 t)
 zge:mg "Road" = some (.ref qx)
 zao:∃t,mg "LONGEST_TRACE" = some (.int 1000 t)
 zac:∃t,mg "LONGEST_ROW" = some (.int 12 t)
 zap:∃t,mg "MOST_WAYS" = some (.int 1000 t)
 zaq:∃t,mg "MOST_WALKED" = some (.int 1000 t)
 zah:∃t,mg "MOST_STEPS" = some (.int 60 t)
 zar:∃t,mg "GREATEST_ODD" = some (.int 25 t)
 zas:∃t,mg "GREATEST_BUILT" = some (.int 12 t)
 zae:∃t,mg "FARTHEST" = some (.int 1000000000000000000000000000000000000000000000000000000000000 t)
 zai:∃t,mg "MOST_TAKEN" = some (.int 12 t)
 zat:∃t,mg "MOST_CORNERS" = some (.int 1000 t)
 zau:∃t,mg "MOST_TOLD" = some (.int 200 t)
abbrev FK(P:Ac)(w:Ah)(K:Aa)(mg:Str->Option Ag)(base:Heap):=FnOk P w K mg base (CXE P w)
section
variable {P:Ac}{w:Ah}{K:Aa}{mg:Str->Option Ag}{base:Heap}{qg:Aj}{qv:Aj}{qf:Aj}{qw:Aj}{qd:Aj}{qm:Aj}{qc:Aj}{qx:Aj}
variable {f:Aj}{fd:Ad}(T:Txt K mg qg qv qf qw qd qm qc qx)
def qwk (C:Aj):Sp:=λvs H Q E=>∃b:Int,vs=[.int b]/\(1<=b->Q .non H)/\(b<1->E (.ref C) none H)
include T in
theorem xz0 (F:Fun K "check_bottom" "check_bottom" zb0 f fd):FK P w K mg base 1 f fd ["bottom"] (qwk qv):=by
 have D:=qq4;refine F.okX D (λvs H Q E h=>by obtain⟨_,rfl,_⟩:=h;rfl) λ_ _ _ _ H vs Q E J h=>?_;obtain⟨b,rfl,h1,h2⟩:=h;refine⟨_,(qp (xn (wu Wp (pv 0) qy (wg _)) (qp (v9 rfl T.za9 vw rfl T.zga (w8 vg qk))) xw)),?_⟩;refine exI rfl (wc rfl rfl (exI rfl ?_));refine jq (λz=>?_) (λz=>?_)
 .exact⟨⋯,h2 z⟩
 .exact h1 ⋯
include T in
theorem xjx (F:Fun K "_law_cell" "_law_cell" zcx f fd):FK P w K mg base 1 f fd ["_law_script","_law_at"] (qjk K):=by
 have U:=quw;refine F.okX U (λvs H Q E h=>by obtain⟨_,_,_,rfl,_⟩:=h;rfl) λ_ _ _ _ H vs Q E Z h=>?_;obtain⟨a,ns,i,rfl,J,W,k⟩:=h;have D:(ns.map V.int).length=ns.length:=af _;refine⟨_,(qj (xn (wu Wp (pv 1) (xv xg rfl T.len_ bB (qb (pv 0) qk)) (wg _)) (qp (wn (xh zw (pv 0) (pv 1) (λ_ _=>rfl)))) xw)
   (qj (xn (wu zg (xv xg rfl T.len_ bB (qb (pv 0) qk)) qy (wg _)) (qp (wn (wx xu (wx xy qy (pv 1)) qy))) xw)
   (qp (wn (wx xu (xh zw (pv 0) (wx v3 (pv 1) (xv xg rfl T.len_ bB (qb (pv 0) qk))) (λ_ _=>rfl)) (wx xy qy (pv 1))))))),?_⟩
 refine exI rfl (exI rfl ⟨_,_,rfl,.inl J,wc rfl rfl (exI rfl ?_)⟩);refine jq (λz=>?_) (λz=>?_)
 .rw[D]at z;refine exI rfl (exI rfl (exX rfl rfl J (Yt W z) ?_));exact k _ (by rw[wwb,aw z])
 .rw[D]at z;refine exI rfl ⟨_,_,rfl,.inl J,rfl,_,rfl,?_⟩;rw[D];refine jx (λL=>?_) (λL=>?_)
  .refine exI rfl (wc rfl rfl ⟨(by walk_at "mul"),wc rfl rfl ?_⟩);exact k _ (by rw[wwb,ao z,aw L])
  .refine exI rfl (exI rfl (exI rfl ⟨_,_,rfl,.inl J,wc rfl rfl ⟨(by rw[D];lia),?_⟩⟩));rw[D];refine exX rfl rfl J (Yt (bV _ L) (bL _ ⋯)) (exI rfl (wc rfl rfl ⟨(by walk_at "mul"),wc rfl rfl ?_⟩));exact k _ (by rw[wwb,ao z,ao L])
include T in
theorem xkn (F:Fun K "_law_pick" "_law_pick" zcy f fd)(zc8:Cal P w K mg base "_law_cell" 1 (qjk K)):FK P w K mg base 2 f fd ["_law_script","_law_at","_law_turn","_law_many"] (Z6 K):=by
 have W:=qyj;refine F.okX W (λvs H Q E h=>by obtain⟨_,_,_,_,_,rfl,_⟩:=h;rfl) λ_ _ _ _ H vs Q E hr h=>?_;obtain⟨a,ns,i,t,m,rfl,hS,h0,t0,t1,Z,k⟩:=h;refine⟨_,(qj (wp (i:=4) (wCA zc8 (qb (pv 0) (qb (pv 1) qk))))
   (qj (xn (wu wj8 (xv Yb rfl T.abs_ Y3 (qb (pv 4) qk)) (wx qyz qy qy) (wg _)) (qj (wp (i:=5) (xv Yb rfl T.abs_ Y3 (qb (pv 4) qk)))
   (qj (Qj bp rfl (zq rfl T.range_ (qb (pv 2) qk)) (wm (i:=6)) (qp (wp (i:=5) (wx j7 (pv 5) qy))))
   (qj (xn (wu Wp (pv 4) qy (wg _)) (qp (wp (i:=5) (wx v3 (pv 5) qy))) xw)
   (qp (wn (wx v3 (pv 5) (pv 3))))))) xw)
   (qj (wp (i:=7) (wx v3 (pv 4) qy))
   (qj (wp (i:=8) (wx v3 (wx xu (wx xu (wx xy (pv 7) qy) (wx xy (pv 2) qy)) qy) qy))
   (qj (wp (i:=9) (wx v3 (wx xu (wx xu (wx xy (pv 8) (pv 8)) (wx xy (pv 7) qy)) (wx xy (pv 2) qy)) qy))
   (qp (wn (wx v3 (wx v3 (wx xu (wx xu (wx xy (pv 9) (pv 9)) (wx xy (pv 8) qy)) (wx xy (pv 2) qy)) qy) (pv 3))))))))),?_⟩
 refine exI rfl (exI rfl ?_);refine⟨a,ns,i,rfl,hS,h0,λc hc=>?_⟩;have U:∀v,v=wxp c t%m->Q (.int v) H:=λv hv=>by
  refine k v (by rw[hv,quh,hc]) ?_ ?_
  .rw[hv];exact bV _ ⋯
  .rw[hv];exact bL _ Z
 refine exI rfl (exI rfl (wc rfl rfl ⟨⟨⋯,⋯,⋯⟩,wc rfl rfl (exI rfl ?_)⟩));refine jq (λL=>?_) (λL=>?_)
 .have D:10 ^ 18<=Q9 c:=L;refine exI rfl (exI rfl ?_);refine exI rfl ⟨t,rfl,⋯,⋯,u8 (λj σ H1=>H1=H/\∃z,σ=[some (.ref a),some (.int i),some (.int t),some (.int m),some (.int c),some (.int (divs (Q9 c) j)),z,none,none,none]) ⟨rfl,_,rfl⟩ ?_ ?_⟩
  .rintro j σ H1 hj ⟨rfl,z,rfl⟩;exact exI rfl (wc rfl rfl ⟨(by walk_at "div"),rfl,_,rfl⟩)
  .rintro σ H1 ⟨rfl,z,rfl⟩;refine exI rfl (wc rfl rfl (exI rfl ?_));refine jq (λJ=>?_) (λJ=>?_)
   .refine exI rfl (wc rfl rfl ⟨(by walk_at "pos"),exI rfl (exI rfl (wc rfl rfl ⟨(by walk_at "pos"),?_⟩))⟩);exact U _ (by rw[xxh D J])
   .refine exI rfl (exI rfl (wc rfl rfl ⟨(by walk_at "pos"),?_⟩));exact U _ (by rw[xqn D J])
 .have D:¬ 10 ^ 18<=Q9 c:=L;have l0:=bV c (show(1000003:Int)≠0 by decide);have l1:=bL c (show(0:Int)<1000003 by decide);refine exI rfl (wc rfl rfl ⟨(by walk_at "pos"),exI rfl (wc rfl rfl ⟨(by walk_at "mul"),exI rfl (wc rfl rfl ⟨(by walk_at "mul"),wc rfl rfl (wc rfl rfl (wc rfl rfl ⟨(by walk_at "pos"),?_⟩))⟩)⟩)⟩);have o0:0<=qk5 c t:=bV _ ⋯;have o1:qk5 c t<999983:=bL _ ⋯;refine⟨V.int (qk5 c t),rfl,V.int (qk5 c t),rfl,wc rfl rfl ⟨(by walk_at "mul"),exI rfl (wc rfl rfl ⟨(by walk_at "mul"),wc rfl rfl (exI rfl (wc rfl rfl ⟨(by walk_at "mul"),wc rfl rfl (wc rfl rfl ⟨(by walk_at "pos"),?_⟩)⟩))⟩)⟩⟩;have w0:0<=wqn c t:=bV _ ⋯;have w1:wqn c t<1000033:=bL _ ⋯;refine⟨V.int (wqn c t),rfl,V.int (wqn c t),rfl,wc rfl rfl ⟨(by walk_at "mul"),V.int (qk5 c t),rfl,wc rfl rfl ⟨(by walk_at "mul"),wc rfl rfl (exI rfl (wc rfl rfl ⟨(by walk_at "mul"),wc rfl rfl (wc rfl rfl ⟨(by walk_at "pos"),exI rfl (wc rfl rfl ⟨(by walk_at "pos"),?_⟩)⟩)⟩))⟩⟩⟩;exact U _ (by rw[xw6 D])
def Within (n f:Int)(m:Option Int):Prop:=f<=n/\∀b,m=some b->n<=b
def zd (C:Aj):Sp:=λvs H Q E=>∃(n f:Int) (m:V) (o:Option Int),vs=[.int n,.int f,m]/\(m=.non/\o=none\/∃b,m=.int b/\o=some b)/\(Within n f o->Q .non H)/\(¬ Within n f o->E (.ref C) none H)
include T in
theorem xwg (F:FunD K "check_count" zaw f fd):FK P w K mg base 1 f fd ["number","fewest","most"] (zd qw):=by
 have D:=qw3;refine F.okX D (λvs H Q E h=>by obtain⟨_,_,_,_,rfl,_⟩:=h;rfl) λ_ _ _ _ H vs Q E W h=>?_;obtain⟨n,Z,m,o,rfl,U,k,x⟩:=h;refine⟨_,(qp (xn (PW.pt (wwg (wu Wp (pv 0) (pv 1) (wg _)) (qxu (PW.pt (xw8 (wu wjf (pv 2) Jz (wg _)) (wjq (wu yr (pv 0) (pv 2) (wg _)))))))) (qp (v9 rfl T.zaj vw rfl T.zc6 (w8 vg qk))) xw)),?_⟩;refine exI rfl (exI rfl (wc rfl rfl (exI rfl ?_)));refine jq (λL=>?_) (λL=>?_)
 .refine Q6 ?_;exact⟨sz1,x (λz=>by have:=z.1;lia)⟩
 .rcases U with⟨rfl,rfl⟩|⟨b,rfl,rfl⟩
  .refine exI rfl ⟨rfl,_,rfl,?_⟩;refine Y8 ?_;exact k ⟨⋯,λb e=>nomatch e⟩
  .refine exI rfl ⟨rfl,_,rfl,?_⟩;refine Q6 ?_;refine exI rfl (exI rfl (wc rfl rfl (exI rfl ?_)));refine jq (λJ=>?_) (λJ=>?_)
   .exact⟨sz1,x (λz=>by have:=z.2 b rfl;lia)⟩
   .exact k ⟨⋯,λb' e=>by cases e;lia⟩
def wb (ns:List Int):Prop:=2<=ns.length/\ns.length<=25/\∀h∈ns,0<=h/\h<=(ns.length:Int)-1
def qxp (K:Aa):Sp:=λvs H Q _=>∃(p:Aj) (ns:List Int),vs=[.ref p]/\SqL K H p (ns.map V.int)/\(wb ns->Q (.bl true) H)/\(¬ wb ns->Q (.bl false) H)
include T in
theorem wz7 (F:Fun K "is_line" "is_line" zb3 f fd):FK P w K mg base 1 f fd ["heights"] (qxp K):=by
 have sc:=wx5;refine F.okX sc (λvs H Q E h=>by obtain⟨_,_,rfl,_⟩:=h;rfl) λ_ _ _ _ H vs Q E hr h=>?_;obtain⟨p,ns,rfl,L,k1,D⟩:=h;have ad:(ns.map V.int).length=ns.length:=af _;obtain⟨tw,Z⟩:=T.zag;refine⟨_,(qj (wp (i:=1) (wx zy (xv xg rfl T.len_ bB (qb (pv 0) qk)) qy))
   (qj (xn (PW.pt (wwg (wu Wp (pv 1) qy (wg _)) (qxu (wu yr (pv 1) (zf (v:=V.int 24) rfl Z ⟨_,rfl⟩) (wg _))))) (qp (wn wqz)) xw)
   (qp (wn (xzc (W7 wj8 (xv (qz3 rfl) rfl T.min_ d8 (qb (pv 0) qk)) qy (wg _)) (xzu (W7 wkn (xv (qvq rfl) rfl T.max_ d9 (qb (pv 0) qk)) (pv 1) (wg _)))))))),?_⟩
 refine exI rfl ⟨_,_,rfl,.inl L,wc rfl rfl ?_⟩;refine exI rfl (wc rfl rfl (exI rfl ?_));rw[ad];refine jq (λq1=>?_) (λq1=>?_)
 .refine Q6 ?_;exact D (λz=>by have:=z.1;lia)
 .refine exI rfl (wc rfl rfl (exI rfl ?_));refine jq (λq2=>?_) (λq2=>?_)
  .exact D (λz=>by have:=z.2.1;lia)
  .refine exI rfl ⟨p,ns,rfl,L,⋯,λm hm ap=>(wc rfl rfl (exI rfl ?_))⟩;refine jq (λU=>?_) (λU=>?_)
   .refine exI rfl ⟨p,ns,rfl,L,⋯,λJ ab an=>(exI rfl (wc rfl rfl ?_))⟩;show Q (.bl (decide (J<=(ns.length:Int)-1))) H;by_cases q4:J<=(ns.length:Int)-1
    .rw[aM q4];exact k1 ⟨⋯,⋯,λh W=>by have:=ap h W;have:=an h W;lia⟩
    .rw[aX q4];exact D (λz=>q4 (z.2.2 J ab).2)
   .exact D (λz=>U (z.2.2 m hm).1)
def RoadAt (C:Aj)(H:Hp)(r:Aj)(ns:List Int):Prop:=∃dx q,H r=some (.ins C dx [("heights",.ref q)])/\H q=some (.lst (ns.map V.int))
variable {C:Aj}{H H':Hp}
theorem RoadAt.same {r:Aj}{ns:List Int}(h:RoadAt C H r ns)(s:Same H H'):RoadAt C H' r ns:=by obtain⟨dx,q,h1,h2⟩:=h;exact⟨dx,q,s _ _ h1,s _ _ h2⟩
variable {q:Aj}
theorem yj:([("heights",V.ref q)]:List (Str×V)).lookup ("heights" : Str)=some (.ref q):=by rw[bn];simp
theorem w5 {m:Str}(h:¬ m = "heights"):([("heights",V.ref q)]:List (Str×V)).lookup m=none:=by rw[bn];have:(m==("heights" : Str))=false:=bZ.mpr h;rw[this];rfl
def Zc (K:Aa)(CB C:Aj):Sp:=λvs H Q E=>∃(r dx p:Aj) (ns:List Int),vs=[.ref r,.ref p]/\H r=some (.ins C dx [])/\SqL K H p (ns.map V.int) /\
 (wb ns->∀H' q,H q=none->(∀b o,H b=some o->b≠r->H' b=some o)->H' r=some (.ins C dx [("heights",.ref q)])->H' q=some (.lst (ns.map V.int))->Q .non H')/\(¬ wb ns->E (.ref CB) none H)
include T in
theorem xk7 (F:Fun K "__init__" "Road.__init__" zb4 f fd)(zgf:Cal P w K mg base "is_line" 1 (qxp K)):FK P w K mg base 2 f fd ["self","heights"] (Zc K qg qx):=by
 have L:=Jd;refine F.okX L (λvs H Q E h=>by obtain⟨_,_,_,_,rfl,_⟩:=h;rfl) λ_ _ _ _ H vs Q E hr h=>?_;obtain⟨r,dx,p,ns,rfl,D,J,k,x⟩:=h;refine⟨_,(qj (xn (wx7 (wx6 (wCA zgf (qb (pv 1) qk)))) (qp (v9 rfl T.zav vw rfl T.zfr (w8 vg qk))) xw)
   (qp (ps_fld (pv 0) (Jj Yq rfl T.list_ de (qb (pv 1) qk)) rfl))),?_⟩
 refine⟨_,rfl,p,ns,rfl,J,λU=>(exI rfl ?_),λZ=>(exI rfl ?_)⟩
 .refine Y8 ?_;refine exI rfl ⟨_,_,rfl,.inl J,λq z=>?_⟩;have W:upd H q (.lst (ns.map V.int)) r=some (.ins qx dx []):=by rw[wv (wj D z)];exact D
  refine exI rfl ⟨r,qx,dx,[],rfl,W,T.cl,T.na,(by show 0<1000;decide),?_⟩;refine k U _ q z (λb o e n=>?_) qh ?_
  .rw[wv n,wv (wj e z)];exact e
  .rw[wv (wj D z).symm,qh]
 .refine Q6 ?_;exact⟨sz1,x Z⟩
def kh (C:Aj):Sp:=λvs H Q _=>∃(r:Aj) (ns:List Int),vs=[.ref r]/\RoadAt C H r ns/\Q (.int ((ns.length:Int)-1)) H
include T in
theorem xq1 (F:Fun K "width" "Road.width" zb5 f fd):FK P w K mg base 1 f fd ["self"] (kh qx):=by have z:=qvj;refine F.okX z (λvs H Q E h=>by obtain⟨_,_,rfl,_⟩:=h;rfl) λ_ _ _ _ H vs Q E D h=>?_;obtain⟨r,ns,rfl,⟨dx,q,h1,h2⟩,k⟩:=h;refine⟨_,(qp (wn (wx zy (xv xg rfl T.len_ bB (z9 (qyb (pv 0) rfl) qk)) qy))),?_⟩;refine exI rfl ⟨r,qx,dx,_,_,rfl,h1,T.cl,T.na,yj,q,exI rfl ⟨.inl (SqL.of h2),wc rfl rfl ?_⟩⟩;rw[af];exact k
def u6 (C:Aj):Sp:=λvs H Q _=>∃(r:Aj) (ns:List Int),vs=[.ref r]/\RoadAt C H r ns/\∀p,H p=none->Q (.ref p) (upd H p (.lst (ns.map V.int)))
include T in
theorem wzg (F:Fun K "corners" "Road.corners" zb6 f fd):FK P w K mg base 1 f fd ["self"] (u6 qx):=by have z:=qq8;refine F.okX z (λvs H Q E h=>by obtain⟨_,_,rfl,_⟩:=h;rfl) λ_ _ _ _ H vs Q E D h=>?_;obtain⟨r,ns,rfl,⟨dx,q,h1,h2⟩,k⟩:=h;refine⟨_,(qp (wn (Jj Yq rfl T.list_ de (z9 (qyb (pv 0) rfl) qk)))),?_⟩;exact exI rfl ⟨r,qx,dx,_,_,rfl,h1,T.cl,T.na,yj,q,exI rfl ⟨.inl (SqL.of h2),λp np=>k p np⟩⟩
def InW (ns:List Int)(wd:Int):Prop:=(ns.length:Int)=wd+1/\∀h∈ns,0<=h/\h<=wd
def qwv (K:Aa):Sp:=λvs H Q _=>∃(a:Aj) (ns:List Int) (i wd:Int),vs=[.ref a,.int i,.int wd]/\SqL K H a (ns.map V.int)/\0<=i/\1<=wd/\wd<=24 /\
 ∀p hs,H p=none->InW hs wd->Q (.ref p) (upd H p (.lst (hs.map V.int)))
include T in
theorem xxn (F:Fun K "_law_climb" "_law_climb" zcz f fd)(zad:Cal P w K mg base "_law_pick" 2 (Z6 K)):FK P w K mg base 3 f fd ["_law_script","_law_at","_law_wide"] (qwv K):=by
 have sc:=qz6;refine F.okX sc (λvs H Q E h=>by obtain⟨_,_,_,_,rfl,_⟩:=h;rfl) λ_ _ _ _ H vs Q E hr h=>?_;obtain⟨a,ns,i,D,rfl,W,Z,w1,w2,k⟩:=h;refine⟨_,(qj (wp (i:=3) (k7 (vf (wCA zad (qb (pv 0) (qb (pv 1) (w8 qy (x8 (wx xu (pv 2) qy) qk))))) qk)))
   (qj (Qj bp rfl (zq rfl T.range_ (qb (pv 2) qk)) (wm (i:=4)) (qp (xz (qkm cI eT eU W5 (pv 3) (vf (xv (qku rfl) rfl T.max_ d9 (w8 qy (vf (xv (qqz rfl) rfl T.min_ d8 (qb (pv 2) (x8 (wx zy (wx xu (xh zw (pv 3) (Wy ym qy) (λ_ _=>rfl)) (wx xy qy (wCA zad (qb (pv 0) (qb (pv 1) (x8 (wx xu qy (pv 4)) (w8 qy qk))))))) qy) qk))) qk))) qk)))))
   (qp (wn (pv 3))))),?_⟩
 refine exI rfl (exI rfl (exI rfl (wc rfl rfl ⟨a,ns,_,_,_,rfl,W,Z,⋯,⋯,⋯,λr1 _ l1 u1=>⟨sz1,λp np=>?_⟩⟩)));refine⟨_,rfl,D,rfl,⋯,⋯,u8 (λj σ H1=>∃(ys:List Int) (l:Int) (z:Option V),ys.length=j/\(∀h∈ys++[l],0<=h/\h<=D)/\H1=upd H p (.lst ((ys++[l]).map V.int))/\σ=[some (.ref a),some (.int i),some (.int D),some (.ref p),z])
  ⟨[],r1,none,rfl,(λh J=>by have e:=aQ.mp J;subst e;lia),rfl,rfl⟩ ?_ ?_⟩
 .rintro j σ H1 hj ⟨ys,l,z,hy,hb,rfl,rfl⟩;have U:upd H p (.lst ((ys++[l]).map V.int)) p=some (.lst ((ys++[l]).map V.int)):=qh;have ad:SqL K (upd H p (.lst ((ys++[l]).map V.int))) a (ns.map V.int):=Same.sql (Same.upd np) W;have ab:atI ((ys++[l]).map V.int) (-1)=some (V.int l):=by rw[aA];exact u9 _ _
  have hl:=hb l (by simp);refine exI rfl ⟨.inl ⟨rfl,_,SqL.of U⟩,exI rfl (exI rfl (exI rfl (exX rfl rfl (SqL.of U) ab (exI rfl (exI rfl (exI rfl (wc rfl rfl ⟨a,ns,_,_,_,rfl,ad,Z,⋯,⋯,⋯,λL _ l2 u2=>?_⟩)))))))⟩;refine wc rfl rfl ⟨(by walk_at "mul"),wc rfl rfl (wc rfl rfl ⟨_,_,rfl,_,_,rfl,_,_,_,rfl,rfl,U,?_,?_⟩)⟩
  .rw[af,ar,hy];have:(1000000:Nat)<sizeLine:=by decide
   simp only[aB,bA];lia
  .refine⟨ys++[l],(if(if l+2*L-1<D then l+2*L-1 else D)>0 then(if l+2*L-1<D then l+2*L-1 else D) else 0),_,by rw[ar,hy];rfl,λh J=>?_,?_,rfl⟩
   .rcases aY.mp J with J|J
    .exact hb h J
    .have e:=aQ.mp J;subst e;by_cases g1:l+2*L-1<D
     .rw[aw g1];by_cases g2:l+2*L-1>0
      .rw[aw g2];lia
      .rw[ao g2];lia
     .rw[ao g1,aw (show D>0 by lia)];lia
   .rw[qyd,aA (l₁:=ys++[l])];rfl
 .rintro σ H1 ⟨ys,l,z,hy,hb,rfl,rfl⟩;refine exI rfl (k p _ np ⟨?_,hb⟩);rw[ar,hy];simp only[aB,bA];lia
def Jx (K:Aa):Sp:=λvs H Q _=>∃(a:Aj) (ns:List Int) (i m:Int),vs=[.ref a,.int i,.int m]/\SqL K H a (ns.map V.int)/\0<=i/\1<=m/\m<=24 /\
 ∀p hs wd,H p=none->1<=wd->wd<=m->InW hs wd->Q (.ref p) (upd H p (.lst (hs.map V.int)))
theorem wyp {wd:Int}{n:Nat}(g:Nat->Int)(h1:(n:Int)=wd+1)(h2:∀i,i<n->0<=g i/\g i<=wd):InW ((List.range n).map g) wd:=by refine⟨by rw[af,au];exact h1,λh z=>?_⟩;obtain⟨i,hi,rfl⟩:=aH.mp z;exact h2 i (am.mp hi)
theorem qvh (n:Nat)(g:Nat->Int):(List.range n).map (λi=>V.int (g i))=((List.range n).map g).map V.int:=by rw[aU];rfl
include T in
theorem wzk (F:Fun K "_law_heights" "_law_heights" zc0 f fd)(zad:Cal P w K mg base "_law_pick" 2 (Z6 K))(zgg:Cal P w K mg base "_law_climb" 3 (qwv K)) :
  FK P w K mg base 4 f fd ["_law_script","_law_at","_law_most"] (Jx K):=by
 have sc:=qq5;refine F.okX sc (λvs H Q E h=>by obtain⟨_,_,_,_,rfl,_⟩:=h;rfl) λ_ _ _ _ H vs Q E hr h=>?_;obtain⟨a,ns,i,m,rfl,W,Z,m1,m2,k⟩:=h;refine⟨_,(qj (wp (i:=3) (wx xu qy (wCA zad (qb (pv 0) (qb (pv 1) (w8 qy (qb (pv 2) qk)))))))
   (qj (wp (i:=4) (wCA zad (qb (pv 0) (qb (pv 1) (w8 qy (w8 qy qk))))))
   (qj (xn (wu zg (pv 4) qy (wg _)) (qp (wn (kg (M:=[3]) rfl rfl (by walk_at "cap") (by walk_at "has") (by walk_at "cix") rfl (by decide +kernel) rfl (show List.Nodup (["_law_k","_law_wide"]:List Str) by decide +kernel) (zq rfl T.range_ (x8 (wx xu (pv 3) qy) qk)) (λ_ _ _ _ _=>(wx xy (pv 1) (wx v3 (pv 0) qy)))))) xw)
   (qj (xn (wu zg (pv 4) qy (wg _)) (qp (wn (kg (M:=[]) rfl rfl (by walk_at "cap") (by walk_at "has") (by walk_at "cix") rfl (by decide +kernel) rfl (show List.Nodup (["_law_k"]:List Str) by decide +kernel) (zq rfl T.range_ (x8 (wx xu (pv 3) qy) qk)) (λ_ _ _ _ _=>(pv 0))))) xw)
   (qj (xn (wu zg (pv 4) qy (wg _)) (qp (wn (kg (M:=[3]) rfl rfl (by walk_at "cap") (by walk_at "has") (by walk_at "cix") rfl (by decide +kernel) rfl (show List.Nodup (["_law_k","_law_wide"]:List Str) by decide +kernel) (zq rfl T.range_ (x8 (wx xu (pv 3) qy) qk)) (λ_ _ _ _ _=>(wx zy (pv 1) (pv 0)))))) xw)
   (qj (xn (wu zg (pv 4) qy (wg _)) (qp (wn (kg (M:=[3]) rfl rfl (by walk_at "cap") (by walk_at "has") (by walk_at "cix") rfl (by decide +kernel) rfl (show List.Nodup (["_law_k","_law_wide"]:List Str) by decide +kernel) (zq rfl T.range_ (x8 (wx xu (pv 3) qy) qk)) (λ_ _ _ _ _=>(wx v3 (wx xu (wx xy qy (pv 0)) qy) (wx xu (pv 1) qy)))))) xw)
   (qj (xn (PW.pt (wwg (wu zg (pv 4) qy (wg _)) (qxu (wu zg (pv 4) qy (wg _))))) (qp (wn (wCA zgg (qb (pv 0) (qb (pv 1) (qb (pv 3) qk)))))) xw)
   (qp (wn (kg (M:=[0,1,3]) rfl rfl (by walk_at "cap") (by walk_at "has") (by walk_at "cix") rfl (by decide +kernel) rfl (show List.Nodup (["_law_k","_law_script","_law_at","_law_wide"]:List Str) by decide +kernel) (zq rfl T.range_ (x8 (wx xu (pv 3) qy) qk)) (λ_ _ _ _ _=>(qt zad (hr.mono ⋯) rfl j8 (qb (pv 1) (qb (pv 2) (x8 (wx xu qy (pv 0)) (x8 (wx xu (pv 3) qy) qk)))))))))))))))),?_⟩
 refine exI rfl (exI rfl (exI rfl ⟨a,ns,_,_,_,rfl,W,Z,⋯,⋯,⋯,λz _ l1 u1=>?_⟩));refine wc rfl rfl (exI rfl (exI rfl ⟨a,ns,_,_,_,rfl,W,Z,⋯,⋯,⋯,λkd _ l2 u2=>?_⟩));have hn:((1+z+1).toNat:Int)=1+z+1:=by lia
 have L:(1+z+1).toNat<=1000000:=by lia
 have U:∀(g:Nat->Int) (p:Aj),(∀j,j<(1+z+1).toNat->0<=g j/\g j<=1+z)->H p=none->Q (.ref p) (upd H p (.lst ((List.range (1+z+1).toNat).map λj=>V.int (g j)))):=λg p hg np=>by rw[qvh];exact k p _ (1+z) np ⋯ ⋯ (wyp g hn hg)
 refine exI rfl ⟨rfl,_,rfl,jx (λq1=>?_) (λq1=>?_)⟩
 .refine exI rfl (wc rfl rfl ⟨1+z+1,rfl,⋯,⋯,vt (λj=>V.int ((1+z)*(((0:Int)+j)%2))) L (λj H' R D hs J=>?_) λp np=>U _ p (λj D=>?_) np⟩)
  .exact exI rfl (exI rfl (wc rfl rfl ⟨(by walk_at "pos"),wc rfl rfl ⟨(by walk_at "mul"),J⟩⟩))
  .have a1:=bV ((0:Int)+j) (show(2:Int)≠0 by decide);have a2:=bL ((0:Int)+j) (show(0:Int)<2 by decide);rcases(by lia:((0:Int)+j)%2=0\/((0:Int)+j)%2=1) with e|e <;> rw[e] <;> lia
 .refine exI rfl ⟨rfl,_,rfl,jx (λq2=>?_) (λq2=>?_)⟩
  .refine exI rfl (wc rfl rfl ⟨1+z+1,rfl,⋯,⋯,vt (λj=>V.int ((0:Int)+j)) L (λj H' R D hs J=>?_) λp np=>U _ p (λj D=>by lia) np⟩);exact exI rfl J
  .refine exI rfl ⟨rfl,_,rfl,jx (λq3=>?_) (λq3=>?_)⟩
   .refine exI rfl (wc rfl rfl ⟨1+z+1,rfl,⋯,⋯,vt (λj=>V.int (1+z-((0:Int)+j))) L (λj H' R D hs J=>?_) λp np=>U _ p (λj D=>by lia) np⟩);exact exI rfl (exI rfl (wc rfl rfl J))
   .refine exI rfl ⟨rfl,_,rfl,jx (λq4=>?_) (λq4=>?_)⟩
    .refine exI rfl (wc rfl rfl ⟨1+z+1,rfl,⋯,⋯,vt (λj=>V.int ((2*((0:Int)+j)+1)%(1+z+1))) L (λj H' R D hs J=>?_) λp np=>U _ p (λj D=>?_) np⟩)
     .exact exI rfl (wc rfl rfl ⟨(by walk_at "mul"),wc rfl rfl (exI rfl (wc rfl rfl (wc rfl rfl ⟨(by walk_at "pos"),J⟩)))⟩)
     .have a1:=bV (2*((0:Int)+j)+1) (show 1+z+1≠0 by lia);have a2:=bL (2*((0:Int)+j)+1) (show 0<1+z+1 by lia);lia
    .have ad:tRet (wjw [0,1,3] (iRng1 (v8 (tOp (rI0 λi j=>.int (i+j)) (yu 3) (tC (.int 1))) qw6)) (qzw (Z6 K) (λ_=>E0) (v8 (yu 1) (v8 (yu 2) (v8 (tOp (rI0 λi j=>.int (i+j)) (tC (.int 3)) (yu 0)) (v8 (tOp (rI0 λi j=>.int (i+j)) (yu 3) (tC (.int 1))) qw6))))))
       { nx:=λ_ H'=>Q .non H',rt:=Q } [some (.ref a),some (.int i),some (.int m),some (.int (1+z)),some (.int kd)] H:=by
      refine exI rfl (wc rfl rfl ⟨1+z+1,rfl,⋯,⋯,vt (λj=>V.int (quh ns i (3+((0:Int)+j)) (1+z+1))) L (λj H' R D hs J=>?_) λp np=>U _ p (λj D=>?_) np⟩)
      .refine exI rfl (exI rfl (exI rfl (wc rfl rfl (exI rfl (wc rfl rfl ⟨a,ns,_,_,_,rfl,Same.sql hs W,Z,⋯,⋯,⋯,λr e _ _=>?_⟩)))));rw[e];exact J
      .have a1:=xzp ns i (3+((0:Int)+j)) (1+z+1) ⋯;have a2:=xw5 ns i (3+((0:Int)+j)) (1+z+1) ⋯;lia
     have ab:tRet (qzw (qwv K) (λ_=>E) (v8 (yu 0) (v8 (yu 1) (v8 (yu 3) qw6)))) { nx:=λ_ H'=>Q .non H',rt:=Q } [some (.ref a),some (.int i),some (.int m),some (.int (1+z)),some (.int kd)] H :=
      (exI rfl (exI rfl (exI rfl ⟨a,ns,i,1+z,rfl,W,Z,⋯,⋯,λp hs np hw=>k p hs (1+z) np ⋯ ⋯ hw⟩)))
     refine exI rfl ⟨rfl,_,rfl,jx (λq5=>Q6 ab) (λq5=>?_)⟩;exact exI rfl ⟨rfl,_,rfl,jx (λq6=>ab) (λq6=>ad)⟩
def xxj:Sp:=λvs H Q _=>∃x y:Int,vs=[.int x,.int y]/\0<=x/\0<=y/\Q (.int (qq0 x y)) H
variable {x y:Int}
theorem xz8 {tb:TS}{c:TT}{D:Ends}(hx:0<=x)(hy:0<=y)(hc:c=qqp (tOp (rI0 λi j=>.bl (decide (j<i))) (yu 1) (tC (.int 0))))(hb:tb=tPar 0 1 (v8 (yu 1) (v8 (tOp (rI (λ_ j=>0<j) λi j=>.int (i%j)) (yu 0) (yu 1)) qw6)))
  (hD:D.nx [some (.int (qq0 x y)),some (.int 0)] H):wvz c tb D [some (.int x),some (.int y)] H:=by
 subst hc hb;refine uh (λσ H1=>H1=H/\∃u v:Int,σ=[some (.int u),some (.int v)]/\0<=u/\0<=v/\qq0 u v=qq0 x y) (λσ _=>match σ with|[_,some (.int v)]=>v.toNat|_=>0) ⟨rfl,x,y,rfl,hx,hy,rfl⟩ ?_ λσ H Q Q' h ⟨v,e,i,j,e1,e2,k,e3,q⟩=>⟨v,e,i,j,e1,e2,k,e3,h _ _ q⟩;rintro σ H1 ⟨rfl,u,v,rfl,hu,hv,e⟩;refine exI rfl (wc rfl rfl (exI rfl ?_));refine jq (λq=>?_) (λq=>?_)
 .have h1:=bV u (show v≠0 by lia);have h2:=bL u q;refine exI rfl (exI rfl (exI rfl (wc rfl rfl ⟨q,_,_,rfl,⟨rfl,v,u%v,rfl,hv,h1,?_⟩,?_⟩)))
  .rw[wy4 hu q,e]
  .show(u%v).toNat<v.toNat;lia
 .have z:v=0:=by lia
  subst z;rw[wug hu]at e;subst e;exact hD
include T in
theorem zgh (F:Fun K "common_divisor" "common_divisor" zb1 f fd):FK P w K mg base 1 f fd ["one","other"] xxj:=by
 have z:=Yv;refine F.okX z (λvs H Q E h=>by obtain⟨_,_,rfl,_⟩:=h;rfl) λ_ _ _ _ H vs Q E L h=>?_;obtain⟨x,y,rfl,J,D,k⟩:=h;refine⟨_,(qj (uf bp (wu yr (pv 1) qy (wg _)) (qp (ps_par (i:=0) (j:=1) rfl z.nd rfl rfl ⋯ rfl rfl (qb (pv 1) (x8 (wx v3 (pv 0) (pv 1)) qk)) rfl)))
   (qp (wn (pv 0)))),?_⟩
 exact xz8 J D rfl rfl (exI rfl k)
def ptV (p:Int×Int):List V:=[.int p.1,.int p.2]
def uc (C:Aj):Sp:=λvs H Q E=>∃t b:Int,vs=[.int t,.int b]/\(1<=b->Sm 9000 b/\∀p,H p=none->Q (.ref p) (upd H p (.tup (ptV (wy t b)))))/\(b<1->E (.ref C) none H)
include T in
theorem wuz (F:Fun K "lowest" "lowest" zb2 f fd)(zc9:Cal P w K mg base "check_bottom" 1 (qwk qv))(zgi:Cal P w K mg base "common_divisor" 1 xxj) :
  FK P w K mg base 2 f fd ["top","bottom"] (uc qv):=by
 have D:=wys;refine F.okX D (λvs H Q E h=>by obtain⟨_,_,rfl,_⟩:=h;rfl) λ_ _ _ _ H vs Q E L h=>?_;obtain⟨t,b,rfl,k,x⟩:=h;refine⟨_,(qj (xz (wCA zc9 (qb (pv 1) qk)))
   (qj (wp (i:=2) (wCA zgi (vf (xv Yb rfl T.abs_ Y3 (qb (pv 0) qk)) (qb (pv 1) qk))))
   (qp (wn (z7 (x8 (wx j7 (pv 0) (pv 2)) (x8 (wx j7 (pv 1) (pv 2)) qk))))))),?_⟩
 refine⟨_,rfl,b,rfl,λz=>?_,λz=>x z⟩;obtain⟨J,k⟩:=k z;have U:=uw (t:=t) z;have hs:Sm 9000 (gOf t b):=J.of_le (by have:=gOf_le (t:=t) z;lia);refine exI rfl (exI rfl (exI rfl ⟨Q9 t,b,rfl,xkg t,⋯,?_⟩));refine exI rfl ⟨V.int (gOf t b),rfl,wc rfl rfl ⟨⟨⋯,hs⟩,exI rfl ⟨V.int (gOf t b),rfl,wc rfl rfl ⟨⟨⋯,hs⟩,sz2,λp n=>?_⟩⟩⟩⟩;exact k p n
theorem Jq {x dx:Aj}(nx:H x=none)(nd:H dx=none)(h:∀b o,upd (upd H dx (.own x)) x (.ins C dx []) b=some o->b≠x->H' b=some o):Same H H':=λb o e =>
 h b o (by rw[wv (wj e nx),wv (wj e nd)];exact e) (wj e nx)
variable {o:HO}
theorem Same.upd2 {p:Aj}(s:Same H H')(n:H p=none):Same H (L2.upd H' p o):=λb u e=>by rw[wv (wj e n)];exact s b u e
theorem rd_pt {p:Aj}{q:Int×Int}(h:SqT K H p [.int q.1,.int q.2]):RD K H (ptD q) (.ref p):=by unfold ptD;rw[RD];exact⟨p,exI rfl ⟨h,by rw[RDs];exact⟨_,_,rfl,by rw[RD],by rw[RDs];exact⟨_,_,rfl,by rw[RD],by rw[RDs]⟩⟩⟩⟩
variable {p:Int×Int}
theorem dep_pt {q:Int×Int}:min (ptD p).depth (ptD q).depth<=60:=by simp[ptD,PyData.depth,PyData.depthAll]
variable {b:Int}
theorem Yc {d:Int}(hb:1<=b)(hd:1<=d):x*d=y*b↔wy x b=wy y d:=by
 constructor
 .intro e;rw[<-Qn (t:=x) hb hd,e,eJ b d,Qn hd hb]
 .intro e;have D:=v6 (t:=x) hb;have z:=v6 (t:=y) hd;have L:=vj (t:=x) hb;rw[<-e]at z;have h:x*d*(wy x b).2=y*b*(wy x b).2:=by
   have J:x*d*(wy x b).2=x*(wy x b).2*d:=by grind
   have F:y*b*(wy x b).2=y*(wy x b).2*b:=by grind
   rw[J,F,<-D,<-z];grind
  exact Int.eq_of_mul_eq_mul_right ⋯ h
variable {hs:List Int}
theorem qwy {CB:Aj}{p x dx:Aj}{Pp:Hp->Prop}{E:XK}(f:H p=some (.lst (hs.map V.int)))(nx:H x=none)(nd:H dx=none)(k:wb hs->∀H',Same H H'->RoadAt C H' x hs->Pp H')(bad:¬ wb hs->∀H',Same H H'->E (.ref CB) none H') :
  Zc K CB C [.ref x,.ref p] (upd (upd H dx (.own x)) x (.ins C dx [])) (λr H2=>r=.non/\Pp H2) E:=by
 refine⟨x,dx,p,hs,rfl,qh,SqL.of (by rw[wv (wj f nx),wv (wj f nd)];exact f),λD J q L F r l=>⟨rfl,k D J (Jq nx nd F) ⟨dx,q,r,l⟩⟩,λz=>bad z _ ?_⟩;exactλb o e=>by rw[wv (wj e nx),wv (wj e nd)];exact e
def qjd:Sp:=λvs H Q _=>∃n:Int,vs=[.int n]/\1<=n/\∀p,H p=none->Q (.ref p) (upd H p (.tup [.int (hO n),.int (hT n)]))
include T in
theorem xyg (F:Fun K "halvings" "halvings" zcq f fd):FK P w K mg base 1 f fd ["number"] qjd:=by
 have z:=wwd;refine F.okX z (λvs H Q E h=>by obtain⟨_,rfl,_⟩:=h;rfl) λ_ _ _ _ H vs Q E U h=>?_;obtain⟨n,rfl,D,k⟩:=h;refine⟨_,(qj (wp (i:=1) qy)
   (qj (wp (i:=2) (pv 0))
   (qj (uf bp (wu zg (wx v3 (pv 2) qy) qy (wg _)) (qj (wp (i:=2) (wx j7 (pv 2) qy))
   (qp (xxp (i:=1) z.nd rfl (Or.inl rfl) qy ip_add))))
   (qp (wn (z7 (qb (pv 2) (qb (pv 1) qk)))))))),?_⟩
 refine exI rfl ?_;refine uh (λσ H1=>H1=H/\∃u t:Int,σ=[some (.int n),some (.int t),some (.int u)]/\1<=u/\hT n=hT u+t/\hO n=hO u) (λσ _=>match σ with|[_,_,some (.int u)]=>u.toNat|_=>0) ⟨rfl,n,0,rfl,D,⋯,rfl⟩ ?_ λσ H Q Q' h ⟨v,e,i,j,e1,e2,e3,e4,kk,e5,q⟩=>⟨v,e,i,j,e1,e2,e3,e4,kk,e5,h _ _ q⟩;rintro σ H1 ⟨rfl,u,t,rfl,u1,e1,e2⟩;refine exI rfl (wc rfl rfl ⟨(by walk_at "pos"),rfl,_,rfl,jx (λq=>?_) (λq=>?_)⟩)
 .have st:=Qb u1 q;refine exI rfl (wc rfl rfl ⟨(by walk_at "div"),exI rfl (wc rfl rfl ⟨⟨rfl,u/2,t+1,rfl,⋯,⋯,⋯⟩,?_⟩)⟩);show(u/2).toNat<u.toNat;lia
 .have st:=Z2 u1 q;have L:t=hT n:=by lia
  have J:u=hO n:=by lia
  refine exI rfl (exI rfl ⟨sz2,λp np=>?_⟩);have:=k p np;rw[L,J];exact this
def wwq (hs:List Int):List Int:=hs.map (λh=>(hs.length:Int)-1+1+h)++(List.range hs.length).map λk:Nat=>(0:Int)+k
def addV (w:Int):V->V
 |.int i=>.int (w+i)
 |v=>v
theorem xk2 (hs:List Int):(hs.map V.int).map (addV ((hs.length:Int)-1+1))++(List.range hs.length).map (λk:Nat=>V.int ((0:Int)+k))=(wwq hs).map V.int:=by unfold wwq;rw[aA,aU,aU,aU];rfl
def xw1 (C CB:Aj):Sp:=λvs H Q E=>∃(r:Aj) (hs:List Int),vs=[.ref r]/\RoadAt C H r hs/\wb hs/\(wb (wwq hs)->∀x H',H x=none->Same H H'->RoadAt C H' x (wwq hs)->Q (.ref x) H')/\(¬ wb (wwq hs)->∀H',Same H H'->E (.ref CB) none H')
include T in
theorem zgj (F:Fun K "doubled" "doubled" zcu f fd)(zak:CCal P w K mg base "Road" qx 2 (Zc K qg qx))(zab:MCal P w K mg base qx "width" 1 (kh qx))(zbc:MCal P w K mg base qx "corners" 1 (u6 qx)) :
  FK P w K mg base 4 f fd ["road"] (xw1 qx qg):=by
 have sc:=wvq;refine F.okX sc (λvs H Q E h=>by obtain⟨_,_,rfl,_⟩:=h;rfl) λ_ _ _ _ H vs Q E U h=>?_;obtain⟨r,hs,rfl,W,ok,k,kx⟩:=h;obtain⟨dx,q,h1,h2⟩:=id W;have ol:=ok.2.1;have ap:=ok.1;refine⟨_,(qj (wp (i:=1) (zc (pv 0) T.cl zab (U.mono ⋯) qu))
   (qp (wn (ud zak (U.mono ⋯) rfl qu (x8 (wx Wr (kg (M:=[1]) rfl rfl (by walk_at "cap") (by walk_at "has") (by walk_at "cix") rfl (by decide +kernel) rfl (show List.Nodup (["height","width"]:List Str) by decide +kernel) (vc (zc (pv 0) T.cl zbc (U.mono ⋯) qu)) (λ_ _ _ _ _=>(wx xu (wx xu (pv 1) qy) (pv 0)))) (qz7 rfl rfl T.list_ rfl T.range_ (x8 (wx xu (pv 1) qy) qk))) qk))))),?_⟩
 refine exI rfl ⟨r,dx,exI rfl ⟨h1,w5 (by decide +kernel),r,hs,rfl,W,?_⟩⟩;refine exI rfl ⟨r,dx,exI rfl ⟨h1,w5 (by decide +kernel),r,hs,rfl,W,λD n1=>?_⟩⟩;have s1:Same H (upd H D (.lst (hs.map V.int))):=Same.upd n1;have Z:upd H D (.lst (hs.map V.int)) D=some (.lst (hs.map V.int)):=qh;generalize hH1:upd H D (.lst (hs.map V.int))=H1 at s1 Z;refine⟨D,rfl,⟨_,SqL.of Z⟩,qky (K:=K) (a:=D) (addV ((hs.length:Int)-1+1)) (SqL.of Z) (by rw[af];lia) (λx H' R hx a0 an=>?_) λp2 n2=>?_⟩
 .obtain⟨i,_,rfl⟩:=aH.mp hx;exact exI rfl (wc rfl rfl (exI rfl (wc rfl rfl an)))
 .have s2:=Same.upd (o:=.lst ((hs.map V.int).map (addV ((hs.length:Int)-1+1)))) n2;have f2:upd H1 p2 (.lst ((hs.map V.int).map (addV ((hs.length:Int)-1+1)))) p2=some (.lst ((hs.map V.int).map (addV ((hs.length:Int)-1+1)))):=qh;generalize upd H1 p2 (.lst ((hs.map V.int).map (addV ((hs.length:Int)-1+1))))=H2 at s2 f2;refine⟨_,rfl,_,_,rfl,rfl,(hs.length:Int)-1+1,rfl,⟨⋯,⋯⟩,⋯,λp3 n3=>?_⟩;rw[show((hs.length:Int)-1+1).toNat=hs.length by lia];have s3:=Same.upd (o:=.lst ((List.range hs.length).map λk:Nat=>V.int ((0:Int)+k))) n3;refine⟨p2,p3,wc rfl rfl ⟨s3 _ _ f2,qh,?_,λp4 n4=>?_⟩⟩
  .rw[af,af,af,au];have:(1000000:Nat)<sizeLine:=by decide
   lia
  .rw[xk2];have s4:=Same.upd (o:=.lst ((wwq hs).map V.int)) n4;have J:=s1.trans (s2.trans (s3.trans s4));refineλx d0 nx ad as=>qwy qh nx ad (λab H' L R=>k ab x H' (J.free nx) (J.trans L) R) λz H' L=>kx z H' (J.trans L)
instance lineDec (ns:List Int):Decidable (wb ns):=by unfold wb;infer_instance
def u7 (n:Int):Prop:=n=1\/(3<=n/\n<=25/\n%2=1)
def Z5 (n:Int):List Int:=if n=1 then [0,0] else [n/2]++(List.range (n/2+1-1).toNat).map (λj:Nat=>n-(1+j))++(List.range (n-(n/2+1)).toNat).map λj:Nat=>n-1-(n/2+1+j)
theorem xkz:∀k:Nat,k<13->wb (Z5 (2*(k:Int)+1)):=by decide +kernel
variable {n:Int}
theorem qxz (h:u7 n):wb (Z5 n):=by have:=xkz ((n-1)/2).toNat (by rcases h with h|h <;> lia);rwa [show 2*((((n-1)/2).toNat:Nat):Int)+1=n by rcases h with h|h <;> lia]at this
theorem xkb (h:¬ n=1):[V.int (n/2)]++(List.range (n/2+1-1).toNat).map (λj:Nat=>V.int (n-(1+j)))++(List.range (n-(n/2+1)).toNat).map (λj:Nat=>V.int (n-1-(n/2+1+j)))=(Z5 n).map V.int:=by unfold Z5;rw[ao h,aA,aA,aU,aU];rfl
def wkr (C CB:Aj):Sp:=λvs H Q E=>∃n:Int,vs=[.int n]/\(u7 n->∀x H',Same H H'->RoadAt C H' x (Z5 n)->Q (.ref x) H')/\(¬ u7 n->E (.ref CB) none H)
include T in
theorem zgk (F:Fun K "odd_road" "odd_road" zcv f fd)(zaa:CalD P w K mg base "check_count" 1 (zd qw))(zak:CCal P w K mg base "Road" qx 2 (Zc K qg qx)) :
  FK P w K mg base 4 f fd ["number"] (wkr qx qw):=by
 have W:=wx0;refine F.okX W (λvs H Q E h=>by obtain⟨_,rfl,_⟩:=h;rfl) λ_ _ _ _ H vs Q E hr h=>?_;obtain⟨n,rfl,k,kx⟩:=h;obtain⟨tm,an⟩:=T.zar;have a0:(1000000:Nat)<sizeLine:=by decide
 refine⟨_,(qj (xn (wu zg (pv 0) qy (wg _)) (qp (wn (ud zak (hr.mono ⋯) rfl qu (pa_cL (k7 (w8 qy (w8 qy qk))) qk)))) xw)
   (qj (xz (zm zaa.all (hr.mono ⋯) rfl qu (qb (pv 0) (w8 qy (qb (zf (v:=V.int 25) rfl an ⟨_,rfl⟩) qk)))))
   (qj (xn (wu zg (wx v3 (pv 0) qy) qy (wg _)) (qp (v9 rfl T.zaj vw rfl T.zc6 (w8 vg qk))) xw)
   (qj (wp (i:=1) (wx j7 (pv 0) qy))
   (qj (jd (i:=2) (M:=[0]) W.nd rfl (by walk_at "loc") rfl rfl (by walk_at "cap") (by walk_at "has") (by walk_at "cix") rfl (by decide +kernel) rfl (show List.Nodup (["corner","number"]:List Str) by decide +kernel) (yb rfl T.range_ (w8 qy (x8 (wx xu (pv 1) qy) qk))) (λ_ _ _ _ _=>(wx zy (pv 1) (pv 0))))
   (qj (jd (i:=3) (M:=[0]) W.nd rfl (by walk_at "loc") rfl rfl (by walk_at "cap") (by walk_at "has") (by walk_at "cix") rfl (by decide +kernel) rfl (show List.Nodup (["corner","number"]:List Str) by decide +kernel) (yb rfl T.range_ (x8 (wx xu (pv 1) qy) (qb (pv 0) qk))) (λ_ _ _ _ _=>(wx zy (wx zy (pv 1) qy) (pv 0))))
   (qp (wn (ud zak (hr.mono ⋯) rfl qu (x8 (wx Wr (wx Wr (k7 (qb (pv 1) qk)) (pv 2)) (pv 3)) qk)))))))))),?_⟩
 refine exI rfl ⟨rfl,_,rfl,jx (λL=>?_) (λL=>?_)⟩
 .subst L;refine⟨sz2,λp n1=>?_⟩;have J:=Same.upd (o:=.lst [.int 0,.int 0]) n1;have e1:Z5 1=[0,0]:=rfl;refineλx d0 Z ab ap=>qwy (hs:=Z5 1) qh Z ab (λ_ H' s2 R=>k (.inl rfl) x H' (J.trans s2) R) λz=>absurd (qxz (.inl rfl)) z
 .refine⟨_,rfl,n,3,.int 25,some 25,rfl,.inr ⟨25,rfl,rfl⟩,λD=>?_,λD=>kx λz=>?_⟩
  .have w2:=D.1;have w3:=D.2 25 rfl;refine exI rfl (wc rfl rfl ⟨(by walk_at "pos"),rfl,_,rfl,jx (λq2=>?_) (λq2=>?_)⟩)
   .exact⟨sz1,kx λz=>by rcases z with z|z <;> lia⟩
   .have ok:u7 n:=.inr ⟨w2,w3,⋯⟩;refine exI rfl (wc rfl rfl ⟨(by walk_at "div"),?_⟩);refine exI rfl (wc rfl rfl ⟨1,n/2+1,rfl,⟨⋯,⋯,⋯,⋯⟩,vt (λj=>V.int (n-(1+j))) ⋯ (λi H' R hi as hR=>(exI rfl (exI rfl (wc rfl rfl hR)))) λU n1=>?_⟩);have J:=Same.upd (o:=.lst ((List.range (n/2+1-1).toNat).map λj:Nat=>V.int (n-(1+j)))) n1;have f1:upd H U (.lst ((List.range (n/2+1-1).toNat).map λj:Nat=>V.int (n-(1+j)))) U=some (.lst ((List.range (n/2+1-1).toNat).map λj:Nat=>V.int (n-(1+j)))):=qh;generalize upd H U (.lst ((List.range (n/2+1-1).toNat).map λj:Nat=>V.int (n-(1+j))))=H1 at J f1;refine exI rfl (wc rfl rfl (exI rfl ⟨n/2+1,n,rfl,⟨⋯,⋯,⋯,⋯⟩,vt (λj=>V.int (n-1-(n/2+1+j))) ⋯ (λi H' R hi as hR=>(exI rfl (wc rfl rfl (exI rfl (wc rfl rfl hR))))) λp2 n2=>?_⟩));have s2:=Same.upd (o:=.lst ((List.range (n-(n/2+1)).toNat).map λj:Nat=>V.int (n-1-(n/2+1+j)))) n2;have f2:upd H1 p2 (.lst ((List.range (n-(n/2+1)).toNat).map λj:Nat=>V.int (n-1-(n/2+1+j)))) p2=some (.lst ((List.range (n-(n/2+1)).toNat).map λj:Nat=>V.int (n-1-(n/2+1+j)))):=qh;generalize upd H1 p2 (.lst ((List.range (n-(n/2+1)).toNat).map λj:Nat=>V.int (n-1-(n/2+1+j))))=H2 at s2 f2;refine exI rfl ⟨sz1,λp3 n3=>?_⟩;have s3:=Same.upd (o:=.lst [.int (n/2)]) n3;have ad:=s2.trans s3;refine exI rfl ⟨p3,U,wc rfl rfl ⟨qh,ad _ _ f1,?_,λp4 n4=>?_⟩⟩
    .simp only[af,au,aB,bA];lia
    have s4:=Same.upd (o:=.lst ([V.int (n/2)]++(List.range (n/2+1-1).toNat).map λj:Nat=>V.int (n-(1+j)))) n4;refine exI rfl ⟨p4,p2,wc rfl rfl ⟨qh,(s3.trans s4) _ _ f2,?_,λp5 n5=>?_⟩⟩
    .simp only[ar,af,au,aB,bA];lia
    rw[xkb L];have s5:=Same.upd (o:=.lst ((Z5 n).map V.int)) n5;refineλx d0 Z ab ap=>qwy qh Z ab (λ_ H' s6 R=>k ok x H' (J.trans (ad.trans (s4.trans (s5.trans s6)))) R) λz=>absurd (qxz ok) z
  .refine D ?_;rcases z with z|z
   .exact absurd z L
   .exact⟨z.1,λb e=>by cases e;exact z.2.1⟩
def qu2 (hs:List Int):Nat->List Int
 |0=>hs
 |j+1=>wwq (qu2 hs j)
theorem hTO (h1:1<=n)(h2:n<=12):(hO n=1/\hT n<=3\/hO n=3/\hT n<=2\/hO n=5/\hT n<=1\/(hO n=7\/hO n=9\/hO n=11)/\hT n<=0)/\0<=hT n:=by
 have e1:=Z2 (u:=1) ⋯ ⋯;have J:=Qb (u:=2) ⋯ ⋯;have e3:=Z2 (u:=3) ⋯ ⋯;have F:=Qb (u:=4) ⋯ ⋯;have e5:=Z2 (u:=5) ⋯ ⋯;have D:=Qb (u:=6) ⋯ ⋯;have Z:=Z2 (u:=7) ⋯ ⋯;have z:=Qb (u:=8) ⋯ ⋯;have W:=Z2 (u:=9) ⋯ ⋯;have U:=Qb (u:=10) ⋯ ⋯;have ab:=Z2 (u:=11) ⋯ ⋯;have L:=Qb (u:=12) ⋯ ⋯;rw[show(2:Int)/2=1 by decide]at J;rw[show(4:Int)/2=2 by decide]at F;rw[show(6:Int)/2=3 by decide]at D;rw[show(8:Int)/2=4 by decide]at z;rw[show(10:Int)/2=5 by decide]at U;rw[show(12:Int)/2=6 by decide]at L;have:n=1\/n=2\/n=3\/n=4\/n=5\/n=6\/n=7\/n=8\/n=9\/n=10\/n=11\/n=12:=by lia
 rcases this with h|h|h|h|h|h|h|h|h|h|h|h <;> subst h <;> lia
theorem for_1:∀j:Nat,j<4->wb (qu2 (Z5 1) j):=by decide +kernel
theorem for_3:∀j:Nat,j<3->wb (qu2 (Z5 3) j):=by decide +kernel
theorem for_5:∀j:Nat,j<2->wb (qu2 (Z5 5) j):=by decide +kernel
theorem wqw (h1:1<=n)(h2:n<=12)(j:Nat)(hj:(j:Int)<=hT n):wb (qu2 (Z5 (hO n)) j):=by
 obtain⟨h,_⟩:=hTO h1 h2;rcases h with⟨h,g⟩|⟨h,g⟩|⟨h,g⟩|⟨h,g⟩
 .rw[h];exact for_1 j ⋯
 .rw[h];exact for_3 j ⋯
 .rw[h];exact for_5 j ⋯
 .obtain rfl:j=0:=by lia
  refine qxz (.inr ?_);lia
def xxm (C CB:Aj):Sp:=λvs H Q E=>∃n:Int,vs=[.int n]/\(1<=n->n<=12->∀x H',Same H H'->RoadAt C H' x (qu2 (Z5 (hO n)) (hT n).toNat)->Q (.ref x) H')/\(n<1\/12<n->E (.ref CB) none H)
include T in
theorem zgl (F:Fun K "road_for" "road_for" zcw f fd)(zaa:CalD P w K mg base "check_count" 1 (zd qw))(zda:Cal P w K mg base "halvings" 1 qjd)(zdb:Cal P w K mg base "odd_road" 4 (wkr qx qw))(zgm:Cal P w K mg base "doubled" 4 (xw1 qx qg)) :
  FK P w K mg base 5 f fd ["number"] (xxm qx qw):=by
 have U:=wxc;refine F.okX U (λvs H Q E h=>by obtain⟨_,rfl,_⟩:=h;rfl) λ_ _ _ _ H vs Q E hr h=>?_;obtain⟨n,rfl,k,kx⟩:=h;obtain⟨tm,Z⟩:=T.zas;refine⟨_,(qj (xz (zm zaa.all (hr.mono ⋯) rfl qu (qb (pv 0) (w8 qy (qb (zf (v:=V.int 12) rfl Z ⟨_,rfl⟩) qk)))))
   (qj (vn (wCA zda (qb (pv 0) qk)) (vy rfl (wt (wm (i:=1)) (wt (wm (i:=2)) x9))))
   (qj (wp (i:=3) (wCA zdb (qb (pv 1) qk)))
   (qj (uf bp (wu yr (pv 2) qy (wg _)) (qj (wp (i:=3) (wCA zgm (qb (pv 3) qk)))
   (qp (xxp (i:=2) U.nd rfl (Or.inl rfl) qy ip_sub))))
   (qp (wn (pv 3))))))),?_⟩
 refine⟨_,rfl,n,1,.int 12,some 12,rfl,.inr ⟨12,rfl,rfl⟩,λJ=>?_,λJ=>kx ?_⟩
 .have D:=J.1;have L:=J.2 12 rfl;have ab:=hTO D L;refine exI rfl ⟨n,rfl,D,λW n0=>?_⟩;refine⟨W,exI rfl ⟨SqT.new,rfl,_,_,rfl,_,_,rfl,rfl,?_⟩⟩;have s0:=Same.upd (o:=.tup [.int (hO n),.int (hT n)]) n0;generalize upd H W (.tup [.int (hO n),.int (hT n)])=H0 at s0;have oo:u7 (hO n):=by unfold u7;lia
  refine⟨_,rfl,hO n,rfl,λ_ x H1 s1 R1=>?_,λz=>absurd oo z⟩;refine uh (λσ H2=>∃(j:Nat) (x:Aj),σ=[some (.int n),some (.int (hO n)),some (.int (hT n-j)),some (.ref x)]/\(j:Int)<=hT n/\Same H H2/\RoadAt qx H2 x (qu2 (Z5 (hO n)) j)) (λσ _=>match σ with|[_,_,some (.int u),_]=>u.toNat|_=>0)
   ⟨0,x,by simp[List.set,L2.Q4],by simpa using ab.2,s0.trans s1,R1⟩ ?_ λσ H Q Q' h ⟨v,e,i,j,e1,e2,kk,e5,q⟩=>⟨v,e,i,j,e1,e2,kk,e5,h _ _ q⟩
  rintro σ H2 ⟨j,y,rfl,hj,s2,R2⟩;refine exI rfl (wc rfl rfl (exI rfl (jq (λq=>?_) (λq=>?_))))
  .have l1:=wqw D L j hj;have l2:wb (wwq (qu2 (Z5 (hO n)) j)):=wqw D L (j+1) ⋯;refine⟨_,rfl,y,_,rfl,R2,l1,λ_ z H3 nz s3 R3=>?_,λz=>absurd l2 z⟩;refine exI rfl (wc rfl rfl ⟨⟨j+1,z,?_,⋯,s2.trans s3,R3⟩,?_⟩)
   .show[some (V.int n),some (V.int (hO n)),some (V.int (hT n-(j:Int)-1)),some (V.ref z)]=_;rw[show hT n-(j:Int)-1=hT n-((j+1:Nat):Int) by lia]
   .show(hT n-(j:Int)-1).toNat<(hT n-(j:Int)).toNat;lia
  .refine exI rfl ?_;have e:(hT n).toNat=j:=by lia
   exact k D L y H2 s2 (by rw[e];exact R2)
 .rcases(by lia:n<1\/12<n\/(1<=n/\n<=12)) with z|z|z
  .exact .inl z
  .exact .inr z
  .exact absurd ⟨z.1,λb e=>by cases e;exact z.2⟩ J
theorem at_h {k:Int}(h0:0<=k)(h1:k<hs.length):atI (hs.map V.int) k=some (V.int (hAt hs k)):=Yt h0 h1
theorem wjc (ok:wb hs)(k:Int):0<=hAt hs k/\hAt hs k<=24:=by
 unfold hAt;rw[ae];cases e:hs[k.toNat]? with
 |none=>exact⟨⋯,⋯⟩
 |some v =>
  have hm:=ok.2.2 v (aL e);have:=ok.2.1;show 0<=v/\v<=24;lia
def Z1 (C CR:Aj):Sp:=λvs H Q E=>∃(r:Aj) (hs:List Int) (k:Int),vs=[.ref r,.int k]/\RoadAt C H r hs/\(0<=k->k<(hs.length:Int)-1->∀p,H p=none->Q (.ref p) (upd H p (.tup [.int (hAt hs k),.int (hAt hs (k+1))]))) /\
 (k<0\/(hs.length:Int)-1<=k->E (.ref CR) none H)
include T in
theorem xkx (F:Fun K "ends" "Road.ends" zb7 f fd)(zab:MCal P w K mg base qx "width" 1 (kh qx)):FK P w K mg base 2 f fd ["self","stretch"] (Z1 qx qm):=by
 have L:=quk;refine F.okX L (λvs H Q E h=>by obtain⟨_,_,_,rfl,_⟩:=h;rfl) λ_ _ _ _ H vs Q E W h=>?_;obtain⟨r,hs,k,rfl,J,U,x⟩:=h;obtain⟨dx,q,h1,h2⟩:=id J;refine⟨_,(qj (xn (PW.pt (wwg (wu Wp (pv 1) qy (wg _)) (qxu (wu wj8 (pv 1) (zc (pv 0) T.cl zab (W.mono ⋯) qu) (wg _))))) (qp (v9 rfl T.zbb vw rfl T.zgc (w8 vg qk))) xw)
   (qp (wn (z7 (yq (xh zw (qyb (pv 0) rfl) (pv 1) (λ_ _=>rfl)) (yq (xh zw (qyb (pv 0) rfl) (wx xu (pv 1) qy) (λ_ _=>rfl)) qk)))))),?_⟩
 refine exI rfl (wc rfl rfl (exI rfl ?_));refine jq (λD=>?_) (λD=>?_)
 .refine Q6 ?_;exact⟨sz1,x (.inl D)⟩
 .refine exI rfl (exI rfl ⟨r,dx,exI rfl ⟨h1,w5 (by decide +kernel),r,hs,rfl,J,wc rfl rfl (exI rfl ?_)⟩⟩);refine jq (λz=>?_) (λz=>?_)
  .exact⟨sz1,x (.inr z)⟩
  .refine exI rfl ⟨r,qx,dx,_,_,rfl,h1,T.cl,T.na,yj,exI rfl (exX rfl rfl (SqL.of h2) (at_h ⋯ ⋯) (exI rfl ⟨r,qx,dx,_,_,rfl,h1,T.cl,T.na,yj,exI rfl (wc rfl rfl (exX rfl rfl (SqL.of h2) (at_h ⋯ ⋯) ⟨sz2,λp np=>?_⟩))⟩))⟩;exact U ⋯ ⋯ p np
def xr (hs:List Int)(t b:Int):Prop:=0<=t/\t<=((hs.length:Int)-1)*b
def jm (K:Aa)(C CB CO:Aj):Sp:=λvs H Q E=>∃(r p:Aj) (hs:List Int) (t b:Int),vs=[.ref r,.ref p]/\RoadAt C H r hs/\wb hs/\SqT K H p [.int t,.int b] /\
 (1<=b->Sm 8000 b/\(xr hs t b->∀q H',Same H H'->H' q=some (.tup (ptV (wy t b)))->Q (.ref q) H')/\(¬ xr hs t b->∀H',Same H H'->E (.ref CO) none H'))/\(b<1->E (.ref CB) none H)
include T in
theorem wx3 (F:Fun K "on_road" "Road.on_road" zca f fd)(zab:MCal P w K mg base qx "width" 1 (kh qx))(zam:Cal P w K mg base "lowest" 2 (uc qv)) :
  FK P w K mg base 3 f fd ["self","point"] (jm K qx qv qf):=by
 have sc:=qq1;refine F.okX sc (λvs H Q E h=>by obtain⟨_,_,_,_,_,rfl,_⟩:=h;rfl) λ_ _ _ _ H vs Q E hr h=>?_;obtain⟨r,p,hs,t,b,rfl,hR,ab,hp,Z,x⟩:=h;obtain⟨dx,q,h1,h2⟩:=id hR;refine⟨_,(qj (vn (wCA zam (yq (xh k6 (pv 1) qy (λ_ _=>rfl)) (yq (xh k6 (pv 1) qy (λ_ _=>rfl)) qk))) (vy rfl (wt (wm (i:=2)) (wt (wm (i:=3)) x9))))
   (qj (xn (PW.pt (wwg (wu Wp (pv 2) qy (wg _)) (qxu (wu yr (pv 2) (wx xy (zc (pv 0) T.cl zab (hr.mono ⋯) qu) (pv 3)) (wg _))))) (qp (v9 rfl T.zba vw rfl T.zgb (w8 vg qk))) xw)
   (qp (wn (z7 (qb (pv 2) (qb (pv 3) qk))))))),?_⟩
 refine⟨_,rfl,_,_,_,_,rfl,rfl,hp,rfl,_,rfl,_,_,_,_,rfl,rfl,hp,rfl,t,b,rfl,λD=>⟨(Z D).1.mono ⋯,λW n1=>?_⟩,λz=>x z⟩;obtain⟨sb,k1,k2⟩:=Z D;have J:Same H (upd H W (.tup (ptV (wy t b)))):=Same.upd n1;have hl:=ab.2.1;refine⟨W,exI rfl ⟨SqT.new,rfl,_,_,rfl,_,_,rfl,rfl,?_⟩⟩;refine exI rfl (wc rfl rfl (exI rfl ?_));refine jq (λU=>?_) (λU=>?_)
 .refine Q6 ?_;exact⟨sz1,k2 (λz=>by have:=(Yj D).mp U;have:=z.1;lia) _ J⟩
 .refine exI rfl (exI rfl ⟨r,dx,exI rfl ⟨J _ _ h1,w5 (by decide +kernel),r,hs,rfl,hR.same J,exI rfl (wc rfl rfl ⟨IntMulOk.of_left (intBits_le_64 ⋯ ⋯),wc rfl rfl (exI rfl ?_)⟩)⟩⟩);refine jq (λL=>?_) (λL=>?_)
  .exact⟨sz1,k2 (λz=>by have:=(qyr D).mp L;have:=z.2;lia) _ J⟩
  .refine exI rfl (exI rfl ⟨sz2,λp2 n2=>?_⟩);refine k1 ⟨?_,?_⟩ p2 _ (J.trans (Same.upd n2)) qh
   .rcases bU t 0 with z|z
    .exact absurd ((Yj D).mpr z) U
    .exact z
   .rcases bU (((hs.length:Int)-1)*b) t with z|z
    .exact absurd ((qyr D).mpr z) L
    .exact z
def spAt (K:Aa)(C CB CO:Aj):Sp:=λvs H Q E=>∃(r p:Aj) (hs:List Int) (t b:Int),vs=[.ref r,.ref p]/\RoadAt C H r hs/\wb hs/\SqT K H p [.int t,.int b] /\
 (1<=b->Sm 8000 b/\(xr hs t b->∀q H',Same H H'->H' q=some (.tup (ptV (Wq hs t b)))->Q (.ref q) H')/\(¬ xr hs t b->∀H',Same H H'->E (.ref CO) none H'))/\(b<1->E (.ref CB) none H)
include T in
theorem zgn (F:Fun K "at" "Road.at" zcb f fd)(zab:MCal P w K mg base qx "width" 1 (kh qx))(zam:Cal P w K mg base "lowest" 2 (uc qv))(zal:MCal P w K mg base qx "ends" 2 (Z1 qx qm))
  (zaf:MCal P w K mg base qx "on_road" 3 (jm K qx qv qf)):FK P w K mg base 4 f fd ["self","point"] (spAt K qx qv qf):=by
 have sc:=wzp;refine F.okX sc (λvs H Q E h=>by obtain⟨_,_,_,_,_,rfl,_⟩:=h;rfl) λ_ _ _ _ H vs Q E Z h=>?_;obtain⟨r,p,hs,t,b,rfl,U,L,hp,W,x⟩:=h;obtain⟨dx,q,h1,h2⟩:=id U;refine⟨_,(qj (vn (zj (pv 0) T.cl zaf (Z.mono ⋯) qu (qb (pv 1) qk)) (vy rfl (wt (wm (i:=2)) (wt (wm (i:=3)) x9))))
   (qj (wp (i:=4) (xv (qqz rfl) rfl T.min_ d8 (x8 (wx j7 (pv 2) (pv 3)) (x8 (wx zy (zc (pv 0) T.cl zab (Z.mono ⋯) qu) qy) qk))))
   (qj (vn (zj (pv 0) T.cl zal (Z.mono ⋯) qu (qb (pv 4) qk)) (vy rfl (wt (wm (i:=5)) (wt (wm (i:=6)) x9))))
   (qj (wp (i:=7) (wx zy (pv 2) (wx xy (pv 4) (pv 3))))
   (qp (wn (wCA zam (x8 (wx xu (wx xy (pv 5) (pv 3)) (wx xy (wx zy (pv 6) (pv 5)) (pv 7))) (qb (pv 3) qk))))))))),?_⟩
 refine⟨_,rfl,r,dx,_,rfl,h1,w5 (by decide +kernel),_,rfl,r,p,hs,t,b,rfl,U,L,hp,λJ=>⟨(W J).1,λab p1 H1 D f1=>?_,λad H1 D=>(W J).2.2 ad H1 D⟩,λz=>x z⟩;obtain⟨sb,k1,k2⟩:=W J;have an:=L.1;have as:=L.2.1;have hy:=vj (t:=t) J;have ap:=uk (t:=t) J;have hx:0<=(wy t b).1:=by
  rcases bU (wy t b).1 0 with z|z
  .have:=(Yj J).mp z;have:=ab.1;lia
  .exact z
 have hk:=xx7 (hs:=hs) an hy hx;have sy:Sm 9000 (wy t b).2:=(sb.of_le ⋯).mono ⋯;refine⟨p1,exI rfl ⟨SqT.of f1,rfl,_,_,rfl,_,_,rfl,rfl,?_⟩⟩;refine exI rfl (exI rfl (wc rfl rfl ⟨⟨⋯,sy⟩,exI rfl ⟨r,dx,exI rfl ⟨D _ _ h1,w5 (by decide +kernel),r,hs,rfl,U.same D,wc rfl rfl ⟨_,_,rfl,?_⟩⟩⟩⟩));refine⟨_,rfl,r,dx,_,rfl,D _ _ h1,w5 (by decide +kernel),V.int (kF hs (wy t b).1 (wy t b).2),rfl,r,hs,kF hs (wy t b).1 (wy t b).2,rfl,U.same D,λ_ _ p2 n2=>?_,λz=>absurd z ⋯⟩;have g1:=wjc L (kF hs (wy t b).1 (wy t b).2);have g2:=wjc L (kF hs (wy t b).1 (wy t b).2+1);refine⟨p2,exI rfl ⟨SqT.new,rfl,_,_,rfl,_,_,rfl,rfl,?_⟩⟩;refine exI rfl ⟨V.int (kF hs (wy t b).1 (wy t b).2),rfl,exI rfl (wc rfl rfl ⟨IntMulOk.of_left (intBits_le_64 ⋯ ⋯),wc rfl rfl ?_⟩)⟩;refine exI rfl (exI rfl (wc rfl rfl ⟨IntMulOk.of_left (intBits_le_64 ⋯ ⋯),exI rfl (exI rfl (wc rfl rfl (exI rfl (wc rfl rfl ⟨IntMulOk.of_left (intBits_le_64 ⋯ ⋯),wc rfl rfl (exI rfl ?_)⟩))))⟩));refine⟨kj hs (wy t b).1 (wy t b).2,(wy t b).2,rfl,λ_=>⟨sy,λp3 n3=>?_⟩,λz=>absurd z ⋯⟩;have e:wy (kj hs (wy t b).1 (wy t b).2) (wy t b).2=Wq hs t b:=qv3 J;rw[e];exact k1 ab p3 _ (D.trans ((Same.upd n2).trans (Same.upd n3))) qh
def Zp (a b:Int):Int:=if b<a then b else a
def Zg (a b:Int):Int:=if b>a then b else a
variable {a:Int}
theorem xjs:Zp a b<=a/\Zp a b<=b/\(Zp a b=a\/Zp a b=b):=by unfold Zp;split <;> lia
theorem xkf:a<=Zg a b/\b<=Zg a b/\(Zg a b=a\/Zg a b=b):=by unfold Zg;split <;> lia
def loH (hs:List Int)(k:Int):Int:=Zp (hAt hs k) (hAt hs (k+1))
def hiH (hs:List Int)(k:Int):Int:=Zg (hAt hs k) (hAt hs (k+1))
def qwz (C CR:Aj):Sp:=λvs H Q E=>∃(r:Aj) (hs:List Int) (k:Int),vs=[.ref r,.int k]/\RoadAt C H r hs/\(0<=k->k<(hs.length:Int)-1->∀H',Same H H'->Q (.int (hAt hs (k+1)-hAt hs k)) H') /\
 (k<0\/(hs.length:Int)-1<=k->E (.ref CR) none H)
include T in
theorem xxv (F:Fun K "slope" "Road.slope" zb8 f fd)(zal:MCal P w K mg base qx "ends" 2 (Z1 qx qm)):FK P w K mg base 3 f fd ["self","stretch"] (qwz qx qm):=by
 have J:=qz1;refine F.okX J (λvs H Q E h=>by obtain⟨_,_,_,rfl,_⟩:=h;rfl) λ_ _ _ _ H vs Q E U h=>?_;obtain⟨r,hs,k,rfl,D,L,x⟩:=h;obtain⟨dx,q,h1,h2⟩:=id D;refine⟨_,(qj (vn (zj (pv 0) T.cl zal (U.mono ⋯) qu (qb (pv 1) qk)) (vy rfl (wt (wm (i:=2)) (wt (wm (i:=3)) x9))))
   (qp (wn (wx zy (pv 3) (pv 2))))),?_⟩
 refine⟨_,rfl,r,dx,_,rfl,h1,w5 (by decide +kernel),V.int k,rfl,r,hs,k,rfl,D,λa b p n=>?_,λz=>x z⟩;refine⟨p,exI rfl ⟨SqT.new,rfl,_,_,rfl,_,_,rfl,rfl,?_⟩⟩;exact exI rfl (exI rfl (wc rfl rfl (L a b _ (Same.upd n))))
def qk6 (C CR:Aj):Sp:=λvs H Q E=>∃(r:Aj) (hs:List Int) (k:Int),vs=[.ref r,.int k]/\RoadAt C H r hs/\(0<=k->k<(hs.length:Int)-1->∀p H',Same H H'->H' p=some (.tup [.int (loH hs k),.int (hiH hs k)])->Q (.ref p) H') /\
 (k<0\/(hs.length:Int)-1<=k->E (.ref CR) none H)
include T in
theorem xx0 (F:Fun K "reach" "Road.reach" zb9 f fd)(zal:MCal P w K mg base qx "ends" 2 (Z1 qx qm)):FK P w K mg base 3 f fd ["self","stretch"] (qk6 qx qm):=by
 have J:=qvp;refine F.okX J (λvs H Q E h=>by obtain⟨_,_,_,rfl,_⟩:=h;rfl) λ_ _ _ _ H vs Q E W h=>?_;obtain⟨r,hs,k,rfl,D,U,x⟩:=h;obtain⟨dx,q,h1,h2⟩:=id D;refine⟨_,(qj (vn (zj (pv 0) T.cl zal (W.mono ⋯) qu (qb (pv 1) qk)) (vy rfl (wt (wm (i:=2)) (wt (wm (i:=3)) x9))))
   (qp (wn (z7 (vf (xv (qqz rfl) rfl T.min_ d8 (qb (pv 2) (qb (pv 3) qk))) (vf (xv (qku rfl) rfl T.max_ d9 (qb (pv 2) (qb (pv 3) qk))) qk)))))),?_⟩
 refine⟨_,rfl,r,dx,_,rfl,h1,w5 (by decide +kernel),V.int k,rfl,r,hs,k,rfl,D,λa b p n=>?_,λz=>x z⟩;refine⟨p,exI rfl ⟨SqT.new,rfl,_,_,rfl,_,_,rfl,rfl,?_⟩⟩;refine exI rfl (exI rfl ⟨_,_,rfl,exI rfl (exI rfl ⟨_,_,rfl,sz2,λp2 L=>?_⟩)⟩);exact U a b p2 _ ((Same.upd n).trans (Same.upd L)) qh
theorem lohi (ok:wb hs)(k:Int):0<=loH hs k/\loH hs k<=hiH hs k/\hiH hs k<=(hs.length:Int)-1:=by
 have g:∀j,0<=hAt hs j/\hAt hs j<=(hs.length:Int)-1:=λj=>by
  unfold hAt;rw[ae];have l:=ok.1;cases e:hs[j.toNat]? with
  |none=>exact⟨⋯,by show(0:Int)<=_;lia⟩
  |some v=>exact ok.2.2 v (aL e)
 have a:=g k;have b:=g (k+1);have c:=xjs (a:=hAt hs k) (b:=hAt hs (k+1));have d:=xkf (a:=hAt hs k) (b:=hAt hs (k+1));unfold loH hiH;lia
def Ym (hs:List Int)(k:Int):List Int:=(List.range (hiH hs k-loH hs k).toNat).map λj:Nat=>loH hs k+j
theorem xzf (hs:List Int)(k:Int):((List.range (hiH hs k-loH hs k).toNat).map λj:Nat=>V.int (loH hs k+j))=(Ym hs k).map V.int:=by unfold Ym;rw[aU];rfl
def Jp (C CR:Aj):Sp:=λvs H Q E=>∃(r:Aj) (hs:List Int) (k:Int),vs=[.ref r,.int k]/\RoadAt C H r hs/\wb hs/\(0<=k->k<(hs.length:Int)-1->∀p H',H p=none->Same H H'->H' p=some (.lst ((Ym hs k).map V.int))->Q (.ref p) H') /\
 (k<0\/(hs.length:Int)-1<=k->E (.ref CR) none H)
include T in
theorem wv2 (F:Fun K "covered" "covered" zbu f fd)(zgo:MCal P w K mg base qx "reach" 3 (qk6 qx qm)):FK P w K mg base 4 f fd ["road","stretch"] (Jp qx qm):=by
 have W:=wvm;refine F.okX W (λvs H Q E h=>by obtain⟨_,_,_,rfl,_⟩:=h;rfl) λ_ _ _ _ H vs Q E hr h=>?_;obtain⟨r,hs,k,rfl,U,L,Z,x⟩:=h;obtain⟨dx,q,h1,h2⟩:=id U;refine⟨_,(qj (vn (zj (pv 0) T.cl zgo (hr.mono ⋯) qu (qb (pv 1) qk)) (vy rfl (wt (wm (i:=2)) (wt (wm (i:=3)) x9))))
   (qp (wn (qz5 rfl rfl T.list_ rfl T.range_ (qb (pv 2) (qb (pv 3) qk)))))),?_⟩
 refine⟨_,rfl,r,dx,_,rfl,h1,w5 (by decide +kernel),V.int k,rfl,r,hs,k,rfl,U,λa b p H1 J f1=>?_,λz=>x z⟩;have hl:=lohi L k;have ol:=L.2.1;refine⟨p,exI rfl ⟨SqT.of f1,rfl,_,_,rfl,_,_,rfl,rfl,?_⟩⟩;refine⟨_,rfl,_,rfl,_,_,rfl,⟨⋯,⋯,⋯,⋯⟩,⋯,λp2 D=>?_⟩;refine Z a b p2 _ ?_ (J.trans (Same.upd D)) (by rw[qh,xzf]);cases e:H p2 with
 |none=>rfl
 |some o=>rw[J _ _ e]at D;cases D
theorem qw5 (ok:wb hs)(k:Int):0<=hAt hs k/\hAt hs k<=(hs.length:Int)-1:=by
 unfold hAt;rw[ae];have:=ok.1;cases e:hs[k.toNat]? with
 |none=>exact⟨⋯,by show(0:Int)<=_;lia⟩
 |some v=>exact ok.2.2 v (aL e)
theorem qy7 {t:Int}(hok:wb hs)(hb:1<=b)(hon:xr hs t b):xr hs (kj hs t b) b:=by
 have F:=hok.1;have J:=xx7 (hs:=hs) F hb hon.1;have Z:=qw5 hok (kF hs t b);have W:=qw5 hok (kF hs t b+1);have D:0<=t-kF hs t b*b/\t-kF hs t b*b<=b:=by
  have h1:t/b*b<=t:=iX t ⋯;have h2:=Int.lt_ediv_add_one_mul_self t (show 0<b by lia);unfold kF;split
  .next z =>
   have U:=aD (show(hs.length:Int)-1-1<=t/b by lia) (show 0<=b by lia);have L:=hon.2;constructor
   .lia
   .have:((hs.length:Int)-1)*b=((hs.length:Int)-1-1)*b+b:=by grind
    lia
  .have:(t/b+1)*b=t/b*b+b:=by grind
   constructor <;> lia
 have r:=xzb (u:=hAt hs (kF hs t b)) (v:=hAt hs (kF hs t b+1)) D.1 D.2;refine⟨dS ?_ r.1,dS r.2 ?_⟩
 .refine cb ?_ ⋯;split <;> lia
 .refine aD ?_ ⋯;split <;> lia
theorem low_on {t:Int}(hb:1<=b)(hon:xr hs t b):xr hs (wy t b).1 (wy t b).2:=by
 constructor
 .rcases bU (wy t b).1 0 with z|z
  .have:=(Yj hb).mp z;have:=hon.1;lia
  .exact z
 .rcases bU (((hs.length:Int)-1)*(wy t b).2) (wy t b).1 with z|z
  .have:=(qyr hb).mp z;have:=hon.2;lia
  .exact z
def itP (hs:List Int)(p:Int×Int):Nat->Int×Int
 |0=>p
 |n+1=>Wq hs (itP hs p n).1 (itP hs p n).2
def Pt (hs:List Int)(c:Int)(p:Int×Int):Prop:=1<=p.2/\p.2<=c/\gOf p.1 p.2=1/\xr hs p.1 p.2
theorem qxb {t:Int}(hb:1<=b)(hon:xr hs t b):Pt hs b (wy t b):=⟨vj hb,uk hb,wx4 hb,low_on hb hon⟩
variable {c:Int}
theorem xjj (hok:wb hs)(h:Pt hs c p):Pt hs c (Wq hs p.1 p.2):=by have a:=qxb h.1 (qy7 hok h.1 h.2.2.2);exact⟨a.1,dS a.2.1 h.2.1,a.2.2.1,a.2.2.2⟩
theorem xw9 (hok:wb hs)(h:Pt hs c p):∀n,Pt hs c (itP hs p n)
 |0=>h
 |n+1=>xjj hok (xw9 hok h n)
def trT (hs:List Int)(t b:Int):Nat->Int
 |0=>t
 |n+1=>kj hs (trT hs t b n) b
theorem xx9 {t:Int}(hok:wb hs)(hb:1<=b)(hon:xr hs t b):∀n,xr hs (trT hs t b n) b
 |0=>hon
 |n+1=>qy7 hok hb (xx9 hok hb hon n)
theorem qyx {t:Int}(hb:1<=b):∀n,wy (trT hs t b n) b=itP hs (wy t b) n
 |0=>rfl
 |n+1=>by show Wq hs (trT hs t b n) b=Wq hs (itP hs (wy t b) n).1 (itP hs (wy t b) n).2;rw[<-qyx hb n,qv3 hb]
def Wk (hs:List Int)(p:Int×Int)(n:Nat):List (Int×Int):=(List.range n).map (itP hs p)
theorem qqy (hs:List Int)(p:Int×Int)(n:Nat):Wk hs p (n+1)=Wk hs p n++[itP hs p n]:=by unfold Wk;rw[aT,aA];rfl
theorem jr (hs:List Int)(p:Int×Int)(n:Nat):(Wk hs p n).length=n:=by unfold Wk;rw[af,au]
def PtR (H:Hp)(v:V)(p:Int×Int):Prop:=∃a,v=.ref a/\H a=some (.tup [.int p.1,.int p.2])
variable {v:V}
theorem PtR.same (h:PtR H v p)(s:Same H H'):PtR H' v p:=by obtain⟨a,e,f⟩:=h;exact⟨a,e,s _ _ f⟩
theorem PtR.upd {xs:List V}(h:PtR H v p)(hq:H q=some (.lst xs)):PtR (L2.upd H q o) v p:=by obtain⟨a,e,f⟩:=h;refine⟨a,e,?_⟩;rw[wv (λz=>by rw[z,hq]at f;cases f)];exact f
variable {α β:Type}
theorem ww0 {F G:α->β->Prop}(h:∀a b,F a b->G a b):∀ {l:List α} {m:List β},Paired F l m->Paired G l m
 |_,_,.nil=>.nil
 |_,_,.cons a t=>.cons (h _ _ a) (ww0 h t)
theorem Yx {F:α->β->Prop}:∀ {l:List α} {m:List β} {i:Nat} {a:α},Paired F l m->l[i]?=some a->∃b,m[i]?=some b/\F a b
 |_,_,0,_,.cons a _,e=>by cases e;exact exI rfl a
 |_,_,i+1,_,.cons _ t,e=>Yx (i:=i) t e
theorem yd {F:α->β->Prop}:∀ {l:List α} {m:List β} {i:Nat} {b:β},Paired F l m->m[i]?=some b->∃a,l[i]?=some a/\F a b
 |_,_,0,_,.cons a _,e=>by cases e;exact exI rfl a
 |_,_,i+1,_,.cons _ t,e=>yd (i:=i) t e
def wj1 (H:Hp)(q:Aj)(ps:List (Int×Int)):Prop:=∃vs,H q=some (.lst vs)/\Paired (PtR H) vs ps
theorem Z3 (k:Nat)(hk:0<k)(g:Nat->Nat->α):∀w:Nat,((List.range w).map λi=>(List.range k).map (g i)).flatten=(List.range (w*k)).map λt=>g (t/k) (t%k)
 |0=>by simp
 |w+1=>by rw[aT,aA,eP,Z3 k hk g w,Nat.succ_mul,List.range_add,aA,aU];congr 1;show(List.map (g w) (List.range k)++[])=_;rw[bG];refine bP λj hj=>?_;have hj':=am.mp hj;show g w j=g ((w*k+j)/k) ((w*k+j)%k);rw[iL w k,Nat.mul_add_div hk,Nat.div_eq_of_lt hj',Nat.mul_add_mod,di hj',Nat.add_zero]
def wxu (hs:List Int)(m:Int):List Int:=(List.range ((hs.length-1)*m.toNat+1)).map λt:Nat=>kj hs t m
theorem qzr (hs:List Int)(m:Int):(wxu hs m).length=(hs.length-1)*m.toNat+1:=by unfold wxu;rw[af,au]
variable {m:Int}
theorem fin_at (h2:2<=hs.length)(hm:1<=m){t:Nat}(ht:t<(hs.length-1)*m.toNat) :
  kj hs t m=m*hAt hs ((0:Int)+(t/m.toNat:Nat))+(hAt hs ((0:Int)+(t/m.toNat:Nat)+1)-hAt hs ((0:Int)+(t/m.toNat:Nat)))*((0:Int)+(t%m.toNat:Nat)):=by
 have J:0<m.toNat:=by lia
 have d:=iS t m.toNat;have F:=dN t J;have U:t/m.toNat<hs.length-1:=Nat.div_lt_of_lt_mul (by rw[iL];exact ht);have L:((m.toNat:Nat):Int)=m:=by lia
 have z:(t:Int)=m*(t/m.toNat:Nat)+(t%m.toNat:Nat):=by rw[<-L];exact_mod_cast d.symm
 have D:((t%m.toNat:Nat):Int)<m:=by lia
 generalize t/m.toNat=q at d U z ⊢;generalize t%m.toNat=r at d F z D ⊢;rw[Ww (k:=(q:Int)) ⋯ ⋯ hm (by rw[z];grind) (by rw[z];grind),iN,iN];rw[show(t:Int)-(q:Int)*m=r by rw[z];grind];grind
theorem xjp (h2:2<=hs.length)(hm:1<=m):kj hs (((hs.length-1)*m.toNat:Nat):Int) m=m*hAt hs ((hs.length:Int)-1):=by
 have z:((m.toNat:Nat):Int)=m:=by lia
 have e:(((hs.length-1)*m.toNat:Nat):Int)=((hs.length:Int)-1)*m:=by push_cast;rw[show((hs.length-1:Nat):Int)=(hs.length:Int)-1 by lia,z]
 rw[e,Ww (k:=(hs.length:Int)-1-1) ⋯ ⋯ hm (by grind) (by grind),show(hs.length:Int)-1-1+1=(hs.length:Int)-1 by lia];generalize hAt hs ((hs.length:Int)-1)=v;generalize hAt hs ((hs.length:Int)-1-1)=u;grind
theorem xyc (h2:2<=hs.length)(hm:1<=m) :
  ((List.range (hs.length-1)).map λi:Nat=>(List.range m.toNat).map λj:Nat=>V.int (m*hAt hs ((0:Int)+i)+(hAt hs ((0:Int)+i+1)-hAt hs ((0:Int)+i))*((0:Int)+j))).flatten++[V.int (m*hAt hs ((hs.length:Int)-1))]=(wxu hs m).map V.int:=by
 rw[Z3 m.toNat ⋯ (λi j:Nat=>V.int (m*hAt hs ((0:Int)+i)+(hAt hs ((0:Int)+i+1)-hAt hs ((0:Int)+i))*((0:Int)+j)))];unfold wxu;rw[aT,aA,aA,aU];congr 1
 .refine bP λt D=>?_;exact bT V.int (fin_at h2 hm (am.mp D)).symm
 .exact bT (λz=>[V.int z]) (xjp h2 hm).symm
theorem fin_ok (ok:wb hs)(hm:1<=m)(hs24:((hs.length:Int)-1)*m<=24):wb (wxu hs m):=by
 have h1:=ok.1;have J:((m.toNat:Nat):Int)=m:=by lia
 have e:(((hs.length-1)*m.toNat:Nat):Int)=((hs.length:Int)-1)*m:=by push_cast;rw[show((hs.length-1:Nat):Int)=(hs.length:Int)-1 by lia,J]
 have L:1<=(hs.length-1)*m.toNat:=gO (show 1<=hs.length-1 by lia) (show 1<=m.toNat by lia);refine⟨by rw[qzr];lia,by rw[qzr];lia,λx z=>?_⟩;unfold wxu at z;obtain⟨t,F,rfl⟩:=aH.mp z;have U:=am.mp F;have D:xr hs (t:Int) m:=⟨⋯,by rw[<-e];lia⟩;have l:=qy7 ok hm D;rw[qzr];refine⟨l.1,?_⟩;have:=l.2;lia
theorem xxb (h:2<=hs.length):atI (hs.map V.int) (-1)=some (V.int (hAt hs ((hs.length:Int)-1))):=by
 have D:hs≠[]:=by intro z;rw[z]at h;simp at h
 have e:=cB D;have g:hAt hs ((hs.length:Int)-1)=hs.getLast D:=by unfold hAt;rw[ae,show((hs.length:Int)-1).toNat=hs.length-1 by lia,<-dk,dG D];rfl
 rw[g];have:hs.map V.int=hs.dropLast.map V.int++[V.int (hs.getLast D)]:=by
  conv=>lhs;rw[<-e]
  rw[aA];rfl
 rw[this];exact u9 _ _
def qwj (C CB:Aj):Sp:=λvs H Q E=>∃(r:Aj) (hs:List Int) (m:Int),vs=[.ref r,.int m]/\RoadAt C H r hs/\wb hs/\1<=m/\m<=1000/\(((hs.length:Int)-1)*m<=24->∀x H',H x=none->Same H H'->RoadAt C H' x (wxu hs m)->Q (.ref x) H')/\(24<((hs.length:Int)-1)*m->∀H',Same H H'->E (.ref CB) none H')
include T in
theorem wxb (F:Fun K "finer" "finer" za7 f fd)(zaa:CalD P w K mg base "check_count" 1 (zd qw))(zak:CCal P w K mg base "Road" qx 2 (Zc K qg qx))(zab:MCal P w K mg base qx "width" 1 (kh qx))(zbc:MCal P w K mg base qx "corners" 1 (u6 qx))
  (zal:MCal P w K mg base qx "ends" 2 (Z1 qx qm)) (zdc:MCal P w K mg base qx "slope" 3 (qwz qx qm)):FK P w K mg base 4 f fd ["road","many"] (qwj qx qg):=by
 have sc:=wxj;refine F.okX sc (λvs H Q E h=>by obtain⟨_,_,_,rfl,_⟩:=h;rfl) λ_ _ _ s H vs Q E D h=>?_;obtain⟨r,hs,m,rfl,J,L,W,m2,k,kx⟩:=h;obtain⟨dx,q,h1,h2⟩:=id J;obtain⟨tw,ap⟩:=T.zag;have ol:=L.2.1;have an:=L.1;have a3:(1000000:Nat)<sizeLine:=by decide
 refine⟨_,(qj (xz (Wh zaa (D.mono ⋯) rfl qu (qb (pv 1) (w8 qy qk))))
   (qj (xn (wu yr (wx xy (zc (pv 0) T.cl zab (D.mono ⋯) qu) (pv 1)) (zf (v:=V.int 24) rfl ap ⟨_,rfl⟩) (wg _)) (qp (v9 rfl T.zav vw rfl T.zfr (w8 vg qk))) xw)
   (qj (wqh (i:=2) (M:=[0,1]) sc.nd rfl (by walk_at "loc") rfl rfl (by walk_at "cap") (by walk_at "has") (by walk_at "cix") rfl (by decide +kernel) rfl rfl (show List.Nodup (["stretch","beyond","road","many"]:List Str) by decide +kernel) (zq rfl T.range_ (vf (zc (pv 0) T.cl zab (D.mono ⋯) qu) qk)) (λ_ _ _ _ _=>(zq rfl T.range_ (qb (pv 3) qk))) (λ_ _ _ _ _=>(wx xu (wx xy (pv 3) (xh (W1 (K:=K) rfl) (zj (pv 2) T.cl zal (D.mono ⋯) j8 (qb (pv 0) qk)) qy (λ_ _=>rfl))) (wx xy (zj (pv 2) T.cl zdc (D.mono ⋯) j8 (qb (pv 0) qk)) (pv 1)))))
   (qp (wn (ud zak (D.mono ⋯) rfl qu (x8 (wx Wr (pv 2) (k7 (x8 (wx xy (pv 1) (xh zw (zc (pv 0) T.cl zbc (D.mono ⋯) qu) (Wy ym qy) (λ_ _=>rfl))) qk))) qk))))))),?_⟩
 refine⟨_,rfl,m,1,.non,none,rfl,.inl ⟨rfl,rfl⟩,λ_=>?_,λw1=>absurd ⟨W,λ_ e=>nomatch e⟩ w1⟩;refine exI rfl ⟨r,dx,exI rfl ⟨h1,w5 (by decide +kernel),r,hs,rfl,J,exI rfl (wc rfl rfl ⟨(by walk_at "mul"),wc rfl rfl (exI rfl (jq (λz=>?_) (λz=>?_)))⟩)⟩⟩
 .exact⟨sz1,kx z H (Same.refl _)⟩
 have ad:((hs.length:Int)-1)*m<=24:=by lia
 have a2:m<=24:=by have:=aD (show(1:Int)<=(hs.length:Int)-1 by lia) (show(0:Int)<=m by lia);lia
 have a0:(hs.length-1)*m.toNat<=1000000:=bo (gO (show hs.length-1<=24 by lia) (show m.toNat<=24 by lia)) ⋯;refine⟨_,rfl,r,dx,_,rfl,h1,w5 (by decide +kernel),r,hs,rfl,J,(hs.length:Int)-1,rfl,⋯,⋯,?_⟩;have Z:=qw5 L;refine wxw (n:=((hs.length:Int)-1).toNat) (k:=m.toNat) (lo:=0) (lo2:=0) (λi j=>V.int (m*hAt hs ((0:Int)+i)+(hAt hs ((0:Int)+i+1)-hAt hs ((0:Int)+i))*((0:Int)+j))) (by rw[show((hs.length:Int)-1).toNat=hs.length-1 by lia];exact a0) (λi H' R hi s' ab=>?_) (λi j H' R hi hj s' ab=>?_) λp H' np s' f'=>?_
 .exact⟨_,rfl,m,rfl,⋯,⋯,ab H' (Same.refl _)⟩
 .have b0:=Z ((0:Int)+i);have b1:=Z ((0:Int)+i+1);refine⟨_,rfl,_,rfl,r,dx,_,rfl,s' _ _ h1,w5 (by decide +kernel),_,rfl,r,hs,_,rfl,J.same s',λ_ _ p1 n1=>?_,λy=>absurd y ⋯⟩;have U:=Same.upd (o:=.tup [.int (hAt hs ((0:Int)+i)),.int (hAt hs ((0:Int)+i+1))]) n1;refine exX rfl rfl SqT.new rfl (wc rfl rfl ⟨(by walk_at "mul"),?_⟩);refine⟨_,rfl,r,dx,_,rfl,(s'.trans U) _ _ h1,w5 (by decide +kernel),_,rfl,r,hs,_,rfl,J.same (s'.trans U),λ_ _ H2 s2=>?_,λy=>absurd y ⋯⟩;exact exI rfl (wc rfl rfl ⟨(by walk_at "mul"),wc rfl rfl (ab H2 (U.trans s2))⟩)
 .rw[show((hs.length:Int)-1).toNat=hs.length-1 by lia]at f';refine exI rfl (exI rfl (exI rfl ⟨r,dx,exI rfl ⟨s' _ _ h1,w5 (by decide +kernel),r,hs,rfl,J.same s',λp2 n2=>?_⟩⟩));have s2:=Same.upd (o:=.lst (hs.map V.int)) n2;have bl:=Z ((hs.length:Int)-1);refine exI rfl (exX rfl rfl SqL.new (xxb an) (wc rfl rfl ⟨(by walk_at "mul"),sz1,λp3 n3=>?_⟩));have s3:=Same.upd (o:=.lst [V.int (m*hAt hs ((hs.length:Int)-1))]) n3;refine⟨p,p3,wc rfl rfl ⟨(s2.trans s3) _ _ f',qh,?_,λp4 n4=>?_⟩⟩
  .rw[Z3 m.toNat ⋯ (λi j:Nat=>V.int (m*hAt hs ((0:Int)+i)+(hAt hs ((0:Int)+i+1)-hAt hs ((0:Int)+i))*((0:Int)+j))),af,au];simp only[aB,bA];lia
  rw[xyc an W];have s4:=Same.upd (o:=.lst ((wxu hs m).map V.int)) n4;have t4:=s'.trans (s2.trans (s3.trans s4));refineλx d0 nx as a1=>qwy qh nx as (λ_ H5 s5 R=>k ad x H5 (t4.free nx) (t4.trans s5) R) λy=>absurd (fin_ok L W ad) y
theorem W4 (ok:wb hs)(k:Int):∀v∈Ym hs k,0<=v/\v<((hs.length-1:Nat):Int):=λv hv=>by have l:=lohi ok k;have:=ok.1;unfold Ym at hv;obtain⟨j,hj,rfl⟩:=aH.mp hv;have:=am.mp hj;lia
theorem wq3 (ok:wb hs)(k:Int):(Ym hs k).length<=24:=by have l:=lohi ok k;have:=ok.2.1;unfold Ym;rw[af,au];lia
def x6 (hs:List Int):Nat->List Int:=λi=>Ym hs ((0:Int)+i)
def CovAt (H:Hp)(p:Aj)(hs:List Int):Prop:=∃ys,H p=some (.lst ys)/\ys.length=hs.length-1/\∀i v,ys[i]?=some v->∃q,v=.ref q/\H q=some (.lst ((x6 hs i).map V.int))
theorem CovAt.same {p:Aj}(h:CovAt H p hs)(s:Same H H'):CovAt H' p hs:=by obtain⟨ys,e,l,r⟩:=h;exact⟨ys,s _ _ e,l,λi v z=>let ⟨q,a,b⟩:=r i v z;⟨q,a,s _ _ b⟩⟩
theorem qxc (g:Nat->List V):Stay λi v H=>∃q,v=.ref q/\H q=some (.lst (g i)):=λi v H H' p h nv st=>by obtain⟨q,rfl,e⟩:=h;exact⟨q,rfl,st q _ (λz=>nv (by rw[z])) e⟩
def Qz (C:Aj):Sp:=λvs H Q _=>∃(r:Aj) (hs:List Int),vs=[.ref r]/\RoadAt C H r hs/\wb hs/\∀p H',H p=none->Same H H'->CovAt H' p hs->Q (.ref p) H'
include T in
theorem qyp (F:Fun K "covers_of" "covers_of" zbv f fd)(zab:MCal P w K mg base qx "width" 1 (kh qx))(zgp:Cal P w K mg base "covered" 4 (Jp qx qm)):FK P w K mg base 5 f fd ["road"] (Qz qx):=by have U:=qj5;refine F.okX U (λvs H Q E h=>by obtain⟨_,_,rfl,_⟩:=h;rfl) λ_ _ _ s H vs Q E L h=>?_;obtain⟨r,hs,rfl,J,D,k⟩:=h;obtain⟨dx,q,h1,h2⟩:=id J;have o1:=D.1;have o2:=D.2.1;refine⟨_,(qp (wn (kg (M:=[0]) rfl rfl (by walk_at "cap") (by walk_at "has") (by walk_at "cix") rfl (by decide +kernel) rfl (show List.Nodup (["stretch","road"]:List Str) by decide +kernel) (zq rfl T.range_ (vf (zc (pv 0) T.cl zab (L.mono ⋯) qu) qk)) (λ_ _ _ _ _=>(qt zgp (L.mono ⋯) rfl j8 (qb (pv 1) (qb (pv 0) qk))))))),?_⟩;refine exI rfl ⟨r,dx,exI rfl ⟨h1,w5 (by decide +kernel),r,hs,rfl,J,exI rfl ⟨⋯,⋯,Wj (λi v H=>∃q,v=.ref q/\H q=some (.lst ((x6 hs i).map V.int))) (qxc _) ⋯ (λi H' R hi s' Z=>?_) λp ys H' np s' f l hG=>k p H' np s' ⟨ys,f,⋯,λi v e=>(hG i v e).1⟩⟩⟩⟩;refine⟨_,rfl,_,rfl,r,hs,_,rfl,J.same s',D,λ_ _ p2 H2 W s2 f2=>Z (.ref p2) H2 s2 ⟨p2,rfl,f2⟩ λb e=>?_,λz=>absurd z ⋯⟩;cases e;exact W
def qx2:Sp:=λvs H Q _=>∃w:Int,vs=[.int w]/\0<=w/\w<=24/\∀(cov:Nat->List Int) p H',H p=none->Same H H'->MatAt H' p w.toNat (zn cov 0)->Q (.ref p) H'
include T in
theorem wvd (F:Fun K "ways_of_no_step" "ways_of_no_step" zbw f fd):FK P w K mg base 1 f fd ["width"] qx2:=by
 have J:=Zm;refine F.okX J (λvs H Q E h=>by obtain⟨_,rfl,_⟩:=h;rfl) λ_ _ _ s H vs Q E hr h=>?_;obtain⟨w,rfl,Z,W,k⟩:=h;refine⟨_,(qp (wn (qzm (M:=[0]) rfl rfl (by walk_at "cap") (by walk_at "hasK") (by walk_at "cix") rfl (by decide +kernel) (by intro _;rfl) (by intro _;rfl) rfl (show List.Nodup (["begin","width"]:List Str) by decide +kernel) (zq rfl T.range_ (qb (pv 0) qk)) (λ_ _ _ _ _=>(kg (M:=[0]) rfl rfl (by walk_at "cap") (by walk_at "has") (by walk_at "cix") rfl (by decide +kernel) rfl (show List.Nodup (["end","begin"]:List Str) by decide +kernel) (zq rfl T.range_ (qb (pv 1) qk)) (λ_ _ _ _ _=>(y0 (wu zg (pv 0) (pv 1) (wg _)) qy qy))))))),?_⟩;refine exI rfl ⟨w,rfl,⋯,⋯,Wj (λi v H=>∃q,v=.ref q/\H q=some (.lst ((j6 w.toNat (zn (λ_=>[]) 0 i)).map V.int))) (qxc _) ⋯ (λi H' R hi s' L=>?_) λp ys H' np s' f l U=>k (λ_=>[]) p H' np s' ⟨ys,f,l,λi v e=>(U i v e).1⟩⟩;refine exI rfl ⟨w,rfl,⋯,⋯,vt (λj=>V.int (zn (λ_=>[]) 0 i j)) ⋯ (λj H2 R2 hj s2 z=>?_) λq D=>L (.ref q) _ (Same.upd D) ⟨q,rfl,by rw[qh,wqk]⟩ λb e=>by cases e;exact D⟩;refine exI rfl (exI rfl ⟨rfl,_,rfl,jx (λe=>?_) (λe=>?_)⟩)
 .have:zn (λ_=>[]) 0 i j=1:=aw ⋯;rw[this]at z;exact z
 .have:zn (λ_=>[]) 0 i j=0:=ao ⋯;rw[this]at z;exact z
def Y9 (hs:List Int):Sp:=λvs H Q _=>∃(c t:Aj) (f:Nat->Nat->Int),vs=[.ref c,.ref t]/\CovAt H c hs/\MatAt H t (hs.length-1) f/\∀p H',H p=none->Same H H'->MatAt H' p (hs.length-1) (λi j=>((x6 hs i).map λv=>f v.toNat j).sum)->Q (.ref p) H'
def picks (f:Nat->Nat->Int)(j:Nat):V->V
 |.int z=>.int (f z.toNat j)
 |_=>.non
variable {g:Nat->Int}
theorem at_row {n j:Nat}(h:j<n):atI ((j6 n g).map V.int) ((0:Int)+j)=some (V.int (g j)):=by rw[iN];refine zt ?_;rw[av,qzk h];rfl
theorem qu8 (ok:wb hs)(F:Fun K "one_step_more" "one_step_more" zbx f fd)(T:Txt K mg qg qv qf qw qd qm qc qx):FK P w K mg base 1 f fd ["covers","table"] (Y9 hs):=by
 have sc:=Ju;refine F.okX sc (λvs H Q E h=>by obtain⟨_,_,_,rfl,_⟩:=h;rfl) λ_ _ _ s H vs Q E hr h=>?_;obtain⟨c,t,g,rfl,⟨cs,fc,lc,gc⟩,Z,k⟩:=h;obtain⟨L,J,lt,gt⟩:=id Z;have o1:=ok.1;have o2:=ok.2.1;refine⟨_,(qp (wn (qzm (M:=[1]) rfl rfl (by walk_at "cap") (by walk_at "hasK") (by walk_at "cix") rfl (by decide +kernel) (by intro _;rfl) (by intro _;rfl) rfl (show List.Nodup (["vias","table"]:List Str) by decide +kernel) (vc (pv 0)) (λ_ _ _ _ _=>(qzm (M:=[0,1]) rfl rfl (by walk_at "cap") (by walk_at "hasK") (by walk_at "cix") rfl (by decide +kernel) (by intro _;rfl) (by intro _;rfl) rfl (show List.Nodup (["end","vias","table"]:List Str) by decide +kernel) (zq rfl T.range_ (vf (xv (Zy (K:=K) rfl) rfl T.len_ bB (qb (pv 1) qk)) qk)) (λ_ _ _ _ _=>(xv (jf (K:=K) rfl rfl) rfl T.sum_ Ws (z9 (kg (M:=[0,2]) rfl rfl (by walk_at "cap") (by walk_at "has") (by walk_at "cix") rfl (by decide +kernel) rfl (show List.Nodup (["via","end","table"]:List Str) by decide +kernel) (ww1 (K:=K) rfl (pv 1)) (λ_ _ _ _ _=>(xh (jt (K:=K) rfl) (xh (jt (K:=K) rfl) (pv 2) (pv 0) (λ_ _=>rfl)) (pv 1) (λ_ _=>rfl)))) qk)))))))),?_⟩;refine exI rfl ⟨c,rfl,⟨_,SqL.of fc⟩,Qh (K:=K) (a:=c) (xs:=cs) (λi v H=>∃q,v=.ref q/\H q=some (.lst ((j6 (hs.length-1) λj=>((x6 hs i).map λv=>g v.toNat j).sum).map V.int))) (qxc _) (SqL.of fc) ⋯ (λi x H' R hx s' as=>?_) λp ys H' np s' f l hG=>k p H' np s' ⟨ys,f,⋯,λi v e=>(hG i v e).1⟩⟩;obtain⟨W,rfl,ab⟩:=gc i x hx;refine exI rfl ⟨t,exI rfl ⟨.inl (SqL.of (s' _ _ J)),exI rfl ⟨⋯,⋯,?_⟩⟩⟩;rw[show((L.length:Int)).toNat=hs.length-1 by lia];refine ww6 (λj=>V.int (((x6 hs i).map λv=>g v.toNat j).sum)) (λ_ _ e=>nomatch e) ⋯ (λj H2 R2 hj s2 ap=>?_) λq H2 nq s2 fq=>as (.ref q) H2 s2 ⟨q,rfl,by rw[fq,wqk]⟩ λb e=>by cases e;exact nq
 have D:=s'.trans s2;refine exI rfl ⟨W,rfl,⟨_,SqL.of (D _ _ ab)⟩,qky (K:=K) (a:=W) (xs:=(x6 hs i).map V.int) (picks g j) (SqL.of (D _ _ ab)) (by rw[af];have:=wq3 ok ((0:Int)+i);unfold x6;lia) (λx3 H3 R3 ad s3 an=>?_) λpl nl=>?_⟩
 .obtain⟨z,hz,rfl⟩:=aH.mp ad;have zb:=W4 ok _ z hz;obtain⟨qz,ez,fz⟩:=Z.row J (i:=z.toNat) ⋯;have U:=D.trans s3;have a0:atI L z=some (.ref qz):=by have:=zt ez;rwa [bO zb.1]at this
  exact exI rfl (exI rfl (exX rfl rfl (SqL.of (U _ _ J)) a0 (exI rfl (exX rfl rfl (SqL.of (U _ _ fz)) (at_row hj) an))))
 .have e:((x6 hs i).map V.int).map (picks g j)=((x6 hs i).map λv=>g v.toNat j).map V.int:=by rw[aU,aU];rfl
  rw[e];exact⟨pl,exI rfl ⟨SqL.new,ap _ (Same.upd nl)⟩⟩
variable {ys:List V}
theorem MatAt.upd {p:Aj}{n:Nat}{f:Nat->Nat->Int}{a:Aj}(h:MatAt H p n f)(hn:1<=n)(hq:H q=some (.lst ys))(hp:p≠q)(h0:ys[0]?=some (.ref a)):MatAt (L2.upd H q o) p n f:=by
 obtain⟨zs,e,l,r⟩:=h;refine⟨zs,by rw[wv hp];exact e,l,λi v z=>?_⟩;obtain⟨D,L,b⟩:=r i v z;refine⟨D,L,?_⟩;rw[wv (λJ=>?_)]
 .exact b
 .rw[J,hq]at b;have F:ys=(j6 n (f i)).map V.int:=by
   injection b with b
   injection b
  rw[F,av,qzk ⋯]at h0;cases h0
def Y0 (C:Aj):Sp:=λvs H Q _=>∃(r:Aj) (hs:List Int) (m:Int),vs=[.ref r,.int m]/\RoadAt C H r hs/\wb hs/\0<=m/\m<=60 /\
 ∀p ys H',Same H H'->H' p=some (.lst ys)->ys.length=m.toNat+1->(∀i v,ys[i]?=some v->∃q,v=.ref q/\MatAt H' q (hs.length-1) (zn (x6 hs) i))->Q (.ref p) H'
include T in
theorem wz9 (F:Fun K "ways_up_to" "ways_up_to" zby f fd)(zdd:Cal P w K mg base "covers_of" 5 (Qz qx))(zab:MCal P w K mg base qx "width" 1 (kh qx))(zgq:Cal P w K mg base "ways_of_no_step" 1 qx2)
  (zgr:∀hs,wb hs->Cal P w K mg base "one_step_more" 1 (Y9 hs)):FK P w K mg base 6 f fd ["road","many"] (Y0 qx):=by
 have sc:=qz9;refine F.okX sc (λvs H Q E h=>by obtain⟨_,_,_,rfl,_⟩:=h;rfl) λ_ _ _ _ H vs Q E hr h=>?_;obtain⟨r,hs,m,rfl,hR,W,m0,m1,k⟩:=h;obtain⟨dx,q,h1,h2⟩:=id hR;have o1:=W.1;have o2:=W.2.1;have as:=zgr hs W;refine⟨_,(qj (wp (i:=2) (wCA zdd (qb (pv 0) qk)))
   (qj (wp (i:=3) (k7 (vf (wCA zgq (vf (zc (pv 0) T.cl zab (hr.mono ⋯) qu) qk)) qk)))
   (qj (uf bp (wu wkn (xv xg rfl T.len_ bB (qb (pv 3) qk)) (pv 1) (wg _)) (qp (xz (qkm cI eT eU W5 (pv 3) (vf (wCA as (qb (pv 2) (yq (xh zw (pv 3) (Wy ym qy) (λ_ _=>rfl)) qk))) qk)))))
   (qp (wn (pv 3)))))),?_⟩
 refine exI rfl ⟨r,hs,rfl,hR,W,λp1 H1 n1 s1 C1=>?_⟩;refine exI rfl ⟨r,dx,exI rfl ⟨s1 _ _ h1,w5 (by decide +kernel),r,hs,rfl,hR.same s1,exI rfl ⟨⋯,⋯,λa3 p2 H2 n2 s2 M2=>?_⟩⟩⟩;rw[show((hs.length:Int)-1).toNat=hs.length-1 by lia]at M2;have a0:MatAt H2 p2 (hs.length-1) (zn (x6 hs) 0):=M2;obtain⟨a1,U,_,_⟩:=id M2;refine⟨sz1,λq nq=>?_⟩;have dq:p2≠q:=wj U nq;have sq:Same H2 (upd H2 q (.lst [.ref p2])):=Same.upd nq;refine uh (λσ D=>∃(i:Nat) (ys:List V),σ=[some (.ref r),some (.int m),some (.ref p1),some (.ref q)]/\(i:Int)<=m/\Same H2 D/\D q=some (.lst ys)/\ys.length=i+1/\∀j v,ys[j]?=some v->∃J,v=.ref J/\J≠q/\MatAt D J (hs.length-1) (zn (x6 hs) j))
  (λ_ D=>match D q with|some (.lst ys)=>(m+1).toNat-ys.length|_=>0) ⟨0,[.ref p2],rfl,⋯,sq,qh,rfl,λj v e=>?_⟩ ?_ λσ H Q Q' h ⟨v,e,p',ys,e1,U,v2,e3,i,j,e4,e5,kk,e6,qq⟩=>⟨v,e,p',ys,e1,U,v2,e3,i,j,e4,e5,kk,e6,h _ _ qq⟩
 .rcases j with _|j
  .cases e;exact⟨p2,rfl,dq,a0.same sq⟩
  .cases e
 .rintro σ D ⟨i,ys,rfl,hi,s3,f3,l3,g3⟩;have ab:=s1.trans (s2.trans s3);refine exI rfl ⟨_,_,rfl,.inl (SqL.of f3),exI rfl (wc rfl rfl (exI rfl ?_))⟩;rw[l3];refine jq (λq1=>?_) (λq1=>?_)
  .have ei:ys[i]?=some ys[i]:=aa ⋯;obtain⟨qi,ap,a2,Mi⟩:=g3 i _ ei;have an:atI ys (-1)=some (.ref qi):=by
    have hz:ys≠[]:=λz=>by rw[z]at l3;simp at l3
    have e1:ys=ys.dropLast++[ys.getLast hz]:=(cB hz).symm;have U:ys.getLast hz=.ref qi:=by
     rw[iH];have:ys[i]?=ys[ys.length-1]?:=by rw[l3];rfl
     rw[this,aa ⋯,ap]at ei;exact ak ei
    rw[e1,U];exact u9 _ _
   obtain⟨ad,e0,_,_⟩:=g3 0 _ (aa (show 0<ys.length by lia));have h0:ys[0]?=some (.ref ad):=by rw[aa (show 0<ys.length by lia),e0]
   refine exI rfl ⟨.inl ⟨rfl,_,SqL.of f3⟩,exI rfl (exI rfl (exI rfl (exX rfl rfl (SqL.of f3) an ⟨p1,qi,zn (x6 hs) i,rfl,C1.same (s2.trans s3),Mi,λL H4 n4 Z M4=>?_⟩)))⟩;have f4:=Z _ _ f3;have d4:L≠q:=(wj f3 n4).symm;refine⟨_,_,_,rfl,rfl,f4,Jn ⋯,⟨i+1,ys++[.ref L],rfl,⋯,Same.upd2 (s3.trans Z) nq,qh,by rw[ar,l3];rfl,λj v e=>?_⟩,?_⟩
   .rcases bj j ys.length with z|z
    .rw[aS z]at e;obtain⟨J,e',d',M'⟩:=g3 j v e;exact⟨J,e',d',MatAt.upd (M'.same Z) ⋯ f4 d' h0⟩
    .rw[aF z]at e;have hj:j=i+1:=by
      rcases bj (j-ys.length) 1 with y|y
      .lia
      .rw[aG (by simpa using y)]at e;cases e
     subst hj;rw[show i+1-ys.length=0 by lia]at e;have:V.ref L=v:=ak e;subst this;exact⟨L,rfl,d4,MatAt.upd (f:=zn (x6 hs) (i+1)) M4 ⋯ f4 d4 h0⟩
   .show(match upd H4 q (.lst (ys++[.ref L])) q with|some (.lst ys)=>(m+1).toNat-ys.length|_=>0)<(match D q with|some (.lst ys)=>(m+1).toNat-ys.length|_=>0);rw[qh,f3];show(m+1).toNat-(ys++[V.ref L]).length<(m+1).toNat-ys.length;rw[ar,cq];lia
  .refine exI rfl (k q ys D ab f3 ⋯ λj v e=>?_);obtain⟨J,e',_,M'⟩:=g3 j v e;exact⟨J,e',M'⟩
def covR (hs:List Int)(i j:Int):Prop:=(0<=i/\i<(hs.length:Int)-1)/\loH hs i<=j/\j+1<=hiH hs i
instance (hs:List Int)(i j:Int):Decidable (covR hs i j):=by unfold covR;exact inferInstance
def qvd (xs:List Int):List Int:=xs.drop 1++xs.take 1
theorem xkh (xs:List Int):(qvd xs).length=xs.length:=by unfold qvd;rw[ar,bI,bv];lia
def ux (hs xs:List Int):Prop:=(1<=xs.length/\xs.length<=12)/\∀(i:Nat) (x y:Int),xs[i]?=some x->(qvd xs)[i]?=some y->covR hs x y
def wwz (hs:List Int)(p:Int×Int)(x:Int):Int×Int:=(p.1*(hAt hs (x+1)-hAt hs x),hAt hs x+(hAt hs (x+1)-hAt hs x)*(p.2-x))
def w4 (hs xs:List Int):Int×Int:=xs.foldl (wwz hs) (1,0)
theorem wx9 (hs xs:List Int)(x:Int):w4 hs (xs++[x])=wwz hs (w4 hs xs) x:=by unfold w4;rw[List.foldl_append];rfl
theorem yn (hs:List Int){xs:List Int}{i:Nat}{x:Int}(h:xs[i]?=some x):w4 hs (xs.take (i+1))=wwz hs (w4 hs (xs.take i)) x:=by rw[cY,h];exact wx9 hs _ x
theorem qv1 (ok:wb hs)(x:Int):(hAt hs (x+1)-hAt hs x).natAbs<=24:=by have a:=wjc ok x;have b:=wjc ok (x+1);lia
theorem qqq (ok:wb hs){xs:List Int}:∀i:Nat,(w4 hs (xs.take i)).1.natAbs<=24 ^ i
 |0=>by rw[gP];show(1:Int).natAbs<=1;decide
 |i+1=>by
  have ih:=qqq ok (xs:=xs) i;cases e:xs[i]? with
  |none =>
   have:=eM.mp e;have e1:xs.take (i+1)=xs.take i:=by rw[dQ ⋯,dQ ⋯]
   rw[e1,dc];exact bo ih (iI _ ⋯)
  |some x =>
   rw[yn hs e];show((w4 hs (xs.take i)).1*(hAt hs (x+1)-hAt hs x)).natAbs<=24 ^ (i+1);rw[fA,dc];exact gO ih (qv1 ok x)
def qyu (K:Aa)(C:Aj):Sp:=λvs H Q _=>∃(r a:Aj) (hs xs:List Int),vs=[.ref r,.ref a]/\RoadAt C H r hs/\wb hs/\SqT K H a (xs.map V.int)/\(∀x∈xs,0<=x/\x<(hs.length:Int)-1) /\
 ∀p H',Same H H'->H' p=some (.tup [.int (w4 hs xs).1,.int (w4 hs xs).2])->Q (.ref p) H'
include T in
theorem xw3 (F:Fun K "line_along" "line_along" zci f fd)(zdc:MCal P w K mg base qx "slope" 3 (qwz qx qm))(zal:MCal P w K mg base qx "ends" 2 (Z1 qx qm)):FK P w K mg base 4 f fd ["road","row"] (qyu K qx):=by
 have L:=qvy;refine F.okX L (λvs H Q E h=>by obtain⟨_,_,_,_,rfl,_⟩:=h;rfl) λ_ _ _ _ H vs Q E J h=>?_;obtain⟨r,a,hs,xs,rfl,D,Z,hT,hx,k⟩:=h;refine⟨_,(qj (wp (i:=2) qy)
   (qj (wp (i:=3) qy)
   (qj (Qj bp rfl (pi_tup (pv 1)) (wm (i:=4)) (qj (wp (i:=5) (zj (pv 0) T.cl zdc (J.mono ⋯) qu (qb (pv 4) qk)))
   (qj (wp (i:=6) (xh k6 (zj (pv 0) T.cl zal (J.mono ⋯) qu (qb (pv 4) qk)) qy (λ_ _=>rfl)))
   (qj (wp (i:=2) (wx xy (pv 2) (pv 5)))
   (qp (wp (i:=3) (wx xu (pv 6) (wx xy (pv 5) (wx zy (pv 3) (pv 4))))))))))
   (qp (wn (z7 (qb (pv 2) (qb (pv 3) qk)))))))),?_⟩
 refine exI rfl ⟨a,rfl,⟨_,hT⟩,xjb (xs:=xs.map V.int) (λi σ H'=>Same H H'/\∃z4 z5 z6,σ=[some (.ref r),some (.ref a),some (.int (w4 hs (xs.take i)).1),some (.int (w4 hs (xs.take i)).2),z4,z5,z6]) ⟨Same.refl _,_,_,_,rfl⟩ (λi σ H' _ h=>h.1.sqt hT) ?_ ?_⟩
 .rintro i v σ H1 ev ⟨s1,z4,z5,z6,rfl⟩;rw[av]at ev;obtain⟨x,ex,rfl⟩:=df.mp ev;obtain⟨x0,x1⟩:=hx x (aL ex);obtain⟨dx,W,h1,h2⟩:=id (D.same s1);have sl:=qv1 Z x;refine⟨_,rfl,r,dx,_,rfl,h1,w5 (by decide +kernel),_,rfl,r,hs,x,rfl,D.same s1,λ_ _ H2 s2=>?_,λz=>absurd z ⋯⟩;obtain⟨dx,W,h1,h2⟩:=id (D.same (s1.trans s2));refine⟨_,rfl,r,dx,_,rfl,h1,w5 (by decide +kernel),_,rfl,r,hs,x,rfl,D.same (s1.trans s2),λ_ _ p3 n3=>?_,λz=>absurd z ⋯⟩;have U:=Same.upd (o:=.tup [.int (hAt hs x),.int (hAt hs (x+1))]) n3;refine exX rfl rfl SqT.new rfl ?_;refine exI rfl (exI rfl (wc rfl rfl ⟨IntMulOk.of_right (intBits_le_64 ⋯ ⋯),?_⟩));refine exI rfl (exI rfl (exI rfl (exI rfl (wc rfl rfl (wc rfl rfl ⟨IntMulOk.of_left (intBits_le_64 ⋯ ⋯),wc rfl rfl ?_⟩)))));refine⟨s1.trans (s2.trans U),some (.int x),some (.int (hAt hs (x+1)-hAt hs x)),some (.int (hAt hs x)),?_⟩;rw[yn hs ex];rfl
 .rintro σ H1 ⟨s1,z4,z5,z6,rfl⟩;rw[af,bq];refine exI rfl (exI rfl ⟨sz2,λp np=>k p _ (s1.trans (Same.upd np)) qh⟩)
variable {xs:List Int}
theorem wut (c:ux hs xs):∀x∈xs,0<=x/\x<(hs.length:Int)-1:=λx hx=>by
 obtain⟨i,hi,rfl⟩:=cM hx;have h2:i<(qvd xs).length:=by rw[xkh];exact hi
 exact(c.2 i xs[i] (qvd xs)[i] (aa hi) (aa h2)).1
def FixR (H:Hp)(p:Int×Int)(v:V):Prop:=(p.1=1/\v=.non)\/(p.1≠1/\∃q,v=.ref q/\H q=some (.tup (ptV (if p.1>1 then wy (-p.2) (p.1-1) else wy p.2 (1-p.1)))))
def qjy (K:Aa)(C:Aj):Sp:=λvs H Q _=>∃(r a:Aj) (hs xs:List Int),vs=[.ref r,.ref a]/\RoadAt C H r hs/\wb hs/\SqT K H a (xs.map V.int)/\(∀x∈xs,0<=x/\x<(hs.length:Int)-1)/\xs.length<=12 /\
 ∀v H',Same H H'->FixR H' (w4 hs xs) v->Q v H'
include T in
theorem xxd (F:Fun K "fixed_point" "fixed_point" zcj f fd)(zgs:Cal P w K mg base "line_along" 4 (qyu K qx))(zam:Cal P w K mg base "lowest" 2 (uc qv)):FK P w K mg base 5 f fd ["road","row"] (qjy K qx):=by
 have Z:=qx8;refine F.okX Z (λvs H Q E h=>by obtain⟨_,_,_,_,rfl,_⟩:=h;rfl) λ_ _ _ _ H vs Q E hr h=>?_;obtain⟨r,a,hs,xs,rfl,hR,W,hT,hx,hl,k⟩:=h;have D:=qqq W (xs:=xs) xs.length;rw[bq]at D;have D:(w4 hs xs).1.natAbs<=24 ^ 12:=bo D (cS ⋯ hl);have ad:(24:Nat) ^ 12=36520347436056576:=by decide
 rw[ad]at D;refine⟨_,(qj (vn (wCA zgs (qb (pv 0) (qb (pv 1) qk))) (vy rfl (wt (wm (i:=2)) (wt (wm (i:=3)) x9))))
   (qj (xn (wu zg (pv 2) qy (wg _)) (qp (wn Jz)) xw)
   (qj (xn (wu yr (pv 2) qy (wg _)) (qp (wn (wCA zam (xww (Wy ym (pv 3)) (x8 (wx zy (pv 2) qy) qk))))) xw)
   (qp (wn (wCA zam (qb (pv 3) (x8 (wx zy qy (pv 2)) qk)))))))),?_⟩
 refine exI rfl (exI rfl ⟨r,a,hs,xs,rfl,hR,W,hT,hx,λp H1 J U=>?_⟩);unfold FixR at k;generalize (w4 hs xs).1=st at D U k;generalize (w4 hs xs).2=ht at U k;refine⟨p,exI rfl ⟨SqT.of U,rfl,_,_,rfl,_,_,rfl,rfl,?_⟩⟩;refine exI rfl ⟨rfl,_,rfl,jx (λz=>?_) (λz=>?_)⟩
 .exact k _ _ J (.inl ⟨z,rfl⟩)
 .refine exI rfl (wc rfl rfl (exI rfl (jq (λy=>?_) (λy=>?_))))
  .refine⟨_,rfl,_,rfl,_,rfl,_,_,rfl,rfl,_,_,rfl,λ_=>⟨Sm.small ⋯ ⋯ ⋯,λq L=>?_⟩,λw=>absurd w ⋯⟩;refine k _ _ (J.trans (Same.upd L)) (.inr ⟨z,q,rfl,?_⟩);rw[aw y];exact qh
  .refine⟨_,rfl,_,rfl,_,_,rfl,rfl,_,_,rfl,λ_=>⟨Sm.small ⋯ ⋯ ⋯,λq L=>?_⟩,λw=>absurd w ⋯⟩;refine k _ _ (J.trans (Same.upd L)) (.inr ⟨z,q,rfl,?_⟩);rw[ao y];exact qh
variable {i:Nat}
theorem wkk (h:i+1<xs.length):(qvd xs)[i]?=xs[i+1]?:=by unfold qvd;rw[aS (by rw[bI];lia),cQ,iO]
theorem wv9 (h:i+1=xs.length):(qvd xs)[i]?=xs[0]?:=by unfold qvd;rw[aF (by rw[bI];lia),bI,show i-(xs.length-1)=0 by lia,gz,aw ⋯]
def covT (hs:List Int)(i j:Nat):Int:=if loH hs ((0:Int)+i)<=(0:Int)+j/\(0:Int)+j+1<=hiH hs ((0:Int)+i) then 1 else 0
theorem wjs:∀(m:Nat) (lo:Int) (j:Nat),0<=lo->((List.range m).map λk:Nat=>(if j=(lo+k).toNat then(1:Int) else 0)).sum=if lo<=j/\(j:Int)<lo+m then 1 else 0
 |0,lo,j,h=>by rw[ao ⋯];rfl
 |m+1,lo,j,h=>by
  rw[aT,aA,iW,wjs m lo j h,aO,du,cJ,List.sum_nil];by_cases z:j=(lo+m).toNat
  .rw[aw z,ao ⋯,aw ⋯];rfl
  .rw[ao z];by_cases y:lo<=j/\(j:Int)<lo+m
   .rw[aw y,aw ⋯];rfl
   .rw[ao y,ao ⋯];rfl
theorem wjr (ok:wb hs)(i j:Nat):zn (x6 hs) 1 i j=covT hs i j:=by
 show((x6 hs i).map λv=>if j=v.toNat then(1:Int) else 0).sum=_;have l:=lohi ok ((0:Int)+i);unfold x6 Ym covT;rw[aU];have:=wjs (hiH hs ((0:Int)+i)-loH hs ((0:Int)+i)).toNat (loH hs ((0:Int)+i)) j l.1;show((List.range _).map λk:Nat=>(if j=(loH hs ((0:Int)+i)+k).toNat then(1:Int) else 0)).sum=_;rw[this];by_cases z:loH hs ((0:Int)+i)<=(0:Int)+j/\(0:Int)+j+1<=hiH hs ((0:Int)+i)
 .rw[aw z,aw ⋯]
 .rw[ao z,ao ⋯]
def bgR (hs:List Int)(f m:Nat):Nat->List (List Int)
 |0=>if 0<zn (x6 hs) m f f then [[(0:Int)+f]] else []
 |t+1=>Z7 (λv=>decide (0<zn (x6 hs) (m-1-t) v.toNat f)) (λr=>x6 hs (r.getLastD 0).toNat) (bgR hs f m t)
def xf (hs:List Int)(m:Nat):List (List Int):=(List.range (hs.length-1)).flatMap λf=>bgR hs f m (m-1)
def cvr (hs:List Int)(x y:Int):Prop:=loH hs x<=y/\y+1<=hiH hs x
theorem mem_cov:y∈Ym hs x↔cvr hs x y:=by
 unfold Ym cvr;constructor
 .intro h;obtain⟨j,hj,rfl⟩:=aH.mp h;have:=am.mp hj;lia
 .intro h;exact aH.mpr ⟨(y-loH hs x).toNat,am.mpr ⋯,⋯⟩
theorem qww (h:0<=x):x6 hs x.toNat=Ym hs x:=by unfold x6;rw[show(0:Int)+(x.toNat:Int)=x by lia]
theorem Z4 (r:List Int)(x:Int):(r++[x]).getLastD 0=x:=by rw[gX,dz];rfl
variable {r:List Int}
theorem qv8 (h:r≠[]):r.getLastD 0=r.getD (r.length-1) 0:=by rw[gX,dk,ae]
theorem mem_addR {c:Int->Bool}{vs x:List Int}:x∈Yu c r vs↔∃v∈vs,c v=true/\x=r++[v]:=by
 unfold Yu;rw[aH];constructor
 .rintro⟨v,hv,rfl⟩;obtain⟨h1,h2⟩:=br.mp hv;exact⟨v,h1,h2,rfl⟩
 .rintro⟨v,h1,h2,rfl⟩;exact⟨v,br.mpr ⟨h1,h2⟩,rfl⟩
theorem mem_allR {c:Int->Bool}{g:List Int->List Int}{L:List (List Int)}{x:List Int}:x∈Z7 c g L↔∃r∈L,∃v∈g r,c v=true/\x=r++[v]:=by
 unfold Z7;rw[List.mem_flatMap];constructor
 .rintro⟨r,z,h⟩;exact⟨r,z,mem_addR.mp h⟩
 .rintro⟨r,z,h⟩;exact⟨r,z,mem_addR.mpr h⟩
def Beg (hs:List Int)(f m t:Nat)(r:List Int):Prop:=r.length=t+1/\r.getD 0 0=(0:Int)+f/\(∀x∈r,0<=x/\x<(hs.length:Int)-1)/\(∀i,i<t->cvr hs (r.getD i 0) (r.getD (i+1) 0))/\0<zn (x6 hs) (m-t) (r.getLastD 0).toNat f
theorem Ys {v:Int}(h:i<r.length):(r++[v]).getD i 0=r.getD i 0:=by rw[ae,ae,aS h]
theorem xwx {v:Int}(h:i=r.length):(r++[v]).getD i 0=v:=by subst h;rw[ae,aF (ai _),Nat.sub_self];rfl
theorem qws {f m t:Nat}(h:Beg hs f m t r):r.getLastD 0=r.getD t 0/\0<=r.getLastD 0/\r.getLastD 0<(hs.length:Int)-1:=by
 obtain⟨l,_,g,_⟩:=h;have D:r≠[]:=λz=>by rw[z]at l;cases l
 have e:=qv8 D;rw[l,dR]at e;refine⟨e,?_⟩;rw[e,ae,aa ⋯];exact g _ (bF _)
theorem Zf (ok:wb hs){f m:Nat}(hf:f<hs.length-1):∀t,∀r∈bgR hs f m t,Beg hs f m t r
 |0,r,hr=>by
  unfold bgR at hr;split at hr
  .next p =>
   obtain rfl:=aQ.mp hr;refine⟨rfl,rfl,λx hx=>?_,λi hi=>absurd hi (ge _),?_⟩
   .rw[aQ.mp hx];lia
   .show 0<zn (x6 hs) m ((0:Int)+f).toNat f;rw[show((0:Int)+f).toNat=f by lia];exact p
  .cases hr
 |t+1,r,hr=>by
  obtain⟨q,hq,v,hv,hc,rfl⟩:=mem_allR.mp hr;have b:=Zf ok hf t q hq;obtain⟨e1,e2,e3⟩:=qws b;obtain⟨l,h0,g,ch,_⟩:=b;rw[qww e2]at hv;have cv:=mem_cov.mp hv;have vr:=W4 ok _ v hv;refine⟨by rw[ar,l];rfl,by rw[Ys ⋯];exact h0,λx hx=>?_,λi hi=>?_,?_⟩
  .rcases aY.mp hx with z|z
   .exact g x z
   .rw[aQ.mp z];lia
  .rcases(by lia:i<t\/i=t) with z|z
   .rw[Ys ⋯,Ys ⋯];exact ch i z
   .subst z;rw[Ys ⋯,xwx ⋯,<-e1];exact cv
  .rw[Z4,show m-(t+1)=m-1-t by lia];exact dw hc
theorem Wm (cov:Nat->List Int):∀(m i j:Nat),0<=zn cov m i j
 |0,i,j=>by unfold zn;split <;> decide
 |m+1,i,j=>by
  show 0<=((cov i).map λv=>zn cov m v.toNat j).sum;generalize cov i=l
  induction l with
  |nil=>exact cN _
  |cons v l ih =>
   rw[aO,cJ];have:=Wm cov m v.toNat j;lia
theorem www {F:Int->Int}(h:∀v,0<=F v)(r:List Int):∀vs:List Int,((Yu (λv=>decide (0<F v)) r vs).map λq=>F (q.getLastD 0)).sum=(vs.map F).sum
 |[]=>rfl
 |v::vs=>by
  have ih:=www h r vs;unfold Yu at ih ⊢;rw[bW,aO,cJ,<-ih];by_cases z:0<F v
  .rw[aw (aM z),aO,aO,cJ,Z4]
  .rw[ao (by simpa using z)];have:=h v;lia
theorem wqc {F:Int->Int}(h:∀v,0<=F v)(g:List Int->List Int):∀L:List (List Int),((Z7 (λv=>decide (0<F v)) g L).map λq=>F (q.getLastD 0)).sum=(L.map λr=>((g r).map F).sum).sum
 |[]=>rfl
 |r::L=>by have ih:=wqc h g L;unfold Z7 at ih ⊢;rw[List.flatMap_cons,aA,iW,ih,aO,cJ,www h]
theorem wzw (hs:List Int)(f m:Nat):∀t,t<=m->((bgR hs f m t).map λr=>zn (x6 hs) (m-t) (r.getLastD 0).toNat f).sum=zn (x6 hs) m f f
 |0,_=>by
  have p:=Wm (x6 hs) m f f;unfold bgR;split
  .show zn (x6 hs) m ((0:Int)+f).toNat f+0=_;rw[show((0:Int)+f).toNat=f by lia,Int.add_zero]
  .show(0:Int)=_;lia
 |t+1,h=>by have ih:=wzw hs f m t ⋯;rw[show m-t=(m-1-t)+1 by lia]at ih;rw[<-ih,show m-(t+1)=m-1-t by lia];exact wqc (F:=λv=>zn (x6 hs) (m-1-t) v.toNat f) (λv=>Wm _ _ _ _) (λr=>x6 hs (r.getLastD 0).toNat) (bgR hs f m t)
theorem qw4 {F:α->Int}:∀ {L:List α},(∀r∈L,1<=F r)->(L.length:Int)<=(L.map F).sum
 |[],_=>cN _
 |r::L,h=>by have ih:=qw4 (L:=L) λr hr=>h r (.tail _ hr);have:=h r (.head _);rw[aO,cJ,aB];lia
theorem qw7 {F:α->Int}:∀ {L:List α},(∀r∈L,F r=1)->(L.length:Int)=(L.map F).sum
 |[],_=>rfl
 |r::L,h=>by have ih:=qw7 (L:=L) λr hr=>h r (.tail _ hr);have:=h r (.head _);rw[aO,cJ,aB];lia
theorem xq8 (ok:wb hs){f m t:Nat}(hf:f<hs.length-1)(ht:t<=m):((bgR hs f m t).length:Int)<=zn (x6 hs) m f f:=by rw[<-wzw hs f m t ht];exact qw4 λr hr=>(Zf ok hf t r hr).2.2.2.2
theorem bg_len (ok:wb hs){f m:Nat}(hf:f<hs.length-1)(hm:1<=m):((bgR hs f m (m-1)).length:Int)=zn (x6 hs) m f f:=by
 rw[<-wzw hs f m (m-1) ⋯];refine qw7 λr D=>?_;have h:=(Zf ok hf _ r D).2.2.2.2;rw[show m-(m-1)=1 by lia]at h ⊢;rw[wjr ok]at h ⊢;unfold covT at h ⊢;split at h
 .next z=>rw[aw z]
 .next z=>exact absurd h (jF 0)
theorem qzd (F:Nat->List α)(n:Nat):((((List.range n).flatMap F).length:Nat):Int)=jk n λk=>((F k).length:Int):=by
 induction n with
 |zero=>rfl
 |succ n ih =>
  rw[v4,<-ih,aT,gm,ar];simp
theorem wy0 (ok:wb hs){m:Nat}(hm:1<=m):((xf hs m).length:Int)=jk (hs.length-1) λf=>zn (x6 hs) m f f:=by unfold xf;rw[qzd];exact Qv λf hf=>bg_len ok hf hm
def quf (L:List (List Int)):Prop:=L.Pairwise λa b=>vm a b=true
def ClR (hs:List Int)(m:Nat)(r:List Int):Prop:=r.length=m/\(∀x∈r,0<=x/\x<(hs.length:Int)-1)/\(∀i,i+1<m->cvr hs (r.getD i 0) (r.getD (i+1) 0))/\cvr hs (r.getD (m-1) 0) (r.getD 0 0)
theorem wxx {c:Nat->Int}{m:Nat}(hc:∀t,t<m->c (t+1)∈x6 hs (c t).toNat):∀d t,t+d=m->0<zn (x6 hs) d (c t).toNat (c m).toNat
 |0,t,e=>by
  obtain rfl:t=m:=by lia
  unfold zn;rw[aw rfl];decide
 |d+1,t,e=>by
  have F:=wxx hc d (t+1) ⋯;have D:=hc t ⋯;show 0<((x6 hs (c t).toNat).map λv=>zn (x6 hs) d v.toNat (c m).toNat).sum;generalize x6 hs (c t).toNat=l at D
  induction l with
  |nil=>cases D
  |cons v l ihl =>
   rw[aO,cJ];rcases aC.mp D with z|z
   .rw[<-z];have:0<=(l.map λv=>zn (x6 hs) d v.toNat (c m).toNat).sum:=by
     clear ihl D
     induction l with
     |nil=>exact cN _
     |cons w l ih2=>rw[aO,cJ];have:=Wm (x6 hs) d w.toNat (c m).toNat;lia
    lia
   .have:=ihl z;have:=Wm (x6 hs) d v.toNat (c m).toNat;lia
theorem jc (ok:wb hs){m:Nat}(hm:1<=m){r:List Int}:r∈xf hs m↔ClR hs m r:=by
 unfold xf;rw[List.mem_flatMap];constructor
 .rintro⟨f,L,Z⟩;have L:=am.mp L;have b:=Zf ok L _ r Z;obtain⟨e1,e2,e3⟩:=qws b;obtain⟨l,h0,g,ch,p⟩:=b;refine⟨⋯,g,λi hi=>ch i ⋯,?_⟩;rw[show m-(m-1)=1 by lia,wjr ok]at p;unfold covT at p;split at p
  .next z =>
   rw[show(0:Int)+((r.getLastD 0).toNat:Int)=r.getLastD 0 by lia]at z;rw[<-e1,h0];exact z
  .exact absurd p (jF 0)
 .rintro⟨l,g,ch,cl⟩;have F:∀i,i<m->0<=r.getD i 0/\r.getD i 0<(hs.length:Int)-1:=λi hi=>by rw[ae,aa ⋯];exact g _ (bF _)
  have r0:=F 0 ⋯;have hc:∀t,t<m->(if t+1=m then r.getD 0 0 else r.getD (t+1) 0)∈x6 hs ((if t=m then r.getD 0 0 else r.getD t 0)).toNat:=λt D=>by
   rw[ao ⋯,qww (F t D).1];split
   .next z =>
    obtain rfl:t=m-1:=by lia
    exact mem_cov.mpr cl
   .next z=>exact mem_cov.mpr (ch t ⋯)
  have U:∀t,t<m->0<zn (x6 hs) (m-t) (r.getD t 0).toNat (r.getD 0 0).toNat:=λt D=>by have:=wxx (c:=λt=>if t=m then r.getD 0 0 else r.getD t 0) hc (m-t) t ⋯;rw[ao (show ¬ t=m by lia),aw rfl]at this;exact this
  have W:∀t,t<m->r.take (t+1)∈bgR hs (r.getD 0 0).toNat m t:=λt=>by
   induction t with
   |zero =>
    intro _;have p:=U 0 ⋯;unfold bgR;rw[Nat.sub_zero]at p;rw[aw p,show(0:Int)+((r.getD 0 0).toNat:Int)=r.getD 0 0 by lia]
    match r,l with
    |[],l=>simp at l;lia
    |x::r,_=>exact .head _
   |succ t J =>
    intro D;have J:=J ⋯;have et:r.take (t+1+1)=r.take (t+1)++[r.getD (t+1) 0]:=by rw[cY,aa ⋯,ae,aa ⋯];rfl
    have el:(r.take (t+1)).getLastD 0=r.getD t 0:=by rw[qv8 (λz=>by have:=bT List.length z;rw[bv,bA]at this;lia),bv,Nat.min_eq_left ⋯,dR,ae,gz,aw ⋯,ae]
    rw[et];refine mem_allR.mpr ⟨r.take (t+1),J,r.getD (t+1) 0,?_,aM ?_,rfl⟩
    .rw[el,qww (F t ⋯).1];exact mem_cov.mpr (ch t ⋯)
    .rw[show m-1-t=m-(t+1) by lia];exact U (t+1) D
  refine⟨(r.getD 0 0).toNat,am.mpr ⋯,?_⟩;have:=W (m-1) ⋯;rw[show m-1+1=r.length by lia,bq]at this;exact this
def Byd (e B v:Int):Prop:=(0<v/\v<=e-B)\/(v<0/\e<=v)
variable {B:Int}
theorem xvy {h t v:Int}(hB:1<=B)(up:a>0->h<=y/\y+1<=h+a)(dn:a<0->h+a<=y/\y+1<=h)(nz:a≠0)(b:Byd (t-x*B) B v):Byd (h*B+a*(t-x*B)-y*B) B (a*v):=by
 generalize t-x*B=e at b ⊢;rcases(by lia:a>0\/a<0) with z|z
 .obtain⟨W,U⟩:=up z;rcases b with⟨F,D⟩|⟨F,D⟩
  .refine .inl ⟨Int.mul_pos z F,?_⟩;have L:a*v<=a*(e-B):=aZ D ⋯;have J:(y+1)*B<=(h+a)*B:=aD U ⋯;rw[jC]at L;rw[cf,cf,b8]at J;lia
  .refine .inr ⟨gY z F,?_⟩;have L:a*e<=a*v:=aZ D ⋯;have J:h*B<=y*B:=aD W ⋯;lia
 .obtain⟨W,U⟩:=dn z;rcases b with⟨F,D⟩|⟨F,D⟩
  .refine .inr ⟨Int.mul_neg_of_neg_of_pos z F,?_⟩;have L:a*(e-B)<=a*v:=dH ⋯ D;have J:(h+a)*B<=y*B:=aD W ⋯;rw[jC]at L;rw[cf]at J;lia
  .refine .inl ⟨gZ z F,?_⟩;have L:a*v<=a*e:=dH ⋯ D;have J:(y+1)*B<=h*B:=aD U ⋯;rw[cf,b8]at J;lia
def y8 (a:Nat->Int)(i:Nat):Nat->Int
 |0=>1
 |k+1=>y8 a i k*a (i+k)
variable {h:Nat->Int}
theorem qyf {n:Nat}{c t a:Nat->Int}(hB:1<=B)(st:∀i,i<n->t (i+1)=h i*B+a i*(t i-c i*B))(up:∀i,i<n->a i>0->h i<=c (i+1)/\c (i+1)+1<=h i+a i)(dn:∀i,i<n->a i<0->h i+a i<=c (i+1)/\c (i+1)+1<=h i)(nz:∀i,i<n->a i≠0)
  {i:Nat} {v:Int} (b:Byd (t i-c i*B) B v):∀k,i+k<=n->Byd (t (i+k)-c (i+k)*B) B (v*y8 a i k)
 |0,_=>by rw[show v*y8 a i 0=v from g9 v];exact b
 |k+1,hk=>by
  have ih:=qyf hB st up dn nz b k ⋯;have s:=xvy hB (up (i+k) ⋯) (dn (i+k) ⋯) (nz (i+k) ⋯) ih;rw[show h (i+k)*B+a (i+k)*(t (i+k)-c (i+k)*B)=t (i+k+1) from (st (i+k) ⋯).symm]at s;have e:v*y8 a i (k+1)=a (i+k)*(v*y8 a i k):=by show v*(y8 a i k*a (i+k))=_;rw[<-ii,eJ]
  rw[e];exact s
theorem xk1 {n:Nat}{c t a:Nat->Int}(hB:1<=B)(st:∀i,i<n->t (i+1)=h i*B+a i*(t i-c i*B))(up:∀i,i<n->a i>0->h i<=c (i+1)/\c (i+1)+1<=h i+a i)(dn:∀i,i<n->a i<0->h i+a i<=c (i+1)/\c (i+1)+1<=h i)(nz:∀i,i<n->a i≠0)
  (et:t n=t 0) (ec:c n=c 0) (ns:y8 a 0 n≠1) (ns0:y8 a 0 n≠0):∀i,i<=n->0<=t i-c i*B/\t i-c i*B<=B:=by
 have Z:∀v,¬ Byd (t 0-c 0*B) B v:=λv b=>by
  have D:∀v,Byd (t 0-c 0*B) B v->Byd (t 0-c 0*B) B (v*y8 a 0 n):=λv b=>by have r:=qyf hB st up dn nz b n ⋯;rw[c0,et,ec]at r;exact r
  generalize t 0-c 0*B=e at b D;generalize y8 a 0 n=s at ns ns0 D;rcases b with⟨W,U⟩|⟨W,U⟩
  .rcases D (e-B) (.inl ⟨⋯,⋯⟩) with⟨J,F⟩|⟨J,F⟩
   .have s0:0<s:=by
     rcases(by lia:0<s\/s<0) with q|q
     .exact q
     .have:=gY (show 0<e-B by lia) q;lia
    have:(e-B)*2<=(e-B)*s:=aZ ⋯ ⋯;lia
   .lia
  .rcases D e (.inr ⟨⋯,⋯⟩) with⟨J,F⟩|⟨J,F⟩
   .lia
   .have s0:0<s:=by
     rcases(by lia:0<s\/s<0) with q|q
     .exact q
     .have:=gZ (show e<0 by lia) q;lia
    have:e*s<=e*2:=dH ⋯ ⋯;lia
 intro i hi;have L:∀v,¬ Byd (t i-c i*B) B v:=λv b=>by have r:=qyf hB st up dn nz b (n-i) ⋯;rw[show i+(n-i)=n by lia,et,ec]at r;exact Z _ r
 constructor
 .rcases bU (t i-c i*B) 0 with z|z
  .exact absurd (.inr ⟨z,cN _⟩) (L (t i-c i*B))
  .exact z
 .rcases bU B (t i-c i*B) with z|z
  .exact absurd (.inl ⟨⋯,cN _⟩) (L (t i-c i*B-B))
  .exact z
def xq (xs:List Int)(i:Nat):Int:=xs.getD (i%xs.length) 0
def Q0 (hs xs:List Int)(T B:Int)(i:Nat):Int:=(w4 hs (xs.take i)).1*T+(w4 hs (xs.take i)).2*B
theorem jn (h:i<xs.length):xs[i]?=some (xq xs i):=by unfold xq;rw[di h,ae,aa h];rfl
theorem Z0 (h:i<xs.length):(qvd xs)[i]?=some (xq xs (i+1)):=by
 rcases(by lia:i+1<xs.length\/i+1=xs.length) with z|z
 .rw[wkk z];exact jn z
 .rw[wv9 z];unfold xq;rw[z,Nat.mod_self,ae,aa ⋯];rfl
theorem ut (hs xs:List Int)(T B:Int):Q0 hs xs T B 0=T:=by unfold Q0;rw[gP];show(1:Int)*T+(0:Int)*B=T;lia
theorem W6 {T:Int}(h:i<xs.length):Q0 hs xs T B (i+1)=hAt hs (xq xs i)*B+(hAt hs (xq xs i+1)-hAt hs (xq xs i))*(Q0 hs xs T B i-xq xs i*B):=by unfold Q0;rw[yn hs (jn h)];unfold wwz;dsimp only;generalize (w4 hs (xs.take i)).1=p;generalize (w4 hs (xs.take i)).2=q;generalize hAt hs (xq xs i)=u;generalize hAt hs (xq xs i+1)=v;generalize xq xs i=x;grind
theorem qxs:∀k:Nat,k<=xs.length->y8 (λi=>hAt hs (xq xs i+1)-hAt hs (xq xs i)) 0 k=(w4 hs (xs.take k)).1
 |0,_=>by rw[gP];rfl
 |k+1,h=>by rw[yn hs (jn (show k<xs.length by lia))];show y8 _ 0 k*(hAt hs (xq xs (0+k)+1)-hAt hs (xq xs (0+k)))=(w4 hs (xs.take k)).1*(hAt hs (xq xs k+1)-hAt hs (xq xs k));rw[qxs k ⋯,c0]
theorem row_in (c:ux hs xs){T B:Int}(hB:1<=B)(ns:(w4 hs xs).1≠1)(fx:(w4 hs xs).1*T+(w4 hs xs).2*B=T){i:Nat}(hi:i<xs.length) :
  xq xs i*B<=Q0 hs xs T B i/\Q0 hs xs T B i<=(xq xs i+1)*B:=by
 have F:∀j,j<xs.length->covR hs (xq xs j) (xq xs (j+1)):=λj D=>c.2 j _ _ (jn D) (Z0 D);have J:∀j,j<xs.length->hAt hs (xq xs j+1)-hAt hs (xq xs j)≠0:=λj D=>by have:=(F j D).2;unfold loH hiH Zp Zg at this;split at this <;> split at this <;> lia
 have ep:y8 (λi=>hAt hs (xq xs i+1)-hAt hs (xq xs i)) 0 xs.length=(w4 hs xs).1:=by rw[qxs _ (ai _),bq]
 have L:∀k,k<=xs.length->y8 (λi=>hAt hs (xq xs i+1)-hAt hs (xq xs i)) 0 k≠0:=λk=>by
  induction k with
  |zero=>intro _ z;cases z
  |succ k ih =>
   intro U z;rcases Int.mul_eq_zero.mp z with z|z
   .exact ih ⋯ z
   .rw[c0]at z;exact J k ⋯ z
 have r:=xk1 (n:=xs.length) (B:=B) (c:=xq xs) (t:=Q0 hs xs T B) (h:=λi=>hAt hs (xq xs i)) (a:=λi=>hAt hs (xq xs i+1)-hAt hs (xq xs i)) hB (λj D=>W6 D)
  (λj D z=>by
   have:=(F j D).2
   have z:hAt hs (xq xs j+1)-hAt hs (xq xs j)>0:=z
   unfold loH hiH Zp Zg at this
   show hAt hs (xq xs j)<=xq xs (j+1)/\xq xs (j+1)+1<=hAt hs (xq xs j)+(hAt hs (xq xs j+1)-hAt hs (xq xs j))
   split at this <;> split at this <;> lia)
  (λj D z=>by
   have:=(F j D).2
   have z:hAt hs (xq xs j+1)-hAt hs (xq xs j)<0:=z
   unfold loH hiH Zp Zg at this
   show hAt hs (xq xs j)+(hAt hs (xq xs j+1)-hAt hs (xq xs j))<=xq xs (j+1)/\xq xs (j+1)+1<=hAt hs (xq xs j)
   split at this <;> split at this <;> lia)
  J (by rw[ut];unfold Q0;rw[bq];exact fx) (by unfold xq;rw[Nat.mod_self,Nat.zero_mod]) (by rw[ep];exact ns) (L _ (ai _)) i (ba hi)
 rw[cf,b8];lia
theorem yt {t:Int}(hb:1<=b)(g:gOf t b=1):wy t b=(t,b):=by unfold wy;rw[g,iP,iP]
theorem Qc {m:Nat}(m1:1<=m)(m2:m<=12)(c:ClR hs m r):ux hs r:=by
 obtain⟨Z,U,W,J⟩:=c;refine⟨⟨⋯,⋯⟩,λi x y ex D=>?_⟩;have hi:=(al.mp ex).1;have L:r.getD i 0=x:=by rw[ae,ex];rfl
 refine⟨U x (aL ex),?_⟩;by_cases z:i+1<r.length
 .rw[wkk z]at D;have F:r.getD (i+1) 0=y:=by rw[ae,D];rfl
  have:=W i ⋯;rw[L,F]at this;exact this
 .rw[wv9 ⋯]at D;have F:r.getD 0 0=y:=by rw[ae,D];rfl
  rw[show m-1=i by lia,L,F]at J;exact J
theorem qzj (xs:List Int):xq xs 0=xs.getD 0 0:=by unfold xq;rw[Nat.zero_mod]
theorem xqx (xs:List Int):xq xs xs.length=xq xs 0:=by unfold xq;rw[Nat.mod_self,Nat.zero_mod]
theorem Y6 (hs xs:List Int)(T B:Int):Q0 hs xs T B xs.length=(w4 hs xs).1*T+(w4 hs xs).2*B:=by unfold Q0;rw[bq]
theorem wzc {T:Int}(hB:1<=B)(hx:∀i,i<xs.length->0<=xq xs i/\xq xs i<(hs.length:Int)-1)(hin:∀i,i<xs.length->xq xs i*B<=Q0 hs xs T B i/\Q0 hs xs T B i<=(xq xs i+1)*B):∀i,i<=xs.length->trT hs T B i=Q0 hs xs T B i
 |0,_=>(ut hs xs T B).symm
 |i+1,hi=>by have ih:=wzc hB hx hin i ⋯;obtain⟨x0,x1⟩:=hx i ⋯;obtain⟨l1,l2⟩:=hin i ⋯;show kj hs (trT hs T B i) B=_;rw[ih,Ww x0 x1 hB l1 l2,W6 ⋯]
theorem qyc (c:ux hs xs):∀i,i<xs.length->0<=xq xs i/\xq xs i<(hs.length:Int)-1:=λi hi=>wut c _ (aL (jn hi))
def Q3 (p:Int×Int):Int×Int:=if p.1>1 then wy (-p.2) (p.1-1) else wy p.2 (1-p.1)
theorem xw2 (h:p.1≠1):1<=(Q3 p).2/\gOf (Q3 p).1 (Q3 p).2=1/\p.1*(Q3 p).1+p.2*(Q3 p).2=(Q3 p).1:=by
 unfold Q3;by_cases z:p.1>1
 .rw[aw z];have c:=v6 (t:=-p.2) (b:=p.1-1) ⋯;exact⟨vj ⋯,wx4 ⋯,by grind⟩
 .rw[ao z];have c:=v6 (t:=p.2) (b:=1-p.1) ⋯;exact⟨vj ⋯,wx4 ⋯,by grind⟩
theorem xvu {t:Int}(h:p.1≠1)(hb:1<=b)(g:gOf t b=1)(e:p.1*t+p.2*b=t):Q3 p=(t,b):=by
 unfold Q3;by_cases z:p.1>1
 .rw[aw z,<-yt hb g];exact(Yc ⋯ hb).mp (by grind)
 .rw[ao z,<-yt hb g];exact(Yc ⋯ hb).mp (by grind)
theorem wqs (c:ux hs xs)(ns:(w4 hs xs).1≠1):xr hs (Q3 (w4 hs xs)).1 (Q3 (w4 hs xs)).2/\trT hs (Q3 (w4 hs xs)).1 (Q3 (w4 hs xs)).2 xs.length=(Q3 (w4 hs xs)).1:=by
 obtain⟨J,_,L⟩:=xw2 ns;have F:=λi hi=>row_in c J ns L (i:=i) hi;constructor
 .obtain⟨D,z⟩:=F 0 (by have:=c.1.1;lia);obtain⟨U,x1⟩:=qyc c 0 (by have:=c.1.1;lia);rw[ut]at D z;exact⟨dS (cb U ⋯) D,dS z (aD ⋯ ⋯)⟩
 .rw[wzc J (qyc c) F _ (ai _),Y6];exact L
theorem wvb (c:ux hs xs)(a1:(w4 hs xs).1=1):∀i,i<xs.length->(hAt hs (xq xs i+1)-hAt hs (xq xs i)).natAbs=1:=by
 have U:∀j,j<xs.length->covR hs (xq xs j) (xq xs (j+1)):=λj z=>c.2 j _ _ (jn z) (Z0 z);have F:∀j,j<xs.length->1<=(hAt hs (xq xs j+1)-hAt hs (xq xs j)).natAbs:=λj z=>by have:=(U j z).2;unfold loH hiH Zp Zg at this;split at this <;> split at this <;> lia
 have st:∀j,j<xs.length->(w4 hs (xs.take (j+1))).1.natAbs=(w4 hs (xs.take j)).1.natAbs*(hAt hs (xq xs j+1)-hAt hs (xq xs j)).natAbs:=λj z=>by rw[yn hs (jn z)];unfold wwz;dsimp only;rw[fA]
 have L:∀j,j<=xs.length->1<=(w4 hs (xs.take j)).1.natAbs:=λj=>by
  induction j with
  |zero=>intro _;rw[gP];show 1<=(1:Int).natAbs;decide
  |succ j ih =>
   intro z;rw[st j ⋯];exact gO (ih ⋯) (F j ⋯)
 have J:∀d j,j+d=xs.length->(w4 hs (xs.take j)).1.natAbs<=(w4 hs (xs.take xs.length)).1.natAbs:=λd=>by
  induction d with
  |zero=>intro j e;rw[show j=xs.length by lia];exact ai _
  |succ d ih =>
   intro j e;refine bo ?_ (ih (j+1) ⋯);rw[st j ⋯];exact iI _ (F j ⋯)
 have D:∀j,j<=xs.length->(w4 hs (xs.take j)).1.natAbs=1:=λj z=>by have h1:=L j z;have h2:=J (xs.length-j) j ⋯;rw[bq,a1]at h2;have:(1:Int).natAbs=1:=rfl;lia
 intro i hi;have:=st i hi;rw[D i ⋯,D (i+1) ⋯]at this;lia
variable {j:Int}
theorem wv6 {k:Int}(c:covR hs k j)(o:(hAt hs (k+1)-hAt hs k).natAbs=1):(hAt hs k=j/\hAt hs (k+1)=j+1)\/(hAt hs k=j+1/\hAt hs (k+1)=j):=by have:=c.2;unfold loH hiH Zp Zg at this;split at this <;> split at this <;> lia
theorem Y4 (c:ux hs xs)(a1:(w4 hs xs).1=1){t b:Int}(hb:1<=b)(h1:xq xs 0*b<=t)(h2:t<=(xq xs 0+1)*b):∀i,i<=xs.length->xq xs i*b<=Q0 hs xs t b i/\Q0 hs xs t b i<=(xq xs i+1)*b
 |0,_=>by rw[ut];exact⟨h1,h2⟩
 |i+1,hi=>by
  obtain⟨l1,l2⟩:=Y4 c a1 hb h1 h2 i ⋯;have cv:=c.2 i _ _ (jn (show i<xs.length by lia)) (Z0 (show i<xs.length by lia));have o:=wvb c a1 i ⋯;rw[W6 (show i<xs.length by lia)];generalize Q0 hs xs t b i=u at l1 l2;rcases wv6 cv o with⟨e1,e2⟩|⟨e1,e2⟩
  .rw[e1,e2];generalize xq xs (i+1)=y;generalize xq xs i=x at l1 l2;have e:y*b+(y+1-y)*(u-x*b)=y*b+(u-x*b):=by rw[show y+1-y=(1:Int) by lia,b8]
   rw[e,cf,b8];rw[cf,b8]at l2;lia
  .rw[e1,e2];generalize xq xs (i+1)=y;generalize xq xs i=x at l1 l2;have e:(y+1)*b+(y-(y+1))*(u-x*b)=y*b+b-(u-x*b):=by rw[show y-(y+1)=(-1:Int) by lia,cf,b8];lia
   rw[e,cf,b8];rw[cf,b8]at l2;lia
theorem wv5 (c:ux hs xs)(a1:(w4 hs xs).1=1){t b:Int}(hb:1<=b)(h1:xq xs 0*b<=t)(h2:t<=(xq xs 0+1)*b):trT hs t b xs.length=t:=by
 have D:=Y4 c a1 hb h1 h2;have z:(w4 hs xs).2=0:=by have p:=Y4 c a1 (t:=xq xs 0) (b:=1) ⋯ ⋯ ⋯ xs.length (ai _);have q:=Y4 c a1 (t:=xq xs 0+1) (b:=1) ⋯ ⋯ ⋯ xs.length (ai _);rw[Y6,xqx,a1]at p q;lia
 rw[wzc hb (qyc c) (λi hi=>D i ⋯) _ (ai _),Y6,a1,z];lia
theorem xxs {t:Int}(h:b∣t):b∣kj hs t b:=by unfold kj;exact Int.dvd_add (iJ _ _) (Int.dvd_trans (Int.dvd_sub h (iJ _ _)) (iJ _ _))
theorem xvm {t:Int}(h:b∣trT hs t b i):∀d,b∣trT hs t b (i+d)
 |0=>h
 |d+1=>xxs (xvm h d)
theorem xwm (ok:wb hs){t b:Int}{m:Nat}(m1:1<=m)(m2:m<=12)(hb:1<=b)(on:xr hs t b)(nd:¬ b∣t)(bk:trT hs t b m=t) :
  ∃r,ClR hs m r/\(w4 hs r).1*t+(w4 hs r).2*b=t/\r.getD 0 0*b<t/\t<(r.getD 0 0+1)*b:=by
 have n0:∀i,i<=m->¬ b∣trT hs t b i:=λi hi z=>by have:=xvm z (m-i);rw[show i+(m-i)=m by lia,bk]at this;exact nd this
 let s:Nat->Int:=λi=>trT hs t b i/b;have F:∀i,i<=m->s i*b<trT hs t b i/\trT hs t b i<(s i+1)*b:=λi hi=>by have e:=Int.mul_ediv_add_emod (trT hs t b i) b;have e0:=bV (trT hs t b i) (show b≠0 by lia);have e1:=bL (trT hs t b i) (show 0<b by lia);have e2:trT hs t b i%b≠0:=λz=>n0 i hi (Int.dvd_of_emod_eq_zero z);have cm:b*(trT hs t b i/b)=s i*b:=eJ _ _;rw[cm]at e;rw[cf,b8];lia
 have Z:∀i,i<=m->0<=s i/\s i<(hs.length:Int)-1:=λi hi=>by
  obtain⟨o1,o2⟩:=xx9 ok hb on i;obtain⟨l1,l2⟩:=F i hi;constructor
  .exact Int.ediv_nonneg o1 ⋯
  .by_cases z:s i<(hs.length:Int)-1
   .exact z
   .have:=aD (show(hs.length:Int)-1<=s i by lia) (show 0<=b by lia);lia
 have cv:∀i,i<m->cvr hs (s i) (s (i+1)):=λi hi=>by
  obtain⟨W,x1⟩:=Z i ⋯;obtain⟨l1,l2⟩:=F i ⋯;obtain⟨J,y2⟩:=F (i+1) ⋯;have e:trT hs t b (i+1)=hAt hs (s i)*b+(hAt hs (s i+1)-hAt hs (s i))*(trT hs t b i-s i*b):=by show kj hs (trT hs t b i) b=_;exact Ww W x1 hb ⋯ ⋯
  rw[e]at J y2;rw[cf,b8]at l2 y2;generalize hx:trT hs t b i-s i*b=x at J y2;have xp:0<x:=by lia
  have xb:x<b:=by lia
  generalize s (i+1)=y at J y2;unfold cvr loH hiH;generalize hAt hs (s i)=p at J y2;generalize hAt hs (s i+1)=q at J y2;have ab:∀p q:Int,p<=q->p*b<=p*b+(q-p)*x/\p*b+(q-p)*x<=q*b:=λp q h=>by have a1:0<=(q-p)*x:=cb ⋯ ⋯;have a2:(q-p)*x<=(q-p)*b:=aZ ⋯ ⋯;have a3:(q-p)*b=q*b-p*b:=ie _ _ _;lia
  have L:∀u v:Int,u*b<v*b->u<v:=λu v h=>Int.lt_of_mul_lt_mul_right h ⋯;rcases Int.le_total p q with h|h
  .obtain⟨k1,k2⟩:=ab p q h;have m1:Zp p q=p:=by unfold Zp;split <;> lia
   have m2:Zg p q=q:=by unfold Zg;split <;> lia
   rw[m1,m2];have g1:p<y+1:=L _ _ (by rw[cf,b8];lia);have g2:y<q:=L _ _ ⋯;lia
  .obtain⟨k1,k2⟩:=ab q p h;have m1:Zp p q=q:=by unfold Zp;split <;> lia
   have m2:Zg p q=p:=by unfold Zg;split <;> lia
   rw[m1,m2];have ey:p*b+(q-p)*x=q*b+(p-q)*(b-x):=by rw[ie,ie,jC,jC];lia
   have a1:0<=(p-q)*(b-x):=cb ⋯ ⋯;have a2:(p-q)*(b-x)<=(p-q)*b:=aZ ⋯ ⋯;have a3:(p-q)*b=p*b-q*b:=ie _ _ _;have g1:q<y+1:=L _ _ (by rw[cf,b8];lia);have g2:y<p:=L _ _ ⋯;lia
 have sm:s m=s 0:=by show trT hs t b m/b=t/b;rw[bk]
 have D:∀i,i<m->((List.range m).map s).getD i 0=s i:=λi hi=>by rw[ae,av,aV hi];rfl
 have U:((List.range m).map s).length=m:=by simp
 have c:ClR hs m ((List.range m).map s):=by
  refine⟨U,λx hx=>?_,λi hi=>?_,?_⟩
  .obtain⟨i,hi,rfl⟩:=aH.mp hx;exact Z i (ba (am.mp hi))
  .rw[D i ⋯,D (i+1) hi];exact cv i ⋯
  .rw[D (m-1) ⋯,D 0 ⋯,<-sm];have:=cv (m-1) ⋯;rwa [show m-1+1=m by lia]at this
 have cl:=Qc m1 m2 c;have ce:∀i,i<m->xq ((List.range m).map s) i=s i:=λi hi=>by unfold xq;rw[U,di hi,D i hi]
 refine⟨_,c,?_,?_,?_⟩
 .have tt:∀i,i<=m->trT hs t b i=Q0 hs ((List.range m).map s) t b i:=λi=>by
   induction i with
   |zero=>intro _;exact(ut _ _ _ _).symm
   |succ i ih =>
    intro hi;have ih:=ih ⋯;obtain⟨W,x1⟩:=Z i ⋯;obtain⟨l1,l2⟩:=F i ⋯;show kj hs (trT hs t b i) b=_;rw[Ww W x1 hb ⋯ ⋯,W6 (by rw[U];lia),ce i ⋯,ih]
  have:=tt m (ai _);rw[bk]at this;have tl:=Y6 hs ((List.range m).map s) t b;rw[U]at tl;rw[<-tl];exact this.symm
 .rw[D 0 ⋯];exact(F 0 ⋯).1
 .rw[D 0 ⋯];exact(F 0 ⋯).2
def W9 (hs:List Int)(m:Nat)(p:Int×Int):Prop:=(∃r∈xf hs m,(w4 hs r).1≠1/\p=Q3 (w4 hs r))\/(p.2=1/\0<=p.1/\p.1<=(hs.length:Int)-1/\trT hs p.1 1 m=p.1)
def Zv (hs:List Int)(m:Nat)(k:Int):Prop:=∃r∈xf hs m,(w4 hs r).1=1/\r.getD 0 0=k
theorem wqy (ok:wb hs){m:Nat}(m1:1<=m)(m2:m<=12){p:Int×Int}(hb:1<=p.2)(g:gOf p.1 p.2=1)(on:xr hs p.1 p.2):trT hs p.1 p.2 m=p.1↔(W9 hs m p\/∃k,Zv hs m k/\k*p.2<=p.1/\p.1<=(k+1)*p.2):=by
 constructor
 .intro J;by_cases nd:p.2∣p.1
  .have F:p.2=1:=by have:=yt hb g;have W:=Qn (t:=p.1/p.2) (b:=1) (c:=p.2) ⋯ hb;rw[Int.ediv_mul_cancel nd,b8]at W;rw[this]at W;have h2:=bT Prod.snd W;have Z:=uk (t:=p.1/p.2) (b:=1) ⋯;have h2:p.2=(wy (p.1/p.2) 1).2:=h2;lia
   refine .inl (.inr ⟨F,on.1,?_,by rw[F]at J;exact J⟩);have:=on.2;rw[F]at this;lia
  .obtain⟨r,c,e,U,L⟩:=xwm ok m1 m2 hb on nd J;have D:=(jc ok m1).mpr c;by_cases z:(w4 hs r).1=1
   .exact .inr ⟨_,⟨r,D,z,rfl⟩,gv U,gv L⟩
   .exact .inl (.inl ⟨r,D,z,(xvu z hb g e).symm⟩)
 .rintro ((⟨r,D,z,rfl⟩|⟨F,_,_,J⟩)|⟨k,⟨r,D,z,rfl⟩,U,L⟩)
  .have c:=(jc ok m1).mp D;have:=(wqs (Qc m1 m2 c) z).2;rwa [c.1]at this
  .rw[F];exact J
  .have c:=(jc ok m1).mp D;have:=wv5 (Qc m1 m2 c) z hb (by rw[qzj];exact U) (by rw[qzj];exact L);rwa [c.1]at this
theorem Yw (ok:wb hs){m:Nat}(m1:1<=m)(m2:m<=12){p:Int×Int}(h:W9 hs m p):1<=p.2/\gOf p.1 p.2=1/\xr hs p.1 p.2:=by
 rcases h with⟨r,F,z,rfl⟩|⟨D,J,h1,_⟩
 .have c:=(jc ok m1).mp F;obtain⟨a,b,_⟩:=xw2 z;exact⟨a,b,(wqs (Qc m1 m2 c) z).1⟩
 .refine⟨⋯,?_,J,by rw[D];lia⟩;rw[D];have:=uk (t:=p.1) (b:=1) ⋯;have:=vj (t:=p.1) (b:=1) ⋯;have e:=qqh (t:=p.1) (b:=1) ⋯;have:(1:Int)/gOf p.1 1=1:=by show(wy p.1 1).2=1;lia
  rw[this]at e;lia
def wayW (hs:List Int):Nat->Int->Int
 |0,_=>1
 |t+1,k=>((Ym hs k).map (wayW hs t)).sum
def crS (hs:List Int)(t:Nat):Int:=(j6 (hs.length-1) λk=>wayW hs t k).sum
theorem ww5 (n:Nat)(g:Nat->Int):(j6 n g).length=n:=by unfold j6;rw[af,au]
theorem xj1 {n:Nat}(h0:0<=x)(h1:x<n):atI ((j6 n g).map V.int) x=some (V.int (g x.toNat)):=by
 have e:((j6 n g).map V.int)[x.toNat]?=some (V.int (g x.toNat)):=by unfold j6;rw[av,av,aV ⋯];rfl
 have:=zt e;rwa [show((x.toNat:Nat):Int)=x by lia]at this
theorem wjx (ok:wb hs):∀(t:Nat) (k:Int),0<=k->k<(hs.length:Int)-1->wayW hs t k=jk (hs.length-1) (zn (x6 hs) t k.toNat)
 |0,k,h0,h1=>by have:=wqp (n:=hs.length-1) (i:=k.toNat) ⋯ λ_=>1;show(1:Int)=_;rw[<-this];refine Qv λj _=>?_;rw[g9];rfl
 |t+1,k,h0,h1=>by show((Ym hs k).map (wayW hs t)).sum=jk (hs.length-1) λj=>((x6 hs k.toNat).map λv=>zn (x6 hs) t v.toNat j).sum;rw[qww h0,<-wwm (hs.length-1) (λ(v:Int) j=>zn (x6 hs) t v.toNat j)];congr 1;refine bP λv hv=>?_;have:=W4 ok k v hv;exact wjx ok t v this.1 ⋯
theorem wz0 (ok:wb hs)(m:Nat):crS hs m=jk (hs.length-1) λi=>jk (hs.length-1) (zn (x6 hs) m i):=by show jk (hs.length-1) _=_;refine Qv λi hi=>?_;rw[wjx ok m (i:Int) ⋯ ⋯,bR]
theorem qyn {n:Nat}(e:∀i,i<n->g i<=h i):jk n g<=jk n h:=by
 induction n with
 |zero=>exact cN _
 |succ n ih =>
  have:=ih λi hi=>e i ⋯;have:=e n ⋯;rw[v4,v4];lia
theorem qjh {n:Nat}(h:∀i,0<=g i)(hi:i<n):g i<=jk n g:=by have:=wqp hi g;rw[<-this];refine qyn λk _=>?_;have:=h k;split <;> lia
theorem pow_cr (ok:wb hs){m f:Nat}(hf:f<hs.length-1):zn (x6 hs) m f f<=crS hs m:=by rw[wz0 ok];refine dS (qjh (g:=zn (x6 hs) m f) (Wm _ _ _) hf) (qjh (g:=λi=>jk (hs.length-1) (zn (x6 hs) m i)) (λi=>?_) hf);have:=qyn (n:=hs.length-1) (g:=λ_=>0) (h:=zn (x6 hs) m i) λj _=>Wm _ _ _ _;rwa [qqw _ _ λ_ _=>rfl]at this
theorem Jy (ok:wb hs){m:Nat}(hm:1<=m):((xf hs m).length:Int)<=crS hs m:=by rw[wy0 ok hm,wz0 ok];exact qyn λi hi=>qjh (Wm _ _ _) hi
def TabsAt (H:Hp)(p:Aj)(hs:List Int)(m:Nat):Prop:=∃ys,H p=some (.lst ys)/\ys.length=m+1/\∀i v,ys[i]?=some v->∃q,v=.ref q/\MatAt H q (hs.length-1) (zn (x6 hs) i)
theorem TabsAt.same {p:Aj}{m:Nat}(h:TabsAt H p hs m)(s:Same H H'):TabsAt H' p hs m:=by obtain⟨ys,e,l,r⟩:=h;exact⟨ys,s _ _ e,l,λi v z=>let ⟨q,a,b⟩:=r i v z;⟨q,a,b.same s⟩⟩
theorem TabsAt.at_ {p:Aj}{m:Nat}(h:TabsAt H p hs m){t i j:Int}(t0:0<=t)(t1:t<=m)(i0:0<=i)(i1:i<(hs.length:Int)-1)(j0:0<=j)(j1:j<(hs.length:Int)-1) :
  ∃ys q zs q',H p=some (.lst ys)/\atI ys t=some (.ref q)/\H q=some (.lst zs)/\atI zs i=some (.ref q')/\H q'=some (.lst ((j6 (hs.length-1) (zn (x6 hs) t.toNat i.toNat)).map V.int))/\atI ((j6 (hs.length-1) (zn (x6 hs) t.toNat i.toNat)).map V.int) j=some (.int (zn (x6 hs) t.toNat i.toNat j.toNat)):=by
 obtain⟨ys,fp,l,r⟩:=h;have e:ys[t.toNat]?=some ys[t.toNat]:=aa ⋯;obtain⟨q,U,M⟩:=r _ _ e;obtain⟨zs,z,Z,W⟩:=id M;obtain⟨q',L,J⟩:=M.row z (i:=i.toNat) ⋯;have F:=zt e;have D:=zt L;rw[bO t0,U]at F;rw[bO i0]at D;exact⟨ys,q,zs,q',fp,F,z,D,J,xj1 j0 ⋯⟩
theorem CovAt.at_ {p:Aj}(h:CovAt H p hs){i:Int}(i0:0<=i)(i1:i<(hs.length:Int)-1):∃ys q,H p=some (.lst ys)/\atI ys i=some (.ref q)/\H q=some (.lst ((x6 hs i.toNat).map V.int)):=by obtain⟨ys,fp,l,r⟩:=h;have e:ys[i.toNat]?=some ys[i.toNat]:=aa ⋯;obtain⟨q,D,f⟩:=r _ _ e;have z:=zt e;rw[bO i0,D]at z;exact⟨ys,q,fp,z,f⟩
def Zs:Sp:=λvs H Q _=>∃(c tb:Aj) (hs:List Int) (f m:Nat),vs=[.int ((0:Int)+f),.ref c,.ref tb]/\wb hs/\CovAt H c hs/\TabsAt H tb hs m/\f<hs.length-1/\1<=m/\m<=12/\zn (x6 hs) m f f<=1000 /\
 ∀p ys H',H p=none->Same H H'->H' p=some (.lst ys)->Tups (bgR hs f m (m-1)) ys H'->Q (.ref p) H'
theorem xz3 (h:r≠[]):atI (r.map V.int) (-1)=some (V.int (r.getLastD 0)):=by have e:r=r.dropLast++[r.getLast h]:=(cB h).symm;rw[e,aA];have:=u9 (r.dropLast.map V.int) (V.int (r.getLast h));rw[Z4];exact this
include T in
theorem qj4 (F:Fun K "rows_from" "rows_from" zbz f fd):FK P w K mg base 1 f fd ["first","covers","tables"] Zs:=by
 have sc:=qjq;refine F.okX sc (λvs H Q E h=>by obtain⟨_,_,_,_,_,rfl,_⟩:=h;rfl) λ_ _ _ s H vs Q E L h=>?_;obtain⟨c,tb,hs,f,m,rfl,J,hC,hT,hf,m1,m2,ap,k⟩:=h;have o1:=J.1;have o2:=J.2.1;obtain⟨ts,ft,lt,_⟩:=id hT;refine⟨_,(qj (wp (i:=3) (wx zy (xv xg rfl T.len_ bB (qb (pv 2) qk)) qy))
   (qj (wp (i:=4) (y0 (wu yr (xh zw (xh zw (xh zw (pv 2) (pv 3) (λ_ _=>rfl)) (pv 0) (λ_ _=>rfl)) (pv 0) (λ_ _=>rfl)) qy (wg _)) (k7 (wq1 (z7 (qb (pv 0) qk)) qk)) (k7 qk)))
   (qj (Qj bp rfl (xqf rfl T.range_ (x8 (wx zy (pv 3) qy) (w8 qy (xww (Wy ym qy) qk)))) (wm (i:=5)) (qp (qy9 (i:=4) (M:=[0,1,2,5]) sc.nd rfl (by walk_at "loc") rfl rfl (by walk_at "cap") (by walk_at "has") (by walk_at "cix") rfl (by decide +kernel) rfl rfl (show List.Nodup (["row","onward","first","covers","tables","left"]:List Str) by decide +kernel) (vc (pv 4)) (λ_ _ _ _ _=>(ww1 (K:=K) rfl (xh (jt (K:=K) rfl) (pv 3) (xh (W1 (K:=K) rfl) (pv 0) (Wy ym qy) (λ_ _=>rfl)) (λ_ _=>rfl)))) (λ_ _ _ _ _=>(wu yr (xh (jt (K:=K) rfl) (xh (jt (K:=K) rfl) (xh (jt (K:=K) rfl) (pv 4) (pv 5) (λ_ _=>rfl)) (pv 1) (λ_ _=>rfl)) (pv 2) (λ_ _=>rfl)) qy (wg _))) (λ_ _ _ _ _=>(wx (xz7 (K:=K) rfl) (pv 0) (z7 (qb (pv 1) qk)))))))
   (qp (wn (pv 4)))))),?_⟩
 dsimp only [Yp];refine exI rfl ⟨_,_,rfl,.inl (SqL.of ft),wc rfl rfl ?_⟩;rw[lt];have em:(((m+1:Nat):Int)-1).toNat=m:=by lia
 have ef:((0:Int)+f).toNat=f:=by lia
 obtain⟨ys,q,zs,q',e1,e2,e3,e4,e5,e6⟩:=hT.at_ (t:=((m+1:Nat):Int)-1) (i:=(0:Int)+f) (j:=(0:Int)+f) ⋯ ⋯ ⋯ ⋯ ⋯ ⋯;rw[em,ef]at e5 e6;have an:∀(Pp:St->Hp->Prop),(∀p D H1,H p=none->Same H H1->H1 p=some (.lst D)->Tups (bgR hs f m 0) D H1->Pp [some (.int ((0:Int)+f)),some (.ref c),some (.ref tb),some (.int (((m+1:Nat):Int)-1)),some (.ref p),none] H1)->wx8 (tIf (qqp (tOp (rI0 λi j=>V.bl (decide (j<i))) (tOp (rIxL K) (tOp (rIxL K) (tOp (rIxL K) (yu 2) (yu 3)) (yu 0)) (yu 0)) (tC (V.int 0)))) (tLst (v8 (tTup (v8 (yu 0) qw6)) qw6)) (tLst qw6)) (jp 4) { nx:=Pp,rt:=Q } [some (.int ((0:Int)+f)),some (.ref c),some (.ref tb),some (.int (((m+1:Nat):Int)-1)),none,none] H:=by
  intro Pp hP;refine exI rfl (exI rfl (exX rfl rfl (SqL.of e1) e2 (exI rfl (exX rfl rfl (SqL.of e3) e4 (exI rfl (exX rfl rfl (SqL.of e5) e6 (wc rfl rfl (exI rfl (jq (λz=>?_) (λz=>?_))))))))))
  .refine exI rfl ⟨sz1,λa na=>⟨sz1,λp np=>?_⟩⟩;have Z:=Same.upd (o:=.tup [.int ((0:Int)+f)]) na;refine hP p _ _ (yy Z np) (Z.trans (Same.upd np)) qh ?_;unfold bgR;rw[aw z];exact .cons ⟨a,rfl,(Same.upd np) _ _ qh⟩ .nil
  .refine⟨sz0,λp np=>?_⟩;refine hP p _ _ np (Same.upd np) qh ?_;unfold bgR;rw[ao z];exact .nil
 refine an _ λp D H1 np Z fp U=>?_;refine exI rfl (wc rfl rfl (exI rfl ⟨_,_,rfl,⋯,?_⟩));rw[show(((m+1:Nat):Int)-1-1-0).toNat=m-1 by lia];refine xz4 (λi σ H'=>Same H H'/\∃(p:Aj) (D:List V) (z:Option V),σ=[some (.int ((0:Int)+f)),some (.ref c),some (.ref tb),some (.int (((m+1:Nat):Int)-1)),some (.ref p),z]/\H p=none/\H' p=some (.lst D)/\Tups (bgR hs f m i) D H') ⟨Z,p,D,exI rfl ⟨np,fp,U⟩⟩ ?_ ?_
 .rintro i σ H2 hi ⟨s2,p,D,z,rfl,np,fp,U⟩;have bl:=xq8 J (m:=m) (t:=i) hf ⋯;have eg:(((m+1:Nat):Int)-1-1-i).toNat=m-1-i:=by lia
  refine exI rfl ⟨p,rfl,⟨_,SqL.of fp⟩,wxk (K:=K) (bgR hs f m i) (λr=>x6 hs (r.getLastD 0).toNat) (λv=>decide (0<zn (x6 hs) (m-1-i) v.toNat f)) (SqL.of fp) U ⋯ (λr _=>wq3 J _) (λr a H' R L fa s' W=>?_) (λr a u H' R L hu s' W=>?_) (λr a u H' R L hu hc fa s' W=>?_) λp' ab H' ad s' f' t'=>?_⟩
  .obtain⟨l1,l2,l3⟩:=qws (Zf J hf i r L);obtain⟨vs,q1,g1,g2,g3⟩:=(hC.same s2).at_ l2 l3;have hz:r≠[]:=λz=>by have:=(Zf J hf i r L).1;rw[z]at this;cases this
   exact exI rfl (exI rfl (exI rfl (exX rfl rfl (SqT.of fa) (xz3 hz) (exX rfl rfl (SqL.of (s' _ _ g1)) g2 ⟨q1,rfl,⟨_,SqL.of (s' _ _ g3)⟩,W q1 (SqL.of g3)⟩))))
  .have ur:=W4 J _ u hu;obtain⟨vs,q1,ws,q2,g1,g2,g3,g4,g5,g6⟩:=(hT.same (s2.trans s')).at_ (t:=((m+1:Nat):Int)-1-1-i) (i:=u) (j:=(0:Int)+f) ⋯ ⋯ ur.1 ⋯ ⋯ ⋯;rw[eg,ef]at g6;rw[eg]at g5;exact exI rfl (exI rfl (exX rfl rfl (SqL.of g1) g2 (exI rfl (exX rfl rfl (SqL.of g3) g4 (exI rfl (exX rfl rfl (SqL.of g5) g6 (wc rfl rfl (exI rfl W))))))))
  .have lr:=(Zf J hf i r L).1;have as:(1000000:Nat)<sizeLine:=by decide
   refine exI rfl (exI rfl ⟨sz1,λb nb=>?_⟩);have s3:=Same.upd (o:=.tup [.int u]) nb;refine⟨_,_,_,_,rfl,rfl,SqT.of (s3 _ _ fa),SqT.new,by rw[af];show r.length+1<=sizeLine;lia,λz=>?_,λ_ z=>absurd z (by simp),λ_ _ p7 n7=>?_⟩
   .have:=bT List.length z;rw[af,lr]at this;cases this
   .refine W p7 _ (s3.trans (Same.upd n7)) ?_;rw[qh,aA];rfl
  .exact⟨s2.trans s',p',ab,exI rfl ⟨yy s2 ad,f',t'⟩⟩
 .rintro σ H2 ⟨s2,p,D,z,rfl,np,fp,U⟩;exact exI rfl (k p D H2 np s2 fp U)
def qzp (C CC CT:Aj):Sp:=λvs H Q E=>∃(r:Aj) (hs:List Int) (m:Int),vs=[.ref r,.int m]/\RoadAt C H r hs/\wb hs/\1<=m/\m<=12/\crS hs m.toNat<=1000 /\
 ∀p ys H',H p=none->Same H H'->H' p=some (.lst ys)->Tups (xf hs m.toNat) ys H'->Q (.ref p) H'
theorem wyh (hs:List Int)(m i:Nat):((List.range (i+1)).flatMap λf=>bgR hs f m (m-1))=((List.range i).flatMap λf=>bgR hs f m (m-1))++bgR hs i m (m-1):=by rw[aT,gm];simp
theorem qkc (h:∀i,0<=g i){i:Nat}:∀ {n:Nat},i<=n->jk i g<=jk n g
 |0,e=>by
  obtain rfl:i=0:=by lia
  exact cN _
 |n+1,e=>by
  rcases(by lia:i=n+1\/i<=n) with z|z
  .subst z;exact cN _
  .have:=qkc h z;have:=h n;rw[v4];lia
theorem xqz (ok:wb hs){m:Nat}(hm:1<=m){i:Nat}(h:i<=hs.length-1):((((List.range i).flatMap λf=>bgR hs f m (m-1)).length:Nat):Int)<=crS hs m:=by refine dS ?_ (Jy ok hm);unfold xf;rw[qzd,qzd];exact qkc (λ_=>Int.natCast_nonneg _) h
include T in
theorem wky (F:Fun K "rows" "rows" zay f fd)(zaa:CalD P w K mg base "check_count" 1 (zd qw))(zde:Cal P w K mg base "ways_up_to" 6 (Y0 qx))(zdd:Cal P w K mg base "covers_of" 5 (Qz qx))(zab:MCal P w K mg base qx "width" 1 (kh qx))(zgt:Cal P w K mg base "rows_from" 1 Zs) :
  FK P w K mg base 7 f fd ["road","many"] (qzp qx qw qd):=by
 have sc:=wk6;refine F.okX sc (λvs H Q E h=>by obtain⟨_,_,_,rfl,_⟩:=h;rfl) λ_ _ _ _ H vs Q E hr h=>?_;obtain⟨r,hs,m,rfl,J,D,m1,m2,a3,k⟩:=h;obtain⟨tl,ap⟩:=T.zac;obtain⟨tw,an⟩:=T.zap;have o1:=D.1;have o2:=D.2.1;have a4:(1000000:Nat)<sizeLine:=by decide
 refine⟨_,(qj (xz (zm zaa.all (hr.mono ⋯) rfl qu (qb (pv 1) (w8 qy (qb (zf (v:=V.int 12) rfl ap ⟨_,rfl⟩) qk)))))
   (qj (wp (i:=2) (wCA zde (qb (pv 0) (qb (pv 1) qk))))
   (qj (xn (wu yr (xv (jf (K:=K) rfl rfl) rfl T.sum_ Ws (z9 (kg (M:=[]) rfl rfl (by walk_at "cap") (by walk_at "has") (by walk_at "cix") rfl (by decide +kernel) rfl (show List.Nodup (["counts"]:List Str) by decide +kernel) (vc (xh zw (pv 2) (pv 1) (λ_ _=>rfl))) (λ_ _ _ _ _=>(xv (jf (K:=K) rfl rfl) rfl T.sum_ Ws (qb (pv 0) qk)))) qk)) (zf (v:=V.int 1000) rfl an ⟨_,rfl⟩) (wg _)) (qp (v9 rfl T.zan vw rfl T.zc7 (w8 vg qk))) xw)
   (qj (wp (i:=3) (wCA zdd (qb (pv 0) qk)))
   (qj (wp (i:=4) (k7 qk))
   (qj (Qj bp rfl (zq rfl T.range_ (vf (zc (pv 0) T.cl zab (hr.mono ⋯) qu) qk)) (wm (i:=5)) (qp (xz (qkm cI iq ir qkn (pv 4) (vf (wCA zgt (qb (pv 5) (qb (pv 3) (qb (pv 2) qk)))) qk)))))
   (qp (wn (pv 4))))))))),?_⟩
 dsimp only [Yp];refine⟨_,rfl,m,1,.int 12,some 12,rfl,.inr ⟨12,rfl,rfl⟩,λ_=>?_,λhw=>absurd ⟨m1,λz e=>by cases e;exact m2⟩ hw⟩;refine exI rfl (exI rfl ⟨r,hs,m,rfl,J,D,⋯,⋯,λtb U H1 Z f1 l1 g1=>?_⟩);have e:U[m.toNat]?=some U[m.toNat]:=aa ⋯;obtain⟨q,eq,M⟩:=g1 _ _ e;have ea:atI U m=some (.ref q):=by have:=zt e;rwa [bO ⋯,eq]at this
 obtain⟨zs,fq,lz,rz⟩:=id M;have a0:TabsAt H1 tb hs m.toNat:=⟨U,f1,l1,g1⟩;refine exI rfl (exI rfl (exX rfl rfl (SqL.of f1) ea ⟨q,rfl,⟨_,SqL.of fq⟩,Qh (K:=K) (λi v _=>v=V.int (jk (hs.length-1) (zn (x6 hs) m.toNat i))) (λi v H H' p g _ _=>g) (SqL.of fq) ⋯ (λi x H2 R hx s2 J=>?_) λp2 as H2 n2 s2 f2 l2 g2=>?_⟩))
 .obtain⟨a,rfl,fa⟩:=rz i x hx;exact exI rfl ⟨a,exI rfl ⟨SqL.of (s2 _ _ fa),J _ _ (Same.refl _) rfl λb e=>nomatch e⟩⟩
 have ey:as=(j6 (hs.length-1) λi=>jk (hs.length-1) (zn (x6 hs) m.toNat i)).map V.int:=by
  refine b9 λi=>?_;by_cases z:i<hs.length-1
  .rw[av,qzk z,aa ⋯,(g2 i _ (aa ⋯)).1];rfl
  .rw[aG ⋯,aG (by rw[af,ww5];lia)]
 rw[ey]at f2;refine⟨p2,exI rfl ⟨SqL.of f2,wc rfl rfl (exI rfl ?_)⟩⟩;have ec:(j6 (hs.length-1) λi=>jk (hs.length-1) (zn (x6 hs) m.toNat i)).sum=crS hs m.toNat:=(wz0 D _).symm;rw[ec];refine jq (λz=>absurd z ⋯) (λz=>?_);refine exI rfl ⟨r,hs,rfl,J.same (Z.trans s2),D,λc H3 n3 W C3=>?_⟩;refine⟨sz0,λp np=>?_⟩;have s4:=Same.upd (o:=.lst []) np;have ad:=Z.trans (s2.trans (W.trans s4));obtain⟨dx,q0,h1,h2⟩:=id J;refine exI rfl ⟨r,dx,exI rfl ⟨ad _ _ h1,w5 (by decide +kernel),r,hs,rfl,J.same ad,exI rfl ⟨⋯,⋯,?_⟩⟩⟩;rw[show((hs.length:Int)-1).toNat=hs.length-1 by lia];have a2:H p=none:=yy (Z.trans (s2.trans W)) np;have a1:=Z.trans (s2.trans W);have T3:=a0.same (s2.trans W);refine u8 (λi σ H'=>Same H3 H'/\∃(us:List V) (z:Option V),σ=[some (.ref r),some (.int m),some (.ref tb),some (.ref c),some (.ref p),z]/\H' p=some (.lst us)/\Tups ((List.range i).flatMap λf=>bgR hs f m.toNat (m.toNat-1)) us H')
  ⟨s4,[],exI rfl ⟨qh,.nil⟩⟩ ?_ ?_
 .rintro i σ H5 hi ⟨s5,us,z,rfl,f5,t5⟩;have pi:=pow_cr D (m:=m.toNat) hi;have l5:=xqz D (m:=m.toNat) ⋯ (i:=i) ⋯;have l6:=xq8 D (m:=m.toNat) (t:=m.toNat-1) hi ⋯;refine exI rfl ⟨.inl ⟨rfl,_,SqL.of f5⟩,exI rfl (exI rfl (exI rfl ⟨c,tb,hs,i,m.toNat,rfl,D,C3.same s5,T3.same s5,hi,⋯,⋯,⋯,λp6 ab H6 n6 L f6 t6=>?_⟩))⟩;have lu:=t5.len;have ly:=t6.len;refine⟨p,p6,us,ab,rfl,rfl,L _ _ f5,f6,⋯,?_⟩;refine⟨Same.upd2 (s5.trans L) np,us++ab,exI rfl ⟨qh,?_⟩⟩
  .rw[wyh];exact Paired.app ((t5.same L).upd (L _ _ f5)) (t6.upd (L _ _ f5))
 .rintro σ H5 ⟨s5,us,z,rfl,f5,t5⟩;exact exI rfl (k p us H5 a2 (a1.trans s5) f5 t5)
def Wv (K:Aa)(C CB CO CC:Aj):Sp:=λvs H Q E=>∃(r p:Aj) (hs:List Int) (t b m:Int),vs=[.ref r,.ref p,.int m]/\RoadAt C H r hs/\wb hs/\SqT K H p [.int t,.int b] /\
 (1<=b->Sm 8000 b/\(xr hs t b->(Within m 0 (some 1000)->∀q H',H q=none->Same H H'->wj1 H' q (Wk hs (wy t b) (m.toNat+1))->Q (.ref q) H')/\(¬ Within m 0 (some 1000)->∀H',Same H H'->E (.ref CC) none H')) /\
  (¬ xr hs t b->∀H',Same H H'->E (.ref CO) none H'))/\(b<1->E (.ref CB) none H)
include T in
theorem wyu (F:Fun K "walked" "walked" zcc f fd)(zaa:CalD P w K mg base "check_count" 1 (zd qw))(zaf:MCal P w K mg base qx "on_road" 3 (jm K qx qv qf))
  (zdf:MCal P w K mg base qx "at" 4 (spAt K qx qv qf)):FK P w K mg base 5 f fd ["road","point","many"] (Wv K qx qv qf qw):=by
 have sc:=wu4;refine F.okX sc (λvs H Q E h=>by obtain⟨_,_,_,_,_,_,rfl,_⟩:=h;rfl) λ_ _ _ _ H vs Q E hr h=>?_;obtain⟨r,p,hs,t,b,m,rfl,hR,ab,hp,kq,x⟩:=h;obtain⟨dx,q0,h1,h2⟩:=id hR;obtain⟨tm,ap⟩:=T.zaq;refine⟨_,(qj (wp (i:=3) (zj (pv 0) T.cl zaf (hr.mono ⋯) qu (qb (pv 1) qk)))
   (qj (xz (zm zaa.all (hr.mono ⋯) rfl qu (qb (pv 2) (w8 qy (qb (zf (v:=V.int 1000) rfl ap ⟨_,rfl⟩) qk)))))
   (qj (wp (i:=4) (k7 (qb (pv 3) qk)))
   (qj (uf bp (wu wkn (xv xg rfl T.len_ bB (qb (pv 4) qk)) (pv 2) (wg _)) (qp (xz (qkm cI eT eU W5 (pv 4) (vf (zj (pv 0) T.cl zdf (hr.mono ⋯) qu (yq (xh zw (pv 4) (Wy ym qy) (λ_ _=>rfl)) qk)) qk)))))
   (qp (wn (pv 4))))))),?_⟩
 refine⟨_,rfl,r,dx,_,rfl,h1,w5 (by decide +kernel),_,rfl,r,p,hs,t,b,rfl,hR,ab,hp,λhb=>⟨(kq hb).1,λan W H1 D f1=>?_,λa0 H1 D=>(kq hb).2.2 a0 H1 D⟩,λz=>x z⟩;obtain⟨sb,k1,_⟩:=kq hb;obtain⟨k2,k3⟩:=k1 an;refine⟨_,rfl,m,0,.int 1000,some 1000,rfl,.inr ⟨1000,rfl,rfl⟩,λL=>?_,λL=>k3 L _ D⟩;have m0:=L.1;have m1:=L.2 1000 rfl;have P0:=qxb hb an;refine exI rfl ⟨sz1,λq J=>?_⟩;have as:H q=none:=by
  cases e:H q with
  |none=>rfl
  |some o=>rw[D _ _ e]at J;cases J
 have dq:W≠q:=wj f1 J;refine uh (λσ H2=>∃(n:Nat) (vs:List V),σ=[some (.ref r),some (.ref p),some (.int m),some (.ref W),some (.ref q)]/\(n:Int)<=m/\Same H1 H2/\H2 q=some (.lst vs)/\Paired (PtR H2) vs (Wk hs (wy t b) (n+1)))
  (λ_ H2=>match H2 q with|some (.lst vs)=>(m+1).toNat-vs.length|_=>0) ⟨0,[.ref W],rfl,⋯,Same.upd J,qh,.cons ⟨W,rfl,by rw[wv dq];exact f1⟩ .nil⟩ ?_ λσ H Q Q' h ⟨v,e,p',ys,e1,e2,v2,e3,i,j,e4,e5,kk,e6,qq⟩=>⟨v,e,p',ys,e1,e2,v2,e3,i,j,e4,e5,kk,e6,h _ _ qq⟩
 rintro σ H2 ⟨n,vs,rfl,hn,s2,f2,pr⟩;have Z:vs.length=n+1:=by rw[pr.length,jr]
 refine exI rfl ⟨_,_,rfl,.inl (SqL.of f2),exI rfl (wc rfl rfl (exI rfl ?_))⟩;rw[Z];refine jq (λq1=>?_) (λq1=>?_)
 .have Pn:=xw9 ab P0 n;obtain⟨v,ev,⟨a,rfl,fa⟩⟩:=yd (i:=n) (b:=itP hs (wy t b) n) pr (by rw[qqy,aF (by rw[jr];exact ai _),jr];simp);have a1:atI vs (-1)=some (.ref a):=by
   have hz:vs≠[]:=λz=>by rw[z]at Z;simp at Z
   have e1:vs=vs.dropLast++[vs.getLast hz]:=(cB hz).symm;have e2:vs.getLast hz=.ref a:=by
    rw[iH];have:vs[n]?=vs[vs.length-1]?:=by rw[Z];rfl
    rw[this,aa ⋯]at ev;exact ak ev
   rw[e1,e2];exact u9 _ _
  have ad:=D.trans s2;refine⟨_,rfl,.inl ⟨rfl,_,SqL.of f2⟩,_,rfl,r,dx,_,rfl,ad _ _ h1,w5 (by decide +kernel),_,rfl,_,rfl,_,_,_,_,rfl,rfl,SqL.of f2,a1,r,a,hs,(itP hs (wy t b) n).1,(itP hs (wy t b) n).2,rfl,hR.same ad,ab,SqT.of fa,λ_=>⟨(sb.of_le (by have:=Pn.2.1;have:=Pn.1;lia)),λ_ U H3 s3 f3=>?_,λz=>absurd Pn.2.2.2 z⟩,λz=>absurd Pn.1 ⋯⟩;have g2:=s3 _ _ f2;refine⟨_,_,_,rfl,rfl,g2,Jn ⋯,⟨n+1,vs++[.ref U],rfl,⋯,λb o e=>?_,qh,?_⟩,?_⟩
  .rw[wv (wj e J)];exact s3 _ _ (s2 _ _ e)
  .rw[qqy hs (wy t b) (n+1)];refine Paired.snoc (ww0 (λ_ _ z=>(z.same s3).upd g2) pr) (PtR.upd ⟨U,rfl,?_⟩ g2);exact f3
  .show(match upd H3 q (.lst (vs++[.ref U])) q with|some (.lst vs)=>(m+1).toNat-vs.length|_=>0)<(match H2 q with|some (.lst vs)=>(m+1).toNat-vs.length|_=>0);rw[qh,f2];show(m+1).toNat-(vs++[V.ref U]).length<(m+1).toNat-vs.length;rw[ar,cq];lia
 .have en:m.toNat=n:=by lia
  refine exI rfl (k2 L q H2 as (D.trans s2) ⟨vs,f2,?_⟩);rw[en];exact pr
def Dist {α:Type}(f:Nat->α)(n:Nat):Prop:=∀i j,i<j->j<n->f i≠f j
theorem Dist.mono {α:Type}{f:Nat->α}{m n:Nat}(h:Dist f n)(le:m<=n):Dist f m:=λi j a b=>h i j a ⋯
theorem Dist.succ {α:Type}{f:Nat->α}{n:Nat}(h:Dist f n)(h':∀j,j<n->f j≠f n):Dist f (n+1):=λi j a b=>by
 rcases(by lia:j<n\/j=n) with z|z
 .exact h i j a z
 .subst z;exact h' i a
theorem shift {α:Type}{f:Nat->α}(st:∀i j,f i=f j->f (i+1)=f (j+1)){n u:Nat}(e:f n=f u):∀k,f (n+k)=f (u+k)
 |0=>e
 |k+1=>st _ _ (shift st e k)
theorem per {α:Type}{f:Nat->α}(st:∀i j,f i=f j->f (i+1)=f (j+1)){n u:Nat}(hu:u<n)(e:f n=f u)(m:Nat):u<=m->f m=f (u+(m-u)%(n-u)):=by
 induction m using Nat.strongRecOn with
 |_ m ih =>
  intro D;rcases bj m n with z|z
  .rw[di ⋯];congr 1;lia
  .have h1:=shift st e (m-n);rw[show n+(m-n)=m by lia]at h1;have h2:=ih (u+(m-n)) ⋯ ⋯;rw[h1,h2,show u+(m-n)-u=m-u-(n-u) by lia,<-Nat.mod_eq_sub_mod ⋯]
theorem xk6 {n u:Nat}(h:(u:Int)<=m)(hu:u<n):(u:Int)+(m-u)%((n:Int)-u)=((u+(m.toNat-u)%(n-u):Nat):Int):=by
 have D:m-(u:Int)=((m.toNat-u:Nat):Int):=by lia
 have z:(n:Int)-(u:Int)=((n-u:Nat):Int):=by lia
 rw[D,z];push_cast;rfl
theorem it_st:∀i j,itP hs p i=itP hs p j->itP hs p (i+1)=itP hs p (j+1):=λi j e=>by show Wq hs (itP hs p i).1 (itP hs p i).2=Wq hs (itP hs p j).1 (itP hs p j).2;rw[e]
theorem xkk {t:Int}(hb:1<=b)(g:gOf t b=1):wy t b=(t,b):=by unfold wy;rw[g,iP,iP]
theorem it_tr (h:Pt hs c p)(n:Nat):itP hs p n=wy (trT hs p.1 p.2 n) p.2:=by rw[qyx h.1,xkk h.1 h.2.2.1]
theorem xj8 (hb:1<=b)(e:wy x b=wy y b):x=y:=by have h1:=(qkj (N:=x) hb).2;have h2:=(qkj (N:=y) hb).2;rw[e]at h1;lia
theorem it_eq (h:Pt hs c p)(i j:Nat):itP hs p i=itP hs p j↔trT hs p.1 p.2 i=trT hs p.1 p.2 j:=by rw[it_tr h,it_tr h];exact⟨λe=>xj8 h.1 e,λe=>by rw[e]⟩
def Qm (p:Int×Int):List Key:=[.inl p.1,.inl p.2]
theorem wxd {q:Int×Int}(e:Qm p=Qm q):p=q:=by unfold Qm at e;simp only[List.cons.injEq,Sum.inl.injEq,and_true]at e;exact iB e.1 e.2
def Qt {κ:Type}(k:Nat->κ)(n:Nat):List (κ×V):=(List.range n).map λi=>(k i,V.int i)
variable {κ:Type}
theorem qv2 (k:Nat->κ)(n:Nat):Qt k (n+1)=Qt k n++[(k n,V.int n)]:=by unfold Qt;rw[aT,aA];rfl
theorem Q5 (k:Nat->κ)(n:Nat):(Qt k n).length=n:=by unfold Qt;rw[af,au]
theorem qkz [DecidableEq κ]{k:Nat->κ}{q:κ}{n:Nat}(h:∀j,j<n->k j≠q):uy (Qt k n) q=none:=by
 unfold uy Qt;rw[List.find?_eq_none.mpr]
 .rfl
 .intro x z;obtain⟨i,hi,rfl⟩:=aH.mp z;simpa using h i (am.mp hi)
theorem qv6 [DecidableEq κ]{k:Nat->κ}{j:Nat}:∀ {n:Nat},Dist k n->j<n->uy (Qt k n) (k j)=some (.int j)
 |0,_,h=>absurd h ⋯
 |n+1,d,h=>by
  rw[qv2,qvt _ _ _ _ (qkz λi hi=>d i n hi ⋯)];rcases(by lia:j<n\/j=n) with z|z
  .rw[ao (d j n z ⋯),qv6 (d.mono ⋯) z]
  .subst z;rw[aw rfl]
theorem wjp {γ δ:Type}{F:α->β->Prop}{G:α->γ->Prop}(g:δ->β)(f:δ->γ)(h:∀a x,F a (g x)->G a (f x)):∀ {l:List δ} {vs:List α},Paired F vs (l.map g)->Paired G vs (l.map f)
 |[],_,.nil=>.nil
 |_::_,_,.cons a t=>.cons (h _ _ a) (wjp g f h t)
def Y5 (C CT:Aj):Sp:=λvs H Q E=>∃(r a:Aj) (hs:List Int) (p:Int×Int) (c:Int),vs=[.ref r,.ref a]/\RoadAt C H r hs/\wb hs/\H a=some (.tup [.int p.1,.int p.2])/\Pt hs c p/\Sm 8000 c /\
 (∀n u q l H',n<=1000->Dist (itP hs p) n->u<n->itP hs p n=itP hs p u->Same H H'->H l=none->H' q=some (.tup [.ref l,.int ((u:Nat):Int)])->wj1 H' l (Wk hs p n)->Q (.ref q) H')/\(Dist (itP hs p) 1001->∀H',Same H H'->E (.ref CT) none H')
include T in
theorem xvw (F:Fun K "trace" "trace" zcd f fd)(zdf:MCal P w K mg base qx "at" 4 (spAt K qx qv qf)):FK P w K mg base 5 f fd ["road","start"] (Y5 qx qd):=by
 have sc:=xvf;refine F.okX sc (λvs H Q E h=>by obtain⟨_,_,_,_,_,rfl,_⟩:=h;rfl) λ_ _ _ _ H vs Q E U h=>?_;obtain⟨r,a,hs,p,c,rfl,hR,ab,ha,hP,as,k,x⟩:=h;obtain⟨dx,q0,h1,h2⟩:=id hR;obtain⟨tm,ap⟩:=T.zao;refine⟨_,(qj (wp (i:=2) xvk)
   (qj (wp (i:=3) (pv 1))
   (qj (uf bp (pt_cmp (wyk (xx8 U) (pv 3) (pv 2))) (qj (xn (wu zg (xv qkk rfl T.len_ bB (qb (pv 2) qk)) (zf (v:=V.int 1000) rfl ap ⟨_,rfl⟩) (wg _)) (qp (v9 rfl T.zan vw rfl T.zc7 (w8 vg qk))) xw)
   (qj (xv7 (xx8 U) (pv 2) (pv 3) (xv qkk rfl T.len_ bB (qb (pv 2) qk)) rfl)
   (qp (wp (i:=3) (zj (pv 0) T.cl zdf (U.mono ⋯) qu (qb (pv 3) qk)))))))
   (qp (wn (z7 (vf (Jj (wzs rfl) rfl T.list_ de (qb (pv 2) qk)) (yq (xkj (xx8 U) (pv 2) (pv 3) (λ_ _=>rfl)) qk)))))))),?_⟩
 refineλD nD=>exI rfl ?_;refine uh (λσ H2=>∃(i:Nat) (b:Aj),σ=[some (.ref r),some (.ref a),some (.ref D),some (.ref b)]/\i<=1000/\Dist (itP hs p) i/\Same H H2/\H2 D=some (.dT (Qt (λj=>Qm (itP hs p j)) i))/\H2 b=some (.tup [.int (itP hs p i).1,.int (itP hs p i).2]))
  (λ_ H2=>match H2 D with|some (.dT kvs)=>1001-kvs.length|_=>0) ⟨0,a,rfl,⋯,λi j _ z=>absurd z ⋯,Same.upd nD,qh,by rw[wv (wj ha nD)];exact ha⟩ ?_ λσ H Q Q' h ⟨v,e,v2,e2,a',o,e3,g,kk,e4,q⟩=>⟨v,e,v2,e2,a',o,e3,g,kk,e4,h _ _ q⟩
 rintro σ H2 ⟨i,b,rfl,hi,hd,s2,f2,fb⟩;have a2:Dist (λj=>Qm (itP hs p j)) i:=λu v uv vi e=>hd u v uv vi (wxd e);have W:H2 b=some (.tup ((Qm (itP hs p i)).map kV)):=fb;by_cases hj:∃j,j<i/\itP hs p j=itP hs p i
 .obtain⟨j,ji,je⟩:=hj;have hv:uy (Qt (λj=>Qm (itP hs p j)) i) (Qm (itP hs p i))=some (.int j):=by rw[<-je];exact qv6 a2 ji
  have dg:DGet H2 D (.ref b) (some (.int j)):=by have:=DGet.t f2 W;rwa [hv]at this
  refine exI rfl (exI rfl ⟨D,exI rfl ⟨dg,_,rfl,?_⟩⟩);refine Y8 ?_;refine exI rfl ⟨D,exI rfl ⟨f2,λl vs nl a1=>?_⟩⟩;have J:=Same.upd (o:=.lst vs) nl;have a4:DGet (upd H2 l (.lst vs)) D (.ref b) (some (.int j)):=by have:=DGet.t (J _ _ f2) (J _ _ W);rwa [hv]at this
  refine exI rfl (exI rfl ⟨D,exI rfl ⟨a4,sz2,λq nq=>?_⟩⟩);have L:=J.trans (Same.upd (o:=.tup [.ref l,.int j]) nq);have a0:H l=none:=by
   cases e:H l with
   |none=>rfl
   |some o=>rw[s2 _ _ e]at nl;cases nl
  refine k i j q l _ hi hd ji je.symm (s2.trans L) a0 qh ⟨vs,Same.upd nq _ _ qh,?_⟩;refine wjp (l:=List.range i) (λj=>(Qm (itP hs p j),V.int j)) (itP hs p) (λv j hv=>?_) a1;obtain⟨b',rfl,a3⟩:=hv;exact⟨b',rfl,L _ _ a3⟩
 .have hn:∀j,j<i->itP hs p j≠itP hs p i:=λj a b=>hj ⟨j,a,b⟩;have hv:uy (Qt (λj=>Qm (itP hs p j)) i) (Qm (itP hs p i))=none:=qkz λj a b=>hn j a (wxd b);have dg:DGet H2 D (.ref b) none:=by have:=DGet.t f2 W;rwa [hv]at this
  have ad:=hd.succ hn;refine exI rfl (exI rfl ⟨D,exI rfl ⟨dg,_,rfl,?_⟩⟩);refine Q6 ?_;refine exI rfl ⟨D,exI rfl ⟨f2,rfl,_,rfl,?_⟩⟩;rw[Q5];refine jx (λq1=>?_) (λq1=>?_)
  .have:i=1000:=by lia
   subst this;exact⟨sz1,x ad _ s2⟩
  .refine exI rfl ⟨D,exI rfl ⟨f2,exI rfl (exI rfl ⟨D,exI rfl ⟨DPut.t f2 W (Jn (by rw[Q5];lia)),?_⟩⟩)⟩⟩;rw[xxr _ hv,Q5,<-qv2 (λj=>Qm (itP hs p j)) i];have J:Same H (upd H2 D (.dT (Qt (λj=>Qm (itP hs p j)) (i+1)))):=Same.upd2 s2 nD;have db:b≠D:=λz=>by rw[z,f2]at fb;cases fb
   have an:upd H2 D (.dT (Qt (λj=>Qm (itP hs p j)) (i+1))) b=some (.tup [.int (itP hs p i).1,.int (itP hs p i).2]):=by rw[wv db];exact fb
   have f3:upd H2 D (.dT (Qt (λj=>Qm (itP hs p j)) (i+1))) D=some (.dT (Qt (λj=>Qm (itP hs p j)) (i+1))):=qh;generalize upd H2 D (.dT (Qt (λj=>Qm (itP hs p j)) (i+1)))=H3 at J an f3;have Z:=xw9 ab hP i;refine⟨_,rfl,r,dx,_,rfl,J _ _ h1,w5 (by decide +kernel),_,rfl,r,b,hs,(itP hs p i).1,(itP hs p i).2,rfl,hR.same J,ab,SqT.of an,λ_=>⟨(as.of_le (by have:=Z.2.1;have:=Z.1;lia)),λ_ p4 H4 L f4=>?_,λz=>absurd Z.2.2.2 z⟩,λz=>absurd Z.1 ⋯⟩;refine⟨⟨i+1,p4,rfl,⋯,ad,J.trans L,L _ _ f3,f4⟩,?_⟩;show(match H4 D with|some (.dT kvs)=>1001-kvs.length|_=>0)<(match H2 D with|some (.dT kvs)=>1001-kvs.length|_=>0);rw[L _ _ f3,f2];show 1001-(Qt (λj=>Qm (itP hs p j)) (i+1)).length<1001-(Qt (λj=>Qm (itP hs p j)) i).length;rw[Q5,Q5];lia
def TrAt (H:Hp)(l:Aj)(hs:List Int)(p:Int×Int)(n u:Nat):Prop:=n<=1000/\Dist (itP hs p) n/\u<n/\itP hs p n=itP hs p u/\wj1 H l (Wk hs p n)
variable {vs:List V}
theorem xws {n:Nat}(h:Paired (PtR H) vs (Wk hs p n))(hi:i<n):∃a,vs[i]?=some (.ref a)/\H a=some (.tup [.int (itP hs p i).1,.int (itP hs p i).2]):=by
 obtain⟨v,z,⟨a,rfl,fa⟩⟩:=yd (i:=i) (b:=itP hs p i) h (by
  unfold Wk
  rw[av,aV hi]
  rfl)
 exact⟨a,z,fa⟩
def qk3 (K:Aa)(C:Aj):Sp:=λvs H Q _=>∃(r p:Aj) (hs:List Int) (t b:Int),vs=[.ref r,.ref p]/\RoadAt C H r hs/\wb hs/\SqT K H p [.int t,.int b]/\(1<=b/\Sm 8000 b/\xr hs t b/\¬ Dist (itP hs (wy t b)) 1001) /\
 ∀n u H',Same H H'->n<=1000->Dist (itP hs (wy t b)) n->u<n->itP hs (wy t b) n=itP hs (wy t b) u->Q (if u=0 then .int (n:Nat) else .non) H'
include T in
theorem xw0 (F:Fun K "least" "least" zch f fd)(zaf:MCal P w K mg base qx "on_road" 3 (jm K qx qv qf))(zbd:Cal P w K mg base "trace" 5 (Y5 qx qd)):FK P w K mg base 6 f fd ["road","point"] (qk3 K qx):=by
 have sc:=xxt;refine F.okX sc (λvs H Q E h=>by obtain⟨_,_,_,_,_,rfl,_⟩:=h;rfl) λ_ _ _ _ H vs Q E hr h=>?_;obtain⟨r,p,hs,t,b,rfl,J,Z,hp,⟨hb,L,W,nd⟩,k⟩:=h;obtain⟨dx,q0,h1,h2⟩:=id J;refine⟨_,(qj (vn (wCA zbd (qb (pv 0) (vf (zj (pv 0) T.cl zaf (hr.mono ⋯) qu (qb (pv 1) qk)) qk))) (vy rfl (wt (wm (i:=2)) (wt (wm (i:=3)) x9))))
   (qp (wn (y0 (wu zg (pv 3) qy (wg _)) (xv xg rfl T.len_ bB (qb (pv 2) qk)) Jz)))),?_⟩
 refine⟨_,rfl,_,rfl,r,dx,_,rfl,h1,w5 (by decide +kernel),_,rfl,r,p,hs,t,b,rfl,J,Z,hp,λ_=>⟨L,λ_ p1 H1 U f1=>?_,λz=>absurd W z⟩,λz=>absurd hb ⋯⟩;refine⟨r,p1,hs,wy t b,b,rfl,J.same U,Z,f1,qxb hb W,L,λn u q3 l3 H3 n1 d1 u1 e1 s3 _ f3 ab=>?_,λd=>absurd d nd⟩;obtain⟨ws,fl,pr⟩:=ab;have lw:ws.length=n:=by rw[pr.length,jr]
 refine⟨q3,exI rfl ⟨SqT.of f3,rfl,_,_,rfl,_,_,rfl,rfl,?_⟩⟩;have D:=k n u H3 (U.trans s3) n1 d1 u1 e1;refine exI rfl ⟨rfl,_,rfl,jx (λz=>?_) (λz=>?_)⟩
 .rw[aw ⋯]at D;refine exI rfl ⟨_,_,rfl,.inl (SqL.of fl),?_⟩;rw[lw];exact D
 .rw[ao ⋯]at D;exact D
def wz6:Sp:=λvs H Q _=>∃(l:Aj) (hs:List Int) (p:Int×Int) (n u:Nat) (m:Int),vs=[.ref l,.int u,.int m]/\TrAt H l hs p n u/\0<=m/\∀a,H a=some (.tup [.int (itP hs p m.toNat).1,.int (itP hs p m.toNat).2])->Q (.ref a) H
include T in
theorem xv5 (F:Fun K "spot" "spot" zce f fd):FK P w K mg base 1 f fd ["points","turn","many"] wz6:=by
 have U:=xv0;refine F.okX U (λvs H Q E h=>by obtain⟨_,_,_,_,_,_,rfl,_⟩:=h;rfl) λ_ _ _ _ H vs Q E hr h=>?_;obtain⟨l,hs,p,n,u,m,rfl,⟨n1,hd,J,e,vs,z,pr⟩,Z,k⟩:=h;have L:vs.length=n:=by rw[pr.length,jr]
 refine⟨_,(qj (xn (wu Wp (pv 2) (pv 1) (wg _)) (qp (wn (xh zw (pv 0) (pv 2) (λ_ _=>rfl)))) xw)
   (qp (wn (xh zw (pv 0) (wx xu (pv 1) (wx v3 (wx zy (pv 2) (pv 1)) (wx zy (xv xg rfl T.len_ bB (qb (pv 0) qk)) (pv 1)))) (λ_ _=>rfl))))),?_⟩
 refine exI rfl (exI rfl (wc rfl rfl (exI rfl ?_)));refine jq (λW=>?_) (λW=>?_)
 .obtain⟨a,D,fa⟩:=xws (i:=m.toNat) pr ⋯;refine exI rfl (exI rfl (exX rfl rfl (SqL.of z) ?_ (k a fa)));have:=zt D;rwa [bO Z]at this
 .have hm:(u:Int)<=m:=by lia
  have lt:=dN (m.toNat-u) (show 0<n-u by lia);obtain⟨a,D,fa⟩:=xws (i:=u+(m.toNat-u)%(n-u)) pr ⋯;rw[<-per it_st J e m.toNat ⋯]at fa;refine exI rfl (exI rfl (exI rfl (exI rfl (wc rfl rfl (exI rfl ⟨_,_,rfl,.inl (SqL.of z),exI rfl (wc rfl rfl (wc rfl rfl ⟨?_,wc rfl rfl (exX rfl rfl (SqL.of z) ?_ (k a fa))⟩))⟩)))))
  .rw[L];show(0:Int)<(n:Int)-u;lia
  .rw[L,xk6 hm J];exact zt D
def xvn (K:Aa)(C CB CO CC CT:Aj):Sp:=λvs H Q E=>∃(r p:Aj) (hs:List Int) (t b m:Int),vs=[.ref r,.ref p,.int m]/\RoadAt C H r hs/\wb hs/\SqT K H p [.int t,.int b] /\
 (1<=b->Sm 8000 b/\(xr hs t b->(Within m 0 (some (1000000000000000000000000000000000000000000000000000000000000))->(¬ Dist (itP hs (wy t b)) 1001->∀q H',Same H H'->H' q=some (.tup [.int (itP hs (wy t b) m.toNat).1,.int (itP hs (wy t b) m.toNat).2])->Q (.ref q) H')/\(Dist (itP hs (wy t b)) 1001->∀H',Same H H'->E (.ref CT) none H'))/\(¬ Within m 0 (some (1000000000000000000000000000000000000000000000000000000000000))->∀H',Same H H'->E (.ref CC) none H')) /\
  (¬ xr hs t b->∀H',Same H H'->E (.ref CO) none H'))/\(b<1->E (.ref CB) none H)
include T in
theorem zgu (F:Fun K "far" "far" zcf f fd)(zaa:CalD P w K mg base "check_count" 1 (zd qw))(zaf:MCal P w K mg base qx "on_road" 3 (jm K qx qv qf))
  (zbd:Cal P w K mg base "trace" 5 (Y5 qx qd)) (zgv:Cal P w K mg base "spot" 1 wz6):FK P w K mg base 6 f fd ["road","point","many"] (xvn K qx qv qf qw qd):=by
 have sc:=zf5;refine F.okX sc (λvs H Q E h=>by obtain⟨_,_,_,_,_,_,rfl,_⟩:=h;rfl) λ_ _ _ _ H vs Q E hr h=>?_;obtain⟨r,p,hs,t,b,m,rfl,W,ad,hp,U,x⟩:=h;obtain⟨dx,q0,h1,h2⟩:=id W;obtain⟨tm,an⟩:=T.zae;refine⟨_,(qj (wp (i:=3) (zj (pv 0) T.cl zaf (hr.mono ⋯) qu (qb (pv 1) qk)))
   (qj (xz (zm zaa.all (hr.mono ⋯) rfl qu (qb (pv 2) (w8 qy (qb (zf (v:=V.int 1000000000000000000000000000000000000000000000000000000000000) rfl an ⟨_,rfl⟩) qk)))))
   (qj (vn (wCA zbd (qb (pv 0) (qb (pv 3) qk))) (vy rfl (wt (wm (i:=4)) (wt (wm (i:=5)) x9))))
   (qp (wn (wCA zgv (qb (pv 4) (qb (pv 5) (qb (pv 2) qk))))))))),?_⟩
 refine⟨_,rfl,r,dx,_,rfl,h1,w5 (by decide +kernel),_,rfl,r,p,hs,t,b,rfl,W,ad,hp,λL=>⟨(U L).1,λab p1 H1 D f1=>?_,λap H1 D=>(U L).2.2 ap H1 D⟩,λz=>x z⟩;obtain⟨sb,k1,_⟩:=U L;obtain⟨k2,k3⟩:=k1 ab;refine⟨_,rfl,m,0,.int (1000000000000000000000000000000000000000000000000000000000000),some (1000000000000000000000000000000000000000000000000000000000000),rfl,.inr ⟨1000000000000000000000000000000000000000000000000000000000000,rfl,rfl⟩,λJ=>?_,λJ=>k3 J _ D⟩;obtain⟨k4,k5⟩:=k2 J;refine⟨_,rfl,_,rfl,r,p1,hs,wy t b,b,rfl,W.same D,ad,f1,qxb L ab,sb,λn u q l H2 n1 d1 Z e1 s2 nl f2 pa=>?_,λd H2 s2=>k5 d _ (D.trans s2)⟩;have nd:¬ Dist (itP hs (wy t b)) 1001:=λd=>d u n Z ⋯ e1.symm;refine⟨q,exI rfl ⟨SqT.of f2,rfl,_,_,rfl,_,_,rfl,rfl,?_⟩⟩;refine exI rfl (exI rfl (exI rfl ⟨l,hs,wy t b,n,u,m,rfl,⟨n1,d1,Z,e1,pa⟩,J.1,λa fa=>?_⟩));exact k4 nd a H2 (D.trans s2) fa
def Kp (H H':Hp):Prop:=∀b o,(∀ps,o≠HO.tbl ps)->H b=some o->H' b=some o
theorem Kp.of (s:Same H H'):Kp H H':=λb o _ e=>s b o e
theorem Kp.ofT {T:Aj}{ps:Array Ag}(hT:H T=some (.tbl ps))(s:KeepT T H H'):Kp H H':=λb o n e=>s b o (λz=>by rw[z,hT]at e;cases e;exact n _ rfl) e
theorem Kp.trans {H'':Hp}(a:Kp H H')(b:Kp H' H''):Kp H H'':=λc o n e=>b c o n (a c o n e)
theorem Kp.lst (k:Kp H H'){b:Aj}{xs:List V}(e:H b=some (.lst xs)):H' b=some (.lst xs):=k b _ (λps z=>by cases z) e
theorem Kp.tup (k:Kp H H'){b:Aj}{xs:List V}(e:H b=some (.tup xs)):H' b=some (.tup xs):=k b _ (λps z=>by cases z) e
theorem Kp.none (k:Kp H H'){b:Aj}(hT:∀ps,H b=some (.tbl ps)->False)(e:H' b=.none):H b=.none:=by
 cases q:H b with
 |none=>rfl
 |some o=>rw[k b o (λps z=>hT ps (by rw[q,z])) q]at e;cases e
theorem Kp.upd {p:Aj}(k:Kp H H')(n:H p=.none):Kp H (L2.upd H' p o):=λb u h e=>by rw[wv (wj e n)];exact k b u h e
theorem Kp.sql {a:Aj}{xs:List V}(k:Kp H H')(h:SqL K H a xs):SqL K H' a xs:=by
 rcases h with (h|⟨o,h⟩)|h
 .exact .inl (.inl (k.lst h))
 .exact .inl (.inr ⟨o,k _ _ (λps z=>by cases z) h⟩)
 .exact .inr h
def PL (H:Hp)(vs:List V)(pt:Nat->Int×Int):Prop:=∀i v,vs[i]?=some v->∃a,v=.ref a/\H a=some (.tup [.int (pt i).1,.int (pt i).2])
theorem PL.kp {pt:Nat->Int×Int}(h:PL H vs pt)(k:Kp H H'):PL H' vs pt:=λi v e=>by obtain⟨a,e1,e2⟩:=h i v e;exact⟨a,e1,k.tup e2⟩
def OkP (q:Int×Int):Prop:=1<=q.2/\Sm 150 q.1/\Sm 150 q.2
theorem zu {T:Aj}{pos:Pos}{q:Str}(h:vv T pos q H)(s:Same H H'):vv T pos q H':=by
 rcases h with h|⟨c,h1,h2⟩
 .exact .inl (s _ _ h)
 .exact .inr ⟨c,s _ _ h1,s _ _ h2⟩
theorem tab_wr {T p:Aj}{pos:Pos}{q:Str}{xs:List V}(h:vv T pos q H)(hp:H p=some (.lst xs)):vv T pos q (L2.upd H p o):=by
 rcases h with h|⟨c,h1,h2⟩
 .exact .inl (by rw[wv (λz=>by rw[z,hp]at h;cases h)];exact h)
 .exact .inr ⟨c,by rw[wv (λz=>by rw[z,hp]at h1;cases h1)];exact h1,by rw[wv (λz=>by rw[z,hp]at h2;cases h2)];exact h2⟩
theorem xx2 {T:Aj}{pos:Pos}{q:Str}(h:vv T pos q H):∃ps,H T=some (.tbl ps):=by
 rcases h with h|⟨c,h,_⟩
 .exact⟨_,h⟩
 .exact⟨_,h⟩
abbrev vz:Pos:=⟨75,30,75,72⟩
abbrev uj:Str:=("ordered" : Str) ++ ".<locals>." ++ "<lambda>"
def lamOf:Stmt->Expr
 |.Return (some (.Call _ _ [⟨_,l,_⟩] _)) _=>l
 |_=>.Constant .none 0 ⟨0,0,0,0⟩
def lamA:Expr->Arguments
 |.Lambda a _ _ _=>a
 |_=>⟨[],[],none,[],[],none,[]⟩
def lamB:Expr->Expr
 |.Lambda _ b _ _=>b
 |e=>e
abbrev xxf:Expr:=lamOf ((zr zaz).getD 3 (.Pass ⟨0,0,0,0⟩))
theorem xxq {x y z:Str}(h:([(x,NameKind.local),(y,NameKind.free)]:List (Str×NameKind)).lookup z=some .free):z=y:=by
 rw[bn]at h;split at h
 .cases h
 .rw[bn]at h;split at h
  .rename_i e;simpa using e
  .cases h
def wjb (K:Aa)(T C:Aj):Sp:=λvs H Q E=>∃(p:Aj) (xs:List V) (pt:Nat->Int×Int),vs=[.ref p]/\SqL K H p xs/\PL H xs pt/\vv T vz uj H/\(∀i,i<xs.length->OkP (pt i))/\(∀i j,i<j->j<xs.length->(pt i).1*(pt j).2≠(pt j).1*(pt i).2)/\xs.length<64/\∀(l:Aj) (il:List Nat) (H':Hp),Kp H H'->vv T vz uj H'->H l=none->il.Perm (List.range xs.length)->il.Pairwise (Wor pt)->H' l=some (.lst (il.map λi=>xs.getD i .non))->Q (.ref l) H'
theorem zgw {f:Aj}{fd:Ad}{cO TT:Aj}(F:FunT K "ordered" zaz cO f fd)(T:Txt K mg qg qv qf qw qd qm qc qx)(hB:BMain mg base)(hC:PySem.W.codeHdIn K cO TT=true)(zc9:Cal P w K mg base "check_bottom" 1 (qwk qv)) :
  FK P w K mg base 6 f fd ["points"] (wjb K TT qv):=by
 have sc:=wzq;have as:LamSc "point" "scale" ⟨.function,[("point",.local),("scale",.free)],false,false,[]⟩:=⟨rfl,rfl,rfl,rfl,rfl,⋯,λz h=>xxq h,⋯⟩;refine F.okX sc (λvs H Q E h=>by obtain⟨_,_,_,rfl,_⟩:=h;rfl) (λA outer s H vs Q E hr h=>?_);obtain⟨p,xs,pt,rfl,U,hP,hT,J,a1,a7,k⟩:=h;refine⟨_,(qj (Qj bp rfl (vc (pv 0)) (wm (i:=1)) (qp (xz (wCA zc9 (yq (xh k6 (pv 1) qy (λ_ _=>rfl)) qk)))))
   (qj (wp (i:=2) (wyt (wu7 rfl) rfl T.max_ d9 (z9 (kg (M:=[]) rfl rfl (by walk_at "cap") (by walk_at "has") (by walk_at "cix") rfl (by decide +kernel) rfl (show List.Nodup (["point"]:List Str) by decide +kernel) (vc (pv 0)) (λ_ _ _ _ _=>(xh (W1 (K:=K) rfl) (pv 0) qy (λ_ _=>rfl)))) qk) (wk8 qy xx6)))
   (qj (wp (i:=3) (wx xy (pv 2) (pv 2)))
   (qp (wn (wvj (quj (k:=0) (params:=lamA xxf) (body:=lamB xxf) (qual:=uj) (pm:=(mg "__name__").getD .none) (x := "point") (y := "scale") (iy:=3) as (hr.mono ⋯) rfl rfl rfl rfl (by intro _ _ _;rfl) (λ_ _ _ _ _ _ _=>(wx j7 (wx xy (xh (W1 (K:=K) rfl) (pv 0) qy (λ_ _=>rfl)) (pv 1)) (xh (W1 (K:=K) rfl) (pv 0) qy (λ_ _=>rfl))))) rfl T.sorted_ eV (qb (pv 0) qk) (wk8 (pe_lam hB rfl hC rfl rfl) xx6))))))),?_⟩
 refine exI rfl ⟨p,rfl,⟨_,U⟩,xvg (K:=K) (a:=p) (xs:=xs) (λi σ H1=>H1=H/\(∀j,j<i->1<=(pt j).2)/\∃z,σ=[some (.ref p),z,none,none]) ⟨rfl,λj h=>absurd h ⋯,_,rfl⟩ ?_ ?_ ?_⟩
 .rintro i σ H1 _ ⟨rfl,_,_,_⟩;exact U
 .rintro i y σ H1 hy ⟨rfl,hn,z,rfl⟩;obtain⟨a,rfl,fa⟩:=hP i y hy;have hi:i<xs.length:=(al.mp hy).1;refine⟨_,rfl,_,_,_,_,rfl,rfl,SqT.of fa,rfl,_,rfl,λh1=>⟨rfl,λj D=>?_,_,rfl⟩,λh2=>?_⟩
  .by_cases e:j=i
   .rw[e];exact h1
   .exact hn j ⋯
  .exact absurd (J i hi).1 ⋯
 .rintro σ H1 ⟨rfl,hn,z,rfl⟩;refine exI rfl ⟨p,rfl,⟨_,U⟩,Qh (K:=K) (a:=p) (xs:=xs) (λj v _=>v=.int (pt j).2) (λi v H H' p g _ _=>g) U ⋯ (λi x H2 R hx hs hR=>?_) λp2 ys H2 a5 s2 f2 a6 an=>?_⟩
  .obtain⟨a,rfl,fa⟩:=hP i x hx;exact exI rfl (exX rfl rfl (SqT.of (hs _ _ fa)) rfl (hR _ _ (Same.refl _) rfl λb e=>nomatch e))
  have ey:ys=((List.range xs.length).map λj=>(pt j).2).map V.int:=by
   refine b9 λj=>?_;rw[aU,av];by_cases D:j<xs.length
   .rw[aV D];have e:ys[j]?=some ys[j]:=aa ⋯;rw[e,(an j _ e).1];rfl
   .rw[aG ⋯,aG (by rw[au];lia)];rfl
  rw[ey]at f2;refine⟨p2,_,1,rfl,rfl,SqL.of f2,λG a3 an=>?_⟩;have L:∀i,i<xs.length->(pt i).2<=G:=λi hi=>a3 _ (aH.mpr ⟨i,am.mpr hi,rfl⟩);have gs:Sm 150 G:=by
   rcases an with h|⟨_,h⟩
   .obtain⟨i,hi,rfl⟩:=aH.mp h;exact(J i (am.mp hi)).2.2
   .rw[h];unfold Sm;decide +kernel
  refine exI rfl (exI rfl (wc rfl rfl ⟨gs.ok gs ⋯,?_⟩));refine exI rfl ⟨zu hT s2,λg c' ctv H3 kT tA ng fg=>?_⟩;obtain⟨ps,a0⟩:=xx2 (zu hT s2);have k3:Kp H2 H3:=Kp.ofT a0 kT;have Z:Kp H1 H3:=(Kp.of s2).trans k3;have P3:=hP.kp Z;refine⟨p,xs,(List.range xs.length).map (λi=>qqx (G*G) (pt i)),g,c',ctv,.int (G*G),rfl,rfl,Z.sql U,⋯,?_,by rw[af,au],fg,tA.2,rfl,λi v hv=>?_,λl il nl st=>?_⟩
  .refine be.mpr λi j hi D ap=>?_;rw[af,au]at hi D;simp only[fO,List.getElem_range];intro z;have w:=wvk (J i hi).1 (J j D).1 (L i hi) (L j D) (.inr ⟨z,ap⟩);have w':=λh=>wvk (pt:=pt) (i:=j) (j:=i) (J j D).1 (J i hi).1 (L j D) (L i hi) h;rcases w with w|⟨w,_⟩
   .exact jF _ (by have:=wjj (J i hi).1 (J j D).1 (L i hi) (L j D) w;rw[z]at this;exact this)
   .exact a1 i j ap D w
  .obtain⟨a,rfl,fa⟩:=P3 i v hv;have hi:i<xs.length:=(al.mp hv).1;obtain⟨o1,o2,o3⟩:=J i hi;refine exI rfl (exX rfl rfl (SqT.of fa) rfl (exI rfl (wc rfl rfl ⟨o2.ok (gs.mul gs) ⋯,exI rfl (exX rfl rfl (SqT.of fa) rfl (wc rfl rfl ⟨⟨⋯,o3.mono ⋯⟩,?_,rfl⟩))⟩)));rw[ae,av,aV hi];rfl
  .have a2:∀ps,H1 l=some (.tbl ps)->False:=λps e=>by
    obtain⟨a4,e2⟩:=xx2 hT;have:H3 l=none:=nl;by_cases h:l=TT
    .rw[h,tA.1]at this;cases this
    .rw[kT l _ h (s2 _ _ e)]at this;cases this
   have n1:H1 l=none:=Z.none a2 nl;refine k l il _ (Z.upd n1) (zu (.inr ⟨c',tA⟩) (Same.upd nl)) n1 st.1 ?_ qh;refine st.2.imp_of_mem λ{i j} hi D h=>?_;have ad:i<xs.length:=am.mp (st.1.mem_iff.mp hi);have ab:j<xs.length:=am.mp (st.1.mem_iff.mp D);have e:∀i,i<xs.length->((List.range xs.length).map λi=>qqx (G*G) (pt i)).getD i 0=qqx (G*G) (pt i):=λi h=>by rw[ae,av,aV h];rfl
   rw[e i ad,e j ab]at h;exact wvk (J i ad).1 (J j ab).1 (L i ad) (L j ab) h
def inK (p:Int×Int)(k:Int):Bool:=decide (k*p.2<=p.1/\p.1<=(k+1)*p.2)
def Zq (ws:List Int)(p:Int×Int):Bool:=ws.any (inK p)
def liesV (p:Int×Int):V->V
 |.int k=>.bl (inK p k)
 |_=>.non
def wzh (K:Aa):Sp:=λvs H Q _=>∃(a q:Aj) (p:Int×Int) (ws:List Int),vs=[.ref a,.ref q]/\SqT K H a [.int p.1,.int p.2]/\SqL K H q (ws.map V.int)/\ws.length<=1000/\(∀k∈ws,0<=k/\k<24)/\∀H',Same H H'->Q (.bl (Zq ws p)) H'
include T in
theorem xkt (F:Fun K "lies_in" "lies_in" zcl f fd):FK P w K mg base 1 f fd ["point","stretches"] (wzh K):=by
 have W:=wv3;refine F.okX W (λvs H Q E h=>by obtain⟨_,_,_,_,rfl,_⟩:=h;rfl) λ_ _ _ _ H vs Q E hr h=>?_;obtain⟨a,q,p,D,rfl,hA,L,hl,hw,k⟩:=h;refine⟨_,(qj (vn (pv 0) (vy rfl (wt (wm (i:=2)) (wt (wm (i:=3)) x9))))
   (qp (wn (xv (qzt (K:=K) rfl rfl) rfl T.any_ PyProof.Rows.boot_any (z9 (kg (M:=[2,3]) rfl rfl (by walk_at "cap") (by walk_at "has") (by walk_at "cix") rfl (by decide +kernel) rfl (show List.Nodup (["stretch","top","bottom"]:List Str) by decide +kernel) (vc (pv 1)) (λ_ _ _ _ _=>(xzc (W7 wj8 (pv 1) (wx xy (pv 0) (pv 2)) (wg _)) (xzu (W7 wkn (pv 1) (wx xy (wx xu (pv 0) qy) (pv 2)) (wg _)))))) qk))))),?_⟩
 refine exI rfl ⟨a,exI rfl ⟨hA,rfl,_,_,rfl,_,_,rfl,rfl,?_⟩⟩;refine exI rfl ⟨q,rfl,⟨_,L⟩,wvy (K:=K) (liesV p) (λx b z=>by cases x <;> cases z) L (by rw[af];lia) (λx H' R hx hs hR=>?_) λp2 H2 np s2 U=>?_⟩
 .obtain⟨i,hi,rfl⟩:=aH.mp hx;obtain⟨i0,i1⟩:=hw i hi;have m1:∀x:Int,IntMulOk i x:=λx=>IntMulOk.of_left (intBits_le_64 ⋯ ⋯);have Z:∀x:Int,IntMulOk (i+1) x:=λx=>IntMulOk.of_left (intBits_le_64 ⋯ ⋯);refine exI rfl (exI rfl (exI rfl (wc rfl rfl ⟨m1 _,wc rfl rfl (exI rfl ?_)⟩)));have J:R (.bl (decide (i*p.2<=p.1/\p.1<=(i+1)*p.2))) H':=hR H' (Same.refl _);refine jq (λz=>?_) (λz=>?_)
  .refine exI rfl (exI rfl (wc rfl rfl (exI rfl (wc rfl rfl ⟨Z _,wc rfl rfl ?_⟩))));have e:decide (i*p.2<=p.1/\p.1<=(i+1)*p.2)=decide (p.1<=(i+1)*p.2):=by
    by_cases y:p.1<=(i+1)*p.2
    .rw[aM y,aM ⟨z,y⟩]
    .rw[aX y,aX (λw=>y w.2)]
   rw[e]at J;exact J
  .rw[aX (λw=>z w.1)]at J;exact J
 .have e:(D.map V.int).map (liesV p)=(D.map (inK p)).map V.bl:=by rw[aU,aU];rfl
  rw[e]at U;refine⟨p2,exI rfl ⟨SqL.of U,?_⟩⟩;have e2:(D.map (inK p)).any id=Zq D p:=by unfold Zq;rw[List.any_map];rfl
  rw[e2];exact k _ s2
def qqm (hs:List Int)(m:Nat):List (Int×Int):=((List.range hs.length).filter λc:Nat=>decide (itP hs ((0:Int)+c,1) m=((0:Int)+c,1))).map λc:Nat=>((0:Int)+c,(1:Int))
def qjz (C:Aj):Sp:=λvs H Q _=>∃(r:Aj) (hs:List Int) (m:Int),vs=[.ref r,.int m]/\RoadAt C H r hs/\wb hs/\1<=m/\m<=12/\∀p ys H',H p=none->Same H H'->H' p=some (.lst ys)->Paired (PtR H') ys (qqm hs m.toNat)->Q (.ref p) H'
theorem wqx (h:PtR H v p)(k:∀b o,(∀xs,o≠HO.lst xs)->H b=some o->H' b=some o):PtR H' v p:=by obtain⟨a,e,f⟩:=h;exact⟨a,e,k a _ (λxs z=>by cases z) f⟩
theorem low1 (x:Int):wy x 1=(x,1):=by
 have h1:=vj (t:=x) (b:=1) ⋯;have h2:=uk (t:=x) (b:=1) ⋯;have h3:=v6 (t:=x) (b:=1) ⋯;have e2:(wy x 1).2=1:=by lia
 rw[e2]at h3;exact iB ⋯ e2
theorem Qw {α β:Type}{R:α->β->Prop}{f:Nat->α}{g:Nat->β}:∀ {l:List Nat},(∀i∈l,R (f i) (g i))->Paired R (l.map f) (l.map g)
 |[],_=>.nil
 |i::l,h=>.cons (h i (.head _)) (Qw λj hj=>h j (.tail _ hj))
include T in
theorem xxk (F:Fun K "corners_back" "corners_back" zck f fd)(zab:MCal P w K mg base qx "width" 1 (kh qx))(zbe:Cal P w K mg base "walked" 5 (Wv K qx qv qf qw)) :
  FK P w K mg base 6 f fd ["road","many"] (qjz qx):=by
 have sc:=qq3;refine F.okX sc (λvs H Q E h=>by obtain⟨_,_,_,rfl,_⟩:=h;rfl) λ_ _ _ s H vs Q E Z h=>?_;obtain⟨r,hs,m,rfl,hR,L,m1,m2,k⟩:=h;have o1:=L.1;have o2:=L.2.1;obtain⟨dx,q0,h1,h2⟩:=id hR;refine⟨_,(qj (jd (i:=2) (M:=[]) sc.nd rfl (by walk_at "loc") rfl rfl (by walk_at "cap") (by walk_at "has") (by walk_at "cix") rfl (by decide +kernel) rfl (show List.Nodup (["corner"]:List Str) by decide +kernel) (zq rfl T.range_ (x8 (wx xu (zc (pv 0) T.cl zab (Z.mono ⋯) qu) qy) qk)) (λ_ _ _ _ _=>(z7 (qb (pv 0) (w8 qy qk)))))
   (qp (wn (Q7 (M:=[0,1]) rfl rfl (by walk_at "cap") (by walk_at "has") (by walk_at "cix") rfl (by decide +kernel) rfl (show List.Nodup (["corner","road","many"]:List Str) by decide +kernel) (vc (pv 2)) (λ_ _ _ _ _=>(wu (xyf (K:=K) rfl Z.units) (xh (jt (K:=K) rfl) (qt zbe (Z.mono ⋯) rfl j8 (qb (pv 1) (qb (pv 0) (qb (pv 2) qk)))) (pv 2) (λ_ _=>rfl)) (pv 0) (wg _))) (λ_ _ _ _ _=>(pv 0)))))),?_⟩
 refine exI rfl ⟨r,dx,exI rfl ⟨h1,w5 (by decide +kernel),r,hs,rfl,hR,wc rfl rfl (exI rfl ⟨⋯,⋯,?_⟩)⟩⟩;rw[show((hs.length:Int)-1+1).toNat=hs.length by lia];refine Wf (λi v H=>PtR H v ((0:Int)+i,1)) (λi v H1 H2 g st=>wqx g st) ⋯ (λi H' R hi s' a1=>?_) λp1 D H1 n1 J f1 U g1=>?_
 .exact exI rfl ⟨sz2,λp np=>a1 _ _ (Same.upd np) ⟨p,rfl,qh⟩⟩
 refine exI rfl ⟨p1,rfl,⟨_,SqL.of f1⟩,Zb (K:=K) (λi=>decide (itP hs ((0:Int)+i,1) m.toNat=((0:Int)+i,1))) (SqL.of f1) ⋯ (λi x H2 R W s2 ab=>?_) (λi x H2 R W _ s2 ab=>?_) λp3 H3 n3 s3 f3=>?_⟩
 .obtain⟨a,rfl,fa⟩:=g1 i x W;have hi:i<hs.length:=by rw[<-U];exact(al.mp W).1
  have ad:=s2 _ _ fa;have ap:=J.trans s2;have on:xr hs ((0:Int)+i) 1:=⟨⋯,⋯⟩;refine⟨_,rfl,_,rfl,_,rfl,r,a,hs,(0:Int)+i,1,m,rfl,hR.same ap,L,SqT.of ad,λ_=>⟨Sm.small ⋯ ⋯ ⋯,λ_=>⟨λ_ q H4 nq s4 P4=>?_,λz=>absurd ⟨⋯,λy e=>by cases e;lia⟩ z⟩,λz=>absurd on z⟩,λz=>absurd z ⋯⟩;rw[low1]at P4;obtain⟨an,f4,as⟩:=P4;obtain⟨v,ev,⟨b,rfl,fb⟩⟩:=yd (i:=m.toNat) (b:=itP hs ((0:Int)+i,1) m.toNat) as (by rw[qqy,aF (by rw[jr];exact ai _),jr];simp);have ea:atI an m=some (.ref b):=by have:=zt ev;rwa [bO ⋯]at this
  refine exI rfl (exX rfl rfl (SqL.of f4) ea (exI rfl ?_));refine⟨ptD _,ptD ((0:Int)+i,1),rd_pt (SqT.of fb),rd_pt (SqT.of (s4 _ _ ad)),rfl,rfl,dep_pt,?_⟩;refine exI rfl ?_;show R (PyData.eqv (ptD (itP hs ((0:Int)+i,1) m.toNat)) (ptD ((0:Int)+i,1))) H4;rw[eqv_pt];exact ab _ s4
 .exact exI rfl (ab _ (Same.refl _))
 .refine k p3 _ H3 (yy J n3) (J.trans s3) f3 ?_;unfold ug qqm;rw[U];refine Qw λi hi=>?_;have a0:i<D.length:=by rw[U];exact am.mp (br.mp hi).1
  have e:D[i]?=some (D.getD i .non):=by rw[ae,aa a0];rfl
  exact(g1 i _ e).same s3
def two (p:Int×Int):List Int:=[p.1,p.2]
theorem xks {q:Int×Int}(h:two p=two q):p=q:=by unfold two at h;exact iB (im h).1 (im (im h).2).1
theorem v5 {α:Type}{l:List α}{x d:α}(h:l[i]?=some x):l.getD i d=x:=by rw[ae,h];rfl
def qqn (hs:List Int)(m:Nat):List (Int×Int):=(((List.range (xf hs m).length).filter λi=>!decide ((w4 hs ((xf hs m).getD i [])).1=1)).map λi=>Q3 (w4 hs ((xf hs m).getD i [])))++qqm hs m
theorem wxt (ok:wb hs){m:Nat}{p:Int×Int}:p∈qqm hs m↔(p.2=1/\0<=p.1/\p.1<=(hs.length:Int)-1/\trT hs p.1 1 m=p.1):=by
 have F:=ok.1;have tl:∀t:Int,itP hs (t,1) m=(trT hs t 1 m,1):=λt=>by have:=qyx (hs:=hs) (t:=t) (b:=1) ⋯ m;rw[low1,low1]at this;exact this.symm
 unfold qqm;rw[aH];constructor
 .rintro⟨c,z,rfl⟩;obtain⟨h1,h2⟩:=br.mp z;have h1:=am.mp h1;have h2:=dw h2;rw[tl]at h2;refine⟨rfl,?_,?_,(Prod.ext_iff.mp h2).1⟩
  .show(0:Int)<=0+c;lia
  .show(0:Int)+c<=_;lia
 .rintro⟨h1,h2,J,D⟩;refine⟨p.1.toNat,br.mpr ⟨am.mpr ⋯,?_⟩,iB (by show(0:Int)+(p.1.toNat:Int)=p.1;lia) h1.symm⟩;rw[show(0:Int)+(p.1.toNat:Int)=p.1 by lia,tl,D];exact aM rfl
theorem Yr {m:Nat}(h:r∈xf hs m):∃i,i<(xf hs m).length/\(xf hs m).getD i []=r:=by obtain⟨i,hi,e⟩:=cM h;exact⟨i,hi,by rw[ae,aa hi,e];rfl⟩
theorem Yg {m:Nat}(h:i<(xf hs m).length):(xf hs m).getD i []∈xf hs m:=by rw[ae,aa h];exact bF h
theorem wq5 (ok:wb hs){m:Nat}{p:Int×Int}:p∈qqn hs m↔W9 hs m p:=by
 unfold qqn W9;rw[aY,wxt ok,aH];refine or_congr ?_ Iff.rfl;constructor
 .rintro⟨i,hi,rfl⟩;obtain⟨h1,h2⟩:=br.mp hi;refine⟨_,Yg (am.mp h1),λz=>?_,rfl⟩;rw[z]at h2;cases h2
 .rintro⟨r,D,h1,rfl⟩;obtain⟨i,hi,rfl⟩:=Yr D;exact⟨i,br.mpr ⟨am.mpr hi,by rw[aX h1];rfl⟩,rfl⟩
theorem qwb (ok:wb hs){m:Nat}(m1:1<=m)(m2:m<=12){p:Int×Int}(h:W9 hs m p):OkP p:=by
 obtain⟨U,_,F⟩:=Yw ok m1 m2 h;have Z:=ok.2.1;have ad:p.2<=36520347436056577:=by
  rcases h with⟨r,L,z,rfl⟩|⟨e1,_⟩
  .have c:=(jc ok m1).mp L;have D:=qqq ok (xs:=r) r.length;rw[bq,c.1]at D;have D:(w4 hs r).1.natAbs<=24 ^ 12:=bo D (cS ⋯ m2);have J:(24:Nat) ^ 12=36520347436056576:=by decide
   rw[J]at D;unfold Q3;split
   .have:=uk (t:=-(w4 hs r).2) (b:=(w4 hs r).1-1) ⋯;lia
   .have:=uk (t:=(w4 hs r).2) (b:=1-(w4 hs r).1) ⋯;lia
  .lia
 have top:p.1<=24*p.2:=dS F.2 (aD ⋯ ⋯);have W:=F.1;exact⟨U,Sm.small ⋯ ⋯ ⋯,Sm.small ⋯ ⋯ ⋯⟩
theorem qy3 (ok:wb hs){m:Nat}(m1:1<=m){i:Nat}(h:i<(xf hs m).length):0<=((xf hs m).getD i []).getD 0 0/\((xf hs m).getD i []).getD 0 0<(hs.length:Int)-1:=by
 have c:=(jc ok m1).mp (Yg h);refine c.2.1 _ ?_;have l:0<((xf hs m).getD i []).length:=by rw[c.1];lia
 generalize (xf hs m).getD i []=r at l;rw[ae,aa l];exact bF l
structure BackOf (hs:List Int)(m:Nat)(pts:List (Int×Int))(ws:List Int):Prop where
 wup:ws.Pairwise (·<·)
 wmem:∀v,v∈ws↔Zv hs m v
 pup:pts.Pairwise λp q=>p.1*q.2<q.1*p.2
 pmem:∀p,p∈pts↔(W9 hs m p/\Zq ws p=false)
 wfew:ws.length<=24
 pfew:pts.length<=1025
def qw9 (C TT:Aj):Sp:=λvs H Q _=>∃(r:Aj) (hs:List Int) (m:Int),vs=[.ref r,.int m]/\RoadAt C H r hs/\wb hs/\1<=m/\m<=12/\crS hs m.toNat<=1000/\(xf hs m.toNat).length+hs.length<=63/\vv TT vz uj H /\
 ∀(a lp lw:Aj) (ys:List V) (pts:List (Int×Int)) (ws:List Int) (H':Hp),Kp H H'->vv TT vz uj H'->H' a=some (.tup [.ref lp,.ref lw])->H' lp=some (.lst ys)->Paired (PtR H') ys pts->H' lw=some (.lst (ws.map V.int))->BackOf hs m.toNat pts ws->Q (.ref a) H'
theorem wwu:∀ {ys:List V} {ps:List (Int×Int)},Paired (PtR H) ys ps->Tups (ps.map two) ys H
 |_,_,.nil=>.nil
 |_,_,.cons ⟨a,e,f⟩ t=>.cons ⟨a,e,f⟩ (wwu t)
theorem xv1 {ps:List (Int×Int)}{L:List (List Int)}(h:Tups L ys H)(e:L=ps.map two):Paired (PtR H) ys ps:=by
 subst e
 induction ps generalizing ys with
 |nil=>cases h;exact .nil
 |cons p ps ih =>
  cases h with
  |cons r t=>exact .cons r (ih t)
theorem qzq {ps:List (Int×Int)}:∀ {L:List (List Int)},(∀x∈L,x∈ps.map two)->∃qs:List (Int×Int),L=qs.map two/\∀q∈qs,q∈ps
 |[],_=>⟨[],rfl,λq h=>by cases h⟩
 |x::L,h=>by
  obtain⟨p,hp,e⟩:=aH.mp (h x (.head _));obtain⟨qs,e2,h2⟩:=qzq (L:=L) λy hy=>h y (.tail _ hy);refine⟨p::qs,by rw[e2,<-e];rfl,λq hq=>?_⟩;rcases aC.mp hq with rfl|hq
  .exact hp
  .exact h2 q hq
theorem xqk {l:List Int}(h:l.Pairwise (·<=·))(nd:l.Nodup):l.Pairwise (·<·):=by refine List.Pairwise.imp₂ (λa b h1 h2=>?_) h nd;have:a≠b:=h2;lia
include T in
theorem wk0 {f:Aj}{fd:Ad}{TT:Aj}(F:Fun K "back" "back" za1 f fd)(zbf:Cal P w K mg base "rows" 7 (qzp qx qw qd))(zgx:Cal P w K mg base "fixed_point" 5 (qjy K qx))(zgy:Cal P w K mg base "corners_back" 6 (qjz qx))(zgz:Cal P w K mg base "lies_in" 1 (wzh K))(zdg:Cal P w K mg base "ordered" 6 (wjb K TT qv)) :
  FK P w K mg base 8 f fd ["road","many"] (qw9 qx TT):=by
 have sc:=wkf;refine F.okX sc (λvs H Q E h=>by obtain⟨_,_,_,rfl,_⟩:=h;rfl) λ_ _ _ s H vs Q E hr h=>?_;obtain⟨r,hs,m,rfl,hR,W,m1,m2,dn,d4,hT,k⟩:=h;have o1:=W.1;have o2:=W.2.1;have eh:(1000000:Nat)<sizeLine:=by decide
 have n1:1<=m.toNat:=by lia
 have n2:m.toNat<=12:=by lia
 have rl:=Jy W n1;have cp:∀x∈xf hs m.toNat,ClR hs m.toNat x:=λx J=>(jc W n1).mp J;refine⟨_,(qj (wp (i:=2) (wCA zbf (qb (pv 0) (qb (pv 1) qk))))
   (qj (jd (i:=3) (M:=[0]) sc.nd rfl (by walk_at "loc") rfl rfl (by walk_at "cap") (by walk_at "has") (by walk_at "cix") rfl (by decide +kernel) rfl (show List.Nodup (["row","road"]:List Str) by decide +kernel) (vc (pv 2)) (λ_ _ _ _ _=>(qt zgx (hr.mono ⋯) rfl j8 (qb (pv 1) (qb (pv 0) qk)))))
   (qj (wp (i:=4) (xv (qvm rfl) rfl T.sorted_ eV (z9 (xzm (x := "row") (y2 := "point") (M:=[]) rfl rfl (by walk_at "cap") (by walk_at "has") (by walk_at "cix") rfl (by decide +kernel) (λ_ _ _ _ _=>Yy (K:=K) (n:=2) rfl rfl (wt (wm (i:=0) (show List.Nodup (["row","point"]:List Str) by decide +kernel) rfl (by walk_at "loc")) (wt (wm (i:=1) (show List.Nodup (["row","point"]:List Str) by decide +kernel) rfl (by walk_at "loc")) x9))) (qy2 rfl T.zip_ (qb (pv 2) (qb (pv 3) qk))) (λ_ _ _ _ _=>(wu op_isN (pv 1) Jz (wg _))) (λ_ _ _ _ _=>(xh (W1 (K:=K) rfl) (pv 0) qy (λ_ _=>rfl))) (λ_ _ _ _ _=>(xwn (P:=P) (w:=w) rfl rfl))) qk)))
   (qj (wp (i:=5) (wx Wr (Q7 (M:=[]) rfl rfl (by walk_at "cap") (by walk_at "has") (by walk_at "cix") rfl (by decide +kernel) rfl (show List.Nodup (["point"]:List Str) by decide +kernel) (vc (pv 3)) (λ_ _ _ _ _=>(wu wjf (pv 0) Jz (wg _))) (λ_ _ _ _ _=>(pv 0))) (wCA zgy (qb (pv 0) (qb (pv 1) qk)))))
   (qj (wp (i:=6) (wCA zdg (vf (xv (qvw rfl) rfl T.sorted_ eV (z9 (xv6 (M:=[4]) rfl rfl (by walk_at "cap") (by walk_at "has") (by walk_at "cix") rfl (by decide +kernel) rfl (show List.Nodup (["point","wholes"]:List Str) by decide +kernel) (vc (pv 5)) (λ_ _ _ _ _=>(wx7 (wx6 (qt zgz (hr.mono ⋯) rfl j8 (qb (pv 0) (qb (pv 1) qk)))))) (λ_ _ _ _ _=>(pv 0)) (λ_ _ _ _ _=>(xq5 (P:=P) (w:=w) rfl rfl hr.units))) qk)) qk)))
   (qp (wn (z7 (qb (pv 6) (qb (pv 4) qk)))))))))),?_⟩
 dsimp only [Yp];refine exI rfl (exI rfl ⟨r,hs,m,rfl,hR,W,m1,m2,dn,λp1 ab H1 np1 s1 f1 t1=>?_⟩);have l1:=t1.len;have cr:∀i x,ab[i]?=some x->∃a,x=.ref a/\i<(xf hs m.toNat).length/\H1 a=some (.tup (((xf hs m.toNat).getD i []).map V.int)):=λi x J=>by obtain⟨a,xs,e1,e2,e3⟩:=t1.get J;exact⟨a,e1,(al.mp e2).1,by rw[ae,e2];exact e3⟩
 refine exI rfl ⟨p1,rfl,⟨_,SqL.of f1⟩,qwm (K:=K) (λi v H=>FixR H (w4 hs ((xf hs m.toNat).getD i [])) v) (λi v H H' g st=>?_) (SqL.of f1) ⋯ (λi x H2 R J s2 a6=>?_) λp3 fs H3 ed s3 f3 l3 g3=>?_⟩
 .rcases g with g|⟨g1,q,g2,g3⟩
  .exact .inl g
  .exact .inr ⟨g1,q,g2,st _ _ (λxs z=>by cases z) g3⟩
 .obtain⟨a,rfl,hi,fa⟩:=cr i x J;have c:=cp _ (Yg hi);exact⟨_,rfl,_,rfl,r,a,hs,_,rfl,hR.same (s1.trans s2),W,SqT.of (s2 _ _ fa),c.2.1,by rw[c.1];lia,λv H4 s4 g4=>a6 v H4 s4 g4⟩
 have c4:=s1.trans s3;have cj:∀i,i<(xf hs m.toNat).length->FixR H3 (w4 hs ((xf hs m.toNat).getD i [])) (fs.getD i .non):=λi hi=>by have e:fs[i]?=some fs[i]:=aa ⋯;have:=g3 i _ e;rw[v5 e];exact this
 have ci:∀i,i<(xf hs m.toNat).length->decide (fs.getD i .non=.non)=decide ((w4 hs ((xf hs m.toNat).getD i [])).1=1):=λi hi=>by
  rcases cj i hi with⟨g1,g2⟩|⟨g1,q,g2,_⟩
  .rw[g2,aM g1];exact aM rfl
  .rw[g2,aX g1];exact aX (λz=>by cases z)
 refine exI rfl (exI rfl ⟨p1,p3,ab,fs,rfl,SqL.of (s3 _ _ f1),SqL.of f3,?_⟩);refine wvc (K:=K) (xf hs m.toNat).length (λi=>(ab.getD i .non,fs.getD i .non)) (λi=>decide ((w4 hs ((xf hs m.toNat).getD i [])).1=1)) (λi=>((xf hs m.toNat).getD i []).getD 0 0) 24 (λi hi=>?_) ⋯ (λi H' hi sH=>?_) (λH' sH=>?_) (λi H2 v H4 hi sH yl=>?_) (λi H' R hi sH ad=>?_) (λi H' R hi hc sH ad=>?_) λp5 ps H5 ns ec s5 f5 I5 b6 ce=>?_
 .have:=qy3 W n1 hi;lia
 .exact⟨SqL.of (sH _ _ (s3 _ _ f1)),SqL.of (sH _ _ f3),⋯,⋯⟩
 .exact⟨SqL.of (sH _ _ (s3 _ _ f1)),SqL.of (sH _ _ f3),.inl ⋯⟩
 .obtain⟨q,x,y,nq,rfl,ex,ey,rfl⟩:=yl;refine⟨Same.upd nq,q,rfl,?_⟩;have e1:ab.getD i .non=x:=by rw[ae,ex];rfl
  have e2:fs.getD i .non=y:=by rw[ae,ey];rfl
  show SqT K _ q [ab.getD i .non,fs.getD i .non];rw[e1,e2];exact SqT.of qh
 .refine exI rfl ⟨rfl,_,rfl,?_⟩;have:=ad H' (Same.refl _);rw[<-ci i hi]at this;exact this
 .have ex:ab[i]?=some (ab.getD i .non):=by rw[ae,aa ⋯];rfl
  obtain⟨a,ea,_,fa⟩:=cr i _ ex;have c:=cp _ (Yg hi);have z0:0<((xf hs m.toNat).getD i []).length:=by rw[c.1];lia
  have a0:∀r:List Int,0<r.length->atI (r.map V.int) 0=some (.int (r.getD 0 0)):=λr h=>by have:=zt (xs:=r.map V.int) (j:=0) (v:=V.int (r.getD 0 0)) (by rw[av,aa h,v5 (aa h)];rfl);exact this
  refine exI rfl ⟨_,_,_,_,ea▸rfl,rfl,SqT.of (sH _ _ (s3 _ _ fa)),a0 _ z0,ad _ (Same.refl _)⟩
 have i5:∀v∈ns,0<=v/\v<24:=λv hv=>by obtain⟨i,hi,_,rfl⟩:=(ce v).mp hv;have:=qy3 W n1 hi;lia
 have ln:ns.length<=24:=by
  have:=qzy (ns.map Int.toNat) (List.range 24) ?_ λv hv=>?_
  .rwa [af,au]at this
  .refine bS.mpr (bX (λ{x y} J hy hxy z=>?_) b6);have a1:=i5 x J;have a2:=i5 y hy;exact hxy ⋯
  .obtain⟨x,J,rfl⟩:=aH.mp hv;have a1:=i5 x J;exact am.mpr ⋯
 refine⟨p5,ps,ns,rfl,f5,I5,⋯,λp6 Z c9 bd c1=>?_⟩;have s6:Same H5 (upd H5 p6 (.lst (Z.map V.int))):=Same.upd c9;have f6:upd H5 p6 (.lst (Z.map V.int)) p6=some (.lst (Z.map V.int)):=qh;generalize upd H5 p6 (.lst (Z.map V.int))=H6 at s6 f6;have cv:∀v,v∈Z↔Zv hs m.toNat v:=λv=>by
  rw[bd.mem_iff,ce v];constructor
  .rintro⟨i,hi,h1,h2⟩;exact⟨_,Yg hi,dw h1,h2⟩
  .rintro⟨r,hr,h1,h2⟩;obtain⟨i,hi,rfl⟩:=Yr hr;exact⟨i,hi,aM h1,h2⟩
 have ct:=xqk c1 (bd.nodup_iff.mpr b6);have cz:Z.length<=24:=by rw[bd.length_eq];exact ln
 have cy:∀k∈Z,0<=k/\k<24:=λv hv=>i5 v (bd.mem_iff.mp hv);have a9:=s5.trans s6;refine exI rfl ⟨p3,rfl,⟨_,SqL.of (a9 _ _ f3)⟩,Zb (K:=K) (λi=>!decide (fs.getD i .non=.non)) (SqL.of (a9 _ _ f3)) ⋯ (λi x H2 R J s2 a6=>?_) (λi x H2 R J _ s2 a6=>?_) λp7 H7 eb s7 f7=>?_⟩
 .have e:fs.getD i .non=x:=by rw[ae,J];rfl
  refine exI rfl ⟨rfl,_,rfl,?_⟩;have:=a6 H2 (Same.refl _);rw[e]at this;exact this
 .exact exI rfl (a6 _ (Same.refl _))
 have b3:=c4.trans (a9.trans s7);refine exI rfl (exI rfl ⟨r,hs,m,rfl,hR.same b3,W,m1,m2,λp8 an H8 d5 s8 f8 P8=>?_⟩);have l8:an.length<=hs.length:=by rw[bC P8];unfold qqm;rw[af];have:=bN (λc:Nat=>decide (itP hs ((0:Int)+c,1) m.toNat=((0:Int)+c,1))) (List.range hs.length);rw[au]at this;lia
 have l7:(ug (λi=>!decide (fs.getD i .non=.non)) fs fs.length).length<=fs.length:=by unfold ug;rw[af];have:=bN (λi=>!decide (fs.getD i .non=.non)) (List.range fs.length);rwa [au]at this
 refine⟨p7,p8,_,_,rfl,rfl,s8 _ _ f7,f8,⋯,λp9 c8=>?_⟩;have P7:Paired (PtR H8) (ug (λi=>!decide (fs.getD i .non=.non)) fs fs.length) (((List.range (xf hs m.toNat).length).filter λi=>!decide ((w4 hs ((xf hs m.toNat).getD i [])).1=1)).map λi=>Q3 (w4 hs ((xf hs m.toNat).getD i []))):=by
  unfold ug;have e:(List.range fs.length).filter (λi=>!decide (fs.getD i .non=.non))=(List.range (xf hs m.toNat).length).filter (λi=>!decide ((w4 hs ((xf hs m.toNat).getD i [])).1=1)):=by rw[show fs.length=(xf hs m.toNat).length by lia];refine List.filter_congr λi hi=>?_;rw[ci i (am.mp hi)]
  rw[e];refine Qw λi hi=>?_;obtain⟨h1,h2⟩:=br.mp hi;have h1:=am.mp h1;rcases cj i h1 with⟨g1,g2⟩|⟨g1,q,g2,g3⟩
  .rw[g1]at h2;cases h2
  .exact⟨q,g2,s8 _ _ (s7 _ _ (a9 _ _ g3))⟩
 have P9:Paired (PtR H8) (ug (λi=>!decide (fs.getD i .non=.non)) fs fs.length++an) (qqn hs m.toNat):=Paired.app P7 P8;generalize ug (λi=>!decide (fs.getD i .non=.non)) fs fs.length=us7 at P9 l7;have s9:Same H8 (upd H8 p9 (.lst (us7++an))):=Same.upd c8;have f9:upd H8 p9 (.lst (us7++an)) p9=some (.lst (us7++an)):=qh;have T9:=(wwu P9).same s9;have l9:=bC P9;generalize upd H8 p9 (.lst (us7++an))=H9 at s9 f9 T9;rw[ar]at l9;have ck:H9 p6=some (.lst (Z.map V.int)):=s9 _ _ (s8 _ _ (s7 _ _ f6));refine exI rfl ⟨p9,rfl,⟨_,SqL.of f9⟩,?_⟩;refine wu1 (K:=K) ((qqn hs m.toNat).map two) (λxs=>!Zq Z (xs.getD 0 0,xs.getD 1 0)) (SqL.of f9) T9 (by rw[af];lia) (λxs a H' R J fa sH ad=>?_) (λa H' R ad=>(exI rfl ad)) λc7 c6 a8 b0 ef b4 dq d0 cc a5 dl=>?_
 .obtain⟨q,hq,rfl⟩:=aH.mp J;refine⟨_,rfl,_,rfl,a,p6,q,Z,rfl,SqT.of fa,SqL.of (sH _ _ ck),⋯,cy,λd2 c5=>?_⟩;exact exI rfl (ad d2 c5)
 rw[af]at dl;obtain⟨D,eq,hq⟩:=qzq (L:=b0) (ps:=qqn hs m.toNat) λx J=>((a5 x).mp J).1;refine⟨c7,c6,b0,2,rfl,dq,d0,cc,⋯,⋯,λr hr=>?_,λa3 U bx db a4 d3 c3=>?_⟩
 .obtain⟨q,_,rfl⟩:=aH.mp ((a5 r).mp hr).1;rfl
 obtain⟨D,eq,hq⟩:=qzq (L:=bx) (ps:=qqn hs m.toNat) λx J=>((a5 x).mp (a4.mem_iff.mp J)).1;have bb:Same a8 (upd a8 a3 (.lst U)):=Same.upd db;have co:upd a8 a3 (.lst U) a3=some (.lst U):=qh;have bl:Paired (PtR (upd a8 a3 (.lst U))) U D:=xv1 (c3.same bb) eq;generalize upd a8 a3 (.lst U)=H11 at bb co bl;have b5:=b3.trans (s8.trans (s9.trans (b4.trans bb)));have eg:=bC bl;have lq:D.length=b0.length:=by rw[<-a4.length_eq,eq,af]
 have dd:D.Nodup:=by have:=a4.nodup_iff.mpr cc;rw[eq]at this;exact List.Pairwise.imp (λh z=>h (by rw[z])) (bS.mp this)
 have bk:∀q∈D,W9 hs m.toNat q:=λq h=>(wq5 W).mp (hq q h);have gd:∀i,i<D.length->D.getD i (0,1)∈D:=λi hi=>by rw[ae,aa hi];exact bF hi
 have nw:∀i j,i<j->j<U.length->(D.getD i (0,1)).1*(D.getD j (0,1)).2≠(D.getD j (0,1)).1*(D.getD i (0,1)).2:=λi j bs hj z=>by obtain⟨b1,g1,_⟩:=Yw W n1 n2 (bk _ (gd i ⋯));obtain⟨b2,g2,_⟩:=Yw W n1 n2 (bk _ (gd j ⋯));have t1:=(Yc b1 b2).mp z;rw[yt b1 g1,yt b2 g2]at t1;refine(be.mp dd) i j ⋯ ⋯ bs ?_;have e1:=v5 (d:=((0:Int),(1:Int))) (aa (show i<D.length by lia));have e2:=v5 (d:=((0:Int),(1:Int))) (aa (show j<D.length by lia));rw[<-e1,<-e2];exact t1
 refine⟨a3,U,λi=>D.getD i (0,1),rfl,SqL.of co,λi v e=>?_,zu hT b5,λi hi=>?_,nw,⋯,λl il a7 bm dy nl as c2 dp=>?_⟩
 .obtain⟨q,e1,b,e2,e3⟩:=Yx bl e;show ∃a,v=.ref a/\H11 a=some (.tup [.int (D.getD i (0,1)).1,.int (D.getD i (0,1)).2]);rw[v5 e1];exact⟨b,e2,e3⟩
 .exact qwb W n1 n2 (bk _ (gd i ⋯))
 have dm:Kp H a7:=(Kp.of b5).trans bm;refine exI rfl (exI rfl ⟨sz2,λa na=>?_⟩);have ap:Same a7 (upd a7 a (.tup [.ref l,.ref p6])):=Same.upd na;have cm:upd a7 a (.tup [.ref l,.ref p6]) a=some (.tup [.ref l,.ref p6]):=qh;generalize upd a7 a (.tup [.ref l,.ref p6])=H13 at ap cm;have d1:Paired (PtR H13) (il.map λi=>U.getD i .non) (il.map λi=>D.getD i (0,1)):=Qw λi hi=>by have hi:i<U.length:=am.mp (as.mem_iff.mp hi);have e:U[i]?=some U[i]:=aa hi;obtain⟨q,e1,b,e2,e3⟩:=Yx bl e;rw[v5 e,v5 e1];exact⟨b,e2,ap _ _ (bm.tup e3)⟩
 have mq:∀q,q∈(il.map λi=>D.getD i (0,1))↔q∈D:=λq=>by
  rw[aH];constructor
  .rintro⟨i,hi,rfl⟩;have hi:i<U.length:=am.mp (as.mem_iff.mp hi);exact gd i ⋯
  .intro h;obtain⟨i,hi,e⟩:=cM h;exact⟨i,as.mem_iff.mpr (am.mpr ⋯),by rw[v5 (aa hi)];exact e⟩
 have dg:il.length<=1025:=by rw[as.length_eq,au];lia
 refine k a l p6 _ _ Z H13 (dm.trans (Kp.of ap)) (zu dy ap) cm (ap _ _ dp) d1 (ap _ _ (bm.lst (bb _ _ (b4 _ _ ck)))) ⟨ct,cv,?_,λp=>?_,cz,by rw[af];exact dg⟩
 .refine bS.mpr (c2.imp_of_mem λ{i j} hi hj h=>?_);have hi:i<U.length:=am.mp (as.mem_iff.mp hi);have hj:j<U.length:=am.mp (as.mem_iff.mp hj);rcases h with h|⟨h,bs⟩
  .exact h
  .exact absurd h (nw i j bs hj)
 .rw[mq p];constructor
  .intro h;refine⟨bk p h,?_⟩;have:two p∈bx:=by rw[eq];exact aH.mpr ⟨p,h,rfl⟩
   have:=((a5 _).mp (a4.mem_iff.mp this)).2;exact Bool.not_eq_true' _▸this
  .rintro⟨h1,h2⟩;have:two p∈bx:=a4.mem_iff.mpr ((a5 _).mpr ⟨aH.mpr ⟨p,(wq5 W).mpr h1,rfl⟩,by show(!Zq Z p)=true;rw[h2];rfl⟩);rw[eq]at this;obtain⟨q,hq,e⟩:=aH.mp this;rw[<-xks e];exact hq
theorem RoadAt.kp {r:Aj}{ns:List Int}(h:RoadAt C H r ns)(k:Kp H H'):RoadAt C H' r ns:=by obtain⟨dx,q,h1,h2⟩:=h;exact⟨dx,q,k _ _ (λps z=>by cases z) h1,k.lst h2⟩
theorem PtR.kp (h:PtR H v p)(k:Kp H H'):PtR H' v p:=by obtain⟨a,e,f⟩:=h;exact⟨a,e,k.tup f⟩
def jy (hs:List Int)(p:Int×Int)(l:Nat):Prop:=Dist (itP hs p) l/\itP hs p l=p
def ww2 (hs:List Int)(m:Nat)(p:Int×Int):Prop:=((W9 hs m p/\¬ ∃k,Zv hs m k/\k*p.2<=p.1/\p.1<=(k+1)*p.2)\/∃k,Zv hs m k/\p=(3*k+1,3))/\jy hs p m
theorem qu9 (k:Int):gOf (3*k+1) 3=1:=by
 have h1:=uw (t:=3*k+1) (b:=3) ⋯;have h2:gOf (3*k+1) 3*(wy (3*k+1) 3).2=3:=qqh ⋯;have D:gOf (3*k+1) 3*(wy (3*k+1) 3).1=3*k+1:=qk0;have F:gOf (3*k+1) 3<=3:=by
  rcases bU 3 (gOf (3*k+1) 3) with z|z
  .have p:0<(wy (3*k+1) 3).2:=by
    rcases bU 0 (wy (3*k+1) 3).2 with y|y
    .exact y
    .have:=Int.mul_nonpos_of_nonneg_of_nonpos (show 0<=gOf (3*k+1) 3 by lia) y;lia
   have:=aZ (show(1:Int)<=(wy (3*k+1) 3).2 by lia) (show 0<=gOf (3*k+1) 3 by lia);lia
  .exact z
 rcases(by lia:gOf (3*k+1) 3=1\/gOf (3*k+1) 3=2\/gOf (3*k+1) 3=3) with e|e|e
 .exact e
 .rw[e]at h2;lia
 .rw[e]at D;lia
theorem qu4 (ok:wb hs){m:Nat}(m1:1<=m){k:Int}(h:Zv hs m k):0<=k/\k<(hs.length:Int)-1:=by obtain⟨r,hr,_,rfl⟩:=h;obtain⟨j,hj,rfl⟩:=Yr hr;exact qy3 ok m1 hj
theorem wju (ok:wb hs){m:Nat}(m1:1<=m)(m2:m<=12){p:Int×Int}(h:W9 hs m p\/∃k,Zv hs m k/\p=(3*k+1,3)):OkP p/\Pt hs p.2 p/\itP hs p m=p:=by
 have D:∀p:Int×Int,OkP p->gOf p.1 p.2=1->xr hs p.1 p.2->trT hs p.1 p.2 m=p.1->OkP p/\Pt hs p.2 p/\itP hs p m=p:=λp o g z e=>by have h:Pt hs p.2 p:=⟨o.1,cN _,g,z⟩;exact⟨o,h,(it_eq h m 0).mpr e⟩
 rcases h with h|⟨k,hk,rfl⟩
 .obtain⟨b,g,z⟩:=Yw ok m1 m2 h;exact D p (qwb ok m1 m2 h) g z ((wqy ok m1 m2 b g z).mpr (.inl h))
 .obtain⟨L,J⟩:=qu4 ok m1 hk;have F:=ok.2.1;have z:xr hs (3*k+1) 3:=⟨⋯,⋯⟩;exact D _ ⟨show(1:Int)<=3 by decide,Sm.small (by show -(2 ^ 64)<=3*k+1;lia) (by show 3*k+1<=2 ^ 64;lia) ⋯,Sm.small (show -(2 ^ 64)<=(3:Int) by decide) (show(3:Int)<=2 ^ 64 by decide) ⋯⟩ (qu9 k) z
   ((wqy ok m1 m2 (p:=(3*k+1,3)) (show(1:Int)<=3 by decide) (qu9 k) z).mpr (.inr ⟨k,hk,show k*3<=3*k+1 by lia,show 3*k+1<=(k+1)*3 by lia⟩))
theorem wu6 {m n u:Nat}(m1:1<=m)(d:Dist (itP hs p) n)(hu:u<n)(e:itP hs p n=itP hs p u):(if u=0 then V.int (n:Nat) else V.non)=V.int (m:Nat)↔jy hs p m:=by
 constructor
 .intro h;by_cases z:u=0
  .rw[aw z]at h;have:n=m:=by have:=V.int.inj h;lia
   subst this;exact⟨d,by rw[e,z];rfl⟩
  .rw[ao z]at h;cases h
 .rintro⟨L,J⟩;have D:itP hs p m=itP hs p 0:=J;have nm:n=m:=by
   rcases h9 n m with z|z|z
   .exact absurd e.symm (L u n hu z)
   .exact z
   .exact absurd D.symm (d 0 m ⋯ z)
  subst nm;have F:u=0:=by
   rcases gL u with z|z
   .exact z
   .exact absurd (D.symm.trans e) (d 0 u z hu)
  rw[aw F]
def vd (pts:List (Int×Int))(ws:List Int):List (Int×Int):=pts++ws.map λk=>(3*k+1,(3:Int))
theorem ww8 {m:Nat}{pts:List (Int×Int)}{ws:List Int}(B:BackOf hs m pts ws){p:Int×Int}:p∈vd pts ws↔((W9 hs m p/\¬ ∃k,Zv hs m k/\k*p.2<=p.1/\p.1<=(k+1)*p.2)\/∃k,Zv hs m k/\p=(3*k+1,3)):=by
 unfold vd;rw[aY,B.pmem];have l:Zq ws p=false↔¬ ∃k,Zv hs m k/\k*p.2<=p.1/\p.1<=(k+1)*p.2:=by
  cases hz:Zq ws p with
  |true =>
   obtain⟨k,D,e⟩:=dD.mp hz;exact⟨λz=>absurd z Bool.noConfusion,λz=>absurd ⟨k,(B.wmem k).mp D,dw e⟩ z⟩
  |false =>
   refine⟨λ_ ⟨k,D,e⟩=>?_,λ_=>rfl⟩;have:Zq ws p=true:=dD.mpr ⟨k,(B.wmem k).mpr D,aM e⟩;rw[this]at hz;cases hz
 rw[l,aH];exact⟨λh=>h.imp id λ⟨k,D,e⟩=>⟨k,(B.wmem k).mp D,e.symm⟩,λh=>h.imp id λ⟨k,D,e⟩=>⟨k,(B.wmem k).mpr D,e.symm⟩⟩
theorem wz2 (ok:wb hs){m:Nat}(m1:1<=m)(m2:m<=12){pts:List (Int×Int)}{ws:List Int}(B:BackOf hs m pts ws):(vd pts ws).Pairwise λp q=>p.1*q.2≠q.1*p.2:=by
 unfold vd;refine List.pairwise_append.mpr ⟨B.pup.imp λh=>Int.ne_of_lt h,bS.mpr (B.wup.imp λ{a b} h z=>?_),λp F q J z=>?_⟩
 .have z:(3*a+1)*3=(3*b+1)*3:=z;lia
 .obtain⟨k,L,rfl⟩:=aH.mp J;have z:p.1*3=(3*k+1)*p.2:=z;have Z:=(Yw ok m1 m2 ((B.pmem p).mp F).1).1;have D:=((B.pmem p).mp F).2;have W:(3*k+1)*p.2=3*(k*p.2)+p.2:=by rw[cf,b8,ii]
  have U:(k+1)*p.2=k*p.2+p.2:=by rw[cf,b8]
  rw[W]at z;have:Zq ws p=true:=dD.mpr ⟨k,L,aM ⟨⋯,by rw[U];lia⟩⟩;rw[this]at D;cases D
theorem quc [DecidableEq α]:∀(l m:List α),l.Nodup->(∀x∈l,x∈m)->l.length<=m.length
 |[],_,_,_=>aK _
 |a::l,m,nd,h=>by obtain⟨h1,h2⟩:=cP.mp nd;have:=quc l (m.erase a) h2 λx hx=>(List.mem_erase_of_ne λz=>h1 (by rw[<-z];exact hx)).mpr (h x (bu _ hx));rw[List.length_erase_of_mem (h a (.head _))]at this;have:=dP (h a (.head _));rw[aB];lia
theorem wxh (p:α->Bool):∀l:List α,(l.filter λx=>!p x).length+(l.filter p).length=l.length
 |[]=>rfl
 |a::l=>by have:=wxh p l;rw[bW,bW];cases p a <;> simp <;> lia
theorem xvs (ok:wb hs){m:Nat}{pts:List (Int×Int)}{ws:List Int}(B:BackOf hs m pts ws):pts.length+ws.length<=(xf hs m).length+hs.length:=by
 have Z:=ok.1;have np:pts.Nodup:=B.pup.imp λ{a b} h z=>by subst z;lia
 have J:ws.Nodup:=B.wup.imp λ{a b} h z=>by subst z;lia
 have F:=quc pts (qqn hs m) np λp W=>by
  rcases((B.pmem p).mp W).1 with⟨r,D,ns,rfl⟩|h
  .obtain⟨i,hi,rfl⟩:=Yr D;exact bD _ (aH.mpr ⟨i,br.mpr ⟨am.mpr hi,by rw[aX ns];rfl⟩,rfl⟩)
  .exact az _ ((wxt ok).mpr h)
 have U:=quc ws (((List.range (xf hs m).length).filter λi=>decide ((w4 hs ((xf hs m).getD i [])).1=1)).map λi=>((xf hs m).getD i []).getD 0 0) J λv hv=>by obtain⟨r,D,ns,rfl⟩:=(B.wmem v).mp hv;obtain⟨i,hi,rfl⟩:=Yr D;exact aH.mpr ⟨i,br.mpr ⟨am.mpr hi,aM ns⟩,rfl⟩
 have L:=wxh (λi=>decide ((w4 hs ((xf hs m).getD i [])).1=1)) (List.range (xf hs m).length);have l4:(qqm hs m).length<=hs.length:=by unfold qqm;rw[af];refine bo (bN _ _) ?_;rw[au];lia
 unfold qqn at F;rw[ar,af]at F;rw[af]at U;rw[au]at L;lia
theorem qug {R:α->β->Prop}:∀ {l:List α} {m:List β},l.length=m.length->(∀(i:Nat) x y,l[i]?=some x->m[i]?=some y->R x y)->Paired R l m
 |[],[],_,_=>.nil
 |[],_::_,h,_=>by cases h
 |_::_,[],h,_=>by cases h
 |x::l,y::m,h,g=>.cons (g 0 x y rfl rfl) (qug (Nat.succ.inj h) λi u v e1 e2=>g (i+1) u v e1 e2)
theorem xq3 {n:Nat}{il:List Nat}(pm:il.Perm (List.range n)){pt:Nat->Int×Int}{G:Int×Int->Prop}{c:Nat->Bool}(hc:∀j,j<il.length->(c j=true↔G (pt (il.getD j 0))))(p:Int×Int):p∈((List.range il.length).filter c).map (λj=>pt (il.getD j 0))↔∃i,i<n/\G (pt i)/\pt i=p:=by
 rw[aH];constructor
 .rintro⟨j,z,e⟩;obtain⟨h1,h2⟩:=br.mp z;have h1:=am.mp h1;have D:il[j]?=some (il.getD j 0):=by rw[ae,aa h1];rfl
  exact⟨il.getD j 0,am.mp (pm.mem_iff.mp (aL D)),(hc j h1).mp h2,e⟩
 .rintro⟨i,hi,g,e⟩;obtain⟨j,z,F⟩:=cM (pm.mem_iff.mpr (am.mpr hi));have D:il.getD j 0=i:=by rw[ae,aa z,F];rfl
  exact⟨j,br.mpr ⟨am.mpr z,(hc j z).mpr (by rw[D];exact g)⟩,by rw[D];exact e⟩
theorem xjr {il:List Nat}{pt:Nat->Int×Int}{c:Nat->Bool}(up:il.Pairwise (Wor pt))(ne:∀i j,i∈il->j∈il->i≠j->(pt i).1*(pt j).2≠(pt j).1*(pt i).2)(nd:il.Nodup):(((List.range il.length).filter c).map λj=>pt (il.getD j 0)).Pairwise λp q=>p.1*q.2<q.1*p.2:=by
 refine bS.mpr (bX (R:=(·<·)) (λ{a b} D z h=>?_) ((List.pairwise_lt_range (n:=il.length)).sublist List.filter_sublist));have D:=am.mp (br.mp D).1;have z:=am.mp (br.mp z).1;have J:il.getD a 0=il[a]:=by rw[ae,aa D];rfl
 have F:il.getD b 0=il[b]:=by rw[ae,aa z];rfl
 rw[J,F];have w:=be.mp up a b D z h;have d:=be.mp nd a b D z h;rcases w with w|w
 .exact w
 .exact absurd w.1 (ne _ _ (bF D) (bF z) d)
def qx0 (C TT:Aj):Sp:=λvs H Q _=>∃(r:Aj) (hs:List Int) (m:Int),vs=[.ref r,.int m]/\RoadAt C H r hs/\wb hs/\1<=m/\m<=12/\crS hs m.toNat<=1000/\(xf hs m.toNat).length+hs.length<=63/\vv TT vz uj H /\
 ∀(q:Aj) (ys:List V) (ps:List (Int×Int)) (H':Hp),Kp H H'->vv TT vz uj H'->H' q=some (.lst ys)->Paired (PtR H') ys ps->(∀p,p∈ps↔ww2 hs m.toNat p)->ps.Pairwise (λp q=>p.1*q.2<q.1*p.2)->ps.length<=1049->Q (.ref q) H'
include T in
theorem wkv {f:Aj}{fd:Ad}{TT:Aj}(F:Fun K "candidates" "candidates" za2 f fd)(zbg:Cal P w K mg base "back" 8 (qw9 qx TT))(zdg:Cal P w K mg base "ordered" 6 (wjb K TT qv))(zg0:Cal P w K mg base "least" 6 (qk3 K qx)) :
  FK P w K mg base 9 f fd ["road","length"] (qx0 qx TT):=by
 have sc:=Zk;refine F.okX sc (λvs H Q E h=>by obtain⟨_,_,_,rfl,_⟩:=h;rfl) λ_ _ _ _ H vs Q E hr h=>?_;obtain⟨r,hs,m,rfl,hR,Z,m1,m2,a5,a3,hT,k⟩:=h;have o1:=Z.1;have o2:=Z.2.1;have a9:(1000000:Nat)<sizeLine:=by decide
 have n1:1<=m.toNat:=by lia
 have n2:m.toNat<=12:=by lia
 refine⟨_,(qj (vn (wCA zbg (qb (pv 0) (qb (pv 1) qk))) (vy rfl (wt (wm (i:=2)) (wt (wm (i:=3)) x9))))
   (qj (jd (i:=4) (M:=[]) sc.nd rfl (by walk_at "loc") rfl rfl (by walk_at "cap") (by walk_at "has") (by walk_at "cix") rfl (by decide +kernel) rfl (show List.Nodup (["stretch"]:List Str) by decide +kernel) (vc (pv 3)) (λ_ _ _ _ _=>(z7 (x8 (wx xu (wx xy qy (pv 0)) qy) (w8 qy qk)))))
   (qp (wn (Q7 (M:=[0,1]) rfl rfl (by walk_at "cap") (by walk_at "has") (by walk_at "cix") rfl (by decide +kernel) rfl (show List.Nodup (["point","road","length"]:List Str) by decide +kernel) (vc (wCA zdg (x8 (wx Wr (pv 2) (pv 4)) qk))) (λ_ _ _ _ _=>(wu zg (qt zg0 (hr.mono ⋯) rfl j8 (qb (pv 1) (qb (pv 0) qk))) (pv 2) (wg _))) (λ_ _ _ _ _=>(pv 0))))))),?_⟩
 refine exI rfl (exI rfl ⟨r,hs,m,rfl,hR,Z,m1,m2,a5,a3,hT,λb1 lp lw ys L J H1 k1 T1 fb fl P1 fw B=>?_⟩);refine⟨b1,exI rfl ⟨SqT.of fb,rfl,_,_,rfl,_,_,rfl,rfl,?_⟩⟩;have pf:=B.pfew;have wf:=B.wfew;have ly:=bC P1;refine exI rfl ⟨lw,rfl,⟨_,SqL.of fw⟩,qwm (K:=K) (λi v H=>PtR H v (3*J.getD i 0+1,3)) (λi v H H' g st=>wqx g st) (SqL.of fw) (by rw[af];lia) (λi x H2 R hx s2 a1=>?_) λp3 U H3 a7 s3 f3 l3 g3=>?_⟩
 .rw[av]at hx;obtain⟨z,ez,rfl⟩:=df.mp hx;have wz:=qu4 Z n1 ((B.wmem z).mp (aL ez));rw[v5 ez]at a1;exact exI rfl (wc rfl rfl ⟨IntMulOk.of_left (intBits_le_64 ⋯ ⋯),wc rfl rfl ⟨sz2,λp np=>a1 _ _ (Same.upd np) ⟨p,rfl,qh⟩⟩⟩)
 rw[af]at l3;have P3:Paired (PtR H3) (ys++U) (vd L J):=by refine Paired.app (L2.Paired.mono (λ_ _ x=>PtR.same x s3) P1) (qug (by rw[af];exact l3) λi x y ex ey=>?_);rw[av]at ey;obtain⟨z,ez,rfl⟩:=df.mp ey;have:=g3 i x ex;rwa [v5 ez]at this
 have lc:(ys++U).length=(vd L J).length:=bC P3;have ln:(vd L J).length<=63:=by have:=xvs Z B;unfold vd;rw[ar,af];lia
 have a8:(ys++U).length=ys.length+U.length:=ar;refine⟨_,rfl,_,rfl,lp,p3,ys,U,rfl,rfl,s3 _ _ fl,f3,⋯,λp4 a4=>?_⟩;have s4:Same H3 (upd H3 p4 (.lst (ys++U))):=Same.upd a4;have f4:upd H3 p4 (.lst (ys++U)) p4=some (.lst (ys++U)):=qh;have T4:vv TT vz uj (upd H3 p4 (.lst (ys++U))):=zu T1 (s3.trans s4);generalize upd H3 p4 (.lst (ys++U))=H4 at s4 f4 T4;have P4:=L2.Paired.mono (λ_ _ x=>PtR.same x s4) P3;have gd:∀i,i<(vd L J).length->(vd L J)[i]?=some ((vd L J).getD i (0,1)):=λi hi=>by rw[ae,aa hi];rfl
 have cm:∀i,i<(vd L J).length->OkP ((vd L J).getD i (0,1))/\Pt hs ((vd L J).getD i (0,1)).2 ((vd L J).getD i (0,1))/\itP hs ((vd L J).getD i (0,1)) m.toNat=(vd L J).getD i (0,1):=λi hi =>
  wju Z n1 n2 (((ww8 B).mp (aL (gd i hi))).imp (λz=>z.1) id)
 have ap:∀i j,i<j->j<(vd L J).length->((vd L J).getD i (0,1)).1*((vd L J).getD j (0,1)).2≠((vd L J).getD j (0,1)).1*((vd L J).getD i (0,1)).2:=λi j h1 h2=>by have:=be.mp (wz2 Z n1 n2 B) i j ⋯ h2 h1;rw[v5 (aa (show i<(vd L J).length by lia)),v5 (aa h2)];exact this
 have an:=λp=>ww8 B (p:=p);have pl:PL H4 (ys++U) λi=>(vd L J).getD i (0,1):=λi v hv=>by obtain⟨q,eq,a,ea,fa⟩:=Yx P4 hv;dsimp only;rw[v5 eq];exact⟨a,ea,fa⟩
 generalize vd L J=cl at P4 lc ln gd cm ap an pl;refine⟨p4,ys++U,λi=>cl.getD i (0,1),rfl,SqL.of f4,pl,T4,λi hi=>(cm i ⋯).1,λi j h1 h2=>ap i j h1 ⋯,⋯,λl D H5 k5 T5 nl pm up f5=>?_⟩;have li:D.length=(ys++U).length:=by rw[pm.length_eq,au]
 have P5:Paired (PtR H5) (ys++U) cl:=L2.Paired.mono (λ_ _ x=>PtR.kp x k5) P4;have R5:RoadAt qx H5 r hs:=(((hR.kp k1).same s3).same s4).kp k5;have a2:∀j,j<D.length->∃a,(ys++U).getD (D.getD j 0) .non=.ref a/\D.getD j 0<cl.length/\H5 a=some (.tup [.int (cl.getD (D.getD j 0) (0,1)).1,.int (cl.getD (D.getD j 0) (0,1)).2]):=λj W=>by
  have e1:D[j]?=some (D.getD j 0):=by rw[ae,aa W];rfl
  have hi:=am.mp (pm.mem_iff.mp (aL e1));generalize D.getD j 0=i at hi;obtain⟨a,ea,fa⟩:=yd P5 (gd i ⋯);obtain⟨b,rfl,fb⟩:=fa;exact⟨b,by rw[ae,ea];rfl,⋯,fb⟩
 have l5:(D.map λi=>(ys++U).getD i .non).length=D.length:=af ..;refine⟨l,rfl,⟨_,SqL.of f5⟩,Zb (K:=K) (λj=>@decide (jy hs (cl.getD (D.getD j 0) (0,1)) m.toNat) (Classical.propDecidable _)) (SqL.of f5) ⋯ (λj x H6 R hx s6 ad=>?_) (λj x H6 R hx _ s6 ad=>(exI rfl (ad _ (Same.refl _)))) λp7 H7 a6 s7 f7=>?_⟩
 .have W:j<D.length:=by rw[<-l5];exact(al.mp hx).1
  obtain⟨a,ea,hi,fa⟩:=a2 j W;have ex:x=.ref a:=by rw[av,aa W]at hx;have:=ak hx;rw[<-this,<-ea,ae (l:=D),aa W];rfl
  subst ex;obtain⟨as,ab,a0⟩:=cm _ hi;generalize cl.getD (D.getD j 0) (0,1)=pt at fa as ab a0 ad;have lw:wy pt.1 pt.2=pt:=yt ab.1 ab.2.2.1;refine exI rfl (exI rfl ⟨r,a,hs,pt.1,pt.2,rfl,R5.same s6,Z,SqT.of (s6 _ _ fa),⟨ab.1,as.2.2.mono ⋯,ab.2.2.2,λd=>?_⟩,λn u H8 s8 hn d hu e=>?_⟩)
  .rw[lw]at d;exact d 0 m.toNat ⋯ ⋯ a0.symm
  .rw[lw]at d e;have li:=wu6 n1 d hu e;refine exI rfl ⟨?_,_,rfl,?_⟩
   .by_cases z:u=0
    .rw[aw z];rfl
    .rw[ao z];rfl
   .have:=ad H8 s8;have e3:@decide (jy hs pt m.toNat) (Classical.propDecidable _)=decide ((if u=0 then V.int (n:Nat) else V.non)=V.int m):=by rw[cx,@gQ _ (Classical.propDecidable _),dv,<-li,bO ⋯]
    rw[e3]at this;exact this
 .have hc:∀j,j<D.length->(@decide (jy hs (cl.getD (D.getD j 0) (0,1)) m.toNat) (Classical.propDecidable _)=true↔jy hs (cl.getD (D.getD j 0) (0,1)) m.toNat):=λj _=>@gQ _ (Classical.propDecidable _);refine k p7 _ (((List.range D.length).filter λj=>@decide (jy hs (cl.getD (D.getD j 0) (0,1)) m.toNat) (Classical.propDecidable _)).map λj=>cl.getD (D.getD j 0) (0,1)) H7 ?_ (zu T5 s7) f7 ?_ (λp=>?_) (xjr up (λi j hi W ne=>?_) (pm.nodup_iff.mpr fN)) ?_
  .exact((k1.trans (Kp.of s3)).trans (Kp.of s4)).trans (k5.trans (Kp.of s7))
  .unfold ug;rw[l5];refine Qw λj W=>?_;have W:=am.mp (br.mp W).1;obtain⟨a,ea,hi,fa⟩:=a2 j W;refine⟨a,?_,s7 _ _ fa⟩;rw[ae,av,aa W,<-ea,ae (l:=D),aa W];rfl
  .rw[xq3 (n:=(ys++U).length) pm (pt:=λi=>cl.getD i (0,1)) (G:=λp=>jy hs p m.toNat) hc p];constructor
   .rintro⟨i,hi,g,e⟩;have e:cl.getD i (0,1)=p:=e;have g:jy hs (cl.getD i (0,1)) m.toNat:=g;rw[e]at g;exact⟨(an p).mp (by rw[<-e];exact aL (gd i ⋯)),g⟩
   .rintro⟨h1,g⟩;obtain⟨i,hi,e⟩:=cM ((an p).mpr h1);have e:cl.getD i (0,1)=p:=by rw[ae,aa hi,e];rfl
    exact⟨i,⋯,by show jy hs (cl.getD i (0,1)) m.toNat;rw[e];exact g,e⟩
  .have hi:=am.mp (pm.mem_iff.mp hi);have W:=am.mp (pm.mem_iff.mp W);rcases Nat.lt_or_gt_of_ne ne with z|z
   .exact ap i j z ⋯
   .exact(ap j i z ⋯).symm
  .rw[af];have:=bN (λj=>@decide (jy hs (cl.getD (D.getD j 0) (0,1)) m.toNat) (Classical.propDecidable _)) (List.range D.length);rw[au]at this;lia
def HasC (hs:List Int)(m:Nat):Prop:=∃p,ww2 hs m p
noncomputable def wq0 (hs:List Int) (m:Nat):Bool:=@decide (HasC hs m) (Classical.propDecidable _)
theorem xxg {m:Nat}:wq0 hs m=true↔HasC hs m:=@gQ _ (Classical.propDecidable _)
noncomputable def qxd (hs:List Int) (n:Nat):List Int:=((List.range n).filter λi=>wq0 hs (1+i)).map λi:Nat=>(1:Int)+i
theorem wuw (hs:List Int)(n:Nat):qxd hs (n+1)=qxd hs n++if wq0 hs (1+n)=true then [(1:Int)+n] else []:=by unfold qxd;rw[aT,cD,aA];cases h:wq0 hs (1+n) <;> simp[h]
theorem xzj (hs:List Int)(n:Nat):(qxd hs n).length<=n:=by unfold qxd;rw[af];have:=bN (λi=>wq0 hs (1+i)) (List.range n);rwa [au]at this
def qjr (C TT:Aj):Sp:=λvs H Q _=>∃(r:Aj) (hs:List Int) (m:Int),vs=[.ref r,.int m]/\RoadAt C H r hs/\wb hs/\1<=m/\m<=12/\(∀l:Nat,1<=l->l<=m.toNat->crS hs l<=1000/\(xf hs l).length+hs.length<=63)/\vv TT vz uj H /\
 ∀(q:Aj) (H':Hp),Kp H H'->vv TT vz uj H'->H' q=some (.lst ((qxd hs m.toNat).map V.int))->H q=none->Q (.ref q) H'
include T in
theorem wyx {f:Aj}{fd:Ad}{TT:Aj}(F:Fun K "lengths" "lengths" za3 f fd)(zaa:CalD P w K mg base "check_count" 1 (zd qw))(zbh:Cal P w K mg base "candidates" 9 (qx0 qx TT)) :
  FK P w K mg base 10 f fd ["road","most"] (qjr qx TT):=by
 have sc:=qxw;refine F.okX sc (λvs H Q E h=>by obtain⟨_,_,_,rfl,_⟩:=h;rfl) λ_ _ _ _ H vs Q E hr h=>?_;obtain⟨r,hs,m,rfl,hR,ok,m1,m2,ab,hT,k⟩:=h;obtain⟨tl,ad⟩:=T.zac;have an:(1000000:Nat)<sizeLine:=by decide
 refine⟨_,(qj (xz (zm zaa.all (hr.mono ⋯) rfl qu (qb (pv 1) (w8 qy (qb (zf (v:=V.int 12) rfl ad ⟨_,rfl⟩) qk)))))
   (qp (wn (Q7 (M:=[0]) rfl rfl (by walk_at "cap") (by walk_at "has") (by walk_at "cix") rfl (by decide +kernel) rfl (show List.Nodup (["length","road"]:List Str) by decide +kernel) (yb rfl T.range_ (w8 qy (x8 (wx xu (pv 1) qy) qk))) (λ_ _ _ _ _=>(wu yr (xv (Zy (K:=K) rfl) rfl T.len_ bB (vf (qt zbh (hr.mono ⋯) rfl j8 (qb (pv 1) (qb (pv 0) qk))) qk)) qy (wg _))) (λ_ _ _ _ _=>(pv 0)))))),?_⟩
 refine⟨_,rfl,m,1,.int 12,some 12,rfl,.inr ⟨12,rfl,rfl⟩,λ_=>?_,λhw=>absurd ⟨m1,λz e=>by cases e;exact m2⟩ hw⟩;refine exI rfl (wc rfl rfl ⟨_,_,rfl,⟨⋯,⋯,⋯,⋯⟩,?_⟩);rw[show(m+1-1).toNat=m.toNat by lia];intro p np;refine⟨λi U vs H2=>U=m.toNat-i/\i<=m.toNat/\vs=(qxd hs i).map V.int/\Kp H H2/\vv TT vz uj H2/\H2 p=some (.lst vs),⟨m.toNat,⋯,aK _,rfl,(Kp.of (Same.refl H)).upd np,zu hT (Same.upd np),qh⟩,?_⟩;rintro i U vs H2 ⟨rfl,hi,rfl,k2,T2,f2⟩;have ll:=xzj hs i;refine⟨f2,by rw[af];lia,?_⟩;rcases bj i m.toNat with z|z
 .refine .inr ⟨z,?_⟩;rintro v H3 ⟨rfl,rfl⟩;have e1:((1:Int)+i).toNat=1+i:=by lia
  refine⟨_,rfl,_,rfl,r,hs,(1:Int)+i,rfl,hR.kp k2,ok,⋯,⋯,(ab _ ⋯ ⋯).1,(ab _ ⋯ ⋯).2,T2,λq ys ps H4 W T4 f4 P4 L _ _=>?_⟩;rw[e1]at L;have lp:=bC P4;have ht:wq0 hs (1+i)=decide ((ys.length:Int)>0):=by
   rw[cx,xxg,dv];constructor
   .rintro⟨c,hc⟩;have:=dP ((L c).mpr hc);lia
   .intro h;have:0<ps.length:=by lia
    exact⟨ps[0],(L _).mp (bF this)⟩
  refine⟨_,_,rfl,.inl (SqL.of f4),wc rfl rfl (exI rfl ?_)⟩;have J:=W.lst f2;have Z:=k2.trans W;have D:=wuw hs i;show if decide ((0:Int)<ys.length)=true then _ else _
  rw[show decide ((0:Int)<ys.length)=wq0 hs (1+i) from ht.symm];cases hb:wq0 hs (1+i) with
  |true =>
   rw[hb,aw rfl]at D;refine Q6 ⟨_,rfl,J,m.toNat-(i+1),⋯,rfl,z,?_,Z.upd np,tab_wr T4 J,qh⟩;rw[D,aA];rfl
  |false =>
   rw[hb,ao aJ,bG]at D;refine Y8 ⟨J,m.toNat-(i+1),⋯,rfl,z,?_,Z,T4,J⟩;rw[D]
 .obtain rfl:i=m.toNat:=by lia
  exact .inl ⟨ai _,k p H2 k2 T2 f2 np⟩
abbrev Cor:=(Int×Int)×Int
structure Cell where
 u:Int
 S:Int
 a:Int
 b:Int
def Cell.D (c:Cell):Nat:=if(c.b-c.a).natAbs=0 then 1 else(c.b-c.a).natAbs
def Cell.sg (c:Cell):Int:=if c.b>c.a then 1 else if c.b<c.a then -1 else 0
def Cell.lft (c:Cell):Cor:=(wy c.u c.S,c.a)
def Cell.rgt (c:Cell):Cor:=(wy (c.u+1) c.S,c.b)
def xm:List Cell->List Cor
 |[]=>[]
 |[c]=>[c.lft,c.rgt]
 |c::d::r=>c.lft::xm (d::r)
def jw (n M:Int):List Cell->Prop
 |[]=>False
 |[c]=>1<=c.S/\c.S<=M/\0<=c.u/\c.u+1<=n*c.S/\(0<=c.a/\c.a<=n)/\0<=c.b/\c.b<=n
 |c::d::r=>(1<=c.S/\c.S<=M/\0<=c.u/\c.u+1<=n*c.S/\(0<=c.a/\c.a<=n)/\0<=c.b/\c.b<=n)/\c.rgt=d.lft/\jw n M (d::r)
def Cell.cut (c:Cell):List Cell:=(List.range c.D).map λk:Nat=>⟨c.u*c.D+k,c.S*c.D,c.a+c.sg*k,c.a+c.sg*(k+1)⟩
def Cell.up (hs:List Int)(c:Cell):Cell:=⟨c.u,c.S,hAt hs c.a,hAt hs c.b⟩
def Zx (hs:List Int)(cs:List Cell):List Cell:=(cs.map λc=>c.cut.map (Cell.up hs)).flatten
def Zr (hs:List Int):List Cell:=(List.range (hs.length-1)).map λk:Nat=>⟨k,1,hAt hs k,hAt hs (k+1)⟩
def zp (hs:List Int):Nat->List Cell
 |0=>Zr hs
 |t+1=>Zx hs (zp hs t)
def yw (l r:Cor):List Cor:=l::(List.range ((r.2-l.2).natAbs-1)).map λk:Nat=>(wy (l.1.1*r.1.2*(((r.2-l.2).natAbs:Int)-(1+k))+r.1.1*l.1.2*(1+k)) (l.1.2*r.1.2*((r.2-l.2).natAbs:Int)),l.2+(if r.2>l.2 then 1 else -1)*(1+k))
def zh:List Cor->List Cor
 |[]=>[]
 |[c]=>[c]
 |l::r::rest=>yw l r++zh (r::rest)
theorem D_pos (c:Cell):1<=c.D:=by unfold Cell.D;split <;> lia
theorem qxg {c:Cell}(hS:1<=c.S):yw c.lft c.rgt=c.cut.map Cell.lft:=by
 have hD:=D_pos c;unfold yw Cell.cut;rw[aU];have eD:(c.b-c.a).natAbs-1=c.D-1:=by unfold Cell.D;split <;> lia
 show c.lft::(List.range ((c.b-c.a).natAbs-1)).map _=_;rw[eD];obtain⟨d,F⟩:∃d,c.D=d+1:=⟨c.D-1,⋯⟩;rw[F,dR,List.range_succ_eq_map,aO,aU];have ab:c.lft=(Cell.lft∘λk:Nat=>(⟨c.u*((d+1:Nat):Int)+k,c.S*((d+1:Nat):Int),c.a+c.sg*k,c.a+c.sg*(k+1)⟩:Cell)) 0:=by show(wy c.u c.S,c.a)=(wy (c.u*((d+1:Nat):Int)+((0:Nat):Int)) (c.S*((d+1:Nat):Int)),c.a+c.sg*((0:Nat):Int));rw[show c.u*((d+1:Nat):Int)+((0:Nat):Int)=c.u*((d+1:Nat):Int) by lia,Qn hS ⋯];simp
 rw[<-ab];congr 1;refine bP λk hk=>?_;have ad:=am.mp hk;have nz:¬ (c.b-c.a).natAbs=0:=λz=>by unfold Cell.D at F;rw[aw z]at F;lia
 have eN:(c.b-c.a).natAbs=d+1:=by unfold Cell.D at F;rw[ao nz]at F;exact F
 have W:c.sg=if c.b>c.a then 1 else -1:=by unfold Cell.sg;split;rfl;split;rfl;lia
 have U:1<=(wy c.u c.S).2:=vj hS;have L:1<=(wy (c.u+1) c.S).2:=vj hS;have x1:=v6 (t:=c.u) hS;have J:=v6 (t:=c.u+1) hS;show(wy ((wy c.u c.S).1*(wy (c.u+1) c.S).2*(((c.b-c.a).natAbs:Int)-(1+k))+(wy (c.u+1) c.S).1*(wy c.u c.S).2*(1+k)) ((wy c.u c.S).2*(wy (c.u+1) c.S).2*((c.b-c.a).natAbs:Int)),c.a+(if c.b>c.a then 1 else -1)*(1+(k:Int)))=(wy (c.u*((d+1:Nat):Int)+((k+1:Nat):Int)) (c.S*((d+1:Nat):Int)),c.a+c.sg*((k+1:Nat):Int));rw[eN,W];generalize (wy c.u c.S).1=t1 at x1;generalize (wy c.u c.S).2=b1 at x1 U;generalize (wy (c.u+1) c.S).1=t2 at J;generalize (wy (c.u+1) c.S).2=b2 at J L;have p1:1<=b1*b2:=by have:=bQ U L ⋯ ⋯;simpa using this
 have p2:(1:Int)<=b1*b2*((d+1:Nat):Int):=by have:=bQ p1 (show(1:Int)<=((d+1:Nat):Int) by lia) ⋯ ⋯;simpa using this
 have Z:(1:Int)<=c.S*((d+1:Nat):Int):=by have:=bQ hS (show(1:Int)<=((d+1:Nat):Int) by lia) ⋯ ⋯;simpa using this
 congr 1
 .refine(Yc p2 Z).mp ?_;generalize ((d+1:Nat):Int)=E;push_cast;grind
 .push_cast;grind
variable {M:Int}
theorem qxq:∀ {cs:List Cell},jw n M cs->zh (xm cs)=(cs.map λc=>c.cut.map Cell.lft).flatten++(match cs.getLast? with|some c=>[c.rgt]|none=>[])
 |[],h=>h.elim
 |[c],h=>by show yw c.lft c.rgt++[c.rgt]=_;rw[qxg h.1];simp
 |c::d::r,h=>by
  have ih:=qxq h.2.2;have e:∀l:List Cor,zh (c.lft::d.lft::l)=yw c.lft d.lft++zh (d.lft::l):=λl=>rfl;cases r with
  |nil =>
   show zh (c.lft::d.lft::[d.rgt])=_;rw[e,show zh (d.lft::[d.rgt])=zh (xm [d]) from rfl,ih,<-h.2.1,qxg h.1.1];simp
  |cons g r =>
   show zh (c.lft::d.lft::xm (g::r))=_;rw[e,show zh (d.lft::xm (g::r))=zh (xm (d::g::r)) from rfl,ih,<-h.2.1,qxg h.1.1];simp
def qkt (n M:Int)(c:Cell):Prop:=1<=c.S/\c.S<=M/\0<=c.u/\c.u+1<=n*c.S/\(0<=c.a/\c.a<=n)/\0<=c.b/\c.b<=n
theorem wub {c:Cell}(h:qkt n M c):jw n M [c]:=h
theorem qxh {c d:Cell}{r:List Cell}(h:qkt n M c)(e:c.rgt=d.lft)(t:jw n M (d::r)):jw n M (c::d::r):=⟨h,e,t⟩
theorem J3:∀ {xs ys:List Cell},jw n M xs->jw n M ys->xs.getLast?.map Cell.rgt=ys.head?.map Cell.lft->jw n M (xs++ys)
 |[],_,h,_,_=>h.elim
 |[c],[],_,h,_=>h.elim
 |[c],d::r,h,t,e=>qxh h (ak e) t
 |c::d::r,ys,h,t,e=>qxh h.1 h.2.1 (J3 (xs:=d::r) h.2.2 t (by simpa using e))
theorem js {cs:List Cell}(h:jw n M cs):cs≠[]:=by intro z;rw[z]at h;exact h
theorem Qu:∀ {cs:List Cell},jw n M cs->∀c∈cs,qkt n M c
 |[],h,_,_=>h.elim
 |[c],h,x,hx=>by rw[aQ.mp hx];exact h
 |c::d::r,h,x,hx=>by
  rcases aC.mp hx with rfl|hx
  .exact h.1
  .exact Qu h.2.2 x hx
theorem Wd (f:Nat->Cell):∀d:Nat,(∀k,k<=d->qkt n M (f k))->(∀k,k<d->(f k).rgt=(f (k+1)).lft)->jw n M ((List.range (d+1)).map f)
 |0,g,_=>g 0 (ai _)
 |d+1,g,c=>by rw[aT,aA];refine J3 (Wd f d (λk hk=>g k ⋯) λk hk=>c k ⋯) (wub (g (d+1) (ai _))) ?_;rw[aT,aA,dz];exact bT some (c d ⋯)
def quq (hs:List Int)(c:Cor):Cor:=(c.1,hAt hs c.2)
theorem sg_mul (c:Cell):c.a+c.sg*(c.D:Int)=c.b:=by
 unfold Cell.sg Cell.D;split
 .rename_i h;rw[ao ⋯];lia
 .split
  .rename_i h1 h2;rw[ao ⋯];lia
  .lia
theorem D_le {c:Cell}(hn:1<=n)(h1:0<=c.a/\c.a<=n)(h2:0<=c.b/\c.b<=n):(c.D:Int)<=n:=by unfold Cell.D;split <;> lia
theorem qx4 (ok:wb hs){M:Int}{c:Cell}(h:qkt ((hs.length:Int)-1) M c) :
  jw ((hs.length:Int)-1) (24*M) (c.cut.map (Cell.up hs))/\(c.cut.map (Cell.up hs)).head?.map Cell.lft=some (quq hs c.lft)/\(c.cut.map (Cell.up hs)).getLast?.map Cell.rgt=some (quq hs c.rgt):=by
 obtain⟨J,g2,g3,g4,g5,Z⟩:=h;have o1:=ok.1;have o2:=ok.2.1;have hD:=D_pos c;have ab:=D_le (c:=c) (n:=(hs.length:Int)-1) ⋯ g5 Z;obtain⟨d,F⟩:∃d,c.D=d+1:=⟨c.D-1,⋯⟩;have e:c.cut.map (Cell.up hs)=(List.range (d+1)).map λk:Nat=>(⟨c.u*c.D+k,c.S*c.D,hAt hs (c.a+c.sg*k),hAt hs (c.a+c.sg*(k+1))⟩:Cell):=by unfold Cell.cut;rw[aU,F];rfl
 rw[e];have U:1<=c.S*(c.D:Int):=by have:=bQ J (show(1:Int)<=c.D by lia) ⋯ ⋯;simpa using this
 have z:=qw5 ok;refine⟨Wd _ d (λk W=>⟨U,?_,?_,?_,⟨(z _).1,(z _).2⟩,(z _).1,(z _).2⟩) λk W=>?_,?_,?_⟩
 .show c.S*(c.D:Int)<=24*M;have:=bQ g2 (show(c.D:Int)<=24 by lia) ⋯ ⋯;lia
 .show 0<=c.u*(c.D:Int)+k;have:=cb g3 (show(0:Int)<=c.D by lia);lia
 .show c.u*(c.D:Int)+k+1<=((hs.length:Int)-1)*(c.S*(c.D:Int));have:=aD g4 (show(0:Int)<=c.D by lia);have L:(c.u+1)*(c.D:Int)=c.u*c.D+c.D:=by grind
  have e3:((hs.length:Int)-1)*c.S*(c.D:Int)=((hs.length:Int)-1)*(c.S*(c.D:Int)):=by grind
  lia
 .show(wy (c.u*c.D+k+1) (c.S*c.D),hAt hs (c.a+c.sg*(k+1)))=(wy (c.u*c.D+((k+1:Nat):Int)) (c.S*c.D),hAt hs (c.a+c.sg*((k+1:Nat):Int)));push_cast;rw[Int.add_assoc]
 .rw[List.range_succ_eq_map,aO];show some (wy (c.u*c.D+((0:Nat):Int)) (c.S*c.D),hAt hs (c.a+c.sg*((0:Nat):Int)))=some (wy c.u c.S,hAt hs c.a);rw[show c.u*(c.D:Int)+((0:Nat):Int)=c.u*(c.D:Int) by lia,Qn J ⋯];simp
 .rw[aT,aA,dz];show some (wy (c.u*c.D+(d:Int)+1) (c.S*c.D),hAt hs (c.a+c.sg*((d:Int)+1)))=some (wy (c.u+1) c.S,hAt hs c.b);have e1:c.u*(c.D:Int)+(d:Int)+1=(c.u+1)*(c.D:Int):=by rw[F];push_cast;grind
  have L:c.a+c.sg*((d:Int)+1)=c.b:=by have:=sg_mul c;rw[F]at this;push_cast at this;exact this
  rw[e1,L,Qn J ⋯]
theorem xwd {α:Type}{xs ys:List α}(h:xs≠[]):(xs++ys).head?=xs.head?:=by
 cases xs with
 |nil=>exact absurd rfl h
 |cons x l=>rfl
theorem xzw {α:Type}{xs ys:List α}(h:ys≠[]):(xs++ys).getLast?=ys.getLast?:=by
 rw[dz];cases g:ys.getLast? with
 |none=>exact absurd (eO.mp g) h
 |some c=>rfl
theorem Z8 (ok:wb hs){M:Int}:∀ {cs:List Cell},jw ((hs.length:Int)-1) M cs ->
  jw ((hs.length:Int)-1) (24*M) (Zx hs cs)/\(Zx hs cs).head?.map Cell.lft=cs.head?.map (λc=>quq hs c.lft)/\(Zx hs cs).getLast?.map Cell.rgt=cs.getLast?.map (λc=>quq hs c.rgt)
 |[],h=>h.elim
 |[c],h=>by have:=qx4 ok (Qu h c (by simp));show jw _ _ (c.cut.map (Cell.up hs)++[])/\(c.cut.map (Cell.up hs)++[]).head?.map Cell.lft=_/\(c.cut.map (Cell.up hs)++[]).getLast?.map Cell.rgt=_;rw[bG];exact this
 |c::d::r,h=>by
  have a:=qx4 ok h.1;have b:=Z8 ok h.2.2;have e:Zx hs (c::d::r)=c.cut.map (Cell.up hs)++Zx hs (d::r):=rfl;have ne1:=js a.1;have ne2:=js b.1;rw[e];refine⟨J3 a.1 b.1 ?_,?_,?_⟩
  .rw[a.2.2,b.2.1,h.2.1];rfl
  .rw[xwd ne1,a.2.1];rfl
  .rw[xzw ne2,b.2.2];rfl
theorem W0:∀ {cs:List Cell} (h:cs≠[]),xm cs=cs.map Cell.lft++(match cs.getLast? with|some c=>[c.rgt]|none=>[])
 |[],h=>absurd rfl h
 |[c],_=>rfl
 |c::d::r,_=>by show c.lft::xm (d::r)=_;rw[W0 (cs:=d::r) (by simp)];simp
theorem wux (ok:wb hs){M:Int}{cs:List Cell}(h:jw ((hs.length:Int)-1) M cs):(zh (xm cs)).map (quq hs)=xm (Zx hs cs):=by
 have b:=Z8 ok h;rw[qxq h,W0 (js b.1),aA];congr 1
 .unfold Zx;rw[List.map_flatten,List.map_flatten,aU,aU];congr 1;refine bP λc _=>?_;show(c.cut.map Cell.lft).map (quq hs)=(c.cut.map (Cell.up hs)).map Cell.lft;rw[aU,aU];rfl
 .have e:=b.2.2;cases g:cs.getLast? with
  |none=>exact absurd (eO.mp g) (js h)
  |some c =>
   rw[g]at e;cases g2:(Zx hs cs).getLast? with
   |none=>rw[g2]at e;cases e
   |some d =>
    rw[g2]at e;have z:d.rgt=quq hs c.rgt:=ak e;show[quq hs c.rgt]=[d.rgt];rw[z]
theorem xx5 (ok:wb hs):jw ((hs.length:Int)-1) 1 (Zr hs):=by have J:=ok.1;have z:=qw5 ok;obtain⟨d,F⟩:∃d,hs.length-1=d+1:=⟨hs.length-2,⋯⟩;unfold Zr;rw[F];refine Wd _ d (λk D=>⟨by show(1:Int)<=1;decide,by show(1:Int)<=1;decide,by show(0:Int)<=k;lia,by show(k:Int)+1<=((hs.length:Int)-1)*1;lia,z _,z _⟩) λk D=>?_;show(wy ((k:Int)+1) 1,hAt hs ((k:Int)+1))=(wy ((k+1:Nat):Int) 1,hAt hs ((k+1:Nat):Int));push_cast;rfl
theorem qy1 (ok:wb hs):∀t:Nat,jw ((hs.length:Int)-1) (24 ^ t) (zp hs t)
 |0=>xx5 ok
 |t+1=>by have:=(Z8 ok (qy1 ok t)).1;rw[show(24:Int) ^ (t+1)=24*24 ^ t by rw[Int.pow_succ];lia];exact this
theorem wq7:∀ {cs:List Cell},cs≠[]->(xm cs).length=cs.length+1:=λ{cs} h=>by
 rw[W0 h,ar,af];cases g:cs.getLast? with
 |none=>exact absurd (eO.mp g) h
 |some c=>rfl
def CoR (H:Hp)(v:V)(c:Cor):Prop:=∃q pq,v=.ref q/\H q=some (.tup [.ref pq,.int c.2])/\H pq=some (.tup [.int c.1.1,.int c.1.2])
theorem CoR.keep {c:Cor}(h:CoR H v c)(k:∀b o,(∀xs,o≠.lst xs)->H b=some o->H' b=some o):CoR H' v c:=by obtain⟨q,pq,e,a,b⟩:=h;exact⟨q,pq,e,k _ _ (λxs z=>by cases z) a,k _ _ (λxs z=>by cases z) b⟩
theorem CoR.same {c:Cor}(h:CoR H v c)(s:Same H H'):CoR H' v c:=h.keep λb o _ e=>s b o e
theorem xzg {p:Aj}{xs:List V}{o':HO}(hp:H p=some (.lst xs)):∀b o,(∀xs,o≠.lst xs)->H b=some o->upd H p o' b=some o:=λb o no e=>by
 rw[wv]
 .exact e
 .intro z;rw[z,hp]at e;exact no _ (ak e).symm
def CosV (H:Hp)(vs:List V)(cs:List Cor):Prop:=vs.length=cs.length/\∀(i:Nat) v c,vs[i]?=some v->cs[i]?=some c->CoR H v c
variable {cs:List Cor}
theorem CosV.keep (h:CosV H vs cs)(k:∀b o,(∀xs,o≠.lst xs)->H b=some o->H' b=some o):CosV H' vs cs:=⟨h.1,λi v c a b=>(h.2 i v c a b).keep k⟩
theorem CosV.same (h:CosV H vs cs)(s:Same H H'):CosV H' vs cs:=h.keep λb o _ e=>s b o e
theorem CosV.app {ws:List V}{ds:List Cor}(h:CosV H vs cs)(g:CosV H ws ds):CosV H (vs++ws) (cs++ds):=by
 refine⟨by rw[ar,ar,h.1,g.1],λi v c F D=>?_⟩;rcases bj i vs.length with z|z
 .rw[aS z]at F;rw[aS (by rw[<-h.1];exact z)]at D;exact h.2 i v c F D
 .rw[aF z]at F;rw[aF (by rw[<-h.1];exact z),<-h.1]at D;exact g.2 _ v c F D
theorem CosV.one {c:Cor}(h:CoR H v c):CosV H [v] [c]:=⟨rfl,λi v' c' e1 e2=>by
 rcases i with _|i
 .cases e1;cases e2;exact h
 .cases e1⟩
def SzP (p:Int×Int):Prop:=1<=p.2/\p.2<=1000000000000000000/\0<=p.1/\p.1<=1000000000000000000
def SzC (c:Cor):Prop:=SzP c.1/\0<=c.2/\c.2<=24
def qqv (K:Aa):Sp:=λvs H Q _=>∃(p q:Aj) (l r:Int×Int) (k m:Int),vs=[.ref p,.ref q,.int k,.int m]/\SqT K H p [.int l.1,.int l.2]/\SqT K H q [.int r.1,.int r.2]/\SzP l/\SzP r/\0<=k/\k<=m/\1<=m/\m<=24 /\
 ∀x H',H x=none->Same H H'->H' x=some (.tup (ptV (wy (l.1*r.2*(m-k)+r.1*l.2*k) (l.2*r.2*m))))->Q (.ref x) H'
theorem xyj (a1:1<=a)(a2:a<=1000000000000000000)(b1:1<=b)(b2:b<=1000000000000000000)(m1:1<=m)(m2:m<=24):1<=a*b*m/\Sm 9000 (a*b*m):=by
 have D:1<=a*b:=by have:=bQ a1 b1 ⋯ ⋯;simpa using this
 have p2:a*b<=1000000000000000000*1000000000000000000:=bQ a2 b2 ⋯ ⋯;have z:1<=a*b*m:=by have:=bQ D m1 ⋯ ⋯;simpa using this
 have F:a*b*m<=1000000000000000000*1000000000000000000*24:=bQ p2 m2 ⋯ ⋯;exact⟨z,(show Sm 200 (a*b*m) from by unfold Sm;lia).mono ⋯⟩
include T in
theorem wzn (F:Fun K "between" "between" zcm f fd)(zam:Cal P w K mg base "lowest" 2 (uc qv)):FK P w K mg base 3 f fd ["left","right","part","many"] (qqv K):=by
 have W:=wv4;refine F.okX W (λvs H Q E h=>by obtain⟨_,_,_,_,_,_,rfl,_⟩:=h;rfl) λ_ _ _ _ H vs Q E hr h=>?_;obtain⟨p,q,l,r,k,m,rfl,J,D,⟨l1,l2,l3,l4⟩,⟨r1,Z,r3,r4⟩,k0,km,m1,m2,kq⟩:=h;have L:=xyj l1 l2 r1 Z m1 m2;refine⟨_,(qj (wp (i:=4) (wx xu (wx xy (wx xy (xh k6 (pv 0) qy (λ_ _=>rfl)) (xh k6 (pv 1) qy (λ_ _=>rfl))) (wx zy (pv 3) (pv 2))) (wx xy (wx xy (xh k6 (pv 1) qy (λ_ _=>rfl)) (xh k6 (pv 0) qy (λ_ _=>rfl))) (pv 2))))
   (qp (wn (wCA zam (qb (pv 4) (x8 (wx xy (wx xy (xh k6 (pv 0) qy (λ_ _=>rfl)) (xh k6 (pv 1) qy (λ_ _=>rfl))) (pv 3)) qk)))))),?_⟩
 refine exI rfl (exX rfl rfl J rfl (exI rfl (exX rfl rfl D rfl (wc rfl rfl ⟨(by walk_at "mul"),exI rfl (exI rfl (wc rfl rfl (wc rfl rfl ⟨(by walk_at "mul"),?_⟩)))⟩))));refine exI rfl (exX rfl rfl D rfl (exI rfl (exX rfl rfl J rfl (wc rfl rfl ⟨(by walk_at "mul"),exI rfl (wc rfl rfl ⟨(by walk_at "mul"),wc rfl rfl ?_⟩)⟩))));refine⟨_,rfl,_,rfl,_,_,_,_,rfl,rfl,J,rfl,_,rfl,_,_,_,_,rfl,rfl,D,rfl,_,_,rfl,rfl,(by walk_at "mul"),_,rfl,_,_,rfl,rfl,(by walk_at "mul"),_,_,rfl,λ_=>⟨L.2,λx U=>kq x _ U (Same.upd U) qh⟩,λz=>absurd L.1 ⋯⟩
def qzf (K:Aa):Sp:=λvs H Q _=>∃(v w:V) (l r:Cor),vs=[v,w]/\CoR H v l/\CoR H w r/\SzC l/\SzC r/\∀p ys H',H p=none->Same H H'->H' p=some (.lst ys)->CosV H' ys (yw l r)->Q (.ref p) H'
include T in
theorem wuq (F:Fun K "parted" "parted" zcn f fd)(zg1:Cal P w K mg base "between" 3 (qqv K)):FK P w K mg base 4 f fd ["left","right"] (qzf K):=by
 have sc:=xqp;refine F.okX sc (λvs H Q E h=>by obtain⟨_,_,_,_,rfl,_⟩:=h;rfl) λ_ _ _ s H vs Q E hr h=>?_;obtain⟨v,w',l,r,rfl,hl,an,sl,sr,k⟩:=h;obtain⟨U,pl,rfl,a1,a2⟩:=id hl;obtain⟨qr,pr,rfl,b1,b2⟩:=id an;have ap:(1000000:Nat)<sizeLine:=by decide
 obtain⟨⟨l1,l2,l3,l4⟩,l5,l6⟩:=id sl;obtain⟨⟨r1,r2,r3,r4⟩,r5,r6⟩:=id sr;refine⟨_,(qj (vn (pv 0) (vy rfl (wt (wm (i:=2)) (wt (wm (i:=3)) x9))))
   (qj (vn (pv 1) (vy rfl (wt (wm (i:=4)) (wt (wm (i:=5)) x9))))
   (qj (wp (i:=6) (xv Yb rfl T.abs_ Y3 (x8 (wx zy (pv 5) (pv 3)) qk)))
   (qj (wp (i:=7) (y0 (wu yr (pv 5) (pv 3) (wg _)) qy (Wy ym qy)))
   (qj (jd (i:=8) (M:=[2,3,4,6,7]) sc.nd rfl (by walk_at "loc") rfl rfl (by walk_at "cap") (by walk_at "has") (by walk_at "cix") rfl (by decide +kernel) rfl (show List.Nodup (["part","start","low","end","many","step"]:List Str) by decide +kernel) (yb rfl T.range_ (w8 qy (qb (pv 6) qk))) (λ_ _ _ _ _=>(z7 (vf (qt zg1 (hr.mono ⋯) rfl j8 (qb (pv 1) (qb (pv 3) (qb (pv 0) (qb (pv 4) qk))))) (x8 (wx xu (pv 2) (wx xy (pv 5) (pv 0))) qk)))))
   (qp (wn (wx Wr (k7 (qb (pv 0) qk)) (pv 8))))))))),?_⟩
 refine exI rfl ⟨U,exI rfl ⟨SqT.of a1,rfl,_,_,rfl,_,_,rfl,rfl,?_⟩⟩;refine exI rfl ⟨qr,exI rfl ⟨SqT.of b1,rfl,_,_,rfl,_,_,rfl,rfl,?_⟩⟩;refine exI rfl (exI rfl (wc rfl rfl (exI rfl ?_)));have eD:(if r.2-l.2<0 then -(r.2-l.2) else r.2-l.2)=((r.2-l.2).natAbs:Int):=by split <;> lia
 simp only[eD];have dl:(r.2-l.2).natAbs<=24:=by lia
 refine exI rfl (exI rfl (wc rfl rfl (exI rfl (jq (λg=>?_) (λg=>?_)))))
 .have ab:(if r.2>l.2 then(1:Int) else -1)=(1:Int):=by rw[aw g]
  refine exI rfl ⟨1,((r.2-l.2).natAbs:Int),rfl,⟨⋯,⋯,⋯,⋯⟩,Wf (λi v H'=>CoR H' v (wy (l.1.1*r.1.2*(((r.2-l.2).natAbs:Int)-(1+i))+r.1.1*l.1.2*(1+i)) (l.1.2*r.1.2*((r.2-l.2).natAbs:Int)),l.2+(1:Int)*(1+i))) (λi v H1 H2 g st=>g.keep st) ⋯ (λi H' R hi s' hR=>?_) λp1 ys H1 np1 L f1 ly g1=>?_⟩
  .refine⟨_,rfl,_,rfl,_,rfl,_,rfl,pl,pr,l.1,r.1,_,_,rfl,s'.sqt (SqT.of a2),s'.sqt (SqT.of b2),sl.1,sr.1,⋯,⋯,⋯,⋯,λx H2 nx s2 z=>?_⟩;refine exI rfl (exI rfl (exI rfl (wc rfl rfl ⟨(by walk_at "mul"),wc rfl rfl ⟨sz2,λW Z=>?_⟩⟩)));exact hR (.ref W) _ (s2.trans (Same.upd Z)) ⟨W,x,rfl,qh,(Same.upd Z) _ _ z⟩
  .refine exI rfl ⟨sz1,λp2 n2=>?_⟩;have s2:=Same.upd (o:=.lst [V.ref U]) n2;have z:=s2 _ _ f1;have ad:ys.length<=24:=by lia
   refine⟨_,rfl,p2,p1,_,_,rfl,rfl,qh,z,by simp only[aB,bA];lia,λp3 n3=>?_⟩;have J:=Same.upd (o:=.lst ([V.ref U]++ys)) n3;have D:=L.trans (s2.trans J);refine k p3 _ _ ((L.trans s2).free n3) D qh ?_;refine CosV.app (cs:=[l]) (CosV.one (hl.same D)) ⟨by rw[af,au,ly];lia,λi v c e1 e2=>?_⟩;have hi:i<ys.length:=(al.mp e1).1;rw[av,aV ⋯]at e2;have e3:=ak e2;rw[<-e3,ab];exact(g1 i v e1).same (s2.trans J)
 .have ab:(if r.2>l.2 then(1:Int) else -1)=(-1:Int):=by rw[ao g]
  refine exI rfl ?_;refine exI rfl ⟨1,((r.2-l.2).natAbs:Int),rfl,⟨⋯,⋯,⋯,⋯⟩,Wf (λi v H'=>CoR H' v (wy (l.1.1*r.1.2*(((r.2-l.2).natAbs:Int)-(1+i))+r.1.1*l.1.2*(1+i)) (l.1.2*r.1.2*((r.2-l.2).natAbs:Int)),l.2+(-1:Int)*(1+i))) (λi v H1 H2 g st=>g.keep st) ⋯ (λi H' R hi s' hR=>?_) λp1 ys H1 np1 L f1 ly g1=>?_⟩
  .refine⟨_,rfl,_,rfl,_,rfl,_,rfl,pl,pr,l.1,r.1,_,_,rfl,s'.sqt (SqT.of a2),s'.sqt (SqT.of b2),sl.1,sr.1,⋯,⋯,⋯,⋯,λx H2 nx s2 z=>?_⟩;refine exI rfl (exI rfl (exI rfl (wc rfl rfl ⟨(by walk_at "mul"),wc rfl rfl ⟨sz2,λW Z=>?_⟩⟩)));exact hR (.ref W) _ (s2.trans (Same.upd Z)) ⟨W,x,rfl,qh,(Same.upd Z) _ _ z⟩
  .refine exI rfl ⟨sz1,λp2 n2=>?_⟩;have s2:=Same.upd (o:=.lst [V.ref U]) n2;have z:=s2 _ _ f1;have ad:ys.length<=24:=by lia
   refine⟨_,rfl,p2,p1,_,_,rfl,rfl,qh,z,by simp only[aB,bA];lia,λp3 n3=>?_⟩;have J:=Same.upd (o:=.lst ([V.ref U]++ys)) n3;have D:=L.trans (s2.trans J);refine k p3 _ _ ((L.trans s2).free n3) D qh ?_;refine CosV.app (cs:=[l]) (CosV.one (hl.same D)) ⟨by rw[af,au,ly];lia,λi v c e1 e2=>?_⟩;have hi:i<ys.length:=(al.mp e1).1;rw[av,aV ⋯]at e2;have e3:=ak e2;rw[<-e3,ab];exact(g1 i v e1).same (s2.trans J)
theorem qzz:∀ {cs:List Cor} (h:cs≠[]),zh cs=((cs.zip cs.tail).map λp=>yw p.1 p.2).flatten++[cs.getLast h]
 |[],h=>absurd rfl h
 |[c],_=>rfl
 |l::r::rest,_=>by show yw l r++zh (r::rest)=_;rw[qzz (cs:=r::rest) (by simp)];simp
theorem qwf (h:1<=vs.length):cutV vs (some 1) none=vs.drop 1:=by
 unfold cutV;have D:HT.sIx vs.length 0 (some 1)=1:=by unfold HT.sIx;simp;lia
 have z:HT.sIx vs.length vs.length none=vs.length:=rfl;rw[D,z,dQ (by rw[bI];lia)]
theorem wxz {l r:Cor}(sl:SzC l)(sr:SzC r):(yw l r).length<=25:=by unfold yw;rw[aB,af,au];have:=sl.2;have:=sr.2;lia
def qx5 (K:Aa):Sp:=λvs H Q _=>∃(p:Aj) (us:List V) (cs:List Cor),vs=[.ref p]/\H p=some (.lst us)/\CosV H us cs/\1<=cs.length/\cs.length<=1000/\(∀c∈cs,SzC c)/\∀q ys H',H q=none->Same H H'->H' q=some (.lst ys)->CosV H' ys (zh cs)->Q (.ref q) H'
include T in
theorem wyg (F:Fun K "with_whole_heights" "with_whole_heights" zco f fd)(zg2:Cal P w K mg base "parted" 4 (qzf K)):FK P w K mg base 5 f fd ["line"] (qx5 K):=by
 have sc:=Q2;refine F.okX sc (λvs H Q E h=>by obtain⟨_,_,_,rfl,_⟩:=h;rfl) λ_ _ _ _ H vs Q E hr h=>?_;obtain⟨p,D,cs,rfl,hp,hC,c1,c2,sz,k⟩:=h;have bl:(1000000:Nat)<sizeLine:=by decide
 have lu:D.length=cs.length:=hC.1;refine⟨_,(qj (wp (i:=1) (k7 qk))
   (qj (Qj bp rfl (qy2 rfl T.zip_ (qb (pv 0) (yq (qwd qyg (pv 0) (qjf qy) qyk) qk))) (vy rfl (wt (wm (i:=2)) (wt (wm (i:=3)) x9))) (qp (xz (qkm cI iq ir qkn (pv 1) (vf (wCA zg2 (qb (pv 2) (qb (pv 3) qk))) qk)))))
   (qp (wn (wx Wr (pv 1) (k7 (yq (xh zw (pv 0) (Wy ym qy) (λ_ _=>rfl)) qk))))))),?_⟩
 refine⟨sz0,λJ ab=>?_⟩;have Z:=Same.upd (o:=.lst []) ab;have f1:upd H J (.lst []) J=some (.lst []):=qh;have a2:p≠J:=wj hp ab;generalize upd H J (.lst [])=H1 at Z f1;refine exI rfl (exI rfl (exI rfl ⟨p,D,rfl,SqL.of (Z _ _ hp),λp2 n2=>?_⟩));rw[qwf ⋯];have s2:=Same.upd (o:=.lst (D.drop 1)) n2;have f2:upd H1 p2 (.lst (D.drop 1)) p2=some (.lst (D.drop 1)):=qh;have d2:J≠p2:=wj f1 n2;have a5:=s2 _ _ f1;generalize upd H1 p2 (.lst (D.drop 1))=H2 at s2 f2 a5;have ad:=s2 _ _ (Z _ _ hp);refine⟨p,p2,D,D.drop 1,rfl,SqL.of ad,SqL.of f2,xv3 (λi σ H'=>(∀b o,b≠J->H2 b=some o->H' b=some o)/\∃ys z2 z3,σ=[some (.ref p),some (.ref J),z2,z3]/\H' J=some (.lst ys)/\CosV H' ys (((cs.zip cs.tail).take i).map λp=>yw p.1 p.2).flatten/\ys.length<=25*i)
  ⟨λb o _ e=>e,[],_,_,rfl,a5,⟨rfl,λi v c e=>by cases e⟩,ai _⟩ (λi σ H' h=>⟨SqL.of (h.1 _ _ a2 ad),SqL.of (h.1 _ _ (cV d2) f2)⟩) ?_ ?_⟩
 .rintro i x y q σ H3 ex ey nq ⟨kp,ys,z2,z3,rfl,fy,cy,ly⟩;have hi:i+1<D.length:=by rw[cQ]at ey;have:=(al.mp ey).1;lia
  have W:=Same.upd (o:=.tup [x,y]) nq;have nt:∀b o,(∀xs,o≠.lst xs)->H b=some o->H3 b=some o:=λb o no e=>kp b o (λz=>by rw[z,ab]at e;cases e) (s2 _ _ (Z _ _ e));have ec:cs[i]?=some cs[i]:=aa ⋯;have ap:cs[i+1]?=some cs[i+1]:=aa ⋯;have a9:D[i+1]?=some y:=by rw[cQ,iO]at ey;exact ey
  have cl:=((hC.2 i x _ ex ec).keep nt).same W;have cr:=((hC.2 (i+1) y _ a9 ap).keep nt).same W;have a0:=sz _ (aL ec);have as:=sz _ (aL ap);have a4:=W _ _ fy;refine⟨q,exI rfl ⟨SqT.new,rfl,_,_,rfl,_,_,rfl,rfl,?_⟩⟩;refine exI rfl ⟨.inl ⟨rfl,_,SqL.of a4⟩,exI rfl (exI rfl ⟨x,y,_,_,rfl,cl,cr,a0,as,λp4 zs H4 bd L f4 cz=>?_⟩)⟩;have a3:=L _ _ a4;have lz:zs.length<=25:=by rw[cz.1];exact wxz a0 as
  refine⟨J,p4,_,_,rfl,rfl,a3,f4,⋯,?_⟩;have kl:=xzg (o':=.lst (ys++zs)) a3;refine⟨λb o nb e=>?_,ys++zs,_,_,rfl,qh,?_,by rw[ar];lia⟩
  .rw[wv nb];exact L _ _ (W _ _ (kp b o nb e))
  .have e:((cs.zip cs.tail).take (i+1)).map (λp=>yw p.1 p.2)=((cs.zip cs.tail).take i).map (λp=>yw p.1 p.2)++[yw cs[i] cs[i+1]]:=by
    have ez:(cs.zip cs.tail)[i]?=some (cs[i],cs[i+1]):=by rw[gW];refine⟨ec,?_⟩;rw[List.getElem?_tail];exact ap
    rw[i8,ez,aA];rfl
   rw[e,eP];refine CosV.app (((cy.same W).same L).keep kl) ?_;simpa using cz.keep kl
 .rintro σ H3 ⟨kp,ys,z2,z3,rfl,fy,cy,ly⟩;have a6:min D.length (D.drop 1).length=(cs.zip cs.tail).length:=by rw[gh,bI,List.length_tail];lia
  rw[a6,bq]at cy;have an:cs≠[]:=λz=>by rw[z]at c1;simp at c1
  have U:D≠[]:=λz=>by rw[z]at lu;simp at lu;lia
  have a7:=kp _ _ a2 ad;have el:D[D.length-1]?=some (D.getLast U):=by rw[<-dk,dG U]
  have a8:atI D (-1)=some (D.getLast U):=by
   have e1:D=D.dropLast++[D.getLast U]:=(cB U).symm
   conv=>lhs;rw[e1]
   exact u9 _ _
  have bb:cs[D.length-1]?=some (cs.getLast an):=by rw[lu,<-dk,dG an]
  have bk:ys.length<=25000:=by rw[a6,gh,List.length_tail]at ly;lia
  refine exI rfl (exI rfl (exI rfl (exX rfl rfl (SqL.of a7) a8 ⟨sz1,λp4 n4=>?_⟩)));have L:=Same.upd (o:=.lst [D.getLast U]) n4;refine⟨J,p4,_,_,rfl,rfl,L _ _ fy,qh,by simp only[aB,bA];lia,λp5 n5=>?_⟩;have s5:=Same.upd (o:=.lst (ys++[D.getLast U])) n5;have a1:Same H H3:=λb o e=>kp b o (λz=>by rw[z,ab]at e;cases e) (s2 _ _ (Z _ _ e));have t5:=a1.trans (L.trans s5);refine k p5 _ _ ((a1.trans L).free n5) t5 qh ?_;rw[qzz an];exact CosV.app ((cy.same L).same s5) (CosV.one ((hC.2 _ _ _ el bb).same t5))
theorem wvu:∀ {cs:List Cor},(∀c∈cs,SzC c)->cs.length<=1000->(zh cs).length<=30*1000:=λ{cs} h hl=>by
 have key:∀cs:List Cor,(∀c∈cs,SzC c)->(zh cs).length<=25*cs.length:=by
  intro cs
  induction cs with
  |nil=>intro _;exact aK _
  |cons l rest ih =>
   intro h;cases rest with
   |nil=>show 1<=25*1;decide
   |cons r rest =>
    have:=ih λc z=>h c (.tail _ z);have p:=wxz (h l (.head _)) (h r (.tail _ (.head _)));show(yw l r++zh (r::rest)).length<=_;rw[ar,aB];lia
 have:=key cs h;lia
theorem xqh:∀ {cs:List Cor},(∀c∈cs,0<=c.2/\c.2<=n)->∀c∈zh cs,0<=c.2/\c.2<=n:=by
 intro cs
 induction cs with
 |nil=>intro _ c z;cases z
 |cons l rest ih =>
  intro h c z;cases rest with
  |nil=>rw[aQ.mp z];exact h l (.head _)
  |cons r rest =>
   have D:=h l (.head _);have J:=h r (.tail _ (.head _));rcases aY.mp (show c∈yw l r++zh (r::rest) from z) with z|z
   .rcases aC.mp z with rfl|z
    .exact D
    .obtain⟨k,F,rfl⟩:=aH.mp z;have L:=am.mp F;show 0<=l.2+(if r.2>l.2 then 1 else -1)*(1+(k:Int))/\l.2+(if r.2>l.2 then 1 else -1)*(1+(k:Int))<=n;split <;> lia
   .exact ih (λc z=>h c (.tail _ z)) c z
theorem xvt:∀ {cs:List Cell},jw n M cs->∀x∈xm cs,0<=x.2/\x.2<=n
 |[],h,_,_=>h.elim
 |[c],h,x,hx=>by
  obtain⟨_,_,_,_,a,b⟩:=Qu h c (by simp);rcases aC.mp hx with rfl|hx
  .exact a
  .rw[aQ.mp hx];exact b
 |c::d::r,h,x,hx=>by
  rcases aC.mp hx with rfl|hx
  .exact h.1.2.2.2.2.1
  .exact xvt h.2.2 x hx
theorem qkb (s:Same H H'){p:Aj}(n:H' p=none):H p=none:=by
 cases e:H p with
 |none=>rfl
 |some o=>rw[s _ _ e]at n;cases n
theorem wv8 (i:Int):wy i 1=(i,1):=by
 have h1:1<=(wy i 1).2:=vj ⋯;have h2:(wy i 1).2<=1:=uk ⋯;have e:(wy i 1).2=1:=by lia
 have c:=v6 (t:=i) (b:=1) ⋯;rw[e,g9,g9]at c;exact iB c e
theorem cors0 (ok:wb hs):xm (Zr hs)=(List.range hs.length).map λk:Nat=>(((k:Int),(1:Int)),hAt hs k):=by
 have F:=ok.1;obtain⟨d,D⟩:∃d,hs.length=d+1+1:=⟨hs.length-2,⋯⟩;have z:Zr hs≠[]:=js (xx5 ok);rw[W0 z];unfold Zr;rw[aU,D,dR,aT (n:=d+1),aA];congr 1
 .refine bP λk _=>?_;show(wy (k:Int) 1,hAt hs k)=_;rw[wv8]
 .rw[aT,aA,dz];show[(wy ((d:Int)+1) 1,hAt hs ((d:Int)+1))]=[((((d+1:Nat):Int),(1:Int)),hAt hs ((d+1:Nat):Int))];rw[wv8];push_cast;rfl
theorem wk4 {u S:Int}(hS:1<=S)(h0:0<=u)(h1:u<=n*S):0<=(wy u S).1/\(wy u S).1<=n*(wy u S).2:=by
 constructor
 .rcases bU (wy u S).1 0 with z|z
  .have:=(Yj hS).mp z;lia
  .exact z
 .rcases bU (n*(wy u S).2) (wy u S).1 with z|z
  .have:=(qyr hS).mp z;lia
  .exact z
theorem wj0 (n0:0<=n)(n24:n<=24)(hM:M<=40000000000000000){c:Cell}(h:qkt n M c):SzC c.lft/\SzC c.rgt:=by obtain⟨z,g2,W,U,g5,g6⟩:=h;have L:1<=(wy c.u c.S).2:=vj z;have l2:(wy c.u c.S).2<=c.S:=uk z;have J:1<=(wy (c.u+1) c.S).2:=vj z;have Z:(wy (c.u+1) c.S).2<=c.S:=uk z;have F:=wk4 z W (show c.u<=n*c.S by lia);have D:=wk4 z (show 0<=c.u+1 by lia) U;have b1:n*(wy c.u c.S).2<=24*40000000000000000:=bQ n24 ⋯ ⋯ ⋯;have b2:n*(wy (c.u+1) c.S).2<=24*40000000000000000:=bQ n24 ⋯ ⋯ ⋯;refine⟨⟨⟨L,by show(wy c.u c.S).2<=_;lia,F.1,by show(wy c.u c.S).1<=_;lia⟩,by show 0<=c.a;lia,by show c.a<=24;lia⟩,⟨J,by show(wy (c.u+1) c.S).2<=_;lia,D.1,by show(wy (c.u+1) c.S).1<=_;lia⟩,by show 0<=c.b;lia,by show c.b<=24;lia⟩
theorem wk2 (n0:0<=n)(n24:n<=24)(hM:M<=40000000000000000):∀ {cs:List Cell},jw n M cs->∀x∈xm cs,SzC x
 |[],h,_,_=>h.elim
 |[c],h,x,hx=>by
  have:=wj0 n0 n24 hM (Qu h c (by simp));rcases aC.mp hx with rfl|hx
  .exact this.1
  .rw[aQ.mp hx];exact this.2
 |c::d::r,h,x,hx=>by
  rcases aC.mp hx with rfl|hx
  .exact(wj0 n0 n24 hM h.1).1
  .exact wk2 n0 n24 hM h.2.2 x hx
theorem pow24:∀t:Nat,t<=11->(24:Int) ^ t<=40000000000000000:=by decide +kernel
def wzm (H:Hp)(ys:List V)(i:Nat):V×V:=match ys[i]? with|some (.ref q)=>(match H q with|some (.tup [x,y])=>(x,y)|_=>(.non,.non))|_=>(.non,.non)
theorem qv4 {x y:V}(e:ys[i]?=some (.ref q))(f:H q=some (.tup [x,y])):wzm H ys i=(x,y):=by unfold wzm;rw[e];show(match H q with|some (.tup [x,y])=>(x,y)|_=>_)=_;rw[f]
def qx6 (C CT:Aj):Sp:=λvs H Q E=>∃(r:Aj) (hs:List Int) (m:Int),vs=[.ref r,.int m]/\RoadAt C H r hs/\wb hs/\1<=m/\m<=12 /\
 ((∀t:Nat,(t:Int)<m->(xm (zp hs t)).length<=1000)->∀p us H',H p=none->Same H H'->H' p=some (.lst us)->CosV H' us (xm (zp hs (m.toNat-1)))->Q (.ref p) H') /\
 ((∃t:Nat,(t:Int)<m/\1000<(xm (zp hs t)).length)->∀H',Same H H'->E (.ref CT) none H')
include T in
theorem wkd (F:Fun K "laid" "laid" za5 f fd)(zaa:CalD P w K mg base "check_count" 1 (zd qw))(zbc:MCal P w K mg base qx "corners" 1 (u6 qx))(zg3:Cal P w K mg base "with_whole_heights" 5 (qx5 K)) :
  FK P w K mg base 6 f fd ["road","many"] (qx6 qx qd):=by
 have sc:=wj2;refine F.okX sc (λvs H Q E h=>by obtain⟨_,_,_,rfl,_⟩:=h;rfl) λ_ _ _ s H vs Q E hr h=>?_;obtain⟨r,hs,m,rfl,hR,ok,m1,m2,k,kx⟩:=h;obtain⟨dx,q0,h1,h2⟩:=id hR;obtain⟨tm,a0⟩:=T.zai;obtain⟨tc,as⟩:=T.zat;have o1:=ok.1;have o2:=ok.2.1;refine⟨_,(qj (xz (zm zaa.all (hr.mono ⋯) rfl qu (qb (pv 1) (w8 qy (qb (zf (v:=V.int 12) rfl a0 ⟨_,rfl⟩) qk)))))
   (qj (wp (i:=2) (zc (pv 0) T.cl zbc (hr.mono ⋯) qu))
   (qj (Wc (i:=3) (x := "corner") (y2 := "height") (M:=[]) sc.nd rfl (by walk_at "loc") rfl rfl (by walk_at "cap") (by walk_at "has") (by walk_at "cix") rfl (by decide +kernel) (λ_ _ _ _ _=>Yy (K:=K) (n:=2) rfl rfl (wt (wm (i:=0) (show List.Nodup (["corner","height"]:List Str) by decide +kernel) rfl (by walk_at "loc")) (wt (wm (i:=1) (show List.Nodup (["corner","height"]:List Str) by decide +kernel) rfl (by walk_at "loc")) x9))) (xjm rfl T.enumerate_ (qb (pv 2) qk)) (λ_ _ _ _ _=>(z7 (wq1 (z7 (qb (pv 0) (w8 qy qk))) (qb (pv 1) qk)))))
   (qj (Qj bp rfl (yb rfl T.range_ (w8 qy (qb (pv 1) qk))) (wm (i:=4)) (qj (Wc (i:=3) (x := "point") (y2 := "height") (M:=[2]) sc.nd rfl (by walk_at "loc") rfl rfl (by walk_at "cap") (by walk_at "has") (by walk_at "cix") rfl (by decide +kernel) (λ_ _ _ _ _=>Yy (K:=K) (n:=2) rfl rfl (wt (wm (i:=0) (show List.Nodup (["point","height","heights"]:List Str) by decide +kernel) rfl (by walk_at "loc")) (wt (wm (i:=1) (show List.Nodup (["point","height","heights"]:List Str) by decide +kernel) rfl (by walk_at "loc")) x9))) (vc (wCA zg3 (qb (pv 3) qk))) (λ_ _ _ _ _=>(z7 (qb (pv 0) (yq (xh (jt (K:=K) rfl) (pv 2) (pv 1) (λ_ _=>rfl)) qk)))))
   (qp (xn (wu yr (xv xg rfl T.len_ bB (qb (pv 3) qk)) (zf (v:=V.int 1000) rfl as ⟨_,rfl⟩) (wg _)) (qp (v9 rfl T.zan vw rfl T.zc7 (w8 vg qk))) xw))))
   (qp (wn (pv 3))))))),?_⟩
 refine⟨_,rfl,m,1,.int 12,some 12,rfl,.inr ⟨12,rfl,rfl⟩,λ_=>?_,λw1=>absurd ⟨m1,λ_ e=>by cases e;exact m2⟩ w1⟩;refine exI rfl ⟨r,dx,exI rfl ⟨h1,w5 (by decide +kernel),r,hs,rfl,hR,λZ nh=>?_⟩⟩;have s1:=Same.upd (o:=.lst (hs.map V.int)) nh;have f1:upd H Z (.lst (hs.map V.int)) Z=some (.lst (hs.map V.int)):=qh;generalize upd H Z (.lst (hs.map V.int))=H1 at s1 f1;have lh:(hs.map V.int).length=hs.length:=af _;refine exI rfl ⟨Z,exI rfl ⟨SqL.of f1,qjt (K:=K) hs.length (λi=>(.int (i:Nat),.int (hAt hs i))) (λi v H'=>CoR H' v (((i:Int),(1:Int)),hAt hs i)) (λi v H1 H2 g st=>g.keep st) ⋯ (λi H' hi s'=>⟨SqL.of (s' _ _ f1),by rw[lh];exact hi⟩) (λH' s'=>⟨SqL.of (s' _ _ f1),by rw[lh];exact ai _⟩) ?_ (λi H' R hi s' an=>?_) λL J H2 a4 s2 f2 lu g2=>?_⟩⟩
 .rintro i H2 v H3 hi s2 ⟨q,x,nq,rfl,ex,rfl⟩;refine⟨Same.upd nq,q,rfl,?_⟩;have:x=.int (hAt hs i):=by rw[av,aa hi]at ex;have:=ak ex;rw[<-this];unfold hAt;rw[ae,show((i:Int)).toNat=i by lia,aa hi];rfl
  rw[this];exact SqT.new
 .refine exI rfl ⟨sz2,λpa na=>(exI rfl ⟨sz2,λpb nb=>?_⟩)⟩;exact an (.ref pb) _ ((Same.upd na).trans (Same.upd nb)) ⟨pb,pa,rfl,qh,(Same.upd nb) _ _ qh⟩
 have C0:CosV H2 J (xm (zp hs 0)):=by
  show CosV H2 J (xm (Zr hs));rw[cors0 ok];refine⟨by rw[lu,af,au],λi v c e1 D=>?_⟩;have hi:i<hs.length:=by have:=(al.mp e1).1;lia
  rw[av,aV hi]at D;rw[<-ak D];exact g2 i v e1
 have a6:(xm (zp hs 0)).length<=1000:=by rw[<-C0.1,lu];lia
 refine⟨_,rfl,1,m,rfl,⟨⋯,⋯,⋯,⋯⟩,u8 (λt σ H'=>Same H1 H'/\∃L J z,σ=[some (.ref r),some (.int m),some (.ref Z),some (.ref L),z]/\H1 L=none/\H' L=some (.lst J)/\CosV H' J (xm (zp hs t))/\∀s:Nat,s<=t->(xm (zp hs s)).length<=1000)
  ⟨s2,L,J,exI rfl ⟨a4,f2,C0,λs a7=>by rw[show s=0 by lia];exact a6⟩⟩ ?_ ?_⟩
 .rintro t σ H3 ht ⟨s3,L,J,z,rfl,nl0,fl,Cl,le⟩;have bb:(t:Int)+1<m:=by lia
  have ch:=qy1 ok t;have a8:(0:Int)<=(hs.length:Int)-1:=by lia
  have ap:=wk2 a8 ⋯ (pow24 t ⋯) ch;have lt:=le t (ai _);have lc:=wq7 (js ch);refine⟨_,rfl,L,J,_,rfl,fl,Cl,⋯,lt,ap,λq ys H4 nq s4 f4 W=>?_⟩;have ab:=s3.trans s4;refine⟨q,rfl,⟨_,SqL.of f4⟩,qjt (K:=K) ys.length (wzm H4 ys) (λi v H'=>∀c,(zh (xm (zp hs t)))[i]?=some c->CoR H' v (quq hs c)) (λi v H1 H2 g st c e=>(g c e).keep st) ?_ (λi H' hi s'=>⟨ys,ys[i],SqL.of (s' _ _ f4),aa hi⟩) (λH' s'=>⟨ys,SqL.of (s' _ _ f4),ai _⟩) ?_ (λi H' R hi s' an=>?_) λp5 ad H5 a5 s5 f5 l5 g5=>?_⟩
  .rw[W.1];have:=wvu ap lt;lia
  .rintro i H2' v H3' hi s' ⟨rfl,hv⟩;refine⟨Same.refl _,?_⟩;have U:=hv ys (SqL.of (s' _ _ f4));have hc:i<(zh (xm (zp hs t))).length:=by rw[<-W.1];exact hi
   obtain⟨q',pq,rfl,a1,a2⟩:=W.2 i v _ U (aa hc);refine⟨q',rfl,?_⟩;rw[qv4 U a1];exact SqT.of (s' _ _ a1)
  .have hc:i<(zh (xm (zp hs t))).length:=by rw[<-W.1];exact hi
   have U:ys[i]?=some ys[i]:=aa hi;obtain⟨c,a9⟩:∃c,c=(zh (xm (zp hs t)))[i]:=⟨_,rfl⟩;have ec:(zh (xm (zp hs t)))[i]?=some c:=by rw[a9];exact aa hc
   obtain⟨q',pq,e',a1,a2⟩:=W.2 i _ c U ec;rw[e']at U;rw[qv4 U a1];have a3:=xqh (xvt ch) c (aL ec);refine exI rfl (exI rfl (exI rfl (exX rfl rfl (SqL.of ((ab.trans s') _ _ f1)) (Yt a3.1 ⋯) ⟨sz2,λpt nt=>?_⟩)));refine an (.ref pt) _ (Same.upd nt) λc' D=>?_;rw[ec]at D;cases D;exact⟨pt,pq,rfl,qh,(Same.upd nt) _ _ (s' _ _ a2)⟩
  have C5:CosV H5 ad (xm (zp hs (t+1))):=by
   show CosV H5 ad (xm (Zx hs (zp hs t)));rw[<-wux ok ch];refine⟨by rw[l5,af,W.1],λi v c e1 D=>?_⟩;rw[av]at D;cases g:(zh (xm (zp hs t)))[i]? with
   |none=>rw[g]at D;cases D
   |some c' =>
    rw[g]at D;rw[<-ak D];exact g5 i v e1 c' g
  refine exI rfl ⟨_,_,rfl,.inl (SqL.of f5),wc rfl rfl (exI rfl (jq (λz=>?_) (λz=>?_)))⟩
  .refine⟨sz1,kx ⟨t+1,⋯,by rw[<-C5.1];lia⟩ _ (s1.trans (ab.trans s5))⟩
  .refine⟨ab.trans s5,p5,ad,exI rfl ⟨qkb ab a5,f5,C5,λs a7=>?_⟩⟩;rcases(by lia:s<=t\/s=t+1) with y|y
   .exact le s y
   .subst y;rw[<-C5.1];lia
 .rintro σ H3 ⟨s3,L,J,z,rfl,nl0,fl,Cl,le⟩;rw[show(m-1).toNat=m.toNat-1 by lia]at Cl le;exact exI rfl (k (λt ht=>le t ⋯) L J H3 (qkb s1 nl0) (s1.trans s3) fl Cl)
def wzj (a b:Int):Int:=if b>a then 1 else if b<a then -1 else 0
def xzn:Sp:=λvs H Q _=>∃(v v':V) (l r:Cor),vs=[v,v']/\CoR H v l/\CoR H v' r/\Q (.int (wzj l.2 r.2)) H
include T in
theorem zg4 (F:Fun K "way" "way" zcp f fd):FK P w K mg base 1 f fd ["left","right"] xzn:=by
 have L:=zf7;refine F.okX L (λvs H Q E h=>by obtain⟨_,_,_,_,rfl,_⟩:=h;rfl) λ_ _ _ _ H vs Q E hr h=>?_;obtain⟨_,_,l,r,rfl,⟨p,Z,rfl,J,p2⟩,⟨q,U,rfl,D,W⟩,k⟩:=h;refine⟨_,(qj (xn (wu yr (xh k6 (pv 1) qy (λ_ _=>rfl)) (xh k6 (pv 0) qy (λ_ _=>rfl)) (wg _)) (qp (wn qy)) xw)
   (qp (wn (y0 (wu Wp (xh k6 (pv 1) qy (λ_ _=>rfl)) (xh k6 (pv 0) qy (λ_ _=>rfl)) (wg _)) (Wy ym qy) qy)))),?_⟩
 refine exI rfl (exX rfl rfl (SqT.of D) rfl (exI rfl (exX rfl rfl (SqT.of J) rfl (wc rfl rfl (exI rfl (jq (λz=>?_) (λz=>?_)))))))
 .have e:wzj l.2 r.2=1:=aw ⋯;rw[e]at k;exact k
 .refine exI rfl (exX rfl rfl (SqT.of D) rfl (exI rfl (exX rfl rfl (SqT.of J) rfl (wc rfl rfl (exI rfl (jq (λy=>?_) (λy=>?_)))))))
  .have e:wzj l.2 r.2=-1:=by unfold wzj;rw[ao ⋯,aw ⋯]
   rw[e]at k;exact exI rfl k
  .have e:wzj l.2 r.2=0:=by unfold wzj;rw[ao ⋯,ao ⋯]
   rw[e]at k;exact k
def hgt (cs:List Cor)(i:Nat):Int:=match cs[i]? with|some c=>c.2|none=>0
def Zu (cs:List Cor)(i:Nat):Int:=wzj (hgt cs i) (hgt cs (i+1))
def lapsOf (cs:List Cor):Int:=1+(((List.range (cs.length-2)).filter λi=>!decide (V.int (Zu cs i)=V.int (Zu cs (i+1)))).map λ_=>(1:Int)).sum
def LongL (hs:List Int)(m:Int):Prop:=∃t:Nat,(t:Int)<m/\1000<(xm (zp hs t)).length
def ShortL (hs:List Int)(m:Int):Prop:=∀t:Nat,(t:Int)<m->(xm (zp hs t)).length<=1000
def quu (C CT:Aj):Sp:=λvs H Q E=>∃(r:Aj) (hs:List Int) (m:Int),vs=[.ref r,.int m]/\RoadAt C H r hs/\wb hs/\1<=m/\m<=12 /\
 (ShortL hs m->∀H',Same H H'->Q (.int (lapsOf (xm (zp hs (m.toNat-1))))) H')/\(LongL hs m->∀H',Same H H'->E (.ref CT) none H')
include T in
theorem wj4 (F:Fun K "laps" "laps" za6 f fd)(zbi:Cal P w K mg base "laid" 6 (qx6 qx qd))(zg5:Cal P w K mg base "way" 1 xzn):FK P w K mg base 7 f fd ["road","many"] (quu qx qd):=by
 have sc:=wjy;refine F.okX sc (λvs H Q E h=>by obtain⟨_,_,_,rfl,_⟩:=h;rfl) λ_ _ _ s H vs Q E hr h=>?_;obtain⟨r,hs,m,rfl,hR,ok,m1,m2,k,kx⟩:=h;refine⟨_,(qj (wp (i:=2) (wCA zbi (qb (pv 0) (qb (pv 1) qk))))
   (qj (Wc (i:=3) (x := "left") (y2 := "right") (M:=[]) sc.nd rfl (by walk_at "loc") rfl rfl (by walk_at "cap") (by walk_at "has") (by walk_at "cix") rfl (by decide +kernel) (λ_ _ _ _ _=>Yy (K:=K) (n:=2) rfl rfl (wt (wm (i:=0) (show List.Nodup (["left","right"]:List Str) by decide +kernel) rfl (by walk_at "loc")) (wt (wm (i:=1) (show List.Nodup (["left","right"]:List Str) by decide +kernel) rfl (by walk_at "loc")) x9))) (qy2 rfl T.zip_ (qb (pv 2) (yq (qwd qyg (pv 2) (qjf qy) qyk) qk))) (λ_ _ _ _ _=>(qt zg5 (hr.mono ⋯) rfl j8 (qb (pv 0) (qb (pv 1) qk)))))
   (qp (wn (wx xu qy (xv (jf (K:=K) rfl rfl) rfl T.sum_ Ws (z9 (wuj (x := "one") (y2 := "other") (M:=[]) rfl rfl (by walk_at "cap") (by walk_at "has") (by walk_at "cix") rfl (by decide +kernel) (λ_ _ _ _ _=>Yy (K:=K) (n:=2) rfl rfl (wt (wm (i:=0) (show List.Nodup (["one","other"]:List Str) by decide +kernel) rfl (by walk_at "loc")) (wt (wm (i:=1) (show List.Nodup (["one","other"]:List Str) by decide +kernel) rfl (by walk_at "loc")) x9))) (qy2 rfl T.zip_ (qb (pv 3) (yq (qwd qyg (pv 3) (qjf qy) qyk) qk))) (λ_ _ _ _ _=>(wu wqr (pv 0) (pv 1) (wg _))) (λ_ _ _ _ _=>qy)) qk))))))),?_⟩
 refine⟨_,rfl,_,rfl,r,hs,m,rfl,hR,ok,m1,m2,λle p D H1 _ s1 f1 C1=>?_,λlo H1 s1=>kx lo H1 s1⟩;have ll:=le (m.toNat-1) ⋯;have l2:2<=(xm (zp hs (m.toNat-1))).length:=by rw[wq7 (js (qy1 ok _))];have:=List.length_pos_iff.mpr (js (qy1 ok (m.toNat-1)));lia
 have kk:=k le;generalize xm (zp hs (m.toNat-1))=cs at C1 ll l2 kk;have lu:D.length=cs.length:=C1.1;refine exI rfl (exI rfl (exI rfl ⟨p,D,rfl,SqL.of f1,λp2 n2=>?_⟩));rw[qwf ⋯];have s2:=Same.upd (o:=.lst (D.drop 1)) n2;have f2:upd H1 p2 (.lst (D.drop 1)) p2=some (.lst (D.drop 1)):=qh;generalize upd H1 p2 (.lst (D.drop 1))=H2 at s2 f2;have fp:=s2 _ _ f1;have W:∀i,i<D.length->D[i]?=some (D.getD i .non):=λi hi=>by rw[ae,aa hi];rfl
 have gc:∀i,i<D.length->∃c,cs[i]?=some c/\c.2=hgt cs i:=λi hi=>by refine⟨cs[i]'⋯,aa ⋯,?_⟩;unfold hgt;rw[aa ⋯]
 refine⟨p,p2,D,D.drop 1,rfl,SqL.of fp,SqL.of f2,qjt (K:=K) (D.length-1) (λi=>(D.getD i .non,D.getD (i+1) .non)) (λi v _=>v=.int (Zu cs i)) (λi v H1 H2 g st=>g) ⋯ (λi H' hi s'=>⟨SqL.of (s' _ _ fp),SqL.of (s' _ _ f2),⋯,by rw[bI];lia⟩) (λH' s'=>⟨SqL.of (s' _ _ fp),SqL.of (s' _ _ f2),.inr (by rw[bI];lia)⟩) ?_ (λi H' R hi s' L=>?_) λp3 J H3 n3 s3 f3 l3 g3=>?_⟩
 .rintro i H2' v H3' hi s' ⟨q,x,y,nq,rfl,ex,ey,rfl⟩;refine⟨Same.upd nq,q,rfl,?_⟩;rw[W i ⋯]at ex;rw[cQ,iO,W (i+1) ⋯]at ey;rw[ak ex,ak ey];exact SqT.new
 .obtain⟨c,ec,hc⟩:=gc i ⋯;obtain⟨d,ed,hd⟩:=gc (i+1) ⋯;have t:=s2.trans s';refine exI rfl (exI rfl ⟨_,_,c,d,rfl,(C1.2 i _ c (W i ⋯) ec).same t,(C1.2 (i+1) _ d (W (i+1) ⋯) ed).same t,L _ _ (Same.refl _) ?_⟩);rw[hc,hd];rfl
 have et:J=(List.range (D.length-1)).map λi=>V.int (Zu cs i):=by
  refine b9 λi=>?_;rcases bj i J.length with z|z
  .have e:=aa z;rw[e,av,aV ⋯];exact bT some (g3 i _ e)
  .rw[aG z,aG (by rw[af,au];lia)]
 subst et;have gt:∀i,i<D.length-1->((List.range (D.length-1)).map λi=>V.int (Zu cs i))[i]?=some (V.int (Zu cs i)):=λi hi=>by rw[av,aV hi];rfl
 generalize hts:((List.range (D.length-1)).map λi=>V.int (Zu cs i))=J at f3 l3 gt;refine exI rfl (exI rfl (exI rfl ⟨p3,J,rfl,SqL.of f3,λU n4=>?_⟩));rw[qwf ⋯];have s4:=Same.upd (o:=.lst (J.drop 1)) n4;have Z:upd H3 U (.lst (J.drop 1)) U=some (.lst (J.drop 1)):=qh;generalize upd H3 U (.lst (J.drop 1))=H4 at s4 Z;have ab:=s4 _ _ f3;refine⟨p3,U,J,J.drop 1,rfl,SqL.of ab,SqL.of Z,xzh (K:=K) (cs.length-2) (λi=>(.int (Zu cs i),.int (Zu cs (i+1)))) (λi=>!decide (V.int (Zu cs i)=V.int (Zu cs (i+1)))) (λ_=>.int 1) ⋯ (λi H' hi s'=>⟨SqL.of (s' _ _ ab),SqL.of (s' _ _ Z),⋯,by rw[bI];lia⟩) (λH' s'=>⟨SqL.of (s' _ _ ab),SqL.of (s' _ _ Z),.inr (by rw[bI];lia)⟩) ?_ (λi H' R hi s' L=>(exI rfl (exI rfl ⟨rfl,_,rfl,L _ (Same.refl _)⟩))) (λi H' R hi _ s' L=>L _ (Same.refl _)) λp5 H5 n5 s5 f5=>?_⟩
 .rintro i H2' v H3' hi s' ⟨q,x,y,nq,rfl,ex,ey,rfl⟩;refine⟨Same.upd nq,q,rfl,?_⟩;rw[gt i ⋯]at ex;rw[cQ,iO,gt (i+1) ⋯]at ey;rw[<-ak ex,<-ak ey];exact SqT.new
 have e5:(((List.range (cs.length-2)).filter λi=>!decide (V.int (Zu cs i)=V.int (Zu cs (i+1)))).map λ_=>V.int 1)=(((List.range (cs.length-2)).filter λi=>!decide (V.int (Zu cs i)=V.int (Zu cs (i+1)))).map λ_=>(1:Int)).map V.int:=by rw[aU];rfl
 rw[e5]at f5;refine⟨p5,exI rfl ⟨SqL.of f5,wc rfl rfl ?_⟩⟩;exact kk _ ((s1.trans s2).trans ((s3.trans s4).trans s5))
def qym (C TT:Aj):Sp:=λvs H Q _=>∃(r:Aj) (hs:List Int) (m:Int),vs=[.ref r,.int m]/\RoadAt C H r hs/\wb hs/\1<=m/\m<=12/\crS hs m.toNat<=1000/\(xf hs m.toNat).length+hs.length<=63/\vv TT vz uj H /\
 (¬ HasC hs m.toNat->∀H',Kp H H'->vv TT vz uj H'->Q .non H')/\∀(q:Aj) (p:Int×Int) (H':Hp),ww2 hs m.toNat p->(∀p',ww2 hs m.toNat p'->p.1*p'.2<=p'.1*p.2)->(∀b o,(∀ps,o≠HO.tbl ps)->H b=some o->b≠q)->Kp H H'->vv TT vz uj H'->wj1 H' q (Wk hs p m.toNat)->Q (.ref q) H'
include T in
theorem wjv {f:Aj}{fd:Ad}{TT:Aj}(F:Fun K "ring" "ring" za4 f fd)(zbh:Cal P w K mg base "candidates" 9 (qx0 qx TT))(zbe:Cal P w K mg base "walked" 5 (Wv K qx qv qf qw)) :
  FK P w K mg base 10 f fd ["road","length"] (qym qx TT):=by
 have sc:=wkb;refine F.okX sc (λvs H Q E h=>by obtain⟨_,_,_,rfl,_⟩:=h;rfl) λ_ _ _ _ H vs Q E hr h=>?_;obtain⟨r,hs,m,rfl,hR,U,m1,m2,ap,ad,hT,kn,k⟩:=h;have n1:1<=m.toNat:=by lia
 have n2:m.toNat<=12:=by lia
 refine⟨_,(qj (wp (i:=2) (wCA zbh (qb (pv 0) (qb (pv 1) qk))))
   (qj (xn (wu zg (xv xg rfl T.len_ bB (qb (pv 2) qk)) qy (wg _)) (qp (wn Jz)) xw)
   (qp (wn (wCA zbe (qb (pv 0) (yq (xh zw (pv 2) qy (λ_ _=>rfl)) (x8 (wx zy (pv 1) qy) qk)))))))),?_⟩
 refine exI rfl (exI rfl ⟨r,hs,m,rfl,hR,U,m1,m2,ap,ad,hT,λq ys ps H4 L T4 f4 P4 W ab l4=>?_⟩);have lp:=bC P4;refine exI rfl ⟨_,_,rfl,.inl (SqL.of f4),rfl,_,rfl,?_⟩;refine jx (λz=>?_) (λz=>?_)
 .refine kn (λ⟨c,hc⟩=>?_) H4 L T4;have:=dP ((W c).mpr hc);lia
 .have Z:0<ps.length:=by lia
  have e0:ps[0]?=some ps[0]:=aa Z;have cp:=(W _).mp (bF Z);have mn:∀D,ww2 hs m.toNat D->ps[0].1*D.2<=D.1*ps[0].2:=λD h=>by
   obtain⟨j,hj,rfl⟩:=cM ((W D).mpr h);rcases gL j with z|z
   .subst z;exact cN _
   .exact gv (be.mp ab 0 j Z hj z)
  generalize ps[0]=p at e0 cp mn;obtain⟨v,ev,⟨b,rfl,fb⟩⟩:=yd P4 e0;obtain⟨an,J,as⟩:=wju U n1 n2 (cp.1.imp (λz=>z.1) id);have lw:wy p.1 p.2=p:=yt J.1 J.2.2.1;have ea:atI ys 0=some (.ref b):=zt (j:=0) ev;refine⟨_,rfl,_,rfl,_,_,_,_,rfl,rfl,SqL.of f4,ea,_,rfl,_,_,rfl,rfl,r,b,hs,p.1,p.2,m-1,rfl,hR.kp L,U,SqT.of fb,λ_=>⟨an.2.2.mono ⋯,λ_=>⟨λ_ q5 H5 nq s5 P5=>?_,λz=>absurd ⟨⋯,λy e=>by cases e;lia⟩ z⟩,λz=>absurd J.2.2.2 z⟩,λz=>absurd J.1 ⋯⟩;rw[lw,show(m-1).toNat+1=m.toNat by lia]at P5;exact k q5 p H5 cp mn (λb o no e=>wj (L b o no e) nq) (L.trans (Kp.of s5)) (zu T4 s5) P5
def qy8 (C:Aj):Sp:=λvs H Q _=>∃(r:Aj) (hs:List Int) (m:Int),vs=[.ref r,.int m]/\RoadAt C H r hs/\wb hs/\0<=m/\m<=60/\∀q H',Same H H'->Q (.ref q) H'
include T in
theorem wkt (F:Fun K "ways" "ways" zax f fd)(zaa:CalD P w K mg base "check_count" 1 (zd qw))(zde:Cal P w K mg base "ways_up_to" 6 (Y0 qx)):FK P w K mg base 7 f fd ["road","many"] (qy8 qx):=by
 have U:=wjn;refine F.okX U (λvs H Q E h=>by obtain⟨_,_,_,rfl,_⟩:=h;rfl) λ_ _ _ _ H vs Q E hr h=>?_;obtain⟨r,hs,m,rfl,hR,Z,D,J,k⟩:=h;obtain⟨tm,L⟩:=T.zah;refine⟨_,(qj (xz (zm zaa.all (hr.mono ⋯) rfl qu (qb (pv 1) (w8 qy (qb (zf (v:=V.int 60) rfl L ⟨_,rfl⟩) qk)))))
   (qp (wn (xh zw (wCA zde (qb (pv 0) (qb (pv 1) qk))) (pv 1) (λ_ _=>rfl))))),?_⟩
 refine⟨_,rfl,m,0,.int 60,some 60,rfl,.inr ⟨60,rfl,rfl⟩,λ_=>?_,λhw=>absurd ⟨D,λz e=>by cases e;exact J⟩ hw⟩;refine exI rfl (exI rfl ⟨r,hs,m,rfl,hR,Z,D,J,λp ys H1 W f1 l1 g1=>?_⟩);have e:ys[m.toNat]?=some ys[m.toNat]:=aa ⋯;obtain⟨q,eq,M⟩:=g1 _ _ e;have ea:atI ys m=some (.ref q):=by have:=zt e;rwa [bO D,eq]at this
 exact exI rfl (exX rfl rfl (SqL.of f1) ea (k q H1 W))
def stN (n u m f:Nat):Nat:=if m<f then 0 else(if f<u then 1 else(m-f)/(n-u)+1)-(if f=0 then 1 else 0)
theorem xxw {t L:Nat}(h:(t:Int)<=m):(m-t)/(L:Int)=(((m.toNat-t)/L:Nat):Int):=by rw[show m-(t:Int)=((m.toNat-t:Nat):Int) by lia];push_cast;rfl
def StR (hs:List Int)(p q:Int×Int)(n u m:Nat)(r:Int):Prop:=(∃f,f<n/\itP hs p f=q/\r=stN n u m f)\/((∀f,f<n->itP hs p f≠q)/\r=0)
def xz9:Sp:=λvs H Q _=>∃(f u n:Nat) (m:Int),vs=[.int f,.int u,.int n,.int m]/\f<n/\u<n/\n<=1000/\0<=m/\Q (.int (stN n u m.toNat f)) H
include T in
theorem zg6 (F:Fun K "led_to" "led_to" zcg f fd):FK P w K mg base 1 f fd ["place","turn","size","many"] xz9:=by
 have U:=wy1;refine F.okX U (λvs H Q E h=>by obtain⟨_,_,_,_,rfl,_⟩:=h;rfl) λ_ _ _ _ H vs Q E hr h=>?_;obtain⟨f,u,n,m,rfl,hf,u1,n1,m0,k⟩:=h;refine⟨_,(qj (xn (wu yr (pv 0) (pv 3) (wg _)) (qp (wn qy)) xw)
   (qj (wp (i:=4) (y0 (wu Wp (pv 0) (pv 1) (wg _)) qy (wx xu (wx j7 (wx zy (pv 3) (pv 0)) (wx zy (pv 2) (pv 1))) qy)))
   (qp (wn (y0 (wu zg (pv 0) qy (wg _)) (wx zy (pv 4) qy) (pv 4)))))),?_⟩
 refine exI rfl (exI rfl (wc rfl rfl (exI rfl (jq (λz=>?_) (λz=>?_)))))
 .unfold stN at k;rw[aw ⋯]at k;exact k
 .have Z:(f:Int)<=m:=by lia
  have L:∀x:Int,x=(if f<u then 1 else(((m.toNat-f)/(n-u):Nat):Int)+1)-(if f=0 then 1 else 0)->Q (.int x) H:=λx W=>by
   have e:x=(stN n u m.toNat f:Nat):=by
    unfold stN;rw[ao ⋯,W];generalize (m.toNat-f)/(n-u)=D;by_cases J:f<u <;> by_cases y2:f=0
    .simp only[aw J,aw y2];lia
    .simp only[aw J,ao y2];lia
    .simp only[ao J,aw y2];lia
    .simp only[ao J,ao y2];lia
   rw[e];exact k
  refine exI rfl (exI rfl (wc rfl rfl (exI rfl (jq (λJ=>?_) (λJ=>?_)))))
  .refine exI rfl ⟨rfl,_,rfl,jx (λy2=>?_) (λy2=>?_)⟩
   .refine exI rfl (wc rfl rfl (L _ ?_));rw[aw ⋯,aw ⋯]
   .refine exI rfl (L _ ?_);rw[aw ⋯,ao ⋯];rfl
  .refine exI rfl (exI rfl (wc rfl rfl (exI rfl (exI rfl (wc rfl rfl ?_)))));refine wc rfl rfl ⟨⟨⋯,(Sm.small (n:=65) ⋯ ⋯ ⋯).mono ⋯⟩,wc rfl rfl ?_⟩;have ev:(m-(f:Int))/((n:Int)-u)=(((m.toNat-f)/(n-u):Nat):Int):=by rw[<-xxw Z,show((n-u:Nat):Int)=(n:Int)-u by lia]
   rw[ev];refine exI rfl ⟨rfl,_,rfl,jx (λy2=>?_) (λy2=>?_)⟩
   .refine exI rfl (wc rfl rfl (L _ ?_));rw[ao ⋯,aw ⋯]
   .refine exI rfl (L _ ?_);rw[ao ⋯,ao ⋯];lia
def Yn (K:Aa)(C:Aj):Sp:=λvs H Q _=>∃(r p q:Aj) (hs:List Int) (t b t' b' m:Int),vs=[.ref r,.ref p,.int m,.ref q]/\RoadAt C H r hs/\wb hs/\SqT K H p [.int t,.int b]/\SqT K H q [.int t',.int b'] /\
 (1<=b/\Sm 8000 b/\xr hs t b/\¬ Dist (itP hs (wy t b)) 1001)/\(1<=b'/\Sm 8000 b'/\xr hs t' b')/\Within m 0 (some (1000000000000000000000000000000000000000000000000000000000000)) /\
 ∀n u x H',Same H H'->n<=1000->Dist (itP hs (wy t b)) n->u<n->itP hs (wy t b) n=itP hs (wy t b) u->StR hs (wy t b) (wy t' b') n u m.toNat x->Q (.int x) H'
include T in
theorem qv5 (F:Fun K "stands" "stands" za0 f fd)(zaa:CalD P w K mg base "check_count" 1 (zd qw))(zaf:MCal P w K mg base qx "on_road" 3 (jm K qx qv qf))(zbd:Cal P w K mg base "trace" 5 (Y5 qx qd))(zg7:Cal P w K mg base "led_to" 1 xz9) :
  FK P w K mg base 6 f fd ["road","point","many","other"] (Yn K qx):=by
 have sc:=qkr;refine F.okX sc (λvs H Q E h=>by obtain⟨_,_,_,_,_,_,_,_,_,rfl,_⟩:=h;rfl) λ_ _ _ _ H vs Q E D h=>?_;obtain⟨r,p,q,hs,t,b,L,b',m,rfl,Z,ab,hp,hq,⟨hb,sb,an,nd⟩,⟨a5,a1,a4⟩,hw,k⟩:=h;obtain⟨dx,q0,h1,h2⟩:=id Z;obtain⟨tm,a0⟩:=T.zae;have m0:=hw.1;refine⟨_,(qj (wp (i:=4) (zj (pv 0) T.cl zaf (D.mono ⋯) qu (qb (pv 1) qk)))
   (qj (xz (zm zaa.all (D.mono ⋯) rfl qu (qb (pv 2) (w8 qy (qb (zf (v:=V.int 1000000000000000000000000000000000000000000000000000000000000) rfl a0 ⟨_,rfl⟩) qk)))))
   (qj (wp (i:=5) (zj (pv 0) T.cl zaf (D.mono ⋯) qu (qb (pv 3) qk)))
   (qj (vn (wCA zbd (qb (pv 0) (qb (pv 4) qk))) (vy rfl (wt (wm (i:=6)) (wt (wm (i:=7)) x9))))
   (qj (xn (wu (xqw D.units) (pv 5) (pv 6) rfl) (qp (wn qy)) xw)
   (qp (wn (wCA zg7 (vf (qkm cI PySem.F.slot_list_index PySem.F.type_list_index (wu8 D.units) (pv 6) (qb (pv 5) qk)) (qb (pv 7) (vf (xv xg rfl T.len_ bB (qb (pv 6) qk)) (qb (pv 2) qk)))))))))))),?_⟩
 refine⟨_,rfl,r,dx,_,rfl,h1,w5 (by decide +kernel),_,rfl,r,p,hs,t,b,rfl,Z,ab,hp,λ_=>⟨sb,λ_ p1 H1 U f1=>?_,λz=>absurd an z⟩,λz=>absurd hb ⋯⟩;refine⟨_,rfl,m,0,.int (1000000000000000000000000000000000000000000000000000000000000),some (1000000000000000000000000000000000000000000000000000000000000),rfl,.inr ⟨(1000000000000000000000000000000000000000000000000000000000000),rfl,rfl⟩,λ_=>?_,λz=>absurd hw z⟩;refine⟨_,rfl,r,dx,_,rfl,U _ _ h1,w5 (by decide +kernel),_,rfl,r,q,hs,L,b',rfl,Z.same U,ab,U.sqt hq,λ_=>⟨a1,λ_ p2 H2 s2 f2=>?_,λz=>absurd a4 z⟩,λz=>absurd a5 ⋯⟩;have ad:=U.trans s2;refine⟨_,rfl,_,rfl,r,p1,hs,wy t b,b,rfl,Z.same ad,ab,s2 _ _ f1,qxb hb an,sb,λn u q3 l3 H3 n1 d1 u1 e1 s3 _ f3 a3=>?_,λd=>absurd d nd⟩;obtain⟨ws,fl,pr⟩:=a3;have lw:ws.length=n:=by rw[pr.length,jr]
 refine⟨q3,exI rfl ⟨SqT.of f3,rfl,_,_,rfl,_,_,rfl,rfl,?_⟩⟩;have a2:=ad.trans s3;have ap:=λx hx=>k n u x H3 a2 n1 d1 u1 e1 hx;have as:=s3 _ _ f2;refine exI rfl (exI rfl ⟨l3,p2,ws,Wk hs (wy t b) n,wy L b',rfl,rfl,fl,pr,as,_,rfl,?_⟩);by_cases mem:wy L b'∈Wk hs (wy t b) n
 .rw[aM mem];refine Y8 ?_;obtain⟨f,hf,J⟩:=aH.mp mem;have W:=am.mp hf;have g1:∀i,i<n->(Wk hs (wy t b) n)[i]?=some (itP hs (wy t b) i):=λi hi=>by unfold Wk;rw[av,aV hi];rfl
  refine⟨_,rfl,.inl ⟨rfl,_,SqL.of fl⟩,_,rfl,l3,p2,ws,Wk hs (wy t b) n,wy L b',f,rfl,rfl,fl,pr,as,by rw[g1 f W,J],λi hi=>?_,⋯,?_⟩
  .rw[g1 i ⋯,<-J];exactλz=>d1 i f hi W (ak z)
  refine⟨_,rfl,_,rfl,_,_,rfl,.inl (SqL.of fl),_,rfl,f,u,n,m,by rw[lw],W,u1,n1,m0,ap _ (.inl ⟨f,W,J,rfl⟩)⟩
 .rw[aX mem];refine Q6 ?_;refine ap _ (.inr ⟨λf hf J=>mem (aH.mpr ⟨f,am.mpr hf,J⟩),rfl⟩)
def qju (f:Int->List Int):Sp:=λvs H Q _=>∃n:Int,vs=[.int n]/\1<=n/\∀p H',Same H H'->H' p=none->Q (.ref p) (upd H' p (.tup ((f n).map V.int)))
theorem sz3 {x y z:V}:[x,y,z].length<=sizeLine:=by show 3<=sizeLine;decide
include T in
theorem xyx (F:Fun K "rank" "rank" zcr f fd)(zda:Cal P w K mg base "halvings" 1 qjd):FK P w K mg base 2 f fd ["number"] (qju Zw):=by
 have J:=xj9;refine F.okX J (λvs H Q E h=>by obtain⟨_,rfl,_⟩:=h;rfl) λ_ _ _ _ H vs Q E W h=>?_;obtain⟨n,rfl,U,k⟩:=h;refine⟨_,(qj (vn (wCA zda (qb (pv 0) qk)) (vy rfl (wt (wm (i:=1)) (wt (wm (i:=2)) x9))))
   (qj (xn (wu zg (pv 1) qy (wg _)) (qp (wn (z7 (w8 qy (xww (Wy ym (pv 2)) (w8 qy qk)))))) xw)
   (qp (wn (z7 (w8 qy (qb (pv 2) (qb (pv 1) qk)))))))),?_⟩
 refine exI rfl ⟨n,rfl,U,λL D=>?_⟩;refine⟨L,exI rfl ⟨SqT.new,rfl,_,_,rfl,_,_,rfl,rfl,?_⟩⟩;refine exI rfl ⟨rfl,_,rfl,jx (λz=>?_) (λz=>?_)⟩
 .refine exI rfl (exI rfl ⟨sz3,λp np=>?_⟩);have:=k p _ (Same.upd D) np;rw[Zw,aw z]at this;exact this
 .refine exI rfl (exI rfl ⟨sz3,λp np=>?_⟩);have:=k p _ (Same.upd D) np;rw[Zw,ao z]at this;exact this
def qjb (C:Aj):Sp:=λvs H Q E=>∃a b:Int,vs=[.int a,.int b]/\(1<=a->1<=b->∀H',Same H H'->Q (.bl (decide (qkf a b))) H')/\(a<1\/b<1->E (.ref C) none H)
include T in
theorem xvj (F:Fun K "ahead" "ahead" zcs f fd)(zaa:CalD P w K mg base "check_count" 1 (zd qw))(zfs:Cal P w K mg base "rank" 2 (qju Zw)):FK P w K mg base 3 f fd ["one","other"] (qjb qw):=by
 have W:=xxx;refine F.okX W (λvs H Q E h=>by obtain⟨_,_,rfl,_⟩:=h;rfl) λ_ _ _ _ H vs Q E L h=>?_;obtain⟨a,b,rfl,k,x⟩:=h;refine⟨_,(qj (xz (Wh zaa (L.mono ⋯) rfl qu (qb (pv 0) (w8 qy qk))))
   (qj (xz (Wh zaa (L.mono ⋯) rfl qu (qb (pv 1) (w8 qy qk))))
   (qp (wn (W7 (op_ltT L.units0) (wCA zfs (qb (pv 0) qk)) (wCA zfs (qb (pv 1) qk)) (wg _)))))),?_⟩
 refine⟨_,rfl,a,1,.non,none,rfl,.inl ⟨rfl,rfl⟩,λJ=>?_,λJ=>x (.inl ?_)⟩
 .refine⟨_,rfl,b,1,.non,none,rfl,.inl ⟨rfl,rfl⟩,λD=>?_,λD=>x (.inr ?_)⟩
  .refine exI rfl ⟨a,rfl,J.1,λp H1 Z np=>?_⟩;refine exI rfl ⟨b,rfl,D.1,λp2 H2 s2 U=>?_⟩;refine⟨_,_,Zw a,Zw b,rfl,rfl,Same.sqt (s2.trans (Same.upd U)) SqT.new,SqT.new,?_⟩;rw[aheadP];exact k J.1 D.1 _ (Z.trans ((Same.upd np).trans (s2.trans (Same.upd U))))
  .rcases bU b 1 with z|z
   .exact z
   .exact absurd ⟨z,λ_ e=>nomatch e⟩ D
 .rcases bU a 1 with z|z
  .exact z
  .exact absurd ⟨z,λ_ e=>nomatch e⟩ J
theorem FnOk.or {CX:CXT}{k:Nat}{f:Aj}{fd:Ad}{ps:List Str}{a b:Sp}(F:FnOk P w K mg base CX k f fd ps a)(G:FnOk P w K mg base CX k f fd ps b):FnOk P w K mg base CX k f fd ps (λvs H Q E=>a vs H Q E\/b vs H Q E) :=
 ⟨λvs H Q E h=>h.elim (F.len vs H Q E) (G.len vs H Q E),λA outer s H args us vs Q E hr he hb hv h=>h.elim (F.run A outer s H args us vs Q E hr he hb hv) (G.run A outer s H args us vs Q E hr he hb hv)⟩
def Out (m lo hi:Int):Prop:=m<lo\/hi<m
theorem Out.no {lo hi:Int}(h:Out m lo hi):¬ Within m lo (some hi):=λz=>by have:=z.2 hi rfl;have:=z.1;rcases h with h|h <;> lia
def xk (C:Aj)(lo hi:Int):Sp:=λvs H _ E=>∃(r:V) (m:Int),vs=[r,.int m]/\Out m lo hi/\∀H',Same H H'->E (.ref C) none H'
include T in
theorem wq2 (F:Fun K "ways" "ways" zax f fd)(zaa:CalD P w K mg base "check_count" 1 (zd qw)):FK P w K mg base 7 f fd ["road","many"] (xk qw 0 60):=by
 have D:=wjn;refine F.okX D (λvs H Q E h=>by obtain⟨_,_,rfl,_⟩:=h;rfl) λ_ _ _ _ H vs Q E L h=>?_;obtain⟨r,m,rfl,U,J⟩:=h;obtain⟨W,z⟩:=T.zah;refine⟨_,(qj (xz (zm zaa.all (L.mono ⋯) rfl qu (qb (pv 1) (w8 qy (qb (zf (v:=V.int 60) rfl z ⟨_,rfl⟩) qk)))))
   jg),?_⟩
 exact exI rfl ⟨m,0,.int 60,some 60,rfl,.inr ⟨60,rfl,rfl⟩,(λwi=>absurd wi U.no),λ_=>J H (Same.refl _)⟩
include T in
theorem wq6 (F:Fun K "rows" "rows" zay f fd)(zaa:CalD P w K mg base "check_count" 1 (zd qw)):FK P w K mg base 7 f fd ["road","many"] (xk qw 1 12):=by
 have D:=wk6;refine F.okX D (λvs H Q E h=>by obtain⟨_,_,rfl,_⟩:=h;rfl) λ_ _ _ _ H vs Q E L h=>?_;obtain⟨r,m,rfl,U,J⟩:=h;obtain⟨tl,z⟩:=T.zac;refine⟨_,(qj (xz (zm zaa.all (L.mono ⋯) rfl qu (qb (pv 1) (w8 qy (qb (zf (v:=V.int 12) rfl z ⟨_,rfl⟩) qk)))))
   jg),?_⟩
 exact exI rfl ⟨m,1,.int 12,some 12,rfl,.inr ⟨12,rfl,rfl⟩,(λwi=>absurd wi U.no),λ_=>J H (Same.refl _)⟩
include T in
theorem wwx (F:Fun K "back" "back" za1 f fd)(zbf:Cal P w K mg base "rows" 7 (xk qw 1 12)):FK P w K mg base 8 f fd ["road","many"] (xk qw 1 12):=by
 have z:=wkf;refine F.okX z (λvs H Q E h=>by obtain⟨_,_,rfl,_⟩:=h;rfl) λ_ _ _ _ H vs Q E L h=>?_;obtain⟨r,m,rfl,J,D⟩:=h;refine⟨_,(qj (wp (i:=2) (wCA zbf (qb (pv 0) (qb (pv 1) qk))))
   jg),?_⟩
 exact exI rfl (exI rfl ⟨r,m,rfl,J,D⟩)
include T in
theorem wqq (F:Fun K "candidates" "candidates" za2 f fd)(zbg:Cal P w K mg base "back" 8 (xk qw 1 12)):FK P w K mg base 9 f fd ["road","length"] (xk qw 1 12):=by
 have z:=Zk;refine F.okX z (λvs H Q E h=>by obtain⟨_,_,rfl,_⟩:=h;rfl) λ_ _ _ _ H vs Q E L h=>?_;obtain⟨r,m,rfl,J,D⟩:=h;refine⟨_,(qj (vn (wCA zbg (qb (pv 0) (qb (pv 1) qk))) (vy rfl (wt (wm (i:=2)) (wt (wm (i:=3)) x9))))
   jg),?_⟩
 exact exI rfl (exI rfl ⟨r,m,rfl,J,D⟩)
include T in
theorem wwj (F:Fun K "lengths" "lengths" za3 f fd)(zaa:CalD P w K mg base "check_count" 1 (zd qw)):FK P w K mg base 10 f fd ["road","most"] (xk qw 1 12):=by
 have D:=qxw;refine F.okX D (λvs H Q E h=>by obtain⟨_,_,rfl,_⟩:=h;rfl) λ_ _ _ _ H vs Q E L h=>?_;obtain⟨r,m,rfl,U,J⟩:=h;obtain⟨tl,z⟩:=T.zac;refine⟨_,(qj (xz (zm zaa.all (L.mono ⋯) rfl qu (qb (pv 1) (w8 qy (qb (zf (v:=V.int 12) rfl z ⟨_,rfl⟩) qk)))))
   jg),?_⟩
 exact exI rfl ⟨m,1,.int 12,some 12,rfl,.inr ⟨12,rfl,rfl⟩,(λwi=>absurd wi U.no),λ_=>J H (Same.refl _)⟩
include T in
theorem wws (F:Fun K "ring" "ring" za4 f fd)(zbh:Cal P w K mg base "candidates" 9 (xk qw 1 12)):FK P w K mg base 10 f fd ["road","length"] (xk qw 1 12):=by
 have z:=wkb;refine F.okX z (λvs H Q E h=>by obtain⟨_,_,rfl,_⟩:=h;rfl) λ_ _ _ _ H vs Q E L h=>?_;obtain⟨r,m,rfl,J,D⟩:=h;refine⟨_,(qj (wp (i:=2) (wCA zbh (qb (pv 0) (qb (pv 1) qk))))
   jg),?_⟩
 exact exI rfl (exI rfl ⟨r,m,rfl,J,D⟩)
include T in
theorem qus (F:Fun K "laid" "laid" za5 f fd)(zaa:CalD P w K mg base "check_count" 1 (zd qw)):FK P w K mg base 6 f fd ["road","many"] (xk qw 1 12):=by
 have D:=wj2;refine F.okX D (λvs H Q E h=>by obtain⟨_,_,rfl,_⟩:=h;rfl) λ_ _ _ _ H vs Q E L h=>?_;obtain⟨r,m,rfl,U,J⟩:=h;obtain⟨tl,z⟩:=T.zai;refine⟨_,(qj (xz (zm zaa.all (L.mono ⋯) rfl qu (qb (pv 1) (w8 qy (qb (zf (v:=V.int 12) rfl z ⟨_,rfl⟩) qk)))))
   jg),?_⟩
 exact exI rfl ⟨m,1,.int 12,some 12,rfl,.inr ⟨12,rfl,rfl⟩,(λwi=>absurd wi U.no),λ_=>J H (Same.refl _)⟩
include T in
theorem qut (F:Fun K "laps" "laps" za6 f fd)(zbi:Cal P w K mg base "laid" 6 (xk qw 1 12)):FK P w K mg base 7 f fd ["road","many"] (xk qw 1 12):=by
 have z:=wjy;refine F.okX z (λvs H Q E h=>by obtain⟨_,_,rfl,_⟩:=h;rfl) λ_ _ _ _ H vs Q E L h=>?_;obtain⟨r,m,rfl,J,D⟩:=h;refine⟨_,(qj (wp (i:=2) (wCA zbi (qb (pv 0) (qb (pv 1) qk))))
   jg),?_⟩
 exact exI rfl (exI rfl ⟨r,m,rfl,J,D⟩)
def Yz (C:Aj):Sp:=λvs H _ E=>∃(r:V) (m:Int),vs=[r,.int m]/\m<1/\E (.ref C) none H
include T in
theorem qkd (F:Fun K "finer" "finer" za7 f fd)(zaa:CalD P w K mg base "check_count" 1 (zd qw)):FK P w K mg base 4 f fd ["road","many"] (Yz qw):=by
 have z:=wxj;refine F.okX z (λvs H Q E h=>by obtain⟨_,_,rfl,_⟩:=h;rfl) λ_ _ _ _ H vs Q E J h=>?_;obtain⟨r,m,rfl,L,D⟩:=h;refine⟨_,(qj (xz (Wh zaa (J.mono ⋯) rfl qu (qb (pv 1) (w8 qy qk))))
   jg),?_⟩
 exact exI rfl ⟨m,1,.non,none,rfl,.inl ⟨rfl,rfl⟩,(λwi=>absurd wi.1 ⋯),λ_=>D⟩
def qxr (C:Aj):Sp:=λvs H Q E=>∃n m:Int,vs=[.int n,.int m]/\1<=n/\(0<=m->m<=200->∀p H',Same H H'->Q (.ref p) H')/\(Out m 0 200->E (.ref C) none H)
include T in
theorem wu2 (F:Fun K "following" "following" zct f fd)(zaa:CalD P w K mg base "check_count" 1 (zd qw))(zg8:Cal P w K mg base "ahead" 3 (qjb qw)):FK P w K mg base 4 f fd ["number","most"] (qxr qw):=by
 have sc:=qj9;refine F.okX sc (λvs H Q E h=>by obtain⟨_,_,rfl,_⟩:=h;rfl) λ_ _ _ _ H vs Q E L h=>?_;obtain⟨n,m,rfl,n1,k,x⟩:=h;obtain⟨tm,ab⟩:=T.zau;refine⟨_,(qj (xz (Wh zaa (L.mono ⋯) rfl qu (qb (pv 0) (w8 qy qk))))
   (qj (xz (zm zaa.all (L.mono ⋯) rfl qu (qb (pv 1) (w8 qy (qb (zf (v:=V.int 200) rfl ab ⟨_,rfl⟩) qk)))))
   (qp (wn (Q7 (M:=[0]) rfl rfl (by walk_at "cap") (by walk_at "has") (by walk_at "cix") rfl (by decide +kernel) rfl (show List.Nodup (["later","number"]:List Str) by decide +kernel) (yb rfl T.range_ (w8 qy (x8 (wx xu (pv 1) qy) qk))) (λ_ _ _ _ _=>(wx7 (wx6 (qt zg8 (L.mono ⋯) rfl j8 (qb (pv 0) (qb (pv 1) qk)))))) (λ_ _ _ _ _=>(pv 0))))))),?_⟩
 refine⟨_,rfl,n,1,.non,none,rfl,.inl ⟨rfl,rfl⟩,λZ=>?_,λZ=>absurd ⟨n1,λ_ e=>nomatch e⟩ Z⟩;refine⟨_,rfl,m,0,.int 200,some 200,rfl,.inr ⟨200,rfl,rfl⟩,λD=>?_,λD=>x ?_⟩
 .have m0:=D.1;have m1:=D.2 200 rfl;refine exI rfl (wc rfl rfl ⟨1,m+1,rfl,⟨⋯,⋯,⋯,⋯⟩,qu1 (λj:Nat=>!decide (qkf ((1:Int)+j) n)) (λj=>V.int ((1:Int)+j)) ⋯ (λi W R hi J U=>?_) (λi W R hi _ J U=>?_) λp9 W n9 J f9=>k m0 m1 p9 W J⟩)
  .exact⟨_,rfl,_,rfl,_,n,rfl,λ_ _ an ad=>(exI rfl (U _ ad)),λz=>absurd z ⋯⟩
  .exact exI rfl (U _ (Same.refl _))
 .by_cases a:m<0
  .exact .inl a
  .by_cases b:200<m
   .exact .inr b
   .exact absurd ⟨⋯,λ_ e=>by cases e;lia⟩ D
def W3 (K:Aa)(C CC:Aj):Sp:=λvs H _ E=>∃(r p q:Aj) (hs:List Int) (t b m:Int),vs=[.ref r,.ref p,.int m,.ref q]/\RoadAt C H r hs/\wb hs/\SqT K H p [.int t,.int b]/\1<=b/\Sm 8000 b/\xr hs t b/\Out m 0 (1000000000000000000000000000000000000000000000000000000000000)/\∀H',Same H H'->E (.ref CC) none H'
include T in
theorem qxk (F:Fun K "stands" "stands" za0 f fd)(zaa:CalD P w K mg base "check_count" 1 (zd qw))(zaf:MCal P w K mg base qx "on_road" 3 (jm K qx qv qf)):FK P w K mg base 6 f fd ["road","point","many","other"] (W3 K qx qw):=by
 have U:=qkr;refine F.okX U (λvs H Q E h=>by obtain⟨_,_,_,_,_,_,_,rfl,_⟩:=h;rfl) λ_ _ _ _ H vs Q E D h=>?_;obtain⟨r,p,q,hs,t,b,m,rfl,J,ab,hp,hb,W,on,hm,kx⟩:=h;obtain⟨dx,q0,h1,h2⟩:=id J;obtain⟨tm,L⟩:=T.zae;refine⟨_,(qj (wp (i:=4) (zj (pv 0) T.cl zaf (D.mono ⋯) qu (qb (pv 1) qk)))
   (qj (xz (zm zaa.all (D.mono ⋯) rfl qu (qb (pv 2) (w8 qy (qb (zf (v:=V.int 1000000000000000000000000000000000000000000000000000000000000) rfl L ⟨_,rfl⟩) qk)))))
   jg)),?_⟩
 refine⟨_,rfl,r,dx,_,rfl,h1,w5 (by decide +kernel),_,rfl,r,p,hs,t,b,rfl,J,ab,hp,λ_=>⟨W,λ_ p1 H1 Z f1=>?_,λz=>absurd on z⟩,λz=>absurd hb ⋯⟩;exact exI rfl ⟨m,0,.int (1000000000000000000000000000000000000000000000000000000000000),some (1000000000000000000000000000000000000000000000000000000000000),rfl,.inr ⟨(1000000000000000000000000000000000000000000000000000000000000),rfl,rfl⟩,(λwi=>absurd wi hm.no),λ_=>kx _ Z⟩
variable {A:TS}{σ:St}
theorem wwp {B:TS}{D:Ends}(e:σ[i]?=some (some (.int j)))(k:A D σ H):tIfS (qqp (tOp rEq (yu i) (tC (.int j)))) A B D σ H:=by refine⟨_,e,rfl,_,rfl,?_⟩;rw[aM rfl];exact k
theorem Wn {A B:TS}{D:Ends}(e:σ[i]?=some (some (.int c)))(k:B D σ H)(n:autoParam (c≠j) aU1._auto_1):tIfS (qqp (tOp rEq (yu i) (tC (.int j)))) A B D σ H:=by refine⟨_,e,rfl,_,rfl,?_⟩;rw[show decide (V.int c=V.int j)=false from aX λz=>n (by cases z;rfl)];exact k
theorem wcT {u:TS}{D:Ends}{H:Hp}(e:σ[i]?=some (some (.int j)))(k:A { D with nx:=λ_ _=>False } σ H):tCut (tIfS (qqp (tOp rEq (yu i) (tC (.int j)))) A wk7) u D σ H :=
 ⟨λ_ _=>False,wwp e k,λ_ _ z=>z.elim⟩
variable {u:TS}
theorem wcF {A:TS}{D:Ends}(e:σ[i]?=some (some (.int c)))(k:u D σ H)(n:autoParam (c≠j) aU1._auto_1):tCut (tIfS (qqp (tOp rEq (yu i) (tC (.int j)))) A wk7) u D σ H :=
 ⟨λσ' H'=>σ'=σ/\H'=H,Wn e ⟨rfl,rfl⟩ n,by rintro _ _ ⟨rfl,rfl⟩;exact k⟩
theorem wcP {u:TS}{D:Ends}{H:Hp}(e:σ[i]?=some (some (.int j)))(k:A { D with nx:=λσ' H'=>σ'=σ/\u D σ H' } σ H):tCut (tIfS (qqp (tOp rEq (yu i) (tC (.int j)))) A wk7) u D σ H :=
 ⟨λσ' H'=>σ'=σ/\u D σ H',wwp e k,by rintro _ _ ⟨rfl,h⟩;exact h⟩
def qvc (w:Nat):Int:=([0,0,0,0,1,1,1,1,1,1,0,1,1,1]:List Int).getD w 0
def qvu (w:Nat):Int:=([1000,(1000000000000000000000000000000000000000000000000000000000000),(1000000000000000000000000000000000000000000000000000000000000),60,12,12,12,12,12,12,200,25,12,4]:List Int).getD w 0
theorem ok10:wb [1,0]:=⟨⋯,⋯,⋯⟩
theorem cr10:∀m:Nat,m<13->crS [1,0] m=1:=by decide +kernel
theorem r10 {m:Nat}(m1:1<=m)(m2:m<=12):crS [1,0] m<=1000/\(xf [1,0] m).length+([1,0]:List Int).length<=63:=by have e:=cr10 m ⋯;have f:=Jy ok10 m1;rw[e]at f;exact⟨by rw[e];decide,by have:([1,0]:List Int).length=2:=rfl;lia⟩
theorem sh10:∀t:Nat,t<12->(xm (zp [1,0] t)).length<=1000:=by decide +kernel
theorem nd13:¬ Dist (itP [1,0] (wy 1 3)) 1001:=λd=>d 0 2 ⋯ ⋯ (by decide +kernel)
theorem qzu {lo hi:Int}(h0:lo<=m)(h1:m<=hi):Within m lo (some hi):=⟨h0,λ_ e=>by cases e;exact h1⟩
def qub (K:Aa)(TT C CC:Aj):Sp:=λvs H Q E=>∃(r p:Aj) (hs:List Int) (t b:Int) (w:Nat) (m:Int),vs=[.ref r,.ref p,.int w,.int m]/\RoadAt C H r hs/\wb hs/\SqT K H p [.int t,.int b]/\1<=b/\Sm 8000 b/\xr hs t b/\w<14/\vv TT vz uj H /\
 ((w<10/\Out m (qvc w) (qvu w)/\∀H',Same H H'->E (.ref CC) none H')\/((10<=w\/(hs=[1,0]/\t=1/\b=3/\qvc w<=m/\m<=qvu w))/\∀H',Kp H H'->vv TT vz uj H'->Q .non H'))
include T in
theorem xx4 {f:Aj}{fd:Ad}{TT:Aj}(F:Fun K "_law_first" "_law_first" zc2 f fd)(zbe:Cal P w K mg base "walked" 5 (Wv K qx qv qf qw))(zg9:Cal P w K mg base "far" 6 (xvn K qx qv qf qw qd))(zha:Cal P w K mg base "stands" 6 (λvs H Q E=>Yn K qx vs H Q E\/W3 K qx qw vs H Q E))
  (zhb:Cal P w K mg base "ways" 7 (λvs H Q E=>qy8 qx vs H Q E\/xk qw 0 60 vs H Q E)) (zbf:Cal P w K mg base "rows" 7 (λvs H Q E=>qzp qx qw qd vs H Q E\/xk qw 1 12 vs H Q E)) (zbg:Cal P w K mg base "back" 8 (λvs H Q E=>qw9 qx TT vs H Q E\/xk qw 1 12 vs H Q E))
  (zhc:Cal P w K mg base "lengths" 10 (λvs H Q E=>qjr qx TT vs H Q E\/xk qw 1 12 vs H Q E)) (zhd:Cal P w K mg base "ring" 10 (λvs H Q E=>qym qx TT vs H Q E\/xk qw 1 12 vs H Q E)) (zbi:Cal P w K mg base "laid" 6 (λvs H Q E=>qx6 qx qd vs H Q E\/xk qw 1 12 vs H Q E)) (zhe:Cal P w K mg base "laps" 7 (λvs H Q E=>quu qx qd vs H Q E\/xk qw 1 12 vs H Q E)) :
  FK P w K mg base 11 f fd ["_law_road","_law_point","_law_door","_law_many"] (qub K TT qx qw):=by
 have sc:=qvg;refine F.okX sc (λvs H Q E h=>by obtain⟨_,_,_,_,_,_,_,rfl,_⟩:=h;rfl) λ_ _ _ s H vs Q E hr h=>?_;obtain⟨r,p,hs,t,b,w,m,rfl,J,D,hp,b1,Z,on,ap,hT,an⟩:=h;refine⟨_,(kr (xn (wu zg (pv 2) qy (wg _)) (qp (xz (wCA zbe (qb (pv 0) (qb (pv 1) (qb (pv 3) qk)))))) xw)
   (kr (xn (wu zg (pv 2) qy (wg _)) (qp (xz (wCA zg9 (qb (pv 0) (qb (pv 1) (qb (pv 3) qk)))))) xw)
   (kr (xn (wu zg (pv 2) qy (wg _)) (qp (xz (wCA zha (qb (pv 0) (qb (pv 1) (qb (pv 3) (qb (pv 1) qk))))))) xw)
   (kr (xn (wu zg (pv 2) qy (wg _)) (qp (xz (wCA zhb (qb (pv 0) (qb (pv 3) qk))))) xw)
   (kr (xn (wu zg (pv 2) qy (wg _)) (qp (xz (wCA zbf (qb (pv 0) (qb (pv 3) qk))))) xw)
   (kr (xn (wu zg (pv 2) qy (wg _)) (qp (xz (wCA zbg (qb (pv 0) (qb (pv 3) qk))))) xw)
   (kr (xn (wu zg (pv 2) qy (wg _)) (qp (xz (wCA zhc (qb (pv 0) (qb (pv 3) qk))))) xw)
   (kr (xn (wu zg (pv 2) qy (wg _)) (qp (xz (wCA zhd (qb (pv 0) (qb (pv 3) qk))))) xw)
   (kr (xn (wu zg (pv 2) qy (wg _)) (qp (xz (wCA zbi (qb (pv 0) (qb (pv 3) qk))))) xw)
   (qp (xn (wu zg (pv 2) qy (wg _)) (qp (xz (wCA zhe (qb (pv 0) (qb (pv 3) qk))))) xw))))))))))),?_⟩
 rcases an with⟨ad,W,U⟩|⟨hc,L⟩
 .rcases(by lia:w=0\/w=1\/w=2\/w=3\/w=4\/w=5\/w=6\/w=7\/w=8\/w=9) with rfl|rfl|rfl|rfl|rfl|rfl|rfl|rfl|rfl|rfl
  .exact wcT rfl ⟨_,rfl,_,rfl,_,rfl,r,p,hs,t,b,m,rfl,J,D,hp,λ_=>⟨Z,λ_=>⟨λwi=>absurd wi W.no,λ_ H' s'=>U H' s'⟩,λz=>absurd on z⟩,λz=>absurd b1 ⋯⟩
  .exact wcF rfl (wcT rfl ⟨_,rfl,_,rfl,_,rfl,r,p,hs,t,b,m,rfl,J,D,hp,λ_=>⟨Z,λ_=>⟨λwi=>absurd wi W.no,λ_ H' s'=>U H' s'⟩,λz=>absurd on z⟩,λz=>absurd b1 ⋯⟩)
  .iterate 2 refine wcF rfl ?_
   exact wcT rfl (exI rfl (exI rfl (exI rfl (exI rfl (.inr ⟨r,p,p,hs,t,b,m,rfl,J,D,hp,b1,Z,on,W,U⟩)))))
  .iterate 3 refine wcF rfl ?_
   exact wcT rfl (exI rfl (exI rfl (.inr ⟨_,m,rfl,W,U⟩)))
  .iterate 4 refine wcF rfl ?_
   exact wcT rfl (exI rfl (exI rfl (.inr ⟨_,m,rfl,W,U⟩)))
  .iterate 5 refine wcF rfl ?_
   exact wcT rfl (exI rfl (exI rfl (.inr ⟨_,m,rfl,W,U⟩)))
  .iterate 6 refine wcF rfl ?_
   exact wcT rfl (exI rfl (exI rfl (.inr ⟨_,m,rfl,W,U⟩)))
  .iterate 7 refine wcF rfl ?_
   exact wcT rfl (exI rfl (exI rfl (.inr ⟨_,m,rfl,W,U⟩)))
  .iterate 8 refine wcF rfl ?_
   exact wcT rfl (exI rfl (exI rfl (.inr ⟨_,m,rfl,W,U⟩)))
  .iterate 9 refine wcF rfl ?_
   exact wwp rfl (exI rfl (exI rfl (.inr ⟨_,m,rfl,W,U⟩)))
 .rcases hc with ad|⟨rfl,rfl,rfl,m0,m1⟩
  .iterate 9 refine wcF rfl ?_ ⋯
   exact Wn rfl (L H (Kp.of (Same.refl _)) hT) ⋯
  rcases(by lia:w=0\/w=1\/w=2\/w=3\/w=4\/w=5\/w=6\/w=7\/w=8\/w=9\/10<=w) with rfl|rfl|rfl|rfl|rfl|rfl|rfl|rfl|rfl|rfl|ad
  .refine wcP rfl ?_;refine⟨_,rfl,_,rfl,_,rfl,r,p,[1,0],1,3,m,rfl,J,D,hp,λ_=>⟨Z,λ_=>⟨λ_ q H' nq s' P'=>?_,λnw=>absurd (qzu m0 m1) nw⟩,λz=>absurd on z⟩,λz=>absurd b1 ⋯⟩;refine⟨rfl,?_⟩
   iterate 8 refine wcF rfl ?_
   exact Wn rfl (L H' (Kp.of s') (zu hT s'))
  .iterate 1 refine wcF rfl ?_
   refine wcP rfl ?_;refine⟨_,rfl,_,rfl,_,rfl,r,p,[1,0],1,3,m,rfl,J,D,hp,λ_=>⟨Z,λ_=>⟨λ_=>⟨λ_ q H' s' f'=>?_,λd=>absurd d nd13⟩,λnw=>absurd (qzu m0 m1) nw⟩,λz=>absurd on z⟩,λz=>absurd b1 ⋯⟩;refine⟨rfl,?_⟩
   iterate 7 refine wcF rfl ?_
   exact Wn rfl (L H' (Kp.of s') (zu hT s'))
  .iterate 2 refine wcF rfl ?_
   refine wcP rfl ?_;refine exI rfl (exI rfl (exI rfl (exI rfl (.inl ⟨r,p,p,[1,0],1,3,1,3,m,rfl,J,D,hp,hp,⟨b1,Z,on,nd13⟩,⟨b1,Z,on⟩,qzu m0 m1,λn u x H' s' _ _ _ _ _=>?_⟩))));refine⟨rfl,?_⟩
   iterate 6 refine wcF rfl ?_
   exact Wn rfl (L H' (Kp.of s') (zu hT s'))
  .iterate 3 refine wcF rfl ?_
   refine wcP rfl ?_;refine exI rfl (exI rfl (.inl ⟨r,[1,0],m,rfl,J,D,m0,m1,λq H' s'=>?_⟩));refine⟨rfl,?_⟩
   iterate 5 refine wcF rfl ?_
   exact Wn rfl (L H' (Kp.of s') (zu hT s'))
  .iterate 4 refine wcF rfl ?_
   refine wcP rfl ?_;have n0:1<=m:=m0;have ab:m<=12:=m1;obtain⟨q1,q2⟩:=r10 (m:=m.toNat) ⋯ ⋯;refine exI rfl (exI rfl (.inl ⟨r,[1,0],m,rfl,J,D,m0,m1,q1,λq ys H' nq s' _ _=>?_⟩));refine⟨rfl,?_⟩
   iterate 4 refine wcF rfl ?_
   exact Wn rfl (L H' (Kp.of s') (zu hT s'))
  .iterate 5 refine wcF rfl ?_
   refine wcP rfl ?_;have n0:1<=m:=m0;have ab:m<=12:=m1;obtain⟨q1,q2⟩:=r10 (m:=m.toNat) ⋯ ⋯;refine exI rfl (exI rfl (.inl ⟨r,[1,0],m,rfl,J,D,m0,m1,q1,q2,hT,λ_ _ _ _ _ _ H' k' T' _ _ _ _ _=>?_⟩));refine⟨rfl,?_⟩
   iterate 3 refine wcF rfl ?_
   exact Wn rfl (L H' (k') (T'))
  .iterate 6 refine wcF rfl ?_
   refine wcP rfl ?_;have n0:1<=m:=m0;have ab:m<=12:=m1;obtain⟨q1,q2⟩:=r10 (m:=m.toNat) ⋯ ⋯;refine exI rfl (exI rfl (.inl ⟨r,[1,0],m,rfl,J,D,m0,m1,λl l1 l2=>r10 l1 ⋯,hT,λ_ H' k' T' _ _=>?_⟩));refine⟨rfl,?_⟩
   iterate 2 refine wcF rfl ?_
   exact Wn rfl (L H' (k') (T'))
  .iterate 7 refine wcF rfl ?_
   refine wcP rfl ?_;have n0:1<=m:=m0;have ab:m<=12:=m1;obtain⟨q1,q2⟩:=r10 (m:=m.toNat) ⋯ ⋯;refine exI rfl (exI rfl (.inl ⟨r,[1,0],m,rfl,J,D,m0,m1,q1,q2,hT,λ_ H' k' T'=>?_,λ_ _ H' _ _ _ k' T' _=>?_⟩))
   all_goals
    refine⟨rfl,?_⟩
    iterate 1 refine wcF rfl ?_
    exact Wn rfl (L H' k' T')
  .iterate 8 refine wcF rfl ?_
   refine wcP rfl ?_;have ab:m<=12:=m1;refine exI rfl (exI rfl (.inl ⟨r,[1,0],m,rfl,J,D,m0,m1,λ_ q us H' nq s' _ _=>?_,λ⟨t,t1,t2⟩=>absurd (sh10 t ⋯) ⋯⟩));refine⟨rfl,?_⟩;exact Wn rfl (L H' (Kp.of s') (zu hT s'))
  .iterate 9 refine wcF rfl ?_
   refine wwp rfl ?_;have ab:m<=12:=m1;refine exI rfl (exI rfl (.inl ⟨r,[1,0],m,rfl,J,D,m0,m1,λ_ H' s'=>?_,λ⟨t,t1,t2⟩=>absurd (sh10 t ⋯) ⋯⟩));exact L H' (Kp.of s') (zu hT s')
  .iterate 9 refine wcF rfl ?_ ⋯
   exact Wn rfl (L H (Kp.of (Same.refl _)) hT) ⋯
def Bad2 (w:Nat)(m:Int):Prop:=(w=10/\Out m 0 200)\/(w=11/\¬ u7 m)\/(w=12/\(m<1\/12<m))
def Good2 (w:Nat)(m:Int):Prop:=w<10\/w=13\/(w=10/\0<=m/\m<=200)\/(w=11/\u7 m)\/(w=12/\1<=m/\m<=12)
def qxf (CC:Aj):Sp:=λvs H Q E=>∃(w:Nat) (m:Int),vs=[.int w,.int m]/\w<14/\((Bad2 w m/\∀H',Same H H'->E (.ref CC) none H')\/(Good2 w m/\∀H',Same H H'->Q .non H'))
include T in
theorem xqd (F:Fun K "_law_second" "_law_second" zc3 f fd)(zhf:Cal P w K mg base "following" 4 (qxr qw))(zdb:Cal P w K mg base "odd_road" 4 (wkr qx qw))(zhg:Cal P w K mg base "road_for" 5 (xxm qx qw)) :
  FK P w K mg base 6 f fd ["_law_door","_law_many"] (qxf qw):=by
 have U:=qwt;refine F.okX U (λvs H Q E h=>by obtain⟨_,_,rfl,_⟩:=h;rfl) λ_ _ _ s H vs Q E hr h=>?_;obtain⟨w,m,rfl,Z,W⟩:=h;refine⟨_,(kr (xn (wu zg (pv 0) qy (wg _)) (qp (xz (wCA zhf (w8 qy (qb (pv 1) qk))))) xw)
   (kr (xn (wu zg (pv 0) qy (wg _)) (qp (xz (wCA zdb (qb (pv 1) qk)))) xw)
   (qp (xn (wu zg (pv 0) qy (wg _)) (qp (xz (wCA zhg (qb (pv 1) qk)))) xw)))),?_⟩
 rcases W with⟨D,L⟩|⟨D,J⟩
 .rcases D with⟨rfl,D⟩|⟨rfl,D⟩|⟨rfl,D⟩
  .exact wcT rfl ⟨_,rfl,7,m,rfl,⋯,λa b=>absurd (qzu a b) D.no,λ_=>L H (Same.refl _)⟩
  .exact wcF rfl (wcT rfl ⟨_,rfl,m,rfl,λz=>absurd z D,λ_=>L H (Same.refl _)⟩)
  .exact wcF rfl (wcF rfl (wwp rfl ⟨_,rfl,m,rfl,λa b=>absurd D ⋯,λ_=>L H (Same.refl _)⟩))
 .rcases D with w10|rfl|⟨rfl,m0,m1⟩|⟨rfl,D⟩|⟨rfl,m0,m1⟩
  .exact wcF rfl (wcF rfl (Wn rfl (J H (Same.refl _)) ⋯) ⋯) ⋯
  .exact wcF rfl (wcF rfl (Wn rfl (J H (Same.refl _))))
  .exact wcP rfl ⟨_,rfl,7,m,rfl,⋯,λ_ _ p H' s'=>⟨rfl,wcF rfl (Wn rfl (J H' s'))⟩,λz=>absurd (qzu m0 m1) z.no⟩
  .exact wcF rfl (wcP rfl ⟨_,rfl,m,rfl,λ_ x H' s' _=>⟨rfl,Wn rfl (J H' s')⟩,λz=>absurd D z⟩)
  .exact wcF rfl (wcF rfl (wwp rfl ⟨_,rfl,m,rfl,λ_ _ x H' s' _=>J H' s',λz=>absurd z ⋯⟩))
def BadT (w:Nat)(m:Int):Prop:=(w<10/\Out m (qvc w) (qvu w))\/Bad2 w m\/(w=13/\m<1)
def GoodT (hs:List Int)(t b:Int)(w:Nat)(m:Int):Prop:=hs=[1,0]/\t=1/\b=3/\qvc w<=m/\m<=qvu w/\(w=11->u7 m)
theorem good2 {w:Nat}(w14:w<14)(h0:qvc w<=m)(h1:m<=qvu w)(h2:w=11->u7 m):Good2 w m:=by
 rcases(by lia:w<10\/w=10\/w=11\/w=12\/w=13) with z|rfl|rfl|rfl|rfl
 .exact .inl z
 .exact .inr (.inr (.inl ⟨rfl,h0,h1⟩))
 .exact .inr (.inr (.inr (.inl ⟨rfl,h2 rfl⟩)))
 .exact .inr (.inr (.inr (.inr ⟨rfl,h0,h1⟩)))
 .exact .inr (.inl rfl)
theorem bad2w {w:Nat}(h:Bad2 w m):10<=w:=by rcases h with⟨rfl,_⟩|⟨rfl,_⟩|⟨rfl,_⟩ <;> decide
def wvf (K:Aa)(TT C:Aj):Sp:=λvs H Q _=>∃(r p:Aj) (hs:List Int) (t b:Int) (w:Nat) (m:Int),vs=[.ref r,.ref p,.int w,.int m]/\RoadAt C H r hs/\wb hs/\SqT K H p [.int t,.int b]/\1<=b/\Sm 8000 b/\xr hs t b/\w<14/\vv TT vz uj H /\
 ((BadT w m/\∀H',Kp H H'->vv TT vz uj H'->Q (.str "count") H')\/(GoodT hs t b w m/\∀H',Kp H H'->vv TT vz uj H'->Q (.str "none") H'))
include T in
theorem xkc {f:Aj}{fd:Ad}{TT:Aj}(F:Fun K "_law_told" "_law_told" zc4 f fd)(zhh:Cal P w K mg base "_law_first" 11 (qub K TT qx qw))(zhi:Cal P w K mg base "_law_second" 6 (qxf qw))(zhj:Cal P w K mg base "finer" 4 (λvs H Q E=>qwj qx qg vs H Q E\/Yz qw vs H Q E)) :
  FK P w K mg base 12 f fd ["_law_road","_law_point","_law_door","_law_many"] (wvf K TT qx):=by
 have sc:=qjc;refine F.okX sc (λvs H Q E h=>by obtain⟨_,_,_,_,_,_,_,rfl,_⟩:=h;rfl) λ_ _ _ s H vs Q E hr h=>?_;obtain⟨r,p,hs,t,b,w,m,rfl,Z,W,hp,b1,sb,on,D,hT,ad⟩:=h;refine⟨_,(qj (wp (i:=4) vg)
   (qj (xku rfl rfl rfl T.zc6 rfl T.zgd (λpn xe E hE hO=>(qj (xz (qt zhh (hr.mono ⋯) rfl hE (qb (pv 0) (qb (pv 1) (qb (pv 2) (qb (pv 3) qk))))))
   (qj (xz (qt zhi (hr.mono ⋯) rfl hE (qb (pv 2) (qb (pv 3) qk))))
   (qp (xn (wu zg (pv 2) qy (wg _)) (qp (xz (qt zhj (hr.mono ⋯) rfl hE (qb (pv 0) (qb (pv 3) qk))))) xw))))) (λe=>(qp (wp (i:=4) vg))) (λe=>(qp (wp (i:=4) vg))))
   (qp (wn (pv 4))))),?_⟩
 rcases ad with⟨J,ke⟩|⟨⟨rfl,rfl,rfl,m0,m1,hO⟩,kq⟩
 .rcases J with⟨ab,J⟩|J|⟨rfl,J⟩
  .exact exI rfl (exI rfl (exI rfl (exI rfl ⟨r,p,hs,t,b,w,m,rfl,Z,W,hp,b1,sb,on,D,hT,.inl ⟨ab,J,λH' s'=>(exI rfl (.inl ⟨Zt T.zaj,_,rfl,ke H' (Kp.of s') (zu hT s')⟩))⟩⟩)))
  .exact exI rfl (exI rfl (exI rfl (exI rfl ⟨r,p,hs,t,b,w,m,rfl,Z,W,hp,b1,sb,on,D,hT,.inr ⟨.inl (bad2w J),λH1 L U=>(exI rfl (exI rfl ⟨w,m,rfl,D,.inl ⟨J,λH' s'=>(exI rfl (.inl ⟨Zt T.zaj,_,rfl,ke H' (L.trans (Kp.of s')) (zu U s')⟩))⟩⟩))⟩⟩)))
  .exact exI rfl (exI rfl (exI rfl (exI rfl ⟨r,p,hs,t,b,13,m,rfl,Z,W,hp,b1,sb,on,D,hT,.inr ⟨.inl ⋯,λH1 L U=>(exI rfl (exI rfl ⟨13,m,rfl,D,.inr ⟨.inr (.inl rfl),λH2 s2=>wwp rfl ((exI rfl (exI rfl (.inr ⟨_,m,rfl,J,_,rfl,.inl ⟨Zt T.zaj,_,rfl,ke H2 (L.trans (Kp.of s2)) (zu U s2)⟩⟩))))⟩⟩))⟩⟩)))
 .refine exI rfl (exI rfl (exI rfl (exI rfl ⟨r,p,[1,0],1,3,w,m,rfl,Z,W,hp,b1,sb,on,D,hT,.inr ⟨.inr ⟨rfl,rfl,rfl,m0,m1⟩,λH1 L U=>(exI rfl (exI rfl ⟨w,m,rfl,D,.inr ⟨good2 D m0 m1 hO,λH2 s2=>?_⟩⟩))⟩⟩)));by_cases z:w=13
  .subst z;have n1:1<=m:=m0;have n4:m<=4:=m1;exact wwp rfl (exI rfl (exI rfl (.inl ⟨r,[1,0],m,rfl,(Z.kp L).same s2,W,n1,⋯,λ_ x H' _ s' _=>(exI rfl (kq H' ((L.trans (Kp.of s2)).trans (Kp.of s')) (zu (zu U s2) s'))),λz=>absurd z (by show ¬ 24<((2:Int)-1)*m;lia)⟩)))
  .exact Wn rfl (exI rfl (kq H2 (L.trans (Kp.of s2)) (zu U s2))) ⋯
def qj3 (K:Aa):Sp:=λvs H Q _=>∃(a:Aj) (ns:List Int) (i wd mo:Int),vs=[.ref a,.int i,.int wd,.int mo]/\SqL K H a (ns.map V.int)/\0<=i/\1<=wd/\wd<=24/\6<=mo/\mo<=1000 /\
 ∀p t b c,H p=none->1<=b->b<=mo->1<=c->c<=3->0<=t->t<=wd*b->Q (.ref p) (upd H p (.tup [.int (t*c),.int (b*c)]))
include T in
theorem xz6 (F:Fun K "_law_spot" "_law_spot" zc1 f fd)(zad:Cal P w K mg base "_law_pick" 2 (Z6 K)):FK P w K mg base 3 f fd ["_law_script","_law_at","_law_wide","_law_most"] (qj3 K):=by
 have Z:=qjw;refine F.okX Z (λvs H Q E h=>by obtain⟨_,_,_,_,_,rfl,_⟩:=h;rfl) λ_ _ _ _ H vs Q E hr h=>?_;obtain⟨a,ns,i,J,W,rfl,D,z,w1,w2,o1,o2,k⟩:=h;refine⟨_,(qj (wp (i:=4) (wx xu qy (wCA zad (qb (pv 0) (qb (pv 1) (w8 qy (qb (pv 3) qk)))))))
   (kr (xn (wu zg (wCA zad (qb (pv 0) (qb (pv 1) (w8 qy (w8 qy qk))))) qy (wg _)) (qp (wp (i:=4) (wx xu qy (wx v3 (pv 4) qy)))) xw)
   (qj (wp (i:=5) (wx xu (wx xy (wCA zad (qb (pv 0) (qb (pv 1) (w8 qy (qb (pv 2) qk))))) (pv 4)) (wCA zad (qb (pv 0) (qb (pv 1) (w8 qy (x8 (wx xu (pv 4) qy) qk)))))))
   (qj (wp (i:=6) (wx xu qy (wCA zad (qb (pv 0) (qb (pv 1) (w8 qy (w8 qy qk)))))))
   (qp (wn (z7 (x8 (wx xy (pv 5) (pv 6)) (x8 (wx xy (pv 4) (pv 6)) qk))))))))),?_⟩
 refine exI rfl (exI rfl (exI rfl ⟨a,ns,_,_,_,rfl,D,z,⋯,⋯,⋯,λU _ l1 u1=>?_⟩));refine⟨_,_,rfl,rfl,λσ H'=>∃b,σ=[some (.ref a),some (.int i),some (.int J),some (.int W),some (.int b),none,none]/\1<=b/\b<=W/\H'=H,?_,?_⟩
 .refine exI rfl (exI rfl ⟨a,ns,_,_,_,rfl,D,z,⋯,⋯,⋯,λr2 _ l2 u2=>?_⟩);refine⟨rfl,_,rfl,jx (λq1=>?_) (λq1=>?_)⟩
  .have e1:=bV (1+U) (show(6:Int)≠0 by decide);have e2:=bL (1+U) (show(0:Int)<6 by decide);exact⟨_,rfl,_,_,rfl,rfl,(by walk_at "pos"),_,_,rfl,rfl,_,rfl,⋯,⋯,rfl⟩
  .exact⟨_,rfl,⋯,⋯,rfl⟩
 .rintro σ Hx ⟨b,rfl,b1,b2,rfl⟩;refine exI rfl (exI rfl (exI rfl ⟨a,ns,_,_,_,rfl,D,z,⋯,⋯,⋯,λr3 _ l3 u3=>?_⟩));refine exI rfl (wc rfl rfl ⟨(by walk_at "mul"),exI rfl (exI rfl (exI rfl (wc rfl rfl ⟨a,ns,_,_,_,rfl,D,z,⋯,⋯,⋯,λr4 _ l4 u4=>?_⟩)))⟩);refine wc rfl rfl ?_;refine exI rfl (exI rfl ⟨a,ns,_,_,_,rfl,D,z,⋯,⋯,⋯,λL _ l5 u5=>?_⟩);refine wc rfl rfl ?_;have h1:=aD (show r3<=J-1 by lia) (show 0<=b by lia);have h2:(J-1)*b=J*b-b:=by rw[ie,b8]
  have h3:=cb l3 (show 0<=b by lia);refine exI rfl ⟨V.int (1+L),rfl,wc rfl rfl ⟨(by walk_at "mul"),exI rfl ⟨V.int (1+L),rfl,wc rfl rfl ⟨(by walk_at "mul"),sz2,λp np=>?_⟩⟩⟩⟩;exact k p _ b (1+L) np b1 b2 ⋯ ⋯ ⋯ ⋯
def qjv (K:Aa)(TT:Aj):Sp:=λvs H Q _=>∃(a:Aj) (ns:List Int),vs=[.ref a]/\SqL K H a (ns.map V.int)/\ns.length<=63/\H TT=some (.tbl #[])/\∀H',Q (.bl true) H'
def wwf:List Expr->Option (List V)
 |[]=>some []
 |.Constant (.int x) _ _::r=>(wwf r).map (V.int x::·)
 |_=>none
theorem qk9 {X:Cx}:∀ {es:List Expr} {vs:List V},wwf es=some vs->PA X es (λ_ H Q=>Q vs H)
 |[],vs,h=>by cases h;exact qk
 |e::r,vs,h=>by
  unfold wwf at h;split at h
  .next _=>simp at *
  .next x j p r' he =>
   cases he;obtain⟨ws,hw,rfl⟩:=df.mp h;exact w8 qy (qk9 hw)
  .cases h
def loL:List Int:=[0,0,0,0,1,1,1,1,1,1,0,1,1,1]
def hiL:List Int:=[1000,10 ^ (60:Int).toNat,10 ^ (60:Int).toNat,60,12,12,12,12,12,12,200,25,12,4]
theorem sz14 {a b c d e f g h i j k l m n:V}:[a,b,c,d,e,f,g,h,i,j,k,l,m,n].length<=sizeLine:=by show 14<=sizeLine;decide
theorem cp60:CPow 10 60:=⟨⋯,⋯,⋯⟩
theorem wuf {t:TS}{D:Ends}(e:H'=H)(k:t D σ H):t D σ H':=by rw[e];exact k
theorem line14 {wd:Int}(i:InW hs wd)(h1:1<=wd)(h2:wd<=6):wb hs:=by have e:=i.1;refine⟨⋯,⋯,λx hx=>?_⟩;have:=i.2 x hx;lia
theorem lo_at {j:Nat}(h:j<14):(loL.map V.int)[j]?=some (.int (qvc j)):=by rcases(by lia:j=0\/j=1\/j=2\/j=3\/j=4\/j=5\/j=6\/j=7\/j=8\/j=9\/j=10\/j=11\/j=12\/j=13) with rfl|rfl|rfl|rfl|rfl|rfl|rfl|rfl|rfl|rfl|rfl|rfl|rfl|rfl <;> rfl
theorem pw60:(10:Int) ^ (60:Int).toNat=1000000000000000000000000000000000000000000000000000000000000:=by decide +kernel
theorem hi_at {j:Nat}(h:j<14):(hiL.map V.int)[j]?=some (.int (qvu j)):=by unfold hiL;rw[pw60];rcases(by lia:j=0\/j=1\/j=2\/j=3\/j=4\/j=5\/j=6\/j=7\/j=8\/j=9\/j=10\/j=11\/j=12\/j=13) with rfl|rfl|rfl|rfl|rfl|rfl|rfl|rfl|rfl|rfl|rfl|rfl|rfl|rfl <;> rfl
theorem cp40:CPow 10 40:=⟨⋯,⋯,⋯⟩
theorem p40:(0:Int)<10 ^ (40:Int).toNat:=by decide +kernel
theorem xyz {w:Nat}(h:w<14)(l:m<qvc w):BadT w m:=by
 rcases(by lia:w<10\/w=10\/w=11\/w=12\/w=13) with z|rfl|rfl|rfl|rfl
 .exact .inl ⟨z,.inl l⟩
 .exact .inr (.inl (.inl ⟨rfl,.inl l⟩))
 .exact .inr (.inl (.inr (.inl ⟨rfl,λz=>by have q:m<1:=l;unfold u7 at z;lia⟩)))
 .exact .inr (.inl (.inr (.inr ⟨rfl,.inl l⟩)))
 .exact .inr (.inr ⟨rfl,l⟩)
theorem bad_hi {w:Nat}(h:w<13)(l:qvu w<m):BadT w m:=by
 rcases(by lia:w<10\/w=10\/w=11\/w=12) with z|rfl|rfl|rfl
 .exact .inl ⟨z,.inr l⟩
 .exact .inr (.inl (.inl ⟨rfl,.inr l⟩))
 .exact .inr (.inl (.inr (.inl ⟨rfl,λz=>by have q:25<m:=l;unfold u7 at z;lia⟩)))
 .exact .inr (.inl (.inr (.inr ⟨rfl,.inr l⟩)))
theorem ne_f {a:Str}{A B:Prop}(k:B):if(!decide (V.str a=V.str a))=true then A else B:=by rw[aM rfl];exact k
theorem lo_hi:∀j:Nat,j<14->qvc j<=qvu j:=by decide +kernel
theorem sb3:Sm 8000 3:=(Sm.small (n:=65) ⋯ ⋯ ⋯).mono ⋯
theorem on13:xr [1,0] 1 3:=⟨⋯,⋯⟩
include T in
theorem zhk {f:Aj}{fd:Ad}{TT:Aj}(F:Fun K "law" "law" za8 f fd)(zc8:Cal P w K mg base "_law_cell" 1 (qjk K))(zad:Cal P w K mg base "_law_pick" 2 (Z6 K))(zhl:Cal P w K mg base "_law_heights" 4 (Jx K))(zak:CCal P w K mg base "Road" qx 2 (Zc K qg qx))(zab:MCal P w K mg base qx "width" 1 (kh qx))(zhm:Cal P w K mg base "_law_spot" 3 (qj3 K))(zbj:Cal P w K mg base "_law_told" 12 (wvf K TT qx)) :
  FK P w K mg base 13 f fd ["_law_script"] (qjv K TT):=by
 have sc:=zf9;refine F.okX sc (λvs H Q E h=>by obtain⟨_,_,rfl,_⟩:=h;rfl) λ_ _ _ _ H vs Q E hr h=>?_;obtain⟨a,ns,rfl,hS,hl,hT,k⟩:=h;have c4:(1000000:Nat)<sizeLine:=by decide
 obtain⟨e1,L,j1,q1,q2,q3,q4,q5,q6,q7,j2,j3,j4,j5,q8,q9,bm,bl,bk,bd,hb,v1,v2⟩:∃(e1 L:List Expr) (j1:Nat) (q1 q2 q3 q4 q5 q6 q7:Pos) (j2 j3 j4 j5:Nat) (q8 q9 bm bl bk bd:Pos),zr za8=.Assign [.Name "_law_least_ones" q1] (.List e1 q2) q3::.Assign [.Name "_law_most_ones" q4] (.List (.Constant (.int 1000) j1 q5::.BinOp (.Constant (.int 10) j2 q8) .Pow (.Constant (.int 60) j3 q9) bm::.BinOp (.Constant (.int 10) j4 bl) .Pow (.Constant (.int 60) j5 bk) bd::L) q6) q7::(zr za8).drop 2 /\
  wwf e1=some (loL.map V.int)/\wwf L=some [V.int 60,V.int 12,V.int 12,V.int 12,V.int 12,V.int 12,V.int 12,V.int 200,V.int 25,V.int 12,V.int 4]:=⟨_,_,_,_,_,_,_,_,_,_,_,_,_,_,_,_,_,_,_,_,rfl,rfl,rfl⟩
 rw[hb];refine⟨_,(qj (wp (i:=1) (k7 (qk9 v1))) (qj (wp (i:=2) (k7 (w8 qy (x8 (wx qyz qy qy) (x8 (wx qyz qy qy) (qk9 v2)))))) (qj (wp (i:=3) (ud zak (hr.mono ⋯) rfl qu (vf (wCA zhl (qb (pv 0) (w8 qy (w8 qy qk)))) qk)))
   (qj (wp (i:=4) (wCA zhm (qb (pv 0) (w8 qy (vf (zc (pv 3) T.cl zab (hr.mono ⋯) qu) (w8 qy qk))))))
   (qj (wp (i:=5) (ud zak (hr.mono ⋯) rfl qu (pa_cL (k7 (w8 qy (w8 qy qk))) qk)))
   (qj (Qj bp rfl (zq rfl T.range_ (w8 qy qk)) (wm (i:=6)) (qj (wp (i:=7) (wx zy (wx zy (xh zw (pv 1) (pv 6) (λ_ _=>rfl)) qy) (wCA zad (qb (pv 0) (w8 qy (qb (pv 6) (w8 qy qk)))))))
   (qj (wp (i:=8) (wx xu (wx xu (wx xu (xh zw (pv 2) (pv 6) (λ_ _=>rfl)) qy) (wCA zad (qb (pv 0) (w8 qy (qb (pv 6) (w8 qy qk)))))) (wx xy (wx v3 (wCA zc8 (qb (pv 0) (w8 qy qk))) (wx qyz qy qy)) (wx v3 (pv 6) qy))))
   (qj (xn (wu wqr (wCA zbj (qb (pv 3) (qb (pv 4) (qb (pv 6) (qb (pv 7) qk))))) vg (wg _)) (qp (wn wqz)) xw)
   (qj (xn (PW.pt (xw8 (wu Wp (pv 6) qy (wg _)) (wjq (wu wqr (wCA zbj (qb (pv 3) (qb (pv 4) (qb (pv 6) (qb (pv 8) qk))))) vg (wg _))))) (qp (wn wqz)) xw)
   (qj (xn (wu wqr (wCA zbj (qb (pv 5) (wq1 (z7 (w8 qy (w8 qy qk))) (qb (pv 6) (yq (xh zw (pv 1) (pv 6) (λ_ _=>rfl)) qk))))) vg (wg _)) (qp (wn wqz)) xw)
   (qp (xn (wu wqr (wCA zbj (qb (pv 5) (wq1 (z7 (w8 qy (w8 qy qk))) (qb (pv 6) (yq (xh zw (pv 2) (pv 6) (λ_ _=>rfl)) qk))))) vg (wg _)) (qp (wn wqz)) xw))))))))
   (qp (wn (W7 zg (wCA zbj (qb (pv 5) (wq1 (z7 (w8 qy (w8 qy qk))) (w8 qy (x8 (wx xu qy (wx xy qy (wCA zad (qb (pv 0) (w8 qy (w8 qy (w8 qy qk))))))) qk))))) vg (wg _)))))))))),?_⟩
 refine⟨sz14,λD n1=>?_⟩;have s1:=Same.upd (o:=.lst (loL.map V.int)) n1;have f1:upd H D (.lst (loL.map V.int)) D=some (.lst (loL.map V.int)):=qh;refine wc rfl rfl ⟨cp60,wc rfl rfl ⟨cp60,sz14,λp2 n2=>?_⟩⟩;have s2:=Same.upd (o:=.lst (hiL.map V.int)) n2;have f2:upd (upd H D (.lst (loL.map V.int))) p2 (.lst (hiL.map V.int)) p2=some (.lst (hiL.map V.int)):=qh;have a7:upd (upd H D (.lst (loL.map V.int))) p2 (.lst (hiL.map V.int)) D=some (.lst (loL.map V.int)):=s2 _ _ f1;have ab:Same H (upd (upd H D (.lst (loL.map V.int))) p2 (.lst (hiL.map V.int))):=s1.trans s2;obtain⟨H2,L⟩:∃H2,H2=upd (upd H D (.lst (loL.map V.int))) p2 (.lst (hiL.map V.int)):=⟨_,rfl⟩;rw[<-L]at ab a7 f2;show tSeq _ _ _ _ _;refine wuf L.symm ?_;clear L s1 s2 f1 n1 n2;refine exI rfl ⟨a,ns,_,_,rfl,ab.sql hS,⋯,⋯,⋯,λp3 hs wd n3 w1 w6 iw=>?_⟩;have ok:wb hs:=line14 iw w1 w6;have s3:=Same.upd (o:=.lst (hs.map V.int)) n3;have f3:upd H2 p3 (.lst (hs.map V.int)) p3=some (.lst (hs.map V.int)):=qh;generalize upd H2 p3 (.lst (hs.map V.int))=H3 at s3 f3;refineλx1 d1 bs bx c3=>?_;refine⟨x1,d1,p3,hs,rfl,qh,SqL.of (by rw[wv (wj f3 bs),wv (wj f3 bx)];exact f3),λ_ H4 q4 cz co r4 l4=>⟨rfl,?_⟩,λz=>absurd ok z⟩;have s4:Same H3 H4:=Jq bs bx co;have R1:RoadAt qx H4 x1 hs:=⟨d1,q4,r4,l4⟩;have a3:=s3.trans s4;have a9:=ab.trans a3;have b4:=a9.sql hS;have hw:(hs.length:Int)-1=wd:=by have:=iw.1;lia
 refine exI rfl (exI rfl ⟨x1,d1,exI rfl ⟨r4,w5 (by decide +kernel),x1,hs,rfl,R1,?_⟩⟩);rw[hw];refine⟨a,ns,_,_,_,rfl,b4,⋯,w1,⋯,⋯,⋯,λZ t b c n5 b1 b2 c1 c2 t1 t2=>?_⟩;have e1:=bQ b1 c1 ⋯ ⋯;have L:=bQ b2 c2 ⋯ ⋯;have a8:1<=b*c:=by lia
 have a0:Sm 8000 (b*c):=(Sm.small (n:=65) ⋯ ⋯ ⋯).mono ⋯;have on:xr hs (t*c) (b*c):=by refine⟨cb t1 ⋯,?_⟩;have:=aD t2 (show 0<=c by lia);rw[hw];rwa [ii]at this
 have s5:=Same.upd (o:=.tup [.int (t*c),.int (b*c)]) n5;have U:upd H4 Z (.tup [.int (t*c),.int (b*c)]) Z=some (.tup [.int (t*c),.int (b*c)]):=qh;generalize upd H4 Z (.tup [.int (t*c),.int (b*c)])=H5 at s5 U;generalize t*c=tt at on U;generalize b*c=bb at on U a0 a8;refine⟨sz2,λp6 n6=>?_⟩;have s6:Same H5 (upd H5 p6 (.lst [.int 1,.int 0])):=Same.upd n6;have f6:upd H5 p6 (.lst [.int 1,.int 0]) p6=some (.lst (([1,0]:List Int).map V.int)):=qh;generalize upd H5 p6 (.lst [.int 1,.int 0])=H6 at s6 f6;refineλW d2 a5 a6 cj=>?_;refine⟨W,d2,p6,[1,0],rfl,qh,SqL.of (by rw[wv (wj f6 a5),wv (wj f6 a6)];exact f6),λ_ H7 q7 ci b0 r7 l7=>⟨rfl,?_⟩,λz=>absurd ok10 z⟩;have s7:Same H6 H7:=Jq a5 a6 b0;have R2:RoadAt qx H7 W [1,0]:=⟨d2,q7,r7,l7⟩;have a1:=s6.trans s7;have a2:=s5.trans a1;have ad:=a3.trans a2;have a4:=ab.trans ad;have as:=a4.sql hS;have R1:=R1.same a2;have U:=a1 _ _ U;have f1:=ad _ _ a7;have f2:=ad _ _ f2;have T7:vv TT vz uj H7:=zu (.inl hT) a4;clear ab a3 a9 s5 s6 s7 a1 a2 ad a4 hS b4 a7 n5 n6 f6 a5 a6 cj ci b0 r7 l7 r4;refine⟨14,rfl,⋯,⋯,u8 (λj σ Hy=>Kp H7 Hy/\vv TT vz uj Hy/\∃z1 z2 z3,σ=[some (.ref a),some (.ref D),some (.ref p2),some (.ref x1),some (.ref Z),some (.ref W),z1,z2,z3]) ⟨λ_ _ _ e=>e,T7,_,_,_,rfl⟩ ?_ ?_⟩
 .rintro j σ Hy hj ⟨ky,Ty,z1,z2,z3,rfl⟩;rw[show(0:Int)+j=j from iN _];have g1:=ky.lst f1;have g2:=ky.lst f2;refine exI rfl (exI rfl (exX rfl rfl (SqL.of g1) (zt (lo_at hj)) ?_));refine wc rfl rfl (exI rfl (exI rfl ⟨a,ns,_,_,_,rfl,ky.sql as,⋯,⋯,⋯,⋯,λr1 _ cc b6=>?_⟩));refine wc rfl rfl ?_;refine exI rfl (exI rfl (exX rfl rfl (SqL.of g2) (zt (hi_at hj)) (wc rfl rfl (exI rfl (exI rfl ⟨a,ns,_,_,_,rfl,ky.sql as,⋯,⋯,⋯,⋯,λr2 _ cy cv=>?_⟩)))));refine wc rfl rfl (exI rfl ⟨a,ns,exI rfl ⟨ky.sql as,⋯,λcl _=>?_⟩⟩);refine wc rfl rfl ⟨cp40,wc rfl rfl ⟨p40,exI rfl (wc rfl rfl ⟨⋯,wc rfl rfl ⟨IntMulOk.of_right (intBits_le_64 ⋯ ⋯),wc rfl rfl ?_⟩⟩)⟩⟩;have cm:qvc j-1-r1<qvc j:=by lia
  have ck:qvu j<qvu j+1+r2+cl%10 ^ (40:Int).toNat*((j:Int)%2):=by have:=cb (bV cl (show(10:Int) ^ (40:Int).toNat≠0 from Int.ne_of_gt p40)) (show(0:Int)<=(j:Int)%2 by lia);lia
  refine exI rfl (exI rfl (exI rfl (exI rfl ⟨x1,Z,hs,tt,bb,j,exI rfl ⟨R1.kp ky,ok,SqT.of (ky.tup U),a8,a0,on,hj,Ty,.inl ⟨xyz hj cm,λH8 k8 T8=>?_⟩⟩⟩)));refine⟨rfl,_,rfl,ne_f ?_⟩;have ap:=ky.trans k8;refine exI rfl (wc rfl rfl (exI rfl (jq (λy=>(exI rfl (exI rfl (exI rfl (exI rfl ⟨x1,Z,hs,tt,bb,j,exI rfl ⟨R1.kp ap,ok,SqT.of (ap.tup U),a8,a0,on,hj,T8,.inl ⟨bad_hi ⋯ ck,λH9 k9 T9=>⟨rfl,_,rfl,ne_f ?_⟩⟩⟩⟩))))) (λy=>Y8 ?_))));have KK:=ap.trans k9;have TK:=T9;rotate_left;have KK:=ap;have TK:=T8
  all_goals
   refine exI rfl ⟨sz2,λp9 J=>⟨_,rfl,_,rfl,_,rfl,_,_,_,_,rfl,rfl,SqL.of ((Same.upd J) _ _ (KK.lst f1)),zt (lo_at hj),W,p9,[1,0],1,3,j,_,rfl,(R2.kp KK).same (Same.upd J),ok10,SqT.new,⋯,sb3,on13,hj,zu TK (Same.upd J),.inr ⟨⟨rfl,rfl,rfl,cN _,lo_hi j hj,λe=>by subst e;exact .inl rfl⟩,λct b3 b5=>⟨rfl,_,rfl,ne_f ?_⟩⟩⟩⟩;have KL:=(KK.trans (Kp.of (Same.upd J))).trans b3;refine exI rfl ⟨sz2,λce an=>⟨_,rfl,_,rfl,_,rfl,_,_,_,_,rfl,rfl,SqL.of ((Same.upd an) _ _ (KL.lst f2)),zt (hi_at hj),W,ce,[1,0],1,3,j,_,rfl,(R2.kp KL).same (Same.upd an),ok10,SqT.new,⋯,sb3,on13,hj,zu b5 (Same.upd an),.inr ⟨⟨rfl,rfl,rfl,lo_hi j hj,cN _,λe=>by subst e;exact .inr ⟨⋯,⋯,⋯⟩⟩,λc5 cp cr=>⟨rfl,_,rfl,ne_f ?_⟩⟩⟩⟩;exact⟨KL.trans ((Kp.of (Same.upd an)).trans cp),cr,_,_,_,rfl⟩
 .rintro σ Hy ⟨ky,Ty,z1,z2,z3,rfl⟩;refine exI rfl ⟨sz2,λp9 J=>(exI rfl ⟨a,ns,_,_,_,rfl,((Kp.of (Same.upd J)).sql (ky.sql as)),⋯,⋯,⋯,⋯,λr1 _ cc b6=>?_⟩)⟩;refine wc rfl rfl ⟨IntMulOk.of_right (intBits_le_64 ⋯ ⋯),wc rfl rfl ?_⟩;refine⟨W,p9,[1,0],1,3,11,_,rfl,(R2.kp ky).same (Same.upd J),ok10,SqT.new,⋯,sb3,on13,⋯,zu Ty (Same.upd J),.inl ⟨.inr (.inl (.inr (.inl ⟨rfl,λz=>by unfold u7 at z;lia⟩))),λct b3 b5=>⟨rfl,?_⟩⟩⟩;rw[aM rfl];exact k _
end
section
theorem all_mk {l:PySem.W.OpenLaw}{w:Ah}{K:Aa}{h:Heap}{mg:Str->Option Ag}{fa cO TT:Aj}{qg:Aj}{qv:Aj}{qf:Aj}{qw:Aj}{qd:Aj}{qm:Aj}{qc:Aj}{qx:Aj}{zft:Tok}{zfu:Tok}{zfv:Tok}{zfw:Tok}{zfx:Tok}{zfy:Tok}{zfz:Tok}{zf0:Tok}{zf1:Tok}{zf2:Tok}{zf3:Tok}{zf4:Tok}(X:K.In h)(G:h.Ns mainGlobals mg)(hfa:mg "law" = some (.ref fa))
  (zdh:DefIn K "_law_cell" zcx)
  (zdi:DefIn K "_law_pick" zcy)
  (zdj:DefInD K "check_count" zaw)
  (zdk:DefIn K "check_bottom" zb0)
  (zdl:DefIn K "halvings" zcq)
  (zdm:DefIn K "is_line" zb3)
  (zdn:DefIn K "doubled" zcu)
  (zdo:DefIn K "odd_road" zcv)
  (zdp:DefIn K "road_for" zcw)
  (zdq:DefIn K "covered" zbu)
  (zdr:DefIn K "covers_of" zbv)
  (zds:DefIn K "ways_of_no_step" zbw)
  (zdt:DefIn K "one_step_more" zbx)
  (zdu:DefIn K "ways_up_to" zby)
  (zdv:DefIn K "rows_from" zbz)
  (zdw:DefIn K "common_divisor" zb1)
  (zdx:DefIn K "lowest" zb2)
  (zdy:DefInT K "ordered" zaz cO) (hC:PySem.W.codeHdIn K cO TT=true)
  (zdz:DefIn K "walked" zcc)
  (zd0:DefIn K "corners_back" zck)
  (zd1:DefIn K "lies_in" zcl)
  (zd2:DefIn K "line_along" zci)
  (zd3:DefIn K "fixed_point" zcj)
  (zd4:DefIn K "trace" zcd)
  (zd5:DefIn K "least" zch)
  (zd6:DefIn K "spot" zce)
  (zd7:DefIn K "far" zcf)
  (zd8:DefIn K "between" zcm)
  (zd9:DefIn K "parted" zcn)
  (zea:DefIn K "with_whole_heights" zco)
  (zeb:DefIn K "way" zcp)
  (zec:DefIn K "led_to" zcg)
  (zed:DefIn K "rank" zcr)
  (zee:DefIn K "ahead" zcs)
  (zef:DefIn K "following" zct)
  (zbk:DefIn K "ways" zax)
  (zbl:DefIn K "rows" zay)
  (zbm:DefIn K "back" za1)
  (zbn:DefIn K "candidates" za2)
  (zbo:DefIn K "lengths" za3)
  (zbp:DefIn K "ring" za4)
  (zbq:DefIn K "laid" za5)
  (zbr:DefIn K "laps" za6)
  (zbs:DefIn K "stands" za0)
  (zbt:DefIn K "finer" za7)
  (zeg:DefIn K "_law_climb" zcz)
  (zeh:DefIn K "_law_heights" zc0)
  (zei:DefIn K "_law_spot" zc1)
  (zej:DefIn K "_law_first" zc2)
  (zek:DefIn K "_law_second" zc3)
  (zel:DefIn K "_law_told" zc4)
  (zem:DefIn K "law" za8)
  (zen:PySem.W.nsIn K mainGlobals "BadLine" = some (some (.ref qg)))
  (zav:PySem.W.excIn K qg [.type "ValueError",.type "Exception",.type "BaseException",.type "object"] "ValueError.__new__" = true)
  (zeo:PySem.W.nsIn K mainGlobals "BadBottom" = some (some (.ref qv)))
  (za9:PySem.W.excIn K qv [.type "ValueError",.type "Exception",.type "BaseException",.type "object"] "ValueError.__new__" = true)
  (zep:PySem.W.nsIn K mainGlobals "OffRoad" = some (some (.ref qf)))
  (zba:PySem.W.excIn K qf [.type "ValueError",.type "Exception",.type "BaseException",.type "object"] "ValueError.__new__" = true)
  (zeq:PySem.W.nsIn K mainGlobals "BadCount" = some (some (.ref qw)))
  (zaj:PySem.W.excIn K qw [.type "ValueError",.type "Exception",.type "BaseException",.type "object"] "ValueError.__new__" = true)
  (zer:PySem.W.nsIn K mainGlobals "TooLong" = some (some (.ref qd)))
  (zan:PySem.W.excIn K qd [.type "ValueError",.type "Exception",.type "BaseException",.type "object"] "ValueError.__new__" = true)
  (zes:PySem.W.nsIn K mainGlobals "BadRow" = some (some (.ref qm)))
  (zbb:PySem.W.excIn K qm [.type "ValueError",.type "Exception",.type "BaseException",.type "object"] "ValueError.__new__" = true)
  (zet:PySem.W.nsIn K mainGlobals "RoadError" = some (some (.ref qc)))
  (zc5:PySem.W.excIn K qc [.type "ValueError",.type "Exception",.type "BaseException",.type "object"] "ValueError.__new__" = true)
  (zeu:PySem.W.nsIn K mainGlobals "Road" = some (some (.ref qx)))
  (zev:PySem.W.plainGet K qx Str.empty=true)
  (zew:PySem.W.hasDictIn K qx=true)
  (zex:PySem.W.plainOver K qx=true)
  (zey:PySem.W.findIn K (.ref qx) "__setattr__" = some (some (.builtin "object.__setattr__")))
  (zez:PySem.W.makesIn K qx=true)
  (ze0:PySem.W.keepIn K (.ref qx)=true)
  (ze1:MethIn K qx "__init__" "Road.__init__" zb4)
  (ze2:MethIn K qx "width" "Road.width" zb5)
  (ze3:MethIn K qx "corners" "Road.corners" zb6)
  (ze4:MethIn K qx "ends" "Road.ends" zb7)
  (ze5:MethIn K qx "reach" "Road.reach" zb9)
  (ze6:MethIn K qx "slope" "Road.slope" zb8)
  (ze7:MethIn K qx "on_road" "Road.on_road" zca)
  (ze8:MethIn K qx "at" "Road.at" zcb)
  (ze9:PySem.W.findIn K (.ref qx) "heights" = some none)
  (zag:PySem.W.nsIn K mainGlobals "WIDEST" = some (some (.int 24 zft)))
  (zao:PySem.W.nsIn K mainGlobals "LONGEST_TRACE" = some (some (.int 1000 zfu)))
  (zac:PySem.W.nsIn K mainGlobals "LONGEST_ROW" = some (some (.int 12 zfv)))
  (zap:PySem.W.nsIn K mainGlobals "MOST_WAYS" = some (some (.int 1000 zfw)))
  (zaq:PySem.W.nsIn K mainGlobals "MOST_WALKED" = some (some (.int 1000 zfx)))
  (zah:PySem.W.nsIn K mainGlobals "MOST_STEPS" = some (some (.int 60 zfy)))
  (zar:PySem.W.nsIn K mainGlobals "GREATEST_ODD" = some (some (.int 25 zfz)))
  (zas:PySem.W.nsIn K mainGlobals "GREATEST_BUILT" = some (some (.int 12 zf0)))
  (zae:PySem.W.nsIn K mainGlobals "FARTHEST" = some (some (.int 1000000000000000000000000000000000000000000000000000000000000 zf1)))
  (zai:PySem.W.nsIn K mainGlobals "MOST_TAKEN" = some (some (.int 12 zf2)))
  (zat:PySem.W.nsIn K mainGlobals "MOST_CORNERS" = some (some (.int 1000 zf3)))
  (zau:PySem.W.nsIn K mainGlobals "MOST_TOLD" = some (some (.int 200 zf4)))
  (zfa:PySem.W.nsIn K mainGlobals "len" = some none)
  (zfb:PySem.W.nsIn K mainGlobals "abs" = some none)
  (zfc:PySem.W.nsIn K mainGlobals "range" = some none)
  (zfd:PySem.W.nsIn K mainGlobals "isinstance" = some none)
  (zfe:PySem.W.nsIn K mainGlobals "int" = some none)
  (zff:PySem.W.nsIn K mainGlobals "bool" = some none)
  (zfg:PySem.W.nsIn K mainGlobals "list" = some none)
  (zfh:PySem.W.nsIn K mainGlobals "tuple" = some none)
  (zfi:PySem.W.nsIn K mainGlobals "min" = some none)
  (zfj:PySem.W.nsIn K mainGlobals "max" = some none)
  (zfk:PySem.W.nsIn K mainGlobals "all" = some none)
  (zfl:PySem.W.nsIn K mainGlobals "any" = some none)
  (zfm:PySem.W.nsIn K mainGlobals "sum" = some none)
  (zfn:PySem.W.nsIn K mainGlobals "sorted" = some none)
  (zfo:PySem.W.nsIn K mainGlobals "zip" = some none)
  (zfp:PySem.W.nsIn K mainGlobals "enumerate" = some none)
  (zfq:PySem.W.nsIn K mainGlobals "reversed" = some none) :
  ∃fd:Ad,(∀(s:Ab) (v:Ag),BindsTo s fd ⟨[v],[]⟩ [("_law_script",v)])/\∀base:Heap,K.In base->base.Ns mainGlobals mg->BMain mg base->FnOk l.prog w K mg base (CXE l.prog w) 13 fa fd ["_law_script"] (qjv K TT):=by
 have T:Txt K mg qg qv qf qw qd qm qc qx:=⟨bf X G zfa,bf X G zfb,bf X G zfc,bf X G zfd,bf X G zfe,bf X G zff,bf X G zfg,bf X G zfh,bf X G zfi,bf X G zfj,bf X G zfk,bf X G zfl,bf X G zfm,bf X G zfn,bf X G zfo,bf X G zfp,bf X G zfq,bh X G zen,⟨zav⟩,bh X G zeo,⟨za9⟩,bh X G zep,⟨zba⟩,bh X G zeq,⟨zaj⟩,bh X G zer,⟨zan⟩,bh X G zes,⟨zbb⟩,bh X G zet,⟨zc5⟩,⟨zev,zew,zex,zey⟩,ze9,⟨zft,bh X G zag⟩,bh X G zeu,⟨zfu,bh X G zao⟩,⟨zfv,bh X G zac⟩,⟨zfw,bh X G zap⟩,⟨zfx,bh X G zaq⟩,⟨zfy,bh X G zah⟩,⟨zfz,bh X G zar⟩,⟨zf0,bh X G zas⟩,⟨zf1,bh X G zae⟩,⟨zf2,bh X G zai⟩,⟨zf3,bh X G zat⟩,⟨zf4,bh X G zau⟩⟩;obtain⟨f,fd,a,F⟩:=zem.ex;have e:=hfa.symm.trans (bh X G a);cases e;refine⟨fd,λs v=>?_,λbase kb nb hB=>?_⟩
 .obtain⟨oc,od,kV,ec,pm,an,cdv,ct,ea,rfl,lk,eb⟩:=F.ex;exact .of_eq rfl
 .have c1:Cal l.prog w K mg base "_law_cell" 1 (qjk K):=zdh.cal X G qy5 λf fd F=>xjx T F;have c2:Cal l.prog w K mg base "_law_pick" 2 (Z6 K):=zdi.cal X G qjj λf fd F=>xkn T F c1;have z:CalD l.prog w K mg base "check_count" 1 (zd qw):=zdj.cal X G qw1 qw2 λf fd F=>xwg T F;have c4:Cal l.prog w K mg base "check_bottom" 1 (qwk qv):=zdk.cal X G qqt λf fd F=>xz0 T F;have c5:Cal l.prog w K mg base "halvings" 1 qjd:=zdl.cal X G wwn λf fd F=>xyg T F;have c6:Cal l.prog w K mg base "is_line" 1 (qxp K):=zdm.cal X G wv7 λf fd F=>wz7 T F;have Z:CCal l.prog w K mg base "Road" qx 2 (Zc K qg qx):=ze1.ccal T.zge zez ze0 Jk λf fd F=>xk7 T F c6;have D:MCal l.prog w K mg base qx "width" 1 (kh qx):=ze2.cal qvr λf fd F=>xq1 T F;have U:MCal l.prog w K mg base qx "corners" 1 (u6 qx):=ze3.cal qq7 λf fd F=>wzg T F;have d5:Cal l.prog w K mg base "doubled" 4 (xw1 qx qg):=zdn.cal X G wvw λf fd F=>zgj T F Z D U;have b3:Cal l.prog w K mg base "odd_road" 4 (wkr qx qw):=zdo.cal X G ww7 λf fd F=>zgk T F z Z;have d4:Cal l.prog w K mg base "road_for" 5 (xxm qx qw):=zdp.cal X G wwv λf fd F=>zgl T F z c5 b3 d5;have L:MCal l.prog w K mg base qx "ends" 2 (Z1 qx qm):=ze4.cal qyv λf fd F=>xkx T F D;have d3:MCal l.prog w K mg base qx "reach" 3 (qk6 qx qm):=ze5.cal qzs λf fd F=>xx0 T F L;have a3:MCal l.prog w K mg base qx "slope" 3 (qwz qx qm):=ze6.cal qvb λf fd F=>xxv T F L;have d2:Cal l.prog w K mg base "covered" 4 (Jp qx qm):=zdq.cal X G wvr λf fd F=>wv2 T F d3;have a2:Cal l.prog w K mg base "covers_of" 5 (Qz qx):=zdr.cal X G qjs λf fd F=>qyp T F D d2;have d1:Cal l.prog w K mg base "ways_of_no_step" 1 qx2:=zds.cal X G Zh λf fd F=>wvd T F;have d0:∀hs,wb hs->Cal l.prog w K mg base "one_step_more" 1 (Y9 hs):=λhs ok=>zdt.cal X G qqj λf fd F=>qu8 ok F T;have a1:Cal l.prog w K mg base "ways_up_to" 6 (Y0 qx):=zdu.cal X G qvf λf fd F=>wz9 T F a2 D d1 d0;have b2:Cal l.prog w K mg base "rows_from" 1 Zs:=zdv.cal X G qj7 λf fd F=>qj4 T F;have dy:Cal l.prog w K mg base "common_divisor" 1 xxj:=zdw.cal X G Yk λf fd F=>zgh T F;have a0:Cal l.prog w K mg base "lowest" 2 (uc qv):=zdx.cal X G wuv λf fd F=>wuz T F c4 dy;have as:Cal l.prog w K mg base "ordered" 6 (wjb K TT qv):=zdy.cal X G wvp λf fd F=>zgw F T hB hC c4;have J:MCal l.prog w K mg base qx "on_road" 3 (jm K qx qv qf):=ze7.cal qq9 λf fd F=>wx3 T F D a0;have b1:MCal l.prog w K mg base qx "at" 4 (spAt K qx qv qf):=ze8.cal wzz λf fd F=>zgn T F D a0 L J;have ap:Cal l.prog w K mg base "walked" 5 (Wv K qx qv qf qw):=zdz.cal X G wym λf fd F=>wyu T F z J b1;have b0:Cal l.prog w K mg base "corners_back" 6 (qjz qx):=zd0.cal X G qq6 λf fd F=>xxk T F D ap;have bx:Cal l.prog w K mg base "lies_in" 1 (wzh K):=zd1.cal X G wzy λf fd F=>xkt T F;have dq:Cal l.prog w K mg base "line_along" 4 (qyu K qx):=zd2.cal X G qz2 λf fd F=>xw3 T F a3 L;have bs:Cal l.prog w K mg base "fixed_point" 5 (qjy K qx):=zd3.cal X G qxt λf fd F=>xxd T F dq a0;have ad:Cal l.prog w K mg base "trace" 5 (Y5 qx qd):=zd4.cal X G xvr λf fd F=>xvw T F b1;have bm:Cal l.prog w K mg base "least" 6 (qk3 K qx):=zd5.cal X G xwz λf fd F=>xw0 T F J ad;have dp:Cal l.prog w K mg base "spot" 1 wz6:=zd6.cal X G xj4 λf fd F=>xv5 T F;have dn:Cal l.prog w K mg base "far" 6 (xvn K qx qv qf qw qd):=zd7.cal X G zf6 λf fd F=>zgu T F z J ad dp;have dm:Cal l.prog w K mg base "between" 3 (qqv K):=zd8.cal X G wzr λf fd F=>wzn T F a0;have dl:Cal l.prog w K mg base "parted" 4 (qzf K):=zd9.cal X G xqj λf fd F=>wuq T F dm;have bl:Cal l.prog w K mg base "with_whole_heights" 5 (qx5 K):=zea.cal X G Q1 λf fd F=>wyg T F dl;have bk:Cal l.prog w K mg base "way" 1 xzn:=zeb.cal X G zf8 λf fd F=>zg4 T F;have bd:Cal l.prog w K mg base "led_to" 1 xz9:=zec.cal X G xq0 λf fd F=>zg6 T F;have dg:Cal l.prog w K mg base "rank" 2 (qju Zw):=zed.cal X G xyh λf fd F=>xyx T F c5;have dd:Cal l.prog w K mg base "ahead" 3 (qjb qw):=zee.cal X G xwy λf fd F=>xvj T F z dg;have db:Cal l.prog w K mg base "following" 4 (qxr qw):=zef.cal X G quz λf fd F=>wu2 T F z dd;have et:Cal l.prog w K mg base "ways" 7 (qy8 qx):=zbk.cal X G qjm λf fd F=>wkt T F z a1;have er:Cal l.prog w K mg base "ways" 7 (xk qw 0 60):=zbk.cal X G qjm λf fd F=>wq2 T F z;have cz:Cal l.prog w K mg base "ways" 7 (λvs H Q E=>qy8 qx vs H Q E\/xk qw 0 60 vs H Q E):=zbk.cal X G qjm λf fd F=>FnOk.or (wkt T F z a1) (wq2 T F z);have bb:Cal l.prog w K mg base "rows" 7 (qzp qx qw qd):=zbl.cal X G qys λf fd F=>wky T F z a1 a2 D b2;have a9:Cal l.prog w K mg base "rows" 7 (xk qw 1 12):=zbl.cal X G qys λf fd F=>wq6 T F z;have cy:Cal l.prog w K mg base "rows" 7 (λvs H Q E=>qzp qx qw qd vs H Q E\/xk qw 1 12 vs H Q E):=zbl.cal X G qys λf fd F=>FnOk.or (wky T F z a1 a2 D b2) (wq6 T F z);have a8:Cal l.prog w K mg base "back" 8 (qw9 qx TT):=zbm.cal X G qjg λf fd F=>wk0 T F bb bs b0 bx as;have a7:Cal l.prog w K mg base "back" 8 (xk qw 1 12):=zbm.cal X G qjg λf fd F=>wwx T F a9;have cv:Cal l.prog w K mg base "back" 8 (λvs H Q E=>qw9 qx TT vs H Q E\/xk qw 1 12 vs H Q E):=zbm.cal X G qjg λf fd F=>FnOk.or (wk0 T F bb bs b0 bx as) (wwx T F a9);have ab:Cal l.prog w K mg base "candidates" 9 (qx0 qx TT):=zbn.cal X G uz λf fd F=>wkv T F a8 as bm;have a6:Cal l.prog w K mg base "candidates" 9 (xk qw 1 12):=zbn.cal X G uz λf fd F=>wqq T F a7;have eq:Cal l.prog w K mg base "candidates" 9 (λvs H Q E=>qx0 qx TT vs H Q E\/xk qw 1 12 vs H Q E):=zbn.cal X G uz λf fd F=>FnOk.or (wkv T F a8 as bm) (wqq T F a7);have en:Cal l.prog w K mg base "lengths" 10 (qjr qx TT):=zbo.cal X G Zn λf fd F=>wyx T F z ab;have em:Cal l.prog w K mg base "lengths" 10 (xk qw 1 12):=zbo.cal X G Zn λf fd F=>wwj T F z;have cr:Cal l.prog w K mg base "lengths" 10 (λvs H Q E=>qjr qx TT vs H Q E\/xk qw 1 12 vs H Q E):=zbo.cal X G Zn λf fd F=>FnOk.or (wyx T F z ab) (wwj T F z);have el:Cal l.prog w K mg base "ring" 10 (qym qx TT):=zbp.cal X G qj0 λf fd F=>wjv T F ab ap;have ek:Cal l.prog w K mg base "ring" 10 (xk qw 1 12):=zbp.cal X G qj0 λf fd F=>wws T F a6;have cp:Cal l.prog w K mg base "ring" 10 (λvs H Q E=>qym qx TT vs H Q E\/xk qw 1 12 vs H Q E):=zbp.cal X G qj0 λf fd F=>FnOk.or (wjv T F ab ap) (wws T F a6);have a5:Cal l.prog w K mg base "laid" 6 (qx6 qx qd):=zbq.cal X G qyt λf fd F=>wkd T F z U bl;have a4:Cal l.prog w K mg base "laid" 6 (xk qw 1 12):=zbq.cal X G qyt λf fd F=>qus T F z;have co:Cal l.prog w K mg base "laid" 6 (λvs H Q E=>qx6 qx qd vs H Q E\/xk qw 1 12 vs H Q E):=zbq.cal X G qyt λf fd F=>FnOk.or (wkd T F z U bl) (qus T F z);have ej:Cal l.prog w K mg base "laps" 7 (quu qx qd):=zbr.cal X G qyq λf fd F=>wj4 T F a5 bk;have ei:Cal l.prog w K mg base "laps" 7 (xk qw 1 12):=zbr.cal X G qyq λf fd F=>qut T F a4;have cm:Cal l.prog w K mg base "laps" 7 (λvs H Q E=>quu qx qd vs H Q E\/xk qw 1 12 vs H Q E):=zbr.cal X G qyq λf fd F=>FnOk.or (wj4 T F a5 bk) (qut T F a4);have eh:Cal l.prog w K mg base "stands" 6 (Yn K qx):=zbs.cal X G qqk λf fd F=>qv5 T F z J ad bd;have eg:Cal l.prog w K mg base "stands" 6 (W3 K qx qw):=zbs.cal X G qqk λf fd F=>qxk T F z J;have ck:Cal l.prog w K mg base "stands" 6 (λvs H Q E=>Yn K qx vs H Q E\/W3 K qx qw vs H Q E):=zbs.cal X G qqk λf fd F=>FnOk.or (qv5 T F z J ad bd) (qxk T F z J);have ef:Cal l.prog w K mg base "finer" 4 (qwj qx qg):=zbt.cal X G qwc λf fd F=>wxb T F z Z D U L a3;have ed:Cal l.prog w K mg base "finer" 4 (Yz qw):=zbt.cal X G qwc λf fd F=>qkd T F z;have cj:Cal l.prog w K mg base "finer" 4 (λvs H Q E=>qwj qx qg vs H Q E\/Yz qw vs H Q E):=zbt.cal X G qwc λf fd F=>FnOk.or (wxb T F z Z D U L a3) (qkd T F z);have ci:Cal l.prog w K mg base "_law_climb" 3 (qwv K):=zeg.cal X G qvz λf fd F=>xxn T F c2;have ce:Cal l.prog w K mg base "_law_heights" 4 (Jx K):=zeh.cal X G qqr λf fd F=>wzk T F c2 ci;have cc:Cal l.prog w K mg base "_law_spot" 3 (qj3 K):=zei.cal X G qy4 λf fd F=>xz6 T F c2;have b6:Cal l.prog w K mg base "_law_first" 11 (qub K TT qx qw):=zej.cal X G qz0 λf fd F=>xx4 T F ap dn ck cz cy cv cr cp co cm;have b5:Cal l.prog w K mg base "_law_second" 6 (qxf qw):=zek.cal X G qxj λf fd F=>xqd T F db b3 d4;have b4:Cal l.prog w K mg base "_law_told" 12 (wvf K TT qx):=zel.cal X G qk8 λf fd F=>xkc T F b6 b5 cj;exact zhk T F c1 c2 ce Z D cc b4
theorem walk {l:PySem.W.OpenLaw}{q:Ac}{loose:List Str}{XP:(Str->Option Ag)->Heap->Prop}{YP:Ah->Heap->Prop}{d:DefRec}{K:Params->Aa}{cO TT:Aj}(hn:l.most=some 63)(hdf:d.params.defaults=[])
  (hY:∀(w:Ah) (h:Heap),YP w h->(K w.params).In h/\h.get? TT=some (PySem.W.tabObj #[])) (hcT:∀p,PySem.W.codeHdIn (K p) cO TT=true) (hKT:∀p,(K p).lookup TT=none)
  (F:∀(w:Ah) (mg:Str->Option Ag) (fa:Aj) (h:Heap),(K w.params).In h->h.Ns mainGlobals mg->mg d.name=some (.ref fa) ->
   ∃fd:Ad,(∀(s:Ab) (u:Ag),BindsTo s fd ⟨[u],[]⟩ [("_law_script",u)])/\∀base:Heap,(K w.params).In base->base.Ns mainGlobals mg->BMain mg base->FnOk l.prog w (K w.params) mg base (CXE l.prog w) 13 fa fd ["_law_script"] (qjv (K w.params) TT)) :
  PySem.W.WalkO q loose XP YP l.row.toRowW d [] (λf vs=>PySem.call f vs) :=
 L2.xvb (n:=63) (k:=13) (x := "_law_script") (CX:=λw=>CXE l.prog w) (sp:=λw=>qjv (K w.params) TT) hn ⋯ hdf ⟨rfl,⋯,⋯⟩ hY hcT hKT F (λ_ _ a ns hl hT hS=>⟨a,ns,rfl,hS,hl,hT,λ_=>rfl⟩) λ_ _ _ _ _ z=>CXE.no z
end
end My
open PySem PySem.W PyProof.Rows
local macro_rules | `(tactic| walk_at "defT")=>`(tactic| (refine' L2.xjq ?a ?l ?c ?k;(case a=>k_is);(case l=>k_is);(case c=>k_is);(case k=>k_is)))
local macro_rules | `(tactic| walk_at "def")=>`(tactic| (refine' L2.def_mk ?a ?l ?c ?k;(case a=>k_is);(case l=>k_is);(case c=>k_is);(case k=>k_is)))
local macro_rules | `(tactic| walk_at "defD")=>`(tactic| (refine' L2.xjt ?a ?l ?c ?k ?t;(case a=>k_is);(case l=>k_is);(case c=>k_is);(case k=>k_is);(case t=>k_is)))
local macro_rules | `(tactic| walk_at "meth")=>`(tactic| (refine' L2.xjd ?a ?i ?l ?c ?k;(case a=>k_is);(case i=>k_is);(case l=>k_is);(case c=>k_is);(case k=>k_is)))
section
open Lean
local macro_rules|`(universe $x*)=>do let mut r:=#[];for i in x do {let s:=i.getId.toString;let n:=((s.drop 1).toString.splitOn "_").map String.toNat!;for j in [n.head!:n.getLast!+1] do {r:=r.push (<-`(command|theorem $(mkIdent (.str `PySem.W.Fast s!"tw{(Name.str `PySem.Challenge.cw_crookroad_k14_counts_out_of_range_holds ((match s.front with|'h'=>"heap_"|'t'=>"tree_"|'v'=>"view_"|'s'=>"sts_"|'e'=>"env_"|_=>"o_")++toString j)).hash}")):ident:True:=trivial))}};return mkNullNode r
universe h39 h46 h563 t47 t63 t78 t93 t108 t123 t138 t183 t242 t314 t384 t456 t532 t562 v39 o43_562 s49 s64 s79 s94 s109 s124 s139 s184 s243 s315 s385 s457 s533 e41
end
theorem PySem.W.Fast.tw6445431352454606857:True:=trivial
theorem PySem.W.Fast.tw8343578328401302265:True:=trivial
set_option maxRecDepth 100000 in
set_option maxHeartbeats 0 in
theorem PySem.Challenge.cw_crookroad_k14_counts_out_of_range_holds : PySem.Challenge.rw_crookroad_k14_counts_out_of_range.Holds := by
 w_on;o_law;k_head;(case hw=>w_witness2)
 k_fill
 refine My.walk (l:=PySem.Challenge.rw_crookroad_k14_counts_out_of_range) (cO:=178) (TT:=176) rfl rfl (fun w h Y=>⟨PySem.W.km_in_of Y,PySem.W.km_tabs_of Y 176 (.head _)⟩) (fun p=>by kernel_rfl) (fun p=>by kernel_rfl) ?F
 case F =>
  intro w mg fa h KX G hmg
  refine' My.all_mk (cO:=178) (TT:=176) KX G hmg ?zdh ?zdi ?zdj ?zdk ?zdl ?zdm ?zdn ?zdo ?zdp ?zdq ?zdr ?zds ?zdt ?zdu ?zdv ?zdw ?zdx ?zdy ?hC ?zdz ?zd0 ?zd1 ?zd2 ?zd3 ?zd4 ?zd5 ?zd6 ?zd7 ?zd8 ?zd9 ?zea ?zeb ?zec ?zed ?zee ?zef ?zbk ?zbl ?zbm ?zbn ?zbo ?zbp ?zbq ?zbr ?zbs ?zbt ?zeg ?zeh ?zei ?zej ?zek ?zel ?zem ?zen ?zav ?zeo ?za9 ?zep ?zba ?zeq ?zaj ?zer ?zan ?zes ?zbb ?zet ?zc5 ?zeu ?zev ?zew ?zex ?zey ?zez ?ze0 ?ze1 ?ze2 ?ze3 ?ze4 ?ze5 ?ze6 ?ze7 ?ze8 ?ze9 ?zag ?zao ?zac ?zap ?zaq ?zah ?zar ?zas ?zae ?zai ?zat ?zau ?zfa ?zfb ?zfc ?zfd ?zfe ?zff ?zfg ?zfh ?zfi ?zfj ?zfk ?zfl ?zfm ?zfn ?zfo ?zfp ?zfq
  (case zdh=>walk_at "def")
  (case zdi=>walk_at "def")
  (case zdj=>walk_at "defD")
  (case zdk=>walk_at "def")
  (case zdl=>walk_at "def")
  (case zdm=>walk_at "def")
  (case zdn=>walk_at "def")
  (case zdo=>walk_at "def")
  (case zdp=>walk_at "def")
  (case zdq=>walk_at "def")
  (case zdr=>walk_at "def")
  (case zds=>walk_at "def")
  (case zdt=>walk_at "def")
  (case zdu=>walk_at "def")
  (case zdv=>walk_at "def")
  (case zdw=>walk_at "def")
  (case zdx=>walk_at "def")
  (case zdy=>walk_at "defT")
  (case hC=>exact(by kernel_rfl))
  (case zdz=>walk_at "def")
  (case zd0=>walk_at "def")
  (case zd1=>walk_at "def")
  (case zd2=>walk_at "def")
  (case zd3=>walk_at "def")
  (case zd4=>walk_at "def")
  (case zd5=>walk_at "def")
  (case zd6=>walk_at "def")
  (case zd7=>walk_at "def")
  (case zd8=>walk_at "def")
  (case zd9=>walk_at "def")
  (case zea=>walk_at "def")
  (case zeb=>walk_at "def")
  (case zec=>walk_at "def")
  (case zed=>walk_at "def")
  (case zee=>walk_at "def")
  (case zef=>walk_at "def")
  (case zbk=>walk_at "def")
  (case zbl=>walk_at "def")
  (case zbm=>walk_at "def")
  (case zbn=>walk_at "def")
  (case zbo=>walk_at "def")
  (case zbp=>walk_at "def")
  (case zbq=>walk_at "def")
  (case zbr=>walk_at "def")
  (case zbs=>walk_at "def")
  (case zbt=>walk_at "def")
  (case zeg=>walk_at "def")
  (case zeh=>walk_at "def")
  (case zei=>walk_at "def")
  (case zej=>walk_at "def")
  (case zek=>walk_at "def")
  (case zel=>walk_at "def")
  (case zem=>walk_at "def")
  (case zen=>k_is)
  (case zav=>k_exc)
  (case zeo=>k_is)
  (case za9=>k_exc)
  (case zep=>k_is)
  (case zba=>k_exc)
  (case zeq=>k_is)
  (case zaj=>k_exc)
  (case zer=>k_is)
  (case zan=>k_exc)
  (case zes=>k_is)
  (case zbb=>k_exc)
  (case zet=>k_is)
  (case zc5=>k_exc)
  (case zeu=>k_is)
  (case zev=>k_is)
  (case zew=>k_is)
  (case zex=>k_is)
  (case zey=>k_is)
  (case zez=>k_is)
  (case ze0=>k_is)
  (case ze1=>walk_at "meth")
  (case ze2=>walk_at "meth")
  (case ze3=>walk_at "meth")
  (case ze4=>walk_at "meth")
  (case ze5=>walk_at "meth")
  (case ze6=>walk_at "meth")
  (case ze7=>walk_at "meth")
  (case ze8=>walk_at "meth")
  (case ze9=>k_is)
  (case zag=>k_is)
  (case zao=>k_is)
  (case zac=>k_is)
  (case zap=>k_is)
  (case zaq=>k_is)
  (case zah=>k_is)
  (case zar=>k_is)
  (case zas=>k_is)
  (case zae=>k_is)
  (case zai=>k_is)
  (case zat=>k_is)
  (case zau=>k_is)
  (case zfa=>k_is)
  (case zfb=>k_is)
  (case zfc=>k_is)
  (case zfd=>k_is)
  (case zfe=>k_is)
  (case zff=>k_is)
  (case zfg=>k_is)
  (case zfh=>k_is)
  (case zfi=>k_is)
  (case zfj=>k_is)
  (case zfk=>k_is)
  (case zfl=>k_is)
  (case zfm=>k_is)
  (case zfn=>k_is)
  (case zfo=>k_is)
  (case zfp=>k_is)
  (case zfq=>k_is)
