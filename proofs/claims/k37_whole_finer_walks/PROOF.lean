import PyProof.Rows.All
import Wide.All
import OpenK.AllK
import Wide.FinOn
import Lean
import PyProof.EqAt
import PyProof.EqKinds
import PyProof.TupleCall
import PyProof.NeData
import KE.IntBitsLaws
import PyProof.SetRoads
import KE.KDictList
import PyProof.Rows.SortShell
import PyProof.Rows.SortRuns
import PyProof.Rows.Walk
import KE.KStateDown
import KE.KSortTup
import KE.KLam
import KE.KNestM
import PySem.Challenge.RW_crookroad_k37_whole_finer_walks
set_option maxHeartbeats 0
set_option Elab.async false
set_option linter.all false
set_option maxRecDepth 100000
open Lean in
local macro_rules(kind:=Lean.Parser.Command.declaration)|s=>do {if s.getPos?.isNone||(`PySem.Challenge).isPrefixOf s[1][1][0].getId then Macro.throwUnsupported else let k:=s[1].getKind;let m←`(command|noncomputable def x:=0);let s:=if (k==`Lean.Parser.Command.definition||k==`Lean.Parser.Command.abbrev||k==`Lean.Parser.Command.instance)&&s[0][4].isNone then s.setArg 0 (s[0].setArg 4 m.raw[0][4]) else s;return Id.run (s.rewriteBottomUpM fun x=>x.setInfo .none)}
local macro_rules|`(tactic|lia)=>`(tactic|first|lia +splitIte|omega)
local macro_rules|`(⋯)=>`(by first|decide|lia)
local macro_rules|`(tactic|walk_at "iv")=>`(tactic|first|exact .inl rfl|exact .inr rfl|assumption)
local macro_rules|`(tactic|walk_at "vs")=>`(tactic|first|exact Or.inl rfl|exact Or.inr (Or.inl rfl)|exact Or.inr (Or.inr rfl))
def aa:=@PySem.wpAny_bind
def ae:=@List.getElem?_eq_getElem
def af:=@List.getD_eq_getElem?_getD
def ag:=@List.length_map
def ah:=@PySem.Heap.get?_push_of_some
def ai:=@PySem.wpAny_pure
def aj:=@Nat.le_refl
def ak:=@PySem.Heap.lt_size
def al:=@List.getElem?_eq_some_iff
def am:=@Int.mul_le_mul_of_nonneg_right
def ao:=@List.length_append
def aq:=@List.mem_range
def ar:=@if_neg
def au:=@List.size_toArray
def av:=@Option.some.inj
def aw:=@List.getElem?_map
def ay:=@if_pos
def az:=@List.mem_append_right
def aA:=@PySem.Heap.get?_push_size
def aB:=@Bool.false_eq_true
def aC:=@Nat.ne_of_lt
def aD:=@PyProof.Rows.wpS_bind
def aE:=@List.length_range
def aF:=@List.mem_of_getElem?
def aG:=@List.getElem?_append_right
def aH:=@Bool.false_ne_true
def aI:=@List.map_cons
def aJ:=@Array.getElem?_toList
def aK:=@PyProof.Rows.wpS_pure
def aL:=@List.mem_map
def aM:=@List.mem_cons
def aN:=@Nat.lt_of_lt_of_le
def aO:=@PySem.wpAny_mono
def aP:=@List.length_cons
def aQ:=@List.getElem?_eq_none
def aR:=@List.map_append
def aS:=@decide_eq_true
def aT:=@List.getElem?_append_left
def aU:=@List.mem_singleton
def aV:=@Array.length_toList
def aW:=@Nat.lt_irrefl
def aX:=@List.mem_append
def aY:=@Nat.zero_le
def aZ:=@List.append_assoc
def ba:=@Int.mul_le_mul_of_nonneg_left
def bb:=@Nat.lt_trans
def be:=@List.length_take
def bf:=@Array.getElem?_eq_getElem
def bg:=@List.pairwise_iff_getElem
def bh:=@Int.emod_lt_of_pos
def bi:=@List.getElem?_range
def bj:=@List.pairwise_append
def bn:=@Nat.le_of_lt
def bo:=@Nat.lt_or_ge
def bp:=@List.map_map
def br:=@if_false
def bu:=@Int.mul_comm
def bv:=@PySem.W.mg_none_of
def bw:=@List.lookup_cons
def bz:=@decide_eq_false
def bA:=@Int.one_mul
def bB:=@List.pairwise_map
def bC:=@PySem.PassesOwn.leaving
def bD:=@List.getElem_mem
def bE:=@List.take_length
def bF:=@Int.emod_nonneg
def bG:=@Int.le_of_mul_le_mul_right
def bH:=@Int.add_mul
def bI:=@Nat.le_trans
def bJ:=@PySem.wpAny_setState_of
def bK:=@List.range_succ
def bL:=@PySem.boot_len
def bM:=@List.mem_cons_of_mem
def bN:=@List.sum_cons
def bO:=@List.mem_filter
def bP:=@List.append_nil
def bQ:=@Int.toNat_natCast
def bR:=@Array.getElem?_eq_some_iff
def bS:=@PySem.W.mg_of
def bT:=@Array.toList_append
def bU:=@PySem.Heap.get?_update_ne
def bV:=@congrArg
def bW:=@PySem.wpAny_newObj_type
def bX:=@List.getElem?_of_mem
def bY:=@List.ext_getElem?
def bZ:=@PySem.Paired.length
def b7:=@List.Pairwise.imp_of_mem
def b8:=@PySem.wpAny_holding
def cf:=@PyProof.Rows.callWith_type1
def cg:=@Array.getD_eq_getD_getElem?
def cn:=@Int.toNat_of_nonneg
def cu:=@List.map_congr_left
def cw:=@List.length_drop
def cx:=@of_decide_eq_true
def cy:=@List.mem_append_left
def cz:=@PyProof.Rows.wpS_forRange
def cA:=@Int.mul_nonneg
def cB:=@PySem.wpAny_standAt
def cC:=@beq_eq_false_iff_ne
def cD:=@PySem.Heap.SameBut.update
def cE:=@Int.le_refl
def cG:=@PySem.W.kia_one
def cH:=@List.sum_append
def cI:=@if_true
def cJ:=@Bool.and_eq_true
def cK:=@PyProof.Rows.boot_list
def cL:=@List.length_singleton
def cM:=@PySem.Heap.size_push
def cN:=@Nat.zero_add
def cP:=@Int.lt_or_le
def cQ:=@PySem.F.slot_dict_keyiterator_next
def cR:=@PyProof.Rows.boot_isinstance
def cS:=@Int.le_trans
def cT:=@PySem.wpAny_Call_Name_kw
def cU:=@PySem.lookup_relabel_local
def cV:=@PySem.wpAny_call_entry
def cW:=@List.mem_of_mem_drop
def cX:=@Nat.add_sub_cancel_left
def cY:=@PySem.F.plainAttrs_list
def cZ:=@PySem.wpAny_truthy_bool
def da:=@List.map_nil
def dc:=@PySem.Heap.get?_update_other
def de:=@Int.eq_of_mul_eq_mul_right
def df:=@Option.map_eq_some_iff
def dh:=@List.take_of_length_le
def di:=@List.Perm.append_right
def dj:=@List.getElem_of_mem
def dr:=@Bool.eq_iff_iff
def dt:=@PySem.Heap.get?_update_self
def du:=@List.take_append_drop
def dv:=@List.Perm.append_left
def dw:=@List.length_filter_le
def dz:=@Int.mul_ediv_add_emod
def dA:=@PySem.wpAny_rule
def dB:=@Nat.mod_eq_of_lt
def dC:=@List.getElem?_drop
def dD:=@List.any_eq_true
def dE:=@PySem.F.slot_list_append
def dF:=@PySem.F.type_list_append
def dG:=@Nat.pow_le_pow_right
def dH:=@List.mem_of_mem_take
def dJ:=@PySem.wpAny_typeNameOfWhole_keyiter
def dL:=@Nat.le_of_lt_succ
def dM:=@Array.toList_push
def dN:=@PySem.wpAny_callSpecial?_slot
def dO:=@List.flatten_cons
def dP:=@List.take_add_one
def dQ:=@List.nodup_cons
def dR:=@Int.lt_ediv_add_one_mul_self
def dS:=@List.length_nil
def dU:=@List.dropLast_concat_getLast
def dW:=@PySem.mem_of_lookup
def dX:=@List.flatten_append
def dY:=@Nat.pow_succ
def dZ:=@Array.getElem?_eq_none
def d6:=@PySem.sizeLine_eq
def d7:=@Int.mul_assoc
def d8:=@List.mem_cons_self
def d9:=@PySem.Obj.data_mapFields
def ee:=@List.getElem?_take
def eo:=@Array.perm_iff_toList_perm
def eA:=@Int.mul_le_mul
def eB:=@List.perm_append_comm
def eC:=@PyProof.Rows.boot_min
def eD:=@PyProof.Rows.boot_max
def eE:=@PySem.wpAny_passesOwn
def eG:=@Int.ediv_nonneg
def eI:=@Int.ediv_mul_le
def eJ:=@PySem.codeAny_mono
def eK:=@Int.le_of_lt
def eM:=@Array.toList_extract
def eN:=@Nat.mod_lt
def eO:=@PySem.wpAny_comprehension_free
def eQ:=@PySem.wpAny_typeNameOf_keyiter
def eT:=@List.filterMap_cons
def eU:=@Ne.symm
def eV:=@Nat.lt_succ_self
def eX:=@Array.toList_inj
def eY:=@List.pairwise_singleton
def eZ:=@PySem.F.plain_max_loop
def ff:=@List.eq_nil_of_length_eq_zero
def fh:=@Int.mul_le_mul_of_nonpos_left
def fj:=@Nat.lt_of_le_of_lt
def fk:=@Nat.succ_pos
def fm:=@Nat.add_sub_cancel
def fu:=@List.pairwise_lt_range
def fv:=@List.sum_nil
def fA:=@Int.mul_ediv_mul_of_pos_left
def fB:=@List.find?_cons
def fC:=@PyProof.Rows.wpS_mono
def fE:=@PyProof.Rows.get?_update_seq
def fF:=@PySem.wpAny_attempt
def fG:=@PyProof.Rows.listUpdate_at
def fH:=@bne_self_eq_false
def fI:=@Nat.lt_succ_of_lt
def fJ:=@Nat.mod_two_eq_zero_or_one
def fL:=@PySem.wpAny_newFunctionEnv
def fM:=@Nat.ne_of_gt
def fN:=@beq_self_eq_true
def fO:=@PySem.wpAny_askSetting
def fP:=@List.filter_cons
def fQ:=@Int.zero_add
def fR:=@List.drop_eq_getElem_cons
def fS:=@List.getElem?_eq_none_iff
def fT:=@List.reverse_append
def fU:=@PySem.F.args_tuple_add_2
def fV:=@Bool.not_true
def fW:=@PyProof.Rows.boot_sorted
def fX:=@PySem.wpAny_ite_split
def fY:=@List.mem_filterMap
def fZ:=@beq_iff_eq
def gf:=@PySem.W.callWith_K
def gh:=@Array.forIn_toList
def gk:=@PyProof.Rows.wpS_modify
def gm:=@List.pairwise_cons
def gn:=@List.filter_append
def gu:=@PySem.F.entry_tuple_add
def gv:=@decide_eq_false_iff_not
def gz:=@Int.eq_ofNat_of_zero_le
def gC:=@PySem.wpAny_assign_Name
def gD:=@PySem.wpAny_pyIter_list
def gE:=@PySem.F.slot_tuple_add
def gF:=@Bool.and_false
def gG:=@Int.natAbs_mul
def gH:=@PySem.codeAny_compStart_list
def gI:=@Int.le_ediv_iff_mul_le
def gJ:=@Nat.add_zero
def gK:=@PySem.wpAny_storeSet_of
def gL:=@PySem.wpAny_setField
def gM:=@PySem.wpAny_dictEntries
def gN:=@Nat.mul_le_mul
def gO:=@PySem.exec_Assign_Name_used
def gP:=@PySem.Obj.isFreed_of_fields
def gQ:=@Int.ediv_lt_of_lt_mul
def gR:=@List.nodup_range
def gS:=@List.getElem_map
def gU:=@PySem.F.args_dict_keyiterator_next_1
def gW:=@PyProof.Rows.wpS_get
def gX:=@PySem.wpAny_newList
def gY:=@Array.mem_toList_iff
def gZ:=@Int.mul_ediv_cancel'
def g8:=@PySem.F.entry_dict_keyiterator_next
def g9:=@PySem.wpAny_letGo
def hU:=@PySem.Around.under_plainId
def hX:=@Int.sub_mul
def h9:=@PySem.wpAny_execs_nil
def ic:=@Int.natCast_mul
def ie:=@Nat.not_lt_zero
def ig:=@Array.getElem?_setIfInBounds
def ii:=@PySem.codeAny_builtin
def ik:=@PySem.W.plainGet_of
def im:=@Nat.add_one_sub_one
def io:=@List.flatMap_append
def iq:=@Nat.mul_comm
def ir:=@Nat.sub_self
def iu:=@Nat.succ_mul
def iw:=@Int.le_of_eq
def iz:=@Nat.add_comm
def iB:=@PyProof.Rows.assignInOrder_cons
def iC:=@Nat.add_right_comm
def iD:=@PySem.F.excBase_ValueError
def iE:=@Int.mul_lt_mul_of_pos_left
def iF:=@PySem.tupleKind_room_in1
def iG:=@PySem.wpAny_seqItems
def iH:=@Bool.not_false
def iI:=@PySem.wpAny_fieldsOf
def iJ:=@PyProof.Rows.wpS_lift
def iK:=@List.nodup_iff_pairwise_ne
def iL:=@List.take_zero
def iM:=@Int.lt_of_mul_lt_mul_right
def iN:=@decide_eq_true_iff
def iO:=@Classical.byContradiction
def iQ:=@List.getLast?_eq_getElem?
def iR:=@List.getLastD_eq_getLast?
def iS:=@Int.mul_neg_of_pos_of_neg
def iT:=@Int.mul_pos_of_neg_of_neg
def iU:=@Int.le_of_mul_le_mul_left
def iV:=@PySem.Heap.SameBut.refl
def iW:=@Nat.lt_trichotomy
def iX:=@decide_eq_true_eq
def iY:=@PySem.Obj.cls_mapFields
def iZ:=@PySem.wpAny_pyIter_slot
def i3:=@Bool.not_eq_true'
def i4:=@PyProof.Rows.seqEpoch_at
def i6:=@List.getElem?_take_of_lt
def i7:=@Array.size_setIfInBounds
def i8:=@List.cons.inj
def i9:=@PySem.plainId_quiet
def ja:=@PySem.wpAny_execs_cons
def jl:=@PySem.noFill_tuple_add
def jo:=@Int.natCast_dvd_natCast
def jA:=@PySem.wpAny_forIn_list
def jB:=@List.getElem?_cons_succ
def jC:=@Bool.not_eq_true
def jD:=@PySem.wpAny_isInstance
def jE:=@Nat.le_add_right
def jF:=@PySem.Heap.size_update
def jG:=@List.getLast_eq_getElem
def jH:=@Nat.le_mul_of_pos_right
def jI:=@Int.dvd_mul_left
def jJ:=@PySem.wpAny_call
def jK:=@Int.ediv_one
def jL:=@List.of_mem_zip
def jM:=@Nat.two_pow_pos
def jN:=@Nat.div_add_mod
def jO:=@PySem.wpAny_specialOf
def jP:=@PySem.wpAny_dictEpoch
def jQ:=@PySem.wpAny_updateSeq
def jR:=@Nat.min_eq_left
def jS:=@Bool.false_and
def jT:=@Nat.le_succ
def jU:=@List.take_succ
def jV:=@PySem.intItems_at
def jW:=@PySem.numAt_eq
def jX:=@List.nodup_nil
def ka:=@Int.mul_pos
def ke:=@Int.mul_sub
def kA:=@List.any_cons
def kB:=@Bool.and_self
def kC:=@Nat.add_assoc
def kD:=@Int.lt_irrefl
def kE:=@Int.add_assoc
def kK:=@Prod.ext
section
open PySem PySem.Spec PyProof.Rows
abbrev Aa:=PySem.W.Frag
abbrev Ab:=PySem.Shared
abbrev Ac:=PySem.Program
abbrev Ad:=PySem.FuncData
abbrev Ae:=Around
abbrev Af:=SortSt
abbrev Ag:=Value
abbrev Ah:=World
abbrev Ai:=Keyed
abbrev Aj:=Addr
end
namespace L2
theorem exI {α:Sort _}{A K:α->Prop}{v:α}(e:A v)(h:K v):∃x,A x/\K x:=⟨v,e,h⟩
theorem wv {α β:Sort _}{A:α->Prop}{B:β->Prop}{K:α->β->Prop}{u:α}{v:β}(a:A u)(b:B v)(h:K u v):∃x y,A x/\B y/\K x y:=⟨u,v,a,b,h⟩
theorem exX {α β γ δ:Sort _}{A:α->Prop}{B:γ->Prop}{C:α->β->Prop}{D:β->γ->δ->Prop}{K:δ->Prop}{p:α}{xs:β}{i:γ}{v:δ}(a:A p)(b:B i)(c:C p xs)(d:D xs i v)(h:K v):∃p xs i v,A p/\B i/\C p xs/\D xs i v/\K v:=⟨p,xs,i,v,a,b,c,d,h⟩
end L2
namespace L2
open PySem PySem.Spec PyProof.Rows
abbrev Key:=Sum Int Str
def qkk:Key->Ag->Bool
 |.inl k,v=>Value.isInt k v
 |.inr x,v=>Value.isStrOf x v
def keyH (w:Ah):Key->Int
 |.inl k=>hashInt k
 |.inr x=>hashStr w x
theorem zh:∀ {k:Key} {v:Ag},qkk k v=true->(∃i t,k=Sum.inl i/\v=Value.int i t)\/(∃x t,k=Sum.inr x/\v=Value.str x t)
 |.inl i,v,h=>by obtain⟨t,e⟩:=Value.isInt_shape (k:=i) (v:=v) h;exact .inl ⟨i,t,rfl,e⟩
 |.inr x,v,h=>by obtain⟨t,e⟩:=Value.isStrOf_shape (x:=x) (v:=v) h;exact .inr ⟨x,t,rfl,e⟩
theorem wj5 (i:Int)(t:Tok):qkk (.inl i) (.int i t)=true:=by simp[qkk,Value.isInt]
theorem wy7 (x:Str)(t:Tok):qkk (.inr x) (.str x t)=true:=by simp[qkk,Value.isStrOf]
theorem key_ll (a b:Int):decide ((Sum.inl a:Key)=Sum.inl b)=(a==b):=by
 by_cases e:a=b
 .subst e;simp
 .have h:¬ (Sum.inl a:Key)=Sum.inl b:=λq=>e (Sum.inl.inj q);rw[bz h];exact(cC.mpr e).symm
theorem key_rr (a b:Str):decide ((Sum.inr a:Key)=Sum.inr b)=decide (a=b):=by
 by_cases e:a=b
 .subst e;simp
 .have h:¬ (Sum.inr a:Key)=Sum.inr b:=λq=>e (Sum.inr.inj q);rw[bz h,bz e]
theorem key_lr (a:Int)(b:Str):decide ((Sum.inl a:Key)=Sum.inr b)=false:=bz (λq=>nomatch q)
theorem key_rl (a:Str)(b:Int):decide ((Sum.inr a:Key)=Sum.inl b)=false:=bz (λq=>nomatch q)
def vx (prog:Ac)(w:Ah):PySem.KeyKind prog w Key where
 is:=qkk
 hash:=keyH w
 inj:=λv a b ha hb=>by
  rcases zh ha with⟨i,t,rfl,rfl⟩|⟨x,t,rfl,rfl⟩
  .rcases zh hb with⟨j,u,rfl,e⟩|⟨y,u,rfl,e⟩
   .injection e with e1 _;rw[e1]
   .exact nomatch e
  .rcases zh hb with⟨j,u,rfl,e⟩|⟨y,u,rfl,e⟩
   .exact nomatch e
   .injection e with e1 _;rw[e1]
 byValue:=λk v h=>by rcases zh h with⟨i,t,rfl,rfl⟩|⟨x,t,rfl,rfl⟩ <;> rfl
 pyHash:=λhv h=>by
  rcases zh hv with⟨i,t,rfl,rfl⟩|⟨x,t,rfl,rfl⟩
  .exact wpAny_pyHash_int h
  .exact wpAny_pyHash_str h
 eqBool:=λhu hv h=>by
  rcases zh hu with⟨i,t,rfl,rfl⟩|⟨x,t,rfl,rfl⟩
  .rcases zh hv with⟨j,u,rfl,rfl⟩|⟨y,u,rfl,rfl⟩
   .rw[key_ll]at h;exact wpAny_eqBool_int h
   .rw[key_lr]at h;exact SeqAt.EqAt.int_str i t y u _ _ _ _ h
  .rcases zh hv with⟨j,u,rfl,rfl⟩|⟨y,u,rfl,rfl⟩
   .rw[key_rl]at h;exact SeqAt.EqAt.str_int x t j u _ _ _ _ h
   .rw[key_rr]at h;exact wpAny_eqBool_str h
 «strs»:=λk x t v h=>by
  rcases zh h with⟨i,u,rfl,e⟩|⟨y,u,rfl,e⟩
  .exact nomatch e
  .injection e with e1 _
   subst e1;cases v <;> rfl
theorem wq0 (prog:Ac)(w:Ah)(i:Int)(t:Tok):(vx prog w).is (.inl i) (.int i t)=true:=wj5 i t
theorem wqg (prog:Ac)(w:Ah)(x:Str)(t:Tok):(vx prog w).is (.inr x) (.str x t)=true:=wy7 x t
inductive V where
 |non|bl (b:Bool)|int (i:Int)|str (x:Str)|byt (b:Array UInt8)|flt (b:UInt64)|ref (a:Aj)|ty (n:String)
 deriving DecidableEq
def RelV:V->Ag->Prop
 |.non,u=>u=Value.none
 |.bl b,u=>u=Value.bool b
 |.int i,u=>∃t,u=Value.int i t
 |.str x,u=>∃t,u=Value.str x t
 |.byt b,u=>∃t,u=Value.bytes b t
 |.flt b,u=>∃t,u=Value.float b t
 |.ref a,u=>u=Value.ref a
 |.ty n,u=>u=Value.type n
abbrev Vals:List V->List Ag->Prop:=Paired RelV
theorem Vals.length {xs:List V}{us:List Ag}(r:Vals xs us):xs.length=us.length:=bZ r
theorem Vals.get:∀ {xs:List V} {us:List Ag} {i:Nat} {x:V},Vals xs us->xs[i]?=some x->∃u,us[i]?=some u/\RelV x u
 |_,_,_,_,.nil,e=>by simp at e
 |_,_,0,_,.cons r _,e=>by simp at e;subst e;exact⟨_,rfl,r⟩
 |_,_,i+1,x,.cons _ t,e=>by obtain⟨u,h1,h2⟩:=Vals.get (i:=i) (x:=x) t (by simpa using e);exact⟨u,by simpa using h1,h2⟩
theorem Vals.append:∀ {xs ys:List V} {us ws:List Ag},Vals xs us->Vals ys ws->Vals (xs++ys) (us++ws)
 |_,_,_,_,.nil,s=>s
 |_,_,_,_,.cons r t,s=>.cons r (Vals.append t s)
theorem Vals.take:∀ {xs:List V} {us:List Ag} (n:Nat),Vals xs us->Vals (xs.take n) (us.take n)
 |_,_,0,_=>.nil
 |_,_,_+1,.nil=>.nil
 |_,_,n+1,.cons r t=>.cons r (Vals.take n t)
theorem Vals.drop:∀ {xs:List V} {us:List Ag} (n:Nat),Vals xs us->Vals (xs.drop n) (us.drop n)
 |_,_,0,r=>r
 |_,_,_+1,.nil=>.nil
 |_,_,n+1,.cons _ t=>Vals.drop n t
def RelO:Option V->Option Ag->Prop
 |some v,some u=>RelV v u
 |none,none=>True
 |_,_=>False
def KV {κ:Type}:List (κ×V)->List (κ×Ag)->Prop:=Paired λ(p:κ×V) (q:κ×Ag)=>p.1=q.1/\RelV p.2 q.2
def kV:Key->V
 |.inl i=>.int i
 |.inr x=>.str x
inductive HO where
 |lst (xs:List V)
 |tup (xs:List V)
 |dK (kvs:List (Key×V))|dT (kvs:List (List Key×V))
 |set (S:Int->Bool) (n:Nat)
 |ins (C dx:Aj) (fs:List (Str×V))
 |own (x:Aj)
 |xd (fs:List (Str×V))
 |met (f x:Aj)
 |rng (lo hi:Int)
 |frz (o:Obj) (u:HO)
 |tbl (ps:Array Ag)
 |ext (φ:Heap->Prop)
abbrev Hp:=Aj->Option HO
def upd (H:Hp)(a:Aj)(o:HO):Hp:=λb=>if b=a then some o else H b
theorem upd_same {H:Hp}{a:Aj}{o:HO}:upd H a o a=some o:=by unfold upd;rw[ay rfl]
theorem qt {H:Hp}{a b:Aj}{o:HO}(h:b≠a):upd H a o b=H b:=by unfold upd;rw[ar h]
theorem qyh {H:Hp}{a:Aj}{o u:HO}:upd (upd H a o) a u=upd H a u:=by funext b;unfold upd;split <;> rfl
theorem ne_of {H:Hp}{a b:Aj}{o u:HO}(h:H a=some o)(h':H b=some u)(d:o≠u):a≠b:=by intro e;subst e;rw[h]at h';exact d (av h')
theorem q9 {H:Hp}{a b:Aj}{o:HO}(h:H a=some o)(h':H b=none):a≠b:=by intro e;subst e;rw[h]at h';cases h'
section
variable (P:Ac)(w:Ah)
def ObjOk (H:Hp)(h:Heap)(a:Aj):HO->Prop
 |.lst xs=>xs.length<=sizeLine/\∃(its:List Ag) (n:Nat),Vals xs its/\h.get? a=some { cls:=.type "list",data:=.seq its.toArray n }
 |.tup xs=>xs.length<=sizeLine/\∃its:List Ag,Vals xs its/\IsTup h a its.toArray
 |.dK kvs=>kvs.length<=sizeLine/\(a==sysModules)=false/\∃vs,KV kvs vs/\h.DictOf (vx P w) a vs
 |.dT kvs=>kvs.length<=sizeLine/\(a==sysModules)=false/\∃xs:List (List Key×Aj×Ag),
   Paired (λ(p:List Key×V) (q:List Key×Aj×Ag)=>p.1=q.1/\H q.2.1=some (.tup (p.1.map kV))/\RelV p.2 q.2.2) kvs xs /\
   ∃o es ep,h.get? a=some o/\o.ExactDict/\o.data=.dict es ep/\es.toList=xs.map (entryOfKey (tupleKind (vx P w)))/\(xs.map (·.1)).Nodup
 |.set S n=>h.SetOf (intKind P w) a S n
 |.ins C dx fs=>H dx=some (.own a)/\fs.length<=1000/\dx≠a/\h.get? a=some (W.instObj C dx) /\
   ∃mA,h.Ns1 dx mA/\(∀f,RelO (fs.lookup f) (mA f))/\PySem.Within mA (fs.map (·.1))
 |.own _=>∃o,h.get? a=some o
 |.xd fs=>∃mA,h.Ns1 a mA/\∀f,RelO (fs.lookup f) (mA f)
 |.rng lo hi=>∃t u v,h.get? a=some { cls:=.type "range",data:=.fields #[.int lo t,.int hi u,.int 1 v] }
 |.frz o u=>h.get? a=some o/\ObjOk H h a u
 |.tbl ps=>h.get? a=some { cls:=.none,data:=.fields ps }
 |.met f x=>h.get? a=some (W.methodObj (.ref f) (.ref x))
 |.ext φ=>φ h/\(∃o,h.get? a=some o)/\∀h1 h2:Heap,φ h1->(∀o,h1.get? a=some o->h2.get? a=some o)->φ h2
def HOk (H:Hp)(h:Heap):Prop:=∀a o,H a=some o->ObjOk P w H h a o
end
section
variable {P:Ac}{w:Ah}{H H':Hp}{h h':Heap}{a:Aj}{o:HO}
theorem ObjOk.lt (x:ObjOk P w H h a o):a<h.objs.size:=by
 cases o with
 |lst xs=>obtain⟨_,_,_,_,e⟩:=x;exact ak e
 |tup xs=>obtain⟨_,_,_,p⟩:=x;exact p.lt
 |dK kvs=>obtain⟨_,_,_,_,o,_,_,e,_⟩:=x;exact ak e
 |dT kvs=>obtain⟨_,_,_,_,o,_,_,e,_⟩:=x;exact ak e
 |set S n=>obtain⟨o,_,_,_,e,_⟩:=x;exact ak e
 |ins C dx fs=>obtain⟨_,_,_,e,_⟩:=x;exact ak e
 |own y=>obtain⟨_,e⟩:=x;exact ak e
 |xd fs=>obtain⟨_,⟨_,_,_,e,_⟩,_⟩:=x;exact ak e
 |rng lo hi=>obtain⟨_,_,_,e⟩:=x;exact ak e
 |frz ob u=>obtain⟨e,_⟩:=x;exact ak e
 |tbl ps=>exact ak (show h.get? a=some _ from x)
 |met f y=>exact ak (show h.get? a=some _ from x)
 |ext φ=>obtain⟨_,⟨_,e⟩,_⟩:=x;exact ak e
theorem Paired.mapP {α β:Type}{F G:α->β->Prop}:∀ {l₁:List α} {l₂:List β},Paired F l₁ l₂->(∀a b,F a b->G a b)->Paired G l₁ l₂
 |_,_,.nil,_=>.nil
 |_,_,.cons r t,f=>.cons (f _ _ r) (Paired.mapP t f)
theorem ObjOk.stay (x:ObjOk P w H h a o)(k:∀b u,(b=a\/H b=some (.own a))->h.get? b=some u->h'.get? b=some u)
  (ho:∀b,H b=some (.own a)->H' b=some (.own a)) (ht:∀b xs,H b=some (.tup xs)->H' b=some (.tup xs)):ObjOk P w H' h' a o:=by
 induction o with
 |lst xs=>obtain⟨z,J,n,r,e⟩:=x;exact⟨z,J,n,r,k _ _ (.inl rfl) e⟩
 |tup xs=>obtain⟨z,J,r,D,e,c⟩:=x;exact⟨z,J,r,D,k _ _ (.inl rfl) e,c⟩
 |dK kvs=>obtain⟨z,y,vs,r,D,es,ep,e,c⟩:=x;exact⟨z,y,vs,r,D,es,ep,k _ _ (.inl rfl) e,c⟩
 |dT kvs =>
  obtain⟨z,y,xs,r,D,es,ep,e,c⟩:=x;exact⟨z,y,xs,Paired.mapP r λp q z=>⟨z.1,ht _ _ z.2.1,z.2.2⟩,D,es,ep,k _ _ (.inl rfl) e,c⟩
 |set S n=>obtain⟨D,es,ep,t,e,c⟩:=x;exact⟨D,es,ep,t,k _ _ (.inl rfl) e,c⟩
 |ins C dx fs =>
  obtain⟨d,z,L,e,mA,⟨F,es,ep,U,c⟩,r⟩:=x;exact⟨ho _ d,z,L,k _ _ (.inl rfl) e,mA,⟨F,es,ep,k _ _ (.inr d) U,c⟩,r⟩
 |own y=>obtain⟨D,e⟩:=x;exact⟨D,k _ _ (.inl rfl) e⟩
 |xd fs=>obtain⟨mA,⟨F,es,ep,e,c⟩,r⟩:=x;exact⟨mA,⟨F,es,ep,k _ _ (.inl rfl) e,c⟩,r⟩
 |rng lo hi=>obtain⟨t,u,v,e⟩:=x;exact⟨t,u,v,k _ _ (.inl rfl) e⟩
 |frz D u ih=>obtain⟨e,q⟩:=x;exact⟨k _ _ (.inl rfl) e,ih q⟩
 |tbl ps =>
  have e:h.get? a=some { cls:=.none,data:=.fields ps }:=x;show h'.get? a=some { cls:=.none,data:=.fields ps };exact k a _ (.inl rfl) e
 |met f y =>
  have e:h.get? a=some (W.methodObj (.ref f) (.ref y)):=x;show h'.get? a=some (W.methodObj (.ref f) (.ref y));exact k a _ (.inl rfl) e
 |ext φ=>obtain⟨p,⟨o,e⟩,st⟩:=x;exact⟨st _ _ p λo q=>k _ _ (.inl rfl) q,⟨o,k _ _ (.inl rfl) e⟩,st⟩
theorem HOk.lt (x:HOk P w H h)(e:H a=some o):a<h.objs.size:=(x a o e).lt
theorem HOk.fresh (x:HOk P w H h)(e:h.objs.size<=a):H a=none:=by
 cases q:H a with
 |none=>rfl
 |some u=>exact absurd (aN (x.lt q) e) (aW _)
theorem HOk.kept (x:HOk P w H h)(k:∀b u,h.get? b=some u->h'.get? b=some u):HOk P w H h':=λa o e =>
 (x a o e).stay (λb u _ q=>k b u q) (λ_ q=>q) λ_ _ q=>q
theorem HOk.laid (x:HOk P w H h)(k:∀b u,h.get? b=some u->h'.get? b=some u)(hp:h.objs.size<=a)(new:ObjOk P w (upd H a o) h' a o):HOk P w (upd H a o) h':=λb u e=>by
 have hn:=x.fresh hp;by_cases hb:b=a
 .subst hb;rw[upd_same]at e;cases e;exact new
 .rw[qt hb]at e;exact(x b u e).stay (λc v _ q=>k c v q) (λc q=>by rw[qt (q9 q hn)];exact q) λc xs q=>by rw[qt (q9 q hn)];exact q
end
def Rd (H:Hp)(a:Aj)(u:HO):Prop:=H a=some u\/∃o,H a=some (.frz o u)
theorem Rd.ok {P:Ac}{w:Ah}{H:Hp}{h:Heap}{a:Aj}{u:HO}(r:Rd H a u)(x:HOk P w H h):ObjOk P w H h a u:=by
 rcases r with r|⟨o,r⟩
 .exact x a u r
 .obtain⟨_,q⟩:=x a _ r;exact q
def Mut:Option HO->Prop
 |some (.lst _)=>True
 |some (.dK _)=>True
 |some (.dT _)=>True
 |some (.set _ _)=>True
 |some (.ins _ _ _)=>True
 |some (.ext _)=>True
 |_=>False
section
variable {P:Ac}{w:Ah}{H:Hp}{h h':Heap}{x e:Aj}{o':HO}
theorem HOk.write (ok:HOk P w H h)(mu:Mut (H x))(he:e=x\/H e=some (.own x))(k:∀b u,b≠e->h.get? b=some u->h'.get? b=some u)(heo:∃u,h'.get? e=some u)
  (new:ObjOk P w (upd H x o') h' x o'):HOk P w (upd H x o') h':=λb u q=>by
 have nown:∀c y,H c=some (.own y)->c≠x:=λc y r z=>by subst z;rw[r]at mu;exact mu
 have ntup:∀c xs,H c=some (.tup xs)->c≠x:=λc xs r z=>by subst z;rw[r]at mu;exact mu
 by_cases hb:b=x
 .subst hb;rw[upd_same]at q;cases q;exact new
 .rw[qt hb]at q;by_cases hbe:b=e
  .have q':H b=some (.own x):=by
    rcases he with z|z
    .exact absurd (hbe.trans z) hb
    .rw[hbe];exact z
   rw[q]at q';cases q';obtain⟨v,F⟩:=heo;exact⟨v,by rw[hbe];exact F⟩
  .refine(ok b u q).stay (λc v D r=>k c v ?_ r) (λc r=>by rw[qt (nown c b r)];exact r) λc xs r=>by rw[qt (ntup c xs r)];exact r
   rcases D with rfl|D
   .exact hbe
   .rintro rfl;rcases he with z|z
    .exact nown c b D z
    .rw[D]at z;cases z;exact hb rfl
end
structure Un (fs ex:List Aj)(H H':Hp)(h h':Heap):Prop where
 keep:∀b o,h.get? b=some o->H b=none->b∉fs->b∉ex->h'.get? b=some o
 slot:∀b o,h.get? b=some o->H b=none->b∈fs->b∉ex->∃sl,h'.get? b=some { o with slots:=sl }
 free:∀b o,h.get? b=some o->H b=none->b∉ex->H' b=none
 there:∀b o,h.get? b=some o->b∉ex->∃o',h'.get? b=some o'
 tups:∀b xs,H b=some (.tup xs)->H' b=some (.tup xs)
 frzs:∀b o u,H b=some (.frz o u)->H' b=some (.frz o u)
 tbls:∀b ps,H b=some (.tbl ps)->∃more,H' b=some (.tbl (ps++more))
section
variable {fs fs' ex ex':List Aj}{H H1 H2:Hp}{h h1 h2 h':Heap}{a x e:Aj}{o:HO}
theorem Un.any (u:Un fs ex H H1 h h1){b:Aj}{ob:Obj}(q:h.get? b=some ob)(n:H b=none)(hx:b∉ex):∃sl,h1.get? b=some { ob with slots:=sl }:=by
 by_cases hb:b∈fs
 .exact u.slot b ob q n hb hx
 .exact⟨ob.slots,u.keep b ob q n hb hx⟩
theorem Un.kept (k:∀b u,h.get? b=some u->h'.get? b=some u):Un fs ex H H h h' :=
 ⟨λb ob q _ _ _=>k b ob q,λb ob q _ _ _=>⟨ob.slots,k b ob q⟩,λ_ _ _ n _=>n,λb ob q _=>⟨ob,k b ob q⟩,λ_ _ q=>q,λ_ _ _ q=>q,λ_ ps q=>⟨#[],by rw[q];simp⟩⟩
theorem Un.refl:Un fs ex H H h h:=Un.kept λ_ _ q=>q
theorem Un.laid (k:∀b u,h.get? b=some u->h'.get? b=some u)(hp:h.objs.size<=a)(hn:H a=none):Un fs ex H (upd H a o) h h' where
 keep:=λb u q _ _ _=>k b u q
 slot:=λb u q _ _ _=>⟨u.slots,k b u q⟩
 free:=λb u q n _=>by rw[qt (aC (aN (ak q) hp))];exact n
 there:=λb u q _=>⟨u,k b u q⟩
 tups:=λb xs q=>by rw[qt (q9 q hn)];exact q
 frzs:=λb u xs q=>by rw[qt (q9 q hn)];exact q
 tbls:=λb ps q=>⟨#[],by rw[qt (q9 q hn),q];simp⟩
theorem Un.write (mu:Mut (H x))(he:e=x\/H e=some (.own x))(k:∀b u,b≠e->h.get? b=some u->h'.get? b=some u)(heo:∃u,h'.get? e=some u):Un fs ex H (upd H x o) h h':=by
 have F:∀b,H b=none->b≠x:=λb n z=>by subst z;rw[n]at mu;exact mu
 have J:∀b,H b=none->b≠e:=λb n z=>by
  subst z;rcases he with r|r
  .exact F b n r
  .rw[n]at r;cases r
 have D:∀b u,H b=some u->¬ Mut (some u)->b≠x:=λb u q nm z=>by subst z;rw[q]at mu;exact nm mu
 refine⟨λb u q n _ _=>k b u (J b n) q,λb u q n _ _=>⟨u.slots,k b u (J b n) q⟩,λb u q n _=>by rw[qt (F b n)];exact n,λb u q _=>?_,
  λb xs q=>by rw[qt (D b _ q λz=>z)];exact q,λb u xs q=>by rw[qt (D b _ q λz=>z)];exact q,λb ps q=>⟨#[],by rw[qt (D b _ q λz=>z),q];simp⟩⟩
 by_cases hbe:b=e
 .subst hbe;exact heo
 .exact⟨u,k b u hbe q⟩
end
def trk (h:Heap)(H:Hp):List Aj:=(List.range h.objs.size).filter λa=>(H a).isSome
def qv0 (h:Heap)(H:Hp):Heap:=W.hideAll h (trk h H)
theorem wyp (h:Heap)(H:Hp):(qv0 h H).objs.size=h.objs.size:=W.hideAll_size _ _
theorem xx8 {h:Heap}{H:Hp}{b:Aj}{o:Obj}(e:h.get? b=some o)(n:H b=none):(qv0 h H).get? b=some o :=
 W.hideAll_get _ e λhm=>by have q:(H b).isSome=true:=(bO.mp hm).2;rw[n]at q;simp at q
theorem xv9 {h:Heap}{H:Hp}{b:Aj}{o:Obj}(e:(qv0 h H).get? b=some o):h.get? b=some o/\H b=none:=by
 have D:h.get? b=some o:=W.of_hideAll (trk h H) e;refine⟨D,?_⟩;cases q:H b with
 |none=>rfl
 |some x =>
  have F:b∈trk h H:=bO.mpr ⟨aq.mpr (ak D),by simp[q]⟩;have z:(qv0 h H).get? b=none:=W.hideAll_none (trk h H) F;rw[z]at e;cases e
def xz6 (g h:Heap)(L:Aj):List (Aj×Obj):=(List.range h.objs.size).filterMap λa=>if a=L\/(g.get? a).isSome=true then none else(h.get? a).map λo=>(a,o)
def rest (g h:Heap)(L d:Aj):List (Aj×Obj):=(xz6 g h L).filter λp=>decide (p.1≠d)
structure Mod (K:Aa)(mg:Str->Option Ag)(base:Heap):Prop where
 kin:K.In base
 glob:base.Ns mainGlobals mg
 blt:∃mb,base.Ns builtinsNs mb/\∀x:Str,x ≠ "__name__" -> mb x=bootBuiltins x
 nolimit:base.NoLimit
structure Cx where
 prog:Ac
 w:Ah
 K:Aa
 mg:Str->Option Ag
 base:Heap
 A:Ae
 N:List Str
 s₀:Ab
 H₀:Hp
 env:Env
 outer:List Env
 stack:List Env
 ex:List Aj
 fn:Str->Bool
 calm:Bool
 pn:List (Aj×Obj)
 xe:Ag->Ab->Prop
def frs (l:List Env):List Aj:=l.filterMap (·.frame)
abbrev Cx.fs (X:Cx):List Aj:=frs X.outer
def Vis (sc:Scope)(x:Str):Prop:=sc.names.lookup x=some .local\/sc.names.lookup x=some .cell\/sc.names.lookup x=some .free
def Loc (sc:Scope)(x:Str):Prop:=sc.names.lookup x=some .local\/sc.names.lookup x=some .cell
def Look (env:Env)(h:Heap)(m:Str->Option Ag)(x:Str)(u:Ag):Prop :=
 (env.kindOf x=some .local/\m x=some u)\/((env.kindOf x=some .cell\/env.kindOf x=some .free)/\∃c,env.cells.lookup x=some c/\h.IsCell c (some u))
structure Cx.Ok (X:Cx):Prop where
 mod:Mod X.K X.mg X.base
 kind:X.env.scope.kind=.function
 glob:X.env.globals=mainGlobals
 blt:X.env.builtins=builtinsNs
 above:X.s₀.heap.objs.size<=X.env.locals
 inj:∀x y c,X.env.cells.lookup x=some c->X.env.cells.lookup y=some c->x=y
 has:∀x,(X.env.kindOf x=some .cell\/X.env.kindOf x=some .free)->∃c,X.env.cells.lookup x=some c
 cab:∀x c,X.fn x=true->X.env.cells.lookup x=some c->X.s₀.heap.objs.size<=c
 hd:X.calm=true->X.A.handled=none
 frames:X.A.frames=some X.stack
 stk:X.stack=X.outer\/(X.stack=X.env::X.outer/\X.env.frame=some X.env.locals)
 exf:∀b∈X.ex,b≠X.env.locals/\∀x c,X.env.cells.lookup x=some c->c≠b
 bs:∀b o,X.base.get? b=some o->X.s₀.heap.get? b=some o/\X.H₀ b=none
 bsz:X.base.objs.size<=X.s₀.heap.objs.size
 noex:∀b o,X.base.get? b=some o->b∉X.ex
 exfs:∀b∈X.ex,b∉X.fs
 funs:X.s₀.heap.FunFrames X.base X.outer
 frf:∀b∈X.fs,X.H₀ b=none
structure Inv (X:Cx)(pins:List (Aj×Obj))(σ:List (Option V))(H:Hp)(s:Ab):Prop where
 ok:X.Ok
 os:s.os=X.s₀.os
 bare:AllBare s.gens
 base:Un X.fs X.ex X.H₀ H X.s₀.heap s.heap
 loc:∃m,s.heap.Ns X.env.locals m/\∀(i:Nat) (x:Str) (v:V),X.N[i]?=some x->σ[i]?=some (some v)->Vis X.env.scope x->∃u,RelV v u/\Look X.env s.heap m x u
 cell:∀x c,X.env.cells.lookup x=some c->∃v,s.heap.IsCell c v
 free:H X.env.locals=none
 freeC:∀x c,X.env.cells.lookup x=some c->H c=none
 pin:∀p∈X.pn++pins,s.heap.get? p.1=some p.2/\H p.1=none/\p.1≠X.env.locals/\p.1∉X.fs/\∀v,p.2.data≠.cell v
 hok:HOk X.prog X.w H s.heap
 len:σ.length=X.N.length
section
variable {X:Cx}{pins:List (Aj×Obj)}{σ:List (Option V)}{H H':Hp}{s:Ab}{h':Heap}
theorem Cx.Ok.nofr (ok:X.Ok){b:Aj}{o:Obj}(e:X.base.get? b=some o):b∉X.fs:=λhb=>by have:=(ok.funs.mem hb).1;rw[e]at this;cases this
theorem Inv.bs (I:Inv X pins σ H s):∀b o,X.base.get? b=some o->s.heap.get? b=some o/\H b=none:=λb o e =>
 ⟨I.base.keep b o (I.ok.bs b o e).1 (I.ok.bs b o e).2 (I.ok.nofr e) (I.ok.noex b o e),I.base.free b o (I.ok.bs b o e).1 (I.ok.bs b o e).2 (I.ok.noex b o e)⟩
theorem Inv.bk (I:Inv X pins σ H s):∀b o,X.base.get? b=some o->s.heap.get? b=some o:=λb o e=>(I.bs b o e).1
theorem Inv.mod (I:Inv X pins σ H s):Mod X.K X.mg X.base:=I.ok.mod
theorem Inv.kIn (I:Inv X pins σ H s):X.K.In s.heap:=I.ok.mod.kin.keeps I.bk
theorem Inv.lt (I:Inv X pins σ H s):X.env.locals<s.heap.objs.size:=let ⟨_,hn,_⟩:=I.loc;hn.lt
theorem Inv.sz (I:Inv X pins σ H s):X.s₀.heap.objs.size<=s.heap.objs.size:=bI I.ok.above (bn I.lt)
theorem Inv.nofs (I:Inv X pins σ H s){a:Aj}(h:s.heap.objs.size<=a):a∉X.fs:=λhb=>by obtain⟨_,o,ho,_⟩:=I.ok.funs.mem hb;exact absurd (aN (ak ho) (bI I.sz h)) (aW _)
theorem Inv.cne (I:Inv X pins σ H s):∀x c,X.env.cells.lookup x=some c->c≠X.env.locals:=λx c e z=>by obtain⟨v,o,ho,hd⟩:=I.cell x c e;obtain⟨m,⟨o',es,ep,ho',hd',_⟩,_⟩:=I.loc;rw[z,ho']at ho;cases ho;rw[hd']at hd;cases hd
theorem Inv.funs (I:Inv X pins σ H s):s.heap.FunFrames X.base X.outer:=by
 have ab:∀(l:List Env),(∀b∈frs l,b∈X.fs)->X.s₀.heap.FunFrames X.base l->s.heap.FunFrames X.base l:=by
  intro l
  induction l with
  |nil=>intro _ _;trivial
  |cons env r ih =>
   intro hs hl;obtain⟨hk,⟨L,o,D,Z,W,hd⟩,U⟩:=hl;have J:L∈X.fs:=hs L (by unfold frs;rw[eT,D];exact d8);obtain⟨sl,e⟩:=I.base.slot L o W (I.ok.frf L J) J λz=>I.ok.exfs L z J;exact⟨hk,⟨L,_,D,Z,e,hd⟩,ih (λb F=>hs b (by unfold frs;rw[eT,D];exact bM _ F)) U⟩
 exact ab X.outer (λ_ F=>F) I.ok.funs
theorem Inv.stack (I:Inv X pins σ H s):s.heap.FunFrames X.base X.stack:=by
 rcases I.ok.stk with e|⟨e,hf⟩
 .rw[e];exact I.funs
 .rw[e];obtain⟨m,z,_⟩:=I.loc;refine .cons (by rw[I.ok.kind];decide) hf z ?_ I.funs;exact Heap.get?_none_of_le (bI I.ok.bsz I.ok.above)
theorem Inv.stkSub (I:Inv X pins σ H s):∀b∈frs X.stack,b∈X.env.locals::X.fs:=λb hb=>by
 rcases I.ok.stk with e|⟨e,hf⟩
 .rw[e]at hb;exact bM _ hb
 .rw[e]at hb;unfold frs at hb;rw[eT,hf]at hb;exact hb
theorem Inv.stkFree (I:Inv X pins σ H s):∀b∈frs X.stack,H b=none:=λb hb=>by
 rcases aM.mp (I.stkSub b hb) with e|hb
 .rw[e];exact I.free
 .obtain⟨_,o,ho,_⟩:=I.ok.funs.mem hb;exact I.base.free b o ho (I.ok.frf b hb) λz=>I.ok.exfs b z hb
theorem Inv.step {g':Array GenState}{t':Nat}{d':Drawn}{ch:List Aj}(I:Inv X pins σ H s)
  (hch:∀b∈ch,(b∈X.ex\/X.s₀.heap.objs.size<=b)/\b≠X.env.locals/\(∀x c,X.env.cells.lookup x=some c->c≠b)/\∀p∈X.pn++pins,p.1≠b)
  (keep:∀b o,b≠X.env.locals->b∉X.fs->b∉ch->s.heap.get? b=some o->H b=none->h'.get? b=some o)
  (slot:∀b o,b≠X.env.locals->b∈X.fs->b∉ch->s.heap.get? b=some o->H b=none->∃sl,h'.get? b=some { o with slots:=sl }) (free:∀b o,b∉ch->s.heap.get? b=some o->H b=none->H' b=none)
  (there:∀b o,b∉ch->s.heap.get? b=some o->∃o',h'.get? b=some o')
  (tups:∀b xs,H b=some (.tup xs)->H' b=some (.tup xs)) (frzs:∀b o u,H b=some (.frz o u)->H' b=some (.frz o u)) (tbls:∀b ps,H b=some (.tbl ps)->∃more,H' b=some (.tbl (ps++more)))
  (ns:∀m,s.heap.Ns X.env.locals m->h'.Ns X.env.locals m) (hok:HOk X.prog X.w H' h') (hg:AllBare g') :
  Inv X pins σ H' { s with heap:=h',gens:=g',drawn:=d',toks:=t' }:=by
 have ab:∀b o,X.s₀.heap.get? b=some o->b≠X.env.locals:=λb o e=>aC (aN (ak e) I.ok.above);have Z:∀b o,X.s₀.heap.get? b=some o->b∉X.ex->b∉ch:=λb o e D J=>by
  rcases(hch b J).1 with z|z
  .exact D z
  .exact absurd (aN (ak e) z) (aW _)
 have ac:∀x c,X.env.cells.lookup x=some c->∀v,s.heap.IsCell c v->h'.IsCell c v:=λx c e v ⟨o,L,hd⟩=>by
  have U:c∉ch:=λz=>(hch c z).2.2.1 x c e rfl;by_cases hc:c∈X.fs
  .obtain⟨sl,q⟩:=slot c o (I.cne x c e) hc U L (I.freeC x c e);exact⟨_,q,hd⟩
  .exact⟨o,keep c o (I.cne x c e) hc U L (I.freeC x c e),hd⟩
 refine⟨I.ok,I.os,hg,⟨λb o e n J D=>?_,λb o e n J D=>?_,λb o e n D=>?_,λb o e D=>?_,λb xs e=>tups b xs (I.base.tups b xs e),λb o xs e=>frzs b o xs (I.base.frzs b o xs e),λb ps e=>?_⟩,?_,λx c e=>?_,?_,λx c e=>?_,λp hp=>?_,hok,I.len⟩
 .exact keep b o (ab b o e) J (Z b o e D) (I.base.keep b o e n J D) (I.base.free b o e n D)
 .obtain⟨sl,F⟩:=I.base.slot b o e n J D;obtain⟨ad,W⟩:=slot b _ (ab b o e) J (Z b o e D) F (I.base.free b o e n D);exact⟨ad,W⟩
 .obtain⟨o',F⟩:=I.base.there b o e D;exact free b o' (Z b o e D) F (I.base.free b o e n D)
 .obtain⟨o',F⟩:=I.base.there b o e D;exact there b o' (Z b o e D) F
 .obtain⟨m1,F⟩:=I.base.tbls b ps e;obtain⟨m2,W⟩:=tbls b _ F;exact⟨m1++m2,by rw[W,Array.append_assoc]⟩
 .obtain⟨m,hn,hl⟩:=I.loc;refine⟨m,ns m hn,λi x v F W e3=>?_⟩;obtain⟨u,r,l⟩:=hl i x v F W e3;refine⟨u,r,?_⟩;rcases l with l|⟨k,c,e,z⟩
  .exact .inl l
  .exact .inr ⟨k,c,e,ac x c e _ z⟩
 .obtain⟨v,z⟩:=I.cell x c e;exact⟨v,ac x c e v z⟩
 .obtain⟨m,⟨o,_,_,L,_⟩,_⟩:=I.loc;exact free _ o (λz=>(hch _ z).2.1 rfl) L I.free
 .obtain⟨v,o,L,hd⟩:=I.cell x c e;exact free c o (λz=>(hch c z).2.2.1 x c e rfl) L (I.freeC x c e)
 .obtain⟨e,n,ne,nf,d⟩:=I.pin p hp;have U:p.1∉ch:=λz=>(hch p.1 z).2.2.2 p hp rfl;exact⟨keep p.1 p.2 ne nf U e n,free p.1 p.2 U e n,ne,nf,d⟩
theorem Inv.un {t':Nat}(I:Inv X pins σ H s)(u:Un X.fs [] H H' s.heap h')(hok:HOk X.prog X.w H' h'):Inv X pins σ H' { s with heap:=h',toks:=t' }:=by
 obtain⟨m,⟨o,es,ep,J,r⟩,_⟩:=id I.loc;obtain⟨sl,W⟩:=u.any J I.free (by simp);exact I.step (g':=s.gens) (d':=s.drawn) (ch:=[]) (λ_ z=>nomatch z) (λb o _ D _ e n=>u.keep b o e n D (by simp)) (λb o _ D _ e n=>u.slot b o e n D (by simp)) (λb o _ e n=>u.free b o e n (by simp)) (λb o _ e=>u.there b o e (by simp)) u.tups u.frzs u.tbls (λm' U=>by
  obtain⟨o',Z,ab,F,L⟩:=U
  rw[J]at F;cases F
  exact⟨_,Z,ab,W,L⟩) hok I.bare
theorem Inv.call {g':Array GenState}{t':Nat}{d':Drawn}{ch:List Aj}(I:Inv X pins σ H s)(u:Un (frs X.stack) ch H H' s.heap h')(hok:HOk X.prog X.w H' h')(hg:AllBare g')
  (hch:∀b∈ch,(b∈X.ex\/X.s₀.heap.objs.size<=b)/\b≠X.env.locals/\(∀x c,X.env.cells.lookup x=some c->c≠b)/\∀p∈X.pn++pins,p.1≠b) :
  Inv X pins σ H' { s with heap:=h',gens:=g',drawn:=d',toks:=t' }:=by
 obtain⟨m,⟨o,es,ep,L,r⟩,_⟩:=id I.loc;obtain⟨sl,F⟩:=u.any L I.free λz=>(hch _ z).2.1 rfl;exact I.step (ch:=ch) hch (λb o F Z D e n=>u.keep b o e n (λz=>(aM.mp (I.stkSub b z)).elim F Z) D) (λb o _ _ D e n=>u.any e n D) (λb o D e n=>u.free b o e n D) (λb o D e=>u.there b o e D) u.tups u.frzs u.tbls (λm' W=>by
  obtain⟨o',ab,ac,J,U⟩:=W
  rw[L]at J;cases J
  exact⟨_,ab,ac,F,U⟩) hok hg
theorem Inv.turned {t':Nat}{it:Aj}(I:Inv X pins σ H s)(k:∀b o,b≠it->s.heap.get? b=some o->h'.get? b=some o)(hn:H it=none)(hL:it≠X.env.locals)
  (h1:it∈X.ex\/X.s₀.heap.objs.size<=it) (h2:∀x c,X.env.cells.lookup x=some c->c≠it) (h3:∀p∈X.pn++pins,p.1≠it):Inv X pins σ H { s with heap:=h',toks:=t' }:=by
 have F:∀b u,H b=some u->b≠it:=λb u e z=>by rw[z,hn]at e;cases e
 refine I.step (g':=s.gens) (d':=s.drawn) (ch:=[it]) (λb U=>?_) (λb o _ _ D e _=>k b o (λz=>D (by simp[z])) e) (λb o _ _ D e _=>⟨o.slots,k b o (λz=>D (by simp[z])) e⟩) (λ_ _ _ _ n=>n)
  (λb o D e=>⟨o,k b o (λz=>D (by simp[z])) e⟩) (λ_ _ e=>e) (λ_ _ _ e=>e) (λb ps e=>⟨#[],by rw[e];simp⟩) (λm L=>?_) (λb u e=>?_) I.bare
 .have e:b=it:=by simpa using U
  subst e;exact⟨h1,hL,h2,h3⟩
 .obtain⟨o,es,ep,J,r⟩:=L;exact⟨o,es,ep,k _ o (eU hL) J,r⟩
 .refine(I.hok b u e).stay (λc v D q=>k c v ?_ q) (λ_ q=>q) λ_ _ q=>q;rcases D with z|z
  .rw[z];exact F b u e
  .exact F c _ z
theorem Inv.tok (I:Inv X pins σ H s)(t:Nat):Inv X pins σ H { s with toks:=t }:=I.un (h':=s.heap) (t':=t) Un.refl I.hok
theorem Inv.kept {t':Nat}(I:Inv X pins σ H s)(k:∀b u,s.heap.get? b=some u->h'.get? b=some u):Inv X pins σ H { s with heap:=h',toks:=t' }:=I.un (Un.kept k) (I.hok.kept k)
theorem Inv.laid {a:Aj}{o:HO}{t':Nat}(I:Inv X pins σ H s)(k:∀b u,s.heap.get? b=some u->h'.get? b=some u)(hp:s.heap.objs.size<=a)(new:ObjOk X.prog X.w (upd H a o) h' a o) :
  Inv X pins σ (upd H a o) { s with heap:=h',toks:=t' }:=I.un (Un.laid k hp (I.hok.fresh hp)) (I.hok.laid k hp new)
theorem Inv.write {x e:Aj}{o:HO}{t':Nat}(I:Inv X pins σ H s)(mu:Mut (H x))(he:e=x\/H e=some (.own x))(k:∀b u,b≠e->s.heap.get? b=some u->h'.get? b=some u)(heo:∃u,h'.get? e=some u)
  (new:ObjOk X.prog X.w (upd H x o) h' x o):Inv X pins σ (upd H x o) { s with heap:=h',toks:=t' }:=I.un (Un.write mu he k heo) (I.hok.write mu he k heo new)
theorem Inv.weak {σ':List (Option V)}(I:Inv X pins σ H s)(hl:σ'.length=σ.length)(w:∀(i:Nat) v,σ'[i]?=some (some v)->σ[i]?=some (some v)):Inv X pins σ' H s :=
 ⟨I.ok,I.os,I.bare,I.base,let ⟨m,hn,hl'⟩:=I.loc;⟨m,hn,λi x v e1 e2 e3=>hl' i x v e1 (w i v e2) e3⟩,I.cell,I.free,I.freeC,I.pin,I.hok,hl.trans I.len⟩
theorem Inv.pins_of {pins':List (Aj×Obj)}(I:Inv X pins σ H s)(h:∀p∈pins',s.heap.get? p.1=some p.2/\H p.1=none/\p.1≠X.env.locals/\p.1∉X.fs/\∀v,p.2.data≠.cell v):Inv X pins' σ H s :=
 ⟨I.ok,I.os,I.bare,I.base,I.loc,I.cell,I.free,I.freeC,λp hp=>(aX.mp hp).elim (λz=>I.pin p (cy _ z)) (h p),I.hok,I.len⟩
theorem quf {N:List Str}(hN:N.Nodup){i j:Nat}{x:Str}(a:N[i]?=some x)(b:N[j]?=some x):i=j:=by obtain⟨h1,e1⟩:=al.mp a;obtain⟨h2,e2⟩:=al.mp b;exact(List.getElem_inj hN).mp (e1.trans e2.symm)
theorem _root_.aU0 (h:True:=by walk_at "iv"):True:=h
theorem wk5 {M:Model}{A:Ae}{E:Ag->Ab->Prop}{i:Nat}{x:Str}{v:V}{u:Ag}{Q:Unit->Ab->Prop}(I:Inv X pins σ H s)(hN:X.N.Nodup)(hi:X.N[i]?=some x)(hx:Loc X.env.scope x)(r:RelV v u)
  (h:∀s',Inv X pins (σ.set i (some v)) H s'->(∃a,Heap.SameBut a s.heap s'.heap/\(a=X.env.locals\/X.env.cells.lookup x=some a))->Q () s') (hf:autoParam (X.fn x=true\/X.env.scope.names.lookup x=some .local) aU0._auto_1):wpAny M A (storeName X.env x u) Q E s:=by
 obtain⟨m,hn,hl⟩:=id I.loc;have a3:(X.env.scope.kind==.class||(X.env.scope.kind==.module&&X.env.locals != X.env.globals))=false:=by rw[I.ok.kind];rfl
 have ap:i<σ.length:=by rw[I.len];exact(al.mp hi).1
 have ac:=I.cne;have ad:∀ {a:Aj} {h':Heap},(∃o,s.heap.get? a=some o/\H a=none)->Heap.SameBut a s.heap h'->HOk X.prog X.w H h':=λ{a h'} ha hs b ob e=>by
  obtain⟨_,_,as⟩:=ha;refine(I.hok b ob e).stay (λc U F q=>(hs.2 c ?_).trans q) (λ_ q=>q) λ_ _ q=>q;rintro rfl;rcases F with rfl|F
  .rw[as]at e;cases e
  .rw[as]at F;cases F
 rcases hx with hk|hk
 .refine wpAny_storeName_local hk hn (λh' a2 hs=>?_) a3;obtain⟨oL,_,_,a1,_⟩:=id hn;refine h _ ⟨I.ok,I.os,I.bare,⟨λb o e n L hx=>?_,λb o e n L hx=>?_,I.base.free,λb o e hx=>?_,I.base.tups,I.base.frzs,I.base.tbls⟩,⟨_,a2,λj y Z D J e3=>?_⟩,λy c e=>?_,I.free,I.freeC,λp hp=>?_,ad ⟨oL,a1,I.free⟩ hs,by simpa using I.len⟩ ⟨_,hs,.inl rfl⟩
  .exact(hs.2 b (aC (aN (ak e) I.ok.above))).trans (I.base.keep b o e n L hx)
  .obtain⟨sl,D⟩:=I.base.slot b o e n L hx;exact⟨sl,(hs.2 b (aC (aN (ak e) I.ok.above))).trans D⟩
  .obtain⟨o',D⟩:=I.base.there b o e hx;exact⟨o',(hs.2 b (aC (aN (ak e) I.ok.above))).trans D⟩
  .by_cases hj:j=i
   .subst hj;rw[hi]at D;cases D;rw[List.getElem?_set_self ap]at J;cases J;exact⟨u,r,.inl ⟨hk,by simp⟩⟩
   .rw[List.getElem?_set_ne (eU hj)]at J;obtain⟨u',r',q⟩:=hl j y Z D J e3;refine⟨u',r',?_⟩;rcases q with⟨k,e⟩|⟨k,c,e,z⟩
    .refine .inl ⟨k,?_⟩;have:y≠x:=λe=>hj (quf hN D (e▸hi));simp[this,e]
    .exact .inr ⟨k,c,e,z.sameBut hs (ac y c e)⟩
  .obtain⟨U,z⟩:=I.cell y c e;exact⟨U,z.sameBut hs (ac y c e)⟩
  .obtain⟨e,n,W,nf,d⟩:=I.pin p hp;exact⟨(hs.2 p.1 W).trans e,n,W,nf,d⟩
 .have ab:X.fn x=true:=by
   rcases hf with z|z
   .exact z
   .rw[z]at hk;cases hk
  obtain⟨c,F⟩:=I.ok.has x (.inl hk);obtain⟨U,z⟩:=I.cell x c F;refine wpAny_storeName_cell I.ok.kind hk F z (λh' ax hs=>?_);obtain⟨oc,an,a0⟩:=id z;refine h { s with heap:=h' } ⟨I.ok,I.os,I.bare,⟨λb o e n L hx=>?_,λb o e n L hx=>?_,I.base.free,λb o e hx=>?_,I.base.tups,I.base.frzs,I.base.tbls⟩,⟨m,hn.sameBut hs (eU (ac x c F)),λj y Z D J e3=>?_⟩,λy c' e=>?_,I.free,I.freeC,λp hp=>?_,ad ⟨oc,an,I.freeC x c F⟩ hs,by simpa using I.len⟩ ⟨c,hs,.inr F⟩
  .exact(hs.2 b (aC (aN (ak e) (I.ok.cab x c ab F)))).trans (I.base.keep b o e n L hx)
  .obtain⟨sl,D⟩:=I.base.slot b o e n L hx;exact⟨sl,(hs.2 b (aC (aN (ak e) (I.ok.cab x c ab F)))).trans D⟩
  .obtain⟨o',D⟩:=I.base.there b o e hx;exact⟨o',(hs.2 b (aC (aN (ak e) (I.ok.cab x c ab F)))).trans D⟩
  .by_cases hj:j=i
   .subst hj;rw[hi]at D;cases D;rw[List.getElem?_set_self ap]at J;cases J;exact⟨u,r,.inr ⟨.inl hk,c,F,ax⟩⟩
   .rw[List.getElem?_set_ne (eU hj)]at J;obtain⟨u',r',q⟩:=hl j y Z D J e3;refine⟨u',r',?_⟩;rcases q with q|⟨k,c',e,z'⟩
    .exact .inl q
    .refine .inr ⟨k,c',e,z'.sameBut hs ?_⟩;rintro rfl;exact hj (quf hN D (I.ok.inj _ _ _ e F▸hi))
  .by_cases hcc:c'=c
   .subst hcc;exact⟨_,ax⟩
   .obtain⟨w2,z2⟩:=I.cell y c' e;exact⟨w2,z2.sameBut hs hcc⟩
  .obtain⟨e,n,W,nf,d⟩:=I.pin p hp;refine⟨(hs.2 p.1 ?_).trans e,n,W,nf,d⟩;intro q;rw[q,an]at e;have q':oc=p.2:=av e;exact d U (by rw[<-q'];exact a0)
theorem jf {M:Model}{A:Ae}{E:Ag->Ab->Prop}{i:Nat}{x:Str}{v:V}{u:Ag}{Q:Unit->Ab->Prop}(I:Inv X pins σ H s)(hN:X.N.Nodup)(hi:X.N[i]?=some x)(hx:Loc X.env.scope x)(r:RelV v u)
  (h:∀s',Inv X pins (σ.set i (some v)) H s'->Q () s') (hf:autoParam (X.fn x=true\/X.env.scope.names.lookup x=some .local) aU0._auto_1):wpAny M A (storeName X.env x u) Q E s :=
 wk5 I hN hi hx r (λs' I' _=>h s' I') hf
theorem Inv.call' {s':Ab}{ch:List Aj}(I:Inv X pins σ H s)(ho:s'.os=s.os)(u:Un (frs X.stack) ch H H' s.heap s'.heap)(hok:HOk X.prog X.w H' s'.heap)(hg:AllBare s'.gens)
  (hch:∀b∈ch,(b∈X.ex\/X.s₀.heap.objs.size<=b)/\b≠X.env.locals/\(∀x c,X.env.cells.lookup x=some c->c≠b)/\∀p∈X.pn++pins,p.1≠b):Inv X pins σ H' s':=by
 obtain⟨h',g',d',t',o'⟩:=s';have e:o'=s.os:=ho;subst e;exact I.call (g':=g') (t':=t') (d':=d') u hok hg hch
end
abbrev XK:=Ag->Option Aj->Hp->Prop
abbrev St:=List (Option V)
abbrev VK:=V->Hp->Prop
abbrev TE:=St->Hp->VK->Prop
abbrev TT:=St->Hp->(Bool->Hp->Prop)->Prop
abbrev TA:=St->Hp->(List V->Hp->Prop)->Prop
structure Ends where
 nx:St->Hp->Prop
 rt:VK
 bk:St->Hp->Prop:=λ_ _=>False
 ct:St->Hp->Prop:=λ_ _=>False
abbrev TS:=Ends->St->Hp->Prop
def EP (X:Cx)(pins:List (Aj×Obj))(σ:St)(Q:VK)(u:Ag)(s':Ab):Prop:=∃v H',Inv X pins σ H' s'/\RelV v u/\Q v H'
def TP (X:Cx)(pins:List (Aj×Obj))(σ:St)(Q:Bool->Hp->Prop)(b:Bool)(s':Ab):Prop:=∃H',Inv X pins σ H' s'/\Q b H'
def AP (X:Cx)(pins:List (Aj×Obj))(σ:St)(Q:List V->Hp->Prop)(us:List Ag)(s':Ab):Prop:=∃vs H',Inv X pins σ H' s'/\Vals vs us/\Q vs H'
def SP (X:Cx)(pins:List (Aj×Obj))(D:Ends)(f:Flow)(s':Ab):Prop :=
 match f with
 |.next=>∃σ' H',Inv X pins σ' H' s'/\D.nx σ' H'
 |.brk=>∃σ' H',Inv X pins σ' H' s'/\D.bk σ' H'
 |.cont=>∃σ' H',Inv X pins σ' H' s'/\D.ct σ' H'
 |.ret u=>∃v σ' H',Inv X pins σ' H' s'/\RelV v u/\D.rt v H'
def PE (X:Cx)(e:Expr)(t:TE):Prop :=
 ∀(pins:List (Aj×Obj)) (s:Ab) (σ:St) (H:Hp) (Q:VK),Inv X pins σ H s->t σ H Q->wpAny (model X.prog X.w) X.A (eval e X.env) (EP X pins σ Q) X.xe s
def PT (X:Cx)(e:Expr)(t:TT):Prop :=
 ∀(pins:List (Aj×Obj)) (s:Ab) (σ:St) (H:Hp) (Q:Bool->Hp->Prop),Inv X pins σ H s->t σ H Q->wpAny (model X.prog X.w) X.A (isTrue e X.env (eval e X.env)) (TP X pins σ Q) X.xe s
def PW (X:Cx)(e:Expr)(t:TT):Prop :=
 ∀(whole:Sem Ag) (pins:List (Aj×Obj)) (s:Ab) (σ:St) (H:Hp) (Q:Bool->Hp->Prop),Inv X pins σ H s->t σ H Q->wpAny (model X.prog X.w) X.A (isTrue e X.env whole) (TP X pins σ Q) X.xe s
theorem PW.pt {X:Cx}{e:Expr}{t:TT}(h:PW X e t):PT X e t:=h _
def PA (X:Cx)(es:List Expr)(t:TA):Prop :=
 ∀(pos:Pos) (pins:List (Aj×Obj)) (s:Ab) (σ:St) (H:Hp) (Q:List V->Hp->Prop),Inv X pins σ H s->t σ H Q->wpAny (model X.prog X.w) X.A (spliced (backTo pos (starEach es X.env))) (AP X pins σ Q) X.xe s
def PS (X:Cx)(st:Stmt)(t:TS):Prop :=
 ∀(pins:List (Aj×Obj)) (s:Ab) (σ:St) (H:Hp) (D:Ends),Inv X pins σ H s->t D σ H->wpAny (model X.prog X.w) X.A (exec st X.env) (SP X pins D) X.xe s
def PSs (X:Cx)(st:List Stmt)(t:TS):Prop :=
 ∀(pins:List (Aj×Obj)) (s:Ab) (σ:St) (H:Hp) (D:Ends),Inv X pins σ H s->t D σ H->wpAny (model X.prog X.w) X.A (execs st X.env) (SP X pins D) X.xe s
theorem thn {α:Type}{t:Sem α}{Q Q':α->Ab->Prop}{M:Model}{A:Ae}{E:Ag->Ab->Prop}{s:Ab}(h:wpAny M A t Q E s)(hQ:∀a s,Q a s->Q' a s):wpAny M A t Q' E s:=aO h hQ λ_ _ x=>x
section
variable {X:Cx}
def j5 (i:Nat):TE:=λσ H Q=>∃v,σ[i]?=some (some v)/\Q v H
def tC (v:V):TE:=λ_ H Q=>Q v H
theorem _root_.aU1 (h:True:=by decide):True:=h
theorem pe_var {i:Nat}{x:Str}{pos:Pos}(hN:X.N[i]?=some x)(hv:Vis X.env.scope x)(hd:autoParam ((x==("__debug__" : Str))=false) aU1._auto_1)(hcd:autoParam ((x==("__classdict__" : Str))=false) aU1._auto_1):PE X (.Name x pos) (j5 i):=by
 intro pins s σ H Q I h;obtain⟨v,e,h⟩:=h;obtain⟨m,L,W⟩:=I.loc;obtain⟨u,r,l⟩:=W i x v hN e hv;have D:EP X pins σ Q u s:=⟨v,H,I,r,h⟩;rcases l with⟨z,U⟩|⟨z,c,J,F⟩
 .exact wpAny_Name (wpAny_loadName_local I.ok.kind z L U D) hd
 .rcases z with z|z
  .exact wpAny_Name (wpAny_loadName_cell I.ok.kind z J F D) hd
  .exact wpAny_Name (wpAny_loadName_free I.ok.kind z J F D hcd) hd
theorem qb {i j pos}:PE X (.Constant (.int i) j pos) (tC (.int i)):=λ_ _ _ H _ I h=>wpAny_Constant_int ⟨.int i,H,I.tok _,⟨_,rfl⟩,h⟩
theorem Yb {b j pos}:PE X (.Constant (.bool b) j pos) (tC (.bl b)):=λ_ _ _ H _ I h=>Constant_bool ⟨.bl b,H,I,rfl,h⟩
theorem qzu {j pos}:PE X (.Constant .none j pos) (tC .non):=λ_ _ _ H _ I h=>Constant_none ⟨.non,H,I,rfl,h⟩
theorem Wz {x j pos}:PE X (.Constant (.str x) j pos) (tC (.str x)):=λ_ _ _ H _ I h=>Calls.Constant_str ⟨.str x,H,I.tok _,⟨_,rfl⟩,h⟩
def Gl (X:Cx)(x:Str):Prop:=X.env.kindOf x=some .globalImplicit
theorem Yd {E:Ag->Ab->Prop}{pins:List (Aj×Obj)}{s:Ab}{σ:St}{H:Hp}{x:Str}{u:Ag}{pos:Pos}{Q:Ag->Ab->Prop}(I:Inv X pins σ H s)(hg:Gl X x)(hm:X.mg x=some u)(h:Q u s)
  (hd:autoParam ((x==("__debug__" : Str))=false) aU1._auto_1):wpAny (model X.prog X.w) X.A (eval (.Name x pos) X.env) Q E s :=
 Calls.Name_function_global I.ok.kind hg (Calls.loadGlobal_global (by rw[I.ok.glob];exact I.mod.glob.keeps I.bk) hm h) hd
theorem _root_.aU2 (h:True:= by decide):True:=h
theorem yb {E:Ag->Ab->Prop}{pins:List (Aj×Obj)}{s:Ab}{σ:St}{H:Hp}{x:Str}{u:Ag}{pos:Pos}{Q:Ag->Ab->Prop}(I:Inv X pins σ H s)(hg:Gl X x)(hm:X.mg x=none)(hv:bootBuiltins x=some u)(h:Q u s)
  (hn:autoParam (x ≠ "__name__") aU2._auto_1) (hd:autoParam ((x==("__debug__" : Str))=false) aU1._auto_1):wpAny (model X.prog X.w) X.A (eval (.Name x pos) X.env) Q E s:=by
 obtain⟨mb,h1,h2⟩:=I.mod.blt;exact Calls.Name_function_global I.ok.kind hg (Calls.loadGlobal_builtin (by rw[I.ok.glob];exact I.mod.glob.keeps I.bk) hm (by rw[I.ok.blt];exact h1.keeps I.bk) ((h2 x hn).trans hv) h) hd
theorem uw {x:Str}{v:V}{u:Ag}{pos:Pos}(hg:Gl X x)(hm:X.mg x=some u)(r:RelV v u)(hd:autoParam ((x==("__debug__" : Str))=false) aU1._auto_1):PE X (.Name x pos) (tC v) :=
 λ_ _ _ H _ I h=>Yd I hg hm ⟨v,H,I,r,h⟩ hd
theorem Z3 {x:Str}{v:V}{u:Ag}{pos:Pos}(hg:Gl X x)(hm:X.mg x=none)(hv:bootBuiltins x=some u)(r:RelV v u)(hn:autoParam (x ≠ "__name__") aU2._auto_1)(hd:autoParam ((x==("__debug__" : Str))=false) aU1._auto_1):PE X (.Name x pos) (tC v) :=
 λ_ _ _ H _ I h=>yb I hg hm hv ⟨v,H,I,r,h⟩ hn hd
variable {a b:Expr}{ta tb:TE}{pos:Pos}
def PC (X:Cx)(op:CmpOp)(a b:Expr)(t:TE):Prop :=
 ∀(pins:List (Aj×Obj)) (s:Ab) (σ:St) (H:Hp) (Q:VK),Inv X pins σ H s->t σ H Q ->
  wpAny (model X.prog X.w) X.A (eval a X.env) (λv s₁=>wpAny (model X.prog X.w) X.A (eval b X.env) (λu s₂=>wpAny (model X.prog X.w) X.A (compareOp op v u) (EP X pins σ Q) X.xe s₂) X.xe s₁) X.xe s
def tB (t:TE):TT:=λσ H Q=>t σ H λx H1=>∃c,x=.bl c/\Q c H1
theorem pt_cmp {op:CmpOp}{t:TE}(h:PC X op a b t)(h1:behindInMarks op b=false:=by first | exact nobehind _ ⋯ ⋯ | rfl):PT X (.Compare a [op] [b] pos) (tB t):=by intro pins s σ H Q I z;refine wpAny_isTrue_Compare1 (thn (h pins s σ H _ I z) λv D h1=>thn h1 λu s2 h2=>thn h2 λc s3 ⟨x,H1,I1,r1,q1⟩=>?_) h1;obtain⟨d,rfl,q⟩:=q1;cases r1;exact cZ ⟨H1,I1,q⟩
theorem _root_.aU3 (h:True:=by intro _;rfl):True:=h
theorem yf {e:Expr}{t:TE}(h:PE X e t)(he:autoParam (∀whole,isTrue e X.env whole=(do let v <-whole;standAt e.pos;holding [v] (truthy v))) aU3._auto_1):PT X e (tB t):=by intro pins s σ H Q I z;refine isTrue_plain (thn (h pins s σ H _ I z) λv s1 ⟨x,H1,I1,r1,q1⟩=>?_) (he _);obtain⟨d,rfl,q⟩:=q1;cases r1;exact cZ ⟨H1,I1,q⟩
variable {tA tB':TT}{rest:List Expr}
def tAnd (t u:TT):TT:=λσ H Q=>t σ H λc H1=>if c=true then u σ H1 Q else Q false H1
def tOr (t u:TT):TT:=λσ H Q=>t σ H λc H1=>if c=true then Q true H1 else u σ H1 Q
def tNot (t:TT):TT:=λσ H Q=>t σ H λc H1=>Q (!c) H1
theorem wkt (ha:PT X a tA):PW X (.BoolOp .And [a] pos) tA:=by
 intro z pins s σ H Q I h;refine isTrue_and (thn (ha pins s σ H Q I h) λc D e=>?_);cases c with
 |true=>exact isTrue_and_nil e
 |false=>exact e
theorem uj (ha:PT X a tA):PW X (.BoolOp .Or [a] pos) tA:=by
 intro z pins s σ H Q I h;refine isTrue_or (thn (ha pins s σ H Q I h) λc D e=>?_);cases c with
 |false=>exact isTrue_or_nil e
 |true=>exact e
theorem wu2 (ha:PT X a tA)(hb:PW X (.BoolOp .And (b::rest) pos) tB'):PW X (.BoolOp .And (a::b::rest) pos) (tAnd tA tB'):=by
 intro z pins s σ H Q I h;refine isTrue_and (thn (ha pins s σ H _ I h) λc s1 ⟨H1,I1,q1⟩=>?_);cases c with
 |true=>exact hb z pins s1 σ H1 Q I1 q1
 |false=>exact⟨H1,I1,q1⟩
theorem Wq (ha:PT X a tA)(hb:PW X (.BoolOp .Or (b::rest) pos) tB'):PW X (.BoolOp .Or (a::b::rest) pos) (tOr tA tB'):=by
 intro z pins s σ H Q I h;refine isTrue_or (thn (ha pins s σ H _ I h) λc s1 ⟨H1,I1,q1⟩=>?_);cases c with
 |true=>exact⟨H1,I1,q1⟩
 |false=>exact hb z pins s1 σ H1 Q I1 q1
theorem yq (ha:PT X a tA):PT X (.UnaryOp .Not a pos) (tNot tA):=by intro pins s σ H Q I h;exact isTrue_not (ha pins s σ H (λc H1=>Q (!c) H1) I h)
def tAndV (ta tb:TE):TE:=λσ H Q=>ta σ H λx H1=>∃c,x=.bl c/\if c=true then tb σ H1 Q else Q (.bl false) H1
def tNotV (ta:TE):TE:=λσ H Q=>ta σ H λx H1=>∃c,x=.bl c/\Q (.bl (!c)) H1
theorem Ym {op}{t:TE}(h:PE X a t):PE X (.BoolOp op [a] pos) t:=λpins s σ H Q I hw=>BoolOp_one (h pins s σ H Q I hw)
theorem Y4 (ha:PE X a ta)(hb:PE X (.BoolOp .And (b::rest) pos) tb):PE X (.BoolOp .And (a::b::rest) pos) (tAndV ta tb):=by
 intro pins s σ H Q I h;refine BoolOp_and (thn (ha pins s σ H _ I h) λv s1 ⟨x,H1,I1,r1,z⟩=>?_);obtain⟨c,rfl,z⟩:=z;cases r1;refine cZ ?_;cases c with
 |true=>exact hb pins s1 σ H1 Q I1 z
 |false=>exact⟨.bl false,H1,I1,rfl,z⟩
theorem pe_not (ha:PE X a ta):PE X (.UnaryOp .Not a pos) (tNotV ta):=by intro pins s σ H Q I h;refine UnaryOp_ (thn (ha pins s σ H _ I h) λv s1 ⟨x,H1,I1,r1,z⟩=>?_);obtain⟨c,rfl,z⟩:=z;cases r1;exact not_of (cZ ⟨.bl (!c),H1,I1,rfl,z⟩)
def tIf (t:TT)(ta tb:TE):TE:=λσ H Q=>t σ H λc H1=>if c=true then ta σ H1 Q else tb σ H1 Q
theorem qzz {c:Expr}(hc:PT X c tA)(ha:PE X a ta)(hb:PE X b tb):PE X (.IfExp c a b pos) (tIf tA ta tb):=by
 intro pins s σ H Q I h;refine wpAny_IfExp (thn (hc pins s σ H _ I h) λd s1 ⟨H1,I1,q1⟩=>?_);cases d with
 |true=>exact ha pins s1 σ H1 Q I1 q1
 |false=>exact hb pins s1 σ H1 Q I1 q1
end
def SqL (K:Aa)(H:Hp)(a:Aj)(xs:List V):Prop :=
 Rd H a (.lst xs) \/
  ∃(o:Obj) (its:Array Ag) (n:Nat),K.lookup a=some o/\o.cls=.type "list" /\ o.dict=none/\o.data=.seq its n/\its.size<=sizeLine/\Vals xs its.toList
def SqT (K:Aa)(H:Hp)(a:Aj)(xs:List V):Prop :=
 Rd H a (.tup xs) \/
  ∃(o:Obj) (its:Array Ag) (n:Nat),K.lookup a=some o/\o.cls=.type "tuple" /\ o.data=.seq its n/\its.size<=sizeLine/\Vals xs its.toList
def absV:Ag->Option V
 |.none=>some .non
 |.bool b=>some (.bl b)
 |.int i _=>some (.int i)
 |.str x _=>some (.str x)
 |.bytes b _=>some (.byt b)
 |.float b _=>some (.flt b)
 |.ref a=>some (.ref a)
 |.type n=>some (.ty n)
 |_=>none
theorem RelV.abs {x:V}{u:Ag}(r:RelV x u):absV u=some x:=by
 cases x with
 |non=>cases r;rfl
 |bl _=>cases r;rfl
 |int _=>obtain⟨t,rfl⟩:=r;rfl
 |str _=>obtain⟨t,rfl⟩:=r;rfl
 |byt _=>obtain⟨t,rfl⟩:=r;rfl
 |flt _=>obtain⟨t,rfl⟩:=r;rfl
 |ref _=>cases r;rfl
 |ty _=>cases r;rfl
theorem RelV.inj {x y:V}{u:Ag}(r:RelV x u)(q:RelV y u):x=y:=av (r.abs.symm.trans q.abs)
theorem Vals.inj:∀ {xs ys:List V} {us:List Ag},Vals xs us->Vals ys us->xs=ys
 |_,_,_,.nil,.nil=>rfl
 |_,_,_,.cons r t,.cons r' t'=>by rw[r.inj r',Vals.inj t t']
section
variable {X:Cx}{pins:List (Aj×Obj)}{σ:St}{H:Hp}{s:Ab}{a:Aj}{xs ys:List V}
theorem SqL.of {K:Aa}(h:H a=some (.lst xs)):SqL K H a xs:=.inl (.inl h)
theorem SqT.of {K:Aa}(h:H a=some (.tup xs)):SqT K H a xs:=.inl (.inl h)
theorem Inv.list (I:Inv X pins σ H s)(h:SqL X.K H a xs):∃its:List Ag,Vals xs its/\PlainL s.heap a its.toArray/\xs.length<=sizeLine:=by
 rcases h with h|⟨o,its,n,hk,hc,hd,hs,hz,r⟩
 .obtain⟨z,its,n,r,e⟩:=h.ok I.hok;exact⟨its,r,⟨_,n,e,rfl,rfl,rfl⟩,z⟩
 .refine⟨its.toList,r,⟨o,n,I.kIn a o hk,hc,hd,by simpa using hs⟩,?_⟩;have e:=r.length;simp only[aV]at e;lia
theorem Inv.tuple (I:Inv X pins σ H s)(h:SqT X.K H a xs):∃its:List Ag,Vals xs its/\IsTup s.heap a its.toArray/\xs.length<=sizeLine:=by
 rcases h with h|⟨o,its,n,hk,hc,hs,hz,r⟩
 .obtain⟨z,its,r,p⟩:=h.ok I.hok;exact⟨its,r,p,z⟩
 .refine⟨its.toList,r,⟨o,I.kIn a o hk,hc,n,by simpa using hs⟩,?_⟩;have e:=r.length;simp only[aV]at e;lia
theorem Inv.list_inj (I:Inv X pins σ H s)(h:SqL X.K H a xs)(h':SqL X.K H a ys):xs=ys:=by
 obtain⟨L,r,⟨o,n,e,_,_,d⟩,_⟩:=I.list h;obtain⟨J,F,⟨o',U,z,_,_,D⟩,_⟩:=I.list h';rw[e]at z;cases z;rw[d]at D;injection D with d1 _;have:L=J:=by simpa using bV Array.toList d1
 subst this;exact r.inj F
theorem Inv.tuple_inj (I:Inv X pins σ H s)(h:SqT X.K H a xs)(h':SqT X.K H a ys):xs=ys:=by
 obtain⟨L,r,⟨o,e,_,n,d⟩,_⟩:=I.tuple h;obtain⟨J,F,⟨o',z,_,U,D⟩,_⟩:=I.tuple h';rw[e]at z;cases z;rw[d]at D;injection D with d1 _;have:L=J:=by simpa using bV Array.toList d1
 subst this;exact r.inj F
end
abbrev Cx.wish (X:Cx)(E:Ag->Ab->Prop):Cx:={ X with xe:=E }
section
variable {X:Cx}{pins:List (Aj×Obj)}{σ:St}{H:Hp}{s:Ab}{E:Ag->Ab->Prop}
end
section
variable {X:Cx}{st:Stmt}{rest:List Stmt}{t u:TS}{e:Expr}{te:TE}{pos:Pos}
def tNext:TS:=λD σ H=>D.nx σ H
def tSeq (t u:TS):TS:=λD σ H=>t { D with nx:=u D } σ H
theorem xu:PSs X [] tNext:=λ_ _ σ H _ I h=>h9 ⟨σ,H,I,h⟩
theorem qj (h1:PS X st t)(h2:PSs X rest u):PSs X (st::rest) (tSeq t u):=by
 intro pins s σ H D I h;refine ja (thn (h1 pins s σ H { D with nx:=u D } I h) λf F q=>?_);cases f with
 |next =>
  obtain⟨z,H',J,q⟩:=q;exact h2 pins F z H' D J q
 |ret v=>exact q
 |brk=>exact q
 |cont=>exact q
theorem qh (h1:PS X st t):PSs X [st] t:=by
 intro pins s σ H D I h;refine ja (thn (h1 pins s σ H D I h) λf s1 q=>?_);cases f with
 |next=>exact h9 q
 |ret v=>exact q
 |brk=>exact q
 |cont=>exact q
theorem Inv.quiet {pins:List (Aj×Obj)}{σ:St}{H:Hp}{s:Ab}(I:Inv X pins σ H s):interactive X.env=false:=by simp[interactive,I.ok.kind]
def tDrop (te:TE):TS:=λD σ H=>te σ H λ_ H1=>D.nx σ H1
theorem _root_.aU4 (h:True:=by rfl):True:=h
theorem vn (he:PE X e te)(hs:autoParam (swapsWith e none pos.line X.env=pure false) aU4._auto_1):PS X (.Expr e pos) (tDrop te):=by intro pins s σ H D I h;exact wpAny_Expr_any (thn (he pins s σ H _ I h) λv s1 ⟨x,H1,I1,r1,q1⟩=>⟨σ,H1,I1,q1⟩) I.quiet hs
def tRet (te:TE):TS:=λD σ H=>te σ H D.rt
theorem wy (he:PE X e te):PS X (.Return (some e) pos) (tRet te):=by intro pins s σ H D I h;exact wpAny_Return_some (thn (he pins s σ H _ I h) λv s1 ⟨x,H1,I1,r1,q1⟩=>⟨x,σ,H1,I1,r1,q1⟩)
def tIfS (c:TT)(t u:TS):TS:=λD σ H=>c σ H λb H1=>if b=true then t D σ H1 else u D σ H1
theorem zd {c:Expr}{a b:List Stmt}{tc:TT}(hc:PT X c tc)(ha:PSs X a t)(hb:PSs X b u):PS X (.If c a b pos) (tIfS tc t u):=by
 intro pins s σ H D I h;refine wpAny_If (thn (hc pins s σ H _ I h) λd s1 ⟨H1,I1,q1⟩=>?_);cases d with
 |true=>exact ha pins s1 σ H1 D I1 q1
 |false=>exact hb pins s1 σ H1 D I1 q1
end
abbrev TG:=V->St->Hp->(St->Hp->Prop)->Prop
abbrev TGs:=List V->St->Hp->(St->Hp->Prop)->Prop
def PG (X:Cx)(target:Expr)(t:TG):Prop :=
 ∀(pins:List (Aj×Obj)) (s:Ab) (σ:St) (H:Hp) (v:V) (u:Ag) (Q:St->Hp->Prop),Inv X pins σ H s->RelV v u->t v σ H Q ->
  wpAny (model X.prog X.w) X.A (assign target X.env u) (λ_ s'=>∃σ' H',Inv X pins σ' H' s'/\Q σ' H') X.xe s
def PGs (X:Cx)(ts:List Expr)(t:TGs):Prop :=
 ∀(pins:List (Aj×Obj)) (s:Ab) (σ:St) (H:Hp) (vs:List V) (us:List Ag) (Q:St->Hp->Prop),Inv X pins σ H s->Vals vs us->t vs σ H Q ->
  wpAny (model X.prog X.w) X.A (assignInOrder ((assignEach ts X.env).map (·.2)) us) (λ_ s'=>∃σ' H',Inv X pins σ' H' s'/\Q σ' H') X.xe s
abbrev TIp:=V->V->Hp->VK->Prop
def PIp (X:Cx)(op:Operator)(t:TIp):Prop :=
 ∀(pins:List (Aj×Obj)) (s:Ab) (σ:St) (H:Hp) (x y:V) (v u:Ag) (Q:VK),Inv X pins σ H s->RelV x v->RelV y u->t x y H Q ->
  wpAny (model X.prog X.w) X.A (inplaceOp op v u) (EP X pins σ Q) X.xe s
section
variable {X:Cx}{pos:Pos}
def W9 (i:Nat):TG:=λv σ H Q=>Q (σ.set i (some v)) H
theorem _root_.aU5 (h:True:=by walk_at "loc"):True:=h
theorem _root_.aU6 (h:True:=by exact FnScope.nd (by assumption)):True:=h
theorem wn {i:Nat}{x:Str}(hN:autoParam (X.N.Nodup) aU6._auto_1)(hi:autoParam (X.N[i]?=some x) aU4._auto_1)(hx:autoParam (Loc X.env.scope x) aU5._auto_1)(hf:autoParam (X.fn x=true\/X.env.scope.names.lookup x=some .local) aU0._auto_1):PG X (.Name x pos) (W9 i):=by intro pins s σ H v u Q I r h;exact gC (jf I hN hi hx r (λs' z=>⟨_,H,z,h⟩) hf)
def gNil:TGs:=λvs σ H Q=>vs=[]/\Q σ H
def xxw (t:TG)(u:TGs):TGs:=λvs σ H Q=>∃v r,vs=v::r/\t v σ H λσ' H'=>u r σ' H' Q
theorem vj:PGs X [] gNil:=by intro pins s σ H vs us Q I r h;obtain⟨e,h⟩:=h;subst e;cases r;exact assignInOrder_nil ⟨σ,H,I,h⟩
theorem xk {e:Expr}{es:List Expr}{t:TG}{u:TGs}(h1:PG X e t)(h2:PGs X es u)
  (hs:autoParam ((assignEach (e::es) X.env).map (·.2)=assign e X.env::(assignEach es X.env).map (·.2)) aU4._auto_1):PGs X (e::es) (xxw t u):=by
 intro pins s σ H vs F Q I r h;obtain⟨v,D,z,h⟩:=h;subst z;cases r with
 |cons r rr =>
  rw[hs];refine iB (thn (h1 pins s σ H _ _ _ I r h) λ_ s1 ⟨σ1,H1,I1,q1⟩=>?_);exact h2 pins s1 σ1 H1 _ _ Q I1 rr q1
def gTup (K:Aa)(n:Nat)(t:TGs):TG:=λv σ H Q=>∃a xs,v=.ref a/\SqT K H a xs/\xs.length=n/\t xs σ H Q
theorem kg {es:List Expr}{k:Nat}{t:TGs}{n:Nat}(hc:X.calm=true)(h:PGs X es t)
  (hn:autoParam ((assignEach es X.env).length=n) aU4._auto_1) (hst:autoParam ((assignEach es X.env).findIdx? (·.1)=none) aU4._auto_1):PG X (.Tuple es k pos) (gTup X.K n t):=by
 intro pins s σ H v u Q I r z;obtain⟨a,xs,W,L,U,z⟩:=z;subst W;cases r;obtain⟨ab,D,J,hz⟩:=I.tuple L;refine assign_Tuple_tuple (I.ok.hd hc) J (by simp[hn,<-U,D.length]) hst λh' F=>?_;have Z:Inv X pins σ H { s with heap:=h' }:=I.kept (t':=s.toks) λb o e=>F b o (aC (ak e)) e;exact h pins _ σ H xs _ Q Z (by simpa using D) z
def tAsg (te:TE)(g:TG):TS:=λD σ H=>te σ H λx H1=>g x σ H1 D.nx
theorem jz {tg e:Expr}{te:TE}{g:TG}(he:PE X e te)(hg:PG X tg g)(hs:autoParam (swapsWithSole [tg] e pos.line X.env=pure false) aU4._auto_1)(hw:autoParam (swappedStores [tg] e X.env=pure none) aU4._auto_1)
  (h1:autoParam ((assignEach [tg] X.env).map (·.2)=[assign tg X.env]) aU4._auto_1):PS X (.Assign [tg] e pos) (tAsg te g):=by
 intro pins s σ H D I h;refine wpAny_Assign_stores (thn (he pins s σ H _ I h) λv s1 ⟨x,H1,I1,r1,q1⟩=>?_) hs hw;rw[h1];exact thn (hg pins s1 σ H1 x v _ I1 r1 q1) λ_ s2 q=>q
theorem wu {i:Nat}{x:Str}{e:Expr}{te:TE}{pos':Pos}(he:PE X e te)(hN:autoParam (X.N.Nodup) aU6._auto_1)(hi:autoParam (X.N[i]?=some x) aU4._auto_1)(hx:autoParam (Loc X.env.scope x) aU5._auto_1)(hs:autoParam (swapsWith e (some (.Name x pos')) pos.line X.env=pure false) aU4._auto_1)(hf:autoParam (X.fn x=true\/X.env.scope.names.lookup x=some .local) aU0._auto_1) :
  PS X (.Assign [.Name x pos'] e pos) (tAsg te (W9 i)):=by
 intro pins s σ H D I h;refine wpAny_Assign_Name (thn (he pins s σ H _ I h) λv s1 ⟨y,H1,I1,r1,q1⟩=>?_) hs;exact jf I1 hN hi hx r1 (λs2 z=>⟨_,H1,z,q1⟩) hf
def tPar (i j:Nat)(ta:TA):TS:=λD σ H=>ta σ H λvs H1=>∃v w,vs=[v,w]/\D.nx ((σ.set i (some v)).set j (some w)) H1
theorem wuv {i j:Nat}{x y:Str}{a b:Expr}{ta:TA}{px py pt:Pos}{kt k2 pt2}(hc:X.calm=true)(hN:X.N.Nodup)(hi:X.N[i]?=some x)(hj:X.N[j]?=some y)(hij:i≠j)
  (hx:X.env.scope.names.lookup x=some .local) (hy:X.env.scope.names.lookup y=some .local) (ha:PA X [a,b] ta)
  (hw:swappedStores [.Tuple [.Name x px,.Name y py] kt pt] (.Tuple [a,b] k2 pt2) X.env=pure (some [x,y]))
  (hs:autoParam (swapsWithSole [.Tuple [.Name x px,.Name y py] kt pt] (.Tuple [a,b] k2 pt2) pos.line X.env=pure false) aU4._auto_1) :
  PS X (.Assign [.Tuple [.Name x px,.Name y py] kt pt] (.Tuple [a,b] k2 pt2) pos) (tPar i j ta):=by
 intro pins s σ H D I h;rw[exec_Assign_arm];refine aa (cB ?_);rw[hs];refine aa (ai ?_);rw[ar ⋯];refine aa (Tuple_ (thn (ha _ pins s σ H _ I h) λus s1 ⟨vs,H1,I1,r1,z⟩=>?_));obtain⟨v,w,W,z⟩:=z;subst W;obtain⟨u1,u2,rfl,L,J⟩:∃u1 u2,us=[u1,u2]/\RelV v u1/\RelV w u2:=by
  cases r1 with
  |cons p q =>
   cases q with
   |cons p' q' =>
    cases q';exact⟨_,_,rfl,p,p'⟩
 refine bW ?_ (by show 2<=sizeLine;decide);have I2:Inv X pins σ H1 { s1 with heap:=s1.heap.push { cls:=.type "tuple",data:=.seq [u1,u2].toArray } }:=I1.kept (t':=s1.toks) λb o e=>ah _ e;rw[hw];refine aa (ai ?_);show wpAny (model X.prog X.w) X.A (do rule "assign.swapped-stores";let items <-unpackItems (.ref s1.heap.objs.size) 2 none;assignInOrder [λv=>bindName X.env y v,λv=>bindName X.env x v] items.reverse;pure Flow.next) _ _ _;refine aa (dA (aa (unpackItems_tuple (items:=#[u1,u2]) (I.ok.hd hc) (IsTup.new s1.heap _) λh' U=>?_)));have I3:=I2.kept (h':=h') (t':=s1.toks) λb o e=>U b o (aC (ak e)) e;show wpAny _ _ (assignInOrder [λv=>bindName X.env y v,λv=>bindName X.env x v] [u2,u1] >>= λ_=>pure Flow.next) _ _ _;refine aa (iB (wpAny_bindName (jf I3 hN hj (.inl hy) J (λs2 Z=>?_) (.inr hy))));refine iB (wpAny_bindName (jf Z hN hi (.inl hx) L (λs3 F=>assignInOrder_nil (ai ?_)) (.inr hx)));rw[List.set_comm _ _ (eU hij)]at F;exact⟨_,H1,F,z⟩
def tAug (i:Nat)(te:TE)(ti:TIp):TS:=λD σ H=>∃x,σ[i]?=some (some x)/\te σ H λy H1=>ti x y H1 λz H2=>D.nx (σ.set i (some z)) H2
theorem xqx {i:Nat}{x:Str}{e:Expr}{te:TE}{op:Operator}{ti:TIp}{pos':Pos}(hN:X.N.Nodup)(hi:X.N[i]?=some x)(hx:Loc X.env.scope x)(he:PE X e te)(ho:PIp X op ti)(hf:autoParam (X.fn x=true\/X.env.scope.names.lookup x=some .local) aU0._auto_1) :
  PS X (.AugAssign (.Name x pos') op e pos) (tAug i te ti):=by
 intro pins s σ H D I h;obtain⟨v,e1,h⟩:=h;obtain⟨m,Z,hl⟩:=I.loc;have L:Vis X.env.scope x:=by rcases hx with k|k;exact .inl k;exact .inr (.inl k)
 obtain⟨u,r,l⟩:=hl i x v hi e1 L;refine wpAny_AugAssign_Name ?_;have J:wpAny (model X.prog X.w) X.A (eval e X.env) (λw W=>wpAny (model X.prog X.w) X.A (inplaceOp op u w) (λr U=>wpAny (model X.prog X.w) X.A (storeName X.env x r) (λ_=>SP X pins D .next) X.xe U) X.xe W) X.xe s:=by refine thn (he pins s σ H _ I h) λw s1 ⟨y,H1,I1,r1,q1⟩=>?_;refine thn (ho pins s1 σ H1 v y u w _ I1 r r1 q1) λz s2 ⟨zv,H2,I2,r2,q2⟩=>?_;exact jf I2 hN hi hx r2 (λs3 I3=>⟨_,H2,I3,q2⟩) hf
 rcases l with⟨F,hm⟩|⟨F,c,hc,ab⟩
 .exact wpAny_loadName_local I.ok.kind F Z hm J
 .rcases F with F|F
  .exact wpAny_loadName_cell I.ok.kind F hc ab J
  .rcases hx with k|k
   .have:X.env.scope.names.lookup x=some .free:=F;rw[k]at this;cases this
   .have:X.env.scope.names.lookup x=some .free:=F;rw[k]at this;cases this
def ipI (f:Int->Int->Int):TIp:=λx y H Q=>∃i j,x=.int i/\y=.int j/\Q (.int (f i j)) H
theorem ip_add:PIp X .Add (ipI λi j=>i+j):=by intro pins s σ H x y v u Q I D z h;obtain⟨i,j,J,F,q⟩:=h;subst J;subst F;obtain⟨t,rfl⟩:=D;obtain⟨L,rfl⟩:=z;exact iadd_int ⟨.int _,H,I.tok _,⟨_,rfl⟩,q⟩
end
section
variable {X:Cx}{pos:Pos}
def wxj (c:TT)(tb:TS):TS:=λD σ H=>∃W:Nat->St->Hp->Prop,(∃m,W m σ H)/\∀m σ H,W m σ H ->
 c σ H λb H1=>if b=true then ∃N:St->Hp->Prop,(∀σ' H',N σ' H'->∃m',m'<m/\W m' σ' H')/\tb { D with nx:=N,ct:=N,bk:=D.nx } σ H1 else D.nx σ H1
theorem ug {c:Expr}{body:List Stmt}{tc:TT}{tb:TS}(hp:PassesOwn (model X.prog X.w) X.A X.env X.xe)(hc:PT X c tc)(hb:PSs X body tb):PS X (.While c body [] pos) (wxj tc tb):=by
 intro pins s σ H D I h;obtain⟨W,⟨m0,w0⟩,ab⟩:=h;refine wpAny_While (codeAny_whileLoop (λn s'=>∃σ' H',Inv X pins σ' H' s'/\W n σ' H') ?_ m0 ⟨σ,H,I,w0⟩);rintro n s1 ⟨σ1,H1,I1,w1⟩;refine eE hp (thn (hc pins s1 σ1 H1 _ I1 (ab n σ1 H1 w1)) λb s2 ⟨H2,I2,L⟩=>?_);cases b with
 |true =>
  obtain⟨N,hN,L⟩:=L;rw[ay rfl];refine eE hp (thn (hb pins s2 σ1 H2 _ I2 L) λf s3 J=>?_);cases f with
  |next =>
   obtain⟨z,F,I3,Z⟩:=J;obtain⟨m',hm,U⟩:=hN z F Z;exact⟨m',hm,z,F,I3,U⟩
  |cont =>
   obtain⟨z,F,I3,Z⟩:=J;obtain⟨m',hm,U⟩:=hN z F Z;exact⟨m',hm,z,F,I3,U⟩
  |brk=>exact J
  |ret v=>exact J
 |false =>
  rw[ar aH];exact h9 ⟨σ1,H2,I2,L⟩
end
structure It where
 go:Nat->Hp->Prop
 yld:Nat->Hp->V->Hp->Prop
 stop:Nat->Hp->Prop
def vy (X:Cx)(pins:List (Aj×Obj))(H:Hp)(b:Aj):Prop :=
 H b=none/\b≠X.env.locals/\b∉X.fs/\(b∈X.ex\/X.s₀.heap.objs.size<=b)/\(∀x c,X.env.cells.lookup x=some c->c≠b)/\∀p∈X.pn++pins,p.1≠b
theorem Inv.fpOk {X:Cx}{pins:List (Aj×Obj)}{σ:St}{H H':Hp}{s:Ab}{b:Aj}(I:Inv X pins σ H s)(hb:s.heap.objs.size<=b)(hn:H' b=none):vy X pins H' b:=by
 refine⟨hn,fM (aN I.lt hb),I.nofs hb,.inr (bI I.sz hb),λx c e z=>?_,λp D z=>?_⟩
 .obtain⟨v,q⟩:=I.cell x c e;exact absurd (aN q.lt (by rw[z];exact hb)) (aW _)
 .exact absurd (aN (ak (I.pin p D).1) (by rw[z];exact hb)) (aW _)
structure Turn (P:Ac)(w:Ah)(K:Aa)(tg:Expr)(J:It)(fp:List Aj)(it:Aj)(tn:Nat->Heap->Prop):Prop where
 mem:it∈fp
 obj:∀i h,tn i h->∀b∈fp,∃o,h.get? b=some o/\∀v,o.data≠.cell v
 keep:∀i h h',tn i h->(∀b∈fp,∀o,h.get? b=some o->h'.get? b=some o)->tn i h'
 item:∀(X:Cx),X.prog=P->X.w=w->X.K=K->X.calm=true->∀(i:Nat) (pins:List (Aj×Obj)) (s:Ab) (σ:St) (H:Hp) (E:Ag->Ab->Prop),Inv X pins σ H s->(∀b∈fp,vy X pins H b)->tn i s.heap->J.go i H ->
  wpAny (model P w) X.A (pyNext (.ref it)) (λr s1=>∃u,r=some u /\
   wpAny (model P w) X.A (letOwnedTupleGo tg (.ref it) u) (λ_ s2=>∃x H',Inv X pins σ H' s2/\RelV x u/\J.yld i H x H'/\tn (i+1) s2.heap/\∀b∈fp,H' b=none) E s1) E s
 done:∀(X:Cx),X.prog=P->X.w=w->X.K=K->X.calm=true->∀(i:Nat) (pins:List (Aj×Obj)) (s:Ab) (σ:St) (H:Hp) (E:Ag->Ab->Prop),Inv X pins σ H s->(∀b∈fp,vy X pins H b)->tn i s.heap->J.stop i H ->
  wpAny (model P w) X.A (pyNext (.ref it)) (λr s1=>r=none/\Inv X pins σ H s1) E s
 self:∀(A:Ae) (i:Nat) (s:Ab) (Q:Ag->Ab->Prop) (E:Ag->Ab->Prop),tn i s.heap->Q (.ref it) s->wpAny (model P w) A (pyIter (.ref it)) Q E s
abbrev TI:=St->Hp->(It->Hp->Prop)->Prop
def PIE (X:Cx)(pins:List (Aj×Obj))(σ:St)(tg:Expr)(R:It->Hp->Prop)(itv:Ag)(s2:Ab):Prop :=
 ∃(it:Aj) (fp:List Aj) (tn:Nat->Heap->Prop) (J:It) (H':Hp),itv=.ref it/\Inv X pins σ H' s2/\Turn X.prog X.w X.K tg J fp it tn/\tn 0 s2.heap/\(∀b∈fp,vy X pins H' b)/\R J H'
def PI (X:Cx)(tg iter:Expr)(wi:TI):Prop :=
 ∀(pins:List (Aj×Obj)) (s:Ab) (σ:St) (H:Hp) (R:It->Hp->Prop),Inv X pins σ H s->wi σ H R ->
  wpAny (model X.prog X.w) X.A (eval iter X.env) (λv s1=>wpAny (model X.prog X.w) X.A (pyIter v) (PIE X pins σ tg R) X.xe s1) X.xe s
theorem wkp {M:Model}{A:Ae}{E:Ag->Ab->Prop}{s:Ab}{tg:Expr}{it:Aj}{u:Ag}{o:Obj}{n:String}{vs:Array Ag}{Q:Unit->Ab->Prop}(ho:s.heap.get? it=some o)(hc:o.cls=.type n)(hd:o.data=.fields vs)
  (hn:["enumerate","zip","dict_itemiterator","dict_reverseitemiterator","odict_iterator","itertools.zip_longest","itertools.pairwise"].contains n=false) (hQ:Q () s):wpAny M A (letOwnedTupleGo tg (.ref it) u) Q E s:=by
 unfold letOwnedTupleGo;cases tg <;> first
  |exact ai hQ
  |(cases u <;> first
    |exact ai hQ
    |(refine aa (wpAny_load ho ?_)
      rw[hc,hd]
      show wpAny M A (if(["enumerate","zip","dict_itemiterator","dict_reverseitemiterator","odict_iterator","itertools.zip_longest","itertools.pairwise"].contains n&&vs[0]?==some (rawInt _))=true then _ else _) Q E s
      rw[ar (by intro h;rw[hn,jS]at h;cases h)]
      exact ai hQ))
def Itl (K:Aa)(a:Aj):It :=
 ⟨λi H=>∃xs x,SqL K H a xs/\xs[i]?=some x,λi H x H'=>H'=H/\∀xs,SqL K H a xs->xs[i]?=some x,λi H=>∃xs,SqL K H a xs/\xs.length<=i⟩
def Itt (K:Aa)(a:Aj):It :=
 ⟨λi H=>∃xs x,SqT K H a xs/\xs[i]?=some x,λi H x H'=>H'=H/\∀xs,SqT K H a xs->xs[i]?=some x,λi H=>∃xs,SqT K H a xs/\xs.length<=i⟩
def Itr (lo:Int)(n:Nat):It:=⟨λi _=>i<n,λi H x H'=>H'=H/\x=.int (lo+i),λi _=>n<=i⟩
theorem wym {P:Ac}{w:Ah}{K:Aa}{tg:Expr}(a it:Aj):Turn P w K tg (Itl K a) [it] it (λi h=>h.IsListIter it a i) where
 mem:=by simp
 obj:=λi h st b hb=>by
  have e:b=it:=by simpa using hb
  subst e;obtain⟨o,e,c,d⟩:=st;exact⟨o,e,λv z=>by rw[d]at z;cases z⟩
 keep:=λi h h' st k=>st.at λo e=>k it (by simp) o e
 item:=by intro X hP hw hK hc i pins s σ H E I hf st hg;subst hP hw hK;obtain⟨xs,x,hq,hx⟩:=hg;obtain⟨its,rv,p,hz⟩:=I.list hq;obtain⟨u,hu,ru⟩:=rv.get hx;obtain⟨f0,f1,f2,f3,f4,f5⟩:=hf it (by simp);refine wpAny_pyNext_list_item st p.isList (x:=u) (by simpa using hu) λh' st' sb=>?_;have I1:Inv X pins σ H { s with heap:=h' }:=I.turned (t':=s.toks) (λb o hb e=>(sb.2 b hb).trans e) f0 f1 f3 f4 f5;obtain⟨o,e,c,d⟩:=id st';exact⟨u,rfl,wkp (s:={ s with heap:=h' }) e c d ⋯ ⟨x,H,I1,ru,⟨rfl,λys hy=>by rw[I.list_inj hy hq];exact hx⟩,st',λb hb=>(hf b hb).1⟩⟩
 done:=by intro X hP hw hK hc i pins s σ H E I hf st hg;subst hP hw hK;obtain⟨xs,hq,hx⟩:=hg;obtain⟨its,rv,p,hz⟩:=I.list hq;obtain⟨f0,f1,f2,f3,f4,f5⟩:=hf it (by simp);have hl:=rv.length;exact wpAny_pyNext_list_end (I.ok.hd hc) st p.isList (by simp;lia) λh' eb=>⟨rfl,I.turned (t':=s.toks) (λb o hb e=>eb b o hb e) f0 f1 f3 f4 f5⟩
 self:=λ_ _ _ _ _ st h=>wpAny_pyIter_listiter st h
theorem wz5 {P:Ac}{w:Ah}{K:Aa}{tg:Expr}(a it:Aj):Turn P w K tg (Itt K a) [it] it (λi h=>h.IsTupleIter it a i) where
 mem:=by simp
 obj:=λi h st b hb=>by
  have e:b=it:=by simpa using hb
  subst e;obtain⟨o,e,c,d⟩:=st;exact⟨o,e,λv z=>by rw[d]at z;cases z⟩
 keep:=λi h h' st k=>st.at λo e=>k it (by simp) o e
 item:=by intro X hP hw hK hc i pins s σ H E I hf st hg;subst hP hw hK;obtain⟨xs,x,hq,hx⟩:=hg;obtain⟨its,rv,p,hz⟩:=I.tuple hq;obtain⟨u,hu,ru⟩:=rv.get hx;obtain⟨f0,f1,f2,f3,f4,f5⟩:=hf it (by simp);refine wpAny_pyNext_tuple_item st (show s.heap.IsTuple a its.toArray from p) (x:=u) (by simpa using hu) λh' st' sb=>?_;have I1:Inv X pins σ H { s with heap:=h' }:=I.turned (t':=s.toks) (λb o hb e=>(sb.2 b hb).trans e) f0 f1 f3 f4 f5;obtain⟨o,e,c,d⟩:=id st';exact⟨u,rfl,wkp (s:={ s with heap:=h' }) e c d ⋯ ⟨x,H,I1,ru,⟨rfl,λys hy=>by rw[I.tuple_inj hy hq];exact hx⟩,st',λb hb=>(hf b hb).1⟩⟩
 done:=by intro X hP hw hK hc i pins s σ H E I hf st hg;subst hP hw hK;obtain⟨xs,hq,hx⟩:=hg;obtain⟨its,rv,p,hz⟩:=I.tuple hq;obtain⟨f0,f1,f2,f3,f4,f5⟩:=hf it (by simp);have hl:=rv.length;exact wpAny_pyNext_tuple_end (I.ok.hd hc) st (show s.heap.IsTuple a its.toArray from p) (by simp;lia) λh' eb=>⟨rfl,I.turned (t':=s.toks) (λb o hb e=>eb b o hb e) f0 f1 f3 f4 f5⟩
 self:=λ_ _ _ _ _ st h=>wpAny_pyIter_tupleiter st h
theorem wz4 {P:Ac}{w:Ah}{K:Aa}{tg:Expr}(it:Aj)(lo:Int)(n:Nat):Turn P w K tg (Itr lo n) [it] it (λi h=>IsRangeIter h it (lo+(i:Nat)*1) ((n:Int)-(i:Nat)) 1) where
 mem:=by simp
 obj:=λi h st b hb=>by
  have e:b=it:=by simpa using hb
  subst e;exact⟨_,st,λv z=>by
   have z':Data.fields _=Data.cell v:=z
   cases z'⟩
 keep:=λi h h' st k=>k it (by simp) _ st
 item:=by intro X hP hw hK hc i pins s σ H E I hf st hg;subst hP hw hK;obtain⟨f0,f1,f2,f3,f4,f5⟩:=hf it (by simp);have W:=Walks.range (prog:=X.prog) (w:=X.w) (I.ok.hd hc) it lo 1 n;refine W.item i s _ _ hg st λv h' tk hv st' kk=>?_;obtain⟨t,rfl⟩:=hv;have I1:Inv X pins σ H { s with heap:=h',toks:=tk }:=I.turned (λb o hb e=>kk b o (by simpa using hb) e) f0 f1 f3 f4 f5;refine⟨_,rfl,wkp (s:={ s with heap:=h',toks:=tk }) (n := "range_iterator") st' rfl rfl ⋯ ⟨.int (lo+i),H,I1,⟨t,?_⟩,⟨rfl,rfl⟩,st',λb hb=>(hf b hb).1⟩⟩;rw[Int.mul_one]
 done:=by intro X hP hw hK hc i pins s σ H E I hf st hg;subst hP hw hK;obtain⟨f0,f1,f2,f3,f4,f5⟩:=hf it (by simp);exact wpAny_pyNext_range_end (I.ok.hd hc) st (by have:n<=i:=hg;lia) λh' eb=>⟨rfl,I.turned (t':=s.toks) (λb o hb e=>eb b o hb e) f0 f1 f3 f4 f5⟩
 self:=λ_ _ _ _ _ st h=>wpAny_pyIter_rangeiter st h
section
variable {X:Cx}{tg:Expr}
def iList (K:Aa)(tl:TE):TI:=λσ H R=>tl σ H λx H1=>∃a,x=.ref a/\(∃xs,SqL K H1 a xs)/\R (Itl K a) H1
def iTup (K:Aa)(tl:TE):TI:=λσ H R=>tl σ H λx H1=>∃a,x=.ref a/\(∃xs,SqT K H1 a xs)/\R (Itt K a) H1
theorem zm {l:Expr}{tl:TE}(hl:PE X l tl):PI X tg l (iList X.K tl):=by
 intro pins s σ H R I h;refine thn (hl pins s σ H _ I h) λv s1 ⟨x,H1,I1,r1,q1⟩=>?_;obtain⟨a,e,⟨xs,z⟩,q⟩:=q1;subst e;cases r1;obtain⟨J,F,p,L⟩:=I1.list z;refine gD p.isList ?_;refine⟨s1.heap.objs.size,[s1.heap.objs.size],_,_,H1,rfl,I1.kept (t':=s1.toks) λb o e=>ah _ e,wym a _,⟨_,aA _ rfl,rfl,rfl⟩,λb D=>?_,q⟩;have e:b=s1.heap.objs.size:=by simpa using D
 subst e;exact I1.fpOk (aj _) (I1.hok.fresh (aj _))
theorem pi_tup {l:Expr}{tl:TE}(hl:PE X l tl):PI X tg l (iTup X.K tl):=by
 intro pins s σ H R I h;refine thn (hl pins s σ H _ I h) λv s1 ⟨x,H1,I1,r1,q1⟩=>?_;obtain⟨a,e,⟨xs,D⟩,q⟩:=q1;subst e;cases r1;obtain⟨z,J,p,L⟩:=I1.tuple D;refine wpAny_pyIter_tuple (show s1.heap.IsTuple a z.toArray from p) ?_;refine⟨s1.heap.objs.size,[s1.heap.objs.size],_,_,H1,rfl,I1.kept (t':=s1.toks) λb o e=>ah _ e,wz5 a _,⟨_,aA _ rfl,rfl,rfl⟩,λb F=>?_,q⟩;have e:b=s1.heap.objs.size:=by simpa using F
 subst e;exact I1.fpOk (aj _) (I1.hok.fresh (aj _))
theorem quu {pins:List (Aj×Obj)}{σ:St}{H:Hp}{s:Ab}{R:It->Hp->Prop}{E:Ag->Ab->Prop}{lo hi:Int}{t u v:Tok}{tk:Nat}(I:Inv X pins σ H s)(h1:-(2 ^ 62)<=lo)(h2:lo<2 ^ 62)(h3:-(2 ^ 62)<=hi)(h4:hi<2 ^ 62)
  (q:R (Itr lo (hi-lo).toNat) H):wpAny (model X.prog X.w) X.A (pyIter (.ref s.heap.objs.size)) (PIE X pins σ tg R) E { s with heap:=s.heap.push { cls:=.type "range",data:=.fields #[.int lo t,.int hi u,.int 1 v] },toks:=tk }:=by
 refine wpAny_pyIter_range (IsRange.new ..) (small_one h1 h2 h3 h4) ?_;have z:Inv X pins σ H { s with heap:=s.heap.push { cls:=.type "range",data:=.fields #[.int lo t,.int hi u,.int 1 v] },toks:=tk }:=I.kept λb o e=>ah _ e;refine⟨(s.heap.push { cls:=.type "range",data:=.fields #[.int lo t,.int hi u,.int 1 v] }).objs.size,[(s.heap.push { cls:=.type "range",data:=.fields #[.int lo t,.int hi u,.int 1 v] }).objs.size],_,_,H,rfl,
  z.kept (t':=tk) λb o e=>ah _ e,wz4 _ lo (hi-lo).toNat,?_,λb D=>?_,q⟩
 .have J:lo+((0:Nat):Int)*1=lo:=by simp
  have F:(((hi-lo).toNat:Nat):Int)-((0:Nat):Int)=Builtin.Range.rangeSize lo hi 1:=by rw[rangeSize_one];split <;> lia
  show IsRangeIter _ _ (lo+((0:Nat):Int)*1) ((((hi-lo).toNat:Nat):Int)-((0:Nat):Int)) 1;rw[J,F];exact aA _ rfl
 .have e:b=(s.heap.push { cls:=.type "range",data:=.fields #[.int lo t,.int hi u,.int 1 v] }).objs.size:=by simpa using D
  subst e;exact z.fpOk (aj _) (z.hok.fresh (aj _))
def iRng1 (ta:TA):TI:=λσ H R=>ta σ H λvs H1=>∃j:Int,vs=[.int j]/\-(2 ^ 62)<=j/\j<2 ^ 62/\R (Itr 0 j.toNat) H1
def iRng2 (ta:TA):TI:=λσ H R=>ta σ H λvs H1=>∃i j:Int,vs=[.int i,.int j]/\(-(2 ^ 62)<=i/\i<2 ^ 62/\-(2 ^ 62)<=j/\j<2 ^ 62)/\R (Itr i (j-i).toNat) H1
theorem xg {a:Expr}{ta:TA}{p pos:Pos}(hg:Gl X "range")(hm:X.mg "range" = none)(ha:PA X [a] ta)(hs:autoParam (starEach [a] X.env=[(false,eval a X.env)]) aU4._auto_1):PI X tg (.Call (.Name "range" p) [a] [] pos) (iRng1 ta):=by
 intro pins s σ H R I h;refine Call_ (yb I hg hm boot_range (cf (thn (ha pos pins s σ H _ I h) λus s1 ⟨vs,H1,I1,r1,z⟩=>?_) hs rfl));obtain⟨j,e,z,D,q⟩:=z;subst e;cases r1 with
 |cons r rr =>
  cases rr;obtain⟨t,rfl⟩:=r;exact call_range_1 (quu I1 ⋯ ⋯ z D (by simpa using q))
theorem wk7 {a b:Expr}{ta:TA}{p pos:Pos}(hg:Gl X "range")(hm:X.mg "range" = none)(ha:PA X [a,b] ta)(hs:autoParam (starEach [a,b] X.env=[(false,eval a X.env),(false,eval b X.env)]) aU4._auto_1)(hs2:autoParam (starEach [b] X.env=[(false,eval b X.env)]) aU4._auto_1) :
  PI X tg (.Call (.Name "range" p) [a,b] [] pos) (iRng2 ta):=by
 intro pins s σ H R I h;refine Call_ (yb I hg hm boot_range (cf (thn (ha pos pins s σ H _ I h) λus s1 ⟨vs,H1,I1,r1,z⟩=>?_) (by rw[hs,hs2]) (by rw[hs2];rfl)));obtain⟨i,j,e,⟨z,J,F,D⟩,q⟩:=z;subst e;cases r1 with
 |cons r rr =>
  cases rr with
  |cons r' rr =>
   cases rr;obtain⟨t,rfl⟩:=r;obtain⟨L,rfl⟩:=r';exact call_range_2 (quu I1 z J F D q)
def tFor (wi:TI)(g:TG)(tb:TS):TS:=λD σ H=>wi σ H λJ H1=>∃W:Nat->Nat->St->Hp->Prop,(∃m,W 0 m σ H1)/\∀i m σ H,W i m σ H ->
 (J.stop i H/\D.nx σ H)\/(J.go i H/\∃N:St->Hp->Prop,(∀σ' H',N σ' H'->∃m',m'<m/\W (i+1) m' σ' H')/\∀x H',J.yld i H x H'->g x σ H' λσ2 H2=>tb { D with nx:=N,ct:=N,bk:=D.nx } σ2 H2)
def Zr (fp:List Aj)(h:Heap):List (Aj×Obj):=fp.filterMap λb=>(h.get? b).map λo=>(b,o)
theorem vc {fp:List Aj}{h:Heap}{b:Aj}{o:Obj}(hb:b∈fp)(e:h.get? b=some o):(b,o)∈Zr fp h:=fY.mpr ⟨b,hb,by rw[e];rfl⟩
theorem wyu {fp:List Aj}{h:Heap}{p:Aj×Obj}(hp:p∈Zr fp h):p.1∈fp/\h.get? p.1=some p.2:=by
 obtain⟨b,z,e⟩:=fY.mp hp;cases q:h.get? b with
 |none=>rw[q]at e;cases e
 |some o =>
  rw[q]at e;have D:(b,o)=p:=av e;subst D;exact⟨z,q⟩
theorem Inv.pinned {pins:List (Aj×Obj)}{σ:St}{H:Hp}{s:Ab}{fp:List Aj}(I:Inv X pins σ H s)(hf:∀b∈fp,vy X pins H b)(ho:∀b∈fp,∃o,s.heap.get? b=some o/\∀v,o.data≠.cell v):Inv X (pins++Zr fp s.heap) σ H s :=
 I.pins_of λp hp=>(aX.mp hp).elim (λz=>I.pin p (az _ z)) λz=>by obtain⟨hb,e⟩:=wyu z;obtain⟨f0,f1,f2,_⟩:=hf p.1 hb;obtain⟨o,e',d⟩:=ho p.1 hb;rw[e]at e';cases e';exact⟨e,f0,f1,f2,d⟩
theorem Inv.unpinned {pins pl:List (Aj×Obj)}{σ:St}{H:Hp}{s:Ab}(I:Inv X (pins++pl) σ H s):Inv X pins σ H s:=I.pins_of λp hp=>I.pin p (az _ (cy _ hp))
theorem Qr {iter:Expr}{body:List Stmt}{wi:TI}{g:TG}{tb:TS}{pos:Pos}(hp:PassesOwn (model X.prog X.w) X.A X.env X.xe)(hc:X.calm=true)(hi:PI X tg iter wi)(hg:PG X tg g)(hb:PSs X body tb)
  (hs:autoParam (∀x,foldedSetIterable iter X.env x=pure x) aU3._auto_1):PS X (.For tg iter body [] pos) (tFor wi g tb):=by
 intro pins s σ H D I h;refine wpAny_For (thn (hi pins s σ H _ I h) λv s1 h1=>thn h1 λa0 s2 h2=>?_) hs;obtain⟨it,fp,tn,J,H2,e,I2,T,as,f2,W,⟨m0,w0⟩,ad⟩:=h2;subst e;have ab:∀ {H':Hp},(∀b∈fp,H' b=none)->∀b∈fp,vy X pins H' b:=λhn b hb=>⟨hn b hb,(f2 b hb).2⟩;refine codeAny_forLoop_any (λn s'=>∃i σ' H',Inv X pins σ' H' s'/\tn i s'.heap/\(∀b∈fp,H' b=none)/\W i n σ' H') ?_ m0 ⟨0,σ,H2,I2,as,λb hb=>(f2 b hb).1,w0⟩;rintro n s3 ⟨i,σ3,H3,I3,st3,fr3,w3⟩;rcases ad i n σ3 H3 w3 with⟨an,qn⟩|⟨go,N,hN,ap⟩
 .refine eE hp (thn (T.done X rfl rfl rfl hc i pins s3 σ3 H3 X.xe I3 (ab fr3) st3 an) λr s4 ⟨hr,I4⟩=>?_);subst hr;exact h9 ⟨σ3,H3,I4,qn⟩
 .refine eE hp (thn (T.item X rfl rfl rfl hc i pins s3 σ3 H3 X.xe I3 (ab fr3) st3 go) λr s4 ⟨u,hr,h4⟩=>?_);subst hr;refine eE hp (thn h4 λ_ s5 ⟨x,H5,I5,r5,y5,st5,fr5⟩=>?_);have ax:=I5.pinned (ab fr5) (T.obj _ _ st5);refine eE hp (thn (hg _ s5 σ3 H5 x u _ ax r5 (ap x H5 y5)) λ_ s6 ⟨σ6,H6,I6,q6⟩=>?_);refine eE hp (thn (hb _ s6 σ6 H6 _ I6 q6) λf s7 U=>?_);have ac:∀ {z:St} {L:Hp},Inv X (pins++Zr fp s5.heap) z L s7->N z L->∃m,m<n/\∃i σ' H',Inv X pins σ' H' s7/\tn i s7.heap/\(∀b∈fp,H' b=none)/\W i m σ' H':=λ{z L} F Z=>by obtain⟨m',hm,w7⟩:=hN z L Z;refine⟨m',hm,i+1,z,L,F.unpinned,T.keep _ _ _ st5 λb hb o e=>(F.pin (b,o) (az _ (az _ (vc hb e)))).1,λb hb=>?_,w7⟩;obtain⟨o,e,d⟩:=T.obj _ _ st5 b hb;exact(F.pin (b,o) (az _ (az _ (vc hb e)))).2.1
  cases f with
  |next=>obtain⟨z,L,F,Z⟩:=U;exact ac F Z
  |cont=>obtain⟨z,L,F,Z⟩:=U;exact ac F Z
  |brk=>obtain⟨z,L,F,U⟩:=U;exact⟨z,L,F.unpinned,U⟩
  |ret v=>obtain⟨x7,z,L,F,r7,U⟩:=U;exact⟨x7,z,L,F.unpinned,r7,U⟩
end
theorem qun {K:Aa}{a:Aj}{xs:List V}{g:TG}{tb:TS}{D:Ends}{σ:St}{H:Hp}(Pv:Nat->St->Hp->Prop)(h0:Pv 0 σ H)(hl:∀i σ H,i<=xs.length->Pv i σ H->SqL K H a xs)
  (hs:∀i x σ H,xs[i]?=some x->Pv i σ H->g x σ H λσ2 H2=>tb { D with nx:=Pv (i+1),ct:=Pv (i+1),bk:=D.nx } σ2 H2) (hd:∀σ H,Pv xs.length σ H->D.nx σ H) :
  ∃W:Nat->Nat->St->Hp->Prop,(∃m,W 0 m σ H)/\∀i m σ H,W i m σ H ->
   ((Itl K a).stop i H/\D.nx σ H)\/((Itl K a).go i H/\∃N:St->Hp->Prop,(∀σ' H',N σ' H'->∃m',m'<m/\W (i+1) m' σ' H')/\∀x H',(Itl K a).yld i H x H'->g x σ H' λσ2 H2=>tb { D with nx:=N,ct:=N,bk:=D.nx } σ2 H2):=by
 refine⟨λi m σ H=>m=xs.length-i/\i<=xs.length/\Pv i σ H,⟨xs.length,by simp,aY _,h0⟩,?_⟩;rintro i m σ H ⟨rfl,hi,p⟩;have q:=hl i σ H hi p;by_cases hlt:i<xs.length
 .refine .inr ⟨⟨xs,xs[i],q,by simp[hlt]⟩,Pv (i+1),λσ' H' z=>⟨xs.length-(i+1),⋯,rfl,hlt,z⟩,λx H' y=>?_⟩;obtain⟨e,y⟩:=y;subst e;exact hs i x σ _ (y xs q) p
 .have e:i=xs.length:=by lia
  subst e;exact .inl ⟨⟨xs,q,aj _⟩,hd σ H p⟩
theorem xvg {K:Aa}{a:Aj}{xs:List V}{g:TG}{tb:TS}{D:Ends}{σ:St}{H:Hp}(Pv:Nat->St->Hp->Prop)(h0:Pv 0 σ H)(hl:∀i σ H,i<=xs.length->Pv i σ H->SqT K H a xs)
  (hs:∀i x σ H,xs[i]?=some x->Pv i σ H->g x σ H λσ2 H2=>tb { D with nx:=Pv (i+1),ct:=Pv (i+1),bk:=D.nx } σ2 H2) (hd:∀σ H,Pv xs.length σ H->D.nx σ H) :
  ∃W:Nat->Nat->St->Hp->Prop,(∃m,W 0 m σ H)/\∀i m σ H,W i m σ H ->
   ((Itt K a).stop i H/\D.nx σ H)\/((Itt K a).go i H/\∃N:St->Hp->Prop,(∀σ' H',N σ' H'->∃m',m'<m/\W (i+1) m' σ' H')/\∀x H',(Itt K a).yld i H x H'->g x σ H' λσ2 H2=>tb { D with nx:=N,ct:=N,bk:=D.nx } σ2 H2):=by
 refine⟨λi m σ H=>m=xs.length-i/\i<=xs.length/\Pv i σ H,⟨xs.length,by simp,aY _,h0⟩,?_⟩;rintro i m σ H ⟨rfl,hi,p⟩;have q:=hl i σ H hi p;by_cases hlt:i<xs.length
 .refine .inr ⟨⟨xs,xs[i],q,by simp[hlt]⟩,Pv (i+1),λσ' H' z=>⟨xs.length-(i+1),⋯,rfl,hlt,z⟩,λx H' y=>?_⟩;obtain⟨e,y⟩:=y;subst e;exact hs i x σ _ (y xs q) p
 .have e:i=xs.length:=by lia
  subst e;exact .inl ⟨⟨xs,q,aj _⟩,hd σ H p⟩
theorem uc {lo:Int}{n:Nat}{g:TG}{tb:TS}{D:Ends}{σ:St}{H:Hp}(Pv:Nat->St->Hp->Prop)(h0:Pv 0 σ H)
  (hs:∀i σ H,i<n->Pv i σ H->g (.int (lo+i)) σ H λσ2 H2=>tb { D with nx:=Pv (i+1),ct:=Pv (i+1),bk:=D.nx } σ2 H2) (hd:∀σ H,Pv n σ H->D.nx σ H) :
  ∃W:Nat->Nat->St->Hp->Prop,(∃m,W 0 m σ H)/\∀i m σ H,W i m σ H ->
   ((Itr lo n).stop i H/\D.nx σ H)\/((Itr lo n).go i H/\∃N:St->Hp->Prop,(∀σ' H',N σ' H'->∃m',m'<m/\W (i+1) m' σ' H')/\∀x H',(Itr lo n).yld i H x H'->g x σ H' λσ2 H2=>tb { D with nx:=N,ct:=N,bk:=D.nx } σ2 H2):=by
 refine⟨λi m σ H=>m=n-i/\i<=n/\Pv i σ H,⟨n,by simp,aY _,h0⟩,?_⟩;rintro i m σ H ⟨rfl,hi,p⟩;by_cases hlt:i<n
 .refine .inr ⟨hlt,Pv (i+1),λσ' H' z=>⟨n-(i+1),⋯,rfl,hlt,z⟩,λx H' y=>?_⟩;obtain⟨e,y⟩:=y;subst e y;exact hs i σ _ hlt p
 .have e:i=n:=by lia
  subst e;exact .inl ⟨aj _,hd σ H p⟩
theorem Wg {c:TT}{tb:TS}{D:Ends}{σ:St}{H:Hp}(Pv:St->Hp->Prop)(μ:St->Hp->Nat)(h0:Pv σ H)
  (hs:∀σ H,Pv σ H->c σ H λb H1=>if b=true then tb { D with nx:=λσ' H'=>Pv σ' H'/\μ σ' H'<μ σ H,ct:=λσ' H'=>Pv σ' H'/\μ σ' H'<μ σ H,bk:=D.nx } σ H1 else D.nx σ H1)
  (mono:∀σ H Q Q',(∀b H1,Q b H1->Q' b H1)->c σ H Q->c σ H Q'):wxj c tb D σ H:=by
 refine⟨λm σ H=>m=μ σ H/\Pv σ H,⟨_,rfl,h0⟩,?_⟩;rintro m σ H ⟨rfl,p⟩;refine mono σ H _ _ (λb H1 q=>?_) (hs σ H p);cases b with
 |true=>exact⟨_,λσ' H' ⟨p',l⟩=>⟨_,l,rfl,p'⟩,q⟩
 |false=>exact q
abbrev R2:=V->V->Hp->VK->Prop
def OpR (X:Cx)(f:Ag->Ag->Sem Ag)(r:R2):Prop :=
 ∀(pins:List (Aj×Obj)) (s:Ab) (σ:St) (H:Hp) (x y:V) (v u:Ag) (Q:VK),Inv X pins σ H s->RelV x v->RelV y u->r x y H Q ->
  wpAny (model X.prog X.w) X.A (f v u) (EP X pins σ Q) X.xe s
def UnR (X:Cx)(f:Ag->Sem Ag)(r:V->Hp->VK->Prop):Prop :=
 ∀(pins:List (Aj×Obj)) (s:Ab) (σ:St) (H:Hp) (x:V) (v:Ag) (Q:VK),Inv X pins σ H s->RelV x v->r x H Q ->
  wpAny (model X.prog X.w) X.A (f v) (EP X pins σ Q) X.xe s
def k8 (X:Cx)(f:Ag)(r:List V->Hp->VK->Prop):Prop :=
 ∀(pins:List (Aj×Obj)) (s:Ab) (σ:St) (H:Hp) (xs:List V) (us:List Ag) (Q:VK),Inv X pins σ H s->Vals xs us->r xs H Q ->
  wpAny (model X.prog X.w) X.A (call f us) (EP X pins σ Q) X.xe s
def tOp (r:R2)(ta tb:TE):TE:=λσ H Q=>ta σ H λx H1=>tb σ H1 λy H2=>r x y H2 Q
def tUn (r:V->Hp->VK->Prop)(ta:TE):TE:=λσ H Q=>ta σ H λx H1=>r x H1 Q
def rI (C:Int->Int->Prop)(g:Int->Int->V):R2:=λx y H Q=>∃i j,x=.int i/\y=.int j/\C i j/\Q (g i j) H
def rI0 (g:Int->Int->V):R2:=λx y H Q=>∃i j,x=.int i/\y=.int j/\Q (g i j) H
def rU (g:Int->V):V->Hp->VK->Prop:=λx H Q=>∃i,x=.int i/\Q (g i) H
section
variable {X:Cx}{a b c:Expr}{ta tb tc:TE}{pos:Pos}
theorem binT (ha:PE X a ta)(hb:PE X b tb){pins:List (Aj×Obj)}{s:Ab}{σ:St}{H:Hp}{R:V->V->Hp->Prop}(I:Inv X pins σ H s)
  (h:ta σ H λx H1=>tb σ H1 λy H2=>R x y H2) {Q:Ag->Ab->Prop} {f:Ag->Ag->Sem Ag}
  (hf:∀v u s2 x y H2,Inv X pins σ H2 s2->RelV x v->RelV y u->R x y H2->wpAny (model X.prog X.w) X.A (f v u) Q X.xe s2) :
  wpAny (model X.prog X.w) X.A (eval a X.env) (λv s₁=>wpAny (model X.prog X.w) X.A (eval b X.env) (λu s₂=>wpAny (model X.prog X.w) X.A (f v u) Q X.xe s₂) X.xe s₁) X.xe s:=by
 refine thn (ha pins s σ H _ I h) λv s1 ⟨x,H1,I1,r1,q1⟩=>?_;refine thn (hb pins s1 σ H1 _ I1 q1) λu s2 ⟨y,H2,I2,r2,q2⟩=>?_;exact hf v u s2 x y H2 I2 r1 r2 q2
theorem qr {op:Operator}{r:R2}(ho:OpR X (binaryOp op) r)(ha:PE X a ta)(hb:PE X b tb):PE X (.BinOp a op b pos) (tOp r ta tb):=by intro pins s σ H Q I h;exact wpAny_BinOp (binT ha hb I h λv u s2 x y H2 F D z q=>ho pins s2 σ H2 x y v u Q F D z q)
theorem qx2 {op:UnaryOp}{r:V->Hp->VK->Prop}(ho:UnR X (unaryOp op) r)(ha:PE X a ta):PE X (.UnaryOp op a pos) (tUn r ta):=by intro pins s σ H Q I h;exact UnaryOp_ (thn (ha pins s σ H _ I h) λv s1 ⟨x,H1,I1,r1,q1⟩=>ho pins s1 σ H1 x v Q I1 r1 q1)
theorem opI {f:Ag->Ag->Sem Ag}{C:Int->Int->Prop}{g:Int->Int->Int}
  (rule:∀(i j:Int) (t u:Tok) (s:Ab) (Q:Ag->Ab->Prop) (E:Ag->Ab->Prop),C i j->Q (.int (g i j) s.toks) { s with toks:=s.toks+1 }->wpAny (model X.prog X.w) X.A (f (.int i t) (.int j u)) Q E s) :
  OpR X f (rI C λi j=>.int (g i j)):=by
 intro pins s σ H x y v u Q I F D h;obtain⟨i,j,rfl,rfl,J,q⟩:=h;obtain⟨t,rfl⟩:=F;obtain⟨z,rfl⟩:=D;exact rule i j t z s _ _ J ⟨.int (g i j),H,I.tok _,⟨_,rfl⟩,q⟩
theorem opI0 {f:Ag->Ag->Sem Ag}{g:Int->Int->Int}
  (rule:∀(i j:Int) (t u:Tok) (s:Ab) (Q:Ag->Ab->Prop) (E:Ag->Ab->Prop),Q (.int (g i j) s.toks) { s with toks:=s.toks+1 }->wpAny (model X.prog X.w) X.A (f (.int i t) (.int j u)) Q E s) :
  OpR X f (rI0 λi j=>.int (g i j)):=by
 intro pins s σ H x y v u Q I F D h;obtain⟨i,j,rfl,rfl,q⟩:=h;obtain⟨t,rfl⟩:=F;obtain⟨z,rfl⟩:=D;exact rule i j t z s _ _ ⟨.int (g i j),H,I.tok _,⟨_,rfl⟩,q⟩
theorem opB0 {f:Ag->Ag->Sem Ag}{g:Int->Int->Bool}
  (rule:∀(i j:Int) (t u:Tok) (s:Ab) (Q:Ag->Ab->Prop) (E:Ag->Ab->Prop),Q (.bool (g i j)) s->wpAny (model X.prog X.w) X.A (f (.int i t) (.int j u)) Q E s) :
  OpR X f (rI0 λi j=>.bl (g i j)):=by
 intro pins s σ H x y v u Q I F D h;obtain⟨i,j,rfl,rfl,q⟩:=h;obtain⟨t,rfl⟩:=F;obtain⟨z,rfl⟩:=D;exact rule i j t z s _ _ ⟨.bl (g i j),H,I,rfl,q⟩
def CPow (i j:Int):Prop:=0<=j/\j<=1000000/\i.natAbs<2 ^ 64
theorem xv:OpR X (binaryOp .Add) (rI0 λi j=>.int (i+j)):=opI0 λ_ _ _ _ _ _ _ q=>add_int q
theorem vw:OpR X (binaryOp .Sub) (rI0 λi j=>.int (i-j)):=opI0 λ_ _ _ _ _ _ _ q=>sub_int q
theorem ku:OpR X (binaryOp .Mod) (rI (λ_ j=>0<j) λi j=>.int (i%j)):=opI λi j _ _ _ _ _ hc q=>by have h1:(0:Int)<j:=hc;exact mod_int' ⋯ (by rw[Int.fmod_eq_emod_of_nonneg i ⋯];exact q)
theorem xxx:OpR X (binaryOp .Pow) (rI CPow λi j=>.int (i ^ j.toNat)):=opI λ_ _ _ _ _ _ _ hc q=>pow_int_small hc.1 hc.2.1 hc.2.2 q
theorem unI {f:Ag->Sem Ag}{g:Int->Int}
  (rule:∀(i:Int) (t:Tok) (s:Ab) (Q:Ag->Ab->Prop) (E:Ag->Ab->Prop),Q (.int (g i) s.toks) { s with toks:=s.toks+1 }->wpAny (model X.prog X.w) X.A (f (.int i t)) Q E s) :
  UnR X f (rU λi=>.int (g i)):=by
 intro pins s σ H x v Q I z h;obtain⟨i,rfl,q⟩:=h;obtain⟨t,rfl⟩:=z;exact rule i t s _ _ ⟨.int (g i),H,I.tok _,⟨_,rfl⟩,q⟩
theorem Zu:UnR X (unaryOp .USub) (rU λi=>.int (-i)):=unI λ_ _ _ _ _ q=>neg_int q
end
def scal:V->V->Bool
 |.non,.non=>true|.non,.int _=>true|.int _,.non=>true|.non,.bl _=>true|.bl _,.non=>true|.non,.str _=>true|.str _,.non=>true
 |.int _,.int _=>true|.bl _,.bl _=>true|.str _,.str _=>true|.byt _,.byt _=>true
 |.int _,.str _=>true|.str _,.int _=>true|.bl _,.str _=>true|.str _,.bl _=>true
 |_,_=>false
def rEq:R2:=λx y H Q=>scal x y=true/\Q (.bl (decide (x=y))) H
def rNe:R2:=λx y H Q=>scal x y=true/\Q (.bl (!decide (x=y))) H
theorem wky {i j:Int}:decide (V.int i=V.int j)=(i==j):=by rw[dr];simp
theorem wun {i j:Bool}:decide (V.bl i=V.bl j)=(i==j):=by rw[dr];simp
theorem wku {i j:Str}:decide (V.str i=V.str j)=(i==j):=by rw[dr];simp
theorem wvj {i j:Array UInt8}:decide (V.byt i=V.byt j)=(i.toList==j.toList):=by rw[dr];cases i;cases j;simp
section
variable {X:Cx}{a b c:Expr}{ta tb tc:TE}{pos:Pos}
theorem xr {pins:List (Aj×Obj)}{σ:St}{H:Hp}{s:Ab}{Q:VK}{k k':Bool}(I:Inv X pins σ H s)(q:Q (.bl k) H)(e:k=k'):EP X pins σ Q (.bool k') s:=by subst e;exact⟨.bl k,H,I,rfl,q⟩
theorem yu:OpR X (compareOp .Eq) rEq:=by
 intro pins s σ H x y v u Q I F z h;obtain⟨hs,q⟩:=h;cases x with
 |non =>
  cases F;cases y with
  |non=>cases z;exact PySem.EqNone.eq_none_none (xr I q (by simp))
  |bl j=>cases z;exact PySem.EqNone.eq_none_bool (xr I q (by simp))
  |int j=>obtain⟨D,rfl⟩:=z;exact PySem.EqNone.eq_none_int (xr I q (by simp))
  |str j=>obtain⟨D,rfl⟩:=z;exact PySem.EqNone.eq_none_str (xr I q (by simp))
  |_=>exact absurd (show false=true from hs) aH
 |bl i =>
  cases F;cases y with
  |non=>cases z;exact PySem.EqNone.eq_bool_none (xr I q (by simp))
  |bl j=>cases z;exact eq_bool (xr I q wun)
  |str j=>obtain⟨D,rfl⟩:=z;exact PySem.EqMixed.eq_bool_str (xr I q (by simp))
  |_=>exact absurd (show false=true from hs) aH
 |int i =>
  obtain⟨t,rfl⟩:=F;cases y with
  |non=>cases z;exact PySem.EqNone.eq_int_none (xr I q (by simp))
  |int j=>obtain⟨D,rfl⟩:=z;exact eq_int (xr I q wky)
  |str j=>obtain⟨D,rfl⟩:=z;exact PySem.EqMixed.eq_int_str (xr I q (by simp))
  |_=>exact absurd (show false=true from hs) aH
 |str i =>
  obtain⟨t,rfl⟩:=F;cases y with
  |non=>cases z;exact PySem.EqNone.eq_str_none (xr I q (by simp))
  |bl j=>cases z;exact PySem.EqMixed.eq_str_bool (xr I q (by simp))
  |int j=>obtain⟨D,rfl⟩:=z;exact PySem.EqMixed.eq_str_int (xr I q (by simp))
  |str j=>obtain⟨D,rfl⟩:=z;exact eq_str (xr I q wku)
  |_=>exact absurd (show false=true from hs) aH
 |byt i =>
  obtain⟨t,rfl⟩:=F;cases y with
  |byt j=>obtain⟨D,rfl⟩:=z;exact W.eq_bytes (xr I q wvj)
  |_=>exact absurd (show false=true from hs) aH
 |_=>cases y <;> exact absurd (show false=true from hs) aH
theorem op_ne:OpR X (compareOp .NotEq) rNe:=by
 intro pins s σ H x y v u Q I F z h;obtain⟨hs,q⟩:=h;cases x with
 |non =>
  cases F;cases y with
  |non=>cases z;exact PySem.EqNone.ne_none_none (xr I q (by simp))
  |bl j=>cases z;exact PySem.EqNone.ne_none_bool (xr I q (by simp))
  |int j=>obtain⟨D,rfl⟩:=z;exact PySem.EqNone.ne_none_int (xr I q (by simp))
  |str j=>obtain⟨D,rfl⟩:=z;exact PySem.EqNone.ne_none_str (xr I q (by simp))
  |_=>exact absurd (show false=true from hs) aH
 |bl i =>
  cases F;cases y with
  |non=>cases z;exact PySem.EqNone.ne_bool_none (xr I q (by simp))
  |bl j=>cases z;exact ne_bool (xr I q (bV not wun))
  |str j=>obtain⟨D,rfl⟩:=z;exact PySem.EqMixed.ne_bool_str (xr I q (by simp))
  |_=>exact absurd (show false=true from hs) aH
 |int i =>
  obtain⟨t,rfl⟩:=F;cases y with
  |non=>cases z;exact PySem.EqNone.ne_int_none (xr I q (by simp))
  |int j=>obtain⟨D,rfl⟩:=z;exact ne_int (xr I q (bV not wky))
  |str j=>obtain⟨D,rfl⟩:=z;exact PySem.EqMixed.ne_int_str (xr I q (by simp))
  |_=>exact absurd (show false=true from hs) aH
 |str i =>
  obtain⟨t,rfl⟩:=F;cases y with
  |non=>cases z;exact PySem.EqNone.ne_str_none (xr I q (by simp))
  |bl j=>cases z;exact PySem.EqMixed.ne_str_bool (xr I q (by simp))
  |int j=>obtain⟨D,rfl⟩:=z;exact PySem.EqMixed.ne_str_int (xr I q (by simp))
  |str j=>obtain⟨D,rfl⟩:=z;exact ne_str (xr I q (bV not wku))
  |_=>exact absurd (show false=true from hs) aH
 |byt i =>
  obtain⟨t,rfl⟩:=F;cases y with
  |byt j=>obtain⟨D,rfl⟩:=z;exact W.ne_bytes (xr I q (bV not wvj))
  |_=>exact absurd (show false=true from hs) aH
 |_=>cases y <;> exact absurd (show false=true from hs) aH
theorem Zv:OpR X (compareOp .Lt) (rI0 λi j=>.bl (decide (i<j))):=opB0 λ_ _ _ _ _ _ _ q=>lt_int q
theorem qu4:OpR X (compareOp .LtE) (rI0 λi j=>.bl (decide (i<=j))):=opB0 λ_ _ _ _ _ _ _ q=>le_int q
theorem Q9:OpR X (compareOp .Gt) (rI0 λi j=>.bl (decide (j<i))):=opB0 λ_ _ _ _ _ _ _ q=>gt_int q
theorem wz9:OpR X (compareOp .GtE) (rI0 λi j=>.bl (decide (j<=i))):=opB0 λ_ _ _ _ _ _ _ q=>ge_int q
theorem op_isN:OpR X (compareOp .Is) (λx y H Q=>y=.non/\Q (.bl (decide (x=.non))) H):=by
 intro pins s σ H x y v u Q I z D h;obtain⟨rfl,q⟩:=h;cases D;refine is_none_gen (xr I q ?_);cases x <;> first
  |(cases z;rfl)
  |(obtain⟨t,rfl⟩:=z;rfl)
theorem wvh:OpR X (compareOp .IsNot) (λx y H Q=>y=.non/\Q (.bl (!decide (x=.non))) H):=by
 intro pins s σ H x y v u Q I z D h;obtain⟨rfl,q⟩:=h;cases D;refine isnot_none_gen (xr I q ?_);cases x <;> first
  |(cases z;rfl)
  |(obtain⟨t,rfl⟩:=z;rfl)
theorem wp (b:Expr){op:CmpOp}(h:autoParam (op≠.In) aU1._auto_1)(h2:autoParam (op≠.NotIn) aU1._auto_1):behindInMarks op b=false:=by
 have D:(op==CmpOp.In)=false:=by cases op <;> first | rfl | exact absurd rfl h
 have z:(op==CmpOp.NotIn)=false:=by cases op <;> first | rfl | exact absurd rfl h2
 cases b <;> simp[behindInMarks,D,z]
theorem W3 {op:CmpOp}{r:R2}(ho:OpR X (compareOp op) r)(ha:PE X a ta)(hb:PE X b tb)(hm:behindInMarks op b=false):PE X (.Compare a [op] [b] pos) (tOp r ta tb):=by intro pins s σ H Q I h;exact wpAny_Compare1 (binT ha hb I h λv u s2 x y H2 F D z q=>ho pins s2 σ H2 x y v u Q F D z q) hm
def xzk (t:TE):TT:=λσ H Q=>t σ H λx H'=>∃k,x=.bl k/\Q k H'
theorem wg {op:CmpOp}{r:R2}(ho:OpR X (compareOp op) r)(ha:PE X a ta)(hb:PE X b tb)(hm:behindInMarks op b=false):PT X (.Compare a [op] [b] pos) (xzk (tOp r ta tb)):=by
 intro pins s σ H Q I h;refine wpAny_isTrue_Compare1 (thn (ha pins s σ H _ I h) λv s1 ⟨x,H1,I1,r1,q1⟩=>thn (hb pins s1 σ H1 _ I1 q1) λu s2 ⟨y,H2,I2,r2,q2⟩ =>
  thn (ho pins s2 σ H2 x y v u _ I2 r1 r2 q2) λc s3 ⟨z,H3,I3,r3,k,e,q3⟩=>?_) hm
 subst e;cases r3;exact cZ ⟨H3,I3,q3⟩
theorem qjh:(sizeLine:Nat)<2 ^ 63:=by rw[d6];decide
theorem js {x:V}{us:List Ag}(r:Vals [x] us):∃u,us=[u]/\RelV x u:=by
 cases r with
 |cons r1 r2=>cases r2;exact⟨_,rfl,r1⟩
theorem wub {x y:V}{us:List Ag}(r:Vals [x,y] us):∃u w',us=[u,w']/\RelV x u/\RelV y w':=by
 cases r with
 |cons r1 r2 =>
  cases r2 with
  |cons r3 r4=>cases r4;exact⟨_,_,rfl,r1,r3⟩
theorem Ww:k8 X (.builtin "abs") (λxs H Q=>∃i,xs=[.int i]/\Q (.int (if i<0 then -i else i)) H):=by intro pins s σ H xs z Q I r h;obtain⟨i,rfl,q⟩:=h;obtain⟨u,rfl,t,rfl⟩:=js r;exact call_abs_int λu tk=>⟨.int (if i<0 then -i else i),H,I.tok _,⟨_,rfl⟩,q⟩
theorem Yr (hc:X.calm=true):k8 X (.builtin "max") (λxs H Q=>∃i j,xs=[.int i,.int j]/\Q (.int (if j>i then j else i)) H):=by
 intro pins s σ H xs D Q I r h;obtain⟨i,j,rfl,q⟩:=h;obtain⟨u,z,rfl,⟨t,rfl⟩,⟨F,rfl⟩⟩:=wub r;refine max_two_ints (I.ok.hd hc) λh' tk k=>⟨_,H,I.kept k,?_,q⟩;by_cases hj:j>i
 .rw[ay hj,ay hj];exact⟨_,rfl⟩
 .rw[ar hj,ar hj];exact⟨_,rfl⟩
theorem W5 (hc:X.calm=true):k8 X (.builtin "min") (λxs H Q=>∃i j,xs=[.int i,.int j]/\Q (.int (if j<i then j else i)) H):=by
 intro pins s σ H xs D Q I r h;obtain⟨i,j,rfl,q⟩:=h;obtain⟨u,z,rfl,⟨t,rfl⟩,⟨F,rfl⟩⟩:=wub r;refine min_two_ints (I.ok.hd hc) λh' tk k=>⟨_,H,I.kept k,?_,q⟩;by_cases hj:j<i
 .rw[ay hj,ay hj];exact⟨_,rfl⟩
 .rw[ar hj,ar hj];exact⟨_,rfl⟩
end
structure ObjM (h:Heap)(x dx C:Aj)(mA:Str->Option Ag):Prop where
 obj:h.get? x=some (W.instObj C dx)
 ns:h.Ns1 dx mA
 ne:dx≠x
theorem wyj {h:Heap}{dx:Aj}{mA:Str->Option Ag}(n:h.Ns1 dx mA):∃od,h.get? dx=some od/\∀name,W.lookIn name od=some (mA name):=by
 obtain⟨o,es,ep,ho,hd,hk,_,hm⟩:=n;refine⟨o,ho,λname=>?_⟩;have e:=hm name;unfold nsFind findBy at e;rw[<-Array.find?_toList]at e;unfold W.lookIn;rw[hd];dsimp only;split
 .rename_i y q;rw[q]at e;exact bV some e
 .rename_i q;rw[q]at e;have a:es.toList.any (·.refKey)=false:=by rw[List.any_eq_false];intro y hy;obtain⟨z,t,hkey⟩:=hk y (gY.mp hy);simp[DictEntry.refKey,hkey]
  have a':¬ es.toList.any (·.refKey)=true:=by rw[a];exact aH
  rw[ar a'];exact bV some e
theorem ObjM.look {h:Heap}{x dx C:Aj}{mA:Str->Option Ag}(I:ObjM h x dx C mA):∃od,W.InstAt h x (W.instObj C dx) C (some od)/\∀name,W.lookIn name od=some (mA name) :=
 let ⟨od,ho,hl⟩:=wyj I.ns;⟨od,⟨I.obj,rfl,rfl,ho⟩,hl⟩
section
variable {prog:Ac}{w:Ah}{A:Ae}{E:Ag->Ab->Prop}{s:Ab}{K:Aa}{x dx C f:Aj}{mA:Str->Option Ag}{name:Str}{v:Ag}
theorem xvj {expr:Bool}{Q:Ag->Ab->Prop}(X:K.In s.heap)(I:ObjM s.heap x dx C mA)(hg:W.plainGet K C name=true)(hh:W.hasDictIn K C=true)
  (ha:W.findIn K (.ref C) name=some none) (hv:mA name=some v) (hv':W.handedIn v=true) (h:Q v { s with toks:=s.toks+1 }) :
  wpAny (model prog w) A (getAttr (.ref x) name expr) Q E s:=by
 obtain⟨D,J,z⟩:=I.look;exact W.get_value X J (ik hg).1 (W.findObj_own hh ha rfl (by rw[z,hv])) hv' h
theorem xwr {pl:Sem Bool}{Q:Ag×List Ag->Ab->Prop}(X:K.In s.heap)(I:ObjM s.heap x dx C mA)(hg:W.plainGet K C name=true)
  (hf:W.findIn K (.ref C) name=some (some (.ref f))) (ht:W.isFn K (.ref f)=true) (hv:mA name=none) (h:Q (.ref f,[.ref x]) s) :
  wpAny (model prog w) A (getMethod (.ref x) name pl) Q E s:=by
 obtain⟨z,J,D⟩:=I.look;exact W.method_fn X J (ik hg).1 (ik hg).2 hf (fZ.mp ht) (by show(W.lookIn name z).map (·.isSome)=some false;rw[D,hv];rfl) h
theorem xz3 {ns:List Str}{Q:Unit->Ab->Prop}(X:K.In s.heap)(I:ObjM s.heap x dx C mA)
  (hs:W.findIn K (.ref C) "__setattr__" = some (some (.builtin "object.__setattr__"))) (hp:W.plainOver K C=true) (ht:W.takerIn K C name=some none) (hh:W.hasDictIn K C=true)
  (hw:PySem.Within mA ns) (hsz:ns.length<=sizeLine)
  (h:∀h',ObjM h' x dx C (λy=>if y=name then some v else mA y)->Heap.SameBut dx s.heap h'->Q () { s with heap:=h',toks:=s.toks+2 }) :
  wpAny (model prog w) A (setAttr (.ref x) name v) Q E s:=by
 obtain⟨od,J,hl⟩:=I.look;refine W.set_plain X J hs (W.osa_open (s:={ s with toks:=s.toks+1 }) (r:=none) X J hp ht λb=>?_);obtain⟨cd,hc,Z⟩:=W.any_some hh;have F:s.heap.get? x=some ⟨.ref C,some dx,.plain,#[]⟩:=I.obj;refine aa (ai (aa (aa (wpAny_loadPart F (aa (W.Looks.here (s:={ s with toks:=s.toks+1 }) (W.looks_clsIn X hc) ?_))))));rw[Z];refine ai (a:=some dx) (aa (ai (aa ?_)));refine wpAny_nsSet1 (s:={ s with toks:=s.toks+1 }) I.ns λh' D z=>?_;obtain⟨oD,ac,ad,L,U,ab⟩:=D.count (PySem.Within.cons name v hw);refine aa (wpAny_lookBehind L (by rw[U];exact pastItsLine_dict (bI ab (by rw[aP];lia))) ?_);exact ai (h _ ⟨(z.2 _ (eU I.ne)).trans I.obj,D,I.ne⟩ z)
theorem xzv {R:Result->Ab->Prop}{vs:List Ag}{kw:List (Str×Ag)}(X:K.In s.heap)(hm:W.makesIn K C=true)
  (hi:W.findIn K (.ref C) "__init__" = some (some (.ref f))) (hf:W.typeIn K (.ref f)=some (.type "function"))
  (h:codeAny (model prog w) (A.under (.builtin "type.__call__" ⟨.ref C::vs,kw⟩)) (.call (.ref f) ⟨.ref (s.heap.objs.size+1)::vs,kw⟩) (W.InitBack (s.heap.objs.size+1) R)
   { s with heap:=(s.heap.push W.emptyDict).push (W.instObj C s.heap.objs.size) }) :
  codeAny (model prog w) A (.call (.ref C) ⟨vs,kw⟩) R s:=by
 obtain⟨F,g,d,t,D⟩:=s;exact W.make_core (W.makes_of X hm) (W.looks_findIn X hi) (λz=>W.bind_fn X z hf) (.inl rfl) h
end
def W8 (f:Str)(v:V):List (Str×V)->List (Str×V)
 |[]=>[(f,v)]
 |(g,x)::r=>if g=f then(g,v)::r else(g,x)::W8 f v r
theorem qqv (f g:Str)(v:V):∀fs:List (Str×V),(W8 f v fs).lookup g=if g=f then some v else fs.lookup g
 |[]=>by
  show List.lookup g [(f,v)]=_;by_cases h:g=f
  .have hb:(g==f)=true:=fZ.mpr h;simp only[List.lookup,hb,ay h]
  .have hb:(g==f)=false:=cC.mpr h;simp only[List.lookup,hb,ar h]
 |(k,x)::r=>by
  have ih:=qqv f g v r;rw[show W8 f v ((k,x)::r)=(if k=f then(k,v)::r else(k,x)::W8 f v r) from rfl];by_cases hk:k=f
  .rw[ay hk];by_cases h:g=k
   .have hb:(g==k)=true:=fZ.mpr h;simp only[List.lookup,hb,ay (h.trans hk)]
   .have hb:(g==k)=false:=cC.mpr h;simp only[List.lookup,hb,ar (λe:g=f=>h (e.trans hk.symm))]
  .rw[ar hk];by_cases h:g=k
   .have hb:(g==k)=true:=fZ.mpr h;simp only[List.lookup,hb,ar (λe:g=f=>hk (h.symm.trans e))]
   .have hb:(g==k)=false:=cC.mpr h;simp only[List.lookup,hb];exact ih
theorem Jv (f:Str)(v:V):∀fs:List (Str×V),f∈(W8 f v fs).map (·.1)/\∀g,g∈fs.map (·.1)->g∈(W8 f v fs).map (·.1)
 |[]=>⟨by simp[W8],λg h=>by simp at h⟩
 |(k,x)::r=>by
  obtain⟨i1,i2⟩:=Jv f v r;rw[show W8 f v ((k,x)::r)=(if k=f then(k,v)::r else(k,x)::W8 f v r) from rfl];by_cases hk:k=f
  .rw[ay hk];subst hk;exact⟨by simp,λg h=>by simpa using h⟩
  .rw[ar hk];refine⟨?_,λg h=>?_⟩
   .rw[aI];exact bM _ i1
   .rw[aI]at h ⊢;rcases aM.mp h with e|e
    .exact aM.mpr (.inl e)
    .exact bM _ (i2 g e)
theorem qqc (f:Str)(v:V):∀fs:List (Str×V),(W8 f v fs).length<=fs.length+1
 |[]=>by simp[W8]
 |(k,x)::r=>by
  have ih:=qqc f v r;rw[show W8 f v ((k,x)::r)=(if k=f then(k,v)::r else(k,x)::W8 f v r) from rfl];by_cases hk:k=f
  .rw[ay hk,aP,aP];lia
  .rw[ar hk,aP,aP];lia
theorem RelO.some_of {v:V}{o:Option Ag}(r:RelO (some v) o):∃u,o=some u/\RelV v u:=by
 cases o with
 |none=>exact(show False from r).elim
 |some u=>exact⟨u,rfl,r⟩
theorem RelO.none_of {o:Option Ag}(r:RelO none o):o=none:=by
 cases o with
 |none=>rfl
 |some u=>exact(show False from r).elim
theorem wjh {v:V}{u:Ag}(r:RelV v u):W.handedIn u=true:=by
 cases v with
 |non=>cases(show u=Value.none from r);rfl
 |bl b=>cases(show u=Value.bool b from r);rfl
 |int i=>obtain⟨t,e⟩:=(show ∃t,u=Value.int i t from r);cases e;rfl
 |str x=>obtain⟨t,e⟩:=(show ∃t,u=Value.str x t from r);cases e;rfl
 |byt b=>obtain⟨t,e⟩:=(show ∃t,u=Value.bytes b t from r);cases e;rfl
 |flt b=>obtain⟨t,e⟩:=(show ∃t,u=Value.float b t from r);cases e;rfl
 |ref a=>cases(show u=Value.ref a from r);rfl
 |ty n=>cases(show u=Value.type n from r);rfl
section
variable {P:Ac}{w:Ah}{H H':Hp}{h h':Heap}{a C dx:Aj}{fs fs':List (Str×V)}
theorem qq8 (hok:HOk P w H h)(e:H a=some (.ins C dx fs)):∃mA,ObjM h a dx C mA/\(∀f,RelO (fs.lookup f) (mA f))/\PySem.Within mA (fs.map (·.1))/\fs.length<=1000/\H dx=some (.own a):=by obtain⟨d,z,F,D,mA,n,r,q⟩:=(show ObjOk P w H h a (.ins C dx fs) from hok a _ e);exact⟨mA,⟨D,n,F⟩,r,q,z,d⟩
end
structure Cls (K:Aa)(C:Aj):Prop where
 pg:W.plainGet K C Str.empty=true
 hd:W.hasDictIn K C=true
 po:W.plainOver K C=true
 sa:W.findIn K (.ref C) "__setattr__" = some (some (.builtin "object.__setattr__"))
theorem Cls.get {K:Aa}{C:Aj}(c:Cls K C)(f:Str):W.plainGet K C f=true:=c.pg
def NoAttr (K:Aa)(C:Aj)(f:Str):Prop:=W.findIn K (.ref C) f=some none
theorem NoAttr.taker {K:Aa}{C:Aj}{f:Str}(n:NoAttr K C f):W.takerIn K C f=some none:=by unfold W.takerIn;rw[show W.findIn K (.ref C) f=some none from n];rfl
structure Con (K:Aa)(C:Aj)(f:Str)(v:V)(u:Ag):Prop where
 at_:W.findIn K (.ref C) f=some (some u)
 rel:RelV v u
 get:W.specialIn K u "__get__" = some none
 cp:W.copiedNames.contains f=false
structure Meth (K:Aa)(C:Aj)(m:Str)(f:Aj):Prop where
 at_:W.findIn K (.ref C) m=some (some (.ref f))
 fn:W.isFn K (.ref f)=true
 kp:W.keepIn K (.ref f)=true
section
variable {X:Cx}{pins:List (Aj×Obj)}{σ:St}{H:Hp}{s:Ab}{a C dx:Aj}{fs:List (Str×V)}{f:Str}{v:V}{A:Ae}{E:Ag->Ab->Prop}
theorem wxv {b:Bool}{Q:Ag->Ab->Prop}(I:Inv X pins σ H s)(e:H a=some (.ins C dx fs))(c:Cls X.K C)(n:NoAttr X.K C f)(l:fs.lookup f=some v)
  (h:∀u s',Inv X pins σ H s'->RelV v u->Q u s'):wpAny (model X.prog X.w) A (getAttr (.ref a) f b) Q E s:=by
 obtain⟨mA,O,r,_,_,_⟩:=qq8 I.hok e;obtain⟨u,D,z⟩:=RelO.some_of (v:=v) (o:=mA f) (by rw[<-l];exact r f);exact xvj I.kIn O (c.get f) c.hd n D (wjh z) (h u _ (I.tok _) z)
theorem qx9 {m:Str}{g:Aj}{pl:Sem Bool}{Q:Ag×List Ag->Ab->Prop}(I:Inv X pins σ H s)(e:H a=some (.ins C dx fs))(c:Cls X.K C)(k:Meth X.K C m g)(l:fs.lookup m=none)
  (h:Q (.ref g,[.ref a]) s):wpAny (model X.prog X.w) A (getMethod (.ref a) m pl) Q E s:=by
 obtain⟨mA,O,r,_,_,_⟩:=qq8 I.hok e;have z:mA m=none:=RelO.none_of (by rw[<-l];exact r m);exact xwr I.kIn O (c.get m) k.at_ k.fn z h
theorem wx6 {y:V}{u:Ag}{Q:Unit->Ab->Prop}(I:Inv X pins σ H s)(e:H a=some (.ins C dx fs))(c:Cls X.K C)(n:NoAttr X.K C f)(hl:fs.length<1000)(ry:RelV y u)
  (h:∀s',Inv X pins σ (upd H a (.ins C dx (W8 f y fs))) s'->Q () s'):wpAny (model X.prog X.w) A (setAttr (.ref a) f u) Q E s:=by
 obtain⟨mA,O,r,wi,_,F⟩:=qq8 I.hok e;have L:(fs.map (·.1)).length<=sizeLine:=by rw[ag,d6];lia
 refine xz3 I.kIn O c.sa c.po n.taker c.hd wi L λh' D J=>h _ ?_;have W:∃o,h'.get? dx=some o:=let ⟨o,_,_,e',_⟩:=D.ns;⟨o,e'⟩;refine I.write (x:=a) (e:=dx) (by rw[e];exact True.intro) (.inr F) (λb q Z z=>(J.2 b Z).trans z) W ?_;refine⟨by rw[qt O.ne];exact F,?_,O.ne,D.obj,_,D.ns,λg=>?_,λg U=>?_⟩
 .have:=qqc f y fs;lia
 .show RelO ((W8 f y fs).lookup g) (if g=f then some u else mA g);rw[qqv];by_cases q:g=f
  .rw[ay q,ay q];exact ry
  .rw[ar q,ar q];exact r g
 .by_cases q:g=f
  .rw[q];exact(Jv f y fs).1
  .refine(Jv f y fs).2 g (wi g λz=>U ?_);show(if g=f then some u else mA g)=none;rw[ar q];exact z
theorem Inv.made (I:Inv X pins σ H s):Inv X pins σ (upd (upd H s.heap.objs.size (.own (s.heap.objs.size+1))) (s.heap.objs.size+1) (.ins C s.heap.objs.size []))
  { s with heap:=(s.heap.push W.emptyDict).push (W.instObj C s.heap.objs.size) }:=by
 have D:(s.heap.push W.emptyDict).get? s.heap.objs.size=some W.emptyDict:=aA s.heap rfl;have U:((s.heap.push W.emptyDict).push (W.instObj C s.heap.objs.size)).get? (s.heap.objs.size+1)=some (W.instObj C s.heap.objs.size):=by have:=aA (s.heap.push W.emptyDict) (o:=W.instObj C s.heap.objs.size) rfl;rwa [cM]at this
 have L:(s.heap.push W.emptyDict).Ns s.heap.objs.size (λ_=>none):=⟨W.emptyDict,#[],_,D,rfl,(λe J=>absurd J (by simp)),λ_=>rfl⟩;have Z:=I.laid (a:=s.heap.objs.size) (o:=.own (s.heap.objs.size+1)) (h':=s.heap.push W.emptyDict) (t':=s.toks) (λb u q=>ah _ q) (aj _) ⟨_,D⟩;refine Z.laid (a:=s.heap.objs.size+1) (o:=.ins C s.heap.objs.size []) (t':=s.toks) (λb u q=>ah _ q) (Nat.le_of_eq (cM _ _)) ?_;have z:s.heap.objs.size≠s.heap.objs.size+1:=aC (eV _);refine⟨by rw[qt z,upd_same],aY _,z,U,λ_=>none,(Heap.Ns1.of_empty L).at λo q=>ah _ q,λ_=>True.intro,λy F=>absurd rfl F⟩
theorem xkz {prog:Ac}{w:Ah}{env:Env}{e:Expr}{f:Str}{pos:Pos}{s:Ab}{Q:Ag->Ab->Prop}(hb:attributeBase e f env (eval e env)=eval e env)
  (h:wpAny (model prog w) A (eval e env) (λo s₁=>wpAny (model prog w) A (getAttr o f true) Q E s₁) E s):wpAny (model prog w) A (eval (.Attribute e f pos) env) Q E s :=
 Attribute_any_ h (by rw[arm_eval_Attribute,hb])
end
def tFld (K:Aa)(ta:TE)(f:Str):TE:=λσ H Q=>ta σ H λx H1=>∃a C dx fs v,x=.ref a/\H1 a=some (.ins C dx fs)/\Cls K C/\NoAttr K C f/\fs.lookup f=some v/\Q v H1
def sFld (K:Aa)(ta tv:TE)(f:Str):TS:=λD σ H=>tv σ H λy H1=>ta σ H1 λx H2=>∃a C dx fs,x=.ref a/\H2 a=some (.ins C dx fs)/\Cls K C/\NoAttr K C f/\fs.length<1000 /\
 D.nx σ (upd H2 a (.ins C dx (W8 f y fs)))
section
variable {X:Cx}{o e value:Expr}{f:Str}{pos pos' tpos:Pos}{ta tv:TE}
theorem qy0 (he:PE X e ta)(hb:attributeBase e f X.env (eval e X.env)=eval e X.env):PE X (.Attribute e f pos) (tFld X.K ta f):=by intro pins s σ H Q I h;refine xkz hb (thn (he pins s σ H _ I h) λu s1 ⟨x,H1,I1,rx,a,C,dx,fs,v,ex,ea,c,n,l,q⟩=>?_);subst ex;obtain rfl:u=Value.ref a:=rx;exact wxv I1 ea c n l λF s2 D z=>⟨v,H1,D,z,q⟩
theorem ps_fld (ha:PE X o ta)(hv:PE X value tv)(hs:swapsWith value (some (.Attribute o f pos')) pos.line X.env=pure false):PS X (.Assign [.Attribute o f pos'] value pos) (sFld X.K ta tv f):=by intro pins s σ H D I h;refine plainObj_wpAny_Assign_Attribute (thn (hv pins s σ H _ I h) λu s1 ⟨y,H1,I1,ry,q⟩=>thn (ha pins s1 σ H1 _ I1 q) λov s2 ⟨x,H2,I2,rx,a,C,dx,fs,ex,ea,c,n,l,q2⟩=>?_) hs;subst ex;obtain rfl:ov=Value.ref a:=rx;exact wx6 I2 ea c n l ry λF z=>⟨σ,_,z,q2⟩
end
section
variable {X:Cx}{pins:List (Aj×Obj)}{σ:St}{H:Hp}{s:Ab}{A:Ae}{E:Ag->Ab->Prop}{Q:Ag->Ab->Prop}{c:Ag}{b:Bool}
inductive TyOf (K:Aa) (H:Hp):V->Ag->Prop where
 |non:TyOf K H .non (.type "NoneType")
 |bl (x:Bool):TyOf K H (.bl x) (.type "bool")
 |int (i:Int):TyOf K H (.int i) (.type "int")
 |str (x:Str):TyOf K H (.str x) (.type "str")
 |flt (x:UInt64):TyOf K H (.flt x) (.type "float")
 |lst {a:Aj} {xs:List V} (e:H a=some (.lst xs)):TyOf K H (.ref a) (.type "list")
 |frz {a:Aj} {o:Obj} {xs:List V} (e:H a=some (.frz o (.lst xs))):TyOf K H (.ref a) (.type "list")
 |tup {a:Aj} {xs:List V} (e:H a=some (.tup xs)):TyOf K H (.ref a) (.type "tuple")
 |dK {a:Aj} {kvs:List (Key×V)} (e:H a=some (.dK kvs)):TyOf K H (.ref a) (.type "dict")
 |dT {a:Aj} {kvs:List (List Key×V)} (e:H a=some (.dT kvs)):TyOf K H (.ref a) (.type "dict")
 |ins {a C dx:Aj} {fs:List (Str×V)} (e:H a=some (.ins C dx fs)) (cl:Cls K C) (ha:W.findIn K (.ref C) "__class__" = some (some (.builtin "object.__class__")))
   (hn:W.specialIn K (.builtin "object.__class__") "__get__" = some (some (.builtin "getset_descriptor.__get__"))) (htk:W.takesIn K (.builtin "object.__class__")=some true)
   (hm:W.mroIn K C (.type "object")=some true):TyOf K H (.ref a) (.ref C)
theorem wk8 {x:V}{u t:Ag}(I:Inv X pins σ H s)(rx:RelV x u)(ty:TyOf X.K H x t)(e:W.kitOne X.K t c=some b)(h:∀tk,Q (.bool b) { s with toks:=tk }) :
  wpAny (model X.prog X.w) A (call (.builtin "isinstance") [u,c]) Q E s:=by
 cases ty with
 |non=>cases(show u=Value.none from rx);exact cG W.kitx_none I.kIn True.intro e (λz=>nomatch z) h
 |bl y=>cases(show u=Value.bool y from rx);exact cG W.kitx_bool I.kIn True.intro e (λz=>nomatch z) h
 |int i=>obtain⟨t,q⟩:=(show ∃t,u=Value.int i t from rx);cases q;exact cG W.kitx_int I.kIn True.intro e (λz=>nomatch z) h
 |str y=>obtain⟨t,q⟩:=(show ∃t,u=Value.str y t from rx);cases q;exact cG W.kitx_str I.kIn True.intro e (λz=>nomatch z) h
 |flt y=>obtain⟨t,q⟩:=(show ∃t,u=Value.float y t from rx);cases q;exact cG W.kitx_float I.kIn True.intro e (λz=>nomatch z) h
 |@lst a xs ea =>
  cases(show u=Value.ref a from rx);obtain⟨_,_,n,_,h1⟩:=(show ObjOk X.prog X.w H s.heap a (.lst xs) from I.hok a _ ea);exact cG W.kitx_list I.kIn ⟨_,h1,rfl⟩ e (λz=>nomatch z) h
 |@frz a ob xs ea =>
  cases(show u=Value.ref a from rx);obtain⟨_,_,_,n,_,h1⟩:=(show ObjOk X.prog X.w H s.heap a (.frz ob (.lst xs)) from I.hok a _ ea);exact cG W.kitx_list I.kIn ⟨_,h1,rfl⟩ e (λz=>nomatch z) h
 |@tup a xs ea =>
  cases(show u=Value.ref a from rx);obtain⟨_,_,_,p⟩:=(show ObjOk X.prog X.w H s.heap a (.tup xs) from I.hok a _ ea);obtain⟨o,h1,h2,_⟩:=p;exact cG W.kitx_tuple I.kIn ⟨o,h1,h2⟩ e (λz=>nomatch z) h
 |@dK a kvs ea =>
  cases(show u=Value.ref a from rx);obtain⟨_,_,vs,_,p⟩:=(show ObjOk X.prog X.w H s.heap a (.dK kvs) from I.hok a _ ea);obtain⟨o,es,ep,h1,h2,_⟩:=p;exact cG W.kitx_dict I.kIn ⟨o,h1,h2.1⟩ e (λz=>nomatch z) h
 |@dT a kvs ea =>
  cases(show u=Value.ref a from rx);obtain⟨_,_,xs,_,o,es,ep,h1,h2,_⟩:=(show ObjOk X.prog X.w H s.heap a (.dT kvs) from I.hok a _ ea);exact cG W.kitx_dict I.kIn ⟨o,h1,h2.1⟩ e (λz=>nomatch z) h
 |@ins a C dx fs ea cl ha hn htk hm =>
  cases(show u=Value.ref a from rx);obtain⟨mA,O,_⟩:=qq8 I.hok ea;obtain⟨D,J,_⟩:=O.look;exact cG (W.kitx_own (cl.get _) cl.hd ha hn htk hm) I.kIn J e (λz=>nomatch z) h
end
structure Room (k:Nat)(A:Ae):Prop where
 hd:A.handled=none
 dp:A.depth+3*k+5<recursionLimit
 un:A.units+16*k+200<cLine
theorem Room.mono {j k:Nat}{A:Ae}(r:Room k A)(h:j<=k):Room j A:=⟨r.hd,by have:=r.dp;lia,by have:=r.un;lia⟩
theorem Room.deeper {k:Nat}{A:Ae}(r:Room (k+1) A)(env:Env):Room k (A.deeper env) :=
 ⟨r.hd,by have:=r.dp;show A.depth+1+3*k+5<_;lia,by have:=r.un;show A.units+3+16*k+200<_;lia⟩
theorem Room.in1 {k:Nat}{A:Ae}(r:Room (k+1) A):Room k A.in1 :=
 ⟨r.hd,by have:=r.dp;show A.depth+3*k+5<_;lia,by have:=r.un;show A.units+1+16*k+200<_;lia⟩
theorem wzn {A:Ae}{C:Aj}{us:List Ag}{kw:List (Str×Ag)}:(A.under (.builtin "type.__call__" ⟨.ref C::us,kw⟩)).depth=A.depth+1:=by
 first | rfl | simp[Around.under,Code.weight,Code.isCreation,Code.isGuard,Code.isCaller,Code.frames,Code.isFrame,guardIds]
theorem wxq {A:Ae}{C:Aj}{us:List Ag}{kw:List (Str×Ag)}:(A.under (.builtin "type.__call__" ⟨.ref C::us,kw⟩)).units=A.units+1:=by
 first | rfl | simp[Around.under,Code.cUnits,Code.frames,Code.isFrame]
theorem Room.make {k:Nat}{A:Ae}(r:Room (k+1) A)(C:Aj)(us:List Ag)(kw:List (Str×Ag)):Room k (A.under (.builtin "type.__call__" ⟨.ref C::us,kw⟩)) :=
 ⟨r.hd,by have:=r.dp;rw[wzn];lia,by have:=r.un;rw[wxq];lia⟩
theorem Room.depth {k:Nat}{A:Ae}(r:Room k A):A.depth<recursionLimit:=by have:=r.dp;lia
theorem Room.units {k:Nat}{A:Ae}(r:Room k A):A.units+64<cLine:=by have:=r.un;lia
def qxp:TA:=λ_ H Q=>Q [] H
def uz (ta:TE)(tr:TA):TA:=λσ H Q=>ta σ H λx H1=>tr σ H1 λxs H2=>Q (x::xs) H2
section
variable {X:Cx}{e:Expr}{es:List Expr}{te:TE}{t:TA}{pos:Pos}
theorem qv:PA X [] qxp:=λ_ _ _ _ H Q I h=>Calls.spliced_nil ⟨[],H,I,.nil,h⟩
theorem qw (ha:PE X e te)(hr:PA X es t)(hs:autoParam (starEach (e::es) X.env=(false,eval e X.env)::starEach es X.env) aU4._auto_1):PA X (e::es) (uz te t):=by intro pos pins s σ H Q I h;rw[hs];show wpAny _ _ (spliced ((false,eval e X.env)::backTo pos (starEach es X.env))) _ _ s;refine Calls.spliced_cons (thn (ha pins s σ H _ I h) λu s1 ⟨x,H1,I1,r1,q1⟩=>?_);exact thn (hr pos pins s1 σ H1 _ I1 q1) λus s2 ⟨xs,H2,I2,r2,q2⟩=>⟨x::xs,H2,I2,.cons r1 r2,q2⟩
def tTup (t:TA):TE:=λσ H Q=>t σ H λxs H1=>xs.length<=sizeLine/\∀p,H1 p=none->Q (.ref p) (upd H1 p (.tup xs))
def tLst (t:TA):TE:=λσ H Q=>t σ H λxs H1=>xs.length<=sizeLine/\∀p,H1 p=none->Q (.ref p) (upd H1 p (.lst xs))
theorem kr {x1}(h:PA X es t):PE X (.Tuple es x1 pos) (tTup t):=by intro pins s σ H Q I D;refine wpAny_Tuple_spliced (thn (h pos pins s σ H _ I D) λus s1 ⟨xs,H1,I1,r,z,q⟩=>⟨by rw[<-r.length];exact z,?_⟩);have F:H1 s1.heap.objs.size=none:=I1.hok.fresh (aj _);refine⟨.ref s1.heap.objs.size,upd H1 s1.heap.objs.size (.tup xs),I1.laid (t':=s1.toks) (λb u e=>ah _ e) (aj _) ?_,rfl,q _ F⟩;exact⟨z,us,r,⟨_,aA _ rfl,rfl,_,rfl⟩⟩
theorem uk (h:PA X es t):PE X (.List es pos) (tLst t):=by intro pins s σ H Q I D;refine wpAny_List_spliced (thn (h pos pins s σ H _ I D) λus s1 ⟨xs,H1,I1,r,z,q⟩=>⟨by rw[<-r.length];exact z,?_⟩);have F:H1 s1.heap.objs.size=none:=I1.hok.fresh (aj _);refine⟨.ref s1.heap.objs.size,upd H1 s1.heap.objs.size (.lst xs),I1.laid (t':=s1.toks) (λb u e=>ah _ e) (aj _) ?_,rfl,q _ F⟩;exact⟨z,us,0,r,aA _ rfl⟩
end
abbrev Sp:=List V->Hp->VK->XK->Prop
abbrev CXT:=List Env->Hp->Ab->XK->Ag->Ab->Prop
structure Env0 (P:Ac)(w:Ah)(K:Aa)(mg:Str->Option Ag)(base:Heap)(A:Ae)(outer:List Env)(s:Ab)(H:Hp):Prop where
 frames:A.frames=some outer
 mod:Mod K mg base
 bs:∀b o,base.get? b=some o->s.heap.get? b=some o/\H b=none
 bsz:base.objs.size<=s.heap.objs.size
 funs:s.heap.FunFrames base outer
 frf:∀b∈frs outer,H b=none
 hok:HOk P w H s.heap
 bare:AllBare s.gens
def CE (outer:List Env)(P:Ac)(w:Ah)(H:Hp)(s:Ab)(Q:VK)(u:Ag)(s':Ab):Prop :=
 ∃v H',s'.os=s.os/\AllBare s'.gens/\Un (frs outer) [] H H' s.heap s'.heap/\HOk P w H' s'.heap/\RelV v u/\Q v H'
def CR (CX:CXT)(outer:List Env)(P:Ac)(w:Ah)(H:Hp)(s:Ab)(Q:VK)(E:XK)(r:Result)(s':Ab):Prop :=
 match r with
 |.ok (.ret u)=>CE outer P w H s Q u s'
 |.ok _=>False
 |.error e=>CX outer H s E e s'
structure FnOk (P:Ac)(w:Ah)(K:Aa)(mg:Str->Option Ag)(base:Heap)(CX:CXT)(k:Nat)(f:Aj)(fd:Ad)(ps:List Str)(sp:Sp):Prop where
 len:∀vs H Q E,sp vs H Q E->vs.length=ps.length
 run:∀(A:Ae) (outer:List Env) (s:Ab) (H:Hp) (args:Args) (us:List Ag) (vs:List V) (Q:VK) (E:XK),Room k A->Env0 P w K mg base A outer s H->BindsTo s fd args (ps.zip us)->Vals vs us->sp vs H Q E ->
  codeAny (model P w) A (.call (.ref f) args) (CR CX outer P w H s Q E) s
theorem Env0.make {P:Ac}{w:Ah}{K:Aa}{mg:Str->Option Ag}{base:Heap}{A:Ae}{outer:List Env}{s:Ab}{H:Hp}(e:Env0 P w K mg base A outer s H)(C:Aj)(us:List Ag)(kw:List (Str×Ag)) :
  Env0 P w K mg base (A.under (.builtin "type.__call__" ⟨.ref C::us,kw⟩)) outer s H:=⟨by first | exact e.frames | (simpa [Around.under,Code.envs,Code.isFrame,pushEnvs] using e.frames),e.mod,e.bs,e.bsz,e.funs,e.frf,e.hok,e.bare⟩
theorem Env0.in1 {P:Ac}{w:Ah}{K:Aa}{mg:Str->Option Ag}{base:Heap}{A:Ae}{outer:List Env}{s:Ab}{H:Hp}(e:Env0 P w K mg base A outer s H) :
  Env0 P w K mg base A.in1 outer s H:=⟨e.frames,e.mod,e.bs,e.bsz,e.funs,e.frf,e.hok,e.bare⟩
section
variable {X:Cx}{pins:List (Aj×Obj)}{σ:St}{H:Hp}{s s':Ab}
theorem Inv.env0 (I:Inv X pins σ H s):Env0 X.prog X.w X.K X.mg X.base X.A X.stack s H :=
 ⟨I.ok.frames,I.ok.mod,I.bs,bI I.ok.bsz I.sz,I.stack,I.stkFree,I.hok,I.bare⟩
theorem Inv.after {Q:VK}{u:Ag}(I:Inv X pins σ H s)(h:CE X.stack X.prog X.w H s Q u s'):EP X pins σ Q u s':=by obtain⟨v,H',J,W,D,L,r,q⟩:=h;obtain⟨U,g,d,t,F⟩:=s';obtain rfl:F=s.os:=J;exact⟨v,H',I.call (h':=U) (g':=g) (d':=d) (t':=t) (ch:=[]) D L W (λb z=>absurd z (by simp)),r,q⟩
end
def Binds (K:Aa)(fd:Ad)(ps:List Str)(ds:List Ag):Prop :=
 ∀(s:Ab) (us:List Ag),K.In s.heap->(us++ds).length=ps.length->BindsTo s fd ⟨us,[]⟩ (ps.zip (us++ds))
theorem Binds.all {K:Aa}{fd:Ad}{ps:List Str}(h:∀us:List Ag,us.length=ps.length->bindArgs fd ⟨us,[]⟩=pure (ps.zip us)):Binds K fd ps []:=λs us _ hl=>by rw[bP]at hl ⊢;exact .of_eq (h us hl)
section
variable {X:Cx}{CX:CXT}{k:Nat}{f C:Aj}{fd:Ad}{ps:List Str}{sp:Sp}{dvs:List V}{ds:List Ag}{E:XK}{x m:Str}{p pos apos:Pos}{e o:Expr}{es:List Expr}{ta:TE}{t:TA}
structure Mk (K:Aa)(C f:Aj):Prop where
 makes:W.makesIn K C=true
 init:W.findIn K (.ref C) "__init__" = some (some (.ref f))
 fn:W.isFn K (.ref f)=true
 kp:W.keepIn K (.ref C)=true
end
def PK (X:Cx)(kws:List Keyword)(t:TA):Prop :=
 ∀(pos:Pos) (pins:List (Aj×Obj)) (s:Ab) (σ:St) (H:Hp) (Q:List V->Hp->Prop),Inv X pins σ H s->t σ H Q->wpAny (model X.prog X.w) X.A (evalAll ((backToKw pos (keywordEach kws X.env)).map (·.2))) (AP X pins σ Q) X.xe s
section
variable {X:Cx}{CX:CXT}{k:Nat}{f C:Aj}{fd:Ad}{ps ks:List Str}{sp:Sp}{E:XK}{x m:Str}{p pos apos kpos:Pos}{e o:Expr}{es:List Expr}{kws:List Keyword}{te ta:TE}{t tk:TA}{nm:Option Str}
theorem xx1:PK X [] qxp:=λ_ _ _ _ H Q I h=>wpAny_evalAll_nil ⟨[],H,I,.nil,h⟩
theorem wv6 (ha:PE X e te)(hr:PK X kws t):PK X (⟨nm,e,kpos⟩::kws) (uz te t):=by intro pos pins s σ H Q I h;show wpAny _ _ (evalAll ((do let v <-eval e X.env;standAt pos;pure v)::(backToKw pos (keywordEach kws X.env)).map (·.2))) _ _ s;refine wpAny_evalAll_cons (aa (thn (ha pins s σ H _ I h) λu s1 ⟨x,H1,I1,r1,q1⟩=>aa (cB (ai ?_))));exact thn (hr pos pins s1 σ H1 _ I1 q1) λus s2 ⟨xs,H2,I2,r2,q2⟩=>⟨x::xs,H2,I2,.cons r1 r2,q2⟩
structure KBinds (K:Aa)(fd:Ad)(ps ks:List Str)(g:List Ag->List Ag->List Ag)(gV:List V->List V->List V):Prop where
 to:∀(s:Ab) (us ws:List Ag),K.In s.heap->(g us ws).length=ps.length->BindsTo s fd ⟨us,ks.zip ws⟩ (ps.zip (g us ws))
 rel:∀ {vs:List V} {us:List Ag} {zs:List V} {ws:List Ag},Vals vs us->Vals zs ws->Vals (gV vs zs) (g us ws)
variable {g:List Ag->List Ag->List Ag}{gV:List V->List V->List V}
end
structure FnScope (N P:List Str)(sc:Scope):Prop where
 kind:sc.kind=.function
 co:sc.isCoroutine=false
 gen:sc.isGenerator=false
 nd:N.Nodup
 pre:N.take P.length=P
 par:∀x∈P,sc.names.lookup x=some .local\/sc.names.lookup x=some .cell
 nofree:∀y∈sc.names,y.2≠.free
theorem qks {kindOf:Str->Option NameKind}{x:Str}:∀ {binds:List (Str×Ag)} {m:Str->Option Ag},(∀v,(x,v)∉binds)->bindL kindOf binds m x=m x
 |[],_,_=>rfl
 |(n,v)::r,m,h=>by
  unfold bindL;rw[qks λw hw=>h w (bM _ hw)];split
  .have:x≠n:=by rintro rfl;exact h v d8
   simp[this]
  .rfl
theorem qky {kindOf:Str->Option NameKind}{x:Str}:∀ {binds:List (Str×Ag)} {m:Str->Option Ag},(∀v,(x,v)∉binds)->bindC kindOf binds m x=m x
 |[],_,_=>rfl
 |(n,v)::r,m,h=>by
  unfold bindC;rw[qky λw hw=>h w (bM _ hw)];split
  .rfl
  .have:x≠n:=by rintro rfl;exact h v d8
   simp[this]
theorem qk5 {kindOf:Str->Option NameKind}{x:Str}{v:Ag}:∀ {P:List Str} {vs:List Ag} {i:Nat} {m:Str->Option Ag},P.Nodup->P[i]?=some x->vs[i]?=some v->kindOf x=some .local ->
  bindL kindOf (P.zip vs) m x=some v
 |[],_,_,_,_,h,_,_=>by simp at h
 |_::_,[],_,_,_,_,h,_=>by simp at h
 |p::P,w::vs,0,m,nd,h1,h2,hk=>by simp at h1 h2;subst h1;subst h2;show bindL kindOf ((p,w)::P.zip vs) m p=_;unfold bindL;rw[qks λv hv=>(dQ.mp nd).1 (jL hv).1,ay hk];simp
 |p::P,w::vs,i+1,m,nd,h1,h2,hk=>by show bindL kindOf ((p,w)::P.zip vs) m x=_;unfold bindL;exact qk5 (i:=i) (dQ.mp nd).2 (by simpa using h1) (by simpa using h2) hk
theorem qk0 {kindOf:Str->Option NameKind}{x:Str}{v:Ag}:∀ {P:List Str} {vs:List Ag} {i:Nat} {m:Str->Option Ag},P.Nodup->P[i]?=some x->vs[i]?=some v->kindOf x≠some .local ->
  bindC kindOf (P.zip vs) m x=some v
 |[],_,_,_,_,h,_,_=>by simp at h
 |_::_,[],_,_,_,_,h,_=>by simp at h
 |p::P,w::vs,0,m,nd,h1,h2,hk=>by simp at h1 h2;subst h1;subst h2;show bindC kindOf ((p,w)::P.zip vs) m p=_;unfold bindC;rw[qky λv hv=>(dQ.mp nd).1 (jL hv).1,ar hk];simp
 |p::P,w::vs,i+1,m,nd,h1,h2,hk=>by show bindC kindOf ((p,w)::P.zip vs) m x=_;unfold bindC;exact qk0 (i:=i) (dQ.mp nd).2 (by simpa using h1) (by simpa using h2) hk
def Zw (N:List Str)(vs:List V):St:=vs.map some++List.replicate (N.length-vs.length) none
def Yw (CX:CXT)(P:Ac)(w:Ah)(K:Aa)(mg:Str->Option Ag)(base:Heap)(N:List Str)(qual:Str)(scope:Scope)(f:Aj)(cd:Ag)(A:Ae)(outer:List Env)(s:Ab)(H:Hp)(E:XK):Cx where
 prog:=P
 w:=w
 K:=K
 mg:=mg
 base:=base
 A:=A.deeper (envOfC qual scope s.heap.objs.size f cd)
 N:=N
 s₀:=s
 H₀:=H
 env:=envOfC qual scope s.heap.objs.size f cd
 outer:=outer
 stack:=envOfC qual scope s.heap.objs.size f cd::outer
 ex:=[]
 calm:=true
 fn:=λ_=>true
 pn:=[]
 xe:=λe s'=>wpAny (model P w) (A.deeper (envOfC qual scope s.heap.objs.size f cd)) (leaving (envOfC qual scope s.heap.objs.size f cd) e) (λ_ s''=>CX outer H s E e s'') (λe' s''=>CX outer H s E e' s'') s'
theorem wwd {sc:Scope}{n:Nat}{x:Str}(h:sc.names.lookup x=some .cell):∃c,(cellsFrom n sc.names []).lookup x=some c:=by have q:=W.cellsFrom_some sc.names n [] (.inl h);exact Option.isSome_iff_exists.mp q
theorem wj0 {CX:CXT}{P:Ac}{w:Ah}{K:Aa}{mg:Str->Option Ag}{base:Heap}{N ps:List Str}{qual:Str}{scope:Scope}{f:Aj}{cd:Ag}{A:Ae}{outer:List Env}{s s1:Ab}{H:Hp}{E:XK}{us:List Ag}{vs:List V}
  (S:FnScope N ps scope) (hd:A.handled=none) (e0:Env0 P w K mg base A outer s H) (hl:vs.length=ps.length) (r:Vals vs us)
  (x:InCallC s s.heap.objs.size (bindL (envOfC qual scope s.heap.objs.size f cd).kindOf (ps.zip us) λ_=>none) (cellsFrom (s.heap.objs.size+1) scope.names []) (bindC (envOfC qual scope s.heap.objs.size f cd).kindOf (ps.zip us) λ_=>none) s1) :
  Inv (Yw CX P w K mg base N qual scope f cd A outer s H E) [] (Zw N vs) H s1:=by
 have ab:ps.length<=N.length:=by have:=bV List.length S.pre;rw[be]at this;lia
 obtain⟨h1,tk,rfl,W⟩:=x.done;have J:∀b:Aj,b∉(Yw CX P w K mg base N qual scope f cd A outer s H E).ex:=λb z=>absurd (show b∈([]:List Aj) from z) (by simp);refine⟨⟨e0.mod,S.kind,rfl,rfl,aj _,λy z c h1 h2=>?_,λy D=>?_,λy c _ h=>?_,λ_=>hd,Around.frames_deeper e0.frames,.inr ⟨rfl,rfl⟩,λb z=>absurd z (J b),e0.bs,e0.bsz,λb _ _=>J b,λb z=>absurd z (J b),e0.funs,e0.frf⟩,
  rfl,e0.bare,Un.kept W,⟨_,x.toInCall.ns,λi y v h1 h2 h3=>?_⟩,λy c h=>⟨_,x.cell y c h⟩,e0.hok.fresh (aj _),λy c h=>?_,λp F=>absurd (show p∈([]:List (Aj×Obj)) from F) (by simp),e0.hok.kept W,?_⟩
 .exact name_of_addr x.apart (dW h1) (dW h2)
 .have D:scope.names.lookup y=some .cell\/scope.names.lookup y=some .free:=D;rcases D with D|D
  .exact wwd D
  .exact absurd rfl (S.nofree _ (dW D))
 .exact bn (x.above y c (dW h))
 .have hi:i<vs.length:=by
   unfold Zw at h2;by_cases hi:i<vs.length
   .exact hi
   .rw[aG (by simpa using hi)]at h2;rw[List.getElem?_replicate]at h2;split at h2 <;> cases h2
  have ha:vs[i]?=some v:=by
   unfold Zw at h2;rw[aT (by simpa using hi),aw]at h2;cases e:vs[i]? with
   |none=>rw[e]at h2;cases h2
   |some a=>rw[e]at h2;cases h2;rfl
  obtain⟨u,U,Z⟩:=r.get ha;have F:ps[i]?=some y:=by rw[<-S.pre,i6 ⋯];exact h1
  have L:ps.Nodup:=by rw[<-S.pre];exact S.nd.sublist (List.take_sublist _ _)
  refine⟨u,Z,?_⟩;rcases S.par y (aF F) with k|k
  .exact .inl ⟨k,qk5 L F U k⟩
  .obtain⟨c,e⟩:=wwd (n:=s.heap.objs.size+1) k;refine .inr ⟨.inl k,c,e,?_⟩;have q:=x.cell y c e;rw[qk0 L F U (by show scope.names.lookup y≠_;rw[k];decide)]at q;exact q
 .exact e0.hok.fresh (bn (x.above y c (dW h)))
 .unfold Zw;show _=N.length;rw[ao,ag,List.length_replicate];lia
theorem xzj {CX:CXT}{P:Ac}{w:Ah}{K:Aa}{mg:Str->Option Ag}{base:Heap}{k:Nat}{f:Aj}{name qual:Str}{params:Arguments}{body:List Stmt}{scope:Scope}{dV kV doc pm cdv ct oc:Ag}{an od:Option Aj}
  {osl:Array (Option Ag)} {N ps:List Str} {sp:Sp} (lk:K.lookup f=some ⟨oc,od,.func (W.fnOf name qual params body scope dV kV doc pm an cdv ct),osl⟩) (hcd:W.codeIn K cdv qual=true) (S:FnScope N ps scope)
  (len:∀vs H Q E,sp vs H Q E->vs.length=ps.length)
  (hbody:∀(A:Ae) (outer:List Env) (s:Ab) (H:Hp) (vs:List V) (Q:VK) (E:XK),Room k (A.deeper (envOfC qual scope s.heap.objs.size f cdv))->sp vs H Q E ->
   ∃t,PSs (Yw CX P w K mg base N qual scope f cdv A outer s H E) body t/\t { nx:=λ_ H'=>Q .non H',rt:=Q } (Zw N vs) H) :
  FnOk P w K mg base CX (k+1) f (W.fnOf name qual params body scope dV kV doc pm an cdv ct) ps sp:=by
 refine⟨len,λA outer s H as us vs Q E L z hb r Z=>?_⟩;have hl:=len _ _ _ _ Z;have KX:K.In s.heap:=z.mod.kin.keeps λb o e=>(z.bs b o e).1;have ac:s.heap.NoLimit:=z.mod.nolimit.keeps λb o e=>(z.bs b o e).1;have ad:∀y∈ps.zip us,scope.names.lookup y.1=some .local\/(scope.names.lookup y.1=some .cell/\((cellsFrom (s.heap.objs.size+1) scope.names []).lookup y.1).isSome=true):=λ⟨n,v⟩ hy=>by
  rcases S.par n (jL hy).1 with q|q
  .exact .inl q
  .exact .inr ⟨q,W.cellsFrom_some _ _ _ (.inl q)⟩
 refine codeAny_call_function L.depth (KX _ _ lk) rfl S.co S.gen rfl (W.codeRec_of KX hcd) (hb _ _ _ _ ?_);refine wpAny_newFunctionEnv_cells S.kind ad λap he U x=>?_;subst he;refine⟨ac.keeps x.toInCall.keep,codeAny_func ?_⟩;obtain⟨t,ht,hq⟩:=hbody A outer s H vs Q E (L.deeper _) Z;have I:Inv (Yw CX P w K mg base N qual scope f cdv A outer s H E) [] (Zw N vs) H U:=wj0 S L.hd z hl r x;refine aO (ht [] U (Zw N vs) H _ I hq) (λfl s' hs=>?_) λe s' hs=>hs;have ab:∀ {D:St} {H':Hp} {v:V} {u:Ag},Inv (Yw CX P w K mg base N qual scope f cdv A outer s H E) [] D H' s'->RelV v u->Q v H'->CE outer P w H s Q u s' :=
  λ{D H' v u} J F q=>⟨v,H',J.os,J.bare,J.base,J.hok,F,q⟩
 cases fl with
 |ret u =>
  obtain⟨v,D,H',J,F,q⟩:=hs;exact ab J F q
 |next =>
  obtain⟨D,H',J,q⟩:=hs;exact ab (v:=V.non) (u:=Value.none) J rfl q
 |brk =>
  obtain⟨_,_,_,q⟩:=hs;exact False.elim q
 |cont =>
  obtain⟨_,_,_,q⟩:=hs;exact False.elim q
section
variable {X:Cx}{x:Str}{p pos:Pos}{e:Expr}{es:List Expr}{t:TA}{id T:String}{r:List V->Hp->VK->Prop}
def tCB (r:List V->Hp->VK->Prop)(t:TA):TE:=λσ H Q=>t σ H λvs H1=>r vs H1 Q
theorem wj (hc:k8 X (.builtin id) r)(hg:Gl X x)(hm:X.mg x=none)(hv:bootBuiltins x=some (.builtin id))(ha:PA X (e::es) t)(hn:autoParam (x ≠ "__name__") aU2._auto_1)(hdb:autoParam ((x==("__debug__" : Str))=false) aU1._auto_1)
  (he:autoParam (starEach (e::es) X.env=(false,eval e X.env)::starEach es X.env) aU4._auto_1) (hpl:autoParam ((backTo pos (starEach es X.env)).any (·.1)=false) aU4._auto_1):PE X (.Call (.Name x p) (e::es) [] pos) (tCB r t):=by
 intro pins s σ H Q I h;refine cT (yb I hg hm hv ?_ hn hdb);exact PyProof.Rows.callWith_builtin1 (thn (ha pos pins s σ H _ I h) λus s1 ⟨vs,H1,I1,r1,q1⟩=>hc pins s1 σ H1 vs us Q I1 r1 q1) he hpl
theorem W6 (hc:k8 X (.type T) r)(hg:Gl X x)(hm:X.mg x=none)(hv:bootBuiltins x=some (.type T))(ha:PA X (e::es) t)(hn:autoParam (x ≠ "__name__") aU2._auto_1)(hdb:autoParam ((x==("__debug__" : Str))=false) aU1._auto_1)
  (he:autoParam (starEach (e::es) X.env=(false,eval e X.env)::starEach es X.env) aU4._auto_1) (hpl:autoParam ((backTo pos (starEach es X.env)).any (·.1)=false) aU4._auto_1):PE X (.Call (.Name x p) (e::es) [] pos) (tCB r t):=by
 intro pins s σ H Q I h;refine cT (yb I hg hm hv ?_ hn hdb);exact cf (thn (ha pos pins s σ H _ I h) λus s1 ⟨vs,H1,I1,r1,q1⟩=>hc pins s1 σ H1 vs us Q I1 r1 q1) he hpl
end
end L2
namespace HT
open PySem PyProof.Rows
section
open PySem.SeqAt
open PySem.AutoSeq1 (wpAny_loadPart')
open PySem.MeetsSeq PySem.MeetsSeq2 PySem.MeetsSeq3
end
section
variable {prog:Ac}{w:Ah}{A:Ae}{E:Ag->Ab->Prop}{s:Ab}
theorem cat_tup {t b:Aj}{vs ws:List Ag}{Q:Ag->Ab->Prop}(ht:IsTup s.heap t vs.toArray)(hb:IsTup s.heap b ws.toArray)(hv:vs≠[])
  (h1:ws=[]->Q (.ref t) s) (h2:ws≠[]->Q (.ref s.heap.objs.size) { s with heap:=s.heap.push { cls:=.type "tuple",data:=.seq (vs++ws).toArray } })
  (hsz:vs.length+ws.length<=sizeLine):wpAny (model prog w) A (binaryOp .Add (.ref t) (.ref b)) Q E s:=by
 obtain⟨⟨cls,dd,data,J⟩,D,hc,n,W⟩:=id ht;obtain⟨⟨ad,ab,ac,F⟩,z,Z,L,U⟩:=id hb;simp only at hc W Z U;subst hc W Z U;have e:vs.toArray++ws.toArray=(vs++ws).toArray:=by simp
 by_cases hw:ws=[]
 .exact concat_meets ⟨_,D,rfl⟩ ⟨_,z,rfl⟩ jl seq_tuple_add gE gu (fU _ _)
   (tuple_addW1 t b vs.toArray ws.toArray n L dd ab J F (by simpa using hv) (by simp[hw])) ⟨D,z,h1 hw⟩
 .refine concat_meets ⟨_,D,rfl⟩ ⟨_,z,rfl⟩ jl seq_tuple_add gE gu (fU _ _)
   (tuple_addW2 t b vs.toArray ws.toArray n L dd ab J F (by simpa using hv) (by simpa using hw) (by rw[au,au];exact hsz)) ⟨D,z,?_⟩
  rw[e];exact h2 hw
def sIx (n d:Nat):Option Int->Nat
 |none=>d
 |some v=>if v<0 then(v+(n:Int)).toNat else min v.toNat n
theorem sIx_nat (n d k:Nat):sIx n d (some (k:Int))=min k n:=by show(if(k:Int)<0 then((k:Int)+(n:Int)).toNat else min (k:Int).toNat n)=min k n;rw[ar ⋯,bQ]
end
end HT
namespace L2
open PySem PySem.Spec PyProof.Rows
abbrev TO:=St->Hp->(Option Int->Hp->Prop)->Prop
def PO (X:Cx)(e:Option Expr)(t:TO):Prop :=
 ∀(pins:List (Aj×Obj)) (s:Ab) (σ:St) (H:Hp) (Q:Option Int->Hp->Prop),Inv X pins σ H s->t σ H Q ->
  wpAny (model X.prog X.w) X.A (evalPart e X.env) (λu s'=>∃o H',Inv X pins σ H' s'/\IsPart u o/\Q o H') X.xe s
def tPart (t:TE):TO:=λσ H Q=>t σ H λx H1=>∃i,x=.int i/\Q (some i) H1
theorem Qk {ns:List Int}:∀ {us:List Ag},Vals (ns.map V.int) us->IntsAre us ns:=by
 induction ns with
 |nil=>intro us r;rw[da]at r;cases r;exact .nil
 |cons n ns ih =>
  intro us r;rw[aI]at r;cases r with
  |cons r1 r2 =>
   obtain⟨t,e⟩:=r1;subst e;exact .cons n t (ih r2)
section
variable {X:Cx}{e:Expr}{te:TE}{lo hi:Option Expr}{tl th:TO}{pos p2:Pos}
theorem wv3 (h:PE X e te):PO X (some e) (tPart te):=by intro pins s σ H Q I z;rw[evalPart_some];refine thn (h pins s σ H _ I z) λu s1 ⟨x,H1,I1,r1,q1⟩=>?_;obtain⟨i,rfl,q⟩:=q1;obtain⟨t,rfl⟩:=r1;exact⟨some i,H1,I1,.int i t,q⟩
def SlR (X:Cx)(r:V->Option Int->Option Int->Hp->VK->Prop):Prop :=
 ∀(pins:List (Aj×Obj)) (s:Ab) (σ:St) (H:Hp) (x:V) (v vl vu:Ag) (lo hi:Option Int) (sl:Aj) (Q:VK),Inv X pins σ H s->RelV x v->s.heap.IsSliceOf sl vl vu .none->IsPart vl lo->IsPart vu hi->r x lo hi H Q ->
  ∃T id,typeLookup (.type T) "__getitem__" = pure (some (.builtin id))/\s.TypeIs v T/\wpAny (model X.prog X.w) X.A (getItem v (.ref sl)) (EP X pins σ Q) X.xe s
def tSl (r:V->Option Int->Option Int->Hp->VK->Prop)(te:TE)(tl th:TO):TE:=λσ H Q=>te σ H λx H1=>tl σ H1 λl H2=>th σ H2 λu H3=>r x l u H3 Q
theorem xq9 {r:V->Option Int->Option Int->Hp->VK->Prop}(hr:SlR X r)(he:PE X e te)(hl:PO X lo tl)(hu:PO X hi th):PE X (.Subscript e (.Slice lo hi none p2) pos) (tSl r te tl th):=by intro pins s σ H Q I h;refine Subscript_ (thn (he pins s σ H _ I h) λv s1 ⟨x,H1,I1,r1,q1⟩=>?_);refine wpAny_Slice (thn (hl pins s1 σ H1 _ I1 q1) λvl s2 ⟨l,H2,I2,pl,q2⟩=>thn (hu pins s2 σ H2 _ I2 q2) λvu s3 ⟨u,H3,I3,pu,q3⟩=>?_);rw[evalPart_none];refine ai ?_;have J:Inv X pins σ H3 { s3 with heap:=s3.heap.push { cls:=.type "slice",data:=.fields #[vl,vu,.none] } }:=I3.kept (t':=s3.toks) λb L q=>ah _ q;obtain⟨T,id,F,z,D⟩:=hr pins { s3 with heap:=s3.heap.push { cls:=.type "slice",data:=.fields #[vl,vu,.none] } } σ H3 x v vl vu l u s3.heap.objs.size Q J r1 (Heap.IsSliceOf.new ..) pl pu q3;show wpAny (model X.prog X.w) X.A (subscriptTail e (.Slice lo hi none p2) v (.ref s3.heap.objs.size)) (EP X pins σ Q) X.xe { s3 with heap:=s3.heap.push { cls:=.type "slice",data:=.fields #[vl,vu,.none] } };exact tail_any (ops:=[.ref s3.heap.objs.size,v]) z F D (by with_unfolding_all rfl)
def wqf (xs:List V)(lo hi:Option Int):List V:=(xs.drop (HT.sIx xs.length 0 lo)).take (HT.sIx xs.length xs.length hi-HT.sIx xs.length 0 lo)
theorem wq1 (xs:List V)(lo hi:Option Int):(wqf xs lo hi).length<=xs.length:=by unfold wqf;rw[be,cw];lia
def rCatT (K:Aa):R2:=λx y H Q=>∃a b xs ys,x=.ref a/\y=.ref b/\SqT K H a xs/\SqT K H b ys/\xs≠[]/\xs.length+ys.length<=sizeLine /\
 (ys=[]->Q (.ref a) H)/\(ys≠[]->∀p,H p=none->Q (.ref p) (upd H p (.tup (xs++ys))))
theorem Vals.nil_iff {xs:List V}{us:List Ag}(r:Vals xs us):us=[]↔xs=[]:=by
 cases r with
 |nil=>simp
 |cons _ _=>simp
theorem xvb:OpR X (binaryOp .Add) (rCatT X.K):=by intro pins s σ H x y v u Q I U L h;obtain⟨a,b,xs,ys,rfl,rfl,ha,hb,hx,J,Z,W⟩:=h;cases U;cases L;obtain⟨ac,F,p1,_⟩:=I.tuple ha;obtain⟨ab,D,p2,_⟩:=I.tuple hb;refine HT.cat_tup p1 p2 (λz=>hx (F.nil_iff.mp z)) (λz=>⟨.ref a,H,I,rfl,Z (D.nil_iff.mp z)⟩) (λz=>?_) (by rw[<-F.length,<-D.length];exact J);refine⟨.ref s.heap.objs.size,_,I.laid (t':=s.toks) (o:=.tup (xs++ys)) (λb ob q=>ah _ q) (aj _) ?_,rfl,W (λw=>z (D.nil_iff.mpr w)) _ (I.hok.fresh (aj _))⟩;exact⟨by rw[ao];exact J,_,F.append D,IsTup.new _ _⟩
end
def ixN (n:Nat)(i:Int):Option Nat:=if 0<=i then(if i<n then some i.toNat else none) else if -(n:Int)<=i then some (i+n).toNat else none
def atI {α:Type}(xs:List α)(i:Int):Option α:=(ixN xs.length i).bind λj=>xs[j]?
theorem xv3 {n:Nat}{i:Int}{j:Nat}(h:ixN n i=some j):seqIndex? i n=some j/\j<n/\-(n:Int)<=i/\i<n:=by
 unfold ixN at h;by_cases h0:0<=i
 .rw[ay h0]at h;by_cases h1:i<n
  .rw[ay h1]at h;have e:i.toNat=j:=av h;exact⟨by rw[seqIndex_of h0 h1,e],⋯,⋯,h1⟩
  .rw[ar h1]at h;cases h
 .rw[ar h0]at h;by_cases h1:-(n:Int)<=i
  .rw[ay h1]at h;have e:(i+n).toNat=j:=av h;exact⟨by rw[seqIndex_neg ⋯ h1,e],⋯,h1,⋯⟩
  .rw[ar h1]at h;cases h
theorem wkf {α:Type}{xs:List α}{i:Int}{v:α}(h:atI xs i=some v):∃j,seqIndex? i xs.length=some j/\xs[j]?=some v/\j<xs.length/\-(xs.length:Int)<=i/\i<xs.length:=by
 unfold atI at h;cases e:ixN xs.length i with
 |none=>rw[e]at h;cases h
 |some j =>
  rw[e]at h;obtain⟨h1,h2,D,z⟩:=xv3 e;exact⟨j,h1,h,h2,D,z⟩
theorem kj {α:Type}{xs:List α}{j:Nat}{v:α}(h:xs[j]?=some v):atI xs (j:Int)=some v:=by
 have z:j<xs.length:=(al.mp h).1;have e:ixN xs.length (j:Int)=some j:=by unfold ixN;rw[ay ⋯,ay ⋯];simp
 unfold atI;rw[e];exact h
theorem Wn {α:Type}(xs:List α)(v:α):atI (xs++[v]) (-1)=some v:=by
 have z:(xs++[v]).length=xs.length+1:=by simp
 have e:ixN (xs++[v]).length (-1)=some xs.length:=by unfold ixN;rw[z,ar ⋯,ay ⋯];congr 1;lia
 unfold atI;rw[e];show(xs++[v])[xs.length]?=some v;simp
def xvy (b:Expr):Prop:=∀o i,subscripted b false o i=operate [o,i] (getItem o i)
def IxR (X:Cx)(r:R2):Prop :=
 ∀(value slice:Expr) (pins:List (Aj×Obj)) (s:Ab) (σ:St) (H:Hp) (x y:V) (v u:Ag) (Q:VK),Inv X pins σ H s->RelV x v->RelV y u->r x y H Q ->
  subscripted slice false v u=operate [v,u] (getItem v u)->wpAny (model X.prog X.w) X.A (subscriptTail value slice v u) (EP X pins σ Q) X.xe s
def MtR (X:Cx)(id:String)(r:V->List V->Hp->VK->Prop):Prop :=
 ∀(pins:List (Aj×Obj)) (s:Ab) (σ:St) (H:Hp) (x:V) (xs:List V) (v:Ag) (us:List Ag) (Q:VK),Inv X pins σ H s->RelV x v->Vals xs us->r x xs H Q ->
  wpAny (model X.prog X.w) X.A (call (.builtin id) (v::us)) (EP X pins σ Q) X.xe s
section
variable {X:Cx}{a b:Expr}{ta tb:TE}{pos:Pos}
theorem xc {r:R2}(hr:IxR X r)(ha:PE X a ta)(hb:PE X b tb)(hs:xvy b):PE X (.Subscript a b pos) (tOp r ta tb):=by intro pins s σ H Q I h;exact Subscript_ (binT ha hb I h λv u s2 x y H2 F D z q=>hr a b pins s2 σ H2 x y v u Q F D z q (hs _ _))
def wzz (K:Aa):R2:=λx y H Q=>∃p xs i v,x=.ref p/\y=.int i/\SqL K H p xs/\atI xs i=some v/\Q v H
def rIxT (K:Aa):R2:=λx y H Q=>∃p xs i v,x=.ref p/\y=.int i/\SqT K H p xs/\atI xs i=some v/\Q v H
theorem zq:IxR X (wzz X.K):=by
 intro value ac pins s σ H x y v u Q I W U h hs;obtain⟨p,xs,i,z,rfl,rfl,hq,he,q⟩:=h;cases W;obtain⟨t,rfl⟩:=U;obtain⟨ab,r,D,hz⟩:=I.list hq;obtain⟨j,h1,h2,h3,h4,h5⟩:=wkf he;obtain⟨w,L,Z⟩:=r.get h2;have hl:=r.length;have hn:=qjh;have J:EP X pins σ Q w s:=⟨z,H,I,Z,q⟩;by_cases h0:0<=i
 .have F:i.toNat=j:=by rw[seqIndex_of h0 h5]at h1;exact av h1
  exact item_listR D.isList h0 ⋯ (by rw[F];simpa using L) J hs
 .have F:(i+(ab.toArray.size:Int)).toNat=j:=by rw[seqIndex_neg ⋯ h4]at h1;rw[au,<-hl];exact av h1
  exact subscriptTail_builtinR (x:=w) D.isList.typeIs slot_list_getitem.lookup
   (wpAny_getItem_list_neg (Q:=λr s'=>r=w/\EP X pins σ Q r s') D.isList ⋯ (by rw[au] <;> lia) ⋯ (by rw[F];simpa using L) ⟨rfl,J⟩) hs
theorem kh:IxR X (rIxT X.K):=by
 intro value ac pins s σ H x y v u Q I J F h hs;obtain⟨p,xs,i,z,rfl,rfl,U,Z,q⟩:=h;cases J;obtain⟨t,rfl⟩:=F;obtain⟨ad,r,D,hz⟩:=I.tuple U;obtain⟨j,h1,h2,h3,h4,h5⟩:=wkf Z;obtain⟨w,ew,L⟩:=r.get h2;have W:=r.length;have hn:=qjh;have ab:EP X pins σ Q w s:=⟨z,H,I,L,q⟩;exact subscriptTail_builtinR (x:=w) D.typeIs slot_tuple_getitem.lookup
  (getItem_tuple (j:=j) (Q:=λr s'=>r=w/\EP X pins σ Q r s') D ⋯ ⋯ (by rw[au,<-W];exact h1) (by simpa using ew) ⟨rfl,ab⟩) hs
theorem qy4 (lo hi:Option Int)(n:Nat):(sliceBounds lo hi none n).1=((HT.sIx n 0 lo:Nat):Int)/\(sliceBounds lo hi none n).2.1=((HT.sIx n n hi:Nat):Int)/\(sliceBounds lo hi none n).2.2=1:=by
 refine⟨?_,?_,rfl⟩
 .cases lo with
  |none=>simp[sliceBounds,HT.sIx]
  |some i =>
   simp only[sliceBounds,HT.sIx,Option.getD_none,show(1:Int)>0 by decide,cI];by_cases h:i<0
   .simp only[h,cI] <;> lia
   .simp only[h,br] <;> lia
 .cases hi with
  |none=>simp[sliceBounds,HT.sIx]
  |some i =>
   simp only[sliceBounds,HT.sIx,Option.getD_none,show(1:Int)>0 by decide,cI];by_cases h:i<0
   .simp only[h,cI] <;> lia
   .simp only[h,br] <;> lia
theorem qvk (its:List Ag)(lo hi:Option Int):slicePick its.toArray lo hi none=((its.drop (HT.sIx its.length 0 lo)).take (HT.sIx its.length its.length hi-HT.sIx its.length 0 lo)).toArray:=by obtain⟨h1,h2,z⟩:=qy4 lo hi its.toArray.size;unfold slicePick;rw[h1,h2,z];simp only[sliceRange_one,pick_run,au] <;> rfl
def rSlL (K:Aa):V->Option Int->Option Int->Hp->VK->Prop:=λx lo hi H Q=>∃a xs,x=.ref a/\SqL K H a xs/\∀p,H p=none->Q (.ref p) (upd H p (.lst (wqf xs lo hi)))
theorem xzn:SlR X (rSlL X.K):=by intro pins s σ H x v vl Z lo hi sl Q I D hs J F h;obtain⟨a,xs,rfl,U,q⟩:=h;cases D;obtain⟨ab,r,z,L⟩:=I.list U;have W:=r.length;refine⟨"list",_,slot_list_getitem.lookup,z.isList.typeIs,?_⟩;refine wpAny_getItem_list_slice z.isList hs J F .none (by simp) ?_ (by rw[au] <;> lia);rw[qvk,<-W];refine⟨.ref s.heap.objs.size,_,I.laid (t':=s.toks) (o:=.lst (wqf xs lo hi)) (λb ob q=>ah _ q) (aj _) ?_,rfl,q _ (I.hok.fresh (aj _))⟩;exact⟨bI (wq1 xs lo hi) L,_,0,(r.drop (HT.sIx xs.length 0 lo)).take (HT.sIx xs.length xs.length hi-HT.sIx xs.length 0 lo),aA _ rfl⟩
theorem xf:k8 X (.builtin "len") (λxs H Q=>∃p ys,xs=[.ref p]/\(SqL X.K H p ys\/SqT X.K H p ys)/\Q (.int ys.length) H):=by
 intro pins s σ H xs Z Q I r h;obtain⟨p,ys,rfl,z,q⟩:=h;obtain⟨u,rfl,L⟩:=js r;cases L;have hn:=qjh;rcases z with z|z
 .obtain⟨U,D,F,W⟩:=I.list z;have J:=D.length;exact Calls.call_len_list F.isList (by simp only[au] <;> lia) ⟨.int ys.length,H,I.tok _,⟨s.toks+1,by rw[au,J]⟩,q⟩
 .obtain⟨U,D,F,W⟩:=I.tuple z;have J:=D.length;exact len_tuple F (by simp only[au] <;> lia) ⟨.int ys.length,H,I.tok _,⟨s.toks+1,by rw[au,J]⟩,q⟩
theorem Qc:k8 X (.type "list") (λxs H Q=>∃p ys,xs=[.ref p]/\(SqL X.K H p ys\/SqT X.K H p ys)/\∀l,H l=none->Q (.ref l) (upd H l (.lst ys))):=by
 intro pins s σ H xs us Q I r h;obtain⟨p,ys,rfl,L,q⟩:=h;obtain⟨u,rfl,rx⟩:=js r;cases rx;have ab:∀(z:List Ag),Vals ys z->ys.length<=sizeLine->∀(h':Heap) (c':Nat),(∀b o',s.heap.get? b=some o'->h'.get? b=some o') ->
   h'.get? s.heap.objs.size=some { cls:=.type "list",dict:=none,data:=.seq z.toArray c',slots:=#[] }->EP X pins σ Q (.ref s.heap.objs.size) { s with heap:=h' }:=λz D J h' c' F e =>
  ⟨.ref s.heap.objs.size,_,I.laid (t':=s.toks) F (aj _) (show ObjOk X.prog X.w _ h' _ (.lst ys) from ⟨J,z,c',D,e⟩),rfl,q _ (I.hok.fresh (aj _))⟩
 rcases L with L|L
 .obtain⟨z,D,U,J⟩:=I.list L;have ac:=D.length;obtain⟨o,W,hc,n,Z⟩:=U.isList;exact call_list_seq p (.inl rfl) W hc Z (λh' c' F e=>ab z D J h' c' F e) (by simp only[au] <;> lia)
 .obtain⟨z,D,U,J⟩:=I.tuple L;have ac:=D.length;obtain⟨o,W,hc,n,Z⟩:=U;exact call_list_seq p (.inr rfl) W hc Z (λh' c' F e=>ab z D J h' c' F e) (by simp only[au] <;> lia)
def tyV (K:Aa)(T:String)(x:V)(H:Hp):Prop:=match x with
 |.str _=>T = "str"
 |.int _=>T = "int"
 |.ref p=>(T = "list" /\ ∃xs,SqL K H p xs)\/(T = "tuple" /\ ∃o,K.lookup p=some o/\o.cls=.type "tuple" /\ o.dict=none) \/
   (T = "dict" /\ ((∃kvs,H p=some (.dK kvs))\/∃kvs,H p=some (.dT kvs)))\/(T = "set" /\ ∃S n,H p=some (.set S n))
 |_=>False
theorem tyV_is {pins:List (Aj×Obj)}{σ:St}{H:Hp}{s:Ab}{T:String}{x:V}{v:Ag}(I:Inv X pins σ H s)(r:RelV x v)(ty:tyV X.K T x H) :
  s.TypeIs v T/\∀a,v=.ref a->∃ob,s.heap.get? a=some ob/\ob.dict=none:=by
 cases x with
 |str z =>
  obtain⟨t,rfl⟩:=r;cases(show T = "str" from ty);exact⟨typeIs_str s z t,λ_ e=>nomatch e⟩
 |int i =>
  obtain⟨t,rfl⟩:=r;cases(show T = "int" from ty);exact⟨typeIs_int s i t,λ_ e=>nomatch e⟩
 |ref p =>
  cases r;rcases ty with⟨rfl,xs,U⟩|⟨rfl,o,D,W,F⟩|⟨rfl,D⟩|⟨rfl,S,n,D⟩
  .obtain⟨Z,_,L,_⟩:=I.list U;refine⟨L.isList.typeIs,λa e=>?_⟩;cases e;obtain⟨o,n,e,c,F,_⟩:=L;exact⟨o,e,F⟩
  .refine⟨⟨o,I.kIn p o D,W⟩,λa e=>?_⟩;cases e;exact⟨o,I.kIn _ o D,F⟩
  .have z:∃o,s.heap.get? p=some o/\o.ExactDict:=by
    rcases D with⟨kvs,D⟩|⟨kvs,D⟩
    .obtain⟨_,_,_,_,o,_,_,e,ex,_⟩:=I.hok p _ D;exact⟨o,e,ex⟩
    .obtain⟨_,_,_,_,o,_,_,e,ex,_⟩:=I.hok p _ D;exact⟨o,e,ex⟩
   obtain⟨o,e,ex⟩:=z;refine⟨⟨o,e,ex.1⟩,λa J=>?_⟩;cases J;exact⟨o,e,ex.2.1⟩
  .obtain⟨o,_,_,_,e,ex,_⟩:=I.hok p _ D;refine⟨⟨o,e,ex.1⟩,λa J=>?_⟩;cases J;exact⟨o,e,ex.2.1⟩
 |_=>exact False.elim ty
def tBM (K:Aa)(T:String)(r:V->List V->Hp->VK->Prop)(to:TE)(t:TA):TE:=λσ H Q=>to σ H λx H1=>tyV K T x H1/\t σ H1 λxs H2=>r x xs H2 Q
variable {o e:Expr}{es:List Expr}{to:TE}{t:TA}{name:Str}{apos cpos:Pos}{T id:String}{r:V->List V->Hp->VK->Prop}
theorem qk1 (pa:PlainAttrs T)(slot:Slot T name id)(hty:typeOf (.builtin id)=pure (.type "method_descriptor"))(hm:MtR X id r)(ho:PE X o to)(ha:PA X (e::es) t)
  (hbase:autoParam (attributeBase o name X.env (eval o X.env)=eval o X.env) aU4._auto_1)
  (hfew:autoParam (((backTo cpos (starEach (e::es) X.env)).all (λx=>!x.1)&&(backToKw cpos (keywordEach [] X.env)).all (λx=>x.1.isSome)
   && decide ((e::es).length+([]:List Keyword).length+(if([]:List Keyword).isEmpty then 0 else 1)<30))=true) aU4._auto_1)
  (hline:autoParam ((apos.endLine==cpos.line)=true) aU4._auto_1) (hs:autoParam (starEach (e::es) X.env=(false,eval e X.env)::starEach es X.env) aU4._auto_1) (hplain:autoParam ((backTo cpos (starEach es X.env)).any (·.1)=false) aU4._auto_1) :
  PE X (.Call (.Attribute o name apos) (e::es) [] cpos) (tBM X.K T r to t):=by
 intro pins s σ H Q I h;refine wpAny_Call_method_late hbase hfew hline rfl (thn (ho pins s σ H _ I h) λv s1 ⟨x,H1,I1,r1,ty,q1⟩=>?_);obtain⟨h1,h2⟩:=tyV_is I1 r1 ty;refine⟨T,id,pa,slot,hty,h1,h2,?_⟩;have z:=ha cpos pins s1 σ H1 _ I1 q1;rw[hs]at z ⊢;refine Calls.callWith_builtin (by show(false||(backTo cpos (starEach es X.env)).any (·.1))=false;rw[hplain] <;> rfl) (Calls.evalArgs_plain ?_);exact thn z λus s2 ⟨vs,H2,I2,r2,q2⟩=>hm pins s2 σ H2 x vs v us Q I2 r1 r2 q2
end
def MtM (X:Cx)(id:String)(r:V->List V->Hp->VK->Prop):Prop :=
 ∀(pins:List (Aj×Obj)) (s:Ab) (σ:St) (H:Hp) (x:V) (xs:List V) (v:Ag) (us:List Ag) (Q:VK),Inv X pins σ H s->RelV x v->Vals xs us->r x xs H Q ->
  wpAny (model X.prog X.w) X.A (call (.builtin id) (v::us)) (EP X pins σ Q) X.xe s
theorem Vals.one:∀ {x:V} {us:List Ag},Vals [x] us->∃u,us=[u]/\RelV x u
 |_,_,.cons r .nil=>⟨_,rfl,r⟩
section
variable {X:Cx}{pins:List (Aj×Obj)}{σ:St}{H:Hp}{s:Ab}{l b:Aj}{xs ys zs:List V}
theorem Inv.lset {its its':List Ag}{n:Nat}{f:Array Ag->Array Ag}{t':Nat}(I:Inv X pins σ H s)(hH:H l=some (.lst xs))
  (e:s.heap.get? l=some { cls:=.type "list",data:=.seq its.toArray n }) (hf:f its.toArray=its'.toArray) (hv:Vals ys its') (hz:ys.length<=sizeLine) :
  Inv X pins σ (upd H l (.lst ys)) { s with heap:=s.heap.update l (Obj.mapSeq f),toks:=t' }:=by
 have q:=PySem.IsL.update e f;rw[hf]at q;refine I.write (x:=l) (e:=l) (by rw[hH];exact trivial) (.inl rfl) (λF u D z=>(dc s.heap (Obj.mapSeq f) (eU D)).trans z) ⟨_,q⟩ ?_;exact⟨hz,its',_,hv,q⟩
theorem Inv.lnew {its:List Ag}{t':Nat}(I:Inv X pins σ H s)(hv:Vals ys its)(hz:ys.length<=sizeLine) :
  Inv X pins σ (upd H s.heap.objs.size (.lst ys)) { s with heap:=s.heap.push { cls:=.type "list",data:=.seq its.toArray },toks:=t' } :=
 I.laid (λ_ _ q=>ah _ q) (aj _) ⟨hz,its,0,hv,aA _ rfl⟩
theorem Inv.fresh (I:Inv X pins σ H s):H s.heap.objs.size=none:=I.hok.fresh (aj _)
theorem Inv.lstM (I:Inv X pins σ H s)(hH:H l=some (.lst xs)):xs.length<=sizeLine/\∃(its:List Ag) (n:Nat),Vals xs its/\xs.length=its.length/\s.heap.get? l=some { cls:=.type "list",data:=.seq its.toArray n }:=by obtain⟨z,its,n,r,e⟩:=I.hok l _ hH;exact⟨z,its,n,r,r.length,e⟩
theorem quy {n:Nat}(h:n<=sizeLine):Builtin.List.listTooLong n=false:=by unfold Builtin.List.listTooLong;exact bz ⋯
end
section
variable {X:Cx}
def xzp:V->List V->Hp->VK->Prop:=λx vs H Q=>∃l xs y,x=.ref l/\vs=[y]/\H l=some (.lst xs)/\xs.length<sizeLine/\Q .non (upd H l (.lst (xs++[y])))
theorem jw:MtM X "list.append" xzp:=by intro pins s σ H x vs v Z Q I L U h;obtain⟨l,xs,y,rfl,rfl,J,hz,q⟩:=h;cases L;obtain⟨u,rfl,W⟩:=U.one;obtain⟨z,D,n,r,hl,e⟩:=I.lstM J;refine call_meets F.slot_list_append ⟨_,e,rfl⟩ F.entry_list_append (F.args_list_append_2 _ _) (PySem.list_append l D.toArray n u (by rw[au];lia)) ⟨e,?_⟩;refine⟨.non,_,I.lset (its':=D++[u]) J e (by simp) (r.append (.cons W .nil)) ?_,rfl,q⟩;rw[ao,cL];lia
def xkm:V->List V->Hp->VK->Prop:=λx vs H Q=>∃l b xs zs,x=.ref l/\vs=[.ref b]/\H l=some (.lst xs)/\H b=some (.lst zs)/\xs.length+zs.length<=sizeLine/\Q .non (upd H l (.lst (xs++zs)))
theorem wyb:MtM X "list.extend" xkm:=by
 intro pins s σ H x vs v us Q I U W h;obtain⟨l,b,xs,zs,rfl,rfl,L,hB,hz,q⟩:=h;cases U;obtain⟨u,rfl,Z⟩:=W.one;cases Z;obtain⟨z,D,n,r,hl,e⟩:=I.lstM L;obtain⟨z2,J,n2,r2,ad,e2⟩:=I.lstM hB;have ab:D.toArray.size+J.toArray.size<=sizeLine:=by rw[au,au];lia
 have ac:¬ (!D.toArray.isEmpty&&Builtin.List.listTooLong (D.toArray.size+J.toArray.size))=true:=by rw[quy ab,gF];exact aH
 refine call_meets F.slot_list_extend ⟨_,e,rfl⟩ F.entry_list_extend (F.args_list_extend_2 _ _)
  (AutoSeq1.list_extend_list_list_0 l D.toArray n b J.toArray n2 ac (by rw[au];lia) ⋯) ⟨e,e2,?_⟩
 refine⟨.non,_,I.lset (its':=D++J) L e (by simp) (r.append r2) ?_,rfl,q⟩;rw[ao];lia
def rCat:R2:=λx y H Q=>∃l b xs zs,x=.ref l/\y=.ref b/\H l=some (.lst xs)/\H b=some (.lst zs)/\xs.length+zs.length<=sizeLine/\∀p,H p=none->Q (.ref p) (upd H p (.lst (xs++zs)))
theorem ww6:OpR X (binaryOp .Add) rCat:=by
 intro pins s σ H x y v u Q I L J h;obtain⟨l,b,xs,zs,rfl,rfl,W,Z,hz,q⟩:=h;cases L;cases J;obtain⟨z,F,n,r,hl,e⟩:=I.lstM W;obtain⟨z2,D,n2,U,ab,e2⟩:=I.lstM Z;refine PySem.P.add_list e e2 ?_ (by rw[au,au];lia);have ea:F.toArray++D.toArray=(F++D).toArray:=by simp
 rw[ea];exact⟨.ref _,_,I.lnew (t':=s.toks) (r.append U) (by rw[ao];lia),rfl,q _ I.fresh⟩
end
section
variable {prog:Ac}{w:Ah}{A:Ae}{E:Ag->Ab->Prop}{s:Ab}
end
section
variable {X:Cx}
end
end L2
namespace Att
open PySem PySem.W PySem.Calls PyProof.Rows
theorem qqh {P:Params}{h:Heap}:∀(ns:List Int) (vs:List Ag),WellAll P h vs (ns.map WData.int)->IntsAre vs ns:=by
 intro ns
 induction ns with
 |nil =>
  intro vs w;rw[da]at w;cases w;exact .nil
 |cons n ns ih =>
  intro vs w;rw[aI]at w;cases w with
  |cons a b =>
   cases a;exact .cons _ _ (ih _ b)
theorem wjb {l:OpenLaw}{n:Nat}(hn:l.most=some n){P:Params}{h:Heap}{args:List WData}{vals:List Ag}
  (hpre:l.row.toRowW.claim.pre args=true) (hwl:WellAll P h vals args) :
  ∃a vs ns,vals=[Value.ref a]/\args=[WData.list (ns.map WData.int)]/\h.get? a=some { cls:=.type "list",data:=.seq vs.toArray }/\IntsAre vs ns/\ns.length<=n:=by
 have L:WShape.hasAll [] args [.list .int]=true:=(pre_splitW hpre).1;have F:l.pre.holds [] { args:=args }=true:=(pre_splitW hpre).2;obtain⟨d,r,rfl,h1,h2⟩:=hasAllW_cons L;obtain rfl:=hasAllW_nil h2;obtain⟨xs,rfl,W⟩:=hasW_list h1;obtain⟨ns,rfl⟩:=items_int W;have U:ns.length<=n:=by
  unfold OpenLaw.pre at F;have D:(WTm.not (.lt (.lit (.int (n:Int))) (.len (.arg 0)))).holds [] { args:=[.list (ns.map .int)] }=true:=by have D:=(holds_andW F).1;rw[hn]at D;exact D
  have z:=condW_of D (w_not (w_lt w_lit (w_len_list (w_arg rfl))));rw[ag]at z;refine Nat.le_of_not_lt λq=>?_;have J:(n:Int)<((ns.length:Nat):Int):=by lia
  first
   |(rw[aS J]at z;exact absurd z ⋯)
   |(simp at z;lia)
 cases hwl with
 |cons w1 w2 =>
  cases w2;cases w1 with
  |list ho hall=>exact⟨_,_,ns,rfl,rfl,ho,qqh ns _ hall,U⟩
theorem wj9 (l:OpenLaw)(args:List WData):l.row.toRowW.claim.post args (.bool true) args=true :=
 postW_of (r:=l.row.toRowW) (X:=(true==true))
  (show WShape.has [] (.bool true) .bool=true by first | rfl | decide | simp[WShape.has,WShape.arms,WShape.armsAll])
  (show(WTm.eq .res (.lit (.bool true))).value [] { args:=args,res:=some (.bool true),after:=args }=some (.bool (true==true)) from w_eq_bool (w_res rfl) w_lit) rfl
theorem attach_call {l:OpenLaw}{n:Nat}{q:Ac}{loose:List Str}{XP:(Str->Option Ag)->Heap->Prop}{YP:Ah->Heap->Prop}{d:DefRec}
  (hn:l.most=some n) (hdf:d.params.defaults=[])
  (call:∀(w:Ah) (s₀ s₁:Ab) (mg mb:Str->Option Ag) (fa:Aj) (o:Obj) (pm cd doc:Ag) (a:Aj) (vs:List Ag) (ns:List Int),
   Ground q loose [] XP w s₀ mg mb s₁.heap->YP w s₁.heap ->
   s₁.heap.get? fa=some o->o.data=.func (docDef d.name d.params d.body d.scope pm cd doc)->s₁.heap.CodeRec cd d.name->mg d.name=some (.ref fa) ->
   s₁.heap.get? a=some { cls:=.type "list",data:=.seq vs.toArray }->IntsAre vs ns->ns.length<=n->s₁.gens=#[] ->
   codeAny (model l.prog w) callerA (.call (.ref fa) ⟨[.ref a],[]⟩) (λr s'=>r=.ok (.ret (.bool true))/\OldK s₁.heap s'.heap/\s'.os=s₁.os/\AllBare s'.gens) s₁) :
  WalkO q loose XP YP l.row.toRowW d [] (λf vs=>PySem.call f vs):=by
 intro w s₀ s₁ mg mb G Y fa o pm cd doc dV kV U hd ad z W hg a1 an as J a0 ap D ax;obtain rfl:dV=.none:=Dflts.none z hdf;obtain rfl:kV=.none:=Dflts.noKw z;obtain⟨a,vs,ns,rfl,rfl,L,ac,ab⟩:=wjb hn J D;refine enter_call (eJ (call w s₀ s₁ mg mb fa o pm cd doc a vs ns G Y U (fd_plain hd) ad W L ac ab hg) λr s' F=>?_);obtain⟨rfl,h2,h3,h4⟩:=F;exact⟨.inl ⟨.bool true,.bool true,[],rfl,λ_=>rfl,.bool true,wj9 l _,λ_=>⟨List.Pairwise.nil,λ_ Z=>(nomatch Z)⟩⟩,h2,h3,h4⟩
section
variable {prog:Ac}{w:Ah}{A:Ae}{E:Ag->Ab->Prop}{s:Ab}{K:Frag}
end
end Att
namespace L2
open PySem PySem.Spec PyProof.Rows
theorem Jw:∀ {vs:List Ag} {ns:List Int},IntsAre vs ns->Vals (ns.map V.int) vs
 |_,_,.nil=>.nil
 |_,_,.cons n t h=>.cons ⟨t,rfl⟩ (Jw h)
def uq (s:Stmt)(j:Nat):Stmt:=match s with
 |.ClassDef _ _ _ body _ _ _ _ _ _ _=>body.getD j (.Pass ⟨0,0,0,0⟩)
 |_=>.Pass ⟨0,0,0,0⟩
def v9 (s:Stmt):Arguments:=match s with
 |.FunctionDef _ a _ _ _ _ _ _ _ _=>a
 |_=>{ posonlyargs:=[],args:=[],vararg:=none,kwonlyargs:=[],kw_defaults:=[],kwarg:=none,defaults:=[] }
def zp (s:Stmt):List Stmt:=match s with
 |.FunctionDef _ _ b _ _ _ _ _ _ _=>b
 |_=>[]
def qp (s:Stmt):Scope:=match s with
 |.FunctionDef _ _ _ _ _ _ sc _ _ _=>sc
 |_=>{ kind:=.function,names:=[],isGenerator:=false,isCoroutine:=false }
abbrev E0:XK:=λ_ _ _=>False
structure Fun (K:Aa)(x qual:Str)(st:Stmt)(f:Aj)(fd:Ad):Prop where
 ex:∃(oc:Ag) (od:Option Aj) (kV doc pm:Ag) (an:Option Aj) (cdv ct:Ag) (osl:Array (Option Ag)),
  fd=W.fnOf x qual (v9 st) (zp st) (qp st) .none kV doc pm an cdv ct/\K.lookup f=some ⟨oc,od,.func fd,osl⟩/\W.codeIn K cdv qual=true
 kp:W.keepIn K (.ref f)=true
section
variable {P:Ac}{w:Ah}{K:Aa}{mg:Str->Option Ag}{base:Heap}
theorem Fun.binds {x qual:Str}{st:Stmt}{f:Aj}{fd:Ad}{ps:List Str}(F:Fun K x qual st f fd)
  (h:∀(kV doc pm:Ag) (an:Option Aj) (cdv ct:Ag) (us:List Ag),us.length=ps.length->bindArgs (W.fnOf x qual (v9 st) (zp st) (qp st) .none kV doc pm an cdv ct) ⟨us,[]⟩=pure (ps.zip us)):Binds K fd ps []:=by
 obtain⟨J,D,kV,doc,pm,an,cdv,ct,z,rfl,L,U⟩:=F.ex;exact .all (h kV doc pm an cdv ct)
theorem wxs {x qual:Str}{st:Stmt}{f:Aj}{oc:Ag}{od an:Option Aj}{osl:Array (Option Ag)}{kV doc pm cdv ct:Ag}(l:K.lookup f=some ⟨oc,od,.func (W.fnOf x qual (v9 st) (zp st) (qp st) .none kV doc pm an cdv ct),osl⟩)
  (c:W.codeIn K cdv qual=true) (k:W.keepIn K (.ref f)=true):Fun K x qual st f (W.fnOf x qual (v9 st) (zp st) (qp st) .none kV doc pm an cdv ct):=⟨⟨oc,od,kV,doc,pm,an,cdv,ct,osl,rfl,l,c⟩,k⟩
end
theorem wuy {A:Ae}{k:Nat}(hr:Room k A):A.units+1<cLine:=fj (Nat.add_le_add_left (by decide:1<=64) _) hr.units
theorem Jd {n:Nat}(h:n<=1000):n<sizeLine:=fj h ⋯
section
variable {X:Cx}
theorem pv (i:Nat){x:Str}{pos:Pos}(hN:autoParam (X.N[i]?=some x) aU4._auto_1)(hv:Vis X.env.scope x:=by walk_at "vs")(hd:autoParam ((x==("__debug__" : Str))=false) aU1._auto_1)
  (hcd:autoParam ((x==("__classdict__" : Str))=false) aU1._auto_1):PE X (.Name x pos) (j5 i):=pe_var hN hv hd hcd
end
theorem yx {A B:Prop}(h:B):if false=true then A else B:=by rw[ar aH];exact h
theorem Q2 {A B:Prop}(h:A):if true=true then A else B:=by rw[ay rfl];exact h
def Same (H H':Hp):Prop:=∀b o,H b=some o->H' b=some o
theorem Same.refl (H:Hp):Same H H:=λ_ _ h=>h
theorem Same.trans {H H1 H2:Hp}(a:Same H H1)(b:Same H1 H2):Same H H2:=λc o h=>b c o (a c o h)
theorem Same.free {H H':Hp}(e:Same H H'){l:Aj}(h:H' l=Option.none):H l=Option.none:=by
 cases q:H l with
 |none=>rfl
 |some o =>
  rw[e l o q]at h;cases h
theorem Same.seq {K:Aa}{H H':Hp}{a:Aj}{xs:List V}(e:Same H H')(h:SqL K H a xs):SqL K H' a xs:=by
 rcases h with (h|⟨o,h⟩)|h
 .exact .inl (.inl (e _ _ h))
 .exact .inl (.inr ⟨o,e _ _ h⟩)
 .exact .inr h
end L2
namespace L2
open PySem
def itF:Nat->Nat->Nat
 |0,x=>x
 |n+1,x=>itF n (5*x+1)
theorem wvt (a:Nat):∀b x,itF (b+a) x=itF a (itF b x)
 |0,x=>by rw[cN];rfl
 |b+1,x=>by rw[iC];exact wvt a b (5*x+1)
theorem wqz:∀n x,4*itF n x+1=5 ^ n*(4*x+1)
 |0,x=>by simp[itF]
 |n+1,x=>by show 4*itF n (5*x+1)+1=_;rw[wqz n,dY,Nat.mul_assoc];congr 1;lia
theorem wqx:∀e,∃d,d%2=1/\5 ^ (2 ^ e)=1+2 ^ (e+2)*d
 |0=>⟨1,rfl,rfl⟩
 |e+1=>by
  obtain⟨d,h1,h2⟩:=wqx e;refine⟨d+2 ^ (e+1)*(d*d),?_,?_⟩
  .rw[dY,show 2 ^ e*2*(d*d)=2*(2 ^ e*(d*d)) by grind];lia
  .have e1:5 ^ (2 ^ (e+1))=(1+2 ^ (e+2)*d) ^ 2:=by rw[show(2:Nat) ^ (e+1)=2 ^ e*2 from dY ..,Nat.pow_mul,h2]
   have z:(2:Nat) ^ (e+2)=2*2 ^ (e+1):=by rw[show e+2=(e+1)+1 by lia,dY 2 (e+1)];lia
   have D:(2:Nat) ^ (e+1+2)=4*2 ^ (e+1):=by rw[show e+1+2=(e+2)+1 by lia,dY 2 (e+2),z];lia
   rw[e1,D,z];generalize 2 ^ (e+1)=X;grind
theorem xw6 (e x:Nat):∃d,d%2=1/\itF (2 ^ e) x=x+2 ^ e*d:=by
 obtain⟨d,h1,h2⟩:=wqx e;refine⟨d*(4*x+1),?_,?_⟩
 .rw[Nat.mul_mod,h1];lia
 .have h:=wqz (2 ^ e) x;rw[h2,Nat.pow_add]at h;have z:(1+2 ^ e*2 ^ 2*d)*(4*x+1)=4*(x+2 ^ e*(d*(4*x+1)))+1:=by generalize 2 ^ e=X;grind
  lia
theorem qjn {P q r:Nat}(h:r<P):(P*q+r)%(2*P)=P*(q%2)+r:=by
 have D:q=2*(q/2)+q%2:=by lia
 have e:P*q+r=(P*(q%2)+r)+2*P*(q/2):=by
  have:P*q=P*(2*(q/2)+q%2):=by rw[<-D]
  rw[this];grind
 rw[e,Nat.add_mul_mod_self_left];refine dB ?_;rcases fJ q with z|z <;> rw[z] <;> lia
theorem qkz:∀e x j,∃k,k<2 ^ e/\itF k x%2 ^ e=j%2 ^ e
 |0,x,j=>⟨0,⋯,by rw[Nat.pow_zero,Nat.mod_one,Nat.mod_one]⟩
 |e+1,x,j=>by
  obtain⟨k,hk,hm⟩:=qkz e x j;have hP:0<2 ^ e:=jM e;have e2:2 ^ (e+1)=2*2 ^ e:=by rw[dY];lia
  by_cases c:itF k x%2 ^ (e+1)=j%2 ^ (e+1)
  .exact⟨k,⋯,c⟩
  .obtain⟨d,h1,h2⟩:=xw6 e (itF k x);refine⟨k+2 ^ e,⋯,?_⟩;rw[wvt,h2];rw[e2]at c ⊢;generalize itF k x=a at *;generalize 2 ^ e=P at *;have U:=(jN a P).symm;have L:=(jN j P).symm;have D:a%P<P:=eN _ hP;have J:a%(2*P)=P*(a/P%2)+a%P:=by have:=qjn (q:=a/P) D;rwa [<-U]at this
   have s2:j%(2*P)=P*(j/P%2)+a%P:=by have:=qjn (q:=j/P) D;rw[hm,<-L]at this;rw[hm];exact this
   have F:(a+P*d)%(2*P)=P*((a/P+d)%2)+a%P:=by have:=qjn (q:=a/P+d) D;rwa [show P*(a/P+d)+a%P=a+P*d by rw[Nat.mul_add];lia]at this
   rw[J,s2]at c;rw[F,s2];have:(a/P+d)%2=j/P%2:=by rcases fJ (a/P) with z|z <;> rcases fJ (j/P) with y|y <;> rw[z,y]at c <;> lia
   rw[this]
def lp (mask:Nat):Nat->Nat×Nat->Nat×Nat
 |0,q=>q
 |n+1,q=>lp mask n (SetTable.leap mask q.1 q.2)
theorem xwb (mask b:Nat):∀a q,lp mask (a+b) q=lp mask b (lp mask a q)
 |0,q=>by rw[cN];rfl
 |a+1,q=>by rw[iC];exact xwb mask b a _
theorem xwk (mask:Nat):∀n q,(lp mask n q).2=q.2/32 ^ n
 |0,q=>by simp[lp]
 |n+1,q=>by show(lp mask n (SetTable.leap mask q.1 q.2)).2=_;rw[xwk mask n,dY,iq,<-Nat.div_div_eq_div_mul];rfl
theorem lp_lt {mask:Nat}:∀n q,q.1<=mask->(lp mask n q).1<=mask
 |0,q,h=>h
 |n+1,q,h=>lp_lt n _ (dL (eN _ (fk _)))
theorem wvv {mask:Nat}:∀n i,i<=mask->(lp mask n (i,0)).1=itF n i%(mask+1)
 |0,i,h=>(dB (Nat.lt_succ_of_le h)).symm
 |n+1,i,h=>by
  have e:SetTable.leap mask i 0=((5*i+1)%(mask+1),0):=by simp[SetTable.leap,iq]
  show(lp mask n (SetTable.leap mask i 0)).1=itF n (5*i+1)%(mask+1);rw[e,wvv n _ (dL (eN _ (fk _)))];have z:∀n x,itF n (x%(mask+1))%(mask+1)=itF n x%(mask+1):=by
   intro n
   induction n with
   |zero=>intro x;exact Nat.mod_mod _ _
   |succ n ih =>
    intro x;show itF n (5*(x%(mask+1))+1)%(mask+1)=itF n (5*x+1)%(mask+1);rw[<-ih (5*(x%(mask+1))+1),<-ih (5*x+1)];congr 2;rw[Nat.add_mod,Nat.mul_mod,Nat.mod_mod,<-Nat.mul_mod,<-Nat.add_mod]
  exact z n _
theorem wwj {e mask:Nat}(hM:mask+1=2 ^ e){q:Nat×Nat}(h1:q.1<=mask)(h2:q.2<2 ^ 64){j:Nat}(hj:j<=mask):∃n,n<=mask+13/\(lp mask n q).1=j:=by
 have z:(lp mask 13 q).2=0:=by rw[xwk];exact Nat.div_eq_of_lt (aN h2 ⋯)
 have D:=lp_lt (mask:=mask) 13 q h1;obtain⟨k,J,F⟩:=qkz e (lp mask 13 q).1 j;refine⟨13+k,⋯,?_⟩;rw[xwb,show lp mask 13 q=((lp mask 13 q).1,0) from kK rfl z,wvv k _ D,hM,F];exact dB ⋯
def zx (t:SetTable):Nat->SetTable.Probe->SetTable.Probe
 |0,p=>p
 |n+1,p=>zx t n (t.advance p)
theorem Q4 (t:SetTable)(b:Nat):∀a p,zx t (a+b) p=zx t b (zx t a p)
 |0,p=>by rw[cN];rfl
 |a+1,p=>by rw[iC];exact Q4 t b a _
theorem qkq (t:SetTable)(p:SetTable.Probe):(t.advance p).dummy=p.dummy:=by unfold SetTable.advance;split <;> rfl
theorem qxg (t:SetTable):∀n p,(zx t n p).dummy=p.dummy
 |0,p=>rfl
 |n+1,p=>(qxg t n _).trans (qkq t p)
def rs (mask:Nat)(q:Nat×Nat):SetTable.Probe:={ j:=q.1,more:=SetTable.runEnd mask q.1-q.1,i:=q.1,perturb:=q.2,dummy:=none }
theorem qwr (t:SetTable)(q:Nat×Nat):∀r j,zx t (r+1) { j:=j,more:=r,i:=q.1,perturb:=q.2,dummy:=none }=rs t.mask (SetTable.leap t.mask q.1 q.2)
 |0,j=>rfl
 |r+1,j=>by
  show zx t (r+1) (t.advance _)=_;have e:t.advance { j:=j,more:=r+1,i:=q.1,perturb:=q.2,dummy:=none }={ j:=j+1,more:=r,i:=q.1,perturb:=q.2,dummy:=none }:=by unfold SetTable.advance;rw[ay (fk r)];rfl
  rw[e];exact qwr t q r (j+1)
theorem xvq (t:SetTable)(q:Nat×Nat):∃m,m<=10/\zx t m (rs t.mask q)=rs t.mask (SetTable.leap t.mask q.1 q.2):=by refine⟨SetTable.runEnd t.mask q.1-q.1+1,?_,qwr t q _ _⟩;unfold SetTable.runEnd;split <;> lia
theorem wwb (t:SetTable):∀n q,∃N,N<=10*n/\zx t N (rs t.mask q)=rs t.mask (lp t.mask n q)
 |0,q=>⟨0,aj _,rfl⟩
 |n+1,q=>by obtain⟨m,hm,e⟩:=xvq t q;obtain⟨N,hN,e2⟩:=wwb t n (SetTable.leap t.mask q.1 q.2);exact⟨m+N,⋯,by rw[Q4,e,e2];rfl⟩
theorem Y6 {t:SetTable}{j i:Nat}(h:t.slot j=.live i):t.place[i]?=some j:=by
 unfold SetTable.slot at h;dsimp only at h;split at h
 .rename_i c;cases h;simpa using c
 .split at h <;> cases h
theorem qzb {t:SetTable}(hd:t.dummies=#[])(j:Nat):t.slot j=.empty\/∃i,t.slot j=.live i:=by
 unfold SetTable.slot;dsimp only;split
 .exact .inr ⟨_,rfl⟩
 .have:SetTable.has t.dummies j=false:=by rw[hd];simp[SetTable.has]
  rw[this];exact .inl rfl
theorem qxt:∀(l l':List Nat),l.Nodup->(∀a∈l,a∈l')->l.length<=l'.length
 |[],_,_,_=>aY _
 |a::l,l',hn,hs=>by have hn':=dQ.mp hn;have ha:=hs a (.head _);have:=qxt l (l'.erase a) hn'.2 λb hb=>(List.mem_erase_of_ne (λz=>by subst z;exact hn'.1 hb)).mpr (hs b (.tail _ hb));rw[List.length_erase,ay ha]at this;have hp:0<l'.length:=List.length_pos_of_mem ha;rw[aP];lia
theorem wy6 {t:SetTable}(hd:t.dummies=#[])(hz:t.place.size<=t.mask):∃j,j<=t.mask/\t.slot j=.empty:=by
 apply iO;intro c;have:=qxt (List.range (t.mask+1)) t.place.toList gR λa D=>by
  have z:a<=t.mask:=dL (aq.mp D);rcases qzb hd a with h|⟨i,h⟩
  .exact absurd ⟨a,z,h⟩ c
  .have e:=Y6 h;exact gY.mpr (Array.mem_of_getElem? e)
 rw[aE,aV]at this;lia
theorem wkk (h:Int):SetTable.bits h<2 ^ 64:=by unfold SetTable.bits;lia
theorem wuq {t:SetTable}{e:Nat}(hM:t.mask+1=2 ^ e)(hd:t.dummies=#[])(hz:t.place.size<=t.mask)(h:Int):∃N,N<=10*(t.mask+13)/\t.slot (zx t N (t.probeStart h)).j=.empty:=by obtain⟨j,z,hs⟩:=wy6 hd hz;obtain⟨n,J,D⟩:=wwj hM (q:=(SetTable.bits h%(t.mask+1),SetTable.bits h)) (dL (eN _ (fk _))) (wkk h) z;obtain⟨N,L,F⟩:=wwb t n (SetTable.bits h%(t.mask+1),SetTable.bits h);refine⟨N,⋯,?_⟩;show t.slot (zx t N (rs t.mask (SetTable.bits h%(t.mask+1),SetTable.bits h))).j=.empty;rw[F];show t.slot (lp t.mask n _).1=.empty;rw[D];exact hs
inductive MetOk (t:SetTable) (p:SetTable.Probe) (N:Nat):SetTable.Met->Prop
 |empty (j:Nat):MetOk t p N (.empty j none)
 |cand (m i:Nat) (hm:m<N) (hs:t.slot (zx t m p).j=.live i):MetOk t p N (.candidate (zx t m p).j i (zx t (m+1) p))
def liveL (mask:Nat)(owner:Array (Option Nat)):List (Nat×Nat):=(List.range (mask+1)).filterMap λj=>(owner.getD j none).map (j,·)
structure OwnI (mask:Nat)(owner:Array (Option Nat))(k:Nat):Prop where
 size:owner.size=mask+1
 len:(liveL mask owner).length=k
 low:∀j v:Nat,owner[j]?=some (some v)->v<k
end L2
namespace L2
open PySem PySem.Spec PyProof.Rows
theorem nin {b:Aj}:b∉([]:List Aj):=λz=>nomatch z
theorem xz1 {K:Aa}{h:Heap}{C:Aj}{bmB:List Ag}{newId:String}(X:K.In h)(q:W.excIn K C bmB newId=true) :
  ∃tl N a1 a2 a3 a4 a5 a6 a7 a8 a9 b0 b1 b2 b3 b5 mN,h.get? C=some (excClassObj a1 a2 C N a3 tl a4 a5 a6 a7 a8 a9 b0 b1 b2 b3 b5 newId) /\
   h.Ns N mN/\mN "__init__" = none/\OwnTail h bmB tl:=by
 unfold W.excIn at q;split at q
 .next dd cd sl ho =>
  split at q
  .next C1 tl x0 x1 x2 x3 nn x5 hm hs =>
   rw[cJ,cJ,cJ,cJ,cJ]at q;obtain⟨⟨⟨⟨⟨p1,p2⟩,Z⟩,J⟩,z⟩,F⟩:=q;have ac:=eq_of_beq p1;have ab:=eq_of_beq p2;have D:=eq_of_beq F;have U:cd.hasDel=false:=by simpa using Z
   subst ac ab;obtain⟨f1,f2,f3,f4,f5,f6,f7,f8,f9,ax,as⟩:=cd;have ap:f3=Value.ref C1::tl:=hm;have L:as=false:=U;subst ap L;have an:sl=#[x0,x1,x2,x3,some (.builtin nn),x5]:=by
    cases sl with
    |mk l =>
     have:l=[x0,x1,x2,x3,some (.builtin nn),x5]:=hs;rw[this]
   subst an;have ad:=W.isNs_of_in X z;exact⟨tl,f4,f1,f5,f2,f6,f7,f8,f9,ax,dd,x0,x1,x2,x3,x5,_,X _ _ ho,.of_isNs ad,W.nsMap_none_of_in X z D,W.tail_of_in X J⟩
  .exact absurd q ⋯
 .exact absurd q ⋯
def CXE (P:Ac)(w:Ah):CXT:=λouter H s E e s' =>
 ∃(a C:Aj) (a0:Ag) (B:Heap) (H':Hp),e=.ref a/\s'.os=s.os/\AllBare s'.gens/\Un (frs outer) [] H H' s.heap s'.heap/\HOk P w H' B /\
  Heap.FlyingW B outer a (.ref C) a0 s'.heap/\(∀b o,s.heap.get? b=some o->b∉frs outer->∃o',B.get? b=some o'/\(H b=none->o'=o))/\E (.ref C) none H'
theorem CXE.no {P:Ac}{w:Ah}{outer:List Env}{H:Hp}{s s':Ab}{e:Ag}(h:CXE P w outer H s E0 e s'):False:=by obtain⟨_,_,_,_,_,_,_,_,_,_,_,_,q⟩:=h;exact q
def u7 (X:Cx)(E:St->XK):Prop:=∀(pins:List (Aj×Obj)) (σ:St) (H:Hp) (s:Ab) (e:Ag) (s':Ab),Inv X pins σ H s->CXE X.prog X.w X.stack H s (E σ) e s'->X.xe e s'
theorem jq {X:Cx}:u7 X (λ_=>E0):=λ_ _ _ _ _ _ _ h=>h.no.elim
def xqy (X:Cx)(E:St->XK):Prop:=∀(pins:List (Aj×Obj)) (σ:St) (H:Hp) (s:Ab) (h':Heap) (e C:Aj) (vs:List Ag),Inv X pins σ H s->Heap.MadeExcOf s.heap h' e (.ref C) vs->E σ (.ref C) none H->X.xe (.ref e) { s with heap:=h' }
theorem ww3 {env:Env}{L:Aj}{outer:List Env}(h:env.frame=some L):frs (env::outer)=L::frs outer:=by unfold frs;rw[eT,h]
section
variable {P:Ac}{w:Ah}{K:Aa}{mg:Str->Option Ag}{base:Heap}{N:List Str}{qual:Str}{scope:Scope}{f:Aj}{cdv:Ag}{A:Ae}{outer:List Env}{s0:Ab}{H0:Hp}{E:XK}
theorem qu:u7 (Yw (CXE P w) P w K mg base N qual scope f cdv A outer s0 H0 E) (λ_=>E):=by
 intro pins σ H s e s' I hx;obtain⟨a,C,a0,B,H',rfl,a2,a5,W,a3,ad,a1,q⟩:=hx;have F:=I.base;have hL:∀b o,s0.heap.get? b=some o->b≠s0.heap.objs.size:=λb o e z=>aW _ (z▸ak e);have ab:frs (envOfC qual scope s0.heap.objs.size f cdv::outer)=s0.heap.objs.size::frs outer:=ww3 rfl;have a4:∀b o,s0.heap.get? b=some o->b∉frs outer->b∉frs (envOfC qual scope s0.heap.objs.size f cdv::outer):=λb o e n=>by
  rw[ab];intro z;rcases aM.mp z with z|z
  .exact hL b o e z
  .exact n z
 have ac:∀b o,s0.heap.get? b=some o->b∉frs outer->∃o',B.get? b=some o'/\(H0 b=none->o'=o):=λb o e n=>by obtain⟨o1,D⟩:=F.there b o e nin;obtain⟨o2,L,U⟩:=a1 b o1 D (a4 b o e n);refine⟨o2,L,λz=>?_⟩;have Z:=F.keep b o e z n nin;have e5:=F.free b o e z nin;rw[D]at Z;rw[U e5];exact av Z
 refine wpAny_leaves_onW I.ok.frames rfl ad λh' an as=>?_;have ax:∀b,b∈frs outer->∀o,s0.heap.get? b=some o->H0 b=none->∃sl,h'.get? b=some { o with slots:=sl }:=λb J o e n=>by obtain⟨sl,D⟩:=F.slot b o e n J nin;obtain⟨a6,L⟩:=W.slot b _ D (F.free b o e n nin) (by show b∈frs (envOfC qual scope s0.heap.objs.size f cdv::outer);rw[ab];exact .tail _ J) nin;obtain⟨_,o3,U,nf⟩:=ad.2.2.1.mem (b:=b) (by show b∈frs (envOfC qual scope s0.heap.objs.size f cdv::outer);rw[ab];exact .tail _ J);obtain⟨ap,Z⟩:=as b o3 U nf;rw[L]at U;have e5:=av U;exact⟨ap,by rw[Z,<-e5]⟩
 refine⟨a,C,a0,B,H',rfl,a2.trans I.os,a5,⟨λb o e n nb _=>?_,λb o e n J _=>ax b J o e n,λb o e n _=>?_,λb o e _=>?_,λb xs e=>W.tups b xs (F.tups b xs e),λb o u e=>W.frzs b o u (F.frzs b o u e),λb ps e=>?_⟩,a3,an,ac,q⟩
 .obtain⟨o',D,L⟩:=ac b o e nb;rw[L n]at D;exact an.1 b o D
 .obtain⟨o1,D⟩:=F.there b o e nin;exact W.free b o1 D (F.free b o e n nin) nin
 .by_cases J:b∈frs outer
  .obtain⟨o1,D⟩:=F.there b o e nin;obtain⟨o2,L⟩:=W.there b o1 D nin;obtain⟨_,o3,U,nf⟩:=ad.2.2.1.mem (b:=b) (by show b∈frs (envOfC qual scope s0.heap.objs.size f cdv::outer);rw[ab];exact .tail _ J);obtain⟨ap,Z⟩:=as b o3 U nf;exact⟨_,Z⟩
  .obtain⟨o',D,_⟩:=ac b o e J;exact⟨o',an.1 b o' D⟩
 .obtain⟨m1,D⟩:=F.tbls b ps e;obtain⟨m2,L⟩:=W.tbls b _ D;exact⟨m1++m2,by rw[L,Array.append_assoc]⟩
theorem vg:xqy (Yw (CXE P w) P w K mg base N qual scope f cdv A outer s0 H0 E) (λ_=>E):=by
 intro pins σ H s h' e C vs I hx q;have L:=I.base;have ax:frs (envOfC qual scope s0.heap.objs.size f cdv::outer)=s0.heap.objs.size::frs outer:=ww3 rfl;have a2:∀b o,s0.heap.get? b=some o->b∉frs outer->b∉frs (envOfC qual scope s0.heap.objs.size f cdv::outer):=λb o e n=>by
  rw[ax];intro z;rcases aM.mp z with z|z
  .exact aW _ (z▸ak e)
  .exact n z
 have a3:∀b∈frs (envOfC qual scope s0.heap.objs.size f cdv::outer),H b=none:=I.stkFree;have hB:∀b o,s.heap.get? b=some o->b∉frs (envOfC qual scope s0.heap.objs.size f cdv::outer)->(W.hideAll s.heap (frs (envOfC qual scope s0.heap.objs.size f cdv::outer))).get? b=some o:=λb o e n=>W.hideAll_get _ e n;have a1:HOk P w H (W.hideAll s.heap (frs (envOfC qual scope s0.heap.objs.size f cdv::outer))):=λb u D=>by
  refine(I.hok b u D).stay (λc v hc ec=>hB c v ec λhm=>?_) (λ_ z=>z) (λ_ _ z=>z);have hn:=a3 c hm;rcases hc with rfl|hc
  .rw[hn]at D;cases D
  .rw[hn]at hc;cases hc
 have ab:∀b o,s0.heap.get? b=some o->b∉frs outer->∃o',(W.hideAll s.heap (frs (envOfC qual scope s0.heap.objs.size f cdv::outer))).get? b=some o'/\(H0 b=none->o'=o):=λb o e n=>by obtain⟨o1,F⟩:=L.there b o e nin;refine⟨o1,hB b o1 F (a2 b o e n),λz=>?_⟩;have U:=L.keep b o e z n nin;rw[F]at U;exact av U
 have ap:s.heap.FunFrames base (envOfC qual scope s0.heap.objs.size f cdv::outer):=I.stack;have a4:=W.funFrames_hide (as:=frs (envOfC qual scope s0.heap.objs.size f cdv::outer)) ap (λa6 he b D=>fY.mpr ⟨a6,he,D⟩);refine wpAny_leaves_madeW (base:=W.hideAll s.heap (frs (envOfC qual scope s0.heap.objs.size f cdv::outer))) (h:=s.heap) I.ok.frames rfl (λb o e=>W.of_hideAll _ e) a4 hx λa5 t ac _ _ a0=>?_;have ad:∀b,b∈frs outer->∃o,s.heap.get? b=some o/\∃sl,a5.get? b=some { o with slots:=sl }:=λb D=>by obtain⟨_,o3,J,nf⟩:=ap.mem (b:=b) (by show b∈frs (envOfC qual scope s0.heap.objs.size f cdv::outer);rw[ax];exact .tail _ D);exact⟨o3,J,a0 b o3 (hx.keeps b o3 J) nf⟩
 refine⟨e,C,.ref t,_,H,rfl,I.os,I.bare,⟨λb o F n nb _=>?_,λb o F n D _=>?_,λb o F n _=>L.free b o F n nin,λb o F _=>?_,L.tups,L.frzs,L.tbls⟩,a1,ac,ab,q⟩
 .obtain⟨o',Z,J⟩:=ab b o F nb;rw[J n]at Z;exact ac.1 b o Z
 .obtain⟨sl,Z⟩:=L.slot b o F n D nin;obtain⟨o3,J,an,U⟩:=ad b D;rw[Z]at J;have e5:=av J;exact⟨an,by rw[U,<-e5]⟩
 .by_cases D:b∈frs outer
  .obtain⟨o3,J,an,U⟩:=ad b D;exact⟨_,U⟩
  .obtain⟨o',Z,_⟩:=ab b o F D;exact⟨o',ac.1 b o' Z⟩
end
section
variable {P:Ac}{w:Ah}{K:Aa}{mg:Str->Option Ag}{base:Heap}
end
def qjw (sp:Sp)(E:St->XK)(t:TA):TE:=λσ H Q=>t σ H λvs H1=>sp vs H1 Q (E σ)
def qyq (C:Aj)(m:Str)(sp:Sp)(E:St->XK)(ta:TE)(t:TA):TE:=λσ H Q=>ta σ H λx H1=>∃a dx fs,x=.ref a/\H1 a=some (.ins C dx fs)/\fs.lookup m=none /\
 t σ H1 λvs H2=>sp (x::vs) H2 Q (E σ)
def xx4 (C:Aj)(sp:Sp)(E:St->XK)(t:TA):TE:=λσ H Q=>t σ H λvs H1=>∀x dx,H1 x=none->H1 dx=none->dx≠x ->
 sp (.ref x::vs) (upd (upd H1 dx (.own x)) x (.ins C dx [])) (λv H2=>v=.non/\Q (.ref x) H2) (E σ)
section
variable {X:Cx}{k:Nat}{f C:Aj}{fd:Ad}{ps:List Str}{sp:Sp}{E:St->XK}{x m:Str}{p pos apos:Pos}{e o:Expr}{es:List Expr}{ta:TE}{t:TA}
theorem qy7 {pins:List (Aj×Obj)}{σ:St}{H:Hp}{s:Ab}{Q:VK}{us:List Ag}{vs:List V}(F:FnOk X.prog X.w X.K X.mg X.base (CXE X.prog X.w) k f fd ps sp)(hr:Room k X.A)(hb:Binds X.K fd ps [])(hx:u7 X E)
  (I:Inv X pins σ H s) (r:Vals vs us) (h:sp vs H Q (E σ)):wpAny (model X.prog X.w) X.A (call (.ref f) us) (EP X pins σ Q) X.xe s:=by
 have J:(us++[]).length=ps.length:=by rw[bP,<-r.length];exact F.len _ _ _ _ h
 have D:=hb s us I.kIn J;rw[bP]at D;refine jJ (eJ (F.run X.A X.stack s H ⟨us,[]⟩ us vs Q (E σ) hr I.env0 D r h) λr s' z=>?_);cases r with
 |error e=>exact hx pins σ H s e s' I z
 |ok fl =>
  cases fl with
  |ret u=>exact I.after z
  |next=>exact False.elim z
  |brk=>exact False.elim z
  |cont=>exact False.elim z
theorem wu7 (F:FnOk X.prog X.w X.K X.mg X.base (CXE X.prog X.w) k f fd ps sp)(hr:Room k X.A)(hg:Gl X x)(hm:X.mg x=some (.ref f))(hk:W.keepIn X.K (.ref f)=true)(hb:Binds X.K fd ps [])(hx:u7 X E)
  (ha:PA X (e::es) t) (hdb:autoParam ((x==("__debug__" : Str))=false) aU1._auto_1) (he:autoParam (starEach (e::es) X.env=(false,eval e X.env)::starEach es X.env) aU4._auto_1) (hpl:autoParam ((backTo pos (starEach es X.env)).any (·.1)=false) aU4._auto_1) :
  PE X (.Call (.Name x p) (e::es) [] pos) (qjw sp E t):=by
 intro pins s σ H Q I h;refine cT (Yd I hg hm ?_ hdb);refine gf (h₀:=X.base) I.ok.mod.kin hk (thn (ha pos pins s σ H _ I h) λus s1 ⟨vs,H1,I1,r,q⟩=>⟨I1.kIn,?_⟩) he hpl;exact qy7 F hr hb hx I1 r q
theorem xwn {pl:Sem Bool}(he:PE X o ta)(c:Cls X.K C)(hm:Meth X.K C m f)(F:FnOk X.prog X.w X.K X.mg X.base (CXE X.prog X.w) k f fd ps sp)(hr:Room k X.A)(hb:Binds X.K fd ps [])(hx:u7 X E)(ha:PA X (e::es) t)
  (hst:autoParam (starEach (e::es) X.env=(false,eval e X.env)::starEach es X.env) aU4._auto_1) (hpl:autoParam ((backTo pos (starEach es X.env)).any (·.1)=false) aU4._auto_1)
  (ht:autoParam (eval (.Call (.Attribute o m apos) (e::es) [] pos) X.env=(do
   let ov <-eval o X.env
   standAt apos.atName
   let (f,first) <-holding [ov] (getMethod ov m pl)
   callWith pos f first (backTo pos (starEach (e::es) X.env)) (backToKw pos (keywordEach [] X.env)))) aU4._auto_1) :
  PE X (.Call (.Attribute o m apos) (e::es) [] pos) (qyq C m sp E ta t):=by
 intro pins s σ H Q I h;refine W.methodCall_KW (pl:=pl) (thn (he pins s σ H _ I h) λu s1 ⟨x,H1,I1,rx,a,dx,fs,ex,ea,l,q⟩=>?_) ht;subst ex;obtain rfl:u=Value.ref a:=rx;refine qx9 I1 ea c hm l ?_;refine gf (first:=[.ref a]) (h₀:=X.base) I.ok.mod.kin hm.kp (thn (ha pos pins s1 σ H1 _ I1 q) λus s2 ⟨vs,H2,I2,r,q2⟩=>⟨I2.kIn,?_⟩) hst hpl;exact qy7 (us:=.ref a::us) (vs:=.ref a::vs) F hr hb hx I2 (.cons rfl r) q2
theorem wy3 {pl:Sem Bool}(he:PE X o ta)(c:Cls X.K C)(hm:Meth X.K C m f)(F:FnOk X.prog X.w X.K X.mg X.base (CXE X.prog X.w) k f fd ps sp)(hr:Room k X.A)(hb:Binds X.K fd ps [])(hx:u7 X E)
  (ht:autoParam (eval (.Call (.Attribute o m apos) [] [] pos) X.env=(do
   let ov <-eval o X.env
   standAt apos.atName
   let (f,first) <-holding [ov] (getMethod ov m pl)
   callWith pos f first (backTo pos (starEach [] X.env)) (backToKw pos (keywordEach [] X.env)))) aU4._auto_1) :
  PE X (.Call (.Attribute o m apos) [] [] pos) (qyq C m sp E ta qxp):=by
 intro pins s σ H Q I h;refine W.methodCall_KW (pl:=pl) (thn (he pins s σ H _ I h) λu s1 ⟨x,H1,I1,rx,a,dx,fs,ex,ea,l,q⟩=>?_) ht;subst ex;obtain rfl:u=Value.ref a:=rx;refine qx9 I1 ea c hm l ?_;exact W.callWith_K0 (first:=[.ref a]) I1.kIn hm.kp (qy7 (us:=[.ref a]) (vs:=[.ref a]) F hr hb hx I1 (.cons rfl .nil) q)
theorem wyc {pins:List (Aj×Obj)}{σ:St}{H:Hp}{s:Ab}{Q:VK}{us:List Ag}{vs:List V}(M:Mk X.K C f)(F:FnOk X.prog X.w X.K X.mg X.base (CXE X.prog X.w) k f fd ps sp)(hr:Room (k+1) X.A)(hb:Binds X.K fd ps [])
  (hx:u7 X E) (I:Inv X pins σ H s) (r:Vals vs us)
  (h:∀x dx,H x=none->H dx=none->dx≠x->sp (.ref x::vs) (upd (upd H dx (.own x)) x (.ins C dx [])) (λv H2=>v=.non/\Q (.ref x) H2) (E σ)) :
  wpAny (model X.prog X.w) X.A (call (.ref C) us) (EP X pins σ Q) X.xe s:=by
 have L:=h (s.heap.objs.size+1) s.heap.objs.size (I.hok.fresh (jT _)) (I.hok.fresh (aj _)) (aC (eV _));have D:=Inv.made (C:=C) I;have J:Vals (V.ref (s.heap.objs.size+1)::vs) (Value.ref (s.heap.objs.size+1)::us):=.cons rfl r;have hl:((Value.ref (s.heap.objs.size+1)::us)++[]).length=ps.length:=by rw[bP,<-J.length];exact F.len _ _ _ _ L
 have U:=hb _ (Value.ref (s.heap.objs.size+1)::us) D.kIn hl;rw[bP]at U;refine jJ (xzv (f:=f) I.kIn M.makes M.init (fZ.mp M.fn) (eJ (F.run _ X.stack _ _ ⟨Value.ref (s.heap.objs.size+1)::us,[]⟩ (Value.ref (s.heap.objs.size+1)::us) _ _ (E σ) (hr.make C us [])
  (D.env0.make C us []) U J L) λr s' z=>?_))
 cases r with
 |error e=>exact hx pins σ _ _ e s' D z
 |ok fl =>
  cases fl with
  |ret u =>
   obtain⟨v,H',I3,W,ev,Z⟩:=D.after z;subst ev;exact⟨W,⟨V.ref (s.heap.objs.size+1),H',I3,rfl,Z⟩⟩
  |next=>exact False.elim z
  |brk=>exact False.elim z
  |cont=>exact False.elim z
theorem xx3 (M:Mk X.K C f)(F:FnOk X.prog X.w X.K X.mg X.base (CXE X.prog X.w) k f fd ps sp)(hr:Room (k+1) X.A)(hg:Gl X x)(hm:X.mg x=some (.ref C))(hb:Binds X.K fd ps [])(hx:u7 X E)
  (ha:PA X (e::es) t) (hdb:autoParam ((x==("__debug__" : Str))=false) aU1._auto_1) (he:autoParam (starEach (e::es) X.env=(false,eval e X.env)::starEach es X.env) aU4._auto_1) (hpl:autoParam ((backTo pos (starEach es X.env)).any (·.1)=false) aU4._auto_1) :
  PE X (.Call (.Name x p) (e::es) [] pos) (xx4 C sp E t):=by
 intro pins s σ H Q I h;refine cT (Yd I hg hm ?_ hdb);refine gf (h₀:=X.base) I.ok.mod.kin M.kp (thn (ha pos pins s σ H _ I h) λus s1 ⟨vs,H1,I1,r,q⟩=>⟨I1.kIn,?_⟩) he hpl;exact wyc M F hr hb hx I1 r q
end
structure ExcC (K:Aa)(C:Aj):Prop where
 q:W.excIn K C [.type "ValueError",.type "Exception",.type "BaseException",.type "object"] "ValueError.__new__" = true
def tRaise (C:Aj)(E:St->XK)(t:TA):TS:=λD σ H=>t σ H λvs H1=>vs.length<=sizeLine/\E σ (.ref C) none H1
section
variable {X:Cx}{C:Aj}{E:St->XK}{x:Str}{np cpos pos:Pos}{e:Expr}{es:List Expr}{t:TA}
theorem jg (hc:X.calm=true)(c:ExcC X.K C)(hR:xqy X E)(hg:Gl X x)(hm:X.mg x=some (.ref C))(ha:PA X (e::es) t)(hdb:autoParam ((x==("__debug__" : Str))=false) aU1._auto_1)
  (he:autoParam (starEach (e::es) X.env=(false,eval e X.env)::starEach es X.env) aU4._auto_1) (hpl:autoParam ((backTo cpos (starEach es X.env)).any (·.1)=false) aU4._auto_1) :
  PS X (.Raise (some (.Call (.Name x np) (e::es) [] cpos)) none pos) (tRaise C E t):=by
 intro pins s σ H D I h;obtain⟨tl,N,a1,a2,a3,a4,a5,a6,a7,a8,a9,b0,b1,b2,b3,Z,mN,W,U,L,T⟩:=xz1 I.ok.mod.kin c.q;refine wpAny_Raise_call_subT (C:=C) (nm:=a1) (q:=a2) (N:=N) (bs:=a3) (bm:=tl) (hdct:=a4) (sn:=a5) (sub:=a6) (ab:=a7) (col:=a8) (dd:=a9) (k0:=b0) (k1:=b1) (k2:=b2) (k3:=b3) (k5:=Z)
  iD (mN:=mN) (T.hasType iD.hasBase) (I.ok.hd hc) (by rw[he];show(false||(backTo cpos (starEach es X.env)).any (·.1))=false;rw[hpl];rfl) L (Yd I hg hm ⟨rfl,?_⟩ hdb)
 have F:=ha cpos pins s σ H _ I h;rw[he]at F ⊢;refine Calls.evalArgs_plain (aO F (λus s1 ⟨vs,H1,I1,r,hl,q⟩=>⟨rfl,by rw[<-r.length];exact hl,I1.bk _ _ W,U.keeps I1.bk,T.keeps I1.bk,λh' e J=>hR pins σ H1 s1 h' e C us I1 J q⟩) λ_ _ z=>z)
end
def Sm (n:Nat)(i:Int):Prop:=i.natAbs<2 ^ n
theorem Sm.bits {n:Nat}{i:Int}(h:Sm n i):Builtin.Int.intBits i<=n:=PyProof.Rows.intBits_le h
theorem Sm.mono {n m:Nat}{i:Int}(h:Sm n i)(hm:n<=m):Sm m i:=aN h (dG ⋯ hm)
theorem Sm.mul {n m:Nat}{i j:Int}(h:Sm n i)(h':Sm m j):Sm (n+m) (i*j):=by unfold Sm at *;rw[gG,Nat.pow_add];exact Nat.mul_lt_mul_of_lt_of_le h (bn h') (jM m)
theorem Sm.of_le {n:Nat}{i j:Int}(h:Sm n j)(e:i.natAbs<=j.natAbs):Sm n i:=fj e h
theorem Sm.ok {n m:Nat}{i j:Int}(h:Sm n i)(h':Sm m j)(e:n+m<=134217728):IntMulOk i j:=IntMulOk.of_le h.bits h'.bits e
theorem Sm.log {n:Nat}{i:Int}(h:Sm n i)(hn:n<=9000):i.natAbs.log2<9000:=by
 by_cases h0:i.natAbs=0
 .rw[h0];decide
 .exact aN ((Nat.log2_lt h0).mpr h) hn
theorem Sm.noPl {n:Nat}{i j:Int}(h:Sm n j)(hn:n<=9000):Builtin.divisionGoesByPylong i j=false:=PyProof.noPylong_of_log2 (h.log hn)
section
variable {X:Cx}
theorem w8:OpR X (binaryOp .Mult) (rI IntMulOk λi j=>.int (i*j)):=opI λ_ _ _ _ _ _ _ hc q=>mul_int q hc
theorem jd:OpR X (binaryOp .FloorDiv) (rI (λ_ j=>0<j/\Sm 9000 j) λi j=>.int (i/j)):=opI λi j _ _ _ _ _ hc q =>
 floordiv_int ⋯ (by rw[Int.fdiv_eq_ediv_of_nonneg i (eK hc.1)];exact q) (.inl (hc.2.noPl (aj _)))
theorem jb:k8 X (.builtin "isinstance") (λxs H Q=>∃x T t b,xs=[x,.ty T]/\TyOf X.K H x t/\W.kitOne X.K t (.type T)=some b/\Q (.bl b) H):=by intro pins s σ H xs F Q I r h;obtain⟨x,T,t,b,rfl,ty,e,q⟩:=h;obtain⟨u,J,rfl,D,z⟩:=wub r;cases z;exact wk8 I D ty e λtk=>⟨.bl b,H,I.tok tk,rfl,q⟩
end
mutual
def RD (K:Aa)(H:Hp):PyData->V->Prop
 |.none,v=>v=.non
 |.bool b,v=>v=.bl b
 |.int i,v=>v=.int i
 |.str x,v=>v=.str x
 |.list ds,v=>∃a xs,v=.ref a/\SqL K H a xs/\RDs K H ds xs
 |.tuple ds,v=>∃a xs,v=.ref a/\SqT K H a xs/\RDs K H ds xs
 |.dict _,_=>False
def RDs (K:Aa)(H:Hp):List PyData->List V->Prop
 |[],xs=>xs=[]
 |d::ds,xs=>∃y ys,xs=y::ys/\RD K H d y/\RDs K H ds ys
end
section
variable {X:Cx}{pins:List (Aj×Obj)}{σ:St}{H:Hp}{s:Ab}
mutual
theorem Wk (I:Inv X pins σ H s):∀(d:PyData) (v:V) (u:Ag),RD X.K H d v->RelV v u->∃as,Reads s.heap u d as
 |.none,v,u,h,r=>by rw[RD]at h;subst h;cases(show u=Value.none from r);exact⟨_,.none⟩
 |.bool b,v,u,h,r=>by rw[RD]at h;subst h;cases(show u=Value.bool b from r);exact⟨_,.bool b⟩
 |.int i,v,u,h,r=>by rw[RD]at h;subst h;obtain⟨t,rfl⟩:=(show ∃t,u=Value.int i t from r);exact⟨_,.int i t⟩
 |.str x,v,u,h,r=>by rw[RD]at h;subst h;obtain⟨t,rfl⟩:=(show ∃t,u=Value.str x t from r);exact⟨_,.str x t⟩
 |.list ds,v,u,h,r=>by rw[RD]at h;obtain⟨a,xs,rfl,hs,hd⟩:=h;cases(show u=Value.ref a from r);obtain⟨its,rv,⟨o,n,e1,e2,_,e3⟩,_⟩:=I.list hs;obtain⟨as,ha⟩:=Jy I ds xs its hd rv;exact⟨_,.list e1 e2 e3 (by simpa using ha)⟩
 |.tuple ds,v,u,h,r=>by rw[RD]at h;obtain⟨a,xs,rfl,hs,hd⟩:=h;cases(show u=Value.ref a from r);obtain⟨its,rv,⟨o,e1,e2,n,e3⟩,_⟩:=I.tuple hs;obtain⟨as,ha⟩:=Jy I ds xs its hd rv;exact⟨_,.tuple e1 e2 e3 (by simpa using ha)⟩
 |.dict _,_,_,h,_=>by rw[RD]at h;exact h.elim
theorem Jy (I:Inv X pins σ H s):∀(ds:List PyData) (vs:List V) (us:List Ag),RDs X.K H ds vs->Vals vs us->∃as,ReadsAll s.heap us ds as
 |[],vs,us,h,r=>by rw[RDs]at h;subst h;cases r;exact⟨_,.nil⟩
 |d::ds,vs,us,h,r=>by
  rw[RDs]at h;obtain⟨y,ys,rfl,h1,h2⟩:=h;cases r with
  |cons r1 r2 =>
   obtain⟨as,a1⟩:=Wk I d y _ h1 r1;obtain⟨bs,a2⟩:=Jy I ds ys _ h2 r2;exact⟨_,.cons a1 a2⟩
end
def rEqD (K:Aa)(neg:Bool):R2:=λx y H Q=>∃d e,RD K H d x/\RD K H e y/\d.canLay0=true/\e.canLay0=true/\min d.depth e.depth<=60/\Q (.bl (if neg then !PyData.eqv d e else PyData.eqv d e)) H
theorem xwc (hu:X.A.units+64<cLine):OpR X (compareOp .Eq) (rEqD X.K false):=by intro pins s σ H x y v u Q I D z h;obtain⟨d,e,h1,h2,J,F,W,q⟩:=h;obtain⟨as,U⟩:=Wk I d x v h1 D;obtain⟨Z,L⟩:=Wk I e y u h2 z;exact PySem.SeqAt.compareEq_reads U L J F ⋯ ⟨.bl _,H,I,rfl,q⟩
theorem wx3 (hu:X.A.units+64<cLine):OpR X (compareOp .NotEq) (rEqD X.K true):=by intro pins s σ H x y v u Q I D z h;obtain⟨d,e,h1,h2,J,F,W,q⟩:=h;obtain⟨as,U⟩:=Wk I d x v h1 D;obtain⟨Z,L⟩:=Wk I e y u h2 z;exact PySem.SeqAt.compareNe_reads U L J F ⋯ ⟨.bl _,H,I,rfl,q⟩
end
def ptD (p:Int×Int):PyData:=.tuple [.int p.1,.int p.2]
theorem qz0:∀(xs ys:List Int),PyData.eqvAll (xs.map .int) (ys.map .int)=decide (xs=ys)
 |[],[]=>rfl
 |[],_::_=>rfl
 |_::_,[]=>rfl
 |x::xs,y::ys=>by
  rw[aI,aI,PyData.eqvAll,qz0 xs ys,PyData.eqv];by_cases h:x=y
  .subst h;simp
  .simp[h]
theorem wxf (p q:Int×Int):PyData.eqv (ptD p) (ptD q)=decide (p=q):=by obtain⟨a,b⟩:=p;obtain⟨c,d⟩:=q;unfold ptD;rw[PyData.eqv];have:=qz0 [a,b] [c,d];rw[aI,aI,da,aI,aI,da]at this;rw[this];simp
theorem wvm:∀(xs ys:List (Int×Int)),PyData.eqvAll (xs.map ptD) (ys.map ptD)=decide (xs=ys)
 |[],[]=>rfl
 |[],_::_=>rfl
 |_::_,[]=>rfl
 |x::xs,y::ys=>by
  rw[aI,aI,PyData.eqvAll,wvm xs ys,wxf];by_cases h:x=y
  .subst h;simp
  .simp[h]
theorem wqu:∀(xs:List Int),PyData.canLayAll0 (xs.map .int)=true
 |[]=>rfl
 |x::xs=>by rw[aI,PyData.canLayAll0,wqu xs];rfl
theorem wk2:∀(xs:List (Int×Int)),PyData.canLayAll0 (xs.map ptD)=true
 |[]=>rfl
 |x::xs=>by rw[aI,PyData.canLayAll0,wk2 xs];rfl
theorem qu3:∀(xs:List Int),PyData.depthAll (xs.map .int)<=1
 |[]=>by simp[PyData.depthAll]
 |x::xs=>by have:=qu3 xs;simp only[aI,PyData.depthAll,PyData.depth];lia
theorem wvw:∀(xs:List (Int×Int)),PyData.depthAll (xs.map ptD)<=2
 |[]=>by simp[PyData.depthAll]
 |x::xs=>by have:=wvw xs;simp only[aI,PyData.depthAll,PyData.depth,ptD];lia
theorem wkb {K:Aa}{H:Hp}:∀(xs:List Int),RDs K H (xs.map .int) (xs.map V.int)
 |[]=>by rw[da,da,RDs]
 |x::xs=>by rw[aI,aI,RDs];exact⟨_,_,rfl,by rw[RD],wkb xs⟩
end L2
namespace L2
open PySem PySem.Spec PyProof.Rows
section
variable {P:Ac}{w:Ah}{K:Aa}{mg:Str->Option Ag}{base:Heap}
theorem Fun.okX {x qual:Str}{st:Stmt}{f:Aj}{fd:Ad}{N ps:List Str}{k:Nat}{sp:Sp}(F:Fun K x qual st f fd)(S:FnScope N ps (qp st))(len:∀vs H Q E,sp vs H Q E->vs.length=ps.length)
  (body:∀(cdv:Ag) (A:Ae) (outer:List Env) (s:Ab) (H:Hp) (vs:List V) (Q:VK) (E:XK),Room k (A.deeper (envOfC qual (qp st) s.heap.objs.size f cdv))->sp vs H Q E ->
   ∃t,PSs (Yw (CXE P w) P w K mg base N qual (qp st) f cdv A outer s H E) (zp st) t/\t { nx:=λ_ H'=>Q .non H',rt:=Q } (Zw N vs) H):FnOk P w K mg base (CXE P w) (k+1) f fd ps sp:=by
 obtain⟨Z,W,kV,ab,pm,an,cdv,ct,U,rfl,z,L⟩:=F.ex;exact xzj z L S len λA outer s H vs Q E J D=>body cdv A outer s H vs Q E J D
structure DefIn (K:Aa)(x:Str)(st:Stmt):Prop where
 ex:∃f fd,W.nsIn K mainGlobals x=some (some (.ref f))/\Fun K x x st f fd
theorem def_mk {x:Str}{st:Stmt}{f:Aj}{oc:Ag}{od an:Option Aj}{osl:Array (Option Ag)}{kV doc pm cdv ct:Ag}(a:W.nsIn K mainGlobals x=some (some (.ref f)))
  (l:K.lookup f=some ⟨oc,od,.func (W.fnOf x x (v9 st) (zp st) (qp st) .none kV doc pm an cdv ct),osl⟩) (c:W.codeIn K cdv x=true) (k:W.keepIn K (.ref f)=true):DefIn K x st:=⟨_,_,a,wxs l c k⟩
def xj (x:Str)(st:Stmt)(ps:List Str):Prop:=∀(kV doc pm:Ag) (an:Option Aj) (cdv ct:Ag) (us:List Ag),us.length=ps.length->bindArgs (W.fnOf x x (v9 st) (zp st) (qp st) .none kV doc pm an cdv ct) ⟨us,[]⟩=pure (ps.zip us)
theorem bA1 {f}{ps:List Str}{u:List Ag}(h:u.length=1)(k:∀a,bindArgs f ⟨[a],[]⟩=pure (ps.zip [a])):bindArgs f ⟨u,[]⟩=pure (ps.zip u):=match u,h with|[a],_=>k a
theorem bA2 {f}{ps:List Str}{u:List Ag}(h:u.length=2)(k:∀a b,bindArgs f ⟨[a,b],[]⟩=pure (ps.zip [a,b])):bindArgs f ⟨u,[]⟩=pure (ps.zip u):=match u,h with|[a,b],_=>k a b
theorem bA3 {f}{ps:List Str}{u:List Ag}(h:u.length=3)(k:∀a b c,bindArgs f ⟨[a,b,c],[]⟩=pure (ps.zip [a,b,c])):bindArgs f ⟨u,[]⟩=pure (ps.zip u):=match u,h with|[a,b,c],_=>k a b c
theorem bA4 {f}{ps:List Str}{u:List Ag}(h:u.length=4)(k:∀a b c d,bindArgs f ⟨[a,b,c,d],[]⟩=pure (ps.zip [a,b,c,d])):bindArgs f ⟨u,[]⟩=pure (ps.zip u):=match u,h with|[a,b,c,d],_=>k a b c d
structure Cal (P:Ac)(w:Ah)(K:Aa)(mg:Str->Option Ag)(base:Heap)(x:Str)(k:Nat)(sp:Sp):Prop where
 ex:∃f fd ps,mg x=some (.ref f)/\FnOk P w K mg base (CXE P w) k f fd ps sp/\W.keepIn K (.ref f)=true/\Binds K fd ps []
theorem DefIn.cal {x:Str}{st:Stmt}{ps:List Str}{k:Nat}{sp:Sp}{h:Heap}(d:DefIn K x st)(KX:K.In h)(G:h.Ns mainGlobals mg)(b:xj x st ps)(ok:∀f fd,Fun K x x st f fd->FnOk P w K mg base (CXE P w) k f fd ps sp):Cal P w K mg base x k sp:=by obtain⟨f,fd,a,F⟩:=d.ex;exact⟨f,fd,ps,bS KX G a,ok f fd F,F.kp,F.binds b⟩
end
section
variable {X:Cx}{x:Str}{k:Nat}{sp:Sp}{E:St->XK}{p pos:Pos}{e:Expr}{es:List Expr}{t:TA}
theorem qm (c:Cal X.prog X.w X.K X.mg X.base x k sp)(hr:Room k X.A)(hg:Gl X x)(hx:u7 X E)
  (ha:PA X (e::es) t) (hdb:autoParam ((x==("__debug__" : Str))=false) aU1._auto_1) (he:autoParam (starEach (e::es) X.env=(false,eval e X.env)::starEach es X.env) aU4._auto_1) (hpl:autoParam ((backTo pos (starEach es X.env)).any (·.1)=false) aU4._auto_1) :
  PE X (.Call (.Name x p) (e::es) [] pos) (qjw sp E t):=by
 obtain⟨f,fd,ps,D,F,z,b⟩:=c.ex;exact wu7 F hr hg D z b hx ha hdb he hpl
end
def tCut (t u:TS):TS:=λD σ H=>∃R:St->Hp->Prop,t { D with nx:=R } σ H/\∀σ' H',R σ' H'->u D σ' H'
theorem xvf {X:Cx}{st:Stmt}{rest:List Stmt}{t u:TS}(h1:PS X st t)(h2:PSs X rest u):PSs X (st::rest) (tCut t u):=by
 intro pins s σ H D I ⟨R,h,hR⟩;refine ja (thn (h1 pins s σ H { D with nx:=R } I h) λf F q=>?_);cases f with
 |next =>
  obtain⟨z,H1,L,J⟩:=q;exact h2 pins F z H1 D L (hR z H1 J)
 |brk=>exact q
 |cont=>exact q
 |ret u=>exact q
theorem jc {c A B:Prop}[Decidable c](h1:c->A)(h2:¬ c->B):if decide c=true then A else B:=by
 by_cases h:c
 .rw[aS h];exact Q2 (h1 h)
 .rw[bz h];exact yx (h2 h)
theorem deqI {i j:Int}:decide (V.int i=V.int j)=decide (i=j):=by
 by_cases h:i=j
 .subst h;simp
 .simp[h]
theorem u8 {i j:Int}{A B:Prop}(h1:i=j->A)(h2:i≠j->B):if decide (V.int i=V.int j)=true then A else B:=by rw[deqI];exact jc h1 h2
theorem xN {i j:Int}{A B:Prop}(k:B)(h:autoParam (i≠j) aU1._auto_1):if decide (V.int i=V.int j)=true then A else B:=u8 (λz=>absurd z h) (λ_=>k)
theorem Same.upd {H:Hp}{p:Aj}{o:HO}(n:H p=none):Same H (upd H p o):=λb u e=>by rw[qt (q9 e n)];exact e
theorem Same.rd {H H':Hp}{a:Aj}{o:HO}(h:Same H H')(r:Rd H a o):Rd H' a o:=by
 rcases r with r|⟨u,r⟩
 .exact .inl (h a _ r)
 .exact .inr ⟨u,h a _ r⟩
theorem Same.sqt {K:Aa}{H H':Hp}{a:Aj}{xs:List V}(h:Same H H')(s:SqT K H a xs):SqT K H' a xs:=by
 rcases s with s|s
 .exact .inl (h.rd s)
 .exact .inr s
theorem Same.sql {K:Aa}{H H':Hp}{a:Aj}{xs:List V}(h:Same H H')(s:SqL K H a xs):SqL K H' a xs:=h.seq s
theorem SqT.new {K:Aa}{H:Hp}{p:Aj}{xs:List V}:SqT K (upd H p (.tup xs)) p xs:=SqT.of upd_same
theorem SqL.new {K:Aa}{H:Hp}{p:Aj}{xs:List V}:SqL K (upd H p (.lst xs)) p xs:=SqL.of upd_same
theorem Wh:bootBuiltins "abs" = some (.builtin "abs"):=by decide +kernel
theorem qub:bootBuiltins "all" = some (.builtin "all"):=by decide +kernel
theorem qwv {ns:List Int}{i:Int}(h0:0<=i)(h1:i<ns.length):atI (ns.map V.int) i=some (V.int (ns.getD i.toNat 0)):=by
 have z:i.toNat<ns.length:=by lia
 have e:(ns.map V.int)[i.toNat]?=some (V.int (ns.getD i.toNat 0)):=by rw[aw,af,ae z];rfl
 have:=kj e;rwa [cn h0]at this
def wwr (ns:List Int)(i:Int):Int:=if i<ns.length then ns.getD i.toNat 0 else if(ns.length:Int)=0 then 7*i+3 else ns.getD (i%ns.length).toNat 0+1009*i
def divs (c:Int):Nat->Int
 |0=>c
 |n+1=>divs c n/1000
def qk8 (K:Aa):Sp:=λvs H Q _=>∃(a:Aj) (ns:List Int) (i:Int),vs=[.ref a,.int i]/\SqL K H a (ns.map V.int)/\0<=i/\∀r,r=wwr ns i->Q (.int r) H
def uu (c:Int):Int:=if c<0 then -c else c
def qj1 (c t:Int):Int:=(c%1000003*48271+t*7919+101)%999983
def wq9 (c t:Int):Int:=(qj1 c t*qj1 c t+c%1000003*31+t*104729)%1000033
def wqc (c t:Int):Int:=if 10 ^ 18<=uu c then(if c<0 then divs (uu c) t.toNat%1000 else divs (uu c) t.toNat) else(wq9 c t*wq9 c t+qj1 c t*17+t*30011)%999979
def wwc (ns:List Int)(i t m:Int):Int:=wqc (wwr ns i) t%m
theorem xq7 (ns:List Int)(i t m:Int)(h:0<m):0<=wwc ns i t m:=bF _ ⋯
theorem xxb (ns:List Int)(i t m:Int)(h:0<m):wwc ns i t m<m:=bh _ h
theorem xxr {c t:Int}(h:10 ^ 18<=uu c)(n:c<0):wqc c t=divs (uu c) t.toNat%1000:=by rw[wqc,ay h,ay n]
theorem wjk {c t:Int}(h:10 ^ 18<=uu c)(n:¬ c<0):wqc c t=divs (uu c) t.toNat:=by rw[wqc,ay h,ar n]
theorem xwt {c t:Int}(h:¬ 10 ^ 18<=uu c):wqc c t=(wq9 c t*wq9 c t+qj1 c t*17+t*30011)%999979:=by rw[wqc,ar h]
def Z1 (K:Aa):Sp:=λvs H Q _=>∃(a:Aj) (ns:List Int) (i t m:Int),vs=[.ref a,.int i,.int t,.int m]/\SqL K H a (ns.map V.int)/\0<=i/\0<=t/\t<1000000/\0<m /\
 ∀r,r=wwc ns i t m->0<=r->r<m->Q (.int r) H
theorem Sm.small {n:Nat}{i:Int}(h1:-(2 ^ 64)<=i)(h2:i<=2 ^ 64)(hn:65<=n):Sm n i:=by refine Sm.mono (n:=65) ?_ hn;unfold Sm;lia
theorem sz1 {x:V}:[x].length<=sizeLine:=by show 1<=sizeLine;decide
theorem sz2 {x y:V}:[x,y].length<=sizeLine:=by show 2<=sizeLine;decide
theorem sz0:([]:List V).length<=sizeLine:=by show 0<=sizeLine;decide
end L2
namespace L2
open PySem
def Jg (x y:Int):Int:=((Nat.gcd x.toNat y.toNat:Nat):Int)
theorem wj8 {x:Int}(h:0<=x):Jg x 0=x:=by unfold Jg;have:(0:Int).toNat=0:=rfl;rw[this,Nat.gcd_zero_right];lia
theorem wjr {x y:Int}(hx:0<=x)(hy:0<y):Jg y (x%y)=Jg x y:=by
 unfold Jg;have e:(x%y).toNat=x.toNat%y.toNat:=by
  have h1:x=(x.toNat:Int):=by lia
  have h2:y=(y.toNat:Int):=by lia
  have z:x%y=((x.toNat%y.toNat:Nat):Int):=by
   conv=>lhs;rw[h1,h2]
   exact(Int.natCast_emod _ _).symm
  rw[z];exact bQ _
 rw[e,Nat.gcd_comm y.toNat,<-Nat.gcd_rec,Nat.gcd_comm]
theorem wvx (t:Int):uu t=(t.natAbs:Int):=by unfold uu;split <;> lia
theorem qjs (t:Int):0<=uu t:=by rw[wvx];lia
theorem kn (t b:Int):Jg (uu t) b=((Nat.gcd t.natAbs b.toNat:Nat):Int):=by unfold Jg;rw[wvx,bQ]
def gOf (t b:Int):Int:=Jg (uu t) b
def ww (t b:Int):Int×Int:=(t/gOf t b,b/gOf t b)
theorem j6 {t b:Int}(h:1<=b):1<=gOf t b:=by unfold gOf;rw[kn];have:0<Nat.gcd t.natAbs b.toNat:=Nat.gcd_pos_of_pos_right _ ⋯;lia
theorem xqs {t b:Int}(h:1<=b):gOf t b<=b:=by unfold gOf;rw[kn];have:Nat.gcd t.natAbs b.toNat<=b.toNat:=Nat.gcd_le_right _ ⋯;lia
theorem wjw {t b:Int}(h:1<=b):gOf t b∣b:=by
 unfold gOf;rw[kn];have h1:((Nat.gcd t.natAbs b.toNat:Nat):Int)∣(b.toNat:Int):=jo.mpr (Nat.gcd_dvd_right _ _);have h2:(b.toNat:Int)=b:=by lia
 rwa [h2]at h1
theorem wjq {t b:Int}:gOf t b∣t:=by unfold gOf;rw[kn];have h1:((Nat.gcd t.natAbs b.toNat:Nat):Int)∣(t.natAbs:Int):=jo.mpr (Nat.gcd_dvd_left _ _);exact Int.dvd_natAbs.mp h1
theorem qkb {t b:Int}:gOf t b*(t/gOf t b)=t:=gZ wjq
theorem qqu {t b:Int}(h:1<=b):gOf t b*(b/gOf t b)=b:=gZ (wjw h)
theorem zt {t b:Int}(h:1<=b):(ww t b).1*b=t*(ww t b).2:=by
 unfold ww;dsimp only;have h1:=qkb (t:=t) (b:=b);have h2:=qqu (t:=t) (b:=b) h
 conv=>lhs;rw[<-h2]
 conv=>rhs;rw[<-h1]
 rw[h1,h2];have D:t/gOf t b*b=t/gOf t b*(gOf t b*(b/gOf t b)):=by rw[h2]
 have z:t*(b/gOf t b)=gOf t b*(t/gOf t b)*(b/gOf t b):=by rw[h1]
 rw[D,z,<-d7,bu (t/gOf t b)]
theorem zy {t b:Int}(h:1<=b):1<=(ww t b).2:=by
 show 1<=b/gOf t b;have h2:=qqu (t:=t) (b:=b) h;have D:=j6 (t:=t) h;have:0<b/gOf t b:=by
  rcases cP 0 (b/gOf t b) with z|z
  .exact z
  .have:=ba z (show 0<=gOf t b by lia);rw[h2,Int.mul_zero]at this;lia
 lia
theorem Q7 {t b:Int}(h:1<=b):(ww t b).2<=b:=Int.ediv_le_self _ ⋯
theorem Qh {t b:Int}(h:1<=b):gOf (ww t b).1 (ww t b).2=1:=by
 have h3:=j6 (t:=t) h;have Z:=zy (t:=t) h;obtain⟨g,z⟩:∃g:Nat,gOf t b=(g:Int):=⟨_,by unfold gOf;exact kn t b⟩;have L:0<g:=by lia
 have J:g=Nat.gcd t.natAbs b.toNat:=by
  have:(g:Int)=((Nat.gcd t.natAbs b.toNat:Nat):Int):=by rw[<-z];unfold gOf;exact kn t b
  lia
 have U:g*(ww t b).1.natAbs=t.natAbs:=by have:=qkb (t:=t) (b:=b);have e:=bV Int.natAbs this;rw[gG,z]at e;simpa [ww,z] using e
 have W:g*(ww t b).2.toNat=b.toNat:=by
  have:=qqu (t:=t) (b:=b) h;rw[z]at this;have q:(ww t b).2=b/(g:Int):=by unfold ww;rw[z]
  have D:b/(g:Int)=((b/(g:Int)).toNat:Int):=by rw[<-q];lia
  rw[q];rw[D]at this;have:((g*(b/(g:Int)).toNat:Nat):Int)=b:=by rw[ic];exact this
  lia
 unfold gOf;rw[kn];have F:g*Nat.gcd (ww t b).1.natAbs (ww t b).2.toNat=g*1:=by rw[<-Nat.gcd_mul_left,U,W,<-J,Nat.mul_one]
 have:=Nat.eq_of_mul_eq_mul_left L F;rw[this];rfl
theorem xv2 {t b c:Int}(h:1<=b)(hc:1<=c):gOf (t*c) (b*c)=gOf t b*c:=by
 unfold gOf;rw[kn,kn];have J:(t*c).natAbs=t.natAbs*c.toNat:=by
  rw[gG];have:c.natAbs=c.toNat:=by lia
  rw[this]
 have F:(b*c).toNat=b.toNat*c.toNat:=by
  have D:b=(b.toNat:Int):=by lia
  have z:c=(c.toNat:Int):=by lia
  have:b*c=((b.toNat*c.toNat:Nat):Int):=by rw[ic,<-D,<-z]
  lia
 rw[J,F,Nat.gcd_mul_right,ic];have:(c.toNat:Int)=c:=by lia
 rw[this]
theorem qwu {t b c:Int}(h:1<=b)(hc:1<=c):ww (t*c) (b*c)=ww t b:=by unfold ww;rw[xv2 h hc];have hg:=j6 (t:=t) h;rw[fA _ _ (show 0<c by lia),fA _ _ (show 0<c by lia)]
end L2
namespace L2
open PySem PySem.Spec PyProof.Rows
def CapAll (env:Env):List (Str×Aj)->Prop
 |[]=>True
 |(y,c)::r=>env.cells.lookup y=some c/\CapAll env r
theorem CapAll.look {env:Env}:∀ {cl:List (Str×Aj)},CapAll env cl->∀ {y:Str} {c:Aj},cl.lookup y=some c->env.cells.lookup y=some c
 |[],_,_,_,e=>by cases e
 |(z,d)::r,h,y,c,e=>by
  rw[bw]at e;cases hb:y==z with
  |true =>
   rw[hb]at e;rw[eq_of_beq hb];exact h.1.trans e
  |false =>
   rw[hb]at e;exact CapAll.look h.2 e
def HasAll (cl:List (Str×Aj)):List (Str×NameKind)->Prop
 |[]=>True
 |(n,k)::r=>(k=.free->∃c,cl.lookup n=some c)/\k≠.cell/\HasAll cl r
theorem HasAll.nocell {cl:List (Str×Aj)}:∀ {ns:List (Str×NameKind)},HasAll cl ns->∀y∈ns,y.2≠.cell
 |(n,k)::r,h,y,hy=>by
  rcases aM.mp hy with rfl|hy
  .exact h.2.1
  .exact HasAll.nocell h.2.2 y hy
theorem HasAll.has {cl:List (Str×Aj)}{env:Env}:∀ {ns:List (Str×NameKind)},HasAll cl ns->∀ {x:Str} {q:NameKind},q=.cell\/q=.free ->
  (ns.map λ(n,k)=>if(k==NameKind.free&&env.scope.kind==.function&&env.kindOf n==some .cell) then(n,NameKind.cell) else(n,k)).lookup x=some q->∃c,cl.lookup x=some c
 |[],_,_,_,_,e=>by cases e
 |(n,k)::r,h,x,q,hq,e=>by
  have ih:=HasAll.has (env:=env) h.2.2 (x:=x) hq;rw[aI]at e;by_cases hc:(k==NameKind.free&&env.scope.kind==.function&&env.kindOf n==some .cell)=true
  .have e':=e;dsimp only at e';rw[ay hc,bw]at e';cases hb:x==n with
   |true =>
    rw[cJ,cJ]at hc;obtain⟨c,hcc⟩:=h.1 (eq_of_beq hc.1.1);exact⟨c,by rw[eq_of_beq hb];exact hcc⟩
   |false =>
    rw[hb]at e';exact ih e'
  .have e':=e;dsimp only at e';rw[ar hc,bw]at e';cases hb:x==n with
   |true =>
    rw[hb]at e';have ek:k=q:=av e';rcases hq with rfl|rfl
    .exact absurd ek h.2.1
    .obtain⟨c,hcc⟩:=h.1 ek;exact⟨c,by rw[eq_of_beq hb];exact hcc⟩
   |false =>
    rw[hb]at e';exact ih e'
def CapIx (X:Cx)(scope:Scope)(cl:List (Str×Aj)):List Nat->Prop
 |[]=>True
 |j::r=>(∃y c,X.N[j]?=some y/\X.env.scope.names.lookup y=some .cell/\(relabel scope X.env).names.lookup y=some .cell/\cl.lookup y=some c)/\CapIx X scope cl r
theorem CapIx.get {X:Cx}{scope:Scope}{cl:List (Str×Aj)}:∀ {M:List Nat},CapIx X scope cl M->∀ {k j:Nat},M[k]?=some j ->
  ∃y c,X.N[j]?=some y/\X.env.scope.names.lookup y=some .cell/\(relabel scope X.env).names.lookup y=some .cell/\cl.lookup y=some c
 |[],_,k,j,e=>by cases e
 |i::r,h,0,j,e=>by cases e;exact h.1
 |i::r,h,k+1,j,e=>CapIx.get h.2 (k:=k) e
def Qt (X:Cx)(x:Str)(M:List Nat):List Str:=x::M.map λj=>X.N.getD j Str.empty
def zj (M:List Nat)(σ:St)(o:Option V):St:=o::M.map λj=>(σ[j]?).join
abbrev zf (X:Cx)(scope:Scope)(cl:List (Str×Aj))(x:Str)(M:List Nat)(C:Aj)(s2:Ab)(H2:Hp)(fp:List Aj)(pn:List (Aj×Obj)):Cx :=
 { X with N:=Qt X x M,s₀:=s2,H₀:=H2,env:=compEnvC scope cl C X.env,outer:=X.stack,ex:=fp,fn:=λ_=>false,pn:=pn,xe:=λ_ _=>False }
section
variable {X:Cx}{pins:List (Aj×Obj)}{σ:St}{H:Hp}{s2:Ab}{scope:Scope}{cl:List (Str×Aj)}{x:Str}{M:List Nat}{fp:List Aj}{C:Aj}{h1:Heap}{tk:Nat}
theorem Inv.compG {oo:HO}{xs:List Str}(I:Inv X pins σ H s2)(hc:CapAll X.env cl)(hh:HasAll cl scope.names)(hm:CapIx X scope cl M)(hk:scope.kind=.function)(hC:s2.heap.objs.size<C)
  (keep:∀b o,s2.heap.get? b=some o->h1.get? b=some o) (hn:h1.Ns C λ_=>none) (hD:ObjOk X.prog X.w (upd H s2.heap.objs.size oo) h1 s2.heap.objs.size oo)
  (hfp:∀b∈fp,vy X pins H b) (hob:∀b∈fp,∃o,s2.heap.get? b=some o) :
  Inv { X with N:=xs++M.map λj=>X.N.getD j Str.empty,s₀:=s2,H₀:=H,env:=compEnvC scope cl C X.env,outer:=X.stack,ex:=fp,fn:=λ_=>false,pn:=X.pn++pins,xe:=λ_ _=>False } [] ((xs.map λ_=>none)++M.map λj=>(σ[j]?).join) (upd H s2.heap.objs.size oo) { s2 with heap:=h1,toks:=tk }:=by
 have ap:=I.hok.fresh (a:=s2.heap.objs.size) (aj _);have o:=I.ok;have L:∀y c,cl.lookup y=some c->X.env.cells.lookup y=some c:=λy c e=>hc.look e;have an:∀b∈fp,b<s2.heap.objs.size:=λb U=>by obtain⟨J,e⟩:=hob b U;exact ak e
 have ac:∀b∈fp,b∉frs X.stack:=λb U z=>by
  rcases aM.mp (I.stkSub b z) with z|z
  .exact(hfp b U).2.1 z
  .exact(hfp b U).2.2.1 z
 have as:H C=none:=I.hok.fresh (bn hC);refine⟨⟨o.mod,hk,o.glob,o.blt,bn hC,λy z c F D=>o.inj y z c (L y c F) (L z c D),λy Z=>?_,λy c z=>(aH z).elim,o.hd,o.frames,.inl rfl,λb U=>⟨aC (bb (an b U) hC),λy c e=>(hfp b U).2.2.2.2.1 y c (L y c e)⟩,
  λb J e=>I.bs b J e,bI o.bsz I.sz,λb J e z=>?_,ac,I.stack,I.stkFree⟩,rfl,I.bare,?_,?_,λy c e=>?_,?_,λy c e=>?_,λp hp=>?_,?_,?_⟩
 .rcases Z with Z|Z
  .exact hh.has (.inl rfl) Z
  .exact hh.has (.inr rfl) Z
 .obtain⟨F,D⟩:=I.bs b J e;exact(hfp b z).2.2.2.1.elim (λq=>o.noex b J e q) λq=>by have:=o.bs b J e;exact aW _ (aN (ak this.1) q)
 .exact(Un.laid (fs:=frs X.stack) (ex:=fp) (o:=oo) keep (aj _) ap)
 .refine⟨_,hn,λi z v F D e3=>?_⟩;rcases bo i xs.length with hi|hi
  .have D:((xs.map λ_=>(none:Option V))++M.map λj=>(σ[j]?).join)[i]?=some (some v):=D;rw[aT (by rw[ag];exact hi),aw,ae hi]at D;cases D
  have W:(xs++M.map λj=>X.N.getD j Str.empty)[i]?=some z:=F;have ab:((xs.map λ_=>(none:Option V))++M.map λj=>(σ[j]?).join)[i]?=some (some v):=D;rw[aG hi]at W;rw[aG (by rw[ag];exact hi),ag]at ab;generalize i-xs.length=k at W ab;rw[aw]at W ab;cases hj:M[k]? with
  |none=>rw[hj]at W;cases W
  |some j =>
   rw[hj]at W ab;obtain⟨y,c,f1,f2,f3,f4⟩:=hm.get hj;have ez:X.N.getD j Str.empty=z:=av W;rw[af,f1]at ez;have ax:y=z:=ez;subst ax;have ev:(σ[j]?).join=some v:=av ab;have a0:σ[j]?=some (some v):=by
    cases hs:σ[j]? with
    |none=>rw[hs]at ev;cases ev
    |some w' =>
     rw[hs]at ev;have:w'=some v:=ev;rw[this]
   obtain⟨m,a1,hl⟩:=I.loc;obtain⟨u,r,l⟩:=hl j y v f1 a0 (.inr (.inl f2));refine⟨u,r,.inr ⟨.inl f3,c,f4,?_⟩⟩;rcases l with⟨lk,_⟩|⟨_,c',lc,li⟩
   .have:X.env.scope.names.lookup y=some .local:=lk;rw[f2]at this;cases this
   .rw[L y c f4]at lc;have:=av lc;subst this;exact li.keeps keep
 .obtain⟨v,hv⟩:=I.cell y c (L y c e);exact⟨v,hv.keeps keep⟩
 .show upd H s2.heap.objs.size oo C=none;rw[qt (fM hC)];exact as
 .show upd H s2.heap.objs.size oo c=none;obtain⟨v,J,F,D⟩:=I.cell y c (L y c e);rw[qt (aC (ak F))];exact I.freeC y c (L y c e)
 .have ad:p∈X.pn++pins:=(aX.mp hp).elim (λz=>z) λz=>nomatch z;obtain⟨F,D,e3,e4,e5⟩:=I.pin p ad;refine⟨keep _ _ F,?_,aC (bb (ak F) hC),λz=>?_,e5⟩
  .rw[qt (aC (ak F))];exact D
  .rcases aM.mp (I.stkSub p.1 z) with z|z
   .exact e3 z
   .exact e4 z
 .exact I.hok.laid keep (aj _) hD
 .show((xs.map λ_=>(none:Option V))++M.map λj=>(σ[j]?).join).length=(xs++M.map λj=>X.N.getD j Str.empty).length;simp only[ao,ag]
theorem Inv.comp (I:Inv X pins σ H s2)(hc:CapAll X.env cl)(hh:HasAll cl scope.names)(hm:CapIx X scope cl M)(hk:scope.kind=.function)(hC:s2.heap.objs.size<C)
  (keep:∀b o,s2.heap.get? b=some o->h1.get? b=some o) (hn:h1.Ns C λ_=>none) (hD:h1.get? s2.heap.objs.size=some { cls:=.type "list",data:=.seq #[] 0 })
  (hfp:∀b∈fp,vy X pins H b) (hob:∀b∈fp,∃o,s2.heap.get? b=some o) :
  Inv (zf X scope cl x M C s2 H fp (X.pn++pins)) [] (zj M σ none) (upd H s2.heap.objs.size (.lst [])) { s2 with heap:=h1,toks:=tk }:=I.compG (xs:=[x]) hc hh hm hk hC keep hn ⟨aY _,[],0,.nil,hD⟩ hfp hob
theorem Inv.uncomp {pins':List (Aj×Obj)}{σ':St}{H':Hp}{s':Ab}{h':Heap}(I:Inv X pins σ H s2)(hC:s2.heap.objs.size<=C)(hfp:∀b∈fp,vy X pins H b)
  (J:Inv (zf X scope cl x M C s2 H fp (X.pn++pins)) pins' σ' H' s') (hs:Heap.SameBut C s'.heap h'):Inv X pins σ H' { s' with heap:=h' }:=by
 have D:=J.base;have U:∀b o,s2.heap.get? b=some o->b≠C:=λb o e=>aC (aN (ak e) hC);have st:∀b o,b≠C->s'.heap.get? b=some o->h'.get? b=some o:=λb o n e=>(hs.2 b n).trans e;refine I.call' (s':={ s' with heap:=h' }) (ch:=fp) J.os ⟨λb o e n nb F=>st b o (U b o e) (D.keep b o e n nb F),λb o e n ac F=>?_,D.free,λb o e F=>?_,D.tups,D.frzs,D.tbls⟩ ?_ J.bare λb ab=>?_
 .obtain⟨sl,Z⟩:=D.slot b o e n ac F;exact⟨sl,st b _ (U b o e) Z⟩
 .obtain⟨o',Z⟩:=D.there b o e F;exact⟨o',st b _ (U b o e) Z⟩
 .intro b u W;have fr:H' C=none:=J.free;refine(J.hok b u W).stay (λc v L e=>st c v ?_ e) (λ_ z=>z) λ_ _ z=>z;rcases L with rfl|L
  .intro z;rw[z,fr]at W;cases W
  .intro z;rw[z,fr]at L;cases L
 .obtain⟨q1,q2,q3,q4,q5,q6⟩:=hfp b ab;exact⟨q4,q2,q5,q6⟩
end
def Ws (J:It)(M:List Nat)(te:TE)(σ:St)(H1:Hp)(Q:VK):Prop:=∀p,H1 p=none->∃W:Nat->Nat->List V->Hp->Prop,(∃m,W 0 m [] (upd H1 p (.lst []))) /\
 ∀i m ys H2,W i m ys H2->H2 p=some (.lst ys)/\ys.length<sizeLine/\((J.stop i H2/\Q (.ref p) H2)\/(J.go i H2/\∀v H3,J.yld i H2 v H3 ->
  te (zj M σ (some v)) H3 λy H4=>H4 p=some (.lst ys)/\∃m',m'<m/\W (i+1) m' (ys++[y]) (upd H4 p (.lst (ys++[y])))))
def wvr (M:List Nat)(wi:TI)(te:TE):TE:=λσ H Q=>wi σ H λJ H1=>Ws J M te σ H1 Q
theorem jx {Y:Cx}{tg e:Expr}{k:Nat}{acc:Ag}{it:Aj}{fp:List Aj}{tn:Nat->Heap->Prop}{J:It}{ps:Pos}{REST:Sem PySem.Fin}{post:Result->Ab->Prop}{gg:TG}{pins:List (Aj×Obj)}{σ:St}{V:Nat->Nat->Hp->Prop}{Qd:Hp->Prop}{s0:Ab}{H0:Hp}{n0:Nat}
  (T:Turn Y.prog Y.w Y.K tg J fp it tn) (hc:Y.calm=true) (hx:∀v s,Y.xe v s->False)
  (hturn:compTurn e k (.ref it) acc Y.env=(standAt ps >>= λ_=>pyNext (.ref it) >>= λr=>match r with|none=>pure (.done .next)|some v=>letOwnedTupleGo tg (.ref it) v >>= λ_=>assign tg Y.env v >>= λ_=>REST))
  (hun:Y.A.under (.compLoop e k (.ref it) acc Y.env)=Y.A) (hden:(model Y.prog Y.w).den (.compLoop e k (.ref it) acc Y.env)=((compTurn e k (.ref it) acc Y.env).onRaise λz=>do noteFrame z Y.env;theTreesLotGoes z))
  (hg:PG Y tg gg) (fok:∀H2:Hp,(∀b∈fp,H2 b=none)->∀b∈fp,vy Y pins H2 b)
  (hV:∀i n H2,V i n H2->(J.stop i H2/\Qd H2)\/(J.go i H2/\∀v H3,J.yld i H2 v H3->∃Z:St->Hp->Prop,gg v σ H3 Z/\∀σ4 H4,Z σ4 H4->(σ.length=σ4.length/\∀(k:Nat) z,σ[k]?=some (some z)->σ4[k]?=some (some z))/\∀pins' s',Inv Y pins' σ4 H4 s' ->
   wpAny (model Y.prog Y.w) Y.A REST (λr s5=>r=Fin.again (.compLoop e k (.ref it) acc Y.env)/\∃H5,Inv Y pins' σ4 H5 s5/\∃n',n'<n/\V (i+1) n' H5) Y.xe s'))
  (fin:∀H2 s4,Inv Y pins σ H2 s4->Qd H2->post (.ok .next) s4) (I:Inv Y pins σ H0 s0) (v0:V 0 n0 H0) (t0:tn 0 s0.heap) (nf:∀b∈fp,H0 b=none) :
  codeAny (model Y.prog Y.w) Y.A (.compLoop e k (.ref it) acc Y.env) post s0:=by
 refine codeAny_loop rfl (λn D=>∃i H2,V i n H2/\Inv Y pins σ H2 D/\tn i D.heap/\∀b∈fp,H2 b=none) (λn D hI=>?_) n0 ⟨0,H0,v0,I,t0,nf⟩;obtain⟨i,H2,w,J2,t,ab⟩:=hI;rw[hun,hden];refine wpAny_noted ?_;rw[hturn];refine aa (cB (aa ?_));rcases hV i n H2 w with⟨ad,hq⟩|⟨a0,hy⟩
 .refine aO (T.done Y rfl rfl rfl hc i pins D _ H2 (λ_ _=>False) J2 (fok H2 ab) t ad) (λr s4 U=>?_) λ_ _ z=>z.elim;obtain⟨rfl,J4⟩:=U;exact ai (fin H2 s4 J4 hq)
 .refine aO (T.item Y rfl rfl rfl hc i pins D _ H2 (λ_ _=>False) J2 (fok H2 ab) t a0) (λr s4 U=>?_) λ_ _ z=>z.elim;obtain⟨u,rfl,hw⟩:=U;refine aa (aO hw (λ_ s5 as=>?_) λ_ _ z=>z.elim);obtain⟨v,H3,J5,rv,yl,L,nf⟩:=as;obtain⟨Z,hz,hZ⟩:=hy v H3 yl;refine aa (aO (hg _ s5 _ H3 v u _ (J5.pinned (fok H3 nf) (T.obj _ _ L)) rv hz) (λ_ s6 ap=>?_) λv s z=>(hx v s z).elim);obtain⟨σ6,H6,J6,z6⟩:=ap;obtain⟨⟨hl,ac⟩,hR⟩:=hZ σ6 H6 z6;refine aO (hR _ s6 J6) (λr s7 an=>?_) λv s z=>(hx v s z).elim;obtain⟨rfl,H7,W,n',ax,v7⟩:=an;refine⟨rfl,n',ax,i+1,H7,v7,(W.unpinned (pins:=pins)).weak hl ac,?_,?_⟩
  .exact T.keep _ _ _ L λb F o e=>(W.pin (b,o) (az _ (az _ (vc F e)))).1
  .intro b F;obtain⟨o,e,_⟩:=T.obj _ _ L b F;exact(W.pin (b,o) (az _ (az _ (vc F e)))).2.1
section
variable {Y:Cx}{elt cd:Expr}{te:TE}{tt:TT}{c:Code}{p:Aj}{σ:St}{H:Hp}{pins:List (Aj×Obj)}{s:Ab}
def appS (elt:Expr)(acc:Ag)(env:Env)(c:Code):Sem PySem.Fin:=(eval elt env >>= λx=>call (.builtin "list.append") [acc,x] >>= λ_=>pure ()) >>= λ_=>again c
theorem Yz {ys:List V}{N:List V->Hp->Prop}(hx:∀v s,Y.xe v s->False)(he:PE Y elt te)(J:Inv Y pins σ H s)(hz:ys.length<sizeLine)(h:te σ H λy H4=>H4 p=some (.lst ys)/\N (ys++[y]) (upd H4 p (.lst (ys++[y])))) :
  wpAny (model Y.prog Y.w) Y.A (appS elt (.ref p) Y.env c) (λr s5=>r=Fin.again c/\∃H5,Inv Y pins σ H5 s5/\∃zs,N zs H5) Y.xe s:=by
 refine aa (aa (aO (he _ s _ H _ J h) (λF L ab=>?_) λ_ _ z=>z));obtain⟨y,H4,J7,U,ac,W⟩:=ab;refine aa (aO (jw (X:=Y) _ L _ H4 (.ref p) [y] (.ref p) [F] (λ_ D=>D=upd H4 p (.lst (ys++[y]))) J7 rfl (.cons U .nil) ⟨_,ys,y,rfl,rfl,ac,hz,rfl⟩) (λ_ s8 Z=>?_) λ_ _ z=>z);obtain⟨_,D,J8,_,rfl⟩:=Z;exact ai (ai ⟨rfl,_,J8,_,W⟩)
def tstS (cd:Expr)(env:Env)(a b:Sem PySem.Fin):Sem PySem.Fin:=(forIn [cd] true λc r=>if r=true then do let ok <-isTrue c env (eval c env);pure (ForInStep.yield ok) else pure (ForInStep.yield r)) >>= λok=>if ok=true then a else b
theorem Yy {a b:Sem PySem.Fin}{F:Hp->Prop}{G:Hp->Prop}{R:PySem.Fin->Ab->Prop}(ht:PT Y cd tt)(J:Inv Y pins σ H s)(h:tt σ H λok H4=>if ok=true then F H4 else G H4)
  (ha:∀s' H4,Inv Y pins σ H4 s'->F H4->wpAny (model Y.prog Y.w) Y.A a R Y.xe s') (hb:∀s' H4,Inv Y pins σ H4 s'->G H4->wpAny (model Y.prog Y.w) Y.A b R Y.xe s') :
  wpAny (model Y.prog Y.w) Y.A (tstS cd Y.env a b) R Y.xe s:=by
 refine aa (wpAny_tests_one (aO (ht _ s _ H _ J h) (λok D Z=>?_) λ_ _ z=>z));obtain⟨W,U,L⟩:=Z;cases ok with
 |false=>exact hb D W U L
 |true=>exact ha D W U L
end
section
variable {X:Cx}{elt iter cd:Expr}{x:Str}{px pos:Pos}{scope:Scope}{cl:List (Str×Aj)}{M:List Nat}{wi:TI}{te:TE}{tt:TT}{pins:List (Aj×Obj)}{σ:St}
theorem Z9 {N:List Str}{C:Aj}{s2:Ab}{H1:Hp}{fp:List Aj}(hcap:CapAll X.env cl)(I2:Inv X pins σ H1 s2)(hlt:s2.heap.objs.size<C)(hfp:∀b∈fp,vy X pins H1 b)(hbl:∀b∈fp,b<s2.heap.objs.size)(H2:Hp)(hn:∀b∈fp,H2 b=none) :
  ∀b∈fp,vy { X with N:=N,s₀:=s2,H₀:=H1,env:=compEnvC scope cl C X.env,outer:=X.stack,ex:=fp,fn:=λ_=>false,pn:=X.pn++pins,xe:=λ_ _=>False } [] H2 b:=λb hb=>by
 obtain⟨q1,q2,q3,q4,q5,q6⟩:=hfp b hb;refine⟨hn b hb,aC (bb (hbl b hb) hlt),λz=>?_,.inl hb,λy c e=>q5 y c (hcap.look e),λp hp=>q6 p ((aX.mp hp).elim (λz=>z) λz=>nomatch z)⟩;rcases aM.mp (I2.stkSub b z) with z|z
 .exact q2 z
 .exact q3 z
theorem Jm {tg:Expr}{ifs:List Expr}{rest:List Comprehension}(hclos:closureFor scope X.env=pure cl)(hhas:HasAll cl scope.names)(hk:scope.kind=.function)
  (hnames:∀y∈scope.names,y.2=.local->scope.names.lookup y.1=some .local) (hi:PI X tg iter wi) (hs:∀z,foldedSetIterable iter X.env z=pure z)
  {use:Option (Ag->Sem Unit)} {QQ:Ag->Ab->Prop} {s:Ab} {H:Hp} {ps:Pos} {R:It->Hp->Prop} (I:Inv X pins σ H s) (h:wi σ H R)
  (go:∀(it:Aj) (fp:List Aj) (tn:Nat->Heap->Prop) (J:It) (H1:Hp) (s2:Ab) (C:Aj) (h3:Heap) (tk:Nat),Inv X pins σ H1 s2->Turn X.prog X.w X.K tg J fp it tn->tn 0 h3->(∀b∈fp,vy X pins H1 b)->(∀b∈fp,b<s2.heap.objs.size)->(∀b∈fp,∃o,s2.heap.get? b=some o)->R J H1->s2.heap.objs.size<C ->
   (∀b o,s2.heap.get? b=some o->h3.get? b=some o)->(h3.Ns C λ_=>none)->h3.get? s2.heap.objs.size=some { cls:=.type "list",data:=.seq #[] 0 } ->
   codeAny (model X.prog X.w) X.A (.compLoop (.ListComp elt (⟨tg,iter,ifs,0⟩::rest) scope pos) 0 (.ref it) (.ref s2.heap.objs.size) (compEnvC scope cl C X.env)) (compPost (model X.prog X.w) X.A X.xe use QQ (.ref s2.heap.objs.size) C) { s2 with heap:=h3,toks:=tk }) :
  wpAny (model X.prog X.w) X.A (comprehension (.ListComp elt (⟨tg,iter,ifs,0⟩::rest) scope pos) scope X.env ps (newList []) false (eval iter X.env) use) QQ X.xe s:=by
 refine eO (use:=use) rfl hs hclos hk hnames ?_;refine thn (hi pins s σ H _ I h) λv s1 h1=>thn h1 λan s2 h2=>?_;obtain⟨it,fp,tn,J,H1,rfl,I2,T,F,ad,hR⟩:=h2;refine bW ?_;refine fL hhas.nocell (by intro y hy;cases hy) (λh3 L D=>?_) hk;dsimp only at L D ⊢;generalize hH2:s2.heap.push { cls:=.type "list",dict:=none,data:=.seq ([]:List Ag).toArray }=G2 at L D ⊢;have hC:G2.objs.size=s2.heap.objs.size+1:=by rw[<-hH2,cM]
 have U:s2.heap.objs.size<G2.objs.size:=by lia
 have ac:∀b o,s2.heap.get? b=some o->h3.get? b=some o:=λb o e=>by rw[D.2 b (aC (bb (ak e) U))];exact ah _ (hH2▸ah _ e)
 have hD:h3.get? s2.heap.objs.size=some { cls:=.type "list",data:=.seq #[] 0 }:=by rw[D.2 _ (aC U)];exact ah _ (hH2▸aA _ rfl)
 have Z:=T.keep 0 _ _ F λb _ o e=>ac b o e;have ab:=λtk=>go it fp tn J H1 s2 G2.objs.size h3 tk I2 T Z ad (λb W=>let ⟨o,e,_⟩:=T.obj 0 _ F b W;ak e) (λb W=>let ⟨o,e,_⟩:=T.obj 0 _ F b W;⟨o,e⟩) hR U ac L hD;exact gH (ab _) (T.self _ 0 _ _ _ Z (ab _))
theorem Qb (M:List Nat)(σ:St)(v:V):(zj M σ none).length=(zj M σ (some v)).length/\∀(k:Nat) z,(zj M σ none)[k]?=some (some z)->(zj M σ (some v))[k]?=some (some z):=⟨rfl,λk z ez=>by
 cases k with
 |zero=>cases ez
 |succ k=>exact ez⟩
end
section
variable {X:Cx}{elt iter:Expr}{x:Str}{px pos:Pos}{scope:Scope}{cl:List (Str×Aj)}{M:List Nat}{wi:TI}{te:TE}
theorem wwu (hc:X.calm=true)(hclos:closureFor scope X.env=pure cl)(hcap:CapAll X.env cl)(hhas:HasAll cl scope.names)(hix:CapIx X scope cl M)(hk:scope.kind=.function)
  (hnames:∀y∈scope.names,y.2=.local->scope.names.lookup y.1=some .local) (hx:scope.names.lookup x=some .local) (hnd:(Qt X x M).Nodup) (hi:PI X (.Name x px) iter wi)
  (he:∀C s2 H2 fp pn,PE (zf X scope cl x M C s2 H2 fp pn) elt te) (hs:∀z,foldedSetIterable iter X.env z=pure z)
  {use:Option (Ag->Sem Unit)} {QQ:Ag->Ab->Prop} {pins:List (Aj×Obj)} {s:Ab} {σ:St} {H:Hp} {Q:VK} {ps:Pos} (I:Inv X pins σ H s) (h:wi σ H λJ H1=>Ws J M te σ H1 Q)
  (fin:∀(C:Aj) (s2 s4:Ab) (H1 H2:Hp) (fp:List Aj),Inv X pins σ H1 s2->s2.heap.objs.size<C->(∀b∈fp,vy X pins H1 b)->Inv (zf X scope cl x M C s2 H1 fp (X.pn++pins)) [] (zj M σ none) H2 s4->Q (.ref s2.heap.objs.size) H2 ->
   compPost (model X.prog X.w) X.A X.xe use QQ (.ref s2.heap.objs.size) C (.ok .next) s4) :
  wpAny (model X.prog X.w) X.A (comprehension (.ListComp elt [⟨.Name x px,iter,[],0⟩] scope pos) scope X.env ps (newList []) false (eval iter X.env) use) QQ X.xe s:=by
 refine Jm hclos hhas hk hnames hi hs I h λit fp tn J H1 s2 C h3 tk F T t3 D ab ad hR L ac an hD=>?_;obtain⟨W,⟨m0,w0⟩,hW⟩:=hR s2.heap.objs.size (F.hok.fresh (aj _));have Z:(relabel scope X.env).names.lookup x=some .local:=cU hx;refine jx (Y:=zf X scope cl x M C s2 H1 fp (X.pn++pins)) (V:=λi n H2=>∃ys,W i n ys H2) (Qd:=Q (.ref s2.heap.objs.size)) (REST:=appS elt (.ref s2.heap.objs.size) (compEnvC scope cl C X.env) _) T hc (λ_ _ z=>z) (compTurn_list1 ..) rfl rfl (wn (i:=0) hnd rfl (.inl Z) (.inr Z)) (Z9 hcap F L D ab) (λi n H2 ⟨ys,w⟩=>?_) (λH2 s4 J4 q=>fin C s2 s4 H1 H2 fp F L D J4 q) (F.comp hcap hhas hix hk L ac an hD D ad) ⟨[],w0⟩ t3 λb hb=>by rw[qt (aC (ab b hb))];exact(D b hb).1
 obtain⟨hp,hz,as⟩:=hW i n ys H2 w;refine as.imp id λ⟨ap,hy⟩=>⟨ap,λv H3 yl=>⟨λσ4 H4=>σ4=zj M σ (some v)/\H3=H4,⟨rfl,rfl⟩,λ_ _ e=>?_⟩⟩;obtain⟨rfl,rfl⟩:=e;refine⟨Qb M σ v,λax s' J=>?_⟩;refine aO (Yz (N:=λzs U=>∃m',m'<n/\W (i+1) m' zs U) (λ_ _ z=>z) (he _ _ _ _ _) J hz (hy v H3 yl)) (λr s5 ⟨e,U,J5,zs,m',hm,w'⟩=>⟨e,U,J5,m',hm,zs,w'⟩) λ_ _ z=>z
theorem vq (hc:X.calm=true)(hclos:closureFor scope X.env=pure cl)(hcap:CapAll X.env cl)(hhas:HasAll cl scope.names)(hix:CapIx X scope cl M)(hk:scope.kind=.function)
  (hnames:∀y∈scope.names,y.2=.local->scope.names.lookup y.1=some .local) (hx:scope.names.lookup x=some .local) (hnd:(Qt X x M).Nodup) (hi:PI X (.Name x px) iter wi)
  (he:∀C s2 H2 fp pn,PE (zf X scope cl x M C s2 H2 fp pn) elt te) (hs:autoParam (∀z,foldedSetIterable iter X.env z=pure z) aU3._auto_1) :
  PE X (.ListComp elt [⟨.Name x px,iter,[],0⟩] scope pos) (wvr M wi te):=by
 intro pins s σ H Q I h;rw[eval_ListComp];refine wwu hc hclos hcap hhas hix hk hnames hx hnd hi he hs (use:=none) I h λC s2 s4 H1 H2 fp Z U W D J=>?_;obtain⟨m,L,_⟩:=D.loc;exact⟨m,L,λh' F=>⟨.ref s2.heap.objs.size,H2,Z.uncomp (bn U) W D F,rfl,J⟩⟩
theorem Inv.but {pins:List (Aj×Obj)}{σ:St}{H:Hp}{s:Ab}{h':Heap}{C:Aj}(I:Inv X pins σ H s)(hn:H C=none)(h1:X.s₀.heap.objs.size<=C)(h2:C≠X.env.locals)(h3:∀y c,X.env.cells.lookup y=some c->c≠C)(h4:∀p∈X.pn++pins,p.1≠C)
  (hs:Heap.SameBut C s.heap h'):Inv X pins σ H { s with heap:=h' }:=by
 have st:∀b o,b≠C->s.heap.get? b=some o->h'.get? b=some o:=λb o n e=>(hs.2 b n).trans e;have J:∀b,b∉[C]->b≠C:=λb z e=>z (by rw[e];exact .head _);refine I.call' (s':={ s with heap:=h' }) (ch:=[C]) rfl ⟨λb o e n _ D=>st b o (J b D) e,λb o e n _ D=>⟨o.slots,st b o (J b D) e⟩,λb o e n _=>n,λb o e D=>⟨o,st b o (J b D) e⟩,λ_ _ e=>e,λ_ _ _ e=>e,λb ps e=>⟨#[],by rw[e];simp⟩⟩ ?_ I.bare λb U=>?_
 .intro b u L;refine(I.hok b u L).stay (λc v F e=>st c v ?_ e) (λ_ z=>z) λ_ _ z=>z;rcases F with rfl|F
  .intro z;rw[z,hn]at L;cases L
  .intro z;rw[z,hn]at F;cases F
 .rw[aU.mp U];exact⟨.inr h1,h2,h3,h4⟩
theorem yh {i:Nat}{y:Str}{py spos:Pos}(hN:X.N.Nodup)(hyi:X.N[i]?=some y)(hyl:Loc X.env.scope y)(hc:X.calm=true)(hclos:closureFor scope X.env=pure cl)(hcap:CapAll X.env cl)(hhas:HasAll cl scope.names)(hix:CapIx X scope cl M)(hk:scope.kind=.function)
  (hnames:∀y∈scope.names,y.2=.local->scope.names.lookup y.1=some .local) (hx:scope.names.lookup x=some .local) (hnd:(Qt X x M).Nodup) (hi:PI X (.Name x px) iter wi)
  (he:∀C s2 H2 fp pn,PE (zf X scope cl x M C s2 H2 fp pn) elt te) (hs:autoParam (∀z,foldedSetIterable iter X.env z=pure z) aU3._auto_1)
  (hsw:autoParam (swapsWith (.ListComp elt [⟨.Name x px,iter,[],0⟩] scope pos) (some (.Name y py)) spos.line X.env=pure true) aU4._auto_1) (hyf:autoParam (X.fn y=true\/X.env.scope.names.lookup y=some .local) aU0._auto_1) :
  PS X (.Assign [.Name y py] (.ListComp elt [⟨.Name x px,iter,[],0⟩] scope pos) spos) (tAsg (wvr M wi te) (W9 i)):=by
 intro pins s σ H D I h;rw[gO _ _ _ _ hsw];refine aa (cB (aa ?_));refine aa (aO (wwu hc hclos hcap hhas hix hk hnames hx hnd hi he hs (use:=some (assign (.Name y py) X.env)) (QQ:=λ_ s'=>SP X pins D .next s') I h λC s2 W H1 H2 fp J L ax J4 hq=>?_) (λ_ s' hq=>ai (ai hq)) λ_ _ e=>e);have F:Inv X pins σ H2 W:=J.uncomp (h':=W.heap) (bn L) ax J4 (iV _ _);have ad:H2 C=none:=J4.free;obtain⟨mC,as,_⟩:=J4.loc;obtain⟨Z,a5,a6,ap,ac⟩:=id as;have ab:C≠X.env.locals:=λz=>aW _ (bb L (z▸J.lt));have a1:X.s₀.heap.objs.size<=C:=bI J.sz (bn L);have a3:∀y c,X.env.cells.lookup y=some c->c≠C:=λy c e z=>by obtain⟨v,o,U,_⟩:=J.cell y c e;exact aW _ (bb L (z▸ak U))
 have a2:∀p∈X.pn++pins,p.1≠C:=λp hp z=>aW _ (bb L (z▸ak (J.pin p hp).1));have a8:C∉frs X.stack:=λz=>by
  rcases aM.mp (J.stkSub C z) with q|q
  .exact ab q
  .obtain⟨_,o,U,_⟩:=J.funs.mem (b:=C) q;exact aW _ (bb L (ak U))
 have a0:C∉X.fs:=λz=>by obtain⟨_,o,U,_⟩:=J.funs.mem (b:=C) z;exact aW _ (bb L (ak U))
 have a7:Inv X (pins++[(C,Z)]) σ H2 W:=⟨F.ok,F.os,F.bare,F.base,F.loc,F.cell,F.free,F.freeC,λp hp=>by
  rcases aX.mp hp with q|q
  .exact F.pin p (cy _ q)
  .rcases aX.mp q with q|q
   .exact F.pin p (az _ q)
   .rw[aU.mp q]
    exact⟨ap,ad,ab,a0,λv z=>by rw[ac.1]at z;cases z⟩,F.hok,F.len⟩
 show wpAny _ _ (assign (.Name y py) X.env (.ref s2.heap.objs.size)) _ _ _;refine gC (jf a7 hN hyi hyl (show RelV (.ref s2.heap.objs.size) (.ref s2.heap.objs.size) from rfl) (λs5 I5=>?_) hyf);have a4:=(I5.pin (C,Z) (az _ (az _ (.head _)))).1;exact⟨mC,⟨Z,a5,a6,a4,ac⟩,λh' an=>⟨_,H2,I5.unpinned.but ad a1 ab a3 a2 an,hq⟩⟩
end
theorem z9 {M:List Nat}{lo:Int}{n:Nat}{te:TE}{σ:St}{H:Hp}{Q:VK}(f:Nat->V)(hn:n<=1000000)(he:∀(i:Nat) (H':Hp) (R:VK),i<n->Same H H'->R (f i) H'->te (zj M σ (some (.int (lo+i)))) H' R)
  (k:∀p,H p=none->Q (.ref p) (upd H p (.lst ((List.range n).map f)))):Ws (Itr lo n) M te σ H Q:=by
 intro p np;refine⟨λi m ys H2=>i<=n/\m=n-i/\ys=(List.range i).map f/\H2=upd H p (.lst ys),⟨n,aY _,rfl,rfl,rfl⟩,?_⟩;rintro i m ys H2 ⟨hi,rfl,rfl,rfl⟩;refine⟨upd_same,?_,?_⟩
 .rw[ag,aE];have:(1000000:Nat)<sizeLine:=by decide
  lia
 .by_cases hlt:i<n
  .refine .inr ⟨hlt,?_⟩;rintro v H3 ⟨rfl,rfl⟩;refine he i (upd H p (.lst ((List.range i).map f))) _ hlt (Same.upd np) ⟨upd_same,n-(i+1),⋯,⋯,rfl,?_,?_⟩
   .rw[bK,aR];rfl
   .rw[qyh]
  .have:i=n:=by lia
   subst this;exact .inl ⟨aj _,k p np⟩
theorem Jp {K:Aa}{M:List Nat}{a:Aj}{xs:List V}{te:TE}{σ:St}{H:Hp}{Q:VK}(f:V->V)(hS:SqL K H a xs)(hn:xs.length<=1000000)(he:∀(x:V) (H':Hp) (R:VK),x∈xs->Same H H'->R (f x) H'->te (zj M σ (some x)) H' R)
  (k:∀p,H p=none->Q (.ref p) (upd H p (.lst (xs.map f)))):Ws (Itl K a) M te σ H Q:=by
 intro p np;refine⟨λi m ys H2=>i<=xs.length/\m=xs.length-i/\ys=(xs.take i).map f/\H2=upd H p (.lst ys),⟨xs.length,aY _,rfl,rfl,rfl⟩,?_⟩;rintro i m ys H2 ⟨hi,rfl,rfl,rfl⟩;have D:SqL K (upd H p (.lst ((xs.take i).map f))) a xs:=Same.sql (Same.upd np) hS;refine⟨upd_same,?_,?_⟩
 .rw[ag,be];have:(1000000:Nat)<sizeLine:=by decide
  lia
 .by_cases hlt:i<xs.length
  .have z:xs[i]?=some xs[i]:=ae hlt;refine .inr ⟨⟨xs,_,D,z⟩,?_⟩;rintro v H3 ⟨rfl,hv⟩;have e:=hv xs D;rw[z]at e;have J:=av e;subst J;refine he _ _ _ (bD hlt) (Same.upd np) ⟨upd_same,xs.length-(i+1),⋯,⋯,rfl,?_,?_⟩
   .rw[jU,z,aR];rfl
   .rw[qyh]
  .have F:i=xs.length:=by lia
   subst F;refine .inl ⟨⟨xs,D,aj _⟩,?_⟩;rw[bE];exact k p np
end L2
namespace L2
open PySem PySem.Spec PyProof.Rows
section
variable {X:Cx}
theorem Y5 {pins:List (Aj×Obj)}{σ:St}{H:Hp}{s:Ab}{p:Aj}{ns:List Int}(I:Inv X pins σ H s)(hS:SqL X.K H p (ns.map V.int)) :
  ∃ts:Array (Int×Tok),s.heap.IsList p (intItems ts)/\ns=ts.toList.map (·.1):=by
 obtain⟨Z,F,⟨o,n,U,L,e3,J⟩,hz⟩:=I.list hS;have hi:=Qk F;obtain⟨ts,z⟩:=hi.allInts.items;refine⟨ts,⟨o,U,L,n,by rw[<-z];exact J⟩,?_⟩;have W:=hi.numsOf;have D:=nums_intItems (xs:=ts);rw[<-z]at D;exact W.symm.trans D
theorem qvv (hc:X.calm=true):k8 X (.builtin "min") (λxs H Q=>∃(p:Aj) (ns:List Int),xs=[.ref p]/\SqL X.K H p (ns.map V.int)/\0<ns.length/\∀m,m∈ns->(∀a∈ns,m<=a)->Q (.int m) H):=by
 intro pins s σ H xs us Q I r h;obtain⟨p,ns,rfl,hS,ab,q⟩:=h;obtain⟨u,rfl,L⟩:=js r;cases(show u=Value.ref p from L);obtain⟨D,W,z⟩:=Y5 I hS;have F:D.size=ns.length:=by rw[z,ag,aV]
 refine min_intList (I.ok.hd hc) W ⋯ λv h' tk U Z=>?_;obtain⟨t,rfl⟩:=jV U;obtain⟨b1,b2⟩:=argBest_lt (numAt D) (D.size-1);refine⟨.int _,H,I.kept Z,⟨t,rfl⟩,q _ ?_ λa J=>?_⟩
 .rw[z,jW];refine getD_mem ?_;rw[<-z,<-F];lia
 .rw[z]at J;obtain⟨j,hj,rfl⟩:=mem_getD J;rw[<-z,<-F]at hj;rw[<-jW];exact b2 j ⋯
theorem qvn (hc:X.calm=true):k8 X (.builtin "max") (λxs H Q=>∃(p:Aj) (ns:List Int),xs=[.ref p]/\SqL X.K H p (ns.map V.int)/\0<ns.length/\∀m,m∈ns->(∀a∈ns,a<=m)->Q (.int m) H):=by
 intro pins s σ H xs us Q I r h;obtain⟨p,ns,rfl,hS,ab,q⟩:=h;obtain⟨u,rfl,L⟩:=js r;cases(show u=Value.ref p from L);obtain⟨D,W,z⟩:=Y5 I hS;have F:D.size=ns.length:=by rw[z,ag,aV]
 refine max_intList (I.ok.hd hc) W ⋯ λv h' tk U Z=>?_;obtain⟨t,rfl⟩:=jV U;obtain⟨b1,b2⟩:=argBest_gt (numAt D) (D.size-1);refine⟨.int _,H,I.kept Z,⟨t,rfl⟩,q _ ?_ λa J=>?_⟩
 .rw[z,jW];refine getD_mem ?_;rw[<-z,<-F];lia
 .rw[z]at J;obtain⟨j,hj,rfl⟩:=mem_getD J;rw[<-z,<-F]at hj;rw[<-jW];exact b2 j ⋯
theorem qxs:∀ {bs:List Bool} {its:List Ag},Vals (bs.map V.bl) its->its=bs.map Value.bool
 |[],_,.nil=>rfl
 |b::bs,_,.cons r t=>by have e:_=Value.bool b:=r;rw[aI,<-qxs t,e]
theorem wy8 (bs:List Bool):(List.range bs.length).all (λi=>bs.getD i true)=bs.all id:=by
 rw[dr,List.all_eq_true,List.all_eq_true];constructor
 .intro h b D;obtain⟨i,hi,rfl⟩:=dj D;have:=h i (aq.mpr hi);rw[af,ae hi]at this;exact this
 .intro h i hi;have z:=aq.mp hi;rw[af,ae z];exact h _ (bD z)
theorem Zq (hc:X.calm=true):k8 X (.builtin "all") (λxs H Q=>∃(p:Aj) (bs:List Bool),xs=[.ref p]/\SqL X.K H p (bs.map V.bl)/\Q (.bl (bs.all id)) H):=by
 intro pins s σ H xs us Q I r h;obtain⟨p,bs,rfl,hS,q⟩:=h;obtain⟨u,rfl,ru⟩:=js r;cases(show u=Value.ref p from ru);obtain⟨F,rv,⟨o,n,Z,J,e3,e4⟩,hz⟩:=I.list hS;have U:=qxs rv;have L:s.heap.IsList p F.toArray:=⟨o,Z,J,n,e4⟩;have ab:p<s.heap.objs.size:=ak Z;refine call_all_walk (gD L ?_);refine⟨s.heap.objs.size,_,_,_,_,_,λi=>bs.getD i true,rfl,Walks.list (A:=X.A.in1) (I.ok.hd hc) _ p (aC ab) F.toArray,⟨⟨_,aA _ rfl,rfl,rfl⟩,L.push _⟩,λi v s' Q' E' hP hQ=>?_,λh' tk hk=>?_⟩
 .have D:F[i]?=some v:=by simpa using hP
  rw[U,aw]at D;cases hb:bs[i]? with
  |none=>rw[hb]at D;cases D
  |some b =>
   rw[hb]at D;have ev:Value.bool b=v:=av D;subst ev;refine cZ ?_;have J:bs.getD i true=b:=by rw[af,hb];rfl
   have W:Q' (bs.getD i true) s':=hQ;rw[J]at W;exact W
 .have ac:F.toArray.size=bs.length:=by rw[U];simp
  rw[ac,wy8];refine⟨.bl _,H,I.kept λb ob e=>hk b ob (λhm=>?_) (ah _ e),rfl,q⟩;have z:b=s.heap.objs.size:=by simpa using hm
  exact aW _ (z▸ak e)
end
structure MCal (P:Ac)(w:Ah)(K:Aa)(mg:Str->Option Ag)(base:Heap)(C:Aj)(m:Str)(k:Nat)(sp:Sp):Prop where
 ex:∃f fd ps,Meth K C m f/\FnOk P w K mg base (CXE P w) k f fd ps sp/\Binds K fd ps []
structure CCal (P:Ac)(w:Ah)(K:Aa)(mg:Str->Option Ag)(base:Heap)(x:Str)(C:Aj)(k:Nat)(sp:Sp):Prop where
 ex:∃f fd ps,mg x=some (.ref C)/\Mk K C f/\FnOk P w K mg base (CXE P w) k f fd ps sp/\Binds K fd ps []
structure MethIn (K:Aa)(C:Aj)(m qual:Str)(st:Stmt):Prop where
 ex:∃f fd,W.findIn K (.ref C) m=some (some (.ref f))/\W.isFn K (.ref f)=true/\Fun K m qual st f fd
theorem xzr {K:Aa}{C:Aj}{m qual:Str}{st:Stmt}{f:Aj}{oc:Ag}{od an:Option Aj}{osl:Array (Option Ag)}{kV doc pm cdv ct:Ag}(a:W.findIn K (.ref C) m=some (some (.ref f)))(i:W.isFn K (.ref f)=true)
  (l:K.lookup f=some ⟨oc,od,.func (W.fnOf m qual (v9 st) (zp st) (qp st) .none kV doc pm an cdv ct),osl⟩) (c:W.codeIn K cdv qual=true) (k:W.keepIn K (.ref f)=true):MethIn K C m qual st:=⟨_,_,a,i,wxs l c k⟩
def jj (x qual:Str)(st:Stmt)(ps:List Str):Prop:=∀(kV doc pm:Ag) (an:Option Aj) (cdv ct:Ag) (us:List Ag),us.length=ps.length->bindArgs (W.fnOf x qual (v9 st) (zp st) (qp st) .none kV doc pm an cdv ct) ⟨us,[]⟩=pure (ps.zip us)
section
variable {P:Ac}{w:Ah}{K:Aa}{mg:Str->Option Ag}{base:Heap}{C:Aj}
theorem MethIn.cal {m qual:Str}{st:Stmt}{ps:List Str}{k:Nat}{sp:Sp}(d:MethIn K C m qual st)(b:jj m qual st ps)(ok:∀f fd,Fun K m qual st f fd->FnOk P w K mg base (CXE P w) k f fd ps sp):MCal P w K mg base C m k sp:=by obtain⟨f,fd,a,i,F⟩:=d.ex;exact⟨f,fd,ps,⟨a,i,F.kp⟩,ok f fd F,F.binds b⟩
theorem MethIn.ccal {x qual:Str}{st:Stmt}{ps:List Str}{k:Nat}{sp:Sp}(d:MethIn K C "__init__" qual st)(hm:mg x=some (.ref C))(mk:W.makesIn K C=true)(kc:W.keepIn K (.ref C)=true)(b:jj "__init__" qual st ps)
  (ok:∀f fd,Fun K "__init__" qual st f fd->FnOk P w K mg base (CXE P w) k f fd ps sp):CCal P w K mg base x C k sp:=by
 obtain⟨f,fd,a,i,F⟩:=d.ex;exact⟨f,fd,ps,hm,⟨mk,a,i,kc⟩,ok f fd F,F.binds b⟩
end
section
variable {X:Cx}{C:Aj}{x m:Str}{k:Nat}{sp:Sp}{E:St->XK}{p pos apos:Pos}{e o:Expr}{es:List Expr}{ta:TE}{t:TA}
theorem wwk (c:CCal X.prog X.w X.K X.mg X.base x C k sp)(hr:Room (k+1) X.A)(hg:Gl X x)(hx:u7 X E)
  (ha:PA X (e::es) t) (hdb:autoParam ((x==("__debug__" : Str))=false) aU1._auto_1) (he:autoParam (starEach (e::es) X.env=(false,eval e X.env)::starEach es X.env) aU4._auto_1) (hpl:autoParam ((backTo pos (starEach es X.env)).any (·.1)=false) aU4._auto_1) :
  PE X (.Call (.Name x p) (e::es) [] pos) (xx4 C sp E t):=by
 obtain⟨f,fd,ps,z,M,F,b⟩:=c.ex;exact xx3 M F hr hg z b hx ha hdb he hpl
theorem zg {pl:Sem Bool}(he:PE X o ta)(cl:Cls X.K C)(c:MCal X.prog X.w X.K X.mg X.base C m k sp)(hr:Room k X.A)(hx:u7 X E)(ha:PA X (e::es) t)
  (hst:autoParam (starEach (e::es) X.env=(false,eval e X.env)::starEach es X.env) aU4._auto_1) (hpl:autoParam ((backTo pos (starEach es X.env)).any (·.1)=false) aU4._auto_1)
  (ht:autoParam (eval (.Call (.Attribute o m apos) (e::es) [] pos) X.env=(do
   let ov <-eval o X.env
   standAt apos.atName
   let (f,first) <-holding [ov] (getMethod ov m pl)
   callWith pos f first (backTo pos (starEach (e::es) X.env)) (backToKw pos (keywordEach [] X.env)))) aU4._auto_1) :
  PE X (.Call (.Attribute o m apos) (e::es) [] pos) (qyq C m sp E ta t):=by
 obtain⟨f,fd,ps,z,F,b⟩:=c.ex;exact xwn he cl z F hr b hx ha hst hpl ht
theorem vk {pl:Sem Bool}(he:PE X o ta)(cl:Cls X.K C)(c:MCal X.prog X.w X.K X.mg X.base C m k sp)(hr:Room k X.A)(hx:u7 X E)
  (ht:autoParam (eval (.Call (.Attribute o m apos) [] [] pos) X.env=(do
   let ov <-eval o X.env
   standAt apos.atName
   let (f,first) <-holding [ov] (getMethod ov m pl)
   callWith pos f first (backTo pos (starEach [] X.env)) (backToKw pos (keywordEach [] X.env)))) aU4._auto_1) :
  PE X (.Call (.Attribute o m apos) [] [] pos) (qyq C m sp E ta qxp):=by
 obtain⟨f,fd,ps,z,F,b⟩:=c.ex;exact wy3 he cl z F hr b hx ht
end
end L2
namespace L2
open PySem
def hAt (hs:List Int)(k:Int):Int:=hs.getD k.toNat 0
def kF (hs:List Int)(t b:Int):Int:=if(hs.length:Int)-1-1<t/b then(hs.length:Int)-1-1 else t/b
def zw (hs:List Int)(t b:Int):Int:=hAt hs (kF hs t b)*b+(hAt hs (kF hs t b+1)-hAt hs (kF hs t b))*(t-kF hs t b*b)
theorem xxs {hs:List Int}{t b:Int}(hl:2<=hs.length)(hb:1<=b)(h0:0<=t):0<=kF hs t b/\kF hs t b<(hs.length:Int)-1:=by have h:=eG h0 (show(0:Int)<=b by lia);unfold kF;split <;> lia
theorem xxu {hs:List Int}{t b c:Int}(hc:1<=c):kF hs (t*c) (b*c)=kF hs t b:=by unfold kF;rw[fA _ _ (show 0<c by lia)]
theorem qqk {hs:List Int}{t b c:Int}(hc:1<=c):zw hs (t*c) (b*c)=zw hs t b*c:=by unfold zw;rw[xxu hc];generalize hAt hs (kF hs t b)=u;generalize hAt hs (kF hs t b+1)=v;generalize kF hs t b=k;grind
theorem div_in {k t b:Int}(hb:1<=b)(h1:k*b<=t)(h2:t<(k+1)*b):t/b=k:=by have a1:k<=t/b:=(gI ⋯).mpr h1;have a2:t/b<k+1:=(Int.ediv_lt_iff_lt_mul ⋯).mpr h2;lia
theorem vf {hs:List Int}{k t b:Int}(hk:0<=k)(hk2:k<(hs.length:Int)-1)(hb:1<=b)(h1:k*b<=t)(h2:t<=(k+1)*b) :
  zw hs t b=hAt hs k*b+(hAt hs (k+1)-hAt hs k)*(t-k*b):=by
 by_cases hlt:t<(k+1)*b
 .have e:=div_in hb h1 hlt;have D:kF hs t b=k:=by unfold kF;rw[e];split <;> lia
  unfold zw;rw[D]
 .have F:t=(k+1)*b:=by lia
  have e:t/b=k+1:=by rw[F];exact Int.mul_ediv_cancel _ ⋯
  by_cases hn:(hs.length:Int)-1-1<k+1
  .have D:kF hs t b=k:=by unfold kF;rw[e,ay hn];lia
   unfold zw;rw[D]
  .have D:kF hs t b=k+1:=by unfold kF;rw[e,ar hn]
   unfold zw;rw[D,F];generalize hAt hs k=u;generalize hAt hs (k+1)=v;generalize hAt hs (k+1+1)=z;grind
def Wp (hs:List Int)(t b:Int):Int×Int:=ww (zw hs t b) b
theorem qkv {hs:List Int}{t b:Int}(hb:1<=b):Wp hs (ww t b).1 (ww t b).2=Wp hs t b:=by
 unfold Wp;have D:=j6 (t:=t) hb;have F:(ww t b).1*gOf t b=t:=by rw[bu];exact qkb
 have z:(ww t b).2*gOf t b=b:=by rw[bu];exact qqu hb
 have h:=qqk (hs:=hs) (t:=(ww t b).1) (b:=(ww t b).2) D;rw[F,z]at h;rw[h]
 conv=>rhs;rw[<-z]
 rw[z];have:=qwu (t:=zw hs (ww t b).1 (ww t b).2) (b:=(ww t b).2) (zy hb) D;rw[z]at this;exact this.symm
theorem qq7 {t b:Int}(hb:1<=b):(ww t b).1<0↔t<0:=by
 have F:=j6 (t:=t) hb;have D:gOf t b*(ww t b).1=t:=qkb;constructor
 .intro h;have:=iE h (show 0<gOf t b by lia);rw[D,Int.mul_zero]at this;exact this
 .intro h;rcases cP (ww t b).1 0 with z|z
  .exact z
  .have:=ba z (show 0<=gOf t b by lia);rw[D,Int.mul_zero]at this;lia
theorem wz0 {t b n:Int}(hb:1<=b):n*(ww t b).2<(ww t b).1↔n*b<t:=by
 have J:=j6 (t:=t) hb;have F:gOf t b*(ww t b).1=t:=qkb;have L:gOf t b*(ww t b).2=b:=qqu hb;have D:gOf t b*(n*(ww t b).2)=n*b:=by generalize gOf t b=g at *;generalize (ww t b).2=y at *;grind
 constructor
 .intro h;have:=iE h (show 0<gOf t b by lia);rw[F,D]at this;exact this
 .intro h;rcases cP (n*(ww t b).2) (ww t b).1 with z|z
  .exact z
  .have:=ba z (show 0<=gOf t b by lia);rw[F,D]at this;lia
theorem qkj {N b:Int}(hb:1<=b):b%(ww N b).2=0/\(ww N b).1*(b/(ww N b).2)=N:=by
 have D:=zy (t:=N) hb;have F:=zt (t:=N) hb;have z:(ww N b).2∣b:=⟨gOf N b,by rw[bu];exact(qqu hb).symm⟩;refine⟨Int.emod_eq_zero_of_dvd z,?_⟩;have e:=gZ z;generalize b/(ww N b).2=q at *;generalize (ww N b).1=x at *;generalize (ww N b).2=y at *;have:y*(x*q-N)=0:=by grind
 rcases Int.mul_eq_zero.mp this with h|h <;> lia
def wv8 (hs:List Int)(t b:Int):Int:=if t/b*b=t then hAt hs (t/b)*b else hAt hs (t/b)*b+(hAt hs (t/b+1)-hAt hs (t/b))*(t-t/b*b)
theorem xwq {hs:List Int}{t b:Int}(hl:2<=hs.length)(hb:1<=b)(h0:0<=t)(h1:t<=((hs.length:Int)-1)*b):wv8 hs t b=zw hs t b:=by
 have U:=eG h0 (show(0:Int)<=b by lia);have L:t/b*b<=t:=eI t ⋯;have J:t<(t/b+1)*b:=by have:=dR t (show 0<b by lia);exact this
 unfold wv8;by_cases hlt:t/b<(hs.length:Int)-1
 .rw[vf U hlt hb L (eK J)];split
  .next e=>rw[e];simp
  .rfl
 .have W:(hs.length:Int)-1<=t/b:=by lia
  have m1:=am W (show 0<=b by lia);have D:t/b*b=t:=by lia
  have F:t/b=(hs.length:Int)-1:=by
   have:t/b*b=((hs.length:Int)-1)*b:=by lia
   exact de ⋯ this
  rw[ay D];have z:t=((hs.length:Int)-1)*b:=by rw[<-F];exact D.symm
  rw[vf (k:=(hs.length:Int)-1-1) ⋯ ⋯ hb (by rw[z];exact am ⋯ ⋯) (by rw[z];exact am ⋯ ⋯),F];have Z:(hs.length:Int)-1-1+1=(hs.length:Int)-1:=by lia
  rw[Z,z];generalize hAt hs ((hs.length:Int)-1)=u;generalize hAt hs ((hs.length:Int)-1-1)=v;generalize (hs.length:Int)-1=n;grind
theorem wut {u v b d:Int}(hb:0<=d)(hd:d<=b):(if v<u then v else u)*b<=u*b+(v-u)*d/\u*b+(v-u)*d<=(if v>u then v else u)*b:=by
 by_cases h:v<u
 .rw[ay h,ar ⋯];have D:=ba hd (show 0<=u-v by lia);have z:=cA (show 0<=u-v by lia) hb;constructor <;> grind
 .rw[ar h];have D:=ba hd (show 0<=v-u by lia);have z:=cA (show 0<=v-u by lia) hb;by_cases h2:v>u
  .rw[ay h2];constructor <;> grind
  .rw[ar h2];have:v=u:=by lia
   subst this;constructor <;> grind
end L2
namespace L2
open PySem PySem.Spec PyProof.Rows
def wzw (J:It)(M:List Nat)(tt:TT)(te:TE)(σ:St)(H1:Hp)(Q:VK):Prop:=∀p,H1 p=none->∃W:Nat->Nat->List V->Hp->Prop,(∃m,W 0 m [] (upd H1 p (.lst []))) /\
 ∀i m ys H2,W i m ys H2->H2 p=some (.lst ys)/\ys.length<sizeLine/\((J.stop i H2/\Q (.ref p) H2)\/(J.go i H2/\∀v H3,J.yld i H2 v H3 ->
  tt (zj M σ (some v)) H3 λb H4=>if b=true then te (zj M σ (some v)) H4 (λy H5=>H5 p=some (.lst ys)/\∃m',m'<m/\W (i+1) m' (ys++[y]) (upd H5 p (.lst (ys++[y])))) else H4 p=some (.lst ys)/\∃m',m'<m/\W (i+1) m' ys H4))
def tCompI (M:List Nat)(wi:TI)(tt:TT)(te:TE):TE:=λσ H Q=>wi σ H λJ H1=>wzw J M tt te σ H1 Q
section
variable {X:Cx}{elt iter cd:Expr}{x:Str}{px pos:Pos}{scope:Scope}{cl:List (Str×Aj)}{M:List Nat}{wi:TI}{tt:TT}{te:TE}
theorem wjf (hc:X.calm=true)(hclos:closureFor scope X.env=pure cl)(hcap:CapAll X.env cl)(hhas:HasAll cl scope.names)(hix:CapIx X scope cl M)(hk:scope.kind=.function)
  (hnames:∀y∈scope.names,y.2=.local->scope.names.lookup y.1=some .local) (hx:scope.names.lookup x=some .local) (hnd:(Qt X x M).Nodup) (hi:PI X (.Name x px) iter wi)
  (ht:∀C s2 H2 fp pn,PT (zf X scope cl x M C s2 H2 fp pn) cd tt) (he:∀C s2 H2 fp pn,PE (zf X scope cl x M C s2 H2 fp pn) elt te) (hs:∀z,foldedSetIterable iter X.env z=pure z)
  {use:Option (Ag->Sem Unit)} {QQ:Ag->Ab->Prop} {pins:List (Aj×Obj)} {s:Ab} {σ:St} {H:Hp} {Q:VK} {ps:Pos} (I:Inv X pins σ H s) (h:wi σ H λJ H1=>wzw J M tt te σ H1 Q)
  (fin:∀(C:Aj) (s2 s4:Ab) (H1 H2:Hp) (fp:List Aj),Inv X pins σ H1 s2->s2.heap.objs.size<C->(∀b∈fp,vy X pins H1 b)->Inv (zf X scope cl x M C s2 H1 fp (X.pn++pins)) [] (zj M σ none) H2 s4->Q (.ref s2.heap.objs.size) H2 ->
   compPost (model X.prog X.w) X.A X.xe use QQ (.ref s2.heap.objs.size) C (.ok .next) s4) :
  wpAny (model X.prog X.w) X.A (comprehension (.ListComp elt [⟨.Name x px,iter,[cd],0⟩] scope pos) scope X.env ps (newList []) false (eval iter X.env) use) QQ X.xe s:=by
 refine Jm hclos hhas hk hnames hi hs I h λit fp tn J H1 s2 C h3 tk F T t3 D ac an hR L ad ap hD=>?_;obtain⟨W,⟨m0,w0⟩,hW⟩:=hR s2.heap.objs.size (F.hok.fresh (aj _));have ab:(relabel scope X.env).names.lookup x=some .local:=cU hx;refine jx (Y:=zf X scope cl x M C s2 H1 fp (X.pn++pins)) (V:=λi n H2=>∃ys,W i n ys H2) (Qd:=Q (.ref s2.heap.objs.size)) (REST:=tstS cd (compEnvC scope cl C X.env) (appS elt (.ref s2.heap.objs.size) (compEnvC scope cl C X.env) _) (again _)) T hc (λ_ _ z=>z) (compTurn_list ..) rfl rfl (wn (i:=0) hnd rfl (.inl ab) (.inr ab)) (Z9 hcap F L D ac) (λi n H2 ⟨ys,w⟩=>?_) (λH2 s4 J4 q=>fin C s2 s4 H1 H2 fp F L D J4 q) (F.comp hcap hhas hix hk L ad ap hD D an) ⟨[],w0⟩ t3 λb hb=>by rw[qt (aC (ac b hb))];exact(D b hb).1
 obtain⟨hp,hz,ax⟩:=hW i n ys H2 w;refine ax.imp id λ⟨as,hy⟩=>⟨as,λv H3 yl=>⟨λσ4 H4=>σ4=zj M σ (some v)/\H3=H4,⟨rfl,rfl⟩,λ_ _ e=>?_⟩⟩;obtain⟨rfl,rfl⟩:=e;refine⟨Qb M σ v,λa0 s' J=>?_⟩;exact Yy (ht _ _ _ _ _) J (hy v H3 yl) (λs6 H6 U h6=>aO (Yz (N:=λzs Z=>∃m',m'<n/\W (i+1) m' zs Z) (λ_ _ z=>z) (he _ _ _ _ _) U hz h6) (λr s5 ⟨e,Z,J5,zs,m',hm,w'⟩=>⟨e,Z,J5,m',hm,zs,w'⟩) λ_ _ z=>z)
  λs6 H6 U ⟨_,m',hm,w'⟩=>ai ⟨rfl,H6,U,m',hm,ys,w'⟩
theorem Yx (hc:X.calm=true)(hclos:closureFor scope X.env=pure cl)(hcap:CapAll X.env cl)(hhas:HasAll cl scope.names)(hix:CapIx X scope cl M)(hk:scope.kind=.function)
  (hnames:∀y∈scope.names,y.2=.local->scope.names.lookup y.1=some .local) (hx:scope.names.lookup x=some .local) (hnd:(Qt X x M).Nodup) (hi:PI X (.Name x px) iter wi)
  (ht:∀C s2 H2 fp pn,PT (zf X scope cl x M C s2 H2 fp pn) cd tt) (he:∀C s2 H2 fp pn,PE (zf X scope cl x M C s2 H2 fp pn) elt te) (hs:autoParam (∀z,foldedSetIterable iter X.env z=pure z) aU3._auto_1) :
  PE X (.ListComp elt [⟨.Name x px,iter,[cd],0⟩] scope pos) (tCompI M wi tt te):=by
 intro pins s σ H Q I h;rw[eval_ListComp];refine wjf hc hclos hcap hhas hix hk hnames hx hnd hi ht he hs (use:=none) I h λC s2 s4 H1 H2 fp Z U W D J=>?_;obtain⟨m,L,_⟩:=D.loc;exact⟨m,L,λh' F=>⟨.ref s2.heap.objs.size,H2,Z.uncomp (bn U) W D F,rfl,J⟩⟩
end
theorem wzv {i:Int}{acc:Array Ag}{n:Nat}(h:ItemsOf (λk v=>∃t,v=.int (i+k*1) t) acc n):Vals ((List.range n).map λk:Nat=>V.int (i+k)) acc.toList:=by
 obtain⟨h1,h2⟩:=h;have J:∀(l:List Ag) (b m:Nat),l.length=m->(∀(j:Nat) v,l[j]?=some v->∃t,v=.int (i+((b+j:Nat):Int)*1) t)->Vals ((List.range' b m).map λk:Nat=>V.int (i+k)) l:=by
  intro l
  induction l with
  |nil=>intro b m z _;subst z;exact .nil
  |cons x r ih =>
   intro b m z F;subst z;rw[aP,List.range'_succ,aI];refine .cons ?_ (ih (b+1) r.length rfl λj v e=>?_)
   .obtain⟨t,e⟩:=F 0 x rfl;refine⟨t,?_⟩;rw[e];simp
   .obtain⟨t,D⟩:=F (j+1) v e;refine⟨t,?_⟩;rw[D,show b+1+j=b+(j+1) by lia]
 have:=J acc.toList 0 n (by simpa using h1) (λj v e=>by
  obtain⟨t,D⟩:=h2 j v (by simpa using e)
  exact⟨t,by rw[D];simp⟩)
 rwa [<-List.range_eq_range']at this
def tLR (ta:TA):TE:=λσ H Q=>ta σ H λvs H1=>∃i j:Int,vs=[.int i,.int j]/\(-(2 ^ 40)<=i/\i<2 ^ 40/\-(2 ^ 40)<=j/\j<2 ^ 40)/\(j-i).toNat<=1000000/\∀q,H1 q=none->Q (.ref q) (upd H1 q (.lst ((List.range (j-i).toNat).map λk:Nat=>V.int (i+k))))
theorem qvf {X:Cx}{a b:Expr}{ta:TA}{p1 pos1 p2 pos2:Pos}(hc:X.calm=true)(hgl:Gl X "list")(hml:X.mg "list" = none)(hg:Gl X "range")(hm:X.mg "range" = none)(ha:PA X [a,b] ta)
  (hs:autoParam (starEach [a,b] X.env=[(false,eval a X.env),(false,eval b X.env)]) aU4._auto_1) (hs2:autoParam (starEach [b] X.env=[(false,eval b X.env)]) aU4._auto_1) (hs3:autoParam (starEach [(.Call (.Name "range" p1) [a,b] [] pos1)] X.env=[(false,eval (.Call (.Name "range" p1) [a,b] [] pos1) X.env)]) aU4._auto_1) :
  PE X (.Call (.Name "list" p2) [.Call (.Name "range" p1) [a,b] [] pos1] [] pos2) (tLR ta):=by
 intro pins s σ H Q I h;refine cT (yb I hgl hml cK ?_);refine cf (e:=.Call (.Name "range" p1) [a,b] [] pos1) (rest:=[]) ?_ hs3 rfl;rw[hs3];show wpAny _ _ (spliced ((false,eval (.Call (.Name "range" p1) [a,b] [] pos1) X.env)::[])) _ _ s;refine Calls.spliced_cons ?_;refine Call_ (yb I hg hm boot_range (cf (thn (ha pos1 pins s σ H _ I h) λus s1 ⟨vs,H1,I1,r1,D⟩=>?_) (by rw[hs,hs2]) (by rw[hs2];rfl)));obtain⟨i,j,e,⟨D,q2,q3,Z⟩,W,q⟩:=D;subst e;cases r1 with
 |cons r rr =>
  cases rr with
  |cons r' rr =>
   cases rr;obtain⟨t,rfl⟩:=r;obtain⟨t',rfl⟩:=r';refine call_range_2 (Calls.spliced_nil ?_);have z:Inv X pins σ H1 { s1 with heap:=s1.heap.push { cls:=.type "range",data:=.fields #[.int i t,.int j t',.int 1 s1.toks] },toks:=s1.toks+1 }:=I1.kept λb o e=>ah _ e;refine call_list_range (n:=(j-i).toNat) (z.ok.hd hc) (IsRange.new ..) (small_one ⋯ ⋯ ⋯ ⋯) (rangeSize_nat _ _) ⋯ λh' tk U c' F e L=>?_;have J:((List.range (j-i).toNat).map λk:Nat=>V.int (i+k)).length<=sizeLine:=by
    rw[ag,aE];have:(1000000:Nat)<sizeLine:=by decide
    lia
   exact⟨.ref _,_,z.laid (t':=tk) F (aj _) (show ObjOk X.prog X.w _ h' _ (.lst _) from ⟨J,U.toList,c',wzv L,by simpa using e⟩),rfl,q _ (z.hok.fresh (aj _))⟩
end L2
namespace L2
open PySem PySem.Spec PyProof.Rows
structure FunD (K:Aa)(x:Str)(st:Stmt)(f:Aj)(fd:Ad):Prop where
 ex:∃(oc:Ag) (od:Option Aj) (T:Aj) (kV doc pm:Ag) (an:Option Aj) (cdv ct:Ag) (osl:Array (Option Ag)),
  fd=W.fnOf x x (v9 st) (zp st) (qp st) (.ref T) kV doc pm an cdv ct/\K.lookup f=some ⟨oc,od,.func fd,osl⟩/\W.codeIn K cdv x=true/\∃o n,K.lookup T=some o/\o.data=.seq #[.none] n
 kp:W.keepIn K (.ref f)=true
structure DefInD (K:Aa)(x:Str)(st:Stmt):Prop where
 ex:∃f fd,W.nsIn K mainGlobals x=some (some (.ref f))/\FunD K x st f fd
section
variable {P:Ac}{w:Ah}{K:Aa}{mg:Str->Option Ag}{base:Heap}
theorem xk9 {x:Str}{st:Stmt}{f T:Aj}{oc:Ag}{od an:Option Aj}{osl:Array (Option Ag)}{kV doc pm cdv ct:Ag}(a:W.nsIn K mainGlobals x=some (some (.ref f)))
  (l:K.lookup f=some ⟨oc,od,.func (W.fnOf x x (v9 st) (zp st) (qp st) (.ref T) kV doc pm an cdv ct),osl⟩) (c:W.codeIn K cdv x=true) (k:W.keepIn K (.ref f)=true) {tc:Ag} {td:Option Aj} {tn:Nat} {ts:Array (Option Ag)} (t:K.lookup T=some ⟨tc,td,.seq #[.none] tn,ts⟩):DefInD K x st:=⟨_,_,a,⟨oc,od,T,kV,doc,pm,an,cdv,ct,osl,rfl,l,c,_,_,t,rfl⟩,k⟩
theorem FunD.okX {x:Str}{st:Stmt}{f:Aj}{fd:Ad}{N ps:List Str}{k:Nat}{sp:Sp}(F:FunD K x st f fd)(S:FnScope N ps (qp st))(len:∀vs H Q E,sp vs H Q E->vs.length=ps.length)
  (body:∀(cdv:Ag) (A:Ae) (outer:List Env) (s:Ab) (H:Hp) (vs:List V) (Q:VK) (E:XK),Room k (A.deeper (envOfC x (qp st) s.heap.objs.size f cdv))->sp vs H Q E ->
   ∃t,PSs (Yw (CXE P w) P w K mg base N x (qp st) f cdv A outer s H E) (zp st) t/\t { nx:=λ_ H'=>Q .non H',rt:=Q } (Zw N vs) H):FnOk P w K mg base (CXE P w) (k+1) f fd ps sp:=by
 obtain⟨Z,W,T,kV,ab,pm,an,cdv,ct,U,rfl,z,L,_⟩:=F.ex;exact xzj z L S len λA outer s H vs Q E J D=>body cdv A outer s H vs Q E J D
def Yc (x:Str)(st:Stmt)(ps:List Str)(ds:List Ag):Prop:=∀(T:Aj) (kV doc pm:Ag) (an:Option Aj) (cdv ct:Ag) (us:List Ag),(us++ds).length=ps.length ->
 ∃kk,bindArgs (W.fnOf x x (v9 st) (zp st) (qp st) (.ref T) kV doc pm an cdv ct) ⟨us,[]⟩=seqItems? (.ref T) >>= kk/\kk (some #[.none])=pure (ps.zip (us++ds))
structure CalD (P:Ac)(w:Ah)(K:Aa)(mg:Str->Option Ag)(base:Heap)(x:Str)(k:Nat)(sp:Sp):Prop where
 ex:∃f fd ps,mg x=some (.ref f)/\FnOk P w K mg base (CXE P w) k f fd ps sp/\W.keepIn K (.ref f)=true/\Binds K fd ps []/\Binds K fd ps [.none]
theorem FunD.binds {x:Str}{st:Stmt}{f:Aj}{fd:Ad}{ps:List Str}{ds:List Ag}(F:FunD K x st f fd)(b:Yc x st ps ds):Binds K fd ps ds:=by obtain⟨oc,od,T,kV,U,pm,an,cdv,Z,ab,rfl,lk,ac,o,n,L,J⟩:=F.ex;intro s z X D;obtain⟨kk,h1,h2⟩:=b T kV U pm an cdv Z z D;exact W.binds_K X rfl L J h1 h2
theorem DefInD.cal {x:Str}{st:Stmt}{ps:List Str}{k:Nat}{sp:Sp}{h:Heap}(d:DefInD K x st)(KX:K.In h)(G:h.Ns mainGlobals mg)(b:Yc x st ps [])(b':Yc x st ps [.none])(ok:∀f fd,FunD K x st f fd->FnOk P w K mg base (CXE P w) k f fd ps sp):CalD P w K mg base x k sp:=by obtain⟨f,fd,a,F⟩:=d.ex;exact⟨f,fd,ps,bS KX G a,ok f fd F,F.kp,F.binds b,F.binds b'⟩
theorem CalD.all {x:Str}{k:Nat}{sp:Sp}(c:CalD P w K mg base x k sp):Cal P w K mg base x k sp:=by obtain⟨f,fd,ps,h1,h2,h3,h4,_⟩:=c.ex;exact⟨f,fd,ps,h1,h2,h3,h4⟩
end
def tCallD (sp:Sp)(E:St->XK)(t:TA):TE:=λσ H Q=>t σ H λvs H1=>sp (vs++[.non]) H1 Q (E σ)
section
variable {X:Cx}{x:Str}{k:Nat}{sp:Sp}{E:St->XK}{p pos:Pos}{e:Expr}{es:List Expr}{t:TA}
theorem xqj (c:CalD X.prog X.w X.K X.mg X.base x k sp)(hr:Room k X.A)(hg:Gl X x)(hx:u7 X E)
  (ha:PA X (e::es) t) (hdb:autoParam ((x==("__debug__" : Str))=false) aU1._auto_1) (he:autoParam (starEach (e::es) X.env=(false,eval e X.env)::starEach es X.env) aU4._auto_1) (hpl:autoParam ((backTo pos (starEach es X.env)).any (·.1)=false) aU4._auto_1) :
  PE X (.Call (.Name x p) (e::es) [] pos) (tCallD sp E t):=by
 obtain⟨f,fd,ps,L,F,J,_,b⟩:=c.ex;intro pins s σ H Q I h;refine cT (Yd I hg L ?_ hdb);refine gf (h₀:=X.base) I.ok.mod.kin J (thn (ha pos pins s σ H _ I h) λus s1 ⟨vs,H1,I1,r,q⟩=>⟨I1.kIn,?_⟩) he hpl;have D:Vals (vs++[.non]) (us++[.none]):=r.append (.cons rfl .nil);have U:(us++[Value.none]).length=ps.length:=by rw[<-D.length];exact F.len _ _ _ _ q
 refine jJ (eJ (F.run X.A X.stack s1 H1 ⟨us,[]⟩ (us++[.none]) (vs++[.non]) Q (E σ) hr I1.env0 (b s1 us I1.kIn U) D q) λr s' z=>?_);cases r with
 |error e=>exact hx pins σ H1 s1 e s' I1 z
 |ok fl =>
  cases fl with
  |ret u=>exact I1.after z
  |next=>exact False.elim z
  |brk=>exact False.elim z
  |cont=>exact False.elim z
end
end L2
namespace L2
open PySem PySem.Spec PyProof.Rows
section
variable {κ:Type}[DecidableEq κ]
def Qq (kvs:List (κ×V))(k:κ):Option V:=(kvs.find? λkv=>decide (kv.1=k)).map (·.2)
def Jz (kvs:List (κ×V))(k:κ)(v:V):List (κ×V) :=
 if(kvs.any λkv=>decide (kv.1=k))=true then kvs.map (λkv=>if kv.1=k then(kv.1,v) else kv) else kvs++[(k,v)]
theorem yc {p:κ×V}{r:List (κ×V)}{k:κ}(e:p.1=k):Qq (p::r) k=some p.2:=by simp[Qq,fB,e]
theorem yk {p:κ×V}{r:List (κ×V)}{k:κ}(e:¬ p.1=k):Qq (p::r) k=Qq r k:=by simp[Qq,fB,e]
theorem qxc (k:κ):∀kvs:List (κ×V),(kvs.any λkv=>decide (kv.1=k))=(Qq kvs k).isSome
 |[]=>rfl
 |p::r=>by
  rw[kA];by_cases e:p.1=k
  .simp only[yc e,aS e,Bool.true_or,Option.isSome_some]
  .rw[yk e,bz e,Bool.false_or];exact qxc k r
theorem qkn (k j:κ)(y:V):∀kvs:List (κ×V),Qq kvs k=none->Qq (kvs++[(k,y)]) j=if j=k then some y else Qq kvs j
 |[],_=>by
  by_cases e:k=j
  .rw[ay e.symm];exact yc (p:=(k,y)) e
  .rw[ar (λz=>e z.symm)];exact yk (p:=(k,y)) e
 |p::r,hn=>by
  rw[List.cons_append];have hk:¬ p.1=k:=λz=>by rw[yc z]at hn;cases hn
  rw[yk hk]at hn;have ih:=qkn k j y r hn;by_cases e:p.1=j
  .rw[yc e,yc e,ar (λz=>hk (e.trans z))]
  .rw[yk e,yk e,ih]
theorem qqy (kvs:List (κ×V))(k:κ)(v:V):(Jz kvs k v).length<=kvs.length+1:=by
 unfold Jz;split
 .rw[ag];lia
 .rw[ao,aP,dS];lia
theorem xx7 {kvs:List (κ×V)}{k:κ}(v:V)(h:Qq kvs k=none):Jz kvs k v=kvs++[(k,v)]:=by unfold Jz;rw[qxc,h];exact ar ⋯
theorem RelO.isSome_eq {o:Option V}{u:Option Ag}(r:RelO o u):o.isSome=u.isSome:=by
 cases o with
 |none=>cases u with
  |none=>rfl
  |some _=>exact(show False from r).elim
 |some _=>cases u with
  |none=>exact(show False from r).elim
  |some _=>rfl
theorem KV.val {kvs:List (κ×V)}{vs:List (κ×Ag)}(r:KV kvs vs)(k:κ):RelO (Qq kvs k) (valueAt vs k):=by
 unfold KV at r
 induction r with
 |nil=>exact True.intro
 |@cons p q ps qs h t ih =>
  obtain⟨h1,h2⟩:=h;by_cases e:p.1=k
  .have D:q.1=k:=h1.symm.trans e;have b:valueAt (q::qs) k=some q.2:=by simp[valueAt,fB,D]
   rw[yc e,b];exact h2
  .have D:¬ q.1=k:=λz=>e (h1.trans z);have b:valueAt (q::qs) k=valueAt qs k:=by simp[valueAt,fB,D]
   rw[yk e,b];exact ih
theorem KV.any {kvs:List (κ×V)}{vs:List (κ×Ag)}(r:KV kvs vs)(k:κ):(kvs.any λkv=>decide (kv.1=k))=vs.any λkv=>decide (kv.1=k):=by
 unfold KV at r
 induction r with
 |nil=>rfl
 |cons h t ih=>rw[kA,kA,ih,h.1]
theorem KV.repl {kvs:List (κ×V)}{vs:List (κ×Ag)}(r:KV kvs vs)(k:κ){y:V}{u:Ag}(ry:RelV y u) :
  KV (kvs.map λkv=>if kv.1=k then(kv.1,y) else kv) (vs.map λkv=>if kv.1=k then(kv.1,u) else kv):=by
 unfold KV at r ⊢
 induction r with
 |nil=>exact .nil
 |@cons p q ps qs h t ih =>
  rw[aI,aI];refine .cons ?_ ih;obtain⟨h1,h2⟩:=h;by_cases e:p.1=k
  .rw[ay e,ay (h1.symm.trans e)];exact⟨h1,ry⟩
  .rw[ar e,ar (λz=>e (h1.trans z))];exact⟨h1,h2⟩
theorem KV.put {kvs:List (κ×V)}{vs:List (κ×Ag)}(r:KV kvs vs)(k:κ){y:V}{u:Ag}(ry:RelV y u):KV (Jz kvs k y) (stored vs k u):=by
 unfold Jz stored;rw[r.any k];by_cases e:(vs.any λz=>decide (z.1=k))=true
 .rw[ay e,ay e];exact r.repl k ry
 .rw[ar e,ar e];exact Paired.snoc r ⟨rfl,ry⟩
theorem KV.length {kvs:List (κ×V)}{vs:List (κ×Ag)}(r:KV kvs vs):kvs.length=vs.length:=bZ r
end
theorem wvq {P:Ac}{w:Ah}{k:Key}{u:Ag}(r:RelV (kV k) u):(vx P w).is k u=true:=by
 cases k with
 |inl i=>obtain⟨t,e⟩:=(show ∃t,u=Value.int i t from r);subst e;exact wq0 P w i t
 |inr x=>obtain⟨t,e⟩:=(show ∃t,u=Value.str x t from r);subst e;exact wqg P w x t
theorem qk2 {P:Ac}{w:Ah}:∀ {ks:List Key} {us:List Ag},Vals (ks.map kV) us->ItemsAre (vx P w) ks us
 |[],_,r=>by rw[da]at r;cases r;exact .nil
 |k::ks,_,r=>by
  rw[aI]at r;cases r with
  |cons h t=>exact .cons (wvq h) (qk2 t)
abbrev KT (H:Hp):List (List Key×V)->List (List Key×Aj×Ag)->Prop:=Paired λp q=>p.1=q.1/\H q.2.1=some (.tup (p.1.map kV))/\RelV p.2 q.2.2
theorem KT.val {H:Hp}{kvs:List (List Key×V)}{xs:List (List Key×Aj×Ag)}(r:KT H kvs xs)(k:List Key):RelO (Qq kvs k) ((atKey xs k).map (·.2)):=by
 induction r with
 |nil=>exact True.intro
 |@cons p q ps qs h t ih =>
  obtain⟨h1,_,h2⟩:=h;by_cases e:p.1=k
  .have D:q.1=k:=h1.symm.trans e;have b:atKey (q::qs) k=some q.2:=by simp[atKey,fB,D]
   rw[yc e,b];exact h2
  .have D:¬ q.1=k:=λz=>e (h1.trans z);have b:atKey (q::qs) k=atKey qs k:=by simp[atKey,fB,D]
   rw[yk e,b];exact ih
theorem KT.repl {H:Hp}{kvs:List (List Key×V)}{xs:List (List Key×Aj×Ag)}(r:KT H kvs xs)(k:List Key){y:V}{u:Ag}(ry:RelV y u) :
  KT H (kvs.map λkv=>if kv.1=k then(kv.1,y) else kv) (xs.map (putAt k u)):=by
 induction r with
 |nil=>exact .nil
 |@cons p q ps qs h t ih =>
  rw[aI,aI];refine .cons ?_ ih;obtain⟨h1,h2,D⟩:=h;unfold putAt;by_cases e:p.1=k
  .rw[ay e,ay (h1.symm.trans e)];exact⟨h1,h2,ry⟩
  .rw[ar e,ar (λz=>e (h1.trans z))];exact⟨h1,h2,D⟩
theorem KT.put {H:Hp}{kvs:List (List Key×V)}{xs:List (List Key×Aj×Ag)}(r:KT H kvs xs)(k:List Key){b:Aj}{y:V}{u:Ag}(hb:H b=some (.tup (k.map kV)))(ry:RelV y u) :
  KT H (Jz kvs k y) (storedH xs k b u):=by
 have e:(kvs.any λz=>decide (z.1=k))=(atKey xs k).isSome:=by rw[qxc,(r.val k).isSome_eq,Option.isSome_map]
 unfold Jz storedH;rw[e];by_cases q:(atKey xs k).isSome=true
 .rw[ay q,ay q];exact r.repl k ry
 .rw[ar q,ar q];exact Paired.snoc r ⟨rfl,hb,ry⟩
theorem KT.keeps {H H':Hp}{kvs:List (List Key×V)}{xs:List (List Key×Aj×Ag)}(r:KT H kvs xs)(ht:∀b ys,H b=some (.tup ys)->H' b=some (.tup ys)):KT H' kvs xs :=
 Paired.mapP r λ_ _ z=>⟨z.1,ht _ _ z.2.1,z.2.2⟩
section
variable {P:Ac}{w:Ah}{H:Hp}{h:Heap}{a:Aj}
theorem rd_of {u:HO}(ok:HOk P w H h)(e:Rd H a u):ObjOk P w H h a u:=e.ok ok
theorem wkd {kvs:List (Key×V)}(ok:HOk P w H h)(e:Rd H a (.dK kvs)):kvs.length<=sizeLine/\(a==sysModules)=false/\∃vs,KV kvs vs/\h.DictOf (vx P w) a vs :=
 show ObjOk P w H h a (.dK kvs) from rd_of ok e
theorem dk_of {kvs:List (Key×V)}(ok:HOk P w H h)(e:H a=some (.dK kvs)):kvs.length<=sizeLine/\(a==sysModules)=false/\∃vs,KV kvs vs/\h.DictOf (vx P w) a vs:=wkd ok (.inl e)
theorem Yt {ks:List Key}(ok:HOk P w H h)(e:H a=some (.tup (ks.map kV))):(tupleKind (vx P w)).is h ks a:=by obtain⟨_,z,r,o,h1,h2,n,D⟩:=(show ObjOk P w H h a (.tup (ks.map kV)) from ok a _ e);exact⟨o,z.toArray,n,h1,h2,D,by simpa using qk2 r⟩
theorem wvg {kvs:List (List Key×V)}(ok:HOk P w H h)(e:Rd H a (.dT kvs)):kvs.length<=sizeLine/\(a==sysModules)=false /\
  ∃xs,KT H kvs xs/\h.DictOfH (tupleKind (vx P w)) a xs:=by
 obtain⟨z,y,xs,r,o,es,ep,h1,h2,L,J,F⟩:=(show ObjOk P w H h a (.dT kvs) from rd_of ok e);refine⟨z,y,xs,r,o,es,ep,h1,h2,L,J,λx D=>?_,F⟩;have U:∀ {l:List (List Key×V)} {m:List (List Key×Aj×Ag)},KT H l m->∀x∈m,(tupleKind (vx P w)).is h x.1 x.2.1:=by
  intro l m q
  induction q with
  |nil=>intro x D;exact nomatch D
  |@cons p q ps qs hq t ih =>
   intro x D;rcases aM.mp D with e|D
   .subst e;exact Yt ok (by rw[<-hq.1];exact hq.2.1)
   .exact ih x D
 exact U r x D
theorem dt_of {kvs:List (List Key×V)}(ok:HOk P w H h)(e:H a=some (.dT kvs)):kvs.length<=sizeLine/\(a==sysModules)=false /\
  ∃xs,KT H kvs xs/\h.DictOfH (tupleKind (vx P w)) a xs:=wvg ok (.inl e)
end
def DGet (H:Hp)(a:Aj)(y:V)(r:Option V):Prop :=
 (∃kvs k,Rd H a (.dK kvs)/\y=kV k/\r=Qq kvs k)\/∃kvs k b,Rd H a (.dT kvs)/\y=.ref b/\H b=some (.tup (k.map kV))/\r=Qq kvs k
def DPut (H:Hp)(a:Aj)(y v:V)(H':Hp):Prop :=
 (∃kvs k,H a=some (.dK kvs)/\y=kV k/\kvs.length<sizeLine/\H'=upd H a (.dK (Jz kvs k v))) \/
 ∃kvs k b,H a=some (.dT kvs)/\y=.ref b/\H b=some (.tup (k.map kV))/\kvs.length<sizeLine/\H'=upd H a (.dT (Jz kvs k v))
theorem DGet.t {H:Hp}{a b:Aj}{kvs:List (List Key×V)}{k:List Key}(e:H a=some (.dT kvs))(eb:H b=some (.tup (k.map kV))):DGet H a (.ref b) (Qq kvs k):=.inr ⟨kvs,k,b,.inl e,rfl,eb,rfl⟩
theorem DPut.t {H:Hp}{a b:Aj}{kvs:List (List Key×V)}{k:List Key}{v:V}(e:H a=some (.dT kvs))(eb:H b=some (.tup (k.map kV)))(hl:kvs.length<sizeLine) :
  DPut H a (.ref b) v (upd H a (.dT (Jz kvs k v))):=.inr ⟨kvs,k,b,e,rfl,eb,hl,rfl⟩
section
variable {X:Cx}{pins:List (Aj×Obj)}{σ:St}{H:Hp}{s:Ab}{a:Aj}{y v:V}{u r:Ag}{o:Option V}{A:Ae}{E:Ag->Ab->Prop}
theorem Inv.big (I:Inv X pins σ H s):sysModules<s.heap.objs.size:=by have h:mainGlobals<s.heap.objs.size:=(I.mod.glob.keeps I.bk).lt;exact bb ⋯ h
theorem wk3 {Q:Ag->Ab->Prop}(hu:A.units+1<cLine)(I:Inv X pins σ H s)(g:DGet H a y (some v))(ry:RelV y u)(h:∀w' s',Inv X pins σ H s'->RelV v w'->Q w' s') :
  wpAny (model X.prog X.w) A (getItem (.ref a) u) Q E s:=by
 rcases g with⟨kvs,k,e,L,l⟩|⟨kvs,k,b,e,L,eb,l⟩
 .subst L;obtain⟨z,hd,vs,F,U⟩:=wkd I.hok e;obtain⟨w',J,D⟩:=RelO.some_of (v:=v) (o:=valueAt vs k) (by rw[l];exact F.val k);exact wpAny_getItem_of (wvq ry) U.mapOf J (h w' _ (I.tok _) D)
 .subst L;cases(show u=Value.ref b from ry);obtain⟨z,hd,xs,F,U⟩:=wvg I.hok e;obtain⟨w',J,D⟩:=RelO.some_of (v:=v) (o:=(atKey xs k).map (·.2)) (by rw[l];exact F.val k);obtain⟨p,Z,W⟩:=df.mp J;refine wpAny_getItem_heap (iF hu) (Yt I.hok eb) U Z ?_;rw[W];exact h w' _ (I.tok _) D
theorem xk4 {Q:Ag->Ab->Prop}(hu:A.units+1<cLine)(I:Inv X pins σ H s)(g:DGet H a y o)(ry:RelV y u)(h:∀s',Inv X pins σ H s'->Q (.bool (!o.isSome)) s') :
  wpAny (model X.prog X.w) A (compareOp .NotIn u (.ref a)) Q E s:=by
 rcases g with⟨kvs,k,e,J,l⟩|⟨kvs,k,b,e,J,U,l⟩
 .subst J;obtain⟨z,F,vs,D,L⟩:=wkd I.hok e;refine wpAny_notIn_of (wvq ry) F L.mapOf ?_;rw[<- (D.val k).isSome_eq,<-l];exact h _ (I.tok _)
 .subst J;cases(show u=Value.ref b from ry);obtain⟨z,F,xs,D,L⟩:=wvg I.hok e;refine wpAny_notIn_heap (iF hu) (Yt I.hok U) F L ?_;have q:=(D.val k).isSome_eq;rw[Option.isSome_map]at q;rw[<-q,<-l];exact h _ (I.tok _)
theorem qwd {h':Heap}{t':Nat}{ob:HO}(I:Inv X pins σ H s)(mu:Mut (H a))(hs:Heap.SameBut a s.heap h')(he:∃q,h'.get? a=some q)(new:ObjOk X.prog X.w (upd H a ob) h' a ob) :
  Inv X pins σ (upd H a ob) { s with heap:=h',toks:=t' } :=
 I.write (x:=a) (e:=a) mu (.inl rfl) (λb q hb z=>(hs.2 b hb).trans z) he new
theorem dk_new {P:Ac}{w:Ah}{H':Hp}{h':Heap}{kvs:List (Key×V)}{vs:List (Key×Ag)}(z:kvs.length<=sizeLine)(hd:(a==sysModules)=false)(rel:KV kvs vs)(dd:h'.DictOf (vx P w) a vs) :
  ObjOk P w H' h' a (.dK kvs):=⟨z,hd,vs,rel,dd⟩
theorem wyz {H':Hp}{Q:Unit->Ab->Prop}(hu:A.units+1<cLine)(I:Inv X pins σ H s)(g:DPut H a y v H')(ry:RelV y u)(rv:RelV v r)(h:∀s',Inv X pins σ H' s'->Q () s') :
  wpAny (model X.prog X.w) A (setItem (.ref a) u r) Q E s:=by
 rcases g with⟨kvs,k,e,Z,l,eH⟩|⟨kvs,k,b,e,Z,eb,l,eH⟩
 .subst Z eH;obtain⟨z,W,vs,D,dd⟩:=dk_of I.hok e;have L:vs.length<=sizeLine:=by rw[<-D.length];exact z
  have U:(Jz kvs k v).length<=sizeLine:=by have:=qqy kvs k v;lia
  refine wpAny_setItem_pairs (hsz:=L) (wvq ry) dd λh' J hs=>h _ ?_;have he:∃q,h'.get? a=some q:=let ⟨q,_,_,F,_⟩:=J;⟨q,F⟩;exact qwd I (by rw[e];exact True.intro) hs he (dk_new U W (D.put k rv) J)
 .subst Z eH;cases(show u=Value.ref b from ry);obtain⟨z,W,xs,D,dd⟩:=dt_of I.hok e;have L:xs.length<=sizeLine:=by rw[<-bZ D];exact z
  have U:(Jz kvs k v).length<=sizeLine:=by have:=qqy kvs k v;lia
  refine wpAny_setItem_heap (hsz:=L) (iF hu) (Yt I.hok eb) dd λh' J hs=>h _ ?_;obtain⟨q,es,ep,F,h2,h3,h4,_,h5⟩:=J;refine qwd I (by rw[e];exact True.intro) hs ⟨q,F⟩ ⟨U,W,_,(D.put k eb rv).keeps λc ys ec=>?_,q,es,ep,F,h2,h3,h4,h5⟩;rw[qt (ne_of ec e (λz=>nomatch z))];exact ec
end
section
variable {X:Cx}{pins:List (Aj×Obj)}{σ:St}{H:Hp}{s:Ab}{a:Aj}{kvs:List (Key×V)}{k:Key}{u:Ag}{A:Ae}{E:Ag->Ab->Prop}
end
def NoSl (i:Expr):Prop:=∀ov iv,subscripted i false ov iv=operate [ov,iv] (getItem ov iv)
theorem xvx {prog:Ac}{w:Ah}{A:Ae}{E:Ag->Ab->Prop}{s:Ab}{env:Env}{value slice:Expr}{pos:Pos}{T id:String}{Q:Ag->Ab->Prop}
  (hl:typeLookup (.type T) "__getitem__" = pure (some (.builtin id))) (hs:NoSl slice)
  (h:wpAny (model prog w) A (eval value env) (λo s₁=>wpAny (model prog w) A (eval slice env) (λi s₂=>s₂.TypeIs o T/\wpAny (model prog w) A (getItem o i) Q E s₂) E s₁) E s) :
  wpAny (model prog w) A (eval (.Subscript value slice pos) env) Q E s:=by
 refine Subscript_ (aO h (λo s₁ U=>aO U (λi s₂ z=>?_) λ_ _ x=>x) λ_ _ x=>x);obtain⟨J,z⟩:=z;unfold subscriptTail;refine aa ?_;rw[getitemInPython_of_ne J.not_modules];refine aa (jO J hl ?_);have D:wpAny (model prog w) A (subscripted slice false o i) (λr F=>wpAny (model prog w) A (letTemporaryGo value o r >>= λ_=>pure r) Q E F) E s₂:=by rw[hs o i];exact wpAny_operating (aO z (λr F L=>aa (wpAny_letTemporaryGo (ai L))) λ_ _ x=>x)
 first
  |exact ai (aa D)
  |exact aa (ai (aa D))
  |exact aa D
theorem qum {X:Cx}{pins:List (Aj×Obj)}{σ:St}{H:Hp}{s:Ab}{a:Aj}{y:V}{o:Option V}(I:Inv X pins σ H s)(g:DGet H a y o):s.TypeIs (.ref a) "dict" := by
 rcases g with⟨kvs,k,e,_,_⟩|⟨kvs,k,b,e,_,_,_⟩
 .obtain⟨_,_,vs,_,dd⟩:=wkd I.hok e;exact dd.typeIs
 .obtain⟨_,_,xs,_,dd⟩:=wvg I.hok e;exact dd.typeIs
def tDGet (td ty:TE):TE:=λσ H Q=>td σ H λx H1=>ty σ H1 λy H2=>∃a v,x=.ref a/\DGet H2 a y (some v)/\Q v H2
def xzb (ty td:TE):TE:=λσ H Q=>ty σ H λy H1=>td σ H1 λx H2=>∃a o,x=.ref a/\DGet H2 a y o/\Q (.bl (!o.isSome)) H2
def sDPut (td ty tv:TE):TS:=λD σ H=>tv σ H λv H1=>td σ H1 λx H2=>ty σ H2 λy H3=>∃a H4,x=.ref a/\DPut H3 a y v H4/\D.nx σ H4
section
variable {X:Cx}{o i e value:Expr}{pos pos' tpos:Pos}{td ty tv:TE}
theorem xkq (hu:X.A.units+1<cLine)(ho:PE X o td)(hi:PE X i ty)(hs:NoSl i):PE X (.Subscript o i pos) (tDGet td ty):=by intro pins s σ H Q I h;refine xvx PySem.F.slot_dict_getitem.lookup hs (thn (ho pins s σ H _ I h) λu s1 ⟨x,H1,I1,rx,q1⟩=>thn (hi pins s1 σ H1 _ I1 q1) λiv s2 ⟨y,H2,I2,ry,a,v,ex,g,q2⟩=>?_);subst ex;obtain rfl:u=Value.ref a:=rx;exact⟨qum I2 g,wk3 hu I2 g ry λJ L D z=>⟨v,H2,D,z,q2⟩⟩
theorem wyk (hu:X.A.units+1<cLine)(hi:PE X i ty)(ho:PE X o td):PC X .NotIn i o (xzb ty td):=by intro pins s σ H Q I h;refine thn (hi pins s σ H _ I h) λiv s1 ⟨y,H1,I1,ry,q1⟩=>thn (ho pins s1 σ H1 _ I1 q1) λu s2 ⟨x,H2,I2,rx,a,ov,ex,g,q2⟩=>?_;subst ex;obtain rfl:u=Value.ref a:=rx;exact xk4 hu I2 g ry λD z=>⟨.bl (!ov.isSome),H2,z,rfl,q2⟩
theorem xk6 (hu:X.A.units+1<cLine)(ho:PE X o td)(hi:PE X i ty)(hv:PE X value tv)(hs:swapsWith value (some (.Subscript o i pos')) pos.line X.env=pure false) :
  PS X (.Assign [.Subscript o i pos'] value pos) (sDPut td ty tv):=by
 intro pins s σ H D I h;refine wpAny_Assign_Subscript (thn (hv pins s σ H _ I h) λr s1 ⟨v,H1,I1,rv,q1⟩=>thn (ho pins s1 σ H1 _ I1 q1) λu s2 ⟨x,H2,I2,rx,q2⟩=>thn (hi pins s2 σ H2 _ I2 q2) λiv s3 ⟨y,H3,I3,ry,a,H4,ex,g,q3⟩=>?_) hs;subst ex;obtain rfl:u=Value.ref a:=rx;exact wyz hu I3 g ry rv λF z=>⟨σ,H4,z,q3⟩
end
theorem xqc {P:Ac}{w:Ah}{H:Hp}(h:Heap)(hb:sysModules<h.objs.size):ObjOk P w H (h.push { cls:=.type "dict",data:=.dict #[] }) h.objs.size (.dT []) :=
 ⟨aY _,cC.mpr (eU (aC hb)),[],.nil,_,#[],0,aA _ rfl,⟨rfl,rfl,rfl⟩,rfl,rfl,jX⟩
def tDNewT:TE:=λ_ H Q=>∀p,H p=none->Q (.ref p) (upd H p (.dT []))
section
variable {X:Cx}{pos:Pos}
theorem xw1:PE X (.Dict [] [] pos) tDNewT:=λpins s σ H Q I h =>
 wpAny_Dict_empty ⟨.ref s.heap.objs.size,_,I.laid (a:=s.heap.objs.size) (o:=.dT []) (t':=s.toks) (λ_ _ q=>ah _ q) (aj _) (xqc s.heap I.big),rfl,h _ (I.hok.fresh (aj _))⟩
end
end L2
namespace L2
open PySem PySem.Spec PySem.Calls PySem.W PyProof.Rows
section
variable {prog:Ac}{w:Ah}{A:Ae}{E:Ag->Ab->Prop}{s:Ab}{S a:Aj}{es:Array (Int×Ag)}{ep:Nat}{t:SetTable}{o:Obj}{k:List Key}{ks:List (List Key)}{h:Int}{B:Nat}
abbrev KD (prog:Ac)(w:Ah):=tupleKind (vx prog w)
def EsIn (prog:Ac)(w:Ah)(B:Nat)(hp:Heap)(es:Array (Int×Ag))(ks:List (List Key)):Prop:=∀p∈es.toList,∃k∈ks,∃a,p.2=.ref a/\a<B/\(KD prog w).is hp k a
theorem wj6 (n:Nat){v:Ag}(h:carriedByValue v=true):ofAClassStatement n v=pure false:=by
 cases v with
 |ref x=>cases h
 |_=>first | rfl | (simp[ofAClassStatement];done) | (cases n <;> rfl)
theorem wq7 (hx:(KD prog w).is s.heap k a){n:Nat}{Q:Bool->Ab->Prop}(hQ:Q false s):wpAny (model prog w) A (ofAClassStatement (n+1) (.ref a)) Q E s:=by
 have L:s.TypeIs (.ref a) "tuple" := IsTupleKey.typeIs hx;obtain⟨o,z,m,F,Z,J,hi⟩:=hx;unfold ofAClassStatement;refine aa (wpAny_typeOf L ?_);dsimp only;rw[ay ⋯];refine aa (ai ?_);simp only[fV,aB,br];refine aa (iG F J ?_);refine aa ?_;show wpAny _ _ (forIn z _ _) _ _ s;rw[<-gh];refine jA _ (λrest r s'=>r.1=none/\s'=s/\∀v∈rest,carriedByValue v=true) _ ?_ ?_ _ _ ⟨rfl,rfl,hi.byValue⟩
 .rintro v rest r s' ⟨hr,rfl,hall⟩;rw[wj6 _ (hall v d8)];refine aa (ai ?_);simp only[aB,br];exact ai ⟨rfl,rfl,λu D=>hall u (bM _ D)⟩
 .rintro⟨W,U⟩ s' ⟨hr,rfl,_⟩;simp only at hr;subst hr;exact ai hQ
theorem xku (hx:(KD prog w).is s.heap k a){Q:Bool->Ab->Prop}(hQ:Q false s):∀(l:List Ag),(∀y∈l,∃k' b,y=.ref b/\(KD prog w).is s.heap k' b)->wpAny (model prog w) A (searchCouldBeSeen (.ref a) l) Q E s:=by
 intro l J;unfold searchCouldBeSeen;refine aa ?_;refine jA _ (λrest r s'=>r.1=none/\s'=s/\∀y∈rest,∃k' b,y=.ref b/\(KD prog w).is s.heap k' b) _ ?_ ?_ _ _ ⟨rfl,rfl,J⟩
 .rintro y rest r s' ⟨hr,rfl,hall⟩;obtain⟨k',b,rfl,D⟩:=hall y d8;have z:∀u∈rest,∃k' b,u=.ref b/\(KD prog w).is s'.heap k' b:=λu F=>hall u (bM _ F);dsimp only;split
  .exact ai ⟨rfl,rfl,z⟩
  .refine aa ((KD prog w).quiet hx ?_);simp only[fV,aB,br];refine aa ((KD prog w).quiet D ?_);simp only[fV,aB,br];refine aa (wq7 hx ?_);simp only[aB,br];refine aa (wq7 D ?_);simp only[aB,br];exact ai ⟨rfl,rfl,z⟩
 .rintro⟨U,L⟩ s' ⟨hr,rfl,_⟩;simp only at hr;subst hr;exact ai hQ
structure StAt (prog:Ac)(w:Ah)(B:Nat)(hp:Heap)(S:Aj)(ks:List (List Key))(es:Array (Int×Ag))(ep:Nat)(t:SetTable)(e:Nat)(o:Obj):Prop where
 ho:hp.get? S=some o
 ex:o.ExactSet
 hd:o.data=.set es ep t
 dm:t.dummies=#[]
 pl:t.place.size=es.size
 pw:t.mask+1=2 ^ e
 lo:3<=e
 hi:e<=12
 few:es.size*5<t.mask*3
 len:es.size=ks.length
 els:EsIn prog w B hp es ks
theorem xzx {b:Aj}{Q:Bool->Ab->Prop}(hQ:Q true s):wpAny (model prog w) A (isSame (.ref b) (.ref b)) Q E s:=by unfold isSame;dsimp only;rw[ay (fN b)];exact ai hQ
end
end L2
namespace L2
open PySem PySem.Spec PySem.Calls PySem.W PyProof.Rows
section
variable {prog:Ac}{w:Ah}{A:Ae}{E:Ag->Ab->Prop}{s:Ab}{S a:Aj}{es:Array (Int×Ag)}{ep:Nat}{t:SetTable}{o:Obj}{k:List Key}{ks:List (List Key)}{h:Int}{B:Nat}
theorem qju {hp:Heap}(ho:hp.get? S=some o)(hd:o.data=.set es ep t){es':Array (Int×Ag)}{t':SetTable}:(hp.update S (Obj.putSet es' t')).get? S=some { o with data:=.set es' (ep+1) t' }:=by have e:=putSet_of es' t' hd;have:=dt (Obj.putSet es' t') ho (by rw[e];rfl);rw[e]at this;exact this
end
end L2
namespace L2
open PySem
def qu9 (xs:Array Nat):Prop:=∀(i j x y:Nat),i<j->xs[i]?=some x->xs[j]?=some y->x<y
theorem qx6 {xs:Array Nat}{j:Nat}(r:qu9 xs):∀f lo hi,hi-lo<=f->lo<=hi->hi<=xs.size->(∀(i x:Nat),i<lo->xs[i]?=some x->x<j)->(∀(i x:Nat),hi<=i->xs[i]?=some x->j<=x) ->
  SetTable.below.go xs j f lo hi<=xs.size/\(∀(i x:Nat),i<SetTable.below.go xs j f lo hi->xs[i]?=some x->x<j)/\(∀(i x:Nat),SetTable.below.go xs j f lo hi<=i->xs[i]?=some x->j<=x)
 |0,lo,hi,hf,h1,h2,a,b=>by
  obtain rfl:lo=hi:=by lia
  exact⟨h2,a,b⟩
 |f+1,lo,hi,hf,h1,h2,a,b=>by
  unfold SetTable.below.go;by_cases c:lo<hi
  .rw[ay c];dsimp only;have F:(lo+hi)/2<xs.size:=by lia
   have e:xs[(lo+hi)/2]?=some xs[(lo+hi)/2]:=bf F;have L:xs.getD ((lo+hi)/2) j=xs[(lo+hi)/2]:=by simp[Array.getD,F]
   rw[L];have D:∀(i k x y:Nat),i<=k->xs[i]?=some x->xs[k]?=some y->x<=y:=λi k x y h ex z=>by
    rcases bo i k with q|q
    .exact bn (r i k x y q ex z)
    .obtain rfl:i=k:=by lia
     rw[ex]at z;cases z;exact aj _
   by_cases d:xs[(lo+hi)/2]<j
   .rw[ay d];exact qx6 r f _ _ ⋯ ⋯ h2 (λi x J ex=>fj (D i _ _ _ ⋯ ex e) d) b
   .rw[ar d];exact qx6 r f _ _ ⋯ ⋯ ⋯ a (λi x J ex=>bI ⋯ (D _ i _ _ J e ex))
  .rw[ar c];obtain rfl:lo=hi:=by lia
   exact⟨h2,a,b⟩
theorem Qn {xs:Array Nat}(r:qu9 xs)(j:Nat):SetTable.below xs j<=xs.size/\(∀(i x:Nat),i<SetTable.below xs j->xs[i]?=some x->x<j)/\(∀(i x:Nat),SetTable.below xs j<=i->xs[i]?=some x->j<=x) :=
 qx6 r _ _ _ ⋯ (aY _) (aj _) (λi x h=>by lia) λi x h ex=>by have:=(bR.mp ex).1;lia
theorem xxm {xs:Array Nat}(r:qu9 xs){i j:Nat}(h:xs[i]?=some j):SetTable.below xs j=i:=by
 obtain⟨a,b,c⟩:=Qn r j;have hi:=(bR.mp h).1;rcases iW (SetTable.below xs j) i with q|q|q
 .have e:xs[SetTable.below xs j]?=some (xs[SetTable.below xs j]'⋯):=bf _;have h1:=c _ _ (aj _) e;have h2:=r _ _ _ _ q e h;lia
 .exact q
 .have:=b i j q h;lia
theorem wxk {xs:Array Nat}(r:qu9 xs){i j:Nat}(h:xs[i]?=some j):SetTable.below xs (j+1)=i+1:=by
 obtain⟨a,b,c⟩:=Qn r (j+1);have hi:=(bR.mp h).1;rcases iW (SetTable.below xs (j+1)) (i+1) with q|q|q
 .have:=c i j ⋯ h;lia
 .exact q
 .have z:i+1<xs.size:=by lia
  have e:xs[i+1]?=some xs[i+1]:=bf z;have h1:=b _ _ q e;have h2:=r _ _ _ _ (eV i) h e;lia
theorem wx4 {xs:Array Nat}(r:qu9 xs):SetTable.below xs 0=0:=by
 obtain⟨a,b,c⟩:=Qn r 0;rcases Nat.eq_zero_or_pos (SetTable.below xs 0) with q|q
 .exact q
 .have e:xs[0]?=some (xs[0]'⋯):=bf _;have:=b 0 _ q e;lia
section
variable {t:SetTable}
theorem quq (r:qu9 t.place){i j:Nat}(h:t.place[i]?=some j):t.slot j=.live i:=by unfold SetTable.slot;dsimp only;rw[xxm r h,h];simp
theorem xqw {t t':SetTable}(h:t.mask=t'.mask)(p:SetTable.Probe):t.advance p=t'.advance p:=by unfold SetTable.advance;rw[h]
theorem qk7 {t t':SetTable}(h:t.mask=t'.mask):∀n p,zx t n p=zx t' n p
 |0,p=>rfl
 |n+1,p=>by show zx t n (t.advance p)=zx t' n (t'.advance p);rw[xqw h,qk7 h]
def pos (t:SetTable)(h:Int)(n:Nat):Nat:=(zx t n (t.probeStart h)).j
theorem qw6 {t t':SetTable}(h:t.mask=t'.mask)(x:Int)(n:Nat):pos t x n=pos t' x n:=by
 unfold pos;have:t.probeStart x=t'.probeStart x:=by unfold SetTable.probeStart;rw[h]
 rw[this,qk7 h]
structure Tab (bt:Bool)(t:SetTable)(hs:List Int):Prop where
 dm:t.dummies=#[]
 pl:t.place.size=hs.length
 pw:∃e,t.mask+1=2 ^ e/\3<=e/\e<=13
 few:hs.length<=t.mask
 rise:qu9 t.place
 reach:∀(i:Nat) (h:Int),hs[i]?=some h->∃N j,N<=10*(t.mask+14)/\t.place[i]?=some j/\pos t h N=j/\∀n,n<N->∃i':Nat,t.place[i']?=some (pos t h n)
 led:t.led=!bt
 plain:t.plain=true
variable {bt:Bool}{hs:List Int}{h:Int}
theorem Tab.fresh:Tab bt (.fresh 0 0 (!bt)) []:=by
 refine⟨rfl,rfl,⟨3,rfl,aj _,⋯⟩,aY _,λi j x y _ ex=>?_,λi h e=>?_,rfl,rfl⟩
 .have:(#[]:Array Nat)[i]?=some x:=ex;simp at this
 .simp at e
theorem Tab.fits (T:Tab bt t hs):t.fits hs.length=true:=by
 have h1:=T.pl;have h2:=T.few;have:t.fill<=t.mask:=by unfold SetTable.fill;rw[T.dm,h1];simpa using h2
 simp[SetTable.fits,h1,this]
theorem Tab.big (T:Tab bt t hs):7<=t.mask/\t.mask<8192:=by
 obtain⟨e,h1,h2,z⟩:=T.pw;have a:(2:Nat) ^ 3<=2 ^ e:=dG ⋯ h2;have b:(2:Nat) ^ e<=2 ^ 13:=dG ⋯ z;have c:(2:Nat) ^ 13=8192:=by decide
 have d:(2:Nat) ^ 3=8:=by decide
 lia
theorem Tab.free (T:Tab bt t hs)(h:Int):∃N,N<=10*(t.mask+13)/\t.slot (pos t h N)=.empty/\∀n,n<N->∃i:Nat,t.slot (pos t h n)=.live i:=by
 obtain⟨e,h1,_⟩:=T.pw;obtain⟨z,hN,L⟩:=wuq h1 T.dm (by rw[T.pl];exact T.few) h;have J:∀z,t.slot (pos t h z)=.empty->∃N,N<=z/\t.slot (pos t h N)=.empty/\∀n,n<N->∃i:Nat,t.slot (pos t h n)=.live i:=by
  intro z
  induction z using Nat.strongRecOn with
  |_ z ih =>
   intro W;by_cases c:∀n,n<z->∃i:Nat,t.slot (pos t h n)=.live i
   .exact⟨z,aj _,W,c⟩
   .rw[Classical.not_forall]at c;obtain⟨n,c⟩:=c;rw[Classical.not_imp]at c;obtain⟨U,c⟩:=c;rcases qzb T.dm (pos t h n) with q|q
    .obtain⟨N,Z,F,D⟩:=ih n U q;exact⟨N,⋯,F,D⟩
    .exact absurd q c
 obtain⟨N,Z,F,D⟩:=J z L;exact⟨N,⋯,F,D⟩
theorem qzf {α:Type}(xs:Array α)(p:Nat)(x:α):(SetTable.insertAt xs p x).toList=xs.toList.take p++x::xs.toList.drop p:=by unfold SetTable.insertAt;rw[bT,dM,eM,eM];simp only[List.extract,aZ,List.singleton_append,Nat.sub_zero,List.drop_zero];congr 2;exact dh (by simp)
theorem qu5 {α:Type}(l:List α)(p:Nat)(x:α)(hp:p<=l.length)(i:Nat):(l.take p++x::l.drop p)[i]?=if i<p then l[i]? else if i=p then some x else l[i-1]?:=by
 have z:(l.take p).length=p:=by rw[be];lia
 by_cases c:i<p
 .rw[ay c,aT ⋯,i6 c]
 .rw[ar c,aG ⋯,z];by_cases d:i=p
  .rw[ay d,d,ir];rfl
  .rw[ar d];obtain⟨k,D⟩:∃k,i-p=k+1:=⟨i-p-1,⋯⟩;rw[D,jB,dC];congr 1;lia
def xn {α:Type}(l:List α)(p:Nat)(x:α):List α:=l.take p++x::l.drop p
theorem ut {α:Type}(l:List α)(p:Nat)(x:α):(xn l p x).Perm (x::l):=by unfold xn;refine(List.perm_middle).trans ?_;rw[du]
theorem Tab.put (T:Tab bt t hs){N:Nat}(hN:N<=10*(t.mask+13))(he:t.slot (pos t h N)=.empty)(hl:∀n,n<N->∃i:Nat,t.slot (pos t h n)=.live i)(hf:hs.length+1<=t.mask) :
  Tab bt (t.put (pos t h N)).1 (xn hs (t.put (pos t h N)).2 h)/\(t.put (pos t h N)).2<=hs.length:=by
 obtain⟨b1,b2,b3⟩:=Qn T.rise (pos t h N);have hp:(t.put (pos t h N)).2=SetTable.below t.place (pos t h N):=rfl;have J:(t.put (pos t h N)).1.place=SetTable.insertAt t.place (SetTable.below t.place (pos t h N)) (pos t h N):=rfl;rw[hp];generalize hb:SetTable.below t.place (pos t h N)=p at b1 b2 b3 J;have ac:p<=hs.length:=by rw[<-T.pl];exact b1
 have ad:∀i:Nat,t.place[i]?≠some (pos t h N):=λi e=>by rw[quq T.rise e]at he;cases he
 have L:∀i:Nat,(SetTable.insertAt t.place p (pos t h N))[i]?=if i<p then t.place[i]? else if i=p then some (pos t h N) else t.place[i-1]?:=λi=>by rw[<-aJ,qzf,qu5 _ _ _ (by rw[aV];exact b1)];simp only[aJ]
 have up:∀i j:Nat,t.place[i]?=some j->∃F:Nat,(SetTable.insertAt t.place p (pos t h N))[F]?=some j:=λi j e=>by
  by_cases c:i<p
  .exact⟨i,by rw[L,ay c];exact e⟩
  .exact⟨i+1,by rw[L,ar ⋯,ar ⋯,fm];exact e⟩
 refine⟨⟨?_,?_,T.pw,?_,?_,?_,T.led,T.plain⟩,ac⟩
 .show(if SetTable.has t.dummies (pos t h N) then _ else t.dummies)=#[];rw[T.dm];simp[SetTable.has]
 .rw[J,<-aV,qzf];show(xn t.place.toList p (pos t h N)).length=_;rw[(ut t.place.toList p _).length_eq,(ut hs p h).length_eq];simp[T.pl]
 .rw[(ut hs p h).length_eq];exact hf
 .intro i j x y an ex z;rw[J,L]at ex z;by_cases c1:i<p
  .rw[ay c1]at ex;have h1:=b2 i x c1 ex;by_cases c2:j<p
   .rw[ay c2]at z;exact T.rise i j x y an ex z
   .rw[ar c2]at z;by_cases c3:j=p
    .rw[ay c3]at z;cases z;exact h1
    .rw[ar c3]at z;have:=b3 _ y ⋯ z;lia
  .rw[ar c1]at ex;rw[ar ⋯,ar ⋯]at z;by_cases c3:i=p
   .rw[ay c3]at ex;cases ex;have h2:=b3 _ y ⋯ z;rcases bo (pos t h N) y with q|q
    .exact q
    .have:y=pos t h N:=by lia
     rw[this]at z;exact absurd z (ad _)
   .rw[ar c3]at ex;exact T.rise (i-1) (j-1) x y ⋯ ex z
 .intro i h' D;have pm:∀x n,pos (t.put (pos t h N)).1 x n=pos t x n:=λx n=>qw6 (t:=(t.put (pos t h N)).1) (t':=t) rfl x n;unfold xn at D;rw[qu5 _ _ _ ac]at D;have ab:∀W,hs[W]?=some h'->(SetTable.insertAt t.place p (pos t h N))[i]?=t.place[W]?->∃U j,U<=10*((t.put (pos t h N)).1.mask+14)/\(t.put (pos t h N)).1.place[i]?=some j/\pos (t.put (pos t h N)).1 h' U=j/\∀n,n<U->∃F:Nat,(t.put (pos t h N)).1.place[F]?=some (pos (t.put (pos t h N)).1 h' n):=λW e0 e1=>by obtain⟨U,j,r1,r2,r3,r4⟩:=T.reach W h' e0;refine⟨U,j,r1,by rw[J,e1];exact r2,by rw[pm];exact r3,λn Z=>?_⟩;obtain⟨F,e'⟩:=r4 n Z;rw[pm,J];exact up F _ e'
  by_cases c1:i<p
  .rw[ay c1]at D;exact ab i D (by rw[L,ay c1])
  .rw[ar c1]at D;by_cases c2:i=p
   .rw[ay c2]at D;cases D;refine⟨N,pos t h N,bI hN (by show _<=10*(t.mask+14);lia),by rw[J,L,ar c1,ay c2],pm _ _,λn Z=>?_⟩;obtain⟨F,e'⟩:=hl n Z;rw[pm,J];exact up F _ (Y6 e')
   .rw[ar c2]at D;exact ab (i-1) D (by rw[L,ar c1,ar c2])
end
end L2
namespace L2
open PySem
theorem xx6 (t:SetTable)(q:Nat×Nat):∀k r j,k<=r->zx t k { j:=j,more:=r,i:=q.1,perturb:=q.2,dummy:=none }={ j:=j+k,more:=r-k,i:=q.1,perturb:=q.2,dummy:=none }
 |0,r,j,_=>rfl
 |k+1,r,j,h=>by
  show zx t k (t.advance _)=_;have e:t.advance { j:=j,more:=r,i:=q.1,perturb:=q.2,dummy:=none }={ j:=j+1,more:=r-1,i:=q.1,perturb:=q.2,dummy:=none }:=by unfold SetTable.advance;rw[ay (by show r>0;lia)]
  rw[e,xx6 t q k (r-1) (j+1) ⋯];congr 1 <;> lia
theorem xx5 (t:SetTable)(q:Nat×Nat){k:Nat}(h:q.1+k<=SetTable.runEnd t.mask q.1):(zx t k (rs t.mask q)).j=q.1+k:=by unfold rs;rw[xx6 t q k _ _ ⋯]
theorem wuw (mask i:Nat):i<=SetTable.runEnd mask i/\SetTable.runEnd mask i<=i+9/\(i<=mask->SetTable.runEnd mask i<=mask):=by unfold SetTable.runEnd;split <;> lia
theorem xky (mask i p:Nat):(SetTable.leap mask i p).1<=mask:=by unfold SetTable.leap;exact dL (eN _ (fk _))
theorem wk1 {t:SetTable}{owner:Array (Option Nat)}:∀n fuel i p,n<fuel->i<=t.mask->owner.getD (lp t.mask n (i,p)).1 (some 0)=none ->
  ∃j N,SetTable.layClean.free t.mask owner fuel i p=some j/\owner.getD j (some 0)=none/\N<=10*n+9/\(zx t N (rs t.mask (i,p))).j=j/\∀k,k<N->(zx t k (rs t.mask (i,p))).j<=t.mask/\owner.getD (zx t k (rs t.mask (i,p))).j (some 0)≠none
 |n,0,i,p,hf,_,_=>absurd hf (ie _)
 |n,fuel+1,i,p,hf,hi,hn=>by
  obtain⟨r1,r2,r3⟩:=wuw t.mask i;have r3:=r3 hi;unfold SetTable.layClean.free;cases q:(List.range (SetTable.runEnd t.mask i+1-i)).find? λk=>(owner.getD (i+k) (some 0)).isNone with
  |some k =>
   have hk:=aq.mp (List.mem_of_find?_eq_some q);have hs:owner.getD (i+k) (some 0)=none:=by have:=List.find?_some q;exact Option.isNone_iff_eq_none.mp this
   refine⟨i+k,k,rfl,hs,⋯,xx5 t (i,p) (by show i+k<=SetTable.runEnd t.mask i;lia),λD ab=>?_⟩;rw[xx5 t (i,p) (by show i+D<=SetTable.runEnd t.mask i;lia)];refine⟨by show i+D<=_;lia,λz=>?_⟩;have fs:=List.find?_eq_some_iff_append.mp q;obtain⟨_,F,bs,e,U⟩:=fs;have hl:F.length=k:=by
    have h1:(List.range (SetTable.runEnd t.mask i+1-i))[F.length]?=some k:=by rw[e];simp
    have h2:=(al.mp h1).1;rw[bi (by simpa using h2)]at h1;exact av h1
   have L:D∈F:=by have h1:(List.range (SetTable.runEnd t.mask i+1-i))[D]?=some D:=bi ⋯;rw[e,aT ⋯]at h1;exact aF h1
   have:=U D L;rw[show(i,p).1+D=i+D from rfl]at z;rw[z]at this;exact absurd this (by simp)
  |none =>
   have W:=List.find?_eq_none.mp q;have J:∀k,i+k<=SetTable.runEnd t.mask i->owner.getD (i+k) (some 0)≠none:=λk hk z=>by have:=W k (aq.mpr ⋯);rw[z]at this;exact this rfl
   cases n with
   |zero=>exact absurd hn (by have:=J 0 ⋯;rw[gJ]at this;exact this)
   |succ n =>
    obtain⟨j,N,a1,a2,a3,a4,Z⟩:=wk1 (t:=t) (owner:=owner) n fuel (SetTable.leap t.mask i p).1 (SetTable.leap t.mask i p).2 ⋯ (xky _ _ _) hn;have st:zx t (SetTable.runEnd t.mask i-i+1) (rs t.mask (i,p))=rs t.mask (SetTable.leap t.mask i p):=qwr t (i,p) _ _;refine⟨j,SetTable.runEnd t.mask i-i+1+N,a1,a2,⋯,by rw[Q4,st];exact a4,λk hk=>?_⟩;by_cases c:k<SetTable.runEnd t.mask i-i+1
    .rw[xx5 t (i,p) (by show i+k<=SetTable.runEnd t.mask i;lia)];exact⟨by show i+k<=_;lia,J k ⋯⟩
    .rw[show k=SetTable.runEnd t.mask i-i+1+(k-(SetTable.runEnd t.mask i-i+1)) by lia,Q4,st];exact Z _ ⋯
structure Own (t:SetTable)(hs:List Int)(owner:Array (Option Nat))(k:Nat):Prop where
 size:owner.size=t.mask+1
 low:∀j v:Nat,owner[j]?=some (some v)->v<k
 sur:∀v,v<k->∃j:Nat,owner[j]?=some (some v)
 inj:∀j j' v:Nat,owner[j]?=some (some v)->owner[j']?=some (some v)->j=j'
 way:∀(j v:Nat) (h:Int),owner[j]?=some (some v)->hs[v]?=some h->∃N,N<=10*(t.mask+14)/\pos t h N=j/\∀n,n<N->∃v',owner[pos t h n]?=some (some v')
section
variable {t:SetTable}{hs:List Int}{owner:Array (Option Nat)}{k:Nat}
theorem got {j:Nat}(h:owner.getD j (some 0)=none):owner[j]?=some none:=by
 rw[cg]at h;cases q:owner[j]? with
 |none=>rw[q]at h;cases h
 |some v=>rw[q]at h;exact bV some h
theorem taken {j:Nat}(h:owner.getD j (some 0)≠none)(hj:j<owner.size):∃v,owner[j]?=some (some v):=by
 rw[cg,bf hj]at h;rw[bf hj];cases q:owner[j] with
 |none=>rw[q]at h;exact absurd rfl h
 |some v=>exact⟨v,rfl⟩
theorem Own.free (o:Own t hs owner k)(hk:k<=t.mask):∃j,j<=t.mask/\owner.getD j (some 0)=none:=by
 apply iO;intro c;have F:∀j,j<t.mask+1->∃v,v<k/\owner[j]?=some (some v):=λj D=>by obtain⟨v,e⟩:=taken (owner:=owner) (j:=j) (λz=>c ⟨j,⋯,z⟩) (by rw[o.size];exact D);exact⟨v,o.low j v e,e⟩
 have:=qxt ((List.range (t.mask+1)).map λj=>((owner.getD j none).getD 0)) (List.range k) ?_ ?_
 .rw[ag,aE,aE]at this;lia
 .refine bB.mpr (b7 (λ{a b} ha hb hab=>?_) gR);obtain⟨v,_,e⟩:=F a (aq.mp ha);obtain⟨U,_,J⟩:=F b (aq.mp hb);rw[cg,cg,e,J];intro z;have L:v=U:=z;subst L;exact hab (o.inj a b v e J)
 .intro x W;obtain⟨j,D,rfl⟩:=aL.mp W;obtain⟨v,Z,e⟩:=F j (aq.mp D);rw[cg,e];exact aq.mpr Z
theorem Own.new (t:SetTable)(hs:List Int):Own t hs (Array.replicate (t.mask+1) none) 0:=by
 have z:∀j v:Nat,(Array.replicate (t.mask+1) (none:Option Nat))[j]?=some (some v)->False:=λj v e=>by rw[Array.getElem?_replicate]at e;split at e <;> cases e
 exact⟨Array.size_replicate,λj v e=>(z j v e).elim,λv D=>absurd D (ie _),λj F v e=>(z j v e).elim,λj v h e=>(z j v e).elim⟩
theorem Own.set {h:Int}{j N:Nat}(o:Own t hs owner k)(hh:hs[k]?=some h)(hj:owner.getD j (some 0)=none)(hN:N<=10*(t.mask+14))(hp:pos t h N=j)(hw:∀n,n<N->pos t h n<=t.mask/\owner.getD (pos t h n) (some 0)≠none):Own t hs (owner.setIfInBounds j (some k)) (k+1):=by
 have ej:=got hj;have ab:=(bR.mp ej).1;have F:∀i:Nat,(owner.setIfInBounds j (some k))[i]?=if i=j then some (some k) else owner[i]?:=λi=>by
  by_cases c:i=j
  .rw[ay c,c,Array.getElem?_setIfInBounds_self_of_lt ab]
  .rw[ar c,Array.getElem?_setIfInBounds_ne (λz=>c z.symm)]
 have U:∀i v:Nat,owner[i]?=some (some v)->(owner.setIfInBounds j (some k))[i]?=some (some v):=λi v e=>by rw[F,ar (λz=>by rw[z,ej]at e;cases e)];exact e
 refine⟨by rw[i7];exact o.size,λi v e=>?_,λv hv=>?_,λi J v e D=>?_,λi v h' e Z=>?_⟩
 .rw[F]at e;by_cases c:i=j
  .rw[ay c]at e;cases e;lia
  .rw[ar c]at e;have:=o.low i v e;lia
 .by_cases c:v=k
  .exact⟨j,by rw[F,ay rfl,c]⟩
  .obtain⟨i,e⟩:=o.sur v ⋯;exact⟨i,U i v e⟩
 .rw[F]at e D;by_cases c:i=j
  .by_cases c':J=j
   .rw[c,c']
   .rw[ay c]at e;rw[ar c']at D;cases e;have:=o.low J k D;lia
  .rw[ar c]at e;by_cases c':J=j
   .rw[ay c']at D;cases D;have:=o.low i k e;lia
   .rw[ar c']at D;exact o.inj i J v e D
 .rw[F]at e;by_cases c:i=j
  .rw[ay c]at e;cases e;rw[hh]at Z;cases Z;refine⟨N,hN,by rw[hp,c],λn W=>?_⟩;obtain⟨h1,h2⟩:=hw n W;obtain⟨L,D⟩:=taken h2 (by rw[o.size];lia);exact⟨L,U _ _ D⟩
  .rw[ar c]at e;obtain⟨N1,a1,a2,a3⟩:=o.way i v h' e Z;refine⟨N1,a1,a2,λn W=>?_⟩;obtain⟨L,D⟩:=a3 n W;exact⟨L,U _ _ D⟩
theorem Own.fold {e:Nat}(hM:t.mask+1=2 ^ e):∀(l:List Int) (owner:Array (Option Nat)) (k:Nat),Own t hs owner k->hs.drop k=l->hs.length<=t.mask->∃owner',l.foldl (λacc h=>do
   let (owner,k) <-acc
   let j <-SetTable.layClean.free t.mask owner (SetTable.turns t.mask) (SetTable.bits h%(t.mask+1)) (SetTable.bits h)
   pure (owner.setIfInBounds j (some k),k+1)) (some (owner,k))=some (owner',k+l.length)/\Own t hs owner' (k+l.length)
 |[],owner,k,o,_,_=>⟨owner,rfl,o⟩
 |h::l,owner,k,o,hd,hz=>by
  have hk:hs[k]?=some h:=by
   have:(hs.drop k)[0]?=some h:=by rw[hd];rfl
   rw[dC]at this;exact this
  have z:=(al.mp hk).1;have F:hs.drop (k+1)=l:=by rw[fR z]at hd;exact(i8 hd).2
  obtain⟨j0,D,U⟩:=o.free ⋯;obtain⟨n,hn,e1⟩:=wwj hM (q:=(SetTable.bits h%(t.mask+1),SetTable.bits h)) (dL (eN _ (fk _))) (wkk h) D;obtain⟨j,N,e2,e3,e4,Z,W⟩:=wk1 (t:=t) (owner:=owner) n (SetTable.turns t.mask) (SetTable.bits h%(t.mask+1)) (SetTable.bits h) (by unfold SetTable.turns;lia) (dL (eN _ (fk _))) (by rw[e1];exact U);obtain⟨owner',L,J⟩:=Own.fold hM l (owner.setIfInBounds j (some k)) (k+1) (o.set hk e3 ⋯ Z W) F hz;refine⟨owner',?_,by rw[aP,show k+(l.length+1)=k+1+l.length by lia];exact J⟩;rw[List.foldl_cons,aP,show k+(l.length+1)=k+1+l.length by lia,<-L];congr 1;simp[e2]
theorem qxz:∀ {l m:List Nat},l.Nodup->m.Nodup->(∀a,a∈l↔a∈m)->l.Perm m
 |[],m,_,_,h=>by
  cases m with
  |nil=>exact .refl _
  |cons a m=>exact absurd ((h a).mpr (.head _)) (by simp)
 |a::l,m,hl,hm,h=>by
  have ha:a∈m:=(h a).mp (.head _);have hl':=dQ.mp hl;refine(List.Perm.cons a (qxz hl'.2 (hm.erase a) λb=>?_)).trans (List.perm_cons_erase ha).symm;rw[hm.mem_erase_iff];constructor
  .intro hb;exact⟨λz=>by subst z;exact hl'.1 hb,(h b).mp (.tail _ hb)⟩
  .rintro⟨h1,h2⟩;rcases aM.mp ((h b).mpr h2) with z|z
   .exact absurd z h1
   .exact z
end
theorem qqj:∀n,n<1100->∃e,3<=e/\e<=13/\SetTable.sizeAbove (4*n)=2 ^ e/\4*n<SetTable.sizeAbove (4*n):=by
 have:∀n,n<1100->(List.range 14).any (λe=>decide (3<=e)&&(SetTable.sizeAbove (4*n)==2 ^ e)&&decide (4*n<SetTable.sizeAbove (4*n)))=true:=by decide +kernel
 intro n z;obtain⟨e,D,h⟩:=dD.mp (this n z);simp only[cJ,iX,fZ]at h;exact⟨e,h.1.1,by have:=aq.mp D;lia,h.1.2,h.2⟩
theorem Tab.relay {bt:Bool}{t:SetTable}{hs:List Int}(T:Tab bt t hs)(hn:hs.length<1100):∃t2 order,t.relaid hs.toArray (4*hs.length)=some (t2,order)/\order.toList.Perm (List.range hs.length)/\Tab bt t2 (order.toList.map λi=>hs.getD i 0)/\hs.length*4<=t2.mask:=by
 obtain⟨e,e1,e2,e3,e4⟩:=qqj hs.length hn;have a6:1<=(2:Nat) ^ e:=jM e;obtain⟨owner,f1,o⟩:=Own.fold (t:={ t with mask:=SetTable.sizeAbove (4*hs.length)-1 }) (hs:=hs) (e:=e) (by show SetTable.sizeAbove (4*hs.length)-1+1=_;lia) hs _ 0 (Own.new _ hs) rfl (by show hs.length<=SetTable.sizeAbove (4*hs.length)-1;lia);rw[cN]at f1 o;have lc:SetTable.layClean (SetTable.sizeAbove (4*hs.length)-1) hs.toArray=some owner:=by unfold SetTable.layClean;rw[<-Array.foldl_toList];rw[show hs.toArray.toList=hs from rfl];rw[f1];rfl
 generalize hmask:SetTable.sizeAbove (4*hs.length)-1=mask at lc o f1;have ap:mask+1=2 ^ e:=by lia
 have as:hs.length*4<=mask:=by lia
 let D:List (Nat×Nat):=(List.range (mask+1)).filterMap λj=>(owner.getD j none).map (j,·);have J:∀j v,(j,v)∈D↔owner[j]?=some (some v):=λj v=>by
  show(j,v)∈(List.range (mask+1)).filterMap _↔_;rw[fY];constructor
  .rintro⟨j',_,F⟩;cases q:owner.getD j' none with
   |none=>rw[q]at F;cases F
   |some v' =>
    rw[q]at F;cases F;rw[cg]at q;cases q2:owner[j]? with
    |none=>rw[q2]at q;cases q
    |some y=>rw[q2]at q;exact bV some q
  .intro F;have Z:=(bR.mp F).1;rw[o.size]at Z;exact⟨j,aq.mpr Z,by rw[cg,F];rfl⟩
 have pw:D.Pairwise λa b=>a.1<b.1:=by
  refine List.pairwise_filterMap.mpr (fu.imp λ{a b} hab x hx y hy=>?_);have an:x.1=a:=by
   cases q:owner.getD a none with
   |none=>rw[q]at hx;cases hx
   |some v=>rw[q]at hx;cases hx;rfl
  have ad:y.1=b:=by
   cases q:owner.getD b none with
   |none=>rw[q]at hy;cases hy
   |some v=>rw[q]at hy;cases hy;rfl
  rw[an,ad];exact hab
 have ab:(D.map (·.2)).Perm (List.range hs.length):=by
  refine qxz (bB.mpr (b7 (λ{a b} ha hb hab z=>?_) pw)) gR λv=>?_
  .have:=o.inj a.1 b.1 a.2 ((J _ _).mp ha) (by rw[z];exact(J _ _).mp hb);lia
  .rw[aq,aL];constructor
   .rintro⟨a,ha,rfl⟩;exact o.low _ _ ((J _ _).mp ha)
   .intro U;obtain⟨j,ej⟩:=o.sur v U;exact⟨(j,v),(J _ _).mpr ej,rfl⟩
 have ac:D.length=hs.length:=by have:=ab.length_eq;rwa [ag,aE]at this
 refine⟨{ mask:=mask,place:=(D.map (·.1)).toArray,dummies:=#[],finger:=t.finger,led:=t.led,moves:=t.movedTo mask,plain:=t.plain },(D.map (·.2)).toArray,?_,ab,?_,as⟩
 .unfold SetTable.relaid SetTable.laid;rw[hmask,lc];rfl
 .refine⟨rfl,?_,⟨e,ap,e1,e2⟩,?_,?_,?_,T.led,T.plain⟩
  .show(D.map (·.1)).toArray.size=((D.map (·.2)).toArray.toList.map _).length;simp
  .show((D.map (·.2)).toArray.toList.map _).length<=mask;rw[ag,show(D.map (·.2)).toArray.toList=D.map (·.2) from rfl,ag,ac];lia
  .intro i j x y ax ex ey;have ex':(D.map (·.1))[i]?=some x:=by simpa using ex
   have a4:(D.map (·.1))[j]?=some y:=by simpa using ey
   obtain⟨hi,rfl⟩:=al.mp ex';obtain⟨Z,rfl⟩:=al.mp a4;rw[gS,gS];exact bg.mp pw i j _ _ ax
  .intro i h eh;have L:((D.map (·.2)).map λi=>hs.getD i 0)[i]?=some h:=eh;rw[aw,aw]at L;cases q:D[i]? with
   |none=>rw[q]at L;cases L
   |some jv =>
    rw[q]at L;obtain⟨j,v⟩:=jv;have ov:=(J j v).mp (aF q);have U:=o.low j v ov;have a5:hs[v]?=some h:=by have:hs.getD v 0=h:=av L;rw[af,ae U]at this;rw[ae U];exact bV some this
    obtain⟨N,a1,a2,a3⟩:=o.way j v h ov a5;refine⟨N,j,a1,?_,?_,λn hn=>?_⟩
    .show(D.map (·.1)).toArray[i]?=some j;simp[q]
    .have pm:pos { mask:=mask,place:=(D.map (·.1)).toArray,dummies:=#[],finger:=t.finger,led:=t.led,moves:=t.movedTo mask,plain:=t.plain } h N=pos { t with mask:=mask } h N:=qw6 (by rfl) h N;exact pm.trans a2
    .obtain⟨v',F⟩:=a3 n hn;obtain⟨W,a0⟩:=bX ((J _ _).mpr F);refine⟨W,?_⟩;show(D.map (·.1)).toArray[W]?=_;have pm:pos { mask:=mask,place:=(D.map (·.1)).toArray,dummies:=#[],finger:=t.finger,led:=t.led,moves:=t.movedTo mask,plain:=t.plain } h n=pos { t with mask:=mask } h n:=qw6 (by rfl) h n;have e9:(D.map (·.1)).toArray[W]?=some (pos { t with mask:=mask } h n):=by simp[a0]
     rw[e9,<-pm]
end L2
namespace L2
open PySem PySem.Spec PySem.Calls PySem.W PyProof.Rows
def byT (w:Ah):Bool:=w.params.followText "set-order"
def SAt (w:Ah)(hp:Heap)(S:Aj)(ps:List (Int×Ag)):Prop:=∃o ep t,hp.get? S=some o/\o.ExactSet/\o.data=.set ps.toArray ep t/\Tab (byT w) t (ps.map (·.1))/\ps.length*5<t.mask*3
section
variable {prog:Ac}{w:Ah}{A:Ae}{E:Ag->Ab->Prop}{s:Ab}{S a:Aj}{ps:List (Int×Ag)}{ep:Nat}{t:SetTable}{o:Obj}{k:List Key}{h:Int}
theorem SAt.typeIs (P:SAt w s.heap S ps):s.TypeIs (.ref S) "set" := let ⟨o,_,_,ho,hc,_⟩:=P;⟨o,ho,hc.1⟩
theorem SAt.at_ {hp h':Heap}(P:SAt w hp S ps)(k1:∀o,hp.get? S=some o->h'.get? S=some o):SAt w h' S ps:=let ⟨o,ep,t,ho,r⟩:=P;⟨o,ep,t,k1 o ho,r⟩
theorem Tab.fits' {bt:Bool}(T:Tab bt t (ps.map (·.1))):t.fits ps.toArray.size=true:=by have:=T.fits;simpa using this
theorem wv5 (l:List (Int×Ag))(p:Nat)(x:Int×Ag):(xn l p x).map (·.1)=xn (l.map (·.1)) p x.1:=by unfold xn;simp
theorem wv1 (l:List (Int×Ag))(p:Nat)(x:Int×Ag):SetTable.insertAt l.toArray p x=(xn l p x).toArray:=by apply eX.mp;rw[qzf];rfl
theorem Zs (l:List (Int×Ag)):∀(il:List Nat),(∀i∈il,i<l.length)->il.filterMap (λi=>l.toArray[i]?)=il.map λi=>l.getD i (0,.none)
 |[],_=>rfl
 |i::il,hi=>by
  have h1:=hi i (.head _);have e:l.toArray[i]?=some (l.getD i (0,.none)):=by simp[h1]
  rw[eT,e,Zs l il λj z=>hi j (.tail _ z)];rfl
theorem lay_in {Q:Bool->Ab->Prop}{N:Nat}{x:Ag}(ho:s.heap.get? S=some o)(hex:o.ExactSet)(hd:o.data=.set ps.toArray ep t)(T:Tab (byT w) t (ps.map (·.1)))(few:ps.length*5<t.mask*3)(hn:ps.length<1099)
  (hN:N<=10*(t.mask+13)) (he:t.slot (pos t h N)=.empty) (hl:∀n,n<N->∃i:Nat,t.slot (pos t h n)=.live i)
  (hQ:∀h' ps',Heap.SameBut S s.heap h'->SAt w h' S ps'->ps'.Perm ((h,x)::ps)->Q true { s with heap:=h' }) :
  wpAny (model prog w) A (do
   storeSet S (SetTable.insertAt ps.toArray (t.put (pos t h N)).2 (h,x)) (t.put (pos t h N)).1
   if(!false&&(t.put (pos t h N)).1.tooFull)=true then do
    setRelay S (SetTable.grown (ps.toArray.size+1))
    pure true
   else pure true) Q E s:=by
 have ap:100000<=sizeLine:=by decide
 have lm:ps.length=(ps.map (·.1)).length:=by simp
 have bm:=T.big;obtain⟨D,an⟩:=T.put hN he hl (by rw[<-lm];lia);have hm:(t.put (pos t h N)).1.mask=t.mask:=rfl;generalize (t.put (pos t h N)).2=p at D an ⊢;generalize ht1:(t.put (pos t h N)).1=t1 at D hm ⊢;rw[wv1];have pm:=ut ps p (h,x);have J:=pm.length_eq;rw[aP]at J;rw[<-wv5 ps p (h,x)]at D;refine aa (gK ho hd ?_ (by rw[au];lia));have L:(s.heap.update S (Obj.putSet (xn ps p (h,x)).toArray t1)).get? S=some { o with data:=.set (xn ps p (h,x)).toArray (ep+1) t1 }:=qju ho hd;have U:Heap.SameBut S s.heap (s.heap.update S (Obj.putSet (xn ps p (h,x)).toArray t1)):=cD _ _ _;have fl:t1.fill=ps.length+1:=by unfold SetTable.fill;rw[D.dm,D.pl,ag,J];rfl
 generalize s.heap.update S (Obj.putSet (xn ps p (h,x)).toArray t1)=h1 at L U ⊢;show wpAny (model prog w) A _ Q E { s with heap:=h1 };by_cases tf:t1.tooFull=true
 .rw[tf];simp only[iH,kB,cI];refine aa ?_;have gr:SetTable.grown (ps.toArray.size+1)=4*((xn ps p (h,x)).map (·.1)).length:=by unfold SetTable.grown;rw[ar (by rw[au];lia),ag,J,au];lia
  obtain⟨F,z,f1,Z,T2,f4⟩:=D.relay (by rw[ag,J];lia);rw[gr];unfold setRelay;refine aa (bJ (s:={ s with heap:=h1 }) L rfl D.fits' ?_);dsimp only;have ad:(xn ps p (h,x)).toArray.map (·.1)=((xn ps p (h,x)).map (·.1)).toArray:=by simp
  have sl:¬ SetTable.sizeAbove (4*((xn ps p (h,x)).map (·.1)).length)>sizeLine:=by
   obtain⟨e,e1,e2,e3,e4⟩:=qqj ((xn ps p (h,x)).map (·.1)).length (by rw[ag,J];lia);have b:(2:Nat) ^ e<=2 ^ 13:=dG ⋯ e2;have c:(2:Nat) ^ 13=8192:=by decide
   lia
  rw[ar sl,ad,f1];have ab:∀i∈z.toList,i<(xn ps p (h,x)).length:=λi hi=>by have:=aq.mp (Z.mem_iff.mp hi);rwa [ag]at this
  have oe:z.filterMap (λi=>(xn ps p (h,x)).toArray[i]?)=(z.toList.map λi=>(xn ps p (h,x)).getD i (0,.none)).toArray:=by apply eX.mp;rw[Array.toList_filterMap,Zs _ _ ab]
  have W:(z.toList.map λi=>(xn ps p (h,x)).getD i (0,.none)).length=(xn ps p (h,x)).length:=by rw[ag,Z.length_eq,aE,ag]
  have op:(z.toList.map λi=>(xn ps p (h,x)).getD i (0,.none)).Perm (xn ps p (h,x)):=by
   refine(Z.map _).trans ?_;rw[ag];have:(List.range (xn ps p (h,x)).length).map (λi=>(xn ps p (h,x)).getD i (0,.none))=xn ps p (h,x):=by
    refine bY λi=>?_;rw[aw];by_cases c:i<(xn ps p (h,x)).length
    .rw[bi c];simp[af,c]
    .rw[aQ (by simp;lia),aQ ⋯];rfl
   rw[this]
  have om:(z.toList.map λi=>(xn ps p (h,x)).getD i (0,.none)).map (·.1)=z.toList.map λi=>((xn ps p (h,x)).map (·.1)).getD i 0:=by rw[bp];refine cu λi hi=>?_;have:=ab i hi;simp[af,this]
  rw[<-om]at T2;refine aa ?_;show wpAny (model prog w) A (do
   if(z.filterMap (λi=>(xn ps p (h,x)).toArray[i]?)).size != (xn ps p (h,x)).toArray.size then unsupported "internal:set-table-lost-an-element"
   pure (z.filterMap (λi=>(xn ps p (h,x)).toArray[i]?),F)) _ E _
  rw[oe];have ob:((z.toList.map λi=>(xn ps p (h,x)).getD i (0,.none)).toArray.size != (xn ps p (h,x)).toArray.size)=false:=by rw[au,au,W];simp
  rw[ob];simp only[aB,br];refine ai ?_;dsimp only;generalize (z.toList.map λi=>(xn ps p (h,x)).getD i (0,.none))=ps2 at T2 op W;refine gK (s:={ s with heap:=h1 }) L rfl ?_ (by rw[au,W];lia);refine ai ?_;have ac:Heap.SameBut S h1 (h1.update S (Obj.putSet ps2.toArray F)):=cD _ _ _;have g2:(h1.update S (Obj.putSet ps2.toArray F)).get? S=some { o with data:=.set ps2.toArray (ep+1+1) F }:=qju L rfl;refine hQ _ ps2 (U.trans ac) ⟨_,_,F,g2,hex,rfl,T2,?_⟩ (op.trans pm);rw[ag]at f4;lia
 .rw[jC]at tf;rw[tf];simp only[gF,aB,br];refine ai (hQ h1 _ U ⟨_,_,t1,L,hex,rfl,D,?_⟩ pm);unfold SetTable.tooFull at tf;have:=of_decide_eq_false tf;rw[fl]at this;lia
def KP (prog:Ac)(w:Ah)(hp:Heap)(ps:List (Int×Ag))(ks:List (List Key)):Prop:=Paired (λp k=>∃b,p=((KD prog w).hash k,.ref b)/\(KD prog w).is hp k b) ps ks
theorem KP.get {hp:Heap}{ks:List (List Key)}(K:KP prog w hp ps ks){i:Nat}{p:Int×Ag}(e:ps[i]?=some p):∃k' b,ks[i]?=some k'/\p=((KD prog w).hash k',.ref b)/\(KD prog w).is hp k' b:=by
 unfold KP at K
 induction K generalizing i with
 |nil=>simp at e
 |cons r t ih =>
  cases i with
  |zero =>
   obtain⟨b,D,z⟩:=r;simp at e;subst e;exact⟨_,b,rfl,D,z⟩
  |succ i=>exact ih (by simpa using e)
theorem KP.len {hp:Heap}{ks:List (List Key)}(K:KP prog w hp ps ks):ps.length=ks.length:=bZ K
inductive MetP (t:SetTable) (ha:Nat->Int) (h:Int) (p:SetTable.Probe) (N:Nat):SetTable.Met->Prop
 |empty (hs:t.slot (zx t N p).j=.empty):MetP t ha h p N (.empty (zx t N p).j none)
 |cand (m i:Nat) (hm:m<=N) (hs:t.slot (zx t m p).j=.live i) (hh:ha i=h):MetP t ha h p N (.candidate (zx t m p).j i (zx t (m+1) p))
theorem Y3 {ha:Nat->Int}:∀N fuel p,N<fuel->p.dummy=none->(∀n,n<N->∃i:Nat,t.slot (zx t n p).j=.live i)->(t.slot (zx t N p).j=.empty\/∃i:Nat,t.slot (zx t N p).j=.live i/\ha i=h)->∃m,SetTable.probe.go t ha h fuel p=some m/\MetP t ha h p N m
 |N,0,p,hf,_,_,_=>absurd hf (ie _)
 |0,fuel+1,p,_,hp,_,hs=>by
  unfold SetTable.probe.go;rcases hs with hs|⟨i,hs,hh⟩
  .have hs':t.slot p.j=.empty:=hs;rw[hs',hp];exact⟨_,rfl,.empty (p:=p) hs⟩
  .have hs':t.slot p.j=.live i:=hs;rw[hs'];dsimp only;rw[ay (fZ.mpr hh)];exact⟨_,rfl,.cand (p:=p) 0 i (aj _) hs hh⟩
 |N+1,fuel+1,p,hf,hp,hl,hs=>by
  unfold SetTable.probe.go;obtain⟨i,c⟩:=hl 0 (fk _);have c':t.slot p.j=.live i:=c;rw[c'];dsimp only;by_cases q:(ha i==h)=true
  .rw[ay q];exact⟨_,rfl,.cand (t:=t) (p:=p) 0 i (aY _) c (fZ.mp q)⟩
  .rw[ar q];obtain⟨m,e,ok⟩:=Y3 (ha:=ha) N fuel (t.advance p) ⋯ ((qkq t p).trans hp) (λn hn=>hl (n+1) ⋯) hs;refine⟨m,e,?_⟩;cases ok with
   |empty hs=>exact .empty (p:=p) hs
   |cand m i hm hs hh=>exact .cand (t:=t) (p:=p) (m+1) i ⋯ hs hh
theorem www {ks:List (List Key)}(ho:s.heap.get? S=some o)(hd:o.data=.set ps.toArray ep t)(T:Tab (byT w) t (ps.map (·.1)))(K:KP prog w s.heap ps ks)(hx:(KD prog w).is s.heap k a)(hu:A.units<cLine){Q:SetFound->Ab->Prop}
  (hQ1:k∈ks->Q (.there none) s):∀(N fuel:Nat) (stand:Option SetTable.Probe),N<fuel->N<10*SetTable.turns t.mask->(stand.getD (t.probeStart ((KD prog w).hash k))).dummy=none ->
   (∀n,n<N->∃i:Nat,t.slot (zx t n (stand.getD (t.probeStart ((KD prog w).hash k)))).j=.live i) ->
   (t.slot (zx t N (stand.getD (t.probeStart ((KD prog w).hash k)))).j=.empty\/∃i:Nat,t.slot (zx t N (stand.getD (t.probeStart ((KD prog w).hash k)))).j=.live i/\ks[i]?=some k) ->
   (t.slot (zx t N (stand.getD (t.probeStart ((KD prog w).hash k)))).j=.empty->Q (.free (zx t N (stand.getD (t.probeStart ((KD prog w).hash k)))).j false) s) ->
   wpAny (model prog w) A (setSearchFrom S (.ref a) ((KD prog w).hash k) true fuel stand) Q E s:=by
 intro N
 induction N using Nat.strongRecOn with
 |_ N ih =>
  intro fuel stand hf hT hp hl hs hQ2;obtain⟨fuel,rfl⟩:∃f,fuel=f+1:=⟨fuel-1,⋯⟩;unfold setSearchFrom;refine aa (bJ ho hd T.fits' ?_);dsimp only;have gw:t.gaveWay=false:=by unfold SetTable.gaveWay;obtain⟨e,h1,h2,_⟩:=T.pw;obtain⟨e',rfl⟩:∃e',e=e'+1:=⟨e-1,⋯⟩;rw[dY]at h1;simp only[cC];lia
  rw[gw];simp only[aB,br];have hashAt:∀(i:Nat) (k':List Key),ks[i]?=some k'->∀(p:Int×Ag),ps[i]?=some p->p.1=(KD prog w).hash k':=λi k' ek p e=>by obtain⟨k2,b,e1,e2,_⟩:=K.get e;rw[ek]at e1;cases e1;rw[e2]
  have inP:∀ {j i:Nat},t.slot j=.live i->i<ps.length:=λ{j i} e=>by have:=(bR.mp (Y6 e)).1;rw[T.pl,ag]at this;exact this
  have key:∀ha:Nat->Int,(∀(i:Nat) (p:Int×Ag),ps[i]?=some p->ha i=p.1)->∃m,t.probe ha ((KD prog w).hash k) (stand.getD (t.probeStart ((KD prog w).hash k)))=some m/\MetP t ha ((KD prog w).hash k) (stand.getD (t.probeStart ((KD prog w).hash k))) N m:=λha hha=>by
   refine Y3 N _ _ hT hp hl ?_;rcases hs with hs|⟨i,hs,ek⟩
   .exact .inl hs
   .have hi:=inP hs;have e:=ae hi;exact .inr ⟨i,hs,(hha i _ e).trans (hashAt i k ek _ e)⟩
  split
  .rename_i met hm;obtain⟨m',e1,ok⟩:=key _ (λi p e=>by
    show(ps.toArray[i]?.map (·.1)).getD 0=p.1
    have:ps.toArray[i]?=some p:=by simpa using e
    rw[this]
    rfl)
   obtain rfl:m'=met:=av (e1.symm.trans hm);cases ok with
   |empty hs'=>exact ai (hQ2 hs')
   |cand m i hm' hsl hh =>
    have hi:=inP hsl;obtain⟨k',b,ek,eb,hb⟩:=K.get (ae hi);have ei:ps.toArray[i]?=some ((KD prog w).hash k',.ref b):=by rw[<-eb];simp[hi]
    have rest:wpAny (model prog w) A (do
      let some (_,y):=ps.toArray[i]? | unsupported "internal:set-entry"
      let equal <-holding [y] (eqBool y (.ref a))
      let (es',_,t') <-setState S
      if true&&equal then return .there none
      let some sm0:=t'.sameMemory t.moves t.mask | unsupported "set.changed-during-lookup:is-the-new-block-at-the-old-address"
      let still <-match (if sm0 then t'.slot (zx t m (stand.getD (t.probeStart ((KD prog w).hash k)))).j else .empty) with
       |.live i'=>match es'[i']? with
        |some (_,y')=>do pure (if <-isSame y' y then some i' else none)
        |none=>pure none
       |_=>pure none
      match still with
      |none=>rule "set.search.anew";setSearchFrom S (.ref a) ((KD prog w).hash k) true fuel none
      |some i'=>if equal then return .there (some i') else setSearchFrom S (.ref a) ((KD prog w).hash k) true fuel (some (zx t (m+1) (stand.getD (t.probeStart ((KD prog w).hash k)))))) Q E s:=by
     rw[ei];dsimp only;refine aa (b8 ((KD prog w).eqBool hu hb hx ?_));refine aa (bJ ho hd T.fits' ?_);by_cases ce:k'=k
     .rw[aS ce];simp only[kB,cI];exact ai (hQ1 (by rw[<-ce];exact aF ek))
     .rw[bz ce];have sm:t.sameMemory t.moves t.mask=some true:=by simp[SetTable.sameMemory]
      simp only[gF,aB,br,sm,cI,hsl,ei];refine aa ?_;refine xzx ?_;simp only[cI];refine aa (ai ?_);have mN:m<N:=by
       rcases bo m N with z|z
       .exact z
       .obtain rfl:m=N:=by lia
        rcases hs with hs|⟨i0,hs,ek0⟩
        .rw[hs]at hsl;cases hsl
        .rw[hs]at hsl;cases hsl;rw[ek0]at ek;cases ek;exact absurd rfl ce
      have sh:∀n,zx t n (zx t (m+1) (stand.getD (t.probeStart ((KD prog w).hash k))))=zx t (m+1+n) (stand.getD (t.probeStart ((KD prog w).hash k))):=λn=>(Q4 t n (m+1) _).symm;refine ih (N-(m+1)) ⋯ fuel (some (zx t (m+1) (stand.getD (t.probeStart ((KD prog w).hash k))))) ⋯ ⋯ ?_ (λn hn=>?_) ?_ ?_
      .show(zx t (m+1) _).dummy=none;rw[qxg];exact hp
      .show ∃i:Nat,t.slot (zx t n (zx t (m+1) _)).j=.live i;rw[sh];exact hl _ ⋯
      .show t.slot (zx t (N-(m+1)) (zx t (m+1) _)).j=.empty\/∃i:Nat,t.slot (zx t (N-(m+1)) (zx t (m+1) _)).j=.live i/\_;rw[sh,show m+1+(N-(m+1))=N by lia];exact hs
      .show t.slot (zx t (N-(m+1)) (zx t (m+1) _)).j=.empty->Q (.free (zx t (N-(m+1)) (zx t (m+1) _)).j false) s;rw[sh,show m+1+(N-(m+1))=N by lia];exact hQ2
    dsimp only;cases t.led with
    |true=>exact rest
    |false =>
     simp only[iH,cI];refine aa (xku hx ?_ _ λy hy=>?_)
     .simp only[aB,br];exact rest
     .obtain⟨p,hp',rfl⟩:=aL.mp hy;have hp2:p∈ps:=by have:=gY.mp hp';simpa using Array.mem_of_mem_filter this
      obtain⟨i2,e2⟩:=bX hp2;obtain⟨k2,b2,_,e3,h2⟩:=K.get e2;exact⟨k2,b2,by rw[e3],h2⟩
  .rename_i hm;obtain⟨m',e1,_⟩:=key _ (λi p e=>by
    show(ps.toArray[i]?.map (·.1)).getD 0=p.1
    have:ps.toArray[i]?=some p:=by simpa using e
    rw[this]
    rfl)
   exact(hm _ e1).elim
theorem wyw {Q:Bool->Ab->Prop}{n:Nat}{items:List Ag}{m:Nat}(hx:(KD prog w).is s.heap k a)(ho:s.heap.get? a=some o)(hd:o.data=.seq items.toArray m)(hi:∀v∈items,∃i t,v=Value.int i t)(hQ:Q true s):wpAny (model prog w) A (hashByValue (n+1) (.ref a)) Q E s:=by
 have D:s.TypeIs (.ref a) "tuple" := IsTupleKey.typeIs hx;unfold hashByValue;refine aa (jO D PySem.F.slot_tuple_hash.lookup ?_);dsimp only;refine aa (iG ho hd ?_);refine aa ?_;show wpAny _ _ (forIn items.toArray _ _) _ _ s;rw[<-gh];refine jA _ (λrest r s'=>r.1=none/\s'=s/\∀v∈rest,∃i t,v=Value.int i t) _ ?_ ?_ _ _ ⟨rfl,rfl,by simpa using hi⟩
 .rintro v rest r s' ⟨hr,rfl,hall⟩;obtain⟨i,t,rfl⟩:=hall v d8;have J:hashByValue n (.int i t)=pure true:=by cases n <;> rfl
  rw[J];refine aa (ai ?_);exact ai ⟨rfl,rfl,λu z=>hall u (bM _ z)⟩
 .rintro⟨U,L⟩ s' ⟨hr,rfl,_⟩;simp only at hr;subst hr;exact ai hQ
theorem xw3 {ks:List (List Key)}{items:List Ag}{m:Nat}{oa:Obj}{Q:Bool->Ab->Prop}(P:SAt w s.heap S ps)(K:KP prog w s.heap ps ks)(hx:(KD prog w).is s.heap k a)(hoa:s.heap.get? a=some oa)(hda:oa.data=.seq items.toArray m)(hi:∀v∈items,∃i t,v=Value.int i t)
  (hu:A.units<cLine) (hn:ps.length<1099) (hQ1:k∈ks->∀tk,Q false { s with toks:=tk }) (hQ2:k∉ks->∀h' tk ps',Heap.SameBut S s.heap h'->SAt w h' S ps'->ps'.Perm (((KD prog w).hash k,.ref a)::ps)->Q true { s with heap:=h',toks:=tk }) :
  wpAny (model prog w) A (setAdd S (.ref a)) Q E s:=by
 obtain⟨o,ep,t,F,ac,J,T,ad⟩:=P;have bm:=T.big;unfold setAdd;refine b8 (aa ((KD prog w).pyHash hu hx ?_));generalize s.toks+(KD prog w).draws k=tk;unfold setAddHashed;refine b8 ?_;unfold setAddHashedIn;refine aa (bJ (s:={ s with toks:=tk }) F J T.fits' ?_);dsimp only;have bs:byScan (.ref a) ps.toArray=false:=by simp[byScan,Value.scannable]
 rw[bs];simp only[aB,br];refine aa ?_;unfold setSearch;by_cases ck:k∈ks
 .obtain⟨i,U⟩:=bX ck;have ab:i<ps.length:=by rw[K.len];exact(al.mp U).1
  obtain⟨k',b,e1,e2,_⟩:=K.get (ae ab);rw[U]at e1;cases e1;obtain⟨N,j,r1,L,D,r4⟩:=T.reach i ((KD prog w).hash k) (by rw[aw,ae ab,e2];rfl);have Z:=quq T.rise L;refine www (s:={ s with toks:=tk }) F J T K hx hu (λ_=>?_) N 100000 none ⋯ (by unfold SetTable.turns;lia) rfl (λn hn=>?_) (.inr ⟨i,?_,U⟩) λz=>?_
  .exact ai (hQ1 ck tk)
  .obtain⟨i',e'⟩:=r4 n hn;exact⟨i',quq T.rise e'⟩
  .show t.slot (pos t ((KD prog w).hash k) N)=_;rw[D];exact Z
  .have W:t.slot (pos t ((KD prog w).hash k) N)=.empty:=z;rw[D,Z]at W;cases W
 .obtain⟨N,r1,L,D⟩:=T.free ((KD prog w).hash k);refine www (s:={ s with toks:=tk }) F J T K hx hu (λz=>absurd z ck) N 100000 none ⋯ (by unfold SetTable.turns;lia) rfl (λn hn=>D n hn) (.inl L) λ_=>?_;dsimp only;refine aa (bJ (s:={ s with toks:=tk }) F J T.fits' ?_);dsimp only;have pt:(t.put (pos t ((KD prog w).hash k) N)).1.plain=true:=T.plain;show wpAny (model prog w) A (do
   let an <-if(t.put (pos t ((KD prog w).hash k) N)).1.plain=true then hashByValue 8 (.ref a) else pure true
   _) Q E { s with toks:=tk }
  rw[ay pt];refine aa (wyw (s:={ s with toks:=tk }) hx hoa hda hi ?_);exact lay_in (s:={ s with toks:=tk }) (w:=w) F ac J T ad hn r1 L D λh' ps' sb P' pm=>hQ2 ck h' tk ps' sb P' pm
end
end L2
namespace L2
open PySem PySem.Spec PySem.Calls PySem.W PyProof.Rows
theorem slot_setit_next:Slot "set_iterator" "__next__" "set_iterator.__next__" := .of (owner := "set_iterator") (n := "__next__") (by rw[typeLookup_type,builtinLookup_eq_fast];kernel_rfl) (by decide +kernel) (by decide +kernel) (by decide +kernel) (by first | exact .inl (by decide +kernel) | exact .inr (by decide +kernel)) (by rw[isSubtype_type];kernel_rfl)
theorem Qs:Slot "set_iterator" "__iter__" "set_iterator.__iter__" := .of (owner := "set_iterator") (n := "__iter__") (by rw[typeLookup_type,builtinLookup_eq_fast];kernel_rfl) (by decide +kernel) (by decide +kernel) (by decide +kernel) (by first | exact .inl (by decide +kernel) | exact .inr (by decide +kernel)) (by rw[isSubtype_type];kernel_rfl)
theorem ud:entryFor table "set_iterator.__next__" = some Builtin.«set_iterator.__next__»:=entryFor_of_tree (by kernel_rfl)
theorem qqx:entryFor table "set_iterator.__iter__" = some Builtin.«dict_keyiterator.__iter__»:=entryFor_alias (id' := "dict_keyiterator.__iter__") (by kernel_rfl) rfl (by decide +kernel) (by kernel_rfl)
theorem qxf:entryFor table "set.__iter__" = some Builtin.«frozenset.__iter__»:=entryFor_alias (id' := "frozenset.__iter__") (by kernel_rfl) rfl (by decide +kernel) (by kernel_rfl)
theorem qqb:Manifest.owners.lookup (String.ofList ['r','o','t','a','r','e','t','i','_','t','e','s'].reverse)=some Manifest.sig_set_iterator:=by kernel_rfl
theorem Q0 (a:Ag):argsOk "set_iterator.__next__" ⟨[a],[]⟩:=by(unfold argsOk;rw[signature?_of (id := "set_iterator.__next__") (n:=['_','_','t','x','e','n','_','_']) (o:=['r','o','t','a','r','e','t','i','_','t','e','s']) (by kernel_rfl) qqb];kernel_rfl)
theorem qq1 (a:Ag):argsOk "set_iterator.__iter__" ⟨[a],[]⟩:=by(unfold argsOk;rw[signature?_of (id := "set_iterator.__iter__") (n:=['_','_','r','e','t','i','_','_']) (o:=['r','o','t','a','r','e','t','i','_','t','e','s']) (by kernel_rfl) qqb];kernel_rfl)
theorem wkz {α:Type}(nx:Nat->Nat):∀(f k:Nat) (left:List α) (out:Array α),left.length=f->(pickOrder.go nx f k left out).toList.Perm (out.toList++left)
 |0,k,left,out,h=>by have:left=[]:=ff h;subst this;unfold pickOrder.go;simp
 |f+1,k,left,out,h=>by have hi:nx k%left.length<left.length:=eN _ ⋯;unfold pickOrder.go;rw[ae hi];dsimp only;refine(wkz nx f (k+1) (left.eraseIdx (nx k%left.length)) _ (by rw[List.length_eraseIdx,ay hi];lia)).trans ?_;rw[dM,aZ];refine dv _ ?_;rw[List.singleton_append];rw[List.eraseIdx_eq_take_drop_succ];refine List.perm_middle.symm.trans ?_;rw[<-fR hi,du]
def wk (w:Ah)(S:Aj)(ep:Nat)(ps:List (Int×Ag)):List (Int×Ag):=if byT w=true then(pickOrder (w.params.setOrder S ep) ps.toArray).toList else ps
theorem qww (w:Ah)(S:Aj)(ep:Nat)(ps:List (Int×Ag)):(wk w S ep ps).Perm ps:=by
 unfold wk;split
 .unfold pickOrder;exact(wkz _ _ _ _ _ (by simp)).trans (by simp)
 .exact .refl _
def SRaw (h:Heap)(S:Aj)(ps:List (Int×Ag))(ep:Nat)(t:SetTable):Prop:=∃o,h.get? S=some o/\o.ExactSet/\o.data=.set ps.toArray ep t
def SIt (h:Heap)(it S:Aj)(slot i n ep:Nat):Prop:=∃o,h.get? it=some o/\o.cls=.type "set_iterator" /\ o.data=.fields #[.int slot 0,.int i 0,.ref S,.int n 0,.int ep 0]
theorem SRaw.at {h h':Heap}{S:Aj}{ps:List (Int×Ag)}{ep:Nat}{t:SetTable}(x:SRaw h S ps ep t)(k:∀o,h.get? S=some o->h'.get? S=some o):SRaw h' S ps ep t:=let ⟨o,e,r⟩:=x;⟨o,k o e,r⟩
theorem SIt.at {h h':Heap}{it S:Aj}{slot i n ep:Nat}(x:SIt h it S slot i n ep)(k:∀o,h.get? it=some o->h'.get? it=some o):SIt h' it S slot i n ep:=let ⟨o,e,r⟩:=x;⟨o,k o e,r⟩
section
variable {prog:Ac}{w:Ah}{A:Ae}{E:Ag->Ab->Prop}{s:Ab}{S it:Aj}{ps:List (Int×Ag)}{ep:Nat}{t:SetTable}
theorem SIt.ty {slot i n:Nat}(x:SIt s.heap it S slot i n ep):s.TypeIs (.ref it) "set_iterator" := let ⟨o,e,r⟩:=x;⟨o,e,r.1⟩
theorem SRaw.ty (x:SRaw s.heap S ps ep t):s.TypeIs (.ref S) "set" := let ⟨o,e,r⟩:=x;⟨o,e,r.1.1⟩
theorem Y9 {Q:Bool->Ab->Prop}(h:Q (byT w) s):wpAny (model prog w) A setsByText Q E s:=by unfold setsByText;exact aa (fO (ai h))
theorem wjy {slot i:Nat}{Q:Option (Ag×Nat)->Ab->Prop}(R:SRaw s.heap S ps ep t)(T:Tab (byT w) t (ps.map (·.1)))(hs:byT w=false->SetTable.below t.place slot=i){p:Int×Ag}(hp:(wk w S ep ps)[i]?=some p)
  (hQ:∀nx:Nat,(byT w=false->SetTable.below t.place nx=i+1)->Q (some (p.2,nx)) s):wpAny (model prog w) A (setNext S slot i ep) Q E s:=by
 obtain⟨o,D,ab,F⟩:=R;unfold setNext;refine aa (bJ D F T.fits' ?_);dsimp only;refine aa (Y9 ?_);cases hb:byT w with
 |true =>
  rw[hb]at hs hQ;simp only[cI,fH,aB,br];refine aa ?_;unfold setWalk;refine aa (bJ D F T.fits' ?_);dsimp only;refine aa (Y9 ?_);rw[hb];simp only[cI];refine aa (fO (ai ?_));unfold wk at hp;rw[ay hb,aJ]at hp;show wpAny _ _ (pure (((pickOrder (w.params.setOrder S ep) ps.toArray)[i]?).map _)) _ _ _;rw[hp];exact ai (hQ slot λz=>by cases z)
 |false =>
  rw[hb]at hs hQ;simp only[aB,br];refine fX (λW=>absurd W ?_) (λ_=>?_)
  .show ¬ ((!t.plain&&decide (ps.toArray.size>1))=true);rw[T.plain];simp
  .refine aa ?_;show wpAny _ _ (if(!t.led&&!ps.toArray.isEmpty)=true then _ else _) _ _ s;have U:t.led=true:=by rw[T.led,hb];rfl
   rw[U];simp only[fV,jS,aB,br];refine ai ?_;unfold wk at hp;rw[ar (by rw[hb];exact aH)]at hp;have hi:=(al.mp hp).1;have Z:ps.toArray[i]?=some (p.1,p.2):=by simpa using hp
   have L:i<t.place.size:=by rw[T.pl,ag];exact hi
   have J:t.place[i]?=some t.place[i]:=bf L;rw[hs rfl,Z,J];exact ai (hQ _ λ_=>wxk T.rise J)
theorem xq4 {slot i:Nat}{Q:Option (Ag×Nat)->Ab->Prop}(R:SRaw s.heap S ps ep t)(T:Tab (byT w) t (ps.map (·.1)))(hs:byT w=false->SetTable.below t.place slot=i)(hp:ps.length<=i)
  (hQ:Q none s):wpAny (model prog w) A (setNext S slot i ep) Q E s:=by
 obtain⟨o,D,W,F⟩:=R;unfold setNext;refine aa (bJ D F T.fits' ?_);dsimp only;refine aa (Y9 ?_);cases hb:byT w with
 |true =>
  simp only[cI,fH,aB,br];refine aa ?_;unfold setWalk;refine aa (bJ D F T.fits' ?_);dsimp only;refine aa (Y9 ?_);rw[hb];simp only[cI];refine aa (fO (ai ?_));have z:=(qww w S ep ps).length_eq;unfold wk at z;rw[ay hb,aV]at z;show wpAny _ _ (pure (((pickOrder (w.params.setOrder S ep) ps.toArray)[i]?).map _)) _ _ _;rw[dZ (by rw[z];exact hp)];exact ai hQ
 |false =>
  rw[hb]at hs;simp only[aB,br];refine fX (λL=>absurd L ?_) (λ_=>?_)
  .show ¬ ((!t.plain&&decide (ps.toArray.size>1))=true);rw[T.plain];simp
  .refine aa ?_;show wpAny _ _ (if(!t.led&&!ps.toArray.isEmpty)=true then _ else _) _ _ s;have J:t.led=true:=by rw[T.led,hb];rfl
   rw[J];simp only[fV,jS,aB,br];refine ai ?_;have U:ps.toArray[i]?=none:=dZ (by rw[au];exact hp);rw[hs rfl,U];exact ai hQ
theorem wx8 {slot i:Nat}{p:Int×Ag}{Q:Option Ag->Ab->Prop}(hit:SIt s.heap it S slot i ps.length ep)(R:SRaw s.heap S ps ep t)(T:Tab (byT w) t (ps.map (·.1)))(hs:byT w=false->SetTable.below t.place slot=i)(hp:(wk w S ep ps)[i]?=some p)
  (hQ:∀h' nx,SIt h' it S nx (i+1) ps.length ep->(byT w=false->SetTable.below t.place nx=i+1)->Heap.SameBut it s.heap h'->Q (some p.2) { s with heap:=h' }):wpAny (model prog w) A (pyNext (.ref it)) Q E s:=by
 obtain⟨o,D,hc,z⟩:=id hit;obtain⟨oS,W,ac,ab⟩:=id R;unfold pyNext;refine aa (fF (dN (name:=Str.ofString "__next__") hit.ty slot_setit_next (cV slot_setit_next hit.ty ud ?_ (Q0 _))));unfold Builtin.«set_iterator.__next__»;refine aa (ai ?_);refine aa (iI D z ?_);dsimp only;refine aa ?_;unfold setEntries;refine aa (bJ W ab T.fits' (ai ?_));dsimp only;rw[ar (by rw[au];simp)];rw[bQ,bQ,bQ];refine aa (wjy R T hs hp λnx Z=>?_);dsimp only;refine aa (gL D z (by simp) ?_);have F:=dt (Obj.mapFields (·.setIfInBounds 0 (rawInt (nx:Int)))) D (gP (d9 z _));have J:=d9 z (·.setIfInBounds 0 (rawInt (nx:Int)));have L:Heap.SameBut it s.heap (s.heap.update it (Obj.mapFields (·.setIfInBounds 0 (rawInt (nx:Int))))):=cD ..;generalize s.heap.update it (Obj.mapFields (·.setIfInBounds 0 (rawInt (nx:Int))))=h1 at F L ⊢;refine aa (gL (s:={ s with heap:=h1 }) F J (by simp) ?_);have g2:=dt (Obj.mapFields (·.setIfInBounds 1 (rawInt ((i:Int)+1)))) F (gP (d9 J _));have d2:=d9 J (·.setIfInBounds 1 (rawInt ((i:Int)+1)));have U:Heap.SameBut it h1 (h1.update it (Obj.mapFields (·.setIfInBounds 1 (rawInt ((i:Int)+1))))):=cD ..;refine ai ⟨_,rfl,ai (hQ _ nx ⟨_,g2,((iY ..).trans (iY ..)).trans hc,by rw[d2];simp[rawInt]⟩ Z (L.trans U))⟩
theorem wjt {slot i:Nat}{Q:Option Ag->Ab->Prop}(hh:A.handled=none)(hit:SIt s.heap it S slot i ps.length ep)(R:SRaw s.heap S ps ep t)(T:Tab (byT w) t (ps.map (·.1)))(hs:byT w=false->SetTable.below t.place slot=i)(hp:ps.length<=i)
  (hQ:∀h',Heap.ExtBut it s.heap h'->Q none { s with heap:=h' }):wpAny (model prog w) A (pyNext (.ref it)) Q E s:=by
 obtain⟨o,z,W,D⟩:=id hit;obtain⟨L,F,U,J⟩:=id R;unfold pyNext;refine aa (fF (dN (name:=Str.ofString "__next__") hit.ty slot_setit_next (cV slot_setit_next hit.ty ud ?_ (Q0 _))));unfold Builtin.«set_iterator.__next__»;refine aa (ai ?_);refine aa (iI z D ?_);dsimp only;refine aa ?_;unfold setEntries;refine aa (bJ F J T.fits' (ai ?_));dsimp only;rw[ar (by rw[au];simp)];rw[bQ,bQ,bQ];refine aa (xq4 R T hs hp ?_);dsimp only;refine aa (gL z D (by simp) ?_);refine aa ?_;simp only[newExc,newTuple];(refine aa (bW ?_ (by size_fits)) ;refine aa (m:=firstArgMember _ _) (wpAny_of_eq (a:=Value.none) (by first | rfl | (simp only[firstArgMember];rfl)) ?_) ;refine bW ?_ (by size_fits) ;simp only[raiseNew] ;refine aa (wpAny_handled ?_) ;rw[show A.in1.handled=none from hh] ;refine aa (ai (wpAny_throw ?_)));refine aa (jD (T := "StopIteration") (b:=true) ⟨_,aA _ rfl,rfl⟩ isSubtype_stop (ai (hQ _ (((cD ..).extBut.push _).push _))))
theorem wzh {slot i:Nat}{Q:Ag->Ab->Prop}(hit:SIt s.heap it S slot i ps.length ep)(h:Q (.ref it) s):wpAny (model prog w) A (pyIter (.ref it)) Q E s:=by refine iZ hit.ty Qs (cV Qs hit.ty qqx ?_ (qq1 _));show wpAny _ _ (ret (.ref it)) _ _ s;exact ai ⟨_,rfl,"set_iterator",_,hit.ty,slot_setit_next.lookup,h⟩
theorem wu8 {Q:Ag->Ab->Prop}(R:SRaw s.heap S ps ep t)(T:Tab (byT w) t (ps.map (·.1)))
  (hQ:Q (.ref s.heap.objs.size) { s with heap:=s.heap.push { cls:=.type "set_iterator",data:=.fields #[.int 0 0,.int 0 0,.ref S,.int ps.length 0,.int ep 0] } }):wpAny (model prog w) A (pyIter (.ref S)) Q E s:=by
 obtain⟨U,z,W,D⟩:=id R;refine iZ R.ty F.slot_set_iter (cV F.slot_set_iter R.ty qxf ?_ (F.args_set_iter_1 _));unfold Builtin.«frozenset.__iter__»;refine aa ?_;unfold Builtin.Frozenset.slot0;refine aa (ai ?_);show wpAny _ _ (pure S) _ _ s;refine ai ?_;refine aa ?_;unfold Builtin.Frozenset.sizeOf setEntries;refine aa (aa (bJ z D T.fits' (ai (ai ?_))));dsimp only;refine aa ?_;unfold setDrawn;refine aa (bJ z D T.fits' ?_);dsimp only;refine aa (Y9 (ai ?_));have J:∀b:Bool,(b&&(!t.plain&&decide (ps.toArray.size>1)))=false:=λb=>by rw[T.plain];simp
 refine fX (λL=>?_) (λ_=>?_)
 .have:(!byT w&&(!t.plain&&decide (ps.toArray.size>1)))=true:=L;rw[J]at this;cases this
 .refine aa (ai ?_);refine aa (wpAny_setEpoch_of z D T.fits' ?_);refine aa (bW (ai ⟨_,rfl,"set_iterator",_,⟨_,aA _ rfl,rfl⟩,slot_setit_next.lookup,?_⟩));simpa [rawInt] using hQ
theorem wy4 (hh:A.handled=none)(I:Aj)(hne:S≠I)(T:Tab (byT w) t (ps.map (·.1))):Walks prog w A I [I,S] [I] ps.length (λi v=>∃p,(wk w S ep ps)[i]?=some p/\v=p.2) (λi h=>(∃slot,SIt h I S slot i ps.length ep/\(byT w=false->SetTable.below t.place slot=i))/\SRaw h S ps ep t) where
 sub:=λb hb=>by simp at hb;simp[hb]
 frame:=λ_ _ _ ⟨⟨sl,a,b⟩,c⟩ hk=>⟨⟨sl,a.at λo e=>hk I (by simp) o e,b⟩,c.at λo e=>hk S (by simp) o e⟩
 item:=λi s Q E hi ⟨⟨sl,a,b⟩,c⟩ hQ=>by have hl:=(qww w S ep ps).length_eq;have hx:=ae (l:=wk w S ep ps) (i:=i) ⋯;exact wx8 a c T b hx λh' nx it' nx' sb=>hQ _ h' s.toks ⟨_,hx,rfl⟩ ⟨⟨nx,it',nx'⟩,c.at λo e=>sb.extBut S o hne e⟩ λb o hb e=>sb.extBut b o (λh=>hb (by simp[h])) e
 done:=λs Q E ⟨⟨sl,a,b⟩,c⟩ hQ=>wjt hh a c T b (aj _) λh' eb=>hQ h' s.toks λb o hb e=>eb b o (λh=>hb (by simp[h])) e
 self:=λ_ _ _ _ ⟨⟨sl,a,b⟩,c⟩ hQ=>wzh a hQ
theorem wu4 {Q:Bool->Ab->Prop}(hT:s.TypeIs (.ref S) "set")(h:Q false s):wpAny (model prog w) A (Builtin.List.listLengthHint (.ref S)) Q E s:=by unfold Builtin.List.listLengthHint;refine aa (jO hT F.slot_set_len.lookup ?_);generalize hid:("set.__len__" : String)=id0;wp_delta;rw[show splitId id0=some ("set","__len__") from by subst hid;decide +kernel];subst hid;(refine aa (jD (T := "set") (b:=true) hT (by rw[isSubtype_type];kernel_rfl) ?_) ;refine fX (λz=>absurd z ⋯) (λ_=>?_) ;refine fX (λ_=>?_) (λz=>absurd (by decide +kernel) z));refine aa (wpAny_typeOf hT ?_);exact ai h
theorem xkd (T:Tab (byT w) t (ps.map (·.1))):KdlSrc prog w "set" S S ps.length (λi v=>∃p,(wk w S ep ps)[i]?=some p/\v=p.2) (λh=>SRaw h S ps ep t) where
 type:=λ_ hm=>hm.ty
 there:=λ_ hm=>let ⟨_,e,_⟩:=hm;⟨ak e,ak e⟩
 keep:=λ_ _ hm hk=>hm.at λo e=>hk S (.inl rfl) o e
 notList:=by decide
 notTuple:=by decide
 hint:=λ_ _ _ _ hm hq=>wu4 hm.ty hq
 iter:=λ_ _ hh hm=>⟨_,_,(λ_ _ hq=>wu8 hm T hq),wy4 hh _ (let ⟨_,e,_⟩:=hm;aC (ak e)) T,⟨⟨0,⟨_,aA _ rfl,rfl,rfl⟩,λ_=>wx4 T.rise⟩,hm.at λo e=>ah _ e⟩⟩
end
end L2
namespace Tm
open PySem PyProof.Rows
def W7:Bool->Ai->Array Ai->Nat->Nat->Nat->StateT Af Sem (Option Nat):=sortPriv% PySem.Builtin.gallop
def wqs:Array Ai->Array Ai->StateT Af Sem (Array Ai):=sortPriv% PySem.Builtin.mergeLo
def wwh:Array Ai->Array Ai->StateT Af Sem (Array Ai):=sortPriv% PySem.Builtin.mergeHi
local macro_rules | `(tactic| walk_at "tim gallop")=>do
 let n:=Lean.mkIdent (Lean.mkPrivateNameCore `PySem.Builtin.List.W1All `PySem.Builtin.gallop);`(tactic| unfold $n:ident)
section
variable {M:Model}{A:Ae}{E:Ag->Ab->Prop}{s:Ab}{G:Ai->Prop}{kz:Ai->Int}{kd:SortKind}
def ux (M:Model)(A:Ae)(E:Ag->Ab->Prop)(s:Ab)(G:Ai->Prop)(kz:Ai->Int)(kd:SortKind):Prop :=
 ∀(x y:Ai) (st:Af) (Q:Option Bool->Af->Prop),G x->G y->kindOf st=kd->Q (some (decide (kz x<kz y))) st->wpS M A E s (lt' x y) Q st
theorem xh {arr:Array Ai}{i:Nat}{x:Ai}{st:Af}{Q:Ai->Af->Prop}(hx:arr[i]?=some x)(h:Q x st):wpS M A E s (elem' arr i) Q st:=by rw[elem'_eq,hx];exact aK h
def zr (kz:Ai->Int)(left:Bool)(key x:Ai):Bool:=if left=true then decide (kz x<kz key) else !decide (kz key<kz x)
theorem wqd {n lo0 hi0:Nat}{P:Nat->Bool}{st:Af}{f:Nat->Option (Option Nat)×Nat×Nat->StateT Af Sem (ForInStep (Option (Option Nat)×Nat×Nat))}{Q:Option (Option Nat)×Nat×Nat->Af->Prop}
  (f1:∀i a b (R:ForInStep (Option (Option Nat)×Nat×Nat)->Af->Prop),a>=b->R (.done (none,a,b)) st->wpS M A E s (f i (none,a,b)) R st)
  (f2:∀i a b (R:ForInStep (Option (Option Nat)×Nat×Nat)->Af->Prop),¬ a>=b->b<=n->(P (a+(b-a)/2)=true->R (.yield (none,a+(b-a)/2+1,b)) st)->(P (a+(b-a)/2)=false->R (.yield (none,a,a+(b-a)/2)) st)->wpS M A E s (f i (none,a,b)) R st)
  (h1:lo0<=hi0) (h2:hi0<=n) (hlo:∀i,i<lo0->P i=true) (hhi:∀i,hi0<=i->i<n->P i=false) (mono:∀i j,i<=j->j<n->P j=true->P i=true)
  (h:∀a k,k<=n->(∀i,i<k->P i=true)->(∀i,k<=i->i<n->P i=false)->Q (none,a,k) st) :
  wpS M A E s (forIn [:n] ((none,lo0,hi0):Option (Option Nat)×Nat×Nat) f) Q st:=by
 refine cz (I:=λi (c:Option (Option Nat)×Nat×Nat) st'=>st'=st/\c.1=none/\c.2.1<=c.2.2/\c.2.2<=n/\c.2.2-c.2.1<=n-i/\(∀i,i<c.2.1->P i=true)/\(∀i,c.2.2<=i->i<n->P i=false))
  ?step ?fin ⟨rfl,rfl,h1,h2,by dsimp only;lia,hlo,hhi⟩
 case fin =>
  rintro⟨r,a,b⟩ st' ⟨rfl,hr,x1,x2,x3,x4,x5⟩;dsimp only at hr x1 x2 x3 x4 x5 ⊢;subst hr;have:a=b:=by lia
  subst this;exact h _ _ x2 x4 x5
 case step =>
  rintro i ⟨r,a,b⟩ st' _ hi ⟨rfl,hr,x1,x2,x3,x4,x5⟩;dsimp only at hr x1 x2 x3 x4 x5 ⊢;subst hr;by_cases c:a>=b
  .have:a=b:=by lia
   subst this;exact f1 _ _ _ _ c (h _ _ x2 x4 x5)
  .refine f2 _ _ _ _ c x2 (λhp=>?_) λhp=>?_
   .exact⟨rfl,rfl,by dsimp only;lia,x2,by dsimp only;lia,λj hj=>mono j _ (by dsimp only at hj;lia) ⋯ hp,x5⟩
   .refine⟨rfl,rfl,by dsimp only;lia,by dsimp only;lia,by dsimp only;lia,x4,λj hj hj2=>?_⟩;cases hp2:P j with
    |false=>rfl
    |true =>
     have:=mono (a+(b-a)/2) j hj hj2 hp2;rw[hp]at this;cases this
theorem wxh {left:Bool}{key:Ai}{arr:Array Ai}{base n hint:Nat}{P:Nat->Bool}{st:Af}{Q:Option Nat->Af->Prop}(O:ux M A E s G kz kd)(hk:kindOf st=kd)(hG:G key)
  (hA:∀i,i<n->∃x,arr[base+i]?=some x/\G x/\P i=zr kz left key x) (hh:hint<n) (mono:∀i j,i<=j->j<n->P j=true->P i=true)
  (h:∀k,k<=n->(∀i,i<k->P i=true)->(∀i,k<=i->i<n->P i=false)->Q (some k) st):wpS M A E s (W7 left key arr base n hint) Q st:=by
 have hb:∀i (R:Option Bool->Af->Prop),i<n->R (some (P i)) st->wpS M A E s (do
   let x <-elem' arr (base+i)
   if left=true then lt' x key
   else do
    let r <-lt' key x
    pure (r.map λb=>!b)) R st:=by
  intro i R hi hR;obtain⟨x,e,g,hp⟩:=hA i hi;refine aD (xh e ?_);rw[hp]at hR;unfold zr at hR;cases left with
  |true =>
   rw[ay rfl]at hR ⊢;exact O _ _ _ _ g hG hk hR
  |false =>
   rw[ar aH]at hR ⊢;exact aD (O _ _ _ _ hG g hk (aK hR))
 unfold W7;walk_at "tim gallop";dsimp only;refine aD (hb hint _ hh ?_);dsimp only;cases hp:P hint with
 |true =>
  rw[ay rfl];refine aD (fC (cz (I:=λi (c:Option (Option Nat)×Nat×Nat) st'=>st'=st/\c.1=none/\i+1<=c.2.2/\c.2.1<c.2.2/\hint+c.2.1<n/\P (hint+c.2.1)=true)
   (Q:=λc st'=>st'=st/\c.1=none/\c.2.1<c.2.2/\hint+c.2.1<n/\P (hint+c.2.1)=true/\(n-hint<=c.2.2\/(hint+c.2.2<n/\P (hint+c.2.2)=false))) ?step ?fin ⟨rfl,rfl,aj 1,Nat.zero_lt_one,hh,hp⟩) ?post)
  case fin =>
   rintro⟨r,a,b⟩ st' ⟨rfl,hr,x1,x2,x3,x4⟩;dsimp only at hr x1 x2 x3 x4 ⊢;exact⟨rfl,hr,x2,x3,x4,.inl ⋯⟩
  case step =>
   rintro i ⟨r,a,b⟩ st' _ hi ⟨rfl,hr,x1,x2,x3,x4⟩;dsimp only at hr x1 x2 x3 x4 ⊢;by_cases c:b>=n-hint
   .rw[ay c];exact aK ⟨rfl,rfl,x2,x3,x4,.inl c⟩
   .rw[ar c];refine aD (hb _ _ ⋯ ?_);dsimp only;cases hq:P (hint+b) with
    |true=>exact aK ⟨rfl,rfl,by dsimp only;lia,by dsimp only;lia,by dsimp only;lia,hq⟩
    |false=>exact aK ⟨rfl,rfl,x2,x3,x4,.inr ⟨by dsimp only;lia,hq⟩⟩
  case post =>
   rintro⟨r,a,b⟩ st' ⟨rfl,hr,x2,x3,x4,x5⟩;dsimp only at hr x2 x3 x4 x5 ⊢;subst hr;dsimp only;refine aD (wqd (lo0:=hint+a+1) (hi0:=hint+min b (n-hint)) (λi a b R c hR=>?_) (λi a b R c hb2 r1 r2=>?_) ⋯ ⋯ (λi hi=>mono i (hint+a) ⋯ x3 x4) (λi hi1 hi2=>?_) mono λa k k1 k2 k3=>aK (h k k1 k2 k3))
   .dsimp only;rw[ay c];exact aK hR
   .dsimp only;rw[ar c];refine aD (hb _ _ ⋯ ?_);dsimp only;cases hp3:P (a+(b-a)/2) with
    |true=>exact aK (r1 hp3)
    |false=>exact aK (r2 hp3)
   .rcases x5 with x5|⟨x5,x6⟩
    .lia
    .cases hp2:P i with
     |false=>rfl
     |true =>
      have:=mono (hint+b) i ⋯ hi2 hp2;rw[x6]at this;cases this
 |false =>
  rw[ar aH];refine aD (fC (cz (I:=λi (c:Option (Option Nat)×Nat×Nat) st'=>st'=st/\c.1=none/\i+1<=c.2.2/\c.2.1<c.2.2/\c.2.1<=hint/\P (hint-c.2.1)=false)
   (Q:=λc st'=>st'=st/\c.1=none/\c.2.1<c.2.2/\c.2.1<=hint/\P (hint-c.2.1)=false/\(hint+1<=c.2.2\/(c.2.2<=hint/\P (hint-c.2.2)=true))) ?step ?fin ⟨rfl,rfl,aj 1,Nat.zero_lt_one,aY _,hp⟩) ?post)
  case fin =>
   rintro⟨r,a,b⟩ st' ⟨rfl,hr,x1,x2,x3,x4⟩;dsimp only at hr x1 x2 x3 x4 ⊢;exact⟨rfl,hr,x2,x3,x4,.inl ⋯⟩
  case step =>
   rintro i ⟨r,a,b⟩ st' _ hi ⟨rfl,hr,x1,x2,x3,x4⟩;dsimp only at hr x1 x2 x3 x4 ⊢;by_cases c:b>=hint+1
   .rw[ay c];exact aK ⟨rfl,rfl,x2,x3,x4,.inl c⟩
   .rw[ar c];refine aD (hb _ _ ⋯ ?_);dsimp only;cases hq:P (hint-b) with
    |true=>exact aK ⟨rfl,rfl,x2,x3,x4,.inr ⟨by dsimp only;lia,hq⟩⟩
    |false=>exact aK ⟨rfl,rfl,by dsimp only;lia,by dsimp only;lia,by dsimp only;lia,hq⟩
  case post =>
   rintro⟨r,a,b⟩ st' ⟨rfl,hr,x2,x3,x4,x5⟩;dsimp only at hr x2 x3 x4 x5 ⊢;subst hr;dsimp only;refine aD (wqd (lo0:=hint+1-min b (hint+1)) (hi0:=hint-a) (λi a b R c hR=>?_) (λi a b R c hb2 r1 r2=>?_) ⋯ ⋯ (λi hi=>?_) (λi hi1 hi2=>?_) mono λa k k1 k2 k3=>aK (h k k1 k2 k3))
   .dsimp only;rw[ay c];exact aK hR
   .dsimp only;rw[ar c];refine aD (hb _ _ ⋯ ?_);dsimp only;cases hp3:P (a+(b-a)/2) with
    |true=>exact aK (r1 hp3)
    |false=>exact aK (r2 hp3)
   .rcases x5 with x5|⟨x5,x6⟩
    .lia
    .exact mono i (hint-b) ⋯ ⋯ x6
   .cases hp2:P i with
    |false=>rfl
    |true =>
     have:=mono (hint-a) i ⋯ hi2 hp2;rw[x4]at this;cases this
end
end Tm
namespace Tm
open PySem PyProof.Rows
def qz9:Nat->StateT Af Sem Unit:=sortPriv% PySem.Builtin.setMinGallop
local macro_rules | `(tactic| walk_at "tim lo")=>do
 let n:=Lean.mkIdent (Lean.mkPrivateNameCore `PySem.Builtin.List.W1All `PySem.Builtin.mergeLo);`(tactic| unfold $n:ident)
section
variable {kz:Ai->Int}
def SL (kz:Ai->Int)(l:List Ai):Prop:=l.Pairwise λx y=>kz x<kz y
structure LJ (kz:Ai->Int)(T O X Y:List Ai):Prop where
 x:SL kz (O++X)
 y:SL kz (O++Y)
 p:(O++(X++Y)).Perm T
variable {T O X Y X1 X2 Y1 Y2:List Ai}
theorem LJ.swap (h:LJ kz T O X Y):LJ kz T O Y X:=⟨h.y,h.x,(dv O eB).trans h.p⟩
theorem LJ.mvX (h:LJ kz T O (X1++X2) Y)(lt:∀u∈X1,∀v∈Y,kz u<kz v):LJ kz T (O++X1) X2 Y:=by
 obtain⟨a,b,c⟩:=h;have F:=bj.mp b;refine⟨by rw[aZ];exact a,?_,by simpa [aZ] using c⟩;have J:SL kz (O++X1):=by rw[<-aZ]at a;exact(bj.mp a).1
 refine bj.mpr ⟨J,F.2.1,λu z v D=>?_⟩;rcases aX.mp z with z|z
 .exact F.2.2 u z v D
 .exact lt u z v D
theorem LJ.mvY (h:LJ kz T O X (Y1++Y2))(lt:∀u∈Y1,∀v∈X,kz u<kz v):LJ kz T (O++Y1) X Y2:=(h.swap.mvX lt).swap
structure HJ (kz:Ai->Int)(T X Y O:List Ai):Prop where
 x:SL kz (X++O)
 y:SL kz (Y++O)
 p:(X++(Y++O)).Perm T
theorem HJ.swap (h:HJ kz T X Y O):HJ kz T Y X O:=⟨h.y,h.x,by
 refine List.Perm.trans ?_ h.p
 rw[<-aZ,<-aZ]
 exact di O eB⟩
theorem HJ.mvX (h:HJ kz T (X1++X2) Y O)(lt:∀v∈Y,∀u∈X2,kz v<kz u):HJ kz T X1 Y (X2++O):=by
 obtain⟨a,b,c⟩:=h;have F:=bj.mp b;refine⟨by rw[<-aZ];exact a,?_,?_⟩
 .have J:SL kz (X2++O):=by rw[aZ]at a;exact(bj.mp a).2.1
  refine bj.mpr ⟨F.1,J,λv D u z=>?_⟩;rcases aX.mp z with z|z
  .exact lt v D u z
  .exact F.2.2 v D u z
 .refine List.Perm.trans ?_ c;rw[aZ];refine dv X1 ?_;rw[<-aZ,<-aZ];exact di O eB
theorem HJ.mvY (h:HJ kz T X (Y1++Y2) O)(lt:∀v∈X,∀u∈Y2,kz v<kz u):HJ kz T X Y1 (Y2++O):=(h.swap.mvX lt).swap
structure Mg (kz:Ai->Int)(G:Ai->Prop)(a b:Array Ai):Prop where
 sa:SL kz a.toList
 sb:SL kz b.toList
 ne:∀x∈a.toList,∀y∈b.toList,kz x≠kz y
 ga:∀x∈a.toList,G x
 gb:∀x∈b.toList,G x
def Jr (kz:Ai->Int)(a b r:Array Ai):Prop:=SL kz r.toList/\r.toList.Perm (a.toList++b.toList)
def SameSt (st st':Af):Prop:=kindOf st'=kindOf st/\arrOf st'=arrOf st/\pendingOf st'=pendingOf st/\failedOf st'=failedOf st
theorem SameSt.rfl' (st:Af):SameSt st st:=⟨rfl,rfl,rfl,rfl⟩
theorem SameSt.trans {a b c:Af}(h:SameSt a b)(k:SameSt b c):SameSt a c:=⟨k.1.trans h.1,k.2.1.trans h.2.1,k.2.2.1.trans h.2.2.1,k.2.2.2.trans h.2.2.2⟩
theorem SL.lt {l:List Ai}(h:SL kz l){i j:Nat}{x y:Ai}(hij:i<j)(hx:l[i]?=some x)(hy:l[j]?=some y):kz x<kz y:=by obtain⟨hi,rfl⟩:=al.mp hx;obtain⟨hj,rfl⟩:=al.mp hy;exact bg.mp h i j hi hj hij
theorem SL.le {l:List Ai}(h:SL kz l){i j:Nat}{x y:Ai}(hij:i<=j)(hx:l[i]?=some x)(hy:l[j]?=some y):kz x<=kz y:=by
 rcases bo i j with c|c
 .exact eK (h.lt c hx hy)
 .obtain rfl:i=j:=by lia
  rw[hx]at hy;cases hy;exact cE _
theorem zk {a:Array Ai}{i:Nat}(h:i<a.size):∃x,a[i]?=some x/\a.toList[i]?=some x/\x∈a.toList:=⟨a[i],bf h,by simp[h],by simp⟩
theorem Jt {l:List Ai}{i:Nat}{x:Ai}(h:l[i]?=some x):l.drop i=[x]++l.drop (i+1):=by obtain⟨hi,rfl⟩:=al.mp h;exact fR hi
theorem qzq (l:List Ai)(i k:Nat):l.drop i=(l.drop i).take k++l.drop (i+k):=by rw[<-List.drop_drop];exact(du k (l.drop i)).symm
theorem Wu {l:List Ai}{i:Nat}{x:Ai}(h:x∈l.drop i):∃j,i<=j/\l[j]?=some x:=by obtain⟨j,hj⟩:=bX h;exact⟨i+j,⋯,by rw[<-hj,dC]⟩
theorem W4 {l:List Ai}{i k:Nat}{x:Ai}(h:x∈(l.drop i).take k):∃j,i<=j/\j<i+k/\l[j]?=some x:=by
 obtain⟨j,hj⟩:=bX h;rw[ee]at hj;split at hj
 .exact⟨i+j,⋯,⋯,by rw[<-hj,dC]⟩
 .cases hj
theorem Wv {l:List Ai}{i:Nat}{x:Ai}(h:x∈l.take i):∃j,j<i/\l[j]?=some x:=by
 obtain⟨j,hj⟩:=bX h;rw[ee]at hj;split at hj
 .exact⟨j,⋯,hj⟩
 .cases hj
end
section
variable {M:Model}{A:Ae}{E:Ag->Ab->Prop}{s:Ab}{G:Ai->Prop}{kz:Ai->Int}{kd:SortKind}{a b:Array Ai}
theorem Z6 {g:Nat}{st:Af}{Q:Unit->Af->Prop}(h:∀st',SameSt st st'->Q () st'):wpS M A E s (qz9 g) Q st :=
 gk (h _ ⟨rfl,rfl,rfl,rfl⟩)
abbrev LJA (kz:Ai->Int)(a b out:Array Ai)(ia ib:Nat):Prop:=LJ kz (a.toList++b.toList) out.toList (a.toList.drop ia) (b.toList.drop ib)
theorem qwq (a:Array Ai)(i:Nat):(a.extract i a.size).toList=a.toList.drop i:=by rw[eM];simp only[List.extract];exact dh (by simp)
theorem qq6 {out:Array Ai}{ia ib:Nat}(h:LJA kz a b out ia ib)(e:ib=b.size):Jr kz a b (out++a.extract ia a.size++b.extract ib b.size):=by
 subst e;obtain⟨x,y,p⟩:=h;have z:(out++a.extract ia a.size++b.extract b.size b.size).toList=out.toList++a.toList.drop ia:=by rw[bT,bT,qwq,qwq];simp
 have D:b.toList.drop b.size=[]:=by simp
 rw[D,bP]at p;exact⟨by rw[z];exact x,by rw[z];exact p⟩
theorem qq5 {out:Array Ai}{ia ib:Nat}(h:LJA kz a b out ia ib)(e:ia+1=a.size)(hl:∀x,a[a.size-1]?=some x->∀y∈b.toList,kz y<kz x):Jr kz a b (out++b.extract ib b.size++a.extract ia a.size):=by
 obtain⟨x,y,p⟩:=h;have L:(out++b.extract ib b.size++a.extract ia a.size).toList=(out.toList++b.toList.drop ib)++a.toList.drop ia:=by rw[bT,bT,qwq,qwq]
 obtain⟨z,W,U,z3⟩:=zk (a:=a) (i:=ia) ⋯;have Z:=hl z (by rw[<-W];congr 1;lia);have F:a.toList.drop ia=[z]:=by rw[Jt U,List.drop_eq_nil_of_le (by rw[aV];lia)];rfl
 rw[F]at x p;refine⟨?_,?_⟩
 .rw[L,F];refine bj.mpr ⟨y,eY _ _,λu D v J=>?_⟩;rcases aX.mp D with D|D
  .exact(bj.mp x).2.2 u D v J
  .obtain rfl:=aU.mp J;exact Z u (cW D)
 .rw[L,F,aZ];exact(dv _ eB).trans p
theorem qw2 {out:Array Ai}{ia ib:Nat}{x y:Ai}(m:Mg kz G a b)(h:LJA kz a b out ia ib)(hx:a.toList[ia]?=some x)(hy:b.toList[ib]?=some y)(c:kz y<kz x):LJA kz a b (out.push y) ia (ib+1):=by
 have h':LJ kz (a.toList++b.toList) out.toList (a.toList.drop ia) ([y]++b.toList.drop (ib+1)):=by rw[<-Jt hy];exact h
 have:=h'.mvY λu D v z=>by obtain rfl:=aU.mp D;obtain⟨j,F,J⟩:=Wu z;have:=m.sa.le F hx J;lia
 show LJ kz _ (out.push y).toList _ _;rw[dM];exact this
theorem quw {out:Array Ai}{ia ib:Nat}{x y:Ai}(m:Mg kz G a b)(h:LJA kz a b out ia ib)(hx:a.toList[ia]?=some x)(hy:b.toList[ib]?=some y)(c:¬ kz y<kz x):LJA kz a b (out.push x) (ia+1) ib:=by
 have h':LJ kz (a.toList++b.toList) out.toList ([x]++a.toList.drop (ia+1)) (b.toList.drop ib):=by rw[<-Jt hx];exact h
 have L:=m.ne x (aF hx) y (aF hy);have:=h'.mvX λu D v z=>by obtain rfl:=aU.mp D;obtain⟨j,F,J⟩:=Wu z;have:=m.sb.le F hy J;lia
 show LJ kz _ (out.push x).toList _ _;rw[dM];exact this
theorem xqt {out:Array Ai}{ia ib k:Nat}{y:Ai}(m:Mg kz G a b)(h:LJA kz a b out ia ib)(hy:b.toList[ib]?=some y)(c:∀i x,i<k->a.toList[ia+i]?=some x->kz x<=kz y):LJA kz a b (out++a.extract ia (ia+k)) (ia+k) ib:=by
 have h':LJ kz (a.toList++b.toList) out.toList ((a.toList.drop ia).take k++a.toList.drop (ia+k)) (b.toList.drop ib):=by rw[<-qzq];exact h
 have:=h'.mvX λu F v D=>by obtain⟨i,Z,W,z⟩:=W4 F;obtain⟨j,J,L⟩:=Wu D;have h1:=m.sb.le J hy L;have h2:=c (i-ia) u ⋯ (by rw[<-z];congr 1;lia);have U:=m.ne u (aF z) y (aF hy);lia
 have e:(out++a.extract ia (ia+k)).toList=out.toList++(a.toList.drop ia).take k:=by simp
 show LJ kz _ (out++a.extract ia (ia+k)).toList _ _;rw[e];exact this
theorem xqp {out:Array Ai}{ia ib k:Nat}{x:Ai}(m:Mg kz G a b)(h:LJA kz a b out ia ib)(hx:a.toList[ia]?=some x)(c:∀i y,i<k->b.toList[ib+i]?=some y->kz y<kz x):LJA kz a b (out++b.extract ib (ib+k)) ia (ib+k):=by
 have h':LJ kz (a.toList++b.toList) out.toList (a.toList.drop ia) ((b.toList.drop ib).take k++b.toList.drop (ib+k)):=by rw[<-qzq];exact h
 have:=h'.mvY λu D v z=>by obtain⟨i,W,U,L⟩:=W4 D;obtain⟨j,F,J⟩:=Wu z;have h1:=m.sa.le F hx J;have h2:=c (i-ib) u ⋯ (by rw[<-L];congr 1;lia);lia
 have e:(out++b.extract ib (ib+k)).toList=out.toList++(b.toList.drop ib).take k:=by simp
 show LJ kz _ (out++b.extract ib (ib+k)).toList _ _;rw[e];exact this
theorem wkr {left:Bool}{key:Ai}{arr:Array Ai}{base n hint:Nat}{st:Af}{Q:Option Nat->Af->Prop}(O:ux M A E s G kz kd)(hk:kindOf st=kd)(hG:G key)
  (sl:∀i j x y,base<=i->i<j->j<base+n->arr[i]?=some x->arr[j]?=some y->kz x<kz y) (hg:∀i,base<=i->i<base+n->∃x,arr[i]?=some x/\G x) (hh:hint<n)
  (h:∀k,k<=n->(∀i x,i<k->arr[base+i]?=some x->zr kz left key x=true)->(∀i x,k<=i->i<n->arr[base+i]?=some x->zr kz left key x=false)->Q (some k) st) :
  wpS M A E s (W7 left key arr base n hint) Q st:=by
 refine wxh (P:=λi=>match arr[base+i]? with|some x=>zr kz left key x|none=>false) O hk hG (λi hi=>?_) hh (λi j W U z=>?_) λk h1 h2 J=>h k h1 (λi x hi ex=>?_) λi x hi F ex=>?_
 .obtain⟨x,ex,L⟩:=hg (base+i) ⋯ ⋯;exact⟨x,ex,L,by simp only[ex]⟩
 .obtain⟨y,D,_⟩:=hg (base+j) ⋯ ⋯;obtain⟨x,ex,_⟩:=hg (base+i) ⋯ ⋯;simp only[D]at z;simp only[ex];rcases bo i j with c|c
  .have:=sl (base+i) (base+j) x y ⋯ ⋯ ⋯ ex D;unfold zr at z ⊢;cases left with
   |true =>
    rw[ay rfl]at z ⊢;have:=cx z;exact aS ⋯
   |false =>
    rw[ar aH]at z ⊢;rw[i3,gv]at z ⊢;lia
  .obtain rfl:i=j:=by lia
   rw[ex]at D;cases D;exact z
 .have:=h2 i hi;simp only[ex]at this;exact this
 .have:=J i hi F;simp only[ex]at this;exact this
end
end Tm
namespace Tm
open PySem PyProof.Rows
local macro_rules | `(tactic| walk_at "tim lo")=>do
 let n:=Lean.mkIdent (Lean.mkPrivateNameCore `PySem.Builtin.List.W1All `PySem.Builtin.mergeLo);`(tactic| unfold $n:ident)
section
variable {M:Model}{A:Ae}{E:Ag->Ab->Prop}{s:Ab}{G:Ai->Prop}{kz:Ai->Int}{kd:SortKind}{a b:Array Ai}
theorem tupS {A B:Type}{P:Option A×B->Prop}{r:A}(h:∀b,P (some r,b)):∀c:Option A×B,c.1=some r->P c:=λ⟨_,b⟩ e=>by cases e;exact h b
theorem tup5 {A B C D E:Type}{P:Option A×B×C×D×E->Prop}(h:∀b c d e,P (none,b,c,d,e)):∀x:Option A×B×C×D×E,x.1=none->P x:=λ⟨_,b,c,d,e⟩ z=>by cases z;exact h b c d e
theorem tup6 {A B C D E F:Type}{P:Option A×B×C×D×E×F->Prop}(h:∀b c d e f,P (none,b,c,d,e,f)):∀x:Option A×B×C×D×E×F,x.1=none->P x:=λ⟨_,b,c,d,e,f⟩ z=>by cases z;exact h b c d e f
theorem tup7 {A B C D E F G:Type}{P:Option A×B×C×D×E×F×G->Prop}(h:∀b c d e f g,P (none,b,c,d,e,f,g)):∀x:Option A×B×C×D×E×F×G,x.1=none->P x:=λ⟨_,b,c,d,e,f,g⟩ z=>by cases z;exact h b c d e f g
theorem wqm {α:Type}{c:Nat->Prop}{i:∀z,Decidable (c z)}{u v:Nat->StateT Af Sem α}{Q:α->Af->Prop}{st:Af}(hu:∀z,u z=v (z-1))(h:∀z,wpS M A E s (v z) Q st):∀z,wpS M A E s (@ite _ (c z) (i z) (u z) (v z)) Q st:=λz=>by
 rw[hu z];split
 .exact h _
 .exact h z
theorem zu {α:Type}{c:Prop}[i:Decidable c]{t e:StateT Af Sem α}{Q:α->Af->Prop}{st:Af}(h1:c->wpS M A E s t Q st)(h2:¬ c->wpS M A E s e Q st):wpS M A E s (ite c t e) Q st:=by
 by_cases d:c
 .rw[ay d];exact h1 d
 .rw[ar d];exact h2 d
theorem wkn {α:Type}{c:Prop}[i:Decidable c]{t e:StateT Af Sem α}{Q:α->Af->Prop}{st:Af}(d:¬ c)(h:wpS M A E s e Q st):wpS M A E s (ite c t e) Q st:=by rw[ar d];exact h
theorem qwc {A':Ae}{α A B:Type}{c:Prop}{i':Decidable c}{t:StateT Af Sem α}{R:A->B->StateT Af Sem α}{Q:α->Af->Prop}{st:Af}{o:A}{i:B}(P:A->B->Prop)(hp:¬ c->P o i)(tail:∀x y,P x y->wpS M A' E s (R x y) Q st)(ht:c->(∀x y,P x y->wpS M A' E s (R x y) Q st)->wpS M A' E s t Q st):wpS M A' E s (@ite _ c i' t (R o i)) Q st:=by
 by_cases d:c
 .rw[ay d];exact ht d tail
 .rw[ar d];exact tail _ _ (hp d)
theorem qyp {left:Bool}{key:Ai}{arr:Array Ai}{base n hint:Nat}{st:Af}{Q:Option Nat->Af->Prop}(O:ux M A E s G kz kd)(hk:kindOf st=kd)(hG:G key)
  (sl:SL kz arr.toList) (hg:∀x∈arr.toList,G x) (hn:base+n<=arr.size) (hh:hint<n)
  (h:∀k,k<=n->(∀i x,i<k->arr.toList[base+i]?=some x->zr kz left key x=true)->(∀i x,k<=i->i<n->arr.toList[base+i]?=some x->zr kz left key x=false)->Q (some k) st) :
  wpS M A E s (W7 left key arr base n hint) Q st:=by
 refine wkr O hk hG (λi j x y _ J _ ex U=>sl.lt J (by rw[aJ];exact ex) (by rw[aJ];exact U)) (λi _ hi=>?_) hh λk F D z=>h k F (λi x hi ex=>D i x hi (by rw[<-aJ];exact ex)) λi x hi L ex=>z i x hi L (by rw[<-aJ];exact ex);obtain⟨x,Z,e2,W⟩:=zk (a:=arr) (i:=i) ⋯;exact⟨x,Z,hg x W⟩
theorem ah_f {key x:Ai}(h:zr kz false key x=true):kz x<=kz key:=by unfold zr at h;rw[ar aH,i3,gv]at h;lia
theorem ah_t {key x:Ai}(h:zr kz true key x=true):kz x<kz key:=by unfold zr at h;rw[ay rfl]at h;exact cx h
theorem wuu {key x:Ai}(h:zr kz false key x=false):kz key<kz x:=by unfold zr at h;rw[ar aH]at h;simpa using h
theorem qku {key x:Ai}(h:zr kz true key x=false):kz key<=kz x:=by unfold zr at h;rw[ay rfl,gv]at h;lia
theorem qu1 {st:Af}{Q:Array Ai->Af->Prop}(O:ux M A E s G kz kd)(hk:kindOf st=kd)(m:Mg kz G a b)(ha:1<=a.size)(hb:1<=b.size)
  (h0:∀x y,a[0]?=some x->b[0]?=some y->kz y<kz x) (hl:∀x,a[a.size-1]?=some x->∀y∈b.toList,kz y<kz x) (h:∀r st',SameSt st st'->Jr kz a b r->Q r st'):wpS M A E s (wqs a b) Q st:=by
 unfold wqs;walk_at "tim lo";refine aD (iJ (dA ⟨rfl,?_⟩));obtain⟨y0,f1,f2,f3⟩:=zk (a:=b) (i:=0) ⋯;obtain⟨x0,e1,e2,e3⟩:=zk (a:=a) (i:=0) ⋯;refine aD (xh f1 ?_);have J0:LJA kz a b #[y0] 0 1:=by have:=qw2 (out:=#[]) m ⟨by simpa using m.sa,by simpa using m.sb,by simp⟩ e2 f2 (h0 _ _ e1 f1);exact this
 refine zu (λc1=>?_) λc1=>?_
 .exact aK (h _ _ (SameSt.rfl' _) (qq6 J0 (by simpa using c1)))
 refine zu (λc2=>?_) λc2=>?_
 .exact aK (h _ _ (SameSt.rfl' _) (qq5 J0 (by simpa using c2) hl))
 have c1':1<b.size:=by
  have:¬ 0+1=b.size:=by simpa using c1
  lia
 have c2':0+1<a.size:=by
  have:¬ 0+1=a.size:=by simpa using c2
  lia
 refine aD (gW ?_);refine aD (fC (cz (I:=λt (c:Option (Array Ai)×Array Ai×Nat×Nat×Nat) st'=>SameSt st st'/\c.1=none/\LJA kz a b c.2.1 c.2.2.1 c.2.2.2.1/\c.2.2.1+1<a.size/\c.2.2.2.1<b.size/\t+1<=c.2.2.1+c.2.2.2.1)
  (Q:=λc st'=>SameSt st st'/\∃r,c.1=some r/\Jr kz a b r) ?step ?fin ⟨SameSt.rfl' _,rfl,J0,c2',c1',aj 1⟩) ?post)
 case post =>
  intro c0 st' hI;obtain⟨S,r',hr,F⟩:=hI;revert c0;refine tupS λc=>?_;exact aK (h _ _ S F)
 case fin =>
  rintro⟨r,out,ia,ib,mg⟩ st' ⟨S,_,_,x1,x2,x3⟩;dsimp only at x1 x2 x3;lia
 case step =>
  intro t c0 st1 _ ht hI;obtain⟨S1,hr,J,x1,x2,x3⟩:=hI;revert c0;refine tup5 λout ia ib mg=>?_;intro J x1 x2 x3;dsimp only at J x1 x2 x3;refine aD (fC (cz (I:=λx (c:Option (Array Ai)×Array Ai×Nat×Nat×Nat×Nat) st'=>SameSt st st'/\c.1=none/\LJA kz a b c.2.1 c.2.2.1 c.2.2.2.1/\c.2.2.1+1<a.size/\c.2.2.2.1<b.size/\t+1+x<=c.2.2.1+c.2.2.2.1)
   (Q:=λc st'=>SameSt st st'/\((c.1=none/\LJA kz a b c.2.1 c.2.2.1 c.2.2.2.1/\c.2.2.1+1<a.size/\c.2.2.2.1<b.size/\t+2<=c.2.2.1+c.2.2.2.1)\/∃r,c.1=some r/\Jr kz a b r)) ?sstep ?sfin ⟨S1,rfl,J,x1,x2,x3⟩) ?spost)
  case sfin =>
   rintro⟨r,out,ia,ib,ac,bc⟩ st' ⟨S,hr,J,x1,x2,x3⟩;dsimp only at hr J x1 x2 x3;exact⟨S,.inl ⟨hr,J,x1,x2,by dsimp only;lia⟩⟩
  case sstep =>
   intro x c0 st2 _ hx hI;obtain⟨S2,hr,J,x1,x2,x3⟩:=hI;revert c0;refine tup6 λout ia ib ac bc=>?_;intro J x1 x2 x3;dsimp only at J x1 x2 x3;obtain⟨u,u1,u2,u3⟩:=zk (a:=b) x2;obtain⟨v,v1,v2,v3⟩:=zk (a:=a) (i:=ia) ⋯;refine aD (xh u1 (aD (xh v1 ?_)));refine aD (O u v _ _ (m.gb u u3) (m.ga v v3) (S2.1.trans hk) ?_);refine zu (λc=>?_) λc=>?_
   .have c:=cx c;refine aD (xh u1 ?_);have J':=qw2 m J v2 u2 c;refine zu (λd=>?_) λd=>?_
    .exact aK ⟨S2,.inr ⟨_,rfl,qq6 J' (by simpa using d)⟩⟩
    have d':ib+1<b.size:=by
     have:¬ ib+1=b.size:=by simpa using d
     lia
    refine zu (λ_=>?_) λ_=>?_
    .exact aK ⟨S2,.inl ⟨rfl,J',x1,d',by dsimp only;lia⟩⟩
    .exact aK ⟨S2,rfl,J',x1,d',by dsimp only;lia⟩
   .have c:¬ (kz u<kz v):=by simpa using c
    refine aD (xh v1 ?_);have J':=quw m J v2 u2 c;refine zu (λd=>?_) λd=>?_
    .exact aK ⟨S2,.inr ⟨_,rfl,qq5 J' (by simpa using d) hl⟩⟩
    have d':ia+1+1<a.size:=by
     have:¬ ia+1+1=a.size:=by simpa using d
     lia
    refine zu (λ_=>?_) λ_=>?_
    .exact aK ⟨S2,.inl ⟨rfl,J',d',x2,by dsimp only;lia⟩⟩
    .exact aK ⟨S2,rfl,J',d',x2,by dsimp only;lia⟩
  case spost =>
   intro c0 st2 hI;obtain⟨S2,hc|⟨r',hr,F⟩⟩:=hI
   case inr =>
    revert c0
    refine tupS λb0=>?_;exact aK ⟨S2,r',rfl,F⟩
   obtain⟨hr,J,x1,x2,x3⟩:=hc;revert c0;refine tup6 λout ia ib ac bc=>?_;intro J x1 x2 x3;dsimp only at J x1 x2 x3;refine aD (iJ (dA ⟨rfl,?_⟩));refine aD (fC (cz (I:=λx (c:Option (Array Ai)×Array Ai×Nat×Nat×Nat×Nat×Nat) st'=>SameSt st st'/\c.1=none/\LJA kz a b c.2.1 c.2.2.1 c.2.2.2.1/\c.2.2.1+1<a.size/\c.2.2.2.1<b.size/\t+2<=c.2.2.1+c.2.2.2.1)
    (Q:=λc st'=>SameSt st st'/\((c.1=none/\LJA kz a b c.2.1 c.2.2.1 c.2.2.2.1/\c.2.2.1+1<a.size/\c.2.2.2.1<b.size/\t+2<=c.2.2.1+c.2.2.2.1)\/∃r,c.1=some r/\Jr kz a b r)) ?gstep ?gfin ⟨S2,rfl,J,x1,x2,x3⟩) ?gpost)
   case gfin =>
    rintro⟨r,out,ia,ib,mg,ac,bc⟩ st' ⟨S,hr,J,x1,x2,x3⟩;exact⟨S,.inl ⟨hr,J,x1,x2,x3⟩⟩
   case gpost =>
    intro c0 st3 hI;obtain⟨S3,hc|⟨r',hr,F⟩⟩:=hI
    .obtain⟨hr,J,x1,x2,x3⟩:=hc;revert c0;refine tup7 λout ia ib mg ac bc=>?_;intro J x1 x2 x3;dsimp only at J x1 x2 x3;refine aD (Z6 λst4 S4=>?_);exact aK ⟨S3.trans S4,rfl,J,x1,x2,by dsimp only;lia⟩
    .revert c0;refine tupS λb0=>?_;exact aK ⟨S3,r',rfl,F⟩
   case gstep =>
    intro x c0 st3 _ hx hI;obtain⟨S3,hr,J,x1,x2,x3⟩:=hI;revert c0;refine tup7 λout ia ib mg ac bc=>?_;intro J x1 x2 x3;dsimp only at J x1 x2 x3;obtain⟨u,u1,u2,u3⟩:=zk (a:=b) x2;revert mg;refine wqm (λ_=>rfl) λmg=>?_
    all_goals
     refine aD (Z6 λst4 S4=>?_);have S5:=S3.trans S4;refine aD (xh u1 ?_);refine aD (qyp O (S5.1.trans hk) (m.gb u u3) m.sa m.ga (by dsimp only;lia) (by dsimp only;lia) λk k1 k2 k3=>?_)
     try dsimp only at k1 k2 k3
     have kl:k<a.size-ia:=by
      rcases bo k (a.size-ia) with z|z
      .exact z
      .exfalso;obtain⟨v,v1,v2,v3⟩:=zk (a:=a) (i:=a.size-1) ⋯;have:=ah_f (k2 (a.size-1-ia) v ⋯ (by rw[<-v2];congr 1;lia));have:=hl v v1 u u3;lia
     have J':=xqt (k:=k) m J u2 λi x hi ex=>ah_f (k2 i x hi ex);have nxt:∀x,a.toList[ia+k]?=some x->kz u<kz x:=λx ex=>wuu (k3 k x (aj _) kl ex);apply qwc (o:=out) (i:=ia) (λout ia=>LJA kz a b out ia ib/\ia+1<a.size/\(∀x,a.toList[ia]?=some x->kz u<kz x)/\t+2<=ia+ib)
     .intro c;obtain rfl:k=0:=by lia
      exact⟨J,x1,nxt,x3⟩
     rotate_left
     .intro c key;refine zu (λd=>?_) λd=>?_
      .exact aK ⟨S5,.inr ⟨_,rfl,qq5 J' (by simpa using d) hl⟩⟩
      have d':ia+k+1<a.size:=by
       have:¬ ia+k+1=a.size:=by simpa using d
       lia
      refine wkn (by simp;lia) ?_;exact key _ _ ⟨J',d',nxt,⋯⟩
     clear nxt J' kl k1 k2 k3 J x1 x3 out ia;rintro out ia ⟨J',d',nxt,x3'⟩;obtain⟨v,v1,v2,v3⟩:=zk (a:=a) (i:=ia) ⋯;have J2:=qw2 m J' v2 u2 (nxt v v2);refine aD (xh u1 ?_);refine zu (λd2=>?_) λd2=>?_
     .exact aK ⟨S5,.inr ⟨_,rfl,qq6 J2 (by simpa using d2)⟩⟩
     have d2':ib+1<b.size:=by
      have:¬ ib+1=b.size:=by simpa using d2
      lia
     have x4:t+2<=ia+(ib+1):=by lia
     clear d2;generalize out.push u=out2 at J2 ⊢;generalize ib+1=ib2 at J2 d2' x4 ⊢;refine aD (xh v1 ?_);refine aD (qyp O (S5.1.trans hk) (m.ga v v3) m.sb m.gb ⋯ ⋯ λk k1 k2 k3=>?_)
     try dsimp only at k1 k2 k3
     have J3:=xqp (k:=k) m J2 v2 λi x hi ex=>ah_t (k2 i x hi ex);apply qwc (o:=out2) (i:=ib2) (λout ib=>LJA kz a b out ia ib/\ib<b.size/\(∀y,b.toList[ib]?=some y->kz v<=kz y)/\t+2<=ia+ib)
     .intro c;obtain rfl:k=0:=by lia
      exact⟨J2,d2',λy ey=>qku (k3 0 y (aj _) ⋯ ey),x4⟩
     rotate_left
     .intro c key;refine zu (λd=>?_) λd=>?_
      .exact aK ⟨S5,.inr ⟨_,rfl,qq6 J3 (by simpa using d)⟩⟩
      have d3:ib2+k<b.size:=by
       have:¬ ib2+k=b.size:=by simpa using d
       lia
      exact key _ _ ⟨J3,d3,λy ey=>qku (k3 k y (aj _) ⋯ ey),⋯⟩
     clear J3 k1 k2 k3 J2 d2' x4 out2 ib2;rintro out ib ⟨J3,d3,nx,x5⟩;obtain⟨u',w1,w2,w3⟩:=zk (a:=b) d3;have J4:=quw m J3 v2 w2 (by have:=nx u' w2;lia);refine aD (xh v1 ?_);refine zu (λd=>?_) λd=>?_
     .exact aK ⟨S5,.inr ⟨_,rfl,qq5 J4 (by simpa using d) hl⟩⟩
     have d4:ia+1+1<a.size:=by
      have:¬ ia+1+1=a.size:=by simpa using d
      lia
     refine zu (λ_=>?_) λ_=>?_
     .exact aK ⟨S5,.inl ⟨rfl,J4,d4,d3,by dsimp only;lia⟩⟩
     .exact aK ⟨S5,rfl,J4,d4,d3,by dsimp only;lia⟩
end
end Tm
namespace Tm
open PySem PyProof.Rows
local macro_rules | `(tactic| walk_at "tim hi")=>do
 let n:=Lean.mkIdent (Lean.mkPrivateNameCore `PySem.Builtin.List.W1All `PySem.Builtin.mergeHi);`(tactic| unfold $n:ident)
section
variable {M:Model}{A:Ae}{E:Ag->Ab->Prop}{s:Ab}{G:Ai->Prop}{kz:Ai->Int}{kd:SortKind}{a b:Array Ai}
abbrev HJA (kz:Ai->Int)(a b:Array Ai)(na nb:Nat)(out:Array Ai):Prop:=HJ kz (a.toList++b.toList) (a.toList.take na) (b.toList.take nb) out.toList.reverse
theorem qy8 (a:Array Ai)(i:Nat):(a.extract 0 i).toList=a.toList.take i:=by rw[eM];simp[List.extract]
theorem qjg (a:Array Ai)(i j:Nat):(a.extract i j).toList=(a.toList.drop i).take (j-i):=by rw[eM]
theorem qw3 (l:List Ai){i j:Nat}(h:i<=j):l.take j=l.take i++(l.drop i).take (j-i):=by rw[<-List.take_add];congr 1;lia
theorem Jn {l:List Ai}{i:Nat}{x:Ai}(h:l[i]?=some x):l.take (i+1)=l.take i++[x]:=by obtain⟨hi,rfl⟩:=al.mp h;simp
theorem qwx {out:Array Ai}{nb:Nat}(h:HJA kz a b 0 nb out):Jr kz a b (a.extract 0 0++b.extract 0 nb++out.reverse):=by
 obtain⟨x,y,p⟩:=h;have z:(a.extract 0 0++b.extract 0 nb++out.reverse).toList=b.toList.take nb++out.toList.reverse:=by rw[bT,bT,qy8,qy8];simp
 exact⟨by rw[z];exact y,by rw[z];simpa using p⟩
theorem Z5 {out:Array Ai}{na:Nat}(hb:1<=b.size)(h:HJA kz a b na 1 out)(hl:∀y,b[0]?=some y->∀x∈a.toList,kz y<kz x):Jr kz a b (b.extract 0 1++a.extract 0 na++out.reverse):=by
 obtain⟨x,y,p⟩:=h;obtain⟨z,U,L,Z⟩:=zk (a:=b) (i:=0) ⋯;have J:(b.extract 0 1++a.extract 0 na++out.reverse).toList=b.toList.take 1++(a.toList.take na++out.toList.reverse):=by rw[bT,bT,qy8,qy8];simp
 have D:b.toList.take 1=[z]:=by rw[Jn L];simp
 rw[D]at y p;refine⟨?_,?_⟩
 .rw[J,D];refine bj.mpr ⟨eY _ _,x,λu F v W=>?_⟩;rcases aX.mp W with hv'|hv'
  .obtain rfl:=aU.mp F;exact hl u U v (dH hv')
  .exact(bj.mp y).2.2 u F v hv'
 .rw[J,D];refine List.Perm.trans ?_ p;rw[<-aZ,<-aZ];exact di _ eB
theorem qw5 {out:Array Ai}{na nb:Nat}{x y:Ai}(m:Mg kz G a b)(h:HJA kz a b (na+1) (nb+1) out)(hx:a.toList[na]?=some x)(hy:b.toList[nb]?=some y)(c:kz y<kz x):HJA kz a b na (nb+1) (out.push x):=by
 have h':HJ kz (a.toList++b.toList) (a.toList.take na++[x]) (b.toList.take (nb+1)) out.toList.reverse:=by rw[<-Jn hx];exact h
 have:=h'.mvX λv z u D=>by obtain rfl:=aU.mp D;obtain⟨j,J,F⟩:=Wv z;have:=m.sb.le (show j<=nb by lia) F hy;lia
 show HJ kz _ _ _ (out.push x).toList.reverse;rw[dM,fT];exact this
theorem wqk {out:Array Ai}{na nb:Nat}{x y:Ai}(m:Mg kz G a b)(h:HJA kz a b (na+1) (nb+1) out)(hx:a.toList[na]?=some x)(hy:b.toList[nb]?=some y)(c:¬ kz y<kz x):HJA kz a b (na+1) nb (out.push y):=by
 have h':HJ kz (a.toList++b.toList) (a.toList.take (na+1)) (b.toList.take nb++[y]) out.toList.reverse:=by rw[<-Jn hy];exact h
 have J:=m.ne x (aF hx) y (aF hy);have:=h'.mvY λv z u D=>by obtain rfl:=aU.mp D;obtain⟨j,L,F⟩:=Wv z;have:=m.sa.le (show j<=na by lia) F hx;lia
 show HJ kz _ _ _ (out.push y).toList.reverse;rw[dM,fT];exact this
theorem xwu {out:Array Ai}{na nb p:Nat}{y:Ai}(m:Mg kz G a b)(h:HJA kz a b na (nb+1) out)(hp:p<=na)(hy:b.toList[nb]?=some y)(c:∀i x,p<=i->i<na->a.toList[i]?=some x->kz y<kz x):HJA kz a b p (nb+1) (out++(a.extract p na).reverse):=by
 have h':HJ kz (a.toList++b.toList) (a.toList.take p++(a.toList.drop p).take (na-p)) (b.toList.take (nb+1)) out.toList.reverse:=by rw[<-qw3 _ hp];exact h
 have:=h'.mvX λv z u D=>by obtain⟨i,F,W,L⟩:=W4 D;obtain⟨j,U,J⟩:=Wv z;have h1:=m.sb.le (show j<=nb by lia) J hy;have h2:=c i u F ⋯ L;lia
 have e:(out++(a.extract p na).reverse).toList.reverse=(a.toList.drop p).take (na-p)++out.toList.reverse:=by rw[bT,Array.toList_reverse,qjg,fT,List.reverse_reverse]
 show HJ kz _ _ _ (out++(a.extract p na).reverse).toList.reverse;rw[e];exact this
theorem xws {out:Array Ai}{na nb p:Nat}{x:Ai}(m:Mg kz G a b)(h:HJA kz a b (na+1) nb out)(hp:p<=nb)(hx:a.toList[na]?=some x)(c:∀i y,p<=i->i<nb->b.toList[i]?=some y->kz x<=kz y):HJA kz a b (na+1) p (out++(b.extract p nb).reverse):=by
 have h':HJ kz (a.toList++b.toList) (a.toList.take (na+1)) (b.toList.take p++(b.toList.drop p).take (nb-p)) out.toList.reverse:=by rw[<-qw3 _ hp];exact h
 have:=h'.mvY λv D u F=>by obtain⟨i,J,Z,z⟩:=W4 F;obtain⟨j,W,L⟩:=Wv D;have h1:=m.sa.le (show j<=na by lia) L hx;have h2:=c i u J ⋯ z;have U:=m.ne x (aF hx) u (aF z);lia
 have e:(out++(b.extract p nb).reverse).toList.reverse=(b.toList.drop p).take (nb-p)++out.toList.reverse:=by rw[bT,Array.toList_reverse,qjg,fT,List.reverse_reverse]
 show HJ kz _ _ _ (out++(b.extract p nb).reverse).toList.reverse;rw[e];exact this
theorem xxn {left:Bool}{key:Ai}{arr:Array Ai}{n hint:Nat}{st:Af}{Q:Option Nat->Af->Prop}(O:ux M A E s G kz kd)(hk:kindOf st=kd)(hG:G key)
  (sl:SL kz arr.toList) (hg:∀x∈arr.toList,G x) (hn:n<=arr.size) (hh:hint<n)
  (h:∀k,k<=n->(∀i x,i<k->arr.toList[i]?=some x->zr kz left key x=true)->(∀i x,k<=i->i<n->arr.toList[i]?=some x->zr kz left key x=false)->Q (some k) st) :
  wpS M A E s (W7 left key arr 0 n hint) Q st :=
 qyp O hk hG sl hg ⋯ hh λk k1 k2 k3=>h k k1 (λi x hi ex=>k2 i x hi (by rw[cN];exact ex)) λi x hi hi2 ex=>k3 i x hi hi2 (by rw[cN];exact ex)
theorem qur {st:Af}{Q:Array Ai->Af->Prop}(O:ux M A E s G kz kd)(hk:kindOf st=kd)(m:Mg kz G a b)(ha:1<=a.size)(hb:1<=b.size)
  (h0:∀y,b[0]?=some y->∀x∈a.toList,kz y<kz x) (hl:∀x,a[a.size-1]?=some x->∀y∈b.toList,kz y<kz x) (h:∀r st',SameSt st st'->Jr kz a b r->Q r st'):wpS M A E s (wwh a b) Q st:=by
 unfold wwh;walk_at "tim hi";refine aD (iJ (dA ⟨rfl,?_⟩));obtain⟨y0,f1,f2,f3⟩:=zk (a:=b) (i:=b.size-1) ⋯;obtain⟨x0,e1,e2,e3⟩:=zk (a:=a) (i:=a.size-1) ⋯;refine aD (xh e1 ?_);have tk:∀c:Array Ai,c.toList.take c.size=c.toList:=λc=>dh (by simp);have J0:HJA kz a b (a.size-1) b.size #[x0]:=by
  have st:HJA kz a b (a.size-1+1) (b.size-1+1) #[]:=by
   have ea:a.size-1+1=a.size:=by lia
   have eb:b.size-1+1=b.size:=by lia
   show HJ kz _ (a.toList.take (a.size-1+1)) (b.toList.take (b.size-1+1)) _;rw[ea,eb,tk,tk];exact⟨by simpa using m.sa,by simpa using m.sb,by simp⟩
  have:=qw5 m st e2 f2 (hl _ e1 _ f3);have eb:b.size-1+1=b.size:=by lia
  rw[eb]at this;exact this
 refine zu (λc1=>?_) λc1=>?_
 .have e:a.size-1=0:=by simpa using c1
  rw[e]at J0 ⊢;exact aK (h _ _ (SameSt.rfl' _) (qwx J0))
 refine zu (λc2=>?_) λc2=>?_
 .have e:b.size=1:=by simpa using c2
  rw[e]at J0 ⊢;exact aK (h _ _ (SameSt.rfl' _) (Z5 hb J0 h0))
 have c1':1<=a.size-1:=by
  have:¬ a.size-1=0:=by simpa using c1
  lia
 have c2':2<=b.size:=by
  have:¬ b.size=1:=by simpa using c2
  lia
 refine aD (gW ?_);refine aD (fC (cz (I:=λt (c:Option (Array Ai)×Nat×Nat×Array Ai×Nat) st'=>SameSt st st'/\c.1=none/\HJA kz a b c.2.1 c.2.2.1 c.2.2.2.1/\1<=c.2.1/\2<=c.2.2.1/\c.2.1<=a.size/\c.2.2.1<=b.size/\c.2.1+c.2.2.1+t+1<=a.size+b.size)
  (Q:=λc st'=>SameSt st st'/\∃r,c.1=some r/\Jr kz a b r) ?step ?fin ⟨SameSt.rfl' _,rfl,J0,c1',c2',by dsimp only;lia,aj _,by dsimp only;lia⟩) ?post)
 case post =>
  intro c0 st' hI;obtain⟨S,r',hr,F⟩:=hI;revert c0;refine tupS λc=>?_;exact aK (h _ _ S F)
 case fin =>
  rintro⟨r,na,nb,out,mg⟩ st' ⟨S,_,_,x1,x2,_,_,x3⟩;dsimp only at x1 x2 x3;lia
 case step =>
  intro t c0 st1 _ ht hI;obtain⟨S1,hr,J,x1,x2,xa,xb,x3⟩:=hI;revert c0;refine tup5 λna nb out mg=>?_;intro J x1 x2 xa xb x3;dsimp only at J x1 x2 xa xb x3;refine aD (fC (cz (I:=λx (c:Option (Array Ai)×Nat×Nat×Array Ai×Nat×Nat) st'=>SameSt st st'/\c.1=none/\HJA kz a b c.2.1 c.2.2.1 c.2.2.2.1/\1<=c.2.1/\2<=c.2.2.1/\c.2.1<=a.size/\c.2.2.1<=b.size/\c.2.1+c.2.2.1+t+1+x<=a.size+b.size)
   (Q:=λc st'=>SameSt st st'/\((c.1=none/\HJA kz a b c.2.1 c.2.2.1 c.2.2.2.1/\1<=c.2.1/\2<=c.2.2.1/\c.2.1<=a.size/\c.2.2.1<=b.size/\c.2.1+c.2.2.1+t+2<=a.size+b.size)\/∃r,c.1=some r/\Jr kz a b r)) ?sstep ?sfin ⟨S1,rfl,J,x1,x2,xa,xb,x3⟩) ?spost)
  case sfin =>
   rintro⟨r,na,nb,out,ac,bc⟩ st' ⟨S,hr,J,x1,x2,xa,xb,x3⟩;dsimp only at hr J x1 x2 xa xb x3;exact⟨S,.inl ⟨hr,J,x1,x2,xa,xb,by dsimp only;lia⟩⟩
  case sstep =>
   intro x c0 st2 _ hx hI;obtain⟨S2,hr,J,x1,x2,xa,xb,x3⟩:=hI;revert c0;refine tup6 λna nb out ac bc=>?_;intro J x1 x2 xa xb x3;dsimp only at J x1 x2 xa xb x3;obtain⟨na,rfl⟩:∃n,na=n+1:=⟨na-1,⋯⟩;obtain⟨nb,rfl⟩:∃n,nb=n+1:=⟨nb-1,⋯⟩;obtain⟨u,u1,u2,u3⟩:=zk (a:=b) (i:=nb) ⋯;obtain⟨v,v1,v2,v3⟩:=zk (a:=a) (i:=na) ⋯;refine aD (xh u1 (aD (xh v1 ?_)));refine aD (O u v _ _ (m.gb u u3) (m.ga v v3) (S2.1.trans hk) ?_);refine zu (λc=>?_) λc=>?_
   .have c:=cx c;refine aD (xh v1 ?_);have J':=qw5 m J v2 u2 c;refine zu (λd=>?_) λd=>?_
    .have e:na=0:=by simpa using d
     subst e;exact aK ⟨S2,.inr ⟨_,rfl,qwx J'⟩⟩
    have d':1<=na:=by
     have:¬ na=0:=by simpa using d
     lia
    refine zu (λ_=>?_) λ_=>?_
    .exact aK ⟨S2,.inl ⟨rfl,J',d',x2,by dsimp only;lia,xb,by dsimp only;lia⟩⟩
    .exact aK ⟨S2,rfl,J',d',x2,by dsimp only;lia,xb,by dsimp only;lia⟩
   .have c:¬ (kz u<kz v):=by simpa using c
    refine aD (xh u1 ?_);have J':=wqk m J v2 u2 c;refine zu (λd=>?_) λd=>?_
    .have e:nb=1:=by simpa using d
     subst e;exact aK ⟨S2,.inr ⟨_,rfl,Z5 hb J' h0⟩⟩
    have d':2<=nb:=by
     have:¬ nb=1:=by simpa using d
     lia
    refine zu (λ_=>?_) λ_=>?_
    .exact aK ⟨S2,.inl ⟨rfl,J',x1,d',xa,by dsimp only;lia,by dsimp only;lia⟩⟩
    .exact aK ⟨S2,rfl,J',x1,d',xa,by dsimp only;lia,by dsimp only;lia⟩
  case spost =>
   intro c0 st2 hI;obtain⟨S2,hc|⟨r',hr,F⟩⟩:=hI
   case inr =>
    revert c0
    refine tupS λb0=>?_;exact aK ⟨S2,r',rfl,F⟩
   obtain⟨hr,J,x1,x2,xa,xb,x3⟩:=hc;revert c0;refine tup6 λna nb out ac bc=>?_;intro J x1 x2 xa xb x3;dsimp only at J x1 x2 xa xb x3;refine aD (iJ (dA ⟨rfl,?_⟩));refine aD (fC (cz (I:=λx (c:Option (Array Ai)×Nat×Nat×Array Ai×Nat×Nat×Nat) st'=>SameSt st st'/\c.1=none/\HJA kz a b c.2.1 c.2.2.1 c.2.2.2.1/\1<=c.2.1/\2<=c.2.2.1/\c.2.1<=a.size/\c.2.2.1<=b.size/\c.2.1+c.2.2.1+t+2<=a.size+b.size)
    (Q:=λc st'=>SameSt st st'/\((c.1=none/\HJA kz a b c.2.1 c.2.2.1 c.2.2.2.1/\1<=c.2.1/\2<=c.2.2.1/\c.2.1<=a.size/\c.2.2.1<=b.size/\c.2.1+c.2.2.1+t+2<=a.size+b.size)\/∃r,c.1=some r/\Jr kz a b r)) ?gstep ?gfin ⟨S2,rfl,J,x1,x2,xa,xb,x3⟩) ?gpost)
   case gfin =>
    rintro⟨r,na,nb,out,mg,ac,bc⟩ st' ⟨S,hr,J,x1,x2,xa,xb,x3⟩;exact⟨S,.inl ⟨hr,J,x1,x2,xa,xb,x3⟩⟩
   case gpost =>
    intro c0 st3 hI;obtain⟨S3,hc|⟨r',hr,F⟩⟩:=hI
    .obtain⟨hr,J,x1,x2,xa,xb,x3⟩:=hc;revert c0;refine tup7 λna nb out mg ac bc=>?_;intro J x1 x2 xa xb x3;dsimp only at J x1 x2 xa xb x3;refine aD (Z6 λst4 S4=>?_);exact aK ⟨S3.trans S4,rfl,J,x1,x2,xa,xb,by dsimp only;lia⟩
    .revert c0;refine tupS λb0=>?_;exact aK ⟨S3,r',rfl,F⟩
   case gstep =>
    intro x c0 st3 _ hx hI;obtain⟨S3,hr,J,x1,x2,xa,xb,x3⟩:=hI;revert c0;refine tup7 λna nb out mg ac bc=>?_;intro J x1 x2 xa xb x3;dsimp only at J x1 x2 xa xb x3;obtain⟨nb,rfl⟩:∃n,nb=n+1:=⟨nb-1,⋯⟩;obtain⟨u,u1,u2,u3⟩:=zk (a:=b) (i:=nb) ⋯;revert mg;refine wqm (λ_=>rfl) λmg=>?_
    all_goals
     refine aD (Z6 λst4 S4=>?_);have S5:=S3.trans S4;refine aD (xh u1 ?_);refine aD (xxn O (S5.1.trans hk) (m.gb u u3) m.sa m.ga xa (by dsimp only;lia) λp k1 k2 k3=>?_)
     try dsimp only at k1 k2 k3
     have J':=xwu m J k1 u2 λi x hi hi2 ex=>wuu (k3 i x hi hi2 ex);have prv:1<=p->∀x,a.toList[p-1]?=some x->¬ kz u<kz x:=λh x ex=>by have:=ah_f (k2 (p-1) x ⋯ ex);lia
     have xa':p<=a.size:=by lia
     have x3':p+(nb+1)+t+2<=a.size+b.size:=by lia
     clear k2 k3;dsimp -zeta only;generalize hac:na-p=ac;apply qwc (o:=na) (i:=out) (λna out=>HJA kz a b na (nb+1) out/\1<=na/\na<=a.size/\(∀x,a.toList[na-1]?=some x->¬ kz u<kz x)/\na+(nb+1)+t+2<=a.size+b.size)
     .intro c;obtain rfl:p=na:=by lia
      exact⟨J,x1,xa,prv x1,x3⟩
     rotate_left
     .intro c key;refine zu (λd=>?_) λd=>?_
      .have e:p=0:=by simpa using d
       subst e;exact aK ⟨S5,.inr ⟨_,rfl,qwx J'⟩⟩
      have d':1<=p:=by
       have:¬ p=0:=by simpa using d
       lia
      exact key _ _ ⟨J',d',xa',prv d',x3'⟩
     clear prv J' xa' x3' hac k1 J x1 xa x3 out na p;rintro na out ⟨J',x1,xa,prv,x3⟩;obtain⟨na,rfl⟩:∃n,na=n+1:=⟨na-1,⋯⟩;rw[im]at prv;obtain⟨v,v1,v2,v3⟩:=zk (a:=a) (i:=na) ⋯;have J2:=wqk m J' v2 u2 (prv v v2);refine aD (xh u1 ?_);refine zu (λd2=>?_) λd2=>?_
     .have e:nb=1:=by simpa using d2
      subst e;exact aK ⟨S5,.inr ⟨_,rfl,Z5 hb J2 h0⟩⟩
     have d2':2<=nb:=by
      have:¬ nb=1:=by simpa using d2
      lia
     have xb':nb<=b.size:=by lia
     have x4:na+1+nb+t+3<=a.size+b.size:=by lia
     refine aD (xh v1 ?_);clear d2 prv J' x3 u1 u2 u3 xb;generalize out.push u=out2 at J2 ⊢;rw[im nb];refine aD (xxn O (S5.1.trans hk) (m.ga v v3) m.sb m.gb (by(try dsimp only);lia) (by(try dsimp only);lia) λq k1 k2 k3=>?_)
     try dsimp only at k1 k2 k3
     have J3:=xws m J2 k1 v2 λi x hi hi2 ex=>qku (k3 i x hi hi2 ex);have q1:1<=q:=by
      rcases bo 0 q with z|z
      .exact z
      .exfalso;obtain⟨w,w1,w2,w3⟩:=zk (a:=b) (i:=0) ⋯;have:=qku (k3 0 w ⋯ ⋯ w2);have:=h0 w w1 v v3;lia
     have prv2:∀y,b.toList[q-1]?=some y->kz y<kz v:=λy ey=>ah_t (k2 (q-1) y ⋯ ey);clear k2 k3;dsimp -zeta only;generalize hbc:nb-q=bc;apply qwc (o:=nb) (i:=out2) (λnb out=>HJA kz a b (na+1) nb out/\2<=nb/\nb<=b.size/\(∀y,b.toList[nb-1]?=some y->kz y<kz v)/\na+1+nb+t+3<=a.size+b.size)
     .intro c;obtain rfl:q=nb:=by lia
      exact⟨J2,d2',xb',prv2,x4⟩
     rotate_left
     .intro c key;refine zu (λd=>?_) λd=>?_
      .have e:q=1:=by simpa using d
       subst e;exact aK ⟨S5,.inr ⟨_,rfl,Z5 hb J3 h0⟩⟩
      refine wkn (by simp;lia) ?_;exact key _ _ ⟨J3,by have:¬ q=1:=(by simpa using d);lia,⋯,prv2,⋯⟩
     clear J3 k1 J2 prv2 q1 d2' xb' x4 hbc x2 out2 q nb;rintro nb out ⟨J3,d3,d5,prv2,x5⟩;obtain⟨q,rfl⟩:∃n,nb=n+1:=⟨nb-1,⋯⟩;rw[im]at prv2;obtain⟨w,w1,w2,w3⟩:=zk (a:=b) (i:=q) ⋯;have J4:=qw5 m J3 v2 w2 (prv2 w w2);refine aD (xh v1 ?_);refine zu (λd=>?_) λd=>?_
     .have e:na=0:=by simpa using d
      subst e;exact aK ⟨S5,.inr ⟨_,rfl,qwx J4⟩⟩
     have d4:1<=na:=by
      have:¬ na=0:=by simpa using d
      lia
     refine zu (λ_=>?_) λ_=>?_
     .exact aK ⟨S5,.inl ⟨rfl,J4,d4,d3,by dsimp only;lia,by dsimp only;lia,by dsimp only;lia⟩⟩
     .exact aK ⟨S5,rfl,J4,d4,d3,by dsimp only;lia,by dsimp only;lia,by dsimp only;lia⟩
end
end Tm
namespace Tm
open PySem PyProof.Rows
section
variable {M:Model}{A:Ae}{E:Ag->Ab->Prop}{s:Ab}{G:Ai->Prop}{kz:Ai->Int}{kd:SortKind}
def Srt (kz:Ai->Int)(xs:Array Ai)(lo hi:Nat):Prop:=∀i j x y,lo<=i->i<j->j<hi->xs[i]?=some x->xs[j]?=some y->kz x<kz y
def Dsc (kz:Ai->Int)(xs:Array Ai)(lo hi:Nat):Prop:=∀i j x y,lo<=i->i<j->j<hi->xs[i]?=some x->xs[j]?=some y->kz y<kz x
structure Un (kz:Ai->Int)(G:Ai->Prop)(xs:Array Ai):Prop where
 ne:xs.toList.Pairwise λx y=>kz x≠kz y
 g:∀x∈xs.toList,G x
theorem Un.perm {xs ys:Array Ai}(u:Un kz G xs)(p:ys.Perm xs):Un kz G ys:=by have p':=eo.mp p;exact⟨(p'.pairwise_iff (λ{a b} h=>eU h)).mpr u.ne,λx hx=>u.g x (p'.mem_iff.mp hx)⟩
theorem Un.at_ {xs:Array Ai}(u:Un kz G xs){i:Nat}(h:i<xs.size):∃x,xs[i]?=some x/\G x:=by obtain⟨x,e1,_,e3⟩:=zk h;exact⟨x,e1,u.g x e3⟩
theorem Un.ne_at {xs:Array Ai}(u:Un kz G xs){i j:Nat}{x y:Ai}(hij:i<j)(hx:xs[i]?=some x)(hy:xs[j]?=some y):kz x≠kz y:=by rw[<-aJ]at hx hy;obtain⟨hi,rfl⟩:=al.mp hx;obtain⟨z,rfl⟩:=al.mp hy;exact bg.mp u.ne i j hi z hij
theorem qqq {st:Af}{i j:Nat}{x y:Ai}{Q:Option Bool->Af->Prop}(O:ux M A E s G kz kd)(hk:kindOf st=kd)(hx:(arrOf st)[i]?=some x)(hy:(arrOf st)[j]?=some y)(gx:G x)(gy:G y)
  (h:Q (some (decide (kz x<kz y))) st):wpS M A E s (ltAt' i j) Q st:=by
 rw[ltAt'_eq];refine aD (gW ?_);exact aD (xh hx (aD (xh hy (O _ _ _ _ gx gy hk h))))
structure Ip (lo:Nat)(st st':Af):Prop where
 k:kindOf st'=kindOf st
 p:pendingOf st'=pendingOf st
 f:failedOf st'=failedOf st
 a:(arrOf st').Perm (arrOf st)
 low:∀i,i<lo->(arrOf st')[i]?=(arrOf st)[i]?
theorem Ip.rfl' (lo:Nat)(st:Af):Ip lo st st:=⟨rfl,rfl,rfl,.refl _,λ_ _=>rfl⟩
theorem Ip.trans {lo:Nat}{a b c:Af}(h:Ip lo a b)(k:Ip lo b c):Ip lo a c:=⟨k.k.trans h.k,k.p.trans h.p,k.f.trans h.f,k.a.trans h.a,λi hi=>(k.low i hi).trans (h.low i hi)⟩
theorem ip_bub {lo src d:Nat}{st:Af}(h:src<(arrOf st).size)(hd:lo+d<=src):Ip lo st (setArr st (bubble (arrOf st) src d)):=by refine⟨rfl,rfl,rfl,bubble_perm _ _ _,λi hi=>?_⟩;show(bubble (arrOf st) src d)[i]?=_;rw[getElem?_bubble h d ⋯,ar ⋯,ar ⋯]
theorem ip_mir {lo i j:Nat}{st:Af}(hj:j<=(arrOf st).size)(hi:lo<=i):Ip lo st (setArr st (mirror (arrOf st) i j ((j-i)/2))):=by refine⟨rfl,rfl,rfl,mirror_perm _ _ _ _,λk z=>?_⟩;show(mirror (arrOf st) i j ((j-i)/2))[k]?=_;rw[getElem?_mirror_all hj,ar ⋯]
theorem Srt.one (xs:Array Ai)(lo:Nat):Srt kz xs lo (lo+1):=λi j x y a b c _ _=>by lia
theorem Srt.snoc {xs:Array Ai}{lo hi:Nat}{x y:Ai}(h:Srt kz xs lo (hi+1))(hlo:lo<=hi)(hx:xs[hi]?=some x)(hy:xs[hi+1]?=some y)(c:kz x<kz y):Srt kz xs lo (hi+1+1):=by
 intro i j u v a b d z D;by_cases e:j=hi+1
 .subst e;rw[hy]at D;cases D;by_cases e2:i=hi
  .subst e2;rw[hx]at z;cases z;exact c
  .have:=h i hi u x a ⋯ ⋯ z hx;lia
 .exact h i j u v a b ⋯ z D
theorem Dsc.snoc {xs:Array Ai}{lo hi:Nat}{x y:Ai}(h:Dsc kz xs lo (hi+1))(hlo:lo<=hi)(hx:xs[hi]?=some x)(hy:xs[hi+1]?=some y)(c:kz y<kz x):Dsc kz xs lo (hi+1+1):=by
 intro i j u v a b d z D;by_cases e:j=hi+1
 .subst e;rw[hy]at D;cases D;by_cases e2:i=hi
  .subst e2;rw[hx]at z;cases z;exact c
  .have:=h i hi u x a ⋯ ⋯ z hx;lia
 .exact h i j u v a b ⋯ z D
theorem Dsc.turn {xs:Array Ai}{lo n:Nat}(h:Dsc kz xs lo (lo+n))(hs:lo+n<=xs.size):Srt kz (mirror xs lo (lo+n) ((lo+n-lo)/2)) lo (lo+n):=by intro i j u v a b d D z;rw[getElem?_mirror_all hs,ay ⟨⋯,⋯⟩]at D z;exact h _ _ v u ⋯ ⋯ ⋯ z D
theorem xwx {st:Af}{lo n0 nrem:Nat}{f:Nat->Option (Option Nat)×Nat->StateT Af Sem (ForInStep (Option (Option Nat)×Nat))}{Q:Option (Option Nat)×Nat->Af->Prop}
  (hf:∀i n (R:ForInStep (Option (Option Nat)×Nat)->Af->Prop),1<=n->n<nrem->(∀x y,(arrOf st)[lo+n-1]?=some x->(arrOf st)[lo+n]?=some y->(kz y<kz x->R (.done (none,n)) st)/\(¬ kz y<kz x->R (.yield (none,n+1)) st))->wpS M A E s (f i (none,n)) R st)
  (u:Un kz G (arrOf st)) (h0:1<=n0) (hn:n0<=nrem) (hz:lo+nrem<=(arrOf st).size) (sr:Srt kz (arrOf st) lo (lo+n0))
  (h:∀n,n0<=n->n<=nrem->Srt kz (arrOf st) lo (lo+n)->(n=nrem\/∀x y,(arrOf st)[lo+n-1]?=some x->(arrOf st)[lo+n]?=some y->kz y<kz x)->Q (none,n) st) :
  wpS M A E s (forIn [n0:nrem] ((none,n0):Option (Option Nat)×Nat) f) Q st:=by
 refine cz (I:=λi (c:Option (Option Nat)×Nat) st'=>st'=st/\c=(none,i)/\n0<=i/\Srt kz (arrOf st) lo (lo+i)) ?step ?fin ⟨rfl,rfl,aj _,sr⟩
 case fin =>
  rintro c st' ⟨rfl,rfl,x1,x2⟩;have e:max n0 nrem=nrem:=by lia
  rw[e]at x1 x2 ⊢;exact h _ x1 (aj _) x2 (.inl rfl)
 case step =>
  rintro i c st' hi hi2 ⟨rfl,rfl,x1,x2⟩;refine hf _ _ _ ⋯ hi2 λx y ex ey=>⟨λc=>?_,λc=>?_⟩
  .refine h i x1 ⋯ x2 (.inr λx' y' ex' ey'=>?_);rw[ex]at ex';rw[ey]at ey';cases ex';cases ey';exact c
  .have ne:=u.ne_at (show lo+i-1<lo+i by lia) ex ey;refine⟨rfl,rfl,⋯,?_⟩;obtain⟨m,e⟩:∃m,lo+i=m+1:=⟨lo+i-1,⋯⟩;rw[show lo+(i+1)=m+1+1 by lia];rw[e]at x2 ey ex;exact x2.snoc ⋯ (by simpa using ex) ey ⋯
theorem wjm {st:Af}{lo nrem:Nat}{Q:Option Nat->Af->Prop}(O:ux M A E s G kz kd)(hk:kindOf st=kd)(u:Un kz G (arrOf st))(h1:1<=nrem)(hz:lo+nrem<=(arrOf st).size)
  (h:∀n st',1<=n->n<=nrem->Ip lo st st'->Srt kz (arrOf st') lo (lo+n)->Q (some n) st'):wpS M A E s (countRun' lo nrem) Q st:=by
 rw[countRun'_eq];dsimp only;refine aD (xwx (lo:=lo) (n0:=1) (nrem:=nrem) (λi n R n1 n2 hR=>?_) u (aj _) h1 hz (Srt.one _ _) λn n1 n2 sr hor=>?_)
 .obtain⟨x,ex,gx⟩:=u.at_ (i:=lo+n-1) ⋯;obtain⟨y,ey,gy⟩:=u.at_ (i:=lo+n) ⋯;have:=hR x y ex ey;dsimp only;refine aD (qqq O hk ey ex gy gx ?_);dsimp only;by_cases c:kz y<kz x
  .rw[ay (aS c)];exact aK (this.1 c)
  .rw[ar (by simpa using c)];exact aK (this.2 c)
 dsimp only;by_cases c:(n==nrem)=true
 .rw[ay c];exact aK (h n st n1 n2 (Ip.rfl' _ _) sr)
 rw[ar c];have c':n<nrem:=by
  have:¬ n=nrem:=by simpa using c
  lia
 by_cases c2:n>1
 .rw[ay c2];obtain⟨x,ex,gx⟩:=u.at_ (i:=lo) ⋯;obtain⟨y,ey,gy⟩:=u.at_ (i:=lo+n-1) ⋯;refine aD (qqq O hk ex ey gx gy ?_);dsimp only;rw[ay (aS (sr lo (lo+n-1) x y (aj _) ⋯ ⋯ ex ey))];exact aK (h n st n1 n2 (Ip.rfl' _ _) sr)
 rw[ar c2];obtain rfl:n=1:=by lia
 refine aD (iJ (dA ⟨rfl,?_⟩));have fall:=hor.resolve_left ⋯;have d0:Dsc kz (arrOf st) lo (lo+(1+1)):=by obtain⟨x,ex,gx⟩:=u.at_ (i:=lo) ⋯;obtain⟨y,ey,gy⟩:=u.at_ (i:=lo+1) ⋯;exact Dsc.snoc (hi:=lo) (λi j u v a b d _ _=>by lia) (aj _) ex ey (fall x y (by simpa using ex) ey)
 refine aD (fC (cz (I:=λi (c:Option (Option Nat)×Nat×Nat) st'=>st'=st/\c=(none,i,0)/\2<=i/\i<=nrem/\Dsc kz (arrOf st) lo (lo+i))
  (Q:=λc st'=>st'=st/\∃i,c=(none,i,0)/\2<=i/\i<=nrem/\Dsc kz (arrOf st) lo (lo+i)) ?step ?fin ⟨rfl,rfl,aj _,⋯,d0⟩) ?post)
 case fin =>
  rintro c st' ⟨rfl,rfl,x1,x2,x3⟩;exact⟨rfl,_,rfl,x1,x2,x3⟩
 case step =>
  rintro i c st' hi hi2 ⟨rfl,rfl,x1,x2,x3⟩;dsimp only;obtain⟨x,ex,gx⟩:=u.at_ (i:=lo+i-1) ⋯;obtain⟨y,ey,gy⟩:=u.at_ (i:=lo+i) ⋯;refine aD (qqq O hk ey ex gy gx ?_);dsimp only;have ne:=u.ne_at (show lo+i-1<lo+i by lia) ex ey;by_cases c:kz y<kz x
  .rw[ay (aS c)];rw[ar (aW 0)];refine aK ⟨rfl,rfl,⋯,⋯,?_⟩;obtain⟨m,e⟩:∃m,lo+i=m+1:=⟨lo+i-1,⋯⟩;rw[show lo+(i+1)=m+1+1 by lia];rw[e]at x3 ey ex;exact x3.snoc ⋯ (by simpa using ex) ey c
  .rw[ar (by simpa using c)];refine aD (qqq O hk ex ey gx gy ?_);dsimp only;rw[ay (aS (show kz x<kz y by lia))];exact aK ⟨rfl,i,rfl,x1,x2,x3⟩
 case post =>
  rintro c st' ⟨rfl,i,rfl,x1,x2,x3⟩;dsimp only;rw[ar (aW 0)];refine aD ?_;rw[reverseSlice'_eq];refine gk ?_;have ip:=ip_mir (lo:=lo) (i:=lo) (j:=lo+i) (st:=st') ⋯ (aj _);have sr2:Srt kz (arrOf (setArr st' (mirror (arrOf st') lo (lo+i) ((lo+i-lo)/2)))) lo (lo+i):=x3.turn ⋯;generalize setArr st' (mirror (arrOf st') lo (lo+i) ((lo+i-lo)/2))=st2 at ip sr2 ⊢;have u2:=u.perm ip.a;have z2:(arrOf st2).size=(arrOf st').size:=ip.a.size_eq;refine aD (xwx (lo:=lo) (n0:=i) (nrem:=nrem) (λi n R n1 n2 hR=>?_) u2 ⋯ x2 ⋯ sr2 λn n1 n2 sr hor=>?_)
  .obtain⟨x,ex,gx⟩:=u2.at_ (i:=lo+n-1) ⋯;obtain⟨y,ey,gy⟩:=u2.at_ (i:=lo+n) ⋯;have:=hR x y ex ey;dsimp only;refine aD (qqq O (ip.k.trans hk) ey ex gy gx ?_);dsimp only;by_cases c:kz y<kz x
   .rw[ay (aS c)];exact aK (this.1 c)
   .rw[ar (by simpa using c)];exact aK (this.2 c)
  exact aK (h n st2 ⋯ n2 ip sr)
theorem xk2 {st:Af}{lo n ok:Nat}{Q:Bool->Af->Prop}(O:ux M A E s G kz kd)(hk:kindOf st=kd)(u:Un kz G (arrOf st))(h1:1<=ok)(hok:ok<=n)(hz:lo+n<=(arrOf st).size)(sr:Srt kz (arrOf st) lo (lo+ok))
  (h:∀st',Ip lo st st'->Srt kz (arrOf st') lo (lo+n)->Q true st'):wpS M A E s (binarySort' lo n ok) Q st:=by
 rw[binarySort'_eq];have em:max ok 1=ok:=by lia
 rw[em];refine aD (fC (cz (I:=λk c st'=>c=(none,())/\Ip lo st st'/\Srt kz (arrOf st') lo (lo+k)) (Q:=λc st'=>c=(none,())/\Ip lo st st'/\Srt kz (arrOf st') lo (lo+n)) ?step ?fin ⟨rfl,Ip.rfl' _ _,sr⟩) ?post)
 case fin =>
  rintro c st' ⟨rfl,x1,x2⟩;rw[show max ok n=n by lia]at x2;exact⟨rfl,x1,x2⟩
 case post =>
  rintro c st' ⟨rfl,x1,x2⟩;exact aK (h st' x1 x2)
 case step =>
  rintro k c st1 hk1 hk2 ⟨rfl,ip,s1⟩;dsimp only;have u1:=u.perm ip.a;have z1:(arrOf st1).size=(arrOf st).size:=ip.a.size_eq;obtain⟨x,ex,gx⟩:=u1.at_ (i:=lo+k) ⋯;refine aD (fC (cz (I:=λi (c:Option Bool×Nat×Nat) st'=>st'=st1/\c.1=none/\c.2.1<=c.2.2/\c.2.2<=k/\c.2.2-c.2.1<=k-i/\(∀j y,j<c.2.1->(arrOf st1)[lo+j]?=some y->kz y<kz x)/\(∀j y,c.2.2<=j->j<k->(arrOf st1)[lo+j]?=some y->kz x<kz y))
   (Q:=λc st'=>st'=st1/\∃l r,c=(none,l,r)/\l<=k/\(∀j y,j<l->(arrOf st1)[lo+j]?=some y->kz y<kz x)/\(∀j y,l<=j->j<k->(arrOf st1)[lo+j]?=some y->kz x<kz y)) ?step2 ?fin2 ⟨rfl,rfl,aY _,aj _,by dsimp only;lia,λj y hj=>by dsimp only at hj;lia,λj y a b=>by dsimp only at a;lia⟩) ?post2)
  case fin2 =>
   rintro⟨r,a,b⟩ st' ⟨rfl,hr,y1,y2,y3,y4,y5⟩;dsimp only at hr y1 y2 y3 y4 y5;subst hr;have:a=b:=by lia
   subst this;exact⟨rfl,_,_,rfl,y2,y4,y5⟩
  case step2 =>
   rintro i ⟨r,a,b⟩ st' _ hi ⟨rfl,hr,y1,y2,y3,y4,y5⟩;dsimp only at hr y1 y2 y3 y4 y5 ⊢;subst hr;by_cases c:a>=b
   .rw[ay c];have:a=b:=by lia
    subst this;exact aK ⟨rfl,_,_,rfl,y2,y4,y5⟩
   rw[ar c];obtain⟨y,ey,gy⟩:=u1.at_ (i:=lo+(a+b)/2) ⋯;refine aD (qqq O (ip.k.trans hk) ex ey gx gy ?_);dsimp only;have ne:=u1.ne_at (show lo+(a+b)/2<lo+k by lia) ey ex;have mon:∀j j' z z',j<=j'->j'<k->(arrOf st')[lo+j]?=some z->(arrOf st')[lo+j']?=some z'->kz z<=kz z':=λj j' z z' h1 h2 e1 e2=>by
    rcases bo j j' with c|c
    .exact eK (s1 (lo+j) (lo+j') z z' ⋯ ⋯ ⋯ e1 e2)
    .obtain rfl:j=j':=by lia
     rw[e1]at e2;cases e2;exact cE _
   by_cases d:kz x<kz y
   .rw[ay (aS d)];refine aK ⟨rfl,rfl,by dsimp only;lia,by dsimp only;lia,by dsimp only;lia,y4,λj z hj hj2 ez=>?_⟩;have:=mon _ _ _ _ hj hj2 ey ez;lia
   .rw[ar (by simpa using d)];refine aK ⟨rfl,rfl,by dsimp only;lia,y2,by dsimp only;lia,λj z hj ez=>?_,y5⟩;dsimp only at hj;have:=mon j ((a+b)/2) _ _ ⋯ ⋯ ez ey;lia
  case post2 =>
   rintro c st' ⟨rfl,l,r,rfl,hl,b1,b2⟩;dsimp only;refine aD ?_;rw[moveDown'_eq];refine gk ?_;have ed:lo+k-(lo+l)=k-l:=by lia
   rw[ed];refine aK ⟨rfl,ip.trans (ip_bub ⋯ ⋯),?_⟩;show Srt kz (bubble (arrOf st') (lo+k) (k-l)) lo (lo+(k+1));intro i j p q h1 h2 h3 ep eq;rw[getElem?_bubble ⋯ (k-l) ⋯]at ep eq;have e4:lo+k-(k-l)=lo+l:=by lia
   rw[e4]at ep eq;by_cases c1:i=lo+l
   .rw[ay c1,ex]at ep;cases ep;rw[ar ⋯,ay ⟨⋯,⋯⟩]at eq;exact b2 (j-1-lo) q ⋯ ⋯ (by rw[<-eq];congr 1;lia)
   .rw[ar c1]at ep;by_cases c2:j=lo+l
    .rw[ay c2,ex]at eq;cases eq;rw[ar ⋯]at ep;exact b1 (i-lo) p ⋯ (by rw[<-ep];congr 1;lia)
    .rw[ar c2]at eq;by_cases c3:lo+l<i/\i<=lo+k
     .rw[ay c3]at ep;rw[ay ⟨⋯,⋯⟩]at eq;exact s1 (i-1) (j-1) p q ⋯ ⋯ ⋯ ep eq
     .rw[ar c3]at ep;by_cases c4:lo+l<j/\j<=lo+k
      .rw[ay c4]at eq;have h5:=b1 (i-lo) p ⋯ (by rw[<-ep];congr 1;lia);have h6:=b2 (j-1-lo) q ⋯ ⋯ (by rw[<-eq];congr 1;lia);lia
      .rw[ar c4]at eq;exact s1 i j p q h1 h2 ⋯ ep eq
end
end Tm
namespace Tm
open PySem PyProof.Rows
local macro_rules | `(tactic| walk_at "tim at")=>do
 let n:=Lean.mkIdent (Lean.mkPrivateNameCore `PySem.Builtin.List.W1All `PySem.Builtin.mergeAt);`(tactic| unfold $n:ident)
section
variable {kz:Ai->Int}{G:Ai->Prop}
def Pend (kz:Ai->Int):List (Nat×Nat)->List (List Ai)->Nat->Prop
 |[],[],_=>True
 |q::ps,r::rs,lo=>q.1=lo/\q.2=r.length/\1<=r.length/\SL kz r/\Pend kz ps rs (lo+r.length)
 |[],_::_,_=>False
 |_::_,[],_=>False
def pr (q:Nat×Nat×Nat):Nat×Nat:=(q.1,q.2.1)
theorem Pend.len:∀ {ps:List (Nat×Nat)} {rs:List (List Ai)} {lo:Nat},Pend kz ps rs lo->ps.length=rs.length
 |[],[],_,_=>rfl
 |_::ps,_::rs,_,h=>by simp[Pend.len h.2.2.2.2]
 |[],_::_,_,h=>h.elim
 |_::_,[],_,h=>h.elim
theorem Pend.size:∀ {ps:List (Nat×Nat)} {rs:List (List Ai)} {lo:Nat},Pend kz ps rs lo->rs.length<=rs.flatten.length
 |[],[],_,_=>by simp
 |_::ps,r::rs,_,h=>by have:=Pend.size h.2.2.2.2;have:=h.2.2.1;simp only[dO,ao,aP];lia
 |[],_::_,_,h=>h.elim
 |_::_,[],_,h=>h.elim
theorem Pend.push:∀ {ps:List (Nat×Nat)} {rs:List (List Ai)} {lo:Nat} {r:List Ai} {q:Nat×Nat},Pend kz ps rs lo->q.1=lo+rs.flatten.length->q.2=r.length->1<=r.length->SL kz r->Pend kz (ps++[q]) (rs++[r]) lo
 |[],[],_,_,_,_,a,b,c,d=>⟨by simpa using a,b,c,d,trivial⟩
 |_::ps,r'::rs,_,_,_,h,a,b,c,d=>⟨h.1,h.2.1,h.2.2.1,h.2.2.2.1,Pend.push h.2.2.2.2 (by simp only[dO,ao]at a;lia) b c d⟩
 |[],_::_,_,_,_,h,_,_,_,_=>h.elim
 |_::_,[],_,_,_,h,_,_,_,_=>h.elim
theorem Pend.split:∀(i:Nat) {p:List (Nat×Nat×Nat)} {rs:List (List Ai)} {lo:Nat},Pend kz (p.map pr) rs lo->i+1<p.length->∃p1 q1 q2 p2 rs1 RA RB rs2,p=p1++q1::q2::p2/\rs=rs1++RA::RB::rs2/\p1.length=i/\rs1.length=i/\q1.1=lo+rs1.flatten.length/\q1.2.1=RA.length/\q2.1=lo+rs1.flatten.length+RA.length/\q2.2.1=RB.length /\
  1<=RA.length/\1<=RB.length/\SL kz RA/\SL kz RB/\∀(RN:List Ai) (q:Nat×Nat×Nat),q.1=q1.1->q.2.1=RN.length->RN.length=RA.length+RB.length->SL kz RN->Pend kz ((p1++q::p2).map pr) (rs1++RN::rs2) lo
 |0,q1::q2::p2,RA::RB::rs2,lo,h,_=>by
  obtain⟨a1,a2,a3,a4,b1,b2,b3,b4,r⟩:=h;refine⟨[],q1,q2,p2,[],RA,RB,rs2,rfl,rfl,rfl,rfl,by simpa [pr] using a1,a2,by simpa [pr] using b1,b2,a3,b3,a4,b4,λRN q e1 e2 e3 e4=>⟨?_,e2,⋯,e4,?_⟩⟩
  .show q.1=lo;rw[e1];exact a1
  .rw[e3,<-kC];exact r
 |i+1,q0::p,r0::rs,lo,h,hi=>by obtain⟨a1,a2,a3,a4,r⟩:=h;obtain⟨p1,q1,q2,p2,rs1,RA,RB,rs2,e1,e2,e3,e4,c1,c2,c3,c4,c5,c6,c7,c8,c9⟩:=Pend.split i r (by simpa using hi);refine⟨q0::p1,q1,q2,p2,r0::rs1,RA,RB,rs2,by rw[e1];rfl,by rw[e2];rfl,by simp[e3],by simp[e4],by rw[c1];simp only[dO,ao];lia,c2,by rw[c3];simp only[dO,ao];lia,c4,c5,c6,c7,c8,λRN q z1 z2 z3 z4=>?_⟩;exact⟨a1,a2,a3,a4,c9 RN q z1 z2 z3 z4⟩
 |0,[],_,_,_,hi=>by simp at hi
 |0,[_],_,_,_,hi=>by simp at hi
 |0,_::_::_,[],_,h,_=>h.elim
 |0,_::_::_,[_],_,h,_=>h.2.2.2.2.elim
 |i+1,[],_,_,_,hi=>by simp at hi
 |i+1,_::_,[],_,h,_=>h.elim
theorem Z0 {xs:Array Ai}{P R S:List Ai}(h:xs.toList=P++(R++S)){i:Nat}(hi:i<R.length):xs[P.length+i]?=R[i]?:=by rw[<-aJ,h,aG ⋯,cX,aT hi]
theorem wvz {g:Array Ai->Ai×Nat->Array Ai}{sa:Nat}(hg:∀xs p j,g xs (p,j)=xs.setIfInBounds (sa+j) p):∀(l:List Ai) (k:Nat) (xs:Array Ai),sa+k+l.length<=xs.size->∀i:Nat,((l.zipIdx k).foldl g xs)[i]?=if sa+k<=i/\i<sa+k+l.length then l[i-(sa+k)]? else xs[i]?
 |[],k,xs,h,i=>by rw[ar (by rw[dS];lia)];rfl
 |p::l,k,xs,h,i=>by
  simp only[aP]at h;rw[List.zipIdx_cons,List.foldl_cons,hg,wvz hg l (k+1) _ (by rw[i7];lia)];simp only[aP];by_cases c1:sa+(k+1)<=i/\i<sa+(k+1)+l.length
  .rw[ay c1,ay ⟨⋯,⋯⟩];obtain⟨d,hd⟩:∃d,i-(sa+k)=d+1:=⟨i-(sa+k)-1,⋯⟩;rw[hd,jB];congr 1;lia
  .rw[ar c1];by_cases c2:i=sa+k
   .subst c2;rw[ay ⟨aj _,⋯⟩,ir,ig,ay rfl,ay ⋯];rfl
   .rw[ar ⋯,ig,ar ⋯]
theorem xjz {g:Array Ai->Ai×Nat->Array Ai}{sa:Nat}(hg:∀xs p j,g xs (p,j)=xs.setIfInBounds (sa+j) p){xs:Array Ai}{P R S l:List Ai}(h:xs.toList=P++(R++S))(hs:P.length=sa)(hl:l.length=R.length):(l.zipIdx.foldl g xs).toList=P++(l++S):=by
 have z:xs.size=P.length+(R.length+S.length):=by rw[<-aV,h];simp
 refine bY λi=>?_;rw[aJ,wvz hg l 0 xs ⋯];by_cases c1:i<P.length
 .rw[ar ⋯,<-aJ,h,aT c1,aT c1]
 .rw[aG ⋯];by_cases c2:i-P.length<l.length
  .rw[ay ⟨⋯,⋯⟩,aT c2];congr 1;lia
  .rw[ar ⋯,aG ⋯,<-aJ,h,aG ⋯,aG ⋯,hl]
theorem wk0 {xs:Array Ai}{P R S:List Ai}{i j:Nat}(h:xs.toList=P++(R++S))(hi:i=P.length)(hj:j=P.length+R.length):(xs.extract i j).toList=R:=by subst hi hj;rw[qjg,h,List.drop_left,cX,List.take_left]
theorem SL.app {X Y:List Ai}(hx:SL kz X)(hy:SL kz Y)(h:∀x∈X,∀y∈Y,kz x<kz y):SL kz (X++Y):=bj.mpr ⟨hx,hy,h⟩
theorem SL.parts {X Y:List Ai}(h:SL kz (X++Y)):SL kz X/\SL kz Y/\∀x∈X,∀y∈Y,kz x<kz y:=bj.mp h
end
section
variable {M:Model}{A:Ae}{E:Ag->Ab->Prop}{s:Ab}{G:Ai->Prop}{kz:Ai->Int}{kd:SortKind}
theorem wvy {left:Bool}{key:Ai}{arr:Array Ai}{n hint base:Nat}{P R S:List Ai}{st:Af}{Q:Option Nat->Af->Prop}(O:ux M A E s G kz kd)(hk:kindOf st=kd)(hG:G key)
  (hT:arr.toList=P++(R++S)) (hb:base=P.length) (hn:n=R.length) (sl:SL kz R) (hg:∀x∈R,G x) (hh:hint<n)
  (h:∀k,k<=R.length->(∀x∈R.take k,zr kz left key x=true)->(∀x∈R.drop k,zr kz left key x=false)->Q (some k) st) :
  wpS M A E s (W7 left key arr base n hint) Q st:=by
 subst hb hn;refine wkr O hk hG (λi j x y h1 h2 h3 ex ey=>?_) (λi h1 h2=>?_) hh λk k1 Z W=>h k k1 (λx F=>?_) λx F=>?_
 .have z:=Z0 hT (i:=i-P.length) ⋯;have U:=Z0 hT (i:=j-P.length) ⋯;rw[show P.length+(i-P.length)=i by lia,ex]at z;rw[show P.length+(j-P.length)=j by lia,ey]at U;exact sl.lt ⋯ z.symm U.symm
 .have z:=Z0 hT (i:=i-P.length) ⋯;rw[show P.length+(i-P.length)=i by lia]at z;have hi:i-P.length<R.length:=by lia
  rw[ae hi]at z;exact⟨_,z,hg _ (bD _)⟩
 .obtain⟨j,J,D⟩:=Wv F;exact Z j x J (by rw[Z0 hT ⋯];exact D)
 .obtain⟨j,J,D⟩:=Wu F;have L:j<R.length:=(al.mp D).1;exact W j x J L (by rw[Z0 hT L];exact D)
theorem wqq {st:Af}{i:Nat}{rs:List (List Ai)}{S:List Ai}{Q:Bool->Af->Prop}(O:ux M A E s G kz kd)(hk:kindOf st=kd)(hf:failedOf st=none)(u:Un kz G (arrOf st))
  (hT:(arrOf st).toList=rs.flatten++S) (Pd:Pend kz ((pendingOf st).toList.map pr) rs 0) (hi:i+1<rs.length)
  (h:∀st' rs',kindOf st'=kd->failedOf st'=none->(arrOf st').toList=rs'.flatten++S->rs'.flatten.Perm rs.flatten->Pend kz ((pendingOf st').toList.map pr) rs' 0->rs'.length+1=rs.length->Q true st'):wpS M A E s (mergeAt' i) Q st:=by
 have bs:(pendingOf st).size=rs.length:=by have:=Pd.len;simpa using this
 obtain⟨p1,q1,q2,p2,an,D,L,ab,e1,e2,e3,e4,c1,c2,c3,c4,c5,c6,c7,c8,c9⟩:=Pd.split i (by simp;lia);obtain⟨Z,na,pw⟩:=q1;obtain⟨W,nb,bc⟩:=q2;dsimp only at c1 c2 c3 c4 c9;rw[cN]at c1 c3;have g1:(pendingOf st)[i]?=some (Z,na,pw):=by rw[<-aJ,e1,aG ⋯,e3,ir];rfl
 have g2:(pendingOf st)[i+1]?=some (W,nb,bc):=by rw[<-aJ,e1,aG ⋯,e3,cX];rfl
 have g3:∀v,(((pendingOf st).setIfInBounds i v).eraseIdxIfInBounds (i+1)).toList=p1++v::p2:=λv=>by rw[Array.toList_eraseIdxIfInBounds,Array.toList_setIfInBounds,e1];rw[List.set_append_right _ _ ⋯,e3,ir,List.set_cons_zero,List.eraseIdx_append_of_length_le ⋯,e3,cX];rfl
 have ad:(arrOf st).toList=an.flatten++(D++(L++(ab.flatten++S))):=by rw[hT,e2];simp
 have ax:(arrOf st).toList=(an.flatten++D)++(L++(ab.flatten++S)):=by rw[ad];simp
 have ne:∀x∈D,∀y∈L,kz x≠kz y:=by have:=u.ne;rw[ad]at this;have:=(bj.mp this).2.1;have:=(bj.mp this).2.2;exactλx J y U=>this x J y (cy _ U)
 have gA:∀x∈D,G x:=λx J=>u.g x (by rw[ad];simp[J]);have gB:∀x∈L,G x:=λx J=>u.g x (by rw[ad];simp[J]);unfold mergeAt';walk_at "tim at";refine aD (gW ?_);rw[g1,g2];dsimp only;refine aD (m:=set _) (show wpS M A E s (set _) _ st from ?_);refine gk (f:=λ_=>SortSt.mk' (kindOf st) (arrOf st) (((pendingOf st).setIfInBounds i (Z,na+nb,pw)).eraseIdxIfInBounds (i+1)) (gallopOf st) (failedOf st)) ?_;have F:∀(st':Af) (RN:List Ai),kindOf st'=kd->failedOf st'=none->(arrOf st').toList=an.flatten++(RN++(ab.flatten++S))->(pendingOf st').toList=p1++(Z,na+nb,pw)::p2->RN.Perm (D++L)->SL kz RN->Q true st':=λst' RN k1 k2 k3 k4 k5 k6=>by
  refine h st' (an++RN::ab) k1 k2 (by rw[k3];simp) ?_ ?_ (by rw[e2];simp only[ao,aP];lia)
  .rw[e2];simp only[dX,dO];refine dv _ ?_;rw[<-aZ];exact di _ k5
  .rw[k4];refine c9 RN _ rfl ?_ (by rw[k5.length_eq,ao]) k6;dsimp only;rw[k5.length_eq,ao,c2,c4]
 generalize hst1:SortSt.mk' (kindOf st) (arrOf st) (((pendingOf st).setIfInBounds i (Z,na+nb,pw)).eraseIdxIfInBounds (i+1)) (gallopOf st) (failedOf st)=st1;have d1:kindOf st1=kd:=by rw[<-hst1];exact hk
 have d2:failedOf st1=none:=by rw[<-hst1];exact hf
 have d3:arrOf st1=arrOf st:=by rw[<-hst1]
 have d4:(pendingOf st1).toList=p1++(Z,na+nb,pw)::p2:=by rw[<-hst1];exact g3 _
 clear hst1;obtain⟨y0,ap,rfl⟩:∃y0 ap,L=y0::ap:=by
  cases L with
  |nil=>simp at c6
  |cons a b=>exact⟨a,b,rfl⟩
 have ey:(arrOf st)[W]?=some y0:=by have:=Z0 ax (i:=0) (by simp);rw[gJ,ao]at this;rw[c3,this];rfl
 have m0:y0∈y0::ap:=.head _;refine aD (xh ey ?_);refine aD (wvy O d1 (gB y0 m0) ad c1 c2 c7 gA ⋯ λk k1 k2 k3=>?_);dsimp only;have a5:∀y∈y0::ap,kz y0<=kz y:=λy U=>by
  rcases aM.mp U with rfl|z
  .exact cE _
  .exact eK ((gm.mp c8).1 y z)
 by_cases z1:(na-k==0)=true
 .rw[ay z1];have e:na-k=0:=by simpa using z1
  refine aK (F st1 (D++y0::ap) d1 d2 (by rw[d3,ad];simp) d4 (.refl _) (c7.app c8 λx J y U=>?_));have:=ah_f (k2 x (by rw[dh ⋯];exact J));have:=a5 y U;have:=ne x J y0 m0;lia
 rw[ar z1];have bq:k<na:=by
  have:¬ na-k=0:=by simpa using z1
  lia
 have as:D.length-1<D.length:=by lia
 have ex:(arrOf st)[Z+k+(na-k)-1]?=some D[D.length-1]:=by have:=Z0 ad (i:=D.length-1) as;rw[ae as]at this;rw[<-this];congr 1;lia
 have mx:D[D.length-1]∈D:=bD _;have a7:∀x∈D,kz x<=kz D[D.length-1]:=λx J=>by obtain⟨j,hj⟩:=bX J;have bx:j<D.length:=(al.mp hj).1;exact c7.le (show j<=D.length-1 by lia) hj (ae as)
 refine aD (xh ex ?_);refine aD (wvy O d1 (gA _ mx) ax (by rw[c3,ao]) c4 c8 gB ⋯ λn n1 n2 n3=>?_);dsimp only;by_cases z2:(n==0)=true
 .rw[ay z2];have e:n=0:=by simpa using z2
  subst e;refine aK (F st1 (D++y0::ap) d1 d2 (by rw[d3,ad];simp) d4 (.refl _) (c7.app c8 λx J y U=>?_));have:=qku (n3 y (by simpa using U));have:=a7 x J;have:=ne x J y U;lia
 rw[ar z2];have bm:1<=n:=by
  have:¬ n=0:=by simpa using z2
  lia
 generalize hRB:y0::ap=L at *;have tA:D=D.take k++D.drop k:=(du k D).symm;have tB:L=L.take n++L.drop n:=(du n L).symm;have a8:(arrOf st).toList=(an.flatten++D.take k)++(D.drop k++(L++(ab.flatten++S))):=by
  rw[ad];have e:D++(L++(ab.flatten++S))=(D.take k++D.drop k)++(L++(ab.flatten++S)):=by rw[<-tA]
  rw[e];simp only[aZ]
 have bl:(arrOf st).toList=(an.flatten++D)++(L.take n++(L.drop n++(ab.flatten++S))):=by
  rw[ax];have e:L++(ab.flatten++S)=(L.take n++L.drop n)++(ab.flatten++S):=by rw[<-tB]
  rw[e];simp only[aZ]
 have bk:(arrOf st).toList=(an.flatten++D.take k)++((D.drop k++L.take n)++(L.drop n++(ab.flatten++S))):=by
  rw[a8];have e:L++(ab.flatten++S)=(L.take n++L.drop n)++(ab.flatten++S):=by rw[<-tB]
  rw[e];simp only[aZ]
 have xx:((arrOf st).extract (Z+k) W).toList=D.drop k:=wk0 a8 (by simp only[ao,be,cw];lia) (by simp only[ao,be,cw];lia);have yy:((arrOf st).extract W (W+n)).toList=L.take n:=wk0 bl (by simp only[ao,be,cw];lia) (by simp only[ao,be,cw];lia);have sA:SL kz (D.take k++D.drop k):=by rw[<-tA];exact c7
 have sB:SL kz (L.take n++L.drop n):=by rw[<-tB];exact c8
 obtain⟨a1,a2,a3⟩:=sA.parts;obtain⟨b1,b2,b3⟩:=sB.parts;have mg:Mg kz G ((arrOf st).extract (Z+k) W) ((arrOf st).extract W (W+n)):=by
  refine⟨by rw[xx];exact a2,by rw[yy];exact b1,?_,?_,?_⟩
  .rw[xx,yy];exactλx J y U=>ne x (cW J) y (dH U)
  .rw[xx];exactλx J=>gA x (cW J)
  .rw[yy];exactλx J=>gB x (dH J)
 have xz:((arrOf st).extract (Z+k) W).size=D.length-k:=by rw[<-aV,xx,cw]
 have yz:((arrOf st).extract W (W+n)).size=n:=by rw[<-aV,yy,be];lia
 have h0:∀y,((arrOf st).extract W (W+n))[0]?=some y->∀x∈((arrOf st).extract (Z+k) W).toList,kz y<kz x:=λy ey x J=>by rw[<-aJ,yy,<-hRB]at ey;rw[xx]at J;obtain⟨n',rfl⟩:∃n',n=n'+1:=⟨n-1,⋯⟩;rw[List.take_succ_cons]at ey;cases ey;exact wuu (k3 x J)
 have hl:∀x,((arrOf st).extract (Z+k) W)[((arrOf st).extract (Z+k) W).size-1]?=some x->∀y∈((arrOf st).extract W (W+n)).toList,kz y<kz x:=λx ex y U=>by rw[<-aJ,xx,xz,dC,show k+(D.length-k-1)=D.length-1 by lia,ae as]at ex;cases ex;rw[yy]at U;exact ah_t (n2 y U)
 have a9:∀(r:Array Ai) (ac:Af),SameSt st1 ac->Jr kz ((arrOf st).extract (Z+k) W) ((arrOf st).extract W (W+n)) r->wpS M A E s (do
   modify λs=>setArr s (List.foldl (λa (x:Ai×Nat)=>a.setIfInBounds (Z+k+x.2) x.1) (arrOf s) r.toList.zipIdx)
   let s <-get
   pure (failedOf s).isNone) Q ac:=λr ac S2 ⟨r1,r2⟩=>by
  rw[xx,yy]at r2;have bd:(arrOf ac).toList=(an.flatten++D.take k)++((D.drop k++L.take n)++(L.drop n++(ab.flatten++S))):=by rw[S2.2.1,d3];exact bk
  have wr:=xjz (g:=λa (x:Ai×Nat)=>a.setIfInBounds (Z+k+x.2) x.1) (λ_ _ _=>rfl) (l:=r.toList) bd (by simp only[ao,be,cw];lia) r2.length_eq;refine aD (gk ?_);refine aD (gW (aK ?_));have f9:failedOf (setArr ac (List.foldl (λa (x:Ai×Nat)=>a.setIfInBounds (Z+k+x.2) x.1) (arrOf ac) r.toList.zipIdx))=none:=S2.2.2.2.trans d2;rw[f9];refine F _ (D.take k++(r.toList++L.drop n)) (S2.1.trans d1) f9 ?_ (by show(pendingOf ac).toList=_;rw[S2.2.2.1,d4]) ?_ ?_
  .show(List.foldl _ (arrOf ac) r.toList.zipIdx).toList=_;rw[wr];simp
  .conv=>rhs;rw[tA,tB]
   rw[aZ];refine dv _ ?_;rw[<-aZ];exact di _ r2
  .refine a1.app (r1.app b2 λx J y U=>?_) λx J y U=>?_
   .rcases aX.mp (r2.mem_iff.mp J) with J|J
    .have:=qku (n3 y U);have:=a7 x (cW J);have:=ne x (cW J) y (cW U);lia
    .exact b3 x J y U
   .have a6:∀y∈L,kz x<kz y:=λy U=>by have:=ah_f (k2 x J);have:=a5 y U;have:=ne x (dH J) y0 (by rw[<-hRB];exact .head _);lia
    rcases aX.mp U with U|U
    .rcases aX.mp (r2.mem_iff.mp U) with U|U
     .exact a3 x J y U
     .exact a6 y (dH U)
    .exact a6 y (cW U)
 have a4:1<=((arrOf st).extract (Z+k) W).size:=by rw[xz];lia
 have a0:1<=((arrOf st).extract W (W+n)).size:=by rw[yz];lia
 by_cases z3:na-k<=n
 .rw[ay z3];refine aD (qu1 O d1 mg a4 a0 (λx y ex ey=>?_) hl λr ac S2 Fn=>a9 r ac S2 Fn);rw[<-aJ]at ex;exact h0 y ey x (aF ex)
 .rw[ar z3];exact aD (qur O d1 mg a4 a0 h0 hl λr ac S2 Fn=>a9 r ac S2 Fn)
end
end Tm
namespace Tm
open PySem PyProof.Rows
section
variable {M:Model}{A:Ae}{E:Ag->Ab->Prop}{s:Ab}{G:Ai->Prop}{kz:Ai->Int}{kd:SortKind}
structure Wt (kz:Ai->Int)(kd:SortKind)(a₀:Array Ai)(st:Af)(rs:List (List Ai))(S:List Ai):Prop where
 k:kindOf st=kd
 f:failedOf st=none
 a:(arrOf st).Perm a₀
 t:(arrOf st).toList=rs.flatten++S
 p:Pend kz ((pendingOf st).toList.map pr) rs 0
theorem Wt.size {a₀:Array Ai}{st:Af}{rs:List (List Ai)}{S:List Ai}(w:Wt kz kd a₀ st rs S):rs.flatten.length+S.length=a₀.size:=by rw[<-w.a.size_eq,<-aV,w.t,ao]
theorem Wt.pl {a₀:Array Ai}{st:Af}{rs:List (List Ai)}{S:List Ai}(w:Wt kz kd a₀ st rs S):(pendingOf st).size=rs.length:=by have:=w.p.len;simpa using this
theorem Wt.ip {a₀:Array Ai}{st st':Af}{rs:List (List Ai)}{S:List Ai}{lo:Nat}(w:Wt kz kd a₀ st rs S)(hlo:lo=rs.flatten.length)(i:Ip lo st st'):∃S',Wt kz kd a₀ st' rs S'/\S'.length=S.length:=by
 subst hlo;have e:(arrOf st').toList=rs.flatten++(arrOf st').toList.drop rs.flatten.length:=by
  conv=>lhs;rw[<-du rs.flatten.length (arrOf st').toList]
  congr 1;refine bY λj=>?_;rw[ee];split
  .rename_i h;rw[aJ,i.low j h,<-aJ,w.t,aT h]
  .rename_i h;rw[aQ ⋯]
 refine⟨_,⟨i.k.trans w.k,i.f.trans w.f,i.a.trans w.a,e,by rw[i.p];exact w.p⟩,?_⟩;have z:=i.a.size_eq;have h1:=bV List.length w.t;rw[ao,aV]at h1;rw[cw,aV];lia
theorem xx9 {xs:Array Ai}{P S:List Ai}{n:Nat}(h:xs.toList=P++S)(sr:Srt kz xs P.length (P.length+n))(hn:n<=S.length):SL kz (S.take n):=by
 refine bg.mpr λi j hi D J=>?_;have F:=hi;have z:=D;rw[be]at F z;refine sr (P.length+i) (P.length+j) _ _ ⋯ ⋯ ⋯ ?_ ?_
 .rw[<-aJ,h,aG ⋯,cX,List.getElem_take,ae]
 .rw[<-aJ,h,aG ⋯,cX,List.getElem_take,ae]
theorem Wt.push {a₀:Array Ai}{st:Af}{rs:List (List Ai)}{S:List Ai}{lo n:Nat}(w:Wt kz kd a₀ st rs S)(hlo:lo=rs.flatten.length)(h1:1<=n)(hn:n<=S.length)(sl:SL kz (S.take n)):Wt kz kd a₀ (setPending st ((pendingOf st).push (lo,n,0))) (rs++[S.take n]) (S.drop n):=by
 have z:(S.take n).length=n:=by rw[be];lia
 refine⟨w.k,w.f,w.a,?_,?_⟩
 .show(arrOf st).toList=_;rw[w.t];simp
 .show Pend kz (((pendingOf st).push (lo,n,0)).toList.map pr) _ 0;rw[dM,aR];exact w.p.push (by rw[cN];exact hlo) z.symm ⋯ sl
theorem Wt.pow {a₀:Array Ai}{st:Af}{rs:List (List Ai)}{S:List Ai}{i pw:Nat}(w:Wt kz kd a₀ st rs S):Wt kz kd a₀ (setPending st ((pendingOf st).modify i λx=>(x.1,x.2.1,pw))) rs S:=by
 refine⟨w.k,w.f,w.a,w.t,?_⟩;show Pend kz (((pendingOf st).modify i λx=>(x.1,x.2.1,pw)).toList.map pr) rs 0;have e:((pendingOf st).modify i λx=>(x.1,x.2.1,pw)).toList.map pr=(pendingOf st).toList.map pr:=by
  refine bY λj=>?_;rw[aw,aw,aJ,aJ,Array.getElem?_modify];split
  .cases(pendingOf st)[j]? <;> rfl
  .rfl
 rw[e];exact w.p
theorem Yh {a₀:Array Ai}{st:Af}{Q:Unit->Af->Prop}(O:ux M A E s G kz kd)(u:Un kz G a₀)(hk:kindOf st=kd)(hf:failedOf st=none)(ha:arrOf st=a₀)(hp:pendingOf st=#[])
  (h:∀st',(arrOf st').Perm a₀->failedOf st'=none->SL kz (arrOf st').toList->Q () st'):wpS M A E s sortRuns' Q st:=by
 rw[sortRuns'_eq];dsimp only;refine aD (gW ?_);rw[ha];have w0:Wt kz kd a₀ st [] a₀.toList:=⟨hk,hf,by rw[ha],by rw[ha];rfl,by rw[hp];trivial⟩;have mrg:∀(st1:Af) (rs:List (List Ai)) (S:List Ai) (i:Nat) (R:Bool->Af->Prop),Wt kz kd a₀ st1 rs S->i+1<rs.length->(∀st' rs',Wt kz kd a₀ st' rs' S->rs'.flatten.length=rs.flatten.length->rs'.length+1=rs.length->R true st')->wpS M A E s (mergeAt' i) R st1:=λst1 rs S i R w hi hR =>
  wqq O w.k w.f (u.perm w.a) w.t w.p hi λst' rs' k1 k2 k3 k4 k5 k6=>hR st' rs' ⟨k1,k2,by
   refine Array.Perm.trans (eo.mpr ?_) w.a
   rw[k3,w.t]
   exact di _ k4,k3,k5⟩ k4.length_eq k6
 generalize minRun' a₀.size a₀.size 0=mr;have lp:∀(st1:Af) (rs:List (List Ai)) (S:List Ai) (z pw:Nat) (R:Option Unit×Unit->Af->Prop),Wt kz kd a₀ st1 rs S->(∀st' rs',Wt kz kd a₀ st' rs' S->rs'.flatten.length=rs.flatten.length->R (none,()) st') ->
   ∀f:Nat->Option Unit×Unit->StateT Af Sem (ForInStep (Option Unit×Unit)),(∀i st2 rs2 (R2:ForInStep (Option Unit×Unit)->Af->Prop),Wt kz kd a₀ st2 rs2 S->R2 (.done (none,())) st2->(∀st' rs',Wt kz kd a₀ st' rs' S->rs'.flatten.length=rs2.flatten.length->R2 (.yield (none,())) st')->wpS M A E s (f i (none,())) R2 st2)->wpS M A E s (forIn [:z] ((none,()):Option Unit×Unit) f) R st1:=λst1 rs S z pw R w hR f hf =>
  cz (I:=λi c st'=>c=(none,())/\∃rs',Wt kz kd a₀ st' rs' S/\rs'.flatten.length=rs.flatten.length) (λi c st' _ _ ⟨e,rs',w',l'⟩=>by
   subst e
   exact hf i st' rs' _ w' (hR st' rs' w' l') λst3 rs3 w3 l3=>⟨rfl,rs3,w3,l3.trans l'⟩) (λc st' ⟨e,rs',w',l'⟩=>by
   subst e
   exact hR st' rs' w' l') ⟨rfl,rs,w,rfl⟩
 have tail:∀(st1:Af) (rs:List (List Ai)) (S:List Ai) (lo n x:Nat),Wt kz kd a₀ st1 rs S->lo=rs.flatten.length->1<=n->n<=S.length->SL kz (S.take n)->x<=lo->(∃rs' S',Wt kz kd a₀ (setPending st1 ((pendingOf st1).push (lo,n,0))) rs' S'/\lo+n=rs'.flatten.length/\x+1<=lo+n):=λst1 rs S lo n x w hlo h1 hn sl hx =>
  ⟨_,_,w.push hlo h1 hn sl,by simp only[dX,dO,List.flatten_nil,bP,ao,be];lia,⋯⟩
 refine aD (fC (cz (I:=λx (c:Option Unit×Nat) st'=>c.1=none/\∃rs S,Wt kz kd a₀ st' rs S/\c.2=rs.flatten.length/\x<=c.2) (Q:=λc st'=>c.1=none/\∃rs,Wt kz kd a₀ st' rs []) ?step ?fin ⟨rfl,[],a₀.toList,w0,rfl,aj _⟩) ?post)
 case fin =>
  rintro⟨r,lo⟩ st' ⟨hr,rs,S,w,e,hx⟩;dsimp only at e hx hr;have z:=w.size;have:S=[]:=ff ⋯;subst this;exact⟨hr,rs,w⟩
 case step =>
  rintro x ⟨r,lo⟩ st1 _ hx ⟨hr,rs,S,w,e,hx2⟩;dsimp only at e hx2 hr ⊢;subst hr;have z:=w.size;by_cases c:lo>=a₀.size
  .rw[ay c];have:S=[]:=ff ⋯;subst this;exact aK ⟨rfl,rs,w⟩
  rw[ar c];refine aD (wjm O w.k (u.perm w.a) ⋯ (by rw[w.a.size_eq];lia) λn st2 n1 n2 ip sr=>?_);obtain⟨S2,w2,z2⟩:=w.ip e ip;have sl2:SL kz (S2.take n):=xx9 w2.t (by rw[<-e];exact sr) ⋯;have nS:n<=S2.length:=by lia
  dsimp only;by_cases c2:n<mr
  case' pos =>
   rw[ay c2];refine aD (iJ (dA ⟨rfl,?_⟩));refine aD (xk2 O w2.k (u.perm w2.a) n1 (show n<=min (a₀.size-lo) mr by lia) (by rw[w2.a.size_eq];lia) sr λst3 ip3 sr3=>?_);obtain⟨S3,w3,z3⟩:=w2.ip e ip3;have sl3:SL kz (S3.take (min (a₀.size-lo) mr)):=xx9 w3.t (by rw[<-e];exact sr3) ⋯;have nS3:min (a₀.size-lo) mr<=S3.length:=by lia
   have n3:1<=min (a₀.size-lo) mr:=by lia
   rw[ar ⋯];generalize min (a₀.size-lo) mr=m at sl3 nS3 n3 ⊢;clear sl2 nS sr n2 c2 n1 sr3 ip3
  case' neg =>
   rw[ar c2];obtain⟨st3,rfl⟩:∃st3,st3=st2:=⟨_,rfl⟩;obtain⟨m,rfl⟩:∃m,m=n:=⟨_,rfl⟩;obtain⟨S3,rfl⟩:∃S3,S3=S2:=⟨_,rfl⟩;have w3:=w2;have sl3:=sl2;have nS3:=nS;have n3:=n1
  all_goals
   refine aD (gW ?_);split
   .refine aD (lp st3 rs S3 a₀.size 0 _ w3 (λst4 rs4 w4 l4=>?_) _ λi st4 rs4 R2 w4 h1 h2=>?_)
    .dsimp only;refine aD (gk ?_);refine aD (gk (aK ?_));exact⟨rfl,tail _ rs4 S3 lo m x w4.pow ⋯ n3 nS3 sl3 hx2⟩
    .try dsimp only
     refine aD (gW ?_);split
     .split
      .exact aK h1
      .rename_i hsz _;have hs:(pendingOf st4).size>1:=by
        rcases bo 1 (pendingOf st4).size with q|q
        .exact q
        .rw[ar ⋯]at hsz;cases hsz
       have pl4:=w4.pl;refine aD (mrg st4 rs4 S3 _ _ w4 ⋯ λst5 rs5 w5 l5 _=>?_);rw[ar ⋯];exact aK (h2 st5 rs5 w5 l5)
     .exact aK h1
   .refine aD (gk (aK ?_));obtain⟨rs',S',w6,l6,x6⟩:=tail st3 rs S3 lo m x w3 e n3 nS3 sl3 hx2;exact⟨rfl,rs',S',w6,l6,x6⟩
 case post =>
  rintro⟨r,lo⟩ st1 ⟨hr,rs,w⟩;dsimp only at hr ⊢;subst hr;dsimp only;have z:=w.size;have zz:=w.p.size;refine aD (fC (cz (I:=λx (c:Option Unit×Unit) st'=>c=(none,())/\∃rs,Wt kz kd a₀ st' rs []/\(rs.length<=1\/rs.length+x<=a₀.size)) (Q:=λc st'=>c=(none,())/\∃rs,Wt kz kd a₀ st' rs []/\rs.length<=1) ?step2 ?fin2 ⟨rfl,rs,w,.inr (by rw[dS]at z;lia)⟩) ?post2)
  case fin2 =>
   rintro c st' ⟨rfl,rs,w,hor⟩;exact⟨rfl,rs,w,⋯⟩
  case step2 =>
   rintro x c st' _ hx ⟨rfl,rs,w,hor⟩
   try dsimp only
   have pl:=w.pl;refine aD (gW ?_);by_cases c:(pendingOf st').size<=1
   .rw[ay c];exact aK ⟨rfl,rs,w,⋯⟩
   rw[ar c];refine aD (mrg st' rs [] _ _ w ?_ λst5 rs5 w5 l5 z5=>?_)
   .have c':2<=rs.length:=by lia
    rw[pl];by_cases c2:rs.length-2>0
    .rw[ay c2];split <;> lia
    .rw[ar c2];show(if(false=true) then _ else _)+1<_;rw[ar aH];lia
   .rw[ar ⋯];exact aK ⟨rfl,rs5,w5,.inr ⋯⟩
  case post2 =>
   rintro c st' ⟨rfl,rs,w,hl⟩;dsimp only;refine aK (h st' w.a w.f ?_);rw[w.t,bP]
   match rs,hl,w.p with
   |[],_,_=>exact List.Pairwise.nil
   |[r],_,p =>
    simp only[dO,List.flatten_nil,bP];cases hp9:(pendingOf st').toList.map pr with
    |nil=>rw[hp9]at p;exact p.elim
    |cons a b=>rw[hp9]at p;exact p.2.2.2.1
end
end Tm
namespace L2
open PySem PySem.Spec PyProof.Rows PySem.W
def RawD (h:Heap)(d:Aj)(es:Array DictEntry)(ep:Nat):Prop:=∃o,h.get? d=some o/\o.ExactDict/\o.data=.dict es ep
section
variable {prog:Ac}{w:Ah}{A:Ae}{E:Ag->Ab->Prop}{s:Ab}{d:Aj}{es:Array DictEntry}{ep:Nat}
theorem RawD.ty {s:Ab}(x:RawD s.heap d es ep):s.TypeIs (.ref d) "dict" := let ⟨o,ho,hc,_⟩:=x;⟨o,ho,hc.1⟩
theorem RawD.lt {h:Heap}(x:RawD h d es ep):d<h.objs.size:=let ⟨_,ho,_⟩:=x;ak ho
theorem RawD.at {h h':Heap}(x:RawD h d es ep)(k:∀o,h.get? d=some o->h'.get? d=some o):RawD h' d es ep:=let ⟨o,ho,r⟩:=x;⟨o,k o ho,r⟩
theorem wug {Q:Ag->Ab->Prop}(hd:(d==sysModules)=false)(hm:RawD s.heap d es ep)
  (hQ:Q (.ref s.heap.objs.size) { s with heap:=s.heap.push { cls:=.type "dict_keyiterator",data:=.fields #[.ref d,.int 0 0,.int es.size 0,.int ep 0] } }):wpAny (model prog w) A (pyIter (.ref d)) Q E s:=by
 obtain⟨o,z,J,D⟩:=id hm;(refine iZ hm.ty F.slot_dict_iter (cV F.slot_dict_iter hm.ty F.entry_dict_iter ?_ (F.args_dict_iter_1 _)) ;unfold Builtin.«dict.__iter__» ;refine aa ?_ ;unfold Builtin.Dict.dictSlotNone ;refine aa (wpAny_notOrdered_dict hm.ty ?_));(show wpAny _ _ (pure (Value.ref d)) _ _ s ;refine ai ?_ ;show wpAny _ _ (Builtin.Dict.showsAll d >>= _) _ _ s ;unfold Builtin.Dict.showsAll ;rw[ar (by rw[hd];exact aH)]);(refine aa (ai ?_) ;refine aa (gM z D ?_) ;refine aa (jP z D ?_));refine aa (bW (ai ⟨_,rfl,"dict_keyiterator",_,⟨_,aA _ rfl,rfl⟩,cQ.lookup,?_⟩)) ;simpa [rawInt] using hQ
theorem wuc {it:Aj}{i:Nat}{e:DictEntry}{Q:Option Ag->Ab->Prop}(hit:s.heap.IsKeyIter it d i es.size ep)(hm:RawD s.heap d es ep)(hx:es[i]?=some e)
  (hQ:∀h',h'.IsKeyIter it d (i+1) es.size ep->Heap.SameBut it s.heap h'->Q (some e.key) { s with heap:=h' }):wpAny (model prog w) A (pyNext (.ref it)) Q E s:=by
 obtain⟨o,D,Z,z⟩:=id hit ;obtain⟨od,F,ab,L⟩:=id hm;(unfold pyNext ;refine aa (fF (dN (name:=Str.ofString "__next__") hit.typeIs cQ (cV cQ hit.typeIs g8 ?_ (gU _)))) ;refine aa (ai ?_) ;refine aa ?_ ;refine aa ?_);((first | refine aa (dJ hit.typeIs (ai ?_)) | refine aa (eQ hit.typeIs (ai ?_))) ;refine aa (iI D z ?_) ;simp only[show Builtin.Dict_items.ownsTuple "dict_keyiterator" = false by decide,aB,br] ;show wpAny _ _ (if(Value.ref d==Value.none)=true then _ else _) _ _ s ;rw[ar (show ¬ ((Value.ref d==Value.none)=true) from aH)] ;refine aa (ai ?_) ;refine aa (gM F L ?_) ;rw[ar (by simp)] ;refine aa (ai ?_) ;refine aa (jP F L ?_) ;rw[ar (by simp)] ;refine ai ?_);have U:i<es.size:=(bR.mp hx).1 ;have W:es[i]=e:=(bR.mp hx).2;(simp only[show ¬ ((i:Int)<0) from by lia,br,bQ,bf U] ;refine aa ?_ ;(first | refine aa (dJ hit.typeIs (ai ?_)) | refine aa (eQ hit.typeIs (ai ?_))) ;refine aa (wpAny_isOneOf_keyiter hit.typeIs ?_) ;show wpAny _ _ (setField (.ref it) 1 (rawInt ((i:Int)+1)) >>= _) _ _ s ;refine aa (gL D z (by simp) ?_));have J:(s.heap.update it (Obj.mapFields (·.setIfInBounds 1 (rawInt ((i:Int)+1))))).IsKeyIter it d (i+1) es.size ep:=⟨_,dt _ D (gP (d9 z _)),(iY ..).trans Z,by rw[d9 z];simp[rawInt]⟩;(refine aa (b8 ?_) ;refine aa (wpAny_isOneOf_keyiter (s:={ s with heap:=s.heap.update it (Obj.mapFields (·.setIfInBounds 1 (rawInt ((i:Int)+1)))) }) J.typeIs ?_) ;show wpAny _ _ (pure es[i].key) _ _ _ ;rw[W]);exact ai (ai ⟨_,rfl,ai (hQ _ J (cD ..))⟩)
theorem xz7 {it:Aj}{i:Nat}{Q:Option Ag->Ab->Prop}(hh:A.handled=none)(hit:s.heap.IsKeyIter it d i es.size ep)(hm:RawD s.heap d es ep)(hx:es.size<=i)(hQ:∀h',Heap.ExtBut it s.heap h'->Q none { s with heap:=h' }):wpAny (model prog w) A (pyNext (.ref it)) Q E s:=by obtain⟨o,D,W,J⟩:=id hit ;obtain⟨L,z,U,F⟩:=id hm;(unfold pyNext ;refine aa (fF (dN (name:=Str.ofString "__next__") hit.typeIs cQ (cV cQ hit.typeIs g8 ?_ (gU _)))) ;refine aa (ai ?_) ;refine aa ?_ ;refine aa ?_);((first | refine aa (dJ hit.typeIs (ai ?_)) | refine aa (eQ hit.typeIs (ai ?_))) ;refine aa (iI D J ?_) ;simp only[show Builtin.Dict_items.ownsTuple "dict_keyiterator" = false by decide,aB,br] ;show wpAny _ _ (if(Value.ref d==Value.none)=true then _ else _) _ _ s ;rw[ar (show ¬ ((Value.ref d==Value.none)=true) from aH)] ;refine aa (ai ?_) ;refine aa (gM z F ?_) ;rw[ar (by simp)] ;refine aa (ai ?_) ;refine aa (jP z F ?_) ;rw[ar (by simp)] ;refine ai ?_);(simp only[show ¬ ((i:Int)<0) from by lia,br,bQ,dZ hx] ;refine aa ?_ ;(first | refine aa (dJ hit.typeIs (ai ?_)) | refine aa (eQ hit.typeIs (ai ?_))) ;show wpAny _ _ (setField (.ref it) 0 .none >>= _) _ _ s ;refine aa (gL D J (by simp) ?_) ;show wpAny _ _ (newExc (.type "StopIteration") [] >>= _) _ _ _ ;refine aa ?_ ;simp only[newExc,newTuple]);(refine aa (bW ?_ (by size_fits)) ;refine aa (m:=firstArgMember _ _) (wpAny_of_eq (a:=Value.none) (by first | rfl | (simp only[firstArgMember];rfl)) ?_) ;refine bW ?_ (by size_fits) ;simp only[raiseNew] ;refine aa (wpAny_handled ?_) ;rw[show A.in1.handled=none from hh] ;refine aa (ai (wpAny_throw ?_)));refine aa (jD (T := "StopIteration") (b:=true) ⟨_,aA _ rfl,rfl⟩ isSubtype_stop (ai (hQ _ (((cD ..).extBut.push _).push _))))
theorem wyg (hh:A.handled=none)(I:Aj)(hne:d≠I):Walks prog w A I [I,d] [I] es.size (λi v=>∃e,es[i]?=some e/\v=e.key) (λi h=>h.IsKeyIter I d i es.size ep/\RawD h d es ep) where
 sub:=λb hb=>by simp at hb;simp[hb]
 frame:=λ_ _ _ st hk=>⟨st.1.at λo e=>hk I (by simp) o e,st.2.at λo e=>hk d (by simp) o e⟩
 item:=λi s Q E hi st hQ=>wuc st.1 st.2 (bf hi) λh' it' sb=>hQ _ h' s.toks ⟨_,bf hi,rfl⟩ ⟨it',st.2.at λo e=>sb.extBut d o hne e⟩ λb o hb e=>sb.extBut b o (λh=>hb (by simp[h])) e
 done:=λs Q E st hQ=>xz7 hh st.1 st.2 (aj _) λh' eb=>hQ h' s.toks λb o hb e=>eb b o (λh=>hb (by simp[h])) e
 self:=λ_ _ _ _ st hQ=>wpAny_pyIter_keyiter st.1 hQ
theorem xv7 (lo:(d==sysModules)=false):KdlSrc prog w "dict" d d es.size (λi v=>∃e,es[i]?=some e/\v=e.key) (λh=>RawD h d es ep) where
 type:=λ_ hm=>hm.ty
 there:=λ_ hm=>⟨hm.lt,hm.lt⟩
 keep:=λ_ _ hm hk=>hm.at λo e=>hk d (.inl rfl) o e
 notList:=by decide
 notTuple:=by decide
 hint:=λ_ _ _ _ hm hq=>kdl_hint_dict hm.ty hq
 iter:=λ_ _ hh hm=>⟨_,_,(λ_ _ hq=>wug lo hm hq),wyg hh _ (aC hm.lt),⟨⟨_,aA _ rfl,rfl,rfl⟩,hm.at λo e=>ah _ e⟩⟩
theorem qvu (hd:(d==sysModules)=false):MeetsIn prog w (Builtin.«dict.__len__» ⟨[.ref d],[]⟩) (λ_ R s=>∃es ep,RawD s.heap d es ep/\R (.ok (.ret (.int es.size s.toks))) { s with toks:=s.toks+1 }) :=
 .of_wp λA R s ⟨es,ep,hm,h⟩=>by obtain⟨o,ho,hc,hdat⟩:=hm;(show wpAny _ _ (dictSize d >>= _) _ _ s ;unfold dictSize ;refine aa (aa (gM ho hdat (ai ?_))) ;show wpAny _ _ (Builtin.Dict.pendingCount d >>= _) _ _ s ;refine aa (wpAny_pendingCount_other hd ?_) ;refine wpAny_ret_mkInt ?_ ;rw[gJ] ;exact h)
theorem xz5 {Q:Ag->Ab->Prop}(hd:(d==sysModules)=false)(hm:RawD s.heap d es ep)(hfit:(es.size:Int)<2 ^ 63)(h:Q (.int es.size (s.toks+1)) { s with toks:=s.toks+1+1 }):wpAny (model prog w) A (call (.builtin "len") [.ref d]) Q E s:=by refine Calls.call_function_entry kind_len plain_len entry_len (args_len1 _) ?_ ;unfold Builtin.«len» ;refine aa (m:=oneArg "len" _) (ai ?_);refine aa (m:=callSpecial? (.ref d) (Str.ofString "__len__")) (dN (name:=Str.ofString "__len__") hm.ty F.slot_dict_len (call_meetsIn F.slot_dict_len hm.ty F.entry_dict_len (F.args_dict_len_1 _) (qvu hd) ⟨es,ep,hm,?_⟩));(show wpAny _ _ _ _ _ { s with toks:=s.toks+1 } ;refine aa (b8 (ai ?_)) ;refine aa (g9 ?_) ;show wpAny _ _ (if((es.size:Nat):Int)<0 then _ else _) _ _ _ ;rw[ar ⋯] ;show wpAny _ _ (if((es.size:Nat):Int)>=2 ^ 63 then _ else _) _ _ _ ;rw[ar ⋯]);exact aa (wpAny_mkInt (ai ⟨_,rfl,h⟩))
end
section
variable {X:Cx}
theorem xwg {P:Ac}{w:Ah}{H:Hp}{h:Heap}{a:Aj}{kvs:List (List Key×V)}(ok:HOk P w H h)(e:H a=some (.dT kvs)) :
  kvs.length<=sizeLine/\(a==sysModules)=false/\∃(xs:List (List Key×Aj×Ag)) (es:Array DictEntry) (ep:Nat),KT H kvs xs/\RawD h a es ep/\es.toList=xs.map (entryOfKey (tupleKind (vx P w))):=by
 obtain⟨z,y,xs,r,o,es,ep,h1,h2,F,D,J⟩:=(show ObjOk P w H h a (.dT kvs) from ok a _ e);exact⟨z,y,xs,es,ep,r,⟨o,h1,h2,F⟩,D⟩
theorem qk4:k8 X (.builtin "len") (λxs H Q=>∃a kvs,xs=[V.ref a]/\H a=some (.dT kvs)/\Q (.int kvs.length) H):=by
 intro pins s σ H xs Z Q I r h;obtain⟨a,kvs,rfl,e,q⟩:=h;obtain⟨u,rfl,F⟩:=js r;cases F;obtain⟨z,W,ys,es,ep,J,L,U⟩:=xwg I.hok e;have D:es.size=kvs.length:=by rw[<-aV,U,ag,bZ J]
 have hn:=qjh;exact xz5 W L (by rw[D];lia) ⟨.int kvs.length,H,I.tok _,⟨_,by rw[D]⟩,q⟩
def xqd (H:Hp)(kvs:List (List Key×V))(vs:List V):Prop:=Paired (λv (p:List Key×V)=>∃b,v=V.ref b/\H b=some (.tup (p.1.map kV))) vs kvs
theorem wxy (hc:X.calm=true):k8 X (.type "list") (λxs H Q=>∃a kvs,xs=[V.ref a]/\H a=some (.dT kvs)/\∀p vs,H p=none->xqd H kvs vs->Q (.ref p) (upd H p (.lst vs))):=by
 intro pins s σ H xs us Q I r h;obtain⟨a,kvs,rfl,e,q⟩:=h;obtain⟨u,rfl,rx⟩:=js r;cases rx;obtain⟨z,hd,ys,es,ep,ac,ap,ad⟩:=xwg I.hok e;have Z:es.size=kvs.length:=by rw[<-aV,ad,ag,bZ ac]
 refine kdl_call (xv7 hd) (I.ok.hd hc) ap (by rw[Z];exact z) λh' tk an c' hk hD ab=>?_;have as:∀(l:List Ag) (J:List (List Key×V)) (U:List (List Key×Aj×Ag)),KT H J U->l.length=J.length->(∀(j:Nat) v,l[j]?=some v->∃y,U[j]?=some y/\v=.ref y.2.1)->∃vs,Vals vs l/\xqd H J vs:=by
  intro l J U rr
  induction rr generalizing l with
  |nil =>
   intro L _;cases l with
   |nil=>exact⟨[],.nil,.nil⟩
   |cons _ _=>simp at L
  |@cons p y ps yss hp t ih =>
   intro L hj;cases l with
   |nil=>simp at L
   |cons v l =>
    obtain⟨y',ey,rfl⟩:=hj 0 v rfl;cases ey;obtain⟨vs,F,W⟩:=ih l (by simpa using L) λj u hu=>by obtain⟨y2,e2,e3⟩:=hj (j+1) u (by simpa using hu);exact⟨y2,by simpa using e2,e3⟩
    exact⟨.ref y.2.1::vs,.cons rfl F,.cons ⟨_,rfl,hp.2.1⟩ W⟩
 obtain⟨vs,F,W⟩:=as an.toList kvs ys ac (by rw[aV,ab.1,Z]) λj v ev=>by
  obtain⟨en,D,rfl⟩:=ab.2 j v (by rw[<-aJ];exact ev);rw[<-aJ,ad,aw]at D;cases hy:ys[j]? with
  |none=>rw[hy]at D;cases D
  |some y =>
   rw[hy]at D;have e2:=av D;exact⟨y,rfl,by rw[<-e2];rfl⟩
 have hv:vs.length<=sizeLine:=by rw[F.length,aV,ab.1,Z];exact z
 exact⟨.ref _,_,I.laid (t':=tk) hk (aj _) (show ObjOk X.prog X.w _ h' _ (.lst vs) from ⟨hv,an.toList,c',F,by simpa using hD⟩),rfl,q _ _ (I.hok.fresh (aj _)) W⟩
end
end L2
namespace L2
open PySem PySem.Spec PyProof.Rows
theorem xw7 {M:Model}{A:Ae}{E:Ag->Ab->Prop}{s:Ab}{scope:Scope}{globals:Aj}{cl:List (Str×Aj)}{qual:Str}{func:Option Aj}{code:Ag}{outer:Env}{builtins:Aj}{x:Str}{Q:Env->Ab->Prop}(hk:scope.kind=.function)
  (hcf:cellsFrom (s.heap.objs.size+1) scope.names cl=(x,s.heap.objs.size+1)::cl) (hpc:pushCells (s.heap.push { cls:=.type "dict",data:=.dict #[] }) scope.names=(s.heap.push { cls:=.type "dict",data:=.dict #[] }).push { cls:=.type "cell",data:=.cell none })
  (hQ:Q (newEnv scope s.heap.objs.size globals ((x,s.heap.objs.size+1)::cl) qual func code (some outer) builtins) { s with heap:=(s.heap.push { cls:=.type "dict",data:=.dict #[] }).push { cls:=.type "cell",data:=.cell none } }) :
  wpAny M A (newFunctionEnv scope globals cl [] qual func code (some outer) builtins) Q E s:=by
 simp only[newFunctionEnv,Option.isSome_some,cI];refine aa (wpAny_alloc ?_);refine aa (wpAny_layCells _ (λname kind z=>by cases hkc:kind==NameKind.cell <;> simp[hkc]) _ _ _ _ ?_);rw[show({ s with heap:=s.heap.push { cls:=.type "dict",data:=.dict #[] } }:Ab).heap.objs.size=s.heap.objs.size+1 from cM ..,hcf,hpc];exact aa (ai (ai hQ))
def HasAllK (x:Str)(cl:List (Str×Aj)):List (Str×NameKind)->Prop
 |[]=>True
 |(n,k)::r=>(k=.free->∃c,cl.lookup n=some c)/\(k=.cell->n=x)/\HasAllK x cl r
theorem wq3 {x y:Str}{c:Aj}{cl:List (Str×Aj)}(h:∃d,cl.lookup y=some d):∃d,((x,c)::cl).lookup y=some d:=by
 rw[bw];cases y==x with
 |true=>exact⟨c,rfl⟩
 |false=>exact h
theorem HasAllK.has {x:Str}{c:Aj}{cl:List (Str×Aj)}{env:Env}:∀ {ns:List (Str×NameKind)},HasAllK x cl ns->∀ {y:Str} {q:NameKind},q=.cell\/q=.free ->
  (ns.map λ(n,k)=>if(k==NameKind.free&&env.scope.kind==.function&&env.kindOf n==some .cell) then(n,NameKind.cell) else(n,k)).lookup y=some q->∃d,((x,c)::cl).lookup y=some d
 |[],_,_,_,_,e=>by cases e
 |(n,k)::r,h,y,q,hq,e=>by
  have ih:=HasAllK.has (c:=c) (env:=env) h.2.2 (y:=y) hq;rw[aI]at e;by_cases hc:(k==NameKind.free&&env.scope.kind==.function&&env.kindOf n==some .cell)=true
  .have e':=e;dsimp only at e';rw[ay hc,bw]at e';cases hb:y==n with
   |true =>
    rw[cJ,cJ]at hc;rw[eq_of_beq hb];exact wq3 (h.1 (eq_of_beq hc.1.1))
   |false =>
    rw[hb]at e';exact ih e'
  .have e':=e;dsimp only at e';rw[ar hc,bw]at e';cases hb:y==n with
   |true =>
    rw[hb]at e';have ek:k=q:=av e';rw[eq_of_beq hb];rcases hq with rfl|rfl
    .rw[h.2.1 ek];exact⟨c,by rw[bw,fN]⟩
    .exact wq3 (h.1 ek)
   |false =>
    rw[hb]at e';exact ih e'
abbrev y8 (X:Cx)(scope:Scope)(cl:List (Str×Aj))(x:Str)(c:Aj)(M:List Nat)(C:Aj)(s2:Ab)(H2:Hp)(fp:List Aj)(pn:List (Aj×Obj)):Cx :=
 { X with N:=Qt X x M,s₀:=s2,H₀:=H2,env:=compEnvC scope ((x,c)::cl) C X.env,outer:=X.stack,ex:=fp,fn:=λy=>y==x,pn:=pn,xe:=λ_ _=>False }
section
variable {X:Cx}{pins:List (Aj×Obj)}{σ:St}{H:Hp}{s2:Ab}{scope:Scope}{cl:List (Str×Aj)}{x:Str}{c:Aj}{M:List Nat}{fp:List Aj}{C:Aj}{h1:Heap}{tk:Nat}
theorem Inv.compK (I:Inv X pins σ H s2)(hc:CapAll X.env cl)(hh:HasAllK x cl scope.names)(hm:CapIx X scope cl M)(hk:scope.kind=.function)(hnd:(Qt X x M).Nodup)(hC:s2.heap.objs.size<C)(hcC:C<c)(hcl:h1.IsCell c none)
  (keep:∀b o,s2.heap.get? b=some o->h1.get? b=some o) (hn:h1.Ns C λ_=>none) (hD:h1.get? s2.heap.objs.size=some { cls:=.type "list",data:=.seq #[] 0 })
  (hfp:∀b∈fp,vy X pins H b) (hob:∀b∈fp,∃o,s2.heap.get? b=some o) :
  Inv (y8 X scope cl x c M C s2 H fp (X.pn++pins)) [] (zj M σ none) (upd H s2.heap.objs.size (.lst [])) { s2 with heap:=h1,toks:=tk }:=by
 have a2:=I.hok.fresh (a:=s2.heap.objs.size) (aj _);have o:=I.ok;have W:∀y c,cl.lookup y=some c->X.env.cells.lookup y=some c:=λy c e=>hc.look e;have U:∀y d,((x,c)::cl).lookup y=some d->(y=x/\d=c)\/(y≠x/\cl.lookup y=some d):=λy d e=>by
  rw[bw]at e;cases D:y==x with
  |true =>
   rw[D]at e;exact .inl ⟨eq_of_beq D,(av e).symm⟩
  |false =>
   rw[D]at e;exact .inr ⟨λz=>by rw[z]at D;simp at D,e⟩
 have an:∀y d,cl.lookup y=some d->d<s2.heap.objs.size:=λy d e=>by obtain⟨v,L,F,J⟩:=I.cell y d (W y d e);exact ak F
 have ab:s2.heap.objs.size<c:=bb hC hcC;have ap:∀b∈fp,b<s2.heap.objs.size:=λb D=>by obtain⟨L,e⟩:=hob b D;exact ak e
 have ax:∀b∈fp,b∉frs X.stack:=λb D z=>by
  rcases aM.mp (I.stkSub b z) with z|z
  .exact(hfp b D).2.1 z
  .exact(hfp b D).2.2.1 z
 have a3:H C=none:=I.hok.fresh (bn hC);refine⟨⟨o.mod,hk,o.glob,o.blt,bn hC,λy z d F J=>?_,λy hy=>?_,λy d z e=>?_,o.hd,o.frames,.inl rfl,λb D=>⟨aC (bb (ap b D) hC),λy d e=>?_⟩,
  λb L e=>I.bs b L e,bI o.bsz I.sz,λb L e z=>?_,ax,I.stack,I.stkFree⟩,rfl,I.bare,?_,?_,λy d e=>?_,?_,λy d e=>?_,λp hp=>?_,?_,?_⟩
 .rcases U y d F with⟨Z,h1⟩|⟨Z,h1⟩ <;> rcases U z d J with⟨as,h2⟩|⟨as,h2⟩
  .exact Z.trans as.symm
  .exact absurd (an z d h2) (by rw[h1];exact Nat.not_lt_of_gt ab)
  .exact absurd (an y d h1) (by rw[h2];exact Nat.not_lt_of_gt ab)
  .exact o.inj y z d (W y d h1) (W z d h2)
 .rcases hy with hy|hy
  .exact hh.has (.inl rfl) hy
  .exact hh.has (.inr rfl) hy
 .rcases U y d e with⟨_,h1⟩|⟨Z,h1⟩
  .rw[h1];exact bn ab
  .exact absurd (eq_of_beq z) Z
 .rcases U y d e with⟨_,h1⟩|⟨Z,h1⟩
  .rw[h1];exact(aC (bb (ap b D) ab)).symm
  .exact(hfp b D).2.2.2.2.1 y d (W y d h1)
 .obtain⟨F,J⟩:=I.bs b L e;exact(hfp b z).2.2.2.1.elim (λq=>o.noex b L e q) λq=>by have:=o.bs b L e;exact aW _ (aN (ak this.1) q)
 .exact(Un.laid (fs:=frs X.stack) (ex:=fp) (o:=.lst []) keep (aj _) a2)
 .refine⟨_,hn,λi z v F J e3=>?_⟩;cases i with
  |zero=>cases J
  |succ k =>
   have ac:(M.map λj=>X.N.getD j Str.empty)[k]?=some z:=F;have ad:(M.map λj=>(σ[j]?).join)[k]?=some (some v):=J;rw[aw]at ac ad;cases hj:M[k]? with
   |none=>rw[hj]at ac;cases ac
   |some j =>
    rw[hj]at ac ad;obtain⟨y,d,f1,f2,f3,f4⟩:=hm.get hj;have ez:X.N.getD j Str.empty=z:=av ac;rw[af,f1]at ez;have a5:y=z:=ez;subst a5;have nx:y≠x:=λz=>by have h0:=iK.mp hnd;have h1:x∉M.map λj=>X.N.getD j Str.empty:=λa1=>(gm.mp h0).1 x a1 rfl;refine h1 (aL.mpr ⟨j,aF hj,?_⟩);rw[af,f1,<-z];rfl
    have a4:((x,c)::cl).lookup y=some d:=by rw[bw,show(y==x)=false from cC.mpr nx];exact f4
    have ev:(σ[j]?).join=some v:=av ad;have a6:σ[j]?=some (some v):=by
     cases hs:σ[j]? with
     |none=>rw[hs]at ev;cases ev
     |some w' =>
      rw[hs]at ev;have:w'=some v:=ev;rw[this]
    obtain⟨m,a7,hl⟩:=I.loc;obtain⟨u,r,l⟩:=hl j y v f1 a6 (.inr (.inl f2));refine⟨u,r,.inr ⟨.inl f3,d,a4,?_⟩⟩;rcases l with⟨U,_⟩|⟨_,c',lc,li⟩
    .have:X.env.scope.names.lookup y=some .local:=U;rw[f2]at this;cases this
    .rw[W y d f4]at lc;have:=av lc;subst this;exact li.keeps keep
 .rcases U y d e with⟨_,rfl⟩|⟨Z,h1⟩
  .exact⟨none,hcl⟩
  .obtain⟨v,hv⟩:=I.cell y d (W y d h1);exact⟨v,hv.keeps keep⟩
 .show upd H s2.heap.objs.size (.lst []) C=none;rw[qt (fM hC)];exact a3
 .show upd H s2.heap.objs.size (.lst []) d=none;rcases U y d e with⟨_,rfl⟩|⟨Z,h1⟩
  .rw[qt (aC ab).symm];exact I.hok.fresh (bn ab)
  .obtain⟨v,L,F,J⟩:=I.cell y d (W y d h1);rw[qt (aC (ak F))];exact I.freeC y d (W y d h1)
 .have a0:p∈X.pn++pins:=(aX.mp hp).elim (λz=>z) λz=>nomatch z;obtain⟨F,J,e3,e4,e5⟩:=I.pin p a0;refine⟨keep _ _ F,?_,aC (bb (ak F) hC),λz=>?_,e5⟩
  .rw[qt (aC (ak F))];exact J
  .rcases aM.mp (I.stkSub p.1 z) with z|z
   .exact e3 z
   .exact e4 z
 .exact I.hok.laid keep (aj _) ⟨aY _,[],0,.nil,hD⟩
 .show(none::M.map λj=>(σ[j]?).join).length=(x::M.map λj=>X.N.getD j Str.empty).length;rw[aP,aP,ag,ag]
theorem Inv.uncompK {pins':List (Aj×Obj)}{σ':St}{H':Hp}{s':Ab}{h':Heap}(I:Inv X pins σ H s2)(hC:s2.heap.objs.size<=C)(hfp:∀b∈fp,vy X pins H b)
  (J:Inv (y8 X scope cl x c M C s2 H fp (X.pn++pins)) pins' σ' H' s') (hs:Heap.SameBut C s'.heap h'):Inv X pins σ H' { s' with heap:=h' }:=by
 have D:=J.base;have U:∀b o,s2.heap.get? b=some o->b≠C:=λb o e=>aC (aN (ak e) hC);have st:∀b o,b≠C->s'.heap.get? b=some o->h'.get? b=some o:=λb o n e=>(hs.2 b n).trans e;refine I.call' (s':={ s' with heap:=h' }) (ch:=fp) J.os ⟨λb o e n nb F=>st b o (U b o e) (D.keep b o e n nb F),λb o e n ac F=>?_,D.free,λb o e F=>?_,D.tups,D.frzs,D.tbls⟩ ?_ J.bare λb ab=>?_
 .obtain⟨sl,Z⟩:=D.slot b o e n ac F;exact⟨sl,st b _ (U b o e) Z⟩
 .obtain⟨o',Z⟩:=D.there b o e F;exact⟨o',st b _ (U b o e) Z⟩
 .intro b u W;have fr:H' C=none:=J.free;refine(J.hok b u W).stay (λc v L e=>st c v ?_ e) (λ_ z=>z) λ_ _ z=>z;rcases L with rfl|L
  .intro z;rw[z,fr]at W;cases W
  .intro z;rw[z,fr]at L;cases L
 .obtain⟨q1,q2,q3,q4,q5,q6⟩:=hfp b ab;exact⟨q4,q2,q5,q6⟩
end
section
variable {X:Cx}{elt iter:Expr}{x:Str}{px pos:Pos}{scope:Scope}{cl:List (Str×Aj)}{M:List Nat}{wi:TI}{te:TE}
theorem wju (hc:X.calm=true)(hclos:closureFor scope X.env=pure cl)(hcap:CapAll X.env cl)(hhas:HasAllK x cl scope.names)(hix:CapIx X scope cl M)(hk:scope.kind=.function)
  (hnames:∀y∈scope.names,y.2=.local->scope.names.lookup y.1=some .local) (hcf:∀n,cellsFrom n scope.names cl=(x,n)::cl) (hpc:∀h,pushCells h scope.names=h.push { cls:=.type "cell",data:=.cell none }) (hx:(relabel scope X.env).names.lookup x=some .cell) (hnd:(Qt X x M).Nodup) (hi:PI X (.Name x px) iter wi)
  (he:∀C s2 H2 fp pn,PE (y8 X scope cl x (C+1) M C s2 H2 fp pn) elt te) (hs:∀z,foldedSetIterable iter X.env z=pure z)
  {use:Option (Ag->Sem Unit)} {QQ:Ag->Ab->Prop} {pins:List (Aj×Obj)} {s:Ab} {σ:St} {H:Hp} {Q:VK} {ps:Pos} (I:Inv X pins σ H s) (h:wi σ H λJ H1=>Ws J M te σ H1 Q)
  (fin:∀(C:Aj) (s2 s4:Ab) (H1 H2:Hp) (fp:List Aj),Inv X pins σ H1 s2->s2.heap.objs.size<C->(∀b∈fp,vy X pins H1 b)->Inv (y8 X scope cl x (C+1) M C s2 H1 fp (X.pn++pins)) [] (zj M σ none) H2 s4->Q (.ref s2.heap.objs.size) H2 ->
   compPost (model X.prog X.w) X.A X.xe use QQ (.ref s2.heap.objs.size) C (.ok .next) s4) :
  wpAny (model X.prog X.w) X.A (comprehension (.ListComp elt [⟨.Name x px,iter,[],0⟩] scope pos) scope X.env ps (newList []) false (eval iter X.env) use) QQ X.xe s:=by
 refine eO (use:=use) rfl hs hclos hk hnames ?_;refine thn (hi pins s σ H _ I h) λv s1 h1=>thn h1 λa3 s2 h2=>?_;obtain⟨it,fp,tn,J,H1,rfl,Z,T,t0,U,hR⟩:=h2;have an:∀b∈fp,∃o,s2.heap.get? b=some o/\∀v,o.data≠.cell v:=T.obj 0 _ t0;obtain⟨W,⟨m0,w0⟩,hW⟩:=hR s2.heap.objs.size (Z.hok.fresh (aj _));refine bW ?_;refine xw7 (x:=x) hk (hcf _) (hpc _) ?_;dsimp only;generalize hH2:s2.heap.push { cls:=.type "list",dict:=none,data:=.seq ([]:List Ag).toArray }=G2;have hC:G2.objs.size=s2.heap.objs.size+1:=by rw[<-hH2,cM]
 have L:s2.heap.objs.size<G2.objs.size:=by lia
 have kG:∀b o,G2.get? b=some o->((G2.push { cls:=.type "dict",data:=.dict #[] }).push { cls:=.type "cell",data:=.cell none }).get? b=some o:=λb o e=>ah _ (ah _ e);have as:((G2.push { cls:=.type "dict",data:=.dict #[] }).push { cls:=.type "cell",data:=.cell none }).IsCell (G2.objs.size+1) none:=⟨_,by rw[show G2.objs.size+1=(G2.push { cls:=.type "dict",data:=.dict #[] }).objs.size from (cM ..).symm];exact aA _ rfl,rfl⟩;have ap:((G2.push { cls:=.type "dict",data:=.dict #[] }).push { cls:=.type "cell",data:=.cell none }).Ns G2.objs.size λ_=>none:=(Heap.Ns.new G2 (.type "dict")).keeps λb o e=>ah _ e;generalize (G2.push { cls:=.type "dict",data:=.dict #[] }).push { cls:=.type "cell",data:=.cell none }=h3 at kG as ap;have ad:∀b o,s2.heap.get? b=some o->h3.get? b=some o:=λb o e=>kG b o (hH2▸ah _ e);have hD:h3.get? s2.heap.objs.size=some { cls:=.type "list",data:=.seq #[] 0 }:=kG _ _ (hH2▸aA _ rfl);have J0:∀tk,Inv (y8 X scope cl x (G2.objs.size+1) M G2.objs.size s2 H1 fp (X.pn++pins)) [] (zj M σ none) (upd H1 s2.heap.objs.size (.lst [])) { s2 with heap:=h3,toks:=tk }:=λtk =>
  Z.compK hcap hhas hix hk hnd L (eV _) as ad ap hD U λb D=>let ⟨o,e,_⟩:=an b D;⟨o,e⟩
 have ab:∀b∈fp,b<s2.heap.objs.size:=λb D=>let ⟨o,e,_⟩:=an b D;ak e;have a1:∀(H2:Hp),(∀b∈fp,H2 b=none)->∀b∈fp,vy (y8 X scope cl x (G2.objs.size+1) M G2.objs.size s2 H1 fp (X.pn++pins)) [] H2 b:=λH2 hn b D=>by
  obtain⟨q1,q2,q3,q4,q5,q6⟩:=U b D;refine⟨hn b D,aC (bb (ab b D) L),λz=>?_,.inl D,λy d e=>?_,λp hp=>q6 p ((aX.mp hp).elim (λz=>z) λz=>nomatch z)⟩
  .rcases aM.mp (Z.stkSub b z) with z|z
   .exact q2 z
   .exact q3 z
  .have F:((x,G2.objs.size+1)::cl).lookup y=some d:=e;rw[bw]at F;cases hb':y==x with
   |true =>
    rw[hb']at F;have:d=G2.objs.size+1:=(av F).symm;rw[this];exact(aC (bb (bb (ab b D) L) (eV _))).symm
   |false =>
    rw[hb']at F;exact q5 y d (hcap.look F)
 have t3:=T.keep 0 _ _ t0 λb _ o e=>ad b o e;have ac:=λtk=>jx (e:=.ListComp elt [⟨.Name x px,iter,[],0⟩] scope pos) (k:=0) (acc:=.ref s2.heap.objs.size) (Y:=y8 X scope cl x (G2.objs.size+1) M G2.objs.size s2 H1 fp (X.pn++pins)) (V:=λi n H2=>∃ys,W i n ys H2) (Qd:=Q (.ref s2.heap.objs.size)) (REST:=appS elt (.ref s2.heap.objs.size) (compEnvC scope ((x,G2.objs.size+1)::cl) G2.objs.size X.env) _) (post:=compPost (model X.prog X.w) X.A X.xe use QQ (.ref s2.heap.objs.size) G2.objs.size) T hc (λ_ _ z=>z) (compTurn_list1 ..) rfl rfl (wn (i:=0) hnd rfl (.inr hx) (.inl (fN x))) a1 (λi n H2 ⟨ys,w⟩=>by
  obtain⟨hp,hz,a0⟩:=hW i n ys H2 w
  refine a0.imp id λ⟨ax,hy⟩=>⟨ax,λv H3 yl=>⟨λσ4 H4=>σ4=zj M σ (some v)/\H3=H4,⟨rfl,rfl⟩,λ_ _ e=>?_⟩⟩
  obtain⟨rfl,rfl⟩:=e
  refine⟨Qb M σ v,λa2 s' J=>?_⟩
  exact aO (Yz (N:=λzs H5=>∃m',m'<n/\W (i+1) m' zs H5) (λ_ _ z=>z) (he _ _ _ _ _) J hz (hy v H3 yl)) (λr s5 ⟨e,H5,J5,zs,m',hm,w'⟩=>⟨e,H5,J5,m',hm,zs,w'⟩) λ_ _ z=>z)
  (λH2 s4 J4 q=>fin G2.objs.size s2 s4 H1 H2 fp Z L U J4 q) (J0 tk) ⟨[],w0⟩ t3 λb D=>by rw[qt (aC (ab b D))];exact(U b D).1
 exact gH (ac _) (T.self _ 0 _ _ _ t3 (ac _))
theorem qx4 (hc:X.calm=true)(hclos:closureFor scope X.env=pure cl)(hcap:CapAll X.env cl)(hhas:HasAllK x cl scope.names)(hix:CapIx X scope cl M)(hk:scope.kind=.function)
  (hnames:∀y∈scope.names,y.2=.local->scope.names.lookup y.1=some .local) (hcf:∀n,cellsFrom n scope.names cl=(x,n)::cl) (hpc:∀h,pushCells h scope.names=h.push { cls:=.type "cell",data:=.cell none }) (hx:(relabel scope X.env).names.lookup x=some .cell) (hnd:(Qt X x M).Nodup) (hi:PI X (.Name x px) iter wi)
  (he:∀C s2 H2 fp pn,PE (y8 X scope cl x (C+1) M C s2 H2 fp pn) elt te) (hs:autoParam (∀z,foldedSetIterable iter X.env z=pure z) aU3._auto_1) :
  PE X (.ListComp elt [⟨.Name x px,iter,[],0⟩] scope pos) (wvr M wi te):=by
 intro pins s σ H Q I h;rw[eval_ListComp];refine wju hc hclos hcap hhas hix hk hnames hcf hpc hx hnd hi he hs (use:=none) I h λC s2 s4 H1 H2 fp Z U W D J=>?_;obtain⟨m,L,_⟩:=D.loc;exact⟨m,L,λh' F=>⟨.ref s2.heap.objs.size,H2,Z.uncompK (bn U) W D F,rfl,J⟩⟩
end
end L2
namespace L2
open PySem PySem.Spec PyProof.Rows
theorem qu2 {X:Cx}{tg l:Expr}{tl:TE}{K:Aa}(hK:X.K=K)(hl:PE X l tl):PI X tg l (iList K tl):=by subst hK;exact zm hl
def Stay (G:Nat->V->Hp->Prop):Prop:=∀i v H H' p,G i v H->v≠.ref p->(∀b o,b≠p->H b=some o->H' b=some o)->G i v H'
theorem Wr {M:List Nat}{lo:Int}{n:Nat}{te:TE}{σ:St}{H:Hp}{Q:VK}(G:Nat->V->Hp->Prop)(gs:Stay G)(hn:n<=1000000)
  (he:∀(i:Nat) (H':Hp) (R:VK),i<n->Same H H'->(∀v H'',Same H' H''->G i v H''->(∀b,v=.ref b->H' b=none)->R v H'')->te (zj M σ (some (.int (lo+i)))) H' R)
  (k:∀p ys H',H p=none->Same H H'->H' p=some (.lst ys)->ys.length=n->(∀j v,ys[j]?=some v->G j v H'/\v≠.ref p)->Q (.ref p) H'):Ws (Itr lo n) M te σ H Q:=by
 intro p np;refine⟨λi m ys H2=>i<=n/\m=n-i/\ys.length=i/\Same H H2/\H2 p=some (.lst ys)/\∀j v,ys[j]?=some v->G j v H2/\v≠.ref p,⟨n,aY _,rfl,rfl,Same.upd np,upd_same,λj v e=>by cases e⟩,?_⟩;rintro i m ys H2 ⟨hi,rfl,hy,sm,hp,hG⟩;refine⟨hp,?_,?_⟩
 .have:(1000000:Nat)<sizeLine:=by decide
  lia
 .by_cases hlt:i<n
  .refine .inr ⟨hlt,?_⟩;rintro v H3 ⟨rfl,rfl⟩;refine he i _ _ hlt sm λv J D Z fr=>⟨D _ _ hp,n-(i+1),⋯,⋯,rfl,by rw[ao,hy];rfl,λb o e=>?_,upd_same,λj w e=>?_⟩
   .rw[qt (q9 e np)];exact D _ _ (sm _ _ e)
   .have L:v≠.ref p:=λz=>by have:=fr p z;rw[hp]at this;cases this
    have st:∀b o,b≠p->J b=some o->upd J p (.lst (ys++[v])) b=some o:=λb o F e=>by rw[qt F];exact e
    rcases(bo j ys.length) with z|z
    .rw[aT z]at e;obtain⟨g,U⟩:=hG j w e;exact⟨gs j w _ _ p g U λb o F e=>st b o F (D b o e),U⟩
    .rw[aG z]at e;have W:j=i:=by
      rcases bo (j-ys.length) 1 with y|y
      .lia
      .rw[aQ (by simpa using y)]at e;cases e
     subst W;rw[show j-ys.length=0 by lia]at e;have:v=w:=av e;subst this;exact⟨gs j v J _ p Z L st,L⟩
  .have:i=n:=by lia
   subst this;exact .inl ⟨aj _,k p ys _ np sm hp hy hG⟩
theorem Qv {K:Aa}{M:List Nat}{a:Aj}{xs:List V}{te:TE}{σ:St}{H:Hp}{Q:VK}(G:Nat->V->Hp->Prop)(gs:Stay G)(hS:SqL K H a xs)(hn:xs.length<=1000000)
  (he:∀(i:Nat) (x:V) (H':Hp) (R:VK),xs[i]?=some x->Same H H'->(∀v H'',Same H' H''->G i v H''->(∀b,v=.ref b->H' b=none)->R v H'')->te (zj M σ (some x)) H' R)
  (k:∀p ys H',H p=none->Same H H'->H' p=some (.lst ys)->ys.length=xs.length->(∀j v,ys[j]?=some v->G j v H'/\v≠.ref p)->Q (.ref p) H'):Ws (Itl K a) M te σ H Q:=by
 intro p np;refine⟨λi m ys H2=>i<=xs.length/\m=xs.length-i/\ys.length=i/\Same H H2/\H2 p=some (.lst ys)/\∀j v,ys[j]?=some v->G j v H2/\v≠.ref p,⟨xs.length,aY _,rfl,rfl,Same.upd np,upd_same,λj v e=>by cases e⟩,?_⟩;rintro i m ys H2 ⟨hi,rfl,hy,sm,hp,hG⟩;have L:SqL K H2 a xs:=Same.sql sm hS;refine⟨hp,?_,?_⟩
 .have:(1000000:Nat)<sizeLine:=by decide
  lia
 .by_cases hlt:i<xs.length
  .have J:xs[i]?=some xs[i]:=ae hlt;refine .inr ⟨⟨xs,_,L,J⟩,?_⟩;rintro v H3 ⟨rfl,hv⟩;have e:=hv xs L;rw[J]at e;have e':=av e;subst e';refine he i _ _ _ J sm λv U D g4 fr=>⟨D _ _ hp,xs.length-(i+1),⋯,⋯,rfl,by rw[ao,hy];rfl,λb o e=>?_,upd_same,λj w e=>?_⟩
   .rw[qt (q9 e np)];exact D _ _ (sm _ _ e)
   .have W:v≠.ref p:=λz=>by have:=fr p z;rw[hp]at this;cases this
    have st:∀b o,b≠p->U b=some o->upd U p (.lst (ys++[v])) b=some o:=λb o F e=>by rw[qt F];exact e
    rcases(bo j ys.length) with z|z
    .rw[aT z]at e;obtain⟨g,Z⟩:=hG j w e;exact⟨gs j w _ _ p g Z λb o F e=>st b o F (D b o e),Z⟩
    .rw[aG z]at e;have hj:j=i:=by
      rcases bo (j-ys.length) 1 with y|y
      .lia
      .rw[aQ (by simpa using y)]at e;cases e
     have e3:[v][j-ys.length]?=some w:=by assumption
     subst hj;rw[show j-ys.length=0 by lia]at e3;have:v=w:=av e3;subst this;exact⟨gs j v U _ p g4 W st,W⟩
  .have ab:i=xs.length:=by lia
   subst ab;exact .inl ⟨⟨xs,L,aj _⟩,k p ys _ np sm hp hy hG⟩
theorem wx0 {K:Aa}{M:List Nat}{a:Aj}{xs:List V}{te:TE}{σ:St}{H:Hp}{Q:VK}(f:V->V)(hf:∀x b,f x≠.ref b)(hS:SqL K H a xs)(hn:xs.length<=1000000)
  (he:∀(x:V) (H':Hp) (R:VK),x∈xs->Same H H'->(∀H'',Same H' H''->R (f x) H'')->te (zj M σ (some x)) H' R)
  (k:∀p H',H p=none->Same H H'->H' p=some (.lst (xs.map f))->Q (.ref p) H'):Ws (Itl K a) M te σ H Q:=by
 refine Qv (λi v _=>∃x,xs[i]?=some x/\v=f x) (λi v H H' p g _ _=>g) hS hn (λi x H' R z s J=>he x H' R (aF z) s λH'' F=>J _ _ F ⟨x,z,rfl⟩ λb e=>absurd e (hf x b)) λp ys H' np s D U L=>?_;have e:ys=xs.map f:=by
  refine bY λj=>?_;rw[aw];cases hj:ys[j]? with
  |none =>
   have:xs[j]?=none:=aQ (by have:=fS.mp hj;lia);rw[this];rfl
  |some v =>
   obtain⟨⟨x,z,rfl⟩,_⟩:=L j v hj;rw[z];rfl
 rw[e]at D;exact k p H' np s D
theorem quh {M:List Nat}{lo:Int}{n:Nat}{te:TE}{σ:St}{H:Hp}{Q:VK}(f:Nat->V)(hf:∀x b,f x≠.ref b)(hn:n<=1000000)
  (he:∀(i:Nat) (H':Hp) (R:VK),i<n->Same H H'->(∀H'',Same H' H''->R (f i) H'')->te (zj M σ (some (.int (lo+i)))) H' R)
  (k:∀p H',H p=none->Same H H'->H' p=some (.lst ((List.range n).map f))->Q (.ref p) H'):Ws (Itr lo n) M te σ H Q:=by
 refine Wr (λi v _=>v=f i) (λi v H H' p g _ _=>g) hn (λi H' R hi s J=>he i H' R hi s λH'' D=>J _ _ D rfl λb e=>absurd e (hf i b)) λp ys H' np s z U L=>?_;have e:ys=(List.range n).map f:=by
  refine bY λj=>?_;rw[aw];cases hj:ys[j]? with
  |none =>
   have:n<=j:=by have:=fS.mp hj;lia
   rw[aQ (by rw[aE];exact this)];rfl
  |some v =>
   have F:j<n:=by have:=(al.mp hj).1;lia
   rw[bi F,(L j v hj).1];rfl
 rw[e]at z;exact k p H' np s z
end L2
namespace L2
open PySem PySem.Spec PyProof.Rows
theorem uh:bootBuiltins "sum" = some (.builtin "sum"):=by decide +kernel
section
variable {X:Cx}{K:Aa}
theorem j9 (hK:X.K=K):IxR X (wzz K):=by subst hK;exact zq
theorem Zz (hK:X.K=K):k8 X (.builtin "len") (λxs H Q=>∃p ys,xs=[.ref p]/\(SqL K H p ys\/SqT K H p ys)/\Q (.int ys.length) H):=by subst hK;exact xf
theorem qkw (ns:List Int):∀n,preSum (λi=>ns.getD i 0) n=(ns.take n).sum
 |0=>by simp[preSum]
 |n+1=>by
  rw[preSum,qkw ns n,jU];cases e:ns[n]? with
  |none=>simp[af,e]
  |some v=>simp[af,e]
theorem v8 (hK:X.K=K)(hc:X.calm=true):k8 X (.builtin "sum") (λxs H Q=>∃(p:Aj) (ns:List Int),xs=[.ref p]/\SqL K H p (ns.map V.int)/\Q (.int ns.sum) H):=by
 subst hK;intro pins s σ H xs us Q I r h;obtain⟨p,ns,rfl,hS,q⟩:=h;obtain⟨u,rfl,F⟩:=js r;cases(show u=Value.ref p from F);obtain⟨D,J,⟨o,n,e1,e2,e3,e4⟩,hz⟩:=I.list hS;have Z:s.heap.IsList p D.toArray:=⟨o,e1,e2,n,e4⟩;have U:p<s.heap.objs.size:=ak e1;have W:D.length=ns.length:=by rw[<-J.length,ag]
 refine call_sum_walkG (gD Z ?_);refine⟨s.heap.objs.size,_,_,_,_,_,λi=>ns.getD i 0,rfl,Walks.list (A:=X.A.in1) (I.ok.hd hc) _ p (aC U) D.toArray,⟨⟨_,aA _ rfl,rfl,rfl⟩,Z.push _⟩,λb hb=>?_,λi v hP=>?_,λh' tk t' hk=>?_⟩
 .rcases aM.mp hb with z|z
  .rw[z,cM];exact eV _
  .rw[aU.mp z,cM];exact fI U
 .have L:D[i]?=some v:=by simpa using hP
  have hi:i<(ns.map V.int).length:=by rw[ag,<-W];exact(al.mp L).1
  obtain⟨u,eu,F⟩:=J.get (i:=i) (ae hi);rw[L]at eu;cases eu;rw[gS]at F;obtain⟨t,rfl⟩:=F;rw[ag]at hi;exact⟨t,by show Value.int ns[i] t=Value.int (ns.getD i 0) t;rw[af,ae hi];rfl⟩
 .have e:preSum (λi=>ns.getD i 0) D.toArray.size=ns.sum:=by rw[qkw,au,W,bE]
  rw[e];refine⟨.int _,H,I.kept λb ob e=>hk b ob (λhm=>?_) (ah _ e),⟨t',rfl⟩,q⟩;have z:b=s.heap.objs.size:=by simpa using hm
  exact aW _ (z▸ak e)
end
def xm (n:Nat)(g:Nat->Int):List Int:=(List.range n).map g
theorem Wc (n:Nat)(g:Nat->Int):(xm n g).length=n:=by unfold xm;rw[ag,aE]
theorem qxm {n i:Nat}{g:Nat->Int}(h:i<n):(xm n g)[i]?=some (g i):=by unfold xm;rw[aw,bi h];rfl
theorem qzg (n:Nat)(g:Nat->Int):(xm n g).map V.int=(List.range n).map λi=>V.int (g i):=by unfold xm;rw[bp];rfl
theorem zn {n:Nat}{f g:Nat->Int}(h:∀i,i<n->f i=g i):xm n f=xm n g:=cu λi hi=>h i (aq.mp hi)
def MatAt (H:Hp)(p:Aj)(n:Nat)(f:Nat->Nat->Int):Prop:=∃ys,H p=some (.lst ys)/\ys.length=n/\∀i v,ys[i]?=some v->∃q,v=.ref q/\H q=some (.lst ((xm n (f i)).map V.int))
theorem MatAt.same {H H':Hp}{p:Aj}{n:Nat}{f:Nat->Nat->Int}(h:MatAt H p n f)(s:Same H H'):MatAt H' p n f:=by obtain⟨ys,e,l,r⟩:=h;exact⟨ys,s _ _ e,l,λi v z=>let ⟨q,a,b⟩:=r i v z;⟨q,a,s _ _ b⟩⟩
theorem MatAt.row {H:Hp}{p:Aj}{n:Nat}{f:Nat->Nat->Int}(h:MatAt H p n f){ys:List V}(e:H p=some (.lst ys)){i:Nat}(hi:i<n):∃q,ys[i]?=some (.ref q)/\H q=some (.lst ((xm n (f i)).map V.int)):=by obtain⟨F,D,l,r⟩:=h;rw[e]at D;cases D;have z:ys[i]?=some ys[i]:=ae ⋯;obtain⟨q,a,b⟩:=r i _ z;exact⟨q,by rw[z,a],b⟩
def k7 (n:Nat)(g:Nat->Int):Int:=(xm n g).sum
theorem vt (n:Nat)(g:Nat->Int):k7 (n+1) g=k7 n g+g n:=by unfold k7 xm;rw[bK,aR,cH];simp
theorem xxy (n:Nat)(g h:Nat->Int):k7 n (λi=>g i+h i)=k7 n g+k7 n h:=by
 induction n with
 |zero=>rfl
 |succ n ih=>rw[vt,vt,vt,ih];lia
theorem Y7 (n:Nat)(g:Nat->Int)(h:∀i,i<n->g i=0):k7 n g=0:=by
 induction n with
 |zero=>rfl
 |succ n ih=>rw[vt,ih λi hi=>h i ⋯,h n ⋯];rfl
theorem Qp {n:Nat}{g h:Nat->Int}(e:∀i,i<n->g i=h i):k7 n g=k7 n h:=by unfold k7;rw[zn e]
theorem qu0 {n i:Nat}(hi:i<n)(g:Nat->Int):k7 n (λk=>(if k=i then 1 else 0)*g k)=g i:=by
 induction n with
 |zero=>lia
 |succ n ih =>
  rw[vt];rcases(by lia:i<n\/i=n) with z|z
  .rw[ih z,ar ⋯];lia
  .subst z;rw[ay rfl,Y7 _ _ λk D=>by rw[ar ⋯,Int.zero_mul]];lia
theorem qup {α:Type}(n:Nat)(F:α->Nat->Int):∀L:List α,(L.map λv=>k7 n (F v)).sum=k7 n λk=>(L.map λv=>F v k).sum
 |[]=>by rw[da,fv,Y7];intro i _;rfl
 |v::L=>by rw[aI,bN,qup n F L,<-xxy];refine Qp λk _=>?_;rw[aI,bN]
def zc (cov:Nat->List Int):Nat->Nat->Nat->Int
 |0=>λi j=>if j=i then 1 else 0
 |m+1=>λi j=>((cov i).map λv=>zc cov m v.toNat j).sum
end L2
namespace L2
open PySem PySem.Spec PyProof.Rows
def Yn (X:Cx)(x y:Str)(M:List Nat):List Str:=x::y::M.map λj=>X.N.getD j Str.empty
def xy (M:List Nat)(σ:St)(o o':Option V):St:=o::o'::M.map λj=>(σ[j]?).join
abbrev wt (X:Cx)(scope:Scope)(cl:List (Str×Aj))(x y:Str)(M:List Nat)(C:Aj)(s2:Ab)(H2:Hp)(fp:List Aj)(pn:List (Aj×Obj)):Cx :=
 { X with N:=Yn X x y M,s₀:=s2,H₀:=H2,env:=compEnvC scope cl C X.env,outer:=X.stack,ex:=fp,fn:=λ_=>false,pn:=pn,xe:=λ_ _=>False }
section
variable {X:Cx}{pins:List (Aj×Obj)}{σ:St}{H:Hp}{s2:Ab}{scope:Scope}{cl:List (Str×Aj)}{x y:Str}{M:List Nat}{fp:List Aj}{C:Aj}{h1:Heap}{tk:Nat}
theorem Inv.comp2 (I:Inv X pins σ H s2)(hc:CapAll X.env cl)(hh:HasAll cl scope.names)(hm:CapIx X scope cl M)(hk:scope.kind=.function)(hC:s2.heap.objs.size<C)
  (keep:∀b o,s2.heap.get? b=some o->h1.get? b=some o) (hn:h1.Ns C λ_=>none) (hD:h1.get? s2.heap.objs.size=some { cls:=.type "list",data:=.seq #[] 0 })
  (hfp:∀b∈fp,vy X pins H b) (hob:∀b∈fp,∃o,s2.heap.get? b=some o) :
  Inv (wt X scope cl x y M C s2 H fp (X.pn++pins)) [] (xy M σ none none) (upd H s2.heap.objs.size (.lst [])) { s2 with heap:=h1,toks:=tk }:=I.compG (xs:=[x,y]) hc hh hm hk hC keep hn ⟨aY _,[],0,.nil,hD⟩ hfp hob
theorem Inv.uncomp2 {pins':List (Aj×Obj)}{σ':St}{H':Hp}{s':Ab}{h':Heap}(I:Inv X pins σ H s2)(hC:s2.heap.objs.size<=C)(hfp:∀b∈fp,vy X pins H b)
  (J:Inv (wt X scope cl x y M C s2 H fp (X.pn++pins)) pins' σ' H' s') (hs:Heap.SameBut C s'.heap h'):Inv X pins σ H' { s' with heap:=h' }:=by
 have D:=J.base;have U:∀b o,s2.heap.get? b=some o->b≠C:=λb o e=>aC (aN (ak e) hC);have st:∀b o,b≠C->s'.heap.get? b=some o->h'.get? b=some o:=λb o n e=>(hs.2 b n).trans e;refine I.call' (s':={ s' with heap:=h' }) (ch:=fp) J.os ⟨λb o e n nb F=>st b o (U b o e) (D.keep b o e n nb F),λb o e n ac F=>?_,D.free,λb o e F=>?_,D.tups,D.frzs,D.tbls⟩ ?_ J.bare λb ab=>?_
 .obtain⟨sl,Z⟩:=D.slot b o e n ac F;exact⟨sl,st b _ (U b o e) Z⟩
 .obtain⟨o',Z⟩:=D.there b o e F;exact⟨o',st b _ (U b o e) Z⟩
 .intro b u W;have fr:H' C=none:=J.free;refine(J.hok b u W).stay (λc v L e=>st c v ?_ e) (λ_ z=>z) λ_ _ z=>z;rcases L with rfl|L
  .intro z;rw[z,fr]at W;cases W
  .intro z;rw[z,fr]at L;cases L
 .obtain⟨q1,q2,q3,q4,q5,q6⟩:=hfp b ab;exact⟨q4,q2,q5,q6⟩
end
theorem turn_a (elt t0 i0 t1 i1:Expr)(scope:Scope)(pos:Pos)(it acc:Ag)(env:Env):compTurn (elt.ListComp [⟨t0,i0,[],0⟩,⟨t1,i1,[],0⟩] scope pos) 0 it acc env=(do
 standAt i0.pos
 let r <-pyNext it
 match r with
 |none=>pure (PySem.Fin.done Flow.next)
 |some v=>do
  letOwnedTupleGo t0 it v
  assign t0 env v
  let x <-eval i1 env
  standAt i1.pos
  let x <-foldedSetIterable i1 env x
  let it1 <-holding [x] (pyIter x)
  let _ <-runOwn (Code.compStart (elt.ListComp [⟨t0,i0,[],0⟩,⟨t1,i1,[],0⟩] scope pos) 1 it1 acc env) env
  again (Code.compLoop (elt.ListComp [⟨t0,i0,[],0⟩,⟨t1,i1,[],0⟩] scope pos) 0 it acc env)):=rfl
theorem turn_b (elt t0 i0 t1 i1:Expr)(scope:Scope)(pos:Pos)(it acc:Ag)(env:Env):compTurn (elt.ListComp [⟨t0,i0,[],0⟩,⟨t1,i1,[],0⟩] scope pos) 1 it acc env=(do
 standAt i1.pos
 let r <-pyNext it
 match r with
 |none=>pure (PySem.Fin.done Flow.next)
 |some v=>do
  letOwnedTupleGo t1 it v
  assign t1 env v
  (do
   let x <-eval elt env
   let _ <-call (.builtin "list.append") [acc,x]
   pure ())
  again (Code.compLoop (elt.ListComp [⟨t0,i0,[],0⟩,⟨t1,i1,[],0⟩] scope pos) 1 it acc env)):=rfl
theorem wkw {prog:Ac}{w:Ah}{A:Ae}{R:Result->Ab->Prop}{s:Ab}{elt t0 i0 t1 i1:Expr}{scope:Scope}{pos:Pos}{it acc:Ag}{env:Env}{ifs:List Expr}
  (h1:codeAny (model prog w) A (Code.compLoop (elt.ListComp [⟨t0,i0,[],0⟩,⟨t1,i1,ifs,0⟩] scope pos) 1 it acc env) R s)
  (h2:∀(E:Ag->Ab->Prop),wpAny (model prog w) A (pyIter it) (λit' s'=>codeAny (model prog w) A (Code.compLoop (elt.ListComp [⟨t0,i0,[],0⟩,⟨t1,i1,ifs,0⟩] scope pos) 1 it' acc env) R s') E s) :
  codeAny (model prog w) A (Code.compStart (elt.ListComp [⟨t0,i0,[],0⟩,⟨t1,i1,ifs,0⟩] scope pos) 1 it acc env) R s:=by
 refine codeAny_of_tree ?_;show wpAny (model prog w) _ ((compStart (elt.ListComp [⟨t0,i0,[],0⟩,⟨t1,i1,ifs,0⟩] scope pos) 1 it acc env).onRaise (λz=>do noteFrame z env;standAt theWindowsPlace)) _ _ s;refine wpAny_onRaise ?_;unfold compStart;rw[ar (show ¬ ((clausesOf (elt.ListComp [⟨t0,i0,[],0⟩,⟨t1,i1,ifs,0⟩] scope pos))[1]?.elim false λx=>x.is_async != 0)=true from aH)];refine aa (fO ?_);split
 .exact ai ⟨rfl,h1⟩
 .refine aa (dA ?_);show wpAny _ _ (standAt i1.pos >>= λ_=>pyIter it >>= λz=>again (Code.compLoop (elt.ListComp [⟨t0,i0,[],0⟩,⟨t1,i1,ifs,0⟩] scope pos) 1 z acc env)) _ _ s;refine aa (cB (aa (aO (h2 _) (λz s' D=>ai ⟨rfl,D⟩) λ_ _ e=>e)))
def InnR (J2:It)(M:List Nat)(te:TE)(σ:St)(v:V)(p:Aj)(ys:List V)(H4:Hp)(Wx:List V->Hp->Prop):Prop:=∃W2:Nat->Nat->List V->Hp->Prop,(∃m2,W2 0 m2 ys H4) /\
 ∀j m2 zs H5,W2 j m2 zs H5->H5 p=some (.lst zs)/\zs.length<sizeLine/\((J2.stop j H5/\Wx zs H5)\/(J2.go j H5/\∀u H6,J2.yld j H5 u H6 ->
  te (xy M σ (some v) (some u)) H6 λy H7=>H7 p=some (.lst zs)/\∃m2',m2'<m2/\W2 (j+1) m2' (zs++[y]) (upd H7 p (.lst (zs++[y])))))
def wzd (J:It)(M:List Nat)(wi2:TI)(te:TE)(σ:St)(H1:Hp)(Q:VK):Prop:=∀p,H1 p=none->∃W:Nat->Nat->List V->Hp->Prop,(∃m,W 0 m [] (upd H1 p (.lst []))) /\
 ∀i m ys H2,W i m ys H2->H2 p=some (.lst ys)/\((J.stop i H2/\Q (.ref p) H2)\/(J.go i H2/\∀v H3,J.yld i H2 v H3 ->
  wi2 (xy M σ (some v) none) H3 λJ2 H4=>InnR J2 M te σ v p ys H4 λzs H5=>∃m',m'<m/\W (i+1) m' zs H5))
def tComp2 (M:List Nat)(wi wi2:TI)(te:TE):TE:=λσ H Q=>wi σ H λJ H1=>wzd J M wi2 te σ H1 Q
section
variable {X:Cx}{elt iter iter2:Expr}{x y:Str}{px py pos:Pos}{scope:Scope}{cl:List (Str×Aj)}{M:List Nat}{wi wi2:TI}{te:TE}
theorem wj3 (hc:X.calm=true)(hclos:closureFor scope X.env=pure cl)(hcap:CapAll X.env cl)(hhas:HasAll cl scope.names)(hix:CapIx X scope cl M)(hk:scope.kind=.function)
  (hnames:∀y∈scope.names,y.2=.local->scope.names.lookup y.1=some .local) (hx:scope.names.lookup x=some .local) (hy:scope.names.lookup y=some .local) (hnd:(Yn X x y M).Nodup) (hi:PI X (.Name x px) iter wi)
  (hi2:∀C s2 H2 fp pn,PI (wt X scope cl x y M C s2 H2 fp pn) (.Name y py) iter2 wi2)
  (he:∀C s2 H2 fp pn,PE (wt X scope cl x y M C s2 H2 fp pn) elt te) (hs:∀z,foldedSetIterable iter X.env z=pure z) (hs2:∀env z,foldedSetIterable iter2 env z=pure z)
  {use:Option (Ag->Sem Unit)} {QQ:Ag->Ab->Prop} {pins:List (Aj×Obj)} {s:Ab} {σ:St} {H:Hp} {Q:VK} {ps:Pos} (I:Inv X pins σ H s) (h:wi σ H λJ H1=>wzd J M wi2 te σ H1 Q)
  (fin:∀(C:Aj) (s2 s4:Ab) (H1 H2:Hp) (fp:List Aj),Inv X pins σ H1 s2->s2.heap.objs.size<C->(∀b∈fp,vy X pins H1 b)->Inv (wt X scope cl x y M C s2 H1 fp (X.pn++pins)) [] (xy M σ none none) H2 s4->Q (.ref s2.heap.objs.size) H2 ->
   compPost (model X.prog X.w) X.A X.xe use QQ (.ref s2.heap.objs.size) C (.ok .next) s4) :
  wpAny (model X.prog X.w) X.A (comprehension (.ListComp elt [⟨.Name x px,iter,[],0⟩,⟨.Name y py,iter2,[],0⟩] scope pos) scope X.env ps (newList []) false (eval iter X.env) use) QQ X.xe s:=by
 refine eO (use:=use) rfl hs hclos hk hnames ?_;refine thn (hi pins s σ H _ I h) λv s1 h1=>thn h1 λdl s2 h2=>?_;obtain⟨it,fp,tn,J,H1,rfl,I2,T,t0,ad,hR⟩:=h2;have bk:∀b∈fp,∃o,s2.heap.get? b=some o/\∀v,o.data≠.cell v:=T.obj 0 _ t0;obtain⟨W,⟨m0,w0⟩,hW⟩:=hR s2.heap.objs.size (I2.hok.fresh (aj _));refine bW ?_;refine fL hhas.nocell (by intro y hy;cases hy) (λh3 as ac=>?_) hk;dsimp only at as ac ⊢;generalize hH2:s2.heap.push { cls:=.type "list",dict:=none,data:=.seq ([]:List Ag).toArray }=G2 at as ac ⊢;have hC:G2.objs.size=s2.heap.objs.size+1:=by rw[<-hH2,cM]
 have ab:s2.heap.objs.size<G2.objs.size:=by lia
 have ap:∀b o,s2.heap.get? b=some o->h3.get? b=some o:=λb o e=>by have D:b≠G2.objs.size:=aC (bb (ak e) ab);rw[ac.2 b D];exact ah _ (hH2▸ah _ e)
 have hD:h3.get? s2.heap.objs.size=some { cls:=.type "list",data:=.seq #[] 0 }:=by rw[ac.2 _ (aC ab)];exact ah _ (hH2▸aA _ rfl)
 have cs:h3.Ns G2.objs.size λ_=>none:=as;have J0:∀tk,Inv (wt X scope cl x y M G2.objs.size s2 H1 fp (X.pn++pins)) [] (xy M σ none none) (upd H1 s2.heap.objs.size (.lst [])) { s2 with heap:=h3,toks:=tk }:=λtk =>
  I2.comp2 hcap hhas hix hk ab ap cs hD ad λb D=>let ⟨o,e,_⟩:=bk b D;⟨o,e⟩
 have bm:∀b∈fp,b<s2.heap.objs.size:=λb D=>let ⟨o,e,_⟩:=bk b D;ak e;have a1:∀(H2:Hp),(∀b∈fp,H2 b=none)->∀b∈fp,vy (wt X scope cl x y M G2.objs.size s2 H1 fp (X.pn++pins)) [] H2 b:=λH2 hn b D=>by
  obtain⟨q1,q2,q3,q4,q5,q6⟩:=ad b D;refine⟨hn b D,aC (bb (bm b D) ab),λz=>?_,.inl D,λy c e=>q5 y c (hcap.look e),λp hp=>q6 p ((aX.mp hp).elim (λz=>z) λz=>nomatch z)⟩;rcases aM.mp (I2.stkSub b z) with z|z
  .exact q2 z
  .exact q3 z
 have bd:(relabel scope X.env).names.lookup x=some .local:=cU hx;have bc:(relabel scope X.env).names.lookup y=some .local:=cU hy;have a8:∀tk,codeAny (model X.prog X.w) X.A (.compLoop (.ListComp elt [⟨.Name x px,iter,[],0⟩,⟨.Name y py,iter2,[],0⟩] scope pos) 0 (.ref it) (.ref s2.heap.objs.size) (compEnvC scope cl G2.objs.size X.env))
   (compPost (model X.prog X.w) X.A X.xe use QQ (.ref s2.heap.objs.size) G2.objs.size) { s2 with heap:=h3,toks:=tk }:=λtk=>by
  refine codeAny_loop rfl (λn s3=>∃i ys H2,W i n ys H2/\Inv (wt X scope cl x y M G2.objs.size s2 H1 fp (X.pn++pins)) [] (xy M σ none none) H2 s3/\tn i s3.heap/\∀b∈fp,H2 b=none) (λn s3 hI=>?_) m0
   ⟨0,[],_,w0,J0 tk,T.keep 0 _ _ t0 λb _ o e=>ap b o e,λb D=>by rw[qt (aC (bm b D))];exact(ad b D).1⟩
  obtain⟨i,ys,H2,w,J2,t,a6⟩:=hI;show wpAny _ _ ((compTurn (.ListComp elt [⟨.Name x px,iter,[],0⟩,⟨.Name y py,iter2,[],0⟩] scope pos) 0 (.ref it) (.ref s2.heap.objs.size) (compEnvC scope cl G2.objs.size X.env)).onRaise λz=>do noteFrame z (compEnvC scope cl G2.objs.size X.env);theTreesLotGoes z) _ _ s3;refine wpAny_noted ?_;rw[turn_a];refine aa (cB (aa ?_));obtain⟨hp,c3⟩:=hW i n ys H2 w;rcases c3 with⟨ci,hq⟩|⟨c1,ca⟩
  .refine aO (T.done (wt X scope cl x y M G2.objs.size s2 H1 fp (X.pn++pins)) rfl rfl rfl hc i [] s3 _ H2 (λ_ _=>False) J2 (a1 H2 a6) t ci) (λr s4 U=>?_) λ_ _ z=>z.elim;obtain⟨rfl,J4⟩:=U;refine ai ?_;exact fin G2.objs.size s2 s4 H1 H2 fp I2 ab ad J4 hq
  .refine aO (T.item (wt X scope cl x y M G2.objs.size s2 H1 fp (X.pn++pins)) rfl rfl rfl hc i [] s3 _ H2 (λ_ _=>False) J2 (a1 H2 a6) t c1) (λr s4 U=>?_) λ_ _ z=>z.elim;obtain⟨u,rfl,hw⟩:=U;refine aa (aO hw (λ_ s5 ck=>?_) λ_ _ z=>z.elim);obtain⟨v,H3,J5,rv,yl,t5,nf⟩:=ck;have c6:=J5.pinned (a1 H3 nf) (T.obj _ _ t5);refine aa (aO (wn (X:=wt X scope cl x y M G2.objs.size s2 H1 fp (X.pn++pins)) (i:=0) hnd rfl (.inl bd) (.inr bd) _ s5 _ H3 v u (λσ' H'=>σ'=xy M σ (some v) none/\H'=H3) c6 rv ⟨rfl,rfl⟩) (λ_ s6 cj=>?_) λ_ _ z=>z.elim);obtain⟨σ6,H6,J6,rfl,rfl⟩:=cj;refine aa (aO (hi2 _ _ _ _ _ _ s6 _ H6 _ J6 (ca v H6 yl)) (λv1 s7 h7=>?_) λ_ _ z=>z.elim);refine aa (cB ?_);rw[hs2];refine aa (ai (aa (b8 (aO h7 (λdk s8 h8=>?_) λ_ _ z=>z.elim))));obtain⟨a9,ax,tn2,Jb,H8,rfl,I8,T2,t8,bl,W2,⟨m2,w2⟩,c4⟩:=h8;have a0:∀(L:Hp),(∀b∈ax,L b=none)->∀b∈ax,vy (wt X scope cl x y M G2.objs.size s2 H1 fp (X.pn++pins)) ([]++Zr fp s5.heap) L b:=λL hn b D=>⟨hn b D,(bl b D).2⟩;refine aa (wpAny_runOwn ?_);have a7:codeAny (model X.prog X.w) X.A (.compLoop (.ListComp elt [⟨.Name x px,iter,[],0⟩,⟨.Name y py,iter2,[],0⟩] scope pos) 1 (.ref a9) (.ref s2.heap.objs.size) (compEnvC scope cl G2.objs.size X.env))
     (λr s'=>match r with
      |.ok f=>wpAny (model X.prog X.w) X.A (again (Code.compLoop (elt.ListComp [⟨.Name x px,iter,[],0⟩,⟨.Name y py,iter2,[],0⟩] scope pos) 0 (.ref it) (.ref s2.heap.objs.size) (compEnvC scope cl G2.objs.size X.env))) (λfin s'=>match fin with
        |Fin.done f=>compPost (model X.prog X.w) X.A X.xe use QQ (.ref s2.heap.objs.size) G2.objs.size (.ok f) s'
        |Fin.again c'=>c'=(Code.compLoop (elt.ListComp [⟨.Name x px,iter,[],0⟩,⟨.Name y py,iter2,[],0⟩] scope pos) 0 (.ref it) (.ref s2.heap.objs.size) (compEnvC scope cl G2.objs.size X.env))/\∃m,m<n/\∃i ys H2,W i m ys H2/\Inv (wt X scope cl x y M G2.objs.size s2 H1 fp (X.pn++pins)) [] (xy M σ none none) H2 s'/\tn i s'.heap/\∀b∈fp,H2 b=none) (λ_ _=>False) s'
      |.error _=>False) s8:=by
    refine codeAny_loop rfl (λn2 Z=>∃j zs L,W2 j n2 zs L/\Inv (wt X scope cl x y M G2.objs.size s2 H1 fp (X.pn++pins)) ([]++Zr fp s5.heap) (xy M σ (some v) none) L Z/\tn2 j Z.heap/\∀b∈ax,L b=none) (λn2 Z c5=>?_) m2
     ⟨0,ys,H8,w2,I8,t8,λb D=>(bl b D).1⟩
    obtain⟨j,zs,L,w9,J9,t9,a5⟩:=c5;show wpAny _ _ ((compTurn (.ListComp elt [⟨.Name x px,iter,[],0⟩,⟨.Name y py,iter2,[],0⟩] scope pos) 1 (.ref a9) (.ref s2.heap.objs.size) (compEnvC scope cl G2.objs.size X.env)).onRaise λz=>do noteFrame z (compEnvC scope cl G2.objs.size X.env);theTreesLotGoes z) _ _ Z;refine wpAny_noted ?_;rw[turn_b];refine aa (cB (aa ?_));obtain⟨dm,b9,c2⟩:=c4 j n2 zs L w9;rcases c2 with⟨ce,m',cv,wq⟩|⟨c0,cb⟩
    .refine aO (T2.done (wt X scope cl x y M G2.objs.size s2 H1 fp (X.pn++pins)) rfl rfl rfl hc j _ Z _ L (λ_ _=>False) J9 (a0 L a5) t9 ce) (λr b4 U=>?_) λ_ _ z=>z.elim;obtain⟨rfl,a3⟩:=U;refine ai ?_;refine ai ⟨rfl,m',cv,i+1,zs,L,wq,?_,?_,?_⟩
     .refine(a3.unpinned (pins:=[])).weak rfl λk z F=>?_
      match k,F with
      |0,F=>cases F
      |1,F=>cases F
      |k+2,F=>exact F
     .exact T.keep _ _ _ t5 λb D o e=>(a3.pin (b,o) (az _ (az _ (vc D e)))).1
     .intro b D;obtain⟨o,e,_⟩:=T.obj _ _ t5 b D;exact(a3.pin (b,o) (az _ (az _ (vc D e)))).2.1
    .refine aO (T2.item (wt X scope cl x y M G2.objs.size s2 H1 fp (X.pn++pins)) rfl rfl rfl hc j _ Z _ L (λ_ _=>False) J9 (a0 L a5) t9 c0) (λr b4 U=>?_) λ_ _ z=>z.elim;obtain⟨u2,rfl,cc⟩:=U;refine aa (aO cc (λ_ b3 cq=>?_) λ_ _ z=>z.elim);obtain⟨vb,a4,db,b5,bx,an,b6⟩:=cq;have c9:=db.pinned (a0 a4 b6) (T2.obj _ _ an);refine aa (aO (wn (X:=wt X scope cl x y M G2.objs.size s2 H1 fp (X.pn++pins)) (i:=1) hnd rfl (.inl bc) (.inr bc) _ b3 _ a4 vb u2 (λσ' H'=>σ'=xy M σ (some v) (some vb)/\H'=a4) c9 b5 ⟨rfl,rfl⟩) (λ_ b2 cp=>?_) λ_ _ z=>z.elim);obtain⟨dd,bs,c8,rfl,rfl⟩:=cp;refine aa (aa (aO (he _ _ _ _ _ _ b2 _ bs _ c8 (cb vb bs bx)) (λyv b1 co=>?_) λ_ _ z=>z.elim));obtain⟨yy,bq,c7,ry,cr,m3,ct,b0⟩:=co;refine aa (aO (jw (X:=wt X scope cl x y M G2.objs.size s2 H1 fp (X.pn++pins)) _ b1 _ bq (.ref s2.heap.objs.size) [yy] (.ref s2.heap.objs.size) [yv] (λ_ H8=>H8=upd bq s2.heap.objs.size (.lst (zs++[yy]))) c7 rfl (.cons ry .nil) ⟨_,zs,yy,rfl,rfl,cr,b9,rfl⟩) (λ_ dg cm=>?_) λ_ _ z=>z.elim);obtain⟨_,dn,a2,_,rfl⟩:=cm;refine ai (ai ⟨rfl,m3,ct,j+1,zs++[yy],_,b0,?_,?_,?_⟩)
     .refine(a2.unpinned (pins:=[]++Zr fp s5.heap)).weak rfl λk z F=>?_
      match k,F with
      |0,F=>exact F
      |1,F=>cases F
      |k+2,F=>exact F
     .exact T2.keep _ _ _ an λb D o e=>(a2.pin (b,o) (az _ (az _ (vc D e)))).1
     .intro b D;obtain⟨o,e,_⟩:=T2.obj _ _ an b D;exact(a2.pin (b,o) (az _ (az _ (vc D e)))).2.1
   refine eJ (wkw a7 λE2=>T2.self _ 0 _ _ _ t8 a7) λr s' U=>?_;cases r with
   |ok f=>exact aO U (λ_ _ z=>z) λ_ _ z=>z.elim
   |error e=>exact U.elim
 exact gH (a8 _) (T.self _ 0 _ _ _ (T.keep 0 _ _ t0 λb _ o e=>ap b o e) (a8 _))
end
section
variable {X:Cx}{elt iter iter2:Expr}{x y2:Str}{px py2 pos:Pos}{scope:Scope}{cl:List (Str×Aj)}{M:List Nat}{wi wi2:TI}{te:TE}
theorem _root_.aU7 (h:True:=by intros;rfl):True:=h
theorem wwz {i:Nat}{y:Str}{py spos:Pos}(hN:X.N.Nodup)(hyi:X.N[i]?=some y)(hyl:Loc X.env.scope y)(hc:X.calm=true)(hclos:closureFor scope X.env=pure cl)(hcap:CapAll X.env cl)(hhas:HasAll cl scope.names)(hix:CapIx X scope cl M)(hk:scope.kind=.function)
  (hnames:∀y∈scope.names,y.2=.local->scope.names.lookup y.1=some .local) (hx:scope.names.lookup x=some .local) (hy2:scope.names.lookup y2=some .local) (hnd:(Yn X x y2 M).Nodup) (hi:PI X (.Name x px) iter wi) (hi2:∀C s2 H2 fp pn,PI (wt X scope cl x y2 M C s2 H2 fp pn) (.Name y2 py2) iter2 wi2)
  (he:∀C s2 H2 fp pn,PE (wt X scope cl x y2 M C s2 H2 fp pn) elt te) (hs:autoParam (∀z,foldedSetIterable iter X.env z=pure z) aU3._auto_1) (hs2:autoParam (∀env z,foldedSetIterable iter2 env z=pure z) aU7._auto_1)
  (hsw:autoParam (swapsWith (.ListComp elt [⟨.Name x px,iter,[],0⟩,⟨.Name y2 py2,iter2,[],0⟩] scope pos) (some (.Name y py)) spos.line X.env=pure true) aU4._auto_1) (hyf:autoParam (X.fn y=true\/X.env.scope.names.lookup y=some .local) aU0._auto_1) :
  PS X (.Assign [.Name y py] (.ListComp elt [⟨.Name x px,iter,[],0⟩,⟨.Name y2 py2,iter2,[],0⟩] scope pos) spos) (tAsg (tComp2 M wi wi2 te) (W9 i)):=by
 intro pins s σ H D I h;rw[gO _ _ _ _ hsw];refine aa (cB (aa ?_));refine aa (aO (wj3 hc hclos hcap hhas hix hk hnames hx hy2 hnd hi hi2 he hs hs2 (use:=some (assign (.Name y py) X.env)) (QQ:=λ_ s'=>SP X pins D .next s') I h λC s2 W H1 H2 fp J L ax J4 hq=>?_) (λ_ s' hq=>ai (ai hq)) λ_ _ e=>e);have F:Inv X pins σ H2 W:=J.uncomp2 (h':=W.heap) (bn L) ax J4 (iV _ _);have ad:H2 C=none:=J4.free;obtain⟨mC,as,_⟩:=J4.loc;obtain⟨Z,a5,a6,ap,ac⟩:=id as;have ab:C≠X.env.locals:=λz=>aW _ (bb L (z▸J.lt));have a1:X.s₀.heap.objs.size<=C:=bI J.sz (bn L);have a3:∀y c,X.env.cells.lookup y=some c->c≠C:=λy c e z=>by obtain⟨v,o,U,_⟩:=J.cell y c e;exact aW _ (bb L (z▸ak U))
 have a2:∀p∈X.pn++pins,p.1≠C:=λp hp z=>aW _ (bb L (z▸ak (J.pin p hp).1));have a8:C∉frs X.stack:=λz=>by
  rcases aM.mp (J.stkSub C z) with q|q
  .exact ab q
  .obtain⟨_,o,U,_⟩:=J.funs.mem (b:=C) q;exact aW _ (bb L (ak U))
 have a0:C∉X.fs:=λz=>by obtain⟨_,o,U,_⟩:=J.funs.mem (b:=C) z;exact aW _ (bb L (ak U))
 have a7:Inv X (pins++[(C,Z)]) σ H2 W:=⟨F.ok,F.os,F.bare,F.base,F.loc,F.cell,F.free,F.freeC,λp hp=>by
  rcases aX.mp hp with q|q
  .exact F.pin p (cy _ q)
  .rcases aX.mp q with q|q
   .exact F.pin p (az _ q)
   .rw[aU.mp q]
    exact⟨ap,ad,ab,a0,λv z=>by rw[ac.1]at z;cases z⟩,F.hok,F.len⟩
 show wpAny _ _ (assign (.Name y py) X.env (.ref s2.heap.objs.size)) _ _ _;refine gC (jf a7 hN hyi hyl (show RelV (.ref s2.heap.objs.size) (.ref s2.heap.objs.size) from rfl) (λs5 I5=>?_) hyf);have a4:=(I5.pin (C,Z) (az _ (az _ (.head _)))).1;exact⟨mC,⟨Z,a5,a6,a4,ac⟩,λh' an=>⟨_,H2,I5.unpinned.but ad a1 ab a3 a2 an,hq⟩⟩
end
theorem ww4 {M:List Nat}{lo lo2:Int}{n k:Nat}{wi2:TI}{te:TE}{σ:St}{H:Hp}{Q:VK}(f:Nat->Nat->V)(hn:n*k<=1000000)(hw:∀(i:Nat) (H':Hp) (R:It->Hp->Prop),i<n->Same H H'->(∀H'',Same H' H''->R (Itr lo2 k) H'')->wi2 (xy M σ (some (.int (lo+i))) none) H' R)
  (he:∀(i j:Nat) (H':Hp) (R:VK),i<n->j<k->Same H H'->(∀H'',Same H' H''->R (f i j) H'')->te (xy M σ (some (.int (lo+i))) (some (.int (lo2+j)))) H' R)
  (kf:∀p H',H p=none->Same H H'->H' p=some (.lst ((List.range n).map λi=>(List.range k).map (f i)).flatten)->Q (.ref p) H'):wzd (Itr lo n) M wi2 te σ H Q:=by
 have U:∀i,(((List.range i).map λi=>(List.range k).map (f i)).flatten).length=i*k:=by
  intro i
  induction i with
  |zero=>simp
  |succ i ih =>
   rw[bK,aR,dX,ao,ih];simp[iu]
 have Z:(1000000:Nat)<sizeLine:=by decide
 intro p np;have L:∀ {H':Hp} {o:HO},Same H H'->Same H (upd H' p o):=λs b u e=>by rw[qt (q9 e np)];exact s b u e
 refine⟨λi m ys H2=>i<=n/\m=n-i/\ys=((List.range i).map λi=>(List.range k).map (f i)).flatten/\Same H H2/\H2 p=some (.lst ys),⟨n,aY _,rfl,rfl,Same.upd np,upd_same⟩,?_⟩;rintro i m ys H2 ⟨hi,rfl,rfl,s2,f2⟩;refine⟨f2,?_⟩;by_cases hlt:i<n
 .refine .inr ⟨hlt,?_⟩;rintro v H3 ⟨rfl,rfl⟩;have W:i*k+k<=n*k:=by have:=Nat.mul_le_mul_right k (show i+1<=n by lia);rwa [iu]at this
  refine hw i H3 _ hlt s2 λH4 F=>⟨λj J zs z=>j<=k/\J=k-j/\zs=((List.range i).map λi=>(List.range k).map (f i)).flatten++(List.range j).map (f i)/\Same H z/\z p=some (.lst zs),⟨k,aY _,rfl,by simp,s2.trans F,F _ _ f2⟩,?_⟩;rintro j J zs z ⟨hj,rfl,rfl,s5,f5⟩;refine⟨f5,by rw[ao,U,ag,aE];lia,?_⟩;by_cases hjk:j<k
  .refine .inr ⟨hjk,?_⟩;rintro u H6 ⟨rfl,rfl⟩;refine he i j H6 _ hlt hjk s5 λH7 D=>⟨D _ _ f5,k-(j+1),⋯,⋯,rfl,?_,L (s5.trans D),upd_same⟩;rw[bK,aR,aZ];rfl
  .have:j=k:=by lia
   subst this;refine .inl ⟨aj _,n-(i+1),⋯,⋯,rfl,?_,s5,f5⟩;rw[bK,aR,dX];simp
 .have:i=n:=by lia
  subst this;exact .inl ⟨aj _,kf p H2 np s2 f2⟩
end L2
namespace L2
open PySem PySem.Spec PyProof.Rows
theorem yp {X:Cx}{K:Aa}(hK:X.K=K):IxR X (rIxT K):=by subst hK;exact kh
end L2
namespace L2
open PySem PySem.Spec PyProof.Rows
theorem wy5 {prog:Ac}{w:Ah}{A:Ae}{E:Ag->Ab->Prop}{s:Ab}{l b:Aj}{Q:Ag->Ab->Prop}(h1:s.TypeIs (.ref l) "list")(h2:s.TypeIs (.ref b) "list")
  (h:wpAny (model prog w) A (call (.builtin "list.__iadd__") [.ref l,.ref b]) Q E s):wpAny (model prog w) A (inplaceOp .Add (.ref l) (.ref b)) Q E s:=by
 unfold inplaceOp;refine b8 ?_;refine aa (wpAny_typeOf h1 ?_);have D:typeLookup (.type "list") (dunderI "add")=pure (some (.builtin "list.__iadd__")):=F.slot_list_iadd.lookup;have z:isSeqSlot (some (.builtin "list.__iadd__"))=true:=by decide +kernel
 have U:fillsInplaceSlot (.type "list") (Operator.Add).info.snd (Operator.Add==Operator.Add)=pure false:=by show fillsInplaceSlot (.type "list") "add" true=pure false;unfold fillsInplaceSlot;show(typeLookup (.type "list") (dunderI "add") >>= λJ=>pure (J.isSome&&!isSeqSlot J))=pure false;rw[D];show(pure (true&&!isSeqSlot (some (.builtin "list.__iadd__"))):Sem Bool)=pure false;rw[z];rfl
 rw[U];refine aa (ai ?_);rw[ar aH];refine aa ?_;show wpAny _ _ (binaryOp1 "add" (.ref l) (.ref b)) _ _ s;refine wpAny_binaryOp1_none h1 h2 noFill_list_add ?_;have L:seqSlot? (.type "list") (dunderI "add")=pure (some (.builtin "list.__iadd__")):=by unfold seqSlot?;rw[D];show(if(!isSeqSlot (some (.builtin "list.__iadd__")))=true then(pure none:Sem (Option Ag)) else _)=_;rw[z,ar ⋯];rfl
 show wpAny _ _ (seqSlot? (.type "list") (dunderI "add") >>= _) _ _ s;rw[L];refine aa (ai ?_);exact aa (dA h)
def ipCat:TIp:=λx y H Q=>∃l b xs zs,x=.ref l/\y=.ref b/\H l=some (.lst xs)/\H b=some (.lst zs)/\xs.length+zs.length<=sizeLine/\Q (.ref l) (upd H l (.lst (xs++zs)))
section
variable {X:Cx}
theorem ip_cat:PIp X .Add ipCat:=by
 intro pins s σ H x y v u Q I Z W h;obtain⟨l,b,xs,zs,rfl,rfl,L,hB,hz,q⟩:=h;cases Z;cases W;obtain⟨z,D,n,r,hl,e⟩:=I.lstM L;obtain⟨z2,J,n2,r2,ad,U⟩:=I.lstM hB;have ab:D.toArray.size+J.toArray.size<=sizeLine:=by rw[au,au];lia
 have ac:¬ (!D.toArray.isEmpty&&Builtin.List.listTooLong (D.toArray.size+J.toArray.size))=true:=by rw[quy ab,gF];exact aH
 refine wy5 ⟨_,e,rfl⟩ ⟨_,U,rfl⟩ ?_;refine call_meets F.slot_list_iadd ⟨_,e,rfl⟩ F.entry_list_iadd (F.args_list_iadd_2 _ _)
  (AutoSeq1.list___iadd___list_list_0 l D.toArray n b J.toArray n2 ac (by rw[au];lia) ⋯) ⟨e,U,?_⟩
 refine⟨.ref l,_,I.lset (its':=D++J) L e (by simp) (r.append r2) ?_,rfl,q⟩;rw[ao];lia
end
structure Fresh (H H':Hp)(qs:List Aj)(os:List HO):Prop where
 len:qs.length=os.length
 nd:qs.Nodup
 new:∀q∈qs,H q=none
 at_:∀(i:Nat) q o,qs[i]?=some q->os[i]?=some o->H' q=some o
end L2
namespace L2
open PySem PySem.Spec PyProof.Rows
section
variable {X:Cx}{pins:List (Aj×Obj)}{σ:St}{H:Hp}{s:Ab}{h':Heap}{ch:List Aj}
theorem Inv.turnedL {tk:Nat}(I:Inv X pins σ H s)(hk:∀b u,b∉ch->s.heap.get? b=some u->h'.get? b=some u)(hf:∀b∈ch,vy X pins H b):Inv X pins σ H { s with heap:=h',toks:=tk }:=by
 refine I.call' (s':={ s with heap:=h',toks:=tk }) (ch:=ch) rfl ⟨λb o e n _ D=>hk b o D e,λb o e n _ D=>⟨o.slots,hk b o D e⟩,λb o e n _=>n,λb o e D=>⟨o,hk b o D e⟩,λ_ _ e=>e,λ_ _ _ e=>e,λb ps e=>⟨#[],by rw[e];simp⟩⟩ ?_ I.bare λb hb=>?_
 .intro b u J;refine(I.hok b u J).stay (λc v F e=>hk c v (λz=>?_) e) (λ_ z=>z) λ_ _ z=>z;have:=(hf c z).1;rcases F with rfl|F
  .rw[this]at J;cases J
  .rw[this]at F;cases F
 .obtain⟨q1,Z,q3,W,U,L⟩:=hf b hb;exact⟨W,Z,U,L⟩
theorem Inv.turnedT {tk:Nat}{o:HO}{ob:Obj}(I:Inv X pins σ H s)(hk:∀b u,b∉ch->s.heap.get? b=some u->h'.get? b=some u)(hn:h'.get? s.heap.objs.size=some ob)(hf:∀b∈ch,vy X pins H b)(hc:∀b∈ch,b≠s.heap.objs.size)
  (ok:ObjOk X.prog X.w (upd H s.heap.objs.size o) (s.heap.push ob) s.heap.objs.size o) (fr:ob.isFreed=false):Inv X pins σ (upd H s.heap.objs.size o) { s with heap:=h',toks:=tk }:=by
 have J:Inv X pins σ (upd H s.heap.objs.size o) { s with heap:=s.heap.push ob,toks:=tk }:=I.laid (t':=tk) (λb u e=>ah _ e) (aj _) ok;refine Inv.turnedL (s:={ s with heap:=s.heap.push ob,toks:=tk }) (ch:=ch) J (λb u F e=>?_) λb z=>?_
 .rcases Heap.get?_push_cases e with⟨rfl,rfl⟩|e
  .exact hn
  .exact hk b u F e
 .obtain⟨D,q⟩:=hf b z;exact⟨by rw[qt (hc b z)];exact D,q⟩
theorem xk5 {x y:V}{u v:Ag}(I:Inv X pins σ H s)(rx:RelV x u)(ry:RelV y v):ObjOk X.prog X.w (upd H s.heap.objs.size (.tup [x,y])) (s.heap.push { cls:=.type "tuple",data:=.seq #[u,v] }) s.heap.objs.size (.tup [x,y]):=by refine⟨by show 2<=sizeLine;decide,[u,v],.cons rx (.cons ry .nil),?_⟩;exact⟨_,aA _ rfl,rfl,_,rfl⟩
end
def ItZ (K:Aa)(a b:Aj)(xs ys:List V):It :=
 ⟨λi H=>SqL K H a xs/\SqL K H b ys/\i<xs.length/\i<ys.length,λi H v H'=>∃q x y,H q=none/\v=.ref q/\xs[i]?=some x/\ys[i]?=some y/\H'=upd H q (.tup [x,y]),λi H=>SqL K H a xs/\SqL K H b ys/\(xs.length<=i\/ys.length<=i)⟩
theorem xw4 {P:Ac}{w:Ah}{K:Aa}{es:List Expr}{k:Nat}{pos:Pos}(a b z TI TO i1 i2:Aj)(xs ys:List V)(ap:ZipApart z TI TO i1 i2 a b):Turn P w K (.Tuple es k pos) (ItZ K a b xs ys) [z,TI,TO,i1,i2] z
  (λi h=>IsZip h z TI TO .none/\IsPair h TI (.ref i1) (.ref i2)/\(∃u v,IsPair h TO u v)/\h.IsListIter i1 a i/\h.IsListIter i2 b i) where
 mem:=by simp
 obj:=λi h st c hc=>by
  obtain⟨h1,h2,⟨u,v,h3⟩,⟨o4,h4,c4,d4⟩,⟨o5,h5,c5,d5⟩⟩:=st;have hc':c=z\/c=TI\/c=TO\/c=i1\/c=i2:=by simpa using hc
  rcases hc' with rfl|rfl|rfl|rfl|rfl
  .exact⟨_,h1,λv z=>by cases z⟩
  .exact⟨_,h2,λv z=>by cases z⟩
  .exact⟨_,h3,λv z=>by cases z⟩
  .exact⟨_,h4,λv z=>by rw[d4]at z;cases z⟩
  .exact⟨_,h5,λv z=>by rw[d5]at z;cases z⟩
 keep:=λi h h' st k=>by obtain⟨h1,h2,⟨u,v,h3⟩,h4,h5⟩:=st;exact⟨k z (by simp) _ h1,k TI (by simp) _ h2,⟨u,v,k TO (by simp) _ h3⟩,h4.at λo e=>k i1 (by simp) o e,h5.at λo e=>k i2 (by simp) o e⟩
 item:=by
  intro X hP hw hK hc i pins s σ H E I hf st hg;subst hP hw hK;obtain⟨hq1,hq2,l1,l2⟩:=hg;obtain⟨its,rv,p,hz⟩:=I.list hq1;obtain⟨its2,rv2,p2,hz2⟩:=I.list hq2;have e1:xs[i]?=some xs[i]:=ae l1;have e2:ys[i]?=some ys[i]:=ae l2;obtain⟨u,hu,ru⟩:=rv.get e1;obtain⟨v,hv,rv'⟩:=rv2.get e2;obtain⟨h1,h2,⟨a0,b0,h3⟩,h4,h5⟩:=st;refine wpAny_pyNext_zip_item ap h1 h2 h3 h4 h5 p.isList p2.isList (x:=u) (y:=v) (by simpa using hu) (by simpa using hv) λh' g1 g2 g3 g4 g5 g6 g7=>?_;refine⟨_,rfl,wpAny_letOwnedTupleGo_zip (s:={ s with heap:=h' }) g1 λh'' f1 f2=>?_⟩;have hsz:∀c,c∈[z,TI,TO,i1,i2]->c≠s.heap.objs.size:=λc hc e=>by
   have hc':c=z\/c=TI\/c=TO\/c=i1\/c=i2:=by simpa using hc
   have hlt:c<s.heap.objs.size:=by
    rcases hc' with rfl|rfl|rfl|rfl|rfl
    .exact ak h1
    .exact ak h2
    .exact ak h3
    .obtain⟨o,e,_⟩:=h4;exact ak e
    .obtain⟨o,e,_⟩:=h5;exact ak e
   exact aW _ (e▸hlt)
  have keep:∀c o,c∉[z,TI,TO,i1,i2]->s.heap.get? c=some o->h''.get? c=some o:=λc o nc e=>by simp only[aM,List.not_mem_nil,or_false,not_or]at nc;rw[f2.2 c nc.1];exact g7 c o nc.1 nc.2.2.1 nc.2.2.2.1 nc.2.2.2.2 e
  have keepz:∀c o,c≠z->h'.get? c=some o->h''.get? c=some o:=λc o nc e=>(f2.2 c nc).trans e;have new:h''.get? s.heap.objs.size=some { cls:=.type "tuple",data:=.seq #[u,v] }:=keepz _ _ (eU (hsz z (by simp))) g5;have hTI:h''.get? TI=some { cls:=.type "tuple",data:=.seq #[.ref i1,.ref i2] }:=by refine keepz _ _ ap.TIz ?_;exact g7 TI _ ap.TIz ap.TITO ap.TIi1 ap.TIi2 h2
  refine⟨.ref s.heap.objs.size,_,Inv.turnedT (s:=s) (ch:=[z,TI,TO,i1,i2]) (tk:=s.toks) I keep new hf hsz (xk5 I ru rv') rfl,rfl,⟨_,_,_,I.hok.fresh (aj _),rfl,e1,e2,rfl⟩,⟨f1,hTI,⟨u,v,keepz _ _ ap.TOz g2⟩,g3.at λo e=>keepz _ _ ap.i1z e,g4.at λo e=>keepz _ _ ap.i2z e⟩,λc hc=>?_⟩;rw[qt (hsz c hc)];exact(hf c hc).1
 done:=by
  intro X hP hw hK hc i pins s σ H E I hf st hg;subst hP hw hK;obtain⟨hq1,hq2,le⟩:=hg;obtain⟨its,rv,p,hz⟩:=I.list hq1;obtain⟨its2,rv2,p2,hz2⟩:=I.list hq2;have hl:=rv.length;have hl2:=rv2.length;obtain⟨h1,h2,⟨a0,b0,h3⟩,h4,h5⟩:=st;refine wpAny_pyNext_zip_end (I.ok.hd hc) ap h1 h2 h3 h4 h5 p.isList p2.isList ?_ λh' g=>⟨rfl,Inv.turnedL (ch:=[z,TI,TO,i1,i2]) (tk:=s.toks) I (λc o nc e=>?_) hf⟩
  .rcases le with le|le
   .exact .inl (dZ (by rw[au];lia))
   .exact .inr (dZ (by rw[au];lia))
  .simp only[aM,List.not_mem_nil,or_false,not_or]at nc;exact g c o nc.1 nc.2.2.1 nc.2.2.2.1 nc.2.2.2.2 e
 self:=λ_ _ _ _ _ st h=>wpAny_pyIter_zip st.1 h
section
variable {X:Cx}
def iZip (K:Aa)(ta:TA):TI:=λσ H R=>ta σ H λvs H1=>∃a b xs ys,vs=[.ref a,.ref b]/\SqL K H1 a xs/\SqL K H1 b ys/\R (ItZ K a b xs ys) H1
theorem pi_zip {a b:Expr}{ta:TA}{p pos:Pos}{es:List Expr}{k:Nat}{tpos:Pos}(hg:Gl X "zip")(hm:X.mg "zip" = none)(ha:PA X [a,b] ta)(hv:autoParam (bootBuiltins "zip" = some (.type "zip")) aU4._auto_1)
  (hs:autoParam (starEach [a,b] X.env=[(false,eval a X.env),(false,eval b X.env)]) aU4._auto_1) (hs2:autoParam (starEach [b] X.env=[(false,eval b X.env)]) aU4._auto_1):PI X (.Tuple es k tpos) (.Call (.Name "zip" p) [a,b] [] pos) (iZip X.K ta):=by
 intro pins s σ H R I h;refine Call_ (yb I hg hm hv (cf (thn (ha pos pins s σ H _ I h) λus s1 ⟨vs,H1,I1,r1,q1⟩=>?_) (by rw[hs,hs2]) (by rw[hs2];rfl)));obtain⟨a,b,xs,ys,e,W,U,q⟩:=q1;subst e;cases r1 with
 |cons r rr =>
  cases rr with
  |cons r' rr =>
   cases rr;cases r;cases r';obtain⟨ad,rv,p,hz⟩:=I1.list W;obtain⟨ac,ab,p2,an⟩:=I1.list U;have L:a<s1.heap.objs.size:=by obtain⟨o,n,z,_⟩:=p;exact ak z
   have J:b<s1.heap.objs.size:=by obtain⟨o,n,z,_⟩:=p2;exact ak z
   refine call_zip_2 p.isList p2.isList λh' F g2 g3 g4 g5 g6 g7=>?_;refine wpAny_pyIter_zip F ?_;have I2:Inv X pins σ H1 { s1 with heap:=h' }:=I1.kept (t':=s1.toks) g7;refine⟨s1.heap.objs.size+4,[s1.heap.objs.size+4,s1.heap.objs.size+2,s1.heap.objs.size+3,s1.heap.objs.size,s1.heap.objs.size+1],_,_,H1,rfl,I2,xw4 a b _ _ _ _ _ xs ys (zipApart_new L J),⟨F,g2,⟨_,_,g3⟩,g4,g5⟩,λc Z=>?_,q⟩;have D:s1.heap.objs.size<=c:=by
    have:c=s1.heap.objs.size+4\/c=s1.heap.objs.size+2\/c=s1.heap.objs.size+3\/c=s1.heap.objs.size\/c=s1.heap.objs.size+1:=by simpa using Z
    rcases this with e | e | e | e | e <;> (rw[e];first | exact aj _ | exact jE _ _)
   exact I1.fpOk D (I1.hok.fresh D)
end
section
variable {X:Cx}
end
section
variable {X:Cx}{elt iter tg:Expr}{x y2:Str}{pos:Pos}{scope:Scope}{cl:List (Str×Aj)}{M:List Nat}{wi:TI}{gg:TG}{te:TE}
end
theorem xk0 {X:Cx}{K:Aa}{pos:Pos}{es:List Expr}{k:Nat}{t:TGs}{n:Nat}(hK:X.K=K)(hc:X.calm=true)(h:PGs X es t)(h1:autoParam ((assignEach es X.env).length=n) aU4._auto_1)(h2:autoParam (List.findIdx? (λx=>x.fst) (assignEach es X.env)=none) aU4._auto_1):PG X (.Tuple es k pos) (gTup K n t):=by subst hK;exact kg hc h h1 h2
def StayT (G:Nat->V->Hp->Prop):Prop:=∀i v H H',G i v H->(∀b o,(∀xs,o≠.lst xs)->H b=some o->H' b=some o)->G i v H'
theorem ww2 {M:List Nat}{lo:Int}{n:Nat}{te:TE}{σ:St}{H:Hp}{Q:VK}(G:Nat->V->Hp->Prop)(gs:StayT G)(hn:n<=1000000)
  (he:∀(i:Nat) (H':Hp) (R:VK),i<n->Same H H'->(∀v H'',Same H' H''->G i v H''->R v H'')->te (zj M σ (some (.int (lo+i)))) H' R)
  (k:∀p ys H',H p=none->Same H H'->H' p=some (.lst ys)->ys.length=n->(∀j v,ys[j]?=some v->G j v H')->Q (.ref p) H'):Ws (Itr lo n) M te σ H Q:=by
 intro p np;have Z:(1000000:Nat)<sizeLine:=by decide
 refine⟨λi m ys H2=>i<=n/\m=n-i/\ys.length=i/\Same H H2/\H2 p=some (.lst ys)/\∀j v,ys[j]?=some v->G j v H2,⟨n,aY _,rfl,rfl,Same.upd np,upd_same,λj v e=>by cases e⟩,?_⟩;rintro i m ys H2 ⟨hi,rfl,hl,sm,hp,hG⟩;refine⟨hp,⋯,?_⟩;by_cases hlt:i<n
 .refine .inr ⟨hlt,?_⟩;rintro v H3 ⟨rfl,rfl⟩;refine he i H3 _ hlt sm λw L D W=>?_;have J:=D _ _ hp;have st:∀b o,(∀xs,o≠.lst xs)->L b=some o->upd L p (.lst (ys++[w])) b=some o:=λb o F e=>by
   rw[qt]
   .exact e
   .intro z;rw[z,J]at e;exact F _ (av e).symm
  refine⟨J,n-(i+1),⋯,⋯,rfl,by rw[ao,hl];rfl,λb o e=>?_,upd_same,λj v e=>?_⟩
  .rw[qt (q9 e np)];exact D _ _ (sm _ _ e)
  .rcases bo j ys.length with z|z
   .rw[aT z]at e;exact gs j v _ _ (hG j v e) λb o F e=>st b o F (D _ _ e)
   .rw[aG z]at e;have U:j=i:=by
     rcases bo (j-ys.length) 1 with y|y
     .lia
     .rw[aQ (by simpa using y)]at e;cases e
    subst U;rw[show j-ys.length=0 by lia]at e;cases e;exact gs j _ _ _ W st
 .have:i=n:=by lia
  subst this;exact .inl ⟨aj _,k p ys H2 np sm hp hl hG⟩
end L2
namespace HT
open PySem PySem.Spec PyProof.Rows
section
variable {prog:Ac}{w:Ah}{A:Ae}{E:Ag->Ab->Prop}{s:Ab}
theorem cat_tup0 {t b:Aj}{ws:List Ag}{Q:Ag->Ab->Prop}(ht:IsTup s.heap t #[])(hb:IsTup s.heap b ws.toArray)(h:Q (.ref b) s):wpAny (model prog w) A (binaryOp .Add (.ref t) (.ref b)) Q E s:=by obtain⟨⟨ap,dd,ad,Z⟩,D,U,n,J⟩:=id ht ;obtain⟨⟨an,ab,ac,W⟩,z,L,n2,F⟩:=id hb;simp only at U J L F ;subst U J L F;exact concat_meets ⟨_,D,rfl⟩ ⟨_,z,rfl⟩ jl seq_tuple_add gE gu (fU _ _) (tuple_addW0 t b #[] ws.toArray n n2 dd ab Z W (by simp)) ⟨D,z,h⟩
end
end HT
namespace L2
open PySem PySem.Spec PyProof.Rows
section
variable {X:Cx}
def rCatW (K:Aa):R2:=λx y H Q=>∃a b xs ys,x=.ref a/\y=.ref b/\SqT K H a xs/\SqT K H b ys/\xs.length+ys.length<=sizeLine /\
 (xs=[]->Q (.ref b) H)/\(xs≠[]->ys=[]->Q (.ref a) H)/\(xs≠[]->ys≠[]->∀p,H p=none->Q (.ref p) (upd H p (.tup (xs++ys))))
theorem xv1:OpR X (binaryOp .Add) (rCatW X.K):=by
 intro pins s σ H x y v u Q I D z h;obtain⟨a,b,xs,ys,rfl,rfl,J,F,hz,Z,W,U⟩:=h;by_cases hx:xs=[]
 .subst hx;cases D;cases z;obtain⟨ac,L,p1,_⟩:=I.tuple J;obtain⟨ab,r2,p2,_⟩:=I.tuple F;cases L;exact HT.cat_tup0 p1 p2 ⟨.ref b,H,I,rfl,Z rfl⟩
 .exact xvb pins s σ H (.ref a) (.ref b) v u Q I D z ⟨a,b,xs,ys,rfl,rfl,J,F,hx,hz,W hx,U hx⟩
end
end L2
namespace L2
open PySem PySem.Spec PyProof.Rows
end L2
namespace L2
open PySem PySem.Spec PyProof.Rows
section
universe u1 u2 u3 u4 u5 u6
variable {α:Sort u1}{β:Sort u2}{γ:Sort u3}{δ:Sort u4}{ε:Sort u5}{ζ:Sort u6}
theorem ex2 {p:α->β->Prop}(a:α)(b:β)(h:p a b):∃x y,p x y:=⟨a,b,h⟩
theorem ex3 {p:α->β->γ->Prop}(a:α)(b:β)(c:γ)(h:p a b c):∃x y z,p x y z:=⟨a,b,c,h⟩
theorem ex4 {p:α->β->γ->δ->Prop}(a:α)(b:β)(c:γ)(d:δ)(h:p a b c d):∃x y z t,p x y z t:=⟨a,b,c,d,h⟩
theorem ex5 {p:α->β->γ->δ->ε->Prop}(a:α)(b:β)(c:γ)(d:δ)(e:ε)(h:p a b c d e):∃x y z t r,p x y z t r:=⟨a,b,c,d,e,h⟩
theorem ex6 {p:α->β->γ->δ->ε->ζ->Prop}(a:α)(b:β)(c:γ)(d:δ)(e:ε)(f:ζ)(h:p a b c d e f):∃x y z t r s,p x y z t r s:=⟨a,b,c,d,e,f,h⟩
end
section
variable {K:Aa}{σ:St}{H:Hp}{Q:VK}{i i2:Nat}{j j2:Int}{p p2:Aj}{xs ys:List V}{v:V}
theorem rdT (e:σ[i]?=some (some (.ref p)))(h:SqT K H p xs)(a:atI xs j=some v)(q:Q v H):tOp (rIxT K) (j5 i) (tC (.int j)) σ H Q:=⟨_,e,p,xs,j,v,rfl,rfl,h,a,q⟩
theorem rdTT (e:σ[i]?=some (some (.ref p)))(h:SqT K H p xs)(a:atI xs j=some (.ref p2))(h2:SqT K H p2 ys)(a2:atI ys j2=some v)(q:Q v H):tOp (rIxT K) (tOp (rIxT K) (j5 i) (tC (.int j))) (tC (.int j2)) σ H Q:=⟨_,e,p,xs,j,_,rfl,rfl,h,a,p2,ys,j2,v,rfl,rfl,h2,a2,q⟩
theorem rdL (e:σ[i]?=some (some (.ref p)))(e2:σ[i2]?=some (some (.int j)))(h:SqL K H p xs)(a:atI xs j=some v)(q:Q v H):tOp (wzz K) (j5 i) (j5 i2) σ H Q:=⟨_,e,_,e2,p,xs,j,v,rfl,rfl,h,a,q⟩
theorem rdLC (e:σ[i]?=some (some (.ref p)))(h:SqL K H p xs)(a:atI xs j=some v)(q:Q v H):tOp (wzz K) (j5 i) (tC (.int j)) σ H Q:=⟨_,e,p,xs,j,v,rfl,rfl,h,a,q⟩
end
theorem tn2 (n:Nat):((n:Int)-1).toNat=n-1:=by lia
theorem tn1 {m:Int}(h:1<=m):(m-1).toNat=m.toNat-1:=by obtain⟨n,rfl⟩:=gz (show 0<=m by lia);rw[tn2,bQ]
theorem tn3 {m:Int}(h:1<=m):(m-1).toNat+1=m.toNat:=by rw[tn1 h];exact Nat.sub_add_cancel (Int.lt_toNat.mpr h)
theorem tnlt {m:Int}(h:1<=m):((m.toNat-1:Nat):Int)<m:=by rw[<-tn1 h,cn ⋯];lia
theorem tnsum {r t:Int}(h0:0<=r)(h1:1+r<t):(1+r).toNat-1+((t-(1+r)).toNat-1+1)=t.toNat-1:=by rw[<-tn1 (show 1<=1+r by lia),<-tn1 (show 1<=t-(1+r) by lia),<-tn1 (show 1<=t by lia),tn3 (show 1<=t-(1+r) by lia),<-Int.toNat_add ⋯ ⋯];congr 1;lia
end L2
namespace L2
open PySem PySem.Spec PyProof.Rows
def Rows (q:Aj)(B:Hp)(L:List (List V))(ys:List V)(H:Hp):Prop:=Paired (λv xs=>∃a,v=.ref a/\a≠q/\B a=none/\H a=some (.lst xs)) ys L
theorem Paired.mono {α β:Type}{R S:α->β->Prop}(h:∀a b,R a b->S a b):∀ {xs:List α} {ys:List β},Paired R xs ys->Paired S xs ys
 |_,_,.nil=>.nil
 |_,_,.cons r t=>.cons (h _ _ r) (Paired.mono h t)
theorem Paired.app {α β:Type}{R:α->β->Prop}:∀ {xs xs':List α} {ys ys':List β},Paired R xs ys->Paired R xs' ys'->Paired R (xs++xs') (ys++ys')
 |_,_,_,_,.nil,h=>h
 |_,_,_,_,.cons r t,h=>.cons r (Paired.app t h)
theorem j3 {H H':Hp}(s:Same H H'){a:Aj}(n:H' a=none):H a=none:=by
 cases e:H a with
 |none=>rfl
 |some o=>rw[s _ _ e]at n;cases n
def Qw (c:Nat->Bool)(xs:List V)(n:Nat):List V:=((List.range n).filter c).map λi=>xs.getD i .non
theorem Zt {K:Aa}{M:List Nat}{a:Aj}{xs:List V}{tt:TT}{te:TE}{σ:St}{H:Hp}{Q:VK}(c:Nat->Bool)(hS:SqL K H a xs)(hn:xs.length<=1000000)
  (ht:∀(i:Nat) (x:V) (H':Hp) (R:Bool->Hp->Prop),xs[i]?=some x->Same H H'->(∀H'',Same H' H''->R (c i) H'')->tt (zj M σ (some x)) H' R)
  (he:∀(i:Nat) (x:V) (H':Hp) (R:VK),xs[i]?=some x->c i=true->Same H H'->(∀H'',Same H' H''->R x H'')->te (zj M σ (some x)) H' R)
  (k:∀p H',H p=none->Same H H'->H' p=some (.lst (Qw c xs xs.length))->Q (.ref p) H'):wzw (Itl K a) M tt te σ H Q:=by
 intro p np;refine⟨λi m ys H2=>i<=xs.length/\m=xs.length-i/\ys=Qw c xs i/\Same H H2/\H2 p=some (.lst ys),⟨xs.length,aY _,rfl,rfl,Same.upd np,upd_same⟩,?_⟩;rintro i m ys H2 ⟨hi,rfl,rfl,sm,hp⟩;refine⟨hp,?_,?_⟩
 .unfold Qw;rw[ag];have:=dw c (List.range i);rw[aE]at this;have:(1000000:Nat)<sizeLine:=by decide
  lia
 .by_cases hlt:i<xs.length
  .have z:xs[i]?=some xs[i]:=ae hlt;refine .inr ⟨⟨xs,_,sm.sql hS,z⟩,?_⟩;rintro v H3 ⟨rfl,hv⟩;have e:=av (z.symm.trans (hv xs (sm.sql hS)));subst e;refine ht i _ _ _ z sm λW D=>?_;have F:=D _ _ hp;have L:xs.getD i .non=xs[i]:=by rw[af,z];rfl
   cases hc:c i with
   |true =>
    refine Q2 ?_;refine he i _ _ _ z hc (sm.trans D) λU J=>⟨J _ _ F,xs.length-(i+1),⋯,⋯,rfl,?_,λb o e=>?_,upd_same⟩
    .unfold Qw;rw[bK,gn,aR];simp only[fP,hc,cI,List.filter_nil,aI,da,L]
    .rw[qt (q9 e np)];exact J _ _ (D _ _ (sm _ _ e))
   |false =>
    refine yx ?_;refine⟨F,xs.length-(i+1),⋯,⋯,rfl,?_,sm.trans D,F⟩;unfold Qw;rw[bK,gn,aR];simp only[fP,hc,aB,br,List.filter_nil,da,bP]
  .have:i=xs.length:=by lia
   subst this;exact .inl ⟨⟨xs,sm.sql hS,aj _⟩,k p H2 np sm hp⟩
end L2
namespace L2
open PySem PySem.Spec PyProof.Rows
def InnRI (J2:It)(M:List Nat)(tt:TT)(te:TE)(σ:St)(v:V)(p:Aj)(ys:List V)(H4:Hp)(Wx:List V->Hp->Prop):Prop:=∃W2:Nat->Nat->List V->Hp->Prop,(∃m2,W2 0 m2 ys H4) /\
 ∀j m2 zs H5,W2 j m2 zs H5->H5 p=some (.lst zs)/\zs.length<sizeLine/\((J2.stop j H5/\Wx zs H5)\/(J2.go j H5/\∀u H6,J2.yld j H5 u H6 ->
  tt (xy M σ (some v) (some u)) H6 λb H6'=>if b=true then te (xy M σ (some v) (some u)) H6' (λy H7=>H7 p=some (.lst zs)/\∃m2',m2'<m2/\W2 (j+1) m2' (zs++[y]) (upd H7 p (.lst (zs++[y])))) else H6' p=some (.lst zs)/\∃m2',m2'<m2/\W2 (j+1) m2' zs H6'))
def qy2 (J:It)(M:List Nat)(wi2:TI)(tt:TT)(te:TE)(σ:St)(H1:Hp)(Q:VK):Prop:=∀p,H1 p=none->∃W:Nat->Nat->List V->Hp->Prop,(∃m,W 0 m [] (upd H1 p (.lst []))) /\
 ∀i m ys H2,W i m ys H2->H2 p=some (.lst ys)/\((J.stop i H2/\Q (.ref p) H2)\/(J.go i H2/\∀v H3,J.yld i H2 v H3 ->
  wi2 (xy M σ (some v) none) H3 λJ2 H4=>InnRI J2 M tt te σ v p ys H4 λzs H5=>∃m',m'<m/\W (i+1) m' zs H5))
def xk3 (M:List Nat)(wi wi2:TI)(tt:TT)(te:TE):TE:=λσ H Q=>wi σ H λJ H1=>qy2 J M wi2 tt te σ H1 Q
section
variable {X:Cx}{elt iter iter2 cd:Expr}{x y:Str}{px py pos:Pos}{scope:Scope}{cl:List (Str×Aj)}{M:List Nat}{wi wi2:TI}{tt:TT}{te:TE}
theorem qyr (M:List Nat)(σ:St)(v:V):(xy M σ none none).length=(xy M σ (some v) none).length/\∀(k:Nat) z,(xy M σ none none)[k]?=some (some z)->(xy M σ (some v) none)[k]?=some (some z):=⟨rfl,λk z ez=>by
 match k,ez with
 |0,ez=>cases ez
 |1,ez=>cases ez
 |k+2,ez=>exact ez⟩
theorem qy5 (M:List Nat)(σ:St)(v:Option V)(u:V):(xy M σ v none).length=(xy M σ v (some u)).length/\∀(k:Nat) z,(xy M σ v none)[k]?=some (some z)->(xy M σ v (some u))[k]?=some (some z):=⟨rfl,λk z ez=>by
 match k,ez with
 |0,ez=>exact ez
 |1,ez=>cases ez
 |k+2,ez=>exact ez⟩
def inrS (i1:Expr)(e:Expr)(acc:Ag)(env:Env)(c:Code):Sem PySem.Fin:=eval i1 env >>= λx=>standAt i1.pos >>= λ_=>foldedSetIterable i1 env x >>= λx=>holding [x] (pyIter x) >>= λit1=>runOwn (Code.compStart e 1 it1 acc env) env >>= λ_=>again c
theorem xz0 (elt t0 i0 t1 i1 cd:Expr)(scope:Scope)(pos:Pos)(it acc:Ag)(env:Env):compTurn (elt.ListComp [⟨t0,i0,[],0⟩,⟨t1,i1,[cd],0⟩] scope pos) 0 it acc env=(standAt i0.pos >>= λ_=>pyNext it >>= λr=>match r with|none=>pure (.done .next)|some v=>letOwnedTupleGo t0 it v >>= λ_=>assign t0 env v >>= λ_=>inrS i1 (elt.ListComp [⟨t0,i0,[],0⟩,⟨t1,i1,[cd],0⟩] scope pos) acc env (Code.compLoop (elt.ListComp [⟨t0,i0,[],0⟩,⟨t1,i1,[cd],0⟩] scope pos) 0 it acc env)):=rfl
theorem xvp (elt t0 i0 t1 i1 cd:Expr)(scope:Scope)(pos:Pos)(it acc:Ag)(env:Env):compTurn (elt.ListComp [⟨t0,i0,[],0⟩,⟨t1,i1,[cd],0⟩] scope pos) 1 it acc env=(standAt i1.pos >>= λ_=>pyNext it >>= λr=>match r with|none=>pure (.done .next)|some v=>letOwnedTupleGo t1 it v >>= λ_=>assign t1 env v >>= λ_=>tstS cd env (appS elt acc env (Code.compLoop (elt.ListComp [⟨t0,i0,[],0⟩,⟨t1,i1,[cd],0⟩] scope pos) 1 it acc env)) (again (Code.compLoop (elt.ListComp [⟨t0,i0,[],0⟩,⟨t1,i1,[cd],0⟩] scope pos) 1 it acc env))):=rfl
theorem xqh {Y:Cx}{t0 i0 t1:Expr}{p:Aj}{c:Code}{σ:St}{H:Hp}{pins:List (Aj×Obj)}{s:Ab}{R2:It->Hp->Prop}{Post:Ab->Prop}(hi2:PI Y t1 iter2 wi2)(hs2:∀z,foldedSetIterable iter2 Y.env z=pure z)(J:Inv Y pins σ H s)(h:wi2 σ H R2)
  (go:∀(it2:Aj) (fp2:List Aj) (tn2:Nat->Heap->Prop) (J2:It) (H8:Hp) (s8:Ab),Inv Y pins σ H8 s8->Turn Y.prog Y.w Y.K t1 J2 fp2 it2 tn2->tn2 0 s8.heap->(∀b∈fp2,vy Y pins H8 b)->R2 J2 H8 ->
   codeAny (model Y.prog Y.w) Y.A (.compLoop (elt.ListComp [⟨t0,i0,[],0⟩,⟨t1,iter2,[cd],0⟩] scope pos) 1 (.ref it2) (.ref p) Y.env) (λr s'=>match r with|.ok _=>Post s'|.error _=>False) s8) :
  wpAny (model Y.prog Y.w) Y.A (inrS iter2 (elt.ListComp [⟨t0,i0,[],0⟩,⟨t1,iter2,[cd],0⟩] scope pos) (.ref p) Y.env c) (λr s5=>r=Fin.again c/\Post s5) Y.xe s:=by
 refine aa (aO (hi2 _ s _ H _ J h) (λv1 s7 h7=>?_) λ_ _ z=>z);refine aa (cB ?_);rw[hs2];refine aa (ai (aa (b8 (aO h7 (λab s8 h8=>?_) λ_ _ z=>z))));obtain⟨it2,fp2,tn2,Jb,H8,rfl,I8,U,D,W,Z⟩:=h8;refine aa (wpAny_runOwn ?_);have F:=go it2 fp2 tn2 Jb H8 s8 I8 U D W Z;refine eJ (wkw F λE2=>U.self _ 0 _ _ _ D F) λr s' L=>?_;cases r with
 |ok f=>exact ai ⟨rfl,L⟩
 |error e=>exact L.elim
theorem wzp (hc:X.calm=true)(hclos:closureFor scope X.env=pure cl)(hcap:CapAll X.env cl)(hhas:HasAll cl scope.names)(hix:CapIx X scope cl M)(hk:scope.kind=.function)
  (hnames:∀y∈scope.names,y.2=.local->scope.names.lookup y.1=some .local) (hx:scope.names.lookup x=some .local) (hy:scope.names.lookup y=some .local) (hnd:(Yn X x y M).Nodup) (hi:PI X (.Name x px) iter wi)
  (hi2:∀C s2 H2 fp pn,PI (wt X scope cl x y M C s2 H2 fp pn) (.Name y py) iter2 wi2)
  (ht:∀C s2 H2 fp pn,PT (wt X scope cl x y M C s2 H2 fp pn) cd tt) (he:∀C s2 H2 fp pn,PE (wt X scope cl x y M C s2 H2 fp pn) elt te) (hs:∀z,foldedSetIterable iter X.env z=pure z) (hs2:∀env z,foldedSetIterable iter2 env z=pure z)
  {use:Option (Ag->Sem Unit)} {QQ:Ag->Ab->Prop} {pins:List (Aj×Obj)} {s:Ab} {σ:St} {H:Hp} {Q:VK} {ps:Pos} (I:Inv X pins σ H s) (h:wi σ H λJ H1=>qy2 J M wi2 tt te σ H1 Q)
  (fin:∀(C:Aj) (s2 s4:Ab) (H1 H2:Hp) (fp:List Aj),Inv X pins σ H1 s2->s2.heap.objs.size<C->(∀b∈fp,vy X pins H1 b)->Inv (wt X scope cl x y M C s2 H1 fp (X.pn++pins)) [] (xy M σ none none) H2 s4->Q (.ref s2.heap.objs.size) H2 ->
   compPost (model X.prog X.w) X.A X.xe use QQ (.ref s2.heap.objs.size) C (.ok .next) s4) :
  wpAny (model X.prog X.w) X.A (comprehension (.ListComp elt [⟨.Name x px,iter,[],0⟩,⟨.Name y py,iter2,[cd],0⟩] scope pos) scope X.env ps (newList []) false (eval iter X.env) use) QQ X.xe s:=by
 refine Jm hclos hhas hk hnames hi hs I h λit fp tn J H1 s2 C h3 tk I2 T t3 Z ap a5 hR ac a0 a6 hD=>?_;obtain⟨W,⟨m0,w0⟩,hW⟩:=hR s2.heap.objs.size (I2.hok.fresh (aj _));have an:(relabel scope X.env).names.lookup x=some .local:=cU hx;have ad:(relabel scope X.env).names.lookup y=some .local:=cU hy;have hT:=hi2 C s2 H1 fp (X.pn++pins);have hE:=he C s2 H1 fp (X.pn++pins);have hC:=ht C s2 H1 fp (X.pn++pins);have g0:PG (wt X scope cl x y M C s2 H1 fp (X.pn++pins)) (.Name x px) (W9 0):=wn (i:=0) hnd rfl (.inl an) (.inr an);have g1:PG (wt X scope cl x y M C s2 H1 fp (X.pn++pins)) (.Name y py) (W9 1):=wn (i:=1) hnd rfl (.inl ad) (.inr ad);have fo:=Z9 (N:=Yn X x y M) (scope:=scope) hcap I2 ac Z ap;have I0:=I2.comp2 (x:=x) (y:=y) (tk:=tk) hcap hhas hix hk ac a0 a6 hD Z a5;have fn:=λH2 s4 J4 q=>fin C s2 s4 H1 H2 fp I2 ac Z J4 q;refine jx (Y:=wt X scope cl x y M C s2 H1 fp (X.pn++pins)) (V:=λi n H2=>∃ys,W i n ys H2) (Qd:=Q (.ref s2.heap.objs.size)) (REST:=inrS iter2 _ (.ref s2.heap.objs.size) (compEnvC scope cl C X.env) _) T hc (λ_ _ z=>z) (xz0 ..) rfl rfl g0 fo (λi n H2 ⟨ys,w⟩=>?_) fn I0 ⟨[],w0⟩ t3 λb L=>by rw[qt (aC (ap b L))];exact(Z b L).1
 obtain⟨hp,bc⟩:=hW i n ys H2 w;refine bc.imp id λ⟨a8,a2⟩=>⟨a8,λv H3 yl=>⟨λσ4 H4=>σ4=xy M σ (some v) none/\H3=H4,⟨rfl,rfl⟩,λ_ _ e=>?_⟩⟩;obtain⟨rfl,rfl⟩:=e;refine⟨qyr M σ v,λbk s' J=>?_⟩;refine xqh hT (hs2 _) J (a2 v H3 yl) λit2 fp2 tn2 J2 H8 s8 I8 T2 t8 hfp2 ⟨W2,⟨m2,w2⟩,hW2⟩=>?_;refine jx (Y:=wt X scope cl x y M C s2 H1 fp (X.pn++pins)) (V:=λj U F=>∃zs,W2 j U zs F) (Qd:=λF=>∃zs D,D<n/\W (i+1) D zs F) (REST:=tstS cd (compEnvC scope cl C X.env) (appS elt (.ref s2.heap.objs.size) (compEnvC scope cl C X.env) _) (again _)) T2 hc (λ_ _ z=>z) (xvp ..) rfl rfl g1 (λF hn b L=>⟨hn b L,(hfp2 b L).2⟩) (λj U F ⟨zs,w9⟩=>?_)
  (λF s9 J9 ⟨zs,D,ab,wq⟩=>⟨F,J9,D,ab,zs,wq⟩) I8 ⟨ys,w2⟩ t8 λb L=>(hfp2 b L).1
 obtain⟨bl,a1,a9⟩:=hW2 j U zs F w9;refine a9.imp (λ⟨a4,D,ab,wq⟩=>⟨a4,zs,D,ab,wq⟩) λ⟨a7,a3⟩=>⟨a7,λu as ax=>⟨λσ4 H4=>σ4=xy M σ (some v) (some u)/\as=H4,⟨rfl,rfl⟩,λ_ _ e=>?_⟩⟩;obtain⟨rfl,rfl⟩:=e;refine⟨qy5 M σ (some v) u,λbd s9 J9=>?_⟩;exact Yy hC J9 (a3 u as ax) (λs6 H6 J6 h6=>aO (Yz (N:=λzs H5=>∃D,D<U/\W2 (j+1) D zs H5) (λ_ _ z=>z) hE J6 a1 h6) (λr s5 ⟨e,H5,J5,zs,D,hm,w'⟩=>⟨e,H5,J5,D,hm,zs,w'⟩) λ_ _ z=>z)
  λs6 H6 J6 ⟨_,D,hm,w'⟩=>ai ⟨rfl,H6,J6,D,hm,zs,w'⟩
end
section
variable {X:Cx}{elt iter iter2 cd:Expr}{x y2:Str}{px py2 pos:Pos}{scope:Scope}{cl:List (Str×Aj)}{M:List Nat}{wi wi2:TI}{tt:TT}{te:TE}
theorem qj2 {i:Nat}{y:Str}{py spos:Pos}(hN:X.N.Nodup)(hyi:X.N[i]?=some y)(hyl:Loc X.env.scope y)(hc:X.calm=true)(hclos:closureFor scope X.env=pure cl)(hcap:CapAll X.env cl)(hhas:HasAll cl scope.names)(hix:CapIx X scope cl M)(hk:scope.kind=.function)
  (hnames:∀y∈scope.names,y.2=.local->scope.names.lookup y.1=some .local) (hx:scope.names.lookup x=some .local) (hy2:scope.names.lookup y2=some .local) (hnd:(Yn X x y2 M).Nodup) (hi:PI X (.Name x px) iter wi) (hi2:∀C s2 H2 fp pn,PI (wt X scope cl x y2 M C s2 H2 fp pn) (.Name y2 py2) iter2 wi2)
  (ht:∀C s2 H2 fp pn,PT (wt X scope cl x y2 M C s2 H2 fp pn) cd tt) (he:∀C s2 H2 fp pn,PE (wt X scope cl x y2 M C s2 H2 fp pn) elt te) (hs:autoParam (∀z,foldedSetIterable iter X.env z=pure z) aU3._auto_1) (hs2:autoParam (∀env z,foldedSetIterable iter2 env z=pure z) aU7._auto_1)
  (hsw:autoParam (swapsWith (.ListComp elt [⟨.Name x px,iter,[],0⟩,⟨.Name y2 py2,iter2,[cd],0⟩] scope pos) (some (.Name y py)) spos.line X.env=pure true) aU4._auto_1) (hyf:autoParam (X.fn y=true\/X.env.scope.names.lookup y=some .local) aU0._auto_1) :
  PS X (.Assign [.Name y py] (.ListComp elt [⟨.Name x px,iter,[],0⟩,⟨.Name y2 py2,iter2,[cd],0⟩] scope pos) spos) (tAsg (xk3 M wi wi2 tt te) (W9 i)):=by
 intro pins s σ H D I h;rw[gO _ _ _ _ hsw];refine aa (cB (aa ?_));refine aa (aO (wzp hc hclos hcap hhas hix hk hnames hx hy2 hnd hi hi2 ht he hs hs2 (use:=some (assign (.Name y py) X.env)) (QQ:=λ_ s'=>SP X pins D .next s') I h λC s2 W H1 H2 fp J L ax J4 hq=>?_) (λ_ s' hq=>ai (ai hq)) λ_ _ e=>e);have F:Inv X pins σ H2 W:=J.uncomp2 (h':=W.heap) (bn L) ax J4 (iV _ _);have ad:H2 C=none:=J4.free;obtain⟨mC,as,_⟩:=J4.loc;obtain⟨Z,a5,a6,ap,ac⟩:=id as;have ab:C≠X.env.locals:=λz=>aW _ (bb L (z▸J.lt));have a1:X.s₀.heap.objs.size<=C:=bI J.sz (bn L);have a3:∀y c,X.env.cells.lookup y=some c->c≠C:=λy c e z=>by obtain⟨v,o,U,_⟩:=J.cell y c e;exact aW _ (bb L (z▸ak U))
 have a2:∀p∈X.pn++pins,p.1≠C:=λp hp z=>aW _ (bb L (z▸ak (J.pin p hp).1));have a8:C∉frs X.stack:=λz=>by
  rcases aM.mp (J.stkSub C z) with q|q
  .exact ab q
  .obtain⟨_,o,U,_⟩:=J.funs.mem (b:=C) q;exact aW _ (bb L (ak U))
 have a0:C∉X.fs:=λz=>by obtain⟨_,o,U,_⟩:=J.funs.mem (b:=C) z;exact aW _ (bb L (ak U))
 have a7:Inv X (pins++[(C,Z)]) σ H2 W:=⟨F.ok,F.os,F.bare,F.base,F.loc,F.cell,F.free,F.freeC,λp hp=>by
  rcases aX.mp hp with q|q
  .exact F.pin p (cy _ q)
  .rcases aX.mp q with q|q
   .exact F.pin p (az _ q)
   .rw[aU.mp q]
    exact⟨ap,ad,ab,a0,λv z=>by rw[ac.1]at z;cases z⟩,F.hok,F.len⟩
 show wpAny _ _ (assign (.Name y py) X.env (.ref s2.heap.objs.size)) _ _ _;refine gC (jf a7 hN hyi hyl (show RelV (.ref s2.heap.objs.size) (.ref s2.heap.objs.size) from rfl) (λs5 I5=>?_) hyf);have a4:=(I5.pin (C,Z) (az _ (az _ (.head _)))).1;exact⟨mC,⟨Z,a5,a6,a4,ac⟩,λh' an=>⟨_,H2,I5.unpinned.but ad a1 ab a3 a2 an,hq⟩⟩
end
end L2
namespace L2
open PySem PySem.Spec PyProof.Rows
def Itd (a:Int)(n:Nat):It:=⟨λi _=>i<n,λi H x H'=>H'=H/\x=.int (a-i),λi _=>n<=i⟩
theorem wjp {P:Ac}{w:Ah}{K:Aa}{tg:Expr}(it:Aj)(a:Int)(n:Nat):Turn P w K tg (Itd a n) [it] it (λi h=>IsRangeIter h it (a+(i:Nat)*(-1)) ((n:Int)-(i:Nat)) (-1)) where
 mem:=by simp
 obj:=λi h st b hb=>by cases(aU.mp hb);exact⟨_,st,λv z=>nomatch (show Data.fields _=Data.cell v from z)⟩
 keep:=λi h h' st k=>k it (by simp) _ st
 item:=by intro X hP hw hK hc i pins s σ H E I hf st hg;subst hP hw hK;have hfi:=hf it (by simp);refine(Walks.range (prog:=X.prog) (w:=X.w) (I.ok.hd hc) it a (-1) n).item i s _ _ hg st λv h' tk hv st' kk=>?_;obtain⟨t,rfl⟩:=hv;have I1:Inv X pins σ H { s with heap:=h',toks:=tk }:=I.turned (λb o hb e=>kk b o (by simpa using hb) e) hfi.1 hfi.2.1 hfi.2.2.2.1 hfi.2.2.2.2.1 hfi.2.2.2.2.2;refine⟨_,rfl,wkp (s:={ s with heap:=h',toks:=tk }) (n := "range_iterator") st' rfl rfl ⋯ ⟨.int (a-i),H,I1,⟨t,?_⟩,⟨rfl,rfl⟩,st',λb hb=>(hf b hb).1⟩⟩;congr 1;lia
 done:=by intro X hP hw hK hc i pins s σ H E I hf st hg;subst hP hw hK;have hfi:=hf it (by simp);exact wpAny_pyNext_range_end (I.ok.hd hc) st (by have:n<=i:=hg;lia) λh' eb=>⟨rfl,I.turned (t':=s.toks) (λb o hb e=>eb b o hb e) hfi.1 hfi.2.1 hfi.2.2.2.1 hfi.2.2.2.2.1 hfi.2.2.2.2.2⟩
 self:=λ_ _ _ _ _ st h=>wpAny_pyIter_rangeiter st h
section
variable {X:Cx}{tg:Expr}
theorem xk1 {pins:List (Aj×Obj)}{σ:St}{H:Hp}{s:Ab}{R:It->Hp->Prop}{E:Ag->Ab->Prop}{a b:Int}{t u v:Tok}{tk:Nat}(I:Inv X pins σ H s)(h1:-(2 ^ 62)<=a)(h2:a<2 ^ 62)(h3:-(2 ^ 62)<=b)(h4:b<2 ^ 62)
  (q:R (Itd a (a-b).toNat) H):wpAny (model X.prog X.w) X.A (pyIter (.ref s.heap.objs.size)) (PIE X pins σ tg R) E { s with heap:=s.heap.push { cls:=.type "range",data:=.fields #[.int a t,.int b u,.int (-1) v] },toks:=tk }:=by
 refine wpAny_pyIter_range (IsRange.new ..) (W.small_down h1 h2 h3 h4) ?_;generalize eh:s.heap.push { cls:=.type "range",data:=.fields #[.int a t,.int b u,.int (-1) v] }=h1;have z:Inv X pins σ H { s with heap:=h1,toks:=tk }:=I.kept λb o e=>by rw[<-eh];exact ah _ e
 refine⟨h1.objs.size,[h1.objs.size],_,_,H,rfl,z.kept (t':=tk) λb o e=>ah _ e,wjp _ a (a-b).toNat,?_,λc D=>?_,q⟩
 .have J:a+((0:Nat):Int)*(-1)=a:=by lia
  have F:(((a-b).toNat:Nat):Int)-((0:Nat):Int)=Builtin.Range.rangeSize a b (-1):=by rw[W.rangeSize_downNat];lia
  show IsRangeIter _ _ (a+((0:Nat):Int)*(-1)) ((((a-b).toNat:Nat):Int)-((0:Nat):Int)) (-1);rw[J,F];exact aA _ rfl
 .cases(aU.mp D);exact z.fpOk (aj _) (z.hok.fresh (aj _))
def iRngD (ta:TA):TI:=λσ H R=>ta σ H λvs H1=>∃i j:Int,vs=[.int i,.int j,.int (-1)]/\(-(2 ^ 40)<=i/\i<2 ^ 40/\-(2 ^ 40)<=j/\j<2 ^ 40)/\R (Itd i (i-j).toNat) H1
theorem wyd {a b c:Expr}{ta:TA}{p pos:Pos}(hg:Gl X "range")(hm:X.mg "range" = none)(ha:PA X [a,b,c] ta)(hs:autoParam (starEach [a,b,c] X.env=(false,eval a X.env)::starEach [b,c] X.env) aU4._auto_1)(hs2:autoParam ((backTo pos (starEach [b,c] X.env)).any (·.1)=false) aU4._auto_1) :
  PI X tg (.Call (.Name "range" p) [a,b,c] [] pos) (iRngD ta):=by
 intro pins s σ H R I h;refine Call_ (yb I hg hm boot_range (cf (thn (ha pos pins s σ H _ I h) λus s1 ⟨vs,H1,I1,r1,z⟩=>?_) hs hs2));obtain⟨i,j,rfl,⟨z,U,L,J⟩,q⟩:=z;cases r1 with
 |cons r rr =>
  cases rr with
  |cons r' rr =>
   cases rr with
   |cons r'' rr =>
    cases rr;obtain⟨t,rfl⟩:=r;obtain⟨F,rfl⟩:=r';obtain⟨D,rfl⟩:=r'';exact PySem.call_range_3 ⋯ (xk1 I1 ⋯ ⋯ ⋯ ⋯ q) (Or.inl (PyProof.noPylong_small ⋯))
end
theorem xxh {a:Int}{n:Nat}{g:TG}{tb:TS}{D:Ends}{σ:St}{H:Hp}(Pv:Nat->St->Hp->Prop)(h0:Pv 0 σ H)
  (hs:∀i σ H,i<n->Pv i σ H->g (.int (a-i)) σ H λσ2 H2=>tb { D with nx:=Pv (i+1),ct:=Pv (i+1),bk:=D.nx } σ2 H2) (hd:∀σ H,Pv n σ H->D.nx σ H) :
  ∃W:Nat->Nat->St->Hp->Prop,(∃m,W 0 m σ H)/\∀i m σ H,W i m σ H ->
   ((Itd a n).stop i H/\D.nx σ H)\/((Itd a n).go i H/\∃N:St->Hp->Prop,(∀σ' H',N σ' H'->∃m',m'<m/\W (i+1) m' σ' H')/\∀x H',(Itd a n).yld i H x H'->g x σ H' λσ2 H2=>tb { D with nx:=N,ct:=N,bk:=D.nx } σ2 H2):=by
 refine⟨λi m σ H=>m=n-i/\i<=n/\Pv i σ H,⟨n,by simp,aY _,h0⟩,?_⟩;rintro i m σ H ⟨rfl,hi,p⟩;rcases bo i n with z|z
 .refine .inr ⟨z,Pv (i+1),λσ' H' F=>⟨n-(i+1),⋯,rfl,⋯,F⟩,?_⟩;rintro x H' ⟨rfl,rfl⟩;exact hs i σ _ z p
 .obtain rfl:i=n:=by lia
  exact .inl ⟨aj _,hd σ H p⟩
end L2
namespace L2
def Jc (S:Int)(p:Int×Int):Int:=p.1*S/p.2
theorem wkc {S:Int}{p q:Int×Int}(hS:0<=S)(hp:1<=p.2)(hq:1<=q.2)(h:p.1*q.2<=q.1*p.2):Jc S p<=Jc S q:=by
 unfold Jc;refine(gI ⋯).mpr ?_;have z:p.1*S/p.2*p.2<=p.1*S:=eI _ ⋯;generalize p.1*S/p.2=k at z ⊢;have W:k*p.2*q.2<=p.1*S*q.2:=am z ⋯;have U:p.1*q.2*S<=q.1*p.2*S:=am h hS;have D:k*q.2*p.2<=q.1*S*p.2:=by
  have L:k*q.2*p.2=k*p.2*q.2:=by grind
  have J:p.1*S*q.2=p.1*q.2*S:=by grind
  have F:q.1*S*p.2=q.1*p.2*S:=by grind
  lia
 exact bG D ⋯
theorem wvu {G:Int}{p q:Int×Int}(hp:1<=p.2)(hq:1<=q.2)(gp:p.2<=G)(gq:q.2<=G)(h:p.1*q.2<q.1*p.2):Jc (G*G) p<Jc (G*G) q:=by
 have z:0<=G*G:=cA ⋯ ⋯;have F:p.2*q.2<=G*G:=eA gp gq ⋯ ⋯;unfold Jc;generalize G*G=S at z F;have D:p.1*S/p.2*p.2<=p.1*S:=eI _ ⋯;refine(gI ⋯).mpr ?_;generalize p.1*S/p.2=k at D ⊢;have a2:k*p.2*q.2<=p.1*S*q.2:=am D ⋯;have Z:(p.1*q.2+1)*S<=q.1*p.2*S:=am ⋯ z;have J:(k+1)*q.2*p.2<=q.1*S*p.2:=by
  have W:(k+1)*q.2*p.2=k*p.2*q.2+p.2*q.2:=by grind
  have U:p.1*S*q.2+S=(p.1*q.2+1)*S:=by grind
  have L:q.1*S*p.2=q.1*p.2*S:=by grind
  lia
 exact bG J ⋯
def Wor (pt:Nat->Int×Int)(i j:Nat):Prop:=(pt i).1*(pt j).2<(pt j).1*(pt i).2\/((pt i).1*(pt j).2=(pt j).1*(pt i).2/\i<j)
theorem wzq {pt:Nat->Int×Int}{G:Int}{i j:Nat}(hi:1<=(pt i).2)(hj:1<=(pt j).2)(gi:(pt i).2<=G)(gj:(pt j).2<=G)
  (h:Jc (G*G) (pt i)<Jc (G*G) (pt j)\/(Jc (G*G) (pt i)=Jc (G*G) (pt j)/\i<j)):Wor pt i j:=by
 have z:0<=G*G:=cA ⋯ ⋯;unfold Wor;rcases Int.lt_trichotomy ((pt i).1*(pt j).2) ((pt j).1*(pt i).2) with c|c|c
 .exact .inl c
 .have F:=wkc z hi hj (iw c);have D:=wkc z hj hi (iw c.symm);exact .inr ⟨c,⋯⟩
 .have:=wvu hj hi gj gi c;lia
end L2
namespace L2
open PySem PySem.Spec PySem.Calls PySem.W PyProof.Rows
def vh:List Int->List Int->Bool
 |x::xs,y::ys=>if x=y then vh xs ys else decide (x<y)
 |_,_=>false
section
variable {prog:Ac}{w:Ah}{A:Ae}{E:Ag->Ab->Prop}{s:Ab}{Q:Bool->Ab->Prop}
theorem wvc:∀ {us vs:List Ag} {xs ys:List Int} (i:Nat),IntsAre us xs->IntsAre vs ys->Q (vh xs ys) s->KatLex prog w A true false Q (us.zip vs) i s
 |_,_,_,_,i,.nil,b,h=>by cases b <;> exact h
 |_,_,_,_,i,.cons _ _ _,.nil,h=>h
 |_,_,_,_,i,@IntsAre.cons x t us xs a,@IntsAre.cons y u vs ys b,h=>by
  show KatLex prog w A true false Q ((Value.int x t,Value.int y u)::us.zip vs) i s;refine kat_cons (wpAny_eqBool_int ?_);refine kat_go (λe=>kat_yes ?_) λe=>kat_no ?_
  .refine wvc (i+1) a b ?_;have e':x=y:=by simpa using e
   unfold vh at h;rw[ay e']at h;exact h
  .have e':¬ x=y:=by simpa using e
   unfold vh at h;rw[ar e']at h;by_cases c:i=0
   .subst c;exact oneLt_int h
   .have z:(true&&i==0)=false:=by simp[c]
    rw[z];exact kat_one _ _ (lt_int h)
theorem lex_lt {x y:Aj}{us vs:List Ag}{xs ys:List Int}{ox oy:Obj}{n k:Nat}(hx:s.heap.get? x=some ox)(dx:ox.data=.seq us.toArray n)(hy:s.heap.get? y=some oy)(dy:oy.data=.seq vs.toArray k)
  (a:IntsAre us xs) (b:IntsAre vs ys) (hl:us.length=vs.length) (h:Q (vh xs ys) s):wpAny (model prog w) A (keyLt' (tuples' true) (.ref x) (.ref y)) Q E s:=by
 refine kat_lt hx dx hy dy ?_;have e:decide (us.toArray.size<vs.toArray.size)=false:=by simp[hl]
 rw[e];exact wvc 0 a b h
end
theorem wv0:∀xs,vh xs xs=false
 |[]=>rfl
 |x::xs=>by unfold vh;rw[ay rfl];exact wv0 xs
theorem qkx:∀ {n:Nat} {xs ys zs:List Int},xs.length=n->ys.length=n->zs.length=n->vh xs ys=true->vh ys zs=true->vh xs zs=true
 |0,[],[],[],_,_,_,h,_=>h
 |n+1,x::xs,y::ys,z::zs,h1,h2,h3,a,b=>by
  unfold vh at a b ⊢;by_cases e1:x=y
  .rw[ay e1]at a;subst e1;by_cases e2:x=z
   .rw[ay e2]at b ⊢;exact qkx (by simpa using h1) (by simpa using h2) (by simpa using h3) a b
   .rw[ar e2]at b ⊢;exact b
  .rw[ar e1]at a;have:=cx a;by_cases e2:y=z
   .rw[ay e2]at b;subst e2;rw[ar e1];exact a
   .rw[ar e2]at b;have:=cx b;rw[ar ⋯];exact aS ⋯
theorem qyx:∀ {n:Nat} {xs ys:List Int},xs.length=n->ys.length=n->vh xs ys=true\/xs=ys\/vh ys xs=true
 |0,[],[],_,_=>.inr (.inl rfl)
 |n+1,x::xs,y::ys,h1,h2=>by
  unfold vh;by_cases e:x=y
  .subst e;rw[ay rfl,ay rfl];rcases qyx (n:=n) (xs:=xs) (ys:=ys) (by simpa using h1) (by simpa using h2) with h|h|h
   .exact .inl h
   .exact .inr (.inl (by rw[h]))
   .exact .inr (.inr h)
  .rw[ar e,ar (λz=>e z.symm)];by_cases c:x<y
   .exact .inl (aS c)
   .exact .inr (.inr (aS ⋯))
def kzL (ks:List (List Int))(x:List Int):Int:=((ks.countP λy=>vh y x:Nat):Int)
theorem qyy {n:Nat}{ks:List (List Int)}{x y:List Int}(hn:∀k∈ks,k.length=n)(hx:x∈ks)(hy:y∈ks):kzL ks x<kzL ks y↔vh x y=true:=by
 have L:∀u v,u∈ks->v∈ks->vh u v=true->(ks.countP λk=>vh k u)<ks.countP λk=>vh k v:=λu v D U h=>by
  have J:∀k∈ks,vh k u=true->vh k v=true:=λk F e=>qkx (hn k F) (hn u D) (hn v U) e h;have W:(ks.countP λk=>vh k u)<=(ks.countP λk=>vh k v&&!(k==u)):=by
   refine List.countP_mono_left λk F e=>?_;have:k≠u:=λz=>by rw[z,wv0]at e;cases e
   simp[J k F e,this]
  have e2:(ks.countP λk=>vh k v&&!(k==u))+(ks.countP λk=>vh k v&&(k==u))<=ks.countP λk=>vh k v:=by
   clear J W D U hn hx hy
   induction ks with
   |nil=>simp
   |cons k r ih =>
    simp only[List.countP_cons];by_cases c1:vh k v=true <;> by_cases c2:(k==u)=true <;> simp[c1,c2]at ih ⊢ <;> lia
  have Z:0<ks.countP λk=>vh k v&&(k==u):=List.countP_pos_iff.mpr ⟨u,D,by simp[h]⟩;lia
 unfold kzL;constructor
 .intro h;rcases qyx (hn x hx) (hn y hy) with c|c|c
  .exact c
  .rw[c]at h;lia
  .have:=L y x hy hx c;lia
 .intro h;have:=L x y hx hy h;lia
end L2
namespace L2
open PySem PySem.Spec PySem.Calls PySem.W PyProof.Rows
inductive TK (h:Heap) (d:Nat):List Ag->List (List Int)->Prop
 |nil:TK h d [] []
 |cons {x:Aj} {o:Obj} {us:List Ag} {n:Nat} {xs:List Int} {ks:List Ag} {kss:List (List Int)} (ho:h.get? x=some o) (hc:o.cls=.type "tuple") (hd:o.data=.seq us.toArray n) (hi:IntsAre us xs) (hl:xs.length=d) (t:TK h d ks kss):TK h d (.ref x::ks) (xs::kss)
theorem TK.length {h:Heap}{d:Nat}{ks:List Ag}{kss:List (List Int)}(t:TK h d ks kss):ks.length=kss.length:=by
 induction t with
 |nil=>rfl
 |cons _ _ _ _ _ _ ih=>simp[ih]
theorem TK.lens {h:Heap}{d:Nat}{ks:List Ag}{kss:List (List Int)}(t:TK h d ks kss):∀k∈kss,k.length=d:=by
 induction t with
 |nil=>intro k D;cases D
 |cons _ _ _ _ hl _ ih=>intro k D;rcases aM.mp D with rfl|z;exact hl;exact ih k z
theorem TK.kept {h h':Heap}{d:Nat}{ks:List Ag}{kss:List (List Int)}(t:TK h d ks kss)(k:∀b o,h.get? b=some o->o.cls=.type "tuple" -> h'.get? b=some o):TK h' d ks kss:=by
 induction t with
 |nil=>exact .nil
 |cons a b c e f _ ih=>exact .cons (k _ _ a b) b c e f ih
theorem TK.at_ {h:Heap}{d:Nat}{ks:List Ag}{kss:List (List Int)}(t:TK h d ks kss):∀i,i<kss.length->∃x o us n,ks.getD i .none=.ref x/\h.get? x=some o/\o.data=.seq us.toArray n/\IntsAre us (kss.getD i [])/\(kss.getD i []).length=d:=by
 induction t with
 |nil=>intro i hi;simp at hi
 |@cons x o us n xs ks kss a b c e f _ ih =>
  intro i hi;cases i with
  |zero=>exact⟨x,o,us,n,rfl,a,c,e,f⟩
  |succ i=>exact ih i (by simpa using hi)
theorem Q5 {us:List Ag}{xs:List Int}(h:IntsAre us xs):us.length=xs.length:=by
 induction h with
 |nil=>rfl
 |cons _ _ _ ih=>simp[ih]
theorem TK.tups {h:Heap}{d:Nat}{ks:List Ag}{kss:List (List Int)}(t:TK h d ks kss)(hd:1<=d):∃fs,KatTups h ks fs/\fs.length=ks.length/\∀v∈fs,∃i t,v=Value.int i t:=by
 induction t with
 |nil=>exact⟨[],trivial,rfl,λv D=>by cases D⟩
 |@cons x o us n xs ks kss a b c e f _ ih =>
  obtain⟨fs,h1,h2,F⟩:=ih;cases e with
  |nil=>simp at f;lia
  |@cons i t us' xs' e'=>exact⟨.int i t::fs,KatTups.cons a b c (by simp) h1,by simp[h2],λv D=>by rcases aM.mp D with rfl|z;exact⟨i,t,rfl⟩;exact F v z⟩
section
variable {prog:Ac}{w:Ah}{A:Ae}{E:Ag->Ab->Prop}{s:Ab}{a kS:Aj}{vs ks:List Ag}{P:PySem.Fin->Ab->Prop}
end
end L2
namespace L2
open PySem PySem.Spec PySem.Calls PySem.W PyProof.Rows
section
variable {prog:Ac}{w:Ah}{A:Ae}{E:Ag->Ab->Prop}{s:Ab}{a kS:Aj}{vs ks:List Ag}{P:PySem.Fin->Ab->Prop}{f:Ag}
theorem wkg {α:Type}{J:List Ag->List α->Ab->Prop}{body:Ag->PUnit->Sem (ForInStep PUnit)}
  (hb:∀x ks kss (s:Ab),vs[ks.length]?=some x->J ks kss s->wpAny (model prog w) A (body x ⟨⟩) (λr s'=>r=.yield ⟨⟩/\∃k xs,J (ks++[k]) (kss++[xs]) s') E s):∀(r ks:List Ag) (kss:List α) (s:Ab),vs=vs.take ks.length++r->ks.length<=vs.length ->
   J ks kss s->wpAny (model prog w) A (forIn r PUnit.unit body) (λ_ s'=>∃ks kss,ks.length=vs.length/\J ks kss s') E s
 |[],ks,kss,s,hv,hl,j=>by rw[List.forIn_nil];refine ai ⟨ks,kss,?_,j⟩;rw[bP]at hv;have:=bV List.length hv;rw[be]at this;lia
 |x::r,ks,kss,s,hv,hl,j=>by
  rw[List.forIn_cons];have hlen:=bV List.length hv;rw[ao,be,aP]at hlen;have hx:vs[ks.length]?=some x:=by
   rw[hv,aG (by rw[be];lia),be];have:ks.length-min ks.length vs.length=0:=by lia
   rw[this];rfl
  refine aa (aO (hb x ks kss s hx j) (λq s' D=>?_) λ_ _ x=>x);obtain⟨rfl,k,xs,z⟩:=D;show wpAny (model prog w) A (forIn r PUnit.unit body) _ E s';refine wkg hb r (ks++[k]) (kss++[xs]) s' ?_ (by rw[ao,cL];lia) z;rw[ao,cL,dP,hx];simpa using hv
def Zy (h:Heap)(a:Aj)(vs:List Ag):Heap:=((h.update a (Obj.mapSeq λ_=>(#[]:Array Ag))).push (seqObj "tuple" vs.toArray 0)).push (seqObj "list" #[] 0)
end
end L2
namespace L2
open PySem PySem.Spec PySem.Calls PySem.W PyProof.Rows
section
variable {X:Cx}{pins:List (Aj×Obj)}{σ:St}{H:Hp}{s:Ab}
theorem Inv.track {D:Aj}{o:HO}(I:Inv X pins σ H s)(hD:vy X pins H D)(new:ObjOk X.prog X.w (upd H D o) s.heap D o):Inv X pins σ (upd H D o) s:=by
 obtain⟨F,Z,q3,W,U,L⟩:=hD;refine I.call' (s':=s) (ch:=[D]) rfl ⟨λb u q _ _ _=>q,λb u q _ _ _=>⟨u.slots,q⟩,λb u q n hx=>?_,λb u q _=>⟨u,q⟩,λb xs q=>?_,λb u xs q=>?_,λb ps q=>⟨#[],?_⟩⟩ (λb u e=>?_) I.bare λb J=>?_
 .rw[qt (λz=>hx (by simp[z]))];exact n
 .rw[qt (q9 q F)];exact q
 .rw[qt (q9 q F)];exact q
 .rw[qt (q9 q F),q];simp
 .by_cases J:b=D
  .subst J;rw[upd_same]at e;cases e;exact new
  .rw[qt J]at e;exact(I.hok b u e).stay (λc v _ q=>q) (λc q=>by rw[qt (q9 q F)];exact q) λc xs q=>by rw[qt (q9 q F)];exact q
 .obtain rfl:b=D:=by simpa using J
  exact⟨W,Z,U,L⟩
end
end L2
namespace L2
open PySem PySem.Spec PySem.Calls PySem.W PyProof.Rows
def xxf (X:Cx)(f:Ag)(ks:List Str)(r:List V->List V->Hp->VK->Prop):Prop :=
 ∀(pins:List (Aj×Obj)) (s:Ab) (σ:St) (H:Hp) (xs zs:List V) (us ws:List Ag) (Q:VK),Inv X pins σ H s->Vals xs us->Vals zs ws->r xs zs H Q ->
  wpAny (model X.prog X.w) X.A (call f us (ks.zip ws)) (EP X pins σ Q) X.xe s
def tCBK (r:List V->List V->Hp->VK->Prop)(t tk:TA):TE:=λσ H Q=>t σ H λvs H1=>tk σ H1 λzs H2=>r vs zs H2 Q
section
variable {X:Cx}{x:Str}{p pos:Pos}{e:Expr}{es:List Expr}{kws:List Keyword}{t tk:TA}{id:String}{ks:List Str}{r:List V->List V->Hp->VK->Prop}
theorem wk9 (hc:xxf X (.builtin id) ks r)(hg:Gl X x)(hm:X.mg x=none)(hv:bootBuiltins x=some (.builtin id))(ha:PA X (e::es) t)(hkw:PK X kws tk)
  (hall:autoParam ((backToKw pos (keywordEach kws X.env)).all (·.1.isSome)=true) aU4._auto_1) (hks:autoParam ((backToKw pos (keywordEach kws X.env)).filterMap (·.1)=ks) aU4._auto_1) (hn:autoParam (x ≠ "__name__") aU2._auto_1) (hdb:autoParam ((x==("__debug__" : Str))=false) aU1._auto_1)
  (he:autoParam (starEach (e::es) X.env=(false,eval e X.env)::starEach es X.env) aU4._auto_1)
  (hpl:autoParam ((backTo pos (starEach (e::es) X.env)).any (·.1)=false) aU4._auto_1) (hpk:autoParam ((backToKw pos (keywordEach kws X.env)).any (·.1.isNone)=false) aU4._auto_1):PE X (.Call (.Name x p) (e::es) kws pos) (tCBK r t tk):=by
 intro pins s σ H Q I h;refine cT (yb I hg hm hv ?_ hn hdb);refine callWith_builtin_kwB hpl hpk (evalArgs_kw2 hall (thn (ha pos pins s σ H _ I h) λus s1 ⟨vs,H1,I1,r1,q⟩=>?_) he);refine thn (hkw pos pins s1 σ H1 _ I1 q) λws s2 ⟨zs,H2,I2,rz,q2⟩=>?_;dsimp only [List.nil_append];rw[hks];exact hc pins s2 σ H2 vs zs us ws Q I2 r1 rz q2
end
end L2
namespace L2
open PySem PySem.Spec PyProof.Rows
def Tups (L:List (List Int))(ys:List V)(H:Hp):Prop:=Paired (λv xs=>∃a,v=.ref a/\H a=some (.tup (xs.map V.int))) ys L
theorem Tups.keep {L:List (List Int)}{ys:List V}{H H':Hp}(h:Tups L ys H)(k:∀a xs,H a=some (.tup xs)->H' a=some (.tup xs)):Tups L ys H' :=
 Paired.mono (λ_ _ ⟨a,e,f⟩=>⟨a,e,k a _ f⟩) h
theorem Tups.same {L:List (List Int)}{ys:List V}{H H':Hp}(h:Tups L ys H)(s:Same H H'):Tups L ys H':=h.keep λa xs e=>s a _ e
theorem Tups.upd {L:List (List Int)}{ys zs:List V}{H:Hp}{p:Aj}{o:HO}(h:Tups L ys H)(hp:H p=some (.lst zs)):Tups L ys (upd H p o):=h.keep λa xs e=>by rw[qt (λz=>by rw[z,hp]at e;cases e)];exact e
theorem Tups.snoc {L:List (List Int)}{ys:List V}{H:Hp}{a:Aj}{xs:List Int}(h:Tups L ys H)(ha:H a=some (.tup (xs.map V.int))):Tups (L++[xs]) (ys++[.ref a]) H:=Paired.app h (.cons ⟨a,rfl,ha⟩ .nil)
theorem Tups.get {L:List (List Int)}{ys:List V}{H:Hp}(h:Tups L ys H){i:Nat}{v:V}(e:ys[i]?=some v):∃a xs,v=.ref a/\L[i]?=some xs/\H a=some (.tup (xs.map V.int)):=by
 unfold Tups at h
 induction h generalizing i with
 |nil=>simp at e
 |cons r t ih =>
  cases i with
  |zero =>
   obtain⟨a,rfl,f⟩:=r;simp at e;exact⟨a,_,e.symm,rfl,f⟩
  |succ i=>exact ih (by simpa using e)
theorem Tups.len {L:List (List Int)}{ys:List V}{H:Hp}(h:Tups L ys H):ys.length=L.length:=bZ h
section
variable {X:Cx}{K:Aa}
theorem xzz (hK:X.K=K):OpR X (binaryOp .Add) (rCatW K):=by subst hK;exact xv1
end
def Z4 (c:Int->Bool)(row vs:List Int):List (List Int):=(vs.filter c).map λv=>row++[v]
theorem qkh (c:Int->Bool)(row vs:List Int)(v:Int):Z4 c row (vs++[v])=Z4 c row vs++if c v=true then [row++[v]] else []:=by
 unfold Z4;rw[gn,aR];congr 1;by_cases h:c v=true
 .rw[ay h,fP,ay h];rfl
 .rw[ar h,fP,ar h];rfl
theorem wwn (c:Int->Bool)(row vs:List Int):(Z4 c row vs).length<=vs.length:=by unfold Z4;rw[ag];exact dw _ _
def Zp (c:Int->Bool)(g:List Int->List Int)(L:List (List Int)):List (List Int):=L.flatMap λr=>Z4 c r (g r)
theorem quk {c:Int->Bool}{g:List Int->List Int}:∀ {L:List (List Int)},(∀r∈L,(g r).length<=24)->(Zp c g L).length<=24*L.length
 |[],_=>aj _
 |r::L,h=>by
  have ih:=quk (c:=c) (g:=g) (L:=L) λr hr=>h r (.tail _ hr);have h1:=wwn c r (g r);have h2:=h r (.head _);have e:Zp c g (r::L)=Z4 c r (g r)++Zp c g L:=by unfold Zp;rw[List.flatMap_cons]
  rw[e,ao,aP];lia
theorem wyn (c:Int->Bool)(g:List Int->List Int){L:List (List Int)}{i:Nat}{r:List Int}(h:L[i]?=some r):Zp c g (L.take (i+1))=Zp c g (L.take i)++Z4 c r (g r):=by unfold Zp;rw[dP,h,io];simp
theorem wq5 {K:Aa}{M:List Nat}{q:Aj}{us:List V}{wi2:TI}{tt:TT}{te:TE}{σ:St}{H:Hp}{Q:VK}(L:List (List Int))(g:List Int->List Int)(c:Int->Bool)(hq:SqL K H q us)(hL:Tups L us H)(hn:L.length<=10000)(hg:∀r∈L,(g r).length<=24)
  (hw:∀(r:List Int) (a:Aj) (H':Hp) (R:It->Hp->Prop),r∈L->H' a=some (.tup (r.map V.int))->Same H H'->(∀b,SqL K H b ((g r).map V.int)->R (Itl K b) H')->wi2 (xy M σ (some (.ref a)) none) H' R)
  (ht:∀(r:List Int) (a:Aj) (u:Int) (H':Hp) (R:Bool->Hp->Prop),r∈L->u∈g r->Same H H'->R (c u) H'->tt (xy M σ (some (.ref a)) (some (.int u))) H' R)
  (he:∀(r:List Int) (a:Aj) (u:Int) (H':Hp) (R:VK),r∈L->u∈g r->c u=true->H' a=some (.tup (r.map V.int))->Same H H'->(∀b H'',Same H' H''->H'' b=some (.tup ((r++[u]).map V.int))->R (.ref b) H'')->te (xy M σ (some (.ref a)) (some (.int u))) H' R)
  (k:∀p ys H',H p=none->Same H H'->H' p=some (.lst ys)->Tups (Zp c g L) ys H'->Q (.ref p) H'):qy2 (Itl K q) M wi2 tt te σ H Q:=by
 have ad:(1000000:Nat)<sizeLine:=by decide
 intro p np;have ac:∀ {H':Hp} {o:HO},Same H H'->Same H (upd H' p o):=λs b u e=>by rw[qt (q9 e np)];exact s b u e
 have tl:∀i,∀r∈L.take i,(g r).length<=24:=λi r hr=>hg r (dH hr);have lu:=hL.len;refine⟨λi m ys H2=>i<=L.length/\m=L.length-i/\Same H H2/\H2 p=some (.lst ys)/\Tups (Zp c g (L.take i)) ys H2,⟨L.length,aY _,rfl,Same.upd np,upd_same,.nil⟩,?_⟩;rintro i m ys H2 ⟨hi,rfl,s2,f2,t2⟩;refine⟨f2,?_⟩;rcases bo i L.length with z|z
 .have Z:us[i]?=some us[i]:=ae ⋯;obtain⟨a,r,ea,er,fa⟩:=(hL.same s2).get Z;have J:r∈L:=aF er;refine .inr ⟨⟨us,_,s2.sql hq,Z⟩,?_⟩;rintro v H3 ⟨rfl,hv⟩;have e:=av (Z.symm.trans (hv us (s2.sql hq)));rw[ea]at e;subst e;refine hw r a H3 _ J fa s2 λb U=>?_;have lg:((g r).map V.int).length=(g r).length:=ag _;refine⟨λj m2 zs F=>j<=(g r).length/\m2=(g r).length-j/\Same H F/\F a=some (.tup (r.map V.int))/\F p=some (.lst zs)/\Tups (Zp c g (L.take i)++Z4 c r ((g r).take j)) zs F,⟨(g r).length,aY _,rfl,s2,fa,f2,by rw[show Z4 c r ((g r).take 0)=[] from rfl,bP];exact t2⟩,?_⟩;rintro j m2 zs F ⟨hj,rfl,s5,fa5,f5,t5⟩;have lz:zs.length<sizeLine:=by have e1:=t5.len;have e2:=quk (c:=c) (tl i);have e3:=wwn c r ((g r).take j);have e4:=hg r J;rw[be]at e2 e3;rw[ao]at e1;lia
  refine⟨f5,lz,?_⟩;rcases bo j (g r).length with y|y
  .have eu:(g r)[j]?=some (g r)[j]:=ae y;have um:(g r)[j]∈g r:=bD _;have ab:((g r).map V.int)[j]?=some (.int (g r)[j]):=by rw[aw,eu];rfl
   refine .inr ⟨⟨_,_,s5.sql U,ab⟩,?_⟩;rintro u H6 ⟨rfl,hu⟩;have e:=av (ab.symm.trans (hu _ (s5.sql U)));subst e;refine ht r a _ H6 _ J um s5 ?_;have ap:a≠p:=λw=>by rw[w,f5]at fa5;cases fa5
   have et:(g r).take (j+1)=(g r).take j++[(g r)[j]]:=by rw[dP,eu];rfl
   cases hc:c (g r)[j] with
   |true =>
    refine Q2 ?_;refine he r a _ H6 _ J um hc fa5 s5 λb' H7 D W=>⟨D _ _ f5,(g r).length-(j+1),⋯,⋯,rfl,ac (s5.trans D),by rw[qt ap];exact D _ _ fa5,upd_same,?_⟩;rw[et,qkh,ay hc,<-aZ];exact((t5.same D).upd (D _ _ f5)).snoc (by rw[qt (λw=>by rw[w,D _ _ f5]at W;cases W)];exact W)
   |false =>
    refine yx ⟨f5,(g r).length-(j+1),⋯,⋯,rfl,s5,fa5,f5,?_⟩;rw[et,qkh,ar (by rw[hc];exact aH),bP];exact t5
  .obtain rfl:j=(g r).length:=by lia
   refine .inl ⟨⟨_,s5.sql U,by rw[lg];exact aj _⟩,L.length-(i+1),⋯,⋯,rfl,s5,f5,?_⟩;rw[wyn c g er];rw[bE]at t5;exact t5
 .obtain rfl:i=L.length:=by lia
  rw[bE]at t2;exact .inl ⟨⟨us,s2.sql hq,⋯⟩,k p ys H2 np s2 f2 t2⟩
end L2
namespace L2
open PySem PySem.Spec PySem.Calls PySem.W PyProof.Rows
def uy (w:Ah)(S:Aj)(ps:List (Int×Ag)):HO:=.ext λh=>SAt w h S ps
theorem qq4 {P:Ac}{w:Ah}{H:Hp}{h:Heap}{S:Aj}{ps:List (Int×Ag)}(x:SAt w h S ps):ObjOk P w H h S (uy w S ps):=⟨x,let ⟨o,_,_,e,_⟩:=x;⟨o,e⟩,λh1 h2 a k=>a.at_ k⟩
def PsT (P:Ac)(w:Ah)(H:Hp)(ps:List (Int×Ag))(L:List (List Int)):Prop:=Paired (λp (xs:List Int)=>∃a,p=((KD P w).hash (xs.map Sum.inl),Value.ref a)/\H a=some (.tup (xs.map V.int))) ps L
def PsI (P:Ac)(w:Ah)(ps:List (Int×Ag))(ns:List Int):Prop:=Paired (λp (n:Int)=>∃t,p=((intKind P w).hash n,Value.int n t)) ps ns
theorem wvk (xs:List Int):(xs.map (Sum.inl:Int->Key)).map kV=xs.map V.int:=by rw[bp];rfl
theorem xkv {xs ys:List Int}(h:xs.map (Sum.inl:Int->Key)=ys.map Sum.inl):xs=ys:=(List.map_inj_right λa b e=>Sum.inl.inj e).mp h
theorem PsT.kp {P:Ac}{w:Ah}{H:Hp}{h:Heap}(ok:HOk P w H h):∀ {ps:List (Int×Ag)} {L:List (List Int)},PsT P w H ps L->KP P w h ps (L.map λxs=>xs.map Sum.inl)
 |_,_,.nil=>.nil
 |_,_,.cons ⟨a,e,f⟩ t=>.cons ⟨a,e,Yt ok (by rw[wvk];exact f)⟩ (PsT.kp ok t)
theorem PsT.keep {P:Ac}{w:Ah}{H H':Hp}{ps:List (Int×Ag)}{L:List (List Int)}(h:PsT P w H ps L)(k:∀a xs,H a=some (.tup xs)->H' a=some (.tup xs)):PsT P w H' ps L :=
 Paired.mono (λ_ _ ⟨a,e,f⟩=>⟨a,e,k a _ f⟩) h
theorem PsT.len {P:Ac}{w:Ah}{H:Hp}{ps:List (Int×Ag)}{L:List (List Int)}(h:PsT P w H ps L):ps.length=L.length:=bZ h
theorem PsI.len {P:Ac}{w:Ah}{ps:List (Int×Ag)}{L:List Int}(h:PsI P w ps L):ps.length=L.length:=bZ h
theorem Paired.perm {α β:Type}{R:α->β->Prop}{ps ps':List α}{L:List β}(p:ps'.Perm ps)(h:Paired R ps L):∃L',L'.Perm L/\Paired R ps' L':=by
 induction p generalizing L with
 |nil =>
  cases h;exact⟨[],.refl _,.nil⟩
 |cons x _ ih =>
  cases h with
  |cons r t =>
   obtain⟨L',a,b⟩:=ih t;exact⟨_::L',a.cons _,.cons r b⟩
 |swap x y l =>
  cases h with
  |cons r t =>
   cases t with
   |cons r' t=>exact⟨_,.swap _ _ _,.cons r' (.cons r t)⟩
 |trans _ _ ih1 ih2 =>
  obtain⟨W,J,D⟩:=ih2 h;obtain⟨U,F,z⟩:=ih1 D;exact⟨U,F.trans J,z⟩
abbrev qxd:=Aj->List (Int×Ag)->V->Hp->(List (Int×Ag)->Hp->Prop)->Prop
def Yg (X:Cx)(add:qxd):Prop:=∀(pins:List (Aj×Obj)) (s:Ab) (σ:St) (H:Hp) (p:Aj) (ps:List (Int×Ag)) (y:V) (yv:Ag) (Q:List (Int×Ag)->Hp->Prop),Inv X pins σ H s->RelV y yv->H p=some (uy X.w p ps)->add p ps y H Q ->
 wpAny (model X.prog X.w) X.A (call (.builtin "set.add") [.ref p,yv]) (λ_ s'=>∃ps' H',Inv X pins σ H' s'/\Q ps' H') X.xe s
def addT (P:Ac)(w:Ah):qxd:=λp ps y H Q=>∃a xs L,y=.ref a/\H a=some (.tup (xs.map V.int))/\PsT P w H ps L/\ps.length<1099/\(xs∈L->Q ps H)/\(xs∉L->∀ps',ps'.Perm (((KD P w).hash (xs.map Sum.inl),.ref a)::ps)->Q ps' (upd H p (uy w p ps')))
def addI (P:Ac)(w:Ah):qxd:=λp ps y H Q=>∃(n:Int) (L:List Int),y=.int n/\PsI P w ps L/\ps.length<1000/\(n∈L->Q ps H)/\(n∉L->∀ps' t,ps'.Perm (((intKind P w).hash n,.int n t)::ps)->Q ps' (upd H p (uy w p ps')))
section
variable {prog:Ac}{w:Ah}{A:Ae}{E:Ag->Ab->Prop}{s:Ab}{S:Aj}{ps:List (Int×Ag)}
theorem xzu {L:List Int}(h:PsI prog w ps L):ElemsOf (intKind prog w) ps:=by
 induction h with
 |nil=>intro e z;cases z
 |@cons p n ps L r t ih =>
  obtain⟨tk,rfl⟩:=r;intro e z;rcases aM.mp z with rfl|z
  .exact⟨⟨n,by simp[intKind,Value.isInt],rfl⟩,rfl⟩
  .exact ih e z
theorem PsI.mem_of {L:List Int}{n:Int}(h:PsI prog w ps L):(∃j,ps.findIdx? (λe=>(intKind prog w).is n e.2)=some j)↔n∈L:=by
 constructor
 .rintro⟨j,W⟩;obtain⟨U,D,_⟩:=List.findIdx?_eq_some_iff_getElem.mp W;have F:∀ {ps:List (Int×Ag)} {L:List Int},PsI prog w ps L->∀p∈ps,(intKind prog w).is n p.2=true->n∈L:=by
   intro ps L h
   induction h with
   |nil=>intro p D;cases D
   |@cons p m ps L r t ih =>
    obtain⟨tk,rfl⟩:=r;intro q J z;rcases aM.mp J with rfl|J
    .have:m=n:=by simpa [intKind,Value.isInt] using z
     rw[this];exact .head _
    .exact .tail _ (ih q J z)
  exact F h _ (bD U) D
 .intro z;cases q:ps.findIdx? (λe=>(intKind prog w).is n e.2) with
  |some j=>exact⟨j,rfl⟩
  |none =>
   have Z:=List.findIdx?_eq_none_iff.mp q;have F:∀ {ps:List (Int×Ag)} {L:List Int},PsI prog w ps L->n∈L->∃p∈ps,(intKind prog w).is n p.2=true:=by
    intro ps L h
    induction h with
    |nil=>intro z;cases z
    |@cons p m ps L r t ih =>
     obtain⟨tk,rfl⟩:=r;intro z;rcases aM.mp z with rfl|z
     .exact⟨_,.head _,by simp[intKind,Value.isInt]⟩
     .obtain⟨p,D,e⟩:=ih z;exact⟨p,.tail _ D,e⟩
   obtain⟨p,D,e⟩:=F h z;have:=Z p D;rw[e]at this;cases this
theorem xw2 {L:List Int}{n:Int}{t0:Tok}{Q:Bool->Ab->Prop}(P:SAt w s.heap S ps)(K:PsI prog w ps L)(hn:ps.length<1000)(hQ1:n∈L->∀tk,Q false { s with toks:=tk })
  (hQ2:n∉L->∀h' tk ps',Heap.SameBut S s.heap h'->SAt w h' S ps'->ps'.Perm (((intKind prog w).hash n,.int n t0)::ps)->Q true { s with heap:=h',toks:=tk }) :
  wpAny (model prog w) A (setAdd S (.int n t0)) Q E s:=by
 obtain⟨o,ep,t,W,ap,Z,T,a4⟩:=P;have bm:=T.big;have ad:(intKind prog w).is n (.int n t0)=true:=by simp[intKind,Value.isInt]
 have el:=xzu K;have a2:scanBound=4096:=rfl;unfold setAdd;refine b8 (aa ((intKind prog w).pyHash ad ?_));generalize s.toks+1=tk;unfold setAddHashed setAddHashedIn;refine b8 (aa (bJ (s:={ s with toks:=tk }) W Z T.fits' ?_));dsimp only;rw[byScan_of (knd:=intKind prog w) rfl (by rw[au];lia) (by simpa using el)];simp only[cI];unfold setAddByScan;refine aa ?_;refine aa (dA ?_);refine aa (wpAny_setScan_of (s:={ s with toks:=tk }) ad W Z T.fits' (by simpa using el) ?_);rw[show ps.toArray.toList=ps from rfl];cases hr:ps.findIdx? (λe=>(intKind prog w).is n e.2) with
 |some j =>
  dsimp only;exact ai (ai (hQ1 (K.mem_of.mp ⟨j,hr⟩) tk))
 |none =>
  have ac:n∉L:=λz=>by obtain⟨j,ej⟩:=K.mem_of.mpr z;rw[hr]at ej;cases ej
  dsimp only;obtain⟨N,r1,r2,r3⟩:=T.free ((intKind prog w).hash n);generalize hh:(intKind prog w).hash n=h at r1 r2 r3 hQ2 ⊢;have fs:t.freeSlot h=some (pos t h N,false):=by
   unfold SetTable.freeSlot SetTable.probe;obtain⟨m,e1,ok⟩:=Y3 (t:=t) (h:=h) (ha:=λ_=>h+1) N (10*SetTable.turns t.mask) (t.probeStart h) (by unfold SetTable.turns;lia) rfl r3 (.inl r2);rw[e1];cases ok with
   |empty hs=>rfl
   |cand m i hm hs hh=>lia
  obtain⟨F,a3⟩:=T.put r1 r2 r3 (by rw[ag];lia);have pm:=ut ps (t.put (pos t h N)).2 (h,Value.int n t0);have U:=pm.length_eq;rw[aP]at U;rw[<-wv5 ps (t.put (pos t h N)).2 (h,Value.int n t0)]at F;have a0:(t.put (pos t h N)).1.fits (xn ps (t.put (pos t h N)).2 (h,Value.int n t0)).toArray.size=true:=F.fits';have ln:layNew t ps.toArray h (.int n t0)=((xn ps (t.put (pos t h N)).2 (h,Value.int n t0)).toArray,(t.put (pos t h N)).1,false,false):=by unfold layNew;rw[fs];dsimp only;rw[wv1];unfold SetTable.orStandIn;rw[a0];rfl
  rw[ln];dsimp only;have hm:(t.put (pos t h N)).1.mask=t.mask:=rfl;generalize (t.put (pos t h N)).2=p at F pm U ⊢;generalize (t.put (pos t h N)).1=t1 at F hm ⊢;have a5:100000<=sizeLine:=by decide
  have gw:∀ {s₁:Ab} {Q':Unit->Ab->Prop},Q' () s₁->wpAny (model prog w) A (match false with | true=>rule "set.scan.the-table-gave-way" | false=>pure ()) Q' E s₁:=λhq=>ai hq;refine aa (gw ?_);rw[ay F.plain,hashByValue_scannable 8 rfl];refine aa (ai ?_);simp only[plainKind,cI];refine aa (gK (s:={ s with toks:=tk }) W Z ?_ (by rw[au];lia));have g1:(s.heap.update S (Obj.putSet (xn ps p (h,Value.int n t0)).toArray t1)).get? S=some { o with data:=.set (xn ps p (h,Value.int n t0)).toArray (ep+1) t1 }:=qju W Z;have ab:Heap.SameBut S s.heap (s.heap.update S (Obj.putSet (xn ps p (h,Value.int n t0)).toArray t1)):=cD _ _ _;have fl:t1.fill=ps.length+1:=by unfold SetTable.fill;rw[F.dm,F.pl,ag,U];rfl
  generalize s.heap.update S (Obj.putSet (xn ps p (h,Value.int n t0)).toArray t1)=h1 at g1 ab ⊢;by_cases tf:t1.tooFull=true
  .rw[tf];simp only[iH,kB,cI];have gr:SetTable.grown (xn ps p (h,Value.int n t0)).toArray.size=4*((xn ps p (h,Value.int n t0)).map (·.1)).length:=by unfold SetTable.grown;rw[ar (by rw[au];lia),ag,au];lia
   obtain⟨J,D,f1,f2,T2,f4⟩:=F.relay (by rw[ag,U];lia);have ax:(xn ps p (h,Value.int n t0)).toArray.map (·.1)=((xn ps p (h,Value.int n t0)).map (·.1)).toArray:=by simp
   have an:∀i∈D.toList,i<(xn ps p (h,Value.int n t0)).length:=λi hi=>by have:=aq.mp (f2.mem_iff.mp hi);rwa [ag]at this
   have oe:D.filterMap (λi=>(xn ps p (h,Value.int n t0)).toArray[i]?)=(D.toList.map λi=>(xn ps p (h,Value.int n t0)).getD i (0,.none)).toArray:=by apply eX.mp;rw[Array.toList_filterMap,Zs _ _ an]
   have ol:(D.toList.map λi=>(xn ps p (h,Value.int n t0)).getD i (0,.none)).length=(xn ps p (h,Value.int n t0)).length:=by rw[ag,f2.length_eq,aE,ag]
   have op:(D.toList.map λi=>(xn ps p (h,Value.int n t0)).getD i (0,.none)).Perm (xn ps p (h,Value.int n t0)):=by
    refine(f2.map _).trans ?_;rw[ag];have:(List.range (xn ps p (h,Value.int n t0)).length).map (λi=>(xn ps p (h,Value.int n t0)).getD i (0,.none))=xn ps p (h,Value.int n t0):=by
     refine bY λi=>?_;rw[aw];by_cases c:i<(xn ps p (h,Value.int n t0)).length
     .rw[bi c];simp[af,c]
     .rw[aQ (by simp;lia),aQ ⋯];rfl
    rw[this]
   have om:(D.toList.map λi=>(xn ps p (h,Value.int n t0)).getD i (0,.none)).map (·.1)=D.toList.map λi=>((xn ps p (h,Value.int n t0)).map (·.1)).getD i 0:=by rw[bp];refine cu λi hi=>?_;have:=an i hi;simp[af,this]
   rw[<-om]at T2;have a1:coversAll D (xn ps p (h,Value.int n t0)).toArray.size=true:=by unfold coversAll;rw[List.isPerm_iff,au];have:=f2;rwa [ag]at this
   have ra:relayAll t1 (xn ps p (h,Value.int n t0)).toArray (SetTable.grown (xn ps p (h,Value.int n t0)).toArray.size)=((D.toList.map λi=>(xn ps p (h,Value.int n t0)).getD i (0,.none)).toArray,J,false):=by unfold relayAll;rw[gr,ax,f1];dsimp only;rw[oe,a1];have:=T2.fits';rw[this];rfl
   rw[ra];dsimp only;generalize (D.toList.map λi=>(xn ps p (h,Value.int n t0)).getD i (0,.none))=ps2 at T2 op ol;refine aa (gw ?_);refine aa (gK (s:={ s with heap:=h1,toks:=tk }) g1 rfl ?_ (by rw[au,ol];lia));refine ai ?_;dsimp only;have as:Heap.SameBut S h1 (h1.update S (Obj.putSet ps2.toArray J)):=cD _ _ _;have g2:(h1.update S (Obj.putSet ps2.toArray J)).get? S=some { o with data:=.set ps2.toArray (ep+1+1) J }:=qju g1 rfl;refine ai (hQ2 ac _ tk ps2 (ab.trans as) ⟨_,_,J,g2,ap,rfl,T2,?_⟩ (op.trans pm));rw[ag]at f4;lia
  .rw[jC]at tf;rw[tf];simp only[gF,aB,br];refine ai (ai (hQ2 ac h1 tk _ ab ⟨_,_,t1,g1,ap,rfl,F,?_⟩ pm));unfold SetTable.tooFull at tf;have:=of_decide_eq_false tf;rw[fl]at this;lia
theorem wq2 {x:Ag}{Q:Ag->Ab->Prop}(hT:s.TypeIs (.ref S) "set")(h:wpAny (model prog w) A.in1 (setAdd S x) (λ_ s'=>Q .none s') E s):wpAny (model prog w) A (call (.builtin "set.add") [.ref S,x]) Q E s:=by refine cV F.slot_set_add hT F.entry_set_add ?_ (F.args_set_add_2 _ _);unfold Builtin.«set.add» Builtin.Frozenset.oneOther;simp only[List.isEmpty_nil,bind_assoc];unfold Builtin.Frozenset.addrOf;(refine aa (ai ?_) ;try dsimp only);(refine aa (ai ?_) ;try dsimp only);refine aa (aO h (λb s' z=>?_) λ_ _ e=>e);show wpAny _ _ (ret Value.none) _ _ _;exact ai ⟨_,rfl,z⟩
end
section
variable {X:Cx}
theorem xvd (hu:X.A.units+64<cLine):Yg X (addT X.prog X.w):=by
 intro pins s σ H p ps y Z Q I ry F h;obtain⟨a,xs,L,rfl,J,hL,hn,q1,q2⟩:=h;obtain rfl:Z=Value.ref a:=ry;have P:SAt X.w s.heap p ps:=(I.hok p _ F).1;obtain⟨_,ab,rv,o,h1,h2,n,h3⟩:=(show ObjOk X.prog X.w H s.heap a (.tup (xs.map V.int)) from I.hok a _ J);have K:=hL.kp I.hok;have hx:(KD X.prog X.w).is s.heap (xs.map Sum.inl) a:=Yt I.hok (by rw[wvk];exact J);refine wq2 P.typeIs (xw3 P K hx h1 h3 (λv hv=>?_) (by show X.A.in1.units<cLine;simp only[Around.in1];lia) hn (λz tk=>?_) λz h' tk D sb U pm=>?_)
 .exact(Qk rv).all v hv
 .refine⟨ps,H,I.tok _,q1 ?_⟩;obtain⟨ys,hy,e⟩:=aL.mp z;rw[<-xkv e];exact hy
 .refine⟨D,_,qwd I (by rw[F];trivial) sb (let ⟨o,_,_,e,_⟩:=U;⟨o,e⟩) (qq4 U),q2 (λW=>z (aL.mpr ⟨xs,W,rfl⟩)) D pm⟩
theorem xv6:Yg X (addI X.prog X.w):=by intro pins s σ H p ps y yv Q I W F h;obtain⟨n,L,rfl,hL,hn,q1,Z⟩:=h;obtain⟨t,rfl⟩:=W;have P:SAt X.w s.heap p ps:=(I.hok p _ F).1;refine wq2 P.typeIs (xw2 P hL hn (λz tk=>⟨ps,H,I.tok _,q1 z⟩) λz h' tk D U J pm=>?_);exact⟨D,_,qwd I (by rw[F];trivial) U (let ⟨o,_,_,e,_⟩:=J;⟨o,e⟩) (qq4 J),Z z D t pm⟩
end
end L2
namespace L2
open PySem PySem.Spec PySem.Calls PySem.W PyProof.Rows
theorem wwt {α:Type}:∀l:List α,l.zip l=l.map λv=>(v,v)
 |[]=>rfl
 |a::l=>by rw[List.zip_cons_cons,wwt l];rfl
theorem TK.at_' {h:Heap}{d:Nat}{ks:List Ag}{kss:List (List Int)}(t:TK h d ks kss):∀i,i<kss.length->∃x o us n,ks.getD i .none=.ref x/\h.get? x=some o/\o.cls=.type "tuple" /\ o.data=.seq us.toArray n/\IntsAre us (kss.getD i [])/\(kss.getD i []).length=d:=by
 induction t with
 |nil=>intro i hi;simp at hi
 |@cons x o us n xs ks kss a b c e f _ ih =>
  intro i hi;cases i with
  |zero=>exact⟨x,o,us,n,rfl,a,b,c,e,f⟩
  |succ i=>exact ih i (by simpa using hi)
section
variable {prog:Ac}{w:Ah}{A:Ae}{E:Ag->Ab->Prop}{s:Ab}{S:Aj}{ps:List (Int×Ag)}
theorem ww0 {Q:List Ag->Ab->Prop}(hh:A.handled=none)(P:SAt w s.heap S ps)(hn:ps.length<=sizeLine)
  (h:∀h' tk (qs:List (Int×Ag)),(∀b o,s.heap.get? b=some o->h'.get? b=some o)->qs.Perm ps->s.heap.objs.size<=h'.objs.size->Q (qs.map (·.2)) { s with heap:=h',toks:=tk }):wpAny (model prog w) A (collect (.ref S)) Q E s:=by
 obtain⟨o,ep,t,L,ab,hd,T,ac⟩:=P;have U:S<s.heap.objs.size:=ak L;have R:SRaw (s.heap.push (seqObj "list" #[] 0)) S ps ep t:=⟨o,ah _ L,ab,hd⟩;have Z:codeAny (model prog w) A (.builtin "proto.collect" ⟨[.ref S],[]⟩) (λr s'=>r=.ok (.ret (.ref s.heap.objs.size))/\∃h' tk z c',s'={ s with heap:=h',toks:=tk }/\(∀b o,b≠s.heap.objs.size->(s.heap.push (seqObj "list" #[] 0)).get? b=some o->h'.get? b=some o) /\
   h'.get? s.heap.objs.size=some { cls:=.type "list",dict:=none,data:=.seq z c',slots:=#[] }/\ItemsOf (λi v=>∃p,(wk w S ep ps)[i]?=some p/\v=p.2) z ps.length) s:=by
  refine ii entry_proto_collect' ?_;show wpAny _ _ (do again (.builtin "list.__iadd__" ⟨[<-newList [],.ref S],[]⟩)) _ _ s;(refine aa (gX (ai ⟨Code.quiet_builtin _ (by decide +kernel),ii entry_list_iadd' ?_⟩)) ;rw[hU (show plainId "list.__iadd__" = true by decide +kernel) _]);show wpAny _ _ (Builtin.List.listExtendWith (.ref s.heap.objs.size) (.ref S) (.ref s.heap.objs.size)) _ _ _;exact kdl_extend (s:={ s with heap:=s.heap.push (seqObj "list" #[] 0) }) (R:=λr s'=>r=.ok (.ret (.ref s.heap.objs.size))/\∃h' tk z c',s'={ s with heap:=h',toks:=tk }/\(∀b o,b≠s.heap.objs.size->(s.heap.push (seqObj "list" #[] 0)).get? b=some o->h'.get? b=some o) /\
   h'.get? s.heap.objs.size=some { cls:=.type "list",dict:=none,data:=.seq z c',slots:=#[] }/\ItemsOf (λi v=>∃p,(wk w S ep ps)[i]?=some p/\v=p.2) z ps.length) (xkd T) (by simpa using hh) R s.heap.objs.size (fM U) (fM U) (.ref s.heap.objs.size) 0 (aA _ rfl) (λh' tk z c' F D J=>⟨rfl,h',tk,z,c',rfl,F,D,J⟩) hn
 unfold collect;refine aa (wpAny_runValue (eJ Z λr s' hr=>?_));obtain⟨rfl,h',tk,z,c',rfl,F,D,J⟩:=hr;dsimp only;refine aa (wpAny_load D ?_);refine ai ?_;have e:z.toList=(wk w S ep ps).map (·.2):=by
  obtain⟨W,a2⟩:=J;have hl:=(qww w S ep ps).length_eq;refine bY λi=>?_;rw[aw];by_cases c:i<ps.length
  .have hi:i<z.size:=by rw[W];exact c
   obtain⟨p,e1,e2⟩:=a2 i z[i] (bf hi);rw[aJ,bf hi,e1,e2];rfl
  .rw[aQ (by rw[aV,W];lia),aQ ⋯];rfl
 rw[e];refine h h' tk _ (λb o e=>F b o (aC (ak e)) (ah _ e)) (qww w S ep ps) ?_;exact bn (ak D)
theorem ww7 {a:Aj}{vs:List Ag}{k d:Nat}{kss:List (List Int)}{P:PySem.Fin->Ab->Prop}(ho:s.heap.get? a=some (seqObj "list" vs.toArray k))(h6:vs.length<=100000)(hd:1<=d)(t:TK s.heap d vs kss)(nd:kss.Nodup)
  (h:∀(out:List Ag) (kss':List (List Int)),TK s.heap d out kss'->out.Perm vs->kss'.Perm kss->kss'.Pairwise (λx y=>vh x y=true)->P (.done (.ret .none)) { s with heap:=sortedHeap s.heap a vs out.toArray }):wpAny (model prog w) A (Builtin.«list.sort» ⟨[.ref a],[]⟩) P E s:=by
 have a9:=t.length;have ha:a<s.heap.objs.size:=ak ho;obtain⟨e1,ax⟩:∃e1,(s.heap.update a (Obj.mapSeq λ_=>(#[]:Array Ag))).get? a=some (seqObj "list" #[] e1):=⟨_,fE ho λ_=>#[]⟩;have sz:(1000001:Nat)<sizeLine:=by decide
 rw[list_sort_plain];refine aa (listItems_at ho rfl ?_);refine aa (fG ho rfl ?_ (by rw[au];lia) (aY _));refine aa (i4 ax rfl ?_);refine aa (wpAny_newTuple ?_ (by show vs.length<=_;lia));refine aa (gX ?_ (aY _));refine b8 ?_;show wpAny (model prog w) A _ P E { s with heap:=((s.heap.update a (Obj.mapSeq λ_=>(#[]:Array Ag))).push (seqObj "tuple" vs.toArray 0)).push (seqObj "list" #[] 0) };have ad:(((s.heap.update a (Obj.mapSeq λ_=>(#[]:Array Ag))).push (seqObj "tuple" vs.toArray 0)).push (seqObj "list" #[] 0)).get? a=some (seqObj "list" #[] e1):=ah _ (ah _ ax);have t6:TK (((s.heap.update a (Obj.mapSeq λ_=>(#[]:Array Ag))).push (seqObj "tuple" vs.toArray 0)).push (seqObj "list" #[] 0)) d vs kss:=t.kept λb o e c=>by refine ah _ (ah _ ?_);rw[bU _ _ _ _ (λz=>by rw[z,ho]at e;cases e;exact absurd c (by show ¬ Value.type "list" = Value.type "tuple";decide))];exact e
 have an:∀(h':Heap) (out:List Ag) (kss':List (List Int)),h'=((s.heap.update a (Obj.mapSeq λ_=>(#[]:Array Ag))).push (seqObj "tuple" vs.toArray 0)).push (seqObj "list" #[] 0)->TK s.heap d out kss'->out.Perm vs->kss'.Perm kss->kss'.Pairwise (λx y=>vh x y=true)->P (.done (.ret .none)) { s with heap:=h'.update a (Obj.mapSeq λ_=>out.toArray) }:=λh' out kss' e a1 a2 a3 a4=>by subst e;exact h out kss' a1 a2 a3 a4
 generalize ((s.heap.update a (Obj.mapSeq λ_=>(#[]:Array Ag))).push (seqObj "tuple" vs.toArray 0)).push (seqObj "list" #[] 0)=h6' at ad t6 an ⊢;have an:=λout kss'=>an h6' out kss' rfl;dsimp only;by_cases h2:vs.toArray.size<2
 .rw[ay h2,ay h2];refine aa (ai ?_);rw[StateT.run_pure];refine aa (ai ?_);dsimp only;have e:(arrOf (SortSt.mk' general' (vs.toArray.zip vs.toArray) #[] 7 none)).map (·.2)=vs.toArray:=by
   show(vs.toArray.zip vs.toArray).map (·.2)=vs.toArray
   match vs,h2 with
   |[],_=>simp
   |[v],_=>simp
   |_::_::_,h2=>simp at h2;lia
  rw[e];refine aa (i4 ad rfl ?_);refine aa (fG ad rfl ?_ (aY _) (by rw[au];lia));simp only[fH,aB,br];refine ai (an vs kss t (.refl _) (.refl _) ?_);have:kss.length<2:=by rw[<-a9];simpa using h2
  match kss,this with
  |[],_=>exact .nil
  |[x],_=>exact eY _ _
 .rw[ar h2,ar h2];have bk:2<=vs.length:=by simpa using h2
  obtain⟨fs,t1,t2,t3⟩:=t6.tups hd;refine aa (kat_kind (s:={ s with heap:=h6' }) (T:=.type "int") t1 ⋯ (λv hv=>?_) rfl ?_)
  .obtain⟨i,tk,rfl⟩:=t3 v hv;exact Looks.of_pure rfl
  let ix:Ai->Nat:=λx=>vs.findIdx λu=>match u,x.1 with|.ref b,.ref c=>b==c|_,_=>false
  let kz:Ai->Int:=λx=>kzL kss (kss.getD (ix x) []);have as:∀i j,i<kss.length->j<kss.length->kss.getD i []=kss.getD j []->i=j:=λi j hi J e=>by rw[af,ae hi,af,ae J]at e;exact(List.getElem_inj nd).mp e
  have ref:∀i,i<vs.length->∃x o us n,vs[i]?=some (Value.ref x)/\h6'.get? x=some o/\o.data=.seq us.toArray n/\IntsAre us (kss.getD i [])/\(kss.getD i []).length=d:=λi hi=>by obtain⟨x,o,us,n,F,b2,b3,b4,b5⟩:=t6.at_ i ⋯;rw[af,ae hi]at F;exact⟨x,o,us,n,by rw[ae hi];exact bV some F,b2,b3,b4,b5⟩
  have a6:∀(i j:Nat) (x:Aj),vs[i]?=some (Value.ref x)->vs[j]?=some (.ref x)->i=j:=λi j x D Z=>by
   have hi:=(al.mp D).1;have J:=(al.mp Z).1;obtain⟨y,o,us,n,F,b2,b3,b4,b5⟩:=ref i hi;obtain⟨y',o',ap,n',c1,c2,c3,c4,c5⟩:=ref j J;rw[D]at F;rw[Z]at c1;cases F;cases c1;rw[b2]at c2;cases c2;rw[b3]at c3;have eu:us=ap:=by have:us.toArray=ap.toArray:=(Data.seq.inj c3).1;exact bV Array.toList this
   subst eu;exact as i j ⋯ ⋯ (b4.nums.symm.trans c4.nums)
  have ac:∀(i:Nat) (x:Aj) (u:Ag),vs[i]?=some (Value.ref x)->ix (.ref x,u)=i:=λi x u D=>by
   have hi:=(al.mp D).1;refine(List.findIdx_eq hi).mpr ⟨?_,λj J=>?_⟩
   .have:vs[i]=.ref x:=by rw[ae hi]at D;exact av D
    rw[this];simp
   .obtain⟨y,o,us,n,F,_⟩:=ref j ⋯;have:vs[j]=.ref y:=by rw[ae ⋯]at F;exact av F
    rw[this];simp only[cC];intro z;rw[z]at F;have:=a6 j i x F D;lia
  let G:Ai->Prop:=λx=>∃(i:Nat) (y:Aj),vs[i]?=some (Value.ref y)/\x=(.ref y,.ref y);have W:∀i,i<kss.length->kss.getD i []∈kss:=λi hi=>by rw[af,ae hi];exact bD _
  have ab:∀(i:Nat) (y:Aj) (u:Ag),vs[i]?=some (Value.ref y)->kz (.ref y,u)=kzL kss (kss.getD i []):=λi y u e=>by show kzL kss (kss.getD (ix (.ref y,u)) [])=_;rw[ac i y u e]
  have O:Tm.ux (model prog w) A E { s with heap:=h6' } G kz (tuples' true):=by
   rintro x y st Q ⟨i,bx,D,rfl⟩ ⟨j,by_,Z,rfl⟩ hk hQ;have hi:=(al.mp D).1;have J:=(al.mp Z).1;obtain⟨y1,o,us,n,F,b2,b3,b4,b5⟩:=ref i hi;obtain⟨y2,o',ap,n',c1,c2,c3,c4,c5⟩:=ref j J;rw[D]at F;rw[Z]at c1;cases F;cases c1;rw[lt'_eq];refine aD (gW ?_);rw[hk];refine aD (iJ (fF (lex_lt (s:={ s with heap:=h6' }) b2 b3 c2 c3 b4 c4 (by rw[Q5 b4,Q5 c4,b5,c5]) ⟨rfl,?_⟩)));refine aK ?_;rw[ab i _ _ D,ab j _ _ Z]at hQ;have:=qyy t.lens (W i ⋯) (W j ⋯);have e:vh (kss.getD i []) (kss.getD j [])=decide (kzL kss (kss.getD i [])<kzL kss (kss.getD j [])):=by
    by_cases c:vh (kss.getD i []) (kss.getD j [])=true
    .rw[c,aS (this.mpr c)]
    .rw[bz (λz=>c (this.mp z))];simpa using c
   rw[e];exact hQ
  have zl:(vs.toArray.zip vs.toArray).toList=vs.map λv=>(v,v):=by rw[Array.toList_zip];exact wwt vs
  have a8:∀i j,i<kss.length->j<kss.length->i≠j->kzL kss (kss.getD i [])≠kzL kss (kss.getD j []):=λi j hi J a0 z=>by
   rcases qyx (t.lens _ (W i hi)) (t.lens _ (W j J)) with c|c|c
   .have:=(qyy t.lens (W i hi) (W j J)).mpr c;lia
   .exact a0 (as i j hi J c)
   .have:=(qyy t.lens (W j J) (W i hi)).mpr c;lia
  have U:Tm.Un kz G (vs.toArray.zip vs.toArray):=by
   refine⟨?_,λx hx=>?_⟩
   .rw[zl,bB];refine bg.mpr λi j hi J a0=>?_;obtain⟨y1,_,_,_,F,_⟩:=ref i hi;obtain⟨y2,_,_,_,c1,_⟩:=ref j J;have f1:vs[i]=.ref y1:=by rw[ae hi]at F;exact av F
    have f2:vs[j]=.ref y2:=by rw[ae J]at c1;exact av c1
    rw[f1,f2,ab i _ _ F,ab j _ _ c1];exact a8 i j ⋯ ⋯ ⋯
   .rw[zl]at hx;obtain⟨v,hv,rfl⟩:=aL.mp hx;obtain⟨i,D⟩:=bX hv;obtain⟨y,_,_,_,F,_⟩:=ref i (al.mp D).1;rw[D]at F;cases F;exact⟨i,y,D,rfl⟩
  refine aa (aO (Tm.Yh (Q:=λ_ L=>(arrOf L).Perm (vs.toArray.zip vs.toArray)/\failedOf L=none/\Tm.SL kz (arrOf L).toList) (st:=SortSt.mk' (tuples' true) (vs.toArray.zip vs.toArray) #[] 7 none) O U rfl rfl rfl rfl λL a1 a2 a3=>⟨a1,a2,a3⟩) ?_ λ_ _ e=>e);rintro⟨⟨⟩,L⟩ s' ⟨rfl,F,b2,b3⟩;dsimp only;have pl:=eo.mp F;rw[zl]at pl;have op:((arrOf L).toList.map (·.2)).Perm vs:=by have:=pl.map (·.2);rwa [bp,show((λx:Ag×Ag=>x.2)∘λv=>(v,v))=id from rfl,List.map_id]at this
  have oe:(arrOf L).map (·.2)=((arrOf L).toList.map (·.2)).toArray:=by apply eX.mp;simp
  have a5:∀l:List Ai,(∀x∈l,G x)->TK s.heap d (l.map (·.2)) (l.map λx=>kss.getD (ix x) []):=λl=>by
   induction l with
   |nil=>intro _;exact .nil
   |cons x l ih =>
    intro hx;obtain⟨i,y,D,rfl⟩:=hx x (.head _);have hi:=(al.mp D).1;obtain⟨x0,o0,bd,n0,g1,g2,bc,g3,g4,g5⟩:=t.at_' i ⋯;rw[af,D]at g1;cases g1;rw[aI,aI,ac i y _ D];exact .cons g2 bc g3 g4 g5 (ih λz hz=>hx z (.tail _ hz))
  have gl:∀x∈(arrOf L).toList,G x:=λx hx=>by have:=pl.mem_iff.mp hx;rw[<-zl]at this;exact U.g x this
  have kp:((arrOf L).toList.map λx=>kss.getD (ix x) []).Perm kss:=by
   refine(pl.map _).trans ?_;rw[bp];have:vs.map ((λx=>kss.getD (ix x) [])∘λv=>(v,v))=kss:=by
    refine bY λi=>?_;rw[aw];by_cases c:i<vs.length
    .obtain⟨y,_,_,_,e,_⟩:=ref i c;rw[e];show some (kss.getD (ix (.ref y,.ref y)) [])=_;rw[ac i y _ e,af,ae ⋯];rfl
    .rw[aQ ⋯,aQ ⋯];rfl
   rw[this]
  have a7:((arrOf L).toList.map λx=>kss.getD (ix x) []).Pairwise (λx y=>vh x y=true):=by rw[bB];refine b7 (λ{x y} hx hy hxy=>?_) b3;obtain⟨i,a1,D,rfl⟩:=gl x hx;obtain⟨j,a2,Z,rfl⟩:=gl y hy;have hi:=(al.mp D).1;have J:=(al.mp Z).1;rw[ab i _ _ D,ab j _ _ Z]at hxy;rw[ac i _ _ D,ac j _ _ Z];exact(qyy t.lens (W i ⋯) (W j ⋯)).mp hxy
  rw[oe];refine aa (i4 (s:={ s with heap:=h6' }) ad rfl ?_);refine aa (fG (s:={ s with heap:=h6' }) ad rfl ?_ (aY _) (by rw[au,op.length_eq];lia));rw[b2];simp only[fH,aB,br];exact ai (an _ _ (a5 _ gl) op kp a7)
end
end L2
namespace L2
open PySem PySem.Spec PySem.Calls PySem.W PyProof.Rows
section
variable {prog:Ac}{w:Ah}{A:Ae}{E:Ag->Ab->Prop}{s:Ab}
theorem Zx {h:Heap}{a:Aj}{vs:List Ag}{k:Nat}(ho:h.get? a=some (seqObj "list" vs.toArray k))(out:Array Ag):∃e,(sortedHeap h a vs out).get? a=some (seqObj "list" out e):=by obtain⟨z,D⟩:∃z,(h.update a (Obj.mapSeq λ_=>(#[]:Array Ag))).get? a=some (seqObj "list" #[] z):=⟨_,fE ho λ_=>#[]⟩;exact⟨_,fE (ah _ (ah _ D)) λ_=>out⟩
theorem W0 {h:Heap}{a b:Aj}{vs:List Ag}{o:Obj}(e:h.get? b=some o)(hb:b≠a)(out:Array Ag):(sortedHeap h a vs out).get? b=some o:=by unfold sortedHeap;rw[bU _ _ _ _ hb];refine ah _ (ah _ ?_);rw[bU _ _ _ _ hb];exact e
theorem qxn {S:Aj}{ps:List (Int×Ag)}{Q:Ag->Ab->Prop}(hh:A.handled=none)(P:SAt w s.heap S ps)(hn:ps.length<=100000)
  (h:∀(h':Heap) (tk:Nat) (qs:List (Int×Ag)),(∀b o,s.heap.get? b=some o->h'.get? b=some o)->qs.Perm ps->s.heap.objs.size<=h'.objs.size ->
   wpAny (model prog w) A.in1.in1 (Builtin.«list.sort» ⟨[.ref h'.objs.size],[]⟩) (λfin s'=>∃r,fin=.done (.ret r)/\Q (.ref h'.objs.size) s') E { s with heap:=h'.push (seqObj "list" (qs.map (·.2)).toArray 0),toks:=tk }) :
  wpAny (model prog w) A (call (.builtin "sorted") [.ref S]) Q E s:=by
 have U:(100001:Nat)<sizeLine:=by decide
 refine Calls.call_function_entry kind_sorted plain_sorted entry_sorted (args_sorted1 _) ?_;unfold Builtin.«sorted»;refine aa (m:=checkCount "sorted" 1 1 _) (ai ?_);refine aa (ww0 (by simpa using hh) P ⋯ λh' tk qs J pm z=>?_);have W:=pm.length_eq;refine aa (gX ?_ (by rw[ag];lia));have F:(h'.push (seqObj "list" (qs.map (·.2)).toArray 0)).get? h'.objs.size=some (seqObj "list" (qs.map (·.2)).toArray 0):=aA _ rfl;refine aa (b8 (cV slot_list_sort ⟨_,F,rfl⟩ entry_list_sort ?_ (args_list_sort _)));refine aO (h h' tk qs J pm z) (λfin s' L=>?_) λ_ _ e=>e;obtain⟨r,rfl,D⟩:=L;exact⟨_,rfl,ai ⟨_,rfl,D⟩⟩
end
section
variable {X:Cx}
theorem wu0 {H:Hp}{s:Ab}{d:Nat}(ok:HOk X.prog X.w H s.heap):∀ {qs:List (Int×Ag)} {L:List (List Int)},PsT X.prog X.w H qs L->(∀r∈L,r.length=d)->TK s.heap d (qs.map (·.2)) L
 |_,_,.nil,_=>.nil
 |_,_,.cons ⟨a,e,f⟩ t,hl=>by subst e;obtain⟨_,us,rv,o,ho,hc,n,hd⟩:=(show ObjOk X.prog X.w H s.heap a (.tup _) from ok a _ f);exact .cons ho hc hd (Qk rv) (hl _ (.head _)) (wu0 ok t λr hr=>hl r (.tail _ hr))
theorem qvx (hc:X.calm=true):k8 X (.builtin "sorted") (λxs H Q=>∃(S:Aj) (ps:List (Int×Ag)) (L:List (List Int)) (d:Nat),xs=[.ref S]/\H S=some (uy X.w S ps)/\PsT X.prog X.w H ps L/\L.Nodup/\L.length<=100000/\1<=d/\(∀r∈L,r.length=d) /\
  ∀(l:Aj) (ys:List V) (L':List (List Int)),H l=none->L'.Perm L->L'.Pairwise (λx y=>vh x y=true)->Tups L' ys H->Q (.ref l) (upd H l (.lst ys))):=by
 intro pins s σ H xs us Q I r h;obtain⟨S,ps,L,d,rfl,hS,hL,nd,hn,hd,hl,q⟩:=h;obtain⟨u,rfl,ru⟩:=js r;cases(show u=Value.ref S from ru);have P:SAt X.w s.heap S ps:=(I.hok S _ hS).1;have ll:=hL.len;have sz:(100001:Nat)<sizeLine:=by decide
 refine qxn (I.ok.hd hc) P ⋯ λh' tk z hk pm hz=>?_;obtain⟨L1,p1,W⟩:=Paired.perm pm hL;have W:PsT X.prog X.w H z L1:=W;have ab:(h'.push (seqObj "list" (z.map (·.2)).toArray 0)).get? h'.objs.size=some (seqObj "list" (z.map (·.2)).toArray 0):=aA _ rfl;have I1:Inv X pins σ H { s with heap:=h',toks:=tk }:=I.kept hk;have t1:TK h' d (z.map (·.2)) L1:=wu0 (s:={ s with heap:=h',toks:=tk }) I1.hok W λr hr=>hl r (p1.mem_iff.mp hr);have t2:=t1.kept (h':=h'.push (seqObj "list" (z.map (·.2)).toArray 0)) λb o e _=>ah _ e;have a3:=pm.length_eq;refine ww7 (s:={ s with heap:=h'.push (seqObj "list" (z.map (·.2)).toArray 0),toks:=tk }) ab (by rw[ag];lia) hd t2 (p1.nodup_iff.mpr nd) λF as t3 op kp ax=>⟨_,rfl,?_⟩;have ap:∀v∈z.map (·.2),∃(a:Aj) (xs:List Int),v=Value.ref a/\H a=some (.tup (xs.map V.int)):=λv J=>by
  obtain⟨p,D,rfl⟩:=aL.mp J;obtain⟨i,ei⟩:=bX D;have a0:∀ {z:List (Int×Ag)} {L:List (List Int)},PsT X.prog X.w H z L->∀p∈z,∃(a:Aj) (xs:List Int),p.2=Value.ref a/\H a=some (.tup (xs.map V.int)):=by
   intro z L h
   induction h with
   |nil=>intro p D;cases D
   |cons r t ih =>
    obtain⟨a,e,f⟩:=r;intro p D;rcases aM.mp D with rfl|D
    .exact⟨a,_,by rw[e],f⟩
    .exact ih p D
  exact a0 W p D
 have tr:∀ {F:List Ag} {Z:List (List Int)},TK (h'.push (seqObj "list" (z.map (·.2)).toArray 0)) d F Z->(∀v∈F,v∈z.map (·.2))->∃ys,Vals ys F/\Tups Z ys H:=by
  intro F Z t
  induction t with
  |nil=>intro _;exact⟨[],.nil,.nil⟩
  |@cons x o us n xs ks Z a b c e f _ ih =>
   intro J;obtain⟨ys,U,v2⟩:=ih λv a1=>J v (.tail _ a1);obtain⟨a',ad,ea,fa⟩:=ap _ (J _ (.head _));cases ea;obtain⟨_,an,rv,o',a2,a4,n',ac⟩:=(show ObjOk X.prog X.w H h' x (.tup _) from I1.hok x _ fa);have e9:o=o':=by have:=ah (seqObj "list" (z.map (·.2)).toArray 0) a2;rw[a]at this;exact av this
   subst e9;rw[c]at ac;have eu:us=an:=bV Array.toList (Data.seq.inj ac).1;subst eu;have ex:xs=ad:=e.nums.symm.trans (Qk rv).nums;subst ex;exact⟨.ref x::ys,.cons rfl U,.cons ⟨x,rfl,fa⟩ v2⟩
 obtain⟨ys,U,v2⟩:=tr t3 λv J=>op.mem_iff.mp J;obtain⟨e,he⟩:=Zx ab F.toArray;have nl:H h'.objs.size=none:=I.hok.fresh hz;refine⟨.ref _,_,I.laid (t':=tk) (λb u hb=>W0 (ah _ (hk b u hb)) (aC (aN (ak hb) hz)) _) hz (show ObjOk X.prog X.w _ _ _ (.lst ys) from ⟨?_,F,e,U,he⟩),rfl,q _ ys as nl (kp.trans p1) ax v2⟩;rw[U.length,op.length_eq,ag];lia
theorem qvh (hc:X.calm=true):k8 X (.builtin "sorted") (λxs H Q=>∃(S:Aj) (ps:List (Int×Ag)) (ns:List Int),xs=[.ref S]/\H S=some (uy X.w S ps)/\PsI X.prog X.w ps ns/\ns.length<64 /\
  ∀(l:Aj) (ms:List Int),H l=none->ms.Perm ns->ms.Pairwise (·<=·)->Q (.ref l) (upd H l (.lst (ms.map V.int)))):=by
 intro pins s σ H xs us Q I r h;obtain⟨S,ps,ns,rfl,hS,Z,hn,q⟩:=h;obtain⟨u,rfl,ru⟩:=js r;cases(show u=Value.ref S from ru);have P:SAt X.w s.heap S ps:=(I.hok S _ hS).1;have ll:=Z.len;have sz:(100001:Nat)<sizeLine:=by decide
 refine qxn (I.ok.hd hc) P ⋯ λh' tk z hk pm D=>?_;obtain⟨L1,F,q1⟩:=Paired.perm pm Z;have ia:∀ {z:List (Int×Ag)} {L:List Int},PsI X.prog X.w z L->IntsAre (z.map (·.2)) L:=by
  intro z L h
  induction h with
  |nil=>exact .nil
  |cons r t ih =>
   obtain⟨tk,rfl⟩:=r;exact .cons _ _ ih
 have U:(h'.push (seqObj "list" (z.map (·.2)).toArray 0)).get? h'.objs.size=some (seqObj "list" (z.map (·.2)).toArray 0):=aA _ rfl;have ab:=pm.length_eq;refine list_sort_tree (s:={ s with heap:=h'.push (seqObj "list" (z.map (·.2)).toArray 0),toks:=tk }) U (ia q1) (by rw[ag];lia) λJ ms a1 a2 a3=>⟨_,rfl,?_⟩;obtain⟨e,he⟩:=Zx U J;have nl:H h'.objs.size=none:=I.hok.fresh D;refine⟨.ref _,_,I.laid (t':=tk) (λb u W=>W0 (ah _ (hk b u W)) (aC (aN (ak W) D)) _) D (show ObjOk X.prog X.w _ _ _ (.lst (ms.map V.int)) from ⟨?_,J.toList,e,Jw a1,by simpa using he⟩),rfl,q _ ms nl (a2.trans F) a3⟩;rw[ag,a2.length_eq,F.length_eq];lia
end
end L2
namespace L2
open PySem PySem.Spec PySem.Calls PyProof.Rows
section
variable {prog:Ac}{w:Ah}{A:Ae}{E:Ag->Ab->Prop}{s:Ab}{R:Result->Ab->Prop}
theorem wjc {Q:Ag->Ab->Prop}(h:Q (.ref s.heap.objs.size) { s with heap:=s.heap.push { cls:=.type "set",dict:=none,data:=.set #[] 0 (.fresh 0 0 (!byT w)) } }):wpAny (model prog w) A (newSet (.type "set")) Q E s:=by unfold newSet;refine aa (Y9 ?_);exact bW h
theorem wvf {h:Heap}{S:Aj}(e:h.get? S=some { cls:=.type "set",dict:=none,data:=.set #[] 0 (.fresh 0 0 (!byT w)) }):SAt w h S []:=⟨_,0,_,e,⟨rfl,rfl,rfl⟩,rfl,Tab.fresh,by show 0*5<7*3;decide⟩
theorem wk4 {elt:Expr}{target:Expr}{iter:Expr}{ifs:List Expr}{rest:List Comprehension}{scope:Scope}{pos:Pos}{it acc:Ag}{env:Env}(h0:codeAny (model prog w) A (.compLoop (.SetComp elt (⟨target,iter,ifs,0⟩::rest) scope pos) 0 it acc env) R s)
  (h:wpAny (model prog w) A (pyIter it) (λit' s'=>codeAny (model prog w) A (.compLoop (.SetComp elt (⟨target,iter,ifs,0⟩::rest) scope pos) 0 it' acc env) R s') (notedBy (model prog w) A env λx s'=>R (.error x) s') s) :
  codeAny (model prog w) A (.compStart (.SetComp elt (⟨target,iter,ifs,0⟩::rest) scope pos) 0 it acc env) R s:=by
 refine codeAny_of_tree ?_;show wpAny _ _ ((compStart (.SetComp elt (⟨target,iter,ifs,0⟩::rest) scope pos) 0 it acc env).onRaise (λx=>do noteFrame x env;standAt theWindowsPlace)) _ _ s;(refine wpAny_notedAt ?_ ;unfold compStart ;show wpAny _ _ (ask >>= _) _ _ s ;refine aa (fO (wpAny_ite ?_)));split
 ·(first | exact aa (ai (ai (And.intro rfl h0))) | exact ai (And.intro rfl h0))
 ·(first | exact aa (dA (aa (cB (aa (aO h (λit' s' h'=>ai (And.intro rfl h')) λ_ _ x=>x))))) | (refine aa (dA ?_);show wpAny _ _ (standAt iter.pos >>= _) _ _ s;exact aa (cB (aa (aO h (λit' s' h'=>ai (And.intro rfl h')) λ_ _ x=>x)))))
end
theorem wqj (elt:Expr)(gens:List Comprehension)(scope:Scope)(pos:Pos)(env:Env):eval (.SetComp elt gens scope pos) env=comprehension (.SetComp elt gens scope pos) scope env (firstIterPos gens pos) (newSet (.type "set")) (firstAsync gens) (firstIter gens env):=rfl
theorem wqp (elt target iter:Expr)(cd:Expr)(scope:Scope)(pos:Pos)(it acc:Ag)(env:Env):compTurn (.SetComp elt [⟨target,iter,[cd],0⟩] scope pos) 0 it acc env=(standAt iter.pos >>= λ_=>pyNext it >>= λr=>match r with | none=>pure (.done .next) | some v=>letOwnedTupleGo target it v >>= λ_=>assign target env v >>= λ_=>(forIn [cd] true λc r=>if r=true then do let ok <-isTrue c env (eval c env);pure (ForInStep.yield ok) else pure (ForInStep.yield r)) >>= λok=>if ok=true then(eval elt env >>= λx=>standAt elt.pos >>= λ_=>call (.builtin "set.add") [acc,x] >>= λ_=>pure ()) >>= λ_=>again (.compLoop (.SetComp elt [⟨target,iter,[cd],0⟩] scope pos) 0 it acc env) else again (.compLoop (.SetComp elt [⟨target,iter,[cd],0⟩] scope pos) 0 it acc env)):=by rfl
section
variable {X:Cx}{pins:List (Aj×Obj)}{σ:St}{H:Hp}{s2:Ab}{scope:Scope}{cl:List (Str×Aj)}{x:Str}{M:List Nat}{fp:List Aj}{C:Aj}{h1:Heap}{tk:Nat}
theorem Inv.compO {oo:HO}(I:Inv X pins σ H s2)(hc:CapAll X.env cl)(hh:HasAll cl scope.names)(hm:CapIx X scope cl M)(hk:scope.kind=.function)(hC:s2.heap.objs.size<C)
  (keep:∀b o,s2.heap.get? b=some o->h1.get? b=some o) (hn:h1.Ns C λ_=>none) (hD:ObjOk X.prog X.w (upd H s2.heap.objs.size oo) h1 s2.heap.objs.size oo)
  (hfp:∀b∈fp,vy X pins H b) (hob:∀b∈fp,∃o,s2.heap.get? b=some o) :
  Inv (zf X scope cl x M C s2 H fp (X.pn++pins)) [] (zj M σ none) (upd H s2.heap.objs.size oo) { s2 with heap:=h1,toks:=tk }:=I.compG (xs:=[x]) hc hh hm hk hC keep hn hD hfp hob
end
section
variable {X:Cx}{pins:List (Aj×Obj)}{σ:St}{H:Hp}{s2:Ab}{scope:Scope}{cl:List (Str×Aj)}{x y:Str}{M:List Nat}{fp:List Aj}{C:Aj}{h1:Heap}{tk:Nat}
theorem Inv.comp2O {oo:HO}(I:Inv X pins σ H s2)(hc:CapAll X.env cl)(hh:HasAll cl scope.names)(hm:CapIx X scope cl M)(hk:scope.kind=.function)(hC:s2.heap.objs.size<C)
  (keep:∀b o,s2.heap.get? b=some o->h1.get? b=some o) (hn:h1.Ns C λ_=>none) (hD:ObjOk X.prog X.w (upd H s2.heap.objs.size oo) h1 s2.heap.objs.size oo)
  (hfp:∀b∈fp,vy X pins H b) (hob:∀b∈fp,∃o,s2.heap.get? b=some o) :
  Inv (wt X scope cl x y M C s2 H fp (X.pn++pins)) [] (xy M σ none none) (upd H s2.heap.objs.size oo) { s2 with heap:=h1,toks:=tk }:=I.compG (xs:=[x,y]) hc hh hm hk hC keep hn hD hfp hob
end
section
variable {Y:Cx}{elt cd:Expr}{te:TE}{tt:TT}{c:Code}{p:Aj}{σ:St}{H:Hp}{pins:List (Aj×Obj)}{s:Ab}
def addS (elt:Expr)(acc:Ag)(env:Env)(c:Code):Sem PySem.Fin:=(eval elt env >>= λx=>standAt elt.pos >>= λ_=>call (.builtin "set.add") [acc,x] >>= λ_=>pure ()) >>= λ_=>again c
theorem qut {ys:List (Int×Ag)}{add:qxd}{N:List (Int×Ag)->Hp->Prop}(he:PE Y elt te)(ha:Yg Y add)(J:Inv Y pins σ H s)(h:te σ H λy H5=>H5 p=some (uy Y.w p ys)/\add p ys y H5 N) :
  wpAny (model Y.prog Y.w) Y.A (addS elt (.ref p) Y.env c) (λr s5=>r=Fin.again c/\∃H5,Inv Y pins σ H5 s5/\∃zs,N zs H5) Y.xe s:=by
 refine aa (aa (aO (he _ s _ H _ J h) (λD F Z=>?_) λ_ _ z=>z));obtain⟨y,H4,J7,L,ab,ac⟩:=Z;refine aa (cB (aa (aO (ha _ F _ H4 p ys y D _ J7 L ab ac) (λ_ s8 W=>?_) λ_ _ z=>z)));obtain⟨zs,H8,J8,U⟩:=W;exact ai (ai ⟨rfl,_,J8,zs,U⟩)
end
section
variable {X:Cx}{elt iter cd tg:Expr}{x y2:Str}{px pos:Pos}{scope:Scope}{cl:List (Str×Aj)}{M:List Nat}{wi:TI}{te:TE}{tt:TT}{gg:TG}{add:qxd}{pins:List (Aj×Obj)}{σ:St}
theorem qw0 (hclos:closureFor scope X.env=pure cl)(hhas:HasAll cl scope.names)(hk:scope.kind=.function)
  (hnames:∀y∈scope.names,y.2=.local->scope.names.lookup y.1=some .local) (hi:PI X tg iter wi) (hs:∀z,foldedSetIterable iter X.env z=pure z)
  {use:Option (Ag->Sem Unit)} {QQ:Ag->Ab->Prop} {s:Ab} {H:Hp} {ps:Pos} {R:It->Hp->Prop} (I:Inv X pins σ H s) (h:wi σ H R)
  (go:∀(it:Aj) (fp:List Aj) (tn:Nat->Heap->Prop) (J:It) (H1:Hp) (s2:Ab) (C:Aj) (h3:Heap) (tk:Nat),Inv X pins σ H1 s2->Turn X.prog X.w X.K tg J fp it tn->tn 0 h3->(∀b∈fp,vy X pins H1 b)->(∀b∈fp,b<s2.heap.objs.size)->(∀b∈fp,∃o,s2.heap.get? b=some o)->R J H1->s2.heap.objs.size<C ->
   (∀b o,s2.heap.get? b=some o->h3.get? b=some o)->(h3.Ns C λ_=>none)->h3.get? s2.heap.objs.size=some { cls:=.type "set",dict:=none,data:=.set #[] 0 (.fresh 0 0 (!byT X.w)) } ->
   codeAny (model X.prog X.w) X.A (.compLoop (.SetComp elt [⟨tg,iter,[cd],0⟩] scope pos) 0 (.ref it) (.ref s2.heap.objs.size) (compEnvC scope cl C X.env)) (compPost (model X.prog X.w) X.A X.xe use QQ (.ref s2.heap.objs.size) C) { s2 with heap:=h3,toks:=tk }) :
  wpAny (model X.prog X.w) X.A (comprehension (.SetComp elt [⟨tg,iter,[cd],0⟩] scope pos) scope X.env ps (newSet (.type "set")) false (eval iter X.env) use) QQ X.xe s:=by
 refine eO (use:=use) rfl hs hclos hk hnames ?_;refine thn (hi pins s σ H _ I h) λv s1 h1=>thn h1 λan s2 h2=>?_;obtain⟨it,fp,tn,J,H1,rfl,I2,T,F,ad,hR⟩:=h2;refine wjc ?_;refine fL hhas.nocell (by intro y hy;cases hy) (λh3 L D=>?_) hk;dsimp only at L D ⊢;generalize hH2:s2.heap.push { cls:=.type "set",dict:=none,data:=.set #[] 0 (.fresh 0 0 (!byT X.w)) }=G2 at L D ⊢;have hC:G2.objs.size=s2.heap.objs.size+1:=by rw[<-hH2,cM]
 have U:s2.heap.objs.size<G2.objs.size:=by lia
 have ac:∀b o,s2.heap.get? b=some o->h3.get? b=some o:=λb o e=>by rw[D.2 b (aC (bb (ak e) U))];exact ah _ (hH2▸ah _ e)
 have hD:h3.get? s2.heap.objs.size=some { cls:=.type "set",dict:=none,data:=.set #[] 0 (.fresh 0 0 (!byT X.w)) }:=by rw[D.2 _ (aC U)];exact ah _ (hH2▸aA _ rfl)
 have Z:=T.keep 0 _ _ F λb _ o e=>ac b o e;have ab:=λtk=>go it fp tn J H1 s2 G2.objs.size h3 tk I2 T Z ad (λb W=>let ⟨o,e,_⟩:=T.obj 0 _ F b W;ak e) (λb W=>let ⟨o,e,_⟩:=T.obj 0 _ F b W;⟨o,e⟩) hR U ac L hD;exact wk4 (ab _) (T.self _ 0 _ _ _ Z (ab _))
end
def qy3 (J:It)(M:List Nat)(tt:TT)(te:TE)(w:Ah)(add:qxd)(σ:St)(H1:Hp)(Q:VK):Prop:=∀p,H1 p=none->∃W:Nat->Nat->List (Int×Ag)->Hp->Prop,(∃m,W 0 m [] (upd H1 p (uy w p []))) /\
 ∀i m ys H2,W i m ys H2->H2 p=some (uy w p ys)/\((J.stop i H2/\Q (.ref p) H2)\/(J.go i H2/\∀v H3,J.yld i H2 v H3 ->
  tt (zj M σ (some v)) H3 λb H4=>if b=true then te (zj M σ (some v)) H4 (λy H5=>H5 p=some (uy w p ys)/\add p ys y H5 λzs H6=>∃m',m'<m/\W (i+1) m' zs H6) else H4 p=some (uy w p ys)/\∃m',m'<m/\W (i+1) m' ys H4))
def tSetI (M:List Nat)(wi:TI)(tt:TT)(te:TE)(w:Ah)(add:qxd):TE:=λσ H Q=>wi σ H λJ H1=>qy3 J M tt te w add σ H1 Q
section
variable {X:Cx}{elt iter cd:Expr}{x:Str}{px pos:Pos}{scope:Scope}{cl:List (Str×Aj)}{M:List Nat}{wi:TI}{tt:TT}{te:TE}{add:qxd}
theorem wzc (hc:X.calm=true)(hclos:closureFor scope X.env=pure cl)(hcap:CapAll X.env cl)(hhas:HasAll cl scope.names)(hix:CapIx X scope cl M)(hk:scope.kind=.function)
  (hnames:∀y∈scope.names,y.2=.local->scope.names.lookup y.1=some .local) (hx:scope.names.lookup x=some .local) (hnd:(Qt X x M).Nodup) (hi:PI X (.Name x px) iter wi)
  (ht:∀C s2 H2 fp pn,PT (zf X scope cl x M C s2 H2 fp pn) cd tt) (he:∀C s2 H2 fp pn,PE (zf X scope cl x M C s2 H2 fp pn) elt te) (ha:∀C s2 H2 fp pn,Yg (zf X scope cl x M C s2 H2 fp pn) add) (hs:∀z,foldedSetIterable iter X.env z=pure z)
  {use:Option (Ag->Sem Unit)} {QQ:Ag->Ab->Prop} {pins:List (Aj×Obj)} {s:Ab} {σ:St} {H:Hp} {Q:VK} {ps:Pos} (I:Inv X pins σ H s) (h:wi σ H λJ H1=>qy3 J M tt te X.w add σ H1 Q)
  (fin:∀(C:Aj) (s2 s4:Ab) (H1 H2:Hp) (fp:List Aj),Inv X pins σ H1 s2->s2.heap.objs.size<C->(∀b∈fp,vy X pins H1 b)->Inv (zf X scope cl x M C s2 H1 fp (X.pn++pins)) [] (zj M σ none) H2 s4->Q (.ref s2.heap.objs.size) H2 ->
   compPost (model X.prog X.w) X.A X.xe use QQ (.ref s2.heap.objs.size) C (.ok .next) s4) :
  wpAny (model X.prog X.w) X.A (comprehension (.SetComp elt [⟨.Name x px,iter,[cd],0⟩] scope pos) scope X.env ps (newSet (.type "set")) false (eval iter X.env) use) QQ X.xe s:=by
 refine qw0 hclos hhas hk hnames hi hs I h λit fp tn J H1 s2 C h3 tk F T t3 D ac an hR L ad ap hD=>?_;obtain⟨W,⟨m0,w0⟩,hW⟩:=hR s2.heap.objs.size (F.hok.fresh (aj _));have ab:(relabel scope X.env).names.lookup x=some .local:=cU hx;refine jx (Y:=zf X scope cl x M C s2 H1 fp (X.pn++pins)) (V:=λi n H2=>∃ys,W i n ys H2) (Qd:=Q (.ref s2.heap.objs.size)) (REST:=tstS cd (compEnvC scope cl C X.env) (addS elt (.ref s2.heap.objs.size) (compEnvC scope cl C X.env) _) (again _)) T hc (λ_ _ z=>z) (wqp ..) rfl rfl (wn (i:=0) hnd rfl (.inl ab) (.inr ab)) (Z9 hcap F L D ac) (λi n H2 ⟨ys,w⟩=>?_) (λH2 s4 J4 q=>fin C s2 s4 H1 H2 fp F L D J4 q) (F.compO hcap hhas hix hk L ad ap (qq4 (wvf hD)) D an) ⟨[],w0⟩ t3 λb hb=>by rw[qt (aC (ac b hb))];exact(D b hb).1
 obtain⟨hp,ax⟩:=hW i n ys H2 w;refine ax.imp id λ⟨as,hy⟩=>⟨as,λv H3 yl=>⟨λσ4 H4=>σ4=zj M σ (some v)/\H3=H4,⟨rfl,rfl⟩,λ_ _ e=>?_⟩⟩;obtain⟨rfl,rfl⟩:=e;refine⟨Qb M σ v,λa0 s' J=>?_⟩;exact Yy (ht _ _ _ _ _) J (hy v H3 yl) (λs6 H6 U h6=>aO (qut (N:=λzs Z=>∃m',m'<n/\W (i+1) m' zs Z) (he _ _ _ _ _) (ha _ _ _ _ _) U h6) (λr s5 ⟨e,Z,J5,zs,m',hm,w'⟩=>⟨e,Z,J5,m',hm,zs,w'⟩) λ_ _ z=>z)
  λs6 H6 U ⟨_,m',hm,w'⟩=>ai ⟨rfl,H6,U,m',hm,ys,w'⟩
theorem xkt (hc:X.calm=true)(hclos:closureFor scope X.env=pure cl)(hcap:CapAll X.env cl)(hhas:HasAll cl scope.names)(hix:CapIx X scope cl M)(hk:scope.kind=.function)
  (hnames:∀y∈scope.names,y.2=.local->scope.names.lookup y.1=some .local) (hx:scope.names.lookup x=some .local) (hnd:(Qt X x M).Nodup) (hi:PI X (.Name x px) iter wi)
  (ht:∀C s2 H2 fp pn,PT (zf X scope cl x M C s2 H2 fp pn) cd tt) (he:∀C s2 H2 fp pn,PE (zf X scope cl x M C s2 H2 fp pn) elt te) (ha:∀C s2 H2 fp pn,Yg (zf X scope cl x M C s2 H2 fp pn) add) (hs:autoParam (∀z,foldedSetIterable iter X.env z=pure z) aU3._auto_1) :
  PE X (.SetComp elt [⟨.Name x px,iter,[cd],0⟩] scope pos) (tSetI M wi tt te X.w add):=by
 intro pins s σ H Q I h;rw[wqj];refine wzc hc hclos hcap hhas hix hk hnames hx hnd hi ht he ha hs (use:=none) I h λC s2 s4 H1 H2 fp Z U W D J=>?_;obtain⟨m,L,_⟩:=D.loc;exact⟨m,L,λh' F=>⟨.ref s2.heap.objs.size,H2,Z.uncomp (bn U) W D F,rfl,J⟩⟩
end
def qxu (J:It)(M:List Nat)(gg:TG)(tt:TT)(te:TE)(w:Ah)(add:qxd)(σ:St)(H1:Hp)(Q:VK):Prop:=∀p,H1 p=none->∃W:Nat->Nat->List (Int×Ag)->Hp->Prop,(∃m,W 0 m [] (upd H1 p (uy w p []))) /\
 ∀i m ys H2,W i m ys H2->H2 p=some (uy w p ys)/\((J.stop i H2/\Q (.ref p) H2)\/(J.go i H2/\∀v H3,J.yld i H2 v H3 ->
  gg v (xy M σ none none) H3 λσ4 H4=>(∃a b,σ4=xy M σ (some a) (some b))/\tt σ4 H4 λb H4=>if b=true then te σ4 H4 (λy H5=>H5 p=some (uy w p ys)/\add p ys y H5 λzs H6=>∃m',m'<m/\W (i+1) m' zs H6) else H4 p=some (uy w p ys)/\∃m',m'<m/\W (i+1) m' ys H4))
def tSetPI (M:List Nat)(wi:TI)(gg:TG)(tt:TT)(te:TE)(w:Ah)(add:qxd):TE:=λσ H Q=>wi σ H λJ H1=>qxu J M gg tt te w add σ H1 Q
section
variable {X:Cx}{elt iter tg cd:Expr}{x y2:Str}{pos:Pos}{scope:Scope}{cl:List (Str×Aj)}{M:List Nat}{wi:TI}{gg:TG}{tt:TT}{te:TE}{add:qxd}
theorem wq6 (M:List Nat)(σ:St)(v u:V):(xy M σ none none).length=(xy M σ (some v) (some u)).length/\∀(k:Nat) z,(xy M σ none none)[k]?=some (some z)->(xy M σ (some v) (some u))[k]?=some (some z):=⟨rfl,λk z ez=>by
 match k,ez with
 |0,ez=>cases ez
 |1,ez=>cases ez
 |k+2,ez=>exact ez⟩
theorem wwq (hc:X.calm=true)(hclos:closureFor scope X.env=pure cl)(hcap:CapAll X.env cl)(hhas:HasAll cl scope.names)(hix:CapIx X scope cl M)(hk:scope.kind=.function)
  (hnames:∀y∈scope.names,y.2=.local->scope.names.lookup y.1=some .local) (hg:∀C s2 H2 fp pn,PG (wt X scope cl x y2 M C s2 H2 fp pn) tg gg) (hi:PI X tg iter wi)
  (ht:∀C s2 H2 fp pn,PT (wt X scope cl x y2 M C s2 H2 fp pn) cd tt) (he:∀C s2 H2 fp pn,PE (wt X scope cl x y2 M C s2 H2 fp pn) elt te) (ha:∀C s2 H2 fp pn,Yg (wt X scope cl x y2 M C s2 H2 fp pn) add) (hs:∀z,foldedSetIterable iter X.env z=pure z)
  {use:Option (Ag->Sem Unit)} {QQ:Ag->Ab->Prop} {pins:List (Aj×Obj)} {s:Ab} {σ:St} {H:Hp} {Q:VK} {ps:Pos} (I:Inv X pins σ H s) (h:wi σ H λJ H1=>qxu J M gg tt te X.w add σ H1 Q)
  (fin:∀(C:Aj) (s2 s4:Ab) (H1 H2:Hp) (fp:List Aj),Inv X pins σ H1 s2->s2.heap.objs.size<C->(∀b∈fp,vy X pins H1 b)->Inv (wt X scope cl x y2 M C s2 H1 fp (X.pn++pins)) [] (xy M σ none none) H2 s4->Q (.ref s2.heap.objs.size) H2 ->
   compPost (model X.prog X.w) X.A X.xe use QQ (.ref s2.heap.objs.size) C (.ok .next) s4) :
  wpAny (model X.prog X.w) X.A (comprehension (.SetComp elt [⟨tg,iter,[cd],0⟩] scope pos) scope X.env ps (newSet (.type "set")) false (eval iter X.env) use) QQ X.xe s:=by
 refine qw0 hclos hhas hk hnames hi hs I h λit fp tn J H1 s2 C h3 tk F T t3 D ab an hR L ac ap hD=>?_;obtain⟨W,⟨m0,w0⟩,hW⟩:=hR s2.heap.objs.size (F.hok.fresh (aj _));refine jx (Y:=wt X scope cl x y2 M C s2 H1 fp (X.pn++pins)) (V:=λi n H2=>∃ys,W i n ys H2) (Qd:=Q (.ref s2.heap.objs.size)) (REST:=tstS cd (compEnvC scope cl C X.env) (addS elt (.ref s2.heap.objs.size) (compEnvC scope cl C X.env) _) (again _)) T hc (λ_ _ z=>z) (wqp ..) rfl rfl (λpn s σ H v u Q I r hq=>hg C s2 H1 fp (X.pn++pins) pn s σ H v u Q I r hq) (Z9 hcap F L D ab) (λi n H2 ⟨ys,w⟩=>?_) (λH2 s4 J4 q=>fin C s2 s4 H1 H2 fp F L D J4 q) (F.comp2O hcap hhas hix hk L ac ap (qq4 (wvf hD)) D an) ⟨[],w0⟩ t3 λb hb=>by rw[qt (aC (ab b hb))];exact(D b hb).1
 obtain⟨hp,ax⟩:=hW i n ys H2 w;refine ax.imp id λ⟨as,hy⟩=>⟨as,λv H3 yl=>?_⟩;refine⟨_,hy v H3 yl,λσ4 H4 hz=>?_⟩;obtain⟨⟨a,b,rfl⟩,ad⟩:=hz;refine⟨wq6 M σ a b,λa0 s' J=>?_⟩;exact Yy (ht _ _ _ _ _) J ad (λs6 H6 U h6=>aO (qut (N:=λzs Z=>∃m',m'<n/\W (i+1) m' zs Z) (he _ _ _ _ _) (ha _ _ _ _ _) U h6) (λr s5 ⟨e,Z,J5,zs,m',hm,w'⟩=>⟨e,Z,J5,m',hm,zs,w'⟩) λ_ _ z=>z)
  λs6 H6 U ⟨_,m',hm,w'⟩=>ai ⟨rfl,H6,U,m',hm,ys,w'⟩
theorem xwh (hc:X.calm=true)(hclos:closureFor scope X.env=pure cl)(hcap:CapAll X.env cl)(hhas:HasAll cl scope.names)(hix:CapIx X scope cl M)(hk:scope.kind=.function)
  (hnames:∀y∈scope.names,y.2=.local->scope.names.lookup y.1=some .local) (hg:∀C s2 H2 fp pn,PG (wt X scope cl x y2 M C s2 H2 fp pn) tg gg) (hi:PI X tg iter wi)
  (ht:∀C s2 H2 fp pn,PT (wt X scope cl x y2 M C s2 H2 fp pn) cd tt) (he:∀C s2 H2 fp pn,PE (wt X scope cl x y2 M C s2 H2 fp pn) elt te) (ha:∀C s2 H2 fp pn,Yg (wt X scope cl x y2 M C s2 H2 fp pn) add) (hs:autoParam (∀z,foldedSetIterable iter X.env z=pure z) aU3._auto_1) :
  PE X (.SetComp elt [⟨tg,iter,[cd],0⟩] scope pos) (tSetPI M wi gg tt te X.w add):=by
 intro pins s σ H Q I h;rw[wqj];refine wwq hc hclos hcap hhas hix hk hnames hg hi ht he ha hs (use:=none) I h λC s2 s4 H1 H2 fp Z U W D J=>?_;obtain⟨m,L,_⟩:=D.loc;exact⟨m,L,λh' F=>⟨.ref s2.heap.objs.size,H2,Z.uncomp2 (bn U) W D F,rfl,J⟩⟩
end
end L2
namespace L2
open PySem PySem.Spec PySem.Calls PyProof.Rows
theorem wj2 {P:Ac}{w:Ah}{K:Aa}{M:List Nat}{q:Aj}{us:List V}{tt:TT}{te:TE}{σ:St}{H:Hp}{Q:VK}(L:List (List Int))(c:List Int->Bool)(hq:SqL K H q us)(hL:Tups L us H)(hn:L.length<1099)
  (ht:∀(xs:List Int) (a:Aj) (H':Hp) (R:Bool->Hp->Prop),xs∈L->H' a=some (.tup (xs.map V.int))->Same H H'->(∀H'',Same H' H''->R (c xs) H'')->tt (zj M σ (some (.ref a))) H' R)
  (he:∀(a:Aj) (H':Hp) (R:VK),R (.ref a) H'->te (zj M σ (some (.ref a))) H' R)
  (k:∀p ps H' L',H p=none->Same H H'->H' p=some (uy w p ps)->PsT P w H' ps L'->L'.Nodup->(∀xs,xs∈L'↔(xs∈L/\c xs=true))->L'.length<=L.length->Q (.ref p) H'):qy3 (Itl K q) M tt te w (addT P w) σ H Q:=by
 intro p np;have ul:=hL.len;refine⟨λi m ps H2=>i<=L.length/\m=L.length-i/\Same H H2/\H2 p=some (uy w p ps)/\∃L',PsT P w H2 ps L'/\L'.Nodup/\L'.length<=i/\∀xs,xs∈L'↔(xs∈L.take i/\c xs=true),⟨L.length,aY _,rfl,Same.upd np,upd_same,[],.nil,jX,aj _,λxs=>by simp⟩,?_⟩;rintro i m ps H2 ⟨hi,rfl,sm,hp,L',hT,hN,hl,hM⟩;refine⟨hp,?_⟩;have Z:SqL K H2 q us:=sm.sql hq;by_cases hlt:i<L.length
 .have W:us[i]?=some us[i]:=ae ⋯;obtain⟨a,xs,ea,ex,fa⟩:=hL.get W;refine .inr ⟨⟨us,_,Z,W⟩,?_⟩;rintro v H3 ⟨rfl,hv⟩;have e:=hv us Z;rw[W]at e;have e':=av e;subst e';rw[ea];have tk:L.take (i+1)=L.take i++[xs]:=by rw[dP,ex];rfl
  refine ht xs a _ _ (aF ex) (sm _ _ fa) sm λU D=>?_;have F:PsT P w U ps L':=hT.keep λb ys e=>D _ _ e;have J:U a=some (.tup (xs.map V.int)):=D _ _ (sm _ _ fa);cases hc:c xs with
  |true =>
   refine Q2 ?_;refine he a U _ ⟨D _ _ hp,a,xs,L',rfl,J,F,by rw[hT.len];lia,λz=>?_,λz ab pm=>?_⟩
   .refine⟨L.length-(i+1),⋯,⋯,rfl,sm.trans D,D _ _ hp,L',F,hN,⋯,λys=>?_⟩;rw[tk,hM ys];constructor
    .rintro⟨h1,h2⟩;exact⟨cy _ h1,h2⟩
    .rintro⟨h1,h2⟩;rcases aX.mp h1 with h1|h1
     .exact⟨h1,h2⟩
     .rw[aU.mp h1];exact(hM xs).mp z
   .have ne:a≠p:=λz=>by rw[z,D _ _ hp]at J;cases J
    have base:PsT P w (upd U p (uy w p ab)) (((KD P w).hash (xs.map Sum.inl),.ref a)::ps) (xs::L'):=by refine .cons ⟨a,rfl,by rw[qt ne];exact J⟩ (F.keep λb ys e=>?_);rw[qt (λz=>by rw[z,D _ _ hp]at e;cases e)];exact e
    obtain⟨L2,p2,q2⟩:=Paired.perm pm base;refine⟨L.length-(i+1),⋯,⋯,rfl,?_,upd_same,L2,q2,p2.nodup_iff.mpr (dQ.mpr ⟨z,hN⟩),by rw[p2.length_eq,aP];lia,λys=>?_⟩
    .intro b o e;rw[qt (q9 e np)];exact D _ _ (sm _ _ e)
    .rw[p2.mem_iff,tk,aM,hM ys];constructor
     .rintro (rfl|⟨h1,h2⟩)
      .exact⟨az _ (.head _),hc⟩
      .exact⟨cy _ h1,h2⟩
     .rintro⟨h1,h2⟩;rcases aX.mp h1 with h1|h1
      .exact .inr ⟨h1,h2⟩
      .exact .inl (aU.mp h1)
  |false =>
   refine yx ?_;refine⟨D _ _ hp,L.length-(i+1),⋯,⋯,rfl,sm.trans D,D _ _ hp,L',F,hN,⋯,λys=>?_⟩;rw[tk,hM ys];constructor
   .rintro⟨h1,h2⟩;exact⟨cy _ h1,h2⟩
   .rintro⟨h1,h2⟩;rcases aX.mp h1 with h1|h1
    .exact⟨h1,h2⟩
    .rw[aU.mp h1,hc]at h2;cases h2
 .have:i=L.length:=by lia
  subst this;refine .inl ⟨⟨us,Z,⋯⟩,k p ps H2 L' np sm hp hT hN (λxs=>?_) hl⟩;rw[hM xs,bE]
theorem wzg {P:Ac}{w:Ah}{K:Aa}{J:It}{M:List Nat}{tt:TT}{te:TE}{σ:St}{H:Hp}{Q:VK}(n:Nat)(pr:Nat->V×V)(c:Nat->Bool)(f:Nat->Int)(bd:Nat)(hbd:∀i,i<n->0<=f i/\f i<bd)(hb:bd<1000)
  (hgo:∀i H',i<n->Same H H'->J.go i H') (hst:∀H',Same H H'->J.stop n H') (hy:∀i H2 v H3,i<n->Same H H2->J.yld i H2 v H3->Same H2 H3/\∃a,v=.ref a/\SqT K H3 a [(pr i).1,(pr i).2])
  (ht:∀(i:Nat) (H':Hp) (R:Bool->Hp->Prop),i<n->Same H H'->(∀H'',Same H' H''->R (c i) H'')->tt (xy M σ (some (pr i).1) (some (pr i).2)) H' R)
  (he:∀(i:Nat) (H':Hp) (R:VK),i<n->c i=true->Same H H'->(∀H'',Same H' H''->R (.int (f i)) H'')->te (xy M σ (some (pr i).1) (some (pr i).2)) H' R)
  (k:∀p ps H' ns,H p=none->Same H H'->H' p=some (uy w p ps)->PsI P w ps ns->ns.Nodup->(∀v,v∈ns↔∃i,i<n/\c i=true/\f i=v)->Q (.ref p) H') :
  qxu J M (gTup K 2 (xxw (W9 0) (xxw (W9 1) gNil))) tt te w (addI P w) σ H Q:=by
 intro p np;refine⟨λi m ps H2=>i<=n/\m=n-i/\Same H H2/\H2 p=some (uy w p ps)/\∃ns,PsI P w ps ns/\ns.Nodup/\∀v,v∈ns↔∃j,j<i/\c j=true/\f j=v,⟨n,aY _,rfl,Same.upd np,upd_same,[],.nil,jX,λv=>by simp⟩,?_⟩;rintro i m ps H2 ⟨hi,rfl,sm,hp,ns,hT,hN,hM⟩;refine⟨hp,?_⟩;by_cases hlt:i<n
 .refine .inr ⟨hgo i H2 hlt sm,λv H3 yl=>?_⟩;obtain⟨D,a,rfl,hq⟩:=hy i H2 v H3 hlt sm yl;refine⟨a,_,rfl,hq,rfl,_,_,rfl,_,_,rfl,rfl,⟨_,_,rfl⟩,?_⟩;refine ht i _ _ hlt (sm.trans D) λH4 F=>?_;cases hc:c i with
  |true =>
   refine Q2 ?_;refine he i _ _ hlt hc ((sm.trans D).trans F) λH5 U=>⟨U _ _ (F _ _ (D _ _ hp)),f i,ns,rfl,hT,?_,λz=>?_,λz ab t pm=>?_⟩
   ·
    rw[hT.len];have:=qxt (ns.map Int.toNat) (List.range bd) ?_ λv hv=>?_
    .rw[ag,aE]at this;lia
    .refine bB.mpr (b7 (λ{x y} Z hy hxy z=>?_) hN);obtain⟨W,h1,_,rfl⟩:=(hM x).mp Z;obtain⟨j2,h2,_,rfl⟩:=(hM y).mp hy;have a1:=hbd W ⋯;have a2:=hbd j2 ⋯;exact hxy ⋯
    .obtain⟨x,Z,rfl⟩:=aL.mp hv;obtain⟨W,h1,_,rfl⟩:=(hM x).mp Z;have a1:=hbd W ⋯;exact aq.mpr ⋯
   .refine⟨n-(i+1),⋯,⋯,rfl,((sm.trans D).trans F).trans U,U _ _ (F _ _ (D _ _ hp)),ns,hT,hN,λv=>?_⟩;rw[hM v];constructor
    .rintro⟨j,h1,h2⟩;exact⟨j,⋯,h2⟩
    .rintro⟨j,h1,h2,L⟩;by_cases cj:j=i
     .subst cj;rw[<-L];exact(hM _).mp z
     .exact⟨j,⋯,h2,L⟩
   .have base:PsI P w (((intKind P w).hash (f i),.int (f i) t)::ps) (f i::ns):=.cons ⟨t,rfl⟩ hT;obtain⟨L2,p2,q2⟩:=Paired.perm pm base;refine⟨n-(i+1),⋯,⋯,rfl,?_,upd_same,L2,q2,p2.nodup_iff.mpr (dQ.mpr ⟨z,hN⟩),λv=>?_⟩
    .intro b o e;rw[qt (q9 e np)];exact U _ _ (F _ _ (D _ _ (sm _ _ e)))
    .rw[p2.mem_iff,aM,hM v];constructor
     .rintro (rfl|⟨j,h1,h2⟩)
      .exact⟨i,⋯,hc,rfl⟩
      .exact⟨j,⋯,h2⟩
     .rintro⟨j,h1,h2,L⟩;by_cases cj:j=i
      .subst cj;exact .inl L.symm
      .exact .inr ⟨j,⋯,h2,L⟩
  |false =>
   refine yx ?_;refine⟨F _ _ (D _ _ hp),n-(i+1),⋯,⋯,rfl,(sm.trans D).trans F,F _ _ (D _ _ hp),ns,hT,hN,λv=>?_⟩;rw[hM v];constructor
   .rintro⟨j,h1,h2⟩;exact⟨j,⋯,h2⟩
   .rintro⟨j,h1,h2,L⟩;by_cases cj:j=i
    .subst cj;rw[hc]at h2;cases h2
    .exact⟨j,⋯,h2,L⟩
 .have:i=n:=by lia
  subst this;exact .inl ⟨hst H2 sm,k p ps H2 ns np sm hp hT hN hM⟩
end L2
namespace L2
open PySem PySem.Spec PySem.Calls PySem.W PyProof.Rows
def BMain (mg:Str->Option Ag)(h:Heap):Prop:=∃bm ob,mg "__builtins__" = some (.ref bm)/\bm≠builtinsNs/\h.get? bm=some ob/\ob.cls=.type "module" /\ ob.dict=some builtinsNs/\ob.data=.plain
theorem BMain.kept {mg:Str->Option Ag}{h h':Heap}(b:BMain mg h)(k:∀b o,h.get? b=some o->h'.get? b=some o):BMain mg h' :=
 let ⟨bm,ob,h1,h2,h3,r⟩:=b;⟨bm,ob,h1,h2,k _ _ h3,r⟩
section
variable {P:Ac}{w:Ah}{K:Aa}{mg mb:Str->Option Ag}{CX:CXT}{k:Nat}{fa a c T:Aj}{fd:Ad}{x:Str}{sp:Sp}{s₁:Ab}{vs:List Ag}{ns:List Int}
theorem wj1 (KX:K.In s₁.heap)(hns:s₁.heap.Ns mainGlobals mg)(hb:s₁.heap.Ns builtinsNs mb)(hbb:∀x:Str,x ≠ "__name__" -> mb x=bootBuiltins x)(hlim:s₁.heap.NoLimit)(hg:s₁.gens=#[])(hbm:BMain mg s₁.heap)
  (hT:s₁.heap.get? T=some (tabObj #[])) (hC:CodeHd s₁.heap c T) (hKT:K.lookup T=none)
  (ha:s₁.heap.get? a=some { cls:=.type "list",data:=.seq vs.toArray }) (hi:IntsAre vs ns) (hl:ns.length<=sizeLine) (hr:Room k callerA)
  (F:∀base:Heap,K.In base->base.Ns mainGlobals mg->BMain mg base->FnOk P w K mg base CX k fa fd [x] sp) (hbind:∀(s:Ab) (u:Ag),BindsTo s fd ⟨[u],[]⟩ [(x,u)])
  (hsp:∀H:Hp,H T=some (.tbl #[])->SqL K H a (ns.map V.int)->sp [.ref a] H (λv _=>v=.bl true) λ_ _ _=>False)
  (hCX:∀H e s',CX [] H s₁ (λ_ _ _=>False) e s'->False) :
  codeAny (model P w) callerA (.call (.ref fa) ⟨[.ref a],[]⟩) (λr s'=>r=.ok (.ret (.bool true))/\OldK s₁.heap s'.heap/\s'.os=s₁.os/\AllBare s'.gens) s₁:=by
 have rv:=Jw hi;have a5:=hi.length;have ax:a≠T:=λz=>by rw[z,hT]at ha;cases ha
 have a3:∀H:Hp,H T=some (.tbl #[])->(∀b,b≠T->H b=none\/∃o xs,H b=some (.frz o (.lst xs)))->SqL K H a (ns.map V.int)->HOk P w H s₁.heap->(∀b,H b≠none->b=a\/b=T)->(H a≠none->K.lookup a=none) ->
   codeAny (model P w) callerA (.call (.ref fa) ⟨[.ref a],[]⟩) (λr s'=>r=.ok (.ret (.bool true))/\OldK s₁.heap s'.heap/\s'.os=s₁.os/\AllBare s'.gens) s₁:=by
  intro H a2 hO hS as hA hK;have ab:∀ {b:Aj} {o:Obj},s₁.heap.get? b=some o->H b=none->(qv0 s₁.heap H).get? b=some o:=λe n=>xx8 e n;have a9:∀ {b:Aj} {o:Obj},s₁.heap.get? b=some o->o.cls≠.none->(∀an n,o.data≠.seq an n)->H b=none:=λ{b o} e d1 d2=>by
   cases q:H b with
   |none=>rfl
   |some u =>
    rcases hA b (by rw[q];simp) with z|z
    .subst z;rw[ha]at e;cases e;exact absurd rfl (d2 _ _)
    .subst z;rw[hT]at e;cases e;exact absurd rfl d1
  have a4:∀ {b:Aj} {o:Obj} {es:Array DictEntry} {ep:Nat},s₁.heap.get? b=some o->o.data=.dict es ep->H b=none:=λ{b o es ep} e d=>by
   cases q:H b with
   |none=>rfl
   |some u =>
    rcases hA b (by rw[q];simp) with z|z
    .subst z;rw[ha]at e;cases e;have d':Data.seq vs.toArray _=Data.dict es ep:=d;cases d'
    .subst z;rw[hT]at e;cases e;have d':Data.fields #[]=Data.dict es ep:=d;cases d'
  have L:∀ {b:Aj} {m:Str->Option Ag},s₁.heap.Ns b m->(qv0 s₁.heap H).Ns b m:=λ{b m} ⟨o,es,ep,e,d,r⟩=>⟨o,es,ep,ab e (a4 e d),d,r⟩;have a1:K.In (qv0 s₁.heap H):=λb o e=>ab (KX b o e) (by
   cases q:H b with
   |none=>rfl
   |some u =>
    rcases hA b (by rw[q];simp) with z|z
    .subst z
     rw[hK (by rw[q];simp)]at e;cases e
    .subst z
     rw[hKT]at e;cases e)
  have a7:BMain mg (qv0 s₁.heap H):=by obtain⟨bm,Z,b1,b2,b3,b4,b5,b6⟩:=hbm;exact⟨bm,Z,b1,b2,ab b3 (a9 b3 (by rw[b4];exactλz=>by cases z) (λan n z=>by rw[b6]at z;cases z)),b4,b5,b6⟩
  have hM:Mod K mg (qv0 s₁.heap H):=⟨a1,L hns,⟨mb,L hb,hbb⟩,let ⟨mc,h1,h2⟩:=hlim;⟨mc,L h1,h2⟩⟩;have e0:Env0 P w K mg (qv0 s₁.heap H) callerA [] s₁ H:=⟨rfl,hM,λb o e=>xv9 e,Nat.le_of_eq (wyp _ _),trivial,λb hb=>absurd (show b∈([]:List Aj) from hb) (by simp),as,.of_eq hg⟩;refine eJ ((F _ a1 (L hns) a7).run callerA [] s₁ H ⟨[.ref a],[]⟩ [.ref a] [.ref a] _ _ hr e0 (hbind s₁ (.ref a)) (.cons rfl .nil) (hsp H a2 hS)) λr s' h=>?_;cases r with
  |error e=>exact(hCX H e s' h).elim
  |ok fl =>
   cases fl with
   |next=>exact False.elim h
   |brk=>exact False.elim h
   |cont=>exact False.elim h
   |ret u =>
    obtain⟨v,H',os,a8,W,ap,r',q⟩:=h;have q':v=.bl true:=q;subst q';obtain rfl:u=Value.bool true:=r';have ad:∀b o,b≠T->s₁.heap.get? b=some o->s'.heap.get? b=some o:=λb o hb e=>by
     cases q:H b with
     |none=>exact W.keep b o e q (by intro z;exact absurd (show b∈([]:List Aj) from z) (by simp)) (by simp)
     |some u =>
      rcases hO b hb with z|⟨Z,xs,z⟩
      .rw[q]at z;cases z
      .have J:=W.frzs b Z _ z;obtain⟨U,_⟩:=as b _ z;obtain⟨e2,_⟩:=ap b _ J;rw[e]at U;cases U;exact e2
    obtain⟨ac,hm⟩:=W.tbls T _ a2;have a0:s'.heap.get? T=some { cls:=.none,data:=.fields (#[]++ac) }:=ap T _ hm;have a6:isCodeTable s₁.heap T:=let ⟨o,cs,_,_,_,_,_,_,_,U,e2,e3,e4,_⟩:=hC;⟨c,o,cs,U,e2,e3,e4⟩;refine⟨rfl,⟨λb o e=>?_,λb o e=>?_⟩,os,a8⟩
    .by_cases hbT:b=T
     .subst hbT;rw[hT]at e;cases e;exact .inr (.inl ⟨a6,rfl,#[],ac,rfl,a0⟩)
     .exact .inl (ad b o hbT e)
    .by_cases hbT:b=T
     .subst hbT;exact⟨_,a0⟩
     .exact⟨o,ad b o hbT e⟩
 cases hk:K.lookup a with
 |some o =>
  have e:=KX a o hk;rw[ha]at e;cases e;refine a3 (λb=>if b=T then some (.tbl #[]) else none) (ay rfl) (λb hb=>.inl (ar hb)) (.inr ⟨_,vs.toArray,_,hk,rfl,rfl,rfl,by rw[au,a5];exact hl,by simpa using rv⟩) (λb u z=>?_) (λb z=>?_) λz=>absurd (ar ax) z
  .by_cases hb:b=T
   .have D:=(ay hb).symm.trans z;cases D;subst hb;exact hT
   .have D:=(ar hb).symm.trans z;cases D
  .by_cases hb:b=T
   .exact .inr hb
   .exact absurd (ar hb) z
 |none =>
  refine a3 (λb=>if b=T then some (.tbl #[]) else if b=a then some (.frz { cls:=.type "list",data:=.seq vs.toArray } (.lst (ns.map V.int))) else none) (ay rfl) (λb hb=>?_) (.inl (.inr ⟨{ cls:=.type "list",data:=.seq vs.toArray },(ar ax).trans (ay rfl)⟩)) (λb u z=>?_) (λb z=>?_) λ_=>hk
  .by_cases hba:b=a
   .exact .inr ⟨_,_,(ar hb).trans (ay hba)⟩
   .exact .inl ((ar hb).trans (ar hba))
  .by_cases hb:b=T
   .have D:=(ay hb).symm.trans z;cases D;subst hb;exact hT
   .have D:=(ar hb).symm.trans z;by_cases hba:b=a
    .have J:=(ay hba).symm.trans D;cases J;subst hba;exact⟨ha,by rw[ag];exact hl,vs,_,rv,ha⟩
    .have J:=(ar hba).symm.trans D;cases J
  .by_cases hb:b=T
   .exact .inr hb
   .by_cases hba:b=a
    .exact .inl hba
    .exact absurd ((ar hb).trans (ar hba)) z
end
theorem xqr {l:W.OpenLaw}{n k:Nat}{q:Ac}{loose:List Str}{XP:(Str->Option Ag)->Heap->Prop}{YP:Ah->Heap->Prop}{d:DefRec}{K:Params->Aa}{CX:Ah->CXT}{sp:Ah->Sp}{x:Str}{c T:Aj}
  (hn:l.most=some n) (hn2:n<=sizeLine) (hdf:d.params.defaults=[]) (hr:Room k callerA)
  (hY:∀(w:Ah) (h:Heap),YP w h->(K w.params).In h/\h.get? T=some (tabObj #[])) (hcT:∀p,codeHdIn (K p) c T=true) (hKT:∀p,(K p).lookup T=none)
  (F:∀(w:Ah) (mg:Str->Option Ag) (fa:Aj) (h:Heap),(K w.params).In h->h.Ns mainGlobals mg->mg d.name=some (.ref fa) ->
   ∃fd:Ad,(∀(s:Ab) (u:Ag),BindsTo s fd ⟨[u],[]⟩ [(x,u)]) /\
    ∀base:Heap,(K w.params).In base->base.Ns mainGlobals mg->BMain mg base->FnOk l.prog w (K w.params) mg base (CX w) k fa fd [x] (sp w))
  (hsp:∀(w:Ah) (H:Hp) (a:Aj) (ns:List Int),ns.length<=n->H T=some (.tbl #[])->SqL (K w.params) H a (ns.map V.int)->sp w [.ref a] H (λv _=>v=.bl true) λ_ _ _=>False)
  (hCX:∀(w:Ah) (H:Hp) (s:Ab) (e:Ag) (s':Ab),CX w [] H s (λ_ _ _=>False) e s'->False) :
  W.WalkO q loose XP YP l.row.toRowW d [] (λf vs=>PySem.call f vs):=by
 refine Att.attach_call hn hdf λw s₀ s₁ mg mb fa o pm cd ac a vs ns G Y ho hd ab L J U D Z=>?_;obtain⟨z,hT⟩:=hY w _ Y;obtain⟨fd,hb,hF⟩:=F w mg fa _ z G.T.g L;exact wj1 z G.T.g G.T.b G.T.builtins G.T.nolimit Z G.T.bmain hT (codeHd_of_K z (hcT _)) (hKT _) J U (bI D hn2) hr hF hb (λH hO hS=>hsp w H a ns D hO hS) λH e s'=>hCX w H s₁ e s'
end L2
namespace L2
open PySem PySem.Spec PySem.Calls PySem.W PyProof.Rows
def Stb (kz:List Int)(n:Nat)(il:List Nat):Prop:=il.Perm (List.range n)/\il.Pairwise λi j=>kz.getD i 0<kz.getD j 0\/(kz.getD i 0=kz.getD j 0/\i<j)
section
variable {prog:Ac}{w:Ah}{A:Ae}{E:Ag->Ab->Prop}{s:Ab}{a kS:Aj}{vs ks:List Ag}{P:PySem.Fin->Ab->Prop}{f:Ag}
end
end L2
namespace L2
open PySem PySem.Spec PySem.Calls PySem.W PyProof.Rows
def wkm (CX:CXT)(P:Ac)(w:Ah)(K:Aa)(mg:Str->Option Ag)(base:Heap)(N:List Str)(qual:Str)(scope:Scope)(g:Aj)(cd:Ag)(cl:List (Str×Aj))(A:Ae)(outer:List Env)(s:Ab)(H:Hp)(E:XK):Cx where
 prog:=P
 w:=w
 K:=K
 mg:=mg
 base:=base
 A:=A.deeper (envX qual scope s.heap.objs.size g cd cl)
 N:=N
 s₀:=s
 H₀:=H
 env:=envX qual scope s.heap.objs.size g cd cl
 outer:=outer
 stack:=envX qual scope s.heap.objs.size g cd cl::outer
 ex:=[]
 calm:=true
 fn:=λ_=>false
 pn:=[]
 xe:=λe s'=>wpAny (model P w) (A.deeper (envX qual scope s.heap.objs.size g cd cl)) (leaving (envX qual scope s.heap.objs.size g cd cl) e) (λ_ s''=>CX outer H s E e s'') (λe' s''=>CX outer H s E e' s'') s'
structure LamSc (x y:Str)(sc:Scope):Prop where
 kind:sc.kind=.function
 co:sc.isCoroutine=false
 gen:sc.isGenerator=false
 px:sc.names.lookup x=some .local
 fy:sc.names.lookup y=some .free
 nocell:∀z∈sc.names,z.2≠.cell
 free:∀z,sc.names.lookup z=some .free->z=y
 ne:y≠x
section
variable {CX:CXT}{P:Ac}{w:Ah}{K:Aa}{mg:Str->Option Ag}{base:Heap}{A:Ae}{outer:List Env}{s:Ab}{H:Hp}{E:XK}{name qual:Str}{params:Arguments}{body:Expr}{scope:Scope}{pm ctv:Ag}{c' g cF:Aj}{x y:Str}{k:Nat}{u uS:Ag}{v vS:V}{Q:VK}{t:TE}
theorem xkk (S:LamSc x y scope)(hr:Room (k+1) A)(e0:Env0 P w K mg base A outer s H)(ho:s.heap.get? g=some (kla_obj name qual params body scope [(y,cF)] pm c' ctv))(hcd:s.heap.CodeRec (.ref c') qual)
  (hb:bindArgs (kla_fn name qual params body scope [(y,cF)] pm (.ref c') ctv) ⟨[u],[]⟩=pure [(x,u)]) (hcell:s.heap.IsCell cF (some uS)) (hcF:H cF=none) (rv:RelV v u) (rS:RelV vS uS)
  (hpe:PE (wkm CX P w K mg base [x,y] qual scope g (.ref c') [(y,cF)] A outer s H E) body t) (ht:t [some v,some vS] H Q) :
  codeAny (model P w) A (.call (.ref g) ⟨[u],[]⟩) (CR CX outer P w H s Q E) s:=by
 have ad:s.heap.NoLimit:=e0.mod.nolimit.keeps λb o e=>(e0.bs b o e).1;refine kla_callFunE hr.depth ho rfl S.co S.gen rfl hcd ?_;rw[hb];refine ai (fL S.nocell (λz D=>?_) (λZ an ab=>⟨ad.fresh _ ab,?_⟩) S.kind)
 .obtain rfl:=aU.mp D;exact S.px
 show codeAny _ _ (.expr body (envX qual scope s.heap.objs.size g (.ref c') [(y,cF)])) _ _;have L:∀b o,s.heap.get? b=some o->Z.get? b=some o:=λb o e=>ab.extBut b o (aC (ak e)) (ah _ e);have F:∀z c,([(y,cF)]:List (Str×Aj)).lookup z=some c->z=y/\c=cF:=λz c e=>by
  rw[bw]at e;by_cases q:(z==y)=true
  .rw[q]at e;exact⟨by simpa using q,(av e).symm⟩
  .rw[jC]at q;rw[q]at e;cases e
 have W:([(y,cF)]:List (Str×Aj)).lookup y=some cF:=by rw[bw,fN]
 have U:∀b:Aj,b∉(wkm CX P w K mg base [x,y] qual scope g (.ref c') [(y,cF)] A outer s H E).ex:=λb z=>absurd (show b∈([]:List Aj) from z) (by simp);have I:Inv (wkm CX P w K mg base [x,y] qual scope g (.ref c') [(y,cF)] A outer s H E) [] [some v,some vS] H { s with heap:=Z,toks:=s.toks+1 }:=by
  refine⟨⟨e0.mod,S.kind,rfl,rfl,aj _,λa b c h1 h2=>(F a c h1).1.trans (F b c h2).1.symm,λz D=>?_,λz c D=>(by cases D),λ_=>hr.hd,Around.frames_deeper e0.frames,.inr ⟨rfl,rfl⟩,λb z=>absurd z (U b),e0.bs,e0.bsz,λb _ _=>U b,λb z=>absurd z (U b),e0.funs,e0.frf⟩,
   rfl,e0.bare,Un.kept L,⟨_,an,λi z a h1 h2 h3=>?_⟩,λz c h=>?_,e0.hok.fresh (aj _),λz c h=>?_,λp hp=>absurd (show p∈([]:List (Aj×Obj)) from hp) (by simp),e0.hok.kept L,rfl⟩
  .rcases D with D|D
   .exact absurd rfl (S.nocell _ (dW D))
   .rw[S.free z D];exact⟨cF,W⟩
  .match i,h1,h2 with
   |0,h1,h2 =>
    obtain rfl:x=z:=av h1;obtain rfl:v=a:=av (av h2);refine⟨u,rv,.inl ⟨S.px,?_⟩⟩;show List.lookup x [(x,u)]=some u;rw[bw,fN]
   |1,h1,h2 =>
    obtain rfl:y=z:=av h1;obtain rfl:vS=a:=av (av h2);exact⟨uS,rS,.inr ⟨.inr S.fy,cF,W,let ⟨o,h1,h2⟩:=hcell;⟨o,L _ _ h1,h2⟩⟩⟩
   |n+2,h1,_=>cases h1
  .obtain⟨rfl,rfl⟩:=F z c h;exact⟨_,let ⟨o,h1,h2⟩:=hcell;⟨o,L _ _ h1,h2⟩⟩
  .obtain⟨rfl,rfl⟩:=F z c h;exact hcF
 refine kla_codeExpr (aO (hpe [] _ [some v,some vS] H _ I ht) (λr s' hs=>?_) λ_ _ h=>h);obtain⟨v',H',J,ac,q⟩:=hs;exact⟨v',H',J.os,J.bare,J.base,J.hok,ac,q⟩
end
def qv7 (q:Str)(c':Aj):HO:=.ext λh=>h.CodeRec (.ref c') q
def wqt (g:Aj)(ob:Obj):HO:=.ext λh=>h.get? g=some ob
def qu8 (pos:Pos)(c':Aj):Array Ag:=#[rawInt pos.line,rawInt pos.col,.ref c']
def TabAt (T:Aj)(pos:Pos)(q:Str)(c':Aj)(H:Hp):Prop:=H T=some (.tbl (qu8 pos c'))/\H c'=some (qv7 q c')
def k9 (T:Aj)(pos:Pos)(q:Str)(H:Hp):Prop:=H T=some (.tbl #[])\/∃c',TabAt T pos q c' H
def KeepT (T:Aj)(H H':Hp):Prop:=∀b o,b≠T->H b=some o->H' b=some o
theorem xq5 {P:Ac}{w:Ah}{H:Hp}{h:Heap}{c':Aj}{q:Str}(r:h.CodeRec (.ref c') q):ObjOk P w H h c' (qv7 q c'):=by obtain⟨c,z,vs,t,e,D,J,F⟩:=id r;cases e;refine⟨r,⟨z,D⟩,λh1 h2 ⟨c,o1,v1,t1,e1,f1,f2,f3⟩ k=>?_⟩;cases e1;exact⟨c',o1,v1,t1,rfl,k _ f1,f2,f3⟩
theorem wv9 {P:Ac}{w:Ah}{H:Hp}{h:Heap}{g:Aj}{ob:Obj}(e:h.get? g=some ob):ObjOk P w H h g (wqt g ob) :=
 ⟨e,⟨ob,e⟩,λh1 h2 q k=>k _ q⟩
def tLam (T:Aj)(pos:Pos)(q:Str)(ob:Aj->Ag->Obj):TE:=λ_ H Q=>k9 T pos q H/\∀(g c':Aj) (ctv:Ag) (H':Hp),KeepT T H H'->TabAt T pos q c' H'->H g=none->H' g=some (wqt g (ob c' ctv))->Q (.ref g) H'
section
variable {X:Cx}{params:Arguments}{body:Expr}{scope:Scope}{pos:Pos}{c T:Aj}{clos:List (Str×Aj)}
theorem pe_lam (hB:BMain X.mg X.base)(hcd:X.env.code=.ref c)(hC:codeHdIn X.K c T=true)(hdef:defaultsOf params X.env=([],[]))(hcl:closureFor scope X.env=pure clos) :
  PE X (.Lambda params body scope pos) (tLam T pos (X.env.qual ++ "<lambda>") λc' ctv=>kla_obj "<lambda>" (X.env.qual ++ "<lambda>") params body scope clos ((X.mg "__name__").getD .none) c' ctv):=by
 intro pins s σ H Q I ⟨tab,h⟩;refine kla_eval hdef ?_;have hg:s.heap.Ns mainGlobals X.mg:=I.mod.glob.keeps I.bk;have CH:CodeHd s.heap c T:=codeHd_of_K I.kIn hC;obtain⟨bm,ob,b1,b2,b3,b4,b5,b6⟩:=hB.kept I.bk;have as:∀ps,s.heap.get? T=some (tabObj ps)->mainGlobals≠T/\s.heap.BuiltinsAt X.mg T:=λps hP=>by
  refine⟨λq=>?_,bm,ob,b1,b2,λq=>?_,λq=>?_,b3,b4,b5,b6⟩
  .obtain⟨o,es,ep,e,hd,_⟩:=hg;rw[q,hP]at e;cases e;cases hd
  .obtain⟨o,es,ep,e,hd,_⟩:=hg;rw[q,e]at b3;cases b3;rw[hd]at b6;cases b6
  .rw[q,hP]at b3;cases b3;cases b4
 rcases tab with hT|⟨c',hT,hc'⟩
 .have U:s.heap.get? T=some (tabObj #[]):=I.hok T _ hT;obtain⟨an,J⟩:=as _ U;refine kla_makeFunction (mg:=X.mg) hcl I.ok.glob hg hcd CH U trivial rfl an J λc' ctv h' tk hx L Z a2 a1=>?_;have ac:h'.get? T=some (tabObj (qu8 pos c')):=by rw[a1];rfl
  have ap:T<s.heap.objs.size:=ak U;have a3:H c'=none:=I.hok.fresh L;have ab:H h'.objs.size=none:=I.hok.fresh (bn (fj L Z));have d1:c'≠T:=λz=>absurd L (by rw[z];exact Nat.not_le_of_lt ap);have d2:h'.objs.size≠T:=λz=>by rw[z]at Z;exact absurd L (Nat.not_le_of_lt (bb Z ap))
  have d3:h'.objs.size≠c':=fM Z;have a0:∀b o,s.heap.get? b=some o->b≠c'/\b≠h'.objs.size:=λb o e =>
   ⟨aC (aN (ak e) L),aC (bb (aN (ak e) L) Z)⟩
  have ax:∀b,b≠T->b≠c'->b≠h'.objs.size->upd (upd (upd H T (.tbl (qu8 pos c'))) c' (qv7 (X.env.qual ++ "<lambda>") c')) h'.objs.size (wqt h'.objs.size (kla_obj "<lambda>" (X.env.qual ++ "<lambda>") params body scope clos ((X.mg "__name__").getD .none) c' ctv)) b=H b:=λb e1 e2 e3=>by rw[qt e3,qt e2,qt e1]
  have kp:∀b o,b≠T->s.heap.get? b=some o->(h'.push (kla_obj "<lambda>" (X.env.qual ++ "<lambda>") params body scope clos ((X.mg "__name__").getD .none) c' ctv)).get? b=some o:=λb o e1 e=>ah _ (hx b o e1 e);have D:∀b o,b≠T->H b=some o->upd (upd (upd H T (.tbl (qu8 pos c'))) c' (qv7 (X.env.qual ++ "<lambda>") c')) h'.objs.size (wqt h'.objs.size (kla_obj "<lambda>" (X.env.qual ++ "<lambda>") params body scope clos ((X.mg "__name__").getD .none) c' ctv)) b=some o:=λb o e1 e=>by rw[ax b e1 (q9 e a3) (q9 e ab)];exact e
  have tT:upd (upd (upd H T (.tbl (qu8 pos c'))) c' (qv7 (X.env.qual ++ "<lambda>") c')) h'.objs.size (wqt h'.objs.size (kla_obj "<lambda>" (X.env.qual ++ "<lambda>") params body scope clos ((X.mg "__name__").getD .none) c' ctv)) T=some (.tbl (qu8 pos c')):=by rw[qt d2.symm,qt d1.symm,upd_same]
  have W:∀b o,H b=some o->(∀ps,o≠.tbl ps)->b≠T:=λb o e n z=>by rw[z,hT]at e;cases e;exact n _ rfl
  refine⟨.ref h'.objs.size,_,I.call' (s':={ s with heap:=h'.push (kla_obj "<lambda>" (X.env.qual ++ "<lambda>") params body scope clos ((X.mg "__name__").getD .none) c' ctv),toks:=tk }) (ch:=[]) rfl ⟨λb o e n _ _=>kp b o (λz=>by rw[z,hT]at n;cases n) e,λb o e n _ _=>⟨o.slots,kp b o (λz=>by rw[z,hT]at n;cases n) e⟩,λb o e n _=>?_,λb o e _=>?_,λb xs e=>D b _ (W b _ e λps z=>by cases z) e,λb o u e=>D b _ (W b _ e λps z=>by cases z) e,λb ps e=>?_⟩ (λb u e=>?_) I.bare (λb z=>absurd z (by simp)),rfl,h _ c' ctv _ D ⟨tT,?_⟩ ab upd_same⟩
  .obtain⟨l1,l2⟩:=a0 b o e;rw[ax b (λz=>by rw[z,hT]at n;cases n) l1 l2];exact n
  .by_cases hb:b=T
   .rw[hb];exact⟨_,ah _ ac⟩
   .exact⟨o,kp b o hb e⟩
  .by_cases hb:b=T
   .subst hb;rw[hT]at e;cases e;exact⟨qu8 pos c',by rw[tT];simp⟩
   .exact⟨#[],by rw[D b _ hb e];simp⟩
  .by_cases hbg:b=h'.objs.size
   .subst hbg;rw[upd_same]at e;cases e;exact wv9 (aA _ rfl)
   .rw[qt hbg]at e;by_cases hbc:b=c'
    .subst hbc;rw[upd_same]at e;cases e;obtain⟨F,oc,vs,t,f1,f2,f3,f4⟩:=a2;exact xq5 ⟨F,oc,vs,t,f1,ah _ f2,f3,f4⟩
    .rw[qt hbc]at e;by_cases J:b=T
     .subst J;rw[upd_same]at e;cases e;exact ah _ ac
     .rw[qt J]at e;refine(I.hok b u e).stay (λF v hc q=>kp F v ?_ q) (λF q=>D F _ (W F _ q λps z=>by cases z) q) λF xs q=>D F _ (W F _ q λps z=>by cases z) q;rcases hc with rfl|hc
      .exact J
      .exact W F _ hc λps z=>by cases z
  .rw[qt d3.symm,upd_same]
 .have U:s.heap.get? T=some (tabObj (qu8 pos c')):=I.hok T _ hT;obtain⟨an,J⟩:=as _ U;refine kla_makeFunctionHit (mg:=X.mg) (cv:=.ref c') hcl I.ok.glob hg hcd CH U trivial ?_ J λctv h' tk hk ad=>?_
  .show codeAmong pos [rawInt pos.line,rawInt pos.col,.ref c']=some (.ref c');simp[codeAmong,rawInt]
  have ab:H h'.objs.size=none:=I.hok.fresh ad;have D:∀b o,H b=some o->upd H h'.objs.size (wqt h'.objs.size (kla_obj "<lambda>" (X.env.qual ++ "<lambda>") params body scope clos ((X.mg "__name__").getD .none) c' ctv)) b=some o:=λb o e=>by rw[qt (q9 e ab)];exact e
  exact⟨.ref h'.objs.size,_,I.laid (a:=h'.objs.size) (o:=wqt h'.objs.size (kla_obj "<lambda>" (X.env.qual ++ "<lambda>") params body scope clos ((X.mg "__name__").getD .none) c' ctv)) (t':=tk) (λb u q=>ah _ (hk b u q)) ad (wv9 (aA _ rfl)),rfl,h _ c' ctv _ (λb o _ e=>D b o e) ⟨D _ _ hT,D _ _ hc'⟩ ab upd_same⟩
end
end L2
namespace L2
open PySem PySem.Spec PySem.Calls PySem.W PyProof.Rows
theorem qzr {xs:List V}{its:List Ag}(rv:Vals xs its):∀(il:List Nat),(∀i∈il,i<xs.length)->Vals (il.map λi=>xs.getD i .non) (il.map λi=>its.getD i Value.none)
 |[],_=>.nil
 |i::r,hin=>by
  refine .cons ?_ (qzr rv r λj hj=>hin j (.tail _ hj));have hi:=hin i (.head _);obtain⟨u,eu,ru⟩:=rv.get (i:=i) (ae hi);have e1:its.getD i Value.none=u:=by rw[af,eu];rfl
  have z:xs.getD i .non=xs[i]:=by rw[af,ae hi];rfl
  show RelV (xs.getD i .non) (its.getD i Value.none);rw[e1,z];exact ru
section
variable {X:Cx}{pins:List (Aj×Obj)}{σ:St}{H:Hp}{s:Ab}
end
def wv7 (X:Cx)(f:Ag)(ks:List Str)(r:St->List V->List V->Hp->VK->Prop):Prop :=
 ∀(pins:List (Aj×Obj)) (s:Ab) (σ:St) (H:Hp) (xs zs:List V) (us ws:List Ag) (Q:VK),Inv X pins σ H s->Vals xs us->Vals zs ws->r σ xs zs H Q ->
  wpAny (model X.prog X.w) X.A (call f us (ks.zip ws)) (EP X pins σ Q) X.xe s
def tCBKS (r:St->List V->List V->Hp->VK->Prop)(t tk:TA):TE:=λσ H Q=>t σ H λvs H1=>tk σ H1 λzs H2=>r σ vs zs H2 Q
section
variable {X:Cx}{x:Str}{p pos:Pos}{e:Expr}{es:List Expr}{kws:List Keyword}{t tk:TA}{id:String}{ks:List Str}{r:St->List V->List V->Hp->VK->Prop}
theorem wxr (hc:wv7 X (.builtin id) ks r)(hg:Gl X x)(hm:X.mg x=none)(hv:bootBuiltins x=some (.builtin id))(ha:PA X (e::es) t)(hkw:PK X kws tk)
  (hall:autoParam ((backToKw pos (keywordEach kws X.env)).all (·.1.isSome)=true) aU4._auto_1) (hks:autoParam ((backToKw pos (keywordEach kws X.env)).filterMap (·.1)=ks) aU4._auto_1) (hn:autoParam (x ≠ "__name__") aU2._auto_1) (hdb:autoParam ((x==("__debug__" : Str))=false) aU1._auto_1)
  (he:autoParam (starEach (e::es) X.env=(false,eval e X.env)::starEach es X.env) aU4._auto_1)
  (hpl:autoParam ((backTo pos (starEach (e::es) X.env)).any (·.1)=false) aU4._auto_1) (hpk:autoParam ((backToKw pos (keywordEach kws X.env)).any (·.1.isNone)=false) aU4._auto_1):PE X (.Call (.Name x p) (e::es) kws pos) (tCBKS r t tk):=by
 intro pins s σ H Q I h;refine cT (yb I hg hm hv ?_ hn hdb);refine callWith_builtin_kwB hpl hpk (evalArgs_kw2 hall (thn (ha pos pins s σ H _ I h) λus s1 ⟨vs,H1,I1,r1,q⟩=>?_) he);refine thn (hkw pos pins s1 σ H1 _ I1 q) λws s2 ⟨zs,H2,I2,rz,q2⟩=>?_;dsimp only [List.nil_append];rw[hks];exact hc pins s2 σ H2 vs zs us ws Q I2 r1 rz q2
end
section
variable {X:Cx}{x y:Str}{params:Arguments}{body:Expr}{scope:Scope}{cF:Aj}{qual:Str}{pm:Ag}{iy k:Nat}{t:TE}
end
end L2
namespace L2
open PySem PySem.Spec PySem.Calls PySem.W PyProof.Rows
theorem xv4 {α:Type}{l l':List α}(d:α)(p:l'.Perm l):∃il:List Nat,il.Perm (List.range l.length)/\l'=il.map λi=>l.getD i d:=by
 have J:∀(l:List α) (k:Nat) (L:List α),(∀j,j<l.length->L[k+j]?=l[j]?)->Paired (λx i=>L[i]?=some x) l (List.range' k l.length):=by
  intro l
  induction l with
  |nil=>intro k L _;exact .nil
  |cons x l ih =>
   intro k L h;rw[aP,List.range'_succ];refine .cons (by have:=h 0 (by simp);simpa using this) (ih (k+1) L λj U=>?_);have:=h (j+1) (by simp;lia);rw[show k+1+j=k+(j+1) by lia,this];rfl
 have z:=J l 0 l λj _=>by rw[cN]
 rw[<-List.range_eq_range']at z;obtain⟨il,F,D⟩:=Paired.perm p z;refine⟨il,F,?_⟩;have:∀ {l':List α} {il:List Nat},Paired (λx i=>l[i]?=some x) l' il->l'=il.map λi=>l.getD i d:=by
  intro l' il h
  induction h with
  |nil=>rfl
  |cons r t ih=>rw[aI,af,r,<-ih];rfl
 exact this D
section
variable {prog:Ac}{w:Ah}{A:Ae}{E:Ag->Ab->Prop}{s:Ab}{a kS:Aj}{vs ks:List Ag}{P:PySem.Fin->Ab->Prop}{f:Ag}
theorem quz {st:Af}{e e1:Nat}{out:List Ag}(hka:kS≠a)(hk:s.heap.get? kS=some (seqObj "list" ks.toArray e))(ha:s.heap.get? a=some (seqObj "list" #[] e1))(hout:(arrOf st).map (·.2)=List.toArray out)(hz:out.length<=100000)(hkz:ks.length<=100000)(hf:failedOf st=none)
  (h:P (.done (.ret .none)) { s with heap:=(s.heap.update kS (Obj.mapSeq λ_=>(#[]:Array Ag))).update a (Obj.mapSeq λ_=>out.toArray) }):wpAny (model prog w) A (ksk_tail a false e1 (.ref kS) st) P E s:=by
 have D:(s.heap.update kS (Obj.mapSeq λ_=>(#[]:Array Ag))).get? a=some (seqObj "list" #[] e1):=by rw[bU _ _ _ _ (λz=>hka z.symm)];exact ha
 unfold ksk_tail
 try dsimp only
 rw[hout];refine aa (fG hk rfl ?_ (by rw[au,d6];lia) (aY _));refine aa (g9 ?_);refine aa (i4 D rfl ?_);refine aa (fG D rfl ?_ (aY _) (by simp only[aB,br];rw[au,d6];lia));rw[hf];simp only[fH,aB,br];exact ai h
theorem wx7 {s:Ab}{G:Ai->Prop}(hG:∀x,G x->∃n t,x.1=Value.int n t):Tm.ux (model prog w) A E s G (λx=>numOf x.1) oneType':=by rintro⟨J,F⟩ ⟨y1,y2⟩ st Q gx gy hk hQ;obtain⟨n,t,D⟩:=hG _ gx;obtain⟨m,u,z⟩:=hG _ gy;dsimp only at D z;subst D z;rw[lt'_eq];refine aD (gW ?_);rw[hk,keyLt'_oneType];refine aD (iJ (fF (oneLt_int ⟨rfl,?_⟩)));exact aK hQ
theorem wyy {R:Nat->Nat->Prop}{n:Nat}(h:n<2):(List.range n).Pairwise R:=by
 match n,h with
 |0,_=>exact .nil
 |1,_=>exact eY _ _
theorem wzb {vs:List Ag}(h:vs.length<2):((List.range vs.length).map λi=>vs.getD i Value.none)=vs:=by
 match vs,h with
 |[],_=>rfl
 |[v],_=>rfl
theorem xkh {kz:List Int}{e e1:Nat}(hka:kS≠a)(hk:s.heap.get? kS=some (seqObj "list" ks.toArray e))(ha:s.heap.get? a=some (seqObj "list" #[] e1))(hl:ks.length=vs.length)(h64:vs.length<=100000)(t:IntsAre ks kz)(nd:kz.Pairwise (·≠·))
  (h:∀il,Stb kz vs.length il->P (.done (.ret .none)) { s with heap:=(s.heap.update kS (Obj.mapSeq λ_=>(#[]:Array Ag))).update a (Obj.mapSeq λ_=>(il.map λi=>vs.getD i Value.none).toArray) }) :
  wpAny (model prog w) A (ksk_end a false vs.toArray e1 (.ref kS) ks.toArray) P E s:=by
 have ap:ks.length=kz.length:=Q5 t;have tt:IntsAre ks.toArray.toList kz:=t;unfold ksk_end
 try dsimp only
 simp only[aB,br];by_cases h2:vs.toArray.size<2
 .rw[ay h2,ay h2];refine aa (ai ?_);have Z:vs.length<2:=by simpa using h2
  refine aa (ai ?_);refine quz (out:=vs) hka hk ha ?_ h64 ⋯ rfl ?_
  .show(ks.toArray.zip vs.toArray).map (·.2)=vs.toArray;apply eX.mp;simp;rw[List.map_snd_zip ⋯]
  .have:=h (List.range vs.length) ⟨.refl _,wyy Z⟩;have e:=wzb Z;rw[e]at this;exact this
 .rw[ar h2,ar h2];have Z:2<=vs.length:=by simpa using h2
  rw[ksk_kind tt (by rw[au];lia)];refine aa (ai ?_);have W:(ks.toArray.zip vs.toArray).toList=ks.zip vs:=by rw[Array.toList_zip]
  have D:∀i x,(ks.zip vs)[i]?=some x->i<vs.length/\x.2=vs.getD i .none/\numOf x.1=kz.getD i 0/\∃n t,x.1=Value.int n t:=λi x ex=>by
   have hi:=(al.mp ex).1;rw[List.length_zip]at hi;have h1:i<ks.length:=by lia
   have h3:i<vs.length:=by lia
   rw[List.getElem?_zip_eq_some]at ex;obtain⟨e1,e2⟩:=ex;refine⟨h3,by rw[af,e2];rfl,?_,t.all _ (aF e1)⟩;rw[<-t.nums,af,aw,e1];rfl
  have U:Tm.Un (λx:Ai=>numOf x.1) (λx=>∃n t,x.1=Value.int n t) (ks.toArray.zip vs.toArray):=by
   refine⟨?_,λx L=>?_⟩
   .rw[W];refine bg.mpr λi j hi hj ac=>?_;obtain⟨a1,_,a3,_⟩:=D i _ (ae hi);obtain⟨b1,_,F,_⟩:=D j _ (ae hj);rw[a3,F,af,af,ae ⋯,ae ⋯];exact bg.mp nd i j ⋯ ⋯ ac
   .rw[W]at L;obtain⟨i,ei⟩:=bX L;exact(D i x ei).2.2.2
  refine aa (aO (Tm.Yh (Q:=λ_ z=>(arrOf z).Perm (ks.toArray.zip vs.toArray)/\failedOf z=none/\Tm.SL (λx:Ai=>numOf x.1) (arrOf z).toList) (st:=SortSt.mk' oneType' (ks.toArray.zip vs.toArray) #[] 7 none) (wx7 λx L=>L) U rfl rfl rfl rfl λz a1 a2 a3=>⟨a1,a2,a3⟩) ?_ λ_ _ e=>e);rintro⟨⟨⟩,z⟩ s' ⟨rfl,b1,b2,F⟩
  try dsimp only
  have pl:=eo.mp b1;rw[W]at pl;obtain⟨il,J,p2⟩:=xv4 (d:=((.none,.none):Ai)) pl;have lz:(ks.zip vs).length=vs.length:=by rw[List.length_zip];lia
  rw[lz]at J;have ab:∀i∈il,i<vs.length:=λi hi=>aq.mp (J.mem_iff.mp hi);have ad:∀i,i<vs.length->(ks.zip vs)[i]?=some ((ks.zip vs).getD i (.none,.none)):=λi hi=>by rw[af,ae ⋯];rfl
  have e3:(arrOf z).map (·.2)=List.toArray (il.map λi=>vs.getD i .none):=by apply eX.mp;rw[Array.toList_map,p2,bp];exact cu λi hi=>(D i _ (ad i (ab i hi))).2.1
  have st:Stb kz vs.length il:=by refine⟨J,?_⟩;rw[p2]at F;unfold Tm.SL at F;rw[bB]at F;refine b7 (λ{i j} hi hj ac=>.inl ?_) F;have an:numOf ((ks.zip vs).getD i (.none,.none)).1<numOf ((ks.zip vs).getD j (.none,.none)).1:=ac;rwa [(D i _ (ad i (ab i hi))).2.2.1,(D j _ (ad j (ab j hj))).2.2.1]at an
  refine quz hka hk ha e3 ?_ ⋯ b2 (h il st);rw[ag,J.length_eq,aE];exact h64
theorem wu9 {J:List Ag->List Int->Ab->Prop}{e1:Nat}(hka:kS≠a)(h64:vs.length<=100000)
  (hJ:∀ks kz s,J ks kz s->(∃e,s.heap.get? kS=some (seqObj "list" ks.toArray e))/\s.heap.get? a=some (seqObj "list" #[] e1)/\IntsAre ks kz)
  (step:∀x ks kz (s:Ab),vs[ks.length]?=some x->J ks kz s->wpAny (model prog w) A (call f [x]) (λk s'=>(∃e,s'.heap.get? kS=some (seqObj "list" ks.toArray e))/\∃z,J (ks++[k]) (kz++[z]) { s' with heap:=s'.heap.update kS (Obj.mapSeq (·.push k)) }) (λ_ _=>False) s)
  (nd:∀ks kz (s:Ab),ks.length=vs.length->J ks kz s->kz.Pairwise (·≠·))
  (fin:∀ks kz (s:Ab),ks.length=vs.length->J ks kz s->∀il,Stb kz vs.length il ->
   P (.done (.ret .none)) { s with heap:=(s.heap.update kS (Obj.mapSeq λ_=>(#[]:Array Ag))).update a (Obj.mapSeq λ_=>(il.map λi=>vs.getD i Value.none).toArray) })
  (j:J [] [] s):wpAny (model prog w) A (ksk_rest a f false vs.toArray e1 (.ref kS)) P E s:=by
 unfold ksk_rest;refine aa (dA ?_)
 first
  |rw[List.forIn_toArray]
  |(rw[<-gh];simp only[List.toList_toArray])
  |rw[<-gh]
 refine aa (aO (wkg (vs:=vs) (J:=J) (λx ks kz s' U D=>?_) vs [] [] s (by simp) (aY _) j) (λ_ s' Z=>?_) λ_ _ x=>x)
 .refine aa (fF (aO (step x ks kz s' U D) (λk ab W=>?_) λ_ _ hF=>hF.elim));obtain⟨⟨e,F⟩,xs,j2⟩:=W;have hz:ks.length<vs.length:=(al.mp U).1
  try dsimp only
  refine aa (fG F rfl ?_ (by rw[au,d6];lia) (bI (Nat.le_of_eq (Array.size_push ..)) (by rw[au,d6];lia)));exact ai ⟨rfl,k,xs,j2⟩
 .obtain⟨ks,kz,L,D⟩:=Z;obtain⟨⟨e,F⟩,h1,h2⟩:=hJ _ _ _ D
  try dsimp only
  refine aa (listItems_at F rfl ?_);exact xkh hka F h1 L h64 h2 (nd ks kz s' L D) (fin ks kz s' L D)
theorem xqg {J:Nat->List Ag->List Int->Ab->Prop}{n:Nat}(ho:s.heap.get? a=some (seqObj "list" vs.toArray n))(h64:vs.length<=100000)
  (hJ:∀e1 ks kz s',J e1 ks kz s'->(∃e,s'.heap.get? (s.heap.objs.size+1)=some (seqObj "list" ks.toArray e))/\s'.heap.get? a=some (seqObj "list" #[] e1)/\IntsAre ks kz)
  (step:∀e1 x ks kz (s':Ab),vs[ks.length]?=some x->J e1 ks kz s'->wpAny (model prog w) A (call f [x]) (λk s2=>(∃e,s2.heap.get? (s.heap.objs.size+1)=some (seqObj "list" ks.toArray e))/\∃z,J e1 (ks++[k]) (kz++[z]) { s2 with heap:=s2.heap.update (s.heap.objs.size+1) (Obj.mapSeq (·.push k)) }) (λ_ _=>False) s')
  (nd:∀e1 ks kz (s':Ab),ks.length=vs.length->J e1 ks kz s'->kz.Pairwise (·≠·))
  (fin:∀e1 ks kz (s':Ab),ks.length=vs.length->J e1 ks kz s'->∀il,Stb kz vs.length il ->
   P (.done (.ret .none)) { s' with heap:=(s'.heap.update (s.heap.objs.size+1) (Obj.mapSeq λ_=>(#[]:Array Ag))).update a (Obj.mapSeq λ_=>(il.map λi=>vs.getD i Value.none).toArray) })
  (j:∀e1,(Zy s.heap a vs).get? a=some (seqObj "list" #[] e1)->J e1 [] [] { s with heap:=Zy s.heap a vs }):wpAny (model prog w) A (ksk_tree a f false) P E s:=by
 have L:a<s.heap.objs.size:=ak ho;obtain⟨e1,D⟩:∃e1,(s.heap.update a (Obj.mapSeq λ_=>(#[]:Array Ag))).get? a=some (seqObj "list" #[] e1):=⟨_,fE ho λ_=>#[]⟩;have F:((s.heap.update a (Obj.mapSeq λ_=>(#[]:Array Ag))).push (seqObj "tuple" vs.toArray 0)).objs.size=s.heap.objs.size+1:=by rw[size_push',jF]
 unfold ksk_tree;refine aa (listItems_at ho rfl ?_);refine aa (fG ho rfl ?_ (by rw[au,d6];lia) (aY _));refine aa (i4 D rfl ?_);refine aa (wpAny_newTuple ?_ (by show vs.length<=_;rw[d6];lia));refine aa (gX ?_ (aY _));refine b8 ?_;show wpAny (model prog w) A (ksk_rest a f false vs.toArray e1 (.ref ((s.heap.update a (Obj.mapSeq λ_=>(#[]:Array Ag))).push (seqObj "tuple" vs.toArray 0)).objs.size)) P E { s with heap:=Zy s.heap a vs };rw[F];exact wu9 (J:=J e1) (fM (fI L)) h64 (hJ e1) (step e1) (nd e1) (fin e1) (j e1 (ah _ (ah _ D)))
end
section
variable {X:Cx}{pins:List (Aj×Obj)}{σ:St}{H:Hp}{s:Ab}
theorem wq8 {g p:Aj}{xs:List V}{kz:List Int}{Q:VK}(I:Inv X pins σ H s)(hS:SqL X.K H p xs)(h64:xs.length<=100000)(hnd:kz.Pairwise (·≠·))(hkz:kz.length=xs.length)
  (step:∀(pins':List (Aj×Obj)) (s':Ab) (i:Nat) (v:V) (u:Ag),Inv X pins' σ H s'->xs[i]?=some v->RelV v u ->
   wpAny (model X.prog X.w) X.A.in1.in1 (call (.ref g) [u]) (λr s2=>(∃t,r=.int (kz.getD i 0) t)/\Inv X pins' σ H s2) (λ_ _=>False) s')
  (q:∀l il,H l=none->Stb kz xs.length il->Q (.ref l) (upd H l (.lst (il.map λi=>xs.getD i .non)))) :
  wpAny (model X.prog X.w) X.A (call (.builtin "sorted") [.ref p] [(Str.ofString "key",.ref g)]) (EP X pins σ Q) X.xe s:=by
 obtain⟨its,rv,pl,hz⟩:=I.list hS;have hl:s.heap.IsList p its.toArray:=pl.isList;have hlen:its.length=xs.length:=rv.length.symm;refine call_function_entry_kw kind_sorted plain_sorted entry_sorted (ksk_s1 _ _) ?_;unfold Builtin.«sorted»;refine aa (m:=checkCount "sorted" 1 1 _) (ai ?_);refine aa (collect_list hl ?_ (by rw[d6];lia));refine aa (gX ?_ (by rw[d6];lia));have hsz:((s.heap.push (seqObj "list" #[] 0)).update s.heap.objs.size (Obj.mapSeq (·++its.toArray))).objs.size=s.heap.objs.size+1:=by rw[jF,size_push']
 have hoL:(((s.heap.push (seqObj "list" #[] 0)).update s.heap.objs.size (Obj.mapSeq (·++its.toArray))).push (seqObj "list" its.toArray 0)).get? (s.heap.objs.size+1)=some (seqObj "list" its.toArray 0):=by rw[<-hsz];exact aA _ rfl
 have keep:∀b o,s.heap.get? b=some o->(((s.heap.push (seqObj "list" #[] 0)).update s.heap.objs.size (Obj.mapSeq (·++its.toArray))).push (seqObj "list" its.toArray 0)).get? b=some o:=λb o q=>by have hlt:b<s.heap.objs.size:=ak q;rw[Heap.get?_push_ne _ _ _ (by rw[hsz];exact aC (fI hlt)),bU _ _ _ _ (aC hlt),Heap.get?_push_ne _ _ _ (aC hlt)];exact q
 show wpAny _ _ _ _ _ { s with heap:=((s.heap.push (seqObj "list" #[] 0)).update s.heap.objs.size (Obj.mapSeq (·++its.toArray))).push (seqObj "list" its.toArray 0) };rw[hsz];generalize hh1:((s.heap.push (seqObj "list" #[] 0)).update s.heap.objs.size (Obj.mapSeq (·++its.toArray))).push (seqObj "list" its.toArray 0)=h1 at hoL keep ⊢;have hs1:h1.objs.size=s.heap.objs.size+2:=by rw[<-hh1,size_push',hsz]
 have fD:vy X pins H (s.heap.objs.size+1):=I.fpOk (jT _) (I.hok.fresh (jT _));have nK:H (h1.objs.size+1)=none:=I.hok.fresh (by rw[hs1];exact jE _ 3);have fK:vy X pins H (h1.objs.size+1):=I.fpOk (by rw[hs1];exact jE _ 3) nK;have nD:H (s.heap.objs.size+1)=none:=I.hok.fresh (jT _);have hne:(h1.objs.size+1:Nat)≠s.heap.objs.size+1:=by lia
 refine aa (b8 (wpAny_call_entry_kw slot_list_sort ⟨_,hoL,rfl⟩ entry_list_sort ?body (ksk_l1 _ _)))
 case body =>
  show wpAny (model X.prog X.w) X.A.in1.in1 (Builtin.«list.sort» ⟨[.ref (s.heap.objs.size+1)],[(Str.ofString "key",.ref g)]⟩) _ _ { s with heap:=h1 };rw[ksk_t1];refine xqg (s:={ s with heap:=h1 }) (J:=λe1 ks zs s'=>Inv X pins σ H s'/\s'.heap.get? (s.heap.objs.size+1)=some (seqObj "list" #[] e1) /\
   (∃e,s'.heap.get? (h1.objs.size+1)=some (seqObj "list" ks.toArray e))/\IntsAre ks zs/\zs=kz.take ks.length/\ks.length<=xs.length) hoL ⋯ ?_ ?_ ?_ ?_ ?_
  .rintro e1 ks zs s' ⟨I',g1,g2,ia,_,_⟩;exact⟨g2,g1,ia⟩
  .rintro e1 x ks zs s' hx ⟨I',g1,⟨e,g2⟩,ia,ek,lk⟩;have hi:ks.length<xs.length:=by have:=(al.mp hx).1;lia
   obtain⟨u,eu,ru⟩:=rv.get (i:=ks.length) (ae hi);rw[hx]at eu;cases eu;have I2:Inv X ((s.heap.objs.size+1,seqObj "list" #[] e1)::(h1.objs.size+1,seqObj "list" ks.toArray e)::pins) σ H s':=I'.pins_of λp hp=>by
    rcases aM.mp hp with rfl|hp
    .exact⟨g1,nD,fD.2.1,fD.2.2.1,λv z=>by cases z⟩
    .rcases aM.mp hp with rfl|hp
     .exact⟨g2,nK,fK.2.1,fK.2.2.1,λv z=>by cases z⟩
     .exact I'.pin p (az _ hp)
   refine aO (step _ s' ks.length _ x I2 (ae hi) ru) (λr s2 hq=>?_) λ_ _ h=>h;obtain⟨⟨t,rfl⟩,I3⟩:=hq;obtain⟨d1,d2,_⟩:=I3.pin (s.heap.objs.size+1,seqObj "list" #[] e1) (az _ (.head _));obtain⟨k1,k2,_⟩:=I3.pin (h1.objs.size+1,seqObj "list" ks.toArray e) (az _ (.tail _ (.head _)));have I4:Inv X pins σ H s2:=I3.pins_of λp hp=>I3.pin p (az _ (.tail _ (.tail _ hp)));refine⟨⟨e,k1⟩,kz.getD ks.length 0,I4.turnedL (tk:=s2.toks) (ch:=[h1.objs.size+1]) (λb u hb e=>?_) (λb hb=>?_),?_,?_,ksk_snoc ia,?_,?_⟩
   .rw[bU _ _ _ _ (λz=>hb (by simp[z]))];exact e
   .obtain rfl:b=h1.objs.size+1:=by simpa using hb
    exact fK
   .show(s2.heap.update (h1.objs.size+1) _).get? (s.heap.objs.size+1)=_;rw[bU _ _ _ _ (λz=>hne z.symm)];exact d1
   .have ea:(List.toArray ks).push (Value.int (kz.getD ks.length 0) t)=List.toArray (ks++[Value.int (kz.getD ks.length 0) t]):=by simp
    exact⟨_,by rw[<-ea];exact fE k1 (·.push (Value.int (kz.getD ks.length 0) t))⟩
   .rw[ek,ao,cL,dP,af,ae ⋯];rfl
   .rw[ao,cL];lia
  .rintro e1 ks zs s' hks ⟨I',g1,⟨e,g2⟩,ia,ek,lk⟩;rw[ek,hks,hlen,<-hkz,bE];exact hnd
  .rintro e1 ks zs s' hks ⟨I',g1,⟨e,g2⟩,ia,ek,lk⟩ il hst;have ekk:zs=kz:=by rw[ek,hks,hlen,<-hkz,bE]
   rw[ekk,hlen]at hst;have hin:∀i∈il,i<xs.length:=λi hi=>aq.mp (hst.1.mem_iff.mp hi);have hk4:∀b u,b∉[h1.objs.size+1,s.heap.objs.size+1]->s'.heap.get? b=some u->((s'.heap.update (h1.objs.size+1) (Obj.mapSeq λ_=>(#[]:Array Ag))).update (s.heap.objs.size+1) (Obj.mapSeq λ_=>(il.map λi=>its.getD i Value.none).toArray)).get? b=some u:=λb u hb e=>by rw[bU _ _ _ _ (λz=>hb (by simp[z])),bU _ _ _ _ (λz=>hb (by simp[z]))];exact e
   have I5:=I'.turnedL (tk:=s'.toks) (ch:=[h1.objs.size+1,s.heap.objs.size+1]) hk4 λb hb=>by
    have hb':b=h1.objs.size+1\/b=s.heap.objs.size+1:=by simpa using hb
    rcases hb' with rfl|rfl
    .exact fK
    .exact fD
   have hg:(s'.heap.update (h1.objs.size+1) (Obj.mapSeq λ_=>(#[]:Array Ag))).get? (s.heap.objs.size+1)=some (seqObj "list" #[] e1):=by rw[bU _ _ _ _ (λz=>hne z.symm)];exact g1
   have outI:=qzr rv il hin;have hlo:il.length=xs.length:=by have:=hst.1.length_eq;rw[aE]at this;lia
   refine⟨_,rfl,ai ⟨_,rfl,.ref (s.heap.objs.size+1),_,Inv.track (o:=.lst (il.map λi=>xs.getD i .non)) I5 fD ⟨?_,_,_,outI,fE hg λ_=>_⟩,rfl,q _ il nD hst⟩⟩;rw[ag,hlo,d6];lia
  .intro e1 g1;have kp:∀b o,b≠s.heap.objs.size+1->h1.get? b=some o->(Zy h1 (s.heap.objs.size+1) its).get? b=some o:=λb o hb e=>by unfold Zy;refine ah _ (ah _ ?_);rw[bU _ _ _ _ hb];exact e
   refine⟨I.kept (t':=s.toks) (λb u e=>kp b u (aC (fI (ak e))) (keep b u e)),g1,⟨0,?_⟩,.nil,by simp,aY _⟩;have hkS:((h1.update (s.heap.objs.size+1) (Obj.mapSeq λ_=>(#[]:Array Ag))).push (seqObj "tuple" its.toArray 0)).objs.size=h1.objs.size+1:=by rw[size_push',jF]
   show(Zy h1 (s.heap.objs.size+1) its).get? (h1.objs.size+1)=_;unfold Zy;rw[<-hkS];exact aA _ rfl
end
section
variable {X:Cx}{x y:Str}{params:Arguments}{body:Expr}{scope:Scope}{cF:Aj}{qual:Str}{pm:Ag}{iy k:Nat}{t:TE}
theorem qyz (S:LamSc x y scope)(hr:Room (k+3) X.A)(hiy:X.N[iy]?=some y)(hky:X.env.kindOf y=some .cell)(hsy:X.env.scope.names.lookup y=some .cell)(hcF:X.env.cells.lookup y=some cF)
  (hb:∀(u ct:Ag) (c':Aj),bindArgs (kla_fn "<lambda>" qual params body scope [(y,cF)] pm (.ref c') ct) ⟨[u],[]⟩=pure [(x,u)])
  (hpe:∀(g c':Aj) (A:Ae) (outer:List Env) (s:Ab) (H:Hp) (E:XK),PE (wkm (CXE X.prog X.w) X.prog X.w X.K X.mg X.base [x,y] qual scope g (.ref c') [(y,cF)] A outer s H E) body t) :
  wv7 X (.builtin "sorted") [Str.ofString "key"] (λσ xs zs H Q=>∃(p:Aj) (vs:List V) (kz:List Int) (g c':Aj) (ct:Ag) (vS:V),xs=[.ref p]/\zs=[.ref g]/\SqL X.K H p vs/\vs.length<=100000/\kz.Pairwise (·≠·)/\kz.length=vs.length /\
   H g=some (wqt g (kla_obj "<lambda>" qual params body scope [(y,cF)] pm c' ct))/\H c'=some (qv7 qual c')/\σ[iy]?=some (some vS) /\
   (∀i v,vs[i]?=some v->t [some v,some vS] H λr H'=>r=.int (kz.getD i 0)/\H'=H) /\
   ∀l il,H l=none->Stb kz vs.length il->Q (.ref l) (upd H l (.lst (il.map λi=>vs.getD i .non)))):=by
 intro pins s σ H xs zs us ws Q I r U h;obtain⟨p,vs,kz,g,c',ct,vS,rfl,rfl,hS,as,ab,ad,hg,ap,hσ,ht,q⟩:=h;obtain⟨u,rfl,Z⟩:=js r;cases(show u=Value.ref p from Z);obtain⟨v,rfl,J⟩:=js U;cases(show v=Value.ref g from J);refine wq8 I hS as ab ad (λax s' i v u D hv J=>?_) q;obtain⟨m,a0,ac⟩:=D.loc;obtain⟨uS,rS,lk⟩:=ac iy y vS hiy hσ (.inr (.inl hsy));have an:s'.heap.IsCell cF (some uS):=by
  rcases lk with⟨z,_⟩|⟨_,c,L,e2⟩
  .rw[hky]at z;cases z
  .rw[hcF]at L;cases L;exact e2
 refine jJ (eJ (xkk (k:=k) S hr.in1.in1 D.env0.in1.in1 (D.hok g _ hg).1 (D.hok c' _ ap).1 (hb u ct c') an (D.freeC y cF hcF) J rS (hpe g c' _ _ _ _ E0) (ht i v hv)) λr s2 F=>?_);cases r with
 |error e=>exact CXE.no F
 |ok fl =>
  cases fl with
  |next=>exact False.elim F
  |brk=>exact False.elim F
  |cont=>exact False.elim F
  |ret w =>
   obtain⟨v,H2,I3,W,rfl,rfl⟩:=D.after F;obtain⟨t,rfl⟩:=W;exact⟨⟨t,rfl⟩,I3⟩
end
end L2
namespace L2
open PySem PySem.Spec PyProof.Rows
theorem wyr (bs:List Bool):(List.range bs.length).any (λi=>bs.getD i false)=bs.any id:=by
 rw[dr,dD,dD];constructor
 .rintro⟨i,hi,h⟩;have z:=aq.mp hi;rw[af,ae z]at h;exact⟨bs[i],bD z,h⟩
 .rintro⟨b,D,h⟩;obtain⟨i,hi,rfl⟩:=dj D;refine⟨i,aq.mpr hi,?_⟩;rw[af,ae hi];exact h
section
variable {X:Cx}{K:Aa}
theorem qvj (hc:X.calm=true)(hK:X.K=K):k8 X (.builtin "any") (λxs H Q=>∃(p:Aj) (bs:List Bool),xs=[.ref p]/\SqL K H p (bs.map V.bl)/\Q (.bl (bs.any id)) H):=by
 subst hK;intro pins s σ H xs us Q I r h;obtain⟨p,bs,rfl,hS,q⟩:=h;obtain⟨u,rfl,ru⟩:=js r;cases(show u=Value.ref p from ru);obtain⟨F,rv,⟨o,n,Z,J,e3,e4⟩,hz⟩:=I.list hS;have U:=qxs rv;have L:s.heap.IsList p F.toArray:=⟨o,Z,J,n,e4⟩;have ab:p<s.heap.objs.size:=ak Z;refine call_any_walk (gD L ?_);refine⟨s.heap.objs.size,_,_,_,_,_,λi=>bs.getD i false,rfl,Walks.list (A:=X.A.in1) (I.ok.hd hc) _ p (aC ab) F.toArray,⟨⟨_,aA _ rfl,rfl,rfl⟩,L.push _⟩,λi v s' Q' E' hP hQ=>?_,λh' tk hk=>?_⟩
 .have D:F[i]?=some v:=by simpa using hP
  rw[U,aw]at D;cases hb:bs[i]? with
  |none=>rw[hb]at D;cases D
  |some b =>
   rw[hb]at D;have ev:Value.bool b=v:=av D;subst ev;refine cZ ?_;have J:bs.getD i false=b:=by rw[af,hb];rfl
   have W:Q' (bs.getD i false) s':=hQ;rw[J]at W;exact W
 .have ac:F.toArray.size=bs.length:=by rw[U];simp
  rw[ac,wyr];refine⟨.bl _,H,I.kept λb ob e=>hk b ob (λhm=>?_) (ah _ e),rfl,q⟩;have z:b=s.heap.objs.size:=by simpa using hm
  exact aW _ (z▸ak e)
end
end L2
namespace L2
open PySem PySem.Spec PySem.Calls PySem.W PyProof.Rows
section
variable {prog:Ac}{w:Ah}{A:Ae}{R:Result->Ab->Prop}{I:Aj}{fp wr:List Aj}{n:Nat}{P:Nat->Ag->Prop}{St:Nat->Heap->Prop}
def MxAt (P:Nat->Ag->Prop)(bt:Nat->Nat->Bool)(j:Nat)(old:Array Ag):Prop:=(j=0/\old=#[])\/∃i v,j=i+1/\old=#[v,v]/\P (argBest bt i) v
theorem xw8 (W:Walks prog w A.in1 I fp wr n P St)(bt:Nat->Nat->Bool)(hcmp:CmpOf prog w A.in1 .Gt P bt)(S:Aj)(hSf:S∉fp)(d:Ag) :
  ∀(m j:Nat) (s:Ab) (old:Array Ag) (c:Nat),j+m=n->St j s.heap->s.heap.get? S=some ⟨.type "list",none,.seq old c,#[]⟩->MxAt P bt j old ->
   (∀v h' tk,(n=0/\v=d\/∃i,n=i+1/\P (argBest bt i) v)->(∀b o,b∉wr->b≠S->s.heap.get? b=some o->h'.get? b=some o)->R (.ok (.ret v)) { s with heap:=h',toks:=tk }) ->
   codeAny (model prog w) A (.builtin "max.loop" ⟨[.ref I,.none,.ref S],[("default",d)]⟩) R s:=by
 have ax:S∉wr:=λh=>hSf (W.sub _ h);have an:(toString "max" ++ toString ".loop" : String) = "max.loop" := by decide
 intro m
 induction m with
 |zero =>
  intro j s old c hj st hS ap hR;obtain rfl:j=n:=hj;(refine ii F.entry_max_loop ?_ ;rw[hU eZ _] ;show wpAny _ A.in1 (seqItems? (.ref S) >>= _) _ _ s ;refine aa (iG hS rfl ?_));(show wpAny _ A.in1 (tryCatch (pyNext (.ref I)) _ >>= _) _ _ s ;refine aa (wpAny_tryCatch (W.done s _ _ st λh' tk L=>?_)));rcases ap with⟨rfl,rfl⟩|⟨i,v,rfl,rfl,hP⟩
  .exact aa (dA (ai (hR d h' tk (.inl ⟨rfl,rfl⟩) λb o D _ e=>L b o D e)))
  .have U:=L S _ ax hS;(show wpAny _ A.in1 (updateSeq S (λ_=>#[]) >>= _) _ _ _ ;refine aa ?_ ;refine jQ U rfl (aa (g9 (ai ?_))));exact hR v _ tk (.inr ⟨i,rfl,hP⟩) λb o D J e=>(dc _ _ (eU J)).trans (L b o D e)
 |succ m ih =>
  intro j s old c hj st hS ap hR;have a1:j<n:=by lia
  (refine ii F.entry_max_loop ?_ ;rw[hU eZ _] ;show wpAny _ A.in1 (seqItems? (.ref S) >>= _) _ _ s ;refine aa (iG hS rfl ?_));(show wpAny _ A.in1 (tryCatch (pyNext (.ref I)) _ >>= _) _ _ s ;refine aa (wpAny_tryCatch (W.item j s _ _ a1 st λv h' tk hP as L=>?_)));have U:=L S _ ax hS;have fr:∀(h2:Heap),(∀b o,b≠S->h'.get? b=some o->h2.get? b=some o)->St (j+1) h2:=λh2 k=>W.frame _ _ _ as λb a2 o e=>k b o (λz=>hSf (by rw[<-z];exact a2)) e;rcases ap with⟨rfl,rfl⟩|⟨i,vb,rfl,rfl,a0⟩
  ·(show wpAny _ A.in1 (updateSeq S (λ_=>#[v,v]) >>= _) _ _ _ ;refine aa ?_ ;refine jQ U rfl ?_ ;rw[an]);refine ai ⟨i9 eZ _,ih (0+1) _ _ _ ⋯ (fr _ λb o Z e=>(dc _ _ (eU Z)).trans e) (dt _ U rfl) (.inr ⟨0,v,rfl,rfl,hP⟩) λv' ad ab hv ac=>?_⟩;exact hR v' ad ab hv λb o D J e=>ac b o D J ((dc _ _ (eU J)).trans (L b o D e))
  ·(show wpAny _ A.in1 (tryCatch (holding [v,v] (richCompare .Gt v vb >>= _)) _ >>= _) _ _ _ ;refine aa (wpAny_tryCatch (b8 (aa (hcmp (i+1) (argBest bt i) v vb _ _ _ hP a0 ?_)))));(refine aa (b8 (cZ ?_)) ;refine aa (g9 (ai ?_)));cases Z:bt (i+1) (argBest bt i) with
   |true =>
    (simp only[cI] ;refine aa ?_ ;refine jQ U rfl (aa (g9 ?_)) ;rw[an])
    refine ai ⟨i9 eZ _,ih (i+1+1) _ _ _ ⋯ (fr _ λb o Z e=>(dc _ _ (eU Z)).trans e) (dt _ U rfl) (.inr ⟨i+1,v,rfl,rfl,by simp only[argBest,Z,cI];exact hP⟩) λv' ad ab hv ac=>?_⟩;exact hR v' ad ab hv λb o D J e=>ac b o D J ((dc _ _ (eU J)).trans (L b o D e))
   |false =>
    (simp only[aB,br] ;refine aa (g9 ?_) ;rw[an])
    refine ai ⟨i9 eZ _,ih (i+1+1) _ _ _ ⋯ as U (.inr ⟨i+1,vb,rfl,rfl,by simp only[argBest,Z,aB,br];exact a0⟩) λv' ad ab hv ac=>?_⟩;exact hR v' ad ab hv λb o D J e=>ac b o D J (L b o D e)
end
theorem wy2 (a d:Ag):argsOk "max" ⟨[a],[(Str.ofString "default",d)]⟩:=by unfold argsOk;kernel_rfl
section
variable {prog:Ac}{w:Ah}{A:Ae}{E:Ag->Ab->Prop}{s:Ab}
theorem qjt {id:String}{b:Builtin}{args:List Ag}{kw:List (Str×Ag)}{Q:Ag->Ab->Prop}(hk:builtinKind id=none)(hp:plainId id=true)(hb:entryFor table id=some b)(ha:argsOk id ⟨args,kw⟩)
  (hc:wpAny (model prog w) A.in1 (b ⟨args,kw⟩) (λfin s'=>match fin with
   |.done f=>(match (Except.ok f:Result) with|.ok (.ret v)=>Q v s'|.ok _=>False|.error e=>E e s')
   |.again c'=>c'.quiet=true/\codeAny (model prog w) A c' (λr s'=>match r with|.ok (.ret v)=>Q v s'|.ok _=>False|.error e=>E e s') s') E s) :
  wpAny (model prog w) A (call (.builtin id) args kw) Q E s:=by
 refine jJ (codeAny_call_builtin hp hb ?_);simp only[checkBuiltinCall,hk];cases g:Manifest.signature? id with
 |none=>exact ai hc
 |some sig =>
  have z:Bind.checkArgs id sig ⟨args,kw⟩=pure ():=by simpa only [argsOk,g] using ha
  (simp only[z] ;exact ai hc)
end
section
variable {X:Cx}
theorem wy9 (hc:X.calm=true):xxf X (.builtin "max") [Str.ofString "default"] (λxs zs H Q=>∃(p:Aj) (ns:List Int) (d:Int),xs=[.ref p]/\zs=[.int d]/\SqL X.K H p (ns.map V.int) /\
  ∀m,(∀a∈ns,a<=m)->(m∈ns\/(ns=[]/\m=d))->Q (.int m) H):=by
 intro pins s σ H xs zs us ws Q I r rz h;obtain⟨p,ns,d,rfl,rfl,hS,q⟩:=h;obtain⟨u,rfl,ru⟩:=js r;cases(show u=Value.ref p from ru);obtain⟨v,rfl,tv,rfl⟩:=js rz;obtain⟨D,hl,J⟩:=Y5 I hS;have Z:D.size=ns.length:=by rw[J,ag,aV]
 have ab:(toString "max" ++ toString ".loop" : String) = "max.loop" := by decide
 show wpAny _ _ (call (.builtin "max") [.ref p] [(Str.ofString "default",.int d tv)]) _ _ _;refine qjt F.kind_max F.plain_max F.entry_max (wy2 _ _) ?_;(show wpAny _ X.A.in1 (Builtin.Builtins.bindParams "max" ["key","default"] 0 ⟨[],[(Str.ofString "default",.int d tv)]⟩ >>= _) _ _ s ;refine aa (wpAny_of_eq (show Builtin.Builtins.bindParams "max" ["key","default"] 0 ⟨[],[(Str.ofString "default",.int d tv)]⟩=pure [none,some (.int d tv)] from rfl) ?_));(refine aa (ai ?_) ;refine aa (iter_intList hl λs₂ e st ad ac=>?_) ;subst e ;refine aa (bW ?_));have W:=Walks.list (A:=X.A.in1) (prog:=X.prog) (w:=X.w) (I.ok.hd hc) _ p ac (intItems D);have an:(s.heap.push { cls:=.type "list_iterator",data:=.fields #[.ref p,.int 0 0] }).objs.size∉[s.heap.objs.size,p]:=λhm=>aW _ (ad _ hm);rw[ab];refine ai ⟨i9 eZ _,xw8 W _ (CmpOf.ints_gt (numAt D) λ_ _=>jV) _ an (.int d tv) _ 0 _ #[] _ (cN _) (W.frame _ _ _ st λb _ o e=>ah _ e) (aA _ rfl) (.inl ⟨rfl,rfl⟩) λv h' tk hv hk=>?_⟩;have U:∀b o,s.heap.get? b=some o->h'.get? b=some o:=λb o e=>by
  have hb:b<s.heap.objs.size:=ak e;refine hk b o (λz=>?_) (aC ?_) (ah _ (ah _ e))
  .obtain rfl:=aU.mp z;exact aW _ hb
  .rw[cM];exact fI hb
 have zi:(intItems D).size=D.size:=by simp[intItems]
 rcases hv with⟨h0,rfl⟩|⟨i,hi,hP⟩
 .have e0:ns=[]:=List.length_eq_zero_iff.mp ⋯;exact⟨.int d,H,I.kept U,⟨tv,rfl⟩,q d (λa L=>by rw[e0]at L;cases L) (.inr ⟨e0,rfl⟩)⟩
 .obtain⟨t,rfl⟩:=jV hP;obtain⟨b1,b2⟩:=argBest_gt (numAt D) i;refine⟨.int _,H,I.kept U,⟨t,rfl⟩,q _ (λa L=>?_) (.inl ?_)⟩
  .rw[J]at L;obtain⟨j,hj,rfl⟩:=mem_getD L;rw[<-J,<-Z]at hj;rw[<-jW];exact b2 j ⋯
  .rw[J,jW];refine getD_mem ?_;rw[<-J,<-Z];lia
end
end L2
namespace L2
open PySem PySem.Spec PySem.Calls PySem.W PyProof.Rows
structure FunT (K:Aa)(x:Str)(st:Stmt)(c f:Aj)(fd:Ad):Prop where
 F:Fun K x x st f fd
 code:fd.code=.ref c
section
variable {P:Ac}{w:Ah}{K:Aa}{mg:Str->Option Ag}{base:Heap}{x:Str}{st:Stmt}{c:Aj}
theorem FunT.okX {f:Aj}{fd:Ad}{N ps:List Str}{k:Nat}{sp:Sp}(F:FunT K x st c f fd)(S:FnScope N ps (qp st))(len:∀vs H Q E,sp vs H Q E->vs.length=ps.length)
  (body:∀(A:Ae) (outer:List Env) (s:Ab) (H:Hp) (vs:List V) (Q:VK) (E:XK),Room k (A.deeper (envOfC x (qp st) s.heap.objs.size f (.ref c)))->sp vs H Q E ->
   ∃t,PSs (Yw (CXE P w) P w K mg base N x (qp st) f (.ref c) A outer s H E) (zp st) t/\t { nx:=λ_ H'=>Q .non H',rt:=Q } (Zw N vs) H):FnOk P w K mg base (CXE P w) (k+1) f fd ps sp:=by
 obtain⟨Z,W,kV,ab,pm,an,cdv,ct,U,rfl,z,L⟩:=F.F.ex;obtain rfl:cdv=.ref c:=F.code;exact xzj z L S len λA outer s H vs Q E J D=>body A outer s H vs Q E J D
structure DefInT (K:Aa)(x:Str)(st:Stmt)(c:Aj):Prop where
 ex:∃f fd,W.nsIn K mainGlobals x=some (some (.ref f))/\FunT K x st c f fd
theorem xv8 {f:Aj}{oc:Ag}{od an:Option Aj}{osl:Array (Option Ag)}{kV doc pm ct:Ag}(a:W.nsIn K mainGlobals x=some (some (.ref f)))
  (l:K.lookup f=some ⟨oc,od,.func (W.fnOf x x (v9 st) (zp st) (qp st) .none kV doc pm an (.ref c) ct),osl⟩) (cc:W.codeIn K (.ref c) x=true) (k:W.keepIn K (.ref f)=true):DefInT K x st c:=⟨_,_,a,wxs l cc k,rfl⟩
theorem DefInT.cal {ps:List Str}{k:Nat}{sp:Sp}{h:Heap}(d:DefInT K x st c)(KX:K.In h)(G:h.Ns mainGlobals mg)(b:xj x st ps)(ok:∀f fd,FunT K x st c f fd->FnOk P w K mg base (CXE P w) k f fd ps sp):Cal P w K mg base x k sp:=by obtain⟨f,fd,a,F⟩:=d.ex;exact⟨f,fd,ps,bS KX G a,ok f fd F,F.F.kp,F.F.binds b⟩
end
end L2
namespace L2
open PySem PySem.Spec PyProof.Rows
theorem Zj {K:Aa}{M:List Nat}{a:Aj}{xs:List V}{te:TE}{σ:St}{H:Hp}{Q:VK}(G:Nat->V->Hp->Prop)(gs:StayT G)(hS:SqL K H a xs)(hn:xs.length<=1000000)
  (he:∀(i:Nat) (x:V) (H':Hp) (R:VK),xs[i]?=some x->Same H H'->(∀v H'',Same H' H''->G i v H''->R v H'')->te (zj M σ (some x)) H' R)
  (k:∀p ys H',H p=none->Same H H'->H' p=some (.lst ys)->ys.length=xs.length->(∀j v,ys[j]?=some v->G j v H')->Q (.ref p) H'):Ws (Itl K a) M te σ H Q:=by
 intro p np;have ab:(1000000:Nat)<sizeLine:=by decide
 refine⟨λi m ys H2=>i<=xs.length/\m=xs.length-i/\ys.length=i/\Same H H2/\H2 p=some (.lst ys)/\∀j v,ys[j]?=some v->G j v H2,⟨xs.length,aY _,rfl,rfl,Same.upd np,upd_same,λj v e=>by cases e⟩,?_⟩;rintro i m ys H2 ⟨hi,rfl,hl,sm,hp,hG⟩;have L:SqL K H2 a xs:=Same.sql sm hS;refine⟨hp,⋯,?_⟩;by_cases hlt:i<xs.length
 .have J:xs[i]?=some xs[i]:=ae hlt;refine .inr ⟨⟨xs,_,L,J⟩,?_⟩;rintro v H3 ⟨rfl,hv⟩;have U:=hv xs L;rw[J]at U;have e':=av U;subst e';clear U;refine he i _ _ _ J sm λw Z D g4=>?_;have W:=D _ _ hp;have st:∀b o,(∀xs,o≠.lst xs)->Z b=some o->upd Z p (.lst (ys++[w])) b=some o:=λb o F e=>by
   rw[qt]
   .exact e
   .intro z;rw[z,W]at e;exact F _ (av e).symm
  refine⟨W,xs.length-(i+1),⋯,⋯,rfl,by rw[ao,hl];rfl,λb o e=>?_,upd_same,λj v e=>?_⟩
  .rw[qt (q9 e np)];exact D _ _ (sm _ _ e)
  .rcases bo j ys.length with z|z
   .rw[aT z]at e;exact gs j v _ _ (hG j v e) λb o F e=>st b o F (D _ _ e)
   .rw[aG z]at e;have hj:j=i:=by
     rcases bo (j-ys.length) 1 with y|y
     .lia
     .rw[aQ (by simpa using y)]at e;cases e
    subst hj;rw[show j-ys.length=0 by lia]at e;cases e;exact gs j _ _ _ g4 st
 .have:i=xs.length:=by lia
  subst this;exact .inl ⟨⟨xs,L,aj _⟩,k p ys H2 np sm hp hl hG⟩
theorem xkr {X:Cx}{K:Aa}(hK:X.K=K)(hu:X.A.units+64<cLine):OpR X (compareOp .Eq) (rEqD K false):=by subst hK;exact xwc hu
theorem xzw {X:Cx}{P:Ac}{w:Ah}(hP:X.prog=P)(hw:X.w=w)(hu:X.A.units+64<cLine):Yg X (addT P w):=by subst hP hw;exact xvd hu
theorem xqb {X:Cx}{P:Ac}{w:Ah}(hP:X.prog=P)(hw:X.w=w):Yg X (addI P w):=by subst hP hw;exact xv6
end L2
namespace My
open PySem L2
def top (i:Nat):Stmt:=PySem.Challenge.pw_crookroad_k37_whole_finer_walks.main.body.getD i (.Pass ⟨0,0,0,0⟩)
abbrev zao:Stmt:=top 9
theorem _root_.aU8 (h:True:=by decide +kernel):True:=h
theorem scA{N P:List Str}{c:Scope}(a:autoParam (c.kind=.function) aU4._auto_1)(b:autoParam (c.isCoroutine=false) aU4._auto_1)(d:autoParam (c.isGenerator=false) aU4._auto_1)(e:autoParam (N.Nodup) aU8._auto_1)(f:autoParam (N.take P.length=P) aU4._auto_1)(g:autoParam (∀x∈P,c.names.lookup x=some .local\/c.names.lookup x=some .cell) aU8._auto_1)(h:autoParam (∀y∈c.names,y.2≠.free) aU8._auto_1):FnScope N P c:=⟨a,b,d,e,f,g,h⟩
theorem qxx:FnScope ["number","fewest","most"] ["number","fewest","most"] (qp zao):=scA
theorem qw8:Yc "check_count" zao ["number","fewest","most"] []:=λ_ _ _ _ _ _ _ u h=>match u,h with|[_,_,_],_=>exI rfl rfl
theorem qx0:Yc "check_count" zao ["number","fewest","most"] [.none]:=λ_ _ _ _ _ _ _ us hl=>by
 have h2:us.length=2:=by simpa using hl
 match us,h2 with
 |[_,_],_=>exact exI rfl rfl
abbrev zau:Stmt:=top 11
theorem qq3:FnScope ["bottom"] ["bottom"] (qp zau):=scA
theorem qq0:xj "check_bottom" zau ["bottom"]:=λ_ _ _ _ _ _ _ h=>bA1 h λ_=>rfl
abbrev zav:Stmt:=top 12
theorem Yq:FnScope ["one","other"] ["one","other"] (qp zav):=scA
theorem Yv:xj "common_divisor" zav ["one","other"]:=λ_ _ _ _ _ _ _ h=>bA2 h λ_ _=>rfl
abbrev zaw:Stmt:=top 13
theorem wyt:FnScope ["top","bottom","divisor"] ["top","bottom"] (qp zaw):=scA
theorem wyq:xj "lowest" zaw ["top","bottom"]:=λ_ _ _ _ _ _ _ h=>bA2 h λ_ _=>rfl
abbrev zap:Stmt:=top 14
theorem wz8:FnScope ["points","point","greatest","scale"] ["points"] (qp zap):=scA
theorem wzs:xj "ordered" zap ["points"]:=λ_ _ _ _ _ _ _ h=>bA1 h λ_=>rfl
abbrev zax:Stmt:=top 17
theorem wz7:FnScope ["heights","width"] ["heights"] (qp zax):=scA
theorem wz1:xj "is_line" zax ["heights"]:=λ_ _ _ _ _ _ _ h=>bA1 h λ_=>rfl
abbrev zay:Stmt:=uq (top 18) 0
theorem qqw:FnScope ["self","heights"] ["self","heights"] (qp zay):=scA
theorem Y8:jj "__init__" "Road.__init__" zay ["self","heights"]:=λ_ _ _ _ _ _ _ h=>bA2 h λ_ _=>rfl
abbrev zaz:Stmt:=uq (top 18) 1
theorem qz4:FnScope ["self"] ["self"] (qp zaz):=scA
theorem qv1:jj "width" "Road.width" zaz ["self"]:=λ_ _ _ _ _ _ _ h=>bA1 h λ_=>rfl
abbrev za0:Stmt:=uq (top 18) 2
theorem qqr:FnScope ["self"] ["self"] (qp za0):=scA
theorem qqg:jj "corners" "Road.corners" za0 ["self"]:=λ_ _ _ _ _ _ _ h=>bA1 h λ_=>rfl
abbrev za1:Stmt:=uq (top 18) 3
theorem qyt:FnScope ["self","stretch"] ["self","stretch"] (qp za1):=scA
theorem qys:jj "ends" "Road.ends" za1 ["self","stretch"]:=λ_ _ _ _ _ _ _ h=>bA2 h λ_ _=>rfl
abbrev za2:Stmt:=uq (top 18) 4
theorem qvr:FnScope ["self","stretch","left","right"] ["self","stretch"] (qp za2):=scA
theorem qvb:jj "slope" "Road.slope" za2 ["self","stretch"]:=λ_ _ _ _ _ _ _ h=>bA2 h λ_ _=>rfl
abbrev za3:Stmt:=uq (top 18) 5
theorem qv2:FnScope ["self","stretch","left","right"] ["self","stretch"] (qp za3):=scA
theorem qvz:jj "reach" "Road.reach" za3 ["self","stretch"]:=λ_ _ _ _ _ _ _ h=>bA2 h λ_ _=>rfl
abbrev za4:Stmt:=uq (top 18) 6
theorem qqf:FnScope ["self","point","top","bottom"] ["self","point"] (qp za4):=scA
theorem qqn:jj "on_road" "Road.on_road" za4 ["self","point"]:=λ_ _ _ _ _ _ _ h=>bA2 h λ_ _=>rfl
abbrev za5:Stmt:=uq (top 18) 7
theorem wz6:FnScope ["self","point","top","bottom","stretch","left","right","beyond"] ["self","point"] (qp za5):=scA
theorem wxz:jj "at" "Road.at" za5 ["self","point"]:=λ_ _ _ _ _ _ _ h=>bA2 h λ_ _=>rfl
abbrev za6:Stmt:=top 20
theorem xxd:FnScope ["road","many","heights"] ["road","many"] (qp za6):=scA
theorem wu3:xj "finer" za6 ["road","many"]:=λ_ _ _ _ _ _ _ h=>bA2 h λ_ _=>rfl
abbrev za7:Stmt:=top 25
theorem wyx:FnScope ["road","point","many","here","points"] ["road","point","many"] (qp za7):=scA
theorem wjx:xj "walked" za7 ["road","point","many"]:=λ_ _ _ _ _ _ _ h=>bA3 h λ_ _ _=>rfl
abbrev za8:Stmt:=top 26
theorem wuf:FnScope ["road","start","places","here"] ["road","start"] (qp za8):=scA
theorem xxz:xj "trace" za8 ["road","start"]:=λ_ _ _ _ _ _ _ h=>bA2 h λ_ _=>rfl
abbrev za9:Stmt:=top 27
theorem xvw:FnScope ["points","turn","many"] ["points","turn","many"] (qp za9):=scA
theorem xz9:xj "spot" za9 ["points","turn","many"]:=λ_ _ _ _ _ _ _ h=>bA3 h λ_ _ _=>rfl
abbrev zba:Stmt:=top 28
theorem ze2:FnScope ["road","point","many","here","points","turn"] ["road","point","many"] (qp zba):=scA
theorem ze3:xj "far" zba ["road","point","many"]:=λ_ _ _ _ _ _ _ h=>bA3 h λ_ _ _=>rfl
abbrev zbb:Stmt:=top 29
theorem wum:FnScope ["road","point","points","turn"] ["road","point"] (qp zbb):=scA
theorem xxc:xj "least" zbb ["road","point"]:=λ_ _ _ _ _ _ _ h=>bA2 h λ_ _=>rfl
abbrev zbc:Stmt:=top 33
theorem wzr:FnScope ["road","stretch","lesser","greater"] ["road","stretch"] (qp zbc):=scA
theorem wxu:xj "covered" zbc ["road","stretch"]:=λ_ _ _ _ _ _ _ h=>bA2 h λ_ _=>rfl
abbrev zbd:Stmt:=top 34
theorem qyg:FnScope ["road"] ["road"] (qp zbd):=scA
theorem qyf:xj "covers_of" zbd ["road"]:=λ_ _ _ _ _ _ _ h=>bA1 h λ_=>rfl
abbrev zbe:Stmt:=top 35
theorem Zk:FnScope ["width"] ["width"] (qp zbe):=scA
theorem Zg:xj "ways_of_no_step" zbe ["width"]:=λ_ _ _ _ _ _ _ h=>bA1 h λ_=>rfl
abbrev zbf:Stmt:=top 36
theorem Jf:FnScope ["covers","table"] ["covers","table"] (qp zbf):=scA
theorem Jk:xj "one_step_more" zbf ["covers","table"]:=λ_ _ _ _ _ _ _ h=>bA2 h λ_ _=>rfl
abbrev zbg:Stmt:=top 37
theorem qvy:FnScope ["road","many","covers","tables"] ["road","many"] (qp zbg):=scA
theorem qvg:xj "ways_up_to" zbg ["road","many"]:=λ_ _ _ _ _ _ _ h=>bA2 h λ_ _=>rfl
abbrev zbh:Stmt:=top 38
theorem qyj:FnScope ["first","covers","tables","many","begun","left"] ["first","covers","tables"] (qp zbh):=scA
theorem qjy:xj "rows_from" zbh ["first","covers","tables"]:=λ_ _ _ _ _ _ _ h=>bA3 h λ_ _ _=>rfl
abbrev zbi:Stmt:=top 39
theorem xjw:FnScope ["road","many","tables","covers","closed","first"] ["road","many"] (qp zbi):=scA
theorem xzg:xj "rows" zbi ["road","many"]:=λ_ _ _ _ _ _ _ h=>bA2 h λ_ _=>rfl
abbrev zbj:Stmt:=top 41
theorem qvt:FnScope ["road","row","steep","height","stretch","slope","left"] ["road","row"] (qp zbj):=scA
theorem qvq:xj "line_along" zbj ["road","row"]:=λ_ _ _ _ _ _ _ h=>bA2 h λ_ _=>rfl
abbrev zbk:Stmt:=top 42
theorem qwp:FnScope ["road","row","steep","height"] ["road","row"] (qp zbk):=scA
theorem qzp:xj "fixed_point" zbk ["road","row"]:=λ_ _ _ _ _ _ _ h=>bA2 h λ_ _=>rfl
abbrev zbl:Stmt:=top 43
theorem qq2:FnScope ["road","many","corners"] ["road","many"] (qp zbl):=scA
theorem qqd:xj "corners_back" zbl ["road","many"]:=λ_ _ _ _ _ _ _ h=>bA2 h λ_ _=>rfl
abbrev zbm:Stmt:=top 44
theorem wzt:FnScope ["point","stretches","top","bottom"] ["point","stretches"] (qp zbm):=scA
theorem ww8:xj "lies_in" zbm ["point","stretches"]:=λ_ _ _ _ _ _ _ h=>bA2 h λ_ _=>rfl
abbrev zbn:Stmt:=top 45
theorem xjq:FnScope ["road","many","closed","fixed","wholes","single","points"] ["road","many"] (qp zbn):=scA
theorem xkw:xj "back" zbn ["road","many"]:=λ_ _ _ _ _ _ _ h=>bA2 h λ_ _=>rfl
abbrev zbo:Stmt:=top 46
theorem qvm:FnScope ["road","length","points","wholes","thirds"] ["road","length"] (qp zbo):=scA
theorem qvw:xj "candidates" zbo ["road","length"]:=λ_ _ _ _ _ _ _ h=>bA2 h λ_ _=>rfl
abbrev zbp:Stmt:=top 47
theorem wx2:FnScope ["road","most"] ["road","most"] (qp zbp):=scA
theorem wxp:xj "lengths" zbp ["road","most"]:=λ_ _ _ _ _ _ _ h=>bA2 h λ_ _=>rfl
abbrev zbq:Stmt:=top 49
theorem qjc:FnScope ["_law_script","_law_at"] ["_law_script","_law_at"] (qp zbq):=scA
theorem qj7:xj "_law_cell" zbq ["_law_script","_law_at"]:=λ_ _ _ _ _ _ _ h=>bA2 h λ_ _=>rfl
abbrev zbr:Stmt:=top 50
theorem qj9:FnScope ["_law_script","_law_at","_law_turn","_law_many","_law_cell_here","_law_left","_law_k","_law_low_here","_law_one","_law_two"] ["_law_script","_law_at","_law_turn","_law_many"] (qp zbr):=scA
theorem qy9:xj "_law_pick" zbr ["_law_script","_law_at","_law_turn","_law_many"]:=λ_ _ _ _ _ _ _ h=>bA4 h λ_ _ _ _=>rfl
abbrev zbs:Stmt:=top 51
theorem qz5:FnScope ["_law_script","_law_at","_law_wide","_law_row","_law_k"] ["_law_script","_law_at","_law_wide"] (qp zbs):=scA
theorem qz7:xj "_law_climb" zbs ["_law_script","_law_at","_law_wide"]:=λ_ _ _ _ _ _ _ h=>bA3 h λ_ _ _=>rfl
abbrev zbt:Stmt:=top 52
theorem qqs:FnScope ["_law_script","_law_at","_law_most","_law_wide","_law_kind"] ["_law_script","_law_at","_law_most"] (qp zbt):=scA
theorem qqm:xj "_law_heights" zbt ["_law_script","_law_at","_law_most"]:=λ_ _ _ _ _ _ _ h=>bA3 h λ_ _ _=>rfl
abbrev zbu:Stmt:=top 53
theorem qw7:FnScope ["_law_heights_here","_law_most","_law_wide","_law_found","_law_made","_law_turn","_law_fresh","_law_k","_law_low_here"] ["_law_heights_here","_law_most"] (qp zbu):=scA
theorem qws:xj "_law_crowds" zbu ["_law_heights_here","_law_most"]:=λ_ _ _ _ _ _ _ h=>bA2 h λ_ _=>rfl
abbrev zbv:Stmt:=top 54
theorem qvp:FnScope ["_law_heights_here","_law_wish","_law_room","_law_crowds_here","_law_many"] ["_law_heights_here","_law_wish","_law_room"] (qp zbv):=scA
theorem qvc:xj "_law_times" zbv ["_law_heights_here","_law_wish","_law_room"]:=λ_ _ _ _ _ _ _ h=>bA3 h λ_ _ _=>rfl
abbrev zbw:Stmt:=top 55
theorem qz3:FnScope ["_law_found"] ["_law_found"] (qp zbw):=scA
theorem qvd:xj "_law_whole" zbw ["_law_found"]:=λ_ _ _ _ _ _ _ h=>bA1 h λ_=>rfl
abbrev zbx:Stmt:=top 56
theorem qw4:FnScope ["_law_one","_law_other"] ["_law_one","_law_other"] (qp zbx):=scA
theorem qxq:xj "_law_common" zbx ["_law_one","_law_other"]:=λ_ _ _ _ _ _ _ h=>bA2 h λ_ _=>rfl
abbrev zby:Stmt:=top 57
theorem quj:FnScope ["_law_top","_law_bottom","_law_by"] ["_law_top","_law_bottom"] (qp zby):=scA
theorem wwm:xj "_law_low" zby ["_law_top","_law_bottom"]:=λ_ _ _ _ _ _ _ h=>bA2 h λ_ _=>rfl
abbrev zbz:Stmt:=top 58
theorem qv3:FnScope ["_law_found"] ["_law_found"] (qp zbz):=scA
theorem qv4:xj "_law_point" zbz ["_law_found"]:=λ_ _ _ _ _ _ _ h=>bA1 h λ_=>rfl
abbrev zb0:Stmt:=top 59
theorem qxv:FnScope ["_law_found"] ["_law_found"] (qp zb0):=scA
theorem qzm:xj "_law_points" zb0 ["_law_found"]:=λ_ _ _ _ _ _ _ h=>bA1 h λ_=>rfl
abbrev zb1:Stmt:=top 60
theorem qqt:FnScope ["_law_found"] ["_law_found"] (qp zb1):=scA
theorem qqp:xj "_law_numbers" zb1 ["_law_found"]:=λ_ _ _ _ _ _ _ h=>bA1 h λ_=>rfl
abbrev zb2:Stmt:=top 61
theorem qjp:FnScope ["_law_script","_law_at","_law_wide","_law_most","_law_bottom","_law_top","_law_by"] ["_law_script","_law_at","_law_wide","_law_most"] (qp zb2):=scA
theorem qym:xj "_law_spot" zb2 ["_law_script","_law_at","_law_wide","_law_most"]:=λ_ _ _ _ _ _ _ h=>bA4 h λ_ _ _ _=>rfl
abbrev zb3:Stmt:=top 62
theorem qjb:FnScope ["_law_heights_here","_law_top","_law_bottom","_law_k"] ["_law_heights_here","_law_top","_law_bottom"] (qp zb3):=scA
theorem qyv:xj "_law_step" zb3 ["_law_heights_here","_law_top","_law_bottom"]:=λ_ _ _ _ _ _ _ h=>bA3 h λ_ _ _=>rfl
abbrev zb4:Stmt:=top 63
theorem qvs:FnScope ["_law_wholes","_law_by","_law_made","_law_k"] ["_law_wholes","_law_by"] (qp zb4):=scA
theorem qz8:xj "_law_parts" zb4 ["_law_wholes","_law_by"]:=λ_ _ _ _ _ _ _ h=>bA2 h λ_ _=>rfl
abbrev zb8:Stmt:=top 64
theorem ze4:FnScope ["_law_script","_law_heights_here","_law_wide","_law_by","_law_road","_law_fine","_law_corners","_law_many","_law_point_here","_law_steps","_law_left","_law_right","_law_points_here","_law_wholes","_law_spots","_law_parts_here","_law_told"] ["_law_script"] (qp zb8):=scA
local macro_rules | `(tactic| walk_at "sq")=>`(tactic| first | assumption | exact SqT.new | exact SqL.new | ((with_reducible refine Same.sqt (Same.upd (by assumption)) ?_);walk_at "sq") | ((with_reducible refine Same.sql (Same.upd (by assumption)) ?_);walk_at "sq"))
local macro_rules | `(tactic| walk_at "at")=>`(tactic| first | rfl | exact qwv (by lia) (by lia))
local macro_rules | `(tactic| walk_at "mul")=>`(tactic| first | assumption | exact IntMulOk.of_left (intBits_le_64 (by lia) (by lia)) | exact IntMulOk.of_right (intBits_le_64 (by lia) (by lia)) | exact Sm.ok (by assumption) (by assumption) (by lia))
local macro_rules | `(tactic| walk_at "pos")=>`(tactic| first | lia | decide +kernel)
local macro_rules | `(tactic| walk_at "div")=>`(tactic| exact⟨by first | lia | decide +kernel,by unfold Sm;decide +kernel⟩)
local macro_rules | `(tactic| walk_at "loc")=>`(tactic| first | exact Or.inl rfl | exact Or.inr rfl)
local macro_rules | `(tactic| walk_at "cap")=>`(tactic| repeat (first | exact trivial | refine⟨rfl,?_⟩))
local macro_rules | `(tactic| walk_at "has")=>`(tactic| repeat (first | exact trivial | (refine⟨λz=>?_,(by lia),?_⟩;(first | exact⟨_,rfl⟩ | cases z))))
local macro_rules | `(tactic| walk_at "cix")=>`(tactic| repeat (first | exact trivial | refine⟨⟨_,_,rfl,rfl,rfl,rfl⟩,?_⟩))
local macro_rules | `(tactic| walk_at "hasK")=>`(tactic| repeat (first | exact trivial | (refine⟨λz=>?_,λz=>?_,?_⟩;(first | exact⟨_,rfl⟩ | cases z);(first | rfl | cases z))))
structure Txt (K:Aa)(mg:Str->Option Ag)(qf:Aj)(qx:Aj)(qc:Aj)(qy:Aj)(qd:Aj)(qg:Aj)(qk:Aj):Prop where
 len_:mg "len" = none
 abs_:mg "abs" = none
 range_:mg "range" = none
 isinstance_:mg "isinstance" = none
 int_:mg "int" = none
 bool_:mg "bool" = none
 list_:mg "list" = none
 min_:mg "min" = none
 max_:mg "max" = none
 all_:mg "all" = none
 any_:mg "any" = none
 sum_:mg "sum" = none
 sorted_:mg "sorted" = none
 zip_:mg "zip" = none
 tuple_:mg "tuple" = none
 zeq:mg "BadLine" = some (.ref qf)
 zal:ExcC K qf
 ze5:mg "BadBottom" = some (.ref qx)
 zaq:ExcC K qx
 ze6:mg "OffRoad" = some (.ref qc)
 zar:ExcC K qc
 ze7:mg "BadCount" = some (.ref qy)
 zas:ExcC K qy
 zer:mg "TooLong" = some (.ref qd)
 zam:ExcC K qd
 ze8:mg "BadRow" = some (.ref qg)
 zat:ExcC K qg
 cl:Cls K qk
 na:NoAttr K qk "heights"
 zac:∃t,mg "WIDEST" = some (.int 24 t)
 ze9:mg "Road" = some (.ref qk)
 zag:∃t,mg "LONGEST_TRACE" = some (.int 1000 t)
 zad:∃t,mg "LONGEST_ROW" = some (.int 12 t)
 zah:∃t,mg "MOST_WAYS" = some (.int 1000 t)
 zai:∃t,mg "MOST_WALKED" = some (.int 1000 t)
 zaj:∃t,mg "FARTHEST" = some (.int 1000000000000000000000000000000000000000000000000000000000000 t)
abbrev FK(P:Ac)(w:Ah)(K:Aa)(mg:Str->Option Ag)(base:Heap):=FnOk P w K mg base (CXE P w)
section
variable {P:Ac}{w:Ah}{K:Aa}{mg:Str->Option Ag}{base:Heap}{qf:Aj}{qx:Aj}{qc:Aj}{qy:Aj}{qd:Aj}{qg:Aj}{qk:Aj}
variable {f:Aj}{fd:Ad}(T:Txt K mg qf qx qc qy qd qg qk)
def qwz (C:Aj):Sp:=λvs H Q E=>∃b:Int,vs=[.int b]/\(1<=b->Q .non H)/\(b<1->E (.ref C) none H)
include T in
theorem xx0 (F:Fun K "check_bottom" "check_bottom" zau f fd):FK P w K mg base 1 f fd ["bottom"] (qwz qx):=by
 have D:=qq3;refine F.okX D (λvs H Q E h=>by obtain⟨_,rfl,_⟩:=h;rfl) λ_ _ _ _ H vs Q E J h=>?_;obtain⟨b,rfl,h1,h2⟩:=h;refine⟨_,(qh (zd (wg Zv (pv 0) qb (wp _)) (qh (jg rfl T.zaq vg rfl T.ze5 (qw Wz qv))) xu)),?_⟩;refine exI rfl (wv rfl rfl (exI rfl ?_));refine jc (λz=>?_) (λz=>?_)
 .exact⟨⋯,h2 z⟩
 .exact h1 ⋯
include T in
theorem xvu (F:Fun K "_law_cell" "_law_cell" zbq f fd):FK P w K mg base 1 f fd ["_law_script","_law_at"] (qk8 K):=by
 have U:=qjc;refine F.okX U (λvs H Q E h=>by obtain⟨_,_,_,rfl,_⟩:=h;rfl) λ_ _ _ _ H vs Q E Z h=>?_;obtain⟨a,ns,i,rfl,J,W,k⟩:=h;have D:(ns.map V.int).length=ns.length:=ag _;refine⟨_,(qj (zd (wg Zv (pv 1) (wj xf rfl T.len_ bL (qw (pv 0) qv)) (wp _)) (qh (wy (xc zq (pv 0) (pv 1) (λ_ _=>rfl)))) xu)
   (qj (zd (wg yu (wj xf rfl T.len_ bL (qw (pv 0) qv)) qb (wp _)) (qh (wy (qr xv (qr w8 qb (pv 1)) qb))) xu)
   (qh (wy (qr xv (xc zq (pv 0) (qr ku (pv 1) (wj xf rfl T.len_ bL (qw (pv 0) qv))) (λ_ _=>rfl)) (qr w8 qb (pv 1))))))),?_⟩
 refine exI rfl (exI rfl ⟨_,_,rfl,.inl J,wv rfl rfl (exI rfl ?_)⟩);refine jc (λz=>?_) (λz=>?_)
 .rw[D]at z;refine exI rfl (exI rfl (exX rfl rfl J (qwv W z) ?_));exact k _ (by rw[wwr,ay z])
 .rw[D]at z;refine exI rfl ⟨_,_,rfl,.inl J,rfl,_,rfl,?_⟩;rw[D];refine u8 (λL=>?_) (λL=>?_)
  .refine exI rfl (wv rfl rfl ⟨(by walk_at "mul"),wv rfl rfl ?_⟩);exact k _ (by rw[wwr,ar z,ay L])
  .refine exI rfl (exI rfl (exI rfl ⟨_,_,rfl,.inl J,wv rfl rfl ⟨(by rw[D];lia),?_⟩⟩));rw[D];refine exX rfl rfl J (qwv (bF _ L) (bh _ ⋯)) (exI rfl (wv rfl rfl ⟨(by walk_at "mul"),wv rfl rfl ?_⟩));exact k _ (by rw[wwr,ar z,ar L])
include T in
theorem xks (F:Fun K "_law_pick" "_law_pick" zbr f fd)(zb9:Cal P w K mg base "_law_cell" 1 (qk8 K)):FK P w K mg base 2 f fd ["_law_script","_law_at","_law_turn","_law_many"] (Z1 K):=by
 have Z:=qj9;refine F.okX Z (λvs H Q E h=>by obtain⟨_,_,_,_,_,rfl,_⟩:=h;rfl) λ_ _ _ _ H vs Q E hr h=>?_;obtain⟨a,ns,i,t,m,rfl,hS,h0,t0,t1,m0,k⟩:=h;refine⟨_,(qj (wu (i:=4) (qm zb9 (hr.mono ⋯) rfl qu (qw (pv 0) (qw (pv 1) qv))))
   (qj (zd (wg wz9 (wj Ww rfl T.abs_ Wh (qw (pv 4) qv)) (qr xxx qb qb) (wp _)) (qj (wu (i:=5) (wj Ww rfl T.abs_ Wh (qw (pv 4) qv)))
   (qj (Qr bC rfl (xg rfl T.range_ (qw (pv 2) qv)) (wn (i:=6)) (qh (wu (i:=5) (qr jd (pv 5) qb))))
   (qj (zd (wg Zv (pv 4) qb (wp _)) (qh (wu (i:=5) (qr ku (pv 5) qb))) xu)
   (qh (wy (qr ku (pv 5) (pv 3))))))) xu)
   (qj (wu (i:=7) (qr ku (pv 4) qb))
   (qj (wu (i:=8) (qr ku (qr xv (qr xv (qr w8 (pv 7) qb) (qr w8 (pv 2) qb)) qb) qb))
   (qj (wu (i:=9) (qr ku (qr xv (qr xv (qr w8 (pv 8) (pv 8)) (qr w8 (pv 7) qb)) (qr w8 (pv 2) qb)) qb))
   (qh (wy (qr ku (qr ku (qr xv (qr xv (qr w8 (pv 9) (pv 9)) (qr w8 (pv 8) qb)) (qr w8 (pv 2) qb)) qb) (pv 3))))))))),?_⟩
 refine exI rfl (exI rfl ?_);refine⟨a,ns,i,rfl,hS,h0,λc hc=>?_⟩;have W:∀v,v=wqc c t%m->Q (.int v) H:=λv U=>by
  refine k v (by rw[U,wwc,hc]) ?_ ?_
  .rw[U];exact bF _ ⋯
  .rw[U];exact bh _ m0
 refine exI rfl (exI rfl (wv rfl rfl ⟨⟨⋯,⋯,⋯⟩,wv rfl rfl (exI rfl ?_)⟩));refine jc (λL=>?_) (λL=>?_)
 .have D:10 ^ 18<=uu c:=L;refine exI rfl (exI rfl ?_);refine exI rfl ⟨t,rfl,⋯,⋯,uc (λj σ H1=>H1=H/\∃z,σ=[some (.ref a),some (.int i),some (.int t),some (.int m),some (.int c),some (.int (divs (uu c) j)),z,none,none,none]) ⟨rfl,_,rfl⟩ ?_ ?_⟩
  .rintro j σ H1 hj ⟨rfl,z,rfl⟩;exact exI rfl (wv rfl rfl ⟨(by walk_at "div"),rfl,_,rfl⟩)
  .rintro σ H1 ⟨rfl,z,rfl⟩;refine exI rfl (wv rfl rfl (exI rfl ?_));refine jc (λJ=>?_) (λJ=>?_)
   .refine exI rfl (wv rfl rfl ⟨(by walk_at "pos"),exI rfl (exI rfl (wv rfl rfl ⟨(by walk_at "pos"),?_⟩))⟩);exact W _ (by rw[xxr D J])
   .refine exI rfl (exI rfl (wv rfl rfl ⟨(by walk_at "pos"),?_⟩));exact W _ (by rw[wjk D J])
 .have D:¬ 10 ^ 18<=uu c:=L;have l0:=bF c (show(1000003:Int)≠0 by decide);have l1:=bh c (show(0:Int)<1000003 by decide);refine exI rfl (wv rfl rfl ⟨(by walk_at "pos"),exI rfl (wv rfl rfl ⟨(by walk_at "mul"),exI rfl (wv rfl rfl ⟨(by walk_at "mul"),wv rfl rfl (wv rfl rfl (wv rfl rfl ⟨(by walk_at "pos"),?_⟩))⟩)⟩)⟩);have o0:0<=qj1 c t:=bF _ ⋯;have o1:qj1 c t<999983:=bh _ ⋯;refine⟨V.int (qj1 c t),rfl,V.int (qj1 c t),rfl,wv rfl rfl ⟨(by walk_at "mul"),exI rfl (wv rfl rfl ⟨(by walk_at "mul"),wv rfl rfl (exI rfl (wv rfl rfl ⟨(by walk_at "mul"),wv rfl rfl (wv rfl rfl ⟨(by walk_at "pos"),?_⟩)⟩))⟩)⟩⟩;have w0:0<=wq9 c t:=bF _ ⋯;have w1:wq9 c t<1000033:=bh _ ⋯;refine⟨V.int (wq9 c t),rfl,V.int (wq9 c t),rfl,wv rfl rfl ⟨(by walk_at "mul"),V.int (qj1 c t),rfl,wv rfl rfl ⟨(by walk_at "mul"),wv rfl rfl (exI rfl (wv rfl rfl ⟨(by walk_at "mul"),wv rfl rfl (wv rfl rfl ⟨(by walk_at "pos"),exI rfl (wv rfl rfl ⟨(by walk_at "pos"),?_⟩)⟩)⟩))⟩⟩⟩;exact W _ (by rw[xwt D])
def Within (n f:Int)(m:Option Int):Prop:=f<=n/\∀b,m=some b->n<=b
def Qm (C:Aj):Sp:=λvs H Q E=>∃(n f:Int) (m:V) (o:Option Int),vs=[.int n,.int f,m]/\(m=.non/\o=none\/∃b,m=.int b/\o=some b)/\(Within n f o->Q .non H)/\(¬ Within n f o->E (.ref C) none H)
include T in
theorem xx2 (F:FunD K "check_count" zao f fd):FK P w K mg base 1 f fd ["number","fewest","most"] (Qm qy):=by
 have D:=qxx;refine F.okX D (λvs H Q E h=>by obtain⟨_,_,_,_,rfl,_⟩:=h;rfl) λ_ _ _ _ H vs Q E W h=>?_;obtain⟨n,Z,m,o,rfl,U,k,x⟩:=h;refine⟨_,(qh (zd (PW.pt (Wq (wg Zv (pv 0) (pv 1) (wp _)) (uj (PW.pt (wu2 (wg wvh (pv 2) qzu (wp _)) (wkt (wg Q9 (pv 0) (pv 2) (wp _)))))))) (qh (jg rfl T.zas vg rfl T.ze7 (qw Wz qv))) xu)),?_⟩;refine exI rfl (exI rfl (wv rfl rfl (exI rfl ?_)));refine jc (λL=>?_) (λL=>?_)
 .refine Q2 ?_;exact⟨sz1,x (λz=>by have:=z.1;lia)⟩
 .rcases U with⟨rfl,rfl⟩|⟨b,rfl,rfl⟩
  .refine exI rfl ⟨rfl,_,rfl,?_⟩;refine yx ?_;exact k ⟨⋯,λb e=>nomatch e⟩
  .refine exI rfl ⟨rfl,_,rfl,?_⟩;refine Q2 ?_;refine exI rfl (exI rfl (wv rfl rfl (exI rfl ?_)));refine jc (λJ=>?_) (λJ=>?_)
   .exact⟨sz1,x (λz=>by have:=z.2 b rfl;lia)⟩
   .exact k ⟨⋯,λb' e=>by cases e;lia⟩
def q8 (ns:List Int):Prop:=2<=ns.length/\ns.length<=25/\∀h∈ns,0<=h/\h<=(ns.length:Int)-1
def qzn (K:Aa):Sp:=λvs H Q _=>∃(p:Aj) (ns:List Int),vs=[.ref p]/\SqL K H p (ns.map V.int)/\(q8 ns->Q (.bl true) H)/\(¬ q8 ns->Q (.bl false) H)
include T in
theorem wzu (F:Fun K "is_line" "is_line" zax f fd):FK P w K mg base 1 f fd ["heights"] (qzn K):=by
 have sc:=wz7;refine F.okX sc (λvs H Q E h=>by obtain⟨_,_,rfl,_⟩:=h;rfl) λ_ _ _ _ H vs Q E hr h=>?_;obtain⟨p,ns,rfl,L,k1,D⟩:=h;have ac:(ns.map V.int).length=ns.length:=ag _;obtain⟨tw,Z⟩:=T.zac;refine⟨_,(qj (wu (i:=1) (qr vw (wj xf rfl T.len_ bL (qw (pv 0) qv)) qb))
   (qj (zd (PW.pt (Wq (wg Zv (pv 1) qb (wp _)) (uj (wg Q9 (pv 1) (uw (v:=V.int 24) rfl Z ⟨_,rfl⟩) (wp _))))) (qh (wy Yb)) xu)
   (qh (wy (Y4 (W3 wz9 (wj (qvv rfl) rfl T.min_ eC (qw (pv 0) qv)) qb (wp _)) (Ym (W3 qu4 (wj (qvn rfl) rfl T.max_ eD (qw (pv 0) qv)) (pv 1) (wp _)))))))),?_⟩
 refine exI rfl ⟨_,_,rfl,.inl L,wv rfl rfl ?_⟩;refine exI rfl (wv rfl rfl (exI rfl ?_));rw[ac];refine jc (λq1=>?_) (λq1=>?_)
 .refine Q2 ?_;exact D (λz=>by have:=z.1;lia)
 .refine exI rfl (wv rfl rfl (exI rfl ?_));refine jc (λq2=>?_) (λq2=>?_)
  .exact D (λz=>by have:=z.2.1;lia)
  .refine exI rfl ⟨p,ns,rfl,L,⋯,λm hm an=>(wv rfl rfl (exI rfl ?_))⟩;refine jc (λU=>?_) (λU=>?_)
   .refine exI rfl ⟨p,ns,rfl,L,⋯,λJ ab ad=>(exI rfl (wv rfl rfl ?_))⟩;show Q (.bl (decide (J<=(ns.length:Int)-1))) H;by_cases q4:J<=(ns.length:Int)-1
    .rw[aS q4];exact k1 ⟨⋯,⋯,λh W=>by have:=an h W;have:=ad h W;lia⟩
    .rw[bz q4];exact D (λz=>q4 (z.2.2 J ab).2)
   .exact D (λz=>U (z.2.2 m hm).1)
def RoadAt (C:Aj)(H:Hp)(r:Aj)(ns:List Int):Prop:=∃dx q,H r=some (.ins C dx [("heights",.ref q)])/\H q=some (.lst (ns.map V.int))
variable {C:Aj}{H H':Hp}
theorem RoadAt.same {r:Aj}{ns:List Int}(h:RoadAt C H r ns)(s:Same H H'):RoadAt C H' r ns:=by obtain⟨dx,q,h1,h2⟩:=h;exact⟨dx,q,s _ _ h1,s _ _ h2⟩
variable {q:Aj}
theorem jt:([("heights",V.ref q)]:List (Str×V)).lookup ("heights" : Str)=some (.ref q):=by rw[bw];simp
theorem xq {m:Str}(h:¬ m = "heights"):([("heights",V.ref q)]:List (Str×V)).lookup m=none:=by rw[bw];have:(m==("heights" : Str))=false:=cC.mpr h;rw[this];rfl
def qxy (K:Aa)(CB C:Aj):Sp:=λvs H Q E=>∃(r dx p:Aj) (ns:List Int),vs=[.ref r,.ref p]/\H r=some (.ins C dx [])/\SqL K H p (ns.map V.int) /\
 (q8 ns->∀H' q,H q=none->(∀b o,H b=some o->b≠r->H' b=some o)->H' r=some (.ins C dx [("heights",.ref q)])->H' q=some (.lst (ns.map V.int))->Q .non H')/\(¬ q8 ns->E (.ref CB) none H)
include T in
theorem xzh (F:Fun K "__init__" "Road.__init__" zay f fd)(zfa:Cal P w K mg base "is_line" 1 (qzn K)):FK P w K mg base 2 f fd ["self","heights"] (qxy K qf qk):=by
 have L:=qqw;refine F.okX L (λvs H Q E h=>by obtain⟨_,_,_,_,rfl,_⟩:=h;rfl) λ_ _ _ _ H vs Q E Z h=>?_;obtain⟨r,dx,p,ns,rfl,D,J,k,x⟩:=h;refine⟨_,(qj (zd (yq (yf (qm zfa (Z.mono ⋯) rfl qu (qw (pv 1) qv)))) (qh (jg rfl T.zal vg rfl T.zeq (qw Wz qv))) xu)
   (qh (ps_fld (pv 0) (W6 Qc rfl T.list_ cK (qw (pv 1) qv)) rfl))),?_⟩
 refine⟨_,rfl,p,ns,rfl,J,λU=>(exI rfl ?_),λab=>(exI rfl ?_)⟩
 .refine yx ?_;refine exI rfl ⟨_,_,rfl,.inl J,λq z=>?_⟩;have W:upd H q (.lst (ns.map V.int)) r=some (.ins qk dx []):=by rw[qt (q9 D z)];exact D
  refine exI rfl ⟨r,qk,dx,[],rfl,W,T.cl,T.na,(by show 0<1000;decide),?_⟩;refine k U _ q z (λb o e n=>?_) upd_same ?_
  .rw[qt n,qt (q9 e z)];exact e
  .rw[qt (q9 D z).symm,upd_same]
 .refine Q2 ?_;exact⟨sz1,x ab⟩
def jk (C:Aj):Sp:=λvs H Q _=>∃(r:Aj) (ns:List Int),vs=[.ref r]/\RoadAt C H r ns/\Q (.int ((ns.length:Int)-1)) H
include T in
theorem xwj (F:Fun K "width" "Road.width" zaz f fd):FK P w K mg base 1 f fd ["self"] (jk qk):=by have z:=qz4;refine F.okX z (λvs H Q E h=>by obtain⟨_,_,rfl,_⟩:=h;rfl) λ_ _ _ _ H vs Q E D h=>?_;obtain⟨r,ns,rfl,⟨dx,q,h1,h2⟩,k⟩:=h;refine⟨_,(qh (wy (qr vw (wj xf rfl T.len_ bL (qw (qy0 (pv 0) rfl) qv)) qb))),?_⟩;refine exI rfl ⟨r,qk,dx,_,_,rfl,h1,T.cl,T.na,jt,q,exI rfl ⟨.inl (SqL.of h2),wv rfl rfl ?_⟩⟩;rw[ag];exact k
def Jq (C:Aj):Sp:=λvs H Q _=>∃(r:Aj) (ns:List Int),vs=[.ref r]/\RoadAt C H r ns/\∀p,H p=none->Q (.ref p) (upd H p (.lst (ns.map V.int)))
include T in
theorem ww5 (F:Fun K "corners" "Road.corners" za0 f fd):FK P w K mg base 1 f fd ["self"] (Jq qk):=by have z:=qqr;refine F.okX z (λvs H Q E h=>by obtain⟨_,_,rfl,_⟩:=h;rfl) λ_ _ _ _ H vs Q E D h=>?_;obtain⟨r,ns,rfl,⟨dx,q,h1,h2⟩,k⟩:=h;refine⟨_,(qh (wy (W6 Qc rfl T.list_ cK (qw (qy0 (pv 0) rfl) qv)))),?_⟩;exact exI rfl ⟨r,qk,dx,_,_,rfl,h1,T.cl,T.na,jt,q,exI rfl ⟨.inl (SqL.of h2),λp np=>k p np⟩⟩
def InW (ns:List Int)(wd:Int):Prop:=(ns.length:Int)=wd+1/\∀h∈ns,0<=h/\h<=wd
def qwy (K:Aa):Sp:=λvs H Q _=>∃(a:Aj) (ns:List Int) (i wd:Int),vs=[.ref a,.int i,.int wd]/\SqL K H a (ns.map V.int)/\0<=i/\1<=wd/\wd<=24 /\
 ∀p hs,H p=none->InW hs wd->Q (.ref p) (upd H p (.lst (hs.map V.int)))
include T in
theorem xwf (F:Fun K "_law_climb" "_law_climb" zbs f fd)(zab:Cal P w K mg base "_law_pick" 2 (Z1 K)):FK P w K mg base 3 f fd ["_law_script","_law_at","_law_wide"] (qwy K):=by
 have sc:=qz5;refine F.okX sc (λvs H Q E h=>by obtain⟨_,_,_,_,rfl,_⟩:=h;rfl) λ_ _ _ _ H vs Q E W h=>?_;obtain⟨a,ns,i,D,rfl,Z,h0,w1,w2,k⟩:=h;refine⟨_,(qj (wu (i:=3) (uk (qw (qm zab (W.mono ⋯) rfl qu (qw (pv 0) (qw (pv 1) (qw qb (qw (qr xv (pv 2) qb) qv))))) qv)))
   (qj (Qr bC rfl (xg rfl T.range_ (qw (pv 2) qv)) (wn (i:=4)) (qh (vn (qk1 cY dE dF jw (pv 3) (qw (wj (Yr rfl) rfl T.max_ eD (qw qb (qw (wj (W5 rfl) rfl T.min_ eC (qw (pv 2) (qw (qr vw (qr xv (xc zq (pv 3) (qx2 Zu qb) (λ_ _=>rfl)) (qr w8 qb (qm zab (W.mono ⋯) rfl qu (qw (pv 0) (qw (pv 1) (qw (qr xv qb (pv 4)) (qw qb qv))))))) qb) qv))) qv))) qv)))))
   (qh (wy (pv 3))))),?_⟩
 refine exI rfl (exI rfl (exI rfl (wv rfl rfl ⟨a,ns,_,_,_,rfl,Z,h0,⋯,⋯,⋯,λr1 _ l1 u1=>⟨sz1,λp np=>?_⟩⟩)));refine⟨_,rfl,D,rfl,⋯,⋯,uc (λj σ H1=>∃(ys:List Int) (l:Int) (z:Option V),ys.length=j/\(∀h∈ys++[l],0<=h/\h<=D)/\H1=upd H p (.lst ((ys++[l]).map V.int))/\σ=[some (.ref a),some (.int i),some (.int D),some (.ref p),z])
  ⟨[],r1,none,rfl,(λh J=>by have e:=aU.mp J;subst e;lia),rfl,rfl⟩ ?_ ?_⟩
 .rintro j σ H1 hj ⟨ys,l,z,hy,hb,rfl,rfl⟩;have U:upd H p (.lst ((ys++[l]).map V.int)) p=some (.lst ((ys++[l]).map V.int)):=upd_same;have ac:SqL K (upd H p (.lst ((ys++[l]).map V.int))) a (ns.map V.int):=Same.sql (Same.upd np) Z;have ab:atI ((ys++[l]).map V.int) (-1)=some (V.int l):=by rw[aR];exact Wn _ _
  have hl:=hb l (by simp);refine exI rfl ⟨.inl ⟨rfl,_,SqL.of U⟩,exI rfl (exI rfl (exI rfl (exX rfl rfl (SqL.of U) ab (exI rfl (exI rfl (exI rfl (wv rfl rfl ⟨a,ns,_,_,_,rfl,ac,h0,⋯,⋯,⋯,λL _ l2 u2=>?_⟩)))))))⟩;refine wv rfl rfl ⟨(by walk_at "mul"),wv rfl rfl (wv rfl rfl ⟨_,_,rfl,_,_,rfl,_,_,_,rfl,rfl,U,?_,?_⟩)⟩
  .rw[ag,ao,hy];have:(1000000:Nat)<sizeLine:=by decide
   simp only[aP,dS];lia
  .refine⟨ys++[l],(if(if l+2*L-1<D then l+2*L-1 else D)>0 then(if l+2*L-1<D then l+2*L-1 else D) else 0),_,by rw[ao,hy];rfl,λh J=>?_,?_,rfl⟩
   .rcases aX.mp J with J|J
    .exact hb h J
    .have e:=aU.mp J;subst e;by_cases g1:l+2*L-1<D
     .rw[ay g1];by_cases g2:l+2*L-1>0
      .rw[ay g2];lia
      .rw[ar g2];lia
     .rw[ar g1,ay (show D>0 by lia)];lia
   .rw[qyh,aR (l₁:=ys++[l])];rfl
 .rintro σ H1 ⟨ys,l,z,hy,hb,rfl,rfl⟩;refine exI rfl (k p _ np ⟨?_,hb⟩);rw[ao,hy];simp only[aP,dS];lia
def Yp (K:Aa):Sp:=λvs H Q _=>∃(a:Aj) (ns:List Int) (i m:Int),vs=[.ref a,.int i,.int m]/\SqL K H a (ns.map V.int)/\0<=i/\1<=m/\m<=24 /\
 ∀p hs wd,H p=none->1<=wd->wd<=m->InW hs wd->Q (.ref p) (upd H p (.lst (hs.map V.int)))
variable {n:Nat}
theorem wjj {wd:Int}(g:Nat->Int)(h1:(n:Int)=wd+1)(h2:∀i,i<n->0<=g i/\g i<=wd):InW ((List.range n).map g) wd:=by refine⟨by rw[ag,aE];exact h1,λh z=>?_⟩;obtain⟨i,hi,rfl⟩:=aL.mp z;exact h2 i (aq.mp hi)
theorem qz6 (n:Nat)(g:Nat->Int):(List.range n).map (λi=>V.int (g i))=((List.range n).map g).map V.int:=by rw[bp];rfl
include T in
theorem wzy (F:Fun K "_law_heights" "_law_heights" zbt f fd)(zab:Cal P w K mg base "_law_pick" 2 (Z1 K))(zfb:Cal P w K mg base "_law_climb" 3 (qwy K)) :
  FK P w K mg base 4 f fd ["_law_script","_law_at","_law_most"] (Yp K):=by
 have sc:=qqs;refine F.okX sc (λvs H Q E h=>by obtain⟨_,_,_,_,rfl,_⟩:=h;rfl) λ_ _ _ _ H vs Q E W h=>?_;obtain⟨a,ns,i,m,rfl,Z,h0,m1,m2,k⟩:=h;refine⟨_,(qj (wu (i:=3) (qr xv qb (qm zab (W.mono ⋯) rfl qu (qw (pv 0) (qw (pv 1) (qw qb (qw (pv 2) qv)))))))
   (qj (wu (i:=4) (qm zab (W.mono ⋯) rfl qu (qw (pv 0) (qw (pv 1) (qw qb (qw qb qv))))))
   (qj (zd (wg yu (pv 4) qb (wp _)) (qh (wy (vq (M:=[3]) rfl rfl (by walk_at "cap") (by walk_at "has") (by walk_at "cix") rfl (by decide +kernel) rfl (show List.Nodup (["_law_k","_law_wide"]:List Str) by decide +kernel) (xg rfl T.range_ (qw (qr xv (pv 3) qb) qv)) (λ_ _ _ _ _=>(qr w8 (pv 1) (qr ku (pv 0) qb)))))) xu)
   (qj (zd (wg yu (pv 4) qb (wp _)) (qh (wy (vq (M:=[]) rfl rfl (by walk_at "cap") (by walk_at "has") (by walk_at "cix") rfl (by decide +kernel) rfl (show List.Nodup (["_law_k"]:List Str) by decide +kernel) (xg rfl T.range_ (qw (qr xv (pv 3) qb) qv)) (λ_ _ _ _ _=>(pv 0))))) xu)
   (qj (zd (wg yu (pv 4) qb (wp _)) (qh (wy (vq (M:=[3]) rfl rfl (by walk_at "cap") (by walk_at "has") (by walk_at "cix") rfl (by decide +kernel) rfl (show List.Nodup (["_law_k","_law_wide"]:List Str) by decide +kernel) (xg rfl T.range_ (qw (qr xv (pv 3) qb) qv)) (λ_ _ _ _ _=>(qr vw (pv 1) (pv 0)))))) xu)
   (qj (zd (wg yu (pv 4) qb (wp _)) (qh (wy (vq (M:=[3]) rfl rfl (by walk_at "cap") (by walk_at "has") (by walk_at "cix") rfl (by decide +kernel) rfl (show List.Nodup (["_law_k","_law_wide"]:List Str) by decide +kernel) (xg rfl T.range_ (qw (qr xv (pv 3) qb) qv)) (λ_ _ _ _ _=>(qr ku (qr xv (qr w8 qb (pv 0)) qb) (qr xv (pv 1) qb)))))) xu)
   (qj (zd (PW.pt (Wq (wg yu (pv 4) qb (wp _)) (uj (wg yu (pv 4) qb (wp _))))) (qh (wy (qm zfb (W.mono ⋯) rfl qu (qw (pv 0) (qw (pv 1) (qw (pv 3) qv)))))) xu)
   (qh (wy (vq (M:=[0,1,3]) rfl rfl (by walk_at "cap") (by walk_at "has") (by walk_at "cix") rfl (by decide +kernel) rfl (show List.Nodup (["_law_k","_law_script","_law_at","_law_wide"]:List Str) by decide +kernel) (xg rfl T.range_ (qw (qr xv (pv 3) qb) qv)) (λ_ _ _ _ _=>(qm zab (W.mono ⋯) rfl jq (qw (pv 1) (qw (pv 2) (qw (qr xv qb (pv 0)) (qw (qr xv (pv 3) qb) qv)))))))))))))))),?_⟩
 refine exI rfl (exI rfl (exI rfl ⟨a,ns,_,_,_,rfl,Z,h0,⋯,⋯,⋯,λz _ l1 u1=>?_⟩));refine wv rfl rfl (exI rfl (exI rfl ⟨a,ns,_,_,_,rfl,Z,h0,⋯,⋯,⋯,λkd _ l2 u2=>?_⟩));have hn:((1+z+1).toNat:Int)=1+z+1:=by lia
 have L:(1+z+1).toNat<=1000000:=by lia
 have U:∀(g:Nat->Int) (p:Aj),(∀j,j<(1+z+1).toNat->0<=g j/\g j<=1+z)->H p=none->Q (.ref p) (upd H p (.lst ((List.range (1+z+1).toNat).map λj=>V.int (g j)))):=λg p hg np=>by rw[qz6];exact k p _ (1+z) np ⋯ ⋯ (wjj g hn hg)
 refine exI rfl ⟨rfl,_,rfl,u8 (λq1=>?_) (λq1=>?_)⟩
 .refine exI rfl (wv rfl rfl ⟨1+z+1,rfl,⋯,⋯,z9 (λj=>V.int ((1+z)*(((0:Int)+j)%2))) L (λj H' R D hs J=>?_) λp np=>U _ p (λj D=>?_) np⟩)
  .exact exI rfl (exI rfl (wv rfl rfl ⟨(by walk_at "pos"),wv rfl rfl ⟨(by walk_at "mul"),J⟩⟩))
  .have a1:=bF ((0:Int)+j) (show(2:Int)≠0 by decide);have a2:=bh ((0:Int)+j) (show(0:Int)<2 by decide);rcases(by lia:((0:Int)+j)%2=0\/((0:Int)+j)%2=1) with e|e <;> rw[e] <;> lia
 .refine exI rfl ⟨rfl,_,rfl,u8 (λq2=>?_) (λq2=>?_)⟩
  .refine exI rfl (wv rfl rfl ⟨1+z+1,rfl,⋯,⋯,z9 (λj=>V.int ((0:Int)+j)) L (λj H' R D hs J=>?_) λp np=>U _ p (λj D=>by lia) np⟩);exact exI rfl J
  .refine exI rfl ⟨rfl,_,rfl,u8 (λq3=>?_) (λq3=>?_)⟩
   .refine exI rfl (wv rfl rfl ⟨1+z+1,rfl,⋯,⋯,z9 (λj=>V.int (1+z-((0:Int)+j))) L (λj H' R D hs J=>?_) λp np=>U _ p (λj D=>by lia) np⟩);exact exI rfl (exI rfl (wv rfl rfl J))
   .refine exI rfl ⟨rfl,_,rfl,u8 (λq4=>?_) (λq4=>?_)⟩
    .refine exI rfl (wv rfl rfl ⟨1+z+1,rfl,⋯,⋯,z9 (λj=>V.int ((2*((0:Int)+j)+1)%(1+z+1))) L (λj H' R D hs J=>?_) λp np=>U _ p (λj D=>?_) np⟩)
     .exact exI rfl (wv rfl rfl ⟨(by walk_at "mul"),wv rfl rfl (exI rfl (wv rfl rfl (wv rfl rfl ⟨(by walk_at "pos"),J⟩)))⟩)
     .have a1:=bF (2*((0:Int)+j)+1) (show 1+z+1≠0 by lia);have a2:=bh (2*((0:Int)+j)+1) (show 0<1+z+1 by lia);lia
    .have ac:tRet (wvr [0,1,3] (iRng1 (uz (tOp (rI0 λi j=>.int (i+j)) (j5 3) (tC (.int 1))) qxp)) (qjw (Z1 K) (λ_=>E0) (uz (j5 1) (uz (j5 2) (uz (tOp (rI0 λi j=>.int (i+j)) (tC (.int 3)) (j5 0)) (uz (tOp (rI0 λi j=>.int (i+j)) (j5 3) (tC (.int 1))) qxp))))))
       { nx:=λ_ H'=>Q .non H',rt:=Q } [some (.ref a),some (.int i),some (.int m),some (.int (1+z)),some (.int kd)] H:=by
      refine exI rfl (wv rfl rfl ⟨1+z+1,rfl,⋯,⋯,z9 (λj=>V.int (wwc ns i (3+((0:Int)+j)) (1+z+1))) L (λj H' R D hs J=>?_) λp np=>U _ p (λj D=>?_) np⟩)
      .refine exI rfl (exI rfl (exI rfl (wv rfl rfl (exI rfl (wv rfl rfl ⟨a,ns,_,_,_,rfl,Same.sql hs Z,h0,⋯,⋯,⋯,λr e _ _=>?_⟩)))));rw[e];exact J
      .have a1:=xq7 ns i (3+((0:Int)+j)) (1+z+1) ⋯;have a2:=xxb ns i (3+((0:Int)+j)) (1+z+1) ⋯;lia
     have ab:tRet (qjw (qwy K) (λ_=>E) (uz (j5 0) (uz (j5 1) (uz (j5 3) qxp)))) { nx:=λ_ H'=>Q .non H',rt:=Q } [some (.ref a),some (.int i),some (.int m),some (.int (1+z)),some (.int kd)] H :=
      (exI rfl (exI rfl (exI rfl ⟨a,ns,i,1+z,rfl,Z,h0,⋯,⋯,λp hs np hw=>k p hs (1+z) np ⋯ ⋯ hw⟩)))
     refine exI rfl ⟨rfl,_,rfl,u8 (λq5=>Q2 ab) (λq5=>?_)⟩;exact exI rfl ⟨rfl,_,rfl,u8 (λq6=>ab) (λq6=>ac)⟩
def qwk:Sp:=λvs H Q _=>∃i:Int,vs=[.int i]/\Q (.bl true) H
include T in
theorem xw9 (F:Fun K "_law_whole" "_law_whole" zbw f fd):FK P w K mg base 1 f fd ["_law_found"] qwk:=by have z:=qz3;refine F.okX z (λvs H Q E h=>by obtain⟨_,rfl,_⟩:=h;rfl) λ_ _ _ _ H vs Q E D h=>?_;obtain⟨i,rfl,k⟩:=h;refine⟨_,(qh (wy (Y4 (wj jb rfl T.isinstance_ cR (qw (pv 0) (qw (Z3 (v:=V.ty "int") rfl T.int_ PyProof.Rows.boot_int rfl) qv))) (Ym (pe_not (wj jb rfl T.isinstance_ cR (qw (pv 0) (qw (Z3 (v:=V.ty "bool") rfl T.bool_ PyProof.Rows.boot_bool rfl) qv)))))))),?_⟩;refine exI rfl ⟨_,_,_,_,rfl,TyOf.int i,rfl,_,rfl,?_⟩;refine Q2 ?_;refine exI rfl ⟨_,_,_,_,rfl,TyOf.int i,rfl,_,rfl,?_⟩;exact k
def Js (K:Aa):Sp:=λvs H Q _=>∃(p:Aj) (ns:List Int),vs=[.ref p]/\H p=some (.lst (ns.map V.int))/\ns.length<=1000/\∀H',Same H H'->Q (.bl true) H'
theorem wud (ns:List Int):(ns.map λ_=>true).all id=true:=by
 induction ns with
 |nil=>rfl
 |cons a r ih=>rw[aI,List.all_cons,ih];rfl
include T in
theorem wzx (F:Fun K "_law_numbers" "_law_numbers" zb1 f fd)(zb5:Cal P w K mg base "_law_whole" 1 qwk):FK P w K mg base 2 f fd ["_law_found"] (Js K):=by
 have J:=qqt;refine F.okX J (λvs H Q E h=>by obtain⟨_,_,rfl,_⟩:=h;rfl) λ_ _ _ _ H vs Q E W h=>?_;obtain⟨p,ns,rfl,z,hn,k⟩:=h;have D:SqL K H p (ns.map V.int):=SqL.of z;refine⟨_,(qh (wy (Y4 (wj jb rfl T.isinstance_ cR (qw (pv 0) (qw (Z3 (v:=V.ty "list") rfl T.list_ cK rfl) qv))) (Ym (wj (Zq rfl) rfl T.all_ qub (qw (vq (M:=[]) rfl rfl (by walk_at "cap") (by walk_at "has") (by walk_at "cix") rfl (by decide +kernel) rfl (show List.Nodup (["_law_number"]:List Str) by decide +kernel) (zm (pv 0)) (λ_ _ _ _ _=>(qm zb5 (W.mono ⋯) rfl jq (qw (pv 0) qv)))) qv)))))),?_⟩;refine exI rfl ⟨_,_,_,_,rfl,TyOf.lst z,rfl,_,rfl,?_⟩;refine Q2 ?_;refine exI rfl ⟨p,rfl,⟨_,D⟩,?_⟩;refine Jp (K:=K) (M:=[]) (a:=p) (xs:=ns.map V.int) (λ_=>V.bl true) D (by rw[ag];lia) (λx H' R U hs Z=>?_) λq L=>?_
 .obtain⟨i,_,rfl⟩:=aL.mp U;exact exI rfl ⟨i,rfl,Z⟩
 .have e:(ns.map V.int).map (λ_=>V.bl true)=(ns.map λ_=>true).map V.bl:=by rw[bp,bp];rfl
  rw[e];refine⟨q,ns.map λ_=>true,rfl,SqL.new,?_⟩;rw[wud];exact k _ (Same.upd L)
def qwn:Sp:=λvs H Q _=>∃x y:Int,vs=[.int x,.int y]/\0<=x/\0<=y/\Q (.int (Jg x y)) H
variable {x y:Int}
theorem qu7 {tb:TS}{c:TT}{D:Ends}(hx:0<=x)(hy:0<=y)(hc:c=xzk (tOp (rI0 λi j=>.bl (decide (j<i))) (j5 1) (tC (.int 0))))(hb:tb=tPar 0 1 (uz (j5 1) (uz (tOp (rI (λ_ j=>0<j) λi j=>.int (i%j)) (j5 0) (j5 1)) qxp)))
  (hD:D.nx [some (.int (Jg x y)),some (.int 0)] H):wxj c tb D [some (.int x),some (.int y)] H:=by
 subst hc hb;refine Wg (λσ H1=>H1=H/\∃u v:Int,σ=[some (.int u),some (.int v)]/\0<=u/\0<=v/\Jg u v=Jg x y) (λσ _=>match σ with|[_,some (.int v)]=>v.toNat|_=>0) ⟨rfl,x,y,rfl,hx,hy,rfl⟩ ?_ λσ H Q Q' h ⟨v,e,i,j,e1,e2,k,e3,q⟩=>⟨v,e,i,j,e1,e2,k,e3,h _ _ q⟩;rintro σ H1 ⟨rfl,u,v,rfl,hu,hv,e⟩;refine exI rfl (wv rfl rfl (exI rfl ?_));refine jc (λq=>?_) (λq=>?_)
 .have h1:=bF u (show v≠0 by lia);have h2:=bh u q;refine exI rfl (exI rfl (exI rfl (wv rfl rfl ⟨q,_,_,rfl,⟨rfl,v,u%v,rfl,hv,h1,?_⟩,?_⟩)))
  .rw[wjr hu q,e]
  .show(u%v).toNat<v.toNat;lia
 .have z:v=0:=by lia
  subst z;rw[wj8 hu]at e;subst e;exact hD
include T in
theorem zfc (F:Fun K "common_divisor" "common_divisor" zav f fd):FK P w K mg base 1 f fd ["one","other"] qwn:=by
 have z:=Yq;refine F.okX z (λvs H Q E h=>by obtain⟨_,_,rfl,_⟩:=h;rfl) λ_ _ _ _ H vs Q E L h=>?_;obtain⟨x,y,rfl,J,D,k⟩:=h;refine⟨_,(qj (ug bC (wg Q9 (pv 1) qb (wp _)) (qh (wuv (i:=0) (j:=1) rfl z.nd rfl rfl ⋯ rfl rfl (qw (pv 1) (qw (qr ku (pv 0) (pv 1)) qv)) rfl)))
   (qh (wy (pv 0)))),?_⟩
 exact qu7 J D rfl rfl (exI rfl k)
include T in
theorem wj4 (F:Fun K "_law_common" "_law_common" zbx f fd):FK P w K mg base 1 f fd ["_law_one","_law_other"] qwn:=by
 have z:=qw4;refine F.okX z (λvs H Q E h=>by obtain⟨_,_,rfl,_⟩:=h;rfl) λ_ _ _ _ H vs Q E L h=>?_;obtain⟨x,y,rfl,J,D,k⟩:=h;refine⟨_,(qj (ug bC (wg Q9 (pv 1) qb (wp _)) (qh (wuv (i:=0) (j:=1) rfl z.nd rfl rfl ⋯ rfl rfl (qw (pv 1) (qw (qr ku (pv 0) (pv 1)) qv)) rfl)))
   (qh (wy (pv 0)))),?_⟩
 exact qu7 J D rfl rfl (exI rfl k)
def ptV (p:Int×Int):List V:=[.int p.1,.int p.2]
def Q6 (C:Aj):Sp:=λvs H Q E=>∃t b:Int,vs=[.int t,.int b]/\(1<=b->Sm 9000 b/\∀p,H p=none->Q (.ref p) (upd H p (.tup (ptV (ww t b)))))/\(b<1->E (.ref C) none H)
include T in
theorem wjn (F:Fun K "lowest" "lowest" zaw f fd)(zca:Cal P w K mg base "check_bottom" 1 (qwz qx))(zfd:Cal P w K mg base "common_divisor" 1 qwn) :
  FK P w K mg base 2 f fd ["top","bottom"] (Q6 qx):=by
 have J:=wyt;refine F.okX J (λvs H Q E h=>by obtain⟨_,_,rfl,_⟩:=h;rfl) λ_ _ _ _ H vs Q E D h=>?_;obtain⟨t,b,rfl,k,x⟩:=h;refine⟨_,(qj (vn (qm zca (D.mono ⋯) rfl qu (qw (pv 1) qv)))
   (qj (wu (i:=2) (qm zfd (D.mono ⋯) rfl qu (qw (wj Ww rfl T.abs_ Wh (qw (pv 0) qv)) (qw (pv 1) qv))))
   (qh (wy (kr (qw (qr jd (pv 0) (pv 2)) (qw (qr jd (pv 1) (pv 2)) qv))))))),?_⟩
 refine⟨_,rfl,b,rfl,λz=>?_,λz=>x z⟩;obtain⟨L,k⟩:=k z;have U:=j6 (t:=t) z;have hs:Sm 9000 (gOf t b):=L.of_le (by have:=xqs (t:=t) z;lia);refine exI rfl (exI rfl (exI rfl ⟨uu t,b,rfl,qjs t,⋯,?_⟩));refine exI rfl ⟨V.int (gOf t b),rfl,wv rfl rfl ⟨⟨⋯,hs⟩,exI rfl ⟨V.int (gOf t b),rfl,wv rfl rfl ⟨⟨⋯,hs⟩,sz2,λp n=>?_⟩⟩⟩⟩;exact k p n
def qwb (K:Aa):Sp:=λvs H Q _=>∃p x y,vs=[.ref p]/\H p=some (.tup [.int x,.int y])/\1<=y/\gOf x y=1/\Q (.bl true) H
include T in
theorem xzq (F:Fun K "_law_point" "_law_point" zbz f fd)(zb5:Cal P w K mg base "_law_whole" 1 qwk)(zcb:Cal P w K mg base "_law_common" 1 qwn) :
  FK P w K mg base 2 f fd ["_law_found"] (qwb K):=by
 have U:=qv3;refine F.okX U (λvs H Q E h=>by obtain⟨_,_,_,rfl,_⟩:=h;rfl) λ_ _ _ _ H vs Q E D h=>?_;obtain⟨p,x,y,rfl,L,Z,W,k⟩:=h;have z:SqT K H p [.int x,.int y]:=SqT.of L;refine⟨_,(qj (zd (PW.pt (Wq (yq (yf (wj jb rfl T.isinstance_ cR (qw (pv 0) (qw (Z3 (v:=V.ty "tuple") rfl T.tuple_ PyProof.Rows.boot_tuple rfl) qv))))) (uj (wg op_ne (wj xf rfl T.len_ bL (qw (pv 0) qv)) qb (wp _))))) (qh (wy Yb)) xu)
   (qj (zd (PW.pt (Wq (yq (yf (qm zb5 (D.mono ⋯) rfl qu (qw (xc kh (pv 0) qb (λ_ _=>rfl)) qv)))) (Wq (yq (yf (qm zb5 (D.mono ⋯) rfl qu (qw (xc kh (pv 0) qb (λ_ _=>rfl)) qv)))) (uj (wg Zv (xc kh (pv 0) qb (λ_ _=>rfl)) qb (wp _)))))) (qh (wy Yb)) xu)
   (qh (wy (W3 yu (qm zcb (D.mono ⋯) rfl qu (qw (wj Ww rfl T.abs_ Wh (qw (xc kh (pv 0) qb (λ_ _=>rfl)) qv)) (qw (xc kh (pv 0) qb (λ_ _=>rfl)) qv))) qb (wp _)))))),?_⟩
 refine exI rfl ⟨_,_,_,_,rfl,TyOf.tup L,rfl,_,rfl,?_⟩;refine yx ?_;refine exI rfl ⟨_,_,rfl,.inr z,rfl,_,rfl,?_⟩;refine yx ?_;refine exI rfl (exX rfl rfl z rfl ⟨x,rfl,_,rfl,?_⟩);refine yx ?_;refine exI rfl (exX rfl rfl z rfl ⟨y,rfl,_,rfl,?_⟩);refine yx ?_;refine exI rfl (exX rfl rfl z rfl (wv rfl rfl (exI rfl ?_)));refine jc (λJ=>absurd J ⋯) (λJ=>?_);refine exI rfl (exX rfl rfl z rfl (exI rfl (exI rfl (exX rfl rfl z rfl ⟨uu x,y,rfl,qjs x,⋯,rfl,?_⟩))));have e:Jg (uu x) y=1:=W;rw[e];exact k
variable {hs:List Int}
theorem xkj {wd:Int}(h:InW hs wd)(w1:1<=wd)(w2:wd<=24):q8 hs:=by refine⟨by have:=h.1;lia,by have:=h.1;lia,λx hx=>?_⟩;have h1:=h.1;have h2:=h.2 x hx;lia
theorem wys {x dx:Aj}(nx:H x=none)(nd:H dx=none)(h:∀b o,upd (upd H dx (.own x)) x (.ins C dx []) b=some o->b≠x->H' b=some o):Same H H':=λb o e =>
 h b o (by rw[qt (q9 e nx),qt (q9 e nd)];exact e) (q9 e nx)
variable {o:HO}
theorem Same.upd2 {p:Aj}(s:Same H H')(n:H p=none):Same H (L2.upd H' p o):=λb u e=>by rw[qt (q9 e n)];exact s b u e
theorem wqb {p:Aj}{q:Int×Int}(h:SqT K H p [.int q.1,.int q.2]):RD K H (ptD q) (.ref p):=by unfold ptD;rw[RD];exact⟨p,exI rfl ⟨h,by rw[RDs];exact⟨_,_,rfl,by rw[RD],by rw[RDs];exact⟨_,_,rfl,by rw[RD],by rw[RDs]⟩⟩⟩⟩
variable {p:Int×Int}
theorem xwm {q:Int×Int}:min (ptD p).depth (ptD q).depth<=60:=by simp[ptD,PyData.depth,PyData.depthAll]
variable {b:Int}
theorem jh {d:Int}(hb:1<=b)(hd:1<=d):x*d=y*b↔ww x b=ww y d:=by
 constructor
 .intro e;rw[<-qwu (t:=x) hb hd,e,bu b d,qwu hd hb]
 .intro e;have D:=zt (t:=x) hb;have z:=zt (t:=y) hd;have L:=zy (t:=x) hb;rw[<-e]at z;have h:x*d*(ww x b).2=y*b*(ww x b).2:=by
   have J:x*d*(ww x b).2=x*(ww x b).2*d:=by grind
   have F:y*b*(ww x b).2=y*(ww x b).2*b:=by grind
   rw[J,F,<-D,<-z];grind
  exact de ⋯ h
theorem wkj {CB:Aj}{p x dx:Aj}{Pp:Hp->Prop}{E:XK}(f:H p=some (.lst (hs.map V.int)))(nx:H x=none)(nd:H dx=none)(k:q8 hs->∀H',Same H H'->RoadAt C H' x hs->Pp H')(bad:¬ q8 hs->∀H',Same H H'->E (.ref CB) none H') :
  qxy K CB C [.ref x,.ref p] (upd (upd H dx (.own x)) x (.ins C dx [])) (λr H2=>r=.non/\Pp H2) E:=by
 refine⟨x,dx,p,hs,rfl,upd_same,SqL.of (by rw[qt (q9 f nx),qt (q9 f nd)];exact f),λD J q L F r l=>⟨rfl,k D J (wys nx nd F) ⟨dx,q,r,l⟩⟩,λz=>bad z _ ?_⟩;exactλb o e=>by rw[qt (q9 e nx),qt (q9 e nd)];exact e
variable {k:Int}
theorem wwp (h0:0<=k)(h1:k<hs.length):atI (hs.map V.int) k=some (V.int (hAt hs k)):=qwv h0 h1
theorem qk3 (ok:q8 hs)(k:Int):0<=hAt hs k/\hAt hs k<=24:=by
 unfold hAt;rw[af];cases e:hs[k.toNat]? with
 |none=>exact⟨⋯,⋯⟩
 |some v =>
  have hm:=ok.2.2 v (aF e);have:=ok.2.1;show 0<=v/\v<=24;lia
def Zh (C CR:Aj):Sp:=λvs H Q E=>∃(r:Aj) (hs:List Int) (k:Int),vs=[.ref r,.int k]/\RoadAt C H r hs/\(0<=k->k<(hs.length:Int)-1->∀p,H p=none->Q (.ref p) (upd H p (.tup [.int (hAt hs k),.int (hAt hs (k+1))]))) /\
 (k<0\/(hs.length:Int)-1<=k->E (.ref CR) none H)
include T in
theorem xvk (F:Fun K "ends" "Road.ends" za1 f fd)(zaa:MCal P w K mg base qk "width" 1 (jk qk)):FK P w K mg base 2 f fd ["self","stretch"] (Zh qk qg):=by
 have L:=qyt;refine F.okX L (λvs H Q E h=>by obtain⟨_,_,_,rfl,_⟩:=h;rfl) λ_ _ _ _ H vs Q E W h=>?_;obtain⟨r,hs,k,rfl,J,U,x⟩:=h;obtain⟨dx,q,h1,h2⟩:=id J;refine⟨_,(qj (zd (PW.pt (Wq (wg Zv (pv 1) qb (wp _)) (uj (wg wz9 (pv 1) (vk (pv 0) T.cl zaa (W.mono ⋯) qu) (wp _))))) (qh (jg rfl T.zat vg rfl T.ze8 (qw Wz qv))) xu)
   (qh (wy (kr (qw (xc zq (qy0 (pv 0) rfl) (pv 1) (λ_ _=>rfl)) (qw (xc zq (qy0 (pv 0) rfl) (qr xv (pv 1) qb) (λ_ _=>rfl)) qv)))))),?_⟩
 refine exI rfl (wv rfl rfl (exI rfl ?_));refine jc (λD=>?_) (λD=>?_)
 .refine Q2 ?_;exact⟨sz1,x (.inl D)⟩
 .refine exI rfl (exI rfl ⟨r,dx,exI rfl ⟨h1,xq (by decide +kernel),r,hs,rfl,J,wv rfl rfl (exI rfl ?_)⟩⟩);refine jc (λz=>?_) (λz=>?_)
  .exact⟨sz1,x (.inr z)⟩
  .refine exI rfl ⟨r,qk,dx,_,_,rfl,h1,T.cl,T.na,jt,exI rfl (exX rfl rfl (SqL.of h2) (wwp ⋯ ⋯) (exI rfl ⟨r,qk,dx,_,_,rfl,h1,T.cl,T.na,jt,exI rfl (wv rfl rfl (exX rfl rfl (SqL.of h2) (wwp ⋯ ⋯) ⟨sz2,λp np=>?_⟩))⟩))⟩;exact U ⋯ ⋯ p np
def xw (hs:List Int)(t b:Int):Prop:=0<=t/\t<=((hs.length:Int)-1)*b
def Qz (K:Aa)(C CB CO:Aj):Sp:=λvs H Q E=>∃(r p:Aj) (hs:List Int) (t b:Int),vs=[.ref r,.ref p]/\RoadAt C H r hs/\q8 hs/\SqT K H p [.int t,.int b] /\
 (1<=b->Sm 8000 b/\(xw hs t b->∀q H',Same H H'->H' q=some (.tup (ptV (ww t b)))->Q (.ref q) H')/\(¬ xw hs t b->∀H',Same H H'->E (.ref CO) none H'))/\(b<1->E (.ref CB) none H)
include T in
theorem wzk (F:Fun K "on_road" "Road.on_road" za4 f fd)(zaa:MCal P w K mg base qk "width" 1 (jk qk))(zan:Cal P w K mg base "lowest" 2 (Q6 qx)) :
  FK P w K mg base 3 f fd ["self","point"] (Qz K qk qx qc):=by
 have sc:=qqf;refine F.okX sc (λvs H Q E h=>by obtain⟨_,_,_,_,_,rfl,_⟩:=h;rfl) λ_ _ _ _ H vs Q E hr h=>?_;obtain⟨r,p,hs,t,b,rfl,hR,ab,hp,Z,x⟩:=h;obtain⟨dx,q,h1,h2⟩:=id hR;refine⟨_,(qj (jz (qm zan (hr.mono ⋯) rfl qu (qw (xc kh (pv 1) qb (λ_ _=>rfl)) (qw (xc kh (pv 1) qb (λ_ _=>rfl)) qv))) (kg rfl (xk (wn (i:=2)) (xk (wn (i:=3)) vj))))
   (qj (zd (PW.pt (Wq (wg Zv (pv 2) qb (wp _)) (uj (wg Q9 (pv 2) (qr w8 (vk (pv 0) T.cl zaa (hr.mono ⋯) qu) (pv 3)) (wp _))))) (qh (jg rfl T.zar vg rfl T.ze6 (qw Wz qv))) xu)
   (qh (wy (kr (qw (pv 2) (qw (pv 3) qv))))))),?_⟩
 refine⟨_,rfl,_,_,_,_,rfl,rfl,hp,rfl,_,rfl,_,_,_,_,rfl,rfl,hp,rfl,t,b,rfl,λD=>⟨(Z D).1.mono ⋯,λW n1=>?_⟩,λz=>x z⟩;obtain⟨sb,k1,k2⟩:=Z D;have J:Same H (upd H W (.tup (ptV (ww t b)))):=Same.upd n1;have hl:=ab.2.1;refine⟨W,exI rfl ⟨SqT.new,rfl,_,_,rfl,_,_,rfl,rfl,?_⟩⟩;refine exI rfl (wv rfl rfl (exI rfl ?_));refine jc (λU=>?_) (λU=>?_)
 .refine Q2 ?_;exact⟨sz1,k2 (λz=>by have:=(qq7 D).mp U;have:=z.1;lia) _ J⟩
 .refine exI rfl (exI rfl ⟨r,dx,exI rfl ⟨J _ _ h1,xq (by decide +kernel),r,hs,rfl,hR.same J,exI rfl (wv rfl rfl ⟨IntMulOk.of_left (intBits_le_64 ⋯ ⋯),wv rfl rfl (exI rfl ?_)⟩)⟩⟩);refine jc (λL=>?_) (λL=>?_)
  .exact⟨sz1,k2 (λz=>by have:=(wz0 D).mp L;have:=z.2;lia) _ J⟩
  .refine exI rfl (exI rfl ⟨sz2,λp2 n2=>?_⟩);refine k1 ⟨?_,?_⟩ p2 _ (J.trans (Same.upd n2)) upd_same
   .rcases cP t 0 with z|z
    .exact absurd ((qq7 D).mpr z) U
    .exact z
   .rcases cP (((hs.length:Int)-1)*b) t with z|z
    .exact absurd ((wz0 D).mpr z) L
    .exact z
def spAt (K:Aa)(C CB CO:Aj):Sp:=λvs H Q E=>∃(r p:Aj) (hs:List Int) (t b:Int),vs=[.ref r,.ref p]/\RoadAt C H r hs/\q8 hs/\SqT K H p [.int t,.int b] /\
 (1<=b->Sm 8000 b/\(xw hs t b->∀q H',Same H H'->H' q=some (.tup (ptV (Wp hs t b)))->Q (.ref q) H')/\(¬ xw hs t b->∀H',Same H H'->E (.ref CO) none H'))/\(b<1->E (.ref CB) none H)
include T in
theorem zfe (F:Fun K "at" "Road.at" za5 f fd)(zaa:MCal P w K mg base qk "width" 1 (jk qk))(zan:Cal P w K mg base "lowest" 2 (Q6 qx))(zae:MCal P w K mg base qk "ends" 2 (Zh qk qg))
  (zak:MCal P w K mg base qk "on_road" 3 (Qz K qk qx qc)):FK P w K mg base 4 f fd ["self","point"] (spAt K qk qx qc):=by
 have sc:=wz6;refine F.okX sc (λvs H Q E h=>by obtain⟨_,_,_,_,_,rfl,_⟩:=h;rfl) λ_ _ _ _ H vs Q E U h=>?_;obtain⟨r,p,hs,t,b,rfl,W,L,hp,Z,x⟩:=h;obtain⟨dx,q,h1,h2⟩:=id W;refine⟨_,(qj (jz (zg (pv 0) T.cl zak (U.mono ⋯) qu (qw (pv 1) qv)) (kg rfl (xk (wn (i:=2)) (xk (wn (i:=3)) vj))))
   (qj (wu (i:=4) (wj (W5 rfl) rfl T.min_ eC (qw (qr jd (pv 2) (pv 3)) (qw (qr vw (vk (pv 0) T.cl zaa (U.mono ⋯) qu) qb) qv))))
   (qj (jz (zg (pv 0) T.cl zae (U.mono ⋯) qu (qw (pv 4) qv)) (kg rfl (xk (wn (i:=5)) (xk (wn (i:=6)) vj))))
   (qj (wu (i:=7) (qr vw (pv 2) (qr w8 (pv 4) (pv 3))))
   (qh (wy (qm zan (U.mono ⋯) rfl qu (qw (qr xv (qr w8 (pv 5) (pv 3)) (qr w8 (qr vw (pv 6) (pv 5)) (pv 7))) (qw (pv 3) qv))))))))),?_⟩
 refine⟨_,rfl,r,dx,_,rfl,h1,xq (by decide +kernel),_,rfl,r,p,hs,t,b,rfl,W,L,hp,λJ=>⟨(Z J).1,λab p1 H1 D f1=>?_,λac H1 D=>(Z J).2.2 ac H1 D⟩,λz=>x z⟩;obtain⟨sb,k1,k2⟩:=Z J;have ad:=L.1;have ap:=L.2.1;have hy:=zy (t:=t) J;have an:=Q7 (t:=t) J;have hx:0<=(ww t b).1:=by
  rcases cP (ww t b).1 0 with z|z
  .have:=(qq7 J).mp z;have:=ab.1;lia
  .exact z
 have hk:=xxs (hs:=hs) ad hy hx;have sy:Sm 9000 (ww t b).2:=(sb.of_le ⋯).mono ⋯;refine⟨p1,exI rfl ⟨SqT.of f1,rfl,_,_,rfl,_,_,rfl,rfl,?_⟩⟩;refine exI rfl (exI rfl (wv rfl rfl ⟨⟨⋯,sy⟩,exI rfl ⟨r,dx,exI rfl ⟨D _ _ h1,xq (by decide +kernel),r,hs,rfl,W.same D,wv rfl rfl ⟨_,_,rfl,?_⟩⟩⟩⟩));refine⟨_,rfl,r,dx,_,rfl,D _ _ h1,xq (by decide +kernel),V.int (kF hs (ww t b).1 (ww t b).2),rfl,r,hs,kF hs (ww t b).1 (ww t b).2,rfl,W.same D,λ_ _ p2 n2=>?_,λz=>absurd z ⋯⟩;have g1:=qk3 L (kF hs (ww t b).1 (ww t b).2);have g2:=qk3 L (kF hs (ww t b).1 (ww t b).2+1);refine⟨p2,exI rfl ⟨SqT.new,rfl,_,_,rfl,_,_,rfl,rfl,?_⟩⟩;refine exI rfl ⟨V.int (kF hs (ww t b).1 (ww t b).2),rfl,exI rfl (wv rfl rfl ⟨IntMulOk.of_left (intBits_le_64 ⋯ ⋯),wv rfl rfl ?_⟩)⟩;refine exI rfl (exI rfl (wv rfl rfl ⟨IntMulOk.of_left (intBits_le_64 ⋯ ⋯),exI rfl (exI rfl (wv rfl rfl (exI rfl (wv rfl rfl ⟨IntMulOk.of_left (intBits_le_64 ⋯ ⋯),wv rfl rfl (exI rfl ?_)⟩))))⟩));refine⟨zw hs (ww t b).1 (ww t b).2,(ww t b).2,rfl,λ_=>⟨sy,λp3 n3=>?_⟩,λz=>absurd z ⋯⟩;have e:ww (zw hs (ww t b).1 (ww t b).2) (ww t b).2=Wp hs t b:=qkv J;rw[e];exact k1 ab p3 _ (D.trans ((Same.upd n2).trans (Same.upd n3))) upd_same
def yn (a b:Int):Int:=if b<a then b else a
def ym (a b:Int):Int:=if b>a then b else a
variable {a:Int}
theorem xjx:yn a b<=a/\yn a b<=b/\(yn a b=a\/yn a b=b):=by unfold yn;split <;> lia
theorem xkn:a<=ym a b/\b<=ym a b/\(ym a b=a\/ym a b=b):=by unfold ym;split <;> lia
def loH (hs:List Int)(k:Int):Int:=yn (hAt hs k) (hAt hs (k+1))
def hiH (hs:List Int)(k:Int):Int:=ym (hAt hs k) (hAt hs (k+1))
def qwf (C CR:Aj):Sp:=λvs H Q E=>∃(r:Aj) (hs:List Int) (k:Int),vs=[.ref r,.int k]/\RoadAt C H r hs/\(0<=k->k<(hs.length:Int)-1->∀H',Same H H'->Q (.int (hAt hs (k+1)-hAt hs k)) H') /\
 (k<0\/(hs.length:Int)-1<=k->E (.ref CR) none H)
include T in
theorem xqu (F:Fun K "slope" "Road.slope" za2 f fd)(zae:MCal P w K mg base qk "ends" 2 (Zh qk qg)):FK P w K mg base 3 f fd ["self","stretch"] (qwf qk qg):=by
 have J:=qvr;refine F.okX J (λvs H Q E h=>by obtain⟨_,_,_,rfl,_⟩:=h;rfl) λ_ _ _ _ H vs Q E U h=>?_;obtain⟨r,hs,k,rfl,D,L,x⟩:=h;obtain⟨dx,q,h1,h2⟩:=id D;refine⟨_,(qj (jz (zg (pv 0) T.cl zae (U.mono ⋯) qu (qw (pv 1) qv)) (kg rfl (xk (wn (i:=2)) (xk (wn (i:=3)) vj))))
   (qh (wy (qr vw (pv 3) (pv 2))))),?_⟩
 refine⟨_,rfl,r,dx,_,rfl,h1,xq (by decide +kernel),V.int k,rfl,r,hs,k,rfl,D,λa b p n=>?_,λz=>x z⟩;refine⟨p,exI rfl ⟨SqT.new,rfl,_,_,rfl,_,_,rfl,rfl,?_⟩⟩;exact exI rfl (exI rfl (wv rfl rfl (L a b _ (Same.upd n))))
def qjx (C CR:Aj):Sp:=λvs H Q E=>∃(r:Aj) (hs:List Int) (k:Int),vs=[.ref r,.int k]/\RoadAt C H r hs/\(0<=k->k<(hs.length:Int)-1->∀p H',Same H H'->H' p=some (.tup [.int (loH hs k),.int (hiH hs k)])->Q (.ref p) H') /\
 (k<0\/(hs.length:Int)-1<=k->E (.ref CR) none H)
include T in
theorem xww (F:Fun K "reach" "Road.reach" za3 f fd)(zae:MCal P w K mg base qk "ends" 2 (Zh qk qg)):FK P w K mg base 3 f fd ["self","stretch"] (qjx qk qg):=by
 have J:=qv2;refine F.okX J (λvs H Q E h=>by obtain⟨_,_,_,rfl,_⟩:=h;rfl) λ_ _ _ _ H vs Q E W h=>?_;obtain⟨r,hs,k,rfl,D,U,x⟩:=h;obtain⟨dx,q,h1,h2⟩:=id D;refine⟨_,(qj (jz (zg (pv 0) T.cl zae (W.mono ⋯) qu (qw (pv 1) qv)) (kg rfl (xk (wn (i:=2)) (xk (wn (i:=3)) vj))))
   (qh (wy (kr (qw (wj (W5 rfl) rfl T.min_ eC (qw (pv 2) (qw (pv 3) qv))) (qw (wj (Yr rfl) rfl T.max_ eD (qw (pv 2) (qw (pv 3) qv))) qv)))))),?_⟩
 refine⟨_,rfl,r,dx,_,rfl,h1,xq (by decide +kernel),V.int k,rfl,r,hs,k,rfl,D,λa b p n=>?_,λz=>x z⟩;refine⟨p,exI rfl ⟨SqT.new,rfl,_,_,rfl,_,_,rfl,rfl,?_⟩⟩;refine exI rfl (exI rfl ⟨_,_,rfl,exI rfl (exI rfl ⟨_,_,rfl,sz2,λp2 L=>?_⟩)⟩);exact U a b p2 _ ((Same.upd n).trans (Same.upd L)) upd_same
theorem wxm (ok:q8 hs)(k:Int):0<=loH hs k/\loH hs k<=hiH hs k/\hiH hs k<=(hs.length:Int)-1:=by
 have g:∀j,0<=hAt hs j/\hAt hs j<=(hs.length:Int)-1:=λj=>by
  unfold hAt;rw[af];have l:=ok.1;cases e:hs[j.toNat]? with
  |none=>exact⟨⋯,by show(0:Int)<=_;lia⟩
  |some v=>exact ok.2.2 v (aF e)
 have a:=g k;have b:=g (k+1);have c:=xjx (a:=hAt hs k) (b:=hAt hs (k+1));have d:=xkn (a:=hAt hs k) (b:=hAt hs (k+1));unfold loH hiH;lia
def jr (hs:List Int)(k:Int):List Int:=(List.range (hiH hs k-loH hs k).toNat).map λj:Nat=>loH hs k+j
theorem xwv (hs:List Int)(k:Int):((List.range (hiH hs k-loH hs k).toNat).map λj:Nat=>V.int (loH hs k+j))=(jr hs k).map V.int:=by unfold jr;rw[bp];rfl
def Jx (C CR:Aj):Sp:=λvs H Q E=>∃(r:Aj) (hs:List Int) (k:Int),vs=[.ref r,.int k]/\RoadAt C H r hs/\q8 hs/\(0<=k->k<(hs.length:Int)-1->∀p H',H p=none->Same H H'->H' p=some (.lst ((jr hs k).map V.int))->Q (.ref p) H') /\
 (k<0\/(hs.length:Int)-1<=k->E (.ref CR) none H)
include T in
theorem wx5 (F:Fun K "covered" "covered" zbc f fd)(zff:MCal P w K mg base qk "reach" 3 (qjx qk qg)):FK P w K mg base 4 f fd ["road","stretch"] (Jx qk qg):=by
 have W:=wzr;refine F.okX W (λvs H Q E h=>by obtain⟨_,_,_,rfl,_⟩:=h;rfl) λ_ _ _ _ H vs Q E hr h=>?_;obtain⟨r,hs,k,rfl,U,L,Z,x⟩:=h;obtain⟨dx,q,h1,h2⟩:=id U;refine⟨_,(qj (jz (zg (pv 0) T.cl zff (hr.mono ⋯) qu (qw (pv 1) qv)) (kg rfl (xk (wn (i:=2)) (xk (wn (i:=3)) vj))))
   (qh (wy (qvf rfl rfl T.list_ rfl T.range_ (qw (pv 2) (qw (pv 3) qv)))))),?_⟩
 refine⟨_,rfl,r,dx,_,rfl,h1,xq (by decide +kernel),V.int k,rfl,r,hs,k,rfl,U,λa b p H1 J f1=>?_,λz=>x z⟩;have hl:=wxm L k;have ol:=L.2.1;refine⟨p,exI rfl ⟨SqT.of f1,rfl,_,_,rfl,_,_,rfl,rfl,?_⟩⟩;refine⟨_,rfl,_,rfl,_,_,rfl,⟨⋯,⋯,⋯,⋯⟩,⋯,λp2 D=>?_⟩;refine Z a b p2 _ ?_ (J.trans (Same.upd D)) (by rw[upd_same,xwv]);cases e:H p2 with
 |none=>rfl
 |some o=>rw[J _ _ e]at D;cases D
theorem wxc (ok:q8 hs)(k:Int):0<=hAt hs k/\hAt hs k<=(hs.length:Int)-1:=by
 unfold hAt;rw[af];have:=ok.1;cases e:hs[k.toNat]? with
 |none=>exact⟨⋯,by show(0:Int)<=_;lia⟩
 |some v=>exact ok.2.2 v (aF e)
theorem qjj {t:Int}(hok:q8 hs)(hb:1<=b)(hon:xw hs t b):xw hs (zw hs t b) b:=by
 have F:=hok.1;have J:=xxs (hs:=hs) F hb hon.1;have Z:=wxc hok (kF hs t b);have W:=wxc hok (kF hs t b+1);have D:0<=t-kF hs t b*b/\t-kF hs t b*b<=b:=by
  have h1:t/b*b<=t:=eI t ⋯;have h2:=dR t (show 0<b by lia);unfold kF;split
  .next z =>
   have U:=am (show(hs.length:Int)-1-1<=t/b by lia) (show 0<=b by lia);have L:=hon.2;constructor
   .lia
   .have:((hs.length:Int)-1)*b=((hs.length:Int)-1-1)*b+b:=by grind
    lia
  .have:(t/b+1)*b=t/b*b+b:=by grind
   constructor <;> lia
 have r:=wut (u:=hAt hs (kF hs t b)) (v:=hAt hs (kF hs t b+1)) D.1 D.2;refine⟨cS ?_ r.1,cS r.2 ?_⟩
 .refine cA ?_ ⋯;split <;> lia
 .refine am ?_ ⋯;split <;> lia
theorem qjk {t:Int}(hb:1<=b)(hon:xw hs t b):xw hs (ww t b).1 (ww t b).2:=by
 constructor
 .rcases cP (ww t b).1 0 with z|z
  .have:=(qq7 hb).mp z;have:=hon.1;lia
  .exact z
 .rcases cP (((hs.length:Int)-1)*(ww t b).2) (ww t b).1 with z|z
  .have:=(wz0 hb).mp z;have:=hon.2;lia
  .exact z
def itP (hs:List Int)(p:Int×Int):Nat->Int×Int
 |0=>p
 |n+1=>Wp hs (itP hs p n).1 (itP hs p n).2
def Pt (hs:List Int)(c:Int)(p:Int×Int):Prop:=1<=p.2/\p.2<=c/\gOf p.1 p.2=1/\xw hs p.1 p.2
theorem qzd {t:Int}(hb:1<=b)(hon:xw hs t b):Pt hs b (ww t b):=⟨zy hb,Q7 hb,Qh hb,qjk hb hon⟩
variable {c:Int}
theorem xv0 (hok:q8 hs)(h:Pt hs c p):Pt hs c (Wp hs p.1 p.2):=by have a:=qzd h.1 (qjj hok h.1 h.2.2.2);exact⟨a.1,cS a.2.1 h.2.1,a.2.2.1,a.2.2.2⟩
theorem xxj (hok:q8 hs)(h:Pt hs c p):∀n,Pt hs c (itP hs p n)
 |0=>h
 |n+1=>xv0 hok (xxj hok h n)
def trT (hs:List Int)(t b:Int):Nat->Int
 |0=>t
 |n+1=>zw hs (trT hs t b n) b
theorem Ys {t:Int}(hok:q8 hs)(hb:1<=b)(hon:xw hs t b):∀n,xw hs (trT hs t b n) b
 |0=>hon
 |n+1=>qjj hok hb (Ys hok hb hon n)
theorem Qg {t:Int}(hb:1<=b):∀n,ww (trT hs t b n) b=itP hs (ww t b) n
 |0=>rfl
 |n+1=>by show Wp hs (trT hs t b n) b=Wp hs (itP hs (ww t b) n).1 (itP hs (ww t b) n).2;rw[<-Qg hb n,qkv hb]
def qzj (hs:List Int)(p:Int×Int)(n:Nat):List (Int×Int):=(List.range n).map (itP hs p)
theorem qqz (hs:List Int)(p:Int×Int)(n:Nat):qzj hs p (n+1)=qzj hs p n++[itP hs p n]:=by unfold qzj;rw[bK,aR];rfl
theorem yg (hs:List Int)(p:Int×Int)(n:Nat):(qzj hs p n).length=n:=by unfold qzj;rw[ag,aE]
def PtR (H:Hp)(v:V)(p:Int×Int):Prop:=∃a,v=.ref a/\H a=some (.tup [.int p.1,.int p.2])
variable {v:V}
theorem PtR.same (h:PtR H v p)(s:Same H H'):PtR H' v p:=by obtain⟨a,e,f⟩:=h;exact⟨a,e,s _ _ f⟩
theorem PtR.upd {xs:List V}(h:PtR H v p)(hq:H q=some (.lst xs)):PtR (L2.upd H q o) v p:=by obtain⟨a,e,f⟩:=h;refine⟨a,e,?_⟩;rw[qt (λz=>by rw[z,hq]at f;cases f)];exact f
variable {α β:Type}
theorem qxk {F G:α->β->Prop}(h:∀a b,F a b->G a b):∀ {l:List α} {m:List β},Paired F l m->Paired G l m
 |_,_,.nil=>.nil
 |_,_,.cons a t=>.cons (h _ _ a) (qxk h t)
theorem Wm {F:α->β->Prop}:∀ {l:List α} {m:List β} {i:Nat} {a:α},Paired F l m->l[i]?=some a->∃b,m[i]?=some b/\F a b
 |_,_,0,_,.cons a _,e=>by cases e;exact exI rfl a
 |_,_,i+1,_,.cons _ t,e=>Wm (i:=i) t e
theorem uf {F:α->β->Prop}:∀ {l:List α} {m:List β} {i:Nat} {b:β},Paired F l m->m[i]?=some b->∃a,l[i]?=some a/\F a b
 |_,_,0,_,.cons a _,e=>by cases e;exact exI rfl a
 |_,_,i+1,_,.cons _ t,e=>uf (i:=i) t e
theorem wqh {F:α->β->Prop}:∀ {l:List α} {m:List β} {a:α},Paired F l m->a∈l->∃b,b∈m/\F a b
 |_,_,_,.cons a t,e=>by
  rcases aM.mp e with rfl|e
  .exact⟨_,.head _,a⟩
  .obtain⟨b,hb,fb⟩:=wqh t e;exact⟨b,.tail _ hb,fb⟩
def PtsAt (H:Hp)(q:Aj)(ps:List (Int×Int)):Prop:=∃vs,H q=some (.lst vs)/\Paired (PtR H) vs ps
theorem xwp:∀ {vs:List V} {ps:List (Int×Int)},Paired (PtR H) vs ps->RDs K H (ps.map ptD) vs
 |_,_,.nil=>by rw[da,RDs]
 |_,_,.cons a t=>by obtain⟨p,rfl,f⟩:=a;rw[aI,RDs];exact⟨_,_,rfl,wqb (SqT.of f),xwp t⟩
variable {ps:List (Int×Int)}
theorem PtsAt.rd (h:PtsAt H q ps):RD K H (.list (ps.map ptD)) (.ref q):=by obtain⟨vs,f,r⟩:=h;rw[RD];exact⟨q,exI rfl ⟨SqL.of f,xwp r⟩⟩
theorem wkq (ps:List (Int×Int)):(PyData.list (ps.map ptD)).canLay0=true:=by rw[PyData.canLay0];exact wk2 ps
theorem xvz (ps qs:List (Int×Int)):min (PyData.list (ps.map ptD)).depth (PyData.list (qs.map ptD)).depth<=60:=by have h1:=wvw ps;simp only[PyData.depth];lia
theorem xvr (ps:List (Int×Int)):PyData.eqv (.list (ps.map ptD)) (.list (ps.map ptD))=true:=by rw[PyData.eqv,wvm,aS rfl]
theorem Zn (k:Nat)(hk:0<k)(g:Nat->Nat->α):∀w:Nat,((List.range w).map λi=>(List.range k).map (g i)).flatten=(List.range (w*k)).map λt=>g (t/k) (t%k)
 |0=>by simp
 |w+1=>by rw[bK,aR,dX,Zn k hk g w,iu,List.range_add,aR,bp];congr 1;show(List.map (g w) (List.range k)++[])=_;rw[bP];refine cu λj hj=>?_;have hj':=aq.mp hj;show g w j=g ((w*k+j)/k) ((w*k+j)%k);rw[iq w k,Nat.mul_add_div hk,Nat.div_eq_of_lt hj',Nat.mul_add_mod,dB hj',gJ]
def xt (hs:List Int)(m:Int):List Int:=(List.range ((hs.length-1)*m.toNat+1)).map λt:Nat=>zw hs t m
theorem Wf (hs:List Int)(m:Int):(xt hs m).length=(hs.length-1)*m.toNat+1:=by unfold xt;rw[ag,aE]
variable {m:Int}
theorem fin_at (h2:2<=hs.length)(hm:1<=m){t:Nat}(ht:t<(hs.length-1)*m.toNat) :
  zw hs t m=m*hAt hs ((0:Int)+(t/m.toNat:Nat))+(hAt hs ((0:Int)+(t/m.toNat:Nat)+1)-hAt hs ((0:Int)+(t/m.toNat:Nat)))*((0:Int)+(t%m.toNat:Nat)):=by
 have J:0<m.toNat:=by lia
 have d:=jN t m.toNat;have F:=eN t J;have U:t/m.toNat<hs.length-1:=Nat.div_lt_of_lt_mul (by rw[iq];exact ht);have L:((m.toNat:Nat):Int)=m:=by lia
 have z:(t:Int)=m*(t/m.toNat:Nat)+(t%m.toNat:Nat):=by rw[<-L];exact_mod_cast d.symm
 have D:((t%m.toNat:Nat):Int)<m:=by lia
 generalize t/m.toNat=q at d U z ⊢;generalize t%m.toNat=r at d F z D ⊢;rw[vf (k:=(q:Int)) ⋯ ⋯ hm (by rw[z];grind) (by rw[z];grind),fQ,fQ];rw[show(t:Int)-(q:Int)*m=r by rw[z];grind];grind
theorem xzf (h2:2<=hs.length)(hm:1<=m):zw hs (((hs.length-1)*m.toNat:Nat):Int) m=m*hAt hs ((hs.length:Int)-1):=by
 have z:((m.toNat:Nat):Int)=m:=by lia
 have e:(((hs.length-1)*m.toNat:Nat):Int)=((hs.length:Int)-1)*m:=by push_cast;rw[show((hs.length-1:Nat):Int)=(hs.length:Int)-1 by lia,z]
 rw[e,vf (k:=(hs.length:Int)-1-1) ⋯ ⋯ hm (by grind) (by grind),show(hs.length:Int)-1-1+1=(hs.length:Int)-1 by lia];generalize hAt hs ((hs.length:Int)-1)=v;generalize hAt hs ((hs.length:Int)-1-1)=u;grind
theorem xkc (h2:2<=hs.length)(hm:1<=m) :
  ((List.range (hs.length-1)).map λi:Nat=>(List.range m.toNat).map λj:Nat=>V.int (m*hAt hs ((0:Int)+i)+(hAt hs ((0:Int)+i+1)-hAt hs ((0:Int)+i))*((0:Int)+j))).flatten++[V.int (m*hAt hs ((hs.length:Int)-1))]=(xt hs m).map V.int:=by
 rw[Zn m.toNat ⋯ (λi j:Nat=>V.int (m*hAt hs ((0:Int)+i)+(hAt hs ((0:Int)+i+1)-hAt hs ((0:Int)+i))*((0:Int)+j)))];unfold xt;rw[bK,aR,aR,bp];congr 1
 .refine cu λt D=>?_;exact bV V.int (fin_at h2 hm (aq.mp D)).symm
 .exact bV (λz=>[V.int z]) (xzf h2 hm).symm
theorem xq3 (ok:q8 hs)(hm:1<=m)(hs24:((hs.length:Int)-1)*m<=24):q8 (xt hs m):=by
 have h1:=ok.1;have J:((m.toNat:Nat):Int)=m:=by lia
 have e:(((hs.length-1)*m.toNat:Nat):Int)=((hs.length:Int)-1)*m:=by push_cast;rw[show((hs.length-1:Nat):Int)=(hs.length:Int)-1 by lia,J]
 have L:1<=(hs.length-1)*m.toNat:=gN (show 1<=hs.length-1 by lia) (show 1<=m.toNat by lia);refine⟨by rw[Wf];lia,by rw[Wf];lia,λx z=>?_⟩;unfold xt at z;obtain⟨t,F,rfl⟩:=aL.mp z;have U:=aq.mp F;have D:xw hs (t:Int) m:=⟨⋯,by rw[<-e];lia⟩;have l:=qjj ok hm D;rw[Wf];refine⟨l.1,?_⟩;have:=l.2;lia
theorem xqk (h:2<=hs.length):atI (hs.map V.int) (-1)=some (V.int (hAt hs ((hs.length:Int)-1))):=by
 have D:hs≠[]:=by intro z;rw[z]at h;simp at h
 have e:=dU D;have g:hAt hs ((hs.length:Int)-1)=hs.getLast D:=by unfold hAt;rw[af,show((hs.length:Int)-1).toNat=hs.length-1 by lia,<-iQ,List.getLast?_eq_some_getLast D];rfl
 rw[g];have:hs.map V.int=hs.dropLast.map V.int++[V.int (hs.getLast D)]:=by
  conv=>lhs;rw[<-e]
  rw[aR];rfl
 rw[this];exact Wn _ _
def qyk (C CB:Aj):Sp:=λvs H Q E=>∃(r:Aj) (hs:List Int) (m:Int),vs=[.ref r,.int m]/\RoadAt C H r hs/\q8 hs/\1<=m/\m<=1000/\(((hs.length:Int)-1)*m<=24->∀x H',H x=none->Same H H'->RoadAt C H' x (xt hs m)->Q (.ref x) H')/\(24<((hs.length:Int)-1)*m->∀H',Same H H'->E (.ref CB) none H')
include T in
theorem wuh (F:Fun K "finer" "finer" za6 f fd)(zaf:CalD P w K mg base "check_count" 1 (Qm qy))(zcc:CCal P w K mg base "Road" qk 2 (qxy K qf qk))(zaa:MCal P w K mg base qk "width" 1 (jk qk))(zfg:MCal P w K mg base qk "corners" 1 (Jq qk))
  (zae:MCal P w K mg base qk "ends" 2 (Zh qk qg)) (zcd:MCal P w K mg base qk "slope" 3 (qwf qk qg)):FK P w K mg base 4 f fd ["road","many"] (qyk qk qf):=by
 have sc:=xxd;refine F.okX sc (λvs H Q E h=>by obtain⟨_,_,_,rfl,_⟩:=h;rfl) λ_ _ _ s H vs Q E D h=>?_;obtain⟨r,hs,m,rfl,J,L,W,m2,k,kx⟩:=h;obtain⟨dx,q,h1,h2⟩:=id J;obtain⟨tw,an⟩:=T.zac;have ol:=L.2.1;have ad:=L.1;have a1:(1000000:Nat)<sizeLine:=by decide
 refine⟨_,(qj (vn (xqj zaf (D.mono ⋯) rfl qu (qw (pv 1) (qw qb qv))))
   (qj (zd (wg Q9 (qr w8 (vk (pv 0) T.cl zaa (D.mono ⋯) qu) (pv 1)) (uw (v:=V.int 24) rfl an ⟨_,rfl⟩) (wp _)) (qh (jg rfl T.zal vg rfl T.zeq (qw Wz qv))) xu)
   (qj (wwz (i:=2) (M:=[0,1]) sc.nd rfl (by walk_at "loc") rfl rfl (by walk_at "cap") (by walk_at "has") (by walk_at "cix") rfl (by decide +kernel) rfl rfl (show List.Nodup (["stretch","beyond","road","many"]:List Str) by decide +kernel) (xg rfl T.range_ (qw (vk (pv 0) T.cl zaa (D.mono ⋯) qu) qv)) (λ_ _ _ _ _=>(xg rfl T.range_ (qw (pv 3) qv))) (λ_ _ _ _ _=>(qr xv (qr w8 (pv 3) (xc (yp (K:=K) rfl) (zg (pv 2) T.cl zae (D.mono ⋯) jq (qw (pv 0) qv)) qb (λ_ _=>rfl))) (qr w8 (zg (pv 2) T.cl zcd (D.mono ⋯) jq (qw (pv 0) qv)) (pv 1)))))
   (qh (wy (wwk zcc (D.mono ⋯) rfl qu (qw (qr ww6 (pv 2) (uk (qw (qr w8 (pv 1) (xc zq (vk (pv 0) T.cl zfg (D.mono ⋯) qu) (qx2 Zu qb) (λ_ _=>rfl))) qv))) qv))))))),?_⟩
 refine⟨_,rfl,m,1,.non,none,rfl,.inl ⟨rfl,rfl⟩,λ_=>?_,λw1=>absurd ⟨W,λ_ e=>nomatch e⟩ w1⟩;refine exI rfl ⟨r,dx,exI rfl ⟨h1,xq (by decide +kernel),r,hs,rfl,J,exI rfl (wv rfl rfl ⟨(by walk_at "mul"),wv rfl rfl (exI rfl (jc (λz=>?_) (λz=>?_)))⟩)⟩⟩
 .exact⟨sz1,kx z H (Same.refl _)⟩
 have ac:((hs.length:Int)-1)*m<=24:=by lia
 have a0:m<=24:=by have:=am (show(1:Int)<=(hs.length:Int)-1 by lia) (show(0:Int)<=m by lia);lia
 have as:(hs.length-1)*m.toNat<=1000000:=bI (gN (show hs.length-1<=24 by lia) (show m.toNat<=24 by lia)) ⋯;refine⟨_,rfl,r,dx,_,rfl,h1,xq (by decide +kernel),r,hs,rfl,J,(hs.length:Int)-1,rfl,⋯,⋯,?_⟩;have Z:=wxc L;refine ww4 (n:=((hs.length:Int)-1).toNat) (k:=m.toNat) (lo:=0) (lo2:=0) (λi j=>V.int (m*hAt hs ((0:Int)+i)+(hAt hs ((0:Int)+i+1)-hAt hs ((0:Int)+i))*((0:Int)+j))) (by rw[show((hs.length:Int)-1).toNat=hs.length-1 by lia];exact as) (λi H' R hi s' ab=>?_) (λi j H' R hi hj s' ab=>?_) λp H' np s' f'=>?_
 .exact⟨_,rfl,m,rfl,⋯,⋯,ab H' (Same.refl _)⟩
 .have b0:=Z ((0:Int)+i);have b1:=Z ((0:Int)+i+1);refine⟨_,rfl,_,rfl,r,dx,_,rfl,s' _ _ h1,xq (by decide +kernel),_,rfl,r,hs,_,rfl,J.same s',λ_ _ p1 n1=>?_,λy=>absurd y ⋯⟩;have U:=Same.upd (o:=.tup [.int (hAt hs ((0:Int)+i)),.int (hAt hs ((0:Int)+i+1))]) n1;refine exX rfl rfl SqT.new rfl (wv rfl rfl ⟨(by walk_at "mul"),?_⟩);refine⟨_,rfl,r,dx,_,rfl,(s'.trans U) _ _ h1,xq (by decide +kernel),_,rfl,r,hs,_,rfl,J.same (s'.trans U),λ_ _ H2 s2=>?_,λy=>absurd y ⋯⟩;exact exI rfl (wv rfl rfl ⟨(by walk_at "mul"),wv rfl rfl (ab H2 (U.trans s2))⟩)
 .rw[show((hs.length:Int)-1).toNat=hs.length-1 by lia]at f';refine exI rfl (exI rfl (exI rfl ⟨r,dx,exI rfl ⟨s' _ _ h1,xq (by decide +kernel),r,hs,rfl,J.same s',λp2 n2=>?_⟩⟩));have s2:=Same.upd (o:=.lst (hs.map V.int)) n2;have bl:=Z ((hs.length:Int)-1);refine exI rfl (exX rfl rfl SqL.new (xqk ad) (wv rfl rfl ⟨(by walk_at "mul"),sz1,λp3 n3=>?_⟩));have s3:=Same.upd (o:=.lst [V.int (m*hAt hs ((hs.length:Int)-1))]) n3;refine⟨p,p3,wv rfl rfl ⟨(s2.trans s3) _ _ f',upd_same,?_,λp4 n4=>?_⟩⟩
  .rw[Zn m.toNat ⋯ (λi j:Nat=>V.int (m*hAt hs ((0:Int)+i)+(hAt hs ((0:Int)+i+1)-hAt hs ((0:Int)+i))*((0:Int)+j))),ag,aE];simp only[aP,dS];lia
  rw[xkc ad W];have s4:=Same.upd (o:=.lst ((xt hs m).map V.int)) n4;have t4:=s'.trans (s2.trans (s3.trans s4));refineλx d0 nx ap ax=>wkj upd_same nx ap (λ_ H5 s5 R=>k ac x H5 (t4.free nx) (t4.trans s5) R) λy=>absurd (xq3 L W ac) y
theorem W1 (ok:q8 hs)(k:Int):∀v∈jr hs k,0<=v/\v<((hs.length-1:Nat):Int):=λv hv=>by have l:=wxm ok k;have:=ok.1;unfold jr at hv;obtain⟨j,hj,rfl⟩:=aL.mp hv;have:=aq.mp hj;lia
theorem qud (ok:q8 hs)(k:Int):(jr hs k).length<=24:=by have l:=wxm ok k;have:=ok.2.1;unfold jr;rw[ag,aE];lia
def x8 (hs:List Int):Nat->List Int:=λi=>jr hs ((0:Int)+i)
def CovAt (H:Hp)(p:Aj)(hs:List Int):Prop:=∃ys,H p=some (.lst ys)/\ys.length=hs.length-1/\∀i v,ys[i]?=some v->∃q,v=.ref q/\H q=some (.lst ((x8 hs i).map V.int))
theorem CovAt.same {p:Aj}(h:CovAt H p hs)(s:Same H H'):CovAt H' p hs:=by obtain⟨ys,e,l,r⟩:=h;exact⟨ys,s _ _ e,l,λi v z=>let ⟨q,a,b⟩:=r i v z;⟨q,a,s _ _ b⟩⟩
theorem qzk (g:Nat->List V):Stay λi v H=>∃q,v=.ref q/\H q=some (.lst (g i)):=λi v H H' p h nv st=>by obtain⟨q,rfl,e⟩:=h;exact⟨q,rfl,st q _ (λz=>nv (by rw[z])) e⟩
def Qu (C:Aj):Sp:=λvs H Q _=>∃(r:Aj) (hs:List Int),vs=[.ref r]/\RoadAt C H r hs/\q8 hs/\∀p H',H p=none->Same H H'->CovAt H' p hs->Q (.ref p) H'
include T in
theorem qjd (F:Fun K "covers_of" "covers_of" zbd f fd)(zaa:MCal P w K mg base qk "width" 1 (jk qk))(zfh:Cal P w K mg base "covered" 4 (Jx qk qg)):FK P w K mg base 5 f fd ["road"] (Qu qk):=by have U:=qyg;refine F.okX U (λvs H Q E h=>by obtain⟨_,_,rfl,_⟩:=h;rfl) λ_ _ _ s H vs Q E L h=>?_;obtain⟨r,hs,rfl,J,D,k⟩:=h;obtain⟨dx,q,h1,h2⟩:=id J;have o1:=D.1;have o2:=D.2.1;refine⟨_,(qh (wy (vq (M:=[0]) rfl rfl (by walk_at "cap") (by walk_at "has") (by walk_at "cix") rfl (by decide +kernel) rfl (show List.Nodup (["stretch","road"]:List Str) by decide +kernel) (xg rfl T.range_ (qw (vk (pv 0) T.cl zaa (L.mono ⋯) qu) qv)) (λ_ _ _ _ _=>(qm zfh (L.mono ⋯) rfl jq (qw (pv 1) (qw (pv 0) qv))))))),?_⟩;refine exI rfl ⟨r,dx,exI rfl ⟨h1,xq (by decide +kernel),r,hs,rfl,J,exI rfl ⟨⋯,⋯,Wr (λi v H=>∃q,v=.ref q/\H q=some (.lst ((x8 hs i).map V.int))) (qzk _) ⋯ (λi H' R hi s' Z=>?_) λp ys H' np s' f l hG=>k p H' np s' ⟨ys,f,⋯,λi v e=>(hG i v e).1⟩⟩⟩⟩;refine⟨_,rfl,_,rfl,r,hs,_,rfl,J.same s',D,λ_ _ p2 H2 W s2 f2=>Z (.ref p2) H2 s2 ⟨p2,rfl,f2⟩ λb e=>?_,λz=>absurd z ⋯⟩;cases e;exact W
def qzw:Sp:=λvs H Q _=>∃w:Int,vs=[.int w]/\0<=w/\w<=24/\∀(cov:Nat->List Int) p H',H p=none->Same H H'->MatAt H' p w.toNat (zc cov 0)->Q (.ref p) H'
include T in
theorem wxd (F:Fun K "ways_of_no_step" "ways_of_no_step" zbe f fd):FK P w K mg base 1 f fd ["width"] qzw:=by
 have J:=Zk;refine F.okX J (λvs H Q E h=>by obtain⟨_,rfl,_⟩:=h;rfl) λ_ _ _ s H vs Q E hr h=>?_;obtain⟨w,rfl,Z,W,k⟩:=h;refine⟨_,(qh (wy (qx4 (M:=[0]) rfl rfl (by walk_at "cap") (by walk_at "hasK") (by walk_at "cix") rfl (by decide +kernel) (by intro _;rfl) (by intro _;rfl) rfl (show List.Nodup (["begin","width"]:List Str) by decide +kernel) (xg rfl T.range_ (qw (pv 0) qv)) (λ_ _ _ _ _=>(vq (M:=[0]) rfl rfl (by walk_at "cap") (by walk_at "has") (by walk_at "cix") rfl (by decide +kernel) rfl (show List.Nodup (["end","begin"]:List Str) by decide +kernel) (xg rfl T.range_ (qw (pv 1) qv)) (λ_ _ _ _ _=>(qzz (wg yu (pv 0) (pv 1) (wp _)) qb qb))))))),?_⟩;refine exI rfl ⟨w,rfl,⋯,⋯,Wr (λi v H=>∃q,v=.ref q/\H q=some (.lst ((xm w.toNat (zc (λ_=>[]) 0 i)).map V.int))) (qzk _) ⋯ (λi H' R hi s' L=>?_) λp ys H' np s' f l U=>k (λ_=>[]) p H' np s' ⟨ys,f,l,λi v e=>(U i v e).1⟩⟩;refine exI rfl ⟨w,rfl,⋯,⋯,z9 (λj=>V.int (zc (λ_=>[]) 0 i j)) ⋯ (λj H2 R2 hj s2 z=>?_) λq D=>L (.ref q) _ (Same.upd D) ⟨q,rfl,by rw[upd_same,qzg]⟩ λb e=>by cases e;exact D⟩;refine exI rfl (exI rfl ⟨rfl,_,rfl,u8 (λe=>?_) (λe=>?_)⟩)
 .have:zc (λ_=>[]) 0 i j=1:=ay ⋯;rw[this]at z;exact z
 .have:zc (λ_=>[]) 0 i j=0:=ar ⋯;rw[this]at z;exact z
def Jj (hs:List Int):Sp:=λvs H Q _=>∃(c t:Aj) (f:Nat->Nat->Int),vs=[.ref c,.ref t]/\CovAt H c hs/\MatAt H t (hs.length-1) f/\∀p H',H p=none->Same H H'->MatAt H' p (hs.length-1) (λi j=>((x8 hs i).map λv=>f v.toNat j).sum)->Q (.ref p) H'
def picks (f:Nat->Nat->Int)(j:Nat):V->V
 |.int z=>.int (f z.toNat j)
 |_=>.non
variable {g:Nat->Int}
theorem at_row {j:Nat}(h:j<n):atI ((xm n g).map V.int) ((0:Int)+j)=some (V.int (g j)):=by rw[fQ];refine kj ?_;rw[aw,qxm h];rfl
theorem wwy (ok:q8 hs)(F:Fun K "one_step_more" "one_step_more" zbf f fd)(T:Txt K mg qf qx qc qy qd qg qk):FK P w K mg base 1 f fd ["covers","table"] (Jj hs):=by
 have sc:=Jf;refine F.okX sc (λvs H Q E h=>by obtain⟨_,_,_,rfl,_⟩:=h;rfl) λ_ _ _ s H vs Q E hr h=>?_;obtain⟨c,t,g,rfl,⟨cs,fc,lc,gc⟩,Z,k⟩:=h;obtain⟨L,J,lt,gt⟩:=id Z;have o1:=ok.1;have o2:=ok.2.1;refine⟨_,(qh (wy (qx4 (M:=[1]) rfl rfl (by walk_at "cap") (by walk_at "hasK") (by walk_at "cix") rfl (by decide +kernel) (by intro _;rfl) (by intro _;rfl) rfl (show List.Nodup (["vias","table"]:List Str) by decide +kernel) (zm (pv 0)) (λ_ _ _ _ _=>(qx4 (M:=[0,1]) rfl rfl (by walk_at "cap") (by walk_at "hasK") (by walk_at "cix") rfl (by decide +kernel) (by intro _;rfl) (by intro _;rfl) rfl (show List.Nodup (["end","vias","table"]:List Str) by decide +kernel) (xg rfl T.range_ (qw (wj (Zz (K:=K) rfl) rfl T.len_ bL (qw (pv 1) qv)) qv)) (λ_ _ _ _ _=>(wj (v8 (K:=K) rfl rfl) rfl T.sum_ uh (qw (vq (M:=[0,2]) rfl rfl (by walk_at "cap") (by walk_at "has") (by walk_at "cix") rfl (by decide +kernel) rfl (show List.Nodup (["via","end","table"]:List Str) by decide +kernel) (qu2 (K:=K) rfl (pv 1)) (λ_ _ _ _ _=>(xc (j9 (K:=K) rfl) (xc (j9 (K:=K) rfl) (pv 2) (pv 0) (λ_ _=>rfl)) (pv 1) (λ_ _=>rfl)))) qv)))))))),?_⟩;refine exI rfl ⟨c,rfl,⟨_,SqL.of fc⟩,Qv (K:=K) (a:=c) (xs:=cs) (λi v H=>∃q,v=.ref q/\H q=some (.lst ((xm (hs.length-1) λj=>((x8 hs i).map λv=>g v.toNat j).sum).map V.int))) (qzk _) (SqL.of fc) ⋯ (λi x H' R hx s' ap=>?_) λp ys H' np s' f l hG=>k p H' np s' ⟨ys,f,⋯,λi v e=>(hG i v e).1⟩⟩;obtain⟨W,rfl,ab⟩:=gc i x hx;refine exI rfl ⟨t,exI rfl ⟨.inl (SqL.of (s' _ _ J)),exI rfl ⟨⋯,⋯,?_⟩⟩⟩;rw[show((L.length:Int)).toNat=hs.length-1 by lia];refine quh (λj=>V.int (((x8 hs i).map λv=>g v.toNat j).sum)) (λ_ _ e=>nomatch e) ⋯ (λj H2 R2 hj s2 an=>?_) λq H2 nq s2 fq=>ap (.ref q) H2 s2 ⟨q,rfl,by rw[fq,qzg]⟩ λb e=>by cases e;exact nq
 have D:=s'.trans s2;refine exI rfl ⟨W,rfl,⟨_,SqL.of (D _ _ ab)⟩,Jp (K:=K) (a:=W) (xs:=(x8 hs i).map V.int) (picks g j) (SqL.of (D _ _ ab)) (by rw[ag];have:=qud ok ((0:Int)+i);unfold x8;lia) (λx3 H3 R3 ac s3 ad=>?_) λpl nl=>?_⟩
 .obtain⟨z,hz,rfl⟩:=aL.mp ac;have zb:=W1 ok _ z hz;obtain⟨qz,ez,fz⟩:=Z.row J (i:=z.toNat) ⋯;have U:=D.trans s3;have as:atI L z=some (.ref qz):=by have:=kj ez;rwa [cn zb.1]at this
  exact exI rfl (exI rfl (exX rfl rfl (SqL.of (U _ _ J)) as (exI rfl (exX rfl rfl (SqL.of (U _ _ fz)) (at_row hj) ad))))
 .have e:((x8 hs i).map V.int).map (picks g j)=((x8 hs i).map λv=>g v.toNat j).map V.int:=by rw[bp,bp];rfl
  rw[e];exact⟨pl,exI rfl ⟨SqL.new,an _ (Same.upd nl)⟩⟩
theorem MatAt.upd {p:Aj}{f:Nat->Nat->Int}{ys:List V}{a:Aj}(h:MatAt H p n f)(hn:1<=n)(hq:H q=some (.lst ys))(hp:p≠q)(h0:ys[0]?=some (.ref a)):MatAt (L2.upd H q o) p n f:=by
 obtain⟨zs,e,l,r⟩:=h;refine⟨zs,by rw[qt hp];exact e,l,λi v z=>?_⟩;obtain⟨D,L,b⟩:=r i v z;refine⟨D,L,?_⟩;rw[qt (λJ=>?_)]
 .exact b
 .rw[J,hq]at b;have F:ys=(xm n (f i)).map V.int:=by
   injection b with b
   injection b
  rw[F,aw,qxm ⋯]at h0;cases h0
def qxj (C:Aj):Sp:=λvs H Q _=>∃(r:Aj) (hs:List Int) (m:Int),vs=[.ref r,.int m]/\RoadAt C H r hs/\q8 hs/\0<=m/\m<=60 /\
 ∀p ys H',Same H H'->H' p=some (.lst ys)->ys.length=m.toNat+1->(∀i v,ys[i]?=some v->∃q,v=.ref q/\MatAt H' q (hs.length-1) (zc (x8 hs) i))->Q (.ref p) H'
include T in
theorem ww9 (F:Fun K "ways_up_to" "ways_up_to" zbg f fd)(zce:Cal P w K mg base "covers_of" 5 (Qu qk))(zaa:MCal P w K mg base qk "width" 1 (jk qk))(zfi:Cal P w K mg base "ways_of_no_step" 1 qzw)
  (zfj:∀hs,q8 hs->Cal P w K mg base "one_step_more" 1 (Jj hs)):FK P w K mg base 6 f fd ["road","many"] (qxj qk):=by
 have sc:=qvy;refine F.okX sc (λvs H Q E h=>by obtain⟨_,_,_,rfl,_⟩:=h;rfl) λ_ _ _ _ H vs Q E Z h=>?_;obtain⟨r,hs,m,rfl,hR,W,m0,m1,k⟩:=h;obtain⟨dx,q,h1,h2⟩:=id hR;have o1:=W.1;have o2:=W.2.1;have ap:=zfj hs W;refine⟨_,(qj (wu (i:=2) (qm zce (Z.mono ⋯) rfl qu (qw (pv 0) qv)))
   (qj (wu (i:=3) (uk (qw (qm zfi (Z.mono ⋯) rfl qu (qw (vk (pv 0) T.cl zaa (Z.mono ⋯) qu) qv)) qv)))
   (qj (ug bC (wg qu4 (wj xf rfl T.len_ bL (qw (pv 3) qv)) (pv 1) (wp _)) (qh (vn (qk1 cY dE dF jw (pv 3) (qw (qm ap (Z.mono ⋯) rfl qu (qw (pv 2) (qw (xc zq (pv 3) (qx2 Zu qb) (λ_ _=>rfl)) qv))) qv)))))
   (qh (wy (pv 3)))))),?_⟩
 refine exI rfl ⟨r,hs,rfl,hR,W,λp1 H1 n1 s1 C1=>?_⟩;refine exI rfl ⟨r,dx,exI rfl ⟨s1 _ _ h1,xq (by decide +kernel),r,hs,rfl,hR.same s1,exI rfl ⟨⋯,⋯,λa1 p2 H2 n2 s2 M2=>?_⟩⟩⟩;rw[show((hs.length:Int)-1).toNat=hs.length-1 by lia]at M2;have as:MatAt H2 p2 (hs.length-1) (zc (x8 hs) 0):=M2;obtain⟨ax,U,_,_⟩:=id M2;refine⟨sz1,λq nq=>?_⟩;have dq:p2≠q:=q9 U nq;have sq:Same H2 (upd H2 q (.lst [.ref p2])):=Same.upd nq;refine Wg (λσ D=>∃(i:Nat) (ys:List V),σ=[some (.ref r),some (.int m),some (.ref p1),some (.ref q)]/\(i:Int)<=m/\Same H2 D/\D q=some (.lst ys)/\ys.length=i+1/\∀j v,ys[j]?=some v->∃J,v=.ref J/\J≠q/\MatAt D J (hs.length-1) (zc (x8 hs) j))
  (λ_ D=>match D q with|some (.lst ys)=>(m+1).toNat-ys.length|_=>0) ⟨0,[.ref p2],rfl,⋯,sq,upd_same,rfl,λj v e=>?_⟩ ?_ λσ H Q Q' h ⟨v,e,p',ys,e1,U,v2,e3,i,j,e4,e5,kk,e6,qq⟩=>⟨v,e,p',ys,e1,U,v2,e3,i,j,e4,e5,kk,e6,h _ _ qq⟩
 .rcases j with _|j
  .cases e;exact⟨p2,rfl,dq,as.same sq⟩
  .cases e
 .rintro σ D ⟨i,ys,rfl,hi,s3,f3,l3,g3⟩;have ab:=s1.trans (s2.trans s3);refine exI rfl ⟨_,_,rfl,.inl (SqL.of f3),exI rfl (wv rfl rfl (exI rfl ?_))⟩;rw[l3];refine jc (λq1=>?_) (λq1=>?_)
  .have ei:ys[i]?=some ys[i]:=ae ⋯;obtain⟨qi,an,a0,Mi⟩:=g3 i _ ei;have ad:atI ys (-1)=some (.ref qi):=by
    have hz:ys≠[]:=λz=>by rw[z]at l3;simp at l3
    have e1:ys=ys.dropLast++[ys.getLast hz]:=(dU hz).symm;have U:ys.getLast hz=.ref qi:=by
     rw[jG];have:ys[i]?=ys[ys.length-1]?:=by rw[l3];rfl
     rw[this,ae ⋯,an]at ei;exact av ei
    rw[e1,U];exact Wn _ _
   obtain⟨ac,e0,_,_⟩:=g3 0 _ (ae (show 0<ys.length by lia));have h0:ys[0]?=some (.ref ac):=by rw[ae (show 0<ys.length by lia),e0]
   refine exI rfl ⟨.inl ⟨rfl,_,SqL.of f3⟩,exI rfl (exI rfl (exI rfl (exX rfl rfl (SqL.of f3) ad ⟨p1,qi,zc (x8 hs) i,rfl,C1.same (s2.trans s3),Mi,λL H4 n4 s4 M4=>?_⟩)))⟩;have f4:=s4 _ _ f3;have d4:L≠q:=(q9 f3 n4).symm;refine⟨_,_,_,rfl,rfl,f4,Jd ⋯,⟨i+1,ys++[.ref L],rfl,⋯,Same.upd2 (s3.trans s4) nq,upd_same,by rw[ao,l3];rfl,λj v e=>?_⟩,?_⟩
   .rcases bo j ys.length with z|z
    .rw[aT z]at e;obtain⟨J,e',d',M'⟩:=g3 j v e;exact⟨J,e',d',MatAt.upd (M'.same s4) ⋯ f4 d' h0⟩
    .rw[aG z]at e;have hj:j=i+1:=by
      rcases bo (j-ys.length) 1 with y|y
      .lia
      .rw[aQ (by simpa using y)]at e;cases e
     subst hj;rw[show i+1-ys.length=0 by lia]at e;have:V.ref L=v:=av e;subst this;exact⟨L,rfl,d4,MatAt.upd (f:=zc (x8 hs) (i+1)) M4 ⋯ f4 d4 h0⟩
   .show(match upd H4 q (.lst (ys++[.ref L])) q with|some (.lst ys)=>(m+1).toNat-ys.length|_=>0)<(match D q with|some (.lst ys)=>(m+1).toNat-ys.length|_=>0);rw[upd_same,f3];show(m+1).toNat-(ys++[V.ref L]).length<(m+1).toNat-ys.length;rw[ao,cL];lia
  .refine exI rfl (k q ys D ab f3 ⋯ λj v e=>?_);obtain⟨J,e',_,M'⟩:=g3 j v e;exact⟨J,e',M'⟩
def covR (hs:List Int)(i j:Int):Prop:=(0<=i/\i<(hs.length:Int)-1)/\loH hs i<=j/\j+1<=hiH hs i
instance (hs:List Int)(i j:Int):Decidable (covR hs i j):=by unfold covR;exact inferInstance
def qz2 (xs:List Int):List Int:=xs.drop 1++xs.take 1
theorem xkg (xs:List Int):(qz2 xs).length=xs.length:=by unfold qz2;rw[ao,cw,be];lia
def yt (hs xs:List Int):Prop:=(1<=xs.length/\xs.length<=12)/\∀(i:Nat) (x y:Int),xs[i]?=some x->(qz2 xs)[i]?=some y->covR hs x y
def qug (hs:List Int)(p:Int×Int)(x:Int):Int×Int:=(p.1*(hAt hs (x+1)-hAt hs x),hAt hs x+(hAt hs (x+1)-hAt hs x)*(p.2-x))
def wc (hs xs:List Int):Int×Int:=xs.foldl (qug hs) (1,0)
theorem wx1 (hs xs:List Int)(x:Int):wc hs (xs++[x])=qug hs (wc hs xs) x:=by unfold wc;rw[List.foldl_append];rfl
theorem yd (hs:List Int){xs:List Int}{i:Nat}{x:Int}(h:xs[i]?=some x):wc hs (xs.take (i+1))=qug hs (wc hs (xs.take i)) x:=by rw[dP,h];exact wx1 hs _ x
theorem qkr (ok:q8 hs)(x:Int):(hAt hs (x+1)-hAt hs x).natAbs<=24:=by have a:=qk3 ok x;have b:=qk3 ok (x+1);lia
theorem J1 (ok:q8 hs){xs:List Int}:∀i:Nat,(wc hs (xs.take i)).1.natAbs<=24 ^ i
 |0=>by rw[iL];show(1:Int).natAbs<=1;decide
 |i+1=>by
  have ih:=J1 ok (xs:=xs) i;cases e:xs[i]? with
  |none =>
   have:=fS.mp e;have e1:xs.take (i+1)=xs.take i:=by rw[dh ⋯,dh ⋯]
   rw[e1,dY];exact bI ih (jH _ ⋯)
  |some x =>
   rw[yd hs e];show((wc hs (xs.take i)).1*(hAt hs (x+1)-hAt hs x)).natAbs<=24 ^ (i+1);rw[gG,dY];exact gN ih (qkr ok x)
def qyw (K:Aa)(C:Aj):Sp:=λvs H Q _=>∃(r a:Aj) (hs xs:List Int),vs=[.ref r,.ref a]/\RoadAt C H r hs/\q8 hs/\SqT K H a (xs.map V.int)/\(∀x∈xs,0<=x/\x<(hs.length:Int)-1) /\
 ∀p H',Same H H'->H' p=some (.tup [.int (wc hs xs).1,.int (wc hs xs).2])->Q (.ref p) H'
include T in
theorem wur (F:Fun K "line_along" "line_along" zbj f fd)(zcd:MCal P w K mg base qk "slope" 3 (qwf qk qg))(zae:MCal P w K mg base qk "ends" 2 (Zh qk qg)):FK P w K mg base 4 f fd ["road","row"] (qyw K qk):=by
 have U:=qvt;refine F.okX U (λvs H Q E h=>by obtain⟨_,_,_,_,rfl,_⟩:=h;rfl) λ_ _ _ _ H vs Q E J h=>?_;obtain⟨r,a,hs,xs,rfl,D,ok,L,hx,k⟩:=h;refine⟨_,(qj (wu (i:=2) qb)
   (qj (wu (i:=3) qb)
   (qj (Qr bC rfl (pi_tup (pv 1)) (wn (i:=4)) (qj (wu (i:=5) (zg (pv 0) T.cl zcd (J.mono ⋯) qu (qw (pv 4) qv)))
   (qj (wu (i:=6) (xc kh (zg (pv 0) T.cl zae (J.mono ⋯) qu (qw (pv 4) qv)) qb (λ_ _=>rfl)))
   (qj (wu (i:=2) (qr w8 (pv 2) (pv 5)))
   (qh (wu (i:=3) (qr xv (pv 6) (qr w8 (pv 5) (qr vw (pv 3) (pv 4))))))))))
   (qh (wy (kr (qw (pv 2) (qw (pv 3) qv)))))))),?_⟩
 refine exI rfl ⟨a,rfl,⟨_,L⟩,xvg (xs:=xs.map V.int) (λi σ H'=>Same H H'/\∃z4 z5 z6,σ=[some (.ref r),some (.ref a),some (.int (wc hs (xs.take i)).1),some (.int (wc hs (xs.take i)).2),z4,z5,z6]) ⟨Same.refl _,_,_,_,rfl⟩ (λi σ H' _ h=>h.1.sqt L) ?_ ?_⟩
 .rintro i v σ H1 ev ⟨s1,z4,z5,z6,rfl⟩;rw[aw]at ev;obtain⟨x,ex,rfl⟩:=df.mp ev;obtain⟨x0,x1⟩:=hx x (aF ex);obtain⟨dx,Z,h1,h2⟩:=id (D.same s1);have sl:=qkr ok x;refine⟨_,rfl,r,dx,_,rfl,h1,xq (by decide +kernel),_,rfl,r,hs,x,rfl,D.same s1,λ_ _ H2 s2=>?_,λz=>absurd z ⋯⟩;obtain⟨dx,Z,h1,h2⟩:=id (D.same (s1.trans s2));refine⟨_,rfl,r,dx,_,rfl,h1,xq (by decide +kernel),_,rfl,r,hs,x,rfl,D.same (s1.trans s2),λ_ _ p3 n3=>?_,λz=>absurd z ⋯⟩;have W:=Same.upd (o:=.tup [.int (hAt hs x),.int (hAt hs (x+1))]) n3;refine exX rfl rfl SqT.new rfl ?_;refine exI rfl (exI rfl (wv rfl rfl ⟨IntMulOk.of_right (intBits_le_64 ⋯ ⋯),?_⟩));refine exI rfl (exI rfl (exI rfl (exI rfl (wv rfl rfl (wv rfl rfl ⟨IntMulOk.of_left (intBits_le_64 ⋯ ⋯),wv rfl rfl ?_⟩)))));refine⟨s1.trans (s2.trans W),some (.int x),some (.int (hAt hs (x+1)-hAt hs x)),some (.int (hAt hs x)),?_⟩;rw[yd hs ex];rfl
 .rintro σ H1 ⟨s1,z4,z5,z6,rfl⟩;rw[ag,bE];refine exI rfl (exI rfl ⟨sz2,λp np=>k p _ (s1.trans (Same.upd np)) upd_same⟩)
variable {xs:List Int}
theorem wjs (c:yt hs xs):∀x∈xs,0<=x/\x<(hs.length:Int)-1:=λx hx=>by
 obtain⟨i,hi,rfl⟩:=dj hx;have h2:i<(qz2 xs).length:=by rw[xkg];exact hi
 exact(c.2 i xs[i] (qz2 xs)[i] (ae hi) (ae h2)).1
def FixR (H:Hp)(p:Int×Int)(v:V):Prop:=(p.1=1/\v=.non)\/(p.1≠1/\∃q,v=.ref q/\H q=some (.tup (ptV (if p.1>1 then ww (-p.2) (p.1-1) else ww p.2 (1-p.1)))))
def qj6 (K:Aa)(C:Aj):Sp:=λvs H Q _=>∃(r a:Aj) (hs xs:List Int),vs=[.ref r,.ref a]/\RoadAt C H r hs/\q8 hs/\SqT K H a (xs.map V.int)/\(∀x∈xs,0<=x/\x<(hs.length:Int)-1)/\xs.length<=12 /\
 ∀v H',Same H H'->FixR H' (wc hs xs) v->Q v H'
include T in
theorem wus (F:Fun K "fixed_point" "fixed_point" zbk f fd)(zfk:Cal P w K mg base "line_along" 4 (qyw K qk))(zan:Cal P w K mg base "lowest" 2 (Q6 qx)):FK P w K mg base 5 f fd ["road","row"] (qj6 K qk):=by
 have sc:=qwp;refine F.okX sc (λvs H Q E h=>by obtain⟨_,_,_,_,rfl,_⟩:=h;rfl) λ_ _ _ _ H vs Q E U h=>?_;obtain⟨r,a,hs,xs,rfl,hR,Z,hT,hx,hl,k⟩:=h;have D:=J1 Z (xs:=xs) xs.length;rw[bE]at D;have D:(wc hs xs).1.natAbs<=24 ^ 12:=bI D (dG ⋯ hl);have ac:(24:Nat) ^ 12=36520347436056576:=by decide
 rw[ac]at D;refine⟨_,(qj (jz (qm zfk (U.mono ⋯) rfl qu (qw (pv 0) (qw (pv 1) qv))) (kg rfl (xk (wn (i:=2)) (xk (wn (i:=3)) vj))))
   (qj (zd (wg yu (pv 2) qb (wp _)) (qh (wy qzu)) xu)
   (qj (zd (wg Q9 (pv 2) qb (wp _)) (qh (wy (qm zan (U.mono ⋯) rfl qu (qw (qx2 Zu (pv 3)) (qw (qr vw (pv 2) qb) qv))))) xu)
   (qh (wy (qm zan (U.mono ⋯) rfl qu (qw (pv 3) (qw (qr vw qb (pv 2)) qv)))))))),?_⟩
 refine exI rfl (exI rfl ⟨r,a,hs,xs,rfl,hR,Z,hT,hx,λp H1 J W=>?_⟩);unfold FixR at k;generalize (wc hs xs).1=st at D W k;generalize (wc hs xs).2=ht at W k;refine⟨p,exI rfl ⟨SqT.of W,rfl,_,_,rfl,_,_,rfl,rfl,?_⟩⟩;refine exI rfl ⟨rfl,_,rfl,u8 (λz=>?_) (λz=>?_)⟩
 .exact k _ _ J (.inl ⟨z,rfl⟩)
 .refine exI rfl (wv rfl rfl (exI rfl (jc (λy=>?_) (λy=>?_))))
  .refine⟨_,rfl,_,rfl,_,rfl,_,_,rfl,rfl,_,_,rfl,λ_=>⟨Sm.small ⋯ ⋯ ⋯,λq L=>?_⟩,λw=>absurd w ⋯⟩;refine k _ _ (J.trans (Same.upd L)) (.inr ⟨z,q,rfl,?_⟩);rw[ay y];exact upd_same
  .refine⟨_,rfl,_,rfl,_,_,rfl,rfl,_,_,rfl,λ_=>⟨Sm.small ⋯ ⋯ ⋯,λq L=>?_⟩,λw=>absurd w ⋯⟩;refine k _ _ (J.trans (Same.upd L)) (.inr ⟨z,q,rfl,?_⟩);rw[ar y];exact upd_same
variable {i:Nat}
theorem wv4 (h:i+1<xs.length):(qz2 xs)[i]?=xs[i+1]?:=by unfold qz2;rw[aT (by rw[cw];lia),dC,iz]
theorem wvd (h:i+1=xs.length):(qz2 xs)[i]?=xs[0]?:=by unfold qz2;rw[aG (by rw[cw];lia),cw,show i-(xs.length-1)=0 by lia,ee,ay ⋯]
def covT (hs:List Int)(i j:Nat):Int:=if loH hs ((0:Int)+i)<=(0:Int)+j/\(0:Int)+j+1<=hiH hs ((0:Int)+i) then 1 else 0
theorem wkx:∀(m:Nat) (lo:Int) (j:Nat),0<=lo->((List.range m).map λk:Nat=>(if j=(lo+k).toNat then(1:Int) else 0)).sum=if lo<=j/\(j:Int)<lo+m then 1 else 0
 |0,lo,j,h=>by rw[ar ⋯];rfl
 |m+1,lo,j,h=>by
  rw[bK,aR,cH,wkx m lo j h,aI,da,bN,fv];by_cases z:j=(lo+m).toNat
  .rw[ay z,ar ⋯,ay ⋯];rfl
  .rw[ar z];by_cases y:lo<=j/\(j:Int)<lo+m
   .rw[ay y,ay ⋯];rfl
   .rw[ar y,ar ⋯];rfl
theorem wvp (ok:q8 hs)(i j:Nat):zc (x8 hs) 1 i j=covT hs i j:=by
 show((x8 hs i).map λv=>if j=v.toNat then(1:Int) else 0).sum=_;have l:=wxm ok ((0:Int)+i);unfold x8 jr covT;rw[bp];have:=wkx (hiH hs ((0:Int)+i)-loH hs ((0:Int)+i)).toNat (loH hs ((0:Int)+i)) j l.1;show((List.range _).map λk:Nat=>(if j=(loH hs ((0:Int)+i)+k).toNat then(1:Int) else 0)).sum=_;rw[this];by_cases z:loH hs ((0:Int)+i)<=(0:Int)+j/\(0:Int)+j+1<=hiH hs ((0:Int)+i)
 .rw[ay z,ay ⋯]
 .rw[ar z,ar ⋯]
def bgR (hs:List Int)(f m:Nat):Nat->List (List Int)
 |0=>if 0<zc (x8 hs) m f f then [[(0:Int)+f]] else []
 |t+1=>Zp (λv=>decide (0<zc (x8 hs) (m-1-t) v.toNat f)) (λr=>x8 hs (r.getLastD 0).toNat) (bgR hs f m t)
def x9 (hs:List Int)(m:Nat):List (List Int):=(List.range (hs.length-1)).flatMap λf=>bgR hs f m (m-1)
def cvr (hs:List Int)(x y:Int):Prop:=loH hs x<=y/\y+1<=hiH hs x
theorem mem_cov:y∈jr hs x↔cvr hs x y:=by
 unfold jr cvr;constructor
 .intro h;obtain⟨j,hj,rfl⟩:=aL.mp h;have:=aq.mp hj;lia
 .intro h;exact aL.mpr ⟨(y-loH hs x).toNat,aq.mpr ⋯,⋯⟩
theorem qwh (h:0<=x):x8 hs x.toNat=jr hs x:=by unfold x8;rw[show(0:Int)+(x.toNat:Int)=x by lia]
theorem Zc (r:List Int)(x:Int):(r++[x]).getLastD 0=x:=by rw[iR,List.getLast?_append];rfl
variable {r:List Int}
theorem qv6 (h:r≠[]):r.getLastD 0=r.getD (r.length-1) 0:=by rw[iR,iQ,af]
theorem mem_addR {c:Int->Bool}{vs x:List Int}:x∈Z4 c r vs↔∃v∈vs,c v=true/\x=r++[v]:=by
 unfold Z4;rw[aL];constructor
 .rintro⟨v,z,rfl⟩;obtain⟨h1,h2⟩:=bO.mp z;exact⟨v,h1,h2,rfl⟩
 .rintro⟨v,h1,h2,rfl⟩;exact⟨v,bO.mpr ⟨h1,h2⟩,rfl⟩
theorem mem_allR {c:Int->Bool}{g:List Int->List Int}{L:List (List Int)}{x:List Int}:x∈Zp c g L↔∃r∈L,∃v∈g r,c v=true/\x=r++[v]:=by
 unfold Zp;rw[List.mem_flatMap];constructor
 .rintro⟨r,z,h⟩;exact⟨r,z,mem_addR.mp h⟩
 .rintro⟨r,z,h⟩;exact⟨r,z,mem_addR.mpr h⟩
def Beg (hs:List Int)(f m t:Nat)(r:List Int):Prop:=r.length=t+1/\r.getD 0 0=(0:Int)+f/\(∀x∈r,0<=x/\x<(hs.length:Int)-1)/\(∀i,i<t->cvr hs (r.getD i 0) (r.getD (i+1) 0))/\0<zc (x8 hs) (m-t) (r.getLastD 0).toNat f
theorem Yu {v:Int}(h:i<r.length):(r++[v]).getD i 0=r.getD i 0:=by rw[af,af,aT h]
theorem xxv {v:Int}(h:i=r.length):(r++[v]).getD i 0=v:=by subst h;rw[af,aG (aj _),ir];rfl
theorem qzc {f m t:Nat}(h:Beg hs f m t r):r.getLastD 0=r.getD t 0/\0<=r.getLastD 0/\r.getLastD 0<(hs.length:Int)-1:=by
 obtain⟨l,_,g,_⟩:=h;have D:r≠[]:=λz=>by rw[z]at l;cases l
 have e:=qv6 D;rw[l,fm]at e;refine⟨e,?_⟩;rw[e,af,ae ⋯];exact g _ (bD _)
theorem Zd (ok:q8 hs){f m:Nat}(hf:f<hs.length-1):∀t,∀r∈bgR hs f m t,Beg hs f m t r
 |0,r,hr=>by
  unfold bgR at hr;split at hr
  .next p =>
   obtain rfl:=aU.mp hr;refine⟨rfl,rfl,λx hx=>?_,λi hi=>absurd hi (ie _),?_⟩
   .rw[aU.mp hx];lia
   .show 0<zc (x8 hs) m ((0:Int)+f).toNat f;rw[show((0:Int)+f).toNat=f by lia];exact p
  .cases hr
 |t+1,r,hr=>by
  obtain⟨q,hq,v,hv,hc,rfl⟩:=mem_allR.mp hr;have b:=Zd ok hf t q hq;obtain⟨e1,e2,e3⟩:=qzc b;obtain⟨l,h0,g,ch,_⟩:=b;rw[qwh e2]at hv;have cv:=mem_cov.mp hv;have vr:=W1 ok _ v hv;refine⟨by rw[ao,l];rfl,by rw[Yu ⋯];exact h0,λx hx=>?_,λi hi=>?_,?_⟩
  .rcases aX.mp hx with z|z
   .exact g x z
   .rw[aU.mp z];lia
  .rcases(by lia:i<t\/i=t) with z|z
   .rw[Yu ⋯,Yu ⋯];exact ch i z
   .subst z;rw[Yu ⋯,xxv ⋯,<-e1];exact cv
  .rw[Zc,show m-(t+1)=m-1-t by lia];exact cx hc
theorem Q8 (cov:Nat->List Int):∀(m i j:Nat),0<=zc cov m i j
 |0,i,j=>by unfold zc;split <;> decide
 |m+1,i,j=>by
  show 0<=((cov i).map λv=>zc cov m v.toNat j).sum;generalize cov i=l
  induction l with
  |nil=>exact cE _
  |cons v l ih =>
   rw[aI,bN];have:=Q8 cov m v.toNat j;lia
theorem wqy {F:Int->Int}(h:∀v,0<=F v)(r:List Int):∀vs:List Int,((Z4 (λv=>decide (0<F v)) r vs).map λq=>F (q.getLastD 0)).sum=(vs.map F).sum
 |[]=>rfl
 |v::vs=>by
  have ih:=wqy h r vs;unfold Z4 at ih ⊢;rw[fP,aI,bN,<-ih];by_cases z:0<F v
  .rw[ay (aS z),aI,aI,bN,Zc]
  .rw[ar (by simpa using z)];have:=h v;lia
theorem qus {F:Int->Int}(h:∀v,0<=F v)(g:List Int->List Int):∀L:List (List Int),((Zp (λv=>decide (0<F v)) g L).map λq=>F (q.getLastD 0)).sum=(L.map λr=>((g r).map F).sum).sum
 |[]=>rfl
 |r::L=>by have ih:=qus h g L;unfold Zp at ih ⊢;rw[List.flatMap_cons,aR,cH,ih,aI,bN,wqy h]
theorem wxn (hs:List Int)(f m:Nat):∀t,t<=m->((bgR hs f m t).map λr=>zc (x8 hs) (m-t) (r.getLastD 0).toNat f).sum=zc (x8 hs) m f f
 |0,_=>by
  have p:=Q8 (x8 hs) m f f;unfold bgR;split
  .show zc (x8 hs) m ((0:Int)+f).toNat f+0=_;rw[show((0:Int)+f).toNat=f by lia,Int.add_zero]
  .show(0:Int)=_;lia
 |t+1,h=>by have ih:=wxn hs f m t ⋯;rw[show m-t=(m-1-t)+1 by lia]at ih;rw[<-ih,show m-(t+1)=m-1-t by lia];exact qus (F:=λv=>zc (x8 hs) (m-1-t) v.toNat f) (λv=>Q8 _ _ _ _) (λr=>x8 hs (r.getLastD 0).toNat) (bgR hs f m t)
theorem qz1 {F:α->Int}:∀ {L:List α},(∀r∈L,1<=F r)->(L.length:Int)<=(L.map F).sum
 |[],_=>cE _
 |r::L,h=>by have ih:=qz1 (L:=L) λr hr=>h r (.tail _ hr);have:=h r (.head _);rw[aI,bN,aP];lia
theorem qx7 {F:α->Int}:∀ {L:List α},(∀r∈L,F r=1)->(L.length:Int)=(L.map F).sum
 |[],_=>rfl
 |r::L,h=>by have ih:=qx7 (L:=L) λr hr=>h r (.tail _ hr);have:=h r (.head _);rw[aI,bN,aP];lia
theorem wuz (ok:q8 hs){f m t:Nat}(hf:f<hs.length-1)(ht:t<=m):((bgR hs f m t).length:Int)<=zc (x8 hs) m f f:=by rw[<-wxn hs f m t ht];exact qz1 λr hr=>(Zd ok hf t r hr).2.2.2.2
theorem bg_len (ok:q8 hs){f m:Nat}(hf:f<hs.length-1)(hm:1<=m):((bgR hs f m (m-1)).length:Int)=zc (x8 hs) m f f:=by
 rw[<-wxn hs f m (m-1) ⋯];refine qx7 λr D=>?_;have h:=(Zd ok hf _ r D).2.2.2.2;rw[show m-(m-1)=1 by lia]at h ⊢;rw[wvp ok]at h ⊢;unfold covT at h ⊢;split at h
 .next z=>rw[ay z]
 .next z=>exact absurd h (kD 0)
theorem qwt (F:Nat->List α)(n:Nat):((((List.range n).flatMap F).length:Nat):Int)=k7 n λk=>((F k).length:Int):=by
 induction n with
 |zero=>rfl
 |succ n ih =>
  rw[vt,<-ih,bK,io,ao];simp
theorem wk6 (ok:q8 hs){m:Nat}(hm:1<=m):((x9 hs m).length:Int)=k7 (hs.length-1) λf=>zc (x8 hs) m f f:=by unfold x9;rw[qwt];exact Qp λf hf=>bg_len ok hf hm
def qu9 (L:List (List Int)):Prop:=L.Pairwise λa b=>vh a b=true
def ClR (hs:List Int)(m:Nat)(r:List Int):Prop:=r.length=m/\(∀x∈r,0<=x/\x<(hs.length:Int)-1)/\(∀i,i+1<m->cvr hs (r.getD i 0) (r.getD (i+1) 0))/\cvr hs (r.getD (m-1) 0) (r.getD 0 0)
theorem wwx {c:Nat->Int}{m:Nat}(hc:∀t,t<m->c (t+1)∈x8 hs (c t).toNat):∀d t,t+d=m->0<zc (x8 hs) d (c t).toNat (c m).toNat
 |0,t,e=>by
  obtain rfl:t=m:=by lia
  unfold zc;rw[ay rfl];decide
 |d+1,t,e=>by
  have F:=wwx hc d (t+1) ⋯;have D:=hc t ⋯;show 0<((x8 hs (c t).toNat).map λv=>zc (x8 hs) d v.toNat (c m).toNat).sum;generalize x8 hs (c t).toNat=l at D
  induction l with
  |nil=>cases D
  |cons v l ihl =>
   rw[aI,bN];rcases aM.mp D with z|z
   .rw[<-z];have:0<=(l.map λv=>zc (x8 hs) d v.toNat (c m).toNat).sum:=by
     clear ihl D
     induction l with
     |nil=>exact cE _
     |cons w l ih2=>rw[aI,bN];have:=Q8 (x8 hs) d w.toNat (c m).toNat;lia
    lia
   .have:=ihl z;have:=Q8 (x8 hs) d v.toNat (c m).toNat;lia
theorem vm (ok:q8 hs){m:Nat}(hm:1<=m){r:List Int}:r∈x9 hs m↔ClR hs m r:=by
 unfold x9;rw[List.mem_flatMap];constructor
 .rintro⟨f,L,Z⟩;have L:=aq.mp L;have b:=Zd ok L _ r Z;obtain⟨e1,e2,e3⟩:=qzc b;obtain⟨l,h0,g,ch,p⟩:=b;refine⟨⋯,g,λi hi=>ch i ⋯,?_⟩;rw[show m-(m-1)=1 by lia,wvp ok]at p;unfold covT at p;split at p
  .next z =>
   rw[show(0:Int)+((r.getLastD 0).toNat:Int)=r.getLastD 0 by lia]at z;rw[<-e1,h0];exact z
  .exact absurd p (kD 0)
 .rintro⟨l,g,ch,cl⟩;have F:∀i,i<m->0<=r.getD i 0/\r.getD i 0<(hs.length:Int)-1:=λi hi=>by rw[af,ae ⋯];exact g _ (bD _)
  have r0:=F 0 ⋯;have hc:∀t,t<m->(if t+1=m then r.getD 0 0 else r.getD (t+1) 0)∈x8 hs ((if t=m then r.getD 0 0 else r.getD t 0)).toNat:=λt D=>by
   rw[ar ⋯,qwh (F t D).1];split
   .next z =>
    obtain rfl:t=m-1:=by lia
    exact mem_cov.mpr cl
   .next z=>exact mem_cov.mpr (ch t ⋯)
  have U:∀t,t<m->0<zc (x8 hs) (m-t) (r.getD t 0).toNat (r.getD 0 0).toNat:=λt D=>by have:=wwx (c:=λt=>if t=m then r.getD 0 0 else r.getD t 0) hc (m-t) t ⋯;rw[ar (show ¬ t=m by lia),ay rfl]at this;exact this
  have W:∀t,t<m->r.take (t+1)∈bgR hs (r.getD 0 0).toNat m t:=λt=>by
   induction t with
   |zero =>
    intro _;have p:=U 0 ⋯;unfold bgR;rw[Nat.sub_zero]at p;rw[ay p,show(0:Int)+((r.getD 0 0).toNat:Int)=r.getD 0 0 by lia]
    match r,l with
    |[],l=>simp at l;lia
    |x::r,_=>exact .head _
   |succ t J =>
    intro D;have J:=J ⋯;have et:r.take (t+1+1)=r.take (t+1)++[r.getD (t+1) 0]:=by rw[dP,ae ⋯,af,ae ⋯];rfl
    have el:(r.take (t+1)).getLastD 0=r.getD t 0:=by rw[qv6 (λz=>by have:=bV List.length z;rw[be,dS]at this;lia),be,jR ⋯,fm,af,ee,ay ⋯,af]
    rw[et];refine mem_allR.mpr ⟨r.take (t+1),J,r.getD (t+1) 0,?_,aS ?_,rfl⟩
    .rw[el,qwh (F t ⋯).1];exact mem_cov.mpr (ch t ⋯)
    .rw[show m-1-t=m-(t+1) by lia];exact U (t+1) D
  refine⟨(r.getD 0 0).toNat,aq.mpr ⋯,?_⟩;have:=W (m-1) ⋯;rw[show m-1+1=r.length by lia,bE]at this;exact this
def Byd (e B v:Int):Prop:=(0<v/\v<=e-B)\/(v<0/\e<=v)
variable {B:Int}
theorem xq0 {h t v:Int}(hB:1<=B)(up:a>0->h<=y/\y+1<=h+a)(dn:a<0->h+a<=y/\y+1<=h)(nz:a≠0)(b:Byd (t-x*B) B v):Byd (h*B+a*(t-x*B)-y*B) B (a*v):=by
 generalize t-x*B=e at b ⊢;rcases(by lia:a>0\/a<0) with z|z
 .obtain⟨u1,u2⟩:=up z;rcases b with⟨F,D⟩|⟨F,D⟩
  .refine .inl ⟨ka z F,?_⟩;have L:a*v<=a*(e-B):=ba D ⋯;have J:(y+1)*B<=(h+a)*B:=am u2 ⋯;rw[ke]at L;rw[bH,bH,bA]at J;lia
  .refine .inr ⟨iS z F,?_⟩;have L:a*e<=a*v:=ba D ⋯;have J:h*B<=y*B:=am u1 ⋯;lia
 .obtain⟨u1,u2⟩:=dn z;rcases b with⟨F,D⟩|⟨F,D⟩
  .refine .inr ⟨Int.mul_neg_of_neg_of_pos z F,?_⟩;have L:a*(e-B)<=a*v:=fh ⋯ D;have J:(h+a)*B<=y*B:=am u1 ⋯;rw[ke]at L;rw[bH]at J;lia
  .refine .inl ⟨iT z F,?_⟩;have L:a*v<=a*e:=fh ⋯ D;have J:(y+1)*B<=h*B:=am u2 ⋯;rw[bH,bA]at J;lia
def y9 (a:Nat->Int)(i:Nat):Nat->Int
 |0=>1
 |k+1=>y9 a i k*a (i+k)
variable {h:Nat->Int}
theorem qjv {c t a:Nat->Int}(hB:1<=B)(st:∀i,i<n->t (i+1)=h i*B+a i*(t i-c i*B))(up:∀i,i<n->a i>0->h i<=c (i+1)/\c (i+1)+1<=h i+a i)(dn:∀i,i<n->a i<0->h i+a i<=c (i+1)/\c (i+1)+1<=h i)(nz:∀i,i<n->a i≠0)
  {i:Nat} {v:Int} (b:Byd (t i-c i*B) B v):∀k,i+k<=n->Byd (t (i+k)-c (i+k)*B) B (v*y9 a i k)
 |0,_=>by rw[show v*y9 a i 0=v from Int.mul_one v];exact b
 |k+1,hk=>by
  have ih:=qjv hB st up dn nz b k ⋯;have s:=xq0 hB (up (i+k) ⋯) (dn (i+k) ⋯) (nz (i+k) ⋯) ih;rw[show h (i+k)*B+a (i+k)*(t (i+k)-c (i+k)*B)=t (i+k+1) from (st (i+k) ⋯).symm]at s;have e:v*y9 a i (k+1)=a (i+k)*(v*y9 a i k):=by show v*(y9 a i k*a (i+k))=_;rw[<-d7,bu]
  rw[e];exact s
theorem xzm {c t a:Nat->Int}(hB:1<=B)(st:∀i,i<n->t (i+1)=h i*B+a i*(t i-c i*B))(up:∀i,i<n->a i>0->h i<=c (i+1)/\c (i+1)+1<=h i+a i)(dn:∀i,i<n->a i<0->h i+a i<=c (i+1)/\c (i+1)+1<=h i)(nz:∀i,i<n->a i≠0)
  (et:t n=t 0) (ec:c n=c 0) (ns:y9 a 0 n≠1) (ns0:y9 a 0 n≠0):∀i,i<=n->0<=t i-c i*B/\t i-c i*B<=B:=by
 have Z:∀v,¬ Byd (t 0-c 0*B) B v:=λv b=>by
  have D:∀v,Byd (t 0-c 0*B) B v->Byd (t 0-c 0*B) B (v*y9 a 0 n):=λv b=>by have r:=qjv hB st up dn nz b n ⋯;rw[cN,et,ec]at r;exact r
  generalize t 0-c 0*B=e at b D;generalize y9 a 0 n=s at ns ns0 D;rcases b with⟨W,U⟩|⟨W,U⟩
  .rcases D (e-B) (.inl ⟨⋯,⋯⟩) with⟨J,F⟩|⟨J,F⟩
   .have s0:0<s:=by
     rcases(by lia:0<s\/s<0) with q|q
     .exact q
     .have:=iS (show 0<e-B by lia) q;lia
    have:(e-B)*2<=(e-B)*s:=ba ⋯ ⋯;lia
   .lia
  .rcases D e (.inr ⟨⋯,⋯⟩) with⟨J,F⟩|⟨J,F⟩
   .lia
   .have s0:0<s:=by
     rcases(by lia:0<s\/s<0) with q|q
     .exact q
     .have:=iT (show e<0 by lia) q;lia
    have:e*s<=e*2:=fh ⋯ ⋯;lia
 intro i hi;have L:∀v,¬ Byd (t i-c i*B) B v:=λv b=>by have r:=qjv hB st up dn nz b (n-i) ⋯;rw[show i+(n-i)=n by lia,et,ec]at r;exact Z _ r
 constructor
 .rcases cP (t i-c i*B) 0 with z|z
  .exact absurd (.inr ⟨z,cE _⟩) (L (t i-c i*B))
  .exact z
 .rcases cP B (t i-c i*B) with z|z
  .exact absurd (.inl ⟨⋯,cE _⟩) (L (t i-c i*B-B))
  .exact z
def wx (xs:List Int)(i:Nat):Int:=xs.getD (i%xs.length) 0
def Qf (hs xs:List Int)(T B:Int)(i:Nat):Int:=(wc hs (xs.take i)).1*T+(wc hs (xs.take i)).2*B
theorem km (h:i<xs.length):xs[i]?=some (wx xs i):=by unfold wx;rw[dB h,af,ae h];rfl
theorem Qj (h:i<xs.length):(qz2 xs)[i]?=some (wx xs (i+1)):=by
 rcases(by lia:i+1<xs.length\/i+1=xs.length) with z|z
 .rw[wv4 z];exact km z
 .rw[wvd z];unfold wx;rw[z,Nat.mod_self,af,ae ⋯];rfl
theorem j8 (hs xs:List Int)(T B:Int):Qf hs xs T B 0=T:=by unfold Qf;rw[iL];show(1:Int)*T+(0:Int)*B=T;lia
theorem u9 {T:Int}(h:i<xs.length):Qf hs xs T B (i+1)=hAt hs (wx xs i)*B+(hAt hs (wx xs i+1)-hAt hs (wx xs i))*(Qf hs xs T B i-wx xs i*B):=by unfold Qf;rw[yd hs (km h)];unfold qug;dsimp only;generalize (wc hs (xs.take i)).1=p;generalize (wc hs (xs.take i)).2=q;generalize hAt hs (wx xs i)=u;generalize hAt hs (wx xs i+1)=v;generalize wx xs i=x;grind
theorem qx8:∀k:Nat,k<=xs.length->y9 (λi=>hAt hs (wx xs i+1)-hAt hs (wx xs i)) 0 k=(wc hs (xs.take k)).1
 |0,_=>by rw[iL];rfl
 |k+1,h=>by rw[yd hs (km (show k<xs.length by lia))];show y9 _ 0 k*(hAt hs (wx xs (0+k)+1)-hAt hs (wx xs (0+k)))=(wc hs (xs.take k)).1*(hAt hs (wx xs k+1)-hAt hs (wx xs k));rw[qx8 k ⋯,cN]
theorem row_in (c:yt hs xs){T B:Int}(hB:1<=B)(ns:(wc hs xs).1≠1)(fx:(wc hs xs).1*T+(wc hs xs).2*B=T){i:Nat}(hi:i<xs.length) :
  wx xs i*B<=Qf hs xs T B i/\Qf hs xs T B i<=(wx xs i+1)*B:=by
 have F:∀j,j<xs.length->covR hs (wx xs j) (wx xs (j+1)):=λj D=>c.2 j _ _ (km D) (Qj D);have J:∀j,j<xs.length->hAt hs (wx xs j+1)-hAt hs (wx xs j)≠0:=λj D=>by have:=(F j D).2;unfold loH hiH yn ym at this;split at this <;> split at this <;> lia
 have ep:y9 (λi=>hAt hs (wx xs i+1)-hAt hs (wx xs i)) 0 xs.length=(wc hs xs).1:=by rw[qx8 _ (aj _),bE]
 have L:∀k,k<=xs.length->y9 (λi=>hAt hs (wx xs i+1)-hAt hs (wx xs i)) 0 k≠0:=λk=>by
  induction k with
  |zero=>intro _ z;cases z
  |succ k ih =>
   intro U z;rcases Int.mul_eq_zero.mp z with z|z
   .exact ih ⋯ z
   .rw[cN]at z;exact J k ⋯ z
 have r:=xzm (n:=xs.length) (B:=B) (c:=wx xs) (t:=Qf hs xs T B) (h:=λi=>hAt hs (wx xs i)) (a:=λi=>hAt hs (wx xs i+1)-hAt hs (wx xs i)) hB (λj D=>u9 D)
  (λj D z=>by
   have:=(F j D).2
   have z:hAt hs (wx xs j+1)-hAt hs (wx xs j)>0:=z
   unfold loH hiH yn ym at this
   show hAt hs (wx xs j)<=wx xs (j+1)/\wx xs (j+1)+1<=hAt hs (wx xs j)+(hAt hs (wx xs j+1)-hAt hs (wx xs j))
   split at this <;> split at this <;> lia)
  (λj D z=>by
   have:=(F j D).2
   have z:hAt hs (wx xs j+1)-hAt hs (wx xs j)<0:=z
   unfold loH hiH yn ym at this
   show hAt hs (wx xs j)+(hAt hs (wx xs j+1)-hAt hs (wx xs j))<=wx xs (j+1)/\wx xs (j+1)+1<=hAt hs (wx xs j)
   split at this <;> split at this <;> lia)
  J (by rw[j8];unfold Qf;rw[bE];exact fx) (by unfold wx;rw[Nat.mod_self,Nat.zero_mod]) (by rw[ep];exact ns) (L _ (aj _)) i (bn hi)
 rw[bH,bA];lia
theorem jy {t:Int}(hb:1<=b)(g:gOf t b=1):ww t b=(t,b):=by unfold ww;rw[g,jK,jK]
theorem yw {m:Nat}(m1:1<=m)(m2:m<=12)(c:ClR hs m r):yt hs r:=by
 obtain⟨Z,U,W,J⟩:=c;refine⟨⟨⋯,⋯⟩,λi x y ex D=>?_⟩;have hi:=(al.mp ex).1;have L:r.getD i 0=x:=by rw[af,ex];rfl
 refine⟨U x (aF ex),?_⟩;by_cases z:i+1<r.length
 .rw[wv4 z]at D;have F:r.getD (i+1) 0=y:=by rw[af,D];rfl
  have:=W i ⋯;rw[L,F]at this;exact this
 .rw[wvd ⋯]at D;have F:r.getD 0 0=y:=by rw[af,D];rfl
  rw[show m-1=i by lia,L,F]at J;exact J
theorem Zm (xs:List Int):wx xs 0=xs.getD 0 0:=by unfold wx;rw[Nat.zero_mod]
theorem wyh (xs:List Int):wx xs xs.length=wx xs 0:=by unfold wx;rw[Nat.mod_self,Nat.zero_mod]
theorem Wd (hs xs:List Int)(T B:Int):Qf hs xs T B xs.length=(wc hs xs).1*T+(wc hs xs).2*B:=by unfold Qf;rw[bE]
theorem wz2 {T:Int}(hB:1<=B)(hx:∀i,i<xs.length->0<=wx xs i/\wx xs i<(hs.length:Int)-1)(hin:∀i,i<xs.length->wx xs i*B<=Qf hs xs T B i/\Qf hs xs T B i<=(wx xs i+1)*B):∀i,i<=xs.length->trT hs T B i=Qf hs xs T B i
 |0,_=>(j8 hs xs T B).symm
 |i+1,hi=>by have ih:=wz2 hB hx hin i ⋯;obtain⟨x0,x1⟩:=hx i ⋯;obtain⟨l1,l2⟩:=hin i ⋯;show zw hs (trT hs T B i) B=_;rw[ih,vf x0 x1 hB l1 l2,u9 ⋯]
theorem qjf (c:yt hs xs):∀i,i<xs.length->0<=wx xs i/\wx xs i<(hs.length:Int)-1:=λi hi=>wjs c _ (aF (km hi))
def Q1 (p:Int×Int):Int×Int:=if p.1>1 then ww (-p.2) (p.1-1) else ww p.2 (1-p.1)
theorem xqz (h:p.1≠1):1<=(Q1 p).2/\gOf (Q1 p).1 (Q1 p).2=1/\p.1*(Q1 p).1+p.2*(Q1 p).2=(Q1 p).1:=by
 unfold Q1;by_cases z:p.1>1
 .rw[ay z];have c:=zt (t:=-p.2) (b:=p.1-1) ⋯;exact⟨zy ⋯,Qh ⋯,by grind⟩
 .rw[ar z];have c:=zt (t:=p.2) (b:=1-p.1) ⋯;exact⟨zy ⋯,Qh ⋯,by grind⟩
theorem xw0 {t:Int}(h:p.1≠1)(hb:1<=b)(g:gOf t b=1)(e:p.1*t+p.2*b=t):Q1 p=(t,b):=by
 unfold Q1;by_cases z:p.1>1
 .rw[ay z,<-jy hb g];exact(jh ⋯ hb).mp (by grind)
 .rw[ar z,<-jy hb g];exact(jh ⋯ hb).mp (by grind)
theorem wqr (c:yt hs xs)(ns:(wc hs xs).1≠1):xw hs (Q1 (wc hs xs)).1 (Q1 (wc hs xs)).2/\trT hs (Q1 (wc hs xs)).1 (Q1 (wc hs xs)).2 xs.length=(Q1 (wc hs xs)).1:=by
 obtain⟨J,_,L⟩:=xqz ns;have F:=λi hi=>row_in c J ns L (i:=i) hi;constructor
 .obtain⟨D,z⟩:=F 0 (by have:=c.1.1;lia);obtain⟨U,W⟩:=qjf c 0 (by have:=c.1.1;lia);rw[j8]at D z;exact⟨cS (cA U ⋯) D,cS z (am ⋯ ⋯)⟩
 .rw[wz2 J (qjf c) F _ (aj _),Wd];exact L
theorem qxw (c:yt hs xs)(a1:(wc hs xs).1=1):∀i,i<xs.length->(hAt hs (wx xs i+1)-hAt hs (wx xs i)).natAbs=1:=by
 have U:∀j,j<xs.length->covR hs (wx xs j) (wx xs (j+1)):=λj z=>c.2 j _ _ (km z) (Qj z);have F:∀j,j<xs.length->1<=(hAt hs (wx xs j+1)-hAt hs (wx xs j)).natAbs:=λj z=>by have:=(U j z).2;unfold loH hiH yn ym at this;split at this <;> split at this <;> lia
 have st:∀j,j<xs.length->(wc hs (xs.take (j+1))).1.natAbs=(wc hs (xs.take j)).1.natAbs*(hAt hs (wx xs j+1)-hAt hs (wx xs j)).natAbs:=λj z=>by rw[yd hs (km z)];unfold qug;dsimp only;rw[gG]
 have L:∀j,j<=xs.length->1<=(wc hs (xs.take j)).1.natAbs:=λj=>by
  induction j with
  |zero=>intro _;rw[iL];show 1<=(1:Int).natAbs;decide
  |succ j ih =>
   intro z;rw[st j ⋯];exact gN (ih ⋯) (F j ⋯)
 have J:∀d j,j+d=xs.length->(wc hs (xs.take j)).1.natAbs<=(wc hs (xs.take xs.length)).1.natAbs:=λd=>by
  induction d with
  |zero=>intro j e;rw[show j=xs.length by lia];exact aj _
  |succ d ih =>
   intro j e;refine bI ?_ (ih (j+1) ⋯);rw[st j ⋯];exact jH _ (F j ⋯)
 have D:∀j,j<=xs.length->(wc hs (xs.take j)).1.natAbs=1:=λj z=>by have h1:=L j z;have h2:=J (xs.length-j) j ⋯;rw[bE,a1]at h2;have:(1:Int).natAbs=1:=rfl;lia
 intro i hi;have:=st i hi;rw[D i ⋯,D (i+1) ⋯]at this;lia
theorem qzy {j:Int}(c:covR hs k j)(o:(hAt hs (k+1)-hAt hs k).natAbs=1):(hAt hs k=j/\hAt hs (k+1)=j+1)\/(hAt hs k=j+1/\hAt hs (k+1)=j):=by have:=c.2;unfold loH hiH yn ym at this;split at this <;> split at this <;> lia
theorem Yf (c:yt hs xs)(a1:(wc hs xs).1=1){t b:Int}(hb:1<=b)(h1:wx xs 0*b<=t)(h2:t<=(wx xs 0+1)*b):∀i,i<=xs.length->wx xs i*b<=Qf hs xs t b i/\Qf hs xs t b i<=(wx xs i+1)*b
 |0,_=>by rw[j8];exact⟨h1,h2⟩
 |i+1,hi=>by
  obtain⟨l1,l2⟩:=Yf c a1 hb h1 h2 i ⋯;have cv:=c.2 i _ _ (km (show i<xs.length by lia)) (Qj (show i<xs.length by lia));have o:=qxw c a1 i ⋯;rw[u9 (show i<xs.length by lia)];generalize Qf hs xs t b i=u at l1 l2;rcases qzy cv o with⟨e1,e2⟩|⟨e1,e2⟩
  .rw[e1,e2];generalize wx xs (i+1)=y;generalize wx xs i=x at l1 l2;have e:y*b+(y+1-y)*(u-x*b)=y*b+(u-x*b):=by rw[show y+1-y=(1:Int) by lia,bA]
   rw[e,bH,bA];rw[bH,bA]at l2;lia
  .rw[e1,e2];generalize wx xs (i+1)=y;generalize wx xs i=x at l1 l2;have e:(y+1)*b+(y-(y+1))*(u-x*b)=y*b+b-(u-x*b):=by rw[show y-(y+1)=(-1:Int) by lia,bH,bA];lia
   rw[e,bH,bA];rw[bH,bA]at l2;lia
theorem qw9 (c:yt hs xs)(a1:(wc hs xs).1=1){t b:Int}(hb:1<=b)(h1:wx xs 0*b<=t)(h2:t<=(wx xs 0+1)*b):trT hs t b xs.length=t:=by
 have D:=Yf c a1 hb h1 h2;have z:(wc hs xs).2=0:=by have p:=Yf c a1 (t:=wx xs 0) (b:=1) ⋯ ⋯ ⋯ xs.length (aj _);have q:=Yf c a1 (t:=wx xs 0+1) (b:=1) ⋯ ⋯ ⋯ xs.length (aj _);rw[Wd,wyh,a1]at p q;lia
 rw[wz2 hb (qjf c) (λi hi=>D i ⋯) _ (aj _),Wd,a1,z];lia
theorem xqf {t:Int}(h:b∣t):b∣zw hs t b:=by unfold zw;exact Int.dvd_add (jI _ _) (Int.dvd_trans (Int.dvd_sub h (jI _ _)) (jI _ _))
theorem xqv {t:Int}(h:b∣trT hs t b i):∀d,b∣trT hs t b (i+d)
 |0=>h
 |d+1=>xqf (xqv h d)
theorem xwd (ok:q8 hs){t b:Int}{m:Nat}(m1:1<=m)(m2:m<=12)(hb:1<=b)(on:xw hs t b)(nd:¬ b∣t)(bk:trT hs t b m=t) :
  ∃r,ClR hs m r/\(wc hs r).1*t+(wc hs r).2*b=t/\r.getD 0 0*b<t/\t<(r.getD 0 0+1)*b:=by
 have n0:∀i,i<=m->¬ b∣trT hs t b i:=λi hi z=>by have:=xqv z (m-i);rw[show i+(m-i)=m by lia,bk]at this;exact nd this
 let s:Nat->Int:=λi=>trT hs t b i/b;have F:∀i,i<=m->s i*b<trT hs t b i/\trT hs t b i<(s i+1)*b:=λi hi=>by have e:=dz (trT hs t b i) b;have e0:=bF (trT hs t b i) (show b≠0 by lia);have e1:=bh (trT hs t b i) (show 0<b by lia);have e2:trT hs t b i%b≠0:=λz=>n0 i hi (Int.dvd_of_emod_eq_zero z);have cm:b*(trT hs t b i/b)=s i*b:=bu _ _;rw[cm]at e;rw[bH,bA];lia
 have sr:∀i,i<=m->0<=s i/\s i<(hs.length:Int)-1:=λi hi=>by
  obtain⟨o1,o2⟩:=Ys ok hb on i;obtain⟨l1,l2⟩:=F i hi;constructor
  .exact eG o1 ⋯
  .by_cases z:s i<(hs.length:Int)-1
   .exact z
   .have:=am (show(hs.length:Int)-1<=s i by lia) (show 0<=b by lia);lia
 have cv:∀i,i<m->cvr hs (s i) (s (i+1)):=λi hi=>by
  obtain⟨Z,W⟩:=sr i ⋯;obtain⟨l1,l2⟩:=F i ⋯;obtain⟨J,y2⟩:=F (i+1) ⋯;have e:trT hs t b (i+1)=hAt hs (s i)*b+(hAt hs (s i+1)-hAt hs (s i))*(trT hs t b i-s i*b):=by show zw hs (trT hs t b i) b=_;exact vf Z W hb ⋯ ⋯
  rw[e]at J y2;rw[bH,bA]at l2 y2;generalize hx:trT hs t b i-s i*b=x at J y2;have xp:0<x:=by lia
  have xb:x<b:=by lia
  generalize s (i+1)=y at J y2;unfold cvr loH hiH;generalize hAt hs (s i)=p at J y2;generalize hAt hs (s i+1)=q at J y2;have ab:∀p q:Int,p<=q->p*b<=p*b+(q-p)*x/\p*b+(q-p)*x<=q*b:=λp q h=>by have a1:0<=(q-p)*x:=cA ⋯ ⋯;have a2:(q-p)*x<=(q-p)*b:=ba ⋯ ⋯;have a3:(q-p)*b=q*b-p*b:=hX _ _ _;lia
  have L:∀u v:Int,u*b<v*b->u<v:=λu v h=>iM h ⋯;rcases Int.le_total p q with h|h
  .obtain⟨k1,k2⟩:=ab p q h;have m1:yn p q=p:=by unfold yn;split <;> lia
   have m2:ym p q=q:=by unfold ym;split <;> lia
   rw[m1,m2];have g1:p<y+1:=L _ _ (by rw[bH,bA];lia);have g2:y<q:=L _ _ ⋯;lia
  .obtain⟨k1,k2⟩:=ab q p h;have m1:yn p q=q:=by unfold yn;split <;> lia
   have m2:ym p q=p:=by unfold ym;split <;> lia
   rw[m1,m2];have ey:p*b+(q-p)*x=q*b+(p-q)*(b-x):=by rw[hX,hX,ke,ke];lia
   have a1:0<=(p-q)*(b-x):=cA ⋯ ⋯;have a2:(p-q)*(b-x)<=(p-q)*b:=ba ⋯ ⋯;have a3:(p-q)*b=p*b-q*b:=hX _ _ _;have g1:q<y+1:=L _ _ (by rw[bH,bA];lia);have g2:y<p:=L _ _ ⋯;lia
 have sm:s m=s 0:=by show trT hs t b m/b=t/b;rw[bk]
 have D:∀i,i<m->((List.range m).map s).getD i 0=s i:=λi hi=>by rw[af,aw,bi hi];rfl
 have U:((List.range m).map s).length=m:=by simp
 have c:ClR hs m ((List.range m).map s):=by
  refine⟨U,λx hx=>?_,λi hi=>?_,?_⟩
  .obtain⟨i,hi,rfl⟩:=aL.mp hx;exact sr i (bn (aq.mp hi))
  .rw[D i ⋯,D (i+1) hi];exact cv i ⋯
  .rw[D (m-1) ⋯,D 0 ⋯,<-sm];have:=cv (m-1) ⋯;rwa [show m-1+1=m by lia]at this
 have cl:=yw m1 m2 c;have ce:∀i,i<m->wx ((List.range m).map s) i=s i:=λi hi=>by unfold wx;rw[U,dB hi,D i hi]
 refine⟨_,c,?_,?_,?_⟩
 .have tt:∀i,i<=m->trT hs t b i=Qf hs ((List.range m).map s) t b i:=λi=>by
   induction i with
   |zero=>intro _;exact(j8 _ _ _ _).symm
   |succ i ih =>
    intro hi;have ih:=ih ⋯;obtain⟨Z,W⟩:=sr i ⋯;obtain⟨l1,l2⟩:=F i ⋯;show zw hs (trT hs t b i) b=_;rw[vf Z W hb ⋯ ⋯,u9 (by rw[U];lia),ce i ⋯,ih]
  have:=tt m (aj _);rw[bk]at this;have tl:=Wd hs ((List.range m).map s) t b;rw[U]at tl;rw[<-tl];exact this.symm
 .rw[D 0 ⋯];exact(F 0 ⋯).1
 .rw[D 0 ⋯];exact(F 0 ⋯).2
def Wj (hs:List Int)(m:Nat)(p:Int×Int):Prop:=(∃r∈x9 hs m,(wc hs r).1≠1/\p=Q1 (wc hs r))\/(p.2=1/\0<=p.1/\p.1<=(hs.length:Int)-1/\trT hs p.1 1 m=p.1)
def vd (hs:List Int)(m:Nat)(k:Int):Prop:=∃r∈x9 hs m,(wc hs r).1=1/\r.getD 0 0=k
theorem Wy (ok:q8 hs){m:Nat}(m1:1<=m)(m2:m<=12){p:Int×Int}(hb:1<=p.2)(g:gOf p.1 p.2=1)(on:xw hs p.1 p.2):trT hs p.1 p.2 m=p.1↔(Wj hs m p\/∃k,vd hs m k/\k*p.2<=p.1/\p.1<=(k+1)*p.2):=by
 constructor
 .intro J;by_cases nd:p.2∣p.1
  .have F:p.2=1:=by have:=jy hb g;have W:=qwu (t:=p.1/p.2) (b:=1) (c:=p.2) ⋯ hb;rw[Int.ediv_mul_cancel nd,bA]at W;rw[this]at W;have h2:=bV Prod.snd W;have Z:=Q7 (t:=p.1/p.2) (b:=1) ⋯;have h2:p.2=(ww (p.1/p.2) 1).2:=h2;lia
   refine .inl (.inr ⟨F,on.1,?_,by rw[F]at J;exact J⟩);have:=on.2;rw[F]at this;lia
  .obtain⟨r,c,e,U,L⟩:=xwd ok m1 m2 hb on nd J;have D:=(vm ok m1).mpr c;by_cases z:(wc hs r).1=1
   .exact .inr ⟨_,⟨r,D,z,rfl⟩,eK U,eK L⟩
   .exact .inl (.inl ⟨r,D,z,(xw0 z hb g e).symm⟩)
 .rintro ((⟨r,D,z,rfl⟩|⟨F,_,_,J⟩)|⟨k,⟨r,D,z,rfl⟩,U,L⟩)
  .have c:=(vm ok m1).mp D;have:=(wqr (yw m1 m2 c) z).2;rwa [c.1]at this
  .rw[F];exact J
  .have c:=(vm ok m1).mp D;have:=qw9 (yw m1 m2 c) z hb (by rw[Zm];exact U) (by rw[Zm];exact L);rwa [c.1]at this
theorem y7 (ok:q8 hs){m:Nat}(m1:1<=m)(m2:m<=12){p:Int×Int}(h:Wj hs m p):1<=p.2/\gOf p.1 p.2=1/\xw hs p.1 p.2:=by
 rcases h with⟨r,F,z,rfl⟩|⟨D,J,h1,_⟩
 .have c:=(vm ok m1).mp F;obtain⟨a,b,_⟩:=xqz z;exact⟨a,b,(wqr (yw m1 m2 c) z).1⟩
 .refine⟨⋯,?_,J,by rw[D];lia⟩;rw[D];have:=Q7 (t:=p.1) (b:=1) ⋯;have:=zy (t:=p.1) (b:=1) ⋯;have e:=qqu (t:=p.1) (b:=1) ⋯;have:(1:Int)/gOf p.1 1=1:=by show(ww p.1 1).2=1;lia
  rw[this]at e;lia
def ju (hs:List Int):Nat->Int->Int
 |0,_=>1
 |t+1,k=>((jr hs k).map (ju hs t)).sum
def crS (hs:List Int)(t:Nat):Int:=(xm (hs.length-1) λk=>ju hs t k).sum
theorem Wc (n:Nat)(g:Nat->Int):(xm n g).length=n:=by unfold xm;rw[ag,aE]
theorem vv (n:Nat)(g:Nat->Int):xm (n+1) g=xm n g++[g n]:=by unfold xm;rw[bK,aR];rfl
theorem wvn (h0:0<=x)(h1:x<n):atI ((xm n g).map V.int) x=some (V.int (g x.toNat)):=by
 have e:((xm n g).map V.int)[x.toNat]?=some (V.int (g x.toNat)):=by unfold xm;rw[aw,aw,bi ⋯];rfl
 have:=kj e;rwa [show((x.toNat:Nat):Int)=x by lia]at this
theorem xkx (ok:q8 hs){t:Nat}(k:Int):wqf ((xm (hs.length-1) λk=>ju hs t k).map V.int) (some (loH hs k)) (some (hiH hs k))=((jr hs k).map (ju hs t)).map V.int:=by
 obtain⟨F,D,J⟩:=wxm ok k;have U:=ok.1;unfold wqf jr;generalize loH hs k=lo at F D;generalize hiH hs k=hi at D J;obtain⟨a,rfl⟩:=gz F;obtain⟨b,rfl⟩:=gz (cS F D);have L:((xm (hs.length-1) λk=>ju hs t k).map V.int).length=hs.length-1:=by rw[ag,Wc]
 rw[L,HT.sIx_nat,HT.sIx_nat,jR ⋯,jR ⋯,bp,bp];refine bY λi=>?_;rw[ee];rcases bo i (b-a) with z|z
 .rw[ay z,dC,aw,aw,bi ⋯];unfold xm;rw[aw,bi ⋯];show some (V.int (ju hs t ((a+i:Nat):Int)))=some (V.int (ju hs t ((a:Int)+(i:Int))));rw[Int.natCast_add]
 .rw[ar ⋯,aw,aQ (by rw[aE];lia)];rfl
def qxh (K:Aa):Sp:=λvs H Q _=>∃(p:Aj) (hs:List Int) (m:Int),vs=[.ref p,.int m]/\SqL K H p (hs.map V.int)/\q8 hs/\1<=m/\m<=12/\∀q H',Same H H'->H' q=some (.lst ((xm m.toNat λi=>crS hs (i+1)).map V.int))->Q (.ref q) H'
include T in
theorem wjd (F:Fun K "_law_crowds" "_law_crowds" zbu f fd):FK P w K mg base 1 f fd ["_law_heights_here","_law_most"] (qxh K):=by
 have sc:=qw7;refine F.okX sc (λvs H Q E h=>by obtain⟨_,_,_,rfl,_⟩:=h;rfl) λ_ _ _ _ H vs Q E hr h=>?_;obtain⟨p,hs,m,rfl,hS,W,m1,m2,k⟩:=h;have o1:=W.1;have o2:=W.2.1;have as:(1000000:Nat)<sizeLine:=by decide
 have ad:(hs.map V.int).length=hs.length:=ag _;refine⟨_,(qj (wu (i:=2) (qr vw (wj xf rfl T.len_ bL (qw (pv 0) qv)) qb))
   (qj (yh (i:=3) (M:=[]) sc.nd rfl (by walk_at "loc") rfl rfl (by walk_at "cap") (by walk_at "has") (by walk_at "cix") rfl (by decide +kernel) rfl (show List.Nodup (["_law_k"]:List Str) by decide +kernel) (xg rfl T.range_ (qw (pv 2) qv)) (λ_ _ _ _ _=>qb))
   (qj (wu (i:=4) (uk qv))
   (qj (Qr bC rfl (xg rfl T.range_ (qw (pv 1) qv)) (wn (i:=5)) (qj (wu (i:=6) (uk qv))
   (qj (Qr bC rfl (xg rfl T.range_ (qw (pv 2) qv)) (wn (i:=7)) (qj (wu (i:=8) (wj (W5 rfl) rfl T.min_ eC (qw (xc zq (pv 0) (pv 7) (λ_ _=>rfl)) (qw (xc zq (pv 0) (qr xv (pv 7) qb) (λ_ _=>rfl)) qv))))
   (qh (vn (qk1 cY dE dF jw (pv 6) (qw (wj (v8 (K:=K) rfl rfl) rfl T.sum_ uh (qw (xq9 xzn (pv 3) (wv3 (pv 8)) (wv3 (wj (Yr rfl) rfl T.max_ eD (qw (xc zq (pv 0) (pv 7) (λ_ _=>rfl)) (qw (xc zq (pv 0) (qr xv (pv 7) qb) (λ_ _=>rfl)) qv))))) qv)) qv))))))
   (qj (wu (i:=3) (pv 6))
   (qh (vn (qk1 cY dE dF jw (pv 4) (qw (wj (v8 (K:=K) rfl rfl) rfl T.sum_ uh (qw (pv 3) qv)) qv))))))))
   (qh (wy (pv 4))))))),?_⟩
 dsimp only [Yw];refine exI rfl ⟨_,_,rfl,.inl hS,wv rfl rfl ?_⟩;rw[ad];refine exI rfl (exI rfl ⟨⋯,⋯,?_⟩);rw[show((hs.length:Int)-1).toNat=hs.length-1 by lia];refine z9 (λ_=>V.int 1) ⋯ (λj H2 R2 hj s2 an=>an) λb nb=>?_;have U:=Same.upd (o:=.lst ((List.range (hs.length-1)).map λ_=>V.int 1)) nb;have Z:upd H b (.lst ((List.range (hs.length-1)).map λ_=>V.int 1)) b=some (.lst ((xm (hs.length-1) λ_=>1).map V.int)):=by rw[upd_same,qzg]
 generalize upd H b (.lst ((List.range (hs.length-1)).map λ_=>V.int 1))=H1 at U Z;refine⟨sz0,λq D=>?_⟩;have ab:H q=none:=by
  cases e:H q with
  |none=>rfl
  |some o=>rw[U _ _ e]at D;cases D
 refine exI rfl (exI rfl ⟨⋯,⋯,?_⟩);refine uc (λt σ H'=>Same H H'/\∃(b:Aj) (z5 z6 z7 z8:Option V),σ=[some (.ref p),some (.int m),some (.int ((hs.length:Int)-1)),some (.ref b),some (.ref q),z5,z6,z7,z8]/\H' b=some (.lst ((xm (hs.length-1) λk=>ju hs t k).map V.int))/\b≠q/\H' q=some (.lst ((xm t λi=>crS hs (i+1)).map V.int)))
  ⟨U.trans (Same.upd D),b,_,_,_,_,rfl,(Same.upd D) _ _ Z,q9 Z D,upd_same⟩ ?_ ?_
 .rintro t σ H2 ht ⟨s2,b,z5,z6,z7,z8,rfl,fb,bq,fq⟩;refine⟨sz0,λc z=>?_⟩;have ac:H c=none:=by
   cases e:H c with
   |none=>rfl
   |some o=>rw[s2 _ _ e]at z;cases z
  have cb:b≠c:=q9 fb z;have cq:q≠c:=q9 fq z;refine exI rfl (exI rfl ⟨⋯,⋯,?_⟩);refine uc (λi σ H'=>Same H H'/\∃(z7 z8:Option V),σ=[some (.ref p),some (.int m),some (.int ((hs.length:Int)-1)),some (.ref b),some (.ref q),some (.int ((0:Int)+t)),some (.ref c),z7,z8]/\H' b=some (.lst ((xm (hs.length-1) λk=>ju hs t k).map V.int))/\H' q=some (.lst ((xm t λi=>crS hs (i+1)).map V.int))/\H' c=some (.lst ((xm i λk=>ju hs (t+1) k).map V.int)))
   ⟨s2.trans (Same.upd z),_,_,rfl,(Same.upd z) _ _ fb,(Same.upd z) _ _ fq,upd_same⟩ ?_ ?_
  .rintro i σ H3 hi ⟨s3,z7,z8,rfl,fb3,fq3,fc3⟩;have L:=s3.sql hS;have a0:=wwp (hs:=hs) (k:=(0:Int)+i) ⋯ ⋯;have a1:=wwp (hs:=hs) (k:=(0:Int)+i+1) ⋯ ⋯;refine exI rfl (exI rfl (exX rfl rfl L a0 (exI rfl (exI rfl (wv rfl rfl (exX rfl rfl L a1 ⟨_,_,rfl,?_⟩))))));refine exI rfl ⟨.inl ⟨rfl,_,SqL.of fc3⟩,?_⟩;refine exI rfl (exI rfl (exI rfl (exI rfl (exI rfl (exX rfl rfl L a0 (exI rfl (exI rfl (wv rfl rfl (exX rfl rfl L a1 ⟨_,_,rfl,?_⟩)))))))));refine exI rfl ⟨b,exI rfl ⟨SqL.of fb3,λp4 n4=>?_⟩⟩;have eg:=xkx (t:=t) W ((0:Int)+i);have eg:wqf ((xm (hs.length-1) λk=>ju hs t k).map V.int) (some (yn (hAt hs ((0:Int)+i)) (hAt hs ((0:Int)+i+1)))) (some (ym (hAt hs ((0:Int)+i)) (hAt hs ((0:Int)+i+1))))=((jr hs ((0:Int)+i)).map (ju hs t)).map V.int:=eg;have J:=Same.upd (H:=H3) (o:=.lst (wqf ((xm (hs.length-1) λk=>ju hs t k).map V.int) (some (yn (hAt hs ((0:Int)+i)) (hAt hs ((0:Int)+i+1)))) (some (ym (hAt hs ((0:Int)+i)) (hAt hs ((0:Int)+i+1)))))) n4;refine⟨p4,(jr hs ((0:Int)+i)).map (ju hs t),rfl,SqL.of (by rw[<-eg];exact upd_same),?_⟩;have ap:=J _ _ fc3;refine⟨c,_,_,rfl,rfl,ap,by rw[ag,Wc];lia,?_⟩;refine⟨Same.upd2 (s3.trans J) ac,_,_,rfl,?_,?_,?_⟩
   .rw[qt cb];exact J _ _ fb3
   .rw[qt cq];exact J _ _ fq3
   .rw[upd_same,vv,aR,fQ];rfl
  .rintro σ H3 ⟨s3,z7,z8,rfl,fb3,fq3,fc3⟩;refine exI rfl ?_;refine⟨_,rfl,.inl ⟨rfl,_,SqL.of fq3⟩,_,rfl,c,_,rfl,SqL.of fc3,q,_,_,rfl,rfl,fq3,by rw[ag,Wc];lia,?_⟩;rw[tn2]at fc3;refine⟨Same.upd2 s3 ab,c,_,_,_,_,rfl,?_,eU cq,?_⟩
   .rw[qt (eU cq)];exact fc3
   .rw[upd_same,vv,aR,tn2];rfl
 .rintro σ H2 ⟨s2,b,z5,z6,z7,z8,rfl,fb,bq,fq⟩;exact exI rfl (k q H2 s2 fq)
def qy6 (K:Aa):Sp:=λvs H Q _=>∃(p:Aj) (hs:List Int) (m r:Int),vs=[.ref p,.int m,.int r]/\SqL K H p (hs.map V.int)/\q8 hs/\1<=m/\m<=12/\∀x H',1<=x->x<=m->(∀i:Nat,1<=i->(i:Int)<x->crS hs (i+1)<=r)->Same H H'->Q (.int x) H'
include T in
theorem xxq (F:Fun K "_law_times" "_law_times" zbv f fd)(zfl:Cal P w K mg base "_law_crowds" 1 (qxh K)):FK P w K mg base 2 f fd ["_law_heights_here","_law_wish","_law_room"] (qy6 K):=by
 have D:=qvp;refine F.okX D (λvs H Q E h=>by obtain⟨_,_,_,_,rfl,_⟩:=h;rfl) λ_ _ _ _ H vs Q E hr h=>?_;obtain⟨p,hs,m,r,rfl,hS,ok,m1,m2,k⟩:=h;refine⟨_,(qj (wu (i:=3) (qm zfl (hr.mono ⋯) rfl qu (qw (pv 0) (qw (pv 1) qv))))
   (qj (wu (i:=4) qb)
   (qj (ug bC (PW.pt (wu2 (wg Zv (pv 4) (pv 1) (wp _)) (wkt (wg qu4 (xc zq (pv 3) (pv 4) (λ_ _=>rfl)) (pv 2) (wp _))))) (qh (xqx (i:=4) D.nd rfl (Or.inl rfl) qb ip_add)))
   (qh (wy (pv 4)))))),?_⟩
 refine exI rfl (exI rfl ⟨p,hs,m,rfl,hS,ok,m1,m2,λq H1 J f1=>?_⟩);refine Wg (λσ H'=>H'=H1/\∃x:Int,1<=x/\x<=m/\(∀i:Nat,1<=i->(i:Int)<x->crS hs (i+1)<=r)/\σ=[some (.ref p),some (.int m),some (.int r),some (.ref q),some (.int x)]) (λσ _=>match σ with|[_,_,_,_,some (.int x)]=>(20-x).toNat|_=>0) ⟨rfl,1,⋯,⋯,λi h1 h2=>absurd h2 ⋯,rfl⟩ ?_ ?_
 .rintro σ H' ⟨rfl,x,x1,x2,hx,rfl⟩;refine exI rfl (exI rfl (wv rfl rfl (exI rfl (jc (λz=>?_) (λz=>?_)))))
  .refine exI rfl (exI rfl (exX rfl rfl (SqL.of f1) (wvn ⋯ ⋯) (exI rfl (wv rfl rfl (exI rfl (jc (λy=>?_) (λy=>?_)))))))
   .refine exI rfl (wv rfl rfl ⟨⟨rfl,x+1,⋯,⋯,λi h1 h2=>?_,rfl⟩,?_⟩)
    .rcases(by lia:(i:Int)<x\/(i:Int)=x) with w|w
     .exact hx i h1 w
     .rw[show i=x.toNat by lia];exact y
    show(20-(x+1)).toNat<(20-x).toNat;lia
   .exact exI rfl (k x _ x1 x2 hx J)
  .exact yx (exI rfl (k x _ x1 x2 hx J))
 .intro σ H Q Q' h hc;obtain⟨v1,e1,Z,e2,i,j,e3,e4,b,e5,q⟩:=hc;refine⟨v1,e1,Z,e2,i,j,e3,e4,b,e5,?_⟩;cases b with
  |false =>
   rw[ar aH]at q ⊢;exact h _ _ q
  |true =>
   rw[ay rfl]at q ⊢;obtain⟨W,e6,U,e7,a1,a2,a3,a4,e8,e9,sq,ea,L,an,i2,j2,ad,ac,b2,ab,q2⟩:=q;exact⟨W,e6,U,e7,a1,a2,a3,a4,e8,e9,sq,ea,L,an,i2,j2,ad,ac,b2,ab,h _ _ q2⟩
theorem xz4 (ok:q8 hs)(k:Int):(jr hs k).length<=24:=by obtain⟨l0,l1,l2⟩:=wxm ok k;have:=ok.2.1;unfold jr;rw[ag,aE];lia
theorem cr_one (ok:q8 hs):crS hs 1<=576:=by
 have z:=ok.2.1;have:∀n:Nat,(xm n λk=>ju hs 1 k).sum<=24*n:=λn=>by
  induction n with
  |zero=>exact cE _
  |succ n ih =>
   rw[vv,cH];have e:ju hs 1 (n:Int)=((jr hs n).length:Int):=by
    show((jr hs n).map (ju hs 0)).sum=_;generalize jr hs n=L
    induction L with
    |nil=>rfl
    |cons r L ih=>rw[aI,bN,ih,aP];show(1:Int)+_=_;lia
   have:=xz4 ok (n:Int);simp only[bN,fv];lia
 have:=this (hs.length-1);unfold crS;lia
theorem wkh (ok:q8 hs):∀(t:Nat) (k:Int),0<=k->k<(hs.length:Int)-1->ju hs t k=k7 (hs.length-1) (zc (x8 hs) t k.toNat)
 |0,k,h0,h1=>by have:=qu0 (n:=hs.length-1) (i:=k.toNat) ⋯ λ_=>1;show(1:Int)=_;rw[<-this];refine Qp λj _=>?_;rw[Int.mul_one];rfl
 |t+1,k,h0,h1=>by show((jr hs k).map (ju hs t)).sum=k7 (hs.length-1) λj=>((x8 hs k.toNat).map λv=>zc (x8 hs) t v.toNat j).sum;rw[qwh h0,<-qup (hs.length-1) (λ(v:Int) j=>zc (x8 hs) t v.toNat j)];congr 1;refine cu λv hv=>?_;have:=W1 ok k v hv;exact wkh ok t v this.1 ⋯
theorem wxg (ok:q8 hs)(m:Nat):crS hs m=k7 (hs.length-1) λi=>k7 (hs.length-1) (zc (x8 hs) m i):=by show k7 (hs.length-1) _=_;refine Qp λi hi=>?_;rw[wkh ok m (i:Int) ⋯ ⋯,bQ]
theorem qk9 (e:∀i,i<n->g i<=h i):k7 n g<=k7 n h:=by
 induction n with
 |zero=>exact cE _
 |succ n ih =>
  have:=ih λi hi=>e i ⋯;have:=e n ⋯;rw[vt,vt];lia
theorem qj8 (h:∀i,0<=g i)(hi:i<n):g i<=k7 n g:=by have:=qu0 hi g;rw[<-this];refine qk9 λk _=>?_;have:=h k;split <;> lia
theorem pow_cr (ok:q8 hs){m f:Nat}(hf:f<hs.length-1):zc (x8 hs) m f f<=crS hs m:=by rw[wxg ok];refine cS (qj8 (g:=zc (x8 hs) m f) (Q8 _ _ _) hf) (qj8 (g:=λi=>k7 (hs.length-1) (zc (x8 hs) m i)) (λi=>?_) hf);have:=qk9 (n:=hs.length-1) (g:=λ_=>0) (h:=zc (x8 hs) m i) λj _=>Q8 _ _ _ _;rwa [Y7 _ _ λ_ _=>rfl]at this
theorem qkp (ok:q8 hs){m:Nat}(hm:1<=m):((x9 hs m).length:Int)<=crS hs m:=by rw[wk6 ok hm,wxg ok];exact qk9 λi hi=>qj8 (Q8 _ _ _) hi
def TabsAt (H:Hp)(p:Aj)(hs:List Int)(m:Nat):Prop:=∃ys,H p=some (.lst ys)/\ys.length=m+1/\∀i v,ys[i]?=some v->∃q,v=.ref q/\MatAt H q (hs.length-1) (zc (x8 hs) i)
theorem TabsAt.same {p:Aj}{m:Nat}(h:TabsAt H p hs m)(s:Same H H'):TabsAt H' p hs m:=by obtain⟨ys,e,l,r⟩:=h;exact⟨ys,s _ _ e,l,λi v z=>let ⟨q,a,b⟩:=r i v z;⟨q,a,b.same s⟩⟩
theorem TabsAt.at_ {p:Aj}{m:Nat}(h:TabsAt H p hs m){t i j:Int}(t0:0<=t)(t1:t<=m)(i0:0<=i)(i1:i<(hs.length:Int)-1)(j0:0<=j)(j1:j<(hs.length:Int)-1) :
  ∃ys q zs q',H p=some (.lst ys)/\atI ys t=some (.ref q)/\H q=some (.lst zs)/\atI zs i=some (.ref q')/\H q'=some (.lst ((xm (hs.length-1) (zc (x8 hs) t.toNat i.toNat)).map V.int))/\atI ((xm (hs.length-1) (zc (x8 hs) t.toNat i.toNat)).map V.int) j=some (.int (zc (x8 hs) t.toNat i.toNat j.toNat)):=by
 obtain⟨ys,fp,l,r⟩:=h;have e:ys[t.toNat]?=some ys[t.toNat]:=ae ⋯;obtain⟨q,U,M⟩:=r _ _ e;obtain⟨zs,z,Z,W⟩:=id M;obtain⟨q',L,J⟩:=M.row z (i:=i.toNat) ⋯;have F:=kj e;have D:=kj L;rw[cn t0,U]at F;rw[cn i0]at D;exact⟨ys,q,zs,q',fp,F,z,D,J,wvn j0 ⋯⟩
theorem CovAt.at_ {p:Aj}(h:CovAt H p hs){i:Int}(i0:0<=i)(i1:i<(hs.length:Int)-1):∃ys q,H p=some (.lst ys)/\atI ys i=some (.ref q)/\H q=some (.lst ((x8 hs i.toNat).map V.int)):=by obtain⟨ys,fp,l,r⟩:=h;have e:ys[i.toNat]?=some ys[i.toNat]:=ae ⋯;obtain⟨q,D,f⟩:=r _ _ e;have z:=kj e;rw[cn i0,D]at z;exact⟨ys,q,fp,z,f⟩
def Zb:Sp:=λvs H Q _=>∃(c tb:Aj) (hs:List Int) (f m:Nat),vs=[.int ((0:Int)+f),.ref c,.ref tb]/\q8 hs/\CovAt H c hs/\TabsAt H tb hs m/\f<hs.length-1/\1<=m/\m<=12/\zc (x8 hs) m f f<=1000 /\
 ∀p ys H',H p=none->Same H H'->H' p=some (.lst ys)->Tups (bgR hs f m (m-1)) ys H'->Q (.ref p) H'
theorem wuk (h:r≠[]):atI (r.map V.int) (-1)=some (V.int (r.getLastD 0)):=by have e:r=r.dropLast++[r.getLast h]:=(dU h).symm;rw[e,aR];have:=Wn (r.dropLast.map V.int) (V.int (r.getLast h));rw[Zc];exact this
include T in
theorem qjr (F:Fun K "rows_from" "rows_from" zbh f fd):FK P w K mg base 1 f fd ["first","covers","tables"] Zb:=by
 have sc:=qyj;refine F.okX sc (λvs H Q E h=>by obtain⟨_,_,_,_,_,rfl,_⟩:=h;rfl) λ_ _ _ s H vs Q E L h=>?_;obtain⟨c,tb,hs,f,m,rfl,J,hC,hT,hf,m1,m2,an,k⟩:=h;have o1:=J.1;have o2:=J.2.1;obtain⟨ts,ft,lt,_⟩:=id hT;refine⟨_,(qj (wu (i:=3) (qr vw (wj xf rfl T.len_ bL (qw (pv 2) qv)) qb))
   (qj (wu (i:=4) (qzz (wg Q9 (xc zq (xc zq (xc zq (pv 2) (pv 3) (λ_ _=>rfl)) (pv 0) (λ_ _=>rfl)) (pv 0) (λ_ _=>rfl)) qb (wp _)) (uk (qw (kr (qw (pv 0) qv)) qv)) (uk qv)))
   (qj (Qr bC rfl (wyd rfl T.range_ (qw (qr vw (pv 3) qb) (qw qb (qw (qx2 Zu qb) qv)))) (wn (i:=5)) (qh (qj2 (i:=4) (M:=[0,1,2,5]) sc.nd rfl (by walk_at "loc") rfl rfl (by walk_at "cap") (by walk_at "has") (by walk_at "cix") rfl (by decide +kernel) rfl rfl (show List.Nodup (["row","onward","first","covers","tables","left"]:List Str) by decide +kernel) (zm (pv 4)) (λ_ _ _ _ _=>(qu2 (K:=K) rfl (xc (j9 (K:=K) rfl) (pv 3) (xc (yp (K:=K) rfl) (pv 0) (qx2 Zu qb) (λ_ _=>rfl)) (λ_ _=>rfl)))) (λ_ _ _ _ _=>(wg Q9 (xc (j9 (K:=K) rfl) (xc (j9 (K:=K) rfl) (xc (j9 (K:=K) rfl) (pv 4) (pv 5) (λ_ _=>rfl)) (pv 1) (λ_ _=>rfl)) (pv 2) (λ_ _=>rfl)) qb (wp _))) (λ_ _ _ _ _=>(qr (xzz (K:=K) rfl) (pv 0) (kr (qw (pv 1) qv)))))))
   (qh (wy (pv 4)))))),?_⟩
 dsimp only [Yw];refine exI rfl ⟨_,_,rfl,.inl (SqL.of ft),wv rfl rfl ?_⟩;rw[lt];have em:(((m+1:Nat):Int)-1).toNat=m:=by lia
 have ef:((0:Int)+f).toNat=f:=by lia
 obtain⟨ys,q,zs,q',e1,e2,e3,e4,e5,e6⟩:=hT.at_ (t:=((m+1:Nat):Int)-1) (i:=(0:Int)+f) (j:=(0:Int)+f) ⋯ ⋯ ⋯ ⋯ ⋯ ⋯;rw[em,ef]at e5 e6;have ad:∀(Pp:St->Hp->Prop),(∀p D H1,H p=none->Same H H1->H1 p=some (.lst D)->Tups (bgR hs f m 0) D H1->Pp [some (.int ((0:Int)+f)),some (.ref c),some (.ref tb),some (.int (((m+1:Nat):Int)-1)),some (.ref p),none] H1)->tAsg (tIf (xzk (tOp (rI0 λi j=>V.bl (decide (j<i))) (tOp (wzz K) (tOp (wzz K) (tOp (wzz K) (j5 2) (j5 3)) (j5 0)) (j5 0)) (tC (V.int 0)))) (tLst (uz (tTup (uz (j5 0) qxp)) qxp)) (tLst qxp)) (W9 4) { nx:=Pp,rt:=Q } [some (.int ((0:Int)+f)),some (.ref c),some (.ref tb),some (.int (((m+1:Nat):Int)-1)),none,none] H:=by
  intro Pp hP;refine exI rfl (exI rfl (exX rfl rfl (SqL.of e1) e2 (exI rfl (exX rfl rfl (SqL.of e3) e4 (exI rfl (exX rfl rfl (SqL.of e5) e6 (wv rfl rfl (exI rfl (jc (λz=>?_) (λz=>?_))))))))))
  .refine exI rfl ⟨sz1,λa na=>⟨sz1,λp np=>?_⟩⟩;have Z:=Same.upd (o:=.tup [.int ((0:Int)+f)]) na;refine hP p _ _ (j3 Z np) (Z.trans (Same.upd np)) upd_same ?_;unfold bgR;rw[ay z];exact .cons ⟨a,rfl,(Same.upd np) _ _ upd_same⟩ .nil
  .refine⟨sz0,λp np=>?_⟩;refine hP p _ _ np (Same.upd np) upd_same ?_;unfold bgR;rw[ar z];exact .nil
 refine ad _ λp D H1 np Z fp U=>?_;refine exI rfl (wv rfl rfl (exI rfl ⟨_,_,rfl,⋯,?_⟩));rw[show(((m+1:Nat):Int)-1-1-0).toNat=m-1 by lia];refine xxh (λi σ H'=>Same H H'/\∃(p:Aj) (D:List V) (z:Option V),σ=[some (.int ((0:Int)+f)),some (.ref c),some (.ref tb),some (.int (((m+1:Nat):Int)-1)),some (.ref p),z]/\H p=none/\H' p=some (.lst D)/\Tups (bgR hs f m i) D H') ⟨Z,p,D,exI rfl ⟨np,fp,U⟩⟩ ?_ ?_
 .rintro i σ H2 hi ⟨s2,p,D,z,rfl,np,fp,U⟩;have bl:=wuz J (m:=m) (t:=i) hf ⋯;have eg:(((m+1:Nat):Int)-1-1-i).toNat=m-1-i:=by lia
  refine exI rfl ⟨p,rfl,⟨_,SqL.of fp⟩,wq5 (K:=K) (bgR hs f m i) (λr=>x8 hs (r.getLastD 0).toNat) (λv=>decide (0<zc (x8 hs) (m-1-i) v.toNat f)) (SqL.of fp) U ⋯ (λr _=>qud J _) (λr a H' R L fa s' W=>?_) (λr a u H' R L hu s' W=>?_) (λr a u H' R L hu hc fa s' W=>?_) λp' ab H' ac s' f' t'=>?_⟩
  .obtain⟨l1,l2,l3⟩:=qzc (Zd J hf i r L);obtain⟨vs,q1,g1,g2,g3⟩:=(hC.same s2).at_ l2 l3;have hz:r≠[]:=λz=>by have:=(Zd J hf i r L).1;rw[z]at this;cases this
   exact exI rfl (exI rfl (exI rfl (exX rfl rfl (SqT.of fa) (wuk hz) (exX rfl rfl (SqL.of (s' _ _ g1)) g2 ⟨q1,rfl,⟨_,SqL.of (s' _ _ g3)⟩,W q1 (SqL.of g3)⟩))))
  .have ur:=W1 J _ u hu;obtain⟨vs,q1,ws,q2,g1,g2,g3,g4,g5,g6⟩:=(hT.same (s2.trans s')).at_ (t:=((m+1:Nat):Int)-1-1-i) (i:=u) (j:=(0:Int)+f) ⋯ ⋯ ur.1 ⋯ ⋯ ⋯;rw[eg,ef]at g6;rw[eg]at g5;exact exI rfl (exI rfl (exX rfl rfl (SqL.of g1) g2 (exI rfl (exX rfl rfl (SqL.of g3) g4 (exI rfl (exX rfl rfl (SqL.of g5) g6 (wv rfl rfl (exI rfl W))))))))
  .have lr:=(Zd J hf i r L).1;have ap:(1000000:Nat)<sizeLine:=by decide
   refine exI rfl (exI rfl ⟨sz1,λb nb=>?_⟩);have s3:=Same.upd (o:=.tup [.int u]) nb;refine⟨_,_,_,_,rfl,rfl,SqT.of (s3 _ _ fa),SqT.new,by rw[ag];show r.length+1<=sizeLine;lia,λz=>?_,λ_ z=>absurd z (by simp),λ_ _ p7 n7=>?_⟩
   .have:=bV List.length z;rw[ag,lr]at this;cases this
   .refine W p7 _ (s3.trans (Same.upd n7)) ?_;rw[upd_same,aR];rfl
  .exact⟨s2.trans s',p',ab,exI rfl ⟨j3 s2 ac,f',t'⟩⟩
 .rintro σ H2 ⟨s2,p,D,z,rfl,np,fp,U⟩;exact exI rfl (k p D H2 np s2 fp U)
def wxb (C CC CT:Aj):Sp:=λvs H Q E=>∃(r:Aj) (hs:List Int) (m:Int),vs=[.ref r,.int m]/\RoadAt C H r hs/\q8 hs/\1<=m/\m<=12/\crS hs m.toNat<=1000 /\
 ∀p ys H',H p=none->Same H H'->H' p=some (.lst ys)->Tups (x9 hs m.toNat) ys H'->Q (.ref p) H'
theorem wjg (hs:List Int)(m i:Nat):((List.range (i+1)).flatMap λf=>bgR hs f m (m-1))=((List.range i).flatMap λf=>bgR hs f m (m-1))++bgR hs i m (m-1):=by rw[bK,io];simp
theorem qv8 (h:∀i,0<=g i){i:Nat}:∀ {n:Nat},i<=n->k7 i g<=k7 n g
 |0,e=>by
  obtain rfl:i=0:=by lia
  exact cE _
 |n+1,e=>by
  rcases(by lia:i=n+1\/i<=n) with z|z
  .subst z;exact cE _
  .have:=qv8 h z;have:=h n;rw[vt];lia
theorem wux (ok:q8 hs){m:Nat}(hm:1<=m){i:Nat}(h:i<=hs.length-1):((((List.range i).flatMap λf=>bgR hs f m (m-1)).length:Nat):Int)<=crS hs m:=by refine cS ?_ (qkp ok hm);unfold x9;rw[qwt,qwt];exact qv8 (λ_=>Int.natCast_nonneg _) h
include T in
theorem xvv (F:Fun K "rows" "rows" zbi f fd)(zaf:CalD P w K mg base "check_count" 1 (Qm qy))(zfm:Cal P w K mg base "ways_up_to" 6 (qxj qk))(zce:Cal P w K mg base "covers_of" 5 (Qu qk))(zaa:MCal P w K mg base qk "width" 1 (jk qk))(zfn:Cal P w K mg base "rows_from" 1 Zb) :
  FK P w K mg base 7 f fd ["road","many"] (wxb qk qy qd):=by
 have sc:=xjw;refine F.okX sc (λvs H Q E h=>by obtain⟨_,_,_,rfl,_⟩:=h;rfl) λ_ _ _ _ H vs Q E U h=>?_;obtain⟨r,hs,m,rfl,J,D,m1,m2,a1,k⟩:=h;obtain⟨tl,an⟩:=T.zad;obtain⟨tw,ad⟩:=T.zah;have o1:=D.1;have o2:=D.2.1;have a2:(1000000:Nat)<sizeLine:=by decide
 refine⟨_,(qj (vn (qm zaf.all (U.mono ⋯) rfl qu (qw (pv 1) (qw qb (qw (uw (v:=V.int 12) rfl an ⟨_,rfl⟩) qv)))))
   (qj (wu (i:=2) (qm zfm (U.mono ⋯) rfl qu (qw (pv 0) (qw (pv 1) qv))))
   (qj (zd (wg Q9 (wj (v8 (K:=K) rfl rfl) rfl T.sum_ uh (qw (vq (M:=[]) rfl rfl (by walk_at "cap") (by walk_at "has") (by walk_at "cix") rfl (by decide +kernel) rfl (show List.Nodup (["counts"]:List Str) by decide +kernel) (zm (xc zq (pv 2) (pv 1) (λ_ _=>rfl))) (λ_ _ _ _ _=>(wj (v8 (K:=K) rfl rfl) rfl T.sum_ uh (qw (pv 0) qv)))) qv)) (uw (v:=V.int 1000) rfl ad ⟨_,rfl⟩) (wp _)) (qh (jg rfl T.zam vg rfl T.zer (qw Wz qv))) xu)
   (qj (wu (i:=3) (qm zce (U.mono ⋯) rfl qu (qw (pv 0) qv)))
   (qj (wu (i:=4) (uk qv))
   (qj (Qr bC rfl (xg rfl T.range_ (qw (vk (pv 0) T.cl zaa (U.mono ⋯) qu) qv)) (wn (i:=5)) (qh (vn (qk1 cY PySem.F.slot_list_extend PySem.F.type_list_extend wyb (pv 4) (qw (qm zfn (U.mono ⋯) rfl qu (qw (pv 5) (qw (pv 3) (qw (pv 2) qv)))) qv)))))
   (qh (wy (pv 4))))))))),?_⟩
 dsimp only [Yw];refine⟨_,rfl,m,1,.int 12,some 12,rfl,.inr ⟨12,rfl,rfl⟩,λ_=>?_,λhw=>absurd ⟨m1,λz e=>by cases e;exact m2⟩ hw⟩;refine exI rfl (exI rfl ⟨r,hs,m,rfl,J,D,⋯,⋯,λtb W H1 s1 f1 l1 g1=>?_⟩);have e:W[m.toNat]?=some W[m.toNat]:=ae ⋯;obtain⟨q,eq,M⟩:=g1 _ _ e;have ea:atI W m=some (.ref q):=by have:=kj e;rwa [cn ⋯,eq]at this
 obtain⟨zs,fq,lz,rz⟩:=id M;have as:TabsAt H1 tb hs m.toNat:=⟨W,f1,l1,g1⟩;refine exI rfl (exI rfl (exX rfl rfl (SqL.of f1) ea ⟨q,rfl,⟨_,SqL.of fq⟩,Qv (K:=K) (λi v _=>v=V.int (k7 (hs.length-1) (zc (x8 hs) m.toNat i))) (λi v H H' p g _ _=>g) (SqL.of fq) ⋯ (λi x H2 R hx s2 J=>?_) λp2 ap H2 n2 s2 f2 l2 g2=>?_⟩))
 .obtain⟨a,rfl,fa⟩:=rz i x hx;exact exI rfl ⟨a,exI rfl ⟨SqL.of (s2 _ _ fa),J _ _ (Same.refl _) rfl λb e=>nomatch e⟩⟩
 have ey:ap=(xm (hs.length-1) λi=>k7 (hs.length-1) (zc (x8 hs) m.toNat i)).map V.int:=by
  refine bY λi=>?_;by_cases z:i<hs.length-1
  .rw[aw,qxm z,ae ⋯,(g2 i _ (ae ⋯)).1];rfl
  .rw[aQ ⋯,aQ (by rw[ag,Wc];lia)]
 rw[ey]at f2;refine⟨p2,exI rfl ⟨SqL.of f2,wv rfl rfl (exI rfl ?_)⟩⟩;have ec:(xm (hs.length-1) λi=>k7 (hs.length-1) (zc (x8 hs) m.toNat i)).sum=crS hs m.toNat:=(wxg D _).symm;rw[ec];refine jc (λz=>absurd z ⋯) (λz=>?_);refine exI rfl ⟨r,hs,rfl,J.same (s1.trans s2),D,λc H3 n3 Z C3=>?_⟩;refine⟨sz0,λp np=>?_⟩;have s4:=Same.upd (o:=.lst []) np;have ac:=s1.trans (s2.trans (Z.trans s4));obtain⟨dx,q0,h1,h2⟩:=id J;refine exI rfl ⟨r,dx,exI rfl ⟨ac _ _ h1,xq (by decide +kernel),r,hs,rfl,J.same ac,exI rfl ⟨⋯,⋯,?_⟩⟩⟩;rw[show((hs.length:Int)-1).toNat=hs.length-1 by lia];have a0:H p=none:=j3 (s1.trans (s2.trans Z)) np;have ax:=s1.trans (s2.trans Z);have T3:=as.same (s2.trans Z);refine uc (λi σ H'=>Same H3 H'/\∃(us:List V) (z:Option V),σ=[some (.ref r),some (.int m),some (.ref tb),some (.ref c),some (.ref p),z]/\H' p=some (.lst us)/\Tups ((List.range i).flatMap λf=>bgR hs f m.toNat (m.toNat-1)) us H')
  ⟨s4,[],exI rfl ⟨upd_same,.nil⟩⟩ ?_ ?_
 .rintro i σ H5 hi ⟨s5,us,z,rfl,f5,t5⟩;have pi:=pow_cr D (m:=m.toNat) hi;have l5:=wux D (m:=m.toNat) ⋯ (i:=i) ⋯;have l6:=wuz D (m:=m.toNat) (t:=m.toNat-1) hi ⋯;refine exI rfl ⟨.inl ⟨rfl,_,SqL.of f5⟩,exI rfl (exI rfl (exI rfl ⟨c,tb,hs,i,m.toNat,rfl,D,C3.same s5,T3.same s5,hi,⋯,⋯,⋯,λp6 ab H6 n6 L f6 t6=>?_⟩))⟩;have lu:=t5.len;have ly:=t6.len;refine⟨p,p6,us,ab,rfl,rfl,L _ _ f5,f6,⋯,?_⟩;refine⟨Same.upd2 (s5.trans L) np,us++ab,exI rfl ⟨upd_same,?_⟩⟩
  .rw[wjg];exact Paired.app ((t5.same L).upd (L _ _ f5)) (t6.upd (L _ _ f5))
 .rintro σ H5 ⟨s5,us,z,rfl,f5,t5⟩;exact exI rfl (k p us H5 a0 (ax.trans s5) f5 t5)
def qzx (K:Aa)(C CB CO CC:Aj):Sp:=λvs H Q E=>∃(r p:Aj) (hs:List Int) (t b m:Int),vs=[.ref r,.ref p,.int m]/\RoadAt C H r hs/\q8 hs/\SqT K H p [.int t,.int b] /\
 (1<=b->Sm 8000 b/\(xw hs t b->(Within m 0 (some 1000)->∀q H',H q=none->Same H H'->PtsAt H' q (qzj hs (ww t b) (m.toNat+1))->Q (.ref q) H')/\(¬ Within m 0 (some 1000)->∀H',Same H H'->E (.ref CC) none H')) /\
  (¬ xw hs t b->∀H',Same H H'->E (.ref CO) none H'))/\(b<1->E (.ref CB) none H)
include T in
theorem wy1 (F:Fun K "walked" "walked" za7 f fd)(zaf:CalD P w K mg base "check_count" 1 (Qm qy))(zak:MCal P w K mg base qk "on_road" 3 (Qz K qk qx qc))
  (zcf:MCal P w K mg base qk "at" 4 (spAt K qk qx qc)):FK P w K mg base 5 f fd ["road","point","many"] (qzx K qk qx qc qy):=by
 have sc:=wyx;refine F.okX sc (λvs H Q E h=>by obtain⟨_,_,_,_,_,_,rfl,_⟩:=h;rfl) λ_ _ _ _ H vs Q E hr h=>?_;obtain⟨r,p,hs,t,b,m,rfl,hR,ab,hp,kq,x⟩:=h;obtain⟨dx,q0,h1,h2⟩:=id hR;obtain⟨tm,an⟩:=T.zai;refine⟨_,(qj (wu (i:=3) (zg (pv 0) T.cl zak (hr.mono ⋯) qu (qw (pv 1) qv)))
   (qj (vn (qm zaf.all (hr.mono ⋯) rfl qu (qw (pv 2) (qw qb (qw (uw (v:=V.int 1000) rfl an ⟨_,rfl⟩) qv)))))
   (qj (wu (i:=4) (uk (qw (pv 3) qv)))
   (qj (ug bC (wg qu4 (wj xf rfl T.len_ bL (qw (pv 4) qv)) (pv 2) (wp _)) (qh (vn (qk1 cY dE dF jw (pv 4) (qw (zg (pv 0) T.cl zcf (hr.mono ⋯) qu (qw (xc zq (pv 4) (qx2 Zu qb) (λ_ _=>rfl)) qv)) qv)))))
   (qh (wy (pv 4))))))),?_⟩
 refine⟨_,rfl,r,dx,_,rfl,h1,xq (by decide +kernel),_,rfl,r,p,hs,t,b,rfl,hR,ab,hp,λhb=>⟨(kq hb).1,λad W H1 D f1=>?_,λas H1 D=>(kq hb).2.2 as H1 D⟩,λz=>x z⟩;obtain⟨sb,k1,_⟩:=kq hb;obtain⟨k2,k3⟩:=k1 ad;refine⟨_,rfl,m,0,.int 1000,some 1000,rfl,.inr ⟨1000,rfl,rfl⟩,λL=>?_,λL=>k3 L _ D⟩;have m0:=L.1;have m1:=L.2 1000 rfl;have P0:=qzd hb ad;refine exI rfl ⟨sz1,λq J=>?_⟩;have ap:H q=none:=by
  cases e:H q with
  |none=>rfl
  |some o=>rw[D _ _ e]at J;cases J
 have dq:W≠q:=q9 f1 J;refine Wg (λσ H2=>∃(n:Nat) (vs:List V),σ=[some (.ref r),some (.ref p),some (.int m),some (.ref W),some (.ref q)]/\(n:Int)<=m/\Same H1 H2/\H2 q=some (.lst vs)/\Paired (PtR H2) vs (qzj hs (ww t b) (n+1)))
  (λ_ H2=>match H2 q with|some (.lst vs)=>(m+1).toNat-vs.length|_=>0) ⟨0,[.ref W],rfl,⋯,Same.upd J,upd_same,.cons ⟨W,rfl,by rw[qt dq];exact f1⟩ .nil⟩ ?_ λσ H Q Q' h ⟨v,e,p',ys,e1,e2,v2,e3,i,j,e4,e5,kk,e6,qq⟩=>⟨v,e,p',ys,e1,e2,v2,e3,i,j,e4,e5,kk,e6,h _ _ qq⟩
 rintro σ H2 ⟨n,vs,rfl,hn,s2,f2,pr⟩;have Z:vs.length=n+1:=by rw[pr.length,yg]
 refine exI rfl ⟨_,_,rfl,.inl (SqL.of f2),exI rfl (wv rfl rfl (exI rfl ?_))⟩;rw[Z];refine jc (λq1=>?_) (λq1=>?_)
 .have Pn:=xxj ab P0 n;obtain⟨v,ev,⟨a,rfl,fa⟩⟩:=uf (i:=n) (b:=itP hs (ww t b) n) pr (by rw[qqz,aG (by rw[yg];exact aj _),yg];simp);have ax:atI vs (-1)=some (.ref a):=by
   have hz:vs≠[]:=λz=>by rw[z]at Z;simp at Z
   have e1:vs=vs.dropLast++[vs.getLast hz]:=(dU hz).symm;have e2:vs.getLast hz=.ref a:=by
    rw[jG];have:vs[n]?=vs[vs.length-1]?:=by rw[Z];rfl
    rw[this,ae ⋯]at ev;exact av ev
   rw[e1,e2];exact Wn _ _
  have ac:=D.trans s2;refine⟨_,rfl,.inl ⟨rfl,_,SqL.of f2⟩,_,rfl,r,dx,_,rfl,ac _ _ h1,xq (by decide +kernel),_,rfl,_,rfl,_,_,_,_,rfl,rfl,SqL.of f2,ax,r,a,hs,(itP hs (ww t b) n).1,(itP hs (ww t b) n).2,rfl,hR.same ac,ab,SqT.of fa,λ_=>⟨(sb.of_le (by have:=Pn.2.1;have:=Pn.1;lia)),λ_ U H3 s3 f3=>?_,λz=>absurd Pn.2.2.2 z⟩,λz=>absurd Pn.1 ⋯⟩;have g2:=s3 _ _ f2;refine⟨_,_,_,rfl,rfl,g2,Jd ⋯,⟨n+1,vs++[.ref U],rfl,⋯,λb o e=>?_,upd_same,?_⟩,?_⟩
  .rw[qt (q9 e J)];exact s3 _ _ (s2 _ _ e)
  .rw[qqz hs (ww t b) (n+1)];refine Paired.snoc (qxk (λ_ _ z=>(z.same s3).upd g2) pr) (PtR.upd ⟨U,rfl,?_⟩ g2);exact f3
  .show(match upd H3 q (.lst (vs++[.ref U])) q with|some (.lst vs)=>(m+1).toNat-vs.length|_=>0)<(match H2 q with|some (.lst vs)=>(m+1).toNat-vs.length|_=>0);rw[upd_same,f2];show(m+1).toNat-(vs++[V.ref U]).length<(m+1).toNat-vs.length;rw[ao,cL];lia
 .have en:m.toNat=n:=by lia
  refine exI rfl (k2 L q H2 ap (D.trans s2) ⟨vs,f2,?_⟩);rw[en];exact pr
def Dist {α:Type}(f:Nat->α)(n:Nat):Prop:=∀i j,i<j->j<n->f i≠f j
theorem Dist.mono {α:Type}{f:Nat->α}{m:Nat}(h:Dist f n)(le:m<=n):Dist f m:=λi j a b=>h i j a ⋯
theorem Dist.succ {α:Type}{f:Nat->α}(h:Dist f n)(h':∀j,j<n->f j≠f n):Dist f (n+1):=λi j a b=>by
 rcases(by lia:j<n\/j=n) with z|z
 .exact h i j a z
 .subst z;exact h' i a
theorem xqm {α:Type}{f:Nat->α}(st:∀i j,f i=f j->f (i+1)=f (j+1)){n u:Nat}(e:f n=f u):∀k,f (n+k)=f (u+k)
 |0=>e
 |k+1=>st _ _ (xqm st e k)
theorem per {α:Type}{f:Nat->α}(st:∀i j,f i=f j->f (i+1)=f (j+1)){n u:Nat}(hu:u<n)(e:f n=f u)(m:Nat):u<=m->f m=f (u+(m-u)%(n-u)):=by
 induction m using Nat.strongRecOn with
 |_ m ih =>
  intro D;rcases bo m n with z|z
  .rw[dB ⋯];congr 1;lia
  .have h1:=xqm st e (m-n);rw[show n+(m-n)=m by lia]at h1;have h2:=ih (u+(m-n)) ⋯ ⋯;rw[h1,h2,show u+(m-n)-u=m-u-(n-u) by lia,<-Nat.mod_eq_sub_mod ⋯]
theorem xk7 {u:Nat}(h:(u:Int)<=m)(hu:u<n):(u:Int)+(m-u)%((n:Int)-u)=((u+(m.toNat-u)%(n-u):Nat):Int):=by
 have D:m-(u:Int)=((m.toNat-u:Nat):Int):=by lia
 have z:(n:Int)-(u:Int)=((n-u:Nat):Int):=by lia
 rw[D,z];push_cast;rfl
theorem pig (N:Nat):∀l:List Nat,l.Nodup->(∀x∈l,x<N)->l.length<=N:=by
 induction N with
 |zero =>
  intro l _ h;cases l with
  |nil=>exact aj _
  |cons a r=>exact absurd (h a (.head _)) ⋯
 |succ N ih =>
  intro l F h;by_cases m:N∈l
  .have h1:=ih (l.erase N) (F.erase N) λx D=>by have a:=(F.mem_erase_iff.mp D);have b:=h x a.2;lia
   rw[List.length_erase_of_mem m]at h1;lia
  .have:=ih l F λx D=>by have b:=h x D;have:x≠N:=λz=>m (z▸D);lia
   lia
theorem pigI {f:Nat->Int}(h:Dist f n)(b:∀i,0<=f i/\f i<=B):(n:Int)<=B+1:=by
 have h1:=pig (B+1).toNat ((List.range n).map λi=>(f i).toNat) (by
  rw[iK,bB]
  refine b7 ?_ (fu (n:=n))
  intro i j hi D F e
  have:=b i
  have:=b j
  exact h i j F (aq.mp D) ⋯) λx z=>by obtain⟨i,_,rfl⟩:=aL.mp z;have:=b i;lia
 rw[ag,aE]at h1;have:=b 0;lia
theorem it_st:∀i j,itP hs p i=itP hs p j->itP hs p (i+1)=itP hs p (j+1):=λi j e=>by show Wp hs (itP hs p i).1 (itP hs p i).2=Wp hs (itP hs p j).1 (itP hs p j).2;rw[e]
theorem tr_st {t:Int}:∀i j,trT hs t b i=trT hs t b j->trT hs t b (i+1)=trT hs t b (j+1):=λi j e=>by show zw hs (trT hs t b i) b=zw hs (trT hs t b j) b;rw[e]
theorem xvm {t:Int}(hb:1<=b)(g:gOf t b=1):ww t b=(t,b):=by unfold ww;rw[g,jK,jK]
theorem it_tr (h:Pt hs c p)(n:Nat):itP hs p n=ww (trT hs p.1 p.2 n) p.2:=by rw[Qg h.1,xvm h.1 h.2.2.1]
theorem xvs (hb:1<=b)(e:ww x b=ww y b):x=y:=by have h1:=(qkj (N:=x) hb).2;have h2:=(qkj (N:=y) hb).2;rw[e]at h1;lia
theorem qx1 (h:Pt hs c p)(i j:Nat):itP hs p i=itP hs p j↔trT hs p.1 p.2 i=trT hs p.1 p.2 j:=by rw[it_tr h,it_tr h];exact⟨λe=>xvs h.1 e,λe=>by rw[e]⟩
theorem xzt (h:Pt hs c p){n:Nat}(d:Dist (itP hs p) n):Dist (trT hs p.1 p.2) n:=λi j a b e=>d i j a b ((qx1 h i j).mpr e)
theorem xk8 (hok:q8 hs)(h:Pt hs c p){n:Nat}(d:Dist (itP hs p) n):(n:Int)<=((hs.length:Int)-1)*p.2+1 :=
 pigI (xzt h d) λi=>Ys hok h.1 h.2.2.2 i
def Qy (p:Int×Int):List Key:=[.inl p.1,.inl p.2]
theorem wqw {q:Int×Int}(e:Qy p=Qy q):p=q:=by unfold Qy at e;simp only[List.cons.injEq,Sum.inl.injEq,and_true]at e;exact kK e.1 e.2
def Q3 {κ:Type}(k:Nat->κ)(n:Nat):List (κ×V):=(List.range n).map λi=>(k i,V.int i)
variable {κ:Type}
theorem qv9 (k:Nat->κ)(n:Nat):Q3 k (n+1)=Q3 k n++[(k n,V.int n)]:=by unfold Q3;rw[bK,aR];rfl
theorem Wb (k:Nat->κ)(n:Nat):(Q3 k n).length=n:=by unfold Q3;rw[ag,aE]
theorem qkm [DecidableEq κ]{k:Nat->κ}{q:κ}{n:Nat}(h:∀j,j<n->k j≠q):Qq (Q3 k n) q=none:=by
 unfold Qq Q3;rw[List.find?_eq_none.mpr]
 .rfl
 .intro x z;obtain⟨i,hi,rfl⟩:=aL.mp z;simpa using h i (aq.mp hi)
theorem qkt [DecidableEq κ]{k:Nat->κ}{j:Nat}:∀ {n:Nat},Dist k n->j<n->Qq (Q3 k n) (k j)=some (.int j)
 |0,_,h=>absurd h ⋯
 |n+1,d,h=>by
  rw[qv9,qkn _ _ _ _ (qkm λi hi=>d i n hi ⋯)];rcases(by lia:j<n\/j=n) with z|z
  .rw[ar (d j n z ⋯),qkt (d.mono ⋯) z]
  .subst z;rw[ay rfl]
theorem wvs {γ δ:Type}{F:α->β->Prop}{G:α->γ->Prop}(g:δ->β)(f:δ->γ)(h:∀a x,F a (g x)->G a (f x)):∀ {l:List δ} {vs:List α},Paired F vs (l.map g)->Paired G vs (l.map f)
 |[],_,.nil=>.nil
 |_::_,_,.cons a t=>.cons (h _ _ a) (wvs g f h t)
def qwj (C CT:Aj):Sp:=λvs H Q E=>∃(r a:Aj) (hs:List Int) (p:Int×Int) (c:Int),vs=[.ref r,.ref a]/\RoadAt C H r hs/\q8 hs/\H a=some (.tup [.int p.1,.int p.2])/\Pt hs c p/\Sm 8000 c /\
 (∀n u q l H',n<=1000->Dist (itP hs p) n->u<n->itP hs p n=itP hs p u->Same H H'->H l=none->H' q=some (.tup [.ref l,.int ((u:Nat):Int)])->PtsAt H' l (qzj hs p n)->Q (.ref q) H')/\(Dist (itP hs p) 1001->∀H',Same H H'->E (.ref CT) none H')
include T in
theorem xxp (F:Fun K "trace" "trace" za8 f fd)(zcf:MCal P w K mg base qk "at" 4 (spAt K qk qx qc)):FK P w K mg base 5 f fd ["road","start"] (qwj qk qd):=by
 have sc:=wuf;refine F.okX sc (λvs H Q E h=>by obtain⟨_,_,_,_,_,rfl,_⟩:=h;rfl) λ_ _ _ _ H vs Q E W h=>?_;obtain⟨r,a,hs,p,c,rfl,hR,ab,ha,hP,ap,k,x⟩:=h;obtain⟨dx,q0,h1,h2⟩:=id hR;obtain⟨tm,an⟩:=T.zag;refine⟨_,(qj (wu (i:=2) xw1)
   (qj (wu (i:=3) (pv 1))
   (qj (ug bC (pt_cmp (wyk (wuy W) (pv 3) (pv 2))) (qj (zd (wg yu (wj qk4 rfl T.len_ bL (qw (pv 2) qv)) (uw (v:=V.int 1000) rfl an ⟨_,rfl⟩) (wp _)) (qh (jg rfl T.zam vg rfl T.zer (qw Wz qv))) xu)
   (qj (xk6 (wuy W) (pv 2) (pv 3) (wj qk4 rfl T.len_ bL (qw (pv 2) qv)) rfl)
   (qh (wu (i:=3) (zg (pv 0) T.cl zcf (W.mono ⋯) qu (qw (pv 3) qv)))))))
   (qh (wy (kr (qw (W6 (wxy rfl) rfl T.list_ cK (qw (pv 2) qv)) (qw (xkq (wuy W) (pv 2) (pv 3) (λ_ _=>rfl)) qv)))))))),?_⟩
 refineλD nD=>exI rfl ?_;refine Wg (λσ H2=>∃(i:Nat) (b:Aj),σ=[some (.ref r),some (.ref a),some (.ref D),some (.ref b)]/\i<=1000/\Dist (itP hs p) i/\Same H H2/\H2 D=some (.dT (Q3 (λj=>Qy (itP hs p j)) i))/\H2 b=some (.tup [.int (itP hs p i).1,.int (itP hs p i).2]))
  (λ_ H2=>match H2 D with|some (.dT kvs)=>1001-kvs.length|_=>0) ⟨0,a,rfl,⋯,λi j _ z=>absurd z ⋯,Same.upd nD,upd_same,by rw[qt (q9 ha nD)];exact ha⟩ ?_ λσ H Q Q' h ⟨v,e,v2,e2,a',o,e3,g,kk,e4,q⟩=>⟨v,e,v2,e2,a',o,e3,g,kk,e4,h _ _ q⟩
 rintro σ H2 ⟨i,b,rfl,hi,hd,s2,f2,fb⟩;have a0:Dist (λj=>Qy (itP hs p j)) i:=λu v uv vi e=>hd u v uv vi (wqw e);have Z:H2 b=some (.tup ((Qy (itP hs p i)).map kV)):=fb;by_cases hj:∃j,j<i/\itP hs p j=itP hs p i
 .obtain⟨j,ji,je⟩:=hj;have L:Qq (Q3 (λj=>Qy (itP hs p j)) i) (Qy (itP hs p i))=some (.int j):=by rw[<-je];exact qkt a0 ji
  have dg:DGet H2 D (.ref b) (some (.int j)):=by have:=DGet.t f2 Z;rwa [L]at this
  refine exI rfl (exI rfl ⟨D,exI rfl ⟨dg,_,rfl,?_⟩⟩);refine yx ?_;refine exI rfl ⟨D,exI rfl ⟨f2,λl vs nl ax=>?_⟩⟩;have J:=Same.upd (o:=.lst vs) nl;have a2:DGet (upd H2 l (.lst vs)) D (.ref b) (some (.int j)):=by have:=DGet.t (J _ _ f2) (J _ _ Z);rwa [L]at this
  refine exI rfl (exI rfl ⟨D,exI rfl ⟨a2,sz2,λq nq=>?_⟩⟩);have U:=J.trans (Same.upd (o:=.tup [.ref l,.int j]) nq);have as:H l=none:=by
   cases e:H l with
   |none=>rfl
   |some o=>rw[s2 _ _ e]at nl;cases nl
  refine k i j q l _ hi hd ji je.symm (s2.trans U) as upd_same ⟨vs,Same.upd nq _ _ upd_same,?_⟩;refine wvs (l:=List.range i) (λj=>(Qy (itP hs p j),V.int j)) (itP hs p) (λv j L=>?_) ax;obtain⟨b',rfl,a1⟩:=L;exact⟨b',rfl,U _ _ a1⟩
 .have hn:∀j,j<i->itP hs p j≠itP hs p i:=λj a b=>hj ⟨j,a,b⟩;have L:Qq (Q3 (λj=>Qy (itP hs p j)) i) (Qy (itP hs p i))=none:=qkm λj a b=>hn j a (wqw b);have dg:DGet H2 D (.ref b) none:=by have:=DGet.t f2 Z;rwa [L]at this
  have ac:=hd.succ hn;refine exI rfl (exI rfl ⟨D,exI rfl ⟨dg,_,rfl,?_⟩⟩);refine Q2 ?_;refine exI rfl ⟨D,exI rfl ⟨f2,rfl,_,rfl,?_⟩⟩;rw[Wb];refine u8 (λq1=>?_) (λq1=>?_)
  .have:i=1000:=by lia
   subst this;exact⟨sz1,x ac _ s2⟩
  .refine exI rfl ⟨D,exI rfl ⟨f2,exI rfl (exI rfl ⟨D,exI rfl ⟨DPut.t f2 Z (Jd (by rw[Wb];lia)),?_⟩⟩)⟩⟩;rw[xx7 _ L,Wb,<-qv9 (λj=>Qy (itP hs p j)) i];have J:Same H (upd H2 D (.dT (Q3 (λj=>Qy (itP hs p j)) (i+1)))):=Same.upd2 s2 nD;have db:b≠D:=λz=>by rw[z,f2]at fb;cases fb
   have ad:upd H2 D (.dT (Q3 (λj=>Qy (itP hs p j)) (i+1))) b=some (.tup [.int (itP hs p i).1,.int (itP hs p i).2]):=by rw[qt db];exact fb
   have f3:upd H2 D (.dT (Q3 (λj=>Qy (itP hs p j)) (i+1))) D=some (.dT (Q3 (λj=>Qy (itP hs p j)) (i+1))):=upd_same;generalize upd H2 D (.dT (Q3 (λj=>Qy (itP hs p j)) (i+1)))=H3 at J ad f3;have Pn:=xxj ab hP i;refine⟨_,rfl,r,dx,_,rfl,J _ _ h1,xq (by decide +kernel),_,rfl,r,b,hs,(itP hs p i).1,(itP hs p i).2,rfl,hR.same J,ab,SqT.of ad,λ_=>⟨(ap.of_le (by have:=Pn.2.1;have:=Pn.1;lia)),λ_ p4 H4 U f4=>?_,λz=>absurd Pn.2.2.2 z⟩,λz=>absurd Pn.1 ⋯⟩;refine⟨⟨i+1,p4,rfl,⋯,ac,J.trans U,U _ _ f3,f4⟩,?_⟩;show(match H4 D with|some (.dT kvs)=>1001-kvs.length|_=>0)<(match H2 D with|some (.dT kvs)=>1001-kvs.length|_=>0);rw[U _ _ f3,f2];show 1001-(Q3 (λj=>Qy (itP hs p j)) (i+1)).length<1001-(Q3 (λj=>Qy (itP hs p j)) i).length;rw[Wb,Wb];lia
def TrAt (H:Hp)(l:Aj)(hs:List Int)(p:Int×Int)(n u:Nat):Prop:=n<=1000/\Dist (itP hs p) n/\u<n/\itP hs p n=itP hs p u/\PtsAt H l (qzj hs p n)
theorem wuj {vs:List V}(h:Paired (PtR H) vs (qzj hs p n))(hi:i<n):∃a,vs[i]?=some (.ref a)/\H a=some (.tup [.int (itP hs p i).1,.int (itP hs p i).2]):=by
 obtain⟨v,z,⟨a,rfl,fa⟩⟩:=uf (i:=i) (b:=itP hs p i) h (by
  unfold qzj
  rw[aw,bi hi]
  rfl)
 exact⟨a,z,fa⟩
def qy1 (K:Aa)(C:Aj):Sp:=λvs H Q _=>∃(r p:Aj) (hs:List Int) (t b:Int),vs=[.ref r,.ref p]/\RoadAt C H r hs/\q8 hs/\SqT K H p [.int t,.int b]/\(1<=b/\Sm 8000 b/\xw hs t b/\¬ Dist (itP hs (ww t b)) 1001) /\
 ∀n u H',Same H H'->n<=1000->Dist (itP hs (ww t b)) n->u<n->itP hs (ww t b) n=itP hs (ww t b) u->Q (if u=0 then .int (n:Nat) else .non) H'
include T in
theorem xxk (F:Fun K "least" "least" zbb f fd)(zak:MCal P w K mg base qk "on_road" 3 (Qz K qk qx qc))(zcg:Cal P w K mg base "trace" 5 (qwj qk qd)):FK P w K mg base 6 f fd ["road","point"] (qy1 K qk):=by
 have sc:=wum;refine F.okX sc (λvs H Q E h=>by obtain⟨_,_,_,_,_,rfl,_⟩:=h;rfl) λ_ _ _ _ H vs Q E W h=>?_;obtain⟨r,p,hs,t,b,rfl,J,ab,hp,⟨hb,L,Z,nd⟩,k⟩:=h;obtain⟨dx,q0,h1,h2⟩:=id J;refine⟨_,(qj (jz (qm zcg (W.mono ⋯) rfl qu (qw (pv 0) (qw (zg (pv 0) T.cl zak (W.mono ⋯) qu (qw (pv 1) qv)) qv))) (kg rfl (xk (wn (i:=2)) (xk (wn (i:=3)) vj))))
   (qh (wy (qzz (wg yu (pv 3) qb (wp _)) (wj xf rfl T.len_ bL (qw (pv 2) qv)) qzu)))),?_⟩
 refine⟨_,rfl,_,rfl,r,dx,_,rfl,h1,xq (by decide +kernel),_,rfl,r,p,hs,t,b,rfl,J,ab,hp,λ_=>⟨L,λ_ p1 H1 U f1=>?_,λz=>absurd Z z⟩,λz=>absurd hb ⋯⟩;refine⟨r,p1,hs,ww t b,b,rfl,J.same U,ab,f1,qzd hb Z,L,λn u q3 l3 H3 n1 d1 u1 e1 s3 _ f3 ac=>?_,λd=>absurd d nd⟩;obtain⟨ws,fl,pr⟩:=ac;have lw:ws.length=n:=by rw[pr.length,yg]
 refine⟨q3,exI rfl ⟨SqT.of f3,rfl,_,_,rfl,_,_,rfl,rfl,?_⟩⟩;have D:=k n u H3 (U.trans s3) n1 d1 u1 e1;refine exI rfl ⟨rfl,_,rfl,u8 (λz=>?_) (λz=>?_)⟩
 .rw[ay ⋯]at D;refine exI rfl ⟨_,_,rfl,.inl (SqL.of fl),?_⟩;rw[lw];exact D
 .rw[ar ⋯]at D;exact D
def wxx:Sp:=λvs H Q _=>∃(l:Aj) (hs:List Int) (p:Int×Int) (n u:Nat) (m:Int),vs=[.ref l,.int u,.int m]/\TrAt H l hs p n u/\0<=m/\∀a,H a=some (.tup [.int (itP hs p m.toNat).1,.int (itP hs p m.toNat).2])->Q (.ref a) H
include T in
theorem xzs (F:Fun K "spot" "spot" za9 f fd):FK P w K mg base 1 f fd ["points","turn","many"] wxx:=by
 have U:=xvw;refine F.okX U (λvs H Q E h=>by obtain⟨_,_,_,_,_,_,rfl,_⟩:=h;rfl) λ_ _ _ _ H vs Q E hr h=>?_;obtain⟨l,hs,p,n,u,m,rfl,⟨n1,hd,J,e,vs,z,pr⟩,Z,k⟩:=h;have L:vs.length=n:=by rw[pr.length,yg]
 refine⟨_,(qj (zd (wg Zv (pv 2) (pv 1) (wp _)) (qh (wy (xc zq (pv 0) (pv 2) (λ_ _=>rfl)))) xu)
   (qh (wy (xc zq (pv 0) (qr xv (pv 1) (qr ku (qr vw (pv 2) (pv 1)) (qr vw (wj xf rfl T.len_ bL (qw (pv 0) qv)) (pv 1)))) (λ_ _=>rfl))))),?_⟩
 refine exI rfl (exI rfl (wv rfl rfl (exI rfl ?_)));refine jc (λW=>?_) (λW=>?_)
 .obtain⟨a,D,fa⟩:=wuj (i:=m.toNat) pr ⋯;refine exI rfl (exI rfl (exX rfl rfl (SqL.of z) ?_ (k a fa)));have:=kj D;rwa [cn Z]at this
 .have hm:(u:Int)<=m:=by lia
  have lt:=eN (m.toNat-u) (show 0<n-u by lia);obtain⟨a,D,fa⟩:=wuj (i:=u+(m.toNat-u)%(n-u)) pr ⋯;rw[<-per it_st J e m.toNat ⋯]at fa;refine exI rfl (exI rfl (exI rfl (exI rfl (wv rfl rfl (exI rfl ⟨_,_,rfl,.inl (SqL.of z),exI rfl (wv rfl rfl (wv rfl rfl ⟨?_,wv rfl rfl (exX rfl rfl (SqL.of z) ?_ (k a fa))⟩))⟩)))))
  .rw[L];show(0:Int)<(n:Int)-u;lia
  .rw[L,xk7 hm J];exact kj D
def xq2 (K:Aa)(C CB CO CC CT:Aj):Sp:=λvs H Q E=>∃(r p:Aj) (hs:List Int) (t b m:Int),vs=[.ref r,.ref p,.int m]/\RoadAt C H r hs/\q8 hs/\SqT K H p [.int t,.int b] /\
 (1<=b->Sm 8000 b/\(xw hs t b->(Within m 0 (some (1000000000000000000000000000000000000000000000000000000000000))->(¬ Dist (itP hs (ww t b)) 1001->∀q H',Same H H'->H' q=some (.tup [.int (itP hs (ww t b) m.toNat).1,.int (itP hs (ww t b) m.toNat).2])->Q (.ref q) H')/\(Dist (itP hs (ww t b)) 1001->∀H',Same H H'->E (.ref CT) none H'))/\(¬ Within m 0 (some (1000000000000000000000000000000000000000000000000000000000000))->∀H',Same H H'->E (.ref CC) none H')) /\
  (¬ xw hs t b->∀H',Same H H'->E (.ref CO) none H'))/\(b<1->E (.ref CB) none H)
include T in
theorem zfo (F:Fun K "far" "far" zba f fd)(zaf:CalD P w K mg base "check_count" 1 (Qm qy))(zak:MCal P w K mg base qk "on_road" 3 (Qz K qk qx qc))
  (zcg:Cal P w K mg base "trace" 5 (qwj qk qd)) (zfp:Cal P w K mg base "spot" 1 wxx):FK P w K mg base 6 f fd ["road","point","many"] (xq2 K qk qx qc qy qd):=by
 have sc:=ze2;refine F.okX sc (λvs H Q E h=>by obtain⟨_,_,_,_,_,_,rfl,_⟩:=h;rfl) λ_ _ _ _ H vs Q E L h=>?_;obtain⟨r,p,hs,t,b,m,rfl,Z,ac,hp,W,x⟩:=h;obtain⟨dx,q0,h1,h2⟩:=id Z;obtain⟨tm,ad⟩:=T.zaj;refine⟨_,(qj (wu (i:=3) (zg (pv 0) T.cl zak (L.mono ⋯) qu (qw (pv 1) qv)))
   (qj (vn (qm zaf.all (L.mono ⋯) rfl qu (qw (pv 2) (qw qb (qw (uw (v:=V.int 1000000000000000000000000000000000000000000000000000000000000) rfl ad ⟨_,rfl⟩) qv)))))
   (qj (jz (qm zcg (L.mono ⋯) rfl qu (qw (pv 0) (qw (pv 3) qv))) (kg rfl (xk (wn (i:=4)) (xk (wn (i:=5)) vj))))
   (qh (wy (qm zfp (L.mono ⋯) rfl qu (qw (pv 4) (qw (pv 5) (qw (pv 2) qv))))))))),?_⟩
 refine⟨_,rfl,r,dx,_,rfl,h1,xq (by decide +kernel),_,rfl,r,p,hs,t,b,rfl,Z,ac,hp,λU=>⟨(W U).1,λab p1 H1 D f1=>?_,λan H1 D=>(W U).2.2 an H1 D⟩,λz=>x z⟩;obtain⟨sb,k1,_⟩:=W U;obtain⟨k2,k3⟩:=k1 ab;refine⟨_,rfl,m,0,.int (1000000000000000000000000000000000000000000000000000000000000),some (1000000000000000000000000000000000000000000000000000000000000),rfl,.inr ⟨1000000000000000000000000000000000000000000000000000000000000,rfl,rfl⟩,λJ=>?_,λJ=>k3 J _ D⟩;obtain⟨k4,k5⟩:=k2 J;refine⟨_,rfl,_,rfl,r,p1,hs,ww t b,b,rfl,Z.same D,ac,f1,qzd U ab,sb,λn u q l H2 n1 d1 u1 e1 s2 nl f2 pa=>?_,λd H2 s2=>k5 d _ (D.trans s2)⟩;have nd:¬ Dist (itP hs (ww t b)) 1001:=λd=>d u n u1 ⋯ e1.symm;refine⟨q,exI rfl ⟨SqT.of f2,rfl,_,_,rfl,_,_,rfl,rfl,?_⟩⟩;refine exI rfl (exI rfl (exI rfl ⟨l,hs,ww t b,n,u,m,rfl,⟨n1,d1,u1,e1,pa⟩,J.1,λa fa=>?_⟩));exact k4 nd a H2 (D.trans s2) fa
def Kp (H H':Hp):Prop:=∀b o,(∀ps,o≠HO.tbl ps)->H b=some o->H' b=some o
theorem Kp.of (s:Same H H'):Kp H H':=λb o _ e=>s b o e
theorem Kp.ofT {T:Aj}{ps:Array Ag}(hT:H T=some (.tbl ps))(s:KeepT T H H'):Kp H H':=λb o n e=>s b o (λz=>by rw[z,hT]at e;cases e;exact n _ rfl) e
theorem Kp.trans {H'':Hp}(a:Kp H H')(b:Kp H' H''):Kp H H'':=λc o n e=>b c o n (a c o n e)
theorem Kp.lst (k:Kp H H'){b:Aj}{xs:List V}(e:H b=some (.lst xs)):H' b=some (.lst xs):=k b _ (λps z=>by cases z) e
theorem Kp.tup (k:Kp H H'){b:Aj}{xs:List V}(e:H b=some (.tup xs)):H' b=some (.tup xs):=k b _ (λps z=>by cases z) e
theorem Kp.none (k:Kp H H'){b:Aj}(hT:∀ps,H b=some (.tbl ps)->False)(e:H' b=.none):H b=.none:=by
 cases q:H b with
 |none=>rfl
 |some o=>rw[k b o (λps z=>hT ps (by rw[q,z])) q]at e;cases e
theorem Kp.upd {p:Aj}(k:Kp H H')(n:H p=.none):Kp H (L2.upd H' p o):=λb u h e=>by rw[qt (q9 e n)];exact k b u h e
theorem Kp.sql {a:Aj}{xs:List V}(k:Kp H H')(h:SqL K H a xs):SqL K H' a xs:=by
 rcases h with (h|⟨o,h⟩)|h
 .exact .inl (.inl (k.lst h))
 .exact .inl (.inr ⟨o,k _ _ (λps z=>by cases z) h⟩)
 .exact .inr h
def PL (H:Hp)(vs:List V)(pt:Nat->Int×Int):Prop:=∀i v,vs[i]?=some v->∃a,v=.ref a/\H a=some (.tup [.int (pt i).1,.int (pt i).2])
theorem PL.kp {vs:List V}{pt:Nat->Int×Int}(h:PL H vs pt)(k:Kp H H'):PL H' vs pt:=λi v e=>by obtain⟨a,e1,e2⟩:=h i v e;exact⟨a,e1,k.tup e2⟩
def OkP (q:Int×Int):Prop:=1<=q.2/\Sm 150 q.1/\Sm 150 q.2
theorem jn {T:Aj}{pos:Pos}{q:Str}(h:k9 T pos q H)(s:Same H H'):k9 T pos q H':=by
 rcases h with h|⟨c,h1,h2⟩
 .exact .inl (s _ _ h)
 .exact .inr ⟨c,s _ _ h1,s _ _ h2⟩
theorem tab_wr {T p:Aj}{pos:Pos}{q:Str}{xs:List V}(h:k9 T pos q H)(hp:H p=some (.lst xs)):k9 T pos q (L2.upd H p o):=by
 rcases h with h|⟨c,h1,h2⟩
 .exact .inl (by rw[qt (λz=>by rw[z,hp]at h;cases h)];exact h)
 .exact .inr ⟨c,by rw[qt (λz=>by rw[z,hp]at h1;cases h1)];exact h1,by rw[qt (λz=>by rw[z,hp]at h2;cases h2)];exact h2⟩
theorem xwy {T:Aj}{pos:Pos}{q:Str}(h:k9 T pos q H):∃ps,H T=some (.tbl ps):=by
 rcases h with h|⟨c,h,_⟩
 .exact⟨_,h⟩
 .exact⟨_,h⟩
abbrev jp:Pos:=⟨37,30,37,72⟩
abbrev Ju:Str:=("ordered" : Str) ++ ".<locals>." ++ "<lambda>"
def lamOf:Stmt->Expr
 |.Return (some (.Call _ _ [⟨_,l,_⟩] _)) _=>l
 |_=>.Constant .none 0 ⟨0,0,0,0⟩
def lamA:Expr->Arguments
 |.Lambda a _ _ _=>a
 |_=>⟨[],[],none,[],[],none,[]⟩
def lamB:Expr->Expr
 |.Lambda _ b _ _=>b
 |e=>e
abbrev xqq:Expr:=lamOf ((zp zap).getD 3 (.Pass ⟨0,0,0,0⟩))
theorem xwz {x y z:Str}(h:([(x,NameKind.local),(y,NameKind.free)]:List (Str×NameKind)).lookup z=some .free):z=y:=by
 rw[bw]at h;split at h
 .cases h
 .rw[bw]at h;split at h
  .rename_i e;simpa using e
  .cases h
def wv2 (K:Aa)(T C:Aj):Sp:=λvs H Q E=>∃(p:Aj) (xs:List V) (pt:Nat->Int×Int),vs=[.ref p]/\SqL K H p xs/\PL H xs pt/\k9 T jp Ju H/\(∀i,i<xs.length->OkP (pt i))/\(∀i j,i<j->j<xs.length->(pt i).1*(pt j).2≠(pt j).1*(pt i).2)/\xs.length<=2000/\∀(l:Aj) (il:List Nat) (H':Hp),Kp H H'->k9 T jp Ju H'->H l=none->il.Perm (List.range xs.length)->il.Pairwise (Wor pt)->H' l=some (.lst (il.map λi=>xs.getD i .non))->Q (.ref l) H'
theorem zfq {f:Aj}{fd:Ad}{cO TT:Aj}(F:FunT K "ordered" zap cO f fd)(T:Txt K mg qf qx qc qy qd qg qk)(hB:BMain mg base)(hC:PySem.W.codeHdIn K cO TT=true)(zca:Cal P w K mg base "check_bottom" 1 (qwz qx)) :
  FK P w K mg base 6 f fd ["points"] (wv2 K TT qx):=by
 have sc:=wz8;have ap:LamSc "point" "scale" ⟨.function,[("point",.local),("scale",.free)],false,false,[]⟩:=⟨rfl,rfl,rfl,rfl,rfl,⋯,λz h=>xwz h,⋯⟩;refine F.okX sc (λvs H Q E h=>by obtain⟨_,_,_,rfl,_⟩:=h;rfl) (λA outer s H vs Q E hr h=>?_);obtain⟨p,xs,pt,rfl,U,hP,hT,J,ax,a5,k⟩:=h;refine⟨_,(qj (Qr bC rfl (zm (pv 0)) (wn (i:=1)) (qh (vn (qm zca (hr.mono ⋯) rfl qu (qw (xc kh (pv 1) qb (λ_ _=>rfl)) qv)))))
   (qj (wu (i:=2) (wk9 (wy9 rfl) rfl T.max_ eD (qw (vq (M:=[]) rfl rfl (by walk_at "cap") (by walk_at "has") (by walk_at "cix") rfl (by decide +kernel) rfl (show List.Nodup (["point"]:List Str) by decide +kernel) (zm (pv 0)) (λ_ _ _ _ _=>(xc (yp (K:=K) rfl) (pv 0) qb (λ_ _=>rfl)))) qv) (wv6 qb xx1)))
   (qj (wu (i:=3) (qr w8 (pv 2) (pv 2)))
   (qh (wy (wxr (qyz (k:=0) (params:=lamA xqq) (body:=lamB xqq) (qual:=Ju) (pm:=(mg "__name__").getD .none) (x := "point") (y := "scale") (iy:=3) ap (hr.mono ⋯) rfl rfl rfl rfl (by intro _ _ _;rfl) (λ_ _ _ _ _ _ _=>(qr jd (qr w8 (xc (yp (K:=K) rfl) (pv 0) qb (λ_ _=>rfl)) (pv 1)) (xc (yp (K:=K) rfl) (pv 0) qb (λ_ _=>rfl))))) rfl T.sorted_ fW (qw (pv 0) qv) (wv6 (pe_lam hB rfl hC rfl rfl) xx1))))))),?_⟩
 refine exI rfl ⟨p,rfl,⟨_,U⟩,qun (K:=K) (a:=p) (xs:=xs) (λi σ H1=>H1=H/\(∀j,j<i->1<=(pt j).2)/\∃z,σ=[some (.ref p),z,none,none]) ⟨rfl,λj h=>absurd h ⋯,_,rfl⟩ ?_ ?_ ?_⟩
 .rintro i σ H1 _ ⟨rfl,_,_,_⟩;exact U
 .rintro i y σ H1 hy ⟨rfl,hn,z,rfl⟩;obtain⟨a,rfl,fa⟩:=hP i y hy;have hi:i<xs.length:=(al.mp hy).1;refine⟨_,rfl,_,_,_,_,rfl,rfl,SqT.of fa,rfl,_,rfl,λh1=>⟨rfl,λj D=>?_,_,rfl⟩,λh2=>?_⟩
  .by_cases e:j=i
   .rw[e];exact h1
   .exact hn j ⋯
  .exact absurd (J i hi).1 ⋯
 .rintro σ H1 ⟨rfl,hn,z,rfl⟩;refine exI rfl ⟨p,rfl,⟨_,U⟩,Qv (K:=K) (a:=p) (xs:=xs) (λj v _=>v=.int (pt j).2) (λi v H H' p g _ _=>g) U ⋯ (λi x H2 R hx hs hR=>?_) λp2 ys H2 a3 s2 f2 a4 ad=>?_⟩
  .obtain⟨a,rfl,fa⟩:=hP i x hx;exact exI rfl (exX rfl rfl (SqT.of (hs _ _ fa)) rfl (hR _ _ (Same.refl _) rfl λb e=>nomatch e))
  have ey:ys=((List.range xs.length).map λj=>(pt j).2).map V.int:=by
   refine bY λj=>?_;rw[bp,aw];by_cases D:j<xs.length
   .rw[bi D];have e:ys[j]?=some ys[j]:=ae ⋯;rw[e,(ad j _ e).1];rfl
   .rw[aQ ⋯,aQ (by rw[aE];lia)];rfl
  rw[ey]at f2;refine⟨p2,_,1,rfl,rfl,SqL.of f2,λG a1 ad=>?_⟩;have L:∀i,i<xs.length->(pt i).2<=G:=λi hi=>a1 _ (aL.mpr ⟨i,aq.mpr hi,rfl⟩);have gs:Sm 150 G:=by
   rcases ad with h|⟨_,h⟩
   .obtain⟨i,hi,rfl⟩:=aL.mp h;exact(J i (aq.mp hi)).2.2
   .rw[h];unfold Sm;decide +kernel
  refine exI rfl (exI rfl (wv rfl rfl ⟨gs.ok gs ⋯,?_⟩));refine exI rfl ⟨jn hT s2,λg c' ctv H3 kT tA ng fg=>?_⟩;obtain⟨ps,as⟩:=xwy (jn hT s2);have k3:Kp H2 H3:=Kp.ofT as kT;have Z:Kp H1 H3:=(Kp.of s2).trans k3;have P3:=hP.kp Z;refine⟨p,xs,(List.range xs.length).map (λi=>Jc (G*G) (pt i)),g,c',ctv,.int (G*G),rfl,rfl,Z.sql U,⋯,?_,by rw[ag,aE],fg,tA.2,rfl,λi v hv=>?_,λl il nl st=>?_⟩
  .refine bg.mpr λi j hi D an=>?_;rw[ag,aE]at hi D;simp only[gS,List.getElem_range];intro z;have w:=wzq (J i hi).1 (J j D).1 (L i hi) (L j D) (.inr ⟨z,an⟩);have w':=λh=>wzq (pt:=pt) (i:=j) (j:=i) (J j D).1 (J i hi).1 (L j D) (L i hi) h;rcases w with w|⟨w,_⟩
   .exact kD _ (by have:=wvu (J i hi).1 (J j D).1 (L i hi) (L j D) w;rw[z]at this;exact this)
   .exact ax i j an D w
  .obtain⟨a,rfl,fa⟩:=P3 i v hv;have hi:i<xs.length:=(al.mp hv).1;obtain⟨o1,o2,o3⟩:=J i hi;refine exI rfl (exX rfl rfl (SqT.of fa) rfl (exI rfl (wv rfl rfl ⟨o2.ok (gs.mul gs) ⋯,exI rfl (exX rfl rfl (SqT.of fa) rfl (wv rfl rfl ⟨⟨⋯,o3.mono ⋯⟩,?_,rfl⟩))⟩)));rw[af,aw,bi hi];rfl
  .have a0:∀ps,H1 l=some (.tbl ps)->False:=λps e=>by
    obtain⟨a2,e2⟩:=xwy hT;have:H3 l=none:=nl;by_cases h:l=TT
    .rw[h,tA.1]at this;cases this
    .rw[kT l _ h (s2 _ _ e)]at this;cases this
   have n1:H1 l=none:=Z.none a0 nl;refine k l il _ (Z.upd n1) (jn (.inr ⟨c',tA⟩) (Same.upd nl)) n1 st.1 ?_ upd_same;refine st.2.imp_of_mem λ{i j} hi D h=>?_;have ac:i<xs.length:=aq.mp (st.1.mem_iff.mp hi);have ab:j<xs.length:=aq.mp (st.1.mem_iff.mp D);have e:∀i,i<xs.length->((List.range xs.length).map λi=>Jc (G*G) (pt i)).getD i 0=Jc (G*G) (pt i):=λi h=>by rw[af,aw,bi h];rfl
   rw[e i ac,e j ab]at h;exact wzq (J i ac).1 (J j ab).1 (L i ac) (L j ab) h
def inK (p:Int×Int)(k:Int):Bool:=decide (k*p.2<=p.1/\p.1<=(k+1)*p.2)
def y6 (ws:List Int)(p:Int×Int):Bool:=ws.any (inK p)
def liesV (p:Int×Int):V->V
 |.int k=>.bl (inK p k)
 |_=>.non
def wx9 (K:Aa):Sp:=λvs H Q _=>∃(a q:Aj) (p:Int×Int) (ws:List Int),vs=[.ref a,.ref q]/\SqT K H a [.int p.1,.int p.2]/\SqL K H q (ws.map V.int)/\ws.length<=1000/\(∀k∈ws,0<=k/\k<24)/\∀H',Same H H'->Q (.bl (y6 ws p)) H'
include T in
theorem xkp (F:Fun K "lies_in" "lies_in" zbm f fd):FK P w K mg base 1 f fd ["point","stretches"] (wx9 K):=by
 have U:=wzt;refine F.okX U (λvs H Q E h=>by obtain⟨_,_,_,_,rfl,_⟩:=h;rfl) λ_ _ _ _ H vs Q E hr h=>?_;obtain⟨a,q,p,ws,rfl,hA,J,hl,hw,k⟩:=h;refine⟨_,(qj (jz (pv 0) (kg rfl (xk (wn (i:=2)) (xk (wn (i:=3)) vj))))
   (qh (wy (wj (qvj (K:=K) rfl rfl) rfl T.any_ PyProof.Rows.boot_any (qw (vq (M:=[2,3]) rfl rfl (by walk_at "cap") (by walk_at "has") (by walk_at "cix") rfl (by decide +kernel) rfl (show List.Nodup (["stretch","top","bottom"]:List Str) by decide +kernel) (zm (pv 1)) (λ_ _ _ _ _=>(Y4 (W3 wz9 (pv 1) (qr w8 (pv 0) (pv 2)) (wp _)) (Ym (W3 qu4 (pv 1) (qr w8 (qr xv (pv 0) qb) (pv 2)) (wp _)))))) qv))))),?_⟩
 refine exI rfl ⟨a,exI rfl ⟨hA,rfl,_,_,rfl,_,_,rfl,rfl,?_⟩⟩;refine exI rfl ⟨q,rfl,⟨_,J⟩,wx0 (K:=K) (liesV p) (λx b z=>by cases x <;> cases z) J (by rw[ag];lia) (λx H' R hx hs hR=>?_) λp2 H2 np s2 L=>?_⟩
 .obtain⟨i,hi,rfl⟩:=aL.mp hx;obtain⟨i0,i1⟩:=hw i hi;have Z:∀x:Int,IntMulOk i x:=λx=>IntMulOk.of_left (intBits_le_64 ⋯ ⋯);have W:∀x:Int,IntMulOk (i+1) x:=λx=>IntMulOk.of_left (intBits_le_64 ⋯ ⋯);refine exI rfl (exI rfl (exI rfl (wv rfl rfl ⟨Z _,wv rfl rfl (exI rfl ?_)⟩)));have D:R (.bl (decide (i*p.2<=p.1/\p.1<=(i+1)*p.2))) H':=hR H' (Same.refl _);refine jc (λz=>?_) (λz=>?_)
  .refine exI rfl (exI rfl (wv rfl rfl (exI rfl (wv rfl rfl ⟨W _,wv rfl rfl ?_⟩))));have e:decide (i*p.2<=p.1/\p.1<=(i+1)*p.2)=decide (p.1<=(i+1)*p.2):=by
    by_cases y:p.1<=(i+1)*p.2
    .rw[aS y,aS ⟨z,y⟩]
    .rw[bz y,bz (λw=>y w.2)]
   rw[e]at D;exact D
  .rw[bz (λw=>z w.1)]at D;exact D
 .have e:(ws.map V.int).map (liesV p)=(ws.map (inK p)).map V.bl:=by rw[bp,bp];rfl
  rw[e]at L;refine⟨p2,exI rfl ⟨SqL.of L,?_⟩⟩;have e2:(ws.map (inK p)).any id=y6 ws p:=by unfold y6;rw[List.any_map];rfl
  rw[e2];exact k _ s2
def qkg (hs:List Int)(m:Nat):List (Int×Int):=((List.range hs.length).filter λc:Nat=>decide (itP hs ((0:Int)+c,1) m=((0:Int)+c,1))).map λc:Nat=>((0:Int)+c,(1:Int))
def qjm (C:Aj):Sp:=λvs H Q _=>∃(r:Aj) (hs:List Int) (m:Int),vs=[.ref r,.int m]/\RoadAt C H r hs/\q8 hs/\1<=m/\m<=12/\∀p ys H',H p=none->Same H H'->H' p=some (.lst ys)->Paired (PtR H') ys (qkg hs m.toNat)->Q (.ref p) H'
theorem qx5 (h:PtR H v p)(k:∀b o,(∀xs,o≠HO.lst xs)->H b=some o->H' b=some o):PtR H' v p:=by obtain⟨a,e,f⟩:=h;exact⟨a,e,k a _ (λxs z=>by cases z) f⟩
theorem low1 (x:Int):ww x 1=(x,1):=by
 have h1:=zy (t:=x) (b:=1) ⋯;have h2:=Q7 (t:=x) (b:=1) ⋯;have h3:=zt (t:=x) (b:=1) ⋯;have e2:(ww x 1).2=1:=by lia
 rw[e2]at h3;exact kK ⋯ e2
theorem Qx {α β:Type}{R:α->β->Prop}{f:Nat->α}{g:Nat->β}:∀ {l:List Nat},(∀i∈l,R (f i) (g i))->Paired R (l.map f) (l.map g)
 |[],_=>.nil
 |i::l,h=>.cons (h i (.head _)) (Qx λj hj=>h j (.tail _ hj))
include T in
theorem xxt (F:Fun K "corners_back" "corners_back" zbl f fd)(zaa:MCal P w K mg base qk "width" 1 (jk qk))(zfr:Cal P w K mg base "walked" 5 (qzx K qk qx qc qy)) :
  FK P w K mg base 6 f fd ["road","many"] (qjm qk):=by
 have sc:=qq2;refine F.okX sc (λvs H Q E h=>by obtain⟨_,_,_,rfl,_⟩:=h;rfl) λ_ _ _ s H vs Q E Z h=>?_;obtain⟨r,hs,m,rfl,hR,L,m1,m2,k⟩:=h;have o1:=L.1;have o2:=L.2.1;obtain⟨dx,q0,h1,h2⟩:=id hR;refine⟨_,(qj (yh (i:=2) (M:=[]) sc.nd rfl (by walk_at "loc") rfl rfl (by walk_at "cap") (by walk_at "has") (by walk_at "cix") rfl (by decide +kernel) rfl (show List.Nodup (["corner"]:List Str) by decide +kernel) (xg rfl T.range_ (qw (qr xv (vk (pv 0) T.cl zaa (Z.mono ⋯) qu) qb) qv)) (λ_ _ _ _ _=>(kr (qw (pv 0) (qw qb qv)))))
   (qh (wy (Yx (M:=[0,1]) rfl rfl (by walk_at "cap") (by walk_at "has") (by walk_at "cix") rfl (by decide +kernel) rfl (show List.Nodup (["corner","road","many"]:List Str) by decide +kernel) (zm (pv 2)) (λ_ _ _ _ _=>(wg (xkr (K:=K) rfl Z.units) (xc (j9 (K:=K) rfl) (qm zfr (Z.mono ⋯) rfl jq (qw (pv 1) (qw (pv 0) (qw (pv 2) qv)))) (pv 2) (λ_ _=>rfl)) (pv 0) (wp _))) (λ_ _ _ _ _=>(pv 0)))))),?_⟩
 refine exI rfl ⟨r,dx,exI rfl ⟨h1,xq (by decide +kernel),r,hs,rfl,hR,wv rfl rfl (exI rfl ⟨⋯,⋯,?_⟩)⟩⟩;rw[show((hs.length:Int)-1+1).toNat=hs.length by lia];refine ww2 (λi v H=>PtR H v ((0:Int)+i,1)) (λi v H1 H2 g st=>qx5 g st) ⋯ (λi H' R hi s' ax=>?_) λp1 D H1 n1 J f1 U g1=>?_
 .exact exI rfl ⟨sz2,λp np=>ax _ _ (Same.upd np) ⟨p,rfl,upd_same⟩⟩
 refine exI rfl ⟨p1,rfl,⟨_,SqL.of f1⟩,Zt (K:=K) (λi=>decide (itP hs ((0:Int)+i,1) m.toNat=((0:Int)+i,1))) (SqL.of f1) ⋯ (λi x H2 R W s2 ab=>?_) (λi x H2 R W _ s2 ab=>?_) λp3 H3 n3 s3 f3=>?_⟩
 .obtain⟨a,rfl,fa⟩:=g1 i x W;have hi:i<hs.length:=by rw[<-U];exact(al.mp W).1
  have ac:=s2 _ _ fa;have an:=J.trans s2;have on:xw hs ((0:Int)+i) 1:=⟨⋯,⋯⟩;refine⟨_,rfl,_,rfl,_,rfl,r,a,hs,(0:Int)+i,1,m,rfl,hR.same an,L,SqT.of ac,λ_=>⟨Sm.small ⋯ ⋯ ⋯,λ_=>⟨λ_ q H4 nq s4 P4=>?_,λz=>absurd ⟨⋯,λy e=>by cases e;lia⟩ z⟩,λz=>absurd on z⟩,λz=>absurd z ⋯⟩;rw[low1]at P4;obtain⟨ad,f4,ap⟩:=P4;obtain⟨v,ev,⟨b,rfl,fb⟩⟩:=uf (i:=m.toNat) (b:=itP hs ((0:Int)+i,1) m.toNat) ap (by rw[qqz,aG (by rw[yg];exact aj _),yg];simp);have ea:atI ad m=some (.ref b):=by have:=kj ev;rwa [cn ⋯]at this
  refine exI rfl (exX rfl rfl (SqL.of f4) ea (exI rfl ?_));refine⟨ptD _,ptD ((0:Int)+i,1),wqb (SqT.of fb),wqb (SqT.of (s4 _ _ ac)),rfl,rfl,xwm,?_⟩;refine exI rfl ?_;show R (PyData.eqv (ptD (itP hs ((0:Int)+i,1) m.toNat)) (ptD ((0:Int)+i,1))) H4;rw[wxf];exact ab _ s4
 .exact exI rfl (ab _ (Same.refl _))
 .refine k p3 _ H3 (j3 J n3) (J.trans s3) f3 ?_;unfold Qw qkg;rw[U];refine Qx λi hi=>?_;have as:i<D.length:=by rw[U];exact aq.mp (bO.mp hi).1
  have e:D[i]?=some (D.getD i .non):=by rw[af,ae as];rfl
  exact(g1 i _ e).same s3
def two (p:Int×Int):List Int:=[p.1,p.2]
theorem xz2 {q:Int×Int}(h:two p=two q):p=q:=by unfold two at h;exact kK (i8 h).1 (i8 (i8 h).2).1
theorem v6 {α:Type}{l:List α}{x d:α}(h:l[i]?=some x):l.getD i d=x:=by rw[af,h];rfl
def qkd (hs:List Int)(m:Nat):List (Int×Int):=(((List.range (x9 hs m).length).filter λi=>!decide ((wc hs ((x9 hs m).getD i [])).1=1)).map λi=>Q1 (wc hs ((x9 hs m).getD i [])))++qkg hs m
theorem xq8 (ok:q8 hs){m:Nat}{p:Int×Int}:p∈qkg hs m↔(p.2=1/\0<=p.1/\p.1<=(hs.length:Int)-1/\trT hs p.1 1 m=p.1):=by
 have F:=ok.1;have tl:∀t:Int,itP hs (t,1) m=(trT hs t 1 m,1):=λt=>by have:=Qg (hs:=hs) (t:=t) (b:=1) ⋯ m;rw[low1,low1]at this;exact this.symm
 unfold qkg;rw[aL];constructor
 .rintro⟨c,z,rfl⟩;obtain⟨h1,h2⟩:=bO.mp z;have h1:=aq.mp h1;have h2:=cx h2;rw[tl]at h2;refine⟨rfl,?_,?_,(Prod.ext_iff.mp h2).1⟩
  .show(0:Int)<=0+c;lia
  .show(0:Int)+c<=_;lia
 .rintro⟨h1,h2,J,D⟩;refine⟨p.1.toNat,bO.mpr ⟨aq.mpr ⋯,?_⟩,kK (by show(0:Int)+(p.1.toNat:Int)=p.1;lia) h1.symm⟩;rw[show(0:Int)+(p.1.toNat:Int)=p.1 by lia,tl,D];exact aS rfl
theorem qyb {m:Nat}(h:r∈x9 hs m):∃i,i<(x9 hs m).length/\(x9 hs m).getD i []=r:=by obtain⟨i,hi,e⟩:=dj h;exact⟨i,hi,by rw[af,ae hi,e];rfl⟩
theorem Z7 {m:Nat}(h:i<(x9 hs m).length):(x9 hs m).getD i []∈x9 hs m:=by rw[af,ae h];exact bD h
theorem ww1 (ok:q8 hs){m:Nat}{p:Int×Int}:p∈qkd hs m↔Wj hs m p:=by
 unfold qkd Wj;rw[aX,xq8 ok,aL];refine or_congr ?_ Iff.rfl;constructor
 .rintro⟨i,hi,rfl⟩;obtain⟨h1,h2⟩:=bO.mp hi;refine⟨_,Z7 (aq.mp h1),λz=>?_,rfl⟩;rw[z]at h2;cases h2
 .rintro⟨r,D,h1,rfl⟩;obtain⟨i,hi,rfl⟩:=qyb D;exact⟨i,bO.mpr ⟨aq.mpr hi,by rw[bz h1];rfl⟩,rfl⟩
theorem Zf (ok:q8 hs){m:Nat}(m1:1<=m)(m2:m<=12){p:Int×Int}(h:Wj hs m p):OkP p:=by
 obtain⟨U,_,F⟩:=y7 ok m1 m2 h;have Z:=ok.2.1;have ac:p.2<=36520347436056577:=by
  rcases h with⟨r,L,z,rfl⟩|⟨e1,_⟩
  .have c:=(vm ok m1).mp L;have D:=J1 ok (xs:=r) r.length;rw[bE,c.1]at D;have D:(wc hs r).1.natAbs<=24 ^ 12:=bI D (dG ⋯ m2);have J:(24:Nat) ^ 12=36520347436056576:=by decide
   rw[J]at D;unfold Q1;split
   .have:=Q7 (t:=-(wc hs r).2) (b:=(wc hs r).1-1) ⋯;lia
   .have:=Q7 (t:=(wc hs r).2) (b:=1-(wc hs r).1) ⋯;lia
  .lia
 have top:p.1<=24*p.2:=cS F.2 (am ⋯ ⋯);have W:=F.1;exact⟨U,Sm.small ⋯ ⋯ ⋯,Sm.small ⋯ ⋯ ⋯⟩
theorem qjq (ok:q8 hs){m:Nat}(m1:1<=m){i:Nat}(h:i<(x9 hs m).length):0<=((x9 hs m).getD i []).getD 0 0/\((x9 hs m).getD i []).getD 0 0<(hs.length:Int)-1:=by
 have c:=(vm ok m1).mp (Z7 h);refine c.2.1 _ ?_;have l:0<((x9 hs m).getD i []).length:=by rw[c.1];lia
 generalize (x9 hs m).getD i []=r at l;rw[af,ae l];exact bD l
structure BackOf (hs:List Int)(m:Nat)(pts:List (Int×Int))(ws:List Int):Prop where
 wup:ws.Pairwise (·<·)
 wmem:∀v,v∈ws↔vd hs m v
 pup:pts.Pairwise λp q=>p.1*q.2<q.1*p.2
 pmem:∀p,p∈pts↔(Wj hs m p/\y6 ws p=false)
 wfew:ws.length<=24
 pfew:pts.length<=1025
def qyc (C TT:Aj):Sp:=λvs H Q _=>∃(r:Aj) (hs:List Int) (m:Int),vs=[.ref r,.int m]/\RoadAt C H r hs/\q8 hs/\1<=m/\m<=12/\crS hs m.toNat<=1000/\k9 TT jp Ju H /\
 ∀(a lp lw:Aj) (ys:List V) (pts:List (Int×Int)) (ws:List Int) (H':Hp),Kp H H'->k9 TT jp Ju H'->H' a=some (.tup [.ref lp,.ref lw])->H' lp=some (.lst ys)->Paired (PtR H') ys pts->H' lw=some (.lst (ws.map V.int))->BackOf hs m.toNat pts ws->Q (.ref a) H'
theorem qux:∀ {ys:List V} {ps:List (Int×Int)},Paired (PtR H) ys ps->Tups (ps.map two) ys H
 |_,_,.nil=>.nil
 |_,_,.cons ⟨a,e,f⟩ t=>.cons ⟨a,e,f⟩ (qux t)
theorem xvh {ys:List V}{L:List (List Int)}(h:Tups L ys H)(e:L=ps.map two):Paired (PtR H) ys ps:=by
 subst e
 induction ps generalizing ys with
 |nil=>cases h;exact .nil
 |cons p ps ih =>
  cases h with
  |cons r t=>exact .cons r (ih t)
theorem qwm:∀ {L:List (List Int)},(∀x∈L,x∈ps.map two)->∃qs:List (Int×Int),L=qs.map two/\∀q∈qs,q∈ps
 |[],_=>⟨[],rfl,λq h=>by cases h⟩
 |x::L,h=>by
  obtain⟨p,hp,e⟩:=aL.mp (h x (.head _));obtain⟨qs,e2,h2⟩:=qwm (L:=L) λy hy=>h y (.tail _ hy);refine⟨p::qs,by rw[e2,<-e];rfl,λq hq=>?_⟩;rcases aM.mp hq with rfl|hq
  .exact hp
  .exact h2 q hq
theorem wyv {l:List Int}(h:l.Pairwise (·<=·))(nd:l.Nodup):l.Pairwise (·<·):=by refine List.Pairwise.imp₂ (λa b h1 h2=>?_) h nd;have:a≠b:=h2;lia
include T in
theorem xvc {f:Aj}{fd:Ad}{TT:Aj}(F:Fun K "back" "back" zbn f fd)(zfs:Cal P w K mg base "rows" 7 (wxb qk qy qd))(zft:Cal P w K mg base "fixed_point" 5 (qj6 K qk))(zfu:Cal P w K mg base "corners_back" 6 (qjm qk))(zfv:Cal P w K mg base "lies_in" 1 (wx9 K))(zch:Cal P w K mg base "ordered" 6 (wv2 K TT qx)) :
  FK P w K mg base 8 f fd ["road","many"] (qyc qk TT):=by
 have sc:=xjq;refine F.okX sc (λvs H Q E h=>by obtain⟨_,_,_,rfl,_⟩:=h;rfl) λ_ _ _ s H vs Q E hr h=>?_;obtain⟨r,hs,m,rfl,hR,W,m1,m2,c8,hT,k⟩:=h;have o1:=W.1;have o2:=W.2.1;have d3:(1000000:Nat)<sizeLine:=by decide
 have n1:1<=m.toNat:=by lia
 have n2:m.toNat<=12:=by lia
 have rl:=qkp W n1;have ce:∀x∈x9 hs m.toNat,ClR hs m.toNat x:=λx J=>(vm W n1).mp J;refine⟨_,(qj (wu (i:=2) (qm zfs (hr.mono ⋯) rfl qu (qw (pv 0) (qw (pv 1) qv))))
   (qj (yh (i:=3) (M:=[0]) sc.nd rfl (by walk_at "loc") rfl rfl (by walk_at "cap") (by walk_at "has") (by walk_at "cix") rfl (by decide +kernel) rfl (show List.Nodup (["row","road"]:List Str) by decide +kernel) (zm (pv 2)) (λ_ _ _ _ _=>(qm zft (hr.mono ⋯) rfl jq (qw (pv 1) (qw (pv 0) qv)))))
   (qj (wu (i:=4) (wj (qvh rfl) rfl T.sorted_ fW (qw (xwh (x := "row") (y2 := "point") (M:=[]) rfl rfl (by walk_at "cap") (by walk_at "has") (by walk_at "cix") rfl (by decide +kernel) (λ_ _ _ _ _=>xk0 (K:=K) (n:=2) rfl rfl (xk (wn (i:=0) (show List.Nodup (["row","point"]:List Str) by decide +kernel) rfl (by walk_at "loc")) (xk (wn (i:=1) (show List.Nodup (["row","point"]:List Str) by decide +kernel) rfl (by walk_at "loc")) vj))) (pi_zip rfl T.zip_ (qw (pv 2) (qw (pv 3) qv))) (λ_ _ _ _ _=>(wg op_isN (pv 1) qzu (wp _))) (λ_ _ _ _ _=>(xc (yp (K:=K) rfl) (pv 0) qb (λ_ _=>rfl))) (λ_ _ _ _ _=>(xqb (P:=P) (w:=w) rfl rfl))) qv)))
   (qj (wu (i:=5) (qr ww6 (Yx (M:=[]) rfl rfl (by walk_at "cap") (by walk_at "has") (by walk_at "cix") rfl (by decide +kernel) rfl (show List.Nodup (["point"]:List Str) by decide +kernel) (zm (pv 3)) (λ_ _ _ _ _=>(wg wvh (pv 0) qzu (wp _))) (λ_ _ _ _ _=>(pv 0))) (qm zfu (hr.mono ⋯) rfl qu (qw (pv 0) (qw (pv 1) qv)))))
   (qj (wu (i:=6) (qm zch (hr.mono ⋯) rfl qu (qw (wj (qvx rfl) rfl T.sorted_ fW (qw (xkt (M:=[4]) rfl rfl (by walk_at "cap") (by walk_at "has") (by walk_at "cix") rfl (by decide +kernel) rfl (show List.Nodup (["point","wholes"]:List Str) by decide +kernel) (zm (pv 5)) (λ_ _ _ _ _=>(yq (yf (qm zfv (hr.mono ⋯) rfl jq (qw (pv 0) (qw (pv 1) qv)))))) (λ_ _ _ _ _=>(pv 0)) (λ_ _ _ _ _=>(xzw (P:=P) (w:=w) rfl rfl hr.units))) qv)) qv)))
   (qh (wy (kr (qw (pv 6) (qw (pv 4) qv)))))))))),?_⟩
 dsimp only [Yw];refine exI rfl (exI rfl ⟨r,hs,m,rfl,hR,W,m1,m2,c8,λp1 ab H1 d1 s1 f1 t1=>?_⟩);have l1:=t1.len;have ci:∀i x,ab[i]?=some x->∃a,x=.ref a/\i<(x9 hs m.toNat).length/\H1 a=some (.tup (((x9 hs m.toNat).getD i []).map V.int)):=λi x J=>by obtain⟨a,xs,e1,e2,e3⟩:=t1.get J;exact⟨a,e1,(al.mp e2).1,by rw[af,e2];exact e3⟩
 refine exI rfl ⟨p1,rfl,⟨_,SqL.of f1⟩,Zj (K:=K) (λi v H=>FixR H (wc hs ((x9 hs m.toNat).getD i [])) v) (λi v H H' g st=>?_) (SqL.of f1) ⋯ (λi x H2 R J s2 a4=>?_) λp3 fs H3 dy s3 f3 l3 g3=>?_⟩
 .rcases g with g|⟨g1,q,g2,g3⟩
  .exact .inl g
  .exact .inr ⟨g1,q,g2,st _ _ (λxs z=>by cases z) g3⟩
 .obtain⟨a,rfl,hi,fa⟩:=ci i x J;have c:=ce _ (Z7 hi);exact⟨_,rfl,_,rfl,r,a,hs,_,rfl,hR.same (s1.trans s2),W,SqT.of (s2 _ _ fa),c.2.1,by rw[c.1];lia,λv H4 s4 g4=>a4 v H4 s4 g4⟩
 have cs:=s1.trans s3;have b9:∀i,i<(x9 hs m.toNat).length->FixR H3 (wc hs ((x9 hs m.toNat).getD i [])) (fs.getD i .non):=λi hi=>by have e:fs[i]?=some fs[i]:=ae ⋯;have:=g3 i _ e;rw[v6 e];exact this
 have b6:∀i,i<(x9 hs m.toNat).length->decide (fs.getD i .non=.non)=decide ((wc hs ((x9 hs m.toNat).getD i [])).1=1):=λi hi=>by
  rcases b9 i hi with⟨g1,g2⟩|⟨g1,q,g2,_⟩
  .rw[g2,aS g1];exact aS rfl
  .rw[g2,bz g1];exact bz (λz=>by cases z)
 refine exI rfl (exI rfl ⟨p1,p3,ab,fs,rfl,SqL.of (s3 _ _ f1),SqL.of f3,?_⟩);refine wzg (K:=K) (x9 hs m.toNat).length (λi=>(ab.getD i .non,fs.getD i .non)) (λi=>decide ((wc hs ((x9 hs m.toNat).getD i [])).1=1)) (λi=>((x9 hs m.toNat).getD i []).getD 0 0) 24 (λi hi=>?_) ⋯ (λi H' hi Z=>?_) (λH' Z=>?_) (λi H2 v H4 hi Z yl=>?_) (λi H' R hi Z ac=>?_) (λi H' R hi hc Z ac=>?_) λp5 ps H5 ns dq s5 f5 I5 b3 b5=>?_
 .have:=qjq W n1 hi;lia
 .exact⟨SqL.of (Z _ _ (s3 _ _ f1)),SqL.of (Z _ _ f3),⋯,⋯⟩
 .exact⟨SqL.of (Z _ _ (s3 _ _ f1)),SqL.of (Z _ _ f3),.inl ⋯⟩
 .obtain⟨q,x,y,nq,rfl,ex,ey,rfl⟩:=yl;refine⟨Same.upd nq,q,rfl,?_⟩;have e1:ab.getD i .non=x:=by rw[af,ex];rfl
  have e2:fs.getD i .non=y:=by rw[af,ey];rfl
  show SqT K _ q [ab.getD i .non,fs.getD i .non];rw[e1,e2];exact SqT.of upd_same
 .refine exI rfl ⟨rfl,_,rfl,?_⟩;have:=ac H' (Same.refl _);rw[<-b6 i hi]at this;exact this
 .have ex:ab[i]?=some (ab.getD i .non):=by rw[af,ae ⋯];rfl
  obtain⟨a,ea,_,fa⟩:=ci i _ ex;have c:=ce _ (Z7 hi);have z0:0<((x9 hs m.toNat).getD i []).length:=by rw[c.1];lia
  have a0:∀r:List Int,0<r.length->atI (r.map V.int) 0=some (.int (r.getD 0 0)):=λr h=>by have:=kj (xs:=r.map V.int) (j:=0) (v:=V.int (r.getD 0 0)) (by rw[aw,ae h,v6 (ae h)];rfl);exact this
  refine exI rfl ⟨_,_,_,_,ea▸rfl,rfl,SqT.of (Z _ _ (s3 _ _ fa)),a0 _ z0,ac _ (Same.refl _)⟩
 have i5:∀v∈ns,0<=v/\v<24:=λv hv=>by obtain⟨i,hi,_,rfl⟩:=(b5 v).mp hv;have:=qjq W n1 hi;lia
 have ln:ns.length<=24:=by
  have:=qxt (ns.map Int.toNat) (List.range 24) ?_ λv hv=>?_
  .rwa [ag,aE]at this
  .refine bB.mpr (b7 (λ{x y} J hy hxy z=>?_) b3);have a1:=i5 x J;have a2:=i5 y hy;exact hxy ⋯
  .obtain⟨x,J,rfl⟩:=aL.mp hv;have a1:=i5 x J;exact aq.mpr ⋯
 refine⟨p5,ps,ns,rfl,f5,I5,⋯,λp6 ws c2 a9 cp=>?_⟩;have s6:Same H5 (upd H5 p6 (.lst (ws.map V.int))):=Same.upd c2;have f6:upd H5 p6 (.lst (ws.map V.int)) p6=some (.lst (ws.map V.int)):=upd_same;generalize upd H5 p6 (.lst (ws.map V.int))=H6 at s6 f6;have ck:∀v,v∈ws↔vd hs m.toNat v:=λv=>by
  rw[a9.mem_iff,b5 v];constructor
  .rintro⟨i,hi,h1,h2⟩;exact⟨_,Z7 hi,cx h1,h2⟩
  .rintro⟨r,hr,h1,h2⟩;obtain⟨i,hi,rfl⟩:=qyb hr;exact⟨i,hi,aS h1,h2⟩
 have cj:=wyv cp (a9.nodup_iff.mpr b3);have co:ws.length<=24:=by rw[a9.length_eq];exact ln
 have cm:∀k∈ws,0<=k/\k<24:=λv hv=>i5 v (a9.mem_iff.mp hv);have a7:=s5.trans s6;refine exI rfl ⟨p3,rfl,⟨_,SqL.of (a7 _ _ f3)⟩,Zt (K:=K) (λi=>!decide (fs.getD i .non=.non)) (SqL.of (a7 _ _ f3)) ⋯ (λi x H2 R J s2 a4=>?_) (λi x H2 R J _ s2 a4=>?_) λp7 H7 dp s7 f7=>?_⟩
 .have e:fs.getD i .non=x:=by rw[af,J];rfl
  refine exI rfl ⟨rfl,_,rfl,?_⟩;have:=a4 H2 (Same.refl _);rw[e]at this;exact this
 .exact exI rfl (a4 _ (Same.refl _))
 have bs:=cs.trans (a7.trans s7);refine exI rfl (exI rfl ⟨r,hs,m,rfl,hR.same bs,W,m1,m2,λp8 ad H8 dn s8 f8 P8=>?_⟩);have l8:ad.length<=25:=by rw[bZ P8];unfold qkg;rw[ag];have:=dw (λc:Nat=>decide (itP hs ((0:Int)+c,1) m.toNat=((0:Int)+c,1))) (List.range hs.length);rw[aE]at this;lia
 have l7:(Qw (λi=>!decide (fs.getD i .non=.non)) fs fs.length).length<=fs.length:=by unfold Qw;rw[ag];have:=dw (λi=>!decide (fs.getD i .non=.non)) (List.range fs.length);rwa [aE]at this
 refine⟨p7,p8,_,_,rfl,rfl,s8 _ _ f7,f8,⋯,λp9 c1=>?_⟩;have P7:Paired (PtR H8) (Qw (λi=>!decide (fs.getD i .non=.non)) fs fs.length) (((List.range (x9 hs m.toNat).length).filter λi=>!decide ((wc hs ((x9 hs m.toNat).getD i [])).1=1)).map λi=>Q1 (wc hs ((x9 hs m.toNat).getD i []))):=by
  unfold Qw;have e:(List.range fs.length).filter (λi=>!decide (fs.getD i .non=.non))=(List.range (x9 hs m.toNat).length).filter (λi=>!decide ((wc hs ((x9 hs m.toNat).getD i [])).1=1)):=by rw[show fs.length=(x9 hs m.toNat).length by lia];refine List.filter_congr λi hi=>?_;rw[b6 i (aq.mp hi)]
  rw[e];refine Qx λi hi=>?_;obtain⟨h1,h2⟩:=bO.mp hi;have h1:=aq.mp h1;rcases b9 i h1 with⟨g1,g2⟩|⟨g1,q,g2,g3⟩
  .rw[g1]at h2;cases h2
  .exact⟨q,g2,s8 _ _ (s7 _ _ (a7 _ _ g3))⟩
 have P9:Paired (PtR H8) (Qw (λi=>!decide (fs.getD i .non=.non)) fs fs.length++ad) (qkd hs m.toNat):=Paired.app P7 P8;generalize Qw (λi=>!decide (fs.getD i .non=.non)) fs fs.length=us7 at P9 l7;have s9:Same H8 (upd H8 p9 (.lst (us7++ad))):=Same.upd c1;have f9:upd H8 p9 (.lst (us7++ad)) p9=some (.lst (us7++ad)):=upd_same;have T9:=(qux P9).same s9;have l9:=bZ P9;generalize upd H8 p9 (.lst (us7++ad))=H9 at s9 f9 T9;rw[ao]at l9;have ca:H9 p6=some (.lst (ws.map V.int)):=s9 _ _ (s8 _ _ (s7 _ _ f6));refine exI rfl ⟨p9,rfl,⟨_,SqL.of f9⟩,?_⟩;refine wj2 (K:=K) ((qkd hs m.toNat).map two) (λxs=>!y6 ws (xs.getD 0 0,xs.getD 1 0)) (SqL.of f9) T9 (by rw[ag];lia) (λxs a H' R J fa Z ac=>?_) (λa H' R ac=>(exI rfl ac)) λc0 cv a6 bq d0 bx db dg b4 a3 c6=>?_
 .obtain⟨q,hq,rfl⟩:=aL.mp J;refine⟨_,rfl,_,rfl,a,p6,q,ws,rfl,SqT.of fa,SqL.of (Z _ _ ca),⋯,cm,λdl ct=>?_⟩;exact exI rfl (ac dl ct)
 rw[ag]at c6;obtain⟨D,eq,hq⟩:=qwm (L:=bq) (ps:=qkd hs m.toNat) λx J=>((a3 x).mp J).1;refine⟨c0,cv,bq,2,rfl,db,dg,b4,⋯,⋯,λr hr=>?_,λas U bm c3 ax dm cr=>?_⟩
 .obtain⟨q,_,rfl⟩:=aL.mp ((a3 r).mp hr).1;rfl
 obtain⟨D,eq,hq⟩:=qwm (L:=bm) (ps:=qkd hs m.toNat) λx J=>((a3 x).mp (ax.mem_iff.mp J)).1;have a8:Same a6 (upd a6 as (.lst U)):=Same.upd c3;have cc:upd a6 as (.lst U) as=some (.lst U):=upd_same;have bd:Paired (PtR (upd a6 as (.lst U))) U D:=xvh (cr.same a8) eq;generalize upd a6 as (.lst U)=H11 at a8 cc bd;have b0:=bs.trans (s8.trans (s9.trans (bx.trans a8)));have d2:=bZ bd;have lq:D.length=bq.length:=by rw[<-ax.length_eq,eq,ag]
 have c4:D.Nodup:=by have:=ax.nodup_iff.mpr b4;rw[eq]at this;exact List.Pairwise.imp (λh z=>h (by rw[z])) (bB.mp this)
 have bc:∀q∈D,Wj hs m.toNat q:=λq h=>(ww1 W).mp (hq q h);have gd:∀i,i<D.length->D.getD i (0,1)∈D:=λi hi=>by rw[af,ae hi];exact bD hi
 have nw:∀i j,i<j->j<U.length->(D.getD i (0,1)).1*(D.getD j (0,1)).2≠(D.getD j (0,1)).1*(D.getD i (0,1)).2:=λi j bl hj z=>by obtain⟨b1,g1,_⟩:=y7 W n1 n2 (bc _ (gd i ⋯));obtain⟨b2,g2,_⟩:=y7 W n1 n2 (bc _ (gd j ⋯));have t1:=(jh b1 b2).mp z;rw[jy b1 g1,jy b2 g2]at t1;refine(bg.mp c4) i j ⋯ ⋯ bl ?_;have e1:=v6 (d:=((0:Int),(1:Int))) (ae (show i<D.length by lia));have e2:=v6 (d:=((0:Int),(1:Int))) (ae (show j<D.length by lia));rw[<-e1,<-e2];exact t1
 refine⟨as,U,λi=>D.getD i (0,1),rfl,SqL.of cc,λi v e=>?_,jn hT b0,λi hi=>?_,nw,⋯,λl il a5 bk dd nl ap cq c9=>?_⟩
 .obtain⟨q,e1,b,e2,e3⟩:=Wm bd e;show ∃a,v=.ref a/\H11 a=some (.tup [.int (D.getD i (0,1)).1,.int (D.getD i (0,1)).2]);rw[v6 e1];exact⟨b,e2,e3⟩
 .exact Zf W n1 n2 (bc _ (gd i ⋯))
 have c7:Kp H a5:=(Kp.of b0).trans bk;refine exI rfl (exI rfl ⟨sz2,λa na=>?_⟩);have an:Same a5 (upd a5 a (.tup [.ref l,.ref p6])):=Same.upd na;have cb:upd a5 a (.tup [.ref l,.ref p6]) a=some (.tup [.ref l,.ref p6]):=upd_same;generalize upd a5 a (.tup [.ref l,.ref p6])=H13 at an cb;have dk:Paired (PtR H13) (il.map λi=>U.getD i .non) (il.map λi=>D.getD i (0,1)):=Qx λi hi=>by have hi:i<U.length:=aq.mp (ap.mem_iff.mp hi);have e:U[i]?=some U[i]:=ae hi;obtain⟨q,e1,b,e2,e3⟩:=Wm bd e;rw[v6 e,v6 e1];exact⟨b,e2,an _ _ (bk.tup e3)⟩
 have mq:∀q,q∈(il.map λi=>D.getD i (0,1))↔q∈D:=λq=>by
  rw[aL];constructor
  .rintro⟨i,hi,rfl⟩;have hi:i<U.length:=aq.mp (ap.mem_iff.mp hi);exact gd i ⋯
  .intro h;obtain⟨i,hi,e⟩:=dj h;exact⟨i,ap.mem_iff.mpr (aq.mpr ⋯),by rw[v6 (ae hi)];exact e⟩
 have c5:il.length<=1025:=by rw[ap.length_eq,aE];lia
 refine k a l p6 _ _ ws H13 (c7.trans (Kp.of an)) (jn dd an) cb (an _ _ c9) dk (an _ _ (bk.lst (a8 _ _ (bx _ _ ca)))) ⟨cj,ck,?_,λp=>?_,co,by rw[ag];exact c5⟩
 .refine bB.mpr (cq.imp_of_mem λ{i j} hi hj h=>?_);have hi:i<U.length:=aq.mp (ap.mem_iff.mp hi);have hj:j<U.length:=aq.mp (ap.mem_iff.mp hj);rcases h with h|⟨h,bl⟩
  .exact h
  .exact absurd h (nw i j bl hj)
 .rw[mq p];constructor
  .intro h;refine⟨bc p h,?_⟩;have:two p∈bm:=by rw[eq];exact aL.mpr ⟨p,h,rfl⟩
   have:=((a3 _).mp (ax.mem_iff.mp this)).2;exact i3 _▸this
  .rintro⟨h1,h2⟩;have:two p∈bm:=ax.mem_iff.mpr ((a3 _).mpr ⟨aL.mpr ⟨p,(ww1 W).mpr h1,rfl⟩,by show(!y6 ws p)=true;rw[h2];rfl⟩);rw[eq]at this;obtain⟨q,hq,e⟩:=aL.mp this;rw[<-xz2 e];exact hq
theorem RoadAt.kp {r:Aj}{ns:List Int}(h:RoadAt C H r ns)(k:Kp H H'):RoadAt C H' r ns:=by obtain⟨dx,q,h1,h2⟩:=h;exact⟨dx,q,k _ _ (λps z=>by cases z) h1,k.lst h2⟩
theorem PtR.kp (h:PtR H v p)(k:Kp H H'):PtR H' v p:=by obtain⟨a,e,f⟩:=h;exact⟨a,e,k.tup f⟩
def ky (hs:List Int)(p:Int×Int)(l:Nat):Prop:=Dist (itP hs p) l/\itP hs p l=p
def CandP (hs:List Int)(m:Nat)(p:Int×Int):Prop:=((Wj hs m p/\¬ ∃k,vd hs m k/\k*p.2<=p.1/\p.1<=(k+1)*p.2)\/∃k,vd hs m k/\p=(3*k+1,3))/\ky hs p m
theorem wqv (k:Int):gOf (3*k+1) 3=1:=by
 have h1:=j6 (t:=3*k+1) (b:=3) ⋯;have h2:gOf (3*k+1) 3*(ww (3*k+1) 3).2=3:=qqu ⋯;have D:gOf (3*k+1) 3*(ww (3*k+1) 3).1=3*k+1:=qkb;have F:gOf (3*k+1) 3<=3:=by
  rcases cP 3 (gOf (3*k+1) 3) with z|z
  .have p:0<(ww (3*k+1) 3).2:=by
    rcases cP 0 (ww (3*k+1) 3).2 with y|y
    .exact y
    .have:=Int.mul_nonpos_of_nonneg_of_nonpos (show 0<=gOf (3*k+1) 3 by lia) y;lia
   have:=ba (show(1:Int)<=(ww (3*k+1) 3).2 by lia) (show 0<=gOf (3*k+1) 3 by lia);lia
  .exact z
 rcases(by lia:gOf (3*k+1) 3=1\/gOf (3*k+1) 3=2\/gOf (3*k+1) 3=3) with e|e|e
 .exact e
 .rw[e]at h2;lia
 .rw[e]at D;lia
theorem qzv (ok:q8 hs){m:Nat}(m1:1<=m){k:Int}(h:vd hs m k):0<=k/\k<(hs.length:Int)-1:=by obtain⟨r,hr,_,rfl⟩:=h;obtain⟨j,hj,rfl⟩:=qyb hr;exact qjq ok m1 hj
theorem qj5 (ok:q8 hs){m:Nat}(m1:1<=m)(m2:m<=12){p:Int×Int}(h:Wj hs m p\/∃k,vd hs m k/\p=(3*k+1,3)):OkP p/\Pt hs p.2 p/\itP hs p m=p:=by
 have D:∀p:Int×Int,OkP p->gOf p.1 p.2=1->xw hs p.1 p.2->trT hs p.1 p.2 m=p.1->OkP p/\Pt hs p.2 p/\itP hs p m=p:=λp o g z e=>by have h:Pt hs p.2 p:=⟨o.1,cE _,g,z⟩;exact⟨o,h,(qx1 h m 0).mpr e⟩
 rcases h with h|⟨k,hk,rfl⟩
 .obtain⟨b,g,z⟩:=y7 ok m1 m2 h;exact D p (Zf ok m1 m2 h) g z ((Wy ok m1 m2 b g z).mpr (.inl h))
 .obtain⟨L,J⟩:=qzv ok m1 hk;have F:=ok.2.1;have z:xw hs (3*k+1) 3:=⟨⋯,⋯⟩;exact D _ ⟨show(1:Int)<=3 by decide,Sm.small (by show -(2 ^ 64)<=3*k+1;lia) (by show 3*k+1<=2 ^ 64;lia) ⋯,Sm.small (show -(2 ^ 64)<=(3:Int) by decide) (show(3:Int)<=2 ^ 64 by decide) ⋯⟩ (wqv k) z
   ((Wy ok m1 m2 (p:=(3*k+1,3)) (show(1:Int)<=3 by decide) (wqv k) z).mpr (.inr ⟨k,hk,show k*3<=3*k+1 by lia,show 3*k+1<=(k+1)*3 by lia⟩))
theorem wjz {m u:Nat}(m1:1<=m)(d:Dist (itP hs p) n)(hu:u<n)(e:itP hs p n=itP hs p u):(if u=0 then V.int (n:Nat) else V.non)=V.int (m:Nat)↔ky hs p m:=by
 constructor
 .intro h;by_cases z:u=0
  .rw[ay z]at h;have:n=m:=by have:=V.int.inj h;lia
   subst this;exact⟨d,by rw[e,z];rfl⟩
  .rw[ar z]at h;cases h
 .rintro⟨L,J⟩;have D:itP hs p m=itP hs p 0:=J;have nm:n=m:=by
   rcases iW n m with z|z|z
   .exact absurd e.symm (L u n hu z)
   .exact z
   .exact absurd D.symm (d 0 m ⋯ z)
  subst nm;have F:u=0:=by
   rcases Nat.eq_zero_or_pos u with z|z
   .exact z
   .exact absurd (D.symm.trans e) (d 0 u z hu)
  rw[ay F]
def vz (pts:List (Int×Int))(ws:List Int):List (Int×Int):=pts++ws.map λk=>(3*k+1,(3:Int))
variable {ws:List Int}
theorem wwg {m:Nat}{pts:List (Int×Int)}(B:BackOf hs m pts ws){p:Int×Int}:p∈vz pts ws↔((Wj hs m p/\¬ ∃k,vd hs m k/\k*p.2<=p.1/\p.1<=(k+1)*p.2)\/∃k,vd hs m k/\p=(3*k+1,3)):=by
 unfold vz;rw[aX,B.pmem];have l:y6 ws p=false↔¬ ∃k,vd hs m k/\k*p.2<=p.1/\p.1<=(k+1)*p.2:=by
  cases hz:y6 ws p with
  |true =>
   obtain⟨k,D,e⟩:=dD.mp hz;exact⟨λz=>absurd z Bool.noConfusion,λz=>absurd ⟨k,(B.wmem k).mp D,cx e⟩ z⟩
  |false =>
   refine⟨λ_ ⟨k,D,e⟩=>?_,λ_=>rfl⟩;have:y6 ws p=true:=dD.mpr ⟨k,(B.wmem k).mpr D,aS e⟩;rw[this]at hz;cases hz
 rw[l,aL];exact⟨λh=>h.imp id λ⟨k,D,e⟩=>⟨k,(B.wmem k).mp D,e.symm⟩,λh=>h.imp id λ⟨k,D,e⟩=>⟨k,(B.wmem k).mpr D,e.symm⟩⟩
theorem wz3 (ok:q8 hs){m:Nat}(m1:1<=m)(m2:m<=12){pts:List (Int×Int)}{ws:List Int}(B:BackOf hs m pts ws):(vz pts ws).Pairwise λp q=>p.1*q.2≠q.1*p.2:=by
 unfold vz;refine bj.mpr ⟨B.pup.imp λh=>Int.ne_of_lt h,bB.mpr (B.wup.imp λ{a b} h z=>?_),λp F q J z=>?_⟩
 .have z:(3*a+1)*3=(3*b+1)*3:=z;lia
 .obtain⟨k,L,rfl⟩:=aL.mp J;have z:p.1*3=(3*k+1)*p.2:=z;have Z:=(y7 ok m1 m2 ((B.pmem p).mp F).1).1;have D:=((B.pmem p).mp F).2;have W:(3*k+1)*p.2=3*(k*p.2)+p.2:=by rw[bH,bA,d7]
  have U:(k+1)*p.2=k*p.2+p.2:=by rw[bH,bA]
  rw[W]at z;have:y6 ws p=true:=dD.mpr ⟨k,L,aS ⟨⋯,by rw[U];lia⟩⟩;rw[this]at D;cases D
theorem qzs {R:α->β->Prop}:∀ {l:List α} {m:List β},l.length=m.length->(∀(i:Nat) x y,l[i]?=some x->m[i]?=some y->R x y)->Paired R l m
 |[],[],_,_=>.nil
 |[],_::_,h,_=>by cases h
 |_::_,[],h,_=>by cases h
 |x::l,y::m,h,g=>.cons (g 0 x y rfl rfl) (qzs (Nat.succ.inj h) λi u v e1 e2=>g (i+1) u v e1 e2)
theorem wu5 {il:List Nat}(pm:il.Perm (List.range n)){pt:Nat->Int×Int}{G:Int×Int->Prop}{c:Nat->Bool}(hc:∀j,j<il.length->(c j=true↔G (pt (il.getD j 0))))(p:Int×Int):p∈((List.range il.length).filter c).map (λj=>pt (il.getD j 0))↔∃i,i<n/\G (pt i)/\pt i=p:=by
 rw[aL];constructor
 .rintro⟨j,z,e⟩;obtain⟨h1,h2⟩:=bO.mp z;have h1:=aq.mp h1;have D:il[j]?=some (il.getD j 0):=by rw[af,ae h1];rfl
  exact⟨il.getD j 0,aq.mp (pm.mem_iff.mp (aF D)),(hc j h1).mp h2,e⟩
 .rintro⟨i,hi,g,e⟩;obtain⟨j,z,F⟩:=dj (pm.mem_iff.mpr (aq.mpr hi));have D:il.getD j 0=i:=by rw[af,ae z,F];rfl
  exact⟨j,bO.mpr ⟨aq.mpr z,(hc j z).mpr (by rw[D];exact g)⟩,by rw[D];exact e⟩
theorem xvt {il:List Nat}{pt:Nat->Int×Int}{c:Nat->Bool}(up:il.Pairwise (Wor pt))(ne:∀i j,i∈il->j∈il->i≠j->(pt i).1*(pt j).2≠(pt j).1*(pt i).2)(nd:il.Nodup):(((List.range il.length).filter c).map λj=>pt (il.getD j 0)).Pairwise λp q=>p.1*q.2<q.1*p.2:=by
 refine bB.mpr (b7 (R:=(·<·)) (λ{a b} D z h=>?_) ((fu (n:=il.length)).sublist List.filter_sublist));have D:=aq.mp (bO.mp D).1;have z:=aq.mp (bO.mp z).1;have J:il.getD a 0=il[a]:=by rw[af,ae D];rfl
 have F:il.getD b 0=il[b]:=by rw[af,ae z];rfl
 rw[J,F];have w:=bg.mp up a b D z h;have d:=bg.mp nd a b D z h;rcases w with w|w
 .exact w
 .exact absurd w.1 (ne _ _ (bD D) (bD z) d)
def wxw (C TT:Aj):Sp:=λvs H Q _=>∃(r:Aj) (hs:List Int) (m:Int),vs=[.ref r,.int m]/\RoadAt C H r hs/\q8 hs/\1<=m/\m<=12/\crS hs m.toNat<=1000/\k9 TT jp Ju H /\
 ∀(q:Aj) (ys:List V) (ps:List (Int×Int)) (H':Hp),Kp H H'->k9 TT jp Ju H'->H' q=some (.lst ys)->Paired (PtR H') ys ps->(∀p,p∈ps↔CandP hs m.toNat p)->ps.Pairwise (λp q=>p.1*q.2<q.1*p.2)->ps.length<=1049->Q (.ref q) H'
include T in
theorem xzc {f:Aj}{fd:Ad}{TT:Aj}(F:Fun K "candidates" "candidates" zbo f fd)(zb6:Cal P w K mg base "back" 8 (qyc qk TT))(zch:Cal P w K mg base "ordered" 6 (wv2 K TT qx))(zfw:Cal P w K mg base "least" 6 (qy1 K qk)) :
  FK P w K mg base 9 f fd ["road","length"] (wxw qk TT):=by
 have sc:=qvm;refine F.okX sc (λvs H Q E h=>by obtain⟨_,_,_,rfl,_⟩:=h;rfl) λ_ _ _ _ H vs Q E hr h=>?_;obtain⟨r,hs,m,rfl,hR,W,m1,m2,a2,hT,k⟩:=h;have o1:=W.1;have o2:=W.2.1;have a6:(1000000:Nat)<sizeLine:=by decide
 have n1:1<=m.toNat:=by lia
 have n2:m.toNat<=12:=by lia
 refine⟨_,(qj (jz (qm zb6 (hr.mono ⋯) rfl qu (qw (pv 0) (qw (pv 1) qv))) (kg rfl (xk (wn (i:=2)) (xk (wn (i:=3)) vj))))
   (qj (yh (i:=4) (M:=[]) sc.nd rfl (by walk_at "loc") rfl rfl (by walk_at "cap") (by walk_at "has") (by walk_at "cix") rfl (by decide +kernel) rfl (show List.Nodup (["stretch"]:List Str) by decide +kernel) (zm (pv 3)) (λ_ _ _ _ _=>(kr (qw (qr xv (qr w8 qb (pv 0)) qb) (qw qb qv)))))
   (qh (wy (Yx (M:=[0,1]) rfl rfl (by walk_at "cap") (by walk_at "has") (by walk_at "cix") rfl (by decide +kernel) rfl (show List.Nodup (["point","road","length"]:List Str) by decide +kernel) (zm (qm zch (hr.mono ⋯) rfl qu (qw (qr ww6 (pv 2) (pv 4)) qv))) (λ_ _ _ _ _=>(wg yu (qm zfw (hr.mono ⋯) rfl jq (qw (pv 1) (qw (pv 0) qv))) (pv 2) (wp _))) (λ_ _ _ _ _=>(pv 0))))))),?_⟩
 refine exI rfl (exI rfl ⟨r,hs,m,rfl,hR,W,m1,m2,a2,hT,λb1 lp lw ys J ws H1 k1 T1 fb fl P1 fw B=>?_⟩);refine⟨b1,exI rfl ⟨SqT.of fb,rfl,_,_,rfl,_,_,rfl,rfl,?_⟩⟩;have pf:=B.pfew;have wf:=B.wfew;have ly:=bZ P1;refine exI rfl ⟨lw,rfl,⟨_,SqL.of fw⟩,Zj (K:=K) (λi v H=>PtR H v (3*ws.getD i 0+1,3)) (λi v H H' g st=>qx5 g st) (SqL.of fw) (by rw[ag];lia) (λi x H2 R Z s2 ax=>?_) λp3 L H3 a4 s3 f3 l3 g3=>?_⟩
 .rw[aw]at Z;obtain⟨z,ez,rfl⟩:=df.mp Z;have wz:=qzv W n1 ((B.wmem z).mp (aF ez));rw[v6 ez]at ax;exact exI rfl (wv rfl rfl ⟨IntMulOk.of_left (intBits_le_64 ⋯ ⋯),wv rfl rfl ⟨sz2,λp np=>ax _ _ (Same.upd np) ⟨p,rfl,upd_same⟩⟩⟩)
 rw[ag]at l3;have P3:Paired (PtR H3) (ys++L) (vz J ws):=by refine Paired.app (L2.Paired.mono (λ_ _ x=>PtR.same x s3) P1) (qzs (by rw[ag];exact l3) λi x y ex ey=>?_);rw[aw]at ey;obtain⟨z,ez,rfl⟩:=df.mp ey;have:=g3 i x ex;rwa [v6 ez]at this
 have lc:(ys++L).length=(vz J ws).length:=bZ P3;have ln:(vz J ws).length<=1049:=by unfold vz;rw[ao,ag];lia
 have a5:(ys++L).length=ys.length+L.length:=ao;refine⟨_,rfl,_,rfl,lp,p3,ys,L,rfl,rfl,s3 _ _ fl,f3,⋯,λp4 a1=>?_⟩;have s4:Same H3 (upd H3 p4 (.lst (ys++L))):=Same.upd a1;have f4:upd H3 p4 (.lst (ys++L)) p4=some (.lst (ys++L)):=upd_same;have T4:k9 TT jp Ju (upd H3 p4 (.lst (ys++L))):=jn T1 (s3.trans s4);generalize upd H3 p4 (.lst (ys++L))=H4 at s4 f4 T4;have P4:=L2.Paired.mono (λ_ _ x=>PtR.same x s4) P3;have gd:∀i,i<(vz J ws).length->(vz J ws)[i]?=some ((vz J ws).getD i (0,1)):=λi hi=>by rw[af,ae hi];rfl
 have cm:∀i,i<(vz J ws).length->OkP ((vz J ws).getD i (0,1))/\Pt hs ((vz J ws).getD i (0,1)).2 ((vz J ws).getD i (0,1))/\itP hs ((vz J ws).getD i (0,1)) m.toNat=(vz J ws).getD i (0,1):=λi hi =>
  qj5 W n1 n2 (((wwg B).mp (aF (gd i hi))).imp (λz=>z.1) id)
 have ap:∀i j,i<j->j<(vz J ws).length->((vz J ws).getD i (0,1)).1*((vz J ws).getD j (0,1)).2≠((vz J ws).getD j (0,1)).1*((vz J ws).getD i (0,1)).2:=λi j h1 h2=>by have:=bg.mp (wz3 W n1 n2 B) i j ⋯ h2 h1;rw[v6 (ae (show i<(vz J ws).length by lia)),v6 (ae h2)];exact this
 have ad:=λp=>wwg B (p:=p);have pl:PL H4 (ys++L) λi=>(vz J ws).getD i (0,1):=λi v hv=>by obtain⟨q,eq,a,ea,fa⟩:=Wm P4 hv;dsimp only;rw[v6 eq];exact⟨a,ea,fa⟩
 generalize vz J ws=cl at P4 lc ln gd cm ap ad pl;refine⟨p4,ys++L,λi=>cl.getD i (0,1),rfl,SqL.of f4,pl,T4,λi hi=>(cm i ⋯).1,λi j h1 h2=>ap i j h1 ⋯,⋯,λl D H5 k5 T5 nl pm up f5=>?_⟩;have li:D.length=(ys++L).length:=by rw[pm.length_eq,aE]
 have P5:Paired (PtR H5) (ys++L) cl:=L2.Paired.mono (λ_ _ x=>PtR.kp x k5) P4;have R5:RoadAt qk H5 r hs:=(((hR.kp k1).same s3).same s4).kp k5;have a0:∀j,j<D.length->∃a,(ys++L).getD (D.getD j 0) .non=.ref a/\D.getD j 0<cl.length/\H5 a=some (.tup [.int (cl.getD (D.getD j 0) (0,1)).1,.int (cl.getD (D.getD j 0) (0,1)).2]):=λj U=>by
  have e1:D[j]?=some (D.getD j 0):=by rw[af,ae U];rfl
  have hi:=aq.mp (pm.mem_iff.mp (aF e1));generalize D.getD j 0=i at hi;obtain⟨a,ea,fa⟩:=uf P5 (gd i ⋯);obtain⟨b,rfl,fb⟩:=fa;exact⟨b,by rw[af,ea];rfl,⋯,fb⟩
 have l5:(D.map λi=>(ys++L).getD i .non).length=D.length:=ag ..;refine⟨l,rfl,⟨_,SqL.of f5⟩,Zt (K:=K) (λj=>@decide (ky hs (cl.getD (D.getD j 0) (0,1)) m.toNat) (Classical.propDecidable _)) (SqL.of f5) ⋯ (λj x H6 R Z s6 ac=>?_) (λj x H6 R Z _ s6 ac=>(exI rfl (ac _ (Same.refl _)))) λp7 H7 a3 s7 f7=>?_⟩
 .have U:j<D.length:=by rw[<-l5];exact(al.mp Z).1
  obtain⟨a,ea,hi,fa⟩:=a0 j U;have ex:x=.ref a:=by rw[aw,ae U]at Z;have:=av Z;rw[<-this,<-ea,af (l:=D),ae U];rfl
  subst ex;obtain⟨an,ab,as⟩:=cm _ hi;generalize cl.getD (D.getD j 0) (0,1)=pt at fa an ab as ac;have lw:ww pt.1 pt.2=pt:=jy ab.1 ab.2.2.1;refine exI rfl (exI rfl ⟨r,a,hs,pt.1,pt.2,rfl,R5.same s6,W,SqT.of (s6 _ _ fa),⟨ab.1,an.2.2.mono ⋯,ab.2.2.2,λd=>?_⟩,λn u H8 s8 hn d hu e=>?_⟩)
  .rw[lw]at d;exact d 0 m.toNat ⋯ ⋯ as.symm
  .rw[lw]at d e;have li:=wjz n1 d hu e;refine exI rfl ⟨?_,_,rfl,?_⟩
   .by_cases z:u=0
    .rw[ay z];rfl
    .rw[ar z];rfl
   .have:=ac H8 s8;have e3:@decide (ky hs pt m.toNat) (Classical.propDecidable _)=decide ((if u=0 then V.int (n:Nat) else V.non)=V.int m):=by rw[dr,@iN _ (Classical.propDecidable _),iX,<-li,cn ⋯]
    rw[e3]at this;exact this
 .have hc:∀j,j<D.length->(@decide (ky hs (cl.getD (D.getD j 0) (0,1)) m.toNat) (Classical.propDecidable _)=true↔ky hs (cl.getD (D.getD j 0) (0,1)) m.toNat):=λj _=>@iN _ (Classical.propDecidable _);refine k p7 _ (((List.range D.length).filter λj=>@decide (ky hs (cl.getD (D.getD j 0) (0,1)) m.toNat) (Classical.propDecidable _)).map λj=>cl.getD (D.getD j 0) (0,1)) H7 ?_ (jn T5 s7) f7 ?_ (λp=>?_) (xvt up (λi j hi U ne=>?_) (pm.nodup_iff.mpr gR)) ?_
  .exact((k1.trans (Kp.of s3)).trans (Kp.of s4)).trans (k5.trans (Kp.of s7))
  .unfold Qw;rw[l5];refine Qx λj U=>?_;have U:=aq.mp (bO.mp U).1;obtain⟨a,ea,hi,fa⟩:=a0 j U;refine⟨a,?_,s7 _ _ fa⟩;rw[af,aw,ae U,<-ea,af (l:=D),ae U];rfl
  .rw[wu5 (n:=(ys++L).length) pm (pt:=λi=>cl.getD i (0,1)) (G:=λp=>ky hs p m.toNat) hc p];constructor
   .rintro⟨i,hi,g,e⟩;have e:cl.getD i (0,1)=p:=e;have g:ky hs (cl.getD i (0,1)) m.toNat:=g;rw[e]at g;exact⟨(ad p).mp (by rw[<-e];exact aF (gd i ⋯)),g⟩
   .rintro⟨h1,g⟩;obtain⟨i,hi,e⟩:=dj ((ad p).mpr h1);have e:cl.getD i (0,1)=p:=by rw[af,ae hi,e];rfl
    exact⟨i,⋯,by show ky hs (cl.getD i (0,1)) m.toNat;rw[e];exact g,e⟩
  .have hi:=aq.mp (pm.mem_iff.mp hi);have U:=aq.mp (pm.mem_iff.mp U);rcases Nat.lt_or_gt_of_ne ne with z|z
   .exact ap i j z ⋯
   .exact(ap j i z ⋯).symm
  .rw[ag];have:=dw (λj=>@decide (ky hs (cl.getD (D.getD j 0) (0,1)) m.toNat) (Classical.propDecidable _)) (List.range D.length);rw[aE]at this;lia
def HasC (hs:List Int)(m:Nat):Prop:=∃p,CandP hs m p
noncomputable def wwv (hs:List Int) (m:Nat):Bool:=@decide (HasC hs m) (Classical.propDecidable _)
theorem qzh {m:Nat}:wwv hs m=true↔HasC hs m:=@iN _ (Classical.propDecidable _)
noncomputable def yr (hs:List Int) (n:Nat):List Int:=((List.range n).filter λi=>wwv hs (1+i)).map λi:Nat=>(1:Int)+i
theorem wjv (hs:List Int)(n:Nat):yr hs (n+1)=yr hs n++if wwv hs (1+n)=true then [(1:Int)+n] else []:=by unfold yr;rw[bK,gn,aR];cases h:wwv hs (1+n) <;> simp[h]
theorem quc (hs:List Int)(n:Nat):(yr hs n).length<=n:=by unfold yr;rw[ag];have:=dw (λi=>wwv hs (1+i)) (List.range n);rwa [aE]at this
def wzf (C TT:Aj):Sp:=λvs H Q _=>∃(r:Aj) (hs:List Int) (m:Int),vs=[.ref r,.int m]/\RoadAt C H r hs/\q8 hs/\1<=m/\m<=12/\(∀l:Nat,1<=l->l<=m.toNat->crS hs l<=1000)/\k9 TT jp Ju H /\
 ∀(q:Aj) (H':Hp),Kp H H'->k9 TT jp Ju H'->H' q=some (.lst ((yr hs m.toNat).map V.int))->H q=none->Q (.ref q) H'
include T in
theorem xvn {f:Aj}{fd:Ad}{TT:Aj}(F:Fun K "lengths" "lengths" zbp f fd)(zaf:CalD P w K mg base "check_count" 1 (Qm qy))(zfx:Cal P w K mg base "candidates" 9 (wxw qk TT)) :
  FK P w K mg base 10 f fd ["road","most"] (wzf qk TT):=by
 have sc:=wx2;refine F.okX sc (λvs H Q E h=>by obtain⟨_,_,_,rfl,_⟩:=h;rfl) λ_ _ _ _ H vs Q E hr h=>?_;obtain⟨r,hs,m,rfl,hR,ok,m1,m2,ac,hT,k⟩:=h;obtain⟨tl,ab⟩:=T.zad;have ad:(1000000:Nat)<sizeLine:=by decide
 refine⟨_,(qj (vn (qm zaf.all (hr.mono ⋯) rfl qu (qw (pv 1) (qw qb (qw (uw (v:=V.int 12) rfl ab ⟨_,rfl⟩) qv)))))
   (qh (wy (Yx (M:=[0]) rfl rfl (by walk_at "cap") (by walk_at "has") (by walk_at "cix") rfl (by decide +kernel) rfl (show List.Nodup (["length","road"]:List Str) by decide +kernel) (wk7 rfl T.range_ (qw qb (qw (qr xv (pv 1) qb) qv))) (λ_ _ _ _ _=>(wg Q9 (wj (Zz (K:=K) rfl) rfl T.len_ bL (qw (qm zfx (hr.mono ⋯) rfl jq (qw (pv 1) (qw (pv 0) qv))) qv)) qb (wp _))) (λ_ _ _ _ _=>(pv 0)))))),?_⟩
 refine⟨_,rfl,m,1,.int 12,some 12,rfl,.inr ⟨12,rfl,rfl⟩,λ_=>?_,λhw=>absurd ⟨m1,λz e=>by cases e;exact m2⟩ hw⟩;refine exI rfl (wv rfl rfl ⟨_,_,rfl,⟨⋯,⋯,⋯,⋯⟩,?_⟩);rw[show(m+1-1).toNat=m.toNat by lia];intro p np;refine⟨λi U vs H2=>U=m.toNat-i/\i<=m.toNat/\vs=(yr hs i).map V.int/\Kp H H2/\k9 TT jp Ju H2/\H2 p=some (.lst vs),⟨m.toNat,⋯,aY _,rfl,(Kp.of (Same.refl H)).upd np,jn hT (Same.upd np),upd_same⟩,?_⟩;rintro i U vs H2 ⟨rfl,hi,rfl,k2,T2,f2⟩;have ll:=quc hs i;refine⟨f2,by rw[ag];lia,?_⟩;rcases bo i m.toNat with z|z
 .refine .inr ⟨z,?_⟩;rintro v H3 ⟨rfl,rfl⟩;have e1:((1:Int)+i).toNat=1+i:=by lia
  refine⟨_,rfl,_,rfl,r,hs,(1:Int)+i,rfl,hR.kp k2,ok,⋯,⋯,ac _ ⋯ ⋯,T2,λq ys ps H4 W T4 f4 P4 L _ _=>?_⟩;rw[e1]at L;have lp:=bZ P4;have ht:wwv hs (1+i)=decide ((ys.length:Int)>0):=by
   rw[dr,qzh,iX];constructor
   .rintro⟨c,hc⟩;have:=List.length_pos_of_mem ((L c).mpr hc);lia
   .intro h;have:0<ps.length:=by lia
    exact⟨ps[0],(L _).mp (bD this)⟩
  refine⟨_,_,rfl,.inl (SqL.of f4),wv rfl rfl (exI rfl ?_)⟩;have J:=W.lst f2;have Z:=k2.trans W;have D:=wjv hs i;show if decide ((0:Int)<ys.length)=true then _ else _
  rw[show decide ((0:Int)<ys.length)=wwv hs (1+i) from ht.symm];cases hb:wwv hs (1+i) with
  |true =>
   rw[hb,ay rfl]at D;refine Q2 ⟨_,rfl,J,m.toNat-(i+1),⋯,rfl,z,?_,Z.upd np,tab_wr T4 J,upd_same⟩;rw[D,aR];rfl
  |false =>
   rw[hb,ar aH,bP]at D;refine yx ⟨J,m.toNat-(i+1),⋯,rfl,z,?_,Z,T4,J⟩;rw[D]
 .obtain rfl:i=m.toNat:=by lia
  exact .inl ⟨aj _,k p H2 k2 T2 f2 np⟩
def wu6:Sp:=λvs H Q _=>∃t b:Int,vs=[.int t,.int b]/\1<=b/\Sm 9000 b/\∀p,H p=none->Q (.ref p) (upd H p (.tup (ptV (ww t b))))
include T in
theorem zfy (F:Fun K "_law_low" "_law_low" zby f fd)(zcb:Cal P w K mg base "_law_common" 1 qwn):FK P w K mg base 2 f fd ["_law_top","_law_bottom"] wu6:=by
 have D:=quj;refine F.okX D (λvs H Q E h=>by obtain⟨_,_,rfl,_⟩:=h;rfl) λ_ _ _ _ H vs Q E L h=>?_;obtain⟨t,b,rfl,z,J,k⟩:=h;have U:=j6 (t:=t) z;have hs:Sm 9000 (gOf t b):=J.of_le (by have:=xqs (t:=t) z;lia);refine⟨_,(qj (wu (i:=2) (qm zcb (L.mono ⋯) rfl qu (qw (wj Ww rfl T.abs_ Wh (qw (pv 0) qv)) (qw (pv 1) qv))))
   (qh (wy (kr (qw (qr jd (pv 0) (pv 2)) (qw (qr jd (pv 1) (pv 2)) qv)))))),?_⟩
 refine exI rfl (exI rfl (exI rfl ⟨uu t,b,rfl,qjs t,⋯,?_⟩));refine exI rfl ⟨V.int (gOf t b),rfl,wv rfl rfl ⟨⟨⋯,hs⟩,exI rfl ⟨V.int (gOf t b),rfl,wv rfl rfl ⟨⟨⋯,hs⟩,sz2,λp n=>?_⟩⟩⟩⟩;exact k p n
def Yk (hs:List Int)(x y:Int)(u:Bool):Prop:=(0<=x/\x<(hs.length:Int)-1)/\hAt hs x=y+(if u=true then 1 else 0)/\hAt hs (x+1)=y+(if u=true then 0 else 1)
def j4 (d:Nat->Bool):Nat->Bool
 |0=>false
 |i+1=>Bool.xor (j4 d i) (d i)
def inS (s:Bool)(b x:Int):Int:=if s=true then b-x else x
theorem inS_in {s:Bool}(x0:0<=x)(x1:x<=b):0<=inS s b x/\inS s b x<=b:=by unfold inS;split <;> lia
theorem qkc {z:Int}{s u:Bool}(h:Yk hs x y u):hAt hs x*b+(hAt hs (x+1)-hAt hs x)*inS s b z=y*b+inS (Bool.xor s u) b z:=by
 obtain⟨_,h1,h2⟩:=h;cases u with
 |false =>
  simp only[aB,br]at h1 h2;rw[h1,h2,show y+1-(y+0)=1 by lia,bA,Int.add_zero,Bool.xor_false]
 |true =>
  simp only[cI]at h1 h2;rw[h1,h2,show y+0-(y+1)=-1 by lia,Int.neg_mul,bA,bH,bA];cases s <;> simp only[inS,Bool.xor_true,fV,iH,aB,cI,br] <;> lia
theorem qwg {c:Nat->Int}{d:Nat->Bool}(h:∀i,i<n->Yk hs (c i) (c (i+1)) (d i)){b x:Int}(hb:1<=b)(x0:0<=x)(x1:x<=b):∀i,i<=n->trT hs (c 0*b+x) b i=c i*b+inS (j4 d i) b x
 |0,_=>rfl
 |i+1,hi=>by have ih:=qwg h hb x0 x1 i ⋯;have u:=h i ⋯;have hi2:=inS_in (s:=j4 d i) x0 x1;show zw hs (trT hs (c 0*b+x) b i) b=_;rw[ih,vf u.1.1 u.1.2 hb ⋯ (by rw[bH,bA];lia),show c i*b+inS (j4 d i) b x-c i*b=inS (j4 d i) b x by lia,qkc u];rfl
theorem wq4 {c:Nat->Int}{d:Nat->Bool}(h:∀i,i<xs.length->Yk hs (c i) (c (i+1)) (d i))(e:∀i,i<xs.length->wx xs i=c i){b x:Int}:∀i,i<=xs.length->Qf hs xs (c 0*b+x) b i=c i*b+inS (j4 d i) b x
 |0,_=>j8 ..
 |i+1,hi=>by have ih:=wq4 h e (b:=b) (x:=x) i ⋯;have u:=h i ⋯;rw[u9 ⋯,ih,e i ⋯,show c i*b+inS (j4 d i) b x-c i*b=inS (j4 d i) b x by lia,qkc u];rfl
theorem qu6 {u:Bool}(h:Yk hs x y u):cvr hs x y:=by obtain⟨_,h1,h2⟩:=h;unfold cvr loH hiH yn ym;cases u <;> simp only[aB,cI,br]at h1 h2 <;> rw[h1,h2] <;> constructor <;> (split <;> lia)
theorem qv5 (ok:q8 hs){c:Nat->Int}{d:Nat->Bool}{m:Nat}(m1:1<=m)(h:∀i,i<m->Yk hs (c i) (c (i+1)) (d i))(e:c m=c 0)(s:j4 d m=false):vd hs m (c 0):=by
 have L:((List.range m).map c).length=m:=by rw[ag,aE]
 have z:∀i,i<m->((List.range m).map c).getD i 0=c i:=λi hi=>by rw[af,aw,bi hi];rfl
 have cl:ClR hs m ((List.range m).map c):=by
  refine⟨L,λx U=>?_,λi hi=>?_,?_⟩
  .obtain⟨i,hi,rfl⟩:=aL.mp U;exact(h i (aq.mp hi)).1
  .rw[z i ⋯,z (i+1) hi];exact qu6 (h i ⋯)
  .rw[z (m-1) ⋯,z 0 ⋯,<-e];have:=qu6 (h (m-1) ⋯);rwa [show m-1+1=m by lia]at this
 refine⟨_,(vm ok m1).mpr cl,?_,z 0 ⋯⟩;have W:∀i,i<((List.range m).map c).length->wx ((List.range m).map c) i=c i:=λi hi=>by unfold wx;rw[dB hi];exact z i ⋯
 have J:=λx:Int=>wq4 (hs:=hs) (xs:=(List.range m).map c) (d:=d) (b:=3) (x:=x) (λi hi=>h i ⋯) W _ (aj _);have F:=J 1;have D:=J 2;rw[Wd,L,e,s]at F D;simp only[inS,aB,br,Int.mul_add]at F D;lia
theorem qx3 (ok:q8 hs){m:Nat}(m1:1<=m)(m2:m<=12){k:Int}(h:vd hs m k):∃(c:Nat->Int) (d:Nat->Bool),c 0=k/\(∀i,Yk hs (c i) (c (i+1)) (d i))/\(∀i,c (m+i)=c i/\d (m+i)=d i)/\j4 d m=false:=by
 obtain⟨r,W,U,rfl⟩:=h;have c:=(vm ok m1).mp W;have cl:=yw m1 m2 c;have z:=c.1;have per:∀i,wx r (m+i)=wx r i:=λi=>by unfold wx;rw[z,Nat.add_mod_left]
 have J:∀i,wx r (i+1)=wx r (i%m+1)/\wx r i=wx r (i%m):=λi=>by unfold wx;rw[z,Nat.mod_add_mod,Nat.mod_mod];exact⟨rfl,rfl⟩
 have F:∀i,Yk hs (wx r i) (wx r (i+1)) (decide (hAt hs (wx r i)=wx r (i+1)+1)):=λi=>by
  rw[(J i).1,(J i).2];have hi:i%m<r.length:=by rw[z];exact eN _ ⋯
  have L:=cl.2 (i%m) _ _ (km hi) (Qj hi);refine⟨L.1,?_⟩;rcases qzy L (qxw cl U (i%m) hi) with⟨h1,h2⟩|⟨h1,h2⟩
  .rw[h1,h2,bz ⋯];exact⟨by simp,by simp⟩
  .rw[h1,h2,aS rfl];exact⟨by simp,by simp⟩
 refine⟨wx r,λi=>decide (hAt hs (wx r i)=wx r (i+1)+1),Zm r,F,λi=>⟨per i,?_⟩,?_⟩
 .show decide (hAt hs (wx r (m+i))=wx r (m+i+1)+1)=decide (hAt hs (wx r i)=wx r (i+1)+1);rw[per i,kC,per (i+1)]
 .have Z:=qwg (d:=λi=>decide (hAt hs (wx r i)=wx r (i+1)+1)) (λi _=>F i) (b:=3) (x:=1) ⋯ ⋯ ⋯ m (aj _);have D:=qw9 cl U (t:=wx r 0*3+1) (b:=3) ⋯ ⋯ ⋯;rw[z,Z,show wx r m=wx r 0 from per 0]at D;cases hz:j4 (λi=>decide (hAt hs (wx r i)=wx r (i+1)+1)) m with
  |false=>rfl
  |true =>
   rw[hz]at D;simp only[inS,cI]at D;lia
def qw1 (K:Aa):Sp:=λvs H Q _=>∃(q:Aj) (ps:List (Int×Int)),vs=[.ref q]/\PtsAt H q ps/\ps.length<=2000/\(∀p∈ps,1<=p.2/\gOf p.1 p.2=1)/\∀H',Same H H'->Q (.bl true) H'
theorem wj7 (ns:List α):(ns.map λ_=>true).all id=true:=by
 induction ns with
 |nil=>rfl
 |cons a r ih=>rw[aI,List.all_cons,ih];rfl
include T in
theorem wy0 (F:Fun K "_law_points" "_law_points" zb0 f fd)(zb7:Cal P w K mg base "_law_point" 2 (qwb K)):FK P w K mg base 3 f fd ["_law_found"] (qw1 K):=by
 have U:=qxv;refine F.okX U (λvs H Q E h=>by obtain⟨_,_,rfl,_⟩:=h;rfl) λ_ _ _ _ H vs Q E Z h=>?_;obtain⟨q,ps,rfl,⟨vs,D,pr⟩,hn,L,k⟩:=h;have ab:=pr.length;refine⟨_,(qh (wy (Y4 (wj jb rfl T.isinstance_ cR (qw (pv 0) (qw (Z3 (v:=V.ty "list") rfl T.list_ cK rfl) qv))) (Ym (wj (Zq rfl) rfl T.all_ qub (qw (vq (M:=[]) rfl rfl (by walk_at "cap") (by walk_at "has") (by walk_at "cix") rfl (by decide +kernel) rfl (show List.Nodup (["_law_point_here"]:List Str) by decide +kernel) (zm (pv 0)) (λ_ _ _ _ _=>(qm zb7 (Z.mono ⋯) rfl jq (qw (pv 0) qv)))) qv)))))),?_⟩;refine exI rfl ⟨_,_,_,_,rfl,TyOf.lst D,rfl,_,rfl,?_⟩;refine Q2 ?_;refine exI rfl ⟨q,rfl,⟨_,SqL.of D⟩,?_⟩;refine Jp (K:=K) (M:=[]) (a:=q) (xs:=vs) (λ_=>V.bl true) (SqL.of D) ⋯ (λx H' R W hs hR=>?_) λp np=>?_
 .obtain⟨z,J,⟨a,rfl,fa⟩⟩:=wqh pr W;exact exI rfl ⟨a,z.1,z.2,rfl,hs _ _ fa,(L z J).1,(L z J).2,hR⟩
 .have e:vs.map (λ_=>V.bl true)=(vs.map λ_=>true).map V.bl:=by rw[bp];rfl
  rw[e];refine⟨p,vs.map λ_=>true,rfl,SqL.new,?_⟩;rw[wj7];exact k _ (Same.upd np)
def wzm (K:Aa):Sp:=λvs H Q _=>∃(p:Aj) (hs:List Int) (t b:Int),vs=[.ref p,.int t,.int b]/\SqL K H p (hs.map V.int)/\q8 hs/\1<=b/\Sm 4000 b/\xw hs t b/\Q (.int (zw hs t b)) H
include T in
theorem xkf (F:Fun K "_law_step" "_law_step" zb3 f fd):FK P w K mg base 1 f fd ["_law_heights_here","_law_top","_law_bottom"] (wzm K):=by
 have Z:=qjb;refine F.okX Z (λvs H Q E h=>by obtain⟨_,_,_,_,rfl,_⟩:=h;rfl) λ_ _ _ _ H vs Q E hr h=>?_;obtain⟨p,hs,t,b,rfl,U,L,hb,sb,D,k⟩:=h;rw[<-xwq L.1 hb D.1 D.2]at k;have hl:=L.2.1;have W:=eG D.1 (show(0:Int)<=b by lia);have k1:t/b<=(hs.length:Int)-1:=by have:=Int.ediv_le_ediv (show 0<b by lia) D.2;rwa [Int.mul_ediv_cancel _ (show b≠0 by lia)]at this
 have g1:=qk3 L (t/b);have g2:=qk3 L (t/b+1);refine⟨_,(qj (wu (i:=3) (qr jd (pv 1) (pv 2)))
   (qj (zd (wg yu (qr w8 (pv 3) (pv 2)) (pv 1) (wp _)) (qh (wy (qr w8 (xc zq (pv 0) (pv 3) (λ_ _=>rfl)) (pv 2)))) xu)
   (qh (wy (qr xv (qr w8 (xc zq (pv 0) (pv 3) (λ_ _=>rfl)) (pv 2)) (qr w8 (qr vw (xc zq (pv 0) (qr xv (pv 3) qb) (λ_ _=>rfl)) (xc zq (pv 0) (pv 3) (λ_ _=>rfl))) (qr vw (pv 1) (qr w8 (pv 3) (pv 2))))))))),?_⟩
 refine exI rfl (exI rfl (wv rfl rfl ⟨⟨⋯,sb.mono ⋯⟩,exI rfl (exI rfl (wv rfl rfl ⟨IntMulOk.of_left (intBits_le_64 ⋯ ⋯),exI rfl ⟨rfl,_,rfl,?_⟩⟩))⟩));refine u8 (λJ=>?_) (λJ=>?_)
 .refine exI rfl (exI rfl (exX rfl rfl U (wwp W ⋯) (exI rfl (wv rfl rfl ⟨IntMulOk.of_left (intBits_le_64 ⋯ ⋯),?_⟩))));rw[wv8,ay J]at k;exact k
 .have k2:t/b<(hs.length:Int)-1:=by
   rcases cP (t/b) ((hs.length:Int)-1) with z|z
   .exact z
   .have e:t/b=(hs.length:Int)-1:=by lia
    have h1:t/b*b<=t:=eI t ⋯;have h2:=D.2;rw[<-e]at h2;exact absurd ⋯ J
  refine exI rfl (exI rfl (exX rfl rfl U (wwp W ⋯) (exI rfl (wv rfl rfl ⟨IntMulOk.of_left (intBits_le_64 ⋯ ⋯),exI rfl (exI rfl (wv rfl rfl (exX rfl rfl U (wwp ⋯ ⋯) (exI rfl (exI rfl (exX rfl rfl U (wwp W ⋯) (wv rfl rfl (exI rfl (exI rfl (exI rfl (wv rfl rfl ⟨IntMulOk.of_left (intBits_le_64 ⋯ ⋯),wv rfl rfl (wv rfl rfl ⟨IntMulOk.of_left (intBits_le_64 ⋯ ⋯),wv rfl rfl ?_⟩)⟩)))))))))))⟩))));rw[wv8,ar J]at k;exact k
def qyu (K:Aa):Sp:=λvs H Q _=>∃(a:Aj) (ns:List Int) (i wd mo:Int),vs=[.ref a,.int i,.int wd,.int mo]/\SqL K H a (ns.map V.int)/\0<=i/\1<=wd/\wd<=24/\6<=mo/\mo<=1000 /\
 ∀p t b c,H p=none->1<=b->b<=mo->1<=c->c<=3->0<=t->t<=wd*b->Q (.ref p) (upd H p (.tup [.int (t*c),.int (b*c)]))
include T in
theorem xqn (F:Fun K "_law_spot" "_law_spot" zb2 f fd)(zab:Cal P w K mg base "_law_pick" 2 (Z1 K)):FK P w K mg base 3 f fd ["_law_script","_law_at","_law_wide","_law_most"] (qyu K):=by
 have sc:=qjp;refine F.okX sc (λvs H Q E h=>by obtain⟨_,_,_,_,_,rfl,_⟩:=h;rfl) λ_ _ _ _ H vs Q E D h=>?_;obtain⟨a,ns,i,L,Z,rfl,J,z,w1,w2,o1,o2,k⟩:=h;refine⟨_,(qj (wu (i:=4) (qr xv qb (qm zab (D.mono ⋯) rfl qu (qw (pv 0) (qw (pv 1) (qw qb (qw (pv 3) qv)))))))
   (xvf (zd (wg yu (qm zab (D.mono ⋯) rfl qu (qw (pv 0) (qw (pv 1) (qw qb (qw qb qv))))) qb (wp _)) (qh (wu (i:=4) (qr xv qb (qr ku (pv 4) qb)))) xu)
   (qj (wu (i:=5) (qr xv (qr w8 (qm zab (D.mono ⋯) rfl qu (qw (pv 0) (qw (pv 1) (qw qb (qw (pv 2) qv))))) (pv 4)) (qm zab (D.mono ⋯) rfl qu (qw (pv 0) (qw (pv 1) (qw qb (qw (qr xv (pv 4) qb) qv)))))))
   (qj (wu (i:=6) (qr xv qb (qm zab (D.mono ⋯) rfl qu (qw (pv 0) (qw (pv 1) (qw qb (qw qb qv)))))))
   (qh (wy (kr (qw (qr w8 (pv 5) (pv 6)) (qw (qr w8 (pv 4) (pv 6)) qv))))))))),?_⟩
 refine exI rfl (exI rfl (exI rfl ⟨a,ns,_,_,_,rfl,J,z,⋯,⋯,⋯,λW _ l1 u1=>?_⟩));refine⟨_,_,rfl,rfl,λσ H'=>∃b,σ=[some (.ref a),some (.int i),some (.int L),some (.int Z),some (.int b),none,none]/\1<=b/\b<=Z/\H'=H,?_,?_⟩
 .refine exI rfl (exI rfl ⟨a,ns,_,_,_,rfl,J,z,⋯,⋯,⋯,λr2 _ l2 u2=>?_⟩);refine⟨rfl,_,rfl,u8 (λq1=>?_) (λq1=>?_)⟩
  .have e1:=bF (1+W) (show(6:Int)≠0 by decide);have e2:=bh (1+W) (show(0:Int)<6 by decide);exact⟨_,rfl,_,_,rfl,rfl,(by walk_at "pos"),_,_,rfl,rfl,_,rfl,⋯,⋯,rfl⟩
  .exact⟨_,rfl,⋯,⋯,rfl⟩
 .rintro σ Hx ⟨b,rfl,b1,b2,rfl⟩;refine exI rfl (exI rfl (exI rfl ⟨a,ns,_,_,_,rfl,J,z,⋯,⋯,⋯,λr3 _ l3 u3=>?_⟩));refine exI rfl (wv rfl rfl ⟨(by walk_at "mul"),exI rfl (exI rfl (exI rfl (wv rfl rfl ⟨a,ns,_,_,_,rfl,J,z,⋯,⋯,⋯,λr4 _ l4 u4=>?_⟩)))⟩);refine wv rfl rfl ?_;refine exI rfl (exI rfl ⟨a,ns,_,_,_,rfl,J,z,⋯,⋯,⋯,λU _ l5 u5=>?_⟩);refine wv rfl rfl ?_;have h1:=am (show r3<=L-1 by lia) (show 0<=b by lia);have h2:(L-1)*b=L*b-b:=by rw[hX,bA]
  have h3:=cA l3 (show 0<=b by lia);refine exI rfl ⟨V.int (1+U),rfl,wv rfl rfl ⟨(by walk_at "mul"),exI rfl ⟨V.int (1+U),rfl,wv rfl rfl ⟨(by walk_at "mul"),sz2,λp np=>?_⟩⟩⟩⟩;exact k p _ b (1+U) np b1 b2 ⋯ ⋯ ⋯ ⋯
theorem Yj {t:Int}(hb:1<=b)(n:Nat):trT hs t b n=t↔trT hs (ww t b).1 (ww t b).2 n=(ww t b).1:=by
 have z:=zy (t:=t) hb;have J:=Qg (hs:=hs) (t:=t) hb n;have D:=Qg (hs:=hs) (t:=(ww t b).1) z n;have F:ww (ww t b).1 (ww t b).2=ww t b:=jy z (Qh hb);rw[F]at D;constructor
 .intro h;rw[h]at J;have:=(jh z z).mpr ((D.trans J.symm).trans F.symm);exact de ⋯ this
 .intro h;rw[h,F]at D;have:=(jh hb hb).mpr (J.trans D.symm);exact de ⋯ this
theorem xq1 (ok:q8 hs){m:Nat}(m1:1<=m)(m2:m<=12):HasC hs m↔∃t b:Int,1<=b/\xw hs t b/\trT hs t b m=t/\∀j,0<j->j<m->trT hs t b j≠t:=by
 constructor
 .rintro⟨p,cp,d,e⟩;obtain⟨_,D,_⟩:=qj5 ok m1 m2 (p:=p) (cp.elim (λh=>.inl h.1) λh=>.inr h);exact⟨p.1,p.2,D.1,D.2.2.2,(qx1 D m 0).mp e,λj L J z=>d 0 j L J ((qx1 D 0 j).mpr z.symm)⟩
 .rintro⟨t,b,U,on,ad,ac⟩;have W:=zy (t:=t) U;have lg:=Qh (t:=t) U;have lo:=qjk U on;have mb:=(Yj U m).mp ad;have nb:∀j,0<j->j<m->trT hs (ww t b).1 (ww t b).2 j≠(ww t b).1:=λj L J z=>ac j L J ((Yj U j).mpr z);generalize ww t b=p at W lg lo mb nb;have D:Pt hs p.2 p:=⟨W,cE _,lg,lo⟩;have ab:∀ {c:Int×Int},Pt hs c.2 c->trT hs c.1 c.2 m=c.1->(∀j,0<j->j<m->trT hs c.1 c.2 j≠c.1)->ky hs c m:=λ{c} hc h0 h1=>by refine⟨λi j ij jm z=>?_,(qx1 hc m 0).mpr h0⟩;have z:=(qx1 hc i j).mp z;have h2:=xqm (f:=trT hs c.1 c.2) tr_st z (m-j);rw[show j+(m-j)=m by lia,h0]at h2;exact h1 (i+(m-j)) ⋯ ⋯ h2
  by_cases w:∃k,vd hs m k/\k*p.2<=p.1/\p.1<=(k+1)*p.2
  .obtain⟨k,hk,l1,l2⟩:=w;obtain⟨_,ht,e⟩:=qj5 ok m1 m2 (p:=(3*k+1,3)) (.inr ⟨k,hk,rfl⟩);refine⟨(3*k+1,3),.inr ⟨k,hk,rfl⟩,ab ht ((qx1 ht m 0).mp e) λj L J z=>?_⟩;obtain⟨c,d,rfl,un,_,_⟩:=qx3 ok m1 m2 hk;have F:=qwg (λi (_:i<m)=>un i) (b:=3) (x:=1) ⋯ ⋯ ⋯ j ⋯;rw[show c 0*3+1=3*c 0+1 by lia]at F;have z:trT hs (3*c 0+1) 3 j=3*c 0+1:=z;rw[z]at F;rw[bH,bA]at l2;have Z:=qwg (λi (_:i<m)=>un i) (b:=p.2) (x:=p.1-c 0*p.2) W ⋯ ⋯ j ⋯;rw[show c 0*p.2+(p.1-c 0*p.2)=p.1 by lia]at Z;cases hz:j4 d j with
   |false =>
    rw[hz]at F Z;simp only[inS,aB,br]at F Z;have ec:c j=c 0:=by lia
    rw[ec]at Z;exact nb j L J ⋯
   |true =>
    rw[hz]at F;simp only[inS,cI]at F;lia
  .refine⟨p,.inl ⟨?_,w⟩,ab D mb nb⟩;rcases(Wy ok m1 m2 W lg lo).mp mb with s|s
   .exact s
   .exact absurd s w
theorem qkf (n m:Nat)(g:Nat->Int):(xm (n+m) g).sum=(xm n g).sum+(xm m λj=>g (n+j)).sum:=by
 induction m with
 |zero=>show(xm n g).sum=(xm n g).sum+0;lia
 |succ m ih =>
  rw[<-kC,vv,vv,cH,cH,ih];simp only[bN,fv];lia
theorem sum_nn (h:∀i,0<=g i):0<=(xm n g).sum:=by
 induction n with
 |zero=>exact cE _
 |succ n ih =>
  rw[vv,cH];have:=h n;simp only[bN,fv];lia
theorem zn (e:∀i,i<n->g i=h i):xm n g=xm n h:=cu λi hi=>e i (aq.mp hi)
theorem qj0 {R:α->α->Prop}(asy:∀a b,R a b->¬ R b a):∀ {xs ys:List α},xs.Pairwise R->ys.Pairwise R->(∀a,a∈xs↔a∈ys)->xs=ys
 |[],[],_,_,_=>rfl
 |[],y::ys,_,_,h=>by have:=(h y).mpr (by simp);cases this
 |x::xs,[],_,_,h=>by have:=(h x).mp (by simp);cases this
 |x::xs,y::ys,hx,hy,h=>by
  obtain⟨x1,x2⟩:=gm.mp hx;obtain⟨y1,y2⟩:=gm.mp hy;have e:x=y:=by
   rcases aM.mp ((h x).mp (by simp)) with z|z
   .exact z
   .rcases aM.mp ((h y).mpr (by simp)) with w|w
    .exact w.symm
    .exact absurd (y1 x z) (asy _ _ (x1 y w))
  subst e;have J:x∉xs:=λz=>asy _ _ (x1 x z) (x1 x z);have F:x∉ys:=λz=>asy _ _ (y1 x z) (y1 x z);rw[qj0 asy x2 y2 λa=>?_];constructor
  .intro D;rcases aM.mp ((h a).mp (bM _ D)) with z|z
   .exact absurd (z▸D) J
   .exact z
  .intro D;rcases aM.mp ((h a).mpr (bM _ D)) with z|z
   .exact absurd (z▸D) F
   .exact z
structure Bk (hs:List Int)(m:Nat)(pts:List (Int×Int))(ws:List Int):Prop where
 wup:ws.Pairwise (·<·)
 wmem:∀v,v∈ws↔vd hs m v
 pup:pts.Pairwise λp q=>p.1*q.2<q.1*p.2
 pmem:∀p,p∈pts↔(Wj hs m p/\y6 ws p=false)
theorem BackOf.bk {m:Nat}{pts:List (Int×Int)}(B:BackOf hs m pts ws):Bk hs m pts ws:=⟨B.wup,B.wmem,B.pup,B.pmem⟩
def FinH (m:Nat)(n:Int)(h h':Int->Int):Prop:=∀k:Int,0<=k->k<n->∀j:Nat,j<=m->h' ((m:Int)*k+j)=(m:Int)*h k+(h (k+1)-h k)*j
theorem str_ex {t:Int}(h2:2<=hs.length)(hb:1<=b)(on:xw hs t b):∃k:Int,0<=k/\k<(hs.length:Int)-1/\k*b<=t/\t<=(k+1)*b:=by
 obtain⟨U,h1⟩:=on;have L:=bF t (show b≠0 by lia);have J:=bh t (show 0<b by lia);have F:=dz t b;have D:=eG U (show(0:Int)<=b by lia);generalize t/b=q at F D;generalize t%b=r at F L J;by_cases z:q<(hs.length:Int)-1
 .refine⟨q,D,z,?_,?_⟩
  .rw[bu];lia
  .rw[bH,bu q b];lia
 .refine⟨(hs.length:Int)-1-1,⋯,⋯,?_,by rw[show(hs.length:Int)-1-1+1=(hs.length:Int)-1 by lia];exact h1⟩;have:((hs.length:Int)-1-1)*b<=q*b:=am ⋯ ⋯;rw[bu q b]at this;lia
theorem xkb {i:Int}(h2:2<=hs.length)(m1:1<=m)(h0:0<=i)(h1:i<=((hs.length:Int)-1)*m):hAt (xt hs m) i=zw hs i m:=by
 have z:((m.toNat:Nat):Int)=m:=by lia
 have e:(((hs.length-1)*m.toNat:Nat):Int)=((hs.length:Int)-1)*m:=by push_cast;rw[show((hs.length-1:Nat):Int)=(hs.length:Int)-1 by lia,z]
 have hi:i.toNat<(hs.length-1)*m.toNat+1:=by lia
 unfold hAt xt;rw[af,aw,bi hi];show zw hs (i.toNat:Int) m=_;rw[show((i.toNat:Nat):Int)=i by lia]
theorem fin_H (h2:2<=hs.length)(m1:1<=m):FinH m.toNat ((hs.length:Int)-1) (hAt hs) (hAt (xt hs m)):=λk k0 k1 j hj=>by
 have em:((m.toNat:Nat):Int)=m:=by lia
 rw[em];have hj:(j:Int)<=m:=by lia
 have D:k*m<=m*k+j:=by rw[bu];lia
 have z:m*k+j<=(k+1)*m:=by rw[bH,bu k m];lia
 have F:(k+1)*m<=((hs.length:Int)-1)*m:=am ⋯ ⋯;have J:0<=m*k:=cA ⋯ k0;rw[xkb h2 m1 ⋯ ⋯,vf k0 k1 m1 D z];generalize hAt hs k=u;generalize hAt hs (k+1)=v;grind
theorem j7 (h2:2<=hs.length)(m1:1<=m):((xt hs m).length:Int)-1=((hs.length:Int)-1)*m:=by rw[Wf];push_cast;rw[show((hs.length-1:Nat):Int)=(hs.length:Int)-1 by lia,show((m.toNat:Nat):Int)=m by lia];lia
theorem qyn {t:Int}(h2:2<=hs.length)(m1:1<=m)(on:xw hs t b):xw (xt hs m) (m*t) b:=by obtain⟨h0,h1⟩:=on;refine⟨cA ⋯ h0,?_⟩;rw[j7 h2 m1,bu _ m,d7];exact ba h1 ⋯
theorem wws {t:Int}(ok:q8 hs)(m1:1<=m)(hb:1<=b)(on:xw hs t b):zw (xt hs m) (m*t) b=m*zw hs t b:=by
 have h2:=ok.1;have Z:=qyn h2 m1 on;have el:=j7 h2 m1;have w1:1<=((hs.length:Int)-1)*m:=by have:1*1<=((hs.length:Int)-1)*m:=eA ⋯ m1 ⋯ ⋯;lia
 obtain⟨k,U,k1,l1,l2⟩:=str_ex ⋯ hb Z;have ab:k<((hs.length:Int)-1)*m:=by lia
 have m0:=bF k (show m≠0 by lia);have mm:=bh k (show 0<m by lia);have W:=dz k m;have L:=eG U (show(0:Int)<=m by lia);have J:k/m<(hs.length:Int)-1:=gQ ⋯ ab;have F:=fin_H h2 m1;have em:((m.toNat:Nat):Int)=m:=by lia
 have D:=F (k/m) L J (k%m).toNat ⋯;have z:=F (k/m) L J ((k%m).toNat+1) ⋯;rw[vf U k1 hb l1 l2];generalize k/m=q at *;generalize k%m=r at *;have er:((r.toNat:Nat):Int)=r:=by lia
 push_cast at D z;rw[em,er]at D z;rw[W]at D;rw[show m*q+(r+1)=k+1 by lia]at z;have c1:q*b<=t:=by
  have:m*(q*b)<=m*t:=by have:(m*q)*b<=k*b:=am ⋯ ⋯;rw[<-d7];lia
  exact iU this ⋯
 have c2:t<=(q+1)*b:=by
  have:m*t<=m*((q+1)*b):=by have:(k+1)*b<=(m*(q+1))*b:=am (by rw[Int.mul_add];lia) ⋯;rw[<-d7];lia
  exact iU this ⋯
 rw[vf L J hb c1 c2,D,z];have dk:k=m*q+r:=W.symm;subst dk;generalize hAt hs q=u;generalize hAt hs (q+1)=v;grind
theorem qzt {t:Int}(ok:q8 hs)(m1:1<=m)(hb:1<=b)(on:xw hs t b):∀n,trT (xt hs m) (m*t) b n=m*trT hs t b n
 |0=>rfl
 |n+1=>by show zw (xt hs m) (trT (xt hs m) (m*t) b n) b=m*zw hs (trT hs t b n) b;rw[qzt ok m1 hb on n];exact wws ok m1 hb (Ys ok hb on n)
theorem Y0 {j:Int}(ok:q8 hs)(m1:1<=m)(k0:0<=k)(k1:k<(hs.length:Int)-1)(j0:0<=j)(j1:j<=m):hAt (xt hs m) (k*m+j)=m*hAt hs k+(hAt hs (k+1)-hAt hs k)*j:=by have h:=fin_H ok.1 m1 k k0 k1 j.toNat ⋯;rw[show((m.toNat:Nat):Int)=m by lia,show((j.toNat:Nat):Int)=j by lia,bu m k]at h;exact h
theorem wxt {t:Int}(ok:q8 hs)(m1:1<=m):xw (xt hs m) t b↔xw hs t (b*m):=by unfold xw;rw[j7 ok.1 m1,d7,bu m b]
theorem xxg {t:Int}(ok:q8 hs)(m1:1<=m)(hb:1<=b)(on:xw (xt hs m) t b):zw (xt hs m) t b=zw hs t (b*m):=by
 have z:=(wxt ok m1).mp on;have D:1<=b*m:=by have:=eA (show(1:Int)<=b by lia) m1 ⋯ ⋯;lia
 have h:=wws ok m1 D z;rw[bu m t,qqk m1,bu m]at h;exact de ⋯ h
theorem qj4 {t:Int}(ok:q8 hs)(okf:q8 (xt hs m))(m1:1<=m)(hb:1<=b)(on:xw (xt hs m) t b):∀n,trT (xt hs m) t b n=trT hs t (b*m) n
 |0=>rfl
 |n+1=>by show zw (xt hs m) (trT (xt hs m) t b n) b=zw hs (trT hs t (b*m) n) (b*m);rw[xxg ok m1 hb (Ys okf hb on n),qj4 ok okf m1 hb on n]
theorem yj (hb:1<=b)(m1:1<=m):1<=b*m:=by have:=eA hb m1 ⋯ ⋯;lia
theorem xz8 (ok:q8 hs)(okf:q8 (xt hs m))(m1:1<=m){n:Nat}(n1:1<=n)(n2:n<=12):HasC (xt hs m) n↔HasC hs n:=by
 rw[xq1 ok n1 n2,xq1 okf n1 n2];constructor
 .rintro⟨t,b,F,D,W,J⟩;exact⟨t,b*m,yj F m1,(wxt ok m1).mp D,by rw[<-qj4 ok okf m1 F D];exact W,λj U L z=>J j U L (by rw[qj4 ok okf m1 F D];exact z)⟩
 .rintro⟨t,b,F,D,W,J⟩;refine⟨m*t,b,F,qyn ok.1 m1 D,by rw[qzt ok m1 F D,W],λj U L z=>J j U L ?_⟩;rw[qzt ok m1 F D]at z;exact Int.eq_of_mul_eq_mul_left ⋯ z
theorem xw5 (ok:q8 hs)(okf:q8 (xt hs m))(m1:1<=m){n:Nat}(n2:n<=12):yr (xt hs m) n=yr hs n:=by unfold yr;congr 1;refine List.filter_congr λi hi=>?_;have:=aq.mp hi;rw[dr,qzh,qzh];exact xz8 ok okf m1 ⋯ ⋯
theorem wu1 (ok:q8 hs)(okf:q8 (xt hs m))(m1:1<=m){n:Nat}(n1:1<=n)(n2:n<=12){k j:Int}(j0:0<=j)(j1:j<m)(h:vd hs n k):vd (xt hs m) n (k*m+j):=by
 obtain⟨c,d,c0,W,per,J⟩:=qx3 ok n1 n2 h;have r:∀s:Bool,0<=(if s=true then m-1-j else j)/\(if s=true then m-1-j else j)+1<=m:=λs=>by split <;> lia
 have ab:∀i,Yk (xt hs m) (c i*m+(if j4 d i=true then m-1-j else j)) (c (i+1)*m+(if j4 d (i+1)=true then m-1-j else j)) (d i):=λi=>by
  obtain⟨⟨D,F⟩,h1,h2⟩:=W i;obtain⟨U,L⟩:=r (j4 d i);have es:(if j4 d (i+1)=true then m-1-j else j)=if d i=true then m-1-(if j4 d i=true then m-1-j else j) else(if j4 d i=true then m-1-j else j):=by show(if Bool.xor (j4 d i) (d i)=true then _ else _)=_;cases j4 d i <;> cases d i <;> simp <;> lia
  rw[es];generalize (if j4 d i=true then m-1-j else j)=z at U L;have p0:0<=c i*m:=cA D ⋯;have Z:(c i+1)*m<=((hs.length:Int)-1)*m:=am ⋯ ⋯;rw[bH,bA]at Z;refine⟨⟨⋯,by rw[j7 ok.1 m1];lia⟩,?_,?_⟩
  .rw[Y0 ok m1 D F U ⋯,h1,h2];cases d i <;> simp only[aB,cI,br] <;> grind
  .rw[kE,Y0 ok m1 D F ⋯ L,h1,h2];cases d i <;> simp only[aB,cI,br] <;> grind
 have e:c n*m+(if j4 d n=true then m-1-j else j)=c 0*m+(if j4 d 0=true then m-1-j else j):=by have:=(per 0).1;rw[gJ]at this;rw[this,J];rfl
 have:=qv5 okf (c:=λi=>c i*m+(if j4 d i=true then m-1-j else j)) n1 (λi _=>ab i) e J;rw[<-c0];exact this
theorem xzy (ok:q8 hs)(okf:q8 (xt hs m))(m1:1<=m){n:Nat}(n1:1<=n)(n2:n<=12){k:Int}(h:vd (xt hs m) n k):vd hs n (k/m):=by
 obtain⟨c,d,c0,un,per,sg⟩:=qx3 okf n1 n2 h;have ab:∀i,Yk hs (c i/m) (c (i+1)/m) (d i):=λi=>by
  obtain⟨⟨x0,L⟩,h1,h2⟩:=un i;rw[j7 ok.1 m1]at L;have dm:=dz (c i) m;have U:=bF (c i) (show m≠0 by lia);have r1:=bh (c i) (show 0<m by lia);have J:=eG x0 (show 0<=m by lia);have F:c i/m<(hs.length:Int)-1:=gQ ⋯ L;have e1:c i=c i/m*m+c i%m:=by rw[bu];lia
  generalize c i/m=x at *;generalize c i%m=z at *;have Z:=Y0 ok m1 J F U ⋯;have W:=Y0 ok m1 J F (show 0<=z+1 by lia) ⋯;rw[<-kE,<-e1]at W;rw[<-e1]at Z;rw[Z]at h1;rw[W]at h2;generalize c (i+1)=y at *;have dy:∀(u v:Int),0<=v->v<m->y=u*m+v->y/m=u:=λu v v0 v1 e=>by rw[e,Int.add_comm,Int.add_mul_ediv_right _ _ ⋯,Int.ediv_eq_zero_of_lt v0 v1];lia
  cases hd:d i with
  |false =>
   rw[hd]at h1 h2;simp only[aB,br]at h1 h2;have D:hAt hs (x+1)=hAt hs x+1:=by grind
   have:=dy (hAt hs x) z U r1 (by rw[D]at h1;grind);exact⟨⟨J,F⟩,by rw[this];simp,by rw[this,D];simp⟩
  |true =>
   rw[hd]at h1 h2;simp only[cI]at h1 h2;have D:hAt hs x=hAt hs (x+1)+1:=by grind
   have:=dy (hAt hs (x+1)) (m-1-z) ⋯ ⋯ (by rw[D]at h1;grind);exact⟨⟨J,F⟩,by rw[this,D];simp,by rw[this];simp⟩
 have e:c n/m=c 0/m:=by have:=(per 0).1;rw[gJ]at this;rw[this]
 have:=qv5 ok (c:=λi=>c i/m) n1 (λi _=>ab i) e sg;rw[<-c0];exact this
theorem wzj {f:Nat->Int}:∀ {n:Nat},(∀i,i<n->f i<=g i)->(xm n f).sum<=(xm n g).sum
 |0,_=>cE _
 |n+1,h=>by rw[vv,vv,cH,cH];have:=wzj (n:=n) λi hi=>h i ⋯;have:=h n ⋯;simp only[bN,fv];lia
theorem Z2 (b:Nat)(f:Nat->Int):∀a:Nat,(xm a λx=>(xm b λj=>f (x*b+j)).sum).sum=(xm (a*b) f).sum
 |0=>by rw[Nat.zero_mul];rfl
 |a+1=>by rw[vv,cH,Z2 b f a,iu,qkf];simp only[bN,fv];lia
theorem qk6 (f:Nat->Int)(n:Nat):(xm (n+1) f).sum=f 0+(xm n λi=>f (i+1)).sum:=by
 rw[iz n 1,qkf];congr 1
 .show f 0+0=f 0;lia
 .exact bV List.sum (zn λi _=>by rw[iz])
theorem wks:∀(n:Nat) (f:Nat->Int),(xm n λi=>f (n-1-i)).sum=(xm n f).sum
 |0,_=>rfl
 |n+1,f=>by rw[qk6,vv,cH,<-wks n f];simp only[bN,fv,fm,Nat.sub_zero];rw[zn (n:=n) (g:=λi=>f (n-(i+1))) (h:=λi=>f (n-1-i)) λi _=>by rw[Nat.sub_sub,iz 1 i]];lia
theorem qyd (hs:List Int)(t:Nat)(k:Int):ju hs (t+1) k=(xm (hiH hs k-loH hs k).toNat λi=>ju hs t (loH hs k+i)).sum:=by show((jr hs k).map (ju hs t)).sum=_;unfold jr xm;rw[bp];rfl
theorem wvb (ok:q8 hs)(m1:1<=m):∀(t:Nat) (k:Int),0<=k->k<(hs.length:Int)-1->ju hs t k<=(xm m.toNat λj=>ju (xt hs m) t (k*m+j)).sum
 |0,k,_,_=>by
  show(1:Int)<=(xm m.toNat λ_=>(1:Int)).sum;obtain⟨n,e⟩:∃n,m.toNat=n+1:=⟨m.toNat-1,⋯⟩;rw[e,qk6];have:0<=(xm n λ_=>(1:Int)).sum:=sum_nn λ_=>by decide
  lia
 |t+1,k,k0,k1=>by
  have l:=wxm ok k;have em:((m.toNat:Nat):Int)=m:=by lia
  generalize hS:(hiH hs k-loH hs k).toNat=S;have W:(S:Int)=hiH hs k-loH hs k:=by lia
  have ab:(xm m.toNat λj=>ju (xt hs m) (t+1) (k*m+j)).sum=(xm (m.toNat*S) λy=>ju (xt hs m) t (loH hs k*m+y)).sum:=by
   rw[<-Z2];have Z:∀j:Nat,j<m.toNat->hAt (xt hs m) (k*m+j)=m*hAt hs k+(hAt hs (k+1)-hAt hs k)*j/\hAt (xt hs m) (k*m+j+1)=m*hAt hs k+(hAt hs (k+1)-hAt hs k)*(j+1):=λj L=>by refine⟨Y0 ok m1 k0 k1 ⋯ ⋯,?_⟩;rw[kE];exact Y0 ok m1 k0 k1 ⋯ ⋯
   by_cases up:hAt hs k<=hAt hs (k+1)
   .have z:loH hs k=hAt hs k/\hiH hs k=hAt hs (k+1):=by unfold loH hiH yn ym;constructor <;> (split <;> lia)
    refine bV List.sum (zn λj L=>?_);obtain⟨J,F⟩:=Z j L;have D:loH (xt hs m) (k*m+j)=loH hs k*m+((j*S:Nat):Int)/\hiH (xt hs m) (k*m+j)=loH hs k*m+((j*S:Nat):Int)+S:=by
     unfold loH hiH;rw[J,F];push_cast;rw[W,z.1,z.2];unfold yn ym;have:0<=(hAt hs (k+1)-hAt hs k):=by lia
     generalize hAt hs (k+1)=v at *;generalize hAt hs k=u at *;constructor <;> (split <;> grind)
    rw[qyd,D.1,D.2,show(loH hs k*m+((j*S:Nat):Int)+S-(loH hs k*m+((j*S:Nat):Int))).toNat=S by lia];exact bV List.sum (zn λi _=>by rw[show loH hs k*m+((j*S:Nat):Int)+(i:Int)=loH hs k*m+((j*S+i:Nat):Int) by lia])
   .have z:loH hs k=hAt hs (k+1)/\hiH hs k=hAt hs k:=by unfold loH hiH yn ym;constructor <;> (split <;> lia)
    rw[<-wks];refine bV List.sum (zn λj L=>?_);obtain⟨J,F⟩:=Z (m.toNat-1-j) ⋯;have U:((m.toNat-1-j:Nat):Int)=m-1-j:=by lia
    rw[U]at J F;rw[U];have D:loH (xt hs m) (k*m+(m-1-j))=loH hs k*m+((j*S:Nat):Int)/\hiH (xt hs m) (k*m+(m-1-j))=loH hs k*m+((j*S:Nat):Int)+S:=by
     unfold loH hiH;rw[J,F];rw[ic,W,z.1,z.2];unfold yn ym;have:0<(hAt hs k-hAt hs (k+1)):=by lia
     generalize hAt hs (k+1)=v at *;generalize hAt hs k=u at *;constructor <;> (split <;> grind)
    rw[qyd,D.1,D.2,show(loH hs k*m+((j*S:Nat):Int)+S-(loH hs k*m+((j*S:Nat):Int))).toNat=S by lia];exact bV List.sum (zn λi _=>by rw[show loH hs k*m+((j*S:Nat):Int)+(i:Int)=loH hs k*m+((j*S+i:Nat):Int) by lia])
  rw[ab,qyd,hS,iq,<-Z2];refine wzj λx hx=>?_;have ih:=wvb ok m1 t (loH hs k+x) ⋯ ⋯;refine cS ih (iw ?_);refine bV List.sum (zn λj _=>?_);rw[show(loH hs k+(x:Int))*m+(j:Int)=loH hs k*m+((x*m.toNat+j:Nat):Int) by push_cast;rw[em];grind]
theorem cr_fin (ok:q8 hs)(m1:1<=m)(t:Nat):crS hs t<=crS (xt hs m) t:=by
 have z:((m.toNat:Nat):Int)=m:=by lia
 unfold crS;rw[Wf,fm,<-Z2];refine wzj λk D=>?_;refine cS (wvb ok m1 t k ⋯ ⋯) (iw (bV List.sum (zn λj _=>?_)));rw[show(k:Int)*m+(j:Int)=((k*m.toNat+j:Nat):Int) by push_cast;rw[z]]
theorem qxb (ok:q8 hs){n:Nat}(n1:1<=n)(n2:n<=12){pts:List (Int×Int)}{ws:List Int}(B:Bk hs n pts ws)(p:Int×Int):p∈pts↔1<=p.2/\gOf p.1 p.2=1/\xw hs p.1 p.2/\trT hs p.1 p.2 n=p.1/\¬ ∃k,vd hs n k/\k*p.2<=p.1/\p.1<=(k+1)*p.2:=by
 have L:y6 ws p=false↔¬ ∃k,vd hs n k/\k*p.2<=p.1/\p.1<=(k+1)*p.2:=by
  cases hz:y6 ws p with
  |true =>
   obtain⟨k,J,e⟩:=dD.mp hz;exact⟨λz=>absurd z Bool.noConfusion,λz=>absurd ⟨k,(B.wmem k).mp J,cx e⟩ z⟩
  |false =>
   refine⟨λ_ ⟨k,J,e⟩=>?_,λ_=>rfl⟩;have:y6 ws p=true:=dD.mpr ⟨k,(B.wmem k).mpr J,aS e⟩;rw[this]at hz;cases hz
 rw[B.pmem,L];constructor
 .rintro⟨s,F⟩;obtain⟨b,g,D⟩:=y7 ok n1 n2 s;exact⟨b,g,D,(Wy ok n1 n2 b g D).mpr (.inl s),F⟩
 .rintro⟨b,g,D,U,F⟩;rcases(Wy ok n1 n2 b g D).mp U with s|s
  .exact⟨s,F⟩
  .exact absurd s F
def finP (m:Int)(p:Int×Int):Int×Int:=ww (p.1*m) p.2
def Jh (m:Int)(ws:List Int):List Int:=(ws.map λk=>(List.range m.toNat).map λj:Nat=>k*m+j).flatten
theorem xv5 {v:Int}(m1:1<=m):v∈Jh m ws↔v/m∈ws:=by
 have W:=dz v m;have U:=bF v (show m≠0 by lia);have L:=bh v (show 0<m by lia);unfold Jh;rw[List.mem_flatten];constructor
 .rintro⟨l,F,D⟩;obtain⟨k,J,rfl⟩:=aL.mp F;obtain⟨j,z,rfl⟩:=aL.mp D;have z:=aq.mp z;rw[Int.add_comm,Int.add_mul_ediv_right _ _ ⋯,Int.ediv_eq_zero_of_lt ⋯ ⋯,fQ];exact J
 .intro h;refine⟨_,aL.mpr ⟨_,h,rfl⟩,aL.mpr ⟨(v%m).toNat,aq.mpr ⋯,?_⟩⟩;rw[bu];lia
theorem bk_fin (ok:q8 hs)(okf:q8 (xt hs m))(m1:1<=m){n:Nat}(n1:1<=n)(n2:n<=12){pts:List (Int×Int)}{ws:List Int}(B:Bk hs n pts ws){pts':List (Int×Int)}{ws':List Int}(B':Bk (xt hs m) n pts' ws'):pts'=pts.map (finP m)/\ws'=Jh m ws:=by
 have Z:∀v,vd (xt hs m) n v↔vd hs n (v/m):=λv=>by refine⟨xzy ok okf m1 n1 n2,λh=>?_⟩;have dm:=dz v m;have:=wu1 ok okf m1 n1 n2 (bF v (show m≠0 by lia)) (bh v (show 0<m by lia)) h;rwa [bu,dm]at this
 constructor
 .refine qj0 (λa b h=>by lia) B'.pup (bB.mpr (B.pup.imp_of_mem λ{a b} ha hb h=>?_)) λv=>?_
  .have a0:=((qxb ok n1 n2 B a).mp ha).1;have b0:=((qxb ok n1 n2 B b).mp hb).1;have ca:=zt (t:=a.1*m) a0;have cb:=zt (t:=b.1*m) b0;have la:=zy (t:=a.1*m) a0;have D:=zy (t:=b.1*m) b0;show(ww (a.1*m) a.2).1*(ww (b.1*m) b.2).2<(ww (b.1*m) b.2).1*(ww (a.1*m) a.2).2;generalize ww (a.1*m) a.2=x at ca la;generalize ww (b.1*m) b.2=y at cb D;have p1:0<m*x.2*y.2:=ka (ka ⋯ ⋯) ⋯;have h2:=Int.mul_lt_mul_of_pos_right h p1;have e1:x.1*y.2*(a.2*b.2)=a.1*b.2*(m*x.2*y.2):=by grind
   have e2:y.1*x.2*(a.2*b.2)=b.1*a.2*(m*x.2*y.2):=by grind
   rw[<-e1,<-e2]at h2;exact iM h2 (eK (ka ⋯ ⋯))
  .rw[qxb okf n1 n2 B' v,aL];constructor
   .rintro⟨b,g,L,bk,W⟩;have U:=yj b m1;have ab:=(wxt ok m1).mp L;have c:=zt (t:=v.1) U;have D:=zy (t:=v.1) U;refine⟨ww v.1 (v.2*m),(qxb ok n1 n2 B _).mpr ⟨D,Qh U,qjk U ab,(Yj U n).mp (by rw[<-qj4 ok okf m1 b L];exact bk),?_⟩,?_⟩
    .rintro⟨k,hk,J,F⟩;generalize ww v.1 (v.2*m)=p at c D J F;have ad:k*m*v.2<=v.1:=by have h1:=am J (show 0<=v.2*m by lia);rw[c,show k*p.2*(v.2*m)=k*m*v.2*p.2 by grind]at h1;exact bG h1 ⋯
     have ac:v.1<=(k+1)*m*v.2:=by have h1:=am F (show 0<=v.2*m by lia);rw[c,show(k+1)*p.2*(v.2*m)=(k+1)*m*v.2*p.2 by grind]at h1;exact bG h1 ⋯
     have q1:=eI v.1 (show v.2≠0 by lia);have q2:=dR v.1 (show 0<v.2 by lia);have q3:k*m<=v.1/v.2:=Int.le_ediv_of_mul_le ⋯ ad;have an:∀x:Int,k*m<=x->x<(k+1)*m->vd (xt hs m) n x:=λx x0 x1=>by rw[Z,show x/m=k from Int.le_antisymm (by have:=gQ (show 0<m by lia) x1;lia) (Int.le_ediv_of_mul_le ⋯ x0)];exact hk
     by_cases z:v.1/v.2<(k+1)*m
     .exact W ⟨_,an _ q3 z,q1,eK q2⟩
     .have e2:=am (show(k+1)*m<=v.1/v.2 by lia) (show 0<=v.2 by lia);rw[bH,bA]at *;refine W ⟨k*m+m-1,an _ ⋯ ⋯,?_,?_⟩
      .rw[hX,bA];lia
      .rw[show k*m+m-1+1=k*m+m by lia];exact ac
    .show ww ((ww v.1 (v.2*m)).1*m) (ww v.1 (v.2*m)).2=v;generalize ww v.1 (v.2*m)=p at c D;have:=(jh (x:=p.1*m) (y:=v.1) D b).mp (by grind);rw[this,jy b g]
   .rintro⟨p,hp,rfl⟩;obtain⟨b,g,L,bk,W⟩:=(qxb ok n1 n2 B p).mp hp;have ab:xw (xt hs m) (p.1*m) p.2:=by rw[bu];exact qyn ok.1 m1 L
    have c:=zt (t:=p.1*m) b;have D:=zy (t:=p.1*m) b;refine⟨D,Qh b,qjk b ab,(Yj b n).mp ?_,?_⟩
    .rw[bu,qzt ok m1 b L,bk]
    .rintro⟨k,hk,J,F⟩;change k*(ww (p.1*m) p.2).2<=(ww (p.1*m) p.2).1 at J;change (ww (p.1*m) p.2).1<=(k+1)*(ww (p.1*m) p.2).2 at F;generalize ww (p.1*m) p.2=x at c D J F;have ad:k*p.2<=p.1*m:=by have h1:=am J (show 0<=p.2 by lia);rw[c,show k*x.2*p.2=k*p.2*x.2 by grind]at h1;exact bG h1 ⋯
     have ac:p.1*m<=(k+1)*p.2:=by have h1:=am F (show 0<=p.2 by lia);rw[c,show(k+1)*x.2*p.2=(k+1)*p.2*x.2 by grind]at h1;exact bG h1 ⋯
     have q1:=eI k (show m≠0 by lia);have q2:=dR k (show 0<m by lia);refine W ⟨k/m,(Z k).mp hk,?_,?_⟩
     .have:=am q1 (show 0<=p.2 by lia);refine bG (a:=m) ?_ ⋯;rw[show k/m*p.2*m=k/m*m*p.2 by grind];lia
     .have:=am (show k+1<=(k/m+1)*m by lia) (show 0<=p.2 by lia);refine bG (a:=m) ?_ ⋯;rw[show(k/m+1)*p.2*m=(k/m+1)*m*p.2 by grind];lia
 .refine qj0 (λa b h=>by lia) B'.wup ?_ λv=>?_
  .unfold Jh;refine List.pairwise_flatten.mpr ⟨λl hl=>?_,bB.mpr (B.wup.imp λ{a b} h x hx y hy=>?_)⟩
   .obtain⟨k,_,rfl⟩:=aL.mp hl;exact bB.mpr (fu.imp λh=>by lia)
   .obtain⟨i,hi,rfl⟩:=aL.mp hx;obtain⟨j,hj,rfl⟩:=aL.mp hy;have:=aq.mp hi;have:=am (show a+1<=b by lia) (show 0<=m by lia);rw[bH,bA]at this;lia
  .rw[B'.wmem,Z,xv5 m1,B.wmem]
def qj3 (K:Aa)(TT:Aj):Sp:=λvs H Q _=>∃(a:Aj) (ns:List Int),vs=[.ref a]/\SqL K H a (ns.map V.int)/\ns.length<=63/\H TT=some (.tbl #[])/\∀H',Q (.bl true) H'
def qjz (K:Aa):Sp:=λvs H Q _=>∃(q:Aj) (ws:List Int) (m:Int),vs=[.ref q,.int m]/\SqL K H q (ws.map V.int)/\ws.length<=24/\(∀v∈ws,0<=v/\v<=24)/\1<=m/\m<=24/\∀p H',Same H H'->H' p=some (.lst ((Jh m ws).map V.int))->Q (.ref p) H'
theorem Same.wr (h:Same H H'){p:Aj}{o:HO}(n:H p=none):Same H (upd H' p o):=λb u e=>by rw[qt (λz=>by rw[z,n]at e;cases e)];exact h b u e
theorem wyf (m:Int)(ws:List Int)(k:Int):Jh m (ws++[k])=Jh m ws++(List.range m.toNat).map λj:Nat=>k*m+j:=by unfold Jh;rw[aR,dX];simp
theorem wwf (m:Int):∀ws:List Int,(Jh m ws).length=ws.length*m.toNat
 |[]=>by rw[dS,Nat.zero_mul];rfl
 |k::ws=>by have e:Jh m (k::ws)=((List.range m.toNat).map λj:Nat=>k*m+j)++Jh m ws:=rfl;rw[e,ao,ag,aE,wwf m ws,aP,iu,iz]
include T in
theorem xq6 (F:Fun K "_law_parts" "_law_parts" zb4 f fd):FK P w K mg base 1 f fd ["_law_wholes","_law_by"] (qjz K):=by
 have J:=qvs;refine F.okX J (λvs H Q E h=>by obtain⟨_,_,_,rfl,_⟩:=h;rfl) λ_ _ _ _ H vs Q E hr h=>?_;obtain⟨q,ws,m,rfl,L,wl,U,m1,m2,k⟩:=h;have ad:(1000000:Nat)<sizeLine:=by decide
 refine⟨_,(qj (wu (i:=2) (uk qv))
   (qj (Qr bC rfl (zm (pv 0)) (wn (i:=3)) (qh (xqx (i:=2) J.nd rfl (Or.inl rfl) (vq (M:=[1,3]) rfl rfl (by walk_at "cap") (by walk_at "has") (by walk_at "cix") rfl (by decide +kernel) rfl (show List.Nodup (["_law_j","_law_by","_law_k"]:List Str) by decide +kernel) (xg rfl T.range_ (qw (pv 1) qv)) (λ_ _ _ _ _=>(qr xv (qr w8 (pv 2) (pv 1)) (pv 0)))) ip_cat)))
   (qh (wy (pv 2))))),?_⟩
 refine⟨sz0,λp np=>?_⟩;refine exI rfl ⟨q,rfl,⟨_,(Same.upd np).sql L⟩,qun (K:=K) (a:=q) (xs:=ws.map V.int) (λi σ H1=>Same H H1/\H1 p=some (.lst ((Jh m (ws.take i)).map V.int))/\∃z,σ=[some (.ref q),some (.int m),some (.ref p),z]) ⟨Same.upd np,upd_same,none,rfl⟩ (λi σ H1 _ h=>h.1.sql L) ?_ ?_⟩
 .rintro i x σ H1 hx ⟨s1,f1,z,rfl⟩;rw[aw]at hx;obtain⟨v,D,rfl⟩:=df.mp hx;have ab:=U v (aF D);have hi:=(al.mp D).1;refine⟨_,rfl,_,rfl,m,rfl,⋯,⋯,z9 (λj=>V.int (v*m+(0+j))) ⋯ (λj H' R hj ac Z=>(exI rfl (exI rfl (wv rfl rfl ⟨IntMulOk.of_right (intBits_le_64 ⋯ ⋯),exI rfl (wv rfl rfl Z)⟩)))) λp2 W=>?_⟩;have s2:=Same.upd (o:=.lst ((List.range m.toNat).map λj:Nat=>V.int (v*m+(0+j)))) W;refine⟨p,p2,wv rfl rfl ⟨s2 _ _ f1,upd_same,?_,?_⟩⟩
  .rw[ag,ag,aE,wwf,be];have:min i ws.length*m.toNat<=24*24:=gN ⋯ ⋯;lia
  .refine⟨Same.wr (s1.trans s2) np,?_,_,rfl⟩;rw[jU,D];show upd _ p _ p=some (.lst ((Jh m (ws.take i++[v])).map V.int));rw[wyf,aR,bp];refine upd_same.trans ?_;congr 3;refine cu λj _=>?_;show V.int (v*m+(0+j))=V.int (v*m+j);rw[fQ]
 .rintro σ H1 ⟨s1,f1,z,rfl⟩;rw[ag,bE]at f1;exact exI rfl (k p H1 s1 f1)
theorem qq9 {p:Aj}(f:SqL K H p (xs.map V.int)):RD K H (.list (xs.map .int)) (.ref p):=by rw[RD];exact⟨p,exI rfl ⟨f,wkb xs⟩⟩
theorem Z8 (xs:List Int):(PyData.list (xs.map .int)).canLay0=true:=by rw[PyData.canLay0];exact wqu xs
theorem wqn (xs ys:List Int):min (PyData.list (xs.map .int)).depth (PyData.list (ys.map .int)).depth<=60:=by have h1:=qu3 xs;simp only[PyData.depth];lia
theorem quv (xs:List Int):PyData.eqv (.list (xs.map .int)) (.list (xs.map .int))=true:=by rw[PyData.eqv,qz0,aS rfl]
theorem cutS {t:TS}{D:Ends}{σ:St}(σ':St)(e:σ=σ')(h:t D σ' H):t D σ H:=by rw[e];exact h
theorem pow60:(10:Int) ^ (60:Int).toNat+1=1000000000000000000000000000000000000000000000000000000000001:=by decide +kernel
theorem step60:Within (x%((10:Int) ^ (60:Int).toNat+1)) 0 (some 1000000000000000000000000000000000000000000000000000000000000):=by
 rw[pow60];exact⟨bF x ⋯,λz e=>by
  cases e
  have:=bh x (show(0:Int)<1000000000000000000000000000000000000000000000000000000000001 by decide)
  lia⟩
theorem qxr (k:Kp H H'){us:List V}{ps:List (Int×Int)}(p:Paired (PtR H) us ps):Paired (PtR H') us ps:=qxk (λ_ _ ⟨a,e,f⟩=>⟨a,e,k.tup f⟩) p
theorem xzd {X:Int}(hB:1<=B)(m1:1<=m):ww ((ww X B).1*m) (ww X B).2=ww (m*X) B:=by have c:=zt (t:=X) hB;exact(jh (zy hB) hB).mp (by grind)
theorem wkv (ok:q8 hs){t b c W:Int}(hb:1<=b)(hc:1<=c)(on:xw hs (t*c) (b*c))(hW:(hs.length:Int)-1<=W)(hb3:b<=30)(w12:W<=12):¬ Dist (itP hs (ww (t*c) (b*c))) 1001:=λd=>by
 have on':xw hs t b:=by obtain⟨D,h1⟩:=on;rw[<-d7]at h1;exact⟨Int.nonneg_of_mul_nonneg_left D ⋯,bG h1 ⋯⟩
 rw[(jh (yj hb hc) hb).mp (show t*c*b=t*(b*c) by grind)]at d;have z:=qzd (hs:=hs) hb on';have:=xk8 ok z d;have:=z.2.1;have F:=ok.1;have h1:=z.1;have:((hs.length:Int)-1)*(ww t b).2<=12*30:=eA ⋯ ⋯ ⋯ ⋯;lia
include T in
theorem zfz {f:Aj}{fd:Ad}{TT:Aj}(F:Fun K "law" "law" zb8 f fd)(zb9:Cal P w K mg base "_law_cell" 1 (qk8 K))(zab:Cal P w K mg base "_law_pick" 2 (Z1 K))(zf0:Cal P w K mg base "_law_heights" 4 (Yp K))(zcc:CCal P w K mg base "Road" qk 2 (qxy K qf qk))(zf1:Cal P w K mg base "finer" 4 (qyk qk qf))(zf2:Cal P w K mg base "_law_step" 1 (wzm K))(zf3:Cal P w K mg base "_law_times" 2 (qy6 K))(zf4:Cal P w K mg base "_law_spot" 3 (qyu K))
  (zes:Cal P w K mg base "far" 6 (xq2 K qk qx qc qy qd)) (zb7:Cal P w K mg base "_law_point" 2 (qwb K)) (zet:Cal P w K mg base "_law_low" 2 wu6) (zb6:Cal P w K mg base "back" 8 (qyc qk TT)) (zeu:Cal P w K mg base "_law_points" 3 (qw1 K)) (zci:Cal P w K mg base "_law_numbers" 2 (Js K)) (zf5:Cal P w K mg base "_law_parts" 1 (qjz K)) (zev:Cal P w K mg base "lengths" 10 (wzf qk TT)) :
  FK P w K mg base 11 f fd ["_law_script"] (qj3 K TT):=by
 have sc:=ze4;refine F.okX sc (λvs H Q E h=>by obtain⟨_,_,rfl,_⟩:=h;rfl) λ_ _ _ _ H vs Q E J h=>?_;obtain⟨a,ns,rfl,hS,hl,hT,k⟩:=h;have fg:(1000000:Nat)<sizeLine:=by decide
 refine⟨_,(qj (wu (i:=1) (qm zf0 (J.mono ⋯) rfl qu (qw (pv 0) (qw qb (qw qb qv)))))
   (qj (wu (i:=2) (qr vw (wj xf rfl T.len_ bL (qw (pv 1) qv)) qb))
   (qj (wu (i:=3) (qr xv qb (qm zab (J.mono ⋯) rfl qu (qw (pv 0) (qw qb (qw qb (qw qb qv)))))))
   (qj (wu (i:=4) (wwk zcc (J.mono ⋯) rfl qu (qw (W6 Qc rfl T.list_ cK (qw (pv 1) qv)) qv)))
   (qj (wu (i:=5) (qm zf1 (J.mono ⋯) rfl qu (qw (pv 4) (qw (pv 3) qv))))
   (qj (yh (i:=6) (M:=[1,3]) sc.nd rfl (by walk_at "loc") rfl rfl (by walk_at "cap") (by walk_at "has") (by walk_at "cix") rfl (by decide +kernel) rfl (show List.Nodup (["_law_top","_law_heights_here","_law_by"]:List Str) by decide +kernel) (xg rfl T.range_ (qw (qr xv (qr w8 (pv 2) (pv 3)) qb) qv)) (λ_ _ _ _ _=>(qm zf2 (J.mono ⋯) rfl jq (qw (pv 1) (qw (pv 0) (qw (pv 2) qv))))))
   (qj (wu (i:=7) (qm zf3 (J.mono ⋯) rfl qu (qw (pv 6) (qw (qr xv qb (qm zab (J.mono ⋯) rfl qu (qw (pv 0) (qw qb (qw qb (qw qb qv)))))) (qw qb qv)))))
   (qj (wu (i:=8) (qm zf4 (J.mono ⋯) rfl qu (qw (pv 0) (qw qb (qw (pv 2) (qw qb qv))))))
   (qj (wu (i:=9) (qr ku (qm zb9 (J.mono ⋯) rfl qu (qw (pv 0) (qw qb qv))) (qr xv (qr xxx qb qb) qb)))
   (qj (wu (i:=10) (qm zes (J.mono ⋯) rfl qu (qw (pv 4) (qw (pv 8) (qw (pv 9) qv)))))
   (qj (wu (i:=11) (qm zes (J.mono ⋯) rfl qu (qw (pv 5) (qw (kr (qw (qr w8 (xc kh (pv 8) qb (λ_ _=>rfl)) (pv 3)) (qw (xc kh (pv 8) qb (λ_ _=>rfl)) qv))) (qw (pv 9) qv)))))
   (qj (zd (PW.pt (Wq (yq (yf (qm zb7 (J.mono ⋯) rfl qu (qw (pv 10) qv)))) (uj (yq (yf (qm zb7 (J.mono ⋯) rfl qu (qw (pv 11) qv))))))) (qh (wy Yb)) xu)
   (qj (zd (wg (wx3 J.units) (pv 11) (qm zet (J.mono ⋯) rfl qu (qw (qr w8 (xc kh (pv 10) qb (λ_ _=>rfl)) (pv 3)) (qw (xc kh (pv 10) qb (λ_ _=>rfl)) qv))) (wp _)) (qh (wy Yb)) xu)
   (qj (jz (qm zb6 (J.mono ⋯) rfl qu (qw (pv 4) (qw (pv 7) qv))) (kg rfl (xk (wn (i:=12)) (xk (wn (i:=13)) vj))))
   (qj (jz (qm zb6 (J.mono ⋯) rfl qu (qw (pv 5) (qw (pv 7) qv))) (kg rfl (xk (wn (i:=14)) (xk (wn (i:=15)) vj))))
   (qj (zd (PW.pt (Wq (yq (yf (qm zeu (J.mono ⋯) rfl qu (qw (pv 12) qv)))) (uj (yq (yf (qm zeu (J.mono ⋯) rfl qu (qw (pv 14) qv))))))) (qh (wy Yb)) xu)
   (qj (zd (PW.pt (Wq (yq (yf (qm zci (J.mono ⋯) rfl qu (qw (pv 13) qv)))) (uj (yq (yf (qm zci (J.mono ⋯) rfl qu (qw (pv 15) qv))))))) (qh (wy Yb)) xu)
   (qj (zd (wg (wx3 J.units) (pv 14) (vq (M:=[3]) rfl rfl (by walk_at "cap") (by walk_at "has") (by walk_at "cix") rfl (by decide +kernel) rfl (show List.Nodup (["_law_spot_here","_law_by"]:List Str) by decide +kernel) (zm (pv 12)) (λ_ _ _ _ _=>(qm zet (J.mono ⋯) rfl jq (qw (qr w8 (xc (yp (K:=K) rfl) (pv 0) qb (λ_ _=>rfl)) (pv 1)) (qw (xc (yp (K:=K) rfl) (pv 0) qb (λ_ _=>rfl)) qv))))) (wp _)) (qh (wy Yb)) xu)
   (qj (zd (wg (wx3 J.units) (pv 15) (qm zf5 (J.mono ⋯) rfl qu (qw (pv 13) (qw (pv 3) qv))) (wp _)) (qh (wy Yb)) xu)
   (qj (wu (i:=16) (qm zev (J.mono ⋯) rfl qu (qw (pv 5) (qw (pv 7) qv))))
   (qh (wy (Y4 (qm zci (J.mono ⋯) rfl qu (qw (pv 16) qv)) (Ym (W3 (xwc J.units) (qm zev (J.mono ⋯) rfl qu (qw (pv 4) (qw (pv 7) qv))) (pv 16) (wp _)))))))))))))))))))))))))),?_⟩
 refine⟨_,rfl,a,ns,_,_,rfl,hS,⋯,⋯,⋯,λp hs w1 n1 a1 b1 i1=>?_⟩;have U:q8 hs:=xkj i1 a1 ⋯;have o1:=U.1;have c4:(hs.length:Int)-1<=3:=by have:=i1.1;lia
 have s1:Same H (upd H p (.lst (hs.map V.int))):=Same.upd n1;have f1:upd H p (.lst (hs.map V.int)) p=some (.lst (hs.map V.int)):=upd_same;generalize upd H p (.lst (hs.map V.int))=H1 at s1 f1;refine exI rfl ⟨_,_,rfl,.inl (SqL.of f1),wv rfl rfl ?_⟩;rw[ag];refine exI rfl ⟨a,ns,_,_,_,rfl,s1.sql hS,⋯,⋯,⋯,⋯,λr1 _ l1 u1=>?_⟩;refine wv rfl rfl ?_;obtain⟨m,hm⟩:∃m:Int,m=1+r1:=⟨_,rfl⟩;have m1:1<=m:=by lia
 have m4:m<=4:=by lia
 show _;simp only[<-hm];clear hm l1 u1;have wm:((hs.length:Int)-1)*m<=12:=by have:=eA c4 m4 ⋯ ⋯;lia
 have e3:1<=((hs.length:Int)-1)*m:=yj ⋯ m1;have ad:=xq3 U m1 ⋯;refine exI rfl ⟨_,_,rfl,.inl (SqL.of f1),λp4 n4=>?_⟩;have s4:Same H1 (upd H1 p4 (.lst (hs.map V.int))):=Same.upd n4;refineλrd d0 nx d5 e6=>wkj upd_same nx d5 (λ_ H5 s5 R5=>?_) λz=>absurd U z;refine⟨_,rfl,_,rfl,rd,hs,m,rfl,R5,U,m1,⋯,λ_ rf H6 _ s6 R6=>?_,λz=>absurd z ⋯⟩;have ci:=s4.trans (s5.trans s6);have f6:=ci _ _ f1;have cp:=s1.trans ci;have b5:=R5.same s6;clear s4 s5;refine⟨_,rfl,_,rfl,_,_,rfl,rfl,IntMulOk.of_right (intBits_le_64 ⋯ ⋯),_,_,rfl,rfl,((hs.length:Int)-1)*m+1,rfl,⋯,⋯,z9 (λt=>V.int (zw hs ((0:Int)+t) m)) ⋯ (λi H' R hi ed hR=>?_) λp7 n7=>?_⟩
 .refine exI rfl (exI rfl (exI rfl ⟨p,hs,(0:Int)+i,m,rfl,ed.sql (SqL.of f6),U,m1,Sm.small ⋯ ⋯ ⋯,⟨⋯,⋯⟩,hR⟩))
 have e7:((List.range (((hs.length:Int)-1)*m+1).toNat).map λt:Nat=>V.int (zw hs ((0:Int)+t) m))=(xt hs m).map V.int:=by
  unfold xt;rw[bp,show(((hs.length:Int)-1)*m+1).toNat=(hs.length-1)*m.toNat+1 by
   have:(((hs.length-1)*m.toNat:Nat):Int)=((hs.length:Int)-1)*m:=by
    push_cast
    rw[show((hs.length-1:Nat):Int)=(hs.length:Int)-1 by lia,show((m.toNat:Nat):Int)=m by lia]
   lia]
  refine cu λt _=>?_;show V.int (zw hs ((0:Int)+t) m)=V.int (zw hs t m);rw[fQ]
 rw[e7];have s7:=Same.upd (o:=.lst ((xt hs m).map V.int)) n7;have f7:upd H6 p7 (.lst ((xt hs m).map V.int)) p7=some (.lst ((xt hs m).map V.int)):=upd_same;generalize upd H6 p7 (.lst ((xt hs m).map V.int))=H7 at s7 f7;have co:=cp.trans s7;refine exI rfl (exI rfl ⟨a,ns,_,_,_,rfl,co.sql hS,⋯,⋯,⋯,⋯,λr2 _ l2 u2=>?_⟩);refine⟨_,_,rfl,rfl,p7,xt hs m,1+r2,80,rfl,SqL.of f7,ad,⋯,⋯,λab H8 e1 e2 hx s8=>?_⟩;have bm:∀l:Nat,1<=l->l<=ab.toNat->crS (xt hs m) l<=1000:=λl h1 h2=>by
  rcases(by lia:l=1\/2<=l) with z|z
  .subst z;have:=cr_one ad;lia
  .have:=hx (l-1) ⋯ ⋯;rw[show l-1+1=l by lia]at this;lia
 have dg:∀l:Nat,1<=l->l<=ab.toNat->crS hs l<=1000:=λl h1 h2=>cS (cr_fin U m1 l) (bm l h1 h2);have cm:=co.trans s8;refine exI rfl (exI rfl ⟨a,ns,_,_,_,rfl,cm.sql hS,⋯,⋯,⋯,⋯,⋯,λp9 W Z D n9 b4 b3 b0 em dy dq=>?_⟩);have s9:=Same.upd (o:=.tup [.int (W*D),.int (Z*D)]) n9;have f9:upd H8 p9 (.tup [.int (W*D),.int (Z*D)]) p9=some (.tup [.int (W*D),.int (Z*D)]):=upd_same;generalize upd H8 p9 (.tup [.int (W*D),.int (Z*D)])=H9 at s9 f9;have d3:=cm.trans s9;refine exI rfl ⟨a,ns,exI rfl ⟨d3.sql hS,⋯,λcv _=>?_⟩⟩;refine wv rfl rfl ⟨⟨⋯,⋯,⋯⟩,wv rfl rfl (wv rfl rfl ⟨(by rw[pow60];exact(by decide:(0:Int)<1000000000000000000000000000000000000000000000000000000000001)),?_⟩)⟩;have a4:=step60 (x:=cv);obtain⟨st,bd⟩:∃st:Int,st=cv%((10:Int) ^ (60:Int).toNat+1):=⟨_,rfl⟩;rw[<-bd]at a4;simp only[<-bd];clear bd;have ac:1<=Z*D:=yj b4 b0;have en:Z*D<=90:=by have:=eA b3 em ⋯ ⋯;simpa using this
 have sb:∀n,65<=n->Sm n (Z*D):=λn hn=>(Sm.small (n:=65) ⋯ ⋯ ⋯).mono hn;have ap:xw hs (W*D) (Z*D):=⟨cA dy ⋯,by
  have:=am dq (show 0<=D by lia)
  rw[<-d7]
  exact this⟩
 have cs:=wkv U b4 b0 ap (cE _) b3 ⋯;have bc:xw (xt hs m) (W*D*m) (Z*D):=by rw[bu];exact qyn U.1 m1 ap
 have cr:¬ Dist (itP (xt hs m) (ww (W*D*m) (Z*D))) 1001:=by rw[show W*D*m=W*m*D by grind]at bc ⊢;exact wkv ad b4 b0 bc (iw (j7 U.1 m1)) b3 wm
 have b6:=s7.trans (s8.trans s9);have a5:=qzt U m1 ac ap st.toNat;have eL:itP hs (ww (W*D) (Z*D)) st.toNat=ww (trT hs (W*D) (Z*D) st.toNat) (Z*D):=(Qg ac _).symm;have eR:itP (xt hs m) (ww (W*D*m) (Z*D)) st.toNat=ww (m*trT hs (W*D) (Z*D) st.toNat) (Z*D):=by rw[<-Qg ac,bu (W*D) m,a5]
 have fi:0<=W*D/\W*D<=270:=⟨ap.1,cS ap.2 (by
  have:=eA c4 en ⋯ ⋯
  lia)⟩
 generalize W*D=T9 at *;generalize Z*D=B9 at *;generalize trT hs T9 B9 st.toNat=X9 at eL eR a5;refine⟨_,rfl,_,rfl,_,rfl,rd,p9,hs,T9,B9,st,rfl,b5.same b6,U,SqT.of f9,λ_=>⟨sb _ ⋯,λ_=>⟨λ_=>⟨λ_ pL dm ck dl=>?_,λz=>absurd z cs⟩,λz=>absurd a4 z⟩,λz=>absurd ap z⟩,λz=>absurd ac ⋯⟩;rw[eL]at dl;have dk:=ck _ _ f9;refine exI rfl (exI rfl (exX rfl rfl (SqT.of dk) rfl (exI rfl (wv rfl rfl ⟨IntMulOk.of_right (intBits_le_64 ⋯ ⋯),exI rfl (exX rfl rfl (SqT.of dk) rfl ⟨sz2,λpt nt=>?_⟩)⟩))));have a6:=Same.upd (o:=.tup [.int (T9*m),.int B9]) nt;have ft:upd dm pt (.tup [.int (T9*m),.int B9]) pt=some (.tup [.int (T9*m),.int B9]):=upd_same;generalize upd dm pt (.tup [.int (T9*m),.int B9])=H11 at a6 ft;have ca:=b6.trans (ck.trans a6);refine⟨_,rfl,rf,pt,xt hs m,T9*m,B9,st,rfl,R6.same ca,ad,SqT.of ft,λ_=>⟨sb _ ⋯,λ_=>⟨λ_=>⟨λ_ pR e0 cj bs=>?_,λz=>absurd z cr⟩,λz=>absurd a4 z⟩,λz=>absurd bc z⟩,λz=>absurd ac ⋯⟩;rw[eR]at bs;have bx:=cj _ _ (a6 _ _ dl);have lB:=zy (t:=X9) ac;have lC:=Qh (t:=X9) ac;have mB:=zy (t:=m*X9) ac;have mC:=Qh (t:=m*X9) ac;have eF:=xzd (X:=X9) ac m1;have fe:=Q7 (t:=X9) ac;have XO:=Ys U ac ap st.toNat;generalize ww X9 B9=L at *;generalize ww (m*X9) B9=R at *;refine exI rfl ⟨pL,L.1,L.2,rfl,bx,lB,lC,_,rfl,yx ?_⟩;refine exI rfl ⟨pR,R.1,R.2,rfl,bs,mB,mC,_,rfl,yx ?_⟩;refine cutS [some (.ref a),some (.ref p),some (.int ((hs.length:Int)-1)),some (.int m),some (.ref rd),some (.ref rf),some (.ref p7),some (.int ab),some (.ref p9),some (.int st),some (.ref pL),some (.ref pR),none,none,none,none,none] rfl ?_;refine exI rfl (exI rfl (exX rfl rfl (SqT.of bx) rfl (exI rfl (wv rfl rfl ⟨IntMulOk.of_right (intBits_le_64 ⋯ ⋯),exI rfl (exX rfl rfl (SqT.of bx) rfl ⟨_,_,rfl,lB,(Sm.small (n:=65) ⋯ ⋯ ⋯).mono ⋯,λpz nz=>?_⟩)⟩))));have sz:=Same.upd (o:=.tup (ptV (ww (L.1*m) L.2))) nz;refine⟨ptD R,ptD (ww (L.1*m) L.2),wqb (SqT.of (sz _ _ bs)),wqb SqT.new,rfl,rfl,xwm,_,rfl,?_⟩;show if(!PyData.eqv (ptD R) (ptD (ww (L.1*m) L.2)))=true then _ else _
 rw[wxf,aS (by rw[eF])];refine yx ?_;generalize upd e0 pz (.tup (ptV (ww (L.1*m) L.2)))=H13 at sz;have a2:=ca.trans (cj.trans sz);have n1:1<=ab.toNat:=by lia
 have n2:ab.toNat<=12:=by lia
 have ev:k9 TT jp Ju H13:=jn (.inl hT) (cp.trans a2);refine⟨_,rfl,_,rfl,rd,hs,ab,rfl,b5.same a2,U,e1,⋯,dg _ n1 (aj _),ev,λb1 lp lw ys as ws f5 c1 eu fb fl P fw B=>?_⟩;refine⟨b1,exI rfl ⟨SqT.of fb,rfl,_,_,rfl,_,_,rfl,rfl,?_⟩⟩;refine⟨_,rfl,_,rfl,rf,xt hs m,ab,rfl,(R6.same a2).kp c1,ad,e1,⋯,bm _ n1 (aj _),eu,λb2 c0 ct dn cq dp f4 a3 et ej db P2 c6 B2=>?_⟩;refine⟨b2,exI rfl ⟨SqT.of ej,rfl,_,_,rfl,_,_,rfl,rfl,?_⟩⟩;obtain⟨eP,eW⟩:=bk_fin U ad m1 n1 n2 B.bk B2.bk;have dd:=a3.lst fl;have c7:=a3.lst fw;have P1:=qxr a3 P;have g1:∀p∈as,1<=p.2/\gOf p.1 p.2=1/\xw hs p.1 p.2:=λp hp=>y7 U n1 n2 ((B.pmem p).mp hp).1;have g2:∀p∈cq,1<=p.2/\gOf p.1 p.2=1/\xw (xt hs m) p.1 p.2:=λp hp=>y7 ad n1 n2 ((B2.pmem p).mp hp).1;have pf:=B.pfew;have wf:=B.wfew;have e5:=B2.pfew;have e4:=B2.wfew;refine⟨_,rfl,lp,as,rfl,⟨ys,dd,P1⟩,⋯,λp hp=>⟨(g1 p hp).1,(g1 p hp).2.1⟩,λf3 a9=>(exI rfl (yx ?_))⟩;refine⟨_,rfl,c0,cq,rfl,⟨dn,a9 _ _ db,qxr (Kp.of a9) P2⟩,⋯,λp hp=>⟨(g2 p hp).1,(g2 p hp).2.1⟩,λf2 d2=>(exI rfl (yx ?_))⟩;have a7:=a9.trans d2;refine⟨_,rfl,lw,ws,rfl,a7 _ _ c7,⋯,λf0 ce=>(exI rfl (yx ?_))⟩;refine⟨_,rfl,ct,dp,rfl,ce _ _ (a7 _ _ c6),⋯,λez d1=>(exI rfl (yx ?_))⟩;have an:=a7.trans (ce.trans d1);have c8:=an _ _ dd;have P9:=qxr (Kp.of an) P1;have ei:=an _ _ db;have ew:=qxr (Kp.of an) P2;have ef:=an _ _ c7;have eh:=an _ _ c6;have ec:=(c1.trans a3).trans (Kp.of an);have er:k9 TT jp Ju ez:=jn et an;refine cutS [some (.ref a),some (.ref p),some (.int ((hs.length:Int)-1)),some (.int m),some (.ref rd),some (.ref rf),some (.ref p7),some (.int ab),some (.ref p9),some (.int st),some (.ref pL),some (.ref pR),some (.ref lp),some (.ref lw),some (.ref c0),some (.ref ct),none] rfl ?_;subst eP;subst eW;have d4:∀p∈as,OkP p:=λp hp=>Zf U n1 n2 ((B.pmem p).mp hp).1;have wb:∀v∈ws,0<=v/\v<=24:=λv hv=>by have:=qzv U n1 ((B.wmem v).mp hv);lia
 have e8:=bZ P9;clear B B2 g2 cs cr a5;refine exI rfl (exI rfl ⟨lp,rfl,⟨_,SqL.of c8⟩,Zj (K:=K) (λi v H=>PtR H v (finP m (as.getD i (0,1)))) (λi v H H' g st=>qx5 g st) (SqL.of c8) ⋯ (λi x H2 R hx s2 c5=>?_) λpc vs Hc nc a0 fc lc gc=>?_⟩)
 .obtain⟨pt,ep,ax,rfl,fx⟩:=Wm P9 hx;have hp:=aF ep;have eg:as.getD i (0,1)=pt:=by rw[af,ep];rfl
  have c3:=SqT.of (K:=K) (s2 _ _ fx);rw[eg]at c5;refine exI rfl (exX rfl rfl c3 rfl (exI rfl (wv rfl rfl ⟨IntMulOk.of_right (intBits_le_64 ⋯ ⋯),exI rfl (exX rfl rfl c3 rfl ⟨_,_,rfl,(g1 pt hp).1,(d4 pt hp).2.2.mono ⋯,λpn nn=>c5 (.ref pn) _ (Same.upd nn) ⟨pn,rfl,upd_same⟩⟩)⟩)))
 have Pc:Paired (PtR Hc) vs (as.map (finP m)):=qzs (by rw[ag];lia) λi x y ex ey=>by rw[aw]at ey;obtain⟨pt,ep,rfl⟩:=df.mp ey;have:=gc i x ex;rwa [af,ep]at this
 refine⟨_,_,PtsAt.rd ⟨_,a0 _ _ ei,qxr (Kp.of a0) ew⟩,PtsAt.rd ⟨_,fc,Pc⟩,wkq _,wkq _,xvz _ _,_,rfl,?_⟩;rw[xvr];refine yx ?_;refine⟨_,rfl,_,rfl,_,rfl,lw,ws,m,rfl,SqL.of (a0 _ _ ef),⋯,wb,m1,⋯,λpp fz cb el=>?_⟩;refine⟨_,_,qq9 (SqL.of (cb _ _ (a0 _ _ eh))),qq9 (SqL.of el),Z8 _,Z8 _,wqn _ _,_,rfl,?_⟩;rw[quv];refine yx ?_;have cc:=a0.trans cb;have c2:=ec.trans (Kp.of cc);refine⟨_,rfl,_,rfl,rf,xt hs m,ab,rfl,(R6.same a2).kp c2,ad,e1,⋯,bm,jn er cc,λlq fy eb eq bq _=>?_⟩;rw[xw5 U ad m1 n2]at bq;have ll:=quc hs ab.toNat;refine⟨_,rfl,lq,_,rfl,bq,⋯,λfr a8=>?_⟩;refine exI rfl (Q2 ?_);refine⟨_,rfl,_,rfl,rd,hs,ab,rfl,((b5.same a2).kp (c2.trans eb)).same a8,U,e1,⋯,dg,jn eq a8,λe9 fq ea fo ek _=>?_⟩;refine exI rfl ⟨.list ((yr hs ab.toNat).map .int),.list ((yr hs ab.toNat).map .int),qq9 (SqL.of ek),qq9 (SqL.of (ea.lst (a8 _ _ bq))),Z8 _,Z8 _,wqn _ _,?_⟩;show Q (.bl (PyData.eqv (.list ((yr hs ab.toNat).map .int)) (.list ((yr hs ab.toNat).map .int)))) _;rw[quv];exact k _
end
section
theorem all_mk {l:PySem.W.OpenLaw}{w:Ah}{K:Aa}{h:Heap}{mg:Str->Option Ag}{fa cO TT:Aj}{qf:Aj}{qx:Aj}{qc:Aj}{qy:Aj}{qd:Aj}{qg:Aj}{qk:Aj}{zew:Tok}{zex:Tok}{zey:Tok}{zez:Tok}{ze0:Tok}{ze1:Tok}(X:K.In h)(G:h.Ns mainGlobals mg)(hfa:mg "law" = some (.ref fa))
  (zcj:DefIn K "_law_cell" zbq)
  (zck:DefIn K "_law_pick" zbr)
  (zcl:DefInD K "check_count" zao)
  (zcm:DefIn K "check_bottom" zau)
  (zcn:DefIn K "is_line" zax)
  (zco:DefIn K "covered" zbc)
  (zcp:DefIn K "covers_of" zbd)
  (zcq:DefIn K "ways_of_no_step" zbe)
  (zcr:DefIn K "one_step_more" zbf)
  (zcs:DefIn K "ways_up_to" zbg)
  (zct:DefIn K "rows_from" zbh)
  (zcu:DefIn K "rows" zbi)
  (zcv:DefIn K "common_divisor" zav)
  (zcw:DefIn K "lowest" zaw)
  (zcx:DefInT K "ordered" zap cO) (hC:PySem.W.codeHdIn K cO TT=true)
  (zcy:DefIn K "walked" za7)
  (zcz:DefIn K "corners_back" zbl)
  (zc0:DefIn K "lies_in" zbm)
  (zc1:DefIn K "line_along" zbj)
  (zc2:DefIn K "fixed_point" zbk)
  (zc3:DefIn K "back" zbn)
  (zc4:DefIn K "trace" za8)
  (zc5:DefIn K "least" zbb)
  (zc6:DefIn K "candidates" zbo)
  (zc7:DefIn K "lengths" zbp)
  (zc8:DefIn K "finer" za6)
  (zc9:DefIn K "spot" za9)
  (zda:DefIn K "far" zba)
  (zdb:DefIn K "_law_climb" zbs)
  (zdc:DefIn K "_law_heights" zbt)
  (zdd:DefIn K "_law_crowds" zbu)
  (zde:DefIn K "_law_times" zbv)
  (zdf:DefIn K "_law_whole" zbw)
  (zdg:DefIn K "_law_numbers" zb1)
  (zdh:DefIn K "_law_common" zbx)
  (zdi:DefIn K "_law_low" zby)
  (zdj:DefIn K "_law_point" zbz)
  (zdk:DefIn K "_law_points" zb0)
  (zdl:DefIn K "_law_step" zb3)
  (zdm:DefIn K "_law_spot" zb2)
  (zdn:DefIn K "_law_parts" zb4)
  (zdo:DefIn K "law" zb8)
  (zdp:PySem.W.nsIn K mainGlobals "BadLine" = some (some (.ref qf)))
  (zal:PySem.W.excIn K qf [.type "ValueError",.type "Exception",.type "BaseException",.type "object"] "ValueError.__new__" = true)
  (zdq:PySem.W.nsIn K mainGlobals "BadBottom" = some (some (.ref qx)))
  (zaq:PySem.W.excIn K qx [.type "ValueError",.type "Exception",.type "BaseException",.type "object"] "ValueError.__new__" = true)
  (zdr:PySem.W.nsIn K mainGlobals "OffRoad" = some (some (.ref qc)))
  (zar:PySem.W.excIn K qc [.type "ValueError",.type "Exception",.type "BaseException",.type "object"] "ValueError.__new__" = true)
  (zds:PySem.W.nsIn K mainGlobals "BadCount" = some (some (.ref qy)))
  (zas:PySem.W.excIn K qy [.type "ValueError",.type "Exception",.type "BaseException",.type "object"] "ValueError.__new__" = true)
  (zdt:PySem.W.nsIn K mainGlobals "TooLong" = some (some (.ref qd)))
  (zam:PySem.W.excIn K qd [.type "ValueError",.type "Exception",.type "BaseException",.type "object"] "ValueError.__new__" = true)
  (zdu:PySem.W.nsIn K mainGlobals "BadRow" = some (some (.ref qg)))
  (zat:PySem.W.excIn K qg [.type "ValueError",.type "Exception",.type "BaseException",.type "object"] "ValueError.__new__" = true)
  (zdv:PySem.W.nsIn K mainGlobals "Road" = some (some (.ref qk)))
  (zdw:PySem.W.plainGet K qk Str.empty=true)
  (zdx:PySem.W.hasDictIn K qk=true)
  (zdy:PySem.W.plainOver K qk=true)
  (zdz:PySem.W.findIn K (.ref qk) "__setattr__" = some (some (.builtin "object.__setattr__")))
  (zd0:PySem.W.makesIn K qk=true)
  (zd1:PySem.W.keepIn K (.ref qk)=true)
  (zd2:MethIn K qk "__init__" "Road.__init__" zay)
  (zd3:MethIn K qk "width" "Road.width" zaz)
  (zd4:MethIn K qk "corners" "Road.corners" za0)
  (zd5:MethIn K qk "ends" "Road.ends" za1)
  (zd6:MethIn K qk "reach" "Road.reach" za3)
  (zd7:MethIn K qk "slope" "Road.slope" za2)
  (zd8:MethIn K qk "on_road" "Road.on_road" za4)
  (zd9:MethIn K qk "at" "Road.at" za5)
  (zea:PySem.W.findIn K (.ref qk) "heights" = some none)
  (zac:PySem.W.nsIn K mainGlobals "WIDEST" = some (some (.int 24 zew)))
  (zag:PySem.W.nsIn K mainGlobals "LONGEST_TRACE" = some (some (.int 1000 zex)))
  (zad:PySem.W.nsIn K mainGlobals "LONGEST_ROW" = some (some (.int 12 zey)))
  (zah:PySem.W.nsIn K mainGlobals "MOST_WAYS" = some (some (.int 1000 zez)))
  (zai:PySem.W.nsIn K mainGlobals "MOST_WALKED" = some (some (.int 1000 ze0)))
  (zaj:PySem.W.nsIn K mainGlobals "FARTHEST" = some (some (.int 1000000000000000000000000000000000000000000000000000000000000 ze1)))
  (zeb:PySem.W.nsIn K mainGlobals "len" = some none)
  (zec:PySem.W.nsIn K mainGlobals "abs" = some none)
  (zed:PySem.W.nsIn K mainGlobals "range" = some none)
  (zee:PySem.W.nsIn K mainGlobals "isinstance" = some none)
  (zef:PySem.W.nsIn K mainGlobals "int" = some none)
  (zeg:PySem.W.nsIn K mainGlobals "bool" = some none)
  (zeh:PySem.W.nsIn K mainGlobals "list" = some none)
  (zei:PySem.W.nsIn K mainGlobals "min" = some none)
  (zej:PySem.W.nsIn K mainGlobals "max" = some none)
  (zek:PySem.W.nsIn K mainGlobals "all" = some none)
  (zel:PySem.W.nsIn K mainGlobals "any" = some none)
  (zem:PySem.W.nsIn K mainGlobals "sum" = some none)
  (zen:PySem.W.nsIn K mainGlobals "sorted" = some none)
  (zeo:PySem.W.nsIn K mainGlobals "zip" = some none)
  (zep:PySem.W.nsIn K mainGlobals "tuple" = some none) :
  ∃fd:Ad,(∀(s:Ab) (v:Ag),BindsTo s fd ⟨[v],[]⟩ [("_law_script",v)])/\∀base:Heap,K.In base->base.Ns mainGlobals mg->BMain mg base->FnOk l.prog w K mg base (CXE l.prog w) 11 fa fd ["_law_script"] (qj3 K TT):=by
 have T:Txt K mg qf qx qc qy qd qg qk:=⟨bv X G zeb,bv X G zec,bv X G zed,bv X G zee,bv X G zef,bv X G zeg,bv X G zeh,bv X G zei,bv X G zej,bv X G zek,bv X G zel,bv X G zem,bv X G zen,bv X G zeo,bv X G zep,bS X G zdp,⟨zal⟩,bS X G zdq,⟨zaq⟩,bS X G zdr,⟨zar⟩,bS X G zds,⟨zas⟩,bS X G zdt,⟨zam⟩,bS X G zdu,⟨zat⟩,⟨zdw,zdx,zdy,zdz⟩,zea,⟨zew,bS X G zac⟩,bS X G zdv,⟨zex,bS X G zag⟩,⟨zey,bS X G zad⟩,⟨zez,bS X G zah⟩,⟨ze0,bS X G zai⟩,⟨ze1,bS X G zaj⟩⟩;obtain⟨f,fd,a,F⟩:=zdo.ex;have e:=hfa.symm.trans (bS X G a);cases e;refine⟨fd,λs v=>?_,λbase kb nb hB=>?_⟩
 .obtain⟨oc,od,kV,co,pm,an,cdv,ct,ck,rfl,lk,cm⟩:=F.ex;exact .of_eq rfl
 .have c1:Cal l.prog w K mg base "_law_cell" 1 (qk8 K):=zcj.cal X G qj7 λf fd F=>xvu T F;have U:Cal l.prog w K mg base "_law_pick" 2 (Z1 K):=zck.cal X G qy9 λf fd F=>xks T F c1;have J:CalD l.prog w K mg base "check_count" 1 (Qm qy):=zcl.cal X G qw8 qx0 λf fd F=>xx2 T F;have c4:Cal l.prog w K mg base "check_bottom" 1 (qwz qx):=zcm.cal X G qq0 λf fd F=>xx0 T F;have c5:Cal l.prog w K mg base "is_line" 1 (qzn K):=zcn.cal X G wz1 λf fd F=>wzu T F;have c6:CCal l.prog w K mg base "Road" qk 2 (qxy K qf qk):=zd2.ccal T.ze9 zd0 zd1 Y8 λf fd F=>xzh T F c5;have z:MCal l.prog w K mg base qk "width" 1 (jk qk):=zd3.cal qv1 λf fd F=>xwj T F;have c8:MCal l.prog w K mg base qk "corners" 1 (Jq qk):=zd4.cal qqg λf fd F=>ww5 T F;have D:MCal l.prog w K mg base qk "ends" 2 (Zh qk qg):=zd5.cal qys λf fd F=>xvk T F z;have cj:MCal l.prog w K mg base qk "reach" 3 (qjx qk qg):=zd6.cal qvz λf fd F=>xww T F D;have a2:MCal l.prog w K mg base qk "slope" 3 (qwf qk qg):=zd7.cal qvb λf fd F=>xqu T F D;have ci:Cal l.prog w K mg base "covered" 4 (Jx qk qg):=zco.cal X G wxu λf fd F=>wx5 T F cj;have a1:Cal l.prog w K mg base "covers_of" 5 (Qu qk):=zcp.cal X G qyf λf fd F=>qjd T F z ci;have ce:Cal l.prog w K mg base "ways_of_no_step" 1 qzw:=zcq.cal X G Zg λf fd F=>wxd T F;have cc:∀hs,q8 hs->Cal l.prog w K mg base "one_step_more" 1 (Jj hs):=λhs ok=>zcr.cal X G Jk λf fd F=>wwy ok F T;have cb:Cal l.prog w K mg base "ways_up_to" 6 (qxj qk):=zcs.cal X G qvg λf fd F=>ww9 T F a1 z ce cc;have ca:Cal l.prog w K mg base "rows_from" 1 Zb:=zct.cal X G qjy λf fd F=>qjr T F;have b9:Cal l.prog w K mg base "rows" 7 (wxb qk qy qd):=zcu.cal X G xzg λf fd F=>xvv T F J cb a1 z ca;have b6:Cal l.prog w K mg base "common_divisor" 1 qwn:=zcv.cal X G Yv λf fd F=>zfc T F;have Z:Cal l.prog w K mg base "lowest" 2 (Q6 qx):=zcw.cal X G wyq λf fd F=>wjn T F c4 b6;have a0:Cal l.prog w K mg base "ordered" 6 (wv2 K TT qx):=zcx.cal X G wzs λf fd F=>zfq F T hB hC c4;have L:MCal l.prog w K mg base qk "on_road" 3 (Qz K qk qx qc):=zd8.cal qqn λf fd F=>wzk T F z Z;have ax:MCal l.prog w K mg base qk "at" 4 (spAt K qk qx qc):=zd9.cal wxz λf fd F=>zfe T F z Z D L;have b5:Cal l.prog w K mg base "walked" 5 (qzx K qk qx qc qy):=zcy.cal X G wjx λf fd F=>wy1 T F J L ax;have b4:Cal l.prog w K mg base "corners_back" 6 (qjm qk):=zcz.cal X G qqd λf fd F=>xxt T F z b5;have b3:Cal l.prog w K mg base "lies_in" 1 (wx9 K):=zc0.cal X G ww8 λf fd F=>xkp T F;have b2:Cal l.prog w K mg base "line_along" 4 (qyw K qk):=zc1.cal X G qvq λf fd F=>wur T F a2 D;have b1:Cal l.prog w K mg base "fixed_point" 5 (qj6 K qk):=zc2.cal X G qzp λf fd F=>wus T F b2 Z;have as:Cal l.prog w K mg base "back" 8 (qyc qk TT):=zc3.cal X G xkw λf fd F=>xvc T F b9 b1 b4 b3 a0;have ap:Cal l.prog w K mg base "trace" 5 (qwj qk qd):=zc4.cal X G xxz λf fd F=>xxp T F ax;have b0:Cal l.prog w K mg base "least" 6 (qy1 K qk):=zc5.cal X G xxc λf fd F=>xxk T F L ap;have bx:Cal l.prog w K mg base "candidates" 9 (wxw qk TT):=zc6.cal X G qvw λf fd F=>xzc T F as a0 b0;have bs:Cal l.prog w K mg base "lengths" 10 (wzf qk TT):=zc7.cal X G wxp λf fd F=>xvn T F J bx;have bq:Cal l.prog w K mg base "finer" 4 (qyk qk qf):=zc8.cal X G wu3 λf fd F=>wuh T F J c6 z c8 D a2;have bm:Cal l.prog w K mg base "spot" 1 wxx:=zc9.cal X G xz9 λf fd F=>xzs T F;have bl:Cal l.prog w K mg base "far" 6 (xq2 K qk qx qc qy qd):=zda.cal X G ze3 λf fd F=>zfo T F J L ap bm;have bk:Cal l.prog w K mg base "_law_climb" 3 (qwy K):=zdb.cal X G qz7 λf fd F=>xwf T F U;have bd:Cal l.prog w K mg base "_law_heights" 4 (Yp K):=zdc.cal X G qqm λf fd F=>wzy T F U bk;have bc:Cal l.prog w K mg base "_law_crowds" 1 (qxh K):=zdd.cal X G qws λf fd F=>wjd T F;have a9:Cal l.prog w K mg base "_law_times" 2 (qy6 K):=zde.cal X G qvc λf fd F=>xxq T F bc;have ad:Cal l.prog w K mg base "_law_whole" 1 qwk:=zdf.cal X G qvd λf fd F=>xw9 T F;have a8:Cal l.prog w K mg base "_law_numbers" 2 (Js K):=zdg.cal X G qqp λf fd F=>wzx T F ad;have ac:Cal l.prog w K mg base "_law_common" 1 qwn:=zdh.cal X G qxq λf fd F=>wj4 T F;have a7:Cal l.prog w K mg base "_law_low" 2 wu6:=zdi.cal X G wwm λf fd F=>zfy T F ac;have ab:Cal l.prog w K mg base "_law_point" 2 (qwb K):=zdj.cal X G qv4 λf fd F=>xzq T F ad ac;have a6:Cal l.prog w K mg base "_law_points" 3 (qw1 K):=zdk.cal X G qzm λf fd F=>wy0 T F ab;have a5:Cal l.prog w K mg base "_law_step" 1 (wzm K):=zdl.cal X G qyv λf fd F=>xkf T F;have a4:Cal l.prog w K mg base "_law_spot" 3 (qyu K):=zdm.cal X G qym λf fd F=>xqn T F U;have a3:Cal l.prog w K mg base "_law_parts" 1 (qjz K):=zdn.cal X G qz8 λf fd F=>xq6 T F;exact zfz T F c1 U bd c6 bq a5 a9 a4 bl ab a7 as a6 a8 a3 bs
theorem walk {l:PySem.W.OpenLaw}{q:Ac}{loose:List Str}{XP:(Str->Option Ag)->Heap->Prop}{YP:Ah->Heap->Prop}{d:DefRec}{K:Params->Aa}{cO TT:Aj}(hn:l.most=some 63)(hdf:d.params.defaults=[])
  (hY:∀(w:Ah) (h:Heap),YP w h->(K w.params).In h/\h.get? TT=some (PySem.W.tabObj #[])) (hcT:∀p,PySem.W.codeHdIn (K p) cO TT=true) (hKT:∀p,(K p).lookup TT=none)
  (F:∀(w:Ah) (mg:Str->Option Ag) (fa:Aj) (h:Heap),(K w.params).In h->h.Ns mainGlobals mg->mg d.name=some (.ref fa) ->
   ∃fd:Ad,(∀(s:Ab) (u:Ag),BindsTo s fd ⟨[u],[]⟩ [("_law_script",u)])/\∀base:Heap,(K w.params).In base->base.Ns mainGlobals mg->BMain mg base->FnOk l.prog w (K w.params) mg base (CXE l.prog w) 11 fa fd ["_law_script"] (qj3 (K w.params) TT)) :
  PySem.W.WalkO q loose XP YP l.row.toRowW d [] (λf vs=>PySem.call f vs) :=
 L2.xqr (n:=63) (k:=11) (x := "_law_script") (CX:=λw=>CXE l.prog w) (sp:=λw=>qj3 (K w.params) TT) hn ⋯ hdf ⟨rfl,⋯,⋯⟩ hY hcT hKT F (λ_ _ a ns hl hT hS=>⟨a,ns,rfl,hS,hl,hT,λ_=>rfl⟩) λ_ _ _ _ _ z=>CXE.no z
end
end My
open PySem PySem.W PyProof.Rows
local macro_rules | `(tactic| walk_at "defT")=>`(tactic| (refine' L2.xv8 ?a ?l ?c ?k;(case a=>k_is);(case l=>k_is);(case c=>k_is);(case k=>k_is)))
local macro_rules | `(tactic| walk_at "def")=>`(tactic| (refine' L2.def_mk ?a ?l ?c ?k;(case a=>k_is);(case l=>k_is);(case c=>k_is);(case k=>k_is)))
local macro_rules | `(tactic| walk_at "defD")=>`(tactic| (refine' L2.xk9 ?a ?l ?c ?k ?t;(case a=>k_is);(case l=>k_is);(case c=>k_is);(case k=>k_is);(case t=>k_is)))
local macro_rules | `(tactic| walk_at "meth")=>`(tactic| (refine' L2.xzr ?a ?i ?l ?c ?k;(case a=>k_is);(case i=>k_is);(case l=>k_is);(case c=>k_is);(case k=>k_is)))
section
open Lean
local macro_rules|`(universe $x*)=>do let mut r:=#[];for i in x do {let s:=i.getId.toString;let n:=((s.drop 1).toString.splitOn "_").map String.toNat!;for j in [n.head!:n.getLast!+1] do {r:=r.push (<-`(command|theorem $(mkIdent (.str `PySem.W.Fast s!"tw{(Name.str `PySem.Challenge.cw_crookroad_k37_whole_finer_walks_holds ((match s.front with|'h'=>"heap_"|'t'=>"tree_"|'v'=>"view_"|'s'=>"sts_"|'e'=>"env_"|_=>"o_")++toString j)).hash}")):ident:True:=trivial))}};return mkNullNode r
universe h39 h46 h493 t47 t63 t78 t93 t108 t123 t138 t187 t196 t268 t332 t411 t492 v39 o43_492 s49 s64 s79 s94 s109 s124 s139 s188 s197 s269 s333 s412 e41
end
theorem PySem.W.Fast.tw421671716784838383:True:=trivial
theorem PySem.W.Fast.tw4481250770486075182:True:=trivial
set_option maxRecDepth 100000 in
set_option maxHeartbeats 0 in
theorem PySem.Challenge.cw_crookroad_k37_whole_finer_walks_holds : PySem.Challenge.rw_crookroad_k37_whole_finer_walks.Holds := by
 w_on;o_law;k_head;(case hw=>w_witness2)
 k_fill
 refine My.walk (l:=PySem.Challenge.rw_crookroad_k37_whole_finer_walks) (cO:=132) (TT:=130) rfl rfl (fun w h Y=>⟨PySem.W.km_in_of Y,PySem.W.km_tabs_of Y 130 (.head _)⟩) (fun p=>by kernel_rfl) (fun p=>by kernel_rfl) ?F
 case F =>
  intro w mg fa h KX G hmg
  refine' My.all_mk (cO:=132) (TT:=130) KX G hmg ?zcj ?zck ?zcl ?zcm ?zcn ?zco ?zcp ?zcq ?zcr ?zcs ?zct ?zcu ?zcv ?zcw ?zcx ?hC ?zcy ?zcz ?zc0 ?zc1 ?zc2 ?zc3 ?zc4 ?zc5 ?zc6 ?zc7 ?zc8 ?zc9 ?zda ?zdb ?zdc ?zdd ?zde ?zdf ?zdg ?zdh ?zdi ?zdj ?zdk ?zdl ?zdm ?zdn ?zdo ?zdp ?zal ?zdq ?zaq ?zdr ?zar ?zds ?zas ?zdt ?zam ?zdu ?zat ?zdv ?zdw ?zdx ?zdy ?zdz ?zd0 ?zd1 ?zd2 ?zd3 ?zd4 ?zd5 ?zd6 ?zd7 ?zd8 ?zd9 ?zea ?zac ?zag ?zad ?zah ?zai ?zaj ?zeb ?zec ?zed ?zee ?zef ?zeg ?zeh ?zei ?zej ?zek ?zel ?zem ?zen ?zeo ?zep
  (case zcj=>walk_at "def")
  (case zck=>walk_at "def")
  (case zcl=>walk_at "defD")
  (case zcm=>walk_at "def")
  (case zcn=>walk_at "def")
  (case zco=>walk_at "def")
  (case zcp=>walk_at "def")
  (case zcq=>walk_at "def")
  (case zcr=>walk_at "def")
  (case zcs=>walk_at "def")
  (case zct=>walk_at "def")
  (case zcu=>walk_at "def")
  (case zcv=>walk_at "def")
  (case zcw=>walk_at "def")
  (case zcx=>walk_at "defT")
  (case hC=>exact(by kernel_rfl))
  (case zcy=>walk_at "def")
  (case zcz=>walk_at "def")
  (case zc0=>walk_at "def")
  (case zc1=>walk_at "def")
  (case zc2=>walk_at "def")
  (case zc3=>walk_at "def")
  (case zc4=>walk_at "def")
  (case zc5=>walk_at "def")
  (case zc6=>walk_at "def")
  (case zc7=>walk_at "def")
  (case zc8=>walk_at "def")
  (case zc9=>walk_at "def")
  (case zda=>walk_at "def")
  (case zdb=>walk_at "def")
  (case zdc=>walk_at "def")
  (case zdd=>walk_at "def")
  (case zde=>walk_at "def")
  (case zdf=>walk_at "def")
  (case zdg=>walk_at "def")
  (case zdh=>walk_at "def")
  (case zdi=>walk_at "def")
  (case zdj=>walk_at "def")
  (case zdk=>walk_at "def")
  (case zdl=>walk_at "def")
  (case zdm=>walk_at "def")
  (case zdn=>walk_at "def")
  (case zdo=>walk_at "def")
  (case zdp=>k_is)
  (case zal=>k_exc)
  (case zdq=>k_is)
  (case zaq=>k_exc)
  (case zdr=>k_is)
  (case zar=>k_exc)
  (case zds=>k_is)
  (case zas=>k_exc)
  (case zdt=>k_is)
  (case zam=>k_exc)
  (case zdu=>k_is)
  (case zat=>k_exc)
  (case zdv=>k_is)
  (case zdw=>k_is)
  (case zdx=>k_is)
  (case zdy=>k_is)
  (case zdz=>k_is)
  (case zd0=>k_is)
  (case zd1=>k_is)
  (case zd2=>walk_at "meth")
  (case zd3=>walk_at "meth")
  (case zd4=>walk_at "meth")
  (case zd5=>walk_at "meth")
  (case zd6=>walk_at "meth")
  (case zd7=>walk_at "meth")
  (case zd8=>walk_at "meth")
  (case zd9=>walk_at "meth")
  (case zea=>k_is)
  (case zac=>k_is)
  (case zag=>k_is)
  (case zad=>k_is)
  (case zah=>k_is)
  (case zai=>k_is)
  (case zaj=>k_is)
  (case zeb=>k_is)
  (case zec=>k_is)
  (case zed=>k_is)
  (case zee=>k_is)
  (case zef=>k_is)
  (case zeg=>k_is)
  (case zeh=>k_is)
  (case zei=>k_is)
  (case zej=>k_is)
  (case zek=>k_is)
  (case zel=>k_is)
  (case zem=>k_is)
  (case zen=>k_is)
  (case zeo=>k_is)
  (case zep=>k_is)
