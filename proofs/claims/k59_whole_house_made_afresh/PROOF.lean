import PyProof.Rows.All
import Wide.All
import OpenK.AllK
import Wide.FinOn
import Lean
import PyProof.EqAt
import PyProof.EqKinds
import PyProof.TupleCall
import PyProof.NeData
import KE.IntBitsLaws
import KE.KRevSl
import KE.KDictList
import KE.KRevIter
import PyProof.DictIter
import PyProof.DictItems
import PyProof.DictWalks
import PyProof.StrLoop
import KE.KPairComp
import PyProof.StrWalks
import KE.KSortKey
import KE.KDictOf
import PyProof.Rows.TupDisplay
import PyProof.DictCompW
import PyProof.DictUpdate
import PyProof.DictValues
import PyProof.StrLawsIn
import KE.KIntText
import PyProof.StrCalls2
import PyProof.Rows.StrJoin2
import PyProof.FString
import PyProof.Rows.StrSplitCount
import PyProof.StrLawsChain
import PySem.Challenge.RW_crookroad_k59_whole_house_made_afresh
set_option maxHeartbeats 0
set_option Elab.async false
set_option linter.all false
set_option maxRecDepth 100000
set_option tactic.hygienic false
open Lean in
local macro_rules(kind:=Lean.Parser.Command.declaration)|s=>do {if s.getPos?.isNone||(`PySem.Challenge).isPrefixOf s[1][1][0].getId then Macro.throwUnsupported else let k:=s[1].getKind;let m←`(command|noncomputable def x:=0);let s:=if (k==`Lean.Parser.Command.definition||k==`Lean.Parser.Command.abbrev||k==`Lean.Parser.Command.instance)&&s[0][4].isNone then s.setArg 0 (s[0].setArg 4 m.raw[0][4]) else s;return Id.run (s.rewriteBottomUpM fun x=>(if x.isOfKind `Lean.Parser.Term.basicFun then x.setArg 0 (x[0].setArgs (x[0].getArgs.map λb=>if b.isOfKind `Lean.Parser.Term.hole then mkIdent `ζ else b)) else x).setInfo .none)}
local macro_rules|`(tactic|lia)=>`(tactic|first|lia +splitIte|omega)
local macro_rules|`(⋯)=>`(by first|decide|lia|walk_at "o")
local macro_rules|`(tactic|walk_at "o")=>`(tactic|(intro vs H Q E h;repeat refine Exists.elim h λ_ h=>?_);first|(cases h.1;rfl)|(cases h;rfl))
open Lean in
local macro_rules|`(tactic|exists $t)=>`(tactic|refine $(mkIdent `exI) rfl $t)
open Lean in
local macro_rules|`(↑$f)=>match f with|`([$g])=>`(PySem.model ($g).prog ($g).w)|`(($g))=>`(PySem.W.excIn $(mkIdent `K) $g [.type "ValueError",.type "Exception",.type "BaseException",.type "object"] "ValueError.__new__" = true)|_=>`($f $(mkIdent `P) $(mkIdent `w) $(mkIdent `K) $(mkIdent `mg) $(mkIdent `base))
local macro_rules|`(tactic|walk_at "iv")=>`(tactic|first|exact .inl rfl|exact .inr rfl|assumption)
local macro_rules|`(tactic|walk_at "vs")=>`(tactic|first|exact Or.inl rfl|exact Or.inr (Or.inl rfl)|exact Or.inr (Or.inr rfl))
def aa:=@List.length_map
def ac:=@PySem.wpAny_bind
def ae:=@List.mem_cons
def af:=@List.not_mem_nil
def ag:=@if_neg
def ai:=@PySem.Heap.get?_push_of_some
def aj:=@List.getElem?_eq_getElem
def ak:=@if_pos
def al:=@Nat.le_refl
def am:=@List.mem_singleton
def ao:=@PySem.Heap.lt_size
def aq:=@PySem.wpAny_pure
def ar:=@List.mem_map
def au:=@Option.some.inj
def av:=@List.getD_eq_getElem?_getD
def aw:=@List.mem_cons_self
def ax:=@PySem.Heap.get?_push_size
def ay:=@List.mem_cons_of_mem
def az:=@Option.isSome_iff_exists
def aA:=@Nat.zero_le
def aB:=@List.getElem?_map
def aC:=@List.length_cons
def aD:=@Nat.ne_of_lt
def aE:=@List.length_append
def aF:=@PySem.boot_len
def aG:=@List.size_toArray
def aH:=@List.map_cons
def aI:=@List.getElem?_eq_some_iff
def aJ:=@List.mem_append_right
def aK:=@List.mem_of_getElem?
def aL:=@Nat.lt_of_lt_of_le
def aM:=@Bool.false_ne_true
def aN:=@Int.mul_le_mul_of_nonneg_right
def aO:=@List.lookup_cons
def aP:=@PySem.W.mg_of
def aQ:=@or_false
def aR:=@List.length_range
def aS:=@PySem.PassesOwn.leaving
def aT:=@decide_eq_true
def aU:=@Nat.lt_irrefl
def aV:=@List.map_append
def aW:=@List.mem_range
def aX:=@List.nodup_nil
def aY:=@beq_eq_false_iff_ne
def aZ:=@Ne.symm
def ba:=@List.mem_append
def bc:=@List.nodup_cons
def bd:=@PySem.W.mg_none_of
def be:=@decide_eq_false
def bg:=@List.getElem?_eq_none
def bh:=@PySem.wpAny_mono
def bi:=@List.getElem?_append_right
def bj:=@List.mem_filter
def bn:=@Array.length_toList
def bq:=@List.map_map
def bu:=@congrArg
def bv:=@Bool.and_eq_true
def bw:=@Nat.lt_trans
def bx:=@PySem.Paired.length
def bz:=@List.getElem?_append_left
def bA:=@PyProof.Rows.boot_list
def bB:=@Nat.le_trans
def bC:=@PySem.F.plainAttrs_list
def bD:=@List.getElem_of_mem
def bE:=@PySem.Calls.callWith_builtin
def bF:=@List.length_filter_le
def bG:=@List.length_take
def bH:=@List.getElem_mem
def bI:=@Int.emod_nonneg
def bJ:=@List.all_eq_true
def bK:=@Nat.le_of_lt
def bL:=@List.pairwise_map
def bM:=@of_decide_eq_true
def bN:=@PySem.F.plainAttrs_dict
def bO:=@Int.emod_lt_of_pos
def bP:=@List.filter_cons
def bQ:=@Int.mul_le_mul_of_nonneg_left
def bR:=@Nat.le_of_ble_eq_true
def bS:=@PySem.F.slot_list_append
def bT:=@PySem.F.type_list_append
def bU:=@PyProof.Rows.boot_sorted
def bV:=@PySem.F.slot_dict_keyiterator_next
def bW:=@List.mem_append_left
def bX:=@List.map_congr_left
def bY:=@List.range_succ
def bZ:=@Array.getElem?_eq_getElem
def ca:=@Array.getElem?_toList
def cb:=@PySem.F.slot_dict_get
def ce:=@List.take_length
def cf:=@PySem.wpAny_holding
def ck:=@PySem.call_meetsIn
def cm:=@List.Pairwise.imp_of_mem
def cn:=@PySem.Calls.evalArgs_plain
def cu:=@PySem.wpAny_typeNameOfWhole_keyiter
def cv:=@Option.isSome_map
def cw:=@PySem.wpAny_dictEntries
def cx:=@List.length_eq_zero_iff
def cy:=@List.take_add_one
def cz:=@Option.map_some
def cA:=@List.map_nil
def cB:=@Array.getElem?_eq_none
def cC:=@List.take_of_length_le
def cD:=@List.cons_ne_nil
def cE:=@List.mem_flatMap
def cF:=@PySem.Calls.spliced_cons
def cG:=@PySem.F.excBase_ValueError
def cH:=@PySem.tupleKind_room_in1
def cI:=@Bool.false_eq_true
def cJ:=@List.filter_append
def cK:=@List.append_ne_nil_of_right_ne_nil
def cL:=@Classical.byContradiction
def cM:=@PySem.wpAny_passesOwn
def cN:=@Bool.eq_iff_iff
def cO:=@List.append_nil
def cP:=@List.length_set
def cQ:=@PySem.wpAny_truthy_bool
def cR:=@PySem.wpAny_newObj_type
def cS:=@Int.lt_or_le
def cT:=@PySem.wpAny_typeNameOf_keyiter
def cU:=@PySem.mem_of_lookup
def cV:=@Int.toNat_of_nonneg
def cW:=@List.length_reverse
def cX:=@List.getElem?_range
def cY:=@PySem.wpAny_Call_method0_late
def cZ:=@PySem.wpAny_getItem_str_slice
def dc:=@PySem.wpAny_Call_Name_kw
def de:=@Nat.lt_or_ge
def df:=@PySem.F.entry_dict_get
def dh:=@PySem.F.plainAttrs_str
def di:=@PySem.wpAny_execs_nil
def dj:=@Int.mul_ediv_mul_of_pos_left
def dm:=@List.find?_cons
def dn:=@PySem.wpAny_standAt
def dq:=@PySem.StrLaws.glued_eq_join
def du:=@PyProof.Rows.callWith_type1
def dv:=@PySem.Calls.spliced_nil
def dz:=@Int.mul_nonneg
def dA:=@Array.size_map
def dB:=@Nat.mod_lt
def dC:=@List.getElem_inj
def dD:=@PySem.wpAny_call_entry
def dE:=@List.any_eq_true
def dF:=@PySem.Calls.call_function_entry
def dG:=@List.filterMap_cons
def dH:=@PySem.evalArgs_none
def dI:=@PySem.Heap.SameBut.update
def dJ:=@beq_iff_eq
def dL:=@Nat.lt_of_le_of_lt
def dM:=@List.pairwise_cons
def dN:=@List.find?_eq_none
def dO:=@PySem.wpAny_callSpecial?_slot
def dP:=@PySem.wpAny_assign_Name
def dQ:=@if_false
def dR:=@List.reverse_cons
def dS:=@PySem.codeAny_mono
def dU:=@Int.toNat_natCast
def dW:=@Option.map_eq_some_iff
def dX:=@PySem.wpAny_Call_method
def dY:=@List.ext_getElem?
def dZ:=@List.length_pos_of_mem
def d3:=@List.pairwise_lt_range
def d6:=@decide_eq_true_eq
def d7:=@List.getElem_take
def d8:=@List.nodup_append
def ee:=@PyProof.Rows.boot_dict
def eA:=@PySem.Heap.get?_update_self
def eB:=@PySem.codeAny_handlers_test
def eC:=@PySem.exec_Assign_Name_used
def eE:=@PyProof.Rows.boot_max
def eF:=@PySem.F.slot_list_pop
def eG:=@PySem.F.type_list_pop
def eI:=@PySem.W.KIN.num_reads
def eJ:=@PySem.F.args_dict_keyiterator_next_1
def eK:=@List.getElem_map
def eM:=@Int.mul_ediv_cancel'
def eN:=@PySem.lookup_relabel_local
def eO:=@PySem.F.entry_dict_keyiterator_next
def eP:=@List.eq_nil_of_length_eq_zero
def eQ:=@Nat.div_lt_of_lt_mul
def eS:=@PyProof.Rows.joinOk_of_weight
def eT:=@Int.lt_ediv_add_one_mul_self
def eU:=@List.length_nil
def eV:=@Nat.not_lt_zero
def eX:=@PySem.post_val_or_str
def eY:=@PySem.W.plainGet_of
def eZ:=@PySem.wpAny_handleBy_cons
def e7:=@PySem.Heap.get?_update_ne
def e9:=@ne_true_of_eq_false
def ff:=@Nat.ne_of_gt
def fg:=@Array.getD_eq_getD_getElem?
def fh:=@Int.mul_lt_mul_of_pos_right
def fj:=@PyProof.Rows.assignInOrder_cons
def fk:=@List.mem_filterMap
def fu:=@PySem.Heap.size_push
def fw:=@PySem.typeIs_str
def fx:=@PySem.W.callWith_K
def fy:=@Int.mul_lt_mul_of_pos_left
def fA:=@Array.getElem?_eq_some_iff
def fB:=@PySem.F.args_str_split_2
def fC:=@PySem.F.slot_dict_delitem
def fD:=@Nat.add_mul_mod_self_left
def fE:=@List.mem_of_find?_eq_some
def fF:=@Int.mul_neg_of_neg_of_pos
def fG:=@PySem.wpAny_pyIter_list
def fH:=@List.take_sublist
def fI:=@PySem.slot_list_getitem
def fJ:=@PySem.Heap.SameBut.refl
def fK:=@List.length_erase
def fL:=@PySem.F.entry_str_split
def fO:=@PySem.wpAny_newList
def fP:=@Nat.mul_assoc
def fQ:=@PySem.F.slot_dict_update
def fS:=@PySem.F.slot_dict_values
def fT:=@List.length_erase_of_mem
def fU:=@List.sum_cons
def fV:=@PySem.wpAny_execs_cons
def fX:=@Int.natCast_dvd_natCast
def fY:=@PySem.F.slot_dict_clear
def fZ:=@PySem.F.args_dict_get_2
def ga:=@PySem.F.args_dict_get_3
def gb:=@PySem.F.slot_dict_items
def gc:=@List.pairwise_singleton
def gf:=@PySem.F.slot_str_split
def gh:=@decide_eq_false_iff_not
def gi:=@if_true
def gj:=@PySem.call_meets
def gk:=@Int.mul_comm
def gl:=@List.of_mem_zip
def gm:=@Int.natCast_mul
def gn:=@Int.ediv_nonneg
def gq:=@Int.ediv_mul_le
def gr:=@PySem.wpAny_specialOf
def gt:=@PySem.wpAny_dictEpoch
def gw:=@Int.le_refl
def gz:=@List.any_cons
def gB:=@List.map_take
section
open PySem PySem.Spec PyProof.Rows
abbrev Aa:=PySem.W.Frag
abbrev Ab:=PySem.Shared
abbrev Ac:=PySem.Program
abbrev Ad:=PySem.FuncData
abbrev Ae:=Around
abbrev Af:=SortSt
abbrev Ag:=Value
abbrev Ah:=World
abbrev Ai:=Keyed
abbrev Aj:=Addr
end
namespace L2
theorem exI {α:Sort _}{A K:α->Prop}{v:α}(e:A v)(h:K v):∃x,A x/\K x:=⟨v,e,h⟩
theorem xb {α β:Sort _}{A:α->Prop}{B:β->Prop}{K:α->β->Prop}{u:α}{v:β}(a:A u)(b:B v)(h:K u v):∃x y,A x/\B y/\K x y:=⟨u,v,a,b,h⟩
theorem exX {α β γ δ:Sort _}{A:α->Prop}{B:γ->Prop}{C:α->β->Prop}{D:β->γ->δ->Prop}{K:δ->Prop}{p:α}{xs:β}{i:γ}{v:δ}(a:A p)(b:B i)(c:C p xs)(d:D xs i v)(h:K v):∃p xs i v,A p/\B i/\C p xs/\D xs i v/\K v:=⟨p,xs,i,v,a,b,c,d,h⟩
end L2
namespace L2
open PySem PySem.Spec PyProof.Rows
abbrev Key:=Sum Int Str
def qvx:Key->Ag->Bool
 |.inl k,v=>Value.isInt k v
 |.inr x,v=>Value.isStrOf x v
def keyH (w:Ah):Key->Int
 |.inl k=>hashInt k
 |.inr x=>hashStr w x
theorem v5:∀ {k:Key} {v:Ag},qvx k v=true->(∃i t,k=Sum.inl i/\v=Value.int i t)\/(∃x t,k=Sum.inr x/\v=Value.str x t)
 |.inl i,v,h=>by obtain⟨t,e⟩:=Value.isInt_shape (k:=i) (v:=v) h;exact .inl ⟨i,t,rfl,e⟩
 |.inr x,v,h=>by obtain⟨t,e⟩:=Value.isStrOf_shape (x:=x) (v:=v) h;exact .inr ⟨x,t,rfl,e⟩
theorem wy6 (i:Int)(t:Tok):qvx (.inl i) (.int i t)=true:=by simp[qvx,Value.isInt]
theorem wj2 (x:Str)(t:Tok):qvx (.inr x) (.str x t)=true:=by simp[qvx,Value.isStrOf]
theorem key_ll (a b:Int):decide ((Sum.inl a:Key)=Sum.inl b)=(a==b):=by
 by_cases e:a=b
 .subst e;simp
 .have h:¬ (Sum.inl a:Key)=Sum.inl b:=λq=>e (Sum.inl.inj q);rw[be h];exact(aY.mpr e).symm
theorem key_rr (a b:Str):decide ((Sum.inr a:Key)=Sum.inr b)=decide (a=b):=by
 by_cases e:a=b
 .subst e;simp
 .have h:¬ (Sum.inr a:Key)=Sum.inr b:=λq=>e (Sum.inr.inj q);rw[be h,be e]
theorem key_lr (a:Int)(b:Str):decide ((Sum.inl a:Key)=Sum.inr b)=false:=be (λq=>nomatch q)
theorem key_rl (a:Str)(b:Int):decide ((Sum.inr a:Key)=Sum.inl b)=false:=be (λq=>nomatch q)
def zv (prog:Ac)(w:Ah):PySem.KeyKind prog w Key where
 is:=qvx
 hash:=keyH w
 inj:=λv a b ha hb=>by
  rcases v5 ha with⟨i,t,rfl,rfl⟩|⟨x,t,rfl,rfl⟩
  .rcases v5 hb with⟨j,u,rfl,e⟩|⟨y,u,rfl,e⟩
   .injection e with e1 _;rw[e1]
   .exact nomatch e
  .rcases v5 hb with⟨j,u,rfl,e⟩|⟨y,u,rfl,e⟩
   .exact nomatch e
   .injection e with e1 _;rw[e1]
 byValue:=λk v h=>by rcases v5 h with⟨i,t,rfl,rfl⟩|⟨x,t,rfl,rfl⟩ <;> rfl
 pyHash:=λhv h=>by
  rcases v5 hv with⟨i,t,rfl,rfl⟩|⟨x,t,rfl,rfl⟩
  .exact wpAny_pyHash_int h
  .exact wpAny_pyHash_str h
 eqBool:=λhu hv h=>by
  rcases v5 hu with⟨i,t,rfl,rfl⟩|⟨x,t,rfl,rfl⟩
  .rcases v5 hv with⟨j,u,rfl,rfl⟩|⟨y,u,rfl,rfl⟩
   .rw[key_ll]at h;exact wpAny_eqBool_int h
   .rw[key_lr]at h;exact SeqAt.EqAt.int_str i t y u _ _ _ _ h
  .rcases v5 hv with⟨j,u,rfl,rfl⟩|⟨y,u,rfl,rfl⟩
   .rw[key_rl]at h;exact SeqAt.EqAt.str_int x t j u _ _ _ _ h
   .rw[key_rr]at h;exact wpAny_eqBool_str h
 «strs»:=λk x t v h=>by
  rcases v5 h with⟨i,u,rfl,e⟩|⟨y,u,rfl,e⟩
  .exact nomatch e
  .injection e with e1 _
   subst e1;cases v <;> rfl
theorem wq8 (prog:Ac)(w:Ah)(i:Int)(t:Tok):(zv prog w).is (.inl i) (.int i t)=true:=wy6 i t
theorem wwd (prog:Ac)(w:Ah)(x:Str)(t:Tok):(zv prog w).is (.inr x) (.str x t)=true:=wj2 x t
inductive V where
 |non|bl (b:Bool)|int (i:Int)|str (x:Str)|byt (b:Array UInt8)|flt (b:UInt64)|ref (a:Aj)|ty (n:String)
 deriving DecidableEq
def RelV:V->Ag->Prop
 |.non,u=>u=Value.none
 |.bl b,u=>u=Value.bool b
 |.int i,u=>∃t,u=Value.int i t
 |.str x,u=>∃t,u=Value.str x t
 |.byt b,u=>∃t,u=Value.bytes b t
 |.flt b,u=>∃t,u=Value.float b t
 |.ref a,u=>u=Value.ref a
 |.ty n,u=>u=Value.type n
abbrev Vals:List V->List Ag->Prop:=Paired RelV
theorem Vals.length {xs:List V}{us:List Ag}(r:Vals xs us):xs.length=us.length:=bx r
theorem Vals.get:∀ {xs:List V} {us:List Ag} {i:Nat} {x:V},Vals xs us->xs[i]?=some x->∃u,us[i]?=some u/\RelV x u
 |_,_,_,_,.nil,e=>by simp at e
 |_,_,0,_,.cons r _,e=>by simp at e;subst e;exact⟨_,rfl,r⟩
 |_,_,i+1,x,.cons _ t,e=>by obtain⟨u,h1,h2⟩:=Vals.get (i:=i) (x:=x) t (by simpa using e);exact⟨u,by simpa using h1,h2⟩
theorem Vals.set {x:V}{u:Ag}(r:RelV x u):∀ {xs:List V} {us:List Ag} (i:Nat),Vals xs us->Vals (xs.set i x) (us.set i u)
 |_,_,_,.nil=>.nil
 |_,_,0,.cons _ t=>.cons r t
 |_,_,i+1,.cons q t=>.cons q (Vals.set r i t)
theorem Vals.append:∀ {xs ys:List V} {us ws:List Ag},Vals xs us->Vals ys ws->Vals (xs++ys) (us++ws)
 |_,_,_,_,.nil,s=>s
 |_,_,_,_,.cons r t,s=>.cons r (Vals.append t s)
theorem Vals.take:∀ {xs:List V} {us:List Ag} (n:Nat),Vals xs us->Vals (xs.take n) (us.take n)
 |_,_,0,_=>.nil
 |_,_,_+1,.nil=>.nil
 |_,_,n+1,.cons r t=>.cons r (Vals.take n t)
theorem Vals.drop:∀ {xs:List V} {us:List Ag} (n:Nat),Vals xs us->Vals (xs.drop n) (us.drop n)
 |_,_,0,r=>r
 |_,_,_+1,.nil=>.nil
 |_,_,n+1,.cons _ t=>Vals.drop n t
def RelO:Option V->Option Ag->Prop
 |some v,some u=>RelV v u
 |none,none=>True
 |_,_=>False
def KV {κ:Type}:List (κ×V)->List (κ×Ag)->Prop:=Paired λ(p:κ×V) (q:κ×Ag)=>p.1=q.1/\RelV p.2 q.2
def kV:Key->V
 |.inl i=>.int i
 |.inr x=>.str x
inductive HO where
 |lst (xs:List V)
 |tup (xs:List V)
 |dK (kvs:List (Key×V))|dT (kvs:List (List Key×V))
 |set (S:Int->Bool) (n:Nat)
 |ins (C dx:Aj) (fs:List (Str×V))
 |own (x:Aj)
 |xd (fs:List (Str×V))
 |met (f x:Aj)
 |rng (lo hi:Int)
 |frz (o:Obj) (u:HO)
 |tbl (ps:Array Ag)
 |ext (φ:Heap->Prop)
abbrev Hp:=Aj->Option HO
def upd (H:Hp)(a:Aj)(o:HO):Hp:=λb=>if b=a then some o else H b
theorem qb {H:Hp}{a:Aj}{o:HO}:upd H a o a=some o:=by unfold upd;rw[ak rfl]
theorem wg {H:Hp}{a b:Aj}{o:HO}(h:b≠a):upd H a o b=H b:=by unfold upd;rw[ag h]
theorem yn {H:Hp}{a:Aj}{o u:HO}:upd (upd H a o) a u=upd H a u:=by funext b;unfold upd;split <;> rfl
theorem ne_of {H:Hp}{a b:Aj}{o u:HO}(h:H a=some o)(h':H b=some u)(d:o≠u):a≠b:=by intro e;subst e;rw[h]at h';exact d (au h')
theorem wq {H:Hp}{a b:Aj}{o:HO}(h:H a=some o)(h':H b=none):a≠b:=by intro e;subst e;rw[h]at h';cases h'
section
variable (P:Ac)(w:Ah)
def ObjOk (H:Hp)(h:Heap)(a:Aj):HO->Prop
 |.lst xs=>xs.length<=sizeLine/\∃(its:List Ag) (n:Nat),Vals xs its/\h.get? a=some { cls:=.type "list",data:=.seq its.toArray n }
 |.tup xs=>xs.length<=sizeLine/\∃its:List Ag,Vals xs its/\IsTup h a its.toArray
 |.dK kvs=>kvs.length<=sizeLine/\(a==sysModules)=false/\∃vs,KV kvs vs/\h.DictOf (zv P w) a vs
 |.dT kvs=>kvs.length<=sizeLine/\(a==sysModules)=false/\∃xs:List (List Key×Aj×Ag),
   Paired (λ(p:List Key×V) (q:List Key×Aj×Ag)=>p.1=q.1/\H q.2.1=some (.tup (p.1.map kV))/\RelV p.2 q.2.2) kvs xs /\
   ∃o es ep,h.get? a=some o/\o.ExactDict/\o.data=.dict es ep/\es.toList=xs.map (entryOfKey (tupleKind (zv P w)))/\(xs.map (·.1)).Nodup
 |.set S n=>h.SetOf (intKind P w) a S n
 |.ins C dx fs=>H dx=some (.own a)/\fs.length<=1000/\dx≠a/\h.get? a=some (W.instObj C dx) /\
   ∃mA,h.Ns1 dx mA/\(∀f,RelO (fs.lookup f) (mA f))/\PySem.Within mA (fs.map (·.1))
 |.own _=>∃o,h.get? a=some o
 |.xd fs=>∃mA,h.Ns1 a mA/\∀f,RelO (fs.lookup f) (mA f)
 |.rng lo hi=>∃t u v,h.get? a=some { cls:=.type "range",data:=.fields #[.int lo t,.int hi u,.int 1 v] }
 |.frz o u=>h.get? a=some o/\ObjOk H h a u
 |.tbl ps=>h.get? a=some { cls:=.none,data:=.fields ps }
 |.met f x=>h.get? a=some (W.methodObj (.ref f) (.ref x))
 |.ext φ=>φ h/\(∃o,h.get? a=some o)/\∀h1 h2:Heap,φ h1->(∀o,h1.get? a=some o->h2.get? a=some o)->φ h2
def HOk (H:Hp)(h:Heap):Prop:=∀a o,H a=some o->ObjOk P w H h a o
end
section
variable {P:Ac}{w:Ah}{H H':Hp}{h h':Heap}{a:Aj}{o:HO}
theorem ObjOk.lt (x:ObjOk P w H h a o):a<h.objs.size:=by
 cases o with
 |lst xs=>obtain⟨_,_,_,_,e⟩:=x;exact ao e
 |tup xs=>obtain⟨_,_,_,p⟩:=x;exact p.lt
 |dK kvs=>obtain⟨_,_,_,_,o,_,_,e,_⟩:=x;exact ao e
 |dT kvs=>obtain⟨_,_,_,_,o,_,_,e,_⟩:=x;exact ao e
 |set S n=>obtain⟨o,_,_,_,e,_⟩:=x;exact ao e
 |ins C dx fs=>obtain⟨_,_,_,e,_⟩:=x;exact ao e
 |own y=>obtain⟨_,e⟩:=x;exact ao e
 |xd fs=>obtain⟨_,⟨_,_,_,e,_⟩,_⟩:=x;exact ao e
 |rng lo hi=>obtain⟨_,_,_,e⟩:=x;exact ao e
 |frz ob u=>obtain⟨e,_⟩:=x;exact ao e
 |tbl ps=>exact ao (show h.get? a=some _ from x)
 |met f y=>exact ao (show h.get? a=some _ from x)
 |ext φ=>obtain⟨_,⟨_,e⟩,_⟩:=x;exact ao e
theorem Paired.mapP {α β:Type}{F G:α->β->Prop}:∀ {l₁:List α} {l₂:List β},Paired F l₁ l₂->(∀a b,F a b->G a b)->Paired G l₁ l₂
 |_,_,.nil,_=>.nil
 |_,_,.cons r t,f=>.cons (f _ _ r) (Paired.mapP t f)
theorem ObjOk.stay (x:ObjOk P w H h a o)(k:∀b u,(b=a\/H b=some (.own a))->h.get? b=some u->h'.get? b=some u)(ho:∀b,H b=some (.own a)->H' b=some (.own a)) (ht:∀b xs,H b=some (.tup xs)->H' b=some (.tup xs)):ObjOk P w H' h' a o:=by
 induction o with
 |lst xs=>obtain⟨z,I,n,r,e⟩:=x;exact⟨z,I,n,r,k _ _ (.inl rfl) e⟩
 |tup xs=>obtain⟨z,I,r,F,e,c⟩:=x;exact⟨z,I,r,F,k _ _ (.inl rfl) e,c⟩
 |dK kvs=>obtain⟨z,y,J,r,F,es,ep,e,c⟩:=x;exact⟨z,y,J,r,F,es,ep,k _ _ (.inl rfl) e,c⟩
 |dT kvs =>
  obtain⟨z,y,xs,r,F,es,ep,e,c⟩:=x;exact⟨z,y,xs,Paired.mapP r λp q z=>⟨z.1,ht _ _ z.2.1,z.2.2⟩,F,es,ep,k _ _ (.inl rfl) e,c⟩
 |set S n=>obtain⟨F,es,ep,t,e,c⟩:=x;exact⟨F,es,ep,t,k _ _ (.inl rfl) e,c⟩
 |ins C dx fs =>
  obtain⟨d,z,L,e,mA,⟨G,es,ep,O,c⟩,r⟩:=x;exact⟨ho _ d,z,L,k _ _ (.inl rfl) e,mA,⟨G,es,ep,k _ _ (.inr d) O,c⟩,r⟩
 |own y=>obtain⟨F,e⟩:=x;exact⟨F,k _ _ (.inl rfl) e⟩
 |xd fs=>obtain⟨mA,⟨G,es,ep,e,c⟩,r⟩:=x;exact⟨mA,⟨G,es,ep,k _ _ (.inl rfl) e,c⟩,r⟩
 |rng lo hi=>obtain⟨t,u,v,e⟩:=x;exact⟨t,u,v,k _ _ (.inl rfl) e⟩
 |frz F u ih=>obtain⟨e,q⟩:=x;exact⟨k _ _ (.inl rfl) e,ih q⟩
 |tbl ps =>
  have e:h.get? a=some { cls:=.none,data:=.fields ps }:=x;show h'.get? a=some { cls:=.none,data:=.fields ps };exact k a _ (.inl rfl) e
 |met f y =>
  have e:h.get? a=some (W.methodObj (.ref f) (.ref y)):=x;show h'.get? a=some (W.methodObj (.ref f) (.ref y));exact k a _ (.inl rfl) e
 |ext φ=>obtain⟨p,⟨o,e⟩,st⟩:=x;exact⟨st _ _ p λo q=>k _ _ (.inl rfl) q,⟨o,k _ _ (.inl rfl) e⟩,st⟩
theorem HOk.lt (x:HOk P w H h)(e:H a=some o):a<h.objs.size:=(x a o e).lt
theorem HOk.fresh (x:HOk P w H h)(e:h.objs.size<=a):H a=none:=by
 cases q:H a with
 |none=>rfl
 |some u=>exact absurd (aL (x.lt q) e) (aU _)
theorem HOk.kept (x:HOk P w H h)(k:∀b u,h.get? b=some u->h'.get? b=some u):HOk P w H h':=λa o e =>
 (x a o e).stay (λb u _ q=>k b u q) (λ_ q=>q) λ_ _ q=>q
theorem HOk.laid (x:HOk P w H h)(k:∀b u,h.get? b=some u->h'.get? b=some u)(hp:h.objs.size<=a)(new:ObjOk P w (upd H a o) h' a o):HOk P w (upd H a o) h':=λb u e=>by
 have hn:=x.fresh hp;by_cases hb:b=a
 .subst hb;rw[qb]at e;cases e;exact new
 .rw[wg hb]at e;exact(x b u e).stay (λc v _ q=>k c v q) (λc q=>by rw[wg (wq q hn)];exact q) λc xs q=>by rw[wg (wq q hn)];exact q
end
def Rd (H:Hp)(a:Aj)(u:HO):Prop:=H a=some u\/∃o,H a=some (.frz o u)
theorem Rd.ok {P:Ac}{w:Ah}{H:Hp}{h:Heap}{a:Aj}{u:HO}(r:Rd H a u)(x:HOk P w H h):ObjOk P w H h a u:=by
 rcases r with r|⟨o,r⟩
 .exact x a u r
 .obtain⟨_,q⟩:=x a _ r;exact q
def Mut:Option HO->Prop
 |some (.lst _)=>True
 |some (.dK _)=>True
 |some (.dT _)=>True
 |some (.set _ _)=>True
 |some (.ins _ _ _)=>True
 |some (.ext _)=>True
 |_=>False
section
variable {P:Ac}{w:Ah}{H:Hp}{h h':Heap}{x e:Aj}{o':HO}
theorem HOk.write (ok:HOk P w H h)(mu:Mut (H x))(he:e=x\/H e=some (.own x))(k:∀b u,b≠e->h.get? b=some u->h'.get? b=some u)(heo:∃u,h'.get? e=some u)(new:ObjOk P w (upd H x o') h' x o'):HOk P w (upd H x o') h':=λb u q=>by
 have nown:∀c y,H c=some (.own y)->c≠x:=λc y r z=>by subst z;rw[r]at mu;exact mu
 have ntup:∀c xs,H c=some (.tup xs)->c≠x:=λc xs r z=>by subst z;rw[r]at mu;exact mu
 by_cases hb:b=x
 .subst hb;rw[qb]at q;cases q;exact new
 .rw[wg hb]at q;by_cases hbe:b=e
  .have q':H b=some (.own x):=by
    rcases he with z|z
    .exact absurd (hbe.trans z) hb
    .rw[hbe];exact z
   rw[q]at q';cases q';obtain⟨v,G⟩:=heo;exact⟨v,by rw[hbe];exact G⟩
  .refine(ok b u q).stay (λc v F r=>k c v ?_ r) (λc r=>by rw[wg (nown c b r)];exact r) λc xs r=>by rw[wg (ntup c xs r)];exact r
   rcases F with rfl|F
   .exact hbe
   .rintro rfl;rcases he with z|z
    .exact nown c b F z
    .rw[F]at z;cases z;exact hb rfl
end
structure Un (fs ex:List Aj)(H H':Hp)(h h':Heap):Prop where
 keep:∀b o,h.get? b=some o->H b=none->b∉fs->b∉ex->h'.get? b=some o
 slot:∀b o,h.get? b=some o->H b=none->b∈fs->b∉ex->∃sl,h'.get? b=some { o with slots:=sl }
 free:∀b o,h.get? b=some o->H b=none->b∉ex->H' b=none
 there:∀b o,h.get? b=some o->b∉ex->∃o',h'.get? b=some o'
 tups:∀b xs,H b=some (.tup xs)->H' b=some (.tup xs)
 frzs:∀b o u,H b=some (.frz o u)->H' b=some (.frz o u)
 tbls:∀b ps,H b=some (.tbl ps)->∃more,H' b=some (.tbl (ps++more))
section
variable {fs fs' ex ex':List Aj}{H H1 H2:Hp}{h h1 h2 h':Heap}{a x e:Aj}{o:HO}
theorem Un.any (u:Un fs ex H H1 h h1){b:Aj}{ob:Obj}(q:h.get? b=some ob)(n:H b=none)(hx:b∉ex):∃sl,h1.get? b=some { ob with slots:=sl }:=by
 by_cases hb:b∈fs
 .exact u.slot b ob q n hb hx
 .exact⟨ob.slots,u.keep b ob q n hb hx⟩
theorem Un.kept (k:∀b u,h.get? b=some u->h'.get? b=some u):Un fs ex H H h h' :=
 ⟨λb ob q _ _ _=>k b ob q,λb ob q _ _ _=>⟨ob.slots,k b ob q⟩,λ_ _ _ n _=>n,λb ob q _=>⟨ob,k b ob q⟩,λ_ _ q=>q,λ_ _ _ q=>q,λ_ ps q=>⟨#[],by rw[q];simp⟩⟩
theorem Un.refl:Un fs ex H H h h:=Un.kept λ_ _ q=>q
theorem Un.laid (k:∀b u,h.get? b=some u->h'.get? b=some u)(hp:h.objs.size<=a)(hn:H a=none):Un fs ex H (upd H a o) h h' where
 keep:=λb u q _ _ _=>k b u q
 slot:=λb u q _ _ _=>⟨u.slots,k b u q⟩
 free:=λb u q n _=>by rw[wg (aD (aL (ao q) hp))];exact n
 there:=λb u q _=>⟨u,k b u q⟩
 tups:=λb xs q=>by rw[wg (wq q hn)];exact q
 frzs:=λb u xs q=>by rw[wg (wq q hn)];exact q
 tbls:=λb ps q=>⟨#[],by rw[wg (wq q hn),q];simp⟩
theorem Un.write (mu:Mut (H x))(he:e=x\/H e=some (.own x))(k:∀b u,b≠e->h.get? b=some u->h'.get? b=some u)(heo:∃u,h'.get? e=some u):Un fs ex H (upd H x o) h h':=by
 have G:∀b,H b=none->b≠x:=λb n z=>by subst z;rw[n]at mu;exact mu
 have I:∀b,H b=none->b≠e:=λb n z=>by
  subst z;rcases he with r|r
  .exact G b n r
  .rw[n]at r;cases r
 have F:∀b u,H b=some u->¬ Mut (some u)->b≠x:=λb u q nm z=>by subst z;rw[q]at mu;exact nm mu
 refine⟨λb u q n _ _=>k b u (I b n) q,λb u q n _ _=>⟨u.slots,k b u (I b n) q⟩,λb u q n _=>by rw[wg (G b n)];exact n,λb u q _=>?_,
  λb xs q=>by rw[wg (F b _ q λz=>z)];exact q,λb u xs q=>by rw[wg (F b _ q λz=>z)];exact q,λb ps q=>⟨#[],by rw[wg (F b _ q λz=>z),q];simp⟩⟩
 by_cases hbe:b=e
 .subst hbe;exact heo
 .exact⟨u,k b u hbe q⟩
end
def trk (h:Heap)(H:Hp):List Aj:=(List.range h.objs.size).filter λa=>(H a).isSome
def qut (h:Heap)(H:Hp):Heap:=W.hideAll h (trk h H)
theorem wyw (h:Heap)(H:Hp):(qut h H).objs.size=h.objs.size:=W.hideAll_size _ _
theorem xx2 {h:Heap}{H:Hp}{b:Aj}{o:Obj}(e:h.get? b=some o)(n:H b=none):(qut h H).get? b=some o :=
 W.hideAll_get _ e λhm=>by have q:(H b).isSome=true:=(bj.mp hm).2;rw[n]at q;simp at q
theorem xkb {h:Heap}{H:Hp}{b:Aj}{o:Obj}(e:(qut h H).get? b=some o):h.get? b=some o/\H b=none:=by
 have F:h.get? b=some o:=W.of_hideAll (trk h H) e;refine⟨F,?_⟩;cases q:H b with
 |none=>rfl
 |some x =>
  have G:b∈trk h H:=bj.mpr ⟨aW.mpr (ao F),by simp[q]⟩;have z:(qut h H).get? b=none:=W.hideAll_none (trk h H) G;rw[z]at e;cases e
def xkc (g h:Heap)(L:Aj):List (Aj×Obj):=(List.range h.objs.size).filterMap λa=>if a=L\/(g.get? a).isSome=true then none else(h.get? a).map λo=>(a,o)
def rest (g h:Heap)(L d:Aj):List (Aj×Obj):=(xkc g h L).filter λp=>decide (p.1≠d)
structure Mod (K:Aa)(mg:Str->Option Ag)(base:Heap):Prop where
 kin:K.In base
 glob:base.Ns mainGlobals mg
 blt:∃mb,base.Ns builtinsNs mb/\∀x:Str,x ≠ "__name__" -> mb x=bootBuiltins x
 nolimit:base.NoLimit
structure Cx where
 prog:Ac
 w:Ah
 K:Aa
 mg:Str->Option Ag
 base:Heap
 A:Ae
 N:List Str
 s₀:Ab
 H₀:Hp
 env:Env
 outer:List Env
 stack:List Env
 ex:List Aj
 fn:Str->Bool
 calm:Bool
 pn:List (Aj×Obj)
 xe:Ag->Ab->Prop
def frs (l:List Env):List Aj:=l.filterMap (·.frame)
abbrev Cx.fs (X:Cx):List Aj:=frs X.outer
def Vis (sc:Scope)(x:Str):Prop:=sc.names.lookup x=some .local\/sc.names.lookup x=some .cell\/sc.names.lookup x=some .free
def Loc (sc:Scope)(x:Str):Prop:=sc.names.lookup x=some .local\/sc.names.lookup x=some .cell
def Look (env:Env)(h:Heap)(m:Str->Option Ag)(x:Str)(u:Ag):Prop :=
 (env.kindOf x=some .local/\m x=some u)\/((env.kindOf x=some .cell\/env.kindOf x=some .free)/\∃c,env.cells.lookup x=some c/\h.IsCell c (some u))
structure Cx.Ok (X:Cx):Prop where
 mod:Mod X.K X.mg X.base
 kind:X.env.scope.kind=.function
 glob:X.env.globals=mainGlobals
 blt:X.env.builtins=builtinsNs
 above:X.s₀.heap.objs.size<=X.env.locals
 inj:∀x y c,X.env.cells.lookup x=some c->X.env.cells.lookup y=some c->x=y
 has:∀x,(X.env.kindOf x=some .cell\/X.env.kindOf x=some .free)->∃c,X.env.cells.lookup x=some c
 cab:∀x c,X.fn x=true->X.env.cells.lookup x=some c->X.s₀.heap.objs.size<=c
 hd:X.calm=true->X.A.handled=none
 frames:X.A.frames=some X.stack
 stk:X.stack=X.outer\/(X.stack=X.env::X.outer/\X.env.frame=some X.env.locals)
 exf:∀b∈X.ex,b≠X.env.locals/\∀x c,X.env.cells.lookup x=some c->c≠b
 bs:∀b o,X.base.get? b=some o->X.s₀.heap.get? b=some o/\X.H₀ b=none
 bsz:X.base.objs.size<=X.s₀.heap.objs.size
 noex:∀b o,X.base.get? b=some o->b∉X.ex
 exfs:∀b∈X.ex,b∉X.fs
 funs:X.s₀.heap.FunFrames X.base X.outer
 frf:∀b∈X.fs,X.H₀ b=none
structure Inv (X:Cx)(pins:List (Aj×Obj))(σ:List (Option V))(H:Hp)(s:Ab):Prop where
 ok:X.Ok
 os:s.os=X.s₀.os
 bare:AllBare s.gens
 base:Un X.fs X.ex X.H₀ H X.s₀.heap s.heap
 loc:∃m,s.heap.Ns X.env.locals m/\∀(i:Nat) (x:Str) (v:V),X.N[i]?=some x->σ[i]?=some (some v)->Vis X.env.scope x->∃u,RelV v u/\Look X.env s.heap m x u
 cell:∀x c,X.env.cells.lookup x=some c->∃v,s.heap.IsCell c v
 free:H X.env.locals=none
 freeC:∀x c,X.env.cells.lookup x=some c->H c=none
 pin:∀p∈X.pn++pins,s.heap.get? p.1=some p.2/\H p.1=none/\p.1≠X.env.locals/\p.1∉X.fs/\∀v,p.2.data≠.cell v
 hok:HOk X.prog X.w H s.heap
 len:σ.length=X.N.length
section
variable {X:Cx}{pins:List (Aj×Obj)}{σ:List (Option V)}{H H':Hp}{s:Ab}{h':Heap}
theorem Cx.Ok.nofr (ok:X.Ok){b:Aj}{o:Obj}(e:X.base.get? b=some o):b∉X.fs:=λhb=>by have:=(ok.funs.mem hb).1;rw[e]at this;cases this
theorem Inv.bs (I:Inv X pins σ H s):∀b o,X.base.get? b=some o->s.heap.get? b=some o/\H b=none:=λb o e =>
 ⟨I.base.keep b o (I.ok.bs b o e).1 (I.ok.bs b o e).2 (I.ok.nofr e) (I.ok.noex b o e),I.base.free b o (I.ok.bs b o e).1 (I.ok.bs b o e).2 (I.ok.noex b o e)⟩
theorem Inv.bk (I:Inv X pins σ H s):∀b o,X.base.get? b=some o->s.heap.get? b=some o:=λb o e=>(I.bs b o e).1
theorem Inv.mod (I:Inv X pins σ H s):Mod X.K X.mg X.base:=I.ok.mod
theorem Inv.kIn (I:Inv X pins σ H s):X.K.In s.heap:=I.ok.mod.kin.keeps I.bk
theorem Inv.lt (I:Inv X pins σ H s):X.env.locals<s.heap.objs.size:=let ⟨_,hn,_⟩:=I.loc;hn.lt
theorem Inv.sz (I:Inv X pins σ H s):X.s₀.heap.objs.size<=s.heap.objs.size:=bB I.ok.above (bK I.lt)
theorem Inv.nofs (I:Inv X pins σ H s){a:Aj}(h:s.heap.objs.size<=a):a∉X.fs:=λhb=>by obtain⟨_,o,ho,_⟩:=I.ok.funs.mem hb;exact absurd (aL (ao ho) (bB I.sz h)) (aU _)
theorem Inv.cne (I:Inv X pins σ H s):∀x c,X.env.cells.lookup x=some c->c≠X.env.locals:=λx c e z=>by obtain⟨v,o,ho,hd⟩:=I.cell x c e;obtain⟨m,⟨o',es,ep,ho',hd',_⟩,_⟩:=I.loc;rw[z,ho']at ho;cases ho;rw[hd']at hd;cases hd
theorem Inv.funs (I:Inv X pins σ H s):s.heap.FunFrames X.base X.outer:=by
 have ab:∀(l:List Env),(∀b∈frs l,b∈X.fs)->X.s₀.heap.FunFrames X.base l->s.heap.FunFrames X.base l:=by
  intro l
  induction l with
  |nil=>intro _ _;trivial
  |cons env r ih =>
   intro hs Z;obtain⟨hk,⟨L,o,F,U,S,hd⟩,O⟩:=Z;have J:L∈X.fs:=hs L (by unfold frs;rw[dG,F];exact aw);obtain⟨sl,e⟩:=I.base.slot L o S (I.ok.frf L J) J λz=>I.ok.exfs L z J;exact⟨hk,⟨L,_,F,U,e,hd⟩,ih (λb G=>hs b (by unfold frs;rw[dG,F];exact ay _ G)) O⟩
 exact ab X.outer (λ_ G=>G) I.ok.funs
theorem Inv.stack (I:Inv X pins σ H s):s.heap.FunFrames X.base X.stack:=by
 rcases I.ok.stk with e|⟨e,hf⟩
 .rw[e];exact I.funs
 .rw[e];obtain⟨m,F,_⟩:=I.loc;refine .cons (by rw[I.ok.kind];decide) hf F ?_ I.funs;exact Heap.get?_none_of_le (bB I.ok.bsz I.ok.above)
theorem Inv.stkSub (I:Inv X pins σ H s):∀b∈frs X.stack,b∈X.env.locals::X.fs:=λb hb=>by
 rcases I.ok.stk with e|⟨e,hf⟩
 .rw[e]at hb;exact ay _ hb
 .rw[e]at hb;unfold frs at hb;rw[dG,hf]at hb;exact hb
theorem Inv.stkFree (I:Inv X pins σ H s):∀b∈frs X.stack,H b=none:=λb hb=>by
 rcases ae.mp (I.stkSub b hb) with e|hb
 .rw[e];exact I.free
 .obtain⟨_,o,ho,_⟩:=I.ok.funs.mem hb;exact I.base.free b o ho (I.ok.frf b hb) λz=>I.ok.exfs b z hb
theorem Inv.step {g':Array GenState}{t':Nat}{d':Drawn}{ch:List Aj}(I:Inv X pins σ H s)(hch:∀b∈ch,(b∈X.ex\/X.s₀.heap.objs.size<=b)/\b≠X.env.locals/\(∀x c,X.env.cells.lookup x=some c->c≠b)/\∀p∈X.pn++pins,p.1≠b)(keep:∀b o,b≠X.env.locals->b∉X.fs->b∉ch->s.heap.get? b=some o->H b=none->h'.get? b=some o)(slot:∀b o,b≠X.env.locals->b∈X.fs->b∉ch->s.heap.get? b=some o->H b=none->∃sl,h'.get? b=some { o with slots:=sl }) (free:∀b o,b∉ch->s.heap.get? b=some o->H b=none->H' b=none)(there:∀b o,b∉ch->s.heap.get? b=some o->∃o',h'.get? b=some o')(tups:∀b xs,H b=some (.tup xs)->H' b=some (.tup xs)) (frzs:∀b o u,H b=some (.frz o u)->H' b=some (.frz o u)) (tbls:∀b ps,H b=some (.tbl ps)->∃more,H' b=some (.tbl (ps++more)))(ns:∀m,s.heap.Ns X.env.locals m->h'.Ns X.env.locals m) (hok:HOk X.prog X.w H' h') (hg:AllBare g') :
  Inv X pins σ H' { s with heap:=h',gens:=g',drawn:=d',toks:=t' }:=by
 have ab:∀b o,X.s₀.heap.get? b=some o->b≠X.env.locals:=λb o e=>aD (aL (ao e) I.ok.above);have U:∀b o,X.s₀.heap.get? b=some o->b∉X.ex->b∉ch:=λb o e F J=>by
  rcases(hch b J).1 with z|z
  .exact F z
  .exact absurd (aL (ao e) z) (aU _)
 have ad:∀x c,X.env.cells.lookup x=some c->∀v,s.heap.IsCell c v->h'.IsCell c v:=λx c e v ⟨o,L,Z⟩=>by
  have O:c∉ch:=λz=>(hch c z).2.2.1 x c e rfl;by_cases hc:c∈X.fs
  .obtain⟨sl,q⟩:=slot c o (I.cne x c e) hc O L (I.freeC x c e);exact⟨_,q,Z⟩
  .exact⟨o,keep c o (I.cne x c e) hc O L (I.freeC x c e),Z⟩
 refine⟨I.ok,I.os,hg,⟨λb o e n J F=>?_,λb o e n J F=>?_,λb o e n F=>?_,λb o e F=>?_,λb xs e=>tups b xs (I.base.tups b xs e),λb o xs e=>frzs b o xs (I.base.frzs b o xs e),λb ps e=>?_⟩,?_,λx c e=>?_,?_,λx c e=>?_,λp hp=>?_,hok,I.len⟩
 .exact keep b o (ab b o e) J (U b o e F) (I.base.keep b o e n J F) (I.base.free b o e n F)
 .obtain⟨sl,G⟩:=I.base.slot b o e n J F;obtain⟨ah,S⟩:=slot b _ (ab b o e) J (U b o e F) G (I.base.free b o e n F);exact⟨ah,S⟩
 .obtain⟨o',G⟩:=I.base.there b o e F;exact free b o' (U b o e F) G (I.base.free b o e n F)
 .obtain⟨o',G⟩:=I.base.there b o e F;exact there b o' (U b o e F) G
 .obtain⟨m1,G⟩:=I.base.tbls b ps e;obtain⟨m2,S⟩:=tbls b _ G;exact⟨m1++m2,by rw[S,Array.append_assoc]⟩
 .obtain⟨m,hn,hl⟩:=I.loc;refine⟨m,ns m hn,λi x v G S e3=>?_⟩;obtain⟨u,r,l⟩:=hl i x v G S e3;refine⟨u,r,?_⟩;rcases l with l|⟨k,c,e,z⟩
  .exact .inl l
  .exact .inr ⟨k,c,e,ad x c e _ z⟩
 .obtain⟨v,z⟩:=I.cell x c e;exact⟨v,ad x c e v z⟩
 .obtain⟨m,⟨o,_,_,L,_⟩,_⟩:=I.loc;exact free _ o (λz=>(hch _ z).2.1 rfl) L I.free
 .obtain⟨v,o,L,Z⟩:=I.cell x c e;exact free c o (λz=>(hch c z).2.2.1 x c e rfl) L (I.freeC x c e)
 .obtain⟨e,n,ne,nf,d⟩:=I.pin p hp;have O:p.1∉ch:=λz=>(hch p.1 z).2.2.2 p hp rfl;exact⟨keep p.1 p.2 ne nf O e n,free p.1 p.2 O e n,ne,nf,d⟩
theorem Inv.un {t':Nat}(I:Inv X pins σ H s)(u:Un X.fs [] H H' s.heap h')(hok:HOk X.prog X.w H' h'):Inv X pins σ H' { s with heap:=h',toks:=t' }:=by
 obtain⟨m,⟨o,es,ep,J,r⟩,_⟩:=id I.loc;obtain⟨sl,S⟩:=u.any J I.free (by simp);exact I.step (g':=s.gens) (d':=s.drawn) (ch:=[]) (λ_ z=>nomatch z) (λb o _ F _ e n=>u.keep b o e n F (by simp)) (λb o _ F _ e n=>u.slot b o e n F (by simp)) (λb o _ e n=>u.free b o e n (by simp)) (λb o _ e=>u.there b o e (by simp)) u.tups u.frzs u.tbls (λm' O=>by
  obtain⟨o',U,Z,G,L⟩:=O
  rw[J]at G;cases G
  exact⟨_,U,Z,S,L⟩) hok I.bare
theorem Inv.call {g':Array GenState}{t':Nat}{d':Drawn}{ch:List Aj}(I:Inv X pins σ H s)(u:Un (frs X.stack) ch H H' s.heap h')(hok:HOk X.prog X.w H' h')(hg:AllBare g')(hch:∀b∈ch,(b∈X.ex\/X.s₀.heap.objs.size<=b)/\b≠X.env.locals/\(∀x c,X.env.cells.lookup x=some c->c≠b)/\∀p∈X.pn++pins,p.1≠b) :
  Inv X pins σ H' { s with heap:=h',gens:=g',drawn:=d',toks:=t' }:=by
 obtain⟨m,⟨o,es,ep,L,r⟩,_⟩:=id I.loc;obtain⟨sl,G⟩:=u.any L I.free λz=>(hch _ z).2.1 rfl;exact I.step (ch:=ch) hch (λb o G U F e n=>u.keep b o e n (λz=>(ae.mp (I.stkSub b z)).elim G U) F) (λb o _ _ F e n=>u.any e n F) (λb o F e n=>u.free b o e n F) (λb o F e=>u.there b o e F) u.tups u.frzs u.tbls (λm' S=>by
  obtain⟨o',Z,ab,J,O⟩:=S
  rw[L]at J;cases J
  exact⟨_,Z,ab,G,O⟩) hok hg
theorem Inv.turned {t':Nat}{it:Aj}(I:Inv X pins σ H s)(k:∀b o,b≠it->s.heap.get? b=some o->h'.get? b=some o)(hn:H it=none)(hL:it≠X.env.locals)(h1:it∈X.ex\/X.s₀.heap.objs.size<=it) (h2:∀x c,X.env.cells.lookup x=some c->c≠it) (h3:∀p∈X.pn++pins,p.1≠it):Inv X pins σ H { s with heap:=h',toks:=t' }:=by
 have G:∀b u,H b=some u->b≠it:=λb u e z=>by rw[z,hn]at e;cases e
 refine I.step (g':=s.gens) (d':=s.drawn) (ch:=[it]) (λb O=>?_) (λb o _ _ F e _=>k b o (λz=>F (by simp[z])) e) (λb o _ _ F e _=>⟨o.slots,k b o (λz=>F (by simp[z])) e⟩) (λ_ _ _ _ n=>n)
  (λb o F e=>⟨o,k b o (λz=>F (by simp[z])) e⟩) (λ_ _ e=>e) (λ_ _ _ e=>e) (λb ps e=>⟨#[],by rw[e];simp⟩) (λm L=>?_) (λb u e=>?_) I.bare
 .have e:b=it:=by simpa using O
  subst e;exact⟨h1,hL,h2,h3⟩
 .obtain⟨o,es,ep,J,r⟩:=L;exact⟨o,es,ep,k _ o (aZ hL) J,r⟩
 .refine(I.hok b u e).stay (λc v F q=>k c v ?_ q) (λ_ q=>q) λ_ _ q=>q;rcases F with z|z
  .rw[z];exact G b u e
  .exact G c _ z
theorem Inv.tok (I:Inv X pins σ H s)(t:Nat):Inv X pins σ H { s with toks:=t }:=I.un (h':=s.heap) (t':=t) Un.refl I.hok
theorem Inv.kept {t':Nat}(I:Inv X pins σ H s)(k:∀b u,s.heap.get? b=some u->h'.get? b=some u):Inv X pins σ H { s with heap:=h',toks:=t' }:=I.un (Un.kept k) (I.hok.kept k)
theorem Inv.laid {a:Aj}{o:HO}{t':Nat}(I:Inv X pins σ H s)(k:∀b u,s.heap.get? b=some u->h'.get? b=some u)(hp:s.heap.objs.size<=a)(new:ObjOk X.prog X.w (upd H a o) h' a o) :
  Inv X pins σ (upd H a o) { s with heap:=h',toks:=t' }:=I.un (Un.laid k hp (I.hok.fresh hp)) (I.hok.laid k hp new)
theorem Inv.write {x e:Aj}{o:HO}{t':Nat}(I:Inv X pins σ H s)(mu:Mut (H x))(he:e=x\/H e=some (.own x))(k:∀b u,b≠e->s.heap.get? b=some u->h'.get? b=some u)(heo:∃u,h'.get? e=some u)(new:ObjOk X.prog X.w (upd H x o) h' x o):Inv X pins σ (upd H x o) { s with heap:=h',toks:=t' }:=I.un (Un.write mu he k heo) (I.hok.write mu he k heo new)
theorem Inv.weak {σ':List (Option V)}(I:Inv X pins σ H s)(hl:σ'.length=σ.length)(w:∀(i:Nat) v,σ'[i]?=some (some v)->σ[i]?=some (some v)):Inv X pins σ' H s :=
 ⟨I.ok,I.os,I.bare,I.base,let ⟨m,hn,hl'⟩:=I.loc;⟨m,hn,λi x v e1 e2 e3=>hl' i x v e1 (w i v e2) e3⟩,I.cell,I.free,I.freeC,I.pin,I.hok,hl.trans I.len⟩
theorem Inv.pins_of {pins':List (Aj×Obj)}(I:Inv X pins σ H s)(h:∀p∈pins',s.heap.get? p.1=some p.2/\H p.1=none/\p.1≠X.env.locals/\p.1∉X.fs/\∀v,p.2.data≠.cell v):Inv X pins' σ H s :=
 ⟨I.ok,I.os,I.bare,I.base,I.loc,I.cell,I.free,I.freeC,λp hp=>(ba.mp hp).elim (λz=>I.pin p (bW _ z)) (h p),I.hok,I.len⟩
theorem wwh {N:List Str}(hN:N.Nodup){i j:Nat}{x:Str}(a:N[i]?=some x)(b:N[j]?=some x):i=j:=by obtain⟨h1,e1⟩:=aI.mp a;obtain⟨h2,e2⟩:=aI.mp b;exact(dC hN).mp (e1.trans e2.symm)
theorem _root_.aU0 (h:True:=by walk_at "iv"):True:=h
theorem wy3 {M:Model}{A:Ae}{E:Ag->Ab->Prop}{i:Nat}{x:Str}{v:V}{u:Ag}{Q:Unit->Ab->Prop}(I:Inv X pins σ H s)(hN:X.N.Nodup)(hi:X.N[i]?=some x)(hx:Loc X.env.scope x)(r:RelV v u)(h:∀s',Inv X pins (σ.set i (some v)) H s'->(∃a,Heap.SameBut a s.heap s'.heap/\(a=X.env.locals\/X.env.cells.lookup x=some a))->Q () s') (hf:autoParam (X.fn x=true\/X.env.scope.names.lookup x=some .local) aU0._auto_1):wpAny M A (storeName X.env x u) Q E s:=by
 obtain⟨m,hn,hl⟩:=id I.loc;have a6:(X.env.scope.kind==.class||(X.env.scope.kind==.module&&X.env.locals != X.env.globals))=false:=by rw[I.ok.kind];rfl
 have ap:i<σ.length:=by rw[I.len];exact(aI.mp hi).1
 have ad:=I.cne;have ah:∀ {a:Aj} {h':Heap},(∃o,s.heap.get? a=some o/\H a=none)->Heap.SameBut a s.heap h'->HOk X.prog X.w H h':=λ{a h'} ha hs b ob e=>by
  obtain⟨_,_,a0⟩:=ha;refine(I.hok b ob e).stay (λc O G q=>(hs.2 c ?_).trans q) (λ_ q=>q) λ_ _ q=>q;rintro rfl;rcases G with rfl|G
  .rw[a0]at e;cases e
  .rw[a0]at G;cases G
 rcases hx with hk|hk
 .refine wpAny_storeName_local hk hn (λh' a4 hs=>?_) a6;obtain⟨oL,_,_,a3,_⟩:=id hn;refine h _ ⟨I.ok,I.os,I.bare,⟨λb o e n L hx=>?_,λb o e n L hx=>?_,I.base.free,λb o e hx=>?_,I.base.tups,I.base.frzs,I.base.tbls⟩,⟨_,a4,λj y Z F J e3=>?_⟩,λy c e=>?_,I.free,I.freeC,λp hp=>?_,ah ⟨oL,a3,I.free⟩ hs,by simpa using I.len⟩ ⟨_,hs,.inl rfl⟩
  .exact(hs.2 b (aD (aL (ao e) I.ok.above))).trans (I.base.keep b o e n L hx)
  .obtain⟨sl,F⟩:=I.base.slot b o e n L hx;exact⟨sl,(hs.2 b (aD (aL (ao e) I.ok.above))).trans F⟩
  .obtain⟨o',F⟩:=I.base.there b o e hx;exact⟨o',(hs.2 b (aD (aL (ao e) I.ok.above))).trans F⟩
  .by_cases hj:j=i
   .subst hj;rw[hi]at F;cases F;rw[List.getElem?_set_self ap]at J;cases J;exact⟨u,r,.inl ⟨hk,by simp⟩⟩
   .rw[List.getElem?_set_ne (aZ hj)]at J;obtain⟨u',r',q⟩:=hl j y Z F J e3;refine⟨u',r',?_⟩;rcases q with⟨k,e⟩|⟨k,c,e,z⟩
    .refine .inl ⟨k,?_⟩;have:y≠x:=λe=>hj (wwh hN F (e▸hi));simp[this,e]
    .exact .inr ⟨k,c,e,z.sameBut hs (ad y c e)⟩
  .obtain⟨O,z⟩:=I.cell y c e;exact⟨O,z.sameBut hs (ad y c e)⟩
  .obtain⟨e,n,S,nf,d⟩:=I.pin p hp;exact⟨(hs.2 p.1 S).trans e,n,S,nf,d⟩
 .have ab:X.fn x=true:=by
   rcases hf with z|z
   .exact z
   .rw[z]at hk;cases hk
  obtain⟨c,G⟩:=I.ok.has x (.inl hk);obtain⟨O,z⟩:=I.cell x c G;refine wpAny_storeName_cell I.ok.kind hk G z (λh' a1 hs=>?_);obtain⟨oc,an,a2⟩:=id z;refine h { s with heap:=h' } ⟨I.ok,I.os,I.bare,⟨λb o e n L hx=>?_,λb o e n L hx=>?_,I.base.free,λb o e hx=>?_,I.base.tups,I.base.frzs,I.base.tbls⟩,⟨m,hn.sameBut hs (aZ (ad x c G)),λj y Z F J e3=>?_⟩,λy U e=>?_,I.free,I.freeC,λp hp=>?_,ah ⟨oc,an,I.freeC x c G⟩ hs,by simpa using I.len⟩ ⟨c,hs,.inr G⟩
  .exact(hs.2 b (aD (aL (ao e) (I.ok.cab x c ab G)))).trans (I.base.keep b o e n L hx)
  .obtain⟨sl,F⟩:=I.base.slot b o e n L hx;exact⟨sl,(hs.2 b (aD (aL (ao e) (I.ok.cab x c ab G)))).trans F⟩
  .obtain⟨o',F⟩:=I.base.there b o e hx;exact⟨o',(hs.2 b (aD (aL (ao e) (I.ok.cab x c ab G)))).trans F⟩
  .by_cases hj:j=i
   .subst hj;rw[hi]at F;cases F;rw[List.getElem?_set_self ap]at J;cases J;exact⟨u,r,.inr ⟨.inl hk,c,G,a1⟩⟩
   .rw[List.getElem?_set_ne (aZ hj)]at J;obtain⟨u',r',q⟩:=hl j y Z F J e3;refine⟨u',r',?_⟩;rcases q with q|⟨k,U,e,z'⟩
    .exact .inl q
    .refine .inr ⟨k,U,e,z'.sameBut hs ?_⟩;rintro rfl;exact hj (wwh hN F (I.ok.inj _ _ _ e G▸hi))
  .by_cases hcc:U=c
   .subst hcc;exact⟨_,a1⟩
   .obtain⟨w2,z2⟩:=I.cell y U e;exact⟨w2,z2.sameBut hs hcc⟩
  .obtain⟨e,n,S,nf,d⟩:=I.pin p hp;refine⟨(hs.2 p.1 ?_).trans e,n,S,nf,d⟩;intro q;rw[q,an]at e;have q':oc=p.2:=au e;exact d O (by rw[<-q'];exact a2)
theorem Qw {M:Model}{A:Ae}{E:Ag->Ab->Prop}{i:Nat}{x:Str}{v:V}{u:Ag}{Q:Unit->Ab->Prop}(I:Inv X pins σ H s)(hN:X.N.Nodup)(hi:X.N[i]?=some x)(hx:Loc X.env.scope x)(r:RelV v u)(h:∀s',Inv X pins (σ.set i (some v)) H s'->Q () s') (hf:autoParam (X.fn x=true\/X.env.scope.names.lookup x=some .local) aU0._auto_1):wpAny M A (storeName X.env x u) Q E s :=
 wy3 I hN hi hx r (λs' I' _=>h s' I') hf
theorem Inv.call' {s':Ab}{ch:List Aj}(I:Inv X pins σ H s)(ho:s'.os=s.os)(u:Un (frs X.stack) ch H H' s.heap s'.heap)(hok:HOk X.prog X.w H' s'.heap)(hg:AllBare s'.gens)(hch:∀b∈ch,(b∈X.ex\/X.s₀.heap.objs.size<=b)/\b≠X.env.locals/\(∀x c,X.env.cells.lookup x=some c->c≠b)/\∀p∈X.pn++pins,p.1≠b):Inv X pins σ H' s':=by
 obtain⟨h',g',d',t',o'⟩:=s';have e:o'=s.os:=ho;subst e;exact I.call (g':=g') (t':=t') (d':=d') u hok hg hch
end
abbrev XK:=Ag->Option Aj->Hp->Prop
abbrev St:=List (Option V)
abbrev VK:=V->Hp->Prop
abbrev TE:=St->Hp->VK->Prop
abbrev TT:=St->Hp->(Bool->Hp->Prop)->Prop
abbrev TA:=St->Hp->(List V->Hp->Prop)->Prop
structure Ends where
 nx:St->Hp->Prop
 rt:VK
 bk:St->Hp->Prop:=λ_ _=>False
 ct:St->Hp->Prop:=λ_ _=>False
abbrev TS:=Ends->St->Hp->Prop
def EP (X:Cx)(pins:List (Aj×Obj))(σ:St)(Q:VK)(u:Ag)(s':Ab):Prop:=∃v H',Inv X pins σ H' s'/\RelV v u/\Q v H'
def TP (X:Cx)(pins:List (Aj×Obj))(σ:St)(Q:Bool->Hp->Prop)(b:Bool)(s':Ab):Prop:=∃H',Inv X pins σ H' s'/\Q b H'
def AP (X:Cx)(pins:List (Aj×Obj))(σ:St)(Q:List V->Hp->Prop)(us:List Ag)(s':Ab):Prop:=∃vs H',Inv X pins σ H' s'/\Vals vs us/\Q vs H'
def SP (X:Cx)(pins:List (Aj×Obj))(D:Ends)(f:Flow)(s':Ab):Prop :=
 match f with
 |.next=>∃σ' H',Inv X pins σ' H' s'/\D.nx σ' H'
 |.brk=>∃σ' H',Inv X pins σ' H' s'/\D.bk σ' H'
 |.cont=>∃σ' H',Inv X pins σ' H' s'/\D.ct σ' H'
 |.ret u=>∃v σ' H',Inv X pins σ' H' s'/\RelV v u/\D.rt v H'
def PE (X:Cx)(e:Expr)(t:TE):Prop :=
 ∀(pins:List (Aj×Obj)) (s:Ab) (σ:St) (H:Hp) (Q:VK),Inv X pins σ H s->t σ H Q->wpAny ↑[X] X.A (eval e X.env) (EP X pins σ Q) X.xe s
def PT (X:Cx)(e:Expr)(t:TT):Prop :=
 ∀(pins:List (Aj×Obj)) (s:Ab) (σ:St) (H:Hp) (Q:Bool->Hp->Prop),Inv X pins σ H s->t σ H Q->wpAny ↑[X] X.A (isTrue e X.env (eval e X.env)) (TP X pins σ Q) X.xe s
def PW (X:Cx)(e:Expr)(t:TT):Prop :=
 ∀(whole:Sem Ag) (pins:List (Aj×Obj)) (s:Ab) (σ:St) (H:Hp) (Q:Bool->Hp->Prop),Inv X pins σ H s->t σ H Q->wpAny ↑[X] X.A (isTrue e X.env whole) (TP X pins σ Q) X.xe s
theorem PW.pt {X:Cx}{e:Expr}{t:TT}(h:PW X e t):PT X e t:=h _
def PA (X:Cx)(es:List Expr)(t:TA):Prop :=
 ∀(pos:Pos) (pins:List (Aj×Obj)) (s:Ab) (σ:St) (H:Hp) (Q:List V->Hp->Prop),Inv X pins σ H s->t σ H Q->wpAny ↑[X] X.A (spliced (backTo pos (starEach es X.env))) (AP X pins σ Q) X.xe s
def PS (X:Cx)(st:Stmt)(t:TS):Prop :=
 ∀(pins:List (Aj×Obj)) (s:Ab) (σ:St) (H:Hp) (D:Ends),Inv X pins σ H s->t D σ H->wpAny ↑[X] X.A (exec st X.env) (SP X pins D) X.xe s
def PSs (X:Cx)(st:List Stmt)(t:TS):Prop :=
 ∀(pins:List (Aj×Obj)) (s:Ab) (σ:St) (H:Hp) (D:Ends),Inv X pins σ H s->t D σ H->wpAny ↑[X] X.A (execs st X.env) (SP X pins D) X.xe s
theorem thn {α:Type}{t:Sem α}{Q Q':α->Ab->Prop}{M:Model}{A:Ae}{E:Ag->Ab->Prop}{s:Ab}(h:wpAny M A t Q E s)(hQ:∀a s,Q a s->Q' a s):wpAny M A t Q' E s:=bh h hQ λ_ _ x=>x
section
variable {X:Cx}
def qwg (i:Nat):TE:=λσ H Q=>∃v,σ[i]?=some (some v)/\Q v H
def tC (v:V):TE:=λ_ H Q=>Q v H
theorem _root_.aU1 (h:True:=by decide):True:=h
theorem pe_var {i:Nat}{x:Str}{pos:Pos}(hN:X.N[i]?=some x)(hv:Vis X.env.scope x)(hd:autoParam ((x==("__debug__" : Str))=false) aU1._auto_1)(hcd:autoParam ((x==("__classdict__" : Str))=false) aU1._auto_1):PE X (.Name x pos) (qwg i):=by
 intro pins s σ H Q I h;obtain⟨v,e,h⟩:=h;obtain⟨m,O,U⟩:=I.loc;obtain⟨u,r,l⟩:=U i x v hN e hv;have G:EP X pins σ Q u s:=⟨v,H,I,r,h⟩;rcases l with⟨F,S⟩|⟨F,c,L,J⟩
 .exact wpAny_Name (wpAny_loadName_local I.ok.kind F O S G) hd
 .rcases F with F|F
  .exact wpAny_Name (wpAny_loadName_cell I.ok.kind F L J G) hd
  .exact wpAny_Name (wpAny_loadName_free I.ok.kind F L J G hcd) hd
theorem qc {i j pos}:PE X (.Constant (.int i) j pos) (tC (.int i)):=λ_ _ _ H _ I h=>wpAny_Constant_int ⟨.int i,H,I.tok _,⟨_,rfl⟩,h⟩
theorem qqt {b j pos}:PE X (.Constant (.bool b) j pos) (tC (.bl b)):=λ_ _ _ H _ I h=>Constant_bool ⟨.bl b,H,I,rfl,h⟩
theorem jx {j pos}:PE X (.Constant .none j pos) (tC .non):=λ_ _ _ H _ I h=>Constant_none ⟨.non,H,I,rfl,h⟩
theorem xn {x j pos}:PE X (.Constant (.str x) j pos) (tC (.str x)):=λ_ _ _ H _ I h=>Calls.Constant_str ⟨.str x,H,I.tok _,⟨_,rfl⟩,h⟩
def Gl (X:Cx)(x:Str):Prop:=X.env.kindOf x=some .globalImplicit
theorem Qj {E:Ag->Ab->Prop}{pins:List (Aj×Obj)}{s:Ab}{σ:St}{H:Hp}{x:Str}{u:Ag}{pos:Pos}{Q:Ag->Ab->Prop}(I:Inv X pins σ H s)(hg:Gl X x)(hm:X.mg x=some u)(h:Q u s)(hd:autoParam ((x==("__debug__" : Str))=false) aU1._auto_1):wpAny ↑[X] X.A (eval (.Name x pos) X.env) Q E s :=
 Calls.Name_function_global I.ok.kind hg (Calls.loadGlobal_global (by rw[I.ok.glob];exact I.mod.glob.keeps I.bk) hm h) hd
theorem _root_.aU2 (h:True:= by decide):True:=h
theorem wqy {E:Ag->Ab->Prop}{pins:List (Aj×Obj)}{s:Ab}{σ:St}{H:Hp}{x:Str}{u:Ag}{pos:Pos}{Q:Ag->Ab->Prop}(I:Inv X pins σ H s)(hg:Gl X x)(hm:X.mg x=none)(hv:bootBuiltins x=some u)(h:Q u s)(hn:autoParam (x ≠ "__name__") aU2._auto_1) (hd:autoParam ((x==("__debug__" : Str))=false) aU1._auto_1):wpAny ↑[X] X.A (eval (.Name x pos) X.env) Q E s:=by
 obtain⟨F,h1,h2⟩:=I.mod.blt;exact Calls.Name_function_global I.ok.kind hg (Calls.loadGlobal_builtin (by rw[I.ok.glob];exact I.mod.glob.keeps I.bk) hm (by rw[I.ok.blt];exact h1.keeps I.bk) ((h2 x hn).trans hv) h) hd
theorem ug {x:Str}{v:V}{u:Ag}{pos:Pos}(hg:Gl X x)(hm:X.mg x=some u)(r:RelV v u)(hd:autoParam ((x==("__debug__" : Str))=false) aU1._auto_1):PE X (.Name x pos) (tC v) :=
 λ_ _ _ H _ I h=>Qj I hg hm ⟨v,H,I,r,h⟩ hd
variable {a b:Expr}{ta tb:TE}{pos:Pos}
def PC (X:Cx)(op:CmpOp)(a b:Expr)(t:TE):Prop :=
 ∀(pins:List (Aj×Obj)) (s:Ab) (σ:St) (H:Hp) (Q:VK),Inv X pins σ H s->t σ H Q ->
  wpAny ↑[X] X.A (eval a X.env) (λv s₁=>wpAny ↑[X] X.A (eval b X.env) (λu s₂=>wpAny ↑[X] X.A (compareOp op v u) (EP X pins σ Q) X.xe s₂) X.xe s₁) X.xe s
def tB (t:TE):TT:=λσ H Q=>t σ H λx H1=>∃c,x=.bl c/\Q c H1
theorem Qm {op:CmpOp}{t:TE}(h:PC X op a b t)(h1:behindInMarks op b=false:=by first | exact nobehind _ ⋯ ⋯ | rfl):PT X (.Compare a [op] [b] pos) (tB t):=by intro pins s σ H Q I F;refine wpAny_isTrue_Compare1 (thn (h pins s σ H _ I F) λv G h1=>thn h1 λu s2 h2=>thn h2 λc s3 ⟨x,H1,I1,r1,q1⟩=>?_) h1;obtain⟨d,rfl,q⟩:=q1;cases r1;exact cQ ⟨H1,I1,q⟩
theorem _root_.aU3 (h:True:=by intro _;rfl):True:=h
theorem Q9 {e:Expr}{t:TE}(h:PE X e t)(he:autoParam (∀whole,isTrue e X.env whole=(do let v <-whole;standAt e.pos;holding [v] (truthy v))) aU3._auto_1):PT X e (tB t):=by intro pins s σ H Q I F;refine isTrue_plain (thn (h pins s σ H _ I F) λv s1 ⟨x,H1,I1,r1,q1⟩=>?_) (he _);obtain⟨d,rfl,q⟩:=q1;cases r1;exact cQ ⟨H1,I1,q⟩
variable {tA tB':TT}{rest:List Expr}
def tAnd (t u:TT):TT:=λσ H Q=>t σ H λc H1=>if c=true then u σ H1 Q else Q false H1
def tOr (t u:TT):TT:=λσ H Q=>t σ H λc H1=>if c=true then Q true H1 else u σ H1 Q
def tNot (t:TT):TT:=λσ H Q=>t σ H λc H1=>Q (!c) H1
theorem Wc (ha:PT X a tA):PW X (.BoolOp .And [a] pos) tA:=by
 intro wh pins s σ H Q I h;refine isTrue_and (thn (ha pins s σ H Q I h) λc F e=>?_);cases c with
 |true=>exact isTrue_and_nil e
 |false=>exact e
theorem y8 (ha:PT X a tA):PW X (.BoolOp .Or [a] pos) tA:=by
 intro wh pins s σ H Q I h;refine isTrue_or (thn (ha pins s σ H Q I h) λc F e=>?_);cases c with
 |false=>exact isTrue_or_nil e
 |true=>exact e
theorem Z8 (ha:PT X a tA)(hb:PW X (.BoolOp .And (b::rest) pos) tB'):PW X (.BoolOp .And (a::b::rest) pos) (tAnd tA tB'):=by
 intro wh pins s σ H Q I h;refine isTrue_and (thn (ha pins s σ H _ I h) λc s1 ⟨H1,I1,q1⟩=>?_);cases c with
 |true=>exact hb wh pins s1 σ H1 Q I1 q1
 |false=>exact⟨H1,I1,q1⟩
theorem Qk (ha:PT X a tA)(hb:PW X (.BoolOp .Or (b::rest) pos) tB'):PW X (.BoolOp .Or (a::b::rest) pos) (tOr tA tB'):=by
 intro wh pins s σ H Q I h;refine isTrue_or (thn (ha pins s σ H _ I h) λc s1 ⟨H1,I1,q1⟩=>?_);cases c with
 |true=>exact⟨H1,I1,q1⟩
 |false=>exact hb wh pins s1 σ H1 Q I1 q1
theorem qqb (ha:PT X a tA):PT X (.UnaryOp .Not a pos) (tNot tA):=by intro pins s σ H Q I h;exact isTrue_not (ha pins s σ H (λc H1=>Q (!c) H1) I h)
def tAndV (ta tb:TE):TE:=λσ H Q=>ta σ H λx H1=>∃c,x=.bl c/\if c=true then tb σ H1 Q else Q (.bl false) H1
theorem wz8 {op}{t:TE}(h:PE X a t):PE X (.BoolOp op [a] pos) t:=λpins s σ H Q I hw=>BoolOp_one (h pins s σ H Q I hw)
theorem qxb (ha:PE X a ta)(hb:PE X (.BoolOp .And (b::rest) pos) tb):PE X (.BoolOp .And (a::b::rest) pos) (tAndV ta tb):=by
 intro pins s σ H Q I h;refine BoolOp_and (thn (ha pins s σ H _ I h) λv s1 ζ=>?_);obtain⟨x,H1,I1,r1,F⟩:=ζ;obtain⟨c,rfl,F⟩:=F;cases r1;refine cQ ?_;cases c with
 |true=>exact hb pins s1 σ H1 Q I1 F
 |false=>exact⟨.bl false,H1,I1,rfl,F⟩
def tIf (t:TT)(ta tb:TE):TE:=λσ H Q=>t σ H λc H1=>if c=true then ta σ H1 Q else tb σ H1 Q
theorem qz8 {c:Expr}(hc:PT X c tA)(ha:PE X a ta)(hb:PE X b tb):PE X (.IfExp c a b pos) (tIf tA ta tb):=by
 intro pins s σ H Q I h;refine wpAny_IfExp (thn (hc pins s σ H _ I h) λd s1 ⟨H1,I1,q1⟩=>?_);cases d with
 |true=>exact ha pins s1 σ H1 Q I1 q1
 |false=>exact hb pins s1 σ H1 Q I1 q1
end
def SqL (K:Aa)(H:Hp)(a:Aj)(xs:List V):Prop :=
 Rd H a (.lst xs) \/
  ∃(o:Obj) (its:Array Ag) (n:Nat),K.lookup a=some o/\o.cls=.type "list" /\ o.dict=none/\o.data=.seq its n/\its.size<=sizeLine/\Vals xs its.toList
def SqT (K:Aa)(H:Hp)(a:Aj)(xs:List V):Prop :=
 Rd H a (.tup xs) \/
  ∃(o:Obj) (its:Array Ag) (n:Nat),K.lookup a=some o/\o.cls=.type "tuple" /\ o.data=.seq its n/\its.size<=sizeLine/\Vals xs its.toList
def absV:Ag->Option V
 |.none=>some .non
 |.bool b=>some (.bl b)
 |.int i _=>some (.int i)
 |.str x _=>some (.str x)
 |.bytes b _=>some (.byt b)
 |.float b _=>some (.flt b)
 |.ref a=>some (.ref a)
 |.type n=>some (.ty n)
 |_=>none
theorem RelV.abs {x:V}{u:Ag}(r:RelV x u):absV u=some x:=by
 cases x with
 |non=>cases r;rfl
 |bl _=>cases r;rfl
 |int _=>obtain⟨t,rfl⟩:=r;rfl
 |str _=>obtain⟨t,rfl⟩:=r;rfl
 |byt _=>obtain⟨t,rfl⟩:=r;rfl
 |flt _=>obtain⟨t,rfl⟩:=r;rfl
 |ref _=>cases r;rfl
 |ty _=>cases r;rfl
theorem RelV.inj {x y:V}{u:Ag}(r:RelV x u)(q:RelV y u):x=y:=au (r.abs.symm.trans q.abs)
theorem Vals.inj:∀ {xs ys:List V} {us:List Ag},Vals xs us->Vals ys us->xs=ys
 |_,_,_,.nil,.nil=>rfl
 |_,_,_,.cons r t,.cons r' t'=>by rw[r.inj r',Vals.inj t t']
section
variable {X:Cx}{pins:List (Aj×Obj)}{σ:St}{H:Hp}{s:Ab}{a:Aj}{xs ys:List V}
theorem SqL.of {K:Aa}(h:H a=some (.lst xs)):SqL K H a xs:=.inl (.inl h)
theorem SqT.of {K:Aa}(h:H a=some (.tup xs)):SqT K H a xs:=.inl (.inl h)
theorem Inv.list (I:Inv X pins σ H s)(h:SqL X.K H a xs):∃its:List Ag,Vals xs its/\PlainL s.heap a its.toArray/\xs.length<=sizeLine:=by
 rcases h with h|⟨o,its,n,hk,hc,hd,hs,hz,r⟩
 .obtain⟨z,its,n,r,e⟩:=h.ok I.hok;exact⟨its,r,⟨_,n,e,rfl,rfl,rfl⟩,z⟩
 .refine⟨its.toList,r,⟨o,n,I.kIn a o hk,hc,hd,by simpa using hs⟩,?_⟩;have e:=r.length;simp only[bn]at e;lia
theorem Inv.tuple (I:Inv X pins σ H s)(h:SqT X.K H a xs):∃its:List Ag,Vals xs its/\IsTup s.heap a its.toArray/\xs.length<=sizeLine:=by
 rcases h with h|⟨o,its,n,hk,hc,hs,hz,r⟩
 .obtain⟨z,its,r,p⟩:=h.ok I.hok;exact⟨its,r,p,z⟩
 .refine⟨its.toList,r,⟨o,I.kIn a o hk,hc,n,by simpa using hs⟩,?_⟩;have e:=r.length;simp only[bn]at e;lia
theorem Inv.list_inj (I:Inv X pins σ H s)(h:SqL X.K H a xs)(h':SqL X.K H a ys):xs=ys:=by
 obtain⟨O,r,⟨o,n,e,_,_,d⟩,_⟩:=I.list h;obtain⟨L,J,⟨o',S,F,_,_,G⟩,_⟩:=I.list h';rw[e]at F;cases F;rw[d]at G;injection G with d1 _;have:O=L:=by simpa using bu Array.toList d1
 subst this;exact r.inj J
end
abbrev Cx.wish (X:Cx)(E:Ag->Ab->Prop):Cx:={ X with xe:=E }
section
variable {X:Cx}{pins:List (Aj×Obj)}{σ:St}{H:Hp}{s:Ab}{E:Ag->Ab->Prop}
end
section
variable {X:Cx}{st:Stmt}{rest:List Stmt}{t u:TS}{e:Expr}{te:TE}{pos:Pos}
def wxb:TS:=λD σ H=>D.nx σ H
def jn (t u:TS):TS:=λD σ H=>t { D with nx:=u D } σ H
theorem w9:PSs X [] wxb:=λ_ _ σ H _ I h=>di ⟨σ,H,I,h⟩
theorem qy (h1:PS X st t)(h2:PSs X rest u):PSs X (st::rest) (jn t u):=by
 intro pins s σ H D I h;refine fV (thn (h1 pins s σ H { D with nx:=u D } I h) λf G q=>?_);cases f with
 |next =>
  obtain⟨F,H',J,q⟩:=q;exact h2 pins G F H' D J q
 |ret v=>exact q
 |brk=>exact q
 |cont=>exact q
theorem qt (h1:PS X st t):PSs X [st] t:=by
 intro pins s σ H D I h;refine fV (thn (h1 pins s σ H D I h) λf s1 q=>?_);cases f with
 |next=>exact di q
 |ret v=>exact q
 |brk=>exact q
 |cont=>exact q
theorem Inv.quiet {pins:List (Aj×Obj)}{σ:St}{H:Hp}{s:Ab}(I:Inv X pins σ H s):interactive X.env=false:=by simp[interactive,I.ok.kind]
def tDrop (te:TE):TS:=λD σ H=>te σ H λ_ H1=>D.nx σ H1
theorem _root_.aU4 (h:True:=by rfl):True:=h
theorem zx (he:PE X e te)(hs:autoParam (swapsWith e none pos.line X.env=pure false) aU4._auto_1):PS X (.Expr e pos) (tDrop te):=by intro pins s σ H D I h;exact wpAny_Expr_any (thn (he pins s σ H _ I h) λv s1 ⟨x,H1,I1,r1,q1⟩=>⟨σ,H1,I1,q1⟩) I.quiet hs
def tRet (te:TE):TS:=λD σ H=>te σ H D.rt
theorem w6 (he:PE X e te):PS X (.Return (some e) pos) (tRet te):=by intro pins s σ H D I h;exact wpAny_Return_some (thn (he pins s σ H _ I h) λv s1 ⟨x,H1,I1,r1,q1⟩=>⟨x,σ,H1,I1,r1,q1⟩)
def wzh (c:TT)(t u:TS):TS:=λD σ H=>c σ H λb H1=>if b=true then t D σ H1 else u D σ H1
theorem x4 {c:Expr}{a b:List Stmt}{tc:TT}(hc:PT X c tc)(ha:PSs X a t)(hb:PSs X b u):PS X (.If c a b pos) (wzh tc t u):=by
 intro pins s σ H D I h;refine wpAny_If (thn (hc pins s σ H _ I h) λd s1 ⟨H1,I1,q1⟩=>?_);cases d with
 |true=>exact ha pins s1 σ H1 D I1 q1
 |false=>exact hb pins s1 σ H1 D I1 q1
end
abbrev TG:=V->St->Hp->(St->Hp->Prop)->Prop
abbrev TGs:=List V->St->Hp->(St->Hp->Prop)->Prop
def PG (X:Cx)(target:Expr)(t:TG):Prop :=
 ∀(pins:List (Aj×Obj)) (s:Ab) (σ:St) (H:Hp) (v:V) (u:Ag) (Q:St->Hp->Prop),Inv X pins σ H s->RelV v u->t v σ H Q ->
  wpAny ↑[X] X.A (assign target X.env u) (λ_ s'=>∃σ' H',Inv X pins σ' H' s'/\Q σ' H') X.xe s
def PGs (X:Cx)(ts:List Expr)(t:TGs):Prop :=
 ∀(pins:List (Aj×Obj)) (s:Ab) (σ:St) (H:Hp) (vs:List V) (us:List Ag) (Q:St->Hp->Prop),Inv X pins σ H s->Vals vs us->t vs σ H Q ->
  wpAny ↑[X] X.A (assignInOrder ((assignEach ts X.env).map (·.2)) us) (λ_ s'=>∃σ' H',Inv X pins σ' H' s'/\Q σ' H') X.xe s
abbrev TSet:=V->V->V->Hp->(Hp->Prop)->Prop
def PSet (X:Cx)(t:TSet):Prop :=
 ∀(pins:List (Aj×Obj)) (s:Ab) (σ:St) (H:Hp) (o i v:V) (ov iv u:Ag) (Q:Hp->Prop),Inv X pins σ H s->RelV o ov->RelV i iv->RelV v u->t o i v H Q ->
  wpAny ↑[X] X.A (setItem ov iv u) (λ_ s'=>∃H',Inv X pins σ H' s'/\Q H') X.xe s
section
variable {X:Cx}{pos:Pos}
def wxr (i:Nat):TG:=λv σ H Q=>Q (σ.set i (some v)) H
theorem _root_.aU5 (h:True:=by walk_at "loc"):True:=h
theorem _root_.aU6 (h:True:=by exact FnScope.nd (by assumption)):True:=h
theorem xy {i:Nat}{x:Str}(hN:autoParam (X.N.Nodup) aU6._auto_1)(hi:autoParam (X.N[i]?=some x) aU4._auto_1)(hx:autoParam (Loc X.env.scope x) aU5._auto_1)(hf:autoParam (X.fn x=true\/X.env.scope.names.lookup x=some .local) aU0._auto_1):PG X (.Name x pos) (wxr i):=by intro pins s σ H v u Q I r h;exact dP (Qw I hN hi hx r (λs' F=>⟨_,H,F,h⟩) hf)
def gNil:TGs:=λvs σ H Q=>vs=[]/\Q σ H
def gCons (t:TG)(u:TGs):TGs:=λvs σ H Q=>∃v r,vs=v::r/\t v σ H λσ' H'=>u r σ' H' Q
theorem vq:PGs X [] gNil:=by intro pins s σ H vs us Q I r h;obtain⟨e,h⟩:=h;subst e;cases r;exact assignInOrder_nil ⟨σ,H,I,h⟩
theorem xf {e:Expr}{es:List Expr}{t:TG}{u:TGs}(h1:PG X e t)(h2:PGs X es u)(hs:autoParam ((assignEach (e::es) X.env).map (·.2)=assign e X.env::(assignEach es X.env).map (·.2)) aU4._auto_1):PGs X (e::es) (gCons t u):=by
 intro pins s σ H G L Q I r h;obtain⟨v,J,F,h⟩:=h;subst F;cases r with
 |cons r rr =>
  rw[hs];refine fj (thn (h1 pins s σ H _ _ _ I r h) λ_ s1 ⟨σ1,H1,I1,q1⟩=>?_);exact h2 pins s1 σ1 H1 _ _ Q I1 rr q1
def gTup (K:Aa)(n:Nat)(t:TGs):TG:=λv σ H Q=>∃a xs,v=.ref a/\SqT K H a xs/\xs.length=n/\t xs σ H Q
theorem vt {es:List Expr}{k:Nat}{t:TGs}{n:Nat}(hc:X.calm=true)(h:PGs X es t)(hn:autoParam ((assignEach es X.env).length=n) aU4._auto_1) (hst:autoParam ((assignEach es X.env).findIdx? (·.1)=none) aU4._auto_1):PG X (.Tuple es k pos) (gTup X.K n t):=by
 intro pins s σ H v u Q I r F;obtain⟨a,xs,U,O,S,F⟩:=F;subst U;cases r;obtain⟨ab,G,L,hz⟩:=I.tuple O;refine assign_Tuple_tuple (I.ok.hd hc) L (by simp[hn,<-S,G.length]) hst λh' J=>?_;have Z:Inv X pins σ H { s with heap:=h' }:=I.kept (t':=s.toks) λb o e=>J b o (aD (ao e)) e;exact h pins _ σ H xs _ Q Z (by simpa using G) F
def gSub (to ti:TE)(t:TSet):TG:=λv σ H Q=>to σ H λo H1=>ti σ H1 λi H2=>t o i v H2 λH3=>Q σ H3
theorem wzq {o i:Expr}{to ti:TE}{t:TSet}(ho:PE X o to)(hi:PE X i ti)(hs:PSet X t)(ha:autoParam (∀v,assign (.Subscript o i pos) X.env v=(do
   let ov <-holding [v] (eval o X.env)
   let iv <-holding [v,ov] (eval i X.env)
   standAt pos
   holding [v,ov,iv] (setItem ov iv v)
   release [v,ov,iv] [])) aU3._auto_1):PG X (.Subscript o i pos) (gSub to ti t):=by
 intro pins s σ H v u Q I r h;rw[ha];refine ac (cf (thn (ho pins s σ H _ I h) λov s1 ζ=>?_));obtain⟨x,H1,I1,r1,q1⟩:=ζ;refine ac (cf (thn (hi pins s1 σ H1 _ I1 q1) λiv s2 ζ=>?_));obtain⟨y,H2,I2,r2,q2⟩:=ζ;refine ac (dn (ac (cf (thn (hs pins s2 σ H2 x y v ov iv u _ I2 r1 r2 r q2) λ_ s3 ζ=>?_))));obtain⟨H3,I3,q3⟩:=ζ;exact wpAny_release ⟨σ,H3,I3,q3⟩
def tAsg (te:TE)(g:TG):TS:=λD σ H=>te σ H λx H1=>g x σ H1 D.nx
theorem k8 {tg e:Expr}{te:TE}{g:TG}(he:PE X e te)(hg:PG X tg g)(hs:autoParam (swapsWithSole [tg] e pos.line X.env=pure false) aU4._auto_1)(hw:autoParam (swappedStores [tg] e X.env=pure none) aU4._auto_1)(h1:autoParam ((assignEach [tg] X.env).map (·.2)=[assign tg X.env]) aU4._auto_1):PS X (.Assign [tg] e pos) (tAsg te g):=by
 intro pins s σ H D I h;refine wpAny_Assign_stores (thn (he pins s σ H _ I h) λv s1 ⟨x,H1,I1,r1,q1⟩=>?_) hs hw;rw[h1];exact thn (hg pins s1 σ H1 x v _ I1 r1 q1) λ_ s2 q=>q
theorem xx {i:Nat}{x:Str}{e:Expr}{te:TE}{pos':Pos}(he:PE X e te)(hN:autoParam (X.N.Nodup) aU6._auto_1)(hi:autoParam (X.N[i]?=some x) aU4._auto_1)(hx:autoParam (Loc X.env.scope x) aU5._auto_1)(hs:autoParam (swapsWith e (some (.Name x pos')) pos.line X.env=pure false) aU4._auto_1)(hf:autoParam (X.fn x=true\/X.env.scope.names.lookup x=some .local) aU0._auto_1) :
  PS X (.Assign [.Name x pos'] e pos) (tAsg te (wxr i)):=by
 intro pins s σ H D I h;refine wpAny_Assign_Name (thn (he pins s σ H _ I h) λv s1 ⟨y,H1,I1,r1,q1⟩=>?_) hs;exact Qw I1 hN hi hx r1 (λs2 F=>⟨_,H1,F,q1⟩) hf
def tPar (i j:Nat)(ta:TA):TS:=λD σ H=>ta σ H λvs H1=>∃v w,vs=[v,w]/\D.nx ((σ.set i (some v)).set j (some w)) H1
theorem xw4 {i j:Nat}{x y:Str}{a b:Expr}{ta:TA}{px py pt:Pos}{kt k2 pt2}(hc:X.calm=true)(hN:X.N.Nodup)(hi:X.N[i]?=some x)(hj:X.N[j]?=some y)(hij:i≠j)(hx:X.env.scope.names.lookup x=some .local) (hy:X.env.scope.names.lookup y=some .local) (ha:PA X [a,b] ta)(hw:swappedStores [.Tuple [.Name x px,.Name y py] kt pt] (.Tuple [a,b] k2 pt2) X.env=pure (some [x,y]))(hs:autoParam (swapsWithSole [.Tuple [.Name x px,.Name y py] kt pt] (.Tuple [a,b] k2 pt2) pos.line X.env=pure false) aU4._auto_1) :
  PS X (.Assign [.Tuple [.Name x px,.Name y py] kt pt] (.Tuple [a,b] k2 pt2) pos) (tPar i j ta):=by
 intro pins s σ H D I h;rw[exec_Assign_arm];refine ac (dn ?_);rw[hs];refine ac (aq ?_);rw[ag ⋯];refine ac (Tuple_ (thn (ha _ pins s σ H _ I h) λus s1 ζ=>?_));obtain⟨vs,H1,I1,r1,J⟩:=ζ;obtain⟨v,w,Z,J⟩:=J;subst Z;obtain⟨G,F,rfl,S,O⟩:∃G F,us=[G,F]/\RelV v G/\RelV w F:=by
  cases r1 with
  |cons p q =>
   cases q with
   |cons p' q' =>
    cases q';exact⟨_,_,rfl,p,p'⟩
 refine cR ?_ (by show 2<=sizeLine;decide);have I2:Inv X pins σ H1 { s1 with heap:=s1.heap.push { cls:=.type "tuple",data:=.seq [G,F].toArray } }:=I1.kept (t':=s1.toks) λb o e=>ai _ e;rw[hw];refine ac (aq ?_);show wpAny ↑[X] X.A (do rule "assign.swapped-stores";let items <-unpackItems (.ref s1.heap.objs.size) 2 none;assignInOrder [λv=>bindName X.env y v,λv=>bindName X.env x v] items.reverse;pure Flow.next) _ _ _;refine ac (wpAny_rule (ac (unpackItems_tuple (items:=#[G,F]) (I.ok.hd hc) (IsTup.new s1.heap _) λh' U=>?_)));have I3:=I2.kept (h':=h') (t':=s1.toks) λb o e=>U b o (aD (ao e)) e;show wpAny _ _ (assignInOrder [λv=>bindName X.env y v,λv=>bindName X.env x v] [F,G] >>= λ_=>pure Flow.next) _ _ _;refine ac (fj (wpAny_bindName (Qw I3 hN hj (.inl hy) O (λs2 I4=>?_) (.inr hy))));refine fj (wpAny_bindName (Qw I4 hN hi (.inl hx) S (λs3 L=>assignInOrder_nil (aq ?_)) (.inr hx)));rw[List.set_comm _ _ (aZ hij)]at L;exact⟨_,H1,L,J⟩
end
section
variable {X:Cx}{pos:Pos}
def wv0 (c:TT)(tb:TS):TS:=λD σ H=>∃W:Nat->St->Hp->Prop,(∃m,W m σ H)/\∀m σ H,W m σ H ->
 c σ H λb H1=>if b=true then ∃N:St->Hp->Prop,(∀σ' H',N σ' H'->∃m',m'<m/\W m' σ' H')/\tb { D with nx:=N,ct:=N,bk:=D.nx } σ H1 else D.nx σ H1
theorem Y2 {c:Expr}{body:List Stmt}{tc:TT}{tb:TS}(hp:PassesOwn ↑[X] X.A X.env X.xe)(hc:PT X c tc)(hb:PSs X body tb):PS X (.While c body [] pos) (wv0 tc tb):=by
 intro pins s σ H D I h;obtain⟨W,⟨m0,w0⟩,ab⟩:=h;refine wpAny_While (codeAny_whileLoop (λn s'=>∃σ' H',Inv X pins σ' H' s'/\W n σ' H') ?_ m0 ⟨σ,H,I,w0⟩);rintro n s1 ⟨σ1,H1,I1,w1⟩;refine cM hp (thn (hc pins s1 σ1 H1 _ I1 (ab n σ1 H1 w1)) λb s2 ζ=>?_);obtain⟨H2,I2,J⟩:=ζ;cases b with
 |true =>
  obtain⟨N,hN,J⟩:=J;rw[ak rfl];refine cM hp (thn (hb pins s2 σ1 H2 _ I2 J) λf s3 G=>?_);cases f with
  |next =>
   obtain⟨F,H3,Z,O⟩:=G;obtain⟨S,U,L⟩:=hN F H3 O;exact⟨S,U,F,H3,Z,L⟩
  |cont =>
   obtain⟨F,H3,Z,O⟩:=G;obtain⟨S,U,L⟩:=hN F H3 O;exact⟨S,U,F,H3,Z,L⟩
  |brk=>exact G
  |ret v=>exact G
 |false =>
  rw[ag aM];exact di ⟨σ1,H2,I2,J⟩
end
structure It where
 go:Nat->Hp->Prop
 yld:Nat->Hp->V->Hp->Prop
 stop:Nat->Hp->Prop
def Qx (X:Cx)(pins:List (Aj×Obj))(H:Hp)(b:Aj):Prop :=
 H b=none/\b≠X.env.locals/\b∉X.fs/\(b∈X.ex\/X.s₀.heap.objs.size<=b)/\(∀x c,X.env.cells.lookup x=some c->c≠b)/\∀p∈X.pn++pins,p.1≠b
theorem Inv.fpOk {X:Cx}{pins:List (Aj×Obj)}{σ:St}{H H':Hp}{s:Ab}{b:Aj}(I:Inv X pins σ H s)(hb:s.heap.objs.size<=b)(hn:H' b=none):Qx X pins H' b:=by
 refine⟨hn,ff (aL I.lt hb),I.nofs hb,.inr (bB I.sz hb),λx c e z=>?_,λp F z=>?_⟩
 .obtain⟨v,q⟩:=I.cell x c e;exact absurd (aL q.lt (by rw[z];exact hb)) (aU _)
 .exact absurd (aL (ao (I.pin p F).1) (by rw[z];exact hb)) (aU _)
structure Turn (P:Ac)(w:Ah)(K:Aa)(tg:Expr)(J:It)(fp:List Aj)(it:Aj)(tn:Nat->Heap->Prop):Prop where
 mem:it∈fp
 obj:∀i h,tn i h->∀b∈fp,∃o,h.get? b=some o/\∀v,o.data≠.cell v
 keep:∀i h h',tn i h->(∀b∈fp,∀o,h.get? b=some o->h'.get? b=some o)->tn i h'
 item:∀(X:Cx),X.prog=P->X.w=w->X.K=K->X.calm=true->∀(i:Nat) (pins:List (Aj×Obj)) (s:Ab) (σ:St) (H:Hp) (E:Ag->Ab->Prop),Inv X pins σ H s->(∀b∈fp,Qx X pins H b)->tn i s.heap->J.go i H ->
  wpAny (model P w) X.A (pyNext (.ref it)) (λr s1=>∃u,r=some u /\
   wpAny (model P w) X.A (letOwnedTupleGo tg (.ref it) u) (λ_ s2=>∃x H',Inv X pins σ H' s2/\RelV x u/\J.yld i H x H'/\tn (i+1) s2.heap/\∀b∈fp,H' b=none) E s1) E s
 done:∀(X:Cx),X.prog=P->X.w=w->X.K=K->X.calm=true->∀(i:Nat) (pins:List (Aj×Obj)) (s:Ab) (σ:St) (H:Hp) (E:Ag->Ab->Prop),Inv X pins σ H s->(∀b∈fp,Qx X pins H b)->tn i s.heap->J.stop i H ->
  wpAny (model P w) X.A (pyNext (.ref it)) (λr s1=>r=none/\Inv X pins σ H s1) E s
 self:∀(A:Ae) (i:Nat) (s:Ab) (Q:Ag->Ab->Prop) (E:Ag->Ab->Prop),tn i s.heap->Q (.ref it) s->wpAny (model P w) A (pyIter (.ref it)) Q E s
abbrev TI:=St->Hp->(It->Hp->Prop)->Prop
def PIE (X:Cx)(pins:List (Aj×Obj))(σ:St)(tg:Expr)(R:It->Hp->Prop)(itv:Ag)(s2:Ab):Prop :=
 ∃(it:Aj) (fp:List Aj) (tn:Nat->Heap->Prop) (J:It) (H':Hp),itv=.ref it/\Inv X pins σ H' s2/\Turn X.prog X.w X.K tg J fp it tn/\tn 0 s2.heap/\(∀b∈fp,Qx X pins H' b)/\R J H'
def PI (X:Cx)(tg iter:Expr)(wi:TI):Prop :=
 ∀(pins:List (Aj×Obj)) (s:Ab) (σ:St) (H:Hp) (R:It->Hp->Prop),Inv X pins σ H s->wi σ H R ->
  wpAny ↑[X] X.A (eval iter X.env) (λv s1=>wpAny ↑[X] X.A (pyIter v) (PIE X pins σ tg R) X.xe s1) X.xe s
theorem qj3 {M:Model}{A:Ae}{E:Ag->Ab->Prop}{s:Ab}{tg:Expr}{it:Aj}{u:Ag}{o:Obj}{n:String}{vs:Array Ag}{Q:Unit->Ab->Prop}(ho:s.heap.get? it=some o)(hc:o.cls=.type n)(hd:o.data=.fields vs)(hn:["enumerate","zip","dict_itemiterator","dict_reverseitemiterator","odict_iterator","itertools.zip_longest","itertools.pairwise"].contains n=false) (hQ:Q () s):wpAny M A (letOwnedTupleGo tg (.ref it) u) Q E s:=by
 unfold letOwnedTupleGo;cases tg <;> first
  |exact aq hQ
  |(cases u <;> first
    |exact aq hQ
    |(refine ac (wpAny_load ho ?_)
      rw[hc,hd]
      show wpAny M A (if(["enumerate","zip","dict_itemiterator","dict_reverseitemiterator","odict_iterator","itertools.zip_longest","itertools.pairwise"].contains n&&vs[0]?==some (rawInt _))=true then _ else _) Q E s
      rw[ag (by intro h;rw[hn,Bool.false_and]at h;cases h)]
      exact aq hQ))
def Itl (K:Aa)(a:Aj):It :=
 ⟨λi H=>∃xs x,SqL K H a xs/\xs[i]?=some x,λi H x H'=>H'=H/\∀xs,SqL K H a xs->xs[i]?=some x,λi H=>∃xs,SqL K H a xs/\xs.length<=i⟩
def Itr (lo:Int)(n:Nat):It:=⟨λi _=>i<n,λi H x H'=>H'=H/\x=.int (lo+i),λi _=>n<=i⟩
theorem wys {P:Ac}{w:Ah}{K:Aa}{tg:Expr}(a it:Aj):Turn P w K tg (Itl K a) [it] it (λi h=>h.IsListIter it a i) where
 mem:=by simp
 obj:=λi h st b hb=>by
  have e:b=it:=by simpa using hb
  subst e;obtain⟨o,e,c,d⟩:=st;exact⟨o,e,λv z=>by rw[d]at z;cases z⟩
 keep:=λi h h' st k=>st.at λo e=>k it (by simp) o e
 item:=by intro X hP hw hK hc i pins s σ H E I hf st hg;subst hP hw hK;obtain⟨xs,x,hq,hx⟩:=hg;obtain⟨its,rv,p,hz⟩:=I.list hq;obtain⟨u,hu,ru⟩:=rv.get hx;obtain⟨f0,f1,f2,f3,f4,f5⟩:=hf it (by simp);refine wpAny_pyNext_list_item st p.isList (x:=u) (by simpa using hu) λh' st' sb=>?_;have I1:Inv X pins σ H { s with heap:=h' }:=I.turned (t':=s.toks) (λb o hb e=>(sb.2 b hb).trans e) f0 f1 f3 f4 f5;obtain⟨o,e,c,d⟩:=id st';exact⟨u,rfl,qj3 (s:={ s with heap:=h' }) e c d ⋯ ⟨x,H,I1,ru,⟨rfl,λys hy=>by rw[I.list_inj hy hq];exact hx⟩,st',λb hb=>(hf b hb).1⟩⟩
 done:=by intro X hP hw hK hc i pins s σ H E I hf st hg;subst hP hw hK;obtain⟨xs,hq,hx⟩:=hg;obtain⟨its,rv,p,hz⟩:=I.list hq;obtain⟨f0,f1,f2,f3,f4,f5⟩:=hf it (by simp);have hl:=rv.length;exact wpAny_pyNext_list_end (I.ok.hd hc) st p.isList (by simp;lia) λh' eb=>⟨rfl,I.turned (t':=s.toks) (λb o hb e=>eb b o hb e) f0 f1 f3 f4 f5⟩
 self:=λ_ _ _ _ _ st h=>wpAny_pyIter_listiter st h
theorem wv2 {P:Ac}{w:Ah}{K:Aa}{tg:Expr}(it:Aj)(lo:Int)(n:Nat):Turn P w K tg (Itr lo n) [it] it (λi h=>IsRangeIter h it (lo+(i:Nat)*1) ((n:Int)-(i:Nat)) 1) where
 mem:=by simp
 obj:=λi h st b hb=>by
  have e:b=it:=by simpa using hb
  subst e;exact⟨_,st,λv z=>by
   have z':Data.fields _=Data.cell v:=z
   cases z'⟩
 keep:=λi h h' st k=>k it (by simp) _ st
 item:=by intro X hP hw hK hc i pins s σ H E I hf st hg;subst hP hw hK;obtain⟨f0,f1,f2,f3,f4,f5⟩:=hf it (by simp);have W:=Walks.range (prog:=X.prog) (w:=X.w) (I.ok.hd hc) it lo 1 n;refine W.item i s _ _ hg st λv h' tk hv st' kk=>?_;obtain⟨t,rfl⟩:=hv;have I1:Inv X pins σ H { s with heap:=h',toks:=tk }:=I.turned (λb o hb e=>kk b o (by simpa using hb) e) f0 f1 f3 f4 f5;refine⟨_,rfl,qj3 (s:={ s with heap:=h',toks:=tk }) (n := "range_iterator") st' rfl rfl ⋯ ⟨.int (lo+i),H,I1,⟨t,?_⟩,⟨rfl,rfl⟩,st',λb hb=>(hf b hb).1⟩⟩;rw[Int.mul_one]
 done:=by intro X hP hw hK hc i pins s σ H E I hf st hg;subst hP hw hK;obtain⟨f0,f1,f2,f3,f4,f5⟩:=hf it (by simp);exact wpAny_pyNext_range_end (I.ok.hd hc) st (by have:n<=i:=hg;lia) λh' eb=>⟨rfl,I.turned (t':=s.toks) (λb o hb e=>eb b o hb e) f0 f1 f3 f4 f5⟩
 self:=λ_ _ _ _ _ st h=>wpAny_pyIter_rangeiter st h
section
variable {X:Cx}{tg:Expr}
def iList (K:Aa)(tl:TE):TI:=λσ H R=>tl σ H λx H1=>∃a,x=.ref a/\(∃xs,SqL K H1 a xs)/\R (Itl K a) H1
theorem jp {l:Expr}{tl:TE}(hl:PE X l tl):PI X tg l (iList X.K tl):=by
 intro pins s σ H R I h;refine thn (hl pins s σ H _ I h) λv s1 ζ=>?_;obtain⟨x,H1,I1,r1,q1⟩:=ζ;obtain⟨a,e,⟨xs,F⟩,q⟩:=q1;subst e;cases r1;obtain⟨L,J,p,O⟩:=I1.list F;refine fG p.isList ?_;refine⟨s1.heap.objs.size,[s1.heap.objs.size],_,_,H1,rfl,I1.kept (t':=s1.toks) λb o e=>ai _ e,wys a _,⟨_,ax _ rfl,rfl,rfl⟩,λb G=>?_,q⟩;have e:b=s1.heap.objs.size:=by simpa using G
 subst e;exact I1.fpOk (al _) (I1.hok.fresh (al _))
theorem xw2 {pins:List (Aj×Obj)}{σ:St}{H:Hp}{s:Ab}{R:It->Hp->Prop}{E:Ag->Ab->Prop}{lo hi:Int}{t u v:Tok}{tk:Nat}(I:Inv X pins σ H s)(h1:-(2 ^ 62)<=lo)(h2:lo<2 ^ 62)(h3:-(2 ^ 62)<=hi)(h4:hi<2 ^ 62)(q:R (Itr lo (hi-lo).toNat) H):wpAny ↑[X] X.A (pyIter (.ref s.heap.objs.size)) (PIE X pins σ tg R) E { s with heap:=s.heap.push { cls:=.type "range",data:=.fields #[.int lo t,.int hi u,.int 1 v] },toks:=tk }:=by
 refine wpAny_pyIter_range (IsRange.new ..) (small_one h1 h2 h3 h4) ?_;have F:Inv X pins σ H { s with heap:=s.heap.push { cls:=.type "range",data:=.fields #[.int lo t,.int hi u,.int 1 v] },toks:=tk }:=I.kept λb o e=>ai _ e;refine⟨(s.heap.push { cls:=.type "range",data:=.fields #[.int lo t,.int hi u,.int 1 v] }).objs.size,[(s.heap.push { cls:=.type "range",data:=.fields #[.int lo t,.int hi u,.int 1 v] }).objs.size],_,_,H,rfl,
  F.kept (t':=tk) λb o e=>ai _ e,wv2 _ lo (hi-lo).toNat,?_,λb G=>?_,q⟩
 .have L:lo+((0:Nat):Int)*1=lo:=by simp
  have J:(((hi-lo).toNat:Nat):Int)-((0:Nat):Int)=Builtin.Range.rangeSize lo hi 1:=by rw[rangeSize_one];split <;> lia
  show IsRangeIter _ _ (lo+((0:Nat):Int)*1) ((((hi-lo).toNat:Nat):Int)-((0:Nat):Int)) 1;rw[L,J];exact ax _ rfl
 .have e:b=(s.heap.push { cls:=.type "range",data:=.fields #[.int lo t,.int hi u,.int 1 v] }).objs.size:=by simpa using G
  subst e;exact F.fpOk (al _) (F.hok.fresh (al _))
def iRng1 (ta:TA):TI:=λσ H R=>ta σ H λvs H1=>∃j:Int,vs=[.int j]/\-(2 ^ 62)<=j/\j<2 ^ 62/\R (Itr 0 j.toNat) H1
theorem ut {a:Expr}{ta:TA}{p pos:Pos}(hg:Gl X "range")(hm:X.mg "range" = none)(ha:PA X [a] ta)(hs:autoParam (starEach [a] X.env=[(false,eval a X.env)]) aU4._auto_1):PI X tg (.Call (.Name "range" p) [a] [] pos) (iRng1 ta):=by
 intro pins s σ H R I h;refine Call_ (wqy I hg hm boot_range (du (thn (ha pos pins s σ H _ I h) λus s1 ζ=>?_) hs rfl));obtain⟨vs,H1,I1,r1,F⟩:=ζ;obtain⟨j,e,F,G,q⟩:=F;subst e;cases r1 with
 |cons r rr =>
  cases rr;obtain⟨t,rfl⟩:=r;exact call_range_1 (xw2 I1 ⋯ ⋯ F G (by simpa using q))
def tFor (wi:TI)(g:TG)(tb:TS):TS:=λD σ H=>wi σ H λJ H1=>∃W:Nat->Nat->St->Hp->Prop,(∃m,W 0 m σ H1)/\∀i m σ H,W i m σ H ->
 (J.stop i H/\D.nx σ H)\/(J.go i H/\∃N:St->Hp->Prop,(∀σ' H',N σ' H'->∃m',m'<m/\W (i+1) m' σ' H')/\∀x H',J.yld i H x H'->g x σ H' λσ2 H2=>tb { D with nx:=N,ct:=N,bk:=D.nx } σ2 H2)
def qu6 (fp:List Aj)(h:Heap):List (Aj×Obj):=fp.filterMap λb=>(h.get? b).map λo=>(b,o)
theorem Wd {fp:List Aj}{h:Heap}{b:Aj}{o:Obj}(hb:b∈fp)(e:h.get? b=some o):(b,o)∈qu6 fp h:=fk.mpr ⟨b,hb,by rw[e];rfl⟩
theorem wy9 {fp:List Aj}{h:Heap}{p:Aj×Obj}(hp:p∈qu6 fp h):p.1∈fp/\h.get? p.1=some p.2:=by
 obtain⟨b,F,e⟩:=fk.mp hp;cases q:h.get? b with
 |none=>rw[q]at e;cases e
 |some o =>
  rw[q]at e;have G:(b,o)=p:=au e;subst G;exact⟨F,q⟩
theorem Inv.pinned {pins:List (Aj×Obj)}{σ:St}{H:Hp}{s:Ab}{fp:List Aj}(I:Inv X pins σ H s)(hf:∀b∈fp,Qx X pins H b)(ho:∀b∈fp,∃o,s.heap.get? b=some o/\∀v,o.data≠.cell v):Inv X (pins++qu6 fp s.heap) σ H s :=
 I.pins_of λp hp=>(ba.mp hp).elim (λz=>I.pin p (aJ _ z)) λz=>by obtain⟨hb,e⟩:=wy9 z;obtain⟨f0,f1,f2,_⟩:=hf p.1 hb;obtain⟨o,e',d⟩:=ho p.1 hb;rw[e]at e';cases e';exact⟨e,f0,f1,f2,d⟩
theorem Inv.unpinned {pins pl:List (Aj×Obj)}{σ:St}{H:Hp}{s:Ab}(I:Inv X (pins++pl) σ H s):Inv X pins σ H s:=I.pins_of λp hp=>I.pin p (aJ _ (bW _ hp))
theorem yq {iter:Expr}{body:List Stmt}{wi:TI}{g:TG}{tb:TS}{pos:Pos}(hp:PassesOwn ↑[X] X.A X.env X.xe)(hc:X.calm=true)(hi:PI X tg iter wi)(hg:PG X tg g)(hb:PSs X body tb)(hs:autoParam (∀x,foldedSetIterable iter X.env x=pure x) aU3._auto_1):PS X (.For tg iter body [] pos) (tFor wi g tb):=by
 intro pins s σ H D I h;refine wpAny_For (thn (hi pins s σ H _ I h) λv s1 h1=>thn h1 λa1 s2 h2=>?_) hs;obtain⟨it,fp,tn,J,H2,e,I2,T,ap,f2,W,⟨m0,w0⟩,ad⟩:=h2;subst e;have U:∀ {H':Hp},(∀b∈fp,H' b=none)->∀b∈fp,Qx X pins H' b:=λhn b hb=>⟨hn b hb,(f2 b hb).2⟩;refine codeAny_forLoop_any (λn s'=>∃i σ' H',Inv X pins σ' H' s'/\tn i s'.heap/\(∀b∈fp,H' b=none)/\W i n σ' H') ?_ m0 ⟨0,σ,H2,I2,ap,λb hb=>(f2 b hb).1,w0⟩;rintro n s3 ⟨i,σ3,H3,I3,st3,fr3,w3⟩;rcases ad i n σ3 H3 w3 with⟨ah,qn⟩|⟨go,N,hN,an⟩
 .refine cM hp (thn (T.done X rfl rfl rfl hc i pins s3 σ3 H3 X.xe I3 (U fr3) st3 ah) λr s4 ζ=>?_);obtain⟨hr,I4⟩:=ζ;subst hr;exact di ⟨σ3,H3,I4,qn⟩
 .refine cM hp (thn (T.item X rfl rfl rfl hc i pins s3 σ3 H3 X.xe I3 (U fr3) st3 go) λr s4 ζ=>?_);obtain⟨u,hr,h4⟩:=ζ;subst hr;refine cM hp (thn h4 λ_ s5 ζ=>?_);obtain⟨x,H5,I5,r5,y5,st5,fr5⟩:=ζ;have a0:=I5.pinned (U fr5) (T.obj _ _ st5);refine cM hp (thn (hg _ s5 σ3 H5 x u _ a0 r5 (an x H5 y5)) λ_ s6 ζ=>?_);obtain⟨σ6,H6,I6,q6⟩:=ζ;refine cM hp (thn (hb _ s6 σ6 H6 _ I6 q6) λf Z O=>?_);have ab:∀ {F:St} {L:Hp},Inv X (pins++qu6 fp s5.heap) F L Z->N F L->∃m,m<n/\∃i σ' H',Inv X pins σ' H' Z/\tn i Z.heap/\(∀b∈fp,H' b=none)/\W i m σ' H':=λ{F L} G S=>by obtain⟨m',hm,w7⟩:=hN F L S;refine⟨m',hm,i+1,F,L,G.unpinned,T.keep _ _ _ st5 λb hb o e=>(G.pin (b,o) (aJ _ (aJ _ (Wd hb e)))).1,λb hb=>?_,w7⟩;obtain⟨o,e,d⟩:=T.obj _ _ st5 b hb;exact(G.pin (b,o) (aJ _ (aJ _ (Wd hb e)))).2.1
  cases f with
  |next=>obtain⟨F,L,G,S⟩:=O;exact ab G S
  |cont=>obtain⟨F,L,G,S⟩:=O;exact ab G S
  |brk=>obtain⟨F,L,G,O⟩:=O;exact⟨F,L,G.unpinned,O⟩
  |ret v=>obtain⟨x7,F,L,G,r7,O⟩:=O;exact⟨x7,F,L,G.unpinned,r7,O⟩
end
theorem Ys {K:Aa}{a:Aj}{xs:List V}{g:TG}{tb:TS}{D:Ends}{σ:St}{H:Hp}(Pv:Nat->St->Hp->Prop)(h0:Pv 0 σ H)(hl:∀i σ H,i<=xs.length->Pv i σ H->SqL K H a xs)(hs:∀i x σ H,xs[i]?=some x->Pv i σ H->g x σ H λσ2 H2=>tb { D with nx:=Pv (i+1),ct:=Pv (i+1),bk:=D.nx } σ2 H2) (hd:∀σ H,Pv xs.length σ H->D.nx σ H) :
  ∃W:Nat->Nat->St->Hp->Prop,(∃m,W 0 m σ H)/\∀i m σ H,W i m σ H ->
   ((Itl K a).stop i H/\D.nx σ H)\/((Itl K a).go i H/\∃N:St->Hp->Prop,(∀σ' H',N σ' H'->∃m',m'<m/\W (i+1) m' σ' H')/\∀x H',(Itl K a).yld i H x H'->g x σ H' λσ2 H2=>tb { D with nx:=N,ct:=N,bk:=D.nx } σ2 H2):=by
 refine⟨λi m σ H=>m=xs.length-i/\i<=xs.length/\Pv i σ H,⟨xs.length,by simp,aA _,h0⟩,?_⟩;rintro i m σ H ⟨rfl,hi,p⟩;have q:=hl i σ H hi p;by_cases hlt:i<xs.length
 .refine .inr ⟨⟨xs,xs[i],q,by simp[hlt]⟩,Pv (i+1),λσ' H' F=>⟨xs.length-(i+1),⋯,rfl,hlt,F⟩,λx H' y=>?_⟩;obtain⟨e,y⟩:=y;subst e;exact hs i x σ _ (y xs q) p
 .have e:i=xs.length:=by lia
  subst e;exact .inl ⟨⟨xs,q,al _⟩,hd σ H p⟩
theorem Q6 {lo:Int}{n:Nat}{g:TG}{tb:TS}{D:Ends}{σ:St}{H:Hp}(Pv:Nat->St->Hp->Prop)(h0:Pv 0 σ H)(hs:∀i σ H,i<n->Pv i σ H->g (.int (lo+i)) σ H λσ2 H2=>tb { D with nx:=Pv (i+1),ct:=Pv (i+1),bk:=D.nx } σ2 H2) (hd:∀σ H,Pv n σ H->D.nx σ H) :
  ∃W:Nat->Nat->St->Hp->Prop,(∃m,W 0 m σ H)/\∀i m σ H,W i m σ H ->
   ((Itr lo n).stop i H/\D.nx σ H)\/((Itr lo n).go i H/\∃N:St->Hp->Prop,(∀σ' H',N σ' H'->∃m',m'<m/\W (i+1) m' σ' H')/\∀x H',(Itr lo n).yld i H x H'->g x σ H' λσ2 H2=>tb { D with nx:=N,ct:=N,bk:=D.nx } σ2 H2):=by
 refine⟨λi m σ H=>m=n-i/\i<=n/\Pv i σ H,⟨n,by simp,aA _,h0⟩,?_⟩;rintro i m σ H ⟨rfl,hi,p⟩;by_cases hlt:i<n
 .refine .inr ⟨hlt,Pv (i+1),λσ' H' F=>⟨n-(i+1),⋯,rfl,hlt,F⟩,λx H' y=>?_⟩;obtain⟨e,y⟩:=y;subst e y;exact hs i σ _ hlt p
 .have e:i=n:=by lia
  subst e;exact .inl ⟨al _,hd σ H p⟩
theorem qvq {c:TT}{tb:TS}{D:Ends}{σ:St}{H:Hp}(Pv:St->Hp->Prop)(μ:St->Hp->Nat)(h0:Pv σ H)(hs:∀σ H,Pv σ H->c σ H λb H1=>if b=true then tb { D with nx:=λσ' H'=>Pv σ' H'/\μ σ' H'<μ σ H,ct:=λσ' H'=>Pv σ' H'/\μ σ' H'<μ σ H,bk:=D.nx } σ H1 else D.nx σ H1)(mono:∀σ H Q Q',(∀b H1,Q b H1->Q' b H1)->c σ H Q->c σ H Q'):wv0 c tb D σ H:=by
 refine⟨λm σ H=>m=μ σ H/\Pv σ H,⟨_,rfl,h0⟩,?_⟩;rintro m σ H ⟨rfl,p⟩;refine mono σ H _ _ (λb H1 q=>?_) (hs σ H p);cases b with
 |true=>exact⟨_,λσ' H' ⟨p',l⟩=>⟨_,l,rfl,p'⟩,q⟩
 |false=>exact q
abbrev R2:=V->V->Hp->VK->Prop
def OpR (X:Cx)(f:Ag->Ag->Sem Ag)(r:R2):Prop :=
 ∀(pins:List (Aj×Obj)) (s:Ab) (σ:St) (H:Hp) (x y:V) (v u:Ag) (Q:VK),Inv X pins σ H s->RelV x v->RelV y u->r x y H Q ->
  wpAny ↑[X] X.A (f v u) (EP X pins σ Q) X.xe s
def UnR (X:Cx)(f:Ag->Sem Ag)(r:V->Hp->VK->Prop):Prop :=
 ∀(pins:List (Aj×Obj)) (s:Ab) (σ:St) (H:Hp) (x:V) (v:Ag) (Q:VK),Inv X pins σ H s->RelV x v->r x H Q ->
  wpAny ↑[X] X.A (f v) (EP X pins σ Q) X.xe s
def j9 (X:Cx)(f:Ag)(r:List V->Hp->VK->Prop):Prop :=
 ∀(pins:List (Aj×Obj)) (s:Ab) (σ:St) (H:Hp) (xs:List V) (us:List Ag) (Q:VK),Inv X pins σ H s->Vals xs us->r xs H Q ->
  wpAny ↑[X] X.A (call f us) (EP X pins σ Q) X.xe s
def tOp (r:R2)(ta tb:TE):TE:=λσ H Q=>ta σ H λx H1=>tb σ H1 λy H2=>r x y H2 Q
def tUn (r:V->Hp->VK->Prop)(ta:TE):TE:=λσ H Q=>ta σ H λx H1=>r x H1 Q
def rI (C:Int->Int->Prop)(g:Int->Int->V):R2:=λx y H Q=>∃i j,x=.int i/\y=.int j/\C i j/\Q (g i j) H
def rI0 (g:Int->Int->V):R2:=λx y H Q=>∃i j,x=.int i/\y=.int j/\Q (g i j) H
def rU (g:Int->V):V->Hp->VK->Prop:=λx H Q=>∃i,x=.int i/\Q (g i) H
section
variable {X:Cx}{a b c:Expr}{ta tb tc:TE}{pos:Pos}
theorem binT (ha:PE X a ta)(hb:PE X b tb){pins:List (Aj×Obj)}{s:Ab}{σ:St}{H:Hp}{R:V->V->Hp->Prop}(I:Inv X pins σ H s)(h:ta σ H λx H1=>tb σ H1 λy H2=>R x y H2) {Q:Ag->Ab->Prop} {f:Ag->Ag->Sem Ag}
  (hf:∀v u s2 x y H2,Inv X pins σ H2 s2->RelV x v->RelV y u->R x y H2->wpAny ↑[X] X.A (f v u) Q X.xe s2) :
  wpAny ↑[X] X.A (eval a X.env) (λv s₁=>wpAny ↑[X] X.A (eval b X.env) (λu s₂=>wpAny ↑[X] X.A (f v u) Q X.xe s₂) X.xe s₁) X.xe s:=by
 refine thn (ha pins s σ H _ I h) λv s1 ⟨x,H1,I1,r1,q1⟩=>?_;refine thn (hb pins s1 σ H1 _ I1 q1) λu s2 ⟨y,H2,I2,r2,q2⟩=>?_;exact hf v u s2 x y H2 I2 r1 r2 q2
theorem xz {op:Operator}{r:R2}(ho:OpR X (binaryOp op) r)(ha:PE X a ta)(hb:PE X b tb):PE X (.BinOp a op b pos) (tOp r ta tb):=by intro pins s σ H Q I h;exact wpAny_BinOp (binT ha hb I h λv u s2 x y H2 J G F q=>ho pins s2 σ H2 x y v u Q J G F q)
theorem Yg {op:UnaryOp}{r:V->Hp->VK->Prop}(ho:UnR X (unaryOp op) r)(ha:PE X a ta):PE X (.UnaryOp op a pos) (tUn r ta):=by intro pins s σ H Q I h;exact UnaryOp_ (thn (ha pins s σ H _ I h) λv s1 ⟨x,H1,I1,r1,q1⟩=>ho pins s1 σ H1 x v Q I1 r1 q1)
theorem opI {f:Ag->Ag->Sem Ag}{C:Int->Int->Prop}{g:Int->Int->Int}
  (rule:∀(i j:Int) (t u:Tok) (s:Ab) (Q:Ag->Ab->Prop) (E:Ag->Ab->Prop),C i j->Q (.int (g i j) s.toks) { s with toks:=s.toks+1 }->wpAny ↑[X] X.A (f (.int i t) (.int j u)) Q E s) :
  OpR X f (rI C λi j=>.int (g i j)):=by
 intro pins s σ H x y v u Q I J G h;obtain⟨i,j,rfl,rfl,L,q⟩:=h;obtain⟨t,rfl⟩:=J;obtain⟨F,rfl⟩:=G;exact rule i j t F s _ _ L ⟨.int (g i j),H,I.tok _,⟨_,rfl⟩,q⟩
theorem opI0 {f:Ag->Ag->Sem Ag}{g:Int->Int->Int}
  (rule:∀(i j:Int) (t u:Tok) (s:Ab) (Q:Ag->Ab->Prop) (E:Ag->Ab->Prop),Q (.int (g i j) s.toks) { s with toks:=s.toks+1 }->wpAny ↑[X] X.A (f (.int i t) (.int j u)) Q E s) :
  OpR X f (rI0 λi j=>.int (g i j)):=by
 intro pins s σ H x y v u Q I J G h;obtain⟨i,j,rfl,rfl,q⟩:=h;obtain⟨t,rfl⟩:=J;obtain⟨F,rfl⟩:=G;exact rule i j t F s _ _ ⟨.int (g i j),H,I.tok _,⟨_,rfl⟩,q⟩
theorem opB0 {f:Ag->Ag->Sem Ag}{g:Int->Int->Bool}
  (rule:∀(i j:Int) (t u:Tok) (s:Ab) (Q:Ag->Ab->Prop) (E:Ag->Ab->Prop),Q (.bool (g i j)) s->wpAny ↑[X] X.A (f (.int i t) (.int j u)) Q E s) :
  OpR X f (rI0 λi j=>.bl (g i j)):=by
 intro pins s σ H x y v u Q I J G h;obtain⟨i,j,rfl,rfl,q⟩:=h;obtain⟨t,rfl⟩:=J;obtain⟨F,rfl⟩:=G;exact rule i j t F s _ _ ⟨.bl (g i j),H,I,rfl,q⟩
def CPow (i j:Int):Prop:=0<=j/\j<=1000000/\i.natAbs<2 ^ 64
theorem zf:OpR X (binaryOp .Add) (rI0 λi j=>.int (i+j)):=opI0 λ_ _ _ _ _ _ _ q=>add_int q
theorem kh:OpR X (binaryOp .Sub) (rI0 λi j=>.int (i-j)):=opI0 λ_ _ _ _ _ _ _ q=>sub_int q
theorem jm:OpR X (binaryOp .Mod) (rI (λ_ j=>0<j) λi j=>.int (i%j)):=opI λi j _ _ _ _ _ hc q=>by have h1:(0:Int)<j:=hc;exact mod_int' ⋯ (by rw[Int.fmod_eq_emod_of_nonneg i ⋯];exact q)
theorem qqu:OpR X (binaryOp .Pow) (rI CPow λi j=>.int (i ^ j.toNat)):=opI λ_ _ _ _ _ _ _ hc q=>pow_int_small hc.1 hc.2.1 hc.2.2 q
theorem unI {f:Ag->Sem Ag}{g:Int->Int}
  (rule:∀(i:Int) (t:Tok) (s:Ab) (Q:Ag->Ab->Prop) (E:Ag->Ab->Prop),Q (.int (g i) s.toks) { s with toks:=s.toks+1 }->wpAny ↑[X] X.A (f (.int i t)) Q E s) :
  UnR X f (rU λi=>.int (g i)):=by
 intro pins s σ H x v Q I F h;obtain⟨i,rfl,q⟩:=h;obtain⟨t,rfl⟩:=F;exact rule i t s _ _ ⟨.int (g i),H,I.tok _,⟨_,rfl⟩,q⟩
theorem Wg:UnR X (unaryOp .USub) (rU λi=>.int (-i)):=unI λ_ _ _ _ _ q=>neg_int q
end
def scal:V->V->Bool
 |.non,.non=>true|.non,.int _=>true|.int _,.non=>true|.non,.bl _=>true|.bl _,.non=>true|.non,.str _=>true|.str _,.non=>true
 |.int _,.int _=>true|.bl _,.bl _=>true|.str _,.str _=>true|.byt _,.byt _=>true
 |.int _,.str _=>true|.str _,.int _=>true|.bl _,.str _=>true|.str _,.bl _=>true
 |_,_=>false
def rEq:R2:=λx y H Q=>scal x y=true/\Q (.bl (decide (x=y))) H
def rNe:R2:=λx y H Q=>scal x y=true/\Q (.bl (!decide (x=y))) H
theorem wjy {i j:Int}:decide (V.int i=V.int j)=(i==j):=by rw[cN];simp
theorem xq9 {i j:Bool}:decide (V.bl i=V.bl j)=(i==j):=by rw[cN];simp
theorem wjb {i j:Str}:decide (V.str i=V.str j)=(i==j):=by rw[cN];simp
theorem wk3 {i j:Array UInt8}:decide (V.byt i=V.byt j)=(i.toList==j.toList):=by rw[cN];cases i;cases j;simp
section
variable {X:Cx}{a b c:Expr}{ta tb tc:TE}{pos:Pos}
theorem zm {pins:List (Aj×Obj)}{σ:St}{H:Hp}{s:Ab}{Q:VK}{k k':Bool}(I:Inv X pins σ H s)(q:Q (.bl k) H)(e:k=k'):EP X pins σ Q (.bool k') s:=by subst e;exact⟨.bl k,H,I,rfl,q⟩
theorem zd:OpR X (compareOp .Eq) rEq:=by
 intro pins s σ H x y v u Q I J F h;obtain⟨hs,q⟩:=h;cases x with
 |non =>
  cases J;cases y with
  |non=>cases F;exact PySem.EqNone.eq_none_none (zm I q (by simp))
  |bl j=>cases F;exact PySem.EqNone.eq_none_bool (zm I q (by simp))
  |int j=>obtain⟨G,rfl⟩:=F;exact PySem.EqNone.eq_none_int (zm I q (by simp))
  |str j=>obtain⟨G,rfl⟩:=F;exact PySem.EqNone.eq_none_str (zm I q (by simp))
  |_=>exact absurd (show false=true from hs) aM
 |bl i =>
  cases J;cases y with
  |non=>cases F;exact PySem.EqNone.eq_bool_none (zm I q (by simp))
  |bl j=>cases F;exact eq_bool (zm I q xq9)
  |str j=>obtain⟨G,rfl⟩:=F;exact PySem.EqMixed.eq_bool_str (zm I q (by simp))
  |_=>exact absurd (show false=true from hs) aM
 |int i =>
  obtain⟨t,rfl⟩:=J;cases y with
  |non=>cases F;exact PySem.EqNone.eq_int_none (zm I q (by simp))
  |int j=>obtain⟨G,rfl⟩:=F;exact eq_int (zm I q wjy)
  |str j=>obtain⟨G,rfl⟩:=F;exact PySem.EqMixed.eq_int_str (zm I q (by simp))
  |_=>exact absurd (show false=true from hs) aM
 |str i =>
  obtain⟨t,rfl⟩:=J;cases y with
  |non=>cases F;exact PySem.EqNone.eq_str_none (zm I q (by simp))
  |bl j=>cases F;exact PySem.EqMixed.eq_str_bool (zm I q (by simp))
  |int j=>obtain⟨G,rfl⟩:=F;exact PySem.EqMixed.eq_str_int (zm I q (by simp))
  |str j=>obtain⟨G,rfl⟩:=F;exact eq_str (zm I q wjb)
  |_=>exact absurd (show false=true from hs) aM
 |byt i =>
  obtain⟨t,rfl⟩:=J;cases y with
  |byt j=>obtain⟨G,rfl⟩:=F;exact W.eq_bytes (zm I q wk3)
  |_=>exact absurd (show false=true from hs) aM
 |_=>cases y <;> exact absurd (show false=true from hs) aM
theorem qq6:OpR X (compareOp .NotEq) rNe:=by
 intro pins s σ H x y v u Q I J F h;obtain⟨hs,q⟩:=h;cases x with
 |non =>
  cases J;cases y with
  |non=>cases F;exact PySem.EqNone.ne_none_none (zm I q (by simp))
  |bl j=>cases F;exact PySem.EqNone.ne_none_bool (zm I q (by simp))
  |int j=>obtain⟨G,rfl⟩:=F;exact PySem.EqNone.ne_none_int (zm I q (by simp))
  |str j=>obtain⟨G,rfl⟩:=F;exact PySem.EqNone.ne_none_str (zm I q (by simp))
  |_=>exact absurd (show false=true from hs) aM
 |bl i =>
  cases J;cases y with
  |non=>cases F;exact PySem.EqNone.ne_bool_none (zm I q (by simp))
  |bl j=>cases F;exact ne_bool (zm I q (bu not xq9))
  |str j=>obtain⟨G,rfl⟩:=F;exact PySem.EqMixed.ne_bool_str (zm I q (by simp))
  |_=>exact absurd (show false=true from hs) aM
 |int i =>
  obtain⟨t,rfl⟩:=J;cases y with
  |non=>cases F;exact PySem.EqNone.ne_int_none (zm I q (by simp))
  |int j=>obtain⟨G,rfl⟩:=F;exact ne_int (zm I q (bu not wjy))
  |str j=>obtain⟨G,rfl⟩:=F;exact PySem.EqMixed.ne_int_str (zm I q (by simp))
  |_=>exact absurd (show false=true from hs) aM
 |str i =>
  obtain⟨t,rfl⟩:=J;cases y with
  |non=>cases F;exact PySem.EqNone.ne_str_none (zm I q (by simp))
  |bl j=>cases F;exact PySem.EqMixed.ne_str_bool (zm I q (by simp))
  |int j=>obtain⟨G,rfl⟩:=F;exact PySem.EqMixed.ne_str_int (zm I q (by simp))
  |str j=>obtain⟨G,rfl⟩:=F;exact ne_str (zm I q (bu not wjb))
  |_=>exact absurd (show false=true from hs) aM
 |byt i =>
  obtain⟨t,rfl⟩:=J;cases y with
  |byt j=>obtain⟨G,rfl⟩:=F;exact W.ne_bytes (zm I q (bu not wk3))
  |_=>exact absurd (show false=true from hs) aM
 |_=>cases y <;> exact absurd (show false=true from hs) aM
theorem j8:OpR X (compareOp .Lt) (rI0 λi j=>.bl (decide (i<j))):=opB0 λ_ _ _ _ _ _ _ q=>lt_int q
theorem wqp:OpR X (compareOp .LtE) (rI0 λi j=>.bl (decide (i<=j))):=opB0 λ_ _ _ _ _ _ _ q=>le_int q
theorem y4:OpR X (compareOp .Gt) (rI0 λi j=>.bl (decide (j<i))):=opB0 λ_ _ _ _ _ _ _ q=>gt_int q
theorem wxf:OpR X (compareOp .GtE) (rI0 λi j=>.bl (decide (j<=i))):=opB0 λ_ _ _ _ _ _ _ q=>ge_int q
theorem qjy:OpR X (compareOp .In) (λx y H Q=>∃i j,x=.str i/\y=.str j/\Q (.bl (!(Builtin.Str.occurrences j i 0 j.length 1).isEmpty)) H):=by intro pins s σ H x y v u Q I G F h;obtain⟨i,j,rfl,rfl,q⟩:=h;obtain⟨t,rfl⟩:=G;obtain⟨J,rfl⟩:=F;exact in_str (zm I q rfl)
theorem op_isN:OpR X (compareOp .Is) (λx y H Q=>y=.non/\Q (.bl (decide (x=.non))) H):=by
 intro pins s σ H x y v u Q I F G h;obtain⟨rfl,q⟩:=h;cases G;refine is_none_gen (zm I q ?_);cases x <;> first
  |(cases F;rfl)
  |(obtain⟨t,rfl⟩:=F;rfl)
theorem xzp:OpR X (compareOp .IsNot) (λx y H Q=>y=.non/\Q (.bl (!decide (x=.non))) H):=by
 intro pins s σ H x y v u Q I F G h;obtain⟨rfl,q⟩:=h;cases G;refine isnot_none_gen (zm I q ?_);cases x <;> first
  |(cases F;rfl)
  |(obtain⟨t,rfl⟩:=F;rfl)
theorem qyy:OpR X (compareOp .NotIn) (λx y H Q=>∃i j,x=.str i/\y=.str j/\Q (.bl (!(!(Builtin.Str.occurrences j i 0 j.length 1).isEmpty))) H):=by intro pins s σ H x y v u Q I G F h;obtain⟨i,j,rfl,rfl,q⟩:=h;obtain⟨t,rfl⟩:=G;obtain⟨J,rfl⟩:=F;exact notIn_str (zm I q rfl)
theorem wt (b:Expr){op:CmpOp}(h:autoParam (op≠.In) aU1._auto_1)(h2:autoParam (op≠.NotIn) aU1._auto_1):behindInMarks op b=false:=by
 have G:(op==CmpOp.In)=false:=by cases op <;> first | rfl | exact absurd rfl h
 have F:(op==CmpOp.NotIn)=false:=by cases op <;> first | rfl | exact absurd rfl h2
 cases b <;> simp[behindInMarks,G,F]
theorem yw {op:CmpOp}{r:R2}(ho:OpR X (compareOp op) r)(ha:PE X a ta)(hb:PE X b tb)(hm:behindInMarks op b=false):PE X (.Compare a [op] [b] pos) (tOp r ta tb):=by intro pins s σ H Q I h;exact wpAny_Compare1 (binT ha hb I h λv u s2 x y H2 J G F q=>ho pins s2 σ H2 x y v u Q J G F q) hm
def qq1 (t:TE):TT:=λσ H Q=>t σ H λx H'=>∃k,x=.bl k/\Q k H'
theorem wn {op:CmpOp}{r:R2}(ho:OpR X (compareOp op) r)(ha:PE X a ta)(hb:PE X b tb)(hm:behindInMarks op b=false):PT X (.Compare a [op] [b] pos) (qq1 (tOp r ta tb)):=by
 intro pins s σ H Q I h;refine wpAny_isTrue_Compare1 (thn (ha pins s σ H _ I h) λv s1 ⟨x,H1,I1,r1,q1⟩=>thn (hb pins s1 σ H1 _ I1 q1) λu s2 ⟨y,H2,I2,r2,q2⟩ =>
  thn (ho pins s2 σ H2 x y v u _ I2 r1 r2 q2) λc s3 ⟨z,H3,I3,r3,k,e,q3⟩=>?_) hm
 subst e;cases r3;exact cQ ⟨H3,I3,q3⟩
theorem Z3:(sizeLine:Nat)<2 ^ 63:=by rw[sizeLine_eq];decide
theorem Wj:OpR X (binaryOp .Add) (λx y H Q=>∃i j,x=.str i/\y=.str j/\i.length+j.length<=sizeLine/\Q (.str (i++j)) H):=by intro pins s σ H x y v u Q I J G h;obtain⟨i,j,rfl,rfl,L,q⟩:=h;obtain⟨t,rfl⟩:=J;obtain⟨F,rfl⟩:=G;exact add_str (λF tk=>⟨.str (i++j),H,I.tok _,⟨_,rfl⟩,q⟩) L
theorem uu {x:V}{us:List Ag}(r:Vals [x] us):∃u,us=[u]/\RelV x u:=by
 cases r with
 |cons r1 r2=>cases r2;exact⟨_,rfl,r1⟩
theorem vals2 {x y:V}{us:List Ag}(r:Vals [x,y] us):∃u w',us=[u,w']/\RelV x u/\RelV y w':=by
 cases r with
 |cons r1 r2 =>
  cases r2 with
  |cons r3 r4=>cases r4;exact⟨_,_,rfl,r1,r3⟩
theorem Yd:j9 X (.builtin "abs") (λxs H Q=>∃i,xs=[.int i]/\Q (.int (if i<0 then -i else i)) H):=by intro pins s σ H xs F Q I r h;obtain⟨i,rfl,q⟩:=h;obtain⟨u,rfl,t,rfl⟩:=uu r;exact call_abs_int λu tk=>⟨.int (if i<0 then -i else i),H,I.tok _,⟨_,rfl⟩,q⟩
theorem qk1 (hc:X.calm=true):j9 X (.builtin "max") (λxs H Q=>∃i j,xs=[.int i,.int j]/\Q (.int (if j>i then j else i)) H):=by
 intro pins s σ H xs G Q I r h;obtain⟨i,j,rfl,q⟩:=h;obtain⟨u,F,rfl,⟨t,rfl⟩,⟨J,rfl⟩⟩:=vals2 r;refine max_two_ints (I.ok.hd hc) λh' tk k=>⟨_,H,I.kept k,?_,q⟩;by_cases hj:j>i
 .rw[ak hj,ak hj];exact⟨_,rfl⟩
 .rw[ag hj,ag hj];exact⟨_,rfl⟩
theorem wj0 (hc:X.calm=true):j9 X (.builtin "min") (λxs H Q=>∃i j,xs=[.int i,.int j]/\Q (.int (if j<i then j else i)) H):=by
 intro pins s σ H xs G Q I r h;obtain⟨i,j,rfl,q⟩:=h;obtain⟨u,F,rfl,⟨t,rfl⟩,⟨J,rfl⟩⟩:=vals2 r;refine min_two_ints (I.ok.hd hc) λh' tk k=>⟨_,H,I.kept k,?_,q⟩;by_cases hj:j<i
 .rw[ak hj,ak hj];exact⟨_,rfl⟩
 .rw[ag hj,ag hj];exact⟨_,rfl⟩
theorem qyh:j9 X (.type "str") (λxs H Q=>∃i,xs=[.int i]/\i.natAbs.log2<1920/\Q (.str (toString i)) H):=by intro pins s σ H xs G Q I r h;obtain⟨i,rfl,F,q⟩:=h;obtain⟨u,rfl,t,rfl⟩:=uu r;exact PySem.P.str_of_int F ⟨.str _,H,I.tok _,⟨_,rfl⟩,q⟩
end
structure ObjM (h:Heap)(x dx C:Aj)(mA:Str->Option Ag):Prop where
 obj:h.get? x=some (W.instObj C dx)
 ns:h.Ns1 dx mA
 ne:dx≠x
set_option tactic.hygienic true in
theorem wyh {h:Heap}{dx:Aj}{mA:Str->Option Ag}(n:h.Ns1 dx mA):∃od,h.get? dx=some od/\∀name,W.lookIn name od=some (mA name):=by
 obtain⟨o,es,ep,ho,hd,hk,_,hm⟩:=n;refine⟨o,ho,λname=>?_⟩;have e:=hm name;unfold nsFind findBy at e;rw[<-Array.find?_toList]at e;unfold W.lookIn;rw[hd];dsimp only;split
 .rename_i y q;rw[q]at e;exact bu some e
 .rename_i q;rw[q]at e;have a:es.toList.any (·.refKey)=false:=by rw[List.any_eq_false];intro y hy;obtain⟨z,t,hkey⟩:=hk y (Array.mem_toList_iff.mp hy);simp[DictEntry.refKey,hkey]
  have a':¬ es.toList.any (·.refKey)=true:=by rw[a];exact aM
  rw[ag a'];exact bu some e
theorem ObjM.look {h:Heap}{x dx C:Aj}{mA:Str->Option Ag}(I:ObjM h x dx C mA):∃od,W.InstAt h x (W.instObj C dx) C (some od)/\∀name,W.lookIn name od=some (mA name) :=
 let ⟨od,ho,hl⟩:=wyh I.ns;⟨od,⟨I.obj,rfl,rfl,ho⟩,hl⟩
section
variable {prog:Ac}{w:Ah}{A:Ae}{E:Ag->Ab->Prop}{s:Ab}{K:Aa}{x dx C f:Aj}{mA:Str->Option Ag}{name:Str}{v:Ag}
theorem xzw {expr:Bool}{Q:Ag->Ab->Prop}(X:K.In s.heap)(I:ObjM s.heap x dx C mA)(hg:W.plainGet K C name=true)(hh:W.hasDictIn K C=true)(ha:W.findIn K (.ref C) name=some none) (hv:mA name=some v) (hv':W.handedIn v=true) (h:Q v { s with toks:=s.toks+1 }) :
  wpAny (model prog w) A (getAttr (.ref x) name expr) Q E s:=by
 obtain⟨G,J,F⟩:=I.look;exact W.get_value X J (eY hg).1 (W.findObj_own hh ha rfl (by rw[F,hv])) hv' h
theorem xqc {pl:Sem Bool}{Q:Ag×List Ag->Ab->Prop}(X:K.In s.heap)(I:ObjM s.heap x dx C mA)(hg:W.plainGet K C name=true)(hf:W.findIn K (.ref C) name=some (some (.ref f))) (ht:W.isFn K (.ref f)=true) (hv:mA name=none) (h:Q (.ref f,[.ref x]) s) :
  wpAny (model prog w) A (getMethod (.ref x) name pl) Q E s:=by
 obtain⟨F,J,G⟩:=I.look;exact W.method_fn X J (eY hg).1 (eY hg).2 hf (dJ.mp ht) (by show(W.lookIn name F).map (·.isSome)=some false;rw[G,hv];rfl) h
theorem qyp {ns:List Str}{Q:Unit->Ab->Prop}(X:K.In s.heap)(I:ObjM s.heap x dx C mA)(hs:W.findIn K (.ref C) "__setattr__" = some (some (.builtin "object.__setattr__"))) (hp:W.plainOver K C=true) (ht:W.takerIn K C name=some none) (hh:W.hasDictIn K C=true)(hw:PySem.Within mA ns) (hsz:ns.length<=sizeLine)(h:∀h',ObjM h' x dx C (λy=>if y=name then some v else mA y)->Heap.SameBut dx s.heap h'->Q () { s with heap:=h',toks:=s.toks+2 }) :
  wpAny (model prog w) A (setAttr (.ref x) name v) Q E s:=by
 obtain⟨od,J,hl⟩:=I.look;refine W.set_plain X J hs (W.osa_open (s:={ s with toks:=s.toks+1 }) (r:=none) X J hp ht λb=>?_);obtain⟨cd,hc,U⟩:=W.any_some hh;have L:s.heap.get? x=some ⟨.ref C,some dx,.plain,#[]⟩:=I.obj;refine ac (aq (ac (ac (wpAny_loadPart L (ac (W.Looks.here (s:={ s with toks:=s.toks+1 }) (W.looks_clsIn X hc) ?_))))));rw[U];refine aq (a:=some dx) (ac (aq (ac ?_)));refine wpAny_nsSet1 (s:={ s with toks:=s.toks+1 }) I.ns λh' G F=>?_;obtain⟨oD,ab,ad,O,S,Z⟩:=G.count (PySem.Within.cons name v hw);refine ac (wpAny_lookBehind O (by rw[S];exact pastItsLine_dict (bB Z (by rw[aC];lia))) ?_);exact aq (h _ ⟨(F.2 _ (aZ I.ne)).trans I.obj,G,I.ne⟩ F)
theorem xqu {R:Result->Ab->Prop}{vs:List Ag}{kw:List (Str×Ag)}(X:K.In s.heap)(hm:W.makesIn K C=true)(hi:W.findIn K (.ref C) "__init__" = some (some (.ref f))) (hf:W.typeIn K (.ref f)=some (.type "function"))(h:codeAny (model prog w) (A.under (.builtin "type.__call__" ⟨.ref C::vs,kw⟩)) (.call (.ref f) ⟨.ref (s.heap.objs.size+1)::vs,kw⟩) (W.InitBack (s.heap.objs.size+1) R)
   { s with heap:=(s.heap.push W.emptyDict).push (W.instObj C s.heap.objs.size) }) :
  codeAny (model prog w) A (.call (.ref C) ⟨vs,kw⟩) R s:=by
 obtain⟨I,g,d,t,G⟩:=s;exact W.make_core (W.makes_of X hm) (W.looks_findIn X hi) (λF=>W.bind_fn X F hf) (.inl rfl) h
end
def jj (f:Str)(v:V):List (Str×V)->List (Str×V)
 |[]=>[(f,v)]
 |(g,x)::r=>if g=f then(g,v)::r else(g,x)::jj f v r
theorem qq4 (f g:Str)(v:V):∀fs:List (Str×V),(jj f v fs).lookup g=if g=f then some v else fs.lookup g
 |[]=>by
  show List.lookup g [(f,v)]=_;by_cases h:g=f
  .have hb:(g==f)=true:=dJ.mpr h;simp only[List.lookup,hb,ak h]
  .have hb:(g==f)=false:=aY.mpr h;simp only[List.lookup,hb,ag h]
 |(k,x)::r=>by
  have ih:=qq4 f g v r;rw[show jj f v ((k,x)::r)=(if k=f then(k,v)::r else(k,x)::jj f v r) from rfl];by_cases hk:k=f
  .rw[ak hk];by_cases h:g=k
   .have hb:(g==k)=true:=dJ.mpr h;simp only[List.lookup,hb,ak (h.trans hk)]
   .have hb:(g==k)=false:=aY.mpr h;simp only[List.lookup,hb,ag (λe:g=f=>h (e.trans hk.symm))]
  .rw[ag hk];by_cases h:g=k
   .have hb:(g==k)=true:=dJ.mpr h;simp only[List.lookup,hb,ag (λe:g=f=>hk (h.symm.trans e))]
   .have hb:(g==k)=false:=aY.mpr h;simp only[List.lookup,hb];exact ih
theorem qqw (f:Str)(v:V):∀fs:List (Str×V),f∈(jj f v fs).map (·.1)/\∀g,g∈fs.map (·.1)->g∈(jj f v fs).map (·.1)
 |[]=>⟨by simp[jj],λg h=>by simp at h⟩
 |(k,x)::r=>by
  obtain⟨i1,i2⟩:=qqw f v r;rw[show jj f v ((k,x)::r)=(if k=f then(k,v)::r else(k,x)::jj f v r) from rfl];by_cases hk:k=f
  .rw[ak hk];subst hk;exact⟨by simp,λg h=>by simpa using h⟩
  .rw[ag hk];refine⟨?_,λg h=>?_⟩
   .rw[aH];exact ay _ i1
   .rw[aH]at h ⊢;rcases ae.mp h with e|e
    .exact ae.mpr (.inl e)
    .exact ay _ (i2 g e)
theorem qqr (f:Str)(v:V):∀fs:List (Str×V),(jj f v fs).length<=fs.length+1
 |[]=>by simp[jj]
 |(k,x)::r=>by
  have ih:=qqr f v r;rw[show jj f v ((k,x)::r)=(if k=f then(k,v)::r else(k,x)::jj f v r) from rfl];by_cases hk:k=f
  .rw[ak hk,aC,aC];lia
  .rw[ag hk,aC,aC];lia
theorem RelO.some_of {v:V}{o:Option Ag}(r:RelO (some v) o):∃u,o=some u/\RelV v u:=by
 cases o with
 |none=>exact(show False from r).elim
 |some u=>exact⟨u,rfl,r⟩
theorem RelO.none_of {o:Option Ag}(r:RelO none o):o=none:=by
 cases o with
 |none=>rfl
 |some u=>exact(show False from r).elim
theorem wyq {v:V}{u:Ag}(r:RelV v u):W.handedIn u=true:=by
 cases v with
 |non=>cases(show u=Value.none from r);rfl
 |bl b=>cases(show u=Value.bool b from r);rfl
 |int i=>obtain⟨t,e⟩:=(show ∃t,u=Value.int i t from r);cases e;rfl
 |str x=>obtain⟨t,e⟩:=(show ∃t,u=Value.str x t from r);cases e;rfl
 |byt b=>obtain⟨t,e⟩:=(show ∃t,u=Value.bytes b t from r);cases e;rfl
 |flt b=>obtain⟨t,e⟩:=(show ∃t,u=Value.float b t from r);cases e;rfl
 |ref a=>cases(show u=Value.ref a from r);rfl
 |ty n=>cases(show u=Value.type n from r);rfl
section
variable {P:Ac}{w:Ah}{H H':Hp}{h h':Heap}{a C dx:Aj}{fs fs':List (Str×V)}
theorem quu (hok:HOk P w H h)(e:H a=some (.ins C dx fs)):∃mA,ObjM h a dx C mA/\(∀f,RelO (fs.lookup f) (mA f))/\PySem.Within mA (fs.map (·.1))/\fs.length<=1000/\H dx=some (.own a):=by obtain⟨d,z,G,F,mA,n,r,q⟩:=(show ObjOk P w H h a (.ins C dx fs) from hok a _ e);exact⟨mA,⟨F,n,G⟩,r,q,z,d⟩
end
structure Cls (K:Aa)(C:Aj):Prop where
 pg:W.plainGet K C Str.empty=true
 hd:W.hasDictIn K C=true
 po:W.plainOver K C=true
 sa:W.findIn K (.ref C) "__setattr__" = some (some (.builtin "object.__setattr__"))
theorem Cls.get {K:Aa}{C:Aj}(c:Cls K C)(f:Str):W.plainGet K C f=true:=c.pg
def NoAttr (K:Aa)(C:Aj)(f:Str):Prop:=W.findIn K (.ref C) f=some none
theorem NoAttr.taker {K:Aa}{C:Aj}{f:Str}(n:NoAttr K C f):W.takerIn K C f=some none:=by unfold W.takerIn;rw[show W.findIn K (.ref C) f=some none from n];rfl
structure Con (K:Aa)(C:Aj)(f:Str)(v:V)(u:Ag):Prop where
 at_:W.findIn K (.ref C) f=some (some u)
 rel:RelV v u
 get:W.specialIn K u "__get__" = some none
 cp:W.copiedNames.contains f=false
structure Meth (K:Aa)(C:Aj)(m:Str)(f:Aj):Prop where
 at_:W.findIn K (.ref C) m=some (some (.ref f))
 fn:W.isFn K (.ref f)=true
 kp:W.keepIn K (.ref f)=true
section
variable {X:Cx}{pins:List (Aj×Obj)}{σ:St}{H:Hp}{s:Ab}{a C dx:Aj}{fs:List (Str×V)}{f:Str}{v:V}{A:Ae}{E:Ag->Ab->Prop}
theorem wzn {b:Bool}{Q:Ag->Ab->Prop}(I:Inv X pins σ H s)(e:H a=some (.ins C dx fs))(c:Cls X.K C)(n:NoAttr X.K C f)(l:fs.lookup f=some v)(h:∀u s',Inv X pins σ H s'->RelV v u->Q u s'):wpAny ↑[X] A (getAttr (.ref a) f b) Q E s:=by
 obtain⟨mA,O,r,_,_,_⟩:=quu I.hok e;obtain⟨u,G,F⟩:=RelO.some_of (v:=v) (o:=mA f) (by rw[<-l];exact r f);exact xzw I.kIn O (c.get f) c.hd n G (wyq F) (h u _ (I.tok _) F)
theorem qx8 {m:Str}{g:Aj}{pl:Sem Bool}{Q:Ag×List Ag->Ab->Prop}(I:Inv X pins σ H s)(e:H a=some (.ins C dx fs))(c:Cls X.K C)(k:Meth X.K C m g)(l:fs.lookup m=none)(h:Q (.ref g,[.ref a]) s):wpAny ↑[X] A (getMethod (.ref a) m pl) Q E s:=by
 obtain⟨mA,O,r,_,_,_⟩:=quu I.hok e;have F:mA m=none:=RelO.none_of (by rw[<-l];exact r m);exact xqc I.kIn O (c.get m) k.at_ k.fn F h
theorem wzd {y:V}{u:Ag}{Q:Unit->Ab->Prop}(I:Inv X pins σ H s)(e:H a=some (.ins C dx fs))(c:Cls X.K C)(n:NoAttr X.K C f)(hl:fs.length<1000)(ry:RelV y u)(h:∀s',Inv X pins σ (upd H a (.ins C dx (jj f y fs))) s'->Q () s'):wpAny ↑[X] A (setAttr (.ref a) f u) Q E s:=by
 obtain⟨mA,O,r,wi,_,G⟩:=quu I.hok e;have L:(fs.map (·.1)).length<=sizeLine:=by rw[aa,sizeLine_eq];lia
 refine qyp I.kIn O c.sa c.po n.taker c.hd wi L λh' F J=>h _ ?_;have U:∃o,h'.get? dx=some o:=let ⟨o,_,_,e',_⟩:=F.ns;⟨o,e'⟩;refine I.write (x:=a) (e:=dx) (by rw[e];exact True.intro) (.inr G) (λb q Z z=>(J.2 b Z).trans z) U ?_;refine⟨by rw[wg O.ne];exact G,?_,O.ne,F.obj,_,F.ns,λg=>?_,λg S=>?_⟩
 .have:=qqr f y fs;lia
 .show RelO ((jj f y fs).lookup g) (if g=f then some u else mA g);rw[qq4];by_cases q:g=f
  .rw[ak q,ak q];exact ry
  .rw[ag q,ag q];exact r g
 .by_cases q:g=f
  .rw[q];exact(qqw f y fs).1
  .refine(qqw f y fs).2 g (wi g λz=>S ?_);show(if g=f then some u else mA g)=none;rw[ag q];exact z
theorem Inv.made (I:Inv X pins σ H s):Inv X pins σ (upd (upd H s.heap.objs.size (.own (s.heap.objs.size+1))) (s.heap.objs.size+1) (.ins C s.heap.objs.size []))
  { s with heap:=(s.heap.push W.emptyDict).push (W.instObj C s.heap.objs.size) }:=by
 have G:(s.heap.push W.emptyDict).get? s.heap.objs.size=some W.emptyDict:=ax s.heap rfl;have S:((s.heap.push W.emptyDict).push (W.instObj C s.heap.objs.size)).get? (s.heap.objs.size+1)=some (W.instObj C s.heap.objs.size):=by have:=ax (s.heap.push W.emptyDict) (o:=W.instObj C s.heap.objs.size) rfl;rwa [fu]at this
 have O:(s.heap.push W.emptyDict).Ns s.heap.objs.size (λ_=>none):=⟨W.emptyDict,#[],_,G,rfl,(λe L=>absurd L (by simp)),λ_=>rfl⟩;have U:=I.laid (a:=s.heap.objs.size) (o:=.own (s.heap.objs.size+1)) (h':=s.heap.push W.emptyDict) (t':=s.toks) (λb u q=>ai _ q) (al _) ⟨_,G⟩;refine U.laid (a:=s.heap.objs.size+1) (o:=.ins C s.heap.objs.size []) (t':=s.toks) (λb u q=>ai _ q) (Nat.le_of_eq (fu _ _)) ?_;have F:s.heap.objs.size≠s.heap.objs.size+1:=aD (Nat.lt_succ_self _);refine⟨by rw[wg F,qb],aA _,F,S,λ_=>none,(Heap.Ns1.of_empty O).at λo q=>ai _ q,λ_=>True.intro,λy J=>absurd rfl J⟩
theorem xv8 {prog:Ac}{w:Ah}{env:Env}{e:Expr}{f:Str}{pos:Pos}{s:Ab}{Q:Ag->Ab->Prop}(hb:attributeBase e f env (eval e env)=eval e env)(h:wpAny (model prog w) A (eval e env) (λo s₁=>wpAny (model prog w) A (getAttr o f true) Q E s₁) E s):wpAny (model prog w) A (eval (.Attribute e f pos) env) Q E s :=
 Attribute_any_ h (by rw[arm_eval_Attribute,hb])
end
def tFld (K:Aa)(ta:TE)(f:Str):TE:=λσ H Q=>ta σ H λx H1=>∃a C dx fs v,x=.ref a/\H1 a=some (.ins C dx fs)/\Cls K C/\NoAttr K C f/\fs.lookup f=some v/\Q v H1
def sFld (K:Aa)(ta tv:TE)(f:Str):TS:=λD σ H=>tv σ H λy H1=>ta σ H1 λx H2=>∃a C dx fs,x=.ref a/\H2 a=some (.ins C dx fs)/\Cls K C/\NoAttr K C f/\fs.length<1000 /\
 D.nx σ (upd H2 a (.ins C dx (jj f y fs)))
section
variable {X:Cx}{o e value:Expr}{f:Str}{pos pos' tpos:Pos}{ta tv:TE}
theorem zh (he:PE X e ta)(hb:attributeBase e f X.env (eval e X.env)=eval e X.env):PE X (.Attribute e f pos) (tFld X.K ta f):=by intro pins s σ H Q I h;refine xv8 hb (thn (he pins s σ H _ I h) λu s1 ζ=>?_);obtain⟨x,H1,I1,rx,a,C,dx,fs,v,ex,ea,c,n,l,q⟩:=ζ;subst ex;obtain rfl:u=Value.ref a:=rx;exact wzn I1 ea c n l λJ s2 G F=>⟨v,H1,G,F,q⟩
theorem Zz (ha:PE X o ta)(hv:PE X value tv)(hs:swapsWith value (some (.Attribute o f pos')) pos.line X.env=pure false):PS X (.Assign [.Attribute o f pos'] value pos) (sFld X.K ta tv f):=by intro pins s σ H D I h;refine plainObj_wpAny_Assign_Attribute (thn (hv pins s σ H _ I h) λu s1 ζ=>?_) hs;obtain⟨y,H1,I1,ry,q⟩:=ζ;refine thn (ha pins s1 σ H1 _ I1 q) λov s2 ζ=>?_;obtain⟨x,H2,I2,rx,a,C,dx,fs,ex,ea,c,n,l,q2⟩:=ζ;subst ex;obtain rfl:ov=Value.ref a:=rx;exact wzd I2 ea c n l ry λG F=>⟨σ,_,F,q2⟩
end
section
variable {X:Cx}{pins:List (Aj×Obj)}{σ:St}{H:Hp}{s:Ab}{A:Ae}{E:Ag->Ab->Prop}{Q:Ag->Ab->Prop}{c:Ag}{b:Bool}
inductive TyOf (K:Aa) (H:Hp):V->Ag->Prop where
 |non:TyOf K H .non (.type "NoneType")
 |bl (x:Bool):TyOf K H (.bl x) (.type "bool")
 |int (i:Int):TyOf K H (.int i) (.type "int")
 |str (x:Str):TyOf K H (.str x) (.type "str")
 |flt (x:UInt64):TyOf K H (.flt x) (.type "float")
 |lst {a:Aj} {xs:List V} (e:H a=some (.lst xs)):TyOf K H (.ref a) (.type "list")
 |frz {a:Aj} {o:Obj} {xs:List V} (e:H a=some (.frz o (.lst xs))):TyOf K H (.ref a) (.type "list")
 |tup {a:Aj} {xs:List V} (e:H a=some (.tup xs)):TyOf K H (.ref a) (.type "tuple")
 |dK {a:Aj} {kvs:List (Key×V)} (e:H a=some (.dK kvs)):TyOf K H (.ref a) (.type "dict")
 |dT {a:Aj} {kvs:List (List Key×V)} (e:H a=some (.dT kvs)):TyOf K H (.ref a) (.type "dict")
 |ins {a C dx:Aj} {fs:List (Str×V)} (e:H a=some (.ins C dx fs)) (cl:Cls K C) (ha:W.findIn K (.ref C) "__class__" = some (some (.builtin "object.__class__")))(hn:W.specialIn K (.builtin "object.__class__") "__get__" = some (some (.builtin "getset_descriptor.__get__"))) (htk:W.takesIn K (.builtin "object.__class__")=some true)(hm:W.mroIn K C (.type "object")=some true):TyOf K H (.ref a) (.ref C)
end
structure Room (k:Nat)(A:Ae):Prop where
 hd:A.handled=none
 dp:A.depth+3*k+5<recursionLimit
 un:A.units+16*k+200<cLine
theorem Room.mono {j k:Nat}{A:Ae}(r:Room k A)(h:j<=k):Room j A:=⟨r.hd,by have:=r.dp;lia,by have:=r.un;lia⟩
theorem Room.deeper {k:Nat}{A:Ae}(r:Room (k+1) A)(env:Env):Room k (A.deeper env) :=
 ⟨r.hd,by have:=r.dp;show A.depth+1+3*k+5<_;lia,by have:=r.un;show A.units+3+16*k+200<_;lia⟩
theorem wz3 {A:Ae}{C:Aj}{us:List Ag}{kw:List (Str×Ag)}:(A.under (.builtin "type.__call__" ⟨.ref C::us,kw⟩)).depth=A.depth+1:=by
 first | rfl | simp[Around.under,Code.weight,Code.isCreation,Code.isGuard,Code.isCaller,Code.frames,Code.isFrame,guardIds]
theorem wvp {A:Ae}{C:Aj}{us:List Ag}{kw:List (Str×Ag)}:(A.under (.builtin "type.__call__" ⟨.ref C::us,kw⟩)).units=A.units+1:=by
 first | rfl | simp[Around.under,Code.cUnits,Code.frames,Code.isFrame]
theorem Room.make {k:Nat}{A:Ae}(r:Room (k+1) A)(C:Aj)(us:List Ag)(kw:List (Str×Ag)):Room k (A.under (.builtin "type.__call__" ⟨.ref C::us,kw⟩)) :=
 ⟨r.hd,by have:=r.dp;rw[wz3];lia,by have:=r.un;rw[wvp];lia⟩
theorem Room.depth {k:Nat}{A:Ae}(r:Room k A):A.depth<recursionLimit:=by have:=r.dp;lia
theorem Room.units {k:Nat}{A:Ae}(r:Room k A):A.units+64<cLine:=by have:=r.un;lia
theorem Room.units0 {k:Nat}{A:Ae}(r:Room k A):A.units<cLine:=by have:=r.un;lia
def y0:TA:=λ_ H Q=>Q [] H
def jv (ta:TE)(tr:TA):TA:=λσ H Q=>ta σ H λx H1=>tr σ H1 λxs H2=>Q (x::xs) H2
section
variable {X:Cx}{e:Expr}{es:List Expr}{te:TE}{t:TA}{pos:Pos}
theorem qk:PA X [] y0:=λ_ _ _ _ H Q I h=>dv ⟨[],H,I,.nil,h⟩
theorem x8 (ha:PE X e te)(hr:PA X es t)(hs:autoParam (starEach (e::es) X.env=(false,eval e X.env)::starEach es X.env) aU4._auto_1):PA X (e::es) (jv te t):=by intro pos pins s σ H Q I h;rw[hs];show wpAny _ _ (spliced ((false,eval e X.env)::backTo pos (starEach es X.env))) _ _ s;refine cF (thn (ha pins s σ H _ I h) λu s1 ⟨x,H1,I1,r1,q1⟩=>?_);exact thn (hr pos pins s1 σ H1 _ I1 q1) λus s2 ⟨xs,H2,I2,r2,q2⟩=>⟨x::xs,H2,I2,.cons r1 r2,q2⟩
def tTup (t:TA):TE:=λσ H Q=>t σ H λxs H1=>xs.length<=sizeLine/\∀p,H1 p=none->Q (.ref p) (upd H1 p (.tup xs))
def tLst (t:TA):TE:=λσ H Q=>t σ H λxs H1=>xs.length<=sizeLine/\∀p,H1 p=none->Q (.ref p) (upd H1 p (.lst xs))
theorem zk {x1}(h:PA X es t):PE X (.Tuple es x1 pos) (tTup t):=by intro pins s σ H Q I F;refine wpAny_Tuple_spliced (thn (h pos pins s σ H _ I F) λus s1 ⟨xs,H1,I1,r,z,q⟩=>⟨by rw[<-r.length];exact z,?_⟩);have G:H1 s1.heap.objs.size=none:=I1.hok.fresh (al _);refine⟨.ref s1.heap.objs.size,upd H1 s1.heap.objs.size (.tup xs),I1.laid (t':=s1.toks) (λb u e=>ai _ e) (al _) ?_,rfl,q _ G⟩;exact⟨z,us,r,⟨_,ax _ rfl,rfl,_,rfl⟩⟩
theorem yj (h:PA X es t):PE X (.List es pos) (tLst t):=by intro pins s σ H Q I F;refine wpAny_List_spliced (thn (h pos pins s σ H _ I F) λus s1 ⟨xs,H1,I1,r,z,q⟩=>⟨by rw[<-r.length];exact z,?_⟩);have G:H1 s1.heap.objs.size=none:=I1.hok.fresh (al _);refine⟨.ref s1.heap.objs.size,upd H1 s1.heap.objs.size (.lst xs),I1.laid (t':=s1.toks) (λb u e=>ai _ e) (al _) ?_,rfl,q _ G⟩;exact⟨z,us,0,r,ax _ rfl⟩
end
abbrev Sp:=List V->Hp->VK->XK->Prop
abbrev CXT:=List Env->Hp->Ab->XK->Ag->Ab->Prop
structure Env0 (P:Ac)(w:Ah)(K:Aa)(mg:Str->Option Ag)(base:Heap)(A:Ae)(outer:List Env)(s:Ab)(H:Hp):Prop where
 frames:A.frames=some outer
 mod:Mod K mg base
 bs:∀b o,base.get? b=some o->s.heap.get? b=some o/\H b=none
 bsz:base.objs.size<=s.heap.objs.size
 funs:s.heap.FunFrames base outer
 frf:∀b∈frs outer,H b=none
 hok:HOk P w H s.heap
 bare:AllBare s.gens
def CE (outer:List Env)(P:Ac)(w:Ah)(H:Hp)(s:Ab)(Q:VK)(u:Ag)(s':Ab):Prop :=
 ∃v H',s'.os=s.os/\AllBare s'.gens/\Un (frs outer) [] H H' s.heap s'.heap/\HOk P w H' s'.heap/\RelV v u/\Q v H'
def CR (CX:CXT)(outer:List Env)(P:Ac)(w:Ah)(H:Hp)(s:Ab)(Q:VK)(E:XK)(r:Result)(s':Ab):Prop :=
 match r with
 |.ok (.ret u)=>CE outer P w H s Q u s'
 |.ok _=>False
 |.error e=>CX outer H s E e s'
structure FnOk (P:Ac)(w:Ah)(K:Aa)(mg:Str->Option Ag)(base:Heap)(CX:CXT)(k:Nat)(f:Aj)(fd:Ad)(ps:List Str)(sp:Sp):Prop where
 len:∀vs H Q E,sp vs H Q E->vs.length=ps.length
 run:∀(A:Ae) (outer:List Env) (s:Ab) (H:Hp) (args:Args) (us:List Ag) (vs:List V) (Q:VK) (E:XK),Room k A->↑Env0 A outer s H->BindsTo s fd args (ps.zip us)->Vals vs us->sp vs H Q E ->
  codeAny (model P w) A (.call (.ref f) args) (CR CX outer P w H s Q E) s
theorem FnOk.imp {P:Ac}{w:Ah}{K:Aa}{mg:Str->Option Ag}{base:Heap}{CX:CXT}{k:Nat}{f:Aj}{fd:Ad}{ps:List Str}{sp sp':Sp}(F:↑FnOk CX k f fd ps sp)(h:∀vs H Q E,sp' vs H Q E->sp vs H Q E):↑FnOk CX k f fd ps sp' :=
 ⟨λvs H Q E q=>F.len vs H Q E (h _ _ _ _ q),λA outer s H args us vs Q E hr he hb hv hs=>F.run A outer s H args us vs Q E hr he hb hv (h _ _ _ _ hs)⟩
theorem Env0.make {P:Ac}{w:Ah}{K:Aa}{mg:Str->Option Ag}{base:Heap}{A:Ae}{outer:List Env}{s:Ab}{H:Hp}(e:↑Env0 A outer s H)(C:Aj)(us:List Ag)(kw:List (Str×Ag)) :
  ↑Env0 (A.under (.builtin "type.__call__" ⟨.ref C::us,kw⟩)) outer s H:=⟨by first | exact e.frames | (simpa [Around.under,Code.envs,Code.isFrame,pushEnvs] using e.frames),e.mod,e.bs,e.bsz,e.funs,e.frf,e.hok,e.bare⟩
section
variable {X:Cx}{pins:List (Aj×Obj)}{σ:St}{H:Hp}{s s':Ab}
theorem Inv.env0 (I:Inv X pins σ H s):Env0 X.prog X.w X.K X.mg X.base X.A X.stack s H :=
 ⟨I.ok.frames,I.ok.mod,I.bs,bB I.ok.bsz I.sz,I.stack,I.stkFree,I.hok,I.bare⟩
theorem Inv.after {Q:VK}{u:Ag}(I:Inv X pins σ H s)(h:CE X.stack X.prog X.w H s Q u s'):EP X pins σ Q u s':=by obtain⟨v,H',J,S,F,L,r,q⟩:=h;obtain⟨O,g,d,t,G⟩:=s';obtain rfl:G=s.os:=J;exact⟨v,H',I.call (h':=O) (g':=g) (d':=d) (t':=t) (ch:=[]) F L S (λb z=>absurd z (by simp)),r,q⟩
end
def Binds (K:Aa)(fd:Ad)(ps:List Str)(ds:List Ag):Prop :=
 ∀(s:Ab) (us:List Ag),K.In s.heap->(us++ds).length=ps.length->BindsTo s fd ⟨us,[]⟩ (ps.zip (us++ds))
theorem Binds.all {K:Aa}{fd:Ad}{ps:List Str}(h:∀us:List Ag,us.length=ps.length->bindArgs fd ⟨us,[]⟩=pure (ps.zip us)):Binds K fd ps []:=λs us _ hl=>by rw[cO]at hl ⊢;exact .of_eq (h us hl)
section
variable {X:Cx}{CX:CXT}{k:Nat}{f C:Aj}{fd:Ad}{ps:List Str}{sp:Sp}{dvs:List V}{ds:List Ag}{E:XK}{x m:Str}{p pos apos:Pos}{e o:Expr}{es:List Expr}{ta:TE}{t:TA}
structure Mk (K:Aa)(C f:Aj):Prop where
 makes:W.makesIn K C=true
 init:W.findIn K (.ref C) "__init__" = some (some (.ref f))
 fn:W.isFn K (.ref f)=true
 kp:W.keepIn K (.ref C)=true
end
section
variable {X:Cx}{CX:CXT}{k:Nat}{f C:Aj}{fd:Ad}{ps ks:List Str}{sp:Sp}{E:XK}{x m:Str}{p pos apos kpos:Pos}{e o:Expr}{es:List Expr}{kws:List Keyword}{te ta:TE}{t tk:TA}{nm:Option Str}
structure KBinds (K:Aa)(fd:Ad)(ps ks:List Str)(g:List Ag->List Ag->List Ag)(gV:List V->List V->List V):Prop where
 to:∀(s:Ab) (us ws:List Ag),K.In s.heap->(g us ws).length=ps.length->BindsTo s fd ⟨us,ks.zip ws⟩ (ps.zip (g us ws))
 rel:∀ {vs:List V} {us:List Ag} {zs:List V} {ws:List Ag},Vals vs us->Vals zs ws->Vals (gV vs zs) (g us ws)
variable {g:List Ag->List Ag->List Ag}{gV:List V->List V->List V}
end
structure FnScope (N P:List Str)(sc:Scope):Prop where
 kind:sc.kind=.function
 co:sc.isCoroutine=false
 gen:sc.isGenerator=false
 nd:N.Nodup
 pre:N.take P.length=P
 par:∀x∈P,sc.names.lookup x=some .local\/sc.names.lookup x=some .cell
 nofree:∀y∈sc.names,y.2≠.free
theorem qjp {kindOf:Str->Option NameKind}{x:Str}:∀ {binds:List (Str×Ag)} {m:Str->Option Ag},(∀v,(x,v)∉binds)->bindL kindOf binds m x=m x
 |[],_,_=>rfl
 |(n,v)::r,m,h=>by
  unfold bindL;rw[qjp λw hw=>h w (ay _ hw)];split
  .have:x≠n:=by rintro rfl;exact h v aw
   simp[this]
  .rfl
theorem qk8 {kindOf:Str->Option NameKind}{x:Str}:∀ {binds:List (Str×Ag)} {m:Str->Option Ag},(∀v,(x,v)∉binds)->bindC kindOf binds m x=m x
 |[],_,_=>rfl
 |(n,v)::r,m,h=>by
  unfold bindC;rw[qk8 λw hw=>h w (ay _ hw)];split
  .rfl
  .have:x≠n:=by rintro rfl;exact h v aw
   simp[this]
theorem qj0 {kindOf:Str->Option NameKind}{x:Str}{v:Ag}:∀ {P:List Str} {vs:List Ag} {i:Nat} {m:Str->Option Ag},P.Nodup->P[i]?=some x->vs[i]?=some v->kindOf x=some .local ->
  bindL kindOf (P.zip vs) m x=some v
 |[],_,_,_,_,h,_,_=>by simp at h
 |_::_,[],_,_,_,_,h,_=>by simp at h
 |p::P,w::vs,0,m,nd,h1,h2,hk=>by simp at h1 h2;subst h1;subst h2;show bindL kindOf ((p,w)::P.zip vs) m p=_;unfold bindL;rw[qjp λv hv=>(bc.mp nd).1 (gl hv).1,ak hk];simp
 |p::P,w::vs,i+1,m,nd,h1,h2,hk=>by show bindL kindOf ((p,w)::P.zip vs) m x=_;unfold bindL;exact qj0 (i:=i) (bc.mp nd).2 (by simpa using h1) (by simpa using h2) hk
theorem qjs {kindOf:Str->Option NameKind}{x:Str}{v:Ag}:∀ {P:List Str} {vs:List Ag} {i:Nat} {m:Str->Option Ag},P.Nodup->P[i]?=some x->vs[i]?=some v->kindOf x≠some .local ->
  bindC kindOf (P.zip vs) m x=some v
 |[],_,_,_,_,h,_,_=>by simp at h
 |_::_,[],_,_,_,_,h,_=>by simp at h
 |p::P,w::vs,0,m,nd,h1,h2,hk=>by simp at h1 h2;subst h1;subst h2;show bindC kindOf ((p,w)::P.zip vs) m p=_;unfold bindC;rw[qk8 λv hv=>(bc.mp nd).1 (gl hv).1,ag hk];simp
 |p::P,w::vs,i+1,m,nd,h1,h2,hk=>by show bindC kindOf ((p,w)::P.zip vs) m x=_;unfold bindC;exact qjs (i:=i) (bc.mp nd).2 (by simpa using h1) (by simpa using h2) hk
def Y4 (N:List Str)(vs:List V):St:=vs.map some++List.replicate (N.length-vs.length) none
def yf (CX:CXT)(P:Ac)(w:Ah)(K:Aa)(mg:Str->Option Ag)(base:Heap)(N:List Str)(qual:Str)(scope:Scope)(f:Aj)(cd:Ag)(A:Ae)(outer:List Env)(s:Ab)(H:Hp)(E:XK):Cx where
 prog:=P
 w:=w
 K:=K
 mg:=mg
 base:=base
 A:=A.deeper (envOfC qual scope s.heap.objs.size f cd)
 N:=N
 s₀:=s
 H₀:=H
 env:=envOfC qual scope s.heap.objs.size f cd
 outer:=outer
 stack:=envOfC qual scope s.heap.objs.size f cd::outer
 ex:=[]
 calm:=true
 fn:=λ_=>true
 pn:=[]
 xe:=λe s'=>wpAny (model P w) (A.deeper (envOfC qual scope s.heap.objs.size f cd)) (leaving (envOfC qual scope s.heap.objs.size f cd) e) (λ_ s''=>CX outer H s E e s'') (λe' s''=>CX outer H s E e' s'') s'
theorem wq6 {sc:Scope}{n:Nat}{x:Str}(h:sc.names.lookup x=some .cell):∃c,(cellsFrom n sc.names []).lookup x=some c:=by have q:=W.cellsFrom_some sc.names n [] (.inl h);exact az.mp q
theorem wy7 {CX:CXT}{P:Ac}{w:Ah}{K:Aa}{mg:Str->Option Ag}{base:Heap}{N ps:List Str}{qual:Str}{scope:Scope}{f:Aj}{cd:Ag}{A:Ae}{outer:List Env}{s s1:Ab}{H:Hp}{E:XK}{us:List Ag}{vs:List V}
  (S:FnScope N ps scope) (hd:A.handled=none) (e0:↑Env0 A outer s H) (hl:vs.length=ps.length) (r:Vals vs us)(x:InCallC s s.heap.objs.size (bindL (envOfC qual scope s.heap.objs.size f cd).kindOf (ps.zip us) λ_=>none) (cellsFrom (s.heap.objs.size+1) scope.names []) (bindC (envOfC qual scope s.heap.objs.size f cd).kindOf (ps.zip us) λ_=>none) s1) :
  Inv (yf CX P w K mg base N qual scope f cd A outer s H E) [] (Y4 N vs) H s1:=by
 have ab:ps.length<=N.length:=by have:=bu List.length S.pre;rw[bG]at this;lia
 obtain⟨h1,tk,rfl,O⟩:=x.done;have I:∀b:Aj,b∉(yf CX P w K mg base N qual scope f cd A outer s H E).ex:=λb z=>absurd (show b∈([]:List Aj) from z) (by simp);refine⟨⟨e0.mod,S.kind,rfl,rfl,al _,λy z c h1 h2=>?_,λy F=>?_,λy c _ h=>?_,λ_=>hd,Around.frames_deeper e0.frames,.inr ⟨rfl,rfl⟩,λb z=>absurd z (I b),e0.bs,e0.bsz,λb _ _=>I b,λb z=>absurd z (I b),e0.funs,e0.frf⟩,
  rfl,e0.bare,Un.kept O,⟨_,x.toInCall.ns,λi y v h1 h2 h3=>?_⟩,λy c h=>⟨_,x.cell y c h⟩,e0.hok.fresh (al _),λy c h=>?_,λp G=>absurd (show p∈([]:List (Aj×Obj)) from G) (by simp),e0.hok.kept O,?_⟩
 .exact name_of_addr x.apart (cU h1) (cU h2)
 .have F:scope.names.lookup y=some .cell\/scope.names.lookup y=some .free:=F;rcases F with F|F
  .exact wq6 F
  .exact absurd rfl (S.nofree _ (cU F))
 .exact bK (x.above y c (cU h))
 .have hi:i<vs.length:=by
   unfold Y4 at h2;by_cases hi:i<vs.length
   .exact hi
   .rw[bi (by simpa using hi)]at h2;rw[List.getElem?_replicate]at h2;split at h2 <;> cases h2
  have Z:vs[i]?=some v:=by
   unfold Y4 at h2;rw[bz (by simpa using hi),aB]at h2;cases e:vs[i]? with
   |none=>rw[e]at h2;cases h2
   |some a=>rw[e]at h2;cases h2;rfl
  obtain⟨u,L,U⟩:=r.get Z;have G:ps[i]?=some y:=by rw[<-S.pre,List.getElem?_take_of_lt ⋯];exact h1
  have J:ps.Nodup:=by rw[<-S.pre];exact S.nd.sublist (fH _ _)
  refine⟨u,U,?_⟩;rcases S.par y (aK G) with k|k
  .exact .inl ⟨k,qj0 J G L k⟩
  .obtain⟨c,e⟩:=wq6 (n:=s.heap.objs.size+1) k;refine .inr ⟨.inl k,c,e,?_⟩;have q:=x.cell y c e;rw[qjs J G L (by show scope.names.lookup y≠_;rw[k];decide)]at q;exact q
 .exact e0.hok.fresh (bK (x.above y c (cU h)))
 .unfold Y4;show _=N.length;rw[aE,aa,List.length_replicate];lia
theorem fn_of {CX:CXT}{P:Ac}{w:Ah}{K:Aa}{mg:Str->Option Ag}{base:Heap}{k:Nat}{f:Aj}{name qual:Str}{params:Arguments}{body:List Stmt}{scope:Scope}{dV kV doc pm cdv ct oc:Ag}{an od:Option Aj}
  {osl:Array (Option Ag)} {N ps:List Str} {sp:Sp} (lk:K.lookup f=some ⟨oc,od,.func (W.fnOf name qual params body scope dV kV doc pm an cdv ct),osl⟩) (hcd:W.codeIn K cdv qual=true) (S:FnScope N ps scope)(len:∀vs H Q E,sp vs H Q E->vs.length=ps.length)(hbody:∀(A:Ae) (outer:List Env) (s:Ab) (H:Hp) (vs:List V) (Q:VK) (E:XK),Room k (A.deeper (envOfC qual scope s.heap.objs.size f cdv))->sp vs H Q E ->
   ∃t,PSs (yf CX P w K mg base N qual scope f cdv A outer s H E) body t/\t { nx:=λ_ H'=>Q .non H',rt:=Q } (Y4 N vs) H) :
  ↑FnOk CX (k+1) f (W.fnOf name qual params body scope dV kV doc pm an cdv ct) ps sp:=by
 refine⟨len,λA outer s H a0 us vs Q E O F hb r Z=>?_⟩;have hl:=len _ _ _ _ Z;have KX:K.In s.heap:=F.mod.kin.keeps λb o e=>(F.bs b o e).1;have ad:s.heap.NoLimit:=F.mod.nolimit.keeps λb o e=>(F.bs b o e).1;have ah:∀y∈ps.zip us,scope.names.lookup y.1=some .local\/(scope.names.lookup y.1=some .cell/\((cellsFrom (s.heap.objs.size+1) scope.names []).lookup y.1).isSome=true):=λ⟨n,v⟩ hy=>by
  rcases S.par n (gl hy).1 with q|q
  .exact .inl q
  .exact .inr ⟨q,W.cellsFrom_some _ _ _ (.inl q)⟩
 refine codeAny_call_function O.depth (KX _ _ lk) rfl S.co S.gen rfl (W.codeRec_of KX hcd) (hb _ _ _ _ ?_);refine wpAny_newFunctionEnv_cells S.kind ah λap he U x=>?_;subst he;refine⟨ad.keeps x.toInCall.keep,codeAny_func ?_⟩;obtain⟨t,ht,hq⟩:=hbody A outer s H vs Q E (O.deeper _) Z;have I:Inv (yf CX P w K mg base N qual scope f cdv A outer s H E) [] (Y4 N vs) H U:=wy7 S O.hd F hl r x;refine bh (ht [] U (Y4 N vs) H _ I hq) (λfl s' hs=>?_) λe s' hs=>hs;have ab:∀ {G:St} {H':Hp} {v:V} {u:Ag},Inv (yf CX P w K mg base N qual scope f cdv A outer s H E) [] G H' s'->RelV v u->Q v H'->CE outer P w H s Q u s' :=
  λ{G H' v u} J L q=>⟨v,H',J.os,J.bare,J.base,J.hok,L,q⟩
 cases fl with
 |ret u =>
  obtain⟨v,G,H',J,L,q⟩:=hs;exact ab J L q
 |next =>
  obtain⟨G,H',J,q⟩:=hs;exact ab (v:=V.non) (u:=Value.none) J rfl q
 |brk =>
  obtain⟨_,_,_,q⟩:=hs;exact False.elim q
 |cont =>
  obtain⟨_,_,_,q⟩:=hs;exact False.elim q
section
variable {X:Cx}{x:Str}{p pos:Pos}{e:Expr}{es:List Expr}{t:TA}{id T:String}{r:List V->Hp->VK->Prop}
def tCB (r:List V->Hp->VK->Prop)(t:TA):TE:=λσ H Q=>t σ H λvs H1=>r vs H1 Q
theorem xh (hc:j9 X (.builtin id) r)(hg:Gl X x)(hm:X.mg x=none)(hv:bootBuiltins x=some (.builtin id))(ha:PA X (e::es) t)(hn:autoParam (x ≠ "__name__") aU2._auto_1)(hdb:autoParam ((x==("__debug__" : Str))=false) aU1._auto_1)(he:autoParam (starEach (e::es) X.env=(false,eval e X.env)::starEach es X.env) aU4._auto_1) (hpl:autoParam ((backTo pos (starEach es X.env)).any (·.1)=false) aU4._auto_1):PE X (.Call (.Name x p) (e::es) [] pos) (tCB r t):=by
 intro pins s σ H Q I h;refine dc (wqy I hg hm hv ?_ hn hdb);exact PyProof.Rows.callWith_builtin1 (thn (ha pos pins s σ H _ I h) λus s1 ⟨vs,H1,I1,r1,q1⟩=>hc pins s1 σ H1 vs us Q I1 r1 q1) he hpl
theorem vb (hc:j9 X (.type T) r)(hg:Gl X x)(hm:X.mg x=none)(hv:bootBuiltins x=some (.type T))(ha:PA X (e::es) t)(hn:autoParam (x ≠ "__name__") aU2._auto_1)(hdb:autoParam ((x==("__debug__" : Str))=false) aU1._auto_1)(he:autoParam (starEach (e::es) X.env=(false,eval e X.env)::starEach es X.env) aU4._auto_1) (hpl:autoParam ((backTo pos (starEach es X.env)).any (·.1)=false) aU4._auto_1):PE X (.Call (.Name x p) (e::es) [] pos) (tCB r t):=by
 intro pins s σ H Q I h;refine dc (wqy I hg hm hv ?_ hn hdb);exact du (thn (ha pos pins s σ H _ I h) λus s1 ⟨vs,H1,I1,r1,q1⟩=>hc pins s1 σ H1 vs us Q I1 r1 q1) he hpl
end
end L2
namespace HT
open PySem PyProof.Rows
section
open PySem.SeqAt
open PySem.AutoSeq1 (wpAny_loadPart')
open PySem.MeetsSeq PySem.MeetsSeq2 PySem.MeetsSeq3
end
section
variable {prog:Ac}{w:Ah}{A:Ae}{E:Ag->Ab->Prop}{s:Ab}
def sIx (n d:Nat):Option Int->Nat
 |none=>d
 |some v=>if v<0 then(v+(n:Int)).toNat else min v.toNat n
theorem sIx_none (n d:Nat):sIx n d none=d:=rfl
end
end HT
namespace L2
open PySem PySem.Spec PyProof.Rows
abbrev TO:=St->Hp->(Option Int->Hp->Prop)->Prop
def PO (X:Cx)(e:Option Expr)(t:TO):Prop :=
 ∀(pins:List (Aj×Obj)) (s:Ab) (σ:St) (H:Hp) (Q:Option Int->Hp->Prop),Inv X pins σ H s->t σ H Q ->
  wpAny ↑[X] X.A (evalPart e X.env) (λu s'=>∃o H',Inv X pins σ H' s'/\IsPart u o/\Q o H') X.xe s
def xvx:TO:=λ_ H Q=>Q none H
def tPart (t:TE):TO:=λσ H Q=>t σ H λx H1=>∃i,x=.int i/\Q (some i) H1
theorem wz6 {ns:List Int}:∀ {us:List Ag},Vals (ns.map V.int) us->IntsAre us ns:=by
 induction ns with
 |nil=>intro us r;rw[cA]at r;cases r;exact .nil
 |cons n ns ih =>
  intro us r;rw[aH]at r;cases r with
  |cons r1 r2 =>
   obtain⟨t,e⟩:=r1;subst e;exact .cons n t (ih r2)
section
variable {X:Cx}{e:Expr}{te:TE}{lo hi:Option Expr}{tl th:TO}{pos p2:Pos}
theorem qw5:PO X none xvx:=by intro pins s σ H Q I h;rw[evalPart_none];exact aq ⟨none,H,I,.none,h⟩
theorem qwp (h:PE X e te):PO X (some e) (tPart te):=by intro pins s σ H Q I F;rw[evalPart_some];refine thn (h pins s σ H _ I F) λu s1 ⟨x,H1,I1,r1,q1⟩=>?_;obtain⟨i,rfl,q⟩:=q1;obtain⟨t,rfl⟩:=r1;exact⟨some i,H1,I1,.int i t,q⟩
def SlR (X:Cx)(r:V->Option Int->Option Int->Hp->VK->Prop):Prop :=
 ∀(pins:List (Aj×Obj)) (s:Ab) (σ:St) (H:Hp) (x:V) (v vl vu:Ag) (lo hi:Option Int) (sl:Aj) (Q:VK),Inv X pins σ H s->RelV x v->s.heap.IsSliceOf sl vl vu .none->IsPart vl lo->IsPart vu hi->r x lo hi H Q ->
  ∃T id,typeLookup (.type T) "__getitem__" = pure (some (.builtin id))/\s.TypeIs v T/\wpAny ↑[X] X.A (getItem v (.ref sl)) (EP X pins σ Q) X.xe s
def tSl (r:V->Option Int->Option Int->Hp->VK->Prop)(te:TE)(tl th:TO):TE:=λσ H Q=>te σ H λx H1=>tl σ H1 λl H2=>th σ H2 λu H3=>r x l u H3 Q
theorem Y3 {r:V->Option Int->Option Int->Hp->VK->Prop}(hr:SlR X r)(he:PE X e te)(hl:PO X lo tl)(hu:PO X hi th):PE X (.Subscript e (.Slice lo hi none p2) pos) (tSl r te tl th):=by intro pins s σ H Q I h;refine Subscript_ (thn (he pins s σ H _ I h) λv s1 ζ=>?_);obtain⟨x,H1,I1,r1,q1⟩:=ζ;refine wpAny_Slice (thn (hl pins s1 σ H1 _ I1 q1) λvl s2 ζ=>?_);obtain⟨l,H2,I2,pl,q2⟩:=ζ;refine thn (hu pins s2 σ H2 _ I2 q2) λvu s3 ζ=>?_;obtain⟨u,H3,I3,pu,q3⟩:=ζ;rw[evalPart_none];refine aq ?_;have L:Inv X pins σ H3 { s3 with heap:=s3.heap.push { cls:=.type "slice",data:=.fields #[vl,vu,.none] } }:=I3.kept (t':=s3.toks) λb O q=>ai _ q;obtain⟨T,id,J,F,G⟩:=hr pins { s3 with heap:=s3.heap.push { cls:=.type "slice",data:=.fields #[vl,vu,.none] } } σ H3 x v vl vu l u s3.heap.objs.size Q L r1 (Heap.IsSliceOf.new ..) pl pu q3;show wpAny ↑[X] X.A (subscriptTail e (.Slice lo hi none p2) v (.ref s3.heap.objs.size)) (EP X pins σ Q) X.xe { s3 with heap:=s3.heap.push { cls:=.type "slice",data:=.fields #[vl,vu,.none] } };exact tail_any (ops:=[.ref s3.heap.objs.size,v]) F J G (by with_unfolding_all rfl)
def qz7 (xs:List V)(lo hi:Option Int):List V:=(xs.drop (HT.sIx xs.length 0 lo)).take (HT.sIx xs.length xs.length hi-HT.sIx xs.length 0 lo)
theorem wwt (xs:List V)(lo hi:Option Int):(qz7 xs lo hi).length<=xs.length:=by unfold qz7;rw[bG,List.length_drop];lia
end
def ixN (n:Nat)(i:Int):Option Nat:=if 0<=i then(if i<n then some i.toNat else none) else if -(n:Int)<=i then some (i+n).toNat else none
def atI {α:Type}(xs:List α)(i:Int):Option α:=(ixN xs.length i).bind λj=>xs[j]?
theorem wjz {n:Nat}{i:Int}{j:Nat}(h:ixN n i=some j):seqIndex? i n=some j/\j<n/\-(n:Int)<=i/\i<n:=by
 unfold ixN at h;by_cases h0:0<=i
 .rw[ak h0]at h;by_cases h1:i<n
  .rw[ak h1]at h;have e:i.toNat=j:=au h;exact⟨by rw[seqIndex_of h0 h1,e],⋯,⋯,h1⟩
  .rw[ag h1]at h;cases h
 .rw[ag h0]at h;by_cases h1:-(n:Int)<=i
  .rw[ak h1]at h;have e:(i+n).toNat=j:=au h;exact⟨by rw[seqIndex_neg ⋯ h1,e],⋯,h1,⋯⟩
  .rw[ag h1]at h;cases h
theorem quj {α:Type}{xs:List α}{i:Int}{v:α}(h:atI xs i=some v):∃j,seqIndex? i xs.length=some j/\xs[j]?=some v/\j<xs.length/\-(xs.length:Int)<=i/\i<xs.length:=by
 unfold atI at h;cases e:ixN xs.length i with
 |none=>rw[e]at h;cases h
 |some j =>
  rw[e]at h;obtain⟨h1,h2,G,F⟩:=wjz e;exact⟨j,h1,h,h2,G,F⟩
theorem uw {α:Type}{xs:List α}{j:Nat}{v:α}(h:xs[j]?=some v):atI xs (j:Int)=some v:=by
 have F:j<xs.length:=(aI.mp h).1;have e:ixN xs.length (j:Int)=some j:=by unfold ixN;rw[ak ⋯,ak ⋯];simp
 unfold atI;rw[e];exact h
def xzb (b:Expr):Prop:=∀o i,subscripted b false o i=operate [o,i] (getItem o i)
def IxR (X:Cx)(r:R2):Prop :=
 ∀(value slice:Expr) (pins:List (Aj×Obj)) (s:Ab) (σ:St) (H:Hp) (x y:V) (v u:Ag) (Q:VK),Inv X pins σ H s->RelV x v->RelV y u->r x y H Q ->
  subscripted slice false v u=operate [v,u] (getItem v u)->wpAny ↑[X] X.A (subscriptTail value slice v u) (EP X pins σ Q) X.xe s
def MtR (X:Cx)(id:String)(r:V->List V->Hp->VK->Prop):Prop :=
 ∀(pins:List (Aj×Obj)) (s:Ab) (σ:St) (H:Hp) (x:V) (xs:List V) (v:Ag) (us:List Ag) (Q:VK),Inv X pins σ H s->RelV x v->Vals xs us->r x xs H Q ->
  wpAny ↑[X] X.A (call (.builtin id) (v::us)) (EP X pins σ Q) X.xe s
section
variable {X:Cx}{a b:Expr}{ta tb:TE}{pos:Pos}
theorem xj {r:R2}(hr:IxR X r)(ha:PE X a ta)(hb:PE X b tb)(hs:xzb b):PE X (.Subscript a b pos) (tOp r ta tb):=by intro pins s σ H Q I h;exact Subscript_ (binT ha hb I h λv u s2 x y H2 J G F q=>hr a b pins s2 σ H2 x y v u Q J G F q (hs _ _))
def rIxL (K:Aa):R2:=λx y H Q=>∃p xs i v,x=.ref p/\y=.int i/\SqL K H p xs/\atI xs i=some v/\Q v H
def wqt (K:Aa):R2:=λx y H Q=>∃p xs i v,x=.ref p/\y=.int i/\SqT K H p xs/\atI xs i=some v/\Q v H
def rIxS:R2:=λx y H Q=>∃z i c,x=.str z/\y=.int i/\z.length<=sizeLine/\atI z.cps.toList i=some c/\Q (.str ⟨#[c]⟩) H
theorem zt:IxR X (rIxL X.K):=by
 intro value ab pins s σ H x y v u Q I S O h hs;obtain⟨p,xs,i,z,rfl,rfl,hq,he,q⟩:=h;cases S;obtain⟨t,rfl⟩:=O;obtain⟨Z,r,F,hz⟩:=I.list hq;obtain⟨j,h1,h2,h3,h4,h5⟩:=quj he;obtain⟨w,L,U⟩:=r.get h2;have hl:=r.length;have hn:=Z3;have J:EP X pins σ Q w s:=⟨z,H,I,U,q⟩;by_cases h0:0<=i
 .have G:i.toNat=j:=by rw[seqIndex_of h0 h5]at h1;exact au h1
  exact item_listR F.isList h0 ⋯ (by rw[G];simpa using L) J hs
 .have G:(i+(Z.toArray.size:Int)).toNat=j:=by rw[seqIndex_neg ⋯ h4]at h1;rw[aG,<-hl];exact au h1
  exact subscriptTail_builtinR (x:=w) F.isList.typeIs fI.lookup
   (wpAny_getItem_list_neg (Q:=λr s'=>r=w/\EP X pins σ Q r s') F.isList ⋯ (by rw[aG] <;> lia) ⋯ (by rw[G];simpa using L) ⟨rfl,J⟩) hs
theorem xk:IxR X (wqt X.K):=by
 intro value ab pins s σ H x y v u Q I J G h hs;obtain⟨p,xs,i,z,rfl,rfl,O,U,q⟩:=h;cases J;obtain⟨t,rfl⟩:=G;obtain⟨ad,r,F,hz⟩:=I.tuple O;obtain⟨j,h1,h2,h3,h4,h5⟩:=quj U;obtain⟨w,ew,L⟩:=r.get h2;have S:=r.length;have hn:=Z3;have Z:EP X pins σ Q w s:=⟨z,H,I,L,q⟩;exact subscriptTail_builtinR (x:=w) F.typeIs slot_tuple_getitem.lookup
  (getItem_tuple (j:=j) (Q:=λr s'=>r=w/\EP X pins σ Q r s') F ⋯ ⋯ (by rw[aG,<-S];exact h1) (by simpa using ew) ⟨rfl,Z⟩) hs
theorem ix_str:IxR X rIxS:=by
 intro value ab pins s σ H x y v u Q I G F h hs;obtain⟨z,i,c,rfl,rfl,hz,L,q⟩:=h;obtain⟨t,rfl⟩:=G;obtain⟨t',rfl⟩:=F;obtain⟨j,h1,h2,h3,S,O⟩:=quj L;have J:z.cps.toList.length=z.length:=by simp[Str.length]
 rw[J]at h1 S O;have hn:=Z3;exact tail_any (fw s z t) slot_str_getitem.lookup (getItem_str (c:=c) (by
  have Z:decide (i < -(2 ^ 63:Int))=false:=be ⋯
  have U:decide (i>=2 ^ 63)=false:=be ⋯
  rw[Z,U,Bool.or_false]) (by rw[h1];simpa using h2) ⟨.str ⟨#[c]⟩,H,I.tok _,⟨_,rfl⟩,q⟩) hs
theorem wv6 (its:List Ag)(n j:Nat)(u:Ag):Obj.mapSeq (·.setIfInBounds j u) { cls:=.type "list",data:=.seq its.toArray n }={ cls:=.type "list",data:=.seq (its.set j u).toArray n }:=by simp[Obj.mapSeq]
theorem Inv.lst {pins:List (Aj×Obj)}{σ:St}{H:Hp}{s:Ab}{p:Aj}{xs:List V}(I:Inv X pins σ H s)(h:H p=some (.lst xs)) :
  ∃(its:List Ag) (n:Nat),Vals xs its/\s.heap.get? p=some { cls:=.type "list",data:=.seq its.toArray n }/\xs.length<=sizeLine:=by
 obtain⟨z,its,n,r,e⟩:=I.hok p _ h;exact⟨its,n,r,e,z⟩
theorem Inv.lstUpd {pins:List (Aj×Obj)}{σ:St}{H:Hp}{s:Ab}{p:Aj}{xs ys:List V}{its its':List Ag}{n n':Nat}{f:Obj->Obj}(I:Inv X pins σ H s)(h:H p=some (.lst xs))(ho:s.heap.get? p=some { cls:=.type "list",data:=.seq its.toArray n }) (hf:f { cls:=.type "list",data:=.seq its.toArray n }={ cls:=.type "list",data:=.seq its'.toArray n' }) (r:Vals ys its') (hz:ys.length<=sizeLine) (t:Nat) :
  Inv X pins σ (upd H p (.lst ys)) { s with heap:=s.heap.update p f,toks:=t }:=by
 have e:(s.heap.update p f).get? p=some { cls:=.type "list",data:=.seq its'.toArray n' }:=by rw[eA f ho (by rw[hf] <;> rfl),hf]
 refine I.write (x:=p) (e:=p) (by rw[h];trivial) (.inl rfl) (λb u F q=>(Heap.get?_update_other _ _ (aZ F)).trans q) ⟨_,e⟩ ?_;exact⟨hz,its',n',r,e⟩
def rSetL:V->V->V->Hp->(Hp->Prop)->Prop:=λo i v H Q=>∃p xs k j,o=.ref p/\i=.int k/\H p=some (.lst xs)/\ixN xs.length k=some j/\Q (upd H p (.lst (xs.set j v)))
theorem qx9:PSet X rSetL:=by
 intro pins s σ H o i v ov iv u Q I ro ri rv h;obtain⟨p,xs,k,j,rfl,rfl,O,hj,q⟩:=h;cases ro;obtain⟨t,rfl⟩:=ri;obtain⟨L,n,r,F,hz⟩:=I.lst O;obtain⟨h1,h2,U,S⟩:=wjz hj;have G:=r.length;have hn:=Z3;have Z:Inv X pins σ (upd H p (.lst (xs.set j v))) { s with heap:=s.heap.update p (Obj.mapSeq (·.setIfInBounds j u)) } :=
  I.lstUpd O F (wv6 L n j u) (r.set rv j) (by rw[cP];exact hz) s.toks
 by_cases h0:0<=k
 .have J:k.toNat=j:=by rw[seqIndex_of h0 S]at h1;exact au h1
  exact W.ki_setAt F h0 ⋯ (by rw[aG,<-G];exact S) (by rw[J];exact⟨_,Z,q⟩)
 .have J:(k+(L.toArray.size:Int)).toNat=j:=by rw[seqIndex_neg ⋯ U]at h1;rw[aG,<-G];exact au h1
  exact W.ki_setBack F ⋯ (by rw[aG,<-G];exact U) ⋯ (by rw[J];exact⟨_,Z,q⟩)
theorem qup (lo hi:Option Int)(n:Nat):(sliceBounds lo hi none n).1=((HT.sIx n 0 lo:Nat):Int)/\(sliceBounds lo hi none n).2.1=((HT.sIx n n hi:Nat):Int)/\(sliceBounds lo hi none n).2.2=1:=by
 refine⟨?_,?_,rfl⟩
 .cases lo with
  |none=>simp[sliceBounds,HT.sIx]
  |some i =>
   simp only[sliceBounds,HT.sIx,Option.getD_none,show(1:Int)>0 by decide,gi];by_cases h:i<0
   .simp only[h,gi] <;> lia
   .simp only[h,dQ] <;> lia
 .cases hi with
  |none=>simp[sliceBounds,HT.sIx]
  |some i =>
   simp only[sliceBounds,HT.sIx,Option.getD_none,show(1:Int)>0 by decide,gi];by_cases h:i<0
   .simp only[h,gi] <;> lia
   .simp only[h,dQ] <;> lia
theorem qkw (its:List Ag)(lo hi:Option Int):slicePick its.toArray lo hi none=((its.drop (HT.sIx its.length 0 lo)).take (HT.sIx its.length its.length hi-HT.sIx its.length 0 lo)).toArray:=by obtain⟨h1,h2,F⟩:=qup lo hi its.toArray.size;unfold slicePick;rw[h1,h2,F];simp only[sliceRange_one,pick_run,aG] <;> rfl
def rSlL (K:Aa):V->Option Int->Option Int->Hp->VK->Prop:=λx lo hi H Q=>∃a xs,x=.ref a/\SqL K H a xs/\∀p,H p=none->Q (.ref p) (upd H p (.lst (qz7 xs lo hi)))
theorem wjc:SlR X (rSlL X.K):=by intro pins s σ H x v vl Z lo hi sl Q I G hs L J h;obtain⟨a,xs,rfl,S,q⟩:=h;cases G;obtain⟨ab,r,F,O⟩:=I.list S;have U:=r.length;refine⟨"list",_,fI.lookup,F.isList.typeIs,?_⟩;refine wpAny_getItem_list_slice F.isList hs L J .none (by simp) ?_ (by rw[aG] <;> lia);rw[qkw,<-U];refine⟨.ref s.heap.objs.size,_,I.laid (t':=s.toks) (o:=.lst (qz7 xs lo hi)) (λb ob q=>ai _ q) (al _) ?_,rfl,q _ (I.hok.fresh (al _))⟩;exact⟨bB (wwt xs lo hi) O,_,0,(r.drop (HT.sIx xs.length 0 lo)).take (HT.sIx xs.length xs.length hi-HT.sIx xs.length 0 lo),ax _ rfl⟩
theorem x9:j9 X (.builtin "len") (λxs H Q=>∃p ys,xs=[.ref p]/\(SqL X.K H p ys\/SqT X.K H p ys)/\Q (.int ys.length) H):=by
 intro pins s σ H xs Z Q I r h;obtain⟨p,ys,rfl,F,q⟩:=h;obtain⟨u,rfl,O⟩:=uu r;cases O;have hn:=Z3;rcases F with F|F
 .obtain⟨S,G,J,U⟩:=I.list F;have L:=G.length;exact Calls.call_len_list J.isList (by simp only[aG] <;> lia) ⟨.int ys.length,H,I.tok _,⟨s.toks+1,by rw[aG,L]⟩,q⟩
 .obtain⟨S,G,J,U⟩:=I.tuple F;have L:=G.length;exact len_tuple J (by simp only[aG] <;> lia) ⟨.int ys.length,H,I.tok _,⟨s.toks+1,by rw[aG,L]⟩,q⟩
theorem jr:j9 X (.builtin "len") (λxs H Q=>∃z,xs=[.str z]/\z.length<=sizeLine/\Q (.int z.length) H):=by intro pins s σ H xs F Q I r h;obtain⟨z,rfl,G,q⟩:=h;obtain⟨u,rfl,t,rfl⟩:=uu r;have J:=Z3;exact len_str ⋯ ⟨.int z.length,H,I.tok _,⟨_,rfl⟩,q⟩
theorem jt:j9 X (.type "list") (λxs H Q=>∃p ys,xs=[.ref p]/\(SqL X.K H p ys\/SqT X.K H p ys)/\∀l,H l=none->Q (.ref l) (upd H l (.lst ys))):=by
 intro pins s σ H xs us Q I r h;obtain⟨p,ys,rfl,S,q⟩:=h;obtain⟨u,rfl,rx⟩:=uu r;cases rx;have ab:∀(F:List Ag),Vals ys F->ys.length<=sizeLine->∀(h':Heap) (J:Nat),(∀b o',s.heap.get? b=some o'->h'.get? b=some o') ->
   h'.get? s.heap.objs.size=some { cls:=.type "list",dict:=none,data:=.seq F.toArray J,slots:=#[] }->EP X pins σ Q (.ref s.heap.objs.size) { s with heap:=h' }:=λF G O h' J L e =>
  ⟨.ref s.heap.objs.size,_,I.laid (t':=s.toks) L (al _) (show ObjOk X.prog X.w _ h' _ (.lst ys) from ⟨O,F,J,G,e⟩),rfl,q _ (I.hok.fresh (al _))⟩
 rcases S with S|S
 .obtain⟨F,G,U,O⟩:=I.list S;have ad:=G.length;obtain⟨o,Z,hc,n,hd⟩:=U.isList;exact call_list_seq p (.inl rfl) Z hc hd (λh' J L e=>ab F G O h' J L e) (by simp only[aG] <;> lia)
 .obtain⟨F,G,U,O⟩:=I.tuple S;have ad:=G.length;obtain⟨o,Z,hc,n,hd⟩:=U;exact call_list_seq p (.inr rfl) Z hc hd (λh' J L e=>ab F G O h' J L e) (by simp only[aG] <;> lia)
def tyV (K:Aa)(T:String)(x:V)(H:Hp):Prop:=match x with
 |.str _=>T = "str"
 |.int _=>T = "int"
 |.ref p=>(T = "list" /\ ∃xs,SqL K H p xs)\/(T = "tuple" /\ ∃o,K.lookup p=some o/\o.cls=.type "tuple" /\ o.dict=none) \/
   (T = "dict" /\ ((∃kvs,H p=some (.dK kvs))\/∃kvs,H p=some (.dT kvs)))\/(T = "set" /\ ∃S n,H p=some (.set S n))
 |_=>False
theorem wub {pins:List (Aj×Obj)}{σ:St}{H:Hp}{s:Ab}{T:String}{x:V}{v:Ag}(I:Inv X pins σ H s)(r:RelV x v)(ty:tyV X.K T x H) :
  s.TypeIs v T/\∀a,v=.ref a->∃ob,s.heap.get? a=some ob/\ob.dict=none:=by
 cases x with
 |str z =>
  obtain⟨t,rfl⟩:=r;cases(show T = "str" from ty);exact⟨fw s z t,λ_ e=>nomatch e⟩
 |int i =>
  obtain⟨t,rfl⟩:=r;cases(show T = "int" from ty);exact⟨typeIs_int s i t,λ_ e=>nomatch e⟩
 |ref p =>
  cases r;rcases ty with⟨rfl,xs,O⟩|⟨rfl,o,F,U,G⟩|⟨rfl,F⟩|⟨rfl,S,n,F⟩
  .obtain⟨Z,_,L,_⟩:=I.list O;refine⟨L.isList.typeIs,λa e=>?_⟩;cases e;obtain⟨o,n,e,c,G,_⟩:=L;exact⟨o,e,G⟩
  .refine⟨⟨o,I.kIn p o F,U⟩,λa e=>?_⟩;cases e;exact⟨o,I.kIn _ o F,G⟩
  .have z:∃o,s.heap.get? p=some o/\o.ExactDict:=by
    rcases F with⟨kvs,F⟩|⟨kvs,F⟩
    .obtain⟨_,_,_,_,o,_,_,e,ex,_⟩:=I.hok p _ F;exact⟨o,e,ex⟩
    .obtain⟨_,_,_,_,o,_,_,e,ex,_⟩:=I.hok p _ F;exact⟨o,e,ex⟩
   obtain⟨o,e,ex⟩:=z;refine⟨⟨o,e,ex.1⟩,λa J=>?_⟩;cases J;exact⟨o,e,ex.2.1⟩
  .obtain⟨o,_,_,_,e,ex,_⟩:=I.hok p _ F;refine⟨⟨o,e,ex.1⟩,λa J=>?_⟩;cases J;exact⟨o,e,ex.2.1⟩
 |_=>exact False.elim ty
def tBM0 (K:Aa)(T:String)(r:V->List V->Hp->VK->Prop)(to:TE):TE:=λσ H Q=>to σ H λx H1=>tyV K T x H1/\r x [] H1 Q
def tBM (K:Aa)(T:String)(r:V->List V->Hp->VK->Prop)(to:TE)(t:TA):TE:=λσ H Q=>to σ H λx H1=>tyV K T x H1/\t σ H1 λxs H2=>r x xs H2 Q
variable {o e:Expr}{es:List Expr}{to:TE}{t:TA}{name:Str}{apos cpos:Pos}{T id:String}{r:V->List V->Hp->VK->Prop}
theorem wz0 (pa:PlainAttrs T)(slot:Slot T name id)(hty:typeOf (.builtin id)=pure (.type "method_descriptor"))(hm:MtR X id r)(ho:PE X o to)(hbase:autoParam (attributeBase o name X.env (eval o X.env)=eval o X.env) aU4._auto_1) (hline:autoParam ((apos.endLine==cpos.line)=true) aU4._auto_1):PE X (.Call (.Attribute o name apos) [] [] cpos) (tBM0 X.K T r to):=by
 intro pins s σ H Q I h;refine cY hbase hline (thn (ho pins s σ H _ I h) λv s1 ζ=>?_);obtain⟨x,H1,I1,r1,ty,q1⟩:=ζ;obtain⟨h1,h2⟩:=wub I1 r1 ty;exact⟨T,id,pa,slot,hty,h1,h2,bE rfl (dH (hm pins s1 σ H1 x [] v [] Q I1 r1 .nil q1))⟩
theorem Zt (pa:PlainAttrs T)(slot:Slot T name id)(hty:typeOf (.builtin id)=pure (.type "method_descriptor"))(hm:MtR X id r)(ho:PE X o to)(ha:PA X (e::es) t)(hbase:autoParam (attributeBase o name X.env (eval o X.env)=eval o X.env) aU4._auto_1)(hfew:autoParam (((backTo cpos (starEach (e::es) X.env)).all (λx=>!x.1)&&(backToKw cpos (keywordEach [] X.env)).all (λx=>x.1.isSome)
   && decide ((e::es).length+([]:List Keyword).length+(if([]:List Keyword).isEmpty then 0 else 1)<30))=true) aU4._auto_1)(hline:autoParam ((apos.endLine==cpos.line)=true) aU4._auto_1) (hs:autoParam (starEach (e::es) X.env=(false,eval e X.env)::starEach es X.env) aU4._auto_1) (hplain:autoParam ((backTo cpos (starEach es X.env)).any (·.1)=false) aU4._auto_1) :
  PE X (.Call (.Attribute o name apos) (e::es) [] cpos) (tBM X.K T r to t):=by
 intro pins s σ H Q I h;refine wpAny_Call_method_late hbase hfew hline rfl (thn (ho pins s σ H _ I h) λv s1 ζ=>?_);obtain⟨x,H1,I1,r1,ty,q1⟩:=ζ;obtain⟨h1,h2⟩:=wub I1 r1 ty;refine⟨T,id,pa,slot,hty,h1,h2,?_⟩;have F:=ha cpos pins s1 σ H1 _ I1 q1;rw[hs]at F ⊢;refine bE (by show(false||(backTo cpos (starEach es X.env)).any (·.1))=false;rw[hplain] <;> rfl) (cn ?_);exact thn F λus s2 ⟨vs,H2,I2,r2,q2⟩=>hm pins s2 σ H2 x vs v us Q I2 r1 r2 q2
end
def MtM (X:Cx)(id:String)(r:V->List V->Hp->VK->Prop):Prop :=
 ∀(pins:List (Aj×Obj)) (s:Ab) (σ:St) (H:Hp) (x:V) (xs:List V) (v:Ag) (us:List Ag) (Q:VK),Inv X pins σ H s->RelV x v->Vals xs us->r x xs H Q ->
  wpAny ↑[X] X.A (call (.builtin id) (v::us)) (EP X pins σ Q) X.xe s
theorem Vals.one:∀ {x:V} {us:List Ag},Vals [x] us->∃u,us=[u]/\RelV x u
 |_,_,.cons r .nil=>⟨_,rfl,r⟩
theorem Vals.zero:∀ {us:List Ag},Vals [] us->us=[]
 |_,.nil=>rfl
theorem Vals.dropLast {xs:List V}{us:List Ag}(h:Vals xs us):Vals xs.dropLast us.dropLast:=by
 induction h with
 |nil=>exact .nil
 |cons r t ih =>
  cases t with
  |nil=>exact .nil
  |cons q t'=>exact .cons r ih
theorem Vals.reverse {xs:List V}{us:List Ag}(h:Vals xs us):Vals xs.reverse us.reverse:=by
 induction h with
 |nil=>exact .nil
 |cons r t ih=>rw[dR,dR];exact Vals.append ih (.cons r .nil)
theorem wzc {α:Type}(l:List α):l.eraseIdx (l.length-1)=l.dropLast:=by
 induction l with
 |nil=>rfl
 |cons a r ih =>
  cases r with
  |nil=>rfl
  |cons b r =>
   have e:(a::b::r).length-1=((b::r).length-1)+1:=by have h1:(a::b::r).length=r.length+2:=rfl;have h2:(b::r).length=r.length+1:=rfl;lia
   rw[e,List.eraseIdx_cons_succ,ih]
   all_goals rfl
section
variable {X:Cx}{pins:List (Aj×Obj)}{σ:St}{H:Hp}{s:Ab}{l b:Aj}{xs ys zs:List V}
theorem Inv.lset {its its':List Ag}{n:Nat}{f:Array Ag->Array Ag}{t':Nat}(I:Inv X pins σ H s)(hH:H l=some (.lst xs))(e:s.heap.get? l=some { cls:=.type "list",data:=.seq its.toArray n }) (hf:f its.toArray=its'.toArray) (hv:Vals ys its') (hz:ys.length<=sizeLine) :
  Inv X pins σ (upd H l (.lst ys)) { s with heap:=s.heap.update l (Obj.mapSeq f),toks:=t' }:=by
 have q:=PySem.IsL.update e f;rw[hf]at q;refine I.write (x:=l) (e:=l) (by rw[hH];exact trivial) (.inl rfl) (λb' u G F=>(Heap.get?_update_other s.heap (Obj.mapSeq f) (aZ G)).trans F) ⟨_,q⟩ ?_;exact⟨hz,its',_,hv,q⟩
theorem Inv.lnew {its:List Ag}{t':Nat}(I:Inv X pins σ H s)(hv:Vals ys its)(hz:ys.length<=sizeLine) :
  Inv X pins σ (upd H s.heap.objs.size (.lst ys)) { s with heap:=s.heap.push { cls:=.type "list",data:=.seq its.toArray },toks:=t' } :=
 I.laid (λ_ _ q=>ai _ q) (al _) ⟨hz,its,0,hv,ax _ rfl⟩
theorem Inv.fresh (I:Inv X pins σ H s):H s.heap.objs.size=none:=I.hok.fresh (al _)
theorem Inv.lstM (I:Inv X pins σ H s)(hH:H l=some (.lst xs)):xs.length<=sizeLine/\∃(its:List Ag) (n:Nat),Vals xs its/\xs.length=its.length/\s.heap.get? l=some { cls:=.type "list",data:=.seq its.toArray n }:=by obtain⟨z,its,n,r,e⟩:=I.hok l _ hH;exact⟨z,its,n,r,r.length,e⟩
end
section
variable {X:Cx}
def xkd:V->List V->Hp->VK->Prop:=λx vs H Q=>∃l xs y,x=.ref l/\vs=[y]/\H l=some (.lst xs)/\xs.length<sizeLine/\Q .non (upd H l (.lst (xs++[y])))
theorem y9:MtM X "list.append" xkd:=by intro pins s σ H x U v Z Q I L O h;obtain⟨l,xs,y,rfl,rfl,J,hz,q⟩:=h;cases L;obtain⟨u,rfl,S⟩:=O.one;obtain⟨z,G,n,r,hl,e⟩:=I.lstM J;refine gj F.slot_list_append ⟨_,e,rfl⟩ F.entry_list_append (F.args_list_append_2 _ _) (PySem.list_append l G.toArray n u (by rw[aG];lia)) ⟨e,?_⟩;refine⟨.non,_,I.lset (its':=G++[u]) J e (by simp) (r.append (.cons S .nil)) ?_,rfl,q⟩;rw[aE,List.length_singleton];lia
def rPop:V->List V->Hp->VK->Prop:=λx vs H Q=>∃l xs y,x=.ref l/\vs=[]/\H l=some (.lst xs)/\xs[xs.length-1]?=some y/\Q y (upd H l (.lst xs.dropLast))
theorem wzx:MtM X "list.pop" rPop:=by
 intro pins s σ H x vs v us Q I L O h;obtain⟨l,xs,y,rfl,rfl,J,Z,q⟩:=h;cases L;have ab:=O.zero;subst ab;obtain⟨z,G,n,r,hl,e⟩:=I.lstM J;obtain⟨u,hu,S⟩:=r.get Z;have U:G.toArray[G.toArray.size-1]?=some u:=by show G.toArray[G.length-1]?=some u;rw[<-ca,<-hl];exact hu
 refine gj F.slot_list_pop ⟨_,e,rfl⟩ F.entry_list_pop (F.args_list_pop_1 _) (MeetsSeq.list_pop_last l G.toArray n u U (by rw[aG];lia)) ⟨e,?_⟩;refine⟨y,_,I.lset (its':=G.dropLast) J e ?_ r.dropLast ?_,S,q⟩
 .show G.toArray.eraseIdxIfInBounds (G.toArray.size-1)=G.dropLast.toArray;rw[aG,List.eraseIdxIfInBounds_toArray,wzc]
 .rw[List.length_dropLast];lia
def rCat:R2:=λx y H Q=>∃l b xs zs,x=.ref l/\y=.ref b/\H l=some (.lst xs)/\H b=some (.lst zs)/\xs.length+zs.length<=sizeLine/\∀p,H p=none->Q (.ref p) (upd H p (.lst (xs++zs)))
theorem wzb:OpR X (binaryOp .Add) rCat:=by
 intro pins s σ H x y v u Q I L J h;obtain⟨l,b,xs,zs,rfl,rfl,S,U,hz,q⟩:=h;cases L;cases J;obtain⟨z,G,n,r,hl,e⟩:=I.lstM S;obtain⟨z2,F,n2,O,ab,e2⟩:=I.lstM U;refine PySem.P.add_list e e2 ?_ (by rw[aG,aG];lia);have Z:G.toArray++F.toArray=(G++F).toArray:=by simp
 rw[Z];exact⟨.ref _,_,I.lnew (t':=s.toks) (r.append O) (by rw[aE];lia),rfl,q _ I.fresh⟩
end
section
variable {prog:Ac}{w:Ah}{A:Ae}{E:Ag->Ab->Prop}{s:Ab}
end
section
variable {X:Cx}
end
end L2
namespace Att
open PySem PySem.W PySem.Calls PyProof.Rows
theorem qwz {P:Params}{h:Heap}:∀(ns:List Int) (vs:List Ag),WellAll P h vs (ns.map WData.int)->IntsAre vs ns:=by
 intro ns
 induction ns with
 |nil =>
  intro vs w;rw[cA]at w;cases w;exact .nil
 |cons n ns ih =>
  intro vs w;rw[aH]at w;cases w with
  |cons a b =>
   cases a;exact .cons _ _ (ih _ b)
theorem wyk {l:OpenLaw}{n:Nat}(hn:l.most=some n){P:Params}{h:Heap}{args:List WData}{vals:List Ag}
  (hpre:l.row.toRowW.claim.pre args=true) (hwl:WellAll P h vals args) :
  ∃a vs ns,vals=[Value.ref a]/\args=[WData.list (ns.map WData.int)]/\h.get? a=some { cls:=.type "list",data:=.seq vs.toArray }/\IntsAre vs ns/\ns.length<=n:=by
 have L:WShape.hasAll [] args [.list .int]=true:=(pre_splitW hpre).1;have I:l.pre.holds [] { args:=args }=true:=(pre_splitW hpre).2;obtain⟨d,r,rfl,h1,h2⟩:=hasAllW_cons L;obtain rfl:=hasAllW_nil h2;obtain⟨xs,rfl,S⟩:=hasW_list h1;obtain⟨ns,rfl⟩:=items_int S;have O:ns.length<=n:=by
  unfold OpenLaw.pre at I;have G:(WTm.not (.lt (.lit (.int (n:Int))) (.len (.arg 0)))).holds [] { args:=[.list (ns.map .int)] }=true:=by have G:=(holds_andW I).1;rw[hn]at G;exact G
  have F:=condW_of G (w_not (w_lt w_lit (w_len_list (w_arg rfl))));rw[aa]at F;refine Nat.le_of_not_lt λq=>?_;have J:(n:Int)<((ns.length:Nat):Int):=by lia
  first
   |(rw[aT J]at F;exact absurd F ⋯)
   |(simp at F;lia)
 cases hwl with
 |cons w1 w2 =>
  cases w2;cases w1 with
  |list ho hall=>exact⟨_,_,ns,rfl,rfl,ho,qwz ns _ hall,O⟩
theorem wj1 (l:OpenLaw)(args:List WData):l.row.toRowW.claim.post args (.bool true) args=true :=
 postW_of (r:=l.row.toRowW) (X:=(true==true))
  (show WShape.has [] (.bool true) .bool=true by first | rfl | decide | simp[WShape.has,WShape.arms,WShape.armsAll])
  (show(WTm.eq .res (.lit (.bool true))).value [] { args:=args,res:=some (.bool true),after:=args }=some (.bool (true==true)) from w_eq_bool (w_res rfl) w_lit) rfl
theorem attach_call {l:OpenLaw}{n:Nat}{q:Ac}{loose:List Str}{XP:(Str->Option Ag)->Heap->Prop}{YP:Ah->Heap->Prop}{d:DefRec}
  (hn:l.most=some n) (hdf:d.params.defaults=[])(call:∀(w:Ah) (s₀ s₁:Ab) (mg mb:Str->Option Ag) (fa:Aj) (o:Obj) (pm cd doc:Ag) (a:Aj) (vs:List Ag) (ns:List Int),
   Ground q loose [] XP w s₀ mg mb s₁.heap->YP w s₁.heap ->
   s₁.heap.get? fa=some o->o.data=.func (docDef d.name d.params d.body d.scope pm cd doc)->s₁.heap.CodeRec cd d.name->mg d.name=some (.ref fa) ->
   s₁.heap.get? a=some { cls:=.type "list",data:=.seq vs.toArray }->IntsAre vs ns->ns.length<=n->s₁.gens=#[] ->
   codeAny (model l.prog w) callerA (.call (.ref fa) ⟨[.ref a],[]⟩) (λr s'=>r=.ok (.ret (.bool true))/\OldK s₁.heap s'.heap/\s'.os=s₁.os/\AllBare s'.gens) s₁) :
  WalkO q loose XP YP l.row.toRowW d [] (λf vs=>PySem.call f vs):=by
 intro w s₀ s₁ mg mb G Y fa o pm cd doc dV kV S hd ah F U hg a2 an as L a1 ap I a0;obtain rfl:dV=.none:=Dflts.none F hdf;obtain rfl:kV=.none:=Dflts.noKw F;obtain⟨a,vs,ns,rfl,rfl,O,ad,ab⟩:=wyk hn L I;refine enter_call (dS (call w s₀ s₁ mg mb fa o pm cd doc a vs ns G Y S (fd_plain hd) ah U O ad ab hg) λr s' J=>?_);obtain⟨rfl,h2,h3,h4⟩:=J;exact⟨.inl ⟨.bool true,.bool true,[],rfl,λ_=>rfl,.bool true,wj1 l _,λ_=>⟨List.Pairwise.nil,λ_ Z=>(nomatch Z)⟩⟩,h2,h3,h4⟩
section
variable {prog:Ac}{w:Ah}{A:Ae}{E:Ag->Ab->Prop}{s:Ab}{K:Frag}
end
end Att
namespace L2
open PySem PySem.Spec PyProof.Rows
section
theorem qk9:∀ {vs:List Ag} {ns:List Int},IntsAre vs ns->Vals (ns.map V.int) vs
 |_,_,.nil=>.nil
 |_,_,.cons n t h=>.cons ⟨t,rfl⟩ (qk9 h)
def Only (H:Hp):Prop:=∀b,H b=none\/∃o xs,H b=some (.frz o (.lst xs))
theorem xq1 {P:Ac}{w:Ah}{K:Aa}{mg mb:Str->Option Ag}{CX:CXT}{k:Nat}{fa a:Aj}{fd:Ad}{x:Str}{sp:Sp}{s₁:Ab}{vs:List Ag}{ns:List Int}
  (KX:K.In s₁.heap) (hns:s₁.heap.Ns mainGlobals mg) (hb:s₁.heap.Ns builtinsNs mb) (hbb:∀x:Str,x ≠ "__name__" -> mb x=bootBuiltins x) (hlim:s₁.heap.NoLimit) (hg:s₁.gens=#[])(ha:s₁.heap.get? a=some { cls:=.type "list",data:=.seq vs.toArray }) (hi:IntsAre vs ns) (hl:ns.length<=sizeLine) (hr:Room k callerA)(F:∀base:Heap,K.In base->base.Ns mainGlobals mg->↑FnOk CX k fa fd [x] sp) (hbind:∀(s:Ab) (u:Ag),BindsTo s fd ⟨[u],[]⟩ [(x,u)])(hsp:∀H:Hp,Only H->SqL K H a (ns.map V.int)->sp [.ref a] H (λv _=>v=.bl true) λ_ _ _=>False)(hCX:∀H e s',CX [] H s₁ (λ_ _ _=>False) e s'->False) :
  codeAny (model P w) callerA (.call (.ref fa) ⟨[.ref a],[]⟩) (λr s'=>r=.ok (.ret (.bool true))/\OldK s₁.heap s'.heap/\s'.os=s₁.os/\AllBare s'.gens) s₁:=by
 have O:=qk9 hi;have an:=hi.length;have ab:∀H:Hp,Only H->SqL K H a (ns.map V.int)->HOk P w H s₁.heap->(∀b,H b≠none->b=a)->(H a≠none->K.lookup a=none) ->
   codeAny (model P w) callerA (.call (.ref fa) ⟨[.ref a],[]⟩) (λr s'=>r=.ok (.ret (.bool true))/\OldK s₁.heap s'.heap/\s'.os=s₁.os/\AllBare s'.gens) s₁:=by
  intro H U hS S hA hK;have ad:∀ {b:Aj} {o:Obj},s₁.heap.get? b=some o->H b=none->(qut s₁.heap H).get? b=some o:=λe n=>xx2 e n;have ah:∀ {b:Aj} {o:Obj} {es:Array DictEntry} {ep:Nat},s₁.heap.get? b=some o->o.data=.dict es ep->H b=none:=λ{b o es ep} e d=>by
   cases q:H b with
   |none=>rfl
   |some u =>
    have J:b=a:=hA b (by rw[q];simp);subst J;rw[ha]at e;cases e;have d':Data.seq vs.toArray _=Data.dict es ep:=d;cases d'
  have I:∀ {b:Aj} {m:Str->Option Ag},s₁.heap.Ns b m->(qut s₁.heap H).Ns b m:=λ{b m} ⟨o,es,ep,e,d,r⟩=>⟨o,es,ep,ad e (ah e d),d,r⟩;have Z:K.In (qut s₁.heap H):=λb o e=>ad (KX b o e) (by
   cases q:H b with
   |none=>rfl
   |some u =>
    have J:b=a:=hA b (by rw[q];simp)
    subst J
    rw[hK (by rw[q];simp)]at e;cases e)
  have hM:Mod K mg (qut s₁.heap H):=⟨Z,I hns,⟨mb,I hb,hbb⟩,let ⟨mc,h1,h2⟩:=hlim;⟨mc,I h1,h2⟩⟩;have e0:Env0 P w K mg (qut s₁.heap H) callerA [] s₁ H:=⟨rfl,hM,λb o e=>xkb e,Nat.le_of_eq (wyw _ _),trivial,λb hb=>absurd (show b∈([]:List Aj) from hb) (by simp),S,.of_eq hg⟩;refine dS ((F _ Z (I hns)).run callerA [] s₁ H ⟨[.ref a],[]⟩ [.ref a] [.ref a] _ _ hr e0 (hbind s₁ (.ref a)) (.cons rfl .nil) (hsp H U hS)) λr s' h=>?_;cases r with
  |error e=>exact(hCX H e s' h).elim
  |ok fl =>
   cases fl with
   |next=>exact False.elim h
   |brk=>exact False.elim h
   |cont=>exact False.elim h
   |ret u =>
    obtain⟨v,H',os,a0,L,ap,r',q⟩:=h;have q':v=.bl true:=q;subst q';obtain rfl:u=Value.bool true:=r';refine⟨rfl,OldK.of_keep λb o e=>?_,os,a0⟩;cases q:H b with
    |none=>exact L.keep b o e q (by intro z;exact absurd (show b∈([]:List Aj) from z) (by simp)) (by simp)
    |some u =>
     rcases U b with z|⟨ob,xs,z⟩
     .rw[q]at z;cases z
     .have z2:=L.frzs b ob _ z;obtain⟨e1,_⟩:=S b _ z;obtain⟨e2,_⟩:=ap b _ z2;rw[e]at e1;cases e1;exact e2
 cases hk:K.lookup a with
 |some o =>
  have e:=KX a o hk;rw[ha]at e;cases e;refine ab (λ_=>none) (λ_=>.inl rfl) (.inr ⟨_,vs.toArray,_,hk,rfl,rfl,rfl,by rw[aG,an];exact hl,by simpa using O⟩) (λb u z=>by have G:(none:Option HO)=some u:=z;cases G) (λb z=>absurd rfl z) λz=>absurd rfl z
 |none =>
  refine ab (λb=>if b=a then some (.frz { cls:=.type "list",data:=.seq vs.toArray } (.lst (ns.map V.int))) else none) (λb=>?_) (.inl (.inr ⟨{ cls:=.type "list",data:=.seq vs.toArray },ak rfl⟩)) (λb u z=>?_) (λb z=>?_) λ_=>hk
  .by_cases hb:b=a
   .exact .inr ⟨_,_,ak hb⟩
   .exact .inl (ag hb)
  .by_cases hb:b=a
   .have G:=(ak hb).symm.trans z;cases G;subst hb;exact⟨ha,by rw[aa];exact hl,vs,_,O,ha⟩
   .have G:=(ag hb).symm.trans z;cases G
  .by_cases hb:b=a
   .exact hb
   .exact absurd (ag hb) z
theorem xkx {l:W.OpenLaw}{n k:Nat}{q:Ac}{loose:List Str}{XP:(Str->Option Ag)->Heap->Prop}{YP:Ah->Heap->Prop}{d:DefRec}{K:Params->Aa}{CX:Ah->CXT}{sp:Ah->Sp}{x:Str}
  (hn:l.most=some n) (hn2:n<=sizeLine) (hdf:d.params.defaults=[]) (hr:Room k callerA)(hY:∀(w:Ah) (h:Heap),YP w h->(K w.params).In h)(F:∀(w:Ah) (mg:Str->Option Ag) (fa:Aj) (h:Heap),(K w.params).In h->h.Ns mainGlobals mg->mg d.name=some (.ref fa) ->
   ∃fd:Ad,(∀(s:Ab) (u:Ag),BindsTo s fd ⟨[u],[]⟩ [(x,u)]) /\
    ∀base:Heap,(K w.params).In base->base.Ns mainGlobals mg->FnOk l.prog w (K w.params) mg base (CX w) k fa fd [x] (sp w))(hsp:∀(w:Ah) (H:Hp) (a:Aj) (ns:List Int),ns.length<=n->Only H->SqL (K w.params) H a (ns.map V.int)->sp w [.ref a] H (λv _=>v=.bl true) λ_ _ _=>False)(hCX:∀(w:Ah) (H:Hp) (s:Ab) (e:Ag) (s':Ab),CX w [] H s (λ_ _ _=>False) e s'->False) :
  W.WalkO q loose XP YP l.row.toRowW d [] (λf vs=>PySem.call f vs):=by
 refine Att.attach_call hn hdf λw s₀ L mg mb fa o pm cd ad a vs ns G Y ho hd ab S O U I Z=>?_;have J:=hY w _ Y;obtain⟨fd,hb,hF⟩:=F w mg fa _ J G.T.g S;exact xq1 J G.T.g G.T.b G.T.builtins G.T.nolimit Z O U (bB I hn2) hr hF hb (λH hO hS=>hsp w H a ns I hO hS) λH e s'=>hCX w H L e s'
def zg (s:Stmt)(j:Nat):Stmt:=match s with
 |.ClassDef _ _ _ body _ _ _ _ _ _ _=>body.getD j (.Pass ⟨0,0,0,0⟩)
 |_=>.Pass ⟨0,0,0,0⟩
def yp (s:Stmt):Arguments:=match s with
 |.FunctionDef _ a _ _ _ _ _ _ _ _=>a
 |_=>{ posonlyargs:=[],args:=[],vararg:=none,kwonlyargs:=[],kw_defaults:=[],kwarg:=none,defaults:=[] }
def jk (s:Stmt):List Stmt:=match s with
 |.FunctionDef _ _ b _ _ _ _ _ _ _=>b
 |_=>[]
def wm (s:Stmt):Scope:=match s with
 |.FunctionDef _ _ _ _ _ _ sc _ _ _=>sc
 |_=>{ kind:=.function,names:=[],isGenerator:=false,isCoroutine:=false }
abbrev E0:XK:=λ_ _ _=>False
structure Fun (K:Aa)(x qual:Str)(st:Stmt)(f:Aj)(fd:Ad):Prop where
 ex:∃(oc:Ag) (od:Option Aj) (kV doc pm:Ag) (an:Option Aj) (cdv ct:Ag) (osl:Array (Option Ag)),
  fd=W.fnOf x qual (yp st) (jk st) (wm st) .none kV doc pm an cdv ct/\K.lookup f=some ⟨oc,od,.func fd,osl⟩/\W.codeIn K cdv qual=true
 kp:W.keepIn K (.ref f)=true
section
variable {P:Ac}{w:Ah}{K:Aa}{mg:Str->Option Ag}{base:Heap}
theorem Fun.binds {x qual:Str}{st:Stmt}{f:Aj}{fd:Ad}{ps:List Str}(F:Fun K x qual st f fd)(h:∀(kV doc pm:Ag) (an:Option Aj) (cdv ct:Ag) (us:List Ag),us.length=ps.length->bindArgs (W.fnOf x qual (yp st) (jk st) (wm st) .none kV doc pm an cdv ct) ⟨us,[]⟩=pure (ps.zip us)):Binds K fd ps []:=by
 obtain⟨J,I,kV,doc,pm,an,cdv,ct,G,rfl,L,O⟩:=F.ex;exact .all (h kV doc pm an cdv ct)
theorem xqz {x qual:Str}{st:Stmt}{f:Aj}{oc:Ag}{od an:Option Aj}{osl:Array (Option Ag)}{kV doc pm cdv ct:Ag}(l:K.lookup f=some ⟨oc,od,.func (W.fnOf x qual (yp st) (jk st) (wm st) .none kV doc pm an cdv ct),osl⟩)(c:W.codeIn K cdv qual=true) (k:W.keepIn K (.ref f)=true):Fun K x qual st f (W.fnOf x qual (yp st) (jk st) (wm st) .none kV doc pm an cdv ct):=⟨⟨oc,od,kV,doc,pm,an,cdv,ct,osl,rfl,l,c⟩,k⟩
end
theorem vc {A:Ae}{k:Nat}(hr:Room k A):A.units+1<cLine:=dL (Nat.add_le_add_left (by decide:1<=64) _) hr.units
theorem wy0 {n:Nat}(h:n<=1000):n<sizeLine:=dL h ⋯
section
variable {X:Cx}
theorem pv (i:Nat){x:Str}{pos:Pos}(hN:autoParam (X.N[i]?=some x) aU4._auto_1)(hv:Vis X.env.scope x:=by walk_at "vs")(hd:autoParam ((x==("__debug__" : Str))=false) aU1._auto_1)(hcd:autoParam ((x==("__classdict__" : Str))=false) aU1._auto_1):PE X (.Name x pos) (qwg i):=pe_var hN hv hd hcd
end
theorem yz {A B:Prop}(h:B):if false=true then A else B:=by rw[ag aM];exact h
theorem jg {A B:Prop}(h:A):if true=true then A else B:=by rw[ak rfl];exact h
theorem wjx {c A B:Prop}[Decidable c](hc:c)(h:B):if(!decide c)=true then A else B:=by rw[aT hc];exact yz h
def Same (H H':Hp):Prop:=∀b o,H b=some o->H' b=some o
theorem Same.refl (H:Hp):Same H H:=λ_ _ h=>h
theorem Same.trans {H H1 H2:Hp}(a:Same H H1)(b:Same H1 H2):Same H H2:=λc o h=>b c o (a c o h)
theorem Same.free {H H':Hp}(e:Same H H'){l:Aj}(h:H' l=Option.none):H l=Option.none:=by
 cases q:H l with
 |none=>rfl
 |some o =>
  rw[e l o q]at h;cases h
theorem Same.seq {K:Aa}{H H':Hp}{a:Aj}{xs:List V}(e:Same H H')(h:SqL K H a xs):SqL K H' a xs:=by
 rcases h with (h|⟨o,h⟩)|h
 .exact .inl (.inl (e _ _ h))
 .exact .inl (.inr ⟨o,e _ _ h⟩)
 .exact .inr h
theorem nin {b:Aj}:b∉([]:List Aj):=λz=>nomatch z
set_option tactic.hygienic true in
theorem qu2 {K:Aa}{h:Heap}{C:Aj}{bmB:List Ag}{newId:String}(X:K.In h)(q:W.excIn K C bmB newId=true) :
  ∃tl N a1 a2 a3 a4 a5 a6 a7 a8 a9 b0 b1 b2 b3 b5 mN,h.get? C=some (excClassObj a1 a2 C N a3 tl a4 a5 a6 a7 a8 a9 b0 b1 b2 b3 b5 newId) /\
   h.Ns N mN/\mN "__init__" = none/\OwnTail h bmB tl:=by
 unfold W.excIn at q;split at q
 .next dd cd sl ho =>
  split at q
  .next C1 tl x0 x1 x2 x3 nn x5 hm hs =>
   rw[bv,bv,bv,bv,bv]at q;obtain⟨⟨⟨⟨⟨p1,p2⟩,S⟩,J⟩,F⟩,I⟩:=q;have Z:=eq_of_beq p1;have U:=eq_of_beq p2;have G:=eq_of_beq I;have O:cd.hasDel=false:=by simpa using S
   subst Z U;obtain⟨f1,f2,f3,f4,f5,f6,f7,f8,f9,ap,an⟩:=cd;have ah:f3=Value.ref C1::tl:=hm;have L:an=false:=O;subst ah L;have ad:sl=#[x0,x1,x2,x3,some (.builtin nn),x5]:=by
    cases sl with
    |mk l =>
     have:l=[x0,x1,x2,x3,some (.builtin nn),x5]:=hs;rw[this]
   subst ad;have ab:=W.isNs_of_in X F;exact⟨tl,f4,f1,f5,f2,f6,f7,f8,f9,ap,dd,x0,x1,x2,x3,x5,_,X _ _ ho,.of_isNs ab,W.nsMap_none_of_in X F G,W.tail_of_in X J⟩
  .exact absurd q ⋯
 .exact absurd q ⋯
def CXE (P:Ac)(w:Ah):CXT:=λouter H s E e s' =>
 ∃(a C:Aj) (a0:Ag) (B:Heap) (H':Hp),e=.ref a/\s'.os=s.os/\AllBare s'.gens/\Un (frs outer) [] H H' s.heap s'.heap/\HOk P w H' B /\
  Heap.FlyingW B outer a (.ref C) a0 s'.heap/\(∀b o,s.heap.get? b=some o->b∉frs outer->∃o',B.get? b=some o'/\(H b=none->o'=o))/\E (.ref C) none H'
theorem CXE.no {P:Ac}{w:Ah}{outer:List Env}{H:Hp}{s s':Ab}{e:Ag}(h:CXE P w outer H s E0 e s'):False:=by obtain⟨_,_,_,_,_,_,_,_,_,_,_,_,q⟩:=h;exact q
def uf (X:Cx)(E:St->XK):Prop:=∀(pins:List (Aj×Obj)) (σ:St) (H:Hp) (s:Ab) (e:Ag) (s':Ab),Inv X pins σ H s->CXE X.prog X.w X.stack H s (E σ) e s'->X.xe e s'
theorem J1 {X:Cx}:uf X (λ_=>E0):=λ_ _ _ _ _ _ _ h=>h.no.elim
def wud (X:Cx)(E:St->XK):Prop:=∀(pins:List (Aj×Obj)) (σ:St) (H:Hp) (s:Ab) (h':Heap) (e C:Aj) (vs:List Ag),Inv X pins σ H s->Heap.MadeExcOf s.heap h' e (.ref C) vs->E σ (.ref C) none H->X.xe (.ref e) { s with heap:=h' }
theorem wq4 {env:Env}{L:Aj}{outer:List Env}(h:env.frame=some L):frs (env::outer)=L::frs outer:=by unfold frs;rw[dG,h]
section
variable {P:Ac}{w:Ah}{K:Aa}{mg:Str->Option Ag}{base:Heap}{N:List Str}{qual:Str}{scope:Scope}{f:Aj}{cdv:Ag}{A:Ae}{outer:List Env}{s0:Ab}{H0:Hp}{E:XK}
theorem qf:uf (yf (CXE P w) P w K mg base N qual scope f cdv A outer s0 H0 E) (λ_=>E):=by
 intro pins σ H s e s' I hx;obtain⟨a,C,a0,B,H',rfl,a4,a8,S,a6,ah,a3,q⟩:=hx;have G:=I.base;have hL:∀b o,s0.heap.get? b=some o->b≠s0.heap.objs.size:=λb o e z=>aU _ (z▸ao e);have ab:frs (envOfC qual scope s0.heap.objs.size f cdv::outer)=s0.heap.objs.size::frs outer:=wq4 rfl;have a7:∀b o,s0.heap.get? b=some o->b∉frs outer->b∉frs (envOfC qual scope s0.heap.objs.size f cdv::outer):=λb o e n=>by
  rw[ab];intro z;rcases ae.mp z with z|z
  .exact hL b o e z
  .exact n z
 have ad:∀b o,s0.heap.get? b=some o->b∉frs outer->∃o',B.get? b=some o'/\(H0 b=none->o'=o):=λb o e n=>by obtain⟨Z,F⟩:=G.there b o e nin;obtain⟨o2,L,O⟩:=a3 b Z F (a7 b o e n);refine⟨o2,L,λz=>?_⟩;have U:=G.keep b o e z n nin;have e5:=G.free b o e z nin;rw[F]at U;rw[O e5];exact au U
 refine wpAny_leaves_onW I.ok.frames rfl ah λh' an a1=>?_;have a2:∀b,b∈frs outer->∀o,s0.heap.get? b=some o->H0 b=none->∃sl,h'.get? b=some { o with slots:=sl }:=λb J o e n=>by obtain⟨sl,F⟩:=G.slot b o e n J nin;obtain⟨a9,L⟩:=S.slot b _ F (G.free b o e n nin) (by show b∈frs (envOfC qual scope s0.heap.objs.size f cdv::outer);rw[ab];exact .tail _ J) nin;obtain⟨_,o3,O,nf⟩:=ah.2.2.1.mem (b:=b) (by show b∈frs (envOfC qual scope s0.heap.objs.size f cdv::outer);rw[ab];exact .tail _ J);obtain⟨ap,U⟩:=a1 b o3 O nf;rw[L]at O;have e5:=au O;exact⟨ap,by rw[U,<-e5]⟩
 refine⟨a,C,a0,B,H',rfl,a4.trans I.os,a8,⟨λb o e n nb _=>?_,λb o e n J _=>a2 b J o e n,λb o e n _=>?_,λb o e _=>?_,λb xs e=>S.tups b xs (G.tups b xs e),λb o u e=>S.frzs b o u (G.frzs b o u e),λb ps e=>?_⟩,a6,an,ad,q⟩
 .obtain⟨o',F,L⟩:=ad b o e nb;rw[L n]at F;exact an.1 b o F
 .obtain⟨Z,F⟩:=G.there b o e nin;exact S.free b Z F (G.free b o e n nin) nin
 .by_cases J:b∈frs outer
  .obtain⟨Z,F⟩:=G.there b o e nin;obtain⟨o2,L⟩:=S.there b Z F nin;obtain⟨_,o3,O,nf⟩:=ah.2.2.1.mem (b:=b) (by show b∈frs (envOfC qual scope s0.heap.objs.size f cdv::outer);rw[ab];exact .tail _ J);obtain⟨ap,U⟩:=a1 b o3 O nf;exact⟨_,U⟩
  .obtain⟨o',F,_⟩:=ad b o e J;exact⟨o',an.1 b o' F⟩
 .obtain⟨m1,F⟩:=G.tbls b ps e;obtain⟨m2,L⟩:=S.tbls b _ F;exact⟨m1++m2,by rw[L,Array.append_assoc]⟩
theorem zy:wud (yf (CXE P w) P w K mg base N qual scope f cdv A outer s0 H0 E) (λ_=>E):=by
 intro pins σ H s h' e C vs I hx q;have L:=I.base;have a0:frs (envOfC qual scope s0.heap.objs.size f cdv::outer)=s0.heap.objs.size::frs outer:=wq4 rfl;have a3:∀b o,s0.heap.get? b=some o->b∉frs outer->b∉frs (envOfC qual scope s0.heap.objs.size f cdv::outer):=λb o e n=>by
  rw[a0];intro z;rcases ae.mp z with z|z
  .exact aU _ (z▸ao e)
  .exact n z
 have a4:∀b∈frs (envOfC qual scope s0.heap.objs.size f cdv::outer),H b=none:=I.stkFree;have hB:∀b o,s.heap.get? b=some o->b∉frs (envOfC qual scope s0.heap.objs.size f cdv::outer)->(W.hideAll s.heap (frs (envOfC qual scope s0.heap.objs.size f cdv::outer))).get? b=some o:=λb o e n=>W.hideAll_get _ e n;have a2:HOk P w H (W.hideAll s.heap (frs (envOfC qual scope s0.heap.objs.size f cdv::outer))):=λb u F=>by
  refine(I.hok b u F).stay (λc v Z ec=>hB c v ec λhm=>?_) (λ_ z=>z) (λ_ _ z=>z);have hn:=a4 c hm;rcases Z with rfl|Z
  .rw[hn]at F;cases F
  .rw[hn]at Z;cases Z
 have ab:∀b o,s0.heap.get? b=some o->b∉frs outer->∃o',(W.hideAll s.heap (frs (envOfC qual scope s0.heap.objs.size f cdv::outer))).get? b=some o'/\(H0 b=none->o'=o):=λb o e n=>by obtain⟨o1,G⟩:=L.there b o e nin;refine⟨o1,hB b o1 G (a3 b o e n),λz=>?_⟩;have O:=L.keep b o e z n nin;rw[G]at O;exact au O
 have ap:s.heap.FunFrames base (envOfC qual scope s0.heap.objs.size f cdv::outer):=I.stack;have a6:=W.funFrames_hide (as:=frs (envOfC qual scope s0.heap.objs.size f cdv::outer)) ap (λa8 he b F=>fk.mpr ⟨a8,he,F⟩);refine wpAny_leaves_madeW (base:=W.hideAll s.heap (frs (envOfC qual scope s0.heap.objs.size f cdv::outer))) (h:=s.heap) I.ok.frames rfl (λb o e=>W.of_hideAll _ e) a6 hx λa7 t ad _ _ a1=>?_;have ah:∀b,b∈frs outer->∃o,s.heap.get? b=some o/\∃sl,a7.get? b=some { o with slots:=sl }:=λb F=>by obtain⟨_,U,J,nf⟩:=ap.mem (b:=b) (by show b∈frs (envOfC qual scope s0.heap.objs.size f cdv::outer);rw[a0];exact .tail _ F);exact⟨U,J,a1 b U (hx.keeps b U J) nf⟩
 refine⟨e,C,.ref t,_,H,rfl,I.os,I.bare,⟨λb o G n nb _=>?_,λb o G n F _=>?_,λb o G n _=>L.free b o G n nin,λb o G _=>?_,L.tups,L.frzs,L.tbls⟩,a2,ad,ab,q⟩
 .obtain⟨o',S,J⟩:=ab b o G nb;rw[J n]at S;exact ad.1 b o S
 .obtain⟨sl,S⟩:=L.slot b o G n F nin;obtain⟨U,J,an,O⟩:=ah b F;rw[S]at J;have e5:=au J;exact⟨an,by rw[O,<-e5]⟩
 .by_cases F:b∈frs outer
  .obtain⟨U,J,an,O⟩:=ah b F;exact⟨_,O⟩
  .obtain⟨o',S,_⟩:=ab b o G F;exact⟨o',ad.1 b o' S⟩
end
section
variable {P:Ac}{w:Ah}{K:Aa}{mg:Str->Option Ag}{base:Heap}
end
def wvs (sp:Sp)(E:St->XK)(t:TA):TE:=λσ H Q=>t σ H λvs H1=>sp vs H1 Q (E σ)
def qz4 (C:Aj)(m:Str)(sp:Sp)(E:St->XK)(ta:TE)(t:TA):TE:=λσ H Q=>ta σ H λx H1=>∃a dx fs,x=.ref a/\H1 a=some (.ins C dx fs)/\fs.lookup m=none /\
 t σ H1 λvs H2=>sp (x::vs) H2 Q (E σ)
def wvz (C:Aj)(sp:Sp)(E:St->XK)(t:TA):TE:=λσ H Q=>t σ H λvs H1=>∀x dx,H1 x=none->H1 dx=none->dx≠x ->
 sp (.ref x::vs) (upd (upd H1 dx (.own x)) x (.ins C dx [])) (λv H2=>v=.non/\Q (.ref x) H2) (E σ)
section
variable {X:Cx}{k:Nat}{f C:Aj}{fd:Ad}{ps:List Str}{sp:Sp}{E:St->XK}{x m:Str}{p pos apos:Pos}{e o:Expr}{es:List Expr}{ta:TE}{t:TA}
theorem quk {pins:List (Aj×Obj)}{σ:St}{H:Hp}{s:Ab}{Q:VK}{us:List Ag}{vs:List V}(F:FnOk X.prog X.w X.K X.mg X.base (CXE X.prog X.w) k f fd ps sp)(hr:Room k X.A)(hb:Binds X.K fd ps [])(hx:uf X E)(I:Inv X pins σ H s) (r:Vals vs us) (h:sp vs H Q (E σ)):wpAny ↑[X] X.A (call (.ref f) us) (EP X pins σ Q) X.xe s:=by
 have L:(us++[]).length=ps.length:=by rw[cO,<-r.length];exact F.len _ _ _ _ h
 have J:=hb s us I.kIn L;rw[cO]at J;refine wpAny_call (dS (F.run X.A X.stack s H ⟨us,[]⟩ us vs Q (E σ) hr I.env0 J r h) λr s' G=>?_);cases r with
 |error e=>exact hx pins σ H s e s' I G
 |ok fl =>
  cases fl with
  |ret u=>exact I.after G
  |next=>exact False.elim G
  |brk=>exact False.elim G
  |cont=>exact False.elim G
theorem xqx (F:FnOk X.prog X.w X.K X.mg X.base (CXE X.prog X.w) k f fd ps sp)(hr:Room k X.A)(hg:Gl X x)(hm:X.mg x=some (.ref f))(hk:W.keepIn X.K (.ref f)=true)(hb:Binds X.K fd ps [])(hx:uf X E)(ha:PA X (e::es) t) (hdb:autoParam ((x==("__debug__" : Str))=false) aU1._auto_1) (he:autoParam (starEach (e::es) X.env=(false,eval e X.env)::starEach es X.env) aU4._auto_1) (hpl:autoParam ((backTo pos (starEach es X.env)).any (·.1)=false) aU4._auto_1) :
  PE X (.Call (.Name x p) (e::es) [] pos) (wvs sp E t):=by
 intro pins s σ H Q I h;refine dc (Qj I hg hm ?_ hdb);refine fx (h₀:=X.base) I.ok.mod.kin hk (thn (ha pos pins s σ H _ I h) λus s1 ζ=>?_) he hpl;obtain⟨vs,H1,I1,r,q⟩:=ζ;refine ⟨I1.kIn,?_⟩;exact quk F hr hb hx I1 r q
theorem wuj {pl:Sem Bool}(he:PE X o ta)(c:Cls X.K C)(hm:Meth X.K C m f)(F:FnOk X.prog X.w X.K X.mg X.base (CXE X.prog X.w) k f fd ps sp)(hr:Room k X.A)(hb:Binds X.K fd ps [])(hx:uf X E)(ha:PA X (e::es) t)(hst:autoParam (starEach (e::es) X.env=(false,eval e X.env)::starEach es X.env) aU4._auto_1) (hpl:autoParam ((backTo pos (starEach es X.env)).any (·.1)=false) aU4._auto_1)(ht:autoParam (eval (.Call (.Attribute o m apos) (e::es) [] pos) X.env=(do
   let ov <-eval o X.env
   standAt apos.atName
   let (f,first) <-holding [ov] (getMethod ov m pl)
   callWith pos f first (backTo pos (starEach (e::es) X.env)) (backToKw pos (keywordEach [] X.env)))) aU4._auto_1) :
  PE X (.Call (.Attribute o m apos) (e::es) [] pos) (qz4 C m sp E ta t):=by
 intro pins s σ H Q I h;refine W.methodCall_KW (pl:=pl) (thn (he pins s σ H _ I h) λu s1 ζ=>?_) ht;obtain⟨x,H1,I1,rx,a,dx,fs,ex,ea,l,q⟩:=ζ;subst ex;obtain rfl:u=Value.ref a:=rx;refine qx8 I1 ea c hm l ?_;refine fx (first:=[.ref a]) (h₀:=X.base) I.ok.mod.kin hm.kp (thn (ha pos pins s1 σ H1 _ I1 q) λus s2 ζ=>?_) hst hpl;obtain⟨vs,H2,I2,r,q2⟩:=ζ;refine ⟨I2.kIn,?_⟩;exact quk (us:=.ref a::us) (vs:=.ref a::vs) F hr hb hx I2 (.cons rfl r) q2
theorem wjt {pl:Sem Bool}(he:PE X o ta)(c:Cls X.K C)(hm:Meth X.K C m f)(F:FnOk X.prog X.w X.K X.mg X.base (CXE X.prog X.w) k f fd ps sp)(hr:Room k X.A)(hb:Binds X.K fd ps [])(hx:uf X E)(ht:autoParam (eval (.Call (.Attribute o m apos) [] [] pos) X.env=(do
   let ov <-eval o X.env
   standAt apos.atName
   let (f,first) <-holding [ov] (getMethod ov m pl)
   callWith pos f first (backTo pos (starEach [] X.env)) (backToKw pos (keywordEach [] X.env)))) aU4._auto_1) :
  PE X (.Call (.Attribute o m apos) [] [] pos) (qz4 C m sp E ta y0):=by
 intro pins s σ H Q I h;refine W.methodCall_KW (pl:=pl) (thn (he pins s σ H _ I h) λu s1 ζ=>?_) ht;obtain⟨x,H1,I1,rx,a,dx,fs,ex,ea,l,q⟩:=ζ;subst ex;obtain rfl:u=Value.ref a:=rx;refine qx8 I1 ea c hm l ?_;exact W.callWith_K0 (first:=[.ref a]) I1.kIn hm.kp (quk (us:=[.ref a]) (vs:=[.ref a]) F hr hb hx I1 (.cons rfl .nil) q)
theorem qjf {pins:List (Aj×Obj)}{σ:St}{H:Hp}{s:Ab}{Q:VK}{us:List Ag}{vs:List V}(M:Mk X.K C f)(F:FnOk X.prog X.w X.K X.mg X.base (CXE X.prog X.w) k f fd ps sp)(hr:Room (k+1) X.A)(hb:Binds X.K fd ps [])(hx:uf X E) (I:Inv X pins σ H s) (r:Vals vs us)(h:∀x dx,H x=none->H dx=none->dx≠x->sp (.ref x::vs) (upd (upd H dx (.own x)) x (.ins C dx [])) (λv H2=>v=.non/\Q (.ref x) H2) (E σ)) :
  wpAny ↑[X] X.A (call (.ref C) us) (EP X pins σ Q) X.xe s:=by
 have O:=h (s.heap.objs.size+1) s.heap.objs.size (I.hok.fresh (Nat.le_succ _)) (I.hok.fresh (al _)) (aD (Nat.lt_succ_self _));have J:=Inv.made (C:=C) I;have L:Vals (V.ref (s.heap.objs.size+1)::vs) (Value.ref (s.heap.objs.size+1)::us):=.cons rfl r;have hl:((Value.ref (s.heap.objs.size+1)::us)++[]).length=ps.length:=by rw[cO,<-L.length];exact F.len _ _ _ _ O
 have S:=hb _ (Value.ref (s.heap.objs.size+1)::us) J.kIn hl;rw[cO]at S;refine wpAny_call (xqu (f:=f) I.kIn M.makes M.init (dJ.mp M.fn) (dS (F.run _ X.stack _ _ ⟨Value.ref (s.heap.objs.size+1)::us,[]⟩ (Value.ref (s.heap.objs.size+1)::us) _ _ (E σ) (hr.make C us [])
  (J.env0.make C us []) S L O) λr s' G=>?_))
 cases r with
 |error e=>exact hx pins σ _ _ e s' J G
 |ok fl =>
  cases fl with
  |ret u =>
   obtain⟨v,H',I3,U,ev,Z⟩:=J.after G;subst ev;exact⟨U,⟨V.ref (s.heap.objs.size+1),H',I3,rfl,Z⟩⟩
  |next=>exact False.elim G
  |brk=>exact False.elim G
  |cont=>exact False.elim G
theorem wuz (M:Mk X.K C f)(F:FnOk X.prog X.w X.K X.mg X.base (CXE X.prog X.w) k f fd ps sp)(hr:Room (k+1) X.A)(hg:Gl X x)(hm:X.mg x=some (.ref C))(hb:Binds X.K fd ps [])(hx:uf X E)(ha:PA X (e::es) t) (hdb:autoParam ((x==("__debug__" : Str))=false) aU1._auto_1) (he:autoParam (starEach (e::es) X.env=(false,eval e X.env)::starEach es X.env) aU4._auto_1) (hpl:autoParam ((backTo pos (starEach es X.env)).any (·.1)=false) aU4._auto_1) :
  PE X (.Call (.Name x p) (e::es) [] pos) (wvz C sp E t):=by
 intro pins s σ H Q I h;refine dc (Qj I hg hm ?_ hdb);refine fx (h₀:=X.base) I.ok.mod.kin M.kp (thn (ha pos pins s σ H _ I h) λus s1 ζ=>?_) he hpl;obtain⟨vs,H1,I1,r,q⟩:=ζ;refine ⟨I1.kIn,?_⟩;exact qjf M F hr hb hx I1 r q
end
structure ExcC (K:Aa)(C:Aj):Prop where
 q:↑(C)
def tRaise (C:Aj)(E:St->XK)(t:TA):TS:=λD σ H=>t σ H λvs H1=>vs.length<=sizeLine/\E σ (.ref C) none H1
section
variable {X:Cx}{C:Aj}{E:St->XK}{x:Str}{np cpos pos:Pos}{e:Expr}{es:List Expr}{t:TA}
theorem vz (hc:X.calm=true)(c:ExcC X.K C)(hR:wud X E)(hg:Gl X x)(hm:X.mg x=some (.ref C))(ha:PA X (e::es) t)(hdb:autoParam ((x==("__debug__" : Str))=false) aU1._auto_1)(he:autoParam (starEach (e::es) X.env=(false,eval e X.env)::starEach es X.env) aU4._auto_1) (hpl:autoParam ((backTo cpos (starEach es X.env)).any (·.1)=false) aU4._auto_1) :
  PS X (.Raise (some (.Call (.Name x np) (e::es) [] cpos)) none pos) (tRaise C E t):=by
 intro pins s σ H D I h;obtain⟨tl,N,a1,a2,a3,a4,a5,a6,a7,a8,a9,b0,b1,Z,U,S,mN,O,L,J,T⟩:=qu2 I.ok.mod.kin c.q;refine wpAny_Raise_call_subT (C:=C) (nm:=a1) (q:=a2) (N:=N) (bs:=a3) (bm:=tl) (hdct:=a4) (sn:=a5) (sub:=a6) (ab:=a7) (col:=a8) (dd:=a9) (k0:=b0) (k1:=b1) (k2:=Z) (k3:=U) (k5:=S)
  cG (mN:=mN) (T.hasType cG.hasBase) (I.ok.hd hc) (by rw[he];show(false||(backTo cpos (starEach es X.env)).any (·.1))=false;rw[hpl];rfl) J (Qj I hg hm ⟨rfl,?_⟩ hdb)
 have F:=ha cpos pins s σ H _ I h;rw[he]at F ⊢;refine cn (bh F (λus s1 ⟨vs,H1,I1,r,hl,q⟩=>⟨rfl,by rw[<-r.length];exact hl,I1.bk _ _ O,L.keeps I1.bk,T.keeps I1.bk,λh' e G=>hR pins σ H1 s1 h' e C us I1 G q⟩) λ_ _ z=>z)
end
abbrev Cx.handling (X:Cx)(e:Aj):Cx:={ X with A:=X.A.mark (some (.ref e)),calm:=false,xe:=λ_ _=>False }
abbrev Cx.trying (X:Cx)(pn:List (Aj×Obj))(xe:Ag->Ab->Prop):Cx:={ X with pn:=pn,xe:=xe }
section
variable {X:Cx}{pins:List (Aj×Obj)}{σ:St}{H H':Hp}{s s':Ab}{e:Aj}
theorem Cx.Ok.handling (o:X.Ok)(e:Aj):(X.handling e).Ok :=
 ⟨o.mod,o.kind,o.glob,o.blt,o.above,o.inj,o.has,o.cab,λz=>(aM z).elim,o.frames,o.stk,o.exf,o.bs,o.bsz,o.noex,o.exfs,o.funs,o.frf⟩
theorem Cx.Ok.trying (o:X.Ok)(pn:List (Aj×Obj))(xe:Ag->Ab->Prop):(X.trying pn xe).Ok :=
 ⟨o.mod,o.kind,o.glob,o.blt,o.above,o.inj,o.has,o.cab,o.hd,o.frames,o.stk,o.exf,o.bs,o.bsz,o.noex,o.exfs,o.funs,o.frf⟩
theorem Inv.handling (I:Inv X pins σ H s)(e:Aj):Inv (X.handling e) pins σ H s:=⟨I.ok.handling e,I.os,I.bare,I.base,I.loc,I.cell,I.free,I.freeC,I.pin,I.hok,I.len⟩
theorem Inv.unhandling (o:X.Ok)(I:Inv (X.handling e) pins σ H s):Inv X pins σ H s:=⟨o,I.os,I.bare,I.base,I.loc,I.cell,I.free,I.freeC,I.pin,I.hok,I.len⟩
theorem Inv.trying (I:Inv X pins σ H s)(xe:Ag->Ab->Prop):Inv (X.trying (X.pn++pins) xe) [] σ H s :=
 ⟨I.ok.trying _ _,I.os,I.bare,I.base,I.loc,I.cell,I.free,I.freeC,λp hp=>I.pin p ((ba.mp hp).elim (λz=>z) λz=>nomatch z),I.hok,I.len⟩
theorem Inv.untrying {pins':List (Aj×Obj)}{xe:Ag->Ab->Prop}(o:X.Ok)(I:Inv (X.trying (X.pn++pins) xe) pins' σ H s):Inv X pins σ H s :=
 ⟨o,I.os,I.bare,I.base,I.loc,I.cell,I.free,I.freeC,λp hp=>I.pin p (bW _ hp),I.hok,I.len⟩
theorem SP.untrying {pins':List (Aj×Obj)}{xe:Ag->Ab->Prop}{D:Ends}{f:Flow}(o:X.Ok)(h:SP (X.trying (X.pn++pins) xe) pins' D f s'):SP X pins D f s':=by
 cases f with
 |next=>obtain⟨a,b,c,d⟩:=h;exact⟨a,b,c.untrying o,d⟩
 |brk=>obtain⟨a,b,c,d⟩:=h;exact⟨a,b,c.untrying o,d⟩
 |cont=>obtain⟨a,b,c,d⟩:=h;exact⟨a,b,c.untrying o,d⟩
 |ret u=>obtain⟨v,a,b,c,d⟩:=h;exact⟨v,a,b,c.untrying o,d⟩
theorem SP.unhandling {D:Ends}{f:Flow}(o:X.Ok)(h:SP (X.handling e) pins D f s'):SP X pins D f s':=by
 cases f with
 |next=>obtain⟨a,b,c,d⟩:=h;exact⟨a,b,c.unhandling o,d⟩
 |brk=>obtain⟨a,b,c,d⟩:=h;exact⟨a,b,c.unhandling o,d⟩
 |cont=>obtain⟨a,b,c,d⟩:=h;exact⟨a,b,c.unhandling o,d⟩
 |ret u=>obtain⟨v,a,b,c,d⟩:=h;exact⟨v,a,b,c.unhandling o,d⟩
def qug (K:Aa)(C D:Aj):Prop:=∀ {M:Model} {A:Ae} {E:Ag->Ab->Prop} {h:Heap} {g:Array GenState} {d:Drawn} {t:Nat} {os:OsState} {e:Aj} {oe:Obj} {Q:Bool->Ab->Prop},
 K.In h->h.get? e=some oe->oe.cls=.ref C->Q true ⟨h,g,d,t,os⟩->wpAny M A (excMatches (.ref e) (.ref D)) Q E ⟨h,g,d,t,os⟩
theorem vm {K:Aa}{C:Aj}(c:ExcC K C):qug K C C:=by intro M A E h g d t J e L Q X F G q;obtain⟨tl,N,a1,a2,a3,a4,a5,a6,a7,a8,a9,b0,b1,b2,b3,Z,O,I,U,S,T⟩:=qu2 X c.q;exact wpAny_excMatches_sub_self I F G (T.hasType cG.hasBase) q
theorem land {E:XK}{ev:Ag}{x:Str}{D0:Aj}{np hpos:Pos}{b₀:Stmt}{suite:List Stmt}{rest:List ExceptHandler}{th:TS}{D:Ends}(I:Inv X pins σ H s)(hst:X.stack=X.env::X.outer)(hfr:X.env.frame=some X.env.locals)(hg:Gl X x) (hm:X.mg x=some (.ref D0)) (hdb:(x==("__debug__" : Str))=false) (hx:CXE X.prog X.w X.stack H s E ev s') (hE:∀c d H',E c d H'->∃C,c=.ref C/\qug X.K C D0/\th D σ H') (hh:∀e,PSs (X.handling e) (b₀::suite) th) :
  wpAny ↑[X] X.A (noteFrame ev X.env) (λ_ s2=>wpAny ↑[X] X.A (setFlight ev none) (λ_ s3 =>
   wpAny ↑[X] X.A (handleBy ev X.env (.ExceptHandler (some (.Name x np)) none (b₀::suite) hpos::rest)) (SP X pins D) X.xe s3) X.xe s2) X.xe s':=by
 obtain⟨a,C,a0,B,H',rfl,a3,bk,J,a4,Z,ap,q⟩:=hx;obtain⟨C1,G,bf,a2⟩:=hE _ _ _ q;cases G;have mk:∀(F:Heap),Heap.FlyingW B X.stack a (.ref C) a0 F->s'.heap.UpToSlots F->Inv X pins σ H' { s' with heap:=F }:=λF fl up=>by
  refine I.call' (s':={ s' with heap:=F }) (ch:=[]) a3 ⟨λb o e n nb _=>?_,λb o e n L _=>?_,λb o e n _=>J.free b o e n nin,λb o e _=>?_,J.tups,J.frzs,J.tbls⟩ (a4.kept fl.1) bk (λb z=>nomatch z)
  .obtain⟨o',G,e2⟩:=ap b o e nb;rw[e2 n]at G;exact fl.1 b o G
  .obtain⟨sl,e2⟩:=J.slot b o e n L nin;obtain⟨_,S,O,U⟩:=Z.2.2.1.mem (b:=b) L;obtain⟨an,e4⟩:=up b S O U;rw[e2]at O;have e5:=au O;exact⟨an,by show F.get? b=_;rw[e4,<-e5]⟩
  .by_cases L:b∈frs X.stack
   .obtain⟨_,S,O,U⟩:=Z.2.2.1.mem (b:=b) L;obtain⟨an,e4⟩:=up b S O U;exact⟨_,e4⟩
   .obtain⟨o',G,_⟩:=ap b o e L;exact⟨o',fl.1 b o' G⟩
 have a8:X.A.frames=some (X.env::X.outer):=by rw[<-hst];exact I.ok.frames
 have a9:Heap.FlyingW B (X.env::X.outer) a (.ref C) a0 s'.heap:=by rw[<-hst];exact Z
 refine wpAny_looks_onW a8 hfr a9 λh4 bb ah=>?_;refine wpAny_landsW bb λh5 ab ad=>?_;have I5:=mk h5 (by rw[hst];exact ab) (ah.trans ad);have bm:=I5.handling a;obtain⟨ob,a7,a6⟩:=ab.there;refine eZ (eB (Qj (X:=X.handling a) bm hg hm ?_ hdb)) (by intro z;cases z);obtain⟨hp,gg,dd,tk,os⟩:=s';refine bf (h:=h5) I5.kIn a7 a6 ?_;refine codeAny_handlers_suite ?_;refine lands_againW ab λF bl a1=>?_;have I6:=(mk F (by rw[hst];exact bl) ((ah.trans ad).trans a1)).handling a;exact bh (hh a pins _ σ H' D I6 a2) (λf s2 h2=>h2.unhandling I.ok) λ_ _ z=>z.elim
end
def tTry (K:Aa)(D0:Aj)(tb:(St->XK)->TS)(th:TS):TS:=λD σ H=>tb (λσ' c _ H'=>∃C,c=.ref C/\qug K C D0/\th D σ' H') D σ H
section
variable {X:Cx}{x:Str}{D0:Aj}{np hpos pos:Pos}{b₀:Stmt}{body suite:List Stmt}{tb:(St->XK)->TS}{th:TS}
theorem xwf (hst:X.stack=X.env::X.outer)(hfr:X.env.frame=some X.env.locals)(hg:Gl X x)(hm:X.mg x=some (.ref D0))(hb:∀(pn:List (Aj×Obj)) (xe:Ag->Ab->Prop) (E:St->XK),uf (X.trying pn xe) E->PassesOwn ↑[X] X.A X.env xe->PSs (X.trying pn xe) body (tb E))(hh:∀e,PSs (X.handling e) (b₀::suite) th) (hdb:autoParam ((x==("__debug__" : Str))=false) aU1._auto_1) :
  PS X (.Try body [.ExceptHandler (some (.Name x np)) none (b₀::suite) hpos] [] [] pos) (tTry X.K D0 tb th):=by
 intro pins s σ H D I h;refine wpAny_Try_except ?_;refine bh (hb (X.pn++pins) (λe J=>wpAny ↑[X] X.A (noteFrame e X.env) (λ_ G=>wpAny ↑[X] X.A (setFlight e none) (λ_ F =>
   wpAny ↑[X] X.A (handleBy e X.env [.ExceptHandler (some (.Name x np)) none (b₀::suite) hpos]) (SP X pins D) X.xe F) X.xe G) X.xe J) _ ?_ PassesOwn.looking [] s σ H D (I.trying _) h) (λf L h1=>?_) λ_ _ z=>z
 .intro ab U H1 L e Z S O;exact land (X:=X) (S.untrying I.ok) hst hfr hg hm hdb O (λc d H' q=>q) hh
 .have h2:=h1.untrying I.ok;cases f with
  |next=>exact di h2
  |brk=>exact h2
  |cont=>exact h2
  |ret u=>exact h2
end
def Sm (n:Nat)(i:Int):Prop:=i.natAbs<2 ^ n
theorem Sm.bits {n:Nat}{i:Int}(h:Sm n i):Builtin.Int.intBits i<=n:=PyProof.Rows.intBits_le h
theorem Sm.mono {n m:Nat}{i:Int}(h:Sm n i)(hm:n<=m):Sm m i:=aL h (Nat.pow_le_pow_right ⋯ hm)
theorem Sm.of_le {n:Nat}{i j:Int}(h:Sm n j)(e:i.natAbs<=j.natAbs):Sm n i:=dL e h
theorem Sm.ok {n m:Nat}{i j:Int}(h:Sm n i)(h':Sm m j)(e:n+m<=134217728):IntMulOk i j:=IntMulOk.of_le h.bits h'.bits e
theorem Sm.log {n:Nat}{i:Int}(h:Sm n i)(hn:n<=9000):i.natAbs.log2<9000:=by
 by_cases h0:i.natAbs=0
 .rw[h0];decide
 .exact aL ((Nat.log2_lt h0).mpr h) hn
theorem Sm.noPl {n:Nat}{i j:Int}(h:Sm n j)(hn:n<=9000):Builtin.divisionGoesByPylong i j=false:=PyProof.noPylong_of_log2 (h.log hn)
section
variable {X:Cx}
theorem zp:OpR X (binaryOp .Mult) (rI IntMulOk λi j=>.int (i*j)):=opI λ_ _ _ _ _ _ _ hc q=>mul_int q hc
theorem uy:OpR X (binaryOp .FloorDiv) (rI (λ_ j=>0<j/\Sm 9000 j) λi j=>.int (i/j)):=opI λi j _ _ _ _ _ hc q =>
 floordiv_int ⋯ (by rw[Int.fdiv_eq_ediv_of_nonneg i (Int.le_of_lt hc.1)];exact q) (.inl (hc.2.noPl (al _)))
end
mutual
def RD (K:Aa)(H:Hp):PyData->V->Prop
 |.none,v=>v=.non
 |.bool b,v=>v=.bl b
 |.int i,v=>v=.int i
 |.str x,v=>v=.str x
 |.list ds,v=>∃a xs,v=.ref a/\SqL K H a xs/\RDs K H ds xs
 |.tuple ds,v=>∃a xs,v=.ref a/\SqT K H a xs/\RDs K H ds xs
 |.dict _,_=>False
def RDs (K:Aa)(H:Hp):List PyData->List V->Prop
 |[],xs=>xs=[]
 |d::ds,xs=>∃y ys,xs=y::ys/\RD K H d y/\RDs K H ds ys
end
section
variable {X:Cx}{pins:List (Aj×Obj)}{σ:St}{H:Hp}{s:Ab}
mutual
theorem W1 (I:Inv X pins σ H s):∀(d:PyData) (v:V) (u:Ag),RD X.K H d v->RelV v u->∃as,Reads s.heap u d as
 |.none,v,u,h,r=>by rw[RD]at h;subst h;cases(show u=Value.none from r);exact⟨_,.none⟩
 |.bool b,v,u,h,r=>by rw[RD]at h;subst h;cases(show u=Value.bool b from r);exact⟨_,.bool b⟩
 |.int i,v,u,h,r=>by rw[RD]at h;subst h;obtain⟨t,rfl⟩:=(show ∃t,u=Value.int i t from r);exact⟨_,.int i t⟩
 |.str x,v,u,h,r=>by rw[RD]at h;subst h;obtain⟨t,rfl⟩:=(show ∃t,u=Value.str x t from r);exact⟨_,.str x t⟩
 |.list ds,v,u,h,r=>by rw[RD]at h;obtain⟨a,xs,rfl,hs,hd⟩:=h;cases(show u=Value.ref a from r);obtain⟨its,rv,⟨o,n,e1,e2,_,e3⟩,_⟩:=I.list hs;obtain⟨as,ha⟩:=qqc I ds xs its hd rv;exact⟨_,.list e1 e2 e3 (by simpa using ha)⟩
 |.tuple ds,v,u,h,r=>by rw[RD]at h;obtain⟨a,xs,rfl,hs,hd⟩:=h;cases(show u=Value.ref a from r);obtain⟨its,rv,⟨o,e1,e2,n,e3⟩,_⟩:=I.tuple hs;obtain⟨as,ha⟩:=qqc I ds xs its hd rv;exact⟨_,.tuple e1 e2 e3 (by simpa using ha)⟩
 |.dict _,_,_,h,_=>by rw[RD]at h;exact h.elim
theorem qqc (I:Inv X pins σ H s):∀(ds:List PyData) (vs:List V) (us:List Ag),RDs X.K H ds vs->Vals vs us->∃as,ReadsAll s.heap us ds as
 |[],vs,us,h,r=>by rw[RDs]at h;subst h;cases r;exact⟨_,.nil⟩
 |d::ds,vs,us,h,r=>by
  rw[RDs]at h;obtain⟨y,ys,rfl,h1,h2⟩:=h;cases r with
  |cons r1 r2 =>
   obtain⟨as,a1⟩:=W1 I d y _ h1 r1;obtain⟨bs,a2⟩:=qqc I ds ys _ h2 r2;exact⟨_,.cons a1 a2⟩
end
def rEqD (K:Aa)(neg:Bool):R2:=λx y H Q=>∃d e,RD K H d x/\RD K H e y/\d.canLay0=true/\e.canLay0=true/\min d.depth e.depth<=60/\Q (.bl (if neg then !PyData.eqv d e else PyData.eqv d e)) H
theorem op_eqD (hu:X.A.units+64<cLine):OpR X (compareOp .Eq) (rEqD X.K false):=by intro pins s σ H x y v u Q I G F h;obtain⟨d,e,h1,h2,c1,c2,O,q⟩:=h;obtain⟨as,L⟩:=W1 I d x v h1 G;obtain⟨S,J⟩:=W1 I e y u h2 F;exact PySem.SeqAt.compareEq_reads L J c1 c2 ⋯ ⟨.bl _,H,I,rfl,q⟩
theorem op_neD (hu:X.A.units+64<cLine):OpR X (compareOp .NotEq) (rEqD X.K true):=by intro pins s σ H x y v u Q I G F h;obtain⟨d,e,h1,h2,c1,c2,O,q⟩:=h;obtain⟨as,L⟩:=W1 I d x v h1 G;obtain⟨S,J⟩:=W1 I e y u h2 F;exact PySem.SeqAt.compareNe_reads L J c1 c2 ⋯ ⟨.bl _,H,I,rfl,q⟩
end
def ptD (p:Int×Int):PyData:=.tuple [.int p.1,.int p.2]
theorem ww6:∀(xs ys:List Int),PyData.eqvAll (xs.map .int) (ys.map .int)=decide (xs=ys)
 |[],[]=>rfl
 |[],_::_=>rfl
 |_::_,[]=>rfl
 |x::xs,y::ys=>by
  rw[aH,aH,PyData.eqvAll,ww6 xs ys,PyData.eqv];by_cases h:x=y
  .subst h;simp
  .simp[h]
theorem xq6 (p q:Int×Int):PyData.eqv (ptD p) (ptD q)=decide (p=q):=by obtain⟨a,b⟩:=p;obtain⟨c,d⟩:=q;unfold ptD;rw[PyData.eqv];have:=ww6 [a,b] [c,d];rw[aH,aH,cA,aH,aH,cA]at this;rw[this];simp
end
section
section
variable {P:Ac}{w:Ah}{K:Aa}{mg:Str->Option Ag}{base:Heap}
theorem Fun.okX {x qual:Str}{st:Stmt}{f:Aj}{fd:Ad}{N ps:List Str}{k:Nat}{sp:Sp}(F:Fun K x qual st f fd)(S:FnScope N ps (wm st))(len:∀vs H Q E,sp vs H Q E->vs.length=ps.length)(body:∀(cdv:Ag) (A:Ae) (outer:List Env) (s:Ab) (H:Hp) (vs:List V) (Q:VK) (E:XK),Room k (A.deeper (envOfC qual (wm st) s.heap.objs.size f cdv))->sp vs H Q E ->
   ∃t,PSs (yf (CXE P w) P w K mg base N qual (wm st) f cdv A outer s H E) (jk st) t/\t { nx:=λ_ H'=>Q .non H',rt:=Q } (Y4 N vs) H):↑FnOk (CXE P w) (k+1) f fd ps sp:=by
 obtain⟨oc,Z,kV,ab,O,an,cdv,ct,U,rfl,G,L⟩:=F.ex;exact fn_of G L S len λA outer s H vs Q E J I=>body cdv A outer s H vs Q E J I
structure DefIn (K:Aa)(x:Str)(st:Stmt):Prop where
 ex:∃f fd,W.nsIn K mainGlobals x=some (some (.ref f))/\Fun K x x st f fd
theorem def_mk {x:Str}{st:Stmt}{f:Aj}{oc:Ag}{od an:Option Aj}{osl:Array (Option Ag)}{kV doc pm cdv ct:Ag}(a:W.nsIn K mainGlobals x=some (some (.ref f)))(l:K.lookup f=some ⟨oc,od,.func (W.fnOf x x (yp st) (jk st) (wm st) .none kV doc pm an cdv ct),osl⟩) (c:W.codeIn K cdv x=true) (k:W.keepIn K (.ref f)=true):DefIn K x st:=⟨_,_,a,xqz l c k⟩
def zq (x:Str)(st:Stmt)(ps:List Str):Prop:=∀(kV doc pm:Ag) (an:Option Aj) (cdv ct:Ag) (us:List Ag),us.length=ps.length->bindArgs (W.fnOf x x (yp st) (jk st) (wm st) .none kV doc pm an cdv ct) ⟨us,[]⟩=pure (ps.zip us)
theorem bA1 {f}{ps:List Str}{u:List Ag}(h:u.length=1)(k:∀a,bindArgs f ⟨[a],[]⟩=pure (ps.zip [a])):bindArgs f ⟨u,[]⟩=pure (ps.zip u):=by rcases u with _|⟨a,_|_⟩<;>first|exact k a|cases h
theorem bA2 {f}{ps:List Str}{u:List Ag}(h:u.length=2)(k:∀a b,bindArgs f ⟨[a,b],[]⟩=pure (ps.zip [a,b])):bindArgs f ⟨u,[]⟩=pure (ps.zip u):=by rcases u with _|⟨a,_|⟨b,_|_⟩⟩<;>first|exact k a b|cases h
theorem bA3 {f}{ps:List Str}{u:List Ag}(h:u.length=3)(k:∀a b c,bindArgs f ⟨[a,b,c],[]⟩=pure (ps.zip [a,b,c])):bindArgs f ⟨u,[]⟩=pure (ps.zip u):=by rcases u with _|⟨a,_|⟨b,_|⟨c,_|_⟩⟩⟩<;>first|exact k a b c|cases h
theorem bA4 {f}{ps:List Str}{u:List Ag}(h:u.length=4)(k:∀a b c d,bindArgs f ⟨[a,b,c,d],[]⟩=pure (ps.zip [a,b,c,d])):bindArgs f ⟨u,[]⟩=pure (ps.zip u):=by rcases u with _|⟨a,_|⟨b,_|⟨c,_|⟨d,_|_⟩⟩⟩⟩<;>first|exact k a b c d|cases h
structure Cal (P:Ac)(w:Ah)(K:Aa)(mg:Str->Option Ag)(base:Heap)(x:Str)(k:Nat)(sp:Sp):Prop where
 ex:∃f fd ps,mg x=some (.ref f)/\↑FnOk (CXE P w) k f fd ps sp/\W.keepIn K (.ref f)=true/\Binds K fd ps []
theorem DefIn.cal {x:Str}{st:Stmt}{ps:List Str}{k:Nat}{sp:Sp}{h:Heap}(d:DefIn K x st)(KX:K.In h)(G:h.Ns mainGlobals mg)(b:zq x st ps)(ok:∀f fd,Fun K x x st f fd->↑FnOk (CXE P w) k f fd ps sp):↑Cal x k sp:=by obtain⟨f,fd,a,F⟩:=d.ex;exact⟨f,fd,ps,aP KX G a,ok f fd F,F.kp,F.binds b⟩
end
section
variable {X:Cx}{x:Str}{k:Nat}{sp:Sp}{E:St->XK}{p pos:Pos}{e:Expr}{es:List Expr}{t:TA}
theorem qvg (c:Cal X.prog X.w X.K X.mg X.base x k sp)(hr:Room k X.A)(hg:Gl X x)(hx:uf X E)(ha:PA X (e::es) t) (hdb:autoParam ((x==("__debug__" : Str))=false) aU1._auto_1) (he:autoParam (starEach (e::es) X.env=(false,eval e X.env)::starEach es X.env) aU4._auto_1) (hpl:autoParam ((backTo pos (starEach es X.env)).any (·.1)=false) aU4._auto_1) :
  PE X (.Call (.Name x p) (e::es) [] pos) (wvs sp E t):=by
 obtain⟨f,fd,ps,I,F,G,b⟩:=c.ex;exact xqx F hr hg I G b hx ha hdb he hpl
end
def tCut (t u:TS):TS:=λD σ H=>∃R:St->Hp->Prop,t { D with nx:=R } σ H/\∀σ' H',R σ' H'->u D σ' H'
theorem jf {X:Cx}{st:Stmt}{rest:List Stmt}{t u:TS}(h1:PS X st t)(h2:PSs X rest u):PSs X (st::rest) (tCut t u):=by
 intro pins s σ H D I ⟨R,h,hR⟩;refine fV (thn (h1 pins s σ H { D with nx:=R } I h) λf G q=>?_);cases f with
 |next =>
  obtain⟨F,H1,L,J⟩:=q;exact h2 pins G F H1 D L (hR F H1 J)
 |brk=>exact q
 |cont=>exact q
 |ret u=>exact q
theorem zn {c A B:Prop}[Decidable c](h1:c->A)(h2:¬ c->B):if decide c=true then A else B:=by
 by_cases h:c
 .rw[aT h];exact jg (h1 h)
 .rw[be h];exact yz (h2 h)
theorem qvj {c A B:Prop}[Decidable c](h1:¬ c->A)(h2:c->B):if(!decide c)=true then A else B:=by
 by_cases h:c
 .rw[aT h];exact yz (h2 h)
 .rw[be h];exact jg (h1 h)
theorem deqI {i j:Int}:decide (V.int i=V.int j)=decide (i=j):=by
 by_cases h:i=j
 .subst h;simp
 .simp[h]
theorem v9 {i j:Int}{A B:Prop}(h1:i=j->A)(h2:i≠j->B):if decide (V.int i=V.int j)=true then A else B:=by rw[deqI];exact zn h1 h2
theorem xN {i j:Int}{A B:Prop}(k:B)(h:autoParam (i≠j) aU1._auto_1):if decide (V.int i=V.int j)=true then A else B:=v9 (λz=>absurd z h) (λ_=>k)
theorem xqs {i j:Int}{A B:Prop}(h1:i≠j->A)(h2:i=j->B):if(!decide (V.int i=V.int j))=true then A else B:=by rw[deqI];exact qvj h1 h2
theorem Same.upd {H:Hp}{p:Aj}{o:HO}(n:H p=none):Same H (upd H p o):=λb u e=>by rw[wg (wq e n)];exact e
theorem Same.rd {H H':Hp}{a:Aj}{o:HO}(h:Same H H')(r:Rd H a o):Rd H' a o:=by
 rcases r with r|⟨u,r⟩
 .exact .inl (h a _ r)
 .exact .inr ⟨u,h a _ r⟩
theorem Same.sqt {K:Aa}{H H':Hp}{a:Aj}{xs:List V}(h:Same H H')(s:SqT K H a xs):SqT K H' a xs:=by
 rcases s with s|s
 .exact .inl (h.rd s)
 .exact .inr s
theorem Same.sql {K:Aa}{H H':Hp}{a:Aj}{xs:List V}(h:Same H H')(s:SqL K H a xs):SqL K H' a xs:=h.seq s
theorem SqT.new {K:Aa}{H:Hp}{p:Aj}{xs:List V}:SqT K (upd H p (.tup xs)) p xs:=SqT.of qb
theorem SqL.new {K:Aa}{H:Hp}{p:Aj}{xs:List V}:SqL K (upd H p (.lst xs)) p xs:=SqL.of qb
theorem Yh:bootBuiltins "abs" = some (.builtin "abs"):=by decide +kernel
theorem wq5:bootBuiltins "all" = some (.builtin "all"):=by decide +kernel
theorem Jz {ns:List Int}{i:Int}(h0:0<=i)(h1:i<ns.length):atI (ns.map V.int) i=some (V.int (ns.getD i.toNat 0)):=by
 have F:i.toNat<ns.length:=by lia
 have e:(ns.map V.int)[i.toNat]?=some (V.int (ns.getD i.toNat 0)):=by rw[aB,av,aj F];rfl
 have:=uw e;rwa [cV h0]at this
def wxq (ns:List Int)(i:Int):Int:=if i<ns.length then ns.getD i.toNat 0 else if(ns.length:Int)=0 then 7*i+3 else ns.getD (i%ns.length).toNat 0+1009*i
def divs (c:Int):Nat->Int
 |0=>c
 |n+1=>divs c n/1000
def qz5 (K:Aa):Sp:=λvs H Q _=>∃(a:Aj) (ns:List Int) (i:Int),vs=[.ref a,.int i]/\SqL K H a (ns.map V.int)/\0<=i/\∀r,r=wxq ns i->Q (.int r) H
def Wn (c:Int):Int:=if c<0 then -c else c
def qyw (c t:Int):Int:=(c%1000003*48271+t*7919+101)%999983
def wx3 (c t:Int):Int:=(qyw c t*qyw c t+c%1000003*31+t*104729)%1000033
def wqs (c t:Int):Int:=if 10 ^ 18<=Wn c then(if c<0 then divs (Wn c) t.toNat%1000 else divs (Wn c) t.toNat) else(wx3 c t*wx3 c t+qyw c t*17+t*30011)%999979
def qq5 (ns:List Int)(i t m:Int):Int:=wqs (wxq ns i) t%m
theorem xxg {c t:Int}(h:10 ^ 18<=Wn c)(n:c<0):wqs c t=divs (Wn c) t.toNat%1000:=by rw[wqs,ak h,ak n]
theorem wjr {c t:Int}(h:10 ^ 18<=Wn c)(n:¬ c<0):wqs c t=divs (Wn c) t.toNat:=by rw[wqs,ak h,ag n]
theorem wur {c t:Int}(h:¬ 10 ^ 18<=Wn c):wqs c t=(wx3 c t*wx3 c t+qyw c t*17+t*30011)%999979:=by rw[wqs,ag h]
def W8 (K:Aa):Sp:=λvs H Q _=>∃(a:Aj) (ns:List Int) (i t m:Int),vs=[.ref a,.int i,.int t,.int m]/\SqL K H a (ns.map V.int)/\0<=i/\0<=t/\t<1000000/\0<m /\
 ∀r,r=qq5 ns i t m->0<=r->r<m->Q (.int r) H
theorem Sm.small {n:Nat}{i:Int}(h1:-(2 ^ 64)<=i)(h2:i<=2 ^ 64)(hn:65<=n):Sm n i:=by refine Sm.mono (n:=65) ?_ hn;unfold Sm;lia
def wv9 (K:Aa):Sp:=λvs H Q _=>∃(a:Aj) (ns:List Int),vs=[.ref a]/\SqL K H a (ns.map V.int)/\ns.length<=63/\∀H',Q (.bl true) H'
theorem sz1 {x:V}:[x].length<=sizeLine:=by show 1<=sizeLine;decide
theorem sz2 {x y:V}:[x,y].length<=sizeLine:=by show 2<=sizeLine;decide
theorem sz0:([]:List V).length<=sizeLine:=by show 0<=sizeLine;decide
end
end L2
namespace L2
open PySem
def qwm (x y:Int):Int:=((Nat.gcd x.toNat y.toNat:Nat):Int)
theorem wyu {x:Int}(h:0<=x):qwm x 0=x:=by unfold qwm;have:(0:Int).toNat=0:=rfl;rw[this,Nat.gcd_zero_right];lia
theorem wyj {x y:Int}(hx:0<=x)(hy:0<y):qwm y (x%y)=qwm x y:=by
 unfold qwm;have e:(x%y).toNat=x.toNat%y.toNat:=by
  have h1:x=(x.toNat:Int):=by lia
  have h2:y=(y.toNat:Int):=by lia
  have F:x%y=((x.toNat%y.toNat:Nat):Int):=by
   conv=>lhs;rw[h1,h2]
   exact(Int.natCast_emod _ _).symm
  rw[F];exact dU _
 rw[e,Nat.gcd_comm y.toNat,<-Nat.gcd_rec,Nat.gcd_comm]
theorem wjm (t:Int):Wn t=(t.natAbs:Int):=by unfold Wn;split <;> lia
theorem wkm (t:Int):0<=Wn t:=by rw[wjm];lia
theorem yh (t b:Int):qwm (Wn t) b=((Nat.gcd t.natAbs b.toNat:Nat):Int):=by unfold qwm;rw[wjm,dU]
def gOf (t b:Int):Int:=qwm (Wn t) b
def xv (t b:Int):Int×Int:=(t/gOf t b,b/gOf t b)
theorem um {t b:Int}(h:1<=b):1<=gOf t b:=by unfold gOf;rw[yh];have:0<Nat.gcd t.natAbs b.toNat:=Nat.gcd_pos_of_pos_right _ ⋯;lia
theorem xxv {t b:Int}(h:1<=b):gOf t b<=b:=by unfold gOf;rw[yh];have:Nat.gcd t.natAbs b.toNat<=b.toNat:=Nat.gcd_le_right _ ⋯;lia
theorem wyf {t b:Int}(h:1<=b):gOf t b∣b:=by
 unfold gOf;rw[yh];have h1:((Nat.gcd t.natAbs b.toNat:Nat):Int)∣(b.toNat:Int):=fX.mpr (Nat.gcd_dvd_right _ _);have h2:(b.toNat:Int)=b:=by lia
 rwa [h2]at h1
theorem wyc {t b:Int}:gOf t b∣t:=by unfold gOf;rw[yh];have h1:((Nat.gcd t.natAbs b.toNat:Nat):Int)∣(t.natAbs:Int):=fX.mpr (Nat.gcd_dvd_left _ _);exact Int.dvd_natAbs.mp h1
theorem wxg {t b:Int}:gOf t b*(t/gOf t b)=t:=eM wyc
theorem qzr {t b:Int}(h:1<=b):gOf t b*(b/gOf t b)=b:=eM (wyf h)
theorem qjw {t b:Int}(h:1<=b):(xv t b).1*b=t*(xv t b).2:=by
 unfold xv;dsimp only;have h1:=wxg (t:=t) (b:=b);have h2:=qzr (t:=t) (b:=b) h
 conv=>lhs;rw[<-h2]
 conv=>rhs;rw[<-h1]
 rw[h1,h2];have G:t/gOf t b*b=t/gOf t b*(gOf t b*(b/gOf t b)):=by rw[h2]
 have F:t*(b/gOf t b)=gOf t b*(t/gOf t b)*(b/gOf t b):=by rw[h1]
 rw[G,F,<-Int.mul_assoc,gk (t/gOf t b)]
theorem Zj {t b:Int}(h:1<=b):1<=(xv t b).2:=by
 show 1<=b/gOf t b;have h2:=qzr (t:=t) (b:=b) h;have F:=um (t:=t) h;have:0<b/gOf t b:=by
  rcases cS 0 (b/gOf t b) with z|z
  .exact z
  .have:=bQ z (show 0<=gOf t b by lia);rw[h2,Int.mul_zero]at this;lia
 lia
theorem xw5 {t b:Int}(h:1<=b):(xv t b).2<=b:=Int.ediv_le_self _ ⋯
theorem xwx {t b:Int}(h:1<=b):gOf (xv t b).1 (xv t b).2=1:=by
 have Z:=um (t:=t) h;have U:=Zj (t:=t) h;obtain⟨g,F⟩:∃g:Nat,gOf t b=(g:Int):=⟨_,by unfold gOf;exact yh t b⟩;have L:0<g:=by lia
 have J:g=Nat.gcd t.natAbs b.toNat:=by
  have:(g:Int)=((Nat.gcd t.natAbs b.toNat:Nat):Int):=by rw[<-F];unfold gOf;exact yh t b
  lia
 have O:g*(xv t b).1.natAbs=t.natAbs:=by have:=wxg (t:=t) (b:=b);have e:=bu Int.natAbs this;rw[Int.natAbs_mul,F]at e;simpa [xv,F] using e
 have S:g*(xv t b).2.toNat=b.toNat:=by
  have:=qzr (t:=t) (b:=b) h;rw[F]at this;have q:(xv t b).2=b/(g:Int):=by unfold xv;rw[F]
  have G:b/(g:Int)=((b/(g:Int)).toNat:Int):=by rw[<-q];lia
  rw[q];rw[G]at this;have:((g*(b/(g:Int)).toNat:Nat):Int)=b:=by rw[gm];exact this
  lia
 unfold gOf;rw[yh];have I:g*Nat.gcd (xv t b).1.natAbs (xv t b).2.toNat=g*1:=by rw[<-Nat.gcd_mul_left,O,S,<-J,Nat.mul_one]
 have:=Nat.eq_of_mul_eq_mul_left L I;rw[this];rfl
theorem xvn {t b c:Int}(h:1<=b)(hc:1<=c):gOf (t*c) (b*c)=gOf t b*c:=by
 unfold gOf;rw[yh,yh];have J:(t*c).natAbs=t.natAbs*c.toNat:=by
  rw[Int.natAbs_mul];have:c.natAbs=c.toNat:=by lia
  rw[this]
 have I:(b*c).toNat=b.toNat*c.toNat:=by
  have G:b=(b.toNat:Int):=by lia
  have F:c=(c.toNat:Int):=by lia
  have:b*c=((b.toNat*c.toNat:Nat):Int):=by rw[gm,<-G,<-F]
  lia
 rw[J,I,Nat.gcd_mul_right,gm];have:(c.toNat:Int)=c:=by lia
 rw[this]
theorem xz1 {t b c:Int}(h:1<=b)(hc:1<=c):xv (t*c) (b*c)=xv t b:=by unfold xv;rw[xvn h hc];have hg:=um (t:=t) h;rw[dj _ _ (show 0<c by lia),dj _ _ (show 0<c by lia)]
end L2
namespace L2
open PySem PySem.Spec PyProof.Rows
section
def CapAll (env:Env):List (Str×Aj)->Prop
 |[]=>True
 |(y,c)::r=>env.cells.lookup y=some c/\CapAll env r
theorem CapAll.look {env:Env}:∀ {cl:List (Str×Aj)},CapAll env cl->∀ {y:Str} {c:Aj},cl.lookup y=some c->env.cells.lookup y=some c
 |[],_,_,_,e=>by cases e
 |(z,d)::r,h,y,c,e=>by
  rw[aO]at e;cases hb:y==z with
  |true =>
   rw[hb]at e;rw[eq_of_beq hb];exact h.1.trans e
  |false =>
   rw[hb]at e;exact CapAll.look h.2 e
def HasAll (cl:List (Str×Aj)):List (Str×NameKind)->Prop
 |[]=>True
 |(n,k)::r=>(k=.free->∃c,cl.lookup n=some c)/\k≠.cell/\HasAll cl r
theorem HasAll.nocell {cl:List (Str×Aj)}:∀ {ns:List (Str×NameKind)},HasAll cl ns->∀y∈ns,y.2≠.cell
 |(n,k)::r,h,y,hy=>by
  rcases ae.mp hy with rfl|hy
  .exact h.2.1
  .exact HasAll.nocell h.2.2 y hy
theorem HasAll.has {cl:List (Str×Aj)}{env:Env}:∀ {ns:List (Str×NameKind)},HasAll cl ns->∀ {x:Str} {q:NameKind},q=.cell\/q=.free ->
  (ns.map λ(n,k)=>if(k==NameKind.free&&env.scope.kind==.function&&env.kindOf n==some .cell) then(n,NameKind.cell) else(n,k)).lookup x=some q->∃c,cl.lookup x=some c
 |[],_,_,_,_,e=>by cases e
 |(n,k)::r,h,x,q,hq,e=>by
  have ih:=HasAll.has (env:=env) h.2.2 (x:=x) hq;rw[aH]at e;by_cases hc:(k==NameKind.free&&env.scope.kind==.function&&env.kindOf n==some .cell)=true
  .have e':=e;dsimp only at e';rw[ak hc,aO]at e';cases hb:x==n with
   |true =>
    rw[bv,bv]at hc;obtain⟨c,hcc⟩:=h.1 (eq_of_beq hc.1.1);exact⟨c,by rw[eq_of_beq hb];exact hcc⟩
   |false =>
    rw[hb]at e';exact ih e'
  .have e':=e;dsimp only at e';rw[ag hc,aO]at e';cases hb:x==n with
   |true =>
    rw[hb]at e';have ek:k=q:=au e';rcases hq with rfl|rfl
    .exact absurd ek h.2.1
    .obtain⟨c,hcc⟩:=h.1 ek;exact⟨c,by rw[eq_of_beq hb];exact hcc⟩
   |false =>
    rw[hb]at e';exact ih e'
def CapIx (X:Cx)(scope:Scope)(cl:List (Str×Aj)):List Nat->Prop
 |[]=>True
 |j::r=>(∃y c,X.N[j]?=some y/\X.env.scope.names.lookup y=some .cell/\(relabel scope X.env).names.lookup y=some .cell/\cl.lookup y=some c)/\CapIx X scope cl r
theorem CapIx.get {X:Cx}{scope:Scope}{cl:List (Str×Aj)}:∀ {M:List Nat},CapIx X scope cl M->∀ {k j:Nat},M[k]?=some j ->
  ∃y c,X.N[j]?=some y/\X.env.scope.names.lookup y=some .cell/\(relabel scope X.env).names.lookup y=some .cell/\cl.lookup y=some c
 |[],_,k,j,e=>by cases e
 |i::r,h,0,j,e=>by cases e;exact h.1
 |i::r,h,k+1,j,e=>CapIx.get h.2 (k:=k) e
def Y5 (X:Cx)(x:Str)(M:List Nat):List Str:=x::M.map λj=>X.N.getD j Str.empty
def kj (M:List Nat)(σ:St)(o:Option V):St:=o::M.map λj=>(σ[j]?).join
abbrev ku (X:Cx)(scope:Scope)(cl:List (Str×Aj))(x:Str)(M:List Nat)(C:Aj)(s2:Ab)(H2:Hp)(fp:List Aj)(pn:List (Aj×Obj)):Cx :=
 { X with N:=Y5 X x M,s₀:=s2,H₀:=H2,env:=compEnvC scope cl C X.env,outer:=X.stack,ex:=fp,fn:=λ_=>false,pn:=pn,xe:=λ_ _=>False }
section
variable {X:Cx}{pins:List (Aj×Obj)}{σ:St}{H:Hp}{s2:Ab}{scope:Scope}{cl:List (Str×Aj)}{x:Str}{M:List Nat}{fp:List Aj}{C:Aj}{h1:Heap}{tk:Nat}
theorem Inv.compG {oo:HO}{xs:List Str}(I:Inv X pins σ H s2)(hc:CapAll X.env cl)(hh:HasAll cl scope.names)(hm:CapIx X scope cl M)(hk:scope.kind=.function)(hC:s2.heap.objs.size<C)(keep:∀b o,s2.heap.get? b=some o->h1.get? b=some o) (hn:h1.Ns C λ_=>none) (hD:ObjOk X.prog X.w (upd H s2.heap.objs.size oo) h1 s2.heap.objs.size oo)(hfp:∀b∈fp,Qx X pins H b) (hob:∀b∈fp,∃o,s2.heap.get? b=some o) :
  Inv { X with N:=xs++M.map λj=>X.N.getD j Str.empty,s₀:=s2,H₀:=H,env:=compEnvC scope cl C X.env,outer:=X.stack,ex:=fp,fn:=λ_=>false,pn:=X.pn++pins,xe:=λ_ _=>False } [] ((xs.map λ_=>none)++M.map λj=>(σ[j]?).join) (upd H s2.heap.objs.size oo) { s2 with heap:=h1,toks:=tk }:=by
 have an:=I.hok.fresh (a:=s2.heap.objs.size) (al _);have o:=I.ok;have L:∀y c,cl.lookup y=some c->X.env.cells.lookup y=some c:=λy c e=>hc.look e;have ah:∀b∈fp,b<s2.heap.objs.size:=λb O=>by obtain⟨J,e⟩:=hob b O;exact ao e
 have ab:∀b∈fp,b∉frs X.stack:=λb O z=>by
  rcases ae.mp (I.stkSub b z) with z|z
  .exact(hfp b O).2.1 z
  .exact(hfp b O).2.2.1 z
 have ap:H C=none:=I.hok.fresh (bK hC);refine⟨⟨o.mod,hk,o.glob,o.blt,bK hC,λy z c G F=>o.inj y z c (L y c G) (L z c F),λy U=>?_,λy c z=>(aM z).elim,o.hd,o.frames,.inl rfl,λb O=>⟨aD (bw (ah b O) hC),λy c e=>(hfp b O).2.2.2.2.1 y c (L y c e)⟩,
  λb J e=>I.bs b J e,bB o.bsz I.sz,λb J e z=>?_,ab,I.stack,I.stkFree⟩,rfl,I.bare,?_,?_,λy c e=>?_,?_,λy c e=>?_,λp hp=>?_,?_,?_⟩
 .rcases U with U|U
  .exact hh.has (.inl rfl) U
  .exact hh.has (.inr rfl) U
 .obtain⟨G,F⟩:=I.bs b J e;exact(hfp b z).2.2.2.1.elim (λq=>o.noex b J e q) λq=>by have:=o.bs b J e;exact aU _ (aL (ao this.1) q)
 .exact(Un.laid (fs:=frs X.stack) (ex:=fp) (o:=oo) keep (al _) an)
 .refine⟨_,hn,λi z v G F e3=>?_⟩;rcases de i xs.length with hi|hi
  .have F:((xs.map λ_=>(none:Option V))++M.map λj=>(σ[j]?).join)[i]?=some (some v):=F;rw[bz (by rw[aa];exact hi),aB,aj hi]at F;cases F
  have S:(xs++M.map λj=>X.N.getD j Str.empty)[i]?=some z:=G;have Z:((xs.map λ_=>(none:Option V))++M.map λj=>(σ[j]?).join)[i]?=some (some v):=F;rw[bi hi]at S;rw[bi (by rw[aa];exact hi),aa]at Z;generalize i-xs.length=k at S Z;rw[aB]at S Z;cases hj:M[k]? with
  |none=>rw[hj]at S;cases S
  |some j =>
   rw[hj]at S Z;obtain⟨y,c,f1,f2,f3,f4⟩:=hm.get hj;have ez:X.N.getD j Str.empty=z:=au S;rw[av,f1]at ez;have a0:y=z:=ez;subst a0;have ev:(σ[j]?).join=some v:=au Z;have a1:σ[j]?=some (some v):=by
    cases hs:σ[j]? with
    |none=>rw[hs]at ev;cases ev
    |some w' =>
     rw[hs]at ev;have:w'=some v:=ev;rw[this]
   obtain⟨m,a2,hl⟩:=I.loc;obtain⟨u,r,l⟩:=hl j y v f1 a1 (.inr (.inl f2));refine⟨u,r,.inr ⟨.inl f3,c,f4,?_⟩⟩;rcases l with⟨lk,_⟩|⟨_,c',lc,li⟩
   .have:X.env.scope.names.lookup y=some .local:=lk;rw[f2]at this;cases this
   .rw[L y c f4]at lc;have:=au lc;subst this;exact li.keeps keep
 .obtain⟨v,hv⟩:=I.cell y c (L y c e);exact⟨v,hv.keeps keep⟩
 .show upd H s2.heap.objs.size oo C=none;rw[wg (ff hC)];exact ap
 .show upd H s2.heap.objs.size oo c=none;obtain⟨v,J,G,F⟩:=I.cell y c (L y c e);rw[wg (aD (ao G))];exact I.freeC y c (L y c e)
 .have ad:p∈X.pn++pins:=(ba.mp hp).elim (λz=>z) λz=>nomatch z;obtain⟨G,F,e3,e4,e5⟩:=I.pin p ad;refine⟨keep _ _ G,?_,aD (bw (ao G) hC),λz=>?_,e5⟩
  .rw[wg (aD (ao G))];exact F
  .rcases ae.mp (I.stkSub p.1 z) with z|z
   .exact e3 z
   .exact e4 z
 .exact I.hok.laid keep (al _) hD
 .show((xs.map λ_=>(none:Option V))++M.map λj=>(σ[j]?).join).length=(xs++M.map λj=>X.N.getD j Str.empty).length;simp only[aE,aa]
theorem Inv.comp (I:Inv X pins σ H s2)(hc:CapAll X.env cl)(hh:HasAll cl scope.names)(hm:CapIx X scope cl M)(hk:scope.kind=.function)(hC:s2.heap.objs.size<C)(keep:∀b o,s2.heap.get? b=some o->h1.get? b=some o) (hn:h1.Ns C λ_=>none) (hD:h1.get? s2.heap.objs.size=some { cls:=.type "list",data:=.seq #[] 0 })(hfp:∀b∈fp,Qx X pins H b) (hob:∀b∈fp,∃o,s2.heap.get? b=some o) :
  Inv (ku X scope cl x M C s2 H fp (X.pn++pins)) [] (kj M σ none) (upd H s2.heap.objs.size (.lst [])) { s2 with heap:=h1,toks:=tk }:=I.compG (xs:=[x]) hc hh hm hk hC keep hn ⟨aA _,[],0,.nil,hD⟩ hfp hob
theorem Inv.uncomp {pins':List (Aj×Obj)}{σ':St}{H':Hp}{s':Ab}{h':Heap}(I:Inv X pins σ H s2)(hC:s2.heap.objs.size<=C)(hfp:∀b∈fp,Qx X pins H b)(J:Inv (ku X scope cl x M C s2 H fp (X.pn++pins)) pins' σ' H' s') (hs:Heap.SameBut C s'.heap h'):Inv X pins σ H' { s' with heap:=h' }:=by
 have F:=J.base;have O:∀b o,s2.heap.get? b=some o->b≠C:=λb o e=>aD (aL (ao e) hC);have st:∀b o,b≠C->s'.heap.get? b=some o->h'.get? b=some o:=λb o n e=>(hs.2 b n).trans e;refine I.call' (s':={ s' with heap:=h' }) (ch:=fp) J.os ⟨λb o e n nb G=>st b o (O b o e) (F.keep b o e n nb G),λb o e n ad G=>?_,F.free,λb o e G=>?_,F.tups,F.frzs,F.tbls⟩ ?_ J.bare λb ab=>?_
 .obtain⟨sl,U⟩:=F.slot b o e n ad G;exact⟨sl,st b _ (O b o e) U⟩
 .obtain⟨o',U⟩:=F.there b o e G;exact⟨o',st b _ (O b o e) U⟩
 .intro b u S;have Z:H' C=none:=J.free;refine(J.hok b u S).stay (λc v L e=>st c v ?_ e) (λ_ z=>z) λ_ _ z=>z;rcases L with rfl|L
  .intro z;rw[z,Z]at S;cases S
  .intro z;rw[z,Z]at L;cases L
 .obtain⟨q1,q2,q3,q4,q5,q6⟩:=hfp b ab;exact⟨q4,q2,q5,q6⟩
end
def qx4 (J:It)(M:List Nat)(te:TE)(σ:St)(H1:Hp)(Q:VK):Prop:=∀p,H1 p=none->∃W:Nat->Nat->List V->Hp->Prop,(∃m,W 0 m [] (upd H1 p (.lst []))) /\
 ∀i m ys H2,W i m ys H2->H2 p=some (.lst ys)/\ys.length<sizeLine/\((J.stop i H2/\Q (.ref p) H2)\/(J.go i H2/\∀v H3,J.yld i H2 v H3 ->
  te (kj M σ (some v)) H3 λy H4=>H4 p=some (.lst ys)/\∃m',m'<m/\W (i+1) m' (ys++[y]) (upd H4 p (.lst (ys++[y])))))
def tComp (M:List Nat)(wi:TI)(te:TE):TE:=λσ H Q=>wi σ H λJ H1=>qx4 J M te σ H1 Q
theorem Zc {Y:Cx}{tg e:Expr}{k:Nat}{acc:Ag}{it:Aj}{fp:List Aj}{tn:Nat->Heap->Prop}{J:It}{ps:Pos}{REST:Sem PySem.Fin}{post:Result->Ab->Prop}{gg:TG}{pins:List (Aj×Obj)}{σ:St}{V:Nat->Nat->Hp->Prop}{Qd:Hp->Prop}{s0:Ab}{H0:Hp}{n0:Nat}
  (T:Turn Y.prog Y.w Y.K tg J fp it tn) (hc:Y.calm=true) (hx:∀v s,Y.xe v s->False)(hturn:compTurn e k (.ref it) acc Y.env=(standAt ps >>= λ_=>pyNext (.ref it) >>= λr=>match r with|none=>pure (.done .next)|some v=>letOwnedTupleGo tg (.ref it) v >>= λ_=>assign tg Y.env v >>= λ_=>REST))(hun:Y.A.under (.compLoop e k (.ref it) acc Y.env)=Y.A) (hden:(model Y.prog Y.w).den (.compLoop e k (.ref it) acc Y.env)=((compTurn e k (.ref it) acc Y.env).onRaise λz=>do noteFrame z Y.env;theTreesLotGoes z))(hg:PG Y tg gg) (fok:∀H2:Hp,(∀b∈fp,H2 b=none)->∀b∈fp,Qx Y pins H2 b)(hV:∀i n H2,V i n H2->(J.stop i H2/\Qd H2)\/(J.go i H2/\∀v H3,J.yld i H2 v H3->∃Z:St->Hp->Prop,gg v σ H3 Z/\∀σ4 H4,Z σ4 H4->(σ.length=σ4.length/\∀(k:Nat) z,σ[k]?=some (some z)->σ4[k]?=some (some z))/\∀pins' s',Inv Y pins' σ4 H4 s' ->
   wpAny (model Y.prog Y.w) Y.A REST (λr s5=>r=Fin.again (.compLoop e k (.ref it) acc Y.env)/\∃H5,Inv Y pins' σ4 H5 s5/\∃n',n'<n/\V (i+1) n' H5) Y.xe s'))(fin:∀H2 s4,Inv Y pins σ H2 s4->Qd H2->post (.ok .next) s4) (I:Inv Y pins σ H0 s0) (v0:V 0 n0 H0) (t0:tn 0 s0.heap) (nf:∀b∈fp,H0 b=none) :
  codeAny (model Y.prog Y.w) Y.A (.compLoop e k (.ref it) acc Y.env) post s0:=by
 refine codeAny_loop rfl (λn F=>∃i H2,V i n H2/\Inv Y pins σ H2 F/\tn i F.heap/\∀b∈fp,H2 b=none) (λn F hI=>?_) n0 ⟨0,H0,v0,I,t0,nf⟩;obtain⟨i,H2,w,J2,t,U⟩:=hI;rw[hun,hden];refine wpAny_noted ?_;rw[hturn];refine ac (dn (ac ?_));rcases hV i n H2 w with⟨ad,hq⟩|⟨a1,hy⟩
 .refine bh (T.done Y rfl rfl rfl hc i pins F _ H2 (λ_ _=>False) J2 (fok H2 U) t ad) (λr s4 O=>?_) λ_ _ z=>z.elim;obtain⟨rfl,J4⟩:=O;exact aq (fin H2 s4 J4 hq)
 .refine bh (T.item Y rfl rfl rfl hc i pins F _ H2 (λ_ _=>False) J2 (fok H2 U) t a1) (λr s4 O=>?_) λ_ _ z=>z.elim;obtain⟨u,rfl,hw⟩:=O;refine ac (bh hw (λ_ s5 ap=>?_) λ_ _ z=>z.elim);obtain⟨v,H3,J5,rv,yl,L,nf⟩:=ap;obtain⟨Z,hz,hZ⟩:=hy v H3 yl;refine ac (bh (hg _ s5 _ H3 v u _ (J5.pinned (fok H3 nf) (T.obj _ _ L)) rv hz) (λ_ s6 an=>?_) λv s z=>(hx v s z).elim);obtain⟨σ6,H6,J6,z6⟩:=an;obtain⟨⟨hl,ab⟩,hR⟩:=hZ σ6 H6 z6;refine bh (hR _ s6 J6) (λr s7 ah=>?_) λv s z=>(hx v s z).elim;obtain⟨rfl,H7,S,n',a0,v7⟩:=ah;refine⟨rfl,n',a0,i+1,H7,v7,(S.unpinned (pins:=pins)).weak hl ab,?_,?_⟩
  .exact T.keep _ _ _ L λb G o e=>(S.pin (b,o) (aJ _ (aJ _ (Wd G e)))).1
  .intro b G;obtain⟨o,e,_⟩:=T.obj _ _ L b G;exact(S.pin (b,o) (aJ _ (aJ _ (Wd G e)))).2.1
section
variable {Y:Cx}{elt cd:Expr}{te:TE}{tt:TT}{c:Code}{p:Aj}{σ:St}{H:Hp}{pins:List (Aj×Obj)}{s:Ab}
def appS (elt:Expr)(acc:Ag)(env:Env)(c:Code):Sem PySem.Fin:=(eval elt env >>= λx=>call (.builtin "list.append") [acc,x] >>= λ_=>pure ()) >>= λ_=>again c
theorem qz3 {ys:List V}{N:List V->Hp->Prop}(hx:∀v s,Y.xe v s->False)(he:PE Y elt te)(J:Inv Y pins σ H s)(hz:ys.length<sizeLine)(h:te σ H λy H4=>H4 p=some (.lst ys)/\N (ys++[y]) (upd H4 p (.lst (ys++[y])))) :
  wpAny (model Y.prog Y.w) Y.A (appS elt (.ref p) Y.env c) (λr s5=>r=Fin.again c/\∃H5,Inv Y pins σ H5 s5/\∃zs,N zs H5) Y.xe s:=by
 refine ac (ac (bh (he _ s _ H _ J h) (λG I U=>?_) λ_ _ z=>z));obtain⟨y,H4,J7,L,Z,O⟩:=U;refine ac (bh (y9 (X:=Y) _ I _ H4 (.ref p) [y] (.ref p) [G] (λ_ F=>F=upd H4 p (.lst (ys++[y]))) J7 rfl (.cons L .nil) ⟨_,ys,y,rfl,rfl,Z,hz,rfl⟩) (λ_ s8 S=>?_) λ_ _ z=>z);obtain⟨_,F,J8,_,rfl⟩:=S;exact aq (aq ⟨rfl,_,J8,_,O⟩)
def tstS (cd:Expr)(env:Env)(a b:Sem PySem.Fin):Sem PySem.Fin:=(forIn [cd] true λc r=>if r=true then do let ok <-isTrue c env (eval c env);pure (ForInStep.yield ok) else pure (ForInStep.yield r)) >>= λok=>if ok=true then a else b
theorem wuk {a b:Sem PySem.Fin}{F:Hp->Prop}{G:Hp->Prop}{R:PySem.Fin->Ab->Prop}(ht:PT Y cd tt)(J:Inv Y pins σ H s)(h:tt σ H λok H4=>if ok=true then F H4 else G H4)(ha:∀s' H4,Inv Y pins σ H4 s'->F H4->wpAny (model Y.prog Y.w) Y.A a R Y.xe s') (hb:∀s' H4,Inv Y pins σ H4 s'->G H4->wpAny (model Y.prog Y.w) Y.A b R Y.xe s') :
  wpAny (model Y.prog Y.w) Y.A (tstS cd Y.env a b) R Y.xe s:=by
 refine ac (wpAny_tests_one (bh (ht _ s _ H _ J h) (λok I U=>?_) λ_ _ z=>z));obtain⟨S,O,L⟩:=U;cases ok with
 |false=>exact hb I S O L
 |true=>exact ha I S O L
end
section
variable {X:Cx}{elt iter cd:Expr}{x:Str}{px pos:Pos}{scope:Scope}{cl:List (Str×Aj)}{M:List Nat}{wi:TI}{te:TE}{tt:TT}{pins:List (Aj×Obj)}{σ:St}
theorem qwn {N:List Str}{C:Aj}{s2:Ab}{H1:Hp}{fp:List Aj}(hcap:CapAll X.env cl)(I2:Inv X pins σ H1 s2)(hlt:s2.heap.objs.size<C)(hfp:∀b∈fp,Qx X pins H1 b)(hbl:∀b∈fp,b<s2.heap.objs.size)(H2:Hp)(hn:∀b∈fp,H2 b=none) :
  ∀b∈fp,Qx { X with N:=N,s₀:=s2,H₀:=H1,env:=compEnvC scope cl C X.env,outer:=X.stack,ex:=fp,fn:=λ_=>false,pn:=X.pn++pins,xe:=λ_ _=>False } [] H2 b:=λb hb=>by
 obtain⟨q1,q2,q3,q4,q5,q6⟩:=hfp b hb;refine⟨hn b hb,aD (bw (hbl b hb) hlt),λz=>?_,.inl hb,λy c e=>q5 y c (hcap.look e),λp hp=>q6 p ((ba.mp hp).elim (λz=>z) λz=>nomatch z)⟩;rcases ae.mp (I2.stkSub b z) with z|z
 .exact q2 z
 .exact q3 z
theorem J3 {tg:Expr}{ifs:List Expr}{rest:List Comprehension}(hclos:closureFor scope X.env=pure cl)(hhas:HasAll cl scope.names)(hk:scope.kind=.function)(hnames:∀y∈scope.names,y.2=.local->scope.names.lookup y.1=some .local) (hi:PI X tg iter wi) (hs:∀z,foldedSetIterable iter X.env z=pure z)
  {use:Option (Ag->Sem Unit)} {QQ:Ag->Ab->Prop} {s:Ab} {H:Hp} {ps:Pos} {R:It->Hp->Prop} (I:Inv X pins σ H s) (h:wi σ H R)(go:∀(it:Aj) (fp:List Aj) (tn:Nat->Heap->Prop) (J:It) (H1:Hp) (s2:Ab) (C:Aj) (h3:Heap) (tk:Nat),Inv X pins σ H1 s2->Turn X.prog X.w X.K tg J fp it tn->tn 0 h3->(∀b∈fp,Qx X pins H1 b)->(∀b∈fp,b<s2.heap.objs.size)->(∀b∈fp,∃o,s2.heap.get? b=some o)->R J H1->s2.heap.objs.size<C ->
   (∀b o,s2.heap.get? b=some o->h3.get? b=some o)->(h3.Ns C λ_=>none)->h3.get? s2.heap.objs.size=some { cls:=.type "list",data:=.seq #[] 0 } ->
   codeAny ↑[X] X.A (.compLoop (.ListComp elt (⟨tg,iter,ifs,0⟩::rest) scope pos) 0 (.ref it) (.ref s2.heap.objs.size) (compEnvC scope cl C X.env)) (compPost ↑[X] X.A X.xe use QQ (.ref s2.heap.objs.size) C) { s2 with heap:=h3,toks:=tk }) :
  wpAny ↑[X] X.A (comprehension (.ListComp elt (⟨tg,iter,ifs,0⟩::rest) scope pos) scope X.env ps (newList []) false (eval iter X.env) use) QQ X.xe s:=by
 refine wpAny_comprehension_free (use:=use) rfl hs hclos hk hnames ?_;refine thn (hi pins s σ H _ I h) λv s1 h1=>thn h1 λah s2 h2=>?_;obtain⟨it,fp,tn,J,H1,rfl,I2,T,G,ad,hR⟩:=h2;refine cR ?_;refine wpAny_newFunctionEnv hhas.nocell (by intro y hy;cases hy) (λh3 L F=>?_) hk;dsimp only at L F ⊢;generalize hH2:s2.heap.push { cls:=.type "list",dict:=none,data:=.seq ([]:List Ag).toArray }=G2 at L F ⊢;have hC:G2.objs.size=s2.heap.objs.size+1:=by rw[<-hH2,fu]
 have O:s2.heap.objs.size<G2.objs.size:=by lia
 have ab:∀b o,s2.heap.get? b=some o->h3.get? b=some o:=λb o e=>by rw[F.2 b (aD (bw (ao e) O))];exact ai _ (hH2▸ai _ e)
 have hD:h3.get? s2.heap.objs.size=some { cls:=.type "list",data:=.seq #[] 0 }:=by rw[F.2 _ (aD O)];exact ai _ (hH2▸ax _ rfl)
 have U:=T.keep 0 _ _ G λb _ o e=>ab b o e;have Z:=λtk=>go it fp tn J H1 s2 G2.objs.size h3 tk I2 T U ad (λb S=>let ⟨o,e,_⟩:=T.obj 0 _ G b S;ao e) (λb S=>let ⟨o,e,_⟩:=T.obj 0 _ G b S;⟨o,e⟩) hR O ab L hD;exact codeAny_compStart_list (Z _) (T.self _ 0 _ _ _ U (Z _))
theorem Yz (M:List Nat)(σ:St)(v:V):(kj M σ none).length=(kj M σ (some v)).length/\∀(k:Nat) z,(kj M σ none)[k]?=some (some z)->(kj M σ (some v))[k]?=some (some z):=⟨rfl,λk z ez=>by
 cases k with
 |zero=>cases ez
 |succ k=>exact ez⟩
end
section
variable {X:Cx}{elt iter:Expr}{x:Str}{px pos:Pos}{scope:Scope}{cl:List (Str×Aj)}{M:List Nat}{wi:TI}{te:TE}
theorem wwq (hc:X.calm=true)(hclos:closureFor scope X.env=pure cl)(hcap:CapAll X.env cl)(hhas:HasAll cl scope.names)(hix:CapIx X scope cl M)(hk:scope.kind=.function)(hnames:∀y∈scope.names,y.2=.local->scope.names.lookup y.1=some .local) (hx:scope.names.lookup x=some .local) (hnd:(Y5 X x M).Nodup) (hi:PI X (.Name x px) iter wi)(he:∀C s2 H2 fp pn,PE (ku X scope cl x M C s2 H2 fp pn) elt te) (hs:∀z,foldedSetIterable iter X.env z=pure z)
  {use:Option (Ag->Sem Unit)} {QQ:Ag->Ab->Prop} {pins:List (Aj×Obj)} {s:Ab} {σ:St} {H:Hp} {Q:VK} {ps:Pos} (I:Inv X pins σ H s) (h:wi σ H λJ H1=>qx4 J M te σ H1 Q)(fin:∀(C:Aj) (s2 s4:Ab) (H1 H2:Hp) (fp:List Aj),Inv X pins σ H1 s2->s2.heap.objs.size<C->(∀b∈fp,Qx X pins H1 b)->Inv (ku X scope cl x M C s2 H1 fp (X.pn++pins)) [] (kj M σ none) H2 s4->Q (.ref s2.heap.objs.size) H2 ->
   compPost ↑[X] X.A X.xe use QQ (.ref s2.heap.objs.size) C (.ok .next) s4) :
  wpAny ↑[X] X.A (comprehension (.ListComp elt [⟨.Name x px,iter,[],0⟩] scope pos) scope X.env ps (newList []) false (eval iter X.env) use) QQ X.xe s:=by
 refine J3 hclos hhas hk hnames hi hs I h λit fp tn J H1 s2 C h3 tk G T t3 F U ad hR L ab ah hD=>?_;obtain⟨W,⟨m0,w0⟩,hW⟩:=hR s2.heap.objs.size (G.hok.fresh (al _));have S:(relabel scope X.env).names.lookup x=some .local:=eN hx;refine Zc (Y:=ku X scope cl x M C s2 H1 fp (X.pn++pins)) (V:=λi n H2=>∃ys,W i n ys H2) (Qd:=Q (.ref s2.heap.objs.size)) (REST:=appS elt (.ref s2.heap.objs.size) (compEnvC scope cl C X.env) _) T hc (λ_ _ z=>z) (compTurn_list1 ..) rfl rfl (xy (i:=0) hnd rfl (.inl S) (.inr S)) (qwn hcap G L F U) (λi n H2 ⟨ys,w⟩=>?_) (λH2 s4 J4 q=>fin C s2 s4 H1 H2 fp G L F J4 q) (G.comp hcap hhas hix hk L ab ah hD F ad) ⟨[],w0⟩ t3 λb Z=>by rw[wg (aD (U b Z))];exact(F b Z).1
 obtain⟨hp,hz,ap⟩:=hW i n ys H2 w;refine ap.imp id λζ=>?_;obtain⟨an,hy⟩:=ζ;refine ⟨an,λv H3 yl=>⟨λσ4 H4=>σ4=kj M σ (some v)/\H3=H4,⟨rfl,rfl⟩,λ_ _ e=>?_⟩⟩;obtain⟨rfl,rfl⟩:=e;refine⟨Yz M σ v,λa0 s' J=>?_⟩;refine bh (qz3 (N:=λzs O=>∃m',m'<n/\W (i+1) m' zs O) (λ_ _ z=>z) (he _ _ _ _ _) J hz (hy v H3 yl)) (λr s5 ⟨e,O,J5,zs,m',hm,w'⟩=>⟨e,O,J5,m',hm,zs,w'⟩) λ_ _ z=>z
theorem Wq (hc:X.calm=true)(hclos:closureFor scope X.env=pure cl)(hcap:CapAll X.env cl)(hhas:HasAll cl scope.names)(hix:CapIx X scope cl M)(hk:scope.kind=.function)(hnames:∀y∈scope.names,y.2=.local->scope.names.lookup y.1=some .local) (hx:scope.names.lookup x=some .local) (hnd:(Y5 X x M).Nodup) (hi:PI X (.Name x px) iter wi)(he:∀C s2 H2 fp pn,PE (ku X scope cl x M C s2 H2 fp pn) elt te) (hs:autoParam (∀z,foldedSetIterable iter X.env z=pure z) aU3._auto_1) :
  PE X (.ListComp elt [⟨.Name x px,iter,[],0⟩] scope pos) (tComp M wi te):=by
 intro pins s σ H Q I h;rw[eval_ListComp];refine wwq hc hclos hcap hhas hix hk hnames hx hnd hi he hs (use:=none) I h λC s2 Z H1 H2 fp U O S F J=>?_;obtain⟨m,L,_⟩:=F.loc;exact⟨m,L,λh' G=>⟨.ref s2.heap.objs.size,H2,U.uncomp (bK O) S F G,rfl,J⟩⟩
theorem Inv.but {pins:List (Aj×Obj)}{σ:St}{H:Hp}{s:Ab}{h':Heap}{C:Aj}(I:Inv X pins σ H s)(hn:H C=none)(h1:X.s₀.heap.objs.size<=C)(h2:C≠X.env.locals)(h3:∀y c,X.env.cells.lookup y=some c->c≠C)(h4:∀p∈X.pn++pins,p.1≠C)(hs:Heap.SameBut C s.heap h'):Inv X pins σ H { s with heap:=h' }:=by
 have st:∀b o,b≠C->s.heap.get? b=some o->h'.get? b=some o:=λb o n e=>(hs.2 b n).trans e;have J:∀b,b∉[C]->b≠C:=λb z e=>z (by rw[e];exact .head _);refine I.call' (s':={ s with heap:=h' }) (ch:=[C]) rfl ⟨λb o e n _ F=>st b o (J b F) e,λb o e n _ F=>⟨o.slots,st b o (J b F) e⟩,λb o e n _=>n,λb o e F=>⟨o,st b o (J b F) e⟩,λ_ _ e=>e,λ_ _ _ e=>e,λb ps e=>⟨#[],by rw[e];simp⟩⟩ ?_ I.bare λb O=>?_
 .intro b u L;refine(I.hok b u L).stay (λc v G e=>st c v ?_ e) (λ_ z=>z) λ_ _ z=>z;rcases G with rfl|G
  .intro z;rw[z,hn]at L;cases L
  .intro z;rw[z,hn]at G;cases G
 .rw[am.mp O];exact⟨.inr h1,h2,h3,h4⟩
theorem wvr {i:Nat}{y:Str}{py spos:Pos}(hN:X.N.Nodup)(hyi:X.N[i]?=some y)(hyl:Loc X.env.scope y)(hc:X.calm=true)(hclos:closureFor scope X.env=pure cl)(hcap:CapAll X.env cl)(hhas:HasAll cl scope.names)(hix:CapIx X scope cl M)(hk:scope.kind=.function)(hnames:∀y∈scope.names,y.2=.local->scope.names.lookup y.1=some .local) (hx:scope.names.lookup x=some .local) (hnd:(Y5 X x M).Nodup) (hi:PI X (.Name x px) iter wi)(he:∀C s2 H2 fp pn,PE (ku X scope cl x M C s2 H2 fp pn) elt te) (hs:autoParam (∀z,foldedSetIterable iter X.env z=pure z) aU3._auto_1)(hsw:autoParam (swapsWith (.ListComp elt [⟨.Name x px,iter,[],0⟩] scope pos) (some (.Name y py)) spos.line X.env=pure true) aU4._auto_1) (hyf:autoParam (X.fn y=true\/X.env.scope.names.lookup y=some .local) aU0._auto_1) :
  PS X (.Assign [.Name y py] (.ListComp elt [⟨.Name x px,iter,[],0⟩] scope pos) spos) (tAsg (tComp M wi te) (wxr i)):=by
 intro pins s σ H D I h;rw[eC _ _ _ _ hsw];refine ac (dn (ac ?_));refine ac (bh (wwq hc hclos hcap hhas hix hk hnames hx hnd hi he hs (use:=some (assign (.Name y py) X.env)) (QQ:=λ_ s'=>SP X pins D .next s') I h λC s2 O H1 H2 fp G J a1 J4 U=>?_) (λ_ s' U=>aq (aq U)) λ_ _ e=>e);have F:Inv X pins σ H2 O:=G.uncomp (h':=O.heap) (bK J) a1 J4 (fJ _ _);have ah:H2 C=none:=J4.free;obtain⟨mC,a0,_⟩:=J4.loc;obtain⟨S,a8,a9,ap,ad⟩:=id a0;have ab:C≠X.env.locals:=λz=>aU _ (bw J (z▸G.lt));have a3:X.s₀.heap.objs.size<=C:=bB G.sz (bK J);have a6:∀y c,X.env.cells.lookup y=some c->c≠C:=λy c e z=>by obtain⟨v,o,L,_⟩:=G.cell y c e;exact aU _ (bw J (z▸ao L))
 have a4:∀p∈X.pn++pins,p.1≠C:=λp Z z=>aU _ (bw J (z▸ao (G.pin p Z).1));have bf:C∉frs X.stack:=λz=>by
  rcases ae.mp (G.stkSub C z) with q|q
  .exact ab q
  .obtain⟨_,o,L,_⟩:=G.funs.mem (b:=C) q;exact aU _ (bw J (ao L))
 have a2:C∉X.fs:=λz=>by obtain⟨_,o,L,_⟩:=G.funs.mem (b:=C) z;exact aU _ (bw J (ao L))
 have bb:Inv X (pins++[(C,S)]) σ H2 O:=⟨F.ok,F.os,F.bare,F.base,F.loc,F.cell,F.free,F.freeC,λp Z=>by
  rcases ba.mp Z with q|q
  .exact F.pin p (bW _ q)
  .rcases ba.mp q with q|q
   .exact F.pin p (aJ _ q)
   .rw[am.mp q]
    exact⟨ap,ah,ab,a2,λv z=>by rw[ad.1]at z;cases z⟩,F.hok,F.len⟩
 show wpAny _ _ (assign (.Name y py) X.env (.ref s2.heap.objs.size)) _ _ _;refine dP (Qw bb hN hyi hyl (show RelV (.ref s2.heap.objs.size) (.ref s2.heap.objs.size) from rfl) (λs5 I5=>?_) hyf);have a7:=(I5.pin (C,S) (aJ _ (aJ _ (.head _)))).1;exact⟨mC,⟨S,a8,a9,a7,ad⟩,λh' an=>⟨_,H2,I5.unpinned.but ah a3 ab a6 a4 an,U⟩⟩
end
theorem wvw {M:List Nat}{lo:Int}{n:Nat}{te:TE}{σ:St}{H:Hp}{Q:VK}(f:Nat->V)(hn:n<=1000000)(he:∀(i:Nat) (H':Hp) (R:VK),i<n->Same H H'->R (f i) H'->te (kj M σ (some (.int (lo+i)))) H' R)(k:∀p,H p=none->Q (.ref p) (upd H p (.lst ((List.range n).map f)))):qx4 (Itr lo n) M te σ H Q:=by
 intro p np;refine⟨λi m ys H2=>i<=n/\m=n-i/\ys=(List.range i).map f/\H2=upd H p (.lst ys),⟨n,aA _,rfl,rfl,rfl⟩,?_⟩;rintro i m ys H2 ⟨hi,rfl,rfl,rfl⟩;refine⟨qb,?_,?_⟩
 .rw[aa,aR];have:(1000000:Nat)<sizeLine:=by decide
  lia
 .by_cases hlt:i<n
  .refine .inr ⟨hlt,?_⟩;rintro v H3 ⟨rfl,rfl⟩;refine he i (upd H p (.lst ((List.range i).map f))) _ hlt (Same.upd np) ⟨qb,n-(i+1),⋯,⋯,rfl,?_,?_⟩
   .rw[bY,aV];rfl
   .rw[yn]
  .have:i=n:=by lia
   subst this;exact .inl ⟨al _,k p np⟩
theorem qk7 {K:Aa}{M:List Nat}{a:Aj}{xs:List V}{te:TE}{σ:St}{H:Hp}{Q:VK}(f:V->V)(hS:SqL K H a xs)(hn:xs.length<=1000000)(he:∀(x:V) (H':Hp) (R:VK),x∈xs->Same H H'->R (f x) H'->te (kj M σ (some x)) H' R)(k:∀p,H p=none->Q (.ref p) (upd H p (.lst (xs.map f)))):qx4 (Itl K a) M te σ H Q:=by
 intro p np;refine⟨λi m ys H2=>i<=xs.length/\m=xs.length-i/\ys=(xs.take i).map f/\H2=upd H p (.lst ys),⟨xs.length,aA _,rfl,rfl,rfl⟩,?_⟩;rintro i m ys H2 ⟨hi,rfl,rfl,rfl⟩;have G:SqL K (upd H p (.lst ((xs.take i).map f))) a xs:=Same.sql (Same.upd np) hS;refine⟨qb,?_,?_⟩
 .rw[aa,bG];have:(1000000:Nat)<sizeLine:=by decide
  lia
 .by_cases hlt:i<xs.length
  .have F:xs[i]?=some xs[i]:=aj hlt;refine .inr ⟨⟨xs,_,G,F⟩,?_⟩;rintro v H3 ⟨rfl,hv⟩;have e:=hv xs G;rw[F]at e;have J:=au e;subst J;refine he _ _ _ (bH hlt) (Same.upd np) ⟨qb,xs.length-(i+1),⋯,⋯,rfl,?_,?_⟩
   .rw[List.take_succ,F,aV];rfl
   .rw[yn]
  .have I:i=xs.length:=by lia
   subst I;refine .inl ⟨⟨xs,G,al _⟩,?_⟩;rw[ce];exact k p np
end
section
section
variable {X:Cx}
theorem qjb {pins:List (Aj×Obj)}{σ:St}{H:Hp}{s:Ab}{p:Aj}{ns:List Int}(I:Inv X pins σ H s)(hS:SqL X.K H p (ns.map V.int)) :
  ∃ts:Array (Int×Tok),s.heap.IsList p (intItems ts)/\ns=ts.toList.map (·.1):=by
 obtain⟨Z,J,⟨o,n,S,O,e3,L⟩,hz⟩:=I.list hS;have hi:=wz6 J;obtain⟨ts,F⟩:=hi.allInts.items;refine⟨ts,⟨o,S,O,n,by rw[<-F];exact L⟩,?_⟩;have U:=hi.numsOf;have G:=nums_intItems (xs:=ts);rw[<-F]at G;exact U.symm.trans G
theorem qv9 (hc:X.calm=true):j9 X (.builtin "min") (λxs H Q=>∃(p:Aj) (ns:List Int),xs=[.ref p]/\SqL X.K H p (ns.map V.int)/\0<ns.length/\∀m,m∈ns->(∀a∈ns,m<=a)->Q (.int m) H):=by
 intro pins s σ H xs us Q I r h;obtain⟨p,ns,rfl,hS,ab,q⟩:=h;obtain⟨u,rfl,O⟩:=uu r;cases(show u=Value.ref p from O);obtain⟨G,U,F⟩:=qjb I hS;have J:G.size=ns.length:=by rw[F,aa,bn]
 refine min_intList (I.ok.hd hc) U ⋯ λv h' tk S Z=>?_;obtain⟨t,rfl⟩:=intItems_at S;obtain⟨b1,b2⟩:=argBest_lt (numAt G) (G.size-1);refine⟨.int _,H,I.kept Z,⟨t,rfl⟩,q _ ?_ λa L=>?_⟩
 .rw[F,numAt_eq];refine getD_mem ?_;rw[<-F,<-J];lia
 .rw[F]at L;obtain⟨j,hj,rfl⟩:=mem_getD L;rw[<-F,<-J]at hj;rw[<-numAt_eq];exact b2 j ⋯
theorem qkh (hc:X.calm=true):j9 X (.builtin "max") (λxs H Q=>∃(p:Aj) (ns:List Int),xs=[.ref p]/\SqL X.K H p (ns.map V.int)/\0<ns.length/\∀m,m∈ns->(∀a∈ns,a<=m)->Q (.int m) H):=by
 intro pins s σ H xs us Q I r h;obtain⟨p,ns,rfl,hS,ab,q⟩:=h;obtain⟨u,rfl,O⟩:=uu r;cases(show u=Value.ref p from O);obtain⟨G,U,F⟩:=qjb I hS;have J:G.size=ns.length:=by rw[F,aa,bn]
 refine max_intList (I.ok.hd hc) U ⋯ λv h' tk S Z=>?_;obtain⟨t,rfl⟩:=intItems_at S;obtain⟨b1,b2⟩:=argBest_gt (numAt G) (G.size-1);refine⟨.int _,H,I.kept Z,⟨t,rfl⟩,q _ ?_ λa L=>?_⟩
 .rw[F,numAt_eq];refine getD_mem ?_;rw[<-F,<-J];lia
 .rw[F]at L;obtain⟨j,hj,rfl⟩:=mem_getD L;rw[<-F,<-J]at hj;rw[<-numAt_eq];exact b2 j ⋯
theorem qvp:∀ {bs:List Bool} {its:List Ag},Vals (bs.map V.bl) its->its=bs.map Value.bool
 |[],_,.nil=>rfl
 |b::bs,_,.cons r t=>by have e:_=Value.bool b:=r;rw[aH,<-qvp t,e]
theorem wyz (bs:List Bool):(List.range bs.length).all (λi=>bs.getD i true)=bs.all id:=by
 rw[cN,bJ,bJ];constructor
 .intro h b G;obtain⟨i,hi,rfl⟩:=bD G;have:=h i (aW.mpr hi);rw[av,aj hi]at this;exact this
 .intro h i hi;have F:=aW.mp hi;rw[av,aj F];exact h _ (bH F)
theorem Zp (hc:X.calm=true):j9 X (.builtin "all") (λxs H Q=>∃(p:Aj) (bs:List Bool),xs=[.ref p]/\SqL X.K H p (bs.map V.bl)/\Q (.bl (bs.all id)) H):=by
 intro pins s σ H xs us Q I r h;obtain⟨p,bs,rfl,hS,q⟩:=h;obtain⟨u,rfl,ru⟩:=uu r;cases(show u=Value.ref p from ru);obtain⟨G,Z,⟨o,n,U,J,e3,e4⟩,hz⟩:=I.list hS;have O:=qvp Z;have L:s.heap.IsList p G.toArray:=⟨o,U,J,n,e4⟩;have ab:p<s.heap.objs.size:=ao U;refine call_all_walk (fG L ?_);refine⟨s.heap.objs.size,_,_,_,_,_,λi=>bs.getD i true,rfl,Walks.list (A:=X.A.in1) (I.ok.hd hc) _ p (aD ab) G.toArray,⟨⟨_,ax _ rfl,rfl,rfl⟩,L.push _⟩,λi v s' Q' E' hP hQ=>?_,λh' tk hk=>?_⟩
 .have F:G[i]?=some v:=by simpa using hP
  rw[O,aB]at F;cases hb:bs[i]? with
  |none=>rw[hb]at F;cases F
  |some b =>
   rw[hb]at F;have ev:Value.bool b=v:=au F;subst ev;refine cQ ?_;have J:bs.getD i true=b:=by rw[av,hb];rfl
   have S:Q' (bs.getD i true) s':=hQ;rw[J]at S;exact S
 .have ad:G.toArray.size=bs.length:=by rw[O];simp
  rw[ad,wyz];refine⟨.bl _,H,I.kept λb ob e=>hk b ob (λhm=>?_) (ai _ e),rfl,q⟩;have z:b=s.heap.objs.size:=by simpa using hm
  exact aU _ (z▸ao e)
end
structure MCal (P:Ac)(w:Ah)(K:Aa)(mg:Str->Option Ag)(base:Heap)(C:Aj)(m:Str)(k:Nat)(sp:Sp):Prop where
 ex:∃f fd ps,Meth K C m f/\↑FnOk (CXE P w) k f fd ps sp/\Binds K fd ps []
structure CCal (P:Ac)(w:Ah)(K:Aa)(mg:Str->Option Ag)(base:Heap)(x:Str)(C:Aj)(k:Nat)(sp:Sp):Prop where
 ex:∃f fd ps,mg x=some (.ref C)/\Mk K C f/\↑FnOk (CXE P w) k f fd ps sp/\Binds K fd ps []
structure MethIn (K:Aa)(C:Aj)(m qual:Str)(st:Stmt):Prop where
 ex:∃f fd,W.findIn K (.ref C) m=some (some (.ref f))/\W.isFn K (.ref f)=true/\Fun K m qual st f fd
theorem xzf {K:Aa}{C:Aj}{m qual:Str}{st:Stmt}{f:Aj}{oc:Ag}{od an:Option Aj}{osl:Array (Option Ag)}{kV doc pm cdv ct:Ag}(a:W.findIn K (.ref C) m=some (some (.ref f)))(i:W.isFn K (.ref f)=true)(l:K.lookup f=some ⟨oc,od,.func (W.fnOf m qual (yp st) (jk st) (wm st) .none kV doc pm an cdv ct),osl⟩) (c:W.codeIn K cdv qual=true) (k:W.keepIn K (.ref f)=true):MethIn K C m qual st:=⟨_,_,a,i,xqz l c k⟩
def zc (x qual:Str)(st:Stmt)(ps:List Str):Prop:=∀(kV doc pm:Ag) (an:Option Aj) (cdv ct:Ag) (us:List Ag),us.length=ps.length->bindArgs (W.fnOf x qual (yp st) (jk st) (wm st) .none kV doc pm an cdv ct) ⟨us,[]⟩=pure (ps.zip us)
section
variable {P:Ac}{w:Ah}{K:Aa}{mg:Str->Option Ag}{base:Heap}{C:Aj}
theorem MethIn.cal {m qual:Str}{st:Stmt}{ps:List Str}{k:Nat}{sp:Sp}(d:MethIn K C m qual st)(b:zc m qual st ps)(ok:∀f fd,Fun K m qual st f fd->↑FnOk (CXE P w) k f fd ps sp):↑MCal C m k sp:=by obtain⟨f,fd,a,i,F⟩:=d.ex;exact⟨f,fd,ps,⟨a,i,F.kp⟩,ok f fd F,F.binds b⟩
theorem MethIn.ccal {x qual:Str}{st:Stmt}{ps:List Str}{k:Nat}{sp:Sp}(d:MethIn K C "__init__" qual st)(hm:mg x=some (.ref C))(mk:W.makesIn K C=true)(kc:W.keepIn K (.ref C)=true)(b:zc "__init__" qual st ps)(ok:∀f fd,Fun K "__init__" qual st f fd->↑FnOk (CXE P w) k f fd ps sp):↑CCal x C k sp:=by
 obtain⟨f,fd,a,i,F⟩:=d.ex;exact⟨f,fd,ps,hm,⟨mk,a,i,kc⟩,ok f fd F,F.binds b⟩
end
section
variable {X:Cx}{C:Aj}{x m:Str}{k:Nat}{sp:Sp}{E:St->XK}{p pos apos:Pos}{e o:Expr}{es:List Expr}{ta:TE}{t:TA}
theorem Q4 (c:CCal X.prog X.w X.K X.mg X.base x C k sp)(hr:Room (k+1) X.A)(hg:Gl X x)(hx:uf X E)(ha:PA X (e::es) t) (hdb:autoParam ((x==("__debug__" : Str))=false) aU1._auto_1) (he:autoParam (starEach (e::es) X.env=(false,eval e X.env)::starEach es X.env) aU4._auto_1) (hpl:autoParam ((backTo pos (starEach es X.env)).any (·.1)=false) aU4._auto_1) :
  PE X (.Call (.Name x p) (e::es) [] pos) (wvz C sp E t):=by
 obtain⟨f,fd,ps,G,M,F,b⟩:=c.ex;exact wuz M F hr hg G b hx ha hdb he hpl
theorem xwg {pl:Sem Bool}(he:PE X o ta)(cl:Cls X.K C)(c:MCal X.prog X.w X.K X.mg X.base C m k sp)(hr:Room k X.A)(hx:uf X E)(ha:PA X (e::es) t)(hst:autoParam (starEach (e::es) X.env=(false,eval e X.env)::starEach es X.env) aU4._auto_1) (hpl:autoParam ((backTo pos (starEach es X.env)).any (·.1)=false) aU4._auto_1)(ht:autoParam (eval (.Call (.Attribute o m apos) (e::es) [] pos) X.env=(do
   let ov <-eval o X.env
   standAt apos.atName
   let (f,first) <-holding [ov] (getMethod ov m pl)
   callWith pos f first (backTo pos (starEach (e::es) X.env)) (backToKw pos (keywordEach [] X.env)))) aU4._auto_1) :
  PE X (.Call (.Attribute o m apos) (e::es) [] pos) (qz4 C m sp E ta t):=by
 obtain⟨f,fd,ps,G,F,b⟩:=c.ex;exact wuj he cl G F hr b hx ha hst hpl ht
theorem jz {pl:Sem Bool}(he:PE X o ta)(cl:Cls X.K C)(c:MCal X.prog X.w X.K X.mg X.base C m k sp)(hr:Room k X.A)(hx:uf X E)(ht:autoParam (eval (.Call (.Attribute o m apos) [] [] pos) X.env=(do
   let ov <-eval o X.env
   standAt apos.atName
   let (f,first) <-holding [ov] (getMethod ov m pl)
   callWith pos f first (backTo pos (starEach [] X.env)) (backToKw pos (keywordEach [] X.env)))) aU4._auto_1) :
  PE X (.Call (.Attribute o m apos) [] [] pos) (qz4 C m sp E ta y0):=by
 obtain⟨f,fd,ps,G,F,b⟩:=c.ex;exact wjt he cl G F hr b hx ht
end
end
end L2
namespace L2
open PySem
def hAt (hs:List Int)(k:Int):Int:=hs.getD k.toNat 0
def kF (hs:List Int)(t b:Int):Int:=if(hs.length:Int)-1-1<t/b then(hs.length:Int)-1-1 else t/b
def uc (hs:List Int)(t b:Int):Int:=hAt hs (kF hs t b)*b+(hAt hs (kF hs t b+1)-hAt hs (kF hs t b))*(t-kF hs t b*b)
theorem xxb {hs:List Int}{t b:Int}(hl:2<=hs.length)(hb:1<=b)(h0:0<=t):0<=kF hs t b/\kF hs t b<(hs.length:Int)-1:=by have h:=gn h0 (show(0:Int)<=b by lia);unfold kF;split <;> lia
theorem wun {hs:List Int}{t b c:Int}(hc:1<=c):kF hs (t*c) (b*c)=kF hs t b:=by unfold kF;rw[dj _ _ (show 0<c by lia)]
theorem wx5 {hs:List Int}{t b c:Int}(hc:1<=c):uc hs (t*c) (b*c)=uc hs t b*c:=by unfold uc;rw[wun hc];generalize hAt hs (kF hs t b)=u;generalize hAt hs (kF hs t b+1)=v;generalize kF hs t b=k;grind
theorem div_in {k t b:Int}(hb:1<=b)(h1:k*b<=t)(h2:t<(k+1)*b):t/b=k:=by have a1:k<=t/b:=(Int.le_ediv_iff_mul_le ⋯).mpr h1;have a2:t/b<k+1:=(Int.ediv_lt_iff_lt_mul ⋯).mpr h2;lia
theorem wwr {hs:List Int}{k t b:Int}(hk:0<=k)(hk2:k<(hs.length:Int)-1)(hb:1<=b)(h1:k*b<=t)(h2:t<=(k+1)*b) :
  uc hs t b=hAt hs k*b+(hAt hs (k+1)-hAt hs k)*(t-k*b):=by
 by_cases hlt:t<(k+1)*b
 .have e:=div_in hb h1 hlt;have F:kF hs t b=k:=by unfold kF;rw[e];split <;> lia
  unfold uc;rw[F]
 .have G:t=(k+1)*b:=by lia
  have e:t/b=k+1:=by rw[G];exact Int.mul_ediv_cancel _ ⋯
  by_cases hn:(hs.length:Int)-1-1<k+1
  .have F:kF hs t b=k:=by unfold kF;rw[e,ak hn];lia
   unfold uc;rw[F]
  .have F:kF hs t b=k+1:=by unfold kF;rw[e,ag hn]
   unfold uc;rw[F,G];generalize hAt hs k=u;generalize hAt hs (k+1)=v;generalize hAt hs (k+1+1)=z;grind
def Qt (hs:List Int)(t b:Int):Int×Int:=xv (uc hs t b) b
theorem qk4 {hs:List Int}{t b:Int}(hb:1<=b):Qt hs (xv t b).1 (xv t b).2=Qt hs t b:=by
 unfold Qt;have G:=um (t:=t) hb;have I:(xv t b).1*gOf t b=t:=by rw[gk];exact wxg
 have F:(xv t b).2*gOf t b=b:=by rw[gk];exact qzr hb
 have h:=wx5 (hs:=hs) (t:=(xv t b).1) (b:=(xv t b).2) G;rw[I,F]at h;rw[h]
 conv=>rhs;rw[<-F]
 rw[F];have:=xz1 (t:=uc hs (xv t b).1 (xv t b).2) (b:=(xv t b).2) (Zj hb) G;rw[F]at this;exact this.symm
theorem qxx {t b:Int}(hb:1<=b):(xv t b).1<0↔t<0:=by
 have G:=um (t:=t) hb;have F:gOf t b*(xv t b).1=t:=wxg;constructor
 .intro h;have:=fy h (show 0<gOf t b by lia);rw[F,Int.mul_zero]at this;exact this
 .intro h;rcases cS (xv t b).1 0 with z|z
  .exact z
  .have:=bQ z (show 0<=gOf t b by lia);rw[F,Int.mul_zero]at this;lia
theorem wvj {t b n:Int}(hb:1<=b):n*(xv t b).2<(xv t b).1↔n*b<t:=by
 have I:=um (t:=t) hb;have G:gOf t b*(xv t b).1=t:=wxg;have J:gOf t b*(xv t b).2=b:=qzr hb;have F:gOf t b*(n*(xv t b).2)=n*b:=by generalize gOf t b=g at *;generalize (xv t b).2=y at *;grind
 constructor
 .intro h;have:=fy h (show 0<gOf t b by lia);rw[G,F]at this;exact this
 .intro h;rcases cS (n*(xv t b).2) (xv t b).1 with z|z
  .exact z
  .have:=bQ z (show 0<=gOf t b by lia);rw[G,F]at this;lia
theorem qk3 {N b:Int}(hb:1<=b):b%(xv N b).2=0/\(xv N b).1*(b/(xv N b).2)=N:=by
 have G:=Zj (t:=N) hb;have I:=qjw (t:=N) hb;have F:(xv N b).2∣b:=⟨gOf N b,by rw[gk];exact(qzr hb).symm⟩;refine⟨Int.emod_eq_zero_of_dvd F,?_⟩;have e:=eM F;generalize b/(xv N b).2=q at *;generalize (xv N b).1=x at *;generalize (xv N b).2=y at *;have:y*(x*q-N)=0:=by grind
 rcases Int.mul_eq_zero.mp this with h|h <;> lia
def wkq (hs:List Int)(t b:Int):Int:=if t/b*b=t then hAt hs (t/b)*b else hAt hs (t/b)*b+(hAt hs (t/b+1)-hAt hs (t/b))*(t-t/b*b)
set_option tactic.hygienic true in
theorem xxu {hs:List Int}{t b:Int}(hl:2<=hs.length)(hb:1<=b)(h0:0<=t)(h1:t<=((hs.length:Int)-1)*b):wkq hs t b=uc hs t b:=by
 have O:=gn h0 (show(0:Int)<=b by lia);have L:t/b*b<=t:=gq t ⋯;have J:t<(t/b+1)*b:=by have:=eT t (show 0<b by lia);exact this
 unfold wkq;by_cases hlt:t/b<(hs.length:Int)-1
 .rw[wwr O hlt hb L (Int.le_of_lt J)];split
  .next e=>rw[e];simp
  .rfl
 .have S:(hs.length:Int)-1<=t/b:=by lia
  have Z:=aN S (show 0<=b by lia);have G:t/b*b=t:=by lia
  have I:t/b=(hs.length:Int)-1:=by
   have:t/b*b=((hs.length:Int)-1)*b:=by lia
   exact Int.eq_of_mul_eq_mul_right ⋯ this
  rw[ak G];have F:t=((hs.length:Int)-1)*b:=by rw[<-I];exact G.symm
  rw[wwr (k:=(hs.length:Int)-1-1) ⋯ ⋯ hb (by rw[F];exact aN ⋯ ⋯) (by rw[F];exact aN ⋯ ⋯),I];have U:(hs.length:Int)-1-1+1=(hs.length:Int)-1:=by lia
  rw[U,F];generalize hAt hs ((hs.length:Int)-1)=u;generalize hAt hs ((hs.length:Int)-1-1)=v;generalize (hs.length:Int)-1=n;grind
theorem wu9 {u v b d:Int}(hb:0<=d)(hd:d<=b):(if v<u then v else u)*b<=u*b+(v-u)*d/\u*b+(v-u)*d<=(if v>u then v else u)*b:=by
 by_cases h:v<u
 .rw[ak h,ag ⋯];have G:=bQ hd (show 0<=u-v by lia);have F:=dz (show 0<=u-v by lia) hb;constructor <;> grind
 .rw[ag h];have G:=bQ hd (show 0<=v-u by lia);have F:=dz (show 0<=v-u by lia) hb;by_cases h2:v>u
  .rw[ak h2];constructor <;> grind
  .rw[ag h2];have:v=u:=by lia
   subst this;constructor <;> grind
end L2
namespace L2
open PySem PySem.Spec PyProof.Rows
section
def qyn (J:It)(M:List Nat)(tt:TT)(te:TE)(σ:St)(H1:Hp)(Q:VK):Prop:=∀p,H1 p=none->∃W:Nat->Nat->List V->Hp->Prop,(∃m,W 0 m [] (upd H1 p (.lst []))) /\
 ∀i m ys H2,W i m ys H2->H2 p=some (.lst ys)/\ys.length<sizeLine/\((J.stop i H2/\Q (.ref p) H2)\/(J.go i H2/\∀v H3,J.yld i H2 v H3 ->
  tt (kj M σ (some v)) H3 λb H4=>if b=true then te (kj M σ (some v)) H4 (λy H5=>H5 p=some (.lst ys)/\∃m',m'<m/\W (i+1) m' (ys++[y]) (upd H5 p (.lst (ys++[y])))) else H4 p=some (.lst ys)/\∃m',m'<m/\W (i+1) m' ys H4))
def xx1 (M:List Nat)(wi:TI)(tt:TT)(te:TE):TE:=λσ H Q=>wi σ H λJ H1=>qyn J M tt te σ H1 Q
section
variable {X:Cx}{elt iter cd:Expr}{x:Str}{px pos:Pos}{scope:Scope}{cl:List (Str×Aj)}{M:List Nat}{wi:TI}{tt:TT}{te:TE}
theorem qjq (hc:X.calm=true)(hclos:closureFor scope X.env=pure cl)(hcap:CapAll X.env cl)(hhas:HasAll cl scope.names)(hix:CapIx X scope cl M)(hk:scope.kind=.function)(hnames:∀y∈scope.names,y.2=.local->scope.names.lookup y.1=some .local) (hx:scope.names.lookup x=some .local) (hnd:(Y5 X x M).Nodup) (hi:PI X (.Name x px) iter wi)(ht:∀C s2 H2 fp pn,PT (ku X scope cl x M C s2 H2 fp pn) cd tt) (he:∀C s2 H2 fp pn,PE (ku X scope cl x M C s2 H2 fp pn) elt te) (hs:∀z,foldedSetIterable iter X.env z=pure z)
  {use:Option (Ag->Sem Unit)} {QQ:Ag->Ab->Prop} {pins:List (Aj×Obj)} {s:Ab} {σ:St} {H:Hp} {Q:VK} {ps:Pos} (I:Inv X pins σ H s) (h:wi σ H λJ H1=>qyn J M tt te σ H1 Q)(fin:∀(C:Aj) (s2 s4:Ab) (H1 H2:Hp) (fp:List Aj),Inv X pins σ H1 s2->s2.heap.objs.size<C->(∀b∈fp,Qx X pins H1 b)->Inv (ku X scope cl x M C s2 H1 fp (X.pn++pins)) [] (kj M σ none) H2 s4->Q (.ref s2.heap.objs.size) H2 ->
   compPost ↑[X] X.A X.xe use QQ (.ref s2.heap.objs.size) C (.ok .next) s4) :
  wpAny ↑[X] X.A (comprehension (.ListComp elt [⟨.Name x px,iter,[cd],0⟩] scope pos) scope X.env ps (newList []) false (eval iter X.env) use) QQ X.xe s:=by
 refine J3 hclos hhas hk hnames hi hs I h λit fp tn J H1 s2 C h3 tk G T t3 F Z ad hR L ab ah hD=>?_;obtain⟨W,⟨m0,w0⟩,hW⟩:=hR s2.heap.objs.size (G.hok.fresh (al _));have U:(relabel scope X.env).names.lookup x=some .local:=eN hx;refine Zc (Y:=ku X scope cl x M C s2 H1 fp (X.pn++pins)) (V:=λi n H2=>∃ys,W i n ys H2) (Qd:=Q (.ref s2.heap.objs.size)) (REST:=tstS cd (compEnvC scope cl C X.env) (appS elt (.ref s2.heap.objs.size) (compEnvC scope cl C X.env) _) (again _)) T hc (λ_ _ z=>z) (compTurn_list ..) rfl rfl (xy (i:=0) hnd rfl (.inl U) (.inr U)) (qwn hcap G L F Z) (λi n H2 ⟨ys,w⟩=>?_) (λH2 s4 J4 q=>fin C s2 s4 H1 H2 fp G L F J4 q) (G.comp hcap hhas hix hk L ab ah hD F ad) ⟨[],w0⟩ t3 λb hb=>by rw[wg (aD (Z b hb))];exact(F b hb).1
 obtain⟨hp,hz,ap⟩:=hW i n ys H2 w;refine ap.imp id λζ=>?_;obtain⟨an,hy⟩:=ζ;refine ⟨an,λv H3 yl=>⟨λσ4 H4=>σ4=kj M σ (some v)/\H3=H4,⟨rfl,rfl⟩,λ_ _ e=>?_⟩⟩;obtain⟨rfl,rfl⟩:=e;refine⟨Yz M σ v,λa0 s' J=>?_⟩;exact wuk (ht _ _ _ _ _) J (hy v H3 yl) (λs6 H6 O h6=>bh (qz3 (N:=λzs S=>∃m',m'<n/\W (i+1) m' zs S) (λ_ _ z=>z) (he _ _ _ _ _) O hz h6) (λr s5 ⟨e,S,J5,zs,m',hm,w'⟩=>⟨e,S,J5,m',hm,zs,w'⟩) λ_ _ z=>z)
  λs6 H6 O ⟨_,m',hm,w'⟩=>aq ⟨rfl,H6,O,m',hm,ys,w'⟩
theorem xq0 (hc:X.calm=true)(hclos:closureFor scope X.env=pure cl)(hcap:CapAll X.env cl)(hhas:HasAll cl scope.names)(hix:CapIx X scope cl M)(hk:scope.kind=.function)(hnames:∀y∈scope.names,y.2=.local->scope.names.lookup y.1=some .local) (hx:scope.names.lookup x=some .local) (hnd:(Y5 X x M).Nodup) (hi:PI X (.Name x px) iter wi)(ht:∀C s2 H2 fp pn,PT (ku X scope cl x M C s2 H2 fp pn) cd tt) (he:∀C s2 H2 fp pn,PE (ku X scope cl x M C s2 H2 fp pn) elt te) (hs:autoParam (∀z,foldedSetIterable iter X.env z=pure z) aU3._auto_1) :
  PE X (.ListComp elt [⟨.Name x px,iter,[cd],0⟩] scope pos) (xx1 M wi tt te):=by
 intro pins s σ H Q I h;rw[eval_ListComp];refine qjq hc hclos hcap hhas hix hk hnames hx hnd hi ht he hs (use:=none) I h λC s2 Z H1 H2 fp U O S F J=>?_;obtain⟨m,L,_⟩:=F.loc;exact⟨m,L,λh' G=>⟨.ref s2.heap.objs.size,H2,U.uncomp (bK O) S F G,rfl,J⟩⟩
theorem qq0 {i:Nat}{y:Str}{py spos:Pos}(hN:X.N.Nodup)(hyi:X.N[i]?=some y)(hyl:Loc X.env.scope y)(hc:X.calm=true)(hclos:closureFor scope X.env=pure cl)(hcap:CapAll X.env cl)(hhas:HasAll cl scope.names)(hix:CapIx X scope cl M)(hk:scope.kind=.function)(hnames:∀y∈scope.names,y.2=.local->scope.names.lookup y.1=some .local) (hx:scope.names.lookup x=some .local) (hnd:(Y5 X x M).Nodup) (hi:PI X (.Name x px) iter wi)(ht:∀C s2 H2 fp pn,PT (ku X scope cl x M C s2 H2 fp pn) cd tt) (he:∀C s2 H2 fp pn,PE (ku X scope cl x M C s2 H2 fp pn) elt te) (hs:autoParam (∀z,foldedSetIterable iter X.env z=pure z) aU3._auto_1)(hsw:autoParam (swapsWith (.ListComp elt [⟨.Name x px,iter,[cd],0⟩] scope pos) (some (.Name y py)) spos.line X.env=pure true) aU4._auto_1) (hyf:autoParam (X.fn y=true\/X.env.scope.names.lookup y=some .local) aU0._auto_1) :
  PS X (.Assign [.Name y py] (.ListComp elt [⟨.Name x px,iter,[cd],0⟩] scope pos) spos) (tAsg (xx1 M wi tt te) (wxr i)):=by
 intro pins s σ H D I h;rw[eC _ _ _ _ hsw];refine ac (dn (ac ?_));refine ac (bh (qjq hc hclos hcap hhas hix hk hnames hx hnd hi ht he hs (use:=some (assign (.Name y py) X.env)) (QQ:=λ_ s'=>SP X pins D .next s') I h λC s2 O H1 H2 fp G J a1 J4 U=>?_) (λ_ s' U=>aq (aq U)) λ_ _ e=>e);have F:Inv X pins σ H2 O:=G.uncomp (h':=O.heap) (bK J) a1 J4 (fJ _ _);have ah:H2 C=none:=J4.free;obtain⟨mC,a0,_⟩:=J4.loc;obtain⟨S,a8,a9,ap,ad⟩:=id a0;have ab:C≠X.env.locals:=λz=>aU _ (bw J (z▸G.lt));have a3:X.s₀.heap.objs.size<=C:=bB G.sz (bK J);have a6:∀y c,X.env.cells.lookup y=some c->c≠C:=λy c e z=>by obtain⟨v,o,L,_⟩:=G.cell y c e;exact aU _ (bw J (z▸ao L))
 have a4:∀p∈X.pn++pins,p.1≠C:=λp Z z=>aU _ (bw J (z▸ao (G.pin p Z).1));have bf:C∉frs X.stack:=λz=>by
  rcases ae.mp (G.stkSub C z) with q|q
  .exact ab q
  .obtain⟨_,o,L,_⟩:=G.funs.mem (b:=C) q;exact aU _ (bw J (ao L))
 have a2:C∉X.fs:=λz=>by obtain⟨_,o,L,_⟩:=G.funs.mem (b:=C) z;exact aU _ (bw J (ao L))
 have bb:Inv X (pins++[(C,S)]) σ H2 O:=⟨F.ok,F.os,F.bare,F.base,F.loc,F.cell,F.free,F.freeC,λp Z=>by
  rcases ba.mp Z with q|q
  .exact F.pin p (bW _ q)
  .rcases ba.mp q with q|q
   .exact F.pin p (aJ _ q)
   .rw[am.mp q]
    exact⟨ap,ah,ab,a2,λv z=>by rw[ad.1]at z;cases z⟩,F.hok,F.len⟩
 show wpAny _ _ (assign (.Name y py) X.env (.ref s2.heap.objs.size)) _ _ _;refine dP (Qw bb hN hyi hyl (show RelV (.ref s2.heap.objs.size) (.ref s2.heap.objs.size) from rfl) (λs5 I5=>?_) hyf);have a7:=(I5.pin (C,S) (aJ _ (aJ _ (.head _)))).1;exact⟨mC,⟨S,a8,a9,a7,ad⟩,λh' an=>⟨_,H2,I5.unpinned.but ah a3 ab a6 a4 an,U⟩⟩
end
end
section
structure FunD (K:Aa)(x:Str)(st:Stmt)(f:Aj)(fd:Ad):Prop where
 ex:∃(oc:Ag) (od:Option Aj) (T:Aj) (kV doc pm:Ag) (an:Option Aj) (cdv ct:Ag) (osl:Array (Option Ag)),
  fd=W.fnOf x x (yp st) (jk st) (wm st) (.ref T) kV doc pm an cdv ct/\K.lookup f=some ⟨oc,od,.func fd,osl⟩/\W.codeIn K cdv x=true/\∃o n,K.lookup T=some o/\o.data=.seq #[.none] n
 kp:W.keepIn K (.ref f)=true
structure DefInD (K:Aa)(x:Str)(st:Stmt):Prop where
 ex:∃f fd,W.nsIn K mainGlobals x=some (some (.ref f))/\FunD K x st f fd
section
variable {P:Ac}{w:Ah}{K:Aa}{mg:Str->Option Ag}{base:Heap}
theorem xzh {x:Str}{st:Stmt}{f T:Aj}{oc:Ag}{od an:Option Aj}{osl:Array (Option Ag)}{kV doc pm cdv ct:Ag}(a:W.nsIn K mainGlobals x=some (some (.ref f)))(l:K.lookup f=some ⟨oc,od,.func (W.fnOf x x (yp st) (jk st) (wm st) (.ref T) kV doc pm an cdv ct),osl⟩) (c:W.codeIn K cdv x=true) (k:W.keepIn K (.ref f)=true) {tc:Ag} {td:Option Aj} {tn:Nat} {ts:Array (Option Ag)} (t:K.lookup T=some ⟨tc,td,.seq #[.none] tn,ts⟩):DefInD K x st:=⟨_,_,a,⟨oc,od,T,kV,doc,pm,an,cdv,ct,osl,rfl,l,c,_,_,t,rfl⟩,k⟩
theorem FunD.okX {x:Str}{st:Stmt}{f:Aj}{fd:Ad}{N ps:List Str}{k:Nat}{sp:Sp}(F:FunD K x st f fd)(S:FnScope N ps (wm st))(len:∀vs H Q E,sp vs H Q E->vs.length=ps.length)(body:∀(cdv:Ag) (A:Ae) (outer:List Env) (s:Ab) (H:Hp) (vs:List V) (Q:VK) (E:XK),Room k (A.deeper (envOfC x (wm st) s.heap.objs.size f cdv))->sp vs H Q E ->
   ∃t,PSs (yf (CXE P w) P w K mg base N x (wm st) f cdv A outer s H E) (jk st) t/\t { nx:=λ_ H'=>Q .non H',rt:=Q } (Y4 N vs) H):↑FnOk (CXE P w) (k+1) f fd ps sp:=by
 obtain⟨oc,Z,T,kV,ab,O,an,cdv,ct,U,rfl,G,L,_⟩:=F.ex;exact fn_of G L S len λA outer s H vs Q E J I=>body cdv A outer s H vs Q E J I
def Jp (x:Str)(st:Stmt)(ps:List Str)(ds:List Ag):Prop:=∀(T:Aj) (kV doc pm:Ag) (an:Option Aj) (cdv ct:Ag) (us:List Ag),(us++ds).length=ps.length ->
 ∃kk,bindArgs (W.fnOf x x (yp st) (jk st) (wm st) (.ref T) kV doc pm an cdv ct) ⟨us,[]⟩=seqItems? (.ref T) >>= kk/\kk (some #[.none])=pure (ps.zip (us++ds))
structure CalD (P:Ac)(w:Ah)(K:Aa)(mg:Str->Option Ag)(base:Heap)(x:Str)(k:Nat)(sp:Sp):Prop where
 ex:∃f fd ps,mg x=some (.ref f)/\↑FnOk (CXE P w) k f fd ps sp/\W.keepIn K (.ref f)=true/\Binds K fd ps []/\Binds K fd ps [.none]
theorem FunD.binds {x:Str}{st:Stmt}{f:Aj}{fd:Ad}{ps:List Str}{ds:List Ag}(F:FunD K x st f fd)(b:Jp x st ps ds):Binds K fd ps ds:=by obtain⟨oc,od,T,kV,S,I,Z,cdv,U,ab,rfl,lk,ad,o,n,O,L⟩:=F.ex;intro s G X J;obtain⟨kk,h1,h2⟩:=b T kV S I Z cdv U G J;exact W.binds_K X rfl O L h1 h2
theorem DefInD.cal {x:Str}{st:Stmt}{ps:List Str}{k:Nat}{sp:Sp}{h:Heap}(d:DefInD K x st)(KX:K.In h)(G:h.Ns mainGlobals mg)(b:Jp x st ps [])(b':Jp x st ps [.none])(ok:∀f fd,FunD K x st f fd->↑FnOk (CXE P w) k f fd ps sp):↑CalD x k sp:=by obtain⟨f,fd,a,F⟩:=d.ex;exact⟨f,fd,ps,aP KX G a,ok f fd F,F.kp,F.binds b,F.binds b'⟩
theorem CalD.all {x:Str}{k:Nat}{sp:Sp}(c:↑CalD x k sp):↑Cal x k sp:=by obtain⟨f,fd,ps,h1,h2,h3,h4,_⟩:=c.ex;exact⟨f,fd,ps,h1,h2,h3,h4⟩
end
section
variable {X:Cx}{x:Str}{k:Nat}{sp:Sp}{E:St->XK}{p pos:Pos}{e:Expr}{es:List Expr}{t:TA}
end
end
section
def tRev (K:Aa)(te:TE)(ts:TE):TE:=λσ H Q=>te σ H λx H1=>ts σ H1 λy H2=>y=.int (-1)/\∃a xs,x=.ref a/\SqL K H2 a xs/\∀p,H2 p=none->Q (.ref p) (upd H2 p (.lst xs.reverse))
theorem wu3 {X:Cx}{e st:Expr}{te ts:TE}{p2 pos:Pos}{ops:Ag->Ag->List Ag}(he:PE X e te)(hs:PE X st ts)(hsub:∀ov iv,subscripted (.Slice none none (some st) p2) false ov iv=operate (ops ov iv) (getItem ov iv):=by intros;rfl):PE X (.Subscript e (.Slice none none (some st) p2) pos) (tRev X.K te ts):=by intro pins s σ H Q I h;refine Subscript_ (thn (he pins s σ H _ I h) λv s1 ζ=>?_);obtain⟨x,H1,I1,r1,q1⟩:=ζ;refine wpAny_Slice ?_;rw[evalPart_none];refine aq (aq ?_);rw[evalPart_some];refine thn (hs pins s1 σ H1 _ I1 q1) λvs s3 ζ=>?_;obtain⟨y,H3,I3,r3,e3,a,xs,ex,hq,q⟩:=ζ;subst e3 ex;cases r1;obtain⟨t,rfl⟩:=r3;have F:Inv X pins σ H3 { s3 with heap:=s3.heap.push { cls:=.type "slice",data:=.fields #[.none,.none,.int (-1) t] } }:=I3.kept (t':=s3.toks) λb J q=>ai _ q;obtain⟨O,r,G,L⟩:=F.list hq;have S:=r.length;show wpAny ↑[X] X.A (subscriptTail e (.Slice none none (some st) p2) (.ref a) (.ref s3.heap.objs.size)) (EP X pins σ Q) X.xe { s3 with heap:=s3.heap.push { cls:=.type "slice",data:=.fields #[.none,.none,.int (-1) t] } };refine tail_any (ops:=ops (.ref a) (.ref s3.heap.objs.size)) G.isList.typeIs fI.lookup ?_ (hsub _ _);refine wpAny_getItem_list_slice G.isList (Heap.IsSliceOf.new ..) .none .none (.int (-1) t) (by simp) ?_ (by rw[aG] <;> lia);rw[W.krv_pick];refine⟨.ref _,_,F.laid (t':=s3.toks) (o:=.lst xs.reverse) (λb J q=>ai _ q) (al _) ?_,rfl,q _ (F.hok.fresh (al _))⟩;exact⟨by rw[cW];exact L,_,0,r.reverse,ax _ rfl⟩
end
section
section
variable {κ:Type}[DecidableEq κ]
def wp (kvs:List (κ×V))(k:κ):Option V:=(kvs.find? λkv=>decide (kv.1=k)).map (·.2)
def v8 (kvs:List (κ×V))(k:κ)(v:V):List (κ×V) :=
 if(kvs.any λkv=>decide (kv.1=k))=true then kvs.map (λkv=>if kv.1=k then(kv.1,v) else kv) else kvs++[(k,v)]
def ux (kvs:List (κ×V))(k:κ):List (κ×V):=kvs.filter λkv=>decide (kv.1≠k)
theorem vj {p:κ×V}{r:List (κ×V)}{k:κ}(e:p.1=k):wp (p::r) k=some p.2:=by simp[wp,dm,e]
theorem zr {p:κ×V}{r:List (κ×V)}{k:κ}(e:¬ p.1=k):wp (p::r) k=wp r k:=by simp[wp,dm,e]
theorem Q5 (k:κ):∀kvs:List (κ×V),(kvs.any λkv=>decide (kv.1=k))=(wp kvs k).isSome
 |[]=>rfl
 |p::r=>by
  rw[gz];by_cases e:p.1=k
  .simp only[vj e,aT e,Bool.true_or,Option.isSome_some]
  .rw[zr e,be e,Bool.false_or];exact Q5 k r
theorem wxs (k j:κ)(y:V):∀kvs:List (κ×V),wp (kvs.map λkv=>if kv.1=k then(kv.1,y) else kv) j=(wp kvs j).map λx=>if j=k then y else x
 |[]=>rfl
 |p::r=>by
  have ih:=wxs k j y r;rw[aH];by_cases h:p.1=k
  .rw[ak h];by_cases e:p.1=j
   .rw[vj (p:=(p.1,y)) e,vj e,cz,ak (e.symm.trans h)]
   .rw[zr (p:=(p.1,y)) e,zr e,ih]
  .rw[ag h];by_cases e:p.1=j
   .rw[vj (p:=p) e,vj e,cz,ag (λz=>h (e.trans z))]
   .rw[zr (p:=p) e,zr e,ih]
theorem Js (k j:κ)(y:V):∀kvs:List (κ×V),wp kvs k=none->wp (kvs++[(k,y)]) j=if j=k then some y else wp kvs j
 |[],_=>by
  by_cases e:k=j
  .rw[ak e.symm];exact vj (p:=(k,y)) e
  .rw[ag (λz=>e z.symm)];exact zr (p:=(k,y)) e
 |p::r,hn=>by
  rw[List.cons_append];have hk:¬ p.1=k:=λz=>by rw[vj z]at hn;cases hn
  rw[zr hk]at hn;have ih:=Js k j y r hn;by_cases e:p.1=j
  .rw[vj e,vj e,ag (λz=>hk (e.trans z))]
  .rw[zr e,zr e,ih]
theorem Q3 (kvs:List (κ×V))(k j:κ)(y:V):wp (v8 kvs k y) j=if j=k then some y else wp kvs j:=by
 unfold v8;by_cases a:(kvs.any λF=>decide (F.1=k))=true
 .rw[ak a,wxs];rw[Q5]at a;by_cases e:j=k
  .obtain⟨x,G⟩:=az.mp a;rw[ak e,e,G,cz,ak rfl]
  .rw[ag e];cases wp kvs j with
   |none=>rfl
   |some x=>rw[cz,ag e]
 .rw[ag a];refine Js k j y kvs ?_;rw[Q5]at a;cases q:wp kvs k with
  |none=>rfl
  |some x=>rw[q]at a;exact(a rfl).elim
theorem uz (kvs:List (κ×V))(k:κ)(v:V):(v8 kvs k v).length<=kvs.length+1:=by
 unfold v8;split
 .rw[aa];lia
 .rw[aE,aC,eU];lia
theorem Q8 {kvs:List (κ×V)}{k:κ}(v:V)(h:wp kvs k=none):v8 kvs k v=kvs++[(k,v)]:=by unfold v8;rw[Q5,h];exact ag ⋯
theorem RelO.isSome_eq {o:Option V}{u:Option Ag}(r:RelO o u):o.isSome=u.isSome:=by
 cases o with
 |none=>cases u with
  |none=>rfl
  |some _=>exact(show False from r).elim
 |some _=>cases u with
  |none=>exact(show False from r).elim
  |some _=>rfl
theorem RelO.getD {o:Option V}{u:Option Ag}{d:V}{d':Ag}(r:RelO o u)(rd:RelV d d'):RelV (o.getD d) (u.getD d'):=by
 cases o with
 |none=>cases u with
  |none=>exact rd
  |some _=>exact(show False from r).elim
 |some _=>cases u with
  |none=>exact(show False from r).elim
  |some _=>exact r
theorem KV.val {kvs:List (κ×V)}{vs:List (κ×Ag)}(r:KV kvs vs)(k:κ):RelO (wp kvs k) (valueAt vs k):=by
 unfold KV at r
 induction r with
 |nil=>exact True.intro
 |@cons p q ps qs h t ih =>
  obtain⟨h1,h2⟩:=h;by_cases e:p.1=k
  .have F:q.1=k:=h1.symm.trans e;have b:valueAt (q::qs) k=some q.2:=by simp[valueAt,dm,F]
   rw[vj e,b];exact h2
  .have F:¬ q.1=k:=λz=>e (h1.trans z);have b:valueAt (q::qs) k=valueAt qs k:=by simp[valueAt,dm,F]
   rw[zr e,b];exact ih
theorem KV.any {kvs:List (κ×V)}{vs:List (κ×Ag)}(r:KV kvs vs)(k:κ):(kvs.any λkv=>decide (kv.1=k))=vs.any λkv=>decide (kv.1=k):=by
 unfold KV at r
 induction r with
 |nil=>rfl
 |cons h t ih=>rw[gz,gz,ih,h.1]
theorem KV.repl {kvs:List (κ×V)}{vs:List (κ×Ag)}(r:KV kvs vs)(k:κ){y:V}{u:Ag}(ry:RelV y u) :
  KV (kvs.map λkv=>if kv.1=k then(kv.1,y) else kv) (vs.map λkv=>if kv.1=k then(kv.1,u) else kv):=by
 unfold KV at r ⊢
 induction r with
 |nil=>exact .nil
 |@cons p q ps qs h t ih =>
  rw[aH,aH];refine .cons ?_ ih;obtain⟨h1,h2⟩:=h;by_cases e:p.1=k
  .rw[ak e,ak (h1.symm.trans e)];exact⟨h1,ry⟩
  .rw[ag e,ag (λz=>e (h1.trans z))];exact⟨h1,h2⟩
theorem KV.put {kvs:List (κ×V)}{vs:List (κ×Ag)}(r:KV kvs vs)(k:κ){y:V}{u:Ag}(ry:RelV y u):KV (v8 kvs k y) (stored vs k u):=by
 unfold v8 stored;rw[r.any k];by_cases e:(vs.any λF=>decide (F.1=k))=true
 .rw[ak e,ak e];exact r.repl k ry
 .rw[ag e,ag e];exact Paired.snoc r ⟨rfl,ry⟩
theorem KV.drop {kvs:List (κ×V)}{vs:List (κ×Ag)}(r:KV kvs vs)(k:κ):KV (ux kvs k) (without vs k):=by
 unfold KV at r ⊢;unfold ux without
 induction r with
 |nil=>exact .nil
 |@cons p q ps qs h t ih =>
  obtain⟨h1,h2⟩:=h;rw[bP,bP];by_cases e:p.1=k
  .have a:¬ decide (p.1≠k)=true:=by simp[e]
   have b:¬ decide (q.1≠k)=true:=by simp[h1.symm.trans e]
   rw[ag a,ag b];exact ih
  .have F:¬ q.1=k:=λz=>e (h1.trans z);have a:decide (p.1≠k)=true:=by simp[e]
   have b:decide (q.1≠k)=true:=by simp[F]
   rw[ak a,ak b];exact .cons ⟨h1,h2⟩ ih
theorem KV.length {kvs:List (κ×V)}{vs:List (κ×Ag)}(r:KV kvs vs):kvs.length=vs.length:=bx r
theorem qx0 (kvs:List (κ×V))(k:κ):(ux kvs k).length<=kvs.length:=bF _ _
end
theorem Zv {P:Ac}{w:Ah}{k:Key}{u:Ag}(r:RelV (kV k) u):(zv P w).is k u=true:=by
 cases k with
 |inl i=>obtain⟨t,e⟩:=(show ∃t,u=Value.int i t from r);subst e;exact wq8 P w i t
 |inr x=>obtain⟨t,e⟩:=(show ∃t,u=Value.str x t from r);subst e;exact wwd P w x t
theorem qjk {P:Ac}{w:Ah}:∀ {ks:List Key} {us:List Ag},Vals (ks.map kV) us->ItemsAre (zv P w) ks us
 |[],_,r=>by rw[cA]at r;cases r;exact .nil
 |k::ks,_,r=>by
  rw[aH]at r;cases r with
  |cons h t=>exact .cons (Zv h) (qjk t)
abbrev KT (H:Hp):List (List Key×V)->List (List Key×Aj×Ag)->Prop:=Paired λp q=>p.1=q.1/\H q.2.1=some (.tup (p.1.map kV))/\RelV p.2 q.2.2
theorem KT.val {H:Hp}{kvs:List (List Key×V)}{xs:List (List Key×Aj×Ag)}(r:KT H kvs xs)(k:List Key):RelO (wp kvs k) ((atKey xs k).map (·.2)):=by
 induction r with
 |nil=>exact True.intro
 |@cons p q ps qs h t ih =>
  obtain⟨h1,_,h2⟩:=h;by_cases e:p.1=k
  .have F:q.1=k:=h1.symm.trans e;have b:atKey (q::qs) k=some q.2:=by simp[atKey,dm,F]
   rw[vj e,b];exact h2
  .have F:¬ q.1=k:=λz=>e (h1.trans z);have b:atKey (q::qs) k=atKey qs k:=by simp[atKey,dm,F]
   rw[zr e,b];exact ih
theorem KT.repl {H:Hp}{kvs:List (List Key×V)}{xs:List (List Key×Aj×Ag)}(r:KT H kvs xs)(k:List Key){y:V}{u:Ag}(ry:RelV y u) :
  KT H (kvs.map λkv=>if kv.1=k then(kv.1,y) else kv) (xs.map (putAt k u)):=by
 induction r with
 |nil=>exact .nil
 |@cons p q ps qs h t ih =>
  rw[aH,aH];refine .cons ?_ ih;obtain⟨h1,h2,F⟩:=h;unfold putAt;by_cases e:p.1=k
  .rw[ak e,ak (h1.symm.trans e)];exact⟨h1,h2,ry⟩
  .rw[ag e,ag (λz=>e (h1.trans z))];exact⟨h1,h2,F⟩
theorem KT.put {H:Hp}{kvs:List (List Key×V)}{xs:List (List Key×Aj×Ag)}(r:KT H kvs xs)(k:List Key){b:Aj}{y:V}{u:Ag}(hb:H b=some (.tup (k.map kV)))(ry:RelV y u) :
  KT H (v8 kvs k y) (storedH xs k b u):=by
 have e:(kvs.any λF=>decide (F.1=k))=(atKey xs k).isSome:=by rw[Q5,(r.val k).isSome_eq,cv]
 unfold v8 storedH;rw[e];by_cases q:(atKey xs k).isSome=true
 .rw[ak q,ak q];exact r.repl k ry
 .rw[ag q,ag q];exact Paired.snoc r ⟨rfl,hb,ry⟩
theorem KT.keeps {H H':Hp}{kvs:List (List Key×V)}{xs:List (List Key×Aj×Ag)}(r:KT H kvs xs)(ht:∀b ys,H b=some (.tup ys)->H' b=some (.tup ys)):KT H' kvs xs :=
 Paired.mapP r λ_ _ z=>⟨z.1,ht _ _ z.2.1,z.2.2⟩
section
variable {P:Ac}{w:Ah}{H:Hp}{h:Heap}{a:Aj}
theorem rd_of {u:HO}(ok:HOk P w H h)(e:Rd H a u):ObjOk P w H h a u:=e.ok ok
theorem Wm {kvs:List (Key×V)}(ok:HOk P w H h)(e:Rd H a (.dK kvs)):kvs.length<=sizeLine/\(a==sysModules)=false/\∃vs,KV kvs vs/\h.DictOf (zv P w) a vs :=
 show ObjOk P w H h a (.dK kvs) from rd_of ok e
theorem Y9 {kvs:List (Key×V)}(ok:HOk P w H h)(e:H a=some (.dK kvs)):kvs.length<=sizeLine/\(a==sysModules)=false/\∃vs,KV kvs vs/\h.DictOf (zv P w) a vs:=Wm ok (.inl e)
theorem W0 {ks:List Key}(ok:HOk P w H h)(e:H a=some (.tup (ks.map kV))):(tupleKind (zv P w)).is h ks a:=by obtain⟨_,F,r,o,h1,h2,n,G⟩:=(show ObjOk P w H h a (.tup (ks.map kV)) from ok a _ e);exact⟨o,F.toArray,n,h1,h2,G,by simpa using qjk r⟩
theorem Yc {kvs:List (List Key×V)}(ok:HOk P w H h)(e:Rd H a (.dT kvs)):kvs.length<=sizeLine/\(a==sysModules)=false /\
  ∃xs,KT H kvs xs/\h.DictOfH (tupleKind (zv P w)) a xs:=by
 obtain⟨z,y,xs,r,o,es,ep,h1,h2,J,I,G⟩:=(show ObjOk P w H h a (.dT kvs) from rd_of ok e);refine⟨z,y,xs,r,o,es,ep,h1,h2,J,I,λx F=>?_,G⟩;have L:∀ {l:List (List Key×V)} {m:List (List Key×Aj×Ag)},KT H l m->∀x∈m,(tupleKind (zv P w)).is h x.1 x.2.1:=by
  intro l m q
  induction q with
  |nil=>intro x F;exact nomatch F
  |@cons p q ps qs hq t ih =>
   intro x F;rcases ae.mp F with e|F
   .subst e;exact W0 ok (by rw[<-hq.1];exact hq.2.1)
   .exact ih x F
 exact L r x F
theorem dt_of {kvs:List (List Key×V)}(ok:HOk P w H h)(e:H a=some (.dT kvs)):kvs.length<=sizeLine/\(a==sysModules)=false /\
  ∃xs,KT H kvs xs/\h.DictOfH (tupleKind (zv P w)) a xs:=Yc ok (.inl e)
end
def DGet (H:Hp)(a:Aj)(y:V)(r:Option V):Prop :=
 (∃kvs k,Rd H a (.dK kvs)/\y=kV k/\r=wp kvs k)\/∃kvs k b,Rd H a (.dT kvs)/\y=.ref b/\H b=some (.tup (k.map kV))/\r=wp kvs k
def DPut (H:Hp)(a:Aj)(y v:V)(H':Hp):Prop :=
 (∃kvs k,H a=some (.dK kvs)/\y=kV k/\kvs.length<sizeLine/\H'=upd H a (.dK (v8 kvs k v))) \/
 ∃kvs k b,H a=some (.dT kvs)/\y=.ref b/\H b=some (.tup (k.map kV))/\kvs.length<sizeLine/\H'=upd H a (.dT (v8 kvs k v))
theorem DGet.k {H:Hp}{a:Aj}{kvs:List (Key×V)}{k:Key}(e:H a=some (.dK kvs)):DGet H a (kV k) (wp kvs k):=.inl ⟨kvs,k,.inl e,rfl,rfl⟩
theorem DGet.t {H:Hp}{a b:Aj}{kvs:List (List Key×V)}{k:List Key}(e:H a=some (.dT kvs))(eb:H b=some (.tup (k.map kV))):DGet H a (.ref b) (wp kvs k):=.inr ⟨kvs,k,b,.inl e,rfl,eb,rfl⟩
theorem DPut.k {H:Hp}{a:Aj}{kvs:List (Key×V)}{k:Key}{v:V}(e:H a=some (.dK kvs))(hl:kvs.length<sizeLine):DPut H a (kV k) v (upd H a (.dK (v8 kvs k v))):=.inl ⟨kvs,k,e,rfl,hl,rfl⟩
theorem DPut.t {H:Hp}{a b:Aj}{kvs:List (List Key×V)}{k:List Key}{v:V}(e:H a=some (.dT kvs))(eb:H b=some (.tup (k.map kV)))(hl:kvs.length<sizeLine) :
  DPut H a (.ref b) v (upd H a (.dT (v8 kvs k v))):=.inr ⟨kvs,k,b,e,rfl,eb,hl,rfl⟩
section
variable {X:Cx}{pins:List (Aj×Obj)}{σ:St}{H:Hp}{s:Ab}{a:Aj}{y v:V}{u r:Ag}{o:Option V}{A:Ae}{E:Ag->Ab->Prop}
theorem Inv.big (I:Inv X pins σ H s):sysModules<s.heap.objs.size:=by have h:mainGlobals<s.heap.objs.size:=(I.mod.glob.keeps I.bk).lt;exact bw ⋯ h
theorem wy8 {Q:Ag->Ab->Prop}(hu:A.units+1<cLine)(I:Inv X pins σ H s)(g:DGet H a y (some v))(ry:RelV y u)(h:∀w' s',Inv X pins σ H s'->RelV v w'->Q w' s') :
  wpAny ↑[X] A (getItem (.ref a) u) Q E s:=by
 rcases g with⟨kvs,k,e,L,l⟩|⟨kvs,k,b,e,L,eb,l⟩
 .subst L;obtain⟨z,Z,O,G,dd⟩:=Wm I.hok e;obtain⟨w',J,F⟩:=RelO.some_of (v:=v) (o:=valueAt O k) (by rw[l];exact G.val k);exact wpAny_getItem_of (Zv ry) dd.mapOf J (h w' _ (I.tok _) F)
 .subst L;cases(show u=Value.ref b from ry);obtain⟨z,Z,xs,G,dd⟩:=Yc I.hok e;obtain⟨w',J,F⟩:=RelO.some_of (v:=v) (o:=(atKey xs k).map (·.2)) (by rw[l];exact G.val k);obtain⟨p,U,S⟩:=dW.mp J;refine wpAny_getItem_heap (cH hu) (W0 I.hok eb) dd U ?_;rw[S];exact h w' _ (I.tok _) F
theorem zh8 {Q:Ag->Ab->Prop}(hu:A.units+1<cLine)(I:Inv X pins σ H s)(g:DGet H a y o)(ry:RelV y u)(h:∀s',Inv X pins σ H s'->Q (.bool o.isSome) s') :
  wpAny ↑[X] A (compareOp .In u (.ref a)) Q E s:=by
 rcases g with⟨kvs,k,e,J,l⟩|⟨kvs,k,b,e,J,L,l⟩
 .subst J;obtain⟨z,G,O,F,dd⟩:=Wm I.hok e;refine wpAny_in_of (Zv ry) G dd.mapOf ?_;rw[<- (F.val k).isSome_eq,<-l];exact h _ (I.tok _)
 .subst J;cases(show u=Value.ref b from ry);obtain⟨z,G,xs,F,dd⟩:=Yc I.hok e;refine wpAny_in_heap (cH hu) (W0 I.hok L) G dd ?_;have q:=(F.val k).isSome_eq;rw[cv]at q;rw[<-q,<-l];exact h _ (I.tok _)
theorem xvb {Q:Ag->Ab->Prop}(hu:A.units+1<cLine)(I:Inv X pins σ H s)(g:DGet H a y o)(ry:RelV y u)(h:∀s',Inv X pins σ H s'->Q (.bool (!o.isSome)) s') :
  wpAny ↑[X] A (compareOp .NotIn u (.ref a)) Q E s:=by
 rcases g with⟨kvs,k,e,J,l⟩|⟨kvs,k,b,e,J,L,l⟩
 .subst J;obtain⟨z,G,O,F,dd⟩:=Wm I.hok e;refine wpAny_notIn_of (Zv ry) G dd.mapOf ?_;rw[<- (F.val k).isSome_eq,<-l];exact h _ (I.tok _)
 .subst J;cases(show u=Value.ref b from ry);obtain⟨z,G,xs,F,dd⟩:=Yc I.hok e;refine wpAny_notIn_heap (cH hu) (W0 I.hok L) G dd ?_;have q:=(F.val k).isSome_eq;rw[cv]at q;rw[<-q,<-l];exact h _ (I.tok _)
theorem uh {h':Heap}{t':Nat}{ob:HO}(I:Inv X pins σ H s)(mu:Mut (H a))(hs:Heap.SameBut a s.heap h')(he:∃q,h'.get? a=some q)(new:ObjOk X.prog X.w (upd H a ob) h' a ob) :
  Inv X pins σ (upd H a ob) { s with heap:=h',toks:=t' } :=
 I.write (x:=a) (e:=a) mu (.inl rfl) (λb q hb z=>(hs.2 b hb).trans z) he new
theorem Wu {P:Ac}{w:Ah}{H':Hp}{h':Heap}{kvs:List (Key×V)}{vs:List (Key×Ag)}(z:kvs.length<=sizeLine)(hd:(a==sysModules)=false)(rel:KV kvs vs)(dd:h'.DictOf (zv P w) a vs) :
  ObjOk P w H' h' a (.dK kvs):=⟨z,hd,vs,rel,dd⟩
theorem wym {H':Hp}{Q:Unit->Ab->Prop}(hu:A.units+1<cLine)(I:Inv X pins σ H s)(g:DPut H a y v H')(ry:RelV y u)(rv:RelV v r)(h:∀s',Inv X pins σ H' s'->Q () s') :
  wpAny ↑[X] A (setItem (.ref a) u r) Q E s:=by
 rcases g with⟨kvs,k,e,U,l,Z⟩|⟨kvs,k,b,e,U,eb,l,Z⟩
 .subst U Z;obtain⟨z,S,vs,F,dd⟩:=Y9 I.hok e;have L:vs.length<=sizeLine:=by rw[<-F.length];exact z
  have O:(v8 kvs k v).length<=sizeLine:=by have:=uz kvs k v;lia
  refine wpAny_setItem_pairs (hsz:=L) (Zv ry) dd λh' J hs=>h _ ?_;have he:∃q,h'.get? a=some q:=let ⟨q,_,_,G,_⟩:=J;⟨q,G⟩;exact uh I (by rw[e];exact True.intro) hs he (Wu O S (F.put k rv) J)
 .subst U Z;cases(show u=Value.ref b from ry);obtain⟨z,S,xs,F,dd⟩:=dt_of I.hok e;have L:xs.length<=sizeLine:=by rw[<-bx F];exact z
  have O:(v8 kvs k v).length<=sizeLine:=by have:=uz kvs k v;lia
  refine wpAny_setItem_heap (hsz:=L) (cH hu) (W0 I.hok eb) dd λh' J hs=>h _ ?_;obtain⟨q,es,ep,G,h2,h3,h4,_,h5⟩:=J;refine uh I (by rw[e];exact True.intro) hs ⟨q,G⟩ ⟨O,S,_,(F.put k eb rv).keeps λc ys ec=>?_,q,es,ep,G,h2,h3,h4,h5⟩;rw[wg (ne_of ec e (λz=>nomatch z))];exact ec
end
section
variable {X:Cx}{pins:List (Aj×Obj)}{σ:St}{H:Hp}{s:Ab}{a:Aj}{kvs:List (Key×V)}{k:Key}{u:Ag}{A:Ae}{E:Ag->Ab->Prop}
theorem wux {Q:Unit->Ab->Prop}(I:Inv X pins σ H s)(e:H a=some (.dK kvs))(ry:RelV (kV k) u)(l:(wp kvs k).isSome=true)(h:∀s',Inv X pins σ (upd H a (.dK (ux kvs k))) s'->Q () s') :
  wpAny ↑[X] A (delItem (.ref a) u) Q E s:=by
 obtain⟨z,U,L,G,dd⟩:=Y9 I.hok e;refine wpAny_delItem_slot dd.typeIs ⋯ fC
  (ck fC dd.typeIs PySem.F.entry_dict_delitem (PySem.F.args_dict_delitem_2 _ _) (meets_dict_delitem_pairs (zv X.prog X.w) a (Zv ry)) ⟨L,dd,by rw[<-G.length];exact z,by rw[<- (G.val k).isSome_eq];exact l,λh' J hs=>h _ ?_⟩)
 have S:∃q,h'.get? a=some q:=let ⟨q,_,_,O,_⟩:=J;⟨q,O⟩;exact uh I (by rw[e];exact True.intro) hs S (Wu (bB (qx0 kvs k) z) U (G.drop k) J)
theorem zh9 {v:V}{more:List Ag}{Q:Ag->Ab->Prop}(I:Inv X pins σ H s)(e:H a=some (.dK kvs))(ry:RelV (kV k) u)(l:wp kvs k=some v)(hm:more=[]\/∃x,more=[x])(h:∀w' s',Inv X pins σ (upd H a (.dK (ux kvs k))) s'->RelV v w'->Q w' s'):wpAny ↑[X] A (call (.builtin "dict.pop") (.ref a::u::more)) Q E s:=by
 obtain⟨z,hd,J,G,dd⟩:=Y9 I.hok e;obtain⟨w',S,O⟩:=RelO.some_of (v:=v) (o:=valueAt J k) (by rw[<-l];exact G.val k);have Z:(keyPart u).isSome=true:=by
  cases k with
  |inl i=>obtain⟨t,q⟩:=(show ∃t,u=Value.int i t from ry);subst q;rfl
  |inr x=>obtain⟨t,q⟩:=(show ∃t,u=Value.str x t from ry);subst q;rfl
 have ha:argsOk "dict.pop" ⟨.ref a::u::more,[]⟩:=by
  rcases hm with q|⟨x,q⟩
  .subst q;exact PySem.F.args_dict_pop_2 _ _
  .subst q;exact PySem.F.args_dict_pop_3 _ _ _
 refine ck PySem.F.slot_dict_pop dd.typeIs PySem.F.entry_dict_pop ha (meets_dict_pop_there (zv X.prog X.w) a (Zv ry) more hm Z)
  ⟨J,w',dd,by rw[<-G.length];exact z,S,λh' L hs=>h w' _ ?_ O⟩
 have he:∃q,h'.get? a=some q:=let ⟨q,_,_,U,_⟩:=L;⟨q,U⟩;exact uh I (by rw[e];exact True.intro) hs he (Wu (bB (qx0 kvs k) z) hd (G.drop k) L)
theorem xzc {Q:Ag->Ab->Prop}(I:Inv X pins σ H s)(e:H a=some (.dK kvs))(h:∀s',Inv X pins σ (upd H a (.dK [])) s'->Q .none s'):wpAny ↑[X] A (call (.builtin "dict.clear") [.ref a]) Q E s:=by obtain⟨z,U,J,L,dd⟩:=Y9 I.hok e;refine ck fY dd.typeIs PySem.F.entry_dict_clear (PySem.F.args_dict_clear_1 _) (meets_dict_clear (zv X.prog X.w) a) ⟨J,dd,by rw[<-L.length];exact z,λh' G hs=>h _ ?_⟩;have S:∃q,h'.get? a=some q:=let ⟨q,_,_,O,_⟩:=G;⟨q,O⟩;exact uh (t':=s.toks) I (by rw[e];exact True.intro) hs S (Wu (aA _) U .nil G)
end
def NoSl (i:Expr):Prop:=∀ov iv,subscripted i false ov iv=operate [ov,iv] (getItem ov iv)
theorem xv5 {prog:Ac}{w:Ah}{A:Ae}{E:Ag->Ab->Prop}{s:Ab}{env:Env}{value slice:Expr}{pos:Pos}{T id:String}{Q:Ag->Ab->Prop}
  (hl:typeLookup (.type T) "__getitem__" = pure (some (.builtin id))) (hs:NoSl slice)(h:wpAny (model prog w) A (eval value env) (λo s₁=>wpAny (model prog w) A (eval slice env) (λi s₂=>s₂.TypeIs o T/\wpAny (model prog w) A (getItem o i) Q E s₂) E s₁) E s) :
  wpAny (model prog w) A (eval (.Subscript value slice pos) env) Q E s:=by
 refine Subscript_ (bh h (λo s₁ O=>bh O (λi s₂ F=>?_) λ_ _ x=>x) λ_ _ x=>x);obtain⟨J,F⟩:=F;unfold subscriptTail;refine ac ?_;rw[getitemInPython_of_ne J.not_modules];refine ac (gr J hl ?_);have G:wpAny (model prog w) A (subscripted slice false o i) (λr I=>wpAny (model prog w) A (letTemporaryGo value o r >>= λ_=>pure r) Q E I) E s₂:=by rw[hs o i];exact wpAny_operating (bh F (λr I L=>ac (wpAny_letTemporaryGo (aq L))) λ_ _ x=>x)
 first
  |exact aq (ac G)
  |exact ac (aq (ac G))
  |exact ac G
theorem wx0 {X:Cx}{pins:List (Aj×Obj)}{σ:St}{H:Hp}{s:Ab}{a:Aj}{y:V}{o:Option V}(I:Inv X pins σ H s)(g:DGet H a y o):s.TypeIs (.ref a) "dict" := by
 rcases g with⟨kvs,k,e,_,_⟩|⟨kvs,k,b,e,_,_,_⟩
 .obtain⟨_,_,vs,_,dd⟩:=Wm I.hok e;exact dd.typeIs
 .obtain⟨_,_,xs,_,dd⟩:=Yc I.hok e;exact dd.typeIs
def tDGet (td ty:TE):TE:=λσ H Q=>td σ H λx H1=>ty σ H1 λy H2=>∃a v,x=.ref a/\DGet H2 a y (some v)/\Q v H2
def tDIn (ty td:TE):TE:=λσ H Q=>ty σ H λy H1=>td σ H1 λx H2=>∃a o,x=.ref a/\DGet H2 a y o/\Q (.bl o.isSome) H2
def xvs (ty td:TE):TE:=λσ H Q=>ty σ H λy H1=>td σ H1 λx H2=>∃a o,x=.ref a/\DGet H2 a y o/\Q (.bl (!o.isSome)) H2
def sDPut (td ty tv:TE):TS:=λD σ H=>tv σ H λv H1=>td σ H1 λx H2=>ty σ H2 λy H3=>∃a H4,x=.ref a/\DPut H3 a y v H4/\D.nx σ H4
def sDDel (td ty:TE):TS:=λD σ H=>td σ H λx H1=>ty σ H1 λy H2=>∃a kvs k,x=.ref a/\H2 a=some (.dK kvs)/\y=kV k/\(wp kvs k).isSome=true/\D.nx σ (upd H2 a (.dK (ux kvs k)))
section
variable {X:Cx}{o i e value:Expr}{pos pos' tpos:Pos}{td ty tv:TE}
theorem jw (hu:X.A.units+1<cLine)(ho:PE X o td)(hi:PE X i ty)(hs:NoSl i):PE X (.Subscript o i pos) (tDGet td ty):=by intro pins s σ H Q I h;refine xv5 PySem.F.slot_dict_getitem.lookup hs (thn (ho pins s σ H _ I h) λu s1 ζ=>?_);obtain⟨x,H1,I1,rx,q1⟩:=ζ;refine thn (hi pins s1 σ H1 _ I1 q1) λiv s2 ζ=>?_;obtain⟨y,H2,I2,ry,a,v,ex,g,q2⟩:=ζ;subst ex;obtain rfl:u=Value.ref a:=rx;exact⟨wx0 I2 g,wy8 hu I2 g ry λL O J G=>⟨v,H2,J,G,q2⟩⟩
theorem xwt (hu:X.A.units+1<cLine)(hi:PE X i ty)(ho:PE X o td):PC X .In i o (tDIn ty td):=by intro pins s σ H Q I h;refine thn (hi pins s σ H _ I h) λiv s1 ζ=>?_;obtain⟨y,H1,I1,ry,q1⟩:=ζ;refine thn (ho pins s1 σ H1 _ I1 q1) λu s2 ζ=>?_;obtain⟨x,H2,I2,rx,a,ov,ex,g,q2⟩:=ζ;subst ex;obtain rfl:u=Value.ref a:=rx;exact zh8 hu I2 g ry λG F=>⟨.bl ov.isSome,H2,F,rfl,q2⟩
theorem yu (hu:X.A.units+1<cLine)(hi:PE X i ty)(ho:PE X o td):PC X .NotIn i o (xvs ty td):=by intro pins s σ H Q I h;refine thn (hi pins s σ H _ I h) λiv s1 ζ=>?_;obtain⟨y,H1,I1,ry,q1⟩:=ζ;refine thn (ho pins s1 σ H1 _ I1 q1) λu s2 ζ=>?_;obtain⟨x,H2,I2,rx,a,ov,ex,g,q2⟩:=ζ;subst ex;obtain rfl:u=Value.ref a:=rx;exact xvb hu I2 g ry λG F=>⟨.bl (!ov.isSome),H2,F,rfl,q2⟩
theorem Qb (hu:X.A.units+1<cLine)(ho:PE X o td)(hi:PE X i ty)(hv:PE X value tv)(hs:swapsWith value (some (.Subscript o i pos')) pos.line X.env=pure false) :
  PS X (.Assign [.Subscript o i pos'] value pos) (sDPut td ty tv):=by
 intro pins s σ H D I h;refine wpAny_Assign_Subscript (thn (hv pins s σ H _ I h) λr s1 ζ=>?_) hs;obtain⟨v,H1,I1,rv,q1⟩:=ζ;refine thn (ho pins s1 σ H1 _ I1 q1) λu s2 ζ=>?_;obtain⟨x,H2,I2,rx,q2⟩:=ζ;refine thn (hi pins s2 σ H2 _ I2 q2) λiv s3 ζ=>?_;obtain⟨y,H3,I3,ry,a,H4,ex,g,q3⟩:=ζ;subst ex;obtain rfl:u=Value.ref a:=rx;exact wym hu I3 g ry rv λG F=>⟨σ,H4,F,q3⟩
theorem xvd (ho:PE X o td)(hi:PE X i ty):PS X (.Delete [.Subscript o i tpos] pos) (sDDel td ty):=by intro pins s σ H D I h;refine wpAny_Delete (wpAny_deleteEach_cons (wpAny_delete_Subscript (thn (ho pins s σ H _ I h) λu s1 ζ=>?_)));obtain⟨x,H1,I1,rx,q1⟩:=ζ;refine thn (hi pins s1 σ H1 _ I1 q1) λiv s2 ζ=>?_;obtain⟨y,H2,I2,ry,a,kvs,k,ex,e,ey,l,q2⟩:=ζ;subst ex ey;obtain rfl:u=Value.ref a:=rx;exact wux I2 e ry l λG F=>wpAny_deleteEach_nil ⟨σ,_,F,q2⟩
end
theorem wq7 {P:Ac}{w:Ah}{H:Hp}(h:Heap)(hb:sysModules<h.objs.size):ObjOk P w H (h.push { cls:=.type "dict",data:=.dict #[] }) h.objs.size (.dK []) :=
 ⟨aA _,aY.mpr (aZ (aD hb)),[],.nil,Heap.DictOf.new h⟩
theorem wxn {P:Ac}{w:Ah}{H:Hp}(h:Heap)(hb:sysModules<h.objs.size):ObjOk P w H (h.push { cls:=.type "dict",data:=.dict #[] }) h.objs.size (.dT []) :=
 ⟨aA _,aY.mpr (aZ (aD hb)),[],.nil,_,#[],0,ax _ rfl,⟨rfl,rfl,rfl⟩,rfl,rfl,aX⟩
def tDNewK:TE:=λ_ H Q=>∀p,H p=none->Q (.ref p) (upd H p (.dK []))
def tDNewT:TE:=λ_ H Q=>∀p,H p=none->Q (.ref p) (upd H p (.dT []))
section
variable {X:Cx}{pos:Pos}
theorem km:PE X (.Dict [] [] pos) tDNewK:=λpins s σ H Q I h =>
 wpAny_Dict_empty ⟨.ref s.heap.objs.size,_,I.laid (a:=s.heap.objs.size) (o:=.dK []) (t':=s.toks) (λ_ _ q=>ai _ q) (al _) (wq7 s.heap I.big),rfl,h _ (I.hok.fresh (al _))⟩
theorem xwu:PE X (.Dict [] [] pos) tDNewT:=λpins s σ H Q I h =>
 wpAny_Dict_empty ⟨.ref s.heap.objs.size,_,I.laid (a:=s.heap.objs.size) (o:=.dT []) (t':=s.toks) (λ_ _ q=>ai _ q) (al _) (wxn s.heap I.big),rfl,h _ (I.hok.fresh (al _))⟩
end
end
section
def wvq:List (TE×TE)->St->Hp->(List (V×V)->Hp->Prop)->Prop
 |[],_,H,Q=>Q [] H
 |(tk,tv)::r,σ,H,Q=>tk σ H λx H1=>tv σ H1 λy H2=>wvq r σ H2 λps H3=>Q ((x,y)::ps) H3
abbrev VV:List (V×V)->List (Ag×Ag)->Prop:=Paired λp q=>RelV p.1 q.1/\RelV p.2 q.2
def PPs (X:Cx)(pos:Pos)(keys:List (Option Expr))(values:List Expr)(trs:List (TE×TE)):Prop :=
 ∀(pins:List (Aj×Obj)) (s:Ab) (σ:St) (H:Hp) (Q:List (V×V)->Hp->Prop),Inv X pins σ H s->wvq trs σ H Q ->
  wpAny ↑[X] X.A (evalPairs (pairTrees keys values X.env pos)) (λvs s'=>∃ps H',Inv X pins σ H' s'/\VV ps vs/\Q ps H') X.xe s
theorem Qu {X:Cx}{pos:Pos}:PPs X pos [] [] []:=λpins s σ H Q I h=>pairTrees_nil_walk ⟨[],H,I,.nil,h⟩
theorem ud {X:Cx}{pos:Pos}{k v:Expr}{ks:List (Option Expr)}{vs:List Expr}{tk tv:TE}{trs:List (TE×TE)}(hk:PE X k tk)(hv:PE X v tv)(hr:PPs X pos ks vs trs) :
  PPs X pos (some k::ks) (v::vs) ((tk,tv)::trs):=λpins s σ H Q I h =>
 pairTrees_cons_walk (thn (hk pins s σ H _ I h) λu s1 ⟨x,H1,I1,rx,q1⟩=>thn (hv pins s1 σ H1 _ I1 q1) λw2 s2 ⟨y,H2,I2,ry,q2⟩ =>
  thn (hr pins s2 σ H2 _ I2 q2) λws s3 ⟨ps,H3,I3,rel,q3⟩=>⟨(x,y)::ps,H3,I3,.cons ⟨rx,ry⟩ rel,q3⟩)
def uq (kvs more:List (Key×V)):List (Key×V):=more.foldl (λacc kv=>v8 acc kv.1 kv.2) kvs
theorem KV.merge:∀ {more:List (Key×V)} {rs:List (Key×Ag)} {kvs:List (Key×V)} {vs:List (Key×Ag)},KV more rs->KV kvs vs->KV (uq kvs more) (merged vs rs):=by
 intro more rs kvs vs r;unfold KV at r
 induction r generalizing kvs vs with
 |nil=>intro q;exact q
 |@cons p q ps qs h t ih =>
  intro F;have e:KV (v8 kvs p.1 p.2) (stored vs q.1 q.2):=by have:=F.put p.1 h.2;rw[<-h.1];exact this
  exact ih e
theorem Qn:∀(more kvs:List (Key×V)),(uq kvs more).length<=kvs.length+more.length
 |[],kvs=>by show kvs.length<=kvs.length+0;lia
 |p::r,kvs=>by have h1:=Qn r (v8 kvs p.1 p.2);have h2:=uz kvs p.1 p.2;show(uq (v8 kvs p.1 p.2) r).length<=_;rw[aC];lia
theorem qzz {P:Ac}{w:Ah}:∀ {kvs:List (Key×V)} {ws:List (Ag×Ag)},VV (kvs.map λkv=>(kV kv.1,kv.2)) ws->∃rs,Carries (zv P w) ws rs/\KV kvs rs
 |[],_,r=>by rw[cA]at r;cases r;exact⟨[],True.intro,.nil⟩
 |p::kvs,_,r=>by
  rw[aH]at r;cases r with
  |@cons a b as bs h t =>
   obtain⟨rs,c,q⟩:=qzz (P:=P) (w:=w) t;obtain⟨b1,b2⟩:=b;exact⟨(p.1,b2)::rs,⟨Zv h.1,rfl,c⟩,.cons ⟨rfl,h.2⟩ q⟩
def tDisp (trs:List (TE×TE)):TE:=λσ H Q=>∀p,H p=none->wvq trs σ (upd H p (.dK [])) λps H2=>H2 p=some (.dK [])/\∃kvs:List (Key×V),ps=kvs.map (λkv=>(kV kv.1,kv.2))/\kvs.length<=15/\Q (.ref p) (upd H2 p (.dK (uq [] kvs)))
theorem Qc {X:Cx}{pos:Pos}{keys:List (Option Expr)}{values:List Expr}{trs:List (TE×TE)}(h:PPs X pos keys values trs)(hall:keys.all (·.isSome)=true)(hl:keys.length=values.length)(h0:keys≠[])(h15:keys.length<=15):PE X (.Dict keys values pos) (tDisp trs):=by
 intro pins s σ H Q I q;have S:=I.hok.fresh (al s.heap.objs.size);have I1:=I.laid (a:=s.heap.objs.size) (o:=.dK []) (h':=s.heap.push { cls:=.type "dict",data:=.dict #[] }) (t':=s.toks) (λ_ _ q=>ai _ q) (al _) (wq7 s.heap I.big);refine wpAny_Dict_walk (knd:=zv X.prog X.w) hall hl h0 h15 (thn (h pins _ σ _ _ I1 (q _ S)) λws s2 ζ=>?_);obtain⟨ps,H2,I2,rel,e,kvs,ep,lk,q2⟩:=ζ;subst ep;obtain⟨rs,c,G⟩:=qzz (P:=X.prog) (w:=X.w) rel;obtain⟨z,Z,ab,J,dd⟩:=Y9 I2.hok e;cases J;refine⟨rs,c,dd,λh' F hs=>⟨.ref s.heap.objs.size,_,?_,rfl,q2⟩⟩;have L:(uq [] kvs).length<=sizeLine:=by have h1:=Qn kvs [];rw[eU]at h1;rw[sizeLine_eq];lia
 have U:∃q,h'.get? s.heap.objs.size=some q:=let ⟨q,_,_,O,_⟩:=F;⟨q,O⟩;exact uh I2 (by rw[e];exact True.intro) hs U (Wu L Z (G.merge .nil) F)
structure M1 (X:Cx)(o:Expr)(m:Str)(apos:Pos)(e:Expr)(cpos:Pos):Prop where
 base:attributeBase o m X.env (eval o X.env)=eval o X.env
 few:((backTo cpos (starEach [e] X.env)).all (λx=>!x.1)&&(backToKw cpos (keywordEach [] X.env)).all (λx=>x.1.isSome)
  && decide (([e]:List Expr).length+([]:List Keyword).length+(if([]:List Keyword).isEmpty then 0 else 1)<30))=true
 line:(apos.endLine==cpos.line)=true
 trees:backTo cpos (starEach [e] X.env)=[(false,eval e X.env)]
structure M2 (X:Cx)(o:Expr)(m:Str)(apos:Pos)(e f:Expr)(cpos:Pos):Prop where
 base:attributeBase o m X.env (eval o X.env)=eval o X.env
 few:((backTo cpos (starEach [e,f] X.env)).all (λx=>!x.1)&&(backToKw cpos (keywordEach [] X.env)).all (λx=>x.1.isSome)
  && decide (([e,f]:List Expr).length+([]:List Keyword).length+(if([]:List Keyword).isEmpty then 0 else 1)<30))=true
 line:(apos.endLine==cpos.line)=true
 trees:backTo cpos (starEach [e,f] X.env)=[(false,eval e X.env),(false,eval f X.env)]
def IsD (H:Hp)(a:Aj):Prop:=(∃kvs,Rd H a (.dK kvs))\/∃kvs,Rd H a (.dT kvs)
theorem Z5 {X:Cx}{pins:List (Aj×Obj)}{σ:St}{H:Hp}{s:Ab}{a:Aj}(I:Inv X pins σ H s)(d:IsD H a) :
  s.TypeIs (.ref a) "dict" /\ (∀b,Value.ref a=.ref b->∃ob,s.heap.get? b=some ob/\ob.dict=none)/\(a==sysModules)=false:=by
 rcases d with⟨kvs,e⟩|⟨kvs,e⟩
 .obtain⟨_,F,G,_,dd⟩:=Wm I.hok e;refine⟨dd.typeIs,λb q=>?_,F⟩;cases q;obtain⟨ob,_,_,h1,h2,_⟩:=dd;exact⟨ob,h1,h2.2.1⟩
 .obtain⟨_,F,xs,_,dd⟩:=Yc I.hok e;refine⟨dd.typeIs,λb q=>?_,F⟩;cases q;obtain⟨ob,_,_,h1,h2,_⟩:=dd;exact⟨ob,h1,h2.2.1⟩
section
variable {X:Cx}{pins:List (Aj×Obj)}{σ:St}{H:Hp}{s:Ab}{a:Aj}{y d:V}{u r:Ag}{o:Option V}{A:Ae}{E:Ag->Ab->Prop}
theorem zia {Q:Ag->Ab->Prop}(hu:A.units+1<cLine)(I:Inv X pins σ H s)(g:DGet H a y o)(ry:RelV y u)(h:∀w' s',Inv X pins σ H s'->RelV (o.getD .non) w'->Q w' s') :
  wpAny ↑[X] A (call (.builtin "dict.get") [.ref a,u]) Q E s:=by
 rcases g with⟨kvs,k,e,J,l⟩|⟨kvs,k,b,e,J,L,l⟩
 .subst J;obtain⟨z,G,O,F,dd⟩:=Wm I.hok e;refine ck cb dd.typeIs df (fZ _ _) (meets_dict_get (zv X.prog X.w) a (Zv ry) G) ⟨_,dd.mapOf,h _ _ (I.tok _) ?_⟩;rw[l];exact(F.val k).getD rfl
 .subst J;cases(show u=Value.ref b from ry);obtain⟨z,G,xs,F,dd⟩:=Yc I.hok e;refine ck cb dd.typeIs df (fZ _ _) (meetsH_dict_get (tupleKind (zv X.prog X.w)) a b G) ⟨cH hu,k,xs,W0 I.hok L,dd,h _ _ (I.tok _) ?_⟩;rw[l];exact(F.val k).getD rfl
theorem zib {Q:Ag->Ab->Prop}(hu:A.units+1<cLine)(I:Inv X pins σ H s)(g:DGet H a y o)(ry:RelV y u)(rd:RelV d r)(h:∀w' s',Inv X pins σ H s'->RelV (o.getD d) w'->Q w' s') :
  wpAny ↑[X] A (call (.builtin "dict.get") [.ref a,u,r]) Q E s:=by
 rcases g with⟨kvs,k,e,J,l⟩|⟨kvs,k,b,e,J,L,l⟩
 .subst J;obtain⟨z,G,O,F,dd⟩:=Wm I.hok e;refine ck cb dd.typeIs df (ga _ _ _) (meets_dict_get_default (zv X.prog X.w) a (Zv ry) G r) ⟨_,dd.mapOf,h _ _ (I.tok _) ?_⟩;rw[l];exact(F.val k).getD rd
 .subst J;cases(show u=Value.ref b from ry);obtain⟨z,G,xs,F,dd⟩:=Yc I.hok e;refine ck cb dd.typeIs df (ga _ _ _) (meetsH_dict_get_default (tupleKind (zv X.prog X.w)) a b G r) ⟨cH hu,k,xs,W0 I.hok L,dd,h _ _ (I.tok _) ?_⟩;rw[l];exact(F.val k).getD rd
end
def tDGet1 (td ty:TE):TE:=λσ H Q=>td σ H λx H1=>∃a,x=.ref a/\IsD H1 a/\ty σ H1 λy H2=>∃o,DGet H2 a y o/\Q (o.getD .non) H2
def tDGet2 (td ty tx:TE):TE:=λσ H Q=>td σ H λx H1=>∃a,x=.ref a/\IsD H1 a/\ty σ H1 λy H2=>tx σ H2 λz H3=>∃o,DGet H3 a y o/\Q (o.getD z) H3
def tDPop1 (td ty:TE):TE:=λσ H Q=>td σ H λx H1=>∃a,x=.ref a/\IsD H1 a/\ty σ H1 λy H2=>∃kvs k v,H2 a=some (.dK kvs)/\y=kV k/\wp kvs k=some v/\Q v (upd H2 a (.dK (ux kvs k)))
section
variable {X:Cx}{o e f:Expr}{apos cpos:Pos}{td ty tx:TE}
theorem xqp (hu:X.A.units+1<cLine)(ho:PE X o td)(he:PE X e ty)(m:M1 X o "get" apos e cpos):PE X (.Call (.Attribute o "get" apos) [e] [] cpos) (tDGet1 td ty):=by intro pins s σ H Q I h;refine dX m.base m.few m.line bN cb PySem.F.type_dict_get (thn (ho pins s σ H _ I h) λu s1 ζ=>?_);obtain⟨x,H1,I1,rx,a,ex,d,q1⟩:=ζ;subst ex;obtain rfl:u=Value.ref a:=rx;obtain⟨J,G,_⟩:=Z5 I1 d;refine⟨J,G,?_⟩;rw[m.trees];refine bE rfl (cn (cF (thn (he pins s1 σ H1 _ I1 q1) λiv s2 ζ=>?_)));obtain⟨y,H2,I2,ry,ov,g,q2⟩:=ζ;refine dv ?_;exact zia hu I2 g ry λS U O L=>⟨_,H2,O,L,q2⟩
theorem xxp (hu:X.A.units+1<cLine)(ho:PE X o td)(he:PE X e ty)(hf:PE X f tx)(m:M2 X o "get" apos e f cpos):PE X (.Call (.Attribute o "get" apos) [e,f] [] cpos) (tDGet2 td ty tx):=by
 intro pins s σ H Q I h;refine dX m.base m.few m.line bN cb PySem.F.type_dict_get (thn (ho pins s σ H _ I h) λu s1 ζ=>?_);obtain⟨x,H1,I1,rx,a,ex,d,q1⟩:=ζ;subst ex;obtain rfl:u=Value.ref a:=rx;obtain⟨J,G,_⟩:=Z5 I1 d;refine⟨J,G,?_⟩;rw[m.trees];refine bE rfl (cn (cF (thn (he pins s1 σ H1 _ I1 q1) λiv s2 ⟨y,H2,I2,ry,q2⟩ =>
  cF (thn (hf pins s2 σ H2 _ I2 q2) λfv s3 ⟨z,H3,I3,rz,ov,g,q3⟩=>dv ?_))))
 exact zib hu I3 g ry rz λS U O L=>⟨_,H3,O,L,q3⟩
theorem wq2 (ho:PE X o td)(he:PE X e ty)(m:M1 X o "pop" apos e cpos):PE X (.Call (.Attribute o "pop" apos) [e] [] cpos) (tDPop1 td ty):=by intro pins s σ H Q I h;refine dX m.base m.few m.line bN PySem.F.slot_dict_pop PySem.F.type_dict_pop (thn (ho pins s σ H _ I h) λu s1 ζ=>?_);obtain⟨x,H1,I1,rx,a,ex,d,q1⟩:=ζ;subst ex;obtain rfl:u=Value.ref a:=rx;obtain⟨J,G,_⟩:=Z5 I1 d;refine⟨J,G,?_⟩;rw[m.trees];refine bE rfl (cn (cF (thn (he pins s1 σ H1 _ I1 q1) λiv s2 ζ=>?_)));obtain⟨y,H2,I2,ry,kvs,k,v,ea,ey,l,q2⟩:=ζ;refine dv ?_;subst ey;exact zh9 I2 ea ry l (.inl rfl) λS U O L=>⟨v,_,O,L,q2⟩
end
section
variable {X:Cx}{pins:List (Aj×Obj)}{σ:St}{H:Hp}{s:Ab}{a:Aj}{kvs:List (Key×V)}{A:Ae}{E:Ag->Ab->Prop}
theorem xqk {Q:Ag->Ab->Prop}(I:Inv X pins σ H s)(e:Rd H a (.dK kvs))(h:∀p s',H p=none->Inv X pins σ (upd H p (.dK kvs)) s'->Q (.ref p) s'):wpAny ↑[X] A (call (.type "dict") [.ref a]) Q E s:=by obtain⟨z,J,O,F,dd⟩:=Wm I.hok e;refine kt_call_dict J dd (by rw[<-F.length];exact z) λh' L hs=>?_;refine h _ _ (I.hok.fresh (al _)) (I.laid (a:=s.heap.objs.size) (o:=.dK kvs) (t':=s.toks) (λb q G=>?_) (al _) (Wu z (aY.mpr (aZ (aD I.big))) F L));exact(hs.2 b (aD (ao G))).trans (ai _ G)
end
section
variable {X:Cx}{pins:List (Aj×Obj)}{σ:St}{H:Hp}{s:Ab}{a:Aj}{y:V}{u:Ag}{A:Ae}{E:Ag->Ab->Prop}
end
end
end L2
namespace L2
open PySem PySem.Spec PyProof.Rows PySem.W
def RawD (h:Heap)(d:Aj)(es:Array DictEntry)(ep:Nat):Prop:=∃o,h.get? d=some o/\o.ExactDict/\o.data=.dict es ep
section
variable {prog:Ac}{w:Ah}{A:Ae}{E:Ag->Ab->Prop}{s:Ab}{d:Aj}{es:Array DictEntry}{ep:Nat}
theorem RawD.ty {s:Ab}(x:RawD s.heap d es ep):s.TypeIs (.ref d) "dict" := let ⟨o,ho,hc,_⟩:=x;⟨o,ho,hc.1⟩
theorem RawD.lt {h:Heap}(x:RawD h d es ep):d<h.objs.size:=let ⟨_,ho,_⟩:=x;ao ho
theorem RawD.at {h h':Heap}(x:RawD h d es ep)(k:∀o,h.get? d=some o->h'.get? d=some o):RawD h' d es ep:=let ⟨o,ho,r⟩:=x;⟨o,k o ho,r⟩
theorem xxf {Q:Ag->Ab->Prop}(hd:(d==sysModules)=false)(hm:RawD s.heap d es ep)(hQ:Q (.ref s.heap.objs.size) { s with heap:=s.heap.push { cls:=.type "dict_keyiterator",data:=.fields #[.ref d,.int 0 0,.int es.size 0,.int ep 0] } }):wpAny (model prog w) A (pyIter (.ref d)) Q E s:=by
 obtain⟨o,G,J,I⟩:=id hm;(refine wpAny_pyIter_slot hm.ty F.slot_dict_iter (dD F.slot_dict_iter hm.ty F.entry_dict_iter ?_ (F.args_dict_iter_1 _)) ;unfold Builtin.«dict.__iter__» ;refine ac ?_ ;unfold Builtin.Dict.dictSlotNone ;refine ac (wpAny_notOrdered_dict hm.ty ?_));(show wpAny _ _ (pure (Value.ref d)) _ _ s ;refine aq ?_ ;show wpAny _ _ (Builtin.Dict.showsAll d >>= _) _ _ s ;unfold Builtin.Dict.showsAll ;rw[ag (by rw[hd];exact aM)]);(refine ac (aq ?_) ;refine ac (cw G I ?_) ;refine ac (gt G I ?_));refine ac (cR (aq ⟨_,rfl,"dict_keyiterator",_,⟨_,ax _ rfl,rfl⟩,bV.lookup,?_⟩)) ;simpa [rawInt] using hQ
theorem xx4 {it:Aj}{i:Nat}{e:DictEntry}{Q:Option Ag->Ab->Prop}(hit:s.heap.IsKeyIter it d i es.size ep)(hm:RawD s.heap d es ep)(hx:es[i]?=some e)(hQ:∀h',h'.IsKeyIter it d (i+1) es.size ep->Heap.SameBut it s.heap h'->Q (some e.key) { s with heap:=h' }):wpAny (model prog w) A (pyNext (.ref it)) Q E s:=by
 obtain⟨o,G,U,F⟩:=id hit ;obtain⟨Z,I,ab,L⟩:=id hm;(unfold pyNext ;refine ac (wpAny_attempt (dO (name:=Str.ofString "__next__") hit.typeIs bV (dD bV hit.typeIs eO ?_ (eJ _)))) ;refine ac (aq ?_) ;refine ac ?_ ;refine ac ?_);((first | refine ac (cu hit.typeIs (aq ?_)) | refine ac (cT hit.typeIs (aq ?_))) ;refine ac (wpAny_fieldsOf G F ?_) ;simp only[show Builtin.Dict_items.ownsTuple "dict_keyiterator" = false by decide,cI,dQ] ;show wpAny _ _ (if(Value.ref d==Value.none)=true then _ else _) _ _ s ;rw[ag (show ¬ ((Value.ref d==Value.none)=true) from aM)] ;refine ac (aq ?_) ;refine ac (cw I L ?_) ;rw[ag (by simp)] ;refine ac (aq ?_) ;refine ac (gt I L ?_) ;rw[ag (by simp)] ;refine aq ?_);have O:i<es.size:=(fA.mp hx).1 ;have S:es[i]=e:=(fA.mp hx).2;(simp only[show ¬ ((i:Int)<0) from by lia,dQ,dU,bZ O] ;refine ac ?_ ;(first | refine ac (cu hit.typeIs (aq ?_)) | refine ac (cT hit.typeIs (aq ?_))) ;refine ac (wpAny_isOneOf_keyiter hit.typeIs ?_) ;show wpAny _ _ (setField (.ref it) 1 (rawInt ((i:Int)+1)) >>= _) _ _ s ;refine ac (wpAny_setField G F (by simp) ?_));have J:(s.heap.update it (Obj.mapFields (·.setIfInBounds 1 (rawInt ((i:Int)+1))))).IsKeyIter it d (i+1) es.size ep:=⟨_,eA _ G (Obj.isFreed_of_fields (Obj.data_mapFields F _)),(Obj.cls_mapFields ..).trans U,by rw[Obj.data_mapFields F];simp[rawInt]⟩;(refine ac (cf ?_) ;refine ac (wpAny_isOneOf_keyiter (s:={ s with heap:=s.heap.update it (Obj.mapFields (·.setIfInBounds 1 (rawInt ((i:Int)+1)))) }) J.typeIs ?_) ;show wpAny _ _ (pure es[i].key) _ _ _ ;rw[S]);exact aq (aq ⟨_,rfl,aq (hQ _ J (dI ..))⟩)
theorem xv7 {it:Aj}{i:Nat}{Q:Option Ag->Ab->Prop}(hh:A.handled=none)(hit:s.heap.IsKeyIter it d i es.size ep)(hm:RawD s.heap d es ep)(hx:es.size<=i)(hQ:∀h',Heap.ExtBut it s.heap h'->Q none { s with heap:=h' }):wpAny (model prog w) A (pyNext (.ref it)) Q E s:=by obtain⟨o,G,S,J⟩:=id hit ;obtain⟨L,F,O,I⟩:=id hm;(unfold pyNext ;refine ac (wpAny_attempt (dO (name:=Str.ofString "__next__") hit.typeIs bV (dD bV hit.typeIs eO ?_ (eJ _)))) ;refine ac (aq ?_) ;refine ac ?_ ;refine ac ?_);((first | refine ac (cu hit.typeIs (aq ?_)) | refine ac (cT hit.typeIs (aq ?_))) ;refine ac (wpAny_fieldsOf G J ?_) ;simp only[show Builtin.Dict_items.ownsTuple "dict_keyiterator" = false by decide,cI,dQ] ;show wpAny _ _ (if(Value.ref d==Value.none)=true then _ else _) _ _ s ;rw[ag (show ¬ ((Value.ref d==Value.none)=true) from aM)] ;refine ac (aq ?_) ;refine ac (cw F I ?_) ;rw[ag (by simp)] ;refine ac (aq ?_) ;refine ac (gt F I ?_) ;rw[ag (by simp)] ;refine aq ?_);(simp only[show ¬ ((i:Int)<0) from by lia,dQ,dU,cB hx] ;refine ac ?_ ;(first | refine ac (cu hit.typeIs (aq ?_)) | refine ac (cT hit.typeIs (aq ?_))) ;show wpAny _ _ (setField (.ref it) 0 .none >>= _) _ _ s ;refine ac (wpAny_setField G J (by simp) ?_) ;show wpAny _ _ (newExc (.type "StopIteration") [] >>= _) _ _ _ ;refine ac ?_ ;simp only[newExc,newTuple]);(refine ac (cR ?_ (by size_fits)) ;refine ac (m:=firstArgMember _ _) (wpAny_of_eq (a:=Value.none) (by first | rfl | (simp only[firstArgMember];rfl)) ?_) ;refine cR ?_ (by size_fits) ;simp only[raiseNew] ;refine ac (wpAny_handled ?_) ;rw[show A.in1.handled=none from hh] ;refine ac (aq (wpAny_throw ?_)));refine ac (wpAny_isInstance (T := "StopIteration") (b:=true) ⟨_,ax _ rfl,rfl⟩ isSubtype_stop (aq (hQ _ (((dI ..).extBut.push _).push _))))
theorem wj7 (hh:A.handled=none)(I:Aj)(hne:d≠I):Walks prog w A I [I,d] [I] es.size (λi v=>∃e,es[i]?=some e/\v=e.key) (λi h=>h.IsKeyIter I d i es.size ep/\RawD h d es ep) where
 sub:=λb hb=>by simp at hb;simp[hb]
 frame:=λ_ _ _ st hk=>⟨st.1.at λo e=>hk I (by simp) o e,st.2.at λo e=>hk d (by simp) o e⟩
 item:=λi s Q E hi st hQ=>xx4 st.1 st.2 (bZ hi) λh' it' sb=>hQ _ h' s.toks ⟨_,bZ hi,rfl⟩ ⟨it',st.2.at λo e=>sb.extBut d o hne e⟩ λb o hb e=>sb.extBut b o (λh=>hb (by simp[h])) e
 done:=λs Q E st hQ=>xv7 hh st.1 st.2 (al _) λh' eb=>hQ h' s.toks λb o hb e=>eb b o (λh=>hb (by simp[h])) e
 self:=λ_ _ _ _ st hQ=>wpAny_pyIter_keyiter st.1 hQ
theorem xz7 (lo:(d==sysModules)=false):KdlSrc prog w "dict" d d es.size (λi v=>∃e,es[i]?=some e/\v=e.key) (λh=>RawD h d es ep) where
 type:=λ_ hm=>hm.ty
 there:=λ_ hm=>⟨hm.lt,hm.lt⟩
 keep:=λ_ _ hm hk=>hm.at λo e=>hk d (.inl rfl) o e
 notList:=by decide
 notTuple:=by decide
 hint:=λ_ _ _ _ hm hq=>kdl_hint_dict hm.ty hq
 iter:=λ_ _ hh hm=>⟨_,_,(λ_ _ hq=>xxf lo hm hq),wj7 hh _ (aD hm.lt),⟨⟨_,ax _ rfl,rfl,rfl⟩,hm.at λo e=>ai _ e⟩⟩
theorem qkm (hd:(d==sysModules)=false):MeetsIn prog w (Builtin.«dict.__len__» ⟨[.ref d],[]⟩) (λ_ R s=>∃es ep,RawD s.heap d es ep/\R (.ok (.ret (.int es.size s.toks))) { s with toks:=s.toks+1 }) :=
 .of_wp λA R s ⟨es,ep,hm,h⟩=>by obtain⟨o,ho,hc,hdat⟩:=hm;(show wpAny _ _ (dictSize d >>= _) _ _ s ;unfold dictSize ;refine ac (ac (cw ho hdat (aq ?_))) ;show wpAny _ _ (Builtin.Dict.pendingCount d >>= _) _ _ s ;refine ac (wpAny_pendingCount_other hd ?_) ;refine wpAny_ret_mkInt ?_ ;rw[Nat.add_zero] ;exact h)
theorem xzr {Q:Ag->Ab->Prop}(hd:(d==sysModules)=false)(hm:RawD s.heap d es ep)(hfit:(es.size:Int)<2 ^ 63)(h:Q (.int es.size (s.toks+1)) { s with toks:=s.toks+1+1 }):wpAny (model prog w) A (call (.builtin "len") [.ref d]) Q E s:=by refine dF kind_len plain_len entry_len (args_len1 _) ?_ ;unfold Builtin.«len» ;refine ac (m:=oneArg "len" _) (aq ?_);refine ac (m:=callSpecial? (.ref d) (Str.ofString "__len__")) (dO (name:=Str.ofString "__len__") hm.ty F.slot_dict_len (ck F.slot_dict_len hm.ty F.entry_dict_len (F.args_dict_len_1 _) (qkm hd) ⟨es,ep,hm,?_⟩));(show wpAny _ _ _ _ _ { s with toks:=s.toks+1 } ;refine ac (cf (aq ?_)) ;refine ac (wpAny_letGo ?_) ;show wpAny _ _ (if((es.size:Nat):Int)<0 then _ else _) _ _ _ ;rw[ag ⋯] ;show wpAny _ _ (if((es.size:Nat):Int)>=2 ^ 63 then _ else _) _ _ _ ;rw[ag ⋯]);exact ac (wpAny_mkInt (aq ⟨_,rfl,h⟩))
end
section
variable {X:Cx}
theorem wu4 {P:Ac}{w:Ah}{H:Hp}{h:Heap}{a:Aj}{kvs:List (List Key×V)}(ok:HOk P w H h)(e:H a=some (.dT kvs)) :
  kvs.length<=sizeLine/\(a==sysModules)=false/\∃(xs:List (List Key×Aj×Ag)) (es:Array DictEntry) (ep:Nat),KT H kvs xs/\RawD h a es ep/\es.toList=xs.map (entryOfKey (tupleKind (zv P w))):=by
 obtain⟨z,y,xs,r,o,es,ep,h1,h2,G,F,I⟩:=(show ObjOk P w H h a (.dT kvs) from ok a _ e);exact⟨z,y,xs,es,ep,r,⟨o,h1,h2,G⟩,F⟩
theorem qj1:j9 X (.builtin "len") (λxs H Q=>∃a kvs,xs=[V.ref a]/\H a=some (.dT kvs)/\Q (.int kvs.length) H):=by
 intro pins s σ H xs U Q I r h;obtain⟨a,kvs,rfl,e,q⟩:=h;obtain⟨u,rfl,G⟩:=uu r;cases G;obtain⟨z,S,ys,es,ep,J,L,O⟩:=wu4 I.hok e;have F:es.size=kvs.length:=by rw[<-bn,O,aa,bx J]
 have Z:=Z3;exact xzr S L (by rw[F];lia) ⟨.int kvs.length,H,I.tok _,⟨_,by rw[F]⟩,q⟩
def xx0 (H:Hp)(kvs:List (List Key×V))(vs:List V):Prop:=Paired (λv (p:List Key×V)=>∃b,v=V.ref b/\H b=some (.tup (p.1.map kV))) vs kvs
theorem wz4 (hc:X.calm=true):j9 X (.type "list") (λxs H Q=>∃a kvs,xs=[V.ref a]/\H a=some (.dT kvs)/\∀p vs,H p=none->xx0 H kvs vs->Q (.ref p) (upd H p (.lst vs))):=by
 intro pins s σ H xs us Q I r h;obtain⟨a,kvs,rfl,e,q⟩:=h;obtain⟨u,rfl,rx⟩:=uu r;cases rx;obtain⟨z,hd,ys,es,ep,ab,an,ad⟩:=wu4 I.hok e;have U:es.size=kvs.length:=by rw[<-bn,ad,aa,bx ab]
 refine kdl_call (xz7 hd) (I.ok.hd hc) an (by rw[U];exact z) λh' tk ah c' hk hD Z=>?_;have ap:∀(l:List Ag) (J:List (List Key×V)) (O:List (List Key×Aj×Ag)),KT H J O->l.length=J.length->(∀(j:Nat) v,l[j]?=some v->∃y,O[j]?=some y/\v=.ref y.2.1)->∃vs,Vals vs l/\xx0 H J vs:=by
  intro l J O rr
  induction rr generalizing l with
  |nil =>
   intro L _;cases l with
   |nil=>exact⟨[],.nil,.nil⟩
   |cons _ _=>simp at L
  |@cons p y ps yss hp t ih =>
   intro L hj;cases l with
   |nil=>simp at L
   |cons v l =>
    obtain⟨y',ey,rfl⟩:=hj 0 v rfl;cases ey;obtain⟨vs,G,S⟩:=ih l (by simpa using L) λj u hu=>by obtain⟨y2,e2,e3⟩:=hj (j+1) u (by simpa using hu);exact⟨y2,by simpa using e2,e3⟩
    exact⟨.ref y.2.1::vs,.cons rfl G,.cons ⟨_,rfl,hp.2.1⟩ S⟩
 obtain⟨vs,G,S⟩:=ap ah.toList kvs ys ab (by rw[bn,Z.1,U]) λj v ev=>by
  obtain⟨en,F,rfl⟩:=Z.2 j v (by rw[<-ca];exact ev);rw[<-ca,ad,aB]at F;cases hy:ys[j]? with
  |none=>rw[hy]at F;cases F
  |some y =>
   rw[hy]at F;have e2:=au F;exact⟨y,rfl,by rw[<-e2];rfl⟩
 have hv:vs.length<=sizeLine:=by rw[G.length,bn,Z.1,U];exact z
 exact⟨.ref _,_,I.laid (t':=tk) hk (al _) (show ObjOk X.prog X.w _ h' _ (.lst vs) from ⟨hv,ah.toList,c',G,by simpa using hD⟩),rfl,q _ _ (I.hok.fresh (al _)) S⟩
end
end L2
namespace L2
open PySem PySem.Spec PyProof.Rows
section
def Stay (G:Nat->V->Hp->Prop):Prop:=∀i v H H' p,G i v H->v≠.ref p->(∀b o,b≠p->H b=some o->H' b=some o)->G i v H'
theorem wzj {K:Aa}{M:List Nat}{a:Aj}{xs:List V}{te:TE}{σ:St}{H:Hp}{Q:VK}(G:Nat->V->Hp->Prop)(gs:Stay G)(hS:SqL K H a xs)(hn:xs.length<=1000000)(he:∀(i:Nat) (x:V) (H':Hp) (R:VK),xs[i]?=some x->Same H H'->(∀v H'',Same H' H''->G i v H''->(∀b,v=.ref b->H' b=none)->R v H'')->te (kj M σ (some x)) H' R)(k:∀p ys H',H p=none->Same H H'->H' p=some (.lst ys)->ys.length=xs.length->(∀j v,ys[j]?=some v->G j v H'/\v≠.ref p)->Q (.ref p) H'):qx4 (Itl K a) M te σ H Q:=by
 intro p np;refine⟨λi m ys H2=>i<=xs.length/\m=xs.length-i/\ys.length=i/\Same H H2/\H2 p=some (.lst ys)/\∀j v,ys[j]?=some v->G j v H2/\v≠.ref p,⟨xs.length,aA _,rfl,rfl,Same.upd np,qb,λj v e=>by cases e⟩,?_⟩;rintro i m ys H2 ⟨hi,rfl,hy,sm,hp,hG⟩;have L:SqL K H2 a xs:=Same.sql sm hS;refine⟨hp,?_,?_⟩
 .have:(1000000:Nat)<sizeLine:=by decide
  lia
 .by_cases hlt:i<xs.length
  .have J:xs[i]?=some xs[i]:=aj hlt;refine .inr ⟨⟨xs,_,L,J⟩,?_⟩;rintro v H3 ⟨rfl,hv⟩;have e:=hv xs L;rw[J]at e;have e':=au e;subst e';refine he i _ _ _ J sm λv O F g4 fr=>⟨F _ _ hp,xs.length-(i+1),⋯,⋯,rfl,by rw[aE,hy];rfl,λb o e=>?_,qb,λj w e=>?_⟩
   .rw[wg (wq e np)];exact F _ _ (sm _ _ e)
   .have S:v≠.ref p:=λz=>by have:=fr p z;rw[hp]at this;cases this
    have st:∀b o,b≠p->O b=some o->upd O p (.lst (ys++[v])) b=some o:=λb o I e=>by rw[wg I];exact e
    rcases(de j ys.length) with z|z
    .rw[bz z]at e;obtain⟨g,U⟩:=hG j w e;exact⟨gs j w _ _ p g U λb o I e=>st b o I (F b o e),U⟩
    .rw[bi z]at e;have hj:j=i:=by
      rcases de (j-ys.length) 1 with y|y
      .lia
      .rw[bg (by simpa using y)]at e;cases e
     have Z:[v][j-ys.length]?=some w:=by assumption
     subst hj;rw[show j-ys.length=0 by lia]at Z;have:v=w:=au Z;subst this;exact⟨gs j v O _ p g4 S st,S⟩
  .have ab:i=xs.length:=by lia
   subst ab;exact .inl ⟨⟨xs,L,al _⟩,k p ys _ np sm hp hy hG⟩
theorem Z7 {K:Aa}{M:List Nat}{a:Aj}{xs:List V}{te:TE}{σ:St}{H:Hp}{Q:VK}(f:V->V)(hf:∀x b,f x≠.ref b)(hS:SqL K H a xs)(hn:xs.length<=1000000)(he:∀(x:V) (H':Hp) (R:VK),x∈xs->Same H H'->(∀H'',Same H' H''->R (f x) H'')->te (kj M σ (some x)) H' R)(k:∀p H',H p=none->Same H H'->H' p=some (.lst (xs.map f))->Q (.ref p) H'):qx4 (Itl K a) M te σ H Q:=by
 refine wzj (λi v _=>∃x,xs[i]?=some x/\v=f x) (λi v H H' p g _ _=>g) hS hn (λi x H' R F s J=>he x H' R (aK F) s λH'' I=>J _ _ I ⟨x,F,rfl⟩ λb e=>absurd e (hf x b)) λp ys H' np s G O L=>?_;have e:ys=xs.map f:=by
  refine dY λj=>?_;rw[aB];cases hj:ys[j]? with
  |none =>
   have:xs[j]?=none:=bg (by have:=List.getElem?_eq_none_iff.mp hj;lia);rw[this];rfl
  |some v =>
   obtain⟨⟨x,F,rfl⟩,_⟩:=L j v hj;rw[F];rfl
 rw[e]at G;exact k p H' np s G
end
section
section
variable {X:Cx}{K:Aa}
theorem qkf (hK:X.K=K):j9 X (.builtin "len") (λxs H Q=>∃p ys,xs=[.ref p]/\(SqL K H p ys\/SqT K H p ys)/\Q (.int ys.length) H):=by subst hK;exact x9
end
end
section
section
variable {X:Cx}{tg:Expr}
end
end
end L2
namespace L2
open PySem
def IsO (K:Aa)(C:Aj):Prop:=W.findIn K (.ref C) "__class__" = some (some (.builtin "object.__class__")) /\
 W.specialIn K (.builtin "object.__class__") "__get__" = some (some (.builtin "getset_descriptor.__get__"))/\W.takesIn K (.builtin "object.__class__")=some true/\W.mroIn K C (.type "object")=some true
end L2
namespace L2
open PySem PySem.Spec PyProof.Rows
section
end
section
def xw3 (X:Cx)(x y:Str)(M:List Nat):List Str:=x::y::M.map λj=>X.N.getD j Str.empty
def ju (M:List Nat)(σ:St)(o o':Option V):St:=o::o'::M.map λj=>(σ[j]?).join
abbrev Qy (X:Cx)(scope:Scope)(cl:List (Str×Aj))(x y:Str)(M:List Nat)(C:Aj)(s2:Ab)(H2:Hp)(fp:List Aj)(pn:List (Aj×Obj)):Cx :=
 { X with N:=xw3 X x y M,s₀:=s2,H₀:=H2,env:=compEnvC scope cl C X.env,outer:=X.stack,ex:=fp,fn:=λ_=>false,pn:=pn,xe:=λ_ _=>False }
section
variable {X:Cx}{pins:List (Aj×Obj)}{σ:St}{H:Hp}{s2:Ab}{scope:Scope}{cl:List (Str×Aj)}{x y:Str}{M:List Nat}{fp:List Aj}{C:Aj}{h1:Heap}{tk:Nat}
theorem Inv.comp2 (I:Inv X pins σ H s2)(hc:CapAll X.env cl)(hh:HasAll cl scope.names)(hm:CapIx X scope cl M)(hk:scope.kind=.function)(hC:s2.heap.objs.size<C)(keep:∀b o,s2.heap.get? b=some o->h1.get? b=some o) (hn:h1.Ns C λ_=>none) (hD:h1.get? s2.heap.objs.size=some { cls:=.type "list",data:=.seq #[] 0 })(hfp:∀b∈fp,Qx X pins H b) (hob:∀b∈fp,∃o,s2.heap.get? b=some o) :
  Inv (Qy X scope cl x y M C s2 H fp (X.pn++pins)) [] (ju M σ none none) (upd H s2.heap.objs.size (.lst [])) { s2 with heap:=h1,toks:=tk }:=I.compG (xs:=[x,y]) hc hh hm hk hC keep hn ⟨aA _,[],0,.nil,hD⟩ hfp hob
theorem Inv.uncomp2 {pins':List (Aj×Obj)}{σ':St}{H':Hp}{s':Ab}{h':Heap}(I:Inv X pins σ H s2)(hC:s2.heap.objs.size<=C)(hfp:∀b∈fp,Qx X pins H b)(J:Inv (Qy X scope cl x y M C s2 H fp (X.pn++pins)) pins' σ' H' s') (hs:Heap.SameBut C s'.heap h'):Inv X pins σ H' { s' with heap:=h' }:=by
 have F:=J.base;have O:∀b o,s2.heap.get? b=some o->b≠C:=λb o e=>aD (aL (ao e) hC);have st:∀b o,b≠C->s'.heap.get? b=some o->h'.get? b=some o:=λb o n e=>(hs.2 b n).trans e;refine I.call' (s':={ s' with heap:=h' }) (ch:=fp) J.os ⟨λb o e n nb G=>st b o (O b o e) (F.keep b o e n nb G),λb o e n ad G=>?_,F.free,λb o e G=>?_,F.tups,F.frzs,F.tbls⟩ ?_ J.bare λb ab=>?_
 .obtain⟨sl,U⟩:=F.slot b o e n ad G;exact⟨sl,st b _ (O b o e) U⟩
 .obtain⟨o',U⟩:=F.there b o e G;exact⟨o',st b _ (O b o e) U⟩
 .intro b u S;have Z:H' C=none:=J.free;refine(J.hok b u S).stay (λc v L e=>st c v ?_ e) (λ_ z=>z) λ_ _ z=>z;rcases L with rfl|L
  .intro z;rw[z,Z]at S;cases S
  .intro z;rw[z,Z]at L;cases L
 .obtain⟨q1,q2,q3,q4,q5,q6⟩:=hfp b ab;exact⟨q4,q2,q5,q6⟩
end
theorem Jh (M:List Nat)(σ:St)(v:V):(ju M σ none none).length=(ju M σ (some v) none).length/\∀(k:Nat) z,(ju M σ none none)[k]?=some (some z)->(ju M σ (some v) none)[k]?=some (some z):=⟨rfl,λk z ez=>by
 match k,ez with
 |0,ez=>cases ez
 |1,ez=>cases ez
 |k+2,ez=>exact ez⟩
theorem Jb (M:List Nat)(σ:St)(v:Option V)(u:V):(ju M σ v none).length=(ju M σ v (some u)).length/\∀(k:Nat) z,(ju M σ v none)[k]?=some (some z)->(ju M σ v (some u))[k]?=some (some z):=⟨rfl,λk z ez=>by
 match k,ez with
 |0,ez=>exact ez
 |1,ez=>cases ez
 |k+2,ez=>exact ez⟩
theorem wqg (M:List Nat)(σ:St)(a b:V):(ju M σ none none).length=(ju M σ (some a) (some b)).length/\∀(k:Nat) z,(ju M σ none none)[k]?=some (some z)->(ju M σ (some a) (some b))[k]?=some (some z) :=
 ⟨(Jh M σ a).1.trans (Jb M σ (some a) b).1,λk z e=>(Jb M σ (some a) b).2 k z ((Jh M σ a).2 k z e)⟩
section
variable {X:Cx}{elt iter iter2:Expr}{x y:Str}{px py pos:Pos}{scope:Scope}{cl:List (Str×Aj)}{M:List Nat}{wi wi2:TI}{te:TE}
end
section
variable {X:Cx}{elt iter iter2:Expr}{x y2:Str}{px py2 pos:Pos}{scope:Scope}{cl:List (Str×Aj)}{M:List Nat}{wi wi2:TI}{te:TE}
end
end
section
theorem xz8 {X:Cx}{K:Aa}(hK:X.K=K):IxR X (wqt K):=by subst hK;exact xk
end
section
section
variable {X:Cx}{pins:List (Aj×Obj)}{σ:St}{H:Hp}{s:Ab}{h':Heap}{ch:List Aj}
theorem Inv.turnedL {tk:Nat}(I:Inv X pins σ H s)(hk:∀b u,b∉ch->s.heap.get? b=some u->h'.get? b=some u)(hf:∀b∈ch,Qx X pins H b):Inv X pins σ H { s with heap:=h',toks:=tk }:=by
 refine I.call' (s':={ s with heap:=h',toks:=tk }) (ch:=ch) rfl ⟨λb o e n _ F=>hk b o F e,λb o e n _ F=>⟨o.slots,hk b o F e⟩,λb o e n _=>n,λb o e F=>⟨o,hk b o F e⟩,λ_ _ e=>e,λ_ _ _ e=>e,λb ps e=>⟨#[],by rw[e];simp⟩⟩ ?_ I.bare λb Z=>?_
 .intro b u J;refine(I.hok b u J).stay (λc v G e=>hk c v (λz=>?_) e) (λ_ z=>z) λ_ _ z=>z;have:=(hf c z).1;rcases G with rfl|G
  .rw[this]at J;cases J
  .rw[this]at G;cases G
 .obtain⟨q1,U,q3,S,O,L⟩:=hf b Z;exact⟨S,U,O,L⟩
theorem Inv.turnedT {tk:Nat}{o:HO}{ob:Obj}(I:Inv X pins σ H s)(hk:∀b u,b∉ch->s.heap.get? b=some u->h'.get? b=some u)(hn:h'.get? s.heap.objs.size=some ob)(hf:∀b∈ch,Qx X pins H b)(hc:∀b∈ch,b≠s.heap.objs.size)(ok:ObjOk X.prog X.w (upd H s.heap.objs.size o) (s.heap.push ob) s.heap.objs.size o) (fr:ob.isFreed=false):Inv X pins σ (upd H s.heap.objs.size o) { s with heap:=h',toks:=tk }:=by
 have L:Inv X pins σ (upd H s.heap.objs.size o) { s with heap:=s.heap.push ob,toks:=tk }:=I.laid (t':=tk) (λb u e=>ai _ e) (al _) ok;refine Inv.turnedL (s:={ s with heap:=s.heap.push ob,toks:=tk }) (ch:=ch) L (λb u J e=>?_) λb F=>?_
 .rcases Heap.get?_push_cases e with⟨rfl,rfl⟩|e
  .exact hn
  .exact hk b u J e
 .obtain⟨G,q⟩:=hf b F;exact⟨by rw[wg (hc b F)];exact G,q⟩
theorem wjq {x y:V}{u v:Ag}(I:Inv X pins σ H s)(rx:RelV x u)(ry:RelV y v):ObjOk X.prog X.w (upd H s.heap.objs.size (.tup [x,y])) (s.heap.push { cls:=.type "tuple",data:=.seq #[u,v] }) s.heap.objs.size (.tup [x,y]):=by refine⟨by show 2<=sizeLine;decide,[u,v],.cons rx (.cons ry .nil),?_⟩;exact⟨_,ax _ rfl,rfl,_,rfl⟩
end
section
variable {X:Cx}
end
def ItE (K:Aa)(a:Aj)(xs:List V):It :=
 ⟨λi H=>SqL K H a xs/\i<xs.length,λi H v H'=>∃q x,H q=none/\v=.ref q/\xs[i]?=some x/\H'=upd H q (.tup [.int (i:Nat),x]),λi H=>SqL K H a xs/\xs.length<=i⟩
theorem wj6 {P:Ac}{w:Ah}{K:Aa}{es:List Expr}{k:Nat}{pos:Pos}(a z it:Aj)(xs:List V)(ap:z≠it):Turn P w K (.Tuple es k pos) (ItE K a xs) [z,it] z
  (λi h=>i<=xs.length/\(∃old,IsEnum h z it (i:Nat) old)/\h.IsListIter it a i) where
 mem:=by simp
 obj:=λi h st c hc=>by
  obtain⟨_,⟨old,h1⟩,⟨o4,h4,c4,d4⟩⟩:=st;have hc':c=z\/c=it:=by simpa using hc
  rcases hc' with rfl|rfl
  .exact⟨_,h1,λv z=>by cases z⟩
  .exact⟨_,h4,λv z=>by rw[d4]at z;cases z⟩
 keep:=λi h h' st k=>by obtain⟨l,⟨old,h1⟩,h4⟩:=st;exact⟨l,⟨old,k z (by simp) _ h1⟩,h4.at λo e=>k it (by simp) o e⟩
 item:=by
  intro X hP hw hK hc i pins s σ H E I hf st hg;subst hP hw hK;obtain⟨hq1,l1⟩:=hg;obtain⟨its,rv,p,hz⟩:=I.list hq1;have e1:xs[i]?=some xs[i]:=aj l1;obtain⟨u,hu,ru⟩:=rv.get e1;obtain⟨_,⟨old,h1⟩,h4⟩:=st;refine wpAny_pyNext_enum_item h1 h4 p.isList (x:=u) (by simpa using hu) ap λh' g1 g2 g3 g4 g5=>?_;refine⟨_,rfl,wpAny_letOwnedTupleGo_enum (s:={ s with heap:=h',toks:=s.toks+1 }) g1 λh'' f1 f2=>?_⟩;have hsz:∀c,c∈[z,it]->c≠s.heap.objs.size:=λc hc e=>by
   have hc':c=z\/c=it:=by simpa using hc
   have hlt:c<s.heap.objs.size:=by
    rcases hc' with rfl|rfl
    .exact ao h1
    .obtain⟨o,e,_⟩:=h4;exact ao e
   exact aU _ (e▸hlt)
  have keepz:∀c o,c≠z->h'.get? c=some o->h''.get? c=some o:=λc o nc e=>(f2.2 c nc).trans e;have keep:∀c o,c∉[z,it]->s.heap.get? c=some o->h''.get? c=some o:=λc o nc e=>by simp only[ae,af,aQ,not_or]at nc;exact keepz c o nc.1 (g5 c o nc.1 nc.2 e)
  have new:h''.get? s.heap.objs.size=some { cls:=.type "tuple",data:=.seq #[.int (i:Nat) s.toks,u] }:=keepz _ _ (aZ (hsz z (by simp))) g3;refine⟨.ref s.heap.objs.size,_,Inv.turnedT (s:=s) (ch:=[z,it]) (tk:=s.toks+1) I keep new hf hsz (wjq I (show RelV (.int (i:Nat)) (.int (i:Nat) s.toks) from ⟨_,rfl⟩) ru) rfl,rfl,⟨_,_,I.hok.fresh (al _),rfl,e1,rfl⟩,⟨⋯,⟨u,?_⟩,g2.at λo e=>keepz _ _ (aZ ap) e⟩,λc hc=>?_⟩
  .rw[show(((i+1:Nat):Nat):Int)=(i:Int)+1 by lia];exact f1
  .rw[wg (hsz c hc)];exact(hf c hc).1
 done:=by intro X hP hw hK hc i pins s σ H E I hf st hg;subst hP hw hK;obtain⟨hq1,le⟩:=hg;obtain⟨its,rv,p,hz⟩:=I.list hq1;have hl:=rv.length;obtain⟨_,⟨old,h1⟩,h4⟩:=st;refine wpAny_pyNext_enum_end (I.ok.hd hc) h1 h4 p.isList (cB (by rw[aG];lia)) λh' g=>⟨rfl,Inv.turnedL (ch:=[z,it]) (tk:=s.toks) I (λc o nc e=>?_) hf⟩;simp only[ae,af,aQ,not_or]at nc;exact g c o nc.2 e
 self:=λ_ _ _ _ _ st h=>let ⟨_,⟨_,e⟩,_⟩:=st;wpAny_pyIter_enum e h
section
variable {X:Cx}
def iEnum (K:Aa)(ta:TA):TI:=λσ H R=>ta σ H λvs H1=>∃a xs,vs=[.ref a]/\SqL K H1 a xs/\R (ItE K a xs) H1
theorem xkz {a:Expr}{ta:TA}{p pos:Pos}{es:List Expr}{k:Nat}{tpos:Pos}(hg:Gl X "enumerate")(hm:X.mg "enumerate" = none)(ha:PA X [a] ta)(hv:autoParam (bootBuiltins "enumerate" = some (.type "enumerate")) aU4._auto_1)(hs:autoParam (starEach [a] X.env=[(false,eval a X.env)]) aU4._auto_1):PI X (.Tuple es k tpos) (.Call (.Name "enumerate" p) [a] [] pos) (iEnum X.K ta):=by
 intro pins s σ H R I h;refine Call_ (wqy I hg hm hv (du (thn (ha pos pins s σ H _ I h) λus s1 ζ=>?_) hs rfl));obtain⟨vs,H1,I1,r1,q1⟩:=ζ;obtain⟨a,xs,e,J,q⟩:=q1;subst e;cases r1 with
 |cons r rr =>
   cases rr;cases r;obtain⟨ab,Z,p,hz⟩:=I1.list J;refine call_enumerate_list p.isList λh' G S g6 O=>?_;refine wpAny_pyIter_enum G ?_;have U:Inv X pins σ H1 { s1 with heap:=h' }:=I1.kept (t':=s1.toks) O;refine⟨s1.heap.objs.size+1,[s1.heap.objs.size+1,s1.heap.objs.size],_,_,H1,rfl,U,wj6 a _ _ xs (Nat.succ_ne_self _),⟨aA _,⟨_,G⟩,S⟩,λc L=>?_,q⟩;have F:s1.heap.objs.size<=c:=by
    have:c=s1.heap.objs.size+1\/c=s1.heap.objs.size:=by simpa using L
    rcases this with e | e <;> (rw[e];first | exact al _ | exact Nat.le_add_right _ _)
   exact I1.fpOk F (I1.hok.fresh F)
end
def wz1 (J:It)(M:List Nat)(gg:TG)(te:TE)(σ:St)(H1:Hp)(Q:VK):Prop:=∀p,H1 p=none->∃W:Nat->Nat->List V->Hp->Prop,(∃m,W 0 m [] (upd H1 p (.lst []))) /\
 ∀i m ys H2,W i m ys H2->H2 p=some (.lst ys)/\ys.length<sizeLine/\((J.stop i H2/\Q (.ref p) H2)\/(J.go i H2/\∀v H3,J.yld i H2 v H3 ->
  gg v (ju M σ none none) H3 λσ4 H4=>(∃a b,σ4=ju M σ (some a) (some b))/\te σ4 H4 λy H5=>H5 p=some (.lst ys)/\∃m',m'<m/\W (i+1) m' (ys++[y]) (upd H5 p (.lst (ys++[y])))))
def tCompP (M:List Nat)(wi:TI)(gg:TG)(te:TE):TE:=λσ H Q=>wi σ H λJ H1=>wz1 J M gg te σ H1 Q
section
variable {X:Cx}{elt iter tg:Expr}{x y2:Str}{pos:Pos}{scope:Scope}{cl:List (Str×Aj)}{M:List Nat}{wi:TI}{gg:TG}{te:TE}
theorem wj5 (hc:X.calm=true)(hclos:closureFor scope X.env=pure cl)(hcap:CapAll X.env cl)(hhas:HasAll cl scope.names)(hix:CapIx X scope cl M)(hk:scope.kind=.function)(hnames:∀y∈scope.names,y.2=.local->scope.names.lookup y.1=some .local) (hg:∀C s2 H2 fp pn,PG (Qy X scope cl x y2 M C s2 H2 fp pn) tg gg) (hi:PI X tg iter wi)(he:∀C s2 H2 fp pn,PE (Qy X scope cl x y2 M C s2 H2 fp pn) elt te) (hs:∀z,foldedSetIterable iter X.env z=pure z)
  {use:Option (Ag->Sem Unit)} {QQ:Ag->Ab->Prop} {pins:List (Aj×Obj)} {s:Ab} {σ:St} {H:Hp} {Q:VK} {ps:Pos} (I:Inv X pins σ H s) (h:wi σ H λJ H1=>wz1 J M gg te σ H1 Q)(fin:∀(C:Aj) (s2 s4:Ab) (H1 H2:Hp) (fp:List Aj),Inv X pins σ H1 s2->s2.heap.objs.size<C->(∀b∈fp,Qx X pins H1 b)->Inv (Qy X scope cl x y2 M C s2 H1 fp (X.pn++pins)) [] (ju M σ none none) H2 s4->Q (.ref s2.heap.objs.size) H2 ->
   compPost ↑[X] X.A X.xe use QQ (.ref s2.heap.objs.size) C (.ok .next) s4) :
  wpAny ↑[X] X.A (comprehension (.ListComp elt [⟨tg,iter,[],0⟩] scope pos) scope X.env ps (newList []) false (eval iter X.env) use) QQ X.xe s:=by
 refine J3 hclos hhas hk hnames hi hs I h λit fp tn J H1 s2 C h3 tk G T t3 F S ah hR L ab an hD=>?_;obtain⟨W,⟨m0,w0⟩,hW⟩:=hR s2.heap.objs.size (G.hok.fresh (al _));refine Zc (Y:=Qy X scope cl x y2 M C s2 H1 fp (X.pn++pins)) (V:=λi n H2=>∃ys,W i n ys H2) (Qd:=Q (.ref s2.heap.objs.size)) (REST:=appS elt (.ref s2.heap.objs.size) (compEnvC scope cl C X.env) _) T hc (λ_ _ z=>z) (compTurn_list1 ..) rfl rfl (hg C s2 H1 fp (X.pn++pins)) (qwn (N:=xw3 X x y2 M) (scope:=scope) hcap G L F S) (λi n H2 ⟨ys,w⟩=>?_) (λH2 s4 J4 q=>fin C s2 s4 H1 H2 fp G L F J4 q)
  (G.comp2 (x:=x) (y:=y2) (tk:=tk) hcap hhas hix hk L ab an hD F ah) ⟨[],w0⟩ t3 λb U=>by rw[wg (aD (S b U))];exact(F b U).1
 obtain⟨hp,hz,a0⟩:=hW i n ys H2 w;refine a0.imp id λζ=>?_;obtain⟨ap,hy⟩:=ζ;refine ⟨ap,λv H3 Z=>⟨_,hy v H3 Z,λσ4 H4 e=>?_⟩⟩;obtain⟨⟨a,b,rfl⟩,ad⟩:=e;refine⟨wqg M σ a b,λa1 s' J=>?_⟩;exact bh (qz3 (N:=λzs O=>∃m',m'<n/\W (i+1) m' zs O) (λ_ _ z=>z) (he C s2 H1 fp (X.pn++pins)) J hz ad) (λr s5 ⟨e,O,J5,zs,m',hm,w'⟩=>⟨e,O,J5,m',hm,zs,w'⟩) λ_ _ z=>z
theorem xqr (hc:X.calm=true)(hclos:closureFor scope X.env=pure cl)(hcap:CapAll X.env cl)(hhas:HasAll cl scope.names)(hix:CapIx X scope cl M)(hk:scope.kind=.function)(hnames:∀y∈scope.names,y.2=.local->scope.names.lookup y.1=some .local) (hg:∀C s2 H2 fp pn,PG (Qy X scope cl x y2 M C s2 H2 fp pn) tg gg) (hi:PI X tg iter wi)(he:∀C s2 H2 fp pn,PE (Qy X scope cl x y2 M C s2 H2 fp pn) elt te) (hs:autoParam (∀z,foldedSetIterable iter X.env z=pure z) aU3._auto_1) :
  PE X (.ListComp elt [⟨tg,iter,[],0⟩] scope pos) (tCompP M wi gg te):=by
 intro pins s σ H Q I h;rw[eval_ListComp];refine wj5 hc hclos hcap hhas hix hk hnames hg hi he hs (use:=none) I h λC s2 Z H1 H2 fp U O S F J=>?_;obtain⟨m,L,_⟩:=F.loc;exact⟨m,L,λh' G=>⟨.ref s2.heap.objs.size,H2,U.uncomp2 (bK O) S F G,rfl,J⟩⟩
end
theorem xz2 {X:Cx}{K:Aa}{pos:Pos}{es:List Expr}{k:Nat}{t:TGs}{n:Nat}(hK:X.K=K)(hc:X.calm=true)(h:PGs X es t)(h1:autoParam ((assignEach es X.env).length=n) aU4._auto_1)(h2:autoParam (List.findIdx? (λx=>x.fst) (assignEach es X.env)=none) aU4._auto_1):PG X (.Tuple es k pos) (gTup K n t):=by subst hK;exact vt hc h h1 h2
end
end L2
namespace L2
open PySem PySem.Spec PyProof.Rows PySem.W
def Fz (H:Hp)(d:Aj)(o:Obj)(kvs:List (Key×V))(H':Hp):Prop:=H' d=some (.frz o (.dK kvs))/\∀b,b≠d->H' b=H b
section
variable {X:Cx}{pins:List (Aj×Obj)}{σ:St}{H:Hp}{s:Ab}{d:Aj}{kvs:List (Key×V)}
theorem Inv.freeze {o:Obj}(I:Inv X pins σ H s)(e:H d=some (.dK kvs))(ho:s.heap.get? d=some o):Inv X pins σ (upd H d (.frz o (.dK kvs))) s:=by obtain⟨z,G,J,F,dd⟩:=Y9 I.hok e;exact Inv.write (t':=s.toks) (h':=s.heap) I (by rw[e];exact trivial) (.inl rfl) (λ_ _ _ e=>e) ⟨o,ho⟩ ⟨ho,Wu z G F dd⟩
theorem Qp {o:Obj}(I:Inv X pins σ H s)(e:H d=some (.frz o (.dK kvs))):kvs.length<=sizeLine/\(d==sysModules)=false/\s.heap.get? d=some o/\∃vs es ep,KV kvs vs/\o.data=.dict es ep/\s.heap.DictAt (zv X.prog X.w) d vs ep:=by obtain⟨F,z,L,vs,J,dd⟩:=(show ObjOk X.prog X.w H s.heap d (.frz o (.dK kvs)) from I.hok d _ e);obtain⟨o',es,ep,h1,h2,G,O⟩:=id dd;have:o'=o:=au (h1.symm.trans F);subst this;exact⟨z,L,F,vs,es,ep,J,G,o',es,h1,h2,G,O⟩
theorem Inv.freezeRd (I:Inv X pins σ H s)(e:Rd H d (.dK kvs)):∃o H',Fz H d o kvs H'/\Inv X pins σ H' s:=by
 rcases e with e|⟨o,e⟩
 .obtain⟨z,O,J,L,o,es,ep,G,r⟩:=Y9 I.hok e;exact⟨o,_,⟨qb,λb F=>wg F⟩,I.freeze e G⟩
 .exact⟨o,H,⟨e,λ_ _=>rfl⟩,I⟩
theorem wk8 {P:Ac}{w:Ah}{k:Key}{u:Ag}(h:(zv P w).is k u=true):RelV (kV k) u:=by
 rcases v5 (show qvx k u=true from h) with⟨i,t,rfl,rfl⟩|⟨x,t,rfl,rfl⟩
 .exact⟨t,rfl⟩
 .exact⟨t,rfl⟩
end
def ItD (d:Aj)(o:Obj)(kvs:List (Key×V)):It :=
 ⟨λi H=>H d=some (.frz o (.dK kvs))/\i<kvs.length,λi H v H'=>H'=H/\∃p,kvs[i]?=some p/\v=kV p.1,λi H=>H d=some (.frz o (.dK kvs))/\kvs.length<=i⟩
set_option tactic.hygienic true in
theorem qxc {kvs:List (Key×V)}{vs:List (Key×Ag)}(r:KV kvs vs){i:Nat}{p:Key×V}(e:kvs[i]?=some p):∃q,vs[i]?=some (p.1,q)/\RelV p.2 q:=by
 induction r generalizing i with
 |nil=>cases e
 |cons h t ih =>
  cases i with
  |zero =>
   cases e;obtain⟨h1,h2⟩:=h;rename_i b _ _;exact⟨b.2,by show some b=some (_,b.2);rw[h1],h2⟩
  |succ i=>exact ih e
theorem wk0 {P:Ac}{w:Ah}{K:Aa}{tg:Expr}{d it:Aj}{o:Obj}{kvs:List (Key×V)}{ep:Nat}(hep:∃es,o.data=.dict es ep):Turn P w K tg (ItD d o kvs) [it] it (λi h=>h.IsKeyIter it d i kvs.length ep) where
 mem:=by simp
 obj:=λi h st b hb=>by
  have e:b=it:=by simpa using hb
  subst e;obtain⟨ob,e,c,dd⟩:=st;exact⟨ob,e,λv z=>by rw[dd]at z;cases z⟩
 keep:=λi h h' st k=>st.at λob e=>k it (by simp) ob e
 item:=by
  intro X hP hw hK hc i pins s σ H E I hf st hg;subst hP hw hK;obtain⟨hq,hi⟩:=hg;obtain⟨z,hd,ho,vs,es,ep',rel,h3,dd⟩:=Qp I hq;obtain⟨es2,h4⟩:=hep;have:ep'=ep:=by rw[h3]at h4;cases h4;rfl
  subst this;have e1:kvs[i]?=some kvs[i]:=aj hi;obtain⟨q,eq,rq⟩:=qxc rel e1;have hl:vs.length=kvs.length:=(bx rel).symm;obtain⟨f0,f1,f2,f3,f4,f5⟩:=hf it (by simp);refine wpAny_pyNext_dict_item (by rw[hl];exact st) dd eq λkey h' hk st' sb=>?_;have I1:Inv X pins σ H { s with heap:=h' }:=I.turned (t':=s.toks) (λb o hb e=>(sb.2 b hb).trans e) f0 f1 f3 f4 f5;rw[hl]at st';obtain⟨ob,e,c,d'⟩:=id st';exact⟨key,rfl,qj3 (s:={ s with heap:=h' }) e c d' ⋯ ⟨_,H,I1,wk8 hk,⟨rfl,_,e1,rfl⟩,st',λb hb=>(hf b hb).1⟩⟩
 done:=by
  intro X hP hw hK hc i pins s σ H E I hf st hg;subst hP hw hK;obtain⟨hq,hi⟩:=hg;obtain⟨z,hd,ho,vs,es,ep',rel,h3,dd⟩:=Qp I hq;obtain⟨es2,h4⟩:=hep;have:ep'=ep:=by rw[h3]at h4;cases h4;rfl
  subst this;have hl:vs.length=kvs.length:=(bx rel).symm;obtain⟨f0,f1,f2,f3,f4,f5⟩:=hf it (by simp);exact wpAny_pyNext_dict_end (I.ok.hd hc) (by rw[hl];exact st) dd (bg ⋯) λh' eb=>⟨rfl,I.turned (t':=s.toks) (λb o hb e=>eb b o hb e) f0 f1 f3 f4 f5⟩
 self:=λ_ _ _ _ _ st h=>wpAny_pyIter_keyiter st h
def ItDI (d:Aj)(o:Obj)(kvs:List (Key×V)):It :=
 ⟨λi H=>H d=some (.frz o (.dK kvs))/\i<kvs.length,λi H v H'=>∃q p,H q=none/\v=.ref q/\kvs[i]?=some p/\H'=upd H q (.tup [kV p.1,p.2]),λi H=>H d=some (.frz o (.dK kvs))/\kvs.length<=i⟩
theorem xzx {P:Ac}{w:Ah}{K:Aa}{xs:List Expr}{k:Nat}{pos:Pos}{d it:Aj}{o:Obj}{kvs:List (Key×V)}{ep:Nat}(hep:∃es,o.data=.dict es ep):Turn P w K (.Tuple xs k pos) (ItDI d o kvs) [it] it (λi h=>∃ok ov,IsItemIter h it d i kvs.length ep ok ov) where
 mem:=by simp
 obj:=λi h st b hb=>by
  have e:b=it:=by simpa using hb
  subst e;obtain⟨ok,ov,e⟩:=st;exact⟨_,e,λv z=>by cases z⟩
 keep:=λi h h' st k=>by obtain⟨ok,ov,e⟩:=st;exact⟨ok,ov,k it (by simp) _ e⟩
 item:=by
  intro X hP hw hK hc i pins s σ H E I hf st hg;subst hP hw hK;obtain⟨hq,hi⟩:=hg;obtain⟨z,hd,ho,vs,es,ep',rel,h3,dd⟩:=Qp I hq;obtain⟨es2,h4⟩:=hep;have:ep'=ep:=by rw[h3]at h4;cases h4;rfl
  subst this;have e1:kvs[i]?=some kvs[i]:=aj hi;obtain⟨q,eq,rq⟩:=qxc rel e1;have hl:vs.length=kvs.length:=(bx rel).symm;obtain⟨ok,ov,st⟩:=st;refine wpAny_pyNext_items_item (by rw[hl];exact st) dd eq λkey h' hk g1 g2 g3 g4=>?_;refine⟨_,rfl,wpAny_letOwnedTupleGo_items (s:={ s with heap:=h' }) g1 λh'' j1 j2=>?_⟩;have ne:it≠s.heap.objs.size:=aD (ao st);have new:h''.get? s.heap.objs.size=some { cls:=.type "tuple",data:=.seq #[key,q] }:=(j2.2 _ (aZ ne)).trans g2;refine⟨.ref s.heap.objs.size,_,Inv.turnedT (s:=s) (ch:=[it]) (tk:=s.toks) I (λb u nb e=>?_) new hf (λb hb=>?_) (wjq I (wk8 hk) rq) rfl,rfl,⟨_,_,I.hok.fresh (al _),rfl,e1,rfl⟩,⟨_,_,by rw[<-hl];exact j1⟩,λb hb=>?_⟩
  .have nb:b≠it:=by simpa using nb
   exact(j2.2 b nb).trans (g4 b u nb e)
  .have e:b=it:=by simpa using hb
   rw[e];exact ne
  .have e:b=it:=by simpa using hb
   rw[e,wg ne];exact(hf it (by simp)).1
 done:=by
  intro X hP hw hK hc i pins s σ H E I hf st hg;subst hP hw hK;obtain⟨hq,hi⟩:=hg;obtain⟨z,hd,ho,vs,es,ep',rel,h3,dd⟩:=Qp I hq;obtain⟨es2,h4⟩:=hep;have:ep'=ep:=by rw[h3]at h4;cases h4;rfl
  subst this;have hl:vs.length=kvs.length:=(bx rel).symm;obtain⟨f0,f1,f2,f3,f4,f5⟩:=hf it (by simp);obtain⟨ok,ov,st⟩:=st;exact wpAny_pyNext_items_end (I.ok.hd hc) (by rw[hl];exact st) dd (bg ⋯) λh' eb=>⟨rfl,I.turned (t':=s.toks) (λb o hb e=>eb b o hb e) f0 f1 f3 f4 f5⟩
 self:=λ_ _ _ _ _ st h=>by obtain⟨ok,ov,e⟩:=st;exact kcp_self e h
section
variable {X:Cx}{tg l:Expr}{tl:TE}
def iDk (tl:TE):TI:=λσ H R=>tl σ H λx H1=>∃d kvs,x=.ref d/\Rd H1 d (.dK kvs)/\∀o H2,Fz H1 d o kvs H2->R (ItD d o kvs) H2
theorem wu2 (hl:PE X l tl):PI X tg l (iDk tl):=by
 intro pins s σ H R I h;refine thn (hl pins s σ H _ I h) λv s1 ζ=>?_;obtain⟨x,H1,I1,r1,q1⟩:=ζ;obtain⟨d,kvs,e,O,q⟩:=q1;subst e;cases r1;obtain⟨o,H2,G,F⟩:=I1.freezeRd O;obtain⟨z,S,ho,J,es,ep,L,Z,dd⟩:=Qp F G.1;have hl:J.length=kvs.length:=(bx L).symm;refine wpAny_pyIter_dict S dd ?_;refine⟨s1.heap.objs.size,[s1.heap.objs.size],_,_,H2,rfl,F.kept (t':=s1.toks) λb o e=>ai _ e,wk0 ⟨es,Z⟩,⟨_,ax _ rfl,rfl,by rw[hl];rfl⟩,λb U=>?_,q o H2 G⟩;have e:b=s1.heap.objs.size:=by simpa using U
 subst e;exact F.fpOk (al _) (F.hok.fresh (al _))
def iDi (tl:TE):TI:=λσ H R=>tl σ H λx H1=>∃d kvs,x=.ref d/\Rd H1 d (.dK kvs)/\∀o H2,Fz H1 d o kvs H2->R (ItDI d o kvs) H2
theorem pi_di {apos cpos tpos:Pos}{xs:List Expr}{k:Nat}(hl:PE X l tl)(hbase:autoParam (attributeBase l "items" X.env (eval l X.env)=eval l X.env) aU4._auto_1)(hline:autoParam ((apos.endLine==cpos.line)=true) aU4._auto_1) :
  PI X (.Tuple xs k tpos) (.Call (.Attribute l "items" apos) [] [] cpos) (iDi tl):=by
 intro pins s σ H R I h;refine cY hbase hline (thn (hl pins s σ H _ I h) λv s1 ζ=>?_);obtain⟨x,H1,I1,r1,q1⟩:=ζ;obtain⟨d,kvs,e,O,q⟩:=q1;subst e;cases r1;obtain⟨o,H2,S,U⟩:=I1.freezeRd O;obtain⟨L,Z,_⟩:=Z5 I1 (.inl ⟨kvs,O⟩);obtain⟨z,hd,ho,J,es,ep,ab,h3,dd⟩:=Qp U S.1;have hl:J.length=kvs.length:=(bx ab).symm;refine⟨"dict","dict.items",bN,gb,PySem.F.type_dict_items,L,Z,bE rfl (dH ?_)⟩;refine ck gb L PySem.F.entry_dict_items (PySem.F.args_dict_items_1 _) (meets_dict_items (zv X.prog X.w) d hd) ⟨⟨J,dd.dictOf⟩,?_⟩;have G:Inv X pins σ H2 { s1 with heap:=s1.heap.push { cls:=.type "dict_items",data:=.fields #[.ref d] } }:=U.kept (t':=s1.toks) λb o e=>ai _ e;refine wpAny_pyIter_items (s:={ s1 with heap:=s1.heap.push { cls:=.type "dict_items",data:=.fields #[.ref d] } }) ⟨_,ax _ rfl,rfl,rfl⟩ (dd.push _) ?_;refine⟨_,[_],_,_,H2,rfl,G.kept (t':=s1.toks) λb o e=>ai _ e,xzx ⟨es,h3⟩,⟨.none,.none,?_⟩,λb hb=>?_,q o H2 S⟩
 .rw[hl];exact ax _ rfl
 .have e:=am.mp hb;subst e;exact G.fpOk (al _) (G.hok.fresh (al _))
def ItS (x:Str):It:=⟨λi _=>i<x.cps.size,λi H v H'=>H'=H/\v=.str ⟨#[x.cps.getD i 0]⟩,λi _=>x.cps.size<=i⟩
theorem wy2 {P:Ac}{w:Ah}{K:Aa}{it:Aj}{x:Str}{t:Tok}:Turn P w K tg (ItS x) [it] it (λi h=>h.IsStrIter it "str_ascii_iterator" x t i) where
 mem:=by simp
 obj:=λi h st b hb=>by
  have e:b=it:=by simpa using hb
  subst e;obtain⟨ob,e,c,dd⟩:=st;exact⟨ob,e,λv z=>by rw[dd]at z;cases z⟩
 keep:=λi h h' st k=>by obtain⟨ob,e,r⟩:=st;exact⟨ob,k it (by simp) ob e,r⟩
 item:=by intro X hP hw hK hc i pins s σ H E I hf st hg;subst hP hw hK;have hg:i<x.cps.size:=hg;obtain⟨f0,f1,f2,f3,f4,f5⟩:=hf it (by simp);refine wpAny_pyNext_ascii_item st (c:=x.cps.getD i 0) (by rw[fg,bZ hg];rfl) λh' st' sb=>?_;have I1:Inv X pins σ H { s with heap:=h',toks:=s.toks+1 }:=I.turned (t':=s.toks+1) (λb o hb e=>(sb.2 b hb).trans e) f0 f1 f3 f4 f5;obtain⟨ob,e,c,d'⟩:=id st';exact⟨_,rfl,qj3 (s:={ s with heap:=h',toks:=s.toks+1 }) e c d' ⋯ ⟨.str ⟨#[x.cps.getD i 0]⟩,H,I1,⟨_,rfl⟩,⟨rfl,rfl⟩,st',λb hb=>(hf b hb).1⟩⟩
 done:=by intro X hP hw hK hc i pins s σ H E I hf st hg;subst hP hw hK;obtain⟨f0,f1,f2,f3,f4,f5⟩:=hf it (by simp);exact wpAny_pyNext_ascii_end (I.ok.hd hc) st (cB hg) λh' eb=>⟨rfl,I.turned (t':=s.toks) (λb o hb e=>eb b o hb e) f0 f1 f3 f4 f5⟩
 self:=λ_ _ _ _ _ st h=>wpAny_pyIter_striter_ascii st h
theorem wjp {P:Ac}{w:Ah}{K:Aa}{it:Aj}{x:Str}{t:Tok}:Turn P w K tg (ItS x) [it] it (λi h=>h.IsStrIter it "str_iterator" x t i) where
 mem:=by simp
 obj:=λi h st b hb=>by
  have e:b=it:=by simpa using hb
  subst e;obtain⟨ob,e,c,dd⟩:=st;exact⟨ob,e,λv z=>by rw[dd]at z;cases z⟩
 keep:=λi h h' st k=>by obtain⟨ob,e,r⟩:=st;exact⟨ob,k it (by simp) ob e,r⟩
 item:=by intro X hP hw hK hc i pins s σ H E I hf st hg;subst hP hw hK;have hg:i<x.cps.size:=hg;obtain⟨f0,f1,f2,f3,f4,f5⟩:=hf it (by simp);refine wpAny_pyNext_wide_item st (c:=x.cps.getD i 0) (by rw[fg,bZ hg];rfl) λh' st' sb=>?_;have I1:Inv X pins σ H { s with heap:=h',toks:=s.toks+1 }:=I.turned (t':=s.toks+1) (λb o hb e=>(sb.2 b hb).trans e) f0 f1 f3 f4 f5;obtain⟨ob,e,c,d'⟩:=id st';exact⟨_,rfl,qj3 (s:={ s with heap:=h',toks:=s.toks+1 }) e c d' ⋯ ⟨.str ⟨#[x.cps.getD i 0]⟩,H,I1,⟨_,rfl⟩,⟨rfl,rfl⟩,st',λb hb=>(hf b hb).1⟩⟩
 done:=by intro X hP hw hK hc i pins s σ H E I hf st hg;subst hP hw hK;obtain⟨f0,f1,f2,f3,f4,f5⟩:=hf it (by simp);exact wpAny_pyNext_wide_end (I.ok.hd hc) st (cB hg) λh' eb=>⟨rfl,I.turned (t':=s.toks) (λb o hb e=>eb b o hb e) f0 f1 f3 f4 f5⟩
 self:=λ_ _ _ _ _ st h=>wpAny_pyIter_striter_wide st h
def iStr (tl:TE):TI:=λσ H R=>tl σ H λv H1=>∃x,v=.str x/\R (ItS x) H1
theorem wzf (hl:PE X l tl):PI X tg l (iStr tl):=by
 intro pins s σ H R I h;refine thn (hl pins s σ H _ I h) λv s1 ζ=>?_;obtain⟨v',H1,I1,r1,x,e,q⟩:=ζ;subst e;obtain⟨t,rfl⟩:=(show ∃t,v=Value.str x t from r1);cases ha:x.cps.all (·<128)
 .refine wpAny_pyIter_wide ha ⟨s1.heap.objs.size,[s1.heap.objs.size],_,_,H1,rfl,I1.kept (t':=s1.toks) λb o e=>ai _ e,wjp (t:=t),⟨_,ax _ rfl,rfl,rfl⟩,λb F=>?_,q⟩;have e:=am.mp F;subst e;exact I1.fpOk (al _) (I1.hok.fresh (al _))
 .refine wpAny_pyIter_ascii ha ⟨s1.heap.objs.size,[s1.heap.objs.size],_,_,H1,rfl,I1.kept (t':=s1.toks) λb o e=>ai _ e,wy2 (t:=t),⟨_,ax _ rfl,rfl,rfl⟩,λb F=>?_,q⟩;have e:=am.mp F;subst e;exact I1.fpOk (al _) (I1.hok.fresh (al _))
end
end L2
namespace L2
open PySem
def advN (t:SetTable):Nat->SetTable.Probe->SetTable.Probe
 |0,p=>p
 |n+1,p=>advN t n (t.advance p)
def rs (mask:Nat)(q:Nat×Nat):SetTable.Probe:={ j:=q.1,more:=SetTable.runEnd mask q.1-q.1,i:=q.1,perturb:=q.2,dummy:=none }
theorem quz:∀(l l':List Nat),l.Nodup->(∀a∈l,a∈l')->l.length<=l'.length
 |[],_,_,_=>aA _
 |a::l,l',hn,hs=>by have hn':=bc.mp hn;have ha:=hs a (.head _);have:=quz l (l'.erase a) hn'.2 λb hb=>(List.mem_erase_of_ne (λz=>by subst z;exact hn'.1 hb)).mpr (hs b (.tail _ hb));rw[fK,ak ha]at this;have hp:0<l'.length:=dZ ha;rw[aC];lia
inductive MetOk (t:SetTable) (p:SetTable.Probe) (N:Nat):SetTable.Met->Prop
 |empty (j:Nat):MetOk t p N (.empty j none)
 |cand (m i:Nat) (hm:m<N) (hs:t.slot (advN t m p).j=.live i):MetOk t p N (.candidate (advN t m p).j i (advN t (m+1) p))
def liveL (mask:Nat)(owner:Array (Option Nat)):List (Nat×Nat):=(List.range (mask+1)).filterMap λj=>(owner.getD j none).map (j,·)
structure OwnI (mask:Nat)(owner:Array (Option Nat))(k:Nat):Prop where
 size:owner.size=mask+1
 len:(liveL mask owner).length=k
 low:∀j v:Nat,owner[j]?=some (some v)->v<k
end L2
namespace L2
open PySem PySem.Spec PyProof.Rows
section
def Rows (q:Aj)(B:Hp)(L:List (List V))(ys:List V)(H:Hp):Prop:=Paired (λv xs=>∃a,v=.ref a/\a≠q/\B a=none/\H a=some (.lst xs)) ys L
theorem x6 {H H':Hp}(s:Same H H'){a:Aj}(n:H' a=none):H a=none:=by
 cases e:H a with
 |none=>rfl
 |some o=>rw[s _ _ e]at n;cases n
def Zr (c:Nat->Bool)(xs:List V)(n:Nat):List V:=((List.range n).filter c).map λi=>xs.getD i .non
theorem qxj {K:Aa}{M:List Nat}{a:Aj}{xs:List V}{tt:TT}{te:TE}{σ:St}{H:Hp}{Q:VK}(c:Nat->Bool)(hS:SqL K H a xs)(hn:xs.length<=1000000)(ht:∀(i:Nat) (x:V) (H':Hp) (R:Bool->Hp->Prop),xs[i]?=some x->Same H H'->(∀H'',Same H' H''->R (c i) H'')->tt (kj M σ (some x)) H' R)(he:∀(i:Nat) (x:V) (H':Hp) (R:VK),xs[i]?=some x->c i=true->Same H H'->(∀H'',Same H' H''->R x H'')->te (kj M σ (some x)) H' R)(k:∀p H',H p=none->Same H H'->H' p=some (.lst (Zr c xs xs.length))->Q (.ref p) H'):qyn (Itl K a) M tt te σ H Q:=by
 intro p np;refine⟨λi m ys H2=>i<=xs.length/\m=xs.length-i/\ys=Zr c xs i/\Same H H2/\H2 p=some (.lst ys),⟨xs.length,aA _,rfl,rfl,Same.upd np,qb⟩,?_⟩;rintro i m ys H2 ⟨hi,rfl,rfl,sm,hp⟩;refine⟨hp,?_,?_⟩
 .unfold Zr;rw[aa];have:=bF c (List.range i);rw[aR]at this;have:(1000000:Nat)<sizeLine:=by decide
  lia
 .by_cases hlt:i<xs.length
  .have F:xs[i]?=some xs[i]:=aj hlt;refine .inr ⟨⟨xs,_,sm.sql hS,F⟩,?_⟩;rintro v H3 ⟨rfl,hv⟩;have e:=au (F.symm.trans (hv xs (sm.sql hS)));subst e;refine ht i _ _ _ F sm λS G=>?_;have I:=G _ _ hp;have L:xs.getD i .non=xs[i]:=by rw[av,F];rfl
   cases hc:c i with
   |true =>
    refine jg ?_;refine he i _ _ _ F hc (sm.trans G) λO J=>⟨J _ _ I,xs.length-(i+1),⋯,⋯,rfl,?_,λb o e=>?_,qb⟩
    .unfold Zr;rw[bY,cJ,aV];simp only[bP,hc,gi,List.filter_nil,aH,cA,L]
    .rw[wg (wq e np)];exact J _ _ (G _ _ (sm _ _ e))
   |false =>
    refine yz ?_;refine⟨I,xs.length-(i+1),⋯,⋯,rfl,?_,sm.trans G,I⟩;unfold Zr;rw[bY,cJ,aV];simp only[bP,hc,cI,dQ,List.filter_nil,cA,cO]
  .have:i=xs.length:=by lia
   subst this;exact .inl ⟨⟨xs,sm.sql hS,al _⟩,k p H2 np sm hp⟩
end
section
def Bef (a:Array Ai)(p q:Nat):Prop:=K a p<K a q\/(K a p=K a q/\p<q)
structure From (a xs:Array Ai)(k:Nat)(ix:Nat->Nat):Prop where
 at_:∀i,xs[i]?=a[ix i]?
 rest:∀i,k<=i->ix i=i
 low:∀i,i<k->ix i<k
theorem From.key {a xs:Array Ai}{k:Nat}{ix:Nat->Nat}(f:From a xs k ix)(i:Nat):K xs i=K a (ix i):=K_congr (f.at_ i)
theorem From.more {a xs:Array Ai}{k:Nat}{ix:Nat->Nat}(f:From a xs k ix):From a xs (k+1) ix :=
 ⟨f.at_,λi h=>f.rest i ⋯,λi h=>by
  by_cases e:i<k
  .have:=f.low i e;lia
  .have:=f.rest i ⋯;lia⟩
theorem From.mirror {a xs:Array Ai}{k b:Nat}{ix:Nat->Nat}(f:From a xs k ix)(hk:k<=xs.size):From a (mirror xs b k ((k-b)/2)) k (λi=>if b<=i/\i<k then ix (b+k-1-i) else ix i):=by
 refine⟨λi=>?_,λi h=>?_,λi h=>?_⟩
 .rw[getElem?_mirror_all hk];by_cases c:b<=i/\i<k
  .simp only[ak c];exact f.at_ _
  .simp only[ag c];exact f.at_ _
 .simp only[ag (show ¬ (b<=i/\i<k) by lia)];exact f.rest i h
 .by_cases c:b<=i/\i<k
  .simp only[ak c];exact f.low _ ⋯
  .simp only[ag c];exact f.low i h
def Up (a xs:Array Ai)(k:Nat):Prop:=∃ix,From a xs k ix/\∀i j,i<j->j<k->Bef a (ix i) (ix j)
def Dr (a xs:Array Ai)(k:Nat):Prop:=∃ix,From a xs k ix/\∀i j,i<j->j<k->Bef a (ix j) (ix i)
def Dn (a xs:Array Ai)(k e:Nat):Prop:=e+1<=k/\∃ix,From a xs k ix/\(∀i j,i<j->j<k-(e+1)->Bef a (ix j) (ix i))/\(∀i j,i<k-(e+1)->k-(e+1)<=j->j<k->K a (ix j)<K a (ix i)) /\
 ∀i j,k-(e+1)<=i->i<j->j<k->K a (ix i)=K a (ix j)/\ix i<ix j
section
variable {a xs:Array Ai}{k e:Nat}
theorem Up.le (h:Up a xs k){i j:Nat}(hij:i<=j)(hj:j<k):K xs i<=K xs j:=by
 obtain⟨ix,f,o⟩:=h;rw[f.key,f.key];by_cases c:i=j
 .subst c;exact gw _
 .rcases o i j ⋯ hj with h|h <;> lia
theorem Up.grow (h:Up a xs k)(hk:1<=k)(hn:¬ K xs k<K xs (k-1)):Up a xs (k+1):=by
 obtain⟨G,f,o⟩:=h;rw[f.key,f.key,f.rest k (al _)]at hn;refine⟨G,f.more,λi j F J=>?_⟩;by_cases c:j<k
 .exact o i j F c
 .obtain rfl:j=k:=by lia
  have I:=f.low i F;rw[f.rest j (al _)];unfold Bef;by_cases c2:i=j-1
  .subst c2;lia
  .rcases o i (j-1) ⋯ ⋯ with h|h <;> lia
theorem Dr.up (h:Dr a xs k)(hk:k<=xs.size):Up a (mirror xs 0 k ((k-0)/2)) k:=by obtain⟨F,f,o⟩:=h;refine⟨_,f.mirror hk,λi j I G=>?_⟩;simp only[ak (show 0<=i/\i<k by lia),ak (show 0<=j/\j<k by lia)];exact o _ _ ⋯ ⋯
theorem Dn.flat (h:Dn a xs k 0):Dr a xs k:=by
 obtain⟨h0,ix,f,o1,o2,o3⟩:=h;refine⟨ix,f,λi j hij hj=>?_⟩;by_cases c:j<k-(0+1)
 .exact o1 i j hij c
 .exact .inl (o2 i j ⋯ ⋯ hj)
theorem Dn.turn (h:Dn a xs k e)(hk:k<=xs.size):Dr a (mirror xs (k-(e+1)) k ((k-(k-(e+1)))/2)) k:=by
 obtain⟨S,L,f,I,G,F⟩:=h;refine⟨_,f.mirror hk,λi j J O=>?_⟩;by_cases c1:k-(e+1)<=i
 .simp only[ak (show k-(e+1)<=i/\i<k by lia),ak (show k-(e+1)<=j/\j<k by lia)];exact .inr (F _ _ ⋯ ⋯ ⋯)
 .simp only[ag (show ¬ (k-(e+1)<=i/\i<k) by lia)];by_cases c2:k-(e+1)<=j
  .simp only[ak (show k-(e+1)<=j/\j<k by lia)];exact .inl (G _ _ ⋯ ⋯ ⋯)
  .simp only[ag (show ¬ (k-(e+1)<=j/\j<k) by lia)];exact I i j J ⋯
theorem Dr.grow (h:Dr a xs k)(hk:1<=k)(hn:K xs k<K xs (k-1)):Dn a xs (k+1) 0:=by
 obtain⟨F,f,o⟩:=h;rw[f.key,f.key,f.rest k (al _)]at hn;refine⟨⋯,F,f.more,λi j G I=>o i j G ⋯,λi j hi h1 h2=>?_,λi j h1 h2 J=>by lia⟩;obtain rfl:j=k:=by lia
 rw[f.rest j (al _)];by_cases c:i=j-1
 .subst c;exact hn
 .rcases o i (j-1) ⋯ ⋯ with h|h <;> lia
theorem Dn.grow (h:Dn a xs k e)(h1:¬ K xs k<K xs (k-1))(h2:¬ K xs (k-1)<K xs k):Dn a xs (k+1) (e+1):=by
 obtain⟨h0,O,f,L,I,G⟩:=h;rw[f.key,f.key,f.rest k (al _)]at h1 h2;have F:k+1-(e+1+1)=k-(e+1):=by lia
 refine⟨⋯,O,f.more,?_,?_,?_⟩
 .rw[F];exact L
 .rw[F];intro i j hi S U;by_cases c:j<k
  .exact I i j hi S c
  .obtain rfl:j=k:=by lia
   rw[f.rest j (al _)];have:=I i (j-1) hi ⋯ ⋯;lia
 .rw[F];intro i j hi J Z;by_cases c:j<k
  .exact G i j hi J c
  .obtain rfl:j=k:=by lia
   rw[f.rest j (al _)];refine⟨?_,f.low i J⟩;by_cases c2:i=j-1
   .subst c2;lia
   .have:=(G i (j-1) hi ⋯ ⋯).1;lia
theorem Up.even (h:Up a xs k)(hk:1<=k)(hz:k<=xs.size)(hr:¬ K xs 0<K xs (k-1)):Dr a (mirror xs 0 k ((k-0)/2)) k:=by
 have G:=@Up.le a xs k h;obtain⟨F,f,o⟩:=h;have I:∀i,i<k->K a (F i)=K a (F 0):=λi hi=>by have L:=G (i:=0) (j:=i) ⋯ hi;have J:=G (i:=i) (j:=k-1) ⋯ ⋯;rw[f.key,f.key]at L J hr;lia
 refine⟨_,f.mirror hz,λi j S O=>?_⟩;simp only[ak (show 0<=i/\i<k by lia),ak (show 0<=j/\j<k by lia)];have L:=I (0+k-1-i) ⋯;have J:=I (0+k-1-j) ⋯;rcases o (0+k-1-j) (0+k-1-i) ⋯ ⋯ with h|h
 .exact .inl h
 .exact .inr h
theorem Up.put (h:Up a xs k)(hk:k<xs.size){l:Nat}(hl:l<=k)(h1:∀i,i<l->K xs i<=K xs k)(h2:∀i,l<=i->i<k->K xs k<K xs i):Up a (bubble xs k (k-l)) (k+1):=by
 obtain⟨F,f,o⟩:=h;have J:k-(k-l)=l:=by lia
 have G:=f.rest k (al _);refine⟨λi=>if i=l then k else if l<i/\i<=k then F (i-1) else F i,⟨λi=>?_,λi hi=>?_,λi hi=>?_⟩,λi j L O=>?_⟩
 .rw[getElem?_bubble hk _ ⋯,J];by_cases c:i=l
  .simp only[ak c];rw[f.at_,G]
  .simp only[ag c];by_cases c2:l<i/\i<=k
   .simp only[ak c2];exact f.at_ _
   .simp only[ag c2];exact f.at_ _
 .simp only[ag (show ¬ i=l by lia),ag (show ¬ (l<i/\i<=k) by lia)];exact f.rest i ⋯
 .by_cases c:i=l
  .simp only[ak c];lia
  .simp only[ag c];by_cases c2:l<i/\i<=k
   .simp only[ak c2];have:=f.low (i-1) ⋯;lia
   .simp only[ag c2];have:=f.low i ⋯;lia
 .have I:∀i,i<k->(i<l->K a (F i)<=K a k)/\(l<=i->K a k<K a (F i)):=λi hi=>by
   refine⟨λc=>?_,λc=>?_⟩
   .have:=h1 i c;rw[f.key,f.key,G]at this;exact this
   .have:=h2 i c hi;rw[f.key,f.key,G]at this;exact this
  by_cases ci:i=l
  .simp only[ak ci,ag (show ¬ j=l by lia),ak (show l<j/\j<=k by lia)];exact .inl ((I (j-1) ⋯).2 ⋯)
  .by_cases cj:j=l
   .simp only[ag ci,ak cj,ag (show ¬ (l<i/\i<=k) by lia)];have U:=(I i ⋯).1 ⋯;have S:=f.low i ⋯;unfold Bef;lia
   .simp only[ag ci,ag cj];by_cases c3:l<i
    .simp only[ak (show l<i/\i<=k by lia),ak (show l<j/\j<=k by lia)];exact o _ _ ⋯ ⋯
    .simp only[ag (show ¬ (l<i/\i<=k) by lia)];by_cases c4:l<j
     .simp only[ak (show l<j/\j<=k by lia)];exact o _ _ ⋯ ⋯
     .simp only[ag (show ¬ (l<j/\j<=k) by lia)];exact o _ _ L ⋯
end
section
variable {prog:Ac}{w:Ah}{A:Ae}{E:Ag->Ab->Prop}{s:Ab}{a₀:Array Ai}
end
end
section
theorem qk5:∀(n:Nat) (l:List Nat),l.Nodup->(∀x∈l,x<n)->l.length<=n
 |0,l,_,h=>by
  cases l with
  |nil=>exact al _
  |cons x l=>exact absurd (h x (aw ..)) (eV _)
 |n+1,l,hn,h=>by
  have a1:=qk5 n (l.erase n) (hn.erase n) λx hx=>by
   have hm:=List.mem_of_mem_erase hx;have:=h x hm;by_cases e:x=n
   .subst e;exact absurd hx (hn.not_mem_erase)
   .lia
  have a2:l.length<=(l.erase n).length+1:=by rw[fK];split <;> lia
  lia
theorem qjg:∀(n:Nat) (l:List Nat),l.Nodup->(∀x∈l,x<n)->l.length=n->l.Perm (List.range n)
 |0,l,_,_,e=>by rw[cx.mp e];exact List.Perm.refl _
 |n+1,l,hn,h,e=>by
  have hm:n∈l:=by
   apply cL;intro c;have:=qk5 n l hn λx F=>by
    have:=h x F;by_cases e:x=n
    .subst e;exact absurd F c
    .lia
   lia
  have G:=qjg n (l.erase n) (hn.erase n) (λx F=>by
   have:=h x (List.mem_of_mem_erase F)
   by_cases e:x=n
   .subst e;exact absurd F hn.not_mem_erase
   .lia) (by rw[fK,ak (by simpa using hm)];lia)
  rw[bY];exact(List.perm_cons_erase hm).trans ((G.cons n).trans (List.perm_append_comm (l₁:=[n])))
theorem Up.places {a xs:Array Ai}(h:Up a xs a.size)(hz:xs.size=a.size):∃il:List Nat,il.Perm (List.range a.size)/\il.Pairwise (Bef a)/\xs.toList=il.map λi=>a.getD i (.none,.none):=by
 obtain⟨G,f,o⟩:=h;have F:((List.range a.size).map G).Pairwise (Bef a):=by rw[bL];refine cm (R:=(·<·)) (λ{i j} hi hj hij=>?_) d3;exact o i j hij (aW.mp hj)
 refine⟨(List.range a.size).map G,qjg _ _ ?_ ?_ (by rw[aa,aR]),F,?_⟩
 .refine F.imp λ{i j} h e=>?_;subst e;unfold Bef at h;lia
 .intro x I;obtain⟨i,hi,rfl⟩:=ar.mp I;exact f.low i (aW.mp hi)
 .refine dY λi=>?_;rw[bq,aB,ca,f.at_];by_cases c:i<a.size
  .rw[cX c];have:=f.low i c;simp[Array.getD,this]
  .rw[f.rest i ⋯,cB ⋯,bg (by rw[aR];lia)];rfl
end
end L2
namespace L2
open PySem PySem.Spec PySem.W PyProof.Rows
section
variable {n:Nat}{im:Nat->Ai}{kz:Nat->Int}{ask:Nat->Nat->(Bool->Ab->Prop)->Ab->Prop}{s:Ab}
def Gd (n:Nat)(p:Array Nat):Prop:=p.Perm (List.toArray (List.range n))
theorem Gd.size {p:Array Nat}(h:Gd n p):p.size=n:=by have:=Array.Perm.size_eq h;simpa using this
theorem Gd.lt {p:Array Nat}(h:Gd n p){i:Nat}(hi:i<n):p.getD i 0<n:=by
 have hs:=h.size;have m:p[i]'⋯∈p:=Array.getElem_mem _;have:=(Array.Perm.mem_iff h).mp m;have e:p.getD i 0=p[i]'⋯:=by simp[Array.getD,hs,hi]
 rw[e];simpa using this
theorem Gd.rev {p:Array Nat}(h:Gd n p)(i j:Nat):Gd n (kas_rev p i j):=(mirror_perm _ _ _ _).trans h
theorem Gd.bub {p:Array Nat}(h:Gd n p)(i j:Nat):Gd n (bubble p i j):=(bubble_perm _ _ _).trans h
def ixA (n:Nat)(im:Nat->Ai):Array Ai:=(List.toArray (List.range n)).map im
theorem qw0 (p:Array Nat)(i j:Nat):(kas_rev p i j).map im=mirror (p.map im) i j ((j-i)/2):=by unfold kas_rev mirror;exact(kas_swaps_map im _ _ _ p).symm
theorem xvg (p:Array Nat)(i j:Nat):(bubble p i j).map im=bubble (p.map im) i j:=by unfold bubble;exact(kas_swaps_map im _ _ _ p).symm
def KyI (im:Nat->Ai)(kz:Nat->Int):Prop:=∀(p:Array Nat) i,i<p.size->K (p.map im) i=kz (p.getD i 0)
def qvk (n:Nat)(kz:Nat->Int)(ask:Nat->Nat->(Bool->Ab->Prop)->Ab->Prop)(s:Ab):Prop:=∀i j C,i<n->j<n->C (decide (kz i<kz j)) s->ask i j C s
theorem qvy {p:Array Nat}{i j:Nat}{C:Bool->Ab->Prop}(ha:qvk n kz ask s)(hk:KyI im kz)(g:Gd n p)(hi:i<n)(hj:j<n)(h1:K (p.map im) i<K (p.map im) j->C true s) (h2:¬ K (p.map im) i<K (p.map im) j->C false s):ask (p.getD i 0) (p.getD j 0) C s:=by
 refine ha _ _ _ (g.lt hi) (g.lt hj) ?_;rw[hk p i (by rw[g.size];exact hi),hk p j (by rw[g.size];exact hj)]at h1 h2;by_cases c:kz (p.getD i 0)<kz (p.getD j 0)
 .simp only[c,decide_true];exact h1 c
 .simp only[c,decide_false];exact h2 c
theorem wx7 {p:Array Nat}{e:Nat}{Q:Nat->Ab->Prop}(ha:qvk n kz ask s)(hk:KyI im kz)(g:Gd n p)(he:e<=n):∀(f b:Nat),1<=b->b+f=e->Up (ixA n im) (p.map im) b ->
  (∀m,b<=m->m<=e->Up (ixA n im) (p.map im) m->(m=e\/K (p.map im) m<K (p.map im) (m-1))->Q m s)->(kas_asc p f b).kasWp ask Q s
 |0,b,_,hb,u,h=>h b (al _) ⋯ u (.inl ⋯)
 |f+1,b,h1,hb,u,h=>by
  refine qvy ha hk g ⋯ ⋯ (λc=>?_) λc=>?_
  .exact h b (al _) ⋯ u (.inr c)
  .exact wx7 ha hk g he f (b+1) ⋯ ⋯ (u.grow h1 c) λm a1 a2 a3 a4=>h m ⋯ a2 a3 a4
theorem wkr {p:Array Nat}{k e:Nat}{Q:Nat×Array Nat->Ab->Prop}(ha:qvk n kz ask s)(hk:KyI im kz)(g:Gd n p)(he:e<=n)(h1:1<=k)(hke:k<=e)(d:Dr (ixA n im) (p.map im) k)(h:∀m q,Gd n q->1<=m->m<=e->Up (ixA n im) (q.map im) m->Q (m,q) s):(kas_tail3 k e p).kasWp ask Q s:=by
 unfold kas_tail3;rw[KasT.kasWp_bind];refine wx7 ha hk (g.rev 0 k) he (e-k) k h1 ⋯ ?_ λm I G F _=>h m _ (g.rev 0 k) ⋯ G F;rw[qw0];exact d.up (by rw[dA,g.size];lia)
theorem qw4 {e:Nat}{Q:Array Nat×Nat×Nat->Ab->Prop}(ha:qvk n kz ask s)(hk:KyI im kz)(he:e<=n):∀(f:Nat) (p:Array Nat) (x q:Nat),Gd n p->x+f=e->Dn (ixA n im) (p.map im) x q ->
  (∀m r p',Gd n p'->x<=m->m<=e->Dn (ixA n im) (p'.map im) m r->Q (p',m,r) s)->(kas_desc f p x q).kasWp ask Q s
 |0,p,x,q,g,hx,d,h=>h x q p g (al _) ⋯ d
 |f+1,p,x,q,g,hx,d,h=>by
  have hx1:1<=x:=by have:=d.1;lia
  have J:x<=(p.map im).size:=by rw[dA,g.size];lia
  refine qvy ha hk g ⋯ ⋯ (λc=>?_) λc=>?_
  .show KasT.kasWp ask (if q>0 then kas_desc f (kas_rev p (x-(q+1)) x) (x+1) 0 else kas_desc f p (x+1) 0) Q s;by_cases c2:q>0
   .rw[ak c2];refine qw4 ha hk he f _ (x+1) 0 (g.rev _ _) ⋯ ?_ λm r p' I O G F=>h m r p' I ⋯ G F;rw[qw0];refine(d.turn J).grow hx1 ?_;rw[K_mirror J,K_mirror J,ag ⋯,ak (by have:=d.1;lia)];obtain⟨Z,U,L,_,_,S⟩:=id d;by_cases c3:x-(q+1)+x-1-(x-1)=x-1
    .rw[c3];exact c
    .have:=(S (x-(q+1)+x-1-(x-1)) (x-1) ⋯ ⋯ ⋯).1;rw[<-L.key,<-L.key]at this;lia
   .rw[ag c2];obtain rfl:q=0:=by lia
    exact qw4 ha hk he f p (x+1) 0 g ⋯ (d.flat.grow hx1 c) λm r p' I O G F=>h m r p' I ⋯ G F
  .refine qvy ha hk g ⋯ ⋯ (λc2=>?_) λc2=>?_
   .exact h x q p g (al _) ⋯ d
   .exact qw4 ha hk he f p (x+1) (q+1) g ⋯ (d.grow c c2) λm r p' I O G F=>h m r p' I ⋯ G F
theorem wk4 {p:Array Nat}{k e:Nat}{Q:Nat×Array Nat->Ab->Prop}(ha:qvk n kz ask s)(hk:KyI im kz)(g:Gd n p)(he:e<=n)(hke:k+1<=e)(d:Dn (ixA n im) (p.map im) (k+1) 0)(h:∀m q,Gd n q->1<=m->m<=e->Up (ixA n im) (q.map im) m->Q (m,q) s):(kas_descPart k e p).kasWp ask Q s:=by
 unfold kas_descPart;rw[KasT.kasWp_bind];refine qw4 ha hk he (e-(k+1)) p (k+1) 0 g ⋯ d λm r J F O I G=>?_;have L:m<=(J.map im).size:=by rw[dA,F.size];lia
 dsimp only;by_cases c:r>0
 .rw[ak c];refine wkr ha hk (F.rev _ _) he ⋯ I ?_ h;rw[qw0];exact G.turn L
 .rw[ag c];obtain rfl:r=0:=by lia
  exact wkr ha hk F he ⋯ I G.flat h
theorem xxj {e:Nat}{Q:Nat×Array Nat->Ab->Prop}(ha:qvk n kz ask s)(hk:KyI im kz)(he:e<=n)(h1:1<=e)(h:∀m q,Gd n q->1<=m->m<=e->Up (ixA n im) (q.map im) m->Q (m,q) s):(kas_count e (List.toArray (List.range n))).kasWp ask Q s:=by
 have g:Gd n (List.toArray (List.range n)):=Array.Perm.refl _;have J:Up (ixA n im) ((List.toArray (List.range n)).map im) 1:=⟨id,⟨λi=>rfl,λi _=>rfl,λi z=>z⟩,λi j a b=>by lia⟩;unfold kas_count;rw[KasT.kasWp_bind];refine wx7 ha hk g he (e-1) 1 (al _) ⋯ J λm F I u O=>?_;have G:m<=((List.toArray (List.range n)).map im).size:=by rw[dA,g.size];lia
 by_cases c:m=e
 .rw[ak (dJ.mpr c)];exact h m _ g F I u
 .have S:=O.resolve_left c;rw[ag (λz=>c (dJ.mp z))];by_cases c2:m>1
  .rw[ak c2];refine qvy ha hk g ⋯ ⋯ (λc3=>?_) λc3=>?_
   .exact h m _ g F I u
   .refine wk4 ha hk (g.rev 0 m) he ⋯ ?_ h;rw[qw0];refine(u.even F G c3).grow F ?_;rw[K_mirror G,K_mirror G,ag ⋯,ak ⋯];have Z:=u.le (i:=0) (j:=0+m-1-(m-1)) ⋯ ⋯;have U:=u.le (i:=0+m-1-(m-1)) (j:=m-1) ⋯ ⋯;lia
  .rw[ag c2];obtain rfl:m=1:=by lia
   obtain⟨L,f,o⟩:=u;exact wk4 ha hk g he ⋯ (Dr.grow ⟨L,f,λi j a b=>by lia⟩ ⋯ S) h
theorem qxv {p:Array Nat}{k:Nat}{Q:Nat->Ab->Prop}(ha:qvk n kz ask s)(hk:KyI im kz)(g:Gd n p)(hkn:k<n)(u:Up (ixA n im) (p.map im) k)(h:∀l,l<=k->(∀i,i<l->K (p.map im) i<=K (p.map im) k)->(∀i,l<=i->i<k->K (p.map im) k<K (p.map im) i)->Q l s):∀(f l r:Nat),l<=r->r<=k->r-l<=f->(∀i,i<l->K (p.map im) i<=K (p.map im) k)->(∀i,r<=i->i<k->K (p.map im) k<K (p.map im) i) ->
  (kas_place p k f l r).kasWp ask Q s
 |0,l,r,a1,a2,a3,a4,a5=>by
  obtain rfl:l=r:=by lia
  exact h l a2 a4 a5
 |f+1,l,r,a1,a2,a3,a4,a5=>by
  unfold kas_place;by_cases c1:l>=r
  .rw[ak c1];obtain rfl:l=r:=by lia
   exact h l a2 a4 a5
  .rw[ag c1];refine qvy ha hk g ⋯ ⋯ (λc2=>?_) λc2=>?_
   .exact qxv ha hk g hkn u h f l ((l+r)/2) ⋯ ⋯ ⋯ a4 λi G F=>by have:=u.le G F;lia
   .exact qxv ha hk g hkn u h f ((l+r)/2+1) r ⋯ ⋯ ⋯ (λi z=>by have:=u.le (i:=i) (j:=(l+r)/2) ⋯ ⋯;lia) a5
theorem xqt {Q:Array Nat->Ab->Prop}(ha:qvk n kz ask s)(hk:KyI im kz)(h:∀q,Gd n q->Up (ixA n im) (q.map im) n->Q q s):∀(f:Nat) (p:Array Nat) (k:Nat),Gd n p->1<=k->k+f=n->Up (ixA n im) (p.map im) k ->
  (kas_bin f p k).kasWp ask Q s
 |0,p,k,g,_,e,u=>by
  obtain rfl:k=n:=by lia
  exact h p g u
 |f+1,p,k,g,k1,e,u=>by
  unfold kas_bin;rw[KasT.kasWp_bind];refine qxv ha hk g ⋯ u (λl G F a5=>?_) k 0 k (aA _) (al _) ⋯ (λi z=>by lia) λi J I=>by lia
  refine xqt ha hk h f _ (k+1) (g.bub _ _) ⋯ ⋯ ?_;rw[xvg];exact u.put (by rw[dA,g.size];lia) G F a5
theorem xvk {Q:Array Nat->Ab->Prop}(ha:qvk n kz ask s)(hk:KyI im kz)(h1:1<=n)(h:∀q,Gd n q->Up (ixA n im) (q.map im) n->Q q s):(kas_sort n).kasWp ask Q s:=by
 unfold kas_sort;rw[KasT.kasWp_bind];refine xxj ha hk (al _) h1 λm q g F I u=>?_;dsimp only;have G:max m 1=m:=by lia
 by_cases c:m<n
 .rw[ak c,G];exact xqt ha hk h (n-m) q m g F ⋯ u
 .rw[ag c];obtain rfl:m=n:=by lia
  exact h q g u
def imI (kz:Nat->Int)(t:Tok)(i:Nat):Ai:=(.int (kz i) t,.int (i:Int) t)
theorem imI_ky (kz:Nat->Int)(t:Tok):KyI (imI kz t) kz:=λp i hi=>by unfold K;simp[hi,imI,numOf,Array.getD]
theorem tr_out {t:Tok}{Q:Array Nat->Ab->Prop}(ha:qvk n kz ask s)(h1:1<=n)(h:∀il:List Nat,il.Perm (List.range n)->il.Pairwise (λi j=>kz i<kz j\/(kz i=kz j/\i<j))->Q il.toArray s):(kas_sort n).kasWp ask Q s:=by
 refine xvk ha (imI_ky kz t) h1 λq g u=>?_;have F:(ixA n (imI kz t)).size=n:=by simp[ixA]
 have L:(q.map (imI kz t)).size=(ixA n (imI kz t)).size:=by rw[F,dA,g.size]
 obtain⟨il,p,o,e⟩:=Up.places (by rw[F];exact u) L;rw[F]at p;have G:∀i∈il,i<n:=λi hi=>aW.mp (p.mem_iff.mp hi);have Z:∀i,i<n->(ixA n (imI kz t)).getD i (.none,.none)=imI kz t i:=λi hi=>by simp[ixA,Array.getD,hi]
 have I:∀i,i<n->K (ixA n (imI kz t)) i=kz i:=λi hi=>by unfold K;simp[ixA,hi,imI,numOf]
 have U:q.toList.map (imI kz t)=il.map (imI kz t):=by rw[<-Array.toList_map,e];exact bX λi hi=>Z i (G i hi)
 have J:∀i j,imI kz t i=imI kz t j->i=j:=λi j e=>by simp only[imI,Prod.mk.injEq,Value.int.injEq]at e;lia
 have S:q.toList=il:=(List.map_inj_right (λi j e=>J i j e)).mp U;have O:q=il.toArray:=by rw[<-S]
 rw[O];exact h il p (o.imp_of_mem λ{i j} hi hj hb=>by
  unfold Bef at hb
  rw[I i (G i hi),I j (G j hj)]at hb
  exact hb)
end
end L2
namespace L2
open PySem PySem.Spec PySem.Calls PySem.W PyProof.Rows
section
section
variable {prog:Ac}{w:Ah}{A:Ae}{E:Ag->Ab->Prop}{s:Ab}
theorem Z0 {h:Heap}{a:Aj}{vs:List Ag}{k:Nat}(ho:h.get? a=some (seqObj "list" vs.toArray k))(out:Array Ag):∃e,(sortedHeap h a vs out).get? a=some (seqObj "list" out e):=by obtain⟨F,G⟩:∃F,(h.update a (Obj.mapSeq λ_=>(#[]:Array Ag))).get? a=some (seqObj "list" #[] F):=⟨_,get?_update_seq ho λ_=>#[]⟩;exact⟨_,get?_update_seq (ai _ (ai _ G)) λ_=>out⟩
theorem W6 {h:Heap}{a b:Aj}{vs:List Ag}{o:Obj}(e:h.get? b=some o)(hb:b≠a)(out:Array Ag):(sortedHeap h a vs out).get? b=some o:=by unfold sortedHeap;rw[e7 _ _ _ _ hb];refine ai _ (ai _ ?_);rw[e7 _ _ _ _ hb];exact e
end
section
variable {X:Cx}
end
end
section
def kzS (ss:List Str)(x:Str):Int:=((ss.filter λy=>decide (y.cps.toList<x.cps.toList)).length:Nat)
theorem xqy {ss:List Str}{x y:Str}(h:¬ y.cps.toList<x.cps.toList):kzS ss x<=kzS ss y:=by
 unfold kzS;have:(ss.filter λz=>decide (z.cps.toList<x.cps.toList)).length<=(ss.filter λz=>decide (z.cps.toList<y.cps.toList)).length:=by
  refine(List.Sublist.length_le ?_);have e:(ss.filter λz=>decide (z.cps.toList<x.cps.toList))=(ss.filter λz=>decide (z.cps.toList<y.cps.toList)).filter λz=>decide (z.cps.toList<x.cps.toList):=by
   rw[List.filter_filter];refine List.filter_congr λz _=>?_;by_cases c:z.cps.toList<x.cps.toList
   .have:z.cps.toList<y.cps.toList:=by apply cL;intro n;exact absurd c (List.not_lt.mpr (List.le_trans (List.not_lt.mp h) (List.not_lt.mp n)))
    simp[c,this]
   .simp[c]
  rw[e];exact List.filter_sublist
 lia
theorem wuc {ss:List Str}{x y:Str}(hx:x∈ss)(h:x.cps.toList<y.cps.toList):kzS ss x<kzS ss y:=by
 unfold kzS;have G:(ss.filter λz=>decide (z.cps.toList<x.cps.toList)).length<(ss.filter λz=>decide (z.cps.toList<y.cps.toList)).length:=by
  have e:(ss.filter λz=>decide (z.cps.toList<x.cps.toList))=(ss.filter λz=>decide (z.cps.toList<y.cps.toList)).filter λz=>decide (z.cps.toList<x.cps.toList):=by
   rw[List.filter_filter];refine List.filter_congr λz _=>?_;by_cases c:z.cps.toList<x.cps.toList
   .have:z.cps.toList<y.cps.toList:=List.lt_trans c h;simp[c,this]
   .simp[c]
  rw[e];have F:x∈ss.filter λz=>decide (z.cps.toList<y.cps.toList):=bj.mpr ⟨hx,aT h⟩;refine Nat.lt_of_le_of_ne (bF _ _) λz=>?_;have:=(List.length_filter_eq_length_iff).mp z x F;exact List.lt_irrefl _ (bM this)
 lia
theorem xky {ss:List Str}{x y:Str}(hx:x∈ss):kzS ss x<kzS ss y↔x.cps.toList<y.cps.toList:=by
 constructor
 .intro h;apply cL;intro n;have:=xqy (ss:=ss) n;lia
 .exact wuc hx
section
variable {prog:Ac}{w:Ah}{A:Ae}{E:Ag->Ab->Prop}{s:Ab}
def StrsR (vs:List Ag)(ss:List Str):Prop:=Paired (λv x=>∃t,v=Value.str x t) vs ss
theorem StrsR.at {vs:List Ag}{ss:List Str}(h:StrsR vs ss):∀ {i:Nat},i<ss.length->∃x t,ss[i]?=some x/\vs.getD i Value.none=Value.str x t:=by
 induction h with
 |nil=>intro i hi;exact absurd hi (eV _)
 |@cons a b l m hd tl ih =>
  intro i hi;cases i with
  |zero=>obtain⟨t,rfl⟩:=hd;exact⟨b,t,rfl,rfl⟩
  |succ i=>exact ih (i:=i) (by simpa using hi)
theorem StrsR.mem {vs:List Ag}{ss:List Str}(h:StrsR vs ss):∀v∈vs,∃x t,v=Value.str x t:=by
 induction h with
 |nil=>intro v F;cases F
 |@cons a b l m hd tl ih =>
  intro v F;rcases ae.mp F with rfl|F
  .obtain⟨t,e⟩:=hd;exact⟨b,t,e⟩
  .exact ih v F
theorem qvv {a:Aj}{vs:List Ag}{k:Nat}{ss:List Str}{P:PySem.Fin->Ab->Prop}(ho:s.heap.get? a=some (seqObj "list" vs.toArray k))(h64:vs.length<64)(t:StrsR vs ss)(h:∀il:List Nat,il.Perm (List.range vs.length)->il.Pairwise (λi j=>¬ (ss.getD j Str.empty).cps.toList<(ss.getD i Str.empty).cps.toList)->P (.done (.ret .none)) { s with heap:=sortedHeap s.heap a vs (il.map λi=>vs.getD i Value.none).toArray }) :
  wpAny (model prog w) A (Builtin.«list.sort» ⟨[.ref a],[]⟩) P E s:=by
 have a7:vs.length=ss.length:=bx t;have ha:a<s.heap.objs.size:=ao ho;obtain⟨Z,ah⟩:∃Z,(s.heap.update a (Obj.mapSeq λ_=>(#[]:Array Ag))).get? a=some (seqObj "list" #[] Z):=⟨_,get?_update_seq ho λ_=>#[]⟩;have sz:(1000001:Nat)<sizeLine:=by decide
 rw[list_sort_plain];refine ac (listItems_at ho rfl ?_);refine ac (listUpdate_at ho rfl ?_ (by rw[aG];lia) (aA _));refine ac (seqEpoch_at ah rfl ?_);refine ac (wpAny_newTuple ?_ (by show vs.length<=_;lia));refine ac (fO ?_ (aA _));refine cf ?_;show wpAny (model prog w) A _ P E { s with heap:=((s.heap.update a (Obj.mapSeq λ_=>(#[]:Array Ag))).push (seqObj "tuple" vs.toArray 0)).push (seqObj "list" #[] 0) };have G:(((s.heap.update a (Obj.mapSeq λ_=>(#[]:Array Ag))).push (seqObj "tuple" vs.toArray 0)).push (seqObj "list" #[] 0)).get? a=some (seqObj "list" #[] Z):=ai _ (ai _ ah);have I:∀(h':Heap) (il:List Nat),h'=((s.heap.update a (Obj.mapSeq λ_=>(#[]:Array Ag))).push (seqObj "tuple" vs.toArray 0)).push (seqObj "list" #[] 0)->il.Perm (List.range vs.length)->il.Pairwise (λi j=>¬ (ss.getD j Str.empty).cps.toList<(ss.getD i Str.empty).cps.toList)->P (.done (.ret .none)) { s with heap:=h'.update a (Obj.mapSeq λ_=>(il.map λi=>vs.getD i Value.none).toArray) }:=λh' il e a1 a2=>by subst e;exact h il a1 a2
 generalize ((s.heap.update a (Obj.mapSeq λ_=>(#[]:Array Ag))).push (seqObj "tuple" vs.toArray 0)).push (seqObj "list" #[] 0)=h6' at G I ⊢;have I:=λil=>I h6' il rfl;dsimp only;by_cases h2:vs.toArray.size<2
 .rw[ak h2,ak h2];refine ac (aq ?_);rw[StateT.run_pure];refine ac (aq ?_);dsimp only;have a0:vs.length<2:=by simpa using h2
  have e:(arrOf (SortSt.mk' general' (vs.toArray.zip vs.toArray) #[] 7 none)).map (·.2)=((List.range vs.length).map λi=>vs.getD i Value.none).toArray:=by
   show(vs.toArray.zip vs.toArray).map (·.2)=_
   match vs,a0 with
   |[],_=>simp
   |[v],_=>simp
   |_::_::_,h2=>simp at h2;lia
  rw[e];refine ac (seqEpoch_at G rfl ?_);refine ac (listUpdate_at G rfl ?_ (aA _) (by rw[aG,aa,aR];lia));simp only[bne_self_eq_false,cI,dQ];refine aq (I (List.range vs.length) (.refl _) ?_);rcases(by lia:vs.length=0\/vs.length=1) with z|z
  .rw[z];exact .nil
  .rw[z];exact gc _ _
 .rw[ag h2,ag h2];have ad:2<=vs.length:=by simpa using h2
  refine ac (kas_kind (T:=.type "str") ad (λv hv=>?_) rfl rfl ?_)
  .obtain⟨x,tk,rfl⟩:=t.mem v hv;exact Looks.of_pure rfl
  let kz:Nat->Int:=λi=>kzS ss (ss.getD i Str.empty);have U:∀ {i x},ss[i]?=some x->ss.getD i Str.empty=x:=λe=>by rw[av,e];rfl
  have ask:qvk vs.length kz (kas_ask prog w A oneType' vs) { s with heap:=h6' }:=λi j C hi S hC=>by
   obtain⟨x,tx,ex,vx⟩:=t.at (i:=i) ⋯;obtain⟨y,ty,L,vy⟩:=t.at (i:=j) ⋯;unfold kas_ask;rw[vx,vy];refine kas_lt_str ?_;have e:decide (kz i<kz j)=decide (x.cps.toList<y.cps.toList):=by rw[cN,d6,d6];show kzS ss (ss.getD i Str.empty)<kzS ss (ss.getD j Str.empty)↔_;rw[U ex,U L];exact xky (aK ex)
   rw[<-e];exact hC
  have an:(kas_sort vs.length).kasWp (kas_cmp prog w A oneType' (pairsOf vs)) (λp s'=>s'={ s with heap:=h6' }/\p.toList.Perm (List.range vs.length)/\p.toList.Pairwise (λi j=>¬ (ss.getD j Str.empty).cps.toList<(ss.getD i Str.empty).cps.toList)) { s with heap:=h6' }:=by
   rw[<-kas_ask_eq];refine tr_out (t:=0) ask ⋯ λil J O=>⟨rfl,J,O.imp_of_mem λ{i j} hi S hb n=>?_⟩;have S:=aW.mp (J.mem_iff.mp S);obtain⟨y,ty,L,vy⟩:=t.at (i:=j) ⋯;have:kz j<kz i:=by show kzS ss (ss.getD j Str.empty)<kzS ss (ss.getD i Str.empty);rw[U L]at n ⊢;exact wuc (aK L) n
   lia
  have a6:SortSt.mk' oneType' (vs.toArray.zip vs.toArray) #[] 7 none=kas_st oneType' (pairsOf vs) (List.toArray (List.range vs.length)):=by have e:=kas_range (pairsOf vs);rw[pairsOf_size]at e;show SortSt.mk' oneType' (pairsOf vs) #[] 7 none=SortSt.mk' oneType' ((List.toArray (List.range vs.length)).map (kas_item (pairsOf vs))) #[] 7 none;rw[e]
  have ab:=kas_runs (E:=E) (Q:=λ_ F s'=>∃p:Array Nat,p.size=vs.length/\arrOf F=p.map (kas_item (pairsOf vs))/\failedOf F=none/\s'={ s with heap:=h6' }/\p.toList.Perm (List.range vs.length)/\p.toList.Pairwise (λi j=>¬ (ss.getD j Str.empty).cps.toList<(ss.getD i Str.empty).cps.toList))
   ad h64 (λp' F s' a1 a2 a3 a4=>⟨p',a1,a2,a3,a4⟩) an
  rw[<-a6]at ab;refine ac (bh ab ?_ λ_ _ e=>e);rintro⟨⟨⟩,F⟩ s' ⟨p,hp,har,hf,rfl,J,O⟩;dsimp only;have ap:(arrOf F).map (·.2)=List.toArray (p.toList.map λi=>vs.getD i Value.none):=by apply Array.toList_inj.mp;rw[har,Array.map_map,Array.toList_map];exact bX λi _=>by show(kas_item (pairsOf vs) i).2=_;rw[kas_item_eq]
  rw[ap];refine ac (seqEpoch_at G rfl ?_);refine ac (listUpdate_at G rfl ?_ (aA _) (by rw[aG,aa,bn];lia));rw[hf];simp only[bne_self_eq_false,cI,dQ];exact aq (I p.toList J O)
theorem qy1 {d:Aj}{vs:List (Key×Ag)}{ep:Nat}{Q:List Ag->Ab->Prop}(hh:A.handled=none)(lo:(d==sysModules)=false)(dd:s.heap.DictAt (zv prog w) d vs ep)(hn:vs.length<=sizeLine)(h:∀h' tk (qs:List Ag),(∀b o,s.heap.get? b=some o->h'.get? b=some o)->qs.length=vs.length->(∀(i:Nat) v,qs[i]?=some v->∃k x,vs[i]?=some (k,x)/\(zv prog w).is k v=true)->s.heap.objs.size<=h'.objs.size->Q qs { s with heap:=h',toks:=tk }):wpAny (model prog w) A (collect (.ref d)) Q E s:=by
 have O:d<s.heap.objs.size:=dd.lt_size;have R:(s.heap.push (seqObj "list" #[] 0)).DictAt (zv prog w) d vs ep:=dd.push _;have S:codeAny (model prog w) A (.builtin "proto.collect" ⟨[.ref d],[]⟩) (λr s'=>r=.ok (.ret (.ref s.heap.objs.size))/\∃h' tk F G,s'={ s with heap:=h',toks:=tk }/\(∀b o,b≠s.heap.objs.size->(s.heap.push (seqObj "list" #[] 0)).get? b=some o->h'.get? b=some o) /\
   h'.get? s.heap.objs.size=some { cls:=.type "list",dict:=none,data:=.seq F G,slots:=#[] }/\ItemsOf (λi v=>∃k x,vs[i]?=some (k,x)/\(zv prog w).is k v=true) F vs.length) s:=by
  refine codeAny_builtin entry_proto_collect' ?_;show wpAny _ _ (do again (.builtin "list.__iadd__" ⟨[<-newList [],.ref d],[]⟩)) _ _ s;(refine ac (fO (aq ⟨Code.quiet_builtin _ (by decide +kernel),codeAny_builtin entry_list_iadd' ?_⟩)) ;rw[Around.under_plainId (show plainId "list.__iadd__" = true by decide +kernel) _]);show wpAny _ _ (Builtin.List.listExtendWith (.ref s.heap.objs.size) (.ref d) (.ref s.heap.objs.size)) _ _ _;exact kdl_extend (s:={ s with heap:=s.heap.push (seqObj "list" #[] 0) }) (R:=λr s'=>r=.ok (.ret (.ref s.heap.objs.size))/\∃h' tk F G,s'={ s with heap:=h',toks:=tk }/\(∀b o,b≠s.heap.objs.size->(s.heap.push (seqObj "list" #[] 0)).get? b=some o->h'.get? b=some o) /\
   h'.get? s.heap.objs.size=some { cls:=.type "list",dict:=none,data:=.seq F G,slots:=#[] }/\ItemsOf (λi v=>∃k x,vs[i]?=some (k,x)/\(zv prog w).is k v=true) F vs.length) (kdl_dict lo) (by simpa using hh) R s.heap.objs.size (ff O) (ff O) (.ref s.heap.objs.size) 0 (ax _ rfl) (λh' tk F G L J I=>⟨rfl,h',tk,F,G,rfl,L,J,I⟩) hn
 unfold collect;refine ac (wpAny_runValue (dS S λr s' U=>?_));obtain⟨rfl,h',tk,F,G,rfl,L,J,I⟩:=U;dsimp only;refine ac (wpAny_load J ?_);refine aq ?_;refine h h' tk _ (λb o e=>L b o (aD (ao e)) (ai _ e)) (by rw[bn];exact I.1) (λi v e=>I.2 i v (by rw[<-ca];exact e)) ?_;exact bK (ao J)
end
section
variable {X:Cx}
theorem Qg (hc:X.calm=true):j9 X (.builtin "sorted") (λxs H Q=>∃(d:Aj) (kvs:List (Key×V)) (ss:List Str),xs=[.ref d]/\Rd H d (.dK kvs)/\kvs.map (·.1)=ss.map Sum.inr/\kvs.length<64 /\
  ∀(l:Aj) (ms:List Str),H l=none->ms.Perm ss->ms.Pairwise (λx y=>¬ y.cps.toList<x.cps.toList)->Q (.ref l) (upd H l (.lst (ms.map V.str)))):=by
 intro pins s σ H xs us Q I r h;obtain⟨d,kvs,ss,rfl,hd,hk,hn,q⟩:=h;obtain⟨u,rfl,ru⟩:=uu r;cases(show u=Value.ref d from ru);have sz:(100001:Nat)<sizeLine:=by decide
 obtain⟨z,lo,vs,ab,dd⟩:=Wm I.hok hd;obtain⟨ep,dd⟩:=dd.dictAt;have hl:vs.length=kvs.length:=(bx ab).symm;have a1:kvs.length=ss.length:=by have:=bu List.length hk;simpa using this
 refine dF kind_sorted plain_sorted entry_sorted (args_sorted1 _) ?_;unfold Builtin.«sorted»;refine ac (m:=checkCount "sorted" 1 1 _) (aq ?_);refine ac (qy1 (by simpa using I.ok.hd hc) lo dd ⋯ λh' tk F ap a2 hq S=>?_);refine ac (fO ?_ ⋯);have U:(h'.push (seqObj "list" F.toArray 0)).get? h'.objs.size=some (seqObj "list" F.toArray 0):=ax _ rfl;have tS:StrsR F ss:=by
  have an:∀(F:List Ag) (ss:List Str),F.length=ss.length->(∀(i:Nat) v,F[i]?=some v->∃x t,ss[i]?=some x/\v=Value.str x t)->StrsR F ss:=by
   intro F
   induction F with
   |nil =>
    intro ss e _;cases ss with
    |nil=>exact .nil
    |cons _ _=>simp at e
   |cons v F ih =>
    intro ss e O;cases ss with
    |nil=>simp at e
    |cons x ss =>
     obtain⟨x',t,L,J⟩:=O 0 v rfl;cases L;exact .cons ⟨t,J⟩ (ih ss (by simpa using e) λi v Z=>O (i+1) v Z)
  refine an F ss ⋯ λi v Z=>?_;obtain⟨k,x,L,J⟩:=hq i v Z;have hi:=(aI.mp L).1;have ek:kvs[i]?=some kvs[i]:=aj ⋯;obtain⟨qv,e3,_⟩:=qxc ab ek;rw[L]at e3;have e4:=bu (λl=>l[i]?) hk;simp only[aB,ek,cz]at e4;have hs:ss[i]?=some ss[i]:=aj ⋯;rw[hs,cz]at e4;have e5:=au e4;have e6:k=kvs[i].1:=bu Prod.fst (au e3);rw[e6,e5]at J;obtain⟨t,rfl⟩:=(show ∃t,v=Value.str ss[i] t from wk8 J);exact⟨ss[i],t,hs,rfl⟩
 refine ac (cf (dD slot_list_sort ⟨_,U,rfl⟩ entry_list_sort ?_ (args_list_sort _)));refine qvv (s:={ s with heap:=h'.push (seqObj "list" F.toArray 0),toks:=tk }) U ⋯ tS λG pm up=>⟨_,rfl,aq ⟨_,rfl,?_⟩⟩;obtain⟨e,he⟩:=Z0 U (G.map λi=>F.getD i Value.none).toArray;have nl:H h'.objs.size=none:=I.hok.fresh S;have a0:∀i∈G,i<ss.length:=λi hi=>by have:=aW.mp (pm.mem_iff.mp hi);lia
 have ah:∀(G:List Nat),(∀i∈G,i<ss.length)->Vals ((G.map λi=>ss.getD i Str.empty).map V.str) (G.map λi=>F.getD i Value.none):=by
  intro G
  induction G with
  |nil=>intro _;exact .nil
  |cons i G ih =>
   intro O;obtain⟨x,t,L,J⟩:=tS.at (O i (.head _));refine .cons ?_ (ih λj hj=>O j (.tail _ hj));show RelV (V.str (ss.getD i Str.empty)) (F.getD i Value.none);rw[J,av,L];exact⟨t,rfl⟩
 have ad:(G.map λi=>ss.getD i Str.empty).Perm ss:=by
  have h1:=pm.map λi=>ss.getD i Str.empty;have h2:((List.range F.length).map λi=>ss.getD i Str.empty)=ss:=by
   refine dY λi=>?_;rw[aB];by_cases c:i<ss.length
   .rw[cX ⋯,aj c];show some (ss.getD i Str.empty)=_;rw[av,aj c];rfl
   .rw[bg (by rw[aR];lia),bg ⋯];rfl
  rw[h2]at h1;exact h1
 refine⟨.ref _,_,I.laid (t':=tk) (λb u hb=>W6 (ai _ (ap b u hb)) (aD (aL (ao hb) S)) _) S (show ObjOk X.prog X.w _ _ _ (.lst ((G.map λi=>ss.getD i Str.empty).map V.str)) from ⟨?_,_,e,ah G a0,he⟩),rfl,q _ _ nl ad (bL.mpr up)⟩;rw[aa,ad.length_eq];lia
end
end
end L2
namespace L2
open PySem PySem.Spec PySem.Calls PyProof.Rows PySem.W
section
variable {prog:Ac}{w:Ah}{A:Ae}{E:Ag->Ab->Prop}{s:Ab}{K:Type}[DecidableEq K]{knd:KeyKind prog w K}
theorem qvu {α:Type}{f:α->Int}:∀ {l:List α} (x:Int),(l.map f).Nodup->(l.filter λe=>f e==x).length<=1
 |[],_,_=>aA _
 |a::l,x,h=>by
  rw[aH,bc]at h;have ih:=qvu (l:=l) x h.2;by_cases c:(f a==x)=true
  .rw[bP,ak c];have:l.filter (λe=>f e==x)=[]:=List.filter_eq_nil_iff.mpr λe he hx=>h.1 (ar.mpr ⟨e,he,by rw[eq_of_beq hx,eq_of_beq c]⟩);rw[this];exact al _
  .rw[bP,ag c];exact ih
theorem wx2 {id:String}{d:Aj}{o:Obj}{es:Array DictEntry}{ep:Nat}{xs:List (List K×Aj×Ag)}{Q:Array DictEntry->Ab->Prop}(ho:s.heap.get? d=some o)(hd:o.data=.dict es ep)(he:es.toList=xs.map (entryOfKey (tupleKind knd))) (his:∀x∈xs,(tupleKind knd).is s.heap x.1 x.2.1) (hh:(xs.map λx=>(tupleKind knd).hash x.1).Nodup) (h:Q es s) :
  wpAny (model prog w) A (Builtin.Dict.entriesForEmpty id d) Q E s:=by
 unfold Builtin.Dict.entriesForEmpty;refine ac (cw ho hd ?_);refine ac (bh (Q:=λ_ s'=>s'=s) ?_ (λ_ s' e=>by subst e;exact aq h) λ_ _ e=>e);rw[<-Array.forIn_toList];refine wpAny_forIn_list _ (λrest _ s'=>s'=s/\∀e∈rest,e∈es.toList) _ ?_ (λ_ _ e=>e.1) _ _ ⟨rfl,λ_ h=>h⟩;rintro e rest b s' ⟨rfl,hr⟩;obtain⟨x,I,ex⟩:=ar.mp (he▸hr e (.head _));have hi:=his x I;have tl:s'.TypeIs (.ref x.2.1) "tuple" := by obtain⟨o',O,n,h1,h2,_⟩:=hi;exact⟨o',h1,h2⟩
 have L:e.key=.ref x.2.1:=by rw[<-ex];rfl
 have J:¬ (es.filter (·.hash==e.hash)).size>1:=by
  have h1:=qvu (f:=λe:DictEntry=>e.hash) (l:=es.toList) e.hash (by rw[he,bq];exact hh);have h2:(es.filter (·.hash==e.hash)).size=(es.toList.filter (·.hash==e.hash)).length:=by rw[<-bn,Array.toList_filter]
  lia
 have G:∀e∈rest,e∈es.toList:=λe h=>hr e (.tail _ h);unfold Builtin.Dict.quietEq;rw[L];dsimp only;refine ac (ac (gr tl PySem.F.slot_tuple_eq.lookup (aq ?_)));rw[ag J];show wpAny _ _ (if(!(_:Bool))=true then _ else _) _ _ _;split
 .exact aq ⟨rfl,G⟩
 .exact aq ⟨rfl,G⟩
theorem xxh {o:Aj}{xs:List (List K×Aj×Ag)}{Q:Ag->Ab->Prop}(hoS:(o==sysModules)=false)(ho:s.heap.DictOfH (tupleKind knd) o xs)(hsz:xs.length<=sizeLine)(h0:xs≠[])(hh:(xs.map λx=>(tupleKind knd).hash x.1).Nodup)(h:∀h',h'.DictOfH (tupleKind knd) s.heap.objs.size xs->Heap.SameBut s.heap.objs.size (s.heap.push { cls:=.type "dict",data:=.dict #[] }) h'->Q (.ref s.heap.objs.size) { s with heap:=h' }) :
  wpAny (model prog w) A (call (.type "dict") [.ref o]) Q E s:=by
 refine callType_codes (Q₁:=λU S=>U=.ref s.heap.objs.size/\S={ s with heap:=s.heap.push { cls:=.type "dict",data:=.dict #[] } }) PySem.F.kt_called_dict (PySem.F.kt_typeCall_dict_1 _) PySem.F.entry_dict_init (kt_code_dict_new _ ⟨rfl,rfl⟩) ?_;rintro U S ⟨rfl,rfl⟩;obtain⟨oo,es,ep,Z,hc,hd,I,ap,hn⟩:=ho;have an:o<s.heap.objs.size:=ao Z;have G:(s.heap.push { cls:=.type "dict",data:=.dict #[] }).get? s.heap.objs.size=some { cls:=.type "dict",data:=.dict #[] }:=ax _ rfl;have O:Shared.TypeIs { s with heap:=s.heap.push { cls:=.type "dict",data:=.dict #[] } } (.ref s.heap.objs.size) "dict" := ⟨_,G,rfl⟩;have L:(s.heap.push { cls:=.type "dict",data:=.dict #[] }).get? o=some oo:=ai _ Z;have to:Shared.TypeIs { s with heap:=s.heap.push { cls:=.type "dict",data:=.dict #[] } } (.ref o) "dict" := ⟨_,L,hc.1⟩;have a1:s.heap.objs.size≠o:=ff an;refine⟨O,PySem.F.args_dict_init_2 _ _,?_⟩;unfold Builtin.«dict.__init__»;refine ac ?_;unfold Builtin.Dict.selfAndRest;refine ac (wpAny_notOrdered_dict O ?_);show wpAny _ _ (pure (s.heap.objs.size,[Value.ref o])) _ _ _;refine aq ?_;show wpAny _ _ (Builtin.Dict.updateFrom "dict.__init__" s.heap.objs.size (.ref o) [] .none) _ _ _;unfold Builtin.Dict.updateFrom;refine ac (wpAny_typeOf to ?_);rw[ag ⋯];refine ac ?_;unfold Builtin.Dict.merge;refine ac ?_;unfold Builtin.Dict.readDirectly;refine ac (wpAny_isInstance to isSubtype_dict_dict ?_);simp only[Bool.not_true,cI,dQ];refine ac (gr to PySem.F.slot_dict_iter.lookup (aq ?_));simp only[beq_self_eq_true,gi];refine ac (aq ?_);unfold Builtin.Dict.mergeDict;rw[ag (by simpa using a1)];unfold Builtin.Dict.showsAll;rw[ag (by rw[hoS];exact aM)];refine ac (aq ?_);refine ac (cw L hd ?_);have ah:es.toList≠[]:=by rw[I];intro z;exact h0 (List.map_eq_nil_iff.mp z)
 have a2:(es.all λe=>(keyPart e.key).isSome)=false:=by
  obtain⟨x,ys,rfl⟩:∃x ys,xs=x::ys:=by
   cases xs with
   |nil=>exact absurd rfl h0
   |cons x ys=>exact⟨x,ys,rfl⟩
  rw[<-Array.all_toList,I];rfl
 have ab:∀x∈xs,(tupleKind knd).is (s.heap.push { cls:=.type "dict",data:=.dict #[] }) x.1 x.2.1:=λx J=>by obtain⟨o',ad,n,h1,r⟩:=ap x J;exact⟨o',ad,n,ai _ h1,r⟩
 dsimp only;rw[a2,Bool.and_false];simp only[Bool.not_false,gi];refine ac (cw G rfl ?_);rw[ak (show(#[]:Array DictEntry).isEmpty=true from rfl)];refine ac (wx2 (knd:=knd) L hd I ab hh ?_);have a0:es.isEmpty=false:=by
  rw[<-Array.isEmpty_toList];cases hz:es.toList with
  |nil=>exact absurd hz ah
  |cons _ _=>rfl
 rw[a0];simp only[Bool.not_false,gi];have a3:es.size=xs.length:=by rw[<-bn,I,aa]
 refine ac (wpAny_updateDictKeysTo G rfl (aq ?_) (by show es.size<=_;lia));show wpAny _ _ (Builtin.Dict.addKeywords s.heap.objs.size [] >>= _) _ _ _;refine ac (aq (aq ⟨rfl,h _ ⟨_,es,1,eA _ G (Obj.isFreed_of_dict (Obj.data_mapDictKeys rfl _)),⟨rfl,rfl,rfl⟩,rfl,I,λx J=>?_,hn⟩ (dI ..)⟩));exact(tupleKind knd).keeps (ab x J) G rfl (dI ..)
end
section
variable {X:Cx}
theorem qvn:j9 X (.type "dict") (λxs H Q=>∃a kvs,xs=[V.ref a]/\Rd H a (.dK kvs)/\∀p,H p=none->Q (.ref p) (upd H p (.dK kvs))):=by intro pins s σ H xs J Q I r h;obtain⟨a,kvs,rfl,e,q⟩:=h;obtain⟨u,rfl,F⟩:=uu r;cases F;exact xqk I e λp s' np G=>⟨.ref p,_,G,rfl,q p np⟩
def Zs (P:Ac)(w:Ah)(k:List Key):Int:=(tupleKind (zv P w)).hash k
theorem wzv:j9 X (.type "dict") (λxs H Q=>∃a kvs,xs=[V.ref a]/\H a=some (.dT kvs)/\kvs≠[]/\(kvs.map λp=>Zs X.prog X.w p.1).Nodup/\∀p,H p=none->Q (.ref p) (upd H p (.dT kvs))):=by
 intro pins s σ H xs us Q I r h;obtain⟨a,kvs,rfl,e,h0,U,q⟩:=h;obtain⟨u,rfl,O⟩:=uu r;cases O;obtain⟨z,Z,xs,F,dd⟩:=Yc I.hok (.inl e);have J:xs.length=kvs.length:=(bx F).symm;have S:∀ {kvs:List (List Key×V)} {xs:List (List Key×Aj×Ag)},KT H kvs xs->xs.map (λx=>(tupleKind (zv X.prog X.w)).hash x.1)=kvs.map λp=>Zs X.prog X.w p.1:=by
  intro kvs xs r
  induction r with
  |nil=>rfl
  |cons h t ih=>rw[aH,aH,ih,h.1];rfl
 refine xxh Z dd (by rw[J];exact z) (λz=>h0 (eP (by rw[<-J,z];rfl))) (by rw[S F];exact U) λh' ab hs=>?_;obtain⟨o',es,ep,h1,h2,h3,h4,h5,h6⟩:=ab;refine⟨.ref _,_,I.laid (a:=s.heap.objs.size) (o:=.dT kvs) (t':=s.toks) (λb q G=>?_) (al _) ⟨z,aY.mpr (aZ (aD I.big)),xs,F.keeps λc ys L=>?_,o',es,ep,h1,h2,h3,h4,h6⟩,rfl,q _ (I.hok.fresh (al _))⟩
 .exact(hs.2 b (aD (ao G))).trans (ai _ G)
 .rw[wg (wq L (I.hok.fresh (al _)))];exact L
def tDispT (tk tv:TE):TE:=λσ H Q=>∀p,H p=none->tk σ (upd H p (.dT [])) λx H1=>tv σ H1 λv H2=>∃b ks,x=.ref b/\H2 b=some (.tup (ks.map kV))/\H2 p=some (.dT [])/\Q (.ref p) (upd H2 p (.dT [(ks,v)]))
theorem xww {k v:Expr}{pos:Pos}{tk tv:TE}(hu:X.A.units<cLine)(hk:PE X k tk)(hv:PE X v tv):PE X (.Dict [some k] [v] pos) (tDispT tk tv):=by intro pins s σ H Q I q;have G:=I.hok.fresh (al s.heap.objs.size);have I1:=I.laid (a:=s.heap.objs.size) (o:=.dT []) (h':=s.heap.push { cls:=.type "dict",data:=.dict #[] }) (t':=s.toks) (λ_ _ q=>ai _ q) (al _) (wxn s.heap I.big);refine wpAny_Dict_any rfl rfl (λz=>by cases z) (show 1<=15 by decide) ?_;refine pairTrees_cons_walk (thn (hk pins _ σ _ _ I1 (q _ G)) λu s1 ζ=>?_);obtain⟨x,H1,I2,rx,q1⟩:=ζ;refine thn (hv pins s1 σ H1 _ I2 q1) λw2 s2 ζ=>?_;obtain⟨y,H2,I3,ry,b,ks,ex,eb,ep,q2⟩:=ζ;refine pairTrees_nil_walk ?_;subst ex;cases(show u=Value.ref b from rx);obtain⟨z,J,xs,F,dd⟩:=dt_of I3.hok ep;cases F;unfold storeAll;rw[List.forIn_cons];refine ac (ac (wpAny_dictSet_heap (knd:=tupleKind (zv X.prog X.w)) (hsz:=aA _) hu (W0 I3.hok eb) dd λh' Z hs=>aq ?_));refine aq ?_;obtain⟨o',es,U,h1,h2,S,O,_,L⟩:=Z;refine⟨.ref _,_,uh I3 (by rw[ep];exact True.intro) hs ⟨o',h1⟩ (show ObjOk X.prog X.w (upd H2 s.heap.objs.size (.dT [(ks,y)])) h' s.heap.objs.size (.dT [(ks,y)]) from ⟨by show 1<=sizeLine;decide,J,[(ks,b,w2)],.cons ⟨rfl,?_,ry⟩ .nil,o',es,U,h1,h2,S,O,L⟩),rfl,q2⟩;rw[wg (ne_of eb ep (λz=>nomatch z))];exact eb
theorem Zd {K:Aa}(hK:X.K=K){e:Expr}{f:Str}{pos:Pos}{ta:TE}(he:PE X e ta)(hb:attributeBase e f X.env (eval e X.env)=eval e X.env):PE X (.Attribute e f pos) (tFld K ta f):=by subst hK;exact zh he hb
end
end L2
namespace L2
open PySem
namespace Hs
def rot (a:Nat):Nat:=(a*2 ^ 31)%18446744073709551616+a/2 ^ 33
def lane (a x:Nat):Nat:=(rot ((a+x*14029467366897019727)%18446744073709551616)*11400714785074694791)%18446744073709551616
def dOf (x:Nat):Nat:=(lane 2870177450012600261 x*839798700976720815)%18446744073709551616
noncomputable def byD:List Nat:=[732,925,295,798,488,178,681,694,887,760,450,140,643,849,722,412,915,102,605,928,811,684,374,877,64,567,257,130,13,956,646,336,839,26,529,219,92,918,608,298,801,491,181,54,247,570,260,763,453,326,143,16,209,532,222,725,415,288,171,494,687,377,880,250,443,133,959,649,339,842,405,95,921,611,804,677,367,57,560,883,573,766,639,456,329,19,522,212,845,911,728,601,291,794,484,174,807,873,690,563,253,756,446,136,9,525,215,718,408,98,924,487,177,680,370,60,886,449,952,139,642,332,835,205,22,88,914,101,604,294,797,50,876,566,256,759,322,12,838,528,218,721,411,284,167,800,490,683,556,373,246,439,129,762,452,955,645,518,335,208,401,91,724,917,607,480,170,363,53,686,879,569,442,132,635,325,15,648,841,404,94,597,287,803,869,56,559,249,752,765,958,831,18,521,211,714,920,793,483,173,676,366,882,755,445,948,135,638,328,201,84,717,407,910,97,600,290,163,46,679,369,872,562,252,125,318,8,641,331,834,524,397,214,87,280,603,293,796,486,359,49,242,565,758,448,951,11,514,204,720,410,913,476,166,682,875,748,438,128,631,321,954,644,837,710,527,400,90,593,283,916,799,672,362,865,52,555,245,878,944,761,634,324,827,14,517,207,596,286,789,479,169,42,558,248,751,441,131,4,957,520,210,713,403,906,93,159,172,675,365,868,55,121,947,637,327,830,393,83,276,909,599,289,792,482,355,45,238,871,561,754,627,444,317,7,510,200,833,523,716,589,406,279,472,162,795,678,551,241,434,124,757,950,640,513,203,706,396,86,719,912,475,165,668,358,48,874,940,127,630,320,823,10,836,902,89,592,282,785,38,864,554,244,747,437,0,953,826,516,206,709,399,272,155,788,478,168,671,361,234,51,117,750,440,943,633,323,196,389,79,712,402,905,595,468,285,158,351,41,674,364,867,557,430,120,313,3,829,519,82,585,275,791,481,44,547,237,753,946,819,636,509,199,702,392,715,908,781,598,471,161,664,354,870,743,433,936,123,626,316,6,949,832,705,395,898,85,588,278,34,667,357,860,47,550,240,113,629,319,822,512,202,75,281,784,474,164,37,230,243,746,436,939,126,192,708,398,901,591,464,154,347,670,360,863,553,426,116,309,942,632,825,698,515,388,78,581,271,904,594,787,660,477,350,40,543,233,866,749,622,312,2,505,195,828,711,584,274,777,467,157,673,236,739,429,119,945,198,701,391,894,81,907,790,160,663,353,856,43,546,109,935,625,315,818,5,508,71,897,587,277,780,470,343,33,226,859,549,239,742,432,305,122,188,821,511,704,394,267,460,150,783,473,666,539,356,229,422,112,435,938,628,191,384,74,900,590,153,656,346,36,862,552,745,115,618,308,501,824,890,707,580,270,773,463,786,852,669,542,232,735,425,941,814,504,194,697,387,77,903,776,466,156,659,349,39,105,738,428,931,118,621,311,184,1,67,390,893,80,583,273,146,29,352,855,545,235,108,301,314,817,507,197,700,70,263,779,469,662,535,225,418,741,431,934,624,497,187,380,703,896,769,586,459,149,652,342,32,665,858,731,548,421,111,614,304,937,820,693,383,73,576,266,899,782,345,848,35,538,228,744,307,810,500,190,63,269,772,462,152,655,25,861,734,424,927,114,617,180,696,386,889,76,579,142,658,348,851,541,414,231,104,297,930,620,310,813,503,376,193,66,259,892,582,775,465,338,28,531,221,854,544,737,610,427,300,493,183,506,699,262,455,145,661,224,727,417,107,933,623,816,689,379,69,572,895,778,651,341,844,31,534,857,923,740,613,303,806,496,186,59,885,575,265,768,458,148,21,847,537,227,730,420,110,176,809,499,189,692,382,255,72,138,461,151,654,344,217,100,423,926,616,306,179,372,62,385,888,578,268,771,334,24,850,540,733,606,296,489,812,502,695,568,258,451,141,774,840,657,530,220,723,413,103,736,929,802,619,492,182,685,375,65,891,764,454,144,647,337,27,853,416,919,106,609,299,815,378,881,68,571,261,134,17,340,843,30,533,223,726,932,805,495,185,688,251,767,457,960,147,650,213,96,729,419,922,612,485,302,175,368,58,691,381,884,574,447,264,137,330,20,653,846,536,409,99,602,292,615,808,498,371,61,564,254,577,770,333,23,526,216]
def apart:List Nat->Bool
 |[]=>true
 |[_]=>true
 |x::y::l=>Nat.ble (dOf x+40) (dOf y)&&apart (y::l)
theorem qk0:apart byD=true:=by decide +kernel
theorem byD_lt:(byD.all λx=>Nat.blt x 961)=true:=by decide +kernel
theorem xkw:byD.length=961:=by decide +kernel
theorem qxf:(byD.all λx=>Nat.ble 40 (dOf x)&&Nat.ble (dOf x+40) 18446744073709551616&&!(Nat.ble (dOf x) 15746002411462551884&&Nat.ble 15746002411462551884 (dOf x+40)))=true:=by decide +kernel
theorem qxp:∀ {l:List Nat},apart l=true->l.Pairwise λx y=>dOf x+40<=dOf y
 |[],_=>.nil
 |[_],_=>gc _ _
 |x::y::l,h=>by
  have h:(Nat.ble (dOf x+40) (dOf y)&&apart (y::l))=true:=h;rw[bv]at h;have ih:=qxp h.2;have a:=bR h.1;refine dM.mpr ⟨λz hz=>?_,ih⟩;rcases ae.mp hz with rfl|hz
  .exact a
  .have:=(dM.mp ih).1 z hz;lia
theorem pw_two {l:List Nat}(h:l.Pairwise λx y=>dOf x+40<=dOf y):∀x∈l,∀y∈l,x≠y->dOf x+40<=dOf y\/dOf y+40<=dOf x:=by
 induction h with
 |nil=>intro x G;cases G
 |@cons b l a t ih =>
  intro x G y F I;rcases ae.mp G with G|G
  .rcases ae.mp F with F|F
   .exact absurd (G.trans F.symm) I
   .rw[G];exact .inl (a y F)
  .rcases ae.mp F with F|F
   .rw[F];exact .inr (a x G)
   .exact ih x G y F I
theorem qvc {x:Nat}(h:x<961):x∈byD:=by
 apply cL;intro n;have G:byD.Nodup:=(qxp qk0).imp λ{a b} q e=>by rw[e]at q;lia
 have:=L2.quz (x::byD) (List.range 961) (bc.mpr ⟨n,G⟩) λv F=>by
  rcases ae.mp F with rfl|F
  .exact aW.mpr h
  .exact aW.mpr (Nat.blt_eq.mp (bJ.mp byD_lt v F))
 rw[aC,xkw,aR]at this;lia
theorem wv3 (a:Nat):rot a=(a%8589934592)*2147483648+a/8589934592:=by unfold rot;rw[show(18446744073709551616:Nat)=8589934592*2147483648 from rfl,show(2:Nat) ^ 31=2147483648 from rfl,Nat.mul_mod_mul_right]
theorem xvm {a b:Nat}(ha:a<18446744073709551616)(hb:b<18446744073709551616)(h:rot a=rot b):a=b:=by rw[wv3,wv3]at h;have J:a/8589934592<2147483648:=eQ ha;have G:b/8589934592<2147483648:=eQ hb;have I:=Nat.div_add_mod a 8589934592;have F:=Nat.div_add_mod b 8589934592;generalize a/8589934592=q at *;generalize b/8589934592=q' at *;generalize a%8589934592=r at *;generalize b%8589934592=r' at *;lia
theorem xwd {a:Nat}(ha:a<18446744073709551616):rot a<18446744073709551616:=by rw[wv3];have a1:a/8589934592<2147483648:=eQ ha;have a2:=dB a (show 0<8589934592 by decide);lia
theorem wwm {a:Nat}(ha:a<18446744073709551616):((a*11400714785074694791)%18446744073709551616*614540362697595703)%18446744073709551616=a:=by
 have h:(a*11400714785074694791*614540362697595703)%18446744073709551616=a:=by rw[fP,show 11400714785074694791*614540362697595703=1+18446744073709551616*379806830464837242 from rfl,Nat.mul_add,Nat.mul_one,show a*(18446744073709551616*379806830464837242)=18446744073709551616*(a*379806830464837242) by rw[Nat.mul_left_comm],fD];exact Nat.mod_eq_of_lt ha
 rw[Nat.mul_mod,Nat.mod_mod,<-Nat.mul_mod];exact h
theorem xvh {a b:Nat}(ha:a<18446744073709551616)(hb:b<18446744073709551616)(h:(a*11400714785074694791)%18446744073709551616=(b*11400714785074694791)%18446744073709551616):a=b:=by rw[<-wwm ha,<-wwm hb,h]
theorem wk7 {u x:Nat}:((u+x*14029467366897019727)%18446744073709551616*839798700976720815)%18446744073709551616=((u*839798700976720815)%18446744073709551616+x)%18446744073709551616:=by lia
theorem wwv {u v x y:Nat}(h:lane u x=lane v y):(u+x*14029467366897019727)%18446744073709551616=(v+y*14029467366897019727)%18446744073709551616:=by unfold lane at h;have a:=dB (u+x*14029467366897019727) (show 0<18446744073709551616 by decide);have b:=dB (v+y*14029467366897019727) (show 0<18446744073709551616 by decide);exact xvm a b (xvh (xwd a) (xwd b) h)
theorem two_inj {x y x' y':Nat}(hx:x<961)(hx':x'<961)(hy:y<=40)(hy':y'<=40)(y1:1<=y)(y1':1<=y')(h:lane (lane 2870177450012600261 x) y=lane (lane 2870177450012600261 x') y'):x=x'/\y=y':=by
 have e:=wwv h;have L:=wk7 (u:=lane 2870177450012600261 x) (x:=y);have G:=wk7 (u:=lane 2870177450012600261 x') (x:=y');have J:dOf x=(lane 2870177450012600261 x*839798700976720815)%18446744073709551616:=by unfold dOf;rfl
 have I:dOf x'=(lane 2870177450012600261 x'*839798700976720815)%18446744073709551616:=by unfold dOf;rfl
 rw[e,G,<-J,<-I]at L;clear e G h J I;have q:=bJ.mp qxf x (qvc hx);have F:=bJ.mp qxf x' (qvc hx');rw[bv,bv]at q F;have Z:=bR q.1.1;have S:=bR q.1.2;have U:=bR F.1.1;have O:=bR F.1.2;by_cases ne:x=x'
 .subst ne;exact⟨rfl,⋯⟩
 .have:=pw_two (qxp qk0) x (qvc hx) x' (qvc hx') ne;lia
theorem not_end {x y:Nat}(hx:x<961)(y1:1<=y)(hy:y<=40):(lane (lane 2870177450012600261 x) y+2870177450013471924)%18446744073709551616≠18446744073709551615:=by
 intro h;have L:lane (lane 2870177450012600261 x) y<18446744073709551616:=dB _ ⋯;have G:lane (lane 2870177450012600261 x) y=lane 9148689060682678900 0:=by
  have:lane 9148689060682678900 0=15576566623696079691:=by decide +kernel
  rw[this];lia
 have e:=wwv G;have O:=wk7 (u:=lane 2870177450012600261 x) (x:=y);have I:=wk7 (u:=9148689060682678900) (x:=0);have J:dOf x=(lane 2870177450012600261 x*839798700976720815)%18446744073709551616:=by unfold dOf;rfl
 rw[e,I,<-J,show(9148689060682678900*839798700976720815)%18446744073709551616=15746002411462551884 by decide +kernel]at O;clear e I h J L G;have q:=bJ.mp qxf x (qvc hx);rw[bv,bv]at q;have U:=bR q.1.1;have S:=bR q.1.2;have F:=q.2;have a:Nat.ble (dOf x) 15746002411462551884=true:=Nat.ble_eq_true_of_le ⋯;have b:Nat.ble 15746002411462551884 (dOf x+40)=true:=Nat.ble_eq_true_of_le ⋯;rw[a,b]at F;cases F
end Hs
def thG (M P1 P2 P5 C:Nat)(hashes:List Int):Int:=(λacc:Nat=>if acc==M-1 then 1546275796 else if acc<2 ^ 63 then(acc:Int) else(acc:Int)-M) ((hashes.foldl (λacc h=>((((acc+(h%(M:Int)).toNat*P2)%M)*2 ^ 31)%M+((acc+(h%(M:Int)).toNat*P2)%M)/2 ^ 33)*P1%M) P5+(hashes.length ^^^ (P5 ^^^ C)))%M)
theorem th_eq (hs:List Int):Builtin.Tuple.tupleHashOf hs=thG (2 ^ 64) 11400714785074694791 14029467366897019727 2870177450012600261 3527539 hs:=rfl
def laM (M P1 P2 a x:Nat):Nat:=(((a+x*P2)%M)*2 ^ 31%M+((a+x*P2)%M)/2 ^ 33)*P1%M
def finM (M:Nat)(acc:Nat):Int:=if acc==M-1 then(1546275796:Int) else if acc<2 ^ 63 then(acc:Int) else(acc:Int)-M
theorem xzu (M P1 P2 P5 C:Nat)(a b:Int):thG M P1 P2 P5 C [a,b]=finM M ((laM M P1 P2 (laM M P1 P2 P5 (a%(M:Int)).toNat) (b%(M:Int)).toNat+([a,b].length ^^^ (P5 ^^^ C)))%M):=by unfold thG laM finM;rw[List.foldl_cons,List.foldl_cons,List.foldl_nil]
theorem p64:(2:Nat) ^ 64=18446744073709551616:=rfl
theorem xqf (a x:Nat):laM (2 ^ 64) 11400714785074694791 14029467366897019727 a x=Hs.lane a x:=by unfold laM Hs.lane Hs.rot;rw[p64]
theorem xc:(0+1+1 ^^^ (2870177450012600261 ^^^ 3527539):Nat)=2870177450013471924:=by decide +kernel
theorem xvv {u:Nat}(ne:u≠18446744073709551615)(lu:u<18446744073709551616):reduceHash (finM (2 ^ 64) u)=if u<9223372036854775808 then(u:Int) else(u:Int)-18446744073709551616:=by
 unfold finM;rw[p64,ag (by simpa using ne),show(2:Nat) ^ 63=9223372036854775808 from rfl];unfold reduceHash;by_cases c:u<9223372036854775808
 .rw[ak c,ak (by simp;lia),ag (by simp),ak c]
 .rw[ag c,ak (by simp;lia),ag (by simp;lia),ag c];lia
theorem hashI:∀x:Int,0<=x->x<=960->hashInt x=x:=λx h1 h2=>by
 have r:rawHash x=x:=by
  unfold rawHash;dsimp only;have e:((x.natAbs:Int)%((2 ^ 61-1:Nat):Int))=x:=by rw[show(2 ^ 61-1:Nat)=2305843009213693951 from rfl];lia
  rw[e,ag (show ¬ x<0 by lia),ag (by simp;lia)]
 unfold hashInt;rw[r,ag (by simp;lia)]
theorem wxp {P:Ac}{w:Ah}{a b:Int}(a0:0<=a)(a1:a<=960)(b0:1<=b)(b1:b<=40):Zs P w [.inl a,.inl b] =
  if(Hs.lane (Hs.lane 2870177450012600261 a.toNat) b.toNat+2870177450013471924)%18446744073709551616<9223372036854775808 then(((Hs.lane (Hs.lane 2870177450012600261 a.toNat) b.toNat+2870177450013471924)%18446744073709551616:Nat):Int) else(((Hs.lane (Hs.lane 2870177450012600261 a.toNat) b.toNat+2870177450013471924)%18446744073709551616:Nat):Int)-18446744073709551616:=by
 have F:=Hs.not_end (x:=a.toNat) (y:=b.toNat) ⋯ ⋯ ⋯;have L:Zs P w [.inl a,.inl b]=reduceHash (Builtin.Tuple.tupleHashOf [hashInt a,hashInt b]):=by unfold Zs;rfl
 have J:(a%((2 ^ 64:Nat):Int)).toNat=a.toNat:=by rw[p64];lia
 have I:(b%((2 ^ 64:Nat):Int)).toNat=b.toNat:=by rw[p64];lia
 rw[L,hashI a a0 a1,hashI b ⋯ ⋯,th_eq,xzu,J,I,xqf,xqf,aC,aC,eU,xc];have G:=dB (Hs.lane (Hs.lane 2870177450012600261 a.toNat) b.toNat+2870177450013471924) (show 0<18446744073709551616 by decide);rw[show(Hs.lane (Hs.lane 2870177450012600261 a.toNat) b.toNat+2870177450013471924)%2 ^ 64=(Hs.lane (Hs.lane 2870177450012600261 a.toNat) b.toNat+2870177450013471924)%18446744073709551616 by rw[p64]];exact xvv F G
theorem xws {P:Ac}{w:Ah}{a b a' b':Int}(a0:0<=a)(a1:a<=960)(b0:1<=b)(b1:b<=40)(a0':0<=a')(a1':a'<=960)(b0':1<=b')(b1':b'<=40)(h:Zs P w [.inl a,.inl b]=Zs P w [.inl a',.inl b']):a=a'/\b=b':=by
 rw[wxp a0 a1 b0 b1,wxp a0' a1' b0' b1']at h;have G:Hs.lane (Hs.lane 2870177450012600261 a.toNat) b.toNat<18446744073709551616:=dB _ ⋯;have F:Hs.lane (Hs.lane 2870177450012600261 a'.toNat) b'.toNat<18446744073709551616:=dB _ ⋯;have e:Hs.lane (Hs.lane 2870177450012600261 a.toNat) b.toNat=Hs.lane (Hs.lane 2870177450012600261 a'.toNat) b'.toNat:=by generalize Hs.lane (Hs.lane 2870177450012600261 a.toNat) b.toNat=u at *;generalize Hs.lane (Hs.lane 2870177450012600261 a'.toNat) b'.toNat=v at *;split at h <;> split at h <;> lia
 have:=Hs.two_inj (x:=a.toNat) (x':=a'.toNat) (y:=b.toNat) (y':=b'.toNat) ⋯ ⋯ ⋯ ⋯ ⋯ ⋯ e;lia
end L2
namespace L2
open PySem PySem.Spec PySem.Calls PyProof.Rows
section
variable {Y:Cx}{kx vx:Expr}{tk te:TE}{c:Code}{p:Aj}{σ:St}{H:Hp}{pins:List (Aj×Obj)}{s:Ab}
def dctS (kx vx:Expr)(D:Aj)(env:Env)(c:Code):Sem PySem.Fin:=(eval kx env >>= λkv=>holding [kv] (eval vx env) >>= λvv=>standAt { kx.pos with endLine:=vx.pos.endLine,endCol:=vx.pos.endCol } >>= λ_=>holding [kv,vv] (dictSet D kv vv)) >>= λ_=>again c
theorem xwz (kx vx target iter:Expr)(scope:Scope)(pos:Pos)(it:Ag)(D:Aj)(env:Env) :
  compTurn (.DictComp kx vx [⟨target,iter,[],0⟩] scope pos) 0 it (.ref D) env=(standAt iter.pos >>= λ_=>pyNext it >>= λr=>match r with|none=>pure (.done .next)|some v=>letOwnedTupleGo target it v >>= λ_=>assign target env v >>= λ_=>dctS kx vx D env (.compLoop (.DictComp kx vx [⟨target,iter,[],0⟩] scope pos) 0 it (.ref D) env)):=by rfl
theorem xwv {ys:List (Key×V)}{N:List (Key×V)->Hp->Prop}(hk:PE Y kx tk)(hv:PE Y vx te)(J:Inv Y pins σ H s)(hz:ys.length<sizeLine)(h:tk σ H λy H4=>te σ H4 λz H5=>∃k,y=kV k/\H5 p=some (.dK ys)/\N (v8 ys k z) (upd H5 p (.dK (v8 ys k z)))) :
  wpAny (model Y.prog Y.w) Y.A (dctS kx vx p Y.env c) (λr s5=>r=Fin.again c/\∃H5,Inv Y pins σ H5 s5/\∃zs,N zs H5) Y.xe s:=by
 refine ac (ac (bh (hk _ s _ H _ J h) (λkv S ad=>?_) λ_ _ z=>z));obtain⟨y,H4,J6,Z,h4⟩:=ad;refine ac (cf (bh (hv _ S _ H4 _ J6 h4) (λvv s7 ab=>?_) λ_ _ z=>z));obtain⟨z,H5,L,U,k,rfl,G,n5⟩:=ab;refine ac (dn (cf ?_));obtain⟨O,hd,vs,F,dd⟩:=Y9 L.hok G;have hl:(v8 ys k z).length<=sizeLine:=by have:=uz ys k z;lia
 refine wpAny_dictSet_pairs (hsz:=by rw[<-F.length];exact O) (Zv Z) dd λh' I hs=>aq ⟨rfl,_,?_,_,n5⟩;have he:∃q,h'.get? p=some q:=let ⟨q,_,_,hq,_⟩:=I;⟨q,hq⟩;exact uh L (by rw[G];exact True.intro) hs he (Wu hl hd (F.put k U) I)
end
section
variable {X:Cx}{pins:List (Aj×Obj)}{σ:St}{H:Hp}{s2:Ab}{scope:Scope}{cl:List (Str×Aj)}{x:Str}{M:List Nat}{fp:List Aj}{C:Aj}{h1:Heap}{tk:Nat}
theorem Inv.compD (I:Inv X pins σ H s2)(hc:CapAll X.env cl)(hh:HasAll cl scope.names)(hm:CapIx X scope cl M)(hk:scope.kind=.function)(hC:s2.heap.objs.size<C)(keep:∀b o,s2.heap.get? b=some o->h1.get? b=some o) (hn:h1.Ns C λ_=>none) (hD:h1.get? s2.heap.objs.size=some { cls:=.type "dict",data:=.dict #[] })(hfp:∀b∈fp,Qx X pins H b) (hob:∀b∈fp,∃o,s2.heap.get? b=some o) :
  Inv (ku X scope cl x M C s2 H fp (X.pn++pins)) [] (kj M σ none) (upd H s2.heap.objs.size (.dK [])) { s2 with heap:=h1,toks:=tk } :=
 I.compG (xs:=[x]) hc hh hm hk hC keep hn ⟨aA _,aY.mpr (aZ (aD I.big)),[],.nil,by
  obtain⟨o,es,ep,ho,r⟩:=Heap.DictOf.new (knd:=zv X.prog X.w) s2.heap
  have:o={ cls:=.type "dict",data:=.dict #[] }:=au (ho.symm.trans (ax _ rfl))
  exact⟨o,es,ep,by rw[this];exact hD,r⟩⟩ hfp hob
end
def wqw (J:It)(M:List Nat)(tk te:TE)(σ:St)(H1:Hp)(Q:VK):Prop:=∀p,H1 p=none->∃W:Nat->Nat->List (Key×V)->Hp->Prop,(∃m,W 0 m [] (upd H1 p (.dK []))) /\
 ∀i m ys H2,W i m ys H2->H2 p=some (.dK ys)/\ys.length<sizeLine/\((J.stop i H2/\Q (.ref p) H2)\/(J.go i H2/\∀v H3,J.yld i H2 v H3 ->
  tk (kj M σ (some v)) H3 λy H4=>te (kj M σ (some v)) H4 λz H5=>∃k,y=kV k/\H5 p=some (.dK ys)/\∃m',m'<m/\W (i+1) m' (v8 ys k z) (upd H5 p (.dK (v8 ys k z)))))
def tDComp (M:List Nat)(wi:TI)(tk te:TE):TE:=λσ H Q=>wi σ H λJ H1=>wqw J M tk te σ H1 Q
section
variable {X:Cx}{kx vx iter:Expr}{x:Str}{px pos:Pos}{scope:Scope}{cl:List (Str×Aj)}{M:List Nat}{wi:TI}{tk te:TE}{pins:List (Aj×Obj)}{σ:St}
theorem wvh {tg:Expr}(hclos:closureFor scope X.env=pure cl)(hhas:HasAll cl scope.names)(hk:scope.kind=.function)(hnames:∀y∈scope.names,y.2=.local->scope.names.lookup y.1=some .local) (hi:PI X tg iter wi) (hs:∀z,foldedSetIterable iter X.env z=pure z)
  {use:Option (Ag->Sem Unit)} {QQ:Ag->Ab->Prop} {s:Ab} {H:Hp} {ps:Pos} {R:It->Hp->Prop} (I:Inv X pins σ H s) (h:wi σ H R)(go:∀(it:Aj) (fp:List Aj) (tn:Nat->Heap->Prop) (J:It) (H1:Hp) (s2:Ab) (C:Aj) (h3:Heap) (tn2:Nat),Inv X pins σ H1 s2->Turn X.prog X.w X.K tg J fp it tn->tn 0 h3->(∀b∈fp,Qx X pins H1 b)->(∀b∈fp,b<s2.heap.objs.size)->(∀b∈fp,∃o,s2.heap.get? b=some o)->R J H1->s2.heap.objs.size<C ->
   (∀b o,s2.heap.get? b=some o->h3.get? b=some o)->(h3.Ns C λ_=>none)->h3.get? s2.heap.objs.size=some { cls:=.type "dict",data:=.dict #[] } ->
   codeAny ↑[X] X.A (.compLoop (.DictComp kx vx [⟨tg,iter,[],0⟩] scope pos) 0 (.ref it) (.ref s2.heap.objs.size) (compEnvC scope cl C X.env)) (compPost ↑[X] X.A X.xe use QQ (.ref s2.heap.objs.size) C) { s2 with heap:=h3,toks:=tn2 }) :
  wpAny ↑[X] X.A (comprehension (.DictComp kx vx [⟨tg,iter,[],0⟩] scope pos) scope X.env ps newDict false (eval iter X.env) use) QQ X.xe s:=by
 refine wpAny_comprehension_free (use:=use) rfl hs hclos hk hnames ?_;refine thn (hi pins s σ H _ I h) λv s1 h1=>thn h1 λah s2 h2=>?_;obtain⟨it,fp,tn,J,H1,rfl,I2,T,G,ad,hR⟩:=h2;refine cR ?_;refine wpAny_newFunctionEnv hhas.nocell (by intro y hy;cases hy) (λh3 L F=>?_) hk;dsimp only at L F ⊢;generalize hH2:s2.heap.push { cls:=.type "dict",dict:=none,data:=.dict #[] }=G2 at L F ⊢;have hC:G2.objs.size=s2.heap.objs.size+1:=by rw[<-hH2,fu]
 have O:s2.heap.objs.size<G2.objs.size:=by lia
 have ab:∀b o,s2.heap.get? b=some o->h3.get? b=some o:=λb o e=>by rw[F.2 b (aD (bw (ao e) O))];exact ai _ (hH2▸ai _ e)
 have hD:h3.get? s2.heap.objs.size=some { cls:=.type "dict",data:=.dict #[] }:=by rw[F.2 _ (aD O)];exact ai _ (hH2▸ax _ rfl)
 have U:=T.keep 0 _ _ G λb _ o e=>ab b o e;have Z:=λtn2=>go it fp tn J H1 s2 G2.objs.size h3 tn2 I2 T U ad (λb S=>let ⟨o,e,_⟩:=T.obj 0 _ G b S;ao e) (λb S=>let ⟨o,e,_⟩:=T.obj 0 _ G b S;⟨o,e⟩) hR O ab L hD;exact codeAny_compStart_dict (Z _) (T.self _ 0 _ _ _ U (Z _))
end
section
variable {X:Cx}{kx vx iter:Expr}{x:Str}{px pos:Pos}{scope:Scope}{cl:List (Str×Aj)}{M:List Nat}{wi:TI}{tk te:TE}
theorem wyv (hc:X.calm=true)(hclos:closureFor scope X.env=pure cl)(hcap:CapAll X.env cl)(hhas:HasAll cl scope.names)(hix:CapIx X scope cl M)(hk:scope.kind=.function)(hnames:∀y∈scope.names,y.2=.local->scope.names.lookup y.1=some .local) (hx:scope.names.lookup x=some .local) (hnd:(Y5 X x M).Nodup) (hi:PI X (.Name x px) iter wi)(hkx:∀C s2 H2 fp pn,PE (ku X scope cl x M C s2 H2 fp pn) kx tk) (he:∀C s2 H2 fp pn,PE (ku X scope cl x M C s2 H2 fp pn) vx te) (hs:∀z,foldedSetIterable iter X.env z=pure z)
  {use:Option (Ag->Sem Unit)} {QQ:Ag->Ab->Prop} {pins:List (Aj×Obj)} {s:Ab} {σ:St} {H:Hp} {Q:VK} {ps:Pos} (I:Inv X pins σ H s) (h:wi σ H λJ H1=>wqw J M tk te σ H1 Q)(fin:∀(C:Aj) (s2 s4:Ab) (H1 H2:Hp) (fp:List Aj),Inv X pins σ H1 s2->s2.heap.objs.size<C->(∀b∈fp,Qx X pins H1 b)->Inv (ku X scope cl x M C s2 H1 fp (X.pn++pins)) [] (kj M σ none) H2 s4->Q (.ref s2.heap.objs.size) H2 ->
   compPost ↑[X] X.A X.xe use QQ (.ref s2.heap.objs.size) C (.ok .next) s4) :
  wpAny ↑[X] X.A (comprehension (.DictComp kx vx [⟨.Name x px,iter,[],0⟩] scope pos) scope X.env ps newDict false (eval iter X.env) use) QQ X.xe s:=by
 refine wvh hclos hhas hk hnames hi hs I h λit fp tn J H1 s2 C h3 a0 G T t3 F U ad hR L ab ah hD=>?_;obtain⟨W,⟨m0,w0⟩,hW⟩:=hR s2.heap.objs.size (G.hok.fresh (al _));have S:(relabel scope X.env).names.lookup x=some .local:=eN hx;refine Zc (Y:=ku X scope cl x M C s2 H1 fp (X.pn++pins)) (V:=λi n H2=>∃ys,W i n ys H2) (Qd:=Q (.ref s2.heap.objs.size)) (REST:=dctS kx vx s2.heap.objs.size (compEnvC scope cl C X.env) _) T hc (λ_ _ z=>z) (xwz ..) rfl rfl (xy (i:=0) hnd rfl (.inl S) (.inr S)) (qwn hcap G L F U) (λi n H2 ⟨ys,w⟩=>?_) (λH2 s4 J4 q=>fin C s2 s4 H1 H2 fp G L F J4 q) (G.compD hcap hhas hix hk L ab ah hD F ad) ⟨[],w0⟩ t3 λb Z=>by rw[wg (aD (U b Z))];exact(F b Z).1
 obtain⟨hp,hz,ap⟩:=hW i n ys H2 w;refine ap.imp id λζ=>?_;obtain⟨an,hy⟩:=ζ;refine ⟨an,λv H3 yl=>⟨λσ4 H4=>σ4=kj M σ (some v)/\H3=H4,⟨rfl,rfl⟩,λ_ _ e=>?_⟩⟩;obtain⟨rfl,rfl⟩:=e;refine⟨Yz M σ v,λa1 s' J=>?_⟩;refine bh (xwv (N:=λzs O=>∃m',m'<n/\W (i+1) m' zs O) (hkx _ _ _ _ _) (he _ _ _ _ _) J hz (hy v H3 yl)) (λr s5 ⟨e,O,J5,zs,m',hm,w'⟩=>⟨e,O,J5,m',hm,zs,w'⟩) λ_ _ z=>z
theorem qq2 {i:Nat}{y:Str}{py spos:Pos}(hN:X.N.Nodup)(hyi:X.N[i]?=some y)(hyl:Loc X.env.scope y)(hc:X.calm=true)(hclos:closureFor scope X.env=pure cl)(hcap:CapAll X.env cl)(hhas:HasAll cl scope.names)(hix:CapIx X scope cl M)(hk:scope.kind=.function)(hnames:∀y∈scope.names,y.2=.local->scope.names.lookup y.1=some .local) (hx:scope.names.lookup x=some .local) (hnd:(Y5 X x M).Nodup) (hi:PI X (.Name x px) iter wi)(hkx:∀C s2 H2 fp pn,PE (ku X scope cl x M C s2 H2 fp pn) kx tk) (he:∀C s2 H2 fp pn,PE (ku X scope cl x M C s2 H2 fp pn) vx te) (hs:autoParam (∀z,foldedSetIterable iter X.env z=pure z) aU3._auto_1)(hsw:autoParam (swapsWith (.DictComp kx vx [⟨.Name x px,iter,[],0⟩] scope pos) (some (.Name y py)) spos.line X.env=pure true) aU4._auto_1) (hyf:autoParam (X.fn y=true\/X.env.scope.names.lookup y=some .local) aU0._auto_1) :
  PS X (.Assign [.Name y py] (.DictComp kx vx [⟨.Name x px,iter,[],0⟩] scope pos) spos) (tAsg (tDComp M wi tk te) (wxr i)):=by
 intro pins s σ H D I h;rw[eC _ _ _ _ hsw];refine ac (dn (ac ?_));refine ac (bh (wyv hc hclos hcap hhas hix hk hnames hx hnd hi hkx he hs (use:=some (assign (.Name y py) X.env)) (QQ:=λ_ s'=>SP X pins D .next s') I h λC s2 O H1 H2 fp G J a1 J4 U=>?_) (λ_ s' U=>aq (aq U)) λ_ _ e=>e);have F:Inv X pins σ H2 O:=G.uncomp (h':=O.heap) (bK J) a1 J4 (fJ _ _);have ah:H2 C=none:=J4.free;obtain⟨mC,a0,_⟩:=J4.loc;obtain⟨S,a8,a9,ap,ad⟩:=id a0;have ab:C≠X.env.locals:=λz=>aU _ (bw J (z▸G.lt));have a3:X.s₀.heap.objs.size<=C:=bB G.sz (bK J);have a6:∀y c,X.env.cells.lookup y=some c->c≠C:=λy c e z=>by obtain⟨v,o,L,_⟩:=G.cell y c e;exact aU _ (bw J (z▸ao L))
 have a4:∀p∈X.pn++pins,p.1≠C:=λp Z z=>aU _ (bw J (z▸ao (G.pin p Z).1));have bf:C∉frs X.stack:=λz=>by
  rcases ae.mp (G.stkSub C z) with q|q
  .exact ab q
  .obtain⟨_,o,L,_⟩:=G.funs.mem (b:=C) q;exact aU _ (bw J (ao L))
 have a2:C∉X.fs:=λz=>by obtain⟨_,o,L,_⟩:=G.funs.mem (b:=C) z;exact aU _ (bw J (ao L))
 have bb:Inv X (pins++[(C,S)]) σ H2 O:=⟨F.ok,F.os,F.bare,F.base,F.loc,F.cell,F.free,F.freeC,λp Z=>by
  rcases ba.mp Z with q|q
  .exact F.pin p (bW _ q)
  .rcases ba.mp q with q|q
   .exact F.pin p (aJ _ q)
   .rw[am.mp q]
    exact⟨ap,ah,ab,a2,λv z=>by rw[ad.1]at z;cases z⟩,F.hok,F.len⟩
 show wpAny _ _ (assign (.Name y py) X.env (.ref s2.heap.objs.size)) _ _ _;refine dP (Qw bb hN hyi hyl (show RelV (.ref s2.heap.objs.size) (.ref s2.heap.objs.size) from rfl) (λs5 I5=>?_) hyf);have a7:=(I5.pin (C,S) (aJ _ (aJ _ (.head _)))).1;exact⟨mC,⟨S,a8,a9,a7,ad⟩,λh' an=>⟨_,H2,I5.unpinned.but ah a3 ab a6 a4 an,U⟩⟩
end
end L2
namespace L2
open PySem PySem.Spec PyProof.Rows
section
def MissR (K:Aa)(C D:Aj):Prop:=∀ {M:Model} {A:Ae} {E:Ag->Ab->Prop} {h:Heap} {g:Array GenState} {d:Drawn} {t:Nat} {os:OsState} {e:Aj} {oe:Obj} {Q:Bool->Ab->Prop},
 K.In h->h.get? e=some oe->oe.cls=.ref C->Q false ⟨h,g,d,t,os⟩->wpAny M A (excMatches (.ref e) (.ref D)) Q E ⟨h,g,d,t,os⟩
theorem w8 {K:Aa}{C D:Aj}(d:ExcC K D)(hm:W.mroIn K C (.ref D)=some false):MissR K C D:=by
 intro M A E h g dr t S e U Q X G J q;obtain⟨tl,N,a1,a2,a3,a4,a5,a6,a7,a8,a9,b0,b1,b2,b3,b5,Z,F,hN,ab,T⟩:=qu2 X d.q;have O:=T.hasType cG.hasBase;have I:(Value.ref D::tl).contains (.type "BaseException")=true:=by rw[List.contains_cons,O,Bool.or_true]
 have L:W.Looks M h (isSubtype (.ref C) (.ref D)) false:=W.looks_mroIn X hm;have f:=tc_notTuple;unfold excMatches
 repeat (first | (with_reducible refine wpAny_loadPart_at G ?_;rw[J]) | with_reducible refine wpAny_loadPart_at F ?_ | (with_reducible refine wpAny_isSubtype_exc F ?_;rw[I]) | with_reducible refine L.at ?_ | wp_step)
 exact q
section
variable {X:Cx}{pins:List (Aj×Obj)}{σ:St}{H H':Hp}{s s':Ab}{e:Aj}
end
section
variable {X:Cx}{x x1:Str}{D0 D1:Aj}{np hpos np1 hpos1 pos:Pos}{b₀ b₁:Stmt}{body suite suite1:List Stmt}{tb:(St->XK)->TS}{th th1:TS}
end
end
section
inductive PHs (X:Cx):List ExceptHandler->List (Aj×TS)->Prop
 |nil:PHs X [] []
 |cons {x:Str} {D0:Aj} {np hpos:Pos} {b₀:Stmt} {suite:List Stmt} {th:TS} {hs:List ExceptHandler} {trs:List (Aj×TS)} (hg:Gl X x) (hm:X.mg x=some (.ref D0)) (hh:∀e,PSs (X.handling e) (b₀::suite) th) (r:PHs X hs trs) (hdb:(x==("__debug__" : Str))=false) :
  PHs X (.ExceptHandler (some (.Name x np)) none (b₀::suite) hpos::hs) ((D0,th)::trs)
def CatL (K:Aa)(C:Aj)(D:Ends)(σ:St)(H:Hp):List (Aj×TS)->Prop
 |[]=>False
 |p::t=>(qug K C p.1/\p.2 D σ H)\/(MissR K C p.1/\CatL K C D σ H t)
section
variable {X:Cx}{pins:List (Aj×Obj)}{σ:St}{H H':Hp}{s s':Ab}{e:Aj}
theorem landN {E:XK}{ev:Ag}{hs:List ExceptHandler}{trs:List (Aj×TS)}{D:Ends}(I:Inv X pins σ H s)(hst:X.stack=X.env::X.outer)(hfr:X.env.frame=some X.env.locals)(hx:CXE X.prog X.w X.stack H s E ev s') (hE:∀c d H',E c d H'->∃C,c=.ref C/\CatL X.K C D σ H' trs) (hP:PHs X hs trs) :
  wpAny ↑[X] X.A (noteFrame ev X.env) (λ_ s2=>wpAny ↑[X] X.A (setFlight ev none) (λ_ s3 =>
   wpAny ↑[X] X.A (handleBy ev X.env hs) (SP X pins D) X.xe s3) X.xe s2) X.xe s':=by
 obtain⟨a,C,a0,B,H',rfl,a8,bo,J,a9,ab,a1,q⟩:=hx;obtain⟨C1,G,S⟩:=hE _ _ _ q;cases G;have mk:∀(F:Heap),Heap.FlyingW B X.stack a (.ref C) a0 F->s'.heap.UpToSlots F->Inv X pins σ H' { s' with heap:=F }:=λF fl up=>by
  refine I.call' (s':={ s' with heap:=F }) (ch:=[]) a8 ⟨λb o e n nb _=>?_,λb o e n L _=>?_,λb o e n _=>J.free b o e n nin,λb o e _=>?_,J.tups,J.frzs,J.tbls⟩ (a9.kept fl.1) bo (λb z=>nomatch z)
  .obtain⟨o',G,e2⟩:=a1 b o e nb;rw[e2 n]at G;exact fl.1 b o G
  .obtain⟨sl,e2⟩:=J.slot b o e n L nin;obtain⟨_,U,O,Z⟩:=ab.2.2.1.mem (b:=b) L;obtain⟨ap,e4⟩:=up b U O Z;rw[e2]at O;have e5:=au O;exact⟨ap,by show F.get? b=_;rw[e4,<-e5]⟩
  .by_cases L:b∈frs X.stack
   .obtain⟨_,U,O,Z⟩:=ab.2.2.1.mem (b:=b) L;obtain⟨ap,e4⟩:=up b U O Z;exact⟨_,e4⟩
   .obtain⟨o',G,_⟩:=a1 b o e L;exact⟨o',fl.1 b o' G⟩
 have bf:X.A.frames=some (X.env::X.outer):=by rw[<-hst];exact I.ok.frames
 have bk:Heap.FlyingW B (X.env::X.outer) a (.ref C) a0 s'.heap:=by rw[<-hst];exact ab
 refine wpAny_looks_onW bf hfr bk λh4 bl an=>?_;refine wpAny_landsW bl λh5 ad ah=>?_;have I5:=mk h5 (by rw[hst];exact ad) (an.trans ah);have a4:=I5.handling a;obtain⟨ob,a3,a2⟩:=ad.there;obtain⟨hp,gg,dd,tk,os⟩:=s';clear hE
 induction hP with
 |nil=>exact S.elim
 |@cons x D0 np hpos b₀ suite th hs trs hg hm hh r hdb ih =>
  rcases S with⟨bm,a7⟩|⟨bb,S⟩
  .refine eZ (eB (Qj (X:=X.handling a) a4 hg hm ?_ hdb)) (by intro z;cases z);refine bm (h:=h5) I5.kIn a3 a2 ?_;refine codeAny_handlers_suite ?_;refine lands_againW ad λF bp a6=>?_;have I6:=(mk F (by rw[hst];exact bp) ((an.trans ah).trans a6)).handling a;exact bh (hh a pins _ σ H' D I6 a7) (λf s2 h2=>h2.unhandling I.ok) λ_ _ z=>z.elim
  .refine eZ (eB (Qj (X:=X.handling a) a4 hg hm ?_ hdb)) (by intro z;cases z);refine bb (h:=h5) I5.kIn a3 a2 ?_;exact ih S
end
def tTryN (K:Aa)(trs:List (Aj×TS))(tb:(St->XK)->TS):TS:=λD σ H=>tb (λσ' c _ H'=>∃C,c=.ref C/\CatL K C D σ' H' trs) D σ H
section
variable {X:Cx}{pos:Pos}{body:List Stmt}{tb:(St->XK)->TS}{h1:ExceptHandler}{hs1:List ExceptHandler}{trs:List (Aj×TS)}
theorem xv3 (hst:X.stack=X.env::X.outer)(hfr:X.env.frame=some X.env.locals)(hb:∀(pn:List (Aj×Obj)) (xe:Ag->Ab->Prop) (E:St->XK),uf (X.trying pn xe) E->PassesOwn ↑[X] X.A X.env xe->PSs (X.trying pn xe) body (tb E)) (hP:PHs X (h1::hs1) trs) :
  PS X (.Try body (h1::hs1) [] [] pos) (tTryN X.K trs tb):=by
 intro pins s σ H D I h;refine wpAny_Try_except ?_;refine bh (hb (X.pn++pins) (λe J=>wpAny ↑[X] X.A (noteFrame e X.env) (λ_ G=>wpAny ↑[X] X.A (setFlight e none) (λ_ F =>
   wpAny ↑[X] X.A (handleBy e X.env (h1::hs1)) (SP X pins D) X.xe F) X.xe G) X.xe J) _ ?_ PassesOwn.looking [] s σ H D (I.trying _) h) (λf L S=>?_) λ_ _ z=>z
 .intro ad Z H1 L e ab U O;exact landN (X:=X) (U.untrying I.ok) hst hfr O (λc d H' q=>q) hP
 .have h2:=S.untrying I.ok;cases f with
  |next=>exact di h2
  |brk=>exact h2
  |cont=>exact h2
  |ret u=>exact h2
end
end
section
theorem wyx (bs:List Bool):(List.range bs.length).any (λi=>bs.getD i false)=bs.any id:=by
 rw[cN,dE,dE];constructor
 .rintro⟨i,hi,h⟩;have F:=aW.mp hi;rw[av,aj F]at h;exact⟨bs[i],bH F,h⟩
 .rintro⟨b,G,h⟩;obtain⟨i,hi,rfl⟩:=bD G;refine⟨i,aW.mpr hi,?_⟩;rw[av,aj hi];exact h
section
variable {X:Cx}{K:Aa}
theorem qkg (hc:X.calm=true)(hK:X.K=K):j9 X (.builtin "any") (λxs H Q=>∃(p:Aj) (bs:List Bool),xs=[.ref p]/\SqL K H p (bs.map V.bl)/\Q (.bl (bs.any id)) H):=by
 subst hK;intro pins s σ H xs us Q I r h;obtain⟨p,bs,rfl,hS,q⟩:=h;obtain⟨u,rfl,ru⟩:=uu r;cases(show u=Value.ref p from ru);obtain⟨G,Z,⟨o,n,U,J,e3,e4⟩,hz⟩:=I.list hS;have O:=qvp Z;have L:s.heap.IsList p G.toArray:=⟨o,U,J,n,e4⟩;have ab:p<s.heap.objs.size:=ao U;refine call_any_walk (fG L ?_);refine⟨s.heap.objs.size,_,_,_,_,_,λi=>bs.getD i false,rfl,Walks.list (A:=X.A.in1) (I.ok.hd hc) _ p (aD ab) G.toArray,⟨⟨_,ax _ rfl,rfl,rfl⟩,L.push _⟩,λi v s' Q' E' hP hQ=>?_,λh' tk hk=>?_⟩
 .have F:G[i]?=some v:=by simpa using hP
  rw[O,aB]at F;cases hb:bs[i]? with
  |none=>rw[hb]at F;cases F
  |some b =>
   rw[hb]at F;have ev:Value.bool b=v:=au F;subst ev;refine cQ ?_;have J:bs.getD i false=b:=by rw[av,hb];rfl
   have S:Q' (bs.getD i false) s':=hQ;rw[J]at S;exact S
 .have ad:G.toArray.size=bs.length:=by rw[O];simp
  rw[ad,wyx];refine⟨.bl _,H,I.kept λb ob e=>hk b ob (λhm=>?_) (ai _ e),rfl,q⟩;have z:b=s.heap.objs.size:=by simpa using hm
  exact aU _ (z▸ao e)
end
end
end L2
namespace L2
open PySem
theorem wxw {M:List Nat}{x:Str}{te:TE}{σ:St}{H:Hp}{Q:VK}(f:Nat->V)(hn:x.cps.size<=1000000)(he:∀(i:Nat) (H':Hp) (R:VK),i<x.cps.size->Same H H'->R (f i) H'->te (kj M σ (some (.str ⟨#[x.cps.getD i 0]⟩))) H' R)(k:∀p,H p=none->Q (.ref p) (upd H p (.lst ((List.range x.cps.size).map f)))):qx4 (ItS x) M te σ H Q:=by
 intro p np;refine⟨λi m ys H2=>i<=x.cps.size/\m=x.cps.size-i/\ys=(List.range i).map f/\H2=upd H p (.lst ys),⟨x.cps.size,aA _,rfl,rfl,rfl⟩,?_⟩;rintro i m ys H2 ⟨hi,rfl,rfl,rfl⟩;refine⟨qb,?_,?_⟩
 .rw[aa,aR];have:(1000000:Nat)<sizeLine:=by decide
  lia
 .by_cases hlt:i<x.cps.size
  .refine .inr ⟨hlt,?_⟩;rintro v H3 ⟨rfl,rfl⟩;refine he i (upd H p (.lst ((List.range i).map f))) _ hlt (Same.upd np) ⟨qb,x.cps.size-(i+1),⋯,⋯,rfl,?_,?_⟩
   .rw[bY,aV];rfl
   .rw[yn]
  .refine .inl ⟨by show x.cps.size<=i;lia,?_⟩;have:i=x.cps.size:=by lia
   subst this;exact k p np
theorem xxz {M:List Nat}{d:Aj}{o:Obj}{cs:List (Key×V)}{tk te:TE}{σ:St}{H:Hp}{Q:VK}(f:Key->V)(hz:cs.length<=1000000)(nd:(cs.map (·.1)).Nodup)(hd:H d=some (.frz o (.dK cs)))(he:∀(k:Key) (H':Hp) (R:V->V->Hp->Prop),Same H H'->R (kV k) (f k) H'->tk (kj M σ (some (kV k))) H' λy H4=>te (kj M σ (some (kV k))) H4 λz H5=>R y z H5)(k:∀p,H p=none->Q (.ref p) (upd H p (.dK (cs.map λc=>(c.1,f c.1))))):wqw (ItD d o cs) M tk te σ H Q:=by
 intro p np;have Z:(1000000:Nat)<sizeLine:=by decide
 refine⟨λi m ys H2=>i<=cs.length/\m=cs.length-i/\ys=(cs.take i).map (λc=>(c.1,f c.1))/\H2=upd H p (.dK ys),⟨cs.length,aA _,rfl,rfl,rfl⟩,?_⟩;rintro i m ys H2 ⟨hi,rfl,rfl,rfl⟩;have G:d≠p:=wq hd np;refine⟨qb,by rw[aa,bG];lia,?_⟩;by_cases hlt:i<cs.length
 .refine .inr ⟨⟨by rw[wg G];exact hd,hlt⟩,?_⟩;rintro v H3 ⟨rfl,c,ec,rfl⟩;refine he c.1 _ _ (Same.upd np) ⟨c.1,rfl,qb,cs.length-(i+1),⋯,⋯,rfl,?_,?_⟩
  .have O:wp ((cs.take i).map λc=>(c.1,f c.1)) c.1=none:=by
    unfold wp;rw[dN.mpr]
    .rfl
    .intro x L;obtain⟨y,J,rfl⟩:=ar.mp L;have I:y.1∈(cs.map (·.1)).take i:=by rw[<-gB];exact ar.mpr ⟨y,J,rfl⟩
     intro z;have z:y.1=c.1:=by simpa using z
     obtain⟨j,S,F⟩:=bD I;rw[bG,aa]at S;rw[d7]at F;have U:(cs.map (·.1))[i]'(by rw[aa];exact hlt)=c.1:=by rw[eK];rw[aj hlt]at ec;rw[au ec]
     have:=(dC nd).mp (F.trans (z.trans U.symm));lia
   rw[Q8 _ O,cy,aV,ec];rfl
  .rw[yn]
 .refine .inl ⟨⟨by rw[wg G];exact hd,⋯⟩,?_⟩;have:i=cs.length:=by lia
  subst this;rw[ce];exact k p np
theorem for_di {d:Aj}{o:Obj}{cs:List (Key×V)}{g:TG}{tb:TS}{D:Ends}{σ:St}{H:Hp}(Pv:Nat->St->Hp->Prop)(h0:Pv 0 σ H)(hl:∀i σ H,i<=cs.length->Pv i σ H->H d=some (.frz o (.dK cs)))(hs:∀i c q σ H,cs[i]?=some c->H q=none->Pv i σ H->g (.ref q) σ (upd H q (.tup [kV c.1,c.2])) λσ2 H2=>tb { D with nx:=Pv (i+1),ct:=Pv (i+1),bk:=D.nx } σ2 H2) (hd:∀σ H,Pv cs.length σ H->D.nx σ H) :
  ∃W:Nat->Nat->St->Hp->Prop,(∃m,W 0 m σ H)/\∀i m σ H,W i m σ H ->
   ((ItDI d o cs).stop i H/\D.nx σ H)\/((ItDI d o cs).go i H/\∃N:St->Hp->Prop,(∀σ' H',N σ' H'->∃m',m'<m/\W (i+1) m' σ' H')/\∀x H',(ItDI d o cs).yld i H x H'->g x σ H' λσ2 H2=>tb { D with nx:=N,ct:=N,bk:=D.nx } σ2 H2):=by
 refine⟨λi m σ H=>m=cs.length-i/\i<=cs.length/\Pv i σ H,⟨cs.length,by simp,aA _,h0⟩,?_⟩;rintro i m σ H ⟨rfl,hi,p⟩;have q:=hl i σ H hi p;by_cases hlt:i<cs.length
 .refine .inr ⟨⟨q,hlt⟩,Pv (i+1),λσ' H' F=>⟨cs.length-(i+1),⋯,rfl,hlt,F⟩,?_⟩;rintro x H' ⟨z,c,nz,rfl,ec,rfl⟩;exact hs i c z σ H ec nz p
 .have e:i=cs.length:=by lia
  subst e;exact .inl ⟨⟨q,al _⟩,hd σ H p⟩
def ex1 (R:List (Key×V))(c:Key×V):List (Key×V):=if c.2=.non then ux R c.1 else v8 R c.1 c.2
def exK (R cs:List (Key×V)):List (Key×V):=cs.foldl ex1 R
def bfK (R cs:List (Key×V)):List (Key×V):=cs.map λc=>(c.1,(wp R c.1).getD .non)
def wxc (R cs:List (Key×V)):Prop:=∀(i:Nat) c,cs[i]?=some c->c.2=.non->(wp (exK R (cs.take i)) c.1).isSome=true
theorem xx8 (R:List (Key×V)){cs:List (Key×V)}{i:Nat}{c:Key×V}(h:cs[i]?=some c):exK R (cs.take (i+1))=ex1 (exK R (cs.take i)) c:=by unfold exK;rw[cy,h,List.foldl_append];rfl
theorem xv6 (R:List (Key×V))(c:Key×V):(ex1 R c).length<=R.length+1:=by
 unfold ex1;split
 .have:=qx0 R c.1;lia
 .exact uz R c.1 c.2
theorem xv1 (R cs:List (Key×V)):(exK R cs).length<=R.length+cs.length:=by
 induction cs generalizing R with
 |nil=>exact al _
 |cons c cs ih =>
  have h1:=ih (ex1 R c);have h2:=xv6 R c;show(exK (ex1 R c) cs).length<=_;rw[aC];lia
def Kb (ch:List Aj)(H H':Hp):Prop:=∀b o,b∉ch->H b=some o->H' b=some o
section
variable {X:Cx}{C:Aj}{x:Str}{k:Nat}{sp:Sp}{E:St->XK}{p pos:Pos}
theorem qqq (c:CCal X.prog X.w X.K X.mg X.base x C k sp)(hr:Room (k+1) X.A)(hg:Gl X x)(hx:uf X E)(hdb:autoParam ((x==("__debug__" : Str))=false) aU1._auto_1) :
  PE X (.Call (.Name x p) [] [] pos) (wvz C sp E y0):=by
 obtain⟨f,fd,ps,G,M,F,b⟩:=c.ex;intro pins s σ H Q I h;refine dc (Qj I hg G ?_ hdb);exact W.callWith_K0 I.kIn M.kp (qjf (us:=[]) M F hr b hx I .nil h)
end
theorem Kb.rd {ch:List Aj}{H H':Hp}(k:Kb ch H H'){d:Aj}{kvs:List (Key×V)}(n:d∉ch)(h:Rd H d (.dK kvs)):Rd H' d (.dK kvs):=by
 rcases h with h|⟨o,h⟩
 .exact .inl (k _ _ n h)
 .exact .inr ⟨o,k _ _ n h⟩
theorem Kb.trans {ch:List Aj}{H H' H'':Hp}(a:Kb ch H H')(b:Kb ch H' H''):Kb ch H H'':=λc o n e=>b c o n (a c o n e)
theorem Kb.of {ch:List Aj}{H H':Hp}(s:Same H H'):Kb ch H H':=λc o _ e=>s c o e
theorem Kb.mono {ch ch':List Aj}{H H':Hp}(a:Kb ch H H')(h:∀b∈ch,b∈ch'):Kb ch' H H':=λc o n e=>a c o (λz=>n (h c z)) e
theorem for_en {K:Aa}{a:Aj}{xs:List V}{g:TG}{tb:TS}{D:Ends}{σ:St}{H:Hp}(Pv:Nat->St->Hp->Prop)(h0:Pv 0 σ H)(hl:∀i σ H,i<=xs.length->Pv i σ H->SqL K H a xs)(hs:∀i x q σ H,xs[i]?=some x->H q=none->Pv i σ H->g (.ref q) σ (upd H q (.tup [.int (i:Nat),x])) λσ2 H2=>tb { D with nx:=Pv (i+1),ct:=Pv (i+1),bk:=D.nx } σ2 H2) (hd:∀σ H,Pv xs.length σ H->D.nx σ H) :
  ∃W:Nat->Nat->St->Hp->Prop,(∃m,W 0 m σ H)/\∀i m σ H,W i m σ H ->
   ((ItE K a xs).stop i H/\D.nx σ H)\/((ItE K a xs).go i H/\∃N:St->Hp->Prop,(∀σ' H',N σ' H'->∃m',m'<m/\W (i+1) m' σ' H')/\∀x H',(ItE K a xs).yld i H x H'->g x σ H' λσ2 H2=>tb { D with nx:=N,ct:=N,bk:=D.nx } σ2 H2):=by
 refine⟨λi m σ H=>m=xs.length-i/\i<=xs.length/\Pv i σ H,⟨xs.length,by simp,aA _,h0⟩,?_⟩;rintro i m σ H ⟨rfl,hi,p⟩;have q:=hl i σ H hi p;by_cases hlt:i<xs.length
 .refine .inr ⟨⟨q,hlt⟩,Pv (i+1),λσ' H' F=>⟨xs.length-(i+1),⋯,rfl,hlt,F⟩,?_⟩;rintro x H' ⟨z,c,nz,rfl,ec,rfl⟩;exact hs i c z σ H ec nz p
 .have e:i=xs.length:=by lia
  subst e;exact .inl ⟨⟨q,al _⟩,hd σ H p⟩
end L2
namespace L2
open PySem PySem.Spec PyProof.Rows PySem.W
section
variable {X:Cx}{o e:Expr}{apos cpos:Pos}{td ty:TE}
def xzs (td:TE):TE:=λσ H Q=>td σ H λx H1=>∃a kvs,x=.ref a/\H1 a=some (.dK kvs)/\Q .non (upd H1 a (.dK []))
theorem wj8 (ho:PE X o td)(hbase:autoParam (attributeBase o "clear" X.env (eval o X.env)=eval o X.env) aU4._auto_1)(hline:autoParam ((apos.endLine==cpos.line)=true) aU4._auto_1):PE X (.Call (.Attribute o "clear" apos) [] [] cpos) (xzs td):=by intro pins s σ H Q I h;refine cY hbase hline (thn (ho pins s σ H _ I h) λv s1 ζ=>?_);obtain⟨x,H1,I1,r1,a,kvs,ex,ea,q1⟩:=ζ;subst ex;obtain rfl:v=Value.ref a:=r1;obtain⟨J,G,_⟩:=Z5 I1 (.inl ⟨kvs,.inl ea⟩);exact⟨"dict","dict.clear",bN,fY,PySem.F.type_dict_clear,J,G,bE rfl (dH (xzc I1 ea λs' L=>⟨.non,_,L,rfl,q1⟩))⟩
def tDUpd (td ty:TE):TE:=λσ H Q=>td σ H λx H1=>∃a,x=.ref a/\IsD H1 a/\ty σ H1 λy H2=>∃b kvs more,y=.ref b/\a≠b/\H2 a=some (.dK kvs)/\Rd H2 b (.dK more)/\kvs.length+more.length<=sizeLine/\Q .non (upd H2 a (.dK (uq kvs more)))
theorem xvq (ho:PE X o td)(he:PE X e ty)(m:M1 X o "update" apos e cpos):PE X (.Call (.Attribute o "update" apos) [e] [] cpos) (tDUpd td ty):=by
 intro pins s σ H Q I h;refine dX m.base m.few m.line bN fQ PySem.F.type_dict_update (thn (ho pins s σ H _ I h) λu s1 ζ=>?_);obtain⟨x,H1,I1,rx,a,ex,d,q1⟩:=ζ;subst ex;obtain rfl:u=Value.ref a:=rx;obtain⟨t1,Z,_⟩:=Z5 I1 d;refine⟨t1,Z,?_⟩;rw[m.trees];refine bE rfl (cn (cF (thn (he pins s1 σ H1 _ I1 q1) λiv s2 ζ=>?_)));obtain⟨y,H2,I2,ry,b,kvs,more,ey,ne,ea,eb,sz,q2⟩:=ζ;refine dv ?_;subst ey;obtain rfl:iv=Value.ref b:=ry;obtain⟨z,hd,U,L,dd⟩:=Y9 I2.hok ea;obtain⟨z2,ab,S,J,ad⟩:=Wm I2.hok eb;refine ck fQ dd.typeIs PySem.F.entry_dict_update (PySem.F.args_dict_update_2 _ _) (meets_dict_update (zv X.prog X.w) a b ne ab)
  ⟨U,S,dd,ad,(by rw[<-L.length,<-J.length];exact sz),λh' O _ hs=>?_⟩
 have G:∃q,h'.get? a=some q:=let ⟨q,_,_,G,_⟩:=O;⟨q,G⟩;exact⟨.non,_,uh (t':=s2.toks) I2 (by rw[ea];exact True.intro) hs G (Wu (by have:=Qn more kvs;lia) hd (KV.merge J L) O),rfl,q2⟩
end
def ItDV (d:Aj)(o:Obj)(kvs:List (Key×V)):It :=
 ⟨λi H=>H d=some (.frz o (.dK kvs))/\i<kvs.length,λi H v H'=>H'=H/\∃p,kvs[i]?=some p/\v=p.2,λi H=>H d=some (.frz o (.dK kvs))/\kvs.length<=i⟩
theorem xvj {P:Ac}{w:Ah}{K:Aa}{tg:Expr}{d it:Aj}{o:Obj}{kvs:List (Key×V)}{ep:Nat}(hep:∃es,o.data=.dict es ep):Turn P w K tg (ItDV d o kvs) [it] it (λi h=>h.IsValIter it d i kvs.length ep) where
 mem:=by simp
 obj:=λi h st b hb=>by
  have e:b=it:=by simpa using hb
  subst e;obtain⟨ob,e,c,dd⟩:=st;exact⟨ob,e,λv z=>by rw[dd]at z;cases z⟩
 keep:=λi h h' st k=>let ⟨ob,e,r⟩:=st;⟨ob,k it (by simp) ob e,r⟩
 item:=by
  intro X hP hw hK hc i pins s σ H E I hf st hg;subst hP hw hK;obtain⟨hq,hi⟩:=hg;obtain⟨z,hd,ho,vs,es,ep',rel,h3,dd⟩:=Qp I hq;obtain⟨es2,h4⟩:=hep;have:ep'=ep:=by rw[h3]at h4;cases h4;rfl
  subst this;have e1:kvs[i]?=some kvs[i]:=aj hi;obtain⟨q,eq,rq⟩:=qxc rel e1;have hl:vs.length=kvs.length:=(bx rel).symm;obtain⟨f0,f1,f2,f3,f4,f5⟩:=hf it (by simp);refine wpAny_pyNext_values_item (by rw[hl];exact st) dd eq λh' st' sb=>?_;have I1:Inv X pins σ H { s with heap:=h' }:=I.turned (t':=s.toks) (λb o hb e=>(sb.2 b hb).trans e) f0 f1 f3 f4 f5;rw[hl]at st';obtain⟨ob,e,c,d'⟩:=id st';exact⟨q,rfl,qj3 (s:={ s with heap:=h' }) e c d' ⋯ ⟨_,H,I1,rq,⟨rfl,_,e1,rfl⟩,st',λb hb=>(hf b hb).1⟩⟩
 done:=by
  intro X hP hw hK hc i pins s σ H E I hf st hg;subst hP hw hK;obtain⟨hq,hi⟩:=hg;obtain⟨z,hd,ho,vs,es,ep',rel,h3,dd⟩:=Qp I hq;obtain⟨es2,h4⟩:=hep;have:ep'=ep:=by rw[h3]at h4;cases h4;rfl
  subst this;have hl:vs.length=kvs.length:=(bx rel).symm;obtain⟨f0,f1,f2,f3,f4,f5⟩:=hf it (by simp);exact wpAny_pyNext_values_end (I.ok.hd hc) (by rw[hl];exact st) dd (bg ⋯) λh' eb=>⟨rfl,I.turned (t':=s.toks) (λb o hb e=>eb b o hb e) f0 f1 f3 f4 f5⟩
 self:=λ_ _ _ _ _ st h=>wpAny_pyIter_valiter st h
section
variable {X:Cx}{tg l:Expr}{tl:TE}
def iDv (tl:TE):TI:=λσ H R=>tl σ H λx H1=>∃d kvs,x=.ref d/\Rd H1 d (.dK kvs)/\∀o H2,Fz H1 d o kvs H2->R (ItDV d o kvs) H2
theorem pi_dv {apos cpos:Pos}(hl:PE X l tl)(hbase:autoParam (attributeBase l "values" X.env (eval l X.env)=eval l X.env) aU4._auto_1)(hline:autoParam ((apos.endLine==cpos.line)=true) aU4._auto_1) :
  PI X tg (.Call (.Attribute l "values" apos) [] [] cpos) (iDv tl):=by
 intro pins s σ H R I h;refine cY hbase hline (thn (hl pins s σ H _ I h) λv s1 ζ=>?_);obtain⟨x,H1,I1,r1,q1⟩:=ζ;obtain⟨d,kvs,e,O,q⟩:=q1;subst e;cases r1;obtain⟨o,H2,S,U⟩:=I1.freezeRd O;obtain⟨L,Z,_⟩:=Z5 I1 (.inl ⟨kvs,O⟩);obtain⟨z,hd,ho,J,es,ep,ab,h3,dd⟩:=Qp U S.1;have hl:J.length=kvs.length:=(bx ab).symm;refine⟨"dict","dict.values",bN,fS,PySem.F.type_dict_values,L,Z,bE rfl (dH ?_)⟩;refine ck fS L PySem.F.entry_dict_values (PySem.F.args_dict_values_1 _) (meets_dict_values (zv X.prog X.w) d hd) ⟨⟨J,dd.dictOf⟩,?_⟩;have G:Inv X pins σ H2 { s1 with heap:=s1.heap.push { cls:=.type "dict_values",data:=.fields #[.ref d] } }:=U.kept (t':=s1.toks) λb o e=>ai _ e;refine wpAny_pyIter_values (s:={ s1 with heap:=s1.heap.push { cls:=.type "dict_values",data:=.fields #[.ref d] } }) ⟨_,ax _ rfl,rfl,rfl⟩ (dd.push _) ?_;refine⟨_,[_],_,_,H2,rfl,G.kept (t':=s1.toks) λb o e=>ai _ e,xvj ⟨es,h3⟩,⟨_,ax _ rfl,rfl,by rw[hl];rfl⟩,λb hb=>?_,q o H2 S⟩;have e:=am.mp hb;subst e;exact G.fpOk (al _) (G.hok.fresh (al _))
end
theorem wzz {d:Aj}{o:Obj}{cs:List (Key×V)}{g:TG}{tb:TS}{D:Ends}{σ:St}{H:Hp}(Pv:Nat->St->Hp->Prop)(h0:Pv 0 σ H)(hl:∀i σ H,i<=cs.length->Pv i σ H->H d=some (.frz o (.dK cs)))(hs:∀i c σ H,cs[i]?=some c->Pv i σ H->g (kV c.1) σ H λσ2 H2=>tb { D with nx:=Pv (i+1),ct:=Pv (i+1),bk:=D.nx } σ2 H2) (hd:∀σ H,Pv cs.length σ H->D.nx σ H) :
  ∃W:Nat->Nat->St->Hp->Prop,(∃m,W 0 m σ H)/\∀i m σ H,W i m σ H ->
   ((ItD d o cs).stop i H/\D.nx σ H)\/((ItD d o cs).go i H/\∃N:St->Hp->Prop,(∀σ' H',N σ' H'->∃m',m'<m/\W (i+1) m' σ' H')/\∀x H',(ItD d o cs).yld i H x H'->g x σ H' λσ2 H2=>tb { D with nx:=N,ct:=N,bk:=D.nx } σ2 H2):=by
 refine⟨λi m σ H=>m=cs.length-i/\i<=cs.length/\Pv i σ H,⟨cs.length,by simp,aA _,h0⟩,?_⟩;rintro i m σ H ⟨rfl,hi,p⟩;have q:=hl i σ H hi p;by_cases hlt:i<cs.length
 .refine .inr ⟨⟨q,hlt⟩,Pv (i+1),λσ' H' F=>⟨cs.length-(i+1),⋯,rfl,hlt,F⟩,?_⟩;rintro x H' ⟨rfl,c,ec,rfl⟩;exact hs i c σ _ ec p
 .have e:i=cs.length:=by lia
  subst e;exact .inl ⟨⟨q,al _⟩,hd σ H p⟩
theorem for_dv {d:Aj}{o:Obj}{cs:List (Key×V)}{g:TG}{tb:TS}{D:Ends}{σ:St}{H:Hp}(Pv:Nat->St->Hp->Prop)(h0:Pv 0 σ H)(hl:∀i σ H,i<=cs.length->Pv i σ H->H d=some (.frz o (.dK cs)))(hs:∀i c σ H,cs[i]?=some c->Pv i σ H->g c.2 σ H λσ2 H2=>tb { D with nx:=Pv (i+1),ct:=Pv (i+1),bk:=D.nx } σ2 H2) (hd:∀σ H,Pv cs.length σ H->D.nx σ H) :
  ∃W:Nat->Nat->St->Hp->Prop,(∃m,W 0 m σ H)/\∀i m σ H,W i m σ H ->
   ((ItDV d o cs).stop i H/\D.nx σ H)\/((ItDV d o cs).go i H/\∃N:St->Hp->Prop,(∀σ' H',N σ' H'->∃m',m'<m/\W (i+1) m' σ' H')/\∀x H',(ItDV d o cs).yld i H x H'->g x σ H' λσ2 H2=>tb { D with nx:=N,ct:=N,bk:=D.nx } σ2 H2):=by
 refine⟨λi m σ H=>m=cs.length-i/\i<=cs.length/\Pv i σ H,⟨cs.length,by simp,aA _,h0⟩,?_⟩;rintro i m σ H ⟨rfl,hi,p⟩;have q:=hl i σ H hi p;by_cases hlt:i<cs.length
 .refine .inr ⟨⟨q,hlt⟩,Pv (i+1),λσ' H' F=>⟨cs.length-(i+1),⋯,rfl,hlt,F⟩,?_⟩;rintro x H' ⟨rfl,c,ec,rfl⟩;exact hs i c σ _ ec p
 .have e:i=cs.length:=by lia
  subst e;exact .inl ⟨⟨q,al _⟩,hd σ H p⟩
def thw (ds:List Aj)(H:Hp):Hp:=λb=>if b∈ds then(match H b with|some (.frz _ u)=>some u|x=>x) else H b
theorem qu3 {ds:List Aj}{H:Hp}{b:Aj}(h:b∉ds):thw ds H b=H b:=ag h
theorem wk5 {ds:List Aj}{H:Hp}{b:Aj}{o:Obj}{u:HO}(h:b∈ds)(e:H b=some (.frz o u)):thw ds H b=some u:=by unfold thw;rw[ak h,e]
theorem wvd (ds:List Aj)(H:Hp)(b:Aj):thw ds H b=H b\/(b∈ds/\∃o u,H b=some (.frz o u)/\thw ds H b=some u):=by
 by_cases h:b∈ds
 .by_cases z:∃o u,H b=some (.frz o u)
  .obtain⟨o,u,e⟩:=z;exact .inr ⟨h,o,u,e,wk5 h e⟩
  .left;unfold thw;rw[ak h];cases e:H b with
   |none=>rfl
   |some w=>cases w <;> first | rfl | exact absurd ⟨_,_,e⟩ z
 .exact .inl (qu3 h)
theorem Y7 {ds:List Aj}{H:Hp}{b:Aj}{o:HO}(e:H b=some o)(h:∀p u,o≠.frz p u):thw ds H b=some o:=by
 rcases wvd ds H b with z|⟨_,p,u,z,_⟩
 .rw[z];exact e
 .rw[e]at z;exact absurd (au z) (h _ _)
theorem thw_ok {P:Ac}{w:Ah}{ds:List Aj}{H:Hp}{h:Heap}(x:HOk P w H h):HOk P w (thw ds H) h:=λa o e=>by
 have st:∀o,ObjOk P w H h a o->ObjOk P w (thw ds H) h a o:=λo y=>y.stay (λ_ _ _ q=>q) (λb q=>Y7 q λ_ _ z=>by cases z) λb xs q=>Y7 q λ_ _ z=>by cases z
 rcases wvd ds H a with z|⟨_,p,u,z,z2⟩
 .rw[z]at e;exact st o (x a o e)
 .rw[z2]at e;have e:=au e;rw[<-e];obtain⟨_,y⟩:=(show ObjOk P w H h a (.frz p u) from x a _ z);exact st u y
theorem FnOk.thaw {P:Ac}{w:Ah}{K:Aa}{mg:Str->Option Ag}{base:Heap}{CX:CXT}{k:Nat}{f:Aj}{fd:Ad}{ps:List Str}{sp:Sp}(F:↑FnOk CX k f fd ps sp) :
  ↑FnOk CX k f fd ps (λvs H Q E=>sp vs H (λv H'=>∃ds,(∀d∈ds,∀o u,H d≠some (.frz o u))/\Q v (thw ds H')) E):=by
 refine⟨λvs H Q E q=>F.len vs H _ E q,λA outer s H an O vs Q E hr he hb hv hs=>dS (F.run A outer s H an O vs _ E hr he hb hv hs) λr s' h=>?_⟩;cases r with
 |error e=>exact h
 |ok fl =>
  cases fl with
  |ret u =>
   obtain⟨v,H',U,ah,G,ad,S,ds,Z,q⟩:=h;refine⟨v,thw ds H',U,ah,⟨G.keep,G.slot,λb o e n hx=>?_,G.there,λb xs e=>Y7 (G.tups b xs e) (λ_ _ z=>by cases z),λb o J e=>?_,λb p e=>?_⟩,thw_ok ad,S,q⟩
   .have L:=G.free b o e n hx;rcases wvd ds H' b with z|⟨_,p,u,z,_⟩
    .rw[z];exact L
    .rw[L]at z;cases z
   .have I:=G.frzs b o J e;rw[qu3 (λz=>Z b z o J e)];exact I
   .obtain⟨ab,I⟩:=G.tbls b p e;exact⟨ab,Y7 I λ_ _ z=>by cases z⟩
  |next=>exact h
  |brk=>exact h
  |cont=>exact h
end L2
namespace L2
open PySem PySem.Spec PyProof.Rows
section
variable {X:Cx}{tg l:Expr}{tl:TE}
def iDz (tl:TE):TI:=λσ H R=>tl σ H λx H1=>∃d kvs o,x=.ref d/\H1 d=some (.frz o (.dK kvs))/\R (ItD d o kvs) H1
theorem pi_dkZ (hl:PE X l tl):PI X tg l (iDz tl):=by
 intro pins s σ H R I h;refine thn (hl pins s σ H _ I h) λv s1 ζ=>?_;obtain⟨x,H1,I1,r1,q1⟩:=ζ;obtain⟨d,kvs,o,e,S,q⟩:=q1;subst e;cases r1;obtain⟨z,J,U,F,es,ep,G,O,dd⟩:=Qp I1 S;have hl:F.length=kvs.length:=(bx G).symm;refine wpAny_pyIter_dict J dd ?_;refine⟨s1.heap.objs.size,[s1.heap.objs.size],_,_,H1,rfl,I1.kept (t':=s1.toks) λb o e=>ai _ e,wk0 ⟨es,O⟩,⟨_,ax _ rfl,rfl,by rw[hl];rfl⟩,λb L=>?_,q⟩;have e:b=s1.heap.objs.size:=by simpa using L
 subst e;exact I1.fpOk (al _) (I1.hok.fresh (al _))
end
end L2
namespace L2
open PySem PySem.Spec PyProof.Rows PySem.W
section
variable {X:Cx}
theorem xx9:∀(qs:List Ag) (ss:List Str),qs.length=ss.length->(∀(i:Nat) v,qs[i]?=some v->∃x t,ss[i]?=some x/\v=Value.str x t)->StrsR qs ss:=by
 intro qs
 induction qs with
 |nil =>
  intro ss e _;cases ss with
  |nil=>exact .nil
  |cons _ _=>simp at e
 |cons v qs ih =>
  intro ss e F;cases ss with
  |nil=>simp at e
  |cons x ss =>
   obtain⟨L,t,J,I⟩:=F 0 v rfl;cases J;exact .cons ⟨t,I⟩ (ih ss (by simpa using e) λi v G=>F (i+1) v G)
theorem qjd:∀ {qs:List Ag} {ss:List Str},StrsR qs ss->Vals (ss.map V.str) qs
 |_,_,.nil=>.nil
 |_,_,.cons h t=>.cons h (qjd t)
theorem qjm:∀ {ss:List Str} {qs:List Ag},Vals (ss.map V.str) qs->StrsR qs ss
 |[],_,h=>by cases h;exact .nil
 |s::ss,_,h=>by
  cases h with
  |cons h t=>exact .cons h (qjm t)
theorem Z9 (hc:X.calm=true):j9 X (.type "list") (λxs H Q=>∃(a:Aj) (kvs:List (Key×V)) (ss:List Str),xs=[V.ref a]/\Rd H a (.dK kvs)/\kvs.map (·.1)=ss.map Sum.inr/\∀p,H p=none->Q (.ref p) (upd H p (.lst (ss.map V.str)))):=by
 intro pins s σ H xs us Q I r h;obtain⟨a,kvs,ss,rfl,e,O,q⟩:=h;obtain⟨u,rfl,rx⟩:=uu r;cases(show u=Value.ref a from rx);obtain⟨z,lo,vs,G,dd⟩:=Wm I.hok e;obtain⟨ep,dd⟩:=dd.dictAt;have L:vs.length=kvs.length:=(bx G).symm;have J:kvs.length=ss.length:=by have:=bu List.length O;simpa using this
 refine kdl_call (kdl_dict lo) (I.ok.hd hc) dd (by rw[L];exact z) λh' tk ab c' ad hD S=>?_;have tS:StrsR ab.toList ss:=xx9 _ _ (by rw[bn,S.1,L,J]) λi v ev=>by obtain⟨k,x,e1,e2⟩:=S.2 i v (by rw[<-ca];exact ev);have hi:=(aI.mp e1).1;have U:kvs[i]?=some kvs[i]:=aj ⋯;obtain⟨qv,Z,_⟩:=qxc G U;rw[e1]at Z;have F:=bu (λl=>l[i]?) O;simp only[aB,U,cz]at F;have hs:ss[i]?=some ss[i]:=aj ⋯;rw[hs,cz]at F;have e5:=au F;have e6:k=kvs[i].1:=bu Prod.fst (au Z);rw[e6,e5]at e2;obtain⟨t,rfl⟩:=(show ∃t,v=Value.str ss[i] t from wk8 e2);exact⟨ss[i],t,hs,rfl⟩
 exact⟨.ref _,_,I.laid (t':=tk) ad (al _) (show ObjOk X.prog X.w _ h' _ (.lst (ss.map V.str)) from ⟨by rw[aa,<-J];exact z,ab.toList,c',qjd tS,by simpa using hD⟩),rfl,q _ (I.hok.fresh (al _))⟩
theorem Qh:j9 X (.builtin "sorted") (λxs H Q=>∃(a:Aj) (ss:List Str),xs=[.ref a]/\SqL X.K H a (ss.map V.str)/\ss.length<64 /\
  ∀(l:Aj) (ms:List Str),H l=none->ms.Perm ss->ms.Pairwise (λx y=>¬ y.cps.toList<x.cps.toList)->Q (.ref l) (upd H l (.lst (ms.map V.str)))):=by
 intro pins s σ H xs us Q I r h;obtain⟨a,ss,rfl,hS,hn,q⟩:=h;obtain⟨u,rfl,ru⟩:=uu r;cases(show u=Value.ref a from ru);have sz:(100001:Nat)<sizeLine:=by decide
 obtain⟨F,S,pl,a0⟩:=I.list hS;have ap:s.heap.IsList a F.toArray:=pl.isList;have O:=qjm S;have a1:F.length=ss.length:=by rw[<-S.length,aa]
 refine dF kind_sorted plain_sorted entry_sorted (args_sorted1 _) ?_;unfold Builtin.«sorted»;refine ac (m:=checkCount "sorted" 1 1 _) (aq ?_);refine ac (collect_list ap ?_ ⋯);refine ac (fO ?_ ⋯);have ad:∀b o,s.heap.get? b=some o->((s.heap.push (seqObj "list" #[] 0)).update s.heap.objs.size (Obj.mapSeq (·++F.toArray))).get? b=some o:=λb o q=>by have ab:b<s.heap.objs.size:=ao q;rw[e7 _ _ _ _ (aD ab),Heap.get?_push_ne _ _ _ (aD ab)];exact q
 have J:s.heap.objs.size<=((s.heap.push (seqObj "list" #[] 0)).update s.heap.objs.size (Obj.mapSeq (·++F.toArray))).objs.size:=by rw[Heap.size_update,size_push'];lia
 generalize ((s.heap.push (seqObj "list" #[] 0)).update s.heap.objs.size (Obj.mapSeq (·++F.toArray)))=h' at ad J;obtain⟨tk,a2⟩:∃tk,tk=s.toks:=⟨_,rfl⟩;have L:(h'.push (seqObj "list" F.toArray 0)).get? h'.objs.size=some (seqObj "list" F.toArray 0):=ax _ rfl;refine ac (cf (dD slot_list_sort ⟨_,L,rfl⟩ entry_list_sort ?_ (args_list_sort _)));refine qvv (s:={ s with heap:=h'.push (seqObj "list" F.toArray 0) }) L ⋯ O λG Z up=>⟨_,rfl,aq ⟨_,rfl,?_⟩⟩;obtain⟨e,he⟩:=Z0 L (G.map λi=>F.getD i Value.none).toArray;have nl:H h'.objs.size=none:=I.hok.fresh J;have an:∀i∈G,i<ss.length:=λi hi=>by have:=aW.mp (Z.mem_iff.mp hi);lia
 have ah:∀(G:List Nat),(∀i∈G,i<ss.length)->Vals ((G.map λi=>ss.getD i Str.empty).map V.str) (G.map λi=>F.getD i Value.none):=by
  intro G
  induction G with
  |nil=>intro _;exact .nil
  |cons i G ih =>
   intro hh;obtain⟨x,t,e1,e2⟩:=O.at (hh i (.head _));refine .cons ?_ (ih λj hj=>hh j (.tail _ hj));show RelV (V.str (ss.getD i Str.empty)) (F.getD i Value.none);rw[e2,av,e1];exact⟨t,rfl⟩
 have U:(G.map λi=>ss.getD i Str.empty).Perm ss:=by
  have h1:=Z.map λi=>ss.getD i Str.empty;have h2:((List.range F.length).map λi=>ss.getD i Str.empty)=ss:=by
   refine dY λi=>?_;rw[aB];by_cases c:i<ss.length
   .rw[cX ⋯,aj c];show some (ss.getD i Str.empty)=_;rw[av,aj c];rfl
   .rw[bg (by rw[aR];lia),bg ⋯];rfl
  rw[h2]at h1;exact h1
 refine⟨.ref _,_,I.laid (t':=s.toks) (λb u hb=>W6 (ai _ (ad b u hb)) (aD (aL (ao hb) J)) _) J (show ObjOk X.prog X.w _ _ _ (.lst ((G.map λi=>ss.getD i Str.empty).map V.str)) from ⟨?_,_,e,ah G an,he⟩),rfl,q _ _ nl U (bL.mpr up)⟩;rw[aa,U.length_eq];lia
end
theorem wj3 {M:List Nat}{x:Str}{tt:TT}{te:TE}{σ:St}{H:Hp}{Q:VK}(c:Nat->Bool)(hn:x.cps.size<=1000000)(ht:∀(i:Nat) (H':Hp) (R:Bool->Hp->Prop),i<x.cps.size->Same H H'->R (c i) H'->tt (kj M σ (some (.str ⟨#[x.cps.getD i 0]⟩))) H' R)(he:∀(i:Nat) (H':Hp) (R:VK),i<x.cps.size->c i=true->Same H H'->R (.str ⟨#[x.cps.getD i 0]⟩) H'->te (kj M σ (some (.str ⟨#[x.cps.getD i 0]⟩))) H' R)(k:∀p ys,H p=none->ys.length=((List.range x.cps.size).filter c).length->Q (.ref p) (upd H p (.lst ys))):qyn (ItS x) M tt te σ H Q:=by
 intro p np;refine⟨λi m ys H2=>i<=x.cps.size/\m=x.cps.size-i/\ys.length=((List.range i).filter c).length/\H2=upd H p (.lst ys),⟨x.cps.size,aA _,rfl,rfl,rfl⟩,?_⟩;rintro i m ys H2 ⟨hi,rfl,el,rfl⟩;refine⟨qb,?_,?_⟩
 .have:=bF c (List.range i);rw[aR]at this;have:(1000000:Nat)<sizeLine:=by decide
  lia
 .by_cases hlt:i<x.cps.size
  .refine .inr ⟨hlt,?_⟩;rintro v H3 ⟨rfl,rfl⟩;refine ht i (upd H p (.lst ys)) _ hlt (Same.upd np) ?_;cases hc:c i with
   |true =>
    refine jg (he i _ _ hlt hc (Same.upd np) ⟨qb,x.cps.size-(i+1),⋯,⋯,rfl,?_,?_⟩)
    .rw[bY,cJ,aE,aE,el];simp[hc]
    .rw[yn]
   |false =>
    refine yz ⟨qb,x.cps.size-(i+1),⋯,⋯,rfl,?_,rfl⟩;rw[bY,cJ,aE,el];simp[hc]
  .refine .inl ⟨by show x.cps.size<=i;lia,?_⟩;have:i=x.cps.size:=by lia
   subst this;exact k p ys np el
end L2
namespace L2
open PySem
theorem xkq {x:Str}{c n:Nat}(hx:∀d∈x.cps,d<n)(h:(Builtin.Str.occurrences x ⟨#[c]⟩ 0 x.length 1).isEmpty=false):c<n:=by
 by_cases z:c<n
 .exact z
 .exfalso;have F:∀i,Builtin.Str.subAt x ⟨#[c]⟩ i=false:=λi=>by
   cases e:Builtin.Str.subAt x ⟨#[c]⟩ i with
   |false=>rfl
   |true =>
    exfalso;have m:c∈(⟨#[c]⟩:Str).cps:=by simp
    rw[<-dJ.mp e]at m;obtain⟨k,O,J⟩:=Array.mem_extract_iff_getElem.mp m;exact z (by rw[<-J];exact hx _ (Array.getElem_mem _))
  have I:∀(l:List Nat) (k:Nat),(forIn (m:=Id) l ((#[]:Array Nat),k) (StrLaws.occBody x ⟨#[c]⟩ x.length 1)).run.fst=#[]:=by
   intro l
   induction l with
   |nil=>exactλ_=>rfl
   |cons j r ih =>
    intro k;rw[List.forIn_cons];have G:¬ ((((#[]:Array Nat).size<1/\k<=j)/\j+(⟨#[c]⟩:Str).length<=x.length)/\Builtin.Str.subAt x ⟨#[c]⟩ j=true):=λq=>by have:=q.2;rw[F j]at this;cases this
    have L:StrLaws.occBody x ⟨#[c]⟩ x.length 1 j ((#[]:Array Nat),k)=pure (.yield ((#[]:Array Nat),k)):=by unfold StrLaws.occBody;exact ag G
    rw[L];exact ih k
  rw[StrLaws.occ_eq,I]at h;cases h
end L2
namespace L2
open PySem PySem.Spec PyProof.Rows
theorem wvu {lo:Int}{n:Nat}{g:TG}{tb:TS}{D:Ends}{σ:St}{H:Hp}(Pv:Nat->St->Hp->Prop)(h0:Pv 0 σ H)(hs:∀B R i σ H,i<n->Pv i σ H->g (.int (lo+i)) σ H λσ2 H2=>tb ⟨Pv (i+1),R,B,Pv (i+1)⟩ σ2 H2) (hd:∀σ H,Pv n σ H->D.nx σ H) :
  ∃W:Nat->Nat->St->Hp->Prop,(∃m,W 0 m σ H)/\∀i m σ H,W i m σ H ->
   ((Itr lo n).stop i H/\D.nx σ H)\/((Itr lo n).go i H/\∃N:St->Hp->Prop,(∀σ' H',N σ' H'->∃m',m'<m/\W (i+1) m' σ' H')/\∀x H',(Itr lo n).yld i H x H'->g x σ H' λσ2 H2=>tb { D with nx:=N,ct:=N,bk:=D.nx } σ2 H2):=Q6 Pv h0 (hs _ _) hd
theorem qjr {K:Aa}{a:Aj}{xs:List V}{g:TG}{tb:TS}{D:Ends}{σ:St}{H:Hp}(Pv:Nat->St->Hp->Prop)(h0:Pv 0 σ H)(hl:∀i σ H,i<=xs.length->Pv i σ H->SqL K H a xs)(hs:∀B R i x σ H,xs[i]?=some x->Pv i σ H->g x σ H λσ2 H2=>tb ⟨Pv (i+1),R,B,Pv (i+1)⟩ σ2 H2) (hd:∀σ H,Pv xs.length σ H->D.nx σ H) :
  ∃W:Nat->Nat->St->Hp->Prop,(∃m,W 0 m σ H)/\∀i m σ H,W i m σ H ->
   ((Itl K a).stop i H/\D.nx σ H)\/((Itl K a).go i H/\∃N:St->Hp->Prop,(∀σ' H',N σ' H'->∃m',m'<m/\W (i+1) m' σ' H')/\∀x H',(Itl K a).yld i H x H'->g x σ H' λσ2 H2=>tb { D with nx:=N,ct:=N,bk:=D.nx } σ2 H2):=Ys Pv h0 hl (hs _ _) hd
theorem xz3 {d:Aj}{o:Obj}{cs:List (Key×V)}{g:TG}{tb:TS}{D:Ends}{σ:St}{H:Hp}(Pv:Nat->St->Hp->Prop)(h0:Pv 0 σ H)(hl:∀i σ H,i<=cs.length->Pv i σ H->H d=some (.frz o (.dK cs)))(hs:∀B R i c σ H,cs[i]?=some c->Pv i σ H->g (kV c.1) σ H λσ2 H2=>tb ⟨Pv (i+1),R,B,Pv (i+1)⟩ σ2 H2) (hd:∀σ H,Pv cs.length σ H->D.nx σ H) :
  ∃W:Nat->Nat->St->Hp->Prop,(∃m,W 0 m σ H)/\∀i m σ H,W i m σ H ->
   ((ItD d o cs).stop i H/\D.nx σ H)\/((ItD d o cs).go i H/\∃N:St->Hp->Prop,(∀σ' H',N σ' H'->∃m',m'<m/\W (i+1) m' σ' H')/\∀x H',(ItD d o cs).yld i H x H'->g x σ H' λσ2 H2=>tb { D with nx:=N,ct:=N,bk:=D.nx } σ2 H2):=wzz Pv h0 hl (hs _ _) hd
end L2
set_option maxHeartbeats 0
namespace L2
theorem c7 {a b c d e f g:TS}{D:Ends}{σ:St}{H:Hp}(h:∀a' b' c' d' e' f' g',a'=a->b'=b->c'=c->d'=d->e'=e->f'=f->g'=g->jn a' (jn b' (jn c' (jn d' (jn e' (jn f' g'))))) D σ H):jn a (jn b (jn c (jn d (jn e (jn f g))))) D σ H:=h _ _ _ _ _ _ _ rfl rfl rfl rfl rfl rfl rfl
theorem c5 {a b c d e:TS}{D:Ends}{σ:St}{H:Hp}(h:∀a' b' c' d' e',a'=a->b'=b->c'=c->d'=d->e'=e->jn a' (jn b' (jn c' (jn d' e'))) D σ H):jn a (jn b (jn c (jn d e))) D σ H:=h _ _ _ _ _ rfl rfl rfl rfl rfl
theorem c4 {a b c d:TS}{D:Ends}{σ:St}{H:Hp}(h:∀a' b' c' d',a'=a->b'=b->c'=c->d'=d->jn a' (jn b' (jn c' d')) D σ H):jn a (jn b (jn c d)) D σ H:=h _ _ _ _ rfl rfl rfl rfl
theorem c3 {a b c:TS}{D:Ends}{σ:St}{H:Hp}(h:∀a' b' c',a'=a->b'=b->c'=c->jn a' (jn b' c') D σ H):jn a (jn b c) D σ H:=h _ _ _ rfl rfl rfl
end L2
namespace L2
open PySem
section
variable {K:Aa}{a:Aj}{c j:Int}{r:List V}{i:Nat}{A B u:TS}{D:Ends}{σ:St}{H:Hp}
theorem kdF (e:σ[i]?=some (some (.ref a)))(h:H a=some (.tup (.int c::r)))(k:B D σ H)(n:autoParam (c≠j) aU1._auto_1):wzh (qq1 (tOp rEq (tOp (wqt K) (qwg i) (tC (.int 0))) (tC (.int j)))) A B D σ H:=by refine⟨_,e,_,_,_,.int c,rfl,rfl,SqT.of h,uw (j:=0) rfl,rfl,_,rfl,?_⟩;have:decide (V.int c=V.int j)=false:=be λz=>n (by cases z;rfl);rw[this];exact k
theorem kdT (e:σ[i]?=some (some (.ref a)))(h:H a=some (.tup (.int j::r)))(k:A D σ H):wzh (qq1 (tOp rEq (tOp (wqt K) (qwg i) (tC (.int 0))) (tC (.int j)))) A B D σ H:=by refine⟨_,e,_,_,_,.int j,rfl,rfl,SqT.of h,uw (j:=0) rfl,rfl,_,rfl,?_⟩;have:decide (V.int j=V.int j)=true:=aT rfl;rw[this];exact k
theorem qj5 (e:σ[i]?=some (some (.ref a)))(h:H a=some (.tup (.int c::r)))(k:u D σ H)(n:autoParam (c≠j) aU1._auto_1):jn (wzh (qq1 (tOp rEq (tOp (wqt K) (qwg i) (tC (.int 0))) (tC (.int j)))) A wxb) u D σ H:=kdF (B:=wxb) (D:={ D with nx:=u D }) e h k n
theorem kdTs (e:σ[i]?=some (some (.ref a)))(h:H a=some (.tup (.int j::r)))(k:A { D with nx:=u D } σ H):jn (wzh (qq1 (tOp rEq (tOp (wqt K) (qwg i) (tC (.int 0))) (tC (.int j)))) A B) u D σ H:=kdT (D:={ D with nx:=u D }) e h k
theorem kdAF {t:TT}(e:σ[i]?=some (some (.ref a)))(h:H a=some (.tup (.int c::r)))(k:u D σ H)(n:autoParam (c≠j) aU1._auto_1):jn (wzh (tAnd (qq1 (tOp rEq (tOp (wqt K) (qwg i) (tC (.int 0))) (tC (.int j)))) t) A wxb) u D σ H:=by refine⟨_,e,_,_,_,.int c,rfl,rfl,SqT.of h,uw (j:=0) rfl,rfl,_,rfl,?_⟩;have:decide (V.int c=V.int j)=false:=be λz=>n (by cases z;rfl);rw[this];exact k
theorem kdAG {t:TT}(e:σ[i]?=some (some (.ref a)))(h:H a=some (.tup (.int j::r)))(k:u D σ H):jn (wzh (tAnd (qq1 (tOp rNe (tOp (wqt K) (qwg i) (tC (.int 0))) (tC (.int j)))) t) A wxb) u D σ H:=by refine⟨_,e,_,_,_,.int j,rfl,rfl,SqT.of h,uw (j:=0) rfl,rfl,_,rfl,?_⟩;have:decide (V.int j=V.int j)=true:=aT rfl;rw[this];exact k
end
end L2
namespace L2
theorem a5 {a b c d e f G:Prop}(x:a/\b/\c/\d/\e/\f)(h:a->b->c->d->e->f->G):G:=h x.1 x.2.1 x.2.2.1 x.2.2.2.1 x.2.2.2.2.1 x.2.2.2.2.2
end L2
namespace L2
open PySem PySem.Spec PyProof.Rows
section
theorem ht_gen {o:Expr}{m:Str}{apos pos:Pos}{e:Expr}{es:List Expr}{env:Env}(hb:attributeBase o m env (eval o env)=eval o env)(hf:methodCallForm ((e::es).length+0) (backTo pos (starEach (e::es) env)) (backToKw pos (keywordEach [] env))=true)(hp:methodCallPos true o env apos pos=pure pos) :
  eval (.Call (.Attribute o m apos) (e::es) [] pos) env=(do
   let ov <-eval o env
   standAt apos.atName
   let (f,first) <-holding [ov] (getMethod ov m (do return (<-importBound o env).getD true))
   callWith pos f first (backTo pos (starEach (e::es) env)) (backToKw pos (keywordEach [] env))):=by
 rw[arm_eval_Call,hb];unfold methodCall;rw[show(e::es).length+([]:List Keyword).length=(e::es).length+0 from rfl,hf,hp];rfl
section
variable {X:Cx}{C:Aj}{x m:Str}{k:Nat}{sp:Sp}{E:St->XK}{p pos apos:Pos}{e o:Expr}{es:List Expr}{ta te:TE}{t:TA}
theorem xu {v j p'}(ha:PE X (.Constant v j p') te)(hr:PA X es t):PA X (.Constant v j p'::es) (jv te t):=x8 ha hr rfl
theorem q9 {v p'}(ha:PE X (.Name v p') te)(hr:PA X es t):PA X (.Name v p'::es) (jv te t):=x8 ha hr rfl
theorem qzv {v j p'}(ha:PE X (.Tuple v j p') te)(hr:PA X es t):PA X (.Tuple v j p'::es) (jv te t):=x8 ha hr rfl
theorem k6 {a b c p'}(ha:PE X (.Call a b c p') te)(hr:PA X es t):PA X (.Call a b c p'::es) (jv te t):=x8 ha hr rfl
theorem vg {a b c p'}(ha:PE X (.BinOp a b c p') te)(hr:PA X es t):PA X (.BinOp a b c p'::es) (jv te t):=x8 ha hr rfl
theorem xwy {a b p'}(ha:PE X (.UnaryOp a b p') te)(hr:PA X es t):PA X (.UnaryOp a b p'::es) (jv te t):=x8 ha hr rfl
theorem zu {a b p'}(ha:PE X (.Subscript a b p') te)(hr:PA X es t):PA X (.Subscript a b p'::es) (jv te t):=x8 ha hr rfl
def wqq:List Expr->Bool
 |[]=>true
 |.Starred _ _::_=>false
 |_::r=>wqq r
theorem qqp {env:Env}:∀ {es:List Expr},wqq es=true->starEach es env=es.map λe=>(false,eval e env)
 |[],_=>rfl
 |e::r,h=>by
  cases e
  case Starred=>cases h
  all_goals exact bu _ (qqp (es:=r) h)
theorem qqh {pos:Pos}:∀ {l:List (Bool×Sem Ag)},(∀q∈l,q.1=false)->(backTo pos l).all (!·.1)=true/\(backTo pos l).any (·.1)=false:=by
 intro l h;have G:∀q∈backTo pos l,q.1=false:=by intro q F;unfold backTo at F;obtain⟨I,J,rfl⟩:=ar.mp F;exact h I J
 exact⟨bJ.mpr λq F=>by rw[G q F];rfl,List.any_eq_false.mpr λq F=>by rw[G q F];decide⟩
theorem xg (he:PE X o ta)(cl:Cls X.K C)(c:MCal X.prog X.w X.K X.mg X.base C m k sp)(hr:Room k X.A)(hx:uf X E)(ha:PA X (e::es) t)(hn:autoParam (wqq (e::es)=true) aU4._auto_1)(hl:autoParam ((e::es).length+0<30) aU1._auto_1)(hb:autoParam (∀z,attributeBase o m X.env z=z) aU3._auto_1) (hp:autoParam (methodCallPos true o X.env apos pos=pure pos) aU4._auto_1):PE X (.Call (.Attribute o m apos) (e::es) [] pos) (qz4 C m sp E ta t):=by
 have h1:starEach (e::es) X.env=(false,eval e X.env)::starEach es X.env:=by
  cases e
  case Starred=>cases hn
  all_goals rfl
 have h2:∀q∈starEach (e::es) X.env,q.1=false:=λq hq=>by rw[qqp hn]at hq;obtain⟨z,_,rfl⟩:=ar.mp hq;rfl
 refine xwg he cl c hr hx ha h1 (qqh λq hq=>h2 q (by rw[h1];exact ay _ hq)).2 (ht_gen (hb _) ?_ hp);unfold methodCallForm;rw[(qqh (pos:=pos) h2).1];exact aT hl
theorem wc (c:Cal X.prog X.w X.K X.mg X.base x k sp)(hr:Room k X.A)(hg:Gl X x)(hx:uf X E)(ha:PA X (e::es) t)(hn:autoParam (wqq (e::es)=true) aU4._auto_1)(hdb:autoParam ((x==("__debug__" : Str))=false) aU1._auto_1):PE X (.Call (.Name x p) (e::es) [] pos) (wvs sp E t):=by
 have h1:starEach (e::es) X.env=(false,eval e X.env)::starEach es X.env:=by
  cases e
  case Starred=>cases hn
  all_goals rfl
 have h2:∀q∈starEach (e::es) X.env,q.1=false:=λq hq=>by rw[qqp hn]at hq;obtain⟨z,_,rfl⟩:=ar.mp hq;rfl
 exact qvg c hr hg hx ha hdb h1 (qqh λq hq=>h2 q (by rw[h1];exact ay _ hq)).2
theorem wCA (c:Cal X.prog X.w X.K X.mg X.base x k sp)(ha:PA X (e::es) t)(hr:Room k X.A:=by exact Room.mono (by assumption) ⋯)(hg:autoParam (Gl X x) aU4._auto_1)(hx:uf X E:=by exact qf)(hn:autoParam (wqq (e::es)=true) aU4._auto_1)(hdb:autoParam ((x==("__debug__" : Str))=false) aU1._auto_1):PE X (.Call (.Name x p) (e::es) [] pos) (wvs sp E t):=wc c hr hg hx ha hn hdb
end
end
section
def rSlS:V->Option Int->Option Int->Hp->VK->Prop:=λx lo hi H Q=>∃z,x=.str z/\z.length<=sizeLine/\Q (.str (Txt.slice z lo hi)) H
theorem xxd {X:Cx}:SlR X rSlS:=by
 intro pins s σ H x v vl vu lo hi sl Q I rx hs pl Z h;obtain⟨z,rfl,hz,q⟩:=h;obtain⟨t,rfl⟩:=rx;have S:∀U k,EP X pins σ Q (.str (Txt.slice z lo hi) U) { s with toks:=k }:=λU k=>⟨.str (Txt.slice z lo hi),H,I.tok _,⟨_,rfl⟩,q⟩;have G:=bB (Txt.slice_le z lo hi) hz;obtain⟨o,J,O,L⟩:=hs;refine⟨"str",_,F.slot_str_getitem.lookup,fw _ _ _,?_⟩;cases pl with
 |none =>
  cases Z with
  |none=>exact cZ (l:=none) (u:=none) (st:=none) ⟨o,J,O,L⟩ rfl (eX ⟨G,S⟩)
  |int j uj=>exact cZ (l:=none) (u:=some (j,uj)) (st:=none) ⟨o,J,O,L⟩ rfl (eX ⟨G,S⟩)
 |int i ui =>
  cases Z with
  |none=>exact cZ (l:=some (i,ui)) (u:=none) (st:=none) ⟨o,J,O,L⟩ rfl (eX ⟨G,S⟩)
  |int j uj=>exact cZ (l:=some (i,ui)) (u:=some (j,uj)) (st:=none) ⟨o,J,O,L⟩ rfl (eX ⟨G,S⟩)
end
section
section
variable {X:Cx}
theorem qky:j9 X (.type "int") (λxs H Q=>∃z n,xs=[.str z]/\PySem.intText? z=some n/\z.length<=640/\Q (.int n) H):=by intro pins s σ H xs G Q I r h;obtain⟨z,n,rfl,e,F,q⟩:=h;obtain⟨u,rfl,t,rfl⟩:=uu r;exact W.KIN.call_text e F ⟨.int n,H,I.tok _,⟨_,rfl⟩,q⟩
theorem qqs:∀ {ss:List Str} {qs:List Ag},Vals (ss.map V.str) qs->∃l:List (Str×Tok),qs=strValues l/\l.map (·.1)=ss
 |[],_,h=>by cases h;exact⟨[],rfl,rfl⟩
 |s::ss,_,h=>by
  cases h with
  |cons h t =>
   obtain⟨k,rfl⟩:=h;obtain⟨l,rfl,rfl⟩:=qqs t;exact⟨(s,k)::l,rfl,rfl⟩
theorem qq3:∀l:List (Str×Tok),Vals ((l.map (·.1)).map V.str) (strValues l)
 |[]=>.nil
 |(s,k)::l=>.cons ⟨k,rfl⟩ (qq3 l)
theorem wk9:MtM X "str.join" (λx xs H Q=>∃(z:Str) (a:Aj) (ss:List Str),x=.str z/\xs=[.ref a]/\SqL X.K H a (ss.map V.str)/\JoinOk z ss=true/\Q (.str (Txt.join z ss)) H):=by intro pins s σ H x xs v Z Q I F J h;obtain⟨z,a,ss,rfl,rfl,U,S,q⟩:=h;obtain⟨t,rfl⟩:=F;obtain⟨u,rfl,L⟩:=J.one;cases(show u=Value.ref a from L);obtain⟨qs,G,O,hz⟩:=I.list U;obtain⟨l,rfl,e⟩:=qqs G;exact SC.join O.isList e S λt' k=>⟨.str _,H,I.tok _,⟨_,rfl⟩,q⟩
theorem www:MtM X "str.split" (λx xs H Q=>∃z y:Str,x=.str z/\xs=[.str y]/\(y.length==0)=false/\z.length<=sizeLine/\(Builtin.Str.partsBetween z (Builtin.Str.occurrences z y 0 z.length (z.length+1)) y.length).length<=sizeLine/\(Txt.split z y).length<=sizeLine/\∀l,H l=none->Q (.ref l) (upd H l (.lst ((Txt.split z y).map V.str)))):=by
 intro pins s σ H x xs v us Q I J L h;obtain⟨z,y,rfl,rfl,G,U,S,Z,q⟩:=h;obtain⟨t,rfl⟩:=J;obtain⟨u,rfl,O⟩:=L.one;obtain⟨u,rfl⟩:=O;have F:∀(l:List (Str×Tok)) (k:Nat),l.map (·.1)=Txt.split z y->EP X pins σ Q (.ref s.heap.objs.size) { s with toks:=k,heap:=s.heap.push { cls:=.type "list",data:=.seq (strValues l).toArray } }:=λl k e =>
  ⟨.ref s.heap.objs.size,upd H s.heap.objs.size (.lst ((Txt.split z y).map V.str)),I.laid (t':=k) (λb u e=>ai _ e) (al _) ⟨by rw[aa];exact Z,_,0,by rw[<-e];exact qq3 l,ax _ rfl⟩,rfl,q _ (I.hok.fresh (al _))⟩
 cases h1:(decide (z.length<y.length)||decide (Builtin.Str.strKind z<Builtin.Str.strKind y))
 .cases hf:(Builtin.Str.occurrences z y 0 z.length (z.length+1)).isEmpty
  .refine gj gf (fw _ _ _) fL (fB _ _) (meets_str_split_sep z y t u h1 G hf U S) ?_;show wants _ _ _ { s with toks:=_,heap:=s.heap.push { cls:=.type "list",data:=.seq (strsFrom s.toks (Builtin.Str.partsBetween z (Builtin.Str.occurrences z y 0 z.length (z.length+1)) y.length)).toArray } };rw[strsFrom_eq];exact F (numbered s.toks _) _ ((numbered_texts _ _).trans ((ag (e9 h1)).trans (ag (e9 hf))).symm)
  .exact gj gf (fw _ _ _) fL (fB _ _) (meets_str_split_not_found z y t u h1 G hf) (F [(z,t)] _ ((ag (e9 h1)).trans (ak hf)).symm)
 .exact gj gf (fw _ _ _) fL (fB _ _) (meets_str_split_cannot_occur z y t u h1) (F [(z,t)] _ (ak h1).symm)
end
end
section
section
variable {X:Cx}
abbrev TF:=Str->St->Hp->(Str->Hp->Prop)->Prop
theorem qzf {M:Model}{A:Ae}{E:Ag->Ab->Prop}:∀(l:List (Sem Ag)) (acc:Str) (Q Q':Str->Ab->Prop) (s:Ab),Joins M A E l acc Q s->(∀o s,Q o s->Q' o s)->Joins M A E l acc Q' s
 |[],_,_,_,_,h,hQ=>hQ _ _ h
 |_::r,acc,Q,Q',_,h,hQ=>bh h (λ_ s1 ⟨y,t,e,z,hr⟩=>⟨y,t,e,z,qzf r (acc++y) Q Q' s1 hr hQ⟩) λ_ _ x=>x
def PF (X:Cx)(vs:List Expr)(t:TF):Prop :=
 ∀(acc:Str) (pins:List (Aj×Obj)) (s:Ab) (σ:St) (H:Hp) (Q:Str->Hp->Prop),Inv X pins σ H s->t acc σ H Q->Joins ↑[X] X.A X.xe (evalEach vs X.env) acc (λout s'=>∃H',Inv X pins σ H' s'/\Q out H') s
theorem pf_nil:PF X [] (λacc _ H Q=>Q acc H):=λ_ _ _ _ H _ I h=>⟨H,I,h⟩
theorem qus {x j pos}{vs:List Expr}{t:TF}(h:PF X vs t):PF X (.Constant (.str x) j pos::vs) (λacc σ H Q=>(acc++x).length<=sizeLine/\t (acc++x) σ H Q):=by intro acc pins s σ H Q I q;show wpAny _ _ (eval _ X.env) _ _ s;exact Calls.Constant_str ⟨x,_,rfl,q.1,h _ _ _ _ _ _ (I.tok _) q.2⟩
theorem qyz {e:Expr}{te:TE}{pos:Pos}{vs:List Expr}{t:TF}(he:PE X e te)(h:PF X vs t):PF X (.FormattedValue e (-1) none pos::vs) (λacc σ H Q=>te σ H λv H' =>
  (∃z:Str,v=.str z/\z.length<=sizeLine/\(acc++z).length<=sizeLine/\t (acc++z) σ H' Q)\/(∃i:Int,v=.int i/\i.natAbs.log2<1920/\(acc++Str.ofString (toString i)).length<=sizeLine/\t (acc++Str.ofString (toString i)) σ H' Q)):=by
 intro acc pins s σ H Q I q;show wpAny _ _ (eval _ X.env) _ _ s;refine wpAny_FormattedValue_plain (thn (he pins s σ H _ I q) λu s1 ζ=>?_);obtain⟨v,H1,I1,r,F⟩:=ζ;rcases F with⟨z,rfl,J,G,F⟩|⟨i,rfl,hi,G,F⟩
 .obtain⟨t,rfl⟩:=r;exact wpAny_formatField_str ⟨z,_,rfl,G,h _ _ _ _ _ _ I1 F⟩ ⟨z,_,rfl,G,h _ _ _ _ _ _ (I1.tok _) F⟩ J
 .obtain⟨t,rfl⟩:=r;exact wpAny_formatField_int hi ⟨_,_,rfl,G,h _ _ _ _ _ _ (I1.tok _) F⟩
theorem xzd {v1 v2:Expr}{rest:List Expr}{pos:Pos}{t:TF}(h:PF X (v1::v2::rest) t):PE X (.JoinedStr (v1::v2::rest) pos) (λσ H Q=>t Str.empty σ H λout H'=>out.length<=sizeLine/\Q (.str out) H'):=by intro pins s σ H Q I q;exact wpAny_JoinedStr (qzf _ _ _ _ _ (h _ pins s σ H _ I q) λout s1 ⟨H1,I1,hz,q1⟩=>⟨hz,.str out,H1,I1.tok _,⟨_,rfl⟩,q1⟩)
end
end
section
theorem qym (a b:Str):(a++b).cps.toList=a.cps.toList++b.cps.toList:=W.KT.app_list a b
theorem wwn {c:Nat}:∀ {a b r t:List Nat},c∉a->c∉b->a++c::r=b++c::t->a=b/\r=t
 |[],[],_,_,_,_,e=>⟨rfl,by simpa using e⟩
 |[],y::b,_,_,_,hb,e=>by
  have:c=y:=by simpa using bu List.head? e
  exact absurd (by rw[this];exact aw ..) hb
 |x::a,[],_,_,ha,_,e=>by
  have:x=c:=by simpa using bu List.head? e
  exact absurd (by rw[this];exact aw ..) ha
 |x::a,y::b,r,t,ha,hb,e=>by
  have J:x=y:=by simpa using bu List.head? e
  have I:a++c::r=b++c::t:=by simpa using bu List.tail e
  obtain⟨G,F⟩:=wwn (λz=>ha (ay _ z)) (λz=>hb (ay _ z)) I;exact⟨by rw[J,G],F⟩
def glL (c:Nat):List (List Nat)->List Nat
 |[]=>[]
 |[x]=>x
 |x::y::r=>x++c::glL c (y::r)
theorem wjh {c:Nat}:∀ {A B:List (List Nat)},A≠[]->B≠[]->(∀x∈A,c∉x)->(∀x∈B,c∉x)->glL c A=glL c B->A=B
 |[],_,h,_,_,_,_=>absurd rfl h
 |_,[],_,h,_,_,_=>absurd rfl h
 |[x],[y],_,_,_,_,e=>by rw[show x=y from e]
 |[x],y::z::r,_,_,ha,_,e=>by have e:x=y++c::glL c (z::r):=e;exact absurd (by rw[e];simp) (ha x (aw ..))
 |x::z::r,[y],_,_,_,hb,e=>by have e:x++c::glL c (z::r)=y:=e;exact absurd (by rw[<-e];simp) (hb y (aw ..))
 |x::z::r,y::u::t,_,_,ha,hb,e=>by have e:x++c::glL c (z::r)=y++c::glL c (u::t):=e;obtain⟨e1,e2⟩:=wwn (ha x (aw ..)) (hb y (aw ..)) e;rw[e1,wjh (cD _ _) (cD _ _) (λw hw=>ha w (ay _ hw)) (λw hw=>hb w (ay _ hw)) e2]
theorem Yp (c:Nat):∀A:List Str,(Str.join ⟨#[c]⟩ A).cps.toList=glL c (A.map λs=>s.cps.toList)
 |[]=>rfl
 |[x]=>rfl
 |x::y::r=>by show(x++⟨#[c]⟩++Str.join ⟨#[c]⟩ (y::r)).cps.toList=_;rw[qym,qym,Yp c (y::r)];show _=x.cps.toList++c::glL c ((y::r).map λs=>s.cps.toList);simp
theorem wkn {a b:Str}(h:a.cps.toList=b.cps.toList):a=b:=by obtain⟨a⟩:=a;obtain⟨b⟩:=b;have h:a=b:=Array.toList_inj.mp h;rw[h]
theorem Yq {c:Nat}{rows:List Str}(hne:rows≠[])(hc:∀r∈rows,c∉r.cps.toList):Txt.split (Str.join ⟨#[c]⟩ rows) ⟨#[c]⟩=rows:=by
 have e:=StrLaws.join_split (Str.join ⟨#[c]⟩ rows) ⟨#[c]⟩;have I:=StrLaws.split_free (Str.join ⟨#[c]⟩ rows) c;have G:=split_pos (Str.join ⟨#[c]⟩ rows) ⟨#[c]⟩;generalize Txt.split (Str.join ⟨#[c]⟩ rows) ⟨#[c]⟩=B at e I G;have e:=bu (λs=>s.cps.toList) e;simp only[Yp]at e;have J:B≠[]:=λz=>by rw[z]at G;cases G
 have m:=wjh (by simpa using J) (by simpa using hne) (λx F=>by obtain⟨s,hs,rfl⟩:=ar.mp F;exact I s hs) (λx F=>by obtain⟨s,hs,rfl⟩:=ar.mp F;exact hc s hs) e;exact List.map_inj_right (λa b h=>wkn h) |>.mp m
end
end L2
namespace My
open PySem L2
def top (i:Nat):Stmt:=PySem.Challenge.pw_crookroad_k59_whole_house_made_afresh.main.body.getD i (.Pass ⟨0,0,0,0⟩)
abbrev za4:Stmt:=top 18
theorem _root_.aU7 (h:True:=by decide +kernel):True:=h
theorem scA{N P:List Str}{c:Scope}(a:autoParam (c.kind=.function) aU4._auto_1)(b:autoParam (c.isCoroutine=false) aU4._auto_1)(d:autoParam (c.isGenerator=false) aU4._auto_1)(e:autoParam (N.Nodup) aU7._auto_1)(f:autoParam (N.take P.length=P) aU4._auto_1)(g:autoParam (∀x∈P,c.names.lookup x=some .local\/c.names.lookup x=some .cell) aU7._auto_1)(h:autoParam (∀y∈c.names,y.2≠.free) aU7._auto_1):FnScope N P c:=⟨a,b,d,e,f,g,h⟩
theorem qzw:FnScope ["number","fewest","most"] ["number","fewest","most"] (wm za4):=scA
theorem qvb:Jp "check_count" za4 ["number","fewest","most"] []:=λ_ _ _ _ _ _ _ u h=>by rcases u with _|⟨_,_|⟨_,_|⟨_,_|_⟩⟩⟩<;>first|exact exI rfl rfl|cases h
theorem qx7:Jp "check_count" za4 ["number","fewest","most"] [.none]:=λ_ _ _ _ _ _ _ us hl=>by
 have h2:us.length=2:=by simpa using hl
 rcases us with _|⟨_,_|⟨_,_|_⟩⟩<;>first|exact exI rfl rfl|cases h2
abbrev zbf:Stmt:=top 20
theorem qwx:FnScope ["bottom"] ["bottom"] (wm zbf):=scA
theorem qwd:zq "check_bottom" zbf ["bottom"]:=λ_ _ _ _ _ _ _ h=>bA1 h λ_=>rfl
abbrev zbg:Stmt:=top 21
theorem Yr:FnScope ["one","other"] ["one","other"] (wm zbg):=scA
theorem Jv:zq "common_divisor" zbg ["one","other"]:=λ_ _ _ _ _ _ _ h=>bA2 h λ_ _=>rfl
abbrev zbh:Stmt:=top 22
theorem wyn:FnScope ["top","bottom","divisor"] ["top","bottom"] (wm zbh):=scA
theorem wy4:zq "lowest" zbh ["top","bottom"]:=λ_ _ _ _ _ _ _ h=>bA2 h λ_ _=>rfl
abbrev zbi:Stmt:=top 23
theorem xvc:FnScope ["one","other"] ["one","other"] (wm zbi):=scA
theorem xzj:zq "less" zbi ["one","other"]:=λ_ _ _ _ _ _ _ h=>bA2 h λ_ _=>rfl
abbrev zbj:Stmt:=top 27
theorem wu0:FnScope ["road","start","places","here"] ["road","start"] (wm zbj):=scA
theorem xw1:zq "trace" zbj ["road","start"]:=λ_ _ _ _ _ _ _ h=>bA2 h λ_ _=>rfl
abbrev zbk:Stmt:=top 28
theorem xzk:FnScope ["points","turn","many"] ["points","turn","many"] (wm zbk):=scA
theorem xvr:zq "spot" zbk ["points","turn","many"]:=λ_ _ _ _ _ _ _ h=>bA3 h λ_ _ _=>rfl
abbrev zbl:Stmt:=top 29
theorem wuw:FnScope ["place","turn","size","many","times"] ["place","turn","size","many"] (wm zbl):=scA
theorem wyg:zq "led_to" zbl ["place","turn","size","many"]:=λ_ _ _ _ _ _ _ h=>bA4 h λ_ _ _ _=>rfl
abbrev zbm:Stmt:=top 30
theorem wzk:FnScope ["road","one","other","here","there","points","turn","others","other_turn","many"] ["road","one","other"] (wm zbm):=scA
theorem wvg:zq "meeting" zbm ["road","one","other"]:=λ_ _ _ _ _ _ _ h=>bA3 h λ_ _ _=>rfl
abbrev zbn:Stmt:=top 33
theorem wx9:FnScope ["heights","width"] ["heights"] (wm zbn):=scA
theorem wvm:zq "is_line" zbn ["heights"]:=λ_ _ _ _ _ _ _ h=>bA1 h λ_=>rfl
abbrev zbo:Stmt:=zg (top 34) 0
theorem qqx:FnScope ["self","heights"] ["self","heights"] (wm zbo):=scA
theorem qqf:zc "__init__" "Road.__init__" zbo ["self","heights"]:=λ_ _ _ _ _ _ _ h=>bA2 h λ_ _=>rfl
abbrev zbp:Stmt:=zg (top 34) 1
theorem qks:FnScope ["self"] ["self"] (wm zbp):=scA
theorem qkz:zc "width" "Road.width" zbp ["self"]:=λ_ _ _ _ _ _ _ h=>bA1 h λ_=>rfl
abbrev zbq:Stmt:=zg (top 34) 2
theorem qwv:FnScope ["self"] ["self"] (wm zbq):=scA
theorem qq9:zc "corners" "Road.corners" zbq ["self"]:=λ_ _ _ _ _ _ _ h=>bA1 h λ_=>rfl
abbrev zbr:Stmt:=zg (top 34) 3
theorem qyf:FnScope ["self","stretch"] ["self","stretch"] (wm zbr):=scA
theorem qyg:zc "ends" "Road.ends" zbr ["self","stretch"]:=λ_ _ _ _ _ _ _ h=>bA2 h λ_ _=>rfl
abbrev zbs:Stmt:=zg (top 34) 6
theorem qq7:FnScope ["self","point","top","bottom"] ["self","point"] (wm zbs):=scA
theorem qwf:zc "on_road" "Road.on_road" zbs ["self","point"]:=λ_ _ _ _ _ _ _ h=>bA2 h λ_ _=>rfl
abbrev zbt:Stmt:=zg (top 34) 7
theorem wzp:FnScope ["self","point","top","bottom","stretch","left","right","beyond"] ["self","point"] (wm zbt):=scA
theorem wvb:zc "at" "Road.at" zbt ["self","point"]:=λ_ _ _ _ _ _ _ h=>bA2 h λ_ _=>rfl
abbrev zbu:Stmt:=zg (top 36) 0
theorem Yv:FnScope ["self","whose","point","times"] ["self","whose","point","times"] (wm zbu):=scA
theorem Z1:zc "__init__" "Walker.__init__" zbu ["self","whose","point","times"]:=λ_ _ _ _ _ _ _ h=>bA4 h λ_ _ _ _=>rfl
abbrev zbv:Stmt:=zg (top 36) 1
theorem qzq:FnScope ["self","road","many","points","turn","times","place","point","led"] ["self","road","many"] (wm zbv):=scA
theorem qxh:zc "gone" "Walker.gone" zbv ["self","road","many"]:=λ_ _ _ _ _ _ _ h=>bA3 h λ_ _ _=>rfl
abbrev zbw:Stmt:=top 37
theorem wxz:FnScope ["whose","point"] ["whose","point"] (wm zbw):=scA
theorem wxy:zq "set_down" zbw ["whose","point"]:=λ_ _ _ _ _ _ _ h=>bA2 h λ_ _=>rfl
abbrev zbx:Stmt:=top 42
theorem wzu:FnScope ["name"] ["name"] (wm zbx):=scA
theorem wz9:zq "is_name" zbx ["name"]:=λ_ _ _ _ _ _ _ h=>bA1 h λ_=>rfl
abbrev zby:Stmt:=top 43
theorem Yf:FnScope ["name","things"] ["name","things"] (wm zby):=scA
theorem Y8:zq "check_new_name" zby ["name","things"]:=λ_ _ _ _ _ _ _ h=>bA2 h λ_ _=>rfl
abbrev zbz:Stmt:=top 44
theorem wxh:FnScope ["things","changes","before","name","thing"] ["things","changes"] (wm zbz):=scA
theorem wxt:zq "exchange" zbz ["things","changes"]:=λ_ _ _ _ _ _ _ h=>bA2 h λ_ _=>rfl
abbrev zb0:Stmt:=zg (top 45) 0
theorem Yt:FnScope ["self"] ["self"] (wm zb0):=scA
theorem Jr:zc "__init__" "House.__init__" zb0 ["self"]:=λ_ _ _ _ _ _ _ h=>bA1 h λ_=>rfl
abbrev zb1:Stmt:=zg (top 45) 1
theorem W2:FnScope ["self","name"] ["self","name"] (wm zb1):=scA
theorem Zk:zc "road_called" "House.road_called" zb1 ["self","name"]:=λ_ _ _ _ _ _ _ h=>bA2 h λ_ _=>rfl
abbrev zb2:Stmt:=zg (top 45) 2
theorem Wh:FnScope ["self","name"] ["self","name"] (wm zb2):=scA
theorem Wb:zc "walker_called" "House.walker_called" zb2 ["self","name"]:=λ_ _ _ _ _ _ _ h=>bA2 h λ_ _=>rfl
abbrev zb3:Stmt:=zg (top 45) 3
theorem Zf:FnScope ["self","whose"] ["self","whose"] (wm zb3):=scA
theorem Zh:zc "walkers_on" "House.walkers_on" zb3 ["self","whose"]:=λ_ _ _ _ _ _ _ h=>bA2 h λ_ _=>rfl
abbrev zb4:Stmt:=zg (top 45) 4
theorem wqr:FnScope ["self","roads","walkers"] ["self","roads","walkers"] (wm zb4):=scA
theorem wq3:zc "do" "House.do" zb4 ["self","roads","walkers"]:=λ_ _ _ _ _ _ _ h=>bA3 h λ_ _ _=>rfl
abbrev zb5:Stmt:=zg (top 45) 5
theorem qy7:FnScope ["self","name","heights"] ["self","name","heights"] (wm zb5):=scA
theorem wqc:zc "lay" "House.lay" zb5 ["self","name","heights"]:=λ_ _ _ _ _ _ _ h=>bA3 h λ_ _ _=>rfl
abbrev zb6:Stmt:=zg (top 45) 6
theorem qkt:FnScope ["self","name","corner","height","heights"] ["self","name","corner","height"] (wm zb6):=scA
theorem qv3:zc "bend" "House.bend" zb6 ["self","name","corner","height"]:=λ_ _ _ _ _ _ _ h=>bA4 h λ_ _ _ _=>rfl
abbrev zb7:Stmt:=zg (top 45) 7
theorem qzy:FnScope ["self","name","height","heights"] ["self","name","height"] (wm zb7):=scA
theorem qzk:zc "widen" "House.widen" zb7 ["self","name","height"]:=λ_ _ _ _ _ _ _ h=>bA3 h λ_ _ _=>rfl
abbrev zb8:Stmt:=zg (top 45) 8
theorem qwb:FnScope ["self","name","left","end"] ["self","name"] (wm zb8):=scA
theorem qwk:zc "narrow" "House.narrow" zb8 ["self","name"]:=λ_ _ _ _ _ _ _ h=>bA2 h λ_ _=>rfl
abbrev zb9:Stmt:=zg (top 45) 9
theorem qxu:FnScope ["self","name"] ["self","name"] (wm zb9):=scA
theorem qxr:zc "clear" "House.clear" zb9 ["self","name"]:=λ_ _ _ _ _ _ _ h=>bA2 h λ_ _=>rfl
abbrev zca:Stmt:=zg (top 45) 10
theorem qx6:FnScope ["self","name","whose","point","road","here"] ["self","name","whose","point"] (wm zca):=scA
theorem qvd:zc "place" "House.place" zca ["self","name","whose","point"]:=λ_ _ _ _ _ _ _ h=>bA4 h λ_ _ _ _=>rfl
abbrev zcb:Stmt:=zg (top 45) 11
theorem qvh:FnScope ["self","name"] ["self","name"] (wm zcb):=scA
theorem qx3:zc "leave" "House.leave" zcb ["self","name"]:=λ_ _ _ _ _ _ _ h=>bA2 h λ_ _=>rfl
abbrev zcc:Stmt:=zg (top 45) 12
theorem wwu:FnScope ["self","name","many","walker","gone"] ["self","name","many"] (wm zcc):=scA
theorem wwf:zc "go" "House.go" zcc ["self","name","many"]:=λ_ _ _ _ _ _ _ h=>bA3 h λ_ _ _=>rfl
abbrev zcd:Stmt:=zg (top 45) 13
theorem Jj:FnScope ["self","whose","many","road","gone"] ["self","whose","many"] (wm zcd):=scA
theorem Jf:zc "together" "House.together" zcd ["self","whose","many"]:=λ_ _ _ _ _ _ _ h=>bA3 h λ_ _ _=>rfl
abbrev zce:Stmt:=zg (top 45) 14
theorem Z2:FnScope ["self","roads","walkers"] ["self"] (wm zce):=scA
theorem Yx:zc "take_back" "House.take_back" zce ["self"]:=λ_ _ _ _ _ _ _ h=>bA1 h λ_=>rfl
abbrev zcf:Stmt:=zg (top 45) 15
theorem qwc:FnScope ["self"] ["self"] (wm zcf):=scA
theorem qww:zc "forget" "House.forget" zcf ["self"]:=λ_ _ _ _ _ _ _ h=>bA1 h λ_=>rfl
abbrev zcg:Stmt:=zg (top 45) 17
theorem qz9:FnScope ["self"] ["self"] (wm zcg):=scA
theorem qxt:zc "names" "House.names" zcg ["self"]:=λ_ _ _ _ _ _ _ h=>bA1 h λ_=>rfl
abbrev zch:Stmt:=zg (top 45) 18
theorem Zm:FnScope ["self","name"] ["self","name"] (wm zch):=scA
theorem Zg:zc "corners_of" "House.corners_of" zch ["self","name"]:=λ_ _ _ _ _ _ _ h=>bA2 h λ_ _=>rfl
abbrev zci:Stmt:=zg (top 45) 19
theorem qzg:FnScope ["self","name","walker"] ["self","name"] (wm zci):=scA
theorem qzx:zc "where" "House.where" zci ["self","name"]:=λ_ _ _ _ _ _ _ h=>bA2 h λ_ _=>rfl
abbrev zcj:Stmt:=zg (top 45) 21
theorem qv7:FnScope ["self","one","other","here","there"] ["self","one","other"] (wm zcj):=scA
theorem qkb:zc "meet" "House.meet" zcj ["self","one","other"]:=λ_ _ _ _ _ _ _ h=>bA3 h λ_ _ _=>rfl
abbrev zck:Stmt:=top 49
theorem wxx:FnScope ["house","name"] ["house","name"] (wm zck):=scA
theorem wxm:zq "road_row" zck ["house","name"]:=λ_ _ _ _ _ _ _ h=>bA2 h λ_ _=>rfl
abbrev zcl:Stmt:=top 50
theorem qkj:FnScope ["house","name","whose","top","bottom"] ["house","name"] (wm zcl):=scA
theorem qv8:zq "walker_row" zcl ["house","name"]:=λ_ _ _ _ _ _ _ h=>bA2 h λ_ _=>rfl
abbrev zcm:Stmt:=top 51
theorem qv0:FnScope ["house","roads","walkers","rows"] ["house"] (wm zcm):=scA
theorem qvs:zq "house_text" zcm ["house"]:=λ_ _ _ _ _ _ _ h=>bA1 h λ_=>rfl
abbrev zcn:Stmt:=top 52
theorem quc:FnScope ["word"] ["word"] (wm zcn):=scA
theorem qy3:zq "number_of" zcn ["word"]:=λ_ _ _ _ _ _ _ h=>bA1 h λ_=>rfl
abbrev zco:Stmt:=top 53
theorem wzs:FnScope ["house","row","words"] ["house","row"] (wm zco):=scA
theorem wv5:zq "take_in" zco ["house","row"]:=λ_ _ _ _ _ _ _ h=>bA2 h λ_ _=>rfl
abbrev zcp:Stmt:=top 54
theorem wwp:FnScope ["text","house","row"] ["text"] (wm zcp):=scA
theorem wx1:zq "house_of" zcp ["text"]:=λ_ _ _ _ _ _ _ h=>bA1 h λ_=>rfl
abbrev zcq:Stmt:=top 55
theorem qv5:FnScope ["text","house"] ["text"] (wm zcq):=scA
theorem qkx:zq "read_house" zcq ["text"]:=λ_ _ _ _ _ _ _ h=>bA1 h λ_=>rfl
abbrev zcr:Stmt:=top 57
theorem quy:FnScope ["_law_script","_law_at"] ["_law_script","_law_at"] (wm zcr):=scA
theorem qj4:zq "_law_cell" zcr ["_law_script","_law_at"]:=λ_ _ _ _ _ _ _ h=>bA2 h λ_ _=>rfl
abbrev zcs:Stmt:=top 58
theorem qj6:FnScope ["_law_script","_law_at","_law_turn","_law_many","_law_cell_here","_law_left","_law_k","_law_low_here","_law_one","_law_two"] ["_law_script","_law_at","_law_turn","_law_many"] (wm zcs):=scA
theorem wqv:zq "_law_pick" zcs ["_law_script","_law_at","_law_turn","_law_many"]:=λ_ _ _ _ _ _ _ h=>bA4 h λ_ _ _ _=>rfl
abbrev zct:Stmt:=top 59
theorem qkk:FnScope ["_law_script","_law_at","_law_letters","_law_size","_law_place","_law_shift","_law_made","_law_j","_law_name","_law_k","_law_sign"] ["_law_script","_law_at"] (wm zct):=scA
theorem qkp:zq "_law_names" zct ["_law_script","_law_at"]:=λ_ _ _ _ _ _ _ h=>bA2 h λ_ _=>rfl
abbrev zcu:Stmt:=top 60
theorem qum:FnScope ["_law_script","_law_at","_law_wide","_law_row"] ["_law_script","_law_at"] (wm zcu):=scA
theorem wqu:zq "_law_line" zcu ["_law_script","_law_at"]:=λ_ _ _ _ _ _ _ h=>bA2 h λ_ _=>rfl
abbrev zcv:Stmt:=top 61
theorem qkv:FnScope ["_law_script","_law_at","_law_way"] ["_law_script","_law_at"] (wm zcv):=scA
theorem qvr:zq "_law_steps" zcv ["_law_script","_law_at"]:=λ_ _ _ _ _ _ _ h=>bA2 h λ_ _=>rfl
abbrev zcw:Stmt:=top 62
theorem qkr:FnScope ["_law_script","_law_at","_law_turn","_law_names_here","_law_name"] ["_law_script","_law_at","_law_turn","_law_names_here"] (wm zcw):=scA
theorem qkq:zq "_law_named" zcw ["_law_script","_law_at","_law_turn","_law_names_here"]:=λ_ _ _ _ _ _ _ h=>bA4 h λ_ _ _ _=>rfl
abbrev za1:Stmt:=top 63
theorem qy2:FnScope ["_law_script","_law_at","_law_names_here","_law_menu","_law_kind","_law_name","_law_bottom","_law_top"] ["_law_script","_law_at","_law_names_here"] (wm za1):=scA
theorem qy5:zq "_law_deed" za1 ["_law_script","_law_at","_law_names_here"]:=λ_ _ _ _ _ _ _ h=>bA3 h λ_ _ _=>rfl
abbrev zcx:Stmt:=top 64
theorem Ym:FnScope ["_law_name","_law_bad"] ["_law_name"] (wm zcx):=scA
theorem Jk:zq "_law_good_name" zcx ["_law_name"]:=λ_ _ _ _ _ _ _ h=>bA1 h λ_=>rfl
abbrev zcy:Stmt:=top 65
theorem Yn:FnScope ["_law_row","_law_bad"] ["_law_row"] (wm zcy):=scA
theorem Jq:zq "_law_good_line" zcy ["_law_row"]:=λ_ _ _ _ _ _ _ h=>bA1 h λ_=>rfl
abbrev zcz:Stmt:=top 66
theorem qzh:FnScope ["_law_one","_law_other"] ["_law_one","_law_other"] (wm zcz):=scA
theorem qvz:zq "_law_common" zcz ["_law_one","_law_other"]:=λ_ _ _ _ _ _ _ h=>bA2 h λ_ _=>rfl
abbrev zc0:Stmt:=top 67
theorem ww7:FnScope ["_law_top","_law_bottom","_law_by"] ["_law_top","_law_bottom"] (wm zc0):=scA
theorem ww0:zq "_law_low" zc0 ["_law_top","_law_bottom"]:=λ_ _ _ _ _ _ _ h=>bA2 h λ_ _=>rfl
abbrev zc1:Stmt:=top 68
theorem qu1:FnScope ["_law_heights","_law_top","_law_bottom","_law_k"] ["_law_heights","_law_top","_law_bottom"] (wm zc1):=scA
theorem qub:zq "_law_step" zc1 ["_law_heights","_law_top","_law_bottom"]:=λ_ _ _ _ _ _ _ h=>bA3 h λ_ _ _=>rfl
abbrev zc2:Stmt:=top 69
theorem qkc:FnScope ["_law_heights","_law_top","_law_bottom","_law_seen","_law_tops"] ["_law_heights","_law_top","_law_bottom"] (wm zc2):=scA
theorem qkn:zq "_law_trace" zc2 ["_law_heights","_law_top","_law_bottom"]:=λ_ _ _ _ _ _ _ h=>bA3 h λ_ _ _=>rfl
abbrev zc3:Stmt:=top 70
theorem qv2:FnScope ["_law_tops","_law_start","_law_many"] ["_law_tops","_law_start","_law_many"] (wm zc3):=scA
theorem qv1:zq "_law_after" zc3 ["_law_tops","_law_start","_law_many"]:=λ_ _ _ _ _ _ _ h=>bA3 h λ_ _ _=>rfl
abbrev zc4:Stmt:=top 71
theorem Y0:FnScope ["_law_name","_law_known"] ["_law_name","_law_known"] (wm zc4):=scA
theorem Jg:zq "_law_named_new" zc4 ["_law_name","_law_known"]:=λ_ _ _ _ _ _ _ h=>bA2 h λ_ _=>rfl
abbrev zc5:Stmt:=top 72
theorem qwq:FnScope ["_law_roads","_law_deed_here","_law_row"] ["_law_roads","_law_deed_here"] (wm zc5):=scA
theorem qwh:zq "_law_changed" zc5 ["_law_roads","_law_deed_here"]:=λ_ _ _ _ _ _ _ h=>bA2 h λ_ _=>rfl
abbrev za5:Stmt:=top 73
theorem qxn:FnScope ["_law_walkers","_law_name","_law_wide","_law_whose","_law_top","_law_bottom"] ["_law_walkers","_law_name","_law_wide"] (wm za5):=scA
theorem qz6:zq "_law_beyond" za5 ["_law_walkers","_law_name","_law_wide"]:=λ_ _ _ _ _ _ _ h=>bA3 h λ_ _ _=>rfl
abbrev zc6:Stmt:=top 74
theorem Z6:FnScope ["_law_roads","_law_walkers","_law_deed_here","_law_word","_law_row"] ["_law_roads","_law_walkers","_law_deed_here"] (wm zc6):=scA
theorem Yk:zq "_law_roads_done" zc6 ["_law_roads","_law_walkers","_law_deed_here"]:=λ_ _ _ _ _ _ _ h=>bA3 h λ_ _ _=>rfl
abbrev zc7:Stmt:=top 75
theorem wws:FnScope ["_law_roads","_law_walkers","_law_deed_here","_law_top","_law_bottom"] ["_law_roads","_law_walkers","_law_deed_here"] (wm zc7):=scA
theorem wxd:zq "_law_set" zc7 ["_law_roads","_law_walkers","_law_deed_here"]:=λ_ _ _ _ _ _ _ h=>bA3 h λ_ _ _=>rfl
abbrev zc8:Stmt:=top 76
theorem quh:FnScope ["_law_roads","_law_walkers","_law_name","_law_many","_law_whose","_law_top","_law_bottom","_law_tops","_law_start"] ["_law_roads","_law_walkers","_law_name","_law_many"] (wm zc8):=scA
theorem quv:zq "_law_gone" zc8 ["_law_roads","_law_walkers","_law_name","_law_many"]:=λ_ _ _ _ _ _ _ h=>bA4 h λ_ _ _ _=>rfl
abbrev zc9:Stmt:=top 77
theorem Wp:FnScope ["_law_roads","_law_walkers","_law_deed_here","_law_told_here","_law_name"] ["_law_roads","_law_walkers","_law_deed_here"] (wm zc9):=scA
theorem W7:zq "_law_walkers_done" zc9 ["_law_roads","_law_walkers","_law_deed_here"]:=λ_ _ _ _ _ _ _ h=>bA3 h λ_ _ _=>rfl
abbrev zda:Stmt:=top 78
theorem qu0:FnScope ["_law_past","_law_roads","_law_walkers","_law_deed_here","_law_kept","_law_elder","_law_those","_law_kept_now","_law_before","_law_word","_law_told_here"] ["_law_past","_law_roads","_law_walkers","_law_deed_here"] (wm zda):=scA
theorem qux:zq "_law_done" zda ["_law_past","_law_roads","_law_walkers","_law_deed_here"]:=λ_ _ _ _ _ _ _ h=>bA4 h λ_ _ _ _=>rfl
abbrev zdb:Stmt:=top 79
theorem wxv:FnScope ["_law_house","_law_deed_here"] ["_law_house","_law_deed_here"] (wm zdb):=scA
theorem ww9:zq "_law_run" zdb ["_law_house","_law_deed_here"]:=λ_ _ _ _ _ _ _ h=>bA2 h λ_ _=>rfl
abbrev zdc:Stmt:=top 80
theorem qy0:FnScope ["_law_house","_law_deed_here","_law_word","_law_told_here"] ["_law_house","_law_deed_here"] (wm zdc):=scA
theorem qy4:zq "_law_told" zdc ["_law_house","_law_deed_here"]:=λ_ _ _ _ _ _ _ h=>bA2 h λ_ _=>rfl
abbrev zdd:Stmt:=top 81
theorem qyj:FnScope ["_law_house","_law_one","_law_other","_law_found"] ["_law_house","_law_one","_law_other"] (wm zdd):=scA
theorem quq:zq "_law_meet" zdd ["_law_house","_law_one","_law_other"]:=λ_ _ _ _ _ _ _ h=>bA3 h λ_ _ _=>rfl
abbrev zde:Stmt:=top 82
theorem qzd:FnScope ["_law_roads","_law_walkers","_law_made","_law_name","_law_whose","_law_top","_law_bottom"] ["_law_roads","_law_walkers"] (wm zde):=scA
theorem qzj:zq "_law_afresh" zde ["_law_roads","_law_walkers"]:=λ_ _ _ _ _ _ _ h=>bA2 h λ_ _=>rfl
abbrev zdm:Stmt:=top 83
theorem zic:FnScope ["_law_script","_law_names_here","_law_house","_law_roads","_law_walkers","_law_past","_law_k","_law_deed_here","_law_due","_law_other","_law_one","_law_two","_law_many","_law_name"] ["_law_script"] (wm zdm):=scA
local macro_rules | `(tactic| walk_at "sq")=>`(tactic| first | assumption | exact SqT.new | exact SqL.new | ((with_reducible refine Same.sqt (Same.upd (by assumption)) ?_);walk_at "sq") | ((with_reducible refine Same.sql (Same.upd (by assumption)) ?_);walk_at "sq"))
local macro_rules | `(tactic| walk_at "at")=>`(tactic| first | rfl | exact Jz (by lia) (by lia))
local macro_rules | `(tactic| walk_at "mul")=>`(tactic| first | assumption | exact IntMulOk.of_left (intBits_le_64 (by lia) (by lia)) | exact IntMulOk.of_right (intBits_le_64 (by lia) (by lia)) | exact Sm.ok (by assumption) (by assumption) (by lia))
local macro_rules | `(tactic| walk_at "pos")=>`(tactic| first | lia | decide +kernel)
local macro_rules | `(tactic| walk_at "div")=>`(tactic| exact⟨by first | lia | decide +kernel,by unfold Sm;decide +kernel⟩)
local macro_rules | `(tactic| walk_at "loc")=>`(tactic| first | exact Or.inl rfl | exact Or.inr rfl)
local macro_rules | `(tactic| walk_at "cap")=>`(tactic| repeat (first | exact trivial | refine⟨rfl,?_⟩))
local macro_rules | `(tactic| walk_at "has")=>`(tactic| repeat (first | exact trivial | (refine⟨λz=>?_,(by lia),?_⟩;(first | exact⟨_,rfl⟩ | cases z))))
local macro_rules | `(tactic| walk_at "cix")=>`(tactic| repeat (first | exact trivial | refine⟨⟨_,_,rfl,rfl,rfl,rfl⟩,?_⟩))
local macro_rules | `(tactic| walk_at "hasK")=>`(tactic| repeat (first | exact trivial | (refine⟨λz=>?_,λz=>?_,?_⟩;(first | exact⟨_,rfl⟩ | cases z);(first | rfl | cases z))))
abbrev mR(K:PySem.W.Frag)(c d:PySem.Addr):=PySem.W.mroIn K c (.ref d)=some false
structure Txt (K:Aa)(mg:Str->Option Ag)(qr:Aj)(qh:Aj)(qx:Aj)(qp:Aj)(qu:Aj)(wz:Aj)(wu:Aj)(qm:Aj)(wj:Aj)(q8:Aj)(qj:Aj)(wy:Aj)(wf:Aj)(qw:Aj)(wv:Aj)(qg:Aj)(qz:Aj)(qq:Aj):Prop where
 tuple_:mg "tuple" = none
 len_:mg "len" = none
 abs_:mg "abs" = none
 range_:mg "range" = none
 list_:mg "list" = none
 min_:mg "min" = none
 max_:mg "max" = none
 all_:mg "all" = none
 any_:mg "any" = none
 sorted_:mg "sorted" = none
 enumerate_:mg "enumerate" = none
 dict_:mg "dict" = none
 isinstance_:mg "isinstance" = none
 int_:mg "int" = none
 bool_:mg "bool" = none
 str_:mg "str" = none
 zid:mg "RoadError" = some (.ref qr)
 zdf:ExcC K qr
 zdn:mg "BadLine" = some (.ref qh)
 zad:ExcC K qh
 zdo:mg "BadBottom" = some (.ref qx)
 zaj:ExcC K qx
 zhn:mg "OffRoad" = some (.ref qp)
 zal:ExcC K qp
 zho:mg "BadCount" = some (.ref qu)
 zam:ExcC K qu
 zie:mg "TooLong" = some (.ref wz)
 za6:ExcC K wz
 zif:mg "BadRow" = some (.ref wu)
 za7:ExcC K wu
 zhp:mg "BadName" = some (.ref qm)
 zac:ExcC K qm
 zhq:mg "Taken" = some (.ref wj)
 zae:ExcC K wj
 zhr:mg "NoRoad" = some (.ref q8)
 zaf:ExcC K q8
 zhs:mg "NoWalker" = some (.ref qj)
 zah:ExcC K qj
 zdp:mg "Stood" = some (.ref wy)
 zai:ExcC K wy
 zht:mg "Apart" = some (.ref wf)
 za2:ExcC K wf
 zhu:mg "NothingDone" = some (.ref qw)
 zao:ExcC K qw
 zdq:mg "BadText" = some (.ref wv)
 zap:ExcC K wv
 cl:Cls K qg
 na:NoAttr K qg "heights"
 zaq:∃t,mg "WIDEST" = some (.int 24 t)
 zig:mg "Road" = some (.ref qg)
 clW:Cls K qz
 clH:Cls K qq
 naWw:NoAttr K qz "whose"
 naWp:NoAttr K qz "point"
 naWt:NoAttr K qz "times"
 naHr:NoAttr K qq "roads"
 naHw:NoAttr K qq "walkers"
 naHd:NoAttr K qq "done"
 zih:mg "Walker" = some (.ref qz)
 zii:mg "House" = some (.ref qq)
 zar:∃t,mg "LONGEST_TRACE" = some (.int 1000 t)
 zak:∃t,mg "FARTHEST" = some (.int 1000000000000000000000000000000000000000000000000000000000000 t)
 zas:∃t,mg "LONGEST_NAME" = some (.int 12 t)
 zat:∃t,mg "GREATEST_BOTTOM" = some (.int 40 t)
 zau:∃t,mg "LETTERS" = some (.str "abcdefghijklmnopqrstuvwxyz" t)
 ms:mR K wj qm/\mR K qh qm/\mR K qh wj/\mR K q8 qm/\mR K q8 wj/\mR K q8 qh/\mR K qj qm/\mR K qj wj/\mR K qj qh/\mR K qj q8/\mR K wy qm/\mR K wy wj/\mR K wy qh/\mR K wy q8/\mR K wy qj/\mR K qx qm/\mR K qx wj/\mR K qx qh/\mR K qx q8/\mR K qx qj/\mR K qx wy/\mR K qp qm/\mR K qp wj/\mR K qp qh/\mR K qp q8/\mR K qp qj/\mR K qp wy/\mR K qp qx/\mR K qu qm/\mR K qu wj/\mR K qu qh/\mR K qu q8/\mR K qu qj/\mR K qu wy/\mR K qu qx/\mR K qu qp/\mR K qw qm/\mR K qw wj/\mR K qw qh/\mR K qw q8/\mR K qw qj/\mR K qw wy/\mR K qw qx/\mR K qw qp/\mR K qw qu
 io:IsO K qq
 zav:∃t,mg "LONGEST_NUMBER" = some (.int 3 t)
 zaw:∃t,mg "FIGURES" = some (.str "0123456789" t)
abbrev FK(P:Ac)(w:Ah)(K:Aa)(mg:Str->Option Ag)(base:Heap):=↑FnOk (CXE P w)
section
variable {P:Ac}{w:Ah}{K:Aa}{mg:Str->Option Ag}{base:Heap}{qr:Aj}{qh:Aj}{qx:Aj}{qp:Aj}{qu:Aj}{wz:Aj}{wu:Aj}{qm:Aj}{wj:Aj}{q8:Aj}{qj:Aj}{wy:Aj}{wf:Aj}{qw:Aj}{wv:Aj}{qg:Aj}{qz:Aj}{qq:Aj}
variable {f:Aj}{fd:Ad}(T:Txt K mg qr qh qx qp qu wz wu qm wj q8 qj wy wf qw wv qg qz qq)
def qw1 (C:Aj):Sp:=λvs H Q E=>∃b:Int,vs=[.int b]/\(1<=b->Q .non H)/\(b<1->E (.ref C) none H)
include T in
theorem xw8 (F:Fun K "check_bottom" "check_bottom" zbf f fd):↑FK 1 f fd ["bottom"] (qw1 qx):=by
 have J:=qwx;refine F.okX J (λI H Q E h=>by obtain⟨_,rfl,_⟩:=h;rfl) λ_ _ _ _ H I Q E L h=>?_;obtain⟨b,rfl,h1,h2⟩:=h;refine⟨_,(qt (x4 (wn j8 (pv 0) qc (wt _)) (qt (vz rfl T.zaj zy rfl T.zdo (xu xn qk))) w9)),?_⟩;exists (xb rfl rfl (exI rfl ?_));refine zn (λG=>?_) (λG=>?_)
 .exact⟨⋯,h2 G⟩
 .exact h1 ⋯
include T in
theorem xku (F:Fun K "_law_cell" "_law_cell" zcr f fd):↑FK 1 f fd ["_law_script","_law_at"] (qz5 K):=by
 have U:=quy;refine F.okX U (λS H Q E h=>by obtain⟨_,_,_,rfl,_⟩:=h;rfl) λ_ _ _ _ H S Q E hr h=>?_;obtain⟨a,O,i,rfl,J,Z,k⟩:=h;have I:(O.map V.int).length=O.length:=aa _;refine⟨_,(qy (x4 (wn j8 (pv 1) (xh x9 rfl T.len_ aF (q9 (pv 0) qk)) (wt _)) (qt (w6 (xj zt (pv 0) (pv 1) (λ_ _=>rfl)))) w9)
   (qy (x4 (wn zd (xh x9 rfl T.len_ aF (q9 (pv 0) qk)) qc (wt _)) (qt (w6 (xz zf (xz zp qc (pv 1)) qc))) w9)
   (qt (w6 (xz zf (xj zt (pv 0) (xz jm (pv 1) (xh x9 rfl T.len_ aF (q9 (pv 0) qk))) (λ_ _=>rfl)) (xz zp qc (pv 1))))))),?_⟩
 exists (exI rfl ⟨_,_,rfl,.inl J,xb rfl rfl (exI rfl ?_)⟩);refine zn (λG=>?_) (λG=>?_)
 .rw[I]at G;exists (exI rfl (exX rfl rfl J (Jz Z G) ?_));exact k _ (by rw[wxq,ak G])
 .rw[I]at G;exists ⟨_,_,rfl,.inl J,rfl,_,rfl,?_⟩;rw[I];refine v9 (λL=>?_) (λL=>?_)
  .exists (xb rfl rfl ⟨(by walk_at "mul"),xb rfl rfl ?_⟩);exact k _ (by rw[wxq,ag G,ak L])
  .exists (exI rfl (exI rfl ⟨_,_,rfl,.inl J,xb rfl rfl ⟨(by rw[I];lia),?_⟩⟩));rw[I];refine exX rfl rfl J (Jz (bI _ L) (bO _ ⋯)) (exI rfl (xb rfl rfl ⟨(by walk_at "mul"),xb rfl rfl ?_⟩));exact k _ (by rw[wxq,ag G,ag L])
include T in
theorem xvf (F:Fun K "_law_pick" "_law_pick" zcs f fd)(za8:↑Cal "_law_cell" 1 (qz5 K)):↑FK 2 f fd ["_law_script","_law_at","_law_turn","_law_many"] (W8 K):=by
 have U:=qj6;refine F.okX U (λS H Q E h=>by obtain⟨_,_,_,_,_,rfl,_⟩:=h;rfl) λ_ _ _ _ H S Q E hr h=>?_;obtain⟨a,Z,i,t,m,rfl,hS,h0,t0,t1,m0,k⟩:=h;refine⟨_,(qy (xx (i:=4) (wCA za8 (q9 (pv 0) (q9 (pv 1) qk))))
   (qy (x4 (wn wxf (xh Yd rfl T.abs_ Yh (q9 (pv 4) qk)) (xz qqu qc qc) (wt _)) (qy (xx (i:=5) (xh Yd rfl T.abs_ Yh (q9 (pv 4) qk)))
   (qy (yq aS rfl (ut rfl T.range_ (q9 (pv 2) qk)) (xy (i:=6)) (qt (xx (i:=5) (xz uy (pv 5) qc))))
   (qy (x4 (wn j8 (pv 4) qc (wt _)) (qt (xx (i:=5) (xz jm (pv 5) qc))) w9)
   (qt (w6 (xz jm (pv 5) (pv 3))))))) w9)
   (qy (xx (i:=7) (xz jm (pv 4) qc))
   (qy (xx (i:=8) (xz jm (xz zf (xz zf (xz zp (pv 7) qc) (xz zp (pv 2) qc)) qc) qc))
   (qy (xx (i:=9) (xz jm (xz zf (xz zf (xz zp (pv 8) (pv 8)) (xz zp (pv 7) qc)) (xz zp (pv 2) qc)) qc))
   (qt (w6 (xz jm (xz jm (xz zf (xz zf (xz zp (pv 9) (pv 9)) (xz zp (pv 8) qc)) (xz zp (pv 2) qc)) qc) (pv 3))))))))),?_⟩
 exists (exI rfl ?_);refine⟨a,Z,i,rfl,hS,h0,λc hc=>?_⟩;have O:∀v,v=wqs c t%m->Q (.int v) H:=λv L=>by
  refine k v (by rw[L,qq5,hc]) ?_ ?_
  .rw[L];exact bI _ ⋯
  .rw[L];exact bO _ m0
 exists (exI rfl (xb rfl rfl ⟨⟨⋯,⋯,⋯⟩,xb rfl rfl (exI rfl ?_)⟩));refine zn (λJ=>?_) (λJ=>?_)
 .have G:10 ^ 18<=Wn c:=J;exists (exI rfl ?_);exists ⟨t,rfl,⋯,⋯,Q6 (λj σ H1=>H1=H/\∃z,σ=[some (.ref a),some (.int i),some (.int t),some (.int m),some (.int c),some (.int (divs (Wn c) j)),z,none,none,none]) ⟨rfl,_,rfl⟩ ?_ ?_⟩
  .rintro j σ H1 hj ⟨rfl,z,rfl⟩;exact exI rfl (xb rfl rfl ⟨(by walk_at "div"),rfl,_,rfl⟩)
  .rintro σ H1 ⟨rfl,z,rfl⟩;exists (xb rfl rfl (exI rfl ?_));refine zn (λI=>?_) (λI=>?_)
   .exists (xb rfl rfl ⟨(by walk_at "pos"),exI rfl (exI rfl (xb rfl rfl ⟨(by walk_at "pos"),?_⟩))⟩);exact O _ (by rw[xxg G I])
   .exists (exI rfl (xb rfl rfl ⟨(by walk_at "pos"),?_⟩));exact O _ (by rw[wjr G I])
 .have G:¬ 10 ^ 18<=Wn c:=J;have l0:=bI c (show(1000003:Int)≠0 by decide);have l1:=bO c (show(0:Int)<1000003 by decide);exists (xb rfl rfl ⟨(by walk_at "pos"),exI rfl (xb rfl rfl ⟨(by walk_at "mul"),exI rfl (xb rfl rfl ⟨(by walk_at "mul"),xb rfl rfl (xb rfl rfl (xb rfl rfl ⟨(by walk_at "pos"),?_⟩))⟩)⟩)⟩);have o0:0<=qyw c t:=bI _ ⋯;have o1:qyw c t<999983:=bO _ ⋯;refine⟨V.int (qyw c t),rfl,V.int (qyw c t),rfl,xb rfl rfl ⟨(by walk_at "mul"),exI rfl (xb rfl rfl ⟨(by walk_at "mul"),xb rfl rfl (exI rfl (xb rfl rfl ⟨(by walk_at "mul"),xb rfl rfl (xb rfl rfl ⟨(by walk_at "pos"),?_⟩)⟩))⟩)⟩⟩;have w0:0<=wx3 c t:=bI _ ⋯;have w1:wx3 c t<1000033:=bO _ ⋯;refine⟨V.int (wx3 c t),rfl,V.int (wx3 c t),rfl,xb rfl rfl ⟨(by walk_at "mul"),V.int (qyw c t),rfl,xb rfl rfl ⟨(by walk_at "mul"),xb rfl rfl (exI rfl (xb rfl rfl ⟨(by walk_at "mul"),xb rfl rfl (xb rfl rfl ⟨(by walk_at "pos"),exI rfl (xb rfl rfl ⟨(by walk_at "pos"),?_⟩)⟩)⟩))⟩⟩⟩;exact O _ (by rw[wur G])
def Within (n f:Int)(m:Option Int):Prop:=f<=n/\∀b,m=some b->n<=b
def qw8 (C:Aj):Sp:=λvs H Q E=>∃(n f:Int) (m:V) (o:Option Int),vs=[.int n,.int f,m]/\(m=.non/\o=none\/∃b,m=.int b/\o=some b)/\(Within n f o->Q .non H)/\(¬ Within n f o->E (.ref C) none H)
include T in
theorem wu5 (F:FunD K "check_count" za4 f fd):↑FK 1 f fd ["number","fewest","most"] (qw8 qu):=by
 have I:=qzw;refine F.okX I (λG H Q E h=>by obtain⟨_,_,_,_,rfl,_⟩:=h;rfl) λ_ _ _ _ H G Q E S h=>?_;obtain⟨n,U,m,o,rfl,O,k,x⟩:=h;refine⟨_,(qt (x4 (PW.pt (Qk (wn j8 (pv 0) (pv 1) (wt _)) (y8 (PW.pt (Z8 (wn xzp (pv 2) jx (wt _)) (Wc (wn y4 (pv 0) (pv 2) (wt _)))))))) (qt (vz rfl T.zam zy rfl T.zho (xu xn qk))) w9)),?_⟩;exists (exI rfl (xb rfl rfl (exI rfl ?_)));refine zn (λL=>?_) (λL=>?_)
 .refine jg ?_;exact⟨sz1,x (λz=>by have:=z.1;lia)⟩
 .rcases O with⟨rfl,rfl⟩|⟨b,rfl,rfl⟩
  .exists ⟨rfl,_,rfl,?_⟩;refine yz ?_;exact k ⟨⋯,λb e=>nomatch e⟩
  .exists ⟨rfl,_,rfl,?_⟩;refine jg ?_;exists (exI rfl (xb rfl rfl (exI rfl ?_)));refine zn (λJ=>?_) (λJ=>?_)
   .exact⟨sz1,x (λz=>by have:=z.2 b rfl;lia)⟩
   .exact k ⟨⋯,λb' e=>by cases e;lia⟩
def xm (ns:List Int):Prop:=2<=ns.length/\ns.length<=25/\∀h∈ns,0<=h/\h<=(ns.length:Int)-1
def qz1 (K:Aa):Sp:=λvs H Q _=>∃(p:Aj) (ns:List Int),vs=[.ref p]/\SqL K H p (ns.map V.int)/\(xm ns->Q (.bl true) H)/\(¬ xm ns->Q (.bl false) H)
include T in
theorem wvx (F:Fun K "is_line" "is_line" zbn f fd):↑FK 1 f fd ["heights"] (qz1 K):=by
 have sc:=wx9;refine F.okX sc (λZ H Q E h=>by obtain⟨_,_,rfl,_⟩:=h;rfl) λ_ _ _ _ H Z Q E hr h=>?_;obtain⟨p,G,rfl,L,k1,I⟩:=h;have ad:(G.map V.int).length=G.length:=aa _;obtain⟨tw,U⟩:=T.zaq;refine⟨_,(qy (xx (i:=1) (xz kh (xh x9 rfl T.len_ aF (q9 (pv 0) qk)) qc))
   (qy (x4 (PW.pt (Qk (wn j8 (pv 1) qc (wt _)) (y8 (wn y4 (pv 1) (ug (v:=V.int 24) rfl U ⟨_,rfl⟩) (wt _))))) (qt (w6 qqt)) w9)
   (qt (w6 (qxb (yw wxf (xh (qv9 rfl) rfl T.min_ PyProof.Rows.boot_min (q9 (pv 0) qk)) qc (wt _)) (wz8 (yw wqp (xh (qkh rfl) rfl T.max_ eE (q9 (pv 0) qk)) (pv 1) (wt _)))))))),?_⟩
 exists ⟨_,_,rfl,.inl L,xb rfl rfl ?_⟩;exists (xb rfl rfl (exI rfl ?_));rw[ad];refine zn (λq1=>?_) (λq1=>?_)
 .refine jg ?_;exact I (λz=>by have:=z.1;lia)
 .exists (xb rfl rfl (exI rfl ?_));refine zn (λq2=>?_) (λq2=>?_)
  .exact I (λz=>by have:=z.2.1;lia)
  .exists ⟨p,G,rfl,L,⋯,λm hm an=>(xb rfl rfl (exI rfl ?_))⟩;refine zn (λO=>?_) (λO=>?_)
   .exists ⟨p,G,rfl,L,⋯,λJ ab ah=>(exI rfl (xb rfl rfl ?_))⟩;show Q (.bl (decide (J<=(G.length:Int)-1))) H;by_cases q4:J<=(G.length:Int)-1
    .rw[aT q4];exact k1 ⟨⋯,⋯,λh S=>by have:=an h S;have:=ah h S;lia⟩
    .rw[be q4];exact I (λz=>q4 (z.2.2 J ab).2)
   .exact I (λz=>O (z.2.2 m hm).1)
def RoadAt (C:Aj)(H:Hp)(r:Aj)(ns:List Int):Prop:=∃dx q,H r=some (.ins C dx [("heights",.ref q)])/\H q=some (.lst (ns.map V.int))
variable {C r:Aj}{H H':Hp}
theorem RoadAt.same {ns:List Int}(h:RoadAt C H r ns)(s:Same H H'):RoadAt C H' r ns:=by obtain⟨dx,q,h1,h2⟩:=h;exact⟨dx,q,s _ _ h1,s _ _ h2⟩
variable {q:Aj}
theorem ur:([("heights",V.ref q)]:List (Str×V)).lookup ("heights" : Str)=some (.ref q):=by rw[aO];simp
theorem vw {m:Str}(h:¬ m = "heights"):([("heights",V.ref q)]:List (Str×V)).lookup m=none:=by rw[aO];have:(m==("heights" : Str))=false:=aY.mpr h;rw[this];rfl
def Yj (K:Aa)(CB C:Aj):Sp:=λvs H Q E=>∃(r dx p:Aj) (ns:List Int),vs=[.ref r,.ref p]/\H r=some (.ins C dx [])/\SqL K H p (ns.map V.int) /\
 (xm ns->∀H' q,H q=none->(∀b o,H b=some o->b≠r->H' b=some o)->H' r=some (.ins C dx [("heights",.ref q)])->H' q=some (.lst (ns.map V.int))->Q .non H')/\(¬ xm ns->E (.ref CB) none H)
include T in
theorem xzn (F:Fun K "__init__" "Road.__init__" zbo f fd)(zij:↑Cal "is_line" 1 (qz1 K)):↑FK 2 f fd ["self","heights"] (Yj K qh qg):=by
 have S:=qqx;refine F.okX S (λO H Q E h=>by obtain⟨_,_,_,_,rfl,_⟩:=h;rfl) λ_ _ _ _ H O Q E hr h=>?_;obtain⟨r,dx,p,J,rfl,I,L,k,x⟩:=h;refine⟨_,(qy (x4 (qqb (Q9 (wCA zij (q9 (pv 1) qk)))) (qt (vz rfl T.zad zy rfl T.zdn (xu xn qk))) w9)
   (qt (Zz (pv 0) (vb jt rfl T.list_ bA (q9 (pv 1) qk)) rfl))),?_⟩
 refine⟨_,rfl,p,J,rfl,L,λU=>(exI rfl ?_),λab=>(exI rfl ?_)⟩
 .refine yz ?_;exists ⟨_,_,rfl,.inl L,λq G=>?_⟩;have Z:upd H q (.lst (J.map V.int)) r=some (.ins qg dx []):=by rw[wg (wq I G)];exact I
  exists ⟨r,qg,dx,[],rfl,Z,T.cl,T.na,(by show 0<1000;decide),?_⟩;refine k U _ q G (λb o e n=>?_) qb ?_
  .rw[wg n,wg (wq e G)];exact e
  .rw[wg (wq I G).symm,qb]
 .refine jg ?_;exact⟨sz1,x ab⟩
def Zy (C:Aj):Sp:=λvs H Q _=>∃(r:Aj) (ns:List Int),vs=[.ref r]/\RoadAt C H r ns/\Q (.int ((ns.length:Int)-1)) H
include T in
theorem wu6 (F:Fun K "width" "Road.width" zbp f fd):↑FK 1 f fd ["self"] (Zy qg):=by have I:=qks;refine F.okX I (λG H Q E h=>by obtain⟨_,_,rfl,_⟩:=h;rfl) λ_ _ _ _ H G Q E L h=>?_;obtain⟨r,J,rfl,⟨dx,q,h1,h2⟩,k⟩:=h;refine⟨_,(qt (w6 (xz kh (xh x9 rfl T.len_ aF (x8 (zh (pv 0) rfl) qk)) qc))),?_⟩;exists ⟨r,qg,dx,_,_,rfl,h1,T.cl,T.na,ur,q,exI rfl ⟨.inl (SqL.of h2),xb rfl rfl ?_⟩⟩;rw[aa];exact k
def u6 (C:Aj):Sp:=λvs H Q _=>∃(r:Aj) (ns:List Int),vs=[.ref r]/\RoadAt C H r ns/\∀p,H p=none->Q (.ref p) (upd H p (.lst (ns.map V.int)))
include T in
theorem wz5 (F:Fun K "corners" "Road.corners" zbq f fd):↑FK 1 f fd ["self"] (u6 qg):=by have I:=qwv;refine F.okX I (λG H Q E h=>by obtain⟨_,_,rfl,_⟩:=h;rfl) λ_ _ _ _ H G Q E L h=>?_;obtain⟨r,J,rfl,⟨dx,q,h1,h2⟩,k⟩:=h;refine⟨_,(qt (w6 (vb jt rfl T.list_ bA (x8 (zh (pv 0) rfl) qk)))),?_⟩;exact exI rfl ⟨r,qg,dx,_,_,rfl,h1,T.cl,T.na,ur,q,exI rfl ⟨.inl (SqL.of h2),λp np=>k p np⟩⟩
def qj2:Sp:=λvs H Q _=>∃x y:Int,vs=[.int x,.int y]/\0<=x/\0<=y/\Q (.int (qwm x y)) H
theorem wwy {tb:TS}{c:TT}{D:Ends}{x y:Int}(hx:0<=x)(hy:0<=y)(hc:c=qq1 (tOp (rI0 λi j=>.bl (decide (j<i))) (qwg 1) (tC (.int 0))))(hb:tb=tPar 0 1 (jv (qwg 1) (jv (tOp (rI (λ_ j=>0<j) λi j=>.int (i%j)) (qwg 0) (qwg 1)) y0)))(hD:D.nx [some (.int (qwm x y)),some (.int 0)] H):wv0 c tb D [some (.int x),some (.int y)] H:=by
 subst hc hb;refine qvq (λσ H1=>H1=H/\∃u v:Int,σ=[some (.int u),some (.int v)]/\0<=u/\0<=v/\qwm u v=qwm x y) (λσ _=>match σ with|[_,some (.int v)]=>v.toNat|_=>0) ⟨rfl,x,y,rfl,hx,hy,rfl⟩ ?_ λσ H Q Q' h ⟨v,e,i,j,e1,e2,k,e3,q⟩=>⟨v,e,i,j,e1,e2,k,e3,h _ _ q⟩;rintro σ H1 ⟨rfl,u,v,rfl,hu,hv,e⟩;exists (xb rfl rfl (exI rfl ?_));refine zn (λq=>?_) (λq=>?_)
 .have h1:=bI u (show v≠0 by lia);have h2:=bO u q;exists (exI rfl (exI rfl (xb rfl rfl ⟨q,_,_,rfl,⟨rfl,v,u%v,rfl,hv,h1,?_⟩,?_⟩)))
  .rw[wyj hu q,e]
  .show(u%v).toNat<v.toNat;lia
 .have z:v=0:=by lia
  subst z;rw[wyu hu]at e;subst e;exact hD
include T in
theorem zik (F:Fun K "common_divisor" "common_divisor" zbg f fd):↑FK 1 f fd ["one","other"] qj2:=by
 have G:=Yr;refine F.okX G (λI H Q E h=>by obtain⟨_,_,rfl,_⟩:=h;rfl) λ_ _ _ _ H I Q E O h=>?_;obtain⟨x,y,rfl,L,J,k⟩:=h;refine⟨_,(qy (Y2 aS (wn y4 (pv 1) qc (wt _)) (qt (xw4 (i:=0) (j:=1) rfl G.nd rfl rfl ⋯ rfl rfl (q9 (pv 1) (vg (xz jm (pv 0) (pv 1)) qk)) rfl)))
   (qt (w6 (pv 0)))),?_⟩
 exact wwy L J rfl rfl (exI rfl k)
include T in
theorem wj4 (F:Fun K "_law_common" "_law_common" zcz f fd):↑FK 1 f fd ["_law_one","_law_other"] qj2:=by
 have G:=qzh;refine F.okX G (λI H Q E h=>by obtain⟨_,_,rfl,_⟩:=h;rfl) λ_ _ _ _ H I Q E O h=>?_;obtain⟨x,y,rfl,L,J,k⟩:=h;refine⟨_,(qy (Y2 aS (wn y4 (pv 1) qc (wt _)) (qt (xw4 (i:=0) (j:=1) rfl G.nd rfl rfl ⋯ rfl rfl (q9 (pv 1) (vg (xz jm (pv 0) (pv 1)) qk)) rfl)))
   (qt (w6 (pv 0)))),?_⟩
 exact wwy L J rfl rfl (exI rfl k)
def ptV (p:Int×Int):List V:=[.int p.1,.int p.2]
def Zq (C:Aj):Sp:=λvs H Q E=>∃t b:Int,vs=[.int t,.int b]/\(1<=b->Sm 9000 b/\∀p,H p=none->Q (.ref p) (upd H p (.tup (ptV (xv t b)))))/\(b<1->E (.ref C) none H)
include T in
theorem wyb (F:Fun K "lowest" "lowest" zbh f fd)(zdg:↑Cal "check_bottom" 1 (qw1 qx))(zil:↑Cal "common_divisor" 1 qj2) :
  ↑FK 2 f fd ["top","bottom"] (Zq qx):=by
 have J:=wyn;refine F.okX J (λI H Q E h=>by obtain⟨_,_,rfl,_⟩:=h;rfl) λ_ _ _ _ H I Q E O h=>?_;obtain⟨t,b,rfl,k,x⟩:=h;refine⟨_,(qy (zx (wCA zdg (q9 (pv 1) qk)))
   (qy (xx (i:=2) (wCA zil (k6 (xh Yd rfl T.abs_ Yh (q9 (pv 0) qk)) (q9 (pv 1) qk))))
   (qt (w6 (zk (vg (xz uy (pv 0) (pv 2)) (vg (xz uy (pv 1) (pv 2)) qk))))))),?_⟩
 refine⟨_,rfl,b,rfl,λG=>?_,λG=>x G⟩;obtain⟨L,k⟩:=k G;have S:=um (t:=t) G;have hs:Sm 9000 (gOf t b):=L.of_le (by have:=xxv (t:=t) G;lia);exists (exI rfl (exI rfl ⟨Wn t,b,rfl,wkm t,⋯,?_⟩));exists ⟨V.int (gOf t b),rfl,xb rfl rfl ⟨⟨⋯,hs⟩,exI rfl ⟨V.int (gOf t b),rfl,xb rfl rfl ⟨⟨⋯,hs⟩,sz2,λp n=>?_⟩⟩⟩⟩;exact k p n
def wjn:Sp:=λvs H Q _=>∃t b:Int,vs=[.int t,.int b]/\1<=b/\Sm 9000 b/\∀p,H p=none->Q (.ref p) (upd H p (.tup (ptV (xv t b))))
include T in
theorem zim (F:Fun K "_law_low" "_law_low" zc0 f fd)(zin:↑Cal "_law_common" 1 qj2):↑FK 2 f fd ["_law_top","_law_bottom"] wjn:=by
 have J:=ww7;refine F.okX J (λI H Q E h=>by obtain⟨_,_,rfl,_⟩:=h;rfl) λ_ _ _ _ H I Q E O h=>?_;obtain⟨t,b,rfl,G,L,k⟩:=h;have S:=um (t:=t) G;have hs:Sm 9000 (gOf t b):=L.of_le (by have:=xxv (t:=t) G;lia);refine⟨_,(qy (xx (i:=2) (wCA zin (k6 (xh Yd rfl T.abs_ Yh (q9 (pv 0) qk)) (q9 (pv 1) qk))))
   (qt (w6 (zk (vg (xz uy (pv 0) (pv 2)) (vg (xz uy (pv 1) (pv 2)) qk)))))),?_⟩
 exists (exI rfl (exI rfl ⟨Wn t,b,rfl,wkm t,⋯,?_⟩));exists ⟨V.int (gOf t b),rfl,xb rfl rfl ⟨⟨⋯,hs⟩,exI rfl ⟨V.int (gOf t b),rfl,xb rfl rfl ⟨⟨⋯,hs⟩,sz2,λp n=>?_⟩⟩⟩⟩;exact k p n
variable {hs:List Int}
theorem at_h {k:Int}(h0:0<=k)(h1:k<hs.length):atI (hs.map V.int) k=some (V.int (hAt hs k)):=Jz h0 h1
theorem wjv (ok:xm hs)(k:Int):0<=hAt hs k/\hAt hs k<=24:=by
 unfold hAt;rw[av];cases e:hs[k.toNat]? with
 |none=>exact⟨⋯,⋯⟩
 |some v =>
  have hm:=ok.2.2 v (aK e);have:=ok.2.1;show 0<=v/\v<=24;lia
def wvn (C CR:Aj):Sp:=λvs H Q E=>∃(r:Aj) (hs:List Int) (k:Int),vs=[.ref r,.int k]/\RoadAt C H r hs/\(0<=k->k<(hs.length:Int)-1->∀p,H p=none->Q (.ref p) (upd H p (.tup [.int (hAt hs k),.int (hAt hs (k+1))]))) /\
 (k<0\/(hs.length:Int)-1<=k->E (.ref CR) none H)
include T in
theorem xvw (F:Fun K "ends" "Road.ends" zbr f fd)(zax:↑MCal qg "width" 1 (Zy qg)):↑FK 2 f fd ["self","stretch"] (wvn qg wu):=by
 have O:=qyf;refine F.okX O (λL H Q E h=>by obtain⟨_,_,_,rfl,_⟩:=h;rfl) λ_ _ _ _ H L Q E U h=>?_;obtain⟨r,hs,k,rfl,J,S,x⟩:=h;obtain⟨dx,q,h1,h2⟩:=id J;refine⟨_,(qy (x4 (PW.pt (Qk (wn j8 (pv 1) qc (wt _)) (y8 (wn wxf (pv 1) (jz (pv 0) T.cl zax (U.mono ⋯) qf) (wt _))))) (qt (vz rfl T.za7 zy rfl T.zif (xu xn qk))) w9)
   (qt (w6 (zk (zu (xj zt (zh (pv 0) rfl) (pv 1) (λ_ _=>rfl)) (zu (xj zt (zh (pv 0) rfl) (xz zf (pv 1) qc) (λ_ _=>rfl)) qk)))))),?_⟩
 exists (xb rfl rfl (exI rfl ?_));refine zn (λI=>?_) (λI=>?_)
 .refine jg ?_;exact⟨sz1,x (.inl I)⟩
 .exists (exI rfl ⟨r,dx,exI rfl ⟨h1,vw (by decide +kernel),r,hs,rfl,J,xb rfl rfl (exI rfl ?_)⟩⟩);refine zn (λG=>?_) (λG=>?_)
  .exact⟨sz1,x (.inr G)⟩
  .exists ⟨r,qg,dx,_,_,rfl,h1,T.cl,T.na,ur,exI rfl (exX rfl rfl (SqL.of h2) (at_h ⋯ ⋯) (exI rfl ⟨r,qg,dx,_,_,rfl,h1,T.cl,T.na,ur,exI rfl (xb rfl rfl (exX rfl rfl (SqL.of h2) (at_h ⋯ ⋯) ⟨sz2,λp np=>?_⟩))⟩))⟩;exact S ⋯ ⋯ p np
def vf (hs:List Int)(t b:Int):Prop:=0<=t/\t<=((hs.length:Int)-1)*b
def Wt (K:Aa)(C CB CO:Aj):Sp:=λvs H Q E=>∃(r p:Aj) (hs:List Int) (t b:Int),vs=[.ref r,.ref p]/\RoadAt C H r hs/\xm hs/\SqT K H p [.int t,.int b] /\
 (1<=b->Sm 8000 b/\(vf hs t b->∀q H',Same H H'->H' q=some (.tup (ptV (xv t b)))->Q (.ref q) H')/\(¬ vf hs t b->∀H',Same H H'->E (.ref CO) none H'))/\(b<1->E (.ref CB) none H)
include T in
theorem wvk (F:Fun K "on_road" "Road.on_road" zbs f fd)(zax:↑MCal qg "width" 1 (Zy qg))(za9:↑Cal "lowest" 2 (Zq qx)) :
  ↑FK 3 f fd ["self","point"] (Wt K qg qx qp):=by
 have sc:=qq7;refine F.okX sc ⋯ λ_ _ _ _ H vs Q E hr h=>?_;obtain⟨r,p,hs,t,b,rfl,hR,ab,Z,S,x⟩:=h;obtain⟨dx,q,h1,h2⟩:=id hR;refine⟨_,(qy (k8 (wCA za9 (zu (xj xk (pv 1) qc (λ_ _=>rfl)) (zu (xj xk (pv 1) qc (λ_ _=>rfl)) qk))) (vt rfl (xf (xy (i:=2)) (xf (xy (i:=3)) vq))))
   (qy (x4 (PW.pt (Qk (wn j8 (pv 2) qc (wt _)) (y8 (wn y4 (pv 2) (xz zp (jz (pv 0) T.cl zax (hr.mono ⋯) qf) (pv 3)) (wt _))))) (qt (vz rfl T.zal zy rfl T.zhn (xu xn qk))) w9)
   (qt (w6 (zk (q9 (pv 2) (q9 (pv 3) qk))))))),?_⟩
 refine⟨_,rfl,_,_,_,_,rfl,rfl,Z,rfl,_,rfl,_,_,_,_,rfl,rfl,Z,rfl,t,b,rfl,λG=>⟨(S G).1.mono ⋯,λO n1=>?_⟩,λz=>x z⟩;obtain⟨sb,k1,U⟩:=S G;have I:Same H (upd H O (.tup (ptV (xv t b)))):=Same.upd n1;have hl:=ab.2.1;refine⟨O,exI rfl ⟨SqT.new,rfl,_,_,rfl,_,_,rfl,rfl,?_⟩⟩;exists (xb rfl rfl (exI rfl ?_));refine zn (λL=>?_) (λL=>?_)
 .refine jg ?_;exact⟨sz1,U (λz=>by have:=(qxx G).mp L;have:=z.1;lia) _ I⟩
 .exists (exI rfl ⟨r,dx,exI rfl ⟨I _ _ h1,vw (by decide +kernel),r,hs,rfl,hR.same I,exI rfl (xb rfl rfl ⟨IntMulOk.of_left (intBits_le_64 ⋯ ⋯),xb rfl rfl (exI rfl ?_)⟩)⟩⟩);refine zn (λJ=>?_) (λJ=>?_)
  .exact⟨sz1,U (λz=>by have:=(wvj G).mp J;have:=z.2;lia) _ I⟩
  .exists (exI rfl ⟨sz2,λp2 n2=>?_⟩);refine k1 ⟨?_,?_⟩ p2 _ (I.trans (Same.upd n2)) qb
   .rcases cS t 0 with z|z
    .exact absurd ((qxx G).mpr z) L
    .exact z
   .rcases cS (((hs.length:Int)-1)*b) t with z|z
    .exact absurd ((wvj G).mpr z) J
    .exact z
def spAt (K:Aa)(C CB CO:Aj):Sp:=λvs H Q E=>∃(r p:Aj) (hs:List Int) (t b:Int),vs=[.ref r,.ref p]/\RoadAt C H r hs/\xm hs/\SqT K H p [.int t,.int b] /\
 (1<=b->Sm 8000 b/\(vf hs t b->∀q H',Same H H'->H' q=some (.tup (ptV (Qt hs t b)))->Q (.ref q) H')/\(¬ vf hs t b->∀H',Same H H'->E (.ref CO) none H'))/\(b<1->E (.ref CB) none H)
include T in
theorem zio (F:Fun K "at" "Road.at" zbt f fd)(zax:↑MCal qg "width" 1 (Zy qg))(za9:↑Cal "lowest" 2 (Zq qx))(ziq:↑MCal qg "ends" 2 (wvn qg wu))(za3:↑MCal qg "on_road" 3 (Wt K qg qx qp)):↑FK 4 f fd ["self","point"] (spAt K qg qx qp):=by
 have sc:=wzp;refine F.okX sc ⋯ λ_ _ _ _ H vs Q E S h=>?_;obtain⟨r,p,hs,t,b,rfl,L,J,hp,O,x⟩:=h;obtain⟨dx,q,h1,h2⟩:=id L;refine⟨_,(qy (k8 (xg (pv 0) T.cl za3 (S.mono ⋯) qf (q9 (pv 1) qk)) (vt rfl (xf (xy (i:=2)) (xf (xy (i:=3)) vq))))
   (qy (xx (i:=4) (xh (wj0 rfl) rfl T.min_ PyProof.Rows.boot_min (vg (xz uy (pv 2) (pv 3)) (vg (xz kh (jz (pv 0) T.cl zax (S.mono ⋯) qf) qc) qk))))
   (qy (k8 (xg (pv 0) T.cl ziq (S.mono ⋯) qf (q9 (pv 4) qk)) (vt rfl (xf (xy (i:=5)) (xf (xy (i:=6)) vq))))
   (qy (xx (i:=7) (xz kh (pv 2) (xz zp (pv 4) (pv 3))))
   (qt (w6 (wCA za9 (vg (xz zf (xz zp (pv 5) (pv 3)) (xz zp (xz kh (pv 6) (pv 5)) (pv 7))) (q9 (pv 3) qk))))))))),?_⟩
 refine⟨_,rfl,r,dx,_,rfl,h1,vw (by decide +kernel),_,rfl,r,p,hs,t,b,rfl,L,J,hp,λI=>⟨(O I).1,λZ p1 H1 G f1=>?_,λab H1 G=>(O I).2.2 ab H1 G⟩,λz=>x z⟩;obtain⟨sb,k1,k2⟩:=O I;have ad:=J.1;have an:=J.2.1;have hy:=Zj (t:=t) I;have ah:=xw5 (t:=t) I;have hx:0<=(xv t b).1:=by
  rcases cS (xv t b).1 0 with z|z
  .have:=(qxx I).mp z;have:=Z.1;lia
  .exact z
 have hk:=xxb (hs:=hs) ad hy hx;have U:Sm 9000 (xv t b).2:=(sb.of_le ⋯).mono ⋯;refine⟨p1,exI rfl ⟨SqT.of f1,rfl,_,_,rfl,_,_,rfl,rfl,?_⟩⟩;exists (exI rfl (xb rfl rfl ⟨⟨⋯,U⟩,exI rfl ⟨r,dx,exI rfl ⟨G _ _ h1,vw (by decide +kernel),r,hs,rfl,L.same G,xb rfl rfl ⟨_,_,rfl,?_⟩⟩⟩⟩));refine⟨_,rfl,r,dx,_,rfl,G _ _ h1,vw (by decide +kernel),V.int (kF hs (xv t b).1 (xv t b).2),rfl,r,hs,kF hs (xv t b).1 (xv t b).2,rfl,L.same G,λ_ _ p2 n2=>?_,λz=>absurd z ⋯⟩;have g1:=wjv J (kF hs (xv t b).1 (xv t b).2);have g2:=wjv J (kF hs (xv t b).1 (xv t b).2+1);refine⟨p2,exI rfl ⟨SqT.new,rfl,_,_,rfl,_,_,rfl,rfl,?_⟩⟩;exists ⟨V.int (kF hs (xv t b).1 (xv t b).2),rfl,exI rfl (xb rfl rfl ⟨IntMulOk.of_left (intBits_le_64 ⋯ ⋯),xb rfl rfl ?_⟩)⟩;exists (exI rfl (xb rfl rfl ⟨IntMulOk.of_left (intBits_le_64 ⋯ ⋯),exI rfl (exI rfl (xb rfl rfl (exI rfl (xb rfl rfl ⟨IntMulOk.of_left (intBits_le_64 ⋯ ⋯),xb rfl rfl (exI rfl ?_)⟩))))⟩));refine⟨uc hs (xv t b).1 (xv t b).2,(xv t b).2,rfl,λ_=>⟨U,λp3 n3=>?_⟩,λz=>absurd z ⋯⟩;have e:xv (uc hs (xv t b).1 (xv t b).2) (xv t b).2=Qt hs t b:=qk4 I;rw[e];exact k1 Z p3 _ (G.trans ((Same.upd n2).trans (Same.upd n3))) qb
variable {dx:Aj}
theorem wuq {x:Aj}(nx:H x=none)(nd:H dx=none)(h:∀b o,upd (upd H dx (.own x)) x (.ins C dx []) b=some o->b≠x->H' b=some o):Same H H':=λb o e =>
 h b o (by rw[wg (wq e nx),wg (wq e nd)];exact e) (wq e nx)
variable {p:Aj}
theorem Same.upd2 {o:HO}(s:Same H H')(n:H p=none):Same H (L2.upd H' p o):=λb u e=>by rw[wg (wq e n)];exact s b u e
theorem xxs {q:Int×Int}(h:SqT K H p [.int q.1,.int q.2]):RD K H (ptD q) (.ref p):=by unfold ptD;rw[RD];exact⟨p,exI rfl ⟨h,by rw[RDs];exact⟨_,_,rfl,by rw[RD],by rw[RDs];exact⟨_,_,rfl,by rw[RD],by rw[RDs]⟩⟩⟩⟩
theorem dep_pt {p q:Int×Int}:min (ptD p).depth (ptD q).depth<=60:=by simp[ptD,PyData.depth,PyData.depthAll]
variable {E:XK}
theorem qxw {CB:Aj}{x:Aj}{Pp:Hp->Prop}(f:H p=some (.lst (hs.map V.int)))(nx:H x=none)(nd:H dx=none)(k:xm hs->∀H',Same H H'->RoadAt C H' x hs->Pp H')(bad:¬ xm hs->∀H',Same H H'->E (.ref CB) none H') :
  Yj K CB C [.ref x,.ref p] (upd (upd H dx (.own x)) x (.ins C dx [])) (λr H2=>r=.non/\Pp H2) E:=by
 refine⟨x,dx,p,hs,rfl,qb,SqL.of (by rw[wg (wq f nx),wg (wq f nd)];exact f),λF I q J G r l=>⟨rfl,k F I (wuq nx nd G) ⟨dx,q,r,l⟩⟩,λz=>bad z _ ?_⟩;exactλb o e=>by rw[wg (wq e nx),wg (wq e nd)];exact e
theorem xxn (ok:xm hs)(k:Int):0<=hAt hs k/\hAt hs k<=(hs.length:Int)-1:=by
 unfold hAt;rw[av];have:=ok.1;cases e:hs[k.toNat]? with
 |none=>exact⟨⋯,by show(0:Int)<=_;lia⟩
 |some v=>exact ok.2.2 v (aK e)
set_option tactic.hygienic true in
theorem wkb {t b:Int}(hok:xm hs)(hb:1<=b)(hon:vf hs t b):vf hs (uc hs t b) b:=by
 have G:=hok.1;have I:=xxb (hs:=hs) G hb hon.1;have S:=xxn hok (kF hs t b);have O:=xxn hok (kF hs t b+1);have F:0<=t-kF hs t b*b/\t-kF hs t b*b<=b:=by
  have h1:t/b*b<=t:=gq t ⋯;have h2:=eT t (show 0<b by lia);unfold kF;split
  .next z =>
   have L:=aN (show(hs.length:Int)-1-1<=t/b by lia) (show 0<=b by lia);have J:=hon.2;constructor
   .lia
   .have:((hs.length:Int)-1)*b=((hs.length:Int)-1-1)*b+b:=by grind
    lia
  .have:(t/b+1)*b=t/b*b+b:=by grind
   constructor <;> lia
 have r:=wu9 (u:=hAt hs (kF hs t b)) (v:=hAt hs (kF hs t b+1)) F.1 F.2;refine⟨Int.le_trans ?_ r.1,Int.le_trans r.2 ?_⟩
 .refine dz ?_ ⋯;split <;> lia
 .refine aN ?_ ⋯;split <;> lia
theorem low_on {t b:Int}(hb:1<=b)(hon:vf hs t b):vf hs (xv t b).1 (xv t b).2:=by
 constructor
 .rcases cS (xv t b).1 0 with z|z
  .have:=(qxx hb).mp z;have:=hon.1;lia
  .exact z
 .rcases cS (((hs.length:Int)-1)*(xv t b).2) (xv t b).1 with z|z
  .have:=(wvj hb).mp z;have:=hon.2;lia
  .exact z
def itP (hs:List Int)(p:Int×Int):Nat->Int×Int
 |0=>p
 |n+1=>Qt hs (itP hs p n).1 (itP hs p n).2
def Pt (hs:List Int)(c:Int)(p:Int×Int):Prop:=1<=p.2/\p.2<=c/\gOf p.1 p.2=1/\vf hs p.1 p.2
theorem qx1 {t b:Int}(hb:1<=b)(hon:vf hs t b):Pt hs b (xv t b):=⟨Zj hb,xw5 hb,xwx hb,low_on hb hon⟩
variable {c:Int}
theorem xzg {p:Int×Int}(hok:xm hs)(h:Pt hs c p):Pt hs c (Qt hs p.1 p.2):=by have a:=qx1 h.1 (wkb hok h.1 h.2.2.2);exact⟨a.1,Int.le_trans a.2.1 h.2.1,a.2.2.1,a.2.2.2⟩
theorem wuf {p:Int×Int}(hok:xm hs)(h:Pt hs c p):∀n,Pt hs c (itP hs p n)
 |0=>h
 |n+1=>xzg hok (wuf hok h n)
def trT (hs:List Int)(t b:Int):Nat->Int
 |0=>t
 |n+1=>uc hs (trT hs t b n) b
theorem J0 {t b:Int}(hok:xm hs)(hb:1<=b)(hon:vf hs t b):∀n,vf hs (trT hs t b n) b
 |0=>hon
 |n+1=>wkb hok hb (J0 hok hb hon n)
theorem qu4 {t b:Int}(hb:1<=b):∀n,xv (trT hs t b n) b=itP hs (xv t b) n
 |0=>rfl
 |n+1=>by show Qt hs (trT hs t b n) b=Qt hs (itP hs (xv t b) n).1 (itP hs (xv t b) n).2;rw[<-qu4 hb n,qk4 hb]
def ptsL (hs:List Int)(p:Int×Int)(n:Nat):List (Int×Int):=(List.range n).map (itP hs p)
theorem wq1 (hs:List Int)(p:Int×Int)(n:Nat):(ptsL hs p n).length=n:=by unfold ptsL;rw[aa,aR]
def PtR (H:Hp)(v:V)(p:Int×Int):Prop:=∃a,v=.ref a/\H a=some (.tup [.int p.1,.int p.2])
variable {v:V}
theorem PtR.same {p:Int×Int}(h:PtR H v p)(s:Same H H'):PtR H' v p:=by obtain⟨a,e,f⟩:=h;exact⟨a,e,s _ _ f⟩
variable {α β:Type}
theorem wwc {F G:α->β->Prop}(h:∀a b,F a b->G a b):∀ {l:List α} {m:List β},Paired F l m->Paired G l m
 |_,_,.nil=>.nil
 |_,_,.cons a t=>.cons (h _ _ a) (wwc h t)
theorem qk6 {F:α->β->Prop}:∀ {l:List α} {m:List β} {i:Nat} {b:β},Paired F l m->m[i]?=some b->∃a,l[i]?=some a/\F a b
 |_,_,0,_,.cons a _,e=>by cases e;exact exI rfl a
 |_,_,i+1,_,.cons _ t,e=>qk6 (i:=i) t e
def PtsAt (H:Hp)(q:Aj)(ps:List (Int×Int)):Prop:=∃vs,H q=some (.lst vs)/\Paired (PtR H) vs ps
theorem PtsAt.same {ps:List (Int×Int)}(h:PtsAt H q ps)(s:Same H H'):PtsAt H' q ps:=by obtain⟨vs,f,r⟩:=h;exact⟨vs,s _ _ f,wwc (λ_ _ z=>z.same s) r⟩
def Dist {α:Type}(f:Nat->α)(n:Nat):Prop:=∀i j,i<j->j<n->f i≠f j
variable {m:Nat}
theorem Dist.mono {α:Type}{f:Nat->α}{n:Nat}(h:Dist f n)(le:m<=n):Dist f m:=λi j a b=>h i j a ⋯
theorem Dist.succ {α:Type}{f:Nat->α}{n:Nat}(h:Dist f n)(h':∀j,j<n->f j≠f n):Dist f (n+1):=λi j a b=>by
 rcases(by lia:j<n\/j=n) with z|z
 .exact h i j a z
 .subst z;exact h' i a
theorem shift {α:Type}{f:Nat->α}(st:∀i j,f i=f j->f (i+1)=f (j+1)){n u:Nat}(e:f n=f u):∀k,f (n+k)=f (u+k)
 |0=>e
 |k+1=>st _ _ (shift st e k)
theorem per {α:Type}{f:Nat->α}(st:∀i j,f i=f j->f (i+1)=f (j+1)){n u:Nat}(hu:u<n)(e:f n=f u)(m:Nat):u<=m->f m=f (u+(m-u)%(n-u)):=by
 induction m using Nat.strongRecOn with
 |_ m ih =>
  intro F;rcases de m n with z|z
  .rw[Nat.mod_eq_of_lt ⋯];congr 1;lia
  .have h1:=shift st e (m-n);rw[show n+(m-n)=m by lia]at h1;have h2:=ih (u+(m-n)) ⋯ ⋯;rw[h1,h2,show u+(m-n)-u=m-u-(n-u) by lia,<-Nat.mod_eq_sub_mod ⋯]
variable {u:Nat}
theorem wkv {m:Int}{n:Nat}(h:(u:Int)<=m)(hu:u<n):(u:Int)+(m-u)%((n:Int)-u)=((u+(m.toNat-u)%(n-u):Nat):Int):=by
 have G:m-(u:Int)=((m.toNat-u:Nat):Int):=by lia
 have F:(n:Int)-(u:Int)=((n-u:Nat):Int):=by lia
 rw[G,F];push_cast;rfl
set_option tactic.hygienic true in
theorem pig (N:Nat):∀l:List Nat,l.Nodup->(∀x∈l,x<N)->l.length<=N:=by
 induction N with
 |zero =>
  intro l _ h;cases l with
  |nil=>exact al _
  |cons a r=>exact absurd (h a (.head _)) ⋯
 |succ N ih =>
  intro l G h;by_cases m:N∈l
  .have h1:=ih (l.erase N) (G.erase N) λx F=>by have a:=(G.mem_erase_iff.mp F);have b:=h x a.2;lia
   rw[fT m]at h1;lia
  .have:=ih l G λx F=>by have b:=h x F;have:x≠N:=λz=>m (z▸F);lia
   lia
theorem pigI {f:Nat->Int}{n:Nat}{B:Int}(h:Dist f n)(b:∀i,0<=f i/\f i<=B):(n:Int)<=B+1:=by
 have h1:=pig (B+1).toNat ((List.range n).map λi=>(f i).toNat) (by
  rw[List.nodup_iff_pairwise_ne,bL]
  refine cm ?_ (d3 (n:=n))
  intro i j hi G I e
  have:=b i
  have:=b j
  exact h i j I (aW.mp G) ⋯) λx F=>by obtain⟨i,_,rfl⟩:=ar.mp F;have:=b i;lia
 rw[aa,aR]at h1;have:=b 0;lia
theorem xqq {p:Int×Int}:∀i j,itP hs p i=itP hs p j->itP hs p (i+1)=itP hs p (j+1):=λi j e=>by show Qt hs (itP hs p i).1 (itP hs p i).2=Qt hs (itP hs p j).1 (itP hs p j).2;rw[e]
theorem Wf {t b:Int}(hb:1<=b)(g:gOf t b=1):xv t b=(t,b):=by unfold xv;rw[g,Int.ediv_one,Int.ediv_one]
theorem it_tr {p:Int×Int}(h:Pt hs c p)(n:Nat):itP hs p n=xv (trT hs p.1 p.2 n) p.2:=by rw[qu4 h.1,Wf h.1 h.2.2.1]
theorem xzt {x y b:Int}(hb:1<=b)(e:xv x b=xv y b):x=y:=by have h1:=(qk3 (N:=x) hb).2;have h2:=(qk3 (N:=y) hb).2;rw[e]at h1;lia
theorem it_eq {p:Int×Int}(h:Pt hs c p)(i j:Nat):itP hs p i=itP hs p j↔trT hs p.1 p.2 i=trT hs p.1 p.2 j:=by rw[it_tr h,it_tr h];exact⟨λe=>xzt h.1 e,λe=>by rw[e]⟩
def Wz (p:Int×Int):List Key:=[.inl p.1,.inl p.2]
theorem wwz {p q:Int×Int}(e:Wz p=Wz q):p=q:=by unfold Wz at e;simp only[List.cons.injEq,Sum.inl.injEq,and_true]at e;exact Prod.ext e.1 e.2
def y3 {κ:Type}(k:Nat->κ)(n:Nat):List (κ×V):=(List.range n).map λi=>(k i,V.int i)
variable {κ:Type}
theorem qqn (k:Nat->κ)(n:Nat):y3 k (n+1)=y3 k n++[(k n,V.int n)]:=by unfold y3;rw[bY,aV];rfl
theorem uk (k:Nat->κ)(n:Nat):(y3 k n).length=n:=by unfold y3;rw[aa,aR]
theorem qqz [DecidableEq κ]{k:Nat->κ}{q:κ}{n:Nat}(h:∀j,j<n->k j≠q):wp (y3 k n) q=none:=by
 unfold wp y3;rw[dN.mpr]
 .rfl
 .intro x hx;obtain⟨i,hi,rfl⟩:=ar.mp hx;simpa using h i (aW.mp hi)
theorem qqj [DecidableEq κ]{k:Nat->κ}{j:Nat}:∀ {n:Nat},Dist k n->j<n->wp (y3 k n) (k j)=some (.int j)
 |0,_,h=>absurd h ⋯
 |n+1,d,h=>by
  rw[qqn,Js _ _ _ _ (qqz λi hi=>d i n hi ⋯)];rcases(by lia:j<n\/j=n) with z|z
  .rw[ag (d j n z ⋯),qqj (d.mono ⋯) z]
  .subst z;rw[ak rfl]
theorem wku {γ δ:Type}{F:α->β->Prop}{G:α->γ->Prop}(g:δ->β)(f:δ->γ)(h:∀a x,F a (g x)->G a (f x)):∀ {l:List δ} {vs:List α},Paired F vs (l.map g)->Paired G vs (l.map f)
 |[],_,.nil=>.nil
 |_::_,_,.cons a t=>.cons (h _ _ a) (wku g f h t)
def qxq (C CT:Aj):Sp:=λvs H Q E=>∃(r a:Aj) (hs:List Int) (p:Int×Int) (c:Int),vs=[.ref r,.ref a]/\RoadAt C H r hs/\xm hs/\H a=some (.tup [.int p.1,.int p.2])/\Pt hs c p/\Sm 8000 c /\
 (∀n u q l H',n<=1000->Dist (itP hs p) n->u<n->itP hs p n=itP hs p u->Same H H'->H l=none->H' q=some (.tup [.ref l,.int ((u:Nat):Int)])->PtsAt H' l (ptsL hs p n)->Q (.ref q) H')/\(Dist (itP hs p) 1001->∀H',Same H H'->E (.ref CT) none H')
include T in
theorem xwc (F:Fun K "trace" "trace" zbj f fd)(zir:↑MCal qg "at" 4 (spAt K qg qx qp)):↑FK 5 f fd ["road","start"] (qxq qg wz):=by
 have sc:=wu0;refine F.okX sc (λL H Q E h=>by obtain⟨_,_,_,_,_,rfl,_⟩:=h;rfl) λ_ _ _ _ H L Q E O h=>?_;obtain⟨r,a,hs,p,c,rfl,hR,ab,ha,hP,ap,k,x⟩:=h;obtain⟨dx,q0,h1,h2⟩:=id hR;obtain⟨tm,an⟩:=T.zar;refine⟨_,(qy (xx (i:=2) xwu)
   (qy (xx (i:=3) (pv 1))
   (qy (Y2 aS (Qm (yu (vc O) (pv 3) (pv 2))) (qy (x4 (wn zd (xh qj1 rfl T.len_ aF (q9 (pv 2) qk)) (ug (v:=V.int 1000) rfl an ⟨_,rfl⟩) (wt _)) (qt (vz rfl T.za6 zy rfl T.zie (xu xn qk))) w9)
   (qy (Qb (vc O) (pv 2) (pv 3) (xh qj1 rfl T.len_ aF (q9 (pv 2) qk)) rfl)
   (qt (xx (i:=3) (xg (pv 0) T.cl zir (O.mono ⋯) qf (q9 (pv 3) qk)))))))
   (qt (w6 (zk (k6 (vb (wz4 rfl) rfl T.list_ bA (q9 (pv 2) qk)) (zu (jw (vc O) (pv 2) (pv 3) (λ_ _=>rfl)) qk)))))))),?_⟩
 refineλD nD=>exI rfl ?_;refine qvq (λσ H2=>∃(i:Nat) (b:Aj),σ=[some (.ref r),some (.ref a),some (.ref D),some (.ref b)]/\i<=1000/\Dist (itP hs p) i/\Same H H2/\H2 D=some (.dT (y3 (λj=>Wz (itP hs p j)) i))/\H2 b=some (.tup [.int (itP hs p i).1,.int (itP hs p i).2]))
  (λ_ H2=>match H2 D with|some (.dT kvs)=>1001-kvs.length|_=>0) ⟨0,a,rfl,⋯,λi j _ z=>absurd z ⋯,Same.upd nD,qb,by rw[wg (wq ha nD)];exact ha⟩ ?_ λσ H Q Q' h ⟨v,e,v2,e2,a',o,e3,g,kk,e4,q⟩=>⟨v,e,v2,e2,a',o,e3,g,kk,e4,h _ _ q⟩
 rintro σ H2 ⟨i,b,rfl,hi,hd,s2,f2,fb⟩;have a2:Dist (λj=>Wz (itP hs p j)) i:=λu v uv vi e=>hd u v uv vi (wwz e);have S:H2 b=some (.tup ((Wz (itP hs p i)).map kV)):=fb;by_cases hj:∃j,j<i/\itP hs p j=itP hs p i
 .obtain⟨j,ji,je⟩:=hj;have I:wp (y3 (λj=>Wz (itP hs p j)) i) (Wz (itP hs p i))=some (.int j):=by rw[<-je];exact qqj a2 ji
  have dg:DGet H2 D (.ref b) (some (.int j)):=by have:=DGet.t f2 S;rwa [I]at this
  exists (exI rfl ⟨D,exI rfl ⟨dg,_,rfl,?_⟩⟩);refine yz ?_;exists ⟨D,exI rfl ⟨f2,λl L Z a1=>?_⟩⟩;have G:=Same.upd (o:=.lst L) Z;have a4:DGet (upd H2 l (.lst L)) D (.ref b) (some (.int j)):=by have:=DGet.t (G _ _ f2) (G _ _ S);rwa [I]at this
  exists (exI rfl ⟨D,exI rfl ⟨a4,sz2,λq nq=>?_⟩⟩);have J:=G.trans (Same.upd (o:=.tup [.ref l,.int j]) nq);have a0:H l=none:=by
   cases e:H l with
   |none=>rfl
   |some o=>rw[s2 _ _ e]at Z;cases Z
  refine k i j q l _ hi hd ji je.symm (s2.trans J) a0 qb ⟨L,Same.upd nq _ _ qb,?_⟩;refine wku (l:=List.range i) (λj=>(Wz (itP hs p j),V.int j)) (itP hs p) (λv j I=>?_) a1;obtain⟨b',rfl,a3⟩:=I;exact⟨b',rfl,J _ _ a3⟩
 .have hn:∀j,j<i->itP hs p j≠itP hs p i:=λj a b=>hj ⟨j,a,b⟩;have I:wp (y3 (λj=>Wz (itP hs p j)) i) (Wz (itP hs p i))=none:=qqz λj a b=>hn j a (wwz b);have dg:DGet H2 D (.ref b) none:=by have:=DGet.t f2 S;rwa [I]at this
  have ad:=hd.succ hn;exists (exI rfl ⟨D,exI rfl ⟨dg,_,rfl,?_⟩⟩);refine jg ?_;exists ⟨D,exI rfl ⟨f2,rfl,_,rfl,?_⟩⟩;rw[uk];refine v9 (λq1=>?_) (λq1=>?_)
  .have:i=1000:=by lia
   subst this;exact⟨sz1,x ad _ s2⟩
  .exists ⟨D,exI rfl ⟨f2,exI rfl (exI rfl ⟨D,exI rfl ⟨DPut.t f2 S (wy0 (by rw[uk];lia)),?_⟩⟩)⟩⟩;rw[Q8 _ I,uk,<-qqn (λj=>Wz (itP hs p j)) i];have G:Same H (upd H2 D (.dT (y3 (λj=>Wz (itP hs p j)) (i+1)))):=Same.upd2 s2 nD;have db:b≠D:=λz=>by rw[z,f2]at fb;cases fb
   have ah:upd H2 D (.dT (y3 (λj=>Wz (itP hs p j)) (i+1))) b=some (.tup [.int (itP hs p i).1,.int (itP hs p i).2]):=by rw[wg db];exact fb
   have f3:upd H2 D (.dT (y3 (λj=>Wz (itP hs p j)) (i+1))) D=some (.dT (y3 (λj=>Wz (itP hs p j)) (i+1))):=qb;generalize upd H2 D (.dT (y3 (λj=>Wz (itP hs p j)) (i+1)))=H3 at G ah f3;have U:=wuf ab hP i;refine⟨_,rfl,r,dx,_,rfl,G _ _ h1,vw (by decide +kernel),_,rfl,r,b,hs,(itP hs p i).1,(itP hs p i).2,rfl,hR.same G,ab,SqT.of ah,λ_=>⟨(ap.of_le (by have:=U.2.1;have:=U.1;lia)),λ_ p4 H4 J f4=>?_,λz=>absurd U.2.2.2 z⟩,λz=>absurd U.1 ⋯⟩;refine⟨⟨i+1,p4,rfl,⋯,ad,G.trans J,J _ _ f3,f4⟩,?_⟩;show(match H4 D with|some (.dT kvs)=>1001-kvs.length|_=>0)<(match H2 D with|some (.dT kvs)=>1001-kvs.length|_=>0);rw[J _ _ f3,f2];show 1001-(y3 (λj=>Wz (itP hs p j)) (i+1)).length<1001-(y3 (λj=>Wz (itP hs p j)) i).length;rw[uk,uk];lia
def TrAt (H:Hp)(l:Aj)(hs:List Int)(p:Int×Int)(n u:Nat):Prop:=n<=1000/\Dist (itP hs p) n/\u<n/\itP hs p n=itP hs p u/\PtsAt H l (ptsL hs p n)
def qy8:Sp:=λvs H Q _=>∃(l:Aj) (hs:List Int) (p:Int×Int) (n u:Nat) (m:Int),vs=[.ref l,.int u,.int m]/\TrAt H l hs p n u/\0<=m/\∀a,H a=some (.tup [.int (itP hs p m.toNat).1,.int (itP hs p m.toNat).2])->Q (.ref a) H
variable {i:Nat}
theorem wvv {p:Int×Int}{n:Nat}{vs:List V}(h:Paired (PtR H) vs (ptsL hs p n))(hi:i<n):∃a,vs[i]?=some (.ref a)/\H a=some (.tup [.int (itP hs p i).1,.int (itP hs p i).2]):=by
 obtain⟨v,G,⟨a,rfl,F⟩⟩:=qk6 (i:=i) (b:=itP hs p i) h (by
  unfold ptsL
  rw[aB,cX hi]
  rfl)
 exact⟨a,G,F⟩
include T in
theorem xkv (F:Fun K "spot" "spot" zbk f fd):↑FK 1 f fd ["points","turn","many"] qy8:=by
 have Z:=xzk;refine F.okX Z (λI H Q E h=>by obtain⟨_,_,_,_,_,_,rfl,_⟩:=h;rfl) λ_ _ _ _ H I Q E hr h=>?_;obtain⟨l,hs,p,n,u,m,rfl,⟨n1,hd,S,e,I,L,J⟩,m0,k⟩:=h;have U:I.length=n:=by rw[J.length,wq1]
 refine⟨_,(qy (x4 (wn j8 (pv 2) (pv 1) (wt _)) (qt (w6 (xj zt (pv 0) (pv 2) (λ_ _=>rfl)))) w9)
   (qt (w6 (xj zt (pv 0) (xz zf (pv 1) (xz jm (xz kh (pv 2) (pv 1)) (xz kh (xh x9 rfl T.len_ aF (q9 (pv 0) qk)) (pv 1)))) (λ_ _=>rfl))))),?_⟩
 exists (exI rfl (xb rfl rfl (exI rfl ?_)));refine zn (λq1=>?_) (λq1=>?_)
 .obtain⟨a,O,G⟩:=wvv (i:=m.toNat) J ⋯;exists (exI rfl (exX rfl rfl (SqL.of L) ?_ (k a G)));have:=uw O;rwa [cV m0]at this
 .have hm:(u:Int)<=m:=by lia
  have lt:=dB (m.toNat-u) (show 0<n-u by lia);obtain⟨a,O,G⟩:=wvv (i:=u+(m.toNat-u)%(n-u)) J ⋯;rw[<-per xqq S e m.toNat ⋯]at G;exists (exI rfl (exI rfl (exI rfl (xb rfl rfl (exI rfl ⟨_,_,rfl,.inl (SqL.of L),exI rfl (xb rfl rfl (xb rfl rfl ⟨?_,xb rfl rfl (exX rfl rfl (SqL.of L) ?_ (k a G))⟩))⟩)))))
  .rw[U];show(0:Int)<(n:Int)-u;lia
  .rw[U,wkv hm S];exact uw O
def wv4 (K:Aa):Sp:=λvs H Q _=>∃(p:Aj) (hs:List Int) (t b:Int),vs=[.ref p,.int t,.int b]/\SqL K H p (hs.map V.int)/\xm hs/\1<=b/\Sm 4000 b/\vf hs t b/\Q (.int (uc hs t b)) H
include T in
theorem xzm (F:Fun K "_law_step" "_law_step" zc1 f fd):↑FK 1 f fd ["_law_heights","_law_top","_law_bottom"] (wv4 K):=by
 have U:=qu1;refine F.okX U (λS H Q E h=>by obtain⟨_,_,_,_,rfl,_⟩:=h;rfl) λ_ _ _ _ H S Q E hr h=>?_;obtain⟨p,hs,t,b,rfl,L,J,hb,Z,G,k⟩:=h;rw[<-xxu J.1 hb G.1 G.2]at k;have hl:=J.2.1;have O:=gn G.1 (show(0:Int)<=b by lia);have k1:t/b<=(hs.length:Int)-1:=by have:=Int.ediv_le_ediv (show 0<b by lia) G.2;rwa [Int.mul_ediv_cancel _ (show b≠0 by lia)]at this
 have g1:=wjv J (t/b);have g2:=wjv J (t/b+1);refine⟨_,(qy (xx (i:=3) (xz uy (pv 1) (pv 2)))
   (qy (x4 (wn zd (xz zp (pv 3) (pv 2)) (pv 1) (wt _)) (qt (w6 (xz zp (xj zt (pv 0) (pv 3) (λ_ _=>rfl)) (pv 2)))) w9)
   (qt (w6 (xz zf (xz zp (xj zt (pv 0) (pv 3) (λ_ _=>rfl)) (pv 2)) (xz zp (xz kh (xj zt (pv 0) (xz zf (pv 3) qc) (λ_ _=>rfl)) (xj zt (pv 0) (pv 3) (λ_ _=>rfl))) (xz kh (pv 1) (xz zp (pv 3) (pv 2))))))))),?_⟩
 exists (exI rfl (xb rfl rfl ⟨⟨⋯,Z.mono ⋯⟩,exI rfl (exI rfl (xb rfl rfl ⟨IntMulOk.of_left (intBits_le_64 ⋯ ⋯),exI rfl ⟨rfl,_,rfl,?_⟩⟩))⟩));refine v9 (λI=>?_) (λI=>?_)
 .exists (exI rfl (exX rfl rfl L (at_h O ⋯) (exI rfl (xb rfl rfl ⟨IntMulOk.of_left (intBits_le_64 ⋯ ⋯),?_⟩))));rw[wkq,ak I]at k;exact k
 .have k2:t/b<(hs.length:Int)-1:=by
   rcases cS (t/b) ((hs.length:Int)-1) with z|z
   .exact z
   .have e:t/b=(hs.length:Int)-1:=by lia
    have h1:t/b*b<=t:=gq t ⋯;have h2:=G.2;rw[<-e]at h2;exact absurd ⋯ I
  exists (exI rfl (exX rfl rfl L (at_h O ⋯) (exI rfl (xb rfl rfl ⟨IntMulOk.of_left (intBits_le_64 ⋯ ⋯),exI rfl (exI rfl (xb rfl rfl (exX rfl rfl L (at_h ⋯ ⋯) (exI rfl (exI rfl (exX rfl rfl L (at_h O ⋯) (xb rfl rfl (exI rfl (exI rfl (exI rfl (xb rfl rfl ⟨IntMulOk.of_left (intBits_le_64 ⋯ ⋯),xb rfl rfl (xb rfl rfl ⟨IntMulOk.of_left (intBits_le_64 ⋯ ⋯),xb rfl rfl ?_⟩)⟩)))))))))))⟩))));rw[wkq,ag I]at k;exact k
variable {kvs:List (Key×V)}
theorem qxd {D:Aj}{i:Int}{o:Option V}(f:H D=some (.dK kvs))(e:wp kvs (.inl i)=o):DGet H D (.int i) o:=by have:=DGet.k (k:=.inl i) f;rwa [e]at this
def qxy (K:Aa):Sp:=λvs H Q _=>∃(p:Aj) (hs:List Int) (t b:Int),vs=[.ref p,.int t,.int b]/\SqL K H p (hs.map V.int)/\xm hs/\1<=b/\b<=10000/\vf hs t b /\
 (∀n u q l H',Dist (trT hs t b) n->u<n->trT hs t b n=trT hs t b u->n<=300000->Same H H'->H l=none->H' q=some (.tup [.ref l,.int ((u:Nat):Int)])->H' l=some (.lst (((List.range n).map (trT hs t b)).map V.int))->Q (.ref q) H')
theorem qk2 {n:Nat}(h:n<=1000000):n<sizeLine:=dL h ⋯
include T in
theorem wyp (F:Fun K "_law_trace" "_law_trace" zc2 f fd)(zis:↑Cal "_law_step" 1 (wv4 K)):↑FK 2 f fd ["_law_heights","_law_top","_law_bottom"] (qxy K):=by
 have sc:=qkc;refine F.okX sc ⋯ λ_ _ _ _ H vs Q E U h=>?_;obtain⟨p,hs,t,b,rfl,hS,L,Z,a2,ah,k⟩:=h;have hl:=L.2.1;have sb:Sm 4000 b:=(Sm.small (n:=65) ⋯ ⋯ ⋯).mono ⋯;have a0:∀n,Dist (trT hs t b) n->n<=250000:=λn d=>by have h1:=pigI d λi=>J0 L Z ah i;have h2:=Int.mul_le_mul (show(hs.length:Int)-1<=24 by lia) a2 ⋯ ⋯;lia
 refine⟨_,(qy (xx (i:=3) km)
   (qy (xx (i:=4) (yj qk))
   (qy (Y2 aS (Qm (yu (vc U) (pv 1) (pv 3))) (qy (Qb (vc U) (pv 3) (pv 1) (xh x9 rfl T.len_ aF (q9 (pv 4) qk)) rfl)
   (qy (zx (Zt bC bS bT y9 (pv 4) (q9 (pv 1) qk)))
   (qt (xx (i:=1) (wCA zis (q9 (pv 0) (q9 (pv 1) (q9 (pv 2) qk)))))))))
   (qt (w6 (zk (q9 (pv 4) (zu (jw (vc U) (pv 3) (pv 1) (λ_ _=>rfl)) qk)))))))),?_⟩
 refineλD S=>⟨sz0,λl J=>?_⟩;have O:D≠l:=wq (show upd H D (.dK []) D=some (.dK []) from qb) J;have ad:H l=none:=by
  cases e:H l with
  |none=>rfl
  |some o=>rw[Same.upd S _ _ e]at J;cases J
 refine qvq (λσ H2=>∃(i:Nat),σ=[some (.ref p),some (.int (trT hs t b i)),some (.int b),some (.ref D),some (.ref l)]/\Dist (trT hs t b) i/\Same H H2/\H2 D=some (.dK (y3 (λj=>Sum.inl (trT hs t b j)) i))/\H2 l=some (.lst (((List.range i).map (trT hs t b)).map V.int)))
  (λ_ H2=>match H2 D with|some (.dK kvs)=>250001-kvs.length|_=>0) ⟨0,rfl,λi j _ z=>absurd z ⋯,(Same.upd S).trans (Same.upd J),by rw[wg O,qb];rfl,qb⟩ ?_ λσ H Q Q' h ⟨v,e,v2,e2,a',o,e3,g,kk,e4,q⟩=>⟨v,e,v2,e2,a',o,e3,g,kk,e4,h _ _ q⟩
 rintro σ H2 ⟨i,rfl,hd,s2,f2,fl⟩;have a1:Dist (λj=>(Sum.inl (trT hs t b j):Key)) i:=λu v uv vi e=>hd u v uv vi (Sum.inl.inj e);have a3:=a0 i hd;have an:(((List.range i).map (trT hs t b)).map V.int).length=i:=by rw[aa,aa,aR]
 by_cases hj:∃j,j<i/\trT hs t b j=trT hs t b i
 .obtain⟨j,ji,je⟩:=hj;have I:wp (y3 (λj=>(Sum.inl (trT hs t b j):Key)) i) (.inl (trT hs t b i))=some (.int j):=by rw[<-je];exact qqj a1 ji
  exists (exI rfl ⟨D,exI rfl ⟨qxd f2 I,_,rfl,?_⟩⟩);refine yz ?_;exists (exI rfl (exI rfl ⟨D,exI rfl ⟨qxd f2 I,sz2,λq nq=>?_⟩⟩));have G:=Same.upd (o:=.tup [.ref l,.int j]) nq;exact k i j q l _ hd ji je.symm ⋯ (s2.trans G) ad qb (G _ _ fl)
 .have hn:∀j,j<i->trT hs t b j≠trT hs t b i:=λj a b=>hj ⟨j,a,b⟩;have I:wp (y3 (λj=>(Sum.inl (trT hs t b j):Key)) i) (.inl (trT hs t b i))=none:=qqz λj a b=>hn j a (Sum.inl.inj b);have ap:=hd.succ hn;have a4:=a0 (i+1) ap;exists (exI rfl ⟨D,exI rfl ⟨qxd f2 I,_,rfl,?_⟩⟩);refine jg ?_;exists ⟨_,_,rfl,.inl (SqL.of fl),exI rfl (exI rfl ⟨D,exI rfl ⟨DPut.k (k:=.inl (trT hs t b i)) f2 (qk2 (by rw[uk];lia)),?_⟩⟩)⟩;rw[Q8 _ I,an,<-qqn (λj=>(Sum.inl (trT hs t b j):Key)) i];have G:Same H (upd H2 D (.dK (y3 (λj=>(Sum.inl (trT hs t b j):Key)) (i+1)))):=Same.upd2 s2 S;have ab:upd H2 D (.dK (y3 (λj=>(Sum.inl (trT hs t b j):Key)) (i+1))) l=some (.lst (((List.range i).map (trT hs t b)).map V.int)):=by rw[wg O.symm];exact fl
  have f3:upd H2 D (.dK (y3 (λj=>(Sum.inl (trT hs t b j):Key)) (i+1))) D=some (.dK (y3 (λj=>(Sum.inl (trT hs t b j):Key)) (i+1))):=qb;generalize upd H2 D (.dK (y3 (λj=>(Sum.inl (trT hs t b j):Key)) (i+1)))=H3 at G ab f3;exists ⟨.inl ⟨rfl,_,SqL.of ab⟩,exI rfl ⟨_,_,_,rfl,rfl,ab,qk2 (by rw[an];lia),?_⟩⟩;have s4:Same H (upd H3 l (.lst (((List.range i).map (trT hs t b)).map V.int++[V.int (trT hs t b i)]))):=Same.upd2 G ad;exists (exI rfl (exI rfl ⟨p,hs,trT hs t b i,b,rfl,s4.sql hS,L,Z,sb,J0 L Z ah i,⟨i+1,rfl,ap,s4,by rw[wg O];exact f3,?_⟩,?_⟩))
  .rw[qb,bY,aV,aV];rfl
  .show(match upd H3 l (.lst (((List.range i).map (trT hs t b)).map V.int++[V.int (trT hs t b i)])) D with|some (.dK kvs)=>250001-kvs.length|_=>0)<(match H2 D with|some (.dK kvs)=>250001-kvs.length|_=>0);rw[wg O,f3,f2];show 250001-(y3 (λj=>(Sum.inl (trT hs t b j):Key)) (i+1)).length<250001-(y3 (λj=>(Sum.inl (trT hs t b j):Key)) i).length;rw[uk,uk];lia
def wqx (K:Aa):Sp:=λvs H Q _=>∃(l:Aj) (g:Nat->Int) (n u:Nat) (m:Int),vs=[.ref l,.int u,.int m]/\H l=some (.lst (((List.range n).map g).map V.int))/\u<n/\g n=g u/\(∀i j,g i=g j->g (i+1)=g (j+1))/\0<=m/\Q (.int (g m.toNat)) H
theorem wkx {g:Nat->Int}{n:Nat}(h:i<n):atI (((List.range n).map g).map V.int) ((i:Nat):Int)=some (V.int (g i)):=by refine uw ?_;rw[aB,aB,cX h];rfl
include T in
theorem xqd (F:Fun K "_law_after" "_law_after" zc3 f fd):↑FK 1 f fd ["_law_tops","_law_start","_law_many"] (wqx K):=by
 have S:=qv2;refine F.okX S (λO H Q E h=>by obtain⟨_,_,_,_,_,rfl,_⟩:=h;rfl) λ_ _ _ _ H O Q E hr h=>?_;obtain⟨l,g,n,u,m,rfl,I,L,e,st,Z,k⟩:=h;have J:(((List.range n).map g).map V.int).length=n:=by rw[aa,aa,aR]
 refine⟨_,(qy (x4 (wn j8 (pv 2) (xh x9 rfl T.len_ aF (q9 (pv 0) qk)) (wt _)) (qt (w6 (xj zt (pv 0) (pv 2) (λ_ _=>rfl)))) w9)
   (qt (w6 (xj zt (pv 0) (xz zf (pv 1) (xz jm (xz kh (pv 2) (pv 1)) (xz kh (xh x9 rfl T.len_ aF (q9 (pv 0) qk)) (pv 1)))) (λ_ _=>rfl))))),?_⟩
 exists (exI rfl ⟨_,_,rfl,.inl (SqL.of I),xb rfl rfl (exI rfl ?_)⟩);rw[J];refine zn (λU=>?_) (λU=>?_)
 .have G:=wkx (g:=g) (n:=n) (i:=m.toNat) ⋯;rw[cV Z]at G;exact exI rfl (exI rfl (exX rfl rfl (SqL.of I) G k))
 .have hm:(u:Int)<=m:=by lia
  have lt:=dB (m.toNat-u) (show 0<n-u by lia);have G:=wkx (g:=g) (n:=n) (i:=u+(m.toNat-u)%(n-u)) ⋯;rw[<-per st L e m.toNat ⋯]at G;exists (exI rfl (exI rfl (exI rfl (xb rfl rfl (exI rfl ⟨_,_,rfl,.inl (SqL.of I),exI rfl (xb rfl rfl (xb rfl rfl ⟨?_,xb rfl rfl (exX rfl rfl (SqL.of I) ?_ k)⟩))⟩)))))
  .rw[J];show(0:Int)<(n:Int)-u;lia
  .rw[J,wkv hm L];exact G
def Jc (c:Nat):Bool:=!(Builtin.Str.occurrences (Str.ofString "abcdefghijklmnopqrstuvwxyz") ⟨#[c]⟩ 0 (Str.ofString "abcdefghijklmnopqrstuvwxyz").length 1).isEmpty
def zj (x:Str):Bool:=decide (1<=x.length/\x.length<=12)&&(List.range x.cps.size).all λi=>Jc (x.cps.getD i 0)
def qzt:Sp:=λvs H Q _=>∃x:Str,vs=[.str x]/\x.length<=1000/\∀H',Same H H'->Q (.bl (zj x)) H'
include T in
theorem wvt (F:Fun K "is_name" "is_name" zbx f fd):↑FK 1 f fd ["name"] qzt:=by
 have O:=wzu;refine F.okX O (λL H Q E h=>by obtain⟨_,rfl,_⟩:=h;rfl) λ_ _ _ _ H L Q E hr h=>?_;obtain⟨x,rfl,hx,k⟩:=h;obtain⟨tn,J⟩:=T.zas;obtain⟨tl,I⟩:=T.zau;have ab:(1000000:Nat)<sizeLine:=by decide
 refine⟨_,(qy (x4 (PW.pt (Qk (wn j8 (xh jr rfl T.len_ aF (q9 (pv 0) qk)) qc (wt _)) (y8 (wn y4 (xh jr rfl T.len_ aF (q9 (pv 0) qk)) (ug (v:=V.int 12) rfl J ⟨_,rfl⟩) (wt _))))) (qt (w6 qqt)) w9)
   (qt (w6 (xh (Zp rfl) rfl T.all_ wq5 (x8 (Wq (M:=[]) rfl rfl (by walk_at "cap") (by walk_at "has") (by walk_at "cix") rfl (by decide +kernel) rfl (show List.Nodup (["sign"]:List Str) by decide +kernel) (wzf (pv 0)) (λ_ _ _ _ _=>(yw qjy (pv 0) (ug (v:=V.str "abcdefghijklmnopqrstuvwxyz") rfl I ⟨_,rfl⟩) rfl))) qk))))),?_⟩
 refine⟨_,rfl,x,rfl,⋯,_,_,rfl,rfl,_,rfl,?_⟩;have G:∀z:¬ (1<=x.length/\x.length<=12),zj x=false:=λz=>by unfold zj;rw[be z];rfl
 refine zn (λU=>?_) (λU=>?_)
 .refine jg ?_;have:=k H (Same.refl _);rw[G ⋯]at this;exact this
 .refine⟨_,rfl,x,rfl,⋯,_,_,rfl,rfl,_,rfl,zn (λS=>?_) (λS=>?_)⟩
  .have:=k H (Same.refl _);rw[G ⋯]at this;exact this
  .exists ⟨x,rfl,wxw (λi=>.bl (Jc (x.cps.getD i 0))) (by show x.length<=1000000;lia) (λi H' R hi hs Z=>?_) λp np=>?_⟩
   .exact exI rfl (xb rfl rfl Z)
   .have e:zj x=((List.range x.cps.size).map λi=>Jc (x.cps.getD i 0)).all id:=by unfold zj;rw[aT (show 1<=x.length/\x.length<=12 by lia),List.all_map];rfl
    refine⟨p,(List.range x.cps.size).map λi=>Jc (x.cps.getD i 0),rfl,?_,?_⟩
    .rw[bq];exact SqL.new
    .rw[<-e];exact k _ (Same.upd np)
def Zu (CN CT:Aj):Sp:=λvs H Q E=>∃(x:Str) (d:Aj) (kvs:List (Key×V)),vs=[.str x,.ref d]/\x.length<=1000/\H d=some (.dK kvs) /\
 (zj x=true->wp kvs (.inr x)=none->∀H',Same H H'->Q .non H')/\(zj x=false->∀H',Same H H'->E (.ref CN) none H')/\(zj x=true->(wp kvs (.inr x)).isSome=true->∀H',Same H H'->E (.ref CT) none H')
include T in
theorem wxj (F:Fun K "check_new_name" "check_new_name" zby f fd)(zit:↑Cal "is_name" 1 qzt):↑FK 2 f fd ["name","things"] (Zu qm wj):=by
 have J:=Yf;refine F.okX J (λI H Q E h=>by obtain⟨_,_,_,rfl,_⟩:=h;rfl) λ_ _ _ _ H I Q E U h=>?_;obtain⟨x,d,kvs,rfl,S,Z,k,O,L⟩:=h;refine⟨_,(qy (x4 (qqb (Q9 (wCA zit (q9 (pv 0) qk)))) (qt (vz rfl T.zac zy rfl T.zhp (xu xn qk))) w9)
   (qt (x4 (Qm (xwt (vc U) (pv 0) (pv 1))) (qt (vz rfl T.zae zy rfl T.zhq (xu xn qk))) w9))),?_⟩
 exists ⟨x,rfl,S,λH1 G=>(exI rfl ?_)⟩;have dg:DGet H1 d (.str x) (wp kvs (.inr x)):=DGet.k (k:=.inr x) (G _ _ Z);cases hn:zj x with
 |false=>exact jg ⟨sz1,O hn H1 G⟩
 |true =>
  refine yz (exI rfl (exI rfl ⟨d,exI rfl ⟨dg,_,rfl,?_⟩⟩));cases hv:wp kvs (.inr x) with
  |none=>exact yz (k hn hv H1 G)
  |some v=>exact jg ⟨sz1,L hn (by rw[hv];rfl) H1 G⟩
def qy9:Sp:=λvs H Q _=>∃(t c:Aj) (R cs:List (Key×V)),vs=[.ref t,.ref c]/\t≠c/\H t=some (.dK R)/\Rd H c (.dK cs)/\(cs.map (·.1)).Nodup/\R.length<=1000/\cs.length<=1000/\wxc R cs /\
 ∀q H',H q=none->H' q=some (.dK (bfK R cs))->H' t=some (.dK (exK R cs))->Rd H' c (.dK cs)->Kb [t,c] H H'->Q (.ref q) H'
include T in
theorem xvy (F:Fun K "exchange" "exchange" zbz f fd):↑FK 1 f fd ["things","changes"] qy9:=by
 have sc:=wxh;refine F.okX sc ⋯ λ_ _ _ s H vs Q E hr h=>?_;obtain⟨t,c,R,cs,rfl,tc,ht,hc,nd,lR,lc,ok,k⟩:=h;have a0:(1000000:Nat)<sizeLine:=by decide
 refine⟨_,(qy (qq2 (i:=2) (M:=[0]) sc.nd rfl (by walk_at "loc") rfl rfl (by walk_at "cap") (by walk_at "has") (by walk_at "cix") rfl (by decide +kernel) rfl (show List.Nodup (["name","things"]:List Str) by decide +kernel) (wu2 (pv 1)) (λ_ _ _ _ _=>(pv 0)) (λ_ _ _ _ _=>(xqp (vc hr) (pv 1) (pv 0) ⟨rfl,rfl,rfl,rfl⟩)))
   (qy (yq aS rfl (pi_di (pv 1)) (vt rfl (xf (xy (i:=3)) (xf (xy (i:=4)) vq))) (qt (x4 (wn op_isN (pv 4) jx (wt _)) (qt (xvd (pv 0) (pv 3))) (qt (Qb (vc hr) (pv 0) (pv 3) (pv 4) rfl)))))
   (qt (w6 (pv 2))))),?_⟩
 exists ⟨c,cs,rfl,hc,λo H1 L=>?_⟩;have U:H1 t=some (.dK R):=by rw[L.2 t tc];exact ht
 refine xxz (λk=>(wp R k).getD .non) ⋯ nd L.1 (λk H' RR s' hR=>(exI rfl (exI rfl ⟨t,rfl,.inl ⟨R,.inl (s' _ _ U)⟩,exI rfl ⟨_,DGet.k (k:=k) (s' _ _ U),hR⟩⟩))) λq J=>?_;have ap:H q=none:=by
  cases e:H q with
  |none=>rfl
  |some I =>
   by_cases z:q=c
   .rw[z,L.1]at J;cases J
   .rw[L.2 q z,e]at J;cases J
 have s2:Same H1 (upd H1 q (.dK (bfK R cs))):=Same.upd J;have fq:upd H1 q (.dK (bfK R cs)) q=some (.dK (bfK R cs)):=qb;have c2:upd H1 q (.dK (bfK R cs)) c=some (.frz o (.dK cs)):=s2 _ _ L.1;have t2:upd H1 q (.dK (bfK R cs)) t=some (.dK R):=s2 _ _ U;have tq:t≠q:=wq U J;have kb:Kb [t,c] H (upd H1 q (.dK (bfK R cs))):=λb I G e=>s2 _ _ (by rw[L.2 b (λz=>G (by simp[z]))];exact e);have an:(cs.map λc=>(c.1,(wp R c.1).getD .non))=bfK R cs:=rfl;rw[an];generalize upd H1 q (.dK (bfK R cs))=H2 at fq c2 t2 kb;exists ⟨c,cs,rfl,.inr ⟨o,c2⟩,λo' H3 ab=>?_⟩;have cq:q≠c:=λz=>by rw[z,c2]at fq;cases fq
 have t3:H3 t=some (.dK R):=by rw[ab.2 t tc];exact t2
 have q3:H3 q=some (.dK (bfK R cs)):=by rw[ab.2 q cq];exact fq
 have kb3:Kb [t,c] H H3:=λb I G e=>by rw[ab.2 b (λz=>G (by simp[z]))];exact kb b I G e
 refine for_di (λi σ H'=>(∃z3 z4,σ=[some (.ref t),some (.ref c),some (.ref q),z3,z4])/\H' c=some (.frz o' (.dK cs))/\H' q=some (.dK (bfK R cs))/\H' t=some (.dK (exK R (cs.take i)))/\Kb [t,c] H H') ⟨⟨_,_,rfl⟩,ab.1,q3,t3,kb3⟩ (λi σ H' hi h=>h.2.1) ?_ ?_
 .rintro i cc z σ H' ec nz ⟨⟨z3,z4,rfl⟩,a1,a2,a3,a4⟩;have S:Same H' (upd H' z (.tup [kV cc.1,cc.2])):=Same.upd nz;refine⟨z,exI rfl ⟨SqT.new,rfl,_,_,rfl,_,_,rfl,rfl,?_⟩⟩;have b1:=S _ _ a1;have b2:=S _ _ a2;have b3:=S _ _ a3;have b4:Kb [t,c] H (upd H' z (.tup [kV cc.1,cc.2])):=λb I G e=>S _ _ (a4 b I G e);generalize upd H' z (.tup [kV cc.1,cc.2])=H4 at b1 b2 b3 b4;have le:=xv1 R (cs.take i);have lt:(cs.take i).length<=1000:=by rw[bG];lia
  have et:=xx8 R ec;have ah:t≠q:=tq;have ad:∀O,ex1 (exK R (cs.take i)) cc=O->(∃z3' z4',[some (V.ref t),some (V.ref c),some (V.ref q),some (kV cc.1),some cc.2]=[some (V.ref t),some (V.ref c),some (V.ref q),z3',z4'])/\upd H4 t (.dK O) c=some (.frz o' (.dK cs))/\upd H4 t (.dK O) q=some (.dK (bfK R cs))/\upd H4 t (.dK O) t=some (.dK (exK R (cs.take (i+1))))/\Kb [t,c] H (upd H4 t (.dK O)):=λO e=>by
   refine⟨⟨_,_,rfl⟩,?_,?_,?_,λb I G e'=>?_⟩
   .rw[wg (aZ tc)];exact b1
   .rw[wg (aZ ah)];exact b2
   .rw[qb,et,e]
   .rw[wg (λz=>G (by simp[z]))];exact b4 b I G e'
  exists ⟨rfl,_,rfl,zn (λZ=>?_) (λZ=>?_)⟩
  .exact exI rfl (exI rfl ⟨t,_,cc.1,rfl,b3,rfl,ok i cc ec Z,ad _ (by unfold ex1;rw[ak Z])⟩)
  .exact exI rfl (exI rfl (exI rfl ⟨t,exI rfl ⟨DPut.k (k:=cc.1) b3 ⋯,ad _ (by unfold ex1;rw[ag Z])⟩⟩))
 .rintro σ H' ⟨⟨z3,z4,rfl⟩,a1,a2,a3,a4⟩;rw[ce]at a3;exact exI rfl (k q H' ap a2 a3 (.inr ⟨o',a1⟩) a4)
def hF (dr dw dd:Aj):List (Str×V):=[("roads",.ref dr),("walkers",.ref dw),("done",.ref dd)]
variable {dr dw dd:Aj}
theorem jh:(hF dr dw dd).lookup ("roads" : Str)=some (.ref dr):=by unfold hF;rw[aO];simp
theorem vd:(hF dr dw dd).lookup ("walkers" : Str)=some (.ref dw):=by unfold hF;rw[aO,show(("walkers" : Str)==("roads" : Str))=false by decide +kernel];dsimp only;rw[aO];simp
theorem qqk:(hF dr dw dd).lookup ("done" : Str)=some (.ref dd):=by unfold hF;rw[aO,show(("done" : Str)==("roads" : Str))=false by decide +kernel];dsimp only;rw[aO,show(("done" : Str)==("walkers" : Str))=false by decide +kernel];dsimp only;rw[aO];simp
theorem xt {dr dw dd:Aj}{m:Str}(h1:autoParam (¬ m = "roads") aU7._auto_1)(h2:autoParam (¬ m = "walkers") aU7._auto_1)(h3:autoParam (¬ m = "done") aU7._auto_1):(hF dr dw dd).lookup m=none:=by unfold hF;rw[aO,aY.mpr h1];dsimp only;rw[aO,aY.mpr h2];dsimp only;rw[aO,aY.mpr h3];rfl
structure Hse (C:Aj)(H:Hp)(x dr dw dd:Aj)(R W:List (Key×V))(D:List V):Prop where
 ob:∃dx,H x=some (.ins C dx (hF dr dw dd))
 r:H dr=some (.dK R)
 w:H dw=some (.dK W)
 d:H dd=some (.lst D)
 ne:dr≠dw
variable {R W:List (Key×V)}{D:List V}
theorem Hse.kb {x:Aj}(h:Hse C H x dr dw dd R W D){ch:List Aj}(k:Kb ch H H')(n:x∉ch/\dr∉ch/\dw∉ch/\dd∉ch):Hse C H' x dr dw dd R W D:=by obtain⟨dx,e⟩:=h.ob;exact⟨⟨dx,k _ _ n.1 e⟩,k _ _ n.2.1 h.r,k _ _ n.2.2.1 h.w,k _ _ n.2.2.2 h.d,h.ne⟩
theorem Hse.same {x:Aj}(h:Hse C H x dr dw dd R W D)(s:Same H H'):Hse C H' x dr dw dd R W D:=h.kb (ch:=[]) (Kb.of s) ⟨af,af,af,af⟩
def Jn (C:Aj):Sp:=λvs H Q _=>∃x dx,vs=[.ref x]/\H x=some (.ins C dx [])/\∀H' dr dw dd,H dr=none->H dw=none->H dd=none->Hse C H' x dr dw dd [] [] []->Kb [x] H H'->Q .non H'
include T in
theorem xqj (F:Fun K "__init__" "House.__init__" zb0 f fd):↑FK 1 f fd ["self"] (Jn qq):=by
 have sc:=Yt;refine F.okX sc ⋯ λ_ _ _ _ H vs Q E hr h=>?_;obtain⟨x,dx,rfl,S,k⟩:=h;refine⟨_,(qy (Zz (pv 0) km rfl)
   (qy (Zz (pv 0) km rfl)
   (qt (Zz (pv 0) (yj qk) rfl)))),?_⟩
 refineλdr J=>exI rfl ⟨x,qq,dx,[],rfl,(by rw[wg (wq S J)];exact S),T.clH,T.naHr,(by show 0<1000;decide),?_⟩;have e1:∀b o,b≠x->H b=some o->upd (upd H dr (.dK [])) x (.ins qq dx (jj "roads" (.ref dr) [])) b=some o:=λb o G e=>by rw[wg G,wg (wq e J)];exact e
 have x1:upd (upd H dr (.dK [])) x (.ins qq dx (jj "roads" (.ref dr) [])) x=some (.ins qq dx (jj "roads" (.ref dr) [])):=qb;have U:upd (upd H dr (.dK [])) x (.ins qq dx (jj "roads" (.ref dr) [])) dr=some (.dK []):=by rw[wg (wq S J).symm,qb]
 generalize upd (upd H dr (.dK [])) x (.ins qq dx (jj "roads" (.ref dr) []))=H1 at e1 x1 U;refineλdw I=>exI rfl ⟨x,qq,dx,exI rfl ⟨(by rw[wg (wq x1 I)];exact x1),T.clH,T.naHw,(by show 1<1000;decide),?_⟩⟩;have xr:x≠dr:=wq S J;have e2:∀b o,b≠x->H1 b=some o->upd (upd H1 dw (.dK [])) x (.ins qq dx (jj "walkers" (.ref dw) (jj "roads" (.ref dr) []))) b=some o:=λb o G e=>by rw[wg G,wg (wq e I)];exact e
 have L:upd (upd H1 dw (.dK [])) x (.ins qq dx (jj "walkers" (.ref dw) (jj "roads" (.ref dr) []))) x=some (.ins qq dx (jj "walkers" (.ref dw) (jj "roads" (.ref dr) []))):=qb;have w2:upd (upd H1 dw (.dK [])) x (.ins qq dx (jj "walkers" (.ref dw) (jj "roads" (.ref dr) []))) dw=some (.dK []):=by rw[wg (wq x1 I).symm,qb]
 have r2:=e2 dr _ xr.symm U;generalize upd (upd H1 dw (.dK [])) x (.ins qq dx (jj "walkers" (.ref dw) (jj "roads" (.ref dr) [])))=H2 at e2 L w2 r2;have xw:x≠dw:=wq x1 I;refine⟨sz0,λdd O=>(exI rfl ⟨x,qq,dx,exI rfl ⟨(by rw[wg (wq L O)];exact L),T.clH,T.naHd,(by show 2<1000;decide),?_⟩⟩)⟩;have xd:x≠dd:=wq L O;have Z:∀b o,b≠x->H2 b=some o->upd (upd H2 dd (.lst [])) x (.ins qq dx (jj "done" (.ref dd) (jj "walkers" (.ref dw) (jj "roads" (.ref dr) [])))) b=some o:=λb o G e=>by rw[wg G,wg (wq e O)];exact e
 have ab:∀b o,b≠x->H b=some o->H2 b=some o:=λb o G e=>e2 b o G (e1 b o G e);have ad:∀b,b≠x->H2 b=none->H b=none:=λb G e=>by
  cases q:H b with
  |none=>rfl
  |some o=>rw[ab b o G q]at e;cases e
 refine k _ dr dw dd J (by
  cases q:H dw with
  |none=>rfl
  |some o=>rw[e1 dw o xw.symm q]at I;cases I) (ad dd xd.symm O) ⟨⟨dx,qb⟩,Z _ _ xr.symm r2,Z _ _ xw.symm w2,?_,wq U I⟩ λb o G e=>Z b o (λz=>G (by simp[z])) (ab b o (λz=>G (by simp[z])) e)
 rw[wg xd.symm,qb]
def v6 (C CN:Aj)(roads:Bool):Sp:=λvs H Q E=>∃(x dr dw dd:Aj) (R W:List (Key×V)) (D:List V) (n:Str),vs=[.ref x,.str n]/\Hse C H x dr dw dd R W D /\
 (∀v,wp (if roads then R else W) (.inr n)=some v->Q v H)/\(wp (if roads then R else W) (.inr n)=none->E (.ref CN) none H)
include T in
theorem qzc (F:Fun K "road_called" "House.road_called" zb1 f fd):↑FK 1 f fd ["self","name"] (v6 qq q8 true):=by
 have S:=W2;refine F.okX S (λO H Q E h=>by obtain⟨_,_,_,_,_,_,_,_,rfl,_⟩:=h;rfl) λ_ _ _ _ H O Q E J h=>?_;obtain⟨x,dr,dw,dd,R,W,D,n,rfl,L,k,kx⟩:=h;obtain⟨dx,I⟩:=L.ob;have G:DGet H dr (.str n) (wp R (.inr n)):=DGet.k (k:=.inr n) L.r;refine⟨_,(qy (x4 (Qm (yu (vc J) (pv 1) (zh (pv 0) rfl))) (qt (vz rfl T.zaf zy rfl T.zhr (xu xn qk))) w9)
   (qt (w6 (jw (vc J) (zh (pv 0) rfl) (pv 1) (λ_ _=>rfl))))),?_⟩
 exists (exI rfl ⟨x,qq,dx,_,_,rfl,I,T.clH,T.naHr,jh,dr,exI rfl ⟨G,_,rfl,?_⟩⟩);cases e:wp R (.inr n) with
 |none=>exact jg ⟨sz1,kx e⟩
 |some v =>
  rw[e]at G;exact yz (exI rfl ⟨x,qq,dx,_,_,rfl,I,T.clH,T.naHr,jh,exI rfl ⟨dr,v,rfl,G,k v e⟩⟩)
include T in
theorem qqv (F:Fun K "walker_called" "House.walker_called" zb2 f fd):↑FK 1 f fd ["self","name"] (v6 qq qj false):=by
 have S:=Wh;refine F.okX S (λO H Q E h=>by obtain⟨_,_,_,_,_,_,_,_,rfl,_⟩:=h;rfl) λ_ _ _ _ H O Q E J h=>?_;obtain⟨x,dr,dw,dd,R,W,D,n,rfl,L,k,kx⟩:=h;obtain⟨dx,I⟩:=L.ob;have G:DGet H dw (.str n) (wp W (.inr n)):=DGet.k (k:=.inr n) L.w;refine⟨_,(qy (x4 (Qm (yu (vc J) (pv 1) (zh (pv 0) rfl))) (qt (vz rfl T.zah zy rfl T.zhs (xu xn qk))) w9)
   (qt (w6 (jw (vc J) (zh (pv 0) rfl) (pv 1) (λ_ _=>rfl))))),?_⟩
 exists (exI rfl ⟨x,qq,dx,_,_,rfl,I,T.clH,T.naHw,vd,dw,exI rfl ⟨G,_,rfl,?_⟩⟩);cases e:wp W (.inr n) with
 |none=>exact jg ⟨sz1,kx e⟩
 |some v =>
  rw[e]at G;exact yz (exI rfl ⟨x,qq,dx,_,_,rfl,I,T.clH,T.naHw,vd,exI rfl ⟨dw,v,rfl,G,k v e⟩⟩)
def Jy (C:Aj):Sp:=λvs H Q _=>∃(x dr dw dd c1 c2:Aj) (R W cs1 cs2:List (Key×V)) (D:List V),vs=[.ref x,.ref c1,.ref c2]/\Hse C H x dr dw dd R W D/\Rd H c1 (.dK cs1)/\Rd H c2 (.dK cs2)/\c1≠c2/\c1≠dr/\c1≠dw/\c2≠dr/\c2≠dw /\
 (cs1.map (·.1)).Nodup/\(cs2.map (·.1)).Nodup/\R.length<=1000/\W.length<=1000/\cs1.length<=1000/\cs2.length<=1000/\D.length<=1000000/\wxc R cs1/\wxc W cs2 /\
 ∀H' tp q1 q2,H tp=none->H q1=none->H q2=none->Hse C H' x dr dw dd (exK R cs1) (exK W cs2) (D++[.ref tp])->H' tp=some (.tup [.ref q1,.ref q2])->H' q1=some (.dK (bfK R cs1))->H' q2=some (.dK (bfK W cs2))->q1≠q2->Rd H' c2 (.dK cs2)->Kb [dr,dw,dd,c1,c2] H H'->Q .non H'
include T in
theorem ziu (F:Fun K "do" "House.do" zb4 f fd)(zba:↑Cal "exchange" 1 qy9):↑FK 2 f fd ["self","roads","walkers"] (Jy qq):=by
 have sc:=wqr;refine F.okX sc ⋯ λ_ _ _ _ H vs Q E hr h=>?_;obtain⟨x,dr,dw,dd,c1,c2,R,W,c0,b1,D,rfl,I,h1,h2,a8,co,a3,a7,cj,ci,cg,lR,lW,l1,l2,lD,b8,b7,k⟩:=h;obtain⟨dx,hx⟩:=I.ob;have c6:(1000000:Nat)<sizeLine:=by decide
 have ap:∀ {b o},Rd H b (.dK o)->x≠b:=λ{b o} hb z=>by rcases hb with hb|⟨u,hb⟩ <;> (rw[<-z,hx]at hb;cases hb)
 have a0:∀ {b o},Rd H b (.dK o)->dd≠b:=λ{b o} hb z=>by rcases hb with hb|⟨u,hb⟩ <;> (rw[<-z,I.d]at hb;cases hb)
 have xr:=ap (.inl I.r);have xw:=ap (.inl I.w);have x1:=ap h1;have x2:=ap h2;have b0:=a0 (.inl I.r);have bt:=a0 (.inl I.w);have d1:=a0 h1;have d2:=a0 h2;refine⟨_,(qt (zx (Zt bC bS bT y9 (zh (pv 0) rfl) (qzv (zk (k6 (wCA zba (x8 (zh (pv 0) rfl) (q9 (pv 1) qk))) (k6 (wCA zba (x8 (zh (pv 0) rfl) (q9 (pv 2) qk))) qk))) qk)))),?_⟩;exists ⟨x,qq,dx,_,_,rfl,hx,T.clH,T.naHd,qqk,.inl ⟨rfl,_,SqL.of I.d⟩,?_⟩;exists ⟨x,qq,dx,_,_,rfl,hx,T.clH,T.naHr,jh,exI rfl ⟨dr,c1,R,c0,rfl,aZ co,I.r,h1,ci,lR,l1,b8,λS H1 ah bp bl bs ad=>?_⟩⟩;have m1:∀b,b≠dr->b≠c1->b∉[dr,c1]:=λb a1 a2 z=>by
  rcases ae.mp z with z|z
  .exact a1 z
  .exact a2 (am.mp z)
 have a9:=ad _ _ (m1 x xr x1) hx;have cq:=ad _ _ (m1 dw (aZ I.ne) (aZ a3)) I.w;have cr:=ad _ _ (m1 dd b0 d1) I.d;have ct:=ad.rd (m1 c2 a7 (aZ a8)) h2;exists ⟨x,qq,dx,_,_,rfl,a9,T.clH,T.naHw,vd,exI rfl ⟨dw,c2,W,b1,rfl,aZ cj,cq,ct,cg,lW,l2,b7,λL H2 Z bm bk br ab=>?_⟩⟩;have m2:∀b,b≠dw->b≠c2->b∉[dw,c2]:=λb a1 a2 z=>by
  rcases ae.mp z with z|z
  .exact a1 z
  .exact a2 (am.mp z)
 have b4:S≠dw:=λz=>by rw[z,I.w]at ah;cases ah
 have b5:S≠c2:=λz=>by rcases h2 with h2|⟨u,h2⟩ <;> (rw[z,h2]at ah;cases ah)
 have bo:=ab _ _ (m2 S b4 b5) bp;have b6:S≠L:=wq bp Z;have cc:H L=none:=by
  cases e:H L with
  |none=>rfl
  |some o =>
   by_cases z:L=dr\/L=c1
   .rcases z with z|z
    .rw[z,bl]at Z;cases Z
    .rcases bs with g|⟨u,g⟩ <;> (rw[z,g]at Z;cases Z)
   .rw[ad _ _ (m1 L (λy=>z (.inl y)) (λy=>z (.inr y))) e]at Z;cases Z
 refine⟨sz2,λG an=>?_⟩;have cp:=ab _ _ (m2 x xw x2) a9;have bb:=ab _ _ (m2 dr I.ne (aZ a7)) bl;have bf:=ab _ _ (m2 dd bt d2) cr;have a6:∀b o,b∉[dr,dw,dd,c1,c2]->H b=some o->H2 b=some o:=λb o O e=>by simp only[ae,af,aQ,not_or]at O;exact ab _ _ (m2 b O.2.1 O.2.2.2.2) (ad _ _ (m1 b O.1 O.2.2.2.1) e)
 have b3:∀b,b=dr\/b=dw\/b=dd\/b=c1\/b=c2->H2 b≠none:=λb h z=>by
  rcases h with h|h|h|h|h
  .rw[h,bb]at z;cases z
  .rw[h,bk]at z;cases z
  .rw[h,bf]at z;cases z
  .by_cases y:c1=dw
   .exact a3 y
   .rcases bs with g|⟨u,g⟩ <;> (rw[h,ab _ _ (m2 c1 a3 a8) g]at z;cases z)
  .rcases br with g|⟨u,g⟩ <;> (rw[h,g]at z;cases z)
 have b9:H G=none:=by
  cases e:H G with
  |none=>rfl
  |some o =>
   by_cases z:G=dr\/G=dw\/G=dd\/G=c1\/G=c2
   .exact absurd an (b3 G z)
   .rw[a6 G o (by simp only[ae,af,aQ];exact z) e]at an;cases an
 have J:Same H2 (upd H2 G (.tup [.ref S,.ref L])):=Same.upd an;have ft:upd H2 G (.tup [.ref S,.ref L]) G=some (.tup [.ref S,.ref L]):=qb;generalize upd H2 G (.tup [.ref S,.ref L])=H3 at J ft;have a4:=J _ _ bf;refine⟨dd,D,_,rfl,rfl,a4,⋯,?_⟩;have U:∀b o,b≠dd->H3 b=some o->upd H3 dd (.lst (D++[.ref G])) b=some o:=λb o O e=>by rw[wg O];exact e
 have kq:∀b kv,H3 b=some (.dK kv)->b≠dd:=λb kv e z=>by rw[z,a4]at e;cases e
 have b2:Rd (upd H3 dd (.lst (D++[.ref G]))) c2 (.dK b1):=by
  rcases br with e|⟨u,e⟩
  .exact .inl (U _ _ (aZ d2) (J _ _ e))
  .exact .inr ⟨u,U _ _ (aZ d2) (J _ _ e)⟩
 refine k _ G S L b9 ah cc ⟨⟨dx,U _ _ (λz=>by rw[z]at hx;rw[I.d]at hx;cases hx) (J _ _ cp)⟩,U _ _ (aZ b0) (J _ _ bb),U _ _ (aZ bt) (J _ _ bk),qb,I.ne⟩ (U _ _ (λz=>by rw[z,a4]at ft;cases ft) ft) (U _ _ (kq _ _ (J _ _ bo)) (J _ _ bo)) (U _ _ (kq _ _ (J _ _ bm)) (J _ _ bm)) b6 b2 λb o O e=>?_;exact U _ _ (λz=>O (by simp[z])) (J _ _ (a6 b o O e))
def Z4 (D:List V):Prop:=∀v∈D,∃a,v=V.ref a
theorem RoadAt.kb {CH:Aj}(h:RoadAt C H r hs)(ok:xm hs){ch:List Aj}{D:List V}(k:Kb ch H H')(rf:Z4 D)(hc:∀b∈ch,(∃kv,Rd H b (.dK kv))\/H b=some (.lst D)):RoadAt C H' r hs:=by
 obtain⟨dx,q,h1,h2⟩:=h;refine⟨dx,q,k _ _ (λz=>?_) h1,k _ _ (λz=>?_) h2⟩
 .rcases hc r z with⟨kv,e|⟨o,e⟩⟩|e <;> (rw[h1]at e;cases e)
 .rcases hc q z with⟨kv,e|⟨o,e⟩⟩|e
  .rw[h2]at e;cases e
  .rw[h2]at e;cases e
  .rw[h2]at e;have e:hs.map V.int=D:=by cases e;rfl
   have l:=ok.1;have m:V.int (hs[0]'⋯)∈hs.map V.int:=ar.mpr ⟨_,bH _,rfl⟩;rw[e]at m;obtain⟨a,F⟩:=rf _ m;cases F
variable {H3:Hp}{c1 c2:Aj}
theorem xwj {o1 o2 o3:HO}(n1:H c1=none)(s3:Same (upd H c1 o1) H3)(n2:upd H3 c1 o2 c2=none):Same H (upd (upd H3 c1 o2) c2 o3):=λb o e=>by
 have b1:b≠c1:=wq e n1;have e3:H3 b=some o:=s3 _ _ (by rw[wg b1];exact e);have e4:upd H3 c1 o2 b=some o:=by rw[wg b1];exact e3
 rw[wg (wq e4 n2)];exact e4
variable {n:Str}{Q:VK}
theorem qxz {CR:Aj}{x:Aj}(hh:Hse C H x dr dw dd R W D)(n1:H c1=none)(s3:Same (upd H c1 (.dK [])) H3)(R3:RoadAt CR H3 r hs)(okl:xm hs)(rf:Z4 D)(lR:R.length<=1000)(lW:W.length<=1000)(lD:D.length<=1000000)(k:∀H' tp q1 q2,H tp=none->H q1=none->H q2=none->Hse C H' x dr dw dd (v8 R (.inr n) (.ref r)) W (D++[.ref tp])->H' tp=some (.tup [.ref q1,.ref q2])->H' q1=some (.dK [(.inr n,(wp R (.inr n)).getD .non)])->H' q2=some (.dK [])->q1≠q2->RoadAt CR H' r hs->Kb [dr,dw,dd] H H'->Q .non H') :
  ∀c2,upd H3 c1 (.dK [(.inr n,.ref r)]) c2=none->Jy C [.ref x,.ref c1,.ref c2] (upd (upd H3 c1 (.dK [(.inr n,.ref r)])) c2 (.dK [])) Q E:=by
 intro c2 F;have I:Same H (upd (upd H3 c1 (.dK [(.inr n,.ref r)])) c2 (.dK [])):=xwj n1 s3 F;have ab:c1≠c2:=λz=>by rw[<-z,qb]at F;cases F
 have e1:upd (upd H3 c1 (.dK [(.inr n,.ref r)])) c2 (.dK []) c1=some (.dK [(.inr n,.ref r)]):=by rw[wg ab,qb]
 have e2:upd (upd H3 c1 (.dK [(.inr n,.ref r)])) c2 (.dK []) c2=some (.dK []):=qb;have ah:H3 c1=some (.dK []):=s3 _ _ qb;have R4:RoadAt CR (upd (upd H3 c1 (.dK [(.inr n,.ref r)])) c2 (.dK [])) r hs:=by
  obtain⟨dx,q,a1,a2⟩:=R3;have ad:∀b o,(∀Z,o≠HO.dK Z)->H3 b=some o->upd (upd H3 c1 (.dK [(.inr n,.ref r)])) c2 (.dK []) b=some o:=λb o G e=>by
   have S:b≠c1:=λz=>by rw[z,ah]at e;cases e;exact G _ rfl
   have e4:upd H3 c1 (.dK [(.inr n,.ref r)]) b=some o:=by rw[wg S];exact e
   rw[wg (wq e4 F)];exact e4
  exact⟨dx,q,ad _ _ (λZ z=>by cases z) a1,ad _ _ (λZ z=>by cases z) a2⟩
 have U:H c2=none:=by
  cases q:H c2 with
  |none=>rfl
  |some o =>
   have S:c2≠c1:=aZ ab;rw[wg S,s3 _ _ (show upd H c1 (.dK []) c2=some o by rw[wg S];exact q)]at F;cases F
 generalize upd (upd H3 c1 (.dK [(.inr n,.ref r)])) c2 (.dK [])=H4 at I e1 e2 R4;have L:=hh.same I;refine⟨x,dr,dw,dd,c1,c2,R,W,[(.inr n,.ref r)],[],D,rfl,L,.inl e1,.inl e2,ab,(wq hh.r n1).symm,(wq hh.w n1).symm,(wq hh.r U).symm,(wq hh.w U).symm,bc.mpr ⟨af,aX⟩,aX,lR,lW,by show 1<=1000;decide,aA _,lD,λi c O hc=>?_,(λi c O hc=>nomatch O),λH' tp q1 q2 a1 a2 a3 a4 a5 a6 a7 a8 _ a9=>?_⟩
 .cases i with
  |zero=>cases O;cases hc
  |succ i=>cases O
 .have G:∀b,H4 b=none->H b=none:=λb e=>x6 I e;have rd:RoadAt CR H' r hs:=R4.kb (CH:=C) okl a9 rf λb hb=>by
   simp only[ae,af,aQ]at hb;rcases hb with rfl|rfl|rfl|rfl|rfl
   .exact .inl ⟨_,.inl L.r⟩
   .exact .inl ⟨_,.inl L.w⟩
   .exact .inr L.d
   .exact .inl ⟨_,.inl e1⟩
   .exact .inl ⟨_,.inl e2⟩
  refine k H' tp q1 q2 (G _ a1) (G _ a2) (G _ a3) a4 a5 a6 a7 a8 rd λb o J e=>a9 b o (λz=>?_) (I _ _ e);simp only[ae,af,aQ]at z J;rcases z with z|z|z|z|z
  .exact J (.inl z)
  .exact J (.inr (.inl z))
  .exact J (.inr (.inr z))
  .rw[z,n1]at e;cases e
  .rw[z,U]at e;cases e
def RDeed (C CR:Aj)(H H':Hp)(x dr dw dd:Aj)(R W:List (Key×V))(D:List V)(n:Str)(hs:List Int):Prop:=∃r tp q1 q2,H tp=none/\H q1=none/\H q2=none/\Hse C H' x dr dw dd (v8 R (.inr n) (.ref r)) W (D++[.ref tp])/\H' tp=some (.tup [.ref q1,.ref q2])/\H' q1=some (.dK [(.inr n,(wp R (.inr n)).getD .non)])/\H' q2=some (.dK [])/\q1≠q2/\RoadAt CR H' r hs/\Kb [dr,dw,dd] H H'
theorem RDeed.pre {CR:Aj}{H0:Hp}{x:Aj}(h:RDeed C CR H H' x dr dw dd R W D n hs)(s:Same H0 H):RDeed C CR H0 H' x dr dw dd R W D n hs:=by obtain⟨r,F,I,G,a1,a2,a3,a4,a5,Z,U,S,O,L⟩:=h;exact⟨r,F,I,G,x6 s a1,x6 s a2,x6 s a3,a4,a5,Z,U,S,O,λb o J e=>L b o J (s _ _ e)⟩
def qx2 (K:Aa)(C CR CN CT CL:Aj):Sp:=λvs H Q E=>∃(x dr dw dd p:Aj) (R W:List (Key×V)) (D:List V) (n:Str) (hs:List Int),vs=[.ref x,.str n,.ref p]/\Hse C H x dr dw dd R W D/\Z4 D/\R.length<=1000/\W.length<=1000/\D.length<=1000000/\n.length<=1000/\H p=some (.lst (hs.map V.int)) /\
 (zj n=true->wp R (.inr n)=none->xm hs->∀H',RDeed C CR H H' x dr dw dd R W D n hs->Q .non H')/\(zj n=false->∀H',Same H H'->E (.ref CN) none H')/\(zj n=true->(wp R (.inr n)).isSome=true->∀H',Same H H'->E (.ref CT) none H')/\(zj n=true->wp R (.inr n)=none->¬ xm hs->∀H',Same H H'->E (.ref CL) none H')
include T in
theorem ziv (F:Fun K "lay" "House.lay" zb5 f fd)(zdr:↑Cal "check_new_name" 2 (Zu qm wj))(zay:↑CCal "Road" qg 2 (Yj K qh qg))(zab:↑MCal qq "do" 2 (Jy qq)) :
  ↑FK 4 f fd ["self","name","heights"] (qx2 K qq qg qm wj qh):=by
 have sc:=qy7;refine F.okX sc ⋯ λ_ _ _ _ H vs Q E U h=>?_;obtain⟨x,dr,dw,dd,p,R,W,D,n,hs,rfl,L,rf,lR,lW,lD,ln,Z,k,kn,kt,kl⟩:=h;obtain⟨dx,S⟩:=L.ob;refine⟨_,(qy (zx (wCA zdr (q9 (pv 1) (x8 (zh (pv 0) rfl) qk))))
   (qt (zx (xg (pv 0) T.clH zab (U.mono ⋯) qf (x8 (Qc (ud (pv 1) (Q4 zay (U.mono ⋯) rfl qf (q9 (pv 2) qk)) Qu) rfl rfl (λz=>nomatch z) ⋯) (x8 km qk)))))),?_⟩
 refine⟨_,rfl,_,rfl,x,qq,dx,_,_,rfl,S,T.clH,T.naHr,jh,n,dr,R,rfl,ln,L.r,λa1 a2 H1 G=>?_,kn,kt⟩;have ad:=L.same G;exists ⟨x,dx,exI rfl ⟨G _ _ S,xt,λc1 J=>(exI rfl (exI rfl (λr d0 nr ab ah=>qxw (H:=upd H1 c1 (.dK [])) (hs:=hs) (by rw[wg (wq (G _ _ Z) J)];exact G _ _ Z) nr ab (λO H3 I R3=>?_) λz H3 I=>kl a1 a2 z H3 (G.trans (λb o e=>I _ _ (by rw[wg (wq e J)];exact e))))))⟩⟩;refine⟨I _ _ qb,[(.inr n,.ref r)],rfl,(show 1<=15 by decide),?_⟩;exact qxz (E:=E) ad J I R3 O rf lR lW lD λH' tp q1 q2 b1 b2 b3 b4 b5 b6 b7 b8 b9 kb=>k a1 a2 O H' (RDeed.pre ⟨r,tp,q1,q2,b1,b2,b3,b4,b5,b6,b7,b8,b9,kb⟩ G)
def Ws (C CR CN:Aj):Sp:=λvs H Q E=>∃(x dr dw dd:Aj) (R W:List (Key×V)) (D:List V) (n:Str),vs=[.ref x,.str n]/\Hse C H x dr dw dd R W D /\
 (∀v,wp R (.inr n)=some v->∃r hs,v=.ref r/\RoadAt CR H r hs/\∀p,H p=none->Q (.ref p) (upd H p (.lst (hs.map V.int))))/\(wp R (.inr n)=none->E (.ref CN) none H)
include T in
theorem qvt (F:Fun K "corners_of" "House.corners_of" zch f fd)(zag:↑MCal qq "road_called" 1 (v6 qq q8 true))(zaz:↑MCal qg "corners" 1 (u6 qg)) :
  ↑FK 2 f fd ["self","name"] (Ws qq qg q8):=by
 have O:=Zm;refine F.okX O (λL H Q E h=>by obtain⟨_,_,_,_,_,_,_,_,rfl,_⟩:=h;rfl) λ_ _ _ _ H L Q E G h=>?_;obtain⟨x,dr,dw,dd,R,W,D,n,rfl,I,k,kx⟩:=h;obtain⟨dx,S⟩:=I.ob;refine⟨_,(qt (w6 (jz (xg (pv 0) T.clH zag (G.mono ⋯) qf (q9 (pv 1) qk)) T.cl zaz (G.mono ⋯) qf))),?_⟩;refine⟨_,rfl,x,dx,_,rfl,S,xt,_,rfl,x,dr,dw,dd,R,W,D,n,rfl,I,λv e=>?_,kx⟩;obtain⟨r,hs,rfl,J,q⟩:=k v e;obtain⟨U,l,h1,h2⟩:=id J;exact⟨r,U,exI rfl ⟨h1,vw (by decide +kernel),r,hs,rfl,J,q⟩⟩
def qzn (C CN:Aj):Sp:=λvs H Q E=>∃(x dr dw dd:Aj) (R W:List (Key×V)) (D:List V),vs=[.ref x]/\Hse C H x dr dw dd R W D/\R.length<=1000/\W.length<=1000/\(D=[]->E (.ref CN) none H) /\
 (∀D' v,D=D'++[v]->∃tp c1 c2 cs1 cs2,v=.ref tp/\H tp=some (.tup [.ref c1,.ref c2])/\Rd H c1 (.dK cs1)/\Rd H c2 (.dK cs2)/\c1≠c2/\c1≠dr/\c1≠dw/\c2≠dr/\c2≠dw/\(cs1.map (·.1)).Nodup/\(cs2.map (·.1)).Nodup/\cs1.length<=1000/\cs2.length<=1000/\wxc R cs1/\wxc W cs2 /\
  ∀H',Hse C H' x dr dw dd (exK R cs1) (exK W cs2) D'->Rd H' c1 (.dK cs1)->Rd H' c2 (.dK cs2)->Kb [dr,dw,dd,c1,c2] H H'->Q .non H')
include T in
theorem xvu (F:Fun K "take_back" "House.take_back" zce f fd)(zba:↑Cal "exchange" 1 qy9):↑FK 2 f fd ["self"] (qzn qq qw):=by
 have sc:=Z2;refine F.okX sc ⋯ λ_ _ _ _ H vs Q E hr h=>?_;obtain⟨x,dr,dw,dd,R,W,D,rfl,I,lR,lW,kx,k⟩:=h;obtain⟨dx,hx⟩:=I.ob;refine⟨_,(qy (x4 (wn zd (xh x9 rfl T.len_ aF (x8 (zh (pv 0) rfl) qk)) qc (wt _)) (qt (vz rfl T.zao zy rfl T.zhu (xu xn qk))) w9)
   (qy (k8 (wz0 bC eF eG wzx (zh (pv 0) rfl)) (vt rfl (xf (xy (i:=1)) (xf (xy (i:=2)) vq))))
   (qy (zx (wCA zba (x8 (zh (pv 0) rfl) (q9 (pv 1) qk))))
   (qt (zx (wCA zba (x8 (zh (pv 0) rfl) (q9 (pv 2) qk)))))))),?_⟩
 exists ⟨x,qq,dx,_,_,rfl,hx,T.clH,T.naHd,qqk,dd,exI rfl ⟨.inl (SqL.of I.d),rfl,_,rfl,v9 (λz=>?_) (λz=>?_)⟩⟩
 .exact⟨sz1,kx (eP ⋯)⟩
 .have ne:D≠[]:=λy=>z (by rw[y];rfl);have eD:D=D.dropLast++[D.getLast ne]:=(List.dropLast_concat_getLast ne).symm;obtain⟨tp,c1,c2,b8,b7,ev,ht,h1,h2,a6,bm,a4,a3,bl,bk,bf,l1,l2,bb,a9,k⟩:=k _ _ eD;have eL:D[D.length-1]?=some (.ref tp):=by rw[<-List.getLast?_eq_getElem?,List.getLast?_eq_getLast ne,ev]
  exists ⟨x,qq,dx,_,_,rfl,hx,T.clH,T.naHd,qqk,.inl ⟨rfl,_,SqL.of I.d⟩,dd,D,exI rfl ⟨rfl,I.d,eL,?_⟩⟩;have S:∀b o,b≠dd->H b=some o->upd H dd (.lst D.dropLast) b=some o:=λb o J e=>by rw[wg J];exact e
  have d0:upd H dd (.lst D.dropLast) dd=some (.lst D.dropLast):=qb;have O:∀b L,Rd H b (.dK L)->b≠dd:=λb L G y=>by rcases G with G|⟨o,G⟩ <;> (rw[y,I.d]at G;cases G)
  have bo:x≠dd:=λy=>by rw[y,I.d]at hx;cases hx
  have kt:tp≠dd:=λy=>by rw[y,I.d]at ht;cases ht
  have a0:∀b L,Rd H b (.dK L)->Rd (upd H dd (.lst D.dropLast)) b (.dK L):=λb L G=>by
   have J:=O b L G;rcases G with G|⟨o,G⟩
   .exact .inl (S _ _ J G)
   .exact .inr ⟨o,S _ _ J G⟩
  have r0:=S _ _ (O _ _ (.inl I.r)) I.r;have w0:=S _ _ (O _ _ (.inl I.w)) I.w;have x0:=S _ _ bo hx;have t0:=S _ _ kt ht;have ap:=a0 _ _ h1;have an:=a0 _ _ h2;have a7:Kb [dd] H (upd H dd (.lst D.dropLast)):=λb o J e=>S b o (λy=>J (by simp[y])) e;have b6:=O _ _ h1;have b5:=O _ _ h2;have b4:=O _ _ (.inl I.r);have b3:=O _ _ (.inl I.w);generalize upd H dd (.lst D.dropLast)=H0 at d0 r0 w0 x0 t0 ap an a7;refine⟨tp,exI rfl ⟨SqT.of t0,rfl,_,_,rfl,_,_,rfl,rfl,?_⟩⟩;have ah:∀ {b o},Rd H0 b (.dK o)->x≠b:=λ{b o} G y=>by rcases G with G|⟨u,G⟩ <;> (rw[<-y,x0]at G;cases G)
  have xr:=ah (.inl r0);have xw:=ah (.inl w0);have x1:=ah ap;have x2:=ah an;have Z:∀b,b≠dr->b≠c1->b∉[dr,c1]:=λb a1 a2 y=>by
   rcases ae.mp y with y|y
   .exact a1 y
   .exact a2 (am.mp y)
  have U:∀b,b≠dw->b≠c2->b∉[dw,c2]:=λb a1 a2 y=>by
   rcases ae.mp y with y|y
   .exact a1 y
   .exact a2 (am.mp y)
  exists ⟨x,qq,dx,_,_,rfl,x0,T.clH,T.naHr,jh,exI rfl ⟨dr,c1,R,b8,rfl,aZ bm,r0,ap,bk,lR,l1,bb,λq1 H1 cc ci b0 b2 ad=>?_⟩⟩;have a8:=ad _ _ (Z x xr x1) x0;have bp:=ad _ _ (Z dw (aZ I.ne) (aZ a4)) w0;have br:=ad _ _ (Z dd (aZ b4) (aZ b6)) d0;have bs:=ad.rd (Z c2 a3 (aZ a6)) an;exists ⟨x,qq,dx,_,_,rfl,a8,T.clH,T.naHw,vd,exI rfl ⟨dw,c2,W,b7,rfl,aZ bl,bp,bs,bf,lW,l2,a9,λq2 H2 b9 cg bt b1 ab=>?_⟩⟩;refine k H2 ⟨⟨dx,ab _ _ (U x xw x2) a8⟩,ab _ _ (U dr I.ne (aZ a3)) b0,bt,ab _ _ (U dd (aZ b3) (aZ b5)) br,I.ne⟩ (ab.rd (U c1 a4 a6) b2) b1 λb o J e=>?_;simp only[ae,af,aQ,not_or]at J;exact ab _ _ (U b J.2.1 J.2.2.2.2) (ad _ _ (Z b J.1 J.2.2.2.1) (a7 b o (by simpa using J.2.2.1) e))
theorem qyp (hs:List Int)(j:Nat)(h:Int):(hs.map V.int).set j (.int h)=(hs.set j h).map V.int:=by rw[List.map_set]
theorem ix_of {n:Nat}(h0:0<=c)(h1:c<n):ixN n c=some c.toNat:=by unfold ixN;rw[ak h0,ak h1]
def wqk (C CR CN CL:Aj):Sp:=λvs H Q E=>∃(x dr dw dd:Aj) (R W:List (Key×V)) (D:List V) (n:Str) (c h:Int),vs=[.ref x,.str n,.int c,.int h]/\Hse C H x dr dw dd R W D/\Z4 D/\R.length<=1000/\W.length<=1000/\D.length<=1000000/\(wp R (.inr n)=none->E (.ref CN) none H) /\
 (∀v,wp R (.inr n)=some v->∃r hs,v=.ref r/\RoadAt CR H r hs/\xm hs/\(¬ (0<=c/\c<(hs.length:Int))->∀H',Same H H'->E (.ref CL) none H')/\(0<=c->c<(hs.length:Int)->(xm (hs.set c.toNat h)->∀H',RDeed C CR H H' x dr dw dd R W D n (hs.set c.toNat h)->Q .non H')/\(¬ xm (hs.set c.toNat h)->∀H',Same H H'->E (.ref CL) none H')))
include T in
theorem xx6 (F:Fun K "bend" "House.bend" zb6 f fd)(zag:↑MCal qq "road_called" 1 (v6 qq q8 true))(zaz:↑MCal qg "corners" 1 (u6 qg))(zay:↑CCal "Road" qg 2 (Yj K qh qg))(zab:↑MCal qq "do" 2 (Jy qq)) :
  ↑FK 4 f fd ["self","name","corner","height"] (wqk qq qg q8 qh):=by
 have sc:=qkt;refine F.okX sc ⋯ λ_ _ _ _ H vs Q E J h=>?_;obtain⟨x,dr,dw,dd,R,W,D,n,c,h,rfl,O,rf,lR,lW,lD,kx,k⟩:=h;obtain⟨dx,hx⟩:=O.ob;refine⟨_,(qy (xx (i:=4) (jz (xg (pv 0) T.clH zag (J.mono ⋯) qf (q9 (pv 1) qk)) T.cl zaz (J.mono ⋯) qf))
   (qy (x4 (PW.pt (Qk (wn j8 (pv 2) qc (wt _)) (y8 (wn wxf (pv 2) (xh x9 rfl T.len_ aF (q9 (pv 4) qk)) (wt _))))) (qt (vz rfl T.zad zy rfl T.zdn (xu xn qk))) w9)
   (qy (k8 (pv 3) (wzq (pv 4) (pv 2) qx9))
   (qt (zx (xg (pv 0) T.clH zab (J.mono ⋯) qf (x8 (Qc (ud (pv 1) (Q4 zay (J.mono ⋯) rfl qf (q9 (pv 4) qk)) Qu) rfl rfl (λz=>nomatch z) ⋯) (x8 km qk)))))))),?_⟩
 refine⟨_,rfl,x,dx,_,rfl,hx,xt,_,rfl,x,dr,dw,dd,R,W,D,n,rfl,O,λv e=>?_,kx⟩;obtain⟨Z,hs,rfl,hR,ah,I,k⟩:=k v e;obtain⟨dy,l,h1,h2⟩:=id hR;refine⟨Z,dy,exI rfl ⟨h1,vw (by decide +kernel),Z,hs,rfl,hR,λp np=>?_⟩⟩;have U:Same H (upd H p (.lst (hs.map V.int))):=Same.upd np;have f1:upd H p (.lst (hs.map V.int)) p=some (.lst (hs.map V.int)):=qb;have lm:(hs.map V.int).length=hs.length:=aa _;exists (xb rfl rfl (exI rfl (zn (λz=>jg ⟨sz1,I ⋯ _ U⟩) (λz=>?_))));exists (exI rfl ⟨_,_,rfl,.inl (SqL.of f1),xb rfl rfl (exI rfl ?_)⟩);rw[lm];refine zn (λy=>⟨sz1,I ⋯ _ U⟩) (λy=>?_);obtain⟨kg,kl⟩:=k ⋯ ⋯;exists (exI rfl (exI rfl ⟨p,_,c,c.toNat,rfl,rfl,f1,ix_of ⋯ (by rw[lm];lia),?_⟩));rw[qyp];have s2:Same H (upd (upd H p (.lst (hs.map V.int))) p (.lst ((hs.set c.toNat h).map V.int))):=by rw[yn];exact Same.upd np
 have S:upd (upd H p (.lst (hs.map V.int))) p (.lst ((hs.set c.toNat h).map V.int)) p=some (.lst ((hs.set c.toNat h).map V.int)):=qb;generalize upd (upd H p (.lst (hs.map V.int))) p (.lst ((hs.set c.toNat h).map V.int))=H2 at s2 S;exists ⟨x,dx,exI rfl ⟨s2 _ _ hx,xt,λc1 L=>(exI rfl (exI rfl (λr d0 nr ad an=>qxw (H:=upd H2 c1 (.dK [])) (hs:=hs.set c.toNat h) (by rw[wg (wq S L)];exact S) nr ad (λab H3 G R3=>?_) λz H3 G=>kl z H3 (s2.trans (λb o e=>G _ _ (by rw[wg (wq e L)];exact e))))))⟩⟩;refine⟨G _ _ qb,[(.inr n,.ref r)],rfl,(show 1<=15 by decide),?_⟩;exact qxz (E:=E) (O.same s2) L G R3 ab rf lR lW lD λH' tp q1 q2 b1 b2 b3 b4 b5 b6 b7 b8 b9 I=>kg ab H' (RDeed.pre ⟨r,tp,q1,q2,b1,b2,b3,b4,b5,b6,b7,b8,b9,I⟩ s2)
def qw6 (C CR CN CL:Aj):Sp:=λvs H Q E=>∃(x dr dw dd:Aj) (R W:List (Key×V)) (D:List V) (n:Str) (h:Int),vs=[.ref x,.str n,.int h]/\Hse C H x dr dw dd R W D/\Z4 D/\R.length<=1000/\W.length<=1000/\D.length<=1000000/\(wp R (.inr n)=none->E (.ref CN) none H) /\
 (∀v,wp R (.inr n)=some v->∃r hs,v=.ref r/\RoadAt CR H r hs/\xm hs/\(xm (hs++[h])->∀H',RDeed C CR H H' x dr dw dd R W D n (hs++[h])->Q .non H')/\(¬ xm (hs++[h])->∀H',Same H H'->E (.ref CL) none H'))
include T in
theorem xx5 (F:Fun K "widen" "House.widen" zb7 f fd)(zag:↑MCal qq "road_called" 1 (v6 qq q8 true))(zaz:↑MCal qg "corners" 1 (u6 qg))(zay:↑CCal "Road" qg 2 (Yj K qh qg))(zab:↑MCal qq "do" 2 (Jy qq)) :
  ↑FK 4 f fd ["self","name","height"] (qw6 qq qg q8 qh):=by
 have sc:=qzy;refine F.okX sc ⋯ λ_ _ _ _ H vs Q E L h=>?_;obtain⟨x,dr,dw,dd,R,W,D,n,h,rfl,U,rf,lR,lW,lD,kx,k⟩:=h;obtain⟨dx,hx⟩:=U.ob;have a0:(1000000:Nat)<sizeLine:=by decide
 refine⟨_,(qy (xx (i:=3) (jz (xg (pv 0) T.clH zag (L.mono ⋯) qf (q9 (pv 1) qk)) T.cl zaz (L.mono ⋯) qf))
   (qt (zx (xg (pv 0) T.clH zab (L.mono ⋯) qf (x8 (Qc (ud (pv 1) (Q4 zay (L.mono ⋯) rfl qf (vg (xz wzb (pv 3) (yj (q9 (pv 2) qk))) qk)) Qu) rfl rfl (λz=>nomatch z) ⋯) (x8 km qk)))))),?_⟩
 refine⟨_,rfl,x,dx,_,rfl,hx,xt,_,rfl,x,dr,dw,dd,R,W,D,n,rfl,U,λv e=>?_,kx⟩;obtain⟨r0,hs,rfl,hR,ah,kg,kl⟩:=k v e;obtain⟨dy,l,h1,h2⟩:=id hR;have ol:=ah.2.1;refine⟨r0,dy,exI rfl ⟨h1,vw (by decide +kernel),r0,hs,rfl,hR,λp np=>?_⟩⟩;have G:Same H (upd H p (.lst (hs.map V.int))):=Same.upd np;have Z:upd H p (.lst (hs.map V.int)) p=some (.lst (hs.map V.int)):=qb;generalize upd H p (.lst (hs.map V.int))=H1 at G Z;exists ⟨x,dx,exI rfl ⟨G _ _ hx,xt,λc1 S=>(exI rfl (exI rfl (exI rfl ⟨sz1,λp2 n2=>?_⟩)))⟩⟩;have sa:Same (upd H1 c1 (.dK [])) (upd (upd H1 c1 (.dK [])) p2 (.lst [.int h])):=Same.upd n2;have fa:=sa _ _ (show upd H1 c1 (.dK []) p=some (.lst (hs.map V.int)) by rw[wg (wq Z S)];exact Z);refine⟨p,p2,_,_,rfl,rfl,fa,qb,by rw[aa];show hs.length+1<=_;lia,λO n3=>?_⟩;have I:=sa.trans (Same.upd (o:=.lst (hs.map V.int++[.int h])) n3);have fb:upd (upd (upd H1 c1 (.dK [])) p2 (.lst [.int h])) O (.lst (hs.map V.int++[.int h])) O=some (.lst ((hs++[h]).map V.int)):=by rw[qb,aV];rfl
 generalize upd (upd (upd H1 c1 (.dK [])) p2 (.lst [.int h])) O (.lst (hs.map V.int++[.int h]))=H2 at I fb;have ad:Same H1 H2:=λb o e=>I _ _ (by rw[wg (wq e S)];exact e);refineλr d0 nr an ap=>qxw (H:=H2) (hs:=hs++[h]) fb nr an (λab H3 J R3=>?_) λz H3 J=>kl z H3 ((G.trans ad).trans J);refine⟨J _ _ (I _ _ qb),[(.inr n,.ref r)],rfl,(show 1<=15 by decide),?_⟩;exact qxz (E:=E) (U.same G) S (I.trans J) R3 ab rf lR lW lD λH' tp q1 q2 b1 b2 b3 b4 b5 b6 b7 b8 b9 kb=>kg ab H' (RDeed.pre ⟨r,tp,q1,q2,b1,b2,b3,b4,b5,b6,b7,b8,b9,kb⟩ G)
def wF (n:Str)(p t:Aj):List (Str×V):=[("whose",.str n),("point",.ref p),("times",.ref t)]
theorem yy {t:Aj}:(wF n p t).lookup ("whose" : Str)=some (.str n):=by unfold wF;rw[aO];simp
theorem yx {t:Aj}:(wF n p t).lookup ("point" : Str)=some (.ref p):=by unfold wF;rw[aO,show(("point" : Str)==("whose" : Str))=false by decide +kernel];dsimp only;rw[aO];simp
theorem wzt {t:Aj}:(wF n p t).lookup ("times" : Str)=some (.ref t):=by unfold wF;rw[aO,show(("times" : Str)==("whose" : Str))=false by decide +kernel];dsimp only;rw[aO,show(("times" : Str)==("point" : Str))=false by decide +kernel];dsimp only;rw[aO];simp
theorem wwx {t:Aj}{m:Str}(h1:¬ m = "whose")(h2:¬ m = "point")(h3:¬ m = "times"):(wF n p t).lookup m=none:=by unfold wF;rw[aO,aY.mpr h1];dsimp only;rw[aO,aY.mpr h2];dsimp only;rw[aO,aY.mpr h3];rfl
structure WkAt (C:Aj)(H:Hp)(y:Aj)(n:Str)(p:Aj)(pt:Int×Int)(t:Aj)(tv:List (List Key×V)):Prop where
 ob:∃dx,H y=some (.ins C dx (wF n p t))
 pt:H p=some (.tup [.int pt.1,.int pt.2])
 tm:H t=some (.dT tv)
variable {y:Aj}{tv:List (List Key×V)}
theorem WkAt.kb {pt:Int×Int}{t:Aj}(h:WkAt C H y n p pt t tv){ch:List Aj}(k:Kb ch H H')(hc:∀b∈ch,(∃kv,Rd H b (.dK kv))\/∃D,H b=some (.lst D)):WkAt C H' y n p pt t tv:=by
 have F:∀b o,(∀kv,o≠HO.dK kv)->(∀u kv,o≠HO.frz u (.dK kv))->(∀D,o≠HO.lst D)->H b=some o->H' b=some o:=λb o J I G e=>k _ _ (λz=>by
  rcases hc b z with⟨kv,q|⟨u,q⟩⟩|⟨D,q⟩
  .rw[e]at q;cases q;exact J _ rfl
  .rw[e]at q;cases q;exact I _ _ rfl
  .rw[e]at q;cases q;exact G _ rfl) e
 obtain⟨dx,e⟩:=h.ob;exact⟨⟨dx,F _ _ (λ_ z=>by cases z) (λ_ _ z=>by cases z) (λ_ z=>by cases z) e⟩,F _ _ (λ_ z=>by cases z) (λ_ _ z=>by cases z) (λ_ z=>by cases z) h.pt,F _ _ (λ_ z=>by cases z) (λ_ _ z=>by cases z) (λ_ z=>by cases z) h.tm⟩
theorem WkAt.same {pt:Int×Int}{t:Aj}(h:WkAt C H y n p pt t tv)(s:Same H H'):WkAt C H' y n p pt t tv:=h.kb (ch:=[]) (Kb.of s) λb z=>nomatch z
def TmOk (tv:List (List Key×V)):Prop:=tv≠[]/\(tv.map (·.1)).Nodup/\∀q∈tv,∃a b c:Int,q=([.inl a,.inl b],.int c)/\0<=a/\a<=960/\1<=b/\b<=40
theorem TmOk.hash (h:TmOk tv):(tv.map λp=>Zs P w p.1).Nodup:=by
 obtain⟨_,G,F⟩:=h;have e:(tv.map λp=>Zs P w p.1)=(tv.map (·.1)).map (Zs P w):=by rw[bq];rfl
 rw[e];refine bL.mpr (cm (λ{x y} hx hy hne z=>hne ?_) G);obtain⟨p,J,rfl⟩:=ar.mp hx;obtain⟨q,I,rfl⟩:=ar.mp hy;obtain⟨a,b,c,rfl,a0,a1,b0,U⟩:=F p J;obtain⟨a',b',c',rfl,ad,ab,Z,S⟩:=F q I;obtain⟨O,L⟩:=xws a0 a1 b0 U ad ab Z S z;show([.inl a,.inl b]:List Key)=[.inl a',.inl b'];rw[O,L]
theorem TmOk.len (h:TmOk tv):tv.length<=40000:=by
 obtain⟨_,J,ab⟩:=h;let g:List Key->Nat:=λk=>match k with|[.inl a,.inl b]=>a.toNat*41+b.toNat|_=>0
 have m:∀x∈tv.map (·.1),∃a b:Int,x=[.inl a,.inl b]/\0<=a/\a<=960/\1<=b/\b<=40:=λx F=>by obtain⟨p,O,rfl⟩:=ar.mp F;obtain⟨a,b,c,rfl,r⟩:=ab p O;exact⟨a,b,rfl,r⟩
 have I:((tv.map (·.1)).map g).Nodup:=by
  refine bL.mpr (cm (λ{x y} F hy hne z=>hne ?_) J);obtain⟨a,b,rfl,a0,a1,b0,Z⟩:=m x F;obtain⟨G,b',rfl,ap,an,ah,ad⟩:=m y hy;have z:a.toNat*41+b.toNat=G.toNat*41+b'.toNat:=z;have U:a=G:=by lia
  have S:b=b':=by lia
  rw[U,S]
 have:=L2.quz ((tv.map (·.1)).map g) (List.range 39401) I λv L=>?_
 .rw[aa,aa,aR]at this;lia
 .obtain⟨x,F,rfl⟩:=ar.mp L;obtain⟨a,b,rfl,a0,a1,b0,Z⟩:=m x F;refine aW.mpr ?_;show a.toNat*41+b.toNat<39401;lia
theorem TmOk.one {a b:Int}(a0:0<=a)(a1:a<=960)(b0:1<=b)(b1:b<=40):TmOk [([.inl a,.inl b],.int 1)]:=⟨λz=>(nomatch z),bc.mpr ⟨af,aX⟩,λq hq=>⟨a,b,1,am.mp hq,a0,a1,b0,b1⟩⟩
set_option tactic.hygienic true in
theorem TmOk.put (h:TmOk tv){a b c:Int}(a0:0<=a)(a1:a<=960)(b0:1<=b)(b1:b<=40):TmOk (v8 tv [.inl a,.inl b] (.int c)):=by
 obtain⟨ne,nd,all⟩:=h;unfold v8;split
 .refine⟨λz=>ne (List.map_eq_nil_iff.mp z),?_,λq hq=>?_⟩
  .have:(tv.map λkv=>if kv.1=[Sum.inl a,Sum.inl b] then(kv.1,V.int c) else kv).map (·.1)=tv.map (·.1):=by rw[bq];refine bX λx _=>?_;show(if x.1=[Sum.inl a,Sum.inl b] then(x.1,V.int c) else x).1=x.1;split <;> rfl
   rw[this];exact nd
  .obtain⟨x,hx,rfl⟩:=ar.mp hq;obtain⟨a',b',c',rfl,r⟩:=all x hx;show ∃a_1 b_1 c_1:Int,(if([Sum.inl a',Sum.inl b']:List Key)=[Sum.inl a,Sum.inl b] then(([Sum.inl a',Sum.inl b']:List Key),V.int c) else([Sum.inl a',Sum.inl b'],V.int c'))=([.inl a_1,.inl b_1],.int c_1)/\_;split
   .exact⟨a',b',c,rfl,r⟩
   .exact⟨a',b',c',rfl,r⟩
 .rename_i hn;refine⟨cK _ (cD _ _),?_,λq hq=>?_⟩
  .rw[aV,d8];refine⟨nd,bc.mpr ⟨af,aX⟩,λx hx y hy z=>hn ?_⟩;obtain⟨p,hp,rfl⟩:=ar.mp hx;have hy:y=[Sum.inl a,Sum.inl b]:=am.mp hy;exact dE.mpr ⟨p,hp,aT (z.trans hy)⟩
  .rcases ba.mp hq with hq|hq
   .exact all q hq
   .exact⟨a,b,c,am.mp hq,a0,a1,b0,b1⟩
def stN (n u m f:Nat):Nat:=if m<f then 0 else(if f<u then 1 else(m-f)/(n-u)+1)-(if f=0 then 1 else 0)
theorem xw6 {m:Int}{t L:Nat}(h:(t:Int)<=m):(m-t)/(L:Int)=(((m.toNat-t)/L:Nat):Int):=by rw[show m-(t:Int)=((m.toNat-t:Nat):Int) by lia];push_cast;rfl
def xxm:Sp:=λvs H Q _=>∃(f u n:Nat) (m:Int),vs=[.int f,.int u,.int n,.int m]/\f<n/\u<n/\n<=1000/\0<=m/\Q (.int (stN n u m.toNat f)) H
include T in
theorem ziw (F:Fun K "led_to" "led_to" zbl f fd):↑FK 1 f fd ["place","turn","size","many"] xxm:=by
 have L:=wuw;refine F.okX L (λJ H Q E h=>by obtain⟨_,_,_,_,rfl,_⟩:=h;rfl) λ_ _ _ _ H J Q E hr h=>?_;obtain⟨f,u,n,m,rfl,hf,Z,n1,m0,k⟩:=h;refine⟨_,(qy (x4 (wn y4 (pv 0) (pv 3) (wt _)) (qt (w6 qc)) w9)
   (qy (xx (i:=4) (qz8 (wn j8 (pv 0) (pv 1) (wt _)) qc (xz zf (xz uy (xz kh (pv 3) (pv 0)) (xz kh (pv 2) (pv 1))) qc)))
   (qt (w6 (qz8 (wn zd (pv 0) qc (wt _)) (xz kh (pv 4) qc) (pv 4)))))),?_⟩
 exists (exI rfl (xb rfl rfl (exI rfl (zn (λz=>?_) (λz=>?_)))))
 .unfold stN at k;rw[ak ⋯]at k;exact k
 .have S:(f:Int)<=m:=by lia
  have I:∀x:Int,x=(if f<u then 1 else(((m.toNat-f)/(n-u):Nat):Int)+1)-(if f=0 then 1 else 0)->Q (.int x) H:=λx O=>by
   have e:x=(stN n u m.toNat f:Nat):=by
    unfold stN;rw[ag ⋯,O];generalize (m.toNat-f)/(n-u)=D;by_cases G:f<u <;> by_cases y2:f=0
    .simp only[ak G,ak y2];lia
    .simp only[ak G,ag y2];lia
    .simp only[ag G,ak y2];lia
    .simp only[ag G,ag y2];lia
   rw[e];exact k
  exists (exI rfl (xb rfl rfl (exI rfl (zn (λG=>?_) (λG=>?_)))))
  .exists ⟨rfl,_,rfl,v9 (λy2=>?_) (λy2=>?_)⟩
   .exists (xb rfl rfl (I _ ?_));rw[ak ⋯,ak ⋯]
   .exists (I _ ?_);rw[ak ⋯,ag ⋯];rfl
  .exists (exI rfl (xb rfl rfl (exI rfl (exI rfl (xb rfl rfl ?_)))));refine xb rfl rfl ⟨⟨⋯,(Sm.small (n:=65) ⋯ ⋯ ⋯).mono ⋯⟩,xb rfl rfl ?_⟩;have U:(m-(f:Int))/((n:Int)-u)=(((m.toNat-f)/(n-u):Nat):Int):=by rw[<-xw6 S,show((n-u:Nat):Int)=(n:Int)-u by lia]
   rw[U];exists ⟨rfl,_,rfl,v9 (λy2=>?_) (λy2=>?_)⟩
   .exists (xb rfl rfl (I _ ?_));rw[ag ⋯,ak ⋯]
   .exists (I _ ?_);rw[ag ⋯,ag ⋯];lia
def Ju (C:Aj):Sp:=λvs H Q _=>∃(y dx p t:Aj) (n:Str),vs=[.ref y,.str n,.ref p,.ref t]/\H y=some (.ins C dx [])/\∀H',H' y=some (.ins C dx (wF n p t))->Kb [y] H H'->Q .non H'
include T in
theorem xq7 (F:Fun K "__init__" "Walker.__init__" zbu f fd):↑FK 1 f fd ["self","whose","point","times"] (Ju qz):=by
 have J:=Yv;refine F.okX J (λI H Q E h=>by obtain⟨_,_,_,_,_,rfl,_⟩:=h;rfl) λ_ _ _ _ H I Q E O h=>?_;obtain⟨y,dx,p,t,n,rfl,L,k⟩:=h;refine⟨_,(qy (Zz (pv 0) (pv 1) rfl)
   (qy (Zz (pv 0) (pv 2) rfl)
   (qt (Zz (pv 0) (pv 3) rfl)))),?_⟩
 exists (exI rfl ⟨y,qz,dx,[],rfl,L,T.clW,T.naWw,(by show 0<1000;decide),?_⟩);exists (exI rfl ⟨y,qz,dx,exI rfl ⟨qb,T.clW,T.naWp,(by show 1<1000;decide),?_⟩⟩);exists (exI rfl ⟨y,qz,dx,exI rfl ⟨qb,T.clW,T.naWt,(by show 2<1000;decide),?_⟩⟩);refine k _ qb λb o G e=>?_;have G:b≠y:=λz=>G (by simp[z]);rw[wg G,wg G,wg G];exact e
theorem qjn {t:Aj}{Pp:Hp->Prop}(ny:H y=none)(nd:H dx=none)(k:∀H',Same H H'->(∃dx,H' y=some (.ins C dx (wF n p t)))->Pp H') :
  Ju C [.ref y,.str n,.ref p,.ref t] (upd (upd H dx (.own y)) y (.ins C dx [])) (λr H2=>r=.non/\Pp H2) E:=by
 refine⟨y,dx,p,t,n,rfl,qb,λH' e G=>⟨rfl,k H' (λb o F=>G b o (λz=>?_) ?_) ⟨dx,e⟩⟩⟩
 .rw[am.mp z,ny]at F;cases F
 .rw[wg (wq F ny),wg (wq F nd)];exact F
def qqm (C:Aj):Sp:=λvs H Q _=>∃(n:Str) (p:Aj) (pt:Int×Int),vs=[.str n,.ref p]/\H p=some (.tup [.int pt.1,.int pt.2])/\∀H' y t,H y=none->Same H H'->WkAt C H' y n p pt t [([.inl pt.1,.inl pt.2],.int 1)]->Q (.ref y) H'
include T in
theorem ww5 (F:Fun K "set_down" "set_down" zbw f fd)(zds:↑CCal "Walker" qz 1 (Ju qz)):↑FK 3 f fd ["whose","point"] (qqm qz):=by
 have sc:=wxz;refine F.okX sc (λZ H Q E h=>by obtain⟨_,_,_,rfl,_⟩:=h;rfl) λ_ _ _ _ H Z Q E S h=>?_;obtain⟨n,p,G,rfl,J,k⟩:=h;refine⟨_,(qt (w6 (Q4 zds (S.mono ⋯) rfl qf (q9 (pv 0) (q9 (pv 1) (x8 (xww S.units0 (pv 1) qc) qk)))))),?_⟩;exists (exI rfl (λt O=>(exI rfl ⟨p,[.inl G.1,.inl G.2],rfl,(by rw[wg (wq J O)];exact J),qb,?_⟩)));have I:Same H (upd (upd H t (.dT [])) t (.dT [([.inl G.1,.inl G.2],.int 1)])):=by rw[yn];exact Same.upd O
 have U:upd (upd H t (.dT [])) t (.dT [([.inl G.1,.inl G.2],.int 1)]) t=some (.dT [([.inl G.1,.inl G.2],.int 1)]):=qb;generalize upd (upd H t (.dT [])) t (.dT [([.inl G.1,.inl G.2],.int 1)])=H1 at I U;exactλy dx L nd ne=>qjn L nd λH' s2 e=>k H' y t (x6 I L) (I.trans s2) ⟨e,s2 _ _ (I _ _ J),s2 _ _ U⟩
def HPt (hs:List Int)(pt:Int×Int):Prop:=xm hs/\Pt hs pt.2 pt/\pt.2<=40
theorem HPt.rng {pt:Int×Int}(h:HPt hs pt):0<=pt.1/\pt.1<=960/\1<=pt.2/\pt.2<=40:=by obtain⟨ok,⟨h1,_,_,h0,h2⟩,h3⟩:=h;have ol:=ok.2.1;have o1:=ok.1;have:((hs.length:Int)-1)*pt.2<=24*pt.2:=aN ⋯ ⋯;lia
theorem HPt.it {pt:Int×Int}(h:HPt hs pt)(n:Nat):HPt hs (itP hs pt n):=by have a:=wuf h.1 h.2.1 n;have:=h.2.2;have:=a.2.1;exact⟨h.1,⟨a.1,gw _,a.2.2.1,a.2.2.2⟩,⋯⟩
theorem HPt.short {pt:Int×Int}(h:HPt hs pt):¬ Dist (itP hs pt) 1001:=λd=>by
 have r:=h.rng;obtain⟨ok,hp,h3⟩:=h;have ol:=ok.2.1;have o1:=ok.1;have inj:∀i j,trT hs pt.1 pt.2 i=trT hs pt.1 pt.2 j->itP hs pt i=itP hs pt j:=λi j e=>(it_eq hp i j).mpr e;have nd:((List.range 1001).map λi=>(trT hs pt.1 pt.2 i).toNat).Nodup:=by refine bL.mpr (cm (λ{i j} hi hj hij z=>?_) (d3 (n:=1001)));have a:=J0 ok hp.1 hp.2.2.2 i;have b:=J0 ok hp.1 hp.2.2.2 j;have G:=a.1;have I:=b.1;exact d i j hij (aW.mp hj) (inj i j ⋯)
 have:=L2.quz _ (List.range 961) nd λv F=>by obtain⟨i,_,rfl⟩:=ar.mp F;have a:=J0 ok hp.1 hp.2.2.2 i;have G:=a.1;have J:=a.2;have:((hs.length:Int)-1)*pt.2<=24*pt.2:=aN ⋯ ⋯;exact aW.mpr ⋯
 rw[aa,aR,aR]at this;lia
def qyt (tv:List (List Key×V))(q:Int×Int):Int:=match (wp tv [.inl q.1,.inl q.2]).getD (.int 0) with|.int c=>c|_=>0
def HitI (hs:List Int)(pt:Int×Int)(n u m i:Nat)(tv tv':List (List Key×V)):Prop:=(∀f,f<i->qyt tv' (itP hs pt f)=qyt tv (itP hs pt f)+stN n u m f)/\∀q,(∀f,f<i->itP hs pt f≠q)->qyt tv' q=qyt tv q
def ww2 (hs:List Int)(pt:Int×Int)(m:Nat)(tv tv':List (List Key×V)):Prop:=∃n u,n<=1000/\Dist (itP hs pt) n/\u<n/\itP hs pt n=itP hs pt u/\HitI hs pt n u m n tv tv'
theorem wkg {q q':Int×Int}:qyt (v8 tv [.inl q.1,.inl q.2] (.int c)) q'=if q=q' then c else qyt tv q':=by
 unfold qyt;by_cases h:q=q'
 .subst h;rw[ak rfl,Q3,ak rfl];rfl
 .rw[ag h,Q3,ag];intro z;apply h;injection z with z1 z2
  injection z2 with z2 _
  injection z1 with z1
  injection z2 with z2
  exact Prod.ext z1.symm z2.symm
theorem HitI.next {pt:Int×Int}{n:Nat}{tv':List (List Key×V)}(h:HitI hs pt n u m i tv tv')(d:Dist (itP hs pt) n)(hi:i<n)(e:stN n u m i=0):HitI hs pt n u m (i+1) tv tv':=by
 have G:∀f,f<i->itP hs pt f≠itP hs pt i:=λf F=>d f i F hi;refine⟨λf F=>?_,λq I=>h.2 q λf F=>I f ⋯⟩;by_cases z:f=i
 .subst z;rw[h.2 _ G,e];lia
 .exact h.1 f ⋯
theorem HitI.put {pt:Int×Int}{n:Nat}{tv':List (List Key×V)}(h:HitI hs pt n u m i tv tv')(d:Dist (itP hs pt) n)(hi:i<n)(ec:(wp tv' [.inl (itP hs pt i).1,.inl (itP hs pt i).2]).getD (.int 0)=.int c):HitI hs pt n u m (i+1) tv (v8 tv' [.inl (itP hs pt i).1,.inl (itP hs pt i).2] (.int (c+stN n u m i))):=by
 have G:∀f,f<i->itP hs pt f≠itP hs pt i:=λf F=>d f i F hi;have L:qyt tv' (itP hs pt i)=c:=by unfold qyt;rw[ec]
 have J:=h.2 _ G;refine⟨λf F=>?_,λq I=>?_⟩
 .rw[wkg];by_cases z:f=i
  .subst z;rw[ak rfl,<-J,L]
  .rw[ag (λy=>G f ⋯ y.symm)];exact h.1 f ⋯
 .rw[wkg,ag (I i ⋯)];exact h.2 q λf F=>I f ⋯
def qyu (C CR:Aj):Sp:=λvs H Q _=>∃(y r p t:Aj) (n:Str) (hs:List Int) (pt:Int×Int) (tv:List (List Key×V)) (m:Int),vs=[.ref y,.ref r,.int m]/\WkAt C H y n p pt t tv/\TmOk tv/\RoadAt CR H r hs/\HPt hs pt/\0<=m /\
 ∀H' y' p' t' tv',H y'=none->Same H H'->WkAt C H' y' n p' (itP hs pt m.toNat) t' tv'->TmOk tv'->ww2 hs pt m.toNat tv tv'->Q (.ref y') H'
include T in
theorem xv4 (F:Fun K "gone" "Walker.gone" zbv f fd)(zdh:↑Cal "trace" 5 (qxq qg wz))(zix:↑Cal "led_to" 1 xxm)(zdi:↑Cal "spot" 1 qy8)(zds:↑CCal "Walker" qz 1 (Ju qz)) :
  ↑FK 6 f fd ["self","road","many"] (qyu qz qg):=by
 have sc:=qzq;refine F.okX sc ⋯ λ_ _ _ _ H vs Q E hr h=>?_;obtain⟨y,r,p,t,n,hs,I,tv,m,rfl,hW,hT,hR,S,m0,k⟩:=h;obtain⟨dy,hy⟩:=hW.ob;have rg:=S.rng;have bf:(1000000:Nat)<sizeLine:=by decide
 refine⟨_,(qy (k8 (wCA zdh (q9 (pv 1) (x8 (zh (pv 0) rfl) qk))) (vt rfl (xf (xy (i:=3)) (xf (xy (i:=4)) vq))))
   (qy (xx (i:=5) (vb wzv rfl T.dict_ ee (x8 (zh (pv 0) rfl) qk)))
   (qy (yq aS rfl (xkz rfl T.enumerate_ (q9 (pv 3) qk)) (vt rfl (xf (xy (i:=6)) (xf (xy (i:=7)) vq))) (qy (xx (i:=8) (wCA zix (q9 (pv 6) (q9 (pv 4) (k6 (xh x9 rfl T.len_ aF (q9 (pv 3) qk)) (q9 (pv 2) qk))))))
   (qt (x4 (wn y4 (pv 8) qc (wt _)) (qt (Qb (vc hr) (pv 5) (pv 7) (xz zf (xxp (vc hr) (pv 5) (pv 7) qc ⟨rfl,rfl,rfl,rfl⟩) (pv 8)) rfl)) w9))))
   (qt (w6 (Q4 zds (hr.mono ⋯) rfl qf (x8 (zh (pv 0) rfl) (k6 (wCA zdi (q9 (pv 3) (q9 (pv 4) (q9 (pv 2) qk)))) (q9 (pv 5) qk))))))))),?_⟩
 dsimp only [yf];refine c4 λ_ _ _ _ a6 a4 a3 a2=>?_;subst a6;refine⟨_,rfl,_,rfl,y,qz,dy,_,_,rfl,hy,T.clW,T.naWp,yx,r,p,hs,I,I.2,rfl,hR,S.1,hW.pt,S.2.1,(Sm.small (n:=65) ⋯ ⋯ ⋯).mono ⋯,λL u q l H1 n1 d1 u1 e1 Z nl fq pa=>?_,λd=>absurd d S.short⟩;refine⟨q,exI rfl ⟨SqT.of fq,rfl,_,_,rfl,_,_,rfl,rfl,?_⟩⟩;obtain⟨ys,fl,pr⟩:=id pa;have hl:ys.length=L:=by rw[pr.length,wq1]
 have y1:=Z _ _ hy;subst a4;exists ⟨y,qz,dy,_,_,rfl,y1,T.clW,T.naWt,wzt,t,tv,rfl,Z _ _ hW.tm,hT.1,hT.hash,λG O=>?_⟩;have s2:Same H1 (upd H1 G (.dT tv)):=Same.upd O;have f2:upd H1 G (.dT tv) G=some (.dT tv):=qb;have a8:H G=none:=x6 Z O;have tl:G≠l:=(wq fl O).symm;generalize hH2:upd H1 G (.dT tv)=H2 at s2 f2;subst a3;exists ⟨l,ys,rfl,SqL.of (s2 _ _ fl),?_⟩;refine for_en (λi σ H'=>(∃z6 z7 z8,σ=[some (.ref y),some (.ref r),some (.int m),some (.ref l),some (.int ((u:Nat):Int)),some (.ref G),z6,z7,z8])/\(∃tv',H' G=some (.dT tv')/\TmOk tv'/\HitI hs I L u m.toNat i tv tv')/\Kb [G] H1 H') ⟨⟨_,_,_,rfl⟩,⟨tv,f2,hT,(λf z=>absurd z (eV _)),λ_ _=>rfl⟩,Kb.of s2⟩ (λi σ H' hi h=>SqL.of (h.2.2 _ _ (by simpa using tl.symm) fl)) ?_ ?_
 .rintro i v z σ H' ev nz ⟨⟨z6,z7,z8,rfl⟩,⟨tv',ft,hT',hit⟩,kb⟩;have hi:i<L:=by rw[<-hl];exact(aI.mp ev).1
  obtain⟨a,ea,fa⟩:=wvv (i:=i) pr hi;rw[ev]at ea;cases ea;have sz:Same H' (upd H' z (.tup [.int ((i:Nat):Int),.ref a])):=Same.upd nz;refine⟨z,exI rfl ⟨SqT.new,rfl,_,_,rfl,_,_,rfl,rfl,?_⟩⟩;have U:=sz _ _ ft;have kb3:Kb [G] H1 (upd H' z (.tup [.int ((i:Nat):Int),.ref a])):=kb.trans (Kb.of sz);generalize upd H' z (.tup [.int ((i:Nat):Int),.ref a])=H3 at U kb3;have a7:a≠G:=wq fa O;have a1:=kb3 _ _ (by simpa using tl.symm) fl;have an:H3 a=some (.tup (([.inl (itP hs I i).1,.inl (itP hs I i).2]:List Key).map kV)):=kb3 _ _ (by simpa using a7) fa;have ab:=(S.it i).rng;exists (exI rfl (exI rfl ⟨_,_,rfl,.inl (SqL.of a1),exI rfl ⟨i,u,L,m,?_,hi,u1,n1,m0,exI rfl (xb rfl rfl (exI rfl (zn (λg=>?_) (λg=>?_))))⟩⟩))
  .rw[hl]
  .have dg:=DGet.t U an;have a0:∃c:Int,(wp tv' [.inl (itP hs I i).1,.inl (itP hs I i).2]).getD (.int 0)=.int c:=by
    cases e:wp tv' [.inl (itP hs I i).1,.inl (itP hs I i).2] with
    |none=>exact⟨0,rfl⟩
    |some v =>
     have hm:∃J∈tv',J.2=v:=by
      unfold wp at e;cases hf:tv'.find? λJ=>decide (J.1=[Sum.inl (itP hs I i).1,Sum.inl (itP hs I i).2]) with
      |none=>rw[hf]at e;cases e
      |some J =>
       rw[hf]at e;exact⟨J,fE hf,au e⟩
     obtain⟨J,hk,rfl⟩:=hm;obtain⟨a',b',c',rfl,_⟩:=hT'.2.2 J hk;exact⟨c',rfl⟩
   obtain⟨c,ec⟩:=a0;exists ⟨G,rfl,.inr ⟨_,.inl U⟩,exI rfl ⟨_,dg,_,rfl,?_⟩⟩;rw[ec];refine xb rfl rfl (exI rfl (exI rfl ⟨G,exI rfl ⟨DPut.t U an (by have:=hT'.len;lia),⟨_,_,_,rfl⟩,⟨_,qb,hT'.put ab.1 ab.2.1 ab.2.2.1 ab.2.2.2,hit.put d1 hi ec⟩,λb o nb e=>?_⟩⟩));rw[wg (by simpa using nb)];exact kb3 b o nb e
  .exact⟨⟨_,_,_,rfl⟩,⟨tv',U,hT',hit.next d1 hi ⋯⟩,kb3⟩
 .rintro σ H' ⟨⟨z6,z7,z8,rfl⟩,⟨tv',ft,hT',hit⟩,kb⟩;rw[hl]at hit;have ad:∀b o,H1 b=some o->H' b=some o:=λb o e=>kb b o (by simpa using wq e O) e;subst a2;exists ⟨y,qz,dy,_,_,rfl,ad _ _ y1,T.clW,T.naWw,yy,exI rfl (exI rfl (exI rfl ⟨l,hs,I,L,u,m,rfl,⟨n1,d1,u1,e1,pa.same ad⟩,m0,λa fa=>(exI rfl (λy' bb ah ap a9=>qjn ah ap λH4 s4 e4=>?_))⟩))⟩;have sk:Same H H':=Z.trans ad;exact k H4 y' a G tv' (x6 sk ah) (sk.trans s4) ⟨e4,s4 _ _ fa,s4 _ _ ft⟩ hT' ⟨L,u,n1,d1,u1,e1,hit⟩
def wzg (K:Aa)(C:Aj):Sp:=λvs H Q E=>∃p q t b t' b',vs=[.ref p,.ref q]/\SqT K H p [.int t,.int b]/\SqT K H q [.int t',.int b']/\IntMulOk t b'/\IntMulOk t' b /\
 (1<=b->1<=b'->Q (.bl (decide (t*b'<t'*b))) H)/\(b<1\/b'<1->E (.ref C) none H)
include T in
theorem xz0 (F:Fun K "less" "less" zbi f fd)(zdg:↑Cal "check_bottom" 1 (qw1 qx)):↑FK 2 f fd ["one","other"] (wzg K qx):=by
 have S:=xvc;refine F.okX S (λO H Q E h=>by obtain⟨_,_,_,_,_,_,rfl,_⟩:=h;rfl) λ_ _ _ _ H O Q E hr h=>?_;obtain⟨p,q,t,b,t',b',rfl,I,G,Z,U,k,x⟩:=h;refine⟨_,(qy (zx (wCA zdg (zu (xj xk (pv 0) qc (λ_ _=>rfl)) qk)))
   (qy (zx (wCA zdg (zu (xj xk (pv 1) qc (λ_ _=>rfl)) qk)))
   (qt (w6 (yw j8 (xz zp (xj xk (pv 0) qc (λ_ _=>rfl)) (xj xk (pv 1) qc (λ_ _=>rfl))) (xz zp (xj xk (pv 1) qc (λ_ _=>rfl)) (xj xk (pv 0) qc (λ_ _=>rfl))) (wt _)))))),?_⟩
 refine⟨_,rfl,_,_,_,_,rfl,rfl,I,rfl,b,rfl,λL=>?_,λL=>x (.inl L)⟩;refine⟨_,rfl,_,_,_,_,rfl,rfl,G,rfl,b',rfl,λJ=>?_,λJ=>x (.inr J)⟩;exists (exX rfl rfl I rfl (exI rfl (exX rfl rfl G rfl (xb rfl rfl ⟨Z,exI rfl (exX rfl rfl G rfl (exI rfl (exX rfl rfl I rfl (xb rfl rfl ⟨U,xb rfl rfl ?_⟩))))⟩))));exact k L J
variable {CW:Aj}{whose:Str}
theorem qjt {x:Aj}{t:Aj}{pt:Int×Int}(hh:Hse C H x dr dw dd R W D)(n1:H c1=none)(n2:upd H c1 (.dK []) c2=none)(s3:Same (upd (upd H c1 (.dK [])) c2 (.dK [])) H3)(W3:WkAt CW H3 y whose p pt t tv)(lR:R.length<=1000)(lW:W.length<=1000)(lD:D.length<=1000000)(k:∀H' tp q1 q2,H tp=none->H q1=none->H q2=none->Hse C H' x dr dw dd R (v8 W (.inr n) (.ref y)) (D++[.ref tp])->H' tp=some (.tup [.ref q1,.ref q2])->H' q1=some (.dK [])->H' q2=some (.dK [(.inr n,(wp W (.inr n)).getD .non)])->q1≠q2->WkAt CW H' y whose p pt t tv->Kb [dr,dw,dd] H H'->Q .non H') :
  Jy C [.ref x,.ref c1,.ref c2] (upd H3 c2 (.dK [(.inr n,.ref y)])) Q E:=by
 have U:c1≠c2:=λz=>by rw[<-z,qb]at n2;cases n2
 have G:H c2=none:=by rw[<-n2,wg (aZ U)]
 have ab:Same H H3:=λb o e=>s3 _ _ (by rw[wg (wq e G),wg (wq e n1)];exact e);have ad:H3 c2=some (.dK []):=s3 _ _ qb;have ah:H3 c1=some (.dK []):=s3 _ _ (by rw[wg U,qb]);have Z:∀b o,(∀L,o≠HO.dK L)->H3 b=some o->upd H3 c2 (.dK [(.inr n,.ref y)]) b=some o:=λb o F e=>by rw[wg (λz=>by rw[z,ad]at e;cases e;exact F _ rfl)];exact e
 have W4:WkAt CW (upd H3 c2 (.dK [(.inr n,.ref y)])) y whose p pt t tv:=by obtain⟨dx,e⟩:=W3.ob;exact⟨⟨dx,Z _ _ (λL z=>by cases z) e⟩,Z _ _ (λL z=>by cases z) W3.pt,Z _ _ (λL z=>by cases z) W3.tm⟩
 have I:Same H (upd H3 c2 (.dK [(.inr n,.ref y)])):=λb o e=>by rw[wg (wq e G)];exact ab _ _ e
 have e1:upd H3 c2 (.dK [(.inr n,.ref y)]) c1=some (.dK []):=by rw[wg U];exact ah
 have e2:upd H3 c2 (.dK [(.inr n,.ref y)]) c2=some (.dK [(.inr n,.ref y)]):=qb;generalize upd H3 c2 (.dK [(.inr n,.ref y)])=H4 at I e1 e2 W4;have O:=hh.same I;refine⟨x,dr,dw,dd,c1,c2,R,W,[],[(.inr n,.ref y)],D,rfl,O,.inl e1,.inl e2,U,(wq hh.r n1).symm,(wq hh.w n1).symm,(wq hh.r G).symm,(wq hh.w G).symm,aX,bc.mpr ⟨af,aX⟩,lR,lW,aA _,by show 1<=1000;decide,lD,(λi c S hc=>nomatch S),λi c S hc=>?_,λH' tp q1 q2 a1 a2 a3 a4 a5 a6 a7 a8 _ a9=>?_⟩
 .cases i with
  |zero=>cases S;cases hc
  |succ i=>cases S
 .have F:∀b,H4 b=none->H b=none:=λb e=>x6 I e;have wk:WkAt CW H' y whose p pt t tv:=W4.kb a9 λb hb=>by
   simp only[ae,af,aQ]at hb;rcases hb with rfl|rfl|rfl|rfl|rfl
   .exact .inl ⟨_,.inl O.r⟩
   .exact .inl ⟨_,.inl O.w⟩
   .exact .inr ⟨_,O.d⟩
   .exact .inl ⟨_,.inl e1⟩
   .exact .inl ⟨_,.inl e2⟩
  refine k H' tp q1 q2 (F _ a1) (F _ a2) (F _ a3) a4 a5 a6 a7 a8 wk λb o J e=>a9 b o (λz=>?_) (I _ _ e);simp only[ae,af,aQ]at z J;rcases z with z|z|z|z|z
  .exact J (.inl z)
  .exact J (.inr (.inl z))
  .exact J (.inr (.inr z))
  .rw[z,n1]at e;cases e
  .rw[z,G]at e;cases e
def WDeed (C CW:Aj)(H H':Hp)(x dr dw dd:Aj)(R W:List (Key×V))(D:List V)(n whose:Str)(p:Aj)(pt:Int×Int)(t:Aj)(tv:List (List Key×V)):Prop:=∃y tp q1 q2,H tp=none/\H q1=none/\H q2=none/\Hse C H' x dr dw dd R (v8 W (.inr n) (.ref y)) (D++[.ref tp])/\H' tp=some (.tup [.ref q1,.ref q2])/\H' q1=some (.dK [])/\H' q2=some (.dK [(.inr n,(wp W (.inr n)).getD .non)])/\q1≠q2/\WkAt CW H' y whose p pt t tv/\Kb [dr,dw,dd] H H'
theorem WDeed.pre {H0:Hp}{x:Aj}{pt:Int×Int}{t:Aj}(h:WDeed C CW H H' x dr dw dd R W D n whose p pt t tv)(s:Same H0 H):WDeed C CW H0 H' x dr dw dd R W D n whose p pt t tv:=by obtain⟨y,F,I,G,a1,a2,a3,a4,a5,Z,U,S,O,L⟩:=h;exact⟨y,F,I,G,x6 s a1,x6 s a2,x6 s a3,a4,a5,Z,U,S,O,λb o J e=>L b o J (s _ _ e)⟩
def qud (C CW CN:Aj):Sp:=λvs H Q E=>∃(x dr dw dd:Aj) (R W:List (Key×V)) (D:List V) (n:Str),vs=[.ref x,.str n]/\Hse C H x dr dw dd R W D/\(wp W (.inr n)=none->E (.ref CN) none H) /\
 (∀v,wp W (.inr n)=some v->∃y whose p pt t tv,v=.ref y/\WkAt CW H y whose p pt t tv/\∀q,H q=none->Q (.ref q) (upd H q (.tup [.str whose,.ref p])))
include T in
theorem xxw (F:Fun K "where" "House.where" zci f fd)(zan:↑MCal qq "walker_called" 1 (v6 qq qj false)) :
  ↑FK 2 f fd ["self","name"] (qud qq qz qj):=by
 have O:=qzg;refine F.okX O (λL H Q E h=>by obtain⟨_,_,_,_,_,_,_,_,rfl,_⟩:=h;rfl) λ_ _ _ _ H L Q E U h=>?_;obtain⟨x,dr,dw,dd,R,W,D,n,rfl,I,kx,k⟩:=h;obtain⟨dx,S⟩:=I.ob;refine⟨_,(qy (xx (i:=2) (xg (pv 0) T.clH zan (U.mono ⋯) qf (q9 (pv 1) qk)))
   (qt (w6 (zk (x8 (zh (pv 2) rfl) (x8 (zh (pv 2) rfl) qk)))))),?_⟩
 refine⟨_,rfl,x,dx,_,rfl,S,xt,_,rfl,x,dr,dw,dd,R,W,D,n,rfl,I,λv e=>?_,kx⟩;obtain⟨y,whose,p,pt,t,tv,rfl,Z,q⟩:=k v e;obtain⟨J,G⟩:=Z.ob;exact exI rfl ⟨y,qz,J,_,_,rfl,G,T.clW,T.naWw,yy,exI rfl ⟨y,qz,J,_,_,rfl,G,T.clW,T.naWp,yx,sz2,q⟩⟩
def Ww (K:Aa)(C CR CW CN CT CNR CB CO:Aj):Sp:=λvs H Q E=>∃(x dr dw dd a:Aj) (R W:List (Key×V)) (D:List V) (n whose:Str) (t b:Int),vs=[.ref x,.str n,.str whose,.ref a]/\Hse C H x dr dw dd R W D/\R.length<=1000/\W.length<=1000/\D.length<=1000000/\n.length<=1000/\H a=some (.tup [.int t,.int b]) /\
 (zj n=false->∀H',Same H H'->E (.ref CN) none H')/\(zj n=true->(wp W (.inr n)).isSome=true->∀H',Same H H'->E (.ref CT) none H')/\(zj n=true->wp W (.inr n)=none->(wp R (.inr whose)=none->∀H',Same H H'->E (.ref CNR) none H') /\
  ∀v,wp R (.inr whose)=some v->∃r hs,v=.ref r/\RoadAt CR H r hs/\xm hs/\(b<1->∀H',Same H H'->E (.ref CB) none H')/\(1<=b->Sm 8000 b/\(40<(xv t b).2->∀H',Same H H'->E (.ref CB) none H')/\((xv t b).2<=40 ->
   (¬ vf hs (xv t b).1 (xv t b).2->∀H',Same H H'->E (.ref CO) none H')/\(vf hs (xv t b).1 (xv t b).2->∀H' p t',WDeed C CW H H' x dr dw dd R W D n whose p (xv t b) t' [([.inl (xv t b).1,.inl (xv t b).2],.int 1)]->Q .non H'))))
theorem low1 {t b:Int}(h:1<=b):1<=(xv t b).2:=by
 have e:=qzr (t:=t) h;have g:=um (t:=t) h;show 1<=b/gOf t b;by_cases z:1<=b/gOf t b
 .exact z
 .have:gOf t b*(b/gOf t b)<=0:=Int.mul_nonpos_of_nonneg_of_nonpos ⋯ ⋯;lia
include T in
theorem xxq (F:Fun K "place" "House.place" zca f fd)(zdr:↑Cal "check_new_name" 2 (Zu qm wj))(zag:↑MCal qq "road_called" 1 (v6 qq q8 true))(za9:↑Cal "lowest" 2 (Zq qx))(za3:↑MCal qg "on_road" 3 (Wt K qg qx qp))(ziy:↑Cal "set_down" 3 (qqm qz))(zab:↑MCal qq "do" 2 (Jy qq)) :
  ↑FK 5 f fd ["self","name","whose","point"] (Ww K qq qg qz qm wj q8 qx qp):=by
 have sc:=qx6;refine F.okX sc ⋯ λ_ _ _ _ H vs Q E hr h=>?_;obtain⟨x,dr,dw,dd,a,R,W,D,n,whose,t,b,rfl,L,lR,lW,lD,ln,ha,kn,kt,k⟩:=h;obtain⟨dx,Z⟩:=L.ob;obtain⟨tg,ad⟩:=T.zat;refine⟨_,(qy (zx (wCA zdr (q9 (pv 1) (x8 (zh (pv 0) rfl) qk))))
   (qy (xx (i:=4) (xg (pv 0) T.clH zag (hr.mono ⋯) qf (q9 (pv 2) qk)))
   (qy (xx (i:=5) (wCA za9 (zu (xj xk (pv 3) qc (λ_ _=>rfl)) (zu (xj xk (pv 3) qc (λ_ _=>rfl)) qk))))
   (qy (x4 (wn y4 (xj xk (pv 5) qc (λ_ _=>rfl)) (ug (v:=V.int 40) rfl ad ⟨_,rfl⟩) (wt _)) (qt (vz rfl T.zaj zy rfl T.zdo (xu xn qk))) w9)
   (qt (zx (xg (pv 0) T.clH zab (hr.mono ⋯) qf (x8 km (x8 (Qc (ud (pv 1) (wCA ziy (q9 (pv 2) (k6 (xg (pv 4) T.cl za3 (hr.mono ⋯) qf (q9 (pv 5) qk)) qk))) Qu) rfl rfl (λz=>nomatch z) ⋯) qk))))))))),?_⟩
 dsimp only [yf];refine c5 λ_ _ _ _ _ a6 a4 a3 a0 ap=>?_;subst a6;refine⟨_,rfl,_,rfl,x,qq,dx,_,_,rfl,Z,T.clH,T.naHw,vd,n,dw,W,rfl,ln,L.w,λa1 a2 H1 G=>?_,kn,kt⟩;obtain⟨kr,k⟩:=k a1 a2;have an:=L.same G;subst a4;refine⟨_,rfl,x,dx,_,rfl,G _ _ Z,xt,_,rfl,x,dr,dw,dd,R,W,D,whose,rfl,an,λv e=>?_,λe=>kr e H1 G⟩;obtain⟨r,hs,rfl,hR,ah,U,k⟩:=k v e;subst a3;refine⟨_,rfl,_,_,_,_,rfl,rfl,SqT.of (G _ _ ha),rfl,_,rfl,_,_,_,_,rfl,rfl,SqT.of (G _ _ ha),rfl,t,b,rfl,λI=>?_,λI=>U I H1 G⟩;obtain⟨sm,kg,k⟩:=k I;refine⟨sm.mono ⋯,λp np=>?_⟩;have s2:Same H (upd H1 p (.tup (ptV (xv t b)))):=G.trans (Same.upd np);have f2:upd H1 p (.tup (ptV (xv t b))) p=some (.tup [.int (xv t b).1,.int (xv t b).2]):=qb;generalize upd H1 p (.tup (ptV (xv t b)))=H2 at s2 f2;have l1:=low1 (t:=t) I;subst a0;exists (exX rfl rfl (SqT.of f2) rfl (xb rfl rfl (exI rfl (zn (λz=>⟨sz1,kg ⋯ H2 s2⟩) (λz=>?_)))));obtain⟨ko,k⟩:=k ⋯;subst ap;exists ⟨x,dx,exI rfl ⟨s2 _ _ Z,xt,λc1 n1=>λc2 n2=>(exI rfl (exI rfl (exI rfl ?_)))⟩⟩;obtain⟨dy,l,h1,h2⟩:=id hR;have ab:Same H2 (upd (upd H2 c1 (.dK [])) c2 (.dK [])):=λb o e=>by
  have e4:upd H2 c1 (.dK []) b=some o:=by rw[wg (wq e n1)];exact e
  rw[wg (wq e4 n2)];exact e4
 have O:=s2.trans ab;refine⟨r,dy,_,rfl,O _ _ h1,vw (by decide +kernel),_,rfl,r,p,hs,(xv t b).1,(xv t b).2,rfl,hR.same O,ah,SqT.of (ab _ _ f2),λ_=>⟨(Sm.small (n:=65) ⋯ ⋯ ⋯).mono ⋯,λS q H3 J fq=>?_,λS H3 J=>ko S H3 (O.trans J)⟩,λz=>absurd z ⋯⟩;have e3:xv (xv t b).1 (xv t b).2=xv t b:=Wf l1 (xwx I);rw[e3]at fq;refine⟨whose,q,xv t b,rfl,fq,λH4 y t' ny s5 w5=>?_⟩;refine⟨s5 _ _ (J _ _ qb),[(.inr n,.ref y)],rfl,(show 1<=15 by decide),?_⟩;exact qjt (E:=E) (L.same s2) n1 n2 (J.trans s5) w5 lR lW lD λH' tp q1 q2 I b2 b3 b4 b5 b6 b7 b8 b9 U=>k S H' q t' (WDeed.pre ⟨y,tp,q1,q2,I,b2,b3,b4,b5,b6,b7,b8,b9,U⟩ s2)
def spGo (C CR CW CN CC:Aj):Sp:=λvs H Q E=>∃(x dr dw dd:Aj) (R W:List (Key×V)) (D:List V) (n:Str) (m:Int),vs=[.ref x,.str n,.int m]/\Hse C H x dr dw dd R W D/\R.length<=1000/\W.length<=1000/\D.length<=1000000/\(wp W (.inr n)=none->E (.ref CN) none H) /\
 (∀v,wp W (.inr n)=some v->∃y whose p pt t tv r hs,v=.ref y/\WkAt CW H y whose p pt t tv/\TmOk tv/\wp R (.inr whose)=some (.ref r)/\RoadAt CR H r hs/\HPt hs pt/\(¬ Within m 0 (some 1000000000000000000000000000000000000000000000000000000000000)->E (.ref CC) none H) /\
  (Within m 0 (some 1000000000000000000000000000000000000000000000000000000000000)->∀H' p' t' tv',WDeed C CW H H' x dr dw dd R W D n whose p' (itP hs pt m.toNat) t' tv'->TmOk tv'->ww2 hs pt m.toNat tv tv'->Q (.ref p') H'))
include T in
theorem ziz (F:Fun K "go" "House.go" zcc f fd)(zan:↑MCal qq "walker_called" 1 (v6 qq qj false))(zdt:↑CalD "check_count" 1 (qw8 qu))(zdu:↑MCal qz "gone" 6 (qyu qz qg))(zab:↑MCal qq "do" 2 (Jy qq)) :
  ↑FK 8 f fd ["self","name","many"] (spGo qq qg qz qj qu):=by
 have sc:=wwu;refine F.okX sc ⋯ λ_ _ _ _ H vs Q E I h=>?_;obtain⟨x,dr,dw,dd,R,W,D,n,m,rfl,J,lR,lW,lD,kx,k⟩:=h;obtain⟨dx,O⟩:=J.ob;obtain⟨tg,ad⟩:=T.zak;refine⟨_,(qy (xx (i:=3) (xg (pv 0) T.clH zan (I.mono ⋯) qf (q9 (pv 1) qk)))
   (qy (zx (qvg zdt.all (I.mono ⋯) rfl qf (q9 (pv 2) (xu qc (q9 (ug (v:=V.int 1000000000000000000000000000000000000000000000000000000000000) rfl ad ⟨_,rfl⟩) qk)))))
   (qy (xx (i:=4) (xg (pv 3) T.clW zdu (I.mono ⋯) qf (zu (jw (vc I) (zh (pv 0) rfl) (zh (pv 3) rfl) (λ_ _=>rfl)) (q9 (pv 2) qk))))
   (qy (zx (xg (pv 0) T.clH zab (I.mono ⋯) qf (x8 km (x8 (Qc (ud (pv 1) (pv 4) Qu) rfl rfl (λz=>nomatch z) ⋯) qk))))
   (qt (w6 (zh (pv 4) rfl))))))),?_⟩
 refine⟨_,rfl,x,dx,_,rfl,O,xt,_,rfl,x,dr,dw,dd,R,W,D,n,rfl,J,λv e=>?_,kx⟩;obtain⟨y,whose,p,pt,t,tv,r,hs,rfl,hW,hT,er,hR,hP,kc,k⟩:=k v e;obtain⟨dy,hy⟩:=hW.ob;refine⟨_,rfl,m,0,.int (1000000000000000000000000000000000000000000000000000000000000),some (1000000000000000000000000000000000000000000000000000000000000),rfl,.inr ⟨1000000000000000000000000000000000000000000000000000000000000,rfl,rfl⟩,λwi=>?_,kc⟩;have dg:DGet H dr (.str whose) (wp R (.inr whose)):=DGet.k (k:=.inr whose) J.r;rw[er]at dg;exists ⟨y,dy,exI rfl ⟨hy,wwx (by decide +kernel) (by decide +kernel) (by decide +kernel),exI rfl ⟨x,qq,dx,_,_,rfl,O,T.clH,T.naHr,jh,exI rfl ⟨y,qz,dy,_,_,rfl,hy,T.clW,T.naWw,yy,dr,exI rfl ⟨dg,exI rfl ⟨y,r,p,t,whose,hs,pt,tv,m,rfl,hW,hT,hR,hP,wi.1,λH1 G p' t' ah ny L w1 a1 a0=>?_⟩⟩⟩⟩⟩⟩;exists ⟨x,dx,exI rfl ⟨L _ _ O,xt,λc1 Z=>λc2 U=>(exI rfl (exI rfl ⟨qb,[(.inr n,.ref G)],rfl,(show 1<=15 by decide),?_⟩))⟩⟩;have an:Same H1 (upd (upd H1 c1 (.dK [])) c2 (.dK [])):=λb o e=>by
  have e4:upd H1 c1 (.dK []) b=some o:=by rw[wg (wq e Z)];exact e
  rw[wg (wq e4 U)];exact e4
 have S:=w1.same an;obtain⟨H3,ab⟩:∃H3,H3=upd (upd H1 c1 (.dK [])) c2 (.dK []):=⟨_,rfl⟩;have s3:Same (upd (upd H1 c1 (.dK [])) c2 (.dK [])) H3:=by rw[ab];exact Same.refl _
 rw[<-ab]at S ⊢;have e0:uq [] [((Sum.inr n:Key),V.ref G)]=[((Sum.inr n:Key),V.ref G)]:=rfl;rw[e0];dsimp only [y0];refine qjt (n:=n) (E:=E) (J.same L) Z U s3 S lR lW lD λH' tp q1 q2 b1 b2 b3 b4 b5 b6 b7 b8 b9 kb=>?_;obtain⟨a2,ap⟩:=b9.ob;exact exI rfl ⟨G,qz,a2,_,_,rfl,ap,T.clW,T.naWp,yx,k wi H' p' t' ah (WDeed.pre ⟨G,tp,q1,q2,b1,b2,b3,b4,b5,b6,b7,b8,b9,kb⟩ L) a1 a0⟩
theorem wqn (ms:List α)(d:α)(f:α->V)(p:α->Bool):Zr (λi=>p (ms.getD i d)) (ms.map f) (ms.map f).length=(ms.filter p).map f:=by
 unfold Zr;rw[aa];have e:ms=(List.range ms.length).map λi=>ms.getD i d:=by refine List.ext_getElem (by rw[aa,aR]) λi h1 h2=>?_;rw[eK,List.getElem_range,av,aj h1];rfl
 have F:(ms.filter p).map f=(((List.range ms.length).map λi=>ms.getD i d).filter p).map f:=by rw[<-e]
 rw[F,List.filter_map,bq];refine bX λi hi=>?_;have hi:=aW.mp (bj.mp hi).1;show(ms.map f).getD i .non=f (ms.getD i d);rw[av,av,aB,aj hi];rfl
def WksAt (CW:Aj)(H:Hp)(W:List (Key×V))(ss:List Str)(wh:Str->Str)(ps:Str->Int×Int):Prop:=W.map (·.1)=ss.map Sum.inr/\W.length<64/\∀s∈ss,∃y p t tv,wp W (.inr s)=some (.ref y)/\WkAt CW H y (wh s) p (ps s) t tv
variable {ss:List Str}{ps:Str->Int×Int}
theorem WksAt.same {wh:Str->Str}(h:WksAt CW H W ss wh ps)(s:Same H H'):WksAt CW H' W ss wh ps:=⟨h.1,h.2.1,λn hn=>by
 obtain⟨y,p,t,tv,e,a⟩:=h.2.2 n hn
 exact⟨y,p,t,tv,e,a.same s⟩⟩
def spOn (C CW:Aj):Sp:=λvs H Q _=>∃(x dr dw dd:Aj) (R W:List (Key×V)) (D:List V) (n:Str) (ss:List Str) (wh:Str->Str) (ps:Str->Int×Int),vs=[.ref x,.str n]/\Hse C H x dr dw dd R W D/\WksAt CW H W ss wh ps /\
 ∀(l:Aj) (H':Hp) (ms:List Str),H l=none->Same H H'->ms.Perm ss->ms.Pairwise (λx y=>¬ y.cps.toList<x.cps.toList)->H' l=some (.lst ((ms.filter λs=>decide (V.str (wh s)=V.str n)).map V.str))->Q (.ref l) H'
include T in
theorem qkd (F:Fun K "walkers_on" "House.walkers_on" zb3 f fd):↑FK 1 f fd ["self","whose"] (spOn qq qz):=by
 have sc:=Zf;refine F.okX sc ⋯ λ_ _ _ s H vs Q E hr h=>?_;obtain⟨x,dr,dw,dd,R,W,D,n,ss,wh,ps,rfl,U,I,k⟩:=h;obtain⟨dx,hx⟩:=U.ob;refine⟨_,(qt (w6 (xq0 (M:=[0,1]) rfl rfl (by walk_at "cap") (by walk_at "has") (by walk_at "cix") rfl (by decide +kernel) rfl (show List.Nodup (["name","self","whose"]:List Str) by decide +kernel) (jp (xh (Qg rfl) rfl T.sorted_ bU (x8 (zh (pv 0) rfl) qk))) (λ_ _ _ _ _=>(wn zd (Zd (K:=K) rfl (jw (vc hr) (Zd (K:=K) rfl (pv 1) rfl) (pv 0) (λ_ _=>rfl)) rfl) (pv 2) (wt _))) (λ_ _ _ _ _=>(pv 0))))),?_⟩;exists ⟨x,qq,dx,_,_,rfl,hx,T.clH,T.naHw,vd,dw,W,ss,rfl,.inl U.w,I.1,I.2.1,λl ms nl S ab=>?_⟩;have J:Same H (upd H l (.lst (ms.map V.str))):=Same.upd nl;have Z:upd H l (.lst (ms.map V.str)) l=some (.lst (ms.map V.str)):=qb;have lm:ms.length<64:=by have a:=bu List.length I.1;rw[aa,aa]at a;have b:=S.length_eq;have c:=I.2.1;lia
 generalize upd H l (.lst (ms.map V.str))=H1 at J Z;refine⟨l,rfl,⟨_,SqL.of Z⟩,qxj (λi=>decide (V.str (wh (ms.getD i ""))=V.str n)) (SqL.of Z) (by rw[aa];lia) (λi v H' RR G s' L=>?_) (λi v H' RR G ci s' L=>(exI rfl (L H' (Same.refl _)))) λp H' np s' fp=>?_⟩
 .rw[aB]at G;cases em:ms[i]? with
  |none=>rw[em]at G;cases G
  |some m =>
   rw[em]at G;cases G;have eg:ms.getD i "" = m:=by rw[av,em];rfl
   obtain⟨y,p,t,tv,e,a⟩:=I.2.2 m (S.mem_iff.mp (aK em));obtain⟨dy,hy⟩:=a.ob;have O:=J.trans s';have dg:DGet H' dw (.str m) (wp W (.inr m)):=DGet.k (k:=.inr m) (O _ _ U.w);rw[e]at dg;rw[eg]at L;exact exI rfl ⟨x,qq,dx,_,_,rfl,O _ _ hx,T.clH,T.naHw,vd,exI rfl ⟨dw,exI rfl ⟨dg,y,qz,dy,_,_,rfl,O _ _ hy,T.clW,T.naWw,yy,exI rfl ⟨rfl,_,rfl,L H' (Same.refl _)⟩⟩⟩⟩
 .rw[wqn ms "" V.str λs=>decide (V.str (wh s)=V.str n)]at fp;exact k p H' ms (x6 J np) (J.trans s') S ab fp
theorem wu8 (hs:List Int):qz7 (hs.map V.int) none (some (-1))=hs.dropLast.map V.int:=by
 unfold qz7;rw[aa];have e:HT.sIx hs.length hs.length (some (-1))=hs.length-1:=by show(if(-1:Int)<0 then((-1:Int)+(hs.length:Int)).toNat else min (-1:Int).toNat hs.length)=hs.length-1;rw[ak ⋯];lia
 rw[e,HT.sIx_none,List.drop_zero,Nat.sub_zero,<-gB,<-List.dropLast_eq_take]
def Jw (C CR CW CN CL CS:Aj):Sp:=λvs H Q E=>∃(x dr dw dd:Aj) (R W:List (Key×V)) (D:List V) (n:Str) (ss:List Str) (wh:Str->Str) (ps:Str->Int×Int),vs=[.ref x,.str n]/\Hse C H x dr dw dd R W D/\Z4 D/\R.length<=1000/\D.length<=1000000/\WksAt CW H W ss wh ps/\(∀s∈ss,0<=(ps s).1/\(ps s).1<=1000000/\1<=(ps s).2/\(ps s).2<=1000000)/\(wp R (.inr n)=none->E (.ref CN) none H) /\
 (∀v,wp R (.inr n)=some v->∃r hs,v=.ref r/\RoadAt CR H r hs/\(¬ xm hs.dropLast->∀H',Same H H'->E (.ref CL) none H')/\(xm hs.dropLast ->
  ((∃s∈ss,wh s=n/\((hs.dropLast.length:Int)-1)*(ps s).2<(ps s).1)->∀H',Same H H'->E (.ref CS) none H')/\((∀s∈ss,wh s=n->¬ ((hs.dropLast.length:Int)-1)*(ps s).2<(ps s).1)->∀H',RDeed C CR H H' x dr dw dd R W D n hs.dropLast->Q .non H')))
include T in
theorem wyt (F:Fun K "narrow" "House.narrow" zb8 f fd)(zag:↑MCal qq "road_called" 1 (v6 qq q8 true))(zaz:↑MCal qg "corners" 1 (u6 qg))(zay:↑CCal "Road" qg 2 (Yj K qh qg))(zax:↑MCal qg "width" 1 (Zy qg))(zbb:↑MCal qq "walkers_on" 1 (spOn qq qz))(zi0:↑Cal "less" 2 (wzg K qx))(zab:↑MCal qq "do" 2 (Jy qq)) :
  ↑FK 4 f fd ["self","name"] (Jw qq qg qz q8 qh wy):=by
 have sc:=qwb;refine F.okX sc ⋯ λ_ _ _ s H vs Q E G h=>?_;obtain⟨x,dr,dw,dd,R,W,D,n,ss,wh,ps,rfl,O,rf,lR,lD,J,a6,kx,k⟩:=h;obtain⟨dx,hx⟩:=O.ob;refine⟨_,(qy (xx (i:=2) (Q4 zay (G.mono ⋯) rfl qf (zu (Y3 wjc (jz (xg (pv 0) T.clH zag (G.mono ⋯) qf (q9 (pv 1) qk)) T.cl zaz (G.mono ⋯) qf) qw5 (qwp (Yg Wg qc))) qk)))
   (qy (xx (i:=3) (zk (k6 (jz (pv 2) T.cl zax (G.mono ⋯) qf) (xu qc qk))))
   (qy (x4 (Q9 (xh (qkg (K:=K) rfl rfl) rfl T.any_ PyProof.Rows.boot_any (x8 (Wq (M:=[0,3]) rfl rfl (by walk_at "cap") (by walk_at "has") (by walk_at "cix") rfl (by decide +kernel) rfl (show List.Nodup (["walker","self","end"]:List Str) by decide +kernel) (jp (xg (pv 0) T.clH zbb (G.mono ⋯) qf (q9 (pv 1) qk))) (λ_ _ _ _ _=>(wc zi0 (G.mono ⋯) rfl J1 (q9 (pv 2) (x8 (Zd (K:=K) rfl (jw (vc G) (Zd (K:=K) rfl (pv 1) rfl) (pv 0) (λ_ _=>rfl)) rfl) qk))))) qk))) (qt (vz rfl T.zai zy rfl T.zdp (xu xn qk))) w9)
   (qt (zx (xg (pv 0) T.clH zab (G.mono ⋯) qf (x8 (Qc (ud (pv 1) (pv 2) Qu) rfl rfl (λz=>nomatch z) ⋯) (x8 km qk)))))))),?_⟩
 dsimp only [yf];refine c4 λ_ _ _ _ bf bb a9 a8=>?_;subst bf;refine⟨_,rfl,x,dx,_,rfl,hx,xt,_,rfl,x,dr,dw,dd,R,W,D,n,rfl,O,λv e=>?_,kx⟩;obtain⟨r0,hs,rfl,hR,kl,k⟩:=k v e;obtain⟨dy,l,h1,h2⟩:=id hR;refine⟨r0,dy,exI rfl ⟨h1,vw (by decide +kernel),r0,hs,rfl,hR,λp np=>?_⟩⟩;have s1:Same H (upd H p (.lst (hs.map V.int))):=Same.upd np;have f1:upd H p (.lst (hs.map V.int)) p=some (.lst (hs.map V.int)):=qb;generalize upd H p (.lst (hs.map V.int))=H1 at s1 f1;exists (exI rfl ⟨p,exI rfl ⟨SqL.of f1,λp2 n2=>?_⟩⟩);have s2:Same H (upd H1 p2 (.lst (qz7 (hs.map V.int) none (some (-1))))):=s1.trans (Same.upd n2);have f2:upd H1 p2 (.lst (qz7 (hs.map V.int) none (some (-1)))) p2=some (.lst (hs.dropLast.map V.int)):=by rw[qb,wu8]
 generalize upd H1 p2 (.lst (qz7 (hs.map V.int) none (some (-1))))=H2 at s2 f2;refineλr d0 nr a3 bo=>qxw (H:=H2) (hs:=hs.dropLast) f2 nr a3 (λah H3 s3 R3=>?_) λz H3 s3=>kl z H3 (s2.trans s3);obtain⟨ks,kg⟩:=k ah;have a0:=s2.trans s3;obtain⟨bk,l3,a1,bm⟩:=id R3;subst bb;exists ⟨r,bk,exI rfl ⟨a1,vw (by decide +kernel),r,hs.dropLast,rfl,R3,sz2,λU a2=>?_⟩⟩;have s4:Same H3 (upd H3 U (.tup [.int ((hs.dropLast.length:Int)-1),.int 1])):=Same.upd a2;have f4:upd H3 U (.tup [.int ((hs.dropLast.length:Int)-1),.int 1]) U=some (.tup [.int ((hs.dropLast.length:Int)-1),.int 1]):=qb;generalize upd H3 U (.tup [.int ((hs.dropLast.length:Int)-1),.int 1])=H4 at s4 f4;have ad:=a0.trans s4;subst a9;exists ⟨x,dx,exI rfl ⟨ad _ _ hx,xt,exI rfl ⟨x,dr,dw,dd,R,W,D,n,ss,wh,ps,rfl,O.same ad,J.same ad,λq H5 ms nq s5 pm _ fq=>?_⟩⟩⟩;have an:=ad.trans s5;have ol:=ah.2.1;have o2:=ah.1;have lm:ms.length<64:=by have a:=bu List.length J.1;rw[aa,aa]at a;have b:=pm.length_eq;have c:=J.2.1;lia
 have lf:=bF (λs=>decide (V.str (wh s)=V.str n)) ms;let g:Str->Bool:=λs=>decide (((hs.dropLast.length:Int)-1)*(ps s).2<(ps s).1*1);let S:V->V:=λv=>match v with|.str s=>.bl (g s)|_=>.non
 refine⟨q,rfl,⟨_,SqL.of fq⟩,qk7 S (SqL.of fq) (by rw[aa];lia) (λv H' RR hv s' hR=>?_) λI n6=>?_⟩
 .obtain⟨m,hm,rfl⟩:=ar.mp hv;have mm:m∈ss:=pm.mem_iff.mp (bj.mp hm).1;obtain⟨y,p,t,tv,e,a⟩:=J.2.2 m mm;obtain⟨b0,b1,b2,b3⟩:=a6 m mm;obtain⟨dy,hy⟩:=a.ob;have sa:=an.trans s';have dg:DGet H' dw (.str m) (wp W (.inr m)):=DGet.k (k:=.inr m) (sa _ _ O.w);rw[e]at dg;have Z:∀z:Int,-(2 ^ 64)<=z->z<=2 ^ 64->Sm 65 z:=λz z1 z2=>Sm.small z1 z2 ⋯;exact⟨_,rfl,_,rfl,x,qq,dx,_,_,rfl,sa _ _ hx,T.clH,T.naHw,vd,_,rfl,dw,_,rfl,dg,y,qz,dy,_,_,rfl,sa _ _ hy,T.clW,T.naWp,yx,U,p,_,_,_,_,rfl,SqT.of (s' _ _ (s5 _ _ f4)),SqT.of (sa _ _ a.pt),(Z _ ⋯ ⋯).ok (Z _ ⋯ ⋯) ⋯,(Z _ ⋯ ⋯).ok (Z 1 ⋯ ⋯) ⋯,λ_ _=>hR,λz=>absurd z ⋯⟩
 .have s6:Same H5 (upd H5 I (.lst ((((ms.filter λs=>decide (V.str (wh s)=V.str n)).map V.str).map S)))):=Same.upd n6;have e6:(((ms.filter λs=>decide (V.str (wh s)=V.str n)).map V.str).map S)=((ms.filter λs=>decide (V.str (wh s)=V.str n)).map g).map V.bl:=by rw[bq,bq];rfl
  have f6:upd H5 I (.lst ((((ms.filter λs=>decide (V.str (wh s)=V.str n)).map V.str).map S))) I=some (.lst (((ms.filter λs=>decide (V.str (wh s)=V.str n)).map g).map V.bl)):=by rw[qb,e6]
  generalize upd H5 I (.lst ((((ms.filter λs=>decide (V.str (wh s)=V.str n)).map V.str).map S)))=H6 at s6 f6;have ab:=an.trans s6;refine⟨I,(ms.filter λs=>decide (V.str (wh s)=V.str n)).map g,rfl,SqL.of f6,_,rfl,?_⟩;cases ea:((ms.filter λs=>decide (V.str (wh s)=V.str n)).map g).any id with
  |true =>
   refine jg ⟨sz1,ks ?_ H6 ab⟩;obtain⟨b,hb,a7⟩:=dE.mp ea;obtain⟨s,a4,rfl⟩:=ar.mp hb;obtain⟨hs1,L⟩:=bj.mp a4;have L:=bM L;have:=bM (show g s=true from a7);exact⟨s,pm.mem_iff.mp hs1,by cases L;rfl,by rw[Int.mul_one]at this;exact this⟩
  |false =>
   refine yz ?_;subst a8;exists ⟨x,dx,exI rfl ⟨ab _ _ hx,xt,λc1 n1=>(exI rfl (exI rfl ⟨qb,[(.inr n,.ref r)],rfl,(show 1<=15 by decide),?_⟩))⟩⟩;have R6:RoadAt qg H6 r hs.dropLast:=R3.same (s4.trans (s5.trans s6));have R7:RoadAt qg (upd H6 c1 (.dK [])) r hs.dropLast:=R6.same (Same.upd n1);obtain⟨H7,ap⟩:∃H7,H7=upd H6 c1 (.dK []):=⟨_,rfl⟩;have s7:Same (upd H6 c1 (.dK [])) H7:=by rw[ap];exact Same.refl _
   rw[<-ap]at R7 ⊢;have e0:uq [] [((Sum.inr n:Key),V.ref r)]=[((Sum.inr n:Key),V.ref r)]:=rfl;rw[e0];have lW:W.length<=1000:=by have:=J.2.1;lia
   refine qxz (E:=E) (O.same ab) n1 s7 R7 ah rf lR lW lD λH' tp q1 q2 b1 b2 b3 b4 b5 b6 b7 b8 b9 kb=>kg (λs hs1 L z=>?_) H' (RDeed.pre ⟨r,tp,q1,q2,b1,b2,b3,b4,b5,b6,b7,b8,b9,kb⟩ ab);have:((ms.filter λs=>decide (V.str (wh s)=V.str n)).map g).any id=true:=dE.mpr ⟨g s,ar.mpr ⟨s,bj.mpr ⟨pm.mem_iff.mpr hs1,aT (by rw[L])⟩,rfl⟩,aT (by rw[Int.mul_one];exact z)⟩;rw[ea]at this;cases this
def qu9 (C:Aj):Sp:=λvs H Q _=>∃(x dr dw dd:Aj) (R W:List (Key×V)) (D:List V) (rs ws:List Str),vs=[.ref x]/\Hse C H x dr dw dd R W D/\R.map (·.1)=rs.map Sum.inr/\R.length<64/\W.map (·.1)=ws.map Sum.inr/\W.length<64 /\
 ∀(q l1 l2:Aj) (ms1 ms2:List Str) (H':Hp),Same H H'->ms1.Perm rs->ms1.Pairwise (λx y=>¬ y.cps.toList<x.cps.toList)->ms2.Perm ws->ms2.Pairwise (λx y=>¬ y.cps.toList<x.cps.toList)->H' l1=some (.lst (ms1.map V.str))->H' l2=some (.lst (ms2.map V.str))->H' q=some (.tup [.ref l1,.ref l2])->Q (.ref q) H'
include T in
theorem wu1 (F:Fun K "names" "House.names" zcg f fd):↑FK 1 f fd ["self"] (qu9 qq):=by have sc:=qz9;refine F.okX sc ⋯ λ_ _ _ _ H vs Q E hr h=>?_;obtain⟨x,dr,dw,dd,R,W,D,rs,ws,rfl,O,eR,lR,eW,lW,k⟩:=h;obtain⟨dx,S⟩:=O.ob;refine⟨_,(qt (w6 (zk (k6 (xh (Qg rfl) rfl T.sorted_ bU (x8 (zh (pv 0) rfl) qk)) (k6 (xh (Qg rfl) rfl T.sorted_ bU (x8 (zh (pv 0) rfl) qk)) qk))))),?_⟩;exists ⟨x,qq,dx,_,_,rfl,S,T.clH,T.naHr,jh,dr,R,rs,rfl,.inl O.r,eR,lR,λI ms1 n1 an ad=>?_⟩;have J:Same H (upd H I (.lst (ms1.map V.str))):=Same.upd n1;have Z:upd H I (.lst (ms1.map V.str)) I=some (.lst (ms1.map V.str)):=qb;generalize upd H I (.lst (ms1.map V.str))=H1 at J Z;exists ⟨x,qq,dx,_,_,rfl,J _ _ S,T.clH,T.naHw,vd,dw,W,ws,rfl,.inl (J _ _ O.w),eW,lW,λG ms2 n2 ah ab=>?_⟩;have s2:Same H1 (upd H1 G (.lst (ms2.map V.str))):=Same.upd n2;have U:upd H1 G (.lst (ms2.map V.str)) G=some (.lst (ms2.map V.str)):=qb;generalize upd H1 G (.lst (ms2.map V.str))=H2 at s2 U;refine⟨sz2,λq nq=>?_⟩;have L:Same H2 (upd H2 q (.tup [.ref I,.ref G])):=Same.upd nq;exact k q I G ms1 ms2 _ (J.trans (s2.trans L)) an ad ah ab (L _ _ (s2 _ _ Z)) (L _ _ U) qb
def Zn (C:Aj)(H H':Hp)(x dr dw dd:Aj)(R W:List (Key×V))(D:List V)(cs1 cs2:List (Key×V)):Prop:=∃tp q1 q2,H tp=none/\H q1=none/\H q2=none/\Hse C H' x dr dw dd (exK R cs1) (exK W cs2) (D++[.ref tp])/\H' tp=some (.tup [.ref q1,.ref q2])/\H' q1=some (.dK (bfK R cs1))/\H' q2=some (.dK (bfK W cs2))/\q1≠q2/\Kb [dr,dw,dd] H H'
theorem wvy {H4:Hp}{x:Aj}{cs1 cs2:List (Key×V)}(hh:Hse C H x dr dw dd R W D)(s4:Same H H4)(n1:H c1=none)(n2:H c2=none)(e1:H4 c1=some (.dK cs1))(e2:H4 c2=some (.dK cs2))(c12:c1≠c2)(nd1:(cs1.map (·.1)).Nodup)(nd2:(cs2.map (·.1)).Nodup)(lR:R.length<=1000)(lW:W.length<=1000)(l1:cs1.length<=1000)(l2:cs2.length<=1000)(lD:D.length<=1000000)(ok1:wxc R cs1)(ok2:wxc W cs2)(k:∀H',Zn C H H' x dr dw dd R W D cs1 cs2->Kb [dr,dw,dd,c1,c2] H4 H'->Rd H' c2 (.dK cs2)->(∀H5,Kb [c2] H' H5->Zn C H H5 x dr dw dd R W D cs1 cs2)->Q .non H'):Jy C [.ref x,.ref c1,.ref c2] H4 Q E:=by
 have ab:=hh.same s4;refine⟨x,dr,dw,dd,c1,c2,R,W,cs1,cs2,D,rfl,ab,.inl e1,.inl e2,c12,(wq hh.r n1).symm,(wq hh.w n1).symm,(wq hh.r n2).symm,(wq hh.w n2).symm,nd1,nd2,lR,lW,l1,l2,lD,ok1,ok2,λH' Z q1 q2 U S O a4 a5 a6 a7 a8 rd a9=>?_⟩;have F:∀b,H4 b=none->H b=none:=λb e=>x6 s4 e;have kb:Kb [dr,dw,dd] H H':=λb o G e=>a9 b o (λz=>by
  simp only[ae,af,aQ]at z G
  rcases z with z|z|z|z|z
  .exact G (.inl z)
  .exact G (.inr (.inl z))
  .exact G (.inr (.inr z))
  .rw[z,n1]at e;cases e
  .rw[z,n2]at e;cases e) (s4 _ _ e)
 have L:∀b,H4 b=none->b∉[c2]:=λb e z=>by rw[am.mp z,e2]at e;cases e
 have I:∀b o,H b=some o->b∉[c2]:=λb o e z=>by rw[am.mp z,n2]at e;cases e
 refine k H' ⟨Z,q1,q2,F _ U,F _ S,F _ O,a4,a5,a6,a7,a8,kb⟩ a9 rd λH5 J=>?_;obtain⟨dx,ex⟩:=hh.ob;exact⟨Z,q1,q2,F _ U,F _ S,F _ O,a4.kb J ⟨I _ _ ex,I _ _ hh.r,I _ _ hh.w,I _ _ hh.d⟩,J _ _ (L _ U) a5,J _ _ (L _ S) a6,J _ _ (L _ O) a7,a8,λb o G e=>J _ _ (I _ _ e) (kb b o G e)⟩
def qw3 (C CN:Aj):Sp:=λvs H Q E=>∃(x dr dw dd:Aj) (R W:List (Key×V)) (D:List V) (n:Str),vs=[.ref x,.str n]/\Hse C H x dr dw dd R W D/\R.length<=1000/\W.length<=1000/\D.length<=1000000/\(wp W (.inr n)=none->E (.ref CN) none H) /\
 ((wp W (.inr n)).isSome=true->∀H',Zn C H H' x dr dw dd R W D [] [(.inr n,.non)]->Q .non H')
include T in
theorem xqw (F:Fun K "leave" "House.leave" zcb f fd)(zan:↑MCal qq "walker_called" 1 (v6 qq qj false))(zab:↑MCal qq "do" 2 (Jy qq)) :
  ↑FK 3 f fd ["self","name"] (qw3 qq qj):=by
 have sc:=qvh;refine F.okX sc ⋯ λ_ _ _ _ H vs Q E hr h=>?_;obtain⟨x,dr,dw,dd,R,W,D,n,rfl,J,lR,lW,lD,kx,k⟩:=h;obtain⟨dx,Z⟩:=J.ob;refine⟨_,(qy (zx (xg (pv 0) T.clH zan (hr.mono ⋯) qf (q9 (pv 1) qk)))
   (qt (zx (xg (pv 0) T.clH zab (hr.mono ⋯) qf (x8 km (x8 (Qc (ud (pv 1) jx Qu) rfl rfl (λz=>nomatch z) ⋯) qk)))))),?_⟩
 refine⟨_,rfl,x,dx,_,rfl,Z,xt,_,rfl,x,dr,dw,dd,R,W,D,n,rfl,J,λv e=>?_,kx⟩;have k:=k (by show(wp W (.inr n)).isSome=true;rw[show wp W (.inr n)=some v from e];rfl);exists ⟨x,dx,exI rfl ⟨Z,xt,λc1 U=>λc2 I=>(exI rfl ⟨qb,[(.inr n,.non)],rfl,(show 1<=15 by decide),?_⟩)⟩⟩;have L:c1≠c2:=λz=>by rw[<-z,qb]at I;cases I
 have S:H c2=none:=by rw[<-I,wg (aZ L)]
 have e0:uq [] [((Sum.inr n:Key),V.non)]=[((Sum.inr n:Key),V.non)]:=rfl;rw[e0,yn];have O:Same H (upd (upd H c1 (.dK [])) c2 (.dK [(.inr n,.non)])):=λb o e=>by rw[wg (wq e S),wg (wq e U)];exact e
 have f1:upd (upd H c1 (.dK [])) c2 (.dK [(.inr n,.non)]) c1=some (.dK []):=by rw[wg L,qb]
 have f2:upd (upd H c1 (.dK [])) c2 (.dK [(.inr n,.non)]) c2=some (.dK [(.inr n,.non)]):=qb;generalize upd (upd H c1 (.dK [])) c2 (.dK [(.inr n,.non)])=H4 at O f1 f2;dsimp only [y0];refine wvy (E:=E) J O U S f1 f2 L aX (bc.mpr ⟨af,aX⟩) lR lW (aA _) (by show 1<=1000;decide) lD (λi c G hc=>nomatch G) (λi c G hc=>?_) λH' gd _ _ _=>k H' gd;cases i with
 |zero =>
  cases G;show(wp W (.inr n)).isSome=true;rw[show wp W (.inr n)=some v from e];rfl
 |succ i=>cases G
def KnD (H H':Hp):Prop:=∀b o,(∀kv,o≠HO.dK kv)->H b=some o->H' b=some o
def KnL (H H':Hp):Prop:=∀b o,(∀L,o≠HO.lst L)->H b=some o->H' b=some o
variable {ms:List Str}
theorem wv7 {M:List Nat}{a:Aj}{tk te:TE}{σ:St}(G:Str->V->Hp->Prop)(gs:∀s v H H',G s v H->KnD H H'->G s v H')(hS:H a=some (.lst (ms.map V.str)))(hz:ms.length<=1000000)(nd:ms.Nodup)(he:∀(s:Str) (H':Hp) (R:V->V->Hp->Prop),s∈ms->Same H H'->(∀v H'',Same H' H''->G s v H''->R (.str s) v H'')->tk (kj M σ (some (.str s))) H' λy H4=>te (kj M σ (some (.str s))) H4 λz H5=>R y z H5)(k:∀p kvs H',H p=none->Same H H'->H' p=some (.dK kvs)->kvs.map (·.1)=ms.map Sum.inr->(∀kv∈kvs,∃s,s∈ms/\kv.1=.inr s/\G s kv.2 H')->Q (.ref p) H'):wqw (Itl K a) M tk te σ H Q:=by
 intro p np;have ab:(1000000:Nat)<sizeLine:=by decide
 refine⟨λi m ys H2=>i<=ms.length/\m=ms.length-i/\ys.map (·.1)=(ms.take i).map Sum.inr/\(∀kv∈ys,∃s,s∈ms/\kv.1=.inr s/\G s kv.2 H2)/\Same H H2/\H2 p=some (.dK ys),⟨ms.length,aA _,rfl,rfl,(λkv z=>nomatch z),Same.upd np,qb⟩,?_⟩;rintro i m ys H2 ⟨hi,rfl,hk,hG,sm,hp⟩;have hl:ys.length=i:=by have:=bu List.length hk;rw[aa,aa,bG]at this;lia
 refine⟨hp,⋯,?_⟩;by_cases hlt:i<ms.length
 .have U:(ms.map V.str)[i]?=some (.str ms[i]):=by rw[aB,aj hlt];rfl
  refine .inr ⟨⟨_,_,SqL.of (sm _ _ hS),U⟩,?_⟩;rintro v H3 ⟨rfl,hv⟩;have S:=hv _ (SqL.of (sm _ _ hS));rw[U]at S;cases S;refine he ms[i] _ _ (bH _) sm λv H4 I g4=>⟨.inr ms[i],rfl,I _ _ hp,ms.length-(i+1),⋯,⋯,rfl,?_⟩;have hn:wp ys (.inr ms[i])=none:=by
   unfold wp;rw[dN.mpr]
   .rfl
   .intro x hx z;have z:x.1=.inr ms[i]:=by simpa using z
    have O:x.1∈(ms.take i).map (Sum.inr:Str->Key):=by rw[<-hk];exact ar.mpr ⟨x,hx,rfl⟩
    rw[z]at O;obtain⟨s,hs,es⟩:=ar.mp O;injection es with es
    obtain⟨j,hj,Z⟩:=bD hs;rw[bG]at hj;rw[d7]at Z;have:=(dC nd).mp (Z.trans es);lia
  have J:KnD H4 (upd H4 p (.dK (v8 ys (.inr ms[i]) v))):=λb L no e=>by rw[wg (λz=>by rw[z,I _ _ hp]at e;cases e;exact no _ rfl)];exact e
  rw[Q8 _ hn]at J ⊢;refine⟨?_,λkv F=>?_,?_,qb⟩
  .rw[aV,hk,cy,aj hlt,aV];rfl
  .rcases ba.mp F with F|F
   .obtain⟨s,h1,h2,h3⟩:=hG kv F;exact⟨s,h1,h2,gs _ _ _ _ (gs _ _ _ _ h3 λb L _ e=>I _ _ e) J⟩
   .rw[am.mp F];exact⟨ms[i],bH _,rfl,gs _ _ _ _ g4 J⟩
  .intro b L e;rw[wg (wq e np)];exact I _ _ (sm _ _ e)
 .have:i=ms.length:=by lia
  subst this;rw[ce]at hk;exact .inl ⟨⟨_,SqL.of (sm _ _ hS),by rw[aa];exact al _⟩,k p ys H2 np sm hp hk hG⟩
variable {cs:List (Key×V)}
theorem xxy {M:List Nat}{d:Aj}{o:Obj}{gg:TG}{te:TE}{σ:St}(G:Nat->V->Hp->Prop)(gs:∀i v H H',G i v H->KnL H H'->G i v H')(hz:cs.length<=1000000)(hd:H d=some (.frz o (.dK cs)))(he:∀(i:Nat) (c:Key×V) (q:Aj) (H':Hp) (R:VK),cs[i]?=some c->Same H H'->H' q=none->(∀v H'',Same H' H''->G i v H''->R v H'')->gg (.ref q) (ju M σ none none) (upd H' q (.tup [kV c.1,c.2])) λσ4 H4=>(∃a b,σ4=ju M σ (some a) (some b))/\te σ4 H4 R)(k:∀p ys H',H p=none->Same H H'->H' p=some (.lst ys)->ys.length=cs.length->(∀j v,ys[j]?=some v->G j v H')->Q (.ref p) H'):wz1 (ItDI d o cs) M gg te σ H Q:=by
 intro p np;have Z:(1000000:Nat)<sizeLine:=by decide
 refine⟨λi m ys H2=>i<=cs.length/\m=cs.length-i/\ys.length=i/\Same H H2/\H2 p=some (.lst ys)/\∀j v,ys[j]?=some v->G j v H2,⟨cs.length,aA _,rfl,rfl,Same.upd np,qb,λj v e=>by cases e⟩,?_⟩;rintro i m ys H2 ⟨hi,rfl,hl,sm,hp,hG⟩;refine⟨hp,⋯,?_⟩;by_cases hlt:i<cs.length
 .refine .inr ⟨⟨sm _ _ hd,hlt⟩,?_⟩;rintro v H3 ⟨q,c,nq,rfl,ec,rfl⟩;refine he i c q H2 _ ec sm nq λv H4 I U=>⟨I _ _ hp,cs.length-(i+1),⋯,⋯,rfl,by rw[aE];show ys.length+1=_;lia,?_,qb,λj O F=>?_⟩
  .intro b J e;rw[wg (wq e np)];exact I _ _ (sm _ _ e)
  .have L:KnL H4 (upd H4 p (.lst (ys++[v]))):=λb J S e=>by rw[wg (λz=>by rw[z,I _ _ hp]at e;cases e;exact S _ rfl)];exact e
   rcases de j ys.length with hj|hj
   .rw[bz hj]at F;exact gs _ _ _ _ (gs _ _ _ _ (hG j O F) λb J _ e=>I _ _ e) L
   .rw[bi hj]at F;have:j-ys.length=0:=by
     rcases Nat.eq_zero_or_pos (j-ys.length) with z|z
     .exact z
     .rw[bg (by show 1<=_;lia)]at F;cases F
    rw[this]at F;cases F;have:j=i:=by lia
    subst this;exact gs _ _ _ _ U L
 .have:i=cs.length:=by lia
  subst this;exact .inl ⟨⟨sm _ _ hd,al _⟩,k p ys H2 np sm hp hl hG⟩
def WksT (CW:Aj)(H:Hp)(W:List (Key×V))(ss:List Str)(wh:Str->Str)(ps:Str->Int×Int)(tvs:Str->List (List Key×V)):Prop:=W.map (·.1)=ss.map Sum.inr/\W.length<64/\ss.Nodup/\∀s∈ss,TmOk (tvs s)/\∃y p t,wp W (.inr s)=some (.ref y)/\WkAt CW H y (wh s) p (ps s) t (tvs s)
theorem WksT.at {wh:Str->Str}{tvs:Str->List (List Key×V)}(h:WksT CW H W ss wh ps tvs):WksAt CW H W ss wh ps:=⟨h.1,h.2.1,λs hs=>by
 obtain⟨_,y,p,t,e,a⟩:=h.2.2.2 s hs
 exact⟨y,p,t,tvs s,e,a⟩⟩
def GoneAt (CW:Aj)(hs:List Int)(m:Nat)(whose:Str)(ps:Str->Int×Int)(tvs:Str->List (List Key×V))(s:Str)(v:V)(H:Hp):Prop:=∃y p t tv,v=.ref y/\WkAt CW H y whose p (itP hs (ps s) m) t tv/\TmOk tv/\ww2 hs (ps s) m (tvs s) tv
def KnW (H H':Hp):Prop:=∀b o,(∀kv,o≠HO.dK kv)->(∀u kv,o≠HO.frz u (.dK kv))->(∀L,o≠HO.lst L)->H b=some o->H' b=some o
variable {s:Str}
theorem GoneAt.kn {tvs:Str->List (List Key×V)}(h:GoneAt CW hs m whose ps tvs s v H)(k:KnW H H'):GoneAt CW hs m whose ps tvs s v H':=by obtain⟨y,p,t,tv,e,w,a,b⟩:=h;obtain⟨dx,F⟩:=w.ob;exact⟨y,p,t,tv,e,⟨⟨dx,k _ _ (λ_ z=>by cases z) (λ_ _ z=>by cases z) (λ_ z=>by cases z) F⟩,k _ _ (λ_ z=>by cases z) (λ_ _ z=>by cases z) (λ_ z=>by cases z) w.pt,k _ _ (λ_ z=>by cases z) (λ_ _ z=>by cases z) (λ_ z=>by cases z) w.tm⟩,a,b⟩
def qxs (C CR CW CN CC:Aj):Sp:=λvs H Q E=>∃(x dr dw dd:Aj) (R W:List (Key×V)) (D:List V) (whose:Str) (m:Int),vs=[.ref x,.str whose,.int m]/\Hse C H x dr dw dd R W D/\R.length<=1000/\D.length<=1000000/\(wp R (.inr whose)=none->E (.ref CN) none H) /\
 (∀v,wp R (.inr whose)=some v->∃r hs,v=.ref r/\RoadAt CR H r hs/\(¬ Within m 0 (some 1000000000000000000000000000000000000000000000000000000000000)->E (.ref CC) none H) /\
  (Within m 0 (some 1000000000000000000000000000000000000000000000000000000000000)->∃ss wh ps tvs,WksT CW H W ss wh ps tvs/\(∀s∈ss,wh s=whose->HPt hs (ps s)) /\
   ∀(H':Hp) (l:Aj) (cs:List (Key×V)) (ms:List Str) (ys:List V),ms.Perm ss->ms.Pairwise (λx y=>¬ y.cps.toList<x.cps.toList)->Zn C H H' x dr dw dd R W D [] cs->cs.map (·.1)=(ms.filter λs=>decide (V.str (wh s)=V.str whose)).map Sum.inr->(∀kv∈cs,∃s,s∈ss/\wh s=whose/\kv.1=.inr s/\GoneAt CW hs m.toNat whose ps tvs s kv.2 H') ->
    H l=none->H' l=some (.lst ys)->ys.length=cs.length->(∀(j:Nat) v,ys[j]?=some v->∃kv a y p pt t tv,cs[j]?=some kv/\v=.ref a/\H' a=some (.tup [kV kv.1,.ref p])/\kv.2=.ref y/\WkAt CW H' y whose p pt t tv)->Q (.ref l) H'))
include T in
theorem wwj (F:Fun K "together" "House.together" zcd f fd)(zag:↑MCal qq "road_called" 1 (v6 qq q8 true))(zdt:↑CalD "check_count" 1 (qw8 qu))(zbb:↑MCal qq "walkers_on" 1 (spOn qq qz))(zdu:↑MCal qz "gone" 6 (qyu qz qg))(zab:↑MCal qq "do" 2 (Jy qq)) :
  ↑FK 8 f fd ["self","whose","many"] (qxs qq qg qz q8 qu):=by
 have sc:=Jj;refine F.okX sc ⋯ λ_ _ _ s H vs Q E hr h=>?_;obtain⟨x,dr,dw,dd,R,W,D,whose,m,rfl,L,lR,lD,kx,k⟩:=h;obtain⟨dx,hx⟩:=L.ob;obtain⟨tg,bb⟩:=T.zak;refine⟨_,(qy (xx (i:=3) (xg (pv 0) T.clH zag (hr.mono ⋯) qf (q9 (pv 1) qk)))
   (qy (zx (qvg zdt.all (hr.mono ⋯) rfl qf (q9 (pv 2) (xu qc (q9 (ug (v:=V.int 1000000000000000000000000000000000000000000000000000000000000) rfl bb ⟨_,rfl⟩) qk)))))
   (qy (qq2 (i:=4) (M:=[0,2,3]) sc.nd rfl (by walk_at "loc") rfl rfl (by walk_at "cap") (by walk_at "has") (by walk_at "cix") rfl (by decide +kernel) rfl (show List.Nodup (["name","self","many","road"]:List Str) by decide +kernel) (jp (xg (pv 0) T.clH zbb (hr.mono ⋯) qf (q9 (pv 1) qk))) (λ_ _ _ _ _=>(pv 0)) (λ_ _ _ _ _=>(xg (jw (vc hr) (Zd (K:=K) rfl (pv 1) rfl) (pv 0) (λ_ _=>rfl)) T.clW zdu (hr.mono ⋯) J1 (q9 (pv 3) (q9 (pv 2) qk)))))
   (qy (zx (xg (pv 0) T.clH zab (hr.mono ⋯) qf (x8 km (q9 (pv 4) qk))))
   (qt (w6 (xqr (x := "name") (y2 := "walker") (M:=[]) rfl rfl (by walk_at "cap") (by walk_at "has") (by walk_at "cix") rfl (by decide +kernel) (λ_ _ _ _ _=>xz2 (K:=K) (n:=2) rfl rfl (xf (xy (i:=0) (show List.Nodup (["name","walker"]:List Str) by decide +kernel) rfl (by walk_at "loc")) (xf (xy (i:=1) (show List.Nodup (["name","walker"]:List Str) by decide +kernel) rfl (by walk_at "loc")) vq))) (pi_di (pv 4)) (λ_ _ _ _ _=>(zk (q9 (pv 0) (x8 (Zd (K:=K) rfl (pv 1) rfl) qk))))))))))),?_⟩
 dsimp only [yf];refine c5 λ_ _ _ _ _ cg cc b9 b8 b7=>?_;subst cg;refine⟨_,rfl,x,dx,_,rfl,hx,xt,_,rfl,x,dr,dw,dd,R,W,D,whose,rfl,L,λv e=>?_,kx⟩;obtain⟨r,hs,rfl,hR,kc,k⟩:=k v e;subst cc;refine⟨_,rfl,m,0,.int (1000000000000000000000000000000000000000000000000000000000000),some (1000000000000000000000000000000000000000000000000000000000000),rfl,.inr ⟨1000000000000000000000000000000000000000000000000000000000000,rfl,rfl⟩,λwi=>?_,kc⟩;obtain⟨ss,wh,ps,ad,hw,b3,k⟩:=k wi;subst b9;exists ⟨x,dx,exI rfl ⟨hx,xt,exI rfl ⟨x,dr,dw,dd,R,W,D,whose,ss,wh,ps,rfl,L,hw.at,λl H1 ms nl s1 pm bm fl=>?_⟩⟩⟩;have nd:ms.Nodup:=pm.nodup_iff.mpr hw.2.2.1;have a6:=nd.filter λs=>decide (V.str (wh s)=V.str whose);have lm:ms.length<64:=by have a:=bu List.length hw.1;rw[aa,aa]at a;have b:=pm.length_eq;have c:=hw.2.1;lia
 have lf:=bF (λs=>decide (V.str (wh s)=V.str whose)) ms;refine⟨l,rfl,⟨_,SqL.of fl⟩,wv7 (GoneAt qz hs m.toNat whose ps ad) (λs v H H' g kn=>g.kn λb o n1 _ _ e=>kn b o n1 e) fl ⋯ a6 (λs H' RR b2 sm kR=>?_) λc2 cs H2 n2 s2 f2 ec hG=>?_⟩
 .obtain⟨hm,J⟩:=bj.mp b2;have J:wh s=whose:=by have:=bM J;injection this
  have a8:=pm.mem_iff.mp hm;obtain⟨tm,y,p,t,ey,wk⟩:=hw.2.2.2 s a8;rw[J]at wk;obtain⟨dy,hy⟩:=wk.ob;have O:=s1.trans sm;have dg:DGet H' dw (.str s) (wp W (.inr s)):=DGet.k (k:=.inr s) (O _ _ L.w);rw[ey]at dg;exists (exI rfl ⟨x,qq,dx,_,_,rfl,O _ _ hx,T.clH,T.naHw,vd,exI rfl ⟨dw,exI rfl ⟨dg,y,dy,exI rfl ⟨O _ _ hy,wwx (by decide +kernel) (by decide +kernel) (by decide +kernel),exI rfl (exI rfl ⟨y,r,p,t,whose,hs,ps s,ad s,m,rfl,wk.same O,tm,hR.same O,b3 s a8 J,wi.1,λcj y' p' t' bk ny bo bf bl b4=>kR _ _ bo ⟨y',p',t',bk,rfl,bf,bl,b4⟩⟩)⟩⟩⟩⟩)
 .have U:=s1.trans s2;have a7:H c2=none:=x6 s1 n2;have bp:(cs.map (·.1)).Nodup:=by rw[ec];exact bL.mpr (a6.imp λ{a b} h z=>h (by injection z))
  have lc:cs.length<64:=by have:=bu List.length ec;rw[aa,aa]at this;lia
  subst b8;exists ⟨x,dx,exI rfl ⟨U _ _ hx,xt,λc1 n1=>(exI rfl ?_)⟩⟩;have S:Same H2 (upd H2 c1 (.dK [])):=Same.upd n1;have f1:upd H2 c1 (.dK []) c1=some (.dK []):=qb;have ci:c1≠c2:=(wq f2 n1).symm;have ap:=S _ _ f2;generalize upd H2 c1 (.dK [])=H4 at S f1 ap;dsimp only [y0];have lW:W.length<=1000:=by have:=hw.2.1;lia
  refine wvy (E:=E) L (U.trans S) (x6 U n1) a7 f1 ap ci aX bp lR lW (aA _) ⋯ lD (λi c ec hc=>nomatch ec) (λi c b6 hc=>?_) λH5 gd b0 a0 gp=>?_
  .obtain⟨_,_,_,y,_,_,_,ey,_⟩:=hG c (aK b6);rw[ey]at hc;cases hc
  .subst b7;exists ⟨c2,cs,rfl,a0,λo H6 fz=>?_⟩;have br:KnW H5 H6:=λb ob Z m2 _ e=>by
    by_cases z:b=c2
    .rcases a0 with g|⟨u,g⟩ <;> (rw[z,g]at e;cases e)
     .exact absurd rfl (Z _)
     .exact absurd rfl (m2 _ _)
    .rw[fz.2 b z];exact e
   have b5:=(U.trans S) _ _ L.d;have bs:KnW H4 H5:=λb ob Z m2 m3 e=>b0 b ob (λz=>by
    simp only[ae,af,aQ]at z
    rcases z with z|z|z|z|z
    .rw[z,(U.trans S) _ _ L.r]at e;cases e;exact Z _ rfl
    .rw[z,(U.trans S) _ _ L.w]at e;cases e;exact Z _ rfl
    .rw[z,b5]at e;cases e;exact m3 _ rfl
    .rw[z,f1]at e;cases e;exact Z _ rfl
    .rw[z,ap]at e;cases e;exact Z _ rfl) e
   have a9:∀G∈cs,∃s,s∈ss/\wh s=whose/\G.1=.inr s/\GoneAt qz hs m.toNat whose ps ad s G.2 H6:=λG an=>by
    obtain⟨s,hs1,b1,g⟩:=hG G an;obtain⟨hm,J⟩:=bj.mp hs1;have J:wh s=whose:=by have:=bM J;injection this
    exact⟨s,pm.mem_iff.mp hm,J,b1,((g.kn λb o _ _ _ e=>S _ _ e).kn bs).kn br⟩
   refine xxy (λj v H=>∃G a y p pt t tv,cs[j]?=some G/\v=.ref a/\H a=some (.tup [kV G.1,.ref p])/\G.2=.ref y/\WkAt qz H y whose p pt t tv) (λj v H H' g kn=>?_) ⋯ fz.1 (λi c q H' RR ei sm nq kR=>?_) λl6 ys H7 I s7 f7 ly hy=>?_
   .obtain⟨G,a,y,p,pt,t,tv,g1,g2,g3,g4,g5⟩:=g;obtain⟨d5,o5⟩:=g5.ob;exact⟨G,a,y,p,pt,t,tv,g1,g2,kn _ _ (λ_ z=>by cases z) g3,g4,⟨⟨d5,kn _ _ (λ_ z=>by cases z) o5⟩,kn _ _ (λ_ z=>by cases z) g5.pt,kn _ _ (λ_ z=>by cases z) g5.tm⟩⟩
   .obtain⟨s,_,_,e1,y,p,t,tv,e2,wk,_,_⟩:=a9 c (aK ei);have sq:Same H' (upd H' q (.tup [kV c.1,c.2])):=Same.upd nq;refine⟨q,exI rfl ⟨SqT.new,rfl,_,_,rfl,_,_,rfl,rfl,⟨_,_,rfl⟩,?_⟩⟩;have ab:=wk.same (sm.trans sq);obtain⟨dy,oy⟩:=ab.ob;generalize upd H' q (.tup [kV c.1,c.2])=H8 at sq ab oy;exists (exI rfl ⟨y,qz,dy,_,_,e2,oy,T.clW,T.naWp,yx,sz2,λa na=>?_⟩);have O:=sq.trans (Same.upd (o:=.tup [kV c.1,.ref p]) na);exact kR _ _ O ⟨c,a,y,p,_,t,tv,ei,rfl,qb,e2,ab.same (Same.upd na)⟩
   .have bt:Kb [c2] H5 H7:=λb ob nb e=>s7 _ _ (by rw[fz.2 b (λz=>nb (by simp[z]))];exact e);refine k H7 l6 cs ms ys pm bm (gp H7 bt) ec (λG an=>?_) ?_ f7 ly hy
    .obtain⟨s,a1,a2,a3,a4⟩:=a9 G an;exact⟨s,a1,a2,a3,a4.kn λb o _ _ _ e=>s7 _ _ e⟩
    .cases q:H l6 with
     |none=>rfl
     |some o6 =>
      exfalso;have nc:l6≠c2:=wq q a7;obtain⟨tp,q1,q2,_,_,_,ah,_,_,_,_,kb⟩:=gd;rw[fz.2 l6 nc]at I;by_cases z:l6∈[dr,dw,dd]
      .simp only[ae,af,aQ]at z;rcases z with z|z|z
       .rw[z,ah.r]at I;cases I
       .rw[z,ah.w]at I;cases I
       .rw[z,ah.d]at I;cases I
      .rw[kb _ _ z q]at I;cases I
theorem wx4 {k:Key}{u:V}(h:wp kvs k=some u):(v8 kvs k v).map (·.1)=kvs.map (·.1):=by unfold v8;rw[ak (by rw[Q5,h];rfl),bq];refine bX λF _=>?_;show(if F.1=k then(F.1,v) else F).1=F.1;split <;> rfl
theorem Kb.sql {ch:List Aj}(k:Kb ch H H'){a:Aj}{xs:List V}(h:SqL K H a xs)(d:(∀H',SqL K H' a xs)\/a∉ch):SqL K H' a xs:=by
 rcases d with d|d
 .exact d H'
 .rcases h with (e|⟨u,e⟩)|e
  .exact .inl (.inl (k _ _ d e))
  .exact .inl (.inr ⟨u,k _ _ d e⟩)
  .exact .inr e
def Dl (H:Hp)(ch:List Aj):Prop:=∀b∈ch,(∃kv,Rd H b (.dK kv))\/∃D,Z4 D/\H b=some (.lst D)
theorem Dl.nil:Dl H []:=λb hb=>nomatch hb
theorem Dl.cons {a:Aj}{ch:List Aj}(h:(∃kv,Rd H a (.dK kv))\/∃D,Z4 D/\H a=some (.lst D))(d:Dl H ch):Dl H (a::ch):=λb hb=>by
 rcases ae.mp hb with rfl|hb
 .exact h
 .exact d b hb
theorem Hse.dl {x:Aj}(h:Hse C H x dr dw dd R W D)(rf:Z4 D){ch:List Aj}(d:Dl H ch):Dl H (dr::dw::dd::ch):=.cons (.inl ⟨_,.inl h.r⟩) (.cons (.inl ⟨_,.inl h.w⟩) (.cons (.inr ⟨_,rf,h.d⟩) d))
theorem Dl.other {ch:List Aj}(d:Dl H ch){a:Aj}{o:HO}(e:H a=some o)(n1:∀kv,o≠.dK kv)(n2:∀u kv,o≠.frz u (.dK kv))(n3:∀D,Z4 D->o≠.lst D):a∉ch:=λz=>by
 rcases d a z with⟨kv,y|⟨u,y⟩⟩|⟨D,rf,y⟩ <;> (rw[e]at y;injection y with y)
 .exact n1 _ y
 .exact n2 _ _ y
 .exact n3 _ rf y
theorem Dl.tup {ch:List Aj}(d:Dl H ch)(k:Kb ch H H'){a:Aj}{xs:List V}(e:H a=some (.tup xs)):H' a=some (.tup xs):=k _ _ (d.other e (λ_ z=>by cases z) (λ_ _ z=>by cases z) (λ_ _ z=>by cases z)) e
theorem xxk (ok:xm hs){D:List V}(rf:Z4 D)(e:HO.lst (hs.map V.int)=HO.lst D):False:=by
 have e:hs.map V.int=D:=by injection e
 have l:=ok.1;have m:V.int (hs[0]'⋯)∈hs.map V.int:=ar.mpr ⟨_,bH _,rfl⟩;rw[e]at m;obtain⟨a,F⟩:=rf _ m;cases F
theorem Dl.row {ch:List Aj}(d:Dl H ch)(k:Kb ch H H'){a:Aj}{hs:List Int}(ok:xm hs)(e:H a=some (.lst (hs.map V.int))):H' a=some (.lst (hs.map V.int)):=k _ _ (d.other e (λ_ z=>by cases z) (λ_ _ z=>by cases z) (λ_ rf z=>xxk ok rf z)) e
theorem Dl.road {ch:List Aj}(d:Dl H ch)(k:Kb ch H H'){r:Aj}{hs:List Int}(ok:xm hs)(h:RoadAt C H r hs):RoadAt C H' r hs:=by obtain⟨dx,q,h1,h2⟩:=h;exact⟨dx,q,k _ _ (d.other h1 (λ_ z=>by cases z) (λ_ _ z=>by cases z) (λ_ _ z=>by cases z)) h1,d.row k ok h2⟩
theorem Dl.wk {ch:List Aj}(d:Dl H ch)(k:Kb ch H H'){y:Aj}{n:Str}{p:Aj}{pt:Int×Int}{t:Aj}{tv:List (List Key×V)}(h:WkAt C H y n p pt t tv):WkAt C H' y n p pt t tv:=by obtain⟨dx,e⟩:=h.ob;have F:=h.tm;exact⟨⟨dx,k _ _ (d.other e (λ_ z=>by cases z) (λ_ _ z=>by cases z) (λ_ _ z=>by cases z)) e⟩,d.tup k h.pt,k _ _ (d.other F (λ_ z=>by cases z) (λ_ _ z=>by cases z) (λ_ _ z=>by cases z)) F⟩
theorem wkw {n:Key}:exK W [(n,.ref y)]=v8 W n (.ref y):=by show ex1 W (n,.ref y)=_;unfold ex1;rw[ag (λz=>by cases z)]
theorem qyr {k:Key}:([(k,v)].map (·.1)).Nodup:=bc.mpr ⟨af,aX⟩
def ovr (f:Key->Option V)(cs:List (Key×V)):Key->Option V:=λm=>match wp cs m with|none=>f m|some .non=>none|some v=>some v
theorem Qq {k j:Key}(hj:j≠k):∀kvs:List (Key×V),wp (ux kvs k) j=wp kvs j
 |[]=>rfl
 |p::r=>by
  have ih:=Qq hj r;unfold ux at ih ⊢;by_cases e:p.1=k
  .rw[bP,ag (by simp[e]),ih,zr (λz=>hj (z.symm.trans e))]
  .rw[bP,ak (by simp[e])];by_cases z:p.1=j
   .rw[vj z,vj z]
   .rw[zr z,zr z,ih]
theorem Q1 {k:Key}:∀kvs:List (Key×V),wp (ux kvs k) k=none
 |[]=>rfl
 |p::r=>by
  have ih:=Q1 (k:=k) r;unfold ux at ih ⊢;by_cases e:p.1=k
  .rw[bP,ag (by simp[e]),ih]
  .rw[bP,ak (by simp[e]),zr e,ih]
theorem Yu {k:Key}(h:k∉kvs.map (·.1)):wp kvs k=none:=by unfold wp;rw[dN.mpr λkv hk=>by simp only[d6];exactλz=>h (ar.mpr ⟨kv,hk,z⟩)];rfl
theorem qws {k:Key}(h:wp kvs k=some v):(k,v)∈kvs:=by unfold wp at h;obtain⟨kv,e1,e2⟩:=dW.mp h;have:=List.find?_some e1;simp only[d6]at this;have m:=fE e1;rw[<-this,<-e2];exact m
theorem jq (nd:(kvs.map (·.1)).Nodup){c:Key×V}(h:c∈kvs):wp kvs c.1=some c.2:=by
 induction kvs with
 |nil=>cases h
 |cons p r ih =>
  rw[aH]at nd;obtain⟨a,b⟩:=bc.mp nd;rcases ae.mp h with rfl|h
  .exact vj rfl
  .rw[zr (λz=>a (by rw[z];exact ar.mpr ⟨c,h,rfl⟩))];exact ih b h
theorem wjf (R:List (Key×V))(c:Key×V)(m:Key):wp (ex1 R c) m=if m=c.1 then(if c.2=.non then none else some c.2) else wp R m:=by
 unfold ex1;by_cases z:c.2=.non
 .rw[ak z,ak z];by_cases y:m=c.1
  .rw[ak y,y,Q1]
  .rw[ag y,Qq y]
 .rw[ag z,ag z,Q3]
theorem yt:∀(cs:List (Key×V)) (R:List (Key×V)),(cs.map (·.1)).Nodup->∀m,wp (exK R cs) m=ovr (wp R) cs m
 |[],R,_,m=>rfl
 |c::cs,R,nd,m=>by
  rw[aH]at nd;obtain⟨a,b⟩:=bc.mp nd;show wp (exK (ex1 R c) cs) m=_;rw[yt cs (ex1 R c) b m];unfold ovr;by_cases z:c.1=m
  .rw[vj z,Yu (kvs:=cs) (by rw[<-z];exact a)];show wp (ex1 R c) m=_;rw[wjf,ak z.symm];cases c.2 <;> rfl
  .rw[zr z];cases wp cs m with
   |none =>
    show wp (ex1 R c) m=_;rw[wjf,ag (aZ z)]
   |some v=>cases v <;> rfl
theorem wky (R cs:List (Key×V)):(bfK R cs).map (·.1)=cs.map (·.1):=by unfold bfK;rw[bq];rfl
theorem val_bf (R cs:List (Key×V))(m:Key):wp (bfK R cs) m=(wp cs m).map λ_=>(wp R m).getD .non:=by
 induction cs with
 |nil=>rfl
 |cons c cs ih =>
  show wp ((c.1,(wp R c.1).getD .non)::bfK R cs) m=_;by_cases z:c.1=m
  .rw[vj (p:=(c.1,(wp R c.1).getD .non)) z,vj z,z];rfl
  .rw[zr (p:=(c.1,(wp R c.1).getD .non)) z,zr z,ih]
theorem qun (nd:(cs.map (·.1)).Nodup)(hv:∀m,wp R m≠some .non)(m:Key):ovr (wp (exK R cs)) (bfK R cs) m=wp R m:=by
 unfold ovr;rw[val_bf];cases e:wp cs m with
 |none =>
  show wp (exK R cs) m=_;rw[yt cs R nd,ovr,e]
 |some v =>
  show(match some ((wp R m).getD .non) with|none=>wp (exK R cs) m|some .non=>none|some v=>some v)=_;have:=hv m;cases e2:wp R m with
  |none=>rfl
  |some u =>
   rw[e2]at this;cases u <;> first | rfl | exact absurd rfl this
def qzm (f:Key->Option V)(cs:List (Key×V)):Prop:=∀c∈cs,c.2=.non->(f c.1).isSome=true
theorem wkz (nd:(cs.map (·.1)).Nodup)(h:qzm (wp R) cs):wxc R cs:=λi c ec hc=>by
 have hi:=(aI.mp ec).1;have sub:((cs.take i).map (·.1)).Nodup:=by rw[gB];exact nd.sublist (fH _ _)
 rw[yt _ _ sub];unfold ovr;rw[Yu (kvs:=cs.take i) λz=>?_]
 .exact h c (aK ec) hc
 .obtain⟨L,I,e⟩:=ar.mp z;obtain⟨j,G,F⟩:=bD I;rw[bG]at G;rw[d7]at F;have J:=(aI.mp ec).2;have:=(dC (h₀:=by rw[aa];lia) (h₁:=by rw[aa];lia) nd (i:=j) (j:=i)).mp (by rw[eK,eK,F,J];exact e);lia
theorem go_bf (nd:(cs.map (·.1)).Nodup)(hv:∀m,wp R m≠some .non)(h:qzm (wp R) cs):qzm (wp (exK R cs)) (bfK R cs):=λc hc hn=>by
 obtain⟨c0,h0,rfl⟩:=ar.mp hc;have hn:(wp R c0.1).getD .non=.non:=hn;show(wp (exK R cs) c0.1).isSome=true;rw[yt cs R nd,ovr,jq nd h0];by_cases z:c0.2=.non
 .have:=h c0 h0 z;obtain⟨v,ev⟩:=az.mp this;rw[ev]at hn;have hn:v=.non:=hn;rw[hn]at ev;exact absurd ev (hv _)
 .cases e:c0.2 <;> first | rfl | exact absurd e z
theorem wvf (nd:(R.map (·.1)).Nodup)(c:Key×V):((ex1 R c).map (·.1)).Nodup:=by
 unfold ex1;split
 .unfold ux;exact nd.sublist (List.Sublist.map _ List.filter_sublist)
 .cases e:wp R c.1 with
  |none =>
   rw[Q8 _ e,aV,d8];refine⟨nd,bc.mpr ⟨af,aX⟩,λx G y F z=>?_⟩;have F:y=c.1:=am.mp F;obtain⟨p,I,rfl⟩:=ar.mp G;have:=jq nd I;rw[z,F,e]at this;cases this
  |some v=>rw[wx4 e];exact nd
theorem wkd (nd:(R.map (·.1)).Nodup):∀cs:List (Key×V),((exK R cs).map (·.1)).Nodup:=λcs=>by
 induction cs generalizing R with
 |nil=>exact nd
 |cons c cs ih=>exact ih (wvf nd c)
def RefsF (f:Key->Option V):Prop:=∀m v,f m=some v->∃n a,m=.inr n/\v=.ref a
def Qr (cs:List (Key×V)):Prop:=∀c∈cs,∃n,c.1=.inr n/\(c.2=.non\/∃a,c.2=.ref a)
theorem RefsF.ovr {f:Key->Option V}(h:RefsF f){cs:List (Key×V)}(hc:Qr cs):RefsF (ovr f cs):=λm v e=>by
 unfold My.ovr at e;cases e2:wp cs m with
 |none=>rw[e2]at e;exact h m v e
 |some u =>
  obtain⟨n,e3,e4⟩:=hc _ (qws e2);have e3:m=.inr n:=e3;rcases e4 with e4|⟨a,e4⟩
  .have e4:u=.non:=e4;rw[e2,e4]at e;cases e
  .have e4:u=.ref a:=e4;rw[e2,e4]at e;cases e;exact⟨n,a,e3,rfl⟩
theorem RefsF.non {f:Key->Option V}(h:RefsF f)(m:Key):f m≠some .non:=λz=>by obtain⟨_,_,_,e⟩:=h m _ z;cases e
theorem RefsF.bf (h:RefsF (wp R)){cs:List (Key×V)}(hc:Qr cs):Qr (bfK R cs):=λc hc'=>by
 obtain⟨c0,h0,rfl⟩:=ar.mp hc';obtain⟨n,e,_⟩:=hc c0 h0;refine⟨n,e,?_⟩;show(wp R c0.1).getD .non=.non\/_;cases e2:wp R c0.1 with
 |none=>exact .inl rfl
 |some v =>
  obtain⟨_,a,_,e3⟩:=h _ _ e2;exact .inr ⟨a,e3⟩
structure Deed where
 tp:Aj
 q1:Aj
 q2:Aj
 cs1:List (Key×V)
 cs2:List (Key×V)
def DeedAt (H:Hp)(d:Deed):Prop:=H d.tp=some (.tup [.ref d.q1,.ref d.q2])/\Rd H d.q1 (.dK d.cs1)/\Rd H d.q2 (.dK d.cs2)
structure DeedOk (d:Deed):Prop where
 nd1:(d.cs1.map (·.1)).Nodup
 nd2:(d.cs2.map (·.1)).Nodup
 l1:d.cs1.length<=1000
 l2:d.cs2.length<=1000
 r1:Qr d.cs1
 r2:Qr d.cs2
 ne:d.q1≠d.q2
def ym (ds:List Deed):List Aj:=ds.flatMap λd=>[d.q1,d.q2]
def Q7 (ds:List Deed):List V:=ds.reverse.map λd=>V.ref d.tp
theorem wwk (d:Deed)(ds:List Deed):Q7 (d::ds)=Q7 ds++[.ref d.tp]:=by unfold Q7;rw[dR,aV];rfl
theorem j0 (ds:List Deed):(Q7 ds).length=ds.length:=by unfold Q7;rw[aa,cW]
theorem u8 (ds:List Deed):Z4 (Q7 ds):=λv hv=>by obtain⟨d,_,rfl⟩:=ar.mp hv;exact⟨_,rfl⟩
theorem qu5 {d:Deed}{ds:List Deed}(h:d∈ds):d.q1∈ym ds/\d.q2∈ym ds:=⟨cE.mpr ⟨d,h,by simp⟩,cE.mpr ⟨d,h,by simp⟩⟩
def Und:(Key->Option V)->(Key->Option V)->List Deed->Prop
 |_,_,[]=>True
 |f,g,d::ds=>qzm f d.cs1/\qzm g d.cs2/\Und (ovr f d.cs1) (ovr g d.cs2) ds
structure Ho where
 x:Aj
 dr:Aj
 dw:Aj
 dd:Aj
 R:List (Key×V)
 W:List (Key×V)
 ds:List Deed
structure HoAt (C:Aj)(H:Hp)(o:Ho):Prop where
 hs:Hse C H o.x o.dr o.dw o.dd o.R o.W (Q7 o.ds)
 da:∀d∈o.ds,DeedAt H d/\DeedOk d
 nq:∀q∈ym o.ds,q≠o.dr/\q≠o.dw
 un:Und (wp o.R) (wp o.W) o.ds
 nR:(o.R.map (·.1)).Nodup
 nW:(o.W.map (·.1)).Nodup
 fR:RefsF (wp o.R)
 fW:RefsF (wp o.W)
variable {o:Ho}
theorem HoAt.dl (h:HoAt C H o):Dl H [o.dr,o.dw,o.dd]:=h.hs.dl (u8 _) .nil
theorem HoAt.frame (h:HoAt C H o){ch:List Aj}(k:Kb ch H H')(dl:Dl H ch)(n:o.x∉ch/\o.dr∉ch/\o.dw∉ch/\o.dd∉ch)(rd:∀q∈ch,q∈ym o.ds->∀kv,Rd H q (.dK kv)->Rd H' q (.dK kv)):HoAt C H' o:=by
 refine⟨h.hs.kb k n,λd F=>?_,h.nq,h.un,h.nR,h.nW,h.fR,h.fW⟩;obtain⟨⟨a,b,c⟩,e⟩:=h.da d F;obtain⟨I,G⟩:=qu5 F;refine⟨⟨dl.tup k a,?_,?_⟩,e⟩
 .by_cases z:d.q1∈ch
  .exact rd _ z I _ b
  .exact k.rd z b
 .by_cases z:d.q2∈ch
  .exact rd _ z G _ c
  .exact k.rd z c
theorem HoAt.same (h:HoAt C H o)(s:Same H H'):HoAt C H' o:=h.frame (ch:=[]) (Kb.of s) Dl.nil ⟨af,af,af,af⟩ λq z=>nomatch z
def Ho.did (o:Ho)(tp q1 q2:Aj)(cs1 cs2:List (Key×V)):Ho:={ o with R:=exK o.R cs1,W:=exK o.W cs2,ds:=⟨tp,q1,q2,bfK o.R cs1,bfK o.W cs2⟩::o.ds }
theorem qjh {f f' g g':Key->Option V}(ef:∀m,f m=f' m)(eg:∀m,g m=g' m){ds:List Deed}(h:Und f g ds):Und f' g' ds:=by have a:f=f':=funext ef;have b:g=g':=funext eg;subst a b;exact h
theorem HoAt.did (h:HoAt C H o){cs1 cs2:List (Key×V)}(g:Zn C H H' o.x o.dr o.dw o.dd o.R o.W (Q7 o.ds) cs1 cs2)(nd1:(cs1.map (·.1)).Nodup)(nd2:(cs2.map (·.1)).Nodup)(l1:cs1.length<=1000)(l2:cs2.length<=1000)(r1:Qr cs1)(r2:Qr cs2)(g1:qzm (wp o.R) cs1)(g2:qzm (wp o.W) cs2):∃tp q1 q2,H tp=none/\H q1=none/\H q2=none/\HoAt C H' (o.did tp q1 q2 cs1 cs2)/\Kb [o.dr,o.dw,o.dd] H H':=by
 obtain⟨tp,q1,q2,n0,O,L,h1,ft,f1,f2,Z,J⟩:=g;have G:∀q∈ym o.ds,∃U,Rd H q (.dK U):=λq G=>by
  obtain⟨d,I,G⟩:=cE.mp G;obtain⟨⟨_,a,b⟩,_⟩:=h.da d I;simp only[ae,af,aQ]at G;rcases G with rfl|rfl
  .exact⟨_,a⟩
  .exact⟨_,b⟩
 have nin:∀q∈ym o.ds,q∉[o.dr,o.dw,o.dd]:=λq F z=>by
  obtain⟨U,e⟩:=G q F;have S:=h.nq q F;simp only[ae,af,aQ]at z;rcases z with z|z|z
  .exact S.1 z
  .exact S.2 z
  .rcases e with e|⟨u,e⟩ <;> (rw[z,h.hs.d]at e;cases e)
 refine⟨tp,q1,q2,n0,O,L,⟨by show Hse C H' o.x o.dr o.dw o.dd _ _ (Q7 (_::o.ds));rw[wwk];exact h1,λd I=>?_,λq F=>?_,?_,wkd h.nR _,wkd h.nW _,?_,?_⟩,J⟩
 .rcases ae.mp I with rfl|I
  .exact⟨⟨ft,.inl f1,.inl f2⟩,⟨by show((bfK o.R cs1).map (·.1)).Nodup;rw[wky];exact nd1,by show((bfK o.W cs2).map (·.1)).Nodup;rw[wky];exact nd2,by show(bfK o.R cs1).length<=_;unfold bfK;rw[aa];exact l1,by show(bfK o.W cs2).length<=_;unfold bfK;rw[aa];exact l2,h.fR.bf r1,h.fW.bf r2,Z⟩⟩
  .obtain⟨⟨a,b,c⟩,e⟩:=h.da d I;obtain⟨m1,m2⟩:=qu5 I;exact⟨⟨h.dl.tup J a,J.rd (nin _ m1) b,J.rd (nin _ m2) c⟩,e⟩
 .have F:q∈q1::q2::ym o.ds:=F;rcases ae.mp F with rfl|F
  .exact⟨(wq h.hs.r O).symm,(wq h.hs.w O).symm⟩
  .rcases ae.mp F with rfl|F
   .exact⟨(wq h.hs.r L).symm,(wq h.hs.w L).symm⟩
   .exact h.nq q F
 .exact⟨go_bf nd1 h.fR.non g1,go_bf nd2 h.fW.non g2,qjh (λm=>(qun nd1 h.fR.non m).symm) (λm=>(qun nd2 h.fW.non m).symm) h.un⟩
 .show RefsF (wp (exK o.R cs1));rw[show wp (exK o.R cs1)=ovr (wp o.R) cs1 from funext (yt cs1 o.R nd1)];exact h.fR.ovr r1
 .show RefsF (wp (exK o.W cs2));rw[show wp (exK o.W cs2)=ovr (wp o.W) cs2 from funext (yt cs2 o.W nd2)];exact h.fW.ovr r2
def Ho.undo (o:Ho)(d:Deed)(ds:List Deed):Ho:={ o with R:=exK o.R d.cs1,W:=exK o.W d.cs2,ds:=ds }
theorem xqn {kv kv':List (Key×V)}(h:Rd H q (.dK kv))(h':Rd H q (.dK kv')):kv=kv':=by rcases h with h|⟨u,h⟩ <;> rcases h' with h'|⟨u',h'⟩ <;> (rw[h]at h';cases h') <;> rfl
variable {CN:Aj}
theorem HoAt.take {d:Deed}{ds:List Deed}(h:HoAt C H o)(ed:o.ds=d::ds)(lR:o.R.length<=1000)(lW:o.W.length<=1000)(k:∀H',HoAt C H' (o.undo d ds)->Kb [o.dr,o.dw,o.dd,d.q1,d.q2] H H'->Dl H [o.dr,o.dw,o.dd,d.q1,d.q2]->(∀q kv,q∉[o.dr,o.dw,o.dd]->Rd H q (.dK kv)->Rd H' q (.dK kv))->Q .non H'):qzn C CN [.ref o.x] H Q E:=by
 have hh:=h.hs;rw[ed,wwk]at hh;have hd:d∈o.ds:=by rw[ed];exact aw ..
 obtain⟨⟨dt,S,O⟩,F⟩:=h.da d hd;have m:=qu5 hd;have U:=h.un;rw[ed]at U;obtain⟨u1,u2,u3⟩:=U;refine⟨o.x,o.dr,o.dw,o.dd,o.R,o.W,exI rfl ⟨hh,lR,lW,(λz=>absurd z (cK _ (cD _ _))),λD' v e=>?_⟩⟩;obtain⟨e1,e2⟩:=List.append_inj' e rfl;cases e2;have ab:=h.nq _ m.1;have Z:=h.nq _ m.2;refine⟨d.tp,d.q1,d.q2,d.cs1,d.cs2,rfl,dt,S,O,F.ne,ab.1,ab.2,Z.1,Z.2,F.nd1,F.nd2,F.l1,F.l2,wkz F.nd1 u1,wkz F.nd2 u2,λH' ad r1 r2 J=>?_⟩;rw[<-e1]at ad;have dl:Dl H [o.dr,o.dw,o.dd,d.q1,d.q2]:=h.hs.dl (u8 _) (.cons (.inl ⟨_,S⟩) (.cons (.inl ⟨_,O⟩) .nil));have I:∀q kv,q∉[o.dr,o.dw,o.dd]->Rd H q (.dK kv)->Rd H' q (.dK kv):=λq kv G e=>by
  by_cases z1:q=d.q1
  .subst z1;rw[xqn e S];exact r1
  .by_cases z2:q=d.q2
   .subst z2;rw[xqn e O];exact r2
   .refine J.rd (λz=>?_) e;simp only[ae,af,aQ]at z G;rcases z with z|z|z|z|z
    .exact G (.inl z)
    .exact G (.inr (.inl z))
    .exact G (.inr (.inr z))
    .exact z1 z
    .exact z2 z
 have nin:∀q∈ym o.ds,(∃kv,Rd H q (.dK kv))->q∉[o.dr,o.dw,o.dd]:=λq hm ⟨kv,e⟩ z=>by
  have G:=h.nq q hm;simp only[ae,af,aQ]at z;rcases z with z|z|z
  .exact G.1 z
  .exact G.2 z
  .rcases e with e|⟨u,e⟩ <;> (rw[z,h.hs.d]at e;cases e)
 have an:∀q∈ym ds,q∈ym o.ds:=λq L=>by rw[ed];exact ay _ (ay _ L)
 refine k H' ⟨ad,λd' ap=>?_,λq L=>h.nq q (an q L),?_,wkd h.nR _,wkd h.nW _,?_,?_⟩ J dl I
 .have ah:d'∈o.ds:=by rw[ed];exact ay _ ap
  obtain⟨⟨a,b,c⟩,e⟩:=h.da d' ah;obtain⟨m1,m2⟩:=qu5 ah;exact⟨⟨dl.tup J a,I _ _ (nin _ m1 ⟨_,b⟩) b,I _ _ (nin _ m2 ⟨_,c⟩) c⟩,e⟩
 .exact qjh (λm=>(yt d.cs1 o.R F.nd1 m).symm) (λm=>(yt d.cs2 o.W F.nd2 m).symm) u3
 .show RefsF (wp (exK o.R d.cs1));rw[show wp (exK o.R d.cs1)=ovr (wp o.R) d.cs1 from funext (yt _ _ F.nd1)];exact h.fR.ovr F.r1
 .show RefsF (wp (exK o.W d.cs2));rw[show wp (exK o.W d.cs2)=ovr (wp o.W) d.cs2 from funext (yt _ _ F.nd2)];exact h.fW.ovr F.r2
structure Wk where
 wh:Str
 pt:Int×Int
 tv:List (List Key×V)
structure AH where
 rs:Str->Option (List Int)
 ws:Str->Option Wk
def AH.putW (a:AH)(n:Str)(w:Wk):AH:={ a with ws:=λm=>if m=n then some w else a.ws m }
def AH.delW (a:AH)(n:Str):AH:={ a with ws:=λm=>if m=n then none else a.ws m }
def AH.putR (a:AH)(n:Str)(hs:List Int):AH:={ a with rs:=λm=>if m=n then some hs else a.rs m }
def RRep (CR:Aj)(H:Hp)(o:Option V):Option (List Int)->Prop
 |none=>o=none
 |some hs=>∃r,o=some (.ref r)/\RoadAt CR H r hs
def WRep (CW:Aj)(H:Hp)(o:Option V):Option Wk->Prop
 |none=>o=none
 |some w=>∃y p t,o=some (.ref y)/\WkAt CW H y w.wh p w.pt t w.tv
structure AOk (a:AH):Prop where
 lo:∀n hs,a.rs n=some hs->xm hs
 wo:∀n w,a.ws n=some w->TmOk w.tv/\∃hs,a.rs w.wh=some hs/\HPt hs w.pt
structure Rep (CR CW:Aj)(H:Hp)(f g:Key->Option V)(a:AH):Prop where
 r:∀n,RRep CR H (f (.inr n)) (a.rs n)
 w:∀n,WRep CW H (g (.inr n)) (a.ws n)
 ok:AOk a
variable {a:AH}
theorem Rep.dl {CR:Aj}{f g:Key->Option V}(h:Rep CR CW H f g a){ch:List Aj}(d:Dl H ch)(k:Kb ch H H'):Rep CR CW H' f g a:=by
 refine⟨λn=>?_,λn=>?_,h.ok⟩
 .have:=h.r n;have lo:=h.ok.lo n;cases e:a.rs n with
  |none=>rw[e]at this;exact this
  |some hs =>
   rw[e]at this;obtain⟨r,F,I⟩:=this;exact⟨r,F,d.road k (lo hs e) I⟩
 .have:=h.w n;cases e:a.ws n with
  |none=>rw[e]at this;exact this
  |some w =>
   rw[e]at this;obtain⟨y,p,t,F,G⟩:=this;exact⟨y,p,t,F,d.wk k G⟩
def Hist (CR CW:Aj)(H:Hp):List AH->(Key->Option V)->(Key->Option V)->List Deed->Prop
 |[],_,_,_=>True
 |a::as,f,g,ds=>Rep CR CW H f g a/\((ds=[]/\as=[])\/∃d ds',ds=d::ds'/\Hist CR CW H as (ovr f d.cs1) (ovr g d.cs2) ds')
theorem Hist.dl {CR:Aj}{ch:List Aj}(d:Dl H ch)(k:Kb ch H H'):∀ {as:List AH} {f g:Key->Option V} {ds:List Deed},Hist CR CW H as f g ds->Hist CR CW H' as f g ds
 |[],_,_,_,_=>trivial
 |a::as,f,g,ds,h=>by
  obtain⟨h1,h2⟩:=h;refine⟨h1.dl d k,?_⟩;rcases h2 with h2|⟨d',ds',e,h2⟩
  .exact .inl h2
  .exact .inr ⟨d',ds',e,Hist.dl d k h2⟩
structure VH (C CR CW:Aj)(H:Hp)(o:Ho)(as:List AH):Prop where
 h:HoAt C H o
 t:Hist CR CW H as (wp o.R) (wp o.W) o.ds
variable {as:List AH}
theorem VH.same {CR:Aj}(v:VH C CR CW H o as)(s:Same H H'):VH C CR CW H' o as:=⟨v.h.same s,Hist.dl (ch:=[]) Dl.nil (Kb.of s) v.t⟩
theorem VH.rep {CR:Aj}(v:VH C CR CW H o (a::as)):Rep CR CW H (wp o.R) (wp o.W) a:=v.t.1
structure Nxt (H:Hp)(o o':Ho):Prop where
 x:o'.x=o.x
 dr:o'.dr=o.dr
 dw:o'.dw=o.dw
 dd:o'.dd=o.dd
 ds:∃d,o'.ds=d::o.ds/\H d.q1=none/\H d.q2=none
structure Prv (o o':Ho):Prop where
 x:o'.x=o.x
 dr:o'.dr=o.dr
 dw:o'.dw=o.dw
 dd:o'.dd=o.dd
 ds:∃d,o.ds=d::o'.ds
theorem VH.did {CR:Aj}{a':AH}(v:VH C CR CW H o (a::as)){cs1 cs2:List (Key×V)}(g:Zn C H H' o.x o.dr o.dw o.dd o.R o.W (Q7 o.ds) cs1 cs2)(nd1:(cs1.map (·.1)).Nodup)(nd2:(cs2.map (·.1)).Nodup)(l1:cs1.length<=1000)(l2:cs2.length<=1000)(r1:Qr cs1)(r2:Qr cs2)(g1:qzm (wp o.R) cs1)(g2:qzm (wp o.W) cs2)(rp:Kb [o.dr,o.dw,o.dd] H H'->Rep CR CW H' (ovr (wp o.R) cs1) (ovr (wp o.W) cs2) a') :
  ∃o',Nxt H o o'/\VH C CR CW H' o' (a'::a::as)/\Kb [o.dr,o.dw,o.dd] H H':=by
 obtain⟨G,J,I,Z,O,L,h',F⟩:=v.h.did g nd1 nd2 l1 l2 r1 r2 g1 g2;refine⟨o.did G J I cs1 cs2,⟨rfl,rfl,rfl,rfl,⟨⟨G,J,I,bfK o.R cs1,bfK o.W cs2⟩,rfl,O,L⟩⟩,⟨h',?_⟩,F⟩;have U:wp (exK o.R cs1)=ovr (wp o.R) cs1:=funext (yt cs1 o.R nd1);have S:wp (exK o.W cs2)=ovr (wp o.W) cs2:=funext (yt cs2 o.W nd2);refine⟨by show Rep CR CW H' (wp (exK o.R cs1)) (wp (exK o.W cs2)) a';rw[U,S];exact rp F,.inr ⟨_,o.ds,rfl,?_⟩⟩;show Hist CR CW H' (a::as) (ovr (wp (exK o.R cs1)) (bfK o.R cs1)) (ovr (wp (exK o.W cs2)) (bfK o.W cs2)) o.ds;rw[show ovr (wp (exK o.R cs1)) (bfK o.R cs1)=wp o.R from funext (qun nd1 v.h.fR.non),show ovr (wp (exK o.W cs2)) (bfK o.W cs2)=wp o.W from funext (qun nd2 v.h.fW.non)];exact Hist.dl v.h.dl F v.t
structure Nam (NM:List Str)(a:AH):Prop where
 r:∀n,(a.rs n).isSome=true->n∈NM
 w:∀n,(a.ws n).isSome=true->n∈NM
theorem Wy [DecidableEq α]:∀(l m:List α),l.Nodup->(∀x∈l,x∈m)->l.length<=m.length
 |[],_,_,_=>aA _
 |a::l,m,nd,h=>by obtain⟨n1,n2⟩:=bc.mp nd;have ha:=h a (aw ..);have:=Wy l (m.erase a) n2 λx hx=>(List.mem_erase_of_ne (λz=>n1 (by rw[<-z];exact hx))).mpr (h x (ay _ hx));rw[fT ha]at this;have:=dZ ha;rw[aC];lia
variable {NM:List Str}
theorem qyb (nd:(R.map (·.1)).Nodup)(h:∀k v,wp R k=some v->∃n,k=.inr n/\n∈NM):R.length<=NM.length:=by
 have:=Wy (R.map (·.1)) (NM.map Sum.inr) nd λk G=>by obtain⟨c,I,rfl⟩:=ar.mp G;obtain⟨n,e,F⟩:=h _ _ (jq nd I);rw[e];exact ar.mpr ⟨n,F,rfl⟩
 rwa [aa,aa]at this
theorem VH.lens {CR:Aj}(v:VH C CR CW H o (a::as)){NM:List Str}(nm:Nam NM a):o.R.length<=NM.length/\o.W.length<=NM.length:=by
 refine⟨qyb v.h.nR λk u e=>?_,qyb v.h.nW λk u e=>?_⟩
 .obtain⟨n,_,rfl,_⟩:=v.h.fR k u e;refine⟨n,rfl,nm.r n ?_⟩;have:=v.rep.r n;cases e2:a.rs n with
  |none =>
   rw[e2]at this;have this:wp o.R (.inr n)=none:=this;rw[this]at e;cases e
  |some _=>rfl
 .obtain⟨n,_,rfl,_⟩:=v.h.fW k u e;refine⟨n,rfl,nm.w n ?_⟩;have:=v.rep.w n;cases e2:a.ws n with
  |none =>
   rw[e2]at this;have this:wp o.W (.inr n)=none:=this;rw[this]at e;cases e
  |some _=>rfl
theorem Rep.road {CR:Aj}{f g:Key->Option V}(h:Rep CR CW H f g a){n:Str}{hs:List Int}(e:a.rs n=some hs):∃r,f (.inr n)=some (.ref r)/\RoadAt CR H r hs:=by have:=h.r n;rw[e]at this;exact this
theorem Rep.wk {CR:Aj}{f g:Key->Option V}(h:Rep CR CW H f g a){n:Str}{w:Wk}(e:a.ws n=some w):∃y p t,g (.inr n)=some (.ref y)/\WkAt CW H y w.wh p w.pt t w.tv:=by have:=h.w n;rw[e]at this;exact this
theorem Rep.noR {CR:Aj}{f g:Key->Option V}(h:Rep CR CW H f g a){n:Str}(e:a.rs n=none):f (.inr n)=none:=by have:=h.r n;rw[e]at this;exact this
theorem Rep.noW {CR:Aj}{f g:Key->Option V}(h:Rep CR CW H f g a){n:Str}(e:a.ws n=none):g (.inr n)=none:=by have:=h.w n;rw[e]at this;exact this
theorem qw9 {f:Key->Option V}{k:Key}(m:Key):ovr f [(k,v)] m=if m=k then(if v=.non then none else some v) else f m:=by
 unfold ovr;by_cases z:k=m
 .rw[vj z,ak z.symm];cases v <;> rfl
 .rw[zr z,ag (aZ z)];rfl
theorem Rep.putW {CR:Aj}{f g:Key->Option V}(h:Rep CR CW H f g a){n:Str}{w:Wk}{y p t:Aj}(wk:WkAt CW H y w.wh p w.pt t w.tv)(tm:TmOk w.tv){hs:List Int}(er:a.rs w.wh=some hs)(hp:HPt hs w.pt):Rep CR CW H (ovr f []) (ovr g [(.inr n,.ref y)]) (a.putW n w):=by
 refine⟨h.r,λm=>?_,h.ok.lo,λm F e=>?_⟩
 .rw[qw9];show WRep CW H _ (if m=n then some w else a.ws m);by_cases z:m=n
  .rw[ak z,ak (by rw[z]),ag (λq=>by cases q)];exact⟨y,p,t,rfl,wk⟩
  .rw[ag z,ag (λq=>z (by injection q))];exact h.w m
 .have e:(if m=n then some w else a.ws m)=some F:=e;by_cases z:m=n
  .rw[ak z]at e;cases e;exact⟨tm,hs,er,hp⟩
  .rw[ag z]at e;exact h.ok.wo m F e
theorem Rep.delW {CR:Aj}{f g:Key->Option V}(h:Rep CR CW H f g a)(n:Str):Rep CR CW H (ovr f []) (ovr g [(.inr n,.non)]) (a.delW n):=by
 refine⟨h.r,λm=>?_,h.ok.lo,λm F e=>?_⟩
 .rw[qw9];show WRep CW H _ (if m=n then none else a.ws m);by_cases z:m=n
  .rw[ak z,ak (by rw[z]),ak rfl];rfl
  .rw[ag z,ag (λq=>z (by injection q))];exact h.w m
 .have e:(if m=n then none else a.ws m)=some F:=e;by_cases z:m=n
  .rw[ak z]at e;cases e
  .rw[ag z]at e;exact h.ok.wo m F e
theorem wq9:Qr [((Sum.inr n:Key),V.ref y)]:=λc hc=>by rw[am.mp hc];exact⟨n,rfl,.inr ⟨y,rfl⟩⟩
theorem wwg:Qr [((Sum.inr n:Key),V.non)]:=λc hc=>by rw[am.mp hc];exact⟨n,rfl,.inl rfl⟩
theorem Zw:Qr []:=λc hc=>nomatch hc
theorem qxm {f:Key->Option V}:qzm f []:=λc hc=>nomatch hc
theorem xw9 {f:Key->Option V}{k:Key}:qzm f [(k,.ref y)]:=λc hc hn=>by rw[am.mp hc]at hn;cases hn
variable {wh:Str}
theorem WDeed.g {x:Aj}{pt:Int×Int}{t:Aj}(h:WDeed C CW H H' x dr dw dd R W D n wh p pt t tv):∃y,Zn C H H' x dr dw dd R W D [] [(.inr n,.ref y)]/\WkAt CW H' y wh p pt t tv:=by obtain⟨y,F,I,G,a1,a2,a3,Z,a5,U,S,O,L,J⟩:=h;refine⟨y,⟨F,I,G,a1,a2,a3,?_,a5,U,S,O,J⟩,L⟩;rw[wkw];exact Z
theorem RDeed.g {CR:Aj}{x:Aj}(h:RDeed C CR H H' x dr dw dd R W D n hs):∃r,Zn C H H' x dr dw dd R W D [(.inr n,.ref r)] []/\RoadAt CR H' r hs:=by obtain⟨r,F,I,G,a1,a2,a3,Z,a5,U,S,O,L,J⟩:=h;refine⟨r,⟨F,I,G,a1,a2,a3,?_,a5,U,S,O,J⟩,L⟩;rw[wkw];exact Z
theorem VH.walk {CR:Aj}(v:VH C CR CW H o (a::as)){n:Str}{w:Wk}{p t:Aj}(g:WDeed C CW H H' o.x o.dr o.dw o.dd o.R o.W (Q7 o.ds) n w.wh p w.pt t w.tv)(tm:TmOk w.tv){hs:List Int}(er:a.rs w.wh=some hs)(hp:HPt hs w.pt):∃o',Nxt H o o'/\VH C CR CW H' o' (a.putW n w::a::as)/\Kb [o.dr,o.dw,o.dd] H H':=by obtain⟨y,I,F⟩:=g.g;exact v.did I aX qyr (aA _) (show 1<=1000 by decide) Zw wq9 qxm xw9 λG=>(v.rep.dl v.h.dl G).putW F tm er hp
theorem VH.leave {CR:Aj}(v:VH C CR CW H o (a::as)){n:Str}{w:Wk}(e:a.ws n=some w)(g:Zn C H H' o.x o.dr o.dw o.dd o.R o.W (Q7 o.ds) [] [(.inr n,.non)]):∃o',Nxt H o o'/\VH C CR CW H' o' (a.delW n::a::as)/\Kb [o.dr,o.dw,o.dd] H H':=by obtain⟨y,p,t,I,_⟩:=v.rep.wk e;exact v.did g aX qyr (aA _) (show 1<=1000 by decide) Zw wwg qxm (λc G _=>by rw[am.mp G,I];rfl) λF=>(v.rep.dl v.h.dl F).delW n
theorem VH.take {CR:Aj}{b:AH}(v:VH C CR CW H o (a::b::as))(lR:o.R.length<=1000)(lW:o.W.length<=1000)(k:∀H' o' d,Prv o o'->o.ds=d::o'.ds->VH C CR CW H' o' (b::as)->Kb [o.dr,o.dw,o.dd,d.q1,d.q2] H H'->Dl H [o.dr,o.dw,o.dd,d.q1,d.q2]->(∀q kv,q∉[o.dr,o.dw,o.dd]->Rd H q (.dK kv)->Rd H' q (.dK kv))->Q .non H'):qzn C CN [.ref o.x] H Q E:=by
 obtain⟨h1,h2⟩:=v.t;rcases h2 with⟨_,h2⟩|⟨d,ds,F,h2⟩
 .cases h2
 have O:d∈o.ds:=by rw[F];exact aw ..
 obtain⟨_,J⟩:=v.h.da d O;refine v.h.take F lR lW λH' h' G I L=>k H' (o.undo d ds) d ⟨rfl,rfl,rfl,rfl,⟨d,F⟩⟩ F ⟨h',?_⟩ G I L;show Hist CR CW H' (b::as) (wp (exK o.R d.cs1)) (wp (exK o.W d.cs2)) ds;rw[show wp (exK o.R d.cs1)=ovr (wp o.R) d.cs1 from funext (yt _ _ J.nd1),show wp (exK o.W d.cs2)=ovr (wp o.W) d.cs2 from funext (yt _ _ J.nd2)];exact Hist.dl I G h2
structure Ap (o p:Ho):Prop where
 rr:o.dr≠p.dr
 rw_:o.dr≠p.dw
 wr:o.dw≠p.dr
 ww:o.dw≠p.dw
 dd:o.dd≠p.dd
 q1:∀q∈ym o.ds,q≠p.dr/\q≠p.dw
 q2:∀q∈ym p.ds,q≠o.dr/\q≠o.dw
theorem Ap.symm {p:Ho}(h:Ap o p):Ap p o:=⟨h.rr.symm,h.wr.symm,h.rw_.symm,h.ww.symm,h.dd.symm,h.q2,h.q1⟩
theorem Ap.x {o p:Ho}(hp:HoAt C H p){ch:List Aj}(dl:Dl H ch):p.x∉ch:=by obtain⟨dx,e⟩:=hp.hs.ob;exact dl.other e (λ_ z=>by cases z) (λ_ _ z=>by cases z) (λ_ _ z=>by cases z)
theorem Ap.stay {CR:Aj}{p:Ho}(h:Ap o p)(ho:HoAt C H o)(vp:VH C CR CW H p as)(kb:Kb [o.dr,o.dw,o.dd] H H'):VH C CR CW H' p as:=by
 have F:=ho.dl;refine⟨vp.h.frame kb F ⟨Ap.x (o:=o) vp.h F,λz=>?_,λz=>?_,λz=>?_⟩ λq G I J e=>?_,Hist.dl F kb vp.t⟩
 .simp only[ae,af,aQ]at z;rcases z with z|z|z
  .exact h.rr z.symm
  .exact h.wr z.symm
  .have:=vp.h.hs.r;rw[z,ho.hs.d]at this;cases this
 .simp only[ae,af,aQ]at z;rcases z with z|z|z
  .exact h.rw_ z.symm
  .exact h.ww z.symm
  .have:=vp.h.hs.w;rw[z,ho.hs.d]at this;cases this
 .simp only[ae,af,aQ]at z;rcases z with z|z|z
  .have:=vp.h.hs.d;rw[z,ho.hs.r]at this;cases this
  .have:=vp.h.hs.d;rw[z,ho.hs.w]at this;cases this
  .exact h.dd z.symm
 .simp only[ae,af,aQ]at G;rcases G with z|z|z
  .exact absurd z (h.q2 q I).1
  .exact absurd z (h.q2 q I).2
  .rcases e with e|⟨u,e⟩ <;> (rw[z,ho.hs.d]at e;cases e)
variable {o':Ho}
theorem Ap.nxt {p:Ho}(h:Ap o p)(hp:HoAt C H p)(n:Nxt H o o'):Ap o' p:=by
 obtain⟨d,e,I,G⟩:=n.ds;refine⟨by rw[n.dr];exact h.rr,by rw[n.dr];exact h.rw_,by rw[n.dw];exact h.wr,by rw[n.dw];exact h.ww,by rw[n.dd];exact h.dd,λq F=>?_,λq F=>by rw[n.dr,n.dw];exact h.q2 q F⟩;rw[e]at F;have F:q∈d.q1::d.q2::ym o.ds:=F;rcases ae.mp F with rfl|F
 .exact⟨(wq hp.hs.r I).symm,(wq hp.hs.w I).symm⟩
 .rcases ae.mp F with rfl|F
  .exact⟨(wq hp.hs.r G).symm,(wq hp.hs.w G).symm⟩
  .exact h.q1 q F
theorem VH.places {CR CT CNR CB CO:Aj}{pa:Aj}{t b:Int}(v:VH C CR CW H o (a::as)){NM:List Str}(nm:Nam NM a)(lN:NM.length<=100)(lD:o.ds.length<=10000)(nn:zj n=true)(ln:n.length<=1000)(en:a.ws n=none)(er:a.rs wh=some hs)(fp:H pa=some (.tup [.int t,.int b]))(b1:1<=b)(sm:Sm 8000 b)(hp:HPt hs (xv t b))(k:∀H' o',Nxt H o o'->VH C CR CW H' o' (a.putW n ⟨wh,xv t b,[([.inl (xv t b).1,.inl (xv t b).2],.int 1)]⟩::a::as)->Kb [o.dr,o.dw,o.dd] H H'->Q .non H'):Ww K C CR CW CN CT CNR CB CO [.ref o.x,.str n,.str wh,.ref pa] H Q E:=by
 obtain⟨r,I,S⟩:=v.rep.road er;have L:=v.rep.noW en;have ab:=v.lens nm;refine⟨o.x,o.dr,o.dw,o.dd,pa,o.R,o.W,_,n,wh,t,b,rfl,v.h.hs,⋯,⋯,by rw[j0];lia,ln,fp,(λz=>by rw[nn]at z;cases z),(λ_ z=>by rw[L]at z;cases z),λ_ _=>⟨(λz=>by rw[I]at z;cases z),λu G=>?_⟩⟩;rw[I]at G;cases G;refine⟨r,hs,rfl,S,hp.1,(λz=>absurd z ⋯),λ_=>⟨sm,(λz=>absurd z (by have:=hp.2.2;lia)),λ_=>⟨(λz=>absurd hp.2.1.2.2.2 z),λ_ H' p t' J=>?_⟩⟩⟩;have F:=hp.rng;obtain⟨o',U,O,Z⟩:=v.walk (w:=⟨wh,xv t b,[([.inl (xv t b).1,.inl (xv t b).2],.int 1)]⟩) J (TmOk.one F.1 F.2.1 F.2.2.1 F.2.2.2) er hp;exact k H' o' U O Z
def yg (c:Key×V):Str:=match c.1 with | .inr n=>n | .inl _ => ""
theorem yr (nd:(W.map (·.1)).Nodup)(h:RefsF (wp W)):W.map (·.1)=(W.map yg).map Sum.inr/\(W.map yg).Nodup:=by
 have e:W.map (·.1)=(W.map yg).map Sum.inr:=by rw[bq];refine bX λc F=>?_;obtain⟨n,_,e,_⟩:=h _ _ (jq nd F);show c.1=Sum.inr (yg c);unfold yg;rw[e]
 refine⟨e,?_⟩;rw[e]at nd;exact(bL.mp nd).imp λ{x y} hxy z=>hxy (by rw[z])
noncomputable def AH.tog (a:AH) (whose:Str) (hs:List Int) (m:Nat) (tv:Str->List (List Key×V)):AH:={ a with ws:=λn=>match a.ws n with|none=>none|some w=>if w.wh=whose then some ⟨whose,itP hs w.pt m,tv n⟩ else some w }
theorem VH.togs {CR CC:Aj}{m:Int}(v:VH C CR CW H o (a::as)){NM:List Str}(nm:Nam NM a)(lN:NM.length<60)(lD:o.ds.length<=10000)(er:a.rs whose=some hs)(wi:Within m 0 (some 1000000000000000000000000000000000000000000000000000000000000))(k:∀l H' o' tv,Nxt H o o'->VH C CR CW H' o' (a.tog whose hs m.toNat tv::a::as)->(∀n w,a.ws n=some w->w.wh=whose->TmOk (tv n)/\ww2 hs w.pt m.toNat w.tv (tv n))->Kb [o.dr,o.dw,o.dd] H H'->H l=none->(∃(ms:List Str) (ys:List V),ms.Nodup/\(∀n,n∈ms↔∃w,a.ws n=some w/\w.wh=whose)/\ms.Pairwise (λx y=>¬ y.cps.toList<x.cps.toList)/\H' l=some (.lst ys)/\ys.length=ms.length/\∀(j:Nat) n,ms[j]?=some n->∃q p w,a.ws n=some w/\ys[j]?=some (.ref q)/\H' q=some (.tup [.str n,.ref p])/\H' p=some (.tup [.int (itP hs w.pt m.toNat).1,.int (itP hs w.pt m.toNat).2]))->Q (.ref l) H'):qxs C CR CW CN CC [.ref o.x,.str whose,.int m] H Q E:=by
 obtain⟨r,a9,ra⟩:=v.rep.road er;have b0:=v.lens nm;refine⟨o.x,o.dr,o.dw,o.dd,o.R,o.W,_,whose,m,rfl,v.h.hs,⋯,by rw[j0];lia,(λz=>by rw[a9]at z;cases z),λu eu=>?_⟩;rw[a9]at eu;cases eu;refine⟨r,hs,rfl,ra,(λz=>absurd wi z),λ_=>?_⟩;obtain⟨ek,a3⟩:=yr v.h.nW v.h.fW;have an:∀n,n∈o.W.map yg↔∃w,a.ws n=some w:=λn=>by
  have:n∈o.W.map yg↔(Sum.inr n:Key)∈o.W.map (·.1):=by
   rw[ek];exact⟨λh=>ar.mpr ⟨n,h,rfl⟩,λh=>by
    obtain⟨n',h',e⟩:=ar.mp h
    have e:n'=n:=by injection e
    rw[<-e];exact h'⟩
  rw[this];constructor
  .intro h;obtain⟨c,S,e⟩:=ar.mp h;have:=jq v.h.nW S;rw[e]at this;cases e2:a.ws n with
   |none=>rw[v.rep.noW e2]at this;cases this
   |some w=>exact⟨w,rfl⟩
  .rintro⟨w,e⟩;obtain⟨y,p,t,G,_⟩:=v.rep.wk e;exact ar.mpr ⟨_,qws G,rfl⟩
 refine⟨o.W.map yg,λn=>match a.ws n with | some w=>w.wh | none => "",λn=>match a.ws n with | some w=>w.pt | none=>(0,0),λn=>match a.ws n with | some w=>w.tv | none=>[],⟨ek,⋯,a3,λn O=>?_⟩,λn O hw=>?_,λH' l cs ms ys pm bk g ec hG nl fl ly hy=>?_⟩
 .obtain⟨w,e⟩:=(an n).mp O;obtain⟨y,p,t,G,J⟩:=v.rep.wk e;simp only[e];exact⟨(v.rep.ok.wo n w e).1,y,p,t,G,J⟩
 .obtain⟨w,e⟩:=(an n).mp O;simp only[e]at hw ⊢;obtain⟨_,bm,ab,hp⟩:=v.rep.ok.wo n w e;rw[hw,er]at ab;cases ab;exact hp
 .have Z:∀n,n∈(ms.filter λs=>decide (V.str (match a.ws s with | some w=>w.wh | none => "")=V.str whose))↔∃w,a.ws n=some w/\w.wh=whose:=λn=>by
   rw[bj,pm.mem_iff,an];constructor
   .rintro⟨⟨w,e⟩,h⟩;simp only[e]at h;have h:=bM h;exact⟨w,e,by injection h⟩
   .rintro⟨w,e,h⟩;refine⟨⟨w,e⟩,?_⟩;simp[e,h]
  have bl:ms.Nodup:=pm.nodup_iff.mpr a3;have ah:=bl.filter λs=>decide (V.str (match a.ws s with | some w=>w.wh | none => "")=V.str whose);have a1:=bk.filter λs=>decide (V.str (match a.ws s with | some w=>w.wh | none => "")=V.str whose);generalize (ms.filter λs=>decide (V.str (match a.ws s with | some w=>w.wh | none => "")=V.str whose))=mf at ec Z ah a1;have a4:(cs.map (·.1)).Nodup:=by rw[ec];exact bL.mpr (ah.imp λ{x y} h z=>h (by injection z))
  have b1:cs.length=mf.length:=by have:=bu List.length ec;rwa [aa,aa]at this
  have bt:mf.length<=o.W.length:=by have:=Wy mf (o.W.map yg) ah λn O=>(an n).mpr (by obtain⟨w,e,_⟩:=(Z n).mp O;exact⟨w,e⟩);rwa [aa]at this
  have bp:∀n w,a.ws n=some w->w.wh=whose->∃y p t tv,wp cs (.inr n)=some (.ref y)/\WkAt CW H' y whose p (itP hs w.pt m.toNat) t tv/\TmOk tv/\ww2 hs w.pt m.toNat w.tv tv:=λn w e h=>by
   have hk:(Sum.inr n:Key)∈cs.map (·.1):=by rw[ec];exact ar.mpr ⟨n,(Z n).mpr ⟨w,e,h⟩,rfl⟩
   obtain⟨c,S,bf⟩:=ar.mp hk;have ev:=jq a4 S;obtain⟨s,_,_,es,y,p,t,tv,G,J,tm,a7⟩:=hG c S;have:s=n:=by rw[es]at bf;injection bf
   subst this;simp only[e]at J a7;rw[es,G]at ev;exact⟨y,p,t,tv,ev,J,tm,a7⟩
  have a2:∀n,(∀w,a.ws n=some w->w.wh≠whose)->wp cs (.inr n)=none:=λn h=>Yu λz=>by
   rw[ec]at z;obtain⟨n',a6,e⟩:=ar.mp z;have e:n'=n:=by injection e
   rw[e]at a6;obtain⟨w,I,hw⟩:=(Z n).mp a6;exact h w I hw
  obtain⟨tv,a0⟩:∃tv:Str->List (List Key×V),∀n w,a.ws n=some w->w.wh=whose->∃y p t,wp cs (.inr n)=some (.ref y)/\WkAt CW H' y whose p (itP hs w.pt m.toNat) t (tv n)/\TmOk (tv n)/\ww2 hs w.pt m.toNat w.tv (tv n):=by
   refine⟨λn=>Classical.epsilon λtv=>∃w y p t,a.ws n=some w/\wp cs (.inr n)=some (.ref y)/\WkAt CW H' y whose p (itP hs w.pt m.toNat) t tv/\TmOk tv/\ww2 hs w.pt m.toNat w.tv tv,λn w e h=>?_⟩;have ex:∃tv,∃w y p t,a.ws n=some w/\wp cs (.inr n)=some (.ref y)/\WkAt CW H' y whose p (itP hs w.pt m.toNat) t tv/\TmOk tv/\ww2 hs w.pt m.toNat w.tv tv:=by obtain⟨y,p,t,tv,r⟩:=bp n w e h;exact⟨tv,w,y,p,t,e,r⟩
   obtain⟨w',y,p,t,F,r⟩:=Classical.epsilon_spec ex;rw[e]at F;cases F;exact⟨y,p,t,r⟩
  have rc:Qr cs:=λc S=>by obtain⟨s,_,_,es,y,_,_,_,G,_⟩:=hG c S;exact⟨s,es,.inr ⟨y,G⟩⟩
  obtain⟨o',nx,v',kb⟩:=v.did (a':=a.tog whose hs m.toNat tv) g aX a4 (aA _) ⋯ Zw rc qxm (λc S O=>by
   obtain⟨s,_,_,es,y,_,_,_,G,_⟩:=hG c S
   rw[G]at O;cases O) λkb=>by
   have rp:=v.rep.dl v.h.dl kb;refine⟨rp.r,λn=>?_,rp.ok.lo,λn w' F=>?_⟩
   .show WRep CW H' (ovr (wp o.W) cs (.inr n)) (match a.ws n with|none=>none|some w=>if w.wh=whose then some ⟨whose,itP hs w.pt m.toNat,tv n⟩ else some w);have ad:=rp.w n;cases e:a.ws n with
    |none =>
     rw[e]at ad;unfold ovr;rw[a2 n (λw I=>by rw[e]at I;cases I)];exact ad
    |some w =>
     rw[e]at ad;show WRep CW H' (ovr (wp o.W) cs (.inr n)) (if w.wh=whose then some ⟨whose,itP hs w.pt m.toNat,tv n⟩ else some w);by_cases h:w.wh=whose
     .rw[ak h];obtain⟨y,p,t,ev,J,_⟩:=a0 n w e h;unfold ovr;rw[ev];exact⟨y,p,t,rfl,J⟩
     .rw[ag h];unfold ovr;rw[a2 n (λw' I=>by rw[e]at I;cases I;exact h)];exact ad
   .have F:(match a.ws n with|none=>none|some w=>if w.wh=whose then some ⟨whose,itP hs w.pt m.toNat,tv n⟩ else some w)=some w':=F;cases e:a.ws n with
    |none=>rw[e]at F;cases F
    |some w =>
     rw[e]at F;have F:(if w.wh=whose then some ⟨whose,itP hs w.pt m.toNat,tv n⟩ else some w)=some w':=F;by_cases h:w.wh=whose
     .rw[ak h]at F;cases F;obtain⟨_,_,_,_,_,tm,_⟩:=a0 n w e h;obtain⟨_,bm,ab,hp⟩:=rp.ok.wo n w e;rw[h,er]at ab;cases ab;exact⟨tm,hs,er,hp.it _⟩
     .rw[ag h]at F;have F:w=w':=by injection F
      rw[<-F];exact rp.ok.wo n w e
  refine k l H' o' tv nx v' (λn w e h=>by obtain⟨_,_,_,_,_,r⟩:=a0 n w e h;exact r) kb nl ⟨mf,ys,ah,Z,a1,fl,⋯,λj n en=>?_⟩;have hj:j<mf.length:=(aI.mp en).1;have ej:ys[j]?=some (ys[j]'⋯):=aj ⋯;obtain⟨kv,q,y,p,pt,t,bs,bb,eq,fq,G,J⟩:=hy j _ ej;have bo:=aK bb;obtain⟨s,_,b2,es,y2,p2,t2,br,a8,ap,_⟩:=hG kv bo;have:s=n:=by
   have U:(cs.map (·.1))[j]?=some kv.1:=by rw[aB,bb];rfl
   rw[ec,aB,en]at U;have U:(Sum.inr n:Key)=kv.1:=by injection U
   rw[es]at U;injection U with U
   exact U.symm
  subst this;obtain⟨w,I,hw⟩:=(Z s).mp (aK en);simp only[I]at ap;rw[G]at a8;cases a8;have ep:p2=p:=by obtain⟨dx,ob⟩:=J.ob;obtain⟨b3,L⟩:=ap.ob;rw[ob]at L;injection L with L;injection L with _ _ L;unfold wF at L;simp at L;exact L.1.symm
  subst ep;rw[es]at fq;exact⟨q,p2,w,I,by rw[ej,eq],fq,ap.pt⟩
def AH.nil:AH:=⟨λ_=>none,λ_=>none⟩
theorem VH.nil {CR:Aj}{x:Aj}(h:Hse C H x dr dw dd [] [] []):VH C CR CW H ⟨x,dr,dw,dd,[],[],[]⟩ [AH.nil] :=
 ⟨⟨h,(λd hd=>nomatch hd),(λq hq=>nomatch hq),trivial,aX,aX,(λm v e=>nomatch e),(λm v e=>nomatch e)⟩,⟨⟨(λ_=>rfl),(λ_=>rfl),⟨(λ_ _ e=>nomatch e),(λ_ _ e=>nomatch e)⟩⟩,.inl ⟨rfl,rfl⟩⟩⟩
theorem Rep.putR {CR:Aj}{f g:Key->Option V}(h:Rep CR CW H f g a){n:Str}{hs:List Int}{r:Aj}(ra:RoadAt CR H r hs)(lo:xm hs)(hw:∀m w,a.ws m=some w->w.wh=n->HPt hs w.pt):Rep CR CW H (ovr f [(.inr n,.ref r)]) (ovr g []) (a.putR n hs):=by
 refine⟨λm=>?_,h.w,λm F e=>?_,λm w e=>?_⟩
 .rw[qw9];show RRep CR H _ (if m=n then some hs else a.rs m);by_cases z:m=n
  .rw[ak z,ak (by rw[z]),ag (λq=>by cases q)];exact⟨r,rfl,ra⟩
  .rw[ag z,ag (λq=>z (by injection q))];exact h.r m
 .have e:(if m=n then some hs else a.rs m)=some F:=e;by_cases z:m=n
  .rw[ak z]at e;cases e;exact lo
  .rw[ag z]at e;exact h.ok.lo m F e
 .obtain⟨G,F,J,I⟩:=h.ok.wo m w e;by_cases z:w.wh=n
  .exact⟨G,hs,ak z,hw m w e z⟩
  .exact⟨G,F,(ag z).trans J,I⟩
theorem VH.road {CR:Aj}(v:VH C CR CW H o (a::as)){n:Str}{hs:List Int}(g:RDeed C CR H H' o.x o.dr o.dw o.dd o.R o.W (Q7 o.ds) n hs)(lo:xm hs)(hw:∀m w,a.ws m=some w->w.wh=n->HPt hs w.pt):∃o',Nxt H o o'/\VH C CR CW H' o' (a.putR n hs::a::as)/\Kb [o.dr,o.dw,o.dd] H H':=by obtain⟨r,I,F⟩:=g.g;exact v.did I qyr aX (show 1<=1000 by decide) (aA _) wq9 Zw xw9 qxm λG=>(v.rep.dl v.h.dl G).putR F lo hw
theorem VH.lays {CR CT CL:Aj}(v:VH C CR CW H o (a::as)){NM:List Str}(nm:Nam NM a)(lN:NM.length<=100)(lD:o.ds.length<=10000)(nn:zj n=true)(ln:n.length<=1000)(en:a.rs n=none)(fp:H p=some (.lst (hs.map V.int)))(lo:xm hs)(k:∀H' o',Nxt H o o'->VH C CR CW H' o' (a.putR n hs::a::as)->Kb [o.dr,o.dw,o.dd] H H'->Q .non H'):qx2 K C CR CN CT CL [.ref o.x,.str n,.ref p] H Q E:=by
 have G:=v.rep.noR en;have U:=v.lens nm;refine⟨o.x,o.dr,o.dw,o.dd,p,o.R,o.W,_,n,hs,rfl,v.h.hs,u8 _,⋯,⋯,by rw[j0];lia,ln,fp,λ_ _ _ H' J=>?_,(λz=>by rw[nn]at z;cases z),(λ_ z=>by rw[G]at z;cases z),λ_ _ z=>absurd lo z⟩;obtain⟨o',L,I,O⟩:=v.road J lo λm w e S=>by obtain⟨_,Z,F,_⟩:=v.rep.ok.wo m w e;rw[S,en]at F;cases F
 exact k H' o' L I O
theorem qvf:∀ {l m:List Str},l.Nodup->m.Nodup->(∀x,x∈l↔x∈m)->l.Pairwise (λx y=>¬ y.cps.toList<x.cps.toList)->m.Pairwise (λx y=>¬ y.cps.toList<x.cps.toList)->l=m
 |[],[],_,_,_,_,_=>rfl
 |[],y::m,_,_,h,_,_=>absurd ((h y).mpr (aw ..)) af
 |x::l,[],_,_,h,_,_=>absurd ((h x).mp (aw ..)) af
 |x::l,y::m,n1,n2,h,p1,p2=>by
  obtain⟨a1,m1⟩:=bc.mp n1;obtain⟨a2,m2⟩:=bc.mp n2;obtain⟨b1,q1⟩:=dM.mp p1;obtain⟨b2,q2⟩:=dM.mp p2;have exy:x=y:=by
   rcases ae.mp ((h x).mp (aw ..)) with z|z
   .exact z
   .rcases ae.mp ((h y).mpr (aw ..)) with w|w
    .exact w.symm
    .have e:=List.le_antisymm (as:=x.cps.toList) (bs:=y.cps.toList) (b1 y w) (b2 x z);cases x;cases y;simpa using e
  subst exy;have:l=m:=qvf m1 m2 (λz=>by
   have F:=h z
   simp only[ae]at F
   constructor
   .intro I
    rcases F.mp (.inr I) with w|w
    .exact absurd (w▸I) a1
    .exact w
   .intro G
    rcases F.mpr (.inr G) with w|w
    .exact absurd (w▸G) a2
    .exact w) q1 q2
  rw[this]
theorem u9 (nd:(W.map (·.1)).Nodup)(h:RefsF (wp W))(n:Str):n∈W.map yg↔(wp W (.inr n)).isSome=true:=by
 have J:=(yr nd h).1;have:n∈W.map yg↔(Sum.inr n:Key)∈W.map (·.1):=by
  rw[J];exact⟨λh=>ar.mpr ⟨n,h,rfl⟩,λh=>by
   obtain⟨F,h',e⟩:=ar.mp h
   have e:F=n:=by injection e
   rw[<-e];exact h'⟩
 rw[this];constructor
 .intro h;obtain⟨c,G,e⟩:=ar.mp h;have:=jq nd G;rw[e]at this;rw[this];rfl
 .intro h;obtain⟨u,I⟩:=az.mp h;exact ar.mpr ⟨_,qws I,rfl⟩
structure BA where
 rs:Str->Option (List Int)
 ws:Str->Option (Str×(Int×Int))
def AH.bk (a:AH):BA:=⟨a.rs,λn=>(a.ws n).map λw=>(w.wh,w.pt)⟩
inductive Dd
 |lay (n:Str) (hs:List Int)
 |bend (n:Str) (c h:Int)
 |widen (n:Str) (h:Int)
 |narrow (n:Str)
 |clear (n:Str)
 |place (n wh:Str) (t b:Int)
 |leave (n:Str)
 |go (n:Str) (m:Int)
 |tog (n:Str) (m:Int)
 |back (n:Str)
inductive Ans
 |non
 |pt (p:Int×Int)
 |lst (l:List (Str×(Int×Int)))
def BA.putR (b:BA)(n:Str)(hs:List Int):BA:={ b with rs:=λm=>if m=n then some hs else b.rs m }
def BA.delR (b:BA)(n:Str):BA:={ b with rs:=λm=>if m=n then none else b.rs m }
def BA.putW (b:BA)(n:Str)(w:Str×(Int×Int)):BA:={ b with ws:=λm=>if m=n then some w else b.ws m }
def BA.delW (b:BA)(n:Str):BA:={ b with ws:=λm=>if m=n then none else b.ws m }
def BA.tog (b:BA)(wh:Str)(hs:List Int)(m:Nat):BA:={ b with ws:=λn=>match b.ws n with|none=>none|some w=>if w.1=wh then some (wh,itP hs w.2 m) else some w }
def OnL (b:BA)(wh:Str)(ms:List Str):Prop:=ms.Nodup/\(∀n,n∈ms↔∃pt,b.ws n=some (wh,pt))/\ms.Pairwise (λx y=>¬ y.cps.toList<x.cps.toList)
noncomputable def onL (b:BA) (wh:Str):List Str:=Classical.epsilon (OnL b wh)
variable {b:BA}
theorem xqg (h:OnL b wh ms):onL b wh=ms:=by have g:OnL b wh (onL b wh):=Classical.epsilon_spec ⟨ms,h⟩;exact qvf g.1 h.1 (λn=>(g.2.1 n).trans (h.2.1 n).symm) g.2.2 h.2.2
noncomputable def qyx (b:BA) (wh:Str) (hs:List Int) (m:Nat):List (Str×(Int×Int)):=(onL b wh).map λn=>(n,itP hs ((b.ws n).getD ("",(0,0))).2 m)
def qyk:Int:=1000000000000000000000000000000000000000000000000000000000000
def Bey (b:BA)(n:Str)(wd:Int):Prop:=∃s pt,b.ws s=some (n,pt)/\wd*pt.2<pt.1
open Classical in
noncomputable def xq (b:BA):Dd->Str×Ans×BA
 |.lay n hs=>if zj n=false then("name",.non,b) else if(b.rs n).isSome=true then("taken",.non,b) else if xm hs then("",.non,b.putR n hs) else("line",.non,b)
 |.bend n c h=>match b.rs n with
  |none=>("road",.non,b)
  |some hs=>if 0<=c/\c<(hs.length:Int)/\xm (hs.set c.toNat h) then("",.non,b.putR n (hs.set c.toNat h)) else("line",.non,b)
 |.widen n h=>match b.rs n with
  |none=>("road",.non,b)
  |some hs=>if xm (hs++[h]) then("",.non,b.putR n (hs++[h])) else("line",.non,b)
 |.narrow n=>match b.rs n with
  |none=>("road",.non,b)
  |some hs=>if xm hs.dropLast then(if Bey b n ((hs.dropLast.length:Int)-1) then("stood",.non,b) else("",.non,b.putR n hs.dropLast)) else("line",.non,b)
 |.clear n=>match b.rs n with
  |none=>("road",.non,b)
  |some _=>if Bey b n (-1) then("stood",.non,b) else("",.non,b.delR n)
 |.place n wh t p=>if zj n=false then("name",.non,b) else if(b.ws n).isSome=true then("taken",.non,b) else match b.rs wh with
  |none=>("road",.non,b)
  |some hs=>if p<1\/40<(xv t p).2 then("bottom",.non,b) else if vf hs t p then("",.non,b.putW n (wh,xv t p)) else("off",.non,b)
 |.leave n=>match b.ws n with
  |none=>("walker",.non,b)
  |some _=>("",.non,b.delW n)
 |.go n m=>match b.ws n with
  |none=>("walker",.non,b)
  |some w=>if 0<=m/\m<=qyk then("",.pt (itP ((b.rs w.1).getD []) w.2 m.toNat),b.putW n (w.1,itP ((b.rs w.1).getD []) w.2 m.toNat)) else("count",.non,b)
 |.tog n m=>match b.rs n with
  |none=>("road",.non,b)
  |some hs=>if 0<=m/\m<=qyk then("",.lst (qyx b n hs m.toNat),b.tog n hs m.toNat) else("count",.non,b)
 |.back _=>("",.non,b)
structure BOk (NM:List Str)(b:BA):Prop where
 lo:∀n hs,b.rs n=some hs->xm hs/\zj n=true/\n∈NM
 wo:∀n w,b.ws n=some w->zj n=true/\n∈NM/\∃hs,b.rs w.1=some hs/\HPt hs w.2
theorem BOk.mono {NM':List Str}(h:BOk NM b)(s:∀n∈NM,n∈NM'):BOk NM' b:=⟨λn hs e=>let ⟨a,c,d⟩:=h.lo n hs e;⟨a,c,s _ d⟩,λn w e=>let ⟨a,c,d⟩:=h.wo n w e;⟨a,s _ c,d⟩⟩
theorem BOk.nil:BOk NM AH.nil.bk:=⟨(λn hs e=>nomatch e),(λn w e=>nomatch e)⟩
theorem BOk.putR (h:BOk NM b){n:Str}{hs:List Int}(lo:xm hs)(nn:zj n=true)(hn:n∈NM)(hw:∀m w,b.ws m=some w->w.1=n->HPt hs w.2):BOk NM (b.putR n hs):=by
 refine⟨λm ks e=>?_,λm w e=>?_⟩
 .have e:(if m=n then some hs else b.rs m)=some ks:=e;by_cases z:m=n
  .rw[ak z]at e;cases e;rw[z];exact⟨lo,nn,hn⟩
  .rw[ag z]at e;exact h.lo m ks e
 .obtain⟨a,c,ks,G,F⟩:=h.wo m w e;refine⟨a,c,?_⟩;by_cases z:w.1=n
  .exact⟨hs,ak z,hw m w e z⟩
  .exact⟨ks,(ag z).trans G,F⟩
theorem BOk.delR (h:BOk NM b){n:Str}(hw:∀m w,b.ws m=some w->w.1≠n):BOk NM (b.delR n):=by
 refine⟨λm ks e=>?_,λm w e=>?_⟩
 .have e:(if m=n then none else b.rs m)=some ks:=e;by_cases z:m=n
  .rw[ak z]at e;cases e
  .rw[ag z]at e;exact h.lo m ks e
 .obtain⟨a,c,ks,G,F⟩:=h.wo m w e;exact⟨a,c,ks,(ag (hw m w e)).trans G,F⟩
theorem BOk.putW (h:BOk NM b){n:Str}{w:Str×(Int×Int)}(nn:zj n=true)(hn:n∈NM){hs:List Int}(er:b.rs w.1=some hs)(hp:HPt hs w.2):BOk NM (b.putW n w):=by
 refine⟨h.lo,λm F e=>?_⟩;have e:(if m=n then some w else b.ws m)=some F:=e;by_cases z:m=n
 .rw[ak z]at e;cases e;rw[z];exact⟨nn,hn,hs,er,hp⟩
 .rw[ag z]at e;exact h.wo m F e
theorem BOk.delW (h:BOk NM b)(n:Str):BOk NM (b.delW n):=by
 refine⟨h.lo,λm F e=>?_⟩;have e:(if m=n then none else b.ws m)=some F:=e;by_cases z:m=n
 .rw[ak z]at e;cases e
 .rw[ag z]at e;exact h.wo m F e
theorem BOk.tog (h:BOk NM b){wh:Str}{hs:List Int}(er:b.rs wh=some hs)(m:Nat):BOk NM (b.tog wh hs m):=by
 refine⟨h.lo,λn G e=>?_⟩;have e:(match b.ws n with|none=>none|some w=>if w.1=wh then some (wh,itP hs w.2 m) else some w)=some G:=e;cases ew:b.ws n with
 |none=>rw[ew]at e;cases e
 |some w =>
  rw[ew]at e;have e:(if w.1=wh then some (wh,itP hs w.2 m) else some w)=some G:=e;obtain⟨a,c,ks,F,I⟩:=h.wo n w ew;by_cases z:w.1=wh
  .rw[ak z]at e;cases e;rw[z,er]at F;cases F;exact⟨a,c,hs,er,I.it m⟩
  .rw[ag z]at e;cases e;exact⟨a,c,ks,F,I⟩
theorem AOk.bk (h:BOk NM a.bk):Nam NM a:=⟨λn e=>by
 cases er:a.rs n with
 |none=>rw[er]at e;cases e
 |some hs=>exact(h.lo n hs er).2.2,λn e=>by
 cases ew:a.ws n with
 |none=>rw[ew]at e;cases e
 |some w=>exact(h.wo n (w.wh,w.pt) (by show(a.ws n).map _=_;rw[ew];rfl)).2.1⟩
theorem xxt {t b:Int}(hb:1<=b):vf hs (xv t b).1 (xv t b).2↔vf hs t b:=by
 have c:=qjw (t:=t) hb;have G:1<=(xv t b).2:=Zj hb;unfold vf;generalize (xv t b).1=p at c;generalize (xv t b).2=q at c G;constructor
 .rintro⟨F,h1⟩;refine⟨?_,?_⟩
  .by_cases z:0<=t
   .exact z
   .exfalso;have a:=dz F (show 0<=b by lia);have b':=fF (show t<0 by lia) (show 0<q by lia)
    first | (rw[c]at a;lia) | (rw[<-c]at a;lia) | grind
  .by_cases z:t<=((hs.length:Int)-1)*b
   .exact z
   .exfalso;have a:=aN h1 (show 0<=b by lia);have b':=fh (show((hs.length:Int)-1)*b<t by lia) (show 0<q by lia);grind
 .rintro⟨F,h1⟩;refine⟨?_,?_⟩
  .by_cases z:0<=p
   .exact z
   .exfalso;have a:=dz F (show 0<=q by lia);have b':=fF (show p<0 by lia) (show 0<b by lia);grind
  .by_cases z:p<=((hs.length:Int)-1)*q
   .exact z
   .exfalso;have a:=aN h1 (show 0<=q by lia);have b':=fh (show((hs.length:Int)-1)*q<p by lia) (show 0<b by lia);grind
def Dd.nm:Dd->Str
 |.lay n _=>n
 |.bend n _ _=>n
 |.widen n _=>n
 |.narrow n=>n
 |.clear n=>n
 |.place n _ _ _=>n
 |.leave n=>n
 |.go n _=>n
 |.tog n _=>n
 |.back n=>n
theorem wjd {t p:Int}(lo:xm hs)(hp:1<=p)(l:(xv t p).2<=40)(on:vf hs t p):HPt hs (xv t p):=⟨lo,⟨(qx1 hp on).1,gw _,(qx1 hp on).2.2⟩,l⟩
theorem qqy {pt:Int×Int}(h:HPt hs pt):0<=pt.1/\pt.1<=((hs.length:Int)-1)*pt.2:=⟨h.2.1.2.2.2.1,h.2.1.2.2.2.2⟩
theorem Qs {ks:List Int}{pt:Int×Int}(h:HPt hs pt)(lo:xm ks)(l:pt.1<=((ks.length:Int)-1)*pt.2):HPt ks pt:=⟨lo,⟨h.2.1.1,h.2.1.2.1,h.2.1.2.2.1,h.2.1.2.2.2.1,l⟩,h.2.2⟩
set_option tactic.hygienic true in
theorem xz9 (h:BOk NM b){d:Dd}(hn:d.nm∈NM){w:Str}{ans:Ans}{b':BA}(e:xq b d=(w,ans,b')):BOk NM b':=by
 cases d with
 |lay n hs =>
  simp only[xq]at e;split at e
  .cases e;exact h
  .rename_i nn;split at e
   .cases e;exact h
   .rename_i nt;split at e
    .rename_i lo;cases e;refine h.putR lo (by simpa using nn) hn λm v ev hv=>?_;obtain⟨_,_,ks,er,_⟩:=h.wo m v ev;rw[hv]at er;rw[er]at nt;exact absurd rfl nt
    .cases e;exact h
 |bend n c x =>
  simp only[xq]at e;cases er:b.rs n with
  |none=>rw[er]at e;cases e;exact h
  |some hs =>
   rw[er]at e;dsimp only at e;split at e
   .rename_i hc;cases e;refine h.putR hc.2.2 (h.lo n hs er).2.1 hn λm v ev hv=>?_;obtain⟨_,_,ks,er',hp⟩:=h.wo m v ev;rw[hv,er]at er';cases er';exact Qs hp hc.2.2 (by rw[cP];exact(qqy hp).2)
   .cases e;exact h
 |widen n x =>
  simp only[xq]at e;cases er:b.rs n with
  |none=>rw[er]at e;cases e;exact h
  |some hs =>
   rw[er]at e;dsimp only at e;split at e
   .rename_i hc;cases e;refine h.putR hc (h.lo n hs er).2.1 hn λm v ev hv=>?_;obtain⟨_,_,ks,er',hp⟩:=h.wo m v ev;rw[hv,er]at er';cases er';refine Qs hp hc ?_;have:=qqy hp;have q1:=hp.2.1.1;rw[aE];push_cast;have:((hs.length:Int)-1)*v.2.2<=((hs.length:Int)+(([x]:List Int).length:Int)-1)*v.2.2:=aN (by show(hs.length:Int)-1<=(hs.length:Int)+1-1;lia) ⋯;lia
   .cases e;exact h
 |narrow n =>
  simp only[xq]at e;cases er:b.rs n with
  |none=>rw[er]at e;cases e;exact h
  |some hs =>
   rw[er]at e;dsimp only at e;split at e
   .rename_i lo;split at e
    .cases e;exact h
    .rename_i nb;cases e;refine h.putR lo (h.lo n hs er).2.1 hn λm v ev hv=>?_;obtain⟨_,_,ks,er',hp⟩:=h.wo m v ev;refine Qs hp lo ?_;by_cases z:v.2.1<=((hs.dropLast.length:Int)-1)*v.2.2
     .exact z
     .exact absurd ⟨m,v.2,by rw[ev,<-hv],⋯⟩ nb
   .cases e;exact h
 |clear n =>
  simp only[xq]at e;cases er:b.rs n with
  |none=>rw[er]at e;cases e;exact h
  |some hs =>
   rw[er]at e;dsimp only at e;split at e
   .cases e;exact h
   .rename_i nb;cases e;refine h.delR λm v ev hv=>nb ⟨m,v.2,by rw[ev,<-hv],?_⟩;obtain⟨_,_,ks,er',hp⟩:=h.wo m v ev;have a:=(qqy hp).1;have c:=hp.2.1.1;lia
 |place n wh t p =>
  simp only[xq]at e;split at e
  .cases e;exact h
  .rename_i nn;split at e
   .cases e;exact h
   .cases er:b.rs wh with
    |none=>rw[er]at e;cases e;exact h
    |some hs =>
     rw[er]at e;dsimp only at e;split at e
     .cases e;exact h
     .rename_i nb;split at e
      .rename_i on;cases e;exact h.putW (w:=(wh,xv t p)) (by simpa using nn) hn er (wjd (h.lo wh hs er).1 ⋯ ⋯ on)
      .cases e;exact h
 |leave n =>
  simp only[xq]at e;cases er:b.ws n with
  |none=>rw[er]at e;cases e;exact h
  |some v=>rw[er]at e;cases e;exact h.delW n
 |go n m =>
  simp only[xq]at e;cases er:b.ws n with
  |none=>rw[er]at e;cases e;exact h
  |some v =>
   rw[er]at e;dsimp only at e;split at e
   .cases e;obtain⟨a,c,hs,er',hp⟩:=h.wo n v er;rw[er'];exact h.putW (w:=(v.1,itP hs v.2 m.toNat)) a hn er' (hp.it _)
   .cases e;exact h
 |tog n m =>
  simp only[xq]at e;cases er:b.rs n with
  |none=>rw[er]at e;cases e;exact h
  |some hs =>
   rw[er]at e;dsimp only at e;split at e
   .cases e;exact h.tog er _
   .cases e;exact h
 |back n =>
  simp only[xq]at e;cases e;exact h
def DdAt (H:Hp)(a:Aj):Dd->Prop
 |.lay n hs=>∃p,H a=some (.tup [.int 0,.str n,.ref p])/\H p=some (.lst (hs.map V.int))/\2<=hs.length/\hs.length<=25/\n.length<=100
 |.bend n c h=>H a=some (.tup [.int 1,.str n,.int c,.int h])
 |.widen n h=>H a=some (.tup [.int 2,.str n,.int h])
 |.narrow n=>H a=some (.tup [.int 3,.str n])
 |.clear n=>H a=some (.tup [.int 4,.str n])
 |.place n wh t p=>∃q,H a=some (.tup [.int 5,.str n,.str wh,.ref q])/\H q=some (.tup [.int t,.int p])/\n.length<=100/\(-1000000<=t/\t<=1000000)/\(-1000000<=p/\p<=1000000)
 |.leave n=>H a=some (.tup [.int 6,.str n])
 |.go n m=>H a=some (.tup [.int 7,.str n,.int m])
 |.tog n m=>H a=some (.tup [.int 8,.str n,.int m])
 |.back n=>H a=some (.tup [.int 9,.str n])
variable {d:Dd}
theorem DdAt.kb {a:Aj}(h:DdAt H a d){ch:List Aj}(dl:Dl H ch)(k:Kb ch H H'):DdAt H' a d:=by
 cases d with
 |lay n hs =>
  obtain⟨p,h1,h2,F,I⟩:=h;refine⟨p,dl.tup k h1,k _ _ (dl.other h2 (λ_ z=>by cases z) (λ_ _ z=>by cases z) λD G z=>?_) h2,F,I⟩;have z:hs.map V.int=D:=by injection z
  have m:V.int (hs[0]'⋯)∈hs.map V.int:=ar.mpr ⟨_,bH _,rfl⟩;rw[z]at m;obtain⟨x,e⟩:=G _ m;cases e
 |place n wh t p =>
  obtain⟨q,h1,h2,F⟩:=h;exact⟨q,dl.tup k h1,dl.tup k h2,F⟩
 |_=>exact dl.tup k h
theorem DdAt.same {a:Aj}(h:DdAt H a d)(s:Same H H'):DdAt H' a d:=h.kb (ch:=[]) Dl.nil (Kb.of s)
def PtG (p:Int×Int):Prop:=1<=p.2/\p.2<=40/\gOf p.1 p.2=1/\0<=p.1/\p.1<=960
theorem HPt.g {p:Int×Int}(h:HPt hs p):PtG p:=⟨h.2.1.1,h.2.2,h.2.1.2.2.1,h.rng.1,h.rng.2.1⟩
def AnsAt (H:Hp)(v:V):Ans->Prop
 |.non=>v=.non
 |.pt p=>∃a,v=.ref a/\H a=some (.tup [.int p.1,.int p.2])/\PtG p
 |.lst l=>∃a ys,v=.ref a/\H a=some (.lst ys)/\ys.length=l.length/\l.length<=1000/\∀(j:Nat) x,l[j]?=some x->∃q r,ys[j]?=some (.ref q)/\H q=some (.tup [.str x.1,.ref r])/\H r=some (.tup [.int x.2.1,.int x.2.2])/\PtG x.2/\zj x.1=true
def qw2 (C CW CN CS:Aj):Sp:=λvs H Q E=>∃(x dr dw dd:Aj) (R W:List (Key×V)) (D:List V) (n:Str) (ss:List Str) (wh:Str->Str) (ps:Str->Int×Int),vs=[.ref x,.str n]/\Hse C H x dr dw dd R W D/\R.length<=1000/\D.length<=1000000/\WksAt CW H W ss wh ps/\(wp R (.inr n)=none->E (.ref CN) none H) /\
 ((wp R (.inr n)).isSome=true->((∃s∈ss,wh s=n)->∀H',Same H H'->E (.ref CS) none H')/\((∀s∈ss,wh s≠n)->∀H',Zn C H H' x dr dw dd R W D [(.inr n,.non)] []->Q .non H'))
include T in
theorem xwr (F:Fun K "clear" "House.clear" zb9 f fd)(zag:↑MCal qq "road_called" 1 (v6 qq q8 true))(zbb:↑MCal qq "walkers_on" 1 (spOn qq qz))(zab:↑MCal qq "do" 2 (Jy qq)) :
  ↑FK 3 f fd ["self","name"] (qw2 qq qz q8 wy):=by
 have sc:=qxu;refine F.okX sc ⋯ λ_ _ _ s H vs Q E S h=>?_;obtain⟨x,dr,dw,dd,R,W,D,n,ss,wh,ps,rfl,J,lR,lD,hw,kx,k⟩:=h;obtain⟨dx,O⟩:=J.ob;refine⟨_,(qy (zx (xg (pv 0) T.clH zag (S.mono ⋯) qf (q9 (pv 1) qk)))
   (qy (x4 (wn y4 (xh x9 rfl T.len_ aF (k6 (xg (pv 0) T.clH zbb (S.mono ⋯) qf (q9 (pv 1) qk)) qk)) qc (wt _)) (qt (vz rfl T.zai zy rfl T.zdp (xu xn qk))) w9)
   (qt (zx (xg (pv 0) T.clH zab (S.mono ⋯) qf (x8 (Qc (ud (pv 1) jx Qu) rfl rfl (λz=>nomatch z) ⋯) (x8 km qk))))))),?_⟩
 refine⟨_,rfl,x,dx,_,rfl,O,xt,_,rfl,x,dr,dw,dd,R,W,D,n,rfl,J,λv e=>?_,kx⟩;have e:wp R (.inr n)=some v:=e;obtain⟨ks,kg⟩:=k (by rw[e];rfl);exists ⟨x,dx,exI rfl ⟨O,xt,exI rfl ⟨x,dr,dw,dd,R,W,D,n,ss,wh,ps,rfl,J,hw,λl H1 ms nl G pm _ fl=>?_⟩⟩⟩;refine⟨l,exI rfl ⟨.inl (SqL.of fl),xb rfl rfl (exI rfl (zn (λz=>?_) (λz=>?_)))⟩⟩
 .refine⟨sz1,ks ?_ H1 G⟩;cases ef:ms.filter λs=>decide (V.str (wh s)=V.str n) with
  |nil=>rw[ef]at z;exact absurd z ⋯
  |cons s r =>
   have hs:s∈ms.filter λs=>decide (V.str (wh s)=V.str n):=by rw[ef];exact aw ..
   obtain⟨h1,h2⟩:=bj.mp hs;have h2:=bM h2;exact⟨s,pm.mem_iff.mp h1,by cases h2;rfl⟩
 .have ad:=G _ _ O;exists ⟨x,dx,exI rfl ⟨ad,xt,λc1 n1=>(exI rfl ⟨qb,[(.inr n,.non)],rfl,(show 1<=15 by decide),λc2 I=>?_⟩)⟩⟩;have e0:uq [] [((Sum.inr n:Key),V.non)]=[((Sum.inr n:Key),V.non)]:=rfl;rw[e0,yn]at I ⊢;have U:c1≠c2:=λz=>by rw[<-z,qb]at I;cases I
  have ab:H1 c2=none:=by rw[<-I,wg (aZ U)]
  have Z:Same H1 (upd (upd H1 c1 (.dK [(.inr n,.non)])) c2 (.dK [])):=λb o e=>by rw[wg (wq e ab),wg (wq e n1)];exact e
  have f1:upd (upd H1 c1 (.dK [(.inr n,.non)])) c2 (.dK []) c1=some (.dK [(.inr n,.non)]):=by rw[wg U,qb]
  have f2:upd (upd H1 c1 (.dK [(.inr n,.non)])) c2 (.dK []) c2=some (.dK []):=qb;generalize upd (upd H1 c1 (.dK [(.inr n,.non)])) c2 (.dK [])=H4 at Z f1 f2;dsimp only [y0];have lW:W.length<=1000:=by have:=hw.2.1;lia
  refine wvy (E:=E) J (G.trans Z) (x6 G n1) (x6 G ab) f1 f2 U (bc.mpr ⟨af,aX⟩) aX lR lW (by show 1<=1000;decide) (aA _) lD (λi c L hc=>?_) (λi c L hc=>nomatch L) λH' gd _ _ _=>kg (λs hs1 ah=>z ?_) H' gd
  .cases i with
   |zero =>
    cases L;show(wp R (.inr n)).isSome=true;rw[e];rfl
   |succ i=>cases L
  .have hm:s∈ms.filter λs=>decide (V.str (wh s)=V.str n):=bj.mpr ⟨pm.mem_iff.mpr hs1,aT (by rw[ah])⟩;have:=dZ hm;show(0:Int)<_;rw[aa];lia
theorem Rep.rsome {CR:Aj}{f g:Key->Option V}(h:Rep CR CW H f g a)(n:Str):(f (.inr n)).isSome=(a.rs n).isSome:=by
 cases e:a.rs n with
 |none=>rw[h.noR e];rfl
 |some hs=>obtain⟨r,F,_⟩:=h.road e;rw[F];rfl
theorem Rep.wsome {CR:Aj}{f g:Key->Option V}(h:Rep CR CW H f g a)(n:Str):(g (.inr n)).isSome=(a.ws n).isSome:=by
 cases e:a.ws n with
 |none=>rw[h.noW e];rfl
 |some hs=>obtain⟨y,p,t,F,_⟩:=h.wk e;rw[F];rfl
theorem Wx {CR:Aj}{f g:Key->Option V}(h:Rep CR CW H f g a){n:Str}(e:f (.inr n)=none):a.rs n=none:=by
 have:=h.rsome n;rw[e]at this;cases e2:a.rs n with
 |none=>rfl
 |some _=>rw[e2]at this;cases this
theorem qw7 {CR:Aj}{f g:Key->Option V}(h:Rep CR CW H f g a){n:Str}{v:V}(e:f (.inr n)=some v):∃r hs,v=.ref r/\a.rs n=some hs/\RoadAt CR H r hs:=by
 cases e2:a.rs n with
 |none=>rw[h.noR e2]at e;cases e
 |some hs =>
  obtain⟨r,F,G⟩:=h.road e2;rw[e]at F;cases F;exact⟨r,hs,rfl,rfl,G⟩
theorem qwr {CR:Aj}{f g:Key->Option V}(h:Rep CR CW H f g a){n:Str}(e:g (.inr n)=none):a.ws n=none:=by
 have:=h.wsome n;rw[e]at this;cases e2:a.ws n with
 |none=>rfl
 |some _=>rw[e2]at this;cases this
theorem xzz {CR:Aj}{f g:Key->Option V}(h:Rep CR CW H f g a){n:Str}{v:V}(e:g (.inr n)=some v):∃y p t w,v=.ref y/\a.ws n=some w/\WkAt CW H y w.wh p w.pt t w.tv:=by
 cases e2:a.ws n with
 |none=>rw[h.noW e2]at e;cases e
 |some w =>
  obtain⟨y,p,t,F,G⟩:=h.wk e2;rw[e]at F;cases F;exact⟨y,p,t,w,rfl,rfl,G⟩
def whF (a:AH)(n:Str):Str:=match a.ws n with | some w=>w.wh | none => ""
def ptF (a:AH)(n:Str):Int×Int:=match a.ws n with|some w=>w.pt|none=>(0,0)
theorem VH.wks {CR:Aj}(v:VH C CR CW H o (a::as))(l:o.W.length<64):WksAt CW H o.W (o.W.map yg) (whF a) (ptF a)/\∀n,n∈o.W.map yg↔∃w,a.ws n=some w:=by
 obtain⟨L,O⟩:=yr v.h.nW v.h.fW;have F:∀n,n∈o.W.map yg↔∃w,a.ws n=some w:=λn=>by
  rw[u9 v.h.nW v.h.fW n,v.rep.wsome n];cases a.ws n with
  |none=>simp
  |some w=>simp
 refine⟨⟨L,l,λn I=>?_⟩,F⟩;obtain⟨w,e⟩:=(F n).mp I;obtain⟨y,p,t,J,G⟩:=v.rep.wk e;unfold whF ptF;rw[e];exact⟨y,p,t,w.tv,J,G⟩
theorem Y6 {w:Wk}(e:a.ws n=some w):a.bk.ws n=some (w.wh,w.pt):=by show(a.ws n).map _=_;rw[e];rfl
theorem bk_wn (e:a.ws n=none):a.bk.ws n=none:=by show(a.ws n).map _=_;rw[e];rfl
theorem ws_bk {v:Str×(Int×Int)}(e:a.bk.ws n=some v):∃w,a.ws n=some w/\v=(w.wh,w.pt):=by
 have e:(a.ws n).map (λw=>(w.wh,w.pt))=some v:=e;cases ew:a.ws n with
 |none=>rw[ew]at e;cases e
 |some w=>rw[ew]at e;cases e;exact⟨w,rfl,rfl⟩
theorem wkk {w:Wk}:(a.putW n w).bk=a.bk.putW n (w.wh,w.pt):=by
 show BA.mk a.rs (λm=>(if m=n then some w else a.ws m).map λw=>(w.wh,w.pt))=BA.mk a.rs λm=>if m=n then some (w.wh,w.pt) else(a.ws m).map λw=>(w.wh,w.pt)
 congr 1;funext m;by_cases z:m=n
 .rw[ak z,ak z];rfl
 .rw[ag z,ag z]
theorem xvt:(a.delW n).bk=a.bk.delW n:=by
 show BA.mk a.rs (λm=>(if m=n then none else a.ws m).map λw=>(w.wh,w.pt))=BA.mk a.rs λm=>if m=n then none else(a.ws m).map λw=>(w.wh,w.pt)
 congr 1;funext m;by_cases z:m=n
 .rw[ak z,ak z];rfl
 .rw[ag z,ag z]
theorem bk_tog {tv:Str->List (List Key×V)}:(a.tog wh hs m tv).bk=a.bk.tog wh hs m:=by
 show BA.mk a.rs (λn=>(match a.ws n with|none=>none|some w=>if w.wh=wh then some (Wk.mk wh (itP hs w.pt m) (tv n)) else some w).map λw:Wk=>(w.wh,w.pt))=BA.mk a.rs λn=>match (a.ws n).map (λw=>(w.wh,w.pt)) with|none=>none|some w=>if w.1=wh then some (wh,itP hs w.2 m) else some w
 congr 1;funext n;cases a.ws n with
 |none=>rfl
 |some w =>
  show(if w.wh=wh then some (Wk.mk wh (itP hs w.pt m) (tv n)) else some w).map _=if w.wh=wh then some (wh,itP hs w.pt m) else some (w.wh,w.pt)
  by_cases z:w.wh=wh
  .rw[ak z,ak z];rfl
  .rw[ag z,ag z];rfl
def AH.delR (a:AH)(n:Str):AH:={ a with rs:=λm=>if m=n then none else a.rs m }
theorem Rep.delR {CR:Aj}{f g:Key->Option V}(h:Rep CR CW H f g a){n:Str}(hw:∀m w,a.ws m=some w->w.wh≠n):Rep CR CW H (ovr f [(.inr n,.non)]) (ovr g []) (a.delR n):=by
 refine⟨λm=>?_,h.w,λm F e=>?_,λm w e=>?_⟩
 .rw[qw9];show RRep CR H _ (if m=n then none else a.rs m);by_cases z:m=n
  .rw[ak z,ak (by rw[z]),ak rfl];rfl
  .rw[ag z,ag (λq=>z (by injection q))];exact h.r m
 .have e:(if m=n then none else a.rs m)=some F:=e;by_cases z:m=n
  .rw[ak z]at e;cases e
  .rw[ag z]at e;exact h.ok.lo m F e
 .obtain⟨G,F,J,I⟩:=h.ok.wo m w e;exact⟨G,F,(ag (hw m w e)).trans J,I⟩
structure RunK (C CR CW:Aj)(WC:List (Str×Aj))(H:Hp)(o:Ho)(a:AH)(as:List AH)(d:Dd)(Q:VK)(E:XK):Prop where
 q:∀(v:V) (H':Hp) (o':Ho) (a':AH) (ans:Ans),xq a.bk d=(("" : Str),ans,a'.bk)->Nxt H o o'->VH C CR CW H' o' (a'::a::as)->Kb [o.dr,o.dw,o.dd] H H'->AnsAt H' v ans->Q v H'
 e:∀(H':Hp) (wd:Str) (X:Aj),Same H H'->(wd,X)∈WC->xq a.bk d=(wd,.non,a.bk)->E (.ref X) none H'
section
variable {C CR CW CN CT CL CS CNR CNW CB CO CC:Aj}{WC:List (Str×Aj)}{H:Hp}{o:Ho}{a:AH}{as:List AH}{Q:VK}{E:XK}{NM:List Str}
theorem VH.aLay (v:VH C CR CW H o (a::as))(nm:Nam NM a)(lN:NM.length<=100)(lD:o.ds.length<=10000)(ln:n.length<=100)(fp:H p=some (.lst (hs.map V.int)))(rk:RunK C CR CW WC H o a as (.lay n hs) Q E)(w1:(("name" : Str),CN)∈WC)(w2:(("taken" : Str),CT)∈WC)(w3:(("line" : Str),CL)∈WC):qx2 K C CR CN CT CL [.ref o.x,.str n,.ref p] H Q E:=by
 have ab:=v.lens nm;refine⟨o.x,o.dr,o.dw,o.dd,p,o.R,o.W,_,n,hs,rfl,v.h.hs,u8 _,⋯,⋯,by rw[j0];lia,⋯,fp,λF G lo H' S=>?_,λF H' s=>?_,λF L H' s=>?_,λF G lo H' s=>?_⟩
 .have J:=Wx v.rep G;obtain⟨o',U,O,Z⟩:=v.road S lo λm w e hw=>by obtain⟨_,ad,I,_⟩:=v.rep.ok.wo m w e;rw[hw,J]at I;cases I
  refine rk.q _ H' o' _ .non ?_ U O Z rfl;simp only[xq];rw[ag (by rw[F];decide),ag (by show ¬ (a.rs n).isSome=true;rw[J];decide),ak lo];rfl
 .refine rk.e H' _ _ s w1 ?_;simp only[xq];rw[ak F]
 .refine rk.e H' _ _ s w2 ?_;simp only[xq];rw[ag (by rw[F];decide),ak (by show(a.rs n).isSome=true;rw[<-v.rep.rsome n];exact L)]
 .refine rk.e H' _ _ s w3 ?_;simp only[xq];rw[ag (by rw[F];decide),ag (by show ¬ (a.rs n).isSome=true;rw[Wx v.rep G];decide),ag lo]
theorem VH.aBend {x:Int}(v:VH C CR CW H o (a::as))(nm:Nam NM a)(lN:NM.length<=100)(lD:o.ds.length<=10000)(rk:RunK C CR CW WC H o a as (.bend n c x) Q E)(w1:(("road" : Str),CNR)∈WC)(w2:(("line" : Str),CL)∈WC):wqk C CR CNR CL [.ref o.x,.str n,.int c,.int x] H Q E:=by
 have ab:=v.lens nm;refine⟨o.x,o.dr,o.dw,o.dd,o.R,o.W,_,n,c,x,rfl,v.h.hs,u8 _,⋯,⋯,by rw[j0];lia,λS=>?_,λu eu=>?_⟩
 .refine rk.e H _ _ (Same.refl _) w1 ?_;simp only[xq];rw[show a.bk.rs n=none from Wx v.rep S]
 .obtain⟨r,hs,rfl,G,ra⟩:=qw7 v.rep eu;have lo:=v.rep.ok.lo n hs G;have O:a.bk.rs n=some hs:=G;have I:∀H',Same H H'->¬ (0<=c/\c<(hs.length:Int)/\xm (hs.set c.toNat x))->E (.ref CL) none H':=λH' s z=>rk.e H' _ _ s w2 (by
   simp only[xq]
   rw[O]
   dsimp only
   rw[ag z])
  refine⟨r,hs,rfl,ra,lo,λz H' s=>I H' s λq=>z ⟨q.1,q.2.1⟩,λc0 c1=>⟨λF H' Z=>?_,λz H' s=>I H' s λq=>z q.2.2⟩⟩;obtain⟨o',nx,U,kb⟩:=v.road Z F λm w e hw=>by obtain⟨_,ad,L,J⟩:=v.rep.ok.wo m w e;rw[hw,G]at L;cases L;exact Qs J F (by rw[cP];exact(qqy J).2)
  refine rk.q _ H' o' _ .non ?_ nx U kb rfl;simp only[xq];rw[O];dsimp only;rw[ak ⟨c0,c1,F⟩];rfl
theorem VH.aWiden {x:Int}(v:VH C CR CW H o (a::as))(nm:Nam NM a)(lN:NM.length<=100)(lD:o.ds.length<=10000)(rk:RunK C CR CW WC H o a as (.widen n x) Q E)(w1:(("road" : Str),CNR)∈WC)(w2:(("line" : Str),CL)∈WC):qw6 C CR CNR CL [.ref o.x,.str n,.int x] H Q E:=by
 have ab:=v.lens nm;refine⟨o.x,o.dr,o.dw,o.dd,o.R,o.W,_,n,x,rfl,v.h.hs,u8 _,⋯,⋯,by rw[j0];lia,λO=>?_,λu eu=>?_⟩
 .refine rk.e H _ _ (Same.refl _) w1 ?_;simp only[xq];rw[show a.bk.rs n=none from Wx v.rep O]
 .obtain⟨r,hs,rfl,I,Z⟩:=qw7 v.rep eu;have lo:=v.rep.ok.lo n hs I;have L:a.bk.rs n=some hs:=I;refine⟨r,hs,rfl,Z,lo,λF H' U=>?_,λz H' s=>rk.e H' _ _ s w2 ?_⟩
  .obtain⟨o',nx,S,kb⟩:=v.road U F λm w e hw=>by obtain⟨_,ad,J,G⟩:=v.rep.ok.wo m w e;rw[hw,I]at J;cases J;refine Qs G F ?_;have:=(qqy G).2;have q1:=G.2.1.1;rw[aE];push_cast;have:((hs.length:Int)-1)*w.pt.2<=((hs.length:Int)+(([x]:List Int).length:Int)-1)*w.pt.2:=aN (by show(hs.length:Int)-1<=(hs.length:Int)+1-1;lia) ⋯;lia
   refine rk.q _ H' o' _ .non ?_ nx S kb rfl;simp only[xq];rw[L];dsimp only;rw[ak F];rfl
  .simp only[xq];rw[L];dsimp only;rw[ag z]
theorem bey_of {wd:Int}:Bey a.bk n wd↔∃s w,a.ws s=some w/\w.wh=n/\wd*w.pt.2<w.pt.1:=by
 constructor
 .rintro⟨s,pt,e,l⟩;obtain⟨w,F,G⟩:=ws_bk e;cases G;exact⟨s,w,F,rfl,l⟩
 .rintro⟨s,w,e,rfl,l⟩;exact⟨s,w.pt,Y6 e,l⟩
theorem VH.aNarrow (v:VH C CR CW H o (a::as))(nm:Nam NM a)(lN:NM.length<60)(lD:o.ds.length<=10000)(rk:RunK C CR CW WC H o a as (.narrow n) Q E)(w1:(("road" : Str),CNR)∈WC)(w2:(("line" : Str),CL)∈WC)(w3:(("stood" : Str),CS)∈WC):Jw C CR CW CNR CL CS [.ref o.x,.str n] H Q E:=by
 have ad:=v.lens nm;obtain⟨U,I⟩:=v.wks ⋯;refine⟨o.x,o.dr,o.dw,o.dd,o.R,o.W,_,n,_,_,_,rfl,v.h.hs,u8 _,⋯,by rw[j0];lia,U,λs hs=>?_,λZ=>?_,λu eu=>?_⟩
 .obtain⟨w,e⟩:=(I s).mp hs;unfold ptF;rw[e];obtain⟨_,ks,_,J⟩:=v.rep.ok.wo s w e;have:=J.rng;exact⟨this.1,by show w.pt.1<=_;lia,this.2.2.1,by show w.pt.2<=_;lia⟩
 .refine rk.e H _ _ (Same.refl _) w1 ?_;simp only[xq];rw[show a.bk.rs n=none from Wx v.rep Z]
 .obtain⟨r,hs,rfl,er,ra⟩:=qw7 v.rep eu;have O:a.bk.rs n=some hs:=er;refine⟨r,hs,rfl,ra,λz H' s=>rk.e H' _ _ s w2 ?_,λG=>⟨λ⟨s,h1,h2,L⟩ H' s'=>rk.e H' _ _ s' w3 ?_,λab H' rd=>?_⟩⟩
  .simp only[xq];rw[O];dsimp only;rw[ag z]
  .simp only[xq];rw[O];dsimp only;obtain⟨w,e⟩:=(I s).mp h1;unfold whF at h2;unfold ptF at L;rw[e]at h2 L;rw[ak G,ak (bey_of.mpr ⟨s,w,e,h2,L⟩)]
  .have S:∀m w,a.ws m=some w->w.wh=n->¬ ((hs.dropLast.length:Int)-1)*w.pt.2<w.pt.1:=λm w e F=>by have:=ab m ((I m).mpr ⟨w,e⟩);unfold whF ptF at this;rw[e]at this;exact this F
   obtain⟨o',nx,v',kb⟩:=v.road rd G λm w e F=>by obtain⟨_,ah,an,J⟩:=v.rep.ok.wo m w e;exact Qs J G (by have:=S m w e F;lia)
   refine rk.q _ H' o' _ .non ?_ nx v' kb rfl;simp only[xq];rw[O];dsimp only;rw[ak G,ag (λz=>by obtain⟨s,w,e,F,l⟩:=bey_of.mp z;exact S s w e F l)];rfl
theorem VH.aClear (v:VH C CR CW H o (a::as))(nm:Nam NM a)(lN:NM.length<60)(lD:o.ds.length<=10000)(rk:RunK C CR CW WC H o a as (.clear n) Q E)(w1:(("road" : Str),CNR)∈WC)(w3:(("stood" : Str),CS)∈WC):qw2 C CW CNR CS [.ref o.x,.str n] H Q E:=by
 have ah:=v.lens nm;obtain⟨U,L⟩:=v.wks ⋯;refine⟨o.x,o.dr,o.dw,o.dd,o.R,o.W,_,n,_,_,_,rfl,v.h.hs,⋯,by rw[j0];lia,U,λZ=>?_,λI=>?_⟩
 .refine rk.e H _ _ (Same.refl _) w1 ?_;simp only[xq];rw[show a.bk.rs n=none from Wx v.rep Z]
 .rw[v.rep.rsome n]at I;obtain⟨hs,S⟩:=az.mp I;have O:a.bk.rs n=some hs:=S;refine⟨λ⟨s,h1,h2⟩ H' s'=>rk.e H' _ _ s' w3 ?_,λab H' gd=>?_⟩
  .simp only[xq];rw[O];dsimp only;obtain⟨w,e⟩:=(L s).mp h1;unfold whF at h2;rw[e]at h2;obtain⟨_,ks,_,hp⟩:=v.rep.ok.wo s w e;have:=hp.rng;rw[ak (bey_of.mpr ⟨s,w,e,h2,⋯⟩)]
  .have J:∀m w,a.ws m=some w->w.wh≠n:=λm w e G=>by have:=ab m ((L m).mpr ⟨w,e⟩);unfold whF at this;rw[e]at this;exact this G
   obtain⟨r,ad,_⟩:=v.rep.road S;obtain⟨o',nx,v',F⟩:=v.did gd qyr aX (show 1<=1000 by decide) (aA _) wwg Zw (λc hc _=>by rw[am.mp hc,ad];rfl) qxm λF=>(v.rep.dl v.h.dl F).delR J;refine rk.q _ H' o' _ .non ?_ nx v' F rfl;simp only[xq];rw[O];dsimp only;rw[ag (λz=>by obtain⟨s,w,e,G,l⟩:=bey_of.mp z;exact J s w e G)];rfl
open Classical in
theorem VH.aPlace {t p:Int}(v:VH C CR CW H o (a::as))(nm:Nam NM a)(lN:NM.length<=100)(lD:o.ds.length<=10000)(ln:n.length<=100)(fq:H q=some (.tup [.int t,.int p]))(sm:-1000000<=p/\p<=1000000)(rk:RunK C CR CW WC H o a as (.place n wh t p) Q E)(w1:(("name" : Str),CN)∈WC)(w2:(("taken" : Str),CT)∈WC)(w3:(("road" : Str),CNR)∈WC)(w4:(("bottom" : Str),CB)∈WC)(w5:(("off" : Str),CO)∈WC):Ww K C CR CW CN CT CNR CB CO [.ref o.x,.str n,.str wh,.ref q] H Q E:=by
 have ad:=v.lens nm;have L:∀m,(a.bk.ws m).isSome=(a.ws m).isSome:=λm=>by show((a.ws m).map _).isSome=_;cases a.ws m <;> rfl
 refine⟨o.x,o.dr,o.dw,o.dd,q,o.R,o.W,_,n,wh,t,p,rfl,v.h.hs,⋯,⋯,by rw[j0];lia,⋯,fq,λF H' s=>?_,λF vs H' s=>?_,λF U=>⟨λrn H' s=>?_,λu eu=>?_⟩⟩
 .refine rk.e H' _ _ s w1 ?_;simp only[xq];rw[ak F]
 .refine rk.e H' _ _ s w2 ?_;simp only[xq];rw[ag (by rw[F];decide),ak (by rw[L,<-v.rep.wsome n];exact vs)]
 .refine rk.e H' _ _ s w3 ?_;simp only[xq];rw[ag (by rw[F];decide),ag (by rw[L,qwr v.rep U];decide),show a.bk.rs wh=none from Wx v.rep rn]
 .obtain⟨r,hs,rfl,S,ra⟩:=qw7 v.rep eu;have lo:=v.rep.ok.lo wh hs S;have ab:a.bk.rs wh=some hs:=S;have J:∀x,(if p<1\/40<(xv t p).2 then(("bottom" : Str),Ans.non,a.bk) else if vf hs t p then(("" : Str),Ans.non,a.bk.putW n (wh,xv t p)) else(("off" : Str),Ans.non,a.bk))=x->xq a.bk (.place n wh t p)=x:=λx e=>by rw[<-e];simp only[xq];rw[ag (by rw[F];decide),ag (by rw[L,qwr v.rep U];decide),ab]
  refine⟨r,hs,rfl,ra,lo,λz H' s=>rk.e H' _ _ s w4 (J _ (ak (.inl z))),λz=>⟨(Sm.small (n:=65) ⋯ ⋯ ⋯).mono ⋯,λy H' s=>rk.e H' _ _ s w4 (J _ (ak (.inr y))),λy=>⟨λO H' s=>rk.e H' _ _ s w5 (J _ ?_),λO H' pa t' wd=>?_⟩⟩⟩
  .rw[ag ⋯,ag (λI=>O ((xxt z).mpr I))]
  .have I:=(xxt z).mp O;have Z:=wjd lo z y I;have G:=Z.rng;obtain⟨o',nx,v',kb⟩:=v.walk (w:=⟨wh,xv t p,[([.inl (xv t p).1,.inl (xv t p).2],.int 1)]⟩) wd (TmOk.one G.1 G.2.1 G.2.2.1 G.2.2.2) S Z;refine rk.q _ H' o' _ .non (J _ ?_) nx v' kb rfl;rw[ag ⋯,ak I,wkk]
theorem VH.aLeave (v:VH C CR CW H o (a::as))(nm:Nam NM a)(lN:NM.length<=100)(lD:o.ds.length<=10000)(rk:RunK C CR CW WC H o a as (.leave n) Q E)(w1:(("walker" : Str),CNW)∈WC):qw3 C CNW [.ref o.x,.str n] H Q E:=by
 have U:=v.lens nm;refine⟨o.x,o.dr,o.dw,o.dd,o.R,o.W,_,n,rfl,v.h.hs,⋯,⋯,by rw[j0];lia,λI=>rk.e H _ _ (Same.refl _) w1 ?_,λF H' S=>?_⟩
 .simp only[xq];rw[bk_wn (qwr v.rep I)]
 .rw[v.rep.wsome n]at F;obtain⟨w,G⟩:=az.mp F;obtain⟨o',L,J,O⟩:=v.leave G S;refine rk.q _ H' o' _ .non ?_ L J O rfl;simp only[xq];rw[Y6 G];rw[xvt]
theorem VH.aGo {m:Int}(v:VH C CR CW H o (a::as))(nm:Nam NM a)(lN:NM.length<=100)(lD:o.ds.length<=10000)(rk:RunK C CR CW WC H o a as (.go n m) Q E)(w1:(("walker" : Str),CNW)∈WC)(w2:(("count" : Str),CC)∈WC):spGo C CR CW CNW CC [.ref o.x,.str n,.int m] H Q E:=by
 have a0:=v.lens nm;refine⟨o.x,o.dr,o.dw,o.dd,o.R,o.W,_,n,m,rfl,v.h.hs,⋯,⋯,by rw[j0];lia,λU=>rk.e H _ _ (Same.refl _) w1 ?_,λu eu=>?_⟩
 .simp only[xq];rw[bk_wn (qwr v.rep U)]
 .obtain⟨y,p,t,w,rfl,G,S⟩:=xzz v.rep eu;obtain⟨tm,hs,I,F⟩:=v.rep.ok.wo n w G;obtain⟨r,an,ra⟩:=v.rep.road I;have ap:a.bk.rs w.wh=some hs:=I;refine⟨y,w.wh,p,w.pt,t,w.tv,r,hs,rfl,S,tm,an,ra,F,λz=>rk.e H _ _ (Same.refl _) w2 ?_,λz H' L t' ab J ad a1=>?_⟩
  .simp only[xq];rw[Y6 G];dsimp only;rw[ag (λq=>z ⟨q.1,λb e=>by cases e;exact q.2⟩)]
  .have ah:H' L=some (.tup [.int (itP hs w.pt m.toNat).1,.int (itP hs w.pt m.toNat).2]):=by obtain⟨y',_,_,_,_,_,_,_,_,_,_,_,O,_⟩:=J;exact O.pt
   obtain⟨o',nx,Z,kb⟩:=v.walk (w:=⟨w.wh,itP hs w.pt m.toNat,ab⟩) J ad I (F.it _);refine rk.q _ H' o' _ (.pt (itP hs w.pt m.toNat)) ?_ nx Z kb ⟨L,rfl,ah,(F.it _).g⟩;simp only[xq];rw[Y6 G];dsimp only;rw[ak ⟨z.1,z.2 _ rfl⟩,ap,wkk];rfl
theorem VH.togK {m:Int}(v:VH C CR CW H o (a::as))(nm:Nam NM a)(lN:NM.length<60)(lD:o.ds.length<=10000)(nb:∀s w,a.ws s=some w->zj s=true)(er:a.rs n=some hs)(z:0<=m/\m<=qyk)(k:∀l H' o' a',a'.bk=a.bk.tog n hs m.toNat->Nxt H o o'->VH C CR CW H' o' (a'::a::as)->Kb [o.dr,o.dw,o.dd] H H'->H l=none->AnsAt H' (.ref l) (.lst (qyx a.bk n hs m.toNat))->Q (.ref l) H'):qxs C CR CW CNR CC [.ref o.x,.str n,.int m] H Q E:=by
 have ab:=v.lens nm;refine v.togs nm lN lD er ⟨z.1,λb e=>by cases e;exact z.2⟩ λl H' o' tv nx v' _ kb nl ⟨ms,ys,nd,hin,srt,fl,ly,hy⟩=>?_;have G:onL a.bk n=ms:=xqg ⟨nd,λs=>by
  rw[hin s]
  constructor
  .rintro⟨w,e,rfl⟩
   exact⟨w.pt,Y6 e⟩
  .rintro⟨pt,e⟩
   obtain⟨w,F,I⟩:=ws_bk e
   cases I
   exact⟨w,F,rfl⟩,srt⟩
 refine k l H' o' _ bk_tog nx v' kb nl ⟨l,ys,rfl,fl,?_,?_,λj x ex=>?_⟩
 .unfold qyx;rw[G,aa,ly]
 .unfold qyx;rw[G,aa];have:=Wy ms (o.W.map yg) nd λs hs=>by obtain⟨w,e,_⟩:=(hin s).mp hs;exact((v.wks ⋯).2 s).mpr ⟨w,e⟩
  rw[aa]at this;lia
 .unfold qyx at ex;rw[G,aB]at ex;cases em:ms[j]? with
  |none=>rw[em]at ex;cases ex
  |some s =>
   rw[em]at ex;cases ex;obtain⟨q,p,w,F,Z,U,fp⟩:=hy j s em;obtain⟨w',J,O⟩:=(hin s).mp (aK em);rw[F]at J;cases J;obtain⟨_,ks,L,S⟩:=v.rep.ok.wo s w F;rw[O,er]at L;cases L;have I:((a.bk.ws s).getD ("",(0,0))).2=w.pt:=by rw[Y6 F];rfl
   dsimp only;rw[I];exact⟨q,p,Z,U,fp,(S.it _).g,nb s w F⟩
theorem VH.aTog {m:Int}(v:VH C CR CW H o (a::as))(nm:Nam NM a)(lN:NM.length<60)(lD:o.ds.length<=10000)(nb:∀s w,a.ws s=some w->zj s=true)(rk:RunK C CR CW WC H o a as (.tog n m) Q E)(w1:(("road" : Str),CNR)∈WC)(w2:(("count" : Str),CC)∈WC):qxs C CR CW CNR CC [.ref o.x,.str n,.int m] H Q E:=by
 have ab:=v.lens nm;by_cases F:∃hs,a.rs n=some hs
 .obtain⟨hs,F⟩:=F;have J:a.bk.rs n=some hs:=F;obtain⟨r,I,U⟩:=v.rep.road F;by_cases z:0<=m/\m<=qyk
  .refine v.togK nm lN lD nb F z λl H' o' a' ea Z S kb _ an=>rk.q _ H' o' a' _ ?_ Z S kb an;simp only[xq];rw[J];dsimp only;rw[ak z,ea]
  .refine⟨o.x,o.dr,o.dw,o.dd,o.R,o.W,_,n,m,rfl,v.h.hs,⋯,by rw[j0];lia,(λy=>by rw[I]at y;cases y),λu G=>?_⟩;rw[I]at G;cases G;refine⟨r,hs,rfl,U,λ_=>rk.e H _ _ (Same.refl _) w2 ?_,λy=>absurd ⟨y.1,y.2 _ rfl⟩ z⟩;simp only[xq];rw[J];dsimp only;rw[ag z]
 .have L:a.rs n=none:=by
   cases e:a.rs n with
   |none=>rfl
   |some hs=>exact absurd ⟨hs,e⟩ F
  have O:=v.rep.noR L;refine⟨o.x,o.dr,o.dw,o.dd,o.R,o.W,_,n,m,rfl,v.h.hs,⋯,by rw[j0];lia,λ_=>rk.e H _ _ (Same.refl _) w1 ?_,(λu G=>by rw[O]at G;cases G)⟩;simp only[xq];rw[show a.bk.rs n=none from L]
end
abbrev wcL (c1 c2 c3 c4 c5 c6 c7 c8 c9 c10:Aj):List (Str×Aj):=[("name",c1),("taken",c2),("line",c3),("road",c4),("walker",c5),("stood",c6),("bottom",c7),("off",c8),("count",c9),("nothing",c10)]
variable {H1:Hp}
theorem RunK.pre {CR:Aj}{WC:List (Str×Aj)}(r:RunK C CR CW WC H o a as d Q E)(s:Same H H1):RunK C CR CW WC H1 o a as d Q E :=
 ⟨λv H' o' a' ans e nx vh kb an=>r.q v H' o' a' ans e ⟨nx.x,nx.dr,nx.dw,nx.dd,let ⟨d,e,n1,n2⟩:=nx.ds;⟨d,e,x6 s n1,x6 s n2⟩⟩ vh ((Kb.of s).trans kb) an,λH' wd X s' hw e=>r.e H' wd X (s.trans s') hw e⟩
def xq2 (C CR CW:Aj)(WC:List (Str×Aj)):Sp:=λvs H Q E=>∃(o:Ho) (da:Aj) (a:AH) (as:List AH) (d:Dd) (NM:List Str),vs=[.ref o.x,.ref da]/\VH C CR CW H o (a::as)/\DdAt H da d/\(∀n,d≠.back n)/\BOk NM a.bk/\NM.length<60/\o.ds.length<=1000/\RunK C CR CW WC H o a as d Q E
include T in
theorem zi1 (F:Fun K "_law_run" "_law_run" zdb f fd)(zbc:↑MCal qq "lay" 4 (qx2 K qq qg qm wj qh))(zi2:↑MCal qq "bend" 4 (wqk qq qg q8 qh))(zi3:↑MCal qq "widen" 4 (qw6 qq qg q8 qh))(zi4:↑MCal qq "narrow" 4 (Jw qq qg qz q8 qh wy))(zi5:↑MCal qq "clear" 3 (qw2 qq qz q8 wy))(zbd:↑MCal qq "place" 5 (Ww K qq qg qz qm wj q8 qx qp)) (zi6:↑MCal qq "leave" 3 (qw3 qq qj)) (zi7:↑MCal qq "go" 8 (spGo qq qg qz qj qu)) (zdj:↑MCal qq "together" 8 (qxs qq qg qz q8 qu)) :
  ↑FK 9 f fd ["_law_house","_law_deed_here"] (xq2 qq qg qz (wcL qm wj qh q8 qj wy qx qp qu qw)):=by
 have sc:=wxv;refine F.okX sc ⋯ λ_ _ _ s H vs Q E J h=>?_;obtain⟨o,L,a,as,d,NM,rfl,v,dd,nb,bo,lN,lD,G⟩:=h;have nm:=AOk.bk bo;obtain⟨dx,I⟩:=v.h.hs.ob;refine⟨_,(qy (x4 (wn zd (xj xk (pv 1) qc (λ_ _=>rfl)) qc (wt _)) (qt (w6 (xg (pv 0) T.clH zbc (J.mono ⋯) qf (zu (xj xk (pv 1) qc (λ_ _=>rfl)) (k6 (vb jt rfl T.list_ bA (zu (xj xk (pv 1) qc (λ_ _=>rfl)) qk)) qk))))) w9)
   (qy (x4 (wn zd (xj xk (pv 1) qc (λ_ _=>rfl)) qc (wt _)) (qt (w6 (xg (pv 0) T.clH zi2 (J.mono ⋯) qf (zu (xj xk (pv 1) qc (λ_ _=>rfl)) (zu (xj xk (pv 1) qc (λ_ _=>rfl)) (zu (xj xk (pv 1) qc (λ_ _=>rfl)) qk)))))) w9)
   (qy (x4 (wn zd (xj xk (pv 1) qc (λ_ _=>rfl)) qc (wt _)) (qt (w6 (xg (pv 0) T.clH zi3 (J.mono ⋯) qf (zu (xj xk (pv 1) qc (λ_ _=>rfl)) (zu (xj xk (pv 1) qc (λ_ _=>rfl)) qk))))) w9)
   (qy (x4 (wn zd (xj xk (pv 1) qc (λ_ _=>rfl)) qc (wt _)) (qt (w6 (xg (pv 0) T.clH zi4 (J.mono ⋯) qf (zu (xj xk (pv 1) qc (λ_ _=>rfl)) qk)))) w9)
   (qy (x4 (wn zd (xj xk (pv 1) qc (λ_ _=>rfl)) qc (wt _)) (qt (w6 (xg (pv 0) T.clH zi5 (J.mono ⋯) qf (zu (xj xk (pv 1) qc (λ_ _=>rfl)) qk)))) w9)
   (qy (x4 (wn zd (xj xk (pv 1) qc (λ_ _=>rfl)) qc (wt _)) (qt (w6 (xg (pv 0) T.clH zbd (J.mono ⋯) qf (zu (xj xk (pv 1) qc (λ_ _=>rfl)) (zu (xj xk (pv 1) qc (λ_ _=>rfl)) (zu (xj xk (pv 1) qc (λ_ _=>rfl)) qk)))))) w9)
   (qy (x4 (wn zd (xj xk (pv 1) qc (λ_ _=>rfl)) qc (wt _)) (qt (w6 (xg (pv 0) T.clH zi6 (J.mono ⋯) qf (zu (xj xk (pv 1) qc (λ_ _=>rfl)) qk)))) w9)
   (qy (x4 (wn zd (xj xk (pv 1) qc (λ_ _=>rfl)) qc (wt _)) (qt (w6 (xg (pv 0) T.clH zi7 (J.mono ⋯) qf (zu (xj xk (pv 1) qc (λ_ _=>rfl)) (zu (xj xk (pv 1) qc (λ_ _=>rfl)) qk))))) w9)
   (qt (w6 (xg (pv 0) T.clH zdj (J.mono ⋯) qf (zu (xj xk (pv 1) qc (λ_ _=>rfl)) (zu (xj xk (pv 1) qc (λ_ _=>rfl)) qk))))))))))))),?_⟩
 dsimp only [yf];cases d with
 |back n=>exact absurd rfl (nb n)
 |lay n hs =>
  obtain⟨p,h,hp,l2,ab,U⟩:=dd;refine kdT rfl h ?_;exists ⟨o.x,dx,exI rfl ⟨I,xt,exI rfl (exX rfl rfl (SqT.of h) rfl (exI rfl (exX rfl rfl (SqT.of h) rfl ⟨_,_,rfl,.inl (SqL.of hp),λS np=>?_⟩)))⟩⟩;dsimp only [jv,y0,tC];have O:=Same.upd (H:=H) (o:=.lst (hs.map V.int)) np;have Z:upd H S (.lst (hs.map V.int)) S=some (.lst (hs.map V.int)):=qb;generalize upd H S (.lst (hs.map V.int))=H1 at O Z;exact(v.same O).aLay nm ⋯ ⋯ U Z (G.pre O) (by simp) (by simp) (by simp)
 |bend n c x =>
  have h:H L=_:=dd;refine kdF rfl h ?_;refine kdT rfl h ?_;exists ⟨o.x,dx,exI rfl ⟨I,xt,exI rfl (exX rfl rfl (SqT.of h) rfl (exI rfl (exX rfl rfl (SqT.of h) rfl (exI rfl (exX rfl rfl (SqT.of h) rfl ?_)))))⟩⟩;dsimp only [jv,y0,tC];exact v.aBend nm ⋯ ⋯ G (by simp) (by simp)
 |widen n x =>
  have h:H L=_:=dd;refine kdF rfl h ?_;refine kdF rfl h ?_;refine kdT rfl h ?_;exists ⟨o.x,dx,exI rfl ⟨I,xt,exI rfl (exX rfl rfl (SqT.of h) rfl (exI rfl (exX rfl rfl (SqT.of h) rfl ?_)))⟩⟩;dsimp only [jv,y0,tC];exact v.aWiden nm ⋯ ⋯ G (by simp) (by simp)
 |narrow n =>
  have h:H L=_:=dd;refine kdF rfl h ?_;refine kdF rfl h ?_;refine kdF rfl h ?_;refine kdT rfl h ?_;exists ⟨o.x,dx,exI rfl ⟨I,xt,exI rfl (exX rfl rfl (SqT.of h) rfl ?_)⟩⟩;dsimp only [jv,y0,tC];exact v.aNarrow nm ⋯ ⋯ G (by simp) (by simp) (by simp)
 |clear n =>
  have h:H L=_:=dd;refine kdF rfl h ?_;refine kdF rfl h ?_;refine kdF rfl h ?_;refine kdF rfl h ?_;refine kdT rfl h ?_;exists ⟨o.x,dx,exI rfl ⟨I,xt,exI rfl (exX rfl rfl (SqT.of h) rfl ?_)⟩⟩;dsimp only [jv,y0,tC];exact v.aClear nm ⋯ ⋯ G (by simp) (by simp)
 |place n wh t p =>
  obtain⟨q,h,hq,U,bt,bp⟩:=dd;refine kdF rfl h ?_;refine kdF rfl h ?_;refine kdF rfl h ?_;refine kdF rfl h ?_;refine kdF rfl h ?_;refine kdT rfl h ?_;exists ⟨o.x,dx,exI rfl ⟨I,xt,exI rfl (exX rfl rfl (SqT.of h) rfl (exI rfl (exX rfl rfl (SqT.of h) rfl (exI rfl (exX rfl rfl (SqT.of h) rfl ?_)))))⟩⟩;dsimp only [jv,y0,tC];exact v.aPlace nm ⋯ ⋯ U hq bp G (by simp) (by simp) (by simp) (by simp) (by simp)
 |leave n =>
  have h:H L=_:=dd;refine kdF rfl h ?_;refine kdF rfl h ?_;refine kdF rfl h ?_;refine kdF rfl h ?_;refine kdF rfl h ?_;refine kdF rfl h ?_;refine kdT rfl h ?_;exists ⟨o.x,dx,exI rfl ⟨I,xt,exI rfl (exX rfl rfl (SqT.of h) rfl ?_)⟩⟩;dsimp only [jv,y0,tC];exact v.aLeave nm ⋯ ⋯ G (by simp)
 |go n m =>
  have h:H L=_:=dd;refine kdF rfl h ?_;refine kdF rfl h ?_;refine kdF rfl h ?_;refine kdF rfl h ?_;refine kdF rfl h ?_;refine kdF rfl h ?_;refine kdF rfl h ?_;refine kdT rfl h ?_;exists ⟨o.x,dx,exI rfl ⟨I,xt,exI rfl (exX rfl rfl (SqT.of h) rfl (exI rfl (exX rfl rfl (SqT.of h) rfl ?_)))⟩⟩;dsimp only [jv,y0,tC];exact v.aGo nm ⋯ ⋯ G (by simp) (by simp)
 |tog n m =>
  have h:H L=_:=dd;refine kdF rfl h ?_;refine kdF rfl h ?_;refine kdF rfl h ?_;refine kdF rfl h ?_;refine kdF rfl h ?_;refine kdF rfl h ?_;refine kdF rfl h ?_;refine kdF rfl h ?_;exists ⟨o.x,dx,exI rfl ⟨I,xt,exI rfl (exX rfl rfl (SqT.of h) rfl (exI rfl (exX rfl rfl (SqT.of h) rfl ?_)))⟩⟩;dsimp only [jv,y0,tC];exact v.aTog nm ⋯ ⋯ (λs w e=>(bo.wo s _ (Y6 e)).1) G (by simp) (by simp)
def Chg (C CR CW:Aj)(H H':Hp)(o o':Ho)(as as':List AH)(d:Dd)(wd:Str)(ans:Ans):Prop :=
 ((∀n,d≠.back n)/\∃a t a',as=a::t/\xq a.bk d=(("" : Str),ans,a'.bk)/\wd = "" /\ as'=a'::a::t/\Nxt H o o'/\Kb [o.dr,o.dw,o.dd] H H') \/
 ((∀n,d≠.back n)/\∃a t,as=a::t/\xq a.bk d=(wd,ans,a.bk)/\wd ≠ "" /\ ans=.non/\as'=as/\o'=o/\Same H H') \/
 ((∃n,d=.back n)/\ans=.non/\((∃a,as=[a]/\wd = "nothing" /\ as'=as/\o'=o/\Same H H') \/
  (∃a b t e,as=a::b::t/\wd = "" /\ as'=b::t/\Prv o o'/\o.ds=e::o'.ds/\Kb [o.dr,o.dw,o.dd,e.q1,e.q2] H H'/\Dl H [o.dr,o.dw,o.dd,e.q1,e.q2]/\(∀q kv,q∉[o.dr,o.dw,o.dd]->Rd H q (.dK kv)->Rd H' q (.dK kv)))))
def wzw (C CR CW:Aj):Sp:=λvs H Q _=>∃(o:Ho) (da:Aj) (a:AH) (as:List AH) (d:Dd) (NM:List Str),vs=[.ref o.x,.ref da]/\VH C CR CW H o (a::as)/\DdAt H da d/\BOk NM a.bk/\NM.length<60/\o.ds.length<=1000/\o.ds.length=as.length /\
 ∀(q:Aj) (v:V) (H1 H':Hp) (o':Ho) (as':List AH) (wd:Str) (ans:Ans),Chg C CR CW H H1 o o' (a::as) as' d wd ans->VH C CR CW H1 o' as'->AnsAt H1 v ans->H1 q=none->H'=upd H1 q (.tup [.str wd,v])->Q (.ref q) H'
include T in
theorem xz5 (F:Fun K "_law_told" "_law_told" zdc f fd)(zi8:↑MCal qq "take_back" 2 (qzn qq qw))(zi9:↑Cal "_law_run" 9 (xq2 qq qg qz (wcL qm wj qh q8 qj wy qx qp qu qw))) :
  ↑FK 10 f fd ["_law_house","_law_deed_here"] (wzw qq qg qz):=by
 have sc:=qy0;refine F.okX sc ⋯ λ_ _ _ s H vs Q E hr h=>?_;obtain⟨o,Z,a,as,d,NM,rfl,v,dd,bo,lN,lD,lA,k⟩:=h;have nm:=AOk.bk bo;have dp:=v.lens nm;obtain⟨dx,hx⟩:=v.h.hs.ob;refine a5 T.ms λdg db c9 c8 c6 ms=>?_;refine a5 ms λc0 ct cr cq cp ms=>?_;refine a5 ms λco cj ci cg cc ms=>?_;refine a5 ms λb9 b8 b7 b6 b5 ms=>?_;refine a5 ms λb4 b3 b2 b1 b0 ms=>?_;refine a5 ms λbt bs br bp bm ms=>?_;refine a5 ms λbl bf bb a9 a8 ms=>?_;refine a5 ms λa7 a4 a3 a2 a1 ms=>?_;obtain⟨a0,ap,ah,ad,ab⟩:=ms;refine⟨_,(qy (xx (i:=2) xn)
   (qy (xx (i:=3) jx)
   (qy (xv3 rfl rfl (λpn xe E hE hO=>(qt (x4 (wn zd (xj (xz8 (K:=K) rfl) (pv 1) qc (λ_ _=>rfl)) qc (wt _)) (qt (xx (i:=3) (jz (pv 0) T.clH zi8 (hr.mono ⋯) hE))) (qt (xx (i:=3) (wc zi9 (hr.mono ⋯) rfl hE (q9 (pv 0) (q9 (pv 1) qk)))))))) (.cons rfl T.zhp (λe=>(qt (xx (i:=2) xn))) (.cons rfl T.zhq (λe=>(qt (xx (i:=2) xn))) (.cons rfl T.zdn (λe=>(qt (xx (i:=2) xn))) (.cons rfl T.zhr (λe=>(qt (xx (i:=2) xn))) (.cons rfl T.zhs (λe=>(qt (xx (i:=2) xn))) (.cons rfl T.zdp (λe=>(qt (xx (i:=2) xn))) (.cons rfl T.zdo (λe=>(qt (xx (i:=2) xn))) (.cons rfl T.zhn (λe=>(qt (xx (i:=2) xn))) (.cons rfl T.zho (λe=>(qt (xx (i:=2) xn))) (.cons rfl T.zhu (λe=>(qt (xx (i:=2) xn))) .nil ⋯) ⋯) ⋯) ⋯) ⋯) ⋯) ⋯) ⋯) ⋯) ⋯))
   (qt (w6 (zk (q9 (pv 2) (q9 (pv 3) qk)))))))),?_⟩
 dsimp only [yf];by_cases zb:∃n,d=.back n
 .obtain⟨n,rfl⟩:=zb;have h:H Z=some (.tup [.int 9,.str n]):=dd;refine kdT rfl h ?_;exists ⟨o.x,dx,exI rfl ⟨hx,xt,?_⟩⟩;cases as with
  |nil =>
   have e0:o.ds=[]:=cx.mp lA;refine⟨o.x,o.dr,o.dw,o.dd,o.R,o.W,_,rfl,v.h.hs,⋯,⋯,(λ_=>?_),λD' u e=>?_⟩
   .exists (.inr ⟨w8 T.zac a4,.inr ⟨w8 T.zae a3,.inr ⟨w8 T.zad a2,.inr ⟨w8 T.zaf a1,.inr ⟨w8 T.zah a0,.inr ⟨w8 T.zai ap,.inr ⟨w8 T.zaj ah,.inr ⟨w8 T.zal ad,.inr ⟨w8 T.zam ab,.inl ⟨vm T.zao,_,rfl,?_⟩⟩⟩⟩⟩⟩⟩⟩⟩⟩);exact exI rfl ⟨sz2,λq G=>k q .non H _ o [a] "nothing" .non (.inr (.inr ⟨⟨n,rfl⟩,rfl,.inl ⟨a,rfl,rfl,rfl,rfl,Same.refl _⟩⟩)) v rfl G rfl⟩
   .rw[e0]at e;exact absurd e.symm (cK _ (cD _ _))
  |cons b as =>
   dsimp only [y0];refine v.take ⋯ ⋯ λH' o' e pv ed O U dl a6=>?_;exact exI rfl (exI rfl ⟨sz2,λq G=>k q .non H' _ o' _ "" .non (.inr (.inr ⟨⟨n,rfl⟩,rfl,.inr ⟨a,b,as,e,rfl,rfl,rfl,pv,ed,U,dl,a6⟩⟩)) O rfl G rfl⟩)
 .have L:∀n,d≠.back n:=λn e=>zb ⟨n,e⟩;obtain⟨S,xs,h,hk⟩:∃S xs,H Z=some (.tup (.int S::xs))/\S≠9:=by
   cases d with
   |lay n hs=>obtain⟨p,h,_⟩:=dd;exact⟨_,_,h,⋯⟩
   |place n wh t p=>obtain⟨q,h,_⟩:=dd;exact⟨_,_,h,⋯⟩
   |back n=>exact absurd rfl (L n)
   |_=>exact⟨_,_,dd,⋯⟩
  refine kdF rfl h ?_ hk;exists (exI rfl ?_);dsimp only [jv,y0,tC];refine⟨o,Z,a,as,d,NM,rfl,v,dd,L,bo,lN,lD,⟨λO H' o' a' dk e nx vh U an=>?_,λH' J X s' hw e=>?_⟩⟩
  .exact exI rfl (exI rfl ⟨sz2,λq G=>k q O H' _ o' _ "" dk (.inl ⟨L,a,as,a',rfl,e,rfl,rfl,nx,U⟩) vh an G rfl⟩)
  .have I:∀J:Str,J ≠ "" -> xq a.bk d=(J,.non,a.bk)->∀q,H' q=none->Q (.ref q) (upd H' q (.tup [.str J,.non])):=λJ nw e q G=>k q .non H' _ o (a::as) J .non (.inr (.inl ⟨L,a,as,rfl,e,nw,rfl,rfl,rfl,s'⟩)) (v.same s') rfl G rfl;simp only[wcL,ae,af,aQ,Prod.mk.injEq]at hw;rcases hw with⟨rfl,rfl⟩|⟨rfl,rfl⟩|⟨rfl,rfl⟩|⟨rfl,rfl⟩|⟨rfl,rfl⟩|⟨rfl,rfl⟩|⟨rfl,rfl⟩|⟨rfl,rfl⟩|⟨rfl,rfl⟩|⟨rfl,rfl⟩
   .exact exI rfl (.inl ⟨vm T.zac,exI rfl (exI rfl ⟨sz2,λq G=>I _ ⋯ e q G⟩)⟩)
   .exact exI rfl (.inr ⟨w8 T.zac dg,.inl ⟨vm T.zae,exI rfl (exI rfl ⟨sz2,λq G=>I _ ⋯ e q G⟩)⟩⟩)
   .exact exI rfl (.inr ⟨w8 T.zac db,.inr ⟨w8 T.zae c9,.inl ⟨vm T.zad,exI rfl (exI rfl ⟨sz2,λq G=>I _ ⋯ e q G⟩)⟩⟩⟩)
   .exact exI rfl (.inr ⟨w8 T.zac c8,.inr ⟨w8 T.zae c6,.inr ⟨w8 T.zad c0,.inl ⟨vm T.zaf,exI rfl (exI rfl ⟨sz2,λq G=>I _ ⋯ e q G⟩)⟩⟩⟩⟩)
   .exact exI rfl (.inr ⟨w8 T.zac ct,.inr ⟨w8 T.zae cr,.inr ⟨w8 T.zad cq,.inr ⟨w8 T.zaf cp,.inl ⟨vm T.zah,exI rfl (exI rfl ⟨sz2,λq G=>I _ ⋯ e q G⟩)⟩⟩⟩⟩⟩)
   .exact exI rfl (.inr ⟨w8 T.zac co,.inr ⟨w8 T.zae cj,.inr ⟨w8 T.zad ci,.inr ⟨w8 T.zaf cg,.inr ⟨w8 T.zah cc,.inl ⟨vm T.zai,exI rfl (exI rfl ⟨sz2,λq G=>I _ ⋯ e q G⟩)⟩⟩⟩⟩⟩⟩)
   .exact exI rfl (.inr ⟨w8 T.zac b9,.inr ⟨w8 T.zae b8,.inr ⟨w8 T.zad b7,.inr ⟨w8 T.zaf b6,.inr ⟨w8 T.zah b5,.inr ⟨w8 T.zai b4,.inl ⟨vm T.zaj,exI rfl (exI rfl ⟨sz2,λq G=>I _ ⋯ e q G⟩)⟩⟩⟩⟩⟩⟩⟩)
   .exact exI rfl (.inr ⟨w8 T.zac b3,.inr ⟨w8 T.zae b2,.inr ⟨w8 T.zad b1,.inr ⟨w8 T.zaf b0,.inr ⟨w8 T.zah bt,.inr ⟨w8 T.zai bs,.inr ⟨w8 T.zaj br,.inl ⟨vm T.zal,exI rfl (exI rfl ⟨sz2,λq G=>I _ ⋯ e q G⟩)⟩⟩⟩⟩⟩⟩⟩⟩)
   .exact exI rfl (.inr ⟨w8 T.zac bp,.inr ⟨w8 T.zae bm,.inr ⟨w8 T.zad bl,.inr ⟨w8 T.zaf bf,.inr ⟨w8 T.zah bb,.inr ⟨w8 T.zai a9,.inr ⟨w8 T.zaj a8,.inr ⟨w8 T.zal a7,.inl ⟨vm T.zam,exI rfl (exI rfl ⟨sz2,λq G=>I _ ⋯ e q G⟩)⟩⟩⟩⟩⟩⟩⟩⟩⟩)
   .exact exI rfl (.inr ⟨w8 T.zac a4,.inr ⟨w8 T.zae a3,.inr ⟨w8 T.zad a2,.inr ⟨w8 T.zaf a1,.inr ⟨w8 T.zah a0,.inr ⟨w8 T.zai ap,.inr ⟨w8 T.zaj ah,.inr ⟨w8 T.zal ad,.inr ⟨w8 T.zam ab,.inl ⟨vm T.zao,exI rfl (exI rfl ⟨sz2,λq G=>I _ ⋯ e q G⟩)⟩⟩⟩⟩⟩⟩⟩⟩⟩⟩)
def Qz (cs:List Nat):Str:=⟨cs.toArray⟩
def Lets (cs:List Nat):Prop:=∀c∈cs,97<=c/\c<123
theorem let_at:∀i:Nat,i<26->atI (("abcdefghijklmnopqrstuvwxyz" : Str)).cps.toList (i:Int)=some (97+i):=by decide +kernel
theorem let_sz:(("abcdefghijklmnopqrstuvwxyz" : Str)).length<=sizeLine:=bB (show _<=1000 by decide +kernel) ⋯
theorem xqb (cs:List Nat)(c:Nat):Qz cs++(⟨#[c]⟩:Str)=Qz (cs++[c]):=by show(⟨cs.toArray++#[c]⟩:Str)=⟨(cs++[c]).toArray⟩;simp
theorem W9 (cs:List Nat):(Qz cs).length=cs.length:=by show cs.toArray.size=_;simp
set_option tactic.hygienic true in
theorem wzr (cs:List Nat){n:Nat}(hn:n<=cs.length):Txt.slice (Qz cs) none (some (n:Int))=Qz (cs.take n):=by
 have L:Builtin.Str.strSliceIndices none (some (n:Int)) 1 (Qz cs).length=Builtin.Str.strSliceIndices (some ((0:Nat):Int)) (some (n:Int)) 1 (Qz cs).length:=by unfold Builtin.Str.strSliceIndices;simp;rw[show max (0:Int) (min 0 ((Qz cs).length:Int))=0 by lia]
 have F:n<=(Qz cs).length:=by rw[W9];exact hn
 have J:=StrLaws.sliced_plain (Qz cs) (aA n) F;have I:=StrLaws.strSliceIndices_plain (aA n) F;have G:(Qz cs).cps.toList=cs:=by show cs.toArray.toList=cs;simp
 unfold Txt.slice;rw[L];split
 .next h =>
  rw[I]at h;have:n=cs.length:=by simpa [W9] using h
  rw[this,ce]
 .rw[J,G,List.drop_zero,Nat.sub_zero];rfl
def NmOk (place:Nat)(v:Nat)(cs:List Nat):Prop:=Lets cs/\1<=cs.length/\cs.length<=12/\cs[place]?=some (97+v)
def qz2 (K:Aa):Sp:=λvs H Q _=>∃(a:Aj) (ns:List Int) (i:Int),vs=[.ref a,.int i]/\SqL K H a (ns.map V.int)/\0<=i/\∀(q:Aj) (L:List (List Nat)) (H':Hp),Same H H'->H q=none->H' q=some (.lst (L.map λcs=>V.str (Qz cs)))->L.length=5->(∀cs∈L,Lets cs/\1<=cs.length/\cs.length<=12)->L.Nodup->Q (.ref q) H'
include T in
theorem wj9 (F:Fun K "_law_names" "_law_names" zct f fd)(zaa:↑Cal "_law_pick" 2 (W8 K)):↑FK 3 f fd ["_law_script","_law_at"] (qz2 K):=by
 have sc:=qkk;refine F.okX sc ⋯ λ_ _ _ _ H vs Q E hr h=>?_;obtain⟨a,ns,i,rfl,hS,h0,kk⟩:=h;have a8:(1000000:Nat)<sizeLine:=by decide
 have sm:∀z:Int,-(2 ^ 64)<=z->z<=2 ^ 64->Sm 65 z:=λz z1 z2=>Sm.small z1 z2 ⋯;refine⟨_,(qy (xx (i:=2) xn)
   (qy (xx (i:=3) (xz zf qc (wCA zaa (q9 (pv 0) (q9 (pv 1) (xu qc (xu qc qk)))))))
   (qy (xx (i:=4) (wCA zaa (q9 (pv 0) (q9 (pv 1) (xu qc (q9 (pv 3) qk))))))
   (qy (xx (i:=5) (wCA zaa (q9 (pv 0) (q9 (pv 1) (xu qc (xu qc qk))))))
   (qy (xx (i:=6) (yj qk))
   (qy (yq aS rfl (ut rfl T.range_ (xu qc qk)) (xy (i:=7)) (qy (xx (i:=8) xn)
   (qy (yq aS rfl (ut rfl T.range_ (q9 (pv 3) qk)) (xy (i:=9)) (qy (xx (i:=10) (wCA zaa (q9 (pv 0) (q9 (pv 1) (vg (xz zf qc (pv 9)) (xu qc qk))))))
   (jf (x4 (wn zd (pv 9) (pv 4) (wt _)) (qt (xx (i:=10) (xz jm (xz zf (pv 5) (xz zp qc (pv 7))) qc))) w9)
   (qt (xx (i:=8) (xz Wj (pv 8) (xj ix_str (pv 2) (pv 10) (λ_ _=>rfl))))))))
   (jf (x4 (wn zd (wCA zaa (q9 (pv 0) (q9 (pv 1) (xu qc (xu qc qk))))) qc (wt _)) (qt (xx (i:=8) (Y3 xxd (pv 8) qw5 (qwp (xh (qk1 rfl) rfl T.max_ eE (vg (xz zf (pv 4) qc) (vg (xz kh (pv 3) (xz jm (xz zp qc (pv 7)) qc)) qk))))))) w9)
   (qt (zx (Zt bC bS bT y9 (pv 6) (q9 (pv 8) qk))))))))
   (qt (w6 (pv 6))))))))),?_⟩
 dsimp only [yf];refine c7 λ_ _ _ _ _ _ _ a4 a3 a2 a1 ap an ah=>?_;subst a4;subst a3;exists (exI rfl ⟨a,ns,_,_,_,rfl,hS,h0,⋯,⋯,⋯,λJ _ l0 u0=>(xb rfl rfl ?_)⟩);subst a2;exists (exI rfl (exI rfl ⟨a,ns,_,_,_,rfl,hS,h0,⋯,⋯,⋯,λG _ l1 u1=>?_⟩));subst a1;exists (exI rfl ⟨a,ns,_,_,_,rfl,hS,h0,⋯,⋯,⋯,λI _ l2 u2=>?_⟩);subst ap;refine⟨sz0,λp np=>?_⟩;subst an;refine⟨_,rfl,⋯,⋯,Q6 (n:=(5:Int).toNat) (λj σ H'=>∃(L:List (List Nat)) (z1 z2 z3 z4:Option V),L.length=j/\(∀(t:Nat) cs,L[t]?=some cs->NmOk G.toNat ((I+5*t)%26).toNat cs)/\Same H H'/\H' p=some (.lst (L.map λcs=>V.str (Qz cs)))/\σ=[some (.ref a),some (.int i),some (.str "abcdefghijklmnopqrstuvwxyz"),some (.int (1+J)),some (.int G),some (.int I),some (.ref p),z1,z2,z3,z4])
  ⟨[],_,_,_,_,rfl,(λt cs e=>by cases e),Same.upd np,qb,rfl⟩ ?_ ?_⟩
 .rintro j σ H1 hj ⟨L,z1,z2,z3,z4,O,hL,s1,f1,rfl⟩;have hj:j<5:=hj;have m0:=bI (I+5*((0:Int)+j)) (show(26:Int)≠0 by decide);have m1:=bO (I+5*((0:Int)+j)) (show(0:Int)<26 by decide);refine⟨_,rfl,1+J,rfl,⋯,⋯,Q6 (n:=(1+J).toNat) (λk σ H'=>∃(cs:List Nat) (z3 z4:Option V),cs.length=k/\Lets cs/\(G.toNat<k->cs[G.toNat]?=some (97+((I+5*((0:Int)+j))%26).toNat))/\H'=H1/\σ=[some (.ref a),some (.int i),some (.str "abcdefghijklmnopqrstuvwxyz"),some (.int (1+J)),some (.int G),some (.int I),some (.ref p),some (.int ((0:Int)+j)),some (.str (Qz cs)),z3,z4])
   ⟨[],_,_,rfl,(λc Z=>nomatch Z),(λz=>absurd z ⋯),rfl,rfl⟩ ?_ ?_⟩
  .rintro k σ H2 hk ⟨cs,z3,z4,lc,Z,U,rfl,rfl⟩;exists (exI rfl (exI rfl (xb rfl rfl ⟨a,ns,_,_,_,rfl,s1.sql hS,h0,⋯,⋯,⋯,λsg _ g0 g1=>?_⟩)));refine⟨λσ H'=>∃v:Int,0<=v/\v<26/\((0:Int)+k=G->v=(I+5*((0:Int)+j))%26)/\H'=H2/\σ=[some (.ref a),some (.int i),some (.str "abcdefghijklmnopqrstuvwxyz"),some (.int (1+J)),some (.int G),some (.int I),some (.ref p),some (.int ((0:Int)+j)),some (.str (Qz cs)),some (.int ((0:Int)+k)),some (.int v)],?_,?_⟩
   .exists (exI rfl ⟨rfl,_,rfl,v9 (λe=>?_) (λe=>⟨sg,g0,g1,λz=>absurd z e,rfl,rfl⟩)⟩);exact⟨_,rfl,_,rfl,_,_,rfl,rfl,(sm _ ⋯ ⋯).ok (sm _ ⋯ ⋯) ⋯,_,_,rfl,rfl,_,_,rfl,rfl,(by walk_at "pos"),_,m0,m1,λ_=>rfl,rfl,rfl⟩
   .rintro σ H3 ⟨v,v0,v1,ve,rfl,rfl⟩;have ea:=let_at v.toNat ⋯;rw[cV v0]at ea;exists (exI rfl (exI rfl ⟨_,_,_,rfl,rfl,let_sz,ea,xb rfl rfl ⟨?_,?_⟩⟩))
    .rw[W9];show cs.length+1<=_;lia
    .refine⟨cs++[97+v.toNat],_,_,by rw[aE,lc];rfl,λc ab=>?_,λz=>?_,rfl,by rw[<-xqb];rfl⟩
     .rcases ba.mp ab with q|q
      .exact Z c q
      .rw[am.mp q];lia
     .rcases(by lia:G.toNat<k\/G.toNat=k) with q|q
      .rw[bz ⋯];exact U q
      .rw[bi ⋯,lc,q,Nat.sub_self,ve ⋯];rfl
  .rintro σ H2 ⟨cs,z3,z4,lc,Z,U,rfl,rfl⟩;have lc:cs.length=(1+J).toNat:=lc;have U:=U ⋯;refine⟨λσ H'=>∃(ds:List Nat),NmOk G.toNat ((I+5*((0:Int)+j))%26).toNat ds/\H'=H2/\σ=[some (.ref a),some (.int i),some (.str "abcdefghijklmnopqrstuvwxyz"),some (.int (1+J)),some (.int G),some (.int I),some (.ref p),some (.int ((0:Int)+j)),some (.str (Qz ds)),z3,z4],?_,?_⟩
   .exists (exI rfl ⟨a,ns,_,_,_,rfl,s1.sql hS,h0,⋯,⋯,⋯,λr3 _ l3 u3=>?_⟩);refine⟨rfl,_,rfl,v9 (λe=>?_) (λe=>⟨cs,⟨Z,⋯,⋯,U⟩,rfl,rfl⟩)⟩;have q0:=bI (2*((0:Int)+j)) (show(7:Int)≠0 by decide);exists (exI rfl (xb rfl rfl (exI rfl (exI rfl (xb rfl rfl ⟨(sm _ ⋯ ⋯).ok (sm _ ⋯ ⋯) ⋯,xb rfl rfl ⟨(by walk_at "pos"),xb rfl rfl ⟨_,_,rfl,_,rfl,?_⟩⟩⟩)))));obtain⟨n,hn,n1,n2⟩:∃n:Nat,(if 1+J-2*((0:Int)+j)%7>G+1 then 1+J-2*((0:Int)+j)%7 else G+1)=(n:Int)/\G.toNat<n/\n<=cs.length:=by refine⟨(if 1+J-2*((0:Int)+j)%7>G+1 then 1+J-2*((0:Int)+j)%7 else G+1).toNat,?_,?_,?_⟩ <;> split <;> lia
    have e8:Txt.slice (Qz cs) none (some (if 1+J-2*((0:Int)+j)%7>G+1 then 1+J-2*((0:Int)+j)%7 else G+1))=Qz (cs.take n):=by rw[hn];exact wzr cs n2
    have lt:(cs.take n).length=n:=by rw[bG];lia
    refine⟨Qz cs,rfl,by rw[W9];lia,cs.take n,⟨λc ab=>Z c (List.mem_of_mem_take ab),⋯,⋯,?_⟩,rfl,by rw[<-e8];rfl⟩;rw[List.getElem?_take,ak n1];exact U
   .rintro σ H3 ⟨ds,hd,rfl,rfl⟩;exists ⟨.inl ⟨rfl,_,SqL.of f1⟩,exI rfl ⟨_,_,_,rfl,rfl,f1,?_,?_⟩⟩
    .rw[aa,O];lia
    .refine⟨L++[ds],_,_,_,_,by rw[aE,O];rfl,λt a6 S=>?_,Same.upd2 s1 np,?_,rfl⟩
     .rcases de t L.length with q|q
      .rw[bz q]at S;exact hL t a6 S
      .rw[bi q]at S;have:t=L.length:=by
        rcases(by lia:t-L.length=0\/1<=t-L.length) with y|y
        .lia
        .rw[bg (by simpa using y)]at S;cases S
       subst this;rw[Nat.sub_self]at S;cases S;rw[Int.zero_add]at hd;rw[O];exact hd
     .rw[aV];exact qb
 .rintro σ H1 ⟨L,z1,z2,z3,z4,O,hL,s1,f1,rfl⟩;have O:L.length=5:=O;subst ah;exists (kk p L H1 s1 np f1 O (λcs ad=>?_) ?_)
  .obtain⟨t,ht,rfl⟩:=List.mem_iff_getElem.mp ad;obtain⟨q1,q2,q3,_⟩:=hL t _ (aj ht);exact⟨q1,q2,q3⟩
  .refine List.pairwise_iff_getElem.mpr λx y hx hy a7 e=>?_;have e1:=(hL x _ (aj hx)).2.2.2;have e2:=(hL y _ (aj hy)).2.2.2;rw[e,e2]at e1;have e3:=au e1;have a0:=bI (I+5*(x:Int)) (show(26:Int)≠0 by decide);have b0:=bI (I+5*(y:Int)) (show(26:Int)≠0 by decide);have:(I+5*(x:Int))%26=(I+5*(y:Int))%26:=by lia
   lia
theorem xwm {n:Nat}{k:Int}(h0:0<=k)(h1:k<n):ixN n k=some k.toNat:=by unfold ixN;rw[ak h0,ak h1]
variable {z:V}
theorem sz3 {x y:V}:[x,y,z].length<=sizeLine:=by show 3<=sizeLine;decide
def wvc (K:Aa):Sp:=λvs H Q _=>∃(a:Aj) (ns:List Int) (i:Int),vs=[.ref a,.int i]/\SqL K H a (ns.map V.int)/\0<=i/\∀(p:Aj) (hs:List Int) (H':Hp),Same H H'->H p=none->H' p=some (.lst (hs.map V.int))->2<=hs.length->hs.length<=5->Q (.ref p) H'
include T in
theorem xzv (F:Fun K "_law_line" "_law_line" zcu f fd)(zaa:↑Cal "_law_pick" 2 (W8 K)):↑FK 3 f fd ["_law_script","_law_at"] (wvc K):=by
 have sc:=qum;refine F.okX sc ⋯ λ_ _ _ _ H vs Q E hr h=>?_;obtain⟨a,I,i,rfl,L,O,k⟩:=h;refine⟨_,(qy (xx (i:=2) (xz zf qc (wCA zaa (q9 (pv 0) (q9 (pv 1) (xu qc (xu qc qk)))))))
   (qy (wvr (i:=3) (M:=[0,1,2]) sc.nd rfl (by walk_at "loc") rfl rfl (by walk_at "cap") (by walk_at "has") (by walk_at "cix") rfl (by decide +kernel) rfl (show List.Nodup (["_law_k","_law_script","_law_at","_law_wide"]:List Str) by decide +kernel) (ut rfl T.range_ (vg (xz zf (pv 2) qc) qk)) (λ_ _ _ _ _=>(wc zaa (hr.mono ⋯) rfl J1 (q9 (pv 1) (q9 (pv 2) (vg (xz zf qc (pv 0)) (vg (xz zf (pv 3) qc) qk)))))))
   (jf (x4 (wn zd (wCA zaa (q9 (pv 0) (q9 (pv 1) (xu qc (xu qc qk))))) qc (wt _)) (qt (k8 (xj zt (yj (xwy (Yg Wg qc) (vg (xz zf (pv 2) qc) qk))) (wCA zaa (q9 (pv 0) (q9 (pv 1) (xu qc (xu qc qk))))) (λ_ _=>rfl)) (wzq (pv 3) (wCA zaa (q9 (pv 0) (q9 (pv 1) (xu qc (vg (xz zf (pv 2) qc) qk))))) qx9))) w9)
   (qt (w6 (pv 3)))))),?_⟩
 exists (exI rfl ⟨a,I,_,_,_,rfl,L,O,⋯,⋯,⋯,λG _ l1 u1=>?_⟩);refine xb rfl rfl ?_;have ad:(1+G+1).toNat<=1000000:=by lia
 exists (xb rfl rfl ⟨1+G+1,rfl,⋯,⋯,wvw (λj=>V.int (qq5 I i (5+((0:Int)+j)) (1+G+1))) ad (λj H' R hj hs hR=>?_) λp np=>?_⟩)
 .exists (exI rfl (exI rfl (xb rfl rfl (exI rfl (xb rfl rfl ⟨a,I,_,_,_,rfl,Same.sql hs L,O,⋯,⋯,⋯,λr e _ _=>?_⟩)))));rw[e];exact hR
 .obtain⟨hs,ab⟩:∃hs:List Int,hs=(List.range (1+G+1).toNat).map λj:Nat=>qq5 I i (5+((0:Int)+j)) (1+G+1):=⟨_,rfl⟩;have em:(List.range (1+G+1).toNat).map (λj:Nat=>V.int (qq5 I i (5+((0:Int)+j)) (1+G+1)))=hs.map V.int:=by rw[ab,bq];rfl
  have el:hs.length=(1+G+1).toNat:=by rw[ab,aa,aR]
  have J:Same H (upd H p (.lst ((List.range (1+G+1).toNat).map λj:Nat=>V.int (qq5 I i (5+((0:Int)+j)) (1+G+1))))):=Same.upd np;have Z:upd H p (.lst ((List.range (1+G+1).toNat).map λj:Nat=>V.int (qq5 I i (5+((0:Int)+j)) (1+G+1)))) p=some (.lst (hs.map V.int)):=by rw[qb,em]
  generalize upd H p (.lst ((List.range (1+G+1).toNat).map λj:Nat=>V.int (qq5 I i (5+((0:Int)+j)) (1+G+1))))=H1 at J Z;clear ab em;refine⟨λσ H'=>∃hs':List Int,σ=[some (.ref a),some (.int i),some (.int (1+G)),some (.ref p)]/\Same H H'/\H' p=some (.lst (hs'.map V.int))/\2<=hs'.length/\hs'.length<=5,?_,?_⟩
  .exists (exI rfl ⟨a,I,_,_,_,rfl,J.sql L,O,⋯,⋯,⋯,λr2 _ l2 u2=>?_⟩);refine⟨rfl,_,rfl,v9 (λq1=>?_) (λq1=>⟨hs,rfl,J,Z,⋯,⋯⟩)⟩;refine⟨1,rfl,exI rfl (xb rfl rfl ⟨sz2,λq nq=>?_⟩)⟩;have s2:Same H1 (upd H1 q (.lst [.int (-1),.int (1+G+1)])):=Same.upd nq;exists (exI rfl ⟨a,I,_,_,_,rfl,(J.trans s2).sql L,O,⋯,⋯,⋯,λU _ l3 u3=>?_⟩);obtain⟨y,ey⟩:∃y:Int,atI [V.int (-1),V.int (1+G+1)] U=some (.int y):=by rcases(by lia:U=0\/U=1) with e|e <;> (subst e;exact⟨_,rfl⟩)
   refine exX rfl rfl SqL.new ey ?_;have S:=s2 _ _ Z;generalize upd H1 q (.lst [.int (-1),.int (1+G+1)])=H2 at s2 S;exists (exI rfl (exI rfl (exI rfl (xb rfl rfl ⟨a,I,_,_,_,rfl,(J.trans s2).sql L,O,⋯,⋯,⋯,λr4 _ l4 u4=>?_⟩))));refine⟨p,_,_,r4.toNat,rfl,rfl,S,xwm l4 (by rw[aa];lia),hs.set r4.toNat y,rfl,λb o e=>?_,?_,by rw[cP];lia,by rw[cP];lia⟩
   .rw[wg (wq e np)];exact s2 _ _ (J _ _ e)
   .rw[qb,List.map_set]
  .rintro σ Hx ⟨hs',rfl,s2,S,l2,l5⟩;exact exI rfl (k p hs' Hx s2 np S l2 l5)
def wqd (K:Aa):Sp:=λvs H Q _=>∃(a:Aj) (ns:List Int) (i:Int),vs=[.ref a,.int i]/\SqL K H a (ns.map V.int)/\0<=i/\∀(m:Int) (H':Hp),Same H H'->Q (.int m) H'
include T in
theorem xwk (F:Fun K "_law_steps" "_law_steps" zcv f fd)(za8:↑Cal "_law_cell" 1 (qz5 K))(zaa:↑Cal "_law_pick" 2 (W8 K)):↑FK 3 f fd ["_law_script","_law_at"] (wqd K):=by
 have U:=qkv;refine F.okX U (λS H Q E h=>by obtain⟨_,_,_,rfl,_⟩:=h;rfl) λ_ _ _ _ H S Q E hr h=>?_;obtain⟨a,I,i,rfl,J,L,k⟩:=h;refine⟨_,(qy (xx (i:=2) (wCA zaa (q9 (pv 0) (q9 (pv 1) (xu qc (xu qc qk))))))
   (qy (x4 (wn j8 (pv 2) qc (wt _)) (qt (w6 (xj zt (yj (xwy (Yg Wg qc) (vg (xz qqu qc qc) (vg (xz zf (xz qqu qc qc) qc) qk)))) (pv 2) (λ_ _=>rfl)))) w9)
   (qy (x4 (wn j8 (pv 2) qc (wt _)) (qt (w6 (xz jm (wCA za8 (q9 (pv 0) (q9 (pv 1) qk))) (xz qqu qc qc)))) w9)
   (qt (w6 (wCA zaa (q9 (pv 0) (q9 (pv 1) (xu qc (xu qc qk)))))))))),?_⟩
 exists (exI rfl ⟨a,I,_,_,_,rfl,J,L,⋯,⋯,⋯,λG _ l1 u1=>?_⟩);have pw:∃i:Int,∀(X:V),True:=⟨0,λ_=>trivial⟩;exists (xb rfl rfl (exI rfl (zn (λz=>?_) (λz=>?_))))
 .exists (xb rfl rfl ⟨⟨⋯,⋯,⋯⟩,xb rfl rfl ⟨⟨⋯,⋯,⋯⟩,xb rfl rfl ⟨sz3,λq nq=>?_⟩⟩⟩);have:G<3:=z;obtain⟨y,ey⟩:∃y:Int,atI [V.int (-1),V.int (10 ^ (60:Int).toNat),V.int (10 ^ (60:Int).toNat+1)] G=some (.int y):=by rcases(by lia:G=0\/G=1\/G=2) with e|e|e <;> (subst e;exact⟨_,rfl⟩)
  exact exI rfl (exX rfl rfl SqL.new ey (k y _ (Same.upd nq)))
 .exists (xb rfl rfl (exI rfl (zn (λO=>?_) (λO=>?_))))
  .exists (exI rfl ⟨a,I,exI rfl ⟨J,⋯,λc8 _=>?_⟩⟩);exact xb rfl rfl ⟨⟨⋯,⋯,⋯⟩,xb rfl rfl ⟨(show(0:Int)<10 ^ (60:Int).toNat by decide +kernel),k _ H (Same.refl _)⟩⟩
  .exact exI rfl (exI rfl ⟨a,I,_,_,_,rfl,J,L,⋯,⋯,⋯,λZ _ l2 u2=>k Z H (Same.refl _)⟩)
def NmsAt (H:Hp)(q:Aj)(ss:List Str):Prop:=H q=some (.lst (ss.map V.str))/\ss.length=5/\∀s∈ss,s.length<=12
theorem NmsAt.same (h:NmsAt H q ss)(s:Same H H'):NmsAt H' q ss:=⟨s _ _ h.1,h.2⟩
theorem nms_at (l:ss.length=5){r:Int}(h0:0<=r)(h1:r<5):∃n,n∈ss/\atI (ss.map V.str) r=some (.str n):=by
 match ss,l with
 |[a,b,c,d,e],_ =>
  rcases(by lia:r=0\/r=1\/r=2\/r=3\/r=4) with z | z | z | z | z <;> (subst z;first | exact⟨a,by simp,rfl⟩ | exact⟨b,by simp,rfl⟩ | exact⟨c,by simp,rfl⟩ | exact⟨d,by simp,rfl⟩ | exact⟨e,by simp,rfl⟩)
theorem W5 (x y:Str):(x++y).length=x.length+y.length:=by show(x.cps++y.cps).size=_;rw[Array.size_append];rfl
theorem sz5 {x y u:V}:[v,x,y,z,u].length<=sizeLine:=by show 5<=sizeLine;decide
def qu8 (K:Aa):Sp:=λvs H Q _=>∃(a q:Aj) (ns:List Int) (i t:Int) (ss:List Str),vs=[.ref a,.int i,.int t,.ref q]/\SqL K H a (ns.map V.int)/\0<=i/\0<=t/\t<=10/\NmsAt H q ss/\∀(n:Str) (H':Hp),Same H H'->n.length<=30->Q (.str n) H'
include T in
theorem xw0 (F:Fun K "_law_named" "_law_named" zcw f fd)(zaa:↑Cal "_law_pick" 2 (W8 K)):↑FK 3 f fd ["_law_script","_law_at","_law_turn","_law_names_here"] (qu8 K):=by
 have sc:=qkr;refine F.okX sc (λZ H Q E h=>by obtain⟨_,_,_,_,_,_,rfl,_⟩:=h;rfl) λ_ A _ _ H Z Q E hr h=>?_;obtain⟨a,q,J,i,t,ss,rfl,O,S,t0,t1,L,k⟩:=h;refine⟨_,(qy (xx (i:=4) (xj zt (pv 3) (wCA zaa (q9 (pv 0) (q9 (pv 1) (q9 (pv 2) (xu qc qk))))) (λ_ _=>rfl)))
   (jf (x4 (wn zd (wCA zaa (q9 (pv 0) (q9 (pv 1) (vg (xz zf (pv 2) qc) (xu qc qk))))) qc (wt _)) (qt (xx (i:=4) (xj zt (yj (xu xn (xu xn (vg (xz Wj (pv 4) xn) (vg (xz Wj (Y3 xxd (pv 4) (qwp qc) qw5) xn) (vg (xz Wj (pv 4) xn) qk)))))) (wCA zaa (q9 (pv 0) (q9 (pv 1) (vg (xz zf (pv 2) qc) (xu qc qk))))) (λ_ _=>rfl)))) w9)
   (qt (w6 (pv 4))))),?_⟩
 exists (exI rfl (exI rfl (exI rfl ⟨a,J,_,_,_,rfl,O,S,⋯,⋯,⋯,λr1 _ U u1=>?_⟩)));obtain⟨n,hn,en⟩:=nms_at L.2.1 U u1;have ln:=L.2.2 n hn;refine exX rfl rfl (SqL.of L.1) en ?_;refine⟨λσ H'=>∃n',σ=[some (.ref a),some (.int i),some (.int t),some (.ref q),some (.str n')]/\Same H H'/\n'.length<=30,?_,?_⟩
 .exists (exI rfl (exI rfl (xb rfl rfl ⟨a,J,_,_,_,rfl,O,S,⋯,⋯,⋯,λr2 _ l2 u2=>?_⟩)));refine⟨rfl,_,rfl,v9 (λq1=>?_) (λq1=>⟨n,rfl,Same.refl _,⋯⟩)⟩;have ah:(1000:Nat)<=sizeLine:=by decide
  have ad:(("abcdefghijklm" : Str)).length=13:=by decide +kernel
  have U:(("1" : Str)).length=1:=by decide +kernel
  have ab:((" " : Str)).length=1:=by decide +kernel
  have lA:(("A" : Str)).length=1:=by decide +kernel
  have l0:(("" : Str)).length=0:=by decide +kernel
  have ls:=Txt.slice_le n (some 1) none;refine⟨_,rfl,n,"abcdefghijklm",rfl,rfl,⋯,_,rfl,1,rfl,n,rfl,⋯,_,"1",rfl,rfl,⋯,_,rfl,n," ",rfl,rfl,⋯,sz5,λp np=>?_⟩;have I:=Same.upd (H:=H) (o:=.lst [.str "",.str "A",.str (n ++ "abcdefghijklm"),.str (Txt.slice n (some 1) none ++ "1"),.str (n ++ " ")]) np;exists (exI rfl (exI rfl (xb rfl rfl ⟨a,J,_,_,_,rfl,I.sql O,S,⋯,⋯,⋯,λG _ l3 u3=>?_⟩)));obtain⟨y,ly,ey⟩:∃y:Str,y.length<=30/\atI [V.str "",V.str "A",V.str (n ++ "abcdefghijklm"),V.str (Txt.slice n (some 1) none ++ "1"),V.str (n ++ " ")] G=some (.str y):=by
   rcases(by lia:G=0\/G=1\/G=2\/G=3\/G=4) with e|e|e|e|e
   .subst e;exact⟨_,by rw[l0];lia,rfl⟩
   .subst e;exact⟨_,by rw[lA];lia,rfl⟩
   .subst e;exact⟨_,by rw[W5];lia,rfl⟩
   .subst e;exact⟨_,by rw[W5];lia,rfl⟩
   .subst e;exact⟨_,by rw[W5];lia,rfl⟩
  exact exX rfl rfl SqL.new ey ⟨y,rfl,I,ly⟩
 .rintro σ Hx ⟨n',rfl,I,l⟩;exact exI rfl (k n' Hx I l)
def wkf:List Expr->Option (List Int)
 |[]=>some []
 |.Constant (.int x) _ _::r=>(wkf r).map (x::·)
 |_=>none
set_option tactic.hygienic true in
theorem wjk {X:Cx}:∀ {es:List Expr} {ns:List Int},wkf es=some ns->PA X es (λ_ H Q=>Q (ns.map V.int) H)
 |[],vs,h=>by cases h;exact qk
 |e::r,vs,h=>by
  unfold wkf at h;split at h
  .next _=>simp at *
  .next x j p r' he =>
   cases he;obtain⟨ws,hw,rfl⟩:=dW.mp h;exact xu qc (wjk hw)
  .cases h
theorem sz21 {l:List V}(h:l.length<=30):l.length<=sizeLine:=bB h ⋯
theorem sz4 {x y u:V}:[x,y,z,u].length<=sizeLine:=by show 4<=sizeLine;decide
noncomputable def menuI:List Int:=[0,0,0,0,1,1,2,3,4,5,5,5,5,5,6,7,7,7,8,8,9]
theorem xkj:∀i:Nat,i<21->0<=hAt menuI (i:Int)/\hAt menuI (i:Int)<=9:=by decide +kernel
def quf (K:Aa):Sp:=λvs H Q _=>∃(a q:Aj) (ns:List Int) (i:Int) (ss:List Str),vs=[.ref a,.int i,.ref q]/\SqL K H a (ns.map V.int)/\0<=i/\NmsAt H q ss/\∀(p:Aj) (d:Dd) (H':Hp),Same H H'->DdAt H' p d->Q (.ref p) H'
include T in
theorem wuy (F:Fun K "_law_deed" "_law_deed" za1 f fd)(zaa:↑Cal "_law_pick" 2 (W8 K))(zhv:↑Cal "_law_named" 3 (qu8 K))(zja:↑Cal "_law_line" 3 (wvc K))(zjb:↑Cal "_law_steps" 3 (wqd K)):↑FK 4 f fd ["_law_script","_law_at","_law_names_here"] (quf K):=by
 have sc:=qy2;refine F.okX sc ⋯ λ_ _ _ _ H vs Q E hr h=>?_;obtain⟨a,q,I,i,ss,rfl,hS,J,hq,k⟩:=h;obtain⟨p1,es,p,p',he,hv⟩:∃p1 es p p',jk za1=.Assign [.Name "_law_menu" p1] (.List es p) p'::(jk za1).drop 1/\wkf es=some menuI:=⟨_,_,_,_,rfl,rfl⟩;rw[he];clear he;refine⟨_,qy (xx (i:=3) (yj (wjk hv))) (qy (xx (i:=4) (xj zt (pv 3) (wCA zaa (q9 (pv 0) (q9 (pv 1) (xu qc (xu qc qk))))) (λ_ _=>rfl)))
   (qy (xx (i:=5) (wCA zhv (q9 (pv 0) (q9 (pv 1) (xu qc (q9 (pv 2) qk))))))
   (qy (x4 (wn zd (pv 4) qc (wt _)) (qt (w6 (zk (q9 (pv 4) (q9 (pv 5) (k6 (wCA zja (q9 (pv 0) (q9 (pv 1) qk))) qk)))))) w9)
   (qy (x4 (wn zd (pv 4) qc (wt _)) (qt (w6 (zk (q9 (pv 4) (q9 (pv 5) (vg (xz kh (wCA zaa (q9 (pv 0) (q9 (pv 1) (xu qc (xu qc qk))))) qc) (vg (xz kh (wCA zaa (q9 (pv 0) (q9 (pv 1) (xu qc (xu qc qk))))) qc) qk))))))) w9)
   (qy (x4 (wn zd (pv 4) qc (wt _)) (qt (w6 (zk (q9 (pv 4) (q9 (pv 5) (vg (xz kh (wCA zaa (q9 (pv 0) (q9 (pv 1) (xu qc (xu qc qk))))) qc) qk)))))) w9)
   (qy (x4 (wn zd (pv 4) qc (wt _)) (qy (xx (i:=6) (wCA zaa (q9 (pv 0) (q9 (pv 1) (xu qc (xu qc qk))))))
   (jf (x4 (wn y4 (wCA zaa (q9 (pv 0) (q9 (pv 1) (xu qc (xu qc qk))))) qc (wt _)) (qt (xx (i:=6) (xz zf qc (xz jm (pv 6) qc)))) w9)
   (qy (xx (i:=7) (xz zf (xz zp (wCA zaa (q9 (pv 0) (q9 (pv 1) (xu qc (xu qc qk))))) (pv 6)) (wCA zaa (q9 (pv 0) (q9 (pv 1) (xu qc (vg (xz zf (pv 6) qc) qk)))))))
   (jf (x4 (wn zd (wCA zaa (q9 (pv 0) (q9 (pv 1) (xu qc (xu qc qk))))) qc (wt _)) (qt (xx (i:=7) (xz kh (Yg Wg qc) (pv 7)))) w9)
   (qt (w6 (zk (q9 (pv 4) (q9 (pv 5) (k6 (wCA zhv (q9 (pv 0) (q9 (pv 1) (xu qc (q9 (pv 2) qk))))) (qzv (zk (q9 (pv 7) (q9 (pv 6) qk))) qk))))))))))) w9)
   (qy (x4 (PW.pt (Qk (wn zd (pv 4) qc (wt _)) (y8 (wn zd (pv 4) qc (wt _))))) (qt (w6 (zk (q9 (pv 4) (q9 (pv 5) (k6 (wCA zjb (q9 (pv 0) (q9 (pv 1) qk))) qk)))))) w9)
   (qt (w6 (zk (q9 (pv 4) (q9 (pv 5) qk)))))))))))),?_⟩
 dsimp only [yf];refine c7 λ_ _ _ _ _ _ _ a4 a3 a2 a1 a0 ap an=>?_;subst a4;refine⟨sz21 (l:=menuI.map V.int) (show 21<=30 by decide),λpm ah=>?_⟩;have s1:=Same.upd (H:=H) (o:=.lst (menuI.map V.int)) ah;have f1:upd H pm (.lst (menuI.map V.int)) pm=some (.lst (menuI.map V.int)):=qb;generalize upd H pm (.lst (menuI.map V.int))=H1 at s1 f1;subst a3;exists (exI rfl (exI rfl ⟨a,I,_,_,_,rfl,s1.sql hS,J,⋯,⋯,⋯,λU _ l0 u0=>?_⟩));have ad:atI (menuI.map V.int) U=some (.int (hAt menuI U)):=Jz l0 (show U<(21:Nat) by lia);have kb:=xkj U.toNat ⋯;rw[show((U.toNat:Nat):Int)=U by lia]at kb;obtain⟨k0,k9⟩:=kb;generalize hAt menuI U=kd at ad k0 k9;refine exX rfl rfl (SqL.of f1) ad ?_;subst a2;refine⟨_,rfl,_,rfl,_,rfl,a,q,I,i,1,ss,rfl,s1.sql hS,J,⋯,⋯,hq.same s1,λn H2 s2 ln=>?_⟩;have L:=s1.trans s2;have O:=L.sql hS;clear f1 ad;subst a1;exists ⟨rfl,_,rfl,v9 (λz=>?_) (λz0=>?_)⟩
 .subst z;exists (exI rfl (exI rfl (exI rfl ⟨a,I,i,rfl,O,J,λp hs H3 S np f3 l2 l5=>⟨sz3,λt G=>?_⟩⟩)));exact k t (.lay n hs) _ ((L.trans S).trans (Same.upd G)) ⟨p,qb,(Same.upd G) _ _ f3,l2,⋯,⋯⟩
 subst a0;exists ⟨rfl,_,rfl,v9 (λz=>?_) (λz1=>?_)⟩
 .subst z;exists (exI rfl (exI rfl (exI rfl ⟨a,I,_,_,_,rfl,O,J,⋯,⋯,⋯,λZ _ l1 u1=>?_⟩)));refine xb rfl rfl (exI rfl (exI rfl ⟨a,I,_,_,_,rfl,O,J,⋯,⋯,⋯,λr2 _ l2 u2=>?_⟩));exact xb rfl rfl ⟨sz4,λt G=>k t (.bend n (Z-1) (r2-1)) _ (L.trans (Same.upd G)) qb⟩
 subst ap;exists ⟨rfl,_,rfl,v9 (λz=>?_) (λz2=>?_)⟩
 .subst z;exists (exI rfl (exI rfl (exI rfl ⟨a,I,_,_,_,rfl,O,J,⋯,⋯,⋯,λZ _ l1 u1=>?_⟩)));exact xb rfl rfl ⟨sz3,λt G=>k t (.widen n (Z-1)) _ (L.trans (Same.upd G)) qb⟩
 subst an;exists ⟨rfl,_,rfl,v9 (λz=>?_) (λz5=>?_)⟩
 .subst z;exists (exI rfl ⟨a,I,_,_,_,rfl,O,J,⋯,⋯,⋯,λZ _ l1 u1=>?_⟩);refine⟨λσ H'=>H'=H2/\∃b:Int,σ=[some (.ref a),some (.int i),some (.ref q),some (.ref pm),some (.int 5),some (.str n),some (.int b),none]/\0<=b/\b<=50,?_,?_⟩
  .exists (exI rfl ⟨a,I,_,_,_,rfl,O,J,⋯,⋯,⋯,λr2 _ l2 u2=>?_⟩);refine xb rfl rfl (exI rfl (zn (λz=>?_) (λz=>⟨rfl,_,rfl,⋯,⋯⟩)));have e1:=bI Z (show(5:Int)≠0 by decide);have e2:=bO Z (show(0:Int)<5 by decide);exact⟨_,rfl,_,_,rfl,rfl,(by walk_at "pos"),_,_,rfl,rfl,rfl,_,rfl,⋯,⋯⟩
  .rintro σ Hx ⟨rfl,b,rfl,b0,b1⟩;exists (exI rfl ⟨a,I,_,_,_,rfl,O,J,⋯,⋯,⋯,λr3 _ l3 u3=>?_⟩);exists (xb rfl rfl ⟨(by walk_at "mul"),exI rfl (exI rfl (exI rfl (xb rfl rfl ⟨a,I,_,_,_,rfl,O,J,⋯,⋯,⋯,λr4 _ l4 u4=>?_⟩)))⟩);have m1:=Int.mul_le_mul (show r3<=3 by lia) b1 b0 ⋯;have m0:=dz l3 b0;refine xb rfl rfl ?_;refine⟨λσ H'=>H'=Hx/\∃t:Int,σ=[some (.ref a),some (.int i),some (.ref q),some (.ref pm),some (.int 5),some (.str n),some (.int b),some (.int t)]/\-1000<=t/\t<=1000,?_,?_⟩
   .exists (exI rfl ⟨a,I,_,_,_,rfl,O,J,⋯,⋯,⋯,λr5 _ l5 u5=>?_⟩);refine⟨rfl,_,rfl,v9 (λz=>?_) (λz=>⟨rfl,_,rfl,⋯,⋯⟩)⟩;exact⟨1,rfl,_,rfl,_,_,rfl,rfl,rfl,_,rfl,⋯,⋯⟩
   .rintro σ Hy ⟨rfl,t,rfl,t0,t1⟩;refine⟨_,rfl,_,rfl,_,rfl,_,rfl,_,rfl,a,q,I,i,2,ss,rfl,O,J,⋯,⋯,hq.same L,λn2 H3 S a6=>?_⟩;exists (exI rfl ⟨sz2,λp np=>⟨sz4,λt' G=>?_⟩⟩);have s4:=Same.upd (H:=H3) (o:=.tup [.int t,.int b]) np;have s5:=Same.upd (H:=upd H3 p (.tup [.int t,.int b])) (o:=.tup [.int 5,.str n,.str n2,.ref p]) G;exact k t' (.place n n2 t b) _ (((L.trans S).trans s4).trans s5) ⟨p,qb,s5 _ _ qb,⋯,⋯,⋯⟩
 have go:∀ab,ab=kd->(ab=7\/ab=8)->∀(m:Int) (H3:Hp) (t:Aj),Same H2 H3->H3 t=none->Q (.ref t) (upd H3 t (.tup [.int kd,.str n,.int m])):=λab e z m H3 t S G=>by
  subst e;rcases z with z|z
  .subst z;exact k t (.go n m) _ ((L.trans S).trans (Same.upd G)) qb
  .subst z;exact k t (.tog n m) _ ((L.trans S).trans (Same.upd G)) qb
 exists ⟨rfl,_,rfl,v9 (λz=>jg ?_) (λz7=>?_)⟩
 .exact exI rfl (exI rfl (exI rfl (exI rfl ⟨a,I,i,rfl,O,J,λm H3 S=>⟨sz3,λt G=>go kd rfl (.inl z) m H3 t S G⟩⟩)))
 exists ⟨rfl,_,rfl,v9 (λz=>?_) (λz8=>?_)⟩
 .exact exI rfl (exI rfl (exI rfl (exI rfl ⟨a,I,i,rfl,O,J,λm H3 S=>⟨sz3,λt G=>go kd rfl (.inr z) m H3 t S G⟩⟩)))
 exists (exI rfl ⟨sz2,λt G=>?_⟩);rcases(by lia:kd=3\/kd=4\/kd=6\/kd=9) with e|e|e|e
 .subst e;exact k t (.narrow n) _ (L.trans (Same.upd G)) qb
 .subst e;exact k t (.clear n) _ (L.trans (Same.upd G)) qb
 .subst e;exact k t (.leave n) _ (L.trans (Same.upd G)) qb
 .subst e;exact k t (.back n) _ (L.trans (Same.upd G)) qb
def Yw:Sp:=λvs H Q _=>∃x:Str,vs=[.str x]/\x.length<=1000/\∀H',Same H H'->Q (.bl (zj x)) H'
theorem filt0 {n:Nat}{c:Nat->Bool}:((List.range n).filter c).length=0↔(List.range n).all (λi=>!c i)=true:=by rw[cx,List.filter_eq_nil_iff,bJ];simp
include T in
theorem qyq (F:Fun K "_law_good_name" "_law_good_name" zcx f fd):↑FK 1 f fd ["_law_name"] Yw:=by
 have J:=Ym;refine F.okX J (λU H Q E h=>by obtain⟨_,rfl,_⟩:=h;rfl) λ_ _ _ _ H U Q E hr h=>?_;obtain⟨x,rfl,hx,k⟩:=h;have ab:(1000000:Nat)<sizeLine:=by decide
 refine⟨_,(qy (qq0 (i:=1) (M:=[]) J.nd rfl (by walk_at "loc") rfl rfl (by walk_at "cap") (by walk_at "has") (by walk_at "cix") rfl (by decide +kernel) rfl (show List.Nodup (["_law_sign"]:List Str) by decide +kernel) (wzf (pv 0)) (λ_ _ _ _ _=>(wn qyy (pv 0) xn rfl)) (λ_ _ _ _ _=>(pv 0)))
   (qt (w6 (qxb (yw wqp qc (xh jr rfl T.len_ aF (q9 (pv 0) qk)) (wt _)) (qxb (yw wqp (xh jr rfl T.len_ aF (q9 (pv 0) qk)) qc (wt _)) (wz8 (yw zd (xh x9 rfl T.len_ aF (q9 (pv 1) qk)) qc (wt _)))))))),?_⟩
 exists ⟨x,rfl,wj3 (λi=>!Jc (x.cps.getD i 0)) (by show x.length<=1000000;lia) (λi H' R hi hs I=>(exI rfl (xb rfl rfl (exI rfl I)))) (λi H' R hi hc hs I=>(exI rfl I)) λp ys np Z=>?_⟩;have G:=Same.upd (H:=H) (o:=.lst ys) np;have S:upd H p (.lst ys) p=some (.lst ys):=qb;generalize upd H p (.lst ys)=H1 at G S;have L:∀z:¬ (1<=x.length/\x.length<=12),Q (.bl false) H1:=λz=>by have:=k H1 G;unfold zj at this;rw[be z]at this;exact this
 refine⟨_,rfl,x,rfl,⋯,_,_,rfl,rfl,_,rfl,zn (λc1=>?_) (λc1=>?_)⟩
 .refine⟨_,rfl,x,rfl,⋯,_,_,rfl,rfl,_,rfl,zn (λc2=>?_) (λc2=>?_)⟩
  .exists ⟨p,exI rfl ⟨.inl (SqL.of S),rfl,?_⟩⟩;have e:decide (V.int (ys.length:Int)=V.int 0)=zj x:=by
    unfold zj;rw[aT (show 1<=x.length/\x.length<=12 by lia),Bool.true_and];have:=filt0 (n:=x.cps.size) (c:=λi=>!Jc (x.cps.getD i 0));simp only[Bool.not_not]at this;cases h:(List.range x.cps.size).all (λi=>Jc (x.cps.getD i 0)) with
    |true=>exact aT (by rw[Z,this.mpr h];rfl)
    |false=>exact be (λz=>by
      have z:(ys.length:Int)=0:=by injection z
      rw[this.mp ⋯]at h;cases h)
   have O:=k H1 G;rw[<-e]at O;exact O
  .exact L ⋯
 .exact L ⋯
open Classical in
def Yy:Sp:=λvs H Q _=>∃(p:Aj) (hs:List Int),vs=[.ref p]/\H p=some (.lst (hs.map V.int))/\hs.length<=1000/\(xm hs->∀H',Same H H'->Q (.bl true) H')/\(¬ xm hs->∀H',Same H H'->Q (.bl false) H')
include T in
theorem wqb (F:Fun K "_law_good_line" "_law_good_line" zcy f fd):↑FK 1 f fd ["_law_row"] Yy:=by
 have sc:=Yn;refine F.okX sc ⋯ λ_ _ _ s H vs Q E hr h=>?_;obtain⟨p,hs,rfl,S,hl,kt,U⟩:=h;refine⟨_,(qy (qq0 (i:=1) (M:=[0]) sc.nd rfl (by walk_at "loc") rfl rfl (by walk_at "cap") (by walk_at "has") (by walk_at "cix") rfl (by decide +kernel) rfl (show List.Nodup (["_law_height","_law_row"]:List Str) by decide +kernel) (jp (pv 0)) (λ_ _ _ _ _=>(PW.pt (Qk (wn j8 (pv 0) qc (wt _)) (y8 (wn y4 (pv 0) (xz kh (xh (qkf (K:=K) rfl) rfl T.len_ aF (q9 (pv 1) qk)) qc) (wt _)))))) (λ_ _ _ _ _=>(pv 0)))
   (qt (w6 (qxb (yw wqp qc (xh x9 rfl T.len_ aF (q9 (pv 0) qk)) (wt _)) (qxb (yw wqp (xh x9 rfl T.len_ aF (q9 (pv 0) qk)) qc (wt _)) (wz8 (yw zd (xh x9 rfl T.len_ aF (q9 (pv 1) qk)) qc (wt _)))))))),?_⟩
 have I:(hs.map V.int).length=hs.length:=aa _;let c:Nat->Bool:=λi=>decide (hs.getD i 0<0)||decide (hs.getD i 0>(hs.length:Int)-1);exists ⟨p,rfl,⟨_,SqL.of S⟩,qxj (K:=K) c (SqL.of S) (by rw[I];lia) (λi v H' R J s' G=>?_) (λi v H' R J ci s' G=>(exI rfl (G H' (Same.refl _)))) λq H1 nq L f1=>?_⟩
 .rw[aB]at J;cases em:hs[i]? with
  |none=>rw[em]at J;cases J
  |some h =>
   rw[em]at J;cases J;have O:hs.getD i 0=h:=by rw[av,em];rfl
   have G:=G H' (Same.refl _);have ec:c i=(decide (h<0)||decide (h>(hs.length:Int)-1)):=by show(decide (hs.getD i 0<0)||_)=_;rw[O]
   rw[ec]at G;exists (xb rfl rfl (exI rfl (zn (λz=>?_) (λz=>?_))))
   .rw[aT z,Bool.true_or]at G;exact G
   .rw[be z,Bool.false_or]at G;exists (exI rfl ⟨p,exI rfl ⟨.inl (SqL.of (s' _ _ S)),xb rfl rfl (xb rfl rfl (exI rfl ?_))⟩⟩);rw[I];exact G
 .have Z:(Zr c (hs.map V.int) (hs.map V.int).length).length=0↔∀h∈hs,0<=h/\h<=(hs.length:Int)-1:=by
   unfold Zr;rw[aa,I,filt0,bJ];constructor
   .intro z h hh;obtain⟨i,hi,e⟩:=bD hh;have:=z i (aW.mpr hi);have O:hs.getD i 0=h:=by rw[av,aj hi];exact e
    simp only[c,O,Bool.not_eq_true',Bool.or_eq_false_iff,gh]at this;lia
   .intro z i hi;have hi:=aW.mp hi;have:=z hs[i] (bH hi);have O:hs.getD i 0=hs[i]:=by rw[av,aj hi];rfl
    simp only[c,O,Bool.not_eq_true',Bool.or_eq_false_iff,gh];lia
  generalize Zr c (hs.map V.int) (hs.map V.int).length=ys at Z f1;have ab:=L _ _ S;exists ⟨p,exI rfl ⟨.inl (SqL.of ab),xb rfl rfl (exI rfl (zn (λc1=>?_) (λc1=>?_)))⟩⟩
  .rw[I]at c1;exists ⟨p,exI rfl ⟨.inl (SqL.of ab),xb rfl rfl (exI rfl (zn (λc2=>?_) (λc2=>?_)))⟩⟩
   .rw[I]at c2;exists ⟨q,exI rfl ⟨.inl (SqL.of f1),rfl,?_⟩⟩;by_cases z:∀h∈hs,0<=h/\h<=(hs.length:Int)-1
    .rw[Z.mpr z,aT (show V.int ((0:Nat):Int)=V.int 0 from rfl)];exact kt ⟨⋯,⋯,z⟩ H1 L
    .rw[be (λy=>z (Z.mp (by
      have y:(ys.length:Int)=0:=by injection y
      lia)))]
     exact U (λl=>z l.2.2) H1 L
   .rw[I]at c2;exact U (λl=>by have:=l.2.1;lia) H1 L
  .rw[I]at c1;exact U (λl=>by have:=l.1;lia) H1 L
def qq8 (b:Bool)(o:Option V):Str:=if b=false then "name" else if o.isSome=true then "taken" else ""
def qj8:Sp:=λvs H Q _=>∃(x:Str) (d:Aj) (kvs:List (Key×V)),vs=[.str x,.ref d]/\x.length<=1000/\H d=some (.dK kvs)/\∀H',Same H H'->Q (.str (qq8 (zj x) (wp kvs (.inr x)))) H'
include T in
theorem wqj (F:Fun K "_law_named_new" "_law_named_new" zc4 f fd)(zjc:↑Cal "_law_good_name" 1 Yw):↑FK 2 f fd ["_law_name","_law_known"] qj8:=by
 have L:=Y0;refine F.okX L (λJ H Q E h=>by obtain⟨_,_,_,rfl,_⟩:=h;rfl) λ_ _ _ _ H J Q E S h=>?_;obtain⟨x,d,kvs,rfl,O,U,k⟩:=h;refine⟨_,(qy (x4 (qqb (Q9 (wCA zjc (q9 (pv 0) qk)))) (qt (w6 xn)) w9)
   (qy (x4 (Qm (xwt (vc S) (pv 0) (pv 1))) (qt (w6 xn)) w9)
   (qt (w6 xn)))),?_⟩
 exists ⟨x,rfl,O,λH1 I=>(exI rfl ?_)⟩;have k:=k H1 I;cases nb:zj x with
 |false =>
  rw[nb]at k;exact jg k
 |true =>
  rw[nb]at k;refine yz ?_;have G:DGet H1 d (.str x) (wp kvs (.inr x)):=DGet.k (k:=.inr x) (I _ _ U);cases ev:wp kvs (.inr x) with
  |none =>
   rw[ev]at G k;exact exI rfl (exI rfl ⟨d,exI rfl ⟨G,_,rfl,yz k⟩⟩)
  |some v =>
   rw[ev]at G k;exact exI rfl (exI rfl ⟨d,exI rfl ⟨G,_,rfl,jg k⟩⟩)
def xq8 (H:Hp)(o:Option V):Option (List Int)->Prop
 |none=>o=none
 |some hs=>xm hs/\∃p,o=some (.ref p)/\H p=some (.lst (hs.map V.int))
def xwb (H:Hp)(o:Option V):Option (Str×(Int×Int))->Prop
 |none=>o=none
 |some w=>∃p,o=some (.ref p)/\H p=some (.tup [.str w.1,.int w.2.1,.int w.2.2])
structure BP (H:Hp)(R W:List (Key×V))(b:BA):Prop where
 nR:(R.map (·.1)).Nodup
 nW:(W.map (·.1)).Nodup
 fR:RefsF (wp R)
 fW:RefsF (wp W)
 r:∀n,xq8 H (wp R (.inr n)) (b.rs n)
 w:∀n,xwb H (wp W (.inr n)) (b.ws n)
theorem BP.row (h:BP H R W b){n:Str}{hs:List Int}(e:b.rs n=some hs):xm hs/\∃p,wp R (.inr n)=some (.ref p)/\H p=some (.lst (hs.map V.int)):=by have:=h.r n;rw[e]at this;exact this
theorem BP.noR (h:BP H R W b){n:Str}(e:b.rs n=none):wp R (.inr n)=none:=by have:=h.r n;rw[e]at this;exact this
theorem BP.wlk (h:BP H R W b){n:Str}{v:Str×(Int×Int)}(e:b.ws n=some v):∃p,wp W (.inr n)=some (.ref p)/\H p=some (.tup [.str v.1,.int v.2.1,.int v.2.2]):=by have:=h.w n;rw[e]at this;exact this
theorem BP.noW (h:BP H R W b){n:Str}(e:b.ws n=none):wp W (.inr n)=none:=by have:=h.w n;rw[e]at this;exact this
theorem BP.kb (h:BP H R W b){ch:List Aj}(dl:Dl H ch)(k:Kb ch H H'):BP H' R W b:=by
 refine⟨h.nR,h.nW,h.fR,h.fW,λn=>?_,λn=>?_⟩
 .cases e:b.rs n with
  |none=>exact h.noR e
  |some hs =>
   obtain⟨lo,p,G,F⟩:=h.row e;exact⟨lo,p,G,dl.row k lo F⟩
 .cases e:b.ws n with
  |none=>exact h.noW e
  |some v =>
   obtain⟨p,G,F⟩:=h.wlk e;exact⟨p,G,dl.tup k F⟩
theorem BP.same (h:BP H R W b)(s:Same H H'):BP H' R W b:=h.kb (ch:=[]) Dl.nil (Kb.of s)
theorem wxu (h:RefsF (wp R))(n:Str)(p:Aj):RefsF (wp (v8 R (.inr n) (.ref p))):=λm v e=>by
 rw[Q3]at e;by_cases z:m=.inr n
 .rw[ak z]at e;cases e;exact⟨n,p,z,rfl⟩
 .rw[ag z]at e;exact h m v e
theorem xxc (h:(R.map (·.1)).Nodup)(n:Key)(p:Aj):((v8 R n (.ref p)).map (·.1)).Nodup:=by have:=wvf h (n,.ref p);unfold ex1 at this;rw[ag (λz=>by cases z)]at this;exact this
theorem qjc (h:RefsF (wp R))(n:Str):RefsF (wp (ux R (.inr n))):=λm v e=>by
 by_cases z:m=.inr n
 .rw[z,Q1]at e;cases e
 .rw[Qq z]at e;exact h m v e
theorem wkj (h:(R.map (·.1)).Nodup)(n:Key):((ux R n).map (·.1)).Nodup:=by have:=wvf h (n,.non);unfold ex1 at this;rw[ak rfl]at this;exact this
theorem BP.putR (h:BP H R W b){n:Str}{hs:List Int}{p:Aj}(lo:xm hs)(fp:H p=some (.lst (hs.map V.int))):BP H (v8 R (.inr n) (.ref p)) W (b.putR n hs):=by
 refine⟨xxc h.nR _ _,h.nW,wxu h.fR _ _,h.fW,λm=>?_,h.w⟩;show xq8 H _ (if m=n then some hs else b.rs m);rw[Q3];by_cases z:m=n
 .rw[ak z,ak (by rw[z])];exact⟨lo,p,rfl,fp⟩
 .rw[ag z,ag (λy=>z (by injection y))];exact h.r m
theorem BP.delR (h:BP H R W b)(n:Str):BP H (ux R (.inr n)) W (b.delR n):=by
 refine⟨wkj h.nR _,h.nW,qjc h.fR _,h.fW,λm=>?_,h.w⟩;show xq8 H _ (if m=n then none else b.rs m);by_cases z:m=n
 .rw[ak z,z,Q1];rfl
 .rw[ag z,Qq (λy=>z (by injection y))];exact h.r m
theorem BP.putW (h:BP H R W b){n:Str}{v:Str×(Int×Int)}{p:Aj}(fp:H p=some (.tup [.str v.1,.int v.2.1,.int v.2.2])):BP H R (v8 W (.inr n) (.ref p)) (b.putW n v):=by
 refine⟨h.nR,xxc h.nW _ _,h.fR,wxu h.fW _ _,h.r,λm=>?_⟩;show xwb H _ (if m=n then some v else b.ws m);rw[Q3];by_cases z:m=n
 .rw[ak z,ak (by rw[z])];exact⟨p,rfl,fp⟩
 .rw[ag z,ag (λy=>z (by injection y))];exact h.w m
theorem BP.delW (h:BP H R W b)(n:Str):BP H R (ux W (.inr n)) (b.delW n):=by
 refine⟨h.nR,wkj h.nW _,h.fR,qjc h.fW _,h.r,λm=>?_⟩;show xwb H _ (if m=n then none else b.ws m);by_cases z:m=n
 .rw[ak z,z,Q1];rfl
 .rw[ag z,Qq (λy=>z (by injection y))];exact h.w m
theorem BP.lens (h:BP H R W b){NM:List Str}(bo:BOk NM b):R.length<=NM.length/\W.length<=NM.length:=by
 refine⟨qyb h.nR λk u e=>?_,qyb h.nW λk u e=>?_⟩
 .obtain⟨n,_,rfl,_⟩:=h.fR k u e;refine⟨n,rfl,?_⟩;cases e2:b.rs n with
  |none=>rw[h.noR e2]at e;cases e
  |some hs=>exact(bo.lo n hs e2).2.2
 .obtain⟨n,_,rfl,_⟩:=h.fW k u e;refine⟨n,rfl,?_⟩;cases e2:b.ws n with
  |none=>rw[h.noW e2]at e;cases e
  |some v=>exact(bo.wo n v e2).2.1
structure B2 (H:Hp)(dr dw:Aj)(R W:List (Key×V))(b:BA):Prop where
 r:H dr=some (.dK R)
 w:H dw=some (.dK W)
 ne:dr≠dw
 bp:BP H R W b
theorem B2.dl (h:B2 H dr dw R W b):Dl H [dr,dw]:=.cons (.inl ⟨_,.inl h.r⟩) (.cons (.inl ⟨_,.inl h.w⟩) .nil)
theorem B2.same (h:B2 H dr dw R W b)(s:Same H H'):B2 H' dr dw R W b:=⟨s _ _ h.r,s _ _ h.w,h.ne,h.bp.same s⟩
theorem yk {a:Aj}{o:HO}{ch:List Aj}(h:a∈ch):Kb ch H (upd H a o):=λb x nb e=>by rw[wg (λz=>nb (by rw[z];exact h))];exact e
variable {b':BA}
theorem B2.setR {R':List (Key×V)}(h:B2 H dr dw R W b)(hb:BP H R' W b'):B2 (upd H dr (.dK R')) dr dw R' W b':=by have k:Kb [dr,dw] H (upd H dr (.dK R')):=yk (by simp);exact⟨qb,by rw[wg (aZ h.ne)];exact h.w,h.ne,hb.kb h.dl k⟩
theorem B2.setW {W':List (Key×V)}(h:B2 H dr dw R W b)(hb:BP H R W' b'):B2 (upd H dw (.dK W')) dr dw R W' b':=by have k:Kb [dr,dw] H (upd H dw (.dK W')):=yk (by simp);exact⟨by rw[wg h.ne];exact h.r,qb,h.ne,hb.kb h.dl k⟩
def qz0 (H:Hp)(dr dw:Aj)(b:BA)(d:Dd)(Q:VK):Prop:=∀(q:Aj) (v:V) (H':Hp) (R' W':List (Key×V)),Kb [dr,dw] H H'->B2 H' dr dw R' W' (xq b d).2.2->H' q=some (.tup [.str (xq b d).1,v])->AnsAt H' v (xq b d).2.1->(∀a,v=.ref a->H a=none)->Q (.ref q) H'
def qwy (hs:List Int):Dd->List Int
 |.bend _ c h=>if 0<=c/\c<(hs.length:Int) then hs.set c.toNat h else [0]
 |.widen _ h=>hs++[h]
 |.narrow _=>hs.dropLast
 |_=>hs
def ww4:Dd->Prop
 |.bend _ _ _=>True
 |.widen _ _=>True
 |.narrow _=>True
 |_=>False
def xx3:Sp:=λvs H Q _=>∃(dr da p:Aj) (R:List (Key×V)) (d:Dd) (hs:List Int),vs=[.ref dr,.ref da]/\H dr=some (.dK R)/\DdAt H da d/\ww4 d/\wp R (.inr d.nm)=some (.ref p)/\H p=some (.lst (hs.map V.int))/\1<=hs.length/\hs.length<=100/\∀q H',H q=none->Same H H'->H' q=some (.lst ((qwy hs d).map V.int))->Q (.ref q) H'
include T in
theorem wx6 (F:Fun K "_law_changed" "_law_changed" zc5 f fd):↑FK 1 f fd ["_law_roads","_law_deed_here"] xx3:=by
 have sc:=qwq;refine F.okX sc ⋯ λ_ _ _ _ H vs Q E hr h=>?_;obtain⟨dr,I,p,R,d,hs,rfl,ad,dd,ic,ev,fp,l1,l2,k⟩:=h;have Z:DGet H dr (.str d.nm) (wp R (.inr d.nm)):=DGet.k (k:=.inr d.nm) ad;rw[ev]at Z;have ah:(1000:Nat)<sizeLine:=by decide
 refine⟨_,(qy (xx (i:=2) (vb jt rfl T.list_ bA (zu (jw (vc hr) (pv 0) (xj xk (pv 1) qc (λ_ _=>rfl)) (λ_ _=>rfl)) qk)))
   (jf (x4 (wn zd (xj xk (pv 1) qc (λ_ _=>rfl)) qc (wt _)) (qy (x4 (PW.pt (Qk (wn j8 (xj xk (pv 1) qc (λ_ _=>rfl)) qc (wt _)) (y8 (wn wxf (xj xk (pv 1) qc (λ_ _=>rfl)) (xh x9 rfl T.len_ aF (q9 (pv 2) qk)) (wt _))))) (qt (w6 (yj (xu qc qk)))) w9)
   (qt (k8 (xj xk (pv 1) qc (λ_ _=>rfl)) (wzq (pv 2) (xj xk (pv 1) qc (λ_ _=>rfl)) qx9)))) w9)
   (jf (x4 (wn zd (xj xk (pv 1) qc (λ_ _=>rfl)) qc (wt _)) (qt (zx (Zt bC bS bT y9 (pv 2) (zu (xj xk (pv 1) qc (λ_ _=>rfl)) qk)))) w9)
   (jf (x4 (wn zd (xj xk (pv 1) qc (λ_ _=>rfl)) qc (wt _)) (qt (zx (wz0 bC eF eG wzx (pv 2)))) w9)
   (qt (w6 (pv 2))))))),?_⟩
 cases d with
 |bend n c x =>
  have h:H I=some (.tup [.int 1,.str n,.int c,.int x]):=dd;exists (exI rfl (exX rfl rfl (SqT.of h) rfl ⟨dr,exI rfl ⟨Z,p,exI rfl ⟨.inl (SqL.of fp),λq J=>?_⟩⟩⟩));have G:=Same.upd (H:=H) (o:=.lst (hs.map V.int)) J;have L:upd H q (.lst (hs.map V.int)) q=some (.lst (hs.map V.int)):=qb;generalize upd H q (.lst (hs.map V.int))=H1 at G L;have h1:=G _ _ h;have U:(hs.map V.int).length=hs.length:=aa _;refine⟨λσ H'=>σ=[some (.ref dr),some (.ref I),some (.ref q)]/\Same H H'/\H' q=some (.lst ((hs.set c.toNat x).map V.int))/\0<=c/\c<(hs.length:Int),?_,?_⟩
  .exists (exX rfl rfl (SqT.of h1) rfl ⟨rfl,_,rfl,v9 (λ_=>?_) (λz=>absurd rfl z)⟩);have ab:¬ (0<=c/\c<(hs.length:Int))->∀O,H1 O=none->Q (.ref O) (upd H1 O (.lst [.int 0])):=λz O S=>by refine k O _ (x6 G S) (G.trans (Same.upd S)) ?_;rw[qb];show _=some (HO.lst ((if 0<=c/\c<(hs.length:Int) then hs.set c.toNat x else [0]).map V.int));rw[ag z];rfl
   exists (exX rfl rfl (SqT.of h1) rfl (xb rfl rfl (exI rfl (zn (λz=>jg ⟨sz1,λO S=>ab ⋯ O S⟩) (λz=>?_)))));exists (exX rfl rfl (SqT.of h1) rfl (exI rfl ⟨q,exI rfl ⟨.inl (SqL.of L),xb rfl rfl (exI rfl ?_)⟩⟩));rw[U];refine zn (λy=>⟨sz1,λO S=>ab ⋯ O S⟩) (λy=>?_);refine⟨_,rfl,_,_,_,_,rfl,rfl,SqT.of h1,rfl,_,rfl,_,rfl,_,_,_,_,rfl,rfl,SqT.of h1,rfl,q,_,_,c.toNat,rfl,rfl,L,xwm ⋯ (by rw[U];lia),rfl,λb o e=>?_,?_,⋯,⋯⟩
   .rw[wg (wq e J)];exact G _ _ e
   .rw[qb,List.map_set]
  .rintro σ H2 ⟨rfl,s2,f2,c0,c1⟩;have h2:=s2 _ _ h;refine⟨λσ H'=>σ=[some (.ref dr),some (.ref I),some (.ref q)]/\H'=H2,((exI rfl (exX rfl rfl (SqT.of h2) rfl ⟨rfl,_,rfl,xN (⟨rfl,rfl⟩)⟩))),?_⟩;rintro σ H3 ⟨rfl,rfl⟩;refine⟨λσ H'=>σ=[some (.ref dr),some (.ref I),some (.ref q)]/\H'=H3,((exI rfl (exX rfl rfl (SqT.of h2) rfl ⟨rfl,_,rfl,xN (⟨rfl,rfl⟩)⟩))),?_⟩;rintro σ H4 ⟨rfl,rfl⟩;exists (k q _ J s2 ?_);rw[f2];show _=some (HO.lst ((if 0<=c/\c<(hs.length:Int) then hs.set c.toNat x else [0]).map V.int));rw[ak ⟨c0,c1⟩]
 |widen n x =>
  have h:H I=some (.tup [.int 2,.str n,.int x]):=dd;exists (exI rfl (exX rfl rfl (SqT.of h) rfl ⟨dr,exI rfl ⟨Z,p,exI rfl ⟨.inl (SqL.of fp),λq J=>?_⟩⟩⟩));have G:=Same.upd (H:=H) (o:=.lst (hs.map V.int)) J;have L:upd H q (.lst (hs.map V.int)) q=some (.lst (hs.map V.int)):=qb;generalize upd H q (.lst (hs.map V.int))=H1 at G L;have h1:=G _ _ h;have U:(hs.map V.int).length=hs.length:=aa _;refine⟨λσ H'=>σ=[some (.ref dr),some (.ref I),some (.ref q)]/\H'=H1,((exI rfl (exX rfl rfl (SqT.of h1) rfl ⟨rfl,_,rfl,xN (⟨rfl,rfl⟩)⟩))),?_⟩;rintro σ H2 ⟨rfl,rfl⟩;refine⟨λσ H'=>σ=[some (.ref dr),some (.ref I),some (.ref q)]/\Same H H'/\H' q=some (.lst ((hs++[x]).map V.int)),?_,?_⟩
  .exists (exX rfl rfl (SqT.of h1) rfl ⟨rfl,_,rfl,v9 (λ_=>?_) (λz=>absurd rfl z)⟩);refine⟨_,rfl,.inl ⟨rfl,_,SqL.of L⟩,_,rfl,_,_,_,_,rfl,rfl,SqT.of h1,rfl,q,_,_,rfl,rfl,L,by rw[U];lia,rfl,λb o e=>?_,?_⟩
   .rw[wg (wq e J)];exact G _ _ e
   .rw[qb,aV];rfl
  .rintro σ H3 ⟨rfl,s3,f3⟩;have h3:=s3 _ _ h;refine⟨λσ H'=>σ=[some (.ref dr),some (.ref I),some (.ref q)]/\H'=H3,((exI rfl (exX rfl rfl (SqT.of h3) rfl ⟨rfl,_,rfl,xN (⟨rfl,rfl⟩)⟩))),?_⟩;rintro σ H4 ⟨rfl,rfl⟩;exact exI rfl (k q _ J s3 f3)
 |narrow n =>
  have h:H I=some (.tup [.int 3,.str n]):=dd;exists (exI rfl (exX rfl rfl (SqT.of h) rfl ⟨dr,exI rfl ⟨Z,p,exI rfl ⟨.inl (SqL.of fp),λq J=>?_⟩⟩⟩));have G:=Same.upd (H:=H) (o:=.lst (hs.map V.int)) J;have L:upd H q (.lst (hs.map V.int)) q=some (.lst (hs.map V.int)):=qb;generalize upd H q (.lst (hs.map V.int))=H1 at G L;have h1:=G _ _ h;have U:(hs.map V.int).length=hs.length:=aa _;refine⟨λσ H'=>σ=[some (.ref dr),some (.ref I),some (.ref q)]/\H'=H1,((exI rfl (exX rfl rfl (SqT.of h1) rfl ⟨rfl,_,rfl,xN (⟨rfl,rfl⟩)⟩))),?_⟩;rintro σ H2 ⟨rfl,rfl⟩;refine⟨λσ H'=>σ=[some (.ref dr),some (.ref I),some (.ref q)]/\H'=H2,((exI rfl (exX rfl rfl (SqT.of h1) rfl ⟨rfl,_,rfl,xN (⟨rfl,rfl⟩)⟩))),?_⟩;rintro σ H3 ⟨rfl,rfl⟩;refine⟨λσ H'=>σ=[some (.ref dr),some (.ref I),some (.ref q)]/\Same H H'/\H' q=some (.lst (hs.dropLast.map V.int)),?_,?_⟩
  .exists (exX rfl rfl (SqT.of h1) rfl ⟨rfl,_,rfl,v9 (λ_=>?_) (λz=>absurd rfl z)⟩);refine⟨_,rfl,.inl ⟨rfl,_,SqL.of L⟩,q,_,_,rfl,rfl,L,aj (by rw[U];lia),rfl,λb o e=>?_,?_⟩
   .rw[wg (wq e J)];exact G _ _ e
   .rw[qb,List.map_dropLast]
  .rintro σ H4 ⟨rfl,s4,f4⟩;exact exI rfl (k q _ J s4 f4)
 |_=>exact ic.elim
theorem Wv {a b:Str}(h:a≠b):¬ V.str a=V.str b:=λz=>h (by injection z)
def spBeyF:Sp:=λvs H Q _=>∃(dw:Aj) (R W:List (Key×V)) (b:BA) (n:Str) (wd:Int),vs=[.ref dw,.str n,.int wd]/\H dw=some (.dK W)/\BP H R W b/\(∀s v,b.ws s=some v->PtG v.2)/\(-1000<=wd/\wd<=1000)/\(Bey b n wd->∀H',(∃o,Fz H dw o W H')->Q (.bl true) H')/\(¬ Bey b n wd->∀H',(∃o,Fz H dw o W H')->Q (.bl false) H')
include T in
theorem wz7 (F:Fun K "_law_beyond" "_law_beyond" za5 f fd):↑FK 1 f fd ["_law_walkers","_law_name","_law_wide"] spBeyF:=by
 have sc:=qxn;refine F.okX sc ⋯ λ_ _ _ s H vs Q E hr h=>?_;obtain⟨dw,R,W,b,n,S,rfl,hw,O,pg,wb,kt,kf⟩:=h;refine⟨_,(qy (yq aS rfl (pi_dv (pv 0)) (vt rfl (xf (xy (i:=3)) (xf (xy (i:=4)) (xf (xy (i:=5)) vq)))) (qt (x4 (PW.pt (Z8 (wn zd (pv 3) (pv 1) (wt _)) (Wc (wn y4 (pv 4) (xz zp (pv 2) (pv 5)) (wt _))))) (qt (w6 qqt)) w9)))
   (qt (w6 qqt))),?_⟩
 exists ⟨dw,W,rfl,.inl hw,λo H2 U=>?_⟩;have ad:∀p xs,H p=some (.tup xs)->H2 p=some (.tup xs):=λp xs e=>by rw[U.2 p (λz=>by rw[z,hw]at e;cases e)];exact e
 refine for_dv (λi σ H'=>H'=H2/\∃z1 z2 z3,σ=[some (.ref dw),some (.str n),some (.int S),z1,z2,z3]/\∀j c s v,j<i->W[j]?=some c->c.1=.inr s->b.ws s=some v->v.1=n->¬ S*v.2.2<v.2.1) ⟨rfl,_,_,_,rfl,λj c s v h=>absurd h (eV _)⟩ (λi σ H' _ h=>by rw[h.1];exact U.1) ?_ ?_
 .rintro i c σ Hx ec ⟨rfl,z1,z2,z3,rfl,hno⟩;have hc:=aK ec;have J:=jq O.nW hc;obtain⟨s,_,es,_⟩:=O.fW _ _ J;obtain⟨v,eb,p,ep,fp⟩:∃v,b.ws s=some v/\∃p,c.2=.ref p/\H p=some (.tup [.str v.1,.int v.2.1,.int v.2.2]):=by
   cases e:b.ws s with
   |none=>rw[es,O.noW e]at J;cases J
   |some v =>
    obtain⟨p,G,L⟩:=O.wlk e;rw[es,G]at J;exact⟨v,rfl,p,(au J).symm,L⟩
  have g:=pg s v eb;obtain⟨g1,g2,_,g3,g4⟩:=g;have ab:(v.1=n->¬ S*v.2.2<v.2.1)->∀j Z s' I,j<i+1->W[j]?=some Z->Z.1=.inr s'->b.ws s'=some I->I.1=n->¬ S*I.2.2<I.2.1:=λhh j Z s' I hj G L e3=>by
   rcases(by lia:j<i\/j=i) with z|z
   .exact hno j Z s' I z G L e3
   .subst z;rw[ec]at G;cases G;rw[es]at L;have:s=s':=by injection L
    subst this;rw[eb]at e3;cases e3;exact hh
  rw[ep];refine⟨p,exI rfl ⟨SqT.of (ad _ _ fp),rfl,_,_,rfl,_,_,rfl,_,_,rfl,rfl,?_⟩⟩;exists (exI rfl ⟨rfl,_,rfl,zn (λz=>?_) (λz=>yz ⟨rfl,_,_,_,rfl,ab λh=>absurd (by rw[h]) z⟩)⟩);have z:v.1=n:=by injection z
  exists (exI rfl (exI rfl (xb rfl rfl ⟨(by walk_at "mul"),xb rfl rfl (exI rfl (zn (λy=>?_) (λy=>⟨rfl,_,_,_,rfl,ab λ_=>y⟩)))⟩)));exact kt ⟨s,v.2,by rw[eb,<-z],y⟩ _ ⟨o,U⟩
 .rintro σ Hx ⟨rfl,z1,z2,z3,rfl,hno⟩;refine kf (λ⟨s,pt,e,l⟩=>?_) _ ⟨o,U⟩;obtain⟨p,G,_⟩:=O.wlk e;obtain⟨j,hj,ej⟩:=bD (qws G);exact hno j _ s _ hj (by rw[aj hj,ej]) rfl e rfl l
def xwp:Sp:=λvs H Q _=>∃(dw:Aj) (R W:List (Key×V)) (b:BA) (n:Str) (wd:Int),vs=[.ref dw,.str n,.int wd]/\H dw=some (.dK W)/\BP H R W b/\(∀s v,b.ws s=some v->PtG v.2)/\(-1000<=wd/\wd<=1000)/\(Bey b n wd->Q (.bl true) H)/\(¬ Bey b n wd->Q (.bl false) H)
theorem wuv {d:Aj}{o:Obj}(e:H d=some (.dK W))(fz:Fz H d o W H'):thw [d] H'=H:=by
 funext b;by_cases z:b=d
 .rw[z,wk5 (by simp) fz.1,e]
 .rw[qu3 (by simpa using z),fz.2 b z]
include T in
theorem wy1 (F:Fun K "_law_beyond" "_law_beyond" za5 f fd):↑FK 1 f fd ["_law_walkers","_law_name","_law_wide"] xwp:=by
 refine FnOk.imp (FnOk.thaw (wz7 T F)) λvs H Q E h=>?_;obtain⟨dw,R,W,b,n,J,e,G,bp,O,L,S,U⟩:=h;have I:∀d∈[dw],∀o u,H d≠some (.frz o u):=λd Z o u z=>by rw[am.mp Z,G]at z;cases z
 exact⟨dw,R,W,b,n,J,e,G,bp,O,L,λy H' ⟨o,fz⟩=>⟨[dw],I,by rw[wuv G fz];exact S y⟩,λy H' ⟨o,fz⟩=>⟨[dw],I,by rw[wuv G fz];exact U y⟩⟩
def qys (K:Aa):Sp:=λvs H Q _=>∃(dr dw:Aj) (R W:List (Key×V)) (b:BA) (n:Str) (m:Int) (v:Str×(Int×Int)) (hs:List Int),vs=[.ref dr,.ref dw,.str n,.int m]/\B2 H dr dw R W b/\W.length<=1000/\b.ws n=some v/\b.rs v.1=some hs/\HPt hs v.2/\0<=m /\
 ∀q H' W',Kb [dr,dw] H H'->B2 H' dr dw R W' (b.putW n (v.1,itP hs v.2 m.toNat))->W'.map (·.1)=W.map (·.1)->H q=none->H' q=some (.tup [.int (itP hs v.2 m.toNat).1,.int (itP hs v.2 m.toNat).2])->Q (.ref q) H'
include T in
theorem xqv (F:Fun K "_law_gone" "_law_gone" zc8 f fd)(zjd:↑Cal "_law_trace" 2 (qxy K))(zje:↑Cal "_law_after" 1 (wqx K))(zdk:↑Cal "_law_low" 2 wjn) :
  ↑FK 3 f fd ["_law_roads","_law_walkers","_law_name","_law_many"] (qys K):=by
 have sc:=quh;refine F.okX sc ⋯ λ_ _ _ _ H vs Q E Z h=>?_;obtain⟨dr,dw,R,W,b,n,m,v,hs,rfl,L,lW,ew,er,hp,m0,k⟩:=h;have sm:∀z:Int,-(2 ^ 64)<=z->z<=2 ^ 64->Sm 65 z:=λz z1 z2=>Sm.small z1 z2 ⋯;obtain⟨p,e1,f1⟩:=L.bp.wlk ew;obtain⟨lo,r,e2,f2⟩:=L.bp.row er;have ah:DGet H dw (.str n) (wp W (.inr n)):=DGet.k (k:=.inr n) L.w;rw[e1]at ah;have ad:DGet H dr (.str v.1) (wp R (.inr v.1)):=DGet.k (k:=.inr v.1) L.r;rw[e2]at ad;have rg:=hp.rng;obtain⟨_,⟨I,_,ap,an⟩,ab⟩:=id hp;have ll:xv v.2.1 v.2.2=v.2:=Wf I ap;have a1:∀n,xv (trT hs v.2.1 v.2.2 n) v.2.2=itP hs v.2 n:=λn=>by rw[qu4 I,ll]
 have a6:(10000:Nat)<sizeLine:=by decide
 obtain⟨wh,t,c⟩:=v;refine⟨_,(qy (k8 (jw (vc Z) (pv 1) (pv 2) (λ_ _=>rfl)) (vt rfl (xf (xy (i:=4)) (xf (xy (i:=5)) (xf (xy (i:=6)) vq)))))
   (qy (k8 (wCA zjd (zu (jw (vc Z) (pv 0) (pv 4) (λ_ _=>rfl)) (q9 (pv 5) (q9 (pv 6) qk)))) (vt rfl (xf (xy (i:=7)) (xf (xy (i:=8)) vq))))
   (qy (k8 (wCA zdk (k6 (wCA zje (q9 (pv 7) (q9 (pv 8) (q9 (pv 3) qk)))) (q9 (pv 6) qk))) (vt rfl (xf (xy (i:=5)) (xf (xy (i:=6)) vq))))
   (qy (Qb (vc Z) (pv 1) (pv 2) (zk (q9 (pv 4) (q9 (pv 5) (q9 (pv 6) qk)))) rfl)
   (qt (w6 (zk (q9 (pv 5) (q9 (pv 6) qk))))))))),?_⟩
 exists (exI rfl ⟨dw,exI rfl ⟨ah,p,exI rfl ⟨SqT.of f1,rfl,_,_,rfl,_,_,rfl,_,_,rfl,rfl,?_⟩⟩⟩);refine⟨_,rfl,_,rfl,dr,_,rfl,ad,_,rfl,_,rfl,r,hs,t,c,rfl,SqL.of f2,lo,I,by have:c<=40:=ab;lia,an,λj u q l H2 d1 u1 a2 nl s2 a3 fq fl=>?_⟩;refine⟨q,exI rfl ⟨SqT.of fq,rfl,_,_,rfl,_,_,rfl,rfl,?_⟩⟩;refine⟨_,rfl,_,rfl,_,rfl,l,trT hs t c,j,u,m,rfl,fl,u1,a2,λi j e=>?_,m0,?_⟩
 .show uc hs (trT hs t c i) c=uc hs (trT hs t c j) c;rw[e]
 .have a4:c<=40:=ab;have c1:1<=c:=I;exists ⟨_,_,rfl,I,(sm c ⋯ ⋯).mono ⋯,λO n3=>?_⟩;have s3:=Same.upd (H:=H2) (o:=.tup (ptV (xv (trT hs t c m.toNat) c))) n3;have f3:upd H2 O (.tup (ptV (xv (trT hs t c m.toNat) c))) O=some (.tup [.int (itP hs (t,c) m.toNat).1,.int (itP hs (t,c) m.toNat).2]):=by rw[qb,a1];rfl
  generalize upd H2 O (.tup (ptV (xv (trT hs t c m.toNat) c)))=H3 at s3 f3;refine⟨O,exI rfl ⟨SqT.of f3,rfl,_,_,rfl,_,_,rfl,rfl,?_⟩⟩;exists (exI rfl (exI rfl ⟨sz3,λG n4=>?_⟩));have s4:=Same.upd (H:=H3) (o:=.tup [.str wh,.int (itP hs (t,c) m.toNat).1,.int (itP hs (t,c) m.toNat).2]) n4;have f4:upd H3 G (.tup [.str wh,.int (itP hs (t,c) m.toNat).1,.int (itP hs (t,c) m.toNat).2]) G=some (.tup [.str wh,.int (itP hs (t,c) m.toNat).1,.int (itP hs (t,c) m.toNat).2]):=qb;generalize upd H3 G (.tup [.str wh,.int (itP hs (t,c) m.toNat).1,.int (itP hs (t,c) m.toNat).2])=H4 at s4 f4;have S:=(s2.trans s3).trans s4;have b4:=L.same S;exists (exI rfl ⟨dw,exI rfl ⟨DPut.k (k:=.inr n) b4.w ⋯,?_⟩⟩);exists (exI rfl ⟨sz2,λU J=>?_⟩);have b5:B2 (upd H4 dw (.dK (v8 W (.inr n) (.ref G)))) dr dw R (v8 W (.inr n) (.ref G)) (b.putW n (wh,itP hs (t,c) m.toNat)):=b4.setW (b4.bp.putW (v:=(wh,itP hs (t,c) m.toNat)) f4);have s5:=Same.upd (H:=upd H4 dw (.dK (v8 W (.inr n) (.ref G)))) (o:=.tup [.int (itP hs (t,c) m.toNat).1,.int (itP hs (t,c) m.toNat).2]) J;have a0:H U=none:=x6 S (by
   have:U≠dw:=λz=>by rw[z,qb]at J;cases J
   rw[wg this]at J
   exact J)
  exact k U _ _ (((Kb.of S).trans (yk (by simp))).trans (Kb.of s5)) (b5.same s5) (wx4 e1) a0 qb
variable {xs:List V}
theorem qj7 {x:V}:atI (x::xs) 0=some x:=by simp[atI,ixN]
def isR:Dd->Prop
 |.lay _ _=>True
 |.bend _ _ _=>True
 |.widen _ _=>True
 |.narrow _=>True
 |.clear _=>True
 |_=>False
theorem xq4:¬ xm [0]:=λh=>absurd h.1 ⋯
theorem wyr (ic:ww4 d)(er:b.rs d.nm=some hs)(lo:¬ xm (qwy hs d)):xq b d=(("line" : Str),Ans.non,b):=by
 cases d with
 |bend n c x =>
  simp only[xq];rw[show b.rs n=some hs from er];dsimp only;rw[ag (λz=>lo (by show xm (if 0<=c/\c<(hs.length:Int) then _ else _);rw[ak ⟨z.1,z.2.1⟩];exact z.2.2))]
 |widen n x =>
  have lo:¬ xm (hs++[x]):=lo;simp only[xq];rw[show b.rs n=some hs from er];dsimp only;rw[ag lo]
 |narrow n =>
  have lo:¬ xm hs.dropLast:=lo;simp only[xq];rw[show b.rs n=some hs from er];dsimp only;rw[ag lo]
 |_=>exact ic.elim
theorem wu7 (bo:BOk NM b){n:Str}{hs:List Int}(er:b.rs n=some hs){wd:Int}(h:(hs.length:Int)-1<=wd):¬ Bey b n wd:=λ⟨s,pt,e,l⟩=>by obtain⟨_,_,ks,er',hp⟩:=bo.wo s _ e;rw[er]at er';cases er';have a:=(qqy hp).2;have c:=hp.2.1.1;have:((hs.length:Int)-1)*pt.2<=wd*pt.2:=aN h (by have:1<=pt.2:=c;lia);have a:pt.1<=((hs.length:Int)-1)*pt.2:=a;lia
theorem ww1 {x:Int}(lo:xm (qwy hs (.bend n c x))):0<=c/\c<(hs.length:Int)/\xm (hs.set c.toNat x)/\qwy hs (.bend n c x)=hs.set c.toNat x:=by
 have F:xm (if 0<=c/\c<(hs.length:Int) then hs.set c.toNat x else [0]):=lo;by_cases z:0<=c/\c<(hs.length:Int)
 .rw[ak z]at F;exact⟨z.1,z.2,F,ak z⟩
 .rw[ag z]at F;exact absurd F xq4
theorem wx8 (bo:BOk NM b){d:Dd}{hs:List Int}(ic:ww4 d)(er:b.rs d.nm=some hs)(lo:xm (qwy hs d))(y:Bey b d.nm (((qwy hs d).length:Int)-1)):xq b d=(("stood" : Str),Ans.non,b):=by
 cases d with
 |bend n c x =>
  obtain⟨_,_,_,e⟩:=ww1 lo;rw[e,cP]at y;exact absurd y (wu7 bo er (gw _))
 |widen n x =>
  refine absurd y (wu7 bo er ?_);show(hs.length:Int)-1<=((hs++[x]).length:Int)-1;rw[aE];push_cast;lia
 |narrow n =>
  have lo:xm hs.dropLast:=lo;have y:Bey b n ((hs.dropLast.length:Int)-1):=y;simp only[xq];rw[show b.rs n=some hs from er];dsimp only;rw[ak lo,ak y]
 |_=>exact ic.elim
theorem xwh (ic:ww4 d)(er:b.rs d.nm=some hs)(lo:xm (qwy hs d))(y:¬ Bey b d.nm (((qwy hs d).length:Int)-1)):xq b d=(("" : Str),Ans.non,b.putR d.nm (qwy hs d)):=by
 cases d with
 |bend n c x =>
  obtain⟨F,c1,l,e⟩:=ww1 lo;rw[e];simp only[xq];rw[show b.rs n=some hs from er];dsimp only;rw[ak ⟨F,c1,l⟩];rfl
 |widen n x =>
  have lo:xm (hs++[x]):=lo;simp only[xq];rw[show b.rs n=some hs from er];dsimp only;rw[ak lo];rfl
 |narrow n =>
  have lo:xm hs.dropLast:=lo;have y:¬ Bey b n ((hs.dropLast.length:Int)-1):=y;simp only[xq];rw[show b.rs n=some hs from er];dsimp only;rw[ak lo,ag y];rfl
 |_=>exact ic.elim
def qur:Sp:=λvs H Q _=>∃(dr dw da:Aj) (R W:List (Key×V)) (b:BA) (d:Dd) (NM:List Str),vs=[.ref dr,.ref dw,.ref da]/\B2 H dr dw R W b/\BOk NM b/\NM.length<=1000/\DdAt H da d/\isR d/\qz0 H dr dw b d Q
include T in
theorem wug (F:Fun K "_law_roads_done" "_law_roads_done" zc6 f fd)(zdl:↑Cal "_law_named_new" 2 qj8)(zhw:↑Cal "_law_good_line" 1 Yy)(zhx:↑Cal "_law_beyond" 1 xwp)(zjf:↑Cal "_law_changed" 1 xx3) :
  ↑FK 3 f fd ["_law_roads","_law_walkers","_law_deed_here"] qur:=by
 have sc:=Z6;refine F.okX sc ⋯ λ_ _ _ s H vs Q E hr h=>?_;obtain⟨dr,dw,L,R,W,b,d,NM,rfl,I,bo,lN,dd,ir,k⟩:=h;have a6:=I.bp.lens bo;have a7:(10000:Nat)<sizeLine:=by decide
 have pg:∀s v,b.ws s=some v->PtG v.2:=λs v e=>by obtain⟨_,_,hs,_,hp⟩:=bo.wo s v e;exact hp.g
 have U:∀(O:Str),xq b d=(O,.non,b)->∀H1 q,Same H H1->H1 q=none->Q (.ref q) (upd H1 q (.tup [.str O,.non])):=λO e H1 q J G=>by unfold qz0 at k;rw[e]at k;exact k q .non _ R W (Kb.of (J.trans (Same.upd G))) (I.same (J.trans (Same.upd G))) qb rfl (λ_ z=>nomatch z)
 have ap:∀n,(wp R (.inr n)).isSome=(b.rs n).isSome:=λn=>by
  cases e:b.rs n with
  |none=>rw[I.bp.noR e];rfl
  |some hs=>obtain⟨_,p,e1,_⟩:=I.bp.row e;rw[e1];rfl
 refine⟨_,(qy (x4 (wn zd (xj xk (pv 2) qc (λ_ _=>rfl)) qc (wt _)) (qy (xx (i:=3) (wCA zdl (zu (xj xk (pv 2) qc (λ_ _=>rfl)) (q9 (pv 0) qk))))
   (jf (x4 (PW.pt (Z8 (wn zd (pv 3) xn (wt _)) (Wc (qqb (Q9 (wCA zhw (zu (xj xk (pv 2) qc (λ_ _=>rfl)) qk))))))) (qt (xx (i:=3) xn)) w9)
   (jf (x4 (wn zd (pv 3) xn (wt _)) (qt (Qb (vc hr) (pv 0) (xj xk (pv 2) qc (λ_ _=>rfl)) (vb jt rfl T.list_ bA (zu (xj xk (pv 2) qc (λ_ _=>rfl)) qk)) rfl)) w9)
   (qt (w6 (zk (q9 (pv 3) (xu jx qk)))))))) w9)
   (qy (x4 (Qm (yu (vc hr) (xj xk (pv 2) qc (λ_ _=>rfl)) (pv 0))) (qt (w6 (zk (xu xn (xu jx qk))))) w9)
   (qy (x4 (wn zd (xj xk (pv 2) qc (λ_ _=>rfl)) qc (wt _)) (qy (x4 (Q9 (wCA zhx (q9 (pv 1) (zu (xj xk (pv 2) qc (λ_ _=>rfl)) (xwy (Yg Wg qc) qk))))) (qt (w6 (zk (xu xn (xu jx qk))))) w9)
   (qy (zx (wq2 (pv 0) (xj xk (pv 2) qc (λ_ _=>rfl)) ⟨rfl,rfl,rfl,rfl⟩))
   (qt (w6 (zk (xu xn (xu jx qk))))))) w9)
   (qy (xx (i:=4) (wCA zjf (q9 (pv 0) (q9 (pv 2) qk))))
   (qy (x4 (qqb (Q9 (wCA zhw (q9 (pv 4) qk)))) (qt (w6 (zk (xu xn (xu jx qk))))) w9)
   (qy (x4 (Q9 (wCA zhx (q9 (pv 1) (zu (xj xk (pv 2) qc (λ_ _=>rfl)) (vg (xz kh (xh x9 rfl T.len_ aF (q9 (pv 4) qk)) qc) qk))))) (qt (w6 (zk (xu xn (xu jx qk))))) w9)
   (qy (Qb (vc hr) (pv 0) (xj xk (pv 2) qc (λ_ _=>rfl)) (pv 4) rfl)
   (qt (w6 (zk (xu xn (xu jx qk)))))))))))),?_⟩
 dsimp only [yf];refine c5 λ_ _ _ _ _ i1 i2 i3 i4 i5=>?_;by_cases il:∃n hs,d=.lay n hs
 .obtain⟨n,hs,rfl⟩:=il;obtain⟨p,h,hp,l2,a1,ln⟩:=dd;subst i1;refine kdTs rfl h ?_;refine⟨_,rfl,_,_,_,_,rfl,rfl,SqT.of h,rfl,_,rfl,n,dr,R,rfl,⋯,I.r,λH1 J=>?_⟩;have h1:=J _ _ h;have a2:=J _ _ hp;have a8:=I.same J;have a4:∀(O:Str),O ≠ "" -> xq b (.lay n hs)=(O,.non,b)->∀H2,Same H H2->∃(w2:St->Hp->Prop),w2 [some (.ref dr),some (.ref dw),some (.ref L),some (.str O),none] H2/\True:=λO _ _ H2 _=>⟨λ_ _=>True,trivial,trivial⟩;cases nn:zj n with
  |false =>
   have e:xq b (.lay n hs)=(("name" : Str),Ans.non,b):=by simp only[xq];rw[ak nn]
   have ew:qq8 false (wp R (.inr n)) = "name" := rfl;rw[ew];refine⟨λσ H'=>σ=[some (.ref dr),some (.ref dw),some (.ref L),some (.str "name"),none]/\H'=H1,((exI rfl ⟨rfl,_,rfl,zn (λz=>absurd z (Wv ⋯)) (λ_=>yz ⟨rfl,rfl⟩)⟩)),?_⟩;rintro σ H2 ⟨rfl,rfl⟩;refine⟨λσ H'=>σ=[some (.ref dr),some (.ref dw),some (.ref L),some (.str "name"),none]/\H'=H2,((exI rfl ⟨rfl,_,rfl,zn (λz=>absurd z (Wv ⋯)) (λ_=>⟨rfl,rfl⟩)⟩)),?_⟩;rintro σ H3 ⟨rfl,rfl⟩;exact exI rfl ⟨sz2,λq G=>U "name" e H3 q J G⟩
  |true =>
   by_cases tk:(b.rs n).isSome=true
   .have e:xq b (.lay n hs)=(("taken" : Str),Ans.non,b):=by simp only[xq];rw[ag (by rw[nn];decide),ak tk]
    have ew:qq8 true (wp R (.inr n)) = "taken" := by unfold qq8;rw[ag ⋯,ak (by rw[ap];exact tk)]
    rw[ew];refine⟨λσ H'=>σ=[some (.ref dr),some (.ref dw),some (.ref L),some (.str "taken"),none]/\H'=H1,((exI rfl ⟨rfl,_,rfl,zn (λz=>absurd z (Wv ⋯)) (λ_=>yz ⟨rfl,rfl⟩)⟩)),?_⟩;rintro σ H2 ⟨rfl,rfl⟩;refine⟨λσ H'=>σ=[some (.ref dr),some (.ref dw),some (.ref L),some (.str "taken"),none]/\H'=H2,((exI rfl ⟨rfl,_,rfl,zn (λz=>absurd z (Wv ⋯)) (λ_=>⟨rfl,rfl⟩)⟩)),?_⟩;rintro σ H3 ⟨rfl,rfl⟩;exact exI rfl ⟨sz2,λq G=>U "taken" e H3 q J G⟩
   .have ew:qq8 true (wp R (.inr n)) = "" := by unfold qq8;rw[ag ⋯,ag (by rw[ap];exact tk)]
    rw[ew];refine⟨λσ H'=>Same H H'/\((xm hs/\σ=[some (.ref dr),some (.ref dw),some (.ref L),some (.str ""),none])\/(¬ xm hs/\σ=[some (.ref dr),some (.ref dw),some (.ref L),some (.str "line"),none])),?_,?_⟩
    .exists ⟨rfl,_,rfl,zn (λ_=>?_) (λz=>absurd rfl z)⟩;exact⟨_,rfl,_,_,_,_,rfl,rfl,SqT.of h1,rfl,p,hs,rfl,a2,⋯,λlo H2 s2=>(exI rfl (yz ⟨J.trans s2,.inl ⟨lo,rfl⟩⟩)),λlo H2 s2=>(exI rfl (jg ⟨J.trans s2,.inr ⟨lo,rfl⟩⟩))⟩
    .rintro σ H2 ⟨s2,⟨lo,rfl⟩|⟨lo,rfl⟩⟩
     .have e:xq b (.lay n hs)=(("" : Str),Ans.non,b.putR n hs):=by simp only[xq];rw[ag (by rw[nn];decide),ag tk,ak lo]
      unfold qz0 at k;rw[e]at k;have Z:=I.same s2;refine⟨λσ H'=>σ=[some (.ref dr),some (.ref dw),some (.ref L),some (.str ""),none]/\Kb [dr,dw] H H'/\∃R',B2 H' dr dw R' W (b.putR n hs),?_,?_⟩
      .exists ⟨rfl,_,rfl,zn (λ_=>?_) (λz=>absurd rfl z)⟩;exists (exX rfl rfl (SqT.of (s2 _ _ h)) rfl ⟨p,exI rfl ⟨.inl (SqL.of (s2 _ _ hp)),λp3 n3=>?_⟩⟩);have s3:=Same.upd (H:=H2) (o:=.lst (hs.map V.int)) n3;have f3:upd H2 p3 (.lst (hs.map V.int)) p3=some (.lst (hs.map V.int)):=qb;generalize upd H2 p3 (.lst (hs.map V.int))=H3 at s3 f3;have an:=Z.same s3;exists (exI rfl (exX rfl rfl (SqT.of (s3 _ _ (s2 _ _ h))) rfl ⟨dr,exI rfl ⟨DPut.k (k:=.inr n) an.r ⋯,rfl,(Kb.of (s2.trans s3)).trans (yk (by simp)),_,an.setR (an.bp.putR lo f3)⟩⟩))
      .rintro σ H4 ⟨rfl,kb,R',b24⟩;exact exI rfl ⟨sz2,λq G=>k q .non _ R' W (kb.trans (Kb.of (Same.upd G))) (b24.same (Same.upd G)) qb rfl (λ_ z=>nomatch z)⟩
     .have e:xq b (.lay n hs)=(("line" : Str),Ans.non,b):=by simp only[xq];rw[ag (by rw[nn];decide),ag tk,ag lo]
      refine⟨λσ H'=>σ=[some (.ref dr),some (.ref dw),some (.ref L),some (.str "line"),none]/\H'=H2,((exI rfl ⟨rfl,_,rfl,zn (λz=>absurd z (Wv ⋯)) (λ_=>⟨rfl,rfl⟩)⟩)),?_⟩;rintro σ H3 ⟨rfl,rfl⟩;exact exI rfl ⟨sz2,λq G=>U "line" e H3 q s2 G⟩
 .obtain⟨S,xs,h,hk,at1,a3⟩:∃S xs,H L=some (.tup (.int S::.str d.nm::xs))/\S≠0/\atI (V.int S::V.str d.nm::xs) 1=some (.str d.nm)/\((S=4/\∃n,d=.clear n)\/(S≠4/\ww4 d)):=by
   cases d with
   |lay n hs=>exact absurd ⟨n,hs,rfl⟩ il
   |bend n c x=>exact⟨_,_,dd,⋯,rfl,.inr ⟨⋯,trivial⟩⟩
   |widen n x=>exact⟨_,_,dd,⋯,rfl,.inr ⟨⋯,trivial⟩⟩
   |narrow n=>exact⟨_,_,dd,⋯,rfl,.inr ⟨⋯,trivial⟩⟩
   |clear n=>exact⟨_,_,dd,⋯,rfl,.inl ⟨rfl,n,rfl⟩⟩
   |_=>exact ir.elim
  have at0:atI (V.int S::V.str d.nm::xs) 0=some (.int S):=qj7;subst i1;refine qj5 rfl h ?_ hk;have dg:DGet H dr (.str d.nm) (wp R (.inr d.nm)):=DGet.k (k:=.inr d.nm) I.r;cases er:b.rs d.nm with
  |none =>
   rw[I.bp.noR er]at dg;subst i2;exists (exX rfl rfl (SqT.of h) at1 (exI rfl ⟨dr,exI rfl ⟨dg,_,rfl,jg ?_⟩⟩));refine⟨sz2,λq G=>U "road" ?_ H q (Same.refl _) G⟩;cases d with
   |lay n hs=>exact absurd ⟨n,hs,rfl⟩ il
   |bend n c x=>simp only[xq];rw[show b.rs n=none from er]
   |widen n x=>simp only[xq];rw[show b.rs n=none from er]
   |narrow n=>simp only[xq];rw[show b.rs n=none from er]
   |clear n=>simp only[xq];rw[show b.rs n=none from er]
   |_=>exact ir.elim
  |some hs =>
   obtain⟨lo,p,ev,fp⟩:=I.bp.row er;rw[ev]at dg;have ll:=lo.2.1;have l1:=lo.1;subst i2;exists (exX rfl rfl (SqT.of h) at1 (exI rfl ⟨dr,exI rfl ⟨dg,_,rfl,yz ?_⟩⟩));subst i3;rcases a3 with⟨h4,n,rfl⟩|⟨h4,ic⟩
   .exists (exX rfl rfl (SqT.of h) at0 ⟨rfl,_,rfl,v9 (λ_=>?_) (λz=>absurd h4 z)⟩);have a0:b.rs n=some hs:=er;refine⟨_,rfl,_,rfl,_,_,_,_,rfl,rfl,SqT.of h,at1,1,rfl,dw,R,W,b,n,-1,rfl,I.w,I.bp,pg,⋯,λy=>(exI rfl (jg ⟨sz2,λq G=>U "stood" ?_ H q (Same.refl _) G⟩)),λy=>(exI rfl (yz ?_))⟩
    .simp only[xq];rw[a0];dsimp only;rw[ak y]
    .have e:xq b (.clear n)=(("" : Str),Ans.non,b.delR n):=by simp only[xq];rw[a0];dsimp only;rw[ag y]
     unfold qz0 at k;rw[e]at k;exists ⟨dr,rfl,.inl ⟨_,.inl I.r⟩,exI rfl (exX rfl rfl (SqT.of h) at1 ⟨R,.inr n,_,I.r,rfl,ev,?_⟩)⟩;refine⟨sz2,λq G=>k q .non _ _ W ((yk (by simp)).trans (Kb.of (Same.upd G))) ((I.setR (I.bp.delR n)).same (Same.upd G)) qb rfl (λ_ z=>nomatch z)⟩
   .refine qj5 rfl h ?_ h4;have cl:(qwy hs d).length<=1000:=by
     cases d with
     |bend n c x=>show(if 0<=c/\c<(hs.length:Int) then hs.set c.toNat x else [0]).length<=1000;split;(rw[cP];lia);(show 1<=1000;decide)
     |widen n x=>show(hs++[x]).length<=1000;rw[aE];show hs.length+1<=1000;lia
     |narrow n=>show hs.dropLast.length<=1000;rw[List.length_dropLast];lia
     |_=>exact ic.elim
    subst i4;refine⟨_,rfl,_,rfl,dr,L,p,R,d,hs,rfl,I.r,dd,ic,ev,fp,⋯,⋯,λq H1 G J f1=>?_⟩;have lm:((qwy hs d).map V.int).length=(qwy hs d).length:=aa _;subst i5;refine⟨_,rfl,q,_,rfl,f1,cl,λad H2 s2=>(exI rfl (yz ?_)),λad H2 s2=>(exI rfl (jg ⟨sz2,λq' ab=>U "line" (wyr ic er ad) H2 q' (J.trans s2) ab⟩))⟩;have ah:=J.trans s2;have Z:=I.same ah;have f2:=s2 _ _ f1;have a1:=ad.2.1;exists (exI rfl (exX rfl rfl (SqT.of (ah _ _ h)) at1 (exI rfl ⟨q,exI rfl ⟨.inl (SqL.of f2),xb rfl rfl ?_⟩⟩)));rw[lm];refine⟨dw,R,W,b,d.nm,_,rfl,Z.w,Z.bp,pg,⋯,λy=>(exI rfl (jg ⟨sz2,λq' ab=>U "stood" (wx8 bo ic er ad y) H2 q' ah ab⟩)),λy=>(exI rfl (yz ?_))⟩;have e:=xwh ic er ad y;unfold qz0 at k;rw[e]at k;exists (exI rfl (exI rfl (exX rfl rfl (SqT.of (ah _ _ h)) at1 ⟨dr,exI rfl ⟨DPut.k (k:=.inr d.nm) Z.r ⋯,?_⟩⟩)));exact⟨sz2,λq' ab=>k q' .non _ _ W (((Kb.of ah).trans (yk (by simp))).trans (Kb.of (Same.upd ab))) ((Z.setR (Z.bp.putR ad f2)).same (Same.upd ab)) qb rfl (λ_ z=>nomatch z)⟩
def xwn:Sp:=λvs H Q _=>∃(dr dw da:Aj) (R W:List (Key×V)) (b:BA) (n wh:Str) (t p:Int) (NM:List Str),vs=[.ref dr,.ref dw,.ref da]/\B2 H dr dw R W b/\BOk NM b/\NM.length<=1000/\DdAt H da (.place n wh t p)/\∀H' R' W',Kb [dr,dw] H H'->B2 H' dr dw R' W' (xq b (.place n wh t p)).2.2->Q (.str (xq b (.place n wh t p)).1) H'
theorem sm65 {z:Int}(h1:-(2 ^ 64)<=z)(h2:z<=2 ^ 64):Sm 65 z:=Sm.small h1 h2 ⋯
include T in
theorem zjg (F:Fun K "_law_set" "_law_set" zc7 f fd)(zdl:↑Cal "_law_named_new" 2 qj8)(zdk:↑Cal "_law_low" 2 wjn) :
  ↑FK 3 f fd ["_law_roads","_law_walkers","_law_deed_here"] xwn:=by
 have sc:=wws;refine F.okX sc ⋯ λ_ _ _ _ H vs Q E hr h=>?_;obtain⟨dr,dw,da,R,W,b,n,wh,t,p,NM,rfl,I,bo,lN,dd,k⟩:=h;obtain⟨q,h,hq,ln,bt,bb⟩:=dd;have bk:=I.bp.lens bo;have bl:(10000:Nat)<sizeLine:=by decide
 have J:∀(wd:Str),xq b (.place n wh t p)=(wd,Ans.non,b)->∀H1,Same H H1->Q (.str wd) H1:=λwd e H1 G=>by rw[e]at k;exact k H1 R W (Kb.of G) (I.same G)
 have ap:∀n,(wp W (.inr n)).isSome=(b.ws n).isSome:=λn=>by
  cases e:b.ws n with
  |none=>rw[I.bp.noW e];rfl
  |some v=>obtain⟨p,e1,_⟩:=I.bp.wlk e;rw[e1];rfl
 refine⟨_,(qy (k8 (xj xk (pv 2) qc (λ_ _=>rfl)) (vt rfl (xf (xy (i:=3)) (xf (xy (i:=4)) vq))))
   (qy (x4 (wn qq6 (wCA zdl (zu (xj xk (pv 2) qc (λ_ _=>rfl)) (q9 (pv 1) qk))) xn (wt _)) (qt (w6 (wCA zdl (zu (xj xk (pv 2) qc (λ_ _=>rfl)) (q9 (pv 1) qk))))) w9)
   (qy (x4 (Qm (yu (vc hr) (xj xk (pv 2) qc (λ_ _=>rfl)) (pv 0))) (qt (w6 xn)) w9)
   (qy (x4 (PW.pt (Qk (wn j8 (pv 4) qc (wt _)) (y8 (wn y4 (xj xk (wCA zdk (q9 (pv 3) (q9 (pv 4) qk))) qc (λ_ _=>rfl)) qc (wt _))))) (qt (w6 xn)) w9)
   (qy (x4 (PW.pt (Qk (wn j8 (pv 3) qc (wt _)) (y8 (wn y4 (pv 3) (xz zp (xz kh (xh x9 rfl T.len_ aF (zu (jw (vc hr) (pv 0) (xj xk (pv 2) qc (λ_ _=>rfl)) (λ_ _=>rfl)) qk)) qc) (pv 4)) (wt _))))) (qt (w6 xn)) w9)
   (qy (k8 (wCA zdk (q9 (pv 3) (q9 (pv 4) qk))) (vt rfl (xf (xy (i:=3)) (xf (xy (i:=4)) vq))))
   (qy (Qb (vc hr) (pv 1) (xj xk (pv 2) qc (λ_ _=>rfl)) (zk (zu (xj xk (pv 2) qc (λ_ _=>rfl)) (q9 (pv 3) (q9 (pv 4) qk)))) rfl)
   (qt (w6 xn))))))))),?_⟩
 dsimp only [yf];refine c7 λ_ _ _ _ _ _ _ a9 a8 a0 a7 a6 a4 a3=>?_;subst a9;exists (exX rfl rfl (SqT.of h) rfl ⟨q,exI rfl ⟨SqT.of hq,rfl,_,_,rfl,_,_,rfl,rfl,?_⟩⟩);subst a8;refine⟨_,rfl,_,_,_,_,rfl,rfl,SqT.of h,rfl,_,rfl,n,dw,W,rfl,⋯,I.w,λH1 G=>?_⟩;have h1:=G _ _ h;have Z:=I.same G;cases nn:zj n with
 |false =>
  have e:xq b (.place n wh t p)=(("name" : Str),Ans.non,b):=by simp only[xq];rw[ak nn]
  refine⟨rfl,_,rfl,qvj (λ_=>?_) (λz=>absurd z (Wv (by rw[show qq8 false (wp W (.inr n)) = "name" from rfl];decide)))⟩;refine⟨_,rfl,_,_,_,_,rfl,rfl,SqT.of h1,rfl,_,rfl,n,dw,W,rfl,⋯,Z.w,λH2 s2=>?_⟩;rw[nn,show qq8 false (wp W (.inr n)) = "name" from rfl];exact J "name" e H2 (G.trans s2)
 |true =>
  by_cases tk:(b.ws n).isSome=true
  .have S:qq8 true (wp W (.inr n)) = "taken" := by unfold qq8;rw[ag ⋯,ak (by rw[ap];exact tk)]
   have e:xq b (.place n wh t p)=(("taken" : Str),Ans.non,b):=by simp only[xq];rw[ag (by rw[nn];decide),ak tk]
   refine⟨rfl,_,rfl,qvj (λ_=>?_) (λz=>absurd z (Wv (by rw[S];decide)))⟩;refine⟨_,rfl,_,_,_,_,rfl,rfl,SqT.of h1,rfl,_,rfl,n,dw,W,rfl,⋯,Z.w,λH2 s2=>?_⟩;rw[nn,S];exact J "taken" e H2 (G.trans s2)
  .have S:qq8 true (wp W (.inr n)) = "" := by unfold qq8;rw[ag ⋯,ag (by rw[ap];exact tk)]
   refine⟨rfl,_,rfl,qvj (λz=>absurd (by rw[S]) z) (λ_=>?_)⟩;have U:DGet H1 dr (.str wh) (wp R (.inr wh)):=DGet.k (k:=.inr wh) Z.r;cases er:b.rs wh with
   |none =>
    rw[I.bp.noR er]at U;subst a0;exists (exX rfl rfl (SqT.of h1) rfl (exI rfl ⟨dr,exI rfl ⟨U,_,rfl,jg (J "road" ?_ H1 G)⟩⟩));simp only[xq];rw[ag (by rw[nn];decide),ag tk,er]
   |some hs =>
    obtain⟨lo,r,ev,fr⟩:=Z.bp.row er;rw[ev]at U;have ll:=lo.2.1;have l1:=lo.1;subst a0;exists (exX rfl rfl (SqT.of h1) rfl (exI rfl ⟨dr,exI rfl ⟨U,_,rfl,yz ?_⟩⟩));have e0:xq b (.place n wh t p)=xq b (.place n wh t p):=rfl;have a2:(p<1\/40<(xv t p).2)->xq b (.place n wh t p)=(("bottom" : Str),Ans.non,b):=λz=>by simp only[xq];rw[ag (by rw[nn];decide),ag tk,er];dsimp only;rw[ak z]
    subst a7;exists (xb rfl rfl (exI rfl (zn (λz=>jg (J "bottom" (a2 (.inl z)) H1 G)) (λz=>?_))));have p1:1<=p:=by lia
    have sm:Sm 9000 p:=(sm65 ⋯ ⋯).mono ⋯;exists (exI rfl ⟨t,p,rfl,p1,sm,λp2 n2=>?_⟩);have s2:=Same.upd (H:=H1) (o:=.tup (ptV (xv t p))) n2;have f2:upd H1 p2 (.tup (ptV (xv t p))) p2=some (.tup [.int (xv t p).1,.int (xv t p).2]):=qb;generalize upd H1 p2 (.tup (ptV (xv t p)))=H2 at s2 f2;have L:=G.trans s2;have h2:=L _ _ h;refine exX rfl rfl (SqT.of f2) rfl (xb rfl rfl (exI rfl (zn (λy=>J "bottom" (a2 (.inr y)) H2 L) (λy=>?_))));have an:¬ vf hs t p->xq b (.place n wh t p)=(("off" : Str),Ans.non,b):=λz'=>by simp only[xq];rw[ag (by rw[nn];decide),ag tk,er];dsimp only;rw[ag (λq=>q.elim (λq=>by lia) (λq=>y q)),ag z']
    subst a6;exists (xb rfl rfl (exI rfl (zn (λx=>jg (J "off" (an λo=>by have:=o.1;lia) H2 L)) (λx=>?_))));have bf:=I.same L;have a1:DGet H2 dr (.str wh) (wp R (.inr wh)):=DGet.k (k:=.inr wh) bf.r;rw[ev]at a1;have lm:(hs.map V.int).length=hs.length:=aa _;exists (exI rfl (exI rfl (exX rfl rfl (SqT.of h2) rfl ⟨dr,exI rfl ⟨a1,r,exI rfl ⟨.inl (SqL.of (s2 _ _ fr)),xb rfl rfl (exI rfl ?_)⟩⟩⟩)));rw[lm];refine xb rfl rfl ⟨(by walk_at "mul"),xb rfl rfl (exI rfl (zn (λu=>J "off" (an λo=>by have:=o.2;lia) H2 L) (λu=>?_)))⟩;have on:vf hs t p:=⟨⋯,⋯⟩;have e:xq b (.place n wh t p)=(("" : Str),Ans.non,b.putW n (wh,xv t p)):=by simp only[xq];rw[ag (by rw[nn];decide),ag tk,er];dsimp only;rw[ag (λq=>q.elim (λq=>by lia) (λq=>y q)),ak on]
    rw[e]at k;subst a4;exists (exI rfl ⟨t,p,rfl,p1,sm,λO n3=>?_⟩);have s3:=Same.upd (H:=H2) (o:=.tup (ptV (xv t p))) n3;have f3:upd H2 O (.tup (ptV (xv t p))) O=some (.tup [.int (xv t p).1,.int (xv t p).2]):=qb;generalize upd H2 O (.tup (ptV (xv t p)))=H3 at s3 f3;have ah:=L.trans s3;have h3:=ah _ _ h;refine⟨O,exI rfl ⟨SqT.of f3,rfl,_,_,rfl,_,_,rfl,rfl,?_⟩⟩;subst a3;exists (exX rfl rfl (SqT.of h3) rfl (exI rfl (exI rfl ⟨sz3,λp4 n4=>?_⟩)));have s4:=Same.upd (H:=H3) (o:=.tup [.str wh,.int (xv t p).1,.int (xv t p).2]) n4;have f4:upd H3 p4 (.tup [.str wh,.int (xv t p).1,.int (xv t p).2]) p4=some (.tup [.str wh,.int (xv t p).1,.int (xv t p).2]):=qb;generalize upd H3 p4 (.tup [.str wh,.int (xv t p).1,.int (xv t p).2])=H4 at s4 f4;have ab:=ah.trans s4;have h4:=ab _ _ h;have ad:=I.same ab;exists (exI rfl (exX rfl rfl (SqT.of h4) rfl ⟨dw,exI rfl ⟨DPut.k (k:=.inr n) ad.w ⋯,?_⟩⟩));exact k _ R _ ((Kb.of ab).trans (yk (by simp))) (ad.setW (ad.bp.putW (v:=(wh,xv t p)) f4))
def qwu (b:BA)(wh:Str)(hs:List Int)(m:Nat)(l:List Str):BA:={ b with ws:=λn=>if n∈l then(match b.ws n with|none=>none|some w=>if w.1=wh then some (wh,itP hs w.2 m) else some w) else b.ws n }
theorem wqf {a:BA}(h1:a.rs=b.rs)(h2:∀n,a.ws n=b.ws n):a=b:=by obtain⟨r,w⟩:=a;obtain⟨r',w'⟩:=b;have h1:r=r':=h1;have h2:w=w':=funext h2;rw[h1,h2]
theorem xqh:qwu b wh hs m []=b:=wqf rfl λn=>by simp[qwu]
variable {l:List Str}
theorem xvz {pt:Int×Int}(e:b.ws s=some (wh,pt)):(qwu b wh hs m l).putW s (wh,itP hs pt m)=qwu b wh hs m (l++[s]):=wqf rfl λn=>by
 show(if n=s then some (wh,itP hs pt m) else if n∈l then _ else b.ws n)=if n∈l++[s] then _ else b.ws n
 by_cases z:n=s
 .rw[ak z,ak (by rw[z];simp),z,e];show _=if wh=wh then some (wh,itP hs pt m) else _
  rw[ak rfl]
 .rw[ag z];by_cases y:n∈l
  .rw[ak y,ak (by simp[y])]
  .rw[ag y,ag (by simp[y,z])]
theorem wup {v:Str×(Int×Int)}(e:b.ws s=some v)(ne:v.1≠wh):qwu b wh hs m (l++[s])=qwu b wh hs m l:=wqf rfl λn=>by
 show(if n∈l++[s] then _ else b.ws n)=if n∈l then _ else b.ws n
 by_cases y:n∈l
 .rw[ak y,ak (by simp[y])]
 .rw[ag y];by_cases z:n=s
  .rw[ak (by rw[z];simp),z,e];show(if v.1=wh then _ else some v)=some v;rw[ag ne]
  .rw[ag (by simp[y,z])]
theorem xw7 (h:∀n,(b.ws n).isSome=true->n∈l):qwu b wh hs m l=b.tog wh hs m:=wqf rfl λn=>by
 show(if n∈l then _ else b.ws n)=match b.ws n with|none=>none|some w=>if w.1=wh then some (wh,itP hs w.2 m) else some w
 by_cases y:n∈l
 .rw[ak y]
 .rw[ag y];cases e:b.ws n with
  |none=>rfl
  |some v=>exact absurd (h n (by rw[e];rfl)) y
theorem xx7 (h:s∉l):(qwu b wh hs m l).ws s=b.ws s:=ag h
def onB (b:BA)(wh:Str)(s:Str):Bool:=match b.ws s with|some w=>decide (w.1=wh)|none=>false
def EntAt (H:Hp)(ys:List V)(b:BA)(hs:List Int)(m:Nat)(cs:List Str):Prop:=ys.length=cs.length/\∀(j:Nat) n,cs[j]?=some n->∃q r,ys[j]?=some (.ref q)/\H q=some (.tup [.str n,.ref r])/\H r=some (.tup [.int (itP hs ((b.ws n).getD ("",(0,0))).2 m).1,.int (itP hs ((b.ws n).getD ("",(0,0))).2 m).2])
theorem EntAt.kb {ys:List V}{cs:List Str}(h:EntAt H ys b hs m cs){ch:List Aj}(dl:Dl H ch)(k:Kb ch H H'):EntAt H' ys b hs m cs:=⟨h.1,λj n e=>by
 obtain⟨q,r,a1,a2,a3⟩:=h.2 j n e
 exact⟨q,r,a1,dl.tup k a2,dl.tup k a3⟩⟩
theorem EntAt.add {ys:List V}{cs:List Str}(h:EntAt H ys b hs m cs){n:Str}{q r:Aj}(a2:H q=some (.tup [.str n,.ref r]))(a3:H r=some (.tup [.int (itP hs ((b.ws n).getD ("",(0,0))).2 m).1,.int (itP hs ((b.ws n).getD ("",(0,0))).2 m).2])):EntAt H (ys++[.ref q]) b hs m (cs++[n]):=by
 refine⟨by rw[aE,aE,h.1];rfl,λj J e=>?_⟩;by_cases z:j<cs.length
 .rw[bz z]at e;obtain⟨I,G,S,O,L⟩:=h.2 j J e;exact⟨I,G,by rw[bz (by rw[h.1];exact z)];exact S,O,L⟩
 .rw[bi ⋯]at e;have F:j-cs.length=0:=by
   rcases Nat.eq_zero_or_pos (j-cs.length) with y|y
   .exact y
   .rw[bg (by show 1<=_;exact y)]at e;cases e
  rw[F]at e;cases e;exact⟨q,r,by rw[bi (by rw[h.1];lia),h.1,F];rfl,a2,a3⟩
def isW:Dd->Prop
 |.place _ _ _ _=>True
 |.leave _=>True
 |.go _ _=>True
 |.tog _ _=>True
 |_=>False
theorem qwt:(10:Int) ^ (60:Int).toNat=qyk:=by decide +kernel
def qy6:Sp:=λvs H Q _=>∃(dr dw da:Aj) (R W:List (Key×V)) (b:BA) (d:Dd) (NM:List Str),vs=[.ref dr,.ref dw,.ref da]/\B2 H dr dw R W b/\BOk NM b/\NM.length<60/\DdAt H da d/\isW d/\qz0 H dr dw b d Q
include T in
theorem xxx (F:Fun K "_law_walkers_done" "_law_walkers_done" zc9 f fd)(zjh:↑Cal "_law_set" 3 xwn)(zhy:↑Cal "_law_gone" 3 (qys K)) :
  ↑FK 4 f fd ["_law_roads","_law_walkers","_law_deed_here"] qy6:=by
 have sc:=Wp;refine F.okX sc ⋯ λ_ _ _ s H vs Q E hr h=>?_;obtain⟨dr,dw,da,R,W,b,d,NM,rfl,G,bo,lN,dd,iw,k⟩:=h;have c0:=G.bp.lens bo;have c8:(10000:Nat)<sizeLine:=by decide
 unfold qz0 at k;have ab:∀(wd:Str),xq b d=(wd,Ans.non,b)->∀q,H q=none->Q (.ref q) (upd H q (.tup [.str wd,.non])):=λwd e q I=>by rw[e]at k;exact k q .non _ R W (Kb.of (Same.upd I)) (G.same (Same.upd I)) qb rfl (λ_ z=>nomatch z)
 refine⟨_,(qy (x4 (wn zd (xj xk (pv 2) qc (λ_ _=>rfl)) qc (wt _)) (qt (w6 (zk (k6 (wCA zjh (q9 (pv 0) (q9 (pv 1) (q9 (pv 2) qk)))) (xu jx qk))))) w9)
   (qy (x4 (PW.pt (Z8 (wn zd (xj xk (pv 2) qc (λ_ _=>rfl)) qc (wt _)) (Wc (Qm (yu (vc hr) (xj xk (pv 2) qc (λ_ _=>rfl)) (pv 0)))))) (qt (w6 (zk (xu xn (xu jx qk))))) w9)
   (qy (x4 (PW.pt (Z8 (wn qq6 (xj xk (pv 2) qc (λ_ _=>rfl)) qc (wt _)) (Wc (Qm (yu (vc hr) (xj xk (pv 2) qc (λ_ _=>rfl)) (pv 1)))))) (qt (w6 (zk (xu xn (xu jx qk))))) w9)
   (qy (x4 (wn zd (xj xk (pv 2) qc (λ_ _=>rfl)) qc (wt _)) (qy (zx (wq2 (pv 1) (xj xk (pv 2) qc (λ_ _=>rfl)) ⟨rfl,rfl,rfl,rfl⟩))
   (qt (w6 (zk (xu xn (xu jx qk)))))) w9)
   (qy (x4 (PW.pt (Qk (wn j8 (xj xk (pv 2) qc (λ_ _=>rfl)) qc (wt _)) (y8 (wn y4 (xj xk (pv 2) qc (λ_ _=>rfl)) (xz qqu qc qc) (wt _))))) (qt (w6 (zk (xu xn (xu jx qk))))) w9)
   (qy (x4 (wn zd (xj xk (pv 2) qc (λ_ _=>rfl)) qc (wt _)) (qt (w6 (zk (xu xn (k6 (wCA zhy (q9 (pv 0) (q9 (pv 1) (zu (xj xk (pv 2) qc (λ_ _=>rfl)) (zu (xj xk (pv 2) qc (λ_ _=>rfl)) qk))))) qk))))) w9)
   (qy (xx (i:=3) (yj qk))
   (qy (yq aS rfl (jp (xh (Qh) rfl T.sorted_ bU (k6 (vb (Z9 rfl) rfl T.list_ bA (q9 (pv 1) qk)) qk))) (xy (i:=4)) (qt (x4 (wn zd (xj xk (jw (vc hr) (pv 1) (pv 4) (λ_ _=>rfl)) qc (λ_ _=>rfl)) (xj xk (pv 2) qc (λ_ _=>rfl)) (wt _)) (qt (zx (Zt bC bS bT y9 (pv 3) (qzv (zk (q9 (pv 4) (k6 (wCA zhy (q9 (pv 0) (q9 (pv 1) (q9 (pv 4) (zu (xj xk (pv 2) qc (λ_ _=>rfl)) qk))))) qk))) qk)))) w9)))
   (qt (w6 (zk (xu xn (q9 (pv 3) qk))))))))))))),?_⟩
 dsimp only [yf];refine c7 λ_ _ _ _ _ _ _ i1 i2 i3 i4 i5 i6 i7=>?_;cases d with
 |place n wh t p =>
  obtain⟨q,h,hq,rest⟩:=id dd;subst i1;refine kdTs rfl h ?_;refine⟨_,rfl,_,rfl,_,rfl,dr,dw,da,R,W,b,n,wh,t,p,NM,rfl,G,bo,⋯,dd,λH1 R' L U bm=>⟨sz2,λq' a6=>?_⟩⟩;have an:(xq b (.place n wh t p)).2.1=.non:=by
   simp only[xq];split
   .rfl
   .split
    .rfl
    .cases b.rs wh with
     |none=>rfl
     |some hs =>
      dsimp only;split
      .rfl
      .split <;> rfl
  rw[an]at k;exact k q' .non _ R' L (U.trans (Kb.of (Same.upd a6))) (bm.same (Same.upd a6)) qb rfl (λ_ z=>nomatch z)
 |leave n =>
  have h:H da=some (.tup [.int 6,.str n]):=dd;subst i1;refine qj5 rfl h ?_;subst i2;refine kdAF rfl h ?_;subst i3;exists (exX rfl rfl (SqT.of h) rfl ⟨rfl,_,rfl,xqs (λ_=>?_) (λz=>absurd z ⋯)⟩);have J:DGet H dw (.str n) (wp W (.inr n)):=DGet.k (k:=.inr n) G.w;cases ew:b.ws n with
  |none =>
   rw[G.bp.noW ew]at J;exists (exX rfl rfl (SqT.of h) rfl (exI rfl ⟨dw,exI rfl ⟨J,_,rfl,jg ⟨sz2,λq I=>ab "walker" ?_ q I⟩⟩⟩));simp only[xq];rw[ew]
  |some v =>
   obtain⟨p,e1,f1⟩:=G.bp.wlk ew;rw[e1]at J;have e:xq b (.leave n)=(("" : Str),Ans.non,b.delW n):=by simp only[xq];rw[ew]
   rw[e]at k;exists (exX rfl rfl (SqT.of h) rfl (exI rfl ⟨dw,exI rfl ⟨J,_,rfl,yz ?_⟩⟩));subst i4;refine kdTs rfl h ?_;exists ⟨dw,rfl,.inl ⟨_,.inl G.w⟩,exI rfl (exX rfl rfl (SqT.of h) rfl ⟨W,.inr n,_,G.w,rfl,e1,?_⟩)⟩;exact⟨sz2,λq I=>k q .non _ R _ ((yk (by simp)).trans (Kb.of (Same.upd I))) ((G.setW (G.bp.delW n)).same (Same.upd I)) qb rfl (λ_ z=>nomatch z)⟩
 |go n m =>
  have h:H da=some (.tup [.int 7,.str n,.int m]):=dd;subst i1;refine qj5 rfl h ?_;subst i2;refine kdAF rfl h ?_;subst i3;exists (exX rfl rfl (SqT.of h) rfl ⟨rfl,_,rfl,xqs (λ_=>?_) (λz=>absurd z ⋯)⟩);have J:DGet H dw (.str n) (wp W (.inr n)):=DGet.k (k:=.inr n) G.w;cases ew:b.ws n with
  |none =>
   rw[G.bp.noW ew]at J;exists (exX rfl rfl (SqT.of h) rfl (exI rfl ⟨dw,exI rfl ⟨J,_,rfl,jg ⟨sz2,λq I=>ab "walker" ?_ q I⟩⟩⟩));simp only[xq];rw[ew]
  |some v =>
   obtain⟨p,e1,f1⟩:=G.bp.wlk ew;obtain⟨_,_,hs,Z,hp⟩:=bo.wo n v ew;rw[e1]at J;have ap:¬ (0<=m/\m<=qyk)->xq b (.go n m)=(("count" : Str),Ans.non,b):=λz=>by simp only[xq];rw[ew];dsimp only;rw[ag z]
   exists (exX rfl rfl (SqT.of h) rfl (exI rfl ⟨dw,exI rfl ⟨J,_,rfl,yz ?_⟩⟩));subst i4;refine qj5 rfl h ?_;subst i5;exists (exX rfl rfl (SqT.of h) rfl (xb rfl rfl (exI rfl (zn (λz=>jg ⟨sz2,λq I=>ab "count" (ap ⋯) q I⟩) (λz=>?_)))));exists (exX rfl rfl (SqT.of h) rfl (xb rfl rfl ⟨⟨⋯,⋯,⋯⟩,xb rfl rfl (exI rfl (zn (λy=>⟨sz2,λq I=>ab "count" (ap (by rw[qwt]at y;lia)) q I⟩) (λy=>?_)))⟩));rw[qwt]at y;have e:xq b (.go n m)=(("" : Str),Ans.pt (itP hs v.2 m.toNat),b.putW n (v.1,itP hs v.2 m.toNat)):=by simp only[xq];rw[ew];dsimp only;rw[ak ⟨⋯,⋯⟩,Z];rfl
   rw[e]at k;subst i6;refine kdTs rfl h ?_;refine⟨_,rfl,_,rfl,_,rfl,_,_,_,_,rfl,rfl,SqT.of h,rfl,_,rfl,_,_,_,_,rfl,rfl,SqT.of h,rfl,dr,dw,R,W,b,n,m,v,hs,rfl,G,⋯,ew,Z,hp,⋯,λq H' L U bm ek I fq=>⟨sz2,λq' a6=>?_⟩⟩;have s5:=Same.upd (H:=H') (o:=.tup [.str "",.ref q]) a6;exact k q' (.ref q) _ R L (U.trans (Kb.of s5)) (bm.same s5) qb ⟨q,rfl,s5 _ _ fq,(hp.it _).g⟩ (λa z=>by cases z;exact I)
 |tog n m =>
  have h:H da=some (.tup [.int 8,.str n,.int m]):=dd;subst i1;refine qj5 rfl h ?_;have J:DGet H dr (.str n) (wp R (.inr n)):=DGet.k (k:=.inr n) G.r;subst i2;exists (exX rfl rfl (SqT.of h) rfl ⟨rfl,_,rfl,v9 (λ_=>?_) (λz=>absurd rfl z)⟩);cases Z:b.rs n with
  |none =>
   rw[G.bp.noR Z]at J;exists (exX rfl rfl (SqT.of h) rfl (exI rfl ⟨dr,exI rfl ⟨J,_,rfl,jg ⟨sz2,λq I=>ab "road" ?_ q I⟩⟩⟩));simp only[xq];rw[Z]
  |some hs =>
   obtain⟨lo,r,ev,fr⟩:=G.bp.row Z;rw[ev]at J;have ap:¬ (0<=m/\m<=qyk)->xq b (.tog n m)=(("count" : Str),Ans.non,b):=λz=>by simp only[xq];rw[Z];dsimp only;rw[ag z]
   exists (exX rfl rfl (SqT.of h) rfl (exI rfl ⟨dr,exI rfl ⟨J,_,rfl,yz ?_⟩⟩));subst i3;refine kdAG rfl h ?_;subst i4;refine qj5 rfl h ?_;subst i5;exists (exX rfl rfl (SqT.of h) rfl (xb rfl rfl (exI rfl (zn (λz=>jg ⟨sz2,λq I=>ab "count" (ap ⋯) q I⟩) (λz=>?_)))));exists (exX rfl rfl (SqT.of h) rfl (xb rfl rfl ⟨⟨⋯,⋯,⋯⟩,xb rfl rfl (exI rfl (zn (λy=>⟨sz2,λq I=>ab "count" (ap (by rw[qwt]at y;lia)) q I⟩) (λy=>?_)))⟩));rw[qwt]at y;have e:xq b (.tog n m)=(("" : Str),Ans.lst (qyx b n hs m.toNat),b.tog n hs m.toNat):=by simp only[xq];rw[Z];dsimp only;rw[ak ⟨⋯,⋯⟩]
   rw[e]at k;subst i6;refine qj5 rfl h ?_;subst i7;refine⟨sz0,λl nl=>?_⟩;have s1:=Same.upd (H:=H) (o:=.lst []) nl;have f1:upd H l (.lst []) l=some (.lst []):=qb;generalize upd H l (.lst [])=H1 at s1 f1;obtain⟨ek,b5⟩:=yr G.bp.nW G.bp.fW;have b8:∀s,s∈W.map yg↔(b.ws s).isSome=true:=λs=>by
    rw[u9 G.bp.nW G.bp.fW s];cases e:b.ws s with
    |none=>rw[G.bp.noW e];simp
    |some v=>obtain⟨p,e1,_⟩:=G.bp.wlk e;rw[e1];simp
   exists ⟨dw,W,W.map yg,rfl,.inl (s1 _ _ G.w),ek,λp1 n1=>?_⟩;have s2:=Same.upd (H:=H1) (o:=.lst ((W.map yg).map V.str)) n1;have f2:upd H1 p1 (.lst ((W.map yg).map V.str)) p1=some (.lst ((W.map yg).map V.str)):=qb;generalize upd H1 p1 (.lst ((W.map yg).map V.str))=H2 at s2 f2;refine⟨p1,W.map yg,rfl,SqL.of f2,by rw[aa];lia,λl2 ms a9 pm b1=>?_⟩;have s3:=Same.upd (H:=H2) (o:=.lst (ms.map V.str)) a9;have f3:upd H2 l2 (.lst (ms.map V.str)) l2=some (.lst (ms.map V.str)):=qb;generalize upd H2 l2 (.lst (ms.map V.str))=H3 at s3 f3;have br:ms.Nodup:=pm.nodup_iff.mpr b5;have a7:∀s,s∈ms↔(b.ws s).isSome=true:=λs=>pm.mem_iff.trans (b8 s);have a8:=(s1.trans s2).trans s3;have bs:=(s2.trans s3) _ _ f1;have a4:=G.same a8;have b4:l2≠l:=λz=>by rw[z,(s2 _ _ f1)]at a9;cases a9
   have ct:ms.length<64:=by have:=pm.length_eq;rw[aa]at this;lia
   refine⟨l2,rfl,⟨_,SqL.of f3⟩,qjr (xs:=ms.map V.str) (λi σ S=>∃L ys z,σ=[some (.ref dr),some (.ref dw),some (.ref da),some (.ref l),z]/\Kb [dr,dw,l] H3 S/\B2 S dr dw R L (qwu b n hs m.toNat (ms.take i))/\L.map (·.1)=W.map (·.1)/\S l=some (.lst ys)/\EntAt S ys b hs m.toNat ((ms.take i).filter (onB b n))) ⟨W,[],none,rfl,λ_ _ _ e=>e,by rw[List.take_zero,xqh];exact a4,rfl,bs,⟨rfl,λj n' e=>by rw[List.take_zero]at e;cases e⟩⟩ (λi σ S _ h=>?_) ?_ ?_⟩
   .obtain⟨L,ys,z,rfl,U,O,_,fl,_⟩:=h;refine SqL.of (U _ _ (λq=>?_) f3);simp only[ae,af,aQ]at q;rcases q with q|q|q
    .rw[q,a4.r]at f3;cases f3
    .rw[q,a4.w]at f3;cases f3
    .exact b4 q
   .rintro _ _ i x σ S hx ⟨L,ys,z,rfl,U,O,ekx,fl,en⟩;rw[aB]at hx;cases em:ms[i]? with
    |none=>rw[em]at hx;cases hx
    |some s =>
     rw[em]at hx;cases hx;have hi:=(aI.mp em).1;have tk:ms.take (i+1)=ms.take i++[s]:=by rw[cy,em];rfl
     have ns:s∉ms.take i:=λq=>by obtain⟨j,hj,ej⟩:=bD q;rw[bG]at hj;rw[d7]at ej;have ei:=(aI.mp em).2;have:=(dC (h₀:=by lia) (h₁:=hi) br (i:=j) (j:=i)).mp (by rw[ej,ei]);lia
     obtain⟨v,ad⟩:=az.mp ((a7 s).mp (aK em));have bt:(qwu b n hs m.toNat (ms.take i)).ws s=some v:=(xx7 ns).trans ad;obtain⟨p,e1,fp⟩:=O.bp.wlk bt;have b0:DGet S dw (.str s) (wp L (.inr s)):=DGet.k (k:=.inr s) O.w;rw[e1]at b0;have cj:Dl H3 [dr,dw,l]:=.cons (.inl ⟨_,.inl a4.r⟩) (.cons (.inl ⟨_,.inl a4.w⟩) (.cons (.inr ⟨[],(λv hv=>nomatch hv),bs⟩) .nil));have hx:S da=some (.tup [.int 8,.str n,.int m]):=cj.tup U (a8 _ _ h);have lx:l∉[dr,dw]:=λq=>by
      simp only[ae,af,aQ]at q;rcases q with q|q
      .rw[q,O.r]at fl;cases fl
      .rw[q,O.w]at fl;cases fl
     obtain⟨_,_,ks,ah,hp⟩:=bo.wo s v ad;have c6:L.length=W.length:=by have:=bu List.length ekx;rwa [aa,aa]at this
     exists (exI rfl ⟨dw,exI rfl ⟨b0,exX rfl rfl (SqT.of fp) rfl (exI rfl (exX rfl rfl (SqT.of hx) rfl ⟨rfl,_,rfl,zn (λq=>?_) (λq=>?_)⟩))⟩⟩)
     .have q:v.1=n:=by injection q
      rw[q,Z]at ah;cases ah;have eg:((b.ws s).getD ("",(0,0))).2=v.2:=by rw[ad];rfl
      refine⟨_,rfl,.inl ⟨rfl,_,SqL.of fl⟩,_,rfl,_,rfl,_,rfl,_,rfl,_,rfl,_,_,_,_,rfl,rfl,SqT.of hx,rfl,dr,dw,R,L,_,s,m,v,hs,rfl,O,⋯,bt,(by rw[q];exact Z),hp,⋯,λq1 H' cp b7 co cg cr b9=>⟨sz2,λt nt=>?_⟩⟩;have s4:=Same.upd (H:=H') (o:=.tup [.str s,.ref q1]) nt;have ft:upd H' t (.tup [.str s,.ref q1]) t=some (.tup [.str s,.ref q1]):=qb;generalize upd H' t (.tup [.str s,.ref q1])=H5 at s4 ft;have bb:Kb [dr,dw] S H5:=b7.trans (Kb.of s4);have bl:H5 l=some (.lst ys):=bb _ _ lx fl;have a0:=co.same s4;have cq:ys.length<=ms.length:=by rw[en.1];have:=bF (onB b n) (ms.take i);rw[bG]at this;lia
      refine⟨l,ys,_,rfl,rfl,bl,⋯,cp,_,_,rfl,?_,?_,cg.trans ekx,qb,?_⟩
      .refine(U.trans (bb.mono λb hb=>?_)).trans (yk (by simp));simp only[ae,af,aQ]at hb ⊢;rcases hb with hb|hb
       .exact .inl hb
       .exact .inr (.inl hb)
      .have cc:(qwu b n hs m.toNat (ms.take i)).putW s (v.1,itP hs v.2 m.toNat)=qwu b n hs m.toNat (ms.take (i+1)):=by rw[tk,q];exact xvz (by rw[ad,<-q])
       rw[cc]at a0;have kl:Kb [l] H5 (upd H5 l (.lst (ys++[.ref t]))):=yk (by simp);have b3:Z4 ys:=λv' bf=>by
        obtain⟨j,hj,ej⟩:=bD bf;have bk:j<((ms.take i).filter (onB b n)).length:=by rw[<-en.1];exact hj
        obtain⟨q',r',a1,_⟩:=en.2 j _ (aj bk);rw[aj hj,ej]at a1;exact⟨q',au a1⟩
       have ci:Dl H5 [l]:=.cons (.inr ⟨_,b3,bl⟩) .nil;refine⟨?_,?_,a0.ne,a0.bp.kb ci kl⟩
       .rw[wg (λq=>lx (by rw[<-q];simp))];exact a0.r
       .rw[wg (λq=>lx (by rw[<-q];simp))];exact a0.w
      .have ef:(ms.take (i+1)).filter (onB b n)=(ms.take i).filter (onB b n)++[s]:=by
        rw[tk,cJ];congr 1;have:onB b n s=true:=by unfold onB;rw[ad];exact aT q
        simp[this]
       rw[ef];have e5:=en.kb O.dl bb;refine((e5.add (n:=s) ft (by rw[eg];exact s4 _ _ b9)).kb (ch:=[l]) (.cons (.inr ⟨ys,λv' bf=>?_,bl⟩) .nil) (yk (by simp)));obtain⟨j,hj,ej⟩:=bD bf;have bk:j<((ms.take i).filter (onB b n)).length:=by rw[<-en.1];exact hj
       obtain⟨q',r',a1,_⟩:=en.2 j _ (aj bk);rw[aj hj,ej]at a1;exact⟨q',au a1⟩
     .have q:v.1≠n:=λz=>q (by rw[z]);refine⟨L,ys,exI rfl ⟨U,?_,ekx,fl,?_⟩⟩
      .rw[tk,wup ad q];exact O
      .have ef:(ms.take (i+1)).filter (onB b n)=(ms.take i).filter (onB b n):=by
        rw[tk,cJ];have:onB b n s=false:=by unfold onB;rw[ad];exact be q
        simp[this]
       rw[ef];exact en
   .rintro σ S ⟨L,ys,z,rfl,U,O,ekx,fl,en⟩;rw[aa,ce]at O en;rw[xw7 λs hs=>(a7 s).mpr hs]at O;exists ⟨sz2,λq I=>?_⟩;have s5:=Same.upd (H:=S) (o:=.tup [.str "",.ref l]) I;have eo:onL b n=ms.filter (onB b n):=xqg ⟨br.filter _,λs=>by
     rw[bj,a7]
     unfold onB
     constructor
     .rintro⟨h1,h2⟩
      obtain⟨v,ev⟩:=az.mp h1
      rw[ev]at h2
      have h2:v.1=n:=bM h2
      exact⟨v.2,by rw[ev,<-h2]⟩
     .rintro⟨pt,ev⟩
      rw[ev]
      exact⟨rfl,aT rfl⟩,b1.filter _⟩
    have b6:Kb [dr,dw] H S:=λc u nc e=>by
     refine U _ _ (λq=>?_) (a8 _ _ e);simp only[ae,af,aQ]at q nc;rcases q with q|q|q
     .exact nc (.inl q)
     .exact nc (.inr q)
     .rw[q,nl]at e;cases e
    refine k q (.ref l) _ R L (b6.trans (Kb.of s5)) (O.same s5) qb ⟨l,ys,rfl,s5 _ _ fl,?_,?_,λj x ex=>?_⟩ (λa z=>by cases z;exact nl)
    .unfold qyx;rw[eo,aa,en.1]
    .unfold qyx;rw[eo,aa];have:=bF (onB b n) ms;lia
    .unfold qyx at ex;rw[eo,aB]at ex;cases em:(ms.filter (onB b n))[j]? with
     |none=>rw[em]at ex;cases ex
     |some s =>
      rw[em]at ex;cases ex;obtain⟨q1,r1,a1,a2,a3⟩:=en.2 j s em;have hm:=bj.mp (aK em);obtain⟨v,ev⟩:=az.mp ((a7 s).mp hm.1);have h2:=hm.2;unfold onB at h2;rw[ev]at h2;have h2:v.1=n:=bM h2;obtain⟨nb,_,ks,ah,hp⟩:=bo.wo s v ev;rw[h2,Z]at ah;cases ah;have eg:((b.ws s).getD ("",(0,0))).2=v.2:=by rw[ev];rfl
      dsimp only;rw[eg]at a3 ⊢;exact⟨q1,r1,a1,s5 _ _ a2,s5 _ _ a3,(hp.it _).g,nb⟩
 |_=>exact iw.elim
theorem wut (h:(xq b d).1 ≠ ""):xq b d=((xq b d).1,Ans.non,b):=by
 have F:∀(x:Str×Ans×BA),(x.1 = "" \/ x.2=(Ans.non,b))->x.1 ≠ "" -> x=(x.1,Ans.non,b):=λx G I=>by
  rcases G with z|z
  .exact absurd z I
  .obtain⟨a,c⟩:=x;have z:c=(Ans.non,b):=z;rw[z]
 refine F _ ?_ h;cases d <;> simp only[xq]
 .split
  .exact .inr rfl
  .split
   .exact .inr rfl
   .split
    .exact .inl rfl
    .exact .inr rfl
 .split
  .exact .inr rfl
  .split
   .exact .inl rfl
   .exact .inr rfl
 .split
  .exact .inr rfl
  .split
   .exact .inl rfl
   .exact .inr rfl
 .split
  .exact .inr rfl
  .split
   .split
    .exact .inr rfl
    .exact .inl rfl
   .exact .inr rfl
 .split
  .exact .inr rfl
  .split
   .exact .inr rfl
   .exact .inl rfl
 .split
  .exact .inr rfl
  .split
   .exact .inr rfl
   .split
    .exact .inr rfl
    .split
     .exact .inr rfl
     .split
      .exact .inl rfl
      .exact .inr rfl
 .split
  .exact .inr rfl
  .exact .inl rfl
 .split
  .exact .inr rfl
  .split
   .exact .inl rfl
   .exact .inr rfl
 .split
  .exact .inr rfl
  .split
   .exact .inl rfl
   .exact .inr rfl
 .first | exact .inl trivial | exact .inl rfl | simp
structure Pst where
 tp:Aj
 q1:Aj
 q2:Aj
 R:List (Key×V)
 W:List (Key×V)
def PstAt (H:Hp)(p:Pst)(b:BA):Prop:=H p.tp=some (.tup [.ref p.q1,.ref p.q2])/\H p.q1=some (.dK p.R)/\H p.q2=some (.dK p.W)/\BP H p.R p.W b/\p.R.length<=100/\p.W.length<=100
def PsAt (H:Hp):List Pst->List BA->Prop
 |[],[]=>True
 |p::ps,b::t=>PstAt H p b/\PsAt H ps t
 |_,_=>False
theorem PsAt.kb {ch:List Aj}(dl:Dl H ch)(k:Kb ch H H'):∀ {ps:List Pst} {t:List BA},PsAt H ps t->(∀p∈ps,p.q1∉ch/\p.q2∉ch)->PsAt H' ps t
 |[],[],_,_=>trivial
 |p::ps,b::t,h,n=>by obtain⟨⟨a1,a2,a3,a4,a5⟩,h2⟩:=h;obtain⟨n1,n2⟩:=n p (aw ..);exact⟨⟨dl.tup k a1,k _ _ n1 a2,k _ _ n2 a3,a4.kb dl k,a5⟩,PsAt.kb dl k h2 λq hq=>n q (ay _ hq)⟩
 |[],_::_,h,_=>h.elim
 |_::_,[],h,_=>h.elim
theorem PsAt.len:∀ {ps:List Pst} {t:List BA},PsAt H ps t->ps.length=t.length
 |[],[],_=>rfl
 |p::ps,b::t,h=>by rw[aC,aC,PsAt.len h.2]
 |[],_::_,h=>h.elim
 |_::_,[],h=>h.elim
theorem PsAt.occ:∀ {ps:List Pst} {t:List BA},PsAt H ps t->∀p∈ps,(∃kv,H p.q1=some (.dK kv))/\∃kv,H p.q2=some (.dK kv)
 |[],[],_,p,hp=>nomatch hp
 |q::ps,b::t,h,p,hp=>by
  rcases ae.mp hp with rfl|hp
  .exact⟨⟨_,h.1.2.1⟩,⟨_,h.1.2.2.1⟩⟩
  .exact PsAt.occ h.2 p hp
 |[],_::_,h,_,_=>h.elim
 |_::_,[],h,_,_=>h.elim
structure Bk where
 dr:Aj
 dw:Aj
 dp:Aj
 R:List (Key×V)
 W:List (Key×V)
 ps:List Pst
def Bk.ad (k:Bk):List Aj:=k.dr::k.dw::k.dp::k.ps.flatMap λp=>[p.q1,p.q2]
def tpL (ps:List Pst):List V:=ps.reverse.map λp=>V.ref p.tp
theorem Yb (ps:List Pst):Z4 (tpL ps):=λv hv=>by obtain⟨d,_,rfl⟩:=ar.mp hv;exact⟨_,rfl⟩
theorem qzp (p:Pst)(ps:List Pst):tpL (p::ps)=tpL ps++[.ref p.tp]:=by unfold tpL;rw[dR,aV];rfl
theorem qyc (ps:List Pst):(tpL ps).length=ps.length:=by unfold tpL;rw[aa,cW]
structure BkAt (H:Hp)(k:Bk)(b:BA)(t:List BA):Prop where
 b2:B2 H k.dr k.dw k.R k.W b
 p:H k.dp=some (.lst (tpL k.ps))
 ps:PsAt H k.ps t
 nq:∀p∈k.ps,(p.q1≠k.dr/\p.q1≠k.dw)/\p.q2≠k.dr/\p.q2≠k.dw
theorem BkAt.dl {k:Bk}{t:List BA}(h:BkAt H k b t):Dl H [k.dr,k.dw,k.dp]:=.cons (.inl ⟨_,.inl h.b2.r⟩) (.cons (.inl ⟨_,.inl h.b2.w⟩) (.cons (.inr ⟨_,Yb _,h.p⟩) .nil))
theorem wuh {k:Bk}{p:Pst}(h:p∈k.ps):p.q1∈k.ad/\p.q2∈k.ad:=⟨ay _ (ay _ (ay _ (cE.mpr ⟨p,h,by simp⟩))),ay _ (ay _ (ay _ (cE.mpr ⟨p,h,by simp⟩)))⟩
theorem BkAt.kb {k:Bk}{t:List BA}(h:BkAt H k b t){ch:List Aj}(dl:Dl H ch)(kb:Kb ch H H')(n:∀x∈k.ad,x∉ch):BkAt H' k b t:=by refine⟨⟨kb _ _ (n _ (by unfold Bk.ad;simp)) h.b2.r,kb _ _ (n _ (by unfold Bk.ad;simp)) h.b2.w,h.b2.ne,h.b2.bp.kb dl kb⟩,kb _ _ (n _ (by unfold Bk.ad;simp)) h.p,h.ps.kb dl kb λp F=>⟨n _ (wuh F).1,n _ (wuh F).2⟩,h.nq⟩
theorem BkAt.same {k:Bk}{t:List BA}(h:BkAt H k b t)(s:Same H H'):BkAt H' k b t:=h.kb (ch:=[]) Dl.nil (Kb.of s) λ_ _=>af
theorem BkAt.occ {k:Bk}{t:List BA}(h:BkAt H k b t):∀x∈k.ad,∃o,H x=some o:=λx hx=>by
 unfold Bk.ad at hx;rcases ae.mp hx with rfl|hx
 .exact⟨_,h.b2.r⟩
 rcases ae.mp hx with rfl|hx
 .exact⟨_,h.b2.w⟩
 rcases ae.mp hx with rfl|hx
 .exact⟨_,h.p⟩
 obtain⟨p,hp,hx⟩:=cE.mp hx;obtain⟨⟨_,e1⟩,⟨_,e2⟩⟩:=h.ps.occ p hp;simp only[ae,af,aQ]at hx;rcases hx with rfl|rfl
 .exact⟨_,e1⟩
 .exact⟨_,e2⟩
theorem qjx:∀(more kvs:List (Key×V)),((kvs++more).map (·.1)).Nodup->uq kvs more=kvs++more
 |[],kvs,_=>by rw[cO];rfl
 |c::more,kvs,nd=>by
  have e:kvs++c::more=(kvs++[c])++more:=by simp
  show uq (v8 kvs c.1 c.2) more=_;have F:wp kvs c.1=none:=Yu λz=>by rw[aV,aH]at nd;exact(d8.mp nd).2.2 _ z _ (aw ..) rfl
  rw[Q8 _ F,e];exact qjx more (kvs++[c]) (by rw[<-e];exact nd)
theorem qju {more:List (Key×V)}(nd:(more.map (·.1)).Nodup):uq [] more=more:=qjx more [] nd
def DoneR (b:BA)(t:List BA)(d:Dd)(wd:Str)(ans:Ans)(b':BA)(t':List BA):Prop :=
 ((∀n,d≠.back n)/\((wd = "" /\ xq b d=(("" : Str),ans,b')/\t'=b::t)\/(wd ≠ "" /\ xq b d=(wd,ans,b)/\b'=b/\t'=t))) \/
 ((∃n,d=.back n)/\ans=.non/\((t=[]/\wd = "nothing" /\ b'=b/\t'=[])\/(wd = "" /\ t=b'::t')))
def wv8:Sp:=λvs H Q _=>∃(k:Bk) (da:Aj) (b:BA) (t:List BA) (d:Dd) (NM:List Str),vs=[.ref k.dp,.ref k.dr,.ref k.dw,.ref da]/\BkAt H k b t/\BOk NM b/\NM.length<60/\t.length<=1000/\DdAt H da d /\
 ∀(q:Aj) (v:V) (H':Hp) (k':Bk) (b':BA) (t':List BA) (wd:Str) (ans:Ans),DoneR b t d wd ans b' t'->BkAt H' k' b' t'->Kb [k.dr,k.dw,k.dp] H H'->k'.dr=k.dr->k'.dw=k.dw->k'.dp=k.dp->(∀x∈k'.ad,x∈k.ad\/H x=none)->H' q=some (.tup [.str wd,v])->AnsAt H' v ans->(∀a,v=.ref a->H a=none)->Q (.ref q) H'
theorem AnsAt.same {ans:Ans}(h:AnsAt H v ans)(s:Same H H'):AnsAt H' v ans:=by
 cases ans with
 |non=>exact h
 |pt p=>obtain⟨a,e,f,g⟩:=h;exact⟨a,e,s _ _ f,g⟩
 |lst l =>
  obtain⟨a,ys,e,f,G,F,g⟩:=h;refine⟨a,ys,e,s _ _ f,G,F,λj x ex=>?_⟩;obtain⟨q,r,O,L,J,I⟩:=g j x ex;exact⟨q,r,O,s _ _ L,s _ _ J,I⟩
theorem AnsAt.kbd {ans:Ans}(h:AnsAt H v ans){c:Aj}{D:List V}(fc:H c=some (.lst D))(rf:Z4 D)(k:Kb [c] H H')(nc:v≠.ref c):AnsAt H' v ans:=by
 have F:Dl H [c]:=.cons (.inr ⟨D,rf,fc⟩) .nil;cases ans with
 |non=>exact h
 |pt p=>obtain⟨a,e,f,g⟩:=h;exact⟨a,e,F.tup k f,g⟩
 |lst l =>
  obtain⟨a,ys,e,f,I,G,g⟩:=h;refine⟨a,ys,e,k _ _ (λz=>nc (by rw[e,am.mp z])) f,I,G,λj x ex=>?_⟩;obtain⟨q,r,S,O,L,J⟩:=g j x ex;exact⟨q,r,S,F.tup k O,F.tup k L,J⟩
theorem kb3 {a b c:Aj}(k:Kb [a,b] H H'):Kb [a,b,c] H H':=k.mono λx hx=>by
 simp only[ae,af,aQ]at hx ⊢;rcases hx with hx|hx
 .exact .inl hx
 .exact .inr (.inl hx)
include T in
theorem xv0 (F:Fun K "_law_done" "_law_done" zda f fd)(zji:↑Cal "_law_roads_done" 3 qur)(zjj:↑Cal "_law_walkers_done" 4 qy6) :
  ↑FK 5 f fd ["_law_past","_law_roads","_law_walkers","_law_deed_here"] wv8:=by
 have sc:=qu0;refine F.okX sc ⋯ λ_ _ _ _ H vs Q E hr h=>?_;obtain⟨⟨dr,dw,J,R,W,ps⟩,da,b,t,d,NM,rfl,bk,bo,lN,lt,dd,k⟩:=h;have cr:ps.length=t.length:=bk.ps.len;have b2:B2 H dr dw R W b:=bk.b2;have fp:H J=some (.lst (tpL ps)):=bk.p;have d4:=b2.bp.lens bo;have d5:(10000:Nat)<sizeLine:=by decide
 have pr:J≠dr:=λz=>by rw[z,b2.r]at fp;cases fp
 have pw:J≠dw:=λz=>by rw[z,b2.w]at fp;cases fp
 refine⟨_,(qy (xx (i:=4) (zk (k6 (vb qvn rfl T.dict_ ee (q9 (pv 1) qk)) (k6 (vb qvn rfl T.dict_ ee (q9 (pv 2) qk)) qk))))
   (qy (x4 (wn zd (xj xk (pv 3) qc (λ_ _=>rfl)) qc (wt _)) (qy (x4 (wn zd (xh x9 rfl T.len_ aF (q9 (pv 0) qk)) qc (wt _)) (qt (w6 (zk (xu xn (xu jx qk))))) w9)
   (qy (k8 (wz0 bC eF eG wzx (pv 0)) (vt rfl (xf (xy (i:=5)) (xf (xy (i:=6)) vq))))
   (qy (yq aS rfl (jp (yj (qzv (zk (q9 (pv 1) (q9 (pv 5) qk))) (qzv (zk (q9 (pv 2) (q9 (pv 6) qk))) qk)))) (vt rfl (xf (xy (i:=7)) (xf (xy (i:=8)) vq))) (qy (zx (wj8 (pv 7)))
   (qt (zx (xvq (pv 7) (pv 8) ⟨rfl,rfl,rfl,rfl⟩)))))
   (qt (w6 (zk (xu xn (xu jx qk)))))))) w9)
   (jf (x4 (wn j8 (xj xk (pv 3) qc (λ_ _=>rfl)) qc (wt _)) (qt (k8 (wCA zji (q9 (pv 1) (q9 (pv 2) (q9 (pv 3) qk)))) (vt rfl (xf (xy (i:=9)) (xf (xy (i:=10)) vq))))) (qt (k8 (wCA zjj (q9 (pv 1) (q9 (pv 2) (q9 (pv 3) qk)))) (vt rfl (xf (xy (i:=9)) (xf (xy (i:=10)) vq))))))
   (jf (x4 (wn zd (pv 9) xn (wt _)) (qt (zx (Zt bC bS bT y9 (pv 0) (q9 (pv 4) qk)))) w9)
   (qt (w6 (zk (q9 (pv 9) (q9 (pv 10) qk))))))))),?_⟩
 dsimp only [yf];refine c3 λ_ _ _ i1 i2 i3=>?_;subst i1;exists ⟨dr,R,rfl,.inl b2.r,λZ n1=>?_⟩;have s1:=Same.upd (H:=H) (o:=.dK R) n1;have f1:upd H Z (.dK R) Z=some (.dK R):=qb;generalize upd H Z (.dK R)=H1 at s1 f1;exists ⟨dw,W,rfl,.inl (s1 _ _ b2.w),λU n2=>?_⟩;have s2:=Same.upd (H:=H1) (o:=.dK W) n2;have f2:upd H1 U (.dK W) U=some (.dK W):=qb;have b9:=s2 _ _ f1;have a8:H U=none:=x6 s1 n2;have d2:Z≠U:=λz=>by rw[<-z,f1]at n2;cases n2
 generalize upd H1 U (.dK W)=H2 at s2 f2 b9;refine⟨sz2,λS co=>?_⟩;have s3:=Same.upd (H:=H2) (o:=.tup [.ref Z,.ref U]) co;have f3:upd H2 S (.tup [.ref Z,.ref U]) S=some (.tup [.ref Z,.ref U]):=qb;have g1:=s3 _ _ b9;have g2:=s3 _ _ f2;generalize upd H2 S (.tup [.ref Z,.ref U])=H3 at s3 f3 g1 g2;have ap:=(s1.trans s2).trans s3;have bl:=bk.same ap;have a7:B2 H3 dr dw R W b:=bl.b2;have ah:H3 J=some (.lst (tpL ps)):=bl.p;by_cases zb:∃n,d=.back n
 .obtain⟨n,rfl⟩:=zb;have h:H3 da=some (.tup [.int 9,.str n]):=ap _ _ dd;subst i2;refine kdTs rfl h (c4 λl1 l2 l3 l4 i4 i5 i6 i7=>?_);subst i4;exists ⟨J,exI rfl ⟨.inl (SqL.of ah),rfl,_,rfl,v9 (λz=>?_) (λz=>?_)⟩⟩
  .rw[qyc]at z;refine⟨sz2,λq nq=>?_⟩;have s4:=Same.upd (H:=H3) (o:=.tup [.str "nothing",.non]) nq;have t0:t=[]:=cx.mp ⋯;subst t0;exact k q .non _ ⟨dr,dw,J,R,W,ps⟩ b [] "nothing" .non (.inr ⟨⟨n,rfl⟩,rfl,.inl ⟨rfl,rfl,rfl,rfl⟩⟩) (bl.same s4) (Kb.of (ap.trans s4)) rfl rfl rfl (λx I=>.inl I) qb rfl (λ_ z=>nomatch z)
  .rw[qyc]at z;obtain⟨G,ps,rfl⟩:∃G ps',ps=G::ps':=by
    cases ps with
    |nil=>exact absurd rfl z
    |cons G ps'=>exact⟨G,ps',rfl⟩
   obtain⟨c,t,rfl⟩:∃c t',t=c::t':=by
    cases t with
    |nil=>exact absurd cr (by simp)
    |cons c t'=>exact⟨c,t',rfl⟩
   obtain⟨⟨a1,a2,a3,a4,a5,a6⟩,b6⟩:=bl.ps;obtain⟨⟨u1,u2⟩,u3,u4⟩:=bk.nq G (aw ..);have u1:G.q1≠dr:=u1;have u2:G.q1≠dw:=u2;have u3:G.q2≠dr:=u3;have u4:G.q2≠dw:=u4;subst i5;refine⟨_,rfl,.inl ⟨rfl,_,SqL.of ah⟩,J,_,.ref G.tp,rfl,rfl,ah,by rw[qzp,aE];simp,?_⟩;have ed:(tpL (G::ps)).dropLast=tpL ps:=by rw[qzp,List.dropLast_concat]
   rw[ed];have k4:Kb [J] H3 (upd H3 J (.lst (tpL ps))):=yk (by simp);have f4:upd H3 J (.lst (tpL ps)) J=some (.lst (tpL ps)):=qb;have bb:Dl H3 [J]:=.cons (.inr ⟨_,Yb _,ah⟩) .nil;have bt:G.q1≠J:=λz=>by rw[z,ah]at a2;cases a2
   have bs:G.q2≠J:=λz=>by rw[z,ah]at a3;cases a3
   generalize upd H3 J (.lst (tpL ps))=H4 at k4 f4;have r4:=k4 _ _ (by simpa using aZ pr) a7.r;have w4:=k4 _ _ (by simpa using aZ pw) a7.w;have d1:=bb.tup k4 a1;have d0:=k4 _ _ (by simpa using bt) a2;have dy:=k4 _ _ (by simpa using bs) a3;have dt:=a4.kb bb k4;have bf:=b6.kb bb k4 λp O=>by obtain⟨⟨_,o1⟩,⟨_,o2⟩⟩:=b6.occ p O;exact⟨(λz=>by rw[am.mp z,ah]at o1;cases o1),(λz=>by rw[am.mp z,ah]at o2;cases o2)⟩
   refine⟨G.tp,exI rfl ⟨SqT.of d1,rfl,_,_,rfl,_,_,rfl,rfl,?_⟩⟩;subst i6;exists (exI rfl ⟨sz2,λt1 cq=>?_⟩);have s5:=Same.upd (H:=H4) (o:=.tup [.ref dr,.ref G.q1]) cq;have b8:upd H4 t1 (.tup [.ref dr,.ref G.q1]) t1=some (.tup [.ref dr,.ref G.q1]):=qb;generalize upd H4 t1 (.tup [.ref dr,.ref G.q1])=H5 at s5 b8;exists (exI rfl ⟨sz2,λt2 cp=>?_⟩);have s6:=Same.upd (H:=H5) (o:=.tup [.ref dw,.ref G.q2]) cp;have b7:upd H5 t2 (.tup [.ref dw,.ref G.q2]) t2=some (.tup [.ref dw,.ref G.q2]):=qb;generalize upd H5 t2 (.tup [.ref dw,.ref G.q2])=H6 at s6 b7;refine⟨sz2,λl nl=>?_⟩;have s7:=Same.upd (H:=H6) (o:=.lst [.ref t1,.ref t2]) nl;have fl:upd H6 l (.lst [.ref t1,.ref t2]) l=some (.lst [.ref t1,.ref t2]):=qb;generalize upd H6 l (.lst [.ref t1,.ref t2])=H7 at s7 fl;have a0:=(s5.trans s6).trans s7;have r7:=a0 _ _ r4;have w7:=a0 _ _ w4;have c9:=(s6.trans s7) _ _ b8;have c8:=s7 _ _ b7;have x7:=a0 _ _ d0;have y7:=a0 _ _ dy;have bm:Dl H7 [dr,dw]:=.cons (.inl ⟨_,.inl r7⟩) (.cons (.inl ⟨_,.inl w7⟩) .nil);have ct:l∉[dr,dw]:=λz=>by
    simp only[ae,af,aQ]at z;rcases z with z|z
    .rw[z,r7]at fl;cases fl
    .rw[z,w7]at fl;cases fl
   have ci:G.q1∉[dr,dw]:=by simpa using ⟨u1,u2⟩
   have cg:G.q2∉[dr,dw]:=by simpa using ⟨u3,u4⟩
   refine⟨l,rfl,⟨_,SqL.of fl⟩,qjr (xs:=[.ref t1,.ref t2]) (λi σ L=>Kb [dr,dw] H7 L/\L dr=some (.dK (if i=0 then R else G.R))/\L dw=some (.dK (if i<=1 then W else G.W))/\∃z1 z2,σ=[some (.ref J),some (.ref dr),some (.ref dw),some (.ref da),some (.ref S),some (.ref G.q1),some (.ref G.q2),z1,z2,none,none]) ⟨λ_ _ _ e=>e,r7,w7,_,_,rfl⟩ (λi σ L _ h=>SqL.of (h.1 _ _ ct fl)) ?_ ?_⟩
   .rintro _ _ i x σ L I ⟨kx,rx,wx,z1,z2,rfl⟩
    match i,I with
    |0,I =>
     cases I;have rx:L dr=some (.dK R):=rx;have wx:L dw=some (.dK W):=wx;refine⟨t1,exI rfl ⟨SqT.of (bm.tup kx c9),rfl,_,_,rfl,_,_,rfl,rfl,?_⟩⟩;exists ⟨dr,R,rfl,rx,?_⟩;refine⟨_,rfl,dr,rfl,.inl ⟨_,.inl qb⟩,_,rfl,G.q1,[],G.R,rfl,aZ u1,qb,.inl (by rw[wg u1];exact kx _ _ ci x7),by show 0+G.R.length<=sizeLine;lia,?_⟩;rw[qju a4.nR,yn];exact⟨kx.trans (yk (by simp)),qb,by rw[wg (aZ a7.ne)];exact wx,_,_,rfl⟩
    |1,I =>
     cases I;have rx:L dr=some (.dK G.R):=rx;have wx:L dw=some (.dK W):=wx;refine⟨t2,exI rfl ⟨SqT.of (bm.tup kx c8),rfl,_,_,rfl,_,_,rfl,rfl,?_⟩⟩;exists ⟨dw,W,rfl,wx,?_⟩;refine⟨_,rfl,dw,rfl,.inl ⟨_,.inl qb⟩,_,rfl,G.q2,[],G.W,rfl,aZ u4,qb,.inl (by rw[wg u4];exact kx _ _ cg y7),by show 0+G.W.length<=sizeLine;lia,?_⟩;rw[qju a4.nW,yn];exact⟨kx.trans (yk (by simp)),by rw[wg a7.ne];exact rx,qb,_,_,rfl⟩
    |i+2,I=>cases I
   .rintro σ L ⟨kx,rx,wx,z1,z2,rfl⟩;have rx:L dr=some (.dK G.R):=rx;have wx:L dw=some (.dK G.W):=wx;subst i7;refine⟨sz2,λq nq=>?_⟩;have s9:=Same.upd (H:=L) (o:=.tup [.str "",.non]) nq;have dg:BP L G.R G.W c:=(dt.same a0).kb bm kx;have db:L J=some (.lst (tpL ps)):=kx _ _ (by simpa using ⟨pr,pw⟩) (a0 _ _ f4);have b0:∀p∈ps,(p.q1≠dr/\p.q1≠dw)/\p.q2≠dr/\p.q2≠dw:=λp O=>bk.nq p (ay _ O);have cj:=(bf.kb (ch:=[]) Dl.nil (Kb.of a0) λp O=>⟨af,af⟩).kb bm kx λp O=>⟨by simpa using (b0 p O).1,by simpa using (b0 p O).2⟩;have dk:BkAt L ⟨dr,dw,J,G.R,G.W,ps⟩ c t:=⟨⟨rx,wx,a7.ne,dg⟩,db,cj,b0⟩;have kA:Kb [dr,dw,J] H L:=λx o nx e=>kx _ _ (λz=>nx (by simp only[ae,af,aQ]at z ⊢;rcases z with z|z;exact .inl z;exact .inr (.inl z))) (a0 _ _ (k4 _ _ (λz=>nx (by rw[am.mp z];simp)) (ap _ _ e)));refine k q .non _ ⟨dr,dw,J,G.R,G.W,ps⟩ c t "" .non (.inr ⟨⟨n,rfl⟩,rfl,.inr ⟨rfl,rfl⟩⟩) (dk.same s9) (kA.trans (Kb.of s9)) rfl rfl rfl (λx I=>.inl ?_) qb rfl (λ_ z=>nomatch z);unfold Bk.ad at I ⊢;simp only[ae,List.flatMap_cons,ba]at I ⊢;rcases I with I|I|I|I
    .exact .inl I
    .exact .inr (.inl I)
    .exact .inr (.inr (.inl I))
    .exact .inr (.inr (.inr (.inr I)))
 .have nb:∀n,d≠.back n:=λn e=>zb ⟨n,e⟩;have ab:=dd.same ap;obtain⟨kd,xs,h,hk,hc⟩:∃kd xs,H3 da=some (.tup (.int kd::xs))/\kd≠9/\((kd<5/\isR d)\/(¬ kd<5/\isW d)):=by
   cases d with
   |lay n hs=>obtain⟨p,h,_⟩:=ab;exact⟨_,_,h,⋯,.inl ⟨⋯,trivial⟩⟩
   |place n wh t p=>obtain⟨q,h,_⟩:=ab;exact⟨_,_,h,⋯,.inr ⟨⋯,trivial⟩⟩
   |back n=>exact absurd rfl (nb n)
   |bend n c x=>exact⟨_,_,ab,⋯,.inl ⟨⋯,trivial⟩⟩
   |widen n x=>exact⟨_,_,ab,⋯,.inl ⟨⋯,trivial⟩⟩
   |narrow n=>exact⟨_,_,ab,⋯,.inl ⟨⋯,trivial⟩⟩
   |clear n=>exact⟨_,_,ab,⋯,.inl ⟨⋯,trivial⟩⟩
   |leave n=>exact⟨_,_,ab,⋯,.inr ⟨⋯,trivial⟩⟩
   |go n m=>exact⟨_,_,ab,⋯,.inr ⟨⋯,trivial⟩⟩
   |tog n m=>exact⟨_,_,ab,⋯,.inr ⟨⋯,trivial⟩⟩
  subst i2;refine qj5 rfl h ?_ hk;subst i3;refine⟨λσ L=>∃v R' W',σ=[some (.ref J),some (.ref dr),some (.ref dw),some (.ref da),some (.ref S),none,none,none,none,some (.str (xq b d).1),some v]/\Kb [dr,dw] H3 L/\B2 L dr dw R' W' (xq b d).2.2/\AnsAt L v (xq b d).2.1/\(∀a,v=.ref a->H3 a=none),?_,?_⟩
  .rcases hc with⟨h5,ir⟩|⟨h5,iw⟩
   .exists (exX rfl rfl (SqT.of h) qj7 (xb rfl rfl (exI rfl (zn (λ_=>?_) (λz=>absurd h5 z)))));refine⟨_,rfl,_,rfl,_,rfl,dr,dw,da,R,W,b,d,NM,rfl,a7,bo,⋯,ab,ir,λq v H' R' W' kb b3 fq an fr=>?_⟩;exact⟨q,exI rfl ⟨SqT.of fq,rfl,_,_,rfl,_,_,rfl,rfl,v,R',W',rfl,kb,b3,an,fr⟩⟩
   .exists (exX rfl rfl (SqT.of h) qj7 (xb rfl rfl (exI rfl (zn (λz=>absurd z h5) (λ_=>?_)))));exists (exI rfl (exI rfl ⟨dr,dw,da,R,W,b,d,NM,rfl,a7,bo,lN,ab,iw,λq v H' R' W' kb b3 fq an fr=>?_⟩));exact⟨q,exI rfl ⟨SqT.of fq,rfl,_,_,rfl,_,_,rfl,rfl,v,R',W',rfl,kb,b3,an,fr⟩⟩
  .rintro σ H4 ⟨v,R',W',rfl,kb,b24,an,fr⟩;have bb:=a7.dl;have pn:J∉[dr,dw]:=by simpa using ⟨pr,pw⟩
   have a9:=kb _ _ pn ah;have t4:=bb.tup kb f3;have b5:Z∉[dr,dw]:=λz=>by
    simp only[ae,af,aQ]at z;rcases z with z|z
    .rw[z,b2.r]at n1;cases n1
    .rw[z,b2.w]at n1;cases n1
   have b4:U∉[dr,dw]:=λz=>by
    simp only[ae,af,aQ]at z;rcases z with z|z
    .rw[z,b2.r]at a8;cases a8
    .rw[z,b2.w]at a8;cases a8
   have c6:=kb _ _ b5 g1;have c0:=kb _ _ b4 g2;have bf:=bl.ps.kb bb kb λp O=>⟨by simpa using (bk.nq p O).1,by simpa using (bk.nq p O).2⟩;have kA:Kb [dr,dw,J] H H4:=(Kb.of ap).trans (kb3 kb);by_cases zw:(xq b d).1 = ""
   .refine⟨λσ L=>σ=[some (.ref J),some (.ref dr),some (.ref dw),some (.ref da),some (.ref S),none,none,none,none,some (.str (xq b d).1),some v]/\L=upd H4 J (.lst (tpL ps++[.ref S])),?_,?_⟩
    .exists ⟨rfl,_,rfl,zn (λ_=>?_) (λz=>absurd (by rw[zw]) z)⟩;refine⟨_,rfl,.inl ⟨rfl,_,SqL.of a9⟩,_,rfl,J,_,_,rfl,rfl,a9,by rw[qyc];lia,rfl,rfl⟩
    .rintro σ L ⟨rfl,rfl⟩;have k5:Kb [J] H4 (upd H4 J (.lst (tpL ps++[.ref S]))):=yk (by simp);have f5:upd H4 J (.lst (tpL ps++[.ref S])) J=some (.lst (tpL (⟨S,Z,U,R,W⟩::ps))):=by rw[qb,qzp]
     have br:Dl H4 [J]:=.cons (.inr ⟨_,Yb _,a9⟩) .nil;have cc:=an.kbd a9 (Yb _) k5 (λz=>by have:=fr _ z;rw[ah]at this;cases this);generalize upd H4 J (.lst (tpL ps++[.ref S]))=H5 at k5 f5 cc;exists (exI rfl ⟨sz2,λq nq=>?_⟩);have s6:=Same.upd (H:=H5) (o:=.tup [.str (xq b d).1,v]) nq;have bt:Z≠J:=λz=>by rw[z,fp]at n1;cases n1
     have bs:U≠J:=λz=>by rw[z,fp]at a8;cases a8
     have b1:BkAt H5 ⟨dr,dw,J,R',W',⟨S,Z,U,R,W⟩::ps⟩ (xq b d).2.2 (b::t):=by
      refine⟨⟨k5 _ _ (by simpa using aZ pr) b24.r,k5 _ _ (by simpa using aZ pw) b24.w,b24.ne,b24.bp.kb br k5⟩,f5,⟨⟨br.tup k5 t4,k5 _ _ (by simpa using bt) c6,k5 _ _ (by simpa using bs) c0,((b2.bp.same ap).kb bb kb).kb br k5,by show R.length<=100;lia,by show W.length<=100;lia⟩,bf.kb br k5 λp O=>?_⟩,λp O=>?_⟩
      .obtain⟨⟨_,o1⟩,⟨_,o2⟩⟩:=bf.occ p O;exact⟨(λz=>by rw[am.mp z,a9]at o1;cases o1),(λz=>by rw[am.mp z,a9]at o2;cases o2)⟩
      .rcases ae.mp O with rfl|O
       .exact⟨by simpa using b5,by simpa using b4⟩
       .exact bk.nq p O
     refine k q v _ _ _ _ (xq b d).1 (xq b d).2.1 (.inl ⟨nb,.inl ⟨zw,?_,rfl⟩⟩) (b1.same s6) ((kA.trans (k5.mono λx I=>by rw[am.mp I];simp)).trans (Kb.of s6)) rfl rfl rfl (λx I=>?_) qb (cc.same s6) (λa z=>x6 ap (fr a z))
     .show xq b d=_;rw[<-zw]
     .unfold Bk.ad at I ⊢;simp only[ae,List.flatMap_cons,ba,af,aQ]at I ⊢;rcases I with I|I|I|(I|I)|I
      .exact .inl (.inl I)
      .exact .inl (.inr (.inl I))
      .exact .inl (.inr (.inr (.inl I)))
      .exact .inr (by rw[I];exact n1)
      .exact .inr (by rw[I];exact a8)
      .exact .inl (.inr (.inr (.inr I)))
   .have e:=wut zw;have eb:(xq b d).2.2=b:=by rw[e]
    refine⟨λσ L=>σ=[some (.ref J),some (.ref dr),some (.ref dw),some (.ref da),some (.ref S),none,none,none,none,some (.str (xq b d).1),some v]/\L=H4,((exI rfl ⟨rfl,_,rfl,zn (λz=>absurd (by injection z) zw) (λ_=>⟨rfl,rfl⟩)⟩)),?_⟩;rintro σ L ⟨rfl,rfl⟩;rw[eb]at b24;exists (exI rfl ⟨sz2,λq nq=>?_⟩);have s6:=Same.upd (H:=L) (o:=.tup [.str (xq b d).1,v]) nq;have b1:BkAt L ⟨dr,dw,J,R',W',ps⟩ b t:=⟨b24,a9,bf,bk.nq⟩;refine k q v _ _ b t (xq b d).1 (xq b d).2.1 (.inl ⟨nb,.inr ⟨zw,?_,rfl,rfl⟩⟩) (b1.same s6) (kA.trans (Kb.of s6)) rfl rfl rfl (λx I=>.inl I) qb (an.same s6) (λa z=>x6 ap (fr a z));exact bu (λz=>((xq b d).1,(xq b d).2.1,z)) eb
def whN (n:Str)(pt:Int×Int):PyData:=.tuple [.str n,ptD pt]
theorem rd_whn {pt:Int×Int}(h:H q=some (.tup [.str n,.ref p]))(h2:H p=some (.tup [.int pt.1,.int pt.2])):RD K H (whN n pt) (.ref q):=by
 unfold whN;rw[RD];refine⟨q,exI rfl ⟨SqT.of h,?_⟩⟩;rw[RDs];refine⟨_,_,rfl,?_,?_⟩
 .rw[RD]
 .rw[RDs];exact⟨_,_,rfl,xxs (SqT.of h2),by rw[RDs]⟩
theorem xvp (n:Str)(pt:Int×Int):PyData.eqv (whN n pt) (whN n pt)=true:=by unfold whN;rw[PyData.eqv,PyData.eqvAll,PyData.eqvAll,PyData.eqvAll,xq6,aT rfl,PyData.eqv];simp
theorem xzq (h:PyData.strOk n=true)(pt:Int×Int):(whN n pt).canLay0=true:=by simp[whN,ptD,PyData.canLay0,PyData.canLayAll0,h]
theorem xkk {x:Str}(h:zj x=true):PyData.strOk x=true:=by
 unfold zj at h;have h2:=(bv _ _▸h:_/\_).2;unfold PyData.strOk;refine Array.all_eq_true.mpr λi hi=>?_;have hs:=bJ.mp h2 i (aW.mpr hi);have F:x.cps.getD i 0=x.cps[i]:=by simp[Array.getD,hi]
 rw[F]at hs;unfold Jc at hs;have:=xkq (x:=Str.ofString "abcdefghijklmnopqrstuvwxyz") (n:=200) (by decide +kernel) (by simpa using hs);exact aT ⋯
theorem VH.frame {CR:Aj}(v:VH C CR CW H o as){ch:List Aj}(kb:Kb ch H H')(dl:Dl H ch)(n:∀x∈o.dr::o.dw::o.dd::ym o.ds,x∉ch):VH C CR CW H' o as :=
 ⟨v.h.frame kb dl ⟨Ap.x (o:=o) v.h dl,n _ (by simp),n _ (by simp),n _ (by simp)⟩ λq hq hm=>absurd hq (n q (by simp[hm])),Hist.dl dl kb v.t⟩
def Sep (o:Ho)(k:Bk):Prop:=∀x∈o.dr::o.dw::o.dd::ym o.ds,x∉k.ad
theorem BP.rnames (h:BP H R W b)(n:Str):n∈R.map yg↔(b.rs n).isSome=true:=by
 rw[u9 h.nR h.fR n];cases e:b.rs n with
 |none=>rw[h.noR e];simp
 |some hs=>obtain⟨_,p,e1,_⟩:=h.row e;rw[e1];simp
def whL (l:List (Str×(Int×Int))):PyData:=.list (l.map λx=>whN x.1 x.2)
theorem wkp:∀(l:List (Str×(Int×Int))) (ys:List V),ys.length=l.length->(∀(j:Nat) x,l[j]?=some x->∃q r,ys[j]?=some (.ref q)/\H q=some (.tup [.str x.1,.ref r])/\H r=some (.tup [.int x.2.1,.int x.2.2]))->RDs K H (l.map λx=>whN x.1 x.2) ys
 |[],ys,e,_=>by rw[cA,RDs];exact cx.mp e
 |x::l,[],e,_=>by cases e
 |x::l,y::ys,e,h=>by rw[aH,RDs];obtain⟨q,r,a1,a2,a3⟩:=h 0 x rfl;cases a1;exact⟨_,_,rfl,rd_whn a2 a3,wkp l ys (by simpa using e) λj x' ex=>h (j+1) x' ex⟩
theorem wk6:∀l:List (Str×(Int×Int)),PyData.eqvAll (l.map λx=>whN x.1 x.2) (l.map λx=>whN x.1 x.2)=true
 |[]=>by rw[cA,PyData.eqvAll]
 |x::l=>by rw[aH,PyData.eqvAll,wk6 l,xvp];rfl
theorem wkh:∀ {l:List (Str×(Int×Int))},(∀x∈l,PyData.strOk x.1=true)->PyData.canLayAll0 (l.map λx=>whN x.1 x.2)=true
 |[],_=>by simp[PyData.canLayAll0]
 |x::l,h=>by have a:=xzq (h x (aw ..)) x.2;have b:=wkh λy hy=>h y (ay _ hy);rw[aH,PyData.canLayAll0,a,b];rfl
theorem wju:∀l:List (Str×(Int×Int)),PyData.depthAll (l.map λx=>whN x.1 x.2)<=3
 |[]=>by simp[PyData.depthAll]
 |x::l=>by
  have:=wju l;have d:(whN x.1 x.2).depth<=3:=by simp[whN,ptD,PyData.depth,PyData.depthAll]
  rw[aH,PyData.depthAll];lia
theorem wum {a:Aj}(h:SqL K H a xs):(∀H',SqL K H' a xs)\/∃u,H a=some u/\(∀kv,u≠.dK kv)/\∀v kv,u≠.frz v (.dK kv):=by
 rcases h with (e|⟨v,e⟩)|e
 .exact .inr ⟨_,e,(λ_ z=>by cases z),(λ_ _ z=>by cases z)⟩
 .exact .inr ⟨_,e,(λ_ z=>by cases z),(λ_ _ z=>by cases z)⟩
 .exact .inl λ_=>.inr e
def Dc (H:Hp)(c:Aj)(ch:List Aj):Prop:=∀b∈ch,b=c\/∃kv,Rd H b (.dK kv)
theorem Dc.nin {c:Aj}{ch:List Aj}(d:Dc H c ch){a:Aj}{u:HO}(e:H a=some u)(n1:∀kv,u≠.dK kv)(n2:∀v kv,u≠.frz v (.dK kv))(n:a≠c):a∉ch:=λz=>by
 rcases d a z with y|⟨kv,y|⟨v,y⟩⟩
 .exact n y
 .rw[e]at y;exact n1 kv (au y)
 .rw[e]at y;exact n2 v kv (au y)
theorem Dc.sql {c:Aj}{ch:List Aj}(d:Dc H c ch)(k:Kb ch H H'){a:Aj}{xs:List V}(h:SqL K H a xs)(n:(∀H',SqL K H' a xs)\/a≠c):SqL K H' a xs:=Kb.sql k h (by
 rcases n with n|n
 .exact .inl n
 .rcases wum h with z|⟨u,e,n1,n2⟩
  .exact .inl z
  .exact .inr (d.nin e n1 n2 n))
theorem Dc.ans {c:Aj}{ch:List Aj}(d:Dc H c ch)(dl:Dl H ch)(k:Kb ch H H'){v:V}{ans:Ans}(h:AnsAt H v ans)(n:∀a,v=.ref a->a≠c):AnsAt H' v ans:=by
 cases ans with
 |non=>exact h
 |pt p=>obtain⟨a,e,f,g⟩:=h;exact⟨a,e,dl.tup k f,g⟩
 |lst l =>
  obtain⟨a,ys,e,f,G,F,g⟩:=h;refine⟨a,ys,e,k _ _ (d.nin f (λ_ z=>by cases z) (λ_ _ z=>by cases z) (n a e)) f,G,F,λj x ex=>?_⟩;obtain⟨q,r,O,L,J,I⟩:=g j x ex;exact⟨q,r,O,dl.tup k L,dl.tup k J,I⟩
theorem NmsAt.kb (h:NmsAt H q ss){ch:List Aj}(dl:Dl H ch)(k:Kb ch H H'):NmsAt H' q ss:=by
 obtain⟨f,l,r⟩:=h;refine⟨k _ _ (dl.other f (λ_ z=>by cases z) (λ_ _ z=>by cases z) λD F z=>?_) f,l,r⟩;have z:ss.map V.str=D:=by injection z
 have m:V.str (ss[0]'⋯)∈ss.map V.str:=ar.mpr ⟨_,bH _,rfl⟩;rw[z]at m;obtain⟨x,e⟩:=F _ m;cases e
theorem VH.occ {CR:Aj}(v:VH C CR CW H o as):∀x∈o.dr::o.dw::o.dd::ym o.ds,∃u,H x=some u:=λx hx=>by
 rcases ae.mp hx with rfl|hx
 .exact⟨_,v.h.hs.r⟩
 rcases ae.mp hx with rfl|hx
 .exact⟨_,v.h.hs.w⟩
 rcases ae.mp hx with rfl|hx
 .exact⟨_,v.h.hs.d⟩
 obtain⟨d,hd,hx⟩:=cE.mp hx;obtain⟨⟨_,r1,r2⟩,_⟩:=v.h.da d hd;simp only[ae,af,aQ]at hx;rcases hx with rfl|rfl
 .rcases r1 with r1|⟨u,r1⟩ <;> exact⟨_,r1⟩
 .rcases r2 with r2|⟨u,r2⟩ <;> exact⟨_,r2⟩
structure JS (C CR CW:Aj)(H:Hp)(o:Ho)(k:Bk)(a:AH)(as:List AH)(NM:List Str):Prop where
 v:VH C CR CW H o (a::as)
 bk:BkAt H k a.bk (as.map AH.bk)
 sp:Sep o k
 bo:∀x∈a::as,BOk NM x.bk
 ln:o.ds.length=as.length
theorem JS.same {CR:Aj}{k:Bk}(j:JS C CR CW H o k a as NM)(s:Same H H'):JS C CR CW H' o k a as NM:=⟨j.v.same s,j.bk.same s,j.sp,j.bo,j.ln⟩
theorem JS.done {CR:Aj}{k k':Bk}(j:JS C CR CW H o k a as NM)(kb:Kb [k.dr,k.dw,k.dp] H H1)(ad:∀x∈k'.ad,x∈k.ad\/H x=none):VH C CR CW H1 o (a::as)/\Sep o k':=by
 refine⟨j.v.frame kb j.bk.dl λx F z=>j.sp x F ?_,λx F G=>?_⟩
 .unfold Bk.ad;simp only[ae,af,aQ]at z ⊢;rcases z with z|z|z
  .exact .inl z
  .exact .inr (.inl z)
  .exact .inr (.inr (.inl z))
 .rcases ad x G with y|y
  .exact j.sp x F y
  .obtain⟨u,e⟩:=j.v.occ x F;rw[y]at e;cases e
theorem dc_ho (h:HoAt C H o):Dc H o.dd [o.dr,o.dw,o.dd]:=λb hb=>by
 simp only[ae,af,aQ]at hb;rcases hb with rfl|rfl|rfl
 .exact .inr ⟨_,.inl h.hs.r⟩
 .exact .inr ⟨_,.inl h.hs.w⟩
 .exact .inl rfl
theorem dc_bk {k:Bk}{t:List BA}(h:BkAt H k b t):Dc H k.dp [k.dr,k.dw,k.dp]:=λb hb=>by
 simp only[ae,af,aQ]at hb;rcases hb with rfl|rfl|rfl
 .exact .inr ⟨_,.inl h.b2.r⟩
 .exact .inr ⟨_,.inl h.b2.w⟩
 .exact .inl rfl
theorem xz6 {CR:Aj}{H2:Hp}{k:Bk}{as':List AH}{t':List BA}{wd wd2:Str}{ans ans2:Ans}(v:VH C CR CW H1 o (a::as))(bk:BkAt H1 k b' t')(sp:Sep o k)(bo:∀x∈a::as,BOk NM x.bk)(ln:o.ds.length=as.length)(dr:DoneR a.bk (as.map AH.bk) d wd ans b' t')(cg:Chg C CR CW H1 H2 o o' (a::as) as' d wd2 ans2)(v2:VH C CR CW H2 o' as') :
  wd2=wd/\ans2=ans/\(∃a' s',as'=a'::s'/\JS C CR CW H2 o' k a' s' (d.nm::NM)/\s'.length<=as.length+1)/\o'.x=o.x/\o'.dd=o.dd/\∃ch,Kb ch H1 H2/\Dl H1 ch/\Dc H1 o.dd ch:=by
 have ab:∀x∈a::as,BOk (d.nm::NM) x.bk:=λx F=>(bo x F).mono λn hn=>ay _ hn;have hn:d.nm∈d.nm::NM:=aw ..;rcases dr with⟨U,dr⟩|⟨⟨n,I⟩,rfl,dr⟩
 .rcases cg with⟨_,a0,t0,a1,O,es,rfl,rfl,S,Z⟩|⟨_,a0,t0,O,es,nw,rfl,rfl,rfl,s⟩|⟨⟨n,I⟩,_⟩
  .cases O;rcases dr with⟨rfl,G,rfl⟩|⟨nw,G,_⟩
   .rw[es]at G;cases G;obtain⟨e,L,n1,n2⟩:=S.ds;have dl:=v.h.dl;have nin:∀x∈k.ad,x∉[o.dr,o.dw,o.dd]:=λx F z=>by
     simp only[ae,af,aQ]at z;rcases z with rfl|rfl|rfl
     .exact sp _ (by simp) F
     .exact sp _ (by simp) F
     .exact sp _ (by simp) F
    refine⟨rfl,rfl,⟨a1,a::as,rfl,⟨v2,bk.kb dl Z nin,λx F J=>?_,λx F=>?_,by rw[L,aC,aC,ln]⟩,by simp⟩,S.x,S.dd,_,Z,dl,dc_ho v.h⟩
    .rw[S.dr,S.dw,S.dd,L]at F;have F:x∈o.dr::o.dw::o.dd::e.q1::e.q2::ym o.ds:=F;obtain⟨u,eu⟩:=bk.occ x J;simp only[ae]at F;rcases F with F|F|F|F|F|F
     .exact sp x (by simp[F]) J
     .exact sp x (by simp[F]) J
     .exact sp x (by simp[F]) J
     .rw[F,n1]at eu;cases eu
     .rw[F,n2]at eu;cases eu
     .exact sp x (by simp[F]) J
    .rcases ae.mp F with rfl|F
     .exact xz9 (ab a (aw ..)) hn es
     .exact ab x F
   .rw[es]at G;have:(("" : Str))=wd:=bu Prod.fst G;exact absurd this.symm nw
  .cases O;rcases dr with⟨rfl,G,_⟩|⟨_,G,rfl,rfl⟩
   .rw[es]at G;exact absurd (bu Prod.fst G) nw
   .rw[es]at G;have e1:wd2=wd:=bu Prod.fst G;have e2:Ans.non=ans:=bu (λz=>z.2.1) G;refine⟨e1,e2,⟨a,as,rfl,⟨v2,bk.same s,sp,ab,ln⟩,Nat.le_succ _⟩,rfl,rfl,[],Kb.of s,Dl.nil,λb I=>nomatch I⟩
  .exact absurd I (U n)
 .rcases cg with⟨U,_⟩|⟨U,_⟩|⟨_,rfl,cg⟩
  .exact absurd I (U n)
  .exact absurd I (U n)
  .rcases cg with⟨a0,O,rfl,rfl,rfl,s⟩|⟨a0,a1,t0,e,O,rfl,rfl,pv,L,Z,dl,an⟩
   .cases O;rcases dr with⟨_,rfl,rfl,rfl⟩|⟨_,z⟩
    .exact⟨rfl,rfl,⟨a,[],rfl,⟨v2,bk.same s,sp,ab,ln⟩,aA _⟩,rfl,rfl,[],Kb.of s,Dl.nil,λb I=>nomatch I⟩
    .cases z
   .cases O;rcases dr with⟨z,_⟩|⟨rfl,z⟩
    .cases z
    .have z:a1.bk::t0.map AH.bk=b'::t':=z;cases z;have ah:∀x∈[o.dr,o.dw,o.dd,e.q1,e.q2],x∈o.dr::o.dw::o.dd::ym o.ds:=λx F=>by rw[L];show x∈o.dr::o.dw::o.dd::e.q1::e.q2::ym o'.ds;simp only[ae,af,aQ]at F ⊢;rcases F with h|h|h|h|h <;> simp[h]
     refine⟨rfl,rfl,⟨a1,t0,rfl,⟨v2,bk.kb dl Z λx F z=>sp x (ah x z) F,λx F J=>sp x ?_ J,λx F=>ab x (ay _ F),?_⟩,by simp;lia⟩,pv.x,pv.dd,_,Z,dl,λb I=>?_⟩
     .rw[pv.dr,pv.dw,pv.dd]at F;rw[L];show x∈o.dr::o.dw::o.dd::e.q1::e.q2::ym o'.ds;simp only[ae]at F ⊢;rcases F with h|h|h|h <;> simp[h]
     .have:=bu List.length L;rw[aC,ln,aC]at this;lia
     .obtain⟨⟨_,r1,r2⟩,_⟩:=v.h.da e (by rw[L];exact aw ..);simp only[ae,af,aQ]at I;rcases I with rfl|rfl|rfl|rfl|rfl
      .exact .inr ⟨_,.inl v.h.hs.r⟩
      .exact .inr ⟨_,.inl v.h.hs.w⟩
      .exact .inl rfl
      .exact .inr ⟨_,r1⟩
      .exact .inr ⟨_,r2⟩
def vk (i:Int):Str:=Str.ofString (toString i)
def qwj (n:Str)(hs:List Int):Str:=Txt.join " " (("road" : Str)::n::hs.map vk)
def J9 (n wh:Str)(pt:Int×Int):Str:=Str.empty ++ "walker " ++ n ++ " " ++ wh ++ " " ++ vk pt.1 ++ " " ++ vk pt.2
theorem qu7 {i:Int}(h0:0<=i)(h:i<=100000):i.natAbs.log2<1920:=by
 by_cases z:i.natAbs=0
 .rw[z];decide
 .refine(Nat.log2_lt z).mpr ?_;have:(2:Nat) ^ 17<=2 ^ 1920:=Nat.pow_le_pow_right ⋯ ⋯;have e:(2:Nat) ^ 17=131072:=by decide
  lia
theorem Wr {i:Int}(h0:0<=i)(h:i<=100000):(vk i).length<=10:=PySem.W.KT.len_num h0 ⋯
theorem Qv (a b:Str):(a++b).length=a.length+b.length:=by show(a.cps++b.cps).size=_;rw[Array.size_append];rfl
theorem y6 (lo:xm hs):hs.length<=25/\∀h∈hs,0<=h/\h<=100000:=by obtain⟨_,h2,h3⟩:=lo;exact⟨h2,λh hh=>⟨(h3 h hh).1,by have:=(h3 h hh).2;lia⟩⟩
theorem ww3 (h:∀h∈hs,0<=h/\h<=100000):((hs.map vk).map (·.length)).sum<=10*hs.length:=by
 induction hs with
 |nil=>exact aA _
 |cons a l ih =>
  have:=ih λx F=>h x (ay _ F);have b:=Wr (h a (aw ..)).1 (h a (aw ..)).2;simp only[aH,fU,aC];lia
theorem qx5:("road" : Str).length=4:=by decide +kernel
theorem wqm (lo:xm hs)(ln:n.length<=100):JoinOk " " (("road" : Str)::n::hs.map vk)=true:=by obtain⟨h1,h2⟩:=y6 lo;have:=ww3 h2;have e:=qx5;refine eS ?_ (by decide +kernel);simp only[aH,fU,aC,aa]at this ⊢;lia
theorem qxk (lo:xm hs)(ln:n.length<=100):(qwj n hs).length<=1000:=by obtain⟨h1,h2⟩:=y6 lo;have:=ww3 h2;have e:=qx5;unfold qwj;rw[show Txt.join " " (("road" : Str)::n::hs.map vk)=Str.join " " (("road" : Str)::n::hs.map vk) from dq _ _];refine bB (StrLaws.join_length_le _ _) ?_;rw[show(" " : Str).length=1 by decide +kernel];simp only[aH,fU,aC,aa]at this ⊢;lia
def qqg (C CR CW:Aj):Sp:=λvs H Q _=>∃(o:Ho) (a:AH) (as:List AH) (n:Str) (hs:List Int),vs=[.ref o.x,.str n]/\VH C CR CW H o (a::as)/\a.rs n=some hs/\n.length<=100/\∀H',Same H H'->Q (.str (qwj n hs)) H'
include T in
theorem wqh (F:Fun K "road_row" "road_row" zck f fd)(zjk:↑MCal qq "corners_of" 2 (Ws qq qg q8)) :
  ↑FK 3 f fd ["house","name"] (qqg qq qg qz):=by
 have sc:=wxx;refine F.okX sc (λZ H Q E h=>by obtain⟨_,_,_,_,_,rfl,_⟩:=h;rfl) λ_ _ _ _ H Z Q E hr h=>?_;obtain⟨o,a,as,n,hs,rfl,v,L,ln,k⟩:=h;obtain⟨r,er,ra⟩:=v.rep.road L;have lo:=v.rep.ok.lo n hs L;obtain⟨dx,hx⟩:=v.h.hs.ob;refine⟨_,(qt (w6 (Zt dh PySem.F.slot_str_join PySem.F.type_str_join wk9 xn (vg (xz wzb (yj (xu xn (q9 (pv 1) qk))) (Wq (M:=[]) rfl rfl (by walk_at "cap") (by walk_at "has") (by walk_at "cix") rfl (by decide +kernel) rfl (show List.Nodup (["height"]:List Str) by decide +kernel) (jp (xg (pv 0) T.clH zjk (hr.mono ⋯) qf (q9 (pv 1) qk))) (λ_ _ _ _ _=>(vb qyh rfl T.str_ PyProof.Rows.boot_str (q9 (pv 0) qk))))) qk)))),?_⟩;dsimp only [yf];refine⟨rfl,exI rfl ⟨sz2,λp np=>?_⟩⟩;have O:Same H (upd H p (.lst [.str "road",.str n])):=Same.upd np;have G:=v.same O;obtain⟨r',U,ab⟩:=G.rep.road L;obtain⟨ap,ah⟩:=G.h.hs.ob;refine⟨_,rfl,o.x,ap,_,rfl,ah,xt,_,rfl,o.x,o.dr,o.dw,o.dd,o.R,o.W,_,n,rfl,G.h.hs,λu S=>?_,λz=>by rw[U]at z;cases z⟩;rw[U]at S;cases S;refine⟨r',hs,rfl,ab,λq I=>?_⟩;refine⟨q,rfl,⟨_,SqL.of qb⟩,qk7 (λx=>match x with|.int i=>.str (vk i)|_=>.non) (SqL.of qb) (by rw[aa];have:=(y6 lo).1;lia) (λx H' R an s2 hR=>?_) λl J=>?_⟩
 .obtain⟨i,hi,rfl⟩:=ar.mp an;have:=(y6 lo).2 i hi;exact exI rfl (exI rfl ⟨qu7 this.1 this.2,hR⟩)
 .have e:(hs.map V.int).map (λx=>match x with|.int i=>V.str (vk i)|_=>.non)=(hs.map vk).map V.str:=by rw[bq,bq];rfl
  rw[e];have np1:q≠p:=λz=>by rw[z,qb]at I;cases I
  have ad:l≠p:=λz=>by rw[z,wg np1.symm,qb]at J;cases J
  refine⟨p,l,_,_,rfl,rfl,by rw[wg ad.symm,wg np1.symm];exact qb,qb,?_,λj nj=>?_⟩
  .have:=(y6 lo).1;have a0:(1000000:Nat)<sizeLine:=by decide
   simp only[aC,eU,aa];lia
  .exact⟨_,_,("road" : Str)::n::hs.map vk,rfl,rfl,SqL.of qb,wqm lo ln,k _ (((O.trans (Same.upd I)).trans (Same.upd J)).trans (Same.upd nj))⟩
theorem qvw {pt:Int×Int}(ln:n.length<=100)(lw:wh.length<=100)(h1:0<=pt.1/\pt.1<=100000)(h2:0<=pt.2/\pt.2<=100000):(J9 n wh pt).length<=1000:=by
 have J:=Wr h1.1 h1.2;have I:=Wr h2.1 h2.2;have F:(Str.empty ++ "walker " : Str).length=7:=by decide +kernel
 have G:(" " : Str).length=1:=by decide +kernel
 unfold J9;simp only[Qv]at F ⊢;lia
def Zx (C CR CW:Aj):Sp:=λvs H Q _=>∃(o:Ho) (a:AH) (as:List AH) (n:Str) (w:Wk),vs=[.ref o.x,.str n]/\VH C CR CW H o (a::as)/\a.ws n=some w/\n.length<=100/\w.wh.length<=100/\∀H',Same H H'->Q (.str (J9 n w.wh w.pt)) H'
include T in
theorem qku (F:Fun K "walker_row" "walker_row" zcl f fd)(zjl:↑MCal qq "where" 2 (qud qq qz qj)) :
  ↑FK 3 f fd ["house","name"] (Zx qq qg qz):=by
 have sc:=qkj;refine F.okX sc ⋯ λ_ _ _ _ H vs Q E hr h=>?_;obtain⟨o,a,as,n,G,rfl,v,en,ln,lw,k⟩:=h;refine⟨_,(qy (k8 (xg (pv 0) T.clH zjl (hr.mono ⋯) qf (q9 (pv 1) qk)) (vt rfl (xf (xy (i:=2)) (xf (vt rfl (xf (xy (i:=3)) (xf (xy (i:=4)) vq))) vq))))
   (qt (w6 (xzd (qus (qyz (pv 1) (qus (qyz (pv 2) (qus (qyz (pv 3) (qus (qyz (pv 4) pf_nil)))))))))))),?_⟩
 dsimp only [yf];obtain⟨y,p,tt,U,L⟩:=v.rep.wk en;obtain⟨dx,hx⟩:=v.h.hs.ob;obtain⟨_,hs,_,hp⟩:=v.rep.ok.wo n G en;have rg:=hp.rng;have J:0<=G.pt.1/\G.pt.1<=100000:=by lia
 have I:0<=G.pt.2/\G.pt.2<=100000:=by lia
 have ab:(1000000:Nat)<sizeLine:=by decide
 have a1:=Wr J.1 J.2;have a2:=Wr I.1 I.2;have e1:(Str.empty ++ "walker " : Str).length=7:=by decide +kernel
 have e2:(" " : Str).length=1:=by decide +kernel
 unfold vk at a1 a2;rw[Qv]at e1;exists ⟨o.x,dx,exI rfl ⟨hx,xt,exI rfl ⟨o.x,o.dr,o.dw,o.dd,o.R,o.W,_,n,rfl,v.h.hs,(λz=>by rw[U]at z;cases z),λu Z=>?_⟩⟩⟩;rw[U]at Z;cases Z;refine⟨y,G.wh,p,G.pt,tt,G.tv,rfl,L,λq nq=>?_⟩;have O:Same H (upd H q (.tup [.str G.wh,.ref p])):=Same.upd nq;have fp:=(WkAt.same L O).pt;have S:=k _ O;unfold J9 vk at S;refine⟨q,exI rfl ⟨SqT.of qb,rfl,_,_,rfl,_,_,rfl,p,exI rfl ⟨SqT.of fp,rfl,_,_,rfl,_,_,rfl,rfl,rfl,?_⟩⟩⟩;have z:∀m:Nat,m<=1000->m<=sizeLine:=λm h=>by lia
 have n1:=qu7 J.1 J.2;have n2:=qu7 I.1 I.2;refine⟨z _ ?_,_,rfl,.inl ⟨n,rfl,z _ ⋯,z _ ?_,z _ ?_,_,rfl,.inl ⟨G.wh,rfl,z _ ⋯,z _ ?_,z _ ?_,_,rfl,.inr ⟨G.pt.1,rfl,n1,z _ ?_,z _ ?_,_,rfl,.inr ⟨G.pt.2,rfl,n2,z _ ?_,z _ ?_,S⟩⟩⟩⟩⟩ <;> simp only[Qv] <;> lia
def SrtN (p:Str->Bool)(ms:List Str):Prop:=ms.Nodup/\(∀x,x∈ms↔p x=true)/\ms.Pairwise (λx y=>¬ y.cps.toList<x.cps.toList)
theorem SrtN.uniq {p:Str->Bool}{m:List Str}(a:SrtN p l)(b:SrtN p m):l=m:=qvf a.1 b.1 (λx=>(a.2.1 x).trans (b.2.1 x).symm) a.2.2 b.2.2
def Q0 (b:BA)(n:Str):Str:=qwj n ((b.rs n).getD [])
def Qf (b:BA)(n:Str):Str:=J9 n ((b.ws n).getD ("",0,0)).1 ((b.ws n).getD ("",0,0)).2
def Jm (b:BA)(ms1 ms2:List Str):Str:=Txt.join ("\n" : Str) (ms1.map (Q0 b)++ms2.map (Qf b))
theorem qzs {f:Str->Str}{N:Nat}:∀ {ms:List Str},(∀m∈ms,(f m).length<=N)->((ms.map f).map (·.length)).sum<=N*ms.length
 |[],_=>aA _
 |m::ms,h=>by have a:=h m (aw ..);have b:=qzs λx hx=>h x (ay m hx);simp only[aH,fU,aC];rw[Nat.mul_succ];lia
variable {ms1 ms2:List Str}
theorem wq0 {f g:Str->Str}(h1:∀m∈ms1,(f m).length<=1000)(h2:∀m∈ms2,(g m).length<=1000)(l1:ms1.length<=100)(l2:ms2.length<=100):JoinOk ("\n" : Str) (ms1.map f++ms2.map g)=true:=by refine eS ?_ (by decide +kernel);have a:=qzs h1;have b:=qzs h2;rw[aV,List.sum_append,aE,aa,aa];lia
def quw (C CR CW:Aj):Sp:=λvs H Q _=>∃(o:Ho) (a:AH) (as:List AH) (NM:List Str),vs=[.ref o.x]/\VH C CR CW H o (a::as)/\Nam NM a/\NM.length<60/\(∀n∈NM,n.length<=100)/\∀H' ms1 ms2,Same H H'->SrtN (λn=>(a.bk.rs n).isSome) ms1->SrtN (λn=>(a.bk.ws n).isSome) ms2->Q (.str (Jm a.bk ms1 ms2)) H'
include T in
theorem qv6 (F:Fun K "house_text" "house_text" zcm f fd)(zjm:↑MCal qq "names" 1 (qu9 qq))(zjn:↑Cal "road_row" 3 (qqg qq qg qz))(zjo:↑Cal "walker_row" 3 (Zx qq qg qz)) :
  ↑FK 4 f fd ["house"] (quw qq qg qz):=by
 have sc:=qv0;refine F.okX sc ⋯ λ_ _ _ _ H vs Q E Z h=>?_;obtain⟨o,a,as,NM,rfl,v,nm,lN,S,k⟩:=h;obtain⟨dx,hx⟩:=v.h.hs.ob;obtain⟨eR,nR⟩:=yr v.h.nR v.h.fR;obtain⟨eW,nW⟩:=yr v.h.nW v.h.fW;have ap:=v.lens nm;have a0:(1000000:Nat)<sizeLine:=by decide
 refine⟨_,(qy (k8 (jz (pv 0) T.clH zjm (Z.mono ⋯) qf) (vt rfl (xf (xy (i:=1)) (xf (xy (i:=2)) vq))))
   (qy (xx (i:=3) (xz wzb (Wq (M:=[0]) rfl rfl (by walk_at "cap") (by walk_at "has") (by walk_at "cix") rfl (by decide +kernel) rfl (show List.Nodup (["name","house"]:List Str) by decide +kernel) (jp (pv 1)) (λ_ _ _ _ _=>(wc zjn (Z.mono ⋯) rfl J1 (q9 (pv 1) (q9 (pv 0) qk))))) (Wq (M:=[0]) rfl rfl (by walk_at "cap") (by walk_at "has") (by walk_at "cix") rfl (by decide +kernel) rfl (show List.Nodup (["name","house"]:List Str) by decide +kernel) (jp (pv 2)) (λ_ _ _ _ _=>(wc zjo (Z.mono ⋯) rfl J1 (q9 (pv 1) (q9 (pv 0) qk)))))))
   (qt (w6 (Zt dh PySem.F.slot_str_join PySem.F.type_str_join wk9 xn (q9 (pv 3) qk)))))),?_⟩
 dsimp only [yf];refine⟨_,rfl,o.x,dx,_,rfl,hx,xt,o.x,o.dr,o.dw,o.dd,o.R,o.W,_,_,_,rfl,v.h.hs,eR,⋯,eW,⋯,λq l1 l2 ms1 ms2 H1 L O w1 p2 w2 f1 f2 fq=>?_⟩;have S1:SrtN (λn=>(a.bk.rs n).isSome) ms1:=by
  refine⟨O.nodup_iff.mpr nR,λn=>?_,w1⟩;rw[O.mem_iff,u9 v.h.nR v.h.fR];have:=v.rep.r n;show _↔(a.rs n).isSome=true;cases e:a.rs n with
  |none=>rw[e]at this;rw[show wp o.R (.inr n)=none from this];exact⟨(λz=>nomatch z),(λz=>nomatch z)⟩
  |some hs=>rw[e]at this;obtain⟨r,e1,_⟩:=this;rw[e1];exact⟨λ_=>rfl,λ_=>rfl⟩
 have S2:SrtN (λn=>(a.bk.ws n).isSome) ms2:=by
  refine⟨p2.nodup_iff.mpr nW,λn=>?_,w2⟩;rw[p2.mem_iff,u9 v.h.nW v.h.fW];have:=v.rep.w n;show _↔((a.ws n).map _).isSome=true;cases e:a.ws n with
  |none=>rw[e]at this;rw[show wp o.W (.inr n)=none from this];exact⟨(λz=>nomatch z),(λz=>nomatch z)⟩
  |some hs=>rw[e]at this;obtain⟨r,_,_,e1,_⟩:=this;rw[e1];exact⟨λ_=>rfl,λ_=>rfl⟩
 have g1:∀n∈ms1,n.length<=100/\∃hs,a.rs n=some hs:=λn G=>by have h:(a.rs n).isSome=true:=(S1.2.1 n).mp G;exact⟨S n (nm.r n h),az.mp h⟩
 have g2:∀n∈ms2,n.length<=100/\∃w,a.ws n=some w/\w.wh.length<=100:=λn G=>by have h:((a.ws n).map λw=>(w.wh,w.pt)).isSome=true:=(S2.2.1 n).mp G;rw[cv]at h;obtain⟨w,e⟩:=az.mp h;obtain⟨_,hs,er,_⟩:=v.rep.ok.wo n w e;exact⟨S n (nm.w n h),w,e,S _ (nm.r _ (by rw[er];rfl))⟩
 have r1:∀n∈ms1,(Q0 a.bk n).length<=1000:=λn G=>by obtain⟨I,hs,e⟩:=g1 n G;unfold Q0;rw[show a.bk.rs n=some hs from e];exact qxk (v.rep.ok.lo n hs e) I
 have e2:∀n w,a.ws n=some w->a.bk.ws n=some (w.wh,w.pt):=λn w e=>by show(a.ws n).map _=_;rw[e];rfl
 have r2:∀n∈ms2,(Qf a.bk n).length<=1000:=λn G=>by obtain⟨I,w,e,U⟩:=g2 n G;obtain⟨_,hs,_,hp⟩:=v.rep.ok.wo n w e;have rg:=hp.rng;unfold Qf;rw[e2 n w e];exact qvw I U ⟨by show 0<=w.pt.1;lia,by show w.pt.1<=_;lia⟩ ⟨by show 0<=w.pt.2;lia,by show w.pt.2<=_;lia⟩
 have an:ms1.length<=60:=by rw[O.length_eq,aa];lia
 have ah:ms2.length<=60:=by rw[p2.length_eq,aa];lia
 refine⟨q,exI rfl ⟨SqT.of fq,rfl,_,_,rfl,_,_,rfl,rfl,?_⟩⟩;exists ⟨l1,rfl,⟨_,SqL.of f1⟩,Z7 (λx=>match x with|.str n=>.str (Q0 a.bk n)|_=>.non) (λx b=>by split <;> exactλz=>nomatch z) (SqL.of f1) (by rw[aa];lia) (λx H2 R ad s2 hR=>?_) λc1 H2 n1 s2 f3=>?_⟩
 .obtain⟨n,G,rfl⟩:=ar.mp ad;obtain⟨I,hs,e⟩:=g1 n G;exists (exI rfl ⟨o,a,as,n,hs,rfl,v.same (L.trans s2),e,I,λH3 J=>?_⟩);have:=hR H3 J;dsimp only at this;unfold Q0 at this;rw[show a.bk.rs n=some hs from e]at this;exact this
 exists ⟨l2,rfl,⟨_,SqL.of (s2 _ _ f2)⟩,Z7 (λx=>match x with|.str n=>.str (Qf a.bk n)|_=>.non) (λx b=>by split <;> exactλz=>nomatch z) (SqL.of (s2 _ _ f2)) (by rw[aa];lia) (λx H3 R ab J hR=>?_) λc2 H3 n2 J f4=>?_⟩
 .obtain⟨n,G,rfl⟩:=ar.mp ab;obtain⟨I,w,e,U⟩:=g2 n G;exists (exI rfl ⟨o,a,as,n,w,rfl,v.same ((L.trans s2).trans J),e,I,U,λH4 s4=>?_⟩);have:=hR H4 s4;dsimp only at this;unfold Qf at this;rw[e2 n w e]at this;exact this
 have m1:(ms1.map V.str).map (λx=>match x with|.str n=>V.str (Q0 a.bk n)|_=>.non)=(ms1.map (Q0 a.bk)).map V.str:=by rw[bq,bq];rfl
 have m2:(ms2.map V.str).map (λx=>match x with|.str n=>V.str (Qf a.bk n)|_=>.non)=(ms2.map (Qf a.bk)).map V.str:=by rw[bq,bq];rfl
 rw[m1]at f3;rw[m2]at f4;refine⟨c1,c2,_,_,rfl,rfl,J _ _ f3,f4,by simp only[aa];lia,λp np=>?_⟩;refine⟨rfl,exI rfl ⟨_,_,ms1.map (Q0 a.bk)++ms2.map (Qf a.bk),rfl,rfl,SqL.of (by rw[aV];exact qb),wq0 r1 r2 ⋯ ⋯,?_⟩⟩;exact k _ ms1 ms2 (((L.trans s2).trans J).trans (Same.upd np)) S1 S2
def figB (c:Nat):Bool:=!(Builtin.Str.occurrences (Str.ofString "0123456789") ⟨#[c]⟩ 0 (Str.ofString "0123456789").length 1).isEmpty
theorem xv2:∀i:Nat,i<1000->1<=(vk (i:Int)).length/\(vk (i:Int)).length<=3/\((List.range (vk (i:Int)).cps.size).all λj=>figB ((vk (i:Int)).cps.getD j 0))=true:=by decide +kernel
def qyv:Sp:=λvs H Q _=>∃i:Int,vs=[.str (vk i)]/\0<=i/\i<1000/\∀H',Same H H'->Q (.int i) H'
include T in
theorem wqz (F:Fun K "number_of" "number_of" zcn f fd):↑FK 1 f fd ["word"] qyv:=by
 have S:=quc;refine F.okX S (λO H Q E h=>by obtain⟨_,rfl,_⟩:=h;rfl) λ_ _ _ _ H O Q E hr h=>?_;obtain⟨i,rfl,I,i1,k⟩:=h;obtain⟨t1,L⟩:=T.zav;obtain⟨t2,J⟩:=T.zaw;obtain⟨Z,U,G⟩:=xv2 i.toNat ⋯;rw[cV I]at Z U G;have ab:(1000000:Nat)<sizeLine:=by decide
 refine⟨_,(qy (x4 (PW.pt (Qk (wn j8 (xh jr rfl T.len_ aF (q9 (pv 0) qk)) qc (wt _)) (Qk (wn y4 (xh jr rfl T.len_ aF (q9 (pv 0) qk)) (ug (v:=V.int 3) rfl L ⟨_,rfl⟩) (wt _)) (y8 (qqb (Q9 (xh (Zp rfl) rfl T.all_ wq5 (x8 (Wq (M:=[]) rfl rfl (by walk_at "cap") (by walk_at "has") (by walk_at "cix") rfl (by decide +kernel) rfl (show List.Nodup (["sign"]:List Str) by decide +kernel) (wzf (pv 0)) (λ_ _ _ _ _=>(yw qjy (pv 0) (ug (v:=V.str "0123456789") rfl J ⟨_,rfl⟩) rfl))) qk)))))))) (qt (vz rfl T.zap zy rfl T.zdq (xu xn qk))) w9)
   (qt (w6 (vb qky rfl T.int_ PyProof.Rows.boot_int (q9 (pv 0) qk))))),?_⟩
 refine⟨_,rfl,_,rfl,⋯,_,_,rfl,rfl,_,rfl,zn (λe=>absurd e ⋯) λ_=>?_⟩;refine⟨_,rfl,_,rfl,⋯,_,_,rfl,rfl,_,rfl,zn (λe=>absurd e ⋯) λ_=>?_⟩;have e0:(vk i).cps.size=(vk i).length:=rfl;exists (exI rfl (wxw (λj=>.bl (figB ((vk i).cps.getD j 0))) ⋯ (λj H' R hj hs hR=>(exI rfl (xb rfl rfl hR))) λp np=>?_));refine⟨p,(List.range (vk i).cps.size).map λj=>figB ((vk i).cps.getD j 0),rfl,by rw[bq];exact SqL.new,?_⟩;rw[show((List.range (vk i).cps.size).map λj=>figB ((vk i).cps.getD j 0)).all id=true by rw[List.all_map];exact G];exists (yz ?_);exact⟨_,rfl,_,i,rfl,eI I ⋯,⋯,k _ (Same.upd np)⟩
theorem qjj:(" " : Str)=⟨#[32]⟩:=by decide +kernel
theorem xxr:("\n" : Str)=⟨#[10]⟩:=by decide +kernel
theorem qjz (n wh:Str)(pt:Int×Int):J9 n wh pt=Str.join ⟨#[32]⟩ [("walker" : Str),n,wh,vk pt.1,vk pt.2]:=by
 rw[<-qjj];unfold J9;show _=("walker" : Str) ++ " " ++ (n ++ " " ++ (wh ++ " " ++ (vk pt.1 ++ " " ++ vk pt.2)));refine wkn ?_;simp only[qym];have e:Str.empty.cps.toList++("walker " : Str).cps.toList=("walker" : Str).cps.toList++(" " : Str).cps.toList:=by decide +kernel
 rw[e];simp only[List.append_assoc]
theorem qjv (n:Str)(hs:List Int):qwj n hs=Str.join ⟨#[32]⟩ (("road" : Str)::n::hs.map vk):=by unfold qwj;rw[qjj];exact dq _ _
theorem wuu:∀c:Nat,c<97->Jc c=false:=by decide +kernel
theorem u7 (h:zj n=true){c:Nat}(hc:c<97):c∉n.cps.toList:=λm=>by unfold zj at h;rw[bv]at h;obtain⟨i,hi,e⟩:=List.mem_iff_getElem.mp m;have:=bJ.mp h.2 i (aW.mpr (by simpa using hi));rw[show n.cps.getD i 0=c by rw[<-e];simp at hi;simp[Array.getD,hi]]at this;rw[wuu c hc]at this;cases this
theorem Q2 {c:Nat}(hc:c=32\/c=10)(i:Int):c∉(vk i).cps.toList:=by
 unfold vk;rcases hc with rfl|rfl
 .exactλh=>(PyProof.Rows.intText_free_32 i).mp h
 .exact PyProof.Rows.int_text_free' 10 ⟨⋯,⋯⟩ i
theorem qvm {z:Str}{c:Nat}(h:z.length<=1000000):z.length<=sizeLine/\(Builtin.Str.partsBetween z (Builtin.Str.occurrences z ⟨#[c]⟩ 0 z.length (z.length+1)) (⟨#[c]⟩:Str).length).length<=sizeLine:=by
 have F:(1000010:Nat)<sizeLine:=by decide
 refine⟨⋯,?_⟩;rw[PySem.length_partsBetween];have:=PySem.StrLaws.occ_length_le z ⟨#[c]⟩ 0 z.length (z.length+1);lia
theorem cut2 (x y:V)(l:List V):qz7 (x::y::l) (some 2) none=l:=by unfold qz7 HT.sIx;simp
theorem at0 (x:V)(l:List V):atI (x::l) 0=some x:=uw (j:=0) rfl
theorem at1 (x y:V)(l:List V):atI (x::y::l) 1=some y:=uw (j:=1) rfl
def TakeR (C CR CW:Aj)(H:Hp)(o:Ho)(a:AH)(as:List AH)(row:Str)(Q:VK):Prop:=∃(n:Str) (hs:List Int),row=qwj n hs/\zj n=true/\n.length<=100/\a.rs n=none/\xm hs /\
 ∀H1 H' o',Same H H1->Nxt H1 o o'->VH C CR CW H' o' (a.putR n hs::a::as)->Kb [o.dr,o.dw,o.dd] H1 H'->Q .non H'
def TakeW (C CR CW:Aj)(H:Hp)(o:Ho)(a:AH)(as:List AH)(row:Str)(Q:VK):Prop:=∃(n wh:Str) (hs:List Int) (pt:Int×Int),row=J9 n wh pt/\zj n=true/\zj wh=true/\n.length<=100/\wh.length<=100/\a.ws n=none/\a.rs wh=some hs/\HPt hs pt /\
 ∀H1 H' o',Same H H1->Nxt H1 o o'->VH C CR CW H' o' (a.putW n ⟨wh,pt,[([.inl pt.1,.inl pt.2],.int 1)]⟩::a::as)->Kb [o.dr,o.dw,o.dd] H1 H'->Q .non H'
def Jd (C CR CW:Aj):Sp:=λvs H Q _=>∃(o:Ho) (a:AH) (as:List AH) (NM:List Str) (row:Str),vs=[.ref o.x,.str row]/\VH C CR CW H o (a::as)/\Nam NM a/\NM.length<=100/\o.ds.length<=10000/\(TakeR C CR CW H o a as row Q\/TakeW C CR CW H o a as row Q)
include T in
theorem wv1 (F:Fun K "take_in" "take_in" zco f fd)(zbc:↑MCal qq "lay" 4 (qx2 K qq qg qm wj qh))(zbd:↑MCal qq "place" 5 (Ww K qq qg qz qm wj q8 qx qp))(zdv:↑Cal "number_of" 1 qyv) :
  ↑FK 6 f fd ["house","row"] (Jd qq qg qz):=by
 have sc:=wzs;refine F.okX sc ⋯ λ_ _ _ _ H vs Q E I h=>?_;obtain⟨o,a,as,NM,ap,rfl,v,nm,lN,ld,h⟩:=h;have a0:(1000000:Nat)<sizeLine:=by decide
 refine⟨_,(qy (xx (i:=2) (Zt dh PySem.F.slot_str_split PySem.F.type_str_split www (pv 1) (xu xn qk)))
   (qt (x4 (PW.pt (Z8 (wn zd (xj zt (pv 2) qc (λ_ _=>rfl)) xn (wt _)) (Wc (wn y4 (xh x9 rfl T.len_ aF (q9 (pv 2) qk)) qc (wt _))))) (qt (zx (xg (pv 0) T.clH zbc (I.mono ⋯) qf (zu (xj zt (pv 2) qc (λ_ _=>rfl)) (x8 (Wq (M:=[]) rfl rfl (by walk_at "cap") (by walk_at "has") (by walk_at "cix") rfl (by decide +kernel) rfl (show List.Nodup (["word"]:List Str) by decide +kernel) (jp (Y3 wjc (pv 2) (qwp qc) qw5)) (λ_ _ _ _ _=>(wc zdv (I.mono ⋯) rfl J1 (q9 (pv 0) qk)))) qk))))) (qt (x4 (PW.pt (Z8 (wn zd (xj zt (pv 2) qc (λ_ _=>rfl)) xn (wt _)) (Wc (wn zd (xh x9 rfl T.len_ aF (q9 (pv 2) qk)) qc (wt _))))) (qt (zx (xg (pv 0) T.clH zbd (I.mono ⋯) qf (zu (xj zt (pv 2) qc (λ_ _=>rfl)) (zu (xj zt (pv 2) qc (λ_ _=>rfl)) (qzv (zk (k6 (wCA zdv (zu (xj zt (pv 2) qc (λ_ _=>rfl)) qk)) (k6 (wCA zdv (zu (xj zt (pv 2) qc (λ_ _=>rfl)) qk)) qk))) qk)))))) (qt (vz rfl T.zap zy rfl T.zdq (xu xn qk)))))))),?_⟩
 dsimp only [yf];rcases h with⟨n,hs,rfl,O,ln,en,lo,k⟩|⟨n,wh,hs,pt,rfl,O,nw,ln,lw,en,er,hp,k⟩
 .have ad:=qxk lo ln;obtain⟨z1,Z⟩:=qvm (z:=qwj n hs) (c:=32) ⋯;have es:Txt.split (qwj n hs) " " = ("road" : Str)::n::hs.map vk:=by
   rw[qjv,qjj];refine Yq (cD _ _) λr I=>?_;rcases ae.mp I with rfl|I
   .decide +kernel
   rcases ae.mp I with rfl|I
   .exact u7 O ⋯
   obtain⟨i,_,rfl⟩:=ar.mp I;exact Q2 (.inl rfl) i
  have lh:=(y6 lo).1;refine⟨_,rfl,rfl,_,_,rfl,rfl,by decide +kernel,z1,by rw[qjj];exact Z,by rw[es];simp only[aC,aa];lia,λl nl=>?_⟩;rw[es];have J:Same H (upd H l (.lst ((("road" : Str)::n::hs.map vk).map V.str))):=Same.upd nl;have G:upd H l (.lst ((("road" : Str)::n::hs.map vk).map V.str)) l=some (.lst (V.str "road" :: V.str n::(hs.map vk).map V.str)):=qb;generalize upd H l (.lst ((("road" : Str)::n::hs.map vk).map V.str))=H1 at J G;have v1:=v.same J;obtain⟨dx,hx⟩:=v1.h.hs.ob;exists ⟨l,_,_,_,rfl,rfl,SqL.of G,at0 _ _,rfl,_,rfl,zn (λ_=>?_) λe=>absurd rfl e⟩;exists ⟨l,exI rfl ⟨.inl (SqL.of G),xb rfl rfl (exI rfl (zn (λ_=>?_) λe=>absurd (by simp only[aC];lia) e))⟩⟩;exists ⟨o.x,dx,exI rfl ⟨hx,xt,exI rfl ⟨l,_,_,_,rfl,rfl,SqL.of G,at1 _ _ _,?_⟩⟩⟩;exists (exI rfl ⟨l,exI rfl ⟨SqL.of G,λl2 ab=>?_⟩⟩);rw[cut2];refine⟨l2,rfl,⟨_,SqL.of qb⟩,Z7 (λx=>match x with|.str z=>.int ((intText? z).getD 0)|_=>.non) (λx b=>by split <;> exactλz=>nomatch z) (SqL.of qb) (by simp only[aa];lia) (λx H' R ah s2 hR=>?_) λp H2 np s2 f2=>?_⟩
  .obtain⟨z,hz,rfl⟩:=ar.mp ah;obtain⟨i,hi,rfl⟩:=ar.mp hz;have U:=lo.2.2 i hi;refine⟨_,rfl,i,rfl,U.1,⋯,λan L=>?_⟩;have:=hR an L;dsimp only at this;rw[show intText? (vk i)=some i from eI U.1 ⋯]at this;exact this
  .have em:((hs.map vk).map V.str).map (λx=>match x with|.str z=>V.int ((intText? z).getD 0)|_=>.non)=hs.map V.int:=by rw[bq,bq];refine bX λi hi=>?_;have U:=lo.2.2 i hi;show V.int ((intText? (vk i)).getD 0)=_;rw[show intText? (vk i)=some i from eI U.1 ⋯];rfl
   rw[em]at f2;dsimp only [jv,y0,tC];have L:=(J.trans (Same.upd (o:=.lst ((hs.map vk).map V.str)) ab)).trans s2;exact VH.lays (v.same L) nm lN ld O ⋯ en f2 lo λH' o' nx S kb=>k H2 H' o' L nx S kb
 .have rg:=hp.rng;have ad:=qvw (n:=n) (wh:=wh) (pt:=pt) ln lw ⋯ ⋯;obtain⟨z1,Z⟩:=qvm (z:=J9 n wh pt) (c:=32) ⋯;have es:Txt.split (J9 n wh pt) " " = [("walker" : Str),n,wh,vk pt.1,vk pt.2]:=by
   rw[qjz,qjj];refine Yq (cD _ _) λr I=>?_;simp only[ae,af,aQ]at I;rcases I with rfl|rfl|rfl|rfl|rfl
   .decide +kernel
   .exact u7 O ⋯
   .exact u7 nw ⋯
   .exact Q2 (.inl rfl) _
   .exact Q2 (.inl rfl) _
  refine⟨_,rfl,rfl,_,_,rfl,rfl,by decide +kernel,z1,by rw[qjj];exact Z,by rw[es];exact(show 5<=sizeLine by lia),λl nl=>?_⟩;rw[es];have J:Same H (upd H l (.lst (([("walker" : Str),n,wh,vk pt.1,vk pt.2]:List Str).map V.str))):=Same.upd nl;have G:upd H l (.lst (([("walker" : Str),n,wh,vk pt.1,vk pt.2]:List Str).map V.str)) l=some (.lst [V.str "walker",V.str n,V.str wh,V.str (vk pt.1),V.str (vk pt.2)]):=qb;generalize upd H l (.lst (([("walker" : Str),n,wh,vk pt.1,vk pt.2]:List Str).map V.str))=H1 at J G;have v1:=v.same J;obtain⟨dx,hx⟩:=v1.h.hs.ob;exists ⟨l,_,_,_,rfl,rfl,SqL.of G,at0 _ _,rfl,_,rfl,zn (λe=>absurd (V.str.inj e) (by decide +kernel)) λ_=>yz ?_⟩;exists ⟨l,_,_,_,rfl,rfl,SqL.of G,at0 _ _,rfl,_,rfl,zn (λ_=>?_) λe=>absurd rfl e⟩;exists ⟨l,exI rfl ⟨.inl (SqL.of G),rfl,_,rfl,zn (λ_=>?_) λe=>absurd rfl e⟩⟩;exists ⟨o.x,dx,exI rfl ⟨hx,xt,exI rfl ⟨l,_,_,_,rfl,rfl,SqL.of G,at1 _ _ _,?_⟩⟩⟩;exists ⟨l,_,_,_,rfl,rfl,SqL.of G,rfl,?_⟩;refine⟨_,rfl,l,_,_,_,rfl,rfl,SqL.of G,rfl,pt.1,rfl,⋯,⋯,λH2 s2=>?_⟩;refine⟨_,rfl,l,_,_,_,rfl,rfl,SqL.of (s2 _ _ G),rfl,pt.2,rfl,⋯,⋯,λH3 L=>?_⟩;refine⟨sz2,λp np=>?_⟩;dsimp only [jv,y0,tC];have s4:=(((J.trans s2).trans L)).trans (Same.upd (o:=.tup [.int pt.1,.int pt.2]) np);have el:xv pt.1 pt.2=pt:=Wf rg.2.2.1 hp.2.1.2.2.1;refine VH.places (v.same s4) nm lN ld O ⋯ en er qb rg.2.2.1 (Sm.small ⋯ ⋯ ⋯) (by rw[el];exact hp) λH' o' nx S kb=>?_;rw[el]at S;exact k _ H' o' s4 nx S kb
structure New (H:Hp)(o:Ho):Prop where
 x:H o.x=none
 r:H o.dr=none
 w:H o.dw=none
 d:H o.dd=none
theorem New.nxt (h:New H o)(n:Nxt H1 o o'):New H o':=⟨by rw[n.x];exact h.x,by rw[n.dr];exact h.r,by rw[n.dw];exact h.w,by rw[n.dd];exact h.d⟩
theorem New.kb {H2:Hp}{ch:List Aj}(h:New H o)(k:Kb ch H H1)(k2:Kb [o.dr,o.dw,o.dd] H1 H2):Kb ch H H2:=λx u nx e=>k2 _ _ (λz=>by
 simp only[ae,af,aQ]at z
 rcases z with z|z|z
 .rw[z,h.r]at e;cases e
 .rw[z,h.w]at e;cases e
 .rw[z,h.d]at e;cases e) (k x u nx e)
theorem BA.same {c:BA}(h1:∀n,b.rs n=c.rs n)(h2:∀n,b.ws n=c.ws n):b=c:=by obtain⟨r,w⟩:=b;obtain⟨r',w'⟩:=c;have e1:r=r':=funext h1;have e2:w=w':=funext h2;rw[e1,e2]
theorem Y1 {ks:List Str}(nd:ks.Nodup)(e:ks.take (i+1)=ks.take i++[n]):n∉ks.take i:=λh=>by have:=(fH (i+1) ks).nodup nd;rw[e]at this;exact(d8.mp this).2.2 n h n (am.mpr rfl) rfl
theorem ne_rdx {CR:Aj}{x dy:Aj}(hx:H x=some (.ins C dx (hF dr dw dd)))(h:H r=some (.ins CR dy [("heights",.ref q)])):r≠x:=λz=>by
 rw[z,hx]at h;injection h with h
 injection h with _ _ h
 unfold hF at h;injection h with _ h
 cases h
theorem ne_wdx {x dy t:Aj}(hx:H x=some (.ins C dx (hF dr dw dd)))(h:H y=some (.ins CW dy (wF n p t))):y≠x:=λz=>by
 rw[z,hx]at h;injection h with h
 injection h with _ _ h
 unfold hF wF at h;injection h with h _
 injection h with h _
 exact absurd h (by decide +kernel)
theorem Rep.kx {CR:Aj}{f g:Key->Option V}{x:Aj}(h:Rep CR CW H f g a)(hx:H x=some (.ins C dx (hF dr dw dd)))(k:Kb [x] H H'):Rep CR CW H' f g a:=by
 have st:∀y u,y≠x->H y=some u->H' y=some u:=λy u S e=>k y u (λz=>S (am.mp z)) e;refine⟨λn=>?_,λn=>?_,h.ok⟩
 .cases e:a.rs n with
  |none=>exact h.noR e
  |some hs =>
   obtain⟨r,J,L,q,h1,h2⟩:=h.road e;exact⟨r,J,L,q,st _ _ (ne_rdx hx h1) h1,st _ _ (λz=>by rw[z,hx]at h2;cases h2) h2⟩
 .cases e:a.ws n with
  |none=>exact h.noW e
  |some w =>
   obtain⟨y,p,t,J,F⟩:=h.wk e;obtain⟨L,O⟩:=F.ob;have I:=F.pt;have G:=F.tm;exact⟨y,p,t,J,⟨L,st _ _ (ne_wdx hx O) O⟩,st _ _ (λz=>by rw[z,hx]at I;cases I) I,st _ _ (λz=>by rw[z,hx]at G;cases G) G⟩
def Ho.fgt (o:Ho)(dd:Aj):Ho:=⟨o.x,o.dr,o.dw,dd,o.R,o.W,[]⟩
def qzb (C CR CW:Aj):Sp:=λvs H Q _=>∃(o:Ho) (a:AH) (as:List AH),vs=[.ref o.x]/\VH C CR CW H o (a::as)/\∀H' dd,H dd=none->VH C CR CW H' (o.fgt dd) [a]->Kb [o.x] H H'->Q .non H'
include T in
theorem wyy (F:Fun K "forget" "House.forget" zcf f fd):↑FK 1 f fd ["self"] (qzb qq qg qz):=by
 have sc:=qwc;refine F.okX sc (λZ H Q E h=>by obtain⟨_,_,_,rfl,_⟩:=h;rfl) λ_ _ _ _ H Z Q E hr h=>?_;obtain⟨o,a,as,rfl,v,k⟩:=h;obtain⟨dx,I⟩:=v.h.hs.ob;refine⟨_,(qt (Zz (pv 0) (yj qk) rfl)),?_⟩;refine⟨sz0,λdd G=>(exI rfl ⟨o.x,qq,dx,exI rfl ⟨Same.upd G _ _ I,T.clH,T.naHd,(by show 3<1000;decide),?_⟩⟩)⟩;have ef:jj "done" (.ref dd) (hF o.dr o.dw o.dd)=hF o.dr o.dw dd:=by
  have n1:¬ ("roads" : Str) = "done" := by decide +kernel
  have n2:¬ ("walkers" : Str) = "done" := by decide +kernel
  unfold hF;rw[jj,ag n1,jj,ag n2,jj,ak rfl]
 rw[ef];have L:Kb [o.x] H (upd (upd H dd (.lst [])) o.x (.ins qq dx (hF o.dr o.dw dd))):=λb u J e=>by rw[wg (λz=>J (by rw[z];simp))];exact Same.upd G _ _ e
 have U:∀b u,b≠o.x->H b=some u->upd (upd H dd (.lst [])) o.x (.ins qq dx (hF o.dr o.dw dd)) b=some u:=λb u J e=>L b u (by simpa using J) e;have h:=v.h;have S:=h.hs.r;have O:=h.hs.w;have nr:o.dr≠o.x:=λz=>by rw[z,I]at S;cases S
 have nw:o.dw≠o.x:=λz=>by rw[z,I]at O;cases O
 refine k _ dd G ⟨⟨⟨⟨dx,qb⟩,U _ _ nr S,U _ _ nw O,?_,h.hs.ne⟩,(λd hd=>nomatch hd),(λq hq=>nomatch hq),trivial,h.nR,h.nW,h.fR,h.fW⟩,⟨v.rep.kx I L,.inl ⟨rfl,rfl⟩⟩⟩ L;show upd (upd H dd (.lst [])) o.x _ dd=some (.lst []);rw[wg (λz=>by rw[z,I]at G;cases G)];exact qb
def qj9 (w:Str×(Int×Int)):Wk:=⟨w.1,w.2,[([.inl w.2.1,.inl w.2.2],.int 1)]⟩
def Fresh (a:AH)(b:BA):Prop:=(∀n,a.rs n=b.rs n)/\∀n,a.ws n=(b.ws n).map qj9
theorem Fresh.bk (h:Fresh a b):a.bk=b:=BA.same h.1 λn=>by show(a.ws n).map _=_;rw[h.2 n];cases b.ws n <;> rfl
def ReadPre (b:BA)(NM ms1 ms2:List Str):Prop:=BOk NM b/\NM.length<60/\(∀n∈NM,n.length<=100)/\SrtN (λn=>(b.rs n).isSome) ms1/\SrtN (λn=>(b.ws n).isSome) ms2
def Zb (C CR CW:Aj):Sp:=λvs H Q _=>∃(b:BA) (NM ms1 ms2:List Str),vs=[.str (Jm b ms1 ms2)]/\ReadPre b NM ms1 ms2/\∀H' (o:Ho) (a:AH),Same H H'->VH C CR CW H' o [a]->New H o->o.ds=[]->Fresh a b->Q (.ref o.x) H'
theorem qxg {c d:Nat}(hc:d≠c):∀ {A:List (List Nat)},(∀x∈A,d∉x)->d∉glL c A
 |[],_=>af
 |[x],h=>h x (aw ..)
 |x::y::r,h=>λz=>by
  have z:d∈x++c::glL c (y::r):=z;rcases ba.mp z with z|z
  .exact h x (aw ..) z
  .rcases ae.mp z with z|z
   .exact hc z
   .exact qxg hc (λw hw=>h w (ay _ hw)) z
theorem wyd (nn:zj n=true):10∉(qwj n hs).cps.toList:=by
 rw[qjv,Yp];exact qxg ⋯ λx F=>by
  obtain⟨s,hs,rfl⟩:=ar.mp F;rcases ae.mp hs with rfl|hs
  .decide +kernel
  rcases ae.mp hs with rfl|hs
  .exact u7 nn ⋯
  obtain⟨i,_,rfl⟩:=ar.mp hs;exact Q2 (.inr rfl) i
theorem wy5 {pt:Int×Int}(nn:zj n=true)(nw:zj wh=true):10∉(J9 n wh pt).cps.toList:=by
 rw[qjz,Yp];exact qxg ⋯ λx F=>by
  obtain⟨s,hs,rfl⟩:=ar.mp F;simp only[ae,af,aQ]at hs;rcases hs with rfl|rfl|rfl|rfl|rfl
  .decide +kernel
  .exact u7 nn ⋯
  .exact u7 nw ⋯
  .exact Q2 (.inr rfl) _
  .exact Q2 (.inr rfl) _
theorem xq3:1<=(qwj n hs).length:=by unfold qwj;rw[show Txt.join " " (("road" : Str)::n::hs.map vk)=Str.join " " (("road" : Str)::n::hs.map vk) from dq _ _];show 1<=("road" ++ " " ++ Str.join " " (n::hs.map vk)).length;rw[Qv,Qv,qx5];lia
theorem xq5 {pt:Int×Int}:1<=(J9 n wh pt).length:=by
 have e1:(Str.empty ++ "walker " : Str).length=7:=by decide +kernel
 unfold J9;simp only[Qv]at e1 ⊢;lia
theorem xwq {x:Str}(h:1<=x.length):Str.join ⟨#[10]⟩ (x::l) ≠ "" := λz=>by
 have z:=bu Str.length z;rw[show("" : Str).length=0 by decide +kernel]at z;cases l with
 |nil=>have z:x.length=0:=z;lia
 |cons y l =>
  have z:(x++⟨#[10]⟩++Str.join ⟨#[10]⟩ (y::l)).length=0:=z;rw[Qv,Qv]at z;lia
def jy (b:BA)(ms1 ms2:List Str):List Str:=ms1.map (Q0 b)++ms2.map (Qf b)
theorem qqd (b:BA)(ms1 ms2:List Str):Jm b ms1 ms2=Str.join ⟨#[10]⟩ (jy b ms1 ms2):=by unfold Jm jy;rw[xxr];exact dq _ _
theorem ReadPre.row (h:ReadPre b NM ms1 ms2):∀n∈ms1,∃hs,b.rs n=some hs/\xm hs/\zj n=true/\n.length<=100/\n∈NM:=λn hn=>by obtain⟨bo,_,nl,S1,_⟩:=h;obtain⟨hs,e⟩:=az.mp ((S1.2.1 n).mp hn);obtain⟨lo,nn,hN⟩:=bo.lo n hs e;exact⟨hs,e,lo,nn,nl n hN,hN⟩
theorem ReadPre.wlk (h:ReadPre b NM ms1 ms2):∀n∈ms2,∃w hs,b.ws n=some w/\b.rs w.1=some hs/\HPt hs w.2/\zj n=true/\zj w.1=true/\n.length<=100/\w.1.length<=100/\n∈NM:=λn hn=>by obtain⟨bo,_,nl,_,S2⟩:=h;obtain⟨w,e⟩:=az.mp ((S2.2.1 n).mp hn);obtain⟨nn,hN,hs,er,hp⟩:=bo.wo n w e;obtain⟨_,nw,hW⟩:=bo.lo w.1 hs er;exact⟨w,hs,e,er,hp,nn,nw,nl n hN,nl _ hW,hN⟩
theorem ReadPre.lens (h:ReadPre b NM ms1 ms2):ms1.length<60/\ms2.length<60:=by
 have a:=Wy ms1 NM h.2.2.2.1.1 λn F=>(h.row n F).choose_spec.2.2.2.2;have c:=Wy ms2 NM h.2.2.2.2.1 λn F=>by obtain⟨_,_,_,_,_,_,_,_,_,e⟩:=h.wlk n F;exact e
 have:=h.2.1;lia
theorem ReadPre.text (h:ReadPre b NM ms1 ms2)(ne:jy b ms1 ms2≠[]):Jm b ms1 ms2 ≠ "" /\ Txt.split (Jm b ms1 ms2) "\n" = jy b ms1 ms2:=by
 have J:∀r∈jy b ms1 ms2,10∉r.cps.toList/\1<=r.length:=λr F=>by
  rcases ba.mp F with F|F
  .obtain⟨n,I,rfl⟩:=ar.mp F;obtain⟨hs,e,lo,G,_⟩:=h.row n I;exact⟨wyd G,xq3⟩
  .obtain⟨n,I,rfl⟩:=ar.mp F;obtain⟨w,hs,e,S,O,G,L,_⟩:=h.wlk n I;unfold Qf;rw[e];exact⟨wy5 G L,xq5⟩
 rw[qqd,xxr];refine⟨?_,Yq ne λr F=>(J r F).1⟩;cases e:jy b ms1 ms2 with
 |nil=>exact absurd e ne
 |cons x l=>exact xwq (J x (by rw[e];exact aw ..)).2
theorem ReadPre.len (h:ReadPre b NM ms1 ms2):(Jm b ms1 ms2).length<=1000000:=by
 have l:=h.lens;have J:∀n∈ms1,(Q0 b n).length<=1000:=λn G=>by obtain⟨hs,e,lo,L,F,_⟩:=h.row n G;unfold Q0;rw[e];exact qxk lo F
 have I:∀n∈ms2,(Qf b n).length<=1000:=λn G=>by obtain⟨w,hs,e,er,S,L,Z,F,O,_⟩:=h.wlk n G;have U:=S.rng;unfold Qf;rw[e];exact qvw F O ⟨by show 0<=w.2.1;lia,by show w.2.1<=_;lia⟩ ⟨by show 0<=w.2.2;lia,by show w.2.2<=_;lia⟩
 have a:=qzs J;have c:=qzs I;rw[qqd];refine bB (StrLaws.join_length_le _ _) ?_;unfold jy;rw[show(⟨#[10]⟩:Str).length=1 from rfl,aV,List.sum_append,aE,aa,aa];lia
def RdI (C CR CW:Aj)(H:Hp)(l:Aj)(b:BA)(ms1 ms2:List Str)(i:Nat)(o:Ho)(Hx:Hp):Prop:=∃(a:AH) (as:List AH),VH C CR CW Hx o (a::as)/\New H o/\o.ds.length=i/\Same H Hx/\Hx l=some (.lst ((jy b ms1 ms2).map V.str))/\l∉[o.dr,o.dw,o.dd]/\(∀n,a.rs n=if n∈ms1.take i then b.rs n else none)/\∀n,a.ws n=if n∈ms2.take (i-ms1.length) then(b.ws n).map qj9 else none
theorem Jx {f g:Str->Option α}(ht:ms.take (i+1)=ms.take i++[n])(h:∀m,g m=if m∈ms.take i then f m else none){v:α}(e:f n=some v)(m:Str):(if m=n then some v else g m)=if m∈ms.take (i+1) then f m else none:=by
 rw[ht];by_cases q:m=n
 .rw[ak q,ak (by rw[q];simp),q,e]
 .rw[ag q,h m];by_cases y:m∈ms.take i
  .rw[ak y,ak (bW _ y)]
  .rw[ag y,ag (λF=>by rcases ba.mp F with F|F;exact y F;exact q (am.mp F))]
theorem wkt {CR:Aj}{Hx:Hp}{l:Aj}{row:Str}(pre:ReadPre b NM ms1 ms2)(hi:(jy b ms1 ms2)[i]?=some row)(h:RdI C CR CW H l b ms1 ms2 i o Hx)(k:∀o' H',RdI C CR CW H l b ms1 ms2 (i+1) o' H'->o'.x=o.x->Q .non H'):Jd C CR CW [.ref o.x,.str row] Hx Q E:=by
 obtain⟨a,as,v,nw,ld,s,fl,ln,O,U⟩:=h;have an:=pre.lens;have S1:=pre.2.2.2.1;have S2:=pre.2.2.2.2;have li:i<ms1.length+ms2.length:=by have:=(aI.mp hi).1;unfold jy at this;rwa [aE,aa,aa]at this
 have nm:Nam NM a:=⟨(λm e=>by
  rw[O m]at e
  by_cases q:m∈ms1.take i
  .rw[ak q]at e
   obtain⟨hs,e'⟩:=az.mp e
   exact(pre.1.lo m hs e').2.2
  .rw[ag q]at e;cases e),(λm e=>by
  rw[U m]at e
  by_cases q:m∈ms2.take (i-ms1.length)
  .rw[ak q,cv]at e
   obtain⟨u,e'⟩:=az.mp e
   exact(pre.1.wo m u e').2.1
  .rw[ag q]at e;cases e)⟩
 have go:∀(S:AH) (H1 H':Hp) (o':Ho),Same Hx H1->Nxt H1 o o'->VH C CR CW H' o' (S::a::as)->Kb [o.dr,o.dw,o.dd] H1 H'->(∀n,S.rs n=if n∈ms1.take (i+1) then b.rs n else none)->(∀n,S.ws n=if n∈ms2.take (i+1-ms1.length) then(b.ws n).map qj9 else none)->Q .non H':=λS H1 H' o' G F J I h1 h2=>by obtain⟨d,ed,_⟩:=F.ds;have ad:Kb [] H H1:=Kb.of (s.trans G);exact k o' H' ⟨S,a::as,J,nw.nxt F,by rw[ed,aC,ld],λy u e=>nw.kb ad I y u af e,I _ _ ln (G _ _ fl),by rw[F.dr,F.dw,F.dd];exact ln,h1,h2⟩ F.x
 refine⟨o,a,as,NM,row,rfl,v,nm,by have:=pre.2.1;lia,⋯,?_⟩;unfold jy at hi;rcases de i ms1.length with q|q
 .rw[bz (by rw[aa];exact q),aB,aj q]at hi;have hi:Q0 b ms1[i]=row:=by injection hi
  obtain⟨hs,e,lo,nn,l1,_⟩:=pre.row ms1[i] (bH q);have L:ms1.take (i+1)=ms1.take i++[ms1[i]]:=by rw[cy,aj q];rfl
  unfold Q0 at hi;rw[e]at hi;refine .inl ⟨ms1[i],hs,hi.symm,nn,l1,by rw[O,ag (Y1 S1.1 L)],lo,λH1 H' o' G F J I=>go _ H1 H' o' G F J I (Jx L O e) λn=>?_⟩;show a.ws n=_;rw[U n,show i-ms1.length=0 by lia,show i+1-ms1.length=0 by lia]
 .have Z:i-ms1.length<ms2.length:=by lia
  rw[bi (by rw[aa];exact q),aa,aB,aj Z]at hi;have hi:Qf b ms2[i-ms1.length]=row:=by injection hi
  obtain⟨u,hs,e,er,hp,nn,ab,l1,l2,_⟩:=pre.wlk _ (bH Z);have L:ms2.take (i-ms1.length+1)=ms2.take (i-ms1.length)++[ms2[i-ms1.length]]:=by rw[cy,aj Z];rfl
  have tk:∀j,i<=j->ms1.take j=ms1:=λj hj=>cC ⋯;unfold Qf at hi;rw[e]at hi;have ah:a.rs u.1=some hs:=by rw[O,tk i (al _),ak ((S1.2.1 u.1).mpr (by show(b.rs u.1).isSome=true;rw[er];rfl)),er]
  refine .inr ⟨_,u.1,hs,u.2,hi.symm,nn,ab,l1,l2,by rw[U,ag (Y1 S2.1 L)],ah,hp,λH1 H' o' G F J I=>go _ H1 H' o' G F J I (λn=>?_) λn=>?_⟩
  .show a.rs n=_;rw[O n,tk i (al _),tk (i+1) ⋯]
  .rw[show i+1-ms1.length=i-ms1.length+1 by lia];exact Jx (f:=λn=>(b.ws n).map qj9) L U (by rw[e];rfl) n
include T in
theorem wwb (F:Fun K "house_of" "house_of" zcp f fd)(zbe:↑CCal "House" qq 1 (Jn qq))(zjp:↑Cal "take_in" 6 (Jd qq qg qz))(zjq:↑MCal qq "forget" 1 (qzb qq qg qz)) :
  ↑FK 7 f fd ["text"] (Zb qq qg qz):=by
 have sc:=wwp;refine F.okX sc ⋯ λ_ _ _ s H vs Q E G h=>?_;obtain⟨b,NM,ms1,ms2,rfl,O,k⟩:=h;have a9:(1000000:Nat)<sizeLine:=by decide
 have a8:=O.lens;refine⟨_,(qy (xx (i:=1) (qqq zbe (G.mono ⋯) rfl qf))
   (qy (yq aS rfl (jp (qz8 (wn qq6 (pv 0) xn (wt _)) (Zt dh PySem.F.slot_str_split PySem.F.type_str_split www (pv 0) (xu xn qk)) (yj qk))) (xy (i:=2)) (qt (zx (wCA zjp (q9 (pv 1) (q9 (pv 2) qk))))))
   (qy (zx (jz (pv 1) T.clH zjq (G.mono ⋯) qf))
   (qt (w6 (pv 1)))))),?_⟩
 dsimp only [yf];refineλx d9 nx ad a7=>⟨x,d9,rfl,qb,λJ an ah ap a3 a2 a1 a6 a4=>⟨rfl,?_⟩⟩;have s4:Same H J:=λz o e=>a4 z o (λy=>by rw[am.mp y,nx]at e;cases e) (by rw[wg (wq e nx),wg (wq e ad)];exact e);have ab:∀ {b},upd (upd H d9 (HO.own x)) x (HO.ins qq d9 []) b=none->H b=none:=λ{b} m=>by
  cases e:H b with
  |none=>rfl
  |some o=>rw[wg (wq e nx),wg (wq e ad),e]at m;cases m
 have L:VH qq qg qz J ⟨x,an,ah,ap,[],[],[]⟩ [AH.nil]:=VH.nil a6;have a0:New H ⟨x,an,ah,ap,[],[],[]⟩:=⟨nx,ab a3,ab a2,ab a1⟩;have S1:=O.2.2.2.1;have S2:=O.2.2.2.2;rcases Classical.em (jy b ms1 ms2=[]) with e0|e0
 have te:Jm b ms1 ms2 = "" := by rw[qqd,e0];decide +kernel
 exists ⟨rfl,_,rfl,wjx (by rw[te]) ⟨sz0,λl I=>?_⟩⟩;have U:Same J (upd J l (.lst [])):=Same.upd I;have Z:upd J l (.lst []) l=some (.lst ((jy b ms1 ms2).map V.str)):=by rw[e0];exact qb
 generalize upd J l (.lst [])=H5 at U Z;rotate_left;obtain⟨te,es⟩:=O.text e0;obtain⟨z1,z2⟩:=qvm (c:=10) O.len;exists ⟨rfl,_,rfl,qvj (λ_=>⟨_,rfl,rfl,_,_,rfl,rfl,by decide +kernel,z1,by rw[xxr];exact z2,by rw[es];unfold jy;rw[aE,aa,aa];lia,λl I=>?_⟩) λz=>absurd (V.str.inj z) te⟩;rw[es];have U:Same J (upd J l (.lst ((jy b ms1 ms2).map V.str))):=Same.upd I;have Z:upd J l (.lst ((jy b ms1 ms2).map V.str)) l=some (.lst ((jy b ms1 ms2).map V.str)):=qb;generalize upd J l (.lst ((jy b ms1 ms2).map V.str))=H5 at U Z
 all_goals clear e0
 all_goals refine⟨l,rfl,⟨_,SqL.of Z⟩,Ys (xs:=(jy b ms1 ms2).map V.str) (λi σ S=>∃(o:Ho) (z:Option V),RdI qq qg qz H l b ms1 ms2 i o S/\o.x=x/\σ=[some (.str (Jm b ms1 ms2)),some (.ref x),z])
   ⟨_,_,⟨_,_,L.same U,a0,rfl,s4.trans U,Z,λy=>?_,(λn=>rfl),(λn=>by rw[Nat.zero_sub];rfl)⟩,rfl,rfl⟩ (λi σ S _ h=>by obtain⟨_,_,⟨_,_,_,_,_,_,h,_⟩,_⟩:=h;exact SqL.of h) ?_ ?_⟩
 .simp only[ae,af,aQ]at y;rcases y with y|y|y <;> rw[y]at I
  .have:=L.h.hs.r;rw[I]at this;cases this
  .have:=L.h.hs.w;rw[I]at this;cases this
  .have:=L.h.hs.d;rw[I]at this;cases this
 .rintro i y σ S hi ⟨o,z,h,ex,rfl⟩;rw[aB]at hi;cases G:(jy b ms1 ms2)[i]? with
  |none=>rw[G]at hi;cases hi
  |some row =>
   rw[G]at hi;cases hi;exists (exI rfl ?_);dsimp only [y0];rw[<-ex];exact wkt O G h λo' H' h' e'=>⟨o',_,h',e',rfl⟩
 .rintro σ S ⟨o,z,⟨a,as,v,nw,ld,s,fl,ln,G,hw⟩,ex,rfl⟩;obtain⟨dx,hx⟩:=v.h.hs.ob;have lr:((jy b ms1 ms2).map V.str).length=ms1.length+ms2.length:=by unfold jy;rw[aa,aE,aa,aa]
  rw[lr]at G hw;rw[<-ex];exists ⟨o.x,dx,exI rfl ⟨hx,xt,o,a,as,rfl,v,λH' dd nd v' kb=>?_⟩⟩;exists (k H' (o.fgt dd) a (λy u e=>kb _ _ (λz=>?_) (s _ _ e)) v' ⟨nw.x,nw.r,nw.w,s.free nd⟩ rfl ⟨λn=>?_,λn=>?_⟩)
  .rw[am.mp z,nw.x]at e;cases e
  .rw[G n,cC ⋯];by_cases q:n∈ms1
   .rw[ak q]
   .rw[ag q];cases e:b.rs n with
    |none=>rfl
    |some hs=>exact absurd ((S1.2.1 n).mpr (by show(b.rs n).isSome=true;rw[e];rfl)) q
  .rw[hw n,cC ⋯];by_cases q:n∈ms2
   .rw[ak q]
   .rw[ag q];cases e:b.ws n with
    |none=>rfl
    |some hs=>exact absurd ((S2.2.1 n).mpr (by show(b.ws n).isSome=true;rw[e];rfl)) q
 .simp only[ae,af,aQ]at y;rcases y with y|y|y <;> rw[y]at I
  .have:=L.h.hs.r;rw[I]at this;cases this
  .have:=L.h.hs.w;rw[I]at this;cases this
  .have:=L.h.hs.d;rw[I]at this;cases this
 .rintro i y σ S hi ⟨o,z,h,ex,rfl⟩;rw[aB]at hi;cases G:(jy b ms1 ms2)[i]? with
  |none=>rw[G]at hi;cases hi
  |some row =>
   rw[G]at hi;cases hi;exists (exI rfl ?_);dsimp only [y0];rw[<-ex];exact wkt O G h λo' H' h' e'=>⟨o',_,h',e',rfl⟩
 .rintro σ S ⟨o,z,⟨a,as,v,nw,ld,s,fl,ln,G,hw⟩,ex,rfl⟩;obtain⟨dx,hx⟩:=v.h.hs.ob;have lr:((jy b ms1 ms2).map V.str).length=ms1.length+ms2.length:=by unfold jy;rw[aa,aE,aa,aa]
  rw[lr]at G hw;rw[<-ex];exists ⟨o.x,dx,exI rfl ⟨hx,xt,o,a,as,rfl,v,λH' dd nd v' kb=>?_⟩⟩;exists (k H' (o.fgt dd) a (λy u e=>kb _ _ (λz=>?_) (s _ _ e)) v' ⟨nw.x,nw.r,nw.w,s.free nd⟩ rfl ⟨λn=>?_,λn=>?_⟩)
  .rw[am.mp z,nw.x]at e;cases e
  .rw[G n,cC ⋯];by_cases q:n∈ms1
   .rw[ak q]
   .rw[ag q];cases e:b.rs n with
    |none=>rfl
    |some hs=>exact absurd ((S1.2.1 n).mpr (by show(b.rs n).isSome=true;rw[e];rfl)) q
  .rw[hw n,cC ⋯];by_cases q:n∈ms2
   .rw[ak q]
   .rw[ag q];cases e:b.ws n with
    |none=>rfl
    |some hs=>exact absurd ((S2.2.1 n).mpr (by show(b.ws n).isSome=true;rw[e];rfl)) q
include T in
theorem qv4 (F:Fun K "read_house" "read_house" zcq f fd)(zjr:↑Cal "house_of" 7 (Zb qq qg qz))(za0:↑Cal "house_text" 4 (quw qq qg qz)) :
  ↑FK 8 f fd ["text"] (Zb qq qg qz):=by
 have S:=qv5;refine F.okX S (λO H Q E h=>by obtain⟨_,_,_,_,rfl,_⟩:=h;rfl) λ_ _ _ _ H O Q E hr h=>?_;obtain⟨b,NM,ms1,ms2,rfl,G,k⟩:=h;refine⟨_,(qy (xwf rfl rfl rfl T.zid (λpn xe E hE hO=>(qt (xx (i:=1) (wc zjr (hr.mono ⋯) rfl hE (q9 (pv 0) qk))))) (λe=>(qt (show PS _ _ (λ_ _ _=>False) from λ_ _ _ _ _ _ h=>h.elim))))
   (qy (x4 (wn qq6 (wCA za0 (q9 (pv 1) qk)) (pv 0) (wt _)) (qt (vz rfl T.zap zy rfl T.zdq (xu xn qk))) w9)
   (qt (w6 (pv 1))))),?_⟩
 exists ⟨b,NM,ms1,ms2,rfl,G,λH1 o a U v Z ed I=>?_⟩;have J:=I.bk;have nm:Nam NM a:=AOk.bk (by rw[J];exact G.1);exists ⟨o,a,[],NM,rfl,v,nm,G.2.1,G.2.2.1,λH2 ad ab s2 L R2=>?_⟩;rw[J]at L R2 ⊢;rw[SrtN.uniq L G.2.2.2.1,SrtN.uniq R2 G.2.2.2.2];exists ⟨rfl,_,rfl,wjx rfl ((exI rfl (k H2 o a (U.trans s2) (v.same s2) Z ed I)))⟩
theorem wkc {α:Type}{f:Nat->α}(st:∀i j,f i=f j->f (i+1)=f (j+1)){n u:Nat}(hu:u<n)(e:f n=f u){x:Nat}(hx:u<=x)(k:Nat):f (x+(n-u)*k)=f x:=by have F:(n-u)*k=(n-u)*k:=rfl;rw[per st hu e (x+(n-u)*k) ⋯,per st hu e x hx,show x+(n-u)*k-u=x-u+(n-u)*k by lia,fD]
theorem go_on {α:Type}{f g:Nat->α}(sfg:∀m,f m=g m->f (m+1)=g (m+1)){m:Nat}(h:f m=g m):∀k,f (m+k)=g (m+k)
 |0=>h
 |k+1=>sfg _ (go_on sfg h k)
theorem wzm {α:Type}{f g:Nat->α}(sf:∀i j,f i=f j->f (i+1)=f (j+1))(sg:∀i j,g i=g j->g (i+1)=g (j+1))(sfg:∀m,f m=g m->f (m+1)=g (m+1)){n u n' u' m M:Nat}(hu:u<n)(e:f n=f u)(hu':u'<n')(e':g n'=g u')(h:f m=g m) (hM:u<=M) (hM':u'<=M) (hm:M<=m):f M=g M:=by
 have G:=wkc sf hu e hM ((n'-u')*m);have p2:=wkc sg hu' e' hM' ((n-u)*m);have I:(n-u)*((n'-u')*m)=(n'-u')*((n-u)*m):=by rw[<-fP,<-fP,Nat.mul_comm (n-u)]
 have h1:1<=(n-u)*(n'-u'):=Nat.mul_le_mul (show 1<=n-u by lia) (show 1<=n'-u' by lia);have h2:m<=(n-u)*((n'-u')*m):=by rw[<-fP];have:=Nat.mul_le_mul_right m h1;rwa [Nat.one_mul]at this
 have F:=go_on sfg h (M+(n-u)*((n'-u')*m)-m);rw[show m+(M+(n-u)*((n'-u')*m)-m)=M+(n-u)*((n'-u')*m) by lia,G,I,p2]at F;exact F
theorem it_two {p q:Int×Int}:∀m,itP hs p m=itP hs q m->itP hs p (m+1)=itP hs q (m+1):=λm e=>by show Qt hs (itP hs p m).1 (itP hs p m).2=Qt hs (itP hs q m).1 (itP hs q m).2;rw[e]
theorem never {p q:Int×Int}{n n' u' N:Nat}(hu:u<n)(e:itP hs p n=itP hs p u)(hu':u'<n')(e':itP hs q n'=itP hs q u')(h1:u<N)(h2:u'<N)(h:∀i,i<N->itP hs p i≠itP hs q i):∀j,itP hs p j≠itP hs q j:=λj ej=>by
 rcases de j N with z|z
 .exact h j z ej
 .have:=wzm xqq xqq it_two hu e hu' e' ej (M:=N-1) ⋯ ⋯ ⋯;exact h (N-1) ⋯ this
def Jt (K:Aa)(C:Aj):Sp:=λvs H Q _=>∃(r p q:Aj) (hs:List Int) (t b t' b':Int),vs=[.ref r,.ref p,.ref q]/\RoadAt C H r hs/\xm hs/\SqT K H p [.int t,.int b]/\SqT K H q [.int t',.int b'] /\
 (1<=b/\Sm 8000 b/\vf hs t b/\¬ Dist (itP hs (xv t b)) 1001)/\(1<=b'/\Sm 8000 b'/\vf hs t' b'/\¬ Dist (itP hs (xv t' b')) 1001) /\
 (∀m:Nat,(∀j,j<m->itP hs (xv t b) j≠itP hs (xv t' b') j)->itP hs (xv t b) m=itP hs (xv t' b') m->∀H',Same H H'->Q (.int m) H')/\((∀j,itP hs (xv t b) j≠itP hs (xv t' b') j)->∀H',Same H H'->Q .non H')
include T in
theorem wzy (F:Fun K "meeting" "meeting" zbm f fd)(za3:↑MCal qg "on_road" 3 (Wt K qg qx qp))(zdh:↑Cal "trace" 5 (qxq qg wz))(zdi:↑Cal "spot" 1 qy8) :
  ↑FK 6 f fd ["road","one","other"] (Jt K qg):=by
 have sc:=wzk;refine F.okX sc ⋯ λ_ _ _ _ H vs Q E Z h=>?_;obtain⟨r,p,q,hs,t,b,G,b',rfl,I,L,hp,hq,⟨hb,sb,a3,nd⟩,⟨a4,ad,a0,bf⟩,k1,k2⟩:=h;obtain⟨dx,q0,h1,h2⟩:=id I;refine⟨_,(qy (xx (i:=3) (xg (pv 0) T.cl za3 (Z.mono ⋯) qf (q9 (pv 1) qk)))
   (qy (xx (i:=4) (xg (pv 0) T.cl za3 (Z.mono ⋯) qf (q9 (pv 2) qk)))
   (qy (k8 (wCA zdh (q9 (pv 0) (q9 (pv 3) qk))) (vt rfl (xf (xy (i:=5)) (xf (xy (i:=6)) vq))))
   (qy (k8 (wCA zdh (q9 (pv 0) (q9 (pv 4) qk))) (vt rfl (xf (xy (i:=7)) (xf (xy (i:=8)) vq))))
   (qy (yq aS rfl (ut rfl T.range_ (vg (xz zf (xh (qk1 rfl) rfl T.max_ eE (q9 (pv 6) (q9 (pv 8) qk))) qc) qk)) (xy (i:=9)) (qt (x4 (wn (op_eqD Z.units) (wCA zdi (q9 (pv 5) (q9 (pv 6) (q9 (pv 9) qk)))) (wCA zdi (q9 (pv 7) (q9 (pv 8) (q9 (pv 9) qk)))) (wt _)) (qt (w6 (pv 9))) w9)))
   (qt (w6 jx))))))),?_⟩
 dsimp only [yf];refine c5 λ_ _ _ _ _ br bp bo bm bl=>?_;subst br;refine⟨_,rfl,r,dx,_,rfl,h1,vw (by decide +kernel),_,rfl,r,p,hs,t,b,rfl,I,L,hp,λ_=>⟨sb,λ_ p1 H1 J f1=>?_,λz=>absurd a3 z⟩,λz=>absurd hb ⋯⟩;subst bp;refine⟨_,rfl,r,dx,_,rfl,J _ _ h1,vw (by decide +kernel),_,rfl,r,q,hs,G,b',rfl,I.same J,L,J.sqt hq,λ_=>⟨ad,λ_ p2 H2 s2 f2=>?_,λz=>absurd a0 z⟩,λz=>absurd a4 ⋯⟩;have ap:=J.trans s2;subst bo;refine⟨_,rfl,_,rfl,r,p1,hs,xv t b,b,rfl,I.same ap,L,s2 _ _ f1,qx1 hb a3,sb,λn u q3 U H3 n1 d1 u1 e1 s3 _ f3 bb=>?_,λd=>absurd d nd⟩;refine⟨q3,exI rfl ⟨SqT.of f3,rfl,_,_,rfl,_,_,rfl,rfl,?_⟩⟩;have an:=ap.trans s3;subst bm;refine⟨_,rfl,_,rfl,r,p2,hs,xv G b',b',rfl,I.same an,L,s3 _ _ f2,qx1 a4 a0,ad,λn' O q4 S H4 bk bs ab a8 s4 _ f4 a9=>?_,λd=>absurd d bf⟩;refine⟨q4,exI rfl ⟨SqT.of f4,rfl,_,_,rfl,_,_,rfl,rfl,?_⟩⟩;have ah:=an.trans s4;have T1:TrAt H4 U hs (xv t b) n u:=⟨n1,d1,u1,e1,bb.same s4⟩;have T2:TrAt H4 S hs (xv G b') n' O:=⟨bk,bs,ab,a8,a9⟩;subst bl;exists (exI rfl ⟨_,_,rfl,_,_,rfl,rfl,exI rfl ⟨?_,?_,Q6 (λj σ H5=>H5=H4/\(∀i,i<j->itP hs (xv t b) i≠itP hs (xv G b') i)/\∃z,σ=[some (.ref r),some (.ref p),some (.ref q),some (.ref p1),some (.ref p2),some (.ref U),some (.int u),some (.ref S),some (.int O),z]) ⟨rfl,λi z=>absurd z ⋯,_,rfl⟩ ?_ ?_⟩⟩)
 .split <;> lia
 .split <;> lia
 .rintro j σ H5 hj ⟨rfl,hmin,z,rfl⟩;have ej:((0:Int)+j).toNat=j:=by lia
  exists (exI rfl (exI rfl ⟨U,hs,xv t b,n,u,exI rfl ⟨T1,⋯,λa1 a7=>?_⟩⟩));exists (exI rfl (exI rfl ⟨S,hs,xv G b',n',O,exI rfl ⟨T2,⋯,λa2 a6=>?_⟩⟩));rw[ej]at a7 a6;refine⟨_,_,xxs (q:=itP hs (xv t b) j) (SqT.of a7),xxs (q:=itP hs (xv G b') j) (SqT.of a6),rfl,rfl,dep_pt,_,rfl,?_⟩;show if PyData.eqv (ptD (itP hs (xv t b) j)) (ptD (itP hs (xv G b') j))=true then _ else _
  rw[xq6];refine zn (λe=>?_) (λe=>?_)
  .exists ?_;rw[Int.zero_add];exact k1 j hmin e _ ah
  .refine⟨rfl,λi hi=>?_,_,rfl⟩;rcases(by lia:i<j\/i=j) with y|y
   .exact hmin i y
   .subst y;exact e
 .rintro σ H5 ⟨rfl,hmin,z,rfl⟩;refine k2 (never u1 e1 ab a8 ?_ ?_ hmin) _ ah
  .split <;> lia
  .split <;> lia
def wz2 (C CR CW CN CA:Aj):Sp:=λvs H Q E=>∃(x dr dw dd:Aj) (R W:List (Key×V)) (D:List V) (n m:Str),vs=[.ref x,.str n,.str m]/\Hse C H x dr dw dd R W D/\(wp W (.inr n)=none->E (.ref CN) none H) /\
 (∀v,wp W (.inr n)=some v->(wp W (.inr m)=none->E (.ref CN) none H)/\∀v',wp W (.inr m)=some v'->∃y wh p pt t tv y' wh' p' pt' t' tv',v=.ref y/\WkAt CW H y wh p pt t tv/\v'=.ref y'/\WkAt CW H y' wh' p' pt' t' tv'/\(wh≠wh'->E (.ref CA) none H) /\
  (wh=wh'->∃r hs,wp R (.inr wh)=some (.ref r)/\RoadAt CR H r hs/\HPt hs pt/\HPt hs pt'/\(∀k:Nat,(∀j,j<k->itP hs pt j≠itP hs pt' j)->itP hs pt k=itP hs pt' k->∀H',Same H H'->Q (.int k) H')/\((∀j,itP hs pt j≠itP hs pt' j)->∀H',Same H H'->Q .non H')))
include T in
theorem xv9 (F:Fun K "meet" "House.meet" zcj f fd)(zan:↑MCal qq "walker_called" 1 (v6 qq qj false))(zjs:↑Cal "meeting" 6 (Jt K qg)) :
  ↑FK 7 f fd ["self","one","other"] (wz2 qq qg qz qj wf):=by
 have sc:=qv7;refine F.okX sc ⋯ λ_ _ _ _ H vs Q E Z h=>?_;obtain⟨x,dr,dw,dd,R,W,D,n,m,rfl,J,kx,k⟩:=h;obtain⟨dx,U⟩:=J.ob;refine⟨_,(qy (xx (i:=3) (xg (pv 0) T.clH zan (Z.mono ⋯) qf (q9 (pv 1) qk)))
   (qy (xx (i:=4) (xg (pv 0) T.clH zan (Z.mono ⋯) qf (q9 (pv 2) qk)))
   (qy (x4 (wn qq6 (zh (pv 3) rfl) (zh (pv 4) rfl) (wt _)) (qt (vz rfl T.za2 zy rfl T.zht (xu xn qk))) w9)
   (qt (w6 (wCA zjs (zu (jw (vc Z) (zh (pv 0) rfl) (zh (pv 3) rfl) (λ_ _=>rfl)) (x8 (zh (pv 3) rfl) (x8 (zh (pv 4) rfl) qk))))))))),?_⟩
 refine⟨_,rfl,x,dx,_,rfl,U,xt,_,rfl,x,dr,dw,dd,R,W,D,n,rfl,J,λv e=>?_,kx⟩;obtain⟨a1,k⟩:=k v e;refine⟨_,rfl,x,dx,_,rfl,U,xt,_,rfl,x,dr,dw,dd,R,W,D,m,rfl,J,λv' e'=>?_,a1⟩;obtain⟨y,wh,p,pt,t,tv,y',ap,p',ab,t',a2,rfl,hW,rfl,ah,ka,k⟩:=k v' e';obtain⟨dy,S⟩:=hW.ob;obtain⟨an,ad⟩:=ah.ob;exists ⟨y,qz,dy,_,_,rfl,S,T.clW,T.naWw,yy,exI rfl ⟨y',qz,an,_,_,rfl,ad,T.clW,T.naWw,yy,rfl,_,rfl,?_⟩⟩;refine qvj (λz=>⟨sz1,ka λy=>z (by rw[y])⟩) (λz=>?_)
 .have z:wh=ap:=by injection z
  obtain⟨r,hs,er,hR,G,I,k1,k2⟩:=k z;have dg:DGet H dr (.str wh) (wp R (.inr wh)):=DGet.k (k:=.inr wh) J.r;rw[er]at dg;have rg:=G.rng;have a0:=I.rng;have O:=Wf G.2.1.1 G.2.1.2.2.1;have L:=Wf I.2.1.1 I.2.1.2.2.1;exists ⟨x,qq,dx,_,_,rfl,U,T.clH,T.naHr,jh,exI rfl ⟨y,qz,dy,_,_,rfl,S,T.clW,T.naWw,yy,dr,exI rfl ⟨dg,exI rfl ⟨y,qz,dy,_,_,rfl,S,T.clW,T.naWp,yx,exI rfl ⟨y',qz,an,_,_,rfl,ad,T.clW,T.naWp,yx,r,p,p',hs,pt.1,pt.2,ab.1,ab.2,rfl,hR,G.1,SqT.of hW.pt,SqT.of ah.pt,⟨rg.2.2.1,(Sm.small (n:=65) ⋯ ⋯ ⋯).mono ⋯,G.2.1.2.2.2,?_⟩,⟨a0.2.2.1,(Sm.small (n:=65) ⋯ ⋯ ⋯).mono ⋯,I.2.1.2.2.2,?_⟩,?_,?_⟩⟩⟩⟩⟩
  .rw[O];exact G.short
  .rw[L];exact I.short
  .rw[O,L];exact k1
  .rw[O,L];exact k2
def MeetR (b:BA)(n m:Str)(v:V):Prop:=∃u u',b.ws n=some u/\b.ws m=some u'/\((u.1≠u'.1/\v=.int (-2))\/(u.1=u'.1/\∃hs,b.rs u.1=some hs/\((∃k:Nat,(∀j,j<k->itP hs u.2 j≠itP hs u'.2 j)/\itP hs u.2 k=itP hs u'.2 k/\v=.int k)\/((∀j,itP hs u.2 j≠itP hs u'.2 j)/\v=.non))))
theorem MeetR.uniq {m:Str}{v':V}(h:MeetR b n m v)(h':MeetR b n m v'):v=v':=by
 obtain⟨u,u',e1,e2,h⟩:=h;obtain⟨w,w',L,J,h'⟩:=h';rw[e1]at L;rw[e2]at J;cases L;cases J;rcases h with⟨z,rfl⟩|⟨z,hs,Z,h⟩ <;> rcases h' with⟨y,rfl⟩|⟨y,ab,O,h'⟩
 .rfl
 .exact absurd y z
 .exact absurd z y
 .rw[Z]at O;cases O;rcases h with⟨k,I,U,rfl⟩|⟨I,rfl⟩ <;> rcases h' with⟨F,G,S,rfl⟩|⟨G,rfl⟩
  .rcases Nat.lt_trichotomy k F with q|q|q
   .exact absurd U (G k q)
   .rw[q]
   .exact absurd S (I F q)
  .exact absurd U (G k)
  .exact absurd S (I F)
  .rfl
theorem MeetR.scal {m:Str}(h:MeetR b n m v):scal v v=true:=by obtain⟨u,u',_,_,⟨_,rfl⟩|⟨_,hs,_,⟨k,_,_,rfl⟩|⟨_,rfl⟩⟩⟩:=h <;> rfl
def qyd (C CR CW:Aj):Sp:=λvs H Q _=>∃(o:Ho) (a:AH) (as:List AH) (n m:Str),vs=[.ref o.x,.str n,.str m]/\VH C CR CW H o (a::as)/\(a.bk.ws n).isSome=true/\(a.bk.ws m).isSome=true/\∀v H',MeetR a.bk n m v->Same H H'->Q v H'
include T in
theorem wus (F:Fun K "_law_meet" "_law_meet" zdd f fd)(zjt:↑MCal qq "meet" 7 (wz2 qq qg qz qj wf)):↑FK 8 f fd ["_law_house","_law_one","_law_other"] (qyd qq qg qz):=by
 have sc:=qyj;refine F.okX sc ⋯ λ_ _ _ s H vs Q E hr h=>?_;obtain⟨o,a,as,n,m,rfl,v,hn,hm,k⟩:=h;have an:∀z,(a.bk.ws z).isSome=true->∃w,a.ws z=some w/\a.bk.ws z=some (w.wh,w.pt):=λz hz=>by have O:((a.ws z).map λw=>(w.wh,w.pt)).isSome=true:=hz;rw[cv]at O;obtain⟨w,e⟩:=az.mp O;exact⟨w,e,by show(a.ws z).map _=_;rw[e];rfl⟩
 obtain⟨w1,ab,L⟩:=an n hn;obtain⟨w2,Z,J⟩:=an m hm;obtain⟨y1,p1,t1,U,a0⟩:=v.rep.wk ab;obtain⟨y2,p2,t2,S,ap⟩:=v.rep.wk Z;obtain⟨_,hs,I,a2⟩:=v.rep.ok.wo n w1 ab;obtain⟨_,G,ah,a1⟩:=v.rep.ok.wo m w2 Z;obtain⟨r,a3,ra⟩:=v.rep.road I;obtain⟨dx,hx⟩:=v.h.hs.ob;refine⟨_,(qy (xx (i:=3) (Yg Wg qc))
   (qy (xwf rfl rfl rfl T.zht (λpn xe E hE hO=>(qt (xx (i:=3) (xg (pv 0) T.clH zjt (hr.mono ⋯) hE (q9 (pv 1) (q9 (pv 2) qk)))))) (λe=>(qt (xx (i:=3) (Yg Wg qc)))))
   (qt (w6 (pv 3))))),?_⟩
 dsimp only [yf];exists (exI rfl ⟨o.x,dx,exI rfl ⟨hx,xt,exI rfl (exI rfl ⟨o.x,o.dr,o.dw,o.dd,o.R,o.W,_,n,m,rfl,v.h.hs,(λz=>by rw[U]at z;cases z),λu eu=>⟨(λz=>by rw[S]at z;cases z),λu' ad=>?_⟩⟩)⟩⟩);rw[U]at eu;rw[S]at ad;cases eu;cases ad;refine⟨y1,_,p1,_,t1,_,y2,_,p2,_,t2,_,rfl,a0,rfl,ap,λne=>?_,λe=>?_⟩
 .exact⟨wf,rfl,vm T.za2,exI rfl (exI rfl (k _ _ ⟨_,_,L,J,.inl ⟨ne,rfl⟩⟩ (Same.refl _)))⟩
 .have e2:G=hs:=by rw[<-e,I]at ah;exact(au ah).symm
  subst e2;refine⟨r,G,a3,ra,a2,a1,λj h1 h2 H' s'=>?_,λh1 H' s'=>?_⟩
  .exact exI rfl (k _ _ ⟨_,_,L,J,.inr ⟨e,G,I,.inl ⟨j,h1,h2,rfl⟩⟩⟩ s')
  .exact exI rfl (k _ _ ⟨_,_,L,J,.inr ⟨e,G,I,.inr ⟨h1,rfl⟩⟩⟩ s')
def AfI (C CR CW:Aj)(H:Hp)(l:Aj)(od:List Str)(rs:Str->Option (List Int))(ws:Str->Option (Str×(Int×Int)))(n:Nat)(o:Ho)(Hx:Hp):Prop:=∃(a:AH) (as:List AH),VH C CR CW Hx o (a::as)/\New H o/\(∀q∈ym o.ds,H q=none)/\o.ds.length=n/\Same H Hx/\Hx l=some (.lst (od.map V.str))/\l∉[o.dr,o.dw,o.dd]/\(∀n,a.rs n=rs n)/\∀n,a.bk.ws n=ws n
def qzu (C CR CW:Aj):Sp:=λvs H Q _=>∃(dr dw:Aj) (R W:List (Key×V)) (b:BA) (NM:List Str),vs=[.ref dr,.ref dw]/\B2 H dr dw R W b/\BOk NM b/\NM.length<60/\(∀n∈NM,n.length<=100)/\∀H' (o:Ho) (a:AH) (as:List AH),Same H H'->VH C CR CW H' o (a::as)->New H o->(∀q∈ym o.ds,H q=none)->a.bk=b->o.ds.length<=200->Q (.ref o.x) H'
theorem ww8 {CR:Aj}{l:Aj}(v:VH C CR CW H o as)(n:H l=none):l∉[o.dr,o.dw,o.dd]:=λz=>by
 simp only[ae,af,aQ]at z;rcases z with z|z|z <;> rw[z]at n
 .rw[v.h.hs.r]at n;cases n
 .rw[v.h.hs.w]at n;cases n
 .rw[v.h.hs.d]at n;cases n
theorem xqm {Hx:Hp}(s:Same H Hx)(n:Nxt Hx o o')(h:∀q∈ym o.ds,H q=none):∀q∈ym o'.ds,H q=none:=λq hq=>by
 obtain⟨d,ed,q1,q2⟩:=n.ds;rw[ed]at hq;have hq:q∈[d.q1,d.q2]++ym o.ds:=hq;rcases ba.mp hq with hq|hq
 .simp only[ae,af,aQ]at hq;rcases hq with rfl|rfl
  .exact s.free q1
  .exact s.free q2
 .exact h q hq
theorem wxk (e:(ms.map V.str)[i]?=some v):∃n,v=.str n/\n∈ms/\ms.take (i+1)=ms.take i++[n]:=by
 rw[aB]at e;cases h:ms[i]? with
 |none=>rw[h]at e;cases e
 |some n =>
  rw[h]at e;cases e;exact⟨n,rfl,aK h,by rw[cy,h];rfl⟩
include T in
theorem wjs (F:Fun K "_law_afresh" "_law_afresh" zde f fd)(zbe:↑CCal "House" qq 1 (Jn qq))(zbc:↑MCal qq "lay" 4 (qx2 K qq qg qm wj qh))(zbd:↑MCal qq "place" 5 (Ww K qq qg qz qm wj q8 qx qp)) :
  ↑FK 6 f fd ["_law_roads","_law_walkers"] (qzu qq qg qz):=by
 have sc:=qzd;refine F.okX sc ⋯ λ_ _ _ s H vs Q E hr h=>?_;obtain⟨dr,dw,R,W,b,NM,rfl,G,bo,lN,nl,k⟩:=h;obtain⟨eR,nR⟩:=yr G.bp.nR G.bp.fR;obtain⟨eW,nW⟩:=yr G.bp.nW G.bp.fW;have b1:=G.bp.lens bo;refine⟨_,(qy (xx (i:=2) (qqq zbe (hr.mono ⋯) rfl qf))
   (qy (yq aS rfl (jp (wu3 (xh (Qh) rfl T.sorted_ bU (k6 (vb (Z9 rfl) rfl T.list_ bA (q9 (pv 0) qk)) qk)) (Yg Wg qc))) (xy (i:=3)) (qt (zx (xg (pv 2) T.clH zbc (hr.mono ⋯) qf (q9 (pv 3) (k6 (vb jt rfl T.list_ bA (zu (jw (vc hr) (pv 0) (pv 3) (λ_ _=>rfl)) qk)) qk))))))
   (qy (yq aS rfl (jp (wu3 (xh (Qh) rfl T.sorted_ bU (k6 (vb (Z9 rfl) rfl T.list_ bA (q9 (pv 1) qk)) qk)) (Yg Wg qc))) (xy (i:=3)) (qy (k8 (jw (vc hr) (pv 1) (pv 3) (λ_ _=>rfl)) (vt rfl (xf (xy (i:=4)) (xf (xy (i:=5)) (xf (xy (i:=6)) vq)))))
   (qt (zx (xg (pv 2) T.clH zbd (hr.mono ⋯) qf (q9 (pv 3) (q9 (pv 4) (qzv (zk (q9 (pv 5) (q9 (pv 6) qk))) qk))))))))
   (qt (w6 (pv 2)))))),?_⟩
 dsimp only [yf];refine c4 λ_ _ _ _ i1 i2 i3 i4=>?_;subst i1;refineλx d9 nx a2 bt=>⟨x,d9,rfl,qb,λH4 a4 a3 a6 bf bb a9 br bl=>⟨rfl,?_⟩⟩;have s4:Same H H4:=λz o e=>bl z o (λy=>by rw[am.mp y,nx]at e;cases e) (by rw[wg (wq e nx),wg (wq e a2)];exact e);have ap:∀ {b},upd (upd H d9 (HO.own x)) x (HO.ins qq d9 []) b=none->H b=none:=λ{b} m=>by
  cases e:H b with
  |none=>rfl
  |some o=>rw[wg (wq e nx),wg (wq e a2),e]at m;cases m
 have v4:VH qq qg qz H4 ⟨x,a4,a3,a6,[],[],[]⟩ [AH.nil]:=VH.nil br;have a8:New H ⟨x,a4,a3,a6,[],[],[]⟩:=⟨nx,ap bf,ap bb,ap a9⟩;subst i2;exists ⟨_,_,_,rfl,.inl (s4 _ _ G.r),eR,λl0 n0=>?_⟩;refine⟨_,_,rfl,SqL.of qb,by rw[aa];lia,λl1 ms1 n1 p1 w1=>?_⟩;exists ⟨rfl,l1,exI rfl ⟨SqL.of qb,λl2 n2=>?_⟩⟩;have s5:=((Same.upd (H:=H4) (o:=.lst ((R.map yg).map V.str)) n0).trans (Same.upd (o:=.lst (ms1.map V.str)) n1)).trans (Same.upd (o:=.lst (ms1.map V.str).reverse) n2);have f5:upd (upd (upd H4 l0 (.lst ((R.map yg).map V.str))) l1 (.lst (ms1.map V.str))) l2 (.lst (ms1.map V.str).reverse) l2=some (.lst (ms1.reverse.map V.str)):=by rw[List.map_reverse];exact qb
 have n5:H4 l2=none:=((Same.upd n0).trans (Same.upd n1)).free n2;generalize upd (upd (upd H4 l0 (.lst ((R.map yg).map V.str))) l1 (.lst (ms1.map V.str))) l2 (.lst (ms1.map V.str).reverse)=H5 at s5 f5;have a1:ms1.reverse.Nodup:=(List.reverse_perm ms1).nodup_iff.mpr (p1.nodup_iff.mpr nR);have mO:∀n,n∈ms1.reverse↔(b.rs n).isSome=true:=λn=>by rw[List.mem_reverse,p1.mem_iff,u9 G.bp.nR G.bp.fR];cases e:b.rs n with
  |none=>rw[G.bp.noR e];exact⟨(λz=>nomatch z),(λz=>nomatch z)⟩
  |some hs=>obtain⟨_,p,e1,_⟩:=G.bp.row e;rw[e1];exact⟨λ_=>rfl,λ_=>rfl⟩
 have lO:ms1.reverse.length=R.length:=by rw[cW,p1.length_eq,aa]
 generalize ms1.reverse=od at f5 a1 mO lO;refine⟨l2,rfl,⟨_,SqL.of f5⟩,Ys (xs:=od.map V.str) (λj σ O=>∃(o:Ho) (z:Option V),AfI qq qg qz H l2 od (λn=>if n∈od.take j then b.rs n else none) (λ_=>none) j o O/\o.x=x/\σ=[some (.ref dr),some (.ref dw),some (.ref x),z,none,none,none])
  ⟨_,_,⟨_,_,v4.same s5,a8,(λq hq=>nomatch hq),rfl,s4.trans s5,f5,ww8 v4 n5,(λn=>rfl),(λn=>rfl)⟩,rfl,rfl⟩ (λj σ O _ h=>by obtain⟨_,_,⟨_,_,_,_,_,_,_,h,_⟩,_⟩:=h;exact SqL.of h) ?_ ?_⟩
 .rintro j y σ O hy ⟨o,z,⟨a',as,v,nw,nqs,ld,s,fl,ln,I,L⟩,ex,rfl⟩;have I:∀n,a'.rs n=if n∈od.take j then b.rs n else none:=I
  obtain⟨n,rfl,hn,ht⟩:=wxk hy;obtain⟨hs,eh⟩:=az.mp ((mO n).mp hn);have S:=G.same s;obtain⟨lo,p,ep,fp⟩:=S.bp.row eh;have dg:DGet O dr (.str n) (wp R (.inr n)):=DGet.k (k:=.inr n) S.r;rw[ep]at dg;obtain⟨_,nn,hN⟩:=bo.lo n hs eh;obtain⟨dx,hx⟩:=v.h.hs.ob;have lj:j<od.length:=by have:=(aI.mp hy).1;rwa [aa]at this
  have bm:∀m,a'.ws m=none:=λm=>by
   have:(a'.ws m).map (λw=>(w.wh,w.pt))=none:=L m;cases e:a'.ws m with
   |none=>rfl
   |some w=>rw[e]at this;cases this
  have nm:Nam NM a':=⟨(λm e=>by
   rw[I m]at e
   by_cases q:m∈od.take j
   .rw[ak q]at e
    obtain⟨an,e'⟩:=az.mp e
    exact(bo.lo m an e').2.2
   .rw[ag q]at e;cases e),(λm e=>by rw[bm m]at e;cases e)⟩
  rw[<-ex];exists ⟨o.x,dx,exI rfl ⟨hx,xt,exI rfl (exI rfl (exI rfl ⟨dr,exI rfl ⟨dg,p,exI rfl ⟨.inl (SqL.of fp),λl ad=>?_⟩⟩⟩))⟩⟩;dsimp only [jv,y0,tC];refine VH.lays (v.same (Same.upd ad)) nm ⋯ ⋯ nn (by have:=nl n hN;lia) (by rw[I n,ag (Y1 a1 ht)]) qb lo λH' o' J v' ab=>?_;obtain⟨d,ed,_⟩:=J.ds;have ah:Kb [] H (upd O l (.lst (hs.map V.int))):=Kb.of (s.trans (Same.upd ad));exact⟨o',_,⟨_,_,v',nw.nxt J,xqm (s.trans (Same.upd ad)) J nqs,by rw[ed,aC,ld],λy u e=>nw.kb ah ab y u af e,ab _ _ ln (Same.upd ad _ _ fl),by rw[J.dr,J.dw,J.dd];exact ln,Jx ht I eh,L⟩,J.x,rfl⟩
 rintro σ O ⟨o,z,⟨a',as,v,nw,nqs,ld,s,fl,ln,I,L⟩,ex,rfl⟩;have I:∀n,a'.rs n=if n∈od.take (od.map V.str).length then b.rs n else none:=I
 have bs:∀n,a'.rs n=b.rs n:=λn=>by
  rw[I n,aa,ce];by_cases q:n∈od
  .rw[ak q]
  .rw[ag q];cases e:b.rs n with
   |none=>rfl
   |some hs=>exact absurd ((mO n).mpr (by rw[e];rfl)) q
 have S:=G.same s;subst i3;exists ⟨_,_,_,rfl,.inl S.w,eW,λl3 n3=>?_⟩;refine⟨_,_,rfl,SqL.of qb,by rw[aa];lia,λl4 ms2 n4 p2 w2=>?_⟩;exists ⟨rfl,l4,exI rfl ⟨SqL.of qb,λZ n6=>?_⟩⟩;have s6:=((Same.upd (H:=O) (o:=.lst ((W.map yg).map V.str)) n3).trans (Same.upd (o:=.lst (ms2.map V.str)) n4)).trans (Same.upd (o:=.lst (ms2.map V.str).reverse) n6);have f6:upd (upd (upd O l3 (.lst ((W.map yg).map V.str))) l4 (.lst (ms2.map V.str))) Z (.lst (ms2.map V.str).reverse) Z=some (.lst (ms2.reverse.map V.str)):=by rw[List.map_reverse];exact qb
 have n7:O Z=none:=((Same.upd n3).trans (Same.upd n4)).free n6;generalize upd (upd (upd O l3 (.lst ((W.map yg).map V.str))) l4 (.lst (ms2.map V.str))) Z (.lst (ms2.map V.str).reverse)=H6 at s6 f6;have a0:ms2.reverse.Nodup:=(List.reverse_perm ms2).nodup_iff.mpr (p2.nodup_iff.mpr nW);have mP:∀n,n∈ms2.reverse↔(b.ws n).isSome=true:=λn=>by
  rw[List.mem_reverse,p2.mem_iff,u9 G.bp.nW G.bp.fW];cases e:b.ws n with
  |none=>rw[G.bp.noW e];exact⟨(λz=>nomatch z),(λz=>nomatch z)⟩
  |some u=>obtain⟨p,e1,_⟩:=G.bp.wlk e;rw[e1];exact⟨λ_=>rfl,λ_=>rfl⟩
 have lP:ms2.reverse.length=W.length:=by rw[cW,p2.length_eq,aa]
 generalize ms2.reverse=oe at f6 a0 mP lP;refine⟨Z,rfl,⟨_,SqL.of f6⟩,Ys (xs:=oe.map V.str) (λj σ U=>∃(o:Ho) (z z1 z2 z3:Option V),AfI qq qg qz H Z oe b.rs (λn=>if n∈oe.take j then b.ws n else none) ((od.map V.str).length+j) o U/\o.x=x/\σ=[some (.ref dr),some (.ref dw),some (.ref x),z,z1,z2,z3])
  ⟨o,_,_,_,_,⟨_,_,v.same s6,nw,nqs,ld,s.trans s6,f6,ww8 v n7,bs,L⟩,ex,rfl⟩ (λj σ U _ h=>by obtain⟨_,_,_,_,_,⟨_,_,_,_,_,_,_,h,_⟩,_⟩:=h;exact SqL.of h) ?_ ?_⟩
 .clear v nw nqs ld s fl ln I L ex S;rintro j y σ U hy ⟨o,z,z1,z2,z3,⟨a',as,v,nw,nqs,ld,s,fl,ln,I,L⟩,ex,rfl⟩;have L:∀n,a'.bk.ws n=if n∈oe.take j then b.ws n else none:=L
  obtain⟨n,rfl,hn,ht⟩:=wxk hy;obtain⟨u,eu⟩:=az.mp ((mP n).mp hn);have S:=G.same s;obtain⟨q,eq,fq⟩:=S.bp.wlk eu;have dg:DGet U dw (.str n) (wp W (.inr n)):=DGet.k (k:=.inr n) S.w;rw[eq]at dg;obtain⟨nn,hN,hs,er,hp⟩:=bo.wo n u eu;have rg:=hp.rng;have a7:xv u.2.1 u.2.2=u.2:=Wf rg.2.2.1 hp.2.1.2.2.1;obtain⟨dx,hx⟩:=v.h.hs.ob;have lj:j<oe.length:=by have:=(aI.mp hy).1;rwa [aa]at this
  have b0:(od.map V.str).length=R.length:=by rw[aa];exact lO
  have nm:Nam NM a':=⟨(λm e=>by
   rw[I m]at e
   obtain⟨an,e'⟩:=az.mp e
   exact(bo.lo m an e').2.2),(λm e=>by
   have e2:(a'.bk.ws m).isSome=true:=by show((a'.ws m).map _).isSome=true;rw[cv];exact e
   rw[L m]at e2
   by_cases y:m∈oe.take j
   .rw[ak y]at e2
    obtain⟨u',e'⟩:=az.mp e2
    exact(bo.wo m u' e').2.1
   .rw[ag y]at e2;cases e2)⟩
  have en:a'.ws n=none:=by
   have:=L n;rw[ag (Y1 a0 ht)]at this;have this:(a'.ws n).map (λw=>(w.wh,w.pt))=none:=this;cases e:a'.ws n with
   |none=>rfl
   |some w=>rw[e]at this;cases this
  rw[<-ex];exists (exI rfl ⟨dw,exI rfl ⟨dg,q,exI rfl ⟨SqT.of fq,rfl,_,_,rfl,_,_,rfl,_,_,rfl,rfl,?_⟩⟩⟩);exists ⟨o.x,dx,exI rfl ⟨hx,xt,exI rfl (exI rfl (exI rfl (exI rfl ⟨sz2,λp np=>?_⟩)))⟩⟩;dsimp only [jv,y0,tC];refine VH.places (v.same (Same.upd np)) nm ⋯ ⋯ nn (by have:=nl n hN;lia) en (by rw[I];exact er) qb rg.2.2.1 (Sm.small ⋯ ⋯ ⋯) (by rw[a7];exact hp) λH' o' J v' ab=>?_;rw[a7]at v';obtain⟨d,ed,_⟩:=J.ds;have ah:Kb [] H (upd U p (.tup [.int u.2.1,.int u.2.2])):=Kb.of (s.trans (Same.upd np));refine⟨o',_,_,_,_,⟨_,_,v',nw.nxt J,xqm (s.trans (Same.upd np)) J nqs,by rw[ed,aC,ld,Nat.add_assoc],λy u e=>nw.kb ah ab y u af e,ab _ _ ln (Same.upd np _ _ fl),by rw[J.dr,J.dw,J.dd];exact ln,I,λm=>?_⟩,J.x,rfl⟩;refine Eq.trans ?_ (Jx ht L eu m);show(if m=n then some _ else a'.ws m).map _=_;by_cases y:m=n
  .rw[ak y,ak y];rfl
  .rw[ag y,ag y];rfl
 .rintro σ U ⟨o,z,z1,z2,z3,⟨a',as,v,nw,nqs,ld,s,fl,ln,I,L⟩,ex,rfl⟩;have L:∀n,a'.bk.ws n=if n∈oe.take (oe.map V.str).length then b.ws n else none:=L
  subst i4;exists ?_;rw[<-ex];refine k U o a' as s v nw nqs (BA.same I λn=>?_) (by rw[ld,aa,aa,lO,lP];lia);rw[L n,aa,ce];by_cases q:n∈oe
  .rw[ak q]
  .rw[ag q];cases e:b.ws n with
   |none=>rfl
   |some u=>exact absurd ((mP n).mpr (by rw[e];rfl)) q
theorem VH.frame2 {CR:Aj}(v:VH C CR CW H o as){ch:List Aj}(k:Kb ch H H')(dl:Dl H ch)(n:o.x∉ch/\o.dr∉ch/\o.dw∉ch/\o.dd∉ch)(rd:∀q∈ch,q∈ym o.ds->∀kv,Rd H q (.dK kv)->Rd H' q (.dK kv)):VH C CR CW H' o as:=⟨v.h.frame k dl n rd,Hist.dl dl k v.t⟩
def Off (o:Ho)(dr dw:Aj):Prop:=(o.dr≠dr/\o.dw≠dr/\o.dd≠dr)/\(o.dr≠dw/\o.dw≠dw/\o.dd≠dw)
structure BR (H:Hp)(dr dw:Aj)(R W:List (Key×V))(b:BA):Prop where
 r:Rd H dr (.dK R)
 w:Rd H dw (.dK W)
 ne:dr≠dw
 bp:BP H R W b
theorem B2.br (h:B2 H dr dw R W b):BR H dr dw R W b:=⟨.inl h.r,.inl h.w,h.ne,h.bp⟩
theorem BR.same (h:BR H dr dw R W b)(s:Same H H'):BR H' dr dw R W b:=⟨s.rd h.r,s.rd h.w,h.ne,h.bp.same s⟩
theorem BR.dl (h:BR H dr dw R W b):Dl H [dr,dw]:=.cons (.inl ⟨_,h.r⟩) (.cons (.inl ⟨_,h.w⟩) .nil)
theorem wjg {d:Aj}{u:HO}{ch:List Aj}(h:Rd H d u)(k:Kb ch H H')(n:d∉ch):Rd H' d u:=by
 rcases h with h|⟨o,h⟩
 .exact .inl (k _ _ n h)
 .exact .inr ⟨o,k _ _ n h⟩
theorem BR.kb (h:BR H dr dw R W b){ch:List Aj}(dl:Dl H ch)(k:Kb ch H H')(n:dr∉ch/\dw∉ch):BR H' dr dw R W b:=⟨wjg h.r k n.1,wjg h.w k n.2,h.ne,h.bp.kb dl k⟩
theorem rd_x {x d:Aj}{fs:List (Str×V)}(hx:H x=some (.ins C dx fs))(e:Rd H d (.dK R)):x≠d:=λz=>by rw[z]at hx;rcases e with e|⟨o,e⟩ <;> rw[e]at hx <;> cases hx
theorem VH.ch {CR:Aj}(v:VH C CR CW H o as)(br:BR H dr dw R W b)(fo:Off o dr dw)(k:Kb [dr,dw] H H')(rr:Rd H' dr (.dK R))(rw':Rd H' dw (.dK W)):VH C CR CW H' o as:=by
 obtain⟨dx,I⟩:=v.h.hs.ob;have m:∀y:Aj,y≠dr->y≠dw->y∉[dr,dw]:=λy h1 h2 z=>by
  simp only[ae,af,aQ]at z;rcases z with z|z
  .exact h1 z
  .exact h2 z
 refine v.frame2 k br.dl ⟨m _ (rd_x I br.r) (rd_x I br.w),m _ fo.1.1 fo.2.1,m _ fo.1.2.1 fo.2.2.1,m _ fo.1.2.2 fo.2.2.2⟩ λq J _ G e=>?_;have F:∀ {d:Aj} {X:List (Key×V)},Rd H d (.dK X)->Rd H d (.dK G)->X=G:=λ{d X} h1 h2=>by rcases h1 with h1|⟨o1,h1⟩ <;> rcases h2 with h2|⟨o2,h2⟩ <;> rw[h1]at h2 <;> cases h2 <;> rfl
 simp only[ae,af,aQ]at J;rcases J with rfl|rfl
 .rw[<-F br.r e];exact rr
 .rw[<-F br.w e];exact rw'
theorem Off.not (h:Off o dr dw):dr∉[o.dr,o.dw,o.dd]/\dw∉[o.dr,o.dw,o.dd]:=by
 constructor <;> intro z <;> simp only[ae,af,aQ]at z <;> rcases z with z|z|z
 .exact h.1.1 z.symm
 .exact h.1.2.1 z.symm
 .exact h.1.2.2 z.symm
 .exact h.2.1 z.symm
 .exact h.2.2.1 z.symm
 .exact h.2.2.2 z.symm
theorem sql_ch {a:Aj}(br:BR H dr dw R W b)(k:Kb [dr,dw] H H1)(h:SqL K H a xs):SqL K H1 a xs:=by
 rcases h with h|h
 .refine Kb.sql k (.inl h) (.inr λz=>?_);have F:∀ {d:Aj} {X:List (Key×V)},Rd H d (.dK X)->a≠d:=λ{d X} e q=>by rw[q]at h;rcases h with h|⟨o,h⟩ <;> rcases e with e|⟨o',e⟩ <;> rw[e]at h <;> cases h
  simp only[ae,af,aQ]at z;rcases z with z|z
  .exact F br.r z
  .exact F br.w z
 .exact .inr h
theorem wjw {u v:HO}(n:New H o)(e1:H dr=some u)(e2:H dw=some v):Off o dr dw:=by
 have F:∀ {y d:Aj} {z:HO},H y=none->H d=some z->y≠d:=λ{y d z} h e q=>by rw[q,e]at h;cases h
 exact⟨⟨F n.r e1,F n.w e1,F n.d e1⟩,⟨F n.r e2,F n.w e2,F n.d e2⟩⟩
structure S9 (C CR CW:Aj)(H:Hp)(o p:Ho)(l l':List AH)(dr dw:Aj)(R W:List (Key×V))(b:BA):Prop where
 v:VH C CR CW H o l
 vp:VH C CR CW H p l'
 ap:Ap o p
 br:BR H dr dw R W b
 fo:Off o dr dw
 fp:Off p dr dw
variable {l':List AH}
theorem S9.same {CR:Aj}{p:Ho}{l:List AH}(h:S9 C CR CW H o p l l' dr dw R W b)(s:Same H H'):S9 C CR CW H' o p l l' dr dw R W b:=⟨h.v.same s,h.vp.same s,h.ap,h.br.same s,h.fo,h.fp⟩
theorem S9.symm {CR:Aj}{p:Ho}{l:List AH}(h:S9 C CR CW H o p l l' dr dw R W b):S9 C CR CW H p o l' l dr dw R W b:=⟨h.vp,h.v,h.ap.symm,h.br,h.fp,h.fo⟩
theorem S9.ch {CR:Aj}{p:Ho}{l:List AH}(h:S9 C CR CW H o p l l' dr dw R W b)(k:Kb [dr,dw] H H')(rr:Rd H' dr (.dK R))(rw':Rd H' dw (.dK W)):S9 C CR CW H' o p l l' dr dw R W b:=⟨h.v.ch h.br h.fo k rr rw',h.vp.ch h.br h.fp k rr rw',h.ap,⟨rr,rw',h.br.ne,h.br.bp.kb h.br.dl k⟩,h.fo,h.fp⟩
theorem S9.nxt {CR:Aj}{p:Ho}{l l2:List AH}(h:S9 C CR CW H o p l l' dr dw R W b)(s:Same H H1)(n:Nxt H1 o o')(v:VH C CR CW H' o' l2)(k:Kb [o.dr,o.dw,o.dd] H1 H'):S9 C CR CW H' o' p l2 l' dr dw R W b:=by have h1:=h.same s;refine⟨v,h1.ap.stay h1.v.h h1.vp k,h1.ap.nxt h1.vp.h n,h1.br.kb h1.v.h.dl k h.fo.not,?_,h.fp⟩;unfold Off;rw[n.dr,n.dw,n.dd];exact h.fo
theorem BOk.good (h:BOk NM b):BOk (NM.filter λn=>zj n) b/\∀n∈NM.filter λn=>zj n,n.length<=100:=by
 refine⟨⟨λn hs e=>?_,λn w e=>?_⟩,λn F=>?_⟩
 .obtain⟨a,c,d⟩:=h.lo n hs e;exact⟨a,c,bj.mpr ⟨d,c⟩⟩
 .obtain⟨a,c,d⟩:=h.wo n w e;exact⟨a,bj.mpr ⟨c,a⟩,d⟩
 .have:=(bj.mp F).2;unfold zj at this;rw[bv]at this;have:=bM this.1;lia
theorem nms_of {L:List (List Nat)}(f:H q=some (.lst (L.map λcs=>V.str (Qz cs))))(l:L.length=5)(h:∀cs∈L,Lets cs/\1<=cs.length/\cs.length<=12):NmsAt H q (L.map Qz):=by refine⟨by rw[f,bq];rfl,by rw[aa];exact l,λs hs=>?_⟩;obtain⟨cs,F,rfl⟩:=ar.mp hs;rw[W9];exact(h cs F).2.2
theorem bk_nil {d1 d2:Aj}(e1:H d1=some (.dK []))(e2:H d2=some (.dK []))(ne:d1≠d2)(e3:H p=some (.lst [])):BkAt H ⟨d1,d2,p,[],[],[]⟩ AH.nil.bk [] :=
 ⟨⟨e1,e2,ne,⟨aX,aX,(λm v e=>nomatch e),(λm v e=>nomatch e),(λn=>rfl),(λn=>rfl)⟩⟩,e3,trivial,(λp hp=>nomatch hp)⟩
theorem wjj {CR:Aj}{p:Ho}(v:VH C CR CW H o as)(n:New H p)(nq:∀q∈ym p.ds,H q=none):Ap o p:=by
 have F:∀ {y d:Aj},H y=none->d∈o.dr::o.dw::o.dd::ym o.ds->d≠y:=λ{y d} h m q=>by obtain⟨u,e⟩:=v.occ d m;rw[q,h]at e;cases e
 exact⟨F n.r (by simp),F n.w (by simp),F n.r (by simp),F n.w (by simp),F n.d (by simp),(λq G=>⟨F n.r (by simp[G]),F n.w (by simp[G])⟩),(λq G=>⟨(F (nq q G) (by simp)).symm,(F (nq q G) (by simp)).symm⟩)⟩
theorem xz4 {k:Bk}(h:Sep o k):Off o k.dr k.dw:=by
 have m:∀x,x∈o.dr::o.dw::o.dd::ym o.ds->x≠k.dr/\x≠k.dw:=λx F=>by have:=h x F;unfold Bk.ad at this;simp only[ae,not_or]at this;exact⟨this.1,this.2.1⟩
 exact⟨⟨(m _ (by simp)).1,(m _ (by simp)).1,(m _ (by simp)).1⟩,⟨(m _ (by simp)).2,(m _ (by simp)).2,(m _ (by simp)).2⟩⟩
def I59 (C CR CW xo xp dr dw:Aj)(R W:List (Key×V))(b:BA)(NG:List Str)(o9:Obj)(i:Nat)(H:Hp):Prop:=∃o p a as pa ps,S9 C CR CW H o p (a::as) (pa::ps) dr dw R W b/\pa.bk=a.bk/\a.bk.rs=b.rs/\BOk NG a.bk/\o.x=xo/\p.x=xp/\o.ds.length<=100+i/\p.ds.length<=200+i/\H dr=some (.frz o9 (.dK R))
theorem xzy {l:List (Str×(Int×Int))}{v':V}(h1:AnsAt H v (.lst l))(h2:AnsAt H v' (.lst l))(k:Q (.bl false) H):rEqD K true v v' H Q:=by
 have r:∀ {v:V},AnsAt H v (.lst l)->RD K H (whL l) v:=λ{v} h=>by obtain⟨a,ys,rfl,S,J,_,F⟩:=h;unfold whL;rw[RD];exact⟨a,ys,rfl,SqL.of S,wkp l ys J λj x ex=>by obtain⟨q,r,b1,b2,b3,_⟩:=F j x ex;exact⟨q,r,b1,b2,b3⟩⟩
 have G:(whL l).canLay0=true:=by obtain⟨a,ys,_,_,_,_,F⟩:=h1;unfold whL;rw[PyData.canLay0];refine wkh λx L=>?_;obtain⟨j,O,Z⟩:=bD L;obtain⟨q,r,_,_,_,_,I⟩:=F j x (by rw[aj O,Z]);exact xkk I
 have U:PyData.eqv (whL l) (whL l)=true:=by unfold whL;rw[PyData.eqv];exact wk6 l
 have dp:min (whL l).depth (whL l).depth<=60:=by have:=wju l;unfold whL;simp only[PyData.depth];lia
 refine⟨_,_,r h1,r h2,G,G,dp,?_⟩;rw[ak rfl,U];exact k
theorem BP.rkey (bp:BP H R W b){j:Nat}{c:Key×V}(hc:R[j]?=some c):∃n,c.1=.inr n/\∃hs,b.rs n=some hs:=by
 have F:=jq bp.nR (aK hc);obtain⟨n,_,es,_⟩:=bp.fR _ _ F;refine⟨n,es,?_⟩;cases e:b.rs n with
 |none=>rw[es,bp.noR e]at F;cases F
 |some u=>exact⟨u,rfl⟩
abbrev stM (a q x d1 d2 lp:Aj)(z6 z7 z8 z9 z10 z11 z12 z13:Option V):St:=[some (.ref a),some (.ref q),some (.ref x),some (.ref d1),some (.ref d2),some (.ref lp),z6,z7,z8,z9,z10,z11,z12,z13]
abbrev InvM (K:Aa)(qq qg qz a q x d1 d2 lp:Aj)(ns:List Int)(L:List (List Nat))(i:Nat)(σ:St)(Hx:Hp):Prop:=∃o kb z6 z7 z8,σ=(stM a q x d1 d2 lp z6 z7 z8 none none none none none)/\o.x=x/\kb.dr=d1/\kb.dw=d2/\kb.dp=lp/\∃ah as NM,JS qq qg qz Hx o kb ah as NM/\SqL K Hx a (ns.map V.int)/\((∀H',SqL K H' a (ns.map V.int))\/(a≠o.dd/\a≠kb.dp))/\NmsAt Hx q (L.map Qz)/\NM.length<=i/\as.length<=i
include T in
theorem zju (F:Fun K "law" "law" zdm f fd)(za8:↑Cal "_law_cell" 1 (qz5 K))(zaa:↑Cal "_law_pick" 2 (W8 K))(zjv:↑Cal "_law_names" 3 (qz2 K))(zbe:↑CCal "House" qq 1 (Jn qq))(zjw:↑Cal "_law_deed" 4 (quf K))(zjx:↑Cal "_law_done" 5 wv8)(zjy:↑Cal "_law_told" 10 (wzw qq qg qz))(zjz:↑Cal "_law_afresh" 6 (qzu qq qg qz))(zj0:↑Cal "read_house" 8 (Zb qq qg qz))(za0:↑Cal "house_text" 4 (quw qq qg qz))(zhz:↑Cal "_law_meet" 8 (qyd qq qg qz))(zdj:↑MCal qq "together" 8 (qxs qq qg qz q8 qu)) :
  ↑FK 11 f fd ["_law_script"] (wv9 K):=by
 have sc:=zic;refine F.okX sc ⋯ λ_ _ _ s H vs Q E hr h=>?_;obtain⟨a,J,rfl,hS,hl,k⟩:=h;refine⟨_,(qy (xx (i:=1) (wCA zjv (q9 (pv 0) (xu qc qk))))
   (qy (xx (i:=2) (qqq zbe (hr.mono ⋯) rfl qf))
   (qy (xx (i:=3) km)
   (qy (xx (i:=4) km)
   (qy (xx (i:=5) (yj qk))
   (qy (yq aS rfl (ut rfl T.range_ (vg (xz zf qc (wCA zaa (q9 (pv 0) (xu qc (xu qc (xu qc qk)))))) qk)) (xy (i:=6)) (qy (xx (i:=7) (wCA zjw (q9 (pv 0) (vg (xz zf qc (pv 6)) (q9 (pv 1) qk)))))
   (qy (xx (i:=8) (wCA zjx (q9 (pv 5) (q9 (pv 3) (q9 (pv 4) (q9 (pv 7) qk))))))
   (qt (x4 (wn qq6 (xj xk (wCA zjy (q9 (pv 2) (q9 (pv 7) qk))) qc (λ_ _=>rfl)) (xj xk (pv 8) qc (λ_ _=>rfl)) (wt _)) (qt (w6 qqt)) w9)))))
   (qy (xx (i:=9) (wCA zjz (q9 (pv 3) (q9 (pv 4) qk))))
   (jf (x4 (wn zd (wCA zaa (q9 (pv 0) (xu qc (xu qc (xu qc qk))))) qc (wt _)) (qt (xx (i:=9) (wCA zj0 (k6 (wCA za0 (q9 (pv 2) qk)) qk)))) w9)
   (qy (x4 (wn qq6 (wCA za0 (q9 (pv 2) qk)) (wCA za0 (q9 (pv 9) qk)) (wt _)) (qt (w6 qqt)) w9)
   (qy (yq aS rfl (wu2 (pv 4)) (xy (i:=10)) (qt (yq aS rfl (pi_dkZ (pv 4)) (xy (i:=11)) (qt (x4 (wn qq6 (wCA zhz (q9 (pv 2) (q9 (pv 10) (q9 (pv 11) qk)))) (wCA zhz (q9 (pv 9) (q9 (pv 10) (q9 (pv 11) qk)))) (wt _)) (qt (w6 qqt)) w9)))))
   (qy (xx (i:=12) (xz jm (wCA za8 (q9 (pv 0) (xu qc qk))) (xz zf (xz qqu qc qc) qc)))
   (qy (yq aS rfl (wu2 (pv 3)) (xy (i:=13)) (qt (x4 (wn (op_neD hr.units) (xg (pv 2) T.clH zdj (hr.mono ⋯) qf (q9 (pv 13) (q9 (pv 12) qk))) (xg (pv 9) T.clH zdj (hr.mono ⋯) qf (q9 (pv 13) (q9 (pv 12) qk))) (wt _)) (qt (w6 qqt)) w9)))
   (qt (w6 (yw zd (wCA za0 (q9 (pv 2) qk)) (wCA za0 (q9 (pv 9) qk)) (wt _)))))))))))))))),?_⟩
 dsimp only [yf];refine c7 λ_ _ _ _ _ _ _ i1 i2 i3 i4 i5 i6 i7=>?_;subst i1;exists ⟨a,J,exI rfl ⟨hS,⋯,λq L H1 I nq fq lL hL nd=>?_⟩⟩;have hq:=nms_of fq lL hL;subst i2;refineλx d9 nx cj f3=>⟨x,d9,rfl,qb,λH4 dr dw dd f9 f8 ei em bs=>⟨rfl,?_⟩⟩;have b4:Same H1 H4:=λz o e=>bs z o (λy=>by rw[am.mp y,nx]at e;cases e) (by rw[wg (wq e nx),wg (wq e cj)];exact e);have e0:∀ {b},upd (upd H1 d9 (HO.own x)) x (HO.ins qq d9 []) b=none->H1 b=none:=λ{b} m=>by
  cases e:H1 b with
  |none=>rfl
  |some o=>rw[wg (wq e nx),wg (wq e cj),e]at m;cases m
 have eh:=e0 ei;have c6:=I.sql hS;have v4:VH qq qg qz H4 ⟨x,dr,dw,dd,[],[],[]⟩ [AH.nil]:=VH.nil em;subst i3;refineλS n1=>?_;have s5:=Same.upd (H:=H4) (o:=.dK []) n1;have f5:upd H4 S (.dK []) S=some (.dK []):=qb;generalize upd H4 S (.dK [])=H5 at s5 f5;subst i4;refineλO n2=>?_;have s6:=Same.upd (H:=H5) (o:=.dK []) n2;have f6:upd H5 O (.dK []) O=some (.dK []):=qb;have eg:S≠O:=wq f5 n2;generalize upd H5 O (.dK [])=H6 at s6 f6;subst i5;refine⟨sz0,λG b6=>?_⟩;have s7:=Same.upd (H:=H6) (o:=.lst []) b6;have f7:upd H6 G (.lst []) G=some (.lst []):=qb;generalize upd H6 G (.lst [])=H7 at s7 f7;have b3:=(s5.trans s6).trans s7;have fv:BkAt H7 ⟨S,O,G,[],[],[]⟩ AH.nil.bk []:=bk_nil ((s6.trans s7) _ _ f5) (s7 _ _ f6) eg f7;have v7:=v4.same b3;have d0:Sep ⟨x,dr,dw,dd,[],[],[]⟩ ⟨S,O,G,[],[],[]⟩:=λy hy hk=>by
  obtain⟨u,eu⟩:=v4.occ y hy;have hk:y∈[S,O,G]:=hk;simp only[ae,af,aQ]at hk;rcases hk with rfl|rfl|rfl
  .rw[n1]at eu;cases eu
  .rw[x6 s5 n2]at eu;cases eu
  .rw[x6 (s5.trans s6) b6]at eu;cases eu
 have ek:JS qq qg qz H7 ⟨x,dr,dw,dd,[],[],[]⟩ ⟨S,O,G,[],[],[]⟩ AH.nil [] []:=⟨v7,fv,d0,λy hy=>by rw[am.mp hy];exact BOk.nil,rfl⟩;have bt:SqL K H7 a (J.map V.int):=(b4.trans b3).sql c6;have et:(∀H',SqL K H' a (J.map V.int))\/(a≠dd/\a≠G):=(wum c6).imp id λ⟨u,e,_⟩=>⟨wq e eh,wq ((((b4.trans s5).trans s6)) _ _ e) b6⟩;have en:=hq.same (b4.trans b3);subst i6;exists ⟨a,J,_,_,_,rfl,bt,⋯,⋯,⋯,⋯,λr0 _ l0 u0=>?_⟩;refine xb rfl rfl ⟨3+r0,rfl,⋯,⋯,wvu (λi σ Hx=>InvM K qq qg qz a q x S O G J L i σ Hx) ⟨⟨x,dr,dw,dd,[],[],[]⟩,⟨S,O,G,[],[],[]⟩,_,_,_,rfl,rfl,rfl,rfl,rfl,AH.nil,[],[],ek,bt,et,en,aA _,aA _⟩ ?_ ?_⟩
 .rintro _ _ i σ Hx hi ⟨o,kb,z6,z7,z8,rfl,ex,a7,a6,elp,ah,as,NM,js,hSx,hax,hqx,lN,lA⟩;have ge:i<20:=by lia
  exists (exI rfl (xb rfl rfl (exI rfl ⟨a,q,J,_,_,rfl,hSx,⋯,hqx,λda d H1 I dg=>?_⟩)));have ap:=js.same I;refine⟨_,rfl,_,rfl,_,rfl,_,rfl,kb,da,ah.bk,as.map AH.bk,d,NM,by rw[a7,a6,elp],ap.bk,ap.bo ah (aw ..),⋯,by rw[aa];lia,dg,λqd v H2 k' b' t' wd gs fe ft ab e1 e2 e3 ad e8 an fr=>?_⟩;obtain⟨v2,dy⟩:=ap.done ab ad;have db:=ap.bk.dl;have fm:=dc_bk ap.bk;have ez:SqL K H2 a (J.map V.int):=fm.sql ab (I.sql hSx) (hax.imp id λz=>z.2);have eq:=(hqx.same I).kb db ab;have fi:=dg.kb db ab;refine⟨_,rfl,_,rfl,o,da,ah,as,d,NM,by rw[ex],v2,fi,ap.bo ah (aw ..),⋯,by rw[js.ln];lia,js.ln,λq2 w2 H3 dp o' go dt gp cg v3 gu ed eH=>?_⟩;obtain⟨rfl,rfl,⟨a',s',rfl,ej,ls⟩,ox,od,ch,kc,c9,fl⟩:=xz6 v2 ft dy ap.bo js.ln fe cg v3;have ey:SqL K H3 a (J.map V.int):=fl.sql kc ez (hax.imp id λz=>z.1);have eo:=eq.kb c9 kc;have e6:=c9.tup kc e8;have s4:Same H3 dp:=by rw[eH];exact Same.upd ed
  have f4:dp q2=some (.tup [.str dt,w2]):=by rw[eH];exact qb
  have e5:=s4 _ _ e6;refine exX rfl rfl (SqT.of f4) rfl (exI rfl (exX rfl rfl (SqT.of e5) rfl ⟨rfl,_,rfl,qvj (λz=>absurd rfl z) (λ_=>?_)⟩));refine⟨o',k',_,_,_,rfl,ox.trans ex,e1.trans a7,e2.trans a6,e3.trans elp,a',s',d.nm::NM,ej.same s4,s4.sql ey,?_,eo.same s4,by rw[aC];lia,⋯⟩;rw[od,e3];exact hax
 .rintro σ Hx ⟨o,kb,z6,z7,z8,rfl,ex,a7,a6,elp,ah,as,NM,js,hSx,hax,hqx,lN,lA⟩;have gd:(3+r0).toNat<=19:=by lia
  obtain⟨bo,nl⟩:=(js.bo ah (aw ..)).good;have Z:(NM.filter λn=>zj n).length<60:=by have:=bF (λn=>zj n) NM;lia
  generalize (NM.filter λn=>zj n)=NG at bo nl Z;subst a7 a6 ex;subst i7;exists (exI rfl ⟨kb.dr,kb.dw,kb.R,kb.W,ah.bk,NG,rfl,js.bk.b2,bo,Z,nl,λH1 p U ps I vp np b9 eb b7=>?_⟩);have st:S9 qq qg qz H1 o p (ah::as) (U::ps) kb.dr kb.dw kb.R kb.W ah.bk:=⟨js.v.same I,vp,wjj js.v np b9,(js.bk.b2.same I).br,xz4 js.sp,wjw np js.bk.b2.r js.bk.b2.w⟩;have cc:Nam NG ah:=AOk.bk bo;refine⟨λσ Hy=>∃p U ps,S9 qq qg qz Hy o p (ah::as) (U::ps) kb.dr kb.dw kb.R kb.W ah.bk/\U.bk=ah.bk/\p.ds.length<=200/\SqL K Hy a (J.map V.int)/\σ=(stM a q o.x kb.dr kb.dw G z6 z7 z8 (some (.ref p.x)) none none none none),?_,?_⟩
  .exists ⟨a,J,_,_,_,rfl,I.sql hSx,⋯,⋯,⋯,⋯,λr _ f1 f0=>⟨rfl,_,rfl,v9 (λ_=>?_) λ_=>⟨p,U,ps,st,eb,b7,I.sql hSx,rfl⟩⟩⟩;exists ⟨o,ah,as,NG,rfl,st.v,cc,Z,nl,λH2 ms1 ms2 s2 S1 S2=>?_⟩;refine⟨ah.bk,NG,ms1,ms2,rfl,⟨bo,Z,nl,S1,S2⟩,λH3 p3 a3 s3 v3 n3 e3 e4=>?_⟩;have a9:=st.same s2;refine⟨p3,a3,[],⟨(a9.same s3).v,v3,wjj a9.v n3 (λq hq=>by rw[e3]at hq;exact absurd hq af),(a9.same s3).br,st.fo,?_⟩,e4.bk,by rw[e3];exact aA _,((I.trans s2).trans s3).sql hSx,rfl⟩;have b2:=js.bk.b2.same (I.trans s2);exact wjw n3 b2.r b2.w
  clear st vp np b9 eb b7 I;rintro σ Hy ⟨p,U,ps,st,eb,b7,hSy,rfl⟩;refine c5 λja jb jc jd je ya yb yc yd ye=>?_;subst ya;have ef:Nam NG U:=AOk.bk (by rw[eb];exact bo);exists ⟨o,ah,as,NG,rfl,st.v,cc,Z,nl,λH2 ms1 ms2 s2 S1 S2=>?_⟩;exists ⟨p,U,ps,NG,rfl,(st.same s2).vp,ef,Z,nl,λH3 ec d5 s3 R1 R2=>?_⟩;rw[eb]at R1 R2 ⊢;rw[SrtN.uniq R1 S1,SrtN.uniq R2 S2];refine⟨rfl,_,rfl,wjx rfl ?_⟩;have a8:=st.same (s2.trans s3);subst yb;exists ⟨kb.dw,kb.W,rfl,a8.br.w,λo7 H7 a4=>?_⟩;have k7:Kb [kb.dr,kb.dw] H3 H7:=λy u ny e=>by rw[a4.2 y (λz=>ny (by rw[z];simp))];exact e
  have bl:=a8.ch k7 (wjg a8.br.r (ch:=[kb.dw]) (λy u ny e=>by rw[a4.2 y (by simpa using ny)];exact e) (by simpa using a8.br.ne)) (.inr ⟨_,a4.1⟩);have bt:=sql_ch a8.br k7 ((s2.trans s3).sql hSy);have ct:∀(j:Nat) (c:Key×V),kb.W[j]?=some c->∃n,c.1=.inr n/\(ah.bk.ws n).isSome=true:=λj c hc=>by
   have bp:=bl.br.bp;have ev:=jq bp.nW (aK hc);obtain⟨n,_,es,_⟩:=bp.fW _ _ ev;refine⟨n,es,?_⟩;cases e:ah.bk.ws n with
   |none=>rw[es,bp.noW e]at ev;cases ev
   |some u=>rfl
  refine wzz (λ_ σ Hz=>∃z1 z2,Same H7 Hz/\σ=(stM a q o.x kb.dr kb.dw G z6 z7 z8 (some (.ref p.x)) z1 z2 none none)) ⟨_,_,Same.refl _,rfl⟩ (λi σ Hz _ h=>by obtain⟨_,_,h,_⟩:=h;exact h _ _ a4.1) ?_ ?_
  .rintro i c σ Hz hc ⟨z1,z2,sz,rfl⟩;obtain⟨n,es,hn⟩:=ct i c hc;rw[es];exists ⟨kb.dw,kb.W,o7,rfl,sz _ _ a4.1,wzz (λ_ σ Hw=>∃z2,Same H7 Hw/\σ=(stM a q o.x kb.dr kb.dw G z6 z7 z8 (some (.ref p.x)) (some (.str n)) z2 none none)) ⟨_,sz,rfl⟩ (λi σ Hz _ h=>by obtain⟨_,h,_⟩:=h;exact h _ _ a4.1) ?_ ?_⟩
   .rintro i2 c2 σ Hw hc2 ⟨z2,sw,rfl⟩;obtain⟨n2,fa,c0⟩:=ct i2 c2 hc2;rw[fa];exists (exI rfl (exI rfl ⟨o,ah,as,n,n2,rfl,(bl.same sw).v,hn,c0,λv1 Hu cr su=>?_⟩));refine⟨_,rfl,_,rfl,_,rfl,p,U,ps,n,n2,rfl,(bl.same (sw.trans su)).vp,by rw[eb];exact hn,by rw[eb];exact c0,λv2 Hv cq sv=>?_⟩;rw[eb]at cq;obtain rfl:=cr.uniq cq;exact⟨cr.scal,_,rfl,wjx rfl ⟨_,(sw.trans su).trans sv,rfl⟩⟩
   .rintro σ Hw ⟨z2,sw,rfl⟩;exact⟨_,_,sw,rfl⟩
  rintro σ H8 ⟨z1,z2,s8,rfl⟩;have bf:=bl.same s8;have ew:=s8.sql bt;subst yc;exists ⟨a,J,exI rfl ⟨ew,⋯,λrc _=>?_⟩⟩;refine xb rfl rfl ⟨⟨⋯,⋯⟩,xb rfl rfl (xb rfl rfl ⟨(show(0:Int)<10 ^ (60:Int).toNat+1 by decide +kernel),?_⟩)⟩;dsimp only;have bm:=bI rc (show(10:Int) ^ (60:Int).toNat+1≠0 by decide +kernel);have cp:=bO rc (show(0:Int)<(10:Int) ^ (60:Int).toNat+1 by decide +kernel);rw[show(10:Int) ^ (60:Int).toNat+1=1000000000000000000000000000000000000000000000000000000000001 by decide +kernel]at bm cp ⊢;generalize rc%1000000000000000000000000000000000000000000000000000000000001=my at bm cp;have co:my<=qyk:=by unfold qyk;lia
  subst yd;exists ⟨kb.dr,kb.R,rfl,bf.br.r,λo9 H9 b0=>?_⟩;have k9:Kb [kb.dr,kb.dw] H8 H9:=λy u ny e=>by rw[b0.2 y (λz=>ny (by rw[z];simp))];exact e
  have bb:=bf.ch k9 (.inr ⟨_,b0.1⟩) (wjg bf.br.w (ch:=[kb.dr]) (λy u ny e=>by rw[b0.2 y (by simpa using ny)];exact e) (by simpa using bf.br.ne.symm));have lR:kb.R.length<60:=by
   have:=Wy (kb.R.map yg) NG (yr bb.br.bp.nR bb.br.bp.fR).2 λn hn=>by obtain⟨hs,e⟩:=az.mp ((bb.br.bp.rnames n).mp hn);exact(bo.lo n hs e).2.2
   rw[aa]at this;lia
  refine xz3 (λi σ Hz=>∃z,I59 qq qg qz o.x p.x kb.dr kb.dw kb.R kb.W ah.bk NG o9 i Hz/\σ=(stM a q o.x kb.dr kb.dw G z6 z7 z8 (some (.ref p.x)) z1 z2 (some (.int my)) z)) ⟨_,⟨o,p,ah,as,U,ps,bb,eb,rfl,bo,rfl,rfl,by rw[js.ln];lia,⋯,b0.1⟩,rfl⟩ (λi σ Hz _ h=>by obtain⟨_,⟨_,_,_,_,_,_,_,_,_,_,_,_,_,_,h⟩,_⟩:=h;exact h) ?_ ?_
  .rintro _ _ i c σ Hz hc ⟨z13,⟨o1,p1,a1,as1,pa1,ps1,st,e1,e2,b1,ex,ep,l1,l2,fz⟩,rfl⟩;have hi:i<kb.R.length:=(aI.mp hc).1;obtain⟨n,es,hs,er⟩:=st.br.bp.rkey hc;have b8:a1.rs n=some hs:=(congrFun e2 n).trans er;have fb:pa1.rs n=some hs:=(congrFun (bu BA.rs e1) n).trans b8;rw[es,<-ex,<-ep];obtain⟨dx,hx⟩:=st.v.h.hs.ob;exists ⟨o1.x,dx,exI rfl ⟨hx,xt,exI rfl (exI rfl ?_)⟩⟩;dsimp only [jv,y0,tC];refine st.v.togK (AOk.bk b1) Z ⋯ (λs w e=>(b1.wo s _ (Y6 e)).1) b8 ⟨bm,co⟩ λl H1 o2 a2 ea nx v2 bs ci an=>?_;have a0:=st.nxt (Same.refl _) nx v2 bs;obtain⟨fc,el⟩:=a0.vp.h.hs.ob;exists ⟨p1.x,fc,exI rfl ⟨el,xt,exI rfl (exI rfl ?_)⟩⟩;dsimp only [jv,y0,tC];have b2:BOk NG pa1.bk:=by rw[e1];exact b1
   refine a0.vp.togK (AOk.bk b2) Z ⋯ (λs w e=>(b2.wo s _ (Y6 e)).1) fb ⟨bm,co⟩ λl' H2 p2 d4 c8 b5 v3 ab f2 dk=>?_;have a9:=(a0.symm.nxt (Same.refl _) b5 v3 ab).symm;rw[e1]at dk c8;refine xzy ((dc_ho a0.vp.h).ans a0.vp.h.dl ab an (λy e=>by cases e;exactλz=>by rw[z,st.vp.h.hs.d]at ci;cases ci)) dk (exI rfl (yz ?_));obtain⟨S,a7,_⟩:=nx.ds;obtain⟨O,a6,_⟩:=b5.ds;exact⟨_,⟨o2,p2,a2,_,d4,_,a9,by rw[ea,c8],by rw[ea];exact e2,by rw[ea];exact b1.tog b8 _,nx.x,b5.x,by rw[a7,aC];lia,by rw[a6,aC];lia,ab _ _ a0.fp.not.1 (bs _ _ st.fo.not.1 fz)⟩,rfl⟩
  .rintro σ Hz ⟨z13,⟨o1,p1,a1,as1,pa1,ps1,st,e1,e2,b1,ex,ep,l1,l2,fz⟩,rfl⟩;rw[<-ex,<-ep];have b2:BOk NG pa1.bk:=by rw[e1];exact b1
   subst ye;exists ⟨o1,a1,as1,NG,rfl,st.v,AOk.bk b1,Z,nl,λH2 ms1 ms2 s2 S1 S2=>?_⟩;exists ⟨p1,pa1,ps1,NG,rfl,(st.same s2).vp,AOk.bk b2,Z,nl,λH3 ec d5 s3 R1 R2=>?_⟩;rw[e1]at R1 R2 ⊢;rw[SrtN.uniq R1 S1,SrtN.uniq R2 S2];refine⟨rfl,?_⟩;rw[aT rfl];exact k _
end
section
theorem all_mk {l:PySem.W.OpenLaw}{w:Ah}{K:Aa}{h:Heap}{mg:Str->Option Ag}{fa:Aj}{qr:Aj}{qh:Aj}{qx:Aj}{qp:Aj}{qu:Aj}{wz:Aj}{wu:Aj}{qm:Aj}{wj:Aj}{q8:Aj}{qj:Aj}{wy:Aj}{wf:Aj}{qw:Aj}{wv:Aj}{qg:Aj}{qz:Aj}{qq:Aj}{zh0:Tok}{zh1:Tok}{zh2:Tok}{zh3:Tok}{zh4:Tok}{zh5:Tok}{zh6:Tok}{zh7:Tok}(X:K.In h)(G:h.Ns mainGlobals mg)(hfa:mg "law" = some (.ref fa))(zdw:DefIn K "_law_cell" zcr)(zdx:DefIn K "_law_pick" zcs)(zdy:DefIn K "check_bottom" zbf)(zdz:DefIn K "common_divisor" zbg)(zd0:DefIn K "lowest" zbh)(zd1:DefInD K "check_count" za4)(zd2:DefIn K "is_line" zbn)(zd3:DefIn K "trace" zbj)(zd4:DefIn K "spot" zbk)(zd5:DefIn K "led_to" zbl)(zd6:DefIn K "less" zbi)(zd7:DefIn K "set_down" zbw)(zd8:DefIn K "is_name" zbx)(zd9:DefIn K "check_new_name" zby)(zea:DefIn K "exchange" zbz)(zeb:DefIn K "_law_step" zc1)(zec:DefIn K "_law_trace" zc2)(zed:DefIn K "_law_after" zc3)(zee:DefIn K "_law_common" zcz)(zef:DefIn K "_law_low" zc0)(zeg:DefIn K "_law_names" zct)(zeh:DefIn K "_law_line" zcu)(zei:DefIn K "_law_steps" zcv)(zej:DefIn K "_law_named" zcw)(zek:DefIn K "_law_deed" za1)(zel:DefIn K "_law_good_name" zcx)(zem:DefIn K "_law_good_line" zcy)(zen:DefIn K "_law_named_new" zc4)(zeo:DefIn K "_law_changed" zc5)(zep:DefIn K "_law_beyond" za5)(zeq:DefIn K "_law_gone" zc8)(zer:DefIn K "_law_roads_done" zc6)(zes:DefIn K "_law_set" zc7)(zet:DefIn K "_law_walkers_done" zc9)(zeu:DefIn K "_law_done" zda)(zev:DefIn K "_law_run" zdb)(zew:DefIn K "_law_told" zdc)(zex:DefIn K "meeting" zbm)(zey:DefIn K "_law_meet" zdd)(zez:DefIn K "road_row" zck)(ze0:DefIn K "walker_row" zcl)(ze1:DefIn K "house_text" zcm)(ze2:DefIn K "number_of" zcn)(ze3:DefIn K "take_in" zco)(ze4:DefIn K "house_of" zcp)(ze5:DefIn K "read_house" zcq)(ze6:DefIn K "_law_afresh" zde)(ze7:DefIn K "law" zdm)(ze8:PySem.W.nsIn K mainGlobals "RoadError" = some (some (.ref qr)))(zdf:↑(qr))(ze9:PySem.W.nsIn K mainGlobals "BadLine" = some (some (.ref qh)))(zad:↑(qh))(zfa:PySem.W.nsIn K mainGlobals "BadBottom" = some (some (.ref qx)))(zaj:↑(qx))(zfb:PySem.W.nsIn K mainGlobals "OffRoad" = some (some (.ref qp)))(zal:↑(qp))(zfc:PySem.W.nsIn K mainGlobals "BadCount" = some (some (.ref qu)))(zam:↑(qu))(zfd:PySem.W.nsIn K mainGlobals "TooLong" = some (some (.ref wz)))(za6:↑(wz))(zfe:PySem.W.nsIn K mainGlobals "BadRow" = some (some (.ref wu)))(za7:↑(wu))(zff:PySem.W.nsIn K mainGlobals "BadName" = some (some (.ref qm)))(zac:↑(qm))(zfg:PySem.W.nsIn K mainGlobals "Taken" = some (some (.ref wj)))(zae:↑(wj))(zfh:PySem.W.nsIn K mainGlobals "NoRoad" = some (some (.ref q8)))(zaf:↑(q8))(zfi:PySem.W.nsIn K mainGlobals "NoWalker" = some (some (.ref qj)))(zah:↑(qj))(zfj:PySem.W.nsIn K mainGlobals "Stood" = some (some (.ref wy)))(zai:↑(wy))(zfk:PySem.W.nsIn K mainGlobals "Apart" = some (some (.ref wf)))(za2:↑(wf))(zfl:PySem.W.nsIn K mainGlobals "NothingDone" = some (some (.ref qw)))(zao:↑(qw))(zfm:PySem.W.nsIn K mainGlobals "BadText" = some (some (.ref wv)))(zap:↑(wv))(zfn:PySem.W.nsIn K mainGlobals "Road" = some (some (.ref qg)))(zfo:PySem.W.plainGet K qg Str.empty=true)(zfp:PySem.W.hasDictIn K qg=true)(zfq:PySem.W.plainOver K qg=true)(zfr:PySem.W.findIn K (.ref qg) "__setattr__" = some (some (.builtin "object.__setattr__")))(zfs:PySem.W.makesIn K qg=true)(zft:PySem.W.keepIn K (.ref qg)=true)(zfu:MethIn K qg "__init__" "Road.__init__" zbo)(zfv:MethIn K qg "width" "Road.width" zbp)(zfw:MethIn K qg "ends" "Road.ends" zbr)(zfx:MethIn K qg "corners" "Road.corners" zbq)(zfy:MethIn K qg "on_road" "Road.on_road" zbs)(zfz:MethIn K qg "at" "Road.at" zbt)(zf0:PySem.W.nsIn K mainGlobals "Walker" = some (some (.ref qz)))(zf1:PySem.W.plainGet K qz Str.empty=true)(zf2:PySem.W.hasDictIn K qz=true)(zf3:PySem.W.plainOver K qz=true)(zf4:PySem.W.findIn K (.ref qz) "__setattr__" = some (some (.builtin "object.__setattr__")))(zf5:PySem.W.makesIn K qz=true)(zf6:PySem.W.keepIn K (.ref qz)=true)(zf7:MethIn K qz "__init__" "Walker.__init__" zbu)(zf8:MethIn K qz "gone" "Walker.gone" zbv)(zf9:PySem.W.nsIn K mainGlobals "House" = some (some (.ref qq)))(zga:PySem.W.plainGet K qq Str.empty=true)(zgb:PySem.W.hasDictIn K qq=true)(zgc:PySem.W.plainOver K qq=true)(zgd:PySem.W.findIn K (.ref qq) "__setattr__" = some (some (.builtin "object.__setattr__")))(zge:PySem.W.makesIn K qq=true)(zgf:PySem.W.keepIn K (.ref qq)=true)(zgg:MethIn K qq "__init__" "House.__init__" zb0)(zgh:MethIn K qq "road_called" "House.road_called" zb1)(zgi:MethIn K qq "walker_called" "House.walker_called" zb2)(zgj:MethIn K qq "do" "House.do" zb4)(zgk:MethIn K qq "lay" "House.lay" zb5)(zgl:MethIn K qq "corners_of" "House.corners_of" zch)(zgm:MethIn K qq "take_back" "House.take_back" zce)(zgn:MethIn K qq "bend" "House.bend" zb6)(zgo:MethIn K qq "widen" "House.widen" zb7)(zgp:MethIn K qq "where" "House.where" zci)(zgq:MethIn K qq "place" "House.place" zca)(zgr:MethIn K qq "go" "House.go" zcc)(zgs:MethIn K qq "walkers_on" "House.walkers_on" zb3)(zgt:MethIn K qq "narrow" "House.narrow" zb8)(zgu:MethIn K qq "names" "House.names" zcg)(zgv:MethIn K qq "together" "House.together" zcd)(zgw:MethIn K qq "leave" "House.leave" zcb)(zgx:MethIn K qq "clear" "House.clear" zb9)(zgy:MethIn K qq "meet" "House.meet" zcj)(zgz:MethIn K qq "forget" "House.forget" zcf)(zg0:PySem.W.findIn K (.ref qg) "heights" = some none)(zg1:PySem.W.findIn K (.ref qz) "whose" = some none)(zg2:PySem.W.findIn K (.ref qz) "point" = some none)(zg3:PySem.W.findIn K (.ref qz) "times" = some none)(zg4:PySem.W.findIn K (.ref qq) "roads" = some none)(zg5:PySem.W.findIn K (.ref qq) "walkers" = some none)(zg6:PySem.W.findIn K (.ref qq) "done" = some none)(zaq:PySem.W.nsIn K mainGlobals "WIDEST" = some (some (.int 24 zh0)))(zar:PySem.W.nsIn K mainGlobals "LONGEST_TRACE" = some (some (.int 1000 zh1)))(zak:PySem.W.nsIn K mainGlobals "FARTHEST" = some (some (.int 1000000000000000000000000000000000000000000000000000000000000 zh2)))(zas:PySem.W.nsIn K mainGlobals "LONGEST_NAME" = some (some (.int 12 zh3)))(zat:PySem.W.nsIn K mainGlobals "GREATEST_BOTTOM" = some (some (.int 40 zh4)))(zau:PySem.W.nsIn K mainGlobals "LETTERS" = some (some (.str "abcdefghijklmnopqrstuvwxyz" zh5)))(zav:PySem.W.nsIn K mainGlobals "LONGEST_NUMBER" = some (some (.int 3 zh6)))(zaw:PySem.W.nsIn K mainGlobals "FIGURES" = some (some (.str "0123456789" zh7)))(o1:PySem.W.findIn K (.ref qq) "__class__" = some (some (.builtin "object.__class__")))(o2:PySem.W.specialIn K (.builtin "object.__class__") "__get__" = some (some (.builtin "getset_descriptor.__get__")))(o3:PySem.W.takesIn K (.builtin "object.__class__")=some true)(o4:PySem.W.mroIn K qq (.type "object")=some true)(ms:mR K wj qm/\mR K qh qm/\mR K qh wj/\mR K q8 qm/\mR K q8 wj/\mR K q8 qh/\mR K qj qm/\mR K qj wj/\mR K qj qh/\mR K qj q8/\mR K wy qm/\mR K wy wj/\mR K wy qh/\mR K wy q8/\mR K wy qj/\mR K qx qm/\mR K qx wj/\mR K qx qh/\mR K qx q8/\mR K qx qj/\mR K qx wy/\mR K qp qm/\mR K qp wj/\mR K qp qh/\mR K qp q8/\mR K qp qj/\mR K qp wy/\mR K qp qx/\mR K qu qm/\mR K qu wj/\mR K qu qh/\mR K qu q8/\mR K qu qj/\mR K qu wy/\mR K qu qx/\mR K qu qp/\mR K qw qm/\mR K qw wj/\mR K qw qh/\mR K qw q8/\mR K qw qj/\mR K qw wy/\mR K qw qx/\mR K qw qp/\mR K qw qu)(zg7:PySem.W.nsIn K mainGlobals "tuple" = some none)(zg8:PySem.W.nsIn K mainGlobals "len" = some none)(zg9:PySem.W.nsIn K mainGlobals "abs" = some none)(zha:PySem.W.nsIn K mainGlobals "range" = some none)(zhb:PySem.W.nsIn K mainGlobals "list" = some none)(zhc:PySem.W.nsIn K mainGlobals "min" = some none)(zhd:PySem.W.nsIn K mainGlobals "max" = some none)(zhe:PySem.W.nsIn K mainGlobals "all" = some none)(zhf:PySem.W.nsIn K mainGlobals "any" = some none)(zhg:PySem.W.nsIn K mainGlobals "sorted" = some none)(zhh:PySem.W.nsIn K mainGlobals "enumerate" = some none)(zhi:PySem.W.nsIn K mainGlobals "dict" = some none)(zhj:PySem.W.nsIn K mainGlobals "isinstance" = some none)(zhk:PySem.W.nsIn K mainGlobals "int" = some none)(zhl:PySem.W.nsIn K mainGlobals "bool" = some none)(zhm:PySem.W.nsIn K mainGlobals "str" = some none) :
  ∃fd:Ad,(∀(s:Ab) (v:Ag),BindsTo s fd ⟨[v],[]⟩ [("_law_script",v)])/\∀base:Heap,K.In base->base.Ns mainGlobals mg->FnOk l.prog w K mg base (CXE l.prog w) 11 fa fd ["_law_script"] (wv9 K):=by
 have T:Txt K mg qr qh qx qp qu wz wu qm wj q8 qj wy wf qw wv qg qz qq:=⟨bd X G zg7,bd X G zg8,bd X G zg9,bd X G zha,bd X G zhb,bd X G zhc,bd X G zhd,bd X G zhe,bd X G zhf,bd X G zhg,bd X G zhh,bd X G zhi,bd X G zhj,bd X G zhk,bd X G zhl,bd X G zhm,aP X G ze8,⟨zdf⟩,aP X G ze9,⟨zad⟩,aP X G zfa,⟨zaj⟩,aP X G zfb,⟨zal⟩,aP X G zfc,⟨zam⟩,aP X G zfd,⟨za6⟩,aP X G zfe,⟨za7⟩,aP X G zff,⟨zac⟩,aP X G zfg,⟨zae⟩,aP X G zfh,⟨zaf⟩,aP X G zfi,⟨zah⟩,aP X G zfj,⟨zai⟩,aP X G zfk,⟨za2⟩,aP X G zfl,⟨zao⟩,aP X G zfm,⟨zap⟩,⟨zfo,zfp,zfq,zfr⟩,zg0,⟨zh0,aP X G zaq⟩,aP X G zfn,⟨zf1,zf2,zf3,zf4⟩,⟨zga,zgb,zgc,zgd⟩,zg1,zg2,zg3,zg4,zg5,zg6,aP X G zf0,aP X G zf9,⟨zh1,aP X G zar⟩,⟨zh2,aP X G zak⟩,⟨zh3,aP X G zas⟩,⟨zh4,aP X G zat⟩,⟨zh5,aP X G zau⟩,ms,⟨o1,o2,o3,o4⟩,⟨zh6,aP X G zav⟩,⟨zh7,aP X G zaw⟩⟩;obtain⟨f,fd,a,F⟩:=ze7.ex;have e:=hfa.symm.trans (aP X G a);cases e;refine⟨fd,λs v=>?_,λbase kb nb=>?_⟩
 .obtain⟨oc,od,kV,ei,pm,an,cdv,ct,eg,rfl,lk,eh⟩:=F.ex;exact .of_eq rfl
 .have c1:Cal l.prog w K mg base "_law_cell" 1 (qz5 K):=zdw.cal X G qj4 λf fd F=>xku T F;have c2:Cal l.prog w K mg base "_law_pick" 2 (W8 K):=zdx.cal X G wqv λf fd F=>xvf T F c1;have c3:Cal l.prog w K mg base "check_bottom" 1 (qw1 qx):=zdy.cal X G qwd λf fd F=>xw8 T F;have c4:Cal l.prog w K mg base "common_divisor" 1 qj2:=zdz.cal X G Jv λf fd F=>zik T F;have c5:Cal l.prog w K mg base "lowest" 2 (Zq qx):=zd0.cal X G wy4 λf fd F=>wyb T F c3 c4;have c6:CalD l.prog w K mg base "check_count" 1 (qw8 qu):=zd1.cal X G qvb qx7 λf fd F=>wu5 T F;have c7:Cal l.prog w K mg base "is_line" 1 (qz1 K):=zd2.cal X G wvm λf fd F=>wvx T F;have O:CCal l.prog w K mg base "Road" qg 2 (Yj K qh qg):=zfu.ccal T.zig zfs zft qqf λf fd F=>xzn T F c7;have L:MCal l.prog w K mg base qg "width" 1 (Zy qg):=zfv.cal qkz λf fd F=>wu6 T F;have ef:MCal l.prog w K mg base qg "ends" 2 (wvn qg wu):=zfw.cal qyg λf fd F=>xvw T F L;have U:MCal l.prog w K mg base qg "corners" 1 (u6 qg):=zfx.cal qq9 λf fd F=>wz5 T F;have ap:MCal l.prog w K mg base qg "on_road" 3 (Wt K qg qx qp):=zfy.cal qwf λf fd F=>wvk T F L c5;have ed:MCal l.prog w K mg base qg "at" 4 (spAt K qg qx qp):=zfz.cal wvb λf fd F=>zio T F L c5 ef ap;have bb:Cal l.prog w K mg base "trace" 5 (qxq qg wz):=zd3.cal X G xw1 λf fd F=>xwc T F ed;have a9:Cal l.prog w K mg base "spot" 1 qy8:=zd4.cal X G xvr λf fd F=>xkv T F;have ec:Cal l.prog w K mg base "led_to" 1 xxm:=zd5.cal X G wyg λf fd F=>ziw T F;have eb:Cal l.prog w K mg base "less" 2 (wzg K qx):=zd6.cal X G xzj λf fd F=>xz0 T F c3;have a8:CCal l.prog w K mg base "Walker" qz 1 (Ju qz):=zf7.ccal T.zih zf5 zf6 Z1 λf fd F=>xq7 T F;have ea:Cal l.prog w K mg base "set_down" 3 (qqm qz):=zd7.cal X G wxy λf fd F=>ww5 T F a8;have a7:MCal l.prog w K mg base qz "gone" 6 (qyu qz qg):=zf8.cal qxh λf fd F=>xv4 T F bb ec a9 a8;have d9:Cal l.prog w K mg base "is_name" 1 qzt:=zd8.cal X G wz9 λf fd F=>wvt T F;have a6:Cal l.prog w K mg base "check_new_name" 2 (Zu qm wj):=zd9.cal X G Y8 λf fd F=>wxj T F d9;have a4:Cal l.prog w K mg base "exchange" 1 qy9:=zea.cal X G wxt λf fd F=>xvy T F;have ah:CCal l.prog w K mg base "House" qq 1 (Jn qq):=zgg.ccal T.zii zge zgf Jr λf fd F=>xqj T F;have J:MCal l.prog w K mg base qq "road_called" 1 (v6 qq q8 true):=zgh.cal Zk λf fd F=>qzc T F;have S:MCal l.prog w K mg base qq "walker_called" 1 (v6 qq qj false):=zgi.cal Wb λf fd F=>qqv T F;have I:MCal l.prog w K mg base qq "do" 2 (Jy qq):=zgj.cal wq3 λf fd F=>ziu T F a4;have ad:MCal l.prog w K mg base qq "lay" 4 (qx2 K qq qg qm wj qh):=zgk.cal wqc λf fd F=>ziv T F a6 O I;have d5:MCal l.prog w K mg base qq "corners_of" 2 (Ws qq qg q8):=zgl.cal Zg λf fd F=>qvt T F J U;have d4:MCal l.prog w K mg base qq "take_back" 2 (qzn qq qw):=zgm.cal Yx λf fd F=>xvu T F a4;have d2:MCal l.prog w K mg base qq "bend" 4 (wqk qq qg q8 qh):=zgn.cal qv3 λf fd F=>xx6 T F J U O I;have d1:MCal l.prog w K mg base qq "widen" 4 (qw6 qq qg q8 qh):=zgo.cal qzk λf fd F=>xx5 T F J U O I;have d0:MCal l.prog w K mg base qq "where" 2 (qud qq qz qj):=zgp.cal qzx λf fd F=>xxw T F S;have ab:MCal l.prog w K mg base qq "place" 5 (Ww K qq qg qz qm wj q8 qx qp):=zgq.cal qvd λf fd F=>xxq T F a6 J c5 ap ea I;have dy:MCal l.prog w K mg base qq "go" 8 (spGo qq qg qz qj qu):=zgr.cal wwf λf fd F=>ziz T F S c6 a7 I;have Z:MCal l.prog w K mg base qq "walkers_on" 1 (spOn qq qz):=zgs.cal Zh λf fd F=>qkd T F;have dt:MCal l.prog w K mg base qq "narrow" 4 (Jw qq qg qz q8 qh wy):=zgt.cal qwk λf fd F=>wyt T F J U O L Z eb I;have dp:MCal l.prog w K mg base qq "names" 1 (qu9 qq):=zgu.cal qxt λf fd F=>wu1 T F;have a3:MCal l.prog w K mg base qq "together" 8 (qxs qq qg qz q8 qu):=zgv.cal Jf λf fd F=>wwj T F J c6 Z a7 I;have dl:MCal l.prog w K mg base qq "leave" 3 (qw3 qq qj):=zgw.cal qx3 λf fd F=>xqw T F S I;have dk:MCal l.prog w K mg base qq "clear" 3 (qw2 qq qz q8 wy):=zgx.cal qxr λf fd F=>xwr T F J Z I;have dg:Cal l.prog w K mg base "_law_step" 1 (wv4 K):=zeb.cal X G qub λf fd F=>xzm T F;have db:Cal l.prog w K mg base "_law_trace" 2 (qxy K):=zec.cal X G qkn λf fd F=>wyp T F dg;have da:Cal l.prog w K mg base "_law_after" 1 (wqx K):=zed.cal X G qv1 λf fd F=>xqd T F;have c0:Cal l.prog w K mg base "_law_common" 1 qj2:=zee.cal X G qvz λf fd F=>wj4 T F;have a2:Cal l.prog w K mg base "_law_low" 2 wjn:=zef.cal X G ww0 λf fd F=>zim T F c0;have cr:Cal l.prog w K mg base "_law_names" 3 (qz2 K):=zeg.cal X G qkp λf fd F=>wj9 T F c2;have cq:Cal l.prog w K mg base "_law_line" 3 (wvc K):=zeh.cal X G wqu λf fd F=>xzv T F c2;have cp:Cal l.prog w K mg base "_law_steps" 3 (wqd K):=zei.cal X G qvr λf fd F=>xwk T F c1 c2;have co:Cal l.prog w K mg base "_law_named" 3 (qu8 K):=zej.cal X G qkq λf fd F=>xw0 T F c2;have cj:Cal l.prog w K mg base "_law_deed" 4 (quf K):=zek.cal X G qy5 λf fd F=>wuy T F c2 co cq cp;have ci:Cal l.prog w K mg base "_law_good_name" 1 Yw:=zel.cal X G Jk λf fd F=>qyq T F;have cg:Cal l.prog w K mg base "_law_good_line" 1 Yy:=zem.cal X G Jq λf fd F=>wqb T F;have a1:Cal l.prog w K mg base "_law_named_new" 2 qj8:=zen.cal X G Jg λf fd F=>wqj T F ci;have cc:Cal l.prog w K mg base "_law_changed" 1 xx3:=zeo.cal X G qwh λf fd F=>wx6 T F;have b9:Cal l.prog w K mg base "_law_beyond" 1 xwp:=zep.cal X G qz6 λf fd F=>wy1 T F;have b8:Cal l.prog w K mg base "_law_gone" 3 (qys K):=zeq.cal X G quv λf fd F=>xqv T F db da a2;have b7:Cal l.prog w K mg base "_law_roads_done" 3 qur:=zer.cal X G Yk λf fd F=>wug T F a1 cg b9 cc;have b6:Cal l.prog w K mg base "_law_set" 3 xwn:=zes.cal X G wxd λf fd F=>zjg T F a1 a2;have b5:Cal l.prog w K mg base "_law_walkers_done" 4 qy6:=zet.cal X G W7 λf fd F=>xxx T F b6 b8;have b4:Cal l.prog w K mg base "_law_done" 5 wv8:=zeu.cal X G qux λf fd F=>xv0 T F b7 b5;have b3:Cal l.prog w K mg base "_law_run" 9 (xq2 qq qg qz (wcL qm wj qh q8 qj wy qx qp qu qw)):=zev.cal X G ww9 λf fd F=>zi1 T F ad d2 d1 dt dk ab dl dy a3;have b2:Cal l.prog w K mg base "_law_told" 10 (wzw qq qg qz):=zew.cal X G qy4 λf fd F=>xz5 T F d4 b3;have b1:Cal l.prog w K mg base "meeting" 6 (Jt K qg):=zex.cal X G wvg λf fd F=>wzy T F ap bb a9;have b0:MCal l.prog w K mg base qq "meet" 7 (wz2 qq qg qz qj wf):=zgy.cal qkb λf fd F=>xv9 T F S b1;have bt:Cal l.prog w K mg base "_law_meet" 8 (qyd qq qg qz):=zey.cal X G quq λf fd F=>wus T F b0;have bs:MCal l.prog w K mg base qq "forget" 1 (qzb qq qg qz):=zgz.cal qww λf fd F=>wyy T F;have br:Cal l.prog w K mg base "road_row" 3 (qqg qq qg qz):=zez.cal X G wxm λf fd F=>wqh T F d5;have bp:Cal l.prog w K mg base "walker_row" 3 (Zx qq qg qz):=ze0.cal X G qv8 λf fd F=>qku T F d0;have a0:Cal l.prog w K mg base "house_text" 4 (quw qq qg qz):=ze1.cal X G qvs λf fd F=>qv6 T F dp br bp;have bo:Cal l.prog w K mg base "number_of" 1 qyv:=ze2.cal X G qy3 λf fd F=>wqz T F;have bm:Cal l.prog w K mg base "take_in" 6 (Jd qq qg qz):=ze3.cal X G wv5 λf fd F=>wv1 T F ad ab bo;have bl:Cal l.prog w K mg base "house_of" 7 (Zb qq qg qz):=ze4.cal X G wx1 λf fd F=>wwb T F ah bm bs;have bk:Cal l.prog w K mg base "read_house" 8 (Zb qq qg qz):=ze5.cal X G qkx λf fd F=>qv4 T F bl a0;have bf:Cal l.prog w K mg base "_law_afresh" 6 (qzu qq qg qz):=ze6.cal X G qzj λf fd F=>wjs T F ah ad ab;exact zju T F c1 c2 cr ah cj b4 b2 bf bk a0 bt a3
theorem walk {l:PySem.W.OpenLaw}{q:Ac}{loose:List Str}{XP:(Str->Option Ag)->Heap->Prop}{YP:Ah->Heap->Prop}{d:DefRec}{K:Params->Aa}(hn:l.most=some 63)(hdf:d.params.defaults=[])(hY:∀(w:Ah) (h:Heap),YP w h->(K w.params).In h)(F:∀(w:Ah) (mg:Str->Option Ag) (fa:Aj) (h:Heap),(K w.params).In h->h.Ns mainGlobals mg->mg d.name=some (.ref fa) ->
   ∃fd:Ad,(∀(s:Ab) (u:Ag),BindsTo s fd ⟨[u],[]⟩ [("_law_script",u)])/\∀base:Heap,(K w.params).In base->base.Ns mainGlobals mg->FnOk l.prog w (K w.params) mg base (CXE l.prog w) 11 fa fd ["_law_script"] (wv9 (K w.params))) :
  PySem.W.WalkO q loose XP YP l.row.toRowW d [] (λf vs=>PySem.call f vs) :=
 L2.xkx (n:=63) (k:=11) (x := "_law_script") (CX:=λw=>CXE l.prog w) (sp:=λw=>wv9 (K w.params)) hn ⋯ hdf ⟨rfl,⋯,⋯⟩ hY F (λ_ _ a ns hl _ hS=>⟨a,ns,rfl,hS,hl,λ_=>rfl⟩) λ_ _ _ _ _ z=>CXE.no z
end
end My
open PySem PySem.W PyProof.Rows
local macro_rules | `(tactic| walk_at "def")=>`(tactic| (refine' L2.def_mk ?a ?l ?c ?k;(case a=>k_is);(case l=>k_is);(case c=>k_is);(case k=>k_is)))
local macro_rules | `(tactic| walk_at "defD")=>`(tactic| (refine' L2.xzh ?a ?l ?c ?k ?t;(case a=>k_is);(case l=>k_is);(case c=>k_is);(case k=>k_is);(case t=>k_is)))
local macro_rules | `(tactic| walk_at "meth")=>`(tactic| (refine' L2.xzf ?a ?i ?l ?c ?k;(case a=>k_is);(case i=>k_is);(case l=>k_is);(case c=>k_is);(case k=>k_is)))
section
open Lean
local macro_rules|`(universe $x*)=>do let mut r:=#[];for i in x do {let s:=i.getId.toString;let n:=((s.drop 1).toString.splitOn "_").map String.toNat!;for j in [n.head!:n.getLast!+1] do {r:=r.push (<-`(command|theorem $(mkIdent (.str `PySem.W.Fast s!"tw{(Name.str `PySem.Challenge.cw_crookroad_k59_whole_house_made_afresh_holds ((match s.front with|'h'=>"heap_"|'t'=>"tree_"|'v'=>"view_"|'s'=>"sts_"|'e'=>"env_"|_=>"o_")++toString j)).hash}")):ident:True:=trivial))}};return mkNullNode r
universe h39 h46 h974 t47 t70 t85 t100 t115 t130 t145 t160 t175 t190 t205 t220 t235 t250 t265 t316 t353 t425 t474 t481 t659 t740 t819 t901 t973 v39 o43_740 o744_973 s49 s71 s86 s101 s116 s131 s146 s161 s176 s191 s206 s221 s236 s251 s266 s317 s354 s426 s475 s482 s744 s820 s902 e41
end
theorem PySem.W.Fast.tw8588607706718267224:True:=trivial
theorem PySem.W.Fast.tw11221763577986443039:True:=trivial
set_option maxRecDepth 100000 in
set_option maxHeartbeats 0 in
set_option tactic.hygienic true
theorem PySem.Challenge.cw_crookroad_k59_whole_house_made_afresh_holds : PySem.Challenge.rw_crookroad_k59_whole_house_made_afresh.Holds := by
 w_on;o_law;k_head;(case hw=>w_witness2)
 k_fill
 refine My.walk (l:=PySem.Challenge.rw_crookroad_k59_whole_house_made_afresh) rfl rfl (fun w h Y=>PySem.W.kIn_of Y) ?F
 case F =>
  intro w mg fa h KX G hmg
  refine' My.all_mk KX G hmg ?zdw ?zdx ?zdy ?zdz ?zd0 ?zd1 ?zd2 ?zd3 ?zd4 ?zd5 ?zd6 ?zd7 ?zd8 ?zd9 ?zea ?zeb ?zec ?zed ?zee ?zef ?zeg ?zeh ?zei ?zej ?zek ?zel ?zem ?zen ?zeo ?zep ?zeq ?zer ?zes ?zet ?zeu ?zev ?zew ?zex ?zey ?zez ?ze0 ?ze1 ?ze2 ?ze3 ?ze4 ?ze5 ?ze6 ?ze7 ?ze8 ?zdf ?ze9 ?zad ?zfa ?zaj ?zfb ?zal ?zfc ?zam ?zfd ?za6 ?zfe ?za7 ?zff ?zac ?zfg ?zae ?zfh ?zaf ?zfi ?zah ?zfj ?zai ?zfk ?za2 ?zfl ?zao ?zfm ?zap ?zfn ?zfo ?zfp ?zfq ?zfr ?zfs ?zft ?zfu ?zfv ?zfw ?zfx ?zfy ?zfz ?zf0 ?zf1 ?zf2 ?zf3 ?zf4 ?zf5 ?zf6 ?zf7 ?zf8 ?zf9 ?zga ?zgb ?zgc ?zgd ?zge ?zgf ?zgg ?zgh ?zgi ?zgj ?zgk ?zgl ?zgm ?zgn ?zgo ?zgp ?zgq ?zgr ?zgs ?zgt ?zgu ?zgv ?zgw ?zgx ?zgy ?zgz ?zg0 ?zg1 ?zg2 ?zg3 ?zg4 ?zg5 ?zg6 ?zaq ?zar ?zak ?zas ?zat ?zau ?zav ?zaw ?o1 ?o2 ?o3 ?o4 ?ms ?zg7 ?zg8 ?zg9 ?zha ?zhb ?zhc ?zhd ?zhe ?zhf ?zhg ?zhh ?zhi ?zhj ?zhk ?zhl ?zhm
  (case zdw=>walk_at "def")
  (case zdx=>walk_at "def")
  (case zdy=>walk_at "def")
  (case zdz=>walk_at "def")
  (case zd0=>walk_at "def")
  (case zd1=>walk_at "defD")
  (case zd2=>walk_at "def")
  (case zd3=>walk_at "def")
  (case zd4=>walk_at "def")
  (case zd5=>walk_at "def")
  (case zd6=>walk_at "def")
  (case zd7=>walk_at "def")
  (case zd8=>walk_at "def")
  (case zd9=>walk_at "def")
  (case zea=>walk_at "def")
  (case zeb=>walk_at "def")
  (case zec=>walk_at "def")
  (case zed=>walk_at "def")
  (case zee=>walk_at "def")
  (case zef=>walk_at "def")
  (case zeg=>walk_at "def")
  (case zeh=>walk_at "def")
  (case zei=>walk_at "def")
  (case zej=>walk_at "def")
  (case zek=>walk_at "def")
  (case zel=>walk_at "def")
  (case zem=>walk_at "def")
  (case zen=>walk_at "def")
  (case zeo=>walk_at "def")
  (case zep=>walk_at "def")
  (case zeq=>walk_at "def")
  (case zer=>walk_at "def")
  (case zes=>walk_at "def")
  (case zet=>walk_at "def")
  (case zeu=>walk_at "def")
  (case zev=>walk_at "def")
  (case zew=>walk_at "def")
  (case zex=>walk_at "def")
  (case zey=>walk_at "def")
  (case zez=>walk_at "def")
  (case ze0=>walk_at "def")
  (case ze1=>walk_at "def")
  (case ze2=>walk_at "def")
  (case ze3=>walk_at "def")
  (case ze4=>walk_at "def")
  (case ze5=>walk_at "def")
  (case ze6=>walk_at "def")
  (case ze7=>walk_at "def")
  (case ze8=>k_is)
  (case zdf=>k_exc)
  (case ze9=>k_is)
  (case zad=>k_exc)
  (case zfa=>k_is)
  (case zaj=>k_exc)
  (case zfb=>k_is)
  (case zal=>k_exc)
  (case zfc=>k_is)
  (case zam=>k_exc)
  (case zfd=>k_is)
  (case za6=>k_exc)
  (case zfe=>k_is)
  (case za7=>k_exc)
  (case zff=>k_is)
  (case zac=>k_exc)
  (case zfg=>k_is)
  (case zae=>k_exc)
  (case zfh=>k_is)
  (case zaf=>k_exc)
  (case zfi=>k_is)
  (case zah=>k_exc)
  (case zfj=>k_is)
  (case zai=>k_exc)
  (case zfk=>k_is)
  (case za2=>k_exc)
  (case zfl=>k_is)
  (case zao=>k_exc)
  (case zfm=>k_is)
  (case zap=>k_exc)
  (case zfn=>k_is)
  (case zfo=>k_is)
  (case zfp=>k_is)
  (case zfq=>k_is)
  (case zfr=>k_is)
  (case zfs=>k_is)
  (case zft=>k_is)
  (case zfu=>walk_at "meth")
  (case zfv=>walk_at "meth")
  (case zfw=>walk_at "meth")
  (case zfx=>walk_at "meth")
  (case zfy=>walk_at "meth")
  (case zfz=>walk_at "meth")
  (case zf0=>k_is)
  (case zf1=>k_is)
  (case zf2=>k_is)
  (case zf3=>k_is)
  (case zf4=>k_is)
  (case zf5=>k_is)
  (case zf6=>k_is)
  (case zf7=>walk_at "meth")
  (case zf8=>walk_at "meth")
  (case zf9=>k_is)
  (case zga=>k_is)
  (case zgb=>k_is)
  (case zgc=>k_is)
  (case zgd=>k_is)
  (case zge=>k_is)
  (case zgf=>k_is)
  (case zgg=>walk_at "meth")
  (case zgh=>walk_at "meth")
  (case zgi=>walk_at "meth")
  (case zgj=>walk_at "meth")
  (case zgk=>walk_at "meth")
  (case zgl=>walk_at "meth")
  (case zgm=>walk_at "meth")
  (case zgn=>walk_at "meth")
  (case zgo=>walk_at "meth")
  (case zgp=>walk_at "meth")
  (case zgq=>walk_at "meth")
  (case zgr=>walk_at "meth")
  (case zgs=>walk_at "meth")
  (case zgt=>walk_at "meth")
  (case zgu=>walk_at "meth")
  (case zgv=>walk_at "meth")
  (case zgw=>walk_at "meth")
  (case zgx=>walk_at "meth")
  (case zgy=>walk_at "meth")
  (case zgz=>walk_at "meth")
  (case zg0=>k_is)
  (case zg1=>k_is)
  (case zg2=>k_is)
  (case zg3=>k_is)
  (case zg4=>k_is)
  (case zg5=>k_is)
  (case zg6=>k_is)
  (case zaq=>k_is)
  (case zar=>k_is)
  (case zak=>k_is)
  (case zas=>k_is)
  (case zat=>k_is)
  (case zau=>k_is)
  (case zav=>k_is)
  (case zaw=>k_is)
  (case o1=>k_is)
  (case o2=>k_is)
  (case o3=>k_is)
  (case o4=>k_is)
  (case ms=>refine⟨?_,?_,?_,?_,?_,?_,?_,?_,?_,?_,?_,?_,?_,?_,?_,?_,?_,?_,?_,?_,?_,?_,?_,?_,?_,?_,?_,?_,?_,?_,?_,?_,?_,?_,?_,?_,?_,?_,?_,?_,?_,?_,?_,?_,?_⟩<;>(unfold My.mR;k_is))
  (case zg7=>k_is)
  (case zg8=>k_is)
  (case zg9=>k_is)
  (case zha=>k_is)
  (case zhb=>k_is)
  (case zhc=>k_is)
  (case zhd=>k_is)
  (case zhe=>k_is)
  (case zhf=>k_is)
  (case zhg=>k_is)
  (case zhh=>k_is)
  (case zhi=>k_is)
  (case zhj=>k_is)
  (case zhk=>k_is)
  (case zhl=>k_is)
  (case zhm=>k_is)
